import PyProof.Rows.All
import Wide.All
import OpenK.AllK
import Wide.FinOn
import Lean
import PyProof.EqAt
import PyProof.EqKinds
import PyProof.TupleCall
import KE.KUnpack
import PyProof.ListRange
import PyProof.TupleOfGen
import PyProof.NeKinds
import KE.KRevIter
import PyProof.FactsAll.range_2
import KE.KTryMore
import PyProof.IsRules
import PyProof.IsInstanceH
import PyProof.ReprRoads
import PyProof.CallStr
import KE.KSortTup
import PyProof.FactsAll.tuple_2
import PyProof.Rows.ReprOcc
import PyProof.DictWalks
import PySem.Challenge.RW_roundwords_k48_meets_and_joins
set_option Elab.async false
set_option linter.all false
set_option maxRecDepth 100000
set_option maxHeartbeats 4000000
noncomputable section
local macro_rules|`(tactic|trivial)=>`(tactic|first|exact .inl rfl|exact .inr rfl|assumption)
local macro_rules|`(⋯)=>`((by rfl))
set_option hygiene false in
local macro_rules | `($a>=>$b) => `(@zde _ _ _ _ _ $a $b ⋯)
set_option hygiene false in
local macro_rules | `($a<=<$b) => `(@yf3 _ _ _ _ _ $a $b)
set_option hygiene false in
local macro_rules | `(~~~$a) => `(@yg7 _ _ _ $a)
set_option hygiene false in
local macro_rules | `($a<$>$b) => `(@yf5 _ _ _ _ _ _ _ _ _ _ _ $a hr (by decide) rfl $b (by decide) ⋯ ⋯)
set_option hygiene false in
local macro_rules | `($a|||$b|||$c) => `(@yid _ _ _ _ _ _ _ _ $a $b $c)
set_option hygiene false in
local macro_rules | `($a&&&$b) => `(@yeV _ _ $a _ $b rfl (by trivial) (by trivial))
set_option hygiene false in
local macro_rules | `($a<|>$b<|>$c) => `(@yhw _ _ $a _ _ _ _ $b rfl (by trivial) $c ⋯ (by trivial))
set_option hygiene false in
local macro_rules | `($a<<<$b<<<$c) => `(@zhe _ _ _ _ _ _ _ $a $b $c (fun _ _ => rfl))
set_option hygiene false in
local macro_rules | `($a⁻¹) => `(@yhp _ _ _ _ $a)
set_option hygiene false in
local macro_rules | `($a∩$b) => `(@yf8 _ _ _ _ _ $a $b ⋯)
set_option hygiene false in
local macro_rules | `($a∪$b∪$c) => `(@zbL _ _ _ _ _ _ _ _ $a $b $c (ycT _))
set_option hygiene false in
local macro_rules | `($a>>>($s, $c, $d)) => `(@zf0 _ _ _ _ _ _ _ _ _ $a rfl (B $s (by decide)) $c $d (by decide) (by decide) ⋯ ⋯)
set_option hygiene false in
local macro_rules | `($a<*($s, $c, $d)) => `(@yfK _ _ _ _ _ _ _ _ _ $a rfl (B $s (by decide)) $c $d (by decide) (by decide) ⋯ ⋯)
set_option hygiene false in
local macro_rules | `($a*>($b, $c)) => `(@yhY _ _ _ _ _ _ _ _ $a $b $c)
set_option hygiene false in
local macro_rules | `($a<&>($b, $c)) => `(@yhJ _ _ _ _ _ _ _ _ PassesOwn.never rfl $a $b $c (by intro _; rfl))
set_option hygiene false in
local macro_rules | `($a≈$b) => `(@ycS _ _ _ _ _ _ $a (@ycZ _ _ _ _ _ _ rfl $b ⋯ ⋯) ⋯ ⋯ ⋯)
set_option hygiene false in
local macro_rules | `($a⊃$b) => `(@yg4 _ _ _ _ _ _ (yhq hr) $a $b (fun _ _ => rfl))
set_option hygiene false in
local macro_rules | `(↑$a) => `(@ze2 _ _ _ _ _ _ rfl (B "range" (by decide)) $a ⋯)
set_option hygiene false in
local macro_rules | `($a⊆($b, $c, $d, $e, $f, $g, $h, $i)) => `(@yfY _ _ _ _ _ _ _ $a $b $c _ _ _ _ (id (α := CSc $d (yac $e) $a $b $c _) ⟨by rfl, by decide +kernel, by decide +kernel, by decide +kernel, by decide +kernel, by rfl, by decide +kernel⟩) rfl $f (fun cl C fp s H => $g) (fun _ _ _ _ _ => $h) (fun _ _ _ _ _ => $i) (by intro _; rfl))
set_option hygiene false in
local macro_rules | `($a⊇$b) => `(@yeV _ _ $a _ (by show List.Nodup ($b : List Str); decide +kernel) rfl (by trivial) (by trivial))
theorem zhI:PySem.Challenge.rw_roundwords_k48_meets_and_joins.wellSaid=true:=by decide +kernel
section
open PySem PySem.Spec PySem.W PySem.Calls PyProof.Rows PyProof
theorem xA0:type_of% @wpAny_bind:=@wpAny_bind
theorem xA1:type_of% @List.length_map:=@List.length_map
theorem xA2:type_of% @Heap.get?_push_of_some:=@Heap.get?_push_of_some
theorem xA3:type_of% @wpAny_pure:=@wpAny_pure
theorem xA4:type_of% @Array.length_toList:=@Array.length_toList
theorem xA5:type_of% @Nat.le_refl:=@Nat.le_refl
theorem xA6:type_of% @Heap.get?_push_size:=@Heap.get?_push_size
theorem xA7:type_of% @List.mem_cons_self:=@List.mem_cons_self
theorem xA8:type_of% @List.size_toArray:=@List.size_toArray
theorem xA9:type_of% @List.mem_map:=@List.mem_map
theorem xAa:type_of% @List.mem_cons:=@List.mem_cons
theorem xAb:type_of% @List.mem_cons_of_mem:=@List.mem_cons_of_mem
theorem xAc:type_of% @List.getElem?_eq_getElem:=@List.getElem?_eq_getElem
theorem xAd:type_of% @List.getElem?_map:=@List.getElem?_map
theorem xAe:type_of% @Heap.lt_size:=@Heap.lt_size
theorem xAf:type_of% @List.not_mem_nil:=@List.not_mem_nil
theorem xAg:type_of% @List.mem_append_right:=@List.mem_append_right
theorem xAh:type_of% @List.getElem?_eq_some_iff:=@List.getElem?_eq_some_iff
theorem xAi:type_of% @List.getD_eq_getElem?_getD:=@List.getD_eq_getElem?_getD
theorem xAj:type_of% @wpS_bind:=@wpS_bind
theorem xAk:type_of% @List.map_append:=@List.map_append
theorem xAl:type_of% @List.mem_singleton:=@List.mem_singleton
theorem xAm:type_of% @Bool.false_ne_true:=@Bool.false_ne_true
theorem xAn:type_of% @of_decide_eq_true:=@of_decide_eq_true
theorem xAo:type_of% @List.length_cons:=@List.length_cons
theorem xAp:type_of% @Array.toList_append:=@Array.toList_append
theorem xAq:type_of% @Nat.ne_of_lt:=@Nat.ne_of_lt
theorem xAr:type_of% @List.mem_append:=@List.mem_append
theorem xAs:type_of% @wpS_pure:=@wpS_pure
theorem xAt:type_of% @List.mem_range:=@List.mem_range
theorem xAu:type_of% @Int.toNat_natCast:=@Int.toNat_natCast
theorem xAv:type_of% @Nat.lt_of_lt_of_le:=@Nat.lt_of_lt_of_le
theorem xAw:type_of% @Bool.and_eq_true:=@Bool.and_eq_true
theorem xAx:type_of% @List.forall_mem_cons:=@List.forall_mem_cons
theorem xAy:type_of% @List.length_range:=@List.length_range
theorem xAz:type_of% @Nat.le_trans:=@Nat.le_trans
theorem xAA:type_of% @List.pairwise_append:=@List.pairwise_append
theorem xAB:type_of% @List.length_append:=@List.length_append
theorem xAC:type_of% @List.length_take:=@List.length_take
theorem xAD:type_of% @decide_eq_true:=@decide_eq_true
theorem xAE:type_of% @PySem.W.mg_none_of:=@PySem.W.mg_none_of
theorem xAF:type_of% @Option.some.inj:=@Option.some.inj
theorem xAG:type_of% @wpAny_newObj_type:=@wpAny_newObj_type
theorem xAH:type_of% @List.map_map:=@List.map_map
theorem xAI:type_of% @wpAny_ite_split:=@wpAny_ite_split
theorem xAJ:type_of% @List.pairwise_map:=@List.pairwise_map
theorem xAK:type_of% @Array.getElem?_eq_getElem:=@Array.getElem?_eq_getElem
theorem xAL:type_of% @List.map_congr_left:=@List.map_congr_left
theorem xAM:type_of% @Nat.pow_le_pow_right:=@Nat.pow_le_pow_right
theorem xAN:type_of% @wpAny_call_entry:=@wpAny_call_entry
theorem xAO:type_of% @List.Pairwise.sublist:=@List.Pairwise.sublist
theorem xAP:type_of% @Nat.lt_or_ge:=@Nat.lt_or_ge
theorem xAQ:type_of% @wpAny_setState_of:=@wpAny_setState_of
theorem xAR:type_of% @Nat.zero_le:=@Nat.zero_le
theorem xAS:type_of% @List.mem_of_getElem?:=@List.mem_of_getElem?
theorem xAT:type_of% @List.mem_append_left:=@List.mem_append_left
theorem xAU:type_of% @List.mem_filter:=@List.mem_filter
theorem xAV:type_of% @Array.getElem?_toList:=@Array.getElem?_toList
theorem xAW:type_of% @wpAny_callSpecial?_slot:=@wpAny_callSpecial?_slot
theorem xAX:type_of% @Heap.size_push:=@Heap.size_push
theorem xAY:type_of% @List.all_eq_true:=@List.all_eq_true
theorem xAZ:type_of% @Heap.SameBut.update:=@Heap.SameBut.update
theorem xB0:type_of% @List.getElem?_append_right:=@List.getElem?_append_right
theorem xB1:type_of% @Array.toList_push:=@Array.toList_push
theorem xB2:type_of% @or_false:=@or_false
theorem xB3:type_of% @decide_eq_false:=@decide_eq_false
theorem xB4:type_of% @Obj.data_mapFields:=@Obj.data_mapFields
theorem xB5:type_of% @Nat.pow_succ:=@Nat.pow_succ
theorem xB6:type_of% @Heap.get?_update_self:=@Heap.get?_update_self
theorem xB7:type_of% @List.getElem?_range:=@List.getElem?_range
theorem xB8:type_of% @Heap.get?_update_other:=@Heap.get?_update_other
theorem xB9:type_of% @wpAny_holding:=@wpAny_holding
theorem xBa:type_of% @Around.under_plainId:=@Around.under_plainId
theorem xBb:type_of% @codeAny_builtin:=@codeAny_builtin
theorem xBc:type_of% @PyProof.Rows.callWith_type1:=@PyProof.Rows.callWith_type1
theorem xBd:type_of% @List.nodup_cons:=@List.nodup_cons
theorem xBe:type_of% @Nat.eq_zero_or_pos:=@Nat.eq_zero_or_pos
theorem xBf:type_of% @Nat.pow_pos:=@Nat.pow_pos
theorem xBg:type_of% @beq_self_eq_true:=@beq_self_eq_true
theorem xBh:type_of% @Nat.mod_lt:=@Nat.mod_lt
theorem xBi:type_of% @List.replicate_succ:=@List.replicate_succ
theorem xBj:type_of% @List.length_filter_le:=@List.length_filter_le
theorem xBk:type_of% @decide_eq_true_eq:=@decide_eq_true_eq
theorem xBl:type_of% @Nat.lt_succ_of_lt:=@Nat.lt_succ_of_lt
theorem xBm:type_of% @List.map_cons:=@List.map_cons
theorem xBn:type_of% @List.length_eq_zero_iff:=@List.length_eq_zero_iff
theorem xBo:type_of% @List.append_assoc:=@List.append_assoc
theorem xBp:type_of% @Array.toList_reverse:=@Array.toList_reverse
theorem xBq:type_of% @Nat.mul_comm:=@Nat.mul_comm
theorem xBr:type_of% @Nat.lt_of_le_of_lt:=@Nat.lt_of_le_of_lt
theorem xBs:type_of% @Nat.dvd_of_mod_eq_zero:=@Nat.dvd_of_mod_eq_zero
theorem xBt:type_of% @List.getElem?_append_left:=@List.getElem?_append_left
theorem xBu:type_of% @List.append_nil:=@List.append_nil
theorem xBv:type_of% @List.take_length:=@List.take_length
theorem xBw:type_of% @List.mem_reverse:=@List.mem_reverse
theorem xBx:type_of% @List.filter_cons:=@List.filter_cons
theorem xBy:type_of% @Nat.ne_of_gt:=@Nat.ne_of_gt
theorem xBz:type_of% @List.range_succ:=@List.range_succ
theorem xBA:type_of% @wpAny_rule:=@wpAny_rule
theorem xBB:type_of% @List.getElem_mem:=@List.getElem_mem
theorem xBC:type_of% @eq_of_beq:=@eq_of_beq
theorem xBD:type_of% @Option.map_eq_some_iff:=@Option.map_eq_some_iff
theorem xBE:type_of% @wpAny_mono:=@wpAny_mono
theorem xBF:type_of% @wpAny_field:=@wpAny_field
theorem xBG:type_of% @builtinLookup_eq_fast:=@builtinLookup_eq_fast
theorem xBH:type_of% @List.length_replicate:=@List.length_replicate
theorem xBI:type_of% @List.length_erase_of_mem:=@List.length_erase_of_mem
theorem xBJ:type_of% @List.Pairwise.imp_of_mem:=@List.Pairwise.imp_of_mem
theorem xBK:type_of% @Bool.false_eq_true:=@Bool.false_eq_true
theorem xBL:type_of% @wpAny_askSetting:=@wpAny_askSetting
theorem xBM:type_of% @List.Pairwise.filter:=@List.Pairwise.filter
theorem xBN:type_of% @PySem.F.plainAttrs_list:=@PySem.F.plainAttrs_list
theorem xBO:type_of% @Nat.zero_add:=@Nat.zero_add
theorem xBP:type_of% @Nat.mul_mod:=@Nat.mul_mod
theorem xBQ:type_of% @List.reverse_append:=@List.reverse_append
theorem xBR:type_of% @Bool.or_eq_true:=@Bool.or_eq_true
theorem xBS:type_of% @List.length_pos_of_mem:=@List.length_pos_of_mem
end
section
namespace L2
inductive Ex2 (p:a0->a1->Prop):Prop|mk x0 x1 (h:p x0 x1):Ex2 p
inductive Ex3 (p:a0->a1->a2->Prop):Prop|mk x0 x1 x2 (h:p x0 x1 x2):Ex3 p
inductive Ex4 (p:a0->a1->a2->a3->Prop):Prop|mk x0 x1 x2 x3 (h:p x0 x1 x2 x3):Ex4 p
inductive Ex5 (p:a0->a1->a2->a3->a4->Prop):Prop|mk x0 x1 x2 x3 x4 (h:p x0 x1 x2 x3 x4):Ex5 p
inductive Ex6 (p:a0->a1->a2->a3->a4->a5->Prop):Prop|mk x0 x1 x2 x3 x4 x5 (h:p x0 x1 x2 x3 x4 x5):Ex6 p
inductive Ex7 (p:a0->a1->a2->a3->a4->a5->a6->Prop):Prop|mk x0 x1 x2 x3 x4 x5 x6 (h:p x0 x1 x2 x3 x4 x5 x6):Ex7 p
inductive Ex9 (p:a0->a1->a2->a3->a4->a5->a6->a7->a8->Prop):Prop|mk x0 x1 x2 x3 x4 x5 x6 x7 x8 (h:p x0 x1 x2 x3 x4 x5 x6 x7 x8):Ex9 p
inductive Ex15 (p:a0->a1->a2->a3->a4->a5->a6->a7->a8->a9->a10->a11->a12->a13->a14->Prop):Prop|mk x0 x1 x2 x3 x4 x5 x6 x7 x8 x9 x10 x11 x12 x13 x14 (h:p x0 x1 x2 x3 x4 x5 x6 x7 x8 x9 x10 x11 x12 x13 x14):Ex15 p
end L2
open L2
namespace L2
open PySem PySem.Spec PyProof.Rows
abbrev Key:=Sum Int Str
def yeK:Key->Value->Bool
 | .inl k,v=>Value.isInt k v
 | .inr x,v=>Value.isStrOf x v
def keyH(w:World):Key->Int
 | .inl k=>hashInt k
 | .inr x=>hashStr w x
theorem zas:∀ {k:Key} {v:Value},yeK k v=true->(Ex2 λi t=>k=Sum.inl i/\v=Value.int i t)\/(Ex2 λx t=>k=Sum.inr x/\v=Value.str x t)
 | .inl i,v,h=>by
  obtain⟨t,e⟩:=Value.isInt_shape (k:=i) (v:=v) h;exact .inl ⟨i,t,rfl,e⟩
 | .inr x,v,h=>by
  obtain⟨t,e⟩:=Value.isStrOf_shape (x:=x) (v:=v) h;exact .inr ⟨x,t,rfl,e⟩
theorem ze8(i:Int)(t:Tok):yeK (.inl i) (.int i t)=true:=by simp[yeK,Value.isInt]
theorem yfI(x:Str)(t:Tok):yeK (.inr x) (.str x t)=true:=by simp[yeK,Value.isStrOf]
theorem zhG(a b:Int):decide ((Sum.inl a:Key)=Sum.inl b)=(a==b):=by
 by_cases e:a=b
 ·subst e;simp
 ·have h:¬ (Sum.inl a:Key)=Sum.inl b:=λq=>e (Sum.inl.inj q)
  rw[xB3 h];exact(beq_eq_false_iff_ne.mpr e).symm
theorem yhr(a b:Str):decide ((Sum.inr a:Key)=Sum.inr b)=decide (a=b):=by
 by_cases e:a=b
 ·subst e;simp
 ·have h:¬ (Sum.inr a:Key)=Sum.inr b:=λq=>e (Sum.inr.inj q)
  rw[xB3 h,xB3 e]
theorem zhq(a:Int)(b:Str):decide ((Sum.inl a:Key)=Sum.inr b)=false:=xB3 (λq=>nomatch q)
theorem yhH(a:Str)(b:Int):decide ((Sum.inr a:Key)=Sum.inl b)=false:=xB3 (λq=>nomatch q)
noncomputable def zau(prog:Program)(w:World):PySem.KeyKind prog w Key where
 is:=yeK
 hash:=keyH w
 inj:=λv a b ha hb=>by
  rcases zas ha with⟨i,t,rfl,rfl⟩ |⟨x,t,rfl,rfl⟩
  ·rcases zas hb with⟨j,u,rfl,e⟩ |⟨y,u,rfl,e⟩
   ·injection e with e1 _;rw[e1]
   ·exact nomatch e
  ·rcases zas hb with⟨j,u,rfl,e⟩ |⟨y,u,rfl,e⟩
   ·exact nomatch e
   ·injection e with e1 _;rw[e1]
 byValue:=λk v h=>by
  rcases zas h with⟨i,t,rfl,rfl⟩ |⟨x,t,rfl,rfl⟩ <;> rfl
 pyHash:=λhv h=>by
  rcases zas hv with⟨i,t,rfl,rfl⟩ |⟨x,t,rfl,rfl⟩
  ·exact wpAny_pyHash_int h
  ·exact wpAny_pyHash_str h
 eqBool:=λhu hv h=>by
  rcases zas hu with⟨i,t,rfl,rfl⟩ |⟨x,t,rfl,rfl⟩
  ·rcases zas hv with⟨j,u,rfl,rfl⟩ |⟨y,u,rfl,rfl⟩
   ·rw[zhG]at h;exact wpAny_eqBool_int h
   ·rw[zhq]at h;exact SeqAt.EqAt.int_str i t y u _ _ _ _ h
  ·rcases zas hv with⟨j,u,rfl,rfl⟩ |⟨y,u,rfl,rfl⟩
   ·rw[yhH]at h;exact SeqAt.EqAt.str_int x t j u _ _ _ _ h
   ·rw[yhr]at h;exact wpAny_eqBool_str h
 «strs»:=λk x t v h=>by
  rcases zas h with⟨i,u,rfl,e⟩ |⟨y,u,rfl,e⟩
  ·exact nomatch e
  ·injection e with e1 _;subst e1;cases v <;> rfl
theorem ydU(prog:Program)(w:World)(i:Int)(t:Tok):(zau prog w).is (.inl i) (.int i t)=true:=ze8 i t
theorem yd8(prog:Program)(w:World)(x:Str)(t:Tok):(zau prog w).is (.inr x) (.str x t)=true:=yfI x t
end L2
namespace L2
open PySem PySem.Spec PyProof.Rows
inductive V where
 |non|bl (b:Bool)|int (i:Int)|str (x:Str)|byt (b:Array UInt8)|flt (b:UInt64)|ref (a:Addr)|ty (n:String)
 deriving DecidableEq
noncomputable def RelV:V->Value->Prop
 | .non,u=>u=Value.none
 | .bl b,u=>u=Value.bool b
 | .int i,u=>∃t,u=Value.int i t
 | .str x,u=>∃t,u=Value.str x t
 | .byt b,u=>∃t,u=Value.bytes b t
 | .flt b,u=>∃t,u=Value.float b t
 | .ref a,u=>u=Value.ref a
 | .ty n,u=>u=Value.type n
abbrev Vals:List V->List Value->Prop:=Paired RelV
theorem Vals.length(r:Vals xs us):xs.length=us.length:=Paired.length r
theorem Vals.get:∀ {xs:List V} {us:List Value} {i:Nat} {x:V},Vals xs us->xs[i]?=some x->∃u,us[i]?=some u/\RelV x u
 |_,_,_,_,.nil,e=>by simp at e
 |_,_,0,_,.cons r _,e=>by simp at e;subst e;exact⟨_,rfl,r⟩
 |_,_,i+1,x,.cons _ t,e=>by
  obtain⟨u,h1,h2⟩:=Vals.get (i:=i) (x:=x) t (by simpa using e);exact⟨u,by simpa using h1,h2⟩
theorem Vals.set(r:RelV x u):∀ {xs:List V} {us:List Value} (i:Nat),Vals xs us->Vals (xs.set i x) (us.set i u)
 |_,_,_,.nil=>.nil
 |_,_,0,.cons _ t=>.cons r t
 |_,_,i+1,.cons q t=>.cons q (Vals.set r i t)
theorem Vals.append:∀ {xs ys:List V} {us ws:List Value},Vals xs us->Vals ys ws->Vals (xs++ys) (us++ws)
 |_,_,_,_,.nil,s=>s
 |_,_,_,_,.cons r t,s=>.cons r (Vals.append t s)
theorem Vals.take:∀ {xs:List V} {us:List Value} (n:Nat),Vals xs us->Vals (xs.take n) (us.take n)
 |_,_,0,_=>.nil
 |_,_,_+1,.nil=>.nil
 |_,_,n+1,.cons r t=>.cons r (Vals.take n t)
theorem Vals.drop:∀ {xs:List V} {us:List Value} (n:Nat),Vals xs us->Vals (xs.drop n) (us.drop n)
 |_,_,0,r=>r
 |_,_,_+1,.nil=>.nil
 |_,_,n+1,.cons _ t=>Vals.drop n t
def RelO:Option V->Option Value->Prop
 |some v,some u=>RelV v u
 |none,none=>True
 |_,_=>False
def KV{κ:Type}:List (κ×V)->List (κ×Value)->Prop:=Paired λ(p:κ×V) (q:κ×Value)=>p.1=q.1/\RelV p.2 q.2
def kV:Key->V
 | .inl i=>.int i
 | .inr x=>.str x
inductive HO where
 |lst (xs:List V)
 |tup (xs:List V)
 |dK (kvs:List (Key×V))|dT (kvs:List (List Key×V))
 |set (S:Int->Bool) (n:Nat)
 |ins (C dx:Addr) (fs:List (Str×V))
 |own (x:Addr)
 |xd (fs:List (Str×V))
 |met (f x:Addr)
 |rng (lo hi:Int)
 |frz (o:Obj) (u:HO)
 |tbl (ps:Array Value)
 |ext (φ:Heap->Prop)
abbrev Hp:=Addr->Option HO
def upd(H:Hp)(a:Addr)(o:HO):Hp:=λb=>if b=a then some o else H b
theorem zaa:upd H a o a=some o:=by unfold upd;rw[if_pos rfl]
theorem zad{o:HO}(h:b≠a):upd H a o b=H b:=by unfold upd;rw[if_neg h]
theorem yd3:upd (upd H a o) a u=upd H a u:=by
 funext b;unfold upd;split <;> rfl
theorem yh2{H:Hp}{a b:Addr}{o u:HO}(h:H a=some o)(h':H b=some u)(d:o≠u):a≠b:=by
 intro e;subst e;rw[h]at h';exact d (xAF h')
theorem zac{H:Hp}{a b:Addr}{o:HO}(h:H a=some o)(h':H b=none):a≠b:=by
 intro e;subst e;rw[h]at h';cases h'
section
variable (P:Program) (w:World)
noncomputable def zaR(H:Hp)(h:Heap)(a:Addr):HO->Prop
 | .lst xs=>xs.length<=sizeLine/\Ex2 λ(its:List Value) (n:Nat)=>Vals xs its/\h.get? a=some { cls:=.type "list",data:=.seq its.toArray n }
 | .tup xs=>xs.length<=sizeLine/\∃its:List Value,Vals xs its/\IsTup h a its.toArray
 | .dK kvs=>kvs.length<=sizeLine/\(a==sysModules)=false/\∃vs,KV kvs vs/\h.DictOf (zau P w) a vs
 | .dT kvs=>kvs.length<=sizeLine/\(a==sysModules)=false/\∃xs:List (List Key×Addr×Value),
   Paired (λ(p:List Key×V) (q:List Key×Addr×Value)=>p.1=q.1/\H q.2.1=some (.tup (p.1.map kV))/\RelV p.2 q.2.2) kvs xs/\
   Ex3 λo es ep=>h.get? a=some o/\o.ExactDict/\o.data = .dict es ep/\es.toList=xs.map (entryOfKey (tupleKind (zau P w)))/\(xs.map (·.1)).Nodup
 | .set S n=>h.SetOf (intKind P w) a S n
 | .ins C dx fs=>H dx=some (.own a)/\fs.length<=1000/\dx≠a/\h.get? a=some (PySem.W.instObj C dx)/\
   ∃mA,h.Ns1 dx mA/\(∀f,RelO (fs.lookup f) (mA f))/\PySem.Within mA (fs.map (·.1))
 | .own _=>∃o,h.get? a=some o
 | .xd fs=>∃mA,h.Ns1 a mA/\∀f,RelO (fs.lookup f) (mA f)
 | .rng lo hi=>Ex3 λt u v=>h.get? a=some { cls:=.type "range",data:=.fields #[.int lo t,.int hi u,.int 1 v] }
 | .frz o u=>h.get? a=some o/\zaR H h a u
 | .tbl ps=>h.get? a=some { cls:=.none,data:=.fields ps }
 | .met f x=>h.get? a=some (PySem.W.methodObj (.ref f) (.ref x))
 | .ext φ=>φ h/\(∃o,h.get? a=some o)/\∀h1 h2:Heap,φ h1->(∀o,h1.get? a=some o->h2.get? a=some o)->φ h2
def HOk(H:Hp)(h:Heap):Prop:=∀a o,H a=some o->zaR P w H h a o
end
section
variable {P:Program} {w:World} {H H':Hp} {h h':Heap} {a:Addr} {o:HO}
theorem zaR.lt(x:zaR P w H h a o):a<h.objs.size:=by
 cases o with
 |lst xs=>obtain⟨_,_,_,_,e⟩:=x;exact xAe e
 |tup xs=>obtain⟨_,_,_,p⟩:=x;exact p.lt
 |dK kvs=>obtain⟨_,_,_,_,o,_,_,e,_⟩:=x;exact xAe e
 |dT kvs=>obtain⟨_,_,_,_,o,_,_,e,_⟩:=x;exact xAe e
 |set S n=>obtain⟨o,_,_,_,e,_⟩:=x;exact xAe e
 |ins C dx fs=>obtain⟨_,_,_,e,_⟩:=x;exact xAe e
 |own y=>obtain⟨_,e⟩:=x;exact xAe e
 |xd fs=>obtain⟨_,⟨_,_,_,e,_⟩,_⟩:=x;exact xAe e
 |rng lo hi=>obtain⟨_,_,_,e⟩:=x;exact xAe e
 |frz ob u=>obtain⟨e,_⟩:=x;exact xAe e
 |tbl ps=>exact xAe (show h.get? a=some _ from x)
 |met f y=>exact xAe (show h.get? a=some _ from x)
 |ext φ=>obtain⟨_,⟨_,e⟩,_⟩:=x;exact xAe e
theorem Paired.mapP{α β:Type}{F G:α->β->Prop}:∀ {l₁:List α} {l₂:List β},Paired F l₁ l₂->(∀a b,F a b->G a b)->Paired G l₁ l₂
 |_,_,.nil,_=>.nil
 |_,_,.cons r t,f=>.cons (f _ _ r) (Paired.mapP t f)
theorem zaR.stay(x:zaR P w H h a o)(k:∀b u,(b=a\/H b=some (.own a))->h.get? b=some u->h'.get? b=some u)
  (ho:∀b,H b=some (.own a)->H' b=some (.own a)) (ht:∀b xs,H b=some (.tup xs)->H' b=some (.tup xs)):zaR P w H' h' a o:=by
 induction o with
 |lst xs=>obtain⟨z,its,n,r,e⟩:=x;exact⟨z,its,n,r,k _ _ (.inl rfl) e⟩
 |tup xs=>obtain⟨z,its,r,ob,e,c⟩:=x;exact⟨z,its,r,ob,k _ _ (.inl rfl) e,c⟩
 |dK kvs=>obtain⟨z,y,vs,r,ob,es,ep,e,c⟩:=x;exact⟨z,y,vs,r,ob,es,ep,k _ _ (.inl rfl) e,c⟩
 |dT kvs=>
  obtain⟨z,y,xs,r,ob,es,ep,e,c⟩:=x;exact⟨z,y,xs,Paired.mapP r λp q z=>⟨z.1,ht _ _ z.2.1,z.2.2⟩,ob,es,ep,k _ _ (.inl rfl) e,c⟩
 |set S n=>obtain⟨ob,es,ep,t,e,c⟩:=x;exact⟨ob,es,ep,t,k _ _ (.inl rfl) e,c⟩
 |ins C dx fs=>
  obtain⟨d,z,ne,e,mA,⟨od,es,ep,e2,c⟩,r⟩:=x;exact⟨ho _ d,z,ne,k _ _ (.inl rfl) e,mA,⟨od,es,ep,k _ _ (.inr d) e2,c⟩,r⟩
 |own y=>obtain⟨ob,e⟩:=x;exact⟨ob,k _ _ (.inl rfl) e⟩
 |xd fs=>obtain⟨mA,⟨od,es,ep,e,c⟩,r⟩:=x;exact⟨mA,⟨od,es,ep,k _ _ (.inl rfl) e,c⟩,r⟩
 |rng lo hi=>obtain⟨t,u,v,e⟩:=x;exact⟨t,u,v,k _ _ (.inl rfl) e⟩
 |frz ob u ih=>obtain⟨e,q⟩:=x;exact⟨k _ _ (.inl rfl) e,ih q⟩
 |tbl ps=>
  have e:h.get? a=some { cls:=.none,data:=.fields ps }:=x;show h'.get? a=some { cls:=.none,data:=.fields ps };exact k a _ (.inl rfl) e
 |met f y=>
  have e:h.get? a=some (PySem.W.methodObj (.ref f) (.ref y)):=x;show h'.get? a=some (PySem.W.methodObj (.ref f) (.ref y));exact k a _ (.inl rfl) e
 |ext φ=>obtain⟨p,⟨o,e⟩,st⟩:=x;exact⟨st _ _ p λo q=>k _ _ (.inl rfl) q,⟨o,k _ _ (.inl rfl) e⟩,st⟩
theorem HOk.lt(x:HOk P w H h)(e:H a=some o):a<h.objs.size:=(x a o e).lt
theorem HOk.fresh(x:HOk P w H h)(e:h.objs.size<=a):H a=none:=by
 cases q:H a with
 |none=>rfl
 |some u=>exact absurd (xAv (x.lt q) e) (Nat.lt_irrefl _)
theorem HOk.kept(x:HOk P w H h)(k:∀b u,h.get? b=some u->h'.get? b=some u):HOk P w H h':=λa o e=>
 (x a o e).stay (λb u _ q=>k b u q) (λ_ q=>q) λ_ _ q=>q
theorem HOk.laid(x:HOk P w H h)(k:∀b u,h.get? b=some u->h'.get? b=some u)(hp:h.objs.size<=a)(new:zaR P w (upd H a o) h' a o):HOk P w (upd H a o) h':=λb u e=>by
 have hn:=x.fresh hp;by_cases hb:b=a
 ·subst hb;rw[zaa]at e;cases e;exact new
 ·rw[zad hb]at e;exact(x b u e).stay (λc v _ q=>k c v q) (λc q=>by rw[zad (zac q hn)];exact q) λc xs q=>by rw[zad (zac q hn)];exact q
end
def Rd(H:Hp)(a:Addr)(u:HO):Prop:=H a=some u\/∃o,H a=some (.frz o u)
theorem Rd.ok(r:Rd H a u)(x:HOk P w H h):zaR P w H h a u:=by
 rcases r with r |⟨o,r⟩
 ·exact x a u r
 ·obtain⟨_,q⟩:=x a _ r;exact q
noncomputable def Mut:Option HO->Prop
 |some (.lst _)=>True
 |some (.dK _)=>True
 |some (.dT _)=>True
 |some (.set _ _)=>True
 |some (.ins _ _ _)=>True
 |some (.ext _)=>True
 |_=>False
section
variable {P:Program} {w:World} {H:Hp} {h h':Heap} {x e:Addr} {o':HO}
theorem HOk.write(ok:HOk P w H h)(mu:Mut (H x))(he:e=x\/H e=some (.own x))(k:∀b u,b≠e->h.get? b=some u->h'.get? b=some u)(heo:∃u,h'.get? e=some u)
  (new:zaR P w (upd H x o') h' x o'):HOk P w (upd H x o') h':=λb u q=>by
 have nown:∀c y,H c=some (.own y)->c≠x:=λc y r z=>by subst z;rw[r]at mu;exact mu
 have ntup:∀c xs,H c=some (.tup xs)->c≠x:=λc xs r z=>by subst z;rw[r]at mu;exact mu
 by_cases hb:b=x
 ·subst hb;rw[zaa]at q;cases q;exact new
 ·rw[zad hb]at q;by_cases hbe:b=e
  ·have q':H b=some (.own x):=by
    rcases he with z|z
    ·exact absurd (hbe.trans z) hb
    ·rw[hbe];exact z
   rw[q]at q';cases q';obtain⟨v,hv⟩:=heo;exact⟨v,by rw[hbe];exact hv⟩
  ·refine(ok b u q).stay (λc v hc r=>k c v ?_ r) (λc r=>by rw[zad (nown c b r)];exact r) λc xs r=>by rw[zad (ntup c xs r)];exact r
   rcases hc with rfl|hc
   ·exact hbe
   ·rintro rfl;rcases he with z|z
    ·exact nown c b hc z
    ·rw[hc]at z;cases z;exact hb rfl
end
structure Un(fs ex:List Addr)(H H':Hp)(h h':Heap):Prop where
 keep:∀b o,h.get? b=some o->H b=none->b∉fs->b∉ex->h'.get? b=some o
 slot:∀b o,h.get? b=some o->H b=none->b∈fs->b∉ex->∃sl,h'.get? b=some { o with slots:=sl }
 free:∀b o,h.get? b=some o->H b=none->b∉ex->H' b=none
 there:∀b o,h.get? b=some o->b∉ex->∃o',h'.get? b=some o'
 tups:∀b xs,H b=some (.tup xs)->H' b=some (.tup xs)
 frzs:∀b o u,H b=some (.frz o u)->H' b=some (.frz o u)
 tbls:∀b ps,H b=some (.tbl ps)->∃more,H' b=some (.tbl (ps++more))
section
variable {fs fs' ex ex':List Addr} {H H1 H2:Hp} {h h1 h2 h':Heap} {a x e:Addr} {o:HO}
theorem Un.any(u:Un fs ex H H1 h h1)(q:h.get? b=some ob)(n:H b=none)(hx:b∉ex):∃sl,h1.get? b=some { ob with slots:=sl }:=by
 by_cases hb:b∈fs
 ·exact u.slot b ob q n hb hx
 ·exact⟨ob.slots,u.keep b ob q n hb hx⟩
theorem Un.kept(k:∀b u,h.get? b=some u->h'.get? b=some u):Un fs ex H H h h' :=
 ⟨λb ob q _ _ _=>k b ob q,λb ob q _ _ _=>⟨ob.slots,k b ob q⟩,λ_ _ _ n _=>n,λb ob q _=>⟨ob,k b ob q⟩,λ_ _ q=>q,λ_ _ _ q=>q,λ_ ps q=>⟨#[],by rw[q];simp⟩⟩
theorem Un.refl:Un fs ex H H h h:=Un.kept λ_ _ q=>q
theorem Un.laid(k:∀b u,h.get? b=some u->h'.get? b=some u)(hp:h.objs.size<=a)(hn:H a=none):Un fs ex H (upd H a o) h h' where
 keep:=λb u q _ _ _=>k b u q
 slot:=λb u q _ _ _=>⟨u.slots,k b u q⟩
 free:=λb u q n _=>by rw[zad (xAq (xAv (xAe q) hp))];exact n
 there:=λb u q _=>⟨u,k b u q⟩
 tups:=λb xs q=>by rw[zad (zac q hn)];exact q
 frzs:=λb u xs q=>by rw[zad (zac q hn)];exact q
 tbls:=λb ps q=>⟨#[],by rw[zad (zac q hn),q];simp⟩
theorem Un.write(mu:Mut (H x))(he:e=x\/H e=some (.own x))(k:∀b u,b≠e->h.get? b=some u->h'.get? b=some u)(heo:∃u,h'.get? e=some u):Un fs ex H (upd H x o) h h':=by
 have hx:∀b,H b=none->b≠x:=λb n z=>by subst z;rw[n]at mu;exact mu
 have hb:∀b,H b=none->b≠e:=λb n z=>by
  subst z;rcases he with r|r
  ·exact hx b n r
  ·rw[n]at r;cases r
 have hm:∀b u,H b=some u->¬ Mut (some u)->b≠x:=λb u q nm z=>by subst z;rw[q]at mu;exact nm mu
 refine⟨λb u q n _ _=>k b u (hb b n) q,λb u q n _ _=>⟨u.slots,k b u (hb b n) q⟩,λb u q n _=>by rw[zad (hx b n)];exact n,λb u q _=>?_,
  λb xs q=>by rw[zad (hm b _ q λz=>z)];exact q,λb u xs q=>by rw[zad (hm b _ q λz=>z)];exact q,λb ps q=>⟨#[],by rw[zad (hm b _ q λz=>z),q];simp⟩⟩
 by_cases hbe:b=e
 ·subst hbe;exact heo
 ·exact⟨u,k b u hbe q⟩
end
def trk(h:Heap)(H:Hp):List Addr:=(List.range h.objs.size).filter λa=>(H a).isSome
def hidT(h:Heap)(H:Hp):Heap:=PySem.W.hideAll h (trk h H)
theorem yfQ(h:Heap)(H:Hp):(hidT h H).objs.size=h.objs.size:=PySem.W.hideAll_size _ _
theorem ygn(e:h.get? b=some o)(n:H b=none):(hidT h H).get? b=some o :=
 PySem.W.hideAll_get _ e λhm=>by
  have q:(H b).isSome=true:=(xAU.mp hm).2;rw[n]at q;simp at q
theorem zhj(e:(hidT h H).get? b=some o):h.get? b=some o/\H b=none:=by
 have e':h.get? b=some o:=PySem.W.of_hideAll (trk h H) e;refine⟨e',?_⟩;cases q:H b with
 |none=>rfl
 |some x=>
  have hm:b∈trk h H:=xAU.mpr ⟨xAt.mpr (xAe e'),by simp[q]⟩;have z:(hidT h H).get? b=none:=PySem.W.hideAll_none (trk h H) hm;rw[z]at e;cases e
end L2
namespace L2
open PySem PySem.Spec PyProof.Rows
structure Mod(K:PySem.W.Frag)(mg:Str->Option Value)(base:Heap):Prop where
 kin:K.In base
 glob:base.Ns mainGlobals mg
 blt:∃mb,base.Ns builtinsNs mb/\∀x:Str,x≠"__name__"->mb x=bootBuiltins x
 nolimit:base.NoLimit
structure Cx where
 prog:Program
 w:World
 K:PySem.W.Frag
 mg:Str->Option Value
 base:Heap
 A:Around
 N:List Str
 s₀:Shared
 H₀:Hp
 env:Env
 outer:List Env
 stack:List Env
 ex:List Addr
 fn:Str->Bool
 calm:Bool
 pn:List (Addr×Obj)
 xe:Value->Shared->Prop
def frs(l:List Env):List Addr:=l.filterMap (·.frame)
abbrev Cx.fs(X:Cx):List Addr:=frs X.outer
noncomputable def Vis(sc:Scope)(x:Str):Prop:=sc.names.lookup x=some .local\/sc.names.lookup x=some .cell\/sc.names.lookup x=some .free
def Loc(sc:Scope)(x:Str):Prop:=sc.names.lookup x=some .local\/sc.names.lookup x=some .cell
noncomputable def Look(env:Env)(h:Heap)(m:Str->Option Value)(x:Str)(u:Value):Prop :=
 (env.kindOf x=some .local/\m x=some u)\/((env.kindOf x=some .cell\/env.kindOf x=some .free)/\∃c,env.cells.lookup x=some c/\h.IsCell c (some u))
structure Cx.Ok(X:Cx):Prop where
 mod:Mod X.K X.mg X.base
 kind:X.env.scope.kind = .function
 glob:X.env.globals=mainGlobals
 blt:X.env.builtins=builtinsNs
 above:X.s₀.heap.objs.size<=X.env.locals
 inj:∀x y c,X.env.cells.lookup x=some c->X.env.cells.lookup y=some c->x=y
 has:∀x,(X.env.kindOf x=some .cell\/X.env.kindOf x=some .free)->∃c,X.env.cells.lookup x=some c
 cab:∀x c,X.fn x=true->X.env.cells.lookup x=some c->X.s₀.heap.objs.size<=c
 hd:X.calm=true->X.A.handled=none
 frames:X.A.frames=some X.stack
 stk:X.stack=X.outer\/(X.stack=X.env::X.outer/\X.env.frame=some X.env.locals)
 exf:∀b∈X.ex,b≠X.env.locals/\∀x c,X.env.cells.lookup x=some c->c≠b
 bs:∀b o,X.base.get? b=some o->X.s₀.heap.get? b=some o/\X.H₀ b=none
 bsz:X.base.objs.size<=X.s₀.heap.objs.size
 noex:∀b o,X.base.get? b=some o->b∉X.ex
 exfs:∀b∈X.ex,b∉X.fs
 funs:X.s₀.heap.FunFrames X.base X.outer
 frf:∀b∈X.fs,X.H₀ b=none
structure Inv(X:Cx)(pins:List (Addr×Obj))(σ:List (Option V))(H:Hp)(s:Shared):Prop where
 ok:X.Ok
 os:s.os=X.s₀.os
 bare:AllBare s.gens
 base:Un X.fs X.ex X.H₀ H X.s₀.heap s.heap
 loc:∃m,s.heap.Ns X.env.locals m/\∀(i:Nat) (x:Str) (v:V),X.N[i]?=some x->σ[i]?=some (some v)->Vis X.env.scope x->∃u,RelV v u/\Look X.env s.heap m x u
 cell:∀x c,X.env.cells.lookup x=some c->∃v,s.heap.IsCell c v
 free:H X.env.locals=none
 freeC:∀x c,X.env.cells.lookup x=some c->H c=none
 pin:∀p∈X.pn++pins,s.heap.get? p.1=some p.2/\H p.1=none/\p.1≠X.env.locals/\p.1∉X.fs/\∀v,p.2.data≠.cell v
 hok:HOk X.prog X.w H s.heap
 len:σ.length=X.N.length
section
variable {X:Cx} {pins:List (Addr×Obj)} {σ:List (Option V)} {H H':Hp} {s:Shared} {h':Heap}
theorem Cx.Ok.nofr(ok:X.Ok)(e:X.base.get? b=some o):b∉X.fs:=λhb=>by
 have:=(ok.funs.mem hb).1;rw[e]at this;cases this
theorem Inv.bs(I:Inv X pins σ H s):∀b o,X.base.get? b=some o->s.heap.get? b=some o/\H b=none:=λb o e=>
 ⟨I.base.keep b o (I.ok.bs b o e).1 (I.ok.bs b o e).2 (I.ok.nofr e) (I.ok.noex b o e),I.base.free b o (I.ok.bs b o e).1 (I.ok.bs b o e).2 (I.ok.noex b o e)⟩
theorem Inv.bk(I:Inv X pins σ H s):∀b o,X.base.get? b=some o->s.heap.get? b=some o:=λb o e=>(I.bs b o e).1
theorem Inv.mod(I:Inv X pins σ H s):Mod X.K X.mg X.base:=I.ok.mod
theorem Inv.kIn(I:Inv X pins σ H s):X.K.In s.heap:=I.ok.mod.kin.keeps I.bk
theorem Inv.lt(I:Inv X pins σ H s):X.env.locals<s.heap.objs.size:=let ⟨_,hn,_⟩:=I.loc;hn.lt
theorem Inv.sz(I:Inv X pins σ H s):X.s₀.heap.objs.size<=s.heap.objs.size:=xAz I.ok.above (Nat.le_of_lt I.lt)
theorem Inv.nofs(I:Inv X pins σ H s)(h:s.heap.objs.size<=a):a∉X.fs:=λhb=>by
 obtain⟨_,o,ho,_⟩:=I.ok.funs.mem hb;exact absurd (xAv (xAe ho) (xAz I.sz h)) (Nat.lt_irrefl _)
theorem Inv.cne(I:Inv X pins σ H s):∀x c,X.env.cells.lookup x=some c->c≠X.env.locals:=λx c e z=>by
 obtain⟨v,o,ho,hd⟩:=I.cell x c e;obtain⟨m,⟨o',es,ep,ho',hd',_⟩,_⟩:=I.loc;rw[z,ho']at ho;cases ho;rw[hd']at hd;cases hd
theorem Inv.funs(I:Inv X pins σ H s):s.heap.FunFrames X.base X.outer:=by
 have all:∀(l:List Env),(∀b∈frs l,b∈X.fs)->X.s₀.heap.FunFrames X.base l->s.heap.FunFrames X.base l:=by
  intro l
  induction l with
  |nil=>intro _ _;trivial
  |cons env r ih=>
   intro hs hl;obtain⟨hk,⟨L,o,hf,hn,ho,hd⟩,hr⟩:=hl;have hL:L∈X.fs:=hs L (by unfold frs;rw[List.filterMap_cons,hf];exact xA7);obtain⟨sl,e⟩:=I.base.slot L o ho (I.ok.frf L hL) hL λz=>I.ok.exfs L z hL
   exact⟨hk,⟨L,_,hf,hn,e,hd⟩,ih (λb hb=>hs b (by unfold frs;rw[List.filterMap_cons,hf];exact xAb _ hb)) hr⟩
 exact all X.outer (λ_ hb=>hb) I.ok.funs
theorem Inv.stack(I:Inv X pins σ H s):s.heap.FunFrames X.base X.stack:=by
 rcases I.ok.stk with e |⟨e,hf⟩
 ·rw[e];exact I.funs
 ·rw[e];obtain⟨m,hn,_⟩:=I.loc;refine .cons (by rw[I.ok.kind];decide) hf hn ?_ I.funs;exact Heap.get?_none_of_le (xAz I.ok.bsz I.ok.above)
theorem Inv.stkSub(I:Inv X pins σ H s):∀b∈frs X.stack,b∈X.env.locals::X.fs:=λb hb=>by
 rcases I.ok.stk with e |⟨e,hf⟩
 ·rw[e]at hb;exact xAb _ hb
 ·rw[e]at hb;unfold frs at hb;rw[List.filterMap_cons,hf]at hb;exact hb
theorem Inv.stkFree(I:Inv X pins σ H s):∀b∈frs X.stack,H b=none:=λb hb=>by
 rcases xAa.mp (I.stkSub b hb) with e|hb
 ·rw[e];exact I.free
 ·obtain⟨_,o,ho,_⟩:=I.ok.funs.mem hb;exact I.base.free b o ho (I.ok.frf b hb) λz=>I.ok.exfs b z hb
theorem Inv.step{g':Array GenState}{t':Nat}{d':Drawn}{ch:List Addr}(I:Inv X pins σ H s)
  (hch:∀b∈ch,(b∈X.ex\/X.s₀.heap.objs.size<=b)/\b≠X.env.locals/\(∀x c,X.env.cells.lookup x=some c->c≠b)/\∀p∈X.pn++pins,p.1≠b)
  (keep:∀b o,b≠X.env.locals->b∉X.fs->b∉ch->s.heap.get? b=some o->H b=none->h'.get? b=some o)
  (slot:∀b o,b≠X.env.locals->b∈X.fs->b∉ch->s.heap.get? b=some o->H b=none->∃sl,h'.get? b=some { o with slots:=sl }) (free:∀b o,b∉ch->s.heap.get? b=some o->H b=none->H' b=none)
  (there:∀b o,b∉ch->s.heap.get? b=some o->∃o',h'.get? b=some o')
  (tups:∀b xs,H b=some (.tup xs)->H' b=some (.tup xs)) (frzs:∀b o u,H b=some (.frz o u)->H' b=some (.frz o u)) (tbls:∀b ps,H b=some (.tbl ps)->∃more,H' b=some (.tbl (ps++more)))
  (ns:∀m,s.heap.Ns X.env.locals m->h'.Ns X.env.locals m) (hok:HOk X.prog X.w H' h') (hg:AllBare g') :
  Inv X pins σ H' { s with heap:=h',gens:=g',drawn:=d',toks:=t' }:=by
 have neL:∀b o,X.s₀.heap.get? b=some o->b≠X.env.locals:=λb o e=>xAq (xAv (xAe e) I.ok.above)
 have neC:∀b o,X.s₀.heap.get? b=some o->b∉X.ex->b∉ch:=λb o e hx hb=>by
  rcases(hch b hb).1 with z|z
  ·exact hx z
  ·exact absurd (xAv (xAe e) z) (Nat.lt_irrefl _)
 have cellK:∀x c,X.env.cells.lookup x=some c->∀v,s.heap.IsCell c v->h'.IsCell c v:=λx c e v ⟨o,ho,hd⟩=>by
  have nch:c∉ch:=λz=>(hch c z).2.2.1 x c e rfl
  by_cases hc:c∈X.fs
  ·obtain⟨sl,q⟩:=slot c o (I.cne x c e) hc nch ho (I.freeC x c e);exact⟨_,q,hd⟩
  ·exact⟨o,keep c o (I.cne x c e) hc nch ho (I.freeC x c e),hd⟩
 refine⟨I.ok,I.os,hg,⟨λb o e n hb hx=>?_,λb o e n hb hx=>?_,λb o e n hx=>?_,λb o e hx=>?_,λb xs e=>tups b xs (I.base.tups b xs e),λb o xs e=>frzs b o xs (I.base.frzs b o xs e),λb ps e=>?_⟩,?_,λx c e=>?_,?_,λx c e=>?_,λp hp=>?_,hok,I.len⟩
 ·exact keep b o (neL b o e) hb (neC b o e hx) (I.base.keep b o e n hb hx) (I.base.free b o e n hx)
 ·obtain⟨sl,e1⟩:=I.base.slot b o e n hb hx;obtain⟨sl',e2⟩:=slot b _ (neL b o e) hb (neC b o e hx) e1 (I.base.free b o e n hx);exact⟨sl',e2⟩
 ·obtain⟨o',e1⟩:=I.base.there b o e hx;exact free b o' (neC b o e hx) e1 (I.base.free b o e n hx)
 ·obtain⟨o',e1⟩:=I.base.there b o e hx;exact there b o' (neC b o e hx) e1
 ·obtain⟨m1,e1⟩:=I.base.tbls b ps e;obtain⟨m2,e2⟩:=tbls b _ e1;exact⟨m1++m2,by rw[e2,Array.append_assoc]⟩
 ·obtain⟨m,hn,hl⟩:=I.loc;refine⟨m,ns m hn,λi x v e1 e2 e3=>?_⟩;obtain⟨u,r,l⟩:=hl i x v e1 e2 e3;refine⟨u,r,?_⟩;rcases l with l |⟨k,c,e,z⟩
  ·exact .inl l
  ·exact .inr ⟨k,c,e,cellK x c e _ z⟩
 ·obtain⟨v,z⟩:=I.cell x c e;exact⟨v,cellK x c e v z⟩
 ·obtain⟨m,⟨o,_,_,ho,_⟩,_⟩:=I.loc;exact free _ o (λz=>(hch _ z).2.1 rfl) ho I.free
 ·obtain⟨v,o,ho,hd⟩:=I.cell x c e;exact free c o (λz=>(hch c z).2.2.1 x c e rfl) ho (I.freeC x c e)
 ·obtain⟨e,n,ne,nf,d⟩:=I.pin p hp;have nch:p.1∉ch:=λz=>(hch p.1 z).2.2.2 p hp rfl
  exact⟨keep p.1 p.2 ne nf nch e n,free p.1 p.2 nch e n,ne,nf,d⟩
theorem Inv.un{t':Nat}(I:Inv X pins σ H s)(u:Un X.fs [] H H' s.heap h')(hok:HOk X.prog X.w H' h'):Inv X pins σ H' { s with heap:=h',toks:=t' }:=by
 obtain⟨m,⟨o,es,ep,ho,r⟩,_⟩:=id I.loc;obtain⟨sl,hL⟩:=u.any ho I.free (by simp);exact I.step (g':=s.gens) (d':=s.drawn) (ch:=[]) (λ_ z=>nomatch z) (λb o _ hb _ e n=>u.keep b o e n hb (by simp)) (λb o _ hb _ e n=>u.slot b o e n hb (by simp)) (λb o _ e n=>u.free b o e n (by simp)) (λb o _ e=>u.there b o e (by simp)) u.tups u.frzs u.tbls (λm' hm=>by
  obtain⟨o',es',ep',ho',r'⟩:=hm;rw[ho]at ho';cases ho';exact⟨_,es',ep',hL,r'⟩) hok I.bare
theorem Inv.call{g':Array GenState}{t':Nat}{d':Drawn}(I:Inv X pins σ H s)(u:Un (frs X.stack) ch H H' s.heap h')(hok:HOk X.prog X.w H' h')(hg:AllBare g')
  (hch:∀b∈ch,(b∈X.ex\/X.s₀.heap.objs.size<=b)/\b≠X.env.locals/\(∀x c,X.env.cells.lookup x=some c->c≠b)/\∀p∈X.pn++pins,p.1≠b) :
  Inv X pins σ H' { s with heap:=h',gens:=g',drawn:=d',toks:=t' }:=by
 obtain⟨m,⟨o,es,ep,ho,r⟩,_⟩:=id I.loc;obtain⟨sl,hL⟩:=u.any ho I.free λz=>(hch _ z).2.1 rfl
 exact I.step (ch:=ch) hch (λb o hL hb hc e n=>u.keep b o e n (λz=>(xAa.mp (I.stkSub b z)).elim hL hb) hc) (λb o _ _ hc e n=>u.any e n hc) (λb o hc e n=>u.free b o e n hc) (λb o hc e=>u.there b o e hc) u.tups u.frzs u.tbls (λm' hm=>by
  obtain⟨o',es',ep',ho',r'⟩:=hm;rw[ho]at ho';cases ho';exact⟨_,es',ep',hL,r'⟩) hok hg
theorem Inv.turned{t':Nat}(I:Inv X pins σ H s)(k:∀b o,b≠it->s.heap.get? b=some o->h'.get? b=some o)(hn:H it=none)(hL:it≠X.env.locals)
  (h1:it∈X.ex\/X.s₀.heap.objs.size<=it) (h2:∀x c,X.env.cells.lookup x=some c->c≠it) (h3:∀p∈X.pn++pins,p.1≠it):Inv X pins σ H { s with heap:=h',toks:=t' }:=by
 have nit:∀b u,H b=some u->b≠it:=λb u e z=>by rw[z,hn]at e;cases e
 refine I.step (g':=s.gens) (d':=s.drawn) (ch:=[it]) (λb hb=>?_) (λb o _ _ hc e _=>k b o (λz=>hc (by simp[z])) e) (λb o _ _ hc e _=>⟨o.slots,k b o (λz=>hc (by simp[z])) e⟩) (λ_ _ _ _ n=>n)
  (λb o hc e=>⟨o,k b o (λz=>hc (by simp[z])) e⟩) (λ_ _ e=>e) (λ_ _ _ e=>e) (λb ps e=>⟨#[],by rw[e];simp⟩) (λm hm=>?_) (λb u e=>?_) I.bare
 ·have e:b=it:=by simpa using hb
  subst e;exact⟨h1,hL,h2,h3⟩
 ·obtain⟨o,es,ep,ho,r⟩:=hm;exact⟨o,es,ep,k _ o (Ne.symm hL) ho,r⟩
 ·refine(I.hok b u e).stay (λc v hc q=>k c v ?_ q) (λ_ q=>q) λ_ _ q=>q
  rcases hc with z|z
  ·rw[z];exact nit b u e
  ·exact nit c _ z
theorem Inv.tok(I:Inv X pins σ H s)(t:Nat):Inv X pins σ H { s with toks:=t }:=I.un (h':=s.heap) (t':=t) Un.refl I.hok
theorem Inv.kept{t':Nat}(I:Inv X pins σ H s)(k:∀b u,s.heap.get? b=some u->h'.get? b=some u):Inv X pins σ H { s with heap:=h',toks:=t' }:=I.un (Un.kept k) (I.hok.kept k)
theorem Inv.laid{t':Nat}(I:Inv X pins σ H s)(k:∀b u,s.heap.get? b=some u->h'.get? b=some u)(hp:s.heap.objs.size<=a)(new:zaR X.prog X.w (upd H a o) h' a o) :
  Inv X pins σ (upd H a o) { s with heap:=h',toks:=t' }:=I.un (Un.laid k hp (I.hok.fresh hp)) (I.hok.laid k hp new)
theorem Inv.write{t':Nat}(I:Inv X pins σ H s)(mu:Mut (H x))(he:e=x\/H e=some (.own x))(k:∀b u,b≠e->s.heap.get? b=some u->h'.get? b=some u)(heo:∃u,h'.get? e=some u)
  (new:zaR X.prog X.w (upd H x o) h' x o):Inv X pins σ (upd H x o) { s with heap:=h',toks:=t' }:=I.un (Un.write mu he k heo) (I.hok.write mu he k heo new)
theorem Inv.pins_of(I:Inv X pins σ H s)(h:∀p∈pins',s.heap.get? p.1=some p.2/\H p.1=none/\p.1≠X.env.locals/\p.1∉X.fs/\∀v,p.2.data≠.cell v):Inv X pins' σ H s :=
 ⟨I.ok,I.os,I.bare,I.base,I.loc,I.cell,I.free,I.freeC,λp hp=>(xAr.mp hp).elim (λz=>I.pin p (xAT _ z)) (h p),I.hok,I.len⟩
theorem yek{N:List Str}(hN:N.Nodup){i j:Nat}{x:Str}(a:N[i]?=some x)(b:N[j]?=some x):i=j:=by
 obtain⟨h1,e1⟩:=xAh.mp a;obtain⟨h2,e2⟩:=xAh.mp b;exact(List.getElem_inj hN).mp (e1.trans e2.symm)
theorem zfa{i:Nat}(I:Inv X pins σ H s)(hN:X.N.Nodup)(hi:X.N[i]?=some x)(hx:Loc X.env.scope x)(r:RelV v u)
  (h:∀s',Inv X pins (σ.set i (some v)) H s'->(∃a,Heap.SameBut a s.heap s'.heap/\(a=X.env.locals\/X.env.cells.lookup x=some a))->Q () s') (hf:X.fn x=true\/X.env.scope.names.lookup x=some .local:=by first|exact .inl rfl|exact .inr rfl|assumption):wpAny M A (storeName X.env x u) Q E s:=by
 obtain⟨m,hn,hl⟩:=id I.loc;have hcls:(X.env.scope.kind==.class||(X.env.scope.kind==.module&&X.env.locals != X.env.globals))=false:=by rw[I.ok.kind];rfl
 have hiσ:i < σ.length:=by rw[I.len];exact(xAh.mp hi).1
 have cne:=I.cne;have tracked:∀ {a:Addr} {h':Heap},(∃o,s.heap.get? a=some o/\H a=none)->Heap.SameBut a s.heap h'->HOk X.prog X.w H h':=λ{a h'} ha hs b ob e=>by
  obtain⟨_,_,hfree⟩:=ha;refine(I.hok b ob e).stay (λc w' hc q=>(hs.2 c ?_).trans q) (λ_ q=>q) λ_ _ q=>q
  rintro rfl;rcases hc with rfl|hc
  ·rw[hfree]at e;cases e
  ·rw[hfree]at hc;cases hc
 rcases hx with hk|hk
 ·refine wpAny_storeName_local hk hn (λh' hn' hs=>?_) hcls;obtain⟨oL,_,_,hoL,_⟩:=id hn;refine h _ ⟨I.ok,I.os,I.bare,⟨λb o e n hb hx=>?_,λb o e n hb hx=>?_,I.base.free,λb o e hx=>?_,I.base.tups,I.base.frzs,I.base.tbls⟩,⟨_,hn',λj y v' e1 e2 e3=>?_⟩,λy c e=>?_,I.free,I.freeC,λp hp=>?_,tracked ⟨oL,hoL,I.free⟩ hs,by simpa using I.len⟩ ⟨_,hs,.inl rfl⟩
  ·exact(hs.2 b (xAq (xAv (xAe e) I.ok.above))).trans (I.base.keep b o e n hb hx)
  ·obtain⟨sl,e1⟩:=I.base.slot b o e n hb hx;exact⟨sl,(hs.2 b (xAq (xAv (xAe e) I.ok.above))).trans e1⟩
  ·obtain⟨o',e1⟩:=I.base.there b o e hx;exact⟨o',(hs.2 b (xAq (xAv (xAe e) I.ok.above))).trans e1⟩
  ·by_cases hj:j=i
   ·subst hj;rw[hi]at e1;cases e1;rw[List.getElem?_set_self hiσ]at e2;cases e2;exact⟨u,r,.inl ⟨hk,by simp⟩⟩
   ·rw[List.getElem?_set_ne (Ne.symm hj)]at e2;obtain⟨u',r',q⟩:=hl j y v' e1 e2 e3;refine⟨u',r',?_⟩;rcases q with⟨k,e⟩ |⟨k,c,e,z⟩
    ·refine .inl ⟨k,?_⟩;have:y≠x:=λe=>hj (yek hN e1 (e ▸ hi))
     simp[this,e]
    ·exact .inr ⟨k,c,e,z.sameBut hs (cne y c e)⟩
  ·obtain⟨w',z⟩:=I.cell y c e;exact⟨w',z.sameBut hs (cne y c e)⟩
  ·obtain⟨e,n,ne,nf,d⟩:=I.pin p hp;exact⟨(hs.2 p.1 ne).trans e,n,ne,nf,d⟩
 ·have hfn:X.fn x=true:=by
   rcases hf with z|z
   ·exact z
   ·rw[z]at hk;cases hk
  obtain⟨c,hc⟩:=I.ok.has x (.inl hk);obtain⟨w',z⟩:=I.cell x c hc;refine wpAny_storeName_cell I.ok.kind hk hc z (λh' hc' hs=>?_);obtain⟨oc,hoc,hocd⟩:=id z;refine h { s with heap:=h' } ⟨I.ok,I.os,I.bare,⟨λb o e n hb hx=>?_,λb o e n hb hx=>?_,I.base.free,λb o e hx=>?_,I.base.tups,I.base.frzs,I.base.tbls⟩,⟨m,hn.sameBut hs (Ne.symm (cne x c hc)),λj y v' e1 e2 e3=>?_⟩,λy c' e=>?_,I.free,I.freeC,λp hp=>?_,tracked ⟨oc,hoc,I.freeC x c hc⟩ hs,by simpa using I.len⟩ ⟨c,hs,.inr hc⟩
  ·exact(hs.2 b (xAq (xAv (xAe e) (I.ok.cab x c hfn hc)))).trans (I.base.keep b o e n hb hx)
  ·obtain⟨sl,e1⟩:=I.base.slot b o e n hb hx;exact⟨sl,(hs.2 b (xAq (xAv (xAe e) (I.ok.cab x c hfn hc)))).trans e1⟩
  ·obtain⟨o',e1⟩:=I.base.there b o e hx;exact⟨o',(hs.2 b (xAq (xAv (xAe e) (I.ok.cab x c hfn hc)))).trans e1⟩
  ·by_cases hj:j=i
   ·subst hj;rw[hi]at e1;cases e1;rw[List.getElem?_set_self hiσ]at e2;cases e2;exact⟨u,r,.inr ⟨.inl hk,c,hc,hc'⟩⟩
   ·rw[List.getElem?_set_ne (Ne.symm hj)]at e2;obtain⟨u',r',q⟩:=hl j y v' e1 e2 e3;refine⟨u',r',?_⟩;rcases q with q |⟨k,c',e,z'⟩
    ·exact .inl q
    ·refine .inr ⟨k,c',e,z'.sameBut hs ?_⟩;rintro rfl;exact hj (yek hN e1 (I.ok.inj _ _ _ e hc ▸ hi))
  ·by_cases hcc:c'=c
   ·subst hcc;exact⟨_,hc'⟩
   ·obtain⟨w2,z2⟩:=I.cell y c' e;exact⟨w2,z2.sameBut hs hcc⟩
  ·obtain⟨e,n,ne,nf,d⟩:=I.pin p hp;refine⟨(hs.2 p.1 ?_).trans e,n,ne,nf,d⟩;intro q;rw[q,hoc]at e;have q':oc=p.2:=xAF e;exact d w' (by rw[<-q'];exact hocd)
theorem za2{i:Nat}{v:V}(I:Inv X pins σ H s)(hN:X.N.Nodup)(hi:X.N[i]?=some x)(hx:Loc X.env.scope x)(r:RelV v u)
  (h:∀s',Inv X pins (σ.set i (some v)) H s'->Q () s') (hf:X.fn x=true\/X.env.scope.names.lookup x=some .local:=by first|exact .inl rfl|exact .inr rfl|assumption):wpAny M A (storeName X.env x u) Q E s :=
 zfa I hN hi hx r (λs' I' _=>h s' I') hf
theorem Inv.call'(I:Inv X pins σ H s)(ho:s'.os=s.os)(u:Un (frs X.stack) ch H H' s.heap s'.heap)(hok:HOk X.prog X.w H' s'.heap)(hg:AllBare s'.gens)
  (hch:∀b∈ch,(b∈X.ex\/X.s₀.heap.objs.size<=b)/\b≠X.env.locals/\(∀x c,X.env.cells.lookup x=some c->c≠b)/\∀p∈X.pn++pins,p.1≠b):Inv X pins σ H' s':=by
 obtain⟨h',g',d',t',o'⟩:=s';have e:o'=s.os:=ho;subst e;exact I.call (g':=g') (t':=t') (d':=d') u hok hg hch
end
abbrev XK:=Value->Option Addr->Hp->Prop
abbrev St:=List (Option V)
abbrev VK:=V->Hp->Prop
abbrev TE:=St->Hp->VK->Prop
abbrev TT:=St->Hp->(Bool->Hp->Prop)->Prop
abbrev TA:=St->Hp->(List V->Hp->Prop)->Prop
structure Ends where
 nx:St->Hp->Prop
 rt:VK
 bk:St->Hp->Prop:=λ_ _=>False
 ct:St->Hp->Prop:=λ_ _=>False
abbrev TS:=Ends->St->Hp->Prop
noncomputable def EP(X:Cx)(pins:List (Addr×Obj))(σ:St)(Q:VK)(u:Value)(s':Shared):Prop:=Ex2 λv H'=>Inv X pins σ H' s'/\RelV v u/\Q v H'
def TP(X:Cx)(pins:List (Addr×Obj))(σ:St)(Q:Bool->Hp->Prop)(b:Bool)(s':Shared):Prop:=∃H',Inv X pins σ H' s'/\Q b H'
noncomputable def AP(X:Cx)(pins:List (Addr×Obj))(σ:St)(Q:List V->Hp->Prop)(us:List Value)(s':Shared):Prop:=Ex2 λvs H'=>Inv X pins σ H' s'/\Vals vs us/\Q vs H'
noncomputable def SP(X:Cx)(pins:List (Addr×Obj))(D:Ends)(f:Flow)(s':Shared):Prop :=
 match f with
 | .next=>Ex2 λσ' H'=>Inv X pins σ' H' s'/\D.nx σ' H'
 | .brk=>Ex2 λσ' H'=>Inv X pins σ' H' s'/\D.bk σ' H'
 | .cont=>Ex2 λσ' H'=>Inv X pins σ' H' s'/\D.ct σ' H'
 | .ret u=>Ex3 λv σ' H'=>Inv X pins σ' H' s'/\RelV v u/\D.rt v H'
noncomputable def PE(X:Cx)(e:Expr)(t:TE):Prop :=
 ∀(pins:List (Addr×Obj)) (s:Shared) (σ:St) (H:Hp) (Q:VK),Inv X pins σ H s->t σ H Q->wpAny (model X.prog X.w) X.A (eval e X.env) (EP X pins σ Q) X.xe s
noncomputable def PT(X:Cx)(e:Expr)(t:TT):Prop :=
 ∀(pins:List (Addr×Obj)) (s:Shared) (σ:St) (H:Hp) (Q:Bool->Hp->Prop),Inv X pins σ H s->t σ H Q->wpAny (model X.prog X.w) X.A (isTrue e X.env (eval e X.env)) (TP X pins σ Q) X.xe s
noncomputable def PW(X:Cx)(e:Expr)(t:TT):Prop :=
 ∀(whole:Sem Value) (pins:List (Addr×Obj)) (s:Shared) (σ:St) (H:Hp) (Q:Bool->Hp->Prop),Inv X pins σ H s->t σ H Q->wpAny (model X.prog X.w) X.A (isTrue e X.env whole) (TP X pins σ Q) X.xe s
theorem PW.pt{X:Cx}{e:Expr}{t:TT}(h:PW X e t):PT X e t:=h _
noncomputable def PA(X:Cx)(es:List Expr)(t:TA):Prop :=
 ∀(pos:Pos) (pins:List (Addr×Obj)) (s:Shared) (σ:St) (H:Hp) (Q:List V->Hp->Prop),Inv X pins σ H s->t σ H Q->wpAny (model X.prog X.w) X.A (spliced (backTo pos (starEach es X.env))) (AP X pins σ Q) X.xe s
noncomputable def PS(X:Cx)(st:Stmt)(t:TS):Prop :=
 ∀(pins:List (Addr×Obj)) (s:Shared) (σ:St) (H:Hp) (D:Ends),Inv X pins σ H s->t D σ H->wpAny (model X.prog X.w) X.A (exec st X.env) (SP X pins D) X.xe s
noncomputable def PSs(X:Cx)(st:List Stmt)(t:TS):Prop :=
 ∀(pins:List (Addr×Obj)) (s:Shared) (σ:St) (H:Hp) (D:Ends),Inv X pins σ H s->t D σ H->wpAny (model X.prog X.w) X.A (execs st X.env) (SP X pins D) X.xe s
theorem thn{α:Type}{t:Sem α}{Q Q':α->Shared->Prop}(h:wpAny M A t Q E s)(hQ:∀a s,Q a s->Q' a s):wpAny M A t Q' E s:=xBE h hQ λ_ _ x=>x
end L2
namespace L2
open PySem PySem.Spec PyProof.Rows
section
variable {X:Cx}
inductive GVar (i:Nat) (σ:St) (H:Hp) (Q:VK):Prop
 |mk (v:V) (h:σ[i]?=some (some v)) (q:Q v H):GVar i σ H Q
def tVar(i:Nat):TE:=λσ H Q=>GVar i σ H Q
def tC(v:V):TE:=λ_ H Q=>Q v H
theorem yhF{i:Nat}(hN:X.N[i]?=some x)(hv:Vis X.env.scope x)(hd:(x==("__debug__":Str))=false:=by decide)(hcd:(x==("__classdict__":Str))=false:=by decide):PE X (.Name x pos) (tVar i):=by
 intro pins s σ H Q I h;obtain⟨v,e,h⟩:=h;obtain⟨m,hn,hl⟩:=I.loc;obtain⟨u,r,l⟩:=hl i x v hN e hv;have fin:EP X pins σ Q u s:=⟨v,H,I,r,h⟩
 rcases l with⟨hk,hm⟩ |⟨hk,c,hc,hcell⟩
 ·exact wpAny_Name (wpAny_loadName_local I.ok.kind hk hn hm fin) hd
 ·rcases hk with hk|hk
  ·exact wpAny_Name (wpAny_loadName_cell I.ok.kind hk hc hcell fin) hd
  ·exact wpAny_Name (wpAny_loadName_free I.ok.kind hk hc hcell fin hcd) hd
theorem yab{i j pos}:PE X (.Constant (.int i) j pos) (tC (.int i)):=λ_ _ _ H _ I h=>wpAny_Constant_int ⟨.int i,H,I.tok _,⟨_,rfl⟩,h⟩
theorem yc4{b j pos}:PE X (.Constant (.bool b) j pos) (tC (.bl b)):=λ_ _ _ H _ I h=>Constant_bool ⟨.bl b,H,I,rfl,h⟩
theorem yas{x j pos}:PE X (.Constant (.str x) j pos) (tC (.str x)):=λ_ _ _ H _ I h=>Calls.Constant_str ⟨.str x,H,I.tok _,⟨_,rfl⟩,h⟩
def Gl(X:Cx)(x:Str):Prop:=X.env.kindOf x=some .globalImplicit
theorem zhb(I:Inv X pins σ H s)(hg:Gl X x)(hm:X.mg x=some u)(h:Q u s)
  (hd:(x==("__debug__":Str))=false:=by decide):wpAny (model X.prog X.w) X.A (eval (.Name x pos) X.env) Q E s :=
 Calls.Name_function_global I.ok.kind hg (Calls.loadGlobal_global (by rw[I.ok.glob];exact I.mod.glob.keeps I.bk) hm h) hd
theorem ybh{u:Value}(I:Inv X pins σ H s)(hg:Gl X x)(hm:X.mg x=none)(hv:bootBuiltins x=some u)(h:Q u s)
  (hn:x≠"__name__":=by decide) (hd:(x==("__debug__":Str))=false:=by decide):wpAny (model X.prog X.w) X.A (eval (.Name x pos) X.env) Q E s:=by
 obtain⟨mb,h1,h2⟩:=I.mod.blt;exact Calls.Name_function_global I.ok.kind hg (Calls.loadGlobal_builtin (by rw[I.ok.glob];exact I.mod.glob.keeps I.bk) hm (by rw[I.ok.blt];exact h1.keeps I.bk) ((h2 x hn).trans hv) h) hd
noncomputable def t2I(ta tb:TE)(k:Int->Int->Hp->Prop):St->Hp->Prop:=λσ H=>ta σ H λx H1=>tb σ H1 λy H2=>Ex2 λi j=>x = .int i/\y = .int j/\k i j H2
variable {a b:Expr} {ta tb:TE} {pos:Pos}
noncomputable def PC(X:Cx)(op:CmpOp)(a b:Expr)(t:TE):Prop :=
 ∀(pins:List (Addr×Obj)) (s:Shared) (σ:St) (H:Hp) (Q:VK),Inv X pins σ H s->t σ H Q->
  wpAny (model X.prog X.w) X.A (eval a X.env) (λv s₁=>wpAny (model X.prog X.w) X.A (eval b X.env) (λu s₂=>wpAny (model X.prog X.w) X.A (compareOp op v u) (EP X pins σ Q) X.xe s₂) X.xe s₁) X.xe s
def tCmp(p:Int->Int->Bool)(ta tb:TE):TE:=λσ H Q=>t2I ta tb (λi j H2=>Q (.bl (p i j)) H2) σ H
abbrev tLt:TE->TE->TE:=tCmp λi j=>decide (i<j)
abbrev tLe:TE->TE->TE:=tCmp λi j=>decide (i<=j)
abbrev tGt:TE->TE->TE:=tCmp λi j=>decide (j<i)
abbrev tGe:TE->TE->TE:=tCmp λi j=>decide (j<=i)
abbrev tEqI:TE->TE->TE:=tCmp λi j=>decide (i=j)
abbrev tNeI:TE->TE->TE:=tCmp λi j=>!decide (i=j)
def tB(t:TE):TT:=λσ H Q=>t σ H λx H1=>∃c,x = .bl c/\Q c H1
theorem pt_cmp{op:CmpOp}(h:PC X op a b t)(h1:behindInMarks op b=false:=by first|exact nobehind _ (by decide) (by decide)|rfl):PT X (.Compare a [op] [b] pos) (tB t):=by
 intro pins s σ H Q I hw;refine wpAny_isTrue_Compare1 (thn (h pins s σ H _ I hw) λv s1 h1=>thn h1 λu s2 h2=>thn h2 λc s3 ⟨x,H1,I1,r1,q1⟩=>?_) h1;obtain⟨d,rfl,q⟩:=q1;cases r1;exact wpAny_truthy_bool ⟨H1,I1,q⟩
theorem zep{e:Expr}{t:TE}(h:PE X e t)(he:∀whole,isTrue e X.env whole=(do let v <-whole;standAt e.pos;holding [v] (truthy v)):=by intro _;rfl):PT X e (tB t):=by
 intro pins s σ H Q I hw;refine isTrue_plain (thn (h pins s σ H _ I hw) λv s1 ⟨x,H1,I1,r1,q1⟩=>?_) (he _);obtain⟨d,rfl,q⟩:=q1;cases r1;exact wpAny_truthy_bool ⟨H1,I1,q⟩
variable {tA tB':TT} {rest:List Expr}
def tAnd(t u:TT):TT:=λσ H Q=>t σ H λc H1=>if c=true then u σ H1 Q else Q false H1
def tOr(t u:TT):TT:=λσ H Q=>t σ H λc H1=>if c=true then Q true H1 else u σ H1 Q
def tNot(t:TT):TT:=λσ H Q=>t σ H λc H1=>Q (!c) H1
theorem ydS(ha:PT X a tA):PW X (.BoolOp .And [a] pos) tA:=by
 intro wh pins s σ H Q I h;refine isTrue_and (thn (ha pins s σ H Q I h) λc s1 e=>?_);cases c with
 |true=>exact isTrue_and_nil e
 |false=>exact e
theorem ycX(ha:PT X a tA):PW X (.BoolOp .Or [a] pos) tA:=by
 intro wh pins s σ H Q I h;refine isTrue_or (thn (ha pins s σ H Q I h) λc s1 e=>?_);cases c with
 |false=>exact isTrue_or_nil e
 |true=>exact e
theorem yeZ(ha:PT X a tA)(hb:PW X (.BoolOp .And (b::rest) pos) tB'):PW X (.BoolOp .And (a::b::rest) pos) (tAnd tA tB'):=by
 intro wh pins s σ H Q I h;refine isTrue_and (thn (ha pins s σ H _ I h) λc s1 hq=>?_);obtain⟨H1,I1,q1⟩:=hq;cases c with
 |true=>exact hb wh pins s1 σ H1 Q I1 q1
 |false=>exact⟨H1,I1,q1⟩
theorem zeN(ha:PT X a tA)(hb:PW X (.BoolOp .Or (b::rest) pos) tB'):PW X (.BoolOp .Or (a::b::rest) pos) (tOr tA tB'):=by
 intro wh pins s σ H Q I h;refine isTrue_or (thn (ha pins s σ H _ I h) λc s1 hq=>?_);obtain⟨H1,I1,q1⟩:=hq;cases c with
 |true=>exact⟨H1,I1,q1⟩
 |false=>exact hb wh pins s1 σ H1 Q I1 q1
theorem zgx(ha:PT X a tA):PT X (.UnaryOp .Not a pos) (tNot tA):=by
 intro pins s σ H Q I h;exact isTrue_not (ha pins s σ H (λc H1=>Q (!c) H1) I h)
def zhY(ta tb:TE):TE:=λσ H Q=>ta σ H λx H1=>∃c,x = .bl c/\if c=true then tb σ H1 Q else Q (.bl false) H1
theorem yhV{op}{t:TE}(h:PE X a t):PE X (.BoolOp op [a] pos) t:=λpins s σ H Q I hw=>BoolOp_one (h pins s σ H Q I hw)
theorem yhI(ha:PE X a ta)(hb:PE X (.BoolOp .And (b::rest) pos) tb):PE X (.BoolOp .And (a::b::rest) pos) (zhY ta tb):=by
 intro pins s σ H Q I h;refine BoolOp_and (thn (ha pins s σ H _ I h) λv s1 hq=>?_);obtain⟨x,H1,I1,r1,q1⟩:=hq;obtain⟨c,rfl,q1⟩:=q1;cases r1;refine wpAny_truthy_bool ?_;cases c with
 |true=>exact hb pins s1 σ H1 Q I1 q1
 |false=>exact⟨.bl false,H1,I1,rfl,q1⟩
end
end L2
namespace L2
open PySem PySem.Spec PyProof.Rows
noncomputable def SqL(K:PySem.W.Frag)(H:Hp)(a:Addr)(xs:List V):Prop :=
 Rd H a (.lst xs)\/
  Ex3 λ(o:Obj) (its:Array Value) (n:Nat)=>K.lookup a=some o/\o.cls = .type "list"/\o.dict=none/\o.data = .seq its n/\its.size<=sizeLine/\Vals xs its.toList
noncomputable def SqT(K:PySem.W.Frag)(H:Hp)(a:Addr)(xs:List V):Prop :=
 Rd H a (.tup xs)\/
  Ex3 λ(o:Obj) (its:Array Value) (n:Nat)=>K.lookup a=some o/\o.cls = .type "tuple"/\o.data = .seq its n/\its.size<=sizeLine/\Vals xs its.toList
noncomputable def absV:Value->Option V
 | .none=>some .non
 | .bool b=>some (.bl b)
 | .int i _=>some (.int i)
 | .str x _=>some (.str x)
 | .bytes b _=>some (.byt b)
 | .float b _=>some (.flt b)
 | .ref a=>some (.ref a)
 | .type n=>some (.ty n)
 |_=>none
theorem RelV.abs(r:RelV x u):absV u=some x:=by
 cases x with
 |non=>cases r;rfl
 |bl _=>cases r;rfl
 |int _=>obtain⟨t,rfl⟩:=r;rfl
 |str _=>obtain⟨t,rfl⟩:=r;rfl
 |byt _=>obtain⟨t,rfl⟩:=r;rfl
 |flt _=>obtain⟨t,rfl⟩:=r;rfl
 |ref _=>cases r;rfl
 |ty _=>cases r;rfl
theorem RelV.inj(r:RelV x u)(q:RelV y u):x=y:=xAF (r.abs.symm.trans q.abs)
theorem Vals.inj(h:Vals xs us)(h2:Vals ys us):xs=ys:=by
 induction h generalizing ys with
 |nil=>cases h2;rfl
 |cons r t ih=>cases h2 with|cons r' t'=>rw[r.inj r',ih t']
section
variable {X:Cx} {pins:List (Addr×Obj)} {σ:St} {H:Hp} {s:Shared} {a:Addr} {xs ys:List V}
theorem SqL.of{K:PySem.W.Frag}(h:H a=some (.lst xs)):SqL K H a xs:=.inl (.inl h)
theorem SqT.of{K:PySem.W.Frag}(h:H a=some (.tup xs)):SqT K H a xs:=.inl (.inl h)
theorem Inv.list(I:Inv X pins σ H s)(h:SqL X.K H a xs):∃its:List Value,Vals xs its/\PlainL s.heap a its.toArray/\xs.length<=sizeLine:=by
 rcases h with h |⟨o,its,n,hk,hc,hd,hs,hz,r⟩
 ·obtain⟨z,its,n,r,e⟩:=h.ok I.hok;exact⟨its,r,⟨_,n,e,rfl,rfl,rfl⟩,z⟩
 ·refine⟨its.toList,r,⟨o,n,I.kIn a o hk,hc,hd,by simpa using hs⟩,?_⟩;have e:=r.length;simp only[xA4]at e
  lia
theorem Inv.tuple(I:Inv X pins σ H s)(h:SqT X.K H a xs):∃its:List Value,Vals xs its/\IsTup s.heap a its.toArray/\xs.length<=sizeLine:=by
 rcases h with h |⟨o,its,n,hk,hc,hs,hz,r⟩
 ·obtain⟨z,its,r,p⟩:=h.ok I.hok;exact⟨its,r,p,z⟩
 ·refine⟨its.toList,r,⟨o,I.kIn a o hk,hc,n,by simpa using hs⟩,?_⟩;have e:=r.length;simp only[xA4]at e
  lia
theorem Inv.list_inj(I:Inv X pins σ H s)(h:SqL X.K H a xs)(h':SqL X.K H a ys):xs=ys:=by
 obtain⟨its,r,⟨o,n,e,_,_,d⟩,_⟩:=I.list h;obtain⟨its',r',⟨o',n',e',_,_,d'⟩,_⟩:=I.list h';rw[e]at e';cases e';rw[d]at d';injection d' with d1 _;have:its=its':=by simpa using congrArg Array.toList d1
 subst this;exact r.inj r'
theorem Inv.tuple_inj(I:Inv X pins σ H s)(h:SqT X.K H a xs)(h':SqT X.K H a ys):xs=ys:=by
 obtain⟨its,r,⟨o,e,_,n,d⟩,_⟩:=I.tuple h;obtain⟨its',r',⟨o',e',_,n',d'⟩,_⟩:=I.tuple h';rw[e]at e';cases e';rw[d]at d';injection d' with d1 _;have:its=its':=by simpa using congrArg Array.toList d1
 subst this;exact r.inj r'
end
abbrev Cx.wish(X:Cx)(E:Value->Shared->Prop):Cx:={ X with xe:=E }
abbrev Cx.nox(X:Cx):Cx:=X.wish λ_ _=>False
theorem Cx.Ok.wish{X:Cx}(ok:X.Ok)(E:Value->Shared->Prop):(X.wish E).Ok :=
 ⟨ok.mod,ok.kind,ok.glob,ok.blt,ok.above,ok.inj,ok.has,ok.cab,ok.hd,ok.frames,ok.stk,ok.exf,ok.bs,ok.bsz,ok.noex,ok.exfs,ok.funs,ok.frf⟩
theorem Cx.Ok.unwish{X:Cx}{E:Value->Shared->Prop}(ok:(X.wish E).Ok):X.Ok :=
 ⟨ok.mod,ok.kind,ok.glob,ok.blt,ok.above,ok.inj,ok.has,ok.cab,ok.hd,ok.frames,ok.stk,ok.exf,ok.bs,ok.bsz,ok.noex,ok.exfs,ok.funs,ok.frf⟩
section
variable {X:Cx} {pins:List (Addr×Obj)} {σ:St} {H:Hp} {s:Shared} {E:Value->Shared->Prop}
theorem Inv.wish(I:Inv X pins σ H s)(E:Value->Shared->Prop):Inv (X.wish E) pins σ H s:=⟨I.ok.wish E,I.os,I.bare,I.base,I.loc,I.cell,I.free,I.freeC,I.pin,I.hok,I.len⟩
theorem Inv.unwish(I:Inv (X.wish E) pins σ H s):Inv X pins σ H s:=⟨I.ok.unwish,I.os,I.bare,I.base,I.loc,I.cell,I.free,I.freeC,I.pin,I.hok,I.len⟩
theorem SP.unwish{f:Flow}(h:SP (X.wish E) pins D f s'):SP X pins D f s':=by
 cases f with
 |next=>obtain⟨σ',H',I,q⟩:=h;exact⟨σ',H',I.unwish,q⟩
 |brk=>obtain⟨σ',H',I,q⟩:=h;exact⟨σ',H',I.unwish,q⟩
 |cont=>obtain⟨σ',H',I,q⟩:=h;exact⟨σ',H',I.unwish,q⟩
 |ret u=>obtain⟨v,σ',H',I,r,q⟩:=h;exact⟨v,σ',H',I.unwish,r,q⟩
theorem PSs.nox{st:List Stmt}{t:TS}(h:PSs X.nox st t):PSs X st t:=λpins s σ H D I hw=>
 xBE (h pins s σ H D (I.wish _) hw) (λ_ _ q=>q.unwish) λ_ _ z=>False.elim z
end
section
variable {X:Cx} {st:Stmt} {rest:List Stmt} {t u:TS} {e:Expr} {te:TE} {pos:Pos}
def yh9:TS:=λD σ H=>D.nx σ H
def tSeq(t u:TS):TS:=λD σ H=>t { D with nx:=u D } σ H
theorem yam:PSs X [] yh9:=λ_ _ σ H _ I h=>wpAny_execs_nil ⟨σ,H,I,h⟩
theorem yf3(h1:PS X st t)(h2:PSs X rest u):PSs X (st::rest) (tSeq t u):=by
 intro pins s σ H D I h;refine wpAny_execs_cons (thn (h1 pins s σ H { D with nx:=u D } I h) λf s1 q=>?_);cases f with
 |next=>
  obtain⟨σ',H',I',q⟩:=q;exact h2 pins s1 σ' H' D I' q
 |ret v=>exact q
 |brk=>exact q
 |cont=>exact q
theorem yg7(h1:PS X st t):PSs X [st] t:=by
 intro pins s σ H D I h;refine wpAny_execs_cons (thn (h1 pins s σ H D I h) λf s1 q=>?_);cases f with
 |next=>exact wpAny_execs_nil q
 |ret v=>exact q
 |brk=>exact q
 |cont=>exact q
theorem Inv.quiet(I:Inv X pins σ H s):interactive X.env=false:=by simp[interactive,I.ok.kind]
def yhC(te:TE):TS:=λD σ H=>te σ H λ_ H1=>D.nx σ H1
theorem zbK(he:PE X e te)(hs:swapsWith e none pos.line X.env=pure false:=by rfl):PS X (.Expr e pos) (yhC te):=by
 intro pins s σ H D I h;exact wpAny_Expr_any (thn (he pins s σ H _ I h) λv s1 ⟨x,H1,I1,r1,q1⟩=>⟨σ,H1,I1,q1⟩) I.quiet hs
def tRet(te:TE):TS:=λD σ H=>te σ H D.rt
theorem yhp(he:PE X e te):PS X (.Return (some e) pos) (tRet te):=by
 intro pins s σ H D I h;exact wpAny_Return_some (thn (he pins s σ H _ I h) λv s1 ⟨x,H1,I1,r1,q1⟩=>⟨x,σ,H1,I1,r1,q1⟩)
def tIfS(c:TT)(t u:TS):TS:=λD σ H=>c σ H λb H1=>if b=true then t D σ H1 else u D σ H1
theorem yhY{c:Expr}{a b:List Stmt}{tc:TT}(hc:PT X c tc)(ha:PSs X a t)(hb:PSs X b u):PS X (.If c a b pos) (tIfS tc t u):=by
 intro pins s σ H D I h;refine wpAny_If (thn (hc pins s σ H _ I h) λd s1 hq=>?_);obtain⟨H1,I1,q1⟩:=hq;cases d with
 |true=>exact ha pins s1 σ H1 D I1 q1
 |false=>exact hb pins s1 σ H1 D I1 q1
end
abbrev TG:=V->St->Hp->(St->Hp->Prop)->Prop
abbrev TGs:=List V->St->Hp->(St->Hp->Prop)->Prop
noncomputable def PG(X:Cx)(target:Expr)(t:TG):Prop :=
 ∀(pins:List (Addr×Obj)) (s:Shared) (σ:St) (H:Hp) (v:V) (u:Value) (Q:St->Hp->Prop),Inv X pins σ H s->RelV v u->t v σ H Q->
  wpAny (model X.prog X.w) X.A (assign target X.env u) (λ_ s'=>Ex2 λσ' H'=>Inv X pins σ' H' s'/\Q σ' H') X.xe s
noncomputable def PGs(X:Cx)(ts:List Expr)(t:TGs):Prop :=
 ∀(pins:List (Addr×Obj)) (s:Shared) (σ:St) (H:Hp) (vs:List V) (us:List Value) (Q:St->Hp->Prop),Inv X pins σ H s->Vals vs us->t vs σ H Q->
  wpAny (model X.prog X.w) X.A (assignInOrder ((assignEach ts X.env).map (·.2)) us) (λ_ s'=>Ex2 λσ' H'=>Inv X pins σ' H' s'/\Q σ' H') X.xe s
abbrev TSet:=V->V->V->Hp->(Hp->Prop)->Prop
noncomputable def PSet(X:Cx)(t:TSet):Prop :=
 ∀(pins:List (Addr×Obj)) (s:Shared) (σ:St) (H:Hp) (o i v:V) (ov iv u:Value) (Q:Hp->Prop),Inv X pins σ H s->RelV o ov->RelV i iv->RelV v u->t o i v H Q->
  wpAny (model X.prog X.w) X.A (setItem ov iv u) (λ_ s'=>∃H',Inv X pins σ H' s'/\Q H') X.xe s
abbrev TIp:=V->V->Hp->VK->Prop
section
variable {X:Cx} {pos:Pos}
def yap(i:Nat):TG:=λv σ H Q=>Q (σ.set i (some v)) H
theorem yeV{i:Nat}{x:Str}(hN:X.N.Nodup)(hi:X.N[i]?=some x)(hx:Loc X.env.scope x)(hf:X.fn x=true\/X.env.scope.names.lookup x=some .local:=by first|exact .inl rfl|exact .inr rfl|assumption):PG X (.Name x pos) (yap i):=by
 intro pins s σ H v u Q I r h;exact wpAny_assign_Name (za2 I hN hi hx r (λs' I'=>⟨_,H,I',h⟩) hf)
def gNil:TGs:=λvs σ H Q=>vs=[]/\Q σ H
inductive zhB (t:TG) (u:TGs) (vs:List V) (σ:St) (H:Hp) (Q:St->Hp->Prop):Prop
 |mk (v:V) (r:List V) (e:vs=v::r) (q:t v σ H λσ' H'=>u r σ' H' Q):zhB t u vs σ H Q
def zh7(t:TG)(u:TGs):TGs:=λvs σ H Q=>zhB t u vs σ H Q
theorem yaB:PGs X [] gNil:=by
 intro pins s σ H vs us Q I r h;obtain⟨e,h⟩:=h;subst e;cases r;exact assignInOrder_nil ⟨σ,H,I,h⟩
theorem yf8{e:Expr}{es:List Expr}{t:TG}{u:TGs}(h1:PG X e t)(h2:PGs X es u)
  (hs:(assignEach (e::es) X.env).map (·.2)=assign e X.env::(assignEach es X.env).map (·.2):=by rfl):PGs X (e::es) (zh7 t u):=by
 intro pins s σ H vs us Q I r h;obtain⟨v,vr,e1,h⟩:=h;subst e1;cases r with
 |cons r rr=>
  rw[hs];refine assignInOrder_cons (thn (h1 pins s σ H _ _ _ I r h) λ_ s1 hq=>?_);obtain⟨σ1,H1,I1,q1⟩:=hq;exact h2 pins s1 σ1 H1 _ _ Q I1 rr q1
inductive GTup (K:PySem.W.Frag) (n:Nat) (t:TGs) (v:V) (σ:St) (H:Hp) (Q:St->Hp->Prop):Prop
 |mk (a:Addr) (xs:List V) (e:v = .ref a) (h:SqT K H a xs) (l:xs.length=n) (q:t xs σ H Q):GTup K n t v σ H Q
def gTup(K:PySem.W.Frag)(n:Nat)(t:TGs):TG:=λv σ H Q=>GTup K n t v σ H Q
theorem ycZ{es:List Expr}{k:Nat}{t:TGs}{n:Nat}(hc:X.calm=true)(h:PGs X es t)
  (hn:(assignEach es X.env).length=n:=by rfl) (hst:(assignEach es X.env).findIdx? (·.1)=none:=by rfl):PG X (.Tuple es k pos) (gTup X.K n t):=by
 intro pins s σ H v u Q I r hw;obtain⟨a,xs,e1,hq,hl,hw⟩:=hw;subst e1;cases r;obtain⟨its,rv,ht,hz⟩:=I.tuple hq;refine assign_Tuple_tuple (I.ok.hd hc) ht (by simp[hn,<-hl,rv.length]) hst λh' hx=>?_
 have I1:Inv X pins σ H { s with heap:=h' }:=I.kept (t':=s.toks) λb o e=>hx b o (xAq (xAe e)) e
 exact h pins _ σ H xs _ Q I1 (by simpa using rv) hw
def gSub(to ti:TE)(t:TSet):TG:=λv σ H Q=>to σ H λo H1=>ti σ H1 λi H2=>t o i v H2 λH3=>Q σ H3
theorem ydC{o i:Expr}{to ti:TE}{t:TSet}(ho:PE X o to)(hi:PE X i ti)(hs:PSet X t)
  (ha:∀v,assign (.Subscript o i pos) X.env v=(do
   let ov <-holding [v] (eval o X.env)
   let iv <-holding [v,ov] (eval i X.env)
   standAt pos
   holding [v,ov,iv] (setItem ov iv v)
   release [v,ov,iv] []):=by intro _;rfl):PG X (.Subscript o i pos) (gSub to ti t):=by
 intro pins s σ H v u Q I r h;rw[ha];refine xA0 (xB9 (thn (ho pins s σ H _ I h) λov s1 hq=>?_));obtain⟨x,H1,I1,r1,q1⟩:=hq;refine xA0 (xB9 (thn (hi pins s1 σ H1 _ I1 q1) λiv s2 hq=>?_));obtain⟨y,H2,I2,r2,q2⟩:=hq;refine xA0 (wpAny_standAt (xA0 (xB9 (thn (hs pins s2 σ H2 x y v ov iv u _ I2 r1 r2 r q2) λ_ s3 hq=>?_))));obtain⟨H3,I3,q3⟩:=hq;exact wpAny_release ⟨σ,H3,I3,q3⟩
def tAsg(te:TE)(g:TG):TS:=λD σ H=>te σ H λx H1=>g x σ H1 D.nx
theorem ycS{tg e:Expr}{te:TE}{g:TG}(he:PE X e te)(hg:PG X tg g)(hs:swapsWithSole [tg] e pos.line X.env=pure false:=by rfl)(hw:swappedStores [tg] e X.env=pure none:=by rfl)
  (h1:(assignEach [tg] X.env).map (·.2)=[assign tg X.env]:=by rfl):PS X (.Assign [tg] e pos) (tAsg te g):=by
 intro pins s σ H D I h;refine wpAny_Assign_stores (thn (he pins s σ H _ I h) λv s1 ⟨x,H1,I1,r1,q1⟩=>?_) hs hw;rw[h1];exact thn (hg pins s1 σ H1 x v _ I1 r1 q1) λ_ s2 q=>q
theorem yhw{i:Nat}{x:Str}{e:Expr}{te:TE}{pos':Pos}(hN:X.N.Nodup)(hi:X.N[i]?=some x)(hx:Loc X.env.scope x)(he:PE X e te)(hs:swapsWith e (some (.Name x pos')) pos.line X.env=pure false:=by rfl)(hf:X.fn x=true\/X.env.scope.names.lookup x=some .local:=by first|exact .inl rfl|exact .inr rfl|assumption) :
  PS X (.Assign [.Name x pos'] e pos) (tAsg te (yap i)):=by
 intro pins s σ H D I h;refine wpAny_Assign_Name (thn (he pins s σ H _ I h) λv s1 ⟨y,H1,I1,r1,q1⟩=>?_) hs;exact za2 I1 hN hi hx r1 (λs2 I2=>⟨_,H1,I2,q1⟩) hf
inductive GPar (i j:Nat) (D:Ends) (vs:List V) (σ:St) (H:Hp):Prop
 |mk (v w:V) (e:vs=[v,w]) (q:D.nx ((σ.set i (some v)).set j (some w)) H):GPar i j D vs σ H
def tPar(i j:Nat)(ta:TA):TS:=λD σ H=>ta σ H λvs H1=>GPar i j D vs σ H1
theorem zbj{i j:Nat}{x y:Str}{a b:Expr}{ta:TA}{px py pt:Pos}{kt k2 pt2}(hc:X.calm=true)(hN:X.N.Nodup)(hi:X.N[i]?=some x)(hj:X.N[j]?=some y)(hij:i≠j)
  (hx:X.env.scope.names.lookup x=some .local) (hy:X.env.scope.names.lookup y=some .local) (ha:PA X [a,b] ta)
  (hw:swappedStores [.Tuple [.Name x px,.Name y py] kt pt] (.Tuple [a,b] k2 pt2) X.env=pure (some [x,y]))
  (hs:swapsWithSole [.Tuple [.Name x px,.Name y py] kt pt] (.Tuple [a,b] k2 pt2) pos.line X.env=pure false:=by rfl) :
  PS X (.Assign [.Tuple [.Name x px,.Name y py] kt pt] (.Tuple [a,b] k2 pt2) pos) (tPar i j ta):=by
 intro pins s σ H D I h;rw[exec_Assign_arm];refine xA0 (wpAny_standAt ?_);rw[hs];refine xA0 (xA3 ?_);rw[if_neg (by decide)];refine xA0 (Tuple_ (thn (ha _ pins s σ H _ I h) λus s1 hq=>?_));obtain⟨vs,H1,I1,r1,q1⟩:=hq;obtain⟨v,w,e1,q1⟩:=q1;subst e1;obtain⟨u1,u2,rfl,rv,rw'⟩:Ex2 λu1 u2=>us=[u1,u2]/\RelV v u1/\RelV w u2:=by
  cases r1 with
  |cons p q=>
   cases q with
   |cons p' q'=>
    cases q';exact⟨_,_,rfl,p,p'⟩
 refine xAG ?_ (by show 2<=sizeLine;decide);have I2:Inv X pins σ H1 { s1 with heap:=s1.heap.push { cls:=.type "tuple",data:=.seq [u1,u2].toArray } }:=I1.kept (t':=s1.toks) λb o e=>xA2 _ e
 rw[hw];refine xA0 (xA3 ?_);show wpAny (model X.prog X.w) X.A (do rule "assign.swapped-stores";let items <-unpackItems (.ref s1.heap.objs.size) 2 none;assignInOrder [λv=>bindName X.env y v,λv=>bindName X.env x v] items.reverse;pure Flow.next) _ _ _;refine xA0 (xBA (xA0 (unpackItems_tuple (items:=#[u1,u2]) (I.ok.hd hc) (IsTup.new s1.heap _) λh' hx'=>?_)));have I3:=I2.kept (h':=h') (t':=s1.toks) λb o e=>hx' b o (xAq (xAe e)) e
 show wpAny _ _ (assignInOrder [λv=>bindName X.env y v,λv=>bindName X.env x v] [u2,u1] >>= λ_=>pure Flow.next) _ _ _;refine xA0 (assignInOrder_cons (wpAny_bindName (za2 I3 hN hj (.inl hy) rw' (λs2 I4=>?_) (.inr hy))));refine assignInOrder_cons (wpAny_bindName (za2 I4 hN hi (.inl hx) rv (λs3 I5=>assignInOrder_nil (xA3 ?_)) (.inr hx)));rw[List.set_comm _ _ (Ne.symm hij)]at I5;exact⟨_,H1,I5,q1⟩
end
section
variable {X:Cx} {pos:Pos}
noncomputable def ygu(c:TT)(tb:TS):TS:=λD σ H=>∃W:Nat->St->Hp->Prop,(∃m,W m σ H)/\∀m σ H,W m σ H->
 c σ H λb H1=>if b=true then ∃N:St->Hp->Prop,(∀σ' H',N σ' H'->∃m',m'<m/\W m' σ' H')/\tb { D with nx:=N,ct:=N,bk:=D.nx } σ H1 else D.nx σ H1
theorem zbB{c:Expr}{body:List Stmt}{tc:TT}{tb:TS}(hp:PassesOwn (model X.prog X.w) X.A X.env X.xe)(hc:PT X c tc)(hb:PSs X body tb):PS X (.While c body [] pos) (ygu tc tb):=by
 intro pins s σ H D I h;obtain⟨W,⟨m0,w0⟩,turn⟩:=h;refine wpAny_While (codeAny_whileLoop (λn s'=>Ex2 λσ' H'=>Inv X pins σ' H' s'/\W n σ' H') ?_ m0 ⟨σ,H,I,w0⟩);rintro n s1 ⟨σ1,H1,I1,w1⟩;refine wpAny_passesOwn hp (thn (hc pins s1 σ1 H1 _ I1 (turn n σ1 H1 w1)) λb s2 hq=>?_);obtain⟨H2,I2,q2⟩:=hq;cases b with
 |true=>
  obtain⟨N,hN,q2⟩:=q2;rw[if_pos rfl];refine wpAny_passesOwn hp (thn (hb pins s2 σ1 H2 _ I2 q2) λf s3 q3=>?_);cases f with
  |next=>
   obtain⟨σ3,H3,I3,n3⟩:=q3;obtain⟨m',hm,w3⟩:=hN σ3 H3 n3;exact⟨m',hm,σ3,H3,I3,w3⟩
  |cont=>
   obtain⟨σ3,H3,I3,n3⟩:=q3;obtain⟨m',hm,w3⟩:=hN σ3 H3 n3;exact⟨m',hm,σ3,H3,I3,w3⟩
  |brk=>exact q3
  |ret v=>exact q3
 |false=>
  rw[if_neg xAm];exact wpAny_execs_nil ⟨σ1,H2,I2,q2⟩
end
structure It where
 go:Nat->Hp->Prop
 yld:Nat->Hp->V->Hp->Prop
 stop:Nat->Hp->Prop
noncomputable def FpOk(X:Cx)(pins:List (Addr×Obj))(H:Hp)(b:Addr):Prop :=
 H b=none/\b≠X.env.locals/\b∉X.fs/\(b∈X.ex\/X.s₀.heap.objs.size<=b)/\(∀x c,X.env.cells.lookup x=some c->c≠b)/\∀p∈X.pn++pins,p.1≠b
theorem Inv.fpOk(I:Inv X pins σ H s)(hb:s.heap.objs.size<=b)(hn:H' b=none):FpOk X pins H' b:=by
 refine⟨hn,xBy (xAv I.lt hb),I.nofs hb,.inr (xAz I.sz hb),λx c e z=>?_,λp hp z=>?_⟩
 ·obtain⟨v,q⟩:=I.cell x c e;exact absurd (xAv q.lt (by rw[z];exact hb)) (Nat.lt_irrefl _)
 ·exact absurd (xAv (xAe (I.pin p hp).1) (by rw[z];exact hb)) (Nat.lt_irrefl _)
structure Turn(P:Program)(w:World)(K:PySem.W.Frag)(tg:Expr)(J:It)(fp:List Addr)(it:Addr)(tn:Nat->Heap->Prop):Prop where
 mem:it∈fp
 obj:∀i h,tn i h->∀b∈fp,∃o,h.get? b=some o/\∀v,o.data≠.cell v
 keep:∀i h h',tn i h->(∀b∈fp,∀o,h.get? b=some o->h'.get? b=some o)->tn i h'
 item:∀(X:Cx),X.prog=P->X.w=w->X.K=K->X.calm=true->∀(i:Nat) (pins:List (Addr×Obj)) (s:Shared) (σ:St) (H:Hp) (E:Value->Shared->Prop),Inv X pins σ H s->(∀b∈fp,FpOk X pins H b)->tn i s.heap->J.go i H->
  wpAny (model P w) X.A (pyNext (.ref it)) (λr s1=>∃u,r=some u/\
   wpAny (model P w) X.A (letOwnedTupleGo tg (.ref it) u) (λ_ s2=>Ex2 λx H'=>Inv X pins σ H' s2/\RelV x u/\J.yld i H x H'/\tn (i+1) s2.heap/\∀b∈fp,H' b=none) E s1) E s
 done:∀(X:Cx),X.prog=P->X.w=w->X.K=K->X.calm=true->∀(i:Nat) (pins:List (Addr×Obj)) (s:Shared) (σ:St) (H:Hp) (E:Value->Shared->Prop),Inv X pins σ H s->(∀b∈fp,FpOk X pins H b)->tn i s.heap->J.stop i H->
  wpAny (model P w) X.A (pyNext (.ref it)) (λr s1=>r=none/\Inv X pins σ H s1) E s
 self:∀(A:Around) (i:Nat) (s:Shared) (Q:Value->Shared->Prop) (E:Value->Shared->Prop),tn i s.heap->Q (.ref it) s->wpAny (model P w) A (pyIter (.ref it)) Q E s
abbrev TI:=St->Hp->(It->Hp->Prop)->Prop
noncomputable def PIE(X:Cx)(pins:List (Addr×Obj))(σ:St)(tg:Expr)(R:It->Hp->Prop)(itv:Value)(s2:Shared):Prop :=
 Ex5 λ(it:Addr) (fp:List Addr) (tn:Nat->Heap->Prop) (J:It) (H':Hp)=>itv = .ref it/\Inv X pins σ H' s2/\Turn X.prog X.w X.K tg J fp it tn/\tn 0 s2.heap/\(∀b∈fp,FpOk X pins H' b)/\R J H'
noncomputable def PI(X:Cx)(tg iter:Expr)(wi:TI):Prop :=
 ∀(pins:List (Addr×Obj)) (s:Shared) (σ:St) (H:Hp) (R:It->Hp->Prop),Inv X pins σ H s->wi σ H R->
  wpAny (model X.prog X.w) X.A (eval iter X.env) (λv s1=>wpAny (model X.prog X.w) X.A (pyIter v) (PIE X pins σ tg R) X.xe s1) X.xe s
theorem ygj{s:Shared}{n:String}(ho:s.heap.get? it=some o)(hc:o.cls = .type n)(hd:o.data = .fields vs)
  (hn:["enumerate","zip","dict_itemiterator","dict_reverseitemiterator","odict_iterator","itertools.zip_longest","itertools.pairwise"].contains n=false) (hQ:Q () s):wpAny M A (letOwnedTupleGo tg (.ref it) u) Q E s:=by
 unfold letOwnedTupleGo;cases tg <;> first
  |exact xA3 hQ
  |(cases u <;> first
    |exact xA3 hQ
    |(refine xA0 (wpAny_load ho ?_)
      rw[hc,hd];show wpAny M A (if (["enumerate","zip","dict_itemiterator","dict_reverseitemiterator","odict_iterator","itertools.zip_longest","itertools.pairwise"].contains n&&vs[0]?==some (rawInt _))=true then _ else _) Q E s;rw[if_neg (by intro h;rw[hn,Bool.false_and]at h;cases h)];exact xA3 hQ))
noncomputable def Itl(K:PySem.W.Frag)(a:Addr):It :=
 ⟨λi H=>Ex2 λxs x=>SqL K H a xs/\xs[i]?=some x,λi H x H'=>H'=H/\∀xs,SqL K H a xs->xs[i]?=some x,λi H=>∃xs,SqL K H a xs/\xs.length<=i⟩
noncomputable def Itt(K:PySem.W.Frag)(a:Addr):It :=
 ⟨λi H=>Ex2 λxs x=>SqT K H a xs/\xs[i]?=some x,λi H x H'=>H'=H/\∀xs,SqT K H a xs->xs[i]?=some x,λi H=>∃xs,SqT K H a xs/\xs.length<=i⟩
def Itr(lo:Int)(n:Nat):It:=⟨λi _=>i<n,λi H x H'=>H'=H/\x = .int (lo+i),λi _=>n<=i⟩
theorem yeX{P:Program}{w:World}{K:PySem.W.Frag}{tg:Expr}(a it:Addr):Turn P w K tg (Itl K a) [it] it (λi h=>h.IsListIter it a i) where
 mem:=by simp
 obj:=λi h st b hb=>by
  have e:b=it:=by simpa using hb
  subst e;obtain⟨o,e,c,d⟩:=st;exact⟨o,e,λv z=>by rw[d]at z;cases z⟩
 keep:=λi h h' st k=>st.at λo e=>k it (by simp) o e
 item:=by
  intro X hP hw hK hc i pins s σ H E I hf st hg;subst hP hw hK;obtain⟨xs,x,hq,hx⟩:=hg;obtain⟨its,rv,p,hz⟩:=I.list hq;obtain⟨u,hu,ru⟩:=rv.get hx;obtain⟨f0,f1,f2,f3,f4,f5⟩:=hf it (by simp);refine wpAny_pyNext_list_item st p.isList (x:=u) (by simpa using hu) λh' st' sb=>?_
  have I1:Inv X pins σ H { s with heap:=h' }:=I.turned (t':=s.toks) (λb o hb e=>(sb.2 b hb).trans e) f0 f1 f3 f4 f5;obtain⟨o,e,c,d⟩:=id st';exact⟨u,rfl,ygj (s:={ s with heap:=h' }) e c d (by decide) ⟨x,H,I1,ru,⟨rfl,λys hy=>by rw[I.list_inj hy hq];exact hx⟩,st',λb hb=>(hf b hb).1⟩⟩
 done:=by
  intro X hP hw hK hc i pins s σ H E I hf st hg;subst hP hw hK;obtain⟨xs,hq,hx⟩:=hg;obtain⟨its,rv,p,hz⟩:=I.list hq;obtain⟨f0,f1,f2,f3,f4,f5⟩:=hf it (by simp);have hl:=rv.length;exact wpAny_pyNext_list_end (I.ok.hd hc) st p.isList (by simp;lia) λh' eb=>⟨rfl,I.turned (t':=s.toks) (λb o hb e=>eb b o hb e) f0 f1 f3 f4 f5⟩
 self:=λ_ _ _ _ _ st h=>wpAny_pyIter_listiter st h
theorem yeD{P:Program}{w:World}{K:PySem.W.Frag}{tg:Expr}(a it:Addr):Turn P w K tg (Itt K a) [it] it (λi h=>h.IsTupleIter it a i) where
 mem:=by simp
 obj:=λi h st b hb=>by
  have e:b=it:=by simpa using hb
  subst e;obtain⟨o,e,c,d⟩:=st;exact⟨o,e,λv z=>by rw[d]at z;cases z⟩
 keep:=λi h h' st k=>st.at λo e=>k it (by simp) o e
 item:=by
  intro X hP hw hK hc i pins s σ H E I hf st hg;subst hP hw hK;obtain⟨xs,x,hq,hx⟩:=hg;obtain⟨its,rv,p,hz⟩:=I.tuple hq;obtain⟨u,hu,ru⟩:=rv.get hx;obtain⟨f0,f1,f2,f3,f4,f5⟩:=hf it (by simp);refine wpAny_pyNext_tuple_item st (show s.heap.IsTuple a its.toArray from p) (x:=u) (by simpa using hu) λh' st' sb=>?_
  have I1:Inv X pins σ H { s with heap:=h' }:=I.turned (t':=s.toks) (λb o hb e=>(sb.2 b hb).trans e) f0 f1 f3 f4 f5;obtain⟨o,e,c,d⟩:=id st';exact⟨u,rfl,ygj (s:={ s with heap:=h' }) e c d (by decide) ⟨x,H,I1,ru,⟨rfl,λys hy=>by rw[I.tuple_inj hy hq];exact hx⟩,st',λb hb=>(hf b hb).1⟩⟩
 done:=by
  intro X hP hw hK hc i pins s σ H E I hf st hg;subst hP hw hK;obtain⟨xs,hq,hx⟩:=hg;obtain⟨its,rv,p,hz⟩:=I.tuple hq;obtain⟨f0,f1,f2,f3,f4,f5⟩:=hf it (by simp);have hl:=rv.length;exact wpAny_pyNext_tuple_end (I.ok.hd hc) st (show s.heap.IsTuple a its.toArray from p) (by simp;lia) λh' eb=>⟨rfl,I.turned (t':=s.toks) (λb o hb e=>eb b o hb e) f0 f1 f3 f4 f5⟩
 self:=λ_ _ _ _ _ st h=>wpAny_pyIter_tupleiter st h
theorem zeD{P:Program}{w:World}{K:PySem.W.Frag}{tg:Expr}(it:Addr)(lo:Int)(n:Nat):Turn P w K tg (Itr lo n) [it] it (λi h=>IsRangeIter h it (lo+(i:Nat)*1) ((n:Int)-(i:Nat)) 1) where
 mem:=by simp
 obj:=λi h st b hb=>by
  have e:b=it:=by simpa using hb
  subst e;exact⟨_,st,λv z=>by
   have z':Data.fields _=Data.cell v:=z;cases z'⟩
 keep:=λi h h' st k=>k it (by simp) _ st
 item:=by
  intro X hP hw hK hc i pins s σ H E I hf st hg;subst hP hw hK;obtain⟨f0,f1,f2,f3,f4,f5⟩:=hf it (by simp);have W:=Walks.range (prog:=X.prog) (w:=X.w) (I.ok.hd hc) it lo 1 n;refine W.item i s _ _ hg st λv h' tk hv st' kk=>?_
  obtain⟨t,rfl⟩:=hv;have I1:Inv X pins σ H { s with heap:=h',toks:=tk }:=I.turned (λb o hb e=>kk b o (by simpa using hb) e) f0 f1 f3 f4 f5;refine⟨_,rfl,ygj (s:={ s with heap:=h',toks:=tk }) (n:="range_iterator") st' rfl rfl (by decide) ⟨.int (lo+i),H,I1,⟨t,?_⟩,⟨rfl,rfl⟩,st',λb hb=>(hf b hb).1⟩⟩;rw[Int.mul_one]
 done:=by
  intro X hP hw hK hc i pins s σ H E I hf st hg;subst hP hw hK;obtain⟨f0,f1,f2,f3,f4,f5⟩:=hf it (by simp);exact wpAny_pyNext_range_end (I.ok.hd hc) st (by have:n<=i:=hg;lia) λh' eb=>⟨rfl,I.turned (t':=s.toks) (λb o hb e=>eb b o hb e) f0 f1 f3 f4 f5⟩
 self:=λ_ _ _ _ _ st h=>wpAny_pyIter_rangeiter st h
end L2
namespace L2
open PySem PySem.Spec PyProof.Rows
section
variable {X:Cx} {tg:Expr}
inductive GItl (K:PySem.W.Frag) (x:V) (H:Hp) (R:It->Hp->Prop):Prop
 |mk (a:Addr) (e:x = .ref a) (h:∃xs,SqL K H a xs) (q:R (Itl K a) H):GItl K x H R
inductive GItt (K:PySem.W.Frag) (x:V) (H:Hp) (R:It->Hp->Prop):Prop
 |mk (a:Addr) (e:x = .ref a) (h:∃xs,SqT K H a xs) (q:R (Itt K a) H):GItt K x H R
def zic(K:PySem.W.Frag)(tl:TE):TI:=λσ H R=>tl σ H λx H1=>GItl K x H1 R
def iTup(K:PySem.W.Frag)(tl:TE):TI:=λσ H R=>tl σ H λx H1=>GItt K x H1 R
theorem zaH{l:Expr}{tl:TE}(hl:PE X l tl):PI X tg l (zic X.K tl):=by
 intro pins s σ H R I h;refine thn (hl pins s σ H _ I h) λv s1 hq=>?_
 obtain⟨x,H1,I1,r1,q1⟩:=hq;obtain⟨a,e,⟨xs,hq⟩,q⟩:=q1;subst e;cases r1;obtain⟨its,rv,p,hz⟩:=I1.list hq;refine wpAny_pyIter_list p.isList ?_;refine⟨s1.heap.objs.size,[s1.heap.objs.size],_,_,H1,rfl,I1.kept (t':=s1.toks) λb o e=>xA2 _ e,yeX a _,⟨_,xA6 _ rfl,rfl,rfl⟩,λb hb=>?_,q⟩;have e:b=s1.heap.objs.size:=by simpa using hb
 subst e;exact I1.fpOk (xA5 _) (I1.hok.fresh (xA5 _))
theorem zem{l:Expr}{tl:TE}(hl:PE X l tl):PI X tg l (iTup X.K tl):=by
 intro pins s σ H R I h;refine thn (hl pins s σ H _ I h) λv s1 hq=>?_
 obtain⟨x,H1,I1,r1,q1⟩:=hq;obtain⟨a,e,⟨xs,hq⟩,q⟩:=q1;subst e;cases r1;obtain⟨its,rv,p,hz⟩:=I1.tuple hq;refine wpAny_pyIter_tuple (show s1.heap.IsTuple a its.toArray from p) ?_;refine⟨s1.heap.objs.size,[s1.heap.objs.size],_,_,H1,rfl,I1.kept (t':=s1.toks) λb o e=>xA2 _ e,yeD a _,⟨_,xA6 _ rfl,rfl,rfl⟩,λb hb=>?_,q⟩;have e:b=s1.heap.objs.size:=by simpa using hb
 subst e;exact I1.fpOk (xA5 _) (I1.hok.fresh (xA5 _))
theorem yew{R:It->Hp->Prop}{lo hi:Int}{tk:Nat}(I:Inv X pins σ H s)(h1 : -(2^62)<=lo)(h2:lo<2^62)(h3 : -(2^62)<=hi)(h4:hi<2^62)
  (q:R (Itr lo (hi-lo).toNat) H):wpAny (model X.prog X.w) X.A (pyIter (.ref s.heap.objs.size)) (PIE X pins σ tg R) E { s with heap:=s.heap.push { cls:=.type "range",data:=.fields #[.int lo t,.int hi u,.int 1 v] },toks:=tk }:=by
 refine wpAny_pyIter_range (IsRange.new ..) (small_one h1 h2 h3 h4) ?_;have I1:Inv X pins σ H { s with heap:=s.heap.push { cls:=.type "range",data:=.fields #[.int lo t,.int hi u,.int 1 v] },toks:=tk }:=I.kept λb o e=>xA2 _ e
 refine⟨(s.heap.push { cls:=.type "range",data:=.fields #[.int lo t,.int hi u,.int 1 v] }).objs.size,[(s.heap.push { cls:=.type "range",data:=.fields #[.int lo t,.int hi u,.int 1 v] }).objs.size],_,_,H,rfl,
  I1.kept (t':=tk) λb o e=>xA2 _ e,zeD _ lo (hi-lo).toNat,?_,λb hb=>?_,q⟩
 ·have e1:lo+((0:Nat):Int)*1=lo:=by simp
  have e2:(((hi-lo).toNat:Nat):Int)-((0:Nat):Int)=Builtin.Range.rangeSize lo hi 1:=by rw[rangeSize_one];split <;> lia
  show IsRangeIter _ _ (lo+((0:Nat):Int)*1) ((((hi-lo).toNat:Nat):Int)-((0:Nat):Int)) 1;rw[e1,e2];exact xA6 _ rfl
 ·have e:b=(s.heap.push { cls:=.type "range",data:=.fields #[.int lo t,.int hi u,.int 1 v] }).objs.size:=by simpa using hb
  subst e;exact I1.fpOk (xA5 _) (I1.hok.fresh (xA5 _))
inductive GRng (vs:List V) (H:Hp) (R:It->Hp->Prop):Prop
 |mk (j:Int) (e:vs=[.int j]) (a : -(2^62)<=j) (b:j<2^62) (q:R (Itr 0 j.toNat) H):GRng vs H R
def yh7(ta:TA):TI:=λσ H R=>ta σ H λvs H1=>GRng vs H1 R
noncomputable def zia(ta:TA):TI:=λσ H R=>ta σ H λvs H1=>Ex2 λ(i j:Int)=>vs=[.int i,.int j]/\(-(2^62)<=i/\i<2^62/\-(2^62)<=j/\j<2^62)/\R (Itr i (j-i).toNat) H1
theorem ze2{a:Expr}{ta:TA}{p pos:Pos}(hg:Gl X "range")(hm:X.mg "range"=none)(ha:PA X [a] ta)(hs:starEach [a] X.env=[(false,eval a X.env)]:=by rfl):PI X tg (.Call (.Name "range" p) [a] [] pos) (yh7 ta):=by
 intro pins s σ H R I h;refine Call_ (ybh I hg hm boot_range (xBc (thn (ha pos pins s σ H _ I h) λus s1 ⟨vs,H1,I1,r1,q1⟩=>?_) hs rfl));obtain⟨j,e,q1,q2,q⟩:=q1;subst e;cases r1 with
 |cons r rr=>
  cases rr;obtain⟨t,rfl⟩:=r;exact call_range_1 (yew I1 (by lia) (by lia) q1 q2 (by simpa using q))
theorem zbO{a b:Expr}{ta:TA}{p pos:Pos}(hg:Gl X "range")(hm:X.mg "range"=none)(ha:PA X [a,b] ta)(hs:starEach [a,b] X.env=[(false,eval a X.env),(false,eval b X.env)]:=by rfl)(hs2:starEach [b] X.env=[(false,eval b X.env)]:=by rfl) :
  PI X tg (.Call (.Name "range" p) [a,b] [] pos) (zia ta):=by
 intro pins s σ H R I h;refine Call_ (ybh I hg hm boot_range (xBc (thn (ha pos pins s σ H _ I h) λus s1 ⟨vs,H1,I1,r1,q1⟩=>?_) (by rw[hs,hs2]) (by rw[hs2];rfl)));obtain⟨i,j,e,⟨q1,q2,q3,q4⟩,q⟩:=q1;subst e;cases r1 with
 |cons r rr=>
  cases rr with
  |cons r' rr=>
   cases rr;obtain⟨t,rfl⟩:=r;obtain⟨t',rfl⟩:=r';exact call_range_2 (yew I1 q1 q2 q3 q4 q)
noncomputable def tFor(wi:TI)(g:TG)(tb:TS):TS:=λD σ H=>wi σ H λJ H1=>∃W:Nat->Nat->St->Hp->Prop,(∃m,W 0 m σ H1)/\∀i m σ H,W i m σ H->
 (J.stop i H/\D.nx σ H)\/(J.go i H/\∃N:St->Hp->Prop,(∀σ' H',N σ' H'->∃m',m'<m/\W (i+1) m' σ' H')/\∀x H',J.yld i H x H'->g x σ H' λσ2 H2=>tb { D with nx:=N,ct:=N,bk:=D.nx } σ2 H2)
def ydG(fp:List Addr)(h:Heap):List (Addr×Obj):=fp.filterMap λb=>(h.get? b).map λo=>(b,o)
theorem zbz(hb:b∈fp)(e:h.get? b=some o):(b,o)∈ydG fp h:=List.mem_filterMap.mpr ⟨b,hb,by rw[e];rfl⟩
theorem yfh{p:Addr×Obj}(hp:p∈ydG fp h):p.1∈fp/\h.get? p.1=some p.2:=by
 obtain⟨b,hb,e⟩:=List.mem_filterMap.mp hp;cases q:h.get? b with
 |none=>rw[q]at e;cases e
 |some o=>
  rw[q]at e;have e':(b,o)=p:=xAF e;subst e';exact⟨hb,q⟩
theorem Inv.pinned(I:Inv X pins σ H s)(hf:∀b∈fp,FpOk X pins H b)(ho:∀b∈fp,∃o,s.heap.get? b=some o/\∀v,o.data≠.cell v):Inv X (pins++ydG fp s.heap) σ H s :=
 I.pins_of λp hp=>(xAr.mp hp).elim (λz=>I.pin p (xAg _ z)) λz=>by
  obtain⟨hb,e⟩:=yfh z;obtain⟨f0,f1,f2,_⟩:=hf p.1 hb;obtain⟨o,e',d⟩:=ho p.1 hb;rw[e]at e';cases e';exact⟨e,f0,f1,f2,d⟩
theorem Inv.unpinned(I:Inv X (pins++pl) σ H s):Inv X pins σ H s:=I.pins_of λp hp=>I.pin p (xAg _ (xAT _ hp))
theorem yhJ{iter:Expr}{body:List Stmt}{wi:TI}{g:TG}{tb:TS}{pos:Pos}(hp:PassesOwn (model X.prog X.w) X.A X.env X.xe)(hc:X.calm=true)(hi:PI X tg iter wi)(hg:PG X tg g)(hb:PSs X body tb)
  (hs:∀x,foldedSetIterable iter X.env x=pure x:=by intro _;rfl):PS X (.For tg iter body [] pos) (tFor wi g tb):=by
 intro pins s σ H D I h;refine wpAny_For (thn (hi pins s σ H _ I h) λv s1 h1=>thn h1 λitv s2 h2=>?_) hs;obtain⟨it,fp,tn,J,H2,e,I2,T,st2,f2,W,⟨m0,w0⟩,turn⟩:=h2;subst e;have stat:∀ {H':Hp},(∀b∈fp,H' b=none)->∀b∈fp,FpOk X pins H' b:=λhn b hb=>⟨hn b hb,(f2 b hb).2⟩
 refine codeAny_forLoop_any (λn s'=>Ex3 λi σ' H'=>Inv X pins σ' H' s'/\tn i s'.heap/\(∀b∈fp,H' b=none)/\W i n σ' H') ?_ m0 ⟨0,σ,H2,I2,st2,λb hb=>(f2 b hb).1,w0⟩;rintro n s3 ⟨i,σ3,H3,I3,st3,fr3,w3⟩;rcases turn i n σ3 H3 w3 with⟨stop,qn⟩ |⟨go,N,hN,step⟩
 ·refine wpAny_passesOwn hp (thn (T.done X rfl rfl rfl hc i pins s3 σ3 H3 X.xe I3 (stat fr3) st3 stop) λr s4 hq=>?_);obtain⟨hr,I4⟩:=hq;subst hr;exact wpAny_execs_nil ⟨σ3,H3,I4,qn⟩
 ·refine wpAny_passesOwn hp (thn (T.item X rfl rfl rfl hc i pins s3 σ3 H3 X.xe I3 (stat fr3) st3 go) λr s4 hq=>?_);obtain⟨u,hr,h4⟩:=hq;subst hr;refine wpAny_passesOwn hp (thn h4 λ_ s5 hq=>?_);obtain⟨x,H5,I5,r5,y5,st5,fr5⟩:=hq;have I5':=I5.pinned (stat fr5) (T.obj _ _ st5);refine wpAny_passesOwn hp (thn (hg _ s5 σ3 H5 x u _ I5' r5 (step x H5 y5)) λ_ s6 hq=>?_);obtain⟨σ6,H6,I6,q6⟩:=hq;refine wpAny_passesOwn hp (thn (hb _ s6 σ6 H6 _ I6 q6) λf s7 q7=>?_);have again:∀ {σ7:St} {H7:Hp},Inv X (pins++ydG fp s5.heap) σ7 H7 s7->N σ7 H7->∃m,m<n/\Ex3 λi σ' H'=>Inv X pins σ' H' s7/\tn i s7.heap/\(∀b∈fp,H' b=none)/\W i m σ' H':=λ{σ7 H7} I7 n7=>by
   obtain⟨m',hm,w7⟩:=hN σ7 H7 n7;refine⟨m',hm,i+1,σ7,H7,I7.unpinned,T.keep _ _ _ st5 λb hb o e=>(I7.pin (b,o) (xAg _ (xAg _ (zbz hb e)))).1,λb hb=>?_,w7⟩;obtain⟨o,e,d⟩:=T.obj _ _ st5 b hb;exact(I7.pin (b,o) (xAg _ (xAg _ (zbz hb e)))).2.1
  cases f with
  |next=>obtain⟨σ7,H7,I7,n7⟩:=q7;exact again I7 n7
  |cont=>obtain⟨σ7,H7,I7,n7⟩:=q7;exact again I7 n7
  |brk=>obtain⟨σ7,H7,I7,q7⟩:=q7;exact⟨σ7,H7,I7.unpinned,q7⟩
  |ret v=>obtain⟨x7,σ7,H7,I7,r7,q7⟩:=q7;exact⟨x7,σ7,H7,I7.unpinned,r7,q7⟩
end
theorem zbQ{K:PySem.W.Frag}{a:Addr}{xs:List V}{g:TG}{tb:TS}{D:Ends}{σ:St}{H:Hp}(Pv:Nat->St->Hp->Prop)(h0:Pv 0 σ H)(hl:∀i σ H,i<=xs.length->Pv i σ H->SqL K H a xs)
  (hs:∀i x σ H,xs[i]?=some x->Pv i σ H->g x σ H λσ2 H2=>tb { D with nx:=Pv (i+1),ct:=Pv (i+1),bk:=D.nx } σ2 H2) (hd:∀σ H,Pv xs.length σ H->D.nx σ H) :
  ∃W:Nat->Nat->St->Hp->Prop,(∃m,W 0 m σ H)/\∀i m σ H,W i m σ H->
   ((Itl K a).stop i H/\D.nx σ H)\/((Itl K a).go i H/\∃N:St->Hp->Prop,(∀σ' H',N σ' H'->∃m',m'<m/\W (i+1) m' σ' H')/\∀x H',(Itl K a).yld i H x H'->g x σ H' λσ2 H2=>tb { D with nx:=N,ct:=N,bk:=D.nx } σ2 H2):=by
 refine⟨λi m σ H=>m=xs.length-i/\i<=xs.length/\Pv i σ H,⟨xs.length,by simp,xAR _,h0⟩,?_⟩;rintro i m σ H ⟨rfl,hi,p⟩;have q:=hl i σ H hi p;by_cases hlt:i<xs.length
 ·refine .inr ⟨⟨xs,xs[i],q,by simp[hlt]⟩,Pv (i+1),λσ' H' p'=>⟨xs.length-(i+1),by lia,rfl,hlt,p'⟩,λx H' y=>?_⟩;obtain⟨e,y⟩:=y;subst e;exact hs i x σ _ (y xs q) p
 ·have e:i=xs.length:=by lia
  subst e;exact .inl ⟨⟨xs,q,xA5 _⟩,hd σ H p⟩
theorem zaD{lo:Int}{n:Nat}{g:TG}{tb:TS}{D:Ends}{σ:St}{H:Hp}(Pv:Nat->St->Hp->Prop)(h0:Pv 0 σ H)
  (hs:∀i σ H,i<n->Pv i σ H->g (.int (lo+i)) σ H λσ2 H2=>tb { D with nx:=Pv (i+1),ct:=Pv (i+1),bk:=D.nx } σ2 H2) (hd:∀σ H,Pv n σ H->D.nx σ H) :
  ∃W:Nat->Nat->St->Hp->Prop,(∃m,W 0 m σ H)/\∀i m σ H,W i m σ H->
   ((Itr lo n).stop i H/\D.nx σ H)\/((Itr lo n).go i H/\∃N:St->Hp->Prop,(∀σ' H',N σ' H'->∃m',m'<m/\W (i+1) m' σ' H')/\∀x H',(Itr lo n).yld i H x H'->g x σ H' λσ2 H2=>tb { D with nx:=N,ct:=N,bk:=D.nx } σ2 H2):=by
 refine⟨λi m σ H=>m=n-i/\i<=n/\Pv i σ H,⟨n,by simp,xAR _,h0⟩,?_⟩;rintro i m σ H ⟨rfl,hi,p⟩;by_cases hlt:i<n
 ·refine .inr ⟨hlt,Pv (i+1),λσ' H' p'=>⟨n-(i+1),by lia,rfl,hlt,p'⟩,λx H' y=>?_⟩;obtain⟨e,y⟩:=y;subst e y;exact hs i σ _ hlt p
 ·have e:i=n:=by lia
  subst e;exact .inl ⟨xA5 _,hd σ H p⟩
end L2
namespace L2
open PySem PySem.Spec PyProof.Rows
abbrev R2:=V->V->Hp->VK->Prop
noncomputable def OpR(X:Cx)(f:Value->Value->Sem Value)(r:R2):Prop :=
 ∀(pins:List (Addr×Obj)) (s:Shared) (σ:St) (H:Hp) (x y:V) (v u:Value) (Q:VK),Inv X pins σ H s->RelV x v->RelV y u->r x y H Q->
  wpAny (model X.prog X.w) X.A (f v u) (EP X pins σ Q) X.xe s
noncomputable def UnR(X:Cx)(f:Value->Sem Value)(r:V->Hp->VK->Prop):Prop :=
 ∀(pins:List (Addr×Obj)) (s:Shared) (σ:St) (H:Hp) (x:V) (v:Value) (Q:VK),Inv X pins σ H s->RelV x v->r x H Q->
  wpAny (model X.prog X.w) X.A (f v) (EP X pins σ Q) X.xe s
noncomputable def zbo(X:Cx)(f:Value)(r:List V->Hp->VK->Prop):Prop :=
 ∀(pins:List (Addr×Obj)) (s:Shared) (σ:St) (H:Hp) (xs:List V) (us:List Value) (Q:VK),Inv X pins σ H s->Vals xs us->r xs H Q->
  wpAny (model X.prog X.w) X.A (call f us) (EP X pins σ Q) X.xe s
def tOp(r:R2)(ta tb:TE):TE:=λσ H Q=>ta σ H λx H1=>tb σ H1 λy H2=>r x y H2 Q
def tUn(r:V->Hp->VK->Prop)(ta:TE):TE:=λσ H Q=>ta σ H λx H1=>r x H1 Q
inductive GI (C:Int->Int->Prop) (g:Int->Int->V) (x y:V) (H:Hp) (Q:VK):Prop
 |mk (i j:Int) (a:x = .int i) (b:y = .int j) (q:C i j/\Q (g i j) H):GI C g x y H Q
def rI(C:Int->Int->Prop)(g:Int->Int->V):R2:=λx y H Q=>GI C g x y H Q
inductive GI0 (g:Int->Int->V) (x y:V) (H:Hp) (Q:VK):Prop
 |mk (i j:Int) (a:x = .int i) (b:y = .int j) (q:Q (g i j) H):GI0 g x y H Q
def rI0(g:Int->Int->V):R2:=λx y H Q=>GI0 g x y H Q
def rU(g:Int->V):V->Hp->VK->Prop:=λx H Q=>∃i,x = .int i/\Q (g i) H
section
variable {X:Cx} {a b c:Expr} {ta tb tc:TE} {pos:Pos}
theorem binT(ha:PE X a ta)(hb:PE X b tb){R:V->V->Hp->Prop}(I:Inv X pins σ H s)
  (h:ta σ H λx H1=>tb σ H1 λy H2=>R x y H2) {f:Value->Value->Sem Value}
  (hf:∀v u s2 x y H2,Inv X pins σ H2 s2->RelV x v->RelV y u->R x y H2->wpAny (model X.prog X.w) X.A (f v u) Q X.xe s2) :
  wpAny (model X.prog X.w) X.A (eval a X.env) (λv s₁=>wpAny (model X.prog X.w) X.A (eval b X.env) (λu s₂=>wpAny (model X.prog X.w) X.A (f v u) Q X.xe s₂) X.xe s₁) X.xe s:=by
 refine thn (ha pins s σ H _ I h) λv s1 hq=>?_
 obtain⟨x,H1,I1,r1,q1⟩:=hq;refine thn (hb pins s1 σ H1 _ I1 q1) λu s2 hq=>?_
 obtain⟨y,H2,I2,r2,q2⟩:=hq;exact hf v u s2 x y H2 I2 r1 r2 q2
theorem yid{op:Operator}{r:R2}(ho:OpR X (binaryOp op) r)(ha:PE X a ta)(hb:PE X b tb):PE X (.BinOp a op b pos) (tOp r ta tb):=by
 intro pins s σ H Q I h;exact wpAny_BinOp (binT ha hb I h λv u s2 x y H2 I2 rx ry q=>ho pins s2 σ H2 x y v u Q I2 rx ry q)
theorem yfW{op:UnaryOp}{r:V->Hp->VK->Prop}(ho:UnR X (unaryOp op) r)(ha:PE X a ta):PE X (.UnaryOp op a pos) (tUn r ta):=by
 intro pins s σ H Q I h;exact UnaryOp_ (thn (ha pins s σ H _ I h) λv s1 ⟨x,H1,I1,r1,q1⟩=>ho pins s1 σ H1 x v Q I1 r1 q1)
theorem opI{f:Value->Value->Sem Value}{C:Int->Int->Prop}{g:Int->Int->Int}
  (rule:∀(i j:Int) (t u:Tok) (s:Shared) (Q:Value->Shared->Prop) (E:Value->Shared->Prop),C i j->Q (.int (g i j) s.toks) { s with toks:=s.toks+1 }->wpAny (model X.prog X.w) X.A (f (.int i t) (.int j u)) Q E s) :
  OpR X f (rI C λi j=>.int (g i j)):=by
 intro pins s σ H x y v u Q I rx ry h;obtain⟨i,j,rfl,rfl,hc,q⟩:=h;obtain⟨t,rfl⟩:=rx;obtain⟨t',rfl⟩:=ry;exact rule i j t t' s _ _ hc ⟨.int (g i j),H,I.tok _,⟨_,rfl⟩,q⟩
theorem opI0{f:Value->Value->Sem Value}{g:Int->Int->Int}
  (rule:∀(i j:Int) (t u:Tok) (s:Shared) (Q:Value->Shared->Prop) (E:Value->Shared->Prop),Q (.int (g i j) s.toks) { s with toks:=s.toks+1 }->wpAny (model X.prog X.w) X.A (f (.int i t) (.int j u)) Q E s) :
  OpR X f (rI0 λi j=>.int (g i j)):=by
 intro pins s σ H x y v u Q I rx ry h;obtain⟨i,j,rfl,rfl,q⟩:=h;obtain⟨t,rfl⟩:=rx;obtain⟨t',rfl⟩:=ry;exact rule i j t t' s _ _ ⟨.int (g i j),H,I.tok _,⟨_,rfl⟩,q⟩
theorem opB0{f:Value->Value->Sem Value}{g:Int->Int->Bool}
  (rule:∀(i j:Int) (t u:Tok) (s:Shared) (Q:Value->Shared->Prop) (E:Value->Shared->Prop),Q (.bool (g i j)) s->wpAny (model X.prog X.w) X.A (f (.int i t) (.int j u)) Q E s) :
  OpR X f (rI0 λi j=>.bl (g i j)):=by
 intro pins s σ H x y v u Q I rx ry h;obtain⟨i,j,rfl,rfl,q⟩:=h;obtain⟨t,rfl⟩:=rx;obtain⟨t',rfl⟩:=ry;exact rule i j t t' s _ _ ⟨.bl (g i j),H,I,rfl,q⟩
def CDiv(i j:Int):Prop:=0<j/\j<1073741824
def CPow(i j:Int):Prop:=0<=j/\j<=1000000/\i.natAbs<2^64
def CMul(i j:Int):Prop:=(-(2^64)<i/\i<2^64)\/(-(2^64)<j/\j<2^64)
theorem CMul.ok{i j:Int}(h:CMul i j):IntMulOk i j:=by
 rcases h with⟨h1,h2⟩ |⟨h1,h2⟩
 ·exact .of_left (intBits_le_64 h1 h2)
 ·exact .of_right (intBits_le_64 h1 h2)
theorem yat:OpR X (binaryOp .Add) (rI0 λi j=>.int (i+j)):=opI0 λ_ _ _ _ _ _ _ q=>add_int q
theorem za7:OpR X (binaryOp .Sub) (rI0 λi j=>.int (i-j)):=opI0 λ_ _ _ _ _ _ _ q=>sub_int q
theorem yaX:OpR X (binaryOp .Mult) (rI CMul λi j=>.int (i*j)):=opI λ_ _ _ _ _ _ _ hc q=>mul_int q hc.ok
theorem zie:OpR X (binaryOp .FloorDiv) (rI CDiv λi j=>.int (i/j)):=opI λi j _ _ _ _ _ hc q=>by
 have h1:(0:Int)<j:=hc.1;have h2:j<1073741824:=hc.2;exact floordiv_int (by lia) (by rw[Int.fdiv_eq_ediv_of_nonneg i (by lia)];exact q) (.inl (PyProof.noPylong_small (by lia)))
theorem yaA:OpR X (binaryOp .Mod) (rI (λ_ j=>0<j) λi j=>.int (i%j)):=opI λi j _ _ _ _ _ hc q=>by
 have h1:(0:Int)<j:=hc;exact mod_int' (by lia) (by rw[Int.fmod_eq_emod_of_nonneg i (by lia)];exact q)
theorem zeB:OpR X (binaryOp .Pow) (rI CPow λi j=>.int (i^j.toNat)):=opI λ_ _ _ _ _ _ _ hc q=>pow_int_small hc.1 hc.2.1 hc.2.2 q
theorem zhH:OpR X (binaryOp .BitXor) (rI0 λi j=>.int (Builtin.bitXor i j)):=opI0 λ_ _ _ _ _ _ _ q=>xor_int q
theorem unI{f:Value->Sem Value}{g:Int->Int}
  (rule:∀(i:Int) (t:Tok) (s:Shared) (Q:Value->Shared->Prop) (E:Value->Shared->Prop),Q (.int (g i) s.toks) { s with toks:=s.toks+1 }->wpAny (model X.prog X.w) X.A (f (.int i t)) Q E s) :
  UnR X f (rU λi=>.int (g i)):=by
 intro pins s σ H x v Q I rx h;obtain⟨i,rfl,q⟩:=h;obtain⟨t,rfl⟩:=rx;exact rule i t s _ _ ⟨.int (g i),H,I.tok _,⟨_,rfl⟩,q⟩
theorem yev:UnR X (unaryOp .USub) (rU λi=>.int (-i)):=unI λ_ _ _ _ _ q=>neg_int q
end
noncomputable def scal:V->V->Bool
 | .non,.non=>true | .non,.int _=>true | .int _,.non=>true | .non,.bl _=>true | .bl _,.non=>true | .non,.str _=>true | .str _,.non=>true
 | .int _,.int _=>true | .bl _,.bl _=>true | .str _,.str _=>true | .byt _,.byt _=>true
 | .int _,.str _=>true | .str _,.int _=>true | .bl _,.str _=>true | .str _,.bl _=>true
 |_,_=>false
inductive GEq (x y:V) (H:Hp) (Q:VK):Prop
 |mk (h:scal x y=true) (q:Q (.bl (decide (x=y))) H):GEq x y H Q
def rEq:R2:=λx y H Q=>GEq x y H Q
inductive GNe (x y:V) (H:Hp) (Q:VK):Prop
 |mk (h:scal x y=true) (q:Q (.bl (!decide (x=y))) H):GNe x y H Q
def rNe:R2:=λx y H Q=>GNe x y H Q
theorem zfx{i j:Int}:decide (V.int i=V.int j)=(i==j):=by
 rw[Bool.eq_iff_iff];simp
theorem ygx{i j:Bool}:decide (V.bl i=V.bl j)=(i==j):=by
 rw[Bool.eq_iff_iff];simp
theorem ye6:decide (V.str i=V.str j)=(i==j):=by
 rw[Bool.eq_iff_iff];simp
theorem yfD{i j:Array UInt8}:decide (V.byt i=V.byt j)=(i.toList==j.toList):=by
 rw[Bool.eq_iff_iff];cases i;cases j;simp
section
variable {X:Cx} {a b c:Expr} {ta tb tc:TE} {pos:Pos}
theorem zan{k k':Bool}(I:Inv X pins σ H s)(q:Q (.bl k) H)(e:k=k'):EP X pins σ Q (.bool k') s:=by
 subst e;exact⟨.bl k,H,I,rfl,q⟩
theorem zbg:OpR X (compareOp .Eq) rEq:=by
 intro pins s σ H x y v u Q I rx ry h;obtain⟨hs,q⟩:=h;cases x with
 |non=>
  cases rx;cases y with
  |non=>cases ry;exact PySem.EqNone.eq_none_none (zan I q (by simp))
  |bl j=>cases ry;exact PySem.EqNone.eq_none_bool (zan I q (by simp))
  |int j=>obtain⟨t',rfl⟩:=ry;exact PySem.EqNone.eq_none_int (zan I q (by simp))
  |str j=>obtain⟨t',rfl⟩:=ry;exact PySem.EqNone.eq_none_str (zan I q (by simp))
  |_=>exact absurd (show false=true from hs) xAm
 |bl i=>
  cases rx;cases y with
  |non=>cases ry;exact PySem.EqNone.eq_bool_none (zan I q (by simp))
  |bl j=>cases ry;exact eq_bool (zan I q ygx)
  |str j=>obtain⟨t',rfl⟩:=ry;exact PySem.EqMixed.eq_bool_str (zan I q (by simp))
  |_=>exact absurd (show false=true from hs) xAm
 |int i=>
  obtain⟨t,rfl⟩:=rx;cases y with
  |non=>cases ry;exact PySem.EqNone.eq_int_none (zan I q (by simp))
  |int j=>obtain⟨t',rfl⟩:=ry;exact eq_int (zan I q zfx)
  |str j=>obtain⟨t',rfl⟩:=ry;exact PySem.EqMixed.eq_int_str (zan I q (by simp))
  |_=>exact absurd (show false=true from hs) xAm
 |str i=>
  obtain⟨t,rfl⟩:=rx;cases y with
  |non=>cases ry;exact PySem.EqNone.eq_str_none (zan I q (by simp))
  |bl j=>cases ry;exact PySem.EqMixed.eq_str_bool (zan I q (by simp))
  |int j=>obtain⟨t',rfl⟩:=ry;exact PySem.EqMixed.eq_str_int (zan I q (by simp))
  |str j=>obtain⟨t',rfl⟩:=ry;exact eq_str (zan I q ye6)
  |_=>exact absurd (show false=true from hs) xAm
 |byt i=>
  obtain⟨t,rfl⟩:=rx;cases y with
  |byt j=>obtain⟨t',rfl⟩:=ry;exact PySem.W.eq_bytes (zan I q yfD)
  |_=>exact absurd (show false=true from hs) xAm
 |_=>cases y <;> exact absurd (show false=true from hs) xAm
theorem yfq:OpR X (compareOp .NotEq) rNe:=by
 intro pins s σ H x y v u Q I rx ry h;obtain⟨hs,q⟩:=h;cases x with
 |non=>
  cases rx;cases y with
  |non=>cases ry;exact PySem.EqNone.ne_none_none (zan I q (by simp))
  |bl j=>cases ry;exact PySem.EqNone.ne_none_bool (zan I q (by simp))
  |int j=>obtain⟨t',rfl⟩:=ry;exact PySem.EqNone.ne_none_int (zan I q (by simp))
  |str j=>obtain⟨t',rfl⟩:=ry;exact PySem.EqNone.ne_none_str (zan I q (by simp))
  |_=>exact absurd (show false=true from hs) xAm
 |bl i=>
  cases rx;cases y with
  |non=>cases ry;exact PySem.EqNone.ne_bool_none (zan I q (by simp))
  |bl j=>cases ry;exact ne_bool (zan I q (congrArg not ygx))
  |str j=>obtain⟨t',rfl⟩:=ry;exact PySem.EqMixed.ne_bool_str (zan I q (by simp))
  |_=>exact absurd (show false=true from hs) xAm
 |int i=>
  obtain⟨t,rfl⟩:=rx;cases y with
  |non=>cases ry;exact PySem.EqNone.ne_int_none (zan I q (by simp))
  |int j=>obtain⟨t',rfl⟩:=ry;exact ne_int (zan I q (congrArg not zfx))
  |str j=>obtain⟨t',rfl⟩:=ry;exact PySem.EqMixed.ne_int_str (zan I q (by simp))
  |_=>exact absurd (show false=true from hs) xAm
 |str i=>
  obtain⟨t,rfl⟩:=rx;cases y with
  |non=>cases ry;exact PySem.EqNone.ne_str_none (zan I q (by simp))
  |bl j=>cases ry;exact PySem.EqMixed.ne_str_bool (zan I q (by simp))
  |int j=>obtain⟨t',rfl⟩:=ry;exact PySem.EqMixed.ne_str_int (zan I q (by simp))
  |str j=>obtain⟨t',rfl⟩:=ry;exact ne_str (zan I q (congrArg not ye6))
  |_=>exact absurd (show false=true from hs) xAm
 |byt i=>
  obtain⟨t,rfl⟩:=rx;cases y with
  |byt j=>obtain⟨t',rfl⟩:=ry;exact PySem.W.ne_bytes (zan I q (congrArg not yfD))
  |_=>exact absurd (show false=true from hs) xAm
 |_=>cases y <;> exact absurd (show false=true from hs) xAm
theorem zgY:OpR X (compareOp .Lt) (rI0 λi j=>.bl (decide (i<j))):=opB0 λ_ _ _ _ _ _ _ q=>lt_int q
theorem yhB:OpR X (compareOp .LtE) (rI0 λi j=>.bl (decide (i<=j))):=opB0 λ_ _ _ _ _ _ _ q=>le_int q
theorem yeF:OpR X (compareOp .Gt) (rI0 λi j=>.bl (decide (j<i))):=opB0 λ_ _ _ _ _ _ _ q=>gt_int q
theorem yh5:OpR X (compareOp .GtE) (rI0 λi j=>.bl (decide (j<=i))):=opB0 λ_ _ _ _ _ _ _ q=>ge_int q
theorem ycT(b:Expr){op:CmpOp}(h:op≠.In:=by decide)(h2:op≠.NotIn:=by decide):behindInMarks op b=false:=by
 have e1:(op==CmpOp.In)=false:=by cases op <;> first|rfl|exact absurd rfl h
 have e2:(op==CmpOp.NotIn)=false:=by cases op <;> first|rfl|exact absurd rfl h2
 cases b <;> simp[behindInMarks,e1,e2]
theorem zcm{op:CmpOp}{r:R2}(ho:OpR X (compareOp op) r)(ha:PE X a ta)(hb:PE X b tb)(hm:behindInMarks op b=false):PE X (.Compare a [op] [b] pos) (tOp r ta tb):=by
 intro pins s σ H Q I h;exact wpAny_Compare1 (binT ha hb I h λv u s2 x y H2 I2 rx ry q=>ho pins s2 σ H2 x y v u Q I2 rx ry q) hm
inductive GBl (x:V) (H:Hp) (Q:Bool->Hp->Prop):Prop
 |mk (k:Bool) (e:x = .bl k) (q:Q k H):GBl x H Q
def zh8(t:TE):TT:=λσ H Q=>t σ H λx H'=>GBl x H' Q
theorem zbL{op:CmpOp}{r:R2}(ho:OpR X (compareOp op) r)(ha:PE X a ta)(hb:PE X b tb)(hm:behindInMarks op b=false):PT X (.Compare a [op] [b] pos) (zh8 (tOp r ta tb)):=by
 intro pins s σ H Q I h;refine wpAny_isTrue_Compare1 (thn (ha pins s σ H _ I h) λv s1 ⟨x,H1,I1,r1,q1⟩=>thn (hb pins s1 σ H1 _ I1 q1) λu s2 ⟨y,H2,I2,r2,q2⟩=>
  thn (ho pins s2 σ H2 x y v u _ I2 r1 r2 q2) λc s3 ⟨z,H3,I3,r3,k,e,q3⟩=>?_) hm
 subst e;cases r3;exact wpAny_truthy_bool ⟨H3,I3,q3⟩
theorem zeh:(sizeLine:Nat)<2^63:=by rw[sizeLine_eq];decide
theorem ybG(r:Vals [x] us):∃u,us=[u]/\RelV x u:=by
 cases r with
 |cons r1 r2=>cases r2;exact⟨_,rfl,r1⟩
theorem yih(r:Vals [x,y] us):Ex2 λu w'=>us=[u,w']/\RelV x u/\RelV y w':=by
 cases r with
 |cons r1 r2=>
  cases r2 with
  |cons r3 r4=>cases r4;exact⟨_,_,rfl,r1,r3⟩
theorem yeu:zbo X (.builtin "abs") (λxs H Q=>∃i,xs=[.int i]/\Q (.int (if i<0 then -i else i)) H):=by
 intro pins s σ H xs us Q I r h;obtain⟨i,rfl,q⟩:=h;obtain⟨u,rfl,t,rfl⟩:=ybG r;exact call_abs_int λu tk=>⟨.int (if i<0 then -i else i),H,I.tok _,⟨_,rfl⟩,q⟩
theorem zfF(hc:X.calm=true):zbo X (.builtin "min") (λxs H Q=>Ex2 λi j=>xs=[.int i,.int j]/\Q (.int (if j<i then j else i)) H):=by
 intro pins s σ H xs us Q I r h;obtain⟨i,j,rfl,q⟩:=h;obtain⟨u,w',rfl,⟨t,rfl⟩,⟨t',rfl⟩⟩:=yih r;refine min_two_ints (I.ok.hd hc) λh' tk k=>⟨_,H,I.kept k,?_,q⟩
 by_cases hj:j<i
 ·rw[if_pos hj,if_pos hj];exact⟨_,rfl⟩
 ·rw[if_neg hj,if_neg hj];exact⟨_,rfl⟩
theorem zfs:zbo X (.type "int") (λxs H Q=>(∃i,xs=[.int i]/\Q (.int i) H)\/∃k,xs=[.bl k]/\Q (.int (if k then 1 else 0)) H):=by
 intro pins s σ H xs us Q I r h;rcases h with⟨i,rfl,q⟩ |⟨k,rfl,q⟩
 ·obtain⟨u,rfl,t,rfl⟩:=ybG r;exact call_int_int ⟨.int i,H,I,⟨_,rfl⟩,q⟩
 ·obtain⟨u,rfl,r1⟩:=ybG r;cases r1;exact call_int_bool ⟨.int (if k then 1 else 0),H,I.tok _,⟨_,rfl⟩,q⟩
end
end L2
namespace L2
open PySem PySem.Spec PyProof.Rows
structure ObjM(h:Heap)(x dx C:Addr)(mA:Str->Option Value):Prop where
 obj:h.get? x=some (PySem.W.instObj C dx)
 ns:h.Ns1 dx mA
 ne:dx≠x
theorem RelO.some_of{v:V}{o:Option Value}(r:RelO (some v) o):∃u,o=some u/\RelV v u:=by
 cases o with
 |none=>exact(show False from r).elim
 |some u=>exact⟨u,rfl,r⟩
structure Cls(K:PySem.W.Frag)(C:Addr):Prop where
 pg:PySem.W.plainGet K C Str.empty=true
 hd:PySem.W.hasDictIn K C=true
 po:PySem.W.plainOver K C=true
 sa:PySem.W.findIn K (.ref C) "__setattr__"=some (some (.builtin "object.__setattr__"))
structure Con(K:PySem.W.Frag)(C:Addr)(f:Str)(v:V)(u:Value):Prop where
 at_:PySem.W.findIn K (.ref C) f=some (some u)
 rel:RelV v u
 get:PySem.W.specialIn K u "__get__"=some none
 cp:PySem.W.copiedNames.contains f=false
structure Meth(K:PySem.W.Frag)(C:Addr)(m:Str)(f:Addr):Prop where
 at_:PySem.W.findIn K (.ref C) m=some (some (.ref f))
 fn:PySem.W.isFn K (.ref f)=true
 kp:PySem.W.keepIn K (.ref f)=true
section
variable {X:Cx} {pins:List (Addr×Obj)} {σ:St} {H:Hp} {s:Shared} {A:Around} {E:Value->Shared->Prop} {Q:Value->Shared->Prop} {c:Value} {b:Bool}
inductive TyOf (K:PySem.W.Frag) (H:Hp):V->Value->Prop where
 |non:TyOf K H .non (.type "NoneType")
 |bl (x:Bool):TyOf K H (.bl x) (.type "bool")
 |int (i:Int):TyOf K H (.int i) (.type "int")
 |str (x:Str):TyOf K H (.str x) (.type "str")
 |flt (x:UInt64):TyOf K H (.flt x) (.type "float")
 |lst {a:Addr} {xs:List V} (e:H a=some (.lst xs)):TyOf K H (.ref a) (.type "list")
 |frz {a:Addr} {o:Obj} {xs:List V} (e:H a=some (.frz o (.lst xs))):TyOf K H (.ref a) (.type "list")
 |tup {a:Addr} {xs:List V} (e:H a=some (.tup xs)):TyOf K H (.ref a) (.type "tuple")
 |dK {a:Addr} {kvs:List (Key×V)} (e:H a=some (.dK kvs)):TyOf K H (.ref a) (.type "dict")
 |dT {a:Addr} {kvs:List (List Key×V)} (e:H a=some (.dT kvs)):TyOf K H (.ref a) (.type "dict")
 |ins {a C dx:Addr} {fs:List (Str×V)} (e:H a=some (.ins C dx fs)) (cl:Cls K C) (ha:PySem.W.findIn K (.ref C) "__class__"=some (some (.builtin "object.__class__")))
   (hn:PySem.W.specialIn K (.builtin "object.__class__") "__get__"=some (some (.builtin "getset_descriptor.__get__"))) (htk:PySem.W.takesIn K (.builtin "object.__class__")=some true)
   (hm:PySem.W.mroIn K C (.type "object")=some true):TyOf K H (.ref a) (.ref C)
end
end L2
namespace L2
open PySem PySem.Spec PyProof.Rows
structure Room(k:Nat)(A:Around):Prop where
 hd:A.handled=none
 dp:A.depth+3*k+5<recursionLimit
 un:A.units+16*k+200<cLine
 gd:A.guards=some []
theorem Room.mono{j k:Nat}(r:Room k A)(h:j<=k):Room j A:=⟨r.hd,by have:=r.dp;lia,by have:=r.un;lia,r.gd⟩
theorem Room.deeper{k:Nat}(r:Room (k+1) A)(env:Env):Room k (A.deeper env) :=
 ⟨r.hd,by have:=r.dp;show A.depth+1+3*k+5<_;lia,by have:=r.un;show A.units+3+16*k+200<_;lia,r.gd⟩
theorem Room.depth{k:Nat}(r:Room k A):A.depth<recursionLimit:=by have:=r.dp;lia
theorem Room.units{k:Nat}(r:Room k A):A.units+64<cLine:=by have:=r.un;lia
theorem Room.units0{k:Nat}(r:Room k A):A.units<cLine:=by have:=r.un;lia
def tNil:TA:=λ_ H Q=>Q [] H
def zcK(ta:TE)(tr:TA):TA:=λσ H Q=>ta σ H λx H1=>tr σ H1 λxs H2=>Q (x::xs) H2
section
variable {X:Cx} {e:Expr} {es:List Expr} {te:TE} {t:TA} {pos:Pos}
theorem zab:PA X [] tNil:=λ_ _ _ _ H Q I h=>Calls.spliced_nil ⟨[],H,I,.nil,h⟩
theorem zde(ha:PE X e te)(hr:PA X es t)(hs:starEach (e::es) X.env=(false,eval e X.env)::starEach es X.env:=by rfl):PA X (e::es) (zcK te t):=by
 intro pos pins s σ H Q I h;rw[hs];show wpAny _ _ (spliced ((false,eval e X.env)::backTo pos (starEach es X.env))) _ _ s;refine Calls.spliced_cons (thn (ha pins s σ H _ I h) λu s1 hq=>?_);obtain⟨x,H1,I1,r1,q1⟩:=hq;exact thn (hr pos pins s1 σ H1 _ I1 q1) λus s2 ⟨xs,H2,I2,r2,q2⟩=>⟨x::xs,H2,I2,.cons r1 r2,q2⟩
def tTup(t:TA):TE:=λσ H Q=>t σ H λxs H1=>xs.length<=sizeLine/\∀p,H1 p=none->Q (.ref p) (upd H1 p (.tup xs))
def tLst(t:TA):TE:=λσ H Q=>t σ H λxs H1=>xs.length<=sizeLine/\∀p,H1 p=none->Q (.ref p) (upd H1 p (.lst xs))
theorem yaM{x1}(h:PA X es t):PE X (.Tuple es x1 pos) (tTup t):=by
 intro pins s σ H Q I hq;refine wpAny_Tuple_spliced (thn (h pos pins s σ H _ I hq) λus s1 ⟨xs,H1,I1,r,z,q⟩=>⟨by rw[<-r.length];exact z,?_⟩);have hf:H1 s1.heap.objs.size=none:=I1.hok.fresh (xA5 _);refine⟨.ref s1.heap.objs.size,upd H1 s1.heap.objs.size (.tup xs),I1.laid (t':=s1.toks) (λb u e=>xA2 _ e) (xA5 _) ?_,rfl,q _ hf⟩;exact⟨z,us,r,⟨_,xA6 _ rfl,rfl,_,rfl⟩⟩
theorem yax(h:PA X es t):PE X (.List es pos) (tLst t):=by
 intro pins s σ H Q I hq;refine wpAny_List_spliced (thn (h pos pins s σ H _ I hq) λus s1 ⟨xs,H1,I1,r,z,q⟩=>⟨by rw[<-r.length];exact z,?_⟩);have hf:H1 s1.heap.objs.size=none:=I1.hok.fresh (xA5 _);refine⟨.ref s1.heap.objs.size,upd H1 s1.heap.objs.size (.lst xs),I1.laid (t':=s1.toks) (λb u e=>xA2 _ e) (xA5 _) ?_,rfl,q _ hf⟩;exact⟨z,us,0,r,xA6 _ rfl⟩
end
abbrev Sp:=List V->Hp->VK->XK->Prop
abbrev CXT:=List Env->Hp->Shared->XK->Value->Shared->Prop
structure Env0(P:Program)(w:World)(K:PySem.W.Frag)(mg:Str->Option Value)(base:Heap)(A:Around)(outer:List Env)(s:Shared)(H:Hp):Prop where
 frames:A.frames=some outer
 mod:Mod K mg base
 bs:∀b o,base.get? b=some o->s.heap.get? b=some o/\H b=none
 bsz:base.objs.size<=s.heap.objs.size
 funs:s.heap.FunFrames base outer
 frf:∀b∈frs outer,H b=none
 hok:HOk P w H s.heap
 bare:AllBare s.gens
noncomputable def CE(outer:List Env)(P:Program)(w:World)(H:Hp)(s:Shared)(Q:VK)(u:Value)(s':Shared):Prop :=
 Ex2 λv H'=>s'.os=s.os/\AllBare s'.gens/\Un (frs outer) [] H H' s.heap s'.heap/\HOk P w H' s'.heap/\RelV v u/\Q v H'
noncomputable def CR(CX:CXT)(outer:List Env)(P:Program)(w:World)(H:Hp)(s:Shared)(Q:VK)(E:XK)(r:Result)(s':Shared):Prop :=
 match r with
 | .ok (.ret u)=>CE outer P w H s Q u s'
 | .ok _=>False
 | .error e=>CX outer H s E e s'
structure FnOk(P:Program)(w:World)(K:PySem.W.Frag)(mg:Str->Option Value)(base:Heap)(CX:CXT)(k:Nat)(f:Addr)(fd:FuncData)(ps:List Str)(sp:Sp):Prop where
 len:∀vs H Q E,sp vs H Q E->vs.length=ps.length
 run:∀(A:Around) (outer:List Env) (s:Shared) (H:Hp) (args:Args) (us:List Value) (vs:List V) (Q:VK) (E:XK),Room k A->Env0 P w K mg base A outer s H->BindsTo s fd args (ps.zip us)->Vals vs us->sp vs H Q E->
  codeAny (model P w) A (.call (.ref f) args) (CR CX outer P w H s Q E) s
theorem FnOk.imp{K:PySem.W.Frag}{CX:CXT}{k:Nat}(F:FnOk P w K mg base CX k f fd ps sp)
  (h:∀vs H Q E,sp' vs H Q E->sp vs H Q E):FnOk P w K mg base CX k f fd ps sp' :=
 ⟨λvs H Q E q=>F.len vs H Q E (h _ _ _ _ q),λA outer s H args us vs Q E hr he hb hv hs=>F.run A outer s H args us vs Q E hr he hb hv (h _ _ _ _ hs)⟩
section
variable {X:Cx} {pins:List (Addr×Obj)} {σ:St} {H:Hp} {s s':Shared}
theorem Inv.env0(I:Inv X pins σ H s):Env0 X.prog X.w X.K X.mg X.base X.A X.stack s H :=
 ⟨I.ok.frames,I.ok.mod,I.bs,xAz I.ok.bsz I.sz,I.stack,I.stkFree,I.hok,I.bare⟩
theorem Inv.after(I:Inv X pins σ H s)(h:CE X.stack X.prog X.w H s Q u s'):EP X pins σ Q u s':=by
 obtain⟨v,H',os,bare,un,hok,r,q⟩:=h;obtain⟨hh,g,d,t,os'⟩:=s';obtain rfl:os'=s.os:=os;exact⟨v,H',I.call (h':=hh) (g':=g) (d':=d) (t':=t) (ch:=[]) un hok bare (λb z=>absurd z (by simp)),r,q⟩
end
def zgL(sp:Sp)(dvs:List V)(E:XK)(t:TA):TE:=λσ H Q=>t σ H λvs H1=>sp (vs++dvs) H1 Q E
noncomputable def yeI(K:PySem.W.Frag)(fd:FuncData)(ps:List Str)(ds:List Value):Prop :=
 ∀(s:Shared) (us:List Value),K.In s.heap->(us++ds).length=ps.length->BindsTo s fd ⟨us,[]⟩ (ps.zip (us++ds))
theorem yeI.all{K:PySem.W.Frag}(h:∀us:List Value,us.length=ps.length->bindArgs fd ⟨us,[]⟩=pure (ps.zip us)):yeI K fd ps []:=λs us _ hl=>by
 rw[xBu]at hl ⊢;exact .of_eq (h us hl)
noncomputable def ye1(CX:CXT)(X:Cx)(E:XK):Prop:=∀(pins:List (Addr×Obj)) (σ:St) (H:Hp) (s:Shared) (e:Value) (s':Shared),Inv X pins σ H s->CX X.stack H s E e s'->X.xe e s'
section
variable {X:Cx} {CX:CXT} {k:Nat} {f C:Addr} {fd:FuncData} {ps:List Str} {sp:Sp} {dvs:List V} {ds:List Value} {E:XK} {x m:Str} {p pos apos:Pos} {e o:Expr} {es:List Expr} {ta:TE} {t:TA}
theorem zhT(F:FnOk X.prog X.w X.K X.mg X.base CX k f fd ps sp)(hr:Room k X.A)(hb:yeI X.K fd ps ds)(hd:Vals dvs ds)(hx:ye1 CX X E)
  (I:Inv X pins σ H s) (r:Vals vs us) (h:sp (vs++dvs) H Q E):wpAny (model X.prog X.w) X.A (call (.ref f) us) (EP X pins σ Q) X.xe s:=by
 have r2:Vals (vs++dvs) (us++ds):=r.append hd;have hl:(us++ds).length=ps.length:=by rw[<-r2.length];exact F.len _ _ _ _ h
 refine wpAny_call (codeAny_mono (F.run X.A X.stack s H ⟨us,[]⟩ (us++ds) (vs++dvs) Q E hr I.env0 (hb s us I.kIn hl) r2 h) λr s' hq=>?_);cases r with
 |error e=>exact hx pins σ H s e s' I hq
 |ok fl=>
  cases fl with
  |ret u=>exact I.after hq
  |next=>exact False.elim hq
  |brk=>exact False.elim hq
  |cont=>exact False.elim hq
theorem zgQ(F:FnOk X.prog X.w X.K X.mg X.base CX k f fd ps sp)(hr:Room k X.A)(hg:Gl X x)(hm:X.mg x=some (.ref f))(hk:PySem.W.keepIn X.K (.ref f)=true)(hb:yeI X.K fd ps ds)(hd:Vals dvs ds)(hx:ye1 CX X E)
  (ha:PA X (e::es) t) (hdb:(x==("__debug__":Str))=false:=by decide) (he:starEach (e::es) X.env=(false,eval e X.env)::starEach es X.env:=by rfl) (hpl:(backTo pos (starEach es X.env)).any (·.1)=false:=by rfl) :
  PE X (.Call (.Name x p) (e::es) [] pos) (zgL sp dvs E t):=by
 intro pins s σ H Q I h;refine wpAny_Call_Name_kw (zhb I hg hm ?_ hdb);refine PySem.W.callWith_K (h₀:=X.base) I.ok.mod.kin hk (thn (ha pos pins s σ H _ I h) λus s1 ⟨vs,H1,I1,r,q⟩=>⟨I1.kIn,?_⟩) he hpl;exact zhT F hr hb hd hx I1 r q
structure Mk(K:PySem.W.Frag)(C f:Addr):Prop where
 makes:PySem.W.makesIn K C=true
 init:PySem.W.findIn K (.ref C) "__init__"=some (some (.ref f))
 fn:PySem.W.isFn K (.ref f)=true
 kp:PySem.W.keepIn K (.ref C)=true
end
section
variable {X:Cx} {CX:CXT} {k:Nat} {f C:Addr} {fd:FuncData} {ps ks:List Str} {sp:Sp} {E:XK} {x m:Str} {p pos apos kpos:Pos} {e o:Expr} {es:List Expr} {kws:List Keyword} {te ta:TE} {t tk:TA} {nm:Option Str}
structure KBinds(K:PySem.W.Frag)(fd:FuncData)(ps ks:List Str)(g:List Value->List Value->List Value)(gV:List V->List V->List V):Prop where
 to:∀(s:Shared) (us ws:List Value),K.In s.heap->(g us ws).length=ps.length->BindsTo s fd ⟨us,ks.zip ws⟩ (ps.zip (g us ws))
 rel:∀ {vs:List V} {us:List Value} {zs:List V} {ws:List Value},Vals vs us->Vals zs ws->Vals (gV vs zs) (g us ws)
variable {g:List Value->List Value->List Value} {gV:List V->List V->List V}
end
structure yag(N P:List Str)(sc:Scope):Prop where
 kind:sc.kind = .function
 co:sc.isCoroutine=false
 gen:sc.isGenerator=false
 nd:N.Nodup
 pre:N.take P.length=P
 par:∀x∈P,sc.names.lookup x=some .local\/sc.names.lookup x=some .cell
 nofree:∀y∈sc.names,y.2≠.free
theorem zdK{kindOf:Str->Option NameKind}:∀ {binds:List (Str×Value)} {m:Str->Option Value},(∀v,(x,v)∉binds)->bindL kindOf binds m x=m x
 | [],_,_=>rfl
 |(n,v)::r,m,h=>by
  unfold bindL;rw[zdK λw hw=>h w (xAb _ hw)];split
  ·have:x≠n:=by rintro rfl;exact h v xA7
   simp[this]
  ·rfl
theorem ydy{kindOf:Str->Option NameKind}:∀ {binds:List (Str×Value)} {m:Str->Option Value},(∀v,(x,v)∉binds)->bindC kindOf binds m x=m x
 | [],_,_=>rfl
 |(n,v)::r,m,h=>by
  unfold bindC;rw[ydy λw hw=>h w (xAb _ hw)];split
  ·rfl
  ·have:x≠n:=by rintro rfl;exact h v xA7
   simp[this]
theorem zdO{kindOf:Str->Option NameKind}:∀ {P:List Str} {vs:List Value} {i:Nat} {m:Str->Option Value},P.Nodup->P[i]?=some x->vs[i]?=some v->kindOf x=some .local->
  bindL kindOf (P.zip vs) m x=some v
 | [],_,_,_,_,h,_,_=>by simp at h
 |_::_,[],_,_,_,_,h,_=>by simp at h
 |p::P,w::vs,0,m,nd,h1,h2,hk=>by
  simp at h1 h2;subst h1;subst h2;show bindL kindOf ((p,w)::P.zip vs) m p=_;unfold bindL;rw[zdK λv hv=>(xBd.mp nd).1 (List.of_mem_zip hv).1,if_pos hk];simp
 |p::P,w::vs,i+1,m,nd,h1,h2,hk=>by
  show bindL kindOf ((p,w)::P.zip vs) m x=_;unfold bindL;exact zdO (i:=i) (xBd.mp nd).2 (by simpa using h1) (by simpa using h2) hk
theorem zdI{kindOf:Str->Option NameKind}{x:Str}{v:Value}:∀ {P:List Str} {vs:List Value} {i:Nat} {m:Str->Option Value},P.Nodup->P[i]?=some x->vs[i]?=some v->kindOf x≠some .local->
  bindC kindOf (P.zip vs) m x=some v
 | [],_,_,_,_,h,_,_=>by simp at h
 |_::_,[],_,_,_,_,h,_=>by simp at h
 |p::P,w::vs,0,m,nd,h1,h2,hk=>by
  simp at h1 h2;subst h1;subst h2;show bindC kindOf ((p,w)::P.zip vs) m p=_;unfold bindC;rw[ydy λv hv=>(xBd.mp nd).1 (List.of_mem_zip hv).1,if_neg hk];simp
 |p::P,w::vs,i+1,m,nd,h1,h2,hk=>by
  show bindC kindOf ((p,w)::P.zip vs) m x=_;unfold bindC;exact zdI (i:=i) (xBd.mp nd).2 (by simpa using h1) (by simpa using h2) hk
def zdL(N:List Str)(vs:List V):St:=vs.map some++List.replicate (N.length-vs.length) none
noncomputable def cxOf(CX:CXT)(P:Program)(w:World)(K:PySem.W.Frag)(mg:Str->Option Value)(base:Heap)(N:List Str)(qual:Str)(scope:Scope)(f:Addr)(cd:Value)(A:Around)(outer:List Env)(s:Shared)(H:Hp)(E:XK):Cx where
 prog:=P
 w:=w
 K:=K
 mg:=mg
 base:=base
 A:=A.deeper (envOfC qual scope s.heap.objs.size f cd)
 N:=N
 s₀:=s
 H₀:=H
 env:=envOfC qual scope s.heap.objs.size f cd
 outer:=outer
 stack:=envOfC qual scope s.heap.objs.size f cd::outer
 ex:=[]
 calm:=true
 fn:=λ_=>true
 pn:=[]
 xe:=λe s'=>wpAny (model P w) (A.deeper (envOfC qual scope s.heap.objs.size f cd)) (leaving (envOfC qual scope s.heap.objs.size f cd) e) (λ_ s''=>CX outer H s E e s'') (λe' s''=>CX outer H s E e' s'') s'
theorem zez{sc:Scope}{n:Nat}{x:Str}(h:sc.names.lookup x=some .cell):∃c,(cellsFrom n sc.names []).lookup x=some c:=by
 have q:=PySem.W.cellsFrom_some sc.names n [] (.inl h);exact Option.isSome_iff_exists.mp q
theorem yfJ{CX:CXT}{K:PySem.W.Frag}
  (S:yag N ps scope) (hd:A.handled=none) (e0:Env0 P w K mg base A outer s H) (hl:vs.length=ps.length) (r:Vals vs us)
  (x:InCallC s s.heap.objs.size (bindL (envOfC qual scope s.heap.objs.size f cd).kindOf (ps.zip us) λ_=>none) (cellsFrom (s.heap.objs.size+1) scope.names []) (bindC (envOfC qual scope s.heap.objs.size f cd).kindOf (ps.zip us) λ_=>none) s1) :
  Inv (cxOf CX P w K mg base N qual scope f cd A outer s H E) [] (zdL N vs) H s1:=by
 have hpl:ps.length<=N.length:=by have:=congrArg List.length S.pre;rw[xAC]at this;lia
 obtain⟨h1,tk,rfl,hk⟩:=x.done;have noA:∀b:Addr,b∉(cxOf CX P w K mg base N qual scope f cd A outer s H E).ex:=λb z=>absurd (show b∈([]:List Addr) from z) (by simp)
 refine⟨⟨e0.mod,S.kind,rfl,rfl,xA5 _,λy z c h1 h2=>?_,λy hy=>?_,λy c _ h=>?_,λ_=>hd,Around.frames_deeper e0.frames,.inr ⟨rfl,rfl⟩,λb z=>absurd z (noA b),e0.bs,e0.bsz,λb _ _=>noA b,λb z=>absurd z (noA b),e0.funs,e0.frf⟩,
  rfl,e0.bare,Un.kept hk,⟨_,x.toInCall.ns,λi y v h1 h2 h3=>?_⟩,λy c h=>⟨_,x.cell y c h⟩,e0.hok.fresh (xA5 _),λy c h=>?_,λp hp=>absurd (show p∈([]:List (Addr×Obj)) from hp) (by simp),e0.hok.kept hk,?_⟩
 ·exact name_of_addr x.apart (PySem.mem_of_lookup h1) (PySem.mem_of_lookup h2)
 ·have hy:scope.names.lookup y=some .cell\/scope.names.lookup y=some .free:=hy;rcases hy with hy|hy
  ·exact zez hy
  ·exact absurd rfl (S.nofree _ (PySem.mem_of_lookup hy))
 ·exact Nat.le_of_lt (x.above y c (PySem.mem_of_lookup h))
 ·have hi:i<vs.length:=by
   unfold zdL at h2;by_cases hi:i<vs.length
   ·exact hi
   ·rw[xB0 (by simpa using hi)]at h2;rw[List.getElem?_replicate]at h2;split at h2 <;> cases h2
  have ha:vs[i]?=some v:=by
   unfold zdL at h2;rw[xBt (by simpa using hi),xAd]at h2;cases e:vs[i]? with
   |none=>rw[e]at h2;cases h2
   |some a=>rw[e]at h2;cases h2;rfl
  obtain⟨u,hu,rv⟩:=r.get ha;have hp:ps[i]?=some y:=by
   rw[<-S.pre,List.getElem?_take_of_lt (by lia)];exact h1
  have ndP:ps.Nodup:=by rw[<-S.pre];exact S.nd.sublist (List.take_sublist _ _)
  refine⟨u,rv,?_⟩;rcases S.par y (xAS hp) with k|k
  ·exact .inl ⟨k,zdO ndP hp hu k⟩
  ·obtain⟨c,e⟩:=zez (n:=s.heap.objs.size+1) k;refine .inr ⟨.inl k,c,e,?_⟩;have q:=x.cell y c e;rw[zdI ndP hp hu (by show scope.names.lookup y≠_;rw[k];decide)]at q;exact q
 ·exact e0.hok.fresh (Nat.le_of_lt (x.above y c (PySem.mem_of_lookup h)))
 ·unfold zdL;show _=N.length;rw[xAB,xA1,xBH]
  lia
theorem yh8{CX:CXT}{P:Program}{w:World}{K:PySem.W.Frag}{mg:Str->Option Value}{base:Heap}{k:Nat}{f:Addr}{name qual:Str}{params:Arguments}{body:List Stmt}{scope:Scope}{dV kV doc pm cdv ct oc:Value}{an od:Option Addr}
  {osl:Array (Option Value)} {N ps:List Str} {sp:Sp} (lk:K.lookup f=some ⟨oc,od,.func (PySem.W.fnOf name qual params body scope dV kV doc pm an cdv ct),osl⟩) (hcd:PySem.W.codeIn K cdv qual=true) (S:yag N ps scope)
  (len:∀vs H Q E,sp vs H Q E->vs.length=ps.length)
  (hbody:∀(A:Around) (outer:List Env) (s:Shared) (H:Hp) (vs:List V) (Q:VK) (E:XK),Room k (A.deeper (envOfC qual scope s.heap.objs.size f cdv))->sp vs H Q E->
   ∃t,PSs (cxOf CX P w K mg base N qual scope f cdv A outer s H E) body t/\t { nx:=λ_ H'=>Q .non H',rt:=Q } (zdL N vs) H) :
  FnOk P w K mg base CX (k+1) f (PySem.W.fnOf name qual params body scope dV kV doc pm an cdv ct) ps sp:=by
 refine⟨len,λA outer s H args us vs Q E hr e0 hb r hsp=>?_⟩;have hl:=len _ _ _ _ hsp;have KX:K.In s.heap:=e0.mod.kin.keeps λb o e=>(e0.bs b o e).1
 have lim:s.heap.NoLimit:=e0.mod.nolimit.keeps λb o e=>(e0.bs b o e).1
 have hkind:∀y∈ps.zip us,scope.names.lookup y.1=some .local\/(scope.names.lookup y.1=some .cell/\((cellsFrom (s.heap.objs.size+1) scope.names []).lookup y.1).isSome=true):=λ⟨n,v⟩ hy=>by
  rcases S.par n (List.of_mem_zip hy).1 with q|q
  ·exact .inl q
  ·exact .inr ⟨q,PySem.W.cellsFrom_some _ _ _ (.inl q)⟩
 refine codeAny_call_function hr.depth (KX _ _ lk) rfl S.co S.gen rfl (PySem.W.codeRec_of KX hcd) (hb _ _ _ _ ?_);refine wpAny_newFunctionEnv_cells S.kind hkind λenv he s1 x=>?_
 subst he;refine⟨lim.keeps x.toInCall.keep,codeAny_func ?_⟩;obtain⟨t,ht,hq⟩:=hbody A outer s H vs Q E (hr.deeper _) hsp;have I:Inv (cxOf CX P w K mg base N qual scope f cdv A outer s H E) [] (zdL N vs) H s1:=yfJ S hr.hd e0 hl r x;refine xBE (ht [] s1 (zdL N vs) H _ I hq) (λfl s' hs=>?_) λe s' hs=>hs
 have fin:∀ {σ':St} {H':Hp} {v:V} {u:Value},Inv (cxOf CX P w K mg base N qual scope f cdv A outer s H E) [] σ' H' s'->RelV v u->Q v H'->CE outer P w H s Q u s' :=
  λ{σ' H' v u} J rv q=>⟨v,H',J.os,J.bare,J.base,J.hok,rv,q⟩
 cases fl with
 |ret u=>
  obtain⟨v,σ',H',J,rv,q⟩:=hs;exact fin J rv q
 |next=>
  obtain⟨σ',H',J,q⟩:=hs;exact fin (v:=V.non) (u:=Value.none) J rfl q
 |brk=>
  obtain⟨_,_,_,q⟩:=hs;exact False.elim q
 |cont=>
  obtain⟨_,_,_,q⟩:=hs;exact False.elim q
end L2
namespace L2
open PySem PySem.Spec PyProof.Rows
section
variable {X:Cx} {x:Str} {p pos:Pos} {e:Expr} {es:List Expr} {t:TA} {id T:String} {r:List V->Hp->VK->Prop}
def tCB(r:List V->Hp->VK->Prop)(t:TA):TE:=λσ H Q=>t σ H λvs H1=>r vs H1 Q
theorem zf0(hc:zbo X (.builtin id) r)(hg:Gl X x)(hm:X.mg x=none)(hv:bootBuiltins x=some (.builtin id))(ha:PA X (e::es) t)(hn:x≠"__name__":=by decide)(hdb:(x==("__debug__":Str))=false:=by decide)
  (he:starEach (e::es) X.env=(false,eval e X.env)::starEach es X.env:=by rfl) (hpl:(backTo pos (starEach es X.env)).any (·.1)=false:=by rfl):PE X (.Call (.Name x p) (e::es) [] pos) (tCB r t):=by
 intro pins s σ H Q I h;refine wpAny_Call_Name_kw (ybh I hg hm hv ?_ hn hdb);exact PyProof.Rows.callWith_builtin1 (thn (ha pos pins s σ H _ I h) λus s1 ⟨vs,H1,I1,r1,q1⟩=>hc pins s1 σ H1 vs us Q I1 r1 q1) he hpl
theorem yfK(hc:zbo X (.type T) r)(hg:Gl X x)(hm:X.mg x=none)(hv:bootBuiltins x=some (.type T))(ha:PA X (e::es) t)(hn:x≠"__name__":=by decide)(hdb:(x==("__debug__":Str))=false:=by decide)
  (he:starEach (e::es) X.env=(false,eval e X.env)::starEach es X.env:=by rfl) (hpl:(backTo pos (starEach es X.env)).any (·.1)=false:=by rfl):PE X (.Call (.Name x p) (e::es) [] pos) (tCB r t):=by
 intro pins s σ H Q I h;refine wpAny_Call_Name_kw (ybh I hg hm hv ?_ hn hdb);exact xBc (thn (ha pos pins s σ H _ I h) λus s1 ⟨vs,H1,I1,r1,q1⟩=>hc pins s1 σ H1 vs us Q I1 r1 q1) he hpl
end
end L2
namespace HT
open PySem PyProof.Rows
section
variable {prog:Program} {w:World} {A:Around} {E:Value->Shared->Prop} {s:Shared}
theorem cat_tup(ht:IsTup s.heap t vs.toArray)(hb:IsTup s.heap b ws.toArray)(hv:vs≠[])
  (h1:ws=[]->Q (.ref t) s) (h2:ws≠[]->Q (.ref s.heap.objs.size) { s with heap:=s.heap.push { cls:=.type "tuple",data:=.seq (vs++ws).toArray } })
  (hsz:vs.length+ws.length<=sizeLine):wpAny (model prog w) A (binaryOp .Add (.ref t) (.ref b)) Q E s:=by
 obtain⟨⟨cls,dd,data,sl⟩,ho,hc,n,hd⟩:=id ht;obtain⟨⟨cls2,dd2,data2,sl2⟩,ho2,hc2,n2,hd2⟩:=id hb;simp only at hc hd hc2 hd2;subst hc hd hc2 hd2;have e:vs.toArray++ws.toArray=(vs++ws).toArray:=by simp
 by_cases hw:ws=[]
 ·exact concat_meets ⟨_,ho,rfl⟩ ⟨_,ho2,rfl⟩ noFill_tuple_add seq_tuple_add PySem.F.slot_tuple_add PySem.F.entry_tuple_add (PySem.F.args_tuple_add_2 _ _)
   (tuple_addW1 t b vs.toArray ws.toArray n n2 dd dd2 sl sl2 (by simpa using hv) (by simp[hw])) ⟨ho,ho2,h1 hw⟩
 ·refine concat_meets ⟨_,ho,rfl⟩ ⟨_,ho2,rfl⟩ noFill_tuple_add seq_tuple_add PySem.F.slot_tuple_add PySem.F.entry_tuple_add (PySem.F.args_tuple_add_2 _ _)
   (tuple_addW2 t b vs.toArray ws.toArray n n2 dd dd2 sl sl2 (by simpa using hv) (by simpa using hw) (by rw[xA8,xA8];exact hsz)) ⟨ho,ho2,?_⟩
  rw[e];exact h2 hw
def sIx(n d:Nat):Option Int->Nat
 |none=>d
 |some v=>if v<0 then(v+(n:Int)).toNat else min v.toNat n
theorem sIx_none(n d:Nat):sIx n d none=d:=rfl
theorem sIx_nat(n d k:Nat):sIx n d (some (k:Int))=min k n:=by
 show(if (k:Int)<0 then((k:Int)+(n:Int)).toNat else min (k:Int).toNat n)=min k n;rw[if_neg (by lia),xAu]
theorem yhE(n d:Nat)(hd:d<=n)(o:Option Int):sIx n d o<=n:=by
 cases o with
 |none=>exact hd
 |some v=>
  show(if v<0 then(v+(n:Int)).toNat else min v.toNat n)<=n;by_cases hv:v<0
  ·rw[if_pos hv];lia
  ·rw[if_neg hv];exact Nat.min_le_right _ _
theorem yfx(v:Int)(n d:Nat):(if v<0 then max (v+(n:Int)) 0 else min v (n:Int))=((sIx n d (some v):Nat):Int):=by
 show(if v<0 then max (v+(n:Int)) 0 else min v (n:Int))=(((if v<0 then(v+(n:Int)).toNat else min v.toNat n):Nat):Int)
 by_cases hv:v<0
 ·simp only[if_pos hv];lia
 ·simp only[if_neg hv];lia
theorem zeR(lo hi:Option Int)(n:Nat):Builtin.Slice.sliceAdjust lo hi 1 (n:Int)=(((sIx n 0 lo:Nat):Int),((sIx n n hi:Nat):Int)):=by
 have h1:¬ ((1:Int)<0):=by lia
 unfold Builtin.Slice.sliceAdjust;simp only[h1,if_false];refine Prod.ext ?_ ?_
 ·cases lo with
  |none=>rfl
  |some v=>exact yfx v n 0
 ·cases hi with
  |none=>rfl
  |some v=>exact yfx v n n
theorem yeC(i j:Nat):Builtin.Slice.slicePlaces (i:Int) (j:Int) 1=j-i:=by
 unfold Builtin.Slice.slicePlaces;have h1:(1:Int)>0:=by lia
 simp only[h1,if_true,Int.ediv_one];split <;> lia
theorem zcM{o:Option Int}{Q:Option Int->Shared->Prop}(p:IsPart v o)(h:Q o s):wpAny (model prog w) A (Builtin.Slice.slicePartIndex v) Q E s:=by
 cases p with
 |none=>exact slicePart_none h
 |int i t=>exact slicePart_int h
theorem yb9{lo hi:Option Int}{n:Nat}{Q:Int×Int×Nat->Shared->Prop}(hs:s.heap.IsSliceOf sl vl vu .none)(pl:IsPart vl lo)(pu:IsPart vu hi)
  (h:Q (((sIx n 0 lo:Nat):Int),1,sIx n n hi-sIx n 0 lo) s):wpAny (model prog w) A (Builtin.Slice.sliceApplied (.ref sl) (pure (n:Int))) Q E s:=by
 obtain⟨os,hos,hcs,hds⟩:=id hs;unfold Builtin.Slice.sliceApplied Builtin.Slice.sliceFields;refine xA0 (xA0 (xBF hos hds (x:=vl) rfl (xA0 (xBF hos hds (x:=vu) rfl (xA0 (xBF hos hds (x:=.none) rfl (xA3 ?_)))))));refine xA0 (slicePart_none ?_);show wpAny _ _ (if ((1:Int)==0)=true then _ else _) _ _ s;rw[if_neg (by decide)];refine xA0 (zcM pl (xA0 (zcM pu (xA0 (xA3 ?_)))));show wpAny _ _ (match Builtin.Slice.sliceAdjust lo hi 1 (n:Int) with|(lo,hi)=>pure (lo,(1:Int),Builtin.Slice.slicePlaces lo hi 1)) _ _ s;rw[zeR lo hi n];show wpAny _ _ (pure (((sIx n 0 lo:Nat):Int),(1:Int),Builtin.Slice.slicePlaces ((sIx n 0 lo:Nat):Int) ((sIx n n hi:Nat):Int) 1)) _ _ s;rw[yeC];exact xA3 h
theorem zgs(xs:Array Value)(i k:Nat):((List.range k).filterMap λ(m:Nat)=>xs[((i:Int)+(m:Int)*1).toNat]?).toArray=((xs.toList.drop i).take k).toArray:=by
 have e:(λ(m:Nat)=>xs[((i:Int)+(m:Int)*1).toNat]?)=λm=>xs[i+m]?:=by
  funext m
  have:((i:Int)+(m:Int)*1).toNat=i+m:=by lia
  rw[this]
 rw[e];have:=pick_run xs i k;rw[List.filterMap_map]at this;have e2:((λx=>xs[x]?) ∘ λx=>i+x)=λm=>xs[i+m]?:=rfl
 rw[e2]at this;rw[this]
theorem getItem_tuple_cut{lo hi:Option Int}(ht:IsTup s.heap t items)(hs:s.heap.IsSliceOf sl vl vu .none)(pl:IsPart vl lo)(pu:IsPart vu hi)
  (hw:¬ (sIx items.size 0 lo=0/\sIx items.size items.size hi=items.size))
  (h:Q (.ref s.heap.objs.size) { s with heap:=s.heap.push { cls:=.type "tuple",data:=.seq ((items.toList.drop (sIx items.size 0 lo)).take (sIx items.size items.size hi-sIx items.size 0 lo)).toArray } })
  (hsz:items.size<=sizeLine):wpAny (model prog w) A (getItem (.ref t) (.ref sl)) Q E s:=by
 have htake:sizeOk (.seq ((items.toList.drop (sIx items.size 0 lo)).take (sIx items.size items.size hi-sIx items.size 0 lo)).toArray):=by
  show((items.toList.drop (sIx items.size 0 lo)).take (sIx items.size items.size hi-sIx items.size 0 lo)).toArray.size<=sizeLine;rw[xA8,xAC,List.length_drop,xA4]
  lia
 have hj:sIx items.size items.size hi<=items.size:=yhE _ _ (xA5 _) hi;obtain⟨os,hos,hcs,hds⟩:=id hs;have hTs:s.TypeIs (.ref sl) "slice":=⟨os,hos,hcs⟩
 unfold getItem
 try with_reducible refine xB9 ?_
 first|refine xA0 (xA3 ?_)|skip
 refine xA0 (wpAny_sequenceKey ht.typeIs (by decide) ?_);refine xA0 (xAW (name:=Str.ofString "__getitem__") ht.typeIs PyProof.Rows.slot_tuple_getitem
  (xAN PyProof.Rows.slot_tuple_getitem ht.typeIs entry_tuple_getitem ?_ (args_tuple_getitem _ _)))
 show wpAny _ _ (Builtin.Tuple.tupleItemsOf (.ref t) >>= _) _ _ s;refine xA0 (tupleItemsOf_ ht ?_);refine xA0 (wpAny_typeOf hTs ?_);rw[if_pos (by decide)];refine xA0 (yb9 hs pl pu ?_);have hno:¬ ((((sIx items.size 0 lo:Nat):Int)==0&&(1:Int)==1&&(sIx items.size items.size hi-sIx items.size 0 lo)==items.size)=true):=by
  intro q;rw[xAw,xAw]at q;have q1:((sIx items.size 0 lo:Nat):Int)=0:=xBC q.1.1;have q2:sIx items.size items.size hi-sIx items.size 0 lo=items.size:=xBC q.2;exact hw ⟨by lia,by lia⟩
 show wpAny _ _ (if (((sIx items.size 0 lo:Nat):Int)==0&&(1:Int)==1&&(sIx items.size items.size hi-sIx items.size 0 lo)==items.size)=true then _ else _) _ _ s;rw[if_neg hno,zgs]
 first
  |exact xA0 (m:=Builtin.Tuple.tupleExact _) (xAG (xA3 ⟨_,rfl,xA3 h⟩) htake)
  |exact xA0 (m:=Builtin.Tuple.tupleExact _) (xAG (xA0 (xA3 (xA3 ⟨_,rfl,xA3 h⟩))) htake)
  |exact xA0 (xA0 (m:=Builtin.Tuple.tupleExact _) (xAG (xA3 (xA3 ⟨_,rfl,xA3 h⟩)) htake))
  |exact xA0 (xA0 (m:=Builtin.Tuple.tupleExact _) (xAG (xA3 ⟨_,rfl,xA3 h⟩) htake))
end
end HT
namespace L2
open PySem PySem.Spec PyProof.Rows
abbrev TO:=St->Hp->(Option Int->Hp->Prop)->Prop
noncomputable def PO(X:Cx)(e:Option Expr)(t:TO):Prop :=
 ∀(pins:List (Addr×Obj)) (s:Shared) (σ:St) (H:Hp) (Q:Option Int->Hp->Prop),Inv X pins σ H s->t σ H Q->
  wpAny (model X.prog X.w) X.A (evalPart e X.env) (λu s'=>Ex2 λo H'=>Inv X pins σ H' s'/\IsPart u o/\Q o H') X.xe s
def ygO:TO:=λ_ H Q=>Q none H
def zib(t:TE):TO:=λσ H Q=>t σ H λx H1=>∃i,x = .int i/\Q (some i) H1
section
variable {X:Cx} {e:Expr} {te:TE} {lo hi:Option Expr} {tl th:TO} {pos p2:Pos}
theorem yb2:PO X none ygO:=by
 intro pins s σ H Q I h;rw[evalPart_none];exact xA3 ⟨none,H,I,.none,h⟩
theorem zbY(h:PE X e te):PO X (some e) (zib te):=by
 intro pins s σ H Q I hw;rw[evalPart_some];refine thn (h pins s σ H _ I hw) λu s1 hq=>?_
 obtain⟨x,H1,I1,r1,q1⟩:=hq;obtain⟨i,rfl,q⟩:=q1;obtain⟨t,rfl⟩:=r1;exact⟨some i,H1,I1,.int i t,q⟩
noncomputable def SlR(X:Cx)(r:V->Option Int->Option Int->Hp->VK->Prop):Prop :=
 ∀(pins:List (Addr×Obj)) (s:Shared) (σ:St) (H:Hp) (x:V) (v vl vu:Value) (lo hi:Option Int) (sl:Addr) (Q:VK),Inv X pins σ H s->RelV x v->s.heap.IsSliceOf sl vl vu .none->IsPart vl lo->IsPart vu hi->r x lo hi H Q->
  Ex2 λT id=>typeLookup (.type T) "__getitem__"=pure (some (.builtin id))/\s.TypeIs v T/\wpAny (model X.prog X.w) X.A (getItem v (.ref sl)) (EP X pins σ Q) X.xe s
noncomputable def tSl(r:V->Option Int->Option Int->Hp->VK->Prop)(te:TE)(tl th:TO):TE:=λσ H Q=>te σ H λx H1=>tl σ H1 λl H2=>th σ H2 λu H3=>r x l u H3 Q
theorem zbA{r:V->Option Int->Option Int->Hp->VK->Prop}(hr:SlR X r)(he:PE X e te)(hl:PO X lo tl)(hu:PO X hi th):PE X (.Subscript e (.Slice lo hi none p2) pos) (tSl r te tl th):=by
 intro pins s σ H Q I h;refine Subscript_ (thn (he pins s σ H _ I h) λv s1 hq=>?_);obtain⟨x,H1,I1,r1,q1⟩:=hq;refine wpAny_Slice (thn (hl pins s1 σ H1 _ I1 q1) λvl s2 ⟨l,H2,I2,pl,q2⟩=>thn (hu pins s2 σ H2 _ I2 q2) λvu s3 hq=>?_);obtain⟨u,H3,I3,pu,q3⟩:=hq;rw[evalPart_none];refine xA3 ?_;have I4:Inv X pins σ H3 { s3 with heap:=s3.heap.push { cls:=.type "slice",data:=.fields #[vl,vu,.none] } }:=I3.kept (t':=s3.toks) λb ob q=>xA2 _ q
 obtain⟨T,id,hT,ht,hg⟩:=hr pins { s3 with heap:=s3.heap.push { cls:=.type "slice",data:=.fields #[vl,vu,.none] } } σ H3 x v vl vu l u s3.heap.objs.size Q I4 r1 (Heap.IsSliceOf.new ..) pl pu q3;show wpAny (model X.prog X.w) X.A (subscriptTail e (.Slice lo hi none p2) v (.ref s3.heap.objs.size)) (EP X pins σ Q) X.xe { s3 with heap:=s3.heap.push { cls:=.type "slice",data:=.fields #[vl,vu,.none] } };exact tail_any (ops:=[.ref s3.heap.objs.size,v]) ht hT hg (by with_unfolding_all rfl)
noncomputable def cutV(xs:List V)(lo hi:Option Int):List V:=(xs.drop (HT.sIx xs.length 0 lo)).take (HT.sIx xs.length xs.length hi-HT.sIx xs.length 0 lo)
theorem yci(xs:List V)(lo hi:Option Int):(cutV xs lo hi).length<=xs.length:=by
 unfold cutV;rw[xAC,List.length_drop]
 lia
noncomputable def rSlT(K:PySem.W.Frag):V->Option Int->Option Int->Hp->VK->Prop:=λx lo hi H Q=>Ex2 λa xs=>x = .ref a/\SqT K H a xs/\
 ¬ (HT.sIx xs.length 0 lo=0/\HT.sIx xs.length xs.length hi=xs.length)/\∀p,H p=none->Q (.ref p) (upd H p (.tup (cutV xs lo hi)))
theorem yen:SlR X (rSlT X.K):=by
 intro pins s σ H x v vl vu lo hi sl Q I rx hs pl pu h;obtain⟨a,xs,rfl,hx,hw,q⟩:=h;cases rx;obtain⟨its,r,ht,hz⟩:=I.tuple hx;have hlen:its.toArray.size=xs.length:=by rw[xA8];exact r.length.symm
 refine⟨"tuple",_,PyProof.Rows.slot_tuple_getitem.lookup,ht.typeIs,?_⟩;refine HT.getItem_tuple_cut ht hs pl pu (by rw[hlen];exact hw) ?_ (by rw[hlen];exact hz);rw[hlen];refine⟨.ref s.heap.objs.size,_,I.laid (t':=s.toks) (o:=.tup (cutV xs lo hi)) (λb ob q=>xA2 _ q) (xA5 _) ?_,rfl,q _ (I.hok.fresh (xA5 _))⟩;exact⟨xAz (yci xs lo hi) hz,_,(r.drop (HT.sIx xs.length 0 lo)).take (HT.sIx xs.length xs.length hi-HT.sIx xs.length 0 lo),IsTup.new _ _⟩
noncomputable def yh4(K:PySem.W.Frag):R2:=λx y H Q=>Ex4 λa b xs ys=>x = .ref a/\y = .ref b/\SqT K H a xs/\SqT K H b ys/\xs≠[]/\xs.length+ys.length<=sizeLine/\
 (ys=[]->Q (.ref a) H)/\(ys≠[]->∀p,H p=none->Q (.ref p) (upd H p (.tup (xs++ys))))
theorem Vals.nil_iff(r:Vals xs us):us=[]↔xs=[]:=by
 cases r with
 |nil=>simp
 |cons _ _=>simp
theorem ygU:OpR X (binaryOp .Add) (yh4 X.K):=by
 intro pins s σ H x y v u Q I rx ry h;obtain⟨a,b,xs,ys,rfl,rfl,ha,hb,hx,hz,q1,q2⟩:=h;cases rx;cases ry;obtain⟨its,r1,p1,_⟩:=I.tuple ha;obtain⟨its2,r2,p2,_⟩:=I.tuple hb;refine HT.cat_tup p1 p2 (λz=>hx (r1.nil_iff.mp z)) (λz=>⟨.ref a,H,I,rfl,q1 (r2.nil_iff.mp z)⟩) (λz=>?_) (by rw[<-r1.length,<-r2.length];exact hz);refine⟨.ref s.heap.objs.size,_,I.laid (t':=s.toks) (o:=.tup (xs++ys)) (λb ob q=>xA2 _ q) (xA5 _) ?_,rfl,q2 (λw=>z (r2.nil_iff.mpr w)) _ (I.hok.fresh (xA5 _))⟩;exact⟨by rw[xAB];exact hz,_,r1.append r2,IsTup.new _ _⟩
end
end L2
namespace L2
open PySem PySem.Spec PyProof.Rows
noncomputable def ixN(n:Nat)(i:Int):Option Nat:=if 0<=i then(if i<n then some i.toNat else none) else if -(n:Int)<=i then some (i+n).toNat else none
def atI{α:Type}(xs:List α)(i:Int):Option α:=(ixN xs.length i).bind λj=>xs[j]?
theorem zd0{n:Nat}{i:Int}{j:Nat}(h:ixN n i=some j):seqIndex? i n=some j/\j<n/\-(n:Int)<=i/\i<n:=by
 unfold ixN at h;by_cases h0:0<=i
 ·rw[if_pos h0]at h;by_cases h1:i<n
  ·rw[if_pos h1]at h;have e:i.toNat=j:=xAF h;exact⟨by rw[seqIndex_of h0 h1,e],by lia,by lia,h1⟩
  ·rw[if_neg h1]at h;cases h
 ·rw[if_neg h0]at h;by_cases h1 : -(n:Int)<=i
  ·rw[if_pos h1]at h;have e:(i+n).toNat=j:=xAF h;exact⟨by rw[seqIndex_neg (by lia) h1,e],by lia,h1,by lia⟩
  ·rw[if_neg h1]at h;cases h
theorem zff{α:Type}{xs:List α}{i:Int}{v:α}(h:atI xs i=some v):∃j,seqIndex? i xs.length=some j/\xs[j]?=some v/\j<xs.length/\-(xs.length:Int)<=i/\i<xs.length:=by
 unfold atI at h;cases e:ixN xs.length i with
 |none=>rw[e]at h;cases h
 |some j=>
  rw[e]at h;obtain⟨h1,h2,h3,h4⟩:=zd0 e;exact⟨j,h1,h,h2,h3,h4⟩
theorem zbc{α:Type}{xs:List α}{j:Nat}{v:α}(h:xs[j]?=some v):atI xs (j:Int)=some v:=by
 have hj:j<xs.length:=(xAh.mp h).1;have e:ixN xs.length (j:Int)=some j:=by
  unfold ixN;rw[if_pos (by lia),if_pos (by lia)];simp
 unfold atI;rw[e];exact h
def ygY(b:Expr):Prop:=∀o i,subscripted b false o i=operate [o,i] (getItem o i)
noncomputable def IxR(X:Cx)(r:R2):Prop :=
 ∀(value slice:Expr) (pins:List (Addr×Obj)) (s:Shared) (σ:St) (H:Hp) (x y:V) (v u:Value) (Q:VK),Inv X pins σ H s->RelV x v->RelV y u->r x y H Q->
  subscripted slice false v u=operate [v,u] (getItem v u)->wpAny (model X.prog X.w) X.A (subscriptTail value slice v u) (EP X pins σ Q) X.xe s
noncomputable def MtR(X:Cx)(id:String)(r:V->List V->Hp->VK->Prop):Prop :=
 ∀(pins:List (Addr×Obj)) (s:Shared) (σ:St) (H:Hp) (x:V) (xs:List V) (v:Value) (us:List Value) (Q:VK),Inv X pins σ H s->RelV x v->Vals xs us->r x xs H Q->
  wpAny (model X.prog X.w) X.A (call (.builtin id) (v::us)) (EP X pins σ Q) X.xe s
section
variable {X:Cx} {a b:Expr} {ta tb:TE} {pos:Pos}
theorem zhe{r:R2}(hr:IxR X r)(ha:PE X a ta)(hb:PE X b tb)(hs:ygY b):PE X (.Subscript a b pos) (tOp r ta tb):=by
 intro pins s σ H Q I h;exact Subscript_ (binT ha hb I h λv u s2 x y H2 I2 rx ry q=>hr a b pins s2 σ H2 x y v u Q I2 rx ry q (hs _ _))
inductive GIxL (K:PySem.W.Frag) (x y:V) (H:Hp) (Q:VK):Prop
 |mk (p:Addr) (xs:List V) (i:Int) (v:V) (a:x = .ref p) (b:y = .int i) (c:SqL K H p xs) (d:atI xs i=some v) (q:Q v H):GIxL K x y H Q
def rIxL(K:PySem.W.Frag):R2:=λx y H Q=>GIxL K x y H Q
inductive GIxT (K:PySem.W.Frag) (x y:V) (H:Hp) (Q:VK):Prop
 |mk (p:Addr) (xs:List V) (i:Int) (v:V) (a:x = .ref p) (b:y = .int i) (c:SqT K H p xs) (d:atI xs i=some v) (q:Q v H):GIxT K x y H Q
def rIxT(K:PySem.W.Frag):R2:=λx y H Q=>GIxT K x y H Q
theorem yai:IxR X (rIxL X.K):=by
 intro value slice pins s σ H x y v u Q I rx ry h hs;obtain⟨p,xs,i,z,rfl,rfl,hq,he,q⟩:=h;cases rx;obtain⟨t,rfl⟩:=ry;obtain⟨its,r,pl,hz⟩:=I.list hq;obtain⟨j,h1,h2,h3,h4,h5⟩:=zff he;obtain⟨w,ew,rw'⟩:=r.get h2;have hl:=r.length;have hn:=zeh;have fin:EP X pins σ Q w s:=⟨z,H,I,rw',q⟩
 by_cases h0:0<=i
 ·have hj:i.toNat=j:=by
   rw[seqIndex_of h0 h5]at h1;exact xAF h1
  exact item_listR pl.isList h0 (by lia) (by rw[hj];simpa using ew) fin hs
 ·have hj:(i+(its.toArray.size:Int)).toNat=j:=by
   rw[seqIndex_neg (by lia) h4]at h1;rw[xA8,<-hl];exact xAF h1
  exact subscriptTail_builtinR (x:=w) pl.isList.typeIs slot_list_getitem.lookup
   (wpAny_getItem_list_neg (Q:=λr s'=>r=w/\EP X pins σ Q r s') pl.isList (by lia) (by rw[xA8] <;> lia) (by lia) (by rw[hj];simpa using ew) ⟨rfl,fin⟩) hs
theorem zaq:IxR X (rIxT X.K):=by
 intro value slice pins s σ H x y v u Q I rx ry h hs;obtain⟨p,xs,i,z,rfl,rfl,hq,he,q⟩:=h;cases rx;obtain⟨t,rfl⟩:=ry;obtain⟨its,r,pl,hz⟩:=I.tuple hq;obtain⟨j,h1,h2,h3,h4,h5⟩:=zff he;obtain⟨w,ew,rw'⟩:=r.get h2;have hl:=r.length;have hn:=zeh;have fin:EP X pins σ Q w s:=⟨z,H,I,rw',q⟩
 exact subscriptTail_builtinR (x:=w) pl.typeIs slot_tuple_getitem.lookup
  (getItem_tuple (j:=j) (Q:=λr s'=>r=w/\EP X pins σ Q r s') pl (by lia) (by lia) (by rw[xA8,<-hl];exact h1) (by simpa using ew) ⟨rfl,fin⟩) hs
theorem yeR(its:List Value)(n j:Nat)(u:Value):Obj.mapSeq (·.setIfInBounds j u) { cls:=.type "list",data:=.seq its.toArray n }={ cls:=.type "list",data:=.seq (its.set j u).toArray n }:=by
 simp[Obj.mapSeq]
theorem Inv.lst(I:Inv X pins σ H s)(h:H p=some (.lst xs)) :
  Ex2 λ(its:List Value) (n:Nat)=>Vals xs its/\s.heap.get? p=some { cls:=.type "list",data:=.seq its.toArray n }/\xs.length<=sizeLine:=by
 obtain⟨z,its,n,r,e⟩:=I.hok p _ h;exact⟨its,n,r,e,z⟩
theorem Inv.lstUpd{pins:List (Addr×Obj)}{σ:St}{H:Hp}{s:Shared}{p:Addr}{xs ys:List V}{its its':List Value}{n n':Nat}{f:Obj->Obj}(I:Inv X pins σ H s)(h:H p=some (.lst xs))
  (ho:s.heap.get? p=some { cls:=.type "list",data:=.seq its.toArray n }) (hf:f { cls:=.type "list",data:=.seq its.toArray n }={ cls:=.type "list",data:=.seq its'.toArray n' }) (r:Vals ys its') (hz:ys.length<=sizeLine) (t:Nat) :
  Inv X pins σ (upd H p (.lst ys)) { s with heap:=s.heap.update p f,toks:=t }:=by
 have e:(s.heap.update p f).get? p=some { cls:=.type "list",data:=.seq its'.toArray n' }:=by
  rw[xB6 f ho (by rw[hf] <;> rfl),hf]
 refine I.write (x:=p) (e:=p) (by rw[h];trivial) (.inl rfl) (λb u hb q=>(xB8 _ _ (Ne.symm hb)).trans q) ⟨_,e⟩ ?_;exact⟨hz,its',n',r,e⟩
noncomputable def yhW:V->V->V->Hp->(Hp->Prop)->Prop:=λo i v H Q=>Ex4 λp xs k j=>o = .ref p/\i = .int k/\H p=some (.lst xs)/\ixN xs.length k=some j/\Q (upd H p (.lst (xs.set j v)))
theorem ybT:PSet X yhW:=by
 intro pins s σ H o i v ov iv u Q I ro ri rv h;obtain⟨p,xs,k,j,rfl,rfl,hp,hj,q⟩:=h;cases ro;obtain⟨t,rfl⟩:=ri;obtain⟨its,n,r,ho,hz⟩:=I.lst hp;obtain⟨h1,h2,h3,h4⟩:=zd0 hj;have hl:=r.length;have hn:=zeh;have I':Inv X pins σ (upd H p (.lst (xs.set j v))) { s with heap:=s.heap.update p (Obj.mapSeq (·.setIfInBounds j u)) } :=
  I.lstUpd hp ho (yeR its n j u) (r.set rv j) (by rw[List.length_set];exact hz) s.toks
 by_cases h0:0<=k
 ·have hk:k.toNat=j:=by
   rw[seqIndex_of h0 h4]at h1;exact xAF h1
  exact PySem.W.ki_setAt ho h0 (by lia) (by rw[xA8,<-hl];exact h4) (by rw[hk];exact⟨_,I',q⟩)
 ·have hk:(k+(its.toArray.size:Int)).toNat=j:=by
   rw[seqIndex_neg (by lia) h3]at h1;rw[xA8,<-hl];exact xAF h1
  exact PySem.W.ki_setBack ho (by lia) (by rw[xA8,<-hl];exact h3) (by lia) (by rw[hk];exact⟨_,I',q⟩)
theorem zdJ(lo hi:Option Int)(n:Nat):(sliceBounds lo hi none n).1=((HT.sIx n 0 lo:Nat):Int)/\(sliceBounds lo hi none n).2.1=((HT.sIx n n hi:Nat):Int)/\(sliceBounds lo hi none n).2.2=1:=by
 refine⟨?_,?_,rfl⟩
 ·cases lo with
  |none=>simp[sliceBounds,HT.sIx]
  |some i=>
   simp only[sliceBounds,HT.sIx,Option.getD_none,show(1:Int)>0 by decide,if_true];by_cases h:i<0
   ·simp only[h,if_true] <;> lia
   ·simp only[h,if_false] <;> lia
 ·cases hi with
  |none=>simp[sliceBounds,HT.sIx]
  |some i=>
   simp only[sliceBounds,HT.sIx,Option.getD_none,show(1:Int)>0 by decide,if_true];by_cases h:i<0
   ·simp only[h,if_true] <;> lia
   ·simp only[h,if_false] <;> lia
theorem ydo(its:List Value)(lo hi:Option Int):slicePick its.toArray lo hi none=((its.drop (HT.sIx its.length 0 lo)).take (HT.sIx its.length its.length hi-HT.sIx its.length 0 lo)).toArray:=by
 obtain⟨h1,h2,h3⟩:=zdJ lo hi its.toArray.size;unfold slicePick;rw[h1,h2,h3];simp only[sliceRange_one,pick_run,xA8] <;> rfl
noncomputable def rSlL(K:PySem.W.Frag):V->Option Int->Option Int->Hp->VK->Prop:=λx lo hi H Q=>Ex2 λa xs=>x = .ref a/\SqL K H a xs/\∀p,H p=none->Q (.ref p) (upd H p (.lst (cutV xs lo hi)))
theorem zfp:SlR X (rSlL X.K):=by
 intro pins s σ H x v vl vu lo hi sl Q I rx hs pl pu h;obtain⟨a,xs,rfl,hx,q⟩:=h;cases rx;obtain⟨its,r,ht,hz⟩:=I.list hx;have hlen:=r.length;refine⟨"list",_,slot_list_getitem.lookup,ht.isList.typeIs,?_⟩;refine wpAny_getItem_list_slice ht.isList hs pl pu .none (by simp) ?_ (by rw[xA8] <;> lia);rw[ydo,<-hlen];refine⟨.ref s.heap.objs.size,_,I.laid (t':=s.toks) (o:=.lst (cutV xs lo hi)) (λb ob q=>xA2 _ q) (xA5 _) ?_,rfl,q _ (I.hok.fresh (xA5 _))⟩;exact⟨xAz (yci xs lo hi) hz,_,0,(r.drop (HT.sIx xs.length 0 lo)).take (HT.sIx xs.length xs.length hi-HT.sIx xs.length 0 lo),xA6 _ rfl⟩
def zdg:V->Bool
 | .non=>true
 | .bl _=>true
 | .int _=>true
 | .str _=>true
 |_=>false
noncomputable def eqV:V->V->Bool
 | .non,.non=>true
 | .bl a,.bl b=>a==b
 | .bl a,.int b=>(if a then 1 else 0)==b
 | .int a,.bl b=>a==(if b then 1 else 0)
 | .int a,.int b=>a==b
 | .str a,.str b=>a==b
 |_,_=>false
theorem yhA(ry:RelV y u)(rx:RelV x v)(fy:zdg y=true)(fx:zdg x=true):SeqAt.EqAt A s u v (eqV y x):=by
 cases y with
 |non=>
  cases ry;cases x with
  |non=>cases rx;exact SeqAt.EqAt.same _
  |bl b=>cases rx;exact SeqAt.EqAt.none_bool b
  |int b=>obtain⟨t,rfl⟩:=rx;exact SeqAt.EqAt.none_int b t
  |str b=>obtain⟨t,rfl⟩:=rx;exact SeqAt.EqAt.none_str b t
  |_=>exact absurd (show false=true from fx) xAm
 |bl a=>
  cases ry;cases x with
  |non=>cases rx;exact SeqAt.EqAt.bool_none a
  |bl b=>cases rx;exact SeqAt.EqAt.bool_bool a b
  |int b=>obtain⟨t,rfl⟩:=rx;exact SeqAt.EqAt.bool_int a b t
  |str b=>obtain⟨t,rfl⟩:=rx;exact SeqAt.EqAt.bool_str a b t
  |_=>exact absurd (show false=true from fx) xAm
 |int a=>
  obtain⟨t',rfl⟩:=ry;cases x with
  |non=>cases rx;exact SeqAt.EqAt.int_none a t'
  |bl b=>cases rx;exact SeqAt.EqAt.int_bool a t' b
  |int b=>obtain⟨t,rfl⟩:=rx;exact SeqAt.EqAt.int_int a t' b t
  |str b=>obtain⟨t,rfl⟩:=rx;exact SeqAt.EqAt.int_str a t' b t
  |_=>exact absurd (show false=true from fx) xAm
 |str a=>
  obtain⟨t',rfl⟩:=ry;cases x with
  |non=>cases rx;exact SeqAt.EqAt.str_none a t'
  |bl b=>cases rx;exact SeqAt.EqAt.str_bool a t' b
  |int b=>obtain⟨t,rfl⟩:=rx;exact SeqAt.EqAt.str_int a t' b t
  |str b=>obtain⟨t,rfl⟩:=rx;exact SeqAt.EqAt.str_str a t' b t
  |_=>exact absurd (show false=true from fx) xAm
 |_=>exact absurd (show false=true from fy) xAm
noncomputable def eqU(x:V)(u:Value):Bool:=match u with
 | .none=>eqV .non x
 | .bool b=>eqV (.bl b) x
 | .int i _=>eqV (.int i) x
 | .str z _=>eqV (.str z) x
 |_=>false
theorem ygz(r:RelV y u)(f:zdg y=true):eqU x u=eqV y x:=by
 cases y with
 |non=>cases r;rfl
 |bl b=>cases r;rfl
 |int i=>obtain⟨t,rfl⟩:=r;rfl
 |str z=>obtain⟨t,rfl⟩:=r;rfl
 |_=>exact absurd (show false=true from f) xAm
theorem zcu:∀ {xs:List V} {us:List Value},Vals xs us->xs.all zdg=true->us.any (eqU x)=xs.any λy=>eqV y x
 |_,_,.nil,_=>rfl
 |y::xs,u::us,.cons r t,f=>by
  rw[List.all_cons,xAw]at f;rw[List.any_cons,List.any_cons,ygz r f.1,zcu t f.2]
theorem ybP(rx:RelV x v)(fx:zdg x=true):∀ {xs:List V} {us:List Value},Vals xs us->xs.all zdg=true->∀u∈us,SeqAt.EqAt A s u v (eqU x u)
 |_,_,.nil,_=>λu hu=>by cases hu
 |y::xs,u::us,.cons r t,f=>λu' hu=>by
  rw[List.all_cons,xAw]at f;rcases xAa.mp hu with rfl|hu
  ·rw[ygz r f.1];exact yhA r rx f.1 fx
  ·exact ybP rx fx t f.2 u' hu
def inV(x:V)(xs:List V):Bool:=xs.any λy=>eqV y x
inductive GIn (K:PySem.W.Frag) (neg:Bool) (x y:V) (H:Hp) (Q:VK):Prop
 |mk (p:Addr) (xs:List V) (a:y = .ref p) (b:SqL K H p xs\/SqT K H p xs) (c:zdg x=true) (d:xs.all zdg=true) (q:Q (.bl (if neg then !inV x xs else inV x xs)) H):GIn K neg x y H Q
def rIn(K:PySem.W.Frag)(neg:Bool):R2:=λx y H Q=>GIn K neg x y H Q
theorem yfp:OpR X (compareOp .In) (rIn X.K false):=by
 intro pins s σ H x y v u Q I rx ry h;obtain⟨p,xs,rfl,hq,fx,fs,q⟩:=h;cases ry;rcases hq with hq|hq
 ·obtain⟨its,r,pl,hz⟩:=I.list hq;refine SeqAt.in_listAt (eqU x) pl.isList (λw hw=>ybP rx fx r fs w (by simpa using hw)) ⟨.bl _,H,I,rfl,?_⟩;rw[show its.toArray.any (eqU x)=its.any (eqU x) by simp,zcu r fs];exact q
 ·obtain⟨its,r,pl,hz⟩:=I.tuple hq;refine SeqAt.in_tupleAt (eqU x) pl (λw hw=>ybP rx fx r fs w (by simpa using hw)) ⟨.bl _,H,I,rfl,?_⟩;rw[show its.toArray.any (eqU x)=its.any (eqU x) by simp,zcu r fs];exact q
theorem zb6:OpR X (compareOp .NotIn) (rIn X.K true):=by
 intro pins s σ H x y v u Q I rx ry h;obtain⟨p,xs,rfl,hq,fx,fs,q⟩:=h;cases ry;rcases hq with hq|hq
 ·obtain⟨its,r,pl,hz⟩:=I.list hq;refine SeqAt.notIn_listAt (eqU x) pl.isList (λw hw=>ybP rx fx r fs w (by simpa using hw)) ⟨.bl _,H,I,rfl,?_⟩;rw[show its.toArray.any (eqU x)=its.any (eqU x) by simp,zcu r fs];exact q
 ·obtain⟨its,r,pl,hz⟩:=I.tuple hq;refine SeqAt.notIn_tupleAt (eqU x) pl (λw hw=>ybP rx fx r fs w (by simpa using hw)) ⟨.bl _,H,I,rfl,?_⟩;rw[show its.toArray.any (eqU x)=its.any (eqU x) by simp,zcu r fs];exact q
inductive GLen (K:PySem.W.Frag) (xs:List V) (H:Hp) (Q:VK):Prop
 |mk (p:Addr) (ys:List V) (e:xs=[.ref p]) (h:SqL K H p ys\/SqT K H p ys) (q:Q (.int ys.length) H):GLen K xs H Q
theorem zar:zbo X (.builtin "len") (λxs H Q=>GLen X.K xs H Q):=by
 intro pins s σ H xs us Q I r h;obtain⟨p,ys,rfl,hq,q⟩:=h;obtain⟨u,rfl,rx⟩:=ybG r;cases rx;have hn:=zeh;rcases hq with hq|hq
 ·obtain⟨its,r',pl,hz⟩:=I.list hq;have hlen:=r'.length;exact Calls.call_len_list pl.isList (by simp only[xA8] <;> lia) ⟨.int ys.length,H,I.tok _,⟨s.toks+1,by rw[xA8,hlen]⟩,q⟩
 ·obtain⟨its,r',pl,hz⟩:=I.tuple hq;have hlen:=r'.length;exact len_tuple pl (by simp only[xA8] <;> lia) ⟨.int ys.length,H,I.tok _,⟨s.toks+1,by rw[xA8,hlen]⟩,q⟩
theorem zb4:zbo X (.type "list") (λxs H Q=>Ex2 λp ys=>xs=[.ref p]/\(SqL X.K H p ys\/SqT X.K H p ys)/\∀l,H l=none->Q (.ref l) (upd H l (.lst ys))):=by
 intro pins s σ H xs us Q I r h;obtain⟨p,ys,rfl,hq,q⟩:=h;obtain⟨u,rfl,rx⟩:=ybG r;cases rx;have fin:∀(its:List Value),Vals ys its->ys.length<=sizeLine->∀(h':Heap) (c':Nat),(∀b o',s.heap.get? b=some o'->h'.get? b=some o')->
   h'.get? s.heap.objs.size=some { cls:=.type "list",dict:=none,data:=.seq its.toArray c',slots:=#[] }->EP X pins σ Q (.ref s.heap.objs.size) { s with heap:=h' }:=λits r' hz h' c' kp e=>
  ⟨.ref s.heap.objs.size,_,I.laid (t':=s.toks) kp (xA5 _) (show zaR X.prog X.w _ h' _ (.lst ys) from⟨hz,its,c',r',e⟩),rfl,q _ (I.hok.fresh (xA5 _))⟩
 rcases hq with hq|hq
 ·obtain⟨its,r',pl,hz⟩:=I.list hq;have hlen:=r'.length;obtain⟨o,ho,hc,n,hd⟩:=pl.isList;exact call_list_seq p (.inl rfl) ho hc hd (λh' c' kp e=>fin its r' hz h' c' kp e) (by simp only[xA8] <;> lia)
 ·obtain⟨its,r',pl,hz⟩:=I.tuple hq;have hlen:=r'.length;obtain⟨o,ho,hc,n,hd⟩:=pl;exact call_list_seq p (.inr rfl) ho hc hd (λh' c' kp e=>fin its r' hz h' c' kp e) (by simp only[xA8] <;> lia)
theorem zal:zbo X (.type "tuple") (λxs H Q=>Ex2 λp ys=>xs=[.ref p]/\((SqL X.K H p ys/\∀l,H l=none->Q (.ref l) (upd H l (.tup ys)))\/(SqT X.K H p ys/\Q (.ref p) H))):=by
 intro pins s σ H xs us Q I r h;obtain⟨p,ys,rfl,h⟩:=h;obtain⟨u,rfl,rx⟩:=ybG r;cases rx;rcases h with⟨hq,q⟩ |⟨hq,q⟩
 ·obtain⟨its,r',pl,hz⟩:=I.list hq;have hlen:=r'.length;refine call_tuple_list pl.isList (λh' kp=>?_) (by simp only[xA8] <;> lia);have I1:Inv X pins σ H { s with heap:=h' }:=I.kept (t':=s.toks) kp;have I2:Inv X pins σ (upd H h'.objs.size (.tup ys)) { s with heap:=h'.push { cls:=.type "tuple",data:=.seq its.toArray } } :=
   I1.laid (t':=s.toks) (λb o e=>xA2 _ e) (xA5 _) (show zaR X.prog X.w _ _ _ (.tup ys) from⟨hz,its,r',IsTup.new _ _⟩)
  exact⟨.ref h'.objs.size,_,I2,rfl,q _ (I1.hok.fresh (xA5 _))⟩
 ·obtain⟨its,r',pl,hz⟩:=I.tuple hq;exact call_tuple_same pl ⟨.ref p,H,I,rfl,q⟩
noncomputable def tyV(K:PySem.W.Frag)(T:String)(x:V)(H:Hp):Prop:=match x with
 | .str _=>T = "str"
 | .int _=>T = "int"
 | .ref p=>(T = "list"/\∃xs,SqL K H p xs)\/(T = "tuple"/\∃o,K.lookup p=some o/\o.cls = .type "tuple"/\o.dict=none)\/
   (T = "dict"/\((∃kvs,H p=some (.dK kvs))\/∃kvs,H p=some (.dT kvs)))\/(T = "set"/\Ex2 λS n=>H p=some (.set S n))
 |_=>False
theorem yhO{T:String}(I:Inv X pins σ H s)(r:RelV x v)(ty:tyV X.K T x H) :
  s.TypeIs v T/\∀a,v = .ref a->∃ob,s.heap.get? a=some ob/\ob.dict=none:=by
 cases x with
 |str z=>
  obtain⟨t,rfl⟩:=r;cases (show T = "str" from ty);exact⟨typeIs_str s z t,λ_ e=>nomatch e⟩
 |int i=>
  obtain⟨t,rfl⟩:=r;cases (show T = "int" from ty);exact⟨typeIs_int s i t,λ_ e=>nomatch e⟩
 |ref p=>
  cases r;rcases ty with⟨rfl,xs,hq⟩ |⟨rfl,o,hk,hc,hd⟩ |⟨rfl,hk⟩ |⟨rfl,S,n,hk⟩
  ·obtain⟨its,_,pl,_⟩:=I.list hq;refine⟨pl.isList.typeIs,λa e=>?_⟩;cases e;obtain⟨o,n,e,c,hd,_⟩:=pl;exact⟨o,e,hd⟩
  ·refine⟨⟨o,I.kIn p o hk,hc⟩,λa e=>?_⟩;cases e;exact⟨o,I.kIn _ o hk,hd⟩
  ·have z:∃o,s.heap.get? p=some o/\o.ExactDict:=by
    rcases hk with⟨kvs,hk⟩ |⟨kvs,hk⟩
    ·obtain⟨_,_,_,_,o,_,_,e,ex,_⟩:=I.hok p _ hk;exact⟨o,e,ex⟩
    ·obtain⟨_,_,_,_,o,_,_,e,ex,_⟩:=I.hok p _ hk;exact⟨o,e,ex⟩
   obtain⟨o,e,ex⟩:=z;refine⟨⟨o,e,ex.1⟩,λa e2=>?_⟩;cases e2;exact⟨o,e,ex.2.1⟩
  ·obtain⟨o,_,_,_,e,ex,_⟩:=I.hok p _ hk;refine⟨⟨o,e,ex.1⟩,λa e2=>?_⟩;cases e2;exact⟨o,e,ex.2.1⟩
 |_=>exact False.elim ty
noncomputable def tBM(K:PySem.W.Frag)(T:String)(r:V->List V->Hp->VK->Prop)(to:TE)(t:TA):TE:=λσ H Q=>to σ H λx H1=>tyV K T x H1/\t σ H1 λxs H2=>r x xs H2 Q
variable {o e:Expr} {es:List Expr} {to:TE} {t:TA} {name:Str} {apos cpos:Pos} {T id:String} {r:V->List V->Hp->VK->Prop}
theorem ydW(pa:PlainAttrs T)(slot:Slot T name id)(hty:typeOf (.builtin id)=pure (.type "method_descriptor"))(hm:MtR X id r)(ho:PE X o to)(ha:PA X (e::es) t)
  (hbase:attributeBase o name X.env (eval o X.env)=eval o X.env:=by rfl)
  (hfew:((backTo cpos (starEach (e::es) X.env)).all (λx=>!x.1)&&(backToKw cpos (keywordEach [] X.env)).all (λx=>x.1.isSome)
   && decide ((e::es).length+([]:List Keyword).length+(if ([]:List Keyword).isEmpty then 0 else 1)<30))=true:=by rfl)
  (hline:(apos.endLine==cpos.line)=true:=by rfl) (hs:starEach (e::es) X.env=(false,eval e X.env)::starEach es X.env:=by rfl) (hplain:(backTo cpos (starEach es X.env)).any (·.1)=false:=by rfl) :
  PE X (.Call (.Attribute o name apos) (e::es) [] cpos) (tBM X.K T r to t):=by
 intro pins s σ H Q I h;refine wpAny_Call_method_late hbase hfew hline rfl (thn (ho pins s σ H _ I h) λv s1 hq=>?_);obtain⟨x,H1,I1,r1,ty,q1⟩:=hq;obtain⟨h1,h2⟩:=yhO I1 r1 ty;refine⟨T,id,pa,slot,hty,h1,h2,?_⟩;have hA:=ha cpos pins s1 σ H1 _ I1 q1;rw[hs]at hA ⊢;refine Calls.callWith_builtin (by show(false||(backTo cpos (starEach es X.env)).any (·.1))=false;rw[hplain] <;> rfl) (Calls.evalArgs_plain ?_);exact thn hA λus s2 ⟨vs,H2,I2,r2,q2⟩=>hm pins s2 σ H2 x vs v us Q I2 r1 r2 q2
end
end L2
namespace L2
open PySem PySem.Spec PyProof.Rows
noncomputable def MtM(X:Cx)(id:String)(r:V->List V->Hp->VK->Prop):Prop :=
 ∀(pins:List (Addr×Obj)) (s:Shared) (σ:St) (H:Hp) (x:V) (xs:List V) (v:Value) (us:List Value) (Q:VK),Inv X pins σ H s->RelV x v->Vals xs us->r x xs H Q->
  wpAny (model X.prog X.w) X.A (call (.builtin id) (v::us)) (EP X pins σ Q) X.xe s
theorem Vals.one(h:Vals [x] us):∃u,us=[u]/\RelV x u:=by
 cases h with|cons r t=>cases t;exact⟨_,rfl,r⟩
theorem Vals.zero:∀ {us:List Value},Vals [] us->us=[]
 |_,.nil=>rfl
theorem Vals.dropLast(h:Vals xs us):Vals xs.dropLast us.dropLast:=by
 induction h with
 |nil=>exact .nil
 |cons r t ih=>
  cases t with
  |nil=>exact .nil
  |cons q t'=>exact .cons r ih
theorem Vals.eraseIdx:∀ {xs:List V} {us:List Value} (i:Nat),Vals xs us->Vals (xs.eraseIdx i) (us.eraseIdx i)
 |_,_,_,.nil=>.nil
 |_,_,0,.cons _ t=>t
 |_,_,i+1,.cons r t=>.cons r (Vals.eraseIdx i t)
theorem Vals.reverse(h:Vals xs us):Vals xs.reverse us.reverse:=by
 induction h with
 |nil=>exact .nil
 |cons r t ih=>rw[List.reverse_cons,List.reverse_cons];exact Vals.append ih (.cons r .nil)
theorem Vals.rep(h:Vals xs us):∀k:Nat,Vals (List.replicate k xs).flatten (List.replicate k us).flatten
 |0=>.nil
 |k+1=>by
  rw[xBi,xBi,List.flatten_cons,List.flatten_cons];exact Vals.append h (Vals.rep h k)
theorem yeH{α:Type}(l:List α):l.eraseIdx (l.length-1)=l.dropLast:=by
 induction l with
 |nil=>rfl
 |cons a r ih=>
  cases r with
  |nil=>rfl
  |cons b r=>
   have e:(a::b::r).length-1=((b::r).length-1)+1:=by
    have h1:(a::b::r).length=r.length+2:=rfl;have h2:(b::r).length=r.length+1:=rfl
    lia
   rw[e,List.eraseIdx_cons_succ,ih]
   all_goals rfl
theorem zdD{α:Type}:∀(l:List α) (i:Nat),(l.eraseIdx i).length<=l.length
 | [],_=>xA5 _
 |_::_,0=>Nat.le_succ _
 |_::r,i+1=>Nat.succ_le_succ (zdD r i)
theorem ycy(its:List Value):∀(k:Nat) (acc:List Value),
  List.foldl (λx1 x2=>x1++x2) acc.toArray (List.replicate k its.toArray)=(acc++(List.replicate k its).flatten).toArray
 |0,acc=>by simp
 |k+1,acc=>by
  have e:acc.toArray++its.toArray=(acc++its).toArray:=by simp
  have e2:(acc++its)++(List.replicate k its).flatten=acc++(List.replicate (k+1) its).flatten:=by
   rw[xBi,List.flatten_cons,xBo]
  rw[<-e2,<-ycy its k (acc++its),<-e,xBi,List.foldl_cons]
section
variable {X:Cx} {pins:List (Addr×Obj)} {σ:St} {H:Hp} {s:Shared} {l b:Addr} {xs ys zs:List V}
theorem Inv.lset{its its':List Value}{n:Nat}{f:Array Value->Array Value}{t':Nat}(I:Inv X pins σ H s)(hH:H l=some (.lst xs))
  (e:s.heap.get? l=some { cls:=.type "list",data:=.seq its.toArray n }) (hf:f its.toArray=its'.toArray) (hv:Vals ys its') (hz:ys.length<=sizeLine) :
  Inv X pins σ (upd H l (.lst ys)) { s with heap:=s.heap.update l (Obj.mapSeq f),toks:=t' }:=by
 have q:=PySem.IsL.update e f;rw[hf]at q;refine I.write (x:=l) (e:=l) (by rw[hH];exact trivial) (.inl rfl) (λb' u hb hu=>(xB8 s.heap (Obj.mapSeq f) (Ne.symm hb)).trans hu) ⟨_,q⟩ ?_;exact⟨hz,its',_,hv,q⟩
theorem Inv.lnew{t':Nat}(I:Inv X pins σ H s)(hv:Vals ys its)(hz:ys.length<=sizeLine) :
  Inv X pins σ (upd H s.heap.objs.size (.lst ys)) { s with heap:=s.heap.push { cls:=.type "list",data:=.seq its.toArray },toks:=t' } :=
 I.laid (λ_ _ q=>xA2 _ q) (xA5 _) ⟨hz,its,0,hv,xA6 _ rfl⟩
theorem Inv.fresh(I:Inv X pins σ H s):H s.heap.objs.size=none:=I.hok.fresh (xA5 _)
theorem Inv.lstM(I:Inv X pins σ H s)(hH:H l=some (.lst xs)):xs.length<=sizeLine/\Ex2 λ(its:List Value) (n:Nat)=>Vals xs its/\xs.length=its.length/\s.heap.get? l=some { cls:=.type "list",data:=.seq its.toArray n }:=by
 obtain⟨z,its,n,r,e⟩:=I.hok l _ hH;exact⟨z,its,n,r,r.length,e⟩
theorem yeq{n:Nat}(h:n<=sizeLine):Builtin.List.listTooLong n=false:=by
 unfold Builtin.List.listTooLong;exact xB3 (by lia)
end
section
variable {X:Cx}
noncomputable def yg2:V->List V->Hp->VK->Prop:=λx vs H Q=>Ex3 λl xs y=>x = .ref l/\vs=[y]/\H l=some (.lst xs)/\xs.length<sizeLine/\Q .non (upd H l (.lst (xs++[y])))
theorem zbS:MtM X "list.append" yg2:=by
 intro pins s σ H x vs v us Q I rx rv h;obtain⟨l,xs,y,rfl,rfl,hH,hz,q⟩:=h;cases rx;obtain⟨u,rfl,ru⟩:=rv.one;obtain⟨z,its,n,r,hl,e⟩:=I.lstM hH;refine call_meets F.slot_list_append ⟨_,e,rfl⟩ F.entry_list_append (F.args_list_append_2 _ _) (PySem.list_append l its.toArray n u (by rw[xA8];lia)) ⟨e,?_⟩;refine⟨.non,_,I.lset (its':=its++[u]) hH e (by simp) (r.append (.cons ru .nil)) ?_,rfl,q⟩;rw[xAB,List.length_singleton]
 lia
noncomputable def yhe:V->List V->Hp->VK->Prop:=λx vs H Q=>Ex4 λl b xs zs=>x = .ref l/\vs=[.ref b]/\H l=some (.lst xs)/\H b=some (.lst zs)/\xs.length+zs.length<=sizeLine/\Q .non (upd H l (.lst (xs++zs)))
theorem ydP:MtM X "list.extend" yhe:=by
 intro pins s σ H x vs v us Q I rx rv h;obtain⟨l,b,xs,zs,rfl,rfl,hH,hB,hz,q⟩:=h;cases rx;obtain⟨u,rfl,ru⟩:=rv.one;cases ru;obtain⟨z,its,n,r,hl,e⟩:=I.lstM hH;obtain⟨z2,its2,n2,r2,hl2,e2⟩:=I.lstM hB;have hsz:its.toArray.size+its2.toArray.size<=sizeLine:=by rw[xA8,xA8];lia
 have hlong:¬ (!its.toArray.isEmpty&&Builtin.List.listTooLong (its.toArray.size+its2.toArray.size))=true:=by
  rw[yeq hsz,Bool.and_false];exact xAm
 refine call_meets F.slot_list_extend ⟨_,e,rfl⟩ F.entry_list_extend (F.args_list_extend_2 _ _)
  (AutoSeq1.list_extend_list_list_0 l its.toArray n b its2.toArray n2 hlong (by rw[xA8];lia) (by lia)) ⟨e,e2,?_⟩
 refine⟨.non,_,I.lset (its':=its++its2) hH e (by simp) (r.append r2) ?_,rfl,q⟩;rw[xAB]
 lia
noncomputable def rPop:V->List V->Hp->VK->Prop:=λx vs H Q=>Ex3 λl xs y=>x = .ref l/\vs=[]/\H l=some (.lst xs)/\xs[xs.length-1]?=some y/\Q y (upd H l (.lst xs.dropLast))
theorem mt_pop:MtM X "list.pop" rPop:=by
 intro pins s σ H x vs v us Q I rx rv h;obtain⟨l,xs,y,rfl,rfl,hH,hy,q⟩:=h;cases rx;have hus:=rv.zero;subst hus;obtain⟨z,its,n,r,hl,e⟩:=I.lstM hH;obtain⟨u,hu,ru⟩:=r.get hy;have hy':its.toArray[its.toArray.size-1]?=some u:=by
  show its.toArray[its.length-1]?=some u;rw[<-xAV,<-hl];exact hu
 refine call_meets F.slot_list_pop ⟨_,e,rfl⟩ F.entry_list_pop (F.args_list_pop_1 _) (MeetsSeq.list_pop_last l its.toArray n u hy' (by rw[xA8];lia)) ⟨e,?_⟩;refine⟨y,_,I.lset (its':=its.dropLast) hH e ?_ r.dropLast ?_,ru,q⟩
 ·show its.toArray.eraseIdxIfInBounds (its.toArray.size-1)=its.dropLast.toArray;rw[xA8,List.eraseIdxIfInBounds_toArray,yeH]
 ·rw[List.length_dropLast]
  lia
noncomputable def yhu:V->List V->Hp->VK->Prop:=λx vs H Q=>Ex5 λl xs i k y=>x = .ref l/\vs=[.int i]/\H l=some (.lst xs)/\-(2^63)<=i/\i<2^63/\seqIndex? i xs.length=some k/\xs[k]?=some y/\Q y (upd H l (.lst (xs.eraseIdx k)))
theorem zfY:MtM X "list.pop" yhu:=by
 intro pins s σ H x vs v us Q I rx rv h;obtain⟨l,xs,i,k,y,rfl,rfl,hH,h1,h2,hk,hy,q⟩:=h;cases rx;obtain⟨u,rfl,ru⟩:=rv.one;obtain⟨t,rfl⟩:=ru;obtain⟨z,its,n,r,hl,e⟩:=I.lstM hH;obtain⟨w,hw,rw'⟩:=r.get hy;refine call_meets F.slot_list_pop ⟨_,e,rfl⟩ F.entry_list_pop (F.args_list_pop_2 _ _)
  (MeetsSeq.list_pop_at l its.toArray n i t k w (fitsIndex_both h1 h2) (by rw[xA8,<-hl];exact hk) (by rw[<-xAV];exact hw) (by rw[xA8];lia)) ⟨e,?_⟩
 refine⟨y,_,I.lset (its':=its.eraseIdx k) hH e ?_ (r.eraseIdx k) ?_,rw',q⟩
 ·show its.toArray.eraseIdxIfInBounds k=(its.eraseIdx k).toArray;rw[List.eraseIdxIfInBounds_toArray]
 ·have:=zdD xs k
  lia
noncomputable def rCat:R2:=λx y H Q=>Ex4 λl b xs zs=>x = .ref l/\y = .ref b/\H l=some (.lst xs)/\H b=some (.lst zs)/\xs.length+zs.length<=sizeLine/\∀p,H p=none->Q (.ref p) (upd H p (.lst (xs++zs)))
theorem ycR:OpR X (binaryOp .Add) rCat:=by
 intro pins s σ H x y v u Q I rx ry h;obtain⟨l,b,xs,zs,rfl,rfl,hH,hB,hz,q⟩:=h;cases rx;cases ry;obtain⟨z,its,n,r,hl,e⟩:=I.lstM hH;obtain⟨z2,its2,n2,r2,hl2,e2⟩:=I.lstM hB;refine PySem.P.add_list e e2 ?_ (by rw[xA8,xA8];lia);have ea:its.toArray++its2.toArray=(its++its2).toArray:=by simp
 rw[ea];exact⟨.ref _,_,I.lnew (t':=s.toks) (r.append r2) (by rw[xAB];lia),rfl,q _ I.fresh⟩
noncomputable def rRep:R2:=λx y H Q=>Ex3 λl k xs=>x = .ref l/\y = .int k/\H l=some (.lst xs)/\-(2^63)<=k/\k<2^63/\xs.length*k.toNat<=sizeLine/\
 ∀p,H p=none->Q (.ref p) (upd H p (.lst (List.replicate k.toNat xs).flatten))
theorem zeW{α:Type}(xs:List α)(k:Nat):(List.replicate k xs).flatten.length=k*xs.length:=by
 induction k with
 |zero=>simp
 |succ k ih=>rw[xBi,List.flatten_cons,xAB,ih,Nat.succ_mul,Nat.add_comm]
theorem yfG:OpR X (binaryOp .Mult) rRep:=by
 intro pins s σ H x y v u Q I rx ry h;obtain⟨l,k,xs,rfl,rfl,hH,h1,h2,hz,q⟩:=h;cases rx;obtain⟨t,rfl⟩:=ry;obtain⟨z,its,n,r,hl,e⟩:=I.lstM hH;have hlen:its.toArray.size*k.toNat<=sizeLine:=by rw[xA8,<-hl];exact hz
 have hcap:¬ its.toArray.size*k.toNat>(2^63-1)/8:=by
  have:(sizeLine:Nat)<=(2^63-1)/8:=by decide
  lia
 have hfit:¬ (!Builtin.List.listFitsIndex k)=true:=by
  rw[fitsIndex_both h1 h2];exact xAm
 have hlong:¬ Builtin.List.listTooLong (its.toArray.size*k.toNat)=true:=by
  rw[yeq hlen];exact xAm
 have hnew:List.foldl (λx1 x2=>x1++x2) #[] (List.replicate (if its.toArray.isEmpty=true then 0 else k.toNat) its.toArray)=(List.replicate k.toNat its).flatten.toArray:=by
  have f0:∀m:Nat,List.foldl (λx1 x2=>x1++x2) #[] (List.replicate m its.toArray)=(List.replicate m its).flatten.toArray:=λm=>by
   have:=ycy its m [];rw[List.nil_append]at this;exact this
  rw[f0];cases its with
  |nil=>simp
  |cons a r'=>rw[if_neg (by simp)]
 refine wpAny_binaryOp_repeat_ref (T:="list") (U:="int") (by decide) ⟨_,e,rfl⟩ (λs'=>typeIs_int s' k t) noFill_list_mul F.fills_int_mul F.slot_int_rmul repeat_list F.slot_int_index.lookup
  (call_meets F.slot_int_rmul (typeIs_int s k t) F.entry_int_rmul (F.args_int_rmul_2 _ _) (int___rmul___int_list k t l its.toArray n)
   ⟨e,rfl,⟨_,e,rfl⟩,call_meets F.slot_list_mul ⟨_,e,rfl⟩ F.entry_list_mul (F.args_list_mul_2 _ _) (AutoListH.list___mul___list_int_3 l its.toArray n k t hfit hcap hlong) ⟨e,?_⟩⟩)
 rw[hnew];exact⟨.ref _,_,I.lnew (t':=s.toks) (r.rep k.toNat) (by rw[zeW,xBq];exact hz),rfl,q _ I.fresh⟩
end
end L2
namespace Att
open PySem PySem.W PySem.Calls PyProof.Rows
theorem yck{P:Params}:∀(ns:List Int) (vs:List Value),WellAll P h vs (ns.map WData.int)->IntsAre vs ns:=by
 intro ns
 induction ns with
 |nil=>
  intro vs w;rw[List.map_nil]at w;cases w;exact .nil
 |cons n ns ih=>
  intro vs w;rw[xBm]at w;cases w with
  |cons a b=>
   cases a;exact .cons _ _ (ih _ b)
theorem yfj{l:OpenLaw}{n:Nat}(hn:l.most=some n){P:Params}{args:List WData}
  (hpre:l.row.toRowW.claim.pre args=true) (hwl:WellAll P h vals args) :
  Ex3 λa vs ns=>vals=[Value.ref a]/\args=[WData.list (ns.map WData.int)]/\h.get? a=some { cls:=.type "list",data:=.seq vs.toArray }/\IntsAre vs ns/\ns.length<=n:=by
 have hsh:WShape.hasAll [] args [.list .int]=true:=(pre_splitW hpre).1;have hc:l.pre.holds [] { args:=args }=true:=(pre_splitW hpre).2;obtain⟨d,r,rfl,h1,h2⟩:=hasAllW_cons hsh;obtain rfl:=hasAllW_nil h2;obtain⟨xs,rfl,h3⟩:=hasW_list h1;obtain⟨ns,rfl⟩:=items_int h3;have hlen:ns.length<=n:=by
  unfold OpenLaw.pre at hc;have h4:(WTm.not (.lt (.lit (.int (n:Int))) (.len (.arg 0)))).holds [] { args:=[.list (ns.map .int)] }=true:=by
   have h4:=(holds_andW hc).1;rw[hn]at h4;exact h4
  have h5:=condW_of h4 (w_not (w_lt w_lit (w_len_list (w_arg rfl))));rw[xA1]at h5;refine Nat.le_of_not_lt λq=>?_
  have q':(n:Int)<((ns.length:Nat):Int):=by lia
  first
   |(rw[xAD q']at h5;exact absurd h5 (by decide))
   |(simp at h5;lia)
 cases hwl with
 |cons w1 w2=>
  cases w2;cases w1 with
  |list ho hall=>exact⟨_,_,ns,rfl,rfl,ho,yck ns _ hall,hlen⟩
theorem ze3(l:OpenLaw)(args:List WData):l.row.toRowW.claim.post args (.bool true) args=true :=
 postW_of (r:=l.row.toRowW) (X:=(true==true))
  (show WShape.has [] (.bool true) .bool=true by first|rfl|decide|simp[WShape.has,WShape.arms,WShape.armsAll])
  (show(WTm.eq .res (.lit (.bool true))).value [] { args:=args,res:=some (.bool true),after:=args }=some (.bool (true==true)) from w_eq_bool (w_res rfl) w_lit) rfl
theorem attach_call{l:OpenLaw}{n:Nat}{XP:(Str->Option Value)->Heap->Prop}{YP:World->Heap->Prop}{d:DefRec}
  (hn:l.most=some n) (hdf:d.params.defaults=[])
  (call:∀(w:World) (s₀ s₁:Shared) (mg mb:Str->Option Value) (fa:Addr) (o:Obj) (pm cd doc:Value) (a:Addr) (vs:List Value) (ns:List Int),
   Ground q loose [] XP w s₀ mg mb s₁.heap->YP w s₁.heap->
   s₁.heap.get? fa=some o->o.data = .func (docDef d.name d.params d.body d.scope pm cd doc)->s₁.heap.CodeRec cd d.name->mg d.name=some (.ref fa)->
   s₁.heap.get? a=some { cls:=.type "list",data:=.seq vs.toArray }->IntsAre vs ns->ns.length<=n->s₁.gens = #[]->
   codeAny (model l.prog w) callerA (.call (.ref fa) ⟨[.ref a],[]⟩) (λr s'=>r = .ok (.ret (.bool true))/\OldK s₁.heap s'.heap/\s'.os=s₁.os/\AllBare s'.gens) s₁) :
  WalkO q loose XP YP l.row.toRowW d [] (λf vs=>PySem.call f vs):=by
 intro w s₀ s₁ mg mb G Y fa o pm cd doc dV kV ho hd hcd hD hmg hg args vals as hpre hlay hrd hwl hlo;obtain rfl:dV = .none:=Dflts.none hD hdf;obtain rfl:kV = .none:=Dflts.noKw hD;obtain⟨a,vs,ns,rfl,rfl,hobj,hints,hlen⟩:=yfj hn hpre hwl;refine enter_call (codeAny_mono (call w s₀ s₁ mg mb fa o pm cd doc a vs ns G Y ho (fd_plain hd) hcd hmg hobj hints hlen hg) λr s' hq=>?_);obtain⟨rfl,h2,h3,h4⟩:=hq;exact⟨.inl ⟨.bool true,.bool true,[],rfl,λ_=>rfl,.bool true,ze3 l _,λ_=>⟨List.Pairwise.nil,λ_ hm=>(nomatch hm)⟩⟩,h2,h3,h4⟩
end Att
namespace L2
open PySem PySem.Spec PyProof.Rows
theorem zds:∀ {vs:List Value} {ns:List Int},IntsAre vs ns->Vals (ns.map V.int) vs
 |_,_,.nil=>.nil
 |_,_,.cons n t h=>.cons ⟨t,rfl⟩ (zds h)
def Only(H:Hp):Prop:=∀b,H b=none\/Ex2 λo xs=>H b=some (.frz o (.lst xs))
theorem ygl{K:PySem.W.Frag}{CX:CXT}{k:Nat}{ns:List Int}
  (KX:K.In s₁.heap) (hns:s₁.heap.Ns mainGlobals mg) (hb:s₁.heap.Ns builtinsNs mb) (hbb:∀x:Str,x≠"__name__"->mb x=bootBuiltins x) (hlim:s₁.heap.NoLimit) (hg:s₁.gens = #[])
  (ha:s₁.heap.get? a=some { cls:=.type "list",data:=.seq vs.toArray }) (hi:IntsAre vs ns) (hl:ns.length<=sizeLine) (hr:Room k callerA)
  (F:∀base:Heap,K.In base->base.Ns mainGlobals mg->FnOk P w K mg base CX k fa fd [x] sp) (hbind:∀(s:Shared) (u:Value),BindsTo s fd ⟨[u],[]⟩ [(x,u)])
  (hsp:∀H:Hp,Only H->SqL K H a (ns.map V.int)->sp [.ref a] H (λv _=>v = .bl true) λ_ _ _=>False)
  (hCX:∀H e s',CX [] H s₁ (λ_ _ _=>False) e s'->False) :
  codeAny (model P w) callerA (.call (.ref fa) ⟨[.ref a],[]⟩) (λr s'=>r = .ok (.ret (.bool true))/\OldK s₁.heap s'.heap/\s'.os=s₁.os/\AllBare s'.gens) s₁:=by
 have rv:=zds hi;have lenV:=hi.length;have core:∀H:Hp,Only H->SqL K H a (ns.map V.int)->HOk P w H s₁.heap->(∀b,H b≠none->b=a)->(H a≠none->K.lookup a=none)->
   codeAny (model P w) callerA (.call (.ref fa) ⟨[.ref a],[]⟩) (λr s'=>r = .ok (.ret (.bool true))/\OldK s₁.heap s'.heap/\s'.os=s₁.os/\AllBare s'.gens) s₁:=by
  intro H hO hS hok hA hK;have base_of:∀ {b:Addr} {o:Obj},s₁.heap.get? b=some o->H b=none->(hidT s₁.heap H).get? b=some o:=λe n=>ygn e n
  have noA:∀ {b:Addr} {o:Obj} {es:Array DictEntry} {ep:Nat},s₁.heap.get? b=some o->o.data = .dict es ep->H b=none:=λ{b o es ep} e d=>by
   cases q:H b with
   |none=>rfl
   |some u=>
    have e':b=a:=hA b (by rw[q];simp);subst e';rw[ha]at e;cases e;have d':Data.seq vs.toArray _=Data.dict es ep:=d;cases d'
  have nsK:∀ {b:Addr} {m:Str->Option Value},s₁.heap.Ns b m->(hidT s₁.heap H).Ns b m:=λ{b m} ⟨o,es,ep,e,d,r⟩=>⟨o,es,ep,base_of e (noA e d),d,r⟩
  have hKb:K.In (hidT s₁.heap H):=λb o e=>base_of (KX b o e) (by
   cases q:H b with
   |none=>rfl
   |some u=>
    have e':b=a:=hA b (by rw[q];simp);subst e';rw[hK (by rw[q];simp)]at e;cases e)
  have hM:Mod K mg (hidT s₁.heap H):=⟨hKb,nsK hns,⟨mb,nsK hb,hbb⟩,let ⟨mc,h1,h2⟩:=hlim;⟨mc,nsK h1,h2⟩⟩
  have e0:Env0 P w K mg (hidT s₁.heap H) callerA [] s₁ H:=⟨rfl,hM,λb o e=>zhj e,Nat.le_of_eq (yfQ _ _),trivial,λb hb=>absurd (show b∈([]:List Addr) from hb) (by simp),hok,.of_eq hg⟩
  refine codeAny_mono ((F _ hKb (nsK hns)).run callerA [] s₁ H ⟨[.ref a],[]⟩ [.ref a] [.ref a] _ _ hr e0 (hbind s₁ (.ref a)) (.cons rfl .nil) (hsp H hO hS)) λr s' h=>?_
  cases r with
  |error e=>exact(hCX H e s' h).elim
  |ok fl=>
   cases fl with
   |next=>exact False.elim h
   |brk=>exact False.elim h
   |cont=>exact False.elim h
   |ret u=>
    obtain⟨v,H',os,bare,un,hok',r',q⟩:=h;have q':v = .bl true:=q;subst q';obtain rfl:u=Value.bool true:=r';refine⟨rfl,OldK.of_keep λb o e=>?_,os,bare⟩;cases q:H b with
    |none=>exact un.keep b o e q (by intro z;exact absurd (show b∈([]:List Addr) from z) (by simp)) (by simp)
    |some u=>
     rcases hO b with z |⟨ob,xs,z⟩
     ·rw[q]at z;cases z
     ·have z2:=un.frzs b ob _ z;obtain⟨e1,_⟩:=hok b _ z;obtain⟨e2,_⟩:=hok' b _ z2;rw[e]at e1;cases e1;exact e2
 cases hk:K.lookup a with
 |some o=>
  have e:=KX a o hk;rw[ha]at e;cases e;refine core (λ_=>none) (λ_=>.inl rfl) (.inr ⟨_,vs.toArray,_,hk,rfl,rfl,rfl,by rw[xA8,lenV];exact hl,by simpa using rv⟩) (λb u z=>by have z':(none:Option HO)=some u:=z;cases z') (λb z=>absurd rfl z) λz=>absurd rfl z
 |none=>
  refine core (λb=>if b=a then some (.frz { cls:=.type "list",data:=.seq vs.toArray } (.lst (ns.map V.int))) else none) (λb=>?_) (.inl (.inr ⟨{ cls:=.type "list",data:=.seq vs.toArray },if_pos rfl⟩)) (λb u z=>?_) (λb z=>?_) λ_=>hk
  ·by_cases hb:b=a
   ·exact .inr ⟨_,_,if_pos hb⟩
   ·exact .inl (if_neg hb)
  ·by_cases hb:b=a
   ·have z':=(if_pos hb).symm.trans z;cases z';subst hb;exact⟨ha,by rw[xA1];exact hl,vs,_,rv,ha⟩
   ·have z':=(if_neg hb).symm.trans z;cases z'
  ·by_cases hb:b=a
   ·exact hb
   ·exact absurd (if_neg hb) z
end L2
namespace L2
open PySem PySem.Spec PyProof.Rows
abbrev KOf{K:PySem.W.Frag}{h:Heap}(_:K.In h):PySem.W.Frag:=K
theorem walk_of{l:PySem.W.OpenLaw}{n k:Nat}{XP:(Str->Option Value)->Heap->Prop}{YP:World->Heap->Prop}{d:DefRec}{K:Params->PySem.W.Frag}{CX:World->CXT}{sp:World->Sp}
  (hn:l.most=some n) (hn2:n<=sizeLine) (hdf:d.params.defaults=[]) (hr:Room k callerA)
  (hY:∀(w:World) (h:Heap),YP w h->(K w.params).In h)
  (F:∀(w:World) (mg:Str->Option Value) (fa:Addr) (h:Heap),(K w.params).In h->h.Ns mainGlobals mg->mg d.name=some (.ref fa)->
   ∃fd:FuncData,(∀(s:Shared) (u:Value),BindsTo s fd ⟨[u],[]⟩ [(x,u)])/\
    ∀base:Heap,(K w.params).In base->base.Ns mainGlobals mg->FnOk l.prog w (K w.params) mg base (CX w) k fa fd [x] (sp w))
  (hsp:∀(w:World) (H:Hp) (a:Addr) (ns:List Int),ns.length<=n->Only H->SqL (K w.params) H a (ns.map V.int)->sp w [.ref a] H (λv _=>v = .bl true) λ_ _ _=>False)
  (hCX:∀(w:World) (H:Hp) (s:Shared) (e:Value) (s':Shared),CX w [] H s (λ_ _ _=>False) e s'->False) :
  PySem.W.WalkO q loose XP YP l.row.toRowW d [] (λf vs=>PySem.call f vs):=by
 refine Att.attach_call hn hdf λw s₀ s₁ mg mb fa o pm cd doc a vs ns G Y ho hd hcd hmg hobj hints hlen hg=>?_
 have KX:=hY w _ Y;obtain⟨fd,hb,hF⟩:=F w mg fa _ KX G.T.g hmg;exact ygl KX G.T.g G.T.b G.T.builtins G.T.nolimit hg hobj hints (xAz hlen hn2) hr hF hb (λH hO hS=>hsp w H a ns hlen hO hS) λH e s'=>hCX w H s₁ e s'
end L2
namespace L2
open PySem PySem.Spec PyProof.Rows
noncomputable def zbG(s:Stmt):Arguments:=match s with
 | .FunctionDef _ a _ _ _ _ _ _ _ _=>a
 |_=>{ posonlyargs:=[],args:=[],vararg:=none,kwonlyargs:=[],kw_defaults:=[],kwarg:=none,defaults:=[] }
def zbl(s:Stmt):List Stmt:=match s with
 | .FunctionDef _ _ b _ _ _ _ _ _ _=>b
 |_=>[]
noncomputable def yac(s:Stmt):Scope:=match s with
 | .FunctionDef _ _ _ _ _ _ sc _ _ _=>sc
 |_=>{ kind:=.function,names:=[],isGenerator:=false,isCoroutine:=false }
abbrev CX0:CXT:=λ_ _ _ _ _ _=>False
abbrev E0:XK:=λ_ _ _=>False
theorem yie{X:Cx}:ye1 CX0 X E0:=λ_ _ _ _ _ _ _ h=>h.elim
structure Fun(K:PySem.W.Frag)(x qual:Str)(st:Stmt)(f:Addr)(fd:FuncData):Prop where
 ex:Ex9 λ(oc:Value) (od:Option Addr) (kV doc pm:Value) (an:Option Addr) (cdv ct:Value) (osl:Array (Option Value))=>
  fd=PySem.W.fnOf x qual (zbG st) (zbl st) (yac st) .none kV doc pm an cdv ct/\K.lookup f=some ⟨oc,od,.func fd,osl⟩/\PySem.W.codeIn K cdv qual=true
 kp:PySem.W.keepIn K (.ref f)=true
section
variable {P:Program} {w:World} {K:PySem.W.Frag} {mg:Str->Option Value} {base:Heap}
theorem Fun.ok{x qual:Str}{st:Stmt}{f:Addr}{fd:FuncData}{N ps:List Str}{k:Nat}{sp:Sp}(F:Fun K x qual st f fd)(S:yag N ps (yac st))(len:∀vs H Q E,sp vs H Q E->vs.length=ps.length)
  (hbody:∀(cdv:Value) (A:Around) (outer:List Env) (s:Shared) (H:Hp) (vs:List V) (Q:VK) (E:XK),Room k (A.deeper (envOfC qual (yac st) s.heap.objs.size f cdv))->sp vs H Q E->
   ∃t,PSs (cxOf CX0 P w K mg base N qual (yac st) f cdv A outer s H E).nox (zbl st) t/\t { nx:=λ_ H'=>Q .non H',rt:=Q } (zdL N vs) H):FnOk P w K mg base CX0 (k+1) f fd ps sp:=by
 obtain⟨oc,od,kV,doc,pm,an,cdv,ct,osl,rfl,lk,hcd⟩:=F.ex;refine yh8 lk hcd S len λA outer s H vs Q E hr hsp=>?_
 obtain⟨t,h,q⟩:=hbody cdv A outer s H vs Q E hr hsp;exact⟨t,h.nox,q⟩
theorem Fun.binds{x qual:Str}{st:Stmt}{f:Addr}{fd:FuncData}{ps:List Str}(F:Fun K x qual st f fd)
  (h:∀(kV doc pm:Value) (an:Option Addr) (cdv ct:Value) (us:List Value),us.length=ps.length->bindArgs (PySem.W.fnOf x qual (zbG st) (zbl st) (yac st) .none kV doc pm an cdv ct) ⟨us,[]⟩=pure (ps.zip us)):yeI K fd ps []:=by
 obtain⟨oc,od,kV,doc,pm,an,cdv,ct,osl,rfl,lk,hcd⟩:=F.ex;exact .all (h kV doc pm an cdv ct)
theorem zgu{x qual:Str}{st:Stmt}{f:Addr}{oc:Value}{od an:Option Addr}{osl:Array (Option Value)}{kV doc pm cdv ct:Value}(l:K.lookup f=some ⟨oc,od,.func (PySem.W.fnOf x qual (zbG st) (zbl st) (yac st) .none kV doc pm an cdv ct),osl⟩)
  (c:PySem.W.codeIn K cdv qual=true) (k:PySem.W.keepIn K (.ref f)=true):Fun K x qual st f (PySem.W.fnOf x qual (zbG st) (zbl st) (yac st) .none kV doc pm an cdv ct):=⟨⟨oc,od,kV,doc,pm,an,cdv,ct,osl,rfl,l,c⟩,k⟩
end
theorem yhq{k:Nat}(hr:Room k A):A.units+1<cLine:=xBr (Nat.add_le_add_left (by decide:1<=64) _) hr.units
theorem yah{n:Nat}(h:n<=1000):n<sizeLine:=xBr h (by decide)
section
variable {X:Cx}
theorem pv(i:Nat)(hN:X.N[i]?=some x:=by rfl)(hv:Vis X.env.scope x:=by first|exact Or.inl rfl|exact Or.inr (Or.inl rfl)|exact Or.inr (Or.inr rfl))(hd:(x==("__debug__":Str))=false:=by decide)
  (hcd:(x==("__classdict__":Str))=false:=by decide):PE X (.Name x pos) (tVar i):=yhF hN hv hd hcd
end
theorem ite2{c A B:Prop}[Decidable c](h1:c->A)(h2:¬ c->B):if c then A else B:=by
 by_cases h:c
 ·rw[if_pos h];exact h1 h
 ·rw[if_neg h];exact h2 h
def Same(H H':Hp):Prop:=∀b o,H b=some o->H' b=some o
theorem Same.refl(H:Hp):Same H H:=λ_ _ h=>h
theorem Same.trans(a:Same H H1)(b:Same H1 H2):Same H H2:=λc o h=>b c o (a c o h)
theorem Same.free(e:Same H H')(h:H' l=Option.none):H l=Option.none:=by
 cases q:H l with
 |none=>rfl
 |some o=>
  rw[e l o q]at h;cases h
theorem Same.seq{K:PySem.W.Frag}(e:Same H H')(h:SqL K H a xs):SqL K H' a xs:=by
 rcases h with(h |⟨o,h⟩)|h
 ·exact .inl (.inl (e _ _ h))
 ·exact .inl (.inr ⟨o,e _ _ h⟩)
 ·exact .inr h
end L2
end
section
namespace L2
open PySem PySem.Spec PyProof.Rows
section
variable {κ:Type} [DecidableEq κ]
def valV(kvs:List (κ×V))(k:κ):Option V:=(kvs.find? λkv=>decide (kv.1=k)).map (·.2)
noncomputable def putK(kvs:List (κ×V))(k:κ)(v:V):List (κ×V) :=
 if (kvs.any λkv=>decide (kv.1=k))=true then kvs.map (λkv=>if kv.1=k then(kv.1,v) else kv) else kvs++[(k,v)]
theorem ydg{p:κ×V}{r:List (κ×V)}{k:κ}(e:p.1=k):valV (p::r) k=some p.2:=by simp[valV,List.find?_cons,e]
theorem zdi{p:κ×V}{r:List (κ×V)}{k:κ}(e:¬ p.1=k):valV (p::r) k=valV r k:=by simp[valV,List.find?_cons,e]
theorem zen(k:κ):∀kvs:List (κ×V),(kvs.any λkv=>decide (kv.1=k))=(valV kvs k).isSome
 | []=>rfl
 |p::r=>by
  rw[List.any_cons];by_cases e:p.1=k
  ·simp only[ydg e,xAD e,Bool.true_or,Option.isSome_some]
  ·rw[zdi e,xB3 e,Bool.false_or];exact zen k r
theorem ybK(kvs:List (κ×V))(k:κ)(v:V):(putK kvs k v).length<=kvs.length+1:=by
 unfold putK;split
 ·rw[xA1];lia
 ·rw[xAB,xAo,List.length_nil];lia
theorem RelO.isSome_eq{o:Option V}{u:Option Value}(r:RelO o u):o.isSome=u.isSome:=by
 cases o with
 |none=>cases u with
  |none=>rfl
  |some _=>exact(show False from r).elim
 |some _=>cases u with
  |none=>exact(show False from r).elim
  |some _=>rfl
theorem KV.val{kvs:List (κ×V)}{vs:List (κ×Value)}(r:KV kvs vs)(k:κ):RelO (valV kvs k) (valueAt vs k):=by
 unfold KV at r
 induction r with
 |nil=>exact True.intro
 |@cons p q ps qs h t ih=>
  obtain⟨h1,h2⟩:=h;by_cases e:p.1=k
  ·have e':q.1=k:=h1.symm.trans e;have b:valueAt (q::qs) k=some q.2:=by simp[valueAt,List.find?_cons,e']
   rw[ydg e,b];exact h2
  ·have e':¬ q.1=k:=λz=>e (h1.trans z)
   have b:valueAt (q::qs) k=valueAt qs k:=by simp[valueAt,List.find?_cons,e']
   rw[zdi e,b];exact ih
theorem KV.any{kvs:List (κ×V)}{vs:List (κ×Value)}(r:KV kvs vs)(k:κ):(kvs.any λkv=>decide (kv.1=k))=vs.any λkv=>decide (kv.1=k):=by
 unfold KV at r
 induction r with
 |nil=>rfl
 |cons h t ih=>rw[List.any_cons,List.any_cons,ih,h.1]
theorem KV.repl{kvs:List (κ×V)}{vs:List (κ×Value)}(r:KV kvs vs)(k:κ)(ry:RelV y u) :
  KV (kvs.map λkv=>if kv.1=k then(kv.1,y) else kv) (vs.map λkv=>if kv.1=k then(kv.1,u) else kv):=by
 unfold KV at r ⊢
 induction r with
 |nil=>exact .nil
 |@cons p q ps qs h t ih=>
  rw[xBm,xBm];refine .cons ?_ ih;obtain⟨h1,h2⟩:=h;by_cases e:p.1=k
  ·rw[if_pos e,if_pos (h1.symm.trans e)];exact⟨h1,ry⟩
  ·rw[if_neg e,if_neg (λz=>e (h1.trans z))];exact⟨h1,h2⟩
theorem KV.put{kvs:List (κ×V)}{vs:List (κ×Value)}(r:KV kvs vs)(k:κ)(ry:RelV y u):KV (putK kvs k y) (stored vs k u):=by
 unfold putK stored;rw[r.any k];by_cases e:(vs.any λkv=>decide (kv.1=k))=true
 ·rw[if_pos e,if_pos e];exact r.repl k ry
 ·rw[if_neg e,if_neg e];exact Paired.snoc r ⟨rfl,ry⟩
theorem KV.keys{kvs:List (κ×V)}{vs:List (κ×Value)}(r:KV kvs vs):kvs.map (·.1)=vs.map (·.1):=by
 unfold KV at r
 induction r with
 |nil=>rfl
 |cons h t ih=>rw[xBm,xBm,ih,h.1]
theorem KV.length{kvs:List (κ×V)}{vs:List (κ×Value)}(r:KV kvs vs):kvs.length=vs.length:=Paired.length r
end
theorem yfM{k:Key}(r:RelV (kV k) u):(zau P w).is k u=true:=by
 cases k with
 |inl i=>obtain⟨t,e⟩:=(show ∃t,u=Value.int i t from r);subst e;exact ydU P w i t
 |inr x=>obtain⟨t,e⟩:=(show ∃t,u=Value.str x t from r);subst e;exact yd8 P w x t
theorem zdP:∀ {ks:List Key} {us:List Value},Vals (ks.map kV) us->ItemsAre (zau P w) ks us
 | [],_,r=>by rw[List.map_nil]at r;cases r;exact .nil
 |k::ks,_,r=>by
  rw[xBm]at r;cases r with
  |cons h t=>exact .cons (yfM h) (zdP t)
noncomputable abbrev KT(H:Hp):List (List Key×V)->List (List Key×Addr×Value)->Prop:=Paired λp q=>p.1=q.1/\H q.2.1=some (.tup (p.1.map kV))/\RelV p.2 q.2.2
theorem KT.val{kvs:List (List Key×V)}{xs:List (List Key×Addr×Value)}(r:KT H kvs xs)(k:List Key):RelO (valV kvs k) ((atKey xs k).map (·.2)):=by
 induction r with
 |nil=>exact True.intro
 |@cons p q ps qs h t ih=>
  obtain⟨h1,_,h2⟩:=h;by_cases e:p.1=k
  ·have e':q.1=k:=h1.symm.trans e;have b:atKey (q::qs) k=some q.2:=by simp[atKey,List.find?_cons,e']
   rw[ydg e,b];exact h2
  ·have e':¬ q.1=k:=λz=>e (h1.trans z)
   have b:atKey (q::qs) k=atKey qs k:=by simp[atKey,List.find?_cons,e']
   rw[zdi e,b];exact ih
theorem KT.repl{kvs:List (List Key×V)}{xs:List (List Key×Addr×Value)}(r:KT H kvs xs)(k:List Key)(ry:RelV y u) :
  KT H (kvs.map λkv=>if kv.1=k then(kv.1,y) else kv) (xs.map (putAt k u)):=by
 induction r with
 |nil=>exact .nil
 |@cons p q ps qs h t ih=>
  rw[xBm,xBm];refine .cons ?_ ih;obtain⟨h1,h2,h3⟩:=h;unfold putAt;by_cases e:p.1=k
  ·rw[if_pos e,if_pos (h1.symm.trans e)];exact⟨h1,h2,ry⟩
  ·rw[if_neg e,if_neg (λz=>e (h1.trans z))];exact⟨h1,h2,h3⟩
theorem KT.put{kvs:List (List Key×V)}{xs:List (List Key×Addr×Value)}(r:KT H kvs xs)(k:List Key)(hb:H b=some (.tup (k.map kV)))(ry:RelV y u) :
  KT H (putK kvs k y) (storedH xs k b u):=by
 have e:(kvs.any λkv=>decide (kv.1=k))=(atKey xs k).isSome:=by
  rw[zen,(r.val k).isSome_eq,Option.isSome_map]
 unfold putK storedH;rw[e];by_cases q:(atKey xs k).isSome=true
 ·rw[if_pos q,if_pos q];exact r.repl k ry
 ·rw[if_neg q,if_neg q];exact Paired.snoc r ⟨rfl,hb,ry⟩
theorem KT.keeps{kvs:List (List Key×V)}{xs:List (List Key×Addr×Value)}(r:KT H kvs xs)(ht:∀b ys,H b=some (.tup ys)->H' b=some (.tup ys)):KT H' kvs xs :=
 Paired.mapP r λ_ _ z=>⟨z.1,ht _ _ z.2.1,z.2.2⟩
section
variable {P:Program} {w:World} {H:Hp} {h:Heap} {a:Addr}
theorem yhS(ok:HOk P w H h)(e:Rd H a u):zaR P w H h a u:=e.ok ok
theorem yha{kvs:List (Key×V)}(ok:HOk P w H h)(e:Rd H a (.dK kvs)):kvs.length<=sizeLine/\(a==sysModules)=false/\∃vs,KV kvs vs/\h.DictOf (zau P w) a vs :=
 show zaR P w H h a (.dK kvs) from yhS ok e
theorem zhK{kvs:List (Key×V)}(ok:HOk P w H h)(e:H a=some (.dK kvs)):kvs.length<=sizeLine/\(a==sysModules)=false/\∃vs,KV kvs vs/\h.DictOf (zau P w) a vs:=yha ok (.inl e)
theorem ze5{ks:List Key}(ok:HOk P w H h)(e:H a=some (.tup (ks.map kV))):(tupleKind (zau P w)).is h ks a:=by
 obtain⟨_,its,r,o,h1,h2,n,h3⟩:=(show zaR P w H h a (.tup (ks.map kV)) from ok a _ e)
 exact⟨o,its.toArray,n,h1,h2,h3,by simpa using zdP r⟩
theorem zg2{kvs:List (List Key×V)}(ok:HOk P w H h)(e:Rd H a (.dT kvs)):kvs.length<=sizeLine/\(a==sysModules)=false/\
  ∃xs,KT H kvs xs/\h.DictOfH (tupleKind (zau P w)) a xs:=by
 obtain⟨z,y,xs,r,o,es,ep,h1,h2,h3,h4,h5⟩:=(show zaR P w H h a (.dT kvs) from yhS ok e)
 refine⟨z,y,xs,r,o,es,ep,h1,h2,h3,h4,λx hx=>?_,h5⟩;have all:∀ {l:List (List Key×V)} {m:List (List Key×Addr×Value)},KT H l m->∀x∈m,(tupleKind (zau P w)).is h x.1 x.2.1:=by
  intro l m q
  induction q with
  |nil=>intro x hx;exact nomatch hx
  |@cons p q ps qs hq t ih=>
   intro x hx;rcases xAa.mp hx with e|hx
   ·subst e;exact ze5 ok (by rw[<-hq.1];exact hq.2.1)
   ·exact ih x hx
 exact all r x hx
theorem yhx{kvs:List (List Key×V)}(ok:HOk P w H h)(e:H a=some (.dT kvs)):kvs.length<=sizeLine/\(a==sysModules)=false/\
  ∃xs,KT H kvs xs/\h.DictOfH (tupleKind (zau P w)) a xs:=zg2 ok (.inl e)
end
noncomputable def DGet(H:Hp)(a:Addr)(y:V)(r:Option V):Prop :=
 (Ex2 λkvs k=>Rd H a (.dK kvs)/\y=kV k/\r=valV kvs k)\/Ex3 λkvs k b=>Rd H a (.dT kvs)/\y = .ref b/\H b=some (.tup (k.map kV))/\r=valV kvs k
noncomputable def DPut(H:Hp)(a:Addr)(y v:V)(H':Hp):Prop :=
 (Ex2 λkvs k=>H a=some (.dK kvs)/\y=kV k/\kvs.length<sizeLine/\H'=upd H a (.dK (putK kvs k v)))\/
 Ex3 λkvs k b=>H a=some (.dT kvs)/\y = .ref b/\H b=some (.tup (k.map kV))/\kvs.length<sizeLine/\H'=upd H a (.dT (putK kvs k v))
theorem DGet.k{kvs:List (Key×V)}{k:Key}(e:H a=some (.dK kvs)):DGet H a (kV k) (valV kvs k):=.inl ⟨kvs,k,.inl e,rfl,rfl⟩
theorem DPut.t{kvs:List (List Key×V)}{k:List Key}(e:H a=some (.dT kvs))(eb:H b=some (.tup (k.map kV)))(hl:kvs.length<sizeLine) :
  DPut H a (.ref b) v (upd H a (.dT (putK kvs k v))):=.inr ⟨kvs,k,b,e,rfl,eb,hl,rfl⟩
section
variable {X:Cx} {pins:List (Addr×Obj)} {σ:St} {H:Hp} {s:Shared} {a:Addr} {y v:V} {u r:Value} {o:Option V} {A:Around} {E:Value->Shared->Prop}
theorem Inv.big(I:Inv X pins σ H s):sysModules<s.heap.objs.size:=by
 have h:mainGlobals<s.heap.objs.size:=(I.mod.glob.keeps I.bk).lt;exact Nat.lt_trans (by decide) h
theorem yfB(hu:A.units+1<cLine)(I:Inv X pins σ H s)(g:DGet H a y (some v))(ry:RelV y u)(h:∀w' s',Inv X pins σ H s'->RelV v w'->Q w' s') :
  wpAny (model X.prog X.w) A (getItem (.ref a) u) Q E s:=by
 rcases g with⟨kvs,k,e,ey,l⟩ |⟨kvs,k,b,e,ey,eb,l⟩
 ·subst ey;obtain⟨z,hd,vs,rel,dd⟩:=yha I.hok e;obtain⟨w',hw,rw'⟩:=RelO.some_of (v:=v) (o:=valueAt vs k) (by rw[l];exact rel.val k);exact wpAny_getItem_of (yfM ry) dd.mapOf hw (h w' _ (I.tok _) rw')
 ·subst ey;cases (show u=Value.ref b from ry);obtain⟨z,hd,xs,rel,dd⟩:=zg2 I.hok e;obtain⟨w',hw,rw'⟩:=RelO.some_of (v:=v) (o:=(atKey xs k).map (·.2)) (by rw[l];exact rel.val k);obtain⟨p,hp,hp2⟩:=xBD.mp hw;refine wpAny_getItem_heap (tupleKind_room_in1 hu) (ze5 I.hok eb) dd hp ?_;rw[hp2];exact h w' _ (I.tok _) rw'
theorem yea{t':Nat}(I:Inv X pins σ H s)(mu:Mut (H a))(hs:Heap.SameBut a s.heap h')(he:∃q,h'.get? a=some q)(new:zaR X.prog X.w (upd H a ob) h' a ob) :
  Inv X pins σ (upd H a ob) { s with heap:=h',toks:=t' } :=
 I.write (x:=a) (e:=a) mu (.inl rfl) (λb q hb z=>(hs.2 b hb).trans z) he new
theorem zgE{kvs:List (Key×V)}{vs:List (Key×Value)}(z:kvs.length<=sizeLine)(hd:(a==sysModules)=false)(rel:KV kvs vs)(dd:h'.DictOf (zau P w) a vs) :
  zaR P w H' h' a (.dK kvs):=⟨z,hd,vs,rel,dd⟩
theorem ze0(hu:A.units+1<cLine)(I:Inv X pins σ H s)(g:DPut H a y v H')(ry:RelV y u)(rv:RelV v r)(h:∀s',Inv X pins σ H' s'->Q () s') :
  wpAny (model X.prog X.w) A (setItem (.ref a) u r) Q E s:=by
 rcases g with⟨kvs,k,e,ey,l,eH⟩ |⟨kvs,k,b,e,ey,eb,l,eH⟩
 ·subst ey eH;obtain⟨z,hd,vs,rel,dd⟩:=zhK I.hok e;have hz:vs.length<=sizeLine:=by rw[<-rel.length];exact z
  have hl:(putK kvs k v).length<=sizeLine:=by have:=ybK kvs k v;lia
  refine wpAny_setItem_pairs (hsz:=hz) (yfM ry) dd λh' dd' hs=>h _ ?_
  have he:∃q,h'.get? a=some q:=let ⟨q,_,_,hq,_⟩:=dd';⟨q,hq⟩;exact yea I (by rw[e];exact True.intro) hs he (zgE hl hd (rel.put k rv) dd')
 ·subst ey eH;cases (show u=Value.ref b from ry);obtain⟨z,hd,xs,rel,dd⟩:=yhx I.hok e;have hz:xs.length<=sizeLine:=by rw[<-Paired.length rel];exact z
  have hl:(putK kvs k v).length<=sizeLine:=by have:=ybK kvs k v;lia
  refine wpAny_setItem_heap (hsz:=hz) (tupleKind_room_in1 hu) (ze5 I.hok eb) dd λh' dd' hs=>h _ ?_
  obtain⟨q,es,ep,hq,h2,h3,h4,_,h5⟩:=dd';refine yea I (by rw[e];exact True.intro) hs ⟨q,hq⟩ ⟨hl,hd,_,(rel.put k eb rv).keeps λc ys ec=>?_,q,es,ep,hq,h2,h3,h4,h5⟩;rw[zad (yh2 ec e (λz=>nomatch z))];exact ec
end
def NoSl(i:Expr):Prop:=∀ov iv,subscripted i false ov iv=operate [ov,iv] (getItem ov iv)
theorem zha{T id:String}
  (hl:typeLookup (.type T) "__getitem__"=pure (some (.builtin id))) (hs:NoSl slice)
  (h:wpAny (model prog w) A (eval value env) (λo s₁=>wpAny (model prog w) A (eval slice env) (λi s₂=>s₂.TypeIs o T/\wpAny (model prog w) A (getItem o i) Q E s₂) E s₁) E s) :
  wpAny (model prog w) A (eval (.Subscript value slice pos) env) Q E s:=by
 refine Subscript_ (xBE h (λo s₁ h₁=>xBE h₁ (λi s₂ h₂=>?_) λ_ _ x=>x) λ_ _ x=>x);obtain⟨hT,h₂⟩:=h₂;unfold subscriptTail;refine xA0 ?_;rw[getitemInPython_of_ne hT.not_modules];refine xA0 (wpAny_specialOf hT hl ?_);have fin:wpAny (model prog w) A (subscripted slice false o i) (λr s₃=>wpAny (model prog w) A (letTemporaryGo value o r >>= λ_=>pure r) Q E s₃) E s₂:=by
  rw[hs o i];exact wpAny_operating (xBE h₂ (λr s₃ h₃=>xA0 (wpAny_letTemporaryGo (xA3 h₃))) λ_ _ x=>x)
 first
  |exact xA3 (xA0 fin)
  |exact xA0 (xA3 (xA0 fin))
  |exact xA0 fin
theorem yeb{o:Option V}(I:Inv X pins σ H s)(g:DGet H a y o):s.TypeIs (.ref a) "dict":=by
 rcases g with⟨kvs,k,e,_,_⟩ |⟨kvs,k,b,e,_,_,_⟩
 ·obtain⟨_,_,vs,_,dd⟩:=yha I.hok e;exact dd.typeIs
 ·obtain⟨_,_,xs,_,dd⟩:=zg2 I.hok e;exact dd.typeIs
def zih(td ty:TE):TE:=λσ H Q=>td σ H λx H1=>ty σ H1 λy H2=>Ex2 λa v=>x = .ref a/\DGet H2 a y (some v)/\Q v H2
noncomputable def yib(td ty tv:TE):TS:=λD σ H=>tv σ H λv H1=>td σ H1 λx H2=>ty σ H2 λy H3=>Ex2 λa H4=>x = .ref a/\DPut H3 a y v H4/\D.nx σ H4
section
variable {X:Cx} {o i e value:Expr} {pos pos' tpos:Pos} {td ty tv:TE}
theorem yg4(hu:X.A.units+1<cLine)(ho:PE X o td)(hi:PE X i ty)(hs:NoSl i):PE X (.Subscript o i pos) (zih td ty):=by
 intro pins s σ H Q I h;refine zha PySem.F.slot_dict_getitem.lookup hs (thn (ho pins s σ H _ I h) λu s1 ⟨x,H1,I1,rx,q1⟩=>thn (hi pins s1 σ H1 _ I1 q1) λiv s2 hq=>?_);obtain⟨y,H2,I2,ry,a,v,ex,g,q2⟩:=hq;subst ex;obtain rfl:u=Value.ref a:=rx;exact⟨yeb I2 g,yfB hu I2 g ry λw' s3 I3 rw'=>⟨v,H2,I3,rw',q2⟩⟩
theorem zgJ(hu:X.A.units+1<cLine)(ho:PE X o td)(hi:PE X i ty)(hv:PE X value tv)(hs:swapsWith value (some (.Subscript o i pos')) pos.line X.env=pure false) :
  PS X (.Assign [.Subscript o i pos'] value pos) (yib td ty tv):=by
 intro pins s σ H D I h;refine wpAny_Assign_Subscript (thn (hv pins s σ H _ I h) λr s1 ⟨v,H1,I1,rv,q1⟩=>thn (ho pins s1 σ H1 _ I1 q1) λu s2 ⟨x,H2,I2,rx,q2⟩=>thn (hi pins s2 σ H2 _ I2 q2) λiv s3 ⟨y,H3,I3,ry,a,H4,ex,g,q3⟩=>?_) hs;subst ex;obtain rfl:u=Value.ref a:=rx;exact ze0 hu I3 g ry rv λs4 I4=>⟨σ,H4,I4,q3⟩
end
theorem zgd(h:Heap)(hb:sysModules<h.objs.size):zaR P w H (h.push { cls:=.type "dict",data:=.dict #[] }) h.objs.size (.dK []) :=
 ⟨xAR _,beq_eq_false_iff_ne.mpr (Ne.symm (xAq hb)),[],.nil,Heap.DictOf.new h⟩
theorem yfS(h:Heap)(hb:sysModules<h.objs.size):zaR P w H (h.push { cls:=.type "dict",data:=.dict #[] }) h.objs.size (.dT []) :=
 ⟨xAR _,beq_eq_false_iff_ne.mpr (Ne.symm (xAq hb)),[],.nil,_,#[],0,xA6 _ rfl,⟨rfl,rfl,rfl⟩,rfl,rfl,List.nodup_nil⟩
def zhQ:TE:=λ_ H Q=>∀p,H p=none->Q (.ref p) (upd H p (.dT []))
section
variable {X:Cx} {pos:Pos}
theorem zfW:PE X (.Dict [] [] pos) zhQ:=λpins s σ H Q I h=>
 wpAny_Dict_empty ⟨.ref s.heap.objs.size,_,I.laid (a:=s.heap.objs.size) (o:=.dT []) (t':=s.toks) (λ_ _ q=>xA2 _ q) (xA5 _) (yfS s.heap I.big),rfl,h _ (I.hok.fresh (xA5 _))⟩
end
noncomputable def ye8:List (TE×TE)->St->Hp->(List (V×V)->Hp->Prop)->Prop
 | [],_,H,Q=>Q [] H
 |(tk,tv)::r,σ,H,Q=>tk σ H λx H1=>tv σ H1 λy H2=>ye8 r σ H2 λps H3=>Q ((x,y)::ps) H3
abbrev VV:List (V×V)->List (Value×Value)->Prop:=Paired λp q=>RelV p.1 q.1/\RelV p.2 q.2
noncomputable def PPs(X:Cx)(pos:Pos)(keys:List (Option Expr))(values:List Expr)(trs:List (TE×TE)):Prop :=
 ∀(pins:List (Addr×Obj)) (s:Shared) (σ:St) (H:Hp) (Q:List (V×V)->Hp->Prop),Inv X pins σ H s->ye8 trs σ H Q->
  wpAny (model X.prog X.w) X.A (evalPairs (pairTrees keys values X.env pos)) (λvs s'=>Ex2 λps H'=>Inv X pins σ H' s'/\VV ps vs/\Q ps H') X.xe s
theorem ygW:PPs X pos [] [] []:=λpins s σ H Q I h=>pairTrees_nil_walk ⟨[],H,I,.nil,h⟩
theorem ybw{X:Cx}{pos:Pos}{k v:Expr}{ks:List (Option Expr)}{vs:List Expr}{tk tv:TE}{trs:List (TE×TE)}(hk:PE X k tk)(hv:PE X v tv)(hr:PPs X pos ks vs trs) :
  PPs X pos (some k::ks) (v::vs) ((tk,tv)::trs):=λpins s σ H Q I h=>
 pairTrees_cons_walk (thn (hk pins s σ H _ I h) λu s1 ⟨x,H1,I1,rx,q1⟩=>thn (hv pins s1 σ H1 _ I1 q1) λw2 s2 ⟨y,H2,I2,ry,q2⟩=>
  thn (hr pins s2 σ H2 _ I2 q2) λws s3 ⟨ps,H3,I3,rel,q3⟩=>⟨(x,y)::ps,H3,I3,.cons ⟨rx,ry⟩ rel,q3⟩)
def zcV(kvs more:List (Key×V)):List (Key×V):=more.foldl (λacc kv=>putK acc kv.1 kv.2) kvs
theorem KV.merge:∀ {more:List (Key×V)} {rs:List (Key×Value)} {kvs:List (Key×V)} {vs:List (Key×Value)},KV more rs->KV kvs vs->KV (zcV kvs more) (merged vs rs):=by
 intro more rs kvs vs r;unfold KV at r
 induction r generalizing kvs vs with
 |nil=>intro q;exact q
 |@cons p q ps qs h t ih=>
  intro r0;have e:KV (putK kvs p.1 p.2) (stored vs q.1 q.2):=by
   have:=r0.put p.1 h.2;rw[<-h.1];exact this
  exact ih e
theorem ybM:∀(more kvs:List (Key×V)),(zcV kvs more).length<=kvs.length+more.length
 | [],kvs=>by show kvs.length<=kvs.length+0;lia
 |p::r,kvs=>by
  have h1:=ybM r (putK kvs p.1 p.2);have h2:=ybK kvs p.1 p.2;show(zcV (putK kvs p.1 p.2) r).length<=_;rw[xAo];lia
theorem zcZ{P:Program}{w:World}:∀ {kvs:List (Key×V)} {ws:List (Value×Value)},VV (kvs.map λkv=>(kV kv.1,kv.2)) ws->∃rs,Carries (zau P w) ws rs/\KV kvs rs
 | [],_,r=>by rw[List.map_nil]at r;cases r;exact⟨[],True.intro,.nil⟩
 |p::kvs,_,r=>by
  rw[xBm]at r;cases r with
  |@cons a b as bs h t=>
   obtain⟨rs,c,q⟩:=zcZ (P:=P) (w:=w) t;obtain⟨b1,b2⟩:=b;exact⟨(p.1,b2)::rs,⟨yfM h.1,rfl,c⟩,.cons ⟨rfl,h.2⟩ q⟩
noncomputable def zhX(trs:List (TE×TE)):TE:=λσ H Q=>∀p,H p=none->ye8 trs σ (upd H p (.dK [])) λps H2=>H2 p=some (.dK [])/\∃kvs:List (Key×V),ps=kvs.map (λkv=>(kV kv.1,kv.2))/\kvs.length<=15/\Q (.ref p) (upd H2 p (.dK (zcV [] kvs)))
theorem zgP{X:Cx}{pos:Pos}{keys:List (Option Expr)}{values:List Expr}{trs:List (TE×TE)}(h:PPs X pos keys values trs)(hall:keys.all (·.isSome)=true)(hl:keys.length=values.length)(h0:keys≠[])
  (h15:keys.length<=15):PE X (.Dict keys values pos) (zhX trs):=by
 intro pins s σ H Q I q;have hn:=I.hok.fresh (xA5 s.heap.objs.size);have I1:=I.laid (a:=s.heap.objs.size) (o:=.dK []) (h':=s.heap.push { cls:=.type "dict",data:=.dict #[] }) (t':=s.toks) (λ_ _ q=>xA2 _ q) (xA5 _) (zgd s.heap I.big);refine wpAny_Dict_walk (knd:=zau X.prog X.w) hall hl h0 h15 (thn (h pins _ σ _ _ I1 (q _ hn)) λws s2 hq=>?_);obtain⟨ps,H2,I2,rel,e,kvs,ep,lk,q2⟩:=hq;subst ep;obtain⟨rs,c,rk⟩:=zcZ (P:=X.prog) (w:=X.w) rel;obtain⟨z,hd,vs0,r0,dd⟩:=zhK I2.hok e;cases r0;refine⟨rs,c,dd,λh' dd' hs=>⟨.ref s.heap.objs.size,_,?_,rfl,q2⟩⟩;have hz:(zcV [] kvs).length<=sizeLine:=by
  have h1:=ybM kvs [];rw[List.length_nil]at h1;rw[sizeLine_eq];lia
 have he:∃q,h'.get? s.heap.objs.size=some q:=let ⟨q,_,_,hq,_⟩:=dd';⟨q,hq⟩;exact yea I2 (by rw[e];exact True.intro) hs he (zgE hz hd (rk.merge .nil) dd')
structure M1(X:Cx)(o:Expr)(m:Str)(apos:Pos)(e:Expr)(cpos:Pos):Prop where
 base:attributeBase o m X.env (eval o X.env)=eval o X.env
 few:((backTo cpos (starEach [e] X.env)).all (λx=>!x.1)&&(backToKw cpos (keywordEach [] X.env)).all (λx=>x.1.isSome)
  && decide (([e]:List Expr).length+([]:List Keyword).length+(if ([]:List Keyword).isEmpty then 0 else 1)<30))=true
 line:(apos.endLine==cpos.line)=true
 trees:backTo cpos (starEach [e] X.env)=[(false,eval e X.env)]
structure M2(X:Cx)(o:Expr)(m:Str)(apos:Pos)(e f:Expr)(cpos:Pos):Prop where
 base:attributeBase o m X.env (eval o X.env)=eval o X.env
 few:((backTo cpos (starEach [e,f] X.env)).all (λx=>!x.1)&&(backToKw cpos (keywordEach [] X.env)).all (λx=>x.1.isSome)
  && decide (([e,f]:List Expr).length+([]:List Keyword).length+(if ([]:List Keyword).isEmpty then 0 else 1)<30))=true
 line:(apos.endLine==cpos.line)=true
 trees:backTo cpos (starEach [e,f] X.env)=[(false,eval e X.env),(false,eval f X.env)]
end L2
namespace L2
open PySem PySem.Spec PyProof.Rows
end L2
namespace L2
open PySem PySem.Spec PyProof.Rows
end L2
end
section
namespace L2
open PySem PySem.Spec PyProof.Rows
section
variable {prog:Program} {w:World} {A:Around} {R:Result->Shared->Prop} {s:Shared}
theorem zdW(I:Nat->Shared->Prop)
  (turn:∀n s,I n s->wpAny (model prog w) A (pyNext it) (λr s₁=>match r with
   |none=>R (.ok .next) s₁
   |some v=>wpAny (model prog w) A (letOwnedTupleGo target it v) (λ_ s₁'=>wpAny (model prog w) A (assign target env v) (λ_ s₂=>
     wpAny (model prog w) A (forIn ifs true λc r=>if r=true then do let ok <-isTrue c env (eval c env);pure (ForInStep.yield ok) else pure (ForInStep.yield r)) (λok s₃=>
      if ok=true then wpAny (model prog w) A (eval elt env) (λx s₄=>
       wpAny (model prog w) A (call (.builtin "list.append") [acc,x]) (λ_ s₅=>∃m,m<n/\I m s₅) (λ_ _=>False) s₄) (λ_ _=>False) s₃
      else ∃m,m<n/\I m s₃) (λ_ _=>False) s₂) (λ_ _=>False) s₁') (λ_ _=>False) s₁) (λ_ _=>False) s)
  (n:Nat) (h:I n s):codeAny (model prog w) A (.compLoop (.ListComp elt [⟨target,iter,ifs,0⟩] scope pos) 0 it acc env) R s:=by
 refine codeAny_loop rfl I (λn s hI=>?_) n h;show wpAny _ A ((compTurn (.ListComp elt [⟨target,iter,ifs,0⟩] scope pos) 0 it acc env).onRaise (λx=>do noteFrame x env;theTreesLotGoes x)) _ _ s;refine wpAny_noted (wpAny_noRaise ?_);rw[compTurn_list];refine xA0 (wpAny_standAt (xA0 (xBE (turn n s hI) (λr s₁ h₁=>?_) λ_ _ h'=>h')));cases r with
 |none=>exact xA3 h₁
 |some v=>
  refine xA0 (xBE h₁ (λ_ s₁' h₁'=>?_) λ_ _ h'=>h');refine xA0 (xBE h₁' (λ_ s₂ h₂=>xA0 (xBE h₂ (λok s₃ h₃=>?_) λ_ _ h'=>h')) λ_ _ h'=>h');cases ok with
  |false=>exact xA3 ⟨rfl,h₃⟩
  |true=>
   exact xA0 (xA0 (xBE h₃ (λx s₄ h₄=>xA0 (xBE h₄ (λ_ s₅ h₅=>xA3 (xA3 ⟨rfl,h₅⟩)) λ_ _ h'=>h')) λ_ _ h'=>h'))
end
theorem zbx{α:Type}{k:α}:∀ {l:List (Str×α)},l.lookup x=some k->(x,k)∈l:=λh=>PySem.mem_of_lookup h
theorem ybn{scope:Scope}{env:Env}(h:∀x∈scope.names,x.2 = .free->∃c,env.cells.lookup x.1=some c) :
  ∃cl,closureFor scope env=pure cl/\(∀n c,cl.lookup n=some c->env.cells.lookup n=some c)/\(∀n,(n,NameKind.free)∈scope.names->∃c,cl.lookup n=some c):=by
 have aux:∀(names:List (Str×NameKind)) (cs:List (Str×Addr)),(∀x∈names,x.2 = .free->∃c,env.cells.lookup x.1=some c)->(∀n c,cs.lookup n=some c->env.cells.lookup n=some c)->
   ∃cl,(forIn names cs λx r=>if (x.2==NameKind.free)=true then do let a <-cellOf env x.1;pure (ForInStep.yield ((x.1,a)::r)) else pure (ForInStep.yield r):Sem (List (Str×Addr)))=pure cl/\
    (∀n c,cl.lookup n=some c->env.cells.lookup n=some c)/\(∀n,((n,NameKind.free)∈names\/∃c,cs.lookup n=some c)->∃c,cl.lookup n=some c):=by
  intro names
  induction names with
  |nil=>intro cs _ hc;exact⟨cs,rfl,hc,λn h=>h.elim (λz=>nomatch z) id⟩
  |cons x r ih=>
   intro cs hx hc;obtain⟨n,k⟩:=x;have hr:∀x∈r,x.2 = .free->∃c,env.cells.lookup x.1=some c:=λy hy=>hx y (xAb _ hy)
   by_cases hk:k = .free
   ·subst hk;obtain⟨c,e⟩:=hx (n,.free) xA7 rfl;have hc':∀m d,List.lookup m ((n,c)::cs)=some d->env.cells.lookup m=some d:=λm d hm=>by
     rw[List.lookup_cons]at hm;cases hb:m==n with
     |true=>rw[hb]at hm;cases hm;rw[xBC hb];exact e
     |false=>rw[hb]at hm;exact hc m d hm
    obtain⟨cl,h1,h2,h3⟩:=ih ((n,c)::cs) hr hc';refine⟨cl,?_,h2,λm hm=>h3 m ?_⟩
    ·rw[List.forIn_cons];have e2:cellOf env n=pure c:=by unfold cellOf;rw[e]
     simp only[xBg,if_true,e2];exact h1
    ·rcases hm with hm |⟨d,hm⟩
     ·rcases xAa.mp hm with q|q
      ·cases q;exact .inr ⟨c,by rw[List.lookup_cons,xBg]⟩
      ·exact .inl q
     ·refine .inr ?_;rw[List.lookup_cons];cases hb:m==n with
      |true=>exact⟨c,rfl⟩
      |false=>exact⟨d,hm⟩
   ·obtain⟨cl,h1,h2,h3⟩:=ih cs hr hc;refine⟨cl,?_,h2,λm hm=>h3 m ?_⟩
    ·rw[List.forIn_cons];have:(k==NameKind.free)=false:=by simpa using hk
     simp only[this,xBK,if_false];exact h1
    ·rcases hm with hm|hm
     ·rcases xAa.mp hm with q|q
      ·cases q;exact absurd rfl hk
      ·exact .inl q
     ·exact .inr hm
 obtain⟨cl,h1,h2,h3⟩:=aux scope.names [] h (λn c z=>by simp at z);refine⟨cl,?_,h2,λn hn=>h3 n (.inl hn)⟩;simp only[closureFor];rw[h1];rfl
theorem za4{env:Env}:∀ {names:List (Str×NameKind)} {x:Str} {k:NameKind},
  (names.map λ(n,k)=>if (k==NameKind.free&&env.scope.kind==.function&&env.kindOf n==some .cell) then(n,NameKind.cell) else(n,k)).lookup x=some k->(k = .cell\/k = .free)->
  names.lookup x=some .free\/names.lookup x=some .cell
 | [],_,_,h,_=>by simp at h
 |(n,q)::r,x,k,h,hk=>by
  have ih:=@za4 env r x k;rw[xBm,List.lookup_cons]at h;rw[List.lookup_cons];by_cases hc:(q==NameKind.free&&env.scope.kind==.function&&env.kindOf n==some .cell)=true
  ·simp only[if_pos hc]at h;cases hx:x==n with
   |true=>
    have:q = .free:=by
     have:=(Bool.and_eq_true_iff.mp (Bool.and_eq_true_iff.mp hc).1).1;exact xBC this
    simp[this]
   |false=>rw[hx]at h;exact ih h hk
  ·simp only[if_neg hc]at h;cases hx:x==n with
   |true=>
    rw[hx]at h;cases h;rcases hk with rfl|rfl
    ·exact .inr rfl
    ·exact .inl rfl
   |false=>rw[hx]at h;exact ih h hk
theorem yb5{env:Env}:∀ {names:List (Str×NameKind)} {x:Str},names.lookup x=some .free->
  (names.map λ(n,k)=>if (k==NameKind.free&&env.scope.kind==.function&&env.kindOf n==some .cell) then(n,NameKind.cell) else(n,k)).lookup x=some .cell\/
  (names.map λ(n,k)=>if (k==NameKind.free&&env.scope.kind==.function&&env.kindOf n==some .cell) then(n,NameKind.cell) else(n,k)).lookup x=some .free
 | [],_,h=>by simp at h
 |(n,q)::r,x,h=>by
  have ih:=@yb5 env r x;rw[xBm,List.lookup_cons];rw[List.lookup_cons]at h;by_cases hc:(q==NameKind.free&&env.scope.kind==.function&&env.kindOf n==some .cell)=true
  ·simp only[if_pos hc];cases hx:x==n with
   |true=>exact .inl rfl
   |false=>rw[hx]at h;exact ih h
  ·simp only[if_neg hc];cases hx:x==n with
   |true=>rw[hx]at h;cases h;exact .inr rfl
   |false=>rw[hx]at h;exact ih h
noncomputable def cxC(X:Cx)(N:List Str)(scope:Scope)(cl:List (Str×Addr))(C:Addr)(fp:List Addr)(s:Shared)(H:Hp):Cx :=
 { prog:=X.prog,w:=X.w,K:=X.K,mg:=X.mg,base:=X.base,A:=X.A,N:=N,s₀:=s,H₀:=H,env:=compEnvC scope cl C X.env,outer:=X.stack,stack:=X.stack,ex:=fp,fn:=λ_=>false,calm:=X.calm,pn:=[],xe:=λ_ _=>False }
structure CSc(M:List Str)(sc:Scope)(tg cp:List Str)(ci:List Nat)(scope:Scope):Prop where
 kind:scope.kind = .function
 nocell:∀x∈scope.names,x.2≠.cell
 loc:∀x∈scope.names,x.2 = .local->scope.names.lookup x.1=some .local
 free:∀x∈scope.names,x.2 = .free->sc.names.lookup x.1=some .cell\/sc.names.lookup x.1=some .free
 cap:∀x∈cp,scope.names.lookup x=some .free
 at_:ci.map (M[·]?)=cp.map some
 nd:(tg++cp).Nodup
def capσ(k:Nat)(ci:List Nat)(σ:St):St:=List.replicate k none++ci.map λi=>(σ[i]?).join
abbrev yhQ:=Nat->Nat->List V->Hp->Prop
noncomputable def zhn(wi:TI)(k:Nat)(ci:List Nat)(g:TG)(ti:TT)(te:TE):TE:=λσ H Q=>wi σ H λJ H1=>∃W:yhQ,(∃m,W 0 m [] H1)/\∀i m acc H,W i m acc H->
 (J.stop i H/\∀D,H D=none->Q (.ref D) (upd H D (.lst acc)))\/
 (J.go i H/\acc.length<sizeLine/\∃N:List V->Hp->Prop,(∀acc' H',N acc' H'->∃m',m'<m/\W (i+1) m' acc' H')/\∀x H',J.yld i H x H'->g x (capσ k ci σ) H' λσ2 H2=>ti σ2 H2 λb H3=>if b=true then te σ2 H3 λv H4=>N (acc++[v]) H4 else N acc H3)
noncomputable def PIfs(X:Cx)(ifs:List Expr)(t:TT):Prop :=
 ∀(pins:List (Addr×Obj)) (s:Shared) (σ:St) (H:Hp) (Q:Bool->Hp->Prop),Inv X pins σ H s->t σ H Q->
  wpAny (model X.prog X.w) X.A (forIn ifs true λc r=>if r=true then do let ok <-isTrue c X.env (eval c X.env);pure (ForInStep.yield ok) else pure (ForInStep.yield r)) (TP X pins σ Q) X.xe s
def zh3:TT:=λ_ H Q=>Q true H
theorem zaZ:PIfs X [] zh3:=λpins s σ H Q I h=>wpAny_tests_nil ⟨H,I,h⟩
theorem zaS{X:Cx}{c:Expr}{t:TT}(h:PT X c t):PIfs X [c] t:=λpins s σ H Q I hq=>wpAny_tests_one (h pins s σ H Q I hq)
section
variable {X:Cx}
structure Gone(X:Cx)(pins:List (Addr×Obj))(H:Hp)(s:Shared)(C:Addr):Prop where
 ns:∃m,s.heap.Ns C m
 free:H C=none
 ne:C≠X.env.locals
 ab:X.s₀.heap.objs.size<=C
 cells:∀x c,X.env.cells.lookup x=some c->c≠C
 pins:∀p∈X.pn++pins,p.1≠C
 nofs:C∉X.fs
theorem yei{ci:List Nat} {cl:List (Str×Addr)}
  (S:CSc X.N X.env.scope tg cp ci scope) (hcalm:X.calm=true) (hi:PI X target iter wi)
  (hcl1:∀n c,cl.lookup n=some c->X.env.cells.lookup n=some c) (hcl2:∀n,(n,NameKind.free)∈scope.names->∃c,cl.lookup n=some c)
  (hg:∀C fp s H,PG (cxC X (tg++cp) scope cl C fp s H) target g) (ht:∀C fp s H,PIfs (cxC X (tg++cp) scope cl C fp s H) ifs ti) (he:∀C fp s H,PE (cxC X (tg++cp) scope cl C fp s H) elt te)
  (I:Inv X pins σ H s) (h:zhn wi tg.length ci g ti te σ H Q) :
  wpAny (model X.prog X.w) X.A (eval iter X.env) (λx s₁=>wpAny (model X.prog X.w) X.A (pyIter x) (λit s₂=>wpAny (model X.prog X.w) X.A (newList []) (λacc s₃=>
   wpAny (model X.prog X.w) X.A (newFunctionEnv scope X.env.globals cl [] X.env.qual none .none (some X.env)) (λcenv s₄=>
    codeAny (model X.prog X.w) X.A (.compStart (.ListComp elt [⟨target,iter,ifs,0⟩] scope pos) 0 it acc { cenv with scope:=relabel scope X.env })
     (λr s'=>Ex3 λD vs H'=>acc = .ref D/\r = .ok .next/\Inv X pins σ (upd H' D (.lst vs)) s'/\H' D=none/\Gone X pins (upd H' D (.lst vs)) s' cenv.locals/\∀D',H' D'=none->Q (.ref D') (upd H' D' (.lst vs))) s₄) X.xe s₃) X.xe s₂) X.xe s₁) X.xe s:=by
 refine thn (hi pins s σ H _ I h) λv s1 h1=>thn h1 λitv s2 h2=>?_
 obtain⟨it,fp,tn,J,H2,e,I2,T,st2,f2,W,⟨m0,w0⟩,turn⟩:=h2;subst e;refine xAG (wpAny_newFunctionEnv S.nocell (by intro y hy;simp at hy) (λh₁ hns₁ hsb₁=>?_) S.kind);dsimp only at hns₁ hsb₁ ⊢;generalize hHL:s2.heap.push { cls:=.type "list",dict:=none,data:=.seq ([]:List Value).toArray }=HL at hns₁ hsb₁ ⊢;have hC:HL.objs.size=s2.heap.objs.size+1:=by rw[<-hHL,xAX]
 generalize hD:s2.heap.objs.size=D at hC ⊢;generalize hCC:HL.objs.size=C at hns₁ hsb₁ hC ⊢;have hDC:D≠C:=by lia
 have old:∀b o,s2.heap.get? b=some o->h₁.get? b=some o:=λb o e=>by
  have lt:s2.heap.objs.size>=Nat.succ b:=xAe e;refine hsb₁.extBut b o (show @Ne Nat b C by lia) (xA2 _ (hHL ▸ xA2 _ e))
 have hD1:h₁.get? D=some { cls:=.type "list",data:=.seq ([]:List Value).toArray 0 }:=by
  refine hsb₁.extBut D _ hDC (xA2 _ ?_);rw[<-hHL,<-hD];exact xA6 _ rfl
 have fD:H2 D=none:=I2.hok.fresh (by lia);have fC:H2 C=none:=I2.hok.fresh (by lia)
 let X':Cx:=cxC X (tg++cp) scope cl C fp s2 H2
 have ok':X'.Ok:=by
  refine⟨I2.ok.mod,?_,I2.ok.glob,I2.ok.blt,?_,?_,?_,?_,I2.ok.hd,I2.ok.frames,.inl rfl,?_,I2.bs,xAz I2.ok.bsz I2.sz,?_,?_,I2.stack,I2.stkFree⟩
  ·exact S.kind
  ·show s2.heap.objs.size<=C;lia
  ·intro x y c hx hy;exact I2.ok.inj x y c (hcl1 x c hx) (hcl1 y c hy)
  ·intro x hx;have hx':(relabel scope X.env).names.lookup x=some .cell\/(relabel scope X.env).names.lookup x=some .free:=hx;have q:scope.names.lookup x=some .free\/scope.names.lookup x=some .cell:=by
    rcases hx' with z|z
    ·exact za4 z (.inl rfl)
    ·exact za4 z (.inr rfl)
   rcases q with q|q
   ·exact hcl2 x (zbx q)
   ·exact absurd rfl (S.nocell _ (zbx q))
  ·intro x c hx;cases hx
  ·intro b hb;obtain⟨o,eo,_⟩:=T.obj _ _ st2 b hb;have lt:s2.heap.objs.size>=Nat.succ b:=xAe eo;exact⟨by show @Ne Nat b C;lia,λx c hx=>(f2 b hb).2.2.2.2.1 x c (hcl1 x c hx)⟩
  ·intro b o e hb;rcases(f2 b hb).2.2.2.1 with z|z
   ·exact I2.ok.noex b o e z
   ·have l1:X.base.objs.size>=Nat.succ b:=xAe e;have l2:X.base.objs.size<=X.s₀.heap.objs.size:=I2.ok.bsz;have l3:X.s₀.heap.objs.size<=(b:Nat):=z
    lia
  ·intro b hb hbs;rcases xAa.mp (I2.stkSub b hbs) with z|z
   ·exact(f2 b hb).2.1 z
   ·exact(f2 b hb).2.2.1 z
 have capLen:(capσ tg.length ci σ).length=X'.N.length:=by
  show(List.replicate tg.length none++ci.map λi=>(σ[i]?).join).length=(tg++cp).length;have:=congrArg List.length S.at_;simp only[xA1]at this;simp[this]
 have capLook:∀(h':Heap) (m':Str->Option Value),(∀x c o,X.env.cells.lookup x=some c->s2.heap.get? c=some o->∃sl,h'.get? c=some { o with slots:=sl })->
   ∀(i:Nat) (x:Str) (v:V),X'.N[i]?=some x->(capσ tg.length ci σ)[i]?=some (some v)->Vis X'.env.scope x->∃u,RelV v u/\Look X'.env h' m' x u:=by
  intro h' m' hcell i x v e1 e2 e3;have e1':(tg++cp)[i]?=some x:=e1;have e2':(List.replicate tg.length none++ci.map λi=>(σ[i]?).join)[i]?=some (some v):=e2;by_cases hi':i<tg.length
  ·rw[xBt (by simpa using hi'),List.getElem?_replicate]at e2';split at e2' <;> cases e2'
  ·rw[xB0 (by simpa using hi'),xBH,xAd]at e2';rw[xB0 (by lia)]at e1';cases hj:ci[i-tg.length]? with
   |none=>rw[hj]at e2';cases e2'
   |some j=>
    rw[hj]at e2';have e2'':(σ[j]?).join=some v:=xAF e2';have e4:σ[j]?=some (some v):=by
     cases q:σ[j]? with
     |none=>rw[q]at e2'';cases e2''
     |some z=>rw[q]at e2'';exact congrArg some e2''
    have e5:X.N[j]?=some x:=by
     have:=congrArg (·[i-tg.length]?) S.at_;simp only[xAd,hj,e1',Option.map_some]at this;exact xAF this
    have hx:scope.names.lookup x=some .free:=S.cap x (xAS e1');have hk:=S.free (x,.free) (zbx hx) rfl;obtain⟨m,hn,hl⟩:=I2.loc;obtain⟨u,r,l⟩:=hl j x v e5 e4 (.inr hk);refine⟨u,r,.inr ⟨?_,?_⟩⟩
    ·exact yb5 hx
    ·rcases l with⟨k1,_⟩ |⟨_,c,k2,k3⟩
     ·have k1':X.env.scope.names.lookup x=some .local:=k1;rcases hk with z|z <;> (rw[z]at k1';cases k1')
     ·obtain⟨c',hc'⟩:=hcl2 x (zbx hx);have:=hcl1 x c' hc';rw[k2]at this;cases this;obtain⟨o,ho,hd⟩:=k3;obtain⟨sl,q⟩:=hcell x c o k2 ho;exact⟨c,hc',_,q,hd⟩
 have I':∀tk,Inv X' [] (capσ tg.length ci σ) H2 { s2 with heap:=h₁,toks:=tk }:=λtk=>by
  refine⟨ok',rfl,I2.bare,Un.kept old,⟨_,hns₁,capLook _ _ λx c o _ e=>⟨o.slots,old c o e⟩⟩,λx c hx=>?_,fC,λx c hx=>I2.freeC x c (hcl1 x c hx),λp hp=>absurd (show p∈([]:List (Addr×Obj)) from hp) (by simp),I2.hok.kept old,?_⟩
  ·obtain⟨v,o,ho,hd⟩:=I2.cell x c (hcl1 x c hx);exact⟨v,o,old c o ho,hd⟩
  ·exact capLen
 have recap:∀ {pl pl':List (Addr×Obj)} {σ':St} {H':Hp} {s':Shared},Inv X' (pl++pl') σ' H' s'->Inv X' pl (capσ tg.length ci σ) H' s':=λ{pl pl' σ' H' s'} J=>by
  obtain⟨m,hn,_⟩:=J.loc;have u:Un (frs X.stack) fp H2 H' s2.heap s'.heap:=J.base;exact⟨J.ok,J.os,J.bare,J.base,⟨m,hn,capLook _ _ λx c o hx e=>u.any e (I2.freeC x c hx) λhb=>(f2 c hb).2.2.2.2.1 x c hx rfl⟩,J.cell,J.free,J.freeC,
   λp hp=>(xAr.mp hp).elim (λz=>J.pin p (xAT _ z)) (λz=>J.pin p (xAg _ (xAT _ z))),J.hok,capLen⟩
 have stat:∀ {H':Hp},(∀b∈fp,H' b=none)->∀b∈fp,FpOk X' [] H' b:=λhn b hb=>by
  obtain⟨o,eo,_⟩:=T.obj _ _ st2 b hb;have lt:s2.heap.objs.size>=Nat.succ b:=xAe eo;exact⟨hn b hb,by show @Ne Nat b C;lia,ok'.exfs b hb,.inl hb,(ok'.exf b hb).2,λp hp=>absurd (show p∈([]:List (Addr×Obj)) from hp) (by simp)⟩
 have hDfp:D∉fp:=λhb=>by obtain⟨o,eo,_⟩:=T.obj _ _ st2 D hb;have lt:s2.heap.objs.size>=Nat.succ D:=xAe eo;lia
 have hDcell:∀x c,X'.env.cells.lookup x=some c->c≠D:=λx c hx=>by
  obtain⟨v,o,ho,hd⟩:=I2.cell x c (hcl1 x c hx);have lt:s2.heap.objs.size>=Nat.succ c:=xAe ho;intro z;have z':@Eq Nat c D:=z;lia
 have hDfs:D∉X'.fs:=λhb=>by
  have:D∈X.env.locals::X.fs:=I2.stkSub D hb;rcases xAa.mp this with z|z
  ·have l1:s2.heap.objs.size>=Nat.succ X.env.locals:=I2.lt;have z':@Eq Nat D X.env.locals:=z
   lia
  ·exact I2.nofs (show s2.heap.objs.size<=D by lia) z
 have fin:∀ {pl:List (Addr×Obj)} {σ':St} {H':Hp} {s':Shared} {vs:List V} {us:List Value} {k:Nat},Inv X' pl σ' H' s'->H' D=none->s'.heap.get? D=some { cls:=.type "list",data:=.seq us.toArray k }->Vals vs us->vs.length<=sizeLine->
   (∀D',H' D'=none->Q (.ref D') (upd H' D' (.lst vs)))->
   Ex3 λD' vs H'=>Value.ref D = .ref D'/\(Except.ok Flow.next:Result) = .ok .next/\Inv X pins σ (upd H' D' (.lst vs)) s'/\H' D'=none/\Gone X pins (upd H' D' (.lst vs)) s' C/\∀D',H' D'=none->Q (.ref D') (upd H' D' (.lst vs)):=by
  intro pl σ' H' s' vs us k J f e r z q;have u:Un (frs X.stack) fp H2 H' s2.heap s'.heap:=J.base;have lt:∀ {b:Addr} {o:Obj},s2.heap.get? b=some o->b≠D:=λ{b o} eb zb=>by
   have l1:s2.heap.objs.size>=Nat.succ b:=xAe eb;have l2:@Eq Nat b D:=zb
   lia
  have u2:Un (frs X.stack) fp H2 (upd H' D (.lst vs)) s2.heap s'.heap :=
   ⟨u.keep,u.slot,λb o eb n hx=>by rw[zad (lt eb)];exact u.free b o eb n hx,u.there,
    λb xs eb=>by rw[zad (zac eb fD)];exact u.tups b xs eb,λb o uu eb=>by rw[zad (zac eb fD)];exact u.frzs b o uu eb,λb ps eb=>by rw[zad (zac eb fD)];exact u.tbls b ps eb⟩
  have hok2:HOk X.prog X.w (upd H' D (.lst vs)) s'.heap:=λb o eb=>by
   by_cases hb:b=D
   ·subst hb;rw[zaa]at eb;cases eb;exact⟨z,us,k,r,e⟩
   ·rw[zad hb]at eb;refine(J.hok b o eb).stay (λ_ _ _ q=>q) (λc hc=>?_) λc xs hc=>?_
    ·rw[zad (λzz=>by rw[zz,f]at hc;cases hc)];exact hc
    ·rw[zad (λzz=>by rw[zz,f]at hc;cases hc)];exact hc
  refine⟨D,vs,H',rfl,rfl,I2.call' (ch:=fp) J.os u2 hok2 J.bare ?_,f,⟨?_,?_,?_,?_,?_,?_,?_⟩,q⟩
  ·intro b hb;obtain⟨_,a2,_,a4,a5,a6⟩:=f2 b hb;exact⟨a4,a2,a5,a6⟩
  ·obtain⟨m,hn,_⟩:=J.loc;exact⟨m,hn⟩
  ·rw[zad (Ne.symm hDC)];exact J.free
  ·have l1:s2.heap.objs.size>=Nat.succ X.env.locals:=I2.lt;intro zz;have zz':@Eq Nat C X.env.locals:=zz;lia
  ·have l1:X.s₀.heap.objs.size<=s2.heap.objs.size:=I2.sz;show X.s₀.heap.objs.size<=C;lia
  ·intro x c hx zz;obtain⟨v,o,ho,hd⟩:=I2.cell x c hx;have l1:s2.heap.objs.size>=Nat.succ c:=xAe ho;have zz':@Eq Nat c C:=zz
   lia
  ·intro p hp zz;have l1:s2.heap.objs.size>=Nat.succ p.1:=xAe (I2.pin p hp).1;have zz':@Eq Nat p.1 C:=zz
   lia
  ·exact I2.nofs (show s2.heap.objs.size<=C by lia)
 have loop:∀tk,codeAny (model X.prog X.w) X.A (.compLoop (.ListComp elt [⟨target,iter,ifs,0⟩] scope pos) 0 (.ref it) (.ref D) (compEnvC scope cl C X.env))
   (λr s'=>Ex3 λD' vs H'=>Value.ref D = .ref D'/\r = .ok .next/\Inv X pins σ (upd H' D' (.lst vs)) s'/\H' D'=none/\Gone X pins (upd H' D' (.lst vs)) s' C/\∀D',H' D'=none->Q (.ref D') (upd H' D' (.lst vs))) { s2 with heap:=h₁,toks:=tk }:=by
  intro tk;refine zdW (λn s'=>Ex5 λi vs us k H'=>Inv X' [] (capσ tg.length ci σ) H' s'/\tn i s'.heap/\(∀b∈fp,H' b=none)/\H' D=none/\s'.heap.get? D=some { cls:=.type "list",data:=.seq us.toArray k }/\Vals vs us/\vs.length<=sizeLine/\W i n vs H') ?_ m0
   ⟨0,[],[],0,H2,I' tk,T.keep _ _ _ st2 (λb hb o e=>old b o e),λb hb=>(f2 b hb).1,fD,hD1,.nil,xAR _,w0⟩
  rintro n s3 ⟨i,vs,us,k,H3,I3,st3,fr3,fD3,hD3,rv3,z3,w3⟩
  let pD:List (Addr×Obj):=[(D,{ cls:=.type "list",data:=.seq us.toArray k })]
  have pinD:∀ {σ':St} {H':Hp} {s':Shared},Inv X' [] σ' H' s'->H' D=none->s'.heap.get? D=some { cls:=.type "list",data:=.seq us.toArray k }->Inv X' pD σ' H' s':=λ{σ' H' s'} J f e=>
   J.pins_of λp hp=>by
    have:p=(D,{ cls:=.type "list",data:=.seq us.toArray k }):=by simpa[pD]using hp
    subst this;exact⟨e,f,hDC,hDfs,λv z=>by cases z⟩
  have statD:∀ {H':Hp},(∀b∈fp,H' b=none)->∀b∈fp,FpOk X' pD H' b:=λhn b hb=>by
   obtain⟨a1,a2,a3,a4,a5,_⟩:=stat hn b hb;refine⟨a1,a2,a3,a4,a5,λp hp=>?_⟩;have:p=(D,{ cls:=.type "list",data:=.seq us.toArray k }):=by
    have hp':p∈([]:List (Addr×Obj))++pD:=hp
    simpa[pD]using hp'
   subst this
   exactλz=>hDfp (by rw[show D=b from z];exact hb)
  rcases turn i n vs H3 w3 with⟨stop,qn⟩ |⟨go,zl,N,hN,step⟩
  ·refine thn (T.done X' rfl rfl rfl hcalm i pD s3 _ H3 _ (pinD I3 fD3 hD3) (statD fr3) st3 stop) λr s4 hq=>?_
   obtain⟨hr,I4⟩:=hq;subst hr;have eD:s4.heap.get? D=some { cls:=.type "list",data:=.seq us.toArray k }:=(I4.pin (D,_) (by simp[pD])).1;exact fin I4 fD3 eD rv3 z3 qn
  ·refine thn (T.item X' rfl rfl rfl hcalm i pD s3 _ H3 _ (pinD I3 fD3 hD3) (statD fr3) st3 go) λr s4 hq=>?_
   obtain⟨u,hr,h4⟩:=hq;subst hr;refine thn h4 λ_ s5 hq=>?_
   obtain⟨x,H5,I5,r5,y5,st5,fr5⟩:=hq;have I5':=I5.pinned (statD fr5) (T.obj _ _ st5);refine thn (hg C fp s2 H2 _ s5 _ H5 x u _ I5' r5 (step x H5 y5)) λ_ s6 hq=>?_
   obtain⟨σ6,H6,I6,q6⟩:=hq;refine thn (ht C fp s2 H2 _ s6 σ6 H6 _ I6 q6) λb s7 hq=>?_
   obtain⟨H7,I7,q7⟩:=hq;have again:∀ {s8:Shared} {H8:Hp},Inv X' (pD++ydG fp s5.heap) σ6 H8 s8->Inv X' pD (capσ tg.length ci σ) H8 s8/\tn (i+1) s8.heap/\(∀b∈fp,H8 b=none)/\H8 D=none/\s8.heap.get? D=some { cls:=.type "list",data:=.seq us.toArray k }:=λ{s8 H8} I8=>by
    have e8:=I8.pin (D,_) (xAg _ (xAT _ (by simp[pD] <;> rfl)));refine⟨?_,T.keep _ _ _ st5 λb hb o e=>(I8.pin (b,o) (xAg _ (xAg _ (zbz hb e)))).1,λb hb=>?_,e8.2.1,e8.1⟩
    ·exact recap I8
    ·obtain⟨o,e,d⟩:=T.obj _ _ st5 b hb;exact(I8.pin (b,o) (xAg _ (xAg _ (zbz hb e)))).2.1
   cases b with
   |false=>
    obtain⟨m',hm,w7⟩:=hN _ _ q7;obtain⟨J,t7,f7,d7,e7⟩:=again I7;exact⟨m',hm,i+1,vs,us,k,H7,J.pins_of (λp hp=>nomatch hp),t7,f7,d7,e7,rv3,z3,w7⟩
   |true=>
    simp only[if_true]at q7 ⊢;refine thn (he C fp s2 H2 _ s7 σ6 H7 _ I7 q7) λy s8 hq=>?_
    obtain⟨yv,H8,I8,r8,q8⟩:=hq;obtain⟨m',hm,w8⟩:=hN _ _ q8;obtain⟨J,t8,f8,d8,e8⟩:=again I8;refine call_meets F.slot_list_append ⟨_,e8,rfl⟩ F.entry_list_append (F.args_list_append_2 _ _) (PySem.list_append D us.toArray k y (by rw[xA8,<-rv3.length];exact z3)) ⟨e8,?_⟩;have q:=PySem.IsL.update e8 (·.push y);have J0:Inv X' [] (capσ tg.length ci σ) H8 s8:=J.pins_of (λp hp=>nomatch hp);refine⟨m',hm,i+1,vs++[yv],us++[y],_,H8,J0.turned (it:=D) (t':=s8.toks) (λb o hb hu=>(xB8 s8.heap _ (Ne.symm hb)).trans hu) d8 hDC (.inr (by show s2.heap.objs.size<=D;lia)) hDcell (λp hp=>absurd (show p∈([]:List (Addr×Obj)) from hp) (by simp)),?_,f8,d8,by simpa using q,rv3.append (.cons r8 .nil),by simp;lia,w8⟩;exact T.keep _ _ _ t8 λb hb o hu=>(xB8 s8.heap _ (λz=>hDfp (by rw[z];exact hb))).trans hu
 exact codeAny_compStart_list (loop _) (T.self X.A 0 _ _ _ (T.keep _ _ _ st2 (λb hb o e=>old b o e)) (loop _))
theorem Gone.turned{pins:List (Addr×Obj)}{σ:St}{H:Hp}{s:Shared}{C:Addr}{h':Heap}(G:Gone X pins H s C)(I:Inv X pins σ H s)(hs:Heap.SameBut C s.heap h'):Inv X pins σ H { s with heap:=h' } :=
 I.turned (t':=s.toks) (λb o hb e=>hs.extBut b o hb e) G.free G.ne (.inr G.ab) G.cells G.pins
theorem yfY{elt target iter:Expr}{ifs:List Expr}{scope:Scope}{pos:Pos}{tg cp:List Str}{ci:List Nat}{wi:TI}{g:TG}{ti:TT}{te:TE}
  (S:CSc X.N X.env.scope tg cp ci scope) (hcalm:X.calm=true) (hi:PI X target iter wi)
  (hg:∀cl C fp s H,PG (cxC X (tg++cp) scope cl C fp s H) target g) (ht:∀cl C fp s H,PIfs (cxC X (tg++cp) scope cl C fp s H) ifs ti) (he:∀cl C fp s H,PE (cxC X (tg++cp) scope cl C fp s H) elt te)
  (hs:∀x,foldedSetIterable iter X.env x=pure x:=by intro _;rfl):PE X (.ListComp elt [⟨target,iter,ifs,0⟩] scope pos) (zhn wi tg.length ci g ti te):=by
 intro pins s σ H Q I h;obtain⟨cl,hclos,h1,h2⟩:=ybn (scope:=scope) (env:=X.env) λx hx hf=>I.ok.has x.1 (S.free x hx hf)
 rw[eval_ListComp];refine wpAny_comprehension_free (use:=none) rfl hs hclos S.kind S.loc (thn (yei S hcalm hi h1 h2 (hg cl) (ht cl) (he cl) I h) λx s1 q1=>thn q1 λit s2 q2=>thn q2 λacc s3 q3=>thn q3 λcenv s4 q4=>codeAny_mono q4 λr s' q=>?_);obtain⟨D,vs,H',e1,e2,I',f,G,q⟩:=q;subst e1 e2;obtain⟨m,hn⟩:=G.ns;exact⟨m,hn,λh' hsb=>⟨.ref D,_,G.turned I' hsb,rfl,q D f⟩⟩
theorem zbr{i:Nat}{y:Str}{py:Pos}{elt target iter:Expr}{ifs:List Expr}{scope:Scope}{pos spos:Pos}{tg cp:List Str}{ci:List Nat}{wi:TI}{g:TG}{ti:TT}{te:TE}
  (hN:X.N.Nodup) (hi':X.N[i]?=some y) (hy:Loc X.env.scope y)
  (S:CSc X.N X.env.scope tg cp ci scope) (hcalm:X.calm=true) (hi:PI X target iter wi)
  (hg:∀cl C fp s H,PG (cxC X (tg++cp) scope cl C fp s H) target g) (ht:∀cl C fp s H,PIfs (cxC X (tg++cp) scope cl C fp s H) ifs ti) (he:∀cl C fp s H,PE (cxC X (tg++cp) scope cl C fp s H) elt te)
  (hsw:swapsWith (.ListComp elt [⟨target,iter,ifs,0⟩] scope pos) (some (.Name y py)) spos.line X.env=pure true:=by rfl)
  (hs:∀x,foldedSetIterable iter X.env x=pure x:=by intro _;rfl) (hf:X.fn y=true\/X.env.scope.names.lookup y=some .local:=by first|exact .inl rfl|exact .inr rfl|assumption) :
  PS X (.Assign [.Name y py] (.ListComp elt [⟨target,iter,ifs,0⟩] scope pos) spos) (tAsg (zhn wi tg.length ci g ti te) (yap i)):=by
 intro pins s σ H D I h;obtain⟨cl,hclos,h1,h2⟩:=ybn (scope:=scope) (env:=X.env) λx hx hf=>I.ok.has x.1 (S.free x hx hf)
 rw[exec_Assign_Name_used _ _ _ _ hsw];refine xA0 (wpAny_standAt (xA0 ?_));show wpAny _ X.A (do let _ <-comprehension (.ListComp elt [⟨target,iter,ifs,0⟩] scope pos) scope X.env _ (newList []) false (eval iter X.env) (some (assign (.Name y py) X.env))) _ _ s;refine xA0 (xBE (wpAny_comprehension_free (use:=some (assign (.Name y py) X.env)) (Q:=λ_ s'=>SP X pins D .next s') rfl hs hclos S.kind S.loc
  (thn (yei S hcalm hi h1 h2 (hg cl) (ht cl) (he cl) I h) λx s1 q1=>thn q1 λit s2 q2=>thn q2 λacc s3 q3=>thn q3 λcenv s4 q4=>codeAny_mono q4 λr s' q=>?_)) (λ_ s' hq=>xA3 (xA3 hq)) λ_ _ e=>e)
 obtain⟨D',vs,H',e1,e2,I',f,G,q⟩:=q;subst e1 e2;show wpAny _ X.A (assign (.Name y py) X.env (.ref D')) _ _ _;obtain⟨m,o,es,ep,ho,hd,hk⟩:=G.ns;have pin:Inv X ((cenv.locals,o)::pins) σ (upd H' D' (.lst vs)) s':=I'.pins_of λp hp=>by
  rcases xAa.mp hp with z|z
  ·subst z;exact⟨ho,G.free,G.ne,G.nofs,λv z=>by rw[hd]at z;cases z⟩
  ·exact I'.pin p (xAg _ z)
 refine wpAny_assign_Name (za2 (v:=V.ref D') pin hN hi' hy (show RelV (.ref D') (.ref D') from rfl) (λs2 I2=>?_) hf);have I3:Inv X pins (σ.set i (some (.ref D'))) (upd H' D' (.lst vs)) s2:=I2.pins_of λp hp=>I2.pin p (xAg _ (xAb _ hp))
 have e2:=I2.pin (cenv.locals,o) (xAg _ xA7);have G2:Gone X pins (upd H' D' (.lst vs)) s2 cenv.locals:=⟨⟨m,o,es,ep,e2.1,hd,hk⟩,G.free,G.ne,G.ab,G.cells,G.pins,G.nofs⟩
 exact⟨m,⟨o,es,ep,e2.1,hd,hk⟩,λh' hsb=>⟨_,_,G2.turned I3 hsb,q D' f⟩⟩
end
end L2
end
section
namespace L2
open PySem PySem.Spec PyProof.Rows
structure yco(P:Program)(w:World)(A:Around)(a:Addr)(dep:List Addr)(ok:Nat->Heap->Prop)(val:Nat->Option Value):Prop where
 mem:a∈dep
 obj:∀k h,ok k h->∃o,h.get? a=some o/\(∀v,o.data≠.cell v)/\o.cls≠.type "zip"/\o.cls≠.type "enumerate"/\o.cls≠.type "tuple"
 keep:∀k h h',ok k h->(∀b∈dep,∀o,h.get? b=some o->h'.get? b=some o)->ok k h'
 item:∀k x (s:Shared) (Q:Value->Shared->Prop) (E:Value->Shared->Prop),ok k s.heap->val k=some x->(∀h',ok (k+1) h'->Heap.SameBut a s.heap h'->Q x { s with heap:=h' })->
  wpAny (model P w) A (Builtin.SmallTypes.nextOf (.ref a)) Q E s
 stop:∀k (s:Shared) (Q:Value->Shared->Prop) (E:Value->Shared->Prop),ok k s.heap->val k=none->
  (∀h' e,Heap.ExtBut a s.heap h'->(∃o,h'.get? e=some o/\o.cls = .type "StopIteration")->E (.ref e) { s with heap:=h' })->wpAny (model P w) A (Builtin.SmallTypes.nextOf (.ref a)) Q E s
section
variable {P:Program} {w:World} {A:Around}
theorem ygN{a l:Addr}{xs:Array Value}(hh:A.handled=none)(ne:l≠a):yco P w A a [a,l] (λk h=>h.IsListIter a l k/\h.IsList l xs) (λk=>xs[k]?) where
 mem:=xA7
 obj:=λk h z=>by
  obtain⟨⟨o,e,c,d⟩,_⟩:=z;exact⟨o,e,λv q=>(by rw[d]at q;cases q),(by rw[c];decide),(by rw[c];decide),(by rw[c];decide)⟩
 keep:=λk h h' z q=>⟨z.1.at λo e=>q a (by simp) o e,z.2.at λo e=>q l (by simp) o e⟩
 item:=λk x s Q E z e q=>wpAny_nextOf_list_item z.1 z.2 e λh' h1 h2=>q h' ⟨h1,z.2.extBut h2.extBut ne⟩ h2
 stop:=λk s Q E z e q=>wpAny_nextOf_list_end hh z.1 z.2 e q
theorem zcN{h h':Heap}{a l:Addr}{k:Nat}(x:h.IsTupleIter a l k)(e:∀o,h.get? a=some o->h'.get? a=some o):h'.IsTupleIter a l k:=let ⟨o,ho,r⟩:=x;⟨o,e _ ho,r⟩
theorem zgy{h h':Heap}{a:Addr}{xs:Array Value}(x:h.IsTuple a xs)(e:∀o,h.get? a=some o->h'.get? a=some o):h'.IsTuple a xs:=let ⟨o,ho,r⟩:=x;⟨o,e _ ho,r⟩
theorem zht{a l:Addr}{xs:Array Value}(hh:A.handled=none)(ne:l≠a):yco P w A a [a,l] (λk h=>h.IsTupleIter a l k/\h.IsTuple l xs) (λk=>xs[k]?) where
 mem:=xA7
 obj:=λk h z=>by
  obtain⟨⟨o,e,c,d⟩,_⟩:=z;exact⟨o,e,λv q=>(by rw[d]at q;cases q),(by rw[c];decide),(by rw[c];decide),(by rw[c];decide)⟩
 keep:=λk h h' z q=>⟨zcN z.1 λo e=>q a (by simp) o e,zgy z.2 λo e=>q l (by simp) o e⟩
 item:=λk x s Q E z e q=>by
  obtain⟨o,ho,hc,hd⟩:=id z.1;obtain⟨ol,hol,_,nl,hdl⟩:=id z.2;unfold Builtin.SmallTypes.nextOf;refine xA0 (xAW (name:=Str.ofString "__next__") z.1.typeIs F.slot_tuple_iterator_next (xAN F.slot_tuple_iterator_next z.1.typeIs F.entry_tuple_iterator_next ?_ (F.args_tuple_iterator_next_1 _)));show wpAny _ _ (field (.ref a) 0 >>= _) _ _ s;refine xA0 (xBF ho hd (x:=.ref l) rfl ?_);show wpAny _ _ (if (Value.ref l==Value.none)=true then _ else _) _ _ s;rw[if_neg (show ¬ ((Value.ref l==Value.none)=true) from xAm)];show wpAny _ _ (field (.ref a) 1 >>= _) _ _ s;refine xA0 (xBF ho hd (x:=.int k 0) rfl ?_);show wpAny _ _ (seqItems? (.ref l) >>= _) _ _ s;refine xA0 (wpAny_seqItems hol hdl ?_);simp only[xAu,e];refine xA0 (wpAny_setField ho hd (by simp) (xA3 ⟨x,rfl,xA3 (q _ ⟨?_,z.2.extBut (xAZ ..).extBut ne⟩ (xAZ ..))⟩));exact⟨_,xB6 _ ho (Obj.isFreed_of_fields (xB4 hd _)),(Obj.cls_mapFields ..).trans hc,by rw[xB4 hd];simp[rawInt]⟩
 stop:=λk s Q E z e q=>by
  obtain⟨o,ho,hc,hd⟩:=id z.1;obtain⟨ol,hol,_,nl,hdl⟩:=id z.2;unfold Builtin.SmallTypes.nextOf;refine xA0 (xAW (name:=Str.ofString "__next__") z.1.typeIs F.slot_tuple_iterator_next (xAN F.slot_tuple_iterator_next z.1.typeIs F.entry_tuple_iterator_next ?_ (F.args_tuple_iterator_next_1 _)));show wpAny _ _ (field (.ref a) 0 >>= _) _ _ s;refine xA0 (xBF ho hd (x:=.ref l) rfl ?_);show wpAny _ _ (if (Value.ref l==Value.none)=true then _ else _) _ _ s;rw[if_neg (show ¬ ((Value.ref l==Value.none)=true) from xAm)];show wpAny _ _ (field (.ref a) 1 >>= _) _ _ s;refine xA0 (xBF ho hd (x:=.int k 0) rfl ?_);show wpAny _ _ (seqItems? (.ref l) >>= _) _ _ s;refine xA0 (wpAny_seqItems hol hdl ?_);simp only[xAu,e];refine xA0 (xBA (xA0 (wpAny_setField ho hd (by simp) ?_)));show wpAny _ _ (newExc (.type "StopIteration") [] >>= _) _ _ _;refine xA0 ?_;simp only[newExc,newTuple];refine xA0 (xAG ?_ (by size_fits));refine xA0 (m:=firstArgMember _ _) (wpAny_of_eq (a:=Value.none) (by first|rfl|(simp only[firstArgMember];rfl)) (xAG ?_ (by size_fits)));simp only[raiseNew];refine xA0 (wpAny_handled ?_)
  first|rw[show A.in1.handled=none from hh]|rw[hh]
  exact xA0 (xA3 (wpAny_throw (q _ _ (((xAZ ..).extBut.push _).push _) ⟨_,xA6 _ rfl,rfl⟩)))
end
structure ZAp(z TI TO:Addr)(d1 d2:List Addr)(i1 i2:Addr):Prop where
 a1:TI≠z
 a2:TO≠z
 a3:TI≠TO
 b1:z∉d1
 b2:z∉d2
 b3:TO∉d1
 b4:TO∉d2
 b5:TI≠i1
 b6:TI≠i2
 c1:i1∉d2
 c2:i2∉d1
noncomputable def ygD(h:Heap)(z TI TO T:Addr)(f:Bool):Prop:=h.get? z=some { cls:=.type "zip",data:=.fields #[rawInt T,.bool f,.bool false,.ref TI,.ref TO] }
section
variable {P:Program} {w:World} {A:Around} {s:Shared} {z TI TO i1 i2:Addr} {d1 d2:List Addr} {ok1 ok2:Nat->Heap->Prop} {v1 v2:Nat->Option Value}
theorem yco.ext(S:yco P w A i1 d1 ok1 v1){k:Nat}(o:ok1 k h)(e:Heap.ExtBut b h h')(n:b∉d1):ok1 k h':=S.keep k h h' o λc hc ob eb=>e c ob (λq=>n (q ▸ hc)) eb
theorem zeT{k:Nat}{x y p q:Value}{Q:Value->Shared->Prop}{E:Value->Shared->Prop}(D:ZAp z TI TO d1 d2 i1 i2)(S1:yco P w A i1 d1 ok1 v1)(S2:yco P w A i2 d2 ok2 v2)
  (hz:IsZip s.heap z TI TO .none) (hI:IsPair s.heap TI (.ref i1) (.ref i2)) (hO:IsPair s.heap TO p q) (o1:ok1 k s.heap) (o2:ok2 k s.heap) (e1:v1 k=some x) (e2:v2 k=some y)
  (hQ:∀g,ygD g z TI TO s.heap.objs.size false->g.objs.size=s.heap.objs.size+1->IsPair g TO x y->ok1 (k+1) g->ok2 (k+1) g->IsPair g s.heap.objs.size x y->(∀c o,c≠z->c≠TO->c≠i1->c≠i2->s.heap.get? c=some o->g.get? c=some o)->Q (.ref s.heap.objs.size) { s with heap:=g }) :
  wpAny (model P w) A (Builtin.«zip.__next__» ⟨[.ref z],[]⟩) (λfin s'=>∃v,fin = .done (.ret v)/\Q v s') E s:=by
 have n1z:i1≠z:=λe=>D.b1 (e ▸ S1.mem)
 have n2z:i2≠z:=λe=>D.b2 (e ▸ S2.mem)
 have n1O:i1≠TO:=λe=>D.b3 (e ▸ S1.mem)
 have n2O:i2≠TO:=λe=>D.b4 (e ▸ S2.mem)
 show wpAny _ _ (field (.ref z) 2 >>= _) _ E s;refine xA0 (xBF hz rfl (x:=.bool false) rfl ?_);show wpAny _ _ (field (.ref z) 3 >>= _) _ E s;refine xA0 (xBF hz rfl (x:=.ref TI) rfl (xA0 (wpAny_seqItems hI rfl ?_)));show wpAny _ _ (Builtin.SmallTypes.ownedTupleIsFree (.ref z) >>= _) _ E s;refine xA0 ?_;unfold Builtin.SmallTypes.ownedTupleIsFree;refine xA0 (xBF hz rfl (x:=.none) rfl (xA3 ?_));simp only[if_true];refine xA0 (xBA (xA0 (xBF hz rfl (x:=.ref TO) rfl (xA0 (wpAny_setField_rec hz (by simp) λg1 hz1 t1=>?_)))))
 replace hz1:IsZip g1 z TI TO .ellipsis:=hz1
 refine xA0 ?_;simp only[List.zipIdx_cons,List.zipIdx_nil,List.forIn_cons,List.forIn_nil];refine xA0 (xA0 (wpAny_onRaise ?_));show wpAny _ _ (Builtin.SmallTypes.nextOf (.ref i1) >>= _) _ _ _;refine(xA0 (S1.item k x _ _ _ (S1.ext o1 t1.extBut D.b1) e1 λg2 o12 t2=>xA3 ?_));have hO2:IsPair g2 TO p q:=t2.extBut _ _ (Ne.symm n1O) (t1.extBut _ _ D.a2 hO);refine xA0 (wpAny_seqItems hO2 rfl (xA0 (wpAny_updateSeq_pair hO2 λg3 hO3 t3=>?_)))
 replace hO3:IsPair g3 TO x q:=hO3
 refine xA0 (wpAny_letGo (xA3 ?_));have o23:ok2 k g3:=S2.ext (S2.ext (S2.ext o2 t1.extBut D.b2) t2.extBut D.c1) t3.extBut D.b4;refine xA0 (xA0 (wpAny_onRaise ?_));show wpAny _ _ (Builtin.SmallTypes.nextOf (.ref i2) >>= _) _ _ _;refine(xA0 (S2.item k y _ _ _ o23 e2 λg4 o24 t4=>xA3 ?_));have hO4:IsPair g4 TO x q:=t4.extBut _ _ (Ne.symm n2O) hO3;refine xA0 (wpAny_seqItems hO4 rfl (xA0 (wpAny_updateSeq_pair hO4 λg5 hO5 t5=>?_)))
 replace hO5:IsPair g5 TO x y:=hO5
 refine xA0 (wpAny_letGo (xA3 (xA3 ?_)));refine xA0 (wpAny_seqItems hO5 rfl (xA0 (wpAny_newTuple ?_)));have sz:g5.objs.size=s.heap.objs.size:=by rw[t5.1,t4.1,t3.1,t2.1,t1.1]
 have hz5:IsZip g5 z TI TO .ellipsis:=t5.extBut _ _ (Ne.symm D.a2) (t4.extBut _ _ (Ne.symm n2z) (t3.extBut _ _ (Ne.symm D.a2) (t2.extBut _ _ (Ne.symm n1z) hz1)));have k5:∀c o,c≠z->c≠TO->c≠i1->c≠i2->s.heap.get? c=some o->g5.get? c=some o:=λc o m1 m2 m3 m4 e=>t5.extBut _ _ m2 (t4.extBut _ _ m4 (t3.extBut _ _ m2 (t2.extBut _ _ m3 (t1.extBut _ _ m1 e))))
 have o15:ok1 (k+1) g5:=S1.ext (S1.ext (S1.ext o12 t3.extBut D.b3) t4.extBut D.c2) t5.extBut D.b3;have o25:ok2 (k+1) g5:=S2.ext o24 t5.extBut D.b4;have zlt:z<g5.objs.size:=xAe hz5;show wpAny _ _ (Builtin.SmallTypes.ownedTupleHandOut (.ref z) (.ref g5.objs.size) >>= _) _ E _;refine xA0 ?_;unfold Builtin.SmallTypes.ownedTupleHandOut;have hz6:IsZip (g5.push { cls:=.type "tuple",data:=.seq #[x,y] }) z TI TO .ellipsis:=xA2 _ hz5;refine xA0 (wpAny_setField_rec hz6 (by simp) λg7 hz7 t7=>?_)
 replace hz7:IsZip g7 z TI TO (rawInt g5.objs.size):=hz7
 refine wpAny_setField_rec hz7 (by simp) λg8 hz8 t8=>?_
 replace hz8:ygD g8 z TI TO g5.objs.size false:=hz8
 have up:∀c o,c≠z->g5.get? c=some o->g8.get? c=some o:=λc o m e=>t8.extBut _ _ m (t7.extBut _ _ m (xA2 _ e))
 have hT8:IsPair g8 g5.objs.size x y:=t8.extBut _ _ (xBy zlt) (t7.extBut _ _ (xBy zlt) (xA6 _ rfl));have sz8:g8.objs.size=s.heap.objs.size+1:=by rw[t8.1,t7.1,xAX,sz]
 rw[sz]at hz8 hT8;refine xA3 ⟨_,rfl,?_⟩;show Q (.ref g5.objs.size) _;rw[sz];exact hQ g8 hz8 sz8 (up _ _ D.a2 hO5) (S1.keep _ _ _ o15 λb hb o e=>up b o (λq=>D.b1 (q ▸ hb)) e) (S2.keep _ _ _ o25 λb hb o e=>up b o (λq=>D.b2 (q ▸ hb)) e) hT8 λc o m1 m2 m3 m4 e=>up c o m1 (k5 c o m1 m2 m3 m4 e)
theorem zeZ{k:Nat}{x y p q:Value}{Q:Value->Shared->Prop}{E:Value->Shared->Prop}(D:ZAp z TI TO d1 d2 i1 i2)(S1:yco P w A i1 d1 ok1 v1)(S2:yco P w A i2 d2 ok2 v2)
  (hz:IsZip s.heap z TI TO .none) (hI:IsPair s.heap TI (.ref i1) (.ref i2)) (hO:IsPair s.heap TO p q) (o1:ok1 k s.heap) (o2:ok2 k s.heap) (e1:v1 k=some x) (e2:v2 k=some y)
  (hQ:∀g,IsZip g z TI TO (rawInt s.heap.objs.size)->IsPair g TO x y->ok1 (k+1) g->ok2 (k+1) g->IsPair g s.heap.objs.size x y->(∀c o,c≠z->c≠TO->c≠i1->c≠i2->s.heap.get? c=some o->g.get? c=some o)->Q (.ref s.heap.objs.size) { s with heap:=g }) :
  wpAny (model P w) A (Builtin.«zip.__next__» ⟨[.ref z],[]⟩) (λfin s'=>∃v,fin = .done (.ret v)/\Q v s') E s :=
 zeT D S1 S2 hz hI hO o1 o2 e1 e2 λg a _ b c d e=>hQ g a b c d e
theorem ygp{k:Nat}(D:ZAp z TI TO d1 d2 i1 i2)(S1:yco P w A i1 d1 ok1 v1)(S2:yco P w A i2 d2 ok2 v2)
  (hz:IsZip s.heap z TI TO .none) (hI:IsPair s.heap TI (.ref i1) (.ref i2)) (hO:IsPair s.heap TO p q) (o1:ok1 k s.heap) (o2:ok2 k s.heap) (he:v1 k=none\/v2 k=none)
  (hE:∀g e,(∀c o,c≠z->c≠TO->c≠i1->c≠i2->s.heap.get? c=some o->g.get? c=some o)->(∃o,g.get? e=some o/\o.cls = .type "StopIteration")->E (.ref e) { s with heap:=g }) :
  wpAny (model P w) A (Builtin.«zip.__next__» ⟨[.ref z],[]⟩) Q E s:=by
 have n1z:i1≠z:=λe=>D.b1 (e ▸ S1.mem)
 have n2z:i2≠z:=λe=>D.b2 (e ▸ S2.mem)
 have n1O:i1≠TO:=λe=>D.b3 (e ▸ S1.mem)
 show wpAny _ _ (field (.ref z) 2 >>= _) _ E s;refine xA0 (xBF hz rfl (x:=.bool false) rfl ?_);show wpAny _ _ (field (.ref z) 3 >>= _) _ E s;refine xA0 (xBF hz rfl (x:=.ref TI) rfl (xA0 (wpAny_seqItems hI rfl ?_)));show wpAny _ _ (Builtin.SmallTypes.ownedTupleIsFree (.ref z) >>= _) _ E s;refine xA0 ?_;unfold Builtin.SmallTypes.ownedTupleIsFree;refine xA0 (xBF hz rfl (x:=.none) rfl (xA3 ?_));simp only[if_true];refine xA0 (xBA (xA0 (xBF hz rfl (x:=.ref TO) rfl (xA0 (wpAny_setField_rec hz (by simp) λg1 hz1 t1=>?_)))))
 replace hz1:IsZip g1 z TI TO .ellipsis:=hz1
 refine xA0 ?_;simp only[List.zipIdx_cons,List.zipIdx_nil,List.forIn_cons,List.forIn_nil];have o11:ok1 k g1:=S1.ext o1 t1.extBut D.b1;cases e1:v1 k with
 |none=>
  refine xA0 (xA0 (wpAny_onRaise ?_));show wpAny _ _ (Builtin.SmallTypes.nextOf (.ref i1) >>= _) _ _ _;refine(xA0 (S1.stop k _ _ _ o11 e1 λg2 e t2 ⟨oe,he',ce⟩=>?_));have hz2:IsZip g2 z TI TO .ellipsis:=t2 _ _ (Ne.symm n1z) hz1;have ez:e≠z:=λq=>by subst q;rw[hz2]at he';cases he';simp at ce
  exact wpAny_setField_rec hz2 (by simp) λg3 _ t3=>hE g3 e (λc o m1 _ m3 _ x=>t3.extBut _ _ m1 (t2 _ _ m3 (t1.extBut _ _ m1 x))) ⟨oe,t3.extBut _ _ ez he',ce⟩
 |some x=>
  have e2:v2 k=none:=by rcases he with h|h;rw[e1]at h;cases h;exact h
  refine xA0 (xA0 (wpAny_onRaise ?_));show wpAny _ _ (Builtin.SmallTypes.nextOf (.ref i1) >>= _) _ _ _;refine(xA0 (S1.item k x _ _ _ o11 e1 λg2 o12 t2=>xA3 ?_));have hO2:IsPair g2 TO p q:=t2.extBut _ _ (Ne.symm n1O) (t1.extBut _ _ D.a2 hO);refine xA0 (wpAny_seqItems hO2 rfl (xA0 (wpAny_updateSeq_pair hO2 λg3 hO3 t3=>?_)));refine xA0 (wpAny_letGo (xA3 ?_));have o23:ok2 k g3:=S2.ext (S2.ext (S2.ext o2 t1.extBut D.b2) t2.extBut D.c1) t3.extBut D.b4;refine xA0 (xA0 (wpAny_onRaise ?_));show wpAny _ _ (Builtin.SmallTypes.nextOf (.ref i2) >>= _) _ _ _;refine(xA0 (S2.stop k _ _ _ o23 e2 λg4 e t4 ⟨oe,he',ce⟩=>?_));have hz4:IsZip g4 z TI TO .ellipsis:=t4 _ _ (Ne.symm n2z) (t3.extBut _ _ (Ne.symm D.a2) (t2.extBut _ _ (Ne.symm n1z) hz1));have ez:e≠z:=λq=>by subst q;rw[hz4]at he';cases he';simp at ce
  exact wpAny_setField_rec hz4 (by simp) λg5 _ t5=>hE g5 e (λc o m1 m2 m3 m4 x=>t5.extBut _ _ m1 (t4 _ _ m4 (t3.extBut _ _ m2 (t2.extBut _ _ m3 (t1.extBut _ _ m1 x))))) ⟨oe,t5.extBut _ _ ez he',ce⟩
end
end L2
end
section
namespace L2
open PySem PySem.Spec PyProof.Rows
def SqB(K:PySem.W.Frag):Bool->Hp->Addr->List V->Prop
 |true=>λH a xs=>SqT K H a xs
 |false=>λH a xs=>SqL K H a xs
def yba:Bool->Heap->Addr->Array Value->Prop
 |true=>λh a xs=>h.IsTuple a xs
 |false=>λh a xs=>h.IsList a xs
def zdj:Bool->Heap->Addr->Addr->Nat->Prop
 |true=>λh a l k=>h.IsTupleIter a l k
 |false=>λh a l k=>h.IsListIter a l k
noncomputable def yak(b:Bool)(l:Addr):Obj:={ cls:=.type (if b then "tuple_iterator" else "list_iterator"),data:=.fields #[.ref l,.int 0 0] }
theorem zcF(b:Bool)(h:Heap)(l:Addr)(a:Addr)(e:h.get? a=some (yak b l)):zdj b h a l 0:=by cases b <;> exact⟨_,e,rfl,rfl⟩
theorem ybz{b:Bool}{k:Nat}(x:zdj b h a l k)(e:∀o,h.get? a=some o->h'.get? a=some o):zdj b h' a l k:=by
 cases b
 ·exact Heap.IsListIter.at x e
 ·exact zcN x e
theorem zfy{b:Bool}(x:yba b h a xs)(e:∀o,h.get? a=some o->h'.get? a=some o):yba b h' a xs:=by
 cases b
 ·exact Heap.IsList.at x e
 ·exact zgy x e
theorem subB{P:Program}{w:World}{A:Around}(b:Bool){xs:Array Value}(hh:A.handled=none)(ne:l≠a):yco P w A a [a,l] (λk h=>zdj b h a l k/\yba b h l xs) (λk=>xs[k]?):=by
 cases b
 ·exact ygN hh ne
 ·exact zht hh ne
theorem yaN{b:Bool}{k:Nat}(x:zdj b h a l k):∃o,h.get? a=some o/\(∀v,o.data≠.cell v)/\(o.cls = .type "tuple_iterator"\/o.cls = .type "list_iterator"):=by
 cases b <;> obtain⟨o,e,c,d⟩:=x
 ·exact⟨o,e,λv q=>(by rw[d]at q;cases q),.inr c⟩
 ·exact⟨o,e,λv q=>(by rw[d]at q;cases q),.inl c⟩
theorem ycN{b:Bool}(x:yba b h a xs):∃o,h.get? a=some o/\(o.cls = .type "tuple"\/o.cls = .type "list"):=by
 cases b <;> obtain⟨o,e,c,d⟩:=x
 ·exact⟨o,e,.inr c⟩
 ·exact⟨o,e,.inl c⟩
theorem ycb{b:Bool}(ht:yba b s.heap t items)
  (hQ:Q (.ref s.heap.objs.size) { s with heap:=s.heap.push (yak b t) }):wpAny (model P w) A (pyIter (.ref t)) Q E s:=by
 cases b
 ·exact wpAny_pyIter_list ht hQ
 ·exact wpAny_pyIter_tuple ht hQ
section
variable {X:Cx} {pins:List (Addr×Obj)} {σ:St} {H:Hp} {s:Shared}
theorem Inv.seqB{b:Bool}(I:Inv X pins σ H s)(h:SqB X.K b H a xs):∃its:List Value,Vals xs its/\yba b s.heap a its.toArray/\xs.length<=sizeLine:=by
 cases b
 ·obtain⟨its,r,p,z⟩:=I.list h;exact⟨its,r,p.isList,z⟩
 ·obtain⟨its,r,p,z⟩:=I.tuple h;exact⟨its,r,p,z⟩
theorem Inv.seqB_inj{b:Bool}(I:Inv X pins σ H s)(h:SqB X.K b H a xs)(h':SqB X.K b H a ys):xs=ys:=by
 cases b
 ·exact I.list_inj h h'
 ·exact I.tuple_inj h h'
theorem Inv.turnedT{fp:List Addr}{h':Heap}{t':Nat}{T:Addr}{xs:List V}{its:Array Value}(I:Inv X pins σ H s)(hf:∀b∈fp,FpOk X pins H b)(k:∀b o,b∉fp->s.heap.get? b=some o->h'.get? b=some o)
  (hp:s.heap.objs.size<=T) (z:xs.length<=sizeLine) (r:Vals xs its.toList) (new:h'.IsTuple T its):Inv X pins σ (upd H T (.tup xs)) { s with heap:=h',toks:=t' }:=by
 have fT:H T=none:=I.hok.fresh hp;have nT:∀b o,s.heap.get? b=some o->b≠T:=λb o e q=>by
  have l1:s.heap.objs.size>=Nat.succ b:=xAe e;have l2:@Eq Nat b T:=q
  lia
 have nfp:∀b u,H b=some u->b∉fp:=λb u e q=>by rw[(hf b q).1]at e;cases e
 refine I.step (g':=s.gens) (d':=s.drawn) (ch:=fp) (λb hb=>⟨(hf b hb).2.2.2.1,(hf b hb).2.1,(hf b hb).2.2.2.2.1,(hf b hb).2.2.2.2.2⟩) (λb o _ _ hc e _=>k b o hc e) (λb o _ _ hc e _=>⟨o.slots,k b o hc e⟩)
  (λb o _ e n=>by rw[zad (nT b o e)];exact n) (λb o hc e=>⟨o,k b o hc e⟩) (λb ys e=>by rw[zad (zac e fT)];exact e) (λb o u e=>by rw[zad (zac e fT)];exact e)
  (λb ps e=>⟨#[],by rw[zad (zac e fT),e];simp⟩) (λm hm=>?_) (λb u e=>?_) I.bare
 ·obtain⟨o,es,ep,ho,q⟩:=hm;exact⟨o,es,ep,k _ o (λhb=>(hf _ hb).2.1 rfl) ho,q⟩
 ·by_cases hb:b=T
  ·subst hb;rw[zaa]at e;cases e;have q:IsTup h' b its:=new;exact⟨z,its.toList,r,by simpa using q⟩
  ·rw[zad hb]at e;refine(I.hok b u e).stay (λc v hc q=>k c v ?_ q) (λc q=>?_) λc ys q=>?_
   ·rcases hc with hc|hc
    ·rw[hc];exact nfp b u e
    ·exact nfp c _ hc
   ·rw[zad (zac q fT)];exact q
   ·rw[zad (zac q fT)];exact q
theorem Inv.turnedL{fp:List Addr}{h':Heap}{t':Nat}(I:Inv X pins σ H s)(hf:∀b∈fp,FpOk X pins H b)(k:∀b o,b∉fp->s.heap.get? b=some o->h'.get? b=some o):Inv X pins σ H { s with heap:=h',toks:=t' }:=by
 have nfp:∀b u,H b=some u->b∉fp:=λb u e q=>by rw[(hf b q).1]at e;cases e
 refine I.step (g':=s.gens) (d':=s.drawn) (ch:=fp) (λb hb=>⟨(hf b hb).2.2.2.1,(hf b hb).2.1,(hf b hb).2.2.2.2.1,(hf b hb).2.2.2.2.2⟩) (λb o _ _ hc e _=>k b o hc e) (λb o _ _ hc e _=>⟨o.slots,k b o hc e⟩)
  (λb o _ e n=>n) (λb o hc e=>⟨o,k b o hc e⟩) (λb ys e=>e) (λb o u e=>e) (λb ps e=>⟨#[],by rw[e];simp⟩) (λm hm=>?_) (λb u e=>?_) I.bare
 ·obtain⟨o,es,ep,ho,q⟩:=hm;exact⟨o,es,ep,k _ o (λhb=>(hf _ hb).2.1 rfl) ho,q⟩
 ·refine(I.hok b u e).stay (λc v hc q=>k c v ?_ q) (λc q=>q) λc ys q=>q
  rcases hc with hc|hc
  ·rw[hc];exact nfp b u e
  ·exact nfp c _ hc
end
noncomputable def Itz(K:PySem.W.Frag)(b1 b2:Bool)(l1 l2:Addr):It :=
 ⟨λi H=>Ex4 λxs ys x y=>SqB K b1 H l1 xs/\SqB K b2 H l2 ys/\xs[i]?=some x/\ys[i]?=some y,
  λi H v H'=>Ex3 λT x y=>v = .ref T/\H T=none/\H'=upd H T (.tup [x,y])/\(∀xs,SqB K b1 H l1 xs->xs[i]?=some x)/\(∀ys,SqB K b2 H l2 ys->ys[i]?=some y),
  λi H=>Ex2 λxs ys=>SqB K b1 H l1 xs/\SqB K b2 H l2 ys/\(xs.length<=i\/ys.length<=i)⟩
structure ZSt(b1 b2:Bool)(z TI TO i1 i2 l1 l2:Addr)(k:Nat)(h:Heap):Prop where
 zip:IsZip h z TI TO .none
 ti:IsPair h TI (.ref i1) (.ref i2)
 to:Ex2 λa b=>IsPair h TO a b
 it1:zdj b1 h i1 l1 k
 it2:zdj b2 h i2 l2 k
theorem zaM{h:Heap}{a b:Addr}{o u:Obj}{x y:String}(e:h.get? a=some o)(e':h.get? b=some u)(ca:o.cls = .type x)(cb:u.cls = .type y)(n:x≠y:=by decide):a≠b:=λq=>by
 subst q;rw[e]at e';cases e';rw[ca]at cb;injection cb with cb;exact n cb
theorem Inv.sq_ne{b:Bool}(I:Inv X pins σ H s)(h:SqB X.K b H l xs)(f:FpOk X pins H c):l≠c:=by
 have key:(∃u,H l=some u)\/∃o,X.K.lookup l=some o:=by
  cases b
  ·rcases h with(h |⟨o,h⟩) |⟨o,_,_,h,_⟩
   ·exact .inl ⟨_,h⟩
   ·exact .inl ⟨_,h⟩
   ·exact .inr ⟨o,h⟩
  ·rcases h with(h |⟨o,h⟩) |⟨o,_,_,h,_⟩
   ·exact .inl ⟨_,h⟩
   ·exact .inl ⟨_,h⟩
   ·exact .inr ⟨o,h⟩
 intro q;subst q;rcases key with⟨u,e⟩ |⟨o,e⟩
 ·rw[f.1]at e;cases e
 ·have eb:=I.ok.mod.kin l o e;rcases f.2.2.2.1 with z|z
  ·exact I.ok.noex l o eb z
  ·have l1:X.base.objs.size>=Nat.succ l:=xAe eb;have l2:X.base.objs.size<=X.s₀.heap.objs.size:=I.ok.bsz;have l3:X.s₀.heap.objs.size<=l:=z
   lia
theorem yf9{P:Program}{w:World}{K:PySem.W.Frag}{elts:List Expr}{kk:Nat}{tpos:Pos}(b1 b2:Bool)(z TI TO i1 i2 l1 l2:Addr)(nIO:TI≠TO)(n12:i1≠i2) :
  Turn P w K (.Tuple elts kk tpos) (Itz K b1 b2 l1 l2) [z,TI,TO,i1,i2] z (ZSt b1 b2 z TI TO i1 i2 l1 l2) where
 mem:=xA7
 obj:=λk h S b hb=>by
  obtain⟨p,q,hO⟩:=S.to;obtain⟨o1,e1,d1,_⟩:=yaN S.it1;obtain⟨o2,e2,d2,_⟩:=yaN S.it2;simp only[xAa,xAf,xB2]at hb;rcases hb with rfl|rfl|rfl|rfl|rfl
  ·exact⟨_,S.zip,λv q=>by cases q⟩
  ·exact⟨_,S.ti,λv q=>by cases q⟩
  ·exact⟨_,hO,λv q=>by cases q⟩
  ·exact⟨o1,e1,d1⟩
  ·exact⟨o2,e2,d2⟩
 keep:=λk h h' S q=>by
  obtain⟨p,r,hO⟩:=S.to;exact⟨q z (by simp) _ S.zip,q TI (by simp) _ S.ti,⟨p,r,q TO (by simp) _ hO⟩,ybz S.it1 λo e=>q i1 (by simp) o e,ybz S.it2 λo e=>q i2 (by simp) o e⟩
 item:=by
  intro X hP hw hK hc i pins s σ H E I hf S hg;subst hP hw hK;obtain⟨xs,ys,x,y,h1,h2,ex,ey⟩:=hg;obtain⟨us,r1,p1,z1⟩:=I.seqB h1;obtain⟨vs,r2,p2,z2⟩:=I.seqB h2;obtain⟨u,eu,ru⟩:=r1.get ex;obtain⟨v,ev,rv⟩:=r2.get ey;obtain⟨p,q,hO⟩:=S.to;obtain⟨o1,e1,_,c1⟩:=yaN S.it1;obtain⟨o2,e2,_,c2⟩:=yaN S.it2;obtain⟨q1,f1,g1⟩:=ycN p1;obtain⟨q2,f2,g2⟩:=ycN p2;have fz:∀b∈[z,TI,TO,i1,i2],H b=none:=λb hb=>(hf b hb).1
  have hh:X.A.handled=none:=I.ok.hd hc;have nl1:∀b∈[z,TI,TO,i1,i2],l1≠b:=λb hb=>I.sq_ne h1 (hf b hb)
  have nl2:∀b∈[z,TI,TO,i1,i2],l2≠b:=λb hb=>I.sq_ne h2 (hf b hb)
  have i1z:i1≠z:=by rcases c1 with c|c <;> exact zaM e1 S.zip c rfl
  have i2z:i2≠z:=by rcases c2 with c|c <;> exact zaM e2 S.zip c rfl
  have i1I:i1≠TI:=by rcases c1 with c|c <;> exact zaM e1 S.ti c rfl
  have i2I:i2≠TI:=by rcases c2 with c|c <;> exact zaM e2 S.ti c rfl
  have i1O:i1≠TO:=by rcases c1 with c|c <;> exact zaM e1 hO c rfl
  have i2O:i2≠TO:=by rcases c2 with c|c <;> exact zaM e2 hO c rfl
  have Iz:TI≠z:=zaM S.ti S.zip rfl rfl;have Oz:TO≠z:=zaM hO S.zip rfl rfl;have D:ZAp z TI TO [i1,l1] [i2,l2] i1 i2:=by
   refine⟨Iz,Oz,nIO,?_,?_,?_,?_,Ne.symm i1I,Ne.symm i2I,?_,?_⟩
   ·simp only[xAa,xAf,xB2,not_or];exact⟨Ne.symm i1z,Ne.symm (nl1 z (by simp))⟩
   ·simp only[xAa,xAf,xB2,not_or];exact⟨Ne.symm i2z,Ne.symm (nl2 z (by simp))⟩
   ·simp only[xAa,xAf,xB2,not_or];exact⟨Ne.symm i1O,Ne.symm (nl1 TO (by simp))⟩
   ·simp only[xAa,xAf,xB2,not_or];exact⟨Ne.symm i2O,Ne.symm (nl2 TO (by simp))⟩
   ·simp only[xAa,xAf,xB2,not_or];exact⟨n12,Ne.symm (nl2 i1 (by simp))⟩
   ·simp only[xAa,xAf,xB2,not_or];exact⟨Ne.symm n12,Ne.symm (nl1 i2 (by simp))⟩
  have hT:s.TypeIs (.ref z) "zip":=⟨_,S.zip,rfl⟩
  unfold pyNext;refine xA0 (wpAny_attempt (xAW (name:=Str.ofString "__next__") hT F.slot_zip_next (xAN F.slot_zip_next hT F.entry_zip_next
   (zeZ D (subB b1 (A:=X.A.in1) hh (nl1 i1 (by simp))) (subB b2 (A:=X.A.in1) hh (nl2 i2 (by simp))) S.zip S.ti hO ⟨S.it1,p1⟩ ⟨S.it2,p2⟩ (x:=u) (y:=v) (by simpa using eu) (by simpa using ev)
    λg a1 a2 a3 a4 a5 a6=>xA3 ?_) (F.args_zip_next_1 _))))
  refine⟨_,rfl,wpAny_letOwnedTupleGo_zip (s:={ s with heap:=g }) a1 λg' hz' t=>?_⟩;have lt:∀ {c:Addr} {o:Obj},s.heap.get? c=some o->s.heap.objs.size≠c:=λe=>xBy (xAe e)
  have k':∀b o,b∉[z,TI,TO,i1,i2]->s.heap.get? b=some o->g'.get? b=some o:=λb o hb e=>by
   simp only[xAa,xAf,xB2,not_or]at hb;exact t.extBut b o hb.1 (a6 b o hb.1 hb.2.2.1 hb.2.2.2.1 hb.2.2.2.2 e)
  have hTI':IsPair g' TI (.ref i1) (.ref i2):=t.extBut _ _ Iz (a6 _ _ Iz nIO (Ne.symm i1I) (Ne.symm i2I) S.ti);have hS':ZSt b1 b2 z TI TO i1 i2 l1 l2 (i+1) g':=⟨hz',hTI',⟨_,_,t.extBut _ _ Oz a2⟩,ybz a3.1 λo e=>t.extBut _ _ i1z e,ybz a4.1 λo e=>t.extBut _ _ i2z e⟩
  have fT:H s.heap.objs.size=none:=I.hok.fresh (xA5 _);have J:Inv X pins σ (upd H s.heap.objs.size (.tup [x,y])) { s with heap:=g' }:=I.turnedT (t':=s.toks) (fp:=[z,TI,TO,i1,i2]) hf k' (xA5 _) (by show 2<=sizeLine;decide) (its:=#[u,v]) (.cons ru (.cons rv .nil)) ⟨_,t.extBut _ _ (lt S.zip) a5,rfl,_,rfl⟩;refine⟨.ref s.heap.objs.size,upd H s.heap.objs.size (.tup [x,y]),J,rfl,
   ⟨_,x,y,rfl,fT,rfl,λxs' hx'=>by rw[I.seqB_inj hx' h1];exact ex,λys' hy'=>by rw[I.seqB_inj hy' h2];exact ey⟩,hS',λb hb=>?_⟩
  have fobj:∃o,s.heap.get? b=some o:=by
   simp only[xAa,xAf,xB2]at hb;rcases hb with rfl|rfl|rfl|rfl|rfl
   ·exact⟨_,S.zip⟩
   ·exact⟨_,S.ti⟩
   ·exact⟨_,hO⟩
   ·exact⟨_,e1⟩
   ·exact⟨_,e2⟩
  obtain⟨o,eo⟩:=fobj;rw[zad (Ne.symm (lt eo))];exact fz b hb
 done:=by
  intro X hP hw hK hc i pins s σ H E I hf S hg;subst hP hw hK;obtain⟨xs,ys,h1,h2,le⟩:=hg;obtain⟨us,r1,p1,z1⟩:=I.seqB h1;obtain⟨vs,r2,p2,z2⟩:=I.seqB h2;obtain⟨p,q,hO⟩:=S.to;obtain⟨o1,e1,_,c1⟩:=yaN S.it1;obtain⟨o2,e2,_,c2⟩:=yaN S.it2;have hh:X.A.handled=none:=I.ok.hd hc;have nl1:∀b∈[z,TI,TO,i1,i2],l1≠b:=λb hb=>I.sq_ne h1 (hf b hb)
  have nl2:∀b∈[z,TI,TO,i1,i2],l2≠b:=λb hb=>I.sq_ne h2 (hf b hb)
  have i1z:i1≠z:=by rcases c1 with c|c <;> exact zaM e1 S.zip c rfl
  have i2z:i2≠z:=by rcases c2 with c|c <;> exact zaM e2 S.zip c rfl
  have i1I:i1≠TI:=by rcases c1 with c|c <;> exact zaM e1 S.ti c rfl
  have i2I:i2≠TI:=by rcases c2 with c|c <;> exact zaM e2 S.ti c rfl
  have i1O:i1≠TO:=by rcases c1 with c|c <;> exact zaM e1 hO c rfl
  have i2O:i2≠TO:=by rcases c2 with c|c <;> exact zaM e2 hO c rfl
  have Iz:TI≠z:=zaM S.ti S.zip rfl rfl;have Oz:TO≠z:=zaM hO S.zip rfl rfl;have D:ZAp z TI TO [i1,l1] [i2,l2] i1 i2:=by
   refine⟨Iz,Oz,nIO,?_,?_,?_,?_,Ne.symm i1I,Ne.symm i2I,?_,?_⟩
   ·simp only[xAa,xAf,xB2,not_or];exact⟨Ne.symm i1z,Ne.symm (nl1 z (by simp))⟩
   ·simp only[xAa,xAf,xB2,not_or];exact⟨Ne.symm i2z,Ne.symm (nl2 z (by simp))⟩
   ·simp only[xAa,xAf,xB2,not_or];exact⟨Ne.symm i1O,Ne.symm (nl1 TO (by simp))⟩
   ·simp only[xAa,xAf,xB2,not_or];exact⟨Ne.symm i2O,Ne.symm (nl2 TO (by simp))⟩
   ·simp only[xAa,xAf,xB2,not_or];exact⟨n12,Ne.symm (nl2 i1 (by simp))⟩
   ·simp only[xAa,xAf,xB2,not_or];exact⟨Ne.symm n12,Ne.symm (nl1 i2 (by simp))⟩
  have he:us.toArray[i]?=none\/vs.toArray[i]?=none:=by
   have l1:=r1.length;have l2:=r2.length;rcases le with l|l
   ·exact .inl (by simp;lia)
   ·exact .inr (by simp;lia)
  have hT:s.TypeIs (.ref z) "zip":=⟨_,S.zip,rfl⟩
  unfold pyNext;refine xA0 (wpAny_attempt (xAW (name:=Str.ofString "__next__") hT F.slot_zip_next (xAN F.slot_zip_next hT F.entry_zip_next
   (ygp D (subB b1 (A:=X.A.in1) hh (nl1 i1 (by simp))) (subB b2 (A:=X.A.in1) hh (nl2 i2 (by simp))) S.zip S.ti hO ⟨S.it1,p1⟩ ⟨S.it2,p2⟩ he λg e kg ⟨oe,ho,hce⟩=>?_) (F.args_zip_next_1 _))))
  refine xA0 (wpAny_isInstance (T:="StopIteration") (b:=true) ⟨oe,ho,hce⟩ isSubtype_stop (xA3 ⟨rfl,?_⟩));refine I.turnedL (t':=s.toks) (fp:=[z,TI,TO,i1,i2]) hf λb o hb e=>?_
  simp only[xAa,xAf,xB2,not_or]at hb;exact kg b o hb.1 hb.2.2.1 hb.2.2.2.1 hb.2.2.2.2 e
 self:=λA i s Q E S h=>wpAny_pyIter_zip S.zip h
noncomputable def yfH(h:Heap)(o1 o2:Obj):Heap:=(((h.push o1).push o2).push { cls:=.type "tuple",data:=.seq #[.ref h.objs.size,.ref (h.push o1).objs.size] }).push { cls:=.type "tuple",data:=.seq #[.none,.none] }
noncomputable def zcJ(h:Heap)(o1 o2:Obj):Heap:=(yfH h o1 o2).push { cls:=.type "zip",data:=.fields #[.none,.bool false,.bool false,.ref ((h.push o1).push o2).objs.size,.ref (((h.push o1).push o2).push { cls:=.type "tuple",data:=.seq #[.ref h.objs.size,.ref (h.push o1).objs.size] }).objs.size] }
theorem zeM(b1 b2:Bool)(l1 l2:Addr)(xs ys:Array Value) :
  Meets (Builtin.«zip.__new__» ⟨[.type "zip",.ref l1,.ref l2],[]⟩) (λ_ R s=>yba b1 s.heap l1 xs/\yba b2 s.heap l2 ys/\R (.ok (.ret (.ref (yfH s.heap (yak b1 l1) (yak b2 l2)).objs.size))) { s with heap:=zcJ s.heap (yak b1 l1) (yak b2 l2) }) :=
 .of_wp λprog w A R s h=>by
  obtain⟨hp,g,d,tk,os⟩:=s;obtain⟨hl1,hl2,h⟩:=h;have hsub:=sub_zip;have hL1:yba b1 (Shared.heap ⟨hp,g,d,tk,os⟩) l1 xs:=hl1;have hL2:yba b2 (Shared.heap ⟨hp.push (yak b1 l1),g,d,tk,os⟩) l2 ys:=zfy hl2 λo e=>xA2 _ e
  wp_walk using ycb hL1,ycb hL2
  exact⟨_,rfl,h⟩
end L2
end
section
namespace L2
open PySem PySem.Spec PyProof.Rows
section
variable {X:Cx}
noncomputable def iZip(K:PySem.W.Frag)(ta:TA):TI:=λσ H R=>ta σ H λvs H1=>Ex4 λb1 b2 a1 a2=>vs=[.ref a1,.ref a2]/\(∃xs,SqB K b1 H1 a1 xs)/\(∃ys,SqB K b2 H1 a2 ys)/\R (Itz K b1 b2 a1 a2) H1
theorem zhM{R:It->Hp->Prop}{kk:Nat}{b1 b2:Bool}(I:Inv X pins σ H s)(h1:SqB X.K b1 H l1 xs)(h2:SqB X.K b2 H l2 ys)(q:R (Itz X.K b1 b2 l1 l2) H) :
  wpAny (model X.prog X.w) X.A (call (.type "zip") [.ref l1,.ref l2]) (λv s1=>wpAny (model X.prog X.w) X.A (pyIter v) (PIE X pins σ (.Tuple elts kk tpos) R) X.xe s1) X.xe s:=by
 obtain⟨us,r1,p1,z1⟩:=I.seqB h1;obtain⟨vs,r2,p2,z2⟩:=I.seqB h2;refine callType_new F.called_zip (by decide) (F.typeCall_zip_2 _ _) (F.newCall_zip_2 _ _) (λobj=>F.args_object_init_3 obj _ _) F.entry_zip_new (zeM b1 b2 l1 l2 us.toArray vs.toArray) ⟨p1,p2,?_⟩;generalize hn:s.heap.objs.size=n;have s1:(s.heap.push (yak b1 l1)).objs.size=n+1:=by rw[xAX,hn]
 have s2:((s.heap.push (yak b1 l1)).push (yak b2 l2)).objs.size=n+2:=by rw[xAX,s1]
 have s3:(((s.heap.push (yak b1 l1)).push (yak b2 l2)).push { cls:=.type "tuple",data:=.seq #[.ref s.heap.objs.size,.ref (s.heap.push (yak b1 l1)).objs.size] }).objs.size=n+3:=by rw[xAX,s2]
 have s4:(yfH s.heap (yak b1 l1) (yak b2 l2)).objs.size=n+4:=by unfold yfH;rw[xAX,s3]
 have old:∀b o,s.heap.get? b=some o->(zcJ s.heap (yak b1 l1) (yak b2 l2)).get? b=some o:=λb o e=>xA2 _ (xA2 _ (xA2 _ (xA2 _ (xA2 _ e))))
 have gz:(zcJ s.heap (yak b1 l1) (yak b2 l2)).get? (n+4)=some { cls:=.type "zip",data:=.fields #[.none,.bool false,.bool false,.ref (n+2),.ref (n+3)] }:=by
  have e:(zcJ s.heap (yak b1 l1) (yak b2 l2)).get? (yfH s.heap (yak b1 l1) (yak b2 l2)).objs.size=some _:=xA6 _ rfl;rw[s4]at e;rw[e,s2,s3]
 have gO:(zcJ s.heap (yak b1 l1) (yak b2 l2)).get? (n+3)=some { cls:=.type "tuple",data:=.seq #[.none,.none] }:=by
  have e:=xA6 (h:=((s.heap.push (yak b1 l1)).push (yak b2 l2)).push { cls:=.type "tuple",data:=.seq #[.ref s.heap.objs.size,.ref (s.heap.push (yak b1 l1)).objs.size] }) (o:={ cls:=.type "tuple",data:=.seq #[.none,.none] }) rfl;rw[s3]at e;exact xA2 _ e
 have gI:(zcJ s.heap (yak b1 l1) (yak b2 l2)).get? (n+2)=some { cls:=.type "tuple",data:=.seq #[.ref n,.ref (n+1)] }:=by
  have e:(zcJ s.heap (yak b1 l1) (yak b2 l2)).get? ((s.heap.push (yak b1 l1)).push (yak b2 l2)).objs.size=some { cls:=.type "tuple",data:=.seq #[.ref s.heap.objs.size,.ref (s.heap.push (yak b1 l1)).objs.size] }:=xA2 _ (xA2 _ (xA6 _ rfl));rw[s2]at e;rw[e,s1,hn]
 have g2:(zcJ s.heap (yak b1 l1) (yak b2 l2)).get? (n+1)=some (yak b2 l2):=by
  have e:=xA6 (h:=s.heap.push (yak b1 l1)) (o:=yak b2 l2) rfl;rw[s1]at e;exact xA2 _ (xA2 _ (xA2 _ e))
 have g1:(zcJ s.heap (yak b1 l1) (yak b2 l2)).get? n=some (yak b1 l1):=by
  have e:=xA6 (h:=s.heap) (o:=yak b1 l1) rfl;rw[hn]at e;exact xA2 _ (xA2 _ (xA2 _ (xA2 _ e)))
 rw[s4];refine⟨⟨_,gz,rfl⟩,wpAny_pyIter_zip gz ?_⟩;have I1:Inv X pins σ H { s with heap:=zcJ s.heap (yak b1 l1) (yak b2 l2) }:=I.kept (t':=s.toks) old;refine⟨n+4,[n+4,n+2,n+3,n,n+1],_,_,H,rfl,I1,yf9 b1 b2 (n+4) (n+2) (n+3) n (n+1) l1 l2 (show @Ne Nat _ _ by lia) (show @Ne Nat _ _ by lia),⟨gz,gI,⟨_,_,gO⟩,zcF _ _ _ _ g1,zcF _ _ _ _ g2⟩,λb hb=>?_,q⟩;have le:s.heap.objs.size<=b:=by
  rw[hn];simp only[xAa,xAf,xB2]at hb;show @LE.le Nat _ n b;rcases hb with e|e|e|e|e <;> (have e':@Eq Nat b _:=e;lia)
 exact I.fpOk le (I.hok.fresh le)
theorem zhJ{a b:Expr}{ta:TA}{p pos:Pos}{elts:List Expr}{kk:Nat}{tpos:Pos}(hg:Gl X "zip")(hm:X.mg "zip"=none)(ha:PA X [a,b] ta)(hs:starEach [a,b] X.env=[(false,eval a X.env),(false,eval b X.env)]:=by rfl)(hs2:starEach [b] X.env=[(false,eval b X.env)]:=by rfl) :
  PI X (.Tuple elts kk tpos) (.Call (.Name "zip" p) [a,b] [] pos) (iZip X.K ta):=by
 intro pins s σ H R I h;refine Call_ (ybh I hg hm (u:=.type "zip") boot_zip (xBc (thn (ha pos pins s σ H _ I h) λus s1 ⟨vs,H1,I1,r1,q1⟩=>?_) (by rw[hs,hs2]) (by rw[hs2];rfl)));obtain⟨b1,b2,a1,a2,e,⟨xs,h1⟩,⟨ys,h2⟩,q⟩:=q1;subst e;cases r1 with
 |cons r rr=>
  cases rr with
  |cons r' rr=>
   cases rr;cases r;cases r';exact zhM I1 h1 h2 q
end
end L2
end
section
namespace L2
open PySem PySem.Spec PyProof.Rows
noncomputable def Ite(K:PySem.W.Frag)(b:Bool)(l:Addr):It :=
 ⟨λi H=>Ex2 λxs x=>SqB K b H l xs/\xs[i]?=some x,
  λi H v H'=>Ex2 λT x=>v = .ref T/\H T=none/\H'=upd H T (.tup [.int i,x])/\(∀xs,SqB K b H l xs->xs[i]?=some x),
  λi H=>∃xs,SqB K b H l xs/\xs.length<=i⟩
theorem zhS{P:Program}{w:World}{A:Around}(b:Bool){a l:Addr}{xs:Array Value}(hh:A.handled=none)(ne:l≠a):Draws P w A a [a,l] xs.size (λi v=>xs[i]?=some v) (λk h=>zdj b h a l k/\yba b h l xs) where
 live:=λk h z=>let ⟨o,e,_⟩:=(subB (P:=P) (w:=w) b hh ne).obj k h z;⟨o,e⟩
 frame:=λk h h' z q=>(subB (P:=P) (w:=w) b hh ne).keep k h h' z q
 item:=λk s Q E hk z q=>by
  have hx:xs[k]?=some xs[k]:=xAK hk;exact(subB (P:=P) (w:=w) b hh ne).item k xs[k] s Q E z hx λh' a1 a2=>q xs[k] h' s.toks hx a1 a2
 done:=λs Q E z q=>(subB (P:=P) (w:=w) b hh ne).stop xs.size s Q E z (Array.getElem?_eq_none (xA5 _)) q
structure ESt(b:Bool)(e it l:Addr)(k:Nat)(h:Heap):Prop where
 en:∃old,IsEnum h e it k old
 it:zdj b h it l k
theorem yfm{P:Program}{w:World}{K:PySem.W.Frag}{elts:List Expr}{kk:Nat}{tpos:Pos}(b:Bool)(e it l:Addr) :
  Turn P w K (.Tuple elts kk tpos) (Ite K b l) [e,it] e (ESt b e it l) where
 mem:=xA7
 obj:=λk h S c hc=>by
  obtain⟨old,he⟩:=S.en;obtain⟨o1,e1,d1,_⟩:=yaN S.it;simp only[xAa,xAf,xB2]at hc;rcases hc with rfl|rfl
  ·exact⟨_,he,λv q=>by cases q⟩
  ·exact⟨o1,e1,d1⟩
 keep:=λk h h' S q=>by
  obtain⟨old,he⟩:=S.en;exact⟨⟨old,q e (by simp) _ he⟩,ybz S.it λo x=>q it (by simp) o x⟩
 item:=by
  intro X hP hw hK hc i pins s σ H E I hf S hg;subst hP hw hK;obtain⟨xs,x,h1,ex⟩:=hg;obtain⟨us,r1,p1,z1⟩:=I.seqB h1;obtain⟨u,eu,ru⟩:=r1.get ex;obtain⟨old,he⟩:=S.en;obtain⟨o1,e1,_,c1⟩:=yaN S.it;have hh:X.A.handled=none:=I.ok.hd hc;have nl:∀c∈[e,it],l≠c:=λc hc=>I.sq_ne h1 (hf c hc)
  have ei:e≠it:=by rcases c1 with c|c <;> exact zaM he e1 rfl c
  have ilt:i<us.toArray.size:=by
   have:=(xAh.mp eu).1
   simpa using this
  refine wpAny_pyNext_enum_itemD (zhS b (A:=X.A.in1) hh (nl it (by simp))) he ⟨S.it,p1⟩ ilt ei (by simp only[xAa,xAf,xB2,not_or];exact⟨ei,Ne.symm (nl e (by simp))⟩) λy g tk hy a1 a2 a3 a4 a5=>?_
  have ey:y=u:=by
   have q1:us[i]?=some y:=by simpa using hy
   rw[eu]at q1;cases q1;rfl
  subst ey;refine⟨_,rfl,wpAny_letOwnedTupleGo_enum (s:={ s with heap:=g,toks:=tk+1 }) a1 λg' he' t=>?_⟩;have lt:∀ {c:Addr} {o:Obj},s.heap.get? c=some o->s.heap.objs.size≠c:=λq=>xBy (xAe q)
  have k':∀c o,c∉[e,it]->s.heap.get? c=some o->g'.get? c=some o:=λc o hc q=>by
   simp only[xAa,xAf,xB2,not_or]at hc;exact t.extBut c o hc.1 (a5 c o hc.1 hc.2 q)
  have hS':ESt b e it l (i+1) g':=⟨⟨_,by simpa using he'⟩,ybz a2.1 λo q=>t.extBut _ _ (Ne.symm ei) q⟩
  have fT:H s.heap.objs.size=none:=I.hok.fresh (xA5 _);have J:Inv X pins σ (upd H s.heap.objs.size (.tup [.int i,x])) { s with heap:=g',toks:=tk+1 } :=
   I.turnedT (t':=tk+1) (fp:=[e,it]) hf k' (xA5 _) (by show 2<=sizeLine;decide) (its:=#[.int i tk,y]) (.cons ⟨_,rfl⟩ (.cons ru .nil)) ⟨_,t.extBut _ _ (lt he) a3,rfl,_,rfl⟩
  refine⟨.ref s.heap.objs.size,upd H s.heap.objs.size (.tup [.int i,x]),J,rfl,⟨_,x,rfl,fT,rfl,λxs' hx'=>by rw[I.seqB_inj hx' h1];exact ex⟩,hS',λc hc=>?_⟩;have fobj:∃o,s.heap.get? c=some o:=by
   simp only[xAa,xAf,xB2]at hc;rcases hc with rfl|rfl
   ·exact⟨_,he⟩
   ·exact⟨_,e1⟩
  obtain⟨o,eo⟩:=fobj;rw[zad (Ne.symm (lt eo))];exact(hf c hc).1
 done:=by
  intro X hP hw hK hc i pins s σ H E I hf S hg;subst hP hw hK;obtain⟨xs,h1,le⟩:=hg;obtain⟨us,r1,p1,z1⟩:=I.seqB h1;obtain⟨old,he⟩:=S.en;have hh:X.A.handled=none:=I.ok.hd hc;have nl:∀c∈[e,it],l≠c:=λc hc=>I.sq_ne h1 (hf c hc)
  have D:=subB (P:=X.prog) (w:=X.w) b (A:=X.A.in1) (xs:=us.toArray) hh (nl it (by simp));have hT:s.TypeIs (.ref e) "enumerate":=⟨_,he,rfl⟩
  unfold pyNext;refine xA0 (wpAny_attempt (xAW (name:=Str.ofString "__next__") hT F.slot_enumerate_next (xAN F.slot_enumerate_next hT F.entry_enumerate_next ?_ (F.args_enumerate_next_1 _))));show wpAny _ _ (field (.ref e) 2 >>= _) _ _ s;refine xA0 (xBF he rfl (x:=.ref it) rfl ?_);refine xA0 (D.stop i _ _ _ ⟨S.it,p1⟩ (by have:=r1.length;simp;lia) λg x t hq=>?_);obtain⟨o,ho,hce⟩:=hq;refine xA0 (wpAny_isInstance (T:="StopIteration") (b:=true) ⟨o,ho,hce⟩ isSubtype_stop (xA3 ⟨rfl,?_⟩));refine I.turnedL (t':=s.toks) (fp:=[e,it]) hf λc o hc q=>?_
  simp only[xAa,xAf,xB2,not_or]at hc;exact t c o hc.2 q
 self:=λA i s Q E S h=>let ⟨_,he⟩:=S.en;wpAny_pyIter_enum he h
theorem zeb(b:Bool)(l:Addr)(xs:Array Value)(n:Nat)(dct:Option Addr)(sl:Array (Option Value)) :
  Meets (Builtin.«enumerate.__new__» ⟨[.type "enumerate",.ref l],[]⟩) (λ_ R s=>s.heap.get? l=some { cls:=.type (if b then "tuple" else "list"),dict:=dct,data:=.seq xs n,slots:=sl }/\R (.ok (.ret (.ref (s.heap.push (yak b l)).objs.size))) { s with heap:=(s.heap.push (yak b l)).push { cls:=.type "enumerate",data:=.fields #[.none,.bool false,.ref s.heap.objs.size,rawInt 0,.none,.none] } }) :=
 .of_wp λprog w A R s h=>by
  obtain⟨hp,g,d,tk,os⟩:=s;obtain⟨hl,h⟩:=h;have hsub:=sub_enumerate;have hL:yba b (Shared.heap ⟨hp,g,d,tk,os⟩) l xs:=by cases b <;> exact⟨_,hl,rfl,n,rfl⟩
  wp_walk using wpAny_loadPart' hl;(refine wpAny_stack_any λst=>xA3 ?_);split
  ·rename_i c _ _ _ _ _;cases (c==Value.type "enumerate") <;> (wp_walk using wpAny_loadPart' hl,ycb hL;exact⟨_,rfl,h⟩)
  ·wp_walk using wpAny_loadPart' hl,ycb hL;exact⟨_,rfl,h⟩
theorem ydQ{b:Bool}(x:yba b h l xs):Ex3 λn dct sl=>h.get? l=some { cls:=.type (if b then "tuple" else "list"),dict:=dct,data:=.seq xs n,slots:=sl }:=by
 cases b <;> obtain⟨⟨c,dct,dt,sl⟩,e,hc,n,hd⟩:=x
 ·replace hc:c = .type "list":=hc
  replace hd:dt = .seq xs n:=hd
  subst hc hd;exact⟨n,dct,sl,e⟩
 ·replace hc:c = .type "tuple":=hc
  replace hd:dt = .seq xs n:=hd
  subst hc hd;exact⟨n,dct,sl,e⟩
section
variable {X:Cx}
noncomputable def yh3(K:PySem.W.Frag)(ta:TA):TI:=λσ H R=>ta σ H λvs H1=>Ex2 λb a=>vs=[.ref a]/\(∃xs,SqB K b H1 a xs)/\R (Ite K b a) H1
theorem yg1{R:It->Hp->Prop}{kk:Nat}{b:Bool}(I:Inv X pins σ H s)(h1:SqB X.K b H l xs)(q:R (Ite X.K b l) H) :
  wpAny (model X.prog X.w) X.A (call (.type "enumerate") [.ref l]) (λv s1=>wpAny (model X.prog X.w) X.A (pyIter v) (PIE X pins σ (.Tuple elts kk tpos) R) X.xe s1) X.xe s:=by
 obtain⟨us,r1,p1,z1⟩:=I.seqB h1;obtain⟨m,dct,sl,hl⟩:=ydQ p1;refine callType_new F.called_enumerate (by decide) (F.typeCall_enumerate_1 _) (F.newCall_enumerate_1 _) (λobj=>F.args_object_init_2 obj _) F.entry_enumerate_new (zeb b l us.toArray m dct sl) ⟨hl,?_⟩;generalize hn:s.heap.objs.size=n;have s1:(s.heap.push (yak b l)).objs.size=n+1:=by rw[xAX,hn]
 generalize hG:(s.heap.push (yak b l)).push { cls:=.type "enumerate",data:=.fields #[.none,.bool false,.ref n,rawInt 0,.none,.none] }=G;have old:∀c o,s.heap.get? c=some o->G.get? c=some o:=λc o e=>hG ▸ xA2 _ (xA2 _ e)
 have ge:IsEnum G (n+1) n 0 .none:=by
  have e:G.get? (s.heap.push (yak b l)).objs.size=some { cls:=.type "enumerate",data:=.fields #[.none,.bool false,.ref n,rawInt 0,.none,.none] }:=hG ▸ xA6 _ rfl;rw[s1]at e;exact e
 have gi:G.get? n=some (yak b l):=by
  have e:G.get? s.heap.objs.size=some (yak b l):=hG ▸ xA2 _ (xA6 _ rfl);rw[hn]at e;exact e
 rw[s1];refine⟨⟨_,ge,rfl⟩,wpAny_pyIter_enum ge ?_⟩;have I1:Inv X pins σ H { s with heap:=G }:=I.kept (t':=s.toks) old;refine⟨n+1,[n+1,n],_,_,H,rfl,I1,yfm b (n+1) n l,⟨⟨_,ge⟩,zcF _ _ _ _ gi⟩,λc hc=>?_,q⟩;have le:s.heap.objs.size<=c:=by
  rw[hn];simp only[xAa,xAf,xB2]at hc;show @LE.le Nat _ n c;rcases hc with e|e <;> (have e':@Eq Nat c _:=e;lia)
 exact I.fpOk le (I.hok.fresh le)
theorem ycH{a:Expr}{ta:TA}{p pos:Pos}{elts:List Expr}{kk:Nat}{tpos:Pos}(hg:Gl X "enumerate")(hm:X.mg "enumerate"=none)(ha:PA X [a] ta)(hs:starEach [a] X.env=[(false,eval a X.env)]:=by rfl) :
  PI X (.Tuple elts kk tpos) (.Call (.Name "enumerate" p) [a] [] pos) (yh3 X.K ta):=by
 intro pins s σ H R I h;refine Call_ (ybh I hg hm (u:=.type "enumerate") boot_enumerate (xBc (thn (ha pos pins s σ H _ I h) λus s1 ⟨vs,H1,I1,r1,q1⟩=>?_) hs rfl));obtain⟨b,a,e,⟨xs,h1⟩,q⟩:=q1;subst e;cases r1 with
 |cons r rr=>
  cases rr;cases r;exact yg1 I1 h1 q
end
structure Seqs(J:It)(n:Nat)(G:Hp->Prop)(y:Nat->V->Hp->Hp->Prop):Prop where
 go:∀i H,i<n->G H->J.go i H
 stop:∀H,G H->J.stop n H
 yld:∀i H x H',i<n->G H->J.yld i H x H'->y i x H H'
theorem zaO{K:PySem.W.Frag}{xs:List V}:Seqs (Itl K a) xs.length (λH=>SqL K H a xs) (λi x H H'=>H'=H/\xs[i]?=some x) :=
 ⟨λi H hi g=>⟨xs,xs[i],g,by simp[hi]⟩,λH g=>⟨xs,g,xA5 _⟩,λi H x H' hi g q=>⟨q.1,q.2 xs g⟩⟩
theorem yce{K:PySem.W.Frag}{xs:List V}:Seqs (Itt K a) xs.length (λH=>SqT K H a xs) (λi x H H'=>H'=H/\xs[i]?=some x) :=
 ⟨λi H hi g=>⟨xs,xs[i],g,by simp[hi]⟩,λH g=>⟨xs,g,xA5 _⟩,λi H x H' hi g q=>⟨q.1,q.2 xs g⟩⟩
theorem ybC{lo:Int}{n:Nat}:Seqs (Itr lo n) n (λ_=>True) (λi x H H'=>H'=H/\x = .int (lo+i)) :=
 ⟨λi H hi _=>hi,λH _=>xA5 _,λi H x H' hi _ q=>q⟩
theorem zgm{K:PySem.W.Frag}{b1 b2:Bool}{xs ys:List V}:Seqs (Itz K b1 b2 l1 l2) (min xs.length ys.length) (λH=>SqB K b1 H l1 xs/\SqB K b2 H l2 ys)
  (λi x H H'=>Ex3 λT u v=>x = .ref T/\xs[i]?=some u/\ys[i]?=some v/\H T=none/\H'=upd H T (.tup [u,v])) :=
 ⟨λi H hi g=>⟨xs,ys,xs[i]'(by lia),ys[i]'(by lia),g.1,g.2,by simp,by simp⟩,
  λH g=>⟨xs,ys,g.1,g.2,by lia⟩,
  λi H x H' hi g ⟨T,u,v,e1,e2,e3,e4,e5⟩=>⟨T,u,v,e1,e4 xs g.1,e5 ys g.2,e2,e3⟩⟩
theorem ybm{K:PySem.W.Frag}{b:Bool}{l:Addr}{xs:List V}:Seqs (Ite K b l) xs.length (λH=>SqB K b H l xs)
  (λi x H H'=>Ex2 λT u=>x = .ref T/\xs[i]?=some u/\H T=none/\H'=upd H T (.tup [.int i,u])) :=
 ⟨λi H hi g=>⟨xs,xs[i],g,by simp[hi]⟩,λH g=>⟨xs,g,xA5 _⟩,λi H x H' hi g ⟨T,u,e1,e2,e3,e4⟩=>⟨T,u,e1,e4 xs g,e2,e3⟩⟩
theorem ybW{J:It}{n:Nat}{G:Hp->Prop}{y:Nat->V->Hp->Hp->Prop}(S:Seqs J n G y){g:TG}{tb:TS}{D:Ends}{σ:St}{H:Hp}(Pv:Nat->St->Hp->Prop)(h0:Pv 0 σ H)(hl:∀i σ H,i<=n->Pv i σ H->G H)
  (hs:∀i x σ H H',i<n->Pv i σ H->y i x H H'->g x σ H' λσ2 H2=>tb { D with nx:=Pv (i+1),ct:=Pv (i+1),bk:=D.nx } σ2 H2) (hd:∀σ H,Pv n σ H->D.nx σ H) :
  ∃W:Nat->Nat->St->Hp->Prop,(∃m,W 0 m σ H)/\∀i m σ H,W i m σ H->
   (J.stop i H/\D.nx σ H)\/(J.go i H/\∃N:St->Hp->Prop,(∀σ' H',N σ' H'->∃m',m'<m/\W (i+1) m' σ' H')/\∀x H',J.yld i H x H'->g x σ H' λσ2 H2=>tb { D with nx:=N,ct:=N,bk:=D.nx } σ2 H2):=by
 refine⟨λi m σ H=>m=n-i/\i<=n/\Pv i σ H,⟨n,by simp,xAR _,h0⟩,?_⟩;rintro i m σ H ⟨rfl,hi,p⟩;by_cases hlt:i<n
 ·exact .inr ⟨S.go i H hlt (hl i σ H hi p),Pv (i+1),λσ' H' p'=>⟨n-(i+1),by lia,rfl,hlt,p'⟩,λx H' q=>hs i x σ H H' hlt p (S.yld i H x H' hlt (hl i σ H hi p) q)⟩
 ·have e:i=n:=by lia
  subst e;exact .inl ⟨S.stop H (hl _ σ H hi p),hd σ H p⟩
theorem yao{J:It}{n:Nat}{G:Hp->Prop}{y:Nat->V->Hp->Hp->Prop}(S:Seqs J n G y){σc:St}{g:TG}{ti:TT}{te:TE}{H:Hp}{Fn:List V->Hp->Prop}(Pv:Nat->List V->Hp->Prop)(h0:Pv 0 [] H)(hl:∀i acc H,i<=n->Pv i acc H->G H)
  (hz:∀i acc H,i<n->Pv i acc H->acc.length<sizeLine)
  (hs:∀i acc x H H',i<n->Pv i acc H->y i x H H'->g x σc H' λσ2 H2=>ti σ2 H2 λb H3=>if b=true then te σ2 H3 λv H4=>Pv (i+1) (acc++[v]) H4 else Pv (i+1) acc H3)
  (hd:∀acc H,Pv n acc H->Fn acc H) :
  ∃W:yhQ,(∃m,W 0 m [] H)/\∀i m acc H,W i m acc H->
   (J.stop i H/\Fn acc H)\/
   (J.go i H/\acc.length<sizeLine/\∃N:List V->Hp->Prop,(∀acc' H',N acc' H'->∃m',m'<m/\W (i+1) m' acc' H')/\∀x H',J.yld i H x H'->g x σc H' λσ2 H2=>ti σ2 H2 λb H3=>if b=true then te σ2 H3 λv H4=>N (acc++[v]) H4 else N acc H3):=by
 refine⟨λi m acc H=>m=n-i/\i<=n/\Pv i acc H,⟨n,by simp,xAR _,h0⟩,?_⟩;rintro i m acc H ⟨rfl,hi,p⟩;by_cases hlt:i<n
 ·exact .inr ⟨S.go i H hlt (hl i acc H hi p),hz i acc H hlt p,Pv (i+1),λacc' H' p'=>⟨n-(i+1),by lia,rfl,hlt,p'⟩,λx H' q=>hs i acc x H H' hlt p (S.yld i H x H' hlt (hl i acc H hi p) q)⟩
 ·have e:i=n:=by lia
  subst e;exact .inl ⟨S.stop H (hl _ acc H hi p),hd acc H p⟩
end L2
end
section
namespace L2
open PySem PySem.Spec PyProof.Rows
section
variable {X:Cx}
def CDv(i j:Int):Prop:=0<j/\j<2^64
theorem CDv.log{i j:Int}(h:CDv i j):j.natAbs.log2<9000:=by
 obtain⟨h1,h2⟩:=h;have h0:j.natAbs≠0:=by lia
 have:j.natAbs<2^64:=by lia
 exact xAv ((Nat.log2_lt h0).mpr this) (by decide)
theorem zc0:OpR X (binaryOp .FloorDiv) (rI CDv λi j=>.int (i/j)):=opI λi j _ _ _ _ _ hc q=>by
 have h1:(0:Int)<j:=hc.1;exact floordiv_int (by lia) (by rw[Int.fdiv_eq_ediv_of_nonneg i (by lia)];exact q) (.inl (PyProof.noPylong_of_log2 hc.log))
def CDvB(i j:Int):Prop:=0<j/\j<2^1000
theorem CDvB.log{i j:Int}(h:CDvB i j):j.natAbs.log2<9000:=by
 obtain⟨h1,h2⟩:=h;have h0:j.natAbs≠0:=by lia
 have:j.natAbs<2^1000:=by lia
 exact xAv ((Nat.log2_lt h0).mpr this) (by decide)
theorem yg8:OpR X (binaryOp .FloorDiv) (rI CDvB λi j=>.int (i/j)):=opI λi j _ _ _ _ _ hc q=>by
 have h1:(0:Int)<j:=hc.1;exact floordiv_int (by lia) (by rw[Int.fdiv_eq_ediv_of_nonneg i (by lia)];exact q) (.inl (PyProof.noPylong_of_log2 hc.log))
theorem yfe:OpR X (binaryOp .Mult) (rI IntMulOk λi j=>.int (i*j)):=opI λ_ _ _ _ _ _ _ hc q=>mul_int q hc
noncomputable def rNeE(K:PySem.W.Frag):R2:=λx y H Q=>Ex3 λa b xs=>x = .ref a/\y = .ref b/\SqL K H a xs/\SqL K H b []/\Q (.bl (!xs.isEmpty)) H
theorem ygv(hu:X.A.units<cLine):OpR X (compareOp .NotEq) (rNeE X.K):=by
 intro pins s σ H x y v u Q I rx ry h;obtain⟨a,b,xs,rfl,rfl,ha,hb,q⟩:=h;cases rx;cases ry;obtain⟨us,r1,p1,z1⟩:=I.list ha;obtain⟨vs,r2,p2,z2⟩:=I.list hb;cases r2;cases xs with
 |nil=>
  cases r1;exact SeqAt.RcNeAt.lists (e:=λ_=>true) p1.isList p2.isList rfl hu (λj h1 _=>absurd h1 (by simp)) _ _ _ _ ⟨.bl false,H,I,rfl,q⟩
 |cons x xs=>
  cases r1;exact SeqAt.RcNeAt.lists_lengths p1.isList p2.isList (by simp) hu _ _ _ _ ⟨.bl true,H,I,rfl,q⟩
noncomputable def tRev(K:PySem.W.Frag)(te:TE):TE:=λσ H Q=>te σ H λx H1=>Ex2 λa xs=>x = .ref a/\SqL K H1 a xs/\∀p,H1 p=none->Q (.ref p) (upd H1 p (.lst xs.reverse))
theorem zhP{e:Expr}{te:TE}{p0 p1 p2 pos:Pos}{j}(he:PE X e te):PE X (.Subscript e (.Slice none none (some (.UnaryOp .USub (.Constant (.int 1) j p0) p1)) p2) pos) (tRev X.K te):=by
 intro pins s σ H Q I h;refine Subscript_ (thn (he pins s σ H _ I h) λv s1 hq=>?_);obtain⟨x,H1,I1,r1,q1⟩:=hq;obtain⟨a,xs,rfl,hx,q⟩:=q1;cases r1;refine wpAny_Slice ?_;rw[evalPart_none];refine xA3 ?_;refine xA3 ?_;rw[evalPart_some];refine thn ((yfW yev (yab (X:=X))) pins s1 σ H1 (λv H'=>v = .int (-1)/\H'=H1) I1 ⟨1,rfl,rfl,rfl⟩) λst s2 hq=>?_
 obtain⟨v,H2,I2,r2,e1,e2⟩:=hq;subst e1 e2;obtain⟨t,rfl⟩:=r2;have I4:Inv X pins σ H2 { s2 with heap:=s2.heap.push { cls:=.type "slice",data:=.fields #[.none,.none,.int (-1) t] } }:=I2.kept (t':=s2.toks) λb ob q=>xA2 _ q
 obtain⟨its,r,ht,hz⟩:=I4.list hx;have hlen:=r.length;show wpAny (model X.prog X.w) X.A (subscriptTail e _ (.ref a) (.ref s2.heap.objs.size)) (EP X pins σ Q) X.xe { s2 with heap:=s2.heap.push { cls:=.type "slice",data:=.fields #[.none,.none,.int (-1) t] } };refine tail_any (ops:=[.ref a,.ref s2.heap.objs.size]) ht.isList.typeIs slot_list_getitem.lookup ?_ (by with_unfolding_all rfl);refine wpAny_getItem_list_slice ht.isList (Heap.IsSliceOf.new ..) .none .none (.int (-1) t) (by simp) ?_ (by rw[xA8];lia);rw[PySem.W.krv_pick];refine⟨.ref _,_,I4.laid (t':=s2.toks) (o:=.lst xs.reverse) (λb ob q=>xA2 _ q) (xA5 _) ?_,rfl,q _ (I4.hok.fresh (xA5 _))⟩;exact⟨by rw[List.length_reverse];exact hz,its.reverse,0,r.reverse,xA6 _ rfl⟩
theorem ycW:∀ {bs:List Bool} {us:List Value},Vals (bs.map V.bl) us->us=bs.map Value.bool
 | [],_,.nil=>rfl
 |b::bs,_,.cons r t=>by cases r;rw[ycW t];rfl
theorem yeY(bs:List Bool):(List.range bs.length).all (λi=>bs.getD i true)=bs.all id:=by
 induction bs with
 |nil=>rfl
 |cons b bs ih=>
  rw[xAo,List.range_succ_eq_map,List.all_cons,List.all_cons,List.all_map];show((b::bs).getD 0 true&&_)=_;rw[List.getD_cons_zero];congr 1
noncomputable def yhX(K:PySem.W.Frag)(f:List Bool->Bool):List V->Hp->VK->Prop:=λxs H Q=>Ex2 λa bs=>xs=[.ref a]/\SqL K H a (bs.map V.bl)/\Q (.bl (f bs)) H
theorem ydX{bs:List Bool}:TruthOf P w A (λi v=>(bs.map Value.bool).toArray[i]?=some v) (λi=>bs.getD i true):=by
 intro i v s Q E hv q;have hv':bs[i]?.map Value.bool=some v:=by simpa using hv
 cases e:bs[i]? with
 |none=>rw[e]at hv';cases hv'
 |some b=>
  rw[e]at hv';cases hv';have e2:bs.getD i true=b:=by simp[List.getD,e]
  have q':Q (bs.getD i true) s:=q;rw[e2]at q';exact wpAny_truthy_bool q'
theorem ygh(hc:X.calm=true):zbo X (.builtin "all") (yhX X.K λbs=>bs.all id):=by
 intro pins s σ H xs us Q I r h;obtain⟨a,bs,rfl,ha,q⟩:=h;obtain⟨u,rfl,rx⟩:=ybG r;cases rx;obtain⟨its,r1,p1,z1⟩:=I.list ha;have e:=ycW r1;subst e;refine call_all_walk (wpAny_pyIter_list p1.isList ?_);have hh:X.A.in1.handled=none:=I.ok.hd hc;have ne:a≠s.heap.objs.size:=λz=>by obtain⟨o,n,e,_⟩:=p1;have l:s.heap.objs.size>=Nat.succ a:=xAe e;have z':@Eq Nat a s.heap.objs.size:=z;lia
 refine⟨_,_,_,_,_,_,_,rfl,Walks.list hh s.heap.objs.size a ne _,⟨⟨_,xA6 _ rfl,rfl,rfl⟩,p1.isList.push _⟩,ydX,λh' tk k=>?_⟩;have I1:Inv X pins σ H { s with heap:=h',toks:=tk }:=I.kept λb o e=>k b o (by simp only[xAl];exact xAq (xAe e)) (xA2 _ e)
 refine⟨.bl _,H,I1,?_,q⟩;show Value.bool _=Value.bool _;congr 1;have:=yeY bs
 simpa using this
def Itd(hi:Int)(n:Nat):It:=⟨λi _=>i<n,λi H x H'=>H'=H/\x = .int (hi-i),λi _=>n<=i⟩
theorem zeX{P:Program}{w:World}{K:PySem.W.Frag}{tg:Expr}(it:Addr)(hi:Int)(n:Nat):Turn P w K tg (Itd hi n) [it] it (λi h=>IsRangeIter h it (hi+(i:Nat)*(-1)) ((n:Int)-(i:Nat)) (-1)) where
 mem:=by simp
 obj:=λi h st b hb=>by
  have e:b=it:=by simpa using hb
  subst e;exact⟨_,st,λv z=>by have z':Data.fields _=Data.cell v:=z;cases z'⟩
 keep:=λi h h' st k=>k it (by simp) _ st
 item:=by
  intro X hP hw hK hc i pins s σ H E I hf st hg;subst hP hw hK;obtain⟨f0,f1,f2,f3,f4,f5⟩:=hf it (by simp);have W:=Walks.range (prog:=X.prog) (w:=X.w) (I.ok.hd hc) it hi (-1) n;refine W.item i s _ _ hg st λv h' tk hv st' kk=>?_
  obtain⟨t,rfl⟩:=hv;have I1:Inv X pins σ H { s with heap:=h',toks:=tk }:=I.turned (λb o hb e=>kk b o (by simpa using hb) e) f0 f1 f3 f4 f5;refine⟨_,rfl,ygj (s:={ s with heap:=h',toks:=tk }) (n:="range_iterator") st' rfl rfl (by decide) ⟨.int (hi-i),H,I1,⟨t,?_⟩,⟨rfl,rfl⟩,st',λb hb=>(hf b hb).1⟩⟩;congr 1;lia
 done:=by
  intro X hP hw hK hc i pins s σ H E I hf st hg;subst hP hw hK;obtain⟨f0,f1,f2,f3,f4,f5⟩:=hf it (by simp);exact wpAny_pyNext_range_end (I.ok.hd hc) st (by have:n<=i:=hg;lia) λh' eb=>⟨rfl,I.turned (t':=s.toks) (λb o hb e=>eb b o hb e) f0 f1 f3 f4 f5⟩
 self:=λ_ _ _ _ _ st h=>wpAny_pyIter_rangeiter st h
theorem zfe{hi:Int}{n:Nat}:Seqs (Itd hi n) n (λ_=>True) (λi x H H'=>H'=H/\x = .int (hi-i)) :=
 ⟨λi H hi _=>hi,λH _=>xA5 _,λi H x H' hi _ q=>q⟩
noncomputable def zii(ta:TA):TI:=λσ H R=>ta σ H λvs H1=>Ex2 λ(i j:Int)=>vs=[.int i,.int j,.int (-1)]/\(-(2^62)<=i/\i<2^62/\-(2^62)<=j/\j<2^62)/\R (Itd i (i-j).toNat) H1
theorem zhg{a b c:Expr}{ta:TA}{tg:Expr}{p pos:Pos}(hg:Gl X "range")(hm:X.mg "range"=none)(ha:PA X [a,b,c] ta)(hs:starEach [a,b,c] X.env=(false,eval a X.env)::starEach [b,c] X.env:=by rfl)(hs2:(backTo pos (starEach [b,c] X.env)).any (·.1)=false:=by rfl) :
  PI X tg (.Call (.Name "range" p) [a,b,c] [] pos) (zii ta):=by
 intro pins s σ H R I h;refine Call_ (ybh I hg hm boot_range (xBc (thn (ha pos pins s σ H _ I h) λus s1 ⟨vs,H1,I1,r1,q1⟩=>?_) hs hs2));obtain⟨i,j,e,⟨b1,b2,b3,b4⟩,q⟩:=q1;subst e;cases r1 with
 |cons r rr=>
  cases rr with
  |cons r' rr=>
   cases rr with
   |cons r'' rr=>
    cases rr;obtain⟨t,rfl⟩:=r;obtain⟨t',rfl⟩:=r';obtain⟨t'',rfl⟩:=r'';refine call_range_3 (by decide) ?_ (.inl (PyProof.noPylong_small (by decide)));refine wpAny_pyIter_range (IsRange.new ..) (PySem.W.small_down b1 b2 b3 b4) ?_;generalize hG:s1.heap.push { cls:=.type "range",data:=.fields #[.int i t,.int j t',.int (-1) t''] }=G;have I2:Inv X pins σ H1 { s1 with heap:=G }:=I1.kept (t':=s1.toks) λb o e=>hG ▸ xA2 _ e
    refine⟨G.objs.size,[G.objs.size],_,_,H1,rfl,I2.kept (t':=s1.toks) λb o e=>xA2 _ e,zeX _ i (i-j).toNat,?_,λb hb=>?_,q⟩
    ·have e1:i+((0:Nat):Int)*(-1)=i:=by simp
     have e2:(((i-j).toNat:Nat):Int)-((0:Nat):Int)=Builtin.Range.rangeSize i j (-1):=by rw[PySem.W.rangeSize_downNat];simp
     show IsRangeIter _ _ (i+((0:Nat):Int)*(-1)) ((((i-j).toNat:Nat):Int)-((0:Nat):Int)) (-1);rw[e1,e2];exact xA6 _ rfl
    ·have e:b=G.objs.size:=by simpa using hb
     subst e;exact I2.fpOk (xA5 _) (I2.hok.fresh (xA5 _))
def tRng(ta:TA):TE:=λσ H Q=>ta σ H λvs H1=>∃j:Int,vs=[.int j]/\∀p,H1 p=none->Q (.ref p) (upd H1 p (.rng 0 j))
theorem zcj{a:Expr}{ta:TA}{p pos:Pos}(hg:Gl X "range")(hm:X.mg "range"=none)(ha:PA X [a] ta)(hs:starEach [a] X.env=[(false,eval a X.env)]:=by rfl):PE X (.Call (.Name "range" p) [a] [] pos) (tRng ta):=by
 intro pins s σ H Q I h;refine Call_ (ybh I hg hm boot_range (xBc (thn (ha pos pins s σ H _ I h) λus s1 ⟨vs,H1,I1,r1,q1⟩=>?_) hs rfl));obtain⟨j,e,q⟩:=q1;subst e;cases r1 with
 |cons r rr=>
  cases rr;obtain⟨t,rfl⟩:=r;exact call_range_1 ⟨.ref _,_,I1.laid (o:=.rng 0 j) (λb o e=>xA2 _ e) (xA5 _) ⟨_,_,_,xA6 _ rfl⟩,rfl,q _ I1.fresh⟩
def intsFrom(lo:Int)(n:Nat):List V:=(List.range n).map λ(i:Nat)=>V.int (lo+(i:Int))
theorem zct:∀ {xs:List V} {us:List Value},xs.length=us.length->(∀(i:Nat) x u,xs[i]?=some x->us[i]?=some u->RelV x u)->Vals xs us
 | [],[],_,_=>.nil
 | [],_::_,h,_=>by simp at h
 |_::_,[],h,_=>by simp at h
 |x::xs,u::us,h,g=>.cons (g 0 x u rfl rfl) (zct (by simpa using h) λi y v e1 e2=>g (i+1) y v (by simpa using e1) (by simpa using e2))
theorem zb8{lo:Int}{n:Nat}(h:ItemsOf (λi v=>∃t,v = .int (lo+i*1) t) acc n):Vals (intsFrom lo n) acc.toList:=by
 refine zct (by simp[intsFrom,h.1]) λi x u e1 e2=>?_
 obtain⟨t,rfl⟩:=h.2 i u (by simpa using e2);have:x=V.int (lo+i):=by
  unfold intsFrom at e1;rw[xAd]at e1;cases hr:(List.range n)[i]? with
  |none=>rw[hr]at e1;cases e1
  |some j=>
   rw[hr]at e1;have:j=i:=by
    obtain⟨h1,h2⟩:=xAh.mp hr
    simpa using h2.symm
   subst this;exact(xAF e1).symm
 subst this;exact⟨t,by simp⟩
theorem zbR(hc:X.calm=true):zbo X (.type "list") (λxs H Q=>Ex3 λp lo hi=>xs=[.ref p]/\H p=some (.rng lo hi)/\(-(2^62)<=lo/\lo<2^62/\-(2^62)<=hi/\hi<2^62)/\(hi-lo).toNat<=sizeLine/\∀l,H l=none->Q (.ref l) (upd H l (.lst (intsFrom lo (hi-lo).toNat)))):=by
 intro pins s σ H xs us Q I r h;obtain⟨p,lo,hi,rfl,hp,⟨b1,b2,b3,b4⟩,hz,q⟩:=h;obtain⟨u,rfl,rx⟩:=ybG r;cases rx;obtain⟨t,u,v,e⟩:=I.hok p _ hp;refine call_list_range (n:=(hi-lo).toNat) (I.ok.hd hc) e (small_one b1 b2 b3 b4) (by rw[rangeSize_one];split <;> lia) (by have:=sizeLine_eq;lia) λh' tk acc c k ho hi'=>?_
 have rv:=zb8 hi';refine⟨.ref _,_,I.laid (t':=tk) k (xA5 _) (show zaR X.prog X.w _ h' _ (.lst (intsFrom lo (hi-lo).toNat)) from⟨?_,acc.toList,c,rv,by simpa using ho⟩),rfl,q _ I.fresh⟩
 simpa[intsFrom]using hz
noncomputable def Has(P:Program)(w:World)(K:PySem.W.Frag)(mg:Str->Option Value)(base:Heap)(n:Nat)(x:Str)(ps:List Str)(sp:Sp):Prop :=
 Ex2 λf fd=>FnOk P w K mg base CX0 n f fd ps sp/\yeI K fd ps []/\PySem.W.keepIn K (.ref f)=true/\mg x=some (.ref f)
theorem yf5{n k:Nat}{x:Str}{ps:List Str}{sp:Sp}{e:Expr}{es:List Expr}{t:TA}{p pos:Pos}(h:Has X.prog X.w X.K X.mg X.base n x ps sp)(hr:Room k X.A)(hle:n<=k)(hg:Gl X x)(ha:PA X (e::es) t)
  (hdb:(x==("__debug__":Str))=false:=by decide) (he:starEach (e::es) X.env=(false,eval e X.env)::starEach es X.env:=by rfl) (hpl:(backTo pos (starEach es X.env)).any (·.1)=false:=by rfl) :
  PE X (.Call (.Name x p) (e::es) [] pos) (zgL sp [] E0 t):=by
 obtain⟨f,fd,F,B,kp,m⟩:=h;exact zgQ F (hr.mono hle) hg m kp B .nil yie ha hdb he hpl
theorem ybD(Pv:St->Hp->Prop)(μ:St->Hp->Nat)(h0:Pv σ H)
  (hs:∀σ H,Pv σ H->c σ H λb H1=>if b=true then ∃N:St->Hp->Prop,(∀σ' H',N σ' H'->∃m',m' < μ σ H/\m'=μ σ' H'/\Pv σ' H')/\tb { D with nx:=N,ct:=N,bk:=D.nx } σ H1 else D.nx σ H1):ygu c tb D σ H:=by
 refine⟨λm σ H=>m=μ σ H/\Pv σ H,⟨_,rfl,h0⟩,?_⟩;rintro m σ H ⟨rfl,p⟩;exact hs σ H p
end
end L2
end
section
namespace L2
open PySem PySem.Spec PyProof.Rows
section
variable {X:Cx}
theorem zaY:bootBuiltins "list"=some (.type "list"):=by decide +kernel
theorem zaj:bootBuiltins "tuple"=some (.type "tuple"):=by decide +kernel
theorem yd4:bootBuiltins "int"=some (.type "int"):=by decide +kernel
theorem zcH:bootBuiltins "abs"=some (.builtin "abs"):=by decide +kernel
theorem zdX:bootBuiltins "min"=some (.builtin "min"):=by decide +kernel
theorem zd5:bootBuiltins "max"=some (.builtin "max"):=by decide +kernel
theorem ygb(i:Int)(t:Tok):RelV (.int i) (.int i t):=⟨t,rfl⟩
theorem yeT{es:List Expr}{k:Nat}{t:TGs}{n:Nat}{pos:Pos}{K:PySem.W.Frag}(hK:X.K=K)(hc:X.calm=true)(h:PGs X es t)
  (hn:(assignEach es X.env).length=n:=by rfl) (hst:(assignEach es X.env).findIdx? (·.1)=none:=by rfl):PG X (.Tuple es k pos) (gTup K n t):=hK ▸ ycZ hc h hn hst
end
end L2
end
section
namespace L2
open PySem PySem.Spec PyProof.Rows
theorem zfA{k:Nat}{sl:Array (Option Value)}
  (hx:s.heap.get? a=some { cls:=.type "list",dict:=none,data:=.seq xs k,slots:=sl }) (hA:A.handled=none)
  (h:∀h' tk e,Heap.NewExcOf s.heap h' e "AttributeError"->E (.ref e) { s with heap:=h',toks:=tk }) :
  wpAny (model prog w) A (getAttrBy (.ref a) (.str "keys" u) false) Q E s:=by
 have hmiss:typeLookup (.type "list") "keys"=pure none:=by rw[typeLookup_type,xBG];kernel_rfl
 obtain⟨hp,g,d,tk,os⟩:=s;have hT:∀tk',(⟨hp,g,d,tk',os⟩:Shared).TypeIs (.ref a) "list":=λ_=>⟨_,hx,rfl⟩
 have f1:=sub_AttributeError;have f3:=F.slot_list_getattribute.lookup;have f4:=F.slot_list_getattribute.bind (.ref a);have f5:=am_list_getattr_none;unfold getAttrBy
 repeat (any_goals (first|assumption|exact hT _|((with_reducible show wpAny _ _ (call (Value.builtin "list.__getattribute__") _ _) _ _ _);refine call_meets F.slot_list_getattribute (hT _) am_entry_list_getattribute (F.args_list_getattribute_2 _ _) (meets_getattribute_miss_list a xs k sl "keys" _ hmiss (by decide +kernel)) ⟨hx,hA,λh' tk' e hx'=>?_⟩)|wp_step))
 obtain⟨t',u',he⟩:=hx'.there;show wpAny _ _ (getattributeRaised _ _ _ _ _ _ _) _ _ _;unfold getattributeRaised
 repeat (any_goals (first|assumption|wp_step))
 exact h _ _ _ hx'.of
theorem yfP{k:Nat}{sl:Array (Option Value)}
  (hx:s.heap.get? a=some { cls:=.type "list",dict:=none,data:=.seq xs k,slots:=sl }) (hA:A.handled=none)
  (h:∀h' tk,(∀b o,s.heap.get? b=some o->h'.get? b=some o)->Q none { s with heap:=h',toks:=tk }) :
  wpAny (model prog w) A (getAttr? (.ref a) "keys") Q E s:=by
 have f1:=sub_AttributeError;unfold getAttr? getAttrBy?;refine xA0 (wpAny_mkText ?_);refine xA0 ?_;refine wpAny_attempt ?_;refine zfA (by exact hx) hA λh' tk e ne=>?_
 obtain⟨oe,_,he,hc,_⟩:=ne.there;show wpAny _ _ (isInstance (.ref e) (.type "AttributeError") >>= _) _ _ _;refine xA0 (wpAny_isInstance ⟨_,he,hc⟩ f1 ?_);exact xA3 (h _ _ ne.keeps)
theorem zbm:entryFor table "dict.update.loop"=some Builtin.«dict.update.loop»:=entryFor_of_fast (by kernel_rfl)
theorem yaE:plainId "dict.update.loop"=true:=by decide +kernel
section
variable {prog:Program} {w:World} {K:Type} [DecidableEq K] {knd:KeyKind prog w K} {A:Around} {R:Result->Shared->Prop} {I ax d:Addr}
theorem zfl(hh:A.in1.handled=none)(items:Array Value)(more:List (K×Value))(hne:ax≠I)(hdI:d≠I)(hda:d≠ax)(hsz:items.size<=sizeLine)(hml:more.length=items.size)
  (tp:Nat->Addr) (hit:∀j,j<items.size->items[j]?=some (.ref (tp j))) (htd:∀j,j<items.size->tp j≠d/\tp j≠I) :
  ∀(k i:Nat) (s:Shared) (t:Tok) (kvs:List (K×Value)),items.size-i=k->i<=items.size->s.heap.IsListIter I ax i/\s.heap.IsList ax items->s.heap.DictOf knd d kvs->kvs.length<=i->
  (∀j kv,more[j]?=some kv->∃key,knd.is kv.1 key=true/\s.heap.IsTuple (tp j) #[key,kv.2])->
  (∀s',s'.heap.DictOf knd d (merged kvs (more.drop i))->(∀b o,b≠I->b≠d->s.heap.get? b=some o->s'.heap.get? b=some o)->(Ex2 λh' tk=>s'={ s with heap:=h',toks:=tk })->R (.ok (.ret .none)) s')->
  codeAny (model prog w) A (.builtin "dict.update.loop" ⟨[.ref d,.ref I,.int (i:Int) t,.none],[]⟩) R s:=by
 have W:=Walks.list (prog:=prog) (w:=w) hh I ax hne items;intro k
 induction k with
 |zero=>
  intro i s t kvs hk hi hst hd hkl hpairs hR;have hin:i=items.size:=by lia
  subst hin;refine xBb zbm ?_;rw[xBa yaE _];show wpAny _ A.in1 (pyNext (.ref I) >>= _) _ _ s;refine xA0 (W.done s _ _ hst λh' tk hk'=>?_);have hm:more.drop items.size=[]:=List.drop_of_length_le (by lia);rw[hm]at hR;have hd':h'.DictOf knd d kvs:=hd.at λo e=>hk' d o (by simp[hdI]) e
  refine xA3 (hR { s with heap:=h',toks:=tk } hd' (λb o h1 h2 e=>hk' b o (by simp[h1]) e) ⟨_,_,rfl⟩)
 |succ k ih=>
  intro i s t kvs hk hi hst hd hkl hpairs hR;have hlt:i<items.size:=by lia
  refine xBb zbm ?_;rw[xBa yaE _];show wpAny _ A.in1 (pyNext (.ref I) >>= _) _ _ s;refine xA0 (W.item i s _ _ hlt hst λv h' tk hP hst' hk'=>?_);rw[hit i hlt]at hP;cases hP;obtain⟨kv,hkv⟩:∃kv,more[i]?=some kv:=⟨more[i]'(by lia),xAc (by lia)⟩
  obtain⟨key,hkey,htup⟩:=hpairs i kv hkv;have htup':h'.IsTuple (tp i) #[key,kv.2]:=htup.at λo e=>hk' _ o (by simp[(htd i hlt).2]) e
  obtain⟨ot,hot,hoc,nn,hod⟩:=id htup';have hd':h'.DictOf knd d kvs:=hd.at λo e=>hk' d o (by simp[hdI]) e
  refine xA0 (xB9 ?_);refine xA0 (wpAny_tryCatch ?_);unfold Builtin.Dict.pairItems;refine xA0 (wpAny_typeOf ⟨_,hot,hoc⟩ ?_);rw[if_pos (by decide)];refine xA0 (wpAny_seqItems hot hod ?_);refine xA3 ?_;show wpAny _ A.in1 (holding [key,kv.2] (dictSet d key kv.2)) _ _ _;refine xB9 (wpAny_dictSet_pairs (hsz:=by lia) hkey hd' λh2 hd2 hs2=>?_);have step:more.drop i=kv::more.drop (i+1):=by
   rw[List.drop_eq_getElem_cons (by lia)];congr 1;exact xAF ((xAc (by lia)).symm.trans hkv)
  refine xA3 ⟨plainId_quiet yaE _,ih (i+1) _ _ (stored kvs kv.1 kv.2) (by lia) hlt ?_ hd2 ?_ (λj kv' hj=>?_) λs' h1 h2' h3=>hR s' ?_ (λb o n1 n2 e=>h2' b o n1 n2 (hs2.extBut b o n2 (hk' b o (by simp[n1]) e))) ?_⟩
  ·exact W.frame _ _ _ hst' λb hb o e=>hs2.extBut b o (by simp only[xAa,xAf,xB2]at hb;rcases hb with rfl|rfl;exact Ne.symm hdI;exact Ne.symm hda) e
  ·have:=stored_length_le kvs kv.1 kv.2;lia
  ·obtain⟨key',a1,a2⟩:=hpairs j kv' hj;have hj':j<items.size:=by rw[<-hml];exact(xAh.mp hj).1
   exact⟨key',a1,(a2.at λo e=>hk' _ o (by simp[(htd j hj').2]) e).at λo e=>hs2.extBut _ o (htd j hj').1 e⟩
  ·rw[step];exact h1
  ·obtain⟨h4,tk4,rfl⟩:=h3;exact⟨_,_,rfl⟩
end
section
variable {X:Cx}
theorem Vals.getR:∀ {xs:List V} {us:List Value},Vals xs us->∀(j:Nat) x u,xs[j]?=some x->us[j]?=some u->RelV x u
 |_,_,.nil,j,x,u,e,_=>by simp at e
 |_::_,_::_,.cons r t,0,x,u,e1,e2=>by simp at e1 e2;subst e1 e2;exact r
 |_::_,_::_,.cons r t,j+1,x,u,e1,e2=>Vals.getR t j x u (by simpa using e1) (by simpa using e2)
noncomputable def yhl:List V->Hp->VK->Prop:=λxs H Q=>Ex3 λ(a:Addr) (ts:List Addr) (kvs:List (Key×V))=>xs=[.ref a]/\H a=some (.lst (ts.map V.ref))/\ts.length=kvs.length/\kvs.length<=sizeLine/\
 (∀(j:Nat) t kv,ts[j]?=some t->kvs[j]?=some kv->H t=some (.tup [kV kv.1,kv.2]))/\(kvs.map (·.1)).Nodup/\∀D,H D=none->Q (.ref D) (upd H D (.dK kvs))
theorem zcW{P:Program}{w:World}(I:Inv X pins σ H s):∀(ts:List Addr) (kvs:List (Key×V)),ts.length=kvs.length->(∀(j:Nat) t kv,ts[j]?=some t->kvs[j]?=some kv->H t=some (.tup [kV kv.1,kv.2]))->
  ∃vs:List (Key×Value),KV kvs vs/\vs.length=ts.length/\∀(j:Nat) kv t,vs[j]?=some kv->ts[j]?=some t->∃key,(zau P w).is kv.1 key=true/\s.heap.IsTuple t #[key,kv.2]
 | [],[],_,_=>⟨[],.nil,rfl,λj kv t e=>by simp at e⟩
 | [],_::_,h,_=>by simp at h
 |_::_,[],h,_=>by simp at h
 |t::ts,kv::kvs,h,hp=>by
  obtain⟨vs,h1,h2,h3⟩:=zcW I ts kvs (by simpa using h) λj t' kv' e1 e2=>hp (j+1) t' kv' (by simpa using e1) (by simpa using e2)
  obtain⟨its,r,p,_⟩:=I.tuple (SqT.of (hp 0 t kv rfl rfl));cases r with
  |cons ra rr=>
   cases rr with
   |cons rb rz=>
    cases rz;rename_i ka va;refine⟨(kv.1,va)::vs,.cons ⟨rfl,rb⟩ h1,by simp[h2],λj kv' t' e1 e2=>?_⟩;cases j with
    |zero=>
     simp at e1 e2;subst e1 e2;exact⟨ka,yfM ra,p⟩
    |succ j=>exact h3 j kv' t' (by simpa using e1) (by simpa using e2)
theorem zcz(hc:X.calm=true):zbo X (.type "dict") yhl:=by
 intro pins s σ H xs us Q I r h;obtain⟨a,ts,kvs,rfl,ha,hl,hsz,hp,hn,q⟩:=h;obtain⟨u,rfl,rx⟩:=ybG r;cases rx;obtain⟨its,r1,p1,z1⟩:=I.list (SqL.of ha);refine callType_codes (Q₁:=λobj s₁=>obj = .ref s.heap.objs.size/\s₁={ s with heap:=s.heap.push { cls:=.type "dict",data:=.dict #[] } }) F.kt_called_dict (F.kt_typeCall_dict_1 _) F.entry_dict_init (kt_code_dict_new _ ⟨rfl,rfl⟩) ?_;rintro obj s₁ ⟨rfl,rfl⟩;have hnew:(s.heap.push { cls:=.type "dict",data:=.dict #[] }).DictOf (zau X.prog X.w) s.heap.objs.size []:=Heap.DictOf.new s.heap;refine⟨hnew.typeIs,F.args_dict_init_2 _ _,?_⟩;unfold Builtin.«dict.__init__»;refine xA0 ?_;unfold Builtin.Dict.selfAndRest;refine xA0 (wpAny_notOrdered_dict hnew.typeIs ?_);show wpAny _ _ (pure (s.heap.objs.size,[Value.ref a])) _ _ _;refine xA3 ?_;show wpAny _ _ (Builtin.Dict.updateFrom "dict.__init__" s.heap.objs.size (.ref a) [] .none) _ _ _;unfold Builtin.Dict.updateFrom;have hne:∀b o,s.heap.get? b=some o->b≠s.heap.objs.size:=λb o e z=>by have l:s.heap.objs.size>=Nat.succ b:=xAe e;have z':@Eq Nat b s.heap.objs.size:=z;lia
 obtain⟨vs,hKV,hvl,hvs⟩:=zcW (P:=X.prog) (w:=X.w) I ts kvs hl hp;have hA:X.A.in1.in1.handled=none:=I.ok.hd hc;obtain⟨⟨ca,da,dta,sla⟩,na,hoa,hca,hda,hdt⟩:=id p1;dsimp only at hca hda hdt;subst hca hda hdt;have e1:(s.heap.push { cls:=.type "dict",data:=.dict #[] }).get? a=some { cls:=.type "list",dict:=none,data:=.seq its.toArray na,slots:=sla }:=xA2 _ hoa;refine xA0 (wpAny_typeOf ⟨_,e1,rfl⟩ ?_);dsimp only;rw[if_pos (by decide)];refine xA0 (yfP e1 hA λh1 tk1 hk1=>?_);rw[if_pos (show(none:Option Value).isNone=true from rfl)];refine xA0 (xBA ?_);have e2:h1.IsList a its.toArray:=⟨_,hk1 _ _ e1,rfl,na,rfl⟩
 refine xA0 (wpAny_pyIter_list e2 ?_);have hN:s.heap.objs.size<h1.objs.size:=xAe (hk1 _ _ (xA6 _ rfl));have hI:∀b o,h1.get? b=some o->b≠h1.objs.size:=λb o e z=>by have l:h1.objs.size>=Nat.succ b:=xAe e;have z':@Eq Nat b h1.objs.size:=z;lia
 have kp:∀b o,s.heap.get? b=some o->(h1.push { cls:=.type "list_iterator",data:=.fields #[.ref a,.int 0 0] }).get? b=some o:=λb o e=>xA2 _ (hk1 _ _ (xA2 _ e))
 have hr1:=r1.length;have hlen:its.toArray.size=ts.length:=by rw[xA8,<-hr1,xA1]
 have hti:∀j,j<its.toArray.size->its.toArray[j]?=some (.ref (ts.getD j 0)):=by
  intro j hj;rw[hlen]at hj;have hj2:j<its.length:=by rw[<-hr1,xA1];exact hj
  rw[List.getElem?_toArray,xAc hj2];have g:=Vals.getR r1 j (.ref (ts.getD j 0)) its[j] (by rw[xAd,xAc hj];simp[List.getD,hj]) (xAc hj2);exact congrArg some g
 have htu:∀j,j<its.toArray.size->∃o,s.heap.get? (ts.getD j 0)=some o:=by
  intro j hj;rw[hlen]at hj;have hj2:j<vs.length:=by rw[hvl];exact hj
  obtain⟨key,_,o,ho,_⟩:=hvs j vs[j] (ts.getD j 0) (xAc hj2) (by simp[List.getD,hj]);exact⟨o,ho⟩
 refine xA3 ⟨plainId_quiet yaE _,?_⟩;refine zfl (knd:=zau X.prog X.w) (A:=X.A.in1) (I:=h1.objs.size) (ax:=a) (d:=s.heap.objs.size) hA its.toArray vs (hI _ _ (hk1 _ _ e1)) (xAq hN) (Ne.symm (hne _ _ hoa)) (by rw[hlen,hl];exact hsz) (by rw[hvl,hlen]) (λj=>ts.getD j 0) hti
  (λj hj=>by obtain⟨o,ho⟩:=htu j hj;exact⟨hne _ _ ho,hI _ _ (hk1 _ _ (xA2 _ ho))⟩) _ 0 _ _ [] rfl (xAR _) ⟨⟨_,xA6 _ rfl,rfl,rfl⟩,e2.push _⟩ ?_ (xA5 _) ?_ ?_
 ·exact(hnew.at λo e=>hk1 _ _ e).push _
 ·intro j kv hj;have hj2:j<ts.length:=by rw[<-hvl];exact(xAh.mp hj).1
  obtain⟨key,k1,k2⟩:=hvs j kv (ts.getD j 0) hj (by simp[List.getD,hj2]);exact⟨key,k1,k2.at λo e=>kp _ _ e⟩
 ·rintro s' hd hk ⟨h',tk,rfl⟩;have hkeys:vs.map (·.1)=kvs.map (·.1):=(KV.keys hKV).symm;rw[List.drop_zero,merged_nil_of_nodup vs (by rw[hkeys];exact hn)]at hd;refine⟨rfl,.ref s.heap.objs.size,_,I.laid (a:=s.heap.objs.size) (o:=.dK kvs) (t':=tk) (h':=h') (λb o e=>hk b o (hI _ _ (hk1 _ _ (xA2 _ e))) (hne _ _ e) (kp _ _ e)) (xA5 _) ⟨hsz,beq_eq_false_iff_ne.mpr (Ne.symm (xAq I.big)),vs,hKV,hd⟩,rfl,q _ (I.hok.fresh (xA5 _))⟩
end
end L2
end
section
namespace L2
open PySem PySem.Spec PyProof.Rows
section
variable {X:Cx}
theorem zfn:∀ {xs:List Int} {us:List Value},Vals (xs.map V.int) us->∀ {ys:List Int} {vs:List Value},Vals (ys.map V.int) vs->∀j (h1:j<us.toArray.size) (h2:j<vs.toArray.size),SeqAt.EqAt A s us.toArray[j] vs.toArray[j] (xs.getD j 0==ys.getD j 0):=by
 intro xs us r1 ys vs r2 j h1 h2;have l1:=r1.length;have l2:=r2.length;rw[xA1]at l1 l2;rw[xA8]at h1 h2;have g1:=Vals.getR r1 j (.int (xs.getD j 0)) us[j] (by rw[xAd,xAc (by lia)];simp[List.getD,show j<xs.length by lia]) (xAc h1);have g2:=Vals.getR r2 j (.int (ys.getD j 0)) vs[j] (by rw[xAd,xAc (by lia)];simp[List.getD,show j<ys.length by lia]) (xAc h2);obtain⟨t1,e1⟩:=g1;obtain⟨t2,e2⟩:=g2;rw[List.getElem_toArray,List.getElem_toArray,e1,e2];exact SeqAt.EqAt.int_int _ t1 _ t2
theorem ze9{xs ys:List Int}:((List.range (min xs.length ys.length)).all (λj=>xs.getD j 0==ys.getD j 0)&&xs.length==ys.length)=decide (xs=ys):=by
 rw[Bool.eq_iff_iff,xAw,xAY,decide_eq_true_iff,beq_iff_eq];constructor
 ·rintro⟨h1,h2⟩;refine List.ext_getElem h2 λj a b=>?_
  have:=h1 j (xAt.mpr (by lia))
  simpa[List.getD,a,b]using this
 ·rintro rfl;exact⟨λj _=>by simp,rfl⟩
theorem ybH:∀n:Nat,n<100->PyData.leavesShort 8 (.int (n:Int))=true/\PyData.weight (.int (n:Int))<=10:=by decide +kernel
end
end L2
end
section
namespace L2
open PySem PySem.Spec PyProof.Rows
section
variable {X:Cx} {pos:Pos}
noncomputable def zh2(i j k:Nat)(ta:TA):TS:=λD σ H=>ta σ H λvs H1=>Ex3 λu v w=>vs=[u,v,w]/\D.nx (((σ.set i (some u)).set j (some v)).set k (some w)) H1
theorem yd5{i j k:Nat}{x y z:Str}{a b c:Expr}{ta:TA}{px py pz pt:Pos}{kt k2 pt2}(hc:X.calm=true)(hN:X.N.Nodup)(hi:X.N[i]?=some x)(hj:X.N[j]?=some y)(hk:X.N[k]?=some z)(hij:i≠j/\i≠k/\j≠k)
  (hx:X.env.scope.names.lookup x=some .local) (hy:X.env.scope.names.lookup y=some .local) (hz:X.env.scope.names.lookup z=some .local) (ha:PA X [a,b,c] ta)
  (hw:swappedStores [.Tuple [.Name x px,.Name y py,.Name z pz] kt pt] (.Tuple [a,b,c] k2 pt2) X.env=pure (some [x,y,z]))
  (hs:swapsWithSole [.Tuple [.Name x px,.Name y py,.Name z pz] kt pt] (.Tuple [a,b,c] k2 pt2) pos.line X.env=pure false:=by rfl) :
  PS X (.Assign [.Tuple [.Name x px,.Name y py,.Name z pz] kt pt] (.Tuple [a,b,c] k2 pt2) pos) (zh2 i j k ta):=by
 intro pins s σ H D I h;rw[exec_Assign_arm];refine xA0 (wpAny_standAt ?_);rw[hs];refine xA0 (xA3 ?_);rw[if_neg (by decide)];refine xA0 (Tuple_ (thn (ha _ pins s σ H _ I h) λus s1 hq=>?_));obtain⟨vs,H1,I1,r1,q1⟩:=hq;obtain⟨v1,v2,v3,e1,q1⟩:=q1;subst e1;obtain⟨u1,u2,u3,rfl,r1',r2',r3'⟩:Ex3 λu1 u2 u3=>us=[u1,u2,u3]/\RelV v1 u1/\RelV v2 u2/\RelV v3 u3:=by
  cases r1 with
  |cons p q=>
   cases q with
   |cons p' q'=>
    cases q' with
    |cons p'' q''=>
     cases q'';exact⟨_,_,_,rfl,p,p',p''⟩
 refine xAG ?_ (by show 3<=sizeLine;decide);have I2:Inv X pins σ H1 { s1 with heap:=s1.heap.push { cls:=.type "tuple",data:=.seq [u1,u2,u3].toArray } }:=I1.kept (t':=s1.toks) λb o e=>xA2 _ e
 rw[hw];refine xA0 (xA3 ?_);show wpAny (model X.prog X.w) X.A (do rule "assign.swapped-stores";let items <-unpackItems (.ref s1.heap.objs.size) 3 none;assignInOrder [λv=>bindName X.env z v,λv=>bindName X.env y v,λv=>bindName X.env x v] items.reverse;pure Flow.next) _ _ _;refine xA0 (xBA (xA0 (unpackItems_tuple (items:=#[u1,u2,u3]) (I.ok.hd hc) (IsTup.new s1.heap _) λh' hx'=>?_)));have I3:=I2.kept (h':=h') (t':=s1.toks) λb o e=>hx' b o (xAq (xAe e)) e
 show wpAny _ _ (assignInOrder [λv=>bindName X.env z v,λv=>bindName X.env y v,λv=>bindName X.env x v] [u3,u2,u1] >>= λ_=>pure Flow.next) _ _ _;refine xA0 (assignInOrder_cons (wpAny_bindName (za2 I3 hN hk (.inl hz) r3' (λs2 I4=>?_) (.inr hz))));refine assignInOrder_cons (wpAny_bindName (za2 I4 hN hj (.inl hy) r2' (λs2 I5=>?_) (.inr hy)));refine assignInOrder_cons (wpAny_bindName (za2 I5 hN hi (.inl hx) r1' (λs3 I6=>assignInOrder_nil (xA3 ?_)) (.inr hx)));have e:((σ.set k (some v3)).set j (some v2)).set i (some v1)=((σ.set i (some v1)).set j (some v2)).set k (some v3):=by
  rw[List.set_comm (some v3) (some v2) (Ne.symm hij.2.2),List.set_comm (some v3) (some v1) (Ne.symm hij.2.1),List.set_comm (some v2) (some v1) (Ne.symm hij.1)]
 rw[e]at I6;exact⟨_,H1,I6,q1⟩
section
variable {K:PySem.W.Frag}
theorem zbM(h:X.K=K):IxR X (rIxT K):=h ▸ zaq
theorem ybY(h:X.K=K):OpR X (compareOp .In) (rIn K false):=h ▸ yfp
theorem zc6(h:X.K=K):OpR X (compareOp .NotIn) (rIn K true):=h ▸ zb6
end
end
end L2
end
section
namespace L2
open PySem PySem.Spec PyProof.Rows
open MeetsSeq MeetsSeq2 MeetsSeq3
theorem yb8:fillsNumberSlot (.type "tuple") "mul"=pure false :=
 PySem.fillsNumberSlot_seq (id:="tuple.__mul__") (r:=some (.builtin "tuple.__rmul__")) PySem.F.slot_tuple_mul.lookup (by decide +kernel) PySem.F.slot_tuple_rmul.lookup (by decide +kernel)
theorem ydE:seqRepeat? (.type "tuple")=pure (some (.builtin "tuple.__mul__")):=by
 unfold seqRepeat?;rw[PySem.seqSlot_of (T:="tuple") (name:="__mul__") (id:="tuple.__mul__") PySem.F.slot_tuple_mul.lookup (by decide +kernel),PySem.seqSlot_of (T:="tuple") (name:="__rmul__") (id:="tuple.__rmul__") PySem.F.slot_tuple_rmul.lookup (by decide +kernel)];rfl
theorem ycJ(a:Int)(t:Tok)(l:Addr)(items:Array Value)(n:Nat)(dd:Option Addr)(sl:Array (Option Value)) :
  Meets (Builtin.«int.__rmul__» ⟨[.int a t,.ref l],[]⟩) (λ_ R s=>s.heap.get? l=some { cls:=.type "tuple",dict:=dd,data:=.seq items n,slots:=sl }/\R (.ok (.ret Value.notImplemented)) s) :=
 .of_wp λprog w A R s h=>by obtain⟨hp,g,d,tk,os⟩:=s;obtain⟨hl,h⟩:=h;wp_walk;exact⟨_,rfl,h⟩
theorem ydR(l:Addr)(items:Array Value)(n:Nat)(dd:Option Addr)(sl:Array (Option Value))(u:Tok) :
  Meets (Builtin.«tuple.__mul__» ⟨[.ref l,.int 1 u],[]⟩) (λ_ R s=>s.heap.get? l=some { cls:=.type "tuple",dict:=dd,data:=.seq items n,slots:=sl }/\R (.ok (.ret (.ref l))) s) :=
 .of_wp λprog w A R s h=>by
  obtain⟨hp,g,d,tk,os⟩:=s;obtain⟨hl,h⟩:=h
  wp_walk
  exact⟨_,rfl,h⟩
theorem yd0(l:Addr)(items:Array Value)(n:Nat)(dd:Option Addr)(sl:Array (Option Value))(u:Tok)(hne:items.isEmpty=false) :
  Meets (Builtin.«tuple.__mul__» ⟨[.ref l,.int 0 u],[]⟩) (λ_ R s=>s.heap.get? l=some { cls:=.type "tuple",dict:=dd,data:=.seq items n,slots:=sl }/\R (.ok (.ret (.ref s.heap.objs.size))) { s with heap:=s.heap.push { cls:=.type "tuple",data:=.seq #[] } }) :=
 .of_wp λprog w A R s h=>by
  obtain⟨hp,g,d,tk,os⟩:=s;obtain⟨hl,h⟩:=h;have h0:(items.isEmpty||((0:Int)==1))=false:=by rw[hne];rfl
  have h1:(decide ((0:Int)<=0)||items.isEmpty)=true:=rfl
  wp_walk
  exact⟨_,rfl,h⟩
theorem ydT(l:Addr)(items:Array Value)(n:Nat)(dd:Option Addr)(sl:Array (Option Value))(x:Int)(u:Tok)(hne:items.isEmpty=false)(h2:2<=x)(h3:x<2^63)(hz:items.size*x<=(sizeLine:Int)) :
  Meets (Builtin.«tuple.__mul__» ⟨[.ref l,.int x u],[]⟩) (λ_ R s=>s.heap.get? l=some { cls:=.type "tuple",dict:=dd,data:=.seq items n,slots:=sl }/\R (.ok (.ret (.ref s.heap.objs.size))) { s with heap:=s.heap.push { cls:=.type "tuple",data:=.seq ((List.replicate x.toNat items).foldl (·++·) #[]) } }) :=
 .of_wp λprog w A R s h=>by
  obtain⟨hp,g,d,tk,os⟩:=s;obtain⟨hl,h⟩:=h;have g0:(decide (x < -(2^63))||decide (x>=2^63))=false:=by simp;lia
  have g1:(items.isEmpty||(x==1))=false:=by rw[hne];simp;lia
  have g2:(decide (x<=0)||items.isEmpty)=false:=by rw[hne];simp;lia
  have hcap:¬ items.size*x>(2^63-1)/8:=by
   have:((sizeLine:Nat):Int)<=(2^63-1)/8:=by decide
   lia
  have hl2:Builtin.Tuple.tupleTooMany (items.size*x)=false:=by unfold Builtin.Tuple.tupleTooMany;simp;lia
  wp_walk
  rw[if_neg (by rw[g0];exact xAm)]
  wp_walk
  rw[if_neg (by rw[g1];exact xAm)]
  wp_walk
  rw[if_neg (by rw[g2];exact xAm)];dsimp only;rw[if_neg hcap,if_neg (by rw[hl2];exact xAm)];have hs:((List.replicate x.toNat items).foldl (·++·) #[]).size<=sizeLine:=by
   have e:∀(k:Nat) (acc:Array Value),((List.replicate k items).foldl (·++·) acc).size=acc.size+k*items.size:=by
    intro k
    induction k with
    |zero=>intro acc;simp
    |succ k ih=>intro acc;rw[xBi,List.foldl_cons,ih,Array.size_append,Nat.succ_mul];lia
   rw[e];have h4:(items.size:Int)*x=((x.toNat*items.size:Nat):Int):=by rw[Int.natCast_mul,Int.toNat_of_nonneg (by lia),Int.mul_comm]
   rw[h4]at hz;simp
   lia
  unfold Builtin.Tuple.tupleExact;refine xA0 (xAG ?_ hs);exact xA3 ⟨_,rfl,h⟩
section
variable {X:Cx}
noncomputable def zhy(K:PySem.W.Frag):R2:=λx y H Q=>Ex3 λ(a:Addr) (k:Int) (xs:List V)=>x = .ref a/\y = .int k/\SqT K H a xs/\xs≠[]/\0<=k/\k<2^63/\xs.length*k.toNat<=sizeLine/\
 (k=1->Q (.ref a) H)/\(k≠1->∀p,H p=none->Q (.ref p) (upd H p (.tup (List.replicate k.toNat xs).flatten)))
theorem zgO:OpR X (binaryOp .Mult) (zhy X.K):=by
 intro pins s σ H x y v u Q I rx ry h;obtain⟨a,k,xs,rfl,rfl,ha,hne,h0,h1,hz,q1,q2⟩:=h;cases rx;obtain⟨t,rfl⟩:=ry;obtain⟨its,r,⟨⟨cls,dd,data,sl⟩,ho,hc,n,hd⟩,z⟩:=I.tuple ha;simp only at hc hd;subst hc hd;have hl:=r.length;have hine:its.toArray.isEmpty=false:=by
  cases its with
  |nil=>cases r;exact absurd rfl hne
  |cons _ _=>rfl
 refine wpAny_binaryOp_repeat_ref (T:="tuple") (U:="int") (by decide) ⟨_,ho,rfl⟩ (λs'=>typeIs_int s' k t) yb8 F.fills_int_mul F.slot_int_rmul ydE F.slot_int_index.lookup
  (call_meets F.slot_int_rmul (typeIs_int s k t) F.entry_int_rmul (F.args_int_rmul_2 _ _) (ycJ k t a its.toArray n dd sl) ⟨ho,rfl,⟨_,ho,rfl⟩,?_⟩)
 by_cases e1:k=1
 ·subst e1;exact call_meets PySem.F.slot_tuple_mul ⟨_,ho,rfl⟩ PySem.F.entry_tuple_mul (PySem.F.args_tuple_mul_2 _ _) (ydR a its.toArray n dd sl t) ⟨ho,⟨.ref a,H,I,rfl,q1 rfl⟩⟩
 ·by_cases e0:k=0
  ·subst e0;refine call_meets PySem.F.slot_tuple_mul ⟨_,ho,rfl⟩ PySem.F.entry_tuple_mul (PySem.F.args_tuple_mul_2 _ _) (yd0 a its.toArray n dd sl t hine) ⟨ho,?_⟩;exact⟨.ref s.heap.objs.size,_,I.laid (t':=s.toks) (o:=.tup []) (λb ob q=>xA2 _ q) (xA5 _) ⟨xAR _,[],.nil,IsTup.new _ _⟩,rfl,q2 e1 _ (I.hok.fresh (xA5 _))⟩
  ·have hz2:(its.toArray.size:Int)*k<=(sizeLine:Int):=by
    rw[xA8,<-hl];have h4:(xs.length:Int)*k=((xs.length*k.toNat:Nat):Int):=by rw[Int.natCast_mul,Int.toNat_of_nonneg h0]
    rw[h4];lia
   refine call_meets PySem.F.slot_tuple_mul ⟨_,ho,rfl⟩ PySem.F.entry_tuple_mul (PySem.F.args_tuple_mul_2 _ _) (ydT a its.toArray n dd sl k t hine (by lia) h1 hz2) ⟨ho,?_⟩;have hnew:List.foldl (λx1 x2=>x1++x2) #[] (List.replicate k.toNat its.toArray)=(List.replicate k.toNat its).flatten.toArray:=by
    have:=ycy its k.toNat [];rw[List.nil_append]at this;exact this
   rw[hnew];refine⟨.ref s.heap.objs.size,_,I.laid (t':=s.toks) (o:=.tup (List.replicate k.toNat xs).flatten) (λb ob q=>xA2 _ q) (xA5 _) ⟨by rw[zeW,xBq];exact hz,_,r.rep k.toNat,IsTup.new _ _⟩,rfl,q2 e1 _ (I.hok.fresh (xA5 _))⟩
theorem zd3(l b:Addr)(items2:Array Value)(n n2:Nat)(dd dd2:Option Addr)(sl sl2:Array (Option Value)) :
  Meets (Builtin.«tuple.__add__» ⟨[.ref l,.ref b],[]⟩) (λ_ R s=>s.heap.get? l=some { cls:=.type "tuple",dict:=dd,data:=.seq #[] n,slots:=sl }/\s.heap.get? b=some { cls:=.type "tuple",dict:=dd2,data:=.seq items2 n2,slots:=sl2 }/\R (.ok (.ret (.ref b))) s) :=
 .of_wp λprog w A R s h=>by
  obtain⟨hp,g,d,tk,os⟩:=s;obtain⟨hl,hb,h⟩:=h;have hsub:isSubtype (.type "tuple") (.type "tuple")=pure true:=by rw[isSubtype_type];kernel_rfl
  wp_walk
  exact⟨_,rfl,h⟩
noncomputable def zgR(K:PySem.W.Frag):R2:=λx y H Q=>Ex4 λ(a b:Addr) (xs ys:List V)=>x = .ref a/\y = .ref b/\SqT K H a xs/\SqT K H b ys/\xs.length+ys.length<=sizeLine/\
 (xs=[]->Q (.ref b) H)/\(xs≠[]->ys=[]->Q (.ref a) H)/\(xs≠[]->ys≠[]->∀p,H p=none->Q (.ref p) (upd H p (.tup (xs++ys))))
theorem zcA:OpR X (binaryOp .Add) (zgR X.K):=by
 intro pins s σ H x y v u Q I rx ry h;obtain⟨a,b,xs,ys,rfl,rfl,ha,hb,hz,q0,q1,q2⟩:=h;by_cases hx:xs=[]
 ·subst hx;cases rx;cases ry;obtain⟨its,r1,⟨⟨cls,dd,data,sl⟩,ho,hc,n,hd⟩,_⟩:=I.tuple ha;obtain⟨its2,r2,⟨⟨cls2,dd2,data2,sl2⟩,ho2,hc2,n2,hd2⟩,_⟩:=I.tuple hb;simp only at hc hd hc2 hd2;subst hc hd hc2 hd2;cases r1;exact concat_meets ⟨_,ho,rfl⟩ ⟨_,ho2,rfl⟩ noFill_tuple_add seq_tuple_add PySem.F.slot_tuple_add PySem.F.entry_tuple_add (PySem.F.args_tuple_add_2 _ _) (zd3 a b its2.toArray n n2 dd dd2 sl sl2) ⟨ho,ho2,⟨.ref b,H,I,rfl,q0 rfl⟩⟩
 ·exact ygU pins s σ H _ _ v u Q I rx ry ⟨a,b,xs,ys,rfl,rfl,ha,hb,hx,hz,q1 hx,q2 hx⟩
end
end L2
end
section
namespace L2
open PySem PySem.Spec PyProof.Rows
end L2
end
section
namespace L2
open PySem PySem.Spec PyProof.Rows
theorem zbT:∀ {ns:List Int} {us:List Value},Vals (ns.map V.int) us->IntsAre us ns
 | [],[],_=>.nil
 | [],_::_,r=>by cases r
 |_::_,[],r=>by cases r
 |n::ns,u::us,.cons r t=>by
  obtain⟨tk,rfl⟩:=r;exact .cons n tk (zbT t)
theorem ya1:∀ {us:List Value} {ns:List Int},IntsAre us ns->Vals (ns.map V.int) us
 |_,_,.nil=>.nil
 |_,_,.cons n t h=>.cons ⟨t,rfl⟩ (ya1 h)
section
variable {X:Cx}
noncomputable def zg0(K:PySem.W.Frag):List V->Hp->VK->Prop:=λvs H Q=>Ex2 λ(a:Addr) (ns:List Int)=>vs=[.ref a]/\SqL K H a (ns.map V.int)/\ns.length<64/\
 ∀(l:Addr) (ns':List Int),H l=none->ns'.Perm ns->ns'.Pairwise (·<=·)->Q (.ref l) (upd H l (.lst (ns'.map V.int)))
theorem zdS:zbo X (.builtin "sorted") (zg0 X.K):=by
 intro pins s σ H xs us Q I r h;obtain⟨a,ns,rfl,ha,hl,q⟩:=h;obtain⟨u,rfl,rx⟩:=ybG r;cases rx;obtain⟨its,r1,p1,z1⟩:=I.list ha;have hlen:=r1.length;rw[xA1]at hlen z1;refine sorted_ints p1.isList (zbT r1) (by lia) λout ns' a1 a2 a3=>?_
 obtain⟨e,he⟩:=sortedAll_at s.heap its out;have r2:Vals (ns'.map V.int) out.toList:=ya1 a1;refine⟨.ref (s.heap.objs.size+1),_,I.laid (a:=s.heap.objs.size+1) (t':=s.toks) (o:=.lst (ns'.map V.int)) (λb ob e=>sortedAll_old e) (Nat.le_succ _) ⟨?_,out.toList,e,r2,?_⟩,rfl,q _ ns' (I.hok.fresh (Nat.le_succ _)) a2 a3⟩
 ·rw[xA1,a2.length_eq];exact z1
 ·rw[he]
end
end L2
end
section
namespace L2
open PySem PyProof.Rows
noncomputable def Eqv(K:PySem.W.Frag)(H:Hp):Nat->V->V->Prop
 |0,_,_=>False
 |n+1,v,w=>(∃i:Int,v = .int i/\w = .int i)\/(v = .non/\w = .non)\/Ex4 λ(a b:Addr) (xs ys:List V)=>v = .ref a/\w = .ref b/\SqT K H a xs/\SqT K H b ys/\xs.length=ys.length/\xs.length<=500/\∀(i:Nat) x y,xs[i]?=some x->ys[i]?=some y->Eqv K H n x y
section
variable {X:Cx}
theorem yaG(h:Vals xs us){i:Nat}(hi:i<us.toArray.size):∃x,xs[i]?=some x/\RelV x us.toArray[i]:=by
 have hl:=h.length;rw[xA8]at hi;have hx:xs[i]?=some (xs[i]'(by lia)):=xAc (by lia);have hu:us[i]?=some (us[i]):=xAc hi;exact⟨_,hx,h.getR i _ _ hx hu⟩
theorem zdG(I:Inv X pins σ H s):∀(n:Nat) (A:Around) (x y:V) (v u:Value),A.units+n<cLine->Eqv X.K H n x y->RelV x v->RelV y u->SeqAt.EqAt A s v u true
 |0,_,_,_,_,_,_,h,_,_=>h.elim
 |n+1,A,x,y,v,u,hA,h,rx,ry=>by
  rcases h with⟨i,rfl,rfl⟩ |⟨rfl,rfl⟩ |⟨a,b,xs,ys,rfl,rfl,ha,hb,hl,_,hx⟩
  ·obtain⟨t1,rfl⟩:=rx;obtain⟨t2,rfl⟩:=ry;have:=SeqAt.EqAt.int_int (A:=A) (s:=s) i t1 i t2
   rwa [xBg]at this
  ·cases rx;cases ry;exact SeqAt.EqAt.same _
  ·cases rx;cases ry;by_cases c:a=b
   ·subst c;exact SeqAt.EqAt.same _
   ·obtain⟨us,r1,p1,z1⟩:=I.tuple ha;obtain⟨vs,r2,p2,z2⟩:=I.tuple hb;have l1:=r1.length;have l2:=r2.length;have e:=SeqAt.RcAt.tuples (A:=A) (e:=λ_=>true) p1 p2 (by lia) λj h1 h2=>by
     obtain⟨x1,e1,q1⟩:=yaG r1 h1;obtain⟨y1,e2,q2⟩:=yaG r2 h2;exact zdG I n A.in1 x1 y1 _ _ (by show A.units+1+n<cLine;lia) (hx j x1 y1 e1 e2) q1 q2
    have e2:((List.range (min us.toArray.size vs.toArray.size)).all (λ_=>true)&&us.toArray.size==vs.toArray.size)=true:=by simp;lia
    rw[e2]at e;exact SeqAt.EqAt.of_refs c e
noncomputable def rEqV(K:PySem.W.Frag)(neg:Bool):R2:=λx y H Q=>Ex3 λa b n=>x = .ref a/\y = .ref b/\n<=60/\Eqv K H n x y/\Q (.bl (!neg)) H
theorem zey{K:PySem.W.Frag}{n:Nat}(h:Eqv K H n (.ref a) (.ref b)):Ex2 λxs ys=>SqT K H a xs/\SqT K H b ys/\xs.length=ys.length/\∀(i:Nat) x y,xs[i]?=some x->ys[i]?=some y->Eqv K H (n-1) x y:=by
 cases n with
 |zero=>exact h.elim
 |succ n=>
  rcases h with⟨i,h,_⟩ |⟨h,_⟩ |⟨a',b',xs,ys,h1,h2,ha,hb,hl,_,hx⟩
  ·cases h
  ·cases h
  ·cases h1;cases h2;exact⟨xs,ys,ha,hb,hl,hx⟩
theorem op_eqV(hu:X.A.units+64<cLine):OpR X (compareOp .Eq) (rEqV X.K false):=by
 intro pins s σ H x y v u Q I rx ry h;obtain⟨a,b,n,rfl,rfl,hn,he,q⟩:=h;cases rx;cases ry;obtain⟨xs,ys,ha,hb,hl,hx⟩:=zey he;obtain⟨us,r1,p1,z1⟩:=I.tuple ha;obtain⟨vs,r2,p2,z2⟩:=I.tuple hb;have l1:=r1.length;have l2:=r2.length;refine SeqAt.RcAt.tuples (e:=λ_=>true) p1 p2 (by lia) (λj h1 h2=>?_) _ _ _ _ ?_
 ·obtain⟨x1,e1,q1⟩:=yaG r1 h1;obtain⟨y1,e2,q2⟩:=yaG r2 h2;exact zdG I (n-1) X.A.in1 x1 y1 _ _ (by show X.A.units+1+(n-1)<cLine;lia) (hx j x1 y1 e1 e2) q1 q2
 have e2:((List.range (min us.toArray.size vs.toArray.size)).all (λ_=>true)&&us.toArray.size==vs.toArray.size)=true:=by simp;lia
 rw[e2];exact⟨.bl _,H,I,rfl,q⟩
theorem yeB(hu:X.A.units+64<cLine):OpR X (compareOp .NotEq) (rEqV X.K true):=by
 intro pins s σ H x y v u Q I rx ry h;obtain⟨a,b,n,rfl,rfl,hn,he,q⟩:=h;cases rx;cases ry;obtain⟨xs,ys,ha,hb,hl,hx⟩:=zey he;obtain⟨us,r1,p1,z1⟩:=I.tuple ha;obtain⟨vs,r2,p2,z2⟩:=I.tuple hb;have l1:=r1.length;have l2:=r2.length;refine SeqAt.RcNeAt.tuples (e:=λ_=>true) p1 p2 (by lia) (λj h1 h2=>?_) _ _ _ _ ?_
 ·obtain⟨x1,e1,q1⟩:=yaG r1 h1;obtain⟨y1,e2,q2⟩:=yaG r2 h2;exact zdG I (n-1) X.A.in1 x1 y1 _ _ (by show X.A.units+1+(n-1)<cLine;lia) (hx j x1 y1 e1 e2) q1 q2
 have e2:((List.range (min us.toArray.size vs.toArray.size)).all (λ_=>true)&&us.toArray.size==vs.toArray.size)=true:=by simp;lia
 rw[e2];exact⟨.bl _,H,I,rfl,q⟩
end
end L2
end
section
namespace L2
open PySem PyProof.Rows
def Rise(xs:Array Nat):Prop:=xs.toList.Pairwise (· < ·)
theorem ycf{xs:Array Nat}(h:Rise xs){i j:Nat}(hij:i<j)(hj:j<xs.size):xs[i]'(by lia)<xs[j]:=by
 have:=List.pairwise_iff_getElem.mp h i j (by simpa using (by lia:i<xs.size)) (by simpa using hj) hij
 simpa using this
theorem yda{xs:Array Nat}(h:Rise xs)(j:Nat):∀(fuel lo hi:Nat),hi-lo<=fuel->lo<=hi->hi<=xs.size->
  (∀i (hi':i<xs.size),i<lo->xs[i]<j)->(∀i (hi':i<xs.size),hi<=i->j<=xs[i])->
  SetTable.below.go xs j fuel lo hi<=xs.size/\(∀i (hi':i<xs.size),i<SetTable.below.go xs j fuel lo hi->xs[i]<j)/\(∀i (hi':i<xs.size),SetTable.below.go xs j fuel lo hi<=i->j<=xs[i])
 |0,lo,hi,hf,hl,hs,h1,h2=>by
  have e:lo=hi:=by lia
  subst e;exact⟨hs,h1,h2⟩
 |fuel+1,lo,hi,hf,hl,hs,h1,h2=>by
  unfold SetTable.below.go;by_cases c:lo<hi
  ·rw[if_pos c];have hm:(lo+hi)/2<xs.size:=by lia
   have eg:xs.getD ((lo+hi)/2) j=xs[(lo+hi)/2]:=by simp[Array.getD,hm]
   dsimp only;rw[eg];by_cases d:xs[(lo+hi)/2]<j
   ·rw[if_pos d];refine yda h j fuel _ _ (by lia) (by lia) hs (λi hi' hlt=>?_) h2;by_cases e:i=(lo+hi)/2
    ·subst e;exact d
    ·exact Nat.lt_trans (ycf h (by lia) hm) d
   ·rw[if_neg d];refine yda h j fuel _ _ (by lia) (by lia) (by lia) h1 λi hi' hge=>?_
    by_cases e:i=(lo+hi)/2
    ·subst e;lia
    ·have:=ycf h (show(lo+hi)/2<i by lia) hi'
     lia
  ·rw[if_neg c];have e:lo=hi:=by lia
   subst e;exact⟨hs,h1,h2⟩
theorem yb1{xs:Array Nat}(h:Rise xs)(j:Nat):SetTable.below xs j<=xs.size/\(∀i (hi':i<xs.size),i<SetTable.below xs j->xs[i]<j)/\(∀i (hi':i<xs.size),SetTable.below xs j<=i->j<=xs[i]) :=
 yda h j xs.size 0 xs.size (by lia) (by lia) (xA5 _) (λi _ hi=>absurd hi (Nat.not_lt_zero _)) (λi hi' hge=>absurd hi' (by lia))
theorem yd2{xs:Array Nat}(h:Rise xs){j:Nat}(hn:xs[SetTable.below xs j]?≠some j):Rise (SetTable.insertAt xs (SetTable.below xs j) j):=by
 obtain⟨h1,h2,h3⟩:=yb1 h j;generalize SetTable.below xs j=r at *;unfold Rise;rw[SetTable.toList_insertAt];have hd:∀y∈xs.toList.drop r,j<y:=by
  intro y hy;obtain⟨i,hi,e⟩:=List.getElem_of_mem hy;rw[List.getElem_drop]at e;have hi2:r+i<xs.size:=by simp at hi;lia
  have e2:y=xs[r+i]:=by rw[<-e];simp
  have h4:=h3 (r+i) hi2 (by lia);have h5:r<xs.size:=by lia
  have h6:=h3 r h5 (xA5 _);have h7:xs[r]≠j:=λq=>hn (by rw[xAK h5,q])
  by_cases c:i=0
  ·subst c;rw[e2];simp only[Nat.add_zero];lia
  ·have:=ycf h (show r<r+i by lia) hi2;rw[e2];lia
 have ht:∀y∈xs.toList.take r,y<j:=by
  intro y hy;obtain⟨i,hi,e⟩:=List.getElem_of_mem hy;rw[List.getElem_take]at e;have hi2:i<xs.size:=by simp at hi;lia
  have e2:y=xs[i]:=by rw[<-e];simp
  rw[e2];exact h2 i hi2 (by simp at hi;lia)
 refine xAA.mpr ⟨xAO (List.take_sublist _ _) h,List.pairwise_cons.mpr ⟨hd,xAO (List.drop_sublist _ _) h⟩,λa ha b hb=>?_⟩;rcases xAa.mp hb with rfl|hb
 ·exact ht a ha
 ·exact Nat.lt_trans (ht a ha) (hd b hb)
theorem zdo{t:SetTable}{f:Nat->Int}{h:Int}:∀(fuel:Nat) (p:SetTable.Probe) {j:Nat} {d:Option Nat},(∀e,p.dummy=some e->t.slot e = .dummy)->SetTable.probe.go t f h fuel p=some (.empty j d)->t.slot j = .empty/\∀e,d=some e->t.slot e = .dummy
 |0,p,j,d,_,e=>by cases e
 |fuel+1,p,j,d,hp,e=>by
  unfold SetTable.probe.go at e;have adv:∀q:SetTable.Probe,(t.advance q).dummy=q.dummy:=λq=>by unfold SetTable.advance;split <;> rfl
  cases hs:t.slot p.j with
  |empty=>rw[hs]at e;cases e;exact⟨hs,hp⟩
  |dummy=>
   rw[hs]at e;refine zdo fuel _ (λx hx=>?_) e;rw[adv]at hx;cases hx;exact hs
  |live i=>
   rw[hs]at e;dsimp only at e;split at e
   ·cases e
   ·refine zdo fuel _ (λx hx=>?_) e;rw[adv]at hx;exact hp x hx
theorem zfc{t:SetTable}{h:Int}{j:Nat}{b:Bool}(e:t.freeSlot h=some (j,b)):∀i,t.slot j≠.live i:=by
 unfold SetTable.freeSlot at e;split at e
 ·rename_i j' d hm;obtain⟨h1,h2⟩:=zdo (t:=t) _ _ (λe he=>by cases he) hm;cases e;intro i;cases d with
  |none=>show t.slot j'≠_;rw[h1];exactλq=>nomatch q
  |some d=>show t.slot d≠_;rw[h2 d rfl];exactλq=>nomatch q
 ·cases e
theorem ze4{t:SetTable}{j:Nat}(h:∀i,t.slot j≠.live i):t.place[SetTable.below t.place j]?≠some j:=λe=>by
 refine h (SetTable.below t.place j) ?_;unfold SetTable.slot;dsimp only;rw[if_pos (by rw[e];exact xBg _)]
structure TabG(led:Bool)(t:SetTable):Prop where
 led:t.led=led
 rise:t.plain=true->Rise t.place
theorem TabG.standIn{led:Bool}(h:TabG led t)(n:Nat):TabG led (t.standIn n):=⟨h.led,λe=>by cases e⟩
theorem zgg{led:Bool}(h:TabG led t)(es:Array (Int×Value))(k:Int)(x:Value):TabG led (layNew t es k x).2.1:=by
 unfold layNew;split
 ·rename_i slot wasDummy he;dsimp only;have hp:TabG led (t.put slot).1:=by
   refine⟨h.led,λe=>?_⟩;exact yd2 (h.rise e) (ze4 (zfc he))
  unfold SetTable.orStandIn;split
  ·exact hp
  ·exact hp.standIn _
 ·exact h.standIn _
theorem zeO{led:Bool}(h:TabG led t)(es:Array (Int×Value))(n:Nat):TabG led (relayAll t es n).2.1:=by
 unfold relayAll;split
 ·rename_i t' order he;have ht:TabG led t':=by
   unfold SetTable.relaid SetTable.laid at he;simp only[Option.bind_eq_bind,Option.bind_eq_some_iff]at he;obtain⟨owner,_,he⟩:=he;cases he;refine⟨h.led,λ_=>?_⟩;unfold Rise;dsimp only;rw[xAJ,List.pairwise_filterMap];refine List.Pairwise.imp ?_ List.pairwise_lt_range;intro a b hab x hx y hy;cases h1:owner.getD a none with
   |none=>rw[h1]at hx;cases hx
   |some u=>
    cases h2:owner.getD b none with
    |none=>rw[h2]at hy;cases hy
    |some v=>rw[h1]at hx;rw[h2]at hy;cases hx;cases hy;exact hab
  dsimp only;split
  ·exact ht
  ·exact h.standIn _
 ·exact h.standIn _
section
variable {prog:Program} {w:World} {A:Around} {E:Value->Shared->Prop} {s:Shared}
abbrev zaG(w:World):Bool:=w.params.followText "set-order"
noncomputable def SetG(w:World)(prog:Program)(h:Heap)(a:Addr)(S:Int->Bool)(n:Nat):Prop :=
 Ex4 λo es ep t=>h.get? a=some o/\o.ExactSet/\o.data = .set es ep t/\ElemsOf (intKind prog w) es.toList/\(∀k,S k=true↔∃e∈es.toList,(intKind prog w).is k e.2=true)
  /\es.size<scanBound/\t.fits es.size=true/\es.size=n/\TabG (!zaG w) t
theorem zcD{h:Heap}{a:Addr}{o:Obj}{es:Array (Int×Value)}{ep:Nat}{t:SetTable}(ho:h.get? a=some o)(hd:o.data = .set es ep t)(es':Array (Int×Value))(t':SetTable) :
  (h.update a (Obj.putSet es' t')).get? a=some { o with data:=.set es' (ep+1) t' }:=by
 have:=xB6 (Obj.putSet es' t') ho (by rw[putSet_of es' t' hd];rfl);rw[putSet_of es' t' hd]at this;exact this
theorem zhV{S:Int->Bool}{n:Nat}{k:Int}{Q:Bool->Shared->Prop}(hS:SetG w prog s.heap a S n)(hroom:n+1<scanBound)
  (h:∀h' b,Heap.SameBut a s.heap h'->SetG w prog h' a (λk'=>S k'||decide (k'=k)) (if S k then n else n+1)->Q b { s with heap:=h' }) :
  wpAny (model prog w) A (setAddHashed a (.int k tk) ((intKind prog w).hash k)) Q E s:=by
 obtain⟨o,es,ep,t,ho,hex,hd,hel,hmem,hb,hf,hn,hG⟩:=hS;have hkey:(intKind prog w).is k (.int k tk)=true:=intKind_is _ _ _ _;have hsc:(Value.int k tk).scannable=true:=rfl;unfold setAddHashed setAddHashedIn;refine xB9 (xA0 (xAQ ho hd hf ?_));dsimp only;rw[byScan_of hsc hb hel,if_pos rfl];unfold setAddByScan;refine xA0 (xA0 (xBA (xA0 (wpAny_setScan_of hkey ho hd hf hel ?_))));cases hr:List.findIdx? (λe=>(intKind prog w).is k e.2) es.toList with
 |some j=>
  obtain⟨hj,hpj,_⟩:=List.findIdx?_eq_some_iff_getElem.mp hr;have hSk:S k=true:=(hmem k).mpr ⟨es.toList[j],xBB hj,hpj⟩;refine xA3 (xA3 ?_);have h1:=h s.heap false (Heap.SameBut.refl a s.heap) ⟨o,es,ep,t,ho,hex,hd,hel,λk'=>by
   rw[xBR,xBk,<-hmem k'];exact⟨λhk=>hk.elim id (λe=>e ▸ hSk),.inl⟩,hb,hf,by rw[hSk];exact hn,hG⟩
  exact h1
 |none=>
  have hSk:S k=false:=by
   cases hk:S k with
   |false=>rfl
   |true=>
    obtain⟨e,he,hp⟩:=(hmem k).mp hk;have:=List.findIdx?_eq_none_iff.mp hr e he;rw[hp]at this;cases this
  have hperm:=layNew_perm t es ((intKind prog w).hash k) (.int k tk);have hfits:=layNew_fits t es ((intKind prog w).hash k) (.int k tk);have hG1:=zgg hG es ((intKind prog w).hash k) (.int k tk);dsimp only;generalize layNew t es ((intKind prog w).hash k) (.int k tk)=L at hperm hfits hG1 ⊢;obtain⟨es1,t1,wasDummy,gave⟩:=L;dsimp only at hperm hfits hG1 ⊢;rw[xB1]at hperm;have hel1:ElemsOf (intKind prog w) es1.toList:=(hel.push hkey hsc).perm hperm;have hmem1:∀k',(S k'||decide (k'=k))=true↔∃e∈es1.toList,(intKind prog w).is k' e.2=true:=mem_push_iff hkey hmem hperm;have hsz1:es1.size=n+1:=by rw[<-xA4,hperm.length_eq,xAB,xA4,hn];rfl
  have hz:es1.size<=sizeLine:=fits_of_scanBound (by lia);have en:(if S k=true then n else n+1)=n+1:=by rw[hSk];rfl
  rw[en]at h;have fin:∀t2:SetTable,TabG (!zaG w) t2->t2.fits es1.size=true->wpAny (model prog w) A (storeSet a es1 t2 >>= λ_=>if (!wasDummy&&t2.tooFull)=true then
     (match (relayAll t2 es1 (SetTable.grown es1.size)).2.2 with|true=>rule "set.scan.the-table-gave-way"|false=>pure ()) >>= λ_=>storeSet a (relayAll t2 es1 (SetTable.grown es1.size)).1 (relayAll t2 es1 (SetTable.grown es1.size)).2.1 >>= λ_=>pure (some true)
    else pure (some true)) (λr s'=>∃h',s'={ s with heap:=h' }/\r=some true/\Heap.SameBut a s.heap h'/\SetG w prog h' a (λk'=>S k'||decide (k'=k)) (n+1)) E s:=by
   intro t2 g2 f2;refine xA0 (wpAny_storeSet_of ho hd ?_ hz);have o1:=zcD ho hd es1 t2;have b1:=xAZ s.heap a (Obj.putSet es1 t2);split
   ·have hp:=relayAll_perm t2 es1 (SetTable.grown es1.size);have hfr:=relayAll_fits t2 es1 (SetTable.grown es1.size);have g3:=zeO g2 es1 (SetTable.grown es1.size);generalize relayAll t2 es1 (SetTable.grown es1.size)=Rl at hp hfr g3 ⊢;obtain⟨es2,t3,gave2⟩:=Rl;dsimp only at hp hfr g3 ⊢;have hsz:es2.size=es1.size:=by rw[<-xA4,hp.length_eq,xA4]
    have rest:wpAny (model prog w) A (storeSet a es2 t3 >>= λ_=>pure (some true)) (λr s'=>∃h',s'={ s with heap:=h' }/\r=some true/\Heap.SameBut a s.heap h'/\SetG w prog h' a (λk'=>S k'||decide (k'=k)) (n+1)) E { s with heap:=s.heap.update a (Obj.putSet es1 t2) }:=by
     refine xA0 (wpAny_storeSet_of o1 rfl ?_ (by lia));exact xA3 ⟨_,rfl,rfl,b1.trans (xAZ _ a _),_,es2,_,t3,zcD o1 rfl es2 t3,hex,rfl,hel1.perm hp,λk'=>(hmem1 k').trans ⟨λ⟨e,he,q⟩=>⟨e,hp.mem_iff.mpr he,q⟩,λ⟨e,he,q⟩=>⟨e,hp.mem_iff.mp he,q⟩⟩,by lia,hfr,by lia,g3⟩
    cases gave2
    ·exact xA0 (xA3 rest)
    ·exact xA0 (xBA rest)
   ·exact xA3 ⟨_,rfl,rfl,b1,_,es1,_,t2,o1,hex,rfl,hel1,hmem1,by lia,f2,hsz1,g2⟩
  have hgw:∀(b:Bool) {s₁:Shared} {Q':Unit->Shared->Prop},Q' () s₁->wpAny (model prog w) A (match b with|true=>rule "set.scan.the-table-gave-way"|false=>pure ()) Q' E s₁ :=
   λb s₁ Q' hq=>by cases b <;> first|exact xA3 hq|exact xBA hq
  refine xA0 (hgw gave ?_);split
  ·refine xA0 ?_;rw[hashByValue_scannable 8 hsc];refine xA3 ?_;refine thn (fin t1 hG1 hfits) λr s' hq=>?_
   obtain⟨h',e1,e2,b,g⟩:=hq;subst e1;subst e2;exact xA3 (h h' true b g)
  ·refine xA0 (xA3 ?_);refine thn (fin t1 hG1 hfits) λr s' hq=>?_
   obtain⟨h',e1,e2,b,g⟩:=hq;subst e1;subst e2;exact xA3 (h h' true b g)
theorem SetG.at{S:Int->Bool}{n:Nat}(x:SetG w prog h a S n)(e:∀o,h.get? a=some o->h'.get? a=some o):SetG w prog h' a S n:=by
 obtain⟨o,es,ep,t,ho,r⟩:=x;exact⟨o,es,ep,t,e o ho,r⟩
theorem SetG.congr{S S':Int->Bool}{n n':Nat}(x:SetG w prog h a S n)(e:∀k,S k=S' k)(en:n=n'):SetG w prog h a S' n':=by
 have:S=S':=funext e;subst this;subst en;exact x
section
variable {R:Result->Shared->Prop} {I:Addr} {fp wr:List Addr} {G:Array GenState->Array GenState->Prop} {n:Nat} {P:Nat->Value->Prop} {St:Nat->Shared->Prop}
theorem zgF(W:WalksS prog w A.in1 I fp wr G n P St)(S:Addr)(hSf:S∉fp)(val:Nat->Int)(hval:∀i v,P i v->∃t,v = .int (val i) t)(hb:n+1<scanBound):∀(k i:Nat) (s:Shared),n-i=k->i<=n->St i s->
   SetG w prog s.heap S (λk'=>(firstMet val i).any (·==k')) (firstMet val i).length->
   (∀s',Moved (S::wr) G s s'->SetG w prog s'.heap S (λk'=>(firstMet val n).any (·==k')) (firstMet val n).length->R (.ok (.ret .none)) s')->
   codeAny (model prog w) A (.builtin "set.update.loop" ⟨[.ref S,.ref I],[]⟩) R s:=by
 have hSw:S∉wr:=λh=>hSf (W.sub _ h)
 have hsub:∀b∈wr,b∈S::wr:=λb hb=>xAb _ hb
 intro k
 induction k with
 |zero=>
  intro i s hk hi hst hS hR;obtain rfl:i=n:=by lia
  refine xBb F.entry_set_update_loop ?_;rw[xBa F.plain_set_update_loop _];show wpAny _ A.in1 (pyNext (.ref I) >>= _) _ _ s;refine xA0 (W.done s _ _ hst λs' hm=>?_);exact xA3 (hR s' (hm.mono hsub) (hS.at λo e=>hm.heap S o hSw e))
 |succ k ih=>
  intro i s hk hi hst hS hR;have hlt:i<n:=by lia
  refine xBb F.entry_set_update_loop ?_;rw[xBa F.plain_set_update_loop _];show wpAny _ A.in1 (pyNext (.ref I) >>= _) _ _ s;refine xA0 (W.item i s _ _ hlt hst λv s' hP hst' hm=>?_);obtain⟨t,rfl⟩:=hval i v hP;have hS':=hS.at (h':=s'.heap) λo e=>hm.heap S o hSw e
  show wpAny _ A.in1 (holding [Value.int (val i) t] (setAdd S (.int (val i) t)) >>= _) _ _ s';refine xA0 (xB9 ?_);unfold setAdd;refine xB9 (xA0 ((intKind prog w).pyHash (k:=val i) (intKind_is _ _ _ _) ?_));have hroom:(firstMet val i).length+1<scanBound:=by have:=firstMet_length_le val i;lia
  refine zhV (s:={ s' with toks:=s'.toks+1 }) hS' hroom λh' b hsb hS2=>?_
  have hSi:SetG w prog h' S (λk'=>(firstMet val (i+1)).any (·==k')) (firstMet val (i+1)).length:=hS2.congr (λk'=>by rw[firstMet_succ,step_any]) (by rw[firstMet_succ,step_length]);refine xA3 ⟨plainId_quiet F.plain_set_update_loop _,ih (i+1) _ (by lia) hlt (W.frame _ s' _ _ hst' (Nat.le_succ _) λb hb o e=>?_) hSi λs'' hm'' hS''=>?_⟩
  ·rw[hsb.2 b (λh:b=S=>hSf (by rw[<-h];exact hb))];exact e
  ·refine hR s'' (Moved.trans W.gtrans ((hm.mono hsub).then_heap (Nat.le_succ _) λb o hb e=>?_) hm'') hS'';rw[hsb.2 b (λh:b=S=>hb (by rw[h];exact xA7))];exact e
end
abbrev yan(w:World):Obj:={ cls:=.type "set",dict:=none,data:=.set #[] 0 (.fresh 0 0 (!zaG w)) }
theorem zei(e:h.get? a=some (yan w)):SetG w prog h a (λ_=>false) 0 :=
 ⟨_,#[],0,_,e,⟨rfl,rfl,rfl⟩,rfl,λe he=>by simp at he,λk=>by simp,by decide,by rfl,rfl,⟨rfl,λ_=>List.Pairwise.nil⟩⟩
theorem ydw(a:Value){Q₁:Value->Shared->Prop}(h:Q₁ (.ref s.heap.objs.size) { s with heap:=s.heap.push (yan w) }) :
  codeAny (model prog w) A (.call (.builtin "set.__new__") ⟨[.type "set",a],[]⟩) (wants Q₁ E) s:=by
 refine codeAny_of_tree ?_;show wpAny _ A.in1 (do checkBuiltinCall "set.__new__" ⟨[.type "set",a],[]⟩;again (.builtin "set.__new__" ⟨[.type "set",a],[]⟩)) _ _ s;refine xA0 (wpAny_of_eq (F.newCall_set_1 a) (xA3 ⟨plainId_quiet F.plain_set_new _,xBb F.entry_set_new ?_⟩));rw[xBa F.plain_set_new _];unfold Builtin.«set.__new__» Builtin.Frozenset.newClass;have hsub:=sub_set_self;obtain⟨hp,g,d,tk,os⟩:=s;dsimp only
 wp_walk
 refine xBL (xA3 ?_);dsimp only;simp only[newObj];refine xA0 (wpAny_alloc (xA3 ?_));exact xA3 h
set_option maxHeartbeats 8000000 in
theorem yeE{ns:List Int}(hh:A.handled=none)(hl:s.heap.IsList l items)(hi:IntsAre items.toList ns)(hb:items.size+1<scanBound)
  (h:∀(h':Heap) (tk:Nat),SetG w prog h' s.heap.objs.size (λk'=>(firstMet (λi=>ns.getD i 0) items.size).any (·==k')) (firstMet (λi=>ns.getD i 0) items.size).length->
   (∀b o,s.heap.get? b=some o->h'.get? b=some o)->Q (.ref s.heap.objs.size) { s with heap:=h',toks:=tk }) :
  wpAny (model prog w) A (call (.type "set") [.ref l]) Q E s:=by
 obtain⟨c,tl,hmro⟩:=F.called_set.mro;have hmade:=F.called_set.made;have hsub:=F.called_set.sub;refine wpAny_call (codeAny_of_tree ?_);show wpAny _ _ (callAny (.type "set") _) _ _ _;refine xA3 ⟨Code.quiet_builtin _ (by decide +kernel),xBb F.entry_type_call ?_⟩;rw[Around.under_plain (weight_type_call_type "set" [.ref l] []) rfl];have h1:=F.called_set.notType;have h2:=F.called_set.canCreate;have hct:=F.typeCall_set_1 (.ref l)
 repeat (any_goals (first|assumption|wp_step))
 refine codeAny_mono (ydw (.ref l) (E:=E) (Q₁:=λobj s₁=>obj = .ref s.heap.objs.size/\s₁={ s with heap:=s.heap.push (yan w) }) ⟨rfl,rfl⟩) λr s₁ hr=>?_
 cases r with
 |error e=>exact hr
 |ok fl=>
  cases fl with
  |ret obj=>
   obtain⟨rfl,rfl⟩:=hr;have hS:(s.heap.push (yan w)).get? s.heap.objs.size=some (yan w):=xA6 _ rfl;have hT:Shared.TypeIs { s with heap:=s.heap.push (yan w) } (.ref s.heap.objs.size) "set":=⟨_,hS,rfl⟩
   have hli:=F.called_set.init.lookup;have hbi:=F.called_set.init.bind (.ref s.heap.objs.size)
   repeat (any_goals (first|assumption|wp_step))
   refine codeAny_mono (codeAny_call_builtin (R:=wants (λr s₂=>r = .none/\Ex2 λh' tk=>s₂={ s with heap:=h',toks:=tk }/\
     SetG w prog h' s.heap.objs.size (λk'=>(firstMet (λi=>ns.getD i 0) items.size).any (·==k')) (firstMet (λi=>ns.getD i 0) items.size).length/\
     (∀b o,s.heap.get? b=some o->h'.get? b=some o)) E) F.called_set.init.plain F.entry_set_init (check_set_init_1 hT ?_)) λr₂ s₂ hr₂=>?_
   ·obtain⟨ol,hol,hcl,nl,hdl⟩:=hl;obtain⟨ocls,odict,odata,oslots⟩:=ol;simp only at hcl hdl;subst hcl;subst hdl;have hol':(s.heap.push (yan w)).get? l=some { cls:=.type "list",dict:=odict,data:=.seq items nl,slots:=oslots }:=xA2 _ hol;have hsls:=F.sub_list_set;have hslf:=F.sub_list_frozenset;have hne:(Value.type "list"==Value.type "dict")=false:=by decide
    have hl1:(s.heap.push (yan w)).IsList l items:=⟨_,hol',rfl,nl,rfl⟩
    unfold Builtin.«set.__init__» noKeywords Builtin.Frozenset.updateFrom;generalize hPI:pyIter=PI
    wp_walk
    subst hPI;refine wpAny_pyIter_list hl1 ?_;refine xA0 (wpAny_runValue ?_);have hlS:l<s.heap.objs.size:=xAe hol;have hneI:l≠(s.heap.push (yan w)).objs.size:=by rw[xAX];exact xAq (xBl hlS)
    have hSf:s.heap.objs.size∉[(s.heap.push (yan w)).objs.size,l]:=by
     rw[xAX];simp only[xAa,xAf,xB2,not_or];exact⟨xAq (Nat.lt_succ_self _),xBy hlS⟩
    refine zgF ((Walks.list (by simp[hh]) _ l hneI items).toS) s.heap.objs.size hSf (λi=>ns.getD i 0) (λi v hv=>IntsAre.int_at hi i v (by rw[xAV];exact hv)) hb (items.size-0) 0 _ (by lia) (xAR _)
     ⟨⟨_,xA6 _ rfl,rfl,rfl⟩,(hl1.push _)⟩ ((zei (xA2 _ hS)).congr (λ_=>rfl) rfl) λs' hm hS'=>?_
    obtain⟨h',g',d',tk',os'⟩:=s';obtain rfl:g'=s.gens:=hm.gens;obtain rfl:d'=s.drawn:=hm.drawn;obtain rfl:os'=s.os:=hm.os;show wpAny _ _ _ _ _ _;refine xA3 ?_;show wpAny _ _ (ret Value.none) _ _ _;refine xA3 ⟨rfl,h',tk',rfl,hS',λb o e=>?_⟩;have hb:=xAe e;refine hm.heap b o ?_ (xA2 _ (xA2 _ e));simp only[xAa,xAf,xB2,not_or];rw[xAX];exact⟨xAq hb,xAq (xBl hb)⟩
   ·cases r₂ with
    |error e=>exact hr₂
    |ok fl₂=>
     cases fl₂ with
     |ret r=>
      obtain⟨rfl,h',tk,rfl,hS',hk'⟩:=hr₂
      repeat (any_goals (first|assumption|wp_step))
      exact h _ _ hS' hk'
     |_=>exact hr₂.elim
  |_=>exact hr.elim
end
end L2
end
section
namespace L2
open PySem PyProof.Rows
theorem yaZ:Manifest.owners.lookup (String.ofList ['r','o','t','a','r','e','t','i','_','t','e','s'].reverse)=some Manifest.sig_set_iterator:=by kernel_rfl
theorem zak:Slot "set_iterator" "__next__" "set_iterator.__next__" :=
 .of (owner:="set_iterator") (n:="__next__") (by rw[typeLookup_type,xBG];kernel_rfl) (by decide +kernel) (by decide +kernel) (by decide +kernel)
  (by first|exact .inl (by decide +kernel)|exact .inr (by decide +kernel)) (by rw[isSubtype_type];kernel_rfl)
theorem yaQ:entryFor table "set_iterator.__next__"=some Builtin.«set_iterator.__next__»:=entryFor_of_tree (by kernel_rfl)
theorem yaK(a:Value):argsOk "set_iterator.__next__" ⟨[a],[]⟩:=by
 unfold argsOk;rw[signature?_of (id:="set_iterator.__next__") (n:=['_','_','t','x','e','n','_','_']) (o:=['r','o','t','a','r','e','t','i','_','t','e','s']) (by kernel_rfl) yaZ];kernel_rfl
theorem ycL:entryFor table "set.__iter__"=some Builtin.«frozenset.__iter__» :=
 entryFor_alias (id':="frozenset.__iter__") (by kernel_rfl) (by first|rfl|decide +kernel|(unfold String.splitOn;simp +decide [String.splitOnAux])) (by decide +kernel) (by kernel_rfl)
noncomputable def IsSI(h:Heap)(I S:Addr)(first:Value)(i n ep:Nat):Prop:=∃o,h.get? I=some o/\o.cls = .type "set_iterator"/\o.data = .fields #[first,rawInt i,.ref S,rawInt n,rawInt ep]
theorem IsSI.at{i n ep:Nat}(x:IsSI h I S first i n ep)(e:∀o,h.get? I=some o->h'.get? I=some o):IsSI h' I S first i n ep:=let ⟨o,ho,r⟩:=x;⟨o,e _ ho,r⟩
noncomputable def zb9(h:Heap)(S:Addr)(es:Array (Int×Value))(ep:Nat)(t:SetTable):Prop:=∃o,h.get? S=some o/\o.data = .set es ep t/\t.fits es.size=true
theorem zb9.at{ep:Nat}(x:zb9 h S es ep t)(e:∀o,h.get? S=some o->h'.get? S=some o):zb9 h' S es ep t:=let ⟨o,ho,r⟩:=x;⟨o,e _ ho,r⟩
section
variable {prog:Program} {w:World} {A:Around} {E:Value->Shared->Prop} {s:Shared}
theorem IsSI.typeIs{i n ep:Nat}(x:IsSI s.heap I S first i n ep):s.TypeIs (.ref I) "set_iterator":=let ⟨o,ho,hc,_⟩:=x;⟨o,ho,hc⟩
noncomputable def zfR(prog:Program)(w:World)(s:Shared)(S:Addr)(slot i ep:Nat)(r:Option (Value×Nat)):Prop:=∀(A:Around) (E:Value->Shared->Prop) (Q:Option (Value×Nat)->Shared->Prop),Q r s->wpAny (model prog w) A (setNext S slot i ep) Q E s
theorem zfO{slot i ep nx:Nat}{x:Value}(hit:IsSI s.heap I S (rawInt slot) i es.size ep)(hs:zb9 s.heap S es ep t)(hT:zfR prog w s S slot i ep (some (x,nx)))
  (hQ:∀h',IsSI h' I S (rawInt nx) (i+1) es.size ep->Heap.SameBut I s.heap h'->Q (some x) { s with heap:=h' }):wpAny (model prog w) A (pyNext (.ref I)) Q E s:=by
 obtain⟨o,ho,hc,hd⟩:=id hit;obtain⟨os,hos,hds,hf⟩:=id hs;unfold pyNext;refine xA0 (wpAny_attempt (xAW (name:=Str.ofString "__next__") hit.typeIs zak
  (xAN zak hit.typeIs yaQ ?_ (yaK _))))
 unfold Builtin.«set_iterator.__next__»;refine xA0 (wpAny_of_eq (a:=(Value.ref I,[])) rfl ?_)
 try dsimp only
 refine xA0 (wpAny_fieldsOf ho hd ?_);simp only[rawInt];refine xA0 (wpAny_setEntries_of hos hds hf ?_);refine xAI (λh=>absurd h (by simp)) (λ_=>?_);refine xA0 (hT _ _ _ ?_);dsimp only;refine xA0 (wpAny_setField ho hd (by simp) ?_);have h1:=xB6 (Obj.mapFields (λvs=>vs.setIfInBounds 0 (Value.int nx 0))) ho (Obj.isFreed_of_fields (xB4 hd _));refine xA0 (wpAny_setField h1 (xB4 hd _) (by simp) ?_);refine xA3 ⟨x,rfl,xA3 (hQ _ ?_ ((xAZ ..).trans (xAZ ..)))⟩;exact⟨_,xB6 _ h1 (Obj.isFreed_of_fields (xB4 (xB4 hd _) _)),(Obj.cls_mapFields ..).trans ((Obj.cls_mapFields ..).trans hc),by rw[xB4 (xB4 hd _)];simp[rawInt]⟩
theorem ze7{I:Addr}(hh:A.handled=none)(hQ:∀h' tk,(∀b o,s1.heap.get? b=some o->h'.get? b=some o)->Q none { s1 with heap:=h',toks:=tk }) :
  wpAny (model prog w) A.in1 (newExc (.type "StopIteration") [] >>= λe=>raiseNew e) (λfin s'=>∃v,fin=Fin.done (Flow.ret v)/\wpAny (model prog w) A (pure (some v)) Q E s')
   (λe s'=>wpAny (model prog w) A (do if (<-isInstance e (.type "StopIteration"))=true then pure none else throw e) Q E s') s1:=by
 refine xA0 ?_;simp only[newExc,newTuple];refine xA0 (xAG ?_ (by size_fits));refine xA0 (m:=firstArgMember _ _) (wpAny_of_eq (a:=Value.none) (by first|rfl|(simp only[firstArgMember];rfl)) ?_);refine xAG ?_ (by size_fits);simp only[raiseNew];refine xA0 (wpAny_handled ?_)
 first|rw[show A.in1.handled=none from hh]|rw[hh]
 refine xA0 (xA3 (wpAny_throw ?_));refine xA0 (wpAny_isInstance (T:="StopIteration") (b:=true) ⟨_,xA6 _ rfl,rfl⟩ isSubtype_stop ?_);exact xA3 (hQ _ _ λb o' e=>xA2 _ (xA2 _ e))
theorem ygC{slot i ep:Nat}(hh:A.handled=none)(hit:IsSI s.heap I S (rawInt slot) i es.size ep)(hs:zb9 s.heap S es ep t)(hT:zfR prog w s S slot i ep none)
  (hQ:∀h' tk,Heap.ExtBut I s.heap h'->Q none { s with heap:=h',toks:=tk }):wpAny (model prog w) A (pyNext (.ref I)) Q E s:=by
 obtain⟨o,ho,hc,hd⟩:=id hit;obtain⟨os,hos,hds,hf⟩:=id hs;unfold pyNext;refine xA0 (wpAny_attempt (xAW (name:=Str.ofString "__next__") hit.typeIs zak
  (xAN zak hit.typeIs yaQ ?_ (yaK _))))
 unfold Builtin.«set_iterator.__next__»;refine xA0 (wpAny_of_eq (a:=(Value.ref I,[])) rfl ?_)
 try dsimp only
 refine xA0 (wpAny_fieldsOf ho hd ?_);simp only[rawInt];refine xA0 (wpAny_setEntries_of hos hds hf ?_);refine xAI (λh=>absurd h (by simp)) (λ_=>?_);refine xA0 (hT _ _ _ ?_);dsimp only;refine xA0 (wpAny_setField ho hd (by simp) ?_);refine ze7 (I:=I) hh λh' tk k=>hQ h' tk λb o' hb e=>k b o' ((xB8 _ _ (Ne.symm hb)).trans e)
theorem zgH{i ep pl:Nat}{kx:Int×Value}{tk:Tok}(hit:IsSI s.heap I S (.ref T) i es.size ep)(hs:zb9 s.heap S es ep t)(ht:s.heap.IsTuple T places)
  (hp:places[i]?=some (.int pl tk)) (hx:es[pl]?=some kx)
  (hQ:∀h',IsSI h' I S (.ref T) (i+1) es.size ep->Heap.SameBut I s.heap h'->Q (some kx.2) { s with heap:=h' }):wpAny (model prog w) A (pyNext (.ref I)) Q E s:=by
 obtain⟨o,ho,hc,hd⟩:=id hit;obtain⟨os,hos,hds,hf⟩:=id hs;obtain⟨ot,hot,hct,nt,hdt⟩:=id ht;unfold pyNext;refine xA0 (wpAny_attempt (xAW (name:=Str.ofString "__next__") hit.typeIs zak
  (xAN zak hit.typeIs yaQ ?_ (yaK _))))
 unfold Builtin.«set_iterator.__next__»;refine xA0 (wpAny_of_eq (a:=(Value.ref I,[])) rfl ?_)
 try dsimp only
 refine xA0 (wpAny_fieldsOf ho hd ?_);simp only[rawInt];refine xA0 (wpAny_setEntries_of hos hds hf ?_);refine xAI (λh=>absurd h (by simp)) (λ_=>?_);unfold seqItems?;refine xA0 (xA0 (wpAny_load hot ?_));rw[hdt];refine xA3 ?_;dsimp only;rw[xAu,hp];dsimp only;unfold setNextDrawn;refine xA0 (xA0 (xAQ hos hds hf ?_));dsimp only;refine xAI (λh=>absurd h (by simp)) (λ_=>?_);rw[xAu,hx];obtain⟨k0,x⟩:=kx;refine xA3 ?_;refine xA0 (wpAny_setField ho hd (by simp) ?_);refine xA3 ⟨x,rfl,xA3 (hQ _ ?_ (xAZ ..))⟩;exact⟨_,xB6 _ ho (Obj.isFreed_of_fields (xB4 hd _)),(Obj.cls_mapFields ..).trans hc,by rw[xB4 hd];simp[rawInt]⟩
theorem yhs{i ep:Nat}(hh:A.handled=none)(hit:IsSI s.heap I S (.ref T) i es.size ep)(hs:zb9 s.heap S es ep t)(ht:s.heap.IsTuple T places)
  (hp:places[i]?=none) (hQ:∀h' tk,Heap.ExtBut I s.heap h'->Q none { s with heap:=h',toks:=tk }):wpAny (model prog w) A (pyNext (.ref I)) Q E s:=by
 obtain⟨o,ho,hc,hd⟩:=id hit;obtain⟨os,hos,hds,hf⟩:=id hs;obtain⟨ot,hot,hct,nt,hdt⟩:=id ht;unfold pyNext;refine xA0 (wpAny_attempt (xAW (name:=Str.ofString "__next__") hit.typeIs zak
  (xAN zak hit.typeIs yaQ ?_ (yaK _))))
 unfold Builtin.«set_iterator.__next__»;refine xA0 (wpAny_of_eq (a:=(Value.ref I,[])) rfl ?_)
 try dsimp only
 refine xA0 (wpAny_fieldsOf ho hd ?_);simp only[rawInt];refine xA0 (wpAny_setEntries_of hos hds hf ?_);refine xAI (λh=>absurd h (by simp)) (λ_=>?_);unfold seqItems?;refine xA0 (xA0 (wpAny_load hot ?_));rw[hdt];refine xA3 ?_;dsimp only;rw[xAu,hp];dsimp only;refine xA0 (wpAny_setField ho hd (by simp) ?_);have h1:=xB6 (Obj.mapFields (λvs=>vs.setIfInBounds 0 (Value.int 0 0))) ho (Obj.isFreed_of_fields (xB4 hd _));refine xA0 (wpAny_setField h1 (xB4 hd _) (by simp) ?_);refine ze7 (I:=I) hh λh' tk k=>hQ h' tk λb o' hb e=>k b o' ((xB8 _ _ (Ne.symm hb)).trans ((xB8 _ _ (Ne.symm hb)).trans e))
theorem zcU{ep:Nat}(hs:zb9 s.heap S es ep t)(hb:zaG w=true)(slot i:Nat):zfR prog w s S slot i ep (((pickOrder (w.params.setOrder S ep) es)[i]?).map λe=>(e.2,slot)):=by
 intro A E Q hQ;obtain⟨os,hos,hds,hf⟩:=id hs;unfold setNext setWalk setsByText;refine xA0 (xAQ hos hds hf ?_);dsimp only;refine xA0 (xA0 (xBL (xA3 ?_)));refine xAI (λ_=>?_) (λh=>absurd hb h);refine xAI (λh=>absurd h (by simp)) (λ_=>?_);refine xA0 (xA0 (xAQ hos hds hf ?_));dsimp only;refine xA0 (xA0 (xBL (xA3 ?_)));refine xAI (λ_=>?_) (λh=>absurd hb h);refine xA0 (xBL ?_);exact xA3 (xA3 hQ)
theorem ycD{ep:Nat}(hs:zb9 s.heap S es ep t)(hb:zaG w=false)(hl:t.led=true)(hp:t.plain=true\/es.size<=1)(slot i:Nat) :
  zfR prog w s S slot i ep (match es[SetTable.below t.place slot]?,t.place[SetTable.below t.place slot]? with|some (_,x),some j=>some (x,j+1)|_,_=>none):=by
 intro A E Q hQ;obtain⟨os,hos,hds,hf⟩:=id hs;unfold setNext setsByText;refine xA0 (xAQ hos hds hf ?_);dsimp only;refine xA0 (xA0 (xBL (xA3 ?_)));refine xAI (λh=>absurd (show zaG w=true from h) (by rw[hb];decide)) (λ_=>?_);refine xAI (λh=>?_) (λ_=>?_)
 ·have h':(!t.plain&&decide (es.size>1))=true:=h;simp only[xAw,Bool.not_eq_true',xBk]at h';rcases hp with hp|hp
  ·rw[hp]at h';exact absurd h'.1 (by decide)
  ·omega
 refine xA0 ?_;show wpAny _ _ (if (!t.led&&!es.isEmpty)=true then unsupported "set:maker-not-led" else pure ()) _ _ _;refine xAI (λh=>absurd h (by rw[hl];simp)) (λ_=>?_);refine xA3 ?_;exact xA3 hQ
end
end L2
end
section
namespace L2
open PySem PyProof.Rows
section
variable {prog:Program} {w:World} {A:Around} {E:Value->Shared->Prop} {s:Shared}
theorem zbX{α:Type}:∀(l:List α) (i:Nat) (h:i<l.length),(l[i]::l.eraseIdx i).Perm l
 | [],i,h=>absurd h (Nat.not_lt_zero _)
 |x::l,0,h=>List.Perm.refl _
 |x::l,i+1,h=>by
  show(l[i]'(by simpa using h)::x::l.eraseIdx i).Perm (x::l);exact(List.Perm.swap _ _ _).trans (List.Perm.cons _ (zbX l i (by simpa using h)))
theorem yfk{α:Type}(f:Nat->Nat):∀(n k:Nat) (l:List α) (out:Array α),l.length=n->(pickOrder.go f n k l out).toList.Perm (out.toList++l)
 |0,k,l,out,h=>by
  have:l=[]:=xBn.mp h;subst this;unfold pickOrder.go;rw[xBu]
 |n+1,k,l,out,h=>by
  have hi:f k%l.length<l.length:=xBh _ (by omega);unfold pickOrder.go;rw[xAc hi];dsimp only;have ih:=yfk f n (k+1) (l.eraseIdx (f k%l.length)) (out.push l[f k%l.length]) (by rw[List.length_eraseIdx_of_lt hi];omega);refine ih.trans ?_;rw[xB1,xBo];exact List.Perm.append_left _ (zbX _ _ hi)
theorem zbV{α:Type}(f:Nat->Nat)(xs:Array α):(pickOrder f xs).toList.Perm xs.toList:=by
 have:=yfk f xs.size 0 xs.toList #[] (by simp)
 simpa[pickOrder]using this
theorem zc7{src:Source}{n:Nat}{Q:Nat->Shared->Prop}(hn:n≠0)(h:∀x d',x<n->Q x { s with drawn:=d' }):wpAny M A (choose src n) Q E s:=λ_ _ _=>⟨hn,h _ _ (xBh _ (by omega))⟩
theorem ycr{α:Type}:∀(n:Nat) (xs:List α) (s:Shared) (Q:List α->Shared->Prop),xs.length=n->(∀r d',r.Perm xs->Q r { s with drawn:=d' })->wpAny M A (drawOrder n xs) Q E s
 |0,xs,s,Q,h,hQ=>by
  have:xs=[]:=xBn.mp h;subst this;unfold drawOrder;exact xA3 (hQ [] s.drawn .nil)
 |n+1,xs,s,Q,h,hQ=>by
  cases xs with
  |nil=>cases h
  |cons y ys=>
   unfold drawOrder;refine xA0 (zc7 (by simp) λi d' hi=>?_);rw[xAc hi];dsimp only;refine xA0 (ycr n _ _ _ (by rw[List.length_eraseIdx_of_lt hi];simp at h;simp;omega) λr d2 hr=>?_);exact xA3 (hQ _ d2 ((List.Perm.cons _ hr).trans (zbX _ _ hi)))
abbrev GE:Array GenState->Array GenState->Prop:=λa b=>b=a
theorem yb6:Slot "set_iterator" "__iter__" "set_iterator.__iter__" :=
 .of (owner:="set_iterator") (n:="__iter__") (by rw[typeLookup_type,xBG];kernel_rfl) (by decide +kernel) (by decide +kernel) (by decide +kernel)
  (by first|exact .inl (by decide +kernel)|exact .inr (by decide +kernel)) (by rw[isSubtype_type];kernel_rfl)
theorem ycK(a:Value):argsOk "set_iterator.__iter__" ⟨[a],[]⟩:=by
 unfold argsOk;rw[signature?_of (id:="set_iterator.__iter__") (n:=['_','_','r','e','t','i','_','_']) (o:=['r','o','t','a','r','e','t','i','_','t','e','s']) (by kernel_rfl) yaZ];kernel_rfl
theorem ydj:entryFor table "set_iterator.__iter__"=some Builtin.«dict_keyiterator.__iter__» :=
 entryFor_alias (id':="dict_keyiterator.__iter__") (by kernel_rfl) (by first|rfl|decide +kernel|(unfold String.splitOn;simp +decide [String.splitOnAux])) (by decide +kernel) (by kernel_rfl)
theorem ycE{i n ep:Nat}(hit:IsSI s.heap I S first i n ep)(h:Q (.ref I) s):wpAny (model prog w) A (pyIter (.ref I)) Q E s:=by
 refine wpAny_pyIter_slot hit.typeIs yb6 (xAN yb6 hit.typeIs ydj ?_ (ycK _));show wpAny _ _ (ret (.ref I)) _ _ s;exact xA3 ⟨_,rfl,"set_iterator",_,hit.typeIs,zak.lookup,h⟩
theorem zfG{I S:Addr}{es:Array (Int×Value)}{ep:Nat}{t:SetTable}(hh:A.handled=none)(hne:S≠I)(hb:zaG w=true) :
  WalksS prog w A I [I,S] [I] GE es.size (λi v=>((pickOrder (w.params.setOrder S ep) es).toList.map (·.2))[i]?=some v) (λi s=>IsSI s.heap I S (rawInt ((0:Nat):Int)) i es.size ep/\zb9 s.heap S es ep t) where
 sub:=λb hb=>by simp at hb;simp[hb]
 grefl:=λ_=>rfl
 gtrans:=λ_ _ _ h1 h2=>h2.trans h1
 frame:=λi s h' tk st _ hk=>⟨st.1.at λo e=>hk I (by simp) o e,st.2.at λo e=>hk S (by simp) o e⟩
 item:=λi s Q E hi st hQ=>by
  have hl:(pickOrder (w.params.setOrder S ep) es).size=es.size:=by rw[<-xA4,(zbV _ es).length_eq,xA4]
  have hx:(pickOrder (w.params.setOrder S ep) es)[i]?=some (pickOrder (w.params.setOrder S ep) es)[i]:=xAK (by omega);have hT:=zcU (prog:=prog) st.2 hb 0 i;rw[hx]at hT;refine zfO st.1 st.2 hT λh' hit' hs'=>?_
  refine hQ _ _ ?_ ⟨hit',st.2.at λo e=>?_⟩ ⟨λb o hb e=>?_,rfl,rfl,rfl,xA5 _⟩
  ·rw[xAd,xAV,hx];rfl
  ·exact hs'.extBut S o hne e
  ·exact hs'.extBut b o (λq=>hb (by simp[q])) e
 done:=λs Q E st hQ=>by
  have hl:(pickOrder (w.params.setOrder S ep) es).size=es.size:=by rw[<-xA4,(zbV _ es).length_eq,xA4]
  have hx:(pickOrder (w.params.setOrder S ep) es)[es.size]?=none:=Array.getElem?_eq_none (by omega);have hT:=zcU (prog:=prog) st.2 hb 0 es.size;rw[hx]at hT;exact wpAny_with_toks (xA5 s.toks) (ygC hh st.1 st.2 hT λh' tk k htk=>hQ _ ⟨λb o hb e=>k b o (λq=>hb (by simp[q])) e,rfl,rfl,rfl,htk⟩)
 self:=λi s Q E st h=>ycE st.1 h
def zb7(place:Array Nat):Nat->Nat
 |0=>0
 |i+1=>place.getD i 0+1
theorem yb3{place:Array Nat}(h:Rise place):∀i,i<=place.size->SetTable.below place (zb7 place i)=i
 |0,_=>by
  obtain⟨h1,h2,h3⟩:=yb1 h 0;show SetTable.below place 0=0;rcases xBe (SetTable.below place 0) with c|c
  ·exact c
  ·exact absurd (h2 0 (by omega) c) (Nat.not_lt_zero _)
 |i+1,hi=>by
  have e:zb7 place (i+1)=place[i]+1:=by show place.getD i 0+1=_;simp[Array.getD,show i<place.size by omega]
  obtain⟨h1,h2,h3⟩:=yb1 h (zb7 place (i+1));rw[e]at h1 h2 h3 ⊢;generalize SetTable.below place (place[i]+1)=r at *;rcases Nat.lt_trichotomy r (i+1) with c|c|c
  ·have:=h3 i (by omega) (by omega);omega
  ·exact c
  ·have h4:=h2 (i+1) (by omega) c;have h5:=ycf h (show i<i+1 by omega) (by omega);omega
theorem yeL{I S:Addr}{es:Array (Int×Value)}{ep:Nat}{t:SetTable}(hh:A.handled=none)(hne:S≠I)(hb:zaG w=false)(hl:t.led=true)(hp:t.plain=true\/es.size<=1)(hr:Rise t.place)(hz:t.place.size=es.size) :
  WalksS prog w A I [I,S] [I] GE es.size (λi v=>(es.toList.map (·.2))[i]?=some v) (λi s=>IsSI s.heap I S (rawInt (zb7 t.place i:Nat)) i es.size ep/\zb9 s.heap S es ep t) where
 sub:=λb hb=>by simp at hb;simp[hb]
 grefl:=λ_=>rfl
 gtrans:=λ_ _ _ h1 h2=>h2.trans h1
 frame:=λi s h' tk st _ hk=>⟨st.1.at λo e=>hk I (by simp) o e,st.2.at λo e=>hk S (by simp) o e⟩
 item:=λi s Q E hi st hQ=>by
  have hT:=ycD (prog:=prog) st.2 hb hl hp (zb7 t.place i) i;rw[yb3 hr i (by omega),xAK hi,xAK (show i<t.place.size by omega)]at hT;refine zfO (nx:=zb7 t.place (i+1)) (x:=es[i].2) st.1 st.2 ?_ λh' hit' hs'=>?_
  ·have e:zb7 t.place (i+1)=t.place[i]+1:=by show t.place.getD i 0+1=_;simp[Array.getD,show i<t.place.size by omega]
   rw[e];exact hT
  refine hQ _ _ ?_ ⟨hit',st.2.at λo e=>?_⟩ ⟨λb o hb e=>?_,rfl,rfl,rfl,xA5 _⟩
  ·rw[xAd,xAV,xAK hi];rfl
  ·exact hs'.extBut S o hne e
  ·exact hs'.extBut b o (λq=>hb (by simp[q])) e
 done:=λs Q E st hQ=>by
  have hT:=ycD (prog:=prog) st.2 hb hl hp (zb7 t.place es.size) es.size;rw[yb3 hr es.size (by omega),Array.getElem?_eq_none (xA5 _)]at hT;exact wpAny_with_toks (xA5 s.toks) (ygC hh st.1 st.2 hT λh' tk k htk=>hQ _ ⟨λb o hb e=>k b o (λq=>hb (by simp[q])) e,rfl,rfl,rfl,htk⟩)
 self:=λi s Q E st h=>ycE st.1 h
theorem zeI{I S T:Addr}{es:Array (Int×Value)}{ep:Nat}{t:SetTable}{ps:List Nat}(hh:A.handled=none)(hne:S≠I)(hneT:T≠I)(hps:ps.Perm (List.range es.size)) :
  WalksS prog w A I [I,S,T] [I] GE es.size (λi v=>(ps.map λp=>(es.getD p (0,.none)).2)[i]?=some v) (λi s=>IsSI s.heap I S (.ref T) i es.size ep/\zb9 s.heap S es ep t/\s.heap.IsTuple T (ps.map λ(p:Nat)=>rawInt p).toArray) where
 sub:=λb hb=>by simp at hb;simp[hb]
 grefl:=λ_=>rfl
 gtrans:=λ_ _ _ h1 h2=>h2.trans h1
 frame:=λi s h' tk st _ hk=>⟨st.1.at λo e=>hk I (by simp) o e,st.2.1.at λo e=>hk S (by simp) o e,st.2.2.at λo e=>hk T (by simp) o e⟩
 item:=λi s Q E hi st hQ=>by
  have hl:ps.length=es.size:=by rw[hps.length_eq,xAy]
  have hm:∀p∈ps,p<es.size:=λp hp=>xAt.mp (hps.mem_iff.mp hp)
  have hpi:ps[i]'(by omega)<es.size:=hm _ (xBB _);refine zgH (pl:=ps[i]'(by omega)) (kx:=es[ps[i]'(by omega)]) (tk:=0) st.1 st.2.1 st.2.2 ?_ (xAK hpi) λh' hit' hs'=>?_
  ·rw[List.getElem?_toArray,xAd,xAc (show i<ps.length by omega)];rfl
  refine hQ _ _ ?_ ⟨hit',st.2.1.at λo e=>hs'.extBut S o hne e,st.2.2.at λo e=>hs'.extBut T o hneT e⟩ ⟨λb o hb e=>hs'.extBut b o (λq=>hb (by simp[q])) e,rfl,rfl,rfl,xA5 _⟩;rw[xAd,xAc (show i<ps.length by omega)];simp[Array.getD,hpi]
 done:=λs Q E st hQ=>by
  have hl:ps.length=es.size:=by rw[hps.length_eq,xAy]
  exact wpAny_with_toks (xA5 s.toks) (yhs hh st.1 st.2.1 st.2.2 (by rw[List.getElem?_toArray,List.getElem?_eq_none (by simp;omega)]) λh' tk k htk=>hQ _ ⟨λb o hb e=>k b o (λq=>hb (by simp[q])) e,rfl,rfl,rfl,htk⟩)
 self:=λi s Q E st h=>ycE st.1 h
theorem zeH{es:Array (Int×Value)}{ps:List Nat}(hps:ps.Perm (List.range es.size)):(ps.map λp=>(es.getD p (0,.none)).2).Perm (es.toList.map (·.2)):=by
 refine(hps.map _).trans ?_;have e:(List.range es.size).map (λp=>(es.getD p (0,Value.none)).2)=es.toList.map (·.2):=by
  apply List.ext_getElem
  ·simp
  ·intro i h1 h2;simp at h1;simp[Array.getD,h1]
 rw[e]
noncomputable def yhN(prog:Program)(w:World)(S:Addr)(es:Array (Int×Value))(s0 s:Shared)(I:Addr):Prop :=
 Ex3 λ(vs:List Value) (fp:List Addr) (St:Nat->Shared->Prop)=>vs.Perm (es.toList.map (·.2))/\(∀A:Around,A.handled=none->WalksS prog w A I fp [I] GE es.size (λi v=>vs[i]?=some v) St)/\St 0 s/\(∀b∈fp,b<s.heap.objs.size)/\I∈fp/\s.TypeIs (.ref I) "set_iterator"/\
  (∀b o,s0.heap.get? b=some o->s.heap.get? b=some o)/\s0.heap.objs.size<=I/\s.gens=s0.gens/\s.os=s0.os/\s0.toks<=s.toks/\∀b∈fp,b=S\/s0.heap.objs.size<=b
theorem zeL{xs:Array Nat}(h:xs.size<=1):Rise xs:=by
 unfold Rise;rw[<-xA4]at h
 match xs.toList,h with
 | [],_=>exact .nil
 | [x],_=>exact List.pairwise_singleton _ _
theorem ygd{ep:Nat}(ho:s.heap.get? S=some o)(hc:o.cls = .type "set")(hd:o.data = .set es ep t)(hf:t.fits es.size=true)(hb:es.size<scanBound)(hG:TabG (!zaG w) t)
  (hQ:∀I s',yhN prog w S es s s' I->Q (.ref I) s'):wpAny (model prog w) A (pyIter (.ref S)) Q E s:=by
 have hT:s.TypeIs (.ref S) "set":=⟨o,ho,hc⟩
 have hSlt:=xAe ho;have hz:t.place.size=es.size:=by
  have:=hf;unfold SetTable.fits at this;simp only[xAw,beq_iff_eq]at this;exact this.1
 refine wpAny_pyIter_slot hT F.slot_set_iter (xAN F.slot_set_iter hT ycL ?_ (F.args_set_iter_1 _));unfold Builtin.«frozenset.__iter__» Builtin.Frozenset.slot0 Builtin.Frozenset.sizeOf;refine xA0 (wpAny_of_eq (a:=S) rfl ?_);refine xA0 (xA0 (wpAny_setEntries_of ho hd hf (xA3 ?_)));unfold setDrawn setsByText;refine xA0 (xA0 (xAQ ho hd hf ?_));dsimp only;refine xA0 (xA0 (xBL (xA3 (xA3 ?_))));refine xAI (λh=>?_) (λh=>?_)
 ·have h':(!zaG w&&(!t.plain&&decide (es.size>1)))=true:=h;refine xA0 (ycr _ _ _ _ xAy λps d' hps=>?_);have hlen:ps.length=es.size:=by rw[hps.length_eq,xAy]
  refine xA0 (wpAny_newTuple ?_ (by rw[xA1,hlen];exact fits_of_scanBound hb));have o1:(s.heap.push { cls:=.type "tuple",data:=.seq (ps.map λ(p:Nat)=>rawInt p).toArray }).get? S=some o:=xA2 _ ho;unfold setEpoch;refine xA0 (xA0 (xAQ o1 hd hf (xA3 ?_)));unfold newFields;refine xA0 (xAG ?_ (by size_fits));refine xA3 ⟨_,rfl,"set_iterator",_,⟨_,xA6 _ rfl,rfl⟩,zak.lookup,hQ _ _ ?_⟩;have hI:(s.heap.push { cls:=.type "tuple",data:=.seq (ps.map λ(p:Nat)=>rawInt p).toArray }).objs.size=s.heap.objs.size+1:=xAX _ _;have e2:∀b o',s.heap.get? b=some o'->((s.heap.push { cls:=.type "tuple",data:=.seq (ps.map λ(p:Nat)=>rawInt p).toArray }).push { cls:=.type "set_iterator",data:=.fields #[.ref s.heap.objs.size,rawInt 0,.ref S,rawInt es.size,rawInt ep] }).get? b=some o':=λb o' e=>xA2 _ (xA2 _ e)
  refine⟨_,[(s.heap.push { cls:=.type "tuple",data:=.seq (ps.map λ(p:Nat)=>rawInt p).toArray }).objs.size,S,s.heap.objs.size],_,zeH hps,λA hh=>zeI (t:=t) (ep:=ep) hh ?_ ?_ hps,⟨⟨_,xA6 _ rfl,rfl,rfl⟩,⟨o,e2 S o ho,hd,hf⟩,⟨_,xA2 _ (xA6 _ rfl),rfl,0,rfl⟩⟩,?_,by simp,⟨_,xA6 _ rfl,rfl⟩,e2,?_,rfl,rfl,xA5 _,?_⟩
  ·rw[hI];exact xAq (xBl hSlt)
  ·rw[hI];exact xAq (Nat.lt_succ_self _)
  ·intro b hb;simp only[xAa,xAf,xB2]at hb;show b<((s.heap.push _).push _).objs.size;rw[xAX,hI];rcases hb with rfl|rfl|rfl
   ·rw[hI];exact Nat.lt_succ_self _
   ·exact xBl (xBl hSlt)
   ·exact xBl (Nat.lt_succ_self _)
  ·show s.heap.objs.size<=(s.heap.push _).objs.size;rw[hI];exact Nat.le_succ _
  ·intro b hb;simp only[xAa,xAf,xB2]at hb;rcases hb with rfl|rfl|rfl
   ·right;rw[hI];exact Nat.le_succ _
   ·exact .inl rfl
   ·exact .inr (xA5 _)
 ·have h':¬ (!zaG w&&(!t.plain&&decide (es.size>1)))=true:=h;refine xA0 (xA3 ?_);unfold setEpoch;refine xA0 (xA0 (xAQ ho hd hf (xA3 ?_)));unfold newFields;refine xA0 (xAG ?_ (by size_fits));refine xA3 ⟨_,rfl,"set_iterator",_,⟨_,xA6 _ rfl,rfl⟩,zak.lookup,hQ _ _ ?_⟩;have e2:∀b o',s.heap.get? b=some o'->(s.heap.push { cls:=.type "set_iterator",data:=.fields #[rawInt 0,rawInt 0,.ref S,rawInt es.size,rawInt ep] }).get? b=some o':=λb o' e=>xA2 _ e
  have hin:∀b∈[s.heap.objs.size,S],b<(s.heap.push { cls:=.type "set_iterator",data:=.fields #[rawInt 0,rawInt 0,.ref S,rawInt es.size,rawInt ep] }).objs.size:=by
   intro b hb;simp only[xAa,xAf,xB2]at hb;rw[xAX];rcases hb with rfl|rfl
   ·exact Nat.lt_succ_self _
   ·exact xBl hSlt
  have hin2:∀b∈[s.heap.objs.size,S],b=S\/s.heap.objs.size<=b:=by
   intro b hb;simp only[xAa,xAf,xB2]at hb;rcases hb with rfl|rfl
   ·exact .inr (xA5 _)
   ·exact .inl rfl
  by_cases hbt:zaG w=true
  ·exact⟨_,[s.heap.objs.size,S],_,(zbV (w.params.setOrder S ep) es).map _,λA hh=>zfG (t:=t) (ep:=ep) hh (xAq hSlt) hbt,⟨⟨_,xA6 _ rfl,rfl,rfl⟩,⟨o,e2 S o ho,hd,hf⟩⟩,hin,by simp,⟨_,xA6 _ rfl,rfl⟩,e2,xA5 _,rfl,rfl,xA5 _,hin2⟩
  ·have hbf:zaG w=false:=by simpa using hbt
   have hled:t.led=true:=by rw[hG.led,hbf];rfl
   have hp:t.plain=true\/es.size<=1:=by
    rw[hbf]at h';cases hpl:t.plain
    ·rw[hpl]at h';simp at h';exact .inr h'
    ·exact .inl rfl
   have hr:Rise t.place:=by
    rcases hp with hp|hp
    ·exact hG.rise hp
    ·exact zeL (by omega)
   exact⟨_,[s.heap.objs.size,S],_,List.Perm.refl _,λA hh=>yeL (t:=t) (ep:=ep) hh (xAq hSlt) hbf hled hp hr hz,⟨⟨_,xA6 _ rfl,rfl,rfl⟩,⟨o,e2 S o ho,hd,hf⟩⟩,hin,by simp,⟨_,xA6 _ rfl,rfl⟩,e2,xA5 _,rfl,rfl,xA5 _,hin2⟩
end
end L2
end
section
namespace L2
open PySem PyProof.Rows
theorem ydM:typeLookup (.type "set") "__len__"=pure (some (.builtin "set.__len__")):=by rw[typeLookup_type,xBG];kernel_rfl
section
variable {prog:Program} {w:World} {A:Around} {E:Value->Shared->Prop} {s:Shared}
structure Left(s s':Shared):Prop where
 heap:∀b o,s.heap.get? b=some o->s'.heap.get? b=some o
 gens:s'.gens=s.gens
 os:s'.os=s.os
 toks:s.toks<=s'.toks
 size:s.heap.objs.size<=s'.heap.objs.size
theorem zga{n:Nat}(hn:vs.length=n)(h:ItemsOf (λi v=>vs[i]?=some v) acc n):acc.toList=vs:=by
 refine List.ext_getElem? λi=>?_
 by_cases c:i<n
 ·have h1:acc[i]?=some (acc[i]'(by rw[h.1];exact c)):=xAK _;rw[xAV,h1];exact(h.2 i _ h1).symm
 ·rw[xAV,Array.getElem?_eq_none (by rw[h.1];lia),List.getElem?_eq_none (by lia)]
theorem ycA{ep:Nat}(hh:A.handled=none)(ho:s.heap.get? S=some o)(hc:o.cls = .type "set")(hd:o.data = .set es ep t)(hf:t.fits es.size=true)(hb:es.size<scanBound)(hG:TabG (!zaG w) t)
  (hQ:∀vs s',vs.Perm (es.toList.map (·.2))->Left s s'->Q vs s'):wpAny (model prog w) A (collect (.ref S)) Q E s:=by
 have hSlt:=xAe ho;unfold collect;refine xA0 (wpAny_runValue (xBb F.entry_proto_collect ?_));rw[xBa F.plain_proto_collect _];show wpAny _ A.in1 (newList [] >>= λl=>again (.builtin "list.__iadd__" ⟨[l,.ref S],[]⟩)) _ _ s;refine xA0 (xAG ?_);refine xA3 ⟨plainId_quiet F.plain_list_iadd _,xBb F.entry_list_iadd ?_⟩;rw[xBa F.plain_list_iadd _];have ho1:(s.heap.push { cls:=.type "list",data:=.seq ([]:List Value).toArray }).get? S=some o:=xA2 _ ho;have hS1:(s.heap.push { cls:=.type "list",data:=.seq ([]:List Value).toArray }).get? s.heap.objs.size=some { cls:=.type "list",data:=.seq ([]:List Value).toArray }:=xA6 _ rfl;have h1:Builtin.List.listSameRef (.ref s.heap.objs.size) (.ref S)=false:=by simp[Builtin.List.listSameRef];exact xBy hSlt
 show wpAny _ A.in1 (Builtin.List.listExtendWith (.ref s.heap.objs.size) (.ref S) (.ref s.heap.objs.size)) _ _ _;unfold Builtin.List.listExtendWith;refine xA0 (wpAny_typeOf (T:="set") ⟨o,ho1,hc⟩ ?_);rw[if_neg (by rw[h1];decide)];refine xA0 (ygd ho1 hc hd hf hb hG λI s2 hq=>?_);obtain⟨vs,fp,St,hp,hW,hst,hfp,hI,hT,hk,hge,hg,hos,htk,hfs⟩:=hq;have ho2:=hk S o ho1;have hS2:=hk _ _ hS1;refine xA0 (xB9 ?_);unfold Builtin.List.listLengthHint;refine xA0 (wpAny_specialOf (T:="set") ⟨o,ho2,hc⟩ ydM ?_)
 (generalize hid:("set.__len__":String)=id0;(fail_if_success (clear hid id0));wp_delta;rw[show splitId id0=some ("set","__len__") from by subst hid;decide +kernel];subst hid)
 refine xA0 (wpAny_isInstance (T:="set") (b:=true) ⟨o,ho2,hc⟩ (by rw[isSubtype_type];kernel_rfl) ?_);refine xAI (λh=>absurd h (by decide)) (λ_=>?_);refine xAI (λ_=>?_) (λh=>(h (by decide +kernel)).elim);refine xA0 (wpAny_typeOf (T:="set") ⟨o,ho2,hc⟩ ?_);refine xA3 ?_;refine xAI (λ_=>?_) (λh=>(h (by decide +kernel)).elim);refine xA0 (xBA ?_);refine xA0 ?_;show wpAny _ A.in1 (updateSeq s.heap.objs.size (·.push .none) >>= λ_=>updateSeq s.heap.objs.size (·.pop)) _ _ _;refine xA0 (wpAny_updateSeq hS2 rfl ?_);have hS3:=xB6 (Obj.mapSeq (·.push Value.none)) hS2 rfl;refine wpAny_updateSeq hS3 rfl ?_;have hS4:=xB6 (Obj.mapSeq (·.pop)) hS3 rfl;have hlt:s.heap.objs.size<I:=by
  have:=hge;rw[show(s.heap.push { cls:=.type "list",data:=.seq ([]:List Value).toArray }).objs.size=s.heap.objs.size+1 from xAX _ _]at this;exact this
 have W:=hW A.in1 hh;have hSf:s.heap.objs.size∉fp:=λhm=>by
  rcases hfs _ hm with h|h
  ·exact absurd h (xBy hSlt)
  ·rw[show(s.heap.push { cls:=.type "list",data:=.seq ([]:List Value).toArray }).objs.size=s.heap.objs.size+1 from xAX _ _]at h;exact absurd h (Nat.not_succ_le_self _)
 have oth:∀b o',b≠s.heap.objs.size->s2.heap.get? b=some o'->((s2.heap.update s.heap.objs.size (Obj.mapSeq (·.push Value.none))).update s.heap.objs.size (Obj.mapSeq (·.pop))).get? b=some o' :=
  λb o' hb e=>(xB8 _ _ (Ne.symm hb)).trans ((xB8 _ _ (Ne.symm hb)).trans e)
 have hlen:vs.length=es.size:=by rw[hp.length_eq,xA1,xA4]
 refine xA3 ⟨plainId_quiet F.plain_extend_loop _,codeAny_extend_loopS W (fits_of_scanBound hb) _ hSf _ es.size 0 _ _ _ rfl (xAR _)
  (W.frame 0 s2 _ s2.toks hst (xA5 _) λb hb o e=>oth b o (λh=>hSf (h ▸ hb)) e) hS4 (ItemsOf.nil _) λs' acc' c' hm hS' hacc=>?_⟩
 show wpAny _ A (load s.heap.objs.size >>= _) _ _ s';refine xA0 (wpAny_load hS' ?_);refine xA3 ?_;rw[zga hlen hacc];refine hQ vs s' hp ⟨λb o' e=>?_,?_,?_,?_,Nat.le_of_lt (xAe hS')⟩
 ·have hb:=xAe e;refine hm.heap b o' ?_ (oth b o' (xAq hb) (hk b o' (xA2 _ e)));simp only[xAa,xAf,xB2,not_or];exact⟨xAq hb,xAq (Nat.lt_trans hb hlt)⟩
 ·exact hm.gens.trans hg
 ·exact hm.os.trans hos
 ·exact xAz htk hm.toks
end
end L2
end
section
namespace L2
open PySem PyProof.Rows
theorem zbN{α:Type}[BEq α][LawfulBEq α]:∀ {σ τ:List α},σ.Nodup->(∀x∈σ,x∈τ)->σ.length<=τ.length
 | [],_,_,_=>xAR _
 |x::σ,τ,h,hs=>by
  have hx:x∈τ:=hs x xA7;have h2:=xBd.mp h;have:=zbN (σ:=σ) (τ:=τ.erase x) h2.2 λy hy=>(List.mem_erase_of_ne (λe=>h2.1 (by rw[<-e];exact hy))).mpr (hs y (xAb _ hy))
  rw[xBI hx]at this;have hp:0 < τ.length:=xBS hx;simp only[xAo];omega
theorem ybZ{α:Type}[BEq α][LawfulBEq α]:∀ {σ τ:List α},σ.Nodup->(∀x∈σ,x∈τ)->τ.length<=σ.length->σ.Perm τ
 | [],τ,_,_,hl=>by
  have:τ=[]:=xBn.mp (by simpa using hl);rw[this]
 |x::σ,τ,h,hs,hl=>by
  have hx:x∈τ:=hs x xA7;have h2:=xBd.mp h;have ih:=ybZ (σ:=σ) (τ:=τ.erase x) h2.2 (λy hy=>(List.mem_erase_of_ne (λe=>h2.1 (by rw[<-e];exact hy))).mpr (hs y (xAb _ hy))) (by rw[xBI hx];simp at hl;omega);exact(List.Perm.cons x ih).trans (List.perm_cons_erase hx).symm
theorem zaJ(val:Nat->Int):∀i,(firstMet val i).Nodup
 |0=>List.nodup_nil
 |i+1=>by
  rw[firstMet_succ];unfold step_dedup;split
  ·exact zaJ val i
  ·rename_i hn;refine List.nodup_append.mpr ⟨zaJ val i,by simp,λa ha b hb=>?_⟩;rw[xAl]at hb;intro e;exact hn (List.any_eq_true.mpr ⟨a,ha,by rw[e,hb];exact xBg _⟩)
theorem zaC(ns:List Int)(k:Int):k∈firstMet (λi=>ns.getD i 0) ns.length↔k∈ns:=by
 have h:=firstMet_any (λi=>ns.getD i 0) ns.length k;have e:(List.range ns.length).map (λi=>ns.getD i 0)=ns:=by
  apply List.ext_getElem
  ·simp
  ·intro i h1 h2;simp[List.getD,h2]
 rw[e]at h;have c:∀l:List Int,l.any (·==k)=true↔k∈l:=λl=>by
  rw[List.any_eq_true];exact⟨λ⟨x,hx,q⟩=>by rw[<-xBC q];exact hx,λhk=>⟨k,hk,xBg _⟩⟩
 rw[<-c,<-c,h]
section
variable {prog:Program} {w:World} {A:Around} {E:Value->Shared->Prop} {s:Shared}
theorem zcO:∀ {vs:List Value},(∀v∈vs,Ex2 λk t=>v = .int k t)->∃ns,IntsAre vs ns/\∀k,k∈ns↔∃v∈vs,∃t,v = .int k t
 | [],_=>⟨[],.nil,λk=>⟨λh=>(nomatch h),λ⟨v,h,_⟩=>(nomatch h)⟩⟩
 |v::vs,h=>by
  obtain⟨ns,hn,hm⟩:=zcO λv' hv=>h v' (xAb _ hv)
  obtain⟨k,t,rfl⟩:=h v xA7;refine⟨k::ns,.cons k t hn,λk'=>⟨λhk=>?_,λ⟨v',hv,t',e⟩=>?_⟩⟩
  ·rcases xAa.mp hk with rfl|hk
   ·exact⟨_,xA7,t,rfl⟩
   ·obtain⟨v',hv,t',e⟩:=(hm k').mp hk;exact⟨v',xAb _ hv,t',e⟩
  ·rcases xAa.mp hv with rfl|hv
   ·cases e;exact xA7
   ·exact xAb _ ((hm k').mpr ⟨v',hv,t',e⟩)
theorem zeG{Sm:Int->Bool}{n:Nat}(hh:A.handled=none)(hS:SetG w prog s.heap S Sm n)(h64:n<64)
  (hQ:∀(h':Heap) (d':Drawn) (tk:Nat) (L:Addr) (ns':List Int) (out:Array Value) (e:Nat),IntsAre out.toList ns'->ns'.length=n->(∀k,k∈ns'↔Sm k=true)->ns'.Pairwise (·<=·)->(∀b o,s.heap.get? b=some o->h'.get? b=some o)->s.heap.objs.size<=L->
   h'.get? L=some (seqObj "list" out e)->Q (.ref L) { heap:=h',gens:=s.gens,drawn:=d',toks:=tk,os:=s.os }) :
  wpAny (model prog w) A (call (.builtin "sorted") [.ref S]) Q E s:=by
 obtain⟨o,es,ep,t,ho,hex,hd,hel,hmem,hb,hf,hn,hG⟩:=hS;refine Calls.call_function_entry kind_sorted plain_sorted entry_sorted (args_sorted1 _) ?_;unfold Builtin.«sorted»;refine xA0 (m:=checkCount "sorted" 1 1 _) (xA3 ?_);refine xA0 (ycA (by simp[hh]) ho hex.1 hd hf hb hG λvs s2 hp hL=>?_);have hall:∀v∈vs,Ex2 λk t=>v = .int k t:=λv hv=>by
  obtain⟨e,he,rfl⟩:=xA9.mp (hp.mem_iff.mp hv);obtain⟨⟨k,hk,_⟩,_⟩:=hel e he;obtain⟨t,ht⟩:=Value.isInt_shape hk;exact⟨k,t,ht⟩
 obtain⟨ns,hI,hm⟩:=zcO hall;have hl:vs.length=n:=by rw[hp.length_eq,xA1,xA4,hn]
 refine xA0 (wpAny_newList ?_);have hoL:(s2.heap.push (seqObj "list" vs.toArray 0)).get? s2.heap.objs.size=some (seqObj "list" vs.toArray 0):=xA6 _ rfl;refine xA0 (xB9 (xAN slot_list_sort ⟨_,hoL,rfl⟩ entry_list_sort (list_sort_tree hoL hI (by omega) λout ns' a1 a2 a3=>⟨_,rfl,?_⟩) (args_list_sort _)));refine xA3 ⟨_,rfl,?_⟩;obtain⟨e,he⟩:=sortedHeap_at (out:=out) hoL;have hle:=hL.size;have hk:=hL.heap;have hg:=hL.gens;have hos:=hL.os;obtain⟨h2,g2,d2,t2,o2⟩:=s2;dsimp only at hg hos;subst hg;subst hos;refine hQ _ _ _ _ ns' out e a1 ?_ ?_ a3 (λb ob eb=>?_) hle he
 ·rw[a2.length_eq,<-IntsAre.length hI];exact hl
 ·intro k;rw[a2.mem_iff,hm,hmem];constructor
  ·rintro⟨v,hv,t',rfl⟩;obtain⟨e',he',q⟩:=xA9.mp (hp.mem_iff.mp hv);exact⟨e',he',by rw[q];exact intKind_is _ _ _ _⟩
  ·rintro⟨e',he',q⟩;obtain⟨t',ht⟩:=Value.isInt_shape q;exact⟨e'.2,hp.mem_iff.mpr (List.mem_map_of_mem he'),t',ht⟩
 ·have hlt:=xAe (hk b ob eb);rw[sortedHeap_old (xAq hlt) (by rw[show(h2.push (seqObj "list" vs.toArray 0)).objs.size=h2.objs.size+1 from xAX _ _];exact xBl hlt)];exact xA2 _ (hk b ob eb)
end
end L2
end
section
namespace L2
open PySem PyProof.Rows
theorem ycj:bootBuiltins "set"=some (.type "set"):=by decide +kernel
theorem zap:bootBuiltins "sorted"=some (.builtin "sorted"):=by decide +kernel
section
variable {X:Cx}
theorem Inv.redraw(I:Inv X pins σ H s)(h1:s'.heap=s.heap)(h2:s'.gens=s.gens)(h3:s'.os=s.os):Inv X pins σ H s' :=
 ⟨I.ok,by rw[h3];exact I.os,by rw[h2];exact I.bare,by rw[h1];exact I.base,by rw[h1];exact I.loc,by rw[h1];exact I.cell,I.free,I.freeC,by rw[h1];exact I.pin,by rw[h1];exact I.hok,I.len⟩
theorem Inv.more{tk:Nat}(I:Inv X pins σ H s)(k:∀b o,s.heap.get? b=some o->h'.get? b=some o):Inv X pins σ H { s with heap:=h',toks:=tk } :=
 I.turnedL (fp:=[]) (λb hb=>nomatch hb) λb o _ e=>k b o e
noncomputable def ygg(K:PySem.W.Frag)(te:TE):TE:=λσ H Q=>te σ H λx H1=>Ex2 λ(a:Addr) (ns:List Int)=>x = .ref a/\SqL K H1 a (ns.map V.int)/\ns.length<4000/\(∀ks:List Int,ks.Nodup->(∀k∈ks,k∈ns)->ks.length<64)/\
 ∀(l:Addr) (ns':List Int),H1 l=none->ns'.Pairwise (· < ·)->(∀k,k∈ns'↔k∈ns)->Q (.ref l) (upd H1 l (.lst (ns'.map V.int)))
theorem zbZ{e:Expr}{te:TE}{p1 p2 pos pos2:Pos}(hc:X.calm=true)(hg1:Gl X "sorted")(hm1:X.mg "sorted"=none)(hg2:Gl X "set")(hm2:X.mg "set"=none)(he:PE X e te)
  (hs:starEach [e] X.env=[(false,eval e X.env)]:=by rfl) (hs2:starEach [.Call (.Name "set" p2) [e] [] pos2] X.env=[(false,eval (.Call (.Name "set" p2) [e] [] pos2) X.env)]:=by rfl) :
  PE X (.Call (.Name "sorted" p1) [.Call (.Name "set" p2) [e] [] pos2] [] pos) (ygg X.K te):=by
 intro pins s σ H Q I h;refine wpAny_Call_Name_kw (ybh I hg1 hm1 zap ?_ (by decide) (by decide));refine PyProof.Rows.callWith_builtin1 ?_ hs2 rfl;rw[hs2];show wpAny _ _ (spliced ((false,eval (.Call (.Name "set" p2) [e] [] pos2) X.env)::[])) _ _ s;refine Calls.spliced_cons ?_;refine wpAny_Call_Name_kw (ybh I hg2 hm2 ycj ?_ (by decide) (by decide));refine xBc ?_ hs rfl;rw[hs];show wpAny _ _ (spliced ((false,eval e X.env)::[])) _ _ s;refine Calls.spliced_cons (thn (he pins s σ H _ I h) λu s1 hq=>?_);obtain⟨x,H1,I1,r1,a,ns,ex,ha,hl,h64,q⟩:=hq;subst ex;cases r1;refine Calls.spliced_nil ?_;obtain⟨its,r2,p2,z2⟩:=I1.list ha;have hlen:=r2.length;rw[xA1]at hlen;have hh:=I1.ok.hd hc;refine yeE hh p2.isList (by simpa using zbT r2) (by rw[xA8];unfold scanBound;lia) λh2 tk2 hS hk=>?_
 refine Calls.spliced_nil ?_;have I2:Inv X pins σ H1 { s1 with heap:=h2,toks:=tk2 }:=I1.more hk;have hsz:its.toArray.size=ns.length:=by rw[xA8,hlen]
 rw[hsz]at hS;have hfm:=zaJ (λi=>ns.getD i 0) ns.length;refine zeG (s:={ s1 with heap:=h2,toks:=tk2 }) hh hS (h64 _ hfm λk hk=>(zaC ns k).mp hk) λh3 d3 tk3 L ns' out e3 b1 b2 b3 b4 b5 b6 b7=>?_
 have hmem:∀k,k∈ns'↔k∈firstMet (λi=>ns.getD i 0) ns.length:=λk=>by
  rw[b3];constructor
  ·intro h;obtain⟨y,hy,q⟩:=List.any_eq_true.mp h;rw[<-xBC q];exact hy
  ·intro h;exact List.any_eq_true.mpr ⟨k,h,xBg _⟩
 have hnd:ns'.Nodup:=(ybZ hfm (λk hk=>(hmem k).mpr hk) (by rw[b2];exact xA5 _)).nodup_iff.mp hfm;have hlt:ns'.Pairwise (· < ·):=by
  refine List.Pairwise.imp₂ (λa b h1 h2=>?_) b4 hnd
  lia
 have r3:Vals (ns'.map V.int) out.toList:=ya1 b1;have I3:Inv X pins σ (upd H1 L (.lst (ns'.map V.int))) { s1 with heap:=h3,toks:=tk3 }:=I2.laid (a:=L) (t':=tk3) (o:=.lst (ns'.map V.int)) b5 b6 ⟨?_,out.toList,e3,r3,?_⟩
 ·refine⟨.ref L,_,I3.redraw rfl rfl rfl,rfl,q L ns' (I2.hok.fresh b6) hlt λk=>(hmem k).trans (zaC ns k)⟩
 ·rw[xA1,b2];have:=h64 _ hfm λk hk=>(zaC ns k).mp hk
  have:=sizeLine_eq
  lia
 ·rw[b7]
end
end L2
end
section
namespace L2
open PySem PySem.Spec PyProof.Rows
section
variable {X:Cx}
noncomputable def zhZ(K:PySem.W.Frag):List V->Hp->VK->Prop:=λvs H Q=>Ex2 λ(a:Addr) (ns:List Int)=>vs=[.ref a]/\SqL K H a (ns.map V.int)/\0<ns.length/\∀M,M∈ns->(∀a∈ns,a<=M)->Q (.int M) H
theorem ye5(hc:X.calm=true):zbo X (.builtin "max") (zhZ X.K):=by
 intro pins s σ H xs us Q I r h;obtain⟨a,ns,rfl,ha,hl,q⟩:=h;obtain⟨u,rfl,rx⟩:=ybG r;cases rx;obtain⟨its,r1,p1,z1⟩:=I.list ha;have hi:IntsAre its ns:=zbT r1;have hlist:=p1.isList;obtain⟨ys,e⟩:=hi.allInts.items;have hns:ns=ys.toList.map (·.1):=by rw[<-hi.numsOf,<-nums_intItems,<-e]
 have hsz:0<ys.size:=by
  have h3:=hl;rw[hns,xA1,xA4]at h3;exact h3
 rw[e]at hlist;refine max_intList (I.ok.hd hc) hlist hsz λv h' tk hv hk=>?_
 obtain⟨t,rfl⟩:=intItems_at hv;obtain⟨h1,h2⟩:=argBest_gt (numAt ys) (ys.size-1);refine⟨.int _,H,I.more (λb o eb=>hk b o eb),ygb _ _,q _ ?_ λb hb=>?_⟩
 ·rw[hns,numAt_eq];exact getD_mem (by rw[xA1,xA4];omega)
 ·rw[hns]at hb;obtain⟨j,hj,rfl⟩:=mem_getD hb;rw[xA1,xA4]at hj;rw[<-numAt_eq];exact h2 j (by omega)
end
end L2
end
section
namespace HT
open PySem PyProof.Rows
end HT
namespace L2
open PySem PyProof.Rows
end L2
end
section
namespace HT
open PySem PyProof.Rows
end HT
namespace L2
open PySem PyProof.Rows
end L2
end
section
namespace L2
open PySem PySem.Spec PyProof.Rows
end L2
end
section
namespace L2
open PySem PySem.Spec PyProof.Rows
section
variable {X:Cx}
theorem zcv:∀n:Nat,n<100->(n:Int).natAbs.log2<1920:=λn h=>by
 rw[Int.natAbs_natCast];rcases xBe n with e|e
 ·rw[e];decide
 ·exact xAv ((Nat.log2_lt (k:=7) (by lia)).mpr (by lia)) (by decide)
end
end L2
namespace L2
open PySem PySem.Spec PyProof.Rows
end L2
end
section
namespace L2
open PySem PySem.Spec PyProof.Rows
noncomputable def RdN(K:PySem.W.Frag)(H:Hp):Nat->V->PyData->Prop
 |0,_,_=>False
 |n+1,v,d=>(∃i:Int,v = .int i/\d = .int i)\/Ex3 λ(a:Addr) (xs:List V) (ds:List PyData)=>v = .ref a/\d = .tuple ds/\SqT K H a xs/\xs.length=ds.length/\∀(i:Nat) x e,xs[i]?=some x->ds[i]?=some e->RdN K H n x e
theorem ycB:∀ {us:List Value} {ds:List PyData},us.length=ds.length->(∀(i:Nat) u e,us[i]?=some u->ds[i]?=some e->Reads h u e [])->ReadsAll h us ds []
 | [],[],_,_=>.nil
 | [],_::_,hl,_=>by cases hl
 |_::_,[],hl,_=>by cases hl
 |u::us,d::ds,hl,hr=>by
  have h1:=hr 0 u d rfl rfl;have h2:=ycB (us:=us) (ds:=ds) (by simpa using hl) λi u' e hu he=>hr (i+1) u' e hu he
  exact .cons (as:=[]) (bs:=[]) h1 h2
section
variable {X:Cx}
theorem zeC(I:Inv X pins σ H s):∀(n:Nat) (x:V) (d:PyData) (u:Value),RdN X.K H n x d->RelV x u->Reads s.heap u d []
 |0,_,_,_,h,_=>h.elim
 |n+1,x,d,u,h,r=>by
  rcases h with⟨i,rfl,rfl⟩ |⟨a,xs,ds,rfl,rfl,ha,hl,hx⟩
  ·obtain⟨t,rfl⟩:=r;exact .int i t
  ·cases r;obtain⟨us,r1,⟨o,ho,hc,k,hd⟩,z1⟩:=I.tuple ha;have l1:=r1.length;refine .tuple ho hc hd (ycB (by simp;lia) λi u e hu he=>?_);have hi:=(xAh.mp hu).1;obtain⟨x1,e1,q1⟩:=yaG r1 (i:=i) (by simpa using hi);have eu:us.toArray[i]'(by simpa using hi)=u:=by
    have:=(xAh.mp hu).2
    simpa using this
   rw[eu]at q1;exact zeC I n x1 e u (hx i x1 e e1 he) q1
end
noncomputable def whD(p m t few root:Nat)(marks:List Nat):PyData:=.tuple [.tuple ([p,m,t].map λn:Nat=>PyData.int (n:Int)),.int (few:Int),.int (root:Int),.tuple (marks.map λn:Nat=>PyData.int (n:Int))]
structure DOk(d:PyData)(w:Nat):Prop where
 sh:d.showable=true
 nd:d.hasDict=false
 dp:d.depth<=40
 sl:d.leavesShort 8=true
 we:d.weight<=w
theorem zfb{ns:List Nat}(h:∀n∈ns,n<100):PyData.showableAll (ns.map λn:Nat=>PyData.int (n:Int))=true/\PyData.hasDictAll (ns.map λn:Nat=>PyData.int (n:Int))=false/\PyData.depthAll (ns.map λn:Nat=>PyData.int (n:Int))=0/\PyData.leavesShortAll 8 (ns.map λn:Nat=>PyData.int (n:Int))=true/\PyData.weightAll (ns.map λn:Nat=>PyData.int (n:Int))<=11*ns.length:=by
 induction ns with
 |nil=>exact⟨rfl,rfl,rfl,rfl,xA5 _⟩
 |cons n ns ih=>
  obtain⟨i1,i2,i3,i4,i5⟩:=ih λy hy=>h y (xAb _ hy)
  have hn:=h n xA7;obtain⟨k1,k2⟩:=ybH n hn;rw[xBm];refine⟨?_,?_,?_,?_,?_⟩
  ·show(decide ((n:Int).natAbs.log2<1920)&&PyData.showableAll _)=true;rw[i1,xAD (zcv n hn)];rfl
  ·show(false||PyData.hasDictAll _)=false;rw[i2];rfl
  ·show max 0 (PyData.depthAll _)=0;rw[i3];rfl
  ·show(PyData.leavesShort 8 (.int (n:Int))&&PyData.leavesShortAll 8 _)=true;rw[k1,i4];rfl
  ·show PyData.weight (.int (n:Int))+1+PyData.weightAll _<=11*(ns.length+1)
   lia
theorem yhL{p m t few root:Nat}{marks:List Nat}(h:∀n∈[p,m,t,few,root],n<100)(hm:∀n∈marks,n<100)(hl:marks.length<=100):DOk (whD p m t few root marks) 2000:=by
 obtain⟨a1,a2,a3,a4,a5⟩:=zfb (ns:=[p,m,t]) λn hn=>h n (by simp at hn ⊢;lia)
 obtain⟨b1,b2,b3,b4,b5⟩:=zfb hm;have hf:=h few (by simp);have hr:=h root (by simp);obtain⟨f1,f2⟩:=ybH few hf;obtain⟨r1,r2⟩:=ybH root hr;refine⟨?_,?_,?_,?_,?_⟩
 ·show(PyData.showableAll _&&(decide ((few:Int).natAbs.log2<1920)&&(decide ((root:Int).natAbs.log2<1920)&&(PyData.showableAll _&&true))))=true;rw[a1,b1,xAD (zcv few hf),xAD (zcv root hr)];rfl
 ·unfold whD;simp only[PyData.hasDict,PyData.hasDictAll,a2,b2,Bool.or_false]
 ·show max (PyData.depthAll _+1) (max 0 (max 0 (max (PyData.depthAll _+1) 0)))+1<=40;rw[a3,b3];decide
 ·show(PyData.leavesShortAll 8 _&&(PyData.leavesShort 8 (.int (few:Int))&&(PyData.leavesShort 8 (.int (root:Int))&&(PyData.leavesShortAll 8 _&&true))))=true;rw[a4,b4,f1,r1];rfl
 ·show PyData.weightAll _+1+(PyData.weight (.int (few:Int))+1+(PyData.weight (.int (root:Int))+1+(PyData.weightAll _+1+0)))<=2000;simp only[xAo,List.length_nil]at a5
  lia
theorem zfI{K:PySem.W.Frag}{ns:List Nat}{k:Nat}(h:SqT K H a (ns.map λn:Nat=>V.int (n:Int))):RdN K H (k+2) (.ref a) (.tuple (ns.map λn:Nat=>PyData.int (n:Int))):=by
 refine .inr ⟨a,_,_,rfl,rfl,h,by simp,λi x e hx he=>.inl ?_⟩;rw[xAd]at hx he;cases q:ns[i]? with
 |none=>rw[q]at hx;cases hx
 |some n=>rw[q]at hx he;cases hx;cases he;exact⟨_,rfl,rfl⟩
theorem yfV{K:PySem.W.Frag}{p m t few root:Nat}{marks:List Nat}(hw:SqT K H wa [.ref fa,.int (few:Int),.int (root:Int),.ref mk])(hf:SqT K H fa ([p,m,t].map λn:Nat=>V.int (n:Int)))(hm:SqT K H mk (marks.map λn:Nat=>V.int (n:Int))):RdN K H 10 (.ref wa) (whD p m t few root marks):=by
 refine .inr ⟨wa,_,_,rfl,rfl,hw,rfl,λi x e hx he=>?_⟩;have hi:i=0\/i=1\/i=2\/i=3:=by
  have:=(xAh.mp hx).1;simp at this;lia
 rcases hi with rfl|rfl|rfl|rfl
 ·cases hx;cases he;exact zfI (k:=7) hf
 ·cases hx;cases he;exact .inl ⟨_,rfl,rfl⟩
 ·cases hx;cases he;exact .inl ⟨_,rfl,rfl⟩
 ·cases hx;cases he;exact zfI (k:=7) hm
end L2
end
section
namespace L2
open PySem PySem.Spec PyProof.Rows
section
variable {prog:Program} {w:World} {A:Around} {E:Value->Shared->Prop} {s:Shared}
theorem yd9{a b c:Int}{n:Nat}(hh:A.handled=none)(hr:IsRange s.heap r a b c t u v)(hsmall:Builtin.Range.small a b c=true)(hn:Builtin.Range.rangeSize a b c=n)(hlen:n<=2^24)
  (hQ:∀(h':Heap) (tk:Nat) (acc:Array Value),(∀b o,s.heap.get? b=some o->h'.get? b=some o)->ItemsOf (λi v=>∃t,v = .int (a+i*c) t) acc n->Q acc.toList { s with heap:=h',toks:=tk }):wpAny (model prog w) A (collect (.ref r)) Q E s:=by
 unfold collect;refine xA0 (wpAny_runValue (xBb F.entry_proto_collect ?_));rw[xBa F.plain_proto_collect _];show wpAny _ A.in1 (newList [] >>= λl=>again (.builtin "list.__iadd__" ⟨[l,.ref r],[]⟩)) _ _ s;refine xA0 (xAG ?_);refine xA3 ⟨plainId_quiet F.plain_list_iadd _,xBb F.entry_list_iadd ?_⟩;rw[xBa F.plain_list_iadd _];show wpAny _ A.in1 (Builtin.List.listExtendWith (.ref s.heap.objs.size) (.ref r) (.ref s.heap.objs.size)) _ _ _;have hS:(s.heap.push { cls:=.type "list",data:=.seq ([]:List Value).toArray }).get? s.heap.objs.size=some { cls:=.type "list",data:=.seq #[] 0 }:=xA6 _ rfl;have fin':∀(r':Result) (s':Shared),(r' = .ok (.ret (.ref s.heap.objs.size))/\Ex4 λ(h':Heap) (tk:Nat) (acc:Array Value) (c':Nat)=>s'={ s with heap:=h',toks:=tk }/\(∀b o,s.heap.get? b=some o->h'.get? b=some o)/\h'.get? s.heap.objs.size=some { cls:=.type "list",dict:=none,data:=.seq acc c',slots:=#[] }/\ItemsOf (λi v=>∃t,v = .int (a+i*c) t) acc n)->
   wpAny (model prog w) A (match Value.ref s.heap.objs.size with
   |Value.ref a=>do
    match (<-load a).data with
     |Data.seq xs _=>pure xs.toList
     |_=>unsupported "internal:collect"
   |_=>unsupported "internal:collect") Q E s':=by
  rintro r' s' ⟨_,h',tk,acc,c',rfl,hk,hS',hacc⟩;show wpAny _ A (load s.heap.objs.size >>= _) _ _ _;refine xA0 (wpAny_load hS' ?_);exact xA3 (hQ h' tk acc hk hacc)
 refine xBE (wpAny_extend_range (A:=A) (R:=λr' s'=>r' = .ok (.ret (.ref s.heap.objs.size))/\Ex4 λ(h':Heap) (tk:Nat) (acc:Array Value) (c':Nat)=>s'={ s with heap:=h',toks:=tk }/\(∀b o,s.heap.get? b=some o->h'.get? b=some o)/\h'.get? s.heap.objs.size=some { cls:=.type "list",dict:=none,data:=.seq acc c',slots:=#[] }/\ItemsOf (λi v=>∃t,v = .int (a+i*c) t) acc n)
  (s:={ s with heap:=s.heap.push { cls:=.type "list",data:=.seq ([]:List Value).toArray } }) hh (xA2 _ hr) hsmall hn hlen _ _ 0 hS λh' tk acc' c' hk hS' hacc=>⟨rfl,h',tk,acc',c',rfl,λb o e=>hk b o (xAq (xAe e)) (xA2 _ e),hS',hacc⟩) (λfin s' h=>?_) (λe s' h=>?_)
 ·cases fin with
  |done f=>
   have h1:=h.1;cases h1;exact fin' _ _ h
  |again c'=>exact⟨h.1,codeAny_mono h.2 λr s'' hr'=>by
    have h1:=hr'.1;cases h1;exact fin' _ _ hr'⟩
 ·exact absurd h.1 (by simp)
theorem zcL{a b c:Int}{n:Nat}(hh:A.handled=none)(hr:IsRange s.heap r a b c t u v)(hsmall:Builtin.Range.small a b c=true)(hn:Builtin.Range.rangeSize a b c=n)(hlen:n<=2^24)(hsz:n<=sizeLine)
  (h:∀(h':Heap) (tk:Nat) (acc:Array Value),(∀b o,s.heap.get? b=some o->h'.get? b=some o)->ItemsOf (λi v=>∃t,v = .int (a+i*c) t) acc n->Q₁ (.ref h'.objs.size) { s with heap:=h'.push { cls:=.type "tuple",data:=.seq acc },toks:=tk }) :
  codeAny (model prog w) A (.call (.builtin "tuple.__new__") ⟨[.type "tuple",.ref r],[]⟩) (wants Q₁ E) s:=by
 refine codeAny_of_tree ?_;show wpAny _ A.in1 (do checkBuiltinCall "tuple.__new__" ⟨[.type "tuple",.ref r],[]⟩;again (.builtin "tuple.__new__" ⟨[.type "tuple",.ref r],[]⟩)) _ _ s;refine xA0 (wpAny_of_eq (F.newCall_tuple_1 _) (xA3 ⟨plainId_quiet F.plain_tuple_new _,xBb F.entry_tuple_new ?_⟩));rw[xBa F.plain_tuple_new _];have hsub:=sub_tuple_self;have hinit:=init_tuple_lookup;have hmh:=madeHere_tuple;have hTI:s.TypeIs (.ref r) "range":=⟨_,hr,rfl⟩
 wp_walk using wpAny_typeOf hTI,yd9 (A:=A.in1) hh hr hsmall hn hlen
 intro h' tk acc hk hacc;show wpAny _ _ (Builtin.Tuple.tupleExact acc.toList.toArray >>= λv=>ret v) _ _ _;unfold Builtin.Tuple.tupleExact;refine xA0 (xAG ?_ (by show acc.toList.toArray.size<=sizeLine;simp only[Array.toArray_toList];rw[hacc.1];exact hsz));refine xA3 ?_;have e:acc.toList.toArray=acc:=by simp
 rw[e];exact h h' tk acc hk hacc
theorem yca{a b c:Int}{n:Nat}(hh:A.handled=none)(hr:IsRange s.heap r a b c t u v)(hsmall:Builtin.Range.small a b c=true)(hn:Builtin.Range.rangeSize a b c=n)(hlen:n<=2^24)(hsz:n<=sizeLine)
  (hQ:∀(h':Heap) (tk:Nat) (acc:Array Value),(∀b o,s.heap.get? b=some o->h'.get? b=some o)->ItemsOf (λi v=>∃t,v = .int (a+i*c) t) acc n->Q (.ref h'.objs.size) { s with heap:=h'.push { cls:=.type "tuple",data:=.seq acc },toks:=tk }) :
  wpAny (model prog w) A (call (.type "tuple") [.ref r]) Q E s:=by
 refine callType_codes (Q₁:=λobj s₁=>s₁.TypeIs obj "tuple"/\Q obj s₁) F.called_tuple (F.typeCall_tuple_1 _) F.entry_object_init
  (zcL hh hr hsmall hn hlen hsz λh' tk acc hk hacc=>⟨⟨_,xA6 _ rfl,rfl⟩,hQ h' tk acc hk hacc⟩) λobj s₁ h₁=>?_
 exact⟨h₁.1,F.args_object_init_2 obj _,object_init_meets F.called_tuple.init.lookup F.called_tuple.made (by decide) prog w A.in1 _ s₁ ⟨h₁.1,rfl,h₁.2⟩⟩
end
section
variable {X:Cx}
theorem zcI(hc:X.calm=true):zbo X (.type "tuple") (λxs H Q=>Ex3 λp lo hi=>xs=[.ref p]/\H p=some (.rng lo hi)/\(-(2^62)<=lo/\lo<2^62/\-(2^62)<=hi/\hi<2^62)/\(hi-lo).toNat<=sizeLine/\∀l,H l=none->Q (.ref l) (upd H l (.tup (intsFrom lo (hi-lo).toNat)))):=by
 intro pins s σ H xs us Q I r h;obtain⟨p,lo,hi,rfl,hp,⟨b1,b2,b3,b4⟩,hz,q⟩:=h;obtain⟨u,rfl,rx⟩:=ybG r;cases rx;obtain⟨t,u,v,e⟩:=I.hok p _ hp;refine yca (n:=(hi-lo).toNat) (I.ok.hd hc) e (small_one b1 b2 b3 b4) (by rw[rangeSize_one];split <;> lia) (by have:=sizeLine_eq;lia) hz λh' tk acc k hi'=>?_
 have rv:=zb8 hi';have I1:Inv X pins σ H { s with heap:=h',toks:=tk }:=I.kept (t':=tk) k;have I2:Inv X pins σ (upd H h'.objs.size (.tup (intsFrom lo (hi-lo).toNat))) { s with heap:=h'.push { cls:=.type "tuple",data:=.seq acc },toks:=tk } :=
  I1.laid (t':=tk) (λb o e=>xA2 _ e) (xA5 _) (show zaR X.prog X.w _ _ _ (.tup _) from⟨by simpa[intsFrom]using hz,acc.toList,rv,by simpa using IsTup.new h' acc⟩)
 exact⟨.ref h'.objs.size,_,I2,rfl,q _ (I1.hok.fresh (xA5 _))⟩
end
end L2
end
section
namespace L2
open PySem PySem.Spec PyProof.Rows
end L2
end
section
namespace L2
open PySem PySem.Spec PyProof.Rows
end L2
end
section
set_option autoImplicit false
namespace L2
inductive An3 (p0 p1 p2:Prop):Prop|mk (_:p0) (_:p1) (_:p2):An3 p0 p1 p2
inductive An4 (p0 p1 p2 p3:Prop):Prop|mk (_:p0) (_:p1) (_:p2) (_:p3):An4 p0 p1 p2 p3
inductive An5 (p0 p1 p2 p3 p4:Prop):Prop|mk (_:p0) (_:p1) (_:p2) (_:p3) (_:p4):An5 p0 p1 p2 p3 p4
inductive An6 (p0 p1 p2 p3 p4 p5:Prop):Prop|mk (_:p0) (_:p1) (_:p2) (_:p3) (_:p4) (_:p5):An6 p0 p1 p2 p3 p4 p5
inductive An7 (p0 p1 p2 p3 p4 p5 p6:Prop):Prop|mk (_:p0) (_:p1) (_:p2) (_:p3) (_:p4) (_:p5) (_:p6):An7 p0 p1 p2 p3 p4 p5 p6
inductive An8 (p0 p1 p2 p3 p4 p5 p6 p7:Prop):Prop|mk (_:p0) (_:p1) (_:p2) (_:p3) (_:p4) (_:p5) (_:p6) (_:p7):An8 p0 p1 p2 p3 p4 p5 p6 p7
end L2
namespace Dg
def dg(p i x:Nat):Nat:=x/p^i%p
theorem ybp(p x:Nat):dg p 0 x=x%p:=by simp[dg]
theorem ybl(p i x:Nat):dg p (i+1) x=dg p i (x/p):=by
 unfold dg;rw[xB5,xBq,Nat.div_div_eq_div_mul]
theorem yia{p:Nat}(hp:2<=p)(i x:Nat):dg p i x<p:=xBh _ (by lia)
theorem yaI{p:Nat}(hp:2<=p){i k x:Nat}(h:x<p^k)(hk:k<=i):dg p i x=0:=by
 unfold dg;have:x<p^i:=xAv h (xAM (by lia) hk);rw[Nat.div_eq_of_lt this,Nat.zero_mod]
theorem ybF(p i:Nat):dg p i 0=0:=by simp[dg]
theorem ext{p:Nat}(hp:2<=p):∀ {a b:Nat},(∀i,dg p i a=dg p i b)->a=b:=by
 intro a
 induction a using Nat.strongRecOn with
 |_ a ih=>
  intro b h;have h0:=h 0;rw[ybp,ybp]at h0;by_cases ha:a=0
  ·subst ha;have key:∀n,∀b,b<=n->(∀i,dg p i b=0)->b=0:=by
    intro n
    induction n with
    |zero=>intro b hb _;lia
    |succ n ihn=>
     intro b hb hz;by_cases hb0:b=0
     ·exact hb0
     ·have hlt:b/p<b:=Nat.div_lt_self (by lia) (by lia);have hd:b/p=0:=ihn (b/p) (by lia) λi=>by rw[<-ybl];exact hz (i+1)
      have hm:b%p=0:=by rw[<-ybp];exact hz 0
      have:=Nat.div_add_mod b p;rw[hd,hm]at this
      simpa using this.symm
   exact(key b b (xA5 _) λi=>by rw[<-h i,ybF]).symm
  ·have hlt:a/p<a:=Nat.div_lt_self (by lia) (by lia);have hd:a/p=b/p:=ih (a/p) hlt λi=>by rw[<-ybl,<-ybl];exact h (i+1)
   have e1:=Nat.div_add_mod a p;have e2:=Nat.div_add_mod b p;rw[<-e1,<-e2,hd,h0]
theorem yeJ{p:Nat}(hp:2<=p){j r:Nat}(h:∀i,j<=i->dg p i r=0):r<p^j:=by
 have hpos:0<p^j:=xBf (by lia);have hq:r/p^j=0:=by
  refine ext hp λi=>?_
  rw[ybF];have:=h (j+i) (by lia);unfold dg at this ⊢;rw[Nat.pow_add,<-Nat.div_div_eq_div_mul]at this;exact this
 have:=Nat.div_add_mod r (p^j);rw[hq,Nat.mul_zero,xBO]at this;rw[<-this];exact xBh _ hpos
theorem yhP{p:Nat}(hp:2<=p){k t d:Nat}(ht:t<p^k)(hd:d<p)(i:Nat):dg p i (t+d*p^k)=if i=k then d else dg p i t:=by
 have hpos:0<p^k:=xBf (by lia);unfold dg;by_cases h1:i<k
 ·rw[if_neg (by lia)];obtain⟨c,rfl⟩:∃c,k=i+(c+1):=⟨k-i-1,by lia⟩
  have e:d*p^(i+(c+1))=p^i*(d*p^c*p):=by rw[Nat.pow_add,xB5];ac_rfl
  rw[e,Nat.add_mul_div_left _ _ (xBf (by lia)),Nat.add_mul_mod_self_right]
 ·by_cases h2:i=k
  ·subst h2;rw[if_pos rfl,Nat.add_mul_div_right _ _ hpos,Nat.div_eq_of_lt ht,xBO,Nat.mod_eq_of_lt hd]
  ·rw[if_neg h2];have hlt:t+d*p^k<p^i:=by
    have:t+d*p^k<p^(k+1):=by
     rw[xB5]
     calc t+d*p^k<p^k+d*p^k:=by lia
      _=(d+1)*p^k:=by rw[Nat.add_mul];lia
      _<=p*p^k:=Nat.mul_le_mul_right _ hd
      _=p^k*p:=xBq _ _
    exact xAv this (xAM (by lia) (by lia))
   rw[Nat.div_eq_of_lt hlt,Nat.div_eq_of_lt (xAv ht (xAM (by lia) (by lia)))]
theorem zhr{p:Nat}{k t d:Nat}(ht:t<p^k)(hd:d<p):t+d*p^k<p^(k+1):=by
 rw[xB5]
 calc t+d*p^k<p^k+d*p^k:=by lia
  _=(d+1)*p^k:=by rw[Nat.add_mul];lia
  _<=p*p^k:=Nat.mul_le_mul_right _ hd
  _=p^k*p:=xBq _ _
def zaA(f:Nat->Nat):Nat->Nat:=λi=>if i=0 then 0 else f (i-1)
def yay(m:Nat)(t f:Nat->Nat):Nat->Nat:=λi=>if i<m then zaA f i+f (m-1)*t i else 0
noncomputable def tn(m:Nat)(t:Nat->Nat):Nat->(Nat->Nat)->(Nat->Nat)->Nat->Nat
 |0,_,_=>λ_=>0
 |k+1,f,y=>λi=>f 0*y i+tn m t k (λj=>f (j+1)) (yay m t y) i
def ybd(m:Nat)(t:Nat->Nat)(q:Nat)(f:Nat->Nat):Nat->Nat:=λi=>f i+if q-m<=i/\i<q then f q*t (i-(q-m)) else 0
def redF(m:Nat)(t:Nat->Nat):Nat->(Nat->Nat)->(Nat->Nat)
 |0,f=>f
 |j+1,f=>redF m t j (ybd m t (m+j) f)
def ydn:Nat->(Nat->Nat)->(Nat->Nat)->Nat->Nat
 |0,_,_=>λ_=>0
 |k+1,f,y=>λi=>f 0*y i+zaA (ydn k (λj=>f (j+1)) y) i
section
variable {m:Nat} {t:Nat->Nat}
theorem ze1(q c:Nat)(f g:Nat->Nat):ybd m t q (λi=>c*f i+g i)=λi=>c*ybd m t q f i+ybd m t q g i:=by
 funext i
 unfold ybd;split
 ·dsimp only;rw[Nat.mul_add,Nat.add_mul];ac_rfl
 ·simp
theorem yet(c:Nat):∀(j:Nat) (f g:Nat->Nat),redF m t j (λi=>c*f i+g i)=λi=>c*redF m t j f i+redF m t j g i
 |0,f,g=>rfl
 |j+1,f,g=>by
  show redF m t j (ybd m t (m+j) λi=>c*f i+g i)=_;rw[ze1,yet c j];rfl
theorem yef{q:Nat}(hq:m<=q)(f:Nat->Nat):ybd m t (q+1) (zaA f)=zaA (ybd m t q f):=by
 funext i
 unfold ybd zaA;by_cases h0:i=0
 ·subst h0;rw[if_pos rfl,if_pos rfl];rw[if_neg (by lia)]
 ·rw[if_neg h0,if_neg h0,if_neg (show ¬ q+1=0 by lia)];congr 1;by_cases h1:q-m<=i-1/\i-1<q
  ·rw[if_pos h1,if_pos (by lia),Nat.add_sub_cancel];congr 2
   lia
  ·rw[if_neg h1,if_neg (by lia)]
theorem ycQ(hm:1<=m):∀(j:Nat) (f:Nat->Nat) (i:Nat),i<m->redF m t (j+1) (zaA f) i=yay m t (redF m t j f) i
 |0,f,i,hi=>by
  show ybd m t (m+0) (zaA f) i=yay m t f i;unfold ybd yay;rw[if_pos hi,if_pos (by lia)];congr 1;show zaA f (m+0)*t (i-(m+0-m))=_;unfold zaA;rw[if_neg (by lia)];simp
 |j+1,f,i,hi=>by
  show redF m t (j+1) (ybd m t (m+(j+1)) (zaA f)) i=yay m t (redF m t j (ybd m t (m+j) f)) i;rw[<-ycQ hm j (ybd m t (m+j) f) i hi,<-yef (by lia)];rfl
theorem zeq:∀(j:Nat) (f:Nat->Nat),(∀q,m<=q->f q=0)->redF m t j f=f
 |0,f,_=>rfl
 |j+1,f,h=>by
  have e:ybd m t (m+j) f=f:=by
   funext i
   unfold ybd;rw[h (m+j) (by lia)];simp
  show redF m t j (ybd m t (m+j) f)=f;rw[e];exact zeq j f h
theorem zdz(c:Nat)(f g:Nat->Nat):yay m t (λi=>c*f i+g i)=λi=>c*yay m t f i+yay m t g i:=by
 funext i
 unfold yay zaA;split
 ·split
  ·simp[Nat.mul_add,Nat.add_mul,Nat.mul_assoc]
  ·dsimp only;rw[Nat.mul_add,Nat.add_mul];ac_rfl
 ·simp
theorem zec:∀(k:Nat) (f y:Nat->Nat),yay m t (tn m t k f y)=tn m t k f (yay m t y)
 |0,f,y=>by
  funext i
  show yay m t (λ_=>0) i=0;unfold yay zaA;split
  ·split <;> simp
  ·rfl
 |k+1,f,y=>by
  show yay m t (λi=>f 0*y i+tn m t k (λj=>f (j+1)) (yay m t y) i)=_;rw[zdz,zec k];rfl
theorem zeg(hm:1<=m):∀(k:Nat) (f y:Nat->Nat),(∀q,m<=q->y q=0)->∀i,i<m->redF m t k (ydn (k+1) f y) i=tn m t (k+1) f y i
 |0,f,y,hy,i,hi=>by
  show f 0*y i+zaA (λ_=>0) i=f 0*y i+0;unfold zaA;split <;> rfl
 |k+1,f,y,hy,i,hi=>by
  show redF m t (k+1) (λi=>f 0*y i+zaA (ydn (k+1) (λj=>f (j+1)) y) i) i=f 0*y i+tn m t (k+1) (λj=>f (j+1)) (yay m t y) i;rw[yet];show f 0*redF m t (k+1) y i+redF m t (k+1) (zaA (ydn (k+1) (λj=>f (j+1)) y)) i=_;rw[zeq (k+1) y hy,ycQ hm k _ i hi];congr 1;have e:∀i,i<m->redF m t k (ydn (k+1) (λj=>f (j+1)) y) i=tn m t (k+1) (λj=>f (j+1)) y i:=λi hi=>zeg hm k _ y hy i hi
  rw[<-zec];unfold yay zaA;rw[if_pos hi,if_pos hi,e (m-1) (by lia)];by_cases h0:i=0
  ·rw[if_pos h0,if_pos h0]
  ·rw[if_neg h0,if_neg h0,e (i-1) (by lia)]
end
theorem zd1{m:Nat}{t:Nat->Nat}:∀(k:Nat) (f y:Nat->Nat) (i:Nat),(∀j,f j=0)->tn m t k f y i=0
 |0,_,_,_,_=>rfl
 |k+1,f,y,i,h=>by
  show f 0*y i+tn m t k (λj=>f (j+1)) (yay m t y) i=0;rw[h 0,zd1 k _ _ i λj=>h (j+1)];simp
theorem zcb{p a b c d:Nat}(h1:a%p=c%p)(h2:b%p=d%p):(a+b)%p=(c+d)%p:=by rw[Nat.add_mod,h1,h2,<-Nat.add_mod]
theorem ydh{p a b c d:Nat}(h1:a%p=c%p)(h2:b%p=d%p):(a*b)%p=(c*d)%p:=by rw[xBP,h1,h2,<-xBP]
theorem yed{p m:Nat}(hm:1<=m){t y y':Nat->Nat}(h:∀i,i<m->y i%p=y' i%p)(i:Nat):yay m t y i%p=yay m t y' i%p:=by
 unfold yay zaA;split
 ·refine zcb ?_ (ydh (h (m-1) (by lia)) rfl);split
  ·rfl
  ·exact h (i-1) (by lia)
 ·rfl
theorem zbd{p m:Nat}(hm:1<=m){t:Nat->Nat}:∀(k:Nat) (f y y':Nat->Nat),(∀i,i<m->y i%p=y' i%p)->∀i,i<m->tn m t k f y i%p=tn m t k f y' i%p
 |0,_,_,_,_,_,_=>rfl
 |k+1,f,y,y',h,i,hi=>zcb (ydh rfl (h i hi)) (zbd hm k _ _ _ (λj _=>yed hm h j) i hi)
theorem ydV(p x:Nat):(λj=>dg p (j+1) x)=λj=>dg p j (x/p):=by funext j;exact ybl p j x
theorem zew(p i x:Nat):dg p i x%p=dg p i x:=by unfold dg;exact Nat.mod_mod _ _
end Dg
end
section
namespace Dg
def ofF(p:Nat):Nat->(Nat->Nat)->Nat
 |0,_=>0
 |m+1,f=>f 0%p+p*ofF p m (λj=>f (j+1))
theorem zer{p:Nat}(hp:2<=p):∀(m:Nat) (f:Nat->Nat),ofF p m f<p^m
 |0,f=>by simp[ofF]
 |m+1,f=>by
  have h:=zer hp m λj=>f (j+1)
  have h1:f 0%p<p:=xBh _ (by lia);show f 0%p+p*ofF p m (λj=>f (j+1))<p^(m+1)
  calc f 0%p+p*ofF p m (λj=>f (j+1))<p+p*ofF p m (λj=>f (j+1)):=by lia
   _=p*(ofF p m (λj=>f (j+1))+1):=by rw[Nat.mul_add,Nat.mul_one,Nat.add_comm]
   _<=p*p^m:=Nat.mul_le_mul_left _ h
   _=p^(m+1):=by rw[xB5,xBq]
theorem ydt{p:Nat}(hp:2<=p):∀(m:Nat) (f:Nat->Nat) (i:Nat),dg p i (ofF p m f)=if i<m then f i%p else 0
 |0,f,i=>by simp[ofF,ybF]
 |m+1,f,i=>by
  have h1:f 0%p<p:=xBh _ (by lia);cases i with
  |zero=>
   rw[if_pos (by lia),ybp];show(f 0%p+p*ofF p m (λj=>f (j+1)))%p=f 0%p;rw[Nat.add_mul_mod_self_left,Nat.mod_mod]
  |succ i=>
   rw[ybl];show dg p i ((f 0%p+p*ofF p m (λj=>f (j+1)))/p)=_;rw[Nat.add_mul_div_left _ _ (by lia),Nat.div_eq_of_lt h1,xBO,ydt hp m];by_cases h:i<m
   ·rw[if_pos h,if_pos (by lia)]
   ·rw[if_neg h,if_neg (by lia)]
theorem ybt{p:Nat}(hp:2<=p){m a b:Nat}(ha:a<p^m)(hb:b<p^m)(h:∀i,i<m->dg p i a=dg p i b):a=b :=
 ext hp λi=>by
  by_cases hi:i<m
  ·exact h i hi
  ·rw[yaI hp ha (by lia),yaI hp hb (by lia)]
abbrev dgs(p x:Nat):Nat->Nat:=λi=>dg p i x
def add(p m x y:Nat):Nat:=ofF p m λi=>dg p i x+dg p i y
def sub(p m x y:Nat):Nat:=ofF p m λi=>dg p i x+(p-1)*dg p i y
def up(p m t x:Nat):Nat:=ofF p m (yay m (dgs p t) (dgs p x))
noncomputable def mulN(p m t:Nat):Nat->Nat->Nat->Nat
 |0,_,_=>0
 |k+1,x,y=>ofF p m λi=>x%p*dg p i y+dg p i (mulN p m t k (x/p) (up p m t y))
def mul(p m t x y:Nat):Nat:=mulN p m t m x y
section
variable {p m t:Nat} (hp:2<=p) (hm:1<=m)
include hp hm
theorem ye3:∀(k x y i:Nat),i<m->dg p i (mulN p m t k x y)=tn m (dgs p t) k (dgs p x) (dgs p y) i%p
 |0,x,y,i,hi=>by show dg p i 0=0%p;rw[ybF];simp
 |k+1,x,y,i,hi=>by
  show dg p i (ofF p m λi=>x%p*dg p i y+dg p i (mulN p m t k (x/p) (up p m t y)))=_;rw[ydt hp,if_pos hi];show _=(dg p 0 x*dg p i y+tn m (dgs p t) k (λj=>dg p (j+1) x) (yay m (dgs p t) (dgs p y)) i)%p;rw[ye3 k _ _ i hi,ybp];refine zcb rfl ?_;rw[Nat.mod_mod,ydV];refine zbd hm k _ _ _ (λj hj=>?_) i hi;show dg p j (up p m t y)%p=_;unfold up;rw[ydt hp,if_pos hj,Nat.mod_mod]
theorem zhi:∀(k x y:Nat),mulN p m t k x y<p^m
 |0,x,y=>xBf (by lia)
 |k+1,x,y=>zer hp _ _
theorem yaz(x y:Nat):mul p m t x y<p^m:=zhi hp hm _ _ _
theorem yaW(x y:Nat):add p m x y<p^m:=zer hp _ _
theorem zcY(x y:Nat):sub p m x y<p^m:=zer hp _ _
theorem zba(x y i:Nat)(hi:i<m):dg p i (mul p m t x y)=tn m (dgs p t) m (dgs p x) (dgs p y) i%p:=ye3 hp hm m x y i hi
theorem ybr(x y i:Nat)(hi:i<m):dg p i (add p m x y)=(dg p i x+dg p i y)%p:=by unfold add;rw[ydt hp,if_pos hi]
theorem yfz(x y i:Nat)(hi:i<m):dg p i (sub p m x y)=(dg p i x+(p-1)*dg p i y)%p:=by unfold sub;rw[ydt hp,if_pos hi]
theorem ygw{x y r:Nat}(hr:r<p^m)(h:∀i,i<m->dg p i r=tn m (dgs p t) m (dgs p x) (dgs p y) i%p):r=mul p m t x y :=
 ybt hp hr (yaz hp hm x y) λi hi=>by rw[h i hi,zba hp hm x y i hi]
theorem ygG{x y r:Nat}(hx:x<p^m)(hy:y<p^m)(h:∀i,dg p i r=(dg p i x+dg p i y)%p):r=add p m x y :=
 ext hp λi=>by
  by_cases hi:i<m
  ·rw[h,ybr hp hm x y i hi]
  ·rw[h,yaI hp (yaW hp hm x y) (by lia),yaI hp hx (by lia),yaI hp hy (by lia)];simp
end
section
variable {m:Nat} {t:Nat->Nat}
theorem ydz(c:Nat):∀(k:Nat) (f y z:Nat->Nat),tn m t k f (λi=>c*y i+z i)=λi=>c*tn m t k f y i+tn m t k f z i
 |0,f,y,z=>by funext i;rfl
 |k+1,f,y,z=>by
  funext i
  show f 0*(c*y i+z i)+tn m t k (λj=>f (j+1)) (yay m t λi=>c*y i+z i) i=c*(f 0*y i+tn m t k (λj=>f (j+1)) (yay m t y) i)+(f 0*z i+tn m t k (λj=>f (j+1)) (yay m t z) i);rw[zdz,ydz c k];dsimp only;rw[Nat.mul_add,Nat.mul_add,Nat.mul_left_comm]
  lia
theorem zd6:∀(k l:Nat) (f g y:Nat->Nat),tn m t k f (tn m t l g y)=tn m t l g (tn m t k f y)
 |0,l,f,g,y=>by
  show(λ_=>0)=tn m t l g (λ_=>0);have h:=ydz (m:=m) (t:=t) 0 l g (λ_=>0) (λ_=>0)
  funext i
  have h2:=ydz (m:=m) (t:=t) 1 l g (λ_=>0) (λ_=>0);have h3:=congrFun h2 i;simp at h3;exact h3.symm
 |k+1,l,f,g,y=>by
  show(λi=>f 0*tn m t l g y i+tn m t k (λj=>f (j+1)) (yay m t (tn m t l g y)) i)=tn m t l g (λi=>f 0*y i+tn m t k (λj=>f (j+1)) (yay m t y) i);rw[zec,zd6 k,ydz]
def ybJ(s:Nat):Nat->Nat:=λi=>if i=s then 1 else 0
theorem ye2{s:Nat}(h:s+1<m):yay m t (ybJ s)=ybJ (s+1):=by
 funext i
 unfold yay zaA ybJ;rw[if_neg (show ¬ m-1=s by lia),Nat.zero_mul,Nat.add_zero];by_cases hi:i<m
 ·rw[if_pos hi];by_cases h0:i=0
  ·rw[if_pos h0,if_neg (by lia)]
  ·rw[if_neg h0];by_cases hs:i-1=s
   ·rw[if_pos hs,if_pos (by lia)]
   ·rw[if_neg hs,if_neg (by lia)]
 ·rw[if_neg hi,if_neg (by lia)]
theorem zfQ:∀(k s:Nat) (f:Nat->Nat) (i:Nat),s+k<=m->tn m t k f (ybJ s) i=if s<=i/\i<s+k then f (i-s) else 0
 |0,s,f,i,_=>by rw[if_neg (by lia)];rfl
 |k+1,s,f,i,h=>by
  show f 0*ybJ s i+tn m t k (λj=>f (j+1)) (yay m t (ybJ s)) i=_;cases k with
  |zero=>
   show f 0*ybJ s i+0=_;unfold ybJ;by_cases hi:i=s
   ·rw[if_pos hi,if_pos (by lia)];subst hi;simp
   ·rw[if_neg hi,if_neg (by lia)];simp
  |succ k=>
   rw[ye2 (by lia),zfQ (k+1) (s+1) _ i (by lia)];unfold ybJ;by_cases hi:i=s
   ·subst hi;rw[if_pos rfl,if_neg (by lia),if_pos (by lia)];simp
   ·rw[if_neg hi];by_cases h2:s+1<=i/\i<s+1+(k+1)
    ·rw[if_pos h2,if_pos (by lia)];show f 0*0+f (i-(s+1)+1)=f (i-s);rw[Nat.mul_zero,xBO];congr 1;lia
    ·rw[if_neg h2,if_neg (by lia)];simp
theorem yfw(f:Nat->Nat)(i:Nat)(hi:i<m):tn m t m f (ybJ 0) i=f i:=by
 rw[zfQ m 0 f i (by lia),if_pos (by lia),Nat.sub_zero]
end
section
variable {p m t:Nat} (hp:2<=p) (hm:1<=m)
include hp hm
theorem mul_comm(x y:Nat):mul p m t x y=mul p m t y x:=by
 refine ybt hp (yaz hp hm _ _) (yaz hp hm _ _) λi hi=>?_
 rw[zba hp hm _ _ i hi,zba hp hm _ _ i hi];have h1:=zbd (p:=p) hm (t:=dgs p t) m (dgs p x) (dgs p y) (tn m (dgs p t) m (dgs p y) (ybJ 0)) (λj hj=>by rw[yfw _ j hj]) i hi;have h2:=zbd (p:=p) hm (t:=dgs p t) m (dgs p y) (dgs p x) (tn m (dgs p t) m (dgs p x) (ybJ 0)) (λj hj=>by rw[yfw _ j hj]) i hi;rw[h1,h2,zd6]
theorem mul_left_comm(x y z:Nat):mul p m t x (mul p m t y z)=mul p m t y (mul p m t x z):=by
 refine ybt hp (yaz hp hm _ _) (yaz hp hm _ _) λi hi=>?_
 rw[zba hp hm _ _ i hi,zba hp hm _ _ i hi];have h1:=zbd (p:=p) hm (t:=dgs p t) m (dgs p x) (dgs p (mul p m t y z)) (tn m (dgs p t) m (dgs p y) (dgs p z)) (λj hj=>by show dg p j _%p=_;rw[zba hp hm _ _ j hj,Nat.mod_mod]) i hi;have h2:=zbd (p:=p) hm (t:=dgs p t) m (dgs p y) (dgs p (mul p m t x z)) (tn m (dgs p t) m (dgs p x) (dgs p z)) (λj hj=>by show dg p j _%p=_;rw[zba hp hm _ _ j hj,Nat.mod_mod]) i hi;rw[h1,h2,zd6]
theorem mul_assoc(x y z:Nat):mul p m t (mul p m t x y) z=mul p m t x (mul p m t y z):=by
 rw[mul_comm hp hm _ z,mul_left_comm hp hm z x y,mul_comm hp hm z y]
theorem mul_add(x y z:Nat):mul p m t x (add p m y z)=add p m (mul p m t x y) (mul p m t x z):=by
 refine ybt hp (yaz hp hm _ _) (yaW hp hm _ _) λi hi=>?_
 rw[zba hp hm _ _ i hi,ybr hp hm _ _ i hi,zba hp hm _ _ i hi,zba hp hm _ _ i hi];have h1:=zbd (p:=p) hm (t:=dgs p t) m (dgs p x) (dgs p (add p m y z)) (λi=>1*dgs p y i+dgs p z i) (λj hj=>by show dg p j _%p=(1*dg p j y+dg p j z)%p;rw[ybr hp hm _ _ j hj,Nat.mod_mod,Nat.one_mul]) i hi;rw[h1,ydz];dsimp only;rw[Nat.one_mul,<-Nat.add_mod]
theorem zay:1<p^m:=by
 have:p^1<=p^m:=xAM (by lia) hm;rw[Nat.pow_one]at this;lia
theorem yhM(i:Nat):dg p i 1=ybJ 0 i:=by
 unfold ybJ;cases i with
 |zero=>rw[ybp,if_pos rfl,Nat.mod_eq_of_lt (by lia)]
 |succ i=>rw[if_neg (by lia),ybl,Nat.div_eq_of_lt (by lia),ybF]
theorem mul_one{x:Nat}(hx:x<p^m):mul p m t x 1=x:=by
 refine ybt hp (yaz hp hm _ _) hx λi hi=>?_
 rw[zba hp hm _ _ i hi,show dgs p 1=ybJ 0 from funext λi=>yhM hp hm i,yfw _ i hi,zew]
theorem one_mul{x:Nat}(hx:x<p^m):mul p m t 1 x=x:=by rw[mul_comm hp hm,mul_one hp hm hx]
theorem zero_mul(x:Nat):mul p m t 0 x=0:=by
 refine ybt hp (yaz hp hm _ _) (xBf (by lia)) λi hi=>?_
 rw[zba hp hm _ _ i hi,zd1 _ _ _ _ (λj=>ybF p j),ybF];simp
theorem mul_zero(x:Nat):mul p m t x 0=0:=by rw[mul_comm hp hm,zero_mul hp hm]
theorem add_comm(x y:Nat):add p m x y=add p m y x:=by
 unfold add;congr 1;funext i;exact Nat.add_comm _ _
theorem add_assoc(x y z:Nat):add p m (add p m x y) z=add p m x (add p m y z):=by
 refine ybt hp (yaW hp hm _ _) (yaW hp hm _ _) λi hi=>?_
 rw[ybr hp hm _ _ i hi,ybr hp hm _ _ i hi,ybr hp hm _ _ i hi,ybr hp hm _ _ i hi,Nat.mod_add_mod,Nat.add_mod_mod,Nat.add_assoc]
theorem add_zero{x:Nat}(hx:x<p^m):add p m x 0=x:=by
 refine ybt hp (yaW hp hm _ _) hx λi hi=>?_
 rw[ybr hp hm _ _ i hi,ybF,Nat.add_zero,zew]
theorem zero_add{x:Nat}(hx:x<p^m):add p m 0 x=x:=by rw[add_comm hp hm,add_zero hp hm hx]
theorem zb2{x y:Nat}(hx:x<p^m):add p m (sub p m x y) y=x:=by
 refine ybt hp (yaW hp hm _ _) hx λi hi=>?_
 rw[ybr hp hm _ _ i hi,yfz hp hm _ _ i hi,Nat.mod_add_mod,show dg p i x+(p-1)*dg p i y+dg p i y=dg p i x+p*dg p i y by obtain⟨k,rfl⟩:∃k,p=k+1:=⟨p-1,by lia⟩;rw[Nat.add_sub_cancel,Nat.add_mul];lia,Nat.add_mul_mod_self_left,zew]
theorem ya4{x y:Nat}(hx:x<p^m):sub p m (add p m x y) y=x:=by
 refine ybt hp (zcY hp hm _ _) hx λi hi=>?_
 rw[yfz hp hm _ _ i hi,ybr hp hm _ _ i hi,Nat.mod_add_mod,show dg p i x+dg p i y+(p-1)*dg p i y=dg p i x+p*dg p i y by obtain⟨k,rfl⟩:∃k,p=k+1:=⟨p-1,by lia⟩;rw[Nat.add_sub_cancel,Nat.add_mul];lia,Nat.add_mul_mod_self_left,zew]
def pw(p m t x:Nat):Nat->Nat
 |0=>1
 |n+1=>mul p m t (pw p m t x n) x
theorem yaS(x n:Nat):pw p m t x n<p^m:=by
 cases n with
 |zero=>exact zay hp hm
 |succ n=>exact yaz hp hm _ _
theorem zbF(x a:Nat):∀b,pw p m t x (a+b)=mul p m t (pw p m t x a) (pw p m t x b)
 |0=>(mul_one hp hm (yaS hp hm x a)).symm
 |b+1=>by
  show mul p m t (pw p m t x (a+b)) x=mul p m t (pw p m t x a) (mul p m t (pw p m t x b) x);rw[zbF x a b,mul_assoc hp hm]
theorem ycG{x:Nat}(hx:x<p^m):pw p m t x 1=x:=one_mul hp hm hx
theorem zbb(x a:Nat):∀b,pw p m t x (a*b)=pw p m t (pw p m t x a) b
 |0=>rfl
 |b+1=>by
  rw[Nat.mul_succ,zbF hp hm,zbb x a b];rfl
theorem yb7:∀n,pw p m t 1 n=1
 |0=>rfl
 |n+1=>by
  show mul p m t (pw p m t 1 n) 1=1;rw[yb7 n,mul_one hp hm (zay hp hm)]
theorem ybj(n:Nat):pw p m t 0 (n+1)=0:=mul_zero hp hm _
theorem ycM(x y:Nat):∀n,pw p m t (mul p m t x y) n=mul p m t (pw p m t x n) (pw p m t y n)
 |0=>(mul_one hp hm (zay hp hm)).symm
 |n+1=>by
  show mul p m t (pw p m t (mul p m t x y) n) (mul p m t x y)=mul p m t (mul p m t (pw p m t x n) x) (mul p m t (pw p m t y n) y);rw[ycM x y n,mul_assoc hp hm,mul_assoc hp hm,mul_left_comm hp hm (pw p m t y n) x y]
end
end Dg
end
section
namespace Dg
noncomputable def zdv:List (Nat×Nat×List (Nat×Nat)):=[(2,1,[(1,0)]),(2,2,[(2,2),(3,3),(2,3),(2,0)]),(2,3,[(2,4),(3,7),(2,5),(2,0),(2,6),(2,0),(2,7),(3,5)]),(2,4,[(2,8),(3,15),(2,9),(2,0),(2,10),(7,7),(2,11),(3,13),(2,12),(2,0),(2,13),(3,9),(2,14),(3,11),(2,15),(3,0)]),(3,1,[(2,0)]),(3,2,[(3,3),(4,5),(4,0),(3,5),(3,0),(4,4),(3,4),(3,0),(5,5)]),(3,3,[(3,9),(5,13),(4,16),(3,11),(6,0),(3,0),(3,10),(4,17),(5,14),(3,15),(4,14),(3,0),(3,17),(4,0),(4,13),(3,16),(5,10),(3,0),(3,12),(5,0),(5,17),(3,14),(4,11),(3,0),(3,13),(4,0),(4,10)]),(5,1,[(2,0)]),(5,2,[(5,5),(6,9),(7,0),(6,0),(7,8),(5,9),(7,7),(6,8),(5,0),(6,0),(5,8),(6,0),(5,0),(6,7),(9,9),(5,7),(8,0),(5,0),(8,9),(6,6),(5,6),(8,8),(7,9),(5,0),(7,0)]),(7,1,[(3,0)]),(11,1,[(2,0)]),(13,1,[(2,0)]),(2,5,[(2,16),(3,31),(2,17),(7,13),(2,18),(2,0),(2,19),(3,29),(2,20),(2,0),(2,21),(3,25),(2,22),(3,27),(2,23),(2,0),(2,24),(7,11),(2,25),(3,17),(2,26),(3,19),(2,27),(2,0),(2,28),(3,23),(2,29),(2,0),(2,30),(2,0),(2,31),(3,21)]),(2,6,[(2,32),(3,63),(2,33),(2,0),(2,34),(11,11),(2,35),(3,61),(2,36),(3,0),(2,37),(3,57),(2,38),(3,59),(2,39),(7,25),(2,40),(13,13),(2,41),(3,49),(2,42),(3,51),(2,43),(3,0),(2,44),(3,55),(2,45),(2,0),(2,46),(7,31),(2,47),(3,53),(2,48),(2,0),(2,49),(3,33),(2,50),(3,35),(2,51),(2,0),(2,52),(3,39),(2,53),(7,21),(2,54),(2,0),(2,55),(3,37),(2,56),(3,47),(2,57),(2,0),(2,58),(3,0),(2,59),(3,45),(2,60),(7,19),(2,61),(3,41),(2,62),(3,43),(2,63),(11,13)]),(7,2,[(7,7),(8,13),(10,11),(8,0),(9,12),(8,0),(9,0),(7,13),(9,0),(8,12),(9,0),(7,0),(10,10),(9,11),(7,12),(9,10),(7,0),(8,11),(7,0),(8,0),(13,13),(7,11),(8,0),(7,0),(9,9),(8,10),(12,13),(8,0),(7,10),(11,0),(7,0),(12,12),(11,13),(8,9),(11,0),(7,9),(11,12),(7,0),(10,13),(7,0),(10,0),(8,8),(7,8),(10,0),(9,13),(10,0),(7,0),(11,11),(10,12)]),(61,1,[(2,0)]),(17,1,[(3,0)]),(19,1,[(2,0)]),(23,1,[(5,0)]),(29,1,[(2,0)]),(31,1,[(3,0)]),(37,1,[(2,0)]),(41,1,[(6,0)]),(43,1,[(3,0)]),(47,1,[(5,0)]),(53,1,[(2,0)]),(59,1,[(2,0)])]
def menu:List (Nat×Nat):=zdv.map λc=>(c.1,c.2.1)
def ya5(p m t b:Nat):Nat->Nat->List Nat
 |_,0=>[]
 |x,n+1=>x::ya5 p m t b (mul p m t x b) n
def lowB(p m t b:Nat):Bool:=((ya5 p m t b 1 (p^m-1)).drop 1).contains 1
noncomputable def yft(p m t b:Nat):Bool:=(List.range b).all (λc=>c==0||lowB p m t c)&&!lowB p m t b&&decide (0<b)&&(List.range (p^m)).all (λy=>y==0||(ya5 p m t b 1 (p^m-1)).contains y)&&(ya5 p m t b 1 (p^m)).getLast?==some 1&&decide (b<p^m)
noncomputable def yec(p m t:Nat)(c:Nat×Nat):Bool:=if c.2=0 then yft p m t c.1 else decide (0<c.1/\c.1<p^m/\c.1<p^(m/2+1)/\c.2<p^m)&&mul p m t c.1 c.2==0
def ydO(p m:Nat):Nat->List (Nat×Nat)->Bool
 |_,[]=>true
 |t,c::cs=>yec p m t c&&ydO p m (t+1) cs
def zh0:Bool:=zdv.all λc=>ydO c.1 c.2.1 0 c.2.2
theorem zgv:zh0=true:=by decide +kernel
theorem zcB{p m t b:Nat}:∀(n k i:Nat),i<n->(ya5 p m t b (pw p m t b k) n)[i]?=some (pw p m t b (k+i))
 |0,k,i,h=>absurd h (Nat.not_lt_zero _)
 |n+1,k,0,h=>rfl
 |n+1,k,i+1,h=>by
  show(ya5 p m t b (pw p m t b (k+1)) n)[i]?=_;rw[zcB n (k+1) i (by lia),show k+1+i=k+(i+1) by lia]
theorem zcw{p m t b:Nat}:∀(n x:Nat),(ya5 p m t b x n).length=n
 |0,x=>rfl
 |n+1,x=>by show(ya5 p m t b _ n).length+1=_;rw[zcw n]
structure Prim(p m t b:Nat):Prop where
 lt:b<p^m
 round:pw p m t b (p^m-1)=1
 all:∀y,0<y->y<p^m->∃i,i<p^m-1/\pw p m t b i=y
 pos:0<b
 min:∀i,0<i->i<p^m-1->pw p m t b i≠1
 low:∀c,0<c->c<b->∃i,0<i/\i<p^m-1/\pw p m t c i=1
theorem ygF{p m t b:Nat}:lowB p m t b=true↔∃i,0<i/\i<p^m-1/\pw p m t b i=1:=by
 unfold lowB;rw[List.contains_iff_mem,List.mem_iff_getElem?];constructor
 ·rintro⟨j,h⟩;rw[List.getElem?_drop]at h;have hl:1+j<p^m-1:=by have:=(xAh.mp h).1;rw[zcw]at this;exact this
  have g:=zcB (p:=p) (m:=m) (t:=t) (b:=b) (p^m-1) 0 (1+j) hl;rw[show pw p m t b 0=1 from rfl,h]at g;exact⟨1+j,by lia,hl,by simpa using (xAF g).symm⟩
 ·rintro⟨i,h0,hi,e⟩;refine⟨i-1,?_⟩;rw[List.getElem?_drop,show 1+(i-1)=i by lia];have g:=zcB (p:=p) (m:=m) (t:=t) (b:=b) (p^m-1) 0 i hi;rw[show pw p m t b 0=1 from rfl,xBO,e]at g;exact g
theorem ycV{p m t b:Nat}(hq:0<p^m)(h:yft p m t b=true):Prim p m t b:=by
 unfold yft at h;simp only[xAw]at h;obtain⟨⟨⟨⟨⟨k1,k2⟩,k3⟩,h1⟩,h2⟩,h3⟩:=h;refine⟨xAn h3,?_,λy hy hy2=>?_,xAn k3,λi hi hi2 e=>?_,λc hc hc2=>?_⟩
 ·have e:(ya5 p m t b 1 (p^m)).getLast?=some 1:=by simpa using h2
  rw[List.getLast?_eq_getElem?,zcw]at e;have g:=zcB (p:=p) (m:=m) (t:=t) (b:=b) (p^m) 0 (p^m-1) (by lia);rw[show pw p m t b 0=1 from rfl]at g;rw[g]at e
  simpa using xAF e
 ·rw[xAY]at h1;have g:=h1 y (xAt.mpr hy2);rw[xBR]at g;rcases g with g|g
  ·have:y=0:=by simpa using g
   lia
  ·have g:y∈ya5 p m t b 1 (p^m-1):=List.contains_iff_mem.mp g;obtain⟨i,hi,e⟩:=List.mem_iff_getElem.mp g;rw[zcw]at hi;have g2:=zcB (p:=p) (m:=m) (t:=t) (b:=b) (p^m-1) 0 i hi;rw[show pw p m t b 0=1 from rfl,xAc (by rw[zcw];exact hi),e]at g2;exact⟨i,hi,by simpa using (xAF g2).symm⟩
 ·have:=ygF.mpr ⟨i,hi,hi2,e⟩;rw[this]at k2;cases k2
 ·have g:=xAY.mp k1 c (xAt.mpr hc2);rw[xBR]at g;rcases g with g|g
  ·have:c=0:=by simpa using g
   lia
  ·exact ygF.mp g
theorem ybB{p m:Nat}:∀(cs:List (Nat×Nat)) (t i:Nat) (c:Nat×Nat),ydO p m t cs=true->cs[i]?=some c->yec p m (t+i) c=true
 | [],t,i,c,_,h=>by simp at h
 |d::cs,t,0,c,h,e=>by
  have h:(yec p m t d&&ydO p m (t+1) cs)=true:=h;rw[xAw]at h;cases e;exact h.1
 |d::cs,t,i+1,c,h,e=>by
  have h:(yec p m t d&&ydO p m (t+1) cs)=true:=h;rw[xAw]at h;have g:=ybB cs (t+1) i c h.2 (by simpa using e);rw[show t+(i+1)=t+1+i by lia];exact g
theorem zfU(p t x y:Nat):mul p 1 t x y=mul p 1 0 x y:=rfl
theorem ycp(p t x:Nat):∀n,pw p 1 t x n=pw p 1 0 x n
 |0=>rfl
 |n+1=>by
  show mul p 1 t (pw p 1 t x n) x=mul p 1 0 (pw p 1 0 x n) x;rw[ycp p t x n,zfU]
structure Good(p m t:Nat):Prop where
 mem:(p,m)∈menu
 top:t<p^m
 no:m=1\/∀x y,0<x->x<p^m->x<p^(m/2+1)->0<y->y<p^m->mul p m t x y≠0
noncomputable def zf1:Bool:=zdv.all λc=>decide (2<=c.1/\1<=c.2.1/\c.1^c.2.1<=64)&&(if c.2.1=1 then decide (c.2.2.length=1)&&c.2.2.all (λd=>d.2==0) else decide (c.2.2.length=c.1^c.2.1))
theorem ycn:zf1=true:=by decide +kernel
theorem za8{p m:Nat}(h:(p,m)∈menu):2<=p/\1<=m/\p^m<=64:=by
 obtain⟨c,hc,e⟩:=xA9.mp h;cases e;have g:=xAY.mp ycn c hc;rw[xAw]at g;exact xAn g.1
theorem Good.prim{p m t:Nat}(h:Good p m t):∃b,Prim p m t b:=by
 obtain⟨c,hc,e⟩:=xA9.mp h.mem;obtain⟨p',m',cs⟩:=c;obtain⟨rfl,rfl⟩:p'=p/\m'=m:=by simpa using e
 have hs:=za8 h.mem;have hq:0<p'^m':=xBf (by lia);have g:=xAY.mp ycn _ hc;have a:=xAY.mp zgv _ hc;rw[xAw]at g;have g:=g.2;dsimp only at g a;by_cases h1:m'=1
 ·subst h1;rw[if_pos rfl,xAw]at g;have hl:cs.length=1:=xAn g.1;obtain⟨c,rfl⟩:∃c,cs=[c]:=by
   cases cs with
   |nil=>simp at hl
   |cons c r=>cases r with
    |nil=>exact⟨c,rfl⟩
    |cons d r=>simp at hl
  have a1:=ybB [c] 0 0 c a rfl;have c0:c.2=0:=by simpa using xAY.mp g.2 c (by simp)
  unfold yec at a1;rw[if_pos c0]at a1;have P:=ycV hq a1;refine⟨c.1,P.lt,?_,λy hy hy2=>?_,P.pos,λi h1 h2=>?_,λd h1 h2=>?_⟩
  ·rw[ycp];exact P.round
  ·obtain⟨i,hi,e⟩:=P.all y hy hy2;exact⟨i,hi,by rw[ycp];exact e⟩
  ·rw[ycp];exact P.min i h1 h2
  ·obtain⟨i,a,b,e⟩:=P.low d h1 h2;exact⟨i,a,b,by rw[ycp];exact e⟩
 ·rw[if_neg h1]at g;have hl:cs.length=p'^m':=xAn g;have ht:t<cs.length:=by rw[hl];exact h.top
  have a1:=ybB cs 0 t cs[t] a (xAc ht);rw[xBO]at a1;unfold yec at a1;by_cases c0:cs[t].2=0
  ·rw[if_pos c0]at a1;exact⟨_,ycV hq a1⟩
  ·rw[if_neg c0,xAw]at a1;have b:=xAn a1.1;rcases h.no with h2|h2
   ·exact absurd h2 h1
   ·exact absurd (by simpa using a1.2) (h2 _ _ b.1 b.2.1 b.2.2.1 (by lia) b.2.2.2)
section
variable {p m t:Nat} (G:Good p m t)
include G
theorem Good.hp:2<=p:=(za8 G.mem).1
theorem Good.hm:1<=m:=(za8 G.mem).2.1
theorem Good.hq:p^m<=64:=(za8 G.mem).2.2
theorem Good.fermat{x:Nat}(h0:0<x)(hx:x<p^m):pw p m t x (p^m-1)=1:=by
 obtain⟨b,P⟩:=G.prim;obtain⟨i,_,rfl⟩:=P.all x h0 hx;rw[<-zbb G.hp G.hm,xBq,zbb G.hp G.hm,P.round,yb7 G.hp G.hm]
theorem Good.inv{x:Nat}(h0:0<x)(hx:x<p^m):mul p m t (pw p m t x (p^m-2)) x=1:=by
 have h2:=zay G.hp G.hm;have e:p^m-1=(p^m-2)+1:=by lia
 have f:=G.fermat h0 hx;rw[e]at f;exact f
theorem Good.noz{x y:Nat}(h0:0<x)(hx:x<p^m)(k0:0<y)(hy:y<p^m):0<mul p m t x y:=by
 rcases xBe (mul p m t x y) with e|e
 ·have i:=G.inv h0 hx;have f:mul p m t (pw p m t x (p^m-2)) (mul p m t x y)=y:=by rw[<-mul_assoc G.hp G.hm,i,one_mul G.hp G.hm hy]
  rw[e,mul_zero G.hp G.hm]at f
  lia
 ·exact e
theorem Good.inj{b:Nat}(P:Prim p m t b):∀i j,i<p^m-1->j<p^m-1->pw p m t b i=pw p m t b j->i=j:=by
 have key:∀i j,i<j->j<p^m-1->pw p m t b i≠pw p m t b j:=by
  intro i j hij hj e;have hp:=G.hp;have hm:=G.hm;have h1:mul p m t (pw p m t b (p^m-1-i)) (pw p m t b i)=1:=by rw[<-zbF hp hm,show p^m-1-i+i=p^m-1 by lia,P.round]
  have h2:mul p m t (pw p m t b (p^m-1-i)) (pw p m t b j)=pw p m t b (j-i):=by
   rw[show j=i+(j-i) by lia,zbF hp hm,<-mul_assoc hp hm,h1,one_mul hp hm (yaS hp hm _ _),show i+(j-i)-i=j-i by lia]
  rw[<-e,h1]at h2;exact P.min (j-i) (by lia) (by lia) h2.symm
 intro i j hi hj e;rcases Nat.lt_trichotomy i j with h|h|h
 ·exact absurd e (key i j h hj)
 ·exact h
 ·exact absurd e.symm (key j i h hi)
theorem Good.pw_pos{b:Nat}(h0:0<b)(hb:b<p^m):∀n,0<pw p m t b n
 |0=>by show 0<1;lia
 |n+1=>G.noz (Good.pw_pos h0 hb n) (yaS G.hp G.hm _ _) h0 hb
theorem Good.pw_mod{x:Nat}(h0:0<x)(hx:x<p^m)(n:Nat):pw p m t x (n%(p^m-1))=pw p m t x n:=by
 have e:=Nat.div_add_mod n (p^m-1);have g:pw p m t x n=mul p m t (pw p m t x ((p^m-1)*(n/(p^m-1)))) (pw p m t x (n%(p^m-1))):=by rw[<-zbF G.hp G.hm,e]
 rw[g,zbb G.hp G.hm,G.fermat h0 hx,yb7 G.hp G.hm,one_mul G.hp G.hm (yaS G.hp G.hm _ _)]
end
end Dg
end
section
namespace Dg
def sumF(p m:Nat):Nat->(Nat->Nat)->Nat
 |0,_=>0
 |k+1,f=>add p m (sumF p m k f) (f k)
section
variable {p m t:Nat} (hp:2<=p) (hm:1<=m)
include hp hm
theorem zam:0<p^m:=xBf (by lia)
theorem zgz(k:Nat)(f:Nat->Nat):sumF p m k f<p^m:=by
 cases k with
 |zero=>exact zam hp hm
 |succ k=>exact yaW hp hm _ _
theorem zc2(f:Nat->Nat)(k:Nat):∀d,(∀i,k<=i->i<k+d->f i=0)->sumF p m (k+d) f=sumF p m k f
 |0,_=>rfl
 |d+1,h=>by
  show add p m (sumF p m (k+d) f) (f (k+d))=_;rw[h (k+d) (by lia) (by lia),add_zero hp hm (zgz hp hm _ _),zc2 f k d λi h1 h2=>h i h1 (by lia)]
theorem zaF{f g:Nat->Nat}:∀k,(∀i,i<k->f i=g i)->sumF p m k f=sumF p m k g
 |0,_=>rfl
 |k+1,h=>by
  show add p m (sumF p m k f) (f k)=add p m (sumF p m k g) (g k);rw[zaF k λi hi=>h i (by lia),h k (by lia)]
theorem zcE{f:Nat->Nat}(hf:∀i,f i<p^m):∀k,sumF p m (k+1) f=add p m (f 0) (sumF p m k λi=>f (i+1))
 |0=>by
  show add p m 0 (f 0)=add p m (f 0) 0;rw[add_comm hp hm]
 |k+1=>by
  show add p m (sumF p m (k+1) f) (f (k+1))=add p m (f 0) (add p m (sumF p m k λi=>f (i+1)) (f (k+1)));rw[zcE hf k,add_assoc hp hm]
end
def conv(p m t:Nat)(xs ys:List Nat)(n:Nat):Nat:=sumF p m (n+1) λi=>mul p m t (xs.getD i 0) (ys.getD (n-i) 0)
theorem zaB{xs:List Nat}{i:Nat}(h:xs.length<=i):xs.getD i 0=0:=by simp[List.getD,h]
end Dg
end
section
namespace Dg
def val(p m t x:Nat):List Nat->Nat
 | []=>0
 |a::r=>add p m (mul p m t (val p m t x r) x) a
section
variable {p m t:Nat} (hp:2<=p) (hm:1<=m)
include hp hm
theorem add_mul(x y z:Nat):mul p m t (add p m x y) z=add p m (mul p m t x z) (mul p m t y z):=by
 rw[mul_comm hp hm,mul_add hp hm,mul_comm hp hm z x,mul_comm hp hm z y]
theorem ycY(x:Nat)(l:List Nat):val p m t x l<p^m:=by
 cases l with
 |nil=>exact zam hp hm
 |cons a r=>exact yaW hp hm _ _
theorem zcy(z:Nat):∀(k:Nat) (f:Nat->Nat),sumF p m k (λi=>mul p m t (f i) z)=mul p m t (sumF p m k f) z
 |0,f=>(zero_mul hp hm z).symm
 |k+1,f=>by
  show add p m (sumF p m k λi=>mul p m t (f i) z) (mul p m t (f k) z)=mul p m t (add p m (sumF p m k f) (f k)) z;rw[zcy z k f,add_mul hp hm]
theorem zd8:∀(k:Nat) (f g:Nat->Nat),sumF p m k (λi=>add p m (f i) (g i))=add p m (sumF p m k f) (sumF p m k g)
 |0,f,g=>(add_zero hp hm (zam hp hm)).symm
 |k+1,f,g=>by
  show add p m (sumF p m k λi=>add p m (f i) (g i)) (add p m (f k) (g k))=add p m (add p m (sumF p m k f) (f k)) (add p m (sumF p m k g) (g k));rw[zd8 k f g,add_assoc hp hm,add_assoc hp hm];congr 1;rw[<-add_assoc hp hm,add_comm hp hm (sumF p m k g) (f k),add_assoc hp hm]
theorem zbk{x:Nat}(hx:x<p^m):∀l:List Nat,(∀a∈l,a<p^m)->val p m t x l=sumF p m l.length λk=>mul p m t (l.getD k 0) (pw p m t x k)
 | [],_=>rfl
 |a::r,h=>by
  have ih:=zbk hx r λb hb=>h b (xAb _ hb)
  show add p m (mul p m t (val p m t x r) x) a=sumF p m (r.length+1) _;rw[zcE hp hm (λi=>yaz hp hm _ _)];have e0:mul p m t ((a::r).getD 0 0) (pw p m t x 0)=a:=mul_one hp hm (h a xA7);have e1:sumF p m r.length (λi=>mul p m t ((a::r).getD (i+1) 0) (pw p m t x (i+1)))=mul p m t (val p m t x r) x:=by
   rw[ih,<-zcy hp hm];refine zaF hp hm _ λi hi=>?_
   show mul p m t (r.getD i 0) (mul p m t (pw p m t x i) x)=_;rw[mul_assoc hp hm]
  rw[e0,e1,add_comm hp hm]
end
end Dg
end
section
namespace Dg
def zf8(p m t:Nat):Bool:=(List.range (p^m)).all λy=>pw p m t (add p m 1 y) p==add p m 1 (pw p m t y p)
def yau(p m:Nat):Nat->List (Nat×Nat)->Bool
 |_,[]=>true
 |t,c::cs=>(if c.2=0 then zf8 p m t else true)&&yau p m (t+1) cs
def yhb:Bool:=zdv.all λc=>if c.2.1=1 then true else yau c.1 c.2.1 0 c.2.2
theorem yfs{α:Type}{f:α->Bool}{l:List α}(k:Nat)(a:(l.take k).all f=true)(b:(l.drop k).all f=true):l.all f=true:=by rw[<-List.take_append_drop k l,List.all_append,a,b];rfl
theorem ybs{p m:Nat}:∀(k t:Nat)(cs:List (Nat×Nat)),yau p m t (cs.take k)=true->yau p m (t+k) (cs.drop k)=true->yau p m t cs=true
|0,_,_,_,h=>h
|_+1,_,[],_,_=>rfl
|k+1,t,c::cs,a,b=>by
 have a:((if c.2=0 then zf8 p m t else true)&&yau p m (t+1) (cs.take k))=true:=a;rw[xAw]at a;show((if c.2=0 then zf8 p m t else true)&&yau p m (t+1) cs)=true;rw[a.1,Bool.true_and];exact ybs k (t+1) cs a.2 (by rw[show t+1+k=t+(k+1) by lia];exact b)
def yfc(c:Nat×Nat×List (Nat×Nat)):Bool:=if c.2.1=1 then true else yau c.1 c.2.1 0 c.2.2
def yfX:List (Nat×Nat):=(zdv.getD 13 (0,0,[])).2.2
theorem zgZ:(zdv.take 13).all yfc=true:=by decide +kernel
theorem ygI:yau 2 6 0 (yfX.take 20)=true:=by decide +kernel
theorem yhg:yau 2 6 20 ((yfX.drop 20).take 20)=true:=by decide +kernel
theorem zgN:yau 2 6 40 ((yfX.drop 20).drop 20)=true:=by decide +kernel
theorem zgV:(zdv.drop 14).all yfc=true:=by decide +kernel
theorem zhp:yfc (zdv.getD 13 (0,0,[]))=true:=ybs 20 0 yfX ygI (ybs 20 20 _ yhg zgN)
theorem yhj:yhb=true:=yfs (f:=yfc) 13 zgZ (yfs (f:=yfc) 1 ((Bool.and_true _).trans zhp) zgV)
theorem yb4{p m:Nat}:∀(cs:List (Nat×Nat)) (t i:Nat) (c:Nat×Nat),yau p m t cs=true->cs[i]?=some c->c.2=0->zf8 p m (t+i)=true
 | [],_,_,_,_,h,_=>by cases h
 |d::cs,t,0,c,h,e,h0=>by
  cases e;unfold yau at h;rw[xAw,if_pos h0]at h;exact h.1
 |d::cs,t,i+1,c,h,e,h0=>by
  unfold yau at h;rw[xAw]at h;have:=yb4 cs (t+1) i c h.2 e h0;rw[show t+(i+1)=t+1+i by lia];exact this
section
variable {p m t:Nat} (G:Good p m t)
include G
theorem Good.pw_q{x:Nat}(hx:x<p^m):pw p m t x (p^m)=x:=by
 have h1:=zay G.hp G.hm;rcases xBe x with h|h
 ·rw[h,show p^m=(p^m-1)+1 by lia,ybj G.hp G.hm]
 ·rw[show pw p m t x (p^m)=pw p m t x ((p^m-1)+1) by congr 1;lia,zbF G.hp G.hm,G.fermat h hx,ycG G.hp G.hm hx,one_mul G.hp G.hm hx]
theorem Good.frob1{y:Nat}(hy:y<p^m):pw p m t (add p m 1 y) p=add p m 1 (pw p m t y p):=by
 obtain⟨c,hc,e⟩:=xA9.mp G.mem;obtain⟨p',m',cs⟩:=c;obtain⟨rfl,rfl⟩:p'=p/\m'=m:=by simpa using e
 by_cases h1:m'=1
 ·subst h1;have e1:=G.pw_q (yaW (m:=1) G.hp G.hm 1 y);have e2:=G.pw_q hy;rw[Nat.pow_one]at e1 e2;rw[e1,e2]
 ·have g:=xAY.mp ycn _ hc;have a:=xAY.mp zgv _ hc;have f:=xAY.mp yhj _ hc;rw[xAw]at g;have g:=g.2;dsimp only at g a f;rw[if_neg h1]at g f;have hl:cs.length=p'^m':=xAn g;have ht:t<cs.length:=by rw[hl];exact G.top
  have a1:=ybB cs 0 t cs[t] a (xAc ht);rw[xBO]at a1;unfold yec at a1;by_cases c0:cs[t].2=0
  ·have f1:=yb4 cs 0 t cs[t] f (xAc ht) c0;rw[xBO]at f1;have:=xAY.mp f1 y (xAt.mpr hy);exact xBC this
  ·rw[if_neg c0,xAw]at a1;have b:=xAn a1.1;rcases G.no with h2|h2
   ·exact absurd h2 h1
   ·exact absurd (by simpa using a1.2) (h2 _ _ b.1 b.2.1 b.2.2.1 (by lia) b.2.2.2)
theorem Good.frob{x y:Nat}(hx:x<p^m)(hy:y<p^m):pw p m t (add p m x y) p=add p m (pw p m t x p) (pw p m t y p):=by
 have hp:=G.hp;have hm:=G.hm;rcases xBe x with h|h
 ·rw[h,zero_add hp hm hy,show p=(p-1)+1 by lia,ybj (by lia) (by lia),<-show p=(p-1)+1 by lia,zero_add hp hm (yaS hp hm _ _)]
 ·have hi:=yaS hp hm (t:=t) x (p^m-2);have e1:y=mul p m t x (mul p m t (pw p m t x (p^m-2)) y):=by
   rw[<-mul_assoc hp hm,mul_comm hp hm x,G.inv h hx,one_mul hp hm hy]
  have e2:add p m x y=mul p m t x (add p m 1 (mul p m t (pw p m t x (p^m-2)) y)):=by
   rw[mul_add hp hm,mul_one hp hm hx,<-e1]
  rw[e2,ycM hp hm,G.frob1 (yaz hp hm _ _),mul_add hp hm,mul_one hp hm (yaS hp hm _ _),<-ycM hp hm,<-e1]
theorem Good.frobN:∀(k:Nat) {x y:Nat},x<p^m->y<p^m->pw p m t (add p m x y) (p^k)=add p m (pw p m t x (p^k)) (pw p m t y (p^k))
 |0,x,y,hx,hy=>by
  rw[Nat.pow_zero,ycG G.hp G.hm (yaW G.hp G.hm _ _),ycG G.hp G.hm hx,ycG G.hp G.hm hy]
 |k+1,x,y,hx,hy=>by
  rw[xB5,zbb G.hp G.hm,zbb G.hp G.hm,zbb G.hp G.hm,Good.frobN k hx hy,G.frob (yaS G.hp G.hm _ _) (yaS G.hp G.hm _ _)]
end
end Dg
end
section
namespace L2
open PySem PySem.Spec PyProof.Rows
end L2
end
section
namespace L2
open PySem PySem.Spec PyProof.Rows
end L2
end
section
namespace L2
open PySem PySem.Spec PyProof.Rows
end L2
end
section
namespace L2
open PySem PySem.Spec PyProof.Rows PySem.W
end L2
namespace L2
open PySem PySem.Spec PyProof.Rows PySem.W
end L2
namespace L2
open PySem PySem.Spec PyProof.Rows
end L2
namespace L2
open PySem PySem.Spec PyProof.Rows
end L2
namespace L2
open PySem PySem.Spec PyProof.Rows
end L2
end
section
namespace L2
open PySem PySem.Spec PyProof.Rows
end L2
namespace L2
open PySem PySem.Spec PyProof.Rows
end L2
end
section
namespace L2
open PySem PySem.Spec PyProof.Rows
end L2
namespace L2
open PySem PySem.Spec PyProof.Rows
section
variable {X:Cx}
noncomputable def zhF(K:PySem.W.Frag):List V->Hp->VK->Prop:=λvs H Q=>Ex2 λ(a:Addr) (d:PyData)=>vs=[.ref a]/\RdN K H 10 (.ref a) d/\DOk d (2^20)/\Q (.str d.shown) H
theorem zbD(hg:X.A.guards=some [])(hu:X.A.units+64<cLine):zbo X (.builtin "repr") (zhF X.K):=by
 intro pins s σ H vs us Q I r h;obtain⟨a,d,rfl,hd,ok,q⟩:=h;obtain⟨u,rfl,rx⟩:=ybG r;cases rx;have R:=zeC I 10 (.ref a) d (.ref a) hd rfl;refine repr_of_reads' R ok.sh (PyData.noDict_hsm ok.nd) hg (by have:=ok.dp;lia) (λ_ _ e=>e) (λh' u tk hk=>?_) (PyData.shown_fits (B:=8) (by decide) (by decide) ok.sl ok.we);exact⟨.str _,H,I.kept (λb o e=>hk b o e),⟨u,rfl⟩,q⟩
end
end L2
namespace L2
open PySem PySem.Spec PyProof.Rows PySem.W
end L2
end
section
namespace L2
open PySem PySem.Spec PyProof.Rows
end L2
namespace L2
open PySem PySem.Spec PyProof.Rows
end L2
end
section
namespace L2
open PySem PySem.Spec PyProof.Rows
section
variable {X:Cx}
theorem ygk{K:PySem.W.Frag}(h:X.K=K):OpR X (binaryOp .Add) (zgR K):=h ▸ zcA
end
end L2
end
section
namespace L2
open PySem PySem.Spec PyProof.Rows
end L2
end
section
namespace L2
open PySem PySem.Spec PyProof.Rows
end L2
end
section
namespace L2
open PySem PySem.W PySem.Calls PyProof.Rows
local macro_rules | `(tactic| ac_rfl) => `(tactic| first | omega | (dsimp only; omega))
def ygX:Bool->Keyed->Array Keyed->Nat->Nat->Nat->StateT SortSt Sem (Option Nat):=sortPriv% PySem.Builtin.gallop
def zgf:Array Keyed->Array Keyed->StateT SortSt Sem (Array Keyed):=sortPriv% PySem.Builtin.mergeLo
def zf7:Array Keyed->Array Keyed->StateT SortSt Sem (Array Keyed):=sortPriv% PySem.Builtin.mergeHi
section
variable {prog:Program} {w:World} {A:Around} {E:Value->Shared->Prop} {s:Shared} {κ:SortKind}
theorem S_if{α σ:Type}{c:Prop}[Decidable c]{m₁ m₂:StateT σ Sem α}{Q:α->σ->Prop}{st:σ}(h₁:c->wpS M A E s m₁ Q st)(h₂:¬ c->wpS M A E s m₂ Q st):wpS M A E s (if c then m₁ else m₂) Q st:=by
 split
 ·exact h₁ ‹_›
 ·exact h₂ ‹_›
theorem ybE{β σ:Type}{M:Model}{a b:Nat}{f:Nat->β->StateT σ Sem (ForInStep β)}(I:Nat->β->σ->Prop)(R:β->σ->Prop){Q:β->σ->Prop}{c:β}{st:σ}(h:I a c st)(hend:∀c st,I (max a b) c st->R c st)(hq:∀c st,R c st->Q c st)
  (hstep:∀i c st,a<=i->i<b->I i c st->wpS M A E s (f i c) (λr st'=>match r with | .done c'=>R c' st' | .yield c'=>I (i+1) c' st') st):wpS M A E s (forIn [a:b] c f) Q st:=wpS_mono (wpS_forRange (Q:=R) I hstep hend h) hq
noncomputable def AnsL(prog:Program)(w:World)(A:Around)(s:Shared)(κ:SortKind)(g:Keyed->Prop)(lt:Keyed->Keyed->Bool):Prop:=∀(x y:Keyed) (C:Bool->Shared->Prop),g x->g y->C (lt x y) s->wpAny (model prog w) A (keyLt' κ x.1 y.1) C (λ_ _=>False) s
structure Ordr(lt:Keyed->Keyed->Bool):Prop where
 asym:∀ {x y},lt x y=true->lt y x=false
 trans:∀ {x y z},lt y x=false->lt z y=false->lt z x=false
variable {g:Keyed->Prop} {lt:Keyed->Keyed->Bool} (hA:AnsL prog w A s κ g lt)
include hA
theorem S_lt{st:SortSt}{x y:Keyed}{Q:Option Bool->SortSt->Prop}(hk:kindOf st=κ)(gx:g x)(gy:g y)(h:Q (some (lt x y)) st):wpS (model prog w) A E s (lt' x y) Q st:=by
 rw[lt'_eq];refine xAj (wpS_get ?_);rw[hk];refine xAj (wpS_lift (wpAny_attempt (xBE (hA x y (λb s'=>s'=s/\b=lt x y) gx gy ⟨rfl,rfl⟩) (λb s' hb=>?_) λ_ _ e=>e.elim)));obtain⟨rfl,rfl⟩:=hb;exact⟨rfl,xAs h⟩
omit hA in
theorem zaw{st:SortSt}{a:Array Keyed}{i:Nat}{Q:Keyed->SortSt->Prop}(hi:i<a.size)(h:Q a[i] st):wpS (model prog w) A E s (elem' a i) Q st:=by
 rw[elem'_eq,xAK hi];exact xAs h
theorem zhv{st:SortSt}{i j:Nat}{Q:Option Bool->SortSt->Prop}(hk:kindOf st=κ)(hi:i<(arrOf st).size)(hj:j<(arrOf st).size)(gs:∀x∈(arrOf st).toList,g x)(h:Q (some (lt (arrOf st)[i] (arrOf st)[j])) st):wpS (model prog w) A E s (ltAt' i j) Q st:=by
 rw[ltAt'_eq];refine xAj (wpS_get ?_);refine xAj (zaw hi (xAj (zaw hj ?_)));exact S_lt hA hk (gs _ (by simp)) (gs _ (by simp)) h
omit hA in
theorem gd{a:Array Keyed}(gs:∀x∈a.toList,g x){i:Nat}(hi:i<a.size):g a[i]:=gs _ (by simp)
omit hA in
def av(a:Array Keyed)(i:Nat):Keyed:=a.getD i (Value.none,Value.none)
omit hA in
theorem ya6{a:Array Keyed}{i:Nat}(h:i<a.size):a[i]=av a i:=by simp[av,Array.getD,h]
noncomputable def bB(lt:Keyed->Keyed->Bool)(left:Bool)(key:Keyed)(a:Array Keyed)(j:Nat):Bool:=if left=true then lt (av a j) key else !lt key (av a j)
noncomputable def beyG(left:Bool)(key:Keyed)(a:Array Keyed)(j:Nat):StateT SortSt Sem (Option Bool):=elem' a j >>= λx=>if left=true then lt' x key else lt' key x >>= λr=>pure (r.map λb=>!b)
theorem yf2{st:SortSt}{left:Bool}{key:Keyed}{a:Array Keyed}{j:Nat}{Q:Option Bool->SortSt->Prop}(hk:kindOf st=κ)(gk:g key)(gs:∀x∈a.toList,g x)(hj:j<a.size)(h:Q (some (bB lt left key a j)) st):wpS (model prog w) A E s (beyG left key a j) Q st:=by
 refine xAj (zaw hj ?_);unfold bB at h;rw[<-ya6 hj]at h;cases left
 ·exact xAj (S_lt hA hk gk (gd gs hj) (xAs h))
 ·exact S_lt hA hk (gd gs hj) gk h
theorem zby{st:SortSt}{left:Bool}{key:Keyed}{a:Array Keyed}{base n hint:Nat}{Q:Option Nat->SortSt->Prop}(hk:kindOf st=κ)(gk:g key)(gs:∀x∈a.toList,g x)(hb:base+n<=a.size)(hh:hint<n)(hM:∀i j,i<=j->j<n->bB lt left key a (base+j)=true->bB lt left key a (base+i)=true)
  (h:∀k,k<=n->(∀i,i<k->bB lt left key a (base+i)=true)->(∀i,k<=i->i<n->bB lt left key a (base+i)=false)->Q (some k) st):wpS (model prog w) A E s (ygX left key a base n hint) Q st:=by
 have hF:∀i j,i<=j->j<n->bB lt left key a (base+i)=false->bB lt left key a (base+j)=false:=λi j h1 h2 h3=>by
  cases e:bB lt left key a (base+j)
  ·rfl
  ·rw[hM i j h1 h2 e]at h3;cases h3
 have fin:∀(lo hi:Nat),hi<=n->(∀i,i<lo->i<n->bB lt left key a (base+i)=true)->(∀i,hi<=i->i<n->bB lt left key a (base+i)=false)->wpS (model prog w) A E s (forIn [:n] ((none,lo,hi):Option (Option Nat)×Nat×Nat) λ_ z=>if z.2.1>=z.2.2 then pure (ForInStep.done (none,z.2.1,z.2.2)) else beyG left key a (base+(z.2.1+(z.2.2-z.2.1)/2)) >>= λr=>match r with
   |some c=>if c=true then pure (ForInStep.yield (none,z.2.1+(z.2.2-z.2.1)/2+1,z.2.2)) else pure (ForInStep.yield (none,z.2.1,z.2.1+(z.2.2-z.2.1)/2))
   |_=>pure (ForInStep.done (some none,z.2.1,z.2.2))) (λz st'=>st'=st/\z.1=none/\z.2.2<=n/\(∀i,i<z.2.2->bB lt left key a (base+i)=true)/\(∀i,z.2.2<=i->i<n->bB lt left key a (base+i)=false)) st:=by
  intro lo hi h1 h2 h3;refine ybE (λc (z:Option (Option Nat)×Nat×Nat) st'=>st'=st/\z.1=none/\z.2.2<=n/\z.2.2+c<=z.2.1+n/\(∀i,i<z.2.1->i<n->bB lt left key a (base+i)=true)/\(∀i,z.2.2<=i->i<n->bB lt left key a (base+i)=false)) (λ(z:Option (Option Nat)×Nat×Nat) st'=>st'=st/\z.1=none/\z.2.2<=n/\z.2.2<=z.2.1/\(∀i,i<z.2.1->i<n->bB lt left key a (base+i)=true)/\(∀i,z.2.2<=i->i<n->bB lt left key a (base+i)=false)) ⟨rfl,rfl,h1,(by ac_rfl),h2,h3⟩ ?_ ?_ ?_
  ·rintro⟨r,lo,hi⟩ st' ⟨h1,h2,h3,h4,h5⟩;exact⟨h1,h2,h3,(by ac_rfl),h5⟩
  ·rintro⟨r,lo,hi⟩ st' ⟨h1,h2,h3,h4,h5,h6⟩;dsimp only at h3 h4;exact⟨h1,h2,h3,λi hj=>h5 i (xAv hj h4) (xAv hj h3),h6⟩
  rintro c ⟨r,lo,hi⟩ st' _ _ ⟨rfl,e,h1,h2,h3,h4⟩;dsimp only at e h1 h2 h3 h4;refine S_if (λcc=>xAs ⟨rfl,rfl,h1,cc,h3,h4⟩) λcc=>?_
  dsimp only at cc;refine xAj (yf2 hA hk gk gs (by ac_rfl) ?_);cases hc:bB lt left key a (base+(lo+(hi-lo)/2))
  ·exact xAs ⟨rfl,rfl,(by ac_rfl),(by ac_rfl),h3,λi i1 i2=>hF _ _ i1 i2 hc⟩
  ·exact xAs ⟨rfl,rfl,h1,(by ac_rfl),λi i1 i2=>hM _ (lo+(hi-lo)/2) (by dsimp only at i1;omega) (by omega) hc,h4⟩
 refine xAj ?_;refine yf2 (j:=base+hint) hA hk gk gs (by omega) ?_;cases hc:bB lt left key a (base+hint)
 ·refine xAj (ybE (λc z st'=>st'=st/\z.1=none/\c+1<=z.2.2/\bB lt left key a (base+(hint-z.2.1))=false) (λz st'=>st'=st/\z.1=none/\bB lt left key a (base+(hint-z.2.1))=false/\(hint+1<=z.2.2\/bB lt left key a (base+(hint-z.2.2))=true)) ⟨rfl,rfl,xA5 _,hc⟩ ?_ ?_ ?_)
  ·rintro⟨r,lo,hi⟩ st' ⟨h1,h2,h3,h4⟩;exact⟨h1,h2,h4,.inl (by ac_rfl)⟩
  ·rintro⟨r,lo,hi⟩ st' ⟨rfl,e,h4,h5⟩;dsimp only at e h4 h5;subst e;refine xAj (wpS_mono (fin _ _ (by ac_rfl) (λi i1 i2=>?_) λi i1 i2=>hF _ _ i1 i2 h4) ?_)
   ·dsimp only at i1;rcases h5 with h5|h5
    ·omega
    ·exact hM i (hint-hi) (by omega) (by omega) h5
   rintro⟨r,lo',hi'⟩ st'' ⟨rfl,e,h1,h2,h3⟩;dsimp only at e h1;subst e;exact xAs (h _ h1 h2 h3)
  ·rintro i ⟨r,lo,hi⟩ st' _ _ ⟨rfl,e,h1,h2⟩;dsimp only at e h1 h2;refine S_if (λcc=>xAs ⟨rfl,rfl,h2,.inl cc⟩) λcc=>?_
   dsimp only at cc;refine xAj (yf2 (j:=base+(hint-hi)) hA hk gk gs (by omega) ?_);cases hc2:bB lt left key a (base+(hint-hi))
   ·exact xAs ⟨rfl,rfl,(by ac_rfl),hc2⟩
   ·exact xAs ⟨rfl,rfl,h2,.inr hc2⟩
 ·refine xAj (ybE (λc z st'=>st'=st/\z.1=none/\c+1<=z.2.2/\z.2.1<n-hint/\bB lt left key a (base+(hint+z.2.1))=true) (λz st'=>st'=st/\z.1=none/\z.2.1<n-hint/\bB lt left key a (base+(hint+z.2.1))=true/\(n-hint<=z.2.2\/(hint+z.2.2<n/\bB lt left key a (base+(hint+z.2.2))=false))) ⟨rfl,rfl,xA5 _,(by ac_rfl),hc⟩ ?_ ?_ ?_)
  ·rintro⟨r,lo,hi⟩ st' ⟨h1,h2,h3,h4,h5⟩;exact⟨h1,h2,h4,h5,.inl (by ac_rfl)⟩
  ·rintro⟨r,lo,hi⟩ st' ⟨rfl,e,h3,h4,h5⟩;dsimp only at e h3 h4 h5;subst e;refine xAj (wpS_mono (fin _ _ (by ac_rfl) (λi i1 i2=>hM i (hint+lo) (by dsimp only at i1;omega) (by omega) h4) λi i1 i2=>?_) ?_)
   ·dsimp only at i1;rcases h5 with h5 |⟨h5,h6⟩
    ·omega
    ·exact hF (hint+hi) i (by omega) i2 h6
   rintro⟨r,lo',hi'⟩ st'' ⟨rfl,e,h1,h2,h3⟩;dsimp only at e h1;subst e;exact xAs (h _ h1 h2 h3)
  ·rintro i ⟨r,lo,hi⟩ st' _ _ ⟨rfl,e,h1,h2,h3⟩;dsimp only at e h1 h2 h3;refine S_if (λcc=>xAs ⟨rfl,rfl,h2,h3,.inl cc⟩) λcc=>?_
   dsimp only at cc;refine xAj (yf2 (j:=base+(hint+hi)) hA hk gk gs (by omega) ?_);cases hc2:bB lt left key a (base+(hint+hi))
   ·exact xAs ⟨rfl,rfl,h2,h3,.inr ⟨(by ac_rfl),hc2⟩⟩
   ·exact xAs ⟨rfl,rfl,(by ac_rfl),(by ac_rfl),hc2⟩
end
end L2
end
section
namespace L2
open PySem PySem.W PySem.Calls PyProof.Rows
local macro_rules | `(tactic| ac_rfl) => `(tactic| first | omega | (dsimp only; omega))
theorem nbeq{x y:Nat}(h:¬ (x==y)=true):x≠y:=λe=>h (by rw[e];exact xBg _)
theorem pm1{α:Type}(o U A D:List α):(o++U++A++D).Perm (o++A++(U++D)):=by
 rw[xBo,xBo,xBo];refine List.Perm.append_left o ?_;rw[<-xBo,<-xBo];exact List.Perm.append_right D List.perm_append_comm
theorem ydv{α:Type}{a:Array α}{i:Nat}(h:i<a.size):a.toList.drop i=a[i]::a.toList.drop (i+1):=by
 rw[List.drop_eq_getElem_cons (by simpa using h)];rfl
theorem yep{α:Type}(a:Array α)(i k:Nat):a.toList.drop i=(a.extract i (i+k)).toList++a.toList.drop (i+k):=by
 rw[Array.toList_extract,List.extract_eq_take_drop,Nat.add_sub_cancel_left,<-List.drop_drop,List.take_append_drop]
theorem zbu{α:Type}(a:Array α)(i:Nat):(a.extract i a.size).toList=a.toList.drop i:=by
 rw[Array.toList_extract,List.extract_eq_take_drop,List.take_of_length_le (by simp)]
section
variable {a b o:Array Keyed} {i j:Nat} {X:List Keyed}
theorem mj_b(h:(o.toList++a.toList.drop i++b.toList.drop j).Perm X)(hj:j<b.size):((o.push b[j]).toList++a.toList.drop i++b.toList.drop (j+1)).Perm X:=by
 rw[ydv hj]at h;rw[xB1];exact(pm1 _ [b[j]] _ _).trans h
theorem mj_a(h:(o.toList++a.toList.drop i++b.toList.drop j).Perm X)(hi:i<a.size):((o.push a[i]).toList++a.toList.drop (i+1)++b.toList.drop j).Perm X:=by
 rw[ydv hi]at h;rw[xB1]
 simpa using h
theorem zh6(k:Nat)(h:(o.toList++a.toList.drop i++b.toList.drop j).Perm X):((o++b.extract j (j+k)).toList++a.toList.drop i++b.toList.drop (j+k)).Perm X:=by
 rw[yep b j k]at h;rw[xAp];exact(pm1 _ _ _ _).trans h
theorem zh4(k:Nat)(h:(o.toList++a.toList.drop i++b.toList.drop j).Perm X):((o++a.extract i (i+k)).toList++a.toList.drop (i+k)++b.toList.drop j).Perm X:=by
 rw[yep a i k]at h;rw[xAp]
 simpa using h
theorem zgM(h:(o.toList++a.toList.drop i++b.toList.drop j).Perm X):(o++a.extract i a.size++b.extract j b.size).toList.Perm X:=by
 rw[xAp,xAp,zbu,zbu];exact h
theorem ygM(h:(o.toList++a.toList.drop i++b.toList.drop j).Perm X):(o++b.extract j b.size++a.extract i a.size).toList.Perm X:=by
 rw[xAp,xAp,zbu,zbu];refine List.Perm.trans ?_ h;rw[xBo,xBo];exact List.Perm.append_left _ List.perm_append_comm
end
noncomputable def Sm(st st':SortSt):Prop:=kindOf st'=kindOf st/\arrOf st'=arrOf st/\pendingOf st'=pendingOf st/\failedOf st'=failedOf st
def SrtL(lt:Keyed->Keyed->Bool)(l:List Keyed):Prop:=l.Pairwise λx y=>lt y x=false
section
variable {lt:Keyed->Keyed->Bool} (hO:Ordr lt)
include hO
theorem Ordr.refl(x:Keyed):lt x x=false:=by
 cases e:lt x x
 ·rfl
 ·rw[hO.asym e]at e;cases e
theorem zb5{l:Array Keyed}{i:Nat}{x:Keyed}(hs:SrtL lt l.toList)(hi:i<l.size)(h:lt l[i] x=false):∀y∈l.toList.drop i,lt y x=false:=λy hy=>by
 have h2:(l.toList.drop i).Pairwise λx y=>lt y x=false:=xAO (List.drop_sublist _ _) hs
 rw[ydv hi]at hy h2;rcases xAa.mp hy with rfl|hy
 ·exact h
 ·exact hO.trans h (List.rel_of_pairwise_cons h2 hy)
omit hO in
theorem ygB{l:Array Keyed}{i:Nat}(hs:SrtL lt l.toList)(hi:i<l.size):∀y∈l.toList.drop (i+1),lt y l[i]=false:=λy hy=>by
 have h2:(l.toList.drop i).Pairwise λx y=>lt y x=false:=xAO (List.drop_sublist _ _) hs
 rw[ydv hi]at h2;exact List.rel_of_pairwise_cons h2 hy
theorem zdy{l:Array Keyed}(hs:SrtL lt l.toList){i j:Nat}(h:i<=j)(hj:j<l.size):lt (av l j) (av l i)=false:=by
 rw[<-ya6 hj,<-ya6 (xBr h hj)];rcases xAP i j with c|c
 ·exact List.pairwise_iff_getElem.mp hs i j (by rw[xA4];omega) (by rw[xA4];exact hj) c
 ·cases Nat.le_antisymm h c;exact hO.refl _
theorem zcS{left:Bool}{key:Keyed}{a:Array Keyed}{base n:Nat}(hs:∀i j,i<=j->j<n->lt (av a (base+j)) (av a (base+i))=false):∀i j,i<=j->j<n->bB lt left key a (base+j)=true->bB lt left key a (base+i)=true:=λi j h1 h2 h3=>by
 have h4:=hs i j h1 h2;unfold bB at h3 ⊢;cases left
 ·have h5:lt key (av a (base+j))=false:=by simpa using h3
  have:=hO.trans h4 h5;simp[this]
 ·have h5:lt (av a (base+j)) key=true:=by simpa using h3
  cases e:lt (av a (base+i)) key
  ·rw[hO.trans e h4]at h5;cases h5
  ·rfl
end
noncomputable def MS(lt:Keyed->Keyed->Bool)(a b o:Array Keyed)(i j:Nat):Prop:=SrtL lt o.toList/\(∀x∈o.toList,∀y∈a.toList.drop i,lt y x=false)/\∀x∈o.toList,∀y∈b.toList.drop j,lt y x=false
noncomputable def PM(lt:Keyed->Keyed->Bool)(a b o:Array Keyed)(i j:Nat):Prop:=(o.toList++a.toList.drop i++b.toList.drop j).Perm (a.toList++b.toList)/\MS lt a b o i j
def Fin2(lt:Keyed->Keyed->Bool)(a b x:Array Keyed):Prop:=x.toList.Perm (a.toList++b.toList)/\SrtL lt x.toList
section
variable {lt:Keyed->Keyed->Bool} (hO:Ordr lt) {a b o:Array Keyed} {i j:Nat}
theorem yds{l:Array Keyed}{i:Nat}{y:Keyed}(hi:i<l.size)(h:y∈l.toList.drop (i+1)):y∈l.toList.drop i:=by rw[ydv hi];exact xAb _ h
theorem pb(h:PM lt a b o i j)(sb:SrtL lt b.toList)(hj:j<b.size)(c:∀y∈a.toList.drop i,lt y b[j]=false):PM lt a b (o.push b[j]) i (j+1):=by
 obtain⟨p,h1,h2,h3⟩:=h;refine⟨mj_b p hj,?_,?_,?_⟩
 ·rw[xB1];exact xAA.mpr ⟨h1,List.pairwise_singleton _ _,λx hx y hy=>by rw[xAl.mp hy];exact h3 x hx _ (by rw[ydv hj];exact xA7 ..)⟩
 all_goals
  intro x hx y hy;rw[xB1]at hx;rcases xAr.mp hx with hx|hx
 ·exact h2 x hx y hy
 ·rw[xAl.mp hx];exact c y hy
 ·exact h3 x hx y (yds hj hy)
 ·rw[xAl.mp hx];exact ygB sb hj y hy
theorem pa(h:PM lt a b o i j)(sa:SrtL lt a.toList)(hi:i<a.size)(c:∀y∈b.toList.drop j,lt y a[i]=false):PM lt a b (o.push a[i]) (i+1) j:=by
 obtain⟨p,h1,h2,h3⟩:=h;refine⟨mj_a p hi,?_,?_,?_⟩
 ·rw[xB1];exact xAA.mpr ⟨h1,List.pairwise_singleton _ _,λx hx y hy=>by rw[xAl.mp hy];exact h2 x hx _ (by rw[ydv hi];exact xA7 ..)⟩
 all_goals
  intro x hx y hy;rw[xB1]at hx;rcases xAr.mp hx with hx|hx
 ·exact h2 x hx y (yds hi hy)
 ·rw[xAl.mp hx];exact ygB sa hi y hy
 ·exact h3 x hx y hy
 ·rw[xAl.mp hx];exact c y hy
theorem pak(k:Nat)(h:PM lt a b o i j)(sa:SrtL lt a.toList)(c:∀x∈(a.extract i (i+k)).toList,∀y∈b.toList.drop j,lt y x=false):PM lt a b (o++a.extract i (i+k)) (i+k) j:=by
 obtain⟨p,h1,h2,h3⟩:=h;have e:=yep a i k;have s2:(a.toList.drop i).Pairwise λx y=>lt y x=false:=xAO (List.drop_sublist _ _) sa
 rw[e,xAA]at s2;refine⟨zh4 k p,?_,?_,?_⟩
 ·rw[xAp];exact xAA.mpr ⟨h1,s2.1,λx hx y hy=>h2 x hx y (by rw[e];exact xAT _ hy)⟩
 all_goals
  intro x hx y hy;rw[xAp]at hx;rcases xAr.mp hx with hx|hx
 ·exact h2 x hx y (by rw[e];exact xAg _ hy)
 ·exact s2.2.2 x hx y hy
 ·exact h3 x hx y hy
 ·exact c x hx y hy
theorem pbk(k:Nat)(h:PM lt a b o i j)(sb:SrtL lt b.toList)(c:∀x∈(b.extract j (j+k)).toList,∀y∈a.toList.drop i,lt y x=false):PM lt a b (o++b.extract j (j+k)) i (j+k):=by
 obtain⟨p,h1,h2,h3⟩:=h;have e:=yep b j k;have s2:(b.toList.drop j).Pairwise λx y=>lt y x=false:=xAO (List.drop_sublist _ _) sb
 rw[e,xAA]at s2;refine⟨zh6 k p,?_,?_,?_⟩
 ·rw[xAp];exact xAA.mpr ⟨h1,s2.1,λx hx y hy=>h3 x hx y (by rw[e];exact xAT _ hy)⟩
 all_goals
  intro x hx y hy;rw[xAp]at hx;rcases xAr.mp hx with hx|hx
 ·exact h2 x hx y hy
 ·exact c x hx y hy
 ·exact h3 x hx y (by rw[e];exact xAg _ hy)
 ·exact s2.2.2 x hx y hy
theorem ygs(h:PM lt a b o i j)(sa:SrtL lt a.toList)(sb:SrtL lt b.toList)(e:i=a.size\/j=b.size):Fin2 lt a b (o++a.extract i a.size++b.extract j b.size):=by
 obtain⟨p,h1,h2,h3⟩:=h;refine⟨zgM p,?_⟩;unfold SrtL;rw[xAp,xAp,zbu,zbu];have z:∀ {l:Array Keyed} {k:Nat},k=l.size->l.toList.drop k=[]:=λ{l k} e=>List.drop_eq_nil_of_le (by rw[e,xA4];exact xA5 _)
 rcases e with e|e
 ·rw[z e,xBu];exact xAA.mpr ⟨h1,xAO (List.drop_sublist _ _) sb,h3⟩
 ·rw[z e,xBu];exact xAA.mpr ⟨h1,xAO (List.drop_sublist _ _) sa,h2⟩
theorem yhy(h:PM lt a b o i j)(sb:SrtL lt b.toList)(e:i+1=a.size)(c:∀y∈b.toList,lt (av a i) y=false):Fin2 lt a b (o++b.extract j b.size++a.extract i a.size):=by
 obtain⟨p,h1,h2,h3⟩:=h;refine⟨ygM p,?_⟩;unfold SrtL;rw[xAp,xAp,zbu,zbu];have hi:i<a.size:=by omega
 have z:a.toList.drop i=[a[i]]:=by rw[ydv hi,List.drop_eq_nil_of_le (by rw[xA4];omega)]
 rw[z];rw[z]at h2;refine xAA.mpr ⟨xAA.mpr ⟨h1,xAO (List.drop_sublist _ _) sb,h3⟩,List.pairwise_singleton _ _,λx hx y hy=>?_⟩;rcases xAr.mp hx with hx|hx
 ·exact h2 x hx y hy
 ·rw[xAl.mp hy,ya6 hi];exact c x (List.mem_of_mem_drop hx)
theorem zda{l:Array Keyed}{i k:Nat}{x:Keyed}(h:x∈(l.extract i (i+k)).toList):∃u,u<k/\i+u<l.size/\x=av l (i+u):=by
 rw[Array.toList_extract,List.extract_eq_take_drop,Nat.add_sub_cancel_left]at h;obtain⟨u,hu,rfl⟩:=List.getElem_of_mem h;rw[xAC,List.length_drop,xA4]at hu;refine⟨u,by omega,by omega,?_⟩;rw[<-ya6 (by omega),List.getElem_take,List.getElem_drop];rfl
end
end L2
end
section
namespace L2
open PySem PySem.W PySem.Calls PyProof.Rows
local macro_rules | `(tactic| ac_rfl) => `(tactic| first | omega | (dsimp only; omega))
theorem jpN{α β σ:Type}{f:α->StateT σ Sem β}(I:α->Prop){Q:β->σ->Prop}{st:σ}{g:StateT σ Sem β}(k:(∀z,I z->wpS M A E s (f z) Q st)->wpS M A E s g Q st)(h:∀z,I z->wpS M A E s (f z) Q st):wpS M A E s g Q st:=k h
noncomputable def MJ(lt:Keyed->Keyed->Bool)(a b:Array Keyed)(c:Nat)(o:Array Keyed)(i j:Nat):Prop:=PM lt a b o i j/\j<b.size/\i+1<a.size/\c<=i+j
noncomputable def MR(lt:Keyed->Keyed->Bool)(a b:Array Keyed)(c:Nat)(r:Option (Array Keyed))(o:Array Keyed)(i j:Nat):Prop:=(∃x,r=some x/\Fin2 lt a b x)\/(r=none/\MJ lt a b c o i j)
section
variable {prog:Program} {w:World} {A:Around} {E:Value->Shared->Prop} {s:Shared} {κ:SortKind}
variable {g:Keyed->Prop} {lt:Keyed->Keyed->Bool} (hA:AnsL prog w A s κ g lt) (hO:Ordr lt)
include hA hO
theorem zft{st:SortSt}{a b:Array Keyed}{Q:Array Keyed->SortSt->Prop}(hk:kindOf st=κ)(ga:∀x∈a.toList,g x)(gb:∀x∈b.toList,g x)(na:0<a.size)(nb:0<b.size)(sa:SrtL lt a.toList)(sb:SrtL lt b.toList)(hF:lt (av a 0) (av b 0)=false)(hL:∀y∈b.toList,lt (av a (a.size-1)) y=false)(h:∀r st',Fin2 lt a b r->Sm st st'->Q r st'):wpS (model prog w) A E s (zgf a b) Q st:=by
 have lastA:∀ {o:Array Keyed} {i j:Nat},PM lt a b o i j->(i+1==a.size)=true->Fin2 lt a b (o++b.extract j b.size++a.extract i a.size):=λ{o i j} p e=>by
  have e:=xBC e;exact yhy p sb e (by rw[show i=a.size-1 by lia];exact hL)
 have doneB:∀ {o:Array Keyed} {i j:Nat},PM lt a b o i j->(j==b.size)=true->Fin2 lt a b (o++a.extract i a.size++b.extract j b.size):=λp e=>ygs p sa sb (.inr (xBC e))
 refine xAj (wpS_lift (xBA ⟨rfl,?_⟩));refine xAj (zaw nb ?_);have p0:PM lt a b #[b[0]] 0 1:=by
  refine pb (o:=#[]) (i:=0) (j:=0) ⟨by simp,List.Pairwise.nil,(λx hx=>absurd hx xAf),λx hx=>absurd hx xAf⟩ sb nb λy hy=>?_
  exact zb5 hO sa na (by rw[ya6 na,ya6 nb];exact hF) y hy
 refine S_if (λe=>xAs (h _ _ (doneB p0 e) ⟨rfl,rfl,rfl,rfl⟩)) λc1=>?_
 refine S_if (λe=>xAs (h _ _ (lastA p0 e) ⟨rfl,rfl,rfl,rfl⟩)) λc2=>?_
 have c1':=nbeq c1;have c2':=nbeq c2;refine xAj (wpS_get ?_);refine xAj (ybE (λi z st'=>Sm st st'/\z.1=none/\MJ lt a b (i+1) z.2.1 z.2.2.1 z.2.2.2.1) (λz st'=>Sm st st'/\∃x,z.1=some x/\Fin2 lt a b x) ⟨⟨rfl,rfl,rfl,rfl⟩,rfl,p0,(by ac_rfl),(by ac_rfl),(by ac_rfl)⟩ ?_ ?_ ?_)
 ·rintro⟨r,o,i,j,m⟩ st' ⟨_,_,p,q1,q2,q3⟩
  exfalso
  dsimp only at q1 q2 q3
  lia
 ·rintro⟨r,o,i,j,m⟩ st' ⟨e,x,e2,p⟩;dsimp only at e2;subst e2;exact xAs (h _ _ p e)
 rintro c ⟨r,o,i,j,m⟩ st' _ _ ⟨e0,e1,p⟩;refine xAj (ybE (λk z st'=>Sm st st'/\z.1=none/\MJ lt a b (c+1+k) z.2.1 z.2.2.1 z.2.2.2.1) (λz st'=>Sm st st'/\MR lt a b (c+1+1) z.1 z.2.1 z.2.2.1 z.2.2.2.1) ⟨e0,rfl,p⟩ ?_ ?_ ?_)
 ·rintro⟨r,o,i,j,m⟩ st' ⟨e,e1,p,q1,q2,q3⟩;dsimp only at q1 q2 q3 e1;exact⟨e,.inr ⟨e1,p,q1,q2,(by ac_rfl)⟩⟩
 rotate_left
 ·rintro k ⟨r,o,i,j,ac,bc⟩ st' _ _ ⟨e0,e1,p,q1,q2,q3⟩;dsimp only at e1 p q1 q2 q3;have q2':i<a.size:=by lia
  refine xAj (zaw q1 (xAj (zaw q2' (xAj (S_lt hA (e0.1.trans hk) (gd gb q1) (gd ga q2') ?_)))));cases hc:lt b[j] a[i]
  ·have p':=pa p sa q2' (zb5 hO sb q1 hc);refine xAj (zaw q2' (S_if (λe=>xAs ⟨e0,.inl ⟨_,rfl,lastA p' e⟩⟩) λc3=>?_));have c3':=nbeq c3;dsimp only at c3';exact S_if (λ_=>xAs ⟨e0,.inr ⟨rfl,p',q1,(by ac_rfl),(by ac_rfl)⟩⟩) λ_=>xAs ⟨e0,rfl,p',q1,(by ac_rfl),(by ac_rfl)⟩
  ·have p':=pb p sb q1 (zb5 hO sa q2' (hO.asym hc));refine xAj (zaw q1 (S_if (λe=>xAs ⟨e0,.inl ⟨_,rfl,doneB p' e⟩⟩) λc3=>?_));have c3':=nbeq c3;dsimp only at c3';exact S_if (λ_=>xAs ⟨e0,.inr ⟨rfl,p',(by ac_rfl),q2,(by ac_rfl)⟩⟩) λ_=>xAs ⟨e0,rfl,p',(by ac_rfl),q2,(by ac_rfl)⟩
 rintro⟨r,o,i,j,ac,bc⟩ st1 ⟨e0,⟨x,e,px⟩ |⟨e1,p⟩⟩
 ·dsimp only at e;subst e;exact xAs ⟨e0,_,rfl,px⟩
 dsimp only at e1 p;subst e1;refine xAj (wpS_lift (xBA ⟨rfl,?_⟩));refine xAj (ybE (λ_ z st'=>Sm st st'/\z.1=none/\MJ lt a b (c+1+1) z.2.1 z.2.2.1 z.2.2.2.1) (λz st'=>Sm st st'/\MR lt a b (c+1+1) z.1 z.2.1 z.2.2.1 z.2.2.2.1) ⟨e0,rfl,p⟩ ?_ ?_ ?_)
 ·rintro⟨r,o,i,j,m⟩ st' ⟨e,e1,p⟩;exact⟨e,.inr ⟨e1,p⟩⟩
 ·rintro⟨r,o,i,j,m,ac,bc⟩ st1 ⟨e0,⟨x,e,px⟩ |⟨e1,p⟩⟩
  ·dsimp only at e;subst e;exact xAs ⟨e0,_,rfl,px⟩
  dsimp only at e1 p;subst e1;exact xAj (wpS_modify (xAs ⟨e0,rfl,p⟩))
 rintro k ⟨r,o,i,j,m,ac,bc⟩ st1 _ _ ⟨e0,e1,p,q1,q2,q3⟩;dsimp only at e1 p q1 q2 q3
 extract_lets _ _ _ _ _ _ _ _ _ _ _ _ jp _
 refine jpN (f:=λz=>jp () z) (λ_=>True) (λkey=>S_if (λ_=>key _ trivial) λ_=>key _ trivial) λz _=>?_
 refine xAj (wpS_modify (xAj (zaw q1 (xAj (zby hA (e0.1.trans hk) (gd gb q1) ga (base:=i) (n:=a.size-i) (hint:=0) (by ac_rfl) (by ac_rfl) (zcS hO λu v h1 h2=>zdy hO sa (by lia) (by lia)) λk hk1 hk2 hk3=>?_)))));have ck:∀x∈(a.extract i (i+k)).toList,∀y∈b.toList.drop j,lt y x=false:=λx hx=>by
  obtain⟨u,hu,_,rfl⟩:=zda hx;have:=hk2 u hu;exact zb5 hO sb q1 (by simpa[bB]using this)
 have P1:=pak k p sa ck;have Q3:∀k',k<=k'->i+k'<a.size->lt (av a (i+k')) b[j]=false:=λk' h1 h2=>by
  have:=hk3 k' h1 (by lia);exact hO.asym (by simpa[bB]using this)
 dsimp -zeta only
 extract_lets ac2 jp2 _ _
 refine jpN (f:=λz:Array Keyed×Nat=>jp2 () z.1 z.2) (λz=>PM lt a b z.1 z.2 j/\i<=z.2/\z.2+1<a.size/\lt (av a z.2) b[j]=false) (λkey=>S_if (λ_=>S_if (λe=>xAs ⟨e0,.inl ⟨_,rfl,lastA P1 e⟩⟩) λc1=>S_if (λe=>xAs ⟨e0,.inl ⟨_,rfl,ygs P1 sa sb (.inl (xBC e))⟩⟩) λc2=>key (_,i+k) ?_) λc0=>key (o,i) ⟨p,xA5 _,q2,Q3 0 (by have c:¬ k>0:=c0;lia) (by lia)⟩) λz hz=>?_
 ·have c1':i+k+1≠a.size:=nbeq c1;have c2':i+k≠a.size:=nbeq c2;exact⟨P1,Nat.le_add_right _ _,by show i+k+1<a.size;lia,Q3 k (xA5 _) (by lia)⟩
 obtain⟨P1,Q6,Q7,Q8⟩:=hz;have Q2:z.2<a.size:=by lia
 have P2:=pb P1 sb q1 (zb5 hO sa Q2 (by rw[ya6 Q2];exact Q8));refine xAj (zaw q1 (S_if (λe=>xAs ⟨e0,.inl ⟨_,rfl,doneB P2 e⟩⟩) λc3=>?_));have c3':j+1≠b.size:=nbeq c3;have q4:j+1<b.size:=by lia
 refine xAj (zaw Q2 (xAj (zby hA (e0.1.trans hk) (gd ga Q2) gb (base:=j+1) (n:=b.size-(j+1)) (hint:=0) (by ac_rfl) (by ac_rfl) (zcS hO λu v h1 h2=>zdy hO sb (by lia) (by lia)) λk2 hk4 hk5 hk6=>?_)));have P3:=pbk k2 P2 sb λx hx=>by
  obtain⟨u,hu,_,rfl⟩:=zda hx;have:=hk5 u hu;exact zb5 hO sa Q2 (hO.asym (by simpa[bB]using this))
 have Q9:∀k',k2<=k'->j+1+k'<b.size->∀y∈b.toList.drop (j+1+k'),lt y a[z.2]=false:=λk' h1 h2=>zb5 hO sb h2 (by rw[ya6];simpa[bB]using hk6 k' h1 (by lia))
 dsimp -zeta only
 extract_lets bc3 n3 jp3 _ _
 refine jpN (f:=λy:Array Keyed×Nat=>jp3 () y.1 y.2) (λy=>PM lt a b y.1 z.2 y.2/\j+1<=y.2/\y.2<b.size/\∀w∈b.toList.drop y.2,lt w a[z.2]=false) (λkey=>S_if (λ_=>S_if (λe=>xAs ⟨e0,.inl ⟨_,rfl,doneB P3 e⟩⟩) λc4=>key (_,j+1+k2) ?_) λc0=>key (_,j+1) ⟨P2,xA5 _,q4,Q9 0 (by have c:¬ k2>0:=c0;lia) q4⟩) λy hy=>?_
 ·have c4':j+1+k2≠b.size:=nbeq c4;exact⟨P3,Nat.le_add_right _ _,by show j+1+k2<b.size;lia,Q9 k2 (xA5 _) (by lia)⟩
 obtain⟨P3,h2,h3,Q5⟩:=hy;have P4:=pa P3 sa Q2 Q5;refine xAj (zaw Q2 (S_if (λe=>xAs ⟨e0,.inl ⟨_,rfl,lastA P4 e⟩⟩) λc5=>?_));have c5':z.2+1+1≠a.size:=nbeq c5;exact S_if (λ_=>xAs ⟨e0,.inr ⟨rfl,P4,(by ac_rfl),(by ac_rfl),(by ac_rfl)⟩⟩) λ_=>xAs ⟨e0,rfl,P4,(by ac_rfl),(by ac_rfl),(by ac_rfl)⟩
end
end L2
end
section
namespace L2
open PySem PySem.W PySem.Calls PyProof.Rows
local macro_rules | `(tactic| ac_rfl) => `(tactic| first | omega | (dsimp only; omega))
theorem yeG{α:Type}{a:Array α}{n:Nat}(h:0<n)(h2:n<=a.size):a.toList.take n=a.toList.take (n-1)++[a[n-1]]:=by
 have e:n=n-1+1:=by lia
 have h3:n-1<a.toList.length:=by rw[xA4];lia
 conv=>lhs;rw[e,List.take_succ_eq_append_getElem h3]
 rfl
theorem ycF{α:Type}(a:Array α){k n:Nat}(h:k<=n):a.toList.take n=a.toList.take k++(a.extract k n).toList:=by
 rw[Array.toList_extract,List.extract_eq_take_drop,List.take_drop];have e:k+(n-k)=n:=by lia
 rw[e];have:=(List.take_append_drop k (a.toList.take n)).symm
 rwa [List.take_take,Nat.min_eq_left h]at this
theorem zdC{α:Type}(a:Array α)(n:Nat):(a.extract 0 n).toList=a.toList.take n:=by
 rw[Array.toList_extract,List.extract_eq_take_drop,List.drop_zero,Nat.sub_zero]
section
variable {a b o:Array Keyed} {i j:Nat} {X:List Keyed}
theorem hj_a(h:(a.toList.take i++b.toList.take j++o.toList.reverse).Perm X)(h0:0<i)(hi:i<=a.size):(a.toList.take (i-1)++b.toList.take j++(o.push a[i-1]).toList.reverse).Perm X:=by
 rw[yeG h0 hi]at h;rw[xB1,xBQ];exact(pm1 _ [a[i-1]] _ _).symm.trans h
theorem hj_b(h:(a.toList.take i++b.toList.take j++o.toList.reverse).Perm X)(h0:0<j)(hj:j<=b.size):(a.toList.take i++b.toList.take (j-1)++(o.push b[j-1]).toList.reverse).Perm X:=by
 rw[yeG h0 hj]at h;rw[xB1,xBQ]
 simpa using h
theorem zh9{k:Nat}(h:(a.toList.take i++b.toList.take j++o.toList.reverse).Perm X)(hk:k<=i)(hi:i<=a.size):(a.toList.take k++b.toList.take j++(o++(a.extract k i).reverse).toList.reverse).Perm X:=by
 rw[ycF a hk]at h;rw[xAp,xBQ,xBp,List.reverse_reverse];exact(pm1 _ _ _ _).symm.trans h
theorem yig{k:Nat}(h:(a.toList.take i++b.toList.take j++o.toList.reverse).Perm X)(hk:k<=j)(hj:j<=b.size):(a.toList.take i++b.toList.take k++(o++(b.extract k j).reverse).toList.reverse).Perm X:=by
 rw[ycF b hk]at h;rw[xAp,xBQ,xBp,List.reverse_reverse]
 simpa using h
theorem zgX(h:(a.toList.take i++b.toList.take j++o.toList.reverse).Perm X):(a.extract 0 i++b.extract 0 j++o.reverse).toList.Perm X:=by
 rw[xAp,xAp,zdC,zdC,xBp];exact h
theorem yf1(h:(a.toList.take i++b.toList.take j++o.toList.reverse).Perm X):(b.extract 0 j++a.extract 0 i++o.reverse).toList.Perm X:=by
 rw[xAp,xAp,zdC,zdC,xBp];exact(List.Perm.append_right _ List.perm_append_comm).trans h
end
theorem yeW{l:Array Keyed}{i:Nat}{y:Keyed}(h:y∈l.toList.take i):∃u,u<i/\u<l.size/\y=av l u:=by
 obtain⟨u,hu,rfl⟩:=List.getElem_of_mem h;rw[xAC,xA4]at hu;refine⟨u,by lia,by lia,?_⟩;rw[<-ya6 (by lia),List.getElem_take];rfl
theorem zce{l:Array Keyed}{k i:Nat}{x:Keyed}(hk:k<=i)(h:x∈(l.extract k i).toList):∃u,k<=u/\u<i/\u<l.size/\x=av l u:=by
 rw[show i=k+(i-k) by lia]at h;obtain⟨u,h1,h2,h3⟩:=zda h;exact⟨k+u,by lia,by lia,h2,h3⟩
noncomputable def HM(lt:Keyed->Keyed->Bool)(a b o:Array Keyed)(i j:Nat):Prop:=(a.toList.take i++b.toList.take j++o.toList.reverse).Perm (a.toList++b.toList)/\SrtL lt o.toList.reverse/\(∀x∈o.toList,∀y∈a.toList.take i,lt x y=false)/\∀x∈o.toList,∀y∈b.toList.take j,lt x y=false
section
variable {lt:Keyed->Keyed->Bool} {a b o:Array Keyed} {i j:Nat}
theorem zdh{l:Array Keyed}{k i:Nat}{y:Keyed}(hk:k<=i)(h:y∈l.toList.take k):y∈l.toList.take i:=by
 rw[ycF l hk];exact xAT _ h
theorem zfC{l:Array Keyed}{i:Nat}(hs:SrtL lt l.toList)(h0:0<i)(hi:i<=l.size):∀y∈l.toList.take (i-1),lt l[i-1] y=false:=λy hy=>by
 have h2:(l.toList.take i).Pairwise λx y=>lt y x=false:=xAO (List.take_sublist _ _) hs
 rw[yeG h0 hi,xAA]at h2;exact h2.2.2 y hy _ (xAl.mpr rfl)
theorem yex(hO:Ordr lt){l:Array Keyed}{i:Nat}{x:Keyed}(hs:SrtL lt l.toList)(h0:0<i)(hi:i<=l.size)(h:lt x l[i-1]=false):∀y∈l.toList.take i,lt x y=false:=λy hy=>by
 rw[yeG h0 hi]at hy;rcases xAr.mp hy with hy|hy
 ·exact hO.trans (zfC hs h0 hi y hy) h
 ·rw[xAl.mp hy];exact h
theorem ha(h:HM lt a b o i j)(sa:SrtL lt a.toList)(h0:0<i)(hi:i<=a.size)(c:∀y∈b.toList.take j,lt a[i-1] y=false):HM lt a b (o.push a[i-1]) (i-1) j:=by
 obtain⟨p,h1,h2,h3⟩:=h;refine⟨hj_a p h0 hi,?_,?_,?_⟩
 ·rw[xB1,xBQ];exact List.pairwise_cons.mpr ⟨λy hy=>h2 y (xBw.mp hy) _ (by rw[yeG h0 hi];exact xAg _ (xAl.mpr rfl)),h1⟩
 all_goals
  intro x hx y hy;rw[xB1]at hx;rcases xAr.mp hx with hx|hx
 ·exact h2 x hx y (zdh (by lia) hy)
 ·rw[xAl.mp hx];exact zfC sa h0 hi y hy
 ·exact h3 x hx y hy
 ·rw[xAl.mp hx];exact c y hy
theorem hb(h:HM lt a b o i j)(sb:SrtL lt b.toList)(h0:0<j)(hj:j<=b.size)(c:∀y∈a.toList.take i,lt b[j-1] y=false):HM lt a b (o.push b[j-1]) i (j-1):=by
 obtain⟨p,h1,h2,h3⟩:=h;refine⟨hj_b p h0 hj,?_,?_,?_⟩
 ·rw[xB1,xBQ];exact List.pairwise_cons.mpr ⟨λy hy=>h3 y (xBw.mp hy) _ (by rw[yeG h0 hj];exact xAg _ (xAl.mpr rfl)),h1⟩
 all_goals
  intro x hx y hy;rw[xB1]at hx;rcases xAr.mp hx with hx|hx
 ·exact h2 x hx y hy
 ·rw[xAl.mp hx];exact c y hy
 ·exact h3 x hx y (zdh (by lia) hy)
 ·rw[xAl.mp hx];exact zfC sb h0 hj y hy
theorem hak{k:Nat}(h:HM lt a b o i j)(sa:SrtL lt a.toList)(hk:k<=i)(hi:i<=a.size)(c:∀x∈(a.extract k i).toList,∀y∈b.toList.take j,lt x y=false):HM lt a b (o++(a.extract k i).reverse) k j:=by
 obtain⟨p,h1,h2,h3⟩:=h;have e:=ycF a hk;have s2:(a.toList.take i).Pairwise λx y=>lt y x=false:=xAO (List.take_sublist _ _) sa
 rw[e,xAA]at s2;refine⟨zh9 p hk hi,?_,?_,?_⟩
 ·rw[xAp,xBQ,xBp,List.reverse_reverse];exact xAA.mpr ⟨s2.2.1,h1,λx hx y hy=>h2 y (xBw.mp hy) x (by rw[e];exact xAg _ hx)⟩
 all_goals
  intro x hx y hy;rw[xAp,xBp]at hx;rcases xAr.mp hx with hx|hx
 ·exact h2 x hx y (zdh hk hy)
 ·exact s2.2.2 y hy x (xBw.mp hx)
 ·exact h3 x hx y hy
 ·exact c x (xBw.mp hx) y hy
theorem hbk{k:Nat}(h:HM lt a b o i j)(sb:SrtL lt b.toList)(hk:k<=j)(hj:j<=b.size)(c:∀x∈(b.extract k j).toList,∀y∈a.toList.take i,lt x y=false):HM lt a b (o++(b.extract k j).reverse) i k:=by
 obtain⟨p,h1,h2,h3⟩:=h;have e:=ycF b hk;have s2:(b.toList.take j).Pairwise λx y=>lt y x=false:=xAO (List.take_sublist _ _) sb
 rw[e,xAA]at s2;refine⟨yig p hk hj,?_,?_,?_⟩
 ·rw[xAp,xBQ,xBp,List.reverse_reverse];exact xAA.mpr ⟨s2.2.1,h1,λx hx y hy=>h3 y (xBw.mp hy) x (by rw[e];exact xAg _ hx)⟩
 all_goals
  intro x hx y hy;rw[xAp,xBp]at hx;rcases xAr.mp hx with hx|hx
 ·exact h2 x hx y hy
 ·exact c x (xBw.mp hx) y hy
 ·exact h3 x hx y (zdh hk hy)
 ·exact s2.2.2 y hy x (xBw.mp hx)
theorem zgD(h:HM lt a b o i j)(sa:SrtL lt a.toList)(sb:SrtL lt b.toList)(e:i=0\/j=0):Fin2 lt a b (a.extract 0 i++b.extract 0 j++o.reverse):=by
 obtain⟨p,h1,h2,h3⟩:=h;refine⟨zgX p,?_⟩;unfold SrtL;rw[xAp,xAp,zdC,zdC,xBp];rcases e with rfl|rfl
 ·rw[List.take_zero,List.nil_append];exact xAA.mpr ⟨xAO (List.take_sublist _ _) sb,h1,λx hx y hy=>h3 y (xBw.mp hy) x hx⟩
 ·rw[List.take_zero,xBu];exact xAA.mpr ⟨xAO (List.take_sublist _ _) sa,h1,λx hx y hy=>h2 y (xBw.mp hy) x hx⟩
theorem zhl(h:HM lt a b o i j)(sa:SrtL lt a.toList)(e:j=1)(c:∀y∈a.toList,lt y (av b 0)=false):Fin2 lt a b (b.extract 0 j++a.extract 0 i++o.reverse):=by
 obtain⟨p,h1,h2,h3⟩:=h;refine⟨yf1 p,?_⟩;unfold SrtL;rw[xAp,xAp,zdC,zdC,xBp];refine xAA.mpr ⟨xAA.mpr ⟨?_,xAO (List.take_sublist _ _) sa,λx hx y hy=>?_⟩,h1,λx hx y hy=>?_⟩
 ·subst e;cases b.toList with
  |nil=>exact List.Pairwise.nil
  |cons z l=>exact List.pairwise_singleton _ _
 ·obtain⟨u,hu,_,rfl⟩:=yeW hx;rw[show u=0 by lia];exact c y (List.mem_of_mem_take hy)
 ·rcases xAr.mp hx with hx|hx
  ·exact h3 y (xBw.mp hy) x hx
  ·exact h2 y (xBw.mp hy) x hx
end
noncomputable def HJ(lt:Keyed->Keyed->Bool)(a b:Array Keyed)(c:Nat)(o:Array Keyed)(i j:Nat):Prop:=HM lt a b o i j/\1<=i/\i<=a.size/\2<=j/\j<=b.size/\i+j+c<=a.size+b.size
noncomputable def HR(lt:Keyed->Keyed->Bool)(a b:Array Keyed)(c:Nat)(r:Option (Array Keyed))(o:Array Keyed)(i j:Nat):Prop:=(∃x,r=some x/\Fin2 lt a b x)\/(r=none/\HJ lt a b c o i j)
section
variable {prog:Program} {w:World} {A:Around} {E:Value->Shared->Prop} {s:Shared} {κ:SortKind}
variable {g:Keyed->Prop} {lt:Keyed->Keyed->Bool} (hA:AnsL prog w A s κ g lt) (hO:Ordr lt)
include hA hO
theorem zfw{st:SortSt}{a b:Array Keyed}{Q:Array Keyed->SortSt->Prop}(hk:kindOf st=κ)(ga:∀x∈a.toList,g x)(gb:∀x∈b.toList,g x)(na:0<a.size)(nb:0<b.size)(sa:SrtL lt a.toList)(sb:SrtL lt b.toList)(hF:∀y∈a.toList,lt y (av b 0)=false)(hL:∀y∈b.toList,lt (av a (a.size-1)) y=false)(h:∀r st',Fin2 lt a b r->Sm st st'->Q r st'):wpS (model prog w) A E s (zf7 a b) Q st:=by
 have doneA:∀ {o:Array Keyed} {i j:Nat},HM lt a b o i j->(i==0)=true->Fin2 lt a b (a.extract 0 i++b.extract 0 j++o.reverse):=λp e=>zgD p sa sb (.inl (xBC e))
 have firstB:∀ {o:Array Keyed} {i j:Nat},HM lt a b o i j->(j==1)=true->Fin2 lt a b (b.extract 0 j++a.extract 0 i++o.reverse):=λp e=>zhl p sa (xBC e) hF
 refine xAj (wpS_lift (xBA ⟨rfl,?_⟩));refine xAj (zaw (a:=a) (i:=a.size-1) (by lia) ?_);have p0:HM lt a b #[a[a.size-1]] (a.size-1) b.size:=by
  refine ha (o:=#[]) (i:=a.size) ⟨?_,List.Pairwise.nil,(λx hx=>absurd hx xAf),λx hx=>absurd hx xAf⟩ sa na (xA5 _) λy hy=>?_
  ·rw[List.take_of_length_le (by simp),List.take_of_length_le (by simp)];simp
  ·rw[ya6];exact hL y (List.mem_of_mem_take hy)
 refine S_if (λe=>xAs (h _ _ (doneA p0 e) ⟨rfl,rfl,rfl,rfl⟩)) λc1=>?_
 refine S_if (λe=>xAs (h _ _ (firstB p0 e) ⟨rfl,rfl,rfl,rfl⟩)) λc2=>?_
 have c1':=nbeq c1;have c2':=nbeq c2;refine xAj (wpS_get ?_);refine xAj (ybE (λi z st'=>Sm st st'/\z.1=none/\HJ lt a b (i+1) z.2.2.2.1 z.2.1 z.2.2.1) (λz st'=>Sm st st'/\∃x,z.1=some x/\Fin2 lt a b x) ⟨⟨rfl,rfl,rfl,rfl⟩,rfl,p0,(by ac_rfl),(by ac_rfl),(by ac_rfl),(by ac_rfl),(by ac_rfl)⟩ ?_ ?_ ?_)
 ·rintro⟨r,na,nb,o,m⟩ st' ⟨_,_,p,q1,q2,q3,q4,q5⟩
  exfalso
  dsimp only at q1 q2 q3 q4 q5
  lia
 ·rintro⟨r,na,nb,o,m⟩ st' ⟨e,x,e2,p⟩;dsimp only at e2;subst e2;exact xAs (h _ _ p e)
 rintro c ⟨r,na,nb,o,m⟩ st' _ _ ⟨e0,e1,p⟩;refine xAj (ybE (λk z st'=>Sm st st'/\z.1=none/\HJ lt a b (c+1+k) z.2.2.2.1 z.2.1 z.2.2.1) (λz st'=>Sm st st'/\HR lt a b (c+1+1) z.1 z.2.2.2.1 z.2.1 z.2.2.1) ⟨e0,rfl,p⟩ ?_ ?_ ?_)
 ·rintro⟨r,na,nb,o,m⟩ st' ⟨e,e1,p,q1,q2,q3,q4,q5⟩;dsimp only at q1 q2 q3 q4 q5 e1;exact⟨e,.inr ⟨e1,p,q1,q2,q3,q4,(by ac_rfl)⟩⟩
 rotate_left
 ·rintro k ⟨r,na,nb,o,ac,bc⟩ st' _ _ ⟨e0,e1,p,q1,q2,q3,q4,q5⟩;dsimp only at e1 p q1 q2 q3 q4 q5;have r1:nb-1<b.size:=by lia
  have r2:na-1<a.size:=by lia
  refine xAj (zaw r1 (xAj (zaw r2 (xAj (S_lt hA (e0.1.trans hk) (gd gb r1) (gd ga r2) ?_)))));cases hc:lt b[nb-1] a[na-1]
  ·have p':=hb p sb (by lia) q4 (yex hO sa q1 q2 hc);refine xAj (zaw r1 (S_if (λe=>xAs ⟨e0,.inl ⟨_,rfl,firstB p' e⟩⟩) λc3=>?_));have c3':=nbeq c3;dsimp only at c3';exact S_if (λ_=>xAs ⟨e0,.inr ⟨rfl,p',q1,q2,(by ac_rfl),(by ac_rfl),(by ac_rfl)⟩⟩) λ_=>xAs ⟨e0,rfl,p',q1,q2,(by ac_rfl),(by ac_rfl),(by ac_rfl)⟩
  ·have p':=ha p sa q1 q2 (yex hO sb (by lia) q4 (hO.asym hc));refine xAj (zaw r2 (S_if (λe=>xAs ⟨e0,.inl ⟨_,rfl,doneA p' e⟩⟩) λc3=>?_));have c3':=nbeq c3;dsimp only at c3';exact S_if (λ_=>xAs ⟨e0,.inr ⟨rfl,p',(by ac_rfl),(by ac_rfl),q3,q4,(by ac_rfl)⟩⟩) λ_=>xAs ⟨e0,rfl,p',(by ac_rfl),(by ac_rfl),q3,q4,(by ac_rfl)⟩
 rintro⟨r,na,nb,o,ac,bc⟩ st1 ⟨e0,⟨x,e,px⟩ |⟨e1,p⟩⟩
 ·dsimp only at e;subst e;exact xAs ⟨e0,_,rfl,px⟩
 dsimp only at e1 p;subst e1;refine xAj (wpS_lift (xBA ⟨rfl,?_⟩));refine xAj (ybE (λ_ z st'=>Sm st st'/\z.1=none/\HJ lt a b (c+1+1) z.2.2.2.1 z.2.1 z.2.2.1) (λz st'=>Sm st st'/\HR lt a b (c+1+1) z.1 z.2.2.2.1 z.2.1 z.2.2.1) ⟨e0,rfl,p⟩ ?_ ?_ ?_)
 ·rintro⟨r,na,nb,o,m⟩ st' ⟨e,e1,p⟩;exact⟨e,.inr ⟨e1,p⟩⟩
 ·rintro⟨r,na,nb,o,m,ac,bc⟩ st1 ⟨e0,⟨x,e,px⟩ |⟨e1,p⟩⟩
  ·dsimp only at e;subst e;exact xAs ⟨e0,_,rfl,px⟩
  dsimp only at e1 p;subst e1;exact xAj (wpS_modify (xAs ⟨e0,rfl,p⟩))
 rintro k ⟨r,na,nb,o,m,ac,bc⟩ st1 _ _ ⟨e0,e1,p,q1,q2,q3,q4,q5⟩;dsimp only at e1 p q1 q2 q3 q4 q5;have r1:nb-1<b.size:=by lia
 extract_lets _ _ _ _ _ _ _ _ _ _ _ _ jp _
 refine jpN (f:=λz=>jp () z) (λ_=>True) (λkey=>S_if (λ_=>key _ trivial) λ_=>key _ trivial) λz _=>?_
 refine xAj (wpS_modify (xAj (zaw r1 (xAj (zby hA (e0.1.trans hk) (gd gb r1) ga (base:=0) (n:=na) (hint:=na-1) (by ac_rfl) (by ac_rfl) (zcS hO λu v h1 h2=>zdy hO sa (by lia) (by lia)) λk hk1 hk2 hk3=>?_)))));dsimp -zeta only
 extract_lets k1 ac2 jp2 _ _
 have P1:=hak p sa hk1 q2 λx hx=>by
  obtain⟨u,h1,h2,_,rfl⟩:=zce hk1 hx;have:=hk3 u h1 h2;exact yex hO sb (by lia) q4 (hO.asym (by simpa[bB]using this))
 have Q5:∀i,(i<=k)->∀y∈a.toList.take i,lt b[nb-1] y=false:=λi hi y hy=>by
  obtain⟨u,h1,_,rfl⟩:=yeW hy
  simpa[bB]using hk2 u (by lia)
 refine jpN (f:=λz:Nat×Array Keyed=>jp2 () z.1 z.2) (λz=>HM lt a b z.2 z.1 nb/\0<z.1/\z.1<=na/\∀y∈a.toList.take z.1,lt b[nb-1] y=false) (λkey=>S_if (λ_=>S_if (λe=>xAs ⟨e0,.inl ⟨_,rfl,doneA P1 e⟩⟩) λc1=>key (k,_) ⟨P1,Nat.pos_of_ne_zero (nbeq c1),hk1,Q5 k (xA5 _)⟩) λc0=>key (na,o) ⟨p,q1,xA5 _,Q5 na (by have c:¬ na-k>0:=c0;lia)⟩) λz hz=>?_
 obtain⟨P1,Q3,Q6,Q5⟩:=hz;have Q4:=xAz Q6 q2;have P2:=hb P1 sb (by lia) q4 Q5;refine xAj (zaw r1 (S_if (λe=>xAs ⟨e0,.inl ⟨_,rfl,firstB P2 e⟩⟩) λc3=>?_));have c3':nb-1≠1:=nbeq c3;have Q2:z.1-1<a.size:=by lia
 refine xAj (zaw Q2 (xAj (zby hA (e0.1.trans hk) (gd ga Q2) gb (base:=0) (n:=nb-1) (hint:=nb-1-1) (by ac_rfl) (by ac_rfl) (zcS hO λu v h1 h2=>zdy hO sb (by lia) (by lia)) λk2 hk4 hk5 hk6=>?_)));have P3:=hbk (k:=k2) P2 sb (by ac_rfl) (by ac_rfl) λx hx=>by
  obtain⟨u,h1,h2,_,rfl⟩:=zce hk4 hx;have:=hk6 u h1 h2;exact yex hO sa Q3 Q4 (by simpa[bB]using this)
 have Q7:∀i,i<=k2->∀y∈b.toList.take i,lt a[z.1-1] y=false:=λi hi y hy=>by
  obtain⟨u,h1,_,rfl⟩:=yeW hy;exact hO.asym (by simpa[bB]using hk5 u (by lia))
 dsimp -zeta only
 extract_lets k3 bc3 n3 jp3 _ _
 refine jpN (f:=λy:Nat×Array Keyed=>jp3 () y.1 y.2) (λy=>HM lt a b y.2 z.1 y.1/\2<=y.1/\y.1<=nb-1/\∀w∈b.toList.take y.1,lt a[z.1-1] w=false) (λkey=>S_if (λ_=>S_if (λe=>xAs ⟨e0,.inl ⟨_,rfl,firstB P3 e⟩⟩) λc4=>S_if (λe=>xAs ⟨e0,.inl ⟨_,rfl,zgD P3 sa sb (.inr (xBC e))⟩⟩) λc6=>key (k2,_) ⟨P3,(by have c:k2≠1:=nbeq c4;have d:k2≠0:=nbeq c6;show 2<=k2;lia),hk4,Q7 k2 (xA5 _)⟩) λc0=>key (nb-1,_) ⟨P2,(by show 2<=nb-1;lia),xA5 _,Q7 (nb-1) (by have c:¬ nb-1-k2>0:=c0;lia)⟩) λy hy=>?_
 obtain⟨P3,h2,h3,Q8⟩:=hy;have P4:=ha P3 sa Q3 Q4 Q8;refine xAj (zaw Q2 (S_if (λe=>xAs ⟨e0,.inl ⟨_,rfl,doneA P4 e⟩⟩) λc5=>?_));have c5':n3≠0:=nbeq c5;have e3:n3=z.1-1:=rfl;exact S_if (λ_=>xAs ⟨e0,.inr ⟨rfl,P4,(by ac_rfl),(by ac_rfl),(by ac_rfl),(by ac_rfl),(by ac_rfl)⟩⟩) λ_=>xAs ⟨e0,rfl,P4,(by ac_rfl),(by ac_rfl),(by ac_rfl),(by ac_rfl),(by ac_rfl)⟩
end
end L2
end
section
namespace L2
open PySem PySem.W PySem.Calls PyProof.Rows
local macro_rules | `(tactic| ac_rfl) => `(tactic| first | omega | (dsimp only; omega))
theorem jpS{β σ:Type}{f:StateT σ Sem β}(I:σ->Prop){Q:β->σ->Prop}{st:σ}{g:StateT σ Sem β}(k:(∀z,I z->wpS M A E s f Q z)->wpS M A E s g Q st)(h:∀z,I z->wpS M A E s f Q z):wpS M A E s g Q st:=k h
noncomputable def Pm(st st':SortSt):Prop:=kindOf st'=kindOf st/\pendingOf st'=pendingOf st/\failedOf st'=failedOf st/\(arrOf st').toList.Perm (arrOf st).toList
theorem Pm.rfl{st:SortSt}:Pm st st:=⟨Eq.refl _,Eq.refl _,Eq.refl _,.refl _⟩
theorem Pm.trans{a b c:SortSt}(x:Pm a b)(y:Pm b c):Pm a c:=⟨y.1.trans x.1,y.2.1.trans x.2.1,y.2.2.1.trans x.2.2.1,y.2.2.2.trans x.2.2.2⟩
theorem Pm.size{a b:SortSt}(x:Pm a b):(arrOf b).size=(arrOf a).size:=by
 have:=x.2.2.2.length_eq
 rwa [xA4,xA4]at this
theorem av_q(a:Array Keyed)(k:Nat):av a k=(a[k]?).getD (Value.none,Value.none):=by
 unfold av;rw[Array.getD_eq_getD_getElem?]
theorem ybU{a:Array Keyed}{i j:Nat}(hj:j<=a.size)(k:Nat):av (mirror a i j ((j-i)/2)) k=if i<=k/\k<j then av a (i+j-1-k) else av a k:=by
 rw[av_q,getElem?_mirror_all hj];split <;> rw[av_q]
theorem ye9{a:Array Keyed}{n d:Nat}(hs:n<a.size)(hd:d<=n)(k:Nat):av (bubble a n d) k=if k=n-d then av a n else if n-d<k/\k<=n then av a (k-1) else av a k:=by
 rw[av_q,getElem?_bubble hs d hd];split
 ·rw[av_q]
 ·split <;> rw[av_q]
def Asc(lt:Keyed->Keyed->Bool)(a:Array Keyed)(i j:Nat):Prop:=∀u v,i<=u->u<=v->v<j->lt (av a v) (av a u)=false
def Dsc(lt:Keyed->Keyed->Bool)(a:Array Keyed)(i j:Nat):Prop:=∀u v,i<=u->u<=v->v<j->lt (av a u) (av a v)=false
def Bel(a b:Array Keyed)(lo:Nat):Prop:=∀k,k<lo->av b k=av a k
theorem Bel.trans{a b c:Array Keyed}{lo:Nat}(x:Bel a b lo)(y:Bel b c lo):Bel a c lo:=λk h=>(y k h).trans (x k h)
theorem Bel.mir(a:Array Keyed){lo i j:Nat}(hi:lo<=i)(hj:j<=a.size):Bel a (mirror a i j ((j-i)/2)) lo:=λk hk=>by
 rw[ybU hj,if_neg (by lia)]
section
variable {lt:Keyed->Keyed->Bool} (hO:Ordr lt) {a:Array Keyed} {i j:Nat}
include hO
theorem zg9:Asc lt a i (i+1):=λu v h1 h2 h3=>by rw[show u=v by lia];exact hO.refl _
theorem zgc(h:Asc lt a i j)(hij:i<j)(c:lt (av a j) (av a (j-1))=false):Asc lt a i (j+1):=λu v h1 h2 h3=>by
 rcases xAP v j with q|q
 ·exact h u v h1 h2 q
 ·have e:v=j:=by lia
  subst e;rcases xAP u v with q|q
  ·exact hO.trans (h u (v-1) h1 (by lia) (by lia)) c
  ·rw[show u=v by lia];exact hO.refl _
theorem ybO(h:Dsc lt a i j)(hij:i<j)(c:lt (av a (j-1)) (av a j)=false):Dsc lt a i (j+1):=λu v h1 h2 h3=>by
 rcases xAP v j with q|q
 ·exact h u v h1 h2 q
 ·have e:v=j:=by lia
  subst e;rcases xAP u v with q|q
  ·exact hO.trans c (h u (v-1) h1 (by lia) (by lia))
  ·rw[show u=v by lia];exact hO.refl _
omit hO in
theorem zhk(h:Dsc lt a i j)(hj:j<=a.size):Asc lt (mirror a i j ((j-i)/2)) i j:=λu v h1 h2 h3=>by
 rw[ybU hj,ybU hj,if_pos (by lia),if_pos (by lia)];exact h _ _ (by lia) (by lia) (by lia)
omit hO in
theorem yfO{k:Nat}(h:Dsc lt a i j)(hk:i<=k)(hj:j<=a.size)(hkj:k<=j)(e:∀u v,k<=u->u<j->k<=v->v<j->lt (av a u) (av a v)=false):Dsc lt (mirror a k j ((j-k)/2)) i j:=λu v h1 h2 h3=>by
 rw[ybU hj,ybU hj];by_cases c1:k<=u
 ·rw[if_pos (by lia),if_pos (by lia)];exact e _ _ (by lia) (by lia) (by lia) (by lia)
 ·rw[if_neg (by lia)];split
  ·exact h _ _ h1 (by lia) (by lia)
  ·exact h _ _ h1 h2 h3
end
section
variable {prog:Program} {w:World} {A:Around} {E:Value->Shared->Prop} {s:Shared} {κ:SortKind}
theorem ygc{st:SortSt}{i j:Nat}{Q:Unit->SortSt->Prop}(h:∀st',Pm st st'->arrOf st'=mirror (arrOf st) i j ((j-i)/2)->Q () st'):wpS (model prog w) A E s (reverseSlice' i j) Q st:=by
 rw[reverseSlice'_eq];exact wpS_modify (h _ ⟨rfl,rfl,rfl,Array.perm_iff_toList_perm.mp (mirror_perm _ _ _ _)⟩ rfl)
theorem zhC{st:SortSt}{i j:Nat}{Q:Unit->SortSt->Prop}(h:∀st',Pm st st'->arrOf st'=bubble (arrOf st) i (i-j)->Q () st'):wpS (model prog w) A E s (moveDown' i j) Q st:=by
 rw[moveDown'_eq];exact wpS_modify (h _ ⟨rfl,rfl,rfl,Array.perm_iff_toList_perm.mp (bubble_perm _ _ _)⟩ rfl)
variable {g:Keyed->Prop} {lt:Keyed->Keyed->Bool} (hA:AnsL prog w A s κ g lt) (hO:Ordr lt)
include hA
theorem zcx{st st':SortSt}{i j:Nat}{Q:Option Bool->SortSt->Prop}(hk:kindOf st=κ)(gs:∀x∈(arrOf st).toList,g x)(e:Pm st st')(hi:i<(arrOf st).size)(hj:j<(arrOf st).size)(h:Q (some (lt (av (arrOf st') i) (av (arrOf st') j))) st'):wpS (model prog w) A E s (ltAt' i j) Q st':=by
 have hi':i<(arrOf st').size:=by rw[e.size];exact hi
 have hj':j<(arrOf st').size:=by rw[e.size];exact hj
 rw[<-ya6 hi',<-ya6 hj']at h;exact zhv hA (e.1.trans hk) hi' hj' (λx hx=>gs x (e.2.2.2.mem_iff.mp hx)) h
include hO
theorem yhK{st st':SortSt}{lo nrem n:Nat}{Q:Option (Option Nat)×Nat->SortSt->Prop}(hk:kindOf st=κ)(gs:∀x∈(arrOf st).toList,g x)(hz:lo+nrem<=(arrOf st).size)(e:Pm st st')(h1:1<=n)(h2:n<=nrem)(hs:Asc lt (arrOf st') lo (lo+n))(h:∀m,1<=m->m<=nrem->Asc lt (arrOf st') lo (lo+m)->(m=nrem\/lt (av (arrOf st') (lo+m)) (av (arrOf st') (lo+m-1))=true)->Q (none,m) st'):wpS (model prog w) A E s (forIn [n:nrem] ((none,n):Option (Option Nat)×Nat) λ_ z=>ltAt' (lo+z.2) (lo+z.2-1) >>= λr=>match r with
   |some c=>if c=true then pure (ForInStep.done (none,z.2)) else pure (ForInStep.yield (none,z.2+1))
   |_=>pure (ForInStep.done (some none,z.2))) Q st':=by
 refine ybE (λi z u=>u=st'/\z.1=none/\1<=z.2/\z.2=i/\Asc lt (arrOf st') lo (lo+z.2)) (λz u=>u=st'/\z.1=none/\1<=z.2/\z.2<=nrem/\Asc lt (arrOf st') lo (lo+z.2)/\(z.2=nrem\/lt (av (arrOf st') (lo+z.2)) (av (arrOf st') (lo+z.2-1))=true)) ⟨rfl,rfl,h1,rfl,hs⟩ ?_ ?_ ?_
 ·rintro⟨r,m⟩ u ⟨h1,h2,h3,h4,h5⟩;dsimp only at h4;exact⟨h1,h2,h3,(by ac_rfl),h5,.inl (by ac_rfl)⟩
 ·rintro⟨r,m⟩ u ⟨rfl,h2,h3,h4,h5,h6⟩;dsimp only at h2;subst h2;exact h m h3 h4 h5 h6
 ·rintro i ⟨r,m⟩ u _ _ ⟨rfl,h2,h3,h4,h5⟩;dsimp only at h2 h3 h4 h5;refine xAj (zcx hA hk gs e (by ac_rfl) (by ac_rfl) ?_);cases hc:lt (av (arrOf u) (lo+m)) (av (arrOf u) (lo+m-1))
  ·exact xAs ⟨rfl,rfl,(by ac_rfl),(by ac_rfl),zgc hO h5 (show lo<lo+m by lia) hc⟩
  ·exact xAs ⟨rfl,rfl,h3,(by ac_rfl),h5,.inr hc⟩
theorem ygH{st:SortSt}{lo nrem:Nat}{Q:Option Nat->SortSt->Prop}(hk:kindOf st=κ)(gs:∀x∈(arrOf st).toList,g x)(hz:lo+nrem<=(arrOf st).size)(h1:1<=nrem)(h:∀n st',1<=n->n<=nrem->Pm st st'->Bel (arrOf st) (arrOf st') lo->Asc lt (arrOf st') lo (lo+n)->Q (some n) st'):wpS (model prog w) A E s (countRun' lo nrem) Q st:=by
 have b0:Bel (arrOf st) (arrOf st) lo:=λ_ _=>rfl
 refine xAj (yhK hA hO hk gs hz Pm.rfl (xA5 _) h1 (zg9 hO) λn n1 n2 a1 br=>?_);refine S_if (λ_=>xAs (h _ _ n1 n2 Pm.rfl b0 a1)) λc1=>?_
 have c1':=nbeq c1;dsimp only at c1';have br:lt (av (arrOf st) (lo+n)) (av (arrOf st) (lo+n-1))=true:=br.resolve_left c1'
 extract_lets n4 q4 jp
 refine jpS (f:=jp ⟨⟩) (λu=>Pm st u/\Bel (arrOf st) (arrOf u) lo/\Dsc lt (arrOf u) lo (lo+(n+1))) (λkey=>S_if (λ_=>xAj (zcx hA hk gs Pm.rfl (by ac_rfl) (by ac_rfl) ?_)) λc2=>key st ⟨Pm.rfl,b0,?_⟩) ?_
 ·cases hr:lt (av (arrOf st) lo) (av (arrOf st) (lo+(none,n).2-1))
  rotate_left
  exact xAs (h _ _ n1 n2 Pm.rfl b0 a1);refine xAj (ygc λst1 e em=>key st1 ⟨e,?_,?_⟩)
  ·rw[em];exact Bel.mir _ (xA5 _) (by ac_rfl)
  have hz2:lo+n<=(arrOf st).size:=by lia
  dsimp only at em hr;have like:∀u v,lo<=u->u<lo+n->lo<=v->v<lo+n->lt (av (arrOf st) u) (av (arrOf st) v)=false:=λu v q1 q2 q3 q4=>by
   refine hO.trans (a1 v (lo+n-1) q3 (by lia) (by lia)) (hO.trans hr (a1 lo u (xA5 _) q1 q2))
  have d1:Dsc lt (arrOf st1) lo (lo+n):=by
   rw[em];exact yfO (λu v q1 q2 q3=>like u v q1 (by lia) (by lia) q3) (xA5 _) hz2 (by lia) like
  refine ybO (j:=lo+n) hO d1 (by lia) ?_;rw[em,ybU hz2,ybU hz2,if_pos (by lia),if_neg (by lia)];exact hO.trans (hO.asym br) (like _ _ (by lia) (by lia) (by lia) (by lia))
 ·have n1':n=1:=by dsimp only at *;lia
  subst n1';exact ybO (j:=lo+1) hO (λu v q1 q2 q3=>by rw[show u=v by lia];exact hO.refl _) (by lia) (hO.asym br)
 rintro st1 ⟨e,bl,ds⟩;refine xAj (wpS_lift (xBA ⟨rfl,?_⟩));refine xAj (ybE (λi z u=>Pm st u/\z.1=none/\1<=z.2.1/\z.2.1<=i/\z.2.2+1<=z.2.1/\Bel (arrOf st) (arrOf u) lo/\Dsc lt (arrOf u) lo (lo+z.2.1)/\∀x y,lo+z.2.1<=x+(z.2.2+1)->x<lo+z.2.1->lo+z.2.1<=y+(z.2.2+1)->y<lo+z.2.1->lt (av (arrOf u) x) (av (arrOf u) y)=false) (λz u=>Pm st u/\z.1=none/\1<=z.2.1/\z.2.1<=nrem/\z.2.2+1<=z.2.1/\Bel (arrOf st) (arrOf u) lo/\Dsc lt (arrOf u) lo (lo+z.2.1)/\∀x y,lo+z.2.1<=x+(z.2.2+1)->x<lo+z.2.1->lo+z.2.1<=y+(z.2.2+1)->y<lo+z.2.1->lt (av (arrOf u) x) (av (arrOf u) y)=false) ⟨e,rfl,(by ac_rfl),xA5 _,(by ac_rfl),bl,ds,λx y x1 x2 y1 y2=>by rw[show x=y by dsimp only at *;lia];exact hO.refl _⟩ ?_ ?_ ?_)
 ·rintro⟨r,m,q⟩ u ⟨h1,h2,h3,h4,h5⟩;dsimp only at h4;exact⟨h1,h2,h3,(by ac_rfl),h5⟩
 ·rintro⟨r,m,q⟩ u ⟨e,h2,h3,h4,h5,h6,h7,h8⟩;dsimp only at h2 h3 h4 h5 h6 h7 h8;subst h2;have hz2:lo+m<=(arrOf u).size:=by rw[e.size];lia
  refine S_if (λ_=>xAj (ygc λu1 e1 em1=>?_)) λ_=>?_
  have e2:=e.trans e1;have b2:Bel (arrOf st) (arrOf u1) lo:=h6.trans (by rw[em1];exact Bel.mir _ (by ac_rfl) hz2);have d2:Dsc lt (arrOf u1) lo (lo+m):=by
   rw[em1];exact yfO h7 (by ac_rfl) hz2 (by ac_rfl) λx y x1 x2 y1 y2=>h8 x y (by dsimp only at *;lia) x2 (by dsimp only at *;lia) y2
  have hz3:lo+m<=(arrOf u1).size:=by rw[e2.size];lia
  rotate_left
  have e2:=e;have b2:=h6;have d2:=h7;have hz3:=hz2
  all_goals
   refine xAj (ygc λu2 e3 em2=>?_);have e4:=e2.trans e3;have b3:=b2.trans (em2 ▸ Bel.mir _ (xA5 _) hz3);refine xAj (yhK hA hO hk gs hz e4 h3 h4 (em2 ▸ zhk d2 hz3) λn n1 n2 a2 _=>?_);exact xAs (h _ _ n1 n2 e4 b3 a2)
 ·rintro i ⟨r,m,q⟩ u _ _ ⟨e,h2,h3,h4,h5,h6,h7,h8⟩;dsimp only at h2 h3 h4 h5 h6 h7 h8;have hz2:lo+m<=(arrOf u).size:=by rw[e.size];lia
  refine xAj (zcx hA hk gs e (by ac_rfl) (by ac_rfl) ?_);refine S_if (λhc=>?_) λhc=>?_
  rotate_left
  ·refine xAj (zcx hA hk gs e (by ac_rfl) (by ac_rfl) ?_);dsimp only at hc ⊢;have hc:lt (av (arrOf u) (lo+m)) (av (arrOf u) (lo+m-1))=false:=by simpa using hc
   cases hd:lt (av (arrOf u) (lo+m-1)) (av (arrOf u) (lo+m))
   ·refine xAs ⟨e,rfl,(by ac_rfl),(by ac_rfl),(by ac_rfl),h6,ybO (j:=lo+m) hO h7 (by lia) hd,λx y x1 x2 y1 y2=>?_⟩;dsimp only at x1 x2 y1 y2;have lk:∀x,lo+m<=x+(q+1)->x<lo+m->lt (av (arrOf u) x) (av (arrOf u) (lo+m))=false/\lt (av (arrOf u) (lo+m)) (av (arrOf u) x)=false:=λx x1 x2=>⟨hO.trans hd (h8 _ _ x1 x2 (by lia) (by lia)),hO.trans (h8 _ _ (by lia) (by lia) x1 x2) hc⟩
    rcases xAP x (lo+m) with p1|p1
    ·rcases xAP y (lo+m) with p2|p2
     ·exact h8 x y (by lia) p1 (by lia) p2
     ·rw[show y=lo+m by lia];exact(lk x (by lia) p1).1
    ·rw[show x=lo+m by lia];rcases xAP y (lo+m) with p2|p2
     ·exact(lk y (by lia) p2).2
     ·rw[show y=lo+m by lia];exact hO.refl _
   ·exact xAs ⟨e,rfl,h3,(by ac_rfl),h5,h6,h7,h8⟩
  ·dsimp only at hc;have lowest:∀x,lo<=x->x<lo+m->lt (av (arrOf u) x) (av (arrOf u) (lo+m))=false:=λx x1 x2=>hO.trans (hO.asym hc) (h7 x (lo+m-1) x1 (by lia) (by lia))
   have one:∀ {b:Array Keyed} (x y:Nat),lo+(m+1)<=x+(0+1)->x<lo+(m+1)->lo+(m+1)<=y+(0+1)->y<lo+(m+1)->lt (av b x) (av b y)=false:=λx y x1 x2 y1 y2=>by rw[show x=y by lia];exact hO.refl _
   refine S_if (λ_=>xAj (ygc λu1 e1 em1=>?_)) λ_=>?_
   ·refine xAs ⟨e.trans e1,rfl,(by ac_rfl),(by ac_rfl),(by ac_rfl),h6.trans (by rw[em1];exact Bel.mir _ (by ac_rfl) hz2),?_,one⟩;dsimp only at em1;have d2:Dsc lt (arrOf u1) lo (lo+m):=by
     rw[em1];exact yfO h7 (by lia) hz2 (by lia) λx y x1 x2 y1 y2=>h8 x y (by lia) x2 (by lia) y2
    refine ybO (j:=lo+m) hO d2 (by lia) ?_;have x1:av (mirror (arrOf u) (lo+m-(q+1)) (lo+m) ((lo+m-(lo+m-(q+1)))/2)) (lo+m)=av (arrOf u) (lo+m):=by rw[ybU hz2,if_neg (by lia)]
    rw[em1,x1,ybU hz2];split
    ·exact lowest _ (by lia) (by lia)
    ·exact lowest _ (by lia) (by lia)
   ·exact xAs ⟨e,rfl,(by ac_rfl),(by ac_rfl),(by ac_rfl),h6,ybO (j:=lo+m) hO h7 (by lia) (hO.asym hc),one⟩
end
end L2
end
section
namespace L2
open PySem PySem.W PySem.Calls PyProof.Rows
local macro_rules | `(tactic| ac_rfl) => `(tactic| first | omega | (dsimp only; omega))
section
variable {prog:Program} {w:World} {A:Around} {E:Value->Shared->Prop} {s:Shared} {κ:SortKind}
variable {g:Keyed->Prop} {lt:Keyed->Keyed->Bool} (hA:AnsL prog w A s κ g lt) (hO:Ordr lt)
include hA hO
theorem zif{st:SortSt}{lo n ok:Nat}{Q:Bool->SortSt->Prop}(hk:kindOf st=κ)(gs:∀x∈(arrOf st).toList,g x)(hz:lo+n<=(arrOf st).size)(h1:1<=ok)(hok:ok<=n)(hs:Asc lt (arrOf st) lo (lo+ok))(h:∀st',Pm st st'->Bel (arrOf st) (arrOf st') lo->Asc lt (arrOf st') lo (lo+n)->Q true st'):wpS (model prog w) A E s (binarySort' lo n ok) Q st:=by
 refine xAj (ybE (λi z u=>Pm st u/\z.1=none/\Bel (arrOf st) (arrOf u) lo/\Asc lt (arrOf u) lo (lo+i)) (λz u=>Pm st u/\z.1=none/\Bel (arrOf st) (arrOf u) lo/\Asc lt (arrOf u) lo (lo+n)) ⟨Pm.rfl,rfl,λ_ _=>rfl,by rw[Nat.max_eq_left h1];exact hs⟩ ?_ ?_ ?_)
 ·rintro z u ⟨e,h2,h3,h4⟩;rw[Nat.max_eq_left h1,Nat.max_eq_right hok]at h4;exact⟨e,h2,h3,h4⟩
 ·rintro⟨r,z⟩ u ⟨e,h2,h3,h4⟩;dsimp only at h2;subst h2;exact xAs (h _ e h3 h4)
 ·rintro k ⟨r,z⟩ u k1 k2 ⟨e,h2,h3,h4⟩;have hu:lo+k<(arrOf u).size:=by rw[e.size];lia
  refine xAj (ybE (λi z v=>v=u/\z.1=none/\z.2.2<=k/\z.2.1<=z.2.2/\z.2.2+i<=z.2.1+k/\(∀t,t<z.2.1->lt (av (arrOf u) (lo+k)) (av (arrOf u) (lo+t))=false)/\∀t,z.2.2<=t->t<k->lt (av (arrOf u) (lo+t)) (av (arrOf u) (lo+k))=false) (λz v=>v=u/\z.1=none/\z.2.1<=k/\(∀t,t<z.2.1->lt (av (arrOf u) (lo+k)) (av (arrOf u) (lo+t))=false)/\∀t,z.2.1<=t->t<k->lt (av (arrOf u) (lo+t)) (av (arrOf u) (lo+k))=false) ⟨rfl,rfl,xA5 _,xAR _,(by ac_rfl),λt ht=>absurd ht (Nat.not_lt_zero _),λt t1 t2=>absurd t2 (by dsimp only at t1;lia)⟩ ?_ ?_ ?_)
  ·rintro⟨r,l,m⟩ v ⟨h1,h2,h3,h4,h5,h6,h7⟩;dsimp only at h3 h4 h5;exact⟨h1,h2,(by ac_rfl),h6,λt t1 t2=>h7 t (by dsimp only at *;lia) t2⟩
  ·rintro⟨r,l,m⟩ v ⟨rfl,h2,hl,h6,h7⟩;dsimp only at h2 hl h6 h7;subst h2;refine xAj (zhC λu1 e1 em=>xAs ⟨e.trans e1,rfl,?_,?_⟩)
   ·refine h3.trans λt ht=>?_
    rw[em,ye9 hu (by lia),if_neg (by lia),if_neg (by lia)]
   ·intro x y x1 x2 x3;dsimp only at em;have hd:lo+k-(lo+k-(lo+l))=lo+l:=by lia
    rw[em,ye9 hu (by lia),ye9 hu (by lia),hd];by_cases c1:x<lo+l
    ·rw[if_neg (show ¬ x=lo+l by lia),if_neg (show ¬ (lo+l<x/\x<=lo+k) by lia)];by_cases c2:y<lo+l
     ·rw[if_neg (by lia),if_neg (by lia)];exact h4 x y x1 x2 (by lia)
     ·by_cases c3:y=lo+l
      ·rw[if_pos c3];have:=h6 (x-lo) (by lia)
       rwa [show lo+(x-lo)=x by lia]at this
      ·rw[if_neg c3,if_pos (by lia)];exact h4 x (y-1) x1 (by lia) (by lia)
    ·by_cases c3:x=lo+l
     ·rw[if_pos c3];by_cases c4:y=lo+l
      ·rw[if_pos c4];exact hO.refl _
      ·rw[if_neg c4,if_pos (by lia)];have:=h7 (y-1-lo) (by lia) (by lia)
       rwa [show lo+(y-1-lo)=y-1 by lia]at this
     ·rw[if_neg c3,if_pos (show lo+l<x/\x<=lo+k by lia),if_neg (by lia),if_pos (by lia)];exact h4 (x-1) (y-1) (by lia) (by lia) (by lia)
  ·rintro i ⟨r,l,m⟩ v _ _ ⟨rfl,h2,h5,h6,h7,h8,h9⟩;dsimp only at h2 h5 h6 h7 h8 h9;refine S_if (λc1=>xAs ⟨rfl,rfl,(by ac_rfl),h8,λt t1 t2=>h9 t (by dsimp only at *;lia) t2⟩) λc1=>?_
   dsimp only at c1;refine xAj (zcx hA hk gs e (by ac_rfl) (by ac_rfl) ?_);cases hc:lt (av (arrOf v) (lo+k)) (av (arrOf v) (lo+(l+m)/2))
   ·refine xAs ⟨rfl,rfl,h5,(by ac_rfl),(by ac_rfl),λt ht=>?_,h9⟩;dsimp only at ht;exact hO.trans (h4 (lo+t) (lo+(l+m)/2) (by lia) (by lia) (by lia)) hc
   ·refine xAs ⟨rfl,rfl,(by ac_rfl),(by ac_rfl),(by ac_rfl),h8,λt t1 t2=>?_⟩;dsimp only at t1;exact hO.trans (hO.asym hc) (h4 (lo+(l+m)/2) (lo+t) (by lia) (by lia) (by lia))
end
end L2
end
section
namespace L2
open PySem PySem.W PySem.Calls PyProof.Rows
local macro_rules | `(tactic| ac_rfl) => `(tactic| first | omega | (dsimp only; omega))
noncomputable def ChS(lt:Keyed->Keyed->Bool)(a:Array Keyed):List (Nat×Nat×Nat)->Nat->Nat->Prop
 | [],i,j=>i=j
 |x::r,i,j=>x.1=i/\1<=x.2.1/\Asc lt a i (i+x.2.1)/\ChS lt a r (i+x.2.1) j
section
variable {lt:Keyed->Keyed->Bool} {a:Array Keyed}
theorem yc6:∀ {u v:List (Nat×Nat×Nat)} {i j:Nat},ChS lt a (u++v) i j↔∃c,ChS lt a u i c/\ChS lt a v c j
 | [],v,i,j=>⟨λh=>⟨i,rfl,h⟩,λ⟨c,e,h⟩=>by cases e;exact h⟩
 |x::u,v,i,j=>by
  show(x.1=i/\1<=x.2.1/\_/\ChS lt a (u++v) (i+x.2.1) j)↔∃c,(x.1=i/\1<=x.2.1/\_/\ChS lt a u (i+x.2.1) c)/\ChS lt a v c j;rw[yc6];exact⟨λ⟨h1,h2,h5,c,h3,h4⟩=>⟨c,⟨h1,h2,h5,h3⟩,h4⟩,λ⟨c,⟨h1,h2,h5,h3⟩,h4⟩=>⟨h1,h2,h5,c,h3,h4⟩⟩
theorem zdN:∀ {u:List (Nat×Nat×Nat)} {i j:Nat},ChS lt a u i j->i+u.length<=j
 | [],i,j,h=>Nat.le_of_eq h
 |x::u,i,j,⟨_,h1,_,h⟩=>by
  have:=zdN h;rw[xAo];lia
theorem zaQ{b:Array Keyed}{i j:Nat}(h:Asc lt a i j)(e:∀t,i<=t->t<j->av b t=av a t):Asc lt b i j:=λu v h1 h2 h3=>by
 rw[e u h1 (by lia),e v (by lia) h3];exact h u v h1 h2 h3
theorem ybV{b:Array Keyed}:∀ {u:List (Nat×Nat×Nat)} {i j:Nat},ChS lt a u i j->(∀t,i<=t->t<j->av b t=av a t)->ChS lt b u i j
 | [],i,j,h,_=>h
 |x::u,i,j,⟨h1,h2,h3,h4⟩,e=>by
  have:=zdN h4;exact⟨h1,h2,zaQ h3 λt t1 t2=>e t t1 (by lia),ybV h4 λt t1 t2=>e t (by lia) t2⟩
theorem zfm{f:Nat×Nat×Nat->Nat×Nat×Nat}(hf:∀x,(f x).1=x.1/\(f x).2.1=x.2.1):∀ {l:List (Nat×Nat×Nat)} {k i j:Nat},ChS lt a l i j->ChS lt a (l.modify k f) i j
 | [],k,i,j,h=>by cases k <;> exact h
 |x::l,0,i,j,h=>by
  show(f x).1=i/\1<=(f x).2.1/\Asc lt a i (i+(f x).2.1)/\ChS lt a l (i+(f x).2.1) j;rw[(hf x).1,(hf x).2];exact h
 |x::l,k+1,i,j,⟨h1,h2,h5,h3⟩=>⟨h1,h2,h5,zfm hf h3⟩
theorem yey{p:Array (Nat×Nat×Nat)}{i n k:Nat}(h:ChS lt a p.toList 0 i)(hn:1<=n)(hs:Asc lt a i (i+n)):ChS lt a (p.push (i,n,k)).toList 0 (i+n):=by
 rw[xB1,yc6];exact⟨i,h,rfl,hn,hs,rfl⟩
end
theorem yg6{α:Type}{l u v:List α}{x y z:α}{n:Nat}(e:l=u++x::y::v)(h:u.length=n):(l.set n z).eraseIdx (n+1)=u++z::v:=by
 subst e h;rw[List.set_append_right _ _ (xA5 _),List.eraseIdx_append_of_length_le (Nat.le_succ _),Nat.sub_self,show u.length+1-u.length=1 by lia];rfl
theorem ydr{α:Type}(q:Nat):∀(l:List α) (k:Nat) (a:Array α),q+k+l.length<=a.size->((l.zipIdx k).foldl (λa x=>a.setIfInBounds (q+x.2) x.1) a).toList=a.toList.take (q+k)++l++a.toList.drop (q+k+l.length)
 | [],k,a,_=>by simp
 |x::l,k,a,h=>by
  rw[xAo]at h;rw[List.zipIdx_cons,List.foldl_cons,ydr q l (k+1) _ (by rw[Array.size_setIfInBounds];lia),Array.toList_setIfInBounds];have hl:q+k<a.toList.length:=by rw[xA4];lia
  rw[show q+(k+1)=q+k+1 by lia,xAo,show q+k+1+l.length=q+k+(l.length+1) by lia];rw[List.take_set,List.drop_set_of_lt (by lia),List.take_succ_eq_append_getElem hl,List.set_append_right _ _ (by rw[xAC];lia),xAC];rw[show q+k-min (q+k) a.toList.length=0 by lia];simp
theorem ygo{α:Type}{a:Array α}{i j k:Nat}{m:Array α}(h1:i<=j)(h2:j<=k)(h3:k<=a.size)(h:m.toList.Perm ((a.extract i j).toList++(a.extract j k).toList)):((m.toList.zipIdx).foldl (λa x=>a.setIfInBounds (i+x.2) x.1) a).toList.Perm a.toList:=by
 have hl:m.toList.length=k-i:=by
  rw[h.length_eq,xAB,xA4,xA4,Array.size_extract,Array.size_extract];lia
 rw[ydr i m.toList 0 a (by lia),hl,show i+0+(k-i)=k by lia,Nat.add_zero];have e:a.toList=a.toList.take i++((a.extract i j).toList++(a.extract j k).toList)++a.toList.drop k:=by
  rw[<-xBo,<-ycF a h1,<-ycF a h2,List.take_append_drop]
 conv=>rhs;rw[e]
 exact List.Perm.append_right _ (List.Perm.append_left _ h)
theorem zgT{lt:Keyed->Keyed->Bool}{a:Array Keyed}{p:Array (Nat×Nat×Nat)}{i b:Nat}(h:ChS lt a p.toList 0 b)(hi:i+1<p.size):∃sa na pa sb nb pb,p[i]?=some (sa,na,pa)/\p[i+1]?=some (sb,nb,pb)/\sb=sa+na/\1<=na/\1<=nb/\sb+nb<=b/\Asc lt a sa (sa+na)/\Asc lt a sb (sb+nb)/\((p.setIfInBounds i (sa,na+nb,pa)).eraseIdxIfInBounds (i+1)).size+1=p.size/\
  ∀a':Array Keyed,(∀t,t<sa\/sb+nb<=t->av a' t=av a t)->Asc lt a' sa (sa+(na+nb))->ChS lt a' ((p.setIfInBounds i (sa,na+nb,pa)).eraseIdxIfInBounds (i+1)).toList 0 b:=by
 have hl:i+1<p.toList.length:=by rw[xA4];exact hi
 have h1:p.toList=p.toList.take i++p.toList[i]::p.toList[i+1]::p.toList.drop (i+1+1):=by
  rw[<-List.drop_eq_getElem_cons hl,<-List.drop_eq_getElem_cons (by lia),List.take_append_drop]
 rw[h1,yc6]at h;obtain⟨c,h2,h3,h4,h8,h5,h6,h9,h7⟩:=h;have e0:p[i]?=some p.toList[i]:=by
  rw[xAK (by lia)];rfl
 have e1:p[i+1]?=some p.toList[i+1]:=by
  rw[xAK hi];rfl
 have c2:=zdN h2;have c7:=zdN h7;refine⟨p.toList[i].1,p.toList[i].2.1,p.toList[i].2.2,p.toList[i+1].1,p.toList[i+1].2.1,p.toList[i+1].2.2,e0,e1,by rw[h5,h3],h4,h6,by lia,by rw[h3];exact h8,by rw[h5];exact h9,?_,λa' same as=>?_⟩
 ·rw[<-xA4,Array.toList_eraseIdxIfInBounds,Array.toList_setIfInBounds,List.length_eraseIdx_of_lt (by rw[List.length_set];exact hl),List.length_set,xA4]
  lia
 ·rw[Array.toList_eraseIdxIfInBounds,Array.toList_setIfInBounds];have hlt:(p.toList.take i).length=i:=by rw[xAC];lia
  rw[yg6 h1 hlt,yc6];rw[h3]at as;refine⟨c,ybV h2 λt t1 t2=>same t (by lia),h3,by dsimp only;lia,as,?_⟩;dsimp only;rw[<-Nat.add_assoc];exact ybV h7 λt t1 t2=>same t (by lia)
theorem yfa{m a:Array Keyed}{q:Nat}(h:q+m.size<=a.size)(t:Nat):av ((m.toList.zipIdx).foldl (λa x=>a.setIfInBounds (q+x.2) x.1) a) t=if t<q then av a t else if t<q+m.size then av m (t-q) else av a t:=by
 have e:=ydr q m.toList 0 a (by rw[xA4];lia);rw[xA4,Nat.add_zero]at e;have g:∀(b:Array Keyed) k,av b k=(b.toList[k]?).getD (Value.none,Value.none):=λb k=>by rw[av_q,xAV]
 rw[g,e];by_cases c1:t<q
 ·rw[if_pos c1,xBo,xBt (by rw[xAC,xA4];lia),List.getElem?_take,if_pos c1,<-g]
 ·rw[if_neg c1];by_cases c2:t<q+m.size
  ·rw[if_pos c2,xBt (by rw[xAB,xAC,xA4,xA4];lia),xB0 (by rw[xAC,xA4];lia),xAC,xA4,show min q a.size=q by lia,<-g]
  ·rw[if_neg c2,xB0 (by rw[xAB,xAC,xA4,xA4];lia),xAB,xAC,xA4,xA4,List.getElem?_drop,show q+m.size+(t-(min q a.size+m.size))=t by lia,<-g]
theorem zeA{a:Array Keyed}{i j u:Nat}(h:i+u<j)(hj:j<=a.size):av (a.extract i j) u=av a (i+u):=by
 rw[<-ya6 (by rw[Array.size_extract];lia),<-ya6 (by lia),Array.getElem_extract]
theorem yee{lt:Keyed->Keyed->Bool}{a:Array Keyed}{i j lo hi:Nat}(h:Asc lt a lo hi)(h1:lo<=i)(h2:j<=hi)(hj:j<=a.size):SrtL lt (a.extract i j).toList:=by
 unfold SrtL;rw[List.pairwise_iff_getElem];intro u v hu hv huv;rw[xA4,Array.size_extract]at hu hv;have g:∀ {k:Nat} (q:k<(a.extract i j).toList.length),(a.extract i j).toList[k]=av a (i+k):=λ{k} q=>by
  rw[xA4,Array.size_extract]at q;rw[<-zeA (j:=j) (by lia) hj,<-ya6 (by rw[Array.size_extract];lia)];rfl
 rw[g,g];exact h _ _ (by lia) (by lia) (by lia)
section
variable {prog:Program} {w:World} {A:Around} {E:Value->Shared->Prop} {s:Shared} {κ:SortKind}
theorem ygK{st x:SortSt}{Q:PUnit->SortSt->Prop}(h:Q ⟨⟩ x):wpS (model prog w) A E s (set x:StateT SortSt Sem PUnit) Q st:=by
 unfold wpS;rw[StateT.run_set];exact xA3 ⟨rfl,h⟩
variable {g:Keyed->Prop} {lt:Keyed->Keyed->Bool} (hA:AnsL prog w A s κ g lt) (hO:Ordr lt)
include hA hO
theorem zfg{st:SortSt}{i b:Nat}{Q:Bool->SortSt->Prop}(hk:kindOf st=κ)(gs:∀x∈(arrOf st).toList,g x)(hf:failedOf st=none)(hp:ChS lt (arrOf st) (pendingOf st).toList 0 b)(hb:b<=(arrOf st).size)(hi:i+1<(pendingOf st).size)
  (h:∀st':SortSt,kindOf st'=κ->failedOf st'=none->(arrOf st').toList.Perm (arrOf st).toList->ChS lt (arrOf st') (pendingOf st').toList 0 b->(pendingOf st').size+1=(pendingOf st).size->(∀t,b<=t->av (arrOf st') t=av (arrOf st) t)->Q true st'):wpS (model prog w) A E s (mergeAt' i) Q st:=by
 obtain⟨sa,na,pa,sb,nb,pb,e0,e1,rfl,h1,h2,h3,ax,ay,hsz,h4⟩:=zgT hp hi;refine xAj (wpS_get ?_);dsimp only;rw[show(pendingOf st)[i]?=_ from e0,show(pendingOf st)[i+1]?=_ from e1];refine xAj (ygK ?_);have r1:sa+na<(arrOf st).size:=by lia
 have joined:lt (av (arrOf st) (sa+na)) (av (arrOf st) (sa+na-1))=false->Asc lt (arrOf st) sa (sa+(na+nb)):=λq u v x1 x2 x3=>by
  rcases xAP v (sa+na) with c|c
  ·exact ax u v x1 x2 c
  ·rcases xAP u (sa+na) with c'|c'
   ·exact hO.trans (hO.trans (ax u (sa+na-1) x1 (by lia) (by lia)) q) (ay (sa+na) v (xA5 _) c (by lia))
   ·exact ay u v c' x2 (by lia)
 have whole:lt (av (arrOf st) (sa+na)) (av (arrOf st) (sa+na-1))=false->wpS (model prog w) A E s (pure true) Q (SortSt.mk' (kindOf st) (arrOf st) (((pendingOf st).setIfInBounds i (sa,na+nb,pa)).eraseIdxIfInBounds (i+1)) (gallopOf st) (failedOf st)):=λq=>xAs (h _ hk hf (.refl _) (h4 _ (λ_ _=>rfl) (joined q)) hsz λ_ _=>rfl)
 refine xAj (zaw r1 ?_);refine xAj (zby hA hk (gd gs r1) gs (base:=sa) (n:=na) (hint:=0) (Nat.le_of_lt r1) h1 (zcS hO λu v x1 x2=>ax _ _ (by lia) (by lia) (by lia)) λk hk1 hk2 hk3=>?_);rw[ya6 r1]at hk2 hk3;refine S_if (λe=>whole ?_) λc1=>?_
 ·have e:=xBC e;have:=hk2 (na-1) (by lia);rw[show sa+(na-1)=sa+na-1 by lia]at this
  simpa[bB]using this
 have c1':=nbeq c1;have r2:sa+k+(na-k)-1<(arrOf st).size:=by lia
 have e2:sa+k+(na-k)-1=sa+na-1:=by lia
 refine xAj (zaw r2 ?_);refine xAj (zby hA hk (gd gs r2) gs (base:=sa+na) (n:=nb) (hint:=nb-1) (xAz h3 hb) (by lia) (zcS hO λu v x1 x2=>ay _ _ (by lia) (by lia) (by lia)) λk2 hk4 hk5 hk6=>?_);rw[ya6 r2,e2]at hk5 hk6;refine S_if (λe=>whole ?_) λc2=>?_
 ·have e:=xBC e;have:=hk6 0 (by lia) (by lia);rw[Nat.add_zero]at this
  simpa[bB]using this
 have c2':=nbeq c2;have gx:∀i j,∀x∈((arrOf st).extract i j).toList,g x:=λi j x hx=>gs x (by
  rw[Array.toList_extract,List.extract_eq_take_drop]at hx;exact List.mem_of_mem_drop (List.mem_of_mem_take hx))
 have z1:((arrOf st).extract (sa+k) (sa+na)).size=na-k:=by rw[Array.size_extract];lia
 have z2:((arrOf st).extract (sa+na) (sa+na+k2)).size=k2:=by rw[Array.size_extract];lia
 have x1:0<((arrOf st).extract (sa+k) (sa+na)).size:=by lia
 have x2:0<((arrOf st).extract (sa+na) (sa+na+k2)).size:=by lia
 have sx:SrtL lt ((arrOf st).extract (sa+k) (sa+na)).toList:=yee ax (by lia) (xA5 _) (by lia);have sy:SrtL lt ((arrOf st).extract (sa+na) (sa+na+k2)).toList:=yee ay (xA5 _) (by lia) (by lia);have ex0:av ((arrOf st).extract (sa+k) (sa+na)) 0=av (arrOf st) (sa+k):=zeA (by lia) (by lia);have ey0:av ((arrOf st).extract (sa+na) (sa+na+k2)) 0=av (arrOf st) (sa+na):=zeA (by lia) (by lia);have hF:lt (av ((arrOf st).extract (sa+k) (sa+na)) 0) (av ((arrOf st).extract (sa+na) (sa+na+k2)) 0)=false:=by
  rw[ex0,ey0];exact hO.asym (by simpa[bB]using hk3 k (xA5 _) (by lia))
 have hL:∀y∈((arrOf st).extract (sa+na) (sa+na+k2)).toList,lt (av ((arrOf st).extract (sa+k) (sa+na)) (((arrOf st).extract (sa+k) (sa+na)).size-1)) y=false:=λy hy=>by
  obtain⟨u,hu,_,rfl⟩:=zda hy;rw[z1,zeA (by lia) (by lia),show sa+k+(na-k-1)=sa+na-1 by lia];exact hO.asym (by simpa[bB]using hk5 u hu)
 have fin:∀(r:Array Keyed) (st1:SortSt),Fin2 lt ((arrOf st).extract (sa+k) (sa+na)) ((arrOf st).extract (sa+na) (sa+na+k2)) r->Sm (SortSt.mk' (kindOf st) (arrOf st) (((pendingOf st).setIfInBounds i (sa,na+nb,pa)).eraseIdxIfInBounds (i+1)) (gallopOf st) (failedOf st)) st1->wpS (model prog w) A E s (pure (failedOf st1).isNone) Q (SortSt.mk' (kindOf st1) ((r.toList.zipIdx).foldl (λa x=>a.setIfInBounds (sa+k+x.2) x.1) (arrOf st1)) (pendingOf st1) (gallopOf st1) (failedOf st1)):=by
  intro r st1 ⟨hr,hs⟩ ⟨f1,f2,f3,f4⟩;have zr:r.size=na-k+k2:=by
   have:=hr.length_eq
   rwa [xAB,xA4,xA4,xA4,z1,z2]at this
  rw[show failedOf st1=none from f4.trans hf];have f2':arrOf st1=arrOf st:=f2;have vr:∀t,t<na-k+k2->(∃u,sa+k<=u/\u<sa+na/\av r t=av (arrOf st) u)\/∃u,sa+na<=u/\u<sa+na+k2/\av r t=av (arrOf st) u:=λt ht=>by
   have hm:av r t∈r.toList:=by rw[<-ya6 (show t<r.size by lia)];simp
   rcases xAr.mp (hr.mem_iff.mp hm) with hm|hm
   ·obtain⟨u,u1,u2,_,e⟩:=zce (by lia) hm;exact .inl ⟨u,u1,u2,e⟩
   ·obtain⟨u,u1,u2,_,e⟩:=zce (by lia) hm;exact .inr ⟨u,u1,u2,e⟩
  refine xAs (h _ (f1.trans hk) rfl ?_ ?_ ?_ λt ht=>?_)
  ·show(List.foldl _ (arrOf st1) _).toList.Perm _;rw[f2'];exact ygo (by lia) (by lia) (by lia) hr
  ·show ChS lt (List.foldl _ (arrOf st1) _) (pendingOf st1).toList 0 b;rw[show pendingOf st1=_ from f3,f2'];have al:=yfa (m:=r) (a:=arrOf st) (q:=sa+k) (by lia);refine h4 _ (λt ht=>?_) λu v u1 u2 u3=>?_
   ·rw[al,zr];rcases ht with ht|ht
    ·rw[if_pos (by lia)]
    ·rw[if_neg (by lia),if_neg (by lia)]
   ·rw[al,al,zr];have lowR:∀u,sa<=u->u<sa+k->∀t,t<na-k+k2->lt (av r t) (av (arrOf st) u)=false:=λu u1 u2 t ht=>by
     have hu:lt (av (arrOf st) (sa+na)) (av (arrOf st) u)=false:=by
      have:=hk2 (u-sa) (by lia);rw[show sa+(u-sa)=u by lia]at this
      simpa[bB]using this
     rcases vr t ht with⟨x,x1,x2,e⟩ |⟨x,x1,x2,e⟩
     ·rw[e];exact ax u x u1 (by lia) x2
     ·rw[e];exact hO.trans hu (ay (sa+na) x (xA5 _) x1 (by lia))
    have highR:∀v,sa+na+k2<=v->v<sa+na+nb->∀t,t<na-k+k2->lt (av (arrOf st) v) (av r t)=false:=λv v1 v2 t ht=>by
     have hv:lt (av (arrOf st) v) (av (arrOf st) (sa+na-1))=false:=by
      have:=hk6 (v-(sa+na)) (by lia) (by lia);rw[show sa+na+(v-(sa+na))=v by lia]at this
      simpa[bB]using this
     rcases vr t ht with⟨x,x1,x2,e⟩ |⟨x,x1,x2,e⟩
     ·rw[e];exact hO.trans (ax x (sa+na-1) (by lia) (by lia) (by lia)) hv
     ·rw[e];exact ay x v (by lia) (by lia) (by lia)
    have lowH:∀u v,sa<=u->u<sa+k->sa+na+k2<=v->v<sa+na+nb->lt (av (arrOf st) v) (av (arrOf st) u)=false:=λu v u1 u2 v1 v2=>hO.trans (lowR u u1 u2 0 (by lia)) (highR v v1 v2 0 (by lia))
    by_cases p1:u<sa+k
    ·rw[if_pos p1];by_cases p2:v<sa+k
     ·rw[if_pos p2];exact ax u v u1 u2 (by lia)
     ·rw[if_neg p2];by_cases p3:v<sa+k+(na-k+k2)
      ·rw[if_pos p3];exact lowR u u1 p1 _ (by lia)
      ·rw[if_neg p3];exact lowH u v u1 p1 (by lia) (by lia)
    ·rw[if_neg p1,if_neg (show ¬ v<sa+k by lia)];by_cases p2:u<sa+k+(na-k+k2)
     ·rw[if_pos p2];by_cases p3:v<sa+k+(na-k+k2)
      ·rw[if_pos p3];exact zdy hO hs (by lia) (by lia)
      ·rw[if_neg p3];exact highR v (by lia) (by lia) _ (by lia)
     ·rw[if_neg p2,if_neg (by lia)];exact ay u v (by lia) u2 (by lia)
  ·show(pendingOf st1).size+1=_;rw[show pendingOf st1=_ from f3];exact hsz
  ·show av (List.foldl _ (arrOf st1) _) t=_;rw[f2',yfa (m:=r) (a:=arrOf st) (q:=sa+k) (by lia),zr,if_neg (by lia),if_neg (by lia)]
 refine S_if (λ_=>?_) λ_=>?_
 ·refine xAj (zft hA hO hk (gx _ _) (gx _ _) x1 x2 sx sy hF hL λr st1 hr e=>?_);exact xAj (wpS_modify (xAj (wpS_get (fin r st1 hr e))))
 ·refine xAj (zfw hA hO hk (gx _ _) (gx _ _) x1 x2 sx sy (λy hy=>?_) hL λr st1 hr e=>?_)
  ·refine zb5 hO sx (i:=0) x1 ?_ y (by rw[List.drop_zero];exact hy);rw[ya6 x1];exact hF
  ·exact xAj (wpS_modify (xAj (wpS_get (fin r st1 hr e))))
end
end L2
end
section
namespace L2
open PySem PySem.W PySem.Calls PyProof.Rows
local macro_rules | `(tactic| ac_rfl) => `(tactic| first | omega | (dsimp only; omega))
theorem yhG{c:Prop}[Decidable c]{n:Nat}(h:¬ n<=1):(if c then n-2-1 else n-2)+1<n:=by
 split <;> lia
noncomputable def Rn(lt:Keyed->Keyed->Bool)(κ:SortKind)(st0:SortSt)(b:Nat)(st:SortSt):Prop:=kindOf st=κ/\failedOf st=none/\(arrOf st).toList.Perm (arrOf st0).toList/\ChS lt (arrOf st) (pendingOf st).toList 0 b/\b<=(arrOf st0).size
section
variable {prog:Program} {w:World} {A:Around} {E:Value->Shared->Prop} {s:Shared} {κ:SortKind}
variable {g:Keyed->Prop} {lt:Keyed->Keyed->Bool} (hA:AnsL prog w A s κ g lt) (hO:Ordr lt)
include hA hO
theorem zhU{st:SortSt}{Q:Unit->SortSt->Prop}(hk:kindOf st=κ)(gs:∀x∈(arrOf st).toList,g x)(hf:failedOf st=none)(hp:pendingOf st = #[])
  (h:∀st':SortSt,failedOf st'=none->(arrOf st').toList.Perm (arrOf st).toList->SrtL lt (arrOf st').toList->Q () st'):wpS (model prog w) A E s sortRuns' Q st:=by
 have merge:∀(b i:Nat) (u:SortSt) {Q:Bool->SortSt->Prop},Rn lt κ st b u->i+1<(pendingOf u).size->(∀v,Rn lt κ st b v->(pendingOf v).size+1=(pendingOf u).size->(∀t,b<=t->av (arrOf v) t=av (arrOf u) t)->Q true v)->wpS (model prog w) A E s (mergeAt' i) Q u:=λb i u Q R hi k=>zfg hA hO R.1 (λx hx=>gs x (R.2.2.1.mem_iff.mp hx)) R.2.1 R.2.2.2.1 (by
   have:=R.2.2.1.length_eq;rw[xA4,xA4]at this;rw[this];exact R.2.2.2.2) hi λv h1 h2 h3 h4 h5 h6=>k v ⟨h1,h2,h3.trans R.2.2.1,h4,R.2.2.2.2⟩ h5 h6
 refine xAj (wpS_get ?_);refine xAj (ybE (λi z u=>z.1=none/\i<=z.2/\Rn lt κ st z.2 u) (λz u=>z.1=none/\z.2=(arrOf st).size/\Rn lt κ st z.2 u) ⟨rfl,xAR _,hk,hf,.refl _,?_,xAR _⟩ ?_ ?_ ?_)
 ·rw[hp];rfl
 ·rintro⟨r,lo⟩ u ⟨e1,e2,R⟩;refine⟨e1,Nat.le_antisymm R.2.2.2.2 (xAz ?_ e2),R⟩;show(arrOf st).size<=max 0 (arrOf st).size
  lia
 ·rintro⟨r,lo⟩ u ⟨e1,e2,R⟩;dsimp only at e1 e2;subst e1;have pl:=zdN R.2.2.2.1;rw[xA4]at pl;refine xAj (ybE (λi z u=>z.1=none/\(pendingOf u).size+i<=(arrOf st).size/\Rn lt κ st lo u) (λz u=>z.1=none/\(pendingOf u).size<=1/\Rn lt κ st lo u) ⟨rfl,by dsimp only at pl;lia,R⟩ ?_ ?_ ?_)
  ·rintro⟨r,z⟩ u ⟨e1,e3,R⟩;refine⟨e1,?_,R⟩;have e3:(pendingOf u).size+max 0 (arrOf st).size<=(arrOf st).size:=e3
   lia
  ·rintro⟨r,z⟩ u ⟨e1,e3,R1,R2,R3,R4,R5⟩;dsimp only at e1;subst e1;refine xAs (h _ R2 R3 ?_);have sz:(arrOf u).size=(arrOf st).size:=by
    have:=R3.length_eq
    rwa [xA4,xA4]at this
   have as:Asc lt (arrOf u) 0 (arrOf u).size:=by
    rw[sz,<-e2];rw[<-xA4]at e3;generalize (pendingOf u).toList=l at e3 R4;rcases l with _ |⟨x,_ |⟨y,l⟩⟩
    ·have R4:0=lo:=R4
     exactλ_ v _ _ h3=>absurd h3 (by lia)
    ·obtain⟨r1,r2,r3,r4⟩:=R4;have r4:0+x.2.1=lo:=r4;rw[<-r4];exact r3
    ·rw[xAo,xAo]at e3;lia
   have:=yee as (xA5 _) (xA5 _) (xA5 _)
   rwa [Array.extract_size]at this
  ·rintro i ⟨r,z⟩ u _ _ ⟨e1,e3,R⟩;refine xAj (wpS_get ?_);refine S_if (λc1=>xAs ⟨rfl,c1,R⟩) λc1=>?_
   have c2:¬ (pendingOf u).size<=1:=c1;refine xAj (merge _ _ _ R ?_ (λv R hs _=>xAs ⟨rfl,by lia,R⟩));exact yhG c2
 ·rintro i ⟨r,lo⟩ u _ _ ⟨e1,ei,R1,R2,R3,R4,R5⟩;dsimp only at R4 R5 ei;refine S_if (λc1=>xAs ⟨rfl,Nat.le_antisymm R5 c1,R1,R2,R3,R4,R5⟩) λc1=>?_
  dsimp only at c1;have sz:(arrOf u).size=(arrOf st).size:=by
   have:=R3.length_eq
   rwa [xA4,xA4]at this
  refine xAj (ygH hA hO R1 (λx hx=>gs x (R3.mem_iff.mp hx)) ?_ ?_ λn u1 n1 n2 e bel asc=>?_)
  ·show lo+((arrOf st).size-lo)<=(arrOf u).size;have c2:¬ lo>=(arrOf st).size:=c1
   lia
  ·show 1<=(arrOf st).size-lo;have c2:¬ lo>=(arrOf st).size:=c1
   lia
  have n3:n<=(arrOf st).size-lo:=n2;have c3:¬ lo>=(arrOf st).size:=c1;have U:Rn lt κ st lo u1:=⟨e.1.trans R1,e.2.2.1.trans R2,e.2.2.2.trans R3,by rw[e.2.1];exact ybV R4 λt _ t2=>bel t t2,R5⟩
  refine S_if (λc2=>?_) λ_=>?_
  refine xAj (wpS_lift (xBA ⟨rfl,?_⟩));refine xAj (zif hA hO U.1 (λx hx=>gs x (U.2.2.1.mem_iff.mp hx)) ?_ n1 ?_ asc λv e2 bel2 asc2=>?_)
  ·rw[e.size,sz];show lo+min ((arrOf st).size-lo) _<=_
   lia
  ·have c2':n<minRun' (arrOf st).size (arrOf st).size 0:=c2;show n<=min ((arrOf st).size-lo) (minRun' (arrOf st).size (arrOf st).size 0)
   lia
  have V:Rn lt κ st lo v:=⟨e2.1.trans U.1,e2.2.2.1.trans U.2.1,e2.2.2.2.trans U.2.2.1,by rw[e2.2.1];exact ybV U.2.2.2.1 λt _ t2=>bel2 t t2,R5⟩
  have m1:1<=min ((arrOf st).size-lo) (minRun' (arrOf st).size (arrOf st).size 0):=by
   have c2':n<minRun' (arrOf st).size (arrOf st).size 0:=c2
   lia
  have m2:lo+min ((arrOf st).size-lo) (minRun' (arrOf st).size (arrOf st).size 0)<=(arrOf st).size:=by lia
  have aN:=asc2
  rotate_left
  obtain⟨v,hv⟩:∃v,v=u1:=⟨_,rfl⟩
  rw[<-hv]at U asc ⊢;have V:=U;have aN:=asc;have m1:=n1;have m2:lo+n<=(arrOf st).size:=by lia
  all_goals
   refine xAj (wpS_get ?_);generalize hb:(pendingOf v).back?=o;rcases o with _ |⟨s1,n1,p1⟩
   ·refine xAj (wpS_modify (xAs ⟨rfl,by dsimp only;lia,V.1,V.2.1,V.2.2.1,yey V.2.2.2.1 m1 aN,m2⟩))
   ·refine xAj (ybE (λ_ z u=>z.1=none/\Rn lt κ st lo u/\∀t,lo<=t->av (arrOf u) t=av (arrOf v) t) (λz u=>z.1=none/\Rn lt κ st lo u/\∀t,lo<=t->av (arrOf u) t=av (arrOf v) t) ⟨rfl,V,λ_ _=>rfl⟩ (λ_ _ x=>x) ?_ ?_)
    ·rintro⟨r,z⟩ u ⟨e1,V,sv⟩;dsimp only at e1;subst e1;refine xAj (wpS_modify ?_);refine xAj (wpS_modify (xAs ⟨rfl,by dsimp only;lia,V.1,V.2.1,V.2.2.1,yey ?_ m1 (zaQ aN λt t1 _=>sv t t1),m2⟩));show ChS lt _ ((pendingOf u).modify _ _).toList 0 lo;rw[Array.toList_modify];refine zfm ?_ V.2.2.2.1
     exactλx=>⟨rfl,rfl⟩
    ·rintro i ⟨r,z⟩ u _ _ ⟨e1,V,sv⟩;refine xAj (wpS_get ?_);dsimp only;generalize hm:(if (pendingOf u).size>1 then(pendingOf u)[(pendingOf u).size-2]? else none)=o;rcases o with _ |⟨s2,n2,p2⟩
     ·exact xAs ⟨rfl,V,sv⟩
     ·have hs:(pendingOf u).size>1:=Decidable.byContradiction λc=>by rw[if_neg c]at hm;cases hm
      exact S_if (λ_=>xAs ⟨rfl,V,sv⟩) λ_=>xAj (merge _ _ _ V (show(pendingOf u).size-2+1<(pendingOf u).size by lia) λu2 V _ sm=>xAs ⟨rfl,V,λt ht=>(sm t ht).trans (sv t ht)⟩)
end
end L2
end
section
namespace L2
open PySem PySem.Spec PySem.W PySem.Calls PyProof.Rows
section
variable {prog:Program} {w:World} {A:Around} {E:Value->Shared->Prop} {s:Shared} {vs:List Value} {lt:Keyed->Keyed->Bool} (hO:Ordr lt)
def yaP(h h':Heap):Prop:=∀(b:Addr) (o:Obj),h.get? b=some o->h'.get? b=some o
theorem yaP.trans(x:yaP a b)(y:yaP b c):yaP a c:=λb o e=>y b o (x b o e)
theorem yaP.push(h:Heap)(o:Obj):yaP h (h.push o):=λ_ _ e=>xA2 _ e
theorem yc5{α:Type}(vs:List α):(vs.toArray.zip vs.toArray).toList=vs.map λv=>(v,v):=by
 rw[Array.toList_zip];show vs.zip vs=_
 induction vs with
 |nil=>rfl
 |cons x l ih=>rw[List.zip_cons_cons,ih];rfl
noncomputable def zfk(h:Heap)(l:Addr)(vs:List Value):Prop:=Ex3 λ(o:Obj) (n:Nat) (T:String)=>h.get? l=some o/\o.cls = .type T/\o.data = .seq vs.toArray n/\(T = "list"\/T = "tuple")
theorem zfk.lst(x:h.IsList l vs.toArray):zfk h l vs:=by
 obtain⟨o,e,c,n,d⟩:=x;exact⟨o,n,_,e,c,d,.inl rfl⟩
theorem zeK(hl:zfk s.heap l vs)(hz:vs.length<=sizeLine)
  (h:Q vs { s with heap:=(s.heap.push (seqObj "list" #[] 0)).update s.heap.objs.size (Obj.mapSeq (·++vs.toArray)) }):wpAny (model prog w) A (collect (.ref l)) Q E s:=by
 obtain⟨o,n,T,ho,hc,hd,hT⟩:=hl;have ho2:(s.heap.push (seqObj "list" #[] 0)).get? l=some o:=xA2 _ ho;have new:(s.heap.push (seqObj "list" #[] 0)).get? s.heap.objs.size=some (seqObj "list" #[] 0):=xA6 _ rfl;have body:∀(A:Around) (E:Value->Shared->Prop),wpAny (model prog w) A (Builtin.List.listExtendWith (.ref s.heap.objs.size) (.ref l) (.ref s.heap.objs.size)) (λr s'=>r = .done (.ret (.ref s.heap.objs.size))/\s'={ s with heap:=(s.heap.push (seqObj "list" #[] 0)).update s.heap.objs.size (Obj.mapSeq (·++vs.toArray)) }) E { s with heap:=s.heap.push (seqObj "list" #[] 0) }:=λA E=>by
  unfold Builtin.List.listExtendWith;refine xA0 (wpAny_typeOf (T:=T) ⟨o,ho2,hc⟩ ?_);rw[if_pos (by rcases hT with rfl|rfl <;> simp[show(Value.type "list"==Value.type "list")=true from rfl,show(Value.type "tuple"==Value.type "tuple")=true from rfl])];refine xA0 (listItems_at ho2 hd (xA0 (listItems_at (xs:=#[]) (n:=0) new rfl ?_)));rw[if_neg (by simp)];exact xA0 (listUpdate_at (xs:=#[]) (n:=0) new rfl (xA3 ⟨rfl,rfl⟩) (xAR _) (by show(#[]++vs.toArray).size<=_;simp;lia))
 unfold collect;refine xA0 (wpAny_runValue (xBb entry_proto_collect'
  (xA0 (wpAny_newList (xA3 ⟨Code.quiet_builtin _ (by decide +kernel),
   xBb entry_list_iadd' (xBE (body _ _) (λr s' e=>?_) λ_ _ x=>x)⟩)))))
 obtain⟨rfl,rfl⟩:=e;refine xA0 (wpAny_load (get?_update_seq new _) (xA3 ?_));rw[show((#[]:Array Value)++vs.toArray).toList=vs by simp];exact h
include hO
theorem ybf{h₀:Heap}{n:Nat}{P:PySem.Fin->Shared->Prop}(ho:s.heap.get? a=some (seqObj "list" vs.toArray n))(hz:vs.length<=sizeLine)(k0:yaP h₀ s.heap)(ha:h₀.get? a=none)
  (ask:∀h':Heap,yaP h₀ h'->2<=vs.length->wpAny (model prog w) A (keyKind' vs.toArray) (λκ s'=>s'={ s with heap:=h' }/\∃g:Keyed->Prop,(∀v∈vs,g (v,v))/\AnsL prog w A { s with heap:=h' } κ g lt) (λ_ _=>False) { s with heap:=h' })
  (fin:∀(es:List Value) (h':Heap) (c:Nat),yaP h₀ h'->h'.get? a=some (seqObj "list" es.toArray c)->es.Perm vs->SrtL lt (es.map λv=>(v,v))->P (.done (.ret .none)) { s with heap:=h' }) :
  wpAny (model prog w) A (Builtin.«list.sort» ⟨[.ref a],[]⟩) P E s:=by
 have hs:vs.toArray.size<=sizeLine:=by rw[xA8];exact hz
 obtain⟨c1,o1⟩:∃c,(s.heap.update a (Obj.mapSeq λ_=>(#[]:Array Value))).get? a=some (seqObj "list" #[] c):=⟨_,get?_update_seq ho λ_=>#[]⟩
 have ku:∀(h:Heap) (f:Obj->Obj),yaP h₀ h->yaP h₀ (h.update a f):=λh f k b o e=>by
  rw[Heap.get?_update_ne _ _ _ _ (λq=>by rw[q,ha]at e;cases e)];exact k b o e
 rw[list_sort_plain];refine xA0 (listItems_at ho rfl (xA0 (listUpdate_at ho rfl ?_ hs (xAR _))));refine xA0 (seqEpoch_at o1 rfl (xA0 (wpAny_newTuple ?_ hz)));refine xA0 (wpAny_newList (xB9 ?_) (xAR _));obtain⟨h1,e1⟩:∃h1,h1=((s.heap.update a (Obj.mapSeq λ_=>(#[]:Array Value))).push (seqObj "tuple" vs.toArray 0)).push (seqObj "list" #[] 0):=⟨_,rfl⟩
 have k1:yaP h₀ h1:=by rw[e1];exact((ku _ _ k0).trans (yaP.push _ _)).trans (yaP.push _ _)
 have o2:h1.get? a=some (seqObj "list" #[] c1):=by rw[e1];exact yaP.push _ _ _ _ (yaP.push _ _ _ _ o1)
 have last:∀ {out:Array Value},out.toList.Perm vs->SrtL lt (out.toList.map λv=>(v,v))->P (.done (.ret .none)) { s with heap:=h1.update a (Obj.mapSeq λ_=>out) }:=λ{out} hp hs=>by
  refine fin out.toList _ _ (ku _ _ k1) (get?_update_seq o2 λ_=>out) hp hs
 show wpAny (model prog w) A _ P E { s with heap:=((s.heap.update a (Obj.mapSeq λ_=>(#[]:Array Value))).push (seqObj "tuple" vs.toArray 0)).push (seqObj "list" #[] 0) };rw[<-e1];have zp:∀ {st:SortSt},(arrOf st).toList.Perm ((vs.toArray.zip vs.toArray).toList)->((arrOf st).map (·.2)).toList.Perm vs:=λ{st} hp=>by
  have:=hp.map (·.2);rw[yc5,xAH]at this;rw[Array.toList_map];exact this.trans (by show((vs.map id).Perm vs);rw[List.map_id])
 have zs:∀ {out:Array Value},out.toList.Perm vs->out.size<=sizeLine+1:=λhp=>by
  have:=hp.length_eq;rw[xA4]at this
  lia
 dsimp only;by_cases c2:vs.toArray.size<2
 ·rw[if_pos c2,if_pos c2];refine xA0 (xA3 (xA0 ?_));rw[StateT.run_pure];refine xA3 ?_;have hp:=zp (st:=SortSt.mk' general' (vs.toArray.zip vs.toArray) #[] 7 none) (.refl _);refine xA0 (seqEpoch_at o2 rfl (xA0 (listUpdate_at o2 rfl ?_ (xAR _) (zs hp))));simp only[bne_self_eq_false,xBK,if_false];refine xA3 (last hp ?_);have hl:=hp.length_eq;rw[xA8]at c2;generalize ((arrOf (SortSt.mk' general' (vs.toArray.zip vs.toArray) #[] 7 none)).map (·.2)).toList=l at hl ⊢;rcases l with _ |⟨x,_ |⟨y,l⟩⟩
  ·exact List.Pairwise.nil
  ·exact List.pairwise_singleton _ _
  ·rw[xAo,xAo]at hl;lia
 ·rw[if_neg c2,if_neg c2];rw[xA8]at c2;refine xA0 (xBE (ask h1 k1 (by lia)) (λκ s' hk=>?_) λ_ _ x=>x.elim);obtain⟨rfl,g,hg,hA⟩:=hk;refine xA0 (xBE (zhU (E:=λ_ _=>False) (st:=SortSt.mk' κ (vs.toArray.zip vs.toArray) #[] 7 none) (Q:=λ_ st=>failedOf st=none/\(arrOf st).toList.Perm (vs.toArray.zip vs.toArray).toList/\SrtL lt (arrOf st).toList) hA hO rfl ?_ rfl rfl λst h1 h2 h3=>⟨h1,h2,h3⟩) ?_ λ_ _ x=>x.elim)
  ·intro x hx;rw[show arrOf (SortSt.mk' κ (vs.toArray.zip vs.toArray) #[] 7 none)=vs.toArray.zip vs.toArray from rfl,yc5]at hx;obtain⟨v,hv,rfl⟩:=xA9.mp hx;exact hg v hv
  rintro⟨⟨⟩,st⟩ s' ⟨rfl,hf,hp0,hs⟩;have hp:=zp hp0;have hs2:SrtL lt (((arrOf st).map (·.2)).toList.map λv=>(v,v)):=by
   rw[Array.toList_map,xAH,xAL (g:=id) λx hx=>?_,List.map_id]
   ·exact hs
   ·have:=hp0.mem_iff.mp hx;rw[yc5]at this;obtain⟨v,_,rfl⟩:=xA9.mp this;rfl
  dsimp only;refine xA0 (seqEpoch_at o2 rfl (xA0 (listUpdate_at o2 rfl ?_ (xAR _) (zs hp))));rw[show failedOf st=none from hf];simp only[bne_self_eq_false,xBK,if_false];exact xA3 (last hp hs2)
theorem zeF(hl:zfk s.heap l vs)(hz:vs.length<=sizeLine)
  (ask:∀h':Heap,yaP s.heap h'->2<=vs.length->wpAny (model prog w) A.in1.in1 (keyKind' vs.toArray) (λκ s'=>s'={ s with heap:=h' }/\∃g:Keyed->Prop,(∀v∈vs,g (v,v))/\AnsL prog w A.in1.in1 { s with heap:=h' } κ g lt) (λ_ _=>False) { s with heap:=h' })
  (fin:∀(D:Addr) (es:List Value) (h':Heap) (c:Nat),s.heap.objs.size<=D->yaP s.heap h'->h'.get? D=some (seqObj "list" es.toArray c)->es.Perm vs->SrtL lt (es.map λv=>(v,v))->Q (.ref D) { s with heap:=h' }) :
  wpAny (model prog w) A (call (.builtin "sorted") [.ref l]) Q E s:=by
 apply call_function_entry kind_sorted plain_sorted entry_sorted (args_sorted1 _);refine xA0 (m:=checkCount "sorted" 1 1 _) (xA3 (xA0 (zeK hl hz (xA0 (wpAny_newList ?_ hz)))));obtain⟨h1,e1⟩:∃h1,h1=(s.heap.push (seqObj "list" #[] 0)).update s.heap.objs.size (Obj.mapSeq (·++vs.toArray)):=⟨_,rfl⟩
 have z1:h1.objs.size=s.heap.objs.size+1:=by rw[e1,Heap.size_update,size_push']
 have k1:yaP s.heap h1:=λb o e=>by
  rw[e1,Heap.get?_update_ne _ _ _ _ (xAq (xAe e)),Heap.get?_push_ne _ _ _ (xAq (xAe e))];exact e
 show wpAny _ _ _ _ _ { s with heap:=((s.heap.push (seqObj "list" #[] 0)).update s.heap.objs.size (Obj.mapSeq (·++vs.toArray))).push (seqObj "list" vs.toArray 0) };rw[<-e1];have o2:(h1.push (seqObj "list" vs.toArray 0)).get? h1.objs.size=some (seqObj "list" vs.toArray 0):=xA6 _ rfl;refine xA0 (xB9 (xAN slot_list_sort ⟨_,o2,rfl⟩ entry_list_sort ?_ (args_list_sort _)));have z2:s.heap.objs.size<=h1.objs.size:=by lia
 refine ybf hO (s:={ s with heap:=h1.push (seqObj "list" vs.toArray 0) }) (h₀:=s.heap) o2 hz (k1.trans (yaP.push _ _)) (Heap.get?_none_of_le z2) (λh' k=>ask h' k) λes h' c k e p hs=>⟨_,rfl,xA3 ⟨_,rfl,fin _ es h' c z2 k e p hs⟩⟩
end
def lx:List Int->List Int->Bool
 |_,[]=>false
 | [],_::_=>true
 |x::xs,y::ys=>if x=y then lx xs ys else decide (x<y)
theorem zdU:∀ {x y:List Int},lx x y=true->lx y x=false
 |_,[],h=>by unfold lx at h;cases h
 | [],_::_,_=>by unfold lx;rfl
 |x::xs,y::ys,h=>by
  unfold lx at h ⊢;by_cases c:x=y
  ·rw[if_pos c]at h;rw[if_pos c.symm];exact zdU h
  ·rw[if_neg c]at h;rw[if_neg (λe=>c e.symm)];have:=xAn h;exact xB3 (by lia)
theorem zdq:∀ {x y z:List Int},lx y x=false->lx z y=false->lx z x=false
 | [],y,z,_,_=>by unfold lx;rfl
 |x::xs,[],z,h,_=>by unfold lx at h;cases h
 |x::xs,y::ys,[],_,h=>by unfold lx at h;cases h
 |x::xs,y::ys,z::zs,h1,h2=>by
  unfold lx at h1 h2 ⊢;by_cases c1:y=x
  ·rw[if_pos c1]at h1;by_cases c2:z=y
   ·rw[if_pos c2]at h2;rw[if_pos (c2.trans c1)];exact zdq h1 h2
   ·rw[if_neg c2]at h2;rw[if_neg (λe=>c2 (e.trans c1.symm)),<-c1];exact h2
  ·rw[if_neg c1]at h1;have h1:=of_decide_eq_false h1;by_cases c2:z=y
   ·rw[if_pos c2]at h2;rw[if_neg (λe=>c1 (c2.symm.trans e)),c2];exact xB3 h1
   ·rw[if_neg c2]at h2;have h2:=of_decide_eq_false h2;rw[if_neg (by lia)];exact xB3 (by lia)
theorem yfl:∀ {x y:List Int},lx x y=false->lx y x=false->x=y
 | [],[],_,_=>rfl
 | [],_::_,h,_=>by unfold lx at h;cases h
 |_::_,[],_,h=>by unfold lx at h;cases h
 |x::xs,y::ys,h1,h2=>by
  unfold lx at h1 h2;by_cases c:x=y
  ·rw[if_pos c]at h1;rw[if_pos c.symm]at h2;rw[c,yfl h1 h2]
  ·rw[if_neg c]at h1;rw[if_neg (λe=>c e.symm)]at h2;have h1:=of_decide_eq_false h1;have h2:=of_decide_eq_false h2
   lia
theorem yfo:∀ {l m:List (List Int)},l.Perm m->l.Pairwise (λx y=>lx y x=false)->m.Pairwise (λx y=>lx y x=false)->l=m
 | [],m,p,_,_=>(List.Perm.nil_eq p)
 |x::l,[],p,_,_=>absurd p.symm (by simp)
 |x::l,y::m,p,h1,h2=>by
  have e:x=y:=by
   have hx:x∈y::m:=p.mem_iff.mp (xA7 ..);have hy:y∈x::l:=p.mem_iff.mpr (xA7 ..);rcases xAa.mp hx with e|hx
   ·exact e
   ·rcases xAa.mp hy with e|hy
    ·exact e.symm
    ·exact yfl (List.rel_of_pairwise_cons h2 hx) (List.rel_of_pairwise_cons h1 hy)
  subst e;rw[yfo (List.Perm.cons_inv p) (List.pairwise_cons.mp h1).2 (List.pairwise_cons.mp h2).2]
theorem zg5:∀ {ds:List Addr} {us:List Value},Vals (ds.map V.ref) us->us=ds.map Value.ref
 | [],_,.nil=>rfl
 |d::ds,_,.cons r t=>by cases r;rw[zg5 t];rfl
theorem zgI:∀ {ds:List Addr},Vals (ds.map V.ref) (ds.map Value.ref)
 | []=>.nil
 |d::ds=>.cons rfl zgI
theorem ybu:∀ {es ds:List Value},es.Perm ds->∀ {l:List Addr},ds=l.map Value.ref->∃m:List Addr,es=m.map Value.ref/\m.Perm l
 |_,_,.nil,l,e=>by cases l with|nil=>exact⟨[],rfl,.nil⟩|cons _ _=>cases e
 |_,_,.cons x p,l,e=>by
  cases l with
  |nil=>cases e
  |cons y l=>
   injection e with e1 e2;obtain⟨m,h1,h2⟩:=ybu p e2;exact⟨y::m,by rw[e1,h1];rfl,h2.cons _⟩
 |_,_,.swap x y r,l,e=>by
  rcases l with _ |⟨u,_ |⟨v,l⟩⟩
  ·cases e
  ·cases e
  ·injection e with e1 e2;injection e2 with e2 e3;exact⟨v::u::l,by rw[e1,e2,e3];rfl,.swap ..⟩
 |_,_,.trans p q,l,e=>by
  obtain⟨m,h1,h2⟩:=ybu q e;obtain⟨m',h3,h4⟩:=ybu p h1;exact⟨m',h3,h4.trans h2⟩
def IntV(v:Value):Prop:=Ex2 λi t=>v = .int i t
def ycI:List Value->List Int->Prop
 | [],[]=>True
 |v::vs,n::ns=>(∃t,v = .int n t)/\ycI vs ns
 |_,_=>False
theorem zbU:∀ {ns:List Int} {us:List Value},Vals (ns.map V.int) us->ycI us ns
 | [],_,.nil=>trivial
 |n::ns,_,.cons r t=>by obtain⟨k,e⟩:=r;exact⟨⟨k,e⟩,zbU t⟩
theorem zd4{b:Bool}{Q:Bool->Shared->Prop}:∀(us vs:List Value) (xs ys:List Int) (i:Nat) {fin:Bool},ycI us xs->ycI vs ys->fin=decide (xs.length<ys.length)->Q (lx xs ys) s->KatLex prog w A b fin Q (us.zip vs) i s
 | [],vs,[],ys,i,fin,_,_,e,q=>by
  show Q fin s;cases ys with
  |nil=>rw[e];exact q
  |cons y ys=>rw[e];exact q
 |u::us,[],x::xs,[],i,fin,_,_,e,q=>by
  show Q fin s;rw[e];exact q
 |u::us,v::vs,x::xs,y::ys,i,fin,⟨⟨t,e1⟩,h1⟩,⟨⟨t2,e2⟩,h2⟩,e,q=>by
  subst e1 e2;refine kat_cons (wpAny_eqBool_int ?_);unfold lx at q;by_cases c:x=y
  ·rw[if_pos c]at q;rw[show(x==y)=true by rw[c];exact xBg _];exact kat_yes (zd4 us vs xs ys (i+1) h1 h2 (by rw[e];simp) q)
  ·rw[if_neg c]at q;rw[show(x==y)=false from beq_false_of_ne c];refine kat_no ?_;cases (b&&i==0)
   ·exact kat_one _ _ (P.lt_int q)
   ·exact oneLt_int q
 | [],_,_::_,_,_,_,h,_,_,_=>h.elim
 |_::_,_,[],_,_,_,h,_,_,_=>h.elim
 |_::_,[],_::_,_::_,_,_,_,h,_,_=>h.elim
 |_::_,_::_,_::_,[],_,_,_,h,_,_=>h.elim
end L2
end
section
namespace L2
open PySem PySem.Spec PySem.W PySem.Calls PyProof.Rows
theorem yaF:∀ {us:List Value} {ns:List Int},ycI us ns->us.length=ns.length
 | [],[],_=>rfl
 |_::_,_::_,h=>by rw[xAo,xAo,yaF h.2]
 | [],_::_,h=>h.elim
 |_::_,[],h=>h.elim
theorem yeS(l b:Addr)(us vs:List Value)(n n2:Nat)(dd dd2:Option Addr)(sl sl2:Array (Option Value))(xs ys:List Int)(hx:ycI us xs)(hy:ycI vs ys) :
  Meets (Builtin.«tuple.__lt__» ⟨[.ref l,.ref b],[]⟩)
   (λA R s=>s.heap.get? l=some { cls:=.type "tuple",dict:=dd,data:=.seq us.toArray n,slots:=sl }/\s.heap.get? b=some { cls:=.type "tuple",dict:=dd2,data:=.seq vs.toArray n2,slots:=sl2 }/\
    R (.ok (.ret (.bool (lx xs ys)))) s) :=
 .of_wp λprog w A R s h=>by
  obtain⟨hp,g,d,tk,os⟩:=s;obtain⟨hl,hb,h⟩:=h;have f2:=AutoSeq1.sub_tuple_tuple
  wp_walk using wpAny_loadPart' hl,wpAny_loadPart' hb,wpAny_forIn_list _ (λrest b s'=>b.1=none/\s'=⟨hp,g,d,tk,os⟩/\Ex4 λus2 vs2 xs2 ys2=>rest=List.zip us2 vs2/\ycI us2 xs2/\ycI vs2 ys2/\(xs.length<ys.length↔xs2.length<ys2.length)/\R (.ok (.ret (.bool (lx xs2 ys2)))) ⟨hp,g,d,tk,os⟩) _
  case turn=>
   rintro⟨y,x⟩ rest b s' ⟨hb',rfl,us2,vs2,xs2,ys2,hz,h1,h2,hlen,hR⟩;rcases us2 with _ |⟨u,us2⟩
   ·cases hz
   rcases vs2 with _ |⟨v,vs2⟩
   ·cases hz
   rcases xs2 with _ |⟨x0,xs2⟩
   ·exact h1.elim
   rcases ys2 with _ |⟨y0,ys2⟩
   ·exact h2.elim
   obtain⟨⟨t1,e1⟩,h1⟩:=h1;obtain⟨⟨t2,e2⟩,h2⟩:=h2;subst e1 e2;rw[List.zip_cons_cons]at hz;injection hz with hyx hrest;injection hyx with e3 e4;subst e3 e4;refine xA0 (wpAny_eqBool_int ?_);unfold lx at hR;by_cases c:x0=y0
   ·rw[if_pos c]at hR;rw[show(x0==y0)=true by rw[c];exact xBg _]
    wp_walk
    exact⟨rfl,rfl,us2,vs2,xs2,ys2,hrest,h1,h2,by rw[hlen];simp,hR⟩
   ·rw[if_neg c]at hR;rw[show(x0==y0)=false from beq_false_of_ne c];simp only[Bool.not_false,if_true];refine xA0 (xBA (xA0 (show wpAny _ _ (compareOp .Lt _ _) _ _ _ from P.lt_int ?_)))
    wp_walk
    exact⟨_,rfl,hR⟩
  case fin=>
   rintro⟨b1,b2⟩ s' ⟨hb',rfl,us2,vs2,xs2,ys2,hz,h1,h2,hlen,hR⟩;simp only at hb';subst hb';have l1:=yaF h1;have l2:=yaF h2;have l3:=yaF hx;have l4:=yaF hy;have e:lx xs2 ys2=decide (us.toArray.size<vs.toArray.size):=by
    rw[xA8,xA8,l3,l4];rcases xs2 with _ |⟨x0,xs2⟩
    ·rcases ys2 with _ |⟨y0,ys2⟩
     ·exact(xB3 (λh=>absurd (hlen.mp h) (by simp))).symm
     ·exact(xAD (hlen.mpr (by simp))).symm
    ·rcases ys2 with _ |⟨y0,ys2⟩
     ·exact(xB3 (λh=>absurd (hlen.mp h) (by simp))).symm
     ·rcases us2 with _ |⟨u,us2⟩
      ·cases l1
      ·rcases vs2 with _ |⟨v,vs2⟩
       ·cases l2
       ·cases hz
   rw[e]at hR
   wp_walk
   exact⟨_,rfl,by simpa[Builtin.Tuple.tupleCompareSizes]using hR⟩
  case h=>
   exact⟨rfl,rfl,us,vs,xs,ys,by simp,hx,hy,Iff.rfl,h⟩
section
variable {prog:Program} {w:World} {A:Around} {E:Value->Shared->Prop} {s:Shared}
noncomputable def TupI(h:Heap)(v:Value)(ns:List Int):Prop:=Ex4 λ(a:Addr) (o:Obj) (us:List Value) (n:Nat)=>v = .ref a/\h.get? a=some o/\o.cls = .type "tuple"/\o.data = .seq us.toArray n/\ycI us ns
theorem zfJ{xs ys:List Int}{Q:Bool->Shared->Prop}(hx:TupI s.heap x xs)(hy:TupI s.heap y ys)(hu:A.units<cLine)(h:Q (lx xs ys) s):wpAny (model prog w) A (oneLt' true x y) Q E s:=by
 obtain⟨a,⟨c1,d1,t1,l1⟩,us,n,rfl,ho,hc,hd,hi⟩:=hx;obtain⟨b,⟨c2,d2,t2,l2⟩,vs,n2,rfl,ho2,hc2,hd2,hi2⟩:=hy;simp only at hc hd hc2 hd2;subst hc hd hc2 hd2;rw[oneLt'_eq];simp only[if_true];refine xA0 (wpAny_cRoomFor hu ?_);refine xA0 (wpAny_callSpecialIfBound?_slot ⟨_,ho,rfl⟩ F.slot_tuple_lt (call_meets F.slot_tuple_lt ⟨_,ho,rfl⟩ F.entry_tuple_lt (F.args_tuple_lt_2 _ _) (yeS a b us vs n n2 d1 d2 l1 l2 xs ys hi hi2) ⟨ho,ho2,?_⟩));exact wpAny_truthy_bool h
def yfu(h:Heap):List Value->List (List Int)->Prop
 | [],[]=>True
 |v::vs,x::xs=>TupI h v x/\yfu h vs xs
 |_,_=>False
theorem ycO:∀(vs:List Value) (xs:List (List Int)) {Q:List (Option Value)->Shared->Prop},yfu s.heap vs xs->(∀fs:List (Option Value),fs.length=vs.length->(∀x r,xs=x::r->x=[]->∃g,fs=none::g)->Q fs s)->wpAny (model prog w) A (vs.mapM firstOfTuple') Q E s
 | [],[],_,_,h=>by rw[List.mapM_nil];exact xA3 (h [] rfl λx r e=>nomatch e)
 | [],_::_,_,t,_=>t.elim
 |_::_,[],_,t,_=>t.elim
 |v::vs,x::xs,Q,t,h=>by
  obtain⟨⟨a,o,us,n,rfl,ho,hc,hd,hi⟩,t⟩:=t;rw[List.mapM_cons];refine xA0 ?_;rw[kas_first_eq];refine xA0 (Looks.here (show Looks (model prog w) s.heap (typeOf (.ref a)) o.cls from(Looks.ld ho).andThen .now) ?_);rw[hc,if_neg (by first|decide|simp)];refine xA0 (listItems_at ho hd (xA3 ?_));refine xA0 (ycO vs xs (Q:=λbs s'=>wpAny (model prog w) A (pure (us.toArray[0]?::bs)) Q E s') t λfs hf _=>xA3 (h _ (by rw[xAo,xAo,hf]) λx' r e e2=>⟨fs,?_⟩));injection e with e3 e4;subst e3 e2;rcases us with _ |⟨u,us⟩
  ·rfl
  ·exact hi.elim
theorem yeN{x:List Int}{xs:List (List Int)}{Q:SortKind->Shared->Prop}(t:yfu s.heap vs (x::xs))(e:x=[])(h:Q oneType' s):wpAny (model prog w) A (keyKind' vs.toArray) Q E s:=by
 rw[kat_kind_eq,List.mapM_toArray,map_eq_pure_bind];refine xA0 (xA0 (ycO vs _ t λfs hf hx=>xA3 ?_));obtain⟨g,rfl⟩:=hx x xs rfl e;rw[if_neg (by simp)];have h0:¬ (((none::g).toArray[0]?.bind id).isSome=true):=by simp
 rw[if_neg h0,oneTypeOnly'_eq,List.mapM_toArray,map_eq_pure_bind];have look:∀ {vs:List Value} {xs:List (List Int)},yfu s.heap vs xs->∀v∈vs,Looks (model prog w) s.heap (typeOf v) (.type "tuple"):=λ{vs}=>by
  induction vs with
  |nil=>exactλ_ v hv=>nomatch hv
  |cons v vs ih=>
   intro xs t u hu;rcases xs with _ |⟨y,xs⟩
   ·exact t.elim
   rcases xAa.mp hu with rfl|hu
   ·obtain⟨a,o,us,n,rfl,ho,hc,hd,hi⟩:=t.1;rw[<-hc];exact(Looks.ld ho).andThen .now
   ·exact ih t.2 u hu
 refine xA0 (xA0 (xA0 (kas_mapM (r:=.type "tuple") _ (λv hv Q' hq=>(look t v hv).here hq) (xA3 ?_))));rcases vs with _ |⟨v,vs⟩
 ·exact t.elim
 have hall2:((List.map (λ_=>Value.type "tuple") (v::vs)).toArray.all λx=>x==Value.type "tuple")=true:=by
  simp only[List.all_toArray,List.all_map,xAY];intro _ _;rfl
 have h1:(List.map (λ_=>Value.type "tuple") (v::vs)).toArray[0]?=some (Value.type "tuple"):=by simp
 rw[h1];simp only[hall2,if_true];exact xA3 (xA3 h)
end
end L2
end
section
namespace L2
open PySem PySem.Spec PySem.W PySem.Calls PyProof.Rows
section
variable {X:Cx}
noncomputable def yhU(K:PySem.W.Frag):List V->Hp->VK->Prop:=λxs H Q=>Ex2 λ(a:Addr) (L:List (Addr×List Int))=>xs=[.ref a]/\SqL K H a (L.map λp=>V.ref p.1)/\(∀p∈L,SqT K H p.1 (p.2.map V.int))/\((∀p∈L,p.2≠[])\/Ex2 λp r=>L=p::r/\p.2=[])/\
 ∀(l:Addr) (M:List (Addr×List Int)),H l=none->M.Perm L->M.Pairwise (λp q=>lx q.2 p.2=false)->Q (.ref l) (upd H l (.lst (M.map λp=>V.ref p.1)))
theorem ych:∀ {xs ys:List Int},xs.map V.int=ys.map V.int->xs=ys
 | [],[],_=>rfl
 | [],_::_,h=>nomatch h
 |_::_,[],h=>nomatch h
 |x::xs,y::ys,h=>by
  rw[xBm,xBm]at h;injection h with h1 h2;injection h1 with h1;rw[h1,ych h2]
open Classical in
noncomputable def yaO(K:PySem.W.Frag)(H:Hp)(v:Value):List Int:=match v with
 | .ref a=>if h:∃xs:List Int,SqT K H a (xs.map V.int) then h.choose else []
 |_=>[]
theorem zbq(hu:X.A.units+2<cLine):zbo X (.builtin "sorted") (yhU X.K):=by
 intro pins s σ H xs us Q I r h;obtain⟨a,L,rfl,ha,hd,hE,q⟩:=h;obtain⟨u,rfl,rx⟩:=ybG r;cases rx;have ha':SqL X.K H a ((L.map (·.1)).map V.ref):=by rw[xAH];exact ha
 obtain⟨its,r1,p1,z1⟩:=I.list ha';have e:=zg5 r1;subst e;rw[xA1]at z1;have hdat:∀p∈L,yaO X.K H (.ref p.1)=p.2:=λp hp=>by
  have h:∃xs:List Int,SqT X.K H p.1 (xs.map V.int):=⟨_,hd p hp⟩
  unfold yaO;dsimp only;rw[dif_pos h];exact ych (I.tuple_inj h.choose_spec (hd p hp))
 have tup:∀(h':Heap),yaP s.heap h'->∀p∈L,TupI h' (.ref p.1) (yaO X.K H (.ref p.1)):=λh' k p hp=>by
  obtain⟨us,rv,⟨o,e,c,n,dt⟩,_⟩:=I.tuple (hd p hp);rw[hdat p hp];exact⟨p.1,o,us,n,rfl,k _ _ e,c,dt,zbU rv⟩
 have hO:Ordr λx y:Keyed=>lx (yaO X.K H x.1) (yaO X.K H y.1):=⟨zdU,zdq⟩
 refine zeF hO (zfk.lst p1.isList) (by rw[xA1];exact z1) (λh' k h2=>?_) λD es h' c hD k e p hs=>?_
 ·have hg:∀v∈(L.map (·.1)).map Value.ref,∃p∈L,v = .ref p.1:=λv hv=>by
   obtain⟨b,hb,rfl⟩:=xA9.mp hv;obtain⟨p,hp,rfl⟩:=xA9.mp hb;exact⟨p,hp,rfl⟩
  rcases hE with hE |⟨p0,r0,rfl,hE⟩
  ·have hK:∀l:List (Addr×List Int),(∀p∈l,p∈L)->∃fs:List Value,KatTups h' ((l.map (·.1)).map Value.ref) fs/\fs.length=l.length/\∀v∈fs,IntV v:=by
    intro l
    induction l with
    |nil=>exactλ_=>⟨[],trivial,rfl,λv hv=>by cases hv⟩
    |cons p l ih=>
     intro hl;obtain⟨fs,k1,k2,k3⟩:=ih λx hx=>hl x (xAb _ hx)
     have hp:=hl p (xA7 ..);obtain⟨us,rv,⟨o,e,c,n,dt⟩,_⟩:=I.tuple (hd p hp);have hne:=hE p hp;obtain⟨x,y⟩:=p;rcases y with _ |⟨y0,y⟩
     ·exact absurd rfl hne
     ·rcases us with _ |⟨f,us⟩
      ·cases rv
      ·have hf:=zbU rv;exact⟨f::fs,KatTups.cons (k _ _ e) c dt (by simp) k1,by simp[k2],λv hv'=>by
        rcases xAa.mp hv' with rfl|hv'
        ·exact hf.1.elim λt e=>⟨y0,t,e⟩
        ·exact k3 v hv'⟩
   obtain⟨fs,k1,k2,k3⟩:=hK L λ_ h=>h
   rw[xA1,xA1]at h2;refine kat_kind (T:=.type "int") k1 (by lia) (λv hv=>?_) rfl ⟨rfl,λx=>∃p∈L,x.1 = .ref p.1,λv hv=>hg v hv,?_⟩
   ·obtain⟨i,t,rfl⟩:=k3 v hv;exact Looks.of_pure rfl
   ·rintro⟨x,x'⟩ ⟨y,y'⟩ C ⟨d1,m1,e1⟩ ⟨d2,m2,e2⟩ hC;dsimp only at e1 e2 hC;subst e1 e2;obtain⟨_,o1,us1,n1,f1,e1,c1,q1,v1⟩:=tup h' k d1 m1;obtain⟨_,o2,us2,n2,f2,e2,c2,q2,v2⟩:=tup h' k d2 m2;injection f1 with f1;injection f2 with f2;rw[<-f1]at e1;rw[<-f2]at e2;refine kat_lt e1 q1 e2 q2 (zd4 _ _ _ _ _ v1 v2 ?_ hC);have l1:=yaF v1;have l2:=yaF v2;simp only[xA8,l1,l2]
  ·have hT:∀l:List (Addr×List Int),(∀p∈l,p∈p0::r0)->yfu h' ((l.map (·.1)).map Value.ref) (l.map (·.2)):=λl=>by
    induction l with
    |nil=>exactλ_=>trivial
    |cons p l ih=>
     intro hl;have:=tup h' k p (hl p (xA7 ..));rw[hdat p (hl p (xA7 ..))]at this;exact⟨this,ih λx hx=>hl x (xAb _ hx)⟩
   refine yeN (hT (p0::r0) λ_ h=>h) hE ⟨rfl,λx=>∃p∈p0::r0,x.1 = .ref p.1,λv hv=>hg v hv,?_⟩;rintro⟨x,x'⟩ ⟨y,y'⟩ C ⟨d1,m1,e1⟩ ⟨d2,m2,e2⟩ hC;dsimp only at e1 e2 hC;subst e1 e2;rw[keyLt'_oneType];exact zfJ (tup h' k d1 m1) (tup h' k d2 m2) hu hC
 ·obtain⟨m,rfl,pm⟩:=ybu p rfl;have eL:(L.map (·.1)).map (λb=>(b,yaO X.K H (.ref b)))=L:=by
   rw[xAH]
   conv=>rhs;rw[<-List.map_id L]
   exact xAL λp hp=>by show(p.1,yaO X.K H (.ref p.1))=p;rw[hdat p hp]
  refine⟨.ref D,_,I.laid (t':=s.toks) (o:=.lst (m.map V.ref)) k hD ⟨?_,m.map Value.ref,c,zgI,e⟩,rfl,?_⟩
  ·rw[xA1,pm.length_eq];exact z1
  ·have:=q D (m.map λb=>(b,yaO X.K H (.ref b))) (I.hok.fresh hD) (by
    have:=pm.map λb=>(b,yaO X.K H (.ref b))
    rwa [eL]at this) (by
    rw[xAJ];unfold SrtL at hs;rw[xAH,xAJ]at hs;exact hs)
   rw[xAH]at this;exact this
def zgb(v:Value):Int:=match v with
 | .int i _=>i
 |_=>0
end
end L2
end
section
namespace L2
open PySem PyProof.Rows
abbrev itx(i:Int):List Nat:=(PyData.int i).shown.cps.toList
end L2
end
section
namespace L2
open PySem PyProof.Rows
end L2
end
section
namespace L2
open PySem PyProof.Rows
section
variable {prog:Program} {w:World} {A:Around} {E:Value->Shared->Prop} {s:Shared}
set_option maxHeartbeats 8000000 in
theorem zee{ns:List Int}(hh:A.handled=none)(hl:s.heap.IsTuple l items)(hi:IntsAre items.toList ns)(hb:items.size+1<scanBound)
  (h:∀(h':Heap) (tk:Nat),SetG w prog h' s.heap.objs.size (λk'=>(firstMet (λi=>ns.getD i 0) items.size).any (·==k')) (firstMet (λi=>ns.getD i 0) items.size).length->
   (∀b o,s.heap.get? b=some o->h'.get? b=some o)->Q (.ref s.heap.objs.size) { s with heap:=h',toks:=tk }) :
  wpAny (model prog w) A (call (.type "set") [.ref l]) Q E s:=by
 obtain⟨c,tl,hmro⟩:=F.called_set.mro;have hmade:=F.called_set.made;have hsub:=F.called_set.sub;refine wpAny_call (codeAny_of_tree ?_);show wpAny _ _ (callAny (.type "set") _) _ _ _;refine xA3 ⟨Code.quiet_builtin _ (by decide +kernel),xBb F.entry_type_call ?_⟩;rw[Around.under_plain (weight_type_call_type "set" [.ref l] []) rfl];have h1:=F.called_set.notType;have h2:=F.called_set.canCreate;have hct:=F.typeCall_set_1 (.ref l)
 repeat (any_goals (first|assumption|wp_step))
 refine codeAny_mono (ydw (.ref l) (E:=E) (Q₁:=λobj s₁=>obj = .ref s.heap.objs.size/\s₁={ s with heap:=s.heap.push (yan w) }) ⟨rfl,rfl⟩) λr s₁ hr=>?_
 cases r with
 |error e=>exact hr
 |ok fl=>
  cases fl with
  |ret obj=>
   obtain⟨rfl,rfl⟩:=hr;have hS:(s.heap.push (yan w)).get? s.heap.objs.size=some (yan w):=xA6 _ rfl;have hT:Shared.TypeIs { s with heap:=s.heap.push (yan w) } (.ref s.heap.objs.size) "set":=⟨_,hS,rfl⟩
   have hli:=F.called_set.init.lookup;have hbi:=F.called_set.init.bind (.ref s.heap.objs.size)
   repeat (any_goals (first|assumption|wp_step))
   refine codeAny_mono (codeAny_call_builtin (R:=wants (λr s₂=>r = .none/\Ex2 λh' tk=>s₂={ s with heap:=h',toks:=tk }/\
     SetG w prog h' s.heap.objs.size (λk'=>(firstMet (λi=>ns.getD i 0) items.size).any (·==k')) (firstMet (λi=>ns.getD i 0) items.size).length/\
     (∀b o,s.heap.get? b=some o->h'.get? b=some o)) E) F.called_set.init.plain F.entry_set_init (check_set_init_1 hT ?_)) λr₂ s₂ hr₂=>?_
   ·obtain⟨ol,hol,hcl,nl,hdl⟩:=hl;obtain⟨ocls,odict,odata,oslots⟩:=ol;simp only at hcl hdl;subst hcl;subst hdl;have hol':(s.heap.push (yan w)).get? l=some { cls:=.type "tuple",dict:=odict,data:=.seq items nl,slots:=oslots }:=xA2 _ hol;have hsls:=F.sub_tuple_set;have hslf:=F.sub_tuple_frozenset;have hne:(Value.type "tuple"==Value.type "dict")=false:=by decide
    have hl1:(s.heap.push (yan w)).IsTuple l items:=⟨_,hol',rfl,nl,rfl⟩
    unfold Builtin.«set.__init__» noKeywords Builtin.Frozenset.updateFrom;generalize hPI:pyIter=PI
    wp_walk
    subst hPI;refine wpAny_pyIter_tuple hl1 ?_;refine xA0 (wpAny_runValue ?_);have hlS:l<s.heap.objs.size:=xAe hol;have hneI:l≠(s.heap.push (yan w)).objs.size:=by rw[xAX];exact xAq (xBl hlS)
    have hSf:s.heap.objs.size∉[(s.heap.push (yan w)).objs.size,l]:=by
     rw[xAX];simp only[xAa,xAf,xB2,not_or];exact⟨xAq (Nat.lt_succ_self _),xBy hlS⟩
    refine zgF ((Walks.tuple (by simp[hh]) _ l hneI items).toS) s.heap.objs.size hSf (λi=>ns.getD i 0) (λi v hv=>IntsAre.int_at hi i v (by rw[xAV];exact hv)) hb (items.size-0) 0 _ (by lia) (xAR _)
     ⟨⟨_,xA6 _ rfl,rfl,rfl⟩,(hl1.push _)⟩ ((zei (xA2 _ hS)).congr (λ_=>rfl) rfl) λs' hm hS'=>?_
    obtain⟨h',g',d',tk',os'⟩:=s';obtain rfl:g'=s.gens:=hm.gens;obtain rfl:d'=s.drawn:=hm.drawn;obtain rfl:os'=s.os:=hm.os;show wpAny _ _ _ _ _ _;refine xA3 ?_;show wpAny _ _ (ret Value.none) _ _ _;refine xA3 ⟨rfl,h',tk',rfl,hS',λb o e=>?_⟩;have hb:=xAe e;refine hm.heap b o ?_ (xA2 _ (xA2 _ e));simp only[xAa,xAf,xB2,not_or];rw[xAX];exact⟨xAq hb,xAq (xBl hb)⟩
   ·cases r₂ with
    |error e=>exact hr₂
    |ok fl₂=>
     cases fl₂ with
     |ret r=>
      obtain⟨rfl,h',tk,rfl,hS',hk'⟩:=hr₂
      repeat (any_goals (first|assumption|wp_step))
      exact h _ _ hS' hk'
     |_=>exact hr₂.elim
  |_=>exact hr.elim
end
end L2
end
section
namespace L2
open PySem PySem.Spec PySem.W PySem.Calls PyProof.Rows
section
variable {prog:Program} {w:World} {A:Around} {E:Value->Shared->Prop} {s:Shared}
theorem ygV:Ordr λx y:Keyed=>decide (zgb x.1<zgb y.1):=⟨λh=>xB3 (by have:=xAn h;lia),λh1 h2=>xB3 (by have:=of_decide_eq_false h1;have:=of_decide_eq_false h2;lia)⟩
theorem ycq:∀ {vs:List Value},(∀v∈vs,Ex2 λi t=>v=Value.int i t)->IntsAre vs (vs.map zgb)
 | [],_=>.nil
 |v::vs,h=>by
  obtain⟨i,t,rfl⟩:=h v xA7;exact .cons i t (ycq λx hx=>h x (xAb _ hx))
theorem zea{Sm:Int->Bool}{n:Nat}(hh:A.handled=none)(hS:SetG w prog s.heap S Sm n)(hz:n<=sizeLine)
  (hQ:∀(h':Heap) (d':Drawn) (tk:Nat) (L:Addr) (ns':List Int) (out:Array Value) (e:Nat),IntsAre out.toList ns'->ns'.length=n->(∀k,k∈ns'↔Sm k=true)->ns'.Pairwise (·<=·)->(∀b o,s.heap.get? b=some o->h'.get? b=some o)->s.heap.objs.size<=L->
   h'.get? L=some (seqObj "list" out e)->Q (.ref L) { heap:=h',gens:=s.gens,drawn:=d',toks:=tk,os:=s.os }) :
  wpAny (model prog w) A (call (.builtin "sorted") [.ref S]) Q E s:=by
 obtain⟨o,es,ep,t,ho,hex,hd,hel,hmem,hb,hf,hn,hG⟩:=hS;refine Calls.call_function_entry kind_sorted plain_sorted entry_sorted (args_sorted1 _) ?_;unfold Builtin.«sorted»;refine xA0 (m:=checkCount "sorted" 1 1 _) (xA3 ?_);refine xA0 (ycA (by simp[hh]) ho hex.1 hd hf hb hG λvs s2 hp hL=>?_);have hall:∀v∈vs,Ex2 λk t=>v = .int k t:=λv hv=>by
  obtain⟨e,he,rfl⟩:=xA9.mp (hp.mem_iff.mp hv);obtain⟨⟨k,hk,_⟩,_⟩:=hel e he;obtain⟨t,ht⟩:=Value.isInt_shape hk;exact⟨k,t,ht⟩
 have hl:vs.length=n:=by rw[hp.length_eq,xA1,xA4,hn]
 refine xA0 (wpAny_newList ?_ (by show vs.length<=sizeLine;rw[hl];exact hz));have hle:=hL.size;have hk:=hL.heap;have hg:=hL.gens;have hos:=hL.os;obtain⟨h2,g2,d2,t2,o2⟩:=s2;dsimp only at hg hos hle hk;subst hg;subst hos;have hoL:(h2.push (seqObj "list" vs.toArray 0)).get? h2.objs.size=some (seqObj "list" vs.toArray 0):=xA6 _ rfl;refine xA0 (xB9 (xAN slot_list_sort ⟨_,hoL,rfl⟩ entry_list_sort ?_ (args_list_sort _)));refine ybf ygV (s:={ heap:=h2.push (seqObj "list" vs.toArray 0),gens:=s.gens,drawn:=d2,toks:=t2,os:=s.os }) (h₀:=h2) hoL (by rw[hl];exact hz) (yaP.push _ _) (Heap.get?_none_of_le (xA5 _)) (λh' k h2=>?_) λes h' c k e p hs=>⟨_,rfl,xA3 ⟨_,rfl,?_⟩⟩
 ·have hI:=ycq hall;obtain⟨v1,v2,vr,rfl⟩:Ex3 λv1 v2 vr=>vs=v1::v2::vr:=by
   rcases vs with _ |⟨v1,_ |⟨v2,vr⟩⟩
   ·cases h2
   ·exact absurd h2 (by simp)
   ·exact⟨v1,v2,vr,rfl⟩
  rw[keyKind_ints hI];refine xA3 ⟨rfl,λx=>Ex2 λi t=>x.1 = .int i t,λv hv=>hall v hv,?_⟩;rintro⟨x,x'⟩ ⟨y,y'⟩ C ⟨i,t,e1⟩ ⟨j,t2,e2⟩ hC;dsimp only at e1 e2 hC;subst e1 e2;rw[keyLt'_oneType];exact oneLt_int hC
 ·have hI:=ycq λv hv=>hall v (p.mem_iff.mp hv)
  refine hQ _ _ _ _ (es.map zgb) es.toArray c hI ?_ (λk'=>?_) ?_ (λb ob eb=>k b ob (hk b ob eb)) hle e
  ·rw[xA1,p.length_eq];exact hl
  ·rw[hmem];constructor
   ·intro hm;obtain⟨v,hv,q⟩:=xA9.mp hm;obtain⟨i,t',rfl⟩:=hall v (p.mem_iff.mp hv);obtain⟨e',he',q'⟩:=xA9.mp (hp.mem_iff.mp (p.mem_iff.mp hv));refine⟨e',he',?_⟩;rw[q',<-q];exact intKind_is _ _ _ _
   ·rintro⟨e',he',q⟩;obtain⟨t',ht⟩:=Value.isInt_shape q;refine xA9.mpr ⟨e'.2,p.mem_iff.mpr (hp.mem_iff.mpr (List.mem_map_of_mem he')),?_⟩;rw[ht];rfl
  ·unfold SrtL at hs;rw[xAJ]at hs ⊢;exact hs.imp λh=>by have:=of_decide_eq_false h;simpa using this
end
end L2
end
section
namespace L2
open PySem PySem.Spec PyProof.Rows
end L2
end
section
namespace L2
open PySem PySem.Spec PySem.W PySem.Calls PyProof.Rows
def lg(m i:Nat):Nat:=(i*5+1)%(m+1)
def lgs(m:Nat):Nat->Nat->Nat
 |0,i=>i
 |t+1,i=>lgs m t (lg m i)
theorem yc3(m:Nat):∀(s t i:Nat),lgs m (s+t) i=lgs m t (lgs m s i)
 |0,t,i=>by rw[xBO];rfl
 |s+1,t,i=>by rw[Nat.succ_add];exact yc3 m s t (lg m i)
def zbi:List Nat:=[7,15,31,63,127,255,511]
def orb(m:Nat):Nat->Nat->List Nat
 |0,_=>[]
 |n+1,i=>i::orb m n (lg m i)
theorem zeY(m:Nat):∀(n i t:Nat),t<n->(orb m n i)[t]?=some (lgs m t i)
 |n+1,i,0,_=>rfl
 |n+1,i,t+1,h=>by
  show(orb m n (lg m i))[t]?=_;exact zeY m n _ t (by lia)
theorem yfg(m:Nat):∀(n i:Nat),(orb m n i).length=n
 |0,_=>rfl
 |n+1,i=>congrArg Nat.succ (yfg m n _)
theorem zfS:(zbi.all λm=>lgs m (m+1) 0==0&&(List.range (m+1)).all λj=>(orb m (m+1) 0).contains j)=true:=by decide +kernel
theorem yhm{m:Nat}(hm:m∈zbi){i j:Nat}(hi:i<=m)(hj:j<=m):∃t,t<=m/\lgs m t i=j:=by
 have h:=xAY.mp zfS m hm;rw[xAw]at h;obtain⟨h0,h⟩:=h;have h0:lgs m (m+1) 0=0:=xBC h0;have at_:∀j,j<=m->∃t,t<=m/\lgs m t 0=j:=λj hj=>by
  have:=xAY.mp h j (xAt.mpr (by lia));obtain⟨t,ht⟩:=List.getElem?_of_mem (List.contains_iff_mem.mp this);have hl:t<m+1:=by
   have:=(xAh.mp ht).1
   rwa [yfg]at this
  rw[zeY m _ _ _ hl]at ht;exact⟨t,by lia,xAF ht⟩
 obtain⟨a,ha,ea⟩:=at_ i hi;obtain⟨b,hb,eb⟩:=at_ j hj;rcases Nat.le_total a b with c|c
 ·refine⟨b-a,by lia,?_⟩;rw[<-ea,<-yc3,show a+(b-a)=b by lia];exact eb
 ·by_cases e:a=b
  ·subst e;exact⟨0,xAR _,by rw[<-eb,<-ea];rfl⟩
  ·refine⟨m+1-a+b,by lia,?_⟩;rw[<-ea,<-yc3,show a+(m+1-a+b)=(m+1)+b by lia,yc3,h0];exact eb
def way(m:Nat):Nat->Nat->Nat->Nat×Nat
 |0,i,p=>(i,p)
 |t+1,i,p=>way m t (SetTable.leap m i p).1 (SetTable.leap m i p).2
theorem ze6(m:Nat):∀(s t i p:Nat),way m (s+t) i p=way m t (way m s i p).1 (way m s i p).2
 |0,t,i,p=>by rw[xBO];rfl
 |s+1,t,i,p=>by rw[Nat.succ_add];exact ze6 m s t _ _
theorem zhw(m:Nat):∀(t i p:Nat),(way m t i p).2=p/32^t
 |0,i,p=>by rw[Nat.pow_zero,Nat.div_one];rfl
 |t+1,i,p=>by
  show(way m t _ (p/32)).2=_;rw[zhw m t,Nat.div_div_eq_div_mul,xB5,xBq]
theorem zgG(m:Nat):∀(t i p:Nat),i<=m->(way m t i p).1<=m
 |0,i,p,h=>h
 |t+1,i,p,h=>zgG m t _ _ (Nat.le_of_lt_succ (xBh _ (Nat.succ_pos m)))
theorem yer(m:Nat):∀(t i:Nat),(way m t i 0).1=lgs m t i
 |0,i=>rfl
 |t+1,i=>by
  show(way m t ((i*5+1+0/32)%(m+1)) (0/32)).1=_;exact yer m t _
theorem zf2{m:Nat}(hm:m∈zbi){i p j:Nat}(hi:i<=m)(hp:p<2^64)(hj:j<=m):∃t,t<SetTable.turns m/\(way m t i p).1=j:=by
 have h13:(way m 13 i p).2=0:=by
  rw[zhw];exact Nat.div_eq_of_lt (xAv hp (by decide))
 obtain⟨t,ht,e⟩:=yhm hm (zgG m 13 i p hi) hj;refine⟨13+t,by unfold SetTable.turns;lia,?_⟩;rw[ze6,h13,yer];exact e
theorem ydK{m:Nat}{owner:Array (Option Nat)}:∀(fuel i p t:Nat),t<fuel->owner.getD (way m t i p).1 (some 0)=none->∃j,SetTable.layClean.free m owner fuel i p=some j/\owner.getD j (some 0)=none
 |fuel+1,i,p,t,ht,hn=>by
  unfold SetTable.layClean.free;cases hf:(List.range (SetTable.runEnd m i+1-i)).find? λk=>(owner.getD (i+k) (some 0)).isNone with
  |some k=>
   have:=List.find?_some hf;exact⟨i+k,rfl,Option.isNone_iff_eq_none.mp this⟩
  |none=>
   cases t with
   |zero=>
    have h:=List.find?_eq_none.mp hf 0 (xAt.mpr (by unfold SetTable.runEnd;split <;> lia));have hn:owner.getD i (some 0)=none:=hn;rw[Nat.add_zero,hn]at h;exact absurd rfl h
   |succ t=>exact ydK fuel _ _ t (by lia) hn
end L2
end
section
namespace L2
open PySem PySem.Spec PySem.W PySem.Calls PyProof.Rows
theorem zfu{α:Type}:∀ {l:List (Option α)},(l.filterMap id).length<l.length->∃j:Nat,l[j]?=some none
 | [],h=>absurd h (Nat.lt_irrefl _)
 |none::l,_=>⟨0,rfl⟩
 |some x::l,h=>by
  rw[List.filterMap_cons_some (f:=id) (b:=x) rfl,xAo,xAo]at h;obtain⟨j,e⟩:=zfu (l:=l) (by lia);exact⟨j+1,e⟩
theorem zfr{α:Type}{x:α}:∀ {l:List (Option α)} {j:Nat},l[j]?=some none->((l.set j (some x)).filterMap id).Perm (x::l.filterMap id)
 |none::l,0,_=>.refl _
 |some y::l,0,h=>nomatch h
 |none::l,j+1,h=>by
  show(List.filterMap id (none::l.set j (some x))).Perm _;rw[List.filterMap_cons_none rfl,List.filterMap_cons_none rfl];exact zfr (l:=l) h
 |some y::l,j+1,h=>by
  show(List.filterMap id (some y::l.set j (some x))).Perm _;rw[List.filterMap_cons_some (f:=id) (b:=y) rfl,List.filterMap_cons_some (f:=id) (b:=y) rfl];exact((zfr (l:=l) (j:=j) (x:=x) h).cons y).trans (.swap x y _)
def OwnI(m:Nat)(owner:Array (Option Nat))(k:Nat):Prop:=owner.size=m+1/\(owner.toList.filterMap id).Perm (List.range k)
theorem yhi(h:Int):SetTable.bits h<2^64:=by
 unfold SetTable.bits;have h1:=Int.emod_lt_of_pos h (show(0:Int)<2^64 by decide);have h2:=Int.emod_nonneg h (show(2:Int)^64≠0 by decide);have e:((2:Int)^64)=((2^64:Nat):Int):=by decide
 generalize h%(2:Int)^64=r at *;rw[e]at h1;generalize (2:Nat)^64=b at *
 lia
theorem zgi{m:Nat}(hm:m∈zbi){owner:Array (Option Nat)}{k:Nat}(I:OwnI m owner k)(hk:k<=m)(h:Int) :
  ∃j,SetTable.layClean.free m owner (SetTable.turns m) (SetTable.bits h%(m+1)) (SetTable.bits h)=some j/\OwnI m (owner.setIfInBounds j (some k)) (k+1):=by
 obtain⟨hz,hp⟩:=I;have hl:owner.toList.length=m+1:=by rw[xA4,hz]
 obtain⟨j0,e0⟩:=zfu (l:=owner.toList) (by rw[hp.length_eq,xAy,hl];lia);have hj0:j0<m+1:=by
  have:=(xAh.mp e0).1
  rwa [hl]at this
 have getD_of:∀ {j:Nat},owner.toList[j]?=some none->owner.getD j (some 0)=none:=λ{j} e=>by
  rw[xAV]at e;rw[Array.getD_eq_getD_getElem?,e];rfl
 obtain⟨t,ht,et⟩:=zf2 hm (i:=SetTable.bits h%(m+1)) (p:=SetTable.bits h) (j:=j0) (Nat.le_of_lt_succ (xBh _ (Nat.succ_pos m))) (yhi h) (by lia);obtain⟨j,e1,e2⟩:=ydK (m:=m) (owner:=owner) _ _ _ t ht (by rw[et];exact getD_of e0);refine⟨j,e1,by rw[Array.size_setIfInBounds];exact hz,?_⟩;have e3:owner.toList[j]?=some none:=by
  rw[Array.getD_eq_getD_getElem?]at e2;rw[xAV];cases q:owner[j]? with
  |none=>rw[q]at e2;cases e2
  |some v=>rw[q]at e2;rw[show v=none from e2]
 rw[Array.toList_setIfInBounds];refine(zfr e3).trans ((hp.cons k).trans ?_);rw[xBz];exact(List.perm_append_singleton k _).symm
theorem yej{m:Nat}(hm:m∈zbi):∀(hs:List Int) (owner:Array (Option Nat)) (k:Nat),OwnI m owner k->k+hs.length<=m->
  ∃owner',(hs.foldl (init:=some (owner,k)) λ(acc:Option (Array (Option Nat)×Nat)) h=>do
   let (owner,k) <-acc
   let j <-SetTable.layClean.free m owner (SetTable.turns m) (SetTable.bits h%(m+1)) (SetTable.bits h)
   pure (owner.setIfInBounds j (some k),k+1))=some (owner',k+hs.length)/\OwnI m owner' (k+hs.length)
 | [],owner,k,I,_=>⟨owner,rfl,I⟩
 |h::hs,owner,k,I,hk=>by
  rw[xAo]at hk;obtain⟨j,e,I2⟩:=zgi hm I (by lia) h;obtain⟨o',e2,I3⟩:=yej hm hs _ _ I2 (by lia);refine⟨o',?_,by rw[xAo,show k+(hs.length+1)=k+1+hs.length by lia];exact I3⟩;rw[List.foldl_cons,xAo,show k+(hs.length+1)=k+1+hs.length by lia,<-e2];congr 1;show(SetTable.layClean.free m owner (SetTable.turns m) (SetTable.bits h%(m+1)) (SetTable.bits h)).bind _=_;rw[e];rfl
theorem yga{α:Type}(n:Nat):(List.replicate n (none:Option α)).filterMap id=[]:=by
 induction n with
 |zero=>rfl
 |succ n ih=>rw[xBi,List.filterMap_cons_none rfl,ih]
theorem zdV{m:Nat}(hm:m∈zbi)(hs:Array Int)(hn:hs.size<=m):∃owner,SetTable.layClean m hs=some owner/\OwnI m owner hs.size:=by
 obtain⟨o,e,I⟩:=yej hm hs.toList (Array.replicate (m+1) none) 0 ⟨Array.size_replicate,by rw[Array.toList_replicate,yga];exact .refl _⟩ (by rw[xBO,xA4];exact hn);rw[xBO,xA4]at e I;refine⟨o,?_,I⟩;unfold SetTable.layClean;rw[<-Array.foldl_toList];exact congrArg (Option.map (·.1)) e
theorem zf6{α:Type}(l:List (Option α)):((List.range l.length).filterMap λj=>((l[j]?).getD none).map λx=>(j,x)).map (·.2)=l.filterMap id:=by
 rw[List.map_filterMap];have e:(λj=>Option.map (λx:Nat×α=>x.2) (((l[j]?).getD none).map λx=>(j,x)))=λj=>(l[j]?).bind id:=funext λj=>by
  cases l[j]? with
  |none=>rfl
  |some v=>cases v <;> rfl
 rw[e];have h:=List.filterMap_getElem?_range_length l;have h2:=congrArg (List.filterMap id) h;rw[List.filterMap_filterMap]at h2;exact h2
theorem zfL{m:Nat}(hm:m∈zbi)(f mv:Nat)(led plain:Bool){es:Array (Int×Value)}(hn:es.size<=m):∃t order,SetTable.laid m f mv led plain (es.map (·.1))=some (t,order)/\(order.filterMap (es[·]?)).toList.Perm es.toList/\t.fits es.size=true/\t.mask=m/\TabG led t/\t.fill=es.size:=by
 obtain⟨owner,e,hz,hp⟩:=zdV hm (es.map (·.1)) (by rw[Array.size_map];exact hn);rw[Array.size_map]at hp;unfold SetTable.laid;rw[e];have hl:owner.toList.length=m+1:=by rw[xA4,hz]
 have hs:((List.range (m+1)).filterMap λj=>(owner.getD j none).map λx=>(j,x)).map (·.2)=owner.toList.filterMap id:=by
  rw[<-zf6,hl];congr 2
  funext j
  rw[Array.getD_eq_getD_getElem?,xAV]
 have hlen:((List.range (m+1)).filterMap λj=>(owner.getD j none).map λx=>(j,x)).length=es.size:=by
  have:=congrArg List.length hs;rw[xA1]at this;rw[this,hp.length_eq,xAy]
 refine⟨_,_,rfl,?_,?_,rfl,⟨rfl,λ_=>?_⟩,?_⟩
 ·rw[Array.toList_filterMap];show(List.filterMap _ (((List.range (m+1)).filterMap λj=>(owner.getD j none).map λx=>(j,x)).map (·.2))).Perm _;rw[hs];exact(hp.filterMap _).trans (by rw[filterMap_getElem?_range])
 ·unfold SetTable.fits SetTable.fill;dsimp only;rw[xA8,xA1,hlen,xAw];exact⟨xBg _,xAD (by show es.size+0<=m;lia)⟩
 ·unfold Rise;dsimp only;rw[xAJ,List.pairwise_filterMap];refine List.Pairwise.imp ?_ List.pairwise_lt_range;intro a b hab x hx y hy;cases h1:owner.getD a none with
  |none=>rw[h1]at hx;cases hx
  |some u=>
   cases h2:owner.getD b none with
   |none=>rw[h2]at hy;cases hy
   |some v=>rw[h1]at hx;rw[h2]at hy;cases hx;cases hy;exact hab
 ·unfold SetTable.fill;dsimp only;rw[xA8,xA1,hlen];rfl
end L2
end
section
namespace L2
open PySem PySem.Spec PySem.W PySem.Calls PyProof.Rows
theorem zdR(a:Addr)(wanted:Nat):setRelay a wanted=(do
 let (es,_,t) <-setState a
 if SetTable.sizeAbove wanted>sizeLine then unsupported "set:memory"
 let (es,t) <-(do
  let some (t,order):=t.relaid (es.map (·.1)) wanted|unsupported "internal:set-table-without-room"
  let es':=order.filterMap (es[·]?)
  if es'.size != es.size then unsupported "internal:set-table-lost-an-element"
  pure (es',t))
 storeSet a es t):=rfl
theorem zeJ(a:Addr):setWalk a=(do
 let (es,epoch,t) <-setState a
 if <-setsByText then return pickOrder ((<-ask).params.setOrder a epoch) es
 if (!t.plain&&es.size>1) then return (<-drawOrder es.size es.toList).toArray
 let _ <-(do if !t.led&&es.size>1 then unsupported "set:maker-not-led":Sem Unit)
 return es):=rfl
theorem zcs(s o:Addr)(each:Sem Unit):setMerge s o each=(do
 if s==o then return
 let (eo,epoch,to) <-setState o
 if eo.isEmpty then return
 setRoomFor s eo.size
 let (_,_,ts) <-setState s
 match ts.road to with
 | .slotForSlot=>storeSet s eo { to with finger:=ts.finger,led:=ts.led&&to.led,moves:=ts.moves,plain:=ts.plain&&to.plain }
 | .clean=>
  let (es,t) <-(do
   let some (t,order):=SetTable.laid ts.mask ts.finger ts.moves (led:=ts.led&&to.led) (plain:=ts.plain&&to.plain) (eo.map (·.1))|unsupported "internal:set-table-without-room"
   let es':=order.filterMap (eo[·]?)
   if es'.size != eo.size then unsupported "internal:set-table-lost-an-element"
   pure (es',t))
  storeSet s es t
 | .oneByOne=>
  for (h,x) in <-setWalkUnseen o [s] (some s) do
   let _ <-holding [x] (setAddHashed s x h)
   each
   if (<-setState o).2.1 != epoch then unsupported "set.changed-during-merge"):=rfl
theorem zgo:((List.range 257).all λk=>zbi.contains (SetTable.sizeAbove k-1)&&decide (k<=SetTable.sizeAbove k-1)&&decide (SetTable.sizeAbove k<=512))=true:=by decide +kernel
theorem above{k:Nat}(h:k<=256):SetTable.sizeAbove k-1∈zbi/\k<=SetTable.sizeAbove k-1/\SetTable.sizeAbove k<=512:=by
 have:=xAY.mp zgo k (xAt.mpr (by lia));rw[xAw,xAw]at this;exact⟨List.contains_iff_mem.mp this.1.1,xAn this.1.2,xAn this.2⟩
section
variable {prog:Program} {w:World} {A:Around} {E:Value->Shared->Prop} {s:Shared}
structure SetR(w:World)(prog:Program)(h:Heap)(a:Addr)(o:Obj)(es:Array (Int×Value))(ep:Nat)(t:SetTable):Prop where
 at_:h.get? a=some o
 ex:o.ExactSet
 dt:o.data = .set es ep t
 el:ElemsOf (intKind prog w) es.toList
 bd:es.size<scanBound
 ft:t.fits es.size=true
 tg:TabG (!zaG w) t
theorem SetR.store{ep:Nat}(S:SetR w prog s.heap a o es ep t)(hel:ElemsOf (intKind prog w) es'.toList)(hb:es'.size<scanBound)(hf:t'.fits es'.size=true)(hg:TabG (!zaG w) t') :
  SetR w prog (s.heap.update a (Obj.putSet es' t')) a { o with data:=.set es' (ep+1) t' } es' (ep+1) t' :=
 ⟨zcD S.at_ S.dt es' t',S.ex,rfl,hel,hb,hf,hg⟩
theorem zcT{t:SetTable}{m n:Nat}(h:t.fits n=true)(e:n=m):t.fits m=true:=e ▸ h
theorem zhh{ep:Nat}{wanted:Nat}(S:SetR w prog s.heap a o es ep t)(hw:wanted<=256)(hn:es.size<=wanted)
  (h:∀h' o' es' ep' t',Heap.SameBut a s.heap h'->SetR w prog h' a o' es' ep' t'->es'.toList.Perm es.toList->t'.mask∈zbi->t'.fill=es'.size->wanted<=t'.mask->Q () { s with heap:=h' }):wpAny (model prog w) A (setRelay a wanted) Q E s:=by
 obtain⟨m1,m2,m3⟩:=above hw;obtain⟨t',order,e1,e2,e3,e4,e5,e6⟩:=zfL m1 t.finger (t.movedTo (SetTable.sizeAbove wanted-1)) t.led t.plain (es:=es) (by lia);have hz:(order.filterMap (es[·]?)).size=es.size:=by rw[<-xA4,e2.length_eq,xA4]
 rw[zdR];refine xA0 (xAQ S.at_ S.dt S.ft ?_);dsimp only;rw[if_neg (show ¬ SetTable.sizeAbove wanted>sizeLine by have:=sizeLine_eq;lia)];rw[show t.relaid (es.map (·.1)) wanted=some (t',order) from e1];dsimp only;refine xA0 ?_;rw[if_neg (show ¬ ((order.filterMap (es[·]?)).size != es.size)=true by rw[hz,bne_self_eq_false];decide)];refine xA3 ?_;have hb:(order.filterMap (es[·]?)).size<scanBound:=by rw[hz];exact S.bd
 refine wpAny_storeSet_of S.at_ S.dt ?_ (fits_of_scanBound hb);refine h _ _ _ _ _ (xAZ s.heap a (Obj.putSet _ t')) (S.store (S.el.perm e2) hb (zcT e3 hz.symm) (by rw[<-S.tg.led];exact e5)) e2 (by rw[e4];exact m1) (by rw[e6,hz]) (by rw[e4];exact m2)
theorem SetR.keep{ep:Nat}(S:SetR w prog h a o es ep t)(e:h'.get? a=some o):SetR w prog h' a o es ep t:=⟨e,S.ex,S.dt,S.el,S.bd,S.ft,S.tg⟩
theorem SetR.apart{ep:Nat}(S:SetR w prog h a o es ep t)(n:a≠b)(e:Heap.SameBut b h h'):SetR w prog h' a o es ep t:=S.keep (by rw[e.2 a n];exact S.at_)
theorem SetR.place{ep:Nat}(S:SetR w prog h a o es ep t):t.place.size=es.size/\t.fill<=t.mask:=by
 have:=S.ft;unfold SetTable.fits at this;rw[xAw]at this;exact⟨xBC this.1,xAn this.2⟩
theorem zaT{α:Type}{xs ys:Array α}(p:xs.toList.Perm ys.toList):xs.size=ys.size:=by rw[<-xA4,p.length_eq,xA4]
theorem ygt{ep:Nat}{more:Nat}(S:SetR w prog s.heap a o es ep t)(hm:t.mask∈zbi)(hz:es.size<=64)(hmore:more<=64)
  (h:∀h' o' es' ep' t',Heap.SameBut a s.heap h'->SetR w prog h' a o' es' ep' t'->es'.toList.Perm es.toList->t'.mask∈zbi->(t.fill=es.size->t'.fill=es'.size)->more<=t'.mask->Q () { s with heap:=h' }):wpAny (model prog w) A (setRoomFor a more) Q E s:=by
 obtain⟨p1,p2⟩:=S.place;unfold setRoomFor;refine xA0 (xAQ S.at_ S.dt S.ft ?_);dsimp only;unfold SetTable.roomFor;by_cases c:(t.fill+more)*5>=t.mask*3
 ·rw[if_pos c,p1];exact zhh S (wanted:=(es.size+more)*2) (by lia) (by lia) λh' o' es' ep' t' b S' e m f l=>h h' o' es' ep' t' b S' e m (λ_=>f) (by lia)
 ·rw[if_neg c];exact xA3 (h s.heap o es ep t (Heap.SameBut.refl a s.heap) S (.refl _) hm id (by lia))
theorem zej{ep:Nat}{ep1:Nat}{each:Sem Unit}(S:SetR w prog s.heap r o es ep t)(hm:t.mask∈zbi)(h0:t.fill=0)(L:SetR w prog s.heap l o1 es1 ep1 t1)(hz:es1.size<=64)(n:r≠l)
  (h:∀h' o' es' ep' t',Heap.SameBut r s.heap h'->SetR w prog h' r o' es' ep' t'->es'.toList.Perm es1.toList->t'.mask∈zbi->t'.fill=es'.size->Q () { s with heap:=h' }):wpAny (model prog w) A (setMerge r l each) Q E s:=by
 obtain⟨p1,p2⟩:=S.place;have e0:es.size=0:=by unfold SetTable.fill at h0;lia
 rw[zcs];rw[if_neg (show ¬ (r==l)=true by simpa using n)];refine xA0 (xAQ L.at_ L.dt L.ft ?_);dsimp only;by_cases c:es1.isEmpty=true
 ·rw[if_pos c];have c0:es1.size=0:=by simpa using c
  refine xA3 (h s.heap o es ep t (Heap.SameBut.refl r s.heap) S ?_ hm (by rw[h0,e0]));rw[show es.toList=[] from xBn.mp (by rw[xA4];exact e0),show es1.toList=[] from xBn.mp (by rw[xA4];exact c0)]
 rw[if_neg c];refine xA0 (ygt S hm (by lia) hz λh1 o2 es2 ep2 t2 b1 S2 e2 m2 f2 l2=>?_);have L2:=L.apart n.symm b1;have ez:=zaT e2;have hf2:t2.fill=0:=by rw[f2 (by lia)];lia
 refine xA0 (xAQ (s:={ s with heap:=h1 }) S2.at_ S2.dt S2.ft ?_);dsimp only;unfold SetTable.road;rw[if_neg (show ¬ (t2.fill != 0)=true by rw[hf2];decide)];by_cases c2:(t2.mask==t1.mask&&t1.dummies.isEmpty)=true
 ·rw[if_pos c2];rw[xAw]at c2;have em:t2.mask=t1.mask:=xBC c2.1;refine wpAny_storeSet_of (s:={ s with heap:=h1 }) S2.at_ S2.dt ?_ (fits_of_scanBound L.bd);refine h _ _ _ _ _ (b1.trans (xAZ h1 r _)) (S2.store (s:={ s with heap:=h1 }) L.el L.bd L.ft ⟨?_,λe=>?_⟩) (.refl _) (by show t1.mask∈zbi;rw[<-em];exact m2) (by show t1.place.size+t1.dummies.size=es1.size;rw[L.place.1,show t1.dummies.size=0 by simpa using c2.2];rfl)
  ·show(t2.led&&t1.led)=_;rw[S2.tg.led,L.tg.led,Bool.and_self]
  ·have e:(t2.plain&&t1.plain)=true:=e;rw[xAw]at e;exact L.tg.rise e.2
 ·rw[if_neg c2];dsimp only;obtain⟨t',order,q1,q2,q3,q4,q5,q6⟩:=zfL m2 t2.finger t2.moves (t2.led&&t1.led) (t2.plain&&t1.plain) (es:=es1) l2;have hz':(order.filterMap (es1[·]?)).size=es1.size:=zaT q2;rw[q1];dsimp only;refine xA0 ?_;rw[if_neg (show ¬ ((order.filterMap (es1[·]?)).size != es1.size)=true by rw[hz',bne_self_eq_false];decide)];refine xA3 ?_;have hb:(order.filterMap (es1[·]?)).size<scanBound:=by rw[hz'];exact L.bd
  refine wpAny_storeSet_of (s:={ s with heap:=h1 }) S2.at_ S2.dt ?_ (fits_of_scanBound hb);refine h _ _ _ _ _ (b1.trans (xAZ h1 r _)) (S2.store (s:={ s with heap:=h1 }) (L.el.perm q2) hb (zcT q3 hz'.symm) ?_) q2 (by rw[q4];exact m2) (by rw[q6,hz']);rw[S2.tg.led,L.tg.led,Bool.and_self]at q5;exact q5
end
end L2
end
section
namespace L2
open PySem PySem.Spec PySem.W PySem.Calls PyProof.Rows
section
variable {prog:Program} {w:World} {A:Around} {E:Value->Shared->Prop} {s:Shared}
theorem zhA{ep:Nat}{Q:Array (Int×Value)->Shared->Prop}(L:SetR w prog s.heap l o es ep t)(hQ:∀(ws:Array (Int×Value)) d',ws.toList.Perm es.toList->Q ws { s with drawn:=d' }):wpAny (model prog w) A (setWalk l) Q E s:=by
 rw[zeJ];refine xA0 (xAQ L.at_ L.dt L.ft ?_);dsimp only;unfold setsByText;refine xA0 (xA0 (xBL (xA3 ?_)));refine xAI (λ_=>?_) (λhb=>?_)
 ·refine xA0 (xBL (xA3 ?_));exact hQ _ s.drawn (zbV _ _)
 refine xAI (λ_=>?_) (λ_=>?_)
 ·refine xA0 (ycr _ _ _ _ (xA4 ..) λr d' hr=>xA3 (hQ _ d' hr))
 have hl:t.led=true:=by
  rw[L.tg.led];have hb:zaG w≠true:=hb;cases q:zaG w with
  |true=>exact absurd q hb
  |false=>rfl
 refine xA0 ?_;rw[if_neg (by rw[hl];simp)];exact xA3 (xA3 (hQ _ s.drawn (.refl _)))
theorem zhf{Q:Bool->Shared->Prop}(hs:∀a∈[l,r],Ex4 λo es ep t=>SetR w prog s.heap a o es ep t)(hQ:Q true s):wpAny (model prog w) A (setsQuiet [l,r]) Q E s:=by
 unfold setsQuiet;refine xA0 ?_;refine wpAny_forIn_list _ (λrest b s'=>s'=s/\b=⟨none,()⟩/\∀a∈rest,Ex4 λo es ep t=>SetR w prog s.heap a o es ep t) _ ?_ ?_ _ _ ⟨rfl,rfl,hs⟩
 ·rintro a rest b s' ⟨rfl,rfl,h⟩;obtain⟨o,es,ep,t,S⟩:=h a xA7;refine xA0 (wpAny_setEntries_of S.at_ S.dt S.ft ?_);refine xA0 ?_;refine wpAny_forIn_array' _ (λrest b s2=>s2=s'/\b=(none,())/\∀e∈rest,Ex2 λk t=>e.2=Value.int k t) _ ?_ ?_ _ _ ⟨rfl,rfl,λe he=>?_⟩
  ·rintro⟨h1,x⟩ rest b s2 ⟨rfl,rfl,he⟩;obtain⟨k,t,e⟩:=he _ xA7;dsimp only at e;subst e;exact xA3 ⟨rfl,rfl,λe h=>he e (xAb _ h)⟩
  ·rintro b s2 ⟨rfl,rfl,_⟩;exact xA3 ⟨rfl,rfl,λb hb=>h b (xAb _ hb)⟩
  ·obtain⟨⟨k,hk,_⟩,_⟩:=S.el e he;obtain⟨t,ht⟩:=Value.isInt_shape hk;exact⟨k,t,ht⟩
 ·rintro b s' ⟨rfl,rfl,_⟩;exact xA3 hQ
theorem yfT{ep:Nat}{ep1:Nat}{Q:Array (Int×Value)->Shared->Prop}(S:SetR w prog s.heap r o es ep t)(L:SetR w prog s.heap l o1 es1 ep1 t1)
  (hQ:∀(ws:Array (Int×Value)) h' d' o' ep' t',ws.toList.Perm es1.toList->Heap.SameBut r s.heap h'->SetR w prog h' r o' es ep' t'->Q ws { s with heap:=h',drawn:=d' }):wpAny (model prog w) A (setWalkUnseen l [r] (some r)) Q E s:=by
 have plain:wpAny (model prog w) A (setWalk l) Q E s:=zhA L λws d' hp=>hQ ws s.heap d' o ep t hp (Heap.SameBut.refl r s.heap) S
 unfold setWalkUnseen;refine xA0 (xAQ L.at_ L.dt L.ft ?_);dsimp only;rw[show setsByText=(do return (<-ask).params.followText "set-order") from rfl];refine xA0 (xA0 (xBL (xA3 ?_)));refine xAI (λ_=>plain) (λ_=>?_);refine xA0 (zhf (λa ha=>?_) ?_)
 ·simp only[xAa,xAf,xB2]at ha;rcases ha with rfl|rfl
  ·exact⟨_,_,_,_,L⟩
  ·exact⟨_,_,_,_,S⟩
 refine xAI (λh=>absurd h (by decide)) (λ_=>?_);refine xA0 (xBA ?_);refine xA0 (xAQ S.at_ S.dt S.ft ?_);dsimp only;refine xAI (λ_=>?_) (λ_=>?_)
 ·refine xA0 (wpAny_storeSet_of S.at_ S.dt ?_ (fits_of_scanBound S.bd));refine xA3 (hQ es1 _ s.drawn _ _ _ (.refl _) (xAZ s.heap r _) (S.store S.el S.bd S.ft ⟨?_,λe=>?_⟩))
  ·show(t.led&&t1.led)=_;rw[S.tg.led,L.tg.led,Bool.and_self]
  ·have e:(t.plain&&t1.plain)=true:=e;rw[xAw]at e;exact S.tg.rise e.1
 ·exact xA3 (hQ es1 s.heap s.drawn _ _ _ (.refl _) (Heap.SameBut.refl r s.heap) S)
theorem SetR.G{ep:Nat}{S:Int->Bool}(R:SetR w prog h a o es ep t)(hm:∀k,S k=true↔∃e∈es.toList,(intKind prog w).is k e.2=true):SetG w prog h a S es.size:=⟨o,es,ep,t,R.at_,R.ex,R.dt,R.el,hm,R.bd,R.ft,rfl,R.tg⟩
theorem SetG.R{S:Int->Bool}{n:Nat}(G:SetG w prog h a S n):Ex4 λo es ep t=>SetR w prog h a o es ep t/\es.size=n/\∀k,S k=true↔∃e∈es.toList,(intKind prog w).is k e.2=true:=by
 obtain⟨o,es,ep,t,h1,h2,h3,h4,h5,h6,h7,h8,h9⟩:=G;exact⟨o,es,ep,t,⟨h1,h2,h3,h4,h6,h7,h9⟩,h8,h5⟩
def Cnt(S:Int->Bool)(n:Nat):Prop:=∃l:List Int,l.Nodup/\l.length=n/\∀k,k∈l↔S k=true
theorem Cnt.congr{S S':Int->Bool}{n n':Nat}(c:Cnt S n)(e:∀k,S k=S' k)(en:n=n'):Cnt S' n':=by
 subst en;obtain⟨l,h1,h2,h3⟩:=c;exact⟨l,h1,h2,λk=>by rw[<-e];exact h3 k⟩
theorem Cnt.add{S:Int->Bool}{n:Nat}(c:Cnt S n)(k:Int):Cnt (λk'=>S k'||decide (k'=k)) (if S k then n else n+1):=by
 obtain⟨l,h1,h2,h3⟩:=c;cases q:S k with
 |true=>
  refine⟨l,h1,h2,λk'=>?_⟩;rw[xBR,xBk,h3];exact⟨.inl,λh=>h.elim (λx=>x) λe=>by rw[e];exact q⟩
 |false=>
  refine⟨k::l,xBd.mpr ⟨(λhk=>absurd ((h3 k).mp hk) (by rw[q];decide)),h1⟩,by rw[xAo,h2];rfl,λk'=>?_⟩;rw[xBR,xBk,xAa,h3];exact⟨λh=>h.elim .inr .inl,λh=>h.elim .inr .inl⟩
theorem zgj{ep:Nat}{S1 S2:Int->Bool}{n2:Nat}{id:String}(S:SetR w prog s.heap r o es ep t)(hS:∀k,S1 k=true↔∃e∈es.toList,(intKind prog w).is k e.2=true)(hm:t.mask∈zbi)(hfe:t.fill=es.size)(hz:es.size<=64)(L:SetG w prog s.heap l S2 n2)(hz2:n2<=64)(n:r≠l)(c1:Cnt S1 es.size)(c2:Cnt S2 n2)
  (h:∀h' d' n',Heap.SameBut r s.heap h'->SetG w prog h' r (λk=>S1 k||S2 k) n'->Cnt (λk=>S1 k||S2 k) n'->n'<=128->Q () { s with heap:=h',drawn:=d' }):wpAny (model prog w) A (Builtin.Frozenset.merge id r l) Q E s:=by
 obtain⟨o1,es1,ep1,t1,L,hn1,hL⟩:=L.R;unfold Builtin.Frozenset.merge;refine xA0 (wpAny_setEpoch_of L.at_ L.dt L.ft ?_);by_cases c0:t.fill=0
 ·refine zej S hm c0 L (by lia) n λh' o' es' ep' t' b S' p m' _=>?_
  have e0:es.size=0:=by
   have:=S.place.1;unfold SetTable.fill at c0
   lia
  have e0:es.toList=[]:=xBn.mp (by rw[xA4];exact e0);have h1:∀k,S1 k=false:=λk=>Bool.eq_false_iff.mpr λe=>by
   obtain⟨e,he,_⟩:=(hS k).mp e;rw[e0]at he;cases he
  refine h h' s.drawn es'.size b (S'.G λk=>?_) (c2.congr (λk=>by rw[h1,Bool.false_or]) (by rw[zaT p];exact hn1.symm)) (by rw[zaT p];lia);rw[h1,Bool.false_or,hL];exact⟨λ⟨e,he,q⟩=>⟨e,p.mem_iff.mpr he,q⟩,λ⟨e,he,q⟩=>⟨e,p.mem_iff.mp he,q⟩⟩
 rw[zcs];rw[if_neg (show ¬ (r==l)=true by simpa using n)];refine xA0 (xAQ L.at_ L.dt L.ft ?_);dsimp only;by_cases c:es1.isEmpty=true
 ·rw[if_pos c];have c0:es1.toList=[]:=xBn.mp (by rw[xA4];simpa using c);have h1:∀k,S2 k=false:=λk=>Bool.eq_false_iff.mpr λe=>by
   obtain⟨e,he,_⟩:=(hL k).mp e;rw[c0]at he;cases he
  refine xA3 (h s.heap s.drawn es.size (Heap.SameBut.refl r s.heap) (S.G λk=>?_) (c1.congr (λk=>by rw[h1,Bool.or_false]) rfl) (by lia));rw[h1,Bool.or_false,hS]
 rw[if_neg c];refine xA0 (ygt S hm hz (by lia) λh1 o2 es2 ep2 t2 b1 S2' e2 m2 f2 l2=>?_);have L2:=L.apart n.symm b1;have ez:=zaT e2;refine xA0 (xAQ (s:={ s with heap:=h1 }) S2'.at_ S2'.dt S2'.ft ?_);dsimp only;unfold SetTable.road;rw[if_pos (show(t2.fill != 0)=true by rw[f2 hfe,ez,<-hfe];simpa using c0)];dsimp only;refine xA0 (yfT (s:={ s with heap:=h1 }) S2' L2 λws h3 d3 o3 ep3 t3 hp b3 S3=>?_);dsimp only at b3;have L3:=L2.apart n.symm b3;have hS3:∀k,S1 k=true↔∃e∈es2.toList,(intKind prog w).is k e.2=true:=λk=>(hS k).trans ⟨λ⟨e,he,q⟩=>⟨e,e2.mem_iff.mpr he,q⟩,λ⟨e,he,q⟩=>⟨e,e2.mem_iff.mp he,q⟩⟩
 refine xA0 ?_;refine wpAny_forIn_array' _ (λrest _ s'=>Ex3 λh' S' n'=>s'={ s with heap:=h',drawn:=d3 }/\Heap.SameBut r s.heap h'/\SetR w prog h' l o1 es1 ep1 t1/\SetG w prog h' r S' n'/\Cnt S' n'/\n'+rest.length<=128/\(∀e∈rest,e∈es1.toList)/\∀k,(S' k=true\/∃e∈rest,(intKind prog w).is k e.2=true)↔(S1 k=true\/S2 k=true)) _ ?_ ?_ _ _ ⟨h3,S1,es2.size,rfl,b1.trans b3,L3,S3.G hS3,c1.congr (λ_=>rfl) ez.symm,?_,λe he=>hp.mem_iff.mp he,λk=>?_⟩
 ·rintro⟨hv,x⟩ rest b s' ⟨h4,S',n',rfl,b4,L4,G4,C4,hn4,hr4,hk4⟩;rw[xAo]at hn4;obtain⟨⟨k,hk,ehv⟩,_⟩:=L4.el _ (hr4 _ xA7);obtain⟨tk,ex⟩:=Value.isInt_shape hk;dsimp only at ex ehv;subst ex;subst ehv;refine xA0 (xB9 (zhV (s:={ s with heap:=h4,drawn:=d3 }) G4 (by unfold scanBound;lia) λh5 bb b5 G5=>?_));dsimp only at b5;have L5:=L4.apart n.symm b5;unfold Builtin.Frozenset.unchanged;refine xA0 (xA0 (wpAny_setEpoch_of (s:={ s with heap:=h5,drawn:=d3 }) L5.at_ L5.dt L5.ft ?_));rw[if_neg (by rw[bne_self_eq_false];decide)];refine xA3 ?_;refine xA0 (xAQ (s:={ s with heap:=h5,drawn:=d3 }) L5.at_ L5.dt L5.ft ?_);dsimp only;rw[if_neg (by rw[bne_self_eq_false];decide)];refine xA3 ⟨h5,_,_,rfl,b4.trans b5,L5,G5,C4.add k,?_,λe he=>hr4 e (xAb _ he),λk'=>?_⟩
  ·split <;> lia
  ·rw[<-hk4 k',xBR,xBk];have hkey:∀k',(intKind prog w).is k' (.int k tk)=true↔k'=k:=λk'=>⟨λh=>by
    have e:∃t,Value.int k tk = .int k' t:=Value.isInt_shape h;obtain⟨t',e⟩:=e;injection e with e;exact e.symm,λe=>by rw[e];exact intKind_is _ _ _ _⟩
   constructor
   ·rintro((h|h) |⟨e,he,q⟩)
    ·exact .inl h
    ·exact .inr ⟨_,xA7,(hkey k').mpr h⟩
    ·exact .inr ⟨e,xAb _ he,q⟩
   ·rintro(h |⟨e,he,q⟩)
    ·exact .inl (.inl h)
    ·rcases xAa.mp he with rfl|he
     ·exact .inl (.inr ((hkey k').mp q))
     ·exact .inr ⟨e,he,q⟩
 ·rintro b s' ⟨h4,S',n',rfl,b4,L4,G4,C4,hn4,_,hk4⟩;have hS':∀k,S' k=(S1 k||S2 k):=λk=>by
   have:=hk4 k;rw[Bool.eq_iff_iff,xBR,<-this];exact⟨.inl,λh=>h.elim (λx=>x) λ⟨e,he,_⟩=>nomatch he⟩
  exact xA3 (h h4 d3 n' b4 (G4.congr hS' rfl) (C4.congr hS' rfl) (by rw[List.length_nil]at hn4;lia))
 ·rw[hp.length_eq,xA4];lia
 ·rw[hL];exact or_congr .rfl ⟨λ⟨e,he,q⟩=>⟨e,hp.mem_iff.mp he,q⟩,λ⟨e,he,q⟩=>⟨e,hp.mem_iff.mpr he,q⟩⟩
end
end L2
end
section
namespace L2
open PySem PySem.Spec PySem.W PySem.Calls PyProof.Rows
open Builtin.Frozenset in
theorem zh5(args:Args):Builtin.«frozenset.__or__» args=(do
 let (self,other) <-slot1 "__or__" args
 let (l,r):=if false then(other,self) else(self,other)
 if !(<-isAnySet l <&&> isAnySet r) then rule s!"frozenset.{"__or__"}.declined";return <-ret .notImplemented
 let a <-addrOf l
 let v <-(do
  let result <-copyOf a
  if r != .ref a then holding [result] (updateFrom s!"frozenset.{"__or__"}" (<-addrOf result) r)
  return result)
 ret v):=rfl
theorem ycC:Slot "set" (dunder (Operator.info .BitOr).2) "set.__or__" :=
 .of (owner:="set") (n:="__or__") (by rw[typeLookup_type,xBG];kernel_rfl) (by decide +kernel) (by decide +kernel) (by decide +kernel)
  (by first|exact .inl (by decide +kernel)|exact .inr (by decide +kernel)) (by rw[isSubtype_type];kernel_rfl)
theorem ydL:fillsNumberSlot (.type "set") (Operator.info .BitOr).2=pure true :=
 fillsNumberSlot_of (id:="set.__or__") (r:=some (.builtin "set.__ror__")) (by rw[typeLookup_type,xBG];kernel_rfl) (by decide +kernel) (by rw[typeLookup_type,xBG];kernel_rfl)
theorem ydB:entryFor table "set.__or__"=some Builtin.«frozenset.__or__» :=
 entryFor_alias (id':="frozenset.__or__") (by kernel_rfl) (by first|rfl|decide +kernel|(unfold String.splitOn;simp +decide [String.splitOnAux])) (by decide +kernel) (by kernel_rfl)
theorem zdZ(a b:Value):argsOk "set.__or__" ⟨[a,b],[]⟩:=by unfold argsOk;kernel_rfl
section
variable {prog:Program} {w:World} {A:Around} {E:Value->Shared->Prop} {s:Shared}
theorem SetG.typ{S:Int->Bool}{n:Nat}(G:SetG w prog s.heap a S n):s.TypeIs (.ref a) "set":=by
 obtain⟨o,es,ep,t,h1,h2,_⟩:=G;exact⟨o,h1,h2.1⟩
theorem yht{S:Int->Bool}{n:Nat}(L:SetG w prog s.heap l S n)(hz:n<=64)
  (hQ:∀h' o es ep t,(∀b o,s.heap.get? b=some o->h'.get? b=some o)->SetR w prog h' s.heap.objs.size o es ep t->(∀k,S k=true↔∃e∈es.toList,(intKind prog w).is k e.2=true)->t.mask∈zbi->t.fill=es.size->es.size=n->Q (.ref s.heap.objs.size) { s with heap:=h' }):wpAny (model prog w) A (Builtin.Frozenset.copyOf l) Q E s:=by
 have hT:=L.typ;obtain⟨o1,es1,ep1,t1,L,hn1,hL⟩:=L.R;unfold Builtin.Frozenset.copyOf Builtin.Frozenset.baseOf;refine xA0 (xA0 (wpAny_isInstance hT sub_set_self ?_));rw[if_pos rfl];refine xA3 ?_;unfold newSet setsByText;refine xA0 (xA0 (xA0 (xBL (xA3 ?_))));dsimp only;simp only[newObj];refine xA0 (wpAny_alloc (xA3 ?_));have hlt:=xAe L.at_;have hR:SetR w prog (s.heap.push (yan w)) s.heap.objs.size (yan w) #[] 0 (.fresh 0 0 (!zaG w)):=⟨xA6 _ rfl,⟨rfl,rfl,rfl⟩,rfl,λe he=>(by simp at he),by decide,by rfl,⟨rfl,λ_=>List.Pairwise.nil⟩⟩
 have L1:SetR w prog (s.heap.push (yan w)) l o1 es1 ep1 t1:=L.keep (xA2 _ L.at_);refine xA0 (xA3 ?_);refine xA0 (zej (s:={ s with heap:=s.heap.push (yan w) }) hR (by show 7∈zbi;decide) rfl L1 (by lia) (xBy hlt) λh' o' es' ep' t' b S' p m f=>?_);dsimp only at b;refine xA3 (hQ h' o' es' ep' t' (λc x e=>?_) S' (λk=>(hL k).trans ⟨λ⟨e,he,q⟩=>⟨e,p.mem_iff.mpr he,q⟩,λ⟨e,he,q⟩=>⟨e,p.mem_iff.mp he,q⟩⟩) m f (by rw[zaT p];exact hn1));rw[b.2 c (xAq (xAe e))];exact xA2 _ e
theorem yhc{Q:Bool->Shared->Prop}(h:s.TypeIs (.ref a) "set")(hQ:Q true s):wpAny (model prog w) A (Builtin.Frozenset.isAnySet (.ref a)) Q E s:=by
 unfold Builtin.Frozenset.isAnySet;exact xA0 (wpAny_isInstance h sub_set_self (xA3 hQ))
theorem or_G{S1 S2:Int->Bool}{n1 n2:Nat}(G1:SetG w prog s.heap a S1 n1)(G2:SetG w prog s.heap b S2 n2)(z1:n1<=64)(z2:n2<=64)(hn:a≠b)(c1:Cnt S1 n1)(c2:Cnt S2 n2)
  (hQ:∀h' d' n',(∀c o,s.heap.get? c=some o->h'.get? c=some o)->SetG w prog h' s.heap.objs.size (λk=>S1 k||S2 k) n'->Cnt (λk=>S1 k||S2 k) n'->n'<=128->Q (.ref s.heap.objs.size) { s with heap:=h',drawn:=d' }):wpAny (model prog w) A (binaryOp .BitOr (.ref a) (.ref b)) Q E s:=by
 refine wpAny_binaryOp_same G1.typ G2.typ ydL ycC (xAN ycC G1.typ ydB ?_ (zdZ _ _));rw[zh5];rw[show Builtin.Frozenset.slot1 "__or__" ⟨[.ref a,.ref b],[]⟩=pure (.ref a,.ref b) from rfl];refine xA0 (xA3 ?_);dsimp only;simp only[xBK,if_false];refine xA0 (xA0 (yhc G1.typ (yhc G2.typ ?_)));simp only[Bool.not_true,xBK,if_false];refine xA0 (xA3 ?_);refine xA0 (xA0 (yht G1 z1 λh' o es ep t k S hS m f hz=>?_));have hab:(Value.ref b != Value.ref a)=true:=by simpa using hn.symm
 rw[if_pos hab];refine xA0 (xA3 ?_);have G2':SetG w prog h' b S2 n2:=G2.at λo e=>k b o e
 have hlt:b<s.heap.objs.size:=by
  obtain⟨o,_,_,_,h1,_⟩:=G2;exact xAe h1
 refine xA0 (xB9 ?_);unfold Builtin.Frozenset.updateFrom;refine xA0 (yhc (s:={ s with heap:=h' }) G2'.typ ?_);rw[if_pos rfl];refine xA0 (xA3 ?_);refine zgj (s:={ s with heap:=h' }) S hS m f (by lia) G2' z2 (xBy hlt) (c1.congr (λ_=>rfl) hz.symm) c2 λh2 d2 n' b2 G' C' hn'=>?_
 dsimp only at b2;refine xA3 ?_;show wpAny _ _ (ret _) _ _ _;refine xA3 ⟨_,rfl,(λe=>nomatch e),hQ h2 d2 n' (λc x e=>?_) G' C' hn'⟩;rw[b2.2 c (xAq (xAe e))];exact k c x e
end
end L2
end
section
namespace L2
open PySem PySem.Spec PySem.W PySem.Calls PyProof.Rows
section
variable {X:Cx}
theorem zgA(hc:X.calm=true)(hg2:Gl X "set")(hm2:X.mg "set"=none)(he:PE X e te)(hs:starEach [e] X.env=[(false,eval e X.env)]){R:List Int->Hp->Prop}
  (I:Inv X pins σ H s) (h:te σ H λx H1=>Ex2 λ(a:Addr) (ns:List Int)=>x = .ref a/\SqT X.K H1 a (ns.map V.int)/\ns.length<=64/\R ns H1)
  (hQ:∀s2 H1 a1 o1 ns n,Inv X pins σ H1 s2->s2.heap.get? a1=some o1->SetG X.w X.prog s2.heap a1 (λk=>ns.any (·==k)) n->Cnt (λk=>ns.any (·==k)) n->n<=64->(H1 a1=none/\a1≠X.env.locals/\a1∉X.fs/\∀v,o1.data≠.cell v)->(∀p∈pins,p.1≠a1)->R ns H1->Q (.ref a1) s2) :
  wpAny (model X.prog X.w) X.A (eval (.Call (.Name "set" p2) [e] [] pos2) X.env) Q X.xe s:=by
 refine wpAny_Call_Name_kw (ybh I hg2 hm2 ycj ?_ (by decide) (by decide));refine xBc ?_ hs rfl;rw[hs];show wpAny _ _ (spliced ((false,eval e X.env)::[])) _ _ s;refine Calls.spliced_cons (thn (he pins s σ H _ I h) λu s1 hq=>?_);obtain⟨x,H1,I1,r1,a,ns,ex,ha,hl,hR⟩:=hq;subst ex;cases r1;refine Calls.spliced_nil ?_;obtain⟨its,r2,p2',z2⟩:=I1.tuple ha;have hlen:=r2.length;rw[xA1]at hlen;have hh:=I1.ok.hd hc;refine zee hh p2' (by simpa using zbT r2) (by rw[xA8];unfold scanBound;lia) λh2 tk2 hS hk=>?_
 have I2:Inv X pins σ H1 { s1 with heap:=h2,toks:=tk2 }:=I1.more hk;have hsz:its.toArray.size=ns.length:=by rw[xA8,hlen]
 rw[hsz]at hS;have hfm:=zaJ (λi=>ns.getD i 0) ns.length;have hfl:(firstMet (λi=>ns.getD i 0) ns.length).length<=ns.length:=zbN hfm λk hk=>(zaC ns k).mp hk
 obtain⟨o,es,ep,t,ho,hex,hd,hr⟩:=id hS;have hge:∀p∈pins,p.1≠s1.heap.objs.size:=λp hp=>xAq (xAe (I1.pin p (xAg _ hp)).1)
 have c:∀(l:List Int) k,l.any (·==k)=true↔k∈l:=λl k=>by
  rw[List.any_eq_true];exact⟨λ⟨x,hx,q⟩=>by rw[<-xBC q];exact hx,λhk=>⟨k,hk,xBg _⟩⟩
 refine hQ _ H1 s1.heap.objs.size o ns _ I2 ho (hS.congr (λk=>?_) rfl) ⟨_,hfm,rfl,λk=>by rw[zaC,c]⟩ (xAz hfl hl) ⟨I1.hok.fresh (xA5 _),xBy I1.lt,I1.nofs (xA5 _),λv e=>by rw[hd]at e;cases e⟩ hge hR;rw[Bool.eq_iff_iff,c,c,zaC]
noncomputable def zg6(K:PySem.W.Frag)(t1 t2:TE):TE:=λσ H Q=>t1 σ H λx H1=>Ex2 λ(a:Addr) (ns:List Int)=>x = .ref a/\SqT K H1 a (ns.map V.int)/\ns.length<=64/\
 t2 σ H1 λy H2=>Ex2 λ(b:Addr) (ms:List Int)=>y = .ref b/\SqT K H2 b (ms.map V.int)/\ms.length<=64/\
 ∀(l:Addr) (ns':List Int),H2 l=none->ns'.Pairwise (· < ·)->(∀k,k∈ns'↔k∈ns\/k∈ms)->Q (.ref l) (upd H2 l (.lst (ns'.map V.int)))
theorem yfy(hc:X.calm=true)(hg1:Gl X "sorted")(hm1:X.mg "sorted"=none)(hg2:Gl X "set")(hm2:X.mg "set"=none)(he1:PE X e1 t1)(he2:PE X e2 t2)
  (hs1:starEach [e1] X.env=[(false,eval e1 X.env)]:=by rfl) (hs2:starEach [e2] X.env=[(false,eval e2 X.env)]:=by rfl)
  (hs:starEach [.BinOp (.Call (.Name "set" p2) [e1] [] pos2) .BitOr (.Call (.Name "set" p3) [e2] [] pos3) pos4] X.env=[(false,eval (.BinOp (.Call (.Name "set" p2) [e1] [] pos2) .BitOr (.Call (.Name "set" p3) [e2] [] pos3) pos4) X.env)]:=by rfl) :
  PE X (.Call (.Name "sorted" p1) [.BinOp (.Call (.Name "set" p2) [e1] [] pos2) .BitOr (.Call (.Name "set" p3) [e2] [] pos3) pos4] [] pos) (zg6 X.K t1 t2):=by
 intro pins s σ H Q I h;refine wpAny_Call_Name_kw (ybh I hg1 hm1 zap ?_ (by decide) (by decide));refine PyProof.Rows.callWith_builtin1 ?_ hs rfl;rw[hs];show wpAny _ _ (spliced ((false,eval (.BinOp (.Call (.Name "set" p2) [e1] [] pos2) .BitOr (.Call (.Name "set" p3) [e2] [] pos3) pos4) X.env)::[])) _ _ s;refine Calls.spliced_cons (wpAny_BinOp ?_);refine zgA hc hg2 hm2 he1 hs1 (R:=λns H1=>t2 σ H1 λy H2=>Ex2 λ(b:Addr) (ms:List Int)=>y = .ref b/\SqT X.K H2 b (ms.map V.int)/\ms.length<=64/\∀(l:Addr) (ns':List Int),H2 l=none->ns'.Pairwise (· < ·)->(∀k,k∈ns'↔k∈ns\/k∈ms)->Q (.ref l) (upd H2 l (.lst (ns'.map V.int)))) I h λs2 H1 a1 o1 ns n1 I1 g1 G1 c1 z1 f1 _ q1=>?_
 have J1:Inv X ((a1,o1)::pins) σ H1 s2:=I1.pins_of λp hp=>by
  rcases xAa.mp hp with rfl|hp
  ·exact⟨g1,f1⟩
  ·exact I1.pin p (xAg _ hp)
 refine zgA hc hg2 hm2 he2 hs2 (R:=λms H2=>∀(l:Addr) (ns':List Int),H2 l=none->ns'.Pairwise (· < ·)->(∀k,k∈ns'↔k∈ns\/k∈ms)->Q (.ref l) (upd H2 l (.lst (ns'.map V.int)))) J1 q1 λs3 H2 a2 o2 ms n2 J2 g2 G2 c2 z2 f2 d2 q2=>?_
 have I2:Inv X pins σ H2 s3:=J2.pins_of λp hp=>J2.pin p (xAg _ (xAb _ hp))
 have g1':=(J2.pin (a1,o1) (xAg _ xA7)).1;have G1':SetG X.w X.prog s3.heap a1 (λk=>ns.any (·==k)) n1:=G1.at λo e=>by rw[g1]at e;cases e;exact g1'
 refine or_G G1' G2 z1 z2 (d2 (a1,o1) xA7) c1 c2 λh4 d4 n4 k4 G4 C4 z4=>?_
 refine Calls.spliced_nil ?_;have I4:Inv X pins σ H2 { s3 with heap:=h4,drawn:=d4 }:=(I2.more (tk:=s3.toks) k4).redraw rfl rfl rfl;have hh:=I4.ok.hd hc;have hz:=sizeLine_eq;refine zea (s:={ s3 with heap:=h4,drawn:=d4 }) hh G4 (by lia) λh5 d5 tk5 L ns' out e5 b1 b2 b3 b4 b5 b6 b7=>?_
 obtain⟨l,l1,l2,l3⟩:=C4;have hmem:∀k,k∈ns'↔k∈l:=λk=>(b3 k).trans (l3 k).symm
 have hnd:ns'.Nodup:=(ybZ l1 (λk hk=>(hmem k).mpr hk) (by rw[b2,l2];exact xA5 _)).nodup_iff.mp l1;have hlt:ns'.Pairwise (· < ·):=by
  refine List.Pairwise.imp₂ (λa b h1 h2=>?_) b4 hnd
  lia
 have r3:Vals (ns'.map V.int) out.toList:=ya1 b1;have I5:Inv X pins σ (upd H2 L (.lst (ns'.map V.int))) { s3 with heap:=h5,drawn:=d4,toks:=tk5 }:=I4.laid (a:=L) (t':=tk5) (o:=.lst (ns'.map V.int)) b5 b6 ⟨?_,out.toList,e5,r3,?_⟩
 ·refine⟨.ref L,_,I5.redraw rfl rfl rfl,rfl,q2 L ns' (I4.hok.fresh b6) hlt λk=>?_⟩;have c:∀(l:List Int) k,l.any (·==k)=true↔k∈l:=λl k=>by
   rw[List.any_eq_true];exact⟨λ⟨x,hx,q⟩=>by rw[<-xBC q];exact hx,λhk=>⟨k,hk,xBg _⟩⟩
  rw[b3,xBR,c,c]
 ·rw[xA1,b2]
  lia
 ·rw[b7]
end
end L2
end
section
namespace L2
open PySem PySem.Spec PyProof.Rows
section
variable {X:Cx}
noncomputable def zh1(K:PySem.W.Frag):R2:=λx y H Q=>Ex5 λ(a b:Addr) (n:Nat) (xs ys:List V)=>x = .ref a/\y = .ref b/\n<=60/\SqL K H a xs/\SqL K H b ys/\xs.length=ys.length/\(∀(i:Nat) x y,xs[i]?=some x->ys[i]?=some y->Eqv K H n x y)/\Q (.bl false) H
theorem zg1(hu:X.A.units+64<cLine):OpR X (compareOp .NotEq) (zh1 X.K):=by
 intro pins s σ H x y v u Q I rx ry h;obtain⟨a,b,n,xs,ys,rfl,rfl,hn,ha,hb,hl,hx,q⟩:=h;cases rx;cases ry;obtain⟨us,r1,p1,z1⟩:=I.list ha;obtain⟨vs,r2,p2,z2⟩:=I.list hb;have l1:=r1.length;have l2:=r2.length;refine SeqAt.RcNeAt.lists (e:=λ_=>true) p1.isList p2.isList (by rw[xA8,xA8];lia) (by lia) (λj h1 h2=>?_) _ _ _ _ ?_
 ·obtain⟨x1,e1,q1⟩:=yaG r1 h1;obtain⟨y1,e2,q2⟩:=yaG r2 h2;exact zdG I n X.A.in1 x1 y1 _ _ (by show X.A.units+1+n<cLine;lia) (hx j x1 y1 e1 e2) q1 q2
 have e2:((List.range us.toArray.size).all (λ_=>true))=true:=by simp
 rw[e2];exact⟨.bl _,H,I,rfl,q⟩
end
end L2
namespace L2
open PySem PySem.Spec PyProof.Rows
end L2
end
section
namespace L2
open PySem PySem.Spec PySem.W PySem.Calls PyProof.Rows
section
variable {X:Cx}
theorem zch(I:Inv X pins σ H s){xs:List Int}(h1:SqT X.K H a (xs.map V.int)):yaO X.K H (.ref a)=xs:=by
 have h:∃ys:List Int,SqT X.K H a (ys.map V.int):=⟨_,h1⟩
 unfold yaO;dsimp only;rw[dif_pos h];exact ych (I.tuple_inj h.choose_spec h1)
theorem yg3(I:Inv X pins σ H s)(hu:A.units<cLine){xs ys:List Int}(h1:SqT X.K H a (xs.map V.int))(h2:SqT X.K H b (ys.map V.int)):SeqAt.EqAt A s (.ref a) (.ref b) (decide (xs=ys)):=by
 by_cases c:a=b
 ·subst c;rw[ych (I.tuple_inj h1 h2),xAD rfl];exact SeqAt.EqAt.same _
 ·obtain⟨us,r1,p1,z1⟩:=I.tuple h1;obtain⟨vs,r2,p2,z2⟩:=I.tuple h2;have l1:=r1.length;have l2:=r2.length;rw[xA1]at l1 l2;have e:=SeqAt.RcAt.tuples (A:=A) (e:=λj=>xs.getD j 0==ys.getD j 0) p1 p2 hu (zfn r1 r2);rw[xA8,xA8,<-l1,<-l2,ze9]at e;exact SeqAt.EqAt.of_refs c e
noncomputable def rInT(K:PySem.W.Frag):R2:=λx y H Q=>Ex4 λ(d l:Addr) (zs:List Int) (L:List (Addr×List Int))=>x = .ref d/\y = .ref l/\SqT K H d (zs.map V.int)/\SqL K H l (L.map λp=>V.ref p.1)/\(∀p∈L,SqT K H p.1 (p.2.map V.int))/\Q (.bl (decide (zs∈L.map (·.2)))) H
theorem zhu(hu:X.A.units+64<cLine):OpR X (compareOp .In) (rInT X.K):=by
 intro pins s σ H x y v u Q I rx ry h;obtain⟨d,l,zs,L,rfl,rfl,hd,hl,hL,q⟩:=h;cases rx;cases ry;have hl':SqL X.K H l ((L.map (·.1)).map V.ref):=by rw[xAH];exact hl
 obtain⟨its,r,pl,hz⟩:=I.list hl';have e:=zg5 r;subst e;refine SeqAt.in_listAt (λv=>decide (yaO X.K H v=zs)) pl.isList (λw hw=>?_) ⟨.bl _,H,I,rfl,?_⟩
 ·have hw:w∈(L.map (·.1)).map Value.ref:=by simpa using hw
  rw[xAH]at hw;obtain⟨p,hp,rfl⟩:=xA9.mp hw;show SeqAt.EqAt _ _ (.ref p.1) _ (decide (yaO X.K H (.ref p.1)=zs));rw[zch I (hL p hp)];exact yg3 I (by show X.A.units+1<cLine;lia) (hL p hp) hd
 ·have e:((L.map (·.1)).map Value.ref).toArray.any (λv=>decide (yaO X.K H v=zs))=decide (zs∈L.map (·.2)):=by
   rw[List.any_toArray,xAH,List.any_map,Bool.eq_iff_iff,List.any_eq_true,xBk,xA9];constructor
   ·rintro⟨p,hp,h⟩;have h:yaO X.K H (.ref p.1)=zs:=xAn h;rw[zch I (hL p hp)]at h;exact⟨p,hp,h⟩
   ·rintro⟨p,hp,h⟩;refine⟨p,hp,xAD ?_⟩;show yaO X.K H (.ref p.1)=zs;rw[zch I (hL p hp)];exact h
  rw[e];exact q
noncomputable def yic(K:PySem.W.Frag):R2:=λx y H Q=>Ex5 λ(a b:Addr) (n:Nat) (xs ys:List V)=>x = .ref a/\y = .ref b/\n<=60/\SqL K H a xs/\SqL K H b ys/\xs.length=ys.length/\(∀(i:Nat) x y,xs[i]?=some x->ys[i]?=some y->Eqv K H n x y)/\Q (.bl true) H
theorem yhn(hu:X.A.units+64<cLine):OpR X (compareOp .Eq) (yic X.K):=by
 intro pins s σ H x y v u Q I rx ry h;obtain⟨a,b,n,xs,ys,rfl,rfl,hn,ha,hb,hl,hx,q⟩:=h;cases rx;cases ry;obtain⟨us,r1,p1,z1⟩:=I.list ha;obtain⟨vs,r2,p2,z2⟩:=I.list hb;have l1:=r1.length;have l2:=r2.length;refine SeqAt.RcAt.lists (e:=λ_=>true) p1.isList p2.isList (by rw[xA8,xA8];lia) (by lia) (λj h1 h2=>?_) _ _ _ _ ?_
 ·obtain⟨x1,e1,q1⟩:=yaG r1 h1;obtain⟨y1,e2,q2⟩:=yaG r2 h2;exact zdG I n X.A.in1 x1 y1 _ _ (by show X.A.units+1+n<cLine;lia) (hx j x1 y1 e1 e2) q1 q2
 have e2:((List.range us.toArray.size).all (λ_=>true))=true:=by simp
 rw[e2];exact⟨.bl _,H,I,rfl,q⟩
end
end L2
end
section
namespace L2
open PySem PySem.Spec PySem.W PySem.Calls PyProof.Rows
structure zca(h:Heap)(d:Addr)(es:Array DictEntry)(ep:Nat):Prop where
 ex:∃o:Obj,h.get? d=some o/\o.ExactDict/\o.data = .dict es ep
section
variable {prog:Program} {w:World} {A:Around} {E:Value->Shared->Prop} {s:Shared}
theorem zca.typ{es:Array DictEntry}{ep:Nat}(D:zca s.heap d es ep):s.TypeIs (.ref d) "dict":=by
 obtain⟨o,h1,h2,_⟩:=D.ex;exact⟨o,h1,h2.1⟩
theorem zca.at'{es:Array DictEntry}{ep:Nat}(D:zca h d es ep)(e:∀o,h.get? d=some o->h'.get? d=some o):zca h' d es ep:=by
 obtain⟨o,h1,r⟩:=D.ex;exact⟨o,e o h1,r⟩
theorem yhR{es:Array DictEntry}{ep:Nat}(hd:(d==sysModules)=false)(D:zca s.heap d es ep)
  (hQ:∀h',(∀b o,s.heap.get? b=some o->h'.get? b=some o)->h'.IsKeyIter s.heap.objs.size d 0 es.size ep->Q (.ref s.heap.objs.size) { s with heap:=h' }):wpAny (model prog w) A (pyIter (.ref d)) Q E s:=by
 have hT:=D.typ;obtain⟨o,ho,hc,hdat⟩:=D.ex;refine wpAny_pyIter_slot hT F.slot_dict_iter (xAN F.slot_dict_iter hT F.entry_dict_iter ?_ (F.args_dict_iter_1 _));unfold Builtin.«dict.__iter__» Builtin.Dict.dictSlotNone;refine xA0 (xA0 (wpAny_notOrdered_dict hT ?_));refine xA3 ?_;show wpAny _ _ (Builtin.Dict.showsAll d >>= _) _ _ s;unfold Builtin.Dict.showsAll;rw[if_neg (by rw[hd];exact xAm)];refine xA0 (xA3 (xA0 (wpAny_dictEntries ho hdat (xA0 (wpAny_dictEpoch ho hdat ?_)))));refine xA0 (xAG (xA3 ⟨_,rfl,"dict_keyiterator",_,⟨_,xA6 _ rfl,rfl⟩,F.slot_dict_keyiterator_next.lookup,?_⟩));exact hQ _ (λb x e=>xA2 _ e) ⟨_,xA6 _ rfl,rfl,rfl⟩
theorem yhT{i ep:Nat}{es:Array DictEntry}(hit:s.heap.IsKeyIter it d i es.size ep)(D:zca s.heap d es ep)(hi:i<es.size)
  (hQ:∀h',h'.IsKeyIter it d (i+1) es.size ep->Heap.SameBut it s.heap h'->Q (some es[i].key) { s with heap:=h' }):wpAny (model prog w) A (pyNext (.ref it)) Q E s:=by
 obtain⟨o,ho,hc,hd⟩:=id hit;obtain⟨od,hod,_,hdd⟩:=D.ex;have hown:Builtin.Dict_items.ownsTuple "dict_keyiterator"=false:=by decide
 unfold pyNext;refine xA0 (wpAny_attempt (xAW (name:=Str.ofString "__next__") hit.typeIs F.slot_dict_keyiterator_next
  (xAN F.slot_dict_keyiterator_next hit.typeIs F.entry_dict_keyiterator_next ?_ (F.args_dict_keyiterator_next_1 _))))
 refine xA0 (xA3 (xA0 (xA0 ?_)))
 first | refine xA0 (wpAny_typeNameOfWhole_keyiter (hit.typeIs) (xA3 ?_)) | refine xA0 (wpAny_typeNameOf_keyiter (hit.typeIs) (xA3 ?_))
 refine xA0 (wpAny_fieldsOf ho hd ?_);simp only[hown,xBK,if_false];show wpAny _ _ (if (Value.ref d==Value.none)=true then _ else _) _ _ s;rw[if_neg (show ¬ ((Value.ref d==Value.none)=true) from xAm)];refine xA0 (xA3 (xA0 (wpAny_dictEntries hod hdd ?_)));rw[if_neg (by simp)];refine xA0 (xA3 (xA0 (wpAny_dictEpoch hod hdd ?_)));rw[if_neg (by simp)];refine xA3 ?_;simp only[show ¬ ((i:Int)<0) from by lia,if_false,xAu,xAK hi];refine xA0 ?_
 first | refine xA0 (wpAny_typeNameOfWhole_keyiter (hit.typeIs) (xA3 ?_)) | refine xA0 (wpAny_typeNameOf_keyiter (hit.typeIs) (xA3 ?_))
 refine xA0 (wpAny_isOneOf_keyiter hit.typeIs ?_);show wpAny _ _ (setField (.ref it) 1 (rawInt ((i:Int)+1)) >>= _) _ _ s;refine xA0 (wpAny_setField ho hd (by simp) ?_);have hit':(s.heap.update it (Obj.mapFields (·.setIfInBounds 1 (rawInt ((i:Int)+1))))).IsKeyIter it d (i+1) es.size ep :=
  ⟨_,xB6 _ ho (Obj.isFreed_of_fields (xB4 hd _)),(Obj.cls_mapFields ..).trans hc,by rw[xB4 hd];simp[rawInt]⟩
 refine xA0 (xB9 ?_);refine xA0 (wpAny_isOneOf_keyiter (s:={ s with heap:=s.heap.update it (Obj.mapFields (·.setIfInBounds 1 (rawInt ((i:Int)+1)))) }) hit'.typeIs ?_);show wpAny _ _ (pure es[i].key) _ _ _;exact xA3 (xA3 ⟨_,rfl,xA3 (hQ _ hit' (xAZ ..))⟩)
theorem zid{ep:Nat}{es:Array DictEntry}(hh:A.handled=none)(hit:s.heap.IsKeyIter it d es.size es.size ep)(D:zca s.heap d es ep)
  (hQ:∀h',Heap.ExtBut it s.heap h'->Q none { s with heap:=h' }):wpAny (model prog w) A (pyNext (.ref it)) Q E s:=by
 obtain⟨o,ho,hc,hd⟩:=id hit;obtain⟨od,hod,_,hdd⟩:=D.ex;have hown:Builtin.Dict_items.ownsTuple "dict_keyiterator"=false:=by decide
 unfold pyNext;refine xA0 (wpAny_attempt (xAW (name:=Str.ofString "__next__") hit.typeIs F.slot_dict_keyiterator_next
  (xAN F.slot_dict_keyiterator_next hit.typeIs F.entry_dict_keyiterator_next ?_ (F.args_dict_keyiterator_next_1 _))))
 refine xA0 (xA3 (xA0 (xA0 ?_)))
 first | refine xA0 (wpAny_typeNameOfWhole_keyiter (hit.typeIs) (xA3 ?_)) | refine xA0 (wpAny_typeNameOf_keyiter (hit.typeIs) (xA3 ?_))
 refine xA0 (wpAny_fieldsOf ho hd ?_);simp only[hown,xBK,if_false];show wpAny _ _ (if (Value.ref d==Value.none)=true then _ else _) _ _ s;rw[if_neg (show ¬ ((Value.ref d==Value.none)=true) from xAm)];refine xA0 (xA3 (xA0 (wpAny_dictEntries hod hdd ?_)));rw[if_neg (by simp)];refine xA0 (xA3 (xA0 (wpAny_dictEpoch hod hdd ?_)));rw[if_neg (by simp)];refine xA3 ?_;simp only[show ¬ (((es.size:Nat):Int)<0) from by lia,if_false,xAu,Array.getElem?_eq_none (xA5 es.size)];refine xA0 ?_
 first | refine xA0 (wpAny_typeNameOfWhole_keyiter (hit.typeIs) (xA3 ?_)) | refine xA0 (wpAny_typeNameOf_keyiter (hit.typeIs) (xA3 ?_))
 show wpAny _ _ (setField (.ref it) 0 .none >>= _) _ _ s;refine xA0 (wpAny_setField ho hd (by simp) ?_);show wpAny _ _ (newExc (.type "StopIteration") [] >>= _) _ _ _;refine xA0 ?_;simp only[newExc,newTuple];refine xA0 (xAG ?_ (by size_fits));refine xA0 (m:=firstArgMember _ _) (wpAny_of_eq (a:=Value.none) (by first|rfl|(simp only[firstArgMember];rfl)) ?_);refine xAG ?_ (by size_fits);simp only[raiseNew];refine xA0 (wpAny_handled ?_);rw[show A.in1.handled=none from hh];refine xA0 (xA3 (wpAny_throw ?_));refine xA0 (wpAny_isInstance (T:="StopIteration") (b:=true) ⟨_,xA6 _ rfl,rfl⟩ isSubtype_stop ?_);exact xA3 (hQ _ (((xAZ ..).extBut.push _).push _))
theorem ygP(hh:A.handled=none)(I d:Addr)(hne:d≠I)(es:Array DictEntry)(ep:Nat):Walks prog w A I [I,d] [I] es.size (λi v=>(es[i]?).map (·.key)=some v) (λi h=>h.IsKeyIter I d i es.size ep/\zca h d es ep) where
 sub:=λb hb=>by simp at hb;simp[hb]
 frame:=λ_ _ _ st hk=>⟨st.1.at λo e=>hk I (by simp) o e,st.2.at' λo e=>hk d (by simp) o e⟩
 item:=λi s Q E hi st hQ=>yhT st.1 st.2 hi λh' hit' hs'=>
  hQ _ h' s.toks (by rw[xAK hi];rfl) ⟨hit',st.2.at' λo e=>by rw[hs'.2 d hne];exact e⟩ λb o hb e=>hs'.extBut b o (λh=>hb (by simp[h])) e
 done:=λs Q E st hQ=>zid hh st.1 st.2 λh' he'=>hQ h' s.toks λb o hb e=>he' b o (λh=>hb (by simp[h])) e
 self:=λ_ _ _ _ st hQ=>wpAny_pyIter_keyiter st.1 hQ
end
end L2
end
section
namespace L2
open PySem PySem.Spec PySem.W PySem.Calls PyProof.Rows
theorem yc0:typeLookup (.type "dict") "__len__"=pure (some (.builtin "dict.__len__")):=by rw[typeLookup_type,xBG];kernel_rfl
section
variable {prog:Program} {w:World} {A:Around} {E:Value->Shared->Prop} {s:Shared}
theorem zdM{es:Array DictEntry}{ep:Nat}(hh:A.handled=none)(hd:(S==sysModules)=false)(D:zca s.heap S es ep)(hz:es.size<=sizeLine)
  (hQ:∀s',Left s s'->Q (es.toList.map (·.key)) s'):wpAny (model prog w) A (collect (.ref S)) Q E s:=by
 obtain⟨o,ho,hc,hdt⟩:=id D.ex;have hSlt:=xAe ho;unfold collect;refine xA0 (wpAny_runValue (xBb F.entry_proto_collect ?_));rw[xBa F.plain_proto_collect _];show wpAny _ A.in1 (newList [] >>= λl=>again (.builtin "list.__iadd__" ⟨[l,.ref S],[]⟩)) _ _ s;refine xA0 (xAG ?_);refine xA3 ⟨plainId_quiet F.plain_list_iadd _,xBb F.entry_list_iadd ?_⟩;rw[xBa F.plain_list_iadd _];have kp:∀b x,s.heap.get? b=some x->(s.heap.push { cls:=.type "list",data:=.seq ([]:List Value).toArray }).get? b=some x:=λb x e=>xA2 _ e
 have D1:zca (s.heap.push { cls:=.type "list",data:=.seq ([]:List Value).toArray }) S es ep:=D.at' λx e=>kp _ _ e
 have hS1:(s.heap.push { cls:=.type "list",data:=.seq ([]:List Value).toArray }).get? s.heap.objs.size=some { cls:=.type "list",data:=.seq ([]:List Value).toArray }:=xA6 _ rfl;have hz1:(s.heap.push { cls:=.type "list",data:=.seq ([]:List Value).toArray }).objs.size=s.heap.objs.size+1:=xAX _ _;have h1:Builtin.List.listSameRef (.ref s.heap.objs.size) (.ref S)=false:=by simp[Builtin.List.listSameRef];exact xBy hSlt
 show wpAny _ A.in1 (Builtin.List.listExtendWith (.ref s.heap.objs.size) (.ref S) (.ref s.heap.objs.size)) _ _ _;generalize s.heap.push { cls:=.type "list",data:=.seq ([]:List Value).toArray }=g1 at *;unfold Builtin.List.listExtendWith;refine xA0 (wpAny_typeOf (T:="dict") ⟨o,kp _ _ ho,hc.1⟩ ?_);rw[if_neg (by rw[h1];decide)];refine xA0 (yhR (s:={ s with heap:=g1 }) hd D1 λg2 k2 it2=>?_);dsimp only at it2 k2;rw[hz1]at it2;dsimp only;rw[hz1];have D2:=D1.at' λx e=>k2 _ _ e
 have hT2:({ s with heap:=g2 }:Shared).TypeIs (.ref S) "dict":=zca.typ (s:={ s with heap:=g2 }) D2;refine xA0 (xB9 ?_);unfold Builtin.List.listLengthHint;refine xA0 (wpAny_specialOf (T:="dict") hT2 yc0 ?_)
 (generalize hid:("dict.__len__":String)=id0;(fail_if_success (clear hid id0));wp_delta;rw[show splitId id0=some ("dict","__len__") from by subst hid;decide +kernel];subst hid)
 refine xA0 (wpAny_isInstance (T:="dict") (b:=true) hT2 (by rw[isSubtype_type];kernel_rfl) ?_);refine xAI (λh=>absurd h (by decide)) (λ_=>?_);refine xAI (λ_=>?_) (λh=>(h (by decide +kernel)).elim);refine xA0 (wpAny_typeOf (T:="dict") hT2 ?_);refine xA3 ?_;refine xAI (λ_=>?_) (λh=>(h (by decide +kernel)).elim);refine xA0 (xBA ?_);refine xA0 ?_;show wpAny _ A.in1 (updateSeq s.heap.objs.size (·.push .none) >>= λ_=>updateSeq s.heap.objs.size (·.pop)) _ _ _;have hS2:=k2 _ _ hS1;refine xA0 (wpAny_updateSeq hS2 rfl ?_);have hS3:=xB6 (Obj.mapSeq (·.push Value.none)) hS2 rfl;refine wpAny_updateSeq hS3 rfl ?_;have hS4:=xB6 (Obj.mapSeq (·.pop)) hS3 rfl;have hnI:S≠s.heap.objs.size+1:=xAq (xBl hSlt);have hSf:s.heap.objs.size∉[s.heap.objs.size+1,S]:=by
  simp only[xAa,xAf,xB2,not_or];exact⟨xAq (Nat.lt_succ_self _),xBy hSlt⟩
 have oth:∀b x,b≠s.heap.objs.size->g2.get? b=some x->((g2.update s.heap.objs.size (Obj.mapSeq (·.push Value.none))).update s.heap.objs.size (Obj.mapSeq (·.pop))).get? b=some x :=
  λb x hb e=>(xB8 _ _ (Ne.symm hb)).trans ((xB8 _ _ (Ne.symm hb)).trans e)
 have W:=(ygP (prog:=prog) (w:=w) (A:=A.in1) (by simp[hh]) (s.heap.objs.size+1) S hnI es ep).toS;refine xA3 ⟨plainId_quiet F.plain_extend_loop _,codeAny_extend_loopS W hz _ hSf _ es.size 0 _ _ _ rfl (xAR _) ?_ hS4 (ItemsOf.nil _) λs' acc' c' hm hS' hacc=>?_⟩
 ·exact⟨it2.at λx e=>oth _ _ (xBy (Nat.lt_succ_self _)) e,D2.at' λx e=>oth _ _ (xAq hSlt) e⟩
 show wpAny _ A (load s.heap.objs.size >>= _) _ _ s';refine xA0 (wpAny_load hS' ?_);refine xA3 ?_;have ev:acc'.toList=es.toList.map (·.key):=by
  refine List.ext_getElem? λi=>?_
  rw[xAV,xAd,xAV];cases q:acc'[i]? with
  |none=>rw[Array.getElem?_eq_none (by rw[<-hacc.1];exact Array.getElem?_eq_none_iff.mp q)];rfl
  |some v=>exact(hacc.2 i v q).symm
 rw[ev];refine hQ s' ⟨λb x e=>?_,hm.gens,hm.os,hm.toks,Nat.le_of_lt (xAe hS')⟩;have hb:=xAe e;refine hm.heap b x ?_ (oth b x (xAq hb) (k2 _ _ (kp _ _ e)));simp only[xAa,xAf,xB2,not_or];exact⟨xAq hb,xAq (xBl hb)⟩
end
end L2
end
section
namespace L2
open PySem PySem.Spec PySem.W PySem.Calls PyProof.Rows
section
variable {X:Cx}
def kI:Key->Int
 | .inl i=>i
 |_=>0
noncomputable def yhv(K:PySem.W.Frag):List V->Hp->VK->Prop:=λxs H Q=>Ex2 λ(a:Addr) (kvs:List (List Key×V))=>xs=[.ref a]/\H a=some (.dT kvs)/\(∀p∈kvs,∃zs:List Int,zs≠[]/\p.1=zs.map Sum.inl)/\
 ∀(l:Addr) (M:List (Addr×List Int)),H l=none->(M.map (·.2)).Perm (kvs.map λp=>p.1.map kI)->(∀p∈M,SqT K H p.1 (p.2.map V.int))->M.Pairwise (λp q=>lx q.2 p.2=false)->Q (.ref l) (upd H l (.lst (M.map λp=>V.ref p.1)))
theorem zdw(hc:X.calm=true)(hu:X.A.units+2<cLine):zbo X (.builtin "sorted") (yhv X.K):=by
 intro pins s σ H xs us Q I r h;obtain⟨a,kvs,rfl,ha,hE0,q⟩:=h;obtain⟨u,rfl,rx⟩:=ybG r;cases rx;have hh:=I.ok.hd hc;obtain⟨zk,ya,ks,kt,od,es,ep,g1,g2,g3,g4,_⟩:=yhx I.hok ha;obtain⟨L,hL1,hL2,hd,hE⟩:∃L:List (Addr×List Int),es.toList.map (·.key)=(L.map (·.1)).map Value.ref/\L.map (·.2)=kvs.map (λp=>p.1.map kI)/\(∀p∈L,SqT X.K H p.1 (p.2.map V.int))/\∀p∈L,p.2≠[]:=by
  refine⟨ks.map λx=>(x.2.1,x.1.map kI),?_,?_,?_⟩
  ·rw[g4,xAH,xAH,xAH];rfl
  ·rw[xAH];have:∀ {l:List (List Key×V)} {m:List (List Key×Addr×Value)},KT H l m->m.map (λx=>x.1.map kI)=l.map λp=>p.1.map kI:=by
    intro l m h
    induction h with
    |nil=>rfl
    |cons h t ih=>rw[xBm,xBm,ih,h.1]
   exact this kt
  ·have:∀ {l:List (List Key×V)} {m:List (List Key×Addr×Value)},KT H l m->(∀p∈l,∃zs:List Int,zs≠[]/\p.1=zs.map Sum.inl)->∀p∈m.map (λx=>(x.2.1,x.1.map kI)),SqT X.K H p.1 (p.2.map V.int)/\p.2≠[]:=by
    intro l m h
    induction h with
    |nil=>exactλ_ p hp=>nomatch hp
    |@cons x y ps qs h t ih=>
     intro hl p hp;rcases xAa.mp hp with rfl|hp
     ·obtain⟨zs,z0,ez⟩:=hl x xA7;have e1:y.1=zs.map Sum.inl:=h.1.symm.trans ez;have e2:(zs.map Sum.inl:List Key).map kI=zs:=by rw[xAH];exact List.map_id zs
      have e3:(zs.map Sum.inl:List Key).map kV=zs.map V.int:=by rw[xAH];rfl
      dsimp only;rw[e1,e2];have:=h.2.1;rw[ez,e3]at this;exact⟨SqT.of this,z0⟩
     ·exact ih (λp hp=>hl p (xAb _ hp)) p hp
   exact⟨λp hp=>(this kt hE0 p hp).1,λp hp=>(this kt hE0 p hp).2⟩
 have hz:es.size=kvs.length:=by
  have:=congrArg List.length hL1;rw[xA1,xA4,xA1,xA1]at this;rw[this,<-xA1 (f:=(·.2)),hL2,xA1]
 apply call_function_entry kind_sorted plain_sorted entry_sorted (args_sorted1 _);refine xA0 (m:=checkCount "sorted" 1 1 _) (xA3 (xA0 (zdM (by simp[hh]) ya ⟨od,g1,g2,g3⟩ (by rw[hz];exact zk) λs2 hl2=>?_)));rw[hL1];have I2:Inv X pins σ H s2:=(I.more (tk:=s2.toks) hl2.heap).redraw rfl hl2.gens hl2.os;have z1:L.length<=sizeLine:=by
  rw[<-xA1 (f:=(·.2)),hL2,xA1];exact zk
 have hdat:∀p∈L,yaO X.K H (.ref p.1)=p.2:=λp hp=>zch I2 (hd p hp)
 have tup:∀(h':Heap),yaP s2.heap h'->∀p∈L,TupI h' (.ref p.1) (yaO X.K H (.ref p.1)):=λh' k p hp=>by
  obtain⟨us,rv,⟨o,e,c,n,dt⟩,_⟩:=I2.tuple (hd p hp);rw[hdat p hp];exact⟨p.1,o,us,n,rfl,k _ _ e,c,dt,zbU rv⟩
 have hO:Ordr λx y:Keyed=>lx (yaO X.K H x.1) (yaO X.K H y.1):=⟨zdU,zdq⟩
 refine xA0 (wpAny_newList ?_ (by rw[xA1,xA1];exact z1));have hoL:(s2.heap.push (seqObj "list" ((L.map (·.1)).map Value.ref).toArray 0)).get? s2.heap.objs.size=some (seqObj "list" ((L.map (·.1)).map Value.ref).toArray 0):=xA6 _ rfl;refine xA0 (xB9 (xAN slot_list_sort ⟨_,hoL,rfl⟩ entry_list_sort ?_ (args_list_sort _)));refine ybf hO (s:={ s2 with heap:=s2.heap.push (seqObj "list" ((L.map (·.1)).map Value.ref).toArray 0) }) (h₀:=s2.heap) hoL (by rw[xA1,xA1];exact z1) (yaP.push _ _) (Heap.get?_none_of_le (xA5 _)) (λh' k h2=>?_) λes' h' c k e p hs=>⟨_,rfl,xA3 ⟨_,rfl,?_⟩⟩
 ·have hg:∀v∈(L.map (·.1)).map Value.ref,∃p∈L,v = .ref p.1:=λv hv=>by
   obtain⟨b,hb,rfl⟩:=xA9.mp hv;obtain⟨p,hp,rfl⟩:=xA9.mp hb;exact⟨p,hp,rfl⟩
  have hK:∀l:List (Addr×List Int),(∀p∈l,p∈L)->∃fs:List Value,KatTups h' ((l.map (·.1)).map Value.ref) fs/\fs.length=l.length/\∀v∈fs,IntV v:=by
   intro l
   induction l with
   |nil=>exactλ_=>⟨[],trivial,rfl,λv hv=>by cases hv⟩
   |cons p l ih=>
    intro hl;obtain⟨fs,k1,k2,k3⟩:=ih λx hx=>hl x (xAb _ hx)
    have hp:=hl p (xA7 ..);obtain⟨us,rv,⟨o,e,c,n,dt⟩,_⟩:=I2.tuple (hd p hp);have hne:=hE p hp;obtain⟨x,y⟩:=p;rcases y with _ |⟨y0,y⟩
    ·exact absurd rfl hne
    ·rcases us with _ |⟨f,us⟩
     ·cases rv
     ·have hf:=zbU rv;exact⟨f::fs,KatTups.cons (k _ _ e) c dt (by simp) k1,by simp[k2],λv hv'=>by
       rcases xAa.mp hv' with rfl|hv'
       ·exact hf.1.elim λt e=>⟨y0,t,e⟩
       ·exact k3 v hv'⟩
  obtain⟨fs,k1,k2,k3⟩:=hK L λ_ h=>h
  rw[xA1,xA1]at h2;refine kat_kind (T:=.type "int") k1 (by lia) (λv hv=>?_) rfl ⟨rfl,λx=>∃p∈L,x.1 = .ref p.1,λv hv=>hg v hv,?_⟩
  ·obtain⟨i,t,rfl⟩:=k3 v hv;exact Looks.of_pure rfl
  ·rintro⟨x,x'⟩ ⟨y,y'⟩ C ⟨d1,m1,e1⟩ ⟨d2,m2,e2⟩ hC;dsimp only at e1 e2 hC;subst e1 e2;obtain⟨_,o1,us1,n1,f1,e1,c1,q1,v1⟩:=tup h' k d1 m1;obtain⟨_,o2,us2,n2,f2,e2,c2,q2,v2⟩:=tup h' k d2 m2;injection f1 with f1;injection f2 with f2;rw[<-f1]at e1;rw[<-f2]at e2;refine kat_lt e1 q1 e2 q2 (zd4 _ _ _ _ _ v1 v2 ?_ hC);have l1:=yaF v1;have l2:=yaF v2;simp only[xA8,l1,l2]
 ·obtain⟨m,rfl,pm⟩:=ybu p rfl;have eL:(L.map (·.1)).map (λb=>(b,yaO X.K H (.ref b)))=L:=by
   rw[xAH]
   conv=>rhs;rw[<-List.map_id L]
   exact xAL λp hp=>by show(p.1,yaO X.K H (.ref p.1))=p;rw[hdat p hp]
  have pL:(m.map λb=>(b,yaO X.K H (.ref b))).Perm L:=by
   have:=pm.map λb=>(b,yaO X.K H (.ref b))
   rwa [eL]at this
  refine⟨.ref s2.heap.objs.size,_,I2.laid (t':=s2.toks) (o:=.lst (m.map V.ref)) k (xA5 _) ⟨?_,m.map Value.ref,c,zgI,e⟩,rfl,?_⟩
  ·rw[xA1,pm.length_eq,xA1];exact z1
  ·have:=q s2.heap.objs.size (m.map λb=>(b,yaO X.K H (.ref b))) (I2.hok.fresh (xA5 _)) ((pL.map (·.2)).trans (by rw[hL2])) (λp hp=>hd p (pL.mem_iff.mp hp)) (by
    rw[xAJ];unfold SrtL at hs;rw[xAH,xAJ]at hs;exact hs)
   rw[xAH]at this;exact this
end
end L2
end
section
namespace My
open PySem L2 Dg
def top(i:Nat):Stmt:=PySem.Challenge.pw_roundwords_k48_meets_and_joins.main.body.getD i (.Pass ⟨0,0,0,0⟩)
abbrev ybq:Stmt:=top 1
abbrev yff:Stmt:=top 3
abbrev zes:Stmt:=top 4
abbrev ybo:Stmt:=top 6
abbrev zbI:Stmt:=top 7
abbrev zbh:Stmt:=top 8
abbrev ybg:Stmt:=top 9
abbrev ybb:Stmt:=top 10
abbrev za5:Stmt:=top 11
abbrev yaL:Stmt:=top 12
abbrev za1:Stmt:=top 13
abbrev za3:Stmt:=top 14
abbrev ybL:Stmt:=top 15
abbrev zbv:Stmt:=top 16
abbrev ybv:Stmt:=top 17
abbrev ybi:Stmt:=top 18
abbrev zbp:Stmt:=top 19
abbrev zbJ:Stmt:=top 20
abbrev yar:Stmt:=top 21
abbrev yaJ:Stmt:=top 22
abbrev zbn:Stmt:=top 23
abbrev yaY:Stmt:=top 24
abbrev zaN:Stmt:=top 25
abbrev yaH:Stmt:=top 26
abbrev yaD:Stmt:=top 27
abbrev zav:Stmt:=top 28
abbrev yav:Stmt:=top 29
abbrev zc8:Stmt:=top 30
noncomputable def zhN:List Str:=["range","len","abs","min","max","all","any","isinstance","int","bool","tuple","list","zip","enumerate","repr","dict","reversed","sorted","sum","set","str"]
abbrev Bl(mg:Str->Option Value):Prop:=∀x∈zhN,mg x=none
inductive zcP (K:PySem.W.Frag) (vs:List V) (H:Hp) (Q:VK) (E:XK):Prop
 |mk (a:Addr) (ns:List Int) (c1:vs=[.ref a]) (c2:SqL K H a (ns.map V.int)) (c3:∀H',Q (.bl true) H'):zcP K vs H Q E
noncomputable def DI(K:PySem.W.Frag)(f:Addr)(x:Str)(st:Stmt):Prop:=∃fd:FuncData,Fun K x x st f fd/\PySem.W.nsIn K mainGlobals x=some (some (.ref f))
noncomputable def GG(K:PySem.W.Frag):Prop:=∀ {l:PySem.W.OpenLaw} {w:World} {h:Heap} {mg:Str->Option Value} {fa:Addr} (_:K.In h) (_:h.Ns mainGlobals mg) (_:mg "law"=some (.ref fa)) {f1:Addr} (q1:DI K f1 "with_marks" ybq) {f2:Addr} (q2:DI K f2 "meet" yff) {f3:Addr} (q3:DI K f3 "join" zes) {f4:Addr} (q4:DI K f4 "_law_purse" ybo) {f5:Addr} (q5:DI K f5 "_law_pick" zbI) {f6:Addr} (q6:DI K f6 "_law_raised" zbh) {f7:Addr} (q7:DI K f7 "_law_digits" ybg) {f8:Addr} (q8:DI K f8 "_law_number" ybb) {f9:Addr} (q9:DI K f9 "_law_product" za5) {f10:Addr} (q10:DI K f10 "_law_is_good" yaL) {f11:Addr} (q11:DI K f11 "_law_field" za1) {f12:Addr} (q12:DI K f12 "_law_table" za3) {f13:Addr} (q13:DI K f13 "_law_plus" ybL) {f14:Addr} (q14:DI K f14 "_law_times" zbv) {f15:Addr} (q15:DI K f15 "_law_minus" ybv) {f16:Addr} (q16:DI K f16 "_law_power" ybi) {f17:Addr} (q17:DI K f17 "_law_round" zbp) {f18:Addr} (q18:DI K f18 "_law_ring" zbJ) {f19:Addr} (q19:DI K f19 "_law_wheel" yar) {f20:Addr} (q20:DI K f20 "_law_letters" yaJ) {f21:Addr} (q21:DI K f21 "_law_maker" zbn) {f22:Addr} (q22:DI K f22 "_law_added" yaY) {f23:Addr} (q23:DI K f23 "_law_words" zaN) {f24:Addr} (q24:DI K f24 "_law_many_words" yaH) {f25:Addr} (q25:DI K f25 "_law_small_wheel" yaD) {f26:Addr} (q26:DI K f26 "_law_other_marks" zav) {f27:Addr} (q27:DI K f27 "_law_words_right" yav) {f28:Addr} (q28:DI K f28 "law" zc8) (z1:PySem.W.nsIn K mainGlobals "range"=some none) (z2:PySem.W.nsIn K mainGlobals "len"=some none) (z3:PySem.W.nsIn K mainGlobals "abs"=some none) (z4:PySem.W.nsIn K mainGlobals "min"=some none) (z5:PySem.W.nsIn K mainGlobals "max"=some none) (z6:PySem.W.nsIn K mainGlobals "all"=some none) (z7:PySem.W.nsIn K mainGlobals "any"=some none) (z8:PySem.W.nsIn K mainGlobals "isinstance"=some none) (z9:PySem.W.nsIn K mainGlobals "int"=some none) (z10:PySem.W.nsIn K mainGlobals "bool"=some none) (z11:PySem.W.nsIn K mainGlobals "tuple"=some none) (z12:PySem.W.nsIn K mainGlobals "list"=some none) (z13:PySem.W.nsIn K mainGlobals "zip"=some none) (z14:PySem.W.nsIn K mainGlobals "enumerate"=some none) (z15:PySem.W.nsIn K mainGlobals "repr"=some none) (z16:PySem.W.nsIn K mainGlobals "dict"=some none) (z17:PySem.W.nsIn K mainGlobals "reversed"=some none) (z18:PySem.W.nsIn K mainGlobals "sorted"=some none) (z19:PySem.W.nsIn K mainGlobals "sum"=some none) (z20:PySem.W.nsIn K mainGlobals "set"=some none) (z21:PySem.W.nsIn K mainGlobals "str"=some none),∃fd:FuncData,(∀(s:Shared) (v:Value),BindsTo s fd ⟨[v],[]⟩ [("_law_script",v)])/\∀base:Heap,K.In base->base.Ns mainGlobals mg->FnOk l.prog w K mg base CX0 7 fa fd ["_law_script"] (zcP K)
@[irreducible] noncomputable def K:PySem.W.Frag:=Classical.epsilon λK=>¬ GG K
theorem K_of(h:GG K):∀k:PySem.W.Frag,GG k:=by
 apply Classical.byContradiction;intro q;have ⟨k,hk⟩:=Classical.not_forall.mp q;have e:=Classical.epsilon_spec (p:=λK=>¬ GG K) ⟨k,hk⟩;unfold K at h;exact e h
def Fld(K:PySem.W.Frag)(H:Hp)(a:Addr)(p m t:Nat):Prop:=SqT K H a [.int p,.int m,.int t]
theorem Same.tup{K:PySem.W.Frag}(e:Same H H')(h:SqT K H a xs):SqT K H' a xs:=by
 rcases h with(h |⟨o,h⟩)|h
 ·exact .inl (.inl (e _ _ h))
 ·exact .inl (.inr ⟨o,e _ _ h⟩)
 ·exact .inr h
def mI(σ:St)(i:Nat):Nat:=match σ[i]? with
 |some (some (.int n))=>n.toNat
 |_=>0
local macro_rules | `(tactic| walk_at "rd") => `(tactic| repeat (first | refine ⟨_, rfl, ?_⟩ | refine ⟨_, _, rfl, rfl, ?_⟩))
theorem zhO{Q:Bool->Hp->Prop}{b1 b2:Bool}(h1:∀Q:Bool->Hp->Prop,Q b1 H->t σ H Q)(h2:∀Q:Bool->Hp->Prop,Q b2 H->u σ H Q)(q:Q (b1||b2) H):tOr t u σ H Q:=by
 refine h1 _ ?_;cases b1
 ·exact h2 _ q
 ·exact q
section
variable {P:Program} {w:World} {mg:Str->Option Value} {base:Heap} {f:Addr} {fd:FuncData}
inductive yaf (vs:List V) (H:Hp) (Q:VK) (E:XK):Prop
 |mk (b k:Nat) (c1:vs=[.int b,.int k]) (c2:b<=64) (c3:k<=1000) (c4:Q (.int ((b^k:Nat):Int)) H):yaf vs H Q E
theorem ydY{i j:Int}(h:i=j):V.int i=V.int j:=congrArg V.int h
theorem p_le{p m:Nat}(hp:2<=p)(hm:1<=m)(h:p^m<=64):p<=64:=xAz (by simpa using xAM (n:=p) (by lia) hm) h
theorem m_le{p m:Nat}(hp:2<=p)(h:p^m<=64):m<=6:=by
 rcases xAP 6 m with h1|h1
 ·have:=Nat.pow_le_pow_left hp m;have:=xAM (n:=2) (by lia) h1
  lia
 ·exact h1
end
end My
end
section
namespace My
open PySem L2 Dg
local macro_rules | `(tactic| walk_at "rd") => `(tactic| repeat (first | refine ⟨_, rfl, ?_⟩ | refine ⟨_, _, rfl, rfl, ?_⟩))
theorem yaa(h:H p=none)(o:HO):Same H (upd H p o):=λb u q=>by rw[zad (zac q h)];exact q
abbrev Vn(n:Nat):V:=.int (n:Int)
noncomputable def Pu(H:Hp)(a g:Addr):Prop:=Ex3 λ(ns:List Nat) (s t:Nat)=>H a=some (.lst [.ref g,Vn s,Vn t])/\H g=some (.lst (ns.map Vn))
theorem Pu.ne(h:Pu H a g):a≠g:=by
 obtain⟨ns,s,t,h1,h2⟩:=h;intro e;subst e;rw[h1]at h2;have h3:=HO.lst.inj (xAF h2);cases ns with
 |nil=>cases h3
 |cons n ns=>cases h3
def zah(a g:Addr)(H H':Hp):Prop:=∀b o,b≠a->b≠g->H b=some o->H' b=some o
theorem zah.refl:zah a g H H:=λ_ _ _ _ e=>e
theorem zah.trans(h1:zah a g H H1)(h2:zah a g H1 H2):zah a g H H2:=λb o n1 n2 e=>h2 b o n1 n2 (h1 b o n1 n2 e)
theorem Same.x(h:Same H H1):zah a g H H1:=λb o _ _ e=>h b o e
theorem Pu.same(h:Pu H a g)(s:Same H H'):Pu H' a g:=by
 obtain⟨ns,x,t,h1,h2⟩:=h;exact⟨ns,x,t,s _ _ h1,s _ _ h2⟩
theorem szl(n:Nat)(h:n<=100000:=by lia):n<=sizeLine:=by rw[sizeLine_eq];lia
section
variable {P:Program} {w:World} {mg:Str->Option Value} {base:Heap} {f:Addr} {fd:FuncData}
theorem zaL:yag ["_law_one","_law_many","_law_found","_law_turn"] ["_law_one","_law_many"] (yac zbh):=⟨rfl,rfl,rfl,by decide +kernel,rfl,by decide +kernel,by decide +kernel⟩
theorem zeV(B:Bl mg)(F:Fun K "_law_raised" "_law_raised" zbh f fd):FnOk P w K mg base CX0 1 f fd ["_law_one","_law_many"] yaf:=by
 refine F.ok zaL (λvs H Q E h=>?_) (λcdv A outer s H vs Q E hr h=>?_)
 ·obtain⟨b,k,rfl,_⟩:=h;rfl
 obtain⟨b,k,rfl,hb,hk,q⟩:=h;refine⟨_,((2<|>zaL.nd<|>yab)<=<((↑((pv 1)>=>zab))<&>((3&&&zaL.nd),(~~~(2<|>zaL.nd<|>(yaX|||(pv 2)|||(pv 0))))))<=<(~~~((pv 2)⁻¹))),?_⟩
 try dsimp only[cxOf]
 refine⟨_,rfl,k,rfl,by lia,by lia,zaD (n:=k) (λi σ H'=>H'=H/\∃s,σ=[some (.int b),some (.int k),some (.int ((b^i:Nat):Int)),s]) ⟨rfl,none,rfl⟩ ?_ ?_⟩
 ·rintro i σ H' hi ⟨rfl,s,rfl⟩
  walk_at "rd"
  refine⟨.inr ⟨by lia,by lia⟩,rfl,some (.int (0+(i:Int))),?_⟩;rw[xB5];rfl
 ·rintro σ H' ⟨rfl,s,rfl⟩;exact⟨_,rfl,q⟩
def digL(p m x:Nat):List V:=(List.range m).map λi=>Vn (dg p i x)
theorem yfF(p m x:Nat):digL p (m+1) x=digL p m x++[Vn (dg p m x)]:=by unfold digL;rw[xBz,xAk];rfl
theorem ybe(p m x:Nat):(digL p m x).length=m:=by simp[digL]
inductive ycm (K:PySem.W.Frag) (vs:List V) (H:Hp) (Q:VK) (E:XK):Prop
 |mk (a:Addr) (p m t x:Nat) (c1:vs=[.ref a,.int x]) (c2:Fld K H a p m t) (c3:2<=p) (c4:p<=64) (c5:m<=64) (c6:∀r H',H r=none->Same H H'->H' r=some (.lst (digL p m x))->Q (.ref r) H'):ycm K vs H Q E
theorem zaK:yag ["_law_field_here","_law_thing","_law_found","_law_k"] ["_law_field_here","_law_thing"] (yac ybg):=⟨rfl,rfl,rfl,by decide +kernel,rfl,by decide +kernel,by decide +kernel⟩
theorem zfP(B:Bl mg)(F:Fun K "_law_digits" "_law_digits" ybg f fd):FnOk P w K mg base CX0 1 f fd ["_law_field_here","_law_thing"] (ycm K):=by
 refine F.ok zaK (λvs H Q E h=>?_) (λcdv A outer s H vs Q E hr h=>?_)
 ·obtain⟨a,p,m,t,x,rfl,_⟩:=h;rfl
 obtain⟨a,p,m,t,x,rfl,hF,hp,hp2,hm,q⟩:=h;refine⟨_,((2<|>zaK.nd<|>(@yax _ _ _ _ zab))<=<((↑((zaq<<<(pv 0)<<<yab)>=>zab))<&>((3&&&zaK.nd),((@zbK _ _ _ _ (@ydW _ _ _ _ _ _ _ _ _ _ _ _ xBN PySem.F.slot_list_append PySem.F.type_list_append zbS (pv 2) ((yaA|||(pv 1)|||(zaq<<<(pv 0)<<<yab))>=>zab) ⋯ ⋯ ⋯ ⋯ ⋯) ⋯)<=<(~~~(1<|>zaK.nd<|>(zc0|||(pv 1)|||(zaq<<<(pv 0)<<<yab)))))))<=<(~~~((pv 2)⁻¹))),?_⟩
 try dsimp only[cxOf]
 refine⟨szl 0,λl hl=>?_⟩;have g1:Same H (upd H l (.lst [])):=yaa hl _;refine⟨_,rfl,a,_,_,_,rfl,rfl,Same.tup g1 hF,rfl,m,rfl,by lia,by lia,zaD (n:=m) (λi σ H'=>H'=upd H l (.lst (digL p i x))/\∃s,σ=[some (.ref a),some (.int ((x/p^i:Nat):Int)),some (.ref l),s]) ⟨rfl,none,by simp;rfl⟩ ?_ ?_⟩
 ·rintro i σ H' hi ⟨rfl,s,rfl⟩;have g2:Same H (upd H l (.lst (digL p i x))):=yaa hl _;refine⟨_,rfl,.inl ⟨rfl,_,SqL.of zaa⟩,?_⟩
  walk_at "rd"
  refine⟨a,_,_,_,rfl,rfl,Same.tup g2 hF,rfl,?_⟩
  walk_at "rd"
  refine⟨by show(0:Int)<p;lia,l,_,_,rfl,rfl,zaa,by rw[ybe];exact xBr (show i<=1000 by lia) (yah (xA5 _)),?_⟩;rw[yd3];have g3:Same H (upd H l (.lst (digL p (i+1) x))):=yaa hl _;have e1:digL p i x++[V.int (((x/p^i:Nat):Int)%(p:Int))]=digL p (i+1) x:=by rw[yfF];rfl
  rw[e1];refine⟨_,rfl,_,rfl,a,_,_,_,rfl,rfl,Same.tup g3 hF,rfl,?_⟩
  walk_at "rd"
  refine⟨⟨by show(0:Int)<p;lia,by show(p:Int)<2^64;lia⟩,rfl,some (.int (0+(i:Int))),?_⟩;rw[xB5,<-Nat.div_div_eq_div_mul];rfl
 ·rintro σ H' ⟨rfl,s,rfl⟩;exact⟨_,rfl,q l _ hl (yaa hl _) zaa⟩
def num(p:Nat):List Nat->Nat
 | []=>0
 |d::ds=>num p ds*p+d
theorem zfj{p:Nat}(hp:2<=p):∀(ds:List Nat),(∀d∈ds,d<p)->∀i,dg p i (num p ds)=ds.getD i 0
 | [],_,i=>by simp[num,ybF]
 |d::ds,h,i=>by
  have hd:d<p:=h d xA7;have ih:=zfj hp ds λx hx=>h x (xAb _ hx)
  cases i with
  |zero=>rw[ybp];show(num p ds*p+d)%p=d;rw[xBq,Nat.mul_add_mod,Nat.mod_eq_of_lt hd]
  |succ i=>
   rw[ybl];show dg p i ((num p ds*p+d)/p)=ds.getD i 0;rw[xBq,Nat.mul_add_div (by lia),Nat.div_eq_of_lt hd,Nat.add_zero];exact ih i
inductive ycx (K:PySem.W.Frag) (vs:List V) (H:Hp) (Q:VK) (E:XK):Prop
 |mk (a b:Addr) (p m t:Nat) (ds:List Nat) (c1:vs=[.ref a,.ref b]) (c2:Fld K H a p m t) (c3:2<=p) (c4:p<=64) (c5:SqL K H b (ds.map Vn)) (c6:∀H',Same H H'->Q (Vn (num p ds)) H'):ycx K vs H Q E
theorem zaI:yag ["_law_field_here","_law_digits_here","_law_found","_law_digit"] ["_law_field_here","_law_digits_here"] (yac ybb):=⟨rfl,rfl,rfl,by decide +kernel,rfl,by decide +kernel,by decide +kernel⟩
theorem zfh(B:Bl mg)(F:Fun K "_law_number" "_law_number" ybb f fd):FnOk P w K mg base CX0 1 f fd ["_law_field_here","_law_digits_here"] (ycx K):=by
 refine F.ok zaI (λvs H Q E h=>?_) (λcdv A outer s H vs Q E hr h=>?_)
 ·obtain⟨a,b,p,m,t,ds,rfl,_⟩:=h;rfl
 obtain⟨a,b,p,m,t,ds,rfl,hF,hp,hp2,hb,q⟩:=h;refine⟨_,((2<|>zaI.nd<|>yab)<=<((@zaH _ _ _ _ (@zhP _ _ _ _ _ _ _ _ (pv 1)))<&>((3&&&zaI.nd),(~~~(2<|>zaI.nd<|>(yat|||(yaX|||(pv 2)|||(zaq<<<(pv 0)<<<yab))|||(pv 3))))))<=<(~~~((pv 2)⁻¹))),?_⟩
 try dsimp only[cxOf]
 refine⟨_,rfl,b,_,rfl,hb,λl hl=>?_⟩;have g1:Same H (upd H l (.lst (ds.map Vn).reverse)):=yaa hl _;refine⟨l,rfl,⟨_,SqL.of zaa⟩,zbQ (xs:=(ds.map Vn).reverse) (λi σ H'=>H'=upd H l (.lst (ds.map Vn).reverse)/\∃s,σ=[some (.ref a),some (.ref b),some (Vn (num p (ds.drop (ds.length-i)))),s]) ⟨rfl,none,by rw[Nat.sub_zero,List.drop_length];rfl⟩ ?_ ?_ ?_⟩
 ·rintro i σ H' hi ⟨rfl,_⟩;exact SqL.of zaa
 ·rintro i x σ H' hx ⟨rfl,s,rfl⟩;have hi:i<ds.length:=by have:=(xAh.mp hx).1;simpa using this
  have ex:x=Vn (ds[ds.length-1-i]):=by
   rw[List.getElem?_reverse (by simpa using hi),xAd,xA1,xAc (by lia)]at hx;exact(xAF hx).symm
  subst ex
  walk_at "rd"
  refine⟨a,_,_,_,rfl,rfl,Same.tup g1 hF,rfl,?_⟩
  walk_at "rd"
  refine⟨.inr ⟨by show -(2^64:Int)<(p:Int);lia,by show(p:Int)<2^64;lia⟩,?_⟩
  walk_at "rd"
  refine⟨rfl,some (Vn (ds[ds.length-1-i])),?_⟩;have e:ds.drop (ds.length-(i+1))=ds[ds.length-1-i]::ds.drop (ds.length-i):=by
   rw[show ds.length-(i+1)=ds.length-1-i by lia,List.drop_eq_getElem_cons (by lia)];congr 2;lia
  rw[e];rfl
 ·rintro σ H' ⟨rfl,s,rfl⟩;refine⟨_,rfl,?_⟩;have e:ds.length-(ds.map Vn).reverse.length=0:=by simp
  rw[e,List.drop_zero];exact q _ g1
inductive ydq (K:PySem.W.Frag) (vs:List V) (H:Hp) (Q:VK) (E:XK):Prop
 |mk (a:Addr) (ns:List Int) (c1:vs=[.ref a]) (c2:SqL K H a (ns.map V.int)) (c3:∀r g H',H r=none->H g=none->Same H H'->Pu H' r g->Q (.ref r) H'):ydq K vs H Q E
theorem yaR:yag ["_law_script","_law_seed","_law_great","_law_cell"] ["_law_script"] (yac ybo):=⟨rfl,rfl,rfl,by decide +kernel,rfl,by decide +kernel,by decide +kernel⟩
theorem zgt{i:Int}(h:0<=i):∃n:Nat,V.int i=Vn n:=by obtain⟨n,e⟩:=Int.eq_ofNat_of_zero_le h;exact⟨n,by rw[e]⟩
theorem zgl(B:Bl mg)(F:Fun K "_law_purse" "_law_purse" ybo f fd):FnOk P w K mg base CX0 1 f fd ["_law_script"] (ydq K):=by
 refine F.ok yaR (λvs H Q E h=>?_) (λcdv A outer s H vs Q E hr h=>?_)
 ·obtain⟨a,ns,rfl,_⟩:=h;rfl
 obtain⟨a,ns,rfl,ha,q⟩:=h;refine⟨_,((@zbj _ _ 1 2 _ _ _ _ _ _ _ _ _ _ _ rfl yaR.nd rfl rfl (by decide) rfl rfl (yab>=>(@yax _ _ _ _ zab)>=>zab) rfl ⋯)<=<((@zaH _ _ _ _ (@zbA _ _ _ _ _ _ _ _ _ _ zfp (pv 0) yb2 (@zbY _ _ _ yab)))<&>((3&&&yaR.nd),((1<|>yaR.nd<|>(yaA|||(yat|||(yat|||(yaX|||(pv 1)|||yab)|||(yaA|||(pv 3)|||yab))|||yab)|||yab))<=<(~~~((yh5∪(yeu>>>("abs",zcH,((pv 3)>=>zab)))∪(zeB|||yab|||yab))*>((~~~(@zbK _ _ _ _ (@ydW _ _ _ _ _ _ _ _ _ _ _ _ xBN PySem.F.slot_list_append PySem.F.type_list_append zbS (pv 2) ((yaA|||(yeu>>>("abs",zcH,((pv 3)>=>zab)))|||(yfe|||(zeB|||yab|||yab)|||(zeB|||yab|||yab)))>=>zab) ⋯ ⋯ ⋯ ⋯ ⋯) ⋯)),yam))))))<=<(~~~((@yax _ _ _ _ ((pv 2)>=>(pv 1)>=>yab>=>zab))⁻¹))),?_⟩
 try dsimp only[cxOf]
 refine⟨szl 0,λg hg=>?_⟩;have g1:Same H (upd H g (.lst [])):=yaa hg _;refine⟨_,_,rfl,?_⟩;refine⟨_,rfl,_,rfl,a,_,rfl,g1.seq ha,λl hl=>?_⟩;generalize hcut:cutV (ns.map V.int) none (some 40)=cs;have hcs:∀x∈cs,∃i:Int,x = .int i:=λx hx=>by
  rw[<-hcut]at hx;unfold cutV at hx;obtain⟨i,_,e⟩:=xA9.mp (List.mem_of_mem_drop (List.mem_of_mem_take hx));exact⟨i,e.symm⟩
 have hlen:cs.length<=40:=by
  rw[<-hcut];unfold cutV;rw[xAC,show HT.sIx (ns.map V.int).length (ns.map V.int).length (some 40)=min 40 (ns.map V.int).length from HT.sIx_nat _ _ 40]
  lia
 have hgl:l≠g:=λe=>by rw[e,zaa]at hl;cases hl
 refine⟨l,rfl,⟨_,SqL.of zaa⟩,zbQ (xs:=cs) (λi σ H'=>(Ex3 λ(s:Nat) (x:Option V) (gs:List Nat)=>gs.length<=i/\σ=[some (.ref a),some (Vn s),some (.ref g),x]/\H' g=some (.lst (gs.map Vn)))/\Same H H'/\H' l=some (.lst cs))
  ⟨⟨7,none,[],xA5 _,rfl,by rw[zad (Ne.symm hgl)];exact zaa⟩,g1.trans (yaa hl _),zaa⟩ ?_ ?_ ?_⟩
 ·rintro i σ H' hi ⟨_,_,h⟩;exact SqL.of h
 ·rintro i x σ H' hx ⟨⟨s,x0,gs,hgs,rfl,hg'⟩,sm,hl'⟩;obtain⟨c,rfl⟩:=hcs x (xAS hx);have hi:i<cs.length:=(xAh.mp hx).1
  walk_at "rd"
  refine⟨.inr ⟨by decide,by decide⟩,?_⟩
  walk_at "rd"
  refine⟨by show(0:Int)<2305843009213693951;decide,?_⟩
  walk_at "rd"
  refine⟨by show(0:Int)<2305843009213693951;decide,?_⟩;obtain⟨s',es⟩:=zgt (i:=((s:Int)*1000003+c%2305843009213693951+12345)%2305843009213693951) (Int.emod_nonneg _ (by decide));dsimp only[yap];rw[es];refine⟨_,rfl,_,rfl,_,_,rfl,rfl,⟨by decide,by decide,by decide⟩,?_⟩;refine⟨_,_,rfl,rfl,_,rfl,?_⟩;refine ite2 (λc2=>?_) (λc2=>?_)
  ·refine⟨_,rfl,.inl ⟨rfl,_,SqL.of hg'⟩,?_⟩;refine⟨_,rfl,_,rfl,_,_,rfl,rfl,⟨by decide,by decide,by decide⟩,?_⟩;refine⟨_,_,rfl,rfl,⟨by decide,by decide,by decide⟩,?_⟩;refine⟨_,_,rfl,rfl,IntMulOk.of_bits (by decide +kernel) (by decide +kernel),?_⟩;refine⟨_,_,rfl,rfl,by show(0:Int)<10^Int.toNat 60*10^Int.toNat 60;decide +kernel,?_⟩;obtain⟨d,ed⟩:=zgt (i:=(if c<0 then -c else c)%(10^(60:Int).toNat*10^(60:Int).toNat)) (Int.emod_nonneg _ (by decide))
   (try dsimp only);rw[ed]
   refine⟨g,_,_,rfl,rfl,hg',?_,⟨s',some (.int c),gs++[d],by simp;lia,rfl,by rw[zaa,xAk];rfl⟩,?_,?_⟩
   ·rw[xA1];exact xBr (show gs.length<=1000 by lia) (yah (xA5 _))
   ·intro b o e;rw[zad (zac e hg)];exact sm b o e
   ·rw[zad hgl];exact hl'
  ·exact⟨⟨s',some (.int c),gs,by lia,rfl,hg'⟩,sm,hl'⟩
 ·rintro σ H' ⟨⟨s,x,gs,hgs,rfl,hg'⟩,sm,_⟩;refine⟨_,rfl,_,rfl,szl 3,λr hr=>?_⟩;have ne:g≠r:=zac hg' hr;refine q r g _ (sm.free hr) hg (sm.trans (yaa hr _)) ⟨gs,s,0,zaa,?_⟩;rw[zad ne];exact hg'
theorem yc8{α:Type}(x:α)(xs:List α):atI (x::xs) 0=some x:=zbc (j:=0) rfl
theorem zev{n:Nat}(h:0<n):ixN n 0=some 0:=by
 unfold ixN;rw[if_pos (by decide),if_pos (by lia)];rfl
theorem yaU(Ex:St->Hp->Prop)(r:∀σ' H',Ex σ' H'->u D σ' H')(h:∀D':Ends,D'.rt=D.rt->D'.bk=D.bk->D'.ct=D.ct->(∀σ' H',Ex σ' H'->D'.nx σ' H')->t D' σ H):tSeq t u D σ H:=h _ rfl rfl rfl r
inductive zbH (vs:List V) (H:Hp) (Q:VK) (E:XK):Prop
 |mk (a g:Addr) (n:Nat) (c1:vs=[.ref a,Vn n]) (c2:Pu H a g) (c3:0<n) (c4:n<2^200) (c5:∀(r:Nat) H',r<n->Pu H' a g->zah a g H H'->Q (Vn r) H'):zbH vs H Q E
def zc1(H:Hp)(g:Addr):Nat:=match H g with
 |some (.lst xs)=>xs.length
 |_=>0
theorem zbC{xs:List V}(h:H g=some (.lst xs)):zc1 H g=xs.length:=by unfold zc1;rw[h]
theorem modn{x:Int}{n:Nat}(h:0<n):∃r:Nat,r<n/\V.int (x%(n:Int))=Vn r:=by
 have h1:=Int.emod_nonneg x (show(n:Int)≠0 by lia);have h2:=Int.emod_lt_of_pos x (show(0:Int)<n by lia);exact⟨(x%(n:Int)).toNat,by lia,by show V.int _=V.int _;congr 1;lia⟩
theorem yaC:yag ["_law_purse_here","_law_many","_law_digit","_law_turn","_law_prime","_law_once","_law_mixed"] ["_law_purse_here","_law_many"] (yac zbI):=⟨rfl,rfl,rfl,by decide +kernel,rfl,by decide +kernel,by decide +kernel⟩
theorem zhm(B:Bl mg)(F:Fun K "_law_pick" "_law_pick" zbI f fd):FnOk P w K mg base CX0 1 f fd ["_law_purse_here","_law_many"] zbH:=by
 refine F.ok yaC (λvs H Q E h=>?_) (λcdv A outer s H vs Q E hr h=>?_)
 ·obtain⟨a,g,n,rfl,_⟩:=h;rfl
 obtain⟨a,g,n,rfl,hP,hn,hn2,q⟩:=h;have nag:=hP.ne;refine⟨_,((@zbB _ _ _ _ _ _ PassesOwn.never (@PW.pt _ _ _ (@yeZ _ _ _ _ _ _ _ ((ygv hr.units0)∪(yai<<<(pv 0)<<<yab)∪(@yax _ _ _ _ zab)) (@ydS _ _ _ _ (zbg∪(yai<<<(yai<<<(pv 0)<<<yab)<<<yab)∪yab)))) (~~~(@zbK _ _ _ _ (@ydW _ _ _ _ _ _ _ _ _ _ _ _ xBN PySem.F.slot_list_pop PySem.F.type_list_pop zfY (yai<<<(pv 0)<<<yab) (yab>=>zab) ⋯ ⋯ ⋯ ⋯ ⋯) ⋯)))<=<(((ygv hr.units0)∪(yai<<<(pv 0)<<<yab)∪(@yax _ _ _ _ zab))*>(((2<|>yaC.nd<|>(yaA|||(yai<<<(yai<<<(pv 0)<<<yab)<<<yab)|||(pv 1)))<=<(@ycS _ _ _ _ _ _ (yg8|||(yai<<<(yai<<<(pv 0)<<<yab)<<<yab)|||(pv 1)) (@ydC _ _ _ _ _ _ _ (yai<<<(pv 0)<<<yab) yab ybT (by intro _;rfl)) ⋯ ⋯ ⋯)<=<(~~~((pv 2)⁻¹))),yam))<=<(@ycS _ _ _ _ _ _ (yat|||(yai<<<(pv 0)<<<yab)|||yab) (@ydC _ _ _ _ _ _ _ (pv 0) yab ybT (by intro _;rfl)) ⋯ ⋯ ⋯)<=<(3<|>yaC.nd<|>(yai<<<(pv 0)<<<yab))<=<(4<|>yaC.nd<|>(yai<<<(@yax _ _ _ _ (yab>=>yab>=>yab>=>yab>=>yab>=>yab>=>yab>=>zab))<<<(yaA|||(pv 3)|||yab)))<=<(5<|>yaC.nd<|>(yaA|||(yat|||(yai<<<(pv 0)<<<yab)|||(yaX|||yab|||(pv 3)))|||yab))<=<(6<|>yaC.nd<|>(yaX|||(yaA|||(zeB|||(pv 5)|||yab)|||yab)|||(yat|||(yaX|||yab|||(pv 3))|||yab)))<=<(~~~((yaA|||(zc0|||(yaA|||(yat|||(pv 6)|||(zc0|||(yai<<<(pv 0)<<<yab)|||yab))|||(pv 4))|||yab)|||(pv 1))⁻¹))),?_⟩
 try dsimp only[cxOf]
 let I1:St->Hp->Prop:=λσ H'=>An3 (σ=[some (.ref a),some (Vn n),none,none,none,none,none]) (Pu H' a g) (zah a g H H')
 refine yaU I1 ?_ ?_
 ·rintro σ H' ⟨rfl,⟨ns,x,t,ha,hg⟩,sm⟩
  let I2:St->Hp->Prop:=λσ H1=>ns=[]/\σ=[some (.ref a),some (Vn n),none,none,none,none,none]/\H1 a=some (.lst [.ref g,Vn x,Vn t])/\H1 g=some (.lst [])/\zah a g H H1
  refine yaU I2 ?_ ?_
  ·rintro σ H1 ⟨rfl,rfl,ha,hg,sm⟩;refine⟨_,rfl,a,_,_,_,rfl,rfl,SqL.of ha,rfl,?_⟩;refine⟨_,_,rfl,rfl,?_⟩;refine⟨_,rfl,a,_,2,2,rfl,rfl,ha,rfl,?_⟩;have h1:(upd H1 a (.lst [.ref g,Vn x,.int ((t:Int)+1)])) a=some (.lst [.ref g,Vn x,Vn (t+1)]):=zaa;have h2:(upd H1 a (.lst [.ref g,Vn x,.int ((t:Int)+1)])) g=some (.lst []):=by rw[zad (Ne.symm nag)];exact hg
   have h3:zah a g H (upd H1 a (.lst [.ref g,Vn x,.int ((t:Int)+1)])):=λb o n1 n2 e=>by rw[zad n1];exact sm b o n1 n2 e
   change tSeq _ _ _ _ (upd H1 a (.lst [.ref g,Vn x,.int ((t:Int)+1)]));generalize upd H1 a (.lst [.ref g,Vn x,.int ((t:Int)+1)])=H2 at h1 h2 h3 ⊢;refine⟨_,rfl,a,_,_,_,rfl,rfl,SqL.of h1,rfl,?_⟩;refine⟨szl 7,λl hl=>?_⟩;have nla:a≠l:=zac h1 hl;have nlg:g≠l:=zac h2 hl;refine⟨_,rfl,_,_,rfl,rfl,by show(0:Int)<7;decide,?_⟩;obtain⟨k,hk,ek⟩:=modn (x:=((t+1:Nat):Int)) (n:=7) (by lia);have hprime:∃pr:Nat,61<pr/\atI [V.int 2147483629,.int 2147483587,.int 2147483579,.int 2147483563,.int 2147483549,.int 2147483543,.int 2147483497] (k:Int)=some (Vn pr):=by
    have:k=0\/k=1\/k=2\/k=3\/k=4\/k=5\/k=6:=by lia
    rcases this with rfl|rfl|rfl|rfl|rfl|rfl|rfl
    ·exact⟨2147483629,by decide,rfl⟩
    ·exact⟨2147483587,by decide,rfl⟩
    ·exact⟨2147483579,by decide,rfl⟩
    ·exact⟨2147483563,by decide,rfl⟩
    ·exact⟨2147483549,by decide,rfl⟩
    ·exact⟨2147483543,by decide,rfl⟩
    ·exact⟨2147483497,by decide,rfl⟩
   obtain⟨pr,hpr,epr⟩:=hprime;have ek':((t+1:Nat):Int)%(7:Int)=(k:Int):=by have:=V.int.inj ek;exact this
   refine⟨l,_,k,Vn pr,rfl,ek,SqL.of zaa,epr,?_⟩;have h1':(upd H2 l (.lst [V.int 2147483629,.int 2147483587,.int 2147483579,.int 2147483563,.int 2147483549,.int 2147483543,.int 2147483497])) a=some (.lst [.ref g,Vn x,Vn (t+1)]):=by rw[zad nla];exact h1
   have h2':(upd H2 l (.lst [V.int 2147483629,.int 2147483587,.int 2147483579,.int 2147483563,.int 2147483549,.int 2147483543,.int 2147483497])) g=some (.lst []):=by rw[zad nlg];exact h2
   have h3':zah a g H (upd H2 l (.lst [V.int 2147483629,.int 2147483587,.int 2147483579,.int 2147483563,.int 2147483549,.int 2147483543,.int 2147483497])):=h3.trans (Same.x (yaa hl _));change tSeq _ _ _ _ (upd H2 l (.lst [V.int 2147483629,.int 2147483587,.int 2147483579,.int 2147483563,.int 2147483549,.int 2147483543,.int 2147483497]));generalize upd H2 l (.lst [V.int 2147483629,.int 2147483587,.int 2147483579,.int 2147483563,.int 2147483549,.int 2147483543,.int 2147483497])=H3 at h1' h2' h3' ⊢;refine⟨_,rfl,a,_,_,_,rfl,rfl,SqL.of h1',rfl,?_⟩;refine⟨_,rfl,_,_,rfl,rfl,.inl ⟨by decide,by decide⟩,?_⟩;refine⟨_,_,rfl,rfl,?_⟩;refine⟨_,_,rfl,rfl,by show(0:Int)<2147483647;decide,?_⟩;obtain⟨on,hon,eon⟩:=modn (x:=(x:Int)+65537*((t+1:Nat):Int)) (n:=2147483647) (by decide);dsimp only[yap];rw[show V.int (((x:Int)+65537*((t+1:Nat):Int))%2147483647)=Vn on from eon];refine⟨_,rfl,_,_,rfl,rfl,⟨by decide,by decide,by show(on:Int).natAbs<2^64;lia⟩,?_⟩;refine⟨_,_,rfl,rfl,by show(0:Int)<2147483647;decide,?_⟩;obtain⟨o5,ho5,eo5⟩:=modn (x:=(on:Int)^(5:Int).toNat) (n:=2147483647) (by decide);refine⟨_,rfl,_,_,rfl,rfl,.inl ⟨by decide,by decide⟩,?_⟩;refine⟨_,_,rfl,rfl,?_⟩;have b5:(on:Int)^(5:Int).toNat%2147483647=(o5:Int):=V.int.inj eo5;refine⟨_,_,rfl,rfl,.inl ⟨by rw[b5];lia,by rw[b5];lia⟩,?_⟩;refine⟨_,rfl,_,rfl,a,_,_,_,rfl,rfl,SqL.of h1',rfl,?_⟩;refine⟨_,_,rfl,rfl,⟨by show(0:Int)<2147483647;decide,by show(2147483647:Int)<2^64;decide⟩,?_⟩;refine⟨_,_,rfl,rfl,?_⟩;refine⟨_,rfl,_,_,rfl,rfl,by show(0:Int)<(pr:Int);lia,?_⟩;refine⟨_,_,rfl,rfl,⟨by show(0:Int)<61;decide,by show(61:Int)<2^64;decide⟩,?_⟩;refine⟨_,rfl,_,_,rfl,rfl,by show(0:Int)<(n:Int);lia,?_⟩;obtain⟨r,hr',er⟩:=modn (x:=((on:Int)^(5:Int).toNat%2147483647*(2*((t+1:Nat):Int)+1)+(x:Int)/2147483647)%(pr:Int)/61) hn;dsimp only;rw[er];exact q r H3 hr' ⟨[],x,t+1,h1',h2'⟩ h3'
  ·intro D' hrt _ _ hD;refine⟨_,rfl,a,_,_,_,rfl,rfl,SqL.of ha,rfl,szl 0,λl hl=>?_⟩;have nla:a≠l:=zac ha hl;have nlg:g≠l:=zac hg hl;have hg1:(upd H' l (.lst [])) g=some (.lst (ns.map Vn)):=by rw[zad nlg];exact hg
   have ha1:(upd H' l (.lst [])) a=some (.lst [.ref g,Vn x,Vn t]):=by rw[zad nla];exact ha
   have sm1:zah a g H (upd H' l (.lst [])):=sm.trans (Same.x (yaa hl _));refine⟨g,l,_,rfl,rfl,SqL.of hg1,SqL.of zaa,_,rfl,?_⟩;refine ite2 (λc=>?_) (λc=>?_)
   ·cases ns with
    |nil=>exact absurd c (by simp)
    |cons d ns=>
     refine⟨_,rfl,a,_,_,_,rfl,rfl,SqL.of ha1,rfl,?_⟩;refine⟨g,_,_,_,rfl,rfl,SqL.of hg1,yc8 _ _,?_⟩;refine⟨_,rfl,_,_,rfl,rfl,by show(0:Int)<(n:Int);lia,?_⟩;refine⟨_,rfl,a,_,_,_,rfl,rfl,SqL.of ha1,rfl,?_⟩;refine⟨g,_,_,_,rfl,rfl,SqL.of hg1,yc8 _ _,?_⟩;refine⟨_,rfl,_,_,rfl,rfl,⟨by show(0:Int)<(n:Int);lia,by show(n:Int)<2^1000;lia⟩,?_⟩;refine⟨_,rfl,a,_,_,_,rfl,rfl,SqL.of ha1,rfl,?_⟩;refine⟨g,_,0,0,rfl,rfl,hg1,zev (by simp),?_⟩;refine⟨_,rfl,?_⟩;rw[hrt];refine q (d%n) _ (xBh _ hn) ⟨(d/n)::ns,x,t,by rw[zad nag];exact ha1,zaa⟩ λb o n1 n2 e=>by rw[zad n2];exact sm1 b o n1 n2 e
   ·cases ns with
    |nil=>exact hD _ _ ⟨rfl,rfl,ha1,hg1,sm1⟩
    |cons d ns=>exact absurd (by simp) c
 ·intro D' _ _ _ hD
  let I3:St->Hp->Prop:=λσ H'=>An3 (σ=[some (.ref a),some (Vn n),none,none,none,none,none]) (Pu H' a g) (zah a g H H')
  refine ybD I3 (λ_ H'=>zc1 H' g) ⟨rfl,hP,zah.refl⟩ ?_;rintro σ H' ⟨rfl,⟨ns,x,t,ha,hg⟩,sm⟩;refine⟨_,rfl,a,_,_,_,rfl,rfl,SqL.of ha,rfl,szl 0,λl hl=>?_⟩;have nla:a≠l:=zac ha hl;have nlg:g≠l:=zac hg hl;have hg1:(upd H' l (.lst [])) g=some (.lst (ns.map Vn)):=by rw[zad nlg];exact hg
  have ha1:(upd H' l (.lst [])) a=some (.lst [.ref g,Vn x,Vn t]):=by rw[zad nla];exact ha
  have sm1:zah a g H (upd H' l (.lst [])):=sm.trans (Same.x (yaa hl _));refine⟨g,l,_,rfl,rfl,SqL.of hg1,SqL.of zaa,_,rfl,?_⟩;refine ite2 (λc=>?_) (λc=>?_)
  ·cases ns with
   |nil=>exact absurd c (by simp)
   |cons d ns=>
    refine⟨_,rfl,a,_,_,_,rfl,rfl,SqL.of ha1,rfl,?_⟩;refine⟨g,_,_,_,rfl,rfl,SqL.of hg1,yc8 _ _,?_⟩;refine⟨rfl,_,rfl,?_⟩;refine ite2 (λc=>?_) (λc=>?_)
    ·refine⟨λσ' H''=>σ'=[some (.ref a),some (Vn n),none,none,none,none,none]/\H''=upd (upd H' l (.lst [])) g (.lst (ns.map Vn)),?_,?_⟩
     ·rintro σ' H'' ⟨rfl,rfl⟩;refine⟨_,?_,rfl,rfl,⟨ns,x,t,by rw[zad nag];exact ha1,zaa⟩,λb o n1 n2 e=>by rw[zad n2];exact sm1 b o n1 n2 e⟩;rw[zbC hg,zbC (xs:=ns.map Vn) zaa];simp
     ·refine⟨_,rfl,a,_,_,_,rfl,rfl,SqL.of ha1,rfl,.inl ⟨rfl,_,SqL.of hg1⟩,?_⟩;exact⟨g,_,0,0,Vn d,rfl,rfl,hg1,by decide,by decide,(zd0 (zev (by simp))).1,rfl,rfl,rfl⟩
    ·exact hD _ _ ⟨rfl,⟨d::ns,x,t,ha1,hg1⟩,sm1⟩
  ·refine ite2 (λc2=>absurd c2 (by decide)) (λ_=>?_);exact hD _ _ ⟨rfl,⟨ns,x,t,ha1,hg1⟩,sm1⟩
end
end My
end
section
namespace My
open PySem L2 Dg
local macro_rules | `(tactic| walk_at "rd") => `(tactic| repeat (first | refine ⟨_, rfl, ?_⟩ | refine ⟨_, _, rfl, rfl, ?_⟩))
def sumN:Nat->(Nat->Nat)->Nat
 |0,_=>0
 |n+1,g=>sumN n g+g n
theorem ycP:∀(n:Nat) (g:Nat->Nat),sumN (n+1) g=g 0+sumN n λj=>g (j+1)
 |0,g=>by simp[sumN]
 |n+1,g=>by rw[sumN,ycP n g,sumN];lia
theorem yeP{n:Nat}{g h:Nat->Nat}(e:∀j,j<n->g j=h j):sumN n g=sumN n h:=by
 induction n with
 |zero=>rfl
 |succ n ih=>rw[sumN,sumN,ih λj hj=>e j (by lia),e n (by lia)]
def shN(j:Nat)(y:Nat->Nat)(i:Nat):Nat:=if j<=i then y (i-j) else 0
theorem zdt:∀(k:Nat) (f y:Nat->Nat) (i:Nat),ydn k f y i=sumN k λj=>f j*shN j y i
 |0,_,_,_=>rfl
 |k+1,f,y,i=>by
  rw[ycP];show f 0*y i+zaA (ydn k (λj=>f (j+1)) y) i=f 0*shN 0 y i+_;congr 1;unfold zaA;by_cases h:i=0
  ·rw[if_pos h];subst h;have:∀n,sumN n (λj=>f (j+1)*shN (j+1) y 0)=0:=λn=>by
    induction n with
    |zero=>rfl
    |succ n ih=>rw[sumN,ih];unfold shN;rw[if_neg (by lia)];simp
   exact(this k).symm
  ·rw[if_neg h,zdt k];refine yeP λj _=>?_
   congr 1;unfold shN;by_cases h2:j+1<=i
   ·rw[if_pos h2,if_pos (by lia)];congr 1;lia
   ·rw[if_neg h2,if_neg (by lia)]
def rowL(p n:Nat)(c:Nat->Nat):List V:=(List.range n).map λi=>Vn (c i%p)
theorem ybA(p n:Nat)(c:Nat->Nat):(rowL p n c).length=n:=by simp[rowL]
theorem zc3{p n:Nat}(c:Nat->Nat){i:Nat}(h:i<n):(rowL p n c)[i]?=some (Vn (c i%p)):=by
 unfold rowL;rw[xAd,xB7 h];rfl
theorem zd9{p n:Nat}(c:Nat->Nat){i:Nat}{j:Int}(h:i<n)(e:j=(i:Int)):atI (rowL p n c) j=some (Vn (c i%p)):=by
 subst e;exact zbc (zc3 c h)
theorem ya8{p n:Nat}{c c':Nat->Nat}(h:∀i,i<n->c i%p=c' i%p):rowL p n c=rowL p n c':=by
 unfold rowL;refine xAL λi hi=>?_
 rw[h i (xAt.mp hi)]
theorem zfX{p n:Nat}(c:Nat->Nat){s v:Nat}(h:s<n):(rowL p n c).set s (Vn (v%p))=rowL p n λi=>if i=s then v else c i:=by
 refine List.ext_getElem? λi=>?_
 by_cases hi:i<n
 ·rw[zc3 _ hi,List.getElem?_set];by_cases e:s=i
  ·subst e;rw[if_pos rfl,if_pos (by rw[ybA];exact hi),if_pos rfl]
  ·rw[if_neg e,zc3 _ hi,if_neg (Ne.symm e)]
 ·rw[List.getElem?_eq_none (by rw[List.length_set,ybA];lia),List.getElem?_eq_none (by rw[ybA];lia)]
theorem yfb{p n:Nat}{c:Nat->Nat}{s v:Nat}(h:s<n){c':Nat->Nat}(hc:∀i,i<n->c' i%p=(if i=s then c s%p+v else c i)%p):(rowL p n c).set s (Vn ((c s%p+v)%p))=rowL p n c' :=
 (zfX c h).trans (ya8 λi hi=>(hc i hi).symm)
theorem yfd{n s:Nat}{j:Int}(h:s<n)(e:j=(s:Int)):ixN n j=some s:=by
 subst e;unfold ixN;rw[if_pos (by lia),if_pos (by lia)];simp
theorem zf3(p k:Nat)(hp:0<p):(List.replicate k [V.int 0]).flatten=rowL p k λ_=>0:=by
 induction k with
 |zero=>rfl
 |succ k ih=>
  rw[List.replicate_succ',List.flatten_append,ih];unfold rowL;rw[xBz,xAk];simp
section
variable {P:Program} {w:World} {mg:Str->Option Value} {base:Heap} {f:Addr} {fd:FuncData}
inductive ybx (K:PySem.W.Frag) (vs:List V) (H:Hp) (Q:VK) (E:XK):Prop
 |mk (a:Addr) (p m t x y:Nat) (c1:vs=[.ref a,.int x,.int y]) (c2:Fld K H a p m t) (c3:2<=p) (c4:1<=m) (c5:p^m<=64) (c6:t<p^m) (c7:x<p^m) (c8:y<p^m) (c9:∀(r:Nat) H',Same H H'->r<p^m->(∀i,i<m->dg p i r=tn m (λi=>dg p i t) m (λi=>dg p i x) (λi=>dg p i y) i%p)->Q (.int r) H'):ybx K vs H Q E
theorem zdp{p m x i:Nat}(h:i<m):(digL p m x)[i]?=some (Vn (dg p i x)):=by
 unfold digL;rw[xAd,xB7 h];rfl
theorem yeU(h:zah l l H H'):zah l l H (upd H' l o):=λb u n1 n2 e=>by rw[zad n1];exact h b u n1 n2 e
theorem zfD(h:zah l l H H')(hp:H' p=none):zah l l H (upd H' p o):=h.trans (Same.x (yaa hp o))
theorem yde(h:zah l l H H')(hl:H l=none):Same H H':=λb o e=>h b o (zac e hl) (zac e hl) e
theorem zae:yag ["_law_field_here","_law_one","_law_other","_law_p","_law_m","_law_top","_law_row","_law_j","_law_digit","_law_k","_law_by","_law_place","_law_at"] ["_law_field_here","_law_one","_law_other"] (yac za5):=⟨rfl,rfl,rfl,by decide +kernel,rfl,by decide +kernel,by decide +kernel⟩
theorem zeS(B:Bl mg)(xBU:Has P w K mg base 1 "_law_digits" ["_law_field_here","_law_thing"] (ycm K))(xC1:Has P w K mg base 1 "_law_number" ["_law_field_here","_law_digits_here"] (ycx K))(F:Fun K "_law_product" "_law_product" za5 f fd):FnOk P w K mg base CX0 2 f fd ["_law_field_here","_law_one","_law_other"] (ybx K):=by
 refine F.ok zae (λvs H Q E h=>?_) (λcdv A outer s H vs Q E hr h=>?_)
 ·obtain⟨a,p,m,t,x,y,rfl,_⟩:=h;rfl
 obtain⟨a,p,m,t,x,y,rfl,hF,hp,hm,hpm,ht,hx,hy,q⟩:=h;have hp2:=p_le hp hm hpm;have hm6:=m_le hp hpm;refine⟨_,(((pv 0)≈((3&&&zae.nd)∩((4&&&zae.nd)∩((5&&&zae.nd)∩yaB))))<=<(6<|>zae.nd<|>(yfG|||(@yax _ _ _ _ (yab>=>zab))|||(za7|||(yaX|||yab|||(pv 4))|||yab)))<=<((@ycH _ _ _ _ _ _ _ _ rfl (B "enumerate" (by decide)) ((xBU<$>((pv 0)>=>(pv 1)>=>zab))>=>zab) ⋯)<&>((@ycZ _ _ _ _ _ _ rfl ((7&&&zae.nd)∩((8&&&zae.nd)∩yaB)) ⋯ ⋯),(~~~((@ycH _ _ _ _ _ _ _ _ rfl (B "enumerate" (by decide)) ((xBU<$>((pv 0)>=>(pv 2)>=>zab))>=>zab) ⋯)<&>((@ycZ _ _ _ _ _ _ rfl ((9&&&zae.nd)∩((10&&&zae.nd)∩yaB)) ⋯ ⋯),(~~~(@ycS _ _ _ _ _ _ (yaA|||(yat|||(yai<<<(pv 6)<<<(yat|||(pv 7)|||(pv 9)))|||(yaX|||(pv 8)|||(pv 10)))|||(pv 3)) (@ydC _ _ _ _ _ _ _ (pv 6) (yat|||(pv 7)|||(pv 9)) ybT (by intro _;rfl)) ⋯ ⋯ ⋯)))))))<=<((@zhg _ _ _ _ _ _ _ _ rfl (B "range" (by decide)) ((za7|||(yaX|||yab|||(pv 4))|||yab)>=>(za7|||(pv 4)|||yab)>=>(@yfW _ _ _ _ _ _ yev yab)>=>zab) ⋯ ⋯)<&>((11&&&zae.nd),(~~~((@ycH _ _ _ _ _ _ _ _ rfl (B "enumerate" (by decide)) ((xBU<$>((pv 0)>=>(pv 5)>=>zab))>=>zab) ⋯)<&>((@ycZ _ _ _ _ _ _ rfl ((9&&&zae.nd)∩((8&&&zae.nd)∩yaB)) ⋯ ⋯),((12<|>zae.nd<|>(yat|||(za7|||(pv 11)|||(pv 4))|||(pv 9)))<=<(~~~(@ycS _ _ _ _ _ _ (yaA|||(yat|||(yai<<<(pv 6)<<<(pv 12))|||(yaX|||(yai<<<(pv 6)<<<(pv 11))|||(pv 8)))|||(pv 3)) (@ydC _ _ _ _ _ _ _ (pv 6) (pv 12) ybT (by intro _;rfl)) ⋯ ⋯ ⋯))))))))<=<(~~~((xC1<$>((pv 0)>=>(@zbA _ _ _ _ _ _ _ _ _ _ zfp (pv 6) yb2 (@zbY _ _ _ (pv 4)))>=>zab))⁻¹))),?_⟩
 try dsimp only[cxOf]
 refine⟨_,rfl,a,_,rfl,hF,rfl,_,_,rfl,_,_,rfl,_,_,rfl,rfl,?_⟩;refine⟨szl 1,λl0 hl0=>?_⟩;refine⟨_,rfl,_,_,rfl,rfl,.inl ⟨by decide,by decide⟩,?_⟩;refine⟨_,_,rfl,rfl,?_⟩;have e21:(2*(m:Int)-1).toNat=2*m-1:=by lia
 refine⟨l0,_,_,rfl,rfl,zaa,by show -(2^63)<=2*(m:Int)-1;lia,by show 2*(m:Int)-1<2^63;lia,?_,λl hl=>?_⟩
 ·show 1*(2*(m:Int)-1).toNat<=sizeLine;rw[e21];exact szl _
 dsimp only;rw[e21,zf3 p _ (by lia)];have hlH:H l=none:=(yaa hl0 (.lst [.int 0])).free hl
 let I1:St->Hp->Prop:=λσ H'=>Ex6 λs7 s8 s9 s10 s11 s12=>An3 (σ=[some (.ref a),some (Vn x),some (Vn y),some (Vn p),some (Vn m),some (Vn t),some (.ref l),s7,s8,s9,s10,s11,s12]) (zah l l H H') (H' l=some (.lst (rowL p (2*m-1) (ydn m (λi=>dg p i x) λi=>dg p i y))))
 refine yaU I1 ?_ ?_
 ·rintro σ H' ⟨s7,s8,s9,s10,s11,s12,rfl,sx,hrow⟩
  let I2:St->Hp->Prop:=λσ H'=>Ex6 λs7 s8 s9 s10 s11 s12=>An3 (σ=[some (.ref a),some (Vn x),some (Vn y),some (Vn p),some (Vn m),some (Vn t),some (.ref l),s7,s8,s9,s10,s11,s12]) (zah l l H H') (∃c:Nat->Nat,H' l=some (.lst (rowL p (2*m-1) c))/\∀i,i<m->c i=tn m (λi=>dg p i t) m (λi=>dg p i x) (λi=>dg p i y) i)
  refine yaU I2 ?_ ?_
  ·rintro σ H' ⟨s7,s8,s9,s10,s11,s12,rfl,sx,c,hrow,hc⟩;refine⟨_,rfl,_,rfl,_,rfl,_,rfl,l,_,rfl,SqL.of hrow,λl2 hl2=>?_⟩;have sm2:Same H (upd H' l2 (.lst (cutV (rowL p (2*m-1) c) none (some (m:Int))))):=(yde sx hlH).trans (yaa hl2 _);refine⟨a,l2,p,m,t,(List.range m).map λi=>c i%p,rfl,Same.tup sm2 hF,hp,hp2,?_,λH3 s3=>?_⟩
   ·refine SqL.of ?_;rw[zaa];congr 2;unfold cutV;rw[HT.sIx_none,show HT.sIx (rowL p (2*m-1) c).length (rowL p (2*m-1) c).length (some (m:Int))=min m (rowL p (2*m-1) c).length from HT.sIx_nat _ _ m,ybA,List.drop_zero,show min m (2*m-1)-0=m by lia];unfold rowL;rw[<-List.map_take,List.take_range,xAH,show min m (2*m-1)=m by lia];rfl
   ·have hds:∀d∈(List.range m).map (λi=>c i%p),d<p:=λd hd=>by
     obtain⟨i,_,rfl⟩:=xA9.mp hd;exact xBh _ (by lia)
    have hg:∀i,((List.range m).map λi=>c i%p).getD i 0=if i<m then c i%p else 0:=λi=>by
     by_cases hi:i<m
     ·rw[if_pos hi,List.getD,xAd,xB7 hi];rfl
     ·rw[if_neg hi,List.getD,List.getElem?_eq_none (by simpa using hi)];rfl
    refine q _ _ (sm2.trans s3) (yeJ hp λi hi=>?_) λi hi=>?_
    ·rw[zfj hp _ hds,hg,if_neg (by lia)]
    ·rw[zfj hp _ hds,hg,if_pos hi,hc i hi]
  ·intro D' _ _ _ hD;refine⟨_,rfl,_,_,rfl,rfl,.inl ⟨by decide,by decide⟩,?_⟩;refine⟨_,_,rfl,rfl,?_⟩;refine⟨_,rfl,_,_,rfl,rfl,?_⟩;refine⟨_,rfl,?_⟩;refine⟨2*(m:Int)-2,(m:Int)-1,rfl,⟨by lia,by lia,by lia,by lia⟩,?_⟩
   let I3:Nat->St->Hp->Prop:=λi σ H'=>Ex6 λs7 s8 s9 s10 s11 s12=>An3 (σ=[some (.ref a),some (Vn x),some (Vn y),some (Vn p),some (Vn m),some (Vn t),some (.ref l),s7,s8,s9,s10,s11,s12]) (zah l l H H') (∃c:Nat->Nat,H' l=some (.lst (rowL p (2*m-1) c))/\redF m (λi=>dg p i t) (m-1-i) c=redF m (λi=>dg p i t) (m-1) (ydn m (λi=>dg p i x) λi=>dg p i y))
   refine ybW zfe I3 ⟨s7,s8,s9,s10,s11,s12,rfl,sx,_,hrow,rfl⟩ (λ_ _ _ _ _=>trivial) ?_ ?_
   ·rintro i v σ H' H'' hi ⟨s7,s8,s9,s10,s11,s12,rfl,sx,c,hrow,hred⟩ ⟨rfl,rfl⟩;obtain⟨j,hj⟩:∃j,m-1-i=j+1:=⟨m-1-i-1,by lia⟩
    have eq:V.int (2*(m:Int)-2-(i:Int))=Vn (m+j):=by show V.int _=V.int _;congr 1;lia
    have hq:m+j<2*m-1:=by lia
    dsimp only[yap];rw[eq];refine⟨_,rfl,_,rfl,a,p,m,t,t,rfl,Same.tup (yde sx hlH) hF,hp,hp2,by lia,λb2 H2 hb2' s2 e2=>?_⟩;have nb2:b2≠l:=λe=>by rw[e,hrow]at hb2';cases hb2'
    refine⟨false,b2,rfl,⟨_,SqL.of e2⟩,?_⟩
    let I4:Nat->St->Hp->Prop:=λk σ H'=>Ex5 λs7 s8 s9 s10 s12=>An4 (σ=[some (.ref a),some (Vn x),some (Vn y),some (Vn p),some (Vn m),some (Vn t),some (.ref l),s7,s8,s9,s10,some (Vn (m+j)),s12]) (zah l l H H') (H' b2=some (.lst (digL p m t))) (H' l=some (.lst (rowL p (2*m-1) λi=>c i+if j<=i/\i<j+k then c (m+j)*dg p (i-j) t else 0)))
    refine ybW (ybm (K:=K) (b:=false) (l:=b2) (xs:=digL p m t)) I4 ⟨s7,s8,s9,s10,s12,rfl,sx.trans (Same.x s2),e2,?_⟩ ?_ ?_ ?_
    ·rw[s2 _ _ hrow];congr 2;refine ya8 λi _=>?_
     rw[if_neg (by lia)];rfl
    ·rintro i σ H' _ ⟨s7,s8,s9,s10,s12,rfl,_,h,_⟩;exact SqL.of h
    ·rintro k v σ H' H'' hk ⟨s7,s8,s9,s10,s12,rfl,sx,hc,hrow⟩ ⟨T,u,rfl,eu,hT,rfl⟩;rw[ybe]at hk;rw[zdp hk]at eu;cases eu;refine⟨T,_,rfl,SqT.of zaa,rfl,_,_,rfl,_,_,rfl,rfl,?_⟩;have sx3:zah l l H (upd H' T (.tup [.int k,Vn (dg p k t)])):=zfD sx hT;have hc3:(upd H' T (.tup [.int k,Vn (dg p k t)])) b2=some (.lst (digL p m t)):=by rw[zad (zac hc hT)];exact hc
     have hr3:=(zad (o:=.tup [.int k,Vn (dg p k t)]) (zac hrow hT)).trans hrow;generalize upd H' T (.tup [.int k,Vn (dg p k t)])=G at sx3 hc3 hr3 ⊢;have hjk:j+k<2*m-1:=by lia
     have hmp:∀z,z%p<p:=λz=>xBh _ (by lia)
     refine⟨_,rfl,_,rfl,_,_,rfl,rfl,?_⟩;refine⟨_,rfl,_,_,rfl,rfl,?_⟩;have eat:V.int (((m+j:Nat):Int)-(m:Int)+((k:Nat):Int))=Vn (j+k):=by show V.int _=V.int _;congr 1;lia
     dsimp only[yap];rw[eat];refine⟨_,rfl,_,rfl,l,_,_,_,rfl,rfl,SqL.of hr3,zd9 _ hjk rfl,?_⟩;refine⟨_,rfl,_,rfl,l,_,_,_,rfl,rfl,SqL.of hr3,zd9 _ hq rfl,?_⟩;have hmq:=hmp (c (m+j)+if j<=m+j/\m+j<j+k then c (m+j)*dg p (m+j-j) t else 0);refine⟨_,rfl,_,_,rfl,rfl,.inl ⟨by lia,by lia⟩,?_⟩;refine⟨_,_,rfl,rfl,?_⟩;refine⟨_,rfl,_,_,rfl,rfl,by show(0:Int)<(p:Int);lia,?_⟩;refine⟨_,rfl,_,rfl,?_⟩;refine⟨l,_,_,j+k,rfl,rfl,hr3,yfd (by rw[ybA];exact hjk) rfl,?_⟩;refine⟨s7,_,_,s10,_,rfl,yeU sx3,by rw[zad nb2];exact hc3,?_⟩;rw[zaa];congr 2;refine yfb (v:=(c (m+j)+if j<=m+j/\m+j<j+k then c (m+j)*dg p (m+j-j) t else 0)%p*dg p k t) hjk λi hi=>?_
     by_cases e:i=j+k
     ·subst e;rw[if_pos rfl,if_pos (by lia),if_neg (by lia),if_neg (by lia),Nat.add_zero,Nat.add_zero,show j+k-j=k by lia,Nat.mod_add_mod];exact zcb rfl (ydh (Nat.mod_mod _ _).symm rfl)
     ·rw[if_neg e];congr 2;by_cases h2:j<=i/\i<j+k
      ·rw[if_pos h2,if_pos (by lia)]
      ·rw[if_neg h2,if_neg (by lia)]
    ·rintro σ H' ⟨s7,s8,s9,s10,s12,rfl,sx,hc,hrow⟩;refine⟨s7,s8,s9,s10,_,s12,rfl,sx,_,hrow,?_⟩;rw[<-hred,hj,show m-1-(i+1)=j by lia];show _=redF m (λi=>dg p i t) j (ybd m (λi=>dg p i t) (m+j) c);congr 1
     funext z
     unfold ybd;rw[ybe,show m+j-m=j by lia];congr 1;by_cases h2:j<=z/\z<j+m
     ·rw[if_pos h2,if_pos (by lia)]
     ·rw[if_neg h2,if_neg (by lia)]
   ·rintro σ H' ⟨s7,s8,s9,s10,s11,s12,rfl,sx,c,hrow,hred⟩;refine hD _ _ ⟨s7,s8,s9,s10,s11,s12,rfl,sx,c,hrow,λi hi=>?_⟩;rw[show m-1-(2*(m:Int)-2-((m:Int)-1)).toNat=0 by lia]at hred;have e:=congrFun hred i;have e2:=zeg (t:=λi=>dg p i t) hm (m-1) (λi=>dg p i x) (λi=>dg p i y) (λz hz=>yaI hp hy hz) i hi;rw[show m-1+1=m by lia]at e2;exact e.trans e2
 ·intro D' _ _ _ hD;refine⟨_,rfl,_,rfl,a,p,m,t,x,rfl,Same.tup ((yaa hl0 _).trans (yaa hl _)) hF,hp,hp2,by lia,λb1 H1 hb1 s1 e1=>?_⟩;have hl1:H1 l=some (.lst (rowL p (2*m-1) λ_=>0)):=s1 _ _ zaa;have nb1:b1≠l:=λe=>by rw[e,zaa]at hb1;cases hb1
  have sx1:zah l l H H1:=Same.x (((yaa hl0 _).trans (yaa hl _)).trans s1);refine⟨false,b1,rfl,⟨_,SqL.of e1⟩,?_⟩
  let I5:Nat->St->Hp->Prop:=λj σ H'=>Ex6 λs7 s8 s9 s10 s11 s12=>An4 (σ=[some (.ref a),some (Vn x),some (Vn y),some (Vn p),some (Vn m),some (Vn t),some (.ref l),s7,s8,s9,s10,s11,s12]) (zah l l H H') (H' b1=some (.lst (digL p m x))) (H' l=some (.lst (rowL p (2*m-1) λi=>sumN j λj'=>dg p j' x*shN j' (λi=>dg p i y) i)))
  refine ybW (ybm (K:=K) (b:=false) (l:=b1) (xs:=digL p m x)) I5 ⟨none,none,none,none,none,none,rfl,sx1,e1,hl1⟩ ?_ ?_ ?_
  ·rintro i σ H' _ ⟨s7,s8,s9,s10,s11,s12,rfl,_,h,_⟩;exact SqL.of h
  ·rintro j v σ H' H'' hj ⟨s7,s8,s9,s10,s11,s12,rfl,sx,hb,hrow⟩ ⟨T,u,rfl,eu,hT,rfl⟩;rw[ybe]at hj;rw[zdp hj]at eu;cases eu;refine⟨T,_,rfl,SqT.of zaa,rfl,_,_,rfl,_,_,rfl,rfl,?_⟩;have sx2:zah l l H (upd H' T (.tup [.int j,Vn (dg p j x)])):=zfD sx hT;have hb2:(upd H' T (.tup [.int j,Vn (dg p j x)])) b1=some (.lst (digL p m x)):=by rw[zad (zac hb hT)];exact hb
   have hr2:(upd H' T (.tup [.int j,Vn (dg p j x)])) l=some (.lst (rowL p (2*m-1) λi=>sumN j λj'=>dg p j' x*shN j' (λi=>dg p i y) i)):=by rw[zad (zac hrow hT)];exact hrow
   generalize upd H' T (.tup [.int j,Vn (dg p j x)])=G at sx2 hb2 hr2 ⊢;refine⟨_,rfl,_,rfl,a,p,m,t,y,rfl,Same.tup (yde sx2 hlH) hF,hp,hp2,by lia,λb2 H2 hb2' s2 e2=>?_⟩;have nb2:b2≠l:=λe=>by rw[e,hr2]at hb2';cases hb2'
   refine⟨false,b2,rfl,⟨_,SqL.of e2⟩,?_⟩
   let I6:Nat->St->Hp->Prop:=λk σ H'=>Ex4 λs9 s10 s11 s12=>An5 (σ=[some (.ref a),some (Vn x),some (Vn y),some (Vn p),some (Vn m),some (Vn t),some (.ref l),some (Vn j),some (Vn (dg p j x)),s9,s10,s11,s12]) (zah l l H H') (H' b1=some (.lst (digL p m x))) (H' b2=some (.lst (digL p m y))) (H' l=some (.lst (rowL p (2*m-1) λi=>sumN j (λj'=>dg p j' x*shN j' (λi=>dg p i y) i)+if j<=i/\i<j+k then dg p j x*dg p (i-j) y else 0)))
   refine ybW (ybm (K:=K) (b:=false) (l:=b2) (xs:=digL p m y)) I6 ⟨s9,s10,s11,s12,rfl,sx2.trans (Same.x s2),s2 _ _ hb2,e2,?_⟩ ?_ ?_ ?_
   ·rw[s2 _ _ hr2];congr 2;refine ya8 λi _=>?_
    rw[if_neg (by lia)];rfl
   ·rintro i σ H' _ ⟨s9,s10,s11,s12,rfl,_,_,h,_⟩;exact SqL.of h
   ·rintro k v σ H' H'' hk ⟨s9,s10,s11,s12,rfl,sx,hb,hc,hrow⟩ ⟨T,u,rfl,eu,hT,rfl⟩;rw[ybe]at hk;rw[zdp hk]at eu;cases eu;refine⟨T,_,rfl,SqT.of zaa,rfl,_,_,rfl,_,_,rfl,rfl,?_⟩;have sx3:zah l l H (upd H' T (.tup [.int k,Vn (dg p k y)])):=zfD sx hT;have hb3:(upd H' T (.tup [.int k,Vn (dg p k y)])) b1=some (.lst (digL p m x)):=by rw[zad (zac hb hT)];exact hb
    have hc3:(upd H' T (.tup [.int k,Vn (dg p k y)])) b2=some (.lst (digL p m y)):=by rw[zad (zac hc hT)];exact hc
    have hr3:=(zad (o:=.tup [.int k,Vn (dg p k y)]) (zac hrow hT)).trans hrow;generalize upd H' T (.tup [.int k,Vn (dg p k y)])=G at sx3 hb3 hc3 hr3 ⊢;have d1:=yia hp j x;have hjk:j+k<2*m-1:=by lia
    refine⟨_,rfl,_,rfl,_,rfl,_,_,rfl,rfl,?_⟩;refine⟨l,_,_,_,rfl,rfl,SqL.of hr3,zd9 _ hjk rfl,?_⟩;refine⟨_,rfl,_,rfl,_,_,rfl,rfl,.inl ⟨by show -(2^64:Int)<((dg p j x:Nat):Int);lia,by show((dg p j x:Nat):Int)<2^64;lia⟩,?_⟩;refine⟨_,_,rfl,rfl,?_⟩;refine⟨_,rfl,_,_,rfl,rfl,by show(0:Int)<(p:Int);lia,?_⟩;refine⟨_,rfl,_,rfl,_,rfl,_,_,rfl,rfl,?_⟩;refine⟨l,_,_,j+k,rfl,rfl,hr3,yfd (by rw[ybA];exact hjk) rfl,?_⟩;refine⟨_,_,s11,s12,rfl,yeU sx3,by rw[zad nb1];exact hb3,by rw[zad nb2];exact hc3,?_⟩;rw[zaa];congr 2;refine yfb (v:=dg p j x*dg p k y) hjk λi hi=>?_
    by_cases e:i=j+k
    ·subst e;rw[if_pos rfl,if_pos (by lia),if_neg (by lia),Nat.add_zero,show j+k-j=k by lia,Nat.mod_add_mod]
    ·rw[if_neg e];congr 2;by_cases h2:j<=i/\i<j+k
     ·rw[if_pos h2,if_pos (by lia)]
     ·rw[if_neg h2,if_neg (by lia)]
   ·rintro σ H' ⟨s9,s10,s11,s12,rfl,sx,hb,hc,hrow⟩;refine⟨_,_,s9,s10,s11,s12,rfl,sx,hb,?_⟩;rw[hrow,ybe];congr 2;refine ya8 λi _=>?_
    rw[sumN];congr 2;unfold shN;by_cases h1:j<=i
    ·rw[if_pos h1];by_cases h2:i<j+m
     ·rw[if_pos ⟨h1,h2⟩]
     ·rw[if_neg (by lia)];show 0=dg p j x*dg p (i-j) y;rw[yaI hp hy (by lia),Nat.mul_zero]
    ·rw[if_neg h1,if_neg (by lia),Nat.mul_zero]
  ·rintro σ H' ⟨s7,s8,s9,s10,s11,s12,rfl,sx,hb,hrow⟩;refine hD _ _ ⟨s7,s8,s9,s10,s11,s12,rfl,sx,?_⟩;rw[hrow,ybe];congr 2;exact ya8 λi _=>by rw[zdt]
end
end My
end
section
namespace My
open PySem L2 Dg
section
variable {P:Program} {w:World} {mg:Str->Option Value} {base:Heap} {f:Addr} {fd:FuncData}
theorem zig{b:Bool}(h:¬ (!b)=true):b=true:=by cases b <;> simp_all
inductive yd1 (K:PySem.W.Frag) (vs:List V) (H:Hp) (Q:VK) (E:XK):Prop
 |mk (a:Addr) (p m t:Nat) (c1:vs=[.ref a]) (c2:Fld K H a p m t) (c3:2<=p) (c4:1<=m) (c5:p^m<=64) (c6:t<p^m) (c7:∀(b:Bool) H',Same H H'->(b=true->∀x y,0<x->x<p^m->x<p^(m/2+1)->0<y->y<p^m->mul p m t x y≠0)->Q (.bl b) H'):yd1 K vs H Q E
theorem yaq:yag ["_law_field_here","_law_p","_law_m","_law_top","_law_many","_law_one"] ["_law_field_here"] (yac yaL):=⟨rfl,rfl,rfl,by decide +kernel,rfl,by decide +kernel,by decide +kernel⟩
theorem zhc(B:Bl mg)(xC8:Has P w K mg base 1 "_law_raised" ["_law_one","_law_many"] yaf)(xC6:Has P w K mg base 2 "_law_product" ["_law_field_here","_law_one","_law_other"] (ybx K))(F:Fun K "_law_is_good" "_law_is_good" yaL f fd):FnOk P w K mg base CX0 3 f fd ["_law_field_here"] (yd1 K):=by
 refine F.ok yaq (λvs H Q E h=>?_) (λcdv A outer s H vs Q E hr h=>?_)
 ·obtain⟨a,p,m,t,rfl,_⟩:=h;rfl
 obtain⟨a,p,m,t,rfl,hF,hp,hm,hpm,ht,q⟩:=h;have hp2:=p_le hp hm hpm;have hm6:=m_le hp hpm;have hpos:0<p^m:=xBf (by lia);refine⟨_,(((pv 0)≈((1&&&yaq.nd)∩((2&&&yaq.nd)∩((3&&&yaq.nd)∩yaB))))<=<(4<|>yaq.nd<|>(xC8<$>((pv 1)>=>(pv 2)>=>zab)))<=<((@zbO _ _ _ _ _ _ _ rfl (B "range" (by decide)) (yab>=>((zfF rfl)>>>("min",zdX,((pv 4)>=>(xC8<$>((pv 1)>=>(yat|||(zc0|||(pv 2)|||yab)|||yab)>=>zab))>=>zab)))>=>zab) ⋯ ⋯)<&>((5&&&yaq.nd),(~~~((@zgx _ _ _ _ (@zep _ _ _ ((ygh rfl)>>>("all",PyProof.Rows.boot_all,((["_law_other"]⊆(["_law_field_here","_law_one"],[0,5],["_law_field_here","_law_p","_law_m","_law_top","_law_many","_law_one"],yaL,(@zbO _ _ _ _ _ _ _ rfl (B "range" (by decide)) (yab>=>(pv 4)>=>zab) ⋯ ⋯),(0⊇["_law_other","_law_field_here","_law_one"]),zaZ,(@zcm _ _ _ _ _ _ _ _ yeF (xC6<$>((pv 1)>=>(pv 2)>=>(pv 0)>=>zab)) yab (ycT _))))>=>zab))) (by intro _;rfl)))*>((~~~(yc4⁻¹)),yam)))))<=<(~~~(yc4⁻¹))),?_⟩
 try dsimp only[cxOf]
 refine⟨_,rfl,a,_,rfl,hF,rfl,_,_,rfl,_,_,rfl,_,_,rfl,rfl,?_⟩;refine⟨_,rfl,_,rfl,p,m,rfl,hp2,by lia,?_⟩;refine⟨_,rfl,_,rfl,_,rfl,_,_,rfl,rfl,⟨by show(0:Int)<2;decide,by show(2:Int)<2^64;decide⟩,?_⟩;refine⟨_,_,rfl,rfl,?_⟩;refine⟨p,m/2+1,rfl,hp2,by lia,?_⟩;refine⟨_,_,rfl,?_⟩;generalize hj:(if (((p^(m/2+1):Nat):Int)<((p^m:Nat):Int)) then((p^(m/2+1):Nat):Int) else((p^m:Nat):Int))=j;have hj2:0<=j/\j<=((p^m:Nat):Int)/\∀x:Nat,x<p^m->x<p^(m/2+1)->(x:Int)<j:=by
  rw[<-hj];split
  ·exact⟨by lia,by lia,λx h1 h2=>by lia⟩
  ·exact⟨by lia,by lia,λx h1 h2=>by lia⟩
 refine⟨1,j,rfl,⟨by lia,by lia,by lia,by lia⟩,?_⟩
 let I1:Nat->St->Hp->Prop:=λi σ H'=>An3 (Same H H') (∀x y,0<x->x<1+i->0<y->y<p^m->mul p m t x y≠0) (∃s,σ=[some (.ref a),some (Vn p),some (Vn m),some (Vn t),some (Vn (p^m)),s])
 refine zaD I1 ⟨Same.refl _,λx y h1 h2=>by lia,none,rfl⟩ ?_ ?_
 ·rintro i σ H' hi ⟨sm,hno,s,rfl⟩;refine⟨_,rfl,1,((p^m:Nat):Int),rfl,⟨by lia,by lia,by lia,by lia⟩,?_⟩;refine yao ybC (λk acc H1=>Same H H1/\acc=((List.range k).map λj=>decide (0<mul p m t (1+i) (1+j))).map V.bl) ⟨sm,rfl⟩ (λ_ _ _ _ _=>trivial) ?_ ?_ ?_
  ·rintro k acc H1 hk ⟨_,rfl⟩;rw[xA1,xA1,xAy];exact xBr (show k<=1000 by lia) (yah (xA5 _))
  ·rintro k acc x H1 H2 hk ⟨sm1,rfl⟩ ⟨rfl,rfl⟩;refine⟨_,rfl,_,rfl,_,rfl,a,p,m,t,1+i,1+k,rfl,Same.tup sm1 hF,hp,hm,hpm,ht,by lia,by lia,λr H3 s3 br hr=>?_⟩;have e:=ygw hp hm br hr;subst e;refine⟨_,_,rfl,rfl,sm1.trans s3,?_⟩;rw[xBz,xAk,xAk];refine congrArg (_++[V.bl ·]) ?_;show decide ((0:Int)<((mul p m t (1+i) (1+k):Nat):Int))=decide (0<mul p m t (1+i) (1+k));exact decide_eq_decide.mpr (by lia)
  ·rintro acc H1 ⟨sm1,rfl⟩ D hD;refine⟨D,_,rfl,SqL.of zaa,_,rfl,?_⟩;refine ite2 (λc=>?_) (λc=>?_)
   ·exact q _ _ (sm1.trans (yaa hD _)) (λh=>by cases h)
   ·refine⟨sm1.trans (yaa hD _),λx y h1 h2 h3 h4=>?_,_,rfl⟩;by_cases hx:x<1+i
    ·exact hno x y h1 hx h3 h4
    ·have c2:((List.range (((p^m:Nat):Int)-1).toNat).map λj=>decide (0<mul p m t (1+i) (1+j))).all id=true:=zig c;rw[xAY]at c2;have c3:=c2 (decide (0<mul p m t (1+i) (1+(y-1)))) (xA9.mpr ⟨y-1,xAt.mpr (by lia),rfl⟩);have c4:0<mul p m t (1+i) (1+(y-1)):=xAn c3;rw[show 1+i=x by lia,show 1+(y-1)=y by lia]at c4
     lia
 ·rintro σ H' ⟨sm,hno,s,rfl⟩;refine q _ _ sm λ_ x y h1 h2 h3 h4 h5=>hno x y h1 ?_ h4 h5
  have:=hj2.2.2 x h2 h3
  lia
end
end My
end
section
namespace My
open PySem L2 Dg
theorem ygf{p m:Nat}(h:(p,m)∈Dg.menu):(p,1)∈Dg.menu:=(by decide +kernel:∀c∈Dg.menu,(c.1,1)∈Dg.menu) (p,m) h
def yfL:List (Int×Int)->TA
 | []=>tNil
 |(p,m)::r=>zcK (tTup (zcK (tC (.int p)) (zcK (tC (.int m)) tNil))) (yfL r)
@[irreducible] noncomputable def ydi (ps:List (Int×Int)):TA:=yfL ps
theorem zdm(ps:List (Int×Int)):ydi ps=yfL ps:=by unfold ydi;rfl
theorem ydF:ydi []=tNil:=by rw[zdm];rfl
theorem ycU{p m:Int}{r:List (Int×Int)}:ydi ((p,m)::r)=zcK (tTup (zcK (tC (.int p)) (zcK (tC (.int m)) tNil))) (ydi r):=by rw[zdm,zdm];rfl
section
variable {X:Cx}
theorem zcG:PA X [] (ydi []):=by rw[ydF];exact zab
theorem yae{p m:Int}{k1 k2 c:Nat}{p1 p2 p3:Pos}{es:List Expr}{r:List (Int×Int)}(h:PA X es (ydi r)):PA X (.Tuple [.Constant (.int p) k1 p1,.Constant (.int m) k2 p2] c p3::es) (ydi ((p,m)::r)):=by
 rw[ycU];exact zde (yaM (zde yab (zde yab zab))) h
end
def zcQ(H:Hp)(t:Addr):Prop:=Ex2 λ(p m:Nat)=>H t=some (.tup [Vn p,Vn m])/\(p,m)∈Dg.menu
theorem zcQ.same(h:zcQ H t)(s:∀o,H t=some o->H' t=some o):zcQ H' t:=by
 obtain⟨p,m,e,q⟩:=h;exact⟨p,m,s _ e,q⟩
theorem ycz:∀(ps:List (Int×Int)) (σ:St) (H:Hp) (Q:List V->Hp->Prop),(∀x∈ps,Ex2 λ(p m:Nat)=>x=((p:Int),(m:Int))/\(p,m)∈Dg.menu)->
  (∀(ts:List Addr) H',Same H H'->ts.length=ps.length->(∀t∈ts,H t=none/\zcQ H' t)->Q (ts.map V.ref) H')->ydi ps σ H Q
 | [],σ,H,Q,_,q=>by rw[ydF];exact q [] H (Same.refl _) rfl (λt ht=>nomatch ht)
 |(p,m)::r,σ,H,Q,hp,q=>by
  rw[ycU];refine⟨szl 2,λt ht=>?_⟩;obtain⟨p',m',e,b⟩:=hp (p,m) xA7;cases e;refine ycz r σ _ _ (λx hx=>hp x (xAb _ hx)) λts H' s hl hts=>?_
  refine q (t::ts) H' ((yaa ht _).trans s) (by simp[hl]) λt' ht'=>?_
  rcases xAa.mp ht' with e|e
  ·subst e;exact⟨ht,p',m',s _ _ zaa,b⟩
  ·exact⟨(yaa ht _).free (hts t' e).1,(hts t' e).2⟩
structure Menu(a g:Addr)(H:Hp)(l:Addr)(n:Nat):Prop where
 ex:∃ts:List Addr,H l=some (.lst (ts.map V.ref))/\ts.length=n/\∀t∈ts,t≠a/\t≠g/\zcQ H t
 na:l≠a
 ng:l≠g
theorem Menu.x{n:Nat}(h:Menu a g H l n)(s:zah a g H H'):Menu a g H' l n:=by
 obtain⟨⟨ts,h1,h2,h3⟩,na,ng⟩:=h;exact⟨⟨ts,s _ _ na ng h1,h2,λt ht=>⟨(h3 t ht).1,(h3 t ht).2.1,(h3 t ht).2.2.same λo e=>s _ _ (h3 t ht).1 (h3 t ht).2.1 e⟩⟩,na,ng⟩
section
variable {P:Program} {w:World} {mg:Str->Option Value} {base:Heap} {f:Addr} {fd:FuncData}
def zbP:List Nat:=[17,19,23,29,31,37,41,43,47,53,59]
inductive zdc (vs:List V) (H:Hp) (Q:VK) (E:XK):Prop
 |mk (a g:Addr) (c1:vs=[.ref a]) (c2:Pu H a g) (c3:∀(r:Addr) (p m t:Nat) H',r≠a->r≠g->H r=none->H' r=some (.tup [Vn p,Vn m,Vn t])->Good p m t->Pu H' a g->zah a g H H'->Q (.ref r) H'):zdc vs H Q E
theorem zai:yag ["_law_purse_here","_law_some","_law_size","_law_p","_law_m","_law_many","_law_start","_law_turn","_law_field_here"] ["_law_purse_here"] (yac za1):=⟨rfl,rfl,rfl,by decide +kernel,rfl,by decide +kernel,by decide +kernel⟩
theorem Pu.lt(h:Pu H a g)(hl:H l=none):l≠a/\l≠g:=by
 obtain⟨ns,s,t,h1,h2⟩:=h;exact⟨Ne.symm (zac h1 hl),Ne.symm (zac h2 hl)⟩
theorem zf5(B:Bl mg)(xC3:Has P w K mg base 1 "_law_pick" ["_law_purse_here","_law_many"] zbH)(xC8:Has P w K mg base 1 "_law_raised" ["_law_one","_law_many"] yaf)(xBW:Has P w K mg base 3 "_law_is_good" ["_law_field_here"] (yd1 K))(F:Fun K "_law_field" "_law_field" za1 f fd):FnOk P w K mg base CX0 4 f fd ["_law_purse_here"] zdc:=by
 refine F.ok zai (λvs H Q E h=>?_) (λcdv A outer s H vs Q E hr h=>?_)
 ·obtain⟨a,g,rfl,_⟩:=h;rfl
 obtain⟨a,g,rfl,hP,q⟩:=h;refine⟨_,((1<|>zai.nd<|>(@yax _ _ _ _ (@yae _ _ _ _ _ _ _ _ _ _ _ (@yae _ _ _ _ _ _ _ _ _ _ _ (@yae _ _ _ _ _ _ _ _ _ _ _ (@yae _ _ _ _ _ _ _ _ _ _ _ (@yae _ _ _ _ _ _ _ _ _ _ _ (@yae _ _ _ _ _ _ _ _ _ _ _ (@yae _ _ _ _ _ _ _ _ _ _ _ (@yae _ _ _ _ _ _ _ _ _ _ _ (@yae _ _ _ _ _ _ _ _ _ _ _ (@yae _ _ _ _ _ _ _ _ _ _ _ (@yae _ _ _ _ _ _ _ _ _ _ _ (@yae _ _ _ _ _ _ _ _ _ _ _ zcG))))))))))))))<=<(2<|>zai.nd<|>(xC3<$>((pv 0)>=>yab>=>zab)))<=<((zbg∪(pv 2)∪yab)*>((~~~(1<|>zai.nd<|>(@yax _ _ _ _ (@yae _ _ _ _ _ _ _ _ _ _ _ (@yae _ _ _ _ _ _ _ _ _ _ _ (@yae _ _ _ _ _ _ _ _ _ _ _ (@yae _ _ _ _ _ _ _ _ _ _ _ zcG))))))),yam))<=<((zbg∪(pv 2)∪yab)*>((~~~(@zbr _ 1 _ _ _ _ _ _ _ _ _ ["_law_p"] [] [] _ _ _ _ zai.nd rfl (Or.inl rfl) (id (α:=CSc ["_law_purse_here","_law_some","_law_size","_law_p","_law_m","_law_many","_law_start","_law_turn","_law_field_here"] (yac za1) ["_law_p"] [] [] _) ⟨by rfl,by decide +kernel,by decide +kernel,by decide +kernel,by decide +kernel,by rfl,by decide +kernel⟩) rfl (@zaH _ _ _ _ (@yax _ _ _ _ (yab>=>yab>=>yab>=>yab>=>yab>=>yab>=>yab>=>yab>=>yab>=>yab>=>yab>=>zab))) (λcl C fp s H=>(0⊇["_law_p"])) (λ_ _ _ _ _=>zaZ) (λ_ _ _ _ _=>(@yaM _ _ _ _ _ ((pv 0)>=>yab>=>zab))) ⋯ (by intro _;rfl) (by trivial))),yam))<=<((yai<<<(pv 1)<<<(xC3<$>((pv 0)>=>(zar>>>("len",PySem.boot_len,((pv 1)>=>zab)))>=>zab)))≈((3&&&zai.nd)∩((4&&&zai.nd)∩yaB)))<=<(5<|>zai.nd<|>(xC8<$>((pv 3)>=>(pv 4)>=>zab)))<=<(6<|>zai.nd<|>(xC3<$>((pv 0)>=>(pv 5)>=>zab)))<=<((↑((pv 5)>=>zab))<&>((7&&&zai.nd),((8<|>zai.nd<|>(@yaM _ _ _ _ _ ((pv 3)>=>(pv 4)>=>(yaA|||(yat|||(pv 6)|||(pv 7))|||(pv 5))>=>zab)))<=<(~~~((@PW.pt _ _ _ (@zeN _ _ _ _ _ _ _ (zbg∪(pv 4)∪yab) (@ycX _ _ _ _ (@zep _ _ _ (xBW<$>((pv 8)>=>zab)) (by intro _;rfl)))))*>((~~~((pv 8)⁻¹)),yam))))))<=<(~~~((@yaM _ _ _ _ _ ((pv 3)>=>yab>=>yab>=>zab))⁻¹))),?_⟩
 try dsimp only[cxOf]
 refine ycz [(2,1),(2,2),(2,3),(2,4),(3,1),(3,2),(3,3),(5,1),(5,2),(7,1),(11,1),(13,1)] _ H _ ?_ λts H0 s0 hts hpair=>?_
 ·intro x hx;simp only[xAa,xAf,xB2]at hx;rcases hx with rfl|rfl|rfl|rfl|rfl|rfl|rfl|rfl|rfl|rfl|rfl|rfl
  ·exact⟨2,1,rfl,by decide +kernel⟩
  ·exact⟨2,2,rfl,by decide +kernel⟩
  ·exact⟨2,3,rfl,by decide +kernel⟩
  ·exact⟨2,4,rfl,by decide +kernel⟩
  ·exact⟨3,1,rfl,by decide +kernel⟩
  ·exact⟨3,2,rfl,by decide +kernel⟩
  ·exact⟨3,3,rfl,by decide +kernel⟩
  ·exact⟨5,1,rfl,by decide +kernel⟩
  ·exact⟨5,2,rfl,by decide +kernel⟩
  ·exact⟨7,1,rfl,by decide +kernel⟩
  ·exact⟨11,1,rfl,by decide +kernel⟩
  ·exact⟨13,1,rfl,by decide +kernel⟩
 refine⟨by rw[xA1,hts];exact szl 12,λl hl=>?_⟩;have hP0:Pu (upd H0 l (.lst (ts.map V.ref))) a g:=hP.same (s0.trans (yaa hl _));have sx0:zah a g H (upd H0 l (.lst (ts.map V.ref))):=Same.x (s0.trans (yaa hl _));have M0:Menu a g (upd H0 l (.lst (ts.map V.ref))) l 12:=by
  have n1:=(hP.same s0).lt hl;refine⟨⟨ts,zaa,hts,λt ht=>?_⟩,n1.1,n1.2⟩;have n2:=hP.lt (hpair t ht).1;exact⟨n2.1,n2.2,(hpair t ht).2.same λo e=>(yaa hl _) _ _ e⟩
 generalize upd H0 l (.lst (ts.map V.ref))=G at hP0 sx0 M0 ⊢;refine⟨_,rfl,a,g,8,rfl,hP0,by lia,by lia,λsz H1 hsz hP1 sx1=>?_⟩;have sxA:=sx0.trans sx1;have M1:=M0.x sx1;dsimp only[yap]
 let I1:St->Hp->Prop:=λσ H'=>Ex2 λl n=>An6 (0<n) (n<=12) (Menu a g H' l n) (Pu H' a g) (zah a g H H') (σ=[some (.ref a),some (.ref l),some (Vn sz),none,none,none,none,none,none])
 refine yaU I1 ?_ ?_
 ·rintro σ H2 ⟨l,n,hn,hn2,M2,hP2,sx2,rfl⟩
  let I2:St->Hp->Prop:=λσ H'=>Ex2 λl n=>An6 (0<n) (n<=12) (Menu a g H' l n) (Pu H' a g) (zah a g H H') (σ=[some (.ref a),some (.ref l),some (Vn sz),none,none,none,none,none,none])
  refine yaU I2 ?_ ?_
  ·rintro σ H3 ⟨l,n,hn,hn2,M3,hP3,sx3,rfl⟩;obtain⟨ts3,e3,l3,p3⟩:=M3.ex;refine⟨_,rfl,_,rfl,_,rfl,l,_,rfl,.inl (SqL.of e3),?_⟩;refine⟨a,g,n,by rw[xA1,l3];rfl,hP3,hn,by lia,λi H4 hi hP4 sx4=>?_⟩;obtain⟨ts4,e4,l4,p4⟩:=(M3.x sx4).ex;have hi4:i<ts4.length:=by lia
   refine⟨l,_,_,.ref (ts4[i]),rfl,rfl,SqL.of e4,zbc (by rw[xAd,xAc hi4];rfl),?_⟩;obtain⟨_,_,p,m,ep,hmem⟩:=p4 ts4[i] (xBB hi4);obtain⟨hp,hm,hpm⟩:=za8 hmem;have hp2:=p_le hp hm hpm;have hm6:=m_le hp hpm;have hpos:0<p^m:=xBf (by lia);refine⟨ts4[i],_,rfl,SqT.of ep,rfl,_,_,rfl,_,_,rfl,rfl,?_⟩;refine⟨_,rfl,_,rfl,p,m,rfl,hp2,by lia,?_⟩;refine⟨_,rfl,_,rfl,a,g,p^m,rfl,hP4,hpos,by lia,λst H5 hst hP5 sx5=>?_⟩;have sxE:=sx3.trans (sx4.trans sx5);refine⟨_,rfl,((p^m:Nat):Int),rfl,by lia,by lia,?_⟩
   let I3:Nat->St->Hp->Prop:=λi σ H'=>An3 (Pu H' a g) (zah a g H H') (Ex2 λs7 s8=>σ=[some (.ref a),some (.ref l),some (Vn sz),some (Vn p),some (Vn m),some (Vn (p^m)),some (Vn st),s7,s8])
   refine zaD (n:=p^m) I3 ⟨hP5,sxE,none,none,rfl⟩ ?_ ?_
   ·rintro j σ H6 hj ⟨hP6,sx6,s7,s8,rfl⟩;refine⟨_,rfl,_,rfl,_,rfl,_,rfl,_,_,rfl,rfl,?_⟩;refine⟨_,rfl,_,_,rfl,rfl,by show(0:Int)<((p^m:Nat):Int);lia,?_⟩;refine⟨szl 3,λr hr=>?_⟩;have nr:=hP6.lt hr;have hr0:H r=none:=by
     cases e:H r with
     |none=>rfl
     |some o=>rw[sx6 r o nr.1 nr.2 e]at hr;cases hr
    have et:V.int ((((st:Nat):Int)+(0+(j:Int)))%((p^m:Nat):Int))=Vn ((st+j)%p^m):=by show V.int _=V.int _;congr 1;rw[Int.zero_add];rfl
    have hlt:(st+j)%p^m<p^m:=xBh _ hpos;have hP7:Pu (upd H6 r (.tup [Vn p,Vn m,Vn ((st+j)%p^m)])) a g:=hP6.same (yaa hr _);have sx7:zah a g H (upd H6 r (.tup [Vn p,Vn m,Vn ((st+j)%p^m)])):=sx6.trans (Same.x (yaa hr _));dsimp only[yap];rw[et];refine⟨_,rfl,rfl,_,rfl,?_⟩;refine ite2 (λc=>?_) (λc=>?_)
    ·refine ite2 (λ_=>?_) (λc=>absurd rfl c);have hm1:m=1:=by
      have:=xAn c;injection this with this
      lia
     exact⟨_,rfl,q r p m _ _ nr.1 nr.2 hr0 zaa ⟨hmem,hlt,.inl hm1⟩ hP7 sx7⟩
    ·refine⟨_,rfl,r,p,m,(st+j)%p^m,rfl,SqT.of zaa,hp,hm,hpm,hlt,λb H8 s8' hb=>?_⟩;refine⟨_,rfl,?_⟩;refine ite2 (λc2=>?_) (λ_=>?_)
     ·exact⟨_,rfl,q r p m _ _ nr.1 nr.2 hr0 (s8' _ _ zaa) ⟨hmem,hlt,.inr (hb c2)⟩ (hP7.same s8') (sx7.trans (Same.x s8'))⟩
     ·exact⟨hP7.same s8',sx7.trans (Same.x s8'),_,_,rfl⟩
   ·rintro σ H6 ⟨hP6,sx6,s7,s8,rfl⟩;refine⟨_,rfl,szl 3,λr hr=>?_⟩;have nr:=hP6.lt hr;have hr0:H r=none:=by
     cases e:H r with
     |none=>rfl
     |some o=>rw[sx6 r o nr.1 nr.2 e]at hr;cases hr
    exact q r p 1 0 _ nr.1 nr.2 hr0 zaa ⟨ygf hmem,by simp;lia,.inl rfl⟩ (hP6.same (yaa hr _)) (sx6.trans (Same.x (yaa hr _)))
  ·intro D' _ _ _ hD;refine⟨_,rfl,rfl,_,rfl,?_⟩;refine ite2 (λc=>?_) (λc=>hD _ _ ⟨l,n,hn,hn2,M2,hP2,sx2,rfl⟩);refine⟨szl 11,λl2 hl2=>?_⟩;refine⟨l2,rfl,⟨_,SqL.of zaa⟩,?_⟩;refine yao (zaO (xs:=zbP.map Vn)) (λk acc H'=>Same (upd H2 l2 (.lst (zbP.map Vn))) H'/\∃ts:List Addr,ts.length=k/\acc=ts.map V.ref/\∀t∈ts,t≠a/\t≠g/\zcQ H' t)
    ⟨Same.refl _,[],rfl,rfl,λt ht=>nomatch ht⟩ (λi acc H' _ h=>SqL.of (h.1 _ _ zaa)) ?_ ?_ ?_
   ·rintro k acc H' hk ⟨_,ts,e,rfl,_⟩;have hk':k<11:=hk;rw[xA1,e];exact yah (by lia)
   ·rintro k acc x H3 H4 hk ⟨s3,ts,e,rfl,hts⟩ ⟨rfl,hx⟩;obtain⟨pr,hpr,rfl⟩:∃pr,pr∈zbP/\x=Vn pr:=by
     rw[xAd]at hx;cases e:zbP[k]? with
     |none=>rw[e]at hx;cases hx
     |some pr=>rw[e]at hx;cases hx;exact⟨pr,xAS e,rfl⟩
    have hb:(pr,1)∈Dg.menu:=(by decide +kernel:∀x∈zbP,(x,1)∈Dg.menu) pr hpr;refine⟨_,rfl,szl 2,λt ht=>?_⟩;have hP3:Pu H4 a g:=hP2.same ((yaa hl2 _).trans s3);have nt:=hP3.lt ht;refine⟨s3.trans (yaa ht _),ts++[t],by simp[e],by simp,λt' ht'=>?_⟩;rcases xAr.mp ht' with h|h
    ·exact⟨(hts t' h).1,(hts t' h).2.1,(hts t' h).2.2.same λo e=>(yaa ht _) _ _ e⟩
    ·cases xAl.mp h;exact⟨nt.1,nt.2,pr,1,zaa,hb⟩
   ·rintro acc H3 ⟨s3,ts,e,rfl,hts⟩ D hD3;have sA:Same H2 H3:=(yaa hl2 _).trans s3;have hP3:Pu H3 a g:=hP2.same sA;have nD:=hP3.lt hD3;refine hD _ _ ⟨D,11,by lia,by lia,⟨⟨ts,zaa,e,λt ht=>?_⟩,nD.1,nD.2⟩,hP3.same (yaa hD3 _),sx2.trans (Same.x (sA.trans (yaa hD3 _))),rfl⟩;exact⟨(hts t ht).1,(hts t ht).2.1,(hts t ht).2.2.same λo e=>(yaa hD3 _) _ _ e⟩
 ·intro D' _ _ _ hD;refine⟨_,rfl,rfl,_,rfl,?_⟩;refine ite2 (λc=>?_) (λc=>hD _ _ ⟨l,12,by lia,by lia,M1,hP1,sxA,rfl⟩);refine ycz [(2,5),(2,6),(7,2),(61,1)] _ H1 _ ?_ λts2 H2 s2 hts2 hpair2=>?_
  ·intro x hx;simp only[xAa,xAf,xB2]at hx;rcases hx with rfl|rfl|rfl|rfl
   ·exact⟨2,5,rfl,by decide +kernel⟩
   ·exact⟨2,6,rfl,by decide +kernel⟩
   ·exact⟨7,2,rfl,by decide +kernel⟩
   ·exact⟨61,1,rfl,by decide +kernel⟩
  refine⟨by rw[xA1,hts2];exact szl 4,λl2 hl2=>?_⟩;refine hD _ _ ⟨l2,4,by lia,by lia,?_,hP1.same (s2.trans (yaa hl2 _)),sxA.trans (Same.x (s2.trans (yaa hl2 _))),rfl⟩;have n1:=(hP1.same s2).lt hl2;refine⟨⟨ts2,zaa,hts2,λt ht=>?_⟩,n1.1,n1.2⟩;have n2:=hP1.lt (hpair2 t ht).1;exact⟨n2.1,n2.2,(hpair2 t ht).2.same λo e=>(yaa hl2 _) _ _ e⟩
end
end My
end
section
namespace My
open PySem L2 Dg
theorem ydN:bootBuiltins "dict"=some (.type "dict"):=by decide +kernel
def Pws(p m t b:Nat):List Nat:=(List.range (p^m-1)).map (pw p m t b)
def Logs(p m t b:Nat):List (Key×V):=(List.range (p^m-1)).map λi=>(Sum.inl ((pw p m t b i:Nat):Int),Vn i)
noncomputable def tabD(fa pa la:Addr)(p m:Nat):List (Key×V):=[(.inr "field",.ref fa),(.inr "p",Vn p),(.inr "m",Vn m),(.inr "many",Vn (p^m)),(.inr "powers",.ref pa),(.inr "logs",.ref la)]
structure Tab(H:Hp)(tb fa pa la:Addr)(p m t b:Nat):Prop where
 d:H tb=some (.dK (tabD fa pa la p m))
 f:H fa=some (.tup [Vn p,Vn m,Vn t])
 w:H pa=some (.lst ((Pws p m t b).map Vn))
 l:H la=some (.dK (Logs p m t b))
 good:Good p m t
 prim:Prim p m t b
theorem Tab.same{H H':Hp}{tb fa pa la:Addr}{p m t b:Nat}(T:Tab H tb fa pa la p m t b)(s:Same H H'):Tab H' tb fa pa la p m t b :=
 ⟨s _ _ T.d,s _ _ T.f,s _ _ T.w,s _ _ T.l,T.good,T.prim⟩
theorem zaX{α:Type}{f:Nat->α}(n:Nat)(h:∀i j,i<n->j<n->f i=f j->i=j):((List.range n).map f).Nodup:=by
 rw[List.Nodup,List.pairwise_iff_getElem];intro i j hi hj hij;simp only[xA1,xAy]at hi hj;simp only[List.getElem_map,List.getElem_range];intro e;have:=h i j hi hj e
 lia
theorem yeQ{f:Nat->Key}{g:Nat->V}:∀(l:List Nat) (n:Nat),l=List.range n->(∀i j,i<n->j<n->f i=f j->i=j)->∀i,i<n->valV (l.map λi=>(f i,g i)) (f i)=some (g i):=by
 intro l n hl h i hi;subst hl;unfold valV;rw[List.find?_map];have e:(List.range n).find? ((λkv:Key×V=>decide (kv.1=f i)) ∘ λi=>(f i,g i))=some i:=by
  rw[List.find?_range_eq_some];refine⟨by simp,by simpa using hi,λj hj=>?_⟩;simp only[Function.comp,Bool.not_eq_true',decide_eq_false_iff_not];intro e;have:=h j i (by lia) hi e
  lia
 rw[e];rfl
theorem yeO(fa pa la:Addr)(p m:Nat):zcV [] (tabD fa pa la p m)=tabD fa pa la p m:=rfl
theorem zdb(p m t b:Nat):(Pws p m t b).length=p^m-1:=by simp[Pws]
section
variable {P:Program} {w:World} {mg:Str->Option Value} {base:Heap} {f:Addr} {fd:FuncData}
inductive ydm (vs:List V) (H:Hp) (Q:VK) (E:XK):Prop
 |mk (fa:Addr) (p m t:Nat) (c1:vs=[.ref fa]) (c2:H fa=some (.tup [Vn p,Vn m,Vn t])) (c3:Good p m t) (c4:∀tb pa la b H',H tb=none->H pa=none->H la=none->Tab H' tb fa pa la p m t b->Same H H'->Q (.ref tb) H'):ydm vs H Q E
theorem yaw:yag ["_law_field_here","_law_many","_law_powers","_law_base","_law_thing","_law_logs"] ["_law_field_here"] (yac za3):=⟨rfl,rfl,rfl,by decide +kernel,rfl,by decide +kernel,by decide +kernel⟩
theorem zgn(B:Bl mg)(xC8:Has P w K mg base 1 "_law_raised" ["_law_one","_law_many"] yaf)(xC6:Has P w K mg base 2 "_law_product" ["_law_field_here","_law_one","_law_other"] (ybx K))(F:Fun K "_law_table" "_law_table" za3 f fd):FnOk P w K mg base CX0 3 f fd ["_law_field_here"] ydm:=by
 refine F.ok yaw (λvs H Q E h=>?_) (λcdv A outer s H vs Q E hr h=>?_)
 ·obtain⟨fa,p,m,t,rfl,_⟩:=h;rfl
 obtain⟨fa,p,m,t,rfl,hf,G,q⟩:=h;obtain⟨b,Pb⟩:=G.prim;have hp:=G.hp;have hm:=G.hm;have hpm:=G.hq;have ht:=G.top;have hp2:=p_le hp hm hpm;have hm6:=m_le hp hpm;have hQ2:=zay hp hm;have hbp:=Pb.pos;have hbl:=Pb.lt;refine⟨_,((1<|>yaw.nd<|>(xC8<$>((zaq<<<(pv 0)<<<yab)>=>(zaq<<<(pv 0)<<<yab)>=>zab)))<=<(@zbj _ _ 2 3 _ _ _ _ _ _ _ _ _ _ _ rfl yaw.nd rfl rfl (by decide) rfl rfl ((@yax _ _ _ _ zab)>=>yab>=>zab) rfl ⋯)<=<(@zbB _ _ _ _ _ _ PassesOwn.never (zgY∪(zar>>>("len",PySem.boot_len,((pv 2)>=>zab)))∪(za7|||(pv 1)|||yab)) ((@yd5 _ _ 3 2 4 _ _ _ _ _ _ _ _ _ _ _ _ _ _ rfl yaw.nd rfl rfl rfl (by decide) rfl rfl rfl ((yat|||(pv 3)|||yab)>=>(@yax _ _ _ _ (yab>=>zab))>=>(yat|||(pv 3)|||yab)>=>zab) rfl ⋯)<=<(~~~(@zbB _ _ _ _ _ _ PassesOwn.never (yfq∪(pv 4)∪yab) ((@zbK _ _ _ _ (@ydW _ _ _ _ _ _ _ _ _ _ _ _ xBN PySem.F.slot_list_append PySem.F.type_list_append zbS (pv 2) ((pv 4)>=>zab) ⋯ ⋯ ⋯ ⋯ ⋯) ⋯)<=<(~~~(4<|>yaw.nd<|>(xC6<$>((pv 0)>=>(pv 4)>=>(pv 3)>=>zab)))))))))<=<(5<|>yaw.nd<|>((zcz rfl)<*("dict",ydN,((["_law_at","_law_thing"]⊆([],[],["_law_field_here","_law_many","_law_powers","_law_base","_law_thing","_law_logs"],za3,(@ycH _ _ _ _ _ _ _ _ rfl (B "enumerate" (by decide)) ((pv 2)>=>zab) ⋯),(@yeT _ _ _ _ 2 _ K rfl rfl ((0⊇["_law_at","_law_thing"])∩((1⊇["_law_at","_law_thing"])∩yaB)) ⋯ ⋯),zaZ,(@yaM _ _ _ _ _ ((pv 1)>=>(pv 0)>=>zab))))>=>zab))))<=<(~~~((@zgP _ _ _ _ _ (@ybw _ _ _ _ _ _ _ _ _ yas (pv 0) (@ybw _ _ _ _ _ _ _ _ _ yas (zaq<<<(pv 0)<<<yab) (@ybw _ _ _ _ _ _ _ _ _ yas (zaq<<<(pv 0)<<<yab) (@ybw _ _ _ _ _ _ _ _ _ yas (pv 1) (@ybw _ _ _ _ _ _ _ _ _ yas (pv 2) (@ybw _ _ _ _ _ _ _ _ _ yas (pv 5) ygW)))))) rfl rfl (λh=>nomatch h) (by decide))⁻¹))),?_⟩
 try dsimp only[cxOf]
 refine⟨_,rfl,fa,_,_,_,rfl,rfl,SqT.of hf,rfl,?_⟩;refine⟨_,rfl,fa,_,_,_,rfl,rfl,SqT.of hf,rfl,?_⟩;refine⟨p,m,rfl,hp2,by lia,?_⟩;refine⟨szl 0,λl0 hl0=>⟨_,_,rfl,?_⟩⟩;dsimp only[]
 let I1:St->Hp->Prop:=λσ H'=>Same H H'/\Ex2 λpa s4=>An3 (H pa=none) (H' pa=some (.lst ((Pws p m t b).map Vn))) (σ=[some (.ref fa),some (Vn (p^m)),some (.ref pa),some (Vn b),s4,none])
 refine yaU I1 ?_ ?_
 ·rintro σ H1 ⟨s1,pa,s4,npa,epa,rfl⟩;refine⟨_,rfl,false,pa,rfl,⟨_,SqL.of epa⟩,?_⟩;refine yao (ybm (b:=false) (xs:=(Pws p m t b).map Vn)) (λk acc H'=>Same H1 H'/\∃ts:List Addr,ts.length=k/\acc=ts.map V.ref/\∀j a,ts[j]?=some a->H' a=some (.tup [Vn (pw p m t b j),Vn j])) ⟨Same.refl _,[],rfl,rfl,λj a e=>by simp at e⟩ (λi acc H' _ h=>SqL.of (h.1 _ _ epa)) ?_ ?_ ?_
  ·rintro k acc H' hk ⟨_,ts,e,rfl,_⟩;rw[xA1,zdb]at hk;rw[xA1,e];exact yah (by lia)
  ·rintro k acc x H2 H3 hk ⟨s2,ts,e,rfl,hts⟩ ⟨T,u,rfl,eu,hT,rfl⟩;rw[xA1,zdb]at hk;have eu2:u=Vn (pw p m t b k):=by
    unfold Pws at eu;rw[xAd,xAd,xB7 hk]at eu;exact(xAF eu).symm
   subst eu2;refine⟨T,_,rfl,SqT.of zaa,rfl,_,_,rfl,_,_,rfl,rfl,?_⟩;refine⟨_,rfl,_,rfl,szl 2,λa ha=>?_⟩;have sA:=(yaa hT (.tup [.int (k:Int),Vn (pw p m t b k)])).trans (yaa ha (.tup [Vn (pw p m t b k),Vn k]));refine⟨s2.trans sA,ts++[a],by simp[e],by simp,λj a' ej=>?_⟩;rw[List.getElem?_append]at ej;split at ej
   ·exact sA _ _ (hts j a' ej)
   ·rename_i h;have hj:j=k:=by
     have:=(xAh.mp ej).1;simp at this;lia
    subst hj;simp[e]at ej;subst ej;exact zaa
  ·rintro acc H2 ⟨s2,ts,e,rfl,hts⟩ D hD;rw[xA1,zdb]at e;have sB:=yaa hD (.lst (ts.map V.ref));refine⟨D,ts,Logs p m t b,rfl,zaa,by rw[e];simp[Logs],by simp only[Logs,xA1,xAy];exact szl _ (by lia),λj a kv ej ek=>?_,?_,λla hla=>?_⟩
   ·have hj:j<p^m-1:=by have:=(xAh.mp ej).1;lia
    unfold Logs at ek;rw[xAd,xB7 hj]at ek;cases ek;exact sB _ _ (hts j a ej)
   ·unfold Logs;rw[xAH];refine zaX _ λi j hi hj e=>G.inj Pb i j hi hj ?_
    have e:Sum.inl ((pw p m t b i:Nat):Int)=(Sum.inl ((pw p m t b j:Nat):Int):Key):=e;injection e with e
    lia
   ·intro tb htb;have s3:Same H1 (upd (upd H2 D (.lst (ts.map V.ref))) la (.dK (Logs p m t b))):=(s2.trans sB).trans (yaa hla _);have s4:=s3.trans (yaa htb (.dK []));have s5:=s1.trans s4;refine⟨_,rfl,_,rfl,fa,_,_,_,rfl,rfl,SqT.of (s5 _ _ hf),rfl,?_⟩;refine⟨_,rfl,fa,_,_,_,rfl,rfl,SqT.of (s5 _ _ hf),rfl,?_⟩;refine⟨_,rfl,_,rfl,_,rfl,zaa,tabD fa pa la p m,rfl,by show 6<=15;decide,?_⟩;rw[yd3,yeO];have s6:=s3.trans (yaa htb (.dK (tabD fa pa la p m)));have s7:=s1.trans s6;have old:∀a,H1 a=none->H a=none:=λa ha=>by
     cases e:H a with
     |none=>rfl
     |some o=>rw[s1 _ _ e]at ha;cases ha
    have old2:∀a,upd H2 D (.lst (ts.map V.ref)) a=none->H a=none:=λa ha=>by
     cases e:H a with
     |none=>rfl
     |some o=>rw[(s2.trans sB) _ _ (s1 _ _ e)]at ha;cases ha
    refine q tb pa la b _ ?_ npa (old2 la hla) ⟨zaa,s7 _ _ hf,s6 _ _ epa,(yaa htb _) _ _ zaa,G,Pb⟩ s7;cases e:H tb with
    |none=>rfl
    |some o=>rw[s3 _ _ (s1 _ _ e)]at htb;cases htb
 ·intro D' _ _ _ hD
  let I2:St->Hp->Prop:=λσ H'=>Same H H'/\Ex3 λbase pa s4=>An3 (H pa=none) (σ=[some (.ref fa),some (Vn (p^m)),some (.ref pa),some (Vn base),s4,none]) (∃L:List Nat,H' pa=some (.lst (L.map Vn))/\((base=b/\L=Pws p m t b)\/(base<b/\L.length<p^m-1)))
  refine ybD I2
   (λσ _=>b-mI σ 3) ⟨yaa hl0 _,0,l0,none,hl0,rfl,[],zaa,.inr ⟨hbp,by show 0<p^m-1;lia⟩⟩ ?_
  rintro σ H1 ⟨s1,bs,pa,s4,npa,rfl,L,ePa,hL⟩;refine⟨_,rfl,pa,_,rfl,.inl (SqL.of ePa),?_⟩;refine⟨_,rfl,_,_,rfl,rfl,_,_,rfl,rfl,_,rfl,?_⟩;rw[xA1];refine ite2 (λc=>?_) (λc=>?_)
  ·have c':L.length<p^m-1:=by have:=xAn c;lia
   have hlt:bs<b:=by
    rcases hL with⟨rfl,rfl⟩|h
    ·rw[zdb]at c';lia
    ·exact h.1
   refine⟨λσ' H'=>Same H H'/\Ex2 λpa s4=>H pa=none/\σ'=[some (.ref fa),some (Vn (p^m)),some (.ref pa),some (Vn (bs+1)),s4,none]/\∃L:List Nat,H' pa=some (.lst (L.map Vn))/\((bs+1=b/\L=Pws p m t b)\/(bs+1<b/\L.length<p^m-1)),?_,?_⟩
   ·rintro σ' H' ⟨s2,pa2,s5,n2,rfl,L2,e2,h2⟩;refine⟨_,?_,rfl,s2,bs+1,pa2,s5,n2,rfl,L2,e2,h2⟩;show b-(bs+1)<b-bs;lia
   refine⟨_,rfl,_,_,rfl,rfl,?_⟩;refine⟨szl 1,λl1 hl1=>?_⟩;refine⟨_,rfl,_,_,rfl,rfl,_,_,_,rfl,?_⟩;have n1:H l1=none:=by
    cases e:H l1 with
    |none=>rfl
    |some o=>rw[s1 _ _ e]at hl1;cases hl1
   have hb1:bs+1<p^m:=by lia
   have nfa:fa≠l1:=zac hf n1
   let I3:St->Hp->Prop:=λσ H'=>zah l1 l1 H1 H'/\∃k,An5 (1<=k) (k<=p^m-1) (σ=[some (.ref fa),some (Vn (p^m)),some (.ref l1),some (Vn (bs+1)),some (Vn (pw p m t (bs+1) k)),none]) (H' l1=some (.lst (((List.range k).map (pw p m t (bs+1))).map Vn))) (∀i,0<i->i<k->pw p m t (bs+1) i≠1)
   refine ybD I3
    (λ_ H'=>p^m-zc1 H' l1) ⟨Same.x (yaa hl1 _),1,by lia,by lia,?_,zaa,λi h1 h2=>by lia⟩ ?_
   ·rw[ycG hp hm hb1];rfl
   rintro σ H2 ⟨sx2,k,hk1,hk2,rfl,e2,hne⟩;have hlen:zc1 H2 l1=k:=by rw[zbC e2];simp
   refine⟨_,rfl,rfl,_,rfl,?_⟩;refine ite2 (λc=>?_) (λc=>?_)
   ·have hk:pw p m t (bs+1) k≠1:=by
     intro e;rw[e]at c;exact absurd c (by decide)
    have hk3:k<p^m-1:=by
     rcases xAP k (p^m-1) with h|h
     ·exact h
     ·have:k=p^m-1:=by lia
      rw[this]at hk;exact absurd (G.fermat (by lia) hb1) hk
    have hf2:H2 fa=some (.tup [Vn p,Vn m,Vn t]):=sx2 _ _ nfa nfa (s1 _ _ hf);have e3:((List.range k).map (pw p m t (bs+1))).map Vn++[Vn (pw p m t (bs+1) k)]=((List.range (k+1)).map (pw p m t (bs+1))).map Vn:=by
     rw[xBz,xAk,xAk];rfl
    refine⟨λσ' H'=>zah l1 l1 H1 H'/\σ'=[some (.ref fa),some (Vn (p^m)),some (.ref l1),some (Vn (bs+1)),some (Vn (pw p m t (bs+1) (k+1))),none]/\H' l1=some (.lst (((List.range (k+1)).map (pw p m t (bs+1))).map Vn)),?_,?_⟩
    ·rintro σ' H' ⟨a1,rfl,a3⟩;have hl2:zc1 H' l1=k+1:=by rw[zbC a3];simp
     refine⟨_,?_,rfl,a1,k+1,by lia,by lia,rfl,a3,λi h1 h2=>?_⟩
     ·show p^m-zc1 H' l1<p^m-zc1 H2 l1;rw[hl2,hlen];lia
     ·rcases xAP i k with h|h
      ·exact hne i h1 h
      ·rw[show i=k by lia];exact hk
    refine⟨_,rfl,.inl ⟨rfl,_,SqL.of e2⟩,_,rfl,?_⟩;refine⟨l1,_,_,rfl,rfl,e2,by simp only[xA1,xAy];exact yah (by lia),?_⟩;rw[e3];have s3:zah l1 l1 H1 (upd H2 l1 (.lst (((List.range (k+1)).map (pw p m t (bs+1))).map Vn))):=yeU sx2;refine⟨_,rfl,_,rfl,_,rfl,fa,p,m,t,pw p m t (bs+1) k,bs+1,rfl,SqT.of (by rw[zad nfa];exact hf2),hp,hm,hpm,ht,yaS hp hm _ _,hb1,λr H4 s4' br hr=>?_⟩;have e:=ygw hp hm br hr;subst e;exact⟨s3.trans (Same.x s4'),rfl,s4' _ _ zaa⟩
   ·have hk:pw p m t (bs+1) k=1:=by
     rcases Nat.decEq (pw p m t (bs+1) k) 1 with h|h
     ·exfalso
      refine c ?_;rw[xB3];rfl;intro e;injection e with e;exact h (by lia)
     ·exact h
    refine⟨(s1.trans (yde (sx2) hl1)),l1,_,n1,rfl,_,e2,?_⟩;rcases xAP (bs+1) b with h|h
    ·refine .inr ⟨h,?_⟩;obtain⟨i,i0,i1,ie⟩:=Pb.low (bs+1) (by lia) h;simp only[xA1,xAy];rcases xAP i k with h3|h3
     ·exact absurd ie (hne i i0 h3)
     ·lia
    ·have hbb:bs+1=b:=by lia
     refine .inl ⟨hbb,?_⟩;rw[hbb]at hk ⊢;have:k=p^m-1:=by
      rcases xAP k (p^m-1) with h3|h3
      ·exact absurd hk (Pb.min k (by lia) h3)
      ·lia
     rw[this];rfl
  ·have c':¬ L.length<p^m-1:=by
    intro h;exact c (xAD (by lia))
   rcases hL with⟨rfl,rfl⟩|h
   ·exact hD _ _ ⟨s1,pa,s4,npa,ePa,rfl⟩
   ·exact absurd h.2 c'
theorem zdT{fa pa la:Addr}{p m:Nat}:valV (tabD fa pa la p m) (.inr "p")=some (Vn p):=rfl
theorem zhD{fa pa la:Addr}{p m:Nat}:valV (tabD fa pa la p m) (.inr "m")=some (Vn m):=rfl
theorem zcg{fa pa la:Addr}{p m:Nat}:valV (tabD fa pa la p m) (.inr "many")=some (Vn (p^m)):=rfl
theorem zcX{fa pa la:Addr}{p m:Nat}:valV (tabD fa pa la p m) (.inr "powers")=some (.ref pa):=rfl
theorem yc1{fa pa la:Addr}{p m:Nat}:valV (tabD fa pa la p m) (.inr "logs")=some (.ref la):=rfl
theorem yfA{fa pa la:Addr}{p m:Nat}:valV (tabD fa pa la p m) (.inr "field")=some (.ref fa):=rfl
theorem Tab.get{H:Hp}{tb fa pa la:Addr}{p m t b:Nat}(T:Tab H tb fa pa la p m t b){x:Str}{v:V}(h:valV (tabD fa pa la p m) (.inr x)=some v):DGet H tb (.str x) (some v):=by
 rw[<-h];exact DGet.k (k:=.inr x) T.d
theorem Tab.log{H:Hp}{tb fa pa la:Addr}{p m t b:Nat}(T:Tab H tb fa pa la p m t b){i:Nat}(h:i<p^m-1):DGet H la (Vn (pw p m t b i)) (some (Vn i)):=by
 have e:valV (Logs p m t b) (.inl ((pw p m t b i:Nat):Int))=some (Vn i):=by
  unfold Logs;refine yeQ _ _ rfl (λi j hi hj e=>T.good.inj T.prim i j hi hj ?_) i h;injection e with e
  lia
 rw[<-e];exact DGet.k (k:=.inl ((pw p m t b i:Nat):Int)) T.l
theorem zhE(x y i:Nat):dg 2 i (x ^^^ y)=(dg 2 i x+dg 2 i y)%2:=by
 have e:∀z,dg 2 i z=(z.testBit i).toNat:=λz=>by unfold dg;rw[Nat.toNat_testBit]
 rw[e,e,e,Nat.testBit_xor];cases x.testBit i <;> cases y.testBit i <;> rfl
theorem zg8:∀x:Nat,x<64->∀y:Nat,y<64->Builtin.bitXor (x:Int) (y:Int)=((x ^^^ y:Nat):Int):=by decide +kernel
theorem zdr(x:Nat):decide (Vn x=V.int 0)=decide (x=0):=decide_eq_decide.mpr ⟨λe=>by injection e with e;lia,λe=>by rw[e];rfl⟩
inductive ycc (vs:List V) (H:Hp) (Q:VK) (E:XK):Prop
 |mk (tb fa pa la:Addr) (p m t b x y:Nat) (c1:vs=[.ref tb,Vn x,Vn y]) (c2:Tab H tb fa pa la p m t b) (c3:x<p^m) (c4:y<p^m) (c5:Q (Vn (add p m x y)) H):ycc vs H Q E
theorem ya2:yag ["_law_table_here","_law_one","_law_other","_law_p","_law_found","_law_place"] ["_law_table_here","_law_one","_law_other"] (yac ybL):=⟨rfl,rfl,rfl,by decide +kernel,rfl,by decide +kernel,by decide +kernel⟩
theorem yf4(B:Bl mg)(F:Fun K "_law_plus" "_law_plus" ybL f fd):FnOk P w K mg base CX0 1 f fd ["_law_table_here","_law_one","_law_other"] ycc:=by
 refine F.ok ya2 (λvs H Q E h=>?_) (λcdv A outer s H vs Q E hr h=>?_)
 ·obtain⟨tb,fa,pa,la,p,m,t,b,x,y,rfl,_⟩:=h;rfl
 obtain⟨tb,fa,pa,la,p,m,t,b,x,y,rfl,T,hx,hy,q⟩:=h;have hp:=T.good.hp;have hm:=T.good.hm;refine⟨_,((@yd5 _ _ 3 4 5 _ _ _ _ _ _ _ _ _ _ _ _ _ _ rfl ya2.nd rfl rfl rfl (by decide) rfl rfl rfl (((pv 0)⊃yas)>=>yab>=>yab>=>zab) rfl ⋯)<=<((zbg∪(pv 3)∪yab)*>((~~~((zhH|||(pv 1)|||(pv 2))⁻¹)),yam))<=<(@zbB _ _ _ _ _ _ PassesOwn.never (yeF∪(yat|||(pv 1)|||(pv 2))∪yab) ((4<|>ya2.nd<|>(yat|||(pv 4)|||(yaX|||(yaA|||(yat|||(pv 1)|||(pv 2))|||(pv 3))|||(pv 5))))<=<(~~~(@yd5 _ _ 1 2 5 _ _ _ _ _ _ _ _ _ _ _ _ _ _ rfl ya2.nd rfl rfl rfl (by decide) rfl rfl rfl ((zc0|||(pv 1)|||(pv 3))>=>(zc0|||(pv 2)|||(pv 3))>=>(yaX|||(pv 5)|||(pv 3))>=>zab) rfl ⋯))))<=<(~~~((pv 4)⁻¹))),?_⟩
 try dsimp only[cxOf]
 refine⟨_,rfl,tb,_,rfl,T.get zdT,_,_,_,rfl,?_⟩;refine⟨_,rfl,rfl,_,rfl,?_⟩;refine ite2 (λc=>?_) (λc=>?_)
 ·have hp2:p=2:=by
   have e:=xAn c;injection e with e
   lia
  subst hp2;refine⟨_,rfl,_,rfl,_,_,rfl,rfl,?_⟩;have e:V.int (Builtin.bitXor (x:Int) (y:Int))=Vn (add 2 m x y):=by
   show V.int _=V.int _;congr 1;rw[zg8 x (by have:=T.good.hq;lia) y (by have:=T.good.hq;lia)];congr 1;exact ygG hp hm hx hy λi=>zhE x y i
  show Q (V.int (Builtin.bitXor (x:Int) (y:Int))) _;rw[e];exact q
 ·let I4:St->Hp->Prop:=λσ H'=>H'=H/\Ex4 λ(k o u tt:Nat)=>An5 (σ=[some (.ref tb),some (Vn o),some (Vn u),some (Vn p),some (Vn tt),some (Vn (p^k))]) (o=x/p^k) (u=y/p^k) (tt<p^k) (∀i,i<k->dg p i tt=(dg p i x+dg p i y)%p)
  refine ybD I4
   (λσ _=>mI σ 1+mI σ 2) ⟨rfl,0,x,y,0,rfl,by simp,by simp,by simp,λi hi=>absurd hi (Nat.not_lt_zero _)⟩ ?_
  rintro σ H' ⟨rfl,k,o,u,tt,rfl,ho,hu,ht,hd⟩;have hp64:=p_le hp hm T.good.hq;have pk:0<p^k:=xBf (by lia);refine⟨_,rfl,_,rfl,_,_,rfl,rfl,_,_,rfl,rfl,_,rfl,?_⟩;refine ite2 (λc=>?_) (λc=>?_)
  ·have c':0<o+u:=by have:=xAn c;lia
   refine⟨λσ' H''=>H''=H'/\σ'=[some (.ref tb),some (Vn (o/p)),some (Vn (u/p)),some (Vn p),some (Vn (tt+(o+u)%p*p^k)),some (Vn (p^k*p))],?_,?_⟩
   ·rintro σ' H'' ⟨rfl,rfl⟩;have l1:o/p<=o:=Nat.div_le_self _ _;have l2:u/p<=u:=Nat.div_le_self _ _;have l3:o/p<o\/u/p<u:=by
     rcases xBe o with h|h
     ·exact .inr (Nat.div_lt_self (by lia) (by lia))
     ·exact .inl (Nat.div_lt_self h (by lia))
    refine⟨_,?_,rfl,rfl,k+1,o/p,u/p,tt+(o+u)%p*p^k,rfl,?_,?_,?_,λi hi=>?_⟩
    ·show o/p+u/p<o+u;lia
    ·rw[ho,xB5,Nat.div_div_eq_div_mul]
    ·rw[hu,xB5,Nat.div_div_eq_div_mul]
    ·exact zhr ht (xBh _ (by lia))
    ·rw[yhP hp ht (xBh _ (by lia))];by_cases e:i=k
     ·rw[if_pos e,ho,hu,e];unfold dg;rw[Nat.add_mod]
     ·rw[if_neg e];exact hd i (by lia)
   ·refine⟨_,rfl,_,rfl,_,rfl,_,_,rfl,rfl,_,rfl,_,_,rfl,rfl,?_⟩;refine⟨by show(0:Int)<p;lia,_,rfl,_,_,rfl,rfl,?_⟩;have hmm:(o+u)%p<p:=xBh _ (by lia);refine⟨.inl ⟨by show -(2^64:Int)<(((o+u)%p:Nat):Int);lia,by show(((o+u)%p:Nat):Int)<2^64;lia⟩,_,_,rfl,rfl,?_⟩;refine⟨_,rfl,_,rfl,_,_,rfl,rfl,⟨by show(0:Int)<p;lia,by show(p:Int)<2^64;lia⟩,?_⟩;refine⟨_,rfl,_,rfl,_,_,rfl,rfl,⟨by show(0:Int)<p;lia,by show(p:Int)<2^64;lia⟩,?_⟩;refine⟨_,rfl,_,rfl,_,_,rfl,rfl,.inr ⟨by show -(2^64:Int)<p;lia,by show(p:Int)<2^64;lia⟩,?_⟩;exact⟨_,_,_,rfl,rfl,rfl⟩
  ·have c':o=0/\u=0:=by
    have:¬ (0:Int)<(o:Int)+(u:Int):=λh=>c (xAD h)
    lia
   refine⟨_,rfl,?_⟩;have e:tt=add p m x y:=ygG hp hm hx hy λi=>by
    by_cases e:i<k
    ·exact hd i e
    ·have hx:x<p^k:=by
      rcases xAP x (p^k) with h|h
      ·exact h
      ·have:=Nat.div_pos h pk;lia
     have hy:y<p^k:=by
      rcases xAP y (p^k) with h|h
      ·exact h
      ·have:=Nat.div_pos h pk;lia
     rw[yaI hp ht (by lia),yaI hp hx (by lia),yaI hp hy (by lia)];simp
   subst e;exact q
inductive ya9 (vs:List V) (H:Hp) (Q:VK) (E:XK):Prop
 |mk (tb fa pa la:Addr) (p m t b x y:Nat) (c1:vs=[.ref tb,Vn x,Vn y]) (c2:Tab H tb fa pa la p m t b) (c3:x<p^m) (c4:y<p^m) (c5:Q (Vn (mul p m t x y)) H):ya9 vs H Q E
theorem ybQ:yag ["_law_table_here","_law_one","_law_other","_law_at"] ["_law_table_here","_law_one","_law_other"] (yac zbv):=⟨rfl,rfl,rfl,by decide +kernel,rfl,by decide +kernel,by decide +kernel⟩
theorem zfB(B:Bl mg)(F:Fun K "_law_times" "_law_times" zbv f fd):FnOk P w K mg base CX0 1 f fd ["_law_table_here","_law_one","_law_other"] ya9:=by
 refine F.ok ybQ (λvs H Q E h=>?_) (λcdv A outer s H vs Q E hr h=>?_)
 ·obtain⟨tb,fa,pa,la,p,m,t,b,x,y,rfl,_⟩:=h;rfl
 obtain⟨tb,fa,pa,la,p,m,t,b,x,y,rfl,T,hx,hy,q⟩:=h;have hp:=T.good.hp;have hm:=T.good.hm;refine⟨_,(((@PW.pt _ _ _ (@zeN _ _ _ _ _ _ _ (zbg∪(pv 1)∪yab) (@ycX _ _ _ _ (zbg∪(pv 2)∪yab))))*>((~~~(yab⁻¹)),yam))<=<(3<|>ybQ.nd<|>(yat|||(((pv 0)⊃yas)⊃(pv 1))|||(((pv 0)⊃yas)⊃(pv 2))))<=<(~~~((yai<<<((pv 0)⊃yas)<<<(yaA|||(pv 3)|||(za7|||((pv 0)⊃yas)|||yab)))⁻¹))),?_⟩
 try dsimp only[cxOf]
 refine zhO (b1:=decide (x=0)) (b2:=decide (y=0)) (λQ q=>⟨_,rfl,rfl,_,rfl,?_⟩) (λQ q=>⟨_,rfl,rfl,_,rfl,?_⟩) ?_
 ·rw[zdr];exact q
 ·rw[zdr];exact q
 refine ite2 (λc=>?_) (λc=>?_)
 ·have e:mul p m t x y=0:=by
   simp only[xBR,xBk]at c;rcases c with rfl|rfl
   ·exact zero_mul hp hm _
   ·exact mul_zero hp hm _
  rw[e]at q;exact q
 ·simp only[xBR,xBk,not_or]at c;obtain⟨i,hi,ei⟩:=T.prim.all x (by lia) hx;obtain⟨j,hj,ej⟩:=T.prim.all y (by lia) hy;have hQ2:=zay hp hm;have hQ:=T.good.hq;have gi:=T.log hi;have gj:=T.log hj;rw[ei]at gi;rw[ej]at gj;refine⟨_,rfl,tb,_,rfl,T.get yc1,_,rfl,la,_,rfl,gi,?_⟩;refine⟨_,rfl,tb,_,rfl,T.get yc1,_,rfl,la,_,rfl,gj,_,_,rfl,rfl,?_⟩;refine⟨_,rfl,tb,_,rfl,T.get zcX,?_⟩;refine⟨_,rfl,_,rfl,tb,_,rfl,T.get zcg,_,_,rfl,rfl,_,_,rfl,rfl,by show(0:Int)<((p^m:Nat):Int)-1;lia,?_⟩;have ek:((i:Int)+(j:Int))%(((p^m:Nat):Int)-1)=(((i+j)%(p^m-1):Nat):Int):=by
   rw[Int.natCast_emod,Int.natCast_add,Int.natCast_sub (by lia)];rfl
  have hk:(i+j)%(p^m-1)<p^m-1:=xBh _ (by lia);refine⟨pa,_,_,Vn (pw p m t b ((i+j)%(p^m-1))),rfl,rfl,SqL.of T.w,?_,?_⟩
  ·show atI _ (((i:Int)+(j:Int))%(((p^m:Nat):Int)-1))=_;rw[ek];exact zbc (by unfold Pws;rw[xAd,xAd,xB7 hk];rfl)
  ·have e:pw p m t b ((i+j)%(p^m-1))=mul p m t x y:=by
    rw[T.good.pw_mod T.prim.pos T.prim.lt,zbF hp hm,ei,ej]
   rw[e];exact q
end
end My
end
section
namespace My
open PySem L2 Dg
theorem zaU{ws:List Nat}{i:Nat}(h:i<ws.length):(ws.map Vn)[i]?=some (Vn (ws.getD i 0)):=by
 rw[xAd,xAc h];simp[List.getD,h]
theorem zbs{xs:List Nat}{n i:Nat}(h:∀x∈xs,x<n)(hi:i<xs.length):xs.getD i 0<n:=by
 have e:xs.getD i 0=xs[i]:=by simp[List.getD,hi]
 rw[e];exact h _ (xBB hi)
theorem ydb{o:HO}(s:Same H H')(h:H l=none):Same H (upd H' l o):=λb u e=>by rw[zad (zac e h)];exact s _ _ e
theorem mapI(ns:List Nat):(ns.map λn:Nat=>(n:Int)).map V.int=ns.map Vn:=by rw[xAH];rfl
structure zfE(pu g tb fa pa la:Addr):Prop where
 a1:tb≠pu
 a2:tb≠g
 b1:fa≠pu
 b2:fa≠g
 c1:pa≠pu
 c2:pa≠g
 d1:la≠pu
 d2:la≠g
theorem Tab.x{H H':Hp}{pu g tb fa pa la:Addr}{p m t b:Nat}(T:Tab H tb fa pa la p m t b)(a:zfE pu g tb fa pa la)(s:zah pu g H H'):Tab H' tb fa pa la p m t b :=
 ⟨s _ _ a.a1 a.a2 T.d,s _ _ a.b1 a.b2 T.f,s _ _ a.c1 a.c2 T.w,s _ _ a.d1 a.d2 T.l,T.good,T.prim⟩
def trim:List Nat->List Nat
 | []=>[]
 |x::xs=>match trim xs with
  | []=>if x=0 then [] else [x]
  |r=>x::r
theorem zdB:∀l:List Nat,trim (l++[0])=trim l
 | []=>rfl
 |x::xs=>by
  show(match trim (xs++[0]) with | []=>_|r=>_)=(match trim xs with | []=>_|r=>_)
  rw[zdB xs]
theorem zdH{x:Nat}(h:x≠0):∀l:List Nat,trim (l++[x])=l++[x]
 | []=>by show(if x=0 then [] else [x])=[x];rw[if_neg h]
 |y::xs=>by
  show(match trim (xs++[x]) with | []=>_|r=>_)=y::(xs++[x]);rw[zdH h xs];cases xs <;> rfl
end My
end
section
namespace My
open PySem L2 Dg
def rmul(p m t:Nat)(xs ys:List Nat):List Nat:=trim ((List.range (xs.length+ys.length)).map (conv p m t xs ys))
end My
end
section
namespace My
open PySem L2 Dg
theorem yfE{n:Nat}{f:Nat->Nat}(i:Nat):((List.range n).map f).getD i 0=if i<n then f i else 0:=by
 rw[xAi,xAd];by_cases h:i<n
 ·rw[xB7 h,if_pos h];rfl
 ·rw[List.getElem?_eq_none (by simpa using h),if_neg h];rfl
section
variable {p m t:Nat} (hp:2<=p) (hm:1<=m)
include hp hm
theorem ydH{x y:Nat}(hx:x<p^m)(hy:y<p^m):add p m x (mul p m t (p-1) y)=sub p m x y:=by
 refine ybt hp (yaW hp hm _ _) (zcY hp hm _ _) λi hi=>?_
 rw[ybr hp hm _ _ i hi,yfz hp hm _ _ i hi,zba hp hm _ _ i hi];have e:∀(k:Nat) (Y:Nat->Nat),1<=k->tn m (dgs p t) k (dgs p (p-1)) Y i=(p-1)*Y i:=by
  intro k Y hk;obtain⟨k,rfl⟩:∃k',k=k'+1:=⟨k-1,by lia⟩
  show dg p 0 (p-1)*Y i+tn m (dgs p t) k (λj=>dg p (j+1) (p-1)) (yay m (dgs p t) Y) i=_;rw[zd1 _ _ _ _ (λj=>by rw[ybl,Nat.div_eq_of_lt (by lia),ybF]),ybp,Nat.mod_eq_of_lt (by lia),Nat.add_zero]
 rw[e m _ hm,Nat.add_mod_mod]
end
end My
end
section
namespace My
open PySem L2 Dg
section
variable {P:Program} {w:World} {mg:Str->Option Value} {base:Heap} {f:Addr} {fd:FuncData}
theorem zdl:yag ["_law_table_here","_law_one","_law_many"] ["_law_table_here","_law_one","_law_many"] (yac ybi):=⟨rfl,rfl,rfl,by decide +kernel,rfl,by decide +kernel,by decide +kernel⟩
end
end My
end
section
namespace My
open PySem L2 Dg
structure Ord(p m t x n:Nat):Prop where
 pos:1<=n
 one:pw p m t x n=1
 min:∀i,0<i->i<n->pw p m t x i≠1
theorem Ord.le{p m t x n k:Nat}(o:Ord p m t x n)(h0:0<k)(h:pw p m t x k=1):n<=k:=by
 rcases xAP k n with h1|h1
 ·exact absurd h (o.min k h0 h1)
 ·exact h1
theorem Ord.uniq{p m t x n k:Nat}(o:Ord p m t x n)(o':Ord p m t x k):n=k:=Nat.le_antisymm (o.le o'.pos o'.one) (o'.le o.pos o.one)
theorem zfZ(x:Nat):decide (Vn x=V.int 1)=decide (x=1):=decide_eq_decide.mpr ⟨λe=>by injection e with e;lia,λe=>by rw[e];rfl⟩
section
variable {P:Program} {w:World} {mg:Str->Option Value} {base:Heap} {f:Addr} {fd:FuncData}
inductive yaV (vs:List V) (H:Hp) (Q:VK) (E:XK):Prop
 |mk (tb fa pa la:Addr) (p m t b x:Nat) (c1:vs=[.ref tb,Vn x]) (c2:Tab H tb fa pa la p m t b) (c3:0<x) (c4:x<p^m) (c5:∀n,Ord p m t x n->n<=p^m-1->Q (Vn n) H):yaV vs H Q E
theorem zbf:yag ["_law_table_here","_law_one","_law_many","_law_thing"] ["_law_table_here","_law_one"] (yac zbp):=⟨rfl,rfl,rfl,by decide +kernel,rfl,by decide +kernel,by decide +kernel⟩
theorem zfq(B:Bl mg)(xCd:Has P w K mg base 1 "_law_times" ["_law_table_here","_law_one","_law_other"] ya9)(F:Fun K "_law_round" "_law_round" zbp f fd):FnOk P w K mg base CX0 2 f fd ["_law_table_here","_law_one"] yaV:=by
 refine F.ok zbf (λvs H Q E h=>?_) (λcdv A outer s H vs Q E hr h=>?_)
 ·obtain⟨tb,fa,pa,la,p,m,t,b,x,rfl,_⟩:=h;rfl
 obtain⟨tb,fa,pa,la,p,m,t,b,x,rfl,T,h0,hx,q⟩:=h;have G:=T.good;have hp:=G.hp;have hm:=G.hm;have hQ:=G.hq;have hQ2:=zay hp hm;refine⟨_,((@zbj _ _ 2 3 _ _ _ _ _ _ _ _ _ _ _ rfl zbf.nd rfl rfl (by decide) rfl rfl (yab>=>(pv 1)>=>zab) rfl ⋯)<=<(@zbB _ _ _ _ _ _ PassesOwn.never (yfq∪(pv 3)∪yab) (~~~(@zbj _ _ 2 3 _ _ _ _ _ _ _ _ _ _ _ rfl zbf.nd rfl rfl (by decide) rfl rfl ((yat|||(pv 2)|||yab)>=>(xCd<$>((pv 0)>=>(pv 3)>=>(pv 1)>=>zab))>=>zab) rfl ⋯)))<=<(~~~((pv 2)⁻¹))),?_⟩
 try dsimp only[cxOf]
 refine⟨_,rfl,_,_,rfl,?_⟩
 let I2:St->Hp->Prop:=λσ H'=>H'=H/\∃k,An4 (1<=k) (k<=p^m-1) (σ=[some (.ref tb),some (Vn x),some (Vn k),some (Vn (pw p m t x k))]) (∀i,0<i->i<k->pw p m t x i≠1)
 refine ybD I2 (λσ _=>p^m-mI σ 2) ⟨rfl,1,by lia,by lia,by rw[ycG hp hm hx];rfl,λi h1 h2=>by lia⟩ ?_;rintro σ H' ⟨rfl,k,hk1,hk2,rfl,hne⟩;refine⟨_,rfl,rfl,_,rfl,?_⟩;rw[zfZ];refine ite2 (λc=>?_) (λc=>?_)
 ·have hk:pw p m t x k≠1:=by
   intro e;rw[xAD e]at c;exact absurd c (by decide)
  have hk3:k<p^m-1:=by
   rcases xAP k (p^m-1) with h|h
   ·exact h
   ·have:k=p^m-1:=by lia
    rw[this]at hk;exact absurd (G.fermat h0 hx) hk
  refine⟨λσ' H''=>H''=H'/\σ'=[some (.ref tb),some (Vn x),some (Vn (k+1)),some (Vn (pw p m t x (k+1)))],?_,?_⟩
  ·rintro σ' H'' ⟨rfl,rfl⟩;refine⟨_,?_,rfl,rfl,k+1,by lia,by lia,rfl,λi h1 h2=>?_⟩
   ·show p^m-(k+1)<p^m-k;lia
   ·rcases xAP i k with h|h
    ·exact hne i h1 h
    ·rw[show i=k by lia];exact hk
  ·refine⟨_,rfl,_,_,rfl,rfl,_,rfl,_,rfl,_,rfl,tb,fa,pa,la,p,m,t,b,pw p m t x k,x,rfl,T,yaS hp hm _ _,hx,?_⟩;exact⟨_,_,rfl,rfl,rfl⟩
 ·have hk:pw p m t x k=1:=by
   rcases Nat.decEq (pw p m t x k) 1 with h|h
   ·exact absurd (by rw[xB3 h];rfl) c
   ·exact h
  exact⟨_,rfl,q k ⟨hk1,hk,hne⟩ hk2⟩
theorem zgq(h:xs[xs.length-1]?=some v):atI xs (-1)=some v:=by
 have hl:0<xs.length:=by
  have:=(xAh.mp h).1;lia
 unfold atI ixN;rw[if_neg (by decide),if_pos (by lia)];show(some _).bind _=_;rw[Option.bind_some,<-h];congr 1
 lia
end
end My
end
section
namespace My
open PySem L2 Dg
local macro_rules | `(tactic| walk_at "rd") => `(tactic| repeat (first | refine ⟨_, rfl, ?_⟩ | refine ⟨_, _, rfl, rfl, ?_⟩))
def zaz(p m t c:Nat)(xs:List Nat):List Nat:=(List.range xs.length).map λi=>mul p m t c (xs.getD i 0)
def pwz(p m t x:Nat)(z:Int):Nat:=if x=0 then(if z=0 then 1 else 0) else pw p m t x (z%(((p^m:Nat):Int)-1)).toNat
section
variable {p m t:Nat} (G:Good p m t)
include G
theorem ycg(c:Nat)(xs:List Nat):∀x∈zaz p m t c xs,x<p^m:=λx hx=>by
 obtain⟨i,_,rfl⟩:=xA9.mp hx;exact yaz G.hp G.hm _ _
theorem ye4{x:Nat}(hx:x<p^m)(n:Nat):pwz p m t x (n:Int)=pw p m t x n:=by
 unfold pwz;have hQ:=zay G.hp G.hm;by_cases c:x=0
 ·rw[if_pos c,c];cases n with
  |zero=>rfl
  |succ n=>rw[ybj G.hp G.hm,if_neg (by lia)]
 ·rw[if_neg c,show((n:Int)%(((p^m:Nat):Int)-1)).toNat=n%(p^m-1) from ?_,G.pw_mod (by lia) hx];rw[show((p^m:Nat):Int)-1=((p^m-1:Nat):Int) by lia,<-Int.natCast_emod];rfl
end
section
variable {P:Program} {w:World} {mg:Str->Option Value} {base:Heap} {f:Addr} {fd:FuncData}
inductive zcd (vs:List V) (H:Hp) (Q:VK) (E:XK):Prop
 |mk (tb fa pa la:Addr) (p m t b x:Nat) (z:Int) (c1:vs=[.ref tb,Vn x,.int z]) (c2:Tab H tb fa pa la p m t b) (c3:x<p^m) (c4:Q (Vn (pwz p m t x z)) H):zcd vs H Q E
theorem zfT(B:Bl mg)(F:Fun K "_law_power" "_law_power" ybi f fd):FnOk P w K mg base CX0 1 f fd ["_law_table_here","_law_one","_law_many"] zcd:=by
 refine F.ok zdl (λvs H Q E h=>?_) (λcdv A outer s H vs Q E hr h=>?_)
 ·obtain⟨tb,fa,pa,la,p,m,t,b,x,n,rfl,_⟩:=h;rfl
 obtain⟨tb,fa,pa,la,p,m,t,b,x,z,rfl,T,hx,q⟩:=h;have hp:=T.good.hp;have hm:=T.good.hm;have hQ2:=zay hp hm;have hQ:=T.good.hq;unfold pwz at q;refine⟨_,(((zbg∪(pv 1)∪yab)*>((~~~((zfs<*("int",yd4,((@zcm _ _ _ _ _ _ _ _ zbg (pv 2) yab (ycT _))>=>zab)))⁻¹)),yam))<=<(~~~((yai<<<((pv 0)⊃yas)<<<(yaA|||(yaX|||(((pv 0)⊃yas)⊃(pv 1))|||(pv 2))|||(za7|||((pv 0)⊃yas)|||yab)))⁻¹))),?_⟩
 try dsimp only[cxOf]
 refine⟨_,rfl,rfl,_,rfl,?_⟩;rw[zdr];refine ite2 (λc=>?_) (λc=>?_)
 ·have x0:x=0:=xAn c;rw[if_pos x0]at q;refine⟨_,rfl,rfl,.inr ⟨_,rfl,?_⟩⟩;by_cases cz:z=0
  ·rw[if_pos cz]at q;rw[if_pos (xAD (by rw[cz]))];exact q
  ·rw[if_neg cz]at q;rw[if_neg (λh=>cz (by have:=xAn h;injection this))];exact q
 ·have x0:0<x:=by
   have:¬ x=0:=λh=>c (xAD h)
   lia
  rw[if_neg (by lia)]at q;obtain⟨i,hi,ei⟩:=T.prim.all x x0 hx;have gi:=T.log hi;rw[ei]at gi;refine⟨_,rfl,tb,_,rfl,T.get zcX,?_⟩;refine⟨_,rfl,tb,_,rfl,T.get yc1,_,rfl,la,_,rfl,gi,_,rfl,_,_,rfl,rfl,.inl ⟨by lia,by lia⟩,?_⟩;refine⟨_,rfl,tb,_,rfl,T.get zcg,_,_,rfl,rfl,_,_,rfl,rfl,by show(0:Int)<((p^m:Nat):Int)-1;lia,?_⟩;have hz0:=Int.emod_nonneg z (show((p^m:Nat):Int)-1≠0 by lia);have hz1:=Int.emod_lt_of_pos z (show(0:Int)<((p^m:Nat):Int)-1 by lia);obtain⟨n,en⟩:=Int.eq_ofNat_of_zero_le hz0;rw[en]at q hz1;have ek:((i:Int)*z)%(((p^m:Nat):Int)-1)=(((i*n)%(p^m-1):Nat):Int):=by
   rw[Int.mul_emod,en,Int.natCast_emod,Int.natCast_mul,Int.natCast_sub (by lia)];rw[Int.mul_emod];simp;exact(Int.mul_emod _ _ _).symm
  have hk:(i*n)%(p^m-1)<p^m-1:=xBh _ (by lia);refine⟨pa,_,_,Vn (pw p m t b ((i*n)%(p^m-1))),rfl,rfl,SqL.of T.w,?_,?_⟩
  ·show atI _ (((i:Int)*z)%(((p^m:Nat):Int)-1))=_;rw[ek];exact zbc (by unfold Pws;rw[xAd,xAd,xB7 hk];rfl)
  ·have e:pw p m t b ((i*n)%(p^m-1))=pw p m t x n:=by
    rw[T.good.pw_mod T.prim.pos T.prim.lt,zbb hp hm,ei]
   rw[e];exact q
inductive zci (vs:List V) (H:Hp) (Q:VK) (E:XK):Prop
 |mk (tb fa pa la:Addr) (p m t b x y:Nat) (c1:vs=[.ref tb,Vn x,Vn y]) (c2:Tab H tb fa pa la p m t b) (c3:x<p^m) (c4:y<p^m) (c5:Q (Vn (sub p m x y)) H):zci vs H Q E
theorem zc5:yag ["_law_table_here","_law_one","_law_other"] ["_law_table_here","_law_one","_law_other"] (yac ybv):=⟨rfl,rfl,rfl,by decide +kernel,rfl,by decide +kernel,by decide +kernel⟩
theorem zfH(B:Bl mg)(xC4:Has P w K mg base 1 "_law_plus" ["_law_table_here","_law_one","_law_other"] ycc)(xCd:Has P w K mg base 1 "_law_times" ["_law_table_here","_law_one","_law_other"] ya9)(F:Fun K "_law_minus" "_law_minus" ybv f fd):FnOk P w K mg base CX0 2 f fd ["_law_table_here","_law_one","_law_other"] zci:=by
 refine F.ok zc5 (λvs H Q E h=>?_) (λcdv A outer s H vs Q E hr h=>?_)
 ·obtain⟨tb,fa,pa,la,p,m,t,b,x,y,rfl,_⟩:=h;rfl
 obtain⟨tb,fa,pa,la,p,m,t,b,x,y,rfl,T,hx,hy,q⟩:=h;have hp:=T.good.hp;have hm:=T.good.hm;have hpp:p<=p^m:=by simpa using xAM (show 0<p by lia) hm
 refine⟨_,(~~~((xC4<$>((pv 0)>=>(pv 1)>=>(xCd<$>((pv 0)>=>(za7|||((pv 0)⊃yas)|||yab)>=>(pv 2)>=>zab))>=>zab))⁻¹)),?_⟩
 try dsimp only[cxOf]
 refine⟨_,rfl,_,rfl,_,rfl,_,rfl,tb,_,rfl,T.get zdT,_,_,rfl,rfl,_,rfl,?_⟩;refine⟨tb,fa,pa,la,p,m,t,b,p-1,y,by show [_,V.int ((p:Int)-1),_]=_;rw[show(p:Int)-1=((p-1:Nat):Int) by lia],T,by lia,hy,?_⟩;refine⟨tb,fa,pa,la,p,m,t,b,x,mul p m t (p-1) y,rfl,T,hx,yaz hp hm _ _,?_⟩;rw[ydH hp hm hx hy];exact q
end
end My
end
section
namespace My
open PySem L2 Dg
local macro_rules | `(tactic| walk_at "rd") => `(tactic| repeat (first | refine ⟨_, rfl, ?_⟩ | refine ⟨_, _, rfl, rfl, ?_⟩))
end My
end
section
namespace My
open PySem L2 Dg
local macro_rules | `(tactic| walk_at "rd") => `(tactic| repeat (first | refine ⟨_, rfl, ?_⟩ | refine ⟨_, _, rfl, rfl, ?_⟩))
section
variable {p m t:Nat} (G:Good p m t)
include G
theorem Ord.dvd{x n k:Nat}(hx:x<p^m)(o:Ord p m t x n)(h:pw p m t x k=1):k%n=0:=by
 have hp:=G.hp;have hm:=G.hm;rcases xBe (k%n) with c|c
 ·exact c
 ·have e:pw p m t x (n*(k/n)+k%n)=1:=by rw[Nat.div_add_mod];exact h
  rw[zbF hp hm,zbb hp hm,o.one,yb7 hp hm,one_mul hp hm (yaS hp hm _ _)]at e;exact absurd e (o.min _ c (xBh _ (by have:=o.pos;lia)))
theorem Ord.round{x n few:Nat}(h0:0<x)(hx:x<p^m)(o:Ord p m t x n)(hf:m%few=0)(hf1:1<=few):(p^few)^(m/few)%n=1%n:=by
 have hp:=G.hp;have hm:=G.hm;have h1:=Ord.dvd G hx o (G.fermat h0 hx);have hQ:=zay hp hm;have e:few*(m/few)=m:=by have:=Nat.div_add_mod m few;rw[hf]at this;lia
 rw[<-Nat.pow_mul,e];obtain⟨c,hc⟩:=xBs h1;rw[show p^m=1+n*c by lia,Nat.add_mul_mod_self_left]
end
section
variable {P:Program} {w:World} {mg:Str->Option Value} {base:Heap} {f:Addr} {fd:FuncData}
def ybc(i n q L:Nat):List Nat:=(List.range L).map λj=>i*q^j%n
theorem ydD{i n q L j:Nat}(h:j<L):(ybc i n q L).getD j 0=i*q^j%n:=by unfold ybc;rw[xAi,xAd,xB7 h];rfl
theorem ycs{q e n:Nat}(hr:q^e%n=1%n)(he:1<=e)(i a:Nat):i*q^a*q^(e*a-a)%n=i%n:=by
 have h:a<=e*a:=Nat.le_mul_of_pos_left a he;rw[Nat.mul_assoc,<-Nat.pow_add,show a+(e*a-a)=e*a by lia,Nat.pow_mul,xBP,Nat.pow_mod,hr,<-Nat.pow_mod,Nat.one_pow,<-xBP,Nat.mul_one]
theorem zeQ{i n q e L:Nat}(hr:q^e%n=1%n)(he:1<=e)(h:∀j,0<j->j<L->i*q^j%n≠i%n):(ybc i n q L).Nodup:=by
 refine zaX _ λa b ha hb e1=>?_
 have key:∀a b:Nat,a<b->b<L->i*q^a%n=i*q^b%n->False:=λa b hab hb e1=>by
  refine h (b-a) (by lia) (by lia) ?_;have e2:=ycs hr he i a;rw[xBP,e1,<-xBP,show i*q^b=i*q^(b-a)*q^a by rw[Nat.mul_assoc,<-Nat.pow_add,show b-a+a=b by lia],ycs hr he]at e2;exact e2
 rcases Nat.lt_trichotomy a b with h1|h1|h1
 ·exact(key a b h1 hb e1).elim
 ·exact h1
 ·exact(key b a h1 ha e1.symm).elim
theorem zgk{i n q L:Nat}(heq:i*q^L%n=i*q^0%n)(hL:0<L)(j:Nat):i*q^j%n∈ybc i n q L:=by
 induction j with
 |zero=>exact xA9.mpr ⟨0,xAt.mpr hL,rfl⟩
 |succ j ih=>
  obtain⟨k,hk,ek⟩:=xA9.mp ih;have hk:=xAt.mp hk;have e2:i*q^(j+1)%n=i*q^(k+1)%n:=by
   rw[xB5,xB5,<-Nat.mul_assoc,<-Nat.mul_assoc,xBP,<-ek,<-xBP]
  rw[e2];by_cases c:k+1<L
  ·exact xA9.mpr ⟨k+1,xAt.mpr c,rfl⟩
  ·rw[show k+1=L by lia,heq];exact xA9.mpr ⟨0,xAt.mpr hL,rfl⟩
inductive yby (vs:List V) (H:Hp) (Q:VK) (E:XK):Prop
 |mk (i n q e:Nat) (c1:vs=[Vn i,Vn n,Vn q]) (c2:0<n) (c3:n<=64) (c4:q<=64) (c5:1<=e) (c6:e<=6) (c7:q^e%n=1%n) (c8:∀r (ns:List Nat) H',Same H H'->H r=none->H' r=some (.lst (ns.map Vn))->0<ns.length->ns.length<=6->(∀x∈ns,x<n)->(∀x∈ns,x*q%n∈ns)->ns.Nodup->(∀x∈ns,∃j,x=i*q^j%n)->(∀j,i*q^j%n∈ns)->Q (.ref r) H'):yby vs H Q E
theorem zb3:yag ["_law_i","_law_n","_law_q","_law_found"] ["_law_i","_law_n","_law_q"] (yac zbJ):=⟨rfl,rfl,rfl,by decide +kernel,rfl,by decide +kernel,by decide +kernel⟩
theorem yf7(B:Bl mg)(F:Fun K "_law_ring" "_law_ring" zbJ f fd):FnOk P w K mg base CX0 1 f fd ["_law_i","_law_n","_law_q"] yby:=by
 refine F.ok zb3 (λvs H Q E h=>?_) (λcdv A outer s H vs Q E hr h=>?_)
 ·obtain⟨i,n,q,e,rfl,_⟩:=h;rfl
 obtain⟨i,n,q,e,rfl,hn,hn2,hq,he1,he2,hr1,q'⟩:=h;refine⟨_,((3<|>zb3.nd<|>(@yax _ _ _ _ ((yaA|||(pv 0)|||(pv 1))>=>zab)))<=<(@zbB _ _ _ _ _ _ PassesOwn.never (yfq∪(yaA|||(yaX|||(yai<<<(pv 3)<<<(@yfW _ _ _ _ _ _ yev yab))|||(pv 2))|||(pv 1))∪(yai<<<(pv 3)<<<yab)) (~~~(@zbK _ _ _ _ (@ydW _ _ _ _ _ _ _ _ _ _ _ _ xBN PySem.F.slot_list_append PySem.F.type_list_append zbS (pv 3) ((yaA|||(yaX|||(yai<<<(pv 3)<<<(@yfW _ _ _ _ _ _ yev yab))|||(pv 2))|||(pv 1))>=>zab) ⋯ ⋯ ⋯ ⋯ ⋯) ⋯)))<=<(~~~((pv 3)⁻¹))),?_⟩
 try dsimp only[cxOf]
 refine⟨_,rfl,_,rfl,_,_,rfl,rfl,by show(0:Int)<n;lia,szl 1,λl hl=>?_⟩;dsimp only[yap]
 let I1:St->Hp->Prop:=λσ H'=>∃L:Nat,An5 (1<=L) (L<=e) (∀j,0<j->j<L->i*q^j%n≠i%n) (H'=upd H l (.lst ((ybc i n q L).map Vn))) (σ=[some (Vn i),some (Vn n),some (Vn q),some (.ref l)])
 refine ybD I1 (λ_ H'=>7-zc1 H' l) ⟨1,xA5 _,he1,λj _ _=>by lia,by simp[ybc];rfl,rfl⟩ ?_;rintro σ H' ⟨L,h1,h2,hne0,rfl,rfl⟩;have el:upd H l (.lst ((ybc i n q L).map Vn)) l=some (.lst ((ybc i n q L).map Vn)):=zaa;have ll:(ybc i n q L).length=L:=by simp[ybc]
 have hlast:atI ((ybc i n q L).map Vn) (-1)=some (Vn (i*q^(L-1)%n)):=zgq (by rw[xA1,ll,zaU (by lia),ydD (by lia)]);have hfirst:atI ((ybc i n q L).map Vn) 0=some (Vn (i*q^0%n)):=zbc (j:=0) (by rw[zaU (by lia),ydD (by lia)]);have hml:i*q^(L-1)%n<n:=xBh _ hn;refine⟨_,rfl,_,rfl,l,_,_,_,rfl,rfl,SqL.of el,hlast,_,rfl,_,_,rfl,rfl,.inl ⟨by show -(2^64:Int)<((i*q^(L-1)%n:Nat):Int);lia,by show((i*q^(L-1)%n:Nat):Int)<2^64;lia⟩,?_⟩;refine⟨_,rfl,_,_,rfl,rfl,by show(0:Int)<n;lia,?_⟩;refine⟨_,rfl,l,_,_,_,rfl,rfl,SqL.of el,hfirst,rfl,_,rfl,?_⟩;have en:(i*q^(L-1)%n)*q%n=i*q^L%n:=by
  rw[Nat.mod_mul_mod,Nat.mul_assoc,<-xB5,show(L-1).succ=L by lia]
 have e0:i*q^0%n=i%n:=by rw[Nat.pow_zero,Nat.mul_one]
 refine ite2 (λc=>?_) (λc=>?_)
 ·have hne:i*q^L%n≠i%n:=by
   intro h;have:(V.int ((((i*q^(L-1)%n:Nat):Int)*(q:Int))%(n:Int)))=Vn (i*q^0%n):=by
    show V.int _=V.int _;congr 1;rw[e0,<-h,<-en];rfl
   rw[xAD this]at c;exact absurd c (by decide)
  have hL:L<e:=by
   rcases xAP L e with h|h
   ·exact h
   ·have hle:L=e:=by lia
    rw[hle]at hne;refine absurd ?_ hne;rw[xBP,hr1,<-xBP,Nat.mul_one]
  refine⟨λσ' H'=>H'=upd H l (.lst ((ybc i n q (L+1)).map Vn))/\σ'=[some (Vn i),some (Vn n),some (Vn q),some (.ref l)],?_,?_⟩
  ·rintro σ' H' ⟨rfl,rfl⟩;refine⟨_,?_,rfl,L+1,by lia,by lia,λj j0 j1=>?_,rfl,rfl⟩
   case refine_2=>
    rcases xAP j L with h|h
    ·exact hne0 j j0 h
    ·rw[show j=L by lia];exact hne
   rw[zbC zaa,zbC zaa,xA1,xA1,ll,show(ybc i n q (L+1)).length=L+1 by simp[ybc]]
   lia
  ·refine⟨_,rfl,.inl ⟨rfl,_,SqL.of el⟩,?_⟩;refine⟨_,rfl,_,rfl,l,_,_,_,rfl,rfl,SqL.of el,hlast,_,rfl,_,_,rfl,rfl,.inl ⟨by show -(2^64:Int)<((i*q^(L-1)%n:Nat):Int);lia,by show((i*q^(L-1)%n:Nat):Int)<2^64;lia⟩,?_⟩;refine⟨_,rfl,_,_,rfl,rfl,by show(0:Int)<n;lia,?_⟩;refine⟨l,_,_,rfl,rfl,el,by rw[xA1,ll];exact yah (by lia),?_,rfl⟩;rw[yd3];congr 2;have e1:ybc i n q (L+1)=ybc i n q L++[i*q^L%n]:=by unfold ybc;rw[xBz,xAk];rfl
   rw[e1,xAk,<-en];rfl
 ·have heq:i*q^L%n=i*q^0%n:=by
   have h:decide (V.int ((((i*q^(L-1)%n:Nat):Int)*(q:Int))%(n:Int))=Vn (i*q^0%n))=true:=by
    rcases hb:decide (V.int ((((i*q^(L-1)%n:Nat):Int)*(q:Int))%(n:Int))=Vn (i*q^0%n)) with _|_
    ·exact absurd (show(!decide (V.int ((((i*q^(L-1)%n:Nat):Int)*(q:Int))%(n:Int))=Vn (i*q^0%n)))=true by rw[hb];rfl) c
    ·rfl
   have h2:=V.int.inj (xAn h);rw[<-en];exact Int.ofNat.inj h2
  refine⟨_,rfl,q' l (ybc i n q L) _ (yaa hl _) hl el (by rw[ll];lia) (by rw[ll];lia) (λx hx=>?_) (λx hx=>?_) ?_ (λx hx=>?_) (zgk heq (by lia))⟩
  rotate_left 2
  ·refine zeQ hr1 (by lia) hne0
  ·obtain⟨j,_,rfl⟩:=xA9.mp hx;exact⟨j,rfl⟩
  ·obtain⟨j,_,rfl⟩:=xA9.mp hx;exact xBh _ hn
  ·obtain⟨j,hj,rfl⟩:=xA9.mp hx;have hj:=xAt.mp hj;have e2:i*q^j%n*q%n=i*q^(j+1)%n:=by rw[Nat.mod_mul_mod,Nat.mul_assoc,<-xB5]
   rw[e2];by_cases cj:j+1<L
   ·exact xA9.mpr ⟨j+1,xAt.mpr cj,rfl⟩
   ·rw[show j+1=L by lia,heq];exact xA9.mpr ⟨0,xAt.mpr (by lia),rfl⟩
theorem yf0(a b:Nat):decide (V.int ((a:Int)%(b:Int))=V.int 0)=decide (a%b=0) :=
 decide_eq_decide.mpr ⟨λe=>Int.ofNat.inj (show Int.ofNat (a%b)=Int.ofNat 0 from V.int.inj e),λe=>congrArg V.int (show Int.ofNat (a%b)=Int.ofNat 0 from congrArg Int.ofNat e)⟩
structure Whl(p m t few root n:Nat)(marks:List Nat):Prop where
 few1:1<=few
 fewm:m%few=0
 r0:0<root
 rq:root<p^m
 ord:Ord p m t root n
 nq:n<=p^m-1
 asc:marks.Pairwise (· < ·)
 lt:∀x∈marks,x<n
 closed:∀x∈marks,x*p^few%n∈marks
structure WhAt(H:Hp)(wh fa mk:Addr)(few root:Nat)(marks:List Nat):Prop where
 w:H wh=some (.tup [.ref fa,Vn few,Vn root,.ref mk])
 k:H mk=some (.tup (marks.map Vn))
theorem WhAt.same{H H':Hp}{wh fa mk:Addr}{few root:Nat}{marks:List Nat}(h:WhAt H wh fa mk few root marks)(s:Same H H'):WhAt H' wh fa mk few root marks:=⟨s _ _ h.w,s _ _ h.k⟩
theorem WhAt.x{pu g:Addr}{H H':Hp}{wh fa mk:Addr}{few root:Nat}{marks:List Nat}(h:WhAt H wh fa mk few root marks)(n1:wh≠pu/\wh≠g)(n2:mk≠pu/\mk≠g)(s:zah pu g H H'):WhAt H' wh fa mk few root marks:=⟨s _ _ n1.1 n1.2 h.w,s _ _ n2.1 n2.2 h.k⟩
def ya3(p m t:Nat)(H:Hp)(a:Addr):Prop:=Ex2 λ(n x:Nat)=>H a=some (.tup [Vn n,Vn x])/\Ord p m t x n/\n<=p^m-1/\0<x/\x<p^m
theorem ya3.same{p m t:Nat}(h:ya3 p m t H a)(s:Same H H'):ya3 p m t H' a:=by obtain⟨n,x,h1,r⟩:=h;exact⟨n,x,s _ _ h1,r⟩
theorem Pu.tup_ne(h:Pu H pu g)(e:H a=some (.tup xs)):a≠pu/\a≠g:=by
 obtain⟨ns,s,t,h1,h2⟩:=h;exact⟨λq=>(by rw[q,h1]at e;cases e),λq=>(by rw[q,h2]at e;cases e)⟩
def pn(H:Hp)(a:Addr):Nat:=match H a with
 |some (.tup (.int n::_))=>n.toNat
 |_=>0
theorem zb0{n x:Nat}(h:H a=some (.tup [Vn n,Vn x])):pn H a=n:=by unfold pn;rw[h];rfl
theorem zat{α:Type}{xs:List α}{k:Nat}{a:α}(h:xs[k]?=some a):xs.take (k+1)=xs.take k++[a]:=by
 obtain⟨hk,e⟩:=xAh.mp h;rw[List.take_succ_eq_append_getElem hk,e]
theorem zdn{ts:List Addr}{k:Nat}{z:V}(h:(ts.map V.ref)[k]?=some z):∃a,ts[k]?=some a/\z = .ref a:=by
 rw[xAd]at h;rcases e:ts[k]? with _|a
 ·rw[e]at h;cases h
 ·rw[e]at h;exact⟨a,rfl,(xAF h).symm⟩
inductive ybR (vs:List V) (H:Hp) (Q:VK) (E:XK):Prop
 |mk (pu g:Addr) (most:Nat) (c1:vs=[.ref pu,Vn most]) (c2:Pu H pu g) (c3:1<=most) (c4:∀(r tb fa pa la wh mk:Addr) (p m t b few root n:Nat) (marks:List Nat) H',H' r=some (.tup [.ref tb,.ref wh])->Tab H' tb fa pa la p m t b->zfE pu g tb fa pa la->WhAt H' wh fa mk few root marks->(wh≠pu/\wh≠g)->(mk≠pu/\mk≠g)->(r≠pu/\r≠g)->Whl p m t few root n marks->n<=most->Pu H' pu g->zah pu g H H'->Q (.ref r) H'):ybR vs H Q E
theorem yad:yag ["_law_purse_here","_law_most","_law_way","_law_far","_law_table_here","_law_fews","_law_few","_law_q","_law_rounds","_law_greatest","_law_n","_law_root","_law_marks","_law_first","_law_many","_law_k"] ["_law_purse_here","_law_most"] (yac yar):=⟨rfl,rfl,rfl,by decide +kernel,rfl,by decide +kernel,by decide +kernel⟩
theorem yfi(B:Bl mg)(xC3:Has P w K mg base 1 "_law_pick" ["_law_purse_here","_law_many"] zbH)(xBV:Has P w K mg base 4 "_law_field" ["_law_purse_here"] zdc)(xCc:Has P w K mg base 3 "_law_table" ["_law_field_here"] ydm)(xC8:Has P w K mg base 1 "_law_raised" ["_law_one","_law_many"] yaf)
  (xCa:Has P w K mg base 2 "_law_round" ["_law_table_here","_law_one"] yaV) (xC9:Has P w K mg base 1 "_law_ring" ["_law_i","_law_n","_law_q"] yby) (F:Fun K "_law_wheel" "_law_wheel" yar f fd):FnOk P w K mg base CX0 5 f fd ["_law_purse_here","_law_most"] ybR:=by
 refine F.ok yad (λvs H Q E h=>?_) (λcdv A outer s H vs Q E hr h=>?_)
 ·obtain⟨pu,g,most,rfl,_⟩:=h;rfl
 obtain⟨pu,g,most,rfl,hP,hmost,q⟩:=h;refine⟨_,((@zbj _ _ 2 3 _ _ _ _ _ _ _ _ _ _ _ rfl yad.nd rfl rfl (by decide) rfl rfl ((xC3<$>((pv 0)>=>yab>=>zab))>=>(xC3<$>((pv 0)>=>yab>=>zab))>=>zab) rfl ⋯)<=<(4<|>yad.nd<|>(xCc<$>((xBV<$>((pv 0)>=>zab))>=>zab)))<=<(@zbr _ 5 _ _ _ _ _ _ _ _ _ ["_law_few"] ["_law_table_here"] [4] _ _ _ _ yad.nd rfl (Or.inl rfl) (id (α:=CSc ["_law_purse_here","_law_most","_law_way","_law_far","_law_table_here","_law_fews","_law_few","_law_q","_law_rounds","_law_greatest","_law_n","_law_root","_law_marks","_law_first","_law_many","_law_k"] (yac yar) ["_law_few"] ["_law_table_here"] [4] _) ⟨by rfl,by decide +kernel,by decide +kernel,by decide +kernel,by decide +kernel,by rfl,by decide +kernel⟩) rfl (@zbO _ _ _ _ _ _ _ rfl (B "range" (by decide)) (yab>=>(yat|||((pv 4)⊃yas)|||yab)>=>zab) ⋯ ⋯) (λcl C fp s H=>(0⊇["_law_few","_law_table_here"])) (λ_ _ _ _ _=>(@zaS _ _ _ (zbg∪(yaA|||((pv 1)⊃yas)|||(pv 0))∪yab))) (λ_ _ _ _ _=>(pv 0)) ⋯ (by intro _;rfl) (by trivial))<=<(6<|>yad.nd<|>(yai<<<(pv 5)<<<(xC3<$>((pv 0)>=>(zar>>>("len",PySem.boot_len,((pv 5)>=>zab)))>=>zab))))<=<(7<|>yad.nd<|>(xC8<$>(((pv 4)⊃yas)>=>(pv 6)>=>zab)))<=<(@zbr _ 8 _ _ _ _ _ _ _ _ _ ["_law_one"] ["_law_table_here"] [4] _ _ _ _ yad.nd rfl (Or.inl rfl) (id (α:=CSc ["_law_purse_here","_law_most","_law_way","_law_far","_law_table_here","_law_fews","_law_few","_law_q","_law_rounds","_law_greatest","_law_n","_law_root","_law_marks","_law_first","_law_many","_law_k"] (yac yar) ["_law_one"] ["_law_table_here"] [4] _) ⟨by rfl,by decide +kernel,by decide +kernel,by decide +kernel,by decide +kernel,by rfl,by decide +kernel⟩) rfl (@zbO _ _ _ _ _ _ _ rfl (B "range" (by decide)) (yab>=>((pv 4)⊃yas)>=>zab) ⋯ ⋯) (λcl C fp s H=>(0⊇["_law_one","_law_table_here"])) (λ_ _ _ _ _=>zaZ) (λ_ _ _ _ _=>(@yaM _ _ _ _ _ ((xCa<$>((pv 1)>=>(pv 0)>=>zab))>=>(pv 0)>=>zab))) ⋯ (by intro _;rfl) (by trivial))<=<(@zbr _ 8 _ _ _ _ _ _ _ _ _ ["_law_pair"] ["_law_most"] [1] _ _ _ _ yad.nd rfl (Or.inl rfl) (id (α:=CSc ["_law_purse_here","_law_most","_law_way","_law_far","_law_table_here","_law_fews","_law_few","_law_q","_law_rounds","_law_greatest","_law_n","_law_root","_law_marks","_law_first","_law_many","_law_k"] (yac yar) ["_law_pair"] ["_law_most"] [1] _) ⟨by rfl,by decide +kernel,by decide +kernel,by decide +kernel,by decide +kernel,by rfl,by decide +kernel⟩) rfl (@zaH _ _ _ _ (pv 8)) (λcl C fp s H=>(0⊇["_law_pair","_law_most"])) (λ_ _ _ _ _=>(@zaS _ _ _ (yhB∪((zbM (K:=K) rfl)<<<(pv 0)<<<yab)∪(pv 1)))) (λ_ _ _ _ _=>(pv 0)) ⋯ (by intro _;rfl) (by trivial))<=<(9<|>yad.nd<|>((ye5 rfl)>>>("max",zd5,((["_law_pair"]⊆([],[],["_law_purse_here","_law_most","_law_way","_law_far","_law_table_here","_law_fews","_law_few","_law_q","_law_rounds","_law_greatest","_law_n","_law_root","_law_marks","_law_first","_law_many","_law_k"],yar,(@zaH _ _ _ _ (pv 8)),(0⊇["_law_pair"]),zaZ,((zbM (K:=K) rfl)<<<(pv 0)<<<yab)))>=>zab))))<=<((yeF∪(pv 3)∪yab)*>((~~~(@zbr _ 8 _ _ _ _ _ _ _ _ _ ["_law_pair"] ["_law_greatest"] [9] _ _ _ _ yad.nd rfl (Or.inl rfl) (id (α:=CSc ["_law_purse_here","_law_most","_law_way","_law_far","_law_table_here","_law_fews","_law_few","_law_q","_law_rounds","_law_greatest","_law_n","_law_root","_law_marks","_law_first","_law_many","_law_k"] (yac yar) ["_law_pair"] ["_law_greatest"] [9] _) ⟨by rfl,by decide +kernel,by decide +kernel,by decide +kernel,by decide +kernel,by rfl,by decide +kernel⟩) rfl (@zaH _ _ _ _ (pv 8)) (λcl C fp s H=>(0⊇["_law_pair","_law_greatest"])) (λ_ _ _ _ _=>(@zaS _ _ _ (zbg∪((zbM (K:=K) rfl)<<<(pv 0)<<<yab)∪(pv 1)))) (λ_ _ _ _ _=>(pv 0)) ⋯ (by intro _;rfl) (by trivial))),yam))<=<((yai<<<(pv 8)<<<(xC3<$>((pv 0)>=>(zar>>>("len",PySem.boot_len,((pv 8)>=>zab)))>=>zab)))≈((10&&&yad.nd)∩((11&&&yad.nd)∩yaB)))<=<(12<|>yad.nd<|>(@yax _ _ _ _ zab))<=<((zbg∪(pv 2)∪yab)*>((~~~(12<|>yad.nd<|>((zbR rfl)<*("list",zaY,((@zcj _ _ _ _ _ rfl (B "range" (by decide)) ((pv 10)>=>zab) ⋯)>=>zab))))),(~~~((zbg∪(pv 2)∪yab)*>((~~~(12<|>yad.nd<|>(xC9<$>((xC3<$>((pv 0)>=>(pv 10)>=>zab))>=>(pv 10)>=>(pv 7)>=>zab)))),(~~~((yeF∪(pv 2)∪yab)*>(((@zbj _ _ 13 14 _ _ _ _ _ _ _ _ _ _ _ rfl yad.nd rfl rfl (by decide) rfl rfl ((xC3<$>((pv 0)>=>(pv 10)>=>zab))>=>(xC3<$>((pv 0)>=>(pv 10)>=>zab))>=>zab) rfl ⋯)<=<(~~~((↑((pv 14)>=>zab))<&>((15&&&yad.nd),(~~~((@PW.pt _ _ _ (@zeN _ _ _ _ _ _ _ (yeF∪(pv 2)∪yab) (@ycX _ _ _ _ (zbg∪(xC3<$>((pv 0)>=>yab>=>zab))∪yab))))*>((~~~(12<|>yad.nd<|>(ycR|||(pv 12)|||(xC9<$>((yat|||(pv 13)|||(pv 15))>=>(pv 10)>=>(pv 7)>=>zab))))),yam))))))),yam))))))))<=<(~~~((@yaM _ _ _ _ _ ((pv 4)>=>(@yaM _ _ _ _ _ (((pv 4)⊃yas)>=>(pv 6)>=>(pv 11)>=>(zal<*("tuple",zaj,((@zbZ _ _ _ _ _ _ _ rfl rfl (B "sorted" (by decide)) rfl (B "set" (by decide)) (pv 12) ⋯ ⋯)>=>zab)))>=>zab))>=>zab))⁻¹))),?_⟩
 try dsimp only[cxOf]
 refine⟨_,rfl,pu,g,6,rfl,hP,by lia,by lia,λway H1 hway hP1 sx1=>?_⟩;refine⟨_,rfl,pu,g,3,rfl,hP1,by lia,by lia,λfar H2 hfar hP2 sx2=>?_⟩;refine⟨_,_,rfl,?_⟩;refine⟨_,rfl,pu,g,rfl,hP2,λfa p m t H3 nf1 nf2 nf ef G hP3 sx3=>?_⟩;refine⟨fa,p,m,t,rfl,ef,G,λtb pa la b H4 ntb npa nla T4 s4=>?_⟩;have hP4:=hP3.same s4;have ap:zfE pu g tb fa pa la:=⟨(hP3.lt ntb).1,(hP3.lt ntb).2,nf1,nf2,(hP3.lt npa).1,(hP3.lt npa).2,(hP3.lt nla).1,(hP3.lt nla).2⟩
 have sx4:=(sx1.trans (sx2.trans sx3)).trans (Same.x s4);have hp:=G.hp;have hm:=G.hm;have hQ:=G.hq;have hQ2:=zay hp hm;have hm6:=m_le hp hQ;refine⟨_,rfl,tb,_,rfl,T4.get zhD,_,_,rfl,rfl,?_⟩;refine⟨1,((m+1:Nat):Int),rfl,by lia,?_⟩;refine yao ybC (λk acc H'=>H'=H4/\∃fs:List Nat,acc=fs.map Vn/\(∀f∈fs,1<=f/\m%f=0)/\fs.length<=k/\(0<k->0<fs.length)) ⟨rfl,([]:List Nat),rfl,λf hf=>absurd hf (by simp),xA5 _,λh=>absurd h (Nat.lt_irrefl _)⟩ (λ_ _ _ _ _=>trivial) ?_ ?_ ?_
 ·rintro k acc H' hk ⟨_,fs,rfl,_,hl,_⟩;rw[xA1];exact yah (by lia)
 ·rintro k acc x H' H'' hk ⟨rfl,fs,rfl,hfs,hl,h0⟩ ⟨rfl,rfl⟩;refine⟨_,rfl,tb,_,rfl,T4.get zhD,_,rfl,_,_,rfl,rfl,by show(0:Int)<1+(k:Int);lia,rfl,_,rfl,?_⟩;have ed:decide (V.int ((m:Int)%(1+(k:Int)))=V.int 0)=decide (m%(1+k)=0):=by rw[show(1+(k:Int))=((1+k:Nat):Int) by lia];exact yf0 _ _
  refine ite2 (λc=>?_) (λc=>?_)
  ·have c1:m%(1+k)=0:=by rw[ed]at c;exact xAn c
   refine⟨_,rfl,rfl,fs++[1+k],?_,?_,by simp;lia,λ_=>by simp⟩
   ·rw[xAk,show V.int (1+(k:Int))=Vn (1+k) from ydY (by lia)];rfl
   ·intro f hf;rcases xAr.mp hf with h|h
    ·exact hfs f h
    ·cases xAl.mp h;exact⟨by lia,c1⟩
  ·refine⟨rfl,fs,rfl,hfs,by lia,λ_=>?_⟩;by_cases c0:k=0
   ·subst c0;refine absurd ?_ c;rw[ed,xAD (by show m%1=0;exact Nat.mod_one m)]
   ·exact h0 (by lia)
 rintro acc H5 ⟨rfl,fs,rfl,hfs,hfl,hf0⟩ fl hfl';have hfl2:fs.length<=m:=by lia
 have hf1:0<fs.length:=hf0 (by lia);have s5:=yaa hfl' (.lst (fs.map Vn));have T5:=T4.same s5;have hP5:=hP4.same s5;have nfl:=hP4.lt hfl';have e5:upd H5 fl (.lst (fs.map Vn)) fl=some (.lst (fs.map Vn)):=zaa;have sx5:=sx4.trans (Same.x s5);dsimp only[yap];generalize upd H5 fl (.lst (fs.map Vn))=H5' at s5 T5 hP5 e5 sx5 ⊢;refine⟨_,rfl,_,rfl,_,rfl,fl,_,rfl,.inl (SqL.of e5),?_⟩;refine⟨pu,g,fs.length,by rw[xA1];rfl,hP5,hf1,by lia,λfi H6 hfi hP6 sx6=>?_⟩;have hfew:=hfs (fs.getD fi 0) (by
  have:=xBB hfi
  rwa [show fs.getD fi 0=fs[fi] by simp[List.getD,hfi]])
 have e6:=sx6 _ _ nfl.1 nfl.2 e5;have sx6':=sx5.trans sx6;refine⟨fl,_,_,Vn (fs.getD fi 0),rfl,rfl,SqL.of e6,zbc (zaU hfi),?_⟩;generalize fs.getD fi 0=few at hfew ⊢;have hfewm:few<=m:=Nat.le_of_dvd (by lia) (xBs hfew.2);have T6:=T5.x ap sx6;dsimp only[yap];refine⟨_,rfl,tb,_,rfl,T6.get zdT,_,rfl,p,few,rfl,p_le hp hm hQ,by lia,?_⟩;have hqq:p^few<=64:=xAz (xAM (by lia) hfewm) hQ;dsimp only[yap];refine⟨_,rfl,tb,_,rfl,T6.get zcg,?_⟩;refine⟨1,((p^m:Nat):Int),rfl,by lia,?_⟩;refine yao ybC (λk acc H'=>Same H6 H'/\∃ts:List Addr,acc=ts.map V.ref/\ts.length=k/\(∀a∈ts,ya3 p m t H' a)/\(0<k->∃a∈ts,pn H' a=1)) ⟨Same.refl _,([]:List Addr),rfl,rfl,λa ha=>absurd ha (by simp),λh=>absurd h (Nat.lt_irrefl _)⟩ (λ_ _ _ _ _=>trivial) ?_ ?_ ?_
 ·rintro k acc H' hk ⟨_,ts,rfl,hl,_⟩;rw[xA1,hl];exact yah (by lia)
 ·rintro k acc x H' H'' hk ⟨s',ts,rfl,hl,hts,h1⟩ ⟨rfl,rfl⟩;have hk2:1+k<p^m:=by lia
  refine⟨_,rfl,_,rfl,tb,fa,pa,la,p,m,t,b,1+k,?_,T6.same s',by lia,hk2,λn o hn=>?_⟩
  ·rw[show(1+(k:Int))=((1+k:Nat):Int) by lia];rfl
  refine⟨_,rfl,szl 2,λa ha=>?_⟩;have sn:=yaa ha (.tup [Vn n,.int (1+(k:Int))]);have en:upd H'' a (.tup [Vn n,.int (1+(k:Int))]) a=some (.tup [Vn n,Vn (1+k)]):=by rw[zaa];congr 1
  refine⟨s'.trans sn,ts++[a],by rw[xAk];rfl,by simp[hl],?_,?_⟩
  ·intro a' ha';rcases xAr.mp ha' with h|h
   ·exact(hts a' h).same sn
   ·cases xAl.mp h;exact⟨n,1+k,en,o,hn,by lia,hk2⟩
  ·intro _;by_cases c0:k=0
   ·subst c0;refine⟨a,by simp,?_⟩;rw[zb0 en];have h2:=o.pos;have h3:=o.le (k:=1) (by lia) (by rw[ycG hp hm (by lia)])
    lia
   ·obtain⟨a',ha',e'⟩:=h1 (by lia);obtain⟨n',x',hx',_⟩:=hts a' ha';exact⟨a',xAT _ ha',by rw[zb0 (sn _ _ hx'),<-zb0 hx'];exact e'⟩
 rintro acc H7 ⟨s7,ts,rfl,htl,hts,hone⟩ rl hrl;have htl2:ts.length=p^m-1:=by
  rw[htl,show((p^m:Nat):Int)-1=((p^m-1:Nat):Int) by lia];rfl
 obtain⟨a1,ha1,ea1⟩:=hone (by lia);have s7':=s7.trans (yaa hrl (.lst (ts.map V.ref)));have T7:=T6.same s7';have hP7:=hP6.same s7';have nrl:=(hP6.same s7).lt hrl;have e7:upd H7 rl (.lst (ts.map V.ref)) rl=some (.lst (ts.map V.ref)):=zaa;have hts7:∀a∈ts,ya3 p m t (upd H7 rl (.lst (ts.map V.ref))) a:=λa ha=>(hts a ha).same (yaa hrl _)
 have ea7:pn (upd H7 rl (.lst (ts.map V.ref))) a1=1:=by
  obtain⟨n',x',hx',_⟩:=hts a1 ha1;rw[zb0 (yaa hrl _ _ _ hx'),<-zb0 hx'];exact ea1
 have sx7:=sx6'.trans (Same.x s7');dsimp only[yap];generalize upd H7 rl (.lst (ts.map V.ref))=H8 at s7' T7 hP7 e7 hts7 ea7 sx7 ⊢;refine⟨_,rfl,rl,rfl,⟨_,SqL.of e7⟩,?_⟩;refine yao (zaO (xs:=ts.map V.ref)) (λk acc H'=>H'=H8/\acc=((ts.take k).filter λa=>decide (pn H8 a<=most)).map V.ref) ⟨rfl,rfl⟩ (λi acc H' _ h=>h.1 ▸ SqL.of e7) ?_ ?_ ?_
 ·rintro k acc H' hk ⟨_,rfl⟩;have:=xBj (λa=>decide (pn H8 a<=most)) (ts.take k);rw[xAC]at this;rw[xA1];exact yah (by lia)
 ·rintro k acc z H' H'' hk ⟨rfl,rfl⟩ ⟨rfl,ez⟩;obtain⟨a,ea,rfl⟩:=zdn ez;obtain⟨n,x,hx,_⟩:=hts7 a (xAS ea);refine⟨_,rfl,a,_,_,Vn n,rfl,rfl,SqT.of hx,rfl,_,rfl,_,_,rfl,rfl,_,rfl,?_⟩;rw[zat ea,List.filter_append];refine ite2 (λc=>?_) (λc=>?_)
  ·have c1:n<=most:=by have:=xAn c;lia
   refine⟨_,rfl,rfl,?_⟩;rw[xAk];simp[zb0 hx,c1]
  ·have c1:¬ n<=most:=λh=>c (xAD (by lia))
   refine⟨rfl,?_⟩;simp[zb0 hx,c1]
 rw[xA1];rintro acc H9 ⟨rfl,rfl⟩ r2 hr2;rw[xBv];obtain⟨us,hus⟩:∃us,us=ts.filter λa=>decide (pn H9 a<=most):=⟨_,rfl⟩
 rw[<-hus];have hu1:∀a∈us,ya3 p m t H9 a/\pn H9 a<=most:=λa ha=>by
  rw[hus]at ha;have:=xAU.mp ha;exact⟨hts7 a this.1,xAn this.2⟩
 have hu0:a1∈us:=by rw[hus];exact xAU.mpr ⟨ha1,xAD (by rw[ea7];exact hmost)⟩
 have hul:us.length<=63:=by
  have:=xBj (λa=>decide (pn H9 a<=most)) ts;rw[<-hus]at this
  lia
 clear hus;have pk:∀ {H H':Hp},Same H H'->∀a,ya3 p m t H a->pn H' a=pn H a:=λs a ⟨n,x,h,_⟩=>by rw[zb0 (s _ _ h),zb0 h]
 have s9:=yaa hr2 (.lst (us.map V.ref));have T9:=T7.same s9;have hP9:=hP7.same s9;have n2:=hP7.lt hr2;have e9:upd H9 r2 (.lst (us.map V.ref)) r2=some (.lst (us.map V.ref)):=zaa;have hu9:∀a∈us,ya3 p m t (upd H9 r2 (.lst (us.map V.ref))) a/\pn (upd H9 r2 (.lst (us.map V.ref))) a<=most:=λa ha=>⟨(hu1 a ha).1.same s9,by rw[pk s9 a (hu1 a ha).1];exact(hu1 a ha).2⟩
 have sx9:=sx7.trans (Same.x s9);dsimp only[yap];generalize upd H9 r2 (.lst (us.map V.ref))=HA at s9 T9 hP9 e9 hu9 sx9 ⊢;refine⟨_,rfl,r2,rfl,⟨_,SqL.of e9⟩,?_⟩;refine yao (zaO (xs:=us.map V.ref)) (λk acc H'=>H'=HA/\acc=((us.take k).map (pn HA)).map Vn) ⟨rfl,rfl⟩ (λi acc H' _ h=>h.1 ▸ SqL.of e9) ?_ ?_ ?_
 ·rintro k acc H' hk ⟨_,rfl⟩;rw[xA1,xA1,xAC];exact yah (by lia)
 ·rintro k acc z H' H'' hk ⟨rfl,rfl⟩ ⟨rfl,ez⟩;obtain⟨a,ea,rfl⟩:=zdn ez;obtain⟨⟨n,x,hx,_⟩,_⟩:=hu9 a (xAS ea);refine⟨_,rfl,a,_,_,Vn n,rfl,rfl,SqT.of hx,rfl,rfl,?_⟩;rw[zat ea,xAk,xAk,show [a].map (pn H'')=[n] by rw[List.map_singleton,zb0 hx]];rfl
 rw[xA1];rintro acc HB ⟨rfl,rfl⟩ gl' hgl';rw[xBv];refine⟨gl',(us.map (pn HB)).map (λn:Nat=>(n:Int)),rfl,SqL.of (by rw[mapI];exact zaa),by rw[xA1,xA1];exact xBS hu0,λM hM1 hM2=>?_⟩;obtain⟨M,hM,rfl⟩:=xA9.mp hM1;obtain⟨aM,haM,eM⟩:=xA9.mp hM;have sB:=yaa hgl' (.lst ((us.map (pn HB)).map Vn));have TB:=T9.same sB;have hPB:=hP9.same sB;have eB:=sB _ _ e9;have huB:∀a∈us,ya3 p m t (upd HB gl' (.lst ((us.map (pn HB)).map Vn))) a/\pn (upd HB gl' (.lst ((us.map (pn HB)).map Vn))) a<=most:=λa ha=>⟨(hu9 a ha).1.same sB,by rw[pk sB a (hu9 a ha).1];exact(hu9 a ha).2⟩
 have eMB:pn (upd HB gl' (.lst ((us.map (pn HB)).map Vn))) aM=M:=by rw[pk sB aM (hu9 aM haM).1];exact eM
 have sxB:=sx9.trans (Same.x sB);dsimp only[yap];generalize upd HB gl' (.lst ((us.map (pn HB)).map Vn))=HC at sB TB hPB eB huB eMB sxB ⊢;change tSeq (tIfS _ _ _) _ _ _ _
 let I2:St->Hp->Prop:=λσ H'=>Ex2 λ(rr:Addr) (ws:List Addr)=>An7 (Same HC H') (H' rr=some (.lst (ws.map V.ref))) (rr≠pu/\rr≠g) (0<ws.length) (ws.length<=63) (∀a∈ws,ya3 p m t H' a/\pn H' a<=most) (σ=[some (.ref pu),some (Vn most),some (Vn way),some (Vn far),some (.ref tb),some (.ref fl),some (Vn few),some (Vn (p^few)),some (.ref rr),some (Vn M),none,none,none,none,none,none])
 refine yaU I2 ?_ ?_
 ·rintro σ HE ⟨rr,ws,sE,eE,nrr,hw0,hw1,hws,rfl⟩;have TE:=TB.same sE;have hPE:=hPB.same sE;have sxE:=sxB.trans (Same.x sE);refine⟨_,rfl,_,rfl,_,rfl,rr,_,rfl,.inl (SqL.of eE),?_⟩;refine⟨pu,g,ws.length,by rw[xA1];rfl,hPE,hw0,by lia,λwi HF hwi hPF sxF=>?_⟩;have hwm:ws[wi]∈ws:=xBB hwi;obtain⟨⟨n,root,hpr,ord,hnq,r0,rq⟩,hmo⟩:=hws _ hwm;rw[zb0 hpr]at hmo;have npr:=hPE.tup_ne hpr;have hprF:=sxF _ _ npr.1 npr.2 hpr;have eF:=sxF _ _ nrr.1 nrr.2 eE;have TF:=TE.x ap sxF;have sxF':=sxE.trans sxF;have hn0:=ord.pos;refine⟨rr,_,_,.ref ws[wi],rfl,rfl,SqL.of eF,zbc (by rw[xAd,xAc hwi];rfl),?_⟩;refine⟨ws[wi],_,rfl,SqT.of hprF,rfl,_,_,rfl,_,_,rfl,rfl,?_⟩;refine⟨szl 0,λm0 hm0=>?_⟩;have sG:=yaa hm0 (.lst []);have hPG:=hPF.same sG;have nm0:=hPF.lt hm0;have eG:upd HF m0 (.lst []) m0=some (.lst (([]:List Nat).map Vn)):=zaa;have TG:=TF.same sG;have sxG:=sxF'.trans (Same.x sG);dsimp only[yap];generalize upd HF m0 (.lst [])=HG at sG hPG eG TG sxG ⊢;have hrnd:=Ord.round G r0 rq ord hfew.2 hfew.1;have hme:1<=m/few:=Nat.div_pos hfewm hfew.1;have hme2:m/few<=6:=xAz (Nat.div_le_self _ _) hm6;change tSeq (tIfS _ _ _) _ _ _ _
  let I3:St->Hp->Prop:=λσ H'=>An3 (Pu H' pu g) (zah pu g HG H') (Ex5 λ(ml:Addr) (ns:List Nat) (s13 s14 s15:Option V)=>An6 (H' ml=some (.lst (ns.map Vn))) (ml≠pu/\ml≠g) (ns.length<=400) (∀x∈ns,x<n) (∀x∈ns,x*p^few%n∈ns) (σ=[some (.ref pu),some (Vn most),some (Vn way),some (Vn far),some (.ref tb),some (.ref fl),some (Vn few),some (Vn (p^few)),some (.ref rr),some (Vn M),some (Vn n),some (Vn root),some (.ref ml),s13,s14,s15]))
  refine yaU I3 ?_ ?_
  ·rintro σ HI ⟨hPI,sxI,ml,ns,s13,s14,s15,eI,nml,hnl,hnn,hnc,rfl⟩;have TI:=TG.x ap sxI;refine⟨_,rfl,_,rfl,tb,_,rfl,TI.get yfA,_,rfl,_,rfl,_,rfl,ml,ns.map (λn:Nat=>(n:Int)),rfl,SqL.of (by rw[mapI];exact eI),by rw[xA1];lia,?_,?_⟩
   ·intro ks hks hsub;have:=zbN (τ:=(List.range n).map λi:Nat=>(i:Int)) hks λk hk=>by
     obtain⟨x,hx,rfl⟩:=xA9.mp (hsub k hk);exact xA9.mpr ⟨x,xAt.mpr (hnn x hx),rfl⟩
    rw[xA1,xAy]at this
    lia
   ·intro l2 ns' hl2 hasc hmem;obtain⟨marks,hmk⟩:∃marks:List Nat,ns'=marks.map λx:Nat=>(x:Int):=by
     refine⟨ns'.map Int.toNat,?_⟩;rw[xAH]
     conv=>lhs;rw[<-List.map_id ns']
     refine xAL λk hk=>?_
     obtain⟨x,_,rfl⟩:=xA9.mp ((hmem k).mp hk);rfl
    subst hmk;have hmm:∀x:Nat,x∈marks↔x∈ns:=λx=>by
     have:=hmem (x:Int);constructor
     ·intro h;obtain⟨y,hy,e⟩:=xA9.mp (this.mp (List.mem_map_of_mem h));rw[<-Int.ofNat.inj e];exact hy
     ·intro h;obtain⟨y,hy,e⟩:=xA9.mp (this.mpr (List.mem_map_of_mem h));rw[<-Int.ofNat.inj e];exact hy
    have hasc2:marks.Pairwise (· < ·):=by
     rw[xAJ]at hasc;exact hasc.imp λh=>by lia
    rw[mapI];have s2:=yaa hl2 (.lst (marks.map Vn));refine⟨l2,_,rfl,.inl ⟨SqL.of zaa,λmk hmk=>?_⟩⟩;have s3:=yaa hmk (.tup (marks.map Vn));refine⟨szl 4,λwh hwh=>?_⟩;have s4':=yaa hwh (.tup [.ref fa,Vn few,Vn root,.ref mk]);refine⟨szl 2,λr hr=>?_⟩;have s5':=yaa hr (.tup [.ref tb,.ref wh]);have hP2':=hPI.same s2;have hP3':=hP2'.same s3;have hP4':=hP3'.same s4';refine q r tb fa pa la wh mk p m t b few root n marks _ zaa ((((TI.same s2).same s3).same s4').same s5') ap ⟨s5' _ _ zaa,s5' _ _ (s4' _ _ zaa)⟩ (hP3'.lt hwh) (hP2'.lt hmk) (hP4'.lt hr) ⟨hfew.1,hfew.2,r0,rq,ord,hnq,hasc2,λx hx=>hnn x ((hmm x).mp hx),λx hx=>(hmm _).mpr (hnc x ((hmm x).mp hx))⟩ hmo (hP4'.same s5') ?_;exact(sxG.trans sxI).trans (Same.x (((s2.trans s3).trans s4').trans s5'))
  ·intro D' _ _ _ hD';refine⟨_,rfl,rfl,_,rfl,?_⟩;refine ite2 (λc=>?_) (λc=>?_)
   ·refine⟨_,rfl,(n:Int),rfl,λrg hrg=>⟨rg,0,(n:Int),rfl,zaa,by lia,by rw[show((n:Int)-0).toNat=n by lia];exact szl _ (by lia),λl hl=>?_⟩⟩;have s1':=yaa hrg (.rng 0 (n:Int));have e1:L2.intsFrom 0 ((n:Int)-0).toNat=(List.range n).map Vn:=by
     rw[show((n:Int)-0).toNat=n by lia];unfold L2.intsFrom;refine xAL λi _=>?_
     rw[Int.zero_add]
    rw[e1];have s2':=yaa hl (.lst ((List.range n).map Vn));exact hD' _ _ ⟨(hPG.same s1').same s2',Same.x (s1'.trans s2'),l,List.range n,_,_,_,zaa,(hPG.same s1').lt hl,by rw[xAy];lia,λx hx=>xAt.mp hx,λx _=>xAt.mpr (xBh _ (by lia)),rfl⟩
   ·refine⟨_,rfl,rfl,_,rfl,?_⟩;refine ite2 (λc=>?_) (λc=>?_)
    ·refine⟨_,rfl,_,rfl,pu,g,n,rfl,hPG,by lia,by lia,λi HJ hi hPJ sxJ=>?_⟩;refine⟨_,rfl,_,rfl,i,n,p^few,m/few,rfl,by lia,by lia,hqq,hme,hme2,hrnd,λr ns HK sK nr er h1 h2 h3 h4 _ _ _=>?_⟩;exact hD' _ _ ⟨hPJ.same sK,sxJ.trans (Same.x sK),r,ns,_,_,_,er,hPJ.lt nr,by lia,h3,h4,rfl⟩
    ·refine⟨_,rfl,_,_,rfl,rfl,_,rfl,?_⟩;refine ite2 (λc=>?_) (λc=>?_)
     ·refine⟨_,rfl,_,rfl,pu,g,n,rfl,hPG,by lia,by lia,λfirst HJ hfi hPJ sxJ=>?_⟩;refine⟨_,rfl,_,rfl,pu,g,n,rfl,hPJ,by lia,by lia,λmany HK hma hPK sxK=>?_⟩;refine⟨_,_,rfl,?_⟩;refine⟨_,rfl,many,rfl,by lia,by lia,?_⟩;have eK:=sxK _ _ nm0.1 nm0.2 (sxJ _ _ nm0.1 nm0.2 eG)
      let I4:Nat->St->Hp->Prop:=λk σ H'=>An3 (Pu H' pu g) (zah pu g HG H') (Ex3 λ(ml:Addr) (ns:List Nat) (s15:Option V)=>An6 (H' ml=some (.lst (ns.map Vn))) (ml≠pu/\ml≠g) (ns.length<=6*k) (∀x∈ns,x<n) (∀x∈ns,x*p^few%n∈ns) (σ=[some (.ref pu),some (Vn most),some (Vn way),some (Vn far),some (.ref tb),some (.ref fl),some (Vn few),some (Vn (p^few)),some (.ref rr),some (Vn M),some (Vn n),some (Vn root),some (.ref ml),some (Vn first),some (Vn many),s15]))
      refine zaD (n:=many) I4
       ⟨hPK,sxJ.trans sxK,m0,[],_,eK,nm0,by decide,λx hx=>absurd hx (by simp),λx hx=>absurd hx (by simp),rfl⟩ ?_ ?_
      ·rintro k σ HL hk ⟨hPL,sxL,ml,ns,s15,eL,nml,hnl,hnn,hnc,rfl⟩;have body:∀HM,Pu HM pu g->zah pu g HL HM->∀Q:V->Hp->Prop,(∀l (ns':List Nat) H',Pu H' pu g->zah pu g HG H'->H' l=some (.lst (ns'.map Vn))->(l≠pu/\l≠g)->ns'.length<=6*(k+1)->(∀x∈ns',x<n)->(∀x∈ns',x*p^few%n∈ns')->Q (.ref l) H')->
         tOp rCat (tVar 12) (zgL yby [] E0 (zcK (tOp (rI0 λi j=>V.int (i+j)) (tVar 13) (tVar 15)) (zcK (tVar 10) (zcK (tVar 7) tNil)))) [some (.ref pu),some (Vn most),some (Vn way),some (Vn far),some (.ref tb),some (.ref fl),some (Vn few),some (Vn (p^few)),some (.ref rr),some (Vn M),some (Vn n),some (Vn root),some (.ref ml),some (Vn first),some (Vn many),some (.int (0+(k:Int)))] HM Q:=by
        intro HM hPM sxM Q hQ;have eM:=sxM _ _ nml.1 nml.2 eL;refine⟨_,rfl,_,rfl,_,rfl,_,_,rfl,rfl,_,rfl,_,rfl,first+k,n,p^few,m/few,?_,by lia,by lia,hqq,hme,hme2,hrnd,λr rs HN sN nr er h1 h2 h3 h4 _ _ _=>?_⟩
        ·show [V.int ((first:Int)+(0+(k:Int))),Vn n,Vn (p^few)]=[Vn (first+k),Vn n,Vn (p^few)]
         rw[show(first:Int)+(0+(k:Int))=((first+k:Nat):Int) by lia]
        refine⟨ml,r,_,_,rfl,rfl,sN _ _ eM,er,by rw[xA1,xA1];exact szl _ (by lia),λl hl=>?_⟩;rw[<-xAk];have sO:=yaa hl (.lst ((ns++rs).map Vn));refine hQ l (ns++rs) _ ((hPM.same sN).same sO) ((sxL.trans sxM).trans (Same.x (sN.trans sO))) zaa ((hPM.same sN).lt hl) (by rw[xAB];lia) (λx hx=>?_) (λx hx=>?_)
        ·rcases xAr.mp hx with h|h
         ·exact hnn x h
         ·exact h3 x h
        ·rcases xAr.mp hx with h|h
         ·exact xAT _ (hnc x h)
         ·exact xAg _ (h4 x h)
       refine⟨_,rfl,_,_,rfl,rfl,_,rfl,?_⟩;refine ite2 (λc=>?_) (λc=>?_)
       ·refine ite2 (λ_=>?_) (λh=>absurd rfl h);exact body HL hPL zah.refl _ λl ns' H' a1 a2 a3 a4 a5 a6 a7=>⟨a1,a2,l,ns',_,a3,a4,a5,a6,a7,rfl⟩
       ·refine⟨_,rfl,pu,g,3,rfl,hPL,by lia,by lia,λv HM hv hPM sxM=>?_⟩;refine⟨rfl,_,rfl,?_⟩;refine ite2 (λ_=>?_) (λ_=>?_)
        ·exact body HM hPM sxM _ λl ns' H' a1 a2 a3 a4 a5 a6 a7=>⟨a1,a2,l,ns',_,a3,a4,a5,a6,a7,rfl⟩
        ·exact⟨hPM,sxL.trans sxM,ml,ns,_,sxM _ _ nml.1 nml.2 eL,nml,by lia,hnn,hnc,rfl⟩
      ·rintro σ HL ⟨hPL,sxL,ml,ns,s15,eL,nml,hnl,hnn,hnc,rfl⟩;exact hD' _ _ ⟨hPL,sxL,ml,ns,_,_,_,eL,nml,by lia,hnn,hnc,rfl⟩
     ·exact hD' _ _ ⟨hPG,zah.refl,m0,[],_,_,_,eG,nm0,by decide,λx hx=>absurd hx (by simp),λx hx=>absurd hx (by simp),rfl⟩
 ·intro D' _ _ _ hD';refine⟨_,rfl,_,_,rfl,rfl,_,rfl,?_⟩;refine ite2 (λc=>?_) (λc=>?_)
  ·refine⟨_,rfl,r2,rfl,⟨_,SqL.of eB⟩,?_⟩;refine yao (zaO (xs:=us.map V.ref)) (λk acc H'=>H'=HC/\acc=((us.take k).filter λa=>decide (pn HC a=M)).map V.ref) ⟨rfl,rfl⟩ (λi acc H' _ h=>h.1 ▸ SqL.of eB) ?_ ?_ ?_
   ·rintro k acc H' hk ⟨_,rfl⟩;have:=xBj (λa=>decide (pn HC a=M)) (us.take k);rw[xAC]at this;rw[xA1];exact yah (by lia)
   ·rintro k acc z H' H'' hk ⟨rfl,rfl⟩ ⟨rfl,ez⟩;obtain⟨a,ea,rfl⟩:=zdn ez;obtain⟨⟨n,x,hx,_⟩,_⟩:=huB a (xAS ea);refine⟨_,rfl,a,_,_,Vn n,rfl,rfl,SqT.of hx,rfl,_,rfl,rfl,_,rfl,?_⟩;have ed:decide (Vn n=Vn M)=decide (n=M):=decide_eq_decide.mpr ⟨λe=>Int.ofNat.inj (V.int.inj e),λe=>by rw[e]⟩;rw[zat ea,List.filter_append,ed];refine ite2 (λc=>?_) (λc=>?_)
    ·have c1:n=M:=xAn c;refine⟨_,rfl,rfl,?_⟩;rw[xAk];simp[zb0 hx,c1]
    ·have c1:¬ n=M:=λh=>c (xAD h)
     refine⟨rfl,?_⟩;simp[zb0 hx,c1]
   rw[xA1];rintro acc HD ⟨rfl,rfl⟩ r3 hr3;rw[xBv];have s3:=yaa hr3 (.lst ((us.filter λa=>decide (pn HD a=M)).map V.ref));refine hD' _ _ ⟨r3,us.filter λa=>decide (pn HD a=M),s3,zaa,hPB.lt hr3,?_,?_,?_,rfl⟩
   ·exact xBS (xAU.mpr ⟨haM,xAD eMB⟩)
   ·exact xAz (xBj _ _) hul
   ·intro a ha;have h1:=huB a (xAU.mp ha).1;exact⟨h1.1.same s3,by rw[pk s3 a h1.1];exact h1.2⟩
  ·exact hD' _ _ ⟨r2,us,Same.refl _,eB,n2,xBS hu0,hul,huB,rfl⟩
end
end My
end
section
namespace L2
open PySem PyProof.Rows
end L2
namespace My
open PySem L2 Dg
local macro_rules | `(tactic| walk_at "rd") => `(tactic| repeat (first | refine ⟨_, rfl, ?_⟩ | refine ⟨_, _, rfl, rfl, ?_⟩))
section
variable {P:Program} {w:World} {mg:Str->Option Value} {base:Heap} {f:Addr} {fd:FuncData}
theorem zbt(x:Nat)(marks:List Nat):inV (Vn x) (marks.map Vn)=decide (x∈marks):=by
 unfold inV;rw[List.any_map];rw[Bool.eq_iff_iff,List.any_eq_true,xBk];constructor
 ·rintro⟨y,hy,h⟩;have:((y:Int)==(x:Int))=true:=h;rw[<-Int.ofNat.inj (xBC this)];exact hy
 ·intro h;exact⟨x,h,xBg ((x:Nat):Int)⟩
theorem za9(marks:List Nat):(marks.map Vn).all zdg=true:=by
 rw[xAY];intro v hv;obtain⟨x,_,rfl⟩:=xA9.mp hv;rfl
end
end My
end
section
namespace My
open PySem L2 Dg
local macro_rules | `(tactic| walk_at "rd") => `(tactic| repeat (first | refine ⟨_, rfl, ?_⟩ | refine ⟨_, _, rfl, rfl, ?_⟩))
theorem ygZ{K:PySem.W.Frag}(ha:SqT K H a xs)(hb:SqT K H b ys)(hz:xs.length+ys.length<=1000)(q:∀p H',Same H H'->SqT K H' p (xs++ys)->Q (.ref p) H'):zgR K (.ref a) (.ref b) H Q:=by
 refine⟨a,b,xs,ys,rfl,rfl,ha,hb,szl _ (by lia),λe=>?_,λe1 e2=>?_,λe1 e2 p hp=>?_⟩
 ·subst e;exact q b H (Same.refl _) hb
 ·subst e2;exact q a H (Same.refl _) (by rw[xBu];exact ha)
 ·exact q p _ (yaa hp _) (SqT.of zaa)
end My
end
section
namespace My
open PySem L2 Dg
local macro_rules | `(tactic| walk_at "rd") => `(tactic| repeat (first | refine ⟨_, rfl, ?_⟩ | refine ⟨_, _, rfl, rfl, ?_⟩))
end My
end
section
namespace My
open PySem L2 Dg
local macro_rules | `(tactic| walk_at "rd") => `(tactic| repeat (first | refine ⟨_, rfl, ?_⟩ | refine ⟨_, _, rfl, rfl, ?_⟩))
def lets(p m t few:Nat):List Nat:=(List.range (p^m)).filter λx=>decide (pw p m t x (p^few)=x)
theorem yaT{p m t few:Nat}:∀x∈lets p m t few,x<p^m:=λx hx=>xAt.mp (xAU.mp hx).1
section
variable {P:Program} {w:World} {mg:Str->Option Value} {base:Heap} {f:Addr} {fd:FuncData}
inductive ybI (vs:List V) (H:Hp) (Q:VK) (E:XK):Prop
 |mk (tb fa pa la:Addr) (p m t b few:Nat) (c1:vs=[.ref tb,Vn few]) (c2:Tab H tb fa pa la p m t b) (c3:few<=6) (c4:∀r H',Same H H'->H r=none->H' r=some (.lst ((lets p m t few).map Vn))->Q (.ref r) H'):ybI vs H Q E
noncomputable def mkS(p m t r:Nat)(row:List Nat):List Nat:=(List.range (row.length+1)).map λi=>sub p m ((0::row).getD i 0) (mul p m t r ((row++[0]).getD i 0))
def mkL(p m t root:Nat)(marks:List Nat):List Nat:=marks.foldl (λrow k=>mkS p m t (pw p m t root k) row) [1]
theorem yct(p m t r:Nat)(row:List Nat):(mkS p m t r row).length=row.length+1:=by simp[mkS]
theorem zeU(p m t root:Nat):∀(marks row:List Nat),(marks.foldl (λrow k=>mkS p m t (pw p m t root k) row) row).length=row.length+marks.length
 | [],row=>rfl
 |k::marks,row=>by rw[List.foldl_cons,zeU p m t root marks,yct,xAo];lia
theorem zb1(p m t root:Nat)(marks:List Nat):(mkL p m t root marks).length=marks.length+1:=by unfold mkL;rw[zeU];simp;lia
theorem yfr{p m t r:Nat}(G:Good p m t){row:List Nat}:∀x∈mkS p m t r row,x<p^m:=λx hx=>by
 obtain⟨i,_,rfl⟩:=xA9.mp hx;exact zcY G.hp G.hm _ _
theorem ygA{p m t root:Nat}(G:Good p m t):∀(marks row:List Nat),(∀x∈row,x<p^m)->∀x∈marks.foldl (λrow k=>mkS p m t (pw p m t root k) row) row,x<p^m
 | [],row,h=>h
 |k::marks,row,h=>by rw[List.foldl_cons];exact ygA G marks _ (yfr G)
theorem ydJ{p m t root:Nat}(G:Good p m t)(marks:List Nat):∀x∈mkL p m t root marks,x<p^m:=ygA G marks [1] λx hx=>by rw[xAl.mp hx];exact zay G.hp G.hm
theorem yf6{p m t root:Nat}{marks:List Nat}{i k:Nat}(h:marks[i]?=some k):mkL p m t root (marks.take (i+1))=mkS p m t (pw p m t root k) (mkL p m t root (marks.take i)):=by
 unfold mkL;rw[zat h,List.foldl_append];rfl
inductive ycw (vs:List V) (H:Hp) (Q:VK) (E:XK):Prop
 |mk (tb fa pa la wh mk:Addr) (p m t b few root:Nat) (marks:List Nat) (c1:vs=[.ref tb,.ref wh]) (c2:Tab H tb fa pa la p m t b) (c3:WhAt H wh fa mk few root marks) (c4:root<p^m) (c5:marks.length<=64) (c6:∀r H',Same H H'->H r=none->H' r=some (.lst ((mkL p m t root marks).map Vn))->Q (.ref r) H'):ycw vs H Q E
end
end My
end
section
namespace My
open PySem L2 Dg
local macro_rules | `(tactic| walk_at "rd") => `(tactic| repeat (first | refine ⟨_, rfl, ?_⟩ | refine ⟨_, _, rfl, rfl, ?_⟩))
end My
end
section
namespace My
open PySem L2 Dg
section
variable {p m t:Nat}
section
variable (hp:2<=p) (hm:1<=m)
include hp hm
theorem zeP{x y c:Nat}(hx:x<p^m)(hy:y<p^m)(h:add p m x c=add p m y c):x=y:=by
 rw[<-ya4 hp hm (y:=c) hx,h,ya4 hp hm hy]
end
variable (G:Good p m t)
include G
omit G in
theorem rget{n:Nat}{f:Nat->Nat}{i:Nat}(h:i<n):((List.range n).map f).getD i 0=f i:=by
 rw[xAi,xAd,xB7 h];rfl
end
end My
end
section
namespace My
open PySem L2 Dg
def padL(a b:Nat)(row:List Nat):List Nat:=List.replicate a 0++row++List.replicate b 0
theorem zg7(a b:Nat)(row:List Nat):(padL a b row).length=a+row.length+b:=by simp[padL];lia
section
variable {p m t:Nat} (G:Good p m t)
include G
theorem ygL{x r:Nat}{row:List Nat}(hx:x<p^m)(hr:∀y∈row,y<p^m):add p m (val p m t x (mkS p m t r row)) (mul p m t r (val p m t x row))=mul p m t (val p m t x row) x:=by
 have hp:=G.hp;have hm:=G.hm;have h0:=zam hp hm;have hA:∀i,(0::row).getD i 0<p^m:=λi=>by
  cases i with
  |zero=>exact h0
  |succ i=>
   rw[List.getD_cons_succ];rcases xAP i row.length with h|h
   ·exact zbs hr h
   ·rw[zaB h];exact h0
 rw[zbk hp hm hx _ (yfr G),yct,zbk hp hm hx row hr];have e1:(sumF p m (row.length+1) λk=>mul p m t ((mkS p m t r row).getD k 0) (pw p m t x k))=sumF p m (row.length+1) λk=>mul p m t (sub p m ((0::row).getD k 0) (mul p m t r ((row++[0]).getD k 0))) (pw p m t x k):=by
  refine zaF hp hm _ λk hk=>?_
  rw[show(mkS p m t r row).getD k 0=_ from rget hk]
 have e2:mul p m t r (sumF p m row.length λk=>mul p m t (row.getD k 0) (pw p m t x k))=sumF p m (row.length+1) λk=>mul p m t (mul p m t r ((row++[0]).getD k 0)) (pw p m t x k):=by
  rw[zc2 hp hm _ row.length 1 λi h1 h2=>by
   have:i=row.length:=by lia
   subst this;have e:(row++[0]).getD row.length 0=0:=by simp[List.getD]
   rw[e,mul_zero hp hm,zero_mul hp hm],mul_comm hp hm,<-zcy hp hm]
  refine zaF hp hm _ λk hk=>?_
  have e:(row++[0]).getD k 0=row.getD k 0:=by simp[List.getD,List.getElem?_append,hk]
  rw[e,mul_comm hp hm r,mul_assoc hp hm,mul_assoc hp hm,mul_comm hp hm r]
 have e3:mul p m t (sumF p m row.length λk=>mul p m t (row.getD k 0) (pw p m t x k)) x=sumF p m (row.length+1) λk=>mul p m t ((0::row).getD k 0) (pw p m t x k):=by
  rw[zcE hp hm (f:=λk=>mul p m t ((0::row).getD k 0) (pw p m t x k)) (λi=>yaz hp hm _ _)];rw[show(0::row).getD 0 0=0 from rfl,zero_mul hp hm,zero_add hp hm (zgz hp hm _ _),<-zcy hp hm];refine zaF hp hm _ λk _=>?_
  rw[List.getD_cons_succ,mul_assoc hp hm];rfl
 rw[e1,e2,e3,<-zd8 hp hm];refine zaF hp hm _ λk _=>?_
 rw[<-add_mul hp hm,zb2 hp hm (hA k)]
theorem yes{root x:Nat}(hx:x<p^m):∀(marks row:List Nat),(∀y∈row,y<p^m)->(val p m t x row=0\/∃k∈marks,x=pw p m t root k)->val p m t x (marks.foldl (λrow k=>mkS p m t (pw p m t root k) row) row)=0
 | [],row,_,h=>by
  rcases h with h |⟨k,hk,_⟩
  ·exact h
  ·cases hk
 |k::ms,row,hr,h=>by
  have hp:=G.hp;have hm:=G.hm;rw[List.foldl_cons];have key:=ygL G (r:=pw p m t root k) hx hr;refine yes hx ms _ (yfr G) ?_;by_cases c:val p m t x row=0\/x=pw p m t root k
  ·left;refine zeP hp hm (c:=mul p m t (pw p m t root k) (val p m t x row)) (ycY hp hm _ _) (zam hp hm) ?_;rw[key,zero_add hp hm (yaz hp hm _ _)];rcases c with c|c
   ·rw[c,zero_mul hp hm,mul_zero hp hm]
   ·rw[<-c,mul_comm hp hm]
  ·right;rcases h with h |⟨k',hk',e⟩
   ·exact absurd (.inl h) c
   ·rcases xAa.mp hk' with h1|h1
    ·exact absurd (.inr (h1 ▸ e)) c
    ·exact⟨k',h1,e⟩
theorem ydc{root k:Nat}{marks:List Nat}(h:k∈marks):val p m t (pw p m t root k) (mkL p m t root marks)=0 :=
 yes G (yaS G.hp G.hm _ _) marks [1] (λy hy=>by rw[xAl.mp hy];exact zay G.hp G.hm) (.inr ⟨k,h,rfl⟩)
theorem yc2{x:Nat}(a b:Nat){row:List Nat}(h:val p m t x row=0):val p m t x (padL a b row)=0:=by
 have hp:=G.hp;have hm:=G.hm;have z0:add p m (mul p m t 0 x) 0=0:=by rw[zero_mul hp hm,add_zero hp hm (zam hp hm)]
 have z1:∀b,val p m t x (List.replicate b 0)=0:=λb=>by
  induction b with
  |zero=>rfl
  |succ b ih=>
   rw[xBi];show add p m (mul p m t (val p m t x (List.replicate b 0)) x) 0=0;rw[ih];exact z0
 have z2:∀l:List Nat,val p m t x (l++List.replicate b 0)=val p m t x l:=λl=>by
  induction l with
  |nil=>exact z1 b
  |cons y l ih=>
   show add p m (mul p m t (val p m t x (l++List.replicate b 0)) x) y=add p m (mul p m t (val p m t x l) x) y;rw[ih]
 unfold padL;rw[z2]
 induction a with
 |zero=>exact h
 |succ a ih=>
  rw[xBi];show add p m (mul p m t (val p m t x (List.replicate a 0++row)) x) 0=0;rw[ih];exact z0
theorem zgw{a b:Nat}{row:List Nat}(h:∀y∈row,y<p^m):∀y∈padL a b row,y<p^m:=λy hy=>by
 have h0:=zam G.hp G.hm;rcases xAr.mp hy with h1|h1
 ·rcases xAr.mp h1 with h1|h1
  ·rw[(List.mem_replicate.mp h1).2];exact h0
  ·exact h y h1
 ·rw[(List.mem_replicate.mp h1).2];exact h0
end
theorem zaQ:∀ {xs ys:List Nat},xs.Pairwise (· < ·)->ys.Pairwise (· < ·)->(∀x,x∈xs↔x∈ys)->xs=ys
 | [],[],_,_,_=>rfl
 | [],y::ys,_,_,h=>absurd ((h y).mpr xA7) (by simp)
 |x::xs,[],_,_,h=>absurd ((h x).mp xA7) (by simp)
 |x::xs,y::ys,a1,a2,h=>by
  have a1:=List.pairwise_cons.mp a1;have a2:=List.pairwise_cons.mp a2;have hxy:x=y:=by
   rcases xAa.mp ((h x).mp xA7) with e|e
   ·exact e
   ·rcases xAa.mp ((h y).mpr xA7) with e'|e'
    ·exact e'.symm
    ·have:=a2.1 x e;have:=a1.1 y e';lia
  subst hxy;rw[zaQ a1.2 a2.2 λz=>?_];constructor
  ·intro hz;rcases xAa.mp ((h z).mp (xAb _ hz)) with e|e
   ·have:=a1.1 z hz;lia
   ·exact e
  ·intro hz;rcases xAa.mp ((h z).mpr (xAb _ hz)) with e|e
   ·have:=a2.1 z hz;lia
   ·exact e
end My
end
section
namespace My
open PySem L2 Dg
theorem ybk:∀ {l l':List Nat},l.Nodup->(∀x∈l,x∈l')->l.length<=l'.length
 | [],_,_,_=>xAR _
 |x::l,l',hd,h=>by
  have hd':=xBd.mp hd;have hx:=h x xA7;have:=ybk (l:=l) (l':=l'.erase x) hd'.2 λy hy=>(List.mem_erase_of_ne (λe=>hd'.1 (by rw[<-e];exact hy))).mpr (h y (xAb _ hy))
  rw[xBI hx]at this;have:=xBS hx;rw[xAo];lia
theorem zcq(q k:Nat):q-1 ∣ q^k-1:=by
 induction k with
 |zero=>simp
 |succ k ih=>
  obtain⟨c,hc⟩:=ih;rcases xBe q with h|h
  ·subst h;simp
  ·have hk:1<=q^k:=xBf h;refine⟨q^k+c,?_⟩;have e:q^k=(q-1)*c+1:=by lia
   rw[xB5,Nat.mul_add,<-hc,xBq (q-1),Nat.mul_sub,Nat.mul_one];have:=Nat.mul_le_mul_left (q^k) h
   lia
section
variable {p m t:Nat} (G:Good p m t)
include G
theorem zfz{few:Nat}(hf:m%few=0)(hf1:1<=few):(lets p m t few).length<=p^few:=by
 have hp:=G.hp;have hm:=G.hm;obtain⟨b,Pb⟩:=G.prim;have hq2:2<=p^few:=xAz hp (Nat.le_self_pow (by lia) p);obtain⟨kk,hkk⟩:p^few-1 ∣ p^m-1:=by
  have:=zcq (p^few) (m/few);rw[<-Nat.pow_mul,Nat.mul_div_cancel' (xBs hf)]at this;exact this
 have h1:=zay hp hm;have hnd:(lets p m t few).Nodup:=xBM _ (List.pairwise_lt_range.imp λh=>by lia);have hs:=ybk (l':=0::(List.range (p^few-1)).map λj=>pw p m t b (kk*j)) hnd λx hx=>by
  obtain⟨hxr,hxe⟩:=xAU.mp hx;have hxr:=xAt.mp hxr;have hxe:pw p m t x (p^few)=x:=xAn hxe;rcases xBe x with h0|h0
  ·rw[h0];exact xA7
  ·refine xAb _ ?_;obtain⟨i,hi,rfl⟩:=Pb.all x h0 hxr;rw[<-zbb hp hm]at hxe;have e1:(i*p^few)%(p^m-1)=i:=by
    refine G.inj Pb _ _ (xBh _ (by lia)) hi ?_;rw[G.pw_mod Pb.pos Pb.lt];exact hxe
   have d1:p^m-1 ∣ i*(p^few-1):=by
    have e2:=Nat.div_add_mod (i*p^few) (p^m-1);rw[e1]at e2;refine⟨i*p^few/(p^m-1),?_⟩;rw[Nat.mul_sub,Nat.mul_one];lia
   rw[hkk,xBq i]at d1;have d2:=Nat.dvd_of_mul_dvd_mul_left (by lia) d1;obtain⟨j,rfl⟩:=d2;refine xA9.mpr ⟨j,xAt.mpr ?_,rfl⟩;rw[hkk,xBq (p^few-1)]at hi;exact Nat.lt_of_mul_lt_mul_left hi
 rw[xAo,xA1,xAy]at hs
 lia
theorem zed{r n a b:Nat}(r0:0<r)(hr:r<p^m)(o:Ord p m t r n)(ha:a<n)(hb:b<n)(h:pw p m t r a=pw p m t r b):a=b:=by
 have hp:=G.hp;have hm:=G.hm;have es:∀i,mul p m t (pw p m t (pw p m t r (p^m-2)) i) (pw p m t r i)=1:=λi=>by rw[<-ycM hp hm,G.inv r0 hr,yb7 hp hm]
 have inj:∀a b,a<b->b<n->pw p m t r a=pw p m t r b->False:=λa b hab hb h=>by
  refine o.min (b-a) (by lia) (by lia) ?_;have h2:=zbF (t:=t) hp hm r a (b-a);rw[show a+(b-a)=b by lia,<-h]at h2;have h3:=congrArg (λz=>mul p m t (pw p m t (pw p m t r (p^m-2)) a) z) h2;rw[es,<-mul_assoc hp hm,es,one_mul hp hm (yaS hp hm _ _)]at h3;exact h3.symm
 rcases Nat.lt_trichotomy a b with h1|h1|h1
 ·exact(inj a b h1 hb h).elim
 ·exact h1
 ·exact(inj b a h1 ha h.symm).elim
end
noncomputable def addL(p m:Nat)(xs ys:List Nat):List Nat:=(List.range (min xs.length ys.length)).map λi=>add p m (xs.getD i 0) (ys.getD i 0)
theorem zbe{p m n:Nat}{xs ys:List Nat}(h1:xs.length=n)(h2:ys.length=n):(addL p m xs ys).length=n:=by simp[addL,h1,h2]
section
variable {p m t:Nat} (G:Good p m t)
include G
theorem yd7(xs ys:List Nat):∀x∈addL p m xs ys,x<p^m:=λx hx=>by
 obtain⟨i,_,rfl⟩:=xA9.mp hx;exact yaW G.hp G.hm _ _
theorem ydd{x n:Nat}{xs ys:List Nat}(hx:x<p^m)(l1:xs.length=n)(l2:ys.length=n)(h1:∀a∈xs,a<p^m)(h2:∀a∈ys,a<p^m):val p m t x (addL p m xs ys)=add p m (val p m t x xs) (val p m t x ys):=by
 have hp:=G.hp;have hm:=G.hm;rw[zbk hp hm hx _ (yd7 G xs ys),zbk hp hm hx _ h1,zbk hp hm hx _ h2,zbe l1 l2,l1,l2,<-zd8 hp hm];refine zaF hp hm _ λi hi=>?_
 have e:(addL p m xs ys).getD i 0=add p m (xs.getD i 0) (ys.getD i 0):=rget (by rw[l1,l2,Nat.min_self];exact hi);rw[e,add_mul hp hm]
theorem zcn{x c:Nat}{xs:List Nat}(hx:x<p^m)(h1:∀a∈xs,a<p^m):val p m t x (zaz p m t c xs)=mul p m t c (val p m t x xs):=by
 have hp:=G.hp;have hm:=G.hm;have hl:(zaz p m t c xs).length=xs.length:=by simp[zaz]
 rw[zbk hp hm hx _ (ycg G c xs),zbk hp hm hx _ h1,hl,mul_comm hp hm c,<-zcy hp hm];refine zaF hp hm _ λk hk=>?_
 rw[show(zaz p m t c xs).getD k 0=mul p m t c (xs.getD k 0) from rget hk,mul_comm hp hm c,mul_assoc hp hm,mul_assoc hp hm,mul_comm hp hm c]
end
end My
end
section
namespace My
open PySem L2 Dg
noncomputable def dvF(p m t:Nat)(ds rest:List Nat)(a:Nat):Nat:=mul p m t (rest.getD (a+ds.length-1) 0) (pw p m t (ds.getD (ds.length-1) 0) (p^m-2))
noncomputable def dvJ(p m t:Nat)(ds rest:List Nat)(a c j:Nat):List Nat:=(List.range rest.length).map λi=>if a<=i/\i<a+j then sub p m (rest.getD i 0) (mul p m t c (ds.getD (i-a) 0)) else rest.getD i 0
def dvS(p m t:Nat)(ds rest:List Nat)(a:Nat):List Nat:=dvJ p m t ds rest a (dvF p m t ds rest a) ds.length
def dvI(p m t:Nat)(ds one:List Nat)(N:Nat):Nat->List Nat
 |0=>one
 |i+1=>dvS p m t ds (dvI p m t ds one N i) (N-1-i)
theorem zho(p m t:Nat)(ds rest:List Nat)(a c j:Nat):(dvJ p m t ds rest a c j).length=rest.length:=by simp[dvJ]
theorem zgW(p m t:Nat)(ds one:List Nat)(N:Nat):∀i,(dvI p m t ds one N i).length=one.length
 |0=>rfl
 |i+1=>by unfold dvI dvS;rw[zho,zgW p m t ds one N i]
section
variable {p m t:Nat} (G:Good p m t)
include G
theorem zdA{xs:List Nat}(h:∀x∈xs,x<p^m)(i:Nat):xs.getD i 0<p^m:=by
 by_cases c:i<xs.length
 ·exact zbs h c
 ·rw[zaB (by lia)];exact zam G.hp G.hm
theorem zcp{x:Nat}(hx:x<p^m):sub p m x x=0:=by
 have:=ya4 G.hp G.hm (y:=x) (zam G.hp G.hm (p:=p) (m:=m));rw[zero_add G.hp G.hm hx]at this;exact this
theorem yhh{x y r:Nat}(hx:x<p^m)(hr:r<p^m):add p m x (mul p m t y (sub p m 0 r))=sub p m x (mul p m t r y):=by
 have hp:=G.hp;have hm:=G.hm;have e1:sub p m 0 r=mul p m t (p-1) r:=by rw[<-ydH (t:=t) hp hm (zam hp hm) hr,zero_add hp hm (yaz hp hm _ _)]
 have e2:mul p m t y (mul p m t (p-1) r)=mul p m t (p-1) (mul p m t r y):=by
  rw[mul_comm hp hm y,mul_assoc hp hm]
 rw[e1,e2,ydH hp hm hx (yaz hp hm _ _)]
theorem yfR{row:List Nat}{b:Nat}(hr:∀x∈row,x<p^m):∀n,conv p m t row [b,1] n=add p m ((0::row).getD n 0) (mul p m t (row.getD n 0) b)
 |0=>rfl
 |n+1=>by
  have hp:=G.hp;have hm:=G.hm;have h0:sumF p m n (λi=>mul p m t (row.getD i 0) (([b,1]:List Nat).getD (n+1-i) 0))=0:=by
   have:sumF p m n (λi=>mul p m t (row.getD i 0) (([b,1]:List Nat).getD (n+1-i) 0))=sumF p m n λ_=>0:=by
    refine zaF hp hm _ λi hi=>?_
    rw[zaB (show([b,1]:List Nat).length<=n+1-i by simp;lia),mul_zero hp hm]
   rw[this];have:=zc2 hp hm (λ_=>0) 0 n (λ_ _ _=>rfl);rw[xBO]at this;exact this
  show add p m (add p m (sumF p m n λi=>mul p m t (row.getD i 0) (([b,1]:List Nat).getD (n+1-i) 0)) (mul p m t (row.getD n 0) (([b,1]:List Nat).getD (n+1-n) 0))) (mul p m t (row.getD (n+1) 0) (([b,1]:List Nat).getD (n+1-(n+1)) 0))=_;rw[h0,show n+1-n=1 by lia,Nat.sub_self];show add p m (add p m 0 (mul p m t (row.getD n 0) 1)) (mul p m t (row.getD (n+1) 0) b)=add p m (row.getD n 0) _;rw[mul_one hp hm (zdA G hr n),zero_add hp hm (zdA G hr n)]
omit G in
theorem ycd(row:List Nat)(i:Nat):(row++[0]).getD i 0=row.getD i 0:=by
 by_cases c:i<row.length
 ·rw[xAi,xBt c,<-xAi]
 ·rw[zaB (xs:=row) (by lia),xAi,xB0 (by lia)];cases i-row.length with
  |zero=>rfl
  |succ k=>rfl
theorem zhW{row:List Nat}{r:Nat}(hr:∀x∈row,x<p^m)(hrq:r<p^m)(h0:0<row.length)(hl:row.getD (row.length-1) 0=1):rmul p m t row [sub p m 0 r,1]=mkS p m t r row:=by
 have hp:=G.hp;have hm:=G.hm;have hz:∀n,(0::row).getD n 0<p^m:=λn=>zdA G (λx hx=>by
  rcases xAa.mp hx with rfl|h
  ·exact zam hp hm
  ·exact hr x h) n
 have e:∀n,conv p m t row [sub p m 0 r,1] n=sub p m ((0::row).getD n 0) (mul p m t r ((row++[0]).getD n 0)):=λn=>by
  rw[yfR G hr,yhh G (hz n) hrq,ycd]
 unfold rmul mkS;rw[show(row.length+([sub p m 0 r,1]:List Nat).length)=row.length+1+1 from rfl,xBz,xAk];have ez:conv p m t row [sub p m 0 r,1] (row.length+1)=0:=by
  rw[e,ycd,zaB (xs:=row) (i:=row.length+1) (by lia),zaB (xs:=0::row) (by simp),mul_zero hp hm];exact zcp G (zam hp hm)
 rw[List.map_singleton,ez,zdB,xBz,xAk,List.map_singleton,xAk,List.map_singleton];have el:conv p m t row [sub p m 0 r,1] row.length=1:=by
  rw[e,ycd,zaB (xs:=row) (i:=row.length) (xA5 _),mul_zero hp hm];obtain⟨k,hk⟩:∃k,row.length=k+1:=⟨row.length-1,by lia⟩
  rw[hk];show sub p m (row.getD k 0) 0=1;rw[hk]at hl;rw[show k+1-1=k from rfl]at hl;rw[hl];have:=ya4 hp hm (x:=1) (y:=0) (zay hp hm);rw[add_zero hp hm (zay hp hm)]at this;exact this
 rw[el,zdH (by decide),<-e,el];refine congrArg (·++[1]) (xAL λn _=>e n)
theorem zge{row:List Nat}{r:Nat}(h0:0<row.length)(hl:row.getD (row.length-1) 0=1):(mkS p m t r row).getD row.length 0=1:=by
 have hp:=G.hp;have hm:=G.hm;unfold mkS;rw[yfE,if_pos (by lia),ycd,zaB (xs:=row) (i:=row.length) (xA5 _),mul_zero hp hm];obtain⟨k,hk⟩:∃k,row.length=k+1:=⟨row.length-1,by lia⟩
 rw[hk];show sub p m (row.getD k 0) 0=1;rw[hk]at hl;rw[show k+1-1=k from rfl]at hl;rw[hl];have:=ya4 hp hm (x:=1) (y:=0) (zay hp hm);rw[add_zero hp hm (zay hp hm)]at this;exact this
theorem zek(root:Nat):∀(marks row:List Nat),0<row.length->row.getD (row.length-1) 0=1->(marks.foldl (λrow k=>mkS p m t (pw p m t root k) row) row).getD (row.length+marks.length-1) 0=1
 | [],row,_,h=>h
 |k::marks,row,h0,h=>by
  have:=zek root marks (mkS p m t (pw p m t root k) row) (by rw[yct];lia) (by rw[yct];exact zge G h0 h);rw[yct]at this;rw[List.foldl_cons,show row.length+(k::marks).length-1=row.length+1+marks.length-1 by rw[xAo];lia];exact this
theorem zex(root:Nat)(marks:List Nat):(mkL p m t root marks).getD marks.length 0=1:=by
 have:=zek G root marks [1] (by decide) rfl;rw[show([1]:List Nat).length+marks.length-1=marks.length by simp]at this;exact this
end
end My
end
section
namespace My
open PySem L2 Dg
def hor(p m t y:Nat):List Nat->List Nat
 | []=>[]
 |_::r=>val p m t y r::hor p m t y r
theorem yd6(p m t y:Nat):∀(xs:List Nat) (i:Nat),(hor p m t y xs).getD i 0=val p m t y (xs.drop (i+1))
 | [],i=>by simp[hor,val]
 |a::r,0=>rfl
 |a::r,i+1=>yd6 p m t y r i
section
variable {p m t:Nat} (G:Good p m t)
include G
theorem zgC(y:Nat):∀(xs:List Nat),∀x∈hor p m t y xs,x<p^m
 | [],x,h=>nomatch h
 |a::r,x,h=>by
  rcases xAa.mp h with h|h
  ·rw[h];exact ycY G.hp G.hm _ _
  ·exact zgC y r x h
theorem zdu{x y:Nat}(hx:x<p^m)(hy:y<p^m)(h:sub p m x y=0):x=y:=by
 have:=zb2 G.hp G.hm (y:=y) hx;rw[h,zero_add G.hp G.hm hy]at this;exact this.symm
theorem zfN{y z:Nat}(hz:z<p^m):∀(xs:List Nat),(∀x∈xs,x<p^m)->val p m t z xs=add p m (mul p m t (sub p m z y) (val p m t z (hor p m t y xs))) (val p m t y xs)
 | [],_=>by
  show 0=add p m (mul p m t (sub p m z y) 0) 0;rw[mul_zero G.hp G.hm,add_zero G.hp G.hm (zam G.hp G.hm)]
 |a::r,h=>by
  have hp:=G.hp;have hm:=G.hm;have ih:=zfN hz r (λx hx=>h x (xAb _ hx)) (y:=y);show add p m (mul p m t (val p m t z r) z) a=add p m (mul p m t (sub p m z y) (add p m (mul p m t (val p m t z (hor p m t y r)) z) (val p m t y r))) (add p m (mul p m t (val p m t y r) y) a);have e1:mul p m t (val p m t y r) z=add p m (mul p m t (sub p m z y) (val p m t y r)) (mul p m t (val p m t y r) y):=by
   rw[mul_comm hp hm (sub p m z y),<-mul_add hp hm,zb2 hp hm hz]
  rw[<-add_assoc hp hm];refine congrArg (add p m · a) ?_;rw[ih,add_mul hp hm,e1,mul_add hp hm,add_assoc hp hm,mul_assoc hp hm]
theorem ydI:∀(pts:List Nat) (xs:List Nat),pts.Nodup->(∀y∈pts,y<p^m)->(∀x∈xs,x<p^m)->(∀i,pts.length<=i->xs.getD i 0=0)->(∀y∈pts,val p m t y xs=0)->∀i,xs.getD i 0=0
 | [],xs,_,_,_,h,_=>λi=>h i (xAR _)
 |y::pts,xs,hn,hy,hx,h,hv=>by
  have hp:=G.hp;have hm:=G.hm;have vz:∀(k:Nat),(∀i,k<=i->xs.getD i 0=0)->val p m t y (xs.drop k)=0:=λk hk=>by
   have e:xs.drop k=List.replicate (xs.drop k).length 0:=by
    refine List.eq_replicate_iff.mpr ⟨rfl,λb hb=>?_⟩;obtain⟨i,hi,rfl⟩:=List.mem_iff_getElem.mp hb;rw[List.getElem_drop];have:=hk (k+i) (by lia);rw[List.length_drop]at hi;rw[xAi,xAc (by lia)]at this;exact this
   rw[e];generalize (xs.drop k).length=n
   induction n with
   |zero=>rfl
   |succ n ih=>
    show add p m (mul p m t (val p m t y (List.replicate n 0)) y) 0=0;rw[ih,zero_mul hp hm,add_zero hp hm (zam hp hm)]
  have hes:∀i,(hor p m t y xs).getD i 0=0:=by
   refine ydI pts (hor p m t y xs) (xBd.mp hn).2 (λz hz=>hy z (xAb _ hz)) (zgC G y xs) (λi hi=>?_) (λz hz=>?_)
   ·rw[yd6];exact vz (i+1) λj hj=>h j (by simp;lia)
   ·have e:=zfN G (y:=y) (hy z (xAb _ hz)) xs hx;rw[hv z (xAb _ hz),hv y xA7,add_zero hp hm (yaz hp hm _ _)]at e;rcases xBe (val p m t z (hor p m t y xs)) with c|c
    ·exact c
    ·have hne:0<sub p m z y:=by
      rcases xBe (sub p m z y) with d|d
      ·have:=zdu G (hy z (xAb _ hz)) (hy y xA7) d;exact absurd (this ▸ hz) (xBd.mp hn).1
      ·exact d
     have:=G.noz hne (zcY hp hm _ _) c (ycY hp hm _ _)
     lia
  have hd:∀i,val p m t y (xs.drop i)=0
   |0=>by rw[List.drop_zero];exact hv y xA7
   |i+1=>by rw[<-yd6];exact hes i
  intro i;by_cases c:i<xs.length
  ·have e:=hd i;rw[List.drop_eq_getElem_cons c]at e;change add p m (mul p m t (val p m t y (xs.drop (i+1))) y) xs[i]=0 at e;rw[hd (i+1),zero_mul hp hm,zero_add hp hm (hx _ (xBB c))]at e;rw[xAi,xAc c];exact e
  ·exact zaB (by lia)
theorem yfn{pts u v:List Nat}(hn:pts.Nodup)(hy:∀y∈pts,y<p^m)(hl:u.length=v.length)(hu:∀x∈u,x<p^m)(hv:∀x∈v,x<p^m)(hd:u.drop pts.length=v.drop pts.length)(h:∀y∈pts,val p m t y u=val p m t y v):u=v:=by
 have hp:=G.hp;have hm:=G.hm;have lp:(zaz p m t (p-1) v).length=v.length:=by simp[zaz]
 have gp:∀i,(zaz p m t (p-1) v).getD i 0=mul p m t (p-1) (v.getD i 0):=λi=>by
  by_cases c:i<v.length
  ·exact rget c
  ·rw[zaB (xs:=v) (by lia),zaB (by rw[lp];lia),mul_zero hp hm]
 have gd:∀i,i<u.length->(addL p m u (zaz p m t (p-1) v)).getD i 0=sub p m (u.getD i 0) (v.getD i 0):=λi hi=>by
  have:(addL p m u (zaz p m t (p-1) v)).getD i 0=add p m (u.getD i 0) ((zaz p m t (p-1) v).getD i 0):=rget (by rw[lp,hl,Nat.min_self];lia);rw[this,gp,ydH hp hm (zdA G hu i) (zdA G hv i)]
 have la:=zbe (p:=p) (m:=m) (n:=u.length) (ys:=zaz p m t (p-1) v) rfl (by rw[lp,hl]);have z:=ydI G pts (addL p m u (zaz p m t (p-1) v)) hn hy (yd7 G _ _) (λi hi=>by
  by_cases c:i<u.length
  ·rw[gd i c];have e:u.getD i 0=v.getD i 0:=by
    have h1:=congrArg (λl=>l.getD (i-pts.length) 0) hd;rw[xAi,List.getElem?_drop,xAi,List.getElem?_drop,show pts.length+(i-pts.length)=i by lia]at h1;rw[xAi,xAi];exact h1
   rw[e];exact zcp G (zdA G hv i)
  ·exact zaB (by rw[la];lia)) (λy hy'=>by
  rw[ydd G (hy y hy') rfl (by rw[lp,hl]) hu (ycg G _ _),zcn G (hy y hy') hv,h y hy',ydH hp hm (ycY hp hm _ _) (ycY hp hm _ _)];exact zcp G (ycY hp hm _ _))
 refine List.ext_getElem hl λi h1 h2=>?_
 have e:=z i;rw[gd i h1]at e;have:=zdu G (zdA G hu i) (zdA G hv i) e;rw[xAi,xAc h1,xAi,xAc h2]at this;exact this
theorem yem{y few:Nat}(hy:y<p^m):∀xs:List Nat,(∀x∈xs,x<p^m)->val p m t (pw p m t y (p^few)) (xs.map λx=>pw p m t x (p^few))=pw p m t (val p m t y xs) (p^few)
 | [],_=>by
  show 0=pw p m t 0 (p^few);have:0<p^few:=xBf (by have:=G.hp;lia);rw[show p^few=(p^few-1)+1 by lia,ybj G.hp G.hm]
 |a::r,h=>by
  have hp:=G.hp;have hm:=G.hm;show add p m (mul p m t (val p m t (pw p m t y (p^few)) (r.map λx=>pw p m t x (p^few))) (pw p m t y (p^few))) (pw p m t a (p^few))=pw p m t (add p m (mul p m t (val p m t y r) y) a) (p^few);rw[yem hy r (λx hx=>h x (xAb _ hx)),<-ycM hp hm,G.frobN few (yaz hp hm _ _) (h a xA7)]
theorem ye0{few root n k:Nat}{marks:List Nat}(W:Whl p m t few root n marks)(hk:k∈marks):∃k'∈marks,pw p m t (pw p m t root k') (p^few)=pw p m t root k:=by
 have hp:=G.hp;have hm:=G.hm;have hn:=W.ord.pos;have he:=W.ord.round G W.r0 W.rq W.fewm W.few1;have he1:1<=m/few:=Nat.div_pos (Nat.le_of_dvd (by lia) (xBs W.fewm)) W.few1;have it:∀j,k*(p^few)^j%n∈marks:=λj=>by
  induction j with
  |zero=>rw[Nat.pow_zero,Nat.mul_one,Nat.mod_eq_of_lt (W.lt k hk)];exact hk
  |succ j ih=>
   have:=W.closed _ ih;rw[Nat.mod_mul_mod,Nat.mul_assoc,<-xB5]at this;exact this
 have pm:∀a,pw p m t root (a%n)=pw p m t root a:=λa=>by
  conv=>rhs;rw[<-Nat.div_add_mod a n,zbF hp hm,zbb hp hm,W.ord.one,yb7 hp hm,one_mul hp hm (yaS hp hm _ _)]
 refine⟨_,it (m/few-1),?_⟩;rw[pm,<-zbb hp hm,Nat.mul_assoc,<-xB5,show(m/few-1).succ=m/few by lia,<-pm,xBP,he,<-xBP,Nat.mul_one,pm]
theorem yhD{root n:Nat}{marks:List Nat}(r0:0<root)(hr:root<p^m)(o:Ord p m t root n)(hasc:marks.Pairwise (· < ·))(hl:∀x∈marks,x<n):(marks.map λk=>pw p m t root k).Nodup:=by
 rw[List.Nodup,xAJ];refine xBJ (λ{a b} ha hb h e=>?_) hasc;have:=zed G r0 hr o (hl a ha) (hl b hb) e
 lia
theorem zcl{few root n:Nat}{marks u v:List Nat}(W:Whl p m t few root n marks)(hl:u.length=v.length)(hu:∀x∈u,x<p^m)(hv:∀x∈v,x<p^m)(hd:u.drop marks.length=v.drop marks.length)(zu:∀k∈marks,val p m t (pw p m t root k) u=0)(zv:∀k∈marks,val p m t (pw p m t root k) v=0):u=v:=by
 refine yfn G (pts:=marks.map λk=>pw p m t root k) (yhD G W.r0 W.rq W.ord W.asc W.lt) (λy hy=>?_) hl hu hv (by rw[xA1];exact hd) (λy hy=>?_)
 ·obtain⟨k,_,rfl⟩:=xA9.mp hy;exact yaS G.hp G.hm _ _
 ·obtain⟨k,hk,rfl⟩:=xA9.mp hy;rw[zu k hk,zv k hk]
theorem zfK{few root n:Nat}{marks u:List Nat}(W:Whl p m t few root n marks)(hu:∀x∈u,x<p^m)(zu:∀k∈marks,val p m t (pw p m t root k) u=0)(hd:∀x∈u.drop marks.length,pw p m t x (p^few)=x):∀x∈u,pw p m t x (p^few)=x:=by
 have hp:=G.hp;have hm:=G.hm;have e:(u.map λx=>pw p m t x (p^few))=u:=by
  refine zcl G W (by rw[xA1]) (λx hx=>by obtain⟨y,_,rfl⟩:=xA9.mp hx;exact yaS hp hm _ _) hu ?_ (λk hk=>?_) zu
  ·rw[<-List.map_drop]
   conv=>rhs;rw[<-List.map_id (u.drop marks.length)]
   exact xAL λx hx=>hd x hx
  ·obtain⟨k',hk',e'⟩:=ye0 G W hk;rw[<-e',yem G (yaS hp hm _ _) u hu,zu k' hk'];have:0<p^few:=xBf (by lia);rw[show p^few=(p^few-1)+1 by lia,ybj hp hm]
 intro x hx;obtain⟨i,hi,rfl⟩:=List.mem_iff_getElem.mp hx;have:=congrArg (λl=>l[i]?) e;rw[xAd,xAc hi]at this;exact xAF this
end
end My
end
section
namespace My
open PySem L2 Dg
section
variable {p m t:Nat} (G:Good p m t)
include G
theorem zaW{x:Nat}(hx:x<p^m):x∈lets p m t few↔pw p m t x (p^few)=x:=by
 unfold lets;rw[xAU,xAt,decide_eq_true_iff];exact⟨λh=>h.2,λh=>⟨hx,h⟩⟩
theorem zgK{few:Nat}(hf:m%few=0)(hf1:1<=few):(lets p m t few).length=p^few:=by
 refine Nat.le_antisymm (zfz G hf hf1) ?_;have hp:=G.hp;have hm:=G.hm;obtain⟨b,Pb⟩:=G.prim;have hq2:2<=p^few:=xAz hp (Nat.le_self_pow (by lia) p);obtain⟨kk,hkk⟩:p^few-1 ∣ p^m-1:=by
  have:=zcq (p^few) (m/few);rw[<-Nat.pow_mul,Nat.mul_div_cancel' (xBs hf)]at this;exact this
 have h1:=zay hp hm;have hk0:0<kk:=by
  rcases xBe kk with h|h
  ·rw[h,Nat.mul_zero]at hkk;lia
  ·exact h
 have hlt:∀j,j<p^few-1->kk*j<p^m-1:=λj hj=>by
  rw[hkk,xBq (p^few-1)];exact Nat.mul_lt_mul_of_pos_left hj hk0
 have hnd:(0::(List.range (p^few-1)).map λj=>pw p m t b (kk*j)).Nodup:=by
  rw[xBd];refine⟨λh=>?_,zaX _ λi j hi hj e=>?_⟩
  ·obtain⟨j,_,e⟩:=xA9.mp h;have:=G.pw_pos Pb.pos Pb.lt (kk*j)
   lia
  ·have:=G.inj Pb _ _ (hlt i hi) (hlt j hj) e;exact Nat.eq_of_mul_eq_mul_left hk0 this
 have:=ybk hnd (l':=lets p m t few) λx hx=>by
  rcases xAa.mp hx with h|h
  ·rw[h,zaW G (by lia),show p^few=(p^few-1)+1 by lia,ybj hp hm]
  ·obtain⟨j,hj,rfl⟩:=xA9.mp h;rw[zaW G (yaS hp hm _ _),<-zbb hp hm,<-G.pw_mod Pb.pos Pb.lt,show kk*j*p^few=kk*j+(p^m-1)*j from ?_,Nat.add_mul_mod_self_left,G.pw_mod Pb.pos Pb.lt];rw[hkk];obtain⟨q,hq⟩:∃q,p^few=q+1:=⟨p^few-1,by lia⟩
   rw[hq,Nat.add_sub_cancel,Nat.mul_add,Nat.mul_one,Nat.add_comm,Nat.mul_right_comm,xBq kk q]
 simp only[xAo,xA1,xAy]at this
 lia
end
theorem za6(p m t c:Nat)(xs:List Nat):(zaz p m t c xs).length=xs.length:=by unfold zaz;rw[xA1,xAy]
end My
end
section
namespace My
open PySem L2 Dg
noncomputable def mkP(p m t r:Nat)(row:List Nat)(j:Nat):List Nat:=(List.range (row.length+1)).map λi=>if i<j then sub p m ((0::row).getD i 0) (mul p m t r ((row++[0]).getD i 0)) else(0::row).getD i 0
theorem ye7(p m t r:Nat)(row:List Nat)(j:Nat):(mkP p m t r row j).length=row.length+1:=by simp[mkP]
theorem ygr(p m t r:Nat)(row:List Nat):mkP p m t r row 0=0::row:=by
 refine List.ext_getElem (by simp[mkP]) λi h1 h2=>?_
 simp only[mkP,List.getElem_map,List.getElem_range];rw[if_neg (by lia),xAi,xAc h2];rfl
theorem ygQ{p m t r:Nat}(G:Good p m t){row:List Nat}(hr:∀y∈row,y<p^m):mkP p m t r row row.length=mkS p m t r row:=by
 refine xAL λi hi=>?_
 have hi:=xAt.mp hi;by_cases c:i<row.length
 ·rw[if_pos c]
 ·rw[if_neg c];have e:i=row.length:=by lia
  subst e;have e1:(row++[0]).getD row.length 0=0:=by simp[List.getD]
  rw[e1,mul_zero G.hp G.hm];have hlt:(0::row).getD row.length 0<p^m:=zbs (xs:=0::row) (λx hx=>by
   rcases xAa.mp hx with rfl|h
   ·exact zam G.hp G.hm
   ·exact hr x h) (by simp)
  have:=zb2 G.hp G.hm (y:=0) hlt;rw[add_zero G.hp G.hm (zcY G.hp G.hm _ _)]at this;exact this.symm
theorem yhf{p m t r:Nat}{row:List Nat}{j:Nat}(hj:j<row.length):(mkP p m t r row j).getD j 0=(0::row).getD j 0:=by
 unfold mkP;rw[rget (by lia),if_neg (by lia)]
theorem ygT{p m t r:Nat}{row:List Nat}{j:Nat}(hj:j<row.length):(mkP p m t r row j).set j (sub p m ((0::row).getD j 0) (mul p m t r (row.getD j 0)))=mkP p m t r row (j+1):=by
 refine List.ext_getElem (by simp[mkP]) λi h1 h2=>?_
 rw[List.getElem_set];by_cases e:j=i
 ·subst e;rw[if_pos rfl];simp only[mkP,List.getElem_map,List.getElem_range];rw[if_pos (by lia)];have e2:(row++[0]).getD j 0=row.getD j 0:=by simp[List.getD,List.getElem?_append,hj]
  rw[e2]
 ·rw[if_neg e];simp only[mkP,List.getElem_map,List.getElem_range];by_cases c:i<j
  ·rw[if_pos c,if_pos (by lia)]
  ·rw[if_neg c,if_neg (by lia)]
theorem zcr(n:Nat):(List.replicate n [V.int 0]).flatten=(List.replicate n 0).map Vn:=by
 induction n with
 |zero=>rfl
 |succ n ih=>rw[xBi,List.flatten_cons,ih,xBi];rfl
def mvL(p m t root n:Nat)(marks:List Nat)(i:Nat):List Nat:=padL i (n-i-(marks.length+1)) (mkL p m t root marks)
theorem zdE{p m t root n:Nat}{marks:List Nat}{i:Nat}(h:i<n-marks.length):(mvL p m t root n marks i).length=n:=by
 unfold mvL;rw[zg7,zb1];lia
noncomputable def Tups(H:Hp)(ds:List Addr)(ls:List (List Nat)):Prop:=ds.length=ls.length/\∀(i:Nat) d,ds[i]?=some d->∃rs,ls[i]?=some rs/\H d=some (.tup (rs.map Vn))
theorem Tups.same{ls:List (List Nat)}(h:Tups H ds ls)(s:Same H H'):Tups H' ds ls:=⟨h.1,λi d e=>by obtain⟨rs,a,b⟩:=h.2 i d e;exact⟨rs,a,s _ _ b⟩⟩
theorem Tups.at{ls:List (List Nat)}(h:Tups H ds ls)(hl:H l=some (.lst xs)):Tups (upd H l o) ds ls:=⟨h.1,λi d e=>by
 obtain⟨rs,a,b⟩:=h.2 i d e;refine⟨rs,a,?_⟩;rw[zad (λq=>by rw[q,hl]at b;cases b)];exact b⟩
theorem Tups.snoc{ls:List (List Nat)}{rs:List Nat}(h:Tups H ds ls)(hd:H d=some (.tup (rs.map Vn))):Tups H (ds++[d]) (ls++[rs]):=by
 refine⟨by simp[h.1],λi e he=>?_⟩;rw[List.getElem?_append]at he;split at he
 ·rename_i hi;obtain⟨r,a,b⟩:=h.2 i e he;exact⟨r,by rw[xBt (by rw[<-h.1];exact hi)];exact a,b⟩
 ·rename_i hi;have hi2:i=ds.length:=by
   have:=(xAh.mp he).1;simp at this;lia
  subst hi2;simp at he;subst he;exact⟨rs,by rw[h.1,xB0 (xA5 _)];simp,hd⟩
theorem Tups.app{ls ks:List (List Nat)}(h:Tups H ds ls)(h2:Tups H es ks):Tups H (ds++es) (ls++ks):=by
 refine⟨by simp[h.1,h2.1],λi e he=>?_⟩;rw[List.getElem?_append]at he;split at he
 ·rename_i hi;obtain⟨r,a,b⟩:=h.2 i e he;exact⟨r,by rw[xBt (by rw[<-h.1];exact hi)];exact a,b⟩
 ·rename_i hi;obtain⟨r,a,b⟩:=h2.2 _ e he;exact⟨r,by rw[xB0 (by rw[<-h.1];lia),<-h.1];exact a,b⟩
noncomputable def WOk(p m t root n:Nat)(marks:List Nat)(ws:List (List Nat)):Prop:=∀w∈ws,w.length=n/\(∀x∈w,x<p^m)/\∀k∈marks,val p m t (pw p m t root k) w=0
noncomputable def lwL(p m t root n:Nat)(marks:List Nat)(few:Nat):Nat->List (List Nat)
 |0=>[List.replicate n 0]
 |k+1=>(lets p m t few).flatMap λc=>(lwL p m t root n marks few k).map λu=>addL p m u (zaz p m t c (mvL p m t root n marks k))
theorem zdf{α:Type}{ws:List α}{f:Nat->α->α}:∀cs:List Nat,(cs.flatMap λc=>ws.map (f c)).length=cs.length*ws.length
 | []=>by simp
 |c::cs=>by
  rw[List.flatMap_cons,xAB,xA1,zdf cs,xAo,Nat.succ_mul,Nat.add_comm]
theorem yc7(p m t root n:Nat)(marks:List Nat)(few:Nat):∀k,(lwL p m t root n marks few k).length=(lets p m t few).length^k
 |0=>rfl
 |k+1=>by
  show(List.flatMap _ _).length=_;rw[zdf,yc7 p m t root n marks few k,xB5,xBq]
section
variable {P:Program} {w:World} {mg:Str->Option Value} {base:Heap} {f:Addr} {fd:FuncData}
theorem zaV:yag ["_law_table_here","_law_few","_law_high","_law_some"] ["_law_table_here","_law_few"] (yac yaJ):=⟨rfl,rfl,rfl,by decide +kernel,rfl,by decide +kernel,by decide +kernel⟩
theorem zdY(B:Bl mg)(xC8:Has P w K mg base 1 "_law_raised" ["_law_one","_law_many"] yaf)(xC5:Has P w K mg base 1 "_law_power" ["_law_table_here","_law_one","_law_many"] zcd)(F:Fun K "_law_letters" "_law_letters" yaJ f fd):FnOk P w K mg base CX0 2 f fd ["_law_table_here","_law_few"] ybI:=by
 refine F.ok zaV (λvs H Q E h=>?_) (λcdv A outer s H vs Q E hr h=>?_)
 ·obtain⟨tb,fa,pa,la,p,m,t,b,few,rfl,_⟩:=h;rfl
 obtain⟨tb,fa,pa,la,p,m,t,b,few,rfl,T,hf,q⟩:=h;have G:=T.good;have hp:=G.hp;have hm:=G.hm;have hQ:=G.hq;refine⟨_,((2<|>zaV.nd<|>(xC8<$>(((pv 0)⊃yas)>=>(pv 1)>=>zab)))<=<(3<|>zaV.nd<|>((zbR rfl)<*("list",zaY,((@zcj _ _ _ _ _ rfl (B "range" (by decide)) (((pv 0)⊃yas)>=>zab) ⋯)>=>zab))))<=<(~~~((["_law_one"]⊆(["_law_table_here","_law_high"],[0,2],["_law_table_here","_law_few","_law_high","_law_some"],yaJ,(@zaH _ _ _ _ (pv 3)),(0⊇["_law_one","_law_table_here","_law_high"]),(@zaS _ _ _ (zbg∪(xC5<$>((pv 1)>=>(pv 0)>=>(pv 2)>=>zab))∪(pv 0))),(pv 0)))⁻¹))),?_⟩
 try dsimp only[cxOf]
 refine⟨_,rfl,tb,_,rfl,T.get zdT,_,rfl,p,few,rfl,p_le hp hm hQ,by lia,?_⟩;refine⟨_,rfl,tb,_,rfl,T.get zcg,_,rfl,λrg hrg=>?_⟩;refine⟨rg,0,((p^m:Nat):Int),rfl,zaa,⟨by decide,by decide,by lia,by lia⟩,szl _ (by lia),λso hso=>?_⟩;have eI:L2.intsFrom 0 (((p^m:Nat):Int)-0).toNat=(List.range (p^m)).map Vn:=by
  rw[Int.sub_zero,xAu];unfold L2.intsFrom;refine xAL λi _=>?_
  rw[Int.zero_add]
 rw[eI];have s1:=(yaa hrg (.rng 0 ((p^m:Nat):Int))).trans (yaa hso (.lst ((List.range (p^m)).map Vn)));have e1:upd (upd H rg (.rng 0 ((p^m:Nat):Int))) so (.lst ((List.range (p^m)).map Vn)) so=some (.lst ((List.range (p^m)).map Vn)):=zaa;dsimp only[yap];generalize upd (upd H rg (.rng 0 ((p^m:Nat):Int))) so (.lst ((List.range (p^m)).map Vn))=H1 at s1 e1 ⊢;have T1:=T.same s1;refine⟨_,rfl,so,rfl,⟨_,SqL.of e1⟩,?_⟩;refine yao (zaO (xs:=(List.range (p^m)).map Vn)) (λk acc H'=>H'=H1/\acc=(((List.range k).filter λx=>decide (pw p m t x (p^few)=x)).map Vn)) ⟨rfl,rfl⟩ (λi acc H' _ h=>by rw[h.1];exact SqL.of e1) ?_ ?_ ?_
 ·rintro k acc H' hk ⟨_,rfl⟩;have:=xBj (λx=>decide (pw p m t x (p^few)=x)) (List.range k);rw[xAy]at this;rw[xA1,xAy]at hk;rw[xA1];exact yah (by lia)
 ·rintro k acc x H' H'' hk ⟨rfl,rfl⟩ ⟨rfl,ez⟩;rw[xA1,xAy]at hk;rw[xAd,xB7 hk]at ez;cases ez;refine⟨_,rfl,_,rfl,_,rfl,tb,fa,pa,la,p,m,t,b,k,((p^few:Nat):Int),rfl,T1,hk,?_⟩;rw[ye4 G hk];refine⟨_,rfl,rfl,_,rfl,?_⟩;have ed:decide (Vn (pw p m t k (p^few))=Vn k)=decide (pw p m t k (p^few)=k):=decide_eq_decide.mpr ⟨λe=>Int.ofNat.inj (V.int.inj e),λe=>by rw[e]⟩;rw[ed,xBz,List.filter_append];refine ite2 (λc=>?_) (λc=>?_)
  ·have c':pw p m t k (p^few)=k:=xAn c;refine⟨_,rfl,rfl,?_⟩;rw[xAk];simp[c']
  ·have c':¬ pw p m t k (p^few)=k:=λh=>c (xAD h)
   refine⟨rfl,?_⟩;simp[c']
 ·rintro acc H2 ⟨rfl,rfl⟩ D hD;rw[xA1,xAy];exact q D _ (s1.trans (yaa hD _)) (s1.free hD) zaa
theorem zao:yag ["_law_table_here","_law_wheel_here","_law_row","_law_mark","_law_root","_law_moved","_law_place","_law_thing"] ["_law_table_here","_law_wheel_here"] (yac zbn):=⟨rfl,rfl,rfl,by decide +kernel,rfl,by decide +kernel,by decide +kernel⟩
theorem yfv(B:Bl mg)(xC5:Has P w K mg base 1 "_law_power" ["_law_table_here","_law_one","_law_many"] zcd)(xC0:Has P w K mg base 2 "_law_minus" ["_law_table_here","_law_one","_law_other"] zci)(xCd:Has P w K mg base 1 "_law_times" ["_law_table_here","_law_one","_law_other"] ya9)(F:Fun K "_law_maker" "_law_maker" zbn f fd):FnOk P w K mg base CX0 3 f fd ["_law_table_here","_law_wheel_here"] ycw:=by
 refine F.ok zao (λvs H Q E h=>?_) (λcdv A outer s H vs Q E hr h=>?_)
 ·obtain⟨tb,fa,pa,la,wh,mk,p,m,t,b,few,root,marks,rfl,_⟩:=h;rfl
 obtain⟨tb,fa,pa,la,wh,mk,p,m,t,b,few,root,marks,rfl,T,hW,hr',hml,q⟩:=h;have G:=T.good;have hp:=G.hp;have hm:=G.hm;refine⟨_,((2<|>zao.nd<|>(@yax _ _ _ _ (yab>=>zab)))<=<((@zem _ _ _ _ (zaq<<<(pv 1)<<<yab))<&>((3&&&zao.nd),((4<|>zao.nd<|>(xC5<$>((pv 0)>=>(zaq<<<(pv 1)<<<yab)>=>(pv 3)>=>zab)))<=<(5<|>zao.nd<|>(ycR|||(@yax _ _ _ _ (yab>=>zab))|||(pv 2)))<=<((@ycH _ _ _ _ _ _ _ _ rfl (B "enumerate" (by decide)) ((pv 2)>=>zab) ⋯)<&>((@ycZ _ _ _ _ _ _ rfl ((6&&&zao.nd)∩((7&&&zao.nd)∩yaB)) ⋯ ⋯),(~~~(@ycS _ _ _ _ _ _ (xC0<$>((pv 0)>=>(yai<<<(pv 5)<<<(pv 6))>=>(xCd<$>((pv 0)>=>(pv 4)>=>(pv 7)>=>zab))>=>zab)) (@ydC _ _ _ _ _ _ _ (pv 5) (pv 6) ybT (by intro _;rfl)) ⋯ ⋯ ⋯))))<=<(~~~(2<|>zao.nd<|>(pv 5))))))<=<(~~~((pv 2)⁻¹))),?_⟩
 try dsimp only[cxOf]
 refine⟨szl 1,λr0 hr0=>?_⟩;have s1:=yaa hr0 (.lst [.int 1]);have e1:upd H r0 (.lst [.int 1]) r0=some (.lst ((mkL p m t root []).map Vn)):=zaa;dsimp only[yap];generalize upd H r0 (.lst [.int 1])=H1 at s1 e1 ⊢;have hW1:=hW.same s1;refine⟨_,rfl,wh,_,_,.ref mk,rfl,rfl,SqT.of hW1.w,rfl,mk,rfl,⟨_,SqT.of hW1.k⟩,?_⟩;refine ybW (yce (xs:=marks.map Vn)) (/-I1-/λi σ H'=>Same H H'/\Ex6 λ(rr:Addr) (s3 s4 s5 s6 s7:Option V)=>H rr=none/\H' rr=some (.lst ((mkL p m t root (marks.take i)).map Vn))/\σ=[some (.ref tb),some (.ref wh),some (.ref rr),s3,s4,s5,s6,s7]) ⟨s1,r0,none,none,none,none,none,hr0,e1,rfl⟩ (λi σ H' _ h=>SqT.of (h.1 _ _ hW.k)) ?_ ?_
 ·rintro i z σ H2 H2' hi ⟨s2,rr,s3,s4,s5,s6,s7,nrr,e2,rfl⟩ ⟨rfl,ez⟩;rw[xA1]at hi;have hk:marks[i]?=some (marks.getD i 0):=by rw[xAc hi];simp[List.getD,hi]
  rw[zaU hi]at ez;cases ez;have T2:=T.same s2;refine⟨_,rfl,_,rfl,wh,_,_,Vn root,rfl,rfl,SqT.of (s2 _ _ hW.w),rfl,_,rfl,tb,fa,pa,la,p,m,t,b,root,(((marks.getD i 0):Nat):Int),rfl,T2,hr',?_⟩;rw[ye4 G hr'];dsimp only[yap];have hrow:=ydJ (root:=root) G (marks.take i);have hrl:(mkL p m t root (marks.take i)).length<=65:=by rw[zb1,xAC];lia
  have etk:=yf6 (p:=p) (m:=m) (t:=t) (root:=root) hk;rw[etk];generalize mkL p m t root (marks.take i)=row at e2 hrow hrl ⊢;have hpr:=yaS (t:=t) hp hm root (marks.getD i 0);generalize pw p m t root (marks.getD i 0)=rt at hpr ⊢;have hpos:=zam hp hm;refine⟨szl 1,λz1 hz1=>?_⟩;have t1:=yaa hz1 (.lst [.int 0]);refine⟨_,rfl,z1,rr,_,_,rfl,rfl,zaa,t1 _ _ e2,by rw[xA1];exact szl _ (by simp;lia),λl1 hl1=>?_⟩;have t2:=yaa hl1 (.lst ([.int 0]++row.map Vn));have f2:upd (upd H2' z1 (.lst [.int 0])) l1 (.lst ([.int 0]++row.map Vn)) l1=some (.lst ((mkP p m t rt row 0).map Vn)):=by rw[ygr];exact zaa
  have e2':=t2 _ _ (t1 _ _ e2);have s4':=s2.trans (t1.trans t2);have nl1:H l1=none:=(s2.trans t1).free hl1;have nrl:rr≠l1:=zac (t1 _ _ e2) hl1;dsimp only[yap];generalize upd (upd H2' z1 (.lst [.int 0])) l1 (.lst ([.int 0]++row.map Vn))=H3 at f2 e2' s4' ⊢;have q1:∀x∈(0::row),x<p^m:=λx hx=>by
   rcases xAa.mp hx with rfl|h
   ·exact hpos
   ·exact hrow x h
  refine⟨_,rfl,false,rr,rfl,⟨_,SqL.of e2'⟩,?_⟩;refine ybW (ybm (b:=false) (xs:=row.map Vn)) (/-I2-/λj σ H'=>Same H H'/\H' rr=some (.lst (row.map Vn))/\H' l1=some (.lst ((mkP p m t rt row j).map Vn))/\Ex2 λs6 s7=>σ=[some (.ref tb),some (.ref wh),some (.ref rr),some (Vn (marks.getD i 0)),some (Vn rt),some (.ref l1),s6,s7]) ⟨s4',e2',f2,_,_,rfl⟩ (λi σ H' _ h=>SqL.of h.2.1) ?_ ?_
  ·rintro j z σ H4 H5 hj ⟨s5',e4,f4,s6',s7',rfl⟩ ⟨Tt,u,rfl,eu,hT,rfl⟩;rw[xA1]at hj;rw[zaU hj]at eu;cases eu;have sT:=yaa hT (.tup [.int (j:Int),Vn (row.getD j 0)]);have s6:=s5'.trans sT;have e5:=sT _ _ e4;have f5:=sT _ _ f4;have T5:=T.same s6;have hj0:=zbs q1 (i:=j) (by simp;lia);refine⟨Tt,_,rfl,SqT.of zaa,rfl,_,_,rfl,_,_,rfl,rfl,?_⟩;refine⟨_,rfl,_,rfl,_,rfl,l1,_,_,Vn ((0::row).getD j 0),rfl,rfl,SqL.of f5,?_,?_⟩
   ·rw[<-yhf (p:=p) (m:=m) (t:=t) (r:=rt) hj];exact zbc (zaU (by rw[ye7];lia))
   refine⟨_,rfl,_,rfl,_,rfl,tb,fa,pa,la,p,m,t,b,rt,row.getD j 0,rfl,T5,hpr,zbs hrow hj,?_⟩;refine⟨tb,fa,pa,la,p,m,t,b,(0::row).getD j 0,_,rfl,T5,hj0,yaz hp hm _ _,?_⟩;refine⟨_,rfl,_,rfl,l1,_,_,j,rfl,rfl,f5,?_,?_⟩
   ·rw[xA1,ye7];show ixN (row.length+1) ((j:Nat):Int)=_;unfold ixN;rw[if_pos (by lia),if_pos (by lia)];rfl
   ·rw[<-List.map_set,ygT hj];exact⟨ydb s6 nl1,by rw[zad nrl];exact e5,zaa,_,_,rfl⟩
  ·rw[xA1,ygQ G hrow];rintro σ H4 ⟨s5',e4,f4,s6',s7',rfl⟩;exact⟨_,rfl,s5',l1,_,_,_,_,_,nl1,f4,rfl⟩
 ·rw[xA1];rintro σ H2 ⟨s2,rr,s3,s4,s5,s6,s7,nrr,e2,rfl⟩;rw[xBv]at e2;exact⟨_,rfl,q rr _ s2 nrr e2⟩
theorem zhx{n:Nat}{k:Int}{Q:V->Hp->Prop}(hz:H z=some (.tup [V.int 0]))(hk:k=(n:Int))(hn:n<=1000)(h:∀r H',Same H H'->H' r=some (.tup ((List.replicate n 0).map Vn))->Q (.ref r) H'):zhy K (.ref z) (.int k) H Q:=by
 subst hk;refine⟨z,_,_,rfl,rfl,SqT.of hz,by simp,by lia,by lia,by rw[xAu];simp;exact szl _ (by lia),λk1=>?_,λk1 p1 hp1=>?_⟩
 ·have e:n=1:=by lia
  subst e;exact h z H (Same.refl _) hz
 ·rw[xAu,zcr];exact h p1 _ (yaa hp1 _) zaa
inductive zd2 (K:PySem.W.Frag) (vs:List V) (H:Hp) (Q:VK) (E:XK):Prop
 |mk (tb fa pa la a b:Addr) (p m t c:Nat) (xs ys:List Nat) (c1:vs=[.ref tb,.ref a,.ref b]) (c2:Tab H tb fa pa la p m t c) (c3:H a=some (.tup (xs.map Vn))) (c4:H b=some (.lst (ys.map Vn))) (c5:xs.length<=100) (c6:(∀x∈xs,x<p^m)) (c7:(∀y∈ys,y<p^m)) (c8:∀r H',Same H H'->H r=none->H' r=some (.tup ((addL p m xs ys).map Vn))->Q (.ref r) H'):zd2 K vs H Q E
theorem zdd:yag ["_law_table_here","_law_one","_law_other"] ["_law_table_here","_law_one","_law_other"] (yac yaY):=⟨rfl,rfl,rfl,by decide +kernel,rfl,by decide +kernel,by decide +kernel⟩
theorem WOk.one{p m t root n:Nat}{marks:List Nat}(G:Good p m t):WOk p m t root n marks [List.replicate n 0]:=λw hw=>by
 rw[xAl.mp hw];refine⟨by simp,λx hx=>by rw[(List.mem_replicate.mp hx).2];exact zam G.hp G.hm,λk _=>?_⟩;have:=yc2 G (x:=pw p m t root k) n 0 (row:=[]) rfl;unfold padL at this
 simpa using this
theorem WOk.more{p m t root n:Nat}{marks:List Nat}(G:Good p m t){ws:List (List Nat)}{c:Nat}{part:List Nat}(h:WOk p m t root n marks ws)(hl:part.length=n)(hp:∀x∈part,x<p^m)(hz:∀k∈marks,val p m t (pw p m t root k) part=0):WOk p m t root n marks (ws.map λw=>addL p m w (zaz p m t c part)):=λv hv=>by
 obtain⟨w,hw,rfl⟩:=xA9.mp hv;obtain⟨h1,h2,h3⟩:=h w hw;have lp:(zaz p m t c part).length=n:=by simp[zaz];exact hl
 refine⟨zbe h1 lp,yd7 G _ _,λk hk=>?_⟩;have hx:=yaS (t:=t) G.hp G.hm root k;rw[ydd G hx h1 lp h2 (ycg G c part),h3 k hk,zcn G hx hp,hz k hk,mul_zero G.hp G.hm,add_zero G.hp G.hm (zam G.hp G.hm)]
theorem zcC{p m t root n:Nat}{marks:List Nat}{few:Nat}(G:Good p m t):∀k,k<=n-marks.length->WOk p m t root n marks (lwL p m t root n marks few k)
 |0,_=>WOk.one G
 |k+1,hk=>λu hu=>by
  obtain⟨c,_,h⟩:=List.mem_flatMap.mp hu;exact WOk.more G (zcC G k (by lia)) (zdE (by lia)) (zgw G (ydJ G _)) (λk' hk'=>yc2 G _ _ (ydc G hk')) u h
inductive ycl (vs:List V) (H:Hp) (Q:VK) (E:XK):Prop
 |mk (tb fa pa la wh mk:Addr) (p m t b few root n:Nat) (marks:List Nat) (c1:vs=[.ref tb,.ref wh]) (c2:Tab H tb fa pa la p m t b) (c3:WhAt H wh fa mk few root marks) (c4:1<=few) (c5:few<=6) (c6:m%few=0) (c7:0<root) (c8:root<p^m) (c9:Ord p m t root n) (c10:n<=64) (c11:marks.length<=n) (c12:(p^few)^(n-marks.length)<=4096) (c13:∀r (ds:List Addr) H',Same H H'->H' r=some (.lst (ds.map V.ref))->Tups H' ds (lwL p m t root n marks few (n-marks.length))->Q (.ref r) H'):ycl vs H Q E
theorem yaj:yag ["_law_table_here","_law_wheel_here","_law_n","_law_row","_law_some","_law_found","_law_move","_law_part","_law_more","_law_letter","_law_more_times"] ["_law_table_here","_law_wheel_here"] (yac zaN):=⟨rfl,rfl,rfl,by decide +kernel,rfl,by decide +kernel,by decide +kernel⟩
theorem zfd(B:Bl mg)(xCa:Has P w K mg base 2 "_law_round" ["_law_table_here","_law_one"] yaV)(xBY:Has P w K mg base 3 "_law_maker" ["_law_table_here","_law_wheel_here"] ycw)(xBX:Has P w K mg base 2 "_law_letters" ["_law_table_here","_law_few"] ybI)(xCd:Has P w K mg base 1 "_law_times" ["_law_table_here","_law_one","_law_other"] ya9)(xBT:Has P w K mg base 2 "_law_added" ["_law_table_here","_law_one","_law_other"] (zd2 K))(F:Fun K "_law_words" "_law_words" zaN f fd):FnOk P w K mg base CX0 4 f fd ["_law_table_here","_law_wheel_here"] ycl:=by
 refine F.ok yaj (λvs H Q E h=>?_) (λcdv A outer s H vs Q E hr h=>?_)
 ·obtain⟨tb,fa,pa,la,wh,mk,p,m,t,b,few,root,n,marks,rfl,_⟩:=h;rfl
 obtain⟨tb,fa,pa,la,wh,mk,p,m,t,b,few,root,n,marks,rfl,T,hW,hf1,hf6,hfm,r0,rq,ord,hn,hml,hsz,ret⟩:=h;have G:=T.good;have hp:=G.hp;have hm:=G.hm;have hQ:=G.hq;have hlets:=zfz G hfm hf1;have hq1:1<=p^few:=xBf (by lia);have ml:=zb1 p m t root marks;refine⟨_,((@zbj _ _ 2 3 _ _ _ _ _ _ _ _ _ _ _ rfl yaj.nd rfl rfl (by decide) rfl rfl ((xCa<$>((pv 0)>=>(zaq<<<(pv 1)<<<yab)>=>zab))>=>(xBY<$>((pv 0)>=>(pv 1)>=>zab))>=>zab) rfl ⋯)<=<(4<|>yaj.nd<|>(xBX<$>((pv 0)>=>(zaq<<<(pv 1)<<<yab)>=>zab)))<=<(5<|>yaj.nd<|>(@yax _ _ _ _ ((zgO|||(@yaM _ _ _ _ _ (yab>=>zab))|||(pv 2))>=>zab)))<=<((↑((za7|||(pv 2)|||(zar>>>("len",PySem.boot_len,((zaq<<<(pv 1)<<<yab)>=>zab))))>=>zab))<&>((6&&&yaj.nd),((7<|>yaj.nd<|>(ycR|||(ycR|||(yfG|||(@yax _ _ _ _ (yab>=>zab))|||(pv 6))|||(pv 3))|||(yfG|||(@yax _ _ _ _ (yab>=>zab))|||(za7|||(za7|||(pv 2)|||(pv 6))|||(zar>>>("len",PySem.boot_len,((pv 3)>=>zab)))))))<=<(8<|>yaj.nd<|>(@yax _ _ _ _ zab))<=<((@zaH _ _ _ _ (pv 4))<&>((9&&&yaj.nd),((10<|>yaj.nd<|>(["_law_thing"]⊆(["_law_table_here","_law_letter"],[0,9],["_law_table_here","_law_wheel_here","_law_n","_law_row","_law_some","_law_found","_law_move","_law_part","_law_more","_law_letter","_law_more_times"],zaN,(@zaH _ _ _ _ (pv 7)),(0⊇["_law_thing","_law_table_here","_law_letter"]),zaZ,(xCd<$>((pv 1)>=>(pv 2)>=>(pv 0)>=>zab)))))<=<(~~~(@zbK _ _ _ _ (@ydW _ _ _ _ _ _ _ _ _ _ _ _ xBN PySem.F.slot_list_extend PySem.F.type_list_extend ydP (pv 8) ((["_law_word"]⊆(["_law_table_here","_law_more_times"],[0,10],["_law_table_here","_law_wheel_here","_law_n","_law_row","_law_some","_law_found","_law_move","_law_part","_law_more","_law_letter","_law_more_times"],zaN,(@zaH _ _ _ _ (pv 5)),(0⊇["_law_word","_law_table_here","_law_more_times"]),zaZ,(xBT<$>((pv 1)>=>(pv 0)>=>(pv 2)>=>zab))))>=>zab) ⋯ ⋯ ⋯ ⋯ ⋯) ⋯)))))<=<(~~~(5<|>yaj.nd<|>(pv 8))))))<=<(~~~((pv 5)⁻¹))),?_⟩
 try dsimp only[cxOf]
 refine⟨_,rfl,_,rfl,wh,_,_,Vn root,rfl,rfl,SqT.of hW.w,rfl,tb,fa,pa,la,p,m,t,b,root,rfl,T,r0,rq,λn' o' _=>?_⟩;cases o'.uniq ord;refine⟨_,rfl,_,rfl,tb,fa,pa,la,wh,mk,p,m,t,b,few,root,marks,rfl,T,hW,rq,by lia,λmr H1 s1 _ e1=>?_⟩;refine⟨_,_,rfl,?_⟩;refine⟨_,rfl,_,rfl,wh,_,_,Vn few,rfl,rfl,SqT.of (hW.same s1).w,rfl,tb,fa,pa,la,p,m,t,b,few,rfl,T.same s1,hf6,λso H2 s2 _ e2=>?_⟩;refine⟨szl 1,λz hz=>?_⟩;refine⟨_,rfl,zhx zaa rfl (by lia) λz1 H3 s3 e3=>?_⟩;refine⟨szl 1,λfl hfl=>?_⟩;have sF:=((yaa hz (.tup [V.int 0])).trans s3).trans (yaa hfl (.lst [.ref z1]));have s4:=(s1.trans s2).trans sF;have eM:=sF _ _ (s2 _ _ e1);have eS:=sF _ _ e2;have eF:upd H3 fl (.lst [.ref z1]) fl=some (.lst ([z1].map V.ref)):=zaa;have eZ:Tups (upd H3 fl (.lst [.ref z1])) [z1] [List.replicate n 0]:=⟨rfl,λi d e=>by
  have:i=0:=by have:=(xAh.mp e).1;simp at this;lia
  subst this;cases e;exact⟨_,rfl,yaa hfl _ _ _ e3⟩⟩
 dsimp only[yap];generalize upd H3 fl (.lst [.ref z1])=H4 at sF s4 eM eS eF eZ ⊢;clear e3 s3;have hW4:=hW.same s4;refine⟨_,rfl,_,rfl,wh,_,_,.ref mk,rfl,rfl,SqT.of hW4.w,rfl,mk,_,rfl,.inr (SqT.of hW4.k),_,_,rfl,rfl,((n-marks.length:Nat):Int),?_,by lia,by lia,?_⟩
 ·rw[xA1];show [V.int ((n:Int)-(marks.length:Int))]=_;rw[show(n:Int)-(marks.length:Int)=((n-marks.length:Nat):Int) by lia]
 let I3:Nat->St->Hp->Prop:=λk σ H'=>Same H4 H'/\Ex7 λ(fl:Addr) (ds:List Addr) (s6 s7 s8 s9 s10:Option V)=>An3 (H' fl=some (.lst (ds.map V.ref))) (Tups H' ds (lwL p m t root n marks few k)) (σ=[some (.ref tb),some (.ref wh),some (Vn n),some (.ref mr),some (.ref so),some (.ref fl),s6,s7,s8,s9,s10])
 refine zaD (lo:=0) (n:=((n-marks.length:Nat):Int).toNat) I3 ⟨Same.refl _,fl,[z1],none,none,none,none,none,eF,eZ,rfl⟩ ?_ ?_
 ·rintro k σ H5 hk ⟨s5,fl,ds,s6,s7,s8,s9,s10,ef,hT,rfl⟩;rw[xAu]at hk;have hw:=zcC (root:=root) (marks:=marks) (few:=few) G k (Nat.le_of_lt hk);have hwl:(lwL p m t root n marks few k).length<=(p^few)^k:=by rw[yc7];exact Nat.pow_le_pow_left hlets k
  obtain⟨ws,ews⟩:∃ws,ws=lwL p m t root n marks few k:=⟨_,rfl⟩
  rw[<-ews]at hw hwl hT;have eM5:=s5 _ _ eM;have eS5:=s5 _ _ eS;refine⟨szl 1,λz hz=>?_⟩;have t1:=yaa hz (.lst [V.int 0]);refine⟨_,rfl,z,_,_,rfl,rfl,zaa,by lia,by lia,by rw[show(0+(k:Int)).toNat=k by lia];exact szl _ (by simp;lia),λl1 hl1=>?_⟩;rw[show(0+(k:Int)).toNat=k by lia,zcr];have t2:=t1.trans (yaa hl1 (.lst ((List.replicate k 0).map Vn)));have g1:upd (upd H5 z (.lst [V.int 0])) l1 (.lst ((List.replicate k 0).map Vn)) l1=some (.lst ((List.replicate k 0).map Vn)):=zaa;generalize upd (upd H5 z (.lst [V.int 0])) l1 (.lst ((List.replicate k 0).map Vn))=H6 at t2 g1 ⊢;refine⟨_,rfl,l1,mr,_,_,rfl,rfl,g1,t2 _ _ eM5,by rw[xA1,xA1,xBH,ml];exact szl _ (by lia),λl2 hl2=>?_⟩;rw[<-xAk];have t3:=t2.trans (yaa hl2 (.lst ((List.replicate k 0++mkL p m t root marks).map Vn)));have g2:upd H6 l2 (.lst ((List.replicate k 0++mkL p m t root marks).map Vn)) l2=some (.lst ((List.replicate k 0++mkL p m t root marks).map Vn)):=zaa;generalize upd H6 l2 (.lst ((List.replicate k 0++mkL p m t root marks).map Vn))=H7 at t3 g2 ⊢;refine⟨szl 1,λz2 hz2=>?_⟩;have t4:=yaa hz2 (.lst [V.int 0]);refine⟨_,rfl,_,rfl,_,_,rfl,rfl,_,rfl,mr,_,rfl,.inl (SqL.of (t4 _ _ (t3 _ _ eM5))),_,_,rfl,rfl,?_⟩;have ec:((n:Int)-(0+(k:Int))-(((mkL p m t root marks).map Vn).length:Int))=((n-k-(marks.length+1):Nat):Int):=by rw[xA1,ml];lia
  refine⟨z2,_,_,rfl,rfl,zaa,?_⟩;rw[ec];refine⟨by lia,by lia,by rw[xAu];exact szl _ (by simp;lia),λl3 hl3=>?_⟩;rw[xAu,zcr];have t5:=t4.trans (yaa hl3 (.lst ((List.replicate (n-k-(marks.length+1)) 0).map Vn)));have g3:upd (upd H7 z2 (.lst [V.int 0])) l3 (.lst ((List.replicate (n-k-(marks.length+1)) 0).map Vn)) l3=some (.lst ((List.replicate (n-k-(marks.length+1)) 0).map Vn)):=zaa;generalize upd (upd H7 z2 (.lst [V.int 0])) l3 (.lst ((List.replicate (n-k-(marks.length+1)) 0).map Vn))=H8 at t5 g3 ⊢;refine⟨l2,l3,_,_,rfl,rfl,t5 _ _ g2,g3,by simp only[xA1,xAB,xBH,ml];exact szl _ (by lia),λpt hpt=>?_⟩;rw[<-xAk];have t6:=(t3.trans t5).trans (yaa hpt (.lst ((mvL p m t root n marks k).map Vn)));have ePt:upd H8 pt (.lst ((mvL p m t root n marks k).map Vn)) pt=some (.lst ((mvL p m t root n marks k).map Vn)):=zaa;dsimp only[yap];change tSeq _ _ _ _ (upd H8 pt (.lst ((mvL p m t root n marks k).map Vn)));generalize upd H8 pt (.lst ((mvL p m t root n marks k).map Vn))=H9 at t6 ePt ⊢;have s9':=s5.trans t6;have hT9:=hT.same t6;have ef9:=t6 _ _ ef;have eS9:=t6 _ _ eS5;have lpt:=zdE (p:=p) (m:=m) (t:=t) (root:=root) (marks:=marks) hk;have hpt':∀x∈mvL p m t root n marks k,x<p^m:=zgw G (ydJ G _);have hpz:∀k'∈marks,val p m t (pw p m t root k') (mvL p m t root n marks k)=0:=λk' hk'=>yc2 G _ _ (ydc G hk')
  clear t1 t2 t3 t4 t5 t6 g1 g2 g3;have hwl2:ws.length<=4096:=xAz hwl (xAz (xAM hq1 (by lia)) hsz);have hnext:(p^few)^(k+1)<=4096:=xAz (xAM hq1 (by lia)) hsz;have hmore:∀j,j<=(lets p m t few).length->j*ws.length<=(p^few)^(k+1):=λj hj=>by
   rw[xB5,xBq];exact Nat.mul_le_mul hwl (xAz hj hlets)
  refine⟨szl 0,λmo hmo=>?_⟩;have sm:=yaa hmo (.lst []);dsimp only[yap];refine⟨_,rfl,so,rfl,⟨_,SqL.of (sm _ _ eS9)⟩,?_⟩
  let I4:Nat->St->Hp->Prop:=λj σ H'=>Same H9 H'/\Ex3 λ(es:List Addr) (s9 s10:Option V)=>An3 (H' mo=some (.lst (es.map V.ref))) (Tups H' es (((lets p m t few).take j).flatMap λc=>ws.map λu=>addL p m u (zaz p m t c (mvL p m t root n marks k)))) (σ=[some (.ref tb),some (.ref wh),some (Vn n),some (.ref mr),some (.ref so),some (.ref fl),some (.int (0+(k:Int))),some (.ref pt),some (.ref mo),s9,s10])
  refine zbQ (xs:=(lets p m t few).map Vn) I4 ⟨sm,[],_,_,zaa,⟨rfl,λi d e=>by simp at e⟩,rfl⟩ (λi σ H' _ h=>SqL.of (h.1 _ _ eS9)) ?_ ?_
  ·rintro j x σ H10 hx ⟨s10',es,s9x,s10x,em,hTv,rfl⟩;obtain⟨c,ec',rfl⟩:∃c,(lets p m t few)[j]?=some c/\x=Vn c:=by
    rw[xAd]at hx;cases e:(lets p m t few)[j]? with
    |none=>rw[e]at hx;cases hx
    |some a=>rw[e]at hx;cases hx;exact⟨a,rfl,rfl⟩
   have hj:j<(lets p m t few).length:=(xAh.mp ec').1;have hc:=yaT c (xAS ec');have T10:=T.same (s4.trans (s9'.trans s10'));have ePt10:=s10' _ _ ePt;refine⟨_,rfl,pt,rfl,⟨_,SqL.of ePt10⟩,?_⟩;refine yao (zaO (xs:=(mvL p m t root n marks k).map Vn)) (λi acc H'=>H'=H10/\acc=((List.range i).map λi=>mul p m t c ((mvL p m t root n marks k).getD i 0)).map Vn) ⟨rfl,rfl⟩ (λi acc H' _ h=>by rw[h.1];exact SqL.of ePt10) ?_ ?_ ?_
   ·rintro i acc H' hi ⟨_,rfl⟩;rw[xA1,lpt]at hi;rw[xA1,xA1,xAy];exact yah (by lia)
   ·rintro i acc z H11 H12 hi ⟨rfl,rfl⟩ ⟨rfl,ez⟩;rw[xA1]at hi;rw[zaU hi]at ez;cases ez;refine⟨_,rfl,_,rfl,_,rfl,tb,fa,pa,la,p,m,t,b,c,(mvL p m t root n marks k).getD i 0,rfl,T10,hc,zbs hpt' hi,?_⟩;refine⟨rfl,?_⟩;rw[xBz,xAk,xAk];rfl
   rw[xA1];rintro acc H11 ⟨rfl,rfl⟩ D hD;have sD:=yaa hD (.lst ((zaz p m t c (mvL p m t root n marks k)).map Vn));have eD:upd H11 D (.lst ((zaz p m t c (mvL p m t root n marks k)).map Vn)) D=some (.lst ((zaz p m t c (mvL p m t root n marks k)).map Vn)):=zaa;dsimp only[yap];change yhC _ _ _ (upd H11 D (.lst ((zaz p m t c (mvL p m t root n marks k)).map Vn)));generalize upd H11 D (.lst ((zaz p m t c (mvL p m t root n marks k)).map Vn))=H12 at sD eD ⊢;have em12:=sD _ _ em;have hT12:=hT9.same (s10'.trans sD);have ef12:=sD _ _ (s10' _ _ ef9);have T12:=T10.same sD;refine⟨_,rfl,.inl ⟨rfl,_,SqL.of em12⟩,?_⟩;refine⟨_,rfl,fl,rfl,⟨_,SqL.of ef12⟩,?_⟩;refine yao (zaO (xs:=ds.map V.ref)) (λi acc H'=>Same H12 H'/\∃gs:List Addr,acc=gs.map V.ref/\Tups H' gs ((ws.take i).map λu=>addL p m u (zaz p m t c (mvL p m t root n marks k)))) ⟨Same.refl _,[],rfl,⟨rfl,λi d e=>by simp at e⟩⟩ (λi acc H' _ h=>SqL.of (h.1 _ _ ef12)) ?_ ?_ ?_
   ·rintro i acc H' hi ⟨_,gs,rfl,hG⟩;have:=hG.1;rw[xA1,xAC]at this;rw[xA1];exact szl _ (show gs.length+1<=100000 by lia)
   ·rintro i acc z H13 H14 hi ⟨s13,gs,rfl,hG⟩ ⟨rfl,ez⟩;obtain⟨d,ed,rfl⟩:=zdn ez;obtain⟨u,eu,hu⟩:=hT12.2 i d ed;have hwu:=hw u (xAS eu);refine⟨_,rfl,_,rfl,_,rfl,tb,fa,pa,la,d,D,p,m,t,b,u,zaz p m t c (mvL p m t root n marks k),rfl,T12.same s13,s13 _ _ hu,s13 _ _ eD,by lia,hwu.2.1,ycg G _ _,λr H15 s15 _ e15=>?_⟩;refine⟨s13.trans s15,gs++[r],by simp,?_⟩;rw[zat eu,xAk];exact(hG.same s15).snoc e15
   rw[xA1,hT.1,xBv];rintro acc H13 ⟨s13,gs,rfl,hG⟩ D2 hD2;have sD2:=yaa hD2 (.lst (gs.map V.ref));have em13:=sD2 _ _ (s13 _ _ em12);have hgl:=hG.1;rw[xA1]at hgl;have hvl:=hTv.1;rw[zdf,xAC,Nat.min_eq_left (Nat.le_of_lt hj)]at hvl;have hvl2:=hmore (j+1) (by lia);rw[Nat.add_mul,Nat.one_mul]at hvl2;refine⟨mo,D2,_,_,rfl,rfl,em13,zaa,by rw[xA1,xA1,hvl,hgl];exact szl _ (by lia),?_⟩;rw[<-xAk];refine⟨ydb (s10'.trans (sD.trans (s13.trans sD2))) hmo,es++gs,_,_,zaa,?_,rfl⟩;rw[zat ec',List.flatMap_append,List.flatMap_singleton];exact Tups.at (((hTv.same sD).same (s13.trans sD2)).app (hG.same sD2)) em13
  ·rw[xA1];rintro σ H10 ⟨s10',es,s9x,s10x,em,hTv,rfl⟩;rw[xBv,ews]at hTv;exact⟨_,rfl,s9'.trans s10',mo,es,_,_,_,_,_,em,hTv,rfl⟩
 ·rw[xAu];rintro σ H5 ⟨s5,fl,ds,s6,s7,s8,s9,s10,ef,hT,rfl⟩;exact⟨_,rfl,ret fl ds _ (s4.trans s5) ef hT⟩
theorem zck:∀(n:Nat) (l:List Nat),l.Nodup->(∀x∈l,x<n)->l.length<=n
 |0,[],_,_=>xA5 _
 |0,x::_,_,h=>absurd (h x xA7) (by lia)
 |n+1,l,hd,h=>by
  have h1:=zck n (l.erase n) (hd.erase n) λx hx=>by
   have:=(hd.mem_erase_iff).mp hx;have:=h x this.2
   lia
  have:=xBI (a:=n) (l:=l);by_cases c:n∈l
  ·rw[this c]at h1;lia
  ·rw[List.erase_of_not_mem c]at h1;lia
theorem yeM{ns':List Int}{xs:List Nat}(h:ns'.Perm (xs.map λn:Nat=>(n:Int)))(ha:ns'.Pairwise (·<=·))(hd:xs.Nodup):∃ms:List Nat,ns'.map V.int=ms.map Vn/\ms.Pairwise (· < ·)/\∀x,x∈ms↔x∈xs:=by
 have hmem:∀i∈ns',∃n∈xs,(n:Int)=i:=λi hi=>xA9.mp (h.mem_iff.mp hi)
 have hn:ns'.Nodup:=h.nodup_iff.mpr (by
  rw[List.Nodup,xAJ];exact hd.imp λhne e=>hne (Int.ofNat.inj e))
 refine⟨ns'.map Int.toNat,?_,?_,λx=>?_⟩
 ·rw[xAH];refine xAL λi hi=>?_
  obtain⟨n,_,rfl⟩:=hmem i hi;rfl
 ·rw[xAJ];refine xBJ ?_ (ha.and hn);intro a b h1 h2 h3;obtain⟨n1,_,rfl⟩:=hmem a h1;obtain⟨n2,_,rfl⟩:=hmem b h2;have:=h3.1;have h4:=h3.2;rw[xAu,xAu];have:n1≠n2:=λe=>h4 (by rw[e])
  lia
 ·rw[xA9];constructor
  ·rintro⟨i,hi,rfl⟩;obtain⟨n,hn',rfl⟩:=hmem i hi;exact hn'
  ·intro hx;exact⟨(x:Int),h.mem_iff.mpr (xA9.mpr ⟨x,hx,rfl⟩),rfl⟩
theorem zeu{n:Nat}{xs:List Nat}(hn:n<=63)(h:∀x∈xs,x<n):∀ks:List Int,ks.Nodup->(∀k∈ks,k∈xs.map λn:Nat=>(n:Int))->ks.length<64:=λks hd hs=>by
 have h1:(ks.map Int.toNat).Nodup:=by
  rw[List.Nodup,xAJ];refine xBJ ?_ hd;intro a b ha hb hne e;obtain⟨x,_,rfl⟩:=xA9.mp (hs a ha);obtain⟨y,_,rfl⟩:=xA9.mp (hs b hb);exact hne (by rw[xAu,xAu]at e;rw[e])
 have h2:=zck n _ h1 λx hx=>by
  obtain⟨i,hi,rfl⟩:=xA9.mp hx;obtain⟨y,hy,rfl⟩:=xA9.mp (hs i hi);exact h y hy
 rw[xA1]at h2
 lia
theorem zcR{n q:Nat}{ms:List Nat}(hl:∀x∈ms,x<n)(h:∀x∈ms,x*q%n∈ms){x:Nat}(hx:x∈ms)(c:Nat):x*q^c%n∈ms:=by
 induction c with
 |zero=>rw[Nat.pow_zero,Nat.mul_one,Nat.mod_eq_of_lt (hl x hx)];exact hx
 |succ c ih=>
  have:=h _ ih;rw[Nat.mod_mul_mod,Nat.mul_assoc,<-xB5]at this;exact this
theorem Pu.at'(h:Pu H a g)(n:r≠a/\r≠g):Pu (upd H r o) a g:=by
 obtain⟨ns,x,t,h1,h2⟩:=h;exact⟨ns,x,t,by rw[zad (Ne.symm n.1)];exact h1,by rw[zad (Ne.symm n.2)];exact h2⟩
theorem yh6(s:zah pu g H H')(h:H a=none):zah pu g H (upd H' a o):=λb u n1 n2 e=>by rw[zad (zac e h)];exact s _ _ n1 n2 e
inductive ycv (vs:List V) (H:Hp) (Q:VK) (E:XK):Prop
 |mk (pu g:Addr) (most L:Nat) (c1:vs=[.ref pu,Vn most,Vn L]) (c2:Pu H pu g) (c3:1<=most) (c4:1<=L) (c5:∀(r tb fa pa la wh mk:Addr) (p m t b few root n:Nat) (marks:List Nat) H',H' r=some (.tup [.ref tb,.ref wh])->Tab H' tb fa pa la p m t b->zfE pu g tb fa pa la->WhAt H' wh fa mk few root marks->(wh≠pu/\wh≠g)->(mk≠pu/\mk≠g)->Whl p m t few root n marks->(p^few)^(n-marks.length)<=L->Pu H' pu g->zah pu g H H'->Q (.ref r) H'):ycv vs H Q E
theorem zaf:yag ["_law_purse_here","_law_most","_law_listed","_law_table_here","_law_wheel_here","_law_n","_law_q","_law_marks","_law_spot","_law_turn","_law_mark"] ["_law_purse_here","_law_most","_law_listed"] (yac yaD):=⟨rfl,rfl,rfl,by decide +kernel,rfl,by decide +kernel,by decide +kernel⟩
theorem zfi(B:Bl mg)(xCe:Has P w K mg base 5 "_law_wheel" ["_law_purse_here","_law_most"] ybR)(xCa:Has P w K mg base 2 "_law_round" ["_law_table_here","_law_one"] yaV)(xC8:Has P w K mg base 1 "_law_raised" ["_law_one","_law_many"] yaf)(xC3:Has P w K mg base 1 "_law_pick" ["_law_purse_here","_law_many"] zbH)(xC9:Has P w K mg base 1 "_law_ring" ["_law_i","_law_n","_law_q"] yby)(F:Fun K "_law_small_wheel" "_law_small_wheel" yaD f fd):FnOk P w K mg base CX0 6 f fd ["_law_purse_here","_law_most","_law_listed"] ycv:=by
 refine F.ok zaf (λvs H Q E h=>?_) (λcdv A outer s H vs Q E hr h=>?_)
 ·obtain⟨pu,g,most,L,rfl,_⟩:=h;rfl
 obtain⟨pu,g,most,L,rfl,hP,hmost,hL1,ret⟩:=h;refine⟨_,(((xCe<$>((pv 0)>=>(pv 1)>=>zab))≈((3&&&zaf.nd)∩((4&&&zaf.nd)∩yaB)))<=<(@zbj _ _ 5 6 _ _ _ _ _ _ _ _ _ _ _ rfl zaf.nd rfl rfl (by decide) rfl rfl ((xCa<$>((pv 3)>=>(zaq<<<(pv 4)<<<yab)>=>zab))>=>(xC8<$>(((pv 3)⊃yas)>=>(zaq<<<(pv 4)<<<yab)>=>zab))>=>zab) rfl ⋯)<=<(@zbj _ _ 7 8 _ _ _ _ _ _ _ _ _ _ _ rfl zaf.nd rfl rfl (by decide) rfl rfl ((zb4<*("list",zaY,((zaq<<<(pv 4)<<<yab)>=>zab)))>=>(xC3<$>((pv 0)>=>(pv 5)>=>zab))>=>zab) rfl ⋯)<=<((↑((pv 5)>=>zab))<&>((9&&&zaf.nd),((10<|>zaf.nd<|>(yaA|||(yat|||(pv 8)|||(pv 9))|||(pv 5)))<=<(~~~((@PW.pt _ _ _ (@yeZ _ _ _ _ _ _ _ (yeF∪(xC8<$>((pv 6)>=>(za7|||(pv 5)|||(zar>>>("len",PySem.boot_len,((pv 7)>=>zab))))>=>zab))∪(pv 2)) (@ydS _ _ _ _ (@zbL _ _ _ _ _ _ _ _ zb6 (pv 10) (pv 7) (by with_unfolding_all rfl)))))*>((~~~(7<|>zaf.nd<|>(ycR|||(pv 7)|||(xC9<$>((pv 10)>=>(pv 5)>=>(pv 6)>=>zab))))),yam))))))<=<(~~~((@yaM _ _ _ _ _ ((pv 3)>=>(zcA|||(@zbA _ _ _ _ _ _ _ _ _ _ yen (pv 4) yb2 (@zbY _ _ _ yab))|||(@yaM _ _ _ _ _ ((zal<*("tuple",zaj,((zdS>>>("sorted",zap,((pv 7)>=>zab)))>=>zab)))>=>zab)))>=>zab))⁻¹))),?_⟩
 try dsimp only[cxOf]
 refine⟨_,rfl,_,rfl,pu,g,most,rfl,hP,hmost,λr tb fa pa la wh mk p m t b few root n marks H4 er T ap hW nwh nmk nr W hn hP4 sx4=>?_⟩;refine⟨r,_,rfl,SqT.of er,rfl,_,_,rfl,_,_,rfl,rfl,?_⟩;have G:=T.good;have hp:=G.hp;have hm:=G.hm;have hQ:=G.hq;have hnq:=W.nq;have hn0:=W.ord.pos;have hm6:=m_le hp hQ;have hp2:=p_le hp hm hQ;have hfm:few<=m:=Nat.le_of_dvd (by lia) (xBs W.fewm);have hf1:=W.few1;have he1:1<=m/few:=Nat.div_pos hfm (by lia);have he2:m/few<=6:=xAz (Nat.div_le_self _ _) hm6;have hqq:p^few<=64:=xAz (xAM (by lia) hfm) hQ;have hq1:1<=p^few:=xBf (by lia);have hrnd:=W.ord.round G W.r0 W.rq W.fewm hf1;refine⟨_,rfl,_,rfl,wh,_,_,Vn root,rfl,rfl,SqT.of hW.w,rfl,tb,fa,pa,la,p,m,t,b,root,rfl,T,W.r0,W.rq,λn' o' _=>?_⟩;cases o'.uniq W.ord;refine⟨_,rfl,tb,_,rfl,T.get zdT,_,rfl,wh,_,_,Vn few,rfl,rfl,SqT.of hW.w,rfl,p,few,rfl,hp2,by lia,?_⟩;refine⟨_,_,rfl,?_⟩;refine⟨_,rfl,wh,_,_,.ref mk,rfl,rfl,SqT.of hW.w,rfl,mk,_,rfl,.inr (SqT.of hW.k),λl0 hl0=>?_⟩;have sl:=yaa hl0 (.lst (marks.map Vn));have nl0:=hP4.lt hl0;refine⟨_,rfl,_,rfl,pu,g,n,rfl,hP4.same sl,by lia,by lia,λspot H5 hspot hP5 sx5=>?_⟩;refine⟨_,_,rfl,?_⟩;have sx45:zah pu g H4 H5:=(Same.x sl).trans sx5;have T5:=T.x ap sx45;have hW5:=hW.x nwh nmk sx45;have e5:H5 l0=some (.lst (marks.map Vn)):=sx5 _ _ nl0.1 nl0.2 zaa;dsimp only[yap]
 let I5:St->Hp->Prop:=λσ H'=>An3 (Pu H' pu g) (zah pu g H5 H') (Ex4 λ(ml:Addr) (ms:List Nat) (s9 s10:Option V)=>An6 (H' ml=some (.lst (ms.map Vn))) (ms.Nodup) (∀x∈ms,x<n) (∀x∈ms,x*p^few%n∈ms) ((p^few)^(n-ms.length)<=L) (σ=[some (.ref pu),some (Vn most),some (Vn L),some (.ref tb),some (.ref wh),some (Vn n),some (Vn (p^few)),some (.ref ml),some (Vn spot),s9,s10]))
 refine yaU I5 ?_ ?_
 ·rintro σ H6 ⟨hP6,sx6,ml,ms,s9,s10,e6,hnd,hlt,hcl,hsz,rfl⟩;have T6:=T5.x ap sx6;have hW6:=hW5.x nwh nmk sx6;have hlen:=zck n ms hnd hlt;refine⟨_,rfl,_,rfl,_,rfl,wh,_,rfl,SqT.of hW6.w,by rintro⟨_,h⟩;exact absurd (show HT.sIx 4 4 (some 3)=4 from h) (by decide),λw1 hw1=>?_⟩;have t1:=yaa hw1 (.tup [.ref fa,Vn few,Vn root]);refine⟨_,rfl,ml,(ms.map λn:Nat=>(n:Int)),rfl,SqL.of (by rw[mapI];exact t1 _ _ e6),by rw[xA1];lia,λl2 ns' hl2 perm asc=>?_⟩;obtain⟨ms2,ems,hasc,hmm⟩:=yeM perm asc hnd;have hlen2:ms2.length=ms.length:=by
   have:=congrArg List.length ems;rw[xA1,xA1,perm.length_eq,xA1]at this;exact this.symm
  rw[ems];have t2:=t1.trans (yaa hl2 (.lst (ms2.map Vn)));refine⟨l2,_,rfl,.inl ⟨SqL.of zaa,λk1 hk1=>?_⟩⟩;have t3:=yaa hk1 (.tup (ms2.map Vn));refine⟨szl 1,λw2 hw2=>?_⟩;have t4:=yaa hw2 (.tup [.ref k1]);refine⟨w1,w2,[.ref fa,Vn few,Vn root],[.ref k1],rfl,rfl,SqT.of (t4 _ _ (t3 _ _ (yaa hl2 _ _ _ zaa))),SqT.of zaa,szl 4,λh=>absurd h (by simp),λ_ h=>absurd h (by simp),λ_ _ w3 hw3=>?_⟩;have t5:=yaa hw3 (.tup [.ref fa,Vn few,Vn root,.ref k1]);refine⟨szl 2,λr3 hr3=>?_⟩;have t6:=yaa hr3 (.tup [.ref tb,.ref w3]);have hP7:=(hP6.same t2)
  have hP8:=(hP7.same t3).same t4;refine ret r3 tb fa pa la w3 k1 p m t b few root n ms2 _ zaa (((((T6.same t2).same t3).same t4).same t5).same t6) ap ⟨t6 _ _ zaa,t6 _ _ (t5 _ _ (t4 _ _ zaa))⟩ (hP8.lt hw3) (hP7.lt hk1) ⟨W.few1,W.fewm,W.r0,W.rq,W.ord,W.nq,hasc,λx hx=>hlt x ((hmm x).mp hx),λx hx=>(hmm _).mpr (hcl x ((hmm x).mp hx))⟩ (by rw[hlen2];exact hsz) ((hP8.same t5).same t6) ?_;exact((sx4.trans sx45).trans sx6).trans (Same.x (t2.trans (t3.trans (t4.trans (t5.trans t6)))))
 ·intro D' _ _ _ hD;refine⟨_,rfl,(n:Int),rfl,by lia,by lia,?_⟩
  let I6:Nat->St->Hp->Prop:=λi σ H'=>An3 (Pu H' pu g) (zah pu g H5 H') (Ex4 λ(ml:Addr) (ms:List Nat) (s9 s10:Option V)=>An7 (H' ml=some (.lst (ms.map Vn))) (ml≠pu/\ml≠g) (ms.Nodup) (∀x∈ms,x<n) (∀x∈ms,x*p^few%n∈ms) ((p^few)^(n-ms.length)<=L\/∀j,j<i->(spot+j)%n∈ms) (σ=[some (.ref pu),some (Vn most),some (Vn L),some (.ref tb),some (.ref wh),some (Vn n),some (Vn (p^few)),some (.ref ml),some (Vn spot),s9,s10]))
  refine zaD (lo:=0) (n:=(n:Int).toNat) I6 ⟨hP5,zah.refl,l0,marks,none,none,e5,nl0,W.asc.imp λh=>by lia,W.lt,W.closed,.inr λj hj=>absurd hj (by lia),rfl⟩ ?_ ?_
  ·rintro i σ H6 hi ⟨hP6,sx6,ml,ms,s9,s10,e6,nml,hnd,hlt,hcl,hor,rfl⟩;rw[xAu]at hi;have hlen:=zck n ms hnd hlt;have em:V.int (((spot:Int)+(0+(i:Int)))%(n:Int))=Vn ((spot+i)%n):=by rw[Int.zero_add];rfl
   refine⟨_,rfl,_,rfl,_,_,rfl,rfl,_,rfl,_,_,rfl,rfl,by show(0:Int)<n;lia,?_⟩;dsimp only[yap];rw[em];have hmk:(spot+i)%n<n:=xBh _ hn0;refine⟨_,rfl,_,rfl,_,rfl,ml,_,rfl,.inl (SqL.of e6),_,_,rfl,rfl,p^few,n-ms.length,?_,hqq,by lia,_,rfl,_,_,rfl,rfl,_,rfl,?_⟩
   ·rw[xA1];show [Vn (p^few),V.int ((n:Int)-(ms.length:Int))]=_;rw[show(n:Int)-(ms.length:Int)=((n-ms.length:Nat):Int) by lia]
   refine ite2 (λc=>?_) (λc=>?_)
   ·have c':L<(p^few)^(n-ms.length):=by
     have:=xAn c;exact Int.ofNat_lt.mp this
    have hor:∀j,j<i->(spot+j)%n∈ms:=by
     rcases hor with h|h
     ·lia
     ·exact h
    refine⟨_,rfl,_,rfl,ml,_,rfl,.inl (SqL.of e6),rfl,za9 ms,_,rfl,?_⟩;rw[zbt];refine ite2 (λd=>?_) (λd=>?_)
    ·have d':(spot+i)%n∉ms:=λh=>by rw[xAD h]at d;exact absurd d (by decide)
     refine⟨_,rfl,_,rfl,_,rfl,_,rfl,(spot+i)%n,n,p^few,m/few,rfl,by lia,by lia,hqq,he1,he2,hrnd,λrg rs H7 s7 nrg erg h1 h2 h3 h4 h5 h6 h7=>?_⟩;refine⟨ml,rg,_,_,rfl,rfl,s7 _ _ e6,erg,by rw[xA1,xA1];exact szl _ (by lia),λl2 hl2=>?_⟩;rw[<-xAk];have s8:=s7.trans (yaa hl2 (.lst ((ms++rs).map Vn)));refine⟨hP6.same s8,sx6.trans (Same.x s8),l2,ms++rs,_,_,zaa,(hP6.same s7).lt hl2,List.nodup_append.mpr ⟨hnd,h5,λx hx y hy exy=>?_⟩,λx hx=>?_,λx hx=>?_,.inr λj hj=>?_,rfl⟩
     ·subst exy;obtain⟨a',ea⟩:=h6 x hy;refine d' ?_;have:=zcR hlt hcl hx (m/few*a'-a');rw[ea,Nat.mod_mul_mod,ycs hrnd he1,Nat.mod_mod]at this;exact this
     ·rcases xAr.mp hx with h|h
      ·exact hlt x h
      ·exact h3 x h
     ·rcases xAr.mp hx with h|h
      ·exact xAT _ (hcl x h)
      ·exact xAg _ (h4 x h)
     ·rcases xAP j i with h|h
      ·exact xAT _ (hor j h)
      ·rw[show j=i by lia];have:=h7 0;rw[Nat.pow_zero,Nat.mul_one,Nat.mod_mod]at this;exact xAg _ this
    ·have d':(spot+i)%n∈ms:=Classical.byContradiction λh=>d (by rw[xB3 h];rfl)
     refine⟨hP6,sx6,ml,ms,_,_,e6,nml,hnd,hlt,hcl,.inr λj hj=>?_,rfl⟩;rcases xAP j i with h|h
     ·exact hor j h
     ·rw[show j=i by lia];exact d'
   ·have c':(p^few)^(n-ms.length)<=L:=by
     rcases xAP L ((p^few)^(n-ms.length)) with h|h
     ·exact absurd (xAD (Int.ofNat_lt.mpr h)) c
     ·exact h
    refine ite2 (λd=>absurd d (by decide)) (λ_=>?_);exact⟨hP6,sx6,ml,ms,_,_,e6,nml,hnd,hlt,hcl,.inl c',rfl⟩
  ·rw[xAu];rintro σ H6 ⟨hP6,sx6,ml,ms,s9,s10,e6,nml,hnd,hlt,hcl,hor,rfl⟩;refine hD _ _ ⟨hP6,sx6,ml,ms,_,_,e6,hnd,hlt,hcl,?_,rfl⟩;rcases hor with h|h
   ·exact h
   ·have hall:∀x∈List.range n,x∈ms:=λx hx=>by
     have hx:=xAt.mp hx;by_cases c:spot<=x
     ·have:=h (x-spot) (by lia);rw[show spot+(x-spot)=x by lia,Nat.mod_eq_of_lt hx]at this;exact this
     ·have:=h (x+n-spot) (by lia);rw[show spot+(x+n-spot)=x+n by lia,Nat.add_mod_right,Nat.mod_eq_of_lt hx]at this;exact this
    have:=ybk (List.nodup_range) hall;rw[xAy]at this;rw[show n-ms.length=0 by lia,Nat.pow_zero];exact hL1
end
end My
end
section
namespace My
open PySem L2 Dg
theorem zef{α:Type}[DecidableEq α]:∀ {l s:List α},l.Nodup->(∀x∈l,x∈s)->s.length<=l.length->l.Perm s
 | [],s,_,_,h=>by rw[xBn.mp (Nat.le_zero.mp h)]
 |x::l,s,hd,hs,hl=>by
  have hd':=xBd.mp hd;have hx:=hs x (xA7 ..);have h1:=List.perm_cons_erase hx;refine List.Perm.trans (List.Perm.cons x (zef hd'.2 (λy hy=>?_) ?_)) h1.symm
  ·exact(List.mem_erase_of_ne (λe=>hd'.1 (by rw[<-e];exact hy))).mpr (hs y (xAb _ hy))
  ·rw[xBI hx];rw[xAo]at hl
   lia
theorem zfv{α:Type}{f:Nat->α->α}{ws:List α}(hw:ws.Nodup):∀ {cs:List Nat},cs.Nodup->(∀c∈cs,∀c'∈cs,∀u∈ws,∀v∈ws,f c u=f c' v->c=c'/\u=v)->(cs.flatMap λc=>ws.map (f c)).Nodup
 | [],_,_=>List.nodup_nil
 |c::cs,hc,h=>by
  have hc':=xBd.mp hc;rw[List.flatMap_cons,List.nodup_append];refine⟨?_,zfv hw hc'.2 λa ha b hb=>h a (xAb _ ha) b (xAb _ hb),λx hx y hy e=>?_⟩
  ·rw[List.Nodup,xAJ];exact xBJ (λ{u v} hu hv ne e=>ne (h c (xA7 ..) c (xA7 ..) u hu v hv e).2) hw
  ·obtain⟨u,hu,rfl⟩:=xA9.mp hx;obtain⟨c',hc2,h2⟩:=List.mem_flatMap.mp hy;obtain⟨v,hv,rfl⟩:=xA9.mp h2;have:=(h c (xA7 ..) c' (xAb _ hc2) u hu v hv e).1;rw[this]at hc';exact hc'.1 hc2
def allK(cs:List Nat):Nat->List (List Nat)
 |0=>[[]]
 |k+1=>(allK cs k).flatMap λv=>cs.map λc=>v++[c]
theorem yel(cs:List Nat):∀k,(allK cs k).length=cs.length^k
 |0=>rfl
 |k+1=>by
  show(List.flatMap _ _).length=_;rw[List.length_flatMap,show(List.map (λv=>(cs.map λc=>v++[c]).length) (allK cs k))=(allK cs k).map λ_=>cs.length from xAL λ_ _=>xA1 _];rw[List.map_const',List.sum_replicate_nat,yel cs k,xB5]
theorem yc9(cs:List Nat):∀ {k:Nat} {v:List Nat},v.length=k->(∀x∈v,x∈cs)->v∈allK cs k
 |0,v,h,_=>by rw[xBn.mp h];exact xAl.mpr rfl
 |k+1,v,h,hx=>by
  rcases List.eq_nil_or_concat v with rfl |⟨u,c,rfl⟩
  ·cases h
  ·rw[List.concat_eq_append]at h hx ⊢;rw[xAB,List.length_singleton]at h;exact List.mem_flatMap.mpr ⟨u,yc9 cs (by lia) λx hx'=>hx x (xAT _ hx'),xA9.mpr ⟨c,hx c (xAg _ (xAl.mpr rfl)),rfl⟩⟩
section
variable {p m t few:Nat} (G:Good p m t)
include G
theorem zel{x y:Nat}(hx:x∈lets p m t few)(hy:y∈lets p m t few):add p m x y∈lets p m t few:=by
 have bx:=yaT x hx;have b_y:=yaT y hy;rw[zaW G bx]at hx;rw[zaW G b_y]at hy;rw[zaW G (yaW G.hp G.hm _ _),G.frobN few bx b_y,hx,hy]
theorem yeg{x y:Nat}(hx:x∈lets p m t few)(hy:y∈lets p m t few):mul p m t x y∈lets p m t few:=by
 have bx:=yaT x hx;have b_y:=yaT y hy;rw[zaW G bx]at hx;rw[zaW G b_y]at hy;rw[zaW G (yaz G.hp G.hm _ _),ycM G.hp G.hm,hx,hy]
theorem ygi{root n:Nat}{marks:List Nat}(W:Whl p m t few root n marks):∀x∈mkL p m t root marks,x∈lets p m t few:=λx hx=>by
 have h1:=zay G.hp G.hm;rw[zaW G (ydJ G marks x hx)];refine zfK G W (ydJ G marks) (λk hk=>ydc G hk) (λy hy=>?_) x hx;have ml:=zb1 p m t root marks;have e:(mkL p m t root marks).drop marks.length=[1]:=by
  refine List.ext_getElem (by rw[List.length_drop,ml,List.length_singleton];lia) λi a1 a2=>?_
  have:i=0:=by rw[List.length_singleton]at a2;lia
  subst this;have:=zex G root marks;rw[xAi,xAc (by lia)]at this;rw[List.getElem_drop]
  simpa using this
 rw[e]at hy;rw[xAl.mp hy,yb7 G.hp G.hm]
theorem zcf{root n:Nat}{marks:List Nat}(W:Whl p m t few root n marks):∀k,∀u∈lwL p m t root n marks few k,∀x∈u,x∈lets p m t few
 |0,u,hu,x,hx=>by
  cases xAl.mp hu;rw[List.eq_of_mem_replicate hx,zaW G (zam G.hp G.hm)];obtain⟨q,e⟩:∃q,p^few=q+1:=⟨p^few-1,by have:0<p^few:=xBf (by have:=G.hp;lia);lia⟩
  rw[e];exact ybj G.hp G.hm q
 |k+1,u,hu,x,hx=>by
  have z:(0:Nat)∈lets p m t few:=zcf W 0 _ (xAl.mpr rfl) 0 (List.mem_replicate.mpr ⟨by have:=W.ord.pos;lia,rfl⟩);obtain⟨c,hc,h2⟩:=List.mem_flatMap.mp hu;obtain⟨v,hv,rfl⟩:=xA9.mp h2;obtain⟨i,hi,rfl⟩:=xA9.mp hx;have hi:=xAt.mp hi;have h3:∀ {l:List Nat} {j:Nat},(∀y∈l,y∈lets p m t few)->l.getD j 0∈lets p m t few:=λ{l j} h=>by
   by_cases hj:j<l.length
   ·rw[show l.getD j 0=l[j] by simp[List.getD,hj]];exact h _ (xBB hj)
   ·rw[show l.getD j 0=0 by simp[List.getD,Nat.le_of_not_lt hj]];exact z
  refine zel G (h3 (zcf W k v hv)) (h3 λy hy=>?_);obtain⟨j,_,rfl⟩:=xA9.mp hy;refine yeg G hc (h3 λy hy=>?_);unfold mvL padL at hy;simp only[xAr,List.mem_replicate]at hy;rcases hy with(⟨_,rfl⟩|hy) |⟨_,rfl⟩
  ·exact z
  ·exact ygi G W y hy
  ·exact z
theorem ya0{n i:Nat}{xs ys:List Nat}(h1:xs.length=n)(h2:ys.length=n)(hi:i<n):(addL p m xs ys).getD i 0=add p m (xs.getD i 0) (ys.getD i 0):=by
 unfold addL;rw[xAi,xAd,xB7 (by lia)];rfl
theorem zbw{c n i:Nat}{xs:List Nat}(h1:xs.length=n)(hi:i<n):(zaz p m t c xs).getD i 0=mul p m t c (xs.getD i 0):=by
 unfold zaz;rw[xAi,xAd,xB7 (by lia)];rfl
theorem yhz{root n k:Nat}{marks:List Nat}(hk:k<n-marks.length):(mvL p m t root n marks k).getD (marks.length+k) 0=1:=by
 unfold mvL padL;have ml:=zb1 p m t root marks;rw[xAi,xBt (by rw[xAB,xBH,ml];lia),xB0 (by rw[xBH];lia),xBH,show marks.length+k-k=marks.length by lia,<-xAi,zex G]
theorem yho{root n k i:Nat}{marks:List Nat}(hi:marks.length+k<i):(mvL p m t root n marks k).getD i 0=0:=by
 unfold mvL padL;have ml:=zb1 p m t root marks;rw[xAi,xB0 (by rw[xAB,xBH,ml];lia)];by_cases h:i-(List.replicate k 0++mkL p m t root marks).length<n-k-(marks.length+1)
 ·rw[List.getElem?_replicate,if_pos h];rfl
 ·rw[List.getElem?_replicate,if_neg h];rfl
theorem zd7{root n:Nat}{marks:List Nat}:∀k,k<=n-marks.length->∀u∈lwL p m t root n marks few k,∀i,marks.length+k<=i->u.getD i 0=0
 |0,_,u,hu,i,_=>by
  cases xAl.mp hu;rw[xAi,List.getElem?_replicate];split <;> rfl
 |k+1,hk,u,hu,i,hi=>by
  obtain⟨c,hc,h2⟩:=List.mem_flatMap.mp hu;obtain⟨v,hv,rfl⟩:=xA9.mp h2;have hv1:=(zcC (root:=root) (marks:=marks) (few:=few) G k (by lia) v hv).1;have lp:(zaz p m t c (mvL p m t root n marks k)).length=n:=by rw[za6];exact zdE (by lia)
  by_cases hin:i<n
  ·rw[ya0 G hv1 lp hin,zd7 k (by lia) v hv i (by lia),zbw G (zdE (by lia)) hin,yho G (by lia),mul_zero G.hp G.hm,add_zero G.hp G.hm (zam G.hp G.hm)]
  ·rw[xAi,List.getElem?_eq_none (by rw[zbe hv1 lp];lia)];rfl
theorem ydf{root n:Nat}{marks:List Nat}:∀k,k<=n-marks.length->(lwL p m t root n marks few k).Nodup
 |0,_=>xBd.mpr ⟨xAf,List.nodup_nil⟩
 |k+1,hk=>by
  have hp:=G.hp;have hm:=G.hm;refine zfv (ydf k (by lia)) (xBM _ (List.pairwise_lt_range.imp λh=>by lia)) λc hc c' hc' u hu v hv e=>?_
  have hu1:=zcC (root:=root) (marks:=marks) (few:=few) G k (by lia) u hu;have hv1:=zcC (root:=root) (marks:=marks) (few:=few) G k (by lia) v hv;have lm:(mvL p m t root n marks k).length=n:=zdE (by lia);have lp:∀c,(zaz p m t c (mvL p m t root n marks k)).length=n:=λc=>by rw[za6];exact lm
  have at_:∀i,i<n->add p m (u.getD i 0) (mul p m t c ((mvL p m t root n marks k).getD i 0))=add p m (v.getD i 0) (mul p m t c' ((mvL p m t root n marks k).getD i 0)):=λi hi=>by
   have:=congrArg (λl:List Nat=>l.getD i 0) e
   try dsimp only at this
   rw[ya0 G hu1.1 (lp c) hi,ya0 G hv1.1 (lp c') hi,zbw G lm hi,zbw G lm hi]at this;exact this
  have ec:c=c':=by
   have:=at_ (marks.length+k) (by lia);rw[yhz G (by lia),zd7 G k (by lia) u hu _ (xA5 _),zd7 G k (by lia) v hv _ (xA5 _),mul_one hp hm (yaT c hc),mul_one hp hm (yaT c' hc'),zero_add hp hm (yaT c hc),zero_add hp hm (yaT c' hc')]at this;exact this
  subst ec;refine⟨rfl,List.ext_getElem (hu1.1.trans hv1.1.symm) λi a1 a2=>?_⟩;have h1:=at_ i (by lia);have g:∀ {l:List Nat} (h:i<l.length),l.getD i 0=l[i]:=λh=>by simp[List.getD,h]
  rw[g a1,g a2]at h1;have h2:=congrArg (λx=>sub p m x (mul p m t c ((mvL p m t root n marks k).getD i 0))) h1
  rwa [ya4 hp hm (hu1.2.1 _ (xBB a1)),ya4 hp hm (hv1.2.1 _ (xBB a2))]at h2
end
end My
end
section
namespace My
open PySem L2 Dg
theorem ydx{α:Type}(P Q:α->Bool):∀l:List α,(l.filter P).length+(l.filter Q).length=(l.filter λx=>P x||Q x).length+(l.filter λx=>P x&&Q x).length
 | []=>rfl
 |x::l=>by
  have ih:=ydx P Q l;cases hP:P x <;> cases hQ:Q x <;> simp only[xBx,hP,hQ,Bool.or_self,Bool.and_self,Bool.or_true,Bool.or_false,Bool.and_true,Bool.and_false,xBK,if_true,if_false,xAo] <;> lia
theorem zbE{n:Nat}{l:List Nat}(ha:l.Pairwise (· < ·))(h:∀x∈l,x<n):l.length=((List.range n).filter λx=>decide (x∈l)).length:=by
 have nd:∀ {l:List Nat},l.Pairwise (· < ·)->l.Nodup:=λh=>h.imp λh=>xAq h
 refine Nat.le_antisymm (ybk (nd ha) λx hx=>xAU.mpr ⟨xAt.mpr (h x hx),xAD hx⟩) (ybk (xBM _ List.nodup_range) λx hx=>xAn (xAU.mp hx).2)
theorem ya7{n:Nat}{l:List Nat}(h:l.Pairwise (· < ·))(h2:∀x∈l,x<n):l.length<=n:=by
 have:=ybk (h.imp λh=>xAq h:l.Nodup) (l':=List.range n) λx hx=>xAt.mpr (h2 x hx)
 rwa [xAy]at this
theorem yeo{n:Nat}{A B U J:List Nat}(hA:A.Pairwise (· < ·))(hB:B.Pairwise (· < ·))(hU:U.Pairwise (· < ·))(hJ:J.Pairwise (· < ·))(a:∀x∈A,x<n)(b:∀x∈B,x<n)(u:∀x,x∈U↔x∈A\/x∈B)(j:∀x,x∈J↔x∈A/\x∈B):A.length+B.length=U.length+J.length:=by
 rw[zbE hA a,zbE hB b,zbE hU (λx hx=>((u x).mp hx).elim (a x) (b x)),zbE hJ (λx hx=>a x ((j x).mp hx).1),ydx];congr 2
 ·refine congrArg (λP=>List.filter P _) (funext λx=>?_);rw[<-Bool.decide_or];exact decide_eq_decide.mpr (u x).symm
 ·refine congrArg (λP=>List.filter P _) (funext λx=>?_);rw[<-Bool.decide_and];exact decide_eq_decide.mpr (j x).symm
theorem zdF{α:Type}(P:α->Bool):∀l:List α,l.length=(l.filter P).length+(l.filter λx=>!P x).length
 | []=>rfl
 |x::l=>by
  have ih:=zdF P l;cases hP:P x <;> simp only[xBx,hP,Bool.not_true,Bool.not_false,xBK,if_true,if_false,xAo] <;> lia
theorem zet{α β:Type}[DecidableEq β]{f:α->β}{N:Nat}:∀ {T:List β} {P:List α},(∀x∈P,f x∈T)->(∀y,(P.filter λx=>decide (f x=y)).length<=N)->P.length<=T.length*N
 | [],P,h,_=>by
  cases P with
  |nil=>exact xAR _
  |cons x P=>exact absurd (h x xA7) xAf
 |y::T,P,h,hN=>by
  have h1:=zet (T:=T) (P:=P.filter λx=>!decide (f x=y)) (λx hx=>by
   obtain⟨h2,h3⟩:=xAU.mp hx;rcases xAa.mp (h x h2) with e|e
   ·rw[xAD e]at h3;cases h3
   ·exact e) λz=>by
   refine xAz ?_ (hN z);rw[List.filter_filter];refine List.Sublist.length_le ?_;rw[<-List.filter_filter];refine List.Sublist.filter _ List.filter_sublist
  have h2:=hN y;have h3:P.length=(P.filter λx=>decide (f x=y)).length+(P.filter λx=>!decide (f x=y)).length:=by
   exact zdF (λx=>decide (f x=y)) P
  rw[xAo,Nat.succ_mul]
  lia
section
variable {p m t:Nat} (G:Good p m t)
include G
theorem zgU{few root n fr:Nat}{marks:List Nat}(W:Whl p m t few root n marks)(hfr:fr+marks.length=n){u:List Nat}(hl:u.length=n)(hu:∀x∈u,x∈lets p m t few)(hz:∀k∈marks,val p m t (pw p m t root k) u=0):u∈lwL p m t root n marks few fr:=by
 have hok:=zcC (root:=root) (marks:=marks) (n:=n) (few:=few) G fr (by lia);have hP:((lwL p m t root n marks few fr).map (List.drop marks.length)).Perm (allK (lets p m t few) fr):=by
  refine zef ?_ (λv hv=>?_) (by rw[yel,xA1,yc7];exact xA5 _)
  ·rw[List.Nodup,xAJ];refine xBJ (λ{a b} ha hb ne e=>ne ?_) (ydf G fr (by lia));exact zcl G W ((hok a ha).1.trans (hok b hb).1.symm) (hok a ha).2.1 (hok b hb).2.1 e (hok a ha).2.2 (hok b hb).2.2
  ·obtain⟨v',hv',rfl⟩:=xA9.mp hv;exact yc9 _ (by rw[List.length_drop,(hok v' hv').1];lia) λx hx=>zcf G W fr v' hv' x (List.mem_of_mem_drop hx)
 obtain⟨v,hv,e⟩:=xA9.mp (hP.mem_iff.mpr (yc9 _ (show(u.drop marks.length).length=fr by rw[List.length_drop];lia) λx hx=>hu x (List.mem_of_mem_drop hx)));have:=zcl G W ((hok v hv).1.trans hl.symm) (hok v hv).2.1 (λx hx=>yaT x (hu x hx)) e (hok v hv).2.2 hz;rw[<-this];exact hv
theorem zhz{few root n fr:Nat}{marks:List Nat}(W:Whl p m t few root n marks)(hfr:fr+marks.length=n)(u:List Nat):u∈lwL p m t root n marks few fr↔u.length=n/\(∀x∈u,x∈lets p m t few)/\∀k∈marks,val p m t (pw p m t root k) u=0:=by
 refine⟨λh=>?_,λh=>zgU G W hfr h.1 h.2.1 h.2.2⟩;have hok:=zcC (root:=root) (marks:=marks) (n:=n) (few:=few) G fr (by lia) u h;exact⟨hok.1,zcf G W fr u h,hok.2.2⟩
theorem yge{few:Nat}:sub p m 0 1∈lets p m t few:=by
 have hp:=G.hp;have hm:=G.hm;have h1:=zay hp hm;have h0:=zam hp hm;have bs:=zcY hp hm 0 1;rw[zaW G bs];obtain⟨q,eq⟩:∃q,p^few=q+1:=⟨p^few-1,by have:0<p^few:=xBf (by lia);lia⟩
 have e:=G.frobN few bs h1;rw[zb2 hp hm h0,yb7 hp hm,eq,ybj hp hm,<-eq]at e;have:=ya4 hp hm (x:=pw p m t (sub p m 0 1) (p^few)) (y:=1) (yaS hp hm _ _);rw[<-e]at this;exact this.symm
theorem yeh{x:Nat}(hx:x<p^m):add p m x (mul p m t (sub p m 0 1) x)=0:=by
 have hp:=G.hp;have hm:=G.hm;have h:=mul_add hp hm (t:=t) x 1 (sub p m 0 1);rw[add_comm hp hm,zb2 hp hm (zam hp hm),mul_zero hp hm,mul_one hp hm hx,mul_comm hp hm]at h;exact h.symm
def dif(p m t:Nat)(a b:List Nat):List Nat:=addL p m a (zaz p m t (sub p m 0 1) b)
noncomputable def CW(p m t root n few:Nat)(M:List Nat)(u:List Nat):Prop:=u.length=n/\(∀x∈u,x∈lets p m t few)/\∀k∈M,val p m t (pw p m t root k) u=0
theorem CW.lt{root n few:Nat}{M u:List Nat}(h:CW p m t root n few M u):∀x∈u,x<p^m:=λx hx=>yaT x (h.2.1 x hx)
theorem ybS{l:List Nat}{i:Nat}(h:i<l.length):l.getD i 0∈l:=by
 rw[show l.getD i 0=l[i] by simp[List.getD,h]];exact xBB h
theorem CW.add{root n few:Nat}{M M' u v:List Nat}(hu:CW p m t root n few M u)(hv:CW p m t root n few M v):CW p m t root n few M (addL p m u v):=by
 refine⟨zbe hu.1 hv.1,λx hx=>?_,λk hk=>?_⟩
 ·obtain⟨i,hi,rfl⟩:=xA9.mp hx;have hi:=xAt.mp hi;exact zel G (hu.2.1 _ (ybS G (by lia))) (hv.2.1 _ (ybS G (by lia)))
 ·rw[ydd G (yaS G.hp G.hm _ _) hu.1 hv.1 (hu.lt G) (hv.lt G),hu.2.2 k hk,hv.2.2 k hk,add_zero G.hp G.hm (zam G.hp G.hm)]
theorem CW.dif{root n few:Nat}{M u v:List Nat}(hu:CW p m t root n few M u)(hv:CW p m t root n few M v):CW p m t root n few M (dif p m t u v):=by
 refine CW.add G (M':=M) hu ⟨by rw[za6];exact hv.1,λx hx=>?_,λk hk=>?_⟩
 ·obtain⟨i,hi,rfl⟩:=xA9.mp hx;have hi:=xAt.mp hi;exact yeg G (yge G) (hv.2.1 _ (ybS G (by lia)))
 ·rw[zcn G (yaS G.hp G.hm _ _) (hv.lt G),hv.2.2 k hk,mul_zero G.hp G.hm]
theorem CW.sub{root n few:Nat}{M M' u:List Nat}(h:CW p m t root n few M u)(hs:∀k∈M',k∈M):CW p m t root n few M' u:=⟨h.1,h.2.1,λk hk=>h.2.2 k (hs k hk)⟩
theorem add4(a b c d:Nat):add p m (add p m a b) (add p m c d)=add p m (add p m a c) (add p m b d):=by
 have hp:=G.hp;have hm:=G.hm;rw[add_assoc hp hm,add_assoc hp hm,<-add_assoc hp hm b,<-add_assoc hp hm c,add_comm hp hm b c]
theorem yh1{x y x0 y0:Nat}(hx:x<p^m)(hy:y<p^m)(hx0:x0<p^m)(hy0:y0<p^m)(e:add p m x y=add p m x0 y0):add p m x (mul p m t (sub p m 0 1) x0)=add p m y0 (mul p m t (sub p m 0 1) y):=by
 have hp:=G.hp;have hm:=G.hm;have b1:=yaW hp hm x (mul p m t (sub p m 0 1) x0);have b2:=yaW hp hm y0 (mul p m t (sub p m 0 1) y);have n1:=yeh G hy;have n2:=yeh G hx0;generalize sub p m 0 1=c at *;rw[<-add_zero hp hm b1,<-n1,add4 G,e,add4 G,n2,zero_add hp hm b2]
theorem ygy{x y z:Nat}(hx:x<p^m)(hy:y<p^m)(e:add p m x z=add p m y z):x=y:=by
 have:=congrArg (λu=>sub p m u z) e
 try dsimp only at this
 rwa [ya4 G.hp G.hm hx,ya4 G.hp G.hm hy]at this
theorem ydl{n:Nat}{u v:List Nat}(hu:u.length=n)(hv:v.length=n)(h:∀i,i<n->u.getD i 0=v.getD i 0):u=v :=
 List.ext_getElem (hu.trans hv.symm) λi a b=>by
  have:=h i (by lia)
  rwa [show u.getD i 0=u[i] by simp[List.getD,a],show v.getD i 0=v[i] by simp[List.getD,b]]at this
section
variable {root n few:Nat} {A B:List Nat}
theorem CW.at_lt{u:List Nat}(h:CW p m t root n few A u){i:Nat}(hi:i<n):u.getD i 0<p^m:=h.lt G _ (ybS G (by rw[h.1];exact hi))
theorem zc9{u v:List Nat}(hu:u.length=n)(hv:v.length=n){i:Nat}(hi:i<n):(dif p m t u v).getD i 0=add p m (u.getD i 0) (mul p m t (sub p m 0 1) (v.getD i 0)):=by
 unfold dif;rw[ya0 G hu (by rw[za6];exact hv) hi,zbw G hv hi]
theorem ygS{u v w:List Nat}(hu:CW p m t root n few A u)(hv:CW p m t root n few A v)(hw:CW p m t root n few A w)(e:dif p m t u w=dif p m t v w):u=v:=by
 refine ydl G hu.1 hv.1 λi hi=>?_
 have h:=congrArg (λl:List Nat=>l.getD i 0) e
 try dsimp only at h
 rw[zc9 G hu.1 hw.1 hi,zc9 G hv.1 hw.1 hi]at h;exact ygy G (hu.at_lt G hi) (hv.at_lt G hi) h
theorem zgp{a b a0 b0:List Nat}(ha:CW p m t root n few A a)(hb:CW p m t root n few B b)(ha0:CW p m t root n few A a0)(hb0:CW p m t root n few B b0)(e:addL p m a b=addL p m a0 b0):dif p m t a a0=dif p m t b0 b:=by
 refine ydl G (n:=n) (zbe ha.1 (by rw[za6];exact ha0.1)) (zbe hb0.1 (by rw[za6];exact hb.1)) λi hi=>?_
 have h:=congrArg (λl:List Nat=>l.getD i 0) e
 try dsimp only at h
 rw[ya0 G ha.1 hb.1 hi,ya0 G ha0.1 hb0.1 hi]at h;rw[zc9 G ha.1 ha0.1 hi,zc9 G hb0.1 hb.1 hi];exact yh1 G (ha.at_lt G hi) (hb.at_lt G hi) (ha0.at_lt G hi) (hb0.at_lt G hi) h
theorem zgS{a b b':List Nat}(ha:CW p m t root n few A a)(hb:CW p m t root n few B b)(hb':CW p m t root n few B b')(e:addL p m a b=addL p m a b'):b=b':=by
 refine ydl G hb.1 hb'.1 λi hi=>?_
 have h:=congrArg (λl:List Nat=>l.getD i 0) e
 try dsimp only at h
 rw[ya0 G ha.1 hb.1 hi,ya0 G ha.1 hb'.1 hi,add_comm G.hp G.hm _ (b.getD i 0),add_comm G.hp G.hm _ (b'.getD i 0)]at h;exact ygy G (hb.at_lt G hi) (hb'.at_lt G hi) h
end
theorem ydA{root n few:Nat}{M:List Nat}(W:Whl p m t few root n M)(hl:M.length<=n)(u:List Nat):u∈lwL p m t root n M few (n-M.length)↔CW p m t root n few M u:=zhz G W (by lia) u
theorem yb0{root n few:Nat}{M:List Nat}(W:Whl p m t few root n M):(lwL p m t root n M few (n-M.length)).length=(p^few)^(n-M.length):=by rw[yc7,zgK G W.fewm W.few1]
theorem zgr{root n few:Nat}{A B U J:List Nat}(WA:Whl p m t few root n A)(WB:Whl p m t few root n B)(WU:Whl p m t few root n U)(WJ:Whl p m t few root n J)(u:∀x,x∈U↔x∈A\/x∈B)(j:∀x,x∈J↔x∈A/\x∈B)(w:List Nat) :
  CW p m t root n few J w↔∃a b,CW p m t root n few A a/\CW p m t root n few B b/\w=addL p m a b:=by
 have hA:=ya7 WA.asc WA.lt;have hB:=ya7 WB.asc WB.lt;have hU:=ya7 WU.asc WU.lt;have hJ:=ya7 WJ.asc WJ.lt;have h4:=yeo WA.asc WB.asc WU.asc WJ.asc WA.lt WB.lt u j;have up:∀ {a b},CW p m t root n few A a->CW p m t root n few B b->CW p m t root n few J (addL p m a b):=λha hb=>CW.add G (M':=J) (ha.sub G λk hk=>((j k).mp hk).1) (hb.sub G λk hk=>((j k).mp hk).2)
 refine⟨λhw=>Classical.byContradiction λhn=>?_,λ⟨a,b,ha,hb,e⟩=>e ▸ up ha hb⟩;have ndA:=ydf (root:=root) (marks:=A) (few:=few) (n:=n) G (n-A.length) (xA5 _);have ndB:=ydf (root:=root) (marks:=B) (few:=few) (n:=n) G (n-B.length) (xA5 _);have ndU:=ydf (root:=root) (marks:=U) (few:=few) (n:=n) G (n-U.length) (xA5 _);have ndJ:=ydf (root:=root) (marks:=J) (few:=few) (n:=n) G (n-J.length) (xA5 _);have iA:=ydA G WA hA;have iB:=ydA G WB hB;have iU:=ydA G WU hU;have iJ:=ydA G WJ hJ;have zA:=yb0 G WA;have zB:=yb0 G WB;have zU:=yb0 G WU;have zJ:=yb0 G WJ;generalize lwL p m t root n A few (n-A.length)=LA at *;generalize lwL p m t root n B few (n-B.length)=LB at *;generalize lwL p m t root n U few (n-U.length)=LU at *;generalize lwL p m t root n J few (n-J.length)=LJ at *;have hwJ:=(iJ w).mpr hw;have key:=zet (f:=λx:List Nat×List Nat=>addL p m x.1 x.2) (N:=LU.length) (T:=LJ.erase w) (P:=LA.flatMap λa=>LB.map λb=>(a,b)) (λx hx=>?_) (λy=>?_)
 ·have l1:(LA.flatMap λa=>LB.map λb=>(a,b)).length=LA.length*LB.length:=by
   rw[List.length_flatMap,show(LA.map λa=>(LB.map λb=>(a,b)).length)=LA.map λ_=>LB.length from xAL λa _=>by rw[xA1],List.map_const',List.sum_replicate_nat]
  rw[l1,xBI hwJ,zA,zB,<-Nat.pow_add,show n-A.length+(n-B.length)=(n-J.length)+(n-U.length) by lia,Nat.pow_add,<-zU,<-zJ]at key;have p1:0<LJ.length:=xBS hwJ;have p2:0<LU.length:=by rw[zU];exact xBf (xBf (by have:=G.hp;lia))
  have:=Nat.mul_lt_mul_of_pos_right (show LJ.length-1<LJ.length by lia) p2
  lia
 ·obtain⟨a,ha,h2⟩:=List.mem_flatMap.mp hx;obtain⟨b,hb,rfl⟩:=xA9.mp h2;refine(List.mem_erase_of_ne λe=>hn ⟨a,b,(iA a).mp ha,(iB b).mp hb,e.symm⟩).mpr ((iJ _).mpr (up ((iA a).mp ha) ((iB b).mp hb)))
 ·have hF:∀x∈(LA.flatMap λa=>LB.map λb=>(a,b)).filter (λx=>decide (addL p m x.1 x.2=y)),CW p m t root n few A x.1/\CW p m t root n few B x.2/\addL p m x.1 x.2=y:=λx hx=>by
   obtain⟨h1,h2⟩:=xAU.mp hx;obtain⟨a,ha,h3⟩:=List.mem_flatMap.mp h1;obtain⟨b,hb,rfl⟩:=xA9.mp h3;exact⟨(iA a).mp ha,(iB b).mp hb,xAn h2⟩
  have nd:((LA.flatMap λa=>LB.map λb=>(a,b)).filter (λx=>decide (addL p m x.1 x.2=y))).Nodup:=by
   refine xBM _ ?_;refine List.pairwise_flatMap.mpr ⟨λa _=>?_,?_⟩
   ·rw[xAJ];exact ndB.imp λh e=>h (congrArg Prod.snd e)
   ·refine ndA.imp λ{a a'} h x hx y hy e=>h ?_
    obtain⟨b,_,rfl⟩:=xA9.mp hx;obtain⟨b',_,rfl⟩:=xA9.mp hy;exact congrArg Prod.fst e
  generalize (LA.flatMap λa=>LB.map λb=>(a,b)).filter (λx=>decide (addL p m x.1 x.2=y))=F at hF nd ⊢;cases F with
  |nil=>exact xAR _
  |cons x0 F=>
   obtain⟨ha0,hb0,e0⟩:=hF x0 xA7;have h1:=zbN (σ:=(x0::F).map λx=>dif p m t x.1 x0.1) (τ:=LU) ?_ ?_
   ·rwa [xA1]at h1
   ·rw[List.Nodup,xAJ];refine xBJ (λ{x y'} hx hy ne e=>ne ?_) nd;obtain⟨xa,xb,ex⟩:=hF x hx;obtain⟨ya,yb,ey⟩:=hF y' hy;have e1:=ygS G xa ya ha0 e;have e2:=zgS G xa xb yb (by rw[ex,<-ey,e1]);exact Prod.ext e1 e2
   ·intro d hd;obtain⟨x,hx,rfl⟩:=xA9.mp hd;obtain⟨xa,xb,ex⟩:=hF x hx;have d1:=CW.dif G xa ha0;have d2:=CW.dif G hb0 xb;rw[<-zgp G xa xb ha0 hb0 (ex.trans e0.symm)]at d2;exact(iU _).mpr ⟨d1.1,d1.2.1,λk hk=>((u k).mp hk).elim (d1.2.2 k) (d2.2.2 k)⟩
end
end My
end
section
namespace My
open PySem L2 Dg
theorem ydk{ns':List Int}{xs:List Nat}(ha:ns'.Pairwise (· < ·))(h:∀k,k∈ns'↔k∈xs.map λn:Nat=>(n:Int)):∃ms:List Nat,ns'.map V.int=ms.map Vn/\ms.Pairwise (· < ·)/\∀x,x∈ms↔x∈xs:=by
 have hn:∀k∈ns',((k.toNat:Nat):Int)=k:=λk hk=>by
  obtain⟨y,_,rfl⟩:=xA9.mp ((h k).mp hk);rfl
 refine⟨ns'.map Int.toNat,?_,?_,λx=>?_⟩
 ·rw[xAH];exact xAL λk hk=>by show V.int k=V.int ((k.toNat:Nat):Int);rw[hn k hk]
 ·rw[xAJ];refine xBJ (λ{a b} hma hmb hab=>?_) ha;have h1:=hn a hma;have h2:=hn b hmb
  lia
 ·rw[xA9];constructor
  ·rintro⟨k,hk,rfl⟩;obtain⟨y,hy,rfl⟩:=xA9.mp ((h k).mp hk);exact hy
  ·intro hx;exact⟨(x:Int),(h _).mpr (xA9.mpr ⟨x,hx,rfl⟩),rfl⟩
section
variable {P:Program} {w:World} {mg:Str->Option Value} {base:Heap} {f:Addr} {fd:FuncData}
inductive zc4 (K:PySem.W.Frag) (vs:List V) (H:Hp) (Q:VK) (E:XK):Prop
 |mk (wa fa ml:Addr) (few root:Nat) (mv:V) (ms:List Nat) (c1:vs=[.ref wa,.ref ml]) (c2:SqT K H wa [.ref fa,Vn few,Vn root,mv]) (c3:SqL K H ml (ms.map Vn)) (c4:∀r mk H',Same H H'->WhAt H' r fa mk few root ms->Q (.ref r) H'):zc4 K vs H Q E
theorem zaE:yag ["wheel","marks","field","few","root","before"] ["wheel","marks"] (yac ybq):=⟨rfl,rfl,rfl,by decide +kernel,rfl,by decide +kernel,by decide +kernel⟩
theorem ygJ(B:Bl mg)(F:Fun K "with_marks" "with_marks" ybq f fd):FnOk P w K mg base CX0 1 f fd ["wheel","marks"] (zc4 K):=by
 refine F.ok zaE (λvs H Q E h=>?_) (λcdv A outer s H vs Q E hr h=>?_)
 ·obtain⟨wa,fa,ml,few,root,mv,ms,rfl,_⟩:=h;rfl
 obtain⟨wa,fa,ml,few,root,mv,ms,rfl,hw,hl,q⟩:=h;refine⟨_,(((pv 0)≈((2&&&zaE.nd)∩((3&&&zaE.nd)∩((4&&&zaE.nd)∩((5&&&zaE.nd)∩yaB)))))<=<(~~~((@yaM _ _ _ _ _ ((pv 2)>=>(pv 3)>=>(pv 4)>=>(zal<*("tuple",zaj,((pv 1)>=>zab)))>=>zab))⁻¹))),?_⟩
 try dsimp only[cxOf]
 refine⟨_,rfl,wa,_,rfl,hw,rfl,_,_,rfl,_,_,rfl,_,_,rfl,_,_,rfl,rfl,?_⟩;refine⟨_,rfl,_,rfl,_,rfl,_,rfl,ml,_,rfl,.inl ⟨hl,λmk hmk=>?_⟩⟩;refine⟨szl 4,λr hr=>?_⟩;have s1:=yaa hmk (.tup (ms.map Vn));have s2:=yaa hr (.tup [.ref fa,Vn few,Vn root,.ref mk]);exact q r mk _ (s1.trans s2) ⟨zaa,s2 _ _ zaa⟩
inductive zbW (vs:List V) (H:Hp) (Q:VK) (E:XK):Prop
 |mk (pu g mk:Addr) (n q e:Nat) (marks:List Nat) (c1:vs=[.ref pu,Vn n,Vn q,.ref mk]) (c2:Pu H pu g) (c3:H mk=some (.tup (marks.map Vn))) (c4:1<=n) (c5:n<=63) (c6:q<=64) (c7:1<=e) (c8:e<=6) (c9:q^e%n=1%n) (c10:marks.length<=64) (c11:(∀x∈marks,x<n)) (c12:marks.Pairwise (· < ·)) (c13:∀x∈marks,x*q%n∈marks) (c14:∀r (ms:List Nat) H',H' r=some (.tup (ms.map Vn))->ms.Pairwise (· < ·)->(∀x∈ms,x<n)->(∀x∈ms,x*q%n∈ms)->Pu H' pu g->zah pu g H H'->Q (.ref r) H'):zbW vs H Q E
theorem yal:yag ["_law_purse_here","_law_n","_law_q","_law_marks","_law_way","_law_spot","_law_ring_here","_law_found","_law_k"] ["_law_purse_here","_law_n","_law_q","_law_marks"] (yac zav):=⟨rfl,rfl,rfl,by decide +kernel,rfl,by decide +kernel,by decide +kernel⟩
theorem zeE(B:Bl mg)(xC3:Has P w K mg base 1 "_law_pick" ["_law_purse_here","_law_many"] zbH)(xC9:Has P w K mg base 1 "_law_ring" ["_law_i","_law_n","_law_q"] yby)(F:Fun K "_law_other_marks" "_law_other_marks" zav f fd):FnOk P w K mg base CX0 2 f fd ["_law_purse_here","_law_n","_law_q","_law_marks"] zbW:=by
 refine F.ok yal (λvs H Q E h=>?_) (λcdv A outer s H vs Q E hr h=>?_)
 ·obtain⟨pu,g,mk,n,q,e,marks,rfl,_⟩:=h;rfl
 obtain⟨pu,g,mk,n,q,e,marks,rfl,hP,hM,hn0,hn,hq,he1,he2,hqe,hml,hlt,hasc,hcl,ret⟩:=h;refine⟨_,((@zbj _ _ 4 5 _ _ _ _ _ _ _ _ _ _ _ rfl yal.nd rfl rfl (by decide) rfl rfl ((xC3<$>((pv 0)>=>yab>=>zab))>=>(xC3<$>((pv 0)>=>(pv 1)>=>zab))>=>zab) rfl ⋯)<=<(6<|>yal.nd<|>(xC9<$>((pv 5)>=>(pv 1)>=>(pv 2)>=>zab)))<=<((zbg∪(pv 4)∪yab)*>((~~~((@yaM _ _ _ _ _ zab)⁻¹)),yam))<=<((zbg∪(pv 4)∪yab)*>((~~~(((zcI rfl)<*("tuple",zaj,((@zcj _ _ _ _ _ rfl (B "range" (by decide)) ((pv 1)>=>zab) ⋯)>=>zab)))⁻¹)),yam))<=<((zbg∪(pv 4)∪yab)*>((~~~((zal<*("tuple",zaj,((@zbZ _ _ _ _ _ _ _ rfl rfl (B "sorted" (by decide)) rfl (B "set" (by decide)) (ycR|||(zb4<*("list",zaY,((pv 3)>=>zab)))|||(pv 6)) ⋯ ⋯)>=>zab)))⁻¹)),yam))<=<((zbg∪(pv 4)∪yab)*>((~~~((zal<*("tuple",zaj,((["_law_mark"]⊆(["_law_ring_here"],[6],["_law_purse_here","_law_n","_law_q","_law_marks","_law_way","_law_spot","_law_ring_here","_law_found","_law_k"],zav,(@zem _ _ _ _ (pv 3)),(0⊇["_law_mark","_law_ring_here"]),(@zaS _ _ _ (@zbL _ _ _ _ _ _ _ _ (zc6 (K:=K) rfl) (pv 0) (pv 1) (by with_unfolding_all rfl))),(pv 0)))>=>zab)))⁻¹)),yam))<=<(7<|>yal.nd<|>(@yax _ _ _ _ zab))<=<((↑((yat|||yab|||(xC3<$>((pv 0)>=>(pv 1)>=>zab)))>=>zab))<&>((8&&&yal.nd),(~~~(@zbK _ _ _ _ (@ydW _ _ _ _ _ _ _ _ _ _ _ _ xBN PySem.F.slot_list_extend PySem.F.type_list_extend ydP (pv 7) ((xC9<$>((xC3<$>((pv 0)>=>(pv 1)>=>zab))>=>(pv 1)>=>(pv 2)>=>zab))>=>zab) ⋯ ⋯ ⋯ ⋯ ⋯) ⋯))))<=<(~~~((zal<*("tuple",zaj,((@zbZ _ _ _ _ _ _ _ rfl rfl (B "sorted" (by decide)) rfl (B "set" (by decide)) (pv 7) ⋯ ⋯)>=>zab)))⁻¹))),?_⟩
 try dsimp only[cxOf]
 refine⟨_,rfl,pu,g,6,rfl,hP,by decide,by decide,λway H1 hw hP1 sx1=>?_⟩;refine⟨_,rfl,_,rfl,pu,g,n,rfl,hP1,by lia,by lia,λspot H2 hat hP2 sx2=>?_⟩;refine⟨_,_,rfl,?_⟩;have nM:=hP.tup_ne hM;have sx:=sx1.trans sx2;have hM2:=sx _ _ nM.1 nM.2 hM;refine⟨_,rfl,_,rfl,_,rfl,spot,n,q,e,rfl,by lia,by lia,hq,he1,he2,hqe,λrg rs H3 s3 nrg erg h1 h2 h3 h4 h5 h6 h7=>?_⟩;have hM3:=s3 _ _ hM2;have hP3:=hP2.same s3;have sx3:=sx.trans (Same.x s3);dsimp only[yap];refine⟨_,rfl,rfl,_,rfl,?_⟩;refine ite2 (λ_=>?_) (λ_=>?_)
 ·refine⟨szl 0,λr hr=>?_⟩;exact ret r [] _ zaa .nil (λx hx=>nomatch hx) (λx hx=>nomatch hx) (hP3.same (yaa hr _)) (sx3.trans (Same.x (yaa hr _)))
 refine⟨_,rfl,rfl,_,rfl,?_⟩;refine ite2 (λ_=>?_) (λ_=>?_)
 ·refine⟨_,rfl,(n:Int),rfl,λrn hrn=>⟨rn,0,(n:Int),rfl,zaa,⟨by decide,by decide,by lia,by lia⟩,by rw[show((n:Int)-0).toNat=n by lia];exact szl _ (by lia),λr hr=>?_⟩⟩;have e1:L2.intsFrom 0 ((n:Int)-0).toNat=(List.range n).map Vn:=by
   rw[show((n:Int)-0).toNat=n by lia];unfold L2.intsFrom;refine xAL λi _=>?_
   rw[Int.zero_add]
  rw[e1];have s4:=(yaa hrn (.rng 0 (n:Int))).trans (yaa hr (.tup ((List.range n).map Vn)));exact ret r (List.range n) _ zaa List.pairwise_lt_range (λx hx=>xAt.mp hx) (λx hx=>xAt.mpr (xBh _ (by lia))) (hP3.same s4) (sx3.trans (Same.x s4))
 refine⟨_,rfl,rfl,_,rfl,?_⟩;refine ite2 (λ_=>?_) (λ_=>?_)
 ·refine⟨_,rfl,mk,_,rfl,.inr (SqT.of hM3),λl0 hl0=>?_⟩;have t0:=yaa hl0 (.lst (marks.map Vn));refine⟨_,rfl,l0,rg,_,_,rfl,rfl,zaa,t0 _ _ erg,by rw[xA1,xA1];exact szl _ (by lia),λl1 hl1=>?_⟩;rw[<-xAk];have t1:=t0.trans (yaa hl1 (.lst ((marks++rs).map Vn)));have hall:∀x∈marks++rs,x<n:=λx hx=>by
   rcases xAr.mp hx with h|h
   ·exact hlt x h
   ·exact h3 x h
  refine⟨l1,((marks++rs).map λn:Nat=>(n:Int)),rfl,SqL.of (by rw[mapI];exact zaa),by rw[xA1,xAB];lia,zeu hn hall,λl2 ns' hl2 hasc' hmem=>?_⟩;obtain⟨ms,ems,hma,hmi⟩:=ydk hasc' hmem;rw[ems];have t2:=t1.trans (yaa hl2 (.lst (ms.map Vn)));refine⟨l2,_,rfl,.inl ⟨SqL.of zaa,λr hr=>?_⟩⟩;have t3:=t2.trans (yaa hr (.tup (ms.map Vn)));exact ret r ms _ zaa hma (λx hx=>hall x ((hmi x).mp hx)) (λx hx=>(hmi _).mpr ((xAr.mp ((hmi x).mp hx)).elim (λh=>xAT _ (hcl x h)) λh=>xAg _ (h4 x h))) (hP3.same t3) (sx3.trans (Same.x t3))
 refine⟨_,rfl,rfl,_,rfl,?_⟩;refine ite2 (λ_=>?_) (λ_=>?_)
 ·refine⟨_,rfl,mk,rfl,⟨_,SqT.of hM3⟩,?_⟩;refine yao (yce (xs:=marks.map Vn)) (λk acc H'=>H'=H3/\acc=((marks.take k).filter λx=>!decide (x∈rs)).map Vn) ⟨rfl,rfl⟩ (λi acc H' _ h=>by rw[h.1];exact SqT.of hM3) ?_ ?_ ?_
  ·rintro k acc H' hk ⟨_,rfl⟩;rw[xA1]at hk;rw[xA1];have:=xBj (λx=>!decide (x∈rs)) (marks.take k);rw[xAC]at this;exact yah (by lia)
  ·rintro k acc x H' H'' hk ⟨rfl,rfl⟩ ⟨rfl,ez⟩;rw[xA1]at hk;rw[zaU hk]at ez;cases ez;have hg:marks[k]?=some (marks.getD k 0):=by simp[List.getD,hk]
   rw[zat hg,List.filter_append];refine⟨_,rfl,_,rfl,rg,_,rfl,.inl (SqL.of erg),rfl,za9 rs,_,rfl,?_⟩;have e:(!inV (Vn (marks.getD k 0)) (rs.map Vn)) = !decide (marks.getD k 0∈rs):=by rw[zbt]
   refine ite2 (λc=>?_) (λc=>?_)
   ·have c:=e.symm.trans c;refine⟨_,rfl,rfl,?_⟩;rw[xBx,if_pos c,xAk];rfl
   ·refine⟨rfl,?_⟩;rw[xBx,if_neg (by rw[<-e];exact c),List.filter_nil,xBu]
  rw[xA1,xBv];rintro acc H4 ⟨rfl,rfl⟩ D hD;refine⟨D,_,rfl,.inl ⟨SqL.of zaa,λr hr=>?_⟩⟩;have t1:=(yaa hD (.lst ((marks.filter λx=>!decide (x∈rs)).map Vn))).trans (yaa hr (.tup ((marks.filter λx=>!decide (x∈rs)).map Vn)));refine ret r _ _ zaa (xBM _ hasc) (λx hx=>hlt x (xAU.mp hx).1) (λx hx=>?_) (hP3.same t1) (sx3.trans (Same.x t1));obtain⟨hx1,hx2⟩:=xAU.mp hx;refine xAU.mpr ⟨hcl x hx1,?_⟩;rw[Bool.not_eq_true',decide_eq_false_iff_not]at hx2 ⊢;intro hr;have:=zcR h3 h4 hr (e-1);rw[Nat.mod_mul_mod,Nat.mul_assoc,<-Nat.pow_succ',show(e-1).succ=e by lia,xBP,hqe,<-xBP,Nat.mul_one,Nat.mod_eq_of_lt (hlt x hx1)]at this;exact hx2 this
 refine⟨szl 0,λfl hfl=>?_⟩;have nf:=hP3.lt hfl;have sf:=yaa hfl (.lst []);dsimp only[yap];refine⟨_,rfl,_,rfl,pu,g,n,rfl,hP3.same sf,by lia,by lia,λmn H4 hmn hP4 sx4=>?_⟩;refine⟨_,_,rfl,rfl,((1+mn:Nat):Int),by rw[show((1+mn:Nat):Int)=1+(mn:Int) by lia],by lia,by lia,?_⟩;have e4:=sx4 _ _ nf.1 nf.2 (show upd H3 fl (.lst []) fl=some (.lst []) from zaa);have sx34:zah pu g H3 H4:=(Same.x sf).trans sx4;refine zaD (lo:=0) (n:=((1+mn:Nat):Int).toNat) (λi σ H'=>Pu H' pu g/\zah pu g H3 H'/\∃(fs:List Nat) (s8:Option V),H' fl=some (.lst (fs.map Vn))/\fs.length<=6*i/\(∀x∈fs,x<n)/\(∀x∈fs,x*q%n∈fs)/\σ=[some (.ref pu),some (Vn n),some (Vn q),some (.ref mk),some (Vn way),some (Vn spot),some (.ref rg),some (.ref fl),s8]) ⟨hP4,sx34,[],none,e4,by simp,(λx hx=>nomatch hx),(λx hx=>nomatch hx),rfl⟩ ?_ ?_
 ·rintro i σ H5 hi ⟨hP5,sx5,fs,s8,e5,hfl',hfs,hfc,rfl⟩;rw[xAu]at hi;refine⟨_,rfl,.inl ⟨rfl,_,SqL.of e5⟩,_,rfl,_,rfl,pu,g,n,rfl,hP5,by lia,by lia,λat' H6 hat' hP6 sx6=>?_⟩;have e6:=sx6 _ _ nf.1 nf.2 e5;refine⟨_,rfl,_,rfl,at',n,q,e,rfl,by lia,by lia,hq,he1,he2,hqe,λrg2 rs2 H7 s7 nrg2 erg2 g1 g2 g3 g4 g5 g6 g7=>?_⟩;refine⟨fl,rg2,_,_,rfl,rfl,s7 _ _ e6,erg2,by rw[xA1,xA1];exact szl _ (by lia),?_⟩;rw[<-xAk];refine⟨(hP6.same s7).at' nf,yh6 (sx5.trans (sx6.trans (Same.x s7))) hfl,fs++rs2,_,zaa,by rw[xAB];lia,λx hx=>?_,λx hx=>?_,rfl⟩
  ·rcases xAr.mp hx with h|h
   ·exact hfs x h
   ·exact g3 x h
  ·rcases xAr.mp hx with h|h
   ·exact xAT _ (hfc x h)
   ·exact xAg _ (g4 x h)
 ·rw[xAu];rintro σ H5 ⟨hP5,sx5,fs,s8,e5,hfl',hfs,hfc,rfl⟩;refine⟨_,rfl,fl,(fs.map λn:Nat=>(n:Int)),rfl,SqL.of (by rw[mapI];exact e5),by rw[xA1];lia,zeu hn hfs,λl2 ns' hl2 hasc' hmem=>?_⟩;obtain⟨ms,ems,hma,hmi⟩:=ydk hasc' hmem;rw[ems];have t2:=yaa hl2 (.lst (ms.map Vn));refine⟨l2,_,rfl,.inl ⟨SqL.of zaa,λr hr=>?_⟩⟩;have t3:=t2.trans (yaa hr (.tup (ms.map Vn)));exact ret r ms _ zaa hma (λx hx=>hfs x ((hmi x).mp hx)) (λx hx=>(hmi _).mpr (hfc x ((hmi x).mp hx))) (hP5.same t3) ((sx3.trans sx5).trans (Same.x t3))
end
end My
end
section
namespace My
open PySem L2 Dg
def zax(A B:List Nat):List Nat:=A.filter λx=>decide (x∈B)
theorem ycu{A B:List Nat}(x:Nat):x∈zax A B↔x∈A/\x∈B:=by
 unfold zax;rw[xAU,xBk]
theorem yfU{ns':List Int}{A B:List Nat}(ha:ns'.Pairwise (· < ·))(h:∀k,k∈ns'↔k∈A.map (λn:Nat=>(n:Int))\/k∈B.map (λn:Nat=>(n:Int))):∃ms:List Nat,ns'.map V.int=ms.map Vn/\ms.Pairwise (· < ·)/\∀x,x∈ms↔x∈A\/x∈B:=by
 obtain⟨ms,h1,h2,h3⟩:=ydk (xs:=A++B) ha λk=>by rw[h,xAk,xAr]
 exact⟨ms,h1,h2,λx=>by rw[h3,xAr]⟩
section
variable {P:Program} {w:World} {mg:Str->Option Value} {base:Heap} {f:Addr} {fd:FuncData}
inductive zdQ (K:PySem.W.Frag) (vs:List V) (H:Hp) (Q:VK) (E:XK):Prop
 |mk (wa wb fa mk mk':Addr) (few root:Nat) (A B:List Nat) (c1:vs=[.ref wa,.ref wb]) (c2:WhAt H wa fa mk few root A) (c3:WhAt H wb fa mk' few root B) (c4:A.length<=64) (c5:B.length<=64) (c6:∀r mk2 (U:List Nat) H',Same H H'->WhAt H' r fa mk2 few root U->U.Pairwise (· < ·)->(∀x,x∈U↔x∈A\/x∈B)->Q (.ref r) H'):zdQ K vs H Q E
theorem yg0:yag ["one","other"] ["one","other"] (yac yff):=⟨rfl,rfl,rfl,by decide +kernel,rfl,by decide +kernel,by decide +kernel⟩
theorem yhd(B:Bl mg)(xCj:Has P w K mg base 1 "with_marks" ["wheel","marks"] (zc4 K))(F:Fun K "meet" "meet" yff f fd):FnOk P w K mg base CX0 2 f fd ["one","other"] (zdQ K):=by
 refine F.ok yg0 (λvs H Q E h=>?_) (λcdv A outer s H vs Q E hr h=>?_)
 ·obtain⟨wa,wb,fa,mk,mk',few,root,M1,M2,rfl,_⟩:=h;rfl
 obtain⟨wa,wb,fa,mk,mk',few,root,M1,M2,rfl,hA,hB,lA,lB,q⟩:=h;refine⟨_,(~~~((xCj<$>((pv 0)>=>(yfy rfl rfl (B "sorted" (by decide)) rfl (B "set" (by decide)) (zhe zaq (pv 0) yab (λ_ _=>rfl)) (zhe zaq (pv 1) yab (λ_ _=>rfl)))>=>zab))⁻¹)),?_⟩
 try dsimp only[cxOf]
 refine⟨_,rfl,_,rfl,wa,_,_,.ref mk,rfl,rfl,SqT.of hA.w,rfl,mk,M1.map (λn:Nat=>(n:Int)),rfl,by rw[mapI];exact SqT.of hA.k,by rw[xA1];exact lA,?_⟩;refine⟨_,rfl,wb,_,_,.ref mk',rfl,rfl,SqT.of hB.w,rfl,mk',M2.map (λn:Nat=>(n:Int)),rfl,by rw[mapI];exact SqT.of hB.k,by rw[xA1];exact lB,λl ns' hl hasc hmem=>?_⟩;obtain⟨U,eU,aU,iU⟩:=yfU hasc hmem;rw[eU];have s1:=yaa hl (.lst (U.map Vn));refine⟨wa,fa,l,few,root,.ref mk,U,rfl,SqT.of (s1 _ _ hA.w),SqL.of zaa,λr mk2 H' s2 W=>q r mk2 U H' (s1.trans s2) W aU iU⟩
inductive ydZ (K:PySem.W.Frag) (vs:List V) (H:Hp) (Q:VK) (E:XK):Prop
 |mk (wa wb fa mk mk':Addr) (few root:Nat) (A B:List Nat) (c1:vs=[.ref wa,.ref wb]) (c2:WhAt H wa fa mk few root A) (c3:WhAt H wb fa mk' few root B) (c4:A.length<=64) (c6:∀r mk2 H',Same H H'->WhAt H' r fa mk2 few root (zax A B)->Q (.ref r) H'):ydZ K vs H Q E
theorem yg9:yag ["one","other"] ["one","other"] (yac zes):=⟨rfl,rfl,rfl,by decide +kernel,rfl,by decide +kernel,by decide +kernel⟩
theorem ygR(B:Bl mg)(xCj:Has P w K mg base 1 "with_marks" ["wheel","marks"] (zc4 K))(F:Fun K "join" "join" zes f fd):FnOk P w K mg base CX0 2 f fd ["one","other"] (ydZ K):=by
 refine F.ok yg9 (λvs H Q E h=>?_) (λcdv A outer s H vs Q E hr h=>?_)
 ·obtain⟨wa,wb,fa,mk,mk',few,root,M1,M2,rfl,_⟩:=h;rfl
 obtain⟨wa,wb,fa,mk,mk',few,root,M1,M2,rfl,hA,hB,lA,q⟩:=h;refine⟨_,(~~~((xCj<$>((pv 0)>=>(["i"]⊆(["other"],[1],["one","other"],zes,(@zem _ _ _ _ (zaq<<<(pv 0)<<<yab)),(0⊇["i","other"]),(@zaS _ _ _ (@zbL _ _ _ _ _ _ _ _ (ybY (K:=K) rfl) (pv 0) ((zbM (K:=K) rfl)<<<(pv 1)<<<yab) (by with_unfolding_all rfl))),(pv 0)))>=>zab))⁻¹)),?_⟩
 try dsimp only[cxOf]
 refine⟨_,rfl,_,rfl,wa,_,_,.ref mk,rfl,rfl,SqT.of hA.w,rfl,mk,rfl,⟨_,SqT.of hA.k⟩,?_⟩;refine yao (yce (xs:=M1.map Vn)) (λk acc H'=>H'=H/\acc=(zax (M1.take k) M2).map Vn) ⟨rfl,rfl⟩ (λi acc H' _ h=>by rw[h.1];exact SqT.of hA.k) ?_ ?_ ?_
 ·rintro k acc H' hk ⟨_,rfl⟩;rw[xA1]at hk;rw[xA1];have:=xBj (λx=>decide (x∈M2)) (M1.take k);rw[xAC]at this;exact yah (by show(zax (M1.take k) M2).length<=1000;unfold zax;lia)
 ·rintro k acc x H' H'' hk ⟨rfl,rfl⟩ ⟨rfl,ez⟩;rw[xA1]at hk;rw[zaU hk]at ez;cases ez;have hg:M1[k]?=some (M1.getD k 0):=by simp[List.getD,hk]
  unfold zax;rw[zat hg,List.filter_append];refine⟨_,rfl,_,rfl,wb,_,_,.ref mk',rfl,rfl,SqT.of hB.w,rfl,mk',_,rfl,.inr (SqT.of hB.k),rfl,za9 M2,_,rfl,?_⟩;have e:inV (Vn (M1.getD k 0)) (M2.map Vn)=decide (M1.getD k 0∈M2):=zbt _ _;refine ite2 (λc=>?_) (λc=>?_)
  ·have c:=e.symm.trans c;refine⟨_,rfl,rfl,?_⟩;rw[xBx,if_pos c,xAk];rfl
  ·refine⟨rfl,?_⟩;rw[xBx,if_neg (by rw[<-e];exact c),List.filter_nil,xBu]
 rw[xA1,xBv];rintro acc H4 ⟨rfl,rfl⟩ D hD;have s1:=yaa hD (.lst ((zax M1 M2).map Vn));exact⟨wa,fa,D,few,root,.ref mk,zax M1 M2,rfl,SqT.of (s1 _ _ hA.w),SqL.of zaa,λr mk2 H' s2 W=>q r mk2 H' (s1.trans s2) W⟩
inductive ydp (vs:List V) (H:Hp) (Q:VK) (E:XK):Prop
 |mk (tb fa pa la wh mk:Addr) (p m t b few root n:Nat) (marks:List Nat) (c1:vs=[.ref tb,.ref wh]) (c2:Tab H tb fa pa la p m t b) (c3:WhAt H wh fa mk few root marks) (c4:Whl p m t few root n marks) (c5:Q (Vn ((p^few)^(n-marks.length))) H):ydp vs H Q E
theorem za0:yag ["_law_table_here","_law_wheel_here","_law_left"] ["_law_table_here","_law_wheel_here"] (yac yaH):=⟨rfl,rfl,rfl,by decide +kernel,rfl,by decide +kernel,by decide +kernel⟩
theorem zgh(B:Bl mg)(xCa:Has P w K mg base 2 "_law_round" ["_law_table_here","_law_one"] yaV)(xC8:Has P w K mg base 1 "_law_raised" ["_law_one","_law_many"] yaf)(F:Fun K "_law_many_words" "_law_many_words" yaH f fd):FnOk P w K mg base CX0 3 f fd ["_law_table_here","_law_wheel_here"] ydp:=by
 refine F.ok za0 (λvs H Q E h=>?_) (λcdv A outer s H vs Q E hr h=>?_)
 ·obtain⟨tb,fa,pa,la,wh,mk,p,m,t,b,few,root,n,marks,rfl,_⟩:=h;rfl
 obtain⟨tb,fa,pa,la,wh,mk,p,m,t,b,few,root,n,marks,rfl,T,hW,W,q⟩:=h;have G:=T.good;have hp:=G.hp;have hm:=G.hm;have hQ:=G.hq;have hp2:=p_le hp hm hQ;have hm6:=m_le hp hQ;have hfm:few<=m:=Nat.le_of_dvd (by lia) (xBs W.fewm);have hqq:p^few<=64:=xAz (xAM (by lia) hfm) hQ;have hml:=ya7 W.asc W.lt;have hnq:=W.nq;refine⟨_,((2<|>za0.nd<|>(za7|||(xCa<$>((pv 0)>=>(zaq<<<(pv 1)<<<yab)>=>zab))|||(zar>>>("len",PySem.boot_len,((zaq<<<(pv 1)<<<yab)>=>zab)))))<=<(~~~((xC8<$>((xC8<$>(((pv 0)⊃yas)>=>(zaq<<<(pv 1)<<<yab)>=>zab))>=>(pv 2)>=>zab))⁻¹))),?_⟩
 try dsimp only[cxOf]
 refine⟨_,rfl,_,rfl,wh,_,_,Vn root,rfl,rfl,SqT.of hW.w,rfl,tb,fa,pa,la,p,m,t,b,root,rfl,T,W.r0,W.rq,λn' o' _=>?_⟩;cases o'.uniq W.ord;have e:(n:Int)-((marks.map Vn).length:Int)=((n-marks.length:Nat):Int):=by rw[xA1];lia
 refine⟨_,rfl,wh,_,_,.ref mk,rfl,rfl,SqT.of hW.w,rfl,mk,_,rfl,.inr (SqT.of hW.k),_,_,rfl,rfl,?_⟩;dsimp only[yap];refine⟨_,rfl,tb,_,rfl,T.get zdT,_,rfl,wh,_,_,Vn few,rfl,rfl,SqT.of hW.w,rfl,p,few,rfl,hp2,by lia,_,rfl,p^few,n-marks.length,by rw[e];rfl,hqq,by lia,q⟩
end
end My
end
section
namespace My
open PySem L2 Dg
theorem zgB{α:Type}[DecidableEq α]:∀ {s l:List α},s.Nodup->(∀x∈s,x∈l)->s.length<=l.length
 | [],_,_,_=>xAR _
 |x::s,l,hd,h=>by
  have hd':=xBd.mp hd;have hx:=h x xA7;have:=zgB hd'.2 (l:=l.erase x) λy hy=>(List.mem_erase_of_ne (by rintro rfl;exact hd'.1 hy)).mpr (h y (xAb _ hy))
  rw[xBI hx]at this;have:=xBS hx;rw[xAo];lia
theorem yfN{α:Type}[DecidableEq α]{l s:List α}(nl:l.Nodup)(ns:s.Nodup)(h:∀x,x∈l↔x∈s):l.Perm s:=zef nl (λx hx=>(h x).mp hx) (zgB ns λx hx=>(h x).mpr hx)
def cN(u:List Nat):List Int:=u.map λn:Nat=>(n:Int)
def kN(u:List Nat):List Key:=u.map λn:Nat=>Sum.inl (n:Int)
theorem ygE{u v:List Nat}(h:cN u=cN v):u=v:=List.map_inj_right (λa b e=>Int.ofNat.inj e) |>.mp h
theorem zhd(u:List Nat):(kN u).map kI=cN u:=by unfold kN cN;rw[xAH];rfl
theorem zhL{u v:List Nat}(h:kN u=kN v):u=v:=ygE (by rw[<-zhd,<-zhd,h])
theorem zhR{α β:Type}{f:α->β}(hf:∀a b,f a=f b->a=b){l:List α}(h:l.Nodup):(l.map f).Nodup:=xAJ.mpr (h.imp λn e=>n (hf _ _ e))
def prL(ds:List Addr)(ls:List (List Nat)):List (Addr×List Int):=ds.zip (ls.map cN)
theorem zeo{ls:List (List Nat)}(h:Tups H ds ls):(prL ds ls).map (λp=>V.ref p.1)=ds.map V.ref:=by
 have:(prL ds ls).map Prod.fst=ds:=List.map_fst_zip (by rw[xA1,h.1];exact xA5 _);rw[show(λp:Addr×List Int=>V.ref p.1)=V.ref ∘ Prod.fst from rfl,<-xAH,this]
theorem yez{ls:List (List Nat)}(h:Tups H ds ls):(prL ds ls).map (·.2)=ls.map cN:=List.map_snd_zip (by rw[xA1,h.1];exact xA5 _)
theorem zf9{ls:List (List Nat)}(h:Tups H ds ls):∀p∈prL ds ls,∃u∈ls,p.2=cN u/\H p.1=some (.tup (p.2.map V.int)):=λp hp=>by
 obtain⟨i,hi⟩:=List.getElem?_of_mem hp;obtain⟨e1,e2⟩:=List.getElem?_zip_eq_some.mp hi;obtain⟨u,eu,hd⟩:=h.2 i _ e1;rw[xAd,eu]at e2;have e2:=(xAF e2).symm;exact⟨u,xAS eu,e2,by rw[e2,hd];unfold cN;rw[mapI]⟩
theorem ydu{K:PySem.W.Frag}{M N:List (Addr×List Int)}(h1:∀p∈M,SqT K H p.1 (p.2.map V.int))(h2:∀p∈N,SqT K H p.1 (p.2.map V.int))(e:M.map (·.2)=N.map (·.2))(hl:∀p∈M,p.2.length<=500):∀(i:Nat) x y,(M.map λp=>V.ref p.1)[i]?=some x->(N.map λp=>V.ref p.1)[i]?=some y->Eqv K H 2 x y:=by
 intro i x y hx hy;rw[xAd]at hx hy;obtain⟨p,ep,rfl⟩:=xBD.mp hx;obtain⟨q,eq,rfl⟩:=xBD.mp hy;have e2:p.2=q.2:=by
  have:(M.map (·.2))[i]?=(N.map (·.2))[i]?:=by rw[e]
  rw[xAd,xAd,ep,eq]at this;exact xAF this
 have hp:=xAS ep;refine .inr (.inr ⟨p.1,q.1,_,_,rfl,rfl,h1 p hp,h2 q (xAS eq),by rw[e2],by rw[xA1];exact hl p hp,λj a b ha hb=>?_⟩);rw[e2,hb]at ha;cases ha;rw[xAd]at hb;obtain⟨z,_,rfl⟩:=xBD.mp hb;exact .inl ⟨z,rfl,rfl⟩
theorem ygq{κ:Type}[DecidableEq κ](kvs:List (κ×V))(k:κ)(v:V):(putK kvs k v).map (·.1)=if k∈kvs.map (·.1) then kvs.map (·.1) else kvs.map (·.1)++[k]:=by
 have e:(kvs.any λkv=>decide (kv.1=k))=true↔k∈kvs.map (·.1):=by
  rw[List.any_eq_true,xA9];exact⟨λ⟨p,hp,h⟩=>⟨p,hp,xAn h⟩,λ⟨p,hp,h⟩=>⟨p,hp,xAD h⟩⟩
 unfold putK;by_cases c:k∈kvs.map (·.1)
 ·rw[if_pos (e.mpr c),if_pos c,xAH];refine xAL λp _=>?_
  show(if p.1=k then(p.1,v) else p).1=p.1;split <;> rfl
 ·rw[if_neg (λh=>c (e.mp h)),if_neg c,xAk];rfl
theorem yeA{M N:List (Addr×List Int)}(h:(M.map (·.2)).Perm (N.map (·.2)))(hM:M.Pairwise λp q=>lx q.2 p.2=false)(hN:N.Pairwise λp q=>lx q.2 p.2=false):M.map (·.2)=N.map (·.2):=yfo h (xAJ.mpr hM) (xAJ.mpr hN)
structure zfo(kvs:List (List Key×V))(ws:List (List Nat))(n:Nat):Prop where
 nd:(kvs.map (·.1)).Nodup
 mem:∀k,k∈kvs.map (·.1)↔k∈ws.map kN
 len:kvs.length<=n
theorem zfo.put{kvs:List (List Key×V)}{ws:List (List Nat)}{n:Nat}(h:zfo kvs ws n)(u:List Nat)(v:V):zfo (putK kvs (kN u) v) (ws++[u]) (n+1):=by
 have e:=ygq kvs (kN u) v;have l:((putK kvs (kN u) v).map (·.1)).length<=(kvs.map (·.1)).length+1:=by
  rw[e];split
  ·lia
  ·rw[xAB];exact xA5 _
 rw[xA1,xA1]at l;refine⟨?_,λk=>?_,by have:=h.len;lia⟩
 ·rw[e];split
  ·exact h.nd
  ·rename_i c;exact List.nodup_append.mpr ⟨h.nd,xBd.mpr ⟨xAf,List.nodup_nil⟩,λx hx y hy exy=>c (by rw[<-xAl.mp hy,<-exy];exact hx)⟩
 ·rw[e,xAk,xAr,<-h.mem];split
  ·rename_i c;refine⟨.inl,λh=>h.elim id λh=>?_⟩;rw[xAl.mp h];exact c
  ·rw[xAr];rfl
theorem yhk{K:PySem.W.Frag}(h:X.K=K)(hu:X.A.units+64<cLine):OpR X (compareOp .In) (rInT K):=h ▸ zhu hu
section
variable {P:Program} {w:World} {mg:Str->Option Value} {base:Heap} {f:Addr} {fd:FuncData}
inductive zcc (K:PySem.W.Frag) (vs:List V) (H:Hp) (Q:VK) (E:XK):Prop
 |mk (tb fa pa la a b:Addr) (p m t c:Nat) (b2:Bool) (xs ys:List Nat) (c1:vs=[.ref tb,.ref a,.ref b]) (c2:Tab H tb fa pa la p m t c) (c3:H a=some (.tup (xs.map Vn))) (c4:∀H',Same H H'->SqB K b2 H' b (ys.map Vn)) (c5:xs.length<=100) (c6:(∀x∈xs,x<p^m)) (c7:(∀y∈ys,y<p^m)) (c8:∀r H',Same H H'->H r=none->H' r=some (.tup ((addL p m xs ys).map Vn))->Q (.ref r) H'):zcc K vs H Q E
theorem yif{K:PySem.W.Frag}{k:Nat}(h:Has P w K mg base k x ps (zcc K)):Has P w K mg base k x ps (zd2 K):=by
 obtain⟨f,fd,F,B,kp,m⟩:=h;refine⟨f,fd,F.imp λvs H Q E h=>?_,B,kp,m⟩;obtain⟨tb,fa,pa,la,a,b,p,m,t,c,xs,ys,h1,h2,h3,h4,h5,h6,h7,q⟩:=h;exact⟨tb,fa,pa,la,a,b,p,m,t,c,false,xs,ys,h1,h2,h3,λH' s=>SqL.of (s _ _ h4),h5,h6,h7,q⟩
theorem zf4(B:Bl mg)(xC4:Has P w K mg base 1 "_law_plus" ["_law_table_here","_law_one","_law_other"] ycc)(F:Fun K "_law_added" "_law_added" yaY f fd):FnOk P w K mg base CX0 2 f fd ["_law_table_here","_law_one","_law_other"] (zcc K):=by
 refine F.ok zdd (λvs H Q E h=>?_) (λcdv A outer s H vs Q E hr h=>?_)
 ·obtain⟨tb,fa,pa,la,a,b,p,m,t,c,b2,xs,ys,rfl,_⟩:=h;rfl
 obtain⟨tb,fa,pa,la,a,b,p,m,t,c,b2,xs,ys,rfl,T,ha,hb,hl,hx,hy,q⟩:=h;refine⟨_,(~~~((zal<*("tuple",zaj,((["_law_a","_law_b"]⊆(["_law_table_here"],[0],["_law_table_here","_law_one","_law_other"],yaY,(@zhJ _ _ _ _ _ _ _ _ _ rfl (B "zip" (by decide)) ((pv 1)>=>(pv 2)>=>zab) ⋯ ⋯),(@yeT _ _ _ _ 2 _ K rfl rfl ((0⊇["_law_a","_law_b","_law_table_here"])∩((1⊇["_law_a","_law_b","_law_table_here"])∩yaB)) ⋯ ⋯),zaZ,(xC4<$>((pv 2)>=>(pv 0)>=>(pv 1)>=>zab))))>=>zab)))⁻¹)),?_⟩
 try dsimp only[cxOf]
 refine⟨_,rfl,_,rfl,true,b2,a,b,rfl,⟨_,SqT.of ha⟩,⟨_,hb _ (Same.refl _)⟩,?_⟩;refine yao (zgm (b1:=true) (b2:=b2) (xs:=xs.map Vn) (ys:=ys.map Vn)) (λk acc H'=>Same H H'/\acc=((List.range k).map λi=>add p m (xs.getD i 0) (ys.getD i 0)).map Vn) ⟨Same.refl _,rfl⟩ (λi acc H' _ h=>⟨SqT.of (h.1 _ _ ha),hb _ h.1⟩) ?_ ?_ ?_
 ·rintro k acc H' hk ⟨_,rfl⟩;rw[xA1,xA1]at hk;rw[xA1,xA1,xAy];exact yah (by lia)
 ·rintro k acc z H1 H2 hk ⟨s1,rfl⟩ ⟨Tt,u,v,rfl,eu,ev,hT,rfl⟩;rw[xA1,xA1]at hk;rw[zaU (by lia)]at eu ev;cases eu;cases ev;refine⟨Tt,_,rfl,SqT.of zaa,rfl,_,_,rfl,_,_,rfl,rfl,?_⟩;have s2:=s1.trans (yaa hT (.tup [Vn (xs.getD k 0),Vn (ys.getD k 0)]));refine⟨_,rfl,_,rfl,_,rfl,tb,fa,pa,la,p,m,t,c,xs.getD k 0,ys.getD k 0,rfl,T.same s2,zbs hx (by lia),zbs hy (by lia),?_⟩;refine⟨s2,?_⟩;rw[xBz,xAk,xAk];rfl
 ·rw[xA1,xA1];rintro acc H1 ⟨s1,rfl⟩ D hD;refine⟨D,_,rfl,.inl ⟨SqL.of zaa,λr hr=>?_⟩⟩;have s2:=s1.trans (yaa hD (.lst ((addL p m xs ys).map Vn)));exact q r _ (s2.trans (yaa hr _)) (s2.free hr) zaa
inductive zdk (vs:List V) (H:Hp) (Q:VK) (E:XK):Prop
 |mk (tb fa pa la wa ma wb mb wu mu wj mj:Addr) (p m t b few root n:Nat) (A B U J:List Nat) (c1:vs=[.ref tb,.ref wa,.ref wb,.ref wu,.ref wj]) (c2:Tab H tb fa pa la p m t b) (c3:WhAt H wa fa ma few root A) (c4:WhAt H wb fa mb few root B) (c5:WhAt H wu fa mu few root U) (c6:WhAt H wj fa mj few root J) (c7:Whl p m t few root n A) (c8:Whl p m t few root n B) (c9:Whl p m t few root n U) (c10:Whl p m t few root n J) (c11:∀x,x∈U↔x∈A\/x∈B) (c12:∀x,x∈J↔x∈A/\x∈B) (c13:(p^few)^(n-A.length)*(p^few)^(n-B.length)<=4096) (c14:∀H',Same H H'->Q (.bl true) H'):zdk vs H Q E
theorem zag:yag ["_law_table_here","_law_one","_law_other","_law_met","_law_joined","_law_mine","_law_theirs","_law_both","_law_totals","_law_word","_law_more"] ["_law_table_here","_law_one","_law_other","_law_met","_law_joined"] (yac yav):=⟨rfl,rfl,rfl,by decide +kernel,rfl,by decide +kernel,by decide +kernel⟩
theorem yfZ(B0:Bl mg)(xCf:Has P w K mg base 4 "_law_words" ["_law_table_here","_law_wheel_here"] ycl)(xBT:Has P w K mg base 2 "_law_added" ["_law_table_here","_law_one","_law_other"] (zcc K))(F:Fun K "_law_words_right" "_law_words_right" yav f fd):FnOk P w K mg base CX0 5 f fd ["_law_table_here","_law_one","_law_other","_law_met","_law_joined"] zdk:=by
 have B:=B0;refine F.ok zag (λvs H Q E h=>?_) (λcdv A outer s H vs Q E hr h=>?_)
 ·obtain⟨tb,fa,pa,la,wa,ma,wb,mb,wu,mu,wj,mj,p,m,t,b,few,root,n,MA,MB,MU,MJ,rfl,_⟩:=h;rfl
 obtain⟨tb,fa,pa,la,wa,ma,wb,mb,wu,mu,wj,mj,p,m,t,b,few,root,n,MA,MB,MU,MJ,rfl,T,hA,hB,hU,hJ,WA,WB,WU,WJ,iU,iJ,sz,q⟩:=h;have G:=T.good;have hp:=G.hp;have hm:=G.hm;have hQ:=G.hq;have hnq:=WA.nq;have hm6:=m_le hp hQ;have hfm:few<=m:=Nat.le_of_dvd (by lia) (xBs WA.fewm);have lA:=ya7 WA.asc WA.lt;have lB:=ya7 WB.asc WB.lt;have lU:=ya7 WU.asc WU.lt;have lJ:=ya7 WJ.asc WJ.lt;have l4:=yeo WA.asc WB.asc WU.asc WJ.asc WA.lt WB.lt iU iJ;refine⟨_,(((@yaM _ _ _ _ _ ((xCf<$>((pv 0)>=>(pv 1)>=>zab))>=>(xCf<$>((pv 0)>=>(pv 2)>=>zab))>=>zab))≈((5&&&zag.nd)∩((6&&&zag.nd)∩yaB)))<=<(@zbr _ 7 _ _ _ _ _ _ _ _ _ ["_law_word"] ["_law_theirs"] [6] _ _ _ _ zag.nd rfl (Or.inl rfl) (id (α:=CSc ["_law_table_here","_law_one","_law_other","_law_met","_law_joined","_law_mine","_law_theirs","_law_both","_law_totals","_law_word","_law_more"] (yac yav) ["_law_word"] ["_law_theirs"] [6] _) ⟨by rfl,by decide +kernel,by decide +kernel,by decide +kernel,by decide +kernel,by rfl,by decide +kernel⟩) rfl (@zaH _ _ _ _ (pv 5)) (λcl C fp s H=>(0⊇["_law_word","_law_theirs"])) (λ_ _ _ _ _=>(@zaS _ _ _ (@zbL _ _ _ _ _ _ _ _ (yhk (K:=K) rfl hr.units) (pv 0) (pv 1) (by with_unfolding_all rfl)))) (λ_ _ _ _ _=>(pv 0)) ⋯ (by intro _;rfl) (by trivial))<=<(((zg1 hr.units)∪((zbq (xBr (Nat.add_le_add_left (by decide:2<=64) _) hr.units))>>>("sorted",zap,((xCf<$>((pv 0)>=>(pv 3)>=>zab))>=>zab)))∪((zbq (xBr (Nat.add_le_add_left (by decide:2<=64) _) hr.units))>>>("sorted",zap,((pv 7)>=>zab))))*>((~~~(yc4⁻¹)),yam))<=<(8<|>zag.nd<|>zfW)<=<((@zaH _ _ _ _ (pv 5))<&>((9&&&zag.nd),(~~~((@zaH _ _ _ _ (pv 6))<&>((10&&&zag.nd),(~~~(@zgJ _ _ _ _ _ _ _ _ _ (yhq hr) (pv 8) (xBT<$>((pv 0)>=>(pv 9)>=>(pv 10)>=>zab)) yc4 rfl)))))))<=<(~~~((@zcm _ _ _ _ _ _ _ _ (yhn hr.units) ((zdw rfl (xBr (Nat.add_le_add_left (by decide) _) hr.units))>>>("sorted",zap,((pv 8)>=>zab))) ((zbq (xBr (Nat.add_le_add_left (by decide:2<=64) _) hr.units))>>>("sorted",zap,((xCf<$>((pv 0)>=>(pv 4)>=>zab))>=>zab))) (ycT _))⁻¹))),?_⟩
 try dsimp only[cxOf]
 have hn0:=WA.ord.pos;have hn64:n<=63:=by lia
 have f6:few<=6:=by lia
 have hq0:0<p^few:=xBf (by have:=G.hp;lia);have qa:1<=(p^few)^(n-MA.length):=xBf hq0;have qb:1<=(p^few)^(n-MB.length):=xBf hq0;have za:(p^few)^(n-MA.length)<=4096:=xAz (Nat.le_mul_of_pos_right _ qb) sz;have zb:(p^few)^(n-MB.length)<=4096:=xAz (Nat.le_mul_of_pos_left _ qa) sz;have zu:(p^few)^(n-MU.length)<=4096:=xAz (xAM hq0 (by
  have:MA.length<=MU.length:=ybk (WA.asc.imp λh=>by lia) λx hx=>(iU x).mpr (.inl hx)
  lia)) za
 have zj:(p^few)^(n-MJ.length)<=4096:=by
  refine xAz ?_ sz;rw[<-Nat.pow_add];exact xAM hq0 (by lia)
 have ndA:=ydf (root:=root) (marks:=MA) (few:=few) (n:=n) G (n-MA.length) (xA5 _);have ndU:=ydf (root:=root) (marks:=MU) (few:=few) (n:=n) G (n-MU.length) (xA5 _);have ndJ:=ydf (root:=root) (marks:=MJ) (few:=few) (n:=n) G (n-MJ.length) (xA5 _);have memA:=ydA G WA lA;have memB:=ydA G WB lB;have memU:=ydA G WU lU;have memJ:=ydA G WJ lJ;have szA:=yb0 G WA;have szB:=yb0 G WB;have hall:=zgr G WA WB WU WJ iU iJ;rw[<-szA,<-szB]at sz;refine⟨_,rfl,_,rfl,tb,fa,pa,la,wa,ma,p,m,t,b,few,root,n,MA,rfl,T,hA,WA.few1,f6,WA.fewm,WA.r0,WA.rq,WA.ord,by lia,lA,za,λr1 ds1 H1 s1 e1 t1=>?_⟩;refine⟨_,rfl,_,rfl,tb,fa,pa,la,wb,mb,p,m,t,b,few,root,n,MB,rfl,T.same s1,hB.same s1,WB.few1,f6,WB.fewm,WB.r0,WB.rq,WB.ord,by lia,lB,zb,λr2 ds2 H2 s2 e2 t2=>?_⟩;have e1:=s2 _ _ e1;have t1:=t1.same s2;generalize lwL p m t root n MA few (n-MA.length)=LA at t1 ndA memA szA sz;generalize lwL p m t root n MB few (n-MB.length)=LB at t2 memB szB sz;refine⟨szl 2,λp0 hp0=>?_⟩;refine⟨p0,_,rfl,SqT.of zaa,rfl,_,_,rfl,_,_,rfl,rfl,?_⟩;have s3:=yaa hp0 (.tup [.ref r1,.ref r2]);have e1:=s3 _ _ e1;have e2:=s3 _ _ e2;have t1:=t1.same s3;have t2:=t2.same s3;have s3:=(s1.trans s2).trans s3;dsimp only[yap];generalize upd H2 p0 (.tup [.ref r1,.ref r2])=H3 at s3 e1 e2 t1 t2 ⊢;have rA:=zeo t1;have rB:=zeo t2;have dA:=yez t1;have dB:=yez t2;have aA:=zf9 t1;have aB:=zf9 t2;have lnA:(prL ds1 LA).length=LA.length:=by have:=congrArg List.length dA;rwa [xA1,xA1]at this
 refine⟨_,rfl,r1,rfl,⟨_,SqL.of e1⟩,?_⟩;refine yao (zaO (xs:=ds1.map V.ref)) (λk acc H'=>H'=H3/\acc=(((prL ds1 LA).take k).filter λp=>decide (p.2∈LB.map cN)).map λp=>V.ref p.1) ⟨rfl,rfl⟩ (λi acc H' _ h=>by rw[h.1];exact SqL.of e1) ?_ ?_ ?_
 ·rintro k acc H' hk ⟨_,rfl⟩;have:=xBj (λp:Addr×List Int=>decide (p.2∈LB.map cN)) ((prL ds1 LA).take k);rw[xAC,lnA,szA]at this;rw[xA1];exact szl _ (by lia)
 ·rintro k acc x H' H'' hk ⟨rfl,rfl⟩ ⟨rfl,ez⟩;rw[<-rA,xAd]at ez;obtain⟨p,ep,rfl⟩:=xBD.mp ez;have hp':=xAS ep;obtain⟨u,hu,eu,ed⟩:=aA p hp';rw[zat ep,List.filter_append];refine⟨_,rfl,_,rfl,p.1,r2,p.2,prL ds2 LB,rfl,rfl,SqT.of ed,SqL.of (by rw[rB];exact e2),λq hq=>SqT.of (by obtain⟨_,_,_,h⟩:=aB q hq;exact h),_,rfl,?_⟩;rw[dB];refine ite2 (λc=>?_) (λc=>?_)
  ·refine⟨_,rfl,rfl,?_⟩;rw[xBx,if_pos c,xAk];rfl
  ·refine⟨rfl,?_⟩;rw[xBx,if_neg c,List.filter_nil,xBu]
 rw[show(ds1.map V.ref).length=(prL ds1 LA).length by rw[<-rA,xA1],xBv];rintro acc H4 ⟨rfl,rfl⟩ D hD;have wl:∀ {M u},CW p m t root n few M u->cN u≠[]/\(cN u).length<=500:=λ{M u} h=>by
  have:(cN u).length=n:=by unfold cN;rw[xA1];exact h.1
  exact⟨λe=>by rw[e]at this;simp at this;lia,by lia⟩
 generalize eF:((prL ds1 LA).filter λp=>decide (p.2∈LB.map cN))=LF;have aF:∀p∈LF,∃u∈LA,p.2=cN u/\H4 p.1=some (.tup (p.2.map V.int)):=λp hp=>aA p (by rw[<-eF]at hp;exact(xAU.mp hp).1)
 have dF:(LF.map (·.2)).Perm ((lwL p m t root n MU few (n-MU.length)).map cN):=by
  have:LF.map (·.2)=(LA.filter λu=>decide (cN u∈LB.map cN)).map cN:=by
   rw[<-eF];have:=List.filter_map (f:=λx:Addr×List Int=>x.2) (p:=λz=>decide (z∈LB.map cN)) (l:=prL ds1 LA);rw[dA,List.filter_map]at this;exact this.symm
  rw[this];refine List.Perm.map _ (yfN (xBM _ ndA) ndU λu=>?_);rw[xAU,xBk,memU,memA];refine⟨λ⟨h1,h2⟩=>?_,λh=>⟨h.sub G λk hk=>(iU k).mpr (.inl hk),xA9.mpr ⟨u,(memB u).mpr (h.sub G λk hk=>(iU k).mpr (.inr hk)),rfl⟩⟩⟩;obtain⟨v,hv,e⟩:=xA9.mp h2;cases ygE e;have h2:=(memB u).mp hv;exact⟨h1.1,h1.2.1,λk hk=>((iU k).mp hk).elim (h1.2.2 k) (h2.2.2 k)⟩
 clear eF;have s4:=yaa hD (.lst (LF.map λp=>V.ref p.1));have eD:upd H4 D (.lst (LF.map λp=>V.ref p.1)) D=some (.lst (LF.map λp=>V.ref p.1)):=zaa;have aF:∀p∈LF,∃u∈LA,p.2=cN u/\upd H4 D (.lst (LF.map λp=>V.ref p.1)) p.1=some (.tup (p.2.map V.int)):=λp hp=>by
  obtain⟨u,h1,h2,h3⟩:=aF p hp;exact⟨u,h1,h2,s4 _ _ h3⟩
 have e1:=s4 _ _ e1;have e2:=s4 _ _ e2;have t1:=t1.same s4;have t2:=t2.same s4;have s5:=s3.trans s4;clear aA aB rA rB dA dB lnA;dsimp only[yap];generalize upd H4 D (.lst (LF.map λp=>V.ref p.1))=H5 at s5 e1 e2 t1 t2 aF eD ⊢;refine⟨_,rfl,_,rfl,tb,fa,pa,la,wu,mu,p,m,t,b,few,root,n,MU,rfl,T.same s5,hU.same s5,WU.few1,f6,WU.fewm,WU.r0,WU.rq,WU.ord,by lia,lU,zu,λr3 ds3 H6 s6 e3 t3=>?_⟩;have dU:=yez t3;have aU:=zf9 t3;refine⟨r3,prL ds3 _,rfl,SqL.of (by rw[zeo t3];exact e3),λp hp=>SqT.of (by obtain⟨_,_,_,h⟩:=aU p hp;exact h),.inl λp hp=>(by obtain⟨u,hu,e,_⟩:=aU p hp;rw[e];exact(wl ((memU u).mp hu)).1),λl3 M3 hl3 pm3 so3=>?_⟩;have s7:=yaa hl3 (.lst (M3.map λp=>V.ref p.1));refine⟨_,rfl,D,LF,rfl,SqL.of (s7 _ _ (s6 _ _ eD)),λp hp=>SqT.of (by obtain⟨_,_,_,h⟩:=aF p hp;exact s7 _ _ (s6 _ _ h)),.inl λp hp=>(by obtain⟨u,hu,e,_⟩:=aF p hp;rw[e];exact(wl ((memA u).mp hu)).1),λl4 M4 hl4 pm4 so4=>?_⟩;have s8:=yaa hl4 (.lst (M4.map λp=>V.ref p.1));have eM:=yeA (((pm3.map (·.2)).trans (by rw[dU])).trans (dF.symm.trans (pm4.map (·.2)).symm)) so3 so4;have lM:M3.length=M4.length:=by have:=congrArg List.length eM;rwa [xA1,xA1]at this
 refine⟨l3,l4,2,_,_,rfl,rfl,by decide,SqL.of (s8 _ _ zaa),SqL.of zaa,by rw[xA1,xA1,lM],ydu (λp hp=>SqT.of (by obtain⟨_,_,_,h⟩:=aU p (pm3.mem_iff.mp hp);exact s8 _ _ (s7 _ _ h))) (λp hp=>SqT.of (by obtain⟨_,_,_,h⟩:=aF p (pm4.mem_iff.mp hp);exact s8 _ _ (s7 _ _ (s6 _ _ h)))) eM (λp hp=>by obtain⟨u,hu,e,_⟩:=aU p (pm3.mem_iff.mp hp);rw[e];exact(wl ((memU u).mp hu)).2),?_⟩;have s9:=(s6.trans s7).trans s8;generalize upd (upd H6 l3 (.lst (M3.map λp=>V.ref p.1))) l4 (.lst (M4.map λp=>V.ref p.1))=H7 at s9 ⊢;clear dU aU pm3 so3 so4 pm4 eM lM dF aF s7 s8 eD;have e1:=s9 _ _ e1;have e2:=s9 _ _ e2;have t1:=t1.same s9;have t2:=t2.same s9;have s9:=s5.trans s9;refine⟨_,rfl,?_⟩;refine ite2 (λc=>absurd c (by decide)) (λ_=>?_);intro D2 hD2;have s10:=yaa hD2 (.dT []);have eD2:upd H7 D2 (.dT []) D2=some (.dT []):=zaa;dsimp only[yap];generalize upd H7 D2 (.dT [])=H8 at s10 eD2 ⊢
 let I1:Nat->St->Hp->Prop:=λi σ H'=>Same H7 H'/\(Ex3 λ(kvs:List (List Key×V)) (s9 s10:Option V)=>An3 (H' D2=some (.dT kvs)) (zfo kvs ((LA.take i).flatMap λu=>LB.map (addL p m u)) (i*LB.length)) (σ=[some (.ref tb),some (.ref wa),some (.ref wb),some (.ref wu),some (.ref wj),some (.ref r1),some (.ref r2),some (.ref D),some (.ref D2),s9,s10]))
 refine⟨_,rfl,r1,rfl,⟨_,SqL.of (s10 _ _ e1)⟩,?_⟩;refine zbQ (xs:=ds1.map V.ref) I1 ⟨s10,[],none,none,eD2,⟨List.nodup_nil,λk=>⟨(λh=>nomatch h),(λh=>nomatch h)⟩,xAR _⟩,rfl⟩ (λi σ H' _ h=>SqL.of (h.1 _ _ e1)) ?_ ?_
 ·rintro i x σ H9 hx ⟨sx,kvs,sa,sb,ek,kd,rfl⟩;rw[xAd]at hx;obtain⟨d,ed,rfl⟩:=xBD.mp hx;obtain⟨u,eu,hu⟩:=t1.2 i d ed;have hum:=(memA u).mp (xAS eu)
  let I2:Nat->St->Hp->Prop:=λj σ H'=>Same H7 H'/\(Ex2 λ(kvs:List (List Key×V)) (s10:Option V)=>An3 (H' D2=some (.dT kvs)) (zfo kvs (((LA.take i).flatMap λu=>LB.map (addL p m u))++(LB.take j).map (addL p m u)) (i*LB.length+j)) (σ=[some (.ref tb),some (.ref wa),some (.ref wb),some (.ref wu),some (.ref wj),some (.ref r1),some (.ref r2),some (.ref D),some (.ref D2),some (.ref d),s10]))
  dsimp only[yap];refine⟨_,rfl,r2,rfl,⟨_,SqL.of (sx _ _ e2)⟩,?_⟩;refine zbQ (xs:=ds2.map V.ref) I2 ⟨sx,kvs,sb,ek,by rw[List.take_zero,List.map_nil,xBu];exact kd,rfl⟩ (λi σ H' _ h=>SqL.of (h.1 _ _ e2)) ?_ ?_
  ·rintro j x σ H10 hx ⟨sy,kvs,sb,ek,kd,rfl⟩;rw[xAd]at hx;obtain⟨d2,ed2,rfl⟩:=xBD.mp hx;obtain⟨v,ev,hv⟩:=t2.2 j d2 ed2;have hvm:=(memB v).mp (xAS ev);refine⟨_,rfl,_,rfl,_,rfl,_,rfl,tb,fa,pa,la,d,d2,p,m,t,b,true,u,v,rfl,T.same (s9.trans sy),sy _ _ hu,λH' s=>SqT.of (s _ _ (sy _ _ hv)),by rw[hum.1];lia,hum.lt G,hvm.lt G,λr H11 s11 nr er=>?_⟩;have li:i<LA.length:=(xAh.mp eu).1;have lj:j<LB.length:=(xAh.mp ev).1;have lt:i*LB.length+LB.length<=LA.length*LB.length:=by
    rw[<-Nat.succ_mul];exact Nat.mul_le_mul_right _ li
   have ek:=s11 _ _ ek;have s12:=ydb (o:=.dT (putK kvs (kN (addL p m u v)) (.bl true))) (sy.trans s11) hD2;refine⟨D2,_,rfl,DPut.t ek (k:=kN (addL p m u v)) (by rw[er];unfold kN;rw[xAH];rfl) (xAv (m:=5000) (by have:=kd.len;lia) (szl _)),?_⟩;refine⟨s12,_,_,zaa,?_,rfl⟩;rw[zat ev,xAk,<-xBo];exact kd.put _ _
  ·rintro σ H10 ⟨sy,kvs,sb,ek,kd,rfl⟩;refine⟨sy,kvs,_,_,ek,?_,rfl⟩;rw[zat eu,List.flatMap_append,List.flatMap_cons,List.flatMap_nil,xBu,Nat.succ_mul];have e:(ds2.map V.ref).length=LB.length:=by rw[xA1,t2.1]
   rw[e,xBv]at kd;exact kd
 ·rintro σ H9 ⟨sx,kvs,sa,sb,ek,kd,rfl⟩;have e:(ds1.map V.ref).length=LA.length:=by rw[xA1,t1.1]
  rw[e,xBv]at kd;have sx:=s9.trans sx;have km:∀k,k∈kvs.map (·.1)↔k∈(lwL p m t root n MJ few (n-MJ.length)).map kN:=λk=>by
   rw[kd.mem,xA9,xA9];refine⟨λ⟨w,hw,ew⟩=>⟨w,?_,ew⟩,λ⟨w,hw,ew⟩=>⟨w,?_,ew⟩⟩
   ·obtain⟨u,hu,hv⟩:=List.mem_flatMap.mp hw;obtain⟨v,hv,ev⟩:=xA9.mp hv;exact(memJ w).mpr ((hall w).mpr ⟨u,v,(memA u).mp hu,(memB v).mp hv,ev.symm⟩)
   ·obtain⟨u,v,hu,hv,ev⟩:=(hall w).mp ((memJ w).mp hw);exact List.mem_flatMap.mpr ⟨u,(memA u).mpr hu,xA9.mpr ⟨v,(memB v).mpr hv,ev.symm⟩⟩
  have kp:(kvs.map λp=>p.1.map kI).Perm ((lwL p m t root n MJ few (n-MJ.length)).map cN):=by
   have:=(yfN kd.nd (zhR (λa b=>zhL) ndJ) km).map (List.map kI);rw[xAH,xAH]at this;rw[show(lwL p m t root n MJ few (n-MJ.length)).map cN=(lwL p m t root n MJ few (n-MJ.length)).map (List.map kI ∘ kN) from xAL λu _=>(zhd u).symm];exact this
  refine⟨_,rfl,D2,kvs,rfl,ek,λq hq=>?_,λl5 M5 hl5 pm5 at5 so5=>?_⟩
  ·obtain⟨w,hw,ew⟩:=xA9.mp ((km q.1).mp (xA9.mpr ⟨q,hq,rfl⟩));exact⟨cN w,(wl ((memJ w).mp hw)).1,by rw[<-ew];unfold kN cN;rw[xAH];rfl⟩
  have s13:=yaa hl5 (.lst (M5.map λp=>V.ref p.1));refine⟨_,rfl,_,rfl,tb,fa,pa,la,wj,mj,p,m,t,b,few,root,n,MJ,rfl,T.same (sx.trans s13),hJ.same (sx.trans s13),WJ.few1,f6,WJ.fewm,WJ.r0,WJ.rq,WJ.ord,by lia,lJ,zj,λr6 ds6 H12 s14 e6 t6=>?_⟩;have dJ:=yez t6;have aJ:=zf9 t6;refine⟨r6,prL ds6 _,rfl,SqL.of (by rw[zeo t6];exact e6),λp hp=>SqT.of (by obtain⟨_,_,_,h⟩:=aJ p hp;exact h),.inl λp hp=>(by obtain⟨u,hu,e,_⟩:=aJ p hp;rw[e];exact(wl ((memJ u).mp hu)).1),λl7 M7 hl7 pm7 so7=>?_⟩;have s15:=yaa hl7 (.lst (M7.map λp=>V.ref p.1));have eM:=yeA ((pm5.trans kp).trans (by rw[<-dJ];exact(pm7.map (·.2)).symm)) so5 so7;have lM:M5.length=M7.length:=by have:=congrArg List.length eM;rwa [xA1,xA1]at this
  refine⟨l5,l7,2,_,_,rfl,rfl,by decide,SqL.of (s15 _ _ (s14 _ _ zaa)),SqL.of zaa,by rw[xA1,xA1,lM],ydu (λp hp=>?_) (λp hp=>SqT.of (by obtain⟨_,_,_,h⟩:=aJ p (pm7.mem_iff.mp hp);exact s15 _ _ h)) eM (λp hp=>?_),?_⟩
  ·exact Same.tup (s13.trans (s14.trans s15)) (at5 p hp)
  ·have:=(pm5.trans kp).mem_iff.mp (xA9.mpr ⟨p,hp,rfl⟩);obtain⟨u,hu,e⟩:=xA9.mp this;rw[<-e];exact(wl ((memJ u).mp hu)).2
  exact q _ (sx.trans (s13.trans (s14.trans s15)))
end
end My
end
section
namespace My
open PySem L2 Dg
theorem yfC{x:Int}(h:x.natAbs<2^400):Builtin.Int.intBits x<=2^20:=by
 unfold Builtin.Int.intBits;split
 ·exact xAR _
 ·rename_i h0;have h1:x.natAbs.log2<400:=by
   rcases xBe x.natAbs with h2|h2
   ·rw[h2];decide
   ·exact(Nat.log2_lt (xBy h2)).mpr h
  lia
theorem zfM{q n:Nat}(h1:q<=64)(h2:n<=63):((q^n:Nat):Int).natAbs<2^400 :=
 xBr (xAz (Nat.pow_le_pow_left h1 n) (xAM (by decide) h2)) (by decide)
theorem ybN{K:PySem.W.Frag}{few root:Nat}{M:List Nat}{F3:List Nat}(hf:H fa=some (.tup (F3.map Vn)))(l3:F3.length<=500)(ha:WhAt H wa fa mk few root M)(hb:WhAt H wb fa mk' few root M)(hl:M.length<=500):Eqv K H 4 (.ref wa) (.ref wb):=by
 have row:∀ {x y:Addr} {L:List Nat} {k:Nat},H x=some (.tup (L.map Vn))->H y=some (.tup (L.map Vn))->L.length<=500->Eqv K H (k+2) (.ref x) (.ref y):=λ{x y L k} hx hy hL=>.inr (.inr ⟨x,y,_,_,rfl,rfl,SqT.of hx,SqT.of hy,rfl,by rw[xA1];exact hL,λi u v hu hv=>by
  rw[hu]at hv;cases hv;rw[xAd]at hu;obtain⟨z,_,rfl⟩:=xBD.mp hu;exact .inl ⟨_,rfl,rfl⟩⟩)
 refine .inr (.inr ⟨wa,wb,_,_,rfl,rfl,SqT.of ha.w,SqT.of hb.w,rfl,(by show 4<=500;decide),λi x y hx hy=>?_⟩);rcases i with _|_|_|_|i
 ·cases hx;cases hy;exact row hf hf l3
 ·cases hx;cases hy;exact .inl ⟨_,rfl,rfl⟩
 ·cases hx;cases hy;exact .inl ⟨_,rfl,rfl⟩
 ·cases hx;cases hy;exact row ha.k hb.k hl
 ·exact absurd hx (by simp)
def unN(A B:List Nat)(n:Nat):List Nat:=(List.range n).filter λx=>decide (x∈A++B)
theorem zg4{A B:List Nat}{n:Nat}(a:∀x∈A,x<n)(b:∀x∈B,x<n)(x:Nat):x∈unN A B n↔x∈A\/x∈B:=by
 unfold unN;rw[xAU,xBk,xAr,xAt];exact⟨λh=>h.2,λh=>⟨h.elim (a x) (b x),h⟩⟩
theorem zg3{A B:List Nat}{n:Nat}:(unN A B n).Pairwise (· < ·):=xBM _ List.pairwise_lt_range
theorem zco{A B:List Nat}(h:A.Pairwise (· < ·)):(zax A B).Pairwise (· < ·):=xBM _ h
section
variable {P:Program} {w:World} {mg:Str->Option Value} {base:Heap} {f:Addr} {fd:FuncData}
theorem zaP:yag ["_law_script","_law_purse_here","_law_turn","_law_way","_law_table_here","_law_one","_law_n","_law_q","_law_other","_law_either","_law_met","_law_shared","_law_joined","_law_few","_law_small"] ["_law_script"] (yac zc8):=⟨rfl,rfl,rfl,by decide +kernel,rfl,by decide +kernel,by decide +kernel⟩
theorem zhs(B:Bl mg)(xC7:Has P w K mg base 1 "_law_purse" ["_law_script"] (ydq K))(xC3:Has P w K mg base 1 "_law_pick" ["_law_purse_here","_law_many"] zbH)(xCe:Has P w K mg base 5 "_law_wheel" ["_law_purse_here","_law_most"] ybR)(xCb:Has P w K mg base 6 "_law_small_wheel" ["_law_purse_here","_law_most","_law_listed"] ycv)(xCa:Has P w K mg base 2 "_law_round" ["_law_table_here","_law_one"] yaV)(xC8:Has P w K mg base 1 "_law_raised" ["_law_one","_law_many"] yaf)
  (xC2:Has P w K mg base 2 "_law_other_marks" ["_law_purse_here","_law_n","_law_q","_law_marks"] zbW) (xCi:Has P w K mg base 2 "meet" ["one","other"] (zdQ K)) (xCh:Has P w K mg base 2 "join" ["one","other"] (ydZ K)) (xBZ:Has P w K mg base 3 "_law_many_words" ["_law_table_here","_law_wheel_here"] ydp) (xCg:Has P w K mg base 5 "_law_words_right" ["_law_table_here","_law_one","_law_other","_law_met","_law_joined"] zdk) (F:Fun K "law" "law" zc8 f fd):FnOk P w K mg base CX0 7 f fd ["_law_script"] (zcP K):=by
 refine F.ok zaP (λvs H Q E h=>?_) (λcdv A outer s H vs Q E hr h=>?_)
 ·obtain⟨a,ns,rfl,_⟩:=h;rfl
 obtain⟨a,ns,rfl,ha,q⟩:=h;refine⟨_,((1<|>zaP.nd<|>(xC7<$>((pv 0)>=>zab)))<=<((↑(yab>=>zab))<&>((2&&&zaP.nd),((3<|>zaP.nd<|>(xC3<$>((pv 1)>=>yab>=>zab)))<=<((xCe<$>((pv 1)>=>(yai<<<(@yax _ _ _ _ (yab>=>yab>=>yab>=>yab>=>zab))<<<(pv 3))>=>zab))≈((4&&&zaP.nd)∩((5&&&zaP.nd)∩yaB)))<=<((zgY∪(pv 3)∪yab)*>((~~~((xCb<$>((pv 1)>=>yab>=>yab>=>zab))≈((4&&&zaP.nd)∩((5&&&zaP.nd)∩yaB)))),yam))<=<(@zbj _ _ 6 7 _ _ _ _ _ _ _ _ _ _ _ rfl zaP.nd rfl rfl (by decide) rfl rfl ((xCa<$>((pv 4)>=>(zaq<<<(pv 5)<<<yab)>=>zab))>=>(xC8<$>(((pv 4)⊃yas)>=>(zaq<<<(pv 5)<<<yab)>=>zab))>=>zab) rfl ⋯)<=<(8<|>zaP.nd<|>(zcA|||(@zbA _ _ _ _ _ _ _ _ _ _ yen (pv 5) yb2 (@zbY _ _ _ yab))|||(@yaM _ _ _ _ _ ((xC2<$>((pv 1)>=>(pv 6)>=>(pv 7)>=>(zaq<<<(pv 5)<<<yab)>=>zab))>=>zab))))<=<(@zbr _ 9 _ _ _ _ _ _ _ _ _ ["_law_mark"] ["_law_one","_law_other"] [5,8] _ _ _ _ zaP.nd rfl (Or.inl rfl) (id (α:=CSc ["_law_script","_law_purse_here","_law_turn","_law_way","_law_table_here","_law_one","_law_n","_law_q","_law_other","_law_either","_law_met","_law_shared","_law_joined","_law_few","_law_small"] (yac zc8) ["_law_mark"] ["_law_one","_law_other"] [5,8] _) ⟨by rfl,by decide +kernel,by decide +kernel,by decide +kernel,by decide +kernel,by rfl,by decide +kernel⟩) rfl (↑((pv 6)>=>zab)) (λcl C fp s H=>(0⊇["_law_mark","_law_one","_law_other"])) (λ_ _ _ _ _=>(@zaS _ _ _ (@zbL _ _ _ _ _ _ _ _ (ybY (K:=K) rfl) (pv 0) ((ygk (K:=K) rfl)|||((zbM (K:=K) rfl)<<<(pv 1)<<<yab)|||((zbM (K:=K) rfl)<<<(pv 2)<<<yab)) (by with_unfolding_all rfl)))) (λ_ _ _ _ _=>(pv 0)) ⋯ (by intro _;rfl) (by trivial))<=<(10<|>zaP.nd<|>(zcA|||(@zbA _ _ _ _ _ _ _ _ _ _ yen (pv 5) yb2 (@zbY _ _ _ yab))|||(@yaM _ _ _ _ _ ((zal<*("tuple",zaj,((pv 9)>=>zab)))>=>zab))))<=<(@zbr _ 11 _ _ _ _ _ _ _ _ _ ["_law_mark"] ["_law_other"] [8] _ _ _ _ zaP.nd rfl (Or.inl rfl) (id (α:=CSc ["_law_script","_law_purse_here","_law_turn","_law_way","_law_table_here","_law_one","_law_n","_law_q","_law_other","_law_either","_law_met","_law_shared","_law_joined","_law_few","_law_small"] (yac zc8) ["_law_mark"] ["_law_other"] [8] _) ⟨by rfl,by decide +kernel,by decide +kernel,by decide +kernel,by decide +kernel,by rfl,by decide +kernel⟩) rfl (@zem _ _ _ _ (zaq<<<(pv 5)<<<yab)) (λcl C fp s H=>(0⊇["_law_mark","_law_other"])) (λ_ _ _ _ _=>(@zaS _ _ _ (@zbL _ _ _ _ _ _ _ _ (ybY (K:=K) rfl) (pv 0) ((zbM (K:=K) rfl)<<<(pv 1)<<<yab) (by with_unfolding_all rfl)))) (λ_ _ _ _ _=>(pv 0)) ⋯ (by intro _;rfl) (by trivial))<=<(12<|>zaP.nd<|>(zcA|||(@zbA _ _ _ _ _ _ _ _ _ _ yen (pv 5) yb2 (@zbY _ _ _ yab))|||(@yaM _ _ _ _ _ ((zal<*("tuple",zaj,((pv 11)>=>zab)))>=>zab))))<=<((@PW.pt _ _ _ (@zeN _ _ _ _ _ _ _ (yfq∪((zbD hr.gd hr.units)>>>("repr",PyProof.Rows.boot_repr,((xCi<$>((pv 5)>=>(pv 8)>=>zab))>=>zab)))∪((zbD hr.gd hr.units)>>>("repr",PyProof.Rows.boot_repr,((pv 10)>=>zab)))) (@ycX _ _ _ _ (yfq∪((zbD hr.gd hr.units)>>>("repr",PyProof.Rows.boot_repr,((xCh<$>((pv 5)>=>(pv 8)>=>zab))>=>zab)))∪((zbD hr.gd hr.units)>>>("repr",PyProof.Rows.boot_repr,((pv 12)>=>zab)))))))*>((~~~(yc4⁻¹)),yam))<=<((@PW.pt _ _ _ (@zeN _ _ _ _ _ _ _ ((yeB hr.units)∪(xCi<$>((pv 8)>=>(pv 5)>=>zab))∪(pv 10)) (@ycX _ _ _ _ ((yeB hr.units)∪(xCh<$>((pv 8)>=>(pv 5)>=>zab))∪(pv 12)))))*>((~~~(yc4⁻¹)),yam))<=<((@PW.pt _ _ _ (@zeN _ _ _ _ _ _ _ ((yeB hr.units)∪(xCi<$>((pv 5)>=>(pv 5)>=>zab))∪(pv 5)) (@ycX _ _ _ _ ((yeB hr.units)∪(xCh<$>((pv 5)>=>(pv 5)>=>zab))∪(pv 5)))))*>((~~~(yc4⁻¹)),yam))<=<(13<|>zaP.nd<|>(yfe|||(xBZ<$>((pv 4)>=>(pv 5)>=>zab))|||(xBZ<$>((pv 4)>=>(pv 8)>=>zab))))<=<(14<|>zaP.nd<|>(@yhI _ _ _ _ _ _ _ (@zcm _ _ _ _ _ _ _ _ zgY (pv 3) yab (ycT _)) (@yhV _ _ _ _ _ (@zcm _ _ _ _ _ _ _ _ yhB (pv 13) yab (ycT _)))))<=<(~~~((@PW.pt _ _ _ (@yeZ _ _ _ _ _ _ _ (@zep _ _ _ (pv 14) (by intro _;rfl)) (@ydS _ _ _ _ (@zgx _ _ _ _ (@zep _ _ _ (xCg<$>((pv 4)>=>(pv 5)>=>(pv 8)>=>(pv 10)>=>(pv 12)>=>zab)) (by intro _;rfl))))))*>((~~~(yc4⁻¹)),yam))))))<=<(~~~(yc4⁻¹))),?_⟩
 try dsimp only[cxOf]
 refine⟨_,rfl,a,ns,rfl,ha,λpu g H1 n1 n2 s1 hP=>?_⟩;refine⟨3,rfl,by decide,by decide,?_⟩
 let I1:Nat->St->Hp->Prop:=λi σ H'=>Pu H' pu g/\∃s2 s3 s4 s5 s6 s7 s8 s9 s10 s11 s12 s13 s14,σ=[some (.ref a),some (.ref pu),s2,s3,s4,s5,s6,s7,s8,s9,s10,s11,s12,s13,s14]
 refine zaD (n:=3) I1 ⟨hP,none,none,none,none,none,none,none,none,none,none,none,none,none,rfl⟩ ?_ (λσ H' _=>q _);rintro j σ H2 hj ⟨hP2,s2,s3,s4,s5,s6,s7,s8,s9,s10,s11,s12,s13,s14,rfl⟩;refine⟨_,rfl,pu,g,4,rfl,hP2,by decide,by decide,λway H3 hway hP3 sx3=>?_⟩;dsimp only[yap];refine⟨_,rfl,szl 4,λl0 hl0=>?_⟩;have sl:=yaa hl0 (.lst [.int 9,.int 15,.int 15,.int 63]);obtain⟨top,htop,top63,etop⟩:∃top:Nat,1<=top/\top<=63/\atI [V.int 9,.int 15,.int 15,.int 63] (way:Int)=some (Vn top):=by
  have:way=0\/way=1\/way=2\/way=3:=by lia
  rcases this with rfl|rfl|rfl|rfl
  ·exact⟨9,by decide,by decide,rfl⟩
  ·exact⟨15,by decide,by decide,rfl⟩
  ·exact⟨15,by decide,by decide,rfl⟩
  ·exact⟨63,by decide,by decide,rfl⟩
 refine⟨_,rfl,l0,_,_,Vn top,rfl,rfl,SqL.of zaa,etop,?_⟩;refine⟨pu,g,top,rfl,hP3.same sl,htop,λr0 tb0 fa0 pa0 la0 wh0 mk0 p0 m0 t0 b0 few0 root0 n0 marks0 H4 er0 T0 ap0 hW0 nwh0 nmk0 nr0 W0 hn0' hP4 sx4=>?_⟩;refine⟨r0,_,rfl,SqT.of er0,rfl,_,_,rfl,_,_,rfl,rfl,?_⟩;dsimp only[yap]
 let I2:St->Hp->Prop:=λσ H'=>Ex15 λ(tb fa pa la wh mk:Addr) (p m t b few root n:Nat) (marks:List Nat) (s15:Option V)=>An8 (Tab H' tb fa pa la p m t b) (zfE pu g tb fa pa la) (WhAt H' wh fa mk few root marks) (wh≠pu/\wh≠g) (mk≠pu/\mk≠g) (Whl p m t few root n marks) (Pu H' pu g) (σ=[some (.ref a),some (.ref pu),some (.int (0+(j:Int))),some (Vn way),some (.ref tb),some (.ref wh),s6,s7,s8,s9,s10,s11,s12,s13,s14])
 refine yaU I2 ?_ ?_
 rotate_left
 ·intro D' _ _ _ hD;refine⟨_,rfl,_,_,rfl,rfl,_,rfl,?_⟩;refine ite2 (λc=>?_) (λc=>?_)
  ·refine⟨_,rfl,pu,g,9,64,rfl,hP4,by decide,by decide,λr tb fa pa la wh mk p m t b few root n marks H5 er T ap hW nwh nmk W hsz hP5 sx5=>?_⟩;refine⟨r,_,rfl,SqT.of er,rfl,_,_,rfl,_,_,rfl,rfl,?_⟩;exact hD _ _ ⟨tb,fa,pa,la,wh,mk,p,m,t,b,few,root,n,marks,none,T,ap,hW,nwh,nmk,W,hP5,rfl⟩
  ·exact hD _ _ ⟨tb0,fa0,pa0,la0,wh0,mk0,p0,m0,t0,b0,few0,root0,n0,marks0,none,T0,ap0,hW0,nwh0,nmk0,W0,hP4,rfl⟩
 rintro σ H5 ⟨tb,fa,pa,la,wh,mk,p,m,t,b,few,root,n,marks,_,T,ap,hW,nwh,nmk,W,hP5,rfl⟩;clear T0 ap0 hW0 W0 er0;have G:=T.good;have hp:=G.hp;have hm:=G.hm;have hQ:=G.hq;have hnq:=W.nq;have hn0:=W.ord.pos;have hm6:=m_le hp hQ;have hp2:=p_le hp hm hQ;have hfm:few<=m:=Nat.le_of_dvd (by lia) (xBs W.fewm);have hf1:=W.few1;have he1:1<=m/few:=Nat.div_pos hfm (by lia);have he2:m/few<=6:=xAz (Nat.div_le_self _ _) hm6;have hqq:p^few<=64:=xAz (xAM (by lia) hfm) hQ;have hml:marks.length<=n:=zck n marks (W.asc.imp λh=>by lia) W.lt;refine⟨_,rfl,_,rfl,wh,_,_,Vn root,rfl,rfl,SqT.of hW.w,rfl,tb,fa,pa,la,p,m,t,b,root,rfl,T,W.r0,W.rq,λn' o' _=>?_⟩;cases o'.uniq W.ord;refine⟨_,rfl,tb,_,rfl,T.get zdT,_,rfl,wh,_,_,Vn few,rfl,rfl,SqT.of hW.w,rfl,p,few,rfl,hp2,by lia,?_⟩;refine⟨_,_,rfl,?_⟩;refine⟨_,rfl,_,rfl,wh,_,rfl,SqT.of hW.w,by rintro⟨_,h⟩;exact absurd (show HT.sIx 4 4 (some 3)=4 from h) (by decide),λw1 hw1=>?_⟩;have t1:=yaa hw1 (.tup [.ref fa,Vn few,Vn root]);have nw1:=hP5.lt hw1;have hW1:=hW.same t1;refine⟨_,rfl,_,rfl,_,rfl,_,rfl,wh,_,_,.ref mk,rfl,rfl,SqT.of hW1.w,rfl,pu,g,mk,n,p^few,m/few,marks,rfl,hP5.same t1,hW1.k,hn0,by lia,hqq,he1,he2,W.ord.round G W.r0 W.rq W.fewm hf1,by lia,W.lt,W.asc,W.closed,λmr ms H6 e6 hmsa hmsl hmsc hP6 sx6=>?_⟩;have hW6:=hW1.x nwh nmk sx6;have T6:=(T.same t1).x ap sx6;have ew1:H6 w1=some (.tup [.ref fa,Vn few,Vn root]):=sx6 _ _ nw1.1 nw1.2 zaa;refine⟨szl 1,λw2 hw2=>?_⟩;have t2:=yaa hw2 (.tup [.ref mr]);refine⟨w1,w2,[.ref fa,Vn few,Vn root],[.ref mr],rfl,rfl,SqT.of (t2 _ _ ew1),SqT.of zaa,szl 4,λh=>absurd h (by simp),λ_ h=>absurd h (by simp),λ_ _ w3 hw3=>?_⟩;have t3:=yaa hw3 (.tup [.ref fa,Vn few,Vn root,.ref mr]);have sA:Same H6 (upd (upd H6 w2 (.tup [.ref mr])) w3 (.tup [.ref fa,Vn few,Vn root,.ref mr])):=t2.trans t3;have hV:WhAt (upd (upd H6 w2 (.tup [.ref mr])) w3 (.tup [.ref fa,Vn few,Vn root,.ref mr])) w3 fa mr few root ms:=⟨zaa,sA _ _ e6⟩
 dsimp only[yap];change tSeq _ _ _ _ (upd (upd H6 w2 (.tup [.ref mr])) w3 (.tup [.ref fa,Vn few,Vn root,.ref mr]));generalize upd (upd H6 w2 (.tup [.ref mr])) w3 (.tup [.ref fa,Vn few,Vn root,.ref mr])=H7 at sA hV ⊢;have hW7:=hW6.same sA;have T7:=T6.same sA;have hP7:=hP6.same sA;have hmsn:=ya7 hmsa hmsl;have WO:Whl p m t few root n ms:=⟨W.few1,W.fewm,W.r0,W.rq,W.ord,W.nq,hmsa,hmsl,hmsc⟩
 clear t1 t2 t3 sA sx6 ew1 e6 hW1 hW6 T6 hP6;refine⟨_,rfl,(n:Int),rfl,by lia,by lia,?_⟩;refine yao ybC (λk acc H'=>Same H7 H'/\acc=(unN marks ms k).map Vn) ⟨Same.refl _,rfl⟩ (λ_ _ _ _ _=>trivial) ?_ ?_ ?_
 ·rintro k acc H' hk ⟨_,rfl⟩;have:=xBj (λx=>decide (x∈marks++ms)) (List.range k);rw[xAy]at this;rw[xAu]at hk;rw[xA1];exact yah (by show(List.filter _ _).length<=_;lia)
 ·rintro k acc x H8 H9 hk ⟨s8,rfl⟩ ⟨rfl,rfl⟩;rw[xAu]at hk;have hW8:=hW7.same s8;have hV8:=hV.same s8;refine⟨_,rfl,_,rfl,wh,_,_,.ref mk,rfl,rfl,SqT.of hW8.w,rfl,_,rfl,w3,_,_,.ref mr,rfl,rfl,SqT.of hV8.w,rfl,?_⟩;refine ygZ (SqT.of hW8.k) (SqT.of hV8.k) (by rw[xA1,xA1];lia) λr H10 s10 er=>?_
  rw[<-xAk]at er;refine⟨r,_,rfl,.inr er,rfl,za9 (marks++ms),_,rfl,?_⟩;have e:inV (V.int (0+(k:Int))) ((marks++ms).map Vn)=decide (k∈marks++ms):=by rw[show V.int (0+(k:Int))=Vn k from ydY (Int.zero_add _)];exact zbt _ _
  unfold unN;rw[xBz,List.filter_append];refine ite2 (λc=>?_) (λc=>?_)
  ·have c:=e.symm.trans c;refine⟨_,rfl,s8.trans s10,?_⟩;rw[xBx,if_pos c,xAk,show V.int (0+(k:Int))=Vn k from ydY (Int.zero_add _)];rfl
  ·refine⟨s8.trans s10,?_⟩;rw[xBx,if_neg (by rw[<-e];exact c),List.filter_nil,xBu]
 rw[xAu];rintro acc H8 ⟨s8,rfl⟩ D hD;have sD:=yaa hD (.lst ((unN marks ms n).map Vn));have eD:upd H8 D (.lst ((unN marks ms n).map Vn)) D=some (.lst ((unN marks ms n).map Vn)):=zaa;have s8:=s8.trans sD;dsimp only[yap];generalize upd H8 D (.lst ((unN marks ms n).map Vn))=H9 at s8 eD ⊢;have hW9:=hW7.same s8;have hV9:=hV.same s8;have T9:=T7.same s8;have hP9:=hP7.same s8;clear sD s8;refine⟨_,rfl,_,rfl,wh,_,rfl,SqT.of hW9.w,by rintro⟨_,h⟩;exact absurd (show HT.sIx 4 4 (some 3)=4 from h) (by decide),λw4 hw4=>?_⟩;have t1:=yaa hw4 (.tup [.ref fa,Vn few,Vn root]);have ew4:upd H9 w4 (.tup [.ref fa,Vn few,Vn root]) w4=some (.tup [.ref fa,Vn few,Vn root]):=zaa;refine⟨_,rfl,D,_,rfl,.inl ⟨SqL.of (t1 _ _ eD),λmu hmu=>?_⟩⟩;have t2:=yaa hmu (.tup ((unN marks ms n).map Vn));refine⟨szl 1,λw5 hw5=>?_⟩;have t3:=yaa hw5 (.tup [.ref mu]);refine⟨w4,w5,[.ref fa,Vn few,Vn root],[.ref mu],rfl,rfl,SqT.of (t3 _ _ (t2 _ _ ew4)),SqT.of zaa,szl 4,λh=>absurd h (by simp),λ_ h=>absurd h (by simp),λ_ _ wu hwu=>?_⟩;have t4:=yaa hwu (.tup [.ref fa,Vn few,Vn root,.ref mu]);have t5:Same H9 (upd (upd (upd (upd H9 w4 (.tup [.ref fa,Vn few,Vn root])) mu (.tup ((unN marks ms n).map Vn))) w5 (.tup [.ref mu])) wu (.tup [.ref fa,Vn few,Vn root,.ref mu])):=t1.trans (t2.trans (t3.trans t4));have hU:WhAt (upd (upd (upd (upd H9 w4 (.tup [.ref fa,Vn few,Vn root])) mu (.tup ((unN marks ms n).map Vn))) w5 (.tup [.ref mu])) wu (.tup [.ref fa,Vn few,Vn root,.ref mu])) wu fa mu few root (unN marks ms n):=⟨zaa,t4 _ _ (t3 _ _ zaa)⟩
 dsimp only[yap];change tSeq _ _ _ _ (upd (upd (upd (upd H9 w4 (.tup [.ref fa,Vn few,Vn root])) mu (.tup ((unN marks ms n).map Vn))) w5 (.tup [.ref mu])) wu (.tup [.ref fa,Vn few,Vn root,.ref mu]));generalize upd (upd (upd (upd H9 w4 (.tup [.ref fa,Vn few,Vn root])) mu (.tup ((unN marks ms n).map Vn))) w5 (.tup [.ref mu])) wu (.tup [.ref fa,Vn few,Vn root,.ref mu])=H10 at t5 hU ⊢;have hW10:=hW9.same t5;have hV10:=hV9.same t5;have T10:=T9.same t5;have hP10:=hP9.same t5;clear t1 t2 t3 t4 t5 eD ew4 hW9 hV9 T9 hP9 hW7 hV T7 hP7;refine⟨_,rfl,wh,_,_,.ref mk,rfl,rfl,SqT.of hW10.w,rfl,mk,rfl,⟨_,SqT.of hW10.k⟩,?_⟩;refine yao (yce (xs:=marks.map Vn)) (λk acc H'=>H'=H10/\acc=(zax (marks.take k) ms).map Vn) ⟨rfl,rfl⟩ (λi acc H' _ h=>by rw[h.1];exact SqT.of hW10.k) ?_ ?_ ?_
 ·rintro k acc H' hk ⟨_,rfl⟩;rw[xA1]at hk;rw[xA1];have:=xBj (λx=>decide (x∈ms)) (marks.take k);rw[xAC]at this;exact yah (by show(zax (marks.take k) ms).length<=1000;unfold zax;lia)
 ·rintro k acc x H' H'' hk ⟨rfl,rfl⟩ ⟨rfl,ez⟩;rw[xA1]at hk;rw[zaU hk]at ez;cases ez;have hg:marks[k]?=some (marks.getD k 0):=by simp[List.getD,hk]
  unfold zax;rw[zat hg,List.filter_append];refine⟨_,rfl,_,rfl,w3,_,_,.ref mr,rfl,rfl,SqT.of hV10.w,rfl,mr,_,rfl,.inr (SqT.of hV10.k),rfl,za9 ms,_,rfl,?_⟩;have e:inV (Vn (marks.getD k 0)) (ms.map Vn)=decide (marks.getD k 0∈ms):=zbt _ _;refine ite2 (λc=>?_) (λc=>?_)
  ·have c:=e.symm.trans c;refine⟨_,rfl,rfl,?_⟩;rw[xBx,if_pos c,xAk];rfl
  ·refine⟨rfl,?_⟩;rw[xBx,if_neg (by rw[<-e];exact c),List.filter_nil,xBu]
 rw[xA1,xBv];rintro acc H11 ⟨rfl,rfl⟩ D3 hD3;have t1:=yaa hD3 (.lst ((zax marks ms).map Vn));have eD:upd H11 D3 (.lst ((zax marks ms).map Vn)) D3=some (.lst ((zax marks ms).map Vn)):=zaa;refine⟨_,rfl,_,rfl,wh,_,rfl,SqT.of (t1 _ _ hW10.w),by rintro⟨_,h⟩;exact absurd (show HT.sIx 4 4 (some 3)=4 from h) (by decide),λw6 hw6=>?_⟩;have t2:=yaa hw6 (.tup [.ref fa,Vn few,Vn root]);have ew6:upd (upd H11 D3 (.lst ((zax marks ms).map Vn))) w6 (.tup [.ref fa,Vn few,Vn root]) w6=some (.tup [.ref fa,Vn few,Vn root]):=zaa;refine⟨_,rfl,D3,_,rfl,.inl ⟨SqL.of (t2 _ _ eD),λmj hmj=>?_⟩⟩;have t3:=yaa hmj (.tup ((zax marks ms).map Vn));refine⟨szl 1,λw7 hw7=>?_⟩;have t4:=yaa hw7 (.tup [.ref mj]);refine⟨w6,w7,[.ref fa,Vn few,Vn root],[.ref mj],rfl,rfl,SqT.of (t4 _ _ (t3 _ _ ew6)),SqT.of zaa,szl 4,λh=>absurd h (by simp),λ_ h=>absurd h (by simp),λ_ _ wj hwj=>?_⟩;have t5:=yaa hwj (.tup [.ref fa,Vn few,Vn root,.ref mj]);have t6:Same H11 (upd (upd (upd (upd (upd H11 D3 (.lst ((zax marks ms).map Vn))) w6 (.tup [.ref fa,Vn few,Vn root])) mj (.tup ((zax marks ms).map Vn))) w7 (.tup [.ref mj])) wj (.tup [.ref fa,Vn few,Vn root,.ref mj])):=t1.trans (t2.trans (t3.trans (t4.trans t5)));have hJ:WhAt (upd (upd (upd (upd (upd H11 D3 (.lst ((zax marks ms).map Vn))) w6 (.tup [.ref fa,Vn few,Vn root])) mj (.tup ((zax marks ms).map Vn))) w7 (.tup [.ref mj])) wj (.tup [.ref fa,Vn few,Vn root,.ref mj])) wj fa mj few root (zax marks ms):=⟨zaa,t5 _ _ (t4 _ _ zaa)⟩
 dsimp only[yap];change tSeq _ _ _ _ (upd (upd (upd (upd (upd H11 D3 (.lst ((zax marks ms).map Vn))) w6 (.tup [.ref fa,Vn few,Vn root])) mj (.tup ((zax marks ms).map Vn))) w7 (.tup [.ref mj])) wj (.tup [.ref fa,Vn few,Vn root,.ref mj]));generalize upd (upd (upd (upd (upd H11 D3 (.lst ((zax marks ms).map Vn))) w6 (.tup [.ref fa,Vn few,Vn root])) mj (.tup ((zax marks ms).map Vn))) w7 (.tup [.ref mj])) wj (.tup [.ref fa,Vn few,Vn root,.ref mj])=H12 at t6 hJ ⊢;have hW12:=hW10.same t6;have hV12:=hV10.same t6;have hU12:=hU.same t6;have T12:=T10.same t6;have hP12:=hP10.same t6;clear t1 t2 t3 t4 t5 t6 eD ew6 hW10 hV10 T10 hP10 hU;have iU:=zg4 W.lt hmsl;have aU:(unN marks ms n).Pairwise (· < ·):=zg3;have iJ:=@ycu marks ms;have aJ:(zax marks ms).Pairwise (· < ·):=zco W.asc;generalize unN marks ms n=MU at iU aU hU12;have WU:Whl p m t few root n MU:=⟨W.few1,W.fewm,W.r0,W.rq,W.ord,W.nq,aU,λx hx=>((iU x).mp hx).elim (W.lt x) (hmsl x),λx hx=>(iU _).mpr (((iU x).mp hx).imp (W.closed x) (hmsc x))⟩
 have WJ:Whl p m t few root n (zax marks ms):=⟨W.few1,W.fewm,W.r0,W.rq,W.ord,W.nq,aJ,λx hx=>W.lt x ((iJ x).mp hx).1,λx hx=>(iJ _).mpr ⟨W.closed x ((iJ x).mp hx).1,hmsc x ((iJ x).mp hx).2⟩⟩
 have rdw:∀ {Hx:Hp} {wa mx:Addr} {ms:List Nat},WhAt Hx wa fa mx few root ms->Hx fa=some (.tup [Vn p,Vn m,Vn t])->RdN K Hx 10 (.ref wa) (whD p m t few root ms):=λhX hf=>yfV (SqT.of hX.w) (SqT.of hf) (SqT.of hX.k)
 have dokW:∀ {ms:List Nat},Whl p m t few root n ms->DOk (whD p m t few root ms) (2^20):=λ{ms} hw=>by
  have hl:=ya7 hw.asc hw.lt;have small:DOk (whD p m t few root ms) 2000:=by
   refine yhL (λx hx=>?_) (λx hx=>?_) (by lia)
   ·have:=G.top;have:=W.rq;simp at hx;lia
   ·have:=hw.lt x hx;lia
  exact⟨small.sh,small.nd,small.dp,small.sl,xAz small.we (by decide)⟩
 have lU:=ya7 WU.asc WU.lt;have lJ:=ya7 WJ.asc WJ.lt;have tf:=T12.f;refine⟨_,rfl,_,rfl,wh,w3,fa,mk,mr,few,root,marks,ms,rfl,hW12,hV12,by lia,by lia,λr1 mk1 U1 H13 s13 W13 a13 i13=>?_⟩;cases zaQ a13 aU (λx=>(i13 x).trans (iU x).symm);refine⟨r1,_,rfl,rdw W13 (s13 _ _ tf),dokW WU,?_⟩;refine⟨_,rfl,wu,_,rfl,rdw (hU12.same s13) (s13 _ _ tf),dokW WU,?_⟩;refine⟨rfl,false,by rw[xAD rfl];rfl,?_⟩;refine ite2 (λc=>absurd c (by decide)) (λ_=>?_);refine⟨_,rfl,_,rfl,wh,w3,fa,mk,mr,few,root,marks,ms,rfl,hW12.same s13,hV12.same s13,by lia,λr2 mk2 H14 s14 W14=>?_⟩;have s14:=s13.trans s14;refine⟨r2,_,rfl,rdw W14 (s14 _ _ tf),dokW WJ,?_⟩;refine⟨_,rfl,wj,_,rfl,rdw (hJ.same s14) (s14 _ _ tf),dokW WJ,?_⟩;refine⟨rfl,false,by rw[xAD rfl];rfl,?_⟩;refine ite2 (λc=>absurd c (by decide)) (λ_=>?_);refine⟨_,rfl,_,rfl,w3,wh,fa,mr,mk,few,root,ms,marks,rfl,hV12.same s14,hW12.same s14,by lia,by lia,λr3 mk3 U3 H15 s15 W15 a15 i15=>?_⟩;have s15:=s14.trans s15;cases zaQ a15 aU (λx=>(i15 x).trans (Or.comm.trans (iU x).symm));refine⟨_,rfl,r3,wu,4,rfl,rfl,by decide,ybN (F3:=[p,m,t]) (s15 _ _ tf) (by show 3<=500;decide) W15 (hU12.same s15) (by lia),?_⟩;refine⟨_,rfl,?_⟩;refine ite2 (λc=>absurd c (by decide)) (λ_=>?_);refine⟨_,rfl,_,rfl,w3,wh,fa,mr,mk,few,root,ms,marks,rfl,hV12.same s15,hW12.same s15,by lia,λr4 mk4 H16 s16 W16=>?_⟩;have s16:=s15.trans s16;have eJ:zax ms marks=zax marks ms:=zaQ (zco hmsa) aJ λx=>(ycu x).trans (And.comm.trans (iJ x).symm)
 rw[eJ]at W16;refine⟨_,rfl,r4,wj,4,rfl,rfl,by decide,ybN (F3:=[p,m,t]) (s16 _ _ tf) (by show 3<=500;decide) W16 (hJ.same s16) (by lia),?_⟩;refine⟨_,rfl,?_⟩;refine ite2 (λc=>absurd c (by decide)) (λ_=>?_);refine⟨_,rfl,_,rfl,wh,wh,fa,mk,mk,few,root,marks,marks,rfl,hW12.same s16,hW12.same s16,by lia,by lia,λr5 mk5 U5 H17 s17 W17 a17 i17=>?_⟩;have s17:=s16.trans s17;cases zaQ a17 W.asc (λx=>(i17 x).trans or_self_iff);refine⟨_,rfl,r5,wh,4,rfl,rfl,by decide,ybN (F3:=[p,m,t]) (s17 _ _ tf) (by show 3<=500;decide) W17 (hW12.same s17) (by lia),?_⟩;refine⟨_,rfl,?_⟩;refine ite2 (λc=>absurd c (by decide)) (λ_=>?_);refine⟨_,rfl,_,rfl,wh,wh,fa,mk,mk,few,root,marks,marks,rfl,hW12.same s17,hW12.same s17,by lia,λr6 mk6 H18 s18 W18=>?_⟩;have s18:=s17.trans s18;have eS:zax marks marks=marks:=zaQ (zco W.asc) W.asc λx=>(ycu x).trans and_self_iff
 rw[eS]at W18;refine⟨_,rfl,r6,wh,4,rfl,rfl,by decide,ybN (F3:=[p,m,t]) (s18 _ _ tf) (by show 3<=500;decide) W18 (hW12.same s18) (by lia),?_⟩;refine⟨_,rfl,?_⟩;refine ite2 (λc=>absurd c (by decide)) (λ_=>?_);have hW18:=hW12.same s18;have hV18:=hV12.same s18;have T18:=T12.same s18;refine⟨_,rfl,_,rfl,tb,fa,pa,la,wh,mk,p,m,t,b,few,root,n,marks,rfl,T18,hW18,W,?_⟩;refine⟨_,rfl,_,rfl,tb,fa,pa,la,w3,mr,p,m,t,b,few,root,n,ms,rfl,T18,hV18,WO,?_⟩;refine⟨_,_,rfl,rfl,IntMulOk.of_bits (yfC (zfM hqq (by lia))) (yfC (zfM hqq (by lia))),?_⟩;dsimp only[yap];have hP18:=hP12.same s18;refine⟨_,rfl,_,_,rfl,rfl,_,rfl,?_⟩;refine ite2 (λc=>?_) (λc=>?_)
 ·refine⟨_,rfl,_,_,rfl,rfl,?_⟩;dsimp only[yap];refine⟨_,rfl,_,rfl,?_⟩;refine ite2 (λc=>?_) (λc=>?_)
  ·have sz:(p^few)^(n-marks.length)*(p^few)^(n-ms.length)<=4096:=by
    have:=xAn c;rw[<-Int.natCast_mul]at this;exact Int.ofNat_le.mp this
   refine⟨_,rfl,_,rfl,_,rfl,_,rfl,_,rfl,tb,fa,pa,la,wh,mk,w3,mr,wu,mu,wj,mj,p,m,t,b,few,root,n,marks,ms,MU,zax marks ms,rfl,T18,hW18,hV18,hU12.same s18,hJ.same s18,W,WO,WU,WJ,iU,iJ,sz,λH19 s19=>?_⟩;refine⟨_,rfl,?_⟩;refine ite2 (λc=>absurd c (by decide)) (λ_=>?_);exact⟨hP18.same s19,_,_,_,_,_,_,_,_,_,_,_,_,_,rfl⟩
  ·refine ite2 (λc=>absurd c (by decide)) (λ_=>?_);exact⟨hP18,_,_,_,_,_,_,_,_,_,_,_,_,_,rfl⟩
 ·dsimp only[yap];refine⟨_,rfl,_,rfl,?_⟩;refine ite2 (λc=>absurd c (by decide)) (λ_=>?_);refine ite2 (λc=>absurd c (by decide)) (λ_=>?_);exact⟨hP18,_,_,_,_,_,_,_,_,_,_,_,_,_,rfl⟩
end
end My
end
section
namespace My
open PySem L2 Dg
theorem ygm{K:PySem.W.Frag}{ns:List Int}(hl:ns.length<=63)(hS:SqL K H a (ns.map V.int)):zcP K [.ref a] H (λv _=>v = .bl true) E:=⟨a,ns,rfl,hS,λ_=>rfl⟩
theorem DI.mk{K:PySem.W.Frag}{x:Str}{st:Stmt}{f:Addr}{oc:Value}{od an:Option Addr}{osl:Array (Option Value)}{kV doc pm cdv ct:Value}(a:PySem.W.nsIn K mainGlobals x=some (some (.ref f)))(l:K.lookup f=some ⟨oc,od,.func (PySem.W.fnOf x x (zbG st) (zbl st) (yac st) .none kV doc pm an cdv ct),osl⟩)(c:PySem.W.codeIn K cdv x=true)(k:PySem.W.keepIn K (.ref f)=true):DI K f x st:=⟨_,zgu (st:=st) l c k,a⟩
theorem DI.has{P:Program}{w:World}{K:PySem.W.Frag}{mg:Str->Option Value}{base h:Heap}{f:Addr}{x:Str}{st:Stmt}{n:Nat}{ps:List Str}{sp:Sp}(X:K.In h)(G:h.Ns mainGlobals mg)(q:DI K f x st)(ok:∀fd,Fun K x x st f fd->FnOk P w K mg base CX0 n f fd ps sp)(b:∀(kV doc pm:Value) (an:Option Addr) (cdv ct:Value) (us:List Value),us.length=ps.length->bindArgs (PySem.W.fnOf x x (zbG st) (zbl st) (yac st) .none kV doc pm an cdv ct) ⟨us,[]⟩=pure (ps.zip us)):Has P w K mg base n x ps sp:=by
 obtain⟨fd,F,a⟩:=q;exact⟨f,fd,ok fd F,F.binds b,F.2,PySem.W.mg_of X G a⟩
theorem bl0{P:List Value->Prop}(h:P []):∀us:List Value,us.length=0->P us:=by intro us e;cases us with|nil=>exact h|cons a us=>cases e
theorem blS{n:Nat}{P:List Value->Prop}(h:∀a,∀us:List Value,us.length=n->P (a::us)):∀us:List Value,us.length=n+1->P us:=by intro us e;cases us with|nil=>cases e|cons a us=>exact h a us (Nat.succ.inj e)
theorem zfV{P:List Value->Prop}(h:∀a0,P [a0]):∀us:List Value,us.length=1->P us:=blS λa0=>bl0 (h a0)
theorem ybX{P:List Value->Prop}(h:∀a0 a1,P [a0,a1]):∀us:List Value,us.length=2->P us:=blS λa0=>blS λa1=>bl0 (h a0 a1)
theorem zdx{P:List Value->Prop}(h:∀a0 a1 a2,P [a0,a1,a2]):∀us:List Value,us.length=3->P us:=blS λa0=>blS λa1=>blS λa2=>bl0 (h a0 a1 a2)
theorem yhZ{P:List Value->Prop}(h:∀a0 a1 a2 a3,P [a0,a1,a2,a3]):∀us:List Value,us.length=4->P us:=blS λa0=>blS λa1=>blS λa2=>blS λa3=>bl0 (h a0 a1 a2 a3)
theorem yh0{P:List Value->Prop}(h:∀a0 a1 a2 a3 a4,P [a0,a1,a2,a3,a4]):∀us:List Value,us.length=5->P us:=blS λa0=>blS λa1=>blS λa2=>blS λa3=>blS λa4=>bl0 (h a0 a1 a2 a3 a4)
theorem yg5:GG K:=by
 intro l w h mg fa X G hfa f1 q1 f2 q2 f3 q3 f4 q4 f5 q5 f6 q6 f7 q7 f8 q8 f9 q9 f10 q10 f11 q11 f12 q12 f13 q13 f14 q14 f15 q15 f16 q16 f17 q17 f18 q18 f19 q19 f20 q20 f21 q21 f22 q22 f23 q23 f24 q24 f25 q25 f26 q26 f27 q27 f28 q28 z1 z2 z3 z4 z5 z6 z7 z8 z9 z10 z11 z12 z13 z14 z15 z16 z17 z18 z19 z20 z21;obtain⟨_,⟨⟨oc,od,kV,dc,pm,an,cd,ct,sl,rfl,lL,cL⟩,kL⟩,aL⟩:=q28;have e:=hfa.symm.trans (PySem.W.mg_of X G aL);cases e;have F28:=zgu (st:=zc8) lL cL kL;have B:Bl mg:=xAx.mpr ⟨xAE X G z1,xAx.mpr ⟨xAE X G z2,xAx.mpr ⟨xAE X G z3,xAx.mpr ⟨xAE X G z4,xAx.mpr ⟨xAE X G z5,xAx.mpr ⟨xAE X G z6,xAx.mpr ⟨xAE X G z7,xAx.mpr ⟨xAE X G z8,xAx.mpr ⟨xAE X G z9,xAx.mpr ⟨xAE X G z10,xAx.mpr ⟨xAE X G z11,xAx.mpr ⟨xAE X G z12,xAx.mpr ⟨xAE X G z13,xAx.mpr ⟨xAE X G z14,xAx.mpr ⟨xAE X G z15,xAx.mpr ⟨xAE X G z16,xAx.mpr ⟨xAE X G z17,xAx.mpr ⟨xAE X G z18,xAx.mpr ⟨xAE X G z19,xAx.mpr ⟨xAE X G z20,xAx.mpr ⟨xAE X G z21,(λ_ h=>nomatch h)⟩⟩⟩⟩⟩⟩⟩⟩⟩⟩⟩⟩⟩⟩⟩⟩⟩⟩⟩⟩⟩;refine⟨PySem.W.fnOf "law" "law" (zbG zc8) (zbl zc8) (yac zc8) .none kV dc pm an cd ct,λs v=>.of_eq rfl,λbase _ _=>?_⟩;have M:=λ{f x st n ps sp}=>@DI.has l.prog w K mg base h f x st n ps sp X G
 have xCj:=M q1 (λ_ F=>ygJ B  F) (λ_ _ _ _ _ _=>ybX λ_ _=>rfl);have xCi:=M q2 (λ_ F=>yhd B xCj F) (λ_ _ _ _ _ _=>ybX λ_ _=>rfl);have xCh:=M q3 (λ_ F=>ygR B xCj F) (λ_ _ _ _ _ _=>ybX λ_ _=>rfl);have xC7:=M q4 (λ_ F=>zgl B  F) (λ_ _ _ _ _ _=>zfV λ_=>rfl);have xC3:=M q5 (λ_ F=>zhm B  F) (λ_ _ _ _ _ _=>ybX λ_ _=>rfl);have xC8:=M q6 (λ_ F=>zeV B  F) (λ_ _ _ _ _ _=>ybX λ_ _=>rfl);have xBU:=M q7 (λ_ F=>zfP B  F) (λ_ _ _ _ _ _=>ybX λ_ _=>rfl);have xC1:=M q8 (λ_ F=>zfh B  F) (λ_ _ _ _ _ _=>ybX λ_ _=>rfl);have xC6:=M q9 (λ_ F=>zeS B xBU xC1 F) (λ_ _ _ _ _ _=>zdx λ_ _ _=>rfl);have xBW:=M q10 (λ_ F=>zhc B xC8 xC6 F) (λ_ _ _ _ _ _=>zfV λ_=>rfl);have xBV:=M q11 (λ_ F=>zf5 B xC3 xC8 xBW F) (λ_ _ _ _ _ _=>zfV λ_=>rfl);have xCc:=M q12 (λ_ F=>zgn B xC8 xC6 F) (λ_ _ _ _ _ _=>zfV λ_=>rfl);have xC4:=M q13 (λ_ F=>yf4 B  F) (λ_ _ _ _ _ _=>zdx λ_ _ _=>rfl);have xCd:=M q14 (λ_ F=>zfB B  F) (λ_ _ _ _ _ _=>zdx λ_ _ _=>rfl);have xC0:=M q15 (λ_ F=>zfH B xC4 xCd F) (λ_ _ _ _ _ _=>zdx λ_ _ _=>rfl);have xC5:=M q16 (λ_ F=>zfT B  F) (λ_ _ _ _ _ _=>zdx λ_ _ _=>rfl);have xCa:=M q17 (λ_ F=>zfq B xCd F) (λ_ _ _ _ _ _=>ybX λ_ _=>rfl);have xC9:=M q18 (λ_ F=>yf7 B  F) (λ_ _ _ _ _ _=>zdx λ_ _ _=>rfl);have xCe:=M q19 (λ_ F=>yfi B xC3 xBV xCc xC8 xCa xC9 F) (λ_ _ _ _ _ _=>ybX λ_ _=>rfl);have xBX:=M q20 (λ_ F=>zdY B xC8 xC5 F) (λ_ _ _ _ _ _=>ybX λ_ _=>rfl);have xBY:=M q21 (λ_ F=>yfv B xC5 xC0 xCd F) (λ_ _ _ _ _ _=>ybX λ_ _=>rfl);have xBT:=M q22 (λ_ F=>zf4 B xC4 F) (λ_ _ _ _ _ _=>zdx λ_ _ _=>rfl);have xCf:=M q23 (λ_ F=>zfd B xCa xBY xBX xCd (yif xBT) F) (λ_ _ _ _ _ _=>ybX λ_ _=>rfl);have xBZ:=M q24 (λ_ F=>zgh B xCa xC8 F) (λ_ _ _ _ _ _=>ybX λ_ _=>rfl);have xCb:=M q25 (λ_ F=>zfi B xCe xCa xC8 xC3 xC9 F) (λ_ _ _ _ _ _=>zdx λ_ _ _=>rfl);have xC2:=M q26 (λ_ F=>zeE B xC3 xC9 F) (λ_ _ _ _ _ _=>yhZ λ_ _ _ _=>rfl);have xCg:=M q27 (λ_ F=>yfZ B xCf xBT F) (λ_ _ _ _ _ _=>yh0 λ_ _ _ _ _=>rfl);exact zhs (P:=l.prog) (w:=w) (base:=base) B xC7 xC3 xCe xCb xCa xC8 xC2 xCi xCh xBZ xCg F28
theorem all_mk(K:PySem.W.Frag):GG K:=K_of yg5 K
theorem walk{l:PySem.W.OpenLaw}{XP:(Str->Option Value)->Heap->Prop}{YP:World->Heap->Prop}{d:DefRec}{K:Params->PySem.W.Frag}(hn:l.most=some 63)(hdf:d.params.defaults=[])
  (hY:∀(w:World) (h:Heap),YP w h->(K w.params).In h)
  (F:∀(w:World) (mg:Str->Option Value) (fa:Addr) (h:Heap),(K w.params).In h->h.Ns mainGlobals mg->mg d.name=some (.ref fa)->
   ∃fd:FuncData,(∀(s:Shared) (u:Value),BindsTo s fd ⟨[u],[]⟩ [("_law_script",u)])/\∀base:Heap,(K w.params).In base->base.Ns mainGlobals mg->FnOk l.prog w (K w.params) mg base CX0 7 fa fd ["_law_script"] (zcP (K w.params))) :
  PySem.W.WalkO q loose XP YP l.row.toRowW d [] (λf vs=>PySem.call f vs) :=
 L2.walk_of (n:=63) (k:=7) (x:="_law_script") (CX:=λ_=>CX0) (sp:=λw=>zcP (K w.params)) hn (by decide) hdf ⟨rfl,by decide,by decide,rfl⟩ hY F (λ_ _ a ns hl _ hS=>ygm hl hS) λ_ _ _ _ _ z=>z
end My
namespace PySem.W.Fast
def tw18142198597147706316:=0
def tw18249352402896225278:=0
def tw17701345205666201168:=0
def tw15124120547379377140:=0
def tw14631009350886603282:=0
def tw14503996151045929774:=0
def tw13649878650233592690:=0
def tw10052483254112790821:=0
def tw4282593461323151915:=0
def tw10990615864639521962:=0
def tw5931610138012037921:=0
def tw18144220508265940424:=0
def tw8675064145494968911:=0
def tw12417011364434023938:=0
def tw13791981097264402526:=0
def tw2391343569575208968:=0
def tw8796989674670566746:=0
def tw1011345124098577062:=0
def tw1298040015970772088:=0
def tw3400013419581245271:=0
def tw3952000970820067:=0
def tw17281260879798016936:=0
def tw12606255628361030471:=0
def tw16405396429117469684:=0
def tw16458073259507854739:=0
def tw9524627536210761976:=0
def tw15021909527790173988:=0
def tw3253604334916184729:=0
def tw16970623369897857636:=0
def tw267408380535644109:=0
def tw4603793314210531109:=0
def tw3524967675790701785:=0
def tw15995897861706013860:=0
def tw12193160021478113271:=0
def tw13022418938342203947:=0
def tw8330625607843991360:=0
def tw13072551791164180399:=0
def tw6586677750376436121:=0
def tw15291053716642763149:=0
def tw16881273052959370582:=0
def tw12306569043705426307:=0
def tw8901559095280920876:=0
def tw16558906418022144552:=0
def tw7452287219971102831:=0
def tw4141353439781217929:=0
def tw15007451456199675903:=0
def tw13758911761451236176:=0
def tw17850114741193621482:=0
def tw14439808476759237754:=0
def tw15085063290144749596:=0
def tw5060597515675713792:=0
def tw11290534665032562297:=0
def tw4806455270364725327:=0
def tw3704768753174503104:=0
def tw17038433305175961094:=0
def tw13717046119680726794:=0
def tw6196657565640495066:=0
def tw7066224330835649870:=0
def tw7117723760415535544:=0
def tw408054396326702621:=0
def tw11673002947776110765:=0
def tw10035983142432362383:=0
def tw16379070646629853177:=0
def tw16129303303789578154:=0
def tw16380019382894197858:=0
def tw882229041766407523:=0
def tw13498278968166406357:=0
def tw6941189366590296483:=0
def tw1174150327851958206:=0
def tw16865766914374806763:=0
def tw14479365629427807974:=0
def tw5095458825972625949:=0
def tw2497243307969967091:=0
def tw2637447426822686459:=0
def tw8111876491717842296:=0
def tw1352177327684082464:=0
def tw11385618207357017151:=0
def tw12058931897789213428:=0
def tw2184433610797045769:=0
def tw2915849710509677499:=0
def tw16062456296786681682:=0
def tw5335149181012633252:=0
def tw3940259934393581578:=0
def tw13226410282966433127:=0
def tw10796480647807579011:=0
def tw1733322092660887320:=0
def tw4132676430928275763:=0
def tw11374541404888590547:=0
def tw16319859554525315642:=0
def tw3130383105322658482:=0
def tw7299908902079815877:=0
def tw5706540912431255440:=0
def tw15267393817566066902:=0
def tw15666706041240546175:=0
def tw14229278439307974190:=0
def tw5254555113029032298:=0
def tw5379200364459366921:=0
def tw13061258656517873540:=0
def tw3801308465524624086:=0
def tw951876751730275203:=0
def tw11833071335670015811:=0
def tw7556423130716190875:=0
def tw1073621869234718684:=0
def tw10594978882292220356:=0
def tw10102696806889372227:=0
def tw4107660793625862669:=0
def tw10924107656866170114:=0
def tw5861762062632561627:=0
def tw11720781308061081813:=0
def tw6440166642463909465:=0
def tw9541545500703153427:=0
def tw12862923224037345293:=0
def tw4227964346955200382:=0
def tw9856335366556098271:=0
def tw9795948770511364794:=0
def tw7289171544771911303:=0
def tw5443768428616028055:=0
def tw5682934727455957787:=0
def tw8848527279329638826:=0
def tw15866615854471239654:=0
def tw4649801148428112423:=0
def tw10970198023655728679:=0
def tw282231259434873539:=0
def tw4713219463066800266:=0
def tw17920220180141011063:=0
def tw1008167964569909829:=0
def tw10951880249907276932:=0
def tw9440666159364682574:=0
def tw13181296675724994201:=0
def tw3884467526219557602:=0
def tw17874552301878080459:=0
def tw17132889273592851102:=0
def tw1905806835735471707:=0
def tw5305897989286431329:=0
def tw4277194142949793171:=0
def tw10219521572838684779:=0
def tw113102520233744715:=0
def tw5067928132041588383:=0
def tw313495948549351638:=0
def tw6592392145393700435:=0
def tw12561796484132818966:=0
def tw14878384614091719338:=0
def tw7386749760373983414:=0
def tw3273382851173704728:=0
def tw17223336567334285839:=0
def tw4173647780198539574:=0
def tw15036047713389154910:=0
def tw2165534240143658692:=0
def tw12999247832509872830:=0
def tw2645956354353675511:=0
def tw15652505773618845917:=0
def tw842385795482271882:=0
def tw5955138326201280811:=0
def tw4548257502687026772:=0
def tw7905070012973737044:=0
def tw530350748044424831:=0
def tw4886352298784619229:=0
def tw17646832053062617965:=0
def tw1663852551093512093:=0
def tw7853423875808255187:=0
def tw14743860635015373082:=0
def tw15286573820866825295:=0
def tw3981422118270343053:=0
def tw8815531221490468093:=0
def tw18349080015902302792:=0
def tw6855848250409010558:=0
end PySem.W.Fast
open PySem PySem.W PyProof.Rows
set_option maxRecDepth 100000 in
set_option maxHeartbeats 0 in
theorem PySem.Challenge.cw_roundwords_k48_meets_and_joins_holds : PySem.Challenge.rw_roundwords_k48_meets_and_joins.Holds := by
 w_on;refine holds_law zhI λsaid=>?_;k_head;(case hw=>w_witness2)
 k_fill
 refine My.walk (l:=PySem.Challenge.rw_roundwords_k48_meets_and_joins) rfl rfl (λw h Y=>PySem.W.kIn_of Y) ?F
 case F=>
  intro w mg fa h KX G hmg;apply My.all_mk _ KX G hmg
  all_goals first|(apply My.DI.mk <;> k_is)|k_is
#print axioms PySem.Challenge.cw_roundwords_k48_meets_and_joins_holds
end
