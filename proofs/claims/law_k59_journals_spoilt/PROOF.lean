import PyProof.Rows.All
import Wide.All
import OpenK.AllK
import Wide.FinOn
import Lean
import PyProof.EqAt
import PyProof.EqKinds
import PyProof.TupleCall
import PyProof.CallStr
import PyProof.DictTruth
import PyProof.Draws
import PyProof.EnumMake
import PyProof.ListRange
import PyProof.MeetsStr
import PyProof.P3Eq
import PyProof.Rows.CallKw2
import PyProof.Rows.CountFlat
import PyProof.Rows.FStr
import PyProof.Rows.Range3
import PyProof.Rows.StrJoin2
import PyProof.Rows.StrNews
import PyProof.Rows.ZipGen
import PyProof.StrBlockI
import PyProof.StrCalls
import PyProof.StrCalls5
import PyProof.StrOps2
import PyProof.StrWalks
import PyProof.SumAny
import PyProof.ZipIter
import PySem.Challenge.RW_signbench_k59_journals_spoilt
local macro_rules|`(tactic|erw[$[$e:term],*]$[$l:location]?)=>`(tactic|simp only[$[$e:term],*]$[$l:location]?)
open List renaming mem_append_right→b9,mem_append_left→i3,mem_cons_of_mem→i4,mem_append→i5,length_cons→i7,mem_cons→i8,append_nil→i9,map_cons→l6,replicate→l7,length_append→l8,size_toArray→l9,length_map→m7,cons_append→m8,mem_map→m9,nil_append→n5,length_nil→n9,mem_cons_self→o0,append_assoc→t5,map_nil→t7,not_mem_nil→t9,lookup_cons→A3,getElem_mem→A4,all_eq_true→A6,set_cons_zero→A7,forall_mem_cons→A8,map_append→A9,mem_singleton→B0,drop_eq_getElem_cons→B2,take_of_length_le→B3,reverse_cons→B4,set_cons_succ→B5,replicate_succ→B6,map_map→B7,length_take→C2,take_append_drop→C3,drop_eq_nil_of_le→C6,Nodup→C7,length_drop→C8,map_congr_left→C9,reverse_nil→D1,map_singleton→D3,drop_zero→D4,flatten_cons→D5,dropLast_concat_getLast→D6,take_succ_cons→D7,mem_of_mem_take→E4,reverse_append→E5,drop_drop→E6,sum_cons→E7,length_reverse→E9,nodup_cons→F2,mem_filterMap→F3,any_cons→L5,mem_of_mem_drop→L6,filterMap_cons→N2,drop_succ_cons→N3,takeWhile_cons→N4,range→N6,foldl→N7,mem_or_eq_of_mem_set→O0,length→O1,map_take→O4,all_cons→O9,suffix_refl→P1,length_eq_zero_iff→P4,all_map→P8,of_mem_zip→P9,length_set→R0,length_replicate→R1,length_singleton→R3,takeWhile_prefix→R4,lookup→R5,take_zero→R6,take_succ→R7,take_add_one→S2,mem_range'_1→S3,all_nil→S4,map_set→S5,filter_cons→S7,range'→T2,map_id→T3,mem_filter→T4,nil_suffix→T5,sum_append→T6,mem_range→T8,map_drop→T9,flatten→u03
open Nat renaming le_refl→c9,lt_of_lt_of_le→r8,le_trans→t8,ne_of_lt→A2,le_of_ble_eq_true→B1,lt_succ_self→D0,lt_irrefl→D8,lt_succ_of_lt→E8,not_lt→F4,toDigits→F6,min_le_right→F7,le_of_not_lt→F9,reduceAdd→I0,reduceSub→L4,zero_le→L7,le_succ→L8,pow_le_pow_right→L9,mul_le_mul_right→M7,min_eq_left→M8,add_assoc→O3,toDigits_of_lt_base→P3,ne_of_gt→P5,add_comm→P6,zero_add→P7,le_of_lt→R9,mul_comm→S0,le_succ_of_le→S1,min_eq_right→S6,succ_le_succ→S8,log2_lt→S9,not_lt_zero→T7,digitChar→u00,sub_zero→u01,sub_self→u02,lt_trans→u04,pow_succ→u05
open Bool renaming and_eq_true→i6,false_ne_true→r6,true_and→A5,eq_iff_iff→B8,false_and→B9,false_eq_true→C4,and_false→D9,and_self→F0,not_eq_true'→F5,not_false→N8,or_false→O5,and_true→O6,eq_false_or_eq_true→O8,noConfusion→P0,not_true→R8
open Int renaming eq_ofNat_of_zero_le→C0,emod_lt_of_pos→D2,emod_nonneg→E3,zero_add→N5,toNat_natCast→O2,reduceBEq→O7
open Option renaming map_some→C1,getD_some→C5,getD_none→F8,map_none→M9,toList_some→N9,bind_eq_some_iff→P2,map→u06
set_option Elab.async false
set_option linter.all false
set_option maxRecDepth 100000
set_option maxHeartbeats 4000000
namespace L2
open PySem PySem.Spec PyProof.Rows
noncomputable abbrev Key:=Sum Int Str
noncomputable def zfc:Key->Value->Bool
 | .inl k,v=>Value.isInt k v
 | .inr x,v=>Value.isStrOf x v
noncomputable def zlP(w:World):Key->Int
 | .inl k=>hashInt k
 | .inr x=>hashStr w x
theorem w4: ∀{k:Key} {v:Value},zfc k v=true->(∃i t,k=Sum.inl i/\v=Value.int i t)\/(∃x t,k=Sum.inr x/\v=Value.str x t)
 | .inl i,v,h=>by
  obtain⟨t,e⟩:=Value.isInt_shape (k:=i) (v:=v) h
  exact .inl ⟨i,t,rfl,e⟩
 | .inr x,v,h=>by
  obtain⟨t,e⟩:=Value.isStrOf_shape (x:=x) (v:=v) h
  exact .inr ⟨x,t,rfl,e⟩
theorem zfd(a b:Int):decide ((Sum.inl a:Key)=Sum.inl b)=(a==b):=by
 by_cases e:a=b
 ·subst e;simp
 ·have h: ¬(Sum.inl a:Key)=Sum.inl b:=fun q=>e (Sum.inl.inj q)
  rw[decide_eq_false h]
  exact(beq_eq_false_iff_ne.mpr e).symm
theorem zfe(a b:Str):decide ((Sum.inr a:Key)=Sum.inr b)=decide (a=b):=by
 by_cases e:a=b
 ·subst e;simp
 ·have h: ¬(Sum.inr a:Key)=Sum.inr b:=fun q=>e (Sum.inr.inj q)
  rw[decide_eq_false h,decide_eq_false e]
theorem zff(a:Int)(b:Str):decide ((Sum.inl a:Key)=Sum.inr b)=false:=decide_eq_false (fun q=>nomatch q)
theorem zfg(a:Str)(b:Int):decide ((Sum.inr a:Key)=Sum.inl b)=false:=decide_eq_false (fun q=>nomatch q)
noncomputable def j8(prog:Program)(w:World):PySem.KeyKind prog w Key where
 is:=zfc
 hash:=zlP w
 inj:=fun v a b ha hb=>by
  rcases w4 ha with⟨i,t,rfl,rfl⟩|⟨x,t,rfl,rfl⟩
  ·rcases w4 hb with⟨j,u,rfl,e⟩|⟨y,u,rfl,e⟩
   ·injection e with e1 _;rw[e1]
   ·exact nomatch e
  ·rcases w4 hb with⟨j,u,rfl,e⟩|⟨y,u,rfl,e⟩
   ·exact nomatch e
   ·injection e with e1 _;rw[e1]
 byValue:=fun k v h=>by
  rcases w4 h with⟨i,t,rfl,rfl⟩|⟨x,t,rfl,rfl⟩<;>rfl
 pyHash:=fun hv h=>by
  rcases w4 hv with⟨i,t,rfl,rfl⟩|⟨x,t,rfl,rfl⟩
  ·exact wpAny_pyHash_int h
  ·exact wpAny_pyHash_str h
 eqBool:=fun hu hv h=>by
  rcases w4 hu with⟨i,t,rfl,rfl⟩|⟨x,t,rfl,rfl⟩
  ·rcases w4 hv with⟨j,u,rfl,rfl⟩|⟨y,u,rfl,rfl⟩
   ·rw[zfd] at h;exact wpAny_eqBool_int h
   ·rw[zff] at h;exact SeqAt.EqAt.int_str i t y u _ _ _ _ h
  ·rcases w4 hv with⟨j,u,rfl,rfl⟩|⟨y,u,rfl,rfl⟩
   ·rw[zfg] at h;exact SeqAt.EqAt.str_int x t j u _ _ _ _ h
   ·rw[zfe] at h;exact wpAny_eqBool_str h
 «strs» :=fun k x t v h=>by
  rcases w4 h with⟨i,u,rfl,e⟩|⟨y,u,rfl,e⟩
  ·exact nomatch e
  ·injection e with e1 _
   subst e1
   cases v<;>rfl
inductive V where
 |non|bl (b:Bool)|int (i:Int)|str (x:Str)|byt (b:Array UInt8)|flt (b:UInt64)|ref (a:Addr)|ty (n:String)
 deriving DecidableEq
noncomputable def RelV:V->Value->Prop
 | .non,u=>u=Value.none
 | .bl b,u=>u=Value.bool b
 | .int i,u=> ∃t,u=Value.int i t
 | .str x,u=> ∃t,u=Value.str x t
 | .byt b,u=> ∃t,u=Value.bytes b t
 | .flt b,u=> ∃t,u=Value.float b t
 | .ref a,u=>u=Value.ref a
 | .ty n,u=>u=Value.type n
noncomputable abbrev j4:List V->List Value->Prop:=Paired RelV
theorem j4.length{xs:List V}{us:List Value}(r:j4 xs us):xs.length=us.length:=Paired.length r
theorem j4.get: ∀{xs:List V} {us:List Value} {i:Nat} {x:V},j4 xs us->xs[i]? =some x->∃u,us[i]? =some u/\RelV x u
 |_,_,_,_, .nil,e=>by simp at e
 |_,_,0,_, .cons r _,e=>by simp at e;subst e;exact⟨_,rfl,r⟩
 |_,_,i+1,x, .cons _ t,e=>by
  obtain⟨u,h1,h2⟩:=j4.get (i:=i) (x:=x) t (by simpa using e)
  exact⟨u,by simpa using h1,h2⟩
theorem j4.set{x:V}{u:Value}(r:RelV x u): ∀{xs:List V} {us:List Value} (i:Nat),j4 xs us->j4 (xs.set i x) (us.set i u)
 |_,_,_, .nil=> .nil
 |_,_,0, .cons _ t=> .cons r t
 |_,_,i+1, .cons q t=> .cons q (j4.set r i t)
theorem j4.append: ∀{xs ys:List V} {us ws:List Value},j4 xs us->j4 ys ws->j4 (xs++ys) (us++ws)
 |_,_,_,_, .nil,s=>s
 |_,_,_,_, .cons r t,s=> .cons r (j4.append t s)
theorem j4.take: ∀{xs:List V} {us:List Value} (n:Nat),j4 xs us->j4 (xs.take n) (us.take n)
 |_,_,0,_=> .nil
 |_,_,_+1, .nil=> .nil
 |_,_,n+1, .cons r t=> .cons r (j4.take n t)
theorem j4.drop: ∀{xs:List V} {us:List Value} (n:Nat),j4 xs us->j4 (xs.drop n) (us.drop n)
 |_,_,0,r=>r
 |_,_,_+1, .nil=> .nil
 |_,_,n+1, .cons _ t=>j4.drop n t
noncomputable def RelO:Option V->Option Value->Prop
 |some v,some u=>RelV v u
 |none,none=>True
 |_,_=>False
noncomputable def KV{κ:Type}:List (κ×V)->List (κ×Value)->Prop:=Paired fun(p:κ×V) (q:κ×Value)=>p.1=q.1/\RelV p.2 q.2
noncomputable def kV:Key->V
 | .inl i=> .int i
 | .inr x=> .str x
theorem Paired.mapP{α β:Type}{F G:α->β->Prop}: ∀{l₁:List α} {l₂:List β},Paired F l₁ l₂->(∀a b,F a b->G a b)->Paired G l₁ l₂
 |_,_, .nil,_=> .nil
 |_,_, .cons r t,f=> .cons (f _ _ r) (Paired.mapP t f)
noncomputable abbrev NK:=List (Key⊕List Key)
section
variable(P:Program)(w:World)
noncomputable def ItN(h:Heap):Key⊕List Key->Value->Prop
 | .inl k,v=>(j8 P w).is k v=true
 | .inr ks,v=> ∃c,v= .ref c/\IsTupleKey (j8 P w) h ks c
noncomputable def IsN(h:Heap)(k:NK)(a:Addr):Prop:= ∃o items n,h.get? a=some o/\o.cls= .type "tuple" /\o.data= .seq items n/\Paired (ItN P w h) k items.toList
noncomputable def hsN:Key⊕List Key->Int
 | .inl k=>(j8 P w).hash k
 | .inr ks=>tupleKeyHash (j8 P w) ks
noncomputable def drN:Key⊕List Key->Nat
 | .inl _=>1
 | .inr ks=>ks.length+1
end
section
variable{P:Program}{w:World}{h:Heap}
theorem zdj{x y:Key⊕List Key}{v:Value}(hx:ItN P w h x v)(hy:ItN P w h y v):x=y:=by
 cases x with
 |inl k=>
  cases y with
  |inl k'=>rw[(j8 P w).inj v k k' hx hy]
  |inr ks=>obtain⟨c,rfl,_⟩:=hy;have:=(j8 P w).byValue _ _ hx;simp[carriedByValue] at this
 |inr ks=>
  obtain⟨c,rfl,hc⟩:=hx
  cases y with
  |inl k'=>have:=(j8 P w).byValue _ _ hy;simp[carriedByValue] at this
  |inr ks'=>obtain⟨c',e,hc'⟩:=hy;cases e;rw[hc.inj hc']
theorem z4L: ∀{x y:NK} {vs:List Value},Paired (ItN P w h) x vs->Paired (ItN P w h) y vs->x=y
 |_,_,_, .nil, .nil=>rfl
 |_,_,_, .cons a b, .cons c d=>by rw[zdj a c,z4L b d]
variable{A:Around}{E:Value->Shared->Prop}{s:Shared}
theorem z5P{M:Model}{a:Addr}{o:Obj}{items:Array Value}{n m:Nat}{Q:Bool->Shared->Prop}(ho:s.heap.get? a=some o)(hc:o.cls= .type "tuple")(hd:o.data= .seq items n)(hi: ∀v∈items.toList,∀(R:Bool->Shared->Prop) E,R true s->wpAny M A (eqIsQuiet m v) R E s)(q:Q true s):wpAny M A (eqIsQuiet (m+1) (.ref a)) Q E s:=by
 have hT:s.TypeIs (.ref a) "tuple" :=⟨o,ho,hc⟩
 rw[eqIsQuiet]
 refine wpAny_bind (wpAny_specialOf hT PySem.F.slot_tuple_eq.lookup ?_)
 dsimp only
 refine wpAny_bind (wpAny_isInstance hT isSubtype_tuple_tuple ?_)
 rw[if_neg (by decide)]
 refine wpAny_bind (wpAny_seqItems ho hd ?_)
 refine wpAny_bind ?_
 dsimp only[C5]
 rw[<-Array.forIn_toList]
 refine wpAny_forIn_list _ (fun r b s'=>b.1=none/\s'=s/\∀v∈r,v∈items.toList) _ ?_ ?_ _ _ ⟨rfl,rfl,fun v hv=>hv⟩
 ·rintro v r b s' ⟨_,rfl,hm⟩
  refine wpAny_bind (hi v (hm v o0) _ _ ?_)
  rw[if_neg (by decide)]
  exact wpAny_pure ⟨rfl,rfl,fun u hu=>hm u (i4 _ hu)⟩
 ·rintro ⟨b1,b2⟩ s' ⟨hb,rfl,_⟩
  dsimp only at hb
  subst hb
  exact wpAny_pure q
theorem z5Q{P':Program}{w':World}: ∀{ks:List Key} {vs:List Value},ItemsAre (j8 P w) ks vs->ItemsAre (j8 P' w') ks vs
 |_,_, .nil=> .nil
 |_,_, .cons a b=> .cons a (z5Q b)
theorem z8V{P':Program}{w':World}{ks:List Key}{c:Addr}(hk:IsTupleKey (j8 P w) h ks c):IsTupleKey (j8 P' w') h ks c:=by
 obtain⟨o,items,n,h1,h2,h3,h4⟩:=hk
 exact⟨o,items,n,h1,h2,h3,z5Q h4⟩
theorem zfh{x y:Key⊕List Key}{u v:Value}(hu:A.units<cLine)(hx:ItN P w s.heap x u)(hy:ItN P w s.heap y v):SeqAt.EqAt A s u v (decide (x=y)):=fun prog w' E Q q=>by
 cases x with
 |inl k=>
  cases y with
  |inl k'=>exact(j8 prog w').eqBool (a:=k) (b:=k') hx hy (by rw[show decide (k=k')=decide ((Sum.inl k:Key⊕List Key)=Sum.inl k') by by_cases e:k=k'<;>simp[e]];exact q)
  |inr ks=>
   obtain⟨c,rfl,o,items,n,h1,h2,h3,_⟩:=hy
   rw[decide_eq_false (fun e=>nomatch e)] at q
   rcases w4 hx with⟨i,t,rfl,rfl⟩|⟨z,t,rfl,rfl⟩
   ·exact SeqAt.EqAt.int_tuple i t ⟨o,h1,h2,n,h3⟩ hu prog w' E Q q
   ·exact SeqAt.EqAt.str_tuple z t ⟨o,h1,h2,n,h3⟩ hu prog w' E Q q
 |inr ks=>
  obtain⟨c,rfl,hc⟩:=hx
  cases y with
  |inl k'=>
   obtain⟨o,items,n,h1,h2,h3,_⟩:=hc
   rw[decide_eq_false (fun e=>nomatch e)] at q
   rcases w4 hy with⟨i,t,rfl,rfl⟩|⟨z,t,rfl,rfl⟩
   ·exact SeqAt.EqAt.tuple_int i t ⟨o,h1,h2,n,h3⟩ hu prog w' E Q q
   ·exact SeqAt.EqAt.tuple_str z t ⟨o,h1,h2,n,h3⟩ hu prog w' E Q q
  |inr ks'=>
   obtain⟨c',rfl,hc'⟩:=hy
   refine wpAny_eqBool_tuple (knd:=j8 prog w') hu (z8V hc) (z8V hc') ?_
   rw[show decide (ks=ks')=decide ((Sum.inr ks:Key⊕List Key)=Sum.inr ks') by by_cases e:ks=ks'<;>simp[e]];exact q
theorem zdk{α:Type}[DecidableEq α](x y:List α):((N6 (min x.length y.length)).all (fun j=>decide (x[j]? =y[j]?))&&x.length==y.length)=decide (x=y):=by
 rw[B8]
 erw[i6,A6,T8,decide_eq_true_eq,beq_iff_eq]
 constructor
 ·rintro ⟨h1,h2⟩
  apply List.ext_getElem?
  intro j
  by_cases hj:j<x.length
  ·exact h1 j (by lia)
  ·rw[List.getElem?_eq_none (by lia),List.getElem?_eq_none (by lia)]
 ·rintro rfl;exact⟨fun _ _=>rfl,rfl⟩
theorem Paired.get2{α β:Type}{F:α->β->Prop}: ∀{l:List α} {m:List β},Paired F l m->∀j (h1:j<l.length) (h2:j<m.length),F l[j] m[j]
 |_,_, .cons a b,0,_,_=>a
 |_,_, .cons a b,j+1,h1,h2=>Paired.get2 b j (by simpa using h1) (by simpa using h2)
theorem zfi{x y:NK}{a b:Addr}{Q:Bool->Shared->Prop}(hu:A.units+1<cLine)(hx:IsN P w s.heap x a)(hy:IsN P w s.heap y b)(q:Q (decide (x=y)) s):wpAny (model P w) A (eqBool (.ref a) (.ref b)) Q E s:=by
 by_cases e:a=b
 ·subst e
  obtain⟨o,items,n,h1,h2,h3,h4⟩:=hx
  obtain⟨o',items',n',k1,k2,k3,k4⟩:=hy
  obtain rfl:o=o':=Option.some.inj (h1.symm.trans k1)
  rw[h3] at k3
  injection k3 with k3 _
  subst k3
  obtain rfl:=z4L h4 k4
  exact SeqAt.EqAt.same _ P w E Q (by simpa using q)
 ·obtain⟨o,items,n,h1,h2,h3,h4⟩:=hx
  obtain⟨o',items',n',k1,k2,k3,k4⟩:=hy
  have l1:x.length=items.size:=by have:=Paired.length h4;simpa using this
  have l2:y.length=items'.size:=by have:=Paired.length k4;simpa using this
  refine SeqAt.EqAt.of_refs e (SeqAt.RcAt.tuples (e:=fun j=>decide (x[j]? =y[j]?)) ⟨o,h1,h2,n,h3⟩ ⟨o',k1,k2,n',k3⟩ (by lia) fun j j1 j2=> ?_) P w E Q ?_
  ·have:=zfh (A:=A.in1) (show A.units+1<cLine from hu) (Paired.get2 h4 j (by lia) (by simpa using j1)) (Paired.get2 k4 j (by lia) (by simpa using j2))
   rw[List.getElem?_eq_getElem (by lia),List.getElem?_eq_getElem (by lia)]
   simpa using this
  ·rw[<-l1,<-l2,zdk];exact q
theorem zb3{k:Key⊕List Key}{v:Value}{Q:Int->Shared->Prop}(hu:A.units<cLine)(hk:ItN P w s.heap k v)(q:Q (hsN P w k) {s with toks:=s.toks+drN k}):wpAny (model P w) A (pyHash v) Q E s:=by
 cases k with
 |inl k=>exact(j8 P w).pyHash hk q
 |inr ks=>obtain⟨c,rfl,hc⟩:=hk;exact wpAny_pyHash_tuple hu hc q
theorem zb4{k:NK}{a:Addr}{Q:Int->Shared->Prop}(hu:A.units+1<cLine)(hk:IsN P w s.heap k a)(q:Q (reduceHash (Builtin.Tuple.tupleHashOf (k.map (hsN P w)))) {s with toks:=s.toks+((k.map drN).sum+1)}):wpAny (model P w) A (pyHash (.ref a)) Q E s:=by
 obtain⟨o,items,n,ho,hc,hd,hi⟩:=hk
 have hT:s.TypeIs (.ref a) "tuple" :=⟨o,ho,hc⟩
 unfold pyHash
 unfold pyHashByItsType
 refine wpAny_bind (wpAny_cRoomFor_or (.inr (by lia)) ?_)
 refine wpAny_bind (wpAny_specialOf hT PySem.F.slot_tuple_hash.lookup ?_)
 rw[if_neg (show ¬(some (Value.builtin "tuple.__hash__")==some Value.none)=true by rw[beq_builtin_none];decide)]
 refine wpAny_bind (wpAny_specialOf hT PySem.F.slot_tuple_hash.lookup ?_)
 refine wpAny_bind (wpAny_callSpecialIfBoundUnlessNone?_slot hT PySem.F.slot_tuple_hash (wpAny_call_entry PySem.F.slot_tuple_hash hT PySem.F.entry_tuple_hash ?_ (PySem.F.args_tuple_hash_1 _)))
 change wpAny _ A.in1 (Builtin.Tuple.tupleItemsOf (Value.ref a)>>=_) _ _ s
 refine wpAny_bind (wpAny_tupleItemsOf ho hd (wpAny_bind ?_))
 rw[<-Array.forIn_toList]
 refine wpAny_forIn_list _ (fun r (b:Array Int) s'=> ∃d l,k=d++l/\Paired (ItN P w s.heap) l r/\b.toList=d.map (hsN P w)/\s'={s with toks:=s.toks+(d.map drN).sum}) _ ?_ ?_ _ _ ⟨[],k,rfl,hi,rfl,rfl⟩
 ·rintro x r b s' ⟨d,l,rfl,hl,hb,rfl⟩
  cases hl with
  | @cons z _ l' _ h1 hl'=>
   refine wpAny_bind (zb3 (A:=A.in1) (s:={s with toks:=s.toks+(d.map drN).sum}) (show A.units+1<cLine from hu) h1 ?_)
   have fin: ∃d' l2,d++z::l'=d'++l2/\Paired (ItN P w s.heap) l2 r/\(b.push (hsN P w z)).toList=d'.map (hsN P w)/\({s with toks:=s.toks+(d.map drN).sum+drN z}:Shared)={s with toks:=s.toks+(d'.map drN).sum}:=⟨d++[z],l',by simp,hl',by simp[hb],by simp[O3]⟩
   exact wpAny_pure fin
 ·rintro b s' ⟨d,l,rfl,hl,hb,rfl⟩
  cases hl
  rw[i9] at q
  change wpAny _ A.in1 (retInt (Builtin.Tuple.tupleHashOf b.toList)) _ _ _
  rw[hb]
  refine wpAny_ret_mkInt ?_
  unfold reduceHash at q
  show wpAny _ _ (if(decide (-(2:Int)^63<=Builtin.Tuple.tupleHashOf (d.map (hsN P w)))&&decide (Builtin.Tuple.tupleHashOf (d.map (hsN P w))<2^63))=true then _ else _) Q E _
  split
  ·rename_i hr
   rw[if_pos hr] at q
   exact wpAny_pure (by simpa[O3] using q)
  ·rename_i hr
   rw[if_neg hr] at q
   exact wpAny_bind (wpAny_rule (wpAny_pure (by simpa[O3] using q)))
theorem z8W{k:NK}{a:Addr}{Q:Bool->Shared->Prop}(hk:IsN P w s.heap k a)(q:Q true s):wpAny (model P w) A (eqIsQuiet 8 (.ref a)) Q E s:=by
 obtain⟨o,items,n,h1,h2,h3,h4⟩:=hk
 refine z5P h1 h2 h3 (fun v hv R E' r=> ?_) q
 have all: ∀{k:NK} {vs:List Value},Paired (ItN P w s.heap) k vs->∀v∈vs,∃z,ItN P w s.heap z v:=by
  intro k vs p
  induction p with
  |nil=>intro v hv;cases hv
  |cons a b ih=>
   intro v hv
   rcases i8.mp hv with rfl|hv
   ·exact⟨_,a⟩
   ·exact ih v hv
 obtain⟨z,hz⟩:=all h4 v hv
 cases z with
 |inl k=>rw[eqIsQuiet_byValue _ ((j8 P w).byValue _ _ hz)];exact wpAny_pure r
 |inr ks=>
  obtain⟨c,rfl,o,items,n,h1,h2,h3,h4⟩:=hz
  exact z5P h1 h2 h3 (fun v hv R E' r=>by rw[eqIsQuiet_byValue _ (h4.byValue v hv)];exact wpAny_pure r) r
theorem z8X{h':Heap}{d:Addr}{o:Obj}{es:Array DictEntry}{ep:Nat}(ho:h.get? d=some o)(hd:o.data= .dict es ep)(hs:Heap.SameBut d h h'): ∀{k:NK} {vs:List Value},Paired (ItN P w h) k vs->Paired (ItN P w h') k vs:=fun p=>Paired.mapP p fun z v q=>by
 cases z with
 |inl k=>exact q
 |inr ks=>obtain⟨c,rfl,hc⟩:=q;exact⟨c,rfl,hc.keeps ho hd hs⟩
end
noncomputable def zb5(P:Program)(w:World):HeapKind P w NK where
 is:=IsN P w
 hash:=fun k=>reduceHash (Builtin.Tuple.tupleHashOf (k.map (hsN P w)))
 draws:=fun k=>(k.map drN).sum+1
 room:=fun A=>A.units+1<cLine
 inj:=fun⟨o,items,n,h1,_,h3,h4⟩ ⟨o',items',n',k1,_,k3,k4⟩=>by
  obtain rfl:o=o':=Option.some.inj (h1.symm.trans k1)
  rw[h3] at k3
  injection k3 with k3 _
  subst k3
  exact z4L h4 k4
 keeps:=fun{h h' k a d o es ep} ⟨o',items,n,h1,h2,h3,h4⟩ ho hd hs=>by
  have hne:a≠d:=by
   rintro rfl
   obtain rfl:o'=o:=Option.some.inj (h1.symm.trans ho)
   rw[hd] at h3;cases h3
  exact⟨o',items,n,(hs.2 a hne).trans h1,h2,h3,z8X ho hd hs h4⟩
 pyHash:=fun hu hk q=>zb4 hu hk q
 eqBool:=fun hu hx hy q=>zfi hu hx hy q
 quiet:=fun hk q=>z8W hk q
inductive HO where
 |lst (xs:List V)
 |tup (xs:List V)
 |dK (kvs:List (Key×V))|dT (kvs:List (NK×V))
 |set (S:Int->Bool) (n:Nat)
 |ins (C dx:Addr) (fs:List (Str×V))
 |own (x:Addr)
 |xd (fs:List (Str×V))
 |met (f x:Addr)
 |rng (lo hi:Int)
 |frz (o:Obj) (u:HO)
 |tbl (ps:Array Value)
 |ext (φ:Heap->Prop)
noncomputable abbrev Hp:=Addr->Option HO
noncomputable def upd(H:Hp)(a:Addr)(o:HO):Hp:=fun b=>if b=a then some o else H b
theorem Y2{H:Hp}{a:Addr}{o:HO}:upd H a o a=some o:=by unfold upd;rw[if_pos rfl]
theorem Z6{H:Hp}{a b:Addr}{o:HO}(h:b≠a):upd H a o b=H b:=by unfold upd;rw[if_neg h]
theorem zb6{H:Hp}{a b:Addr}{o u:HO}(h:H a=some o)(h':H b=some u)(d:o≠u):a≠b:=by
 intro e;subst e;rw[h] at h';exact d (Option.some.inj h')
theorem J5{H:Hp}{a b:Addr}{o:HO}(h:H a=some o)(h':H b=none):a≠b:=by
 intro e;subst e;rw[h] at h';cases h'
noncomputable def TKi(H:Hp):Key⊕List Key->V->Prop
 | .inl k,x=>x=kV k
 | .inr ks,x=> ∃c,x= .ref c/\H c=some (.tup (ks.map kV))
noncomputable def TK(H:Hp)(k:NK)(b:Addr):Prop:= ∃xs,H b=some (.tup xs)/\Paired (TKi H) k xs
theorem TK.stay{H H':Hp}{k:NK}{b:Addr}(ht: ∀b xs,H b=some (.tup xs)->H' b=some (.tup xs))(h:TK H k b):TK H' k b:=by
 obtain⟨xs,h1,h2⟩:=h
 refine⟨xs,ht _ _ h1,Paired.mapP h2 fun z x q=> ?_⟩
 cases z with
 |inl k=>exact q
 |inr ks=>obtain⟨c,e,q⟩:=q;exact⟨c,e,ht _ _ q⟩
section
variable(P:Program)(w:World)
noncomputable def z1d(H:Hp)(h:Heap)(a:Addr):HO->Prop
 | .lst xs=>xs.length<=sizeLine/\∃(its:List Value) (n:Nat),j4 xs its/\h.get? a=some {cls:= .type "list",data:= .seq its.toArray n}
 | .tup xs=>xs.length<=sizeLine/\∃its:List Value,j4 xs its/\IsTup h a its.toArray
 | .dK kvs=>kvs.length<=sizeLine/\(a==sysModules)=false/\∃vs,KV kvs vs/\h.DictOf (j8 P w) a vs
 | .dT kvs=>kvs.length<=sizeLine/\(a==sysModules)=false/\∃xs:List (NK×Addr×Value),
  Paired (fun(p:NK×V) (q:NK×Addr×Value)=>p.1=q.1/\TK H p.1 q.2.1/\RelV p.2 q.2.2) kvs xs/\
  ∃o es ep,h.get? a=some o/\o.ExactDict/\o.data= .dict es ep/\es.toList=xs.map (entryOfKey (zb5 P w))/\(xs.map (·.1)).Nodup
 | .set S n=>h.SetOf (intKind P w) a S n
 | .ins C dx fs=>H dx=some (.own a)/\fs.length<=1000/\dx≠a/\h.get? a=some (W.instObj C dx)/\
  ∃mA,h.Ns1 dx mA/\(∀f,RelO (fs.lookup f) (mA f))/\PySem.Within mA (fs.map (·.1))
 | .own _=> ∃o,h.get? a=some o
 | .xd fs=> ∃mA,h.Ns1 a mA/\∀f,RelO (fs.lookup f) (mA f)
 | .rng lo hi=> ∃t u v,h.get? a=some {cls:= .type "range",data:= .fields #[.int lo t, .int hi u, .int 1 v]}
 | .frz o u=>h.get? a=some o/\z1d H h a u
 | .tbl ps=>h.get? a=some {cls:= .none,data:= .fields ps}
 | .met f x=>h.get? a=some (W.methodObj (.ref f) (.ref x))
 | .ext φ=>φ h/\(∃o,h.get? a=some o)/\∀h1 h2:Heap,φ h1->(∀o,h1.get? a=some o->h2.get? a=some o)->φ h2
noncomputable def HOk(H:Hp)(h:Heap):Prop:= ∀a o,H a=some o->z1d P w H h a o
end
section
variable{P:Program}{w:World}{H H':Hp}{h h':Heap}{a:Addr}{o:HO}
theorem z1d.lt(x:z1d P w H h a o):a<h.objs.size:=by
 cases o with
 |lst xs=>obtain⟨_,_,_,_,e⟩:=x;exact Heap.lt_size e
 |tup xs=>obtain⟨_,_,_,p⟩:=x;exact p.lt
 |dK kvs=>obtain⟨_,_,_,_,o,_,_,e,_⟩:=x;exact Heap.lt_size e
 |dT kvs=>obtain⟨_,_,_,_,o,_,_,e,_⟩:=x;exact Heap.lt_size e
 |set S n=>obtain⟨o,_,_,_,e,_⟩:=x;exact Heap.lt_size e
 |ins C dx fs=>obtain⟨_,_,_,e,_⟩:=x;exact Heap.lt_size e
 |own y=>obtain⟨_,e⟩:=x;exact Heap.lt_size e
 |xd fs=>obtain⟨_,⟨_,_,_,e,_⟩,_⟩:=x;exact Heap.lt_size e
 |rng lo hi=>obtain⟨_,_,_,e⟩:=x;exact Heap.lt_size e
 |frz ob u=>obtain⟨e,_⟩:=x;exact Heap.lt_size e
 |tbl ps=>exact Heap.lt_size (show h.get? a=some _ from x)
 |met f y=>exact Heap.lt_size (show h.get? a=some _ from x)
 |ext φ=>obtain⟨_,⟨_,e⟩,_⟩:=x;exact Heap.lt_size e
theorem z1d.stay(x:z1d P w H h a o)(k: ∀b u,(b=a\/H b=some (.own a))->h.get? b=some u->h'.get? b=some u)
 (ho: ∀b,H b=some (.own a)->H' b=some (.own a)) (ht: ∀b xs,H b=some (.tup xs)->H' b=some (.tup xs)):z1d P w H' h' a o:=by
 induction o with
 |lst xs=>obtain⟨z,its,n,r,e⟩:=x;exact⟨z,its,n,r,k _ _ (.inl rfl) e⟩
 |tup xs=>obtain⟨z,its,r,ob,e,c⟩:=x;exact⟨z,its,r,ob,k _ _ (.inl rfl) e,c⟩
 |dK kvs=>obtain⟨z,y,vs,r,ob,es,ep,e,c⟩:=x;exact⟨z,y,vs,r,ob,es,ep,k _ _ (.inl rfl) e,c⟩
 |dT kvs=>
  obtain⟨z,y,xs,r,ob,es,ep,e,c⟩:=x
  exact⟨z,y,xs,Paired.mapP r fun p q z=>⟨z.1,z.2.1.stay ht,z.2.2⟩,ob,es,ep,k _ _ (.inl rfl) e,c⟩
 |set S n=>obtain⟨ob,es,ep,t,e,c⟩:=x;exact⟨ob,es,ep,t,k _ _ (.inl rfl) e,c⟩
 |ins C dx fs=>
  obtain⟨d,z,ne,e,mA,⟨od,es,ep,e2,c⟩,r⟩:=x
  exact⟨ho _ d,z,ne,k _ _ (.inl rfl) e,mA,⟨od,es,ep,k _ _ (.inr d) e2,c⟩,r⟩
 |own y=>obtain⟨ob,e⟩:=x;exact⟨ob,k _ _ (.inl rfl) e⟩
 |xd fs=>obtain⟨mA,⟨od,es,ep,e,c⟩,r⟩:=x;exact⟨mA,⟨od,es,ep,k _ _ (.inl rfl) e,c⟩,r⟩
 |rng lo hi=>obtain⟨t,u,v,e⟩:=x;exact⟨t,u,v,k _ _ (.inl rfl) e⟩
 |frz ob u ih=>obtain⟨e,q⟩:=x;exact⟨k _ _ (.inl rfl) e,ih q⟩
 |tbl ps=>
  have e:h.get? a=some {cls:= .none,data:= .fields ps}:=x
  show h'.get? a=some {cls:= .none,data:= .fields ps}
  exact k a _ (.inl rfl) e
 |met f y=>
  have e:h.get? a=some (W.methodObj (.ref f) (.ref y)):=x
  show h'.get? a=some (W.methodObj (.ref f) (.ref y))
  exact k a _ (.inl rfl) e
 |ext φ=>obtain⟨p,⟨o,e⟩,st⟩:=x;exact⟨st _ _ p fun o q=>k _ _ (.inl rfl) q,⟨o,k _ _ (.inl rfl) e⟩,st⟩
theorem HOk.lt(x:HOk P w H h)(e:H a=some o):a<h.objs.size:=(x a o e).lt
theorem HOk.fresh(x:HOk P w H h)(e:h.objs.size<=a):H a=none:=by
 cases q:H a with
 |none=>rfl
 |some u=>exact absurd (r8 (x.lt q) e) (D8 _)
theorem HOk.kept(x:HOk P w H h)(k: ∀b u,h.get? b=some u->h'.get? b=some u):HOk P w H h':=fun a o e=>
 (x a o e).stay (fun b u _ q=>k b u q) (fun _ q=>q) fun _ _ q=>q
theorem HOk.laid(x:HOk P w H h)(k: ∀b u,h.get? b=some u->h'.get? b=some u)(hp:h.objs.size<=a)(new:z1d P w (upd H a o) h' a o):HOk P w (upd H a o) h':=fun b u e=>by
 have hn:=x.fresh hp
 by_cases hb:b=a
 ·subst hb;rw[Y2] at e;cases e;exact new
 ·rw[Z6 hb] at e
  exact(x b u e).stay (fun c v _ q=>k c v q) (fun c q=>by rw[Z6 (J5 q hn)];exact q) fun c xs q=>by rw[Z6 (J5 q hn)];exact q
end
noncomputable def Rd(H:Hp)(a:Addr)(u:HO):Prop:=H a=some u\/∃o,H a=some (.frz o u)
theorem Rd.ok{P:Program}{w:World}{H:Hp}{h:Heap}{a:Addr}{u:HO}(r:Rd H a u)(x:HOk P w H h):z1d P w H h a u:=by
 rcases r with r|⟨o,r⟩
 ·exact x a u r
 ·obtain⟨_,q⟩:=x a _ r
  exact q
noncomputable def Mut:Option HO->Prop
 |some (.lst _)=>True
 |some (.dK _)=>True
 |some (.dT _)=>True
 |some (.set _ _)=>True
 |some (.ins _ _ _)=>True
 |some (.ext _)=>True
 |_=>False
section
variable{P:Program}{w:World}{H:Hp}{h h':Heap}{x e:Addr}{o':HO}
theorem HOk.write(ok:HOk P w H h)(mu:Mut (H x))(he:e=x\/H e=some (.own x))(k: ∀b u,b≠e->h.get? b=some u->h'.get? b=some u)(heo: ∃u,h'.get? e=some u)
 (new:z1d P w (upd H x o') h' x o'):HOk P w (upd H x o') h':=fun b u q=>by
 have nown: ∀c y,H c=some (.own y)->c≠x:=fun c y r z=>by subst z;rw[r] at mu;exact mu
 have ntup: ∀c xs,H c=some (.tup xs)->c≠x:=fun c xs r z=>by subst z;rw[r] at mu;exact mu
 by_cases hb:b=x
 ·subst hb;rw[Y2] at q;cases q;exact new
 ·rw[Z6 hb] at q
  by_cases hbe:b=e
  ·have q':H b=some (.own x):=by
    rcases he with z|z
    ·exact absurd (hbe.trans z) hb
    ·rw[hbe];exact z
   rw[q] at q';cases q'
   obtain⟨v,hv⟩:=heo
   exact⟨v,by rw[hbe];exact hv⟩
  ·refine(ok b u q).stay (fun c v hc r=>k c v ?_ r) (fun c r=>by rw[Z6 (nown c b r)];exact r) fun c xs r=>by rw[Z6 (ntup c xs r)];exact r
   rcases hc with rfl|hc
   ·exact hbe
   ·rintro rfl
    rcases he with z|z
    ·exact nown c b hc z
    ·rw[hc] at z;cases z;exact hb rfl
end
structure Un(fs ex:List Addr)(H H':Hp)(h h':Heap):Prop where
 keep: ∀b o,h.get? b=some o->H b=none->b∉fs->b∉ex->h'.get? b=some o
 slot: ∀b o,h.get? b=some o->H b=none->b∈fs->b∉ex->∃sl,h'.get? b=some {o with slots:=sl}
 free: ∀b o,h.get? b=some o->H b=none->b∉ex->H' b=none
 there: ∀b o,h.get? b=some o->b∉ex->∃o',h'.get? b=some o'
 tups: ∀b xs,H b=some (.tup xs)->H' b=some (.tup xs)
 frzs: ∀b o u,H b=some (.frz o u)->H' b=some (.frz o u)
 tbls: ∀b ps,H b=some (.tbl ps)->∃more,H' b=some (.tbl (ps++more))
section
variable{fs fs' ex ex':List Addr}{H H1 H2:Hp}{h h1 h2 h':Heap}{a x e:Addr}{o:HO}
theorem Un.any(u:Un fs ex H H1 h h1){b:Addr}{ob:Obj}(q:h.get? b=some ob)(n:H b=none)(hx:b∉ex): ∃sl,h1.get? b=some {ob with slots:=sl}:=by
 by_cases hb:b∈fs
 ·exact u.slot b ob q n hb hx
 ·exact⟨ob.slots,u.keep b ob q n hb hx⟩
theorem Un.kept(k: ∀b u,h.get? b=some u->h'.get? b=some u):Un fs ex H H h h':=
 ⟨fun b ob q _ _ _=>k b ob q,fun b ob q _ _ _=>⟨ob.slots,k b ob q⟩,fun _ _ _ n _=>n,fun b ob q _=>⟨ob,k b ob q⟩,fun _ _ q=>q,fun _ _ _ q=>q,fun _ ps q=>⟨#[],by rw[q];simp⟩⟩
theorem Un.refl:Un fs ex H H h h:=Un.kept fun _ _ q=>q
theorem Un.laid(k: ∀b u,h.get? b=some u->h'.get? b=some u)(hp:h.objs.size<=a)(hn:H a=none):Un fs ex H (upd H a o) h h' where
 keep:=fun b u q _ _ _=>k b u q
 slot:=fun b u q _ _ _=>⟨u.slots,k b u q⟩
 free:=fun b u q n _=>by rw[Z6 (A2 (r8 (Heap.lt_size q) hp))];exact n
 there:=fun b u q _=>⟨u,k b u q⟩
 tups:=fun b xs q=>by rw[Z6 (J5 q hn)];exact q
 frzs:=fun b u xs q=>by rw[Z6 (J5 q hn)];exact q
 tbls:=fun b ps q=>⟨#[],by rw[Z6 (J5 q hn),q];simp⟩
theorem Un.write(mu:Mut (H x))(he:e=x\/H e=some (.own x))(k: ∀b u,b≠e->h.get? b=some u->h'.get? b=some u)(heo: ∃u,h'.get? e=some u):Un fs ex H (upd H x o) h h':=by
 have hx: ∀b,H b=none->b≠x:=fun b n z=>by subst z;rw[n] at mu;exact mu
 have hb: ∀b,H b=none->b≠e:=fun b n z=>by
  subst z
  rcases he with r|r
  ·exact hx b n r
  ·rw[n] at r;cases r
 have hm: ∀b u,H b=some u->¬Mut (some u)->b≠x:=fun b u q nm z=>by subst z;rw[q] at mu;exact nm mu
 refine⟨fun b u q n _ _=>k b u (hb b n) q,fun b u q n _ _=>⟨u.slots,k b u (hb b n) q⟩,fun b u q n _=>by rw[Z6 (hx b n)];exact n,fun b u q _=> ?_,
  fun b xs q=>by rw[Z6 (hm b _ q fun z=>z)];exact q,fun b u xs q=>by rw[Z6 (hm b _ q fun z=>z)];exact q,fun b ps q=>⟨#[],by rw[Z6 (hm b _ q fun z=>z),q];simp⟩⟩
 by_cases hbe:b=e
 ·subst hbe;exact heo
 ·exact⟨u,k b u hbe q⟩
end
noncomputable def trk(h:Heap)(H:Hp):List Addr:=(N6 h.objs.size).filter fun a=>(H a).isSome
noncomputable def zb7(h:Heap)(H:Hp):Heap:=W.hideAll h (trk h H)
theorem z8Y(h:Heap)(H:Hp):(zb7 h H).objs.size=h.objs.size:=W.hideAll_size _ _
theorem zb8{h:Heap}{H:Hp}{b:Addr}{o:Obj}(e:h.get? b=some o)(n:H b=none):(zb7 h H).get? b=some o:=
 W.hideAll_get _ e fun hm=>by
  have q:(H b).isSome=true:=(T4.mp hm).2
  rw[n] at q;simp at q
theorem zdl{h:Heap}{H:Hp}{b:Addr}{o:Obj}(e:(zb7 h H).get? b=some o):h.get? b=some o/\H b=none:=by
 have e':h.get? b=some o:=W.of_hideAll (trk h H) e
 refine⟨e', ?_⟩
 cases q:H b with
 |none=>rfl
 |some x=>
  have hm:b∈trk h H:=T4.mpr ⟨T8.mpr (Heap.lt_size e'),by simp[q]⟩
  have z:(zb7 h H).get? b=none:=W.hideAll_none (trk h H) hm
  rw[z] at e;cases e
noncomputable def zdm(g h:Heap)(L:Addr):List (Addr×Obj):=(N6 h.objs.size).filterMap fun a=>if a=L\/(g.get? a).isSome=true then none else(h.get? a).map fun o=>(a,o)
noncomputable def rest(g h:Heap)(L d:Addr):List (Addr×Obj):=(zdm g h L).filter fun p=>decide (p.1≠d)
structure Mod(K:W.Frag)(mg:Str->Option Value)(base:Heap):Prop where
 kin:K.In base
 glob:base.Ns mainGlobals mg
 blt: ∃mb,base.Ns builtinsNs mb/\∀x:Str,x≠ "__name__" ->mb x=bootBuiltins x
 nolimit:base.NoLimit
structure Cx where
 prog:Program
 w:World
 K:W.Frag
 mg:Str->Option Value
 base:Heap
 A:Around
 N:List Str
 s₀:Shared
 H₀:Hp
 env:Env
 outer:List Env
 stack:List Env
 ex:List Addr
 fn:Str->Bool
 calm:Bool
 pn:List (Addr×Obj)
 xe:Value->Shared->Prop
noncomputable def frs(l:List Env):List Addr:=l.filterMap (·.frame)
noncomputable abbrev Cx.fs(X:Cx):List Addr:=frs X.outer
noncomputable def Vis(sc:Scope)(x:Str):Prop:=sc.names.lookup x=some .local\/sc.names.lookup x=some .cell\/sc.names.lookup x=some .free
noncomputable def Loc(sc:Scope)(x:Str):Prop:=sc.names.lookup x=some .local\/sc.names.lookup x=some .cell
noncomputable def zlQ(env:Env)(h:Heap)(m:Str->Option Value)(x:Str)(u:Value):Prop:=
 (env.kindOf x=some .local/\m x=some u)\/((env.kindOf x=some .cell\/env.kindOf x=some .free)/\∃c,env.cells.lookup x=some c/\h.IsCell c (some u))
structure Cx.Ok(X:Cx):Prop where
 mod:Mod X.K X.mg X.base
 kind:X.env.scope.kind= .function
 glob:X.env.globals=mainGlobals
 blt:X.env.builtins=builtinsNs
 above:X.s₀.heap.objs.size<=X.env.locals
 inj: ∀x y c,X.env.cells.lookup x=some c->X.env.cells.lookup y=some c->x=y
 has: ∀x,(X.env.kindOf x=some .cell\/X.env.kindOf x=some .free)->∃c,X.env.cells.lookup x=some c
 cab: ∀x c,X.fn x=true->X.env.cells.lookup x=some c->X.s₀.heap.objs.size<=c
 hd:X.calm=true->X.A.handled=none
 frames:X.A.frames=some X.stack
 stk:X.stack=X.outer\/(X.stack=X.env::X.outer/\X.env.frame=some X.env.locals)
 exf: ∀b∈X.ex,b≠X.env.locals/\∀x c,X.env.cells.lookup x=some c->c≠b
 bs: ∀b o,X.base.get? b=some o->X.s₀.heap.get? b=some o/\X.H₀ b=none
 bsz:X.base.objs.size<=X.s₀.heap.objs.size
 noex: ∀b o,X.base.get? b=some o->b∉X.ex
 exfs: ∀b∈X.ex,b∉X.fs
 funs:X.s₀.heap.FunFrames X.base X.outer
 frf: ∀b∈X.fs,X.H₀ b=none
structure Inv(X:Cx)(pins:List (Addr×Obj))(σ:List (Option V))(H:Hp)(s:Shared):Prop where
 ok:X.Ok
 os:s.os=X.s₀.os
 bare:AllBare s.gens
 base:Un X.fs X.ex X.H₀ H X.s₀.heap s.heap
 loc: ∃m,s.heap.Ns X.env.locals m/\∀(i:Nat) (x:Str) (v:V),X.N[i]? =some x->σ[i]? =some (some v)->Vis X.env.scope x->∃u,RelV v u/\zlQ X.env s.heap m x u
 cell: ∀x c,X.env.cells.lookup x=some c->∃v,s.heap.IsCell c v
 free:H X.env.locals=none
 freeC: ∀x c,X.env.cells.lookup x=some c->H c=none
 pin: ∀p∈X.pn++pins,s.heap.get? p.1=some p.2/\H p.1=none/\p.1≠X.env.locals/\p.1∉X.fs/\∀v,p.2.data≠ .cell v
 hok:HOk X.prog X.w H s.heap
 len:σ.length=X.N.length
section
variable{X:Cx}{pins:List (Addr×Obj)}{σ:List (Option V)}{H H':Hp}{s:Shared}{h':Heap}
theorem Cx.Ok.nofr(ok:X.Ok){b:Addr}{o:Obj}(e:X.base.get? b=some o):b∉X.fs:=fun hb=>by
 have:=(ok.funs.mem hb).1
 rw[e] at this;cases this
theorem Inv.bs(I:Inv X pins σ H s): ∀b o,X.base.get? b=some o->s.heap.get? b=some o/\H b=none:=fun b o e=>
 ⟨I.base.keep b o (I.ok.bs b o e).1 (I.ok.bs b o e).2 (I.ok.nofr e) (I.ok.noex b o e),I.base.free b o (I.ok.bs b o e).1 (I.ok.bs b o e).2 (I.ok.noex b o e)⟩
theorem Inv.bk(I:Inv X pins σ H s): ∀b o,X.base.get? b=some o->s.heap.get? b=some o:=fun b o e=>(I.bs b o e).1
theorem Inv.mod(I:Inv X pins σ H s):Mod X.K X.mg X.base:=I.ok.mod
theorem Inv.kIn(I:Inv X pins σ H s):X.K.In s.heap:=I.ok.mod.kin.keeps I.bk
theorem Inv.lt(I:Inv X pins σ H s):X.env.locals<s.heap.objs.size:=let⟨_,hn,_⟩:=I.loc;hn.lt
theorem Inv.sz(I:Inv X pins σ H s):X.s₀.heap.objs.size<=s.heap.objs.size:=t8 I.ok.above (R9 I.lt)
theorem Inv.nofs(I:Inv X pins σ H s){a:Addr}(h:s.heap.objs.size<=a):a∉X.fs:=fun hb=>by
 obtain⟨_,o,ho,_⟩:=I.ok.funs.mem hb
 exact absurd (r8 (Heap.lt_size ho) (t8 I.sz h)) (D8 _)
theorem Inv.cne(I:Inv X pins σ H s): ∀x c,X.env.cells.lookup x=some c->c≠X.env.locals:=fun x c e z=>by
 obtain⟨v,o,ho,hd⟩:=I.cell x c e
 obtain⟨m,⟨o',es,ep,ho',hd',_⟩,_⟩:=I.loc
 rw[z,ho'] at ho;cases ho;rw[hd'] at hd;cases hd
theorem Inv.funs(I:Inv X pins σ H s):s.heap.FunFrames X.base X.outer:=by
 have all: ∀(l:List Env),(∀b∈frs l,b∈X.fs)->X.s₀.heap.FunFrames X.base l->s.heap.FunFrames X.base l:=by
  intro l
  induction l with
  |nil=>intro _ _;trivial
  |cons env r ih=>
   intro hs hl
   obtain⟨hk,⟨L,o,hf,hn,ho,hd⟩,hr⟩:=hl
   have hL:L∈X.fs:=hs L (by unfold frs;rw[N2,hf];exact o0)
   obtain⟨sl,e⟩:=I.base.slot L o ho (I.ok.frf L hL) hL fun z=>I.ok.exfs L z hL
   exact⟨hk,⟨L,_,hf,hn,e,hd⟩,ih (fun b hb=>hs b (by unfold frs;rw[N2,hf];exact i4 _ hb)) hr⟩
 exact all X.outer (fun _ hb=>hb) I.ok.funs
theorem Inv.stack(I:Inv X pins σ H s):s.heap.FunFrames X.base X.stack:=by
 rcases I.ok.stk with e|⟨e,hf⟩
 ·rw[e];exact I.funs
 ·rw[e]
  obtain⟨m,hn,_⟩:=I.loc
  refine .cons (by rw[I.ok.kind];decide) hf hn ?_ I.funs
  exact Heap.get?_none_of_le (t8 I.ok.bsz I.ok.above)
theorem Inv.stkSub(I:Inv X pins σ H s): ∀b∈frs X.stack,b∈X.env.locals::X.fs:=fun b hb=>by
 rcases I.ok.stk with e|⟨e,hf⟩
 ·rw[e] at hb;exact i4 _ hb
 ·rw[e] at hb
  unfold frs at hb
  rw[N2,hf] at hb
  exact hb
theorem Inv.stkFree(I:Inv X pins σ H s): ∀b∈frs X.stack,H b=none:=fun b hb=>by
 rcases i8.mp (I.stkSub b hb) with e|hb
 ·rw[e];exact I.free
 ·obtain⟨_,o,ho,_⟩:=I.ok.funs.mem hb
  exact I.base.free b o ho (I.ok.frf b hb) fun z=>I.ok.exfs b z hb
theorem Inv.step{g':Array GenState}{t':Nat}{d':Drawn}{ch:List Addr}(I:Inv X pins σ H s)
 (hch: ∀b∈ch,(b∈X.ex\/X.s₀.heap.objs.size<=b)/\b≠X.env.locals/\(∀x c,X.env.cells.lookup x=some c->c≠b)/\∀p∈X.pn++pins,p.1≠b)
 (keep: ∀b o,b≠X.env.locals->b∉X.fs->b∉ch->s.heap.get? b=some o->H b=none->h'.get? b=some o)
 (slot: ∀b o,b≠X.env.locals->b∈X.fs->b∉ch->s.heap.get? b=some o->H b=none->∃sl,h'.get? b=some {o with slots:=sl}) (free: ∀b o,b∉ch->s.heap.get? b=some o->H b=none->H' b=none)
 (there: ∀b o,b∉ch->s.heap.get? b=some o->∃o',h'.get? b=some o')
 (tups: ∀b xs,H b=some (.tup xs)->H' b=some (.tup xs)) (frzs: ∀b o u,H b=some (.frz o u)->H' b=some (.frz o u)) (tbls: ∀b ps,H b=some (.tbl ps)->∃more,H' b=some (.tbl (ps++more)))
 (ns: ∀m,s.heap.Ns X.env.locals m->h'.Ns X.env.locals m) (hok:HOk X.prog X.w H' h') (hg:AllBare g'):
 Inv X pins σ H' {s with heap:=h',gens:=g',drawn:=d',toks:=t'}:=by
 have neL: ∀b o,X.s₀.heap.get? b=some o->b≠X.env.locals:=fun b o e=>A2 (r8 (Heap.lt_size e) I.ok.above)
 have neC: ∀b o,X.s₀.heap.get? b=some o->b∉X.ex->b∉ch:=fun b o e hx hb=>by
  rcases(hch b hb).1 with z|z
  ·exact hx z
  ·exact absurd (r8 (Heap.lt_size e) z) (D8 _)
 have cellK: ∀x c,X.env.cells.lookup x=some c->∀v,s.heap.IsCell c v->h'.IsCell c v:=fun x c e v ⟨o,ho,hd⟩=>by
  have nch:c∉ch:=fun z=>(hch c z).2.2.1 x c e rfl
  by_cases hc:c∈X.fs
  ·obtain⟨sl,q⟩:=slot c o (I.cne x c e) hc nch ho (I.freeC x c e)
   exact⟨_,q,hd⟩
  ·exact⟨o,keep c o (I.cne x c e) hc nch ho (I.freeC x c e),hd⟩
 refine⟨I.ok,I.os,hg,⟨fun b o e n hb hx=> ?_,fun b o e n hb hx=> ?_,fun b o e n hx=> ?_,fun b o e hx=> ?_,fun b xs e=>tups b xs (I.base.tups b xs e),fun b o xs e=>frzs b o xs (I.base.frzs b o xs e),fun b ps e=> ?_⟩, ?_,fun x c e=> ?_, ?_,fun x c e=> ?_,fun p hp=> ?_,hok,I.len⟩
 ·exact keep b o (neL b o e) hb (neC b o e hx) (I.base.keep b o e n hb hx) (I.base.free b o e n hx)
 ·obtain⟨sl,e1⟩:=I.base.slot b o e n hb hx
  obtain⟨sl',e2⟩:=slot b _ (neL b o e) hb (neC b o e hx) e1 (I.base.free b o e n hx)
  exact⟨sl',e2⟩
 ·obtain⟨o',e1⟩:=I.base.there b o e hx
  exact free b o' (neC b o e hx) e1 (I.base.free b o e n hx)
 ·obtain⟨o',e1⟩:=I.base.there b o e hx
  exact there b o' (neC b o e hx) e1
 ·obtain⟨m1,e1⟩:=I.base.tbls b ps e
  obtain⟨m2,e2⟩:=tbls b _ e1
  exact⟨m1++m2,by rw[e2,Array.append_assoc]⟩
 ·obtain⟨m,hn,hl⟩:=I.loc
  refine⟨m,ns m hn,fun i x v e1 e2 e3=> ?_⟩
  obtain⟨u,r,l⟩:=hl i x v e1 e2 e3
  refine⟨u,r, ?_⟩
  rcases l with l|⟨k,c,e,z⟩
  ·exact .inl l
  ·exact .inr ⟨k,c,e,cellK x c e _ z⟩
 ·obtain⟨v,z⟩:=I.cell x c e
  exact⟨v,cellK x c e v z⟩
 ·obtain⟨m,⟨o,_,_,ho,_⟩,_⟩:=I.loc
  exact free _ o (fun z=>(hch _ z).2.1 rfl) ho I.free
 ·obtain⟨v,o,ho,hd⟩:=I.cell x c e
  exact free c o (fun z=>(hch c z).2.2.1 x c e rfl) ho (I.freeC x c e)
 ·obtain⟨e,n,ne,nf,d⟩:=I.pin p hp
  have nch:p.1∉ch:=fun z=>(hch p.1 z).2.2.2 p hp rfl
  exact⟨keep p.1 p.2 ne nf nch e n,free p.1 p.2 nch e n,ne,nf,d⟩
theorem Inv.un{t':Nat}(I:Inv X pins σ H s)(u:Un X.fs [] H H' s.heap h')(hok:HOk X.prog X.w H' h'):Inv X pins σ H' {s with heap:=h',toks:=t'}:=by
 obtain⟨m,⟨o,es,ep,ho,r⟩,_⟩:=id I.loc
 obtain⟨sl,hL⟩:=u.any ho I.free (by simp)
 exact I.step (g':=s.gens) (d':=s.drawn) (ch:=[]) (fun _ z=>nomatch z) (fun b o _ hb _ e n=>u.keep b o e n hb (by simp)) (fun b o _ hb _ e n=>u.slot b o e n hb (by simp)) (fun b o _ e n=>u.free b o e n (by simp)) (fun b o _ e=>u.there b o e (by simp)) u.tups u.frzs u.tbls (fun m' hm=>by
  obtain⟨o',es',ep',ho',r'⟩:=hm
  rw[ho] at ho';cases ho'
  exact⟨_,es',ep',hL,r'⟩) hok I.bare
theorem Inv.call{g':Array GenState}{t':Nat}{d':Drawn}{ch:List Addr}(I:Inv X pins σ H s)(u:Un (frs X.stack) ch H H' s.heap h')(hok:HOk X.prog X.w H' h')(hg:AllBare g')
 (hch: ∀b∈ch,(b∈X.ex\/X.s₀.heap.objs.size<=b)/\b≠X.env.locals/\(∀x c,X.env.cells.lookup x=some c->c≠b)/\∀p∈X.pn++pins,p.1≠b):
 Inv X pins σ H' {s with heap:=h',gens:=g',drawn:=d',toks:=t'}:=by
 obtain⟨m,⟨o,es,ep,ho,r⟩,_⟩:=id I.loc
 obtain⟨sl,hL⟩:=u.any ho I.free fun z=>(hch _ z).2.1 rfl
 exact I.step (ch:=ch) hch (fun b o hL hb hc e n=>u.keep b o e n (fun z=>(i8.mp (I.stkSub b z)).elim hL hb) hc) (fun b o _ _ hc e n=>u.any e n hc) (fun b o hc e n=>u.free b o e n hc) (fun b o hc e=>u.there b o e hc) u.tups u.frzs u.tbls (fun m' hm=>by
  obtain⟨o',es',ep',ho',r'⟩:=hm
  rw[ho] at ho';cases ho'
  exact⟨_,es',ep',hL,r'⟩) hok hg
theorem Inv.turned{t':Nat}{it:Addr}(I:Inv X pins σ H s)(k: ∀b o,b≠it->s.heap.get? b=some o->h'.get? b=some o)(hn:H it=none)(hL:it≠X.env.locals)
 (h1:it∈X.ex\/X.s₀.heap.objs.size<=it) (h2: ∀x c,X.env.cells.lookup x=some c->c≠it) (h3: ∀p∈X.pn++pins,p.1≠it):Inv X pins σ H {s with heap:=h',toks:=t'}:=by
 have nit: ∀b u,H b=some u->b≠it:=fun b u e z=>by rw[z,hn] at e;cases e
 refine I.step (g':=s.gens) (d':=s.drawn) (ch:=[it]) (fun b hb=> ?_) (fun b o _ _ hc e _=>k b o (fun z=>hc (by simp[z])) e) (fun b o _ _ hc e _=>⟨o.slots,k b o (fun z=>hc (by simp[z])) e⟩) (fun _ _ _ _ n=>n)
  (fun b o hc e=>⟨o,k b o (fun z=>hc (by simp[z])) e⟩) (fun _ _ e=>e) (fun _ _ _ e=>e) (fun b ps e=>⟨#[],by rw[e];simp⟩) (fun m hm=> ?_) (fun b u e=> ?_) I.bare
 ·have e:b=it:=by simpa using hb
  subst e
  exact⟨h1,hL,h2,h3⟩
 ·obtain⟨o,es,ep,ho,r⟩:=hm
  exact⟨o,es,ep,k _ o (Ne.symm hL) ho,r⟩
 ·refine(I.hok b u e).stay (fun c v hc q=>k c v ?_ q) (fun _ q=>q) fun _ _ q=>q
  rcases hc with z|z
  ·rw[z];exact nit b u e
  ·exact nit c _ z
theorem Inv.tok(I:Inv X pins σ H s)(t:Nat):Inv X pins σ H {s with toks:=t}:=I.un (h':=s.heap) (t':=t) Un.refl I.hok
theorem Inv.kept{t':Nat}(I:Inv X pins σ H s)(k: ∀b u,s.heap.get? b=some u->h'.get? b=some u):Inv X pins σ H {s with heap:=h',toks:=t'}:=I.un (Un.kept k) (I.hok.kept k)
theorem Inv.laid{a:Addr}{o:HO}{t':Nat}(I:Inv X pins σ H s)(k: ∀b u,s.heap.get? b=some u->h'.get? b=some u)(hp:s.heap.objs.size<=a)(new:z1d X.prog X.w (upd H a o) h' a o):
 Inv X pins σ (upd H a o) {s with heap:=h',toks:=t'}:=I.un (Un.laid k hp (I.hok.fresh hp)) (I.hok.laid k hp new)
theorem Inv.write{x e:Addr}{o:HO}{t':Nat}(I:Inv X pins σ H s)(mu:Mut (H x))(he:e=x\/H e=some (.own x))(k: ∀b u,b≠e->s.heap.get? b=some u->h'.get? b=some u)(heo: ∃u,h'.get? e=some u)
 (new:z1d X.prog X.w (upd H x o) h' x o):Inv X pins σ (upd H x o) {s with heap:=h',toks:=t'}:=I.un (Un.write mu he k heo) (I.hok.write mu he k heo new)
theorem Inv.pins_of{pins':List (Addr×Obj)}(I:Inv X pins σ H s)(h: ∀p∈pins',s.heap.get? p.1=some p.2/\H p.1=none/\p.1≠X.env.locals/\p.1∉X.fs/\∀v,p.2.data≠ .cell v):Inv X pins' σ H s:=
 ⟨I.ok,I.os,I.bare,I.base,I.loc,I.cell,I.free,I.freeC,fun p hp=>(i5.mp hp).elim (fun z=>I.pin p (i3 _ z)) (h p),I.hok,I.len⟩
theorem z7t{N:List Str}(hN:N.Nodup){i j:Nat}{x:Str}(a:N[i]? =some x)(b:N[j]? =some x):i=j:=by
 obtain⟨h1,e1⟩:=List.getElem?_eq_some_iff.mp a
 obtain⟨h2,e2⟩:=List.getElem?_eq_some_iff.mp b
 exact(List.getElem_inj hN).mp (e1.trans e2.symm)
theorem z8Z{M:Model}{A:Around}{E:Value->Shared->Prop}{i:Nat}{x:Str}{v:V}{u:Value}{Q:Unit->Shared->Prop}(I:Inv X pins σ H s)(hN:X.N.Nodup)(hi:X.N[i]? =some x)(hx:Loc X.env.scope x)(r:RelV v u)
 (h: ∀s',Inv X pins (σ.set i (some v)) H s'->(∃a,Heap.SameBut a s.heap s'.heap/\(a=X.env.locals\/X.env.cells.lookup x=some a))->Q () s') (hf:X.fn x=true\/X.env.scope.names.lookup x=some .local:=by first|exact .inl rfl|exact .inr rfl|assumption):wpAny M A (storeName X.env x u) Q E s:=by
 obtain⟨m,hn,hl⟩:=id I.loc
 have hcls:(X.env.scope.kind== .class||(X.env.scope.kind== .module&&X.env.locals !=X.env.globals))=false:=by rw[I.ok.kind];rfl
 have hiσ:i<σ.length:=by rw[I.len];exact(List.getElem?_eq_some_iff.mp hi).1
 have cne:=I.cne
 have tracked: ∀{a:Addr} {h':Heap},(∃o,s.heap.get? a=some o/\H a=none)->Heap.SameBut a s.heap h'->HOk X.prog X.w H h':=fun{a h'} ha hs b ob e=>by
  obtain⟨_,_,hfree⟩:=ha
  refine(I.hok b ob e).stay (fun c w' hc q=>(hs.2 c ?_).trans q) (fun _ q=>q) fun _ _ q=>q
  rintro rfl
  rcases hc with rfl|hc
  ·rw[hfree] at e;cases e
  ·rw[hfree] at hc;cases hc
 rcases hx with hk|hk
 ·refine wpAny_storeName_local hk hn (fun h' hn' hs=> ?_) hcls
  obtain⟨oL,_,_,hoL,_⟩:=id hn
  refine h _ ⟨I.ok,I.os,I.bare,⟨fun b o e n hb hx=> ?_,fun b o e n hb hx=> ?_,I.base.free,fun b o e hx=> ?_,I.base.tups,I.base.frzs,I.base.tbls⟩,⟨_,hn',fun j y v' e1 e2 e3=> ?_⟩,fun y c e=> ?_,I.free,I.freeC,fun p hp=> ?_,tracked ⟨oL,hoL,I.free⟩ hs,by simpa using I.len⟩ ⟨_,hs, .inl rfl⟩
  ·exact(hs.2 b (A2 (r8 (Heap.lt_size e) I.ok.above))).trans (I.base.keep b o e n hb hx)
  ·obtain⟨sl,e1⟩:=I.base.slot b o e n hb hx
   exact⟨sl,(hs.2 b (A2 (r8 (Heap.lt_size e) I.ok.above))).trans e1⟩
  ·obtain⟨o',e1⟩:=I.base.there b o e hx
   exact⟨o',(hs.2 b (A2 (r8 (Heap.lt_size e) I.ok.above))).trans e1⟩
  ·by_cases hj:j=i
   ·subst hj
    rw[hi] at e1;cases e1
    rw[List.getElem?_set_self hiσ] at e2
    cases e2
    exact⟨u,r, .inl ⟨hk,by simp⟩⟩
   ·rw[List.getElem?_set_ne (Ne.symm hj)] at e2
    obtain⟨u',r',q⟩:=hl j y v' e1 e2 e3
    refine⟨u',r', ?_⟩
    rcases q with⟨k,e⟩|⟨k,c,e,z⟩
    ·refine .inl ⟨k, ?_⟩
     have:y≠x:=fun e=>hj (z7t hN e1 (e▸hi))
     simp[this,e]
    ·exact .inr ⟨k,c,e,z.sameBut hs (cne y c e)⟩
  ·obtain⟨w',z⟩:=I.cell y c e
   exact⟨w',z.sameBut hs (cne y c e)⟩
  ·obtain⟨e,n,ne,nf,d⟩:=I.pin p hp
   exact⟨(hs.2 p.1 ne).trans e,n,ne,nf,d⟩
 ·have hfn:X.fn x=true:=by
   rcases hf with z|z
   ·exact z
   ·rw[z] at hk;cases hk
  obtain⟨c,hc⟩:=I.ok.has x (.inl hk)
  obtain⟨w',z⟩:=I.cell x c hc
  refine wpAny_storeName_cell I.ok.kind hk hc z (fun h' hc' hs=> ?_)
  obtain⟨oc,hoc,hocd⟩:=id z
  refine h {s with heap:=h'} ⟨I.ok,I.os,I.bare,⟨fun b o e n hb hx=> ?_,fun b o e n hb hx=> ?_,I.base.free,fun b o e hx=> ?_,I.base.tups,I.base.frzs,I.base.tbls⟩,⟨m,hn.sameBut hs (Ne.symm (cne x c hc)),fun j y v' e1 e2 e3=> ?_⟩,fun y c' e=> ?_,I.free,I.freeC,fun p hp=> ?_,tracked ⟨oc,hoc,I.freeC x c hc⟩ hs,by simpa using I.len⟩ ⟨c,hs, .inr hc⟩
  ·exact(hs.2 b (A2 (r8 (Heap.lt_size e) (I.ok.cab x c hfn hc)))).trans (I.base.keep b o e n hb hx)
  ·obtain⟨sl,e1⟩:=I.base.slot b o e n hb hx
   exact⟨sl,(hs.2 b (A2 (r8 (Heap.lt_size e) (I.ok.cab x c hfn hc)))).trans e1⟩
  ·obtain⟨o',e1⟩:=I.base.there b o e hx
   exact⟨o',(hs.2 b (A2 (r8 (Heap.lt_size e) (I.ok.cab x c hfn hc)))).trans e1⟩
  ·by_cases hj:j=i
   ·subst hj
    rw[hi] at e1;cases e1
    rw[List.getElem?_set_self hiσ] at e2
    cases e2
    exact⟨u,r, .inr ⟨.inl hk,c,hc,hc'⟩⟩
   ·rw[List.getElem?_set_ne (Ne.symm hj)] at e2
    obtain⟨u',r',q⟩:=hl j y v' e1 e2 e3
    refine⟨u',r', ?_⟩
    rcases q with q|⟨k,c',e,z'⟩
    ·exact .inl q
    ·refine .inr ⟨k,c',e,z'.sameBut hs ?_⟩
     rintro rfl
     exact hj (z7t hN e1 (I.ok.inj _ _ _ e hc▸hi))
  ·by_cases hcc:c'=c
   ·subst hcc;exact⟨_,hc'⟩
   ·obtain⟨w2,z2⟩:=I.cell y c' e
    exact⟨w2,z2.sameBut hs hcc⟩
  ·obtain⟨e,n,ne,nf,d⟩:=I.pin p hp
   refine⟨(hs.2 p.1 ?_).trans e,n,ne,nf,d⟩
   intro q
   rw[q,hoc] at e
   have q':oc=p.2:=Option.some.inj e
   exact d w' (by rw[<-q'];exact hocd)
theorem z3m{M:Model}{A:Around}{E:Value->Shared->Prop}{i:Nat}{x:Str}{v:V}{u:Value}{Q:Unit->Shared->Prop}(I:Inv X pins σ H s)(hN:X.N.Nodup)(hi:X.N[i]? =some x)(hx:Loc X.env.scope x)(r:RelV v u)
 (h: ∀s',Inv X pins (σ.set i (some v)) H s'->Q () s') (hf:X.fn x=true\/X.env.scope.names.lookup x=some .local:=by first|exact .inl rfl|exact .inr rfl|assumption):wpAny M A (storeName X.env x u) Q E s:=
 z8Z I hN hi hx r (fun s' I' _=>h s' I') hf
theorem Inv.call'{s':Shared}{ch:List Addr}(I:Inv X pins σ H s)(ho:s'.os=s.os)(u:Un (frs X.stack) ch H H' s.heap s'.heap)(hok:HOk X.prog X.w H' s'.heap)(hg:AllBare s'.gens)
 (hch: ∀b∈ch,(b∈X.ex\/X.s₀.heap.objs.size<=b)/\b≠X.env.locals/\(∀x c,X.env.cells.lookup x=some c->c≠b)/\∀p∈X.pn++pins,p.1≠b):Inv X pins σ H' s':=by
 obtain⟨h',g',d',t',o'⟩:=s'
 have e:o'=s.os:=ho
 subst e
 exact I.call (g':=g') (t':=t') (d':=d') u hok hg hch
end
noncomputable abbrev XK:=Value->Option Addr->Hp->Prop
noncomputable abbrev St:=List (Option V)
noncomputable abbrev VK:=V->Hp->Prop
noncomputable abbrev TE:=St->Hp->VK->Prop
noncomputable abbrev TT:=St->Hp->(Bool->Hp->Prop)->Prop
noncomputable abbrev TA:=St->Hp->(List V->Hp->Prop)->Prop
structure z5R where
 nx:St->Hp->Prop
 rt:VK
 bk:St->Hp->Prop:=fun _ _=>False
 ct:St->Hp->Prop:=fun _ _=>False
noncomputable abbrev TS:=z5R->St->Hp->Prop
noncomputable def EP(X:Cx)(pins:List (Addr×Obj))(σ:St)(Q:VK)(u:Value)(s':Shared):Prop:= ∃v H',Inv X pins σ H' s'/\RelV v u/\Q v H'
noncomputable def TP(X:Cx)(pins:List (Addr×Obj))(σ:St)(Q:Bool->Hp->Prop)(b:Bool)(s':Shared):Prop:= ∃H',Inv X pins σ H' s'/\Q b H'
noncomputable def AP(X:Cx)(pins:List (Addr×Obj))(σ:St)(Q:List V->Hp->Prop)(us:List Value)(s':Shared):Prop:= ∃vs H',Inv X pins σ H' s'/\j4 vs us/\Q vs H'
noncomputable def SP(X:Cx)(pins:List (Addr×Obj))(D:z5R)(f:Flow)(s':Shared):Prop:=
 match f with
 | .next=> ∃σ' H',Inv X pins σ' H' s'/\D.nx σ' H'
 | .brk=> ∃σ' H',Inv X pins σ' H' s'/\D.bk σ' H'
 | .cont=> ∃σ' H',Inv X pins σ' H' s'/\D.ct σ' H'
 | .ret u=> ∃v σ' H',Inv X pins σ' H' s'/\RelV v u/\D.rt v H'
noncomputable def PE(X:Cx)(e:Expr)(t:TE):Prop:=
 ∀(pins:List (Addr×Obj)) (s:Shared) (σ:St) (H:Hp) (Q:VK),Inv X pins σ H s->t σ H Q->wpAny (model X.prog X.w) X.A (eval e X.env) (EP X pins σ Q) X.xe s
noncomputable def PT(X:Cx)(e:Expr)(t:TT):Prop:=
 ∀(pins:List (Addr×Obj)) (s:Shared) (σ:St) (H:Hp) (Q:Bool->Hp->Prop),Inv X pins σ H s->t σ H Q->wpAny (model X.prog X.w) X.A (isTrue e X.env (eval e X.env)) (TP X pins σ Q) X.xe s
noncomputable def PW(X:Cx)(e:Expr)(t:TT):Prop:=
 ∀(whole:Sem Value) (pins:List (Addr×Obj)) (s:Shared) (σ:St) (H:Hp) (Q:Bool->Hp->Prop),Inv X pins σ H s->t σ H Q->wpAny (model X.prog X.w) X.A (isTrue e X.env whole) (TP X pins σ Q) X.xe s
theorem PW.pt{X:Cx}{e:Expr}{t:TT}(h:PW X e t):PT X e t:=h _
noncomputable def PA(X:Cx)(es:List Expr)(t:TA):Prop:=
 ∀(pos:Pos) (pins:List (Addr×Obj)) (s:Shared) (σ:St) (H:Hp) (Q:List V->Hp->Prop),Inv X pins σ H s->t σ H Q->wpAny (model X.prog X.w) X.A (spliced (backTo pos (starEach es X.env))) (AP X pins σ Q) X.xe s
noncomputable def PS(X:Cx)(st:Stmt)(t:TS):Prop:=
 ∀(pins:List (Addr×Obj)) (s:Shared) (σ:St) (H:Hp) (D:z5R),Inv X pins σ H s->t D σ H->wpAny (model X.prog X.w) X.A (exec st X.env) (SP X pins D) X.xe s
noncomputable def PSs(X:Cx)(st:List Stmt)(t:TS):Prop:=
 ∀(pins:List (Addr×Obj)) (s:Shared) (σ:St) (H:Hp) (D:z5R),Inv X pins σ H s->t D σ H->wpAny (model X.prog X.w) X.A (execs st X.env) (SP X pins D) X.xe s
theorem thn{α:Type}{t:Sem α}{Q Q':α->Shared->Prop}{M:Model}{A:Around}{E:Value->Shared->Prop}{s:Shared}(h:wpAny M A t Q E s)(hQ: ∀a s,Q a s->Q' a s):wpAny M A t Q' E s:=wpAny_mono h hQ fun _ _ x=>x
section
variable{X:Cx}
noncomputable def ziL(i:Nat):TE:=fun σ H Q=> ∃v,σ[i]? =some (some v)/\Q v H
noncomputable def tC(v:V):TE:=fun _ H Q=>Q v H
theorem zfj{i:Nat}{x:Str}{pos:Pos}(hN:X.N[i]? =some x)(hv:Vis X.env.scope x)(hd:(x==("__debug__" :Str))=false:=by decide)(hcd:(x==("__classdict__" :Str))=false:=by decide):PE X (.Name x pos) (ziL i):=by
 intro pins s σ H Q I h
 obtain⟨v,e,h⟩:=h
 obtain⟨m,hn,hl⟩:=I.loc
 obtain⟨u,r,l⟩:=hl i x v hN e hv
 have fin:EP X pins σ Q u s:=⟨v,H,I,r,h⟩
 rcases l with⟨hk,hm⟩|⟨hk,c,hc,hcell⟩
 ·exact wpAny_Name (wpAny_loadName_local I.ok.kind hk hn hm fin) hd
 ·rcases hk with hk|hk
  ·exact wpAny_Name (wpAny_loadName_cell I.ok.kind hk hc hcell fin) hd
  ·exact wpAny_Name (wpAny_loadName_free I.ok.kind hk hc hcell fin hcd) hd
theorem y1{i j pos}:PE X (.Constant (.int i) j pos) (tC (.int i)):=fun _ _ _ H _ I h=>wpAny_Constant_int ⟨.int i,H,I.tok _,⟨_,rfl⟩,h⟩
theorem z1M{b j pos}:PE X (.Constant (.bool b) j pos) (tC (.bl b)):=fun _ _ _ H _ I h=>Constant_bool ⟨.bl b,H,I,rfl,h⟩
theorem z0l{j pos}:PE X (.Constant .none j pos) (tC .non):=fun _ _ _ H _ I h=>Constant_none ⟨.non,H,I,rfl,h⟩
theorem Z7{x j pos}:PE X (.Constant (.str x) j pos) (tC (.str x)):=fun _ _ _ H _ I h=>Calls.Constant_str ⟨.str x,H,I.tok _,⟨_,rfl⟩,h⟩
noncomputable def Gl(X:Cx)(x:Str):Prop:=X.env.kindOf x=some .globalImplicit
theorem z3w{E:Value->Shared->Prop}{pins:List (Addr×Obj)}{s:Shared}{σ:St}{H:Hp}{x:Str}{u:Value}{pos:Pos}{Q:Value->Shared->Prop}(I:Inv X pins σ H s)(hg:Gl X x)(hm:X.mg x=some u)(h:Q u s)
 (hd:(x==("__debug__" :Str))=false:=by decide):wpAny (model X.prog X.w) X.A (eval (.Name x pos) X.env) Q E s:=
 Calls.Name_function_global I.ok.kind hg (Calls.loadGlobal_global (by rw[I.ok.glob];exact I.mod.glob.keeps I.bk) hm h) hd
theorem z4p{E:Value->Shared->Prop}{pins:List (Addr×Obj)}{s:Shared}{σ:St}{H:Hp}{x:Str}{u:Value}{pos:Pos}{Q:Value->Shared->Prop}(I:Inv X pins σ H s)(hg:Gl X x)(hm:X.mg x=none)(hv:bootBuiltins x=some u)(h:Q u s)
 (hn:x≠ "__name__" :=by decide) (hd:(x==("__debug__" :Str))=false:=by decide):wpAny (model X.prog X.w) X.A (eval (.Name x pos) X.env) Q E s:=by
 obtain⟨mb,h1,h2⟩:=I.mod.blt
 exact Calls.Name_function_global I.ok.kind hg (Calls.loadGlobal_builtin (by rw[I.ok.glob];exact I.mod.glob.keeps I.bk) hm (by rw[I.ok.blt];exact h1.keeps I.bk) ((h2 x hn).trans hv) h) hd
theorem Z8{x:Str}{v:V}{u:Value}{pos:Pos}(hg:Gl X x)(hm:X.mg x=some u)(r:RelV v u)(hd:(x==("__debug__" :Str))=false:=by decide):PE X (.Name x pos) (tC v):=
 fun _ _ _ H _ I h=>z3w I hg hm ⟨v,H,I,r,h⟩ hd
theorem X1{x:Str}{v:V}{u:Value}{pos:Pos}(hg:Gl X x)(hm:X.mg x=none)(hv:bootBuiltins x=some u)(r:RelV v u)(hn:x≠ "__name__" :=by decide)(hd:(x==("__debug__" :Str))=false:=by decide):PE X (.Name x pos) (tC v):=
 fun _ _ _ H _ I h=>z4p I hg hm hv ⟨v,H,I,r,h⟩ hn hd
variable{a b:Expr}{ta tb:TE}{pos:Pos}
variable{tA tB':TT}{rest:List Expr}
noncomputable def zlR(t u:TT):TT:=fun σ H Q=>t σ H fun c H1=>if c=true then u σ H1 Q else Q false H1
noncomputable def tOr(t u:TT):TT:=fun σ H Q=>t σ H fun c H1=>if c=true then Q true H1 else u σ H1 Q
noncomputable def zlS(t:TT):TT:=fun σ H Q=>t σ H fun c H1=>Q (!c) H1
theorem zdn(ha:PT X a tA):PW X (.BoolOp .And [a] pos) tA:=by
 intro wh pins s σ H Q I h
 refine isTrue_and (thn (ha pins s σ H Q I h) fun c s1 e=> ?_)
 cases c with
 |true=>exact isTrue_and_nil e
 |false=>exact e
theorem zfk(ha:PT X a tA):PW X (.BoolOp .Or [a] pos) tA:=by
 intro wh pins s σ H Q I h
 refine isTrue_or (thn (ha pins s σ H Q I h) fun c s1 e=> ?_)
 cases c with
 |false=>exact isTrue_or_nil e
 |true=>exact e
theorem zfl(ha:PT X a tA)(hb:PW X (.BoolOp .And (b::rest) pos) tB'):PW X (.BoolOp .And (a::b::rest) pos) (zlR tA tB'):=by
 intro wh pins s σ H Q I h
 refine isTrue_and (thn (ha pins s σ H _ I h) fun c s1 ⟨H1,I1,q1⟩=> ?_)
 cases c with
 |true=>exact hb wh pins s1 σ H1 Q I1 q1
 |false=>exact⟨H1,I1,q1⟩
theorem zj0(ha:PT X a tA)(hb:PW X (.BoolOp .Or (b::rest) pos) tB'):PW X (.BoolOp .Or (a::b::rest) pos) (tOr tA tB'):=by
 intro wh pins s σ H Q I h
 refine isTrue_or (thn (ha pins s σ H _ I h) fun c s1 ⟨H1,I1,q1⟩=> ?_)
 cases c with
 |true=>exact⟨H1,I1,q1⟩
 |false=>exact hb wh pins s1 σ H1 Q I1 q1
theorem zfm(ha:PT X a tA):PT X (.UnaryOp .Not a pos) (zlS tA):=by
 intro pins s σ H Q I h
 exact isTrue_not (ha pins s σ H (fun c H1=>Q (!c) H1) I h)
noncomputable def zj1(ta tb:TE):TE:=fun σ H Q=>ta σ H fun x H1=> ∃c,x= .bl c/\if c=true then tb σ H1 Q else Q (.bl false) H1
noncomputable def zlT(ta tb:TE):TE:=fun σ H Q=>ta σ H fun x H1=> ∃c,x= .bl c/\if c=true then Q (.bl true) H1 else tb σ H1 Q
noncomputable def zj2(ta:TE):TE:=fun σ H Q=>ta σ H fun x H1=> ∃c,x= .bl c/\Q (.bl (!c)) H1
theorem zfn{op}{t:TE}(h:PE X a t):PE X (.BoolOp op [a] pos) t:=fun pins s σ H Q I hw=>BoolOp_one (h pins s σ H Q I hw)
theorem zfo(ha:PE X a ta)(hb:PE X (.BoolOp .And (b::rest) pos) tb):PE X (.BoolOp .And (a::b::rest) pos) (zj1 ta tb):=by
 intro pins s σ H Q I h
 refine BoolOp_and (thn (ha pins s σ H _ I h) fun v s1 ⟨x,H1,I1,r1,q1⟩=> ?_)
 obtain⟨c,rfl,q1⟩:=q1
 cases r1
 refine wpAny_truthy_bool ?_
 cases c with
 |true=>exact hb pins s1 σ H1 Q I1 q1
 |false=>exact⟨.bl false,H1,I1,rfl,q1⟩
theorem zj3(ha:PE X a ta)(hb:PE X (.BoolOp .Or (b::rest) pos) tb):PE X (.BoolOp .Or (a::b::rest) pos) (zlT ta tb):=by
 intro pins s σ H Q I h
 refine BoolOp_or (thn (ha pins s σ H _ I h) fun v s1 ⟨x,H1,I1,r1,q1⟩=> ?_)
 obtain⟨c,rfl,q1⟩:=q1
 cases r1
 refine wpAny_truthy_bool ?_
 cases c with
 |false=>exact hb pins s1 σ H1 Q I1 q1
 |true=>exact⟨.bl true,H1,I1,rfl,q1⟩
theorem zfp(ha:PE X a ta):PE X (.UnaryOp .Not a pos) (zj2 ta):=by
 intro pins s σ H Q I h
 refine UnaryOp_ (thn (ha pins s σ H _ I h) fun v s1 ⟨x,H1,I1,r1,q1⟩=> ?_)
 obtain⟨c,rfl,q1⟩:=q1
 cases r1
 exact not_of (wpAny_truthy_bool ⟨.bl (!c),H1,I1,rfl,q1⟩)
noncomputable def tIf(t:TT)(ta tb:TE):TE:=fun σ H Q=>t σ H fun c H1=>if c=true then ta σ H1 Q else tb σ H1 Q
theorem zb9{c:Expr}(hc:PT X c tA)(ha:PE X a ta)(hb:PE X b tb):PE X (.IfExp c a b pos) (tIf tA ta tb):=by
 intro pins s σ H Q I h
 refine wpAny_IfExp (thn (hc pins s σ H _ I h) fun d s1 ⟨H1,I1,q1⟩=> ?_)
 cases d with
 |true=>exact ha pins s1 σ H1 Q I1 q1
 |false=>exact hb pins s1 σ H1 Q I1 q1
end
noncomputable def SqL(K:W.Frag)(H:Hp)(a:Addr)(xs:List V):Prop:=
 Rd H a (.lst xs)\/
  ∃(o:Obj) (its:Array Value) (n:Nat),K.lookup a=some o/\o.cls= .type "list" /\o.dict=none/\o.data= .seq its n/\its.size<=sizeLine/\j4 xs its.toList
noncomputable def SqT(K:W.Frag)(H:Hp)(a:Addr)(xs:List V):Prop:=
 Rd H a (.tup xs)\/
  ∃(o:Obj) (its:Array Value) (n:Nat),K.lookup a=some o/\o.cls= .type "tuple" /\o.data= .seq its n/\its.size<=sizeLine/\j4 xs its.toList
noncomputable def zlU:Value->Option V
 | .none=>some .non
 | .bool b=>some (.bl b)
 | .int i _=>some (.int i)
 | .str x _=>some (.str x)
 | .bytes b _=>some (.byt b)
 | .float b _=>some (.flt b)
 | .ref a=>some (.ref a)
 | .type n=>some (.ty n)
 |_=>none
theorem RelV.abs{x:V}{u:Value}(r:RelV x u):zlU u=some x:=by
 cases x with
 |non=>cases r;rfl
 |bl _=>cases r;rfl
 |int _=>obtain⟨t,rfl⟩:=r;rfl
 |str _=>obtain⟨t,rfl⟩:=r;rfl
 |byt _=>obtain⟨t,rfl⟩:=r;rfl
 |flt _=>obtain⟨t,rfl⟩:=r;rfl
 |ref _=>cases r;rfl
 |ty _=>cases r;rfl
theorem RelV.inj{x y:V}{u:Value}(r:RelV x u)(q:RelV y u):x=y:=Option.some.inj (r.abs.symm.trans q.abs)
theorem j4.inj: ∀{xs ys:List V} {us:List Value},j4 xs us->j4 ys us->xs=ys
 |_,_,_, .nil, .nil=>rfl
 |_,_,_, .cons r t, .cons r' t'=>by rw[r.inj r',j4.inj t t']
section
variable{X:Cx}{pins:List (Addr×Obj)}{σ:St}{H:Hp}{s:Shared}{a:Addr}{xs ys:List V}
theorem SqL.of{K:W.Frag}(h:H a=some (.lst xs)):SqL K H a xs:= .inl (.inl h)
theorem SqT.of{K:W.Frag}(h:H a=some (.tup xs)):SqT K H a xs:= .inl (.inl h)
theorem Inv.list(I:Inv X pins σ H s)(h:SqL X.K H a xs): ∃its:List Value,j4 xs its/\PlainL s.heap a its.toArray/\xs.length<=sizeLine:=by
 rcases h with h|⟨o,its,n,hk,hc,hd,hs,hz,r⟩
 ·obtain⟨z,its,n,r,e⟩:=h.ok I.hok
  exact⟨its,r,⟨_,n,e,rfl,rfl,rfl⟩,z⟩
 ·refine⟨its.toList,r,⟨o,n,I.kIn a o hk,hc,hd,by simpa using hs⟩, ?_⟩
  have e:=r.length
  erw[Array.length_toList] at e
  lia
theorem Inv.tuple(I:Inv X pins σ H s)(h:SqT X.K H a xs): ∃its:List Value,j4 xs its/\IsTup s.heap a its.toArray/\xs.length<=sizeLine:=by
 rcases h with h|⟨o,its,n,hk,hc,hs,hz,r⟩
 ·obtain⟨z,its,r,p⟩:=h.ok I.hok
  exact⟨its,r,p,z⟩
 ·refine⟨its.toList,r,⟨o,I.kIn a o hk,hc,n,by simpa using hs⟩, ?_⟩
  have e:=r.length
  erw[Array.length_toList] at e
  lia
theorem Inv.list_inj(I:Inv X pins σ H s)(h:SqL X.K H a xs)(h':SqL X.K H a ys):xs=ys:=by
 obtain⟨its,r,⟨o,n,e,_,_,d⟩,_⟩:=I.list h
 obtain⟨its',r',⟨o',n',e',_,_,d'⟩,_⟩:=I.list h'
 rw[e] at e';cases e'
 rw[d] at d'
 injection d' with d1 _
 have:its=its':=by simpa using congrArg Array.toList d1
 subst this
 exact r.inj r'
theorem Inv.tuple_inj(I:Inv X pins σ H s)(h:SqT X.K H a xs)(h':SqT X.K H a ys):xs=ys:=by
 obtain⟨its,r,⟨o,e,_,n,d⟩,_⟩:=I.tuple h
 obtain⟨its',r',⟨o',e',_,n',d'⟩,_⟩:=I.tuple h'
 rw[e] at e';cases e'
 rw[d] at d'
 injection d' with d1 _
 have:its=its':=by simpa using congrArg Array.toList d1
 subst this
 exact r.inj r'
end
noncomputable abbrev Cx.wish(X:Cx)(E:Value->Shared->Prop):Cx:={X with xe:=E}
noncomputable abbrev Cx.nox(X:Cx):Cx:=X.wish fun _ _=>False
theorem Cx.Ok.wish{X:Cx}(ok:X.Ok)(E:Value->Shared->Prop):(X.wish E).Ok:=
 ⟨ok.mod,ok.kind,ok.glob,ok.blt,ok.above,ok.inj,ok.has,ok.cab,ok.hd,ok.frames,ok.stk,ok.exf,ok.bs,ok.bsz,ok.noex,ok.exfs,ok.funs,ok.frf⟩
theorem Cx.Ok.unwish{X:Cx}{E:Value->Shared->Prop}(ok:(X.wish E).Ok):X.Ok:=
 ⟨ok.mod,ok.kind,ok.glob,ok.blt,ok.above,ok.inj,ok.has,ok.cab,ok.hd,ok.frames,ok.stk,ok.exf,ok.bs,ok.bsz,ok.noex,ok.exfs,ok.funs,ok.frf⟩
section
variable{X:Cx}{pins:List (Addr×Obj)}{σ:St}{H:Hp}{s:Shared}{E:Value->Shared->Prop}
theorem Inv.wish(I:Inv X pins σ H s)(E:Value->Shared->Prop):Inv (X.wish E) pins σ H s:=⟨I.ok.wish E,I.os,I.bare,I.base,I.loc,I.cell,I.free,I.freeC,I.pin,I.hok,I.len⟩
theorem Inv.unwish(I:Inv (X.wish E) pins σ H s):Inv X pins σ H s:=⟨I.ok.unwish,I.os,I.bare,I.base,I.loc,I.cell,I.free,I.freeC,I.pin,I.hok,I.len⟩
theorem SP.unwish{D:z5R}{f:Flow}{s':Shared}(h:SP (X.wish E) pins D f s'):SP X pins D f s':=by
 cases f with
 |next=>obtain⟨σ',H',I,q⟩:=h;exact⟨σ',H',I.unwish,q⟩
 |brk=>obtain⟨σ',H',I,q⟩:=h;exact⟨σ',H',I.unwish,q⟩
 |cont=>obtain⟨σ',H',I,q⟩:=h;exact⟨σ',H',I.unwish,q⟩
 |ret u=>obtain⟨v,σ',H',I,r,q⟩:=h;exact⟨v,σ',H',I.unwish,r,q⟩
theorem PSs.nox{st:List Stmt}{t:TS}(h:PSs X.nox st t):PSs X st t:=fun pins s σ H D I hw=>
 wpAny_mono (h pins s σ H D (I.wish _) hw) (fun _ _ q=>q.unwish) fun _ _ z=>False.elim z
end
section
variable{X:Cx}{st:Stmt}{rest:List Stmt}{t u:TS}{e:Expr}{te:TE}{pos:Pos}
noncomputable def zj4:TS:=fun D σ H=>D.nx σ H
noncomputable def zlV(t u:TS):TS:=fun D σ H=>t {D with nx:=u D} σ H
theorem zdo:PSs X [] zj4:=fun _ _ σ H _ I h=>wpAny_execs_nil ⟨σ,H,I,h⟩
theorem zba(h1:PS X st t)(h2:PSs X rest u):PSs X (st::rest) (zlV t u):=by
 intro pins s σ H D I h
 refine wpAny_execs_cons (thn (h1 pins s σ H {D with nx:=u D} I h) fun f s1 q=> ?_)
 cases f with
 |next=>
  obtain⟨σ',H',I',q⟩:=q
  exact h2 pins s1 σ' H' D I' q
 |ret v=>exact q
 |brk=>exact q
 |cont=>exact q
theorem zdp(h1:PS X st t):PSs X [st] t:=by
 intro pins s σ H D I h
 refine wpAny_execs_cons (thn (h1 pins s σ H D I h) fun f s1 q=> ?_)
 cases f with
 |next=>exact wpAny_execs_nil q
 |ret v=>exact q
 |brk=>exact q
 |cont=>exact q
theorem Inv.quiet{pins:List (Addr×Obj)}{σ:St}{H:Hp}{s:Shared}(I:Inv X pins σ H s):interactive X.env=false:=by simp[interactive,I.ok.kind]
noncomputable def zj5(te:TE):TS:=fun D σ H=>te σ H fun _ H1=>D.nx σ H1
theorem zdq(he:PE X e te)(hs:swapsWith e none pos.line X.env=pure false:=by rfl):PS X (.Expr e pos) (zj5 te):=by
 intro pins s σ H D I h
 exact wpAny_Expr_any (thn (he pins s σ H _ I h) fun v s1 ⟨x,H1,I1,r1,q1⟩=>⟨σ,H1,I1,q1⟩) I.quiet hs
noncomputable def zlW(te:TE):TS:=fun D σ H=>te σ H D.rt
theorem zfq(he:PE X e te):PS X (.Return (some e) pos) (zlW te):=by
 intro pins s σ H D I h
 exact wpAny_Return_some (thn (he pins s σ H _ I h) fun v s1 ⟨x,H1,I1,r1,q1⟩=>⟨x,σ,H1,I1,r1,q1⟩)
noncomputable def zlX(c:TT)(t u:TS):TS:=fun D σ H=>c σ H fun b H1=>if b=true then t D σ H1 else u D σ H1
theorem zj6{c:Expr}{a b:List Stmt}{tc:TT}(hc:PT X c tc)(ha:PSs X a t)(hb:PSs X b u):PS X (.If c a b pos) (zlX tc t u):=by
 intro pins s σ H D I h
 refine wpAny_If (thn (hc pins s σ H _ I h) fun d s1 ⟨H1,I1,q1⟩=> ?_)
 cases d with
 |true=>exact ha pins s1 σ H1 D I1 q1
 |false=>exact hb pins s1 σ H1 D I1 q1
end
noncomputable abbrev TG:=V->St->Hp->(St->Hp->Prop)->Prop
noncomputable abbrev TGs:=List V->St->Hp->(St->Hp->Prop)->Prop
noncomputable def PG(X:Cx)(target:Expr)(t:TG):Prop:=
 ∀(pins:List (Addr×Obj)) (s:Shared) (σ:St) (H:Hp) (v:V) (u:Value) (Q:St->Hp->Prop),Inv X pins σ H s->RelV v u->t v σ H Q->
  wpAny (model X.prog X.w) X.A (assign target X.env u) (fun _ s'=> ∃σ' H',Inv X pins σ' H' s'/\Q σ' H') X.xe s
noncomputable def PGs(X:Cx)(ts:List Expr)(t:TGs):Prop:=
 ∀(pins:List (Addr×Obj)) (s:Shared) (σ:St) (H:Hp) (vs:List V) (us:List Value) (Q:St->Hp->Prop),Inv X pins σ H s->j4 vs us->t vs σ H Q->
  wpAny (model X.prog X.w) X.A (assignInOrder ((assignEach ts X.env).map (·.2)) us) (fun _ s'=> ∃σ' H',Inv X pins σ' H' s'/\Q σ' H') X.xe s
noncomputable abbrev zj7:=V->V->V->Hp->(Hp->Prop)->Prop
noncomputable def zlw(X:Cx)(t:zj7):Prop:=
 ∀(pins:List (Addr×Obj)) (s:Shared) (σ:St) (H:Hp) (o i v:V) (ov iv u:Value) (Q:Hp->Prop),Inv X pins σ H s->RelV o ov->RelV i iv->RelV v u->t o i v H Q->
  wpAny (model X.prog X.w) X.A (setItem ov iv u) (fun _ s'=> ∃H',Inv X pins σ H' s'/\Q H') X.xe s
section
variable{X:Cx}{pos:Pos}
noncomputable def z8f(i:Nat):TG:=fun v σ H Q=>Q (σ.set i (some v)) H
theorem j9{i:Nat}{x:Str}(hN:X.N.Nodup)(hi:X.N[i]? =some x)(hx:Loc X.env.scope x)(hf:X.fn x=true\/X.env.scope.names.lookup x=some .local:=by first|exact .inl rfl|exact .inr rfl|assumption):PG X (.Name x pos) (z8f i):=by
 intro pins s σ H v u Q I r h
 exact wpAny_assign_Name (z3m I hN hi hx r (fun s' I'=>⟨_,H,I',h⟩) hf)
noncomputable def zfr:TGs:=fun vs σ H Q=>vs=[]/\Q σ H
noncomputable def z8g(t:TG)(u:TGs):TGs:=fun vs σ H Q=> ∃v r,vs=v::r/\t v σ H fun σ' H'=>u r σ' H' Q
theorem z90:PGs X [] zfr:=by
 intro pins s σ H vs us Q I r h
 obtain⟨e,h⟩:=h
 subst e
 cases r
 exact assignInOrder_nil ⟨σ,H,I,h⟩
theorem z4M{e:Expr}{es:List Expr}{t:TG}{u:TGs}(h1:PG X e t)(h2:PGs X es u)
 (hs:(assignEach (e::es) X.env).map (·.2)=assign e X.env::(assignEach es X.env).map (·.2):=by rfl):PGs X (e::es) (z8g t u):=by
 intro pins s σ H vs us Q I r h
 obtain⟨v,vr,e1,h⟩:=h
 subst e1
 cases r with
 |cons r rr=>
  rw[hs]
  refine assignInOrder_cons (thn (h1 pins s σ H _ _ _ I r h) fun _ s1 ⟨σ1,H1,I1,q1⟩=> ?_)
  exact h2 pins s1 σ1 H1 _ _ Q I1 rr q1
noncomputable def zj8(K:W.Frag)(n:Nat)(t:TGs):TG:=fun v σ H Q=> ∃a xs,v= .ref a/\SqT K H a xs/\xs.length=n/\t xs σ H Q
theorem zcm{es:List Expr}{k:Nat}{t:TGs}{n:Nat}(hc:X.calm=true)(h:PGs X es t)
 (hn:(assignEach es X.env).length=n:=by rfl) (hst:(assignEach es X.env).findIdx? (·.1)=none:=by rfl):PG X (.Tuple es k pos) (zj8 X.K n t):=by
 intro pins s σ H v u Q I r hw
 obtain⟨a,xs,e1,hq,hl,hw⟩:=hw
 subst e1
 cases r
 obtain⟨its,rv,ht,hz⟩:=I.tuple hq
 refine assign_Tuple_tuple (I.ok.hd hc) ht (by simp[hn,<-hl,rv.length]) hst fun h' hx=> ?_
 have I1:Inv X pins σ H {s with heap:=h'}:=I.kept (t':=s.toks) fun b o e=>hx b o (A2 (Heap.lt_size e)) e
 exact h pins _ σ H xs _ Q I1 (by simpa using rv) hw
noncomputable def zcn(to ti:TE)(t:zj7):TG:=fun v σ H Q=>to σ H fun o H1=>ti σ H1 fun i H2=>t o i v H2 fun H3=>Q σ H3
theorem z5S{o i:Expr}{to ti:TE}{t:zj7}(ho:PE X o to)(hi:PE X i ti)(hs:zlw X t)
 (ha: ∀v,assign (.Subscript o i pos) X.env v=(do
  let ov<-holding [v] (eval o X.env)
  let iv<-holding [v,ov] (eval i X.env)
  standAt pos
  holding [v,ov,iv] (setItem ov iv v)
  release [v,ov,iv] []):=by intro _;rfl):PG X (.Subscript o i pos) (zcn to ti t):=by
 intro pins s σ H v u Q I r h
 rw[ha]
 refine wpAny_bind (wpAny_holding (thn (ho pins s σ H _ I h) fun ov s1 ⟨x,H1,I1,r1,q1⟩=> ?_))
 refine wpAny_bind (wpAny_holding (thn (hi pins s1 σ H1 _ I1 q1) fun iv s2 ⟨y,H2,I2,r2,q2⟩=> ?_))
 refine wpAny_bind (wpAny_standAt (wpAny_bind (wpAny_holding (thn (hs pins s2 σ H2 x y v ov iv u _ I2 r1 r2 r q2) fun _ s3 ⟨H3,I3,q3⟩=> ?_))))
 exact wpAny_release ⟨σ,H3,I3,q3⟩
noncomputable def ziM(te:TE)(g:TG):TS:=fun D σ H=>te σ H fun x H1=>g x σ H1 D.nx
theorem z91{tg e:Expr}{te:TE}{g:TG}(he:PE X e te)(hg:PG X tg g)(hs:swapsWithSole [tg] e pos.line X.env=pure false:=by rfl)(hw:swappedStores [tg] e X.env=pure none:=by rfl)
 (h1:(assignEach [tg] X.env).map (·.2)=[assign tg X.env]:=by rfl):PS X (.Assign [tg] e pos) (ziM te g):=by
 intro pins s σ H D I h
 refine wpAny_Assign_stores (thn (he pins s σ H _ I h) fun v s1 ⟨x,H1,I1,r1,q1⟩=> ?_) hs hw
 rw[h1]
 exact thn (hg pins s1 σ H1 x v _ I1 r1 q1) fun _ s2 q=>q
theorem zco{i:Nat}{x:Str}{e:Expr}{te:TE}{pos':Pos}(hN:X.N.Nodup)(hi:X.N[i]? =some x)(hx:Loc X.env.scope x)(he:PE X e te)(hs:swapsWith e (some (.Name x pos')) pos.line X.env=pure false:=by rfl)(hf:X.fn x=true\/X.env.scope.names.lookup x=some .local:=by first|exact .inl rfl|exact .inr rfl|assumption):
 PS X (.Assign [.Name x pos'] e pos) (ziM te (z8f i)):=by
 intro pins s σ H D I h
 refine wpAny_Assign_Name (thn (he pins s σ H _ I h) fun v s1 ⟨y,H1,I1,r1,q1⟩=> ?_) hs
 exact z3m I1 hN hi hx r1 (fun s2 I2=>⟨_,H1,I2,q1⟩) hf
end
structure It where
 go:Nat->Hp->Prop
 yld:Nat->Hp->V->Hp->Prop
 stop:Nat->Hp->Prop
noncomputable def z5T(X:Cx)(pins:List (Addr×Obj))(H:Hp)(b:Addr):Prop:=
 H b=none/\b≠X.env.locals/\b∉X.fs/\(b∈X.ex\/X.s₀.heap.objs.size<=b)/\(∀x c,X.env.cells.lookup x=some c->c≠b)/\∀p∈X.pn++pins,p.1≠b
theorem Inv.fpOk{X:Cx}{pins:List (Addr×Obj)}{σ:St}{H H':Hp}{s:Shared}{b:Addr}(I:Inv X pins σ H s)(hb:s.heap.objs.size<=b)(hn:H' b=none):z5T X pins H' b:=by
 refine⟨hn,P5 (r8 I.lt hb),I.nofs hb, .inr (t8 I.sz hb),fun x c e z=> ?_,fun p hp z=> ?_⟩
 ·obtain⟨v,q⟩:=I.cell x c e
  exact absurd (r8 q.lt (by rw[z];exact hb)) (D8 _)
 ·exact absurd (r8 (Heap.lt_size (I.pin p hp).1) (by rw[z];exact hb)) (D8 _)
structure zcp(P:Program)(w:World)(K:W.Frag)(tg:Expr)(J:It)(fp:List Addr)(it:Addr)(tn:Nat->Heap->Prop):Prop where
 mem:it∈fp
 obj: ∀i h,tn i h->∀b∈fp,∃o,h.get? b=some o/\∀v,o.data≠ .cell v
 keep: ∀i h h',tn i h->(∀b∈fp,∀o,h.get? b=some o->h'.get? b=some o)->tn i h'
 item: ∀(X:Cx),X.prog=P->X.w=w->X.K=K->X.calm=true->∀(i:Nat) (pins:List (Addr×Obj)) (s:Shared) (σ:St) (H:Hp) (E:Value->Shared->Prop),Inv X pins σ H s->(∀b∈fp,z5T X pins H b)->tn i s.heap->J.go i H->
  wpAny (model P w) X.A (pyNext (.ref it)) (fun r s1=> ∃u,r=some u/\
   wpAny (model P w) X.A (letOwnedTupleGo tg (.ref it) u) (fun _ s2=> ∃x H',Inv X pins σ H' s2/\RelV x u/\J.yld i H x H'/\tn (i+1) s2.heap/\∀b∈fp,H' b=none) E s1) E s
 done: ∀(X:Cx),X.prog=P->X.w=w->X.K=K->X.calm=true->∀(i:Nat) (pins:List (Addr×Obj)) (s:Shared) (σ:St) (H:Hp) (E:Value->Shared->Prop),Inv X pins σ H s->(∀b∈fp,z5T X pins H b)->tn i s.heap->J.stop i H->
  wpAny (model P w) X.A (pyNext (.ref it)) (fun r s1=>r=none/\Inv X pins σ H s1) E s
 self: ∀(A:Around) (i:Nat) (s:Shared) (Q:Value->Shared->Prop) (E:Value->Shared->Prop),tn i s.heap->Q (.ref it) s->wpAny (model P w) A (pyIter (.ref it)) Q E s
noncomputable abbrev TI:=St->Hp->(It->Hp->Prop)->Prop
noncomputable def PIE(X:Cx)(pins:List (Addr×Obj))(σ:St)(tg:Expr)(R:It->Hp->Prop)(itv:Value)(s2:Shared):Prop:=
 ∃(it:Addr) (fp:List Addr) (tn:Nat->Heap->Prop) (J:It) (H':Hp),itv= .ref it/\Inv X pins σ H' s2/\zcp X.prog X.w X.K tg J fp it tn/\tn 0 s2.heap/\(∀b∈fp,z5T X pins H' b)/\R J H'
noncomputable def PI(X:Cx)(tg iter:Expr)(wi:TI):Prop:=
 ∀(pins:List (Addr×Obj)) (s:Shared) (σ:St) (H:Hp) (R:It->Hp->Prop),Inv X pins σ H s->wi σ H R->
  wpAny (model X.prog X.w) X.A (eval iter X.env) (fun v s1=>wpAny (model X.prog X.w) X.A (pyIter v) (PIE X pins σ tg R) X.xe s1) X.xe s
theorem zbb{M:Model}{A:Around}{E:Value->Shared->Prop}{s:Shared}{tg:Expr}{it:Addr}{u:Value}{o:Obj}{n:String}{vs:Array Value}{Q:Unit->Shared->Prop}(ho:s.heap.get? it=some o)(hc:o.cls= .type n)(hd:o.data= .fields vs)
 (hn:["enumerate", "zip", "dict_itemiterator", "dict_reverseitemiterator", "odict_iterator", "itertools.zip_longest", "itertools.pairwise"].contains n=false) (hQ:Q () s):wpAny M A (letOwnedTupleGo tg (.ref it) u) Q E s:=by
 unfold letOwnedTupleGo
 cases tg<;>first
  |exact wpAny_pure hQ
  |(cases u<;>first
   |exact wpAny_pure hQ
   |(refine wpAny_bind (wpAny_load ho ?_)
     rw[hc,hd]
     show wpAny M A (if(["enumerate", "zip", "dict_itemiterator", "dict_reverseitemiterator", "odict_iterator", "itertools.zip_longest", "itertools.pairwise"].contains n&&vs[0]? ==some (rawInt _))=true then _ else _) Q E s
     rw[if_neg (by intro h;rw[hn,B9] at h;cases h)]
     exact wpAny_pure hQ))
noncomputable def Itl(K:W.Frag)(a:Addr):It:=
 ⟨fun i H=> ∃xs x,SqL K H a xs/\xs[i]? =some x,fun i H x H'=>H'=H/\∀xs,SqL K H a xs->xs[i]? =some x,fun i H=> ∃xs,SqL K H a xs/\xs.length<=i⟩
noncomputable def Itt(K:W.Frag)(a:Addr):It:=
 ⟨fun i H=> ∃xs x,SqT K H a xs/\xs[i]? =some x,fun i H x H'=>H'=H/\∀xs,SqT K H a xs->xs[i]? =some x,fun i H=> ∃xs,SqT K H a xs/\xs.length<=i⟩
noncomputable def Itr(lo:Int)(n:Nat):It:=⟨fun i _=>i<n,fun i H x H'=>H'=H/\x= .int (lo+i),fun i _=>n<=i⟩
theorem z92{P:Program}{w:World}{K:W.Frag}{tg:Expr}(a it:Addr):zcp P w K tg (Itl K a) [it] it (fun i h=>h.IsListIter it a i) where
 mem:=by simp
 obj:=fun i h st b hb=>by
  have e:b=it:=by simpa using hb
  subst e
  obtain⟨o,e,c,d⟩:=st
  exact⟨o,e,fun v z=>by rw[d] at z;cases z⟩
 keep:=fun i h h' st k=>st.at fun o e=>k it (by simp) o e
 item:=by
  intro X hP hw hK hc i pins s σ H E I hf st hg
  subst hP hw hK
  obtain⟨xs,x,hq,hx⟩:=hg
  obtain⟨its,rv,p,hz⟩:=I.list hq
  obtain⟨u,hu,ru⟩:=rv.get hx
  obtain⟨f0,f1,f2,f3,f4,f5⟩:=hf it (by simp)
  refine wpAny_pyNext_list_item st p.isList (x:=u) (by simpa using hu) fun h' st' sb=> ?_
  have I1:Inv X pins σ H {s with heap:=h'}:=I.turned (t':=s.toks) (fun b o hb e=>(sb.2 b hb).trans e) f0 f1 f3 f4 f5
  obtain⟨o,e,c,d⟩:=id st'
  exact⟨u,rfl,zbb (s:={s with heap:=h'}) e c d (by decide) ⟨x,H,I1,ru,⟨rfl,fun ys hy=>by rw[I.list_inj hy hq];exact hx⟩,st',fun b hb=>(hf b hb).1⟩⟩
 done:=by
  intro X hP hw hK hc i pins s σ H E I hf st hg
  subst hP hw hK
  obtain⟨xs,hq,hx⟩:=hg
  obtain⟨its,rv,p,hz⟩:=I.list hq
  obtain⟨f0,f1,f2,f3,f4,f5⟩:=hf it (by simp)
  have hl:=rv.length
  exact wpAny_pyNext_list_end (I.ok.hd hc) st p.isList (by simp;lia) fun h' eb=>⟨rfl,I.turned (t':=s.toks) (fun b o hb e=>eb b o hb e) f0 f1 f3 f4 f5⟩
 self:=fun _ _ _ _ _ st h=>wpAny_pyIter_listiter st h
theorem z8h{P:Program}{w:World}{K:W.Frag}{tg:Expr}(a it:Addr):zcp P w K tg (Itt K a) [it] it (fun i h=>h.IsTupleIter it a i) where
 mem:=by simp
 obj:=fun i h st b hb=>by
  have e:b=it:=by simpa using hb
  subst e
  obtain⟨o,e,c,d⟩:=st
  exact⟨o,e,fun v z=>by rw[d] at z;cases z⟩
 keep:=fun i h h' st k=>st.at fun o e=>k it (by simp) o e
 item:=by
  intro X hP hw hK hc i pins s σ H E I hf st hg
  subst hP hw hK
  obtain⟨xs,x,hq,hx⟩:=hg
  obtain⟨its,rv,p,hz⟩:=I.tuple hq
  obtain⟨u,hu,ru⟩:=rv.get hx
  obtain⟨f0,f1,f2,f3,f4,f5⟩:=hf it (by simp)
  refine wpAny_pyNext_tuple_item st (show s.heap.IsTuple a its.toArray from p) (x:=u) (by simpa using hu) fun h' st' sb=> ?_
  have I1:Inv X pins σ H {s with heap:=h'}:=I.turned (t':=s.toks) (fun b o hb e=>(sb.2 b hb).trans e) f0 f1 f3 f4 f5
  obtain⟨o,e,c,d⟩:=id st'
  exact⟨u,rfl,zbb (s:={s with heap:=h'}) e c d (by decide) ⟨x,H,I1,ru,⟨rfl,fun ys hy=>by rw[I.tuple_inj hy hq];exact hx⟩,st',fun b hb=>(hf b hb).1⟩⟩
 done:=by
  intro X hP hw hK hc i pins s σ H E I hf st hg
  subst hP hw hK
  obtain⟨xs,hq,hx⟩:=hg
  obtain⟨its,rv,p,hz⟩:=I.tuple hq
  obtain⟨f0,f1,f2,f3,f4,f5⟩:=hf it (by simp)
  have hl:=rv.length
  exact wpAny_pyNext_tuple_end (I.ok.hd hc) st (show s.heap.IsTuple a its.toArray from p) (by simp;lia) fun h' eb=>⟨rfl,I.turned (t':=s.toks) (fun b o hb e=>eb b o hb e) f0 f1 f3 f4 f5⟩
 self:=fun _ _ _ _ _ st h=>wpAny_pyIter_tupleiter st h
theorem z8i{P:Program}{w:World}{K:W.Frag}{tg:Expr}(it:Addr)(lo:Int)(n:Nat):zcp P w K tg (Itr lo n) [it] it (fun i h=>IsRangeIter h it (lo+(i:Nat)*1) ((n:Int) -(i:Nat)) 1) where
 mem:=by simp
 obj:=fun i h st b hb=>by
  have e:b=it:=by simpa using hb
  subst e
  exact⟨_,st,fun v z=>by
   have z':Data.fields _=Data.cell v:=z
   cases z'⟩
 keep:=fun i h h' st k=>k it (by simp) _ st
 item:=by
  intro X hP hw hK hc i pins s σ H E I hf st hg
  subst hP hw hK
  obtain⟨f0,f1,f2,f3,f4,f5⟩:=hf it (by simp)
  have W:=Walks.range (prog:=X.prog) (w:=X.w) (I.ok.hd hc) it lo 1 n
  refine W.item i s _ _ hg st fun v h' tk hv st' kk=> ?_
  obtain⟨t,rfl⟩:=hv
  have I1:Inv X pins σ H {s with heap:=h',toks:=tk}:=I.turned (fun b o hb e=>kk b o (by simpa using hb) e) f0 f1 f3 f4 f5
  refine⟨_,rfl,zbb (s:={s with heap:=h',toks:=tk}) (n:= "range_iterator") st' rfl rfl (by decide) ⟨.int (lo+i),H,I1,⟨t, ?_⟩,⟨rfl,rfl⟩,st',fun b hb=>(hf b hb).1⟩⟩
  rw[Int.mul_one]
 done:=by
  intro X hP hw hK hc i pins s σ H E I hf st hg
  subst hP hw hK
  obtain⟨f0,f1,f2,f3,f4,f5⟩:=hf it (by simp)
  exact wpAny_pyNext_range_end (I.ok.hd hc) st (by have:n<=i:=hg;lia) fun h' eb=>⟨rfl,I.turned (t':=s.toks) (fun b o hb e=>eb b o hb e) f0 f1 f3 f4 f5⟩
 self:=fun _ _ _ _ _ st h=>wpAny_pyIter_rangeiter st h
section
variable{X:Cx}{tg:Expr}
theorem zbc{pins:List (Addr×Obj)}{σ:St}{H:Hp}{s:Shared}{R:It->Hp->Prop}{E:Value->Shared->Prop}{lo hi:Int}{t u v:Tok}{tk:Nat}(I:Inv X pins σ H s)(h1: -(2^62)<=lo)(h2:lo<2^62)(h3: -(2^62)<=hi)(h4:hi<2^62)
 (q:R (Itr lo (hi -lo).toNat) H):wpAny (model X.prog X.w) X.A (pyIter (.ref s.heap.objs.size)) (PIE X pins σ tg R) E {s with heap:=s.heap.push {cls:= .type "range",data:= .fields #[.int lo t, .int hi u, .int 1 v]},toks:=tk}:=by
 refine wpAny_pyIter_range (IsRange.new ..) (small_one h1 h2 h3 h4) ?_
 have I1:Inv X pins σ H {s with heap:=s.heap.push {cls:= .type "range",data:= .fields #[.int lo t, .int hi u, .int 1 v]},toks:=tk}:=I.kept fun b o e=>Heap.get?_push_of_some _ e
 refine⟨(s.heap.push {cls:= .type "range",data:= .fields #[.int lo t, .int hi u, .int 1 v]}).objs.size,[(s.heap.push {cls:= .type "range",data:= .fields #[.int lo t, .int hi u, .int 1 v]}).objs.size],_,_,H,rfl,
  I1.kept (t':=tk) fun b o e=>Heap.get?_push_of_some _ e,z8i _ lo (hi -lo).toNat, ?_,fun b hb=> ?_,q⟩
 ·have e1:lo+((0:Nat):Int)*1=lo:=by simp
  have e2:(((hi -lo).toNat:Nat):Int) -((0:Nat):Int)=Builtin.Range.rangeSize lo hi 1:=by rw[rangeSize_one];split<;>lia
  show IsRangeIter _ _ (lo+((0:Nat):Int)*1) ((((hi -lo).toNat:Nat):Int) -((0:Nat):Int)) 1
  rw[e1,e2]
  exact Heap.get?_push_size _ rfl
 ·have e:b=(s.heap.push {cls:= .type "range",data:= .fields #[.int lo t, .int hi u, .int 1 v]}).objs.size:=by simpa using hb
  subst e
  exact I1.fpOk (c9 _) (I1.hok.fresh (c9 _))
noncomputable def zj9(ta:TA):TI:=fun σ H R=>ta σ H fun vs H1=> ∃j:Int,vs=[.int j]/\-(2^62)<=j/\j<2^62/\R (Itr 0 j.toNat) H1
theorem z93{a:Expr}{ta:TA}{p pos:Pos}(hg:Gl X "range")(hm:X.mg "range" =none)(ha:PA X [a] ta)(hs:starEach [a] X.env=[(false,eval a X.env)]:=by rfl):PI X tg (.Call (.Name "range" p) [a] [] pos) (zj9 ta):=by
 intro pins s σ H R I h
 refine Call_ (z4p I hg hm boot_range (PyProof.Rows.callWith_type1 (thn (ha pos pins s σ H _ I h) fun us s1 ⟨vs,H1,I1,r1,q1⟩=> ?_) hs rfl))
 obtain⟨j,e,q1,q2,q⟩:=q1
 subst e
 cases r1 with
 |cons r rr=>
  cases rr
  obtain⟨t,rfl⟩:=r
  exact call_range_1 (zbc I1 (by lia) (by lia) q1 q2 (by simpa using q))
noncomputable def zlY(wi:TI)(g:TG)(tb:TS):TS:=fun D σ H=>wi σ H fun J H1=> ∃W:Nat->Nat->St->Hp->Prop,(∃m,W 0 m σ H1)/\∀i m σ H,W i m σ H->
 (J.stop i H/\D.nx σ H)\/(J.go i H/\∃N:St->Hp->Prop,(∀σ' H',N σ' H'->∃m',m'<m/\W (i+1) m' σ' H')/\∀x H',J.yld i H x H'->g x σ H' fun σ2 H2=>tb {D with nx:=N,ct:=N,bk:=D.nx} σ2 H2)
noncomputable def z7u(fp:List Addr)(h:Heap):List (Addr×Obj):=fp.filterMap fun b=>(h.get? b).map fun o=>(b,o)
theorem Q3{fp:List Addr}{h:Heap}{b:Addr}{o:Obj}(hb:b∈fp)(e:h.get? b=some o):(b,o)∈z7u fp h:=F3.mpr ⟨b,hb,by rw[e];rfl⟩
theorem z94{fp:List Addr}{h:Heap}{p:Addr×Obj}(hp:p∈z7u fp h):p.1∈fp/\h.get? p.1=some p.2:=by
 obtain⟨b,hb,e⟩:=F3.mp hp
 cases q:h.get? b with
 |none=>rw[q] at e;cases e
 |some o=>
  rw[q] at e
  have e':(b,o)=p:=Option.some.inj e
  subst e'
  exact⟨hb,q⟩
theorem Inv.pinned{pins:List (Addr×Obj)}{σ:St}{H:Hp}{s:Shared}{fp:List Addr}(I:Inv X pins σ H s)(hf: ∀b∈fp,z5T X pins H b)(ho: ∀b∈fp,∃o,s.heap.get? b=some o/\∀v,o.data≠ .cell v):Inv X (pins++z7u fp s.heap) σ H s:=
 I.pins_of fun p hp=>(i5.mp hp).elim (fun z=>I.pin p (b9 _ z)) fun z=>by
  obtain⟨hb,e⟩:=z94 z
  obtain⟨f0,f1,f2,_⟩:=hf p.1 hb
  obtain⟨o,e',d⟩:=ho p.1 hb
  rw[e] at e';cases e'
  exact⟨e,f0,f1,f2,d⟩
theorem Inv.unpinned{pins pl:List (Addr×Obj)}{σ:St}{H:Hp}{s:Shared}(I:Inv X (pins++pl) σ H s):Inv X pins σ H s:=I.pins_of fun p hp=>I.pin p (b9 _ (i3 _ hp))
theorem zfs{iter:Expr}{body:List Stmt}{wi:TI}{g:TG}{tb:TS}{pos:Pos}(hp:PassesOwn (model X.prog X.w) X.A X.env X.xe)(hc:X.calm=true)(hi:PI X tg iter wi)(hg:PG X tg g)(hb:PSs X body tb)
 (hs: ∀x,foldedSetIterable iter X.env x=pure x:=by intro _;rfl):PS X (.For tg iter body [] pos) (zlY wi g tb):=by
 intro pins s σ H D I h
 refine wpAny_For (thn (hi pins s σ H _ I h) fun v s1 h1=>thn h1 fun itv s2 h2=> ?_) hs
 obtain⟨it,fp,tn,J,H2,e,I2,T,st2,f2,W,⟨m0,w0⟩,turn⟩:=h2
 subst e
 have stat: ∀{H':Hp},(∀b∈fp,H' b=none)->∀b∈fp,z5T X pins H' b:=fun hn b hb=>⟨hn b hb,(f2 b hb).2⟩
 refine codeAny_forLoop_any (fun n s'=> ∃i σ' H',Inv X pins σ' H' s'/\tn i s'.heap/\(∀b∈fp,H' b=none)/\W i n σ' H') ?_ m0 ⟨0,σ,H2,I2,st2,fun b hb=>(f2 b hb).1,w0⟩
 rintro n s3 ⟨i,σ3,H3,I3,st3,fr3,w3⟩
 rcases turn i n σ3 H3 w3 with⟨stop,qn⟩|⟨go,N,hN,step⟩
 ·refine wpAny_passesOwn hp (thn (T.done X rfl rfl rfl hc i pins s3 σ3 H3 X.xe I3 (stat fr3) st3 stop) fun r s4 ⟨hr,I4⟩=> ?_)
  subst hr
  exact wpAny_execs_nil ⟨σ3,H3,I4,qn⟩
 ·refine wpAny_passesOwn hp (thn (T.item X rfl rfl rfl hc i pins s3 σ3 H3 X.xe I3 (stat fr3) st3 go) fun r s4 ⟨u,hr,h4⟩=> ?_)
  subst hr
  refine wpAny_passesOwn hp (thn h4 fun _ s5 ⟨x,H5,I5,r5,y5,st5,fr5⟩=> ?_)
  have I5':=I5.pinned (stat fr5) (T.obj _ _ st5)
  refine wpAny_passesOwn hp (thn (hg _ s5 σ3 H5 x u _ I5' r5 (step x H5 y5)) fun _ s6 ⟨σ6,H6,I6,q6⟩=> ?_)
  refine wpAny_passesOwn hp (thn (hb _ s6 σ6 H6 _ I6 q6) fun f s7 q7=> ?_)
  have again: ∀{σ7:St} {H7:Hp},Inv X (pins++z7u fp s5.heap) σ7 H7 s7->N σ7 H7->∃m,m<n/\∃i σ' H',Inv X pins σ' H' s7/\tn i s7.heap/\(∀b∈fp,H' b=none)/\W i m σ' H':=fun{σ7 H7} I7 n7=>by
   obtain⟨m',hm,w7⟩:=hN σ7 H7 n7
   refine⟨m',hm,i+1,σ7,H7,I7.unpinned,T.keep _ _ _ st5 fun b hb o e=>(I7.pin (b,o) (b9 _ (b9 _ (Q3 hb e)))).1,fun b hb=> ?_,w7⟩
   obtain⟨o,e,d⟩:=T.obj _ _ st5 b hb
   exact(I7.pin (b,o) (b9 _ (b9 _ (Q3 hb e)))).2.1
  cases f with
  |next=>obtain⟨σ7,H7,I7,n7⟩:=q7;exact again I7 n7
  |cont=>obtain⟨σ7,H7,I7,n7⟩:=q7;exact again I7 n7
  |brk=>obtain⟨σ7,H7,I7,q7⟩:=q7;exact⟨σ7,H7,I7.unpinned,q7⟩
  |ret v=>obtain⟨x7,σ7,H7,I7,r7,q7⟩:=q7;exact⟨x7,σ7,H7,I7.unpinned,r7,q7⟩
end
noncomputable abbrev R2:=V->V->Hp->VK->Prop
noncomputable def OpR(X:Cx)(f:Value->Value->Sem Value)(r:R2):Prop:=
 ∀(pins:List (Addr×Obj)) (s:Shared) (σ:St) (H:Hp) (x y:V) (v u:Value) (Q:VK),Inv X pins σ H s->RelV x v->RelV y u->r x y H Q->
  wpAny (model X.prog X.w) X.A (f v u) (EP X pins σ Q) X.xe s
noncomputable def UnR(X:Cx)(f:Value->Sem Value)(r:V->Hp->VK->Prop):Prop:=
 ∀(pins:List (Addr×Obj)) (s:Shared) (σ:St) (H:Hp) (x:V) (v:Value) (Q:VK),Inv X pins σ H s->RelV x v->r x H Q->
  wpAny (model X.prog X.w) X.A (f v) (EP X pins σ Q) X.xe s
noncomputable def CallR(X:Cx)(f:Value)(r:List V->Hp->VK->Prop):Prop:=
 ∀(pins:List (Addr×Obj)) (s:Shared) (σ:St) (H:Hp) (xs:List V) (us:List Value) (Q:VK),Inv X pins σ H s->j4 xs us->r xs H Q->
  wpAny (model X.prog X.w) X.A (call f us) (EP X pins σ Q) X.xe s
noncomputable def zlZ(X:Cx)(r:V->Hp->(Bool->Hp->Prop)->Prop):Prop:=
 ∀(pins:List (Addr×Obj)) (s:Shared) (σ:St) (H:Hp) (x:V) (v:Value) (Q:Bool->Hp->Prop),Inv X pins σ H s->RelV x v->r x H Q->
  wpAny (model X.prog X.w) X.A (truthy v) (TP X pins σ Q) X.xe s
noncomputable def tOp(r:R2)(ta tb:TE):TE:=fun σ H Q=>ta σ H fun x H1=>tb σ H1 fun y H2=>r x y H2 Q
noncomputable def tUn(r:V->Hp->VK->Prop)(ta:TE):TE:=fun σ H Q=>ta σ H fun x H1=>r x H1 Q
noncomputable def rI(C:Int->Int->Prop)(g:Int->Int->V):R2:=fun x y H Q=> ∃i j,x= .int i/\y= .int j/\C i j/\Q (g i j) H
noncomputable def rI0(g:Int->Int->V):R2:=fun x y H Q=> ∃i j,x= .int i/\y= .int j/\Q (g i j) H
noncomputable def rU(g:Int->V):V->Hp->VK->Prop:=fun x H Q=> ∃i,x= .int i/\Q (g i) H
section
variable{X:Cx}{a b c:Expr}{ta tb tc:TE}{pos:Pos}
theorem ziN(ha:PE X a ta)(hb:PE X b tb){pins:List (Addr×Obj)}{s:Shared}{σ:St}{H:Hp}{R:V->V->Hp->Prop}(I:Inv X pins σ H s)
 (h:ta σ H fun x H1=>tb σ H1 fun y H2=>R x y H2) {Q:Value->Shared->Prop} {f:Value->Value->Sem Value}
 (hf: ∀v u s2 x y H2,Inv X pins σ H2 s2->RelV x v->RelV y u->R x y H2->wpAny (model X.prog X.w) X.A (f v u) Q X.xe s2):
 wpAny (model X.prog X.w) X.A (eval a X.env) (fun v s₁=>wpAny (model X.prog X.w) X.A (eval b X.env) (fun u s₂=>wpAny (model X.prog X.w) X.A (f v u) Q X.xe s₂) X.xe s₁) X.xe s:=by
 refine thn (ha pins s σ H _ I h) fun v s1 ⟨x,H1,I1,r1,q1⟩=> ?_
 refine thn (hb pins s1 σ H1 _ I1 q1) fun u s2 ⟨y,H2,I2,r2,q2⟩=> ?_
 exact hf v u s2 x y H2 I2 r1 r2 q2
theorem zja{op:Operator}{r:R2}(ho:OpR X (binaryOp op) r)(ha:PE X a ta)(hb:PE X b tb):PE X (.BinOp a op b pos) (tOp r ta tb):=by
 intro pins s σ H Q I h
 exact wpAny_BinOp (ziN ha hb I h fun v u s2 x y H2 I2 rx ry q=>ho pins s2 σ H2 x y v u Q I2 rx ry q)
theorem zjb{op:UnaryOp}{r:V->Hp->VK->Prop}(ho:UnR X (unaryOp op) r)(ha:PE X a ta):PE X (.UnaryOp op a pos) (tUn r ta):=by
 intro pins s σ H Q I h
 exact UnaryOp_ (thn (ha pins s σ H _ I h) fun v s1 ⟨x,H1,I1,r1,q1⟩=>ho pins s1 σ H1 x v Q I1 r1 q1)
theorem opI{f:Value->Value->Sem Value}{C:Int->Int->Prop}{g:Int->Int->Int}
 (rule: ∀(i j:Int) (t u:Tok) (s:Shared) (Q:Value->Shared->Prop) (E:Value->Shared->Prop),C i j->Q (.int (g i j) s.toks) {s with toks:=s.toks+1}->wpAny (model X.prog X.w) X.A (f (.int i t) (.int j u)) Q E s):
 OpR X f (rI C fun i j=> .int (g i j)):=by
 intro pins s σ H x y v u Q I rx ry h
 obtain⟨i,j,rfl,rfl,hc,q⟩:=h
 obtain⟨t,rfl⟩:=rx
 obtain⟨t',rfl⟩:=ry
 exact rule i j t t' s _ _ hc ⟨.int (g i j),H,I.tok _,⟨_,rfl⟩,q⟩
theorem zlx{f:Value->Value->Sem Value}{g:Int->Int->Int}
 (rule: ∀(i j:Int) (t u:Tok) (s:Shared) (Q:Value->Shared->Prop) (E:Value->Shared->Prop),Q (.int (g i j) s.toks) {s with toks:=s.toks+1}->wpAny (model X.prog X.w) X.A (f (.int i t) (.int j u)) Q E s):
 OpR X f (rI0 fun i j=> .int (g i j)):=by
 intro pins s σ H x y v u Q I rx ry h
 obtain⟨i,j,rfl,rfl,q⟩:=h
 obtain⟨t,rfl⟩:=rx
 obtain⟨t',rfl⟩:=ry
 exact rule i j t t' s _ _ ⟨.int (g i j),H,I.tok _,⟨_,rfl⟩,q⟩
theorem zjc{f:Value->Value->Sem Value}{g:Int->Int->Bool}
 (rule: ∀(i j:Int) (t u:Tok) (s:Shared) (Q:Value->Shared->Prop) (E:Value->Shared->Prop),Q (.bool (g i j)) s->wpAny (model X.prog X.w) X.A (f (.int i t) (.int j u)) Q E s):
 OpR X f (rI0 fun i j=> .bl (g i j)):=by
 intro pins s σ H x y v u Q I rx ry h
 obtain⟨i,j,rfl,rfl,q⟩:=h
 obtain⟨t,rfl⟩:=rx
 obtain⟨t',rfl⟩:=ry
 exact rule i j t t' s _ _ ⟨.bl (g i j),H,I,rfl,q⟩
noncomputable def zeZ(i j:Int):Prop:=0<j/\j<2^200
theorem zjd{x j:Int}(h1:0<j)(h2:j<2^200):Builtin.divisionGoesByPylong x j=false:=by
 refine PyProof.noPylong_of_log2 ?_
 have h3:j.natAbs.log2<200:=(S9 (by lia)).mpr (by lia)
 lia
noncomputable def zf0(i j:Int):Prop:=0<=j/\j<=1000000/\i.natAbs<2^64
noncomputable def zbd(i j:Int):Prop:=(-(2^64)<i/\i<2^64)\/(-(2^64)<j/\j<2^64)
theorem zbd.ok{i j:Int}(h:zbd i j):IntMulOk i j:=by
 rcases h with⟨h1,h2⟩|⟨h1,h2⟩
 ·exact .of_left (intBits_le_64 h1 h2)
 ·exact .of_right (intBits_le_64 h1 h2)
theorem zcq:OpR X (binaryOp .Add) (rI0 fun i j=> .int (i+j)):=zlx fun _ _ _ _ _ _ _ q=>add_int q
theorem zft:OpR X (binaryOp .Sub) (rI0 fun i j=> .int (i -j)):=zlx fun _ _ _ _ _ _ _ q=>sub_int q
theorem zfu:OpR X (binaryOp .Mult) (rI zbd fun i j=> .int (i*j)):=opI fun _ _ _ _ _ _ _ hc q=>mul_int q hc.ok
theorem zdr:OpR X (binaryOp .FloorDiv) (rI zeZ fun i j=> .int (i/j)):=opI fun i j _ _ _ _ _ hc q=>by
 have h1:(0:Int)<j:=hc.1
 have h2:j<2^200:=hc.2
 exact floordiv_int (by lia) (by rw[Int.fdiv_eq_ediv_of_nonneg i (by lia)];exact q) (.inl (zjd h1 h2))
theorem zfv:OpR X (binaryOp .Mod) (rI (fun _ j=>0<j) fun i j=> .int (i %j)):=opI fun i j _ _ _ _ _ hc q=>by
 have h1:(0:Int)<j:=hc
 exact mod_int' (by lia) (by rw[Int.fmod_eq_emod_of_nonneg i (by lia)];exact q)
theorem zfw:OpR X (binaryOp .Pow) (rI zf0 fun i j=> .int (i^j.toNat)):=opI fun _ _ _ _ _ _ _ hc q=>pow_int_small hc.1 hc.2.1 hc.2.2 q
theorem unI{f:Value->Sem Value}{g:Int->Int}
 (rule: ∀(i:Int) (t:Tok) (s:Shared) (Q:Value->Shared->Prop) (E:Value->Shared->Prop),Q (.int (g i) s.toks) {s with toks:=s.toks+1}->wpAny (model X.prog X.w) X.A (f (.int i t)) Q E s):
 UnR X f (rU fun i=> .int (g i)):=by
 intro pins s σ H x v Q I rx h
 obtain⟨i,rfl,q⟩:=h
 obtain⟨t,rfl⟩:=rx
 exact rule i t s _ _ ⟨.int (g i),H,I.tok _,⟨_,rfl⟩,q⟩
theorem zfx:UnR X (unaryOp .USub) (rU fun i=> .int (-i)):=unI fun _ _ _ _ _ q=>neg_int q
end
noncomputable def zly:V->V->Bool
 | .non, .non=>true| .non, .int _=>true| .int _, .non=>true| .non, .bl _=>true| .bl _, .non=>true| .non, .str _=>true| .str _, .non=>true
 | .int _, .int _=>true| .bl _, .bl _=>true| .str _, .str _=>true| .byt _, .byt _=>true
 | .int _, .str _=>true| .str _, .int _=>true| .bl _, .str _=>true| .str _, .bl _=>true
 |_,_=>false
noncomputable def rEq:R2:=fun x y H Q=>zly x y=true/\Q (.bl (decide (x=y))) H
noncomputable def rNe:R2:=fun x y H Q=>zly x y=true/\Q (.bl (!decide (x=y))) H
theorem z95{i j:Int}:decide (V.int i=V.int j)=(i==j):=by
 rw[B8]
 simp
theorem zcr{i j:Bool}:decide (V.bl i=V.bl j)=(i==j):=by
 rw[B8]
 simp
theorem z4N{i j:Str}:decide (V.str i=V.str j)=(i==j):=by
 rw[B8]
 simp
theorem z96{i j:Array UInt8}:decide (V.byt i=V.byt j)=(i.toList==j.toList):=by
 rw[B8]
 cases i
 cases j
 simp
section
variable{X:Cx}{a b c:Expr}{ta tb tc:TE}{pos:Pos}
theorem Y7{pins:List (Addr×Obj)}{σ:St}{H:Hp}{s:Shared}{Q:VK}{k k':Bool}(I:Inv X pins σ H s)(q:Q (.bl k) H)(e:k=k'):EP X pins σ Q (.bool k') s:=by
 subst e
 exact⟨.bl k,H,I,rfl,q⟩
theorem zje:OpR X (compareOp .Eq) rEq:=by
 intro pins s σ H x y v u Q I rx ry h
 obtain⟨hs,q⟩:=h
 cases x with
 |non=>
  cases rx
  cases y with
  |non=>cases ry;exact PySem.EqNone.eq_none_none (Y7 I q (by simp))
  |bl j=>cases ry;exact PySem.EqNone.eq_none_bool (Y7 I q (by simp))
  |int j=>obtain⟨t',rfl⟩:=ry;exact PySem.EqNone.eq_none_int (Y7 I q (by simp))
  |str j=>obtain⟨t',rfl⟩:=ry;exact PySem.EqNone.eq_none_str (Y7 I q (by simp))
  |_=>exact absurd (show false=true from hs) r6
 |bl i=>
  cases rx
  cases y with
  |non=>cases ry;exact PySem.EqNone.eq_bool_none (Y7 I q (by simp))
  |bl j=>cases ry;exact eq_bool (Y7 I q zcr)
  |str j=>obtain⟨t',rfl⟩:=ry;exact PySem.EqMixed.eq_bool_str (Y7 I q (by simp))
  |_=>exact absurd (show false=true from hs) r6
 |int i=>
  obtain⟨t,rfl⟩:=rx
  cases y with
  |non=>cases ry;exact PySem.EqNone.eq_int_none (Y7 I q (by simp))
  |int j=>obtain⟨t',rfl⟩:=ry;exact eq_int (Y7 I q z95)
  |str j=>obtain⟨t',rfl⟩:=ry;exact PySem.EqMixed.eq_int_str (Y7 I q (by simp))
  |_=>exact absurd (show false=true from hs) r6
 |str i=>
  obtain⟨t,rfl⟩:=rx
  cases y with
  |non=>cases ry;exact PySem.EqNone.eq_str_none (Y7 I q (by simp))
  |bl j=>cases ry;exact PySem.EqMixed.eq_str_bool (Y7 I q (by simp))
  |int j=>obtain⟨t',rfl⟩:=ry;exact PySem.EqMixed.eq_str_int (Y7 I q (by simp))
  |str j=>obtain⟨t',rfl⟩:=ry;exact eq_str (Y7 I q z4N)
  |_=>exact absurd (show false=true from hs) r6
 |byt i=>
  obtain⟨t,rfl⟩:=rx
  cases y with
  |byt j=>obtain⟨t',rfl⟩:=ry;exact W.eq_bytes (Y7 I q z96)
  |_=>exact absurd (show false=true from hs) r6
 |_=>cases y<;>exact absurd (show false=true from hs) r6
theorem zjf:OpR X (compareOp .NotEq) rNe:=by
 intro pins s σ H x y v u Q I rx ry h
 obtain⟨hs,q⟩:=h
 cases x with
 |non=>
  cases rx
  cases y with
  |non=>cases ry;exact PySem.EqNone.ne_none_none (Y7 I q (by simp))
  |bl j=>cases ry;exact PySem.EqNone.ne_none_bool (Y7 I q (by simp))
  |int j=>obtain⟨t',rfl⟩:=ry;exact PySem.EqNone.ne_none_int (Y7 I q (by simp))
  |str j=>obtain⟨t',rfl⟩:=ry;exact PySem.EqNone.ne_none_str (Y7 I q (by simp))
  |_=>exact absurd (show false=true from hs) r6
 |bl i=>
  cases rx
  cases y with
  |non=>cases ry;exact PySem.EqNone.ne_bool_none (Y7 I q (by simp))
  |bl j=>cases ry;exact ne_bool (Y7 I q (congrArg not zcr))
  |str j=>obtain⟨t',rfl⟩:=ry;exact PySem.EqMixed.ne_bool_str (Y7 I q (by simp))
  |_=>exact absurd (show false=true from hs) r6
 |int i=>
  obtain⟨t,rfl⟩:=rx
  cases y with
  |non=>cases ry;exact PySem.EqNone.ne_int_none (Y7 I q (by simp))
  |int j=>obtain⟨t',rfl⟩:=ry;exact ne_int (Y7 I q (congrArg not z95))
  |str j=>obtain⟨t',rfl⟩:=ry;exact PySem.EqMixed.ne_int_str (Y7 I q (by simp))
  |_=>exact absurd (show false=true from hs) r6
 |str i=>
  obtain⟨t,rfl⟩:=rx
  cases y with
  |non=>cases ry;exact PySem.EqNone.ne_str_none (Y7 I q (by simp))
  |bl j=>cases ry;exact PySem.EqMixed.ne_str_bool (Y7 I q (by simp))
  |int j=>obtain⟨t',rfl⟩:=ry;exact PySem.EqMixed.ne_str_int (Y7 I q (by simp))
  |str j=>obtain⟨t',rfl⟩:=ry;exact ne_str (Y7 I q (congrArg not z4N))
  |_=>exact absurd (show false=true from hs) r6
 |byt i=>
  obtain⟨t,rfl⟩:=rx
  cases y with
  |byt j=>obtain⟨t',rfl⟩:=ry;exact W.ne_bytes (Y7 I q (congrArg not z96))
  |_=>exact absurd (show false=true from hs) r6
 |_=>cases y<;>exact absurd (show false=true from hs) r6
theorem zjg:OpR X (compareOp .Lt) (rI0 fun i j=> .bl (decide (i<j))):=zjc fun _ _ _ _ _ _ _ q=>lt_int q
theorem zjh:OpR X (compareOp .LtE) (rI0 fun i j=> .bl (decide (i<=j))):=zjc fun _ _ _ _ _ _ _ q=>le_int q
theorem zji:OpR X (compareOp .Gt) (rI0 fun i j=> .bl (decide (j<i))):=zjc fun _ _ _ _ _ _ _ q=>gt_int q
theorem z97:OpR X (compareOp .In) (fun x y H Q=> ∃i j,x= .str i/\y= .str j/\Q (.bl (!(Builtin.Str.occurrences j i 0 j.length 1).isEmpty)) H):=by
 intro pins s σ H x y v u Q I rx ry h
 obtain⟨i,j,rfl,rfl,q⟩:=h
 obtain⟨t,rfl⟩:=rx
 obtain⟨t',rfl⟩:=ry
 exact in_str (Y7 I q rfl)
theorem zfy:OpR X (compareOp .Is) (fun x y H Q=>y= .non/\Q (.bl (decide (x= .non))) H):=by
 intro pins s σ H x y v u Q I rx ry h
 obtain⟨rfl,q⟩:=h
 cases ry
 refine is_none_gen (Y7 I q ?_)
 cases x<;>first
  |(cases rx;rfl)
  |(obtain⟨t,rfl⟩:=rx;rfl)
theorem OpR.or{f:Value->Value->Sem Value}{r r':R2}(h:OpR X f r)(h':OpR X f r'):OpR X f (fun x y H Q=>r x y H Q\/r' x y H Q):=by
 intro pins s σ H x y v u Q I rx ry q
 rcases q with q|q
 ·exact h pins s σ H x y v u Q I rx ry q
 ·exact h' pins s σ H x y v u Q I rx ry q
theorem Y3(b:Expr){op:CmpOp}(h:op≠ .In:=by decide)(h2:op≠ .NotIn:=by decide):behindInMarks op b=false:=by
 have e1:(op==CmpOp.In)=false:=by cases op<;>first|rfl|exact absurd rfl h
 have e2:(op==CmpOp.NotIn)=false:=by cases op<;>first|rfl|exact absurd rfl h2
 cases b<;>simp[behindInMarks,e1,e2]
theorem zds{op:CmpOp}{r:R2}(ho:OpR X (compareOp op) r)(ha:PE X a ta)(hb:PE X b tb)(hm:behindInMarks op b=false):PE X (.Compare a [op] [b] pos) (tOp r ta tb):=by
 intro pins s σ H Q I h
 exact wpAny_Compare1 (ziN ha hb I h fun v u s2 x y H2 I2 rx ry q=>ho pins s2 σ H2 x y v u Q I2 rx ry q) hm
noncomputable def zfz(t:TE):TT:=fun σ H Q=>t σ H fun x H'=> ∃k,x= .bl k/\Q k H'
theorem zdt{op:CmpOp}{r:R2}(ho:OpR X (compareOp op) r)(ha:PE X a ta)(hb:PE X b tb)(hm:behindInMarks op b=false):PT X (.Compare a [op] [b] pos) (zfz (tOp r ta tb)):=by
 intro pins s σ H Q I h
 refine wpAny_isTrue_Compare1 (thn (ha pins s σ H _ I h) fun v s1 ⟨x,H1,I1,r1,q1⟩=>thn (hb pins s1 σ H1 _ I1 q1) fun u s2 ⟨y,H2,I2,r2,q2⟩=>
  thn (ho pins s2 σ H2 x y v u _ I2 r1 r2 q2) fun c s3 ⟨z,H3,I3,r3,k,e,q3⟩=> ?_) hm
 subst e
 cases r3
 exact wpAny_truthy_bool ⟨H3,I3,q3⟩
noncomputable def z98(r r':R2)(ta tb tc:TE):TE:=fun σ H Q=>ta σ H fun x H1=>tb σ H1 fun y H2=>r x y H2 fun z H3=> ∃k,z= .bl k/\
 (if k=true then tc σ H3 fun w' H4=>r' y w' H4 Q else Q (.bl false) H3)
theorem zbe{op op':CmpOp}{r r':R2}(ho:OpR X (compareOp op) r)(ho':OpR X (compareOp op') r')(ha:PE X a ta)(hb:PE X b tb)(hc:PE X c tc)
 (hm:lastMarks [op,op'] [b,c]=false:=by with_unfolding_all rfl):PE X (.Compare a [op,op'] [b,c] pos) (z98 r r' ta tb tc):=by
 intro pins s σ H Q I h
 refine Compare_chain (thn (ha pins s σ H _ I h) fun v s1 ⟨x,H1,I1,r1,q1⟩=>chain_link (thn (hb pins s1 σ H1 _ I1 q1) fun u s2 ⟨y,H2,I2,r2,q2⟩=>
  thn (ho pins s2 σ H2 x y v u _ I2 r1 r2 q2) fun d s3 ⟨z,H3,I3,r3,k,e,q3⟩=> ?_)) hm
 subst e
 cases r3
 refine wpAny_truthy_bool ?_
 cases k with
 |false=>exact ite_ff ⟨.bl false,H3,I3,rfl,q3⟩
 |true=>exact ite_tt (chain_last (thn (hc pins s3 σ H3 _ I3 q3) fun w' s4 ⟨z',H4,I4,r4,q4⟩=>ho' pins s4 σ H4 y z' u w' Q I4 r2 r4 q4))
theorem zbf{op op':CmpOp}{r r':R2}(ho:OpR X (compareOp op) r)(ho':OpR X (compareOp op') r')(ha:PE X a ta)(hb:PE X b tb)(hc:PE X c tc)
 (hm:lastMarks [op,op'] [b,c]=false:=by with_unfolding_all rfl):PT X (.Compare a [op,op'] [b,c] pos) (zfz (z98 r r' ta tb tc)):=by
 intro pins s σ H Q I h
 refine isTrue_chain (thn (ha pins s σ H _ I h) fun v s1 ⟨x,H1,I1,r1,q1⟩=>test_link (thn (hb pins s1 σ H1 _ I1 q1) fun u s2 ⟨y,H2,I2,r2,q2⟩=>
  thn (ho pins s2 σ H2 x y v u _ I2 r1 r2 q2) fun d s3 ⟨z,H3,I3,r3,k,e,q3⟩=> ?_)) hm
 subst e
 cases r3
 refine wpAny_truthy_bool ?_
 cases k with
 |false=>
  obtain⟨k',e',q'⟩:=q3
  cases e'
  exact ite_ff ⟨H3,I3,q'⟩
 |true=>
  refine ite_tt (test_last (thn (hc pins s3 σ H3 _ I3 q3) fun w' s4 ⟨z',H4,I4,r4,q4⟩=>thn (ho' pins s4 σ H4 y z' u w' _ I4 r2 r4 q4) fun d' s5 ⟨z2,H5,I5,r5,k2,e2,q5⟩=> ?_))
  subst e2
  cases r5
  exact wpAny_truthy_bool ⟨H5,I5,q5⟩
noncomputable def TruV(K:W.Frag)(x:V)(H:Hp)(k:Bool):Prop:=
 match x with
 | .non=>k=false
 | .bl b=>k=b
 | .int i=>k=(i !=0)
 | .str y=>y.length<=sizeLine/\k=((y.length:Int) !=0)
 | .byt y=>y.size<=sizeLine/\k=((y.size:Int) !=0)
 | .ref p=>(∃xs,SqL K H p xs/\k= !xs.isEmpty)\/(∃xs,SqT K H p xs/\k= !xs.isEmpty)\/∃kvs,H p=some (.dK kvs)/\k= !kvs.isEmpty
 |_=>False
theorem z8j{κ:Type}{kvs:List (κ×V)}{vs:List (κ×Value)}(r:KV kvs vs):(!vs.isEmpty)= !kvs.isEmpty:=by
 cases r<;>rfl
theorem z4q{xs:List V}{its:List Value}(r:j4 xs its):(!its.toArray.isEmpty)= !xs.isEmpty:=by
 cases r<;>simp
theorem z4r:(sizeLine:Nat)<2^63:=by rw[sizeLine_eq];decide
theorem zfA:zlZ X (fun x H Q=> ∃k,TruV X.K x H k/\Q k H):=by
 intro pins s σ H x v Q I rx h
 obtain⟨k,e,q⟩:=h
 have hl:=z4r
 have hs:sizeLine=16777216:=sizeLine_eq
 cases x with
 |non=>
  cases rx
  have e':k=false:=e
  subst e'
  exact truthy_none ⟨H,I,q⟩
 |bl b=>
  cases rx
  have e':k=b:=e
  subst e'
  exact wpAny_truthy_bool ⟨H,I,q⟩
 |int i=>
  obtain⟨t,rfl⟩:=rx
  have e':k=(i !=0):=e
  subst e'
  exact PySem.P.truthy_int ⟨H,I,q⟩
 |str y=>
  obtain⟨t,rfl⟩:=rx
  obtain⟨hy,e'⟩:y.length<=sizeLine/\k=((y.length:Int) !=0):=e
  subst e'
  exact PySem.P.truthy_str (by lia) ⟨H,I.tok _,q⟩
 |byt y=>
  obtain⟨t,rfl⟩:=rx
  obtain⟨hy,e'⟩:y.size<=sizeLine/\k=((y.size:Int) !=0):=e
  subst e'
  exact W.truthy_bytes (by lia) ⟨H,I.tok _,q⟩
 |ref p=>
  cases rx
  have e':(∃xs,SqL X.K H p xs/\k= !xs.isEmpty)\/(∃xs,SqT X.K H p xs/\k= !xs.isEmpty)\/∃kvs,H p=some (.dK kvs)/\k= !kvs.isEmpty:=e
  rcases e' with⟨xs,hx,e'⟩|⟨xs,hx,e'⟩|⟨kvs,hx,e'⟩
  ·subst e'
   obtain⟨its,r,pl,hz⟩:=I.list hx
   have hlen:=r.length
   exact wpAny_truthy_list pl.isList (by erw[l9];lia) ⟨H,I.tok _,by rw[z4q r];exact q⟩
  ·subst e'
   obtain⟨its,r,pl,hz⟩:=I.tuple hx
   have hlen:=r.length
   exact truthy_tuple pl (by erw[l9];lia) ⟨H,I.tok _,by rw[z4q r];exact q⟩
  ·subst e'
   obtain⟨hz,hS,vs,r,m⟩:kvs.length<=sizeLine/\(p==sysModules)=false/\∃vs,KV kvs vs/\s.heap.DictOf (j8 X.prog X.w) p vs:=I.hok p _ hx
   have hlen:kvs.length=vs.length:=Paired.length r
   exact wpAny_truthy_dict hS m (by lia) ⟨H,I.tok _,by rw[z8j r];exact q⟩
 |_=>exact(show False from e).elim
theorem zbg(ha:PE X a ta)(he: ∀whole,isTrue a X.env whole=(do let v<-whole;standAt a.pos;holding [v] (truthy v))):
 PT X a (fun σ H Q=>ta σ H fun x H'=> ∃k,TruV X.K x H' k/\Q k H'):=by
 intro pins s σ H Q I h
 exact isTrue_plain (thn (ha pins s σ H _ I h) fun v s1 ⟨x,H1,I1,r1,q1⟩=>zfA pins s1 σ H1 x v Q I1 r1 q1) (he _)
theorem z4s:OpR X (binaryOp .Add) (fun x y H Q=> ∃i j,x= .str i/\y= .str j/\i.length+j.length<=sizeLine/\Q (.str (i++j)) H):=by
 intro pins s σ H x y v u Q I rx ry h
 obtain⟨i,j,rfl,rfl,hz,q⟩:=h
 obtain⟨t,rfl⟩:=rx
 obtain⟨t',rfl⟩:=ry
 exact add_str (fun t' tk=>⟨.str (i++j),H,I.tok _,⟨_,rfl⟩,q⟩) hz
noncomputable def z4O(b:Expr):Prop:= ∀o i,subscripted b false o i=operate [o,i] (getItem o i)
theorem z6I(ha:PE X a ta)(hb:PE X b tb)(hs:z4O b):
 PE X (.Subscript a b pos) (tOp (fun x y H Q=> ∃z i c,x= .str z/\y= .int i/\0<=i/\i<2^63/\i<z.length/\z.cps[i.toNat]? =some c/\Q (.str ⟨#[c]⟩) H) ta tb):=by
 intro pins s σ H Q I h
 refine Subscript_ (ziN ha hb I h fun v u s2 x y H2 I2 rx ry q=> ?_)
 obtain⟨z,i,c,rfl,rfl,h0,h63,h1,hc,q⟩:=q
 obtain⟨t,rfl⟩:=rx
 obtain⟨t',rfl⟩:=ry
 have e:seqIndex? i z.length=some i.toNat:=PySem.StrLaws.seqIndex_nonneg h0 h1
 exact tail_any (typeIs_str s2 z t) slot_str_getitem.lookup (getItem_str (c:=c) (by
  have e1:decide (i< -(2^63:Int))=false:=decide_eq_false (by lia)
  have e2:decide (i≥2^63)=false:=decide_eq_false (by lia)
  rw[e1,e2]<;>rfl) (by rw[e];exact hc) ⟨.str ⟨#[c]⟩,H2,I2.tok _,⟨_,rfl⟩,q⟩) (hs _ _)
theorem z1N{x:V}{us:List Value}(r:j4 [x] us): ∃u,us=[u]/\RelV x u:=by
 cases r with
 |cons r1 r2=>cases r2;exact⟨_,rfl,r1⟩
theorem zdu{x y:V}{us:List Value}(r:j4 [x,y] us): ∃u w',us=[u,w']/\RelV x u/\RelV y w':=by
 cases r with
 |cons r1 r2=>
  cases r2 with
  |cons r3 r4=>cases r4;exact⟨_,_,rfl,r1,r3⟩
theorem zbh:CallR X (.builtin "abs") (fun xs H Q=> ∃i,xs=[.int i]/\Q (.int (if i<0 then -i else i)) H):=by
 intro pins s σ H xs us Q I r h
 obtain⟨i,rfl,q⟩:=h
 obtain⟨u,rfl,t,rfl⟩:=z1N r
 exact call_abs_int fun u tk=>⟨.int (if i<0 then -i else i),H,I.tok _,⟨_,rfl⟩,q⟩
theorem z99(hc:X.calm=true):CallR X (.builtin "max") (fun xs H Q=> ∃i j,xs=[.int i, .int j]/\Q (.int (if j>i then j else i)) H):=by
 intro pins s σ H xs us Q I r h
 obtain⟨i,j,rfl,q⟩:=h
 obtain⟨u,w',rfl,⟨t,rfl⟩,⟨t',rfl⟩⟩:=zdu r
 refine max_two_ints (I.ok.hd hc) fun h' tk k=>⟨_,H,I.kept k, ?_,q⟩
 by_cases hj:j>i
 ·rw[if_pos hj,if_pos hj];exact⟨_,rfl⟩
 ·rw[if_neg hj,if_neg hj];exact⟨_,rfl⟩
theorem z9a(hc:X.calm=true):CallR X (.builtin "min") (fun xs H Q=> ∃i j,xs=[.int i, .int j]/\Q (.int (if j<i then j else i)) H):=by
 intro pins s σ H xs us Q I r h
 obtain⟨i,j,rfl,q⟩:=h
 obtain⟨u,w',rfl,⟨t,rfl⟩,⟨t',rfl⟩⟩:=zdu r
 refine min_two_ints (I.ok.hd hc) fun h' tk k=>⟨_,H,I.kept k, ?_,q⟩
 by_cases hj:j<i
 ·rw[if_pos hj,if_pos hj];exact⟨_,rfl⟩
 ·rw[if_neg hj,if_neg hj];exact⟨_,rfl⟩
theorem z5U:CallR X (.type "int") (fun xs H Q=>(∃i,xs=[.int i]/\Q (.int i) H)\/∃k,xs=[.bl k]/\Q (.int (if k then 1 else 0)) H):=by
 intro pins s σ H xs us Q I r h
 rcases h with⟨i,rfl,q⟩|⟨k,rfl,q⟩
 ·obtain⟨u,rfl,t,rfl⟩:=z1N r
  exact call_int_int ⟨.int i,H,I,⟨_,rfl⟩,q⟩
 ·obtain⟨u,rfl,r1⟩:=z1N r
  cases r1
  exact call_int_bool ⟨.int (if k then 1 else 0),H,I.tok _,⟨_,rfl⟩,q⟩
end
structure zmR(h:Heap)(x dx C:Addr)(mA:Str->Option Value):Prop where
 obj:h.get? x=some (W.instObj C dx)
 ns:h.Ns1 dx mA
 ne:dx≠x
structure Cls(K:W.Frag)(C:Addr):Prop where
 pg:W.plainGet K C Str.empty=true
 hd:W.hasDictIn K C=true
 po:W.plainOver K C=true
 sa:W.findIn K (.ref C) "__setattr__" =some (some (.builtin "object.__setattr__"))
structure Con(K:W.Frag)(C:Addr)(f:Str)(v:V)(u:Value):Prop where
 at_:W.findIn K (.ref C) f=some (some u)
 rel:RelV v u
 get:W.specialIn K u "__get__" =some none
 cp:W.copiedNames.contains f=false
structure zm0(K:W.Frag)(C:Addr)(m:Str)(f:Addr):Prop where
 at_:W.findIn K (.ref C) m=some (some (.ref f))
 fn:W.isFn K (.ref f)=true
 kp:W.keepIn K (.ref f)=true
section
variable{X:Cx}{pins:List (Addr×Obj)}{σ:St}{H:Hp}{s:Shared}{A:Around}{E:Value->Shared->Prop}{Q:Value->Shared->Prop}{c:Value}{b:Bool}
inductive TyOf(K:W.Frag)(H:Hp):V->Value->Prop where
 |non:TyOf K H .non (.type "NoneType")
 |bl (x:Bool):TyOf K H (.bl x) (.type "bool")
 |int (i:Int):TyOf K H (.int i) (.type "int")
 |str (x:Str):TyOf K H (.str x) (.type "str")
 |flt (x:UInt64):TyOf K H (.flt x) (.type "float")
 |lst {a:Addr} {xs:List V} (e:H a=some (.lst xs)):TyOf K H (.ref a) (.type "list")
 |frz {a:Addr} {o:Obj} {xs:List V} (e:H a=some (.frz o (.lst xs))):TyOf K H (.ref a) (.type "list")
 |tup {a:Addr} {xs:List V} (e:H a=some (.tup xs)):TyOf K H (.ref a) (.type "tuple")
 |dK {a:Addr} {kvs:List (Key×V)} (e:H a=some (.dK kvs)):TyOf K H (.ref a) (.type "dict")
 |dT {a:Addr} {kvs:List (NK×V)} (e:H a=some (.dT kvs)):TyOf K H (.ref a) (.type "dict")
 |ins {a C dx:Addr} {fs:List (Str×V)} (e:H a=some (.ins C dx fs)) (cl:Cls K C) (ha:W.findIn K (.ref C) "__class__" =some (some (.builtin "object.__class__")))
  (hn:W.specialIn K (.builtin "object.__class__") "__get__" =some (some (.builtin "getset_descriptor.__get__"))) (htk:W.takesIn K (.builtin "object.__class__")=some true)
  (hm:W.mroIn K C (.type "object")=some true):TyOf K H (.ref a) (.ref C)
end
structure z2q(k:Nat)(A:Around):Prop where
 hd:A.handled=none
 dp:A.depth+3*k+5<recursionLimit
 un:A.units+16*k+200<cLine
 gd:A.guards=some []
theorem z2q.mono{j k:Nat}{A:Around}(r:z2q k A)(h:j<=k):z2q j A:=⟨r.hd,by have:=r.dp;lia,by have:=r.un;lia,r.gd⟩
theorem z2q.deeper{k:Nat}{A:Around}(r:z2q (k+1) A)(env:Env):z2q k (A.deeper env):=
 ⟨r.hd,by have:=r.dp;show A.depth+1+3*k+5<_;lia,by have:=r.un;show A.units+3+16*k+200<_;lia,r.gd⟩
theorem z2q.depth{k:Nat}{A:Around}(r:z2q k A):A.depth<recursionLimit:=by have:=r.dp;lia
theorem z2q.units{k:Nat}{A:Around}(r:z2q k A):A.units+64<cLine:=by have:=r.un;lia
noncomputable def zm1:TA:=fun _ H Q=>Q [] H
noncomputable def zjj(ta:TE)(tr:TA):TA:=fun σ H Q=>ta σ H fun x H1=>tr σ H1 fun xs H2=>Q (x::xs) H2
section
variable{X:Cx}{e:Expr}{es:List Expr}{te:TE}{t:TA}{pos:Pos}
theorem z36:PA X [] zm1:=fun _ _ _ _ H Q I h=>Calls.spliced_nil ⟨[],H,I, .nil,h⟩
theorem Y1(ha:PE X e te)(hr:PA X es t)(hs:starEach (e::es) X.env=(false,eval e X.env)::starEach es X.env:=by rfl):PA X (e::es) (zjj te t):=by
 intro pos pins s σ H Q I h
 rw[hs]
 show wpAny _ _ (spliced ((false,eval e X.env)::backTo pos (starEach es X.env))) _ _ s
 refine Calls.spliced_cons (thn (ha pins s σ H _ I h) fun u s1 ⟨x,H1,I1,r1,q1⟩=> ?_)
 exact thn (hr pos pins s1 σ H1 _ I1 q1) fun us s2 ⟨xs,H2,I2,r2,q2⟩=>⟨x::xs,H2,I2, .cons r1 r2,q2⟩
noncomputable def zm2(t:TA):TE:=fun σ H Q=>t σ H fun xs H1=>xs.length<=sizeLine/\∀p,H1 p=none->Q (.ref p) (upd H1 p (.tup xs))
noncomputable def zm3(t:TA):TE:=fun σ H Q=>t σ H fun xs H1=>xs.length<=sizeLine/\∀p,H1 p=none->Q (.ref p) (upd H1 p (.lst xs))
theorem zfB{x1}(h:PA X es t):PE X (.Tuple es x1 pos) (zm2 t):=by
 intro pins s σ H Q I hq
 refine wpAny_Tuple_spliced (thn (h pos pins s σ H _ I hq) fun us s1 ⟨xs,H1,I1,r,z,q⟩=>⟨by rw[<-r.length];exact z, ?_⟩)
 have hf:H1 s1.heap.objs.size=none:=I1.hok.fresh (c9 _)
 refine⟨.ref s1.heap.objs.size,upd H1 s1.heap.objs.size (.tup xs),I1.laid (t':=s1.toks) (fun b u e=>Heap.get?_push_of_some _ e) (c9 _) ?_,rfl,q _ hf⟩
 exact⟨z,us,r,⟨_,Heap.get?_push_size _ rfl,rfl,_,rfl⟩⟩
theorem zfC(h:PA X es t):PE X (.List es pos) (zm3 t):=by
 intro pins s σ H Q I hq
 refine wpAny_List_spliced (thn (h pos pins s σ H _ I hq) fun us s1 ⟨xs,H1,I1,r,z,q⟩=>⟨by rw[<-r.length];exact z, ?_⟩)
 have hf:H1 s1.heap.objs.size=none:=I1.hok.fresh (c9 _)
 refine⟨.ref s1.heap.objs.size,upd H1 s1.heap.objs.size (.lst xs),I1.laid (t':=s1.toks) (fun b u e=>Heap.get?_push_of_some _ e) (c9 _) ?_,rfl,q _ hf⟩
 exact⟨z,us,0,r,Heap.get?_push_size _ rfl⟩
end
noncomputable abbrev Sp:=List V->Hp->VK->XK->Prop
noncomputable abbrev CXT:=List Env->Hp->Shared->XK->Value->Shared->Prop
structure zfD(P:Program)(w:World)(K:W.Frag)(mg:Str->Option Value)(base:Heap)(A:Around)(outer:List Env)(s:Shared)(H:Hp):Prop where
 frames:A.frames=some outer
 mod:Mod K mg base
 bs: ∀b o,base.get? b=some o->s.heap.get? b=some o/\H b=none
 bsz:base.objs.size<=s.heap.objs.size
 funs:s.heap.FunFrames base outer
 frf: ∀b∈frs outer,H b=none
 hok:HOk P w H s.heap
 bare:AllBare s.gens
noncomputable def CE(outer:List Env)(P:Program)(w:World)(H:Hp)(s:Shared)(Q:VK)(u:Value)(s':Shared):Prop:=
 ∃v H',s'.os=s.os/\AllBare s'.gens/\Un (frs outer) [] H H' s.heap s'.heap/\HOk P w H' s'.heap/\RelV v u/\Q v H'
noncomputable def CR(CX:CXT)(outer:List Env)(P:Program)(w:World)(H:Hp)(s:Shared)(Q:VK)(E:XK)(r:Result)(s':Shared):Prop:=
 match r with
 | .ok (.ret u)=>CE outer P w H s Q u s'
 | .ok _=>False
 | .error e=>CX outer H s E e s'
structure u2(P:Program)(w:World)(K:W.Frag)(mg:Str->Option Value)(base:Heap)(CX:CXT)(k:Nat)(f:Addr)(fd:FuncData)(ps:List Str)(sp:Sp):Prop where
 len: ∀vs H Q E,sp vs H Q E->vs.length=ps.length
 run: ∀(A:Around) (outer:List Env) (s:Shared) (H:Hp) (args:Args) (us:List Value) (vs:List V) (Q:VK) (E:XK),z2q k A->zfD P w K mg base A outer s H->BindsTo s fd args (ps.zip us)->j4 vs us->sp vs H Q E->
  codeAny (model P w) A (.call (.ref f) args) (CR CX outer P w H s Q E) s
theorem u2.mono{P:Program}{w:World}{K:W.Frag}{mg:Str->Option Value}{base:Heap}{CX:CXT}{j k:Nat}{f:Addr}{fd:FuncData}{ps:List Str}{sp:Sp}(F:u2 P w K mg base CX j f fd ps sp)(h:j<=k):
 u2 P w K mg base CX k f fd ps sp:=⟨F.len,fun A outer s H args us vs Q E hr=>F.run A outer s H args us vs Q E (hr.mono h)⟩
section
variable{X:Cx}{pins:List (Addr×Obj)}{σ:St}{H:Hp}{s s':Shared}
theorem Inv.env0(I:Inv X pins σ H s):zfD X.prog X.w X.K X.mg X.base X.A X.stack s H:=
 ⟨I.ok.frames,I.ok.mod,I.bs,t8 I.ok.bsz I.sz,I.stack,I.stkFree,I.hok,I.bare⟩
theorem Inv.after{Q:VK}{u:Value}(I:Inv X pins σ H s)(h:CE X.stack X.prog X.w H s Q u s'):EP X pins σ Q u s':=by
 obtain⟨v,H',os,bare,un,hok,r,q⟩:=h
 obtain⟨hh,g,d,t,os'⟩:=s'
 obtain rfl:os'=s.os:=os
 exact⟨v,H',I.call (h':=hh) (g':=g) (d':=d) (t':=t) (ch:=[]) un hok bare (fun b z=>absurd z (by simp)),r,q⟩
end
noncomputable def zjk(sp:Sp)(dvs:List V)(E:XK)(t:TA):TE:=fun σ H Q=>t σ H fun vs H1=>sp (vs++dvs) H1 Q E
noncomputable def z2D(K:W.Frag)(fd:FuncData)(ps:List Str)(ds:List Value):Prop:=
 ∀(s:Shared) (us:List Value),K.In s.heap->(us++ds).length=ps.length->BindsTo s fd ⟨us,[]⟩ (ps.zip (us++ds))
theorem z2D.all{K:W.Frag}{fd:FuncData}{ps:List Str}(h: ∀us:List Value,us.length=ps.length->bindArgs fd ⟨us,[]⟩=pure (ps.zip us)):z2D K fd ps []:=fun s us _ hl=>by
 rw[i9] at hl⊢
 exact .of_eq (h us hl)
noncomputable def z3x(CX:CXT)(X:Cx)(E:XK):Prop:= ∀(pins:List (Addr×Obj)) (σ:St) (H:Hp) (s:Shared) (e:Value) (s':Shared),Inv X pins σ H s->CX X.stack H s E e s'->X.xe e s'
section
variable{X:Cx}{CX:CXT}{k:Nat}{f C:Addr}{fd:FuncData}{ps:List Str}{sp:Sp}{dvs:List V}{ds:List Value}{E:XK}{x m:Str}{p pos apos:Pos}{e o:Expr}{es:List Expr}{ta:TE}{t:TA}
theorem zfE{pins:List (Addr×Obj)}{σ:St}{H:Hp}{s:Shared}{Q:VK}{us:List Value}{vs:List V}(F:u2 X.prog X.w X.K X.mg X.base CX k f fd ps sp)(hr:z2q k X.A)(hb:z2D X.K fd ps ds)(hd:j4 dvs ds)(hx:z3x CX X E)
 (I:Inv X pins σ H s) (r:j4 vs us) (h:sp (vs++dvs) H Q E):wpAny (model X.prog X.w) X.A (call (.ref f) us) (EP X pins σ Q) X.xe s:=by
 have r2:j4 (vs++dvs) (us++ds):=r.append hd
 have hl:(us++ds).length=ps.length:=by rw[<-r2.length];exact F.len _ _ _ _ h
 refine wpAny_call (codeAny_mono (F.run X.A X.stack s H ⟨us,[]⟩ (us++ds) (vs++dvs) Q E hr I.env0 (hb s us I.kIn hl) r2 h) fun r s' hq=> ?_)
 cases r with
 |error e=>exact hx pins σ H s e s' I hq
 |ok fl=>
  cases fl with
  |ret u=>exact I.after hq
  |next=>exact False.elim hq
  |brk=>exact False.elim hq
  |cont=>exact False.elim hq
theorem zdv(F:u2 X.prog X.w X.K X.mg X.base CX k f fd ps sp)(hr:z2q k X.A)(hg:Gl X x)(hm:X.mg x=some (.ref f))(hk:W.keepIn X.K (.ref f)=true)(hb:z2D X.K fd ps ds)(hd:j4 dvs ds)(hx:z3x CX X E)
 (ha:PA X (e::es) t) (hdb:(x==("__debug__" :Str))=false:=by decide) (he:starEach (e::es) X.env=(false,eval e X.env)::starEach es X.env:=by rfl) (hpl:(backTo pos (starEach es X.env)).any (·.1)=false:=by rfl):
 PE X (.Call (.Name x p) (e::es) [] pos) (zjk sp dvs E t):=by
 intro pins s σ H Q I h
 refine wpAny_Call_Name_kw (z3w I hg hm ?_ hdb)
 refine W.callWith_K (h₀:=X.base) I.ok.mod.kin hk (thn (ha pos pins s σ H _ I h) fun us s1 ⟨vs,H1,I1,r,q⟩=>⟨I1.kIn, ?_⟩) he hpl
 exact zfE F hr hb hd hx I1 r q
structure Mk(K:W.Frag)(C f:Addr):Prop where
 makes:W.makesIn K C=true
 init:W.findIn K (.ref C) "__init__" =some (some (.ref f))
 fn:W.isFn K (.ref f)=true
 kp:W.keepIn K (.ref C)=true
end
section
variable{X:Cx}{CX:CXT}{k:Nat}{f C:Addr}{fd:FuncData}{ps ks:List Str}{sp:Sp}{E:XK}{x m:Str}{p pos apos kpos:Pos}{e o:Expr}{es:List Expr}{kws:List Keyword}{te ta:TE}{t tk:TA}{nm:Option Str}
structure zlz(K:W.Frag)(fd:FuncData)(ps ks:List Str)(g:List Value->List Value->List Value)(gV:List V->List V->List V):Prop where
 to: ∀(s:Shared) (us ws:List Value),K.In s.heap->(g us ws).length=ps.length->BindsTo s fd ⟨us,ks.zip ws⟩ (ps.zip (g us ws))
 rel: ∀{vs:List V} {us:List Value} {zs:List V} {ws:List Value},j4 vs us->j4 zs ws->j4 (gV vs zs) (g us ws)
variable{g:List Value->List Value->List Value}{gV:List V->List V->List V}
end
structure Z3(N P:List Str)(sc:Scope):Prop where
 kind:sc.kind= .function
 co:sc.isCoroutine=false
 gen:sc.isGenerator=false
 nd:N.Nodup
 pre:N.take P.length=P
 par: ∀x∈P,sc.names.lookup x=some .local\/sc.names.lookup x=some .cell
 nofree: ∀y∈sc.names,y.2≠ .free
theorem z5V{kindOf:Str->Option NameKind}{x:Str}: ∀{binds:List (Str×Value)} {m:Str->Option Value},(∀v,(x,v)∉binds)->bindL kindOf binds m x=m x
 |[],_,_=>rfl
 |(n,v)::r,m,h=>by
  unfold bindL
  rw[z5V fun w hw=>h w (i4 _ hw)]
  split
  ·have:x≠n:=by rintro rfl;exact h v o0
   simp[this]
  ·rfl
theorem z5W{kindOf:Str->Option NameKind}{x:Str}: ∀{binds:List (Str×Value)} {m:Str->Option Value},(∀v,(x,v)∉binds)->bindC kindOf binds m x=m x
 |[],_,_=>rfl
 |(n,v)::r,m,h=>by
  unfold bindC
  rw[z5W fun w hw=>h w (i4 _ hw)]
  split
  ·rfl
  ·have:x≠n:=by rintro rfl;exact h v o0
   simp[this]
theorem z5X{kindOf:Str->Option NameKind}{x:Str}{v:Value}: ∀{P:List Str} {vs:List Value} {i:Nat} {m:Str->Option Value},P.Nodup->P[i]? =some x->vs[i]? =some v->kindOf x=some .local->
 bindL kindOf (P.zip vs) m x=some v
 |[],_,_,_,_,h,_,_=>by simp at h
 |_::_,[],_,_,_,_,h,_=>by simp at h
 |p::P,w::vs,0,m,nd,h1,h2,hk=>by
  simp at h1 h2;subst h1;subst h2
  show bindL kindOf ((p,w)::P.zip vs) m p=_
  unfold bindL
  rw[z5V fun v hv=>(F2.mp nd).1 (P9 hv).1,if_pos hk]
  simp
 |p::P,w::vs,i+1,m,nd,h1,h2,hk=>by
  show bindL kindOf ((p,w)::P.zip vs) m x=_
  unfold bindL
  exact z5X (i:=i) (F2.mp nd).2 (by simpa using h1) (by simpa using h2) hk
theorem z5Y{kindOf:Str->Option NameKind}{x:Str}{v:Value}: ∀{P:List Str} {vs:List Value} {i:Nat} {m:Str->Option Value},P.Nodup->P[i]? =some x->vs[i]? =some v->kindOf x≠some .local->
 bindC kindOf (P.zip vs) m x=some v
 |[],_,_,_,_,h,_,_=>by simp at h
 |_::_,[],_,_,_,_,h,_=>by simp at h
 |p::P,w::vs,0,m,nd,h1,h2,hk=>by
  simp at h1 h2;subst h1;subst h2
  show bindC kindOf ((p,w)::P.zip vs) m p=_
  unfold bindC
  rw[z5W fun v hv=>(F2.mp nd).1 (P9 hv).1,if_neg hk]
  simp
 |p::P,w::vs,i+1,m,nd,h1,h2,hk=>by
  show bindC kindOf ((p,w)::P.zip vs) m x=_
  unfold bindC
  exact z5Y (i:=i) (F2.mp nd).2 (by simpa using h1) (by simpa using h2) hk
noncomputable def z5Z(N:List Str)(vs:List V):St:=vs.map some++l7 (N.length -vs.length) none
noncomputable def z37(CX:CXT)(P:Program)(w:World)(K:W.Frag)(mg:Str->Option Value)(base:Heap)(N:List Str)(qual:Str)(scope:Scope)(f:Addr)(cd:Value)(A:Around)(outer:List Env)(s:Shared)(H:Hp)(E:XK):Cx where
 prog:=P
 w:=w
 K:=K
 mg:=mg
 base:=base
 A:=A.deeper (envOfC qual scope s.heap.objs.size f cd)
 N:=N
 s₀:=s
 H₀:=H
 env:=envOfC qual scope s.heap.objs.size f cd
 outer:=outer
 stack:=envOfC qual scope s.heap.objs.size f cd::outer
 ex:=[]
 calm:=true
 fn:=fun _=>true
 pn:=[]
 xe:=fun e s'=>wpAny (model P w) (A.deeper (envOfC qual scope s.heap.objs.size f cd)) (leaving (envOfC qual scope s.heap.objs.size f cd) e) (fun _ s''=>CX outer H s E e s'') (fun e' s''=>CX outer H s E e' s'') s'
theorem z7v{sc:Scope}{n:Nat}{x:Str}(h:sc.names.lookup x=some .cell): ∃c,(cellsFrom n sc.names []).lookup x=some c:=by
 have q:=W.cellsFrom_some sc.names n [] (.inl h)
 exact Option.isSome_iff_exists.mp q
theorem z9b{CX:CXT}{P:Program}{w:World}{K:W.Frag}{mg:Str->Option Value}{base:Heap}{N ps:List Str}{qual:Str}{scope:Scope}{f:Addr}{cd:Value}{A:Around}{outer:List Env}{s s1:Shared}{H:Hp}{E:XK}{us:List Value}{vs:List V}
 (S:Z3 N ps scope) (hd:A.handled=none) (e0:zfD P w K mg base A outer s H) (hl:vs.length=ps.length) (r:j4 vs us)
 (x:InCallC s s.heap.objs.size (bindL (envOfC qual scope s.heap.objs.size f cd).kindOf (ps.zip us) fun _=>none) (cellsFrom (s.heap.objs.size+1) scope.names []) (bindC (envOfC qual scope s.heap.objs.size f cd).kindOf (ps.zip us) fun _=>none) s1):
 Inv (z37 CX P w K mg base N qual scope f cd A outer s H E) [] (z5Z N vs) H s1:=by
 have hpl:ps.length<=N.length:=by have:=congrArg O1 S.pre;rw[C2] at this;lia
 obtain⟨h1,tk,rfl,hk⟩:=x.done
 have noA: ∀b:Addr,b∉(z37 CX P w K mg base N qual scope f cd A outer s H E).ex:=fun b z=>absurd (show b∈([]:List Addr) from z) (by simp)
 refine⟨⟨e0.mod,S.kind,rfl,rfl,c9 _,fun y z c h1 h2=> ?_,fun y hy=> ?_,fun y c _ h=> ?_,fun _=>hd,Around.frames_deeper e0.frames, .inr ⟨rfl,rfl⟩,fun b z=>absurd z (noA b),e0.bs,e0.bsz,fun b _ _=>noA b,fun b z=>absurd z (noA b),e0.funs,e0.frf⟩,
  rfl,e0.bare,Un.kept hk,⟨_,x.toInCall.ns,fun i y v h1 h2 h3=> ?_⟩,fun y c h=>⟨_,x.cell y c h⟩,e0.hok.fresh (c9 _),fun y c h=> ?_,fun p hp=>absurd (show p∈([]:List (Addr×Obj)) from hp) (by simp),e0.hok.kept hk, ?_⟩
 ·exact name_of_addr x.apart (PySem.mem_of_lookup h1) (PySem.mem_of_lookup h2)
 ·have hy:scope.names.lookup y=some .cell\/scope.names.lookup y=some .free:=hy
  rcases hy with hy|hy
  ·exact z7v hy
  ·exact absurd rfl (S.nofree _ (PySem.mem_of_lookup hy))
 ·exact R9 (x.above y c (PySem.mem_of_lookup h))
 ·have hi:i<vs.length:=by
   unfold z5Z at h2
   by_cases hi:i<vs.length
   ·exact hi
   ·rw[List.getElem?_append_right (by simpa using hi)] at h2
    rw[List.getElem?_replicate] at h2
    split at h2<;>cases h2
  have ha:vs[i]? =some v:=by
   unfold z5Z at h2
   rw[List.getElem?_append_left (by simpa using hi),List.getElem?_map] at h2
   cases e:vs[i]? with
   |none=>rw[e] at h2;cases h2
   |some a=>rw[e] at h2;cases h2;rfl
  obtain⟨u,hu,rv⟩:=r.get ha
  have hp:ps[i]? =some y:=by
   rw[<-S.pre,List.getElem?_take_of_lt (by lia)];exact h1
  have ndP:ps.Nodup:=by rw[<-S.pre];exact S.nd.sublist (List.take_sublist _ _)
  refine⟨u,rv, ?_⟩
  rcases S.par y (List.mem_of_getElem? hp) with k|k
  ·exact .inl ⟨k,z5X ndP hp hu k⟩
  ·obtain⟨c,e⟩:=z7v (n:=s.heap.objs.size+1) k
   refine .inr ⟨.inl k,c,e, ?_⟩
   have q:=x.cell y c e
   rw[z5Y ndP hp hu (by show scope.names.lookup y≠_;rw[k];decide)] at q
   exact q
 ·exact e0.hok.fresh (R9 (x.above y c (PySem.mem_of_lookup h)))
 ·unfold z5Z
  show _=N.length
  rw[l8,m7,R1]
  lia
theorem zfF{CX:CXT}{P:Program}{w:World}{K:W.Frag}{mg:Str->Option Value}{base:Heap}{k:Nat}{f:Addr}{name qual:Str}{params:Arguments}{body:List Stmt}{scope:Scope}{dV kV doc pm cdv ct oc:Value}{an od:Option Addr}
 {osl:Array (Option Value)} {N ps:List Str} {sp:Sp} (lk:K.lookup f=some ⟨oc,od, .func (W.fnOf name qual params body scope dV kV doc pm an cdv ct),osl⟩) (hcd:W.codeIn K cdv qual=true) (S:Z3 N ps scope)
 (len: ∀vs H Q E,sp vs H Q E->vs.length=ps.length)
 (hbody: ∀(A:Around) (outer:List Env) (s:Shared) (H:Hp) (vs:List V) (Q:VK) (E:XK),z2q k (A.deeper (envOfC qual scope s.heap.objs.size f cdv))->sp vs H Q E->
  ∃t,PSs (z37 CX P w K mg base N qual scope f cdv A outer s H E) body t/\t {nx:=fun _ H'=>Q .non H',rt:=Q} (z5Z N vs) H):
 u2 P w K mg base CX (k+1) f (W.fnOf name qual params body scope dV kV doc pm an cdv ct) ps sp:=by
 refine⟨len,fun A outer s H args us vs Q E hr e0 hb r hsp=> ?_⟩
 have hl:=len _ _ _ _ hsp
 have KX:K.In s.heap:=e0.mod.kin.keeps fun b o e=>(e0.bs b o e).1
 have lim:s.heap.NoLimit:=e0.mod.nolimit.keeps fun b o e=>(e0.bs b o e).1
 have hkind: ∀y∈ps.zip us,scope.names.lookup y.1=some .local\/(scope.names.lookup y.1=some .cell/\((cellsFrom (s.heap.objs.size+1) scope.names []).lookup y.1).isSome=true):=fun⟨n,v⟩ hy=>by
  rcases S.par n (P9 hy).1 with q|q
  ·exact .inl q
  ·exact .inr ⟨q,W.cellsFrom_some _ _ _ (.inl q)⟩
 refine codeAny_call_function hr.depth (KX _ _ lk) rfl S.co S.gen rfl (W.codeRec_of KX hcd) (hb _ _ _ _ ?_)
 refine wpAny_newFunctionEnv_cells S.kind hkind fun env he s1 x=> ?_
 subst he
 refine⟨lim.keeps x.toInCall.keep,codeAny_func ?_⟩
 obtain⟨t,ht,hq⟩:=hbody A outer s H vs Q E (hr.deeper _) hsp
 have I:Inv (z37 CX P w K mg base N qual scope f cdv A outer s H E) [] (z5Z N vs) H s1:=z9b S hr.hd e0 hl r x
 refine wpAny_mono (ht [] s1 (z5Z N vs) H _ I hq) (fun fl s' hs=> ?_) fun e s' hs=>hs
 have fin: ∀{σ':St} {H':Hp} {v:V} {u:Value},Inv (z37 CX P w K mg base N qual scope f cdv A outer s H E) [] σ' H' s'->RelV v u->Q v H'->CE outer P w H s Q u s':=
  fun{σ' H' v u} J rv q=>⟨v,H',J.os,J.bare,J.base,J.hok,rv,q⟩
 cases fl with
 |ret u=>
  obtain⟨v,σ',H',J,rv,q⟩:=hs
  exact fin J rv q
 |next=>
  obtain⟨σ',H',J,q⟩:=hs
  exact fin (v:=V.non) (u:=Value.none) J rfl q
 |brk=>
  obtain⟨_,_,_,q⟩:=hs
  exact False.elim q
 |cont=>
  obtain⟨_,_,_,q⟩:=hs
  exact False.elim q
section
variable{X:Cx}{x:Str}{p pos:Pos}{e:Expr}{es:List Expr}{t:TA}{id T:String}{r:List V->Hp->VK->Prop}
noncomputable def tCB(r:List V->Hp->VK->Prop)(t:TA):TE:=fun σ H Q=>t σ H fun vs H1=>r vs H1 Q
theorem z3n(hc:CallR X (.builtin id) r)(hg:Gl X x)(hm:X.mg x=none)(hv:bootBuiltins x=some (.builtin id))(ha:PA X (e::es) t)(hn:x≠ "__name__" :=by decide)(hdb:(x==("__debug__" :Str))=false:=by decide)
 (he:starEach (e::es) X.env=(false,eval e X.env)::starEach es X.env:=by rfl) (hpl:(backTo pos (starEach es X.env)).any (·.1)=false:=by rfl):PE X (.Call (.Name x p) (e::es) [] pos) (tCB r t):=by
 intro pins s σ H Q I h
 refine wpAny_Call_Name_kw (z4p I hg hm hv ?_ hn hdb)
 exact PyProof.Rows.callWith_builtin1 (thn (ha pos pins s σ H _ I h) fun us s1 ⟨vs,H1,I1,r1,q1⟩=>hc pins s1 σ H1 vs us Q I1 r1 q1) he hpl
theorem z9c(hc:CallR X (.type T) r)(hg:Gl X x)(hm:X.mg x=none)(hv:bootBuiltins x=some (.type T))(ha:PA X (e::es) t)(hn:x≠ "__name__" :=by decide)(hdb:(x==("__debug__" :Str))=false:=by decide)
 (he:starEach (e::es) X.env=(false,eval e X.env)::starEach es X.env:=by rfl) (hpl:(backTo pos (starEach es X.env)).any (·.1)=false:=by rfl):PE X (.Call (.Name x p) (e::es) [] pos) (tCB r t):=by
 intro pins s σ H Q I h
 refine wpAny_Call_Name_kw (z4p I hg hm hv ?_ hn hdb)
 exact PyProof.Rows.callWith_type1 (thn (ha pos pins s σ H _ I h) fun us s1 ⟨vs,H1,I1,r1,q1⟩=>hc pins s1 σ H1 vs us Q I1 r1 q1) he hpl
end
end L2
namespace HT
open PySem PyProof.Rows
section
open PySem.SeqAt
open PySem.AutoSeq1 (wpAny_loadPart')
open PySem.MeetsSeq PySem.MeetsSeq2 PySem.MeetsSeq3
end
section
variable{prog:Program}{w:World}{A:Around}{E:Value->Shared->Prop}{s:Shared}
theorem cat_tup{t b:Addr}{vs ws:List Value}{Q:Value->Shared->Prop}(ht:IsTup s.heap t vs.toArray)(hb:IsTup s.heap b ws.toArray)(hv:vs≠[])
 (h1:ws=[]->Q (.ref t) s) (h2:ws≠[]->Q (.ref s.heap.objs.size) {s with heap:=s.heap.push {cls:= .type "tuple",data:= .seq (vs++ws).toArray}})
 (hsz:vs.length+ws.length<=sizeLine):wpAny (model prog w) A (binaryOp .Add (.ref t) (.ref b)) Q E s:=by
 obtain⟨⟨cls,dd,data,sl⟩,ho,hc,n,hd⟩:=id ht
 obtain⟨⟨cls2,dd2,data2,sl2⟩,ho2,hc2,n2,hd2⟩:=id hb
 simp only at hc hd hc2 hd2
 subst hc hd hc2 hd2
 have e:vs.toArray++ws.toArray=(vs++ws).toArray:=by simp
 by_cases hw:ws=[]
 ·exact concat_meets ⟨_,ho,rfl⟩ ⟨_,ho2,rfl⟩ noFill_tuple_add seq_tuple_add PySem.F.slot_tuple_add PySem.F.entry_tuple_add (PySem.F.args_tuple_add_2 _ _)
   (tuple_addW1 t b vs.toArray ws.toArray n n2 dd dd2 sl sl2 (by simpa using hv) (by simp[hw])) ⟨ho,ho2,h1 hw⟩
 ·refine concat_meets ⟨_,ho,rfl⟩ ⟨_,ho2,rfl⟩ noFill_tuple_add seq_tuple_add PySem.F.slot_tuple_add PySem.F.entry_tuple_add (PySem.F.args_tuple_add_2 _ _)
   (tuple_addW2 t b vs.toArray ws.toArray n n2 dd dd2 sl sl2 (by simpa using hv) (by simpa using hw) (by rw[l9,l9];exact hsz)) ⟨ho,ho2, ?_⟩
  rw[e]
  exact h2 hw
noncomputable def sIx(n d:Nat):Option Int->Nat
 |none=>d
 |some v=>if v<0 then(v+(n:Int)).toNat else min v.toNat n
theorem sIx_none(n d:Nat):sIx n d none=d:=rfl
theorem sIx_nat(n d k:Nat):sIx n d (some (k:Int))=min k n:=by
 show(if(k:Int)<0 then((k:Int)+(n:Int)).toNat else min (k:Int).toNat n)=min k n
 rw[if_neg (by lia),O2]
theorem zfG(n d:Nat)(hd:d<=n)(o:Option Int):sIx n d o<=n:=by
 cases o with
 |none=>exact hd
 |some v=>
  show(if v<0 then(v+(n:Int)).toNat else min v.toNat n)<=n
  by_cases hv:v<0
  ·rw[if_pos hv];lia
  ·rw[if_neg hv];exact F7 _ _
theorem z9d(v:Int)(n d:Nat):(if v<0 then max (v+(n:Int)) 0 else min v (n:Int))=((sIx n d (some v):Nat):Int):=by
 show(if v<0 then max (v+(n:Int)) 0 else min v (n:Int))=(((if v<0 then(v+(n:Int)).toNat else min v.toNat n):Nat):Int)
 by_cases hv:v<0
 ·erw[if_pos hv];lia
 ·erw[if_neg hv];lia
theorem z8k(lo hi:Option Int)(n:Nat):Builtin.Slice.sliceAdjust lo hi 1 (n:Int)=(((sIx n 0 lo:Nat):Int),((sIx n n hi:Nat):Int)):=by
 have h1: ¬((1:Int)<0):=by lia
 unfold Builtin.Slice.sliceAdjust
 erw[h1,if_false]
 refine Prod.ext ?_ ?_
 ·cases lo with
  |none=>rfl
  |some v=>exact z9d v n 0
 ·cases hi with
  |none=>rfl
  |some v=>exact z9d v n n
theorem z8l(i j:Nat):Builtin.Slice.slicePlaces (i:Int) (j:Int) 1=j -i:=by
 unfold Builtin.Slice.slicePlaces
 have h1:(1:Int)>0:=by lia
 erw[h1,if_true,Int.ediv_one]
 split<;>lia
theorem z4t{v:Value}{o:Option Int}{Q:Option Int->Shared->Prop}(p:IsPart v o)(h:Q o s):wpAny (model prog w) A (Builtin.Slice.slicePartIndex v) Q E s:=by
 cases p with
 |none=>exact slicePart_none h
 |int i t=>exact slicePart_int h
theorem z0X{sl:Addr}{vl vu:Value}{lo hi:Option Int}{n:Nat}{Q:Int×Int×Nat->Shared->Prop}(hs:s.heap.IsSliceOf sl vl vu .none)(pl:IsPart vl lo)(pu:IsPart vu hi)
 (h:Q (((sIx n 0 lo:Nat):Int),1,sIx n n hi -sIx n 0 lo) s):wpAny (model prog w) A (Builtin.Slice.sliceApplied (.ref sl) (pure (n:Int))) Q E s:=by
 obtain⟨os,hos,hcs,hds⟩:=id hs
 unfold Builtin.Slice.sliceApplied Builtin.Slice.sliceFields
 refine wpAny_bind (wpAny_bind (wpAny_field hos hds (x:=vl) rfl (wpAny_bind (wpAny_field hos hds (x:=vu) rfl (wpAny_bind (wpAny_field hos hds (x:= .none) rfl (wpAny_pure ?_)))))))
 refine wpAny_bind (slicePart_none ?_)
 show wpAny _ _ (if((1:Int)==0)=true then _ else _) _ _ s
 rw[if_neg (by decide)]
 refine wpAny_bind (z4t pl (wpAny_bind (z4t pu (wpAny_bind (wpAny_pure ?_)))))
 show wpAny _ _ (match Builtin.Slice.sliceAdjust lo hi 1 (n:Int) with|(lo,hi)=>pure (lo,(1:Int),Builtin.Slice.slicePlaces lo hi 1)) _ _ s
 rw[z8k lo hi n]
 show wpAny _ _ (pure (((sIx n 0 lo:Nat):Int),(1:Int),Builtin.Slice.slicePlaces ((sIx n 0 lo:Nat):Int) ((sIx n n hi:Nat):Int) 1)) _ _ s
 rw[z8l]
 exact wpAny_pure h
theorem zbi(xs:Array Value)(i k:Nat):((N6 k).filterMap fun(m:Nat)=>xs[((i:Int)+(m:Int)*1).toNat]?).toArray=((xs.toList.drop i).take k).toArray:=by
 have e:(fun(m:Nat)=>xs[((i:Int)+(m:Int)*1).toNat]?)=fun m=>xs[i+m]? :=by
  funext m
  have:((i:Int)+(m:Int)*1).toNat=i+m:=by lia
  rw[this]
 rw[e]
 have:=pick_run xs i k
 rw[List.filterMap_map] at this
 have e2:((fun x=>xs[x]?)∘fun x=>i+x)=fun m=>xs[i+m]? :=rfl
 rw[e2] at this
 rw[this]
theorem getItem_tuple_cut{t sl:Addr}{items:Array Value}{vl vu:Value}{lo hi:Option Int}{Q:Value->Shared->Prop}(ht:IsTup s.heap t items)(hs:s.heap.IsSliceOf sl vl vu .none)(pl:IsPart vl lo)(pu:IsPart vu hi)
 (hw: ¬(sIx items.size 0 lo=0/\sIx items.size items.size hi=items.size))
 (h:Q (.ref s.heap.objs.size) {s with heap:=s.heap.push {cls:= .type "tuple",data:= .seq ((items.toList.drop (sIx items.size 0 lo)).take (sIx items.size items.size hi -sIx items.size 0 lo)).toArray}})
 (hsz:items.size<=sizeLine):wpAny (model prog w) A (getItem (.ref t) (.ref sl)) Q E s:=by
 have htake:sizeOk (.seq ((items.toList.drop (sIx items.size 0 lo)).take (sIx items.size items.size hi -sIx items.size 0 lo)).toArray):=by
  show((items.toList.drop (sIx items.size 0 lo)).take (sIx items.size items.size hi -sIx items.size 0 lo)).toArray.size<=sizeLine
  rw[l9,C2,C8,Array.length_toList]
  lia
 have hj:sIx items.size items.size hi<=items.size:=zfG _ _ (c9 _) hi
 obtain⟨os,hos,hcs,hds⟩:=id hs
 have hTs:s.TypeIs (.ref sl) "slice" :=⟨os,hos,hcs⟩
 unfold getItem
 try with_reducible refine wpAny_holding ?_
 first|refine wpAny_bind (wpAny_pure ?_)|skip
 refine wpAny_bind (wpAny_sequenceKey ht.typeIs (by decide) ?_)
 refine wpAny_bind (wpAny_callSpecial?_slot (name:=Str.ofString "__getitem__") ht.typeIs PyProof.Rows.slot_tuple_getitem
  (wpAny_call_entry PyProof.Rows.slot_tuple_getitem ht.typeIs entry_tuple_getitem ?_ (args_tuple_getitem _ _)))
 show wpAny _ _ (Builtin.Tuple.tupleItemsOf (.ref t)>>=_) _ _ s
 refine wpAny_bind (tupleItemsOf_ ht ?_)
 refine wpAny_bind (wpAny_typeOf hTs ?_)
 rw[if_pos (by decide)]
 refine wpAny_bind (z0X hs pl pu ?_)
 have hno: ¬((((sIx items.size 0 lo:Nat):Int)==0&&(1:Int)==1&&(sIx items.size items.size hi -sIx items.size 0 lo)==items.size)=true):=by
  intro q
  rw[i6,i6] at q
  have q1:((sIx items.size 0 lo:Nat):Int)=0:=eq_of_beq q.1.1
  have q2:sIx items.size items.size hi -sIx items.size 0 lo=items.size:=eq_of_beq q.2
  exact hw ⟨by lia,by lia⟩
 show wpAny _ _ (if(((sIx items.size 0 lo:Nat):Int)==0&&(1:Int)==1&&(sIx items.size items.size hi -sIx items.size 0 lo)==items.size)=true then _ else _) _ _ s
 rw[if_neg hno,zbi]
 first
  |exact wpAny_bind (m:=Builtin.Tuple.tupleExact _) (wpAny_newObj_type (wpAny_pure ⟨_,rfl,wpAny_pure h⟩) htake)
  |exact wpAny_bind (m:=Builtin.Tuple.tupleExact _) (wpAny_newObj_type (wpAny_bind (wpAny_pure (wpAny_pure ⟨_,rfl,wpAny_pure h⟩))) htake)
  |exact wpAny_bind (wpAny_bind (m:=Builtin.Tuple.tupleExact _) (wpAny_newObj_type (wpAny_pure (wpAny_pure ⟨_,rfl,wpAny_pure h⟩)) htake))
  |exact wpAny_bind (wpAny_bind (m:=Builtin.Tuple.tupleExact _) (wpAny_newObj_type (wpAny_pure ⟨_,rfl,wpAny_pure h⟩) htake))
end
end HT
namespace L2
open PySem PySem.Spec PyProof.Rows
noncomputable abbrev TO:=St->Hp->(Option Int->Hp->Prop)->Prop
noncomputable def PO(X:Cx)(e:Option Expr)(t:TO):Prop:=
 ∀(pins:List (Addr×Obj)) (s:Shared) (σ:St) (H:Hp) (Q:Option Int->Hp->Prop),Inv X pins σ H s->t σ H Q->
  wpAny (model X.prog X.w) X.A (evalPart e X.env) (fun u s'=> ∃o H',Inv X pins σ H' s'/\IsPart u o/\Q o H') X.xe s
noncomputable def zdw:TO:=fun _ H Q=>Q none H
noncomputable def zjl(t:TE):TO:=fun σ H Q=>t σ H fun x H1=> ∃i,x= .int i/\Q (some i) H1
section
variable{X:Cx}{e:Expr}{te:TE}{lo hi:Option Expr}{tl th:TO}{pos p2:Pos}
theorem zdx:PO X none zdw:=by
 intro pins s σ H Q I h
 rw[evalPart_none]
 exact wpAny_pure ⟨none,H,I, .none,h⟩
theorem zdy(h:PE X e te):PO X (some e) (zjl te):=by
 intro pins s σ H Q I hw
 rw[evalPart_some]
 refine thn (h pins s σ H _ I hw) fun u s1 ⟨x,H1,I1,r1,q1⟩=> ?_
 obtain⟨i,rfl,q⟩:=q1
 obtain⟨t,rfl⟩:=r1
 exact⟨some i,H1,I1, .int i t,q⟩
noncomputable def SlR(X:Cx)(r:V->Option Int->Option Int->Hp->VK->Prop):Prop:=
 ∀(pins:List (Addr×Obj)) (s:Shared) (σ:St) (H:Hp) (x:V) (v vl vu:Value) (lo hi:Option Int) (sl:Addr) (Q:VK),Inv X pins σ H s->RelV x v->s.heap.IsSliceOf sl vl vu .none->IsPart vl lo->IsPart vu hi->r x lo hi H Q->
  ∃T id,typeLookup (.type T) "__getitem__" =pure (some (.builtin id))/\s.TypeIs v T/\wpAny (model X.prog X.w) X.A (getItem v (.ref sl)) (EP X pins σ Q) X.xe s
theorem SlR.or{r r':V->Option Int->Option Int->Hp->VK->Prop}(h:SlR X r)(h':SlR X r'):SlR X (fun x lo hi H Q=>r x lo hi H Q\/r' x lo hi H Q):=by
 intro pins s σ H x v vl vu lo hi sl Q I rx hs pl pu q
 rcases q with q|q
 ·exact h pins s σ H x v vl vu lo hi sl Q I rx hs pl pu q
 ·exact h' pins s σ H x v vl vu lo hi sl Q I rx hs pl pu q
noncomputable def tSl(r:V->Option Int->Option Int->Hp->VK->Prop)(te:TE)(tl th:TO):TE:=fun σ H Q=>te σ H fun x H1=>tl σ H1 fun l H2=>th σ H2 fun u H3=>r x l u H3 Q
theorem z7w{r:V->Option Int->Option Int->Hp->VK->Prop}(hr:SlR X r)(he:PE X e te)(hl:PO X lo tl)(hu:PO X hi th):PE X (.Subscript e (.Slice lo hi none p2) pos) (tSl r te tl th):=by
 intro pins s σ H Q I h
 refine Subscript_ (thn (he pins s σ H _ I h) fun v s1 ⟨x,H1,I1,r1,q1⟩=> ?_)
 refine wpAny_Slice (thn (hl pins s1 σ H1 _ I1 q1) fun vl s2 ⟨l,H2,I2,pl,q2⟩=>thn (hu pins s2 σ H2 _ I2 q2) fun vu s3 ⟨u,H3,I3,pu,q3⟩=> ?_)
 rw[evalPart_none]
 refine wpAny_pure ?_
 have I4:Inv X pins σ H3 {s3 with heap:=s3.heap.push {cls:= .type "slice",data:= .fields #[vl,vu, .none]}}:=I3.kept (t':=s3.toks) fun b ob q=>Heap.get?_push_of_some _ q
 obtain⟨T,id,hT,ht,hg⟩:=hr pins {s3 with heap:=s3.heap.push {cls:= .type "slice",data:= .fields #[vl,vu, .none]}} σ H3 x v vl vu l u s3.heap.objs.size Q I4 r1 (Heap.IsSliceOf.new ..) pl pu q3
 show wpAny (model X.prog X.w) X.A (subscriptTail e (.Slice lo hi none p2) v (.ref s3.heap.objs.size)) (EP X pins σ Q) X.xe {s3 with heap:=s3.heap.push {cls:= .type "slice",data:= .fields #[vl,vu, .none]}}
 exact tail_any (ops:=[.ref s3.heap.objs.size,v]) ht hT hg (by with_unfolding_all rfl)
noncomputable def z6J(xs:List V)(lo hi:Option Int):List V:=(xs.drop (HT.sIx xs.length 0 lo)).take (HT.sIx xs.length xs.length hi -HT.sIx xs.length 0 lo)
theorem z3y(xs:List V)(lo hi:Option Int):(z6J xs lo hi).length<=xs.length:=by
 unfold z6J
 rw[C2,C8]
 lia
noncomputable def zm4(K:W.Frag):V->Option Int->Option Int->Hp->VK->Prop:=fun x lo hi H Q=> ∃a xs,x= .ref a/\SqT K H a xs/\
 ¬(HT.sIx xs.length 0 lo=0/\HT.sIx xs.length xs.length hi=xs.length)/\∀p,H p=none->Q (.ref p) (upd H p (.tup (z6J xs lo hi)))
theorem zfH:SlR X (zm4 X.K):=by
 intro pins s σ H x v vl vu lo hi sl Q I rx hs pl pu h
 obtain⟨a,xs,rfl,hx,hw,q⟩:=h
 cases rx
 obtain⟨its,r,ht,hz⟩:=I.tuple hx
 have hlen:its.toArray.size=xs.length:=by rw[l9];exact r.length.symm
 refine⟨"tuple",_,PyProof.Rows.slot_tuple_getitem.lookup,ht.typeIs, ?_⟩
 refine HT.getItem_tuple_cut ht hs pl pu (by rw[hlen];exact hw) ?_ (by rw[hlen];exact hz)
 rw[hlen]
 refine⟨.ref s.heap.objs.size,_,I.laid (t':=s.toks) (o:= .tup (z6J xs lo hi)) (fun b ob q=>Heap.get?_push_of_some _ q) (c9 _) ?_,rfl,q _ (I.hok.fresh (c9 _))⟩
 exact⟨t8 (z3y xs lo hi) hz,_,(r.drop (HT.sIx xs.length 0 lo)).take (HT.sIx xs.length xs.length hi -HT.sIx xs.length 0 lo),IsTup.new _ _⟩
noncomputable def zjm(K:W.Frag):R2:=fun x y H Q=> ∃a b xs ys,x= .ref a/\y= .ref b/\SqT K H a xs/\SqT K H b ys/\xs≠[]/\xs.length+ys.length<=sizeLine/\
 (ys=[]->Q (.ref a) H)/\(ys≠[]->∀p,H p=none->Q (.ref p) (upd H p (.tup (xs++ys))))
theorem j4.nil_iff{xs:List V}{us:List Value}(r:j4 xs us):us=[]↔xs=[]:=by
 cases r with
 |nil=>simp
 |cons _ _=>simp
theorem zdz:OpR X (binaryOp .Add) (zjm X.K):=by
 intro pins s σ H x y v u Q I rx ry h
 obtain⟨a,b,xs,ys,rfl,rfl,ha,hb,hx,hz,q1,q2⟩:=h
 cases rx
 cases ry
 obtain⟨its,r1,p1,_⟩:=I.tuple ha
 obtain⟨its2,r2,p2,_⟩:=I.tuple hb
 refine HT.cat_tup p1 p2 (fun z=>hx (r1.nil_iff.mp z)) (fun z=>⟨.ref a,H,I,rfl,q1 (r2.nil_iff.mp z)⟩) (fun z=> ?_) (by rw[<-r1.length,<-r2.length];exact hz)
 refine⟨.ref s.heap.objs.size,_,I.laid (t':=s.toks) (o:= .tup (xs++ys)) (fun b ob q=>Heap.get?_push_of_some _ q) (c9 _) ?_,rfl,q2 (fun w=>z (r2.nil_iff.mpr w)) _ (I.hok.fresh (c9 _))⟩
 exact⟨by rw[l8];exact hz,_,r1.append r2,IsTup.new _ _⟩
end
noncomputable def ixN(n:Nat)(i:Int):Option Nat:=if 0<=i then(if i<n then some i.toNat else none) else if -(n:Int)<=i then some (i+n).toNat else none
noncomputable def atI{α:Type}(xs:List α)(i:Int):Option α:=(ixN xs.length i).bind fun j=>xs[j]?
theorem z9e{n:Nat}{i:Int}{j:Nat}(h:ixN n i=some j):seqIndex? i n=some j/\j<n/\-(n:Int)<=i/\i<n:=by
 unfold ixN at h
 by_cases h0:0<=i
 ·rw[if_pos h0] at h
  by_cases h1:i<n
  ·rw[if_pos h1] at h
   have e:i.toNat=j:=Option.some.inj h
   exact⟨by rw[seqIndex_of h0 h1,e],by lia,by lia,h1⟩
  ·rw[if_neg h1] at h;cases h
 ·rw[if_neg h0] at h
  by_cases h1: -(n:Int)<=i
  ·rw[if_pos h1] at h
   have e:(i+n).toNat=j:=Option.some.inj h
   exact⟨by rw[seqIndex_neg (by lia) h1,e],by lia,h1,by lia⟩
  ·rw[if_neg h1] at h;cases h
theorem z9f{α:Type}{xs:List α}{i:Int}{v:α}(h:atI xs i=some v): ∃j,seqIndex? i xs.length=some j/\xs[j]? =some v/\j<xs.length/\-(xs.length:Int)<=i/\i<xs.length:=by
 unfold atI at h
 cases e:ixN xs.length i with
 |none=>rw[e] at h;cases h
 |some j=>
  rw[e] at h
  obtain⟨h1,h2,h3,h4⟩:=z9e e
  exact⟨j,h1,h,h2,h3,h4⟩
theorem zdA{α:Type}{xs:List α}{j:Nat}{v:α}(h:xs[j]? =some v):atI xs (j:Int)=some v:=by
 have hj:j<xs.length:=(List.getElem?_eq_some_iff.mp h).1
 have e:ixN xs.length (j:Int)=some j:=by
  unfold ixN
  rw[if_pos (by lia),if_pos (by lia)];simp
 unfold atI;rw[e];exact h
noncomputable def z2E(b:Expr):Prop:= ∀o i,subscripted b false o i=operate [o,i] (getItem o i)
noncomputable def IxR(X:Cx)(r:R2):Prop:=
 ∀(value slice:Expr) (pins:List (Addr×Obj)) (s:Shared) (σ:St) (H:Hp) (x y:V) (v u:Value) (Q:VK),Inv X pins σ H s->RelV x v->RelV y u->r x y H Q->
  subscripted slice false v u=operate [v,u] (getItem v u)->wpAny (model X.prog X.w) X.A (subscriptTail value slice v u) (EP X pins σ Q) X.xe s
noncomputable def MtR(X:Cx)(id:String)(r:V->List V->Hp->VK->Prop):Prop:=
 ∀(pins:List (Addr×Obj)) (s:Shared) (σ:St) (H:Hp) (x:V) (xs:List V) (v:Value) (us:List Value) (Q:VK),Inv X pins σ H s->RelV x v->j4 xs us->r x xs H Q->
  wpAny (model X.prog X.w) X.A (call (.builtin id) (v::us)) (EP X pins σ Q) X.xe s
section
variable{X:Cx}{a b:Expr}{ta tb:TE}{pos:Pos}
theorem IxR.or{r r':R2}(h:IxR X r)(h':IxR X r'):IxR X (fun x y H Q=>r x y H Q\/r' x y H Q):=by
 intro value slice pins s σ H x y v u Q I rx ry q hs
 rcases q with q|q
 ·exact h value slice pins s σ H x y v u Q I rx ry q hs
 ·exact h' value slice pins s σ H x y v u Q I rx ry q hs
theorem zjn{r:R2}(hr:IxR X r)(ha:PE X a ta)(hb:PE X b tb)(hs:z2E b):PE X (.Subscript a b pos) (tOp r ta tb):=by
 intro pins s σ H Q I h
 exact Subscript_ (ziN ha hb I h fun v u s2 x y H2 I2 rx ry q=>hr a b pins s2 σ H2 x y v u Q I2 rx ry q (hs _ _))
noncomputable def zlA(K:W.Frag):R2:=fun x y H Q=> ∃p xs i v,x= .ref p/\y= .int i/\SqL K H p xs/\atI xs i=some v/\Q v H
noncomputable def zlB(K:W.Frag):R2:=fun x y H Q=> ∃p xs i v,x= .ref p/\y= .int i/\SqT K H p xs/\atI xs i=some v/\Q v H
theorem zdB:IxR X (zlA X.K):=by
 intro value slice pins s σ H x y v u Q I rx ry h hs
 obtain⟨p,xs,i,z,rfl,rfl,hq,he,q⟩:=h
 cases rx
 obtain⟨t,rfl⟩:=ry
 obtain⟨its,r,pl,hz⟩:=I.list hq
 obtain⟨j,h1,h2,h3,h4,h5⟩:=z9f he
 obtain⟨w,ew,rw'⟩:=r.get h2
 have hl:=r.length
 have hn:=z4r
 have fin:EP X pins σ Q w s:=⟨z,H,I,rw',q⟩
 by_cases h0:0<=i
 ·have hj:i.toNat=j:=by
   rw[seqIndex_of h0 h5] at h1
   exact Option.some.inj h1
  exact item_listR pl.isList h0 (by lia) (by rw[hj];simpa using ew) fin hs
 ·have hj:(i+(its.toArray.size:Int)).toNat=j:=by
   rw[seqIndex_neg (by lia) h4] at h1
   rw[l9,<-hl]
   exact Option.some.inj h1
  exact subscriptTail_builtinR (x:=w) pl.isList.typeIs slot_list_getitem.lookup
   (wpAny_getItem_list_neg (Q:=fun r s'=>r=w/\EP X pins σ Q r s') pl.isList (by lia) (by rw[l9]<;>lia) (by lia) (by rw[hj];simpa using ew) ⟨rfl,fin⟩) hs
theorem zfI:IxR X (zlB X.K):=by
 intro value slice pins s σ H x y v u Q I rx ry h hs
 obtain⟨p,xs,i,z,rfl,rfl,hq,he,q⟩:=h
 cases rx
 obtain⟨t,rfl⟩:=ry
 obtain⟨its,r,pl,hz⟩:=I.tuple hq
 obtain⟨j,h1,h2,h3,h4,h5⟩:=z9f he
 obtain⟨w,ew,rw'⟩:=r.get h2
 have hl:=r.length
 have hn:=z4r
 have fin:EP X pins σ Q w s:=⟨z,H,I,rw',q⟩
 exact subscriptTail_builtinR (x:=w) pl.typeIs slot_tuple_getitem.lookup
  (getItem_tuple (j:=j) (Q:=fun r s'=>r=w/\EP X pins σ Q r s') pl (by lia) (by lia) (by rw[l9,<-hl];exact h1) (by simpa using ew) ⟨rfl,fin⟩) hs
theorem z8m(its:List Value)(n j:Nat)(u:Value):Obj.mapSeq (·.setIfInBounds j u) {cls:= .type "list",data:= .seq its.toArray n}={cls:= .type "list",data:= .seq (its.set j u).toArray n}:=by
 simp[Obj.mapSeq]
theorem Inv.lst{pins:List (Addr×Obj)}{σ:St}{H:Hp}{s:Shared}{p:Addr}{xs:List V}(I:Inv X pins σ H s)(h:H p=some (.lst xs)):
 ∃(its:List Value) (n:Nat),j4 xs its/\s.heap.get? p=some {cls:= .type "list",data:= .seq its.toArray n}/\xs.length<=sizeLine:=by
 obtain⟨z,its,n,r,e⟩:=I.hok p _ h
 exact⟨its,n,r,e,z⟩
theorem Inv.lstUpd{pins:List (Addr×Obj)}{σ:St}{H:Hp}{s:Shared}{p:Addr}{xs ys:List V}{its its':List Value}{n n':Nat}{f:Obj->Obj}(I:Inv X pins σ H s)(h:H p=some (.lst xs))
 (ho:s.heap.get? p=some {cls:= .type "list",data:= .seq its.toArray n}) (hf:f {cls:= .type "list",data:= .seq its.toArray n}={cls:= .type "list",data:= .seq its'.toArray n'}) (r:j4 ys its') (hz:ys.length<=sizeLine) (t:Nat):
 Inv X pins σ (upd H p (.lst ys)) {s with heap:=s.heap.update p f,toks:=t}:=by
 have e:(s.heap.update p f).get? p=some {cls:= .type "list",data:= .seq its'.toArray n'}:=by
  rw[Heap.get?_update_self f ho (by rw[hf]<;>rfl),hf]
 refine I.write (x:=p) (e:=p) (by rw[h];trivial) (.inl rfl) (fun b u hb q=>(Heap.get?_update_other _ _ (Ne.symm hb)).trans q) ⟨_,e⟩ ?_
 exact⟨hz,its',n',r,e⟩
noncomputable def z47:V->V->V->Hp->(Hp->Prop)->Prop:=fun o i v H Q=> ∃p xs k j,o= .ref p/\i= .int k/\H p=some (.lst xs)/\ixN xs.length k=some j/\Q (upd H p (.lst (xs.set j v)))
theorem z2r:zlw X z47:=by
 intro pins s σ H o i v ov iv u Q I ro ri rv h
 obtain⟨p,xs,k,j,rfl,rfl,hp,hj,q⟩:=h
 cases ro
 obtain⟨t,rfl⟩:=ri
 obtain⟨its,n,r,ho,hz⟩:=I.lst hp
 obtain⟨h1,h2,h3,h4⟩:=z9e hj
 have hl:=r.length
 have hn:=z4r
 have I':Inv X pins σ (upd H p (.lst (xs.set j v))) {s with heap:=s.heap.update p (Obj.mapSeq (·.setIfInBounds j u))}:=
  I.lstUpd hp ho (z8m its n j u) (r.set rv j) (by rw[R0];exact hz) s.toks
 by_cases h0:0<=k
 ·have hk:k.toNat=j:=by
   rw[seqIndex_of h0 h4] at h1
   exact Option.some.inj h1
  exact W.ki_setAt ho h0 (by lia) (by rw[l9,<-hl];exact h4) (by rw[hk];exact⟨_,I',q⟩)
 ·have hk:(k+(its.toArray.size:Int)).toNat=j:=by
   rw[seqIndex_neg (by lia) h3] at h1
   rw[l9,<-hl]
   exact Option.some.inj h1
  exact W.ki_setBack ho (by lia) (by rw[l9,<-hl];exact h3) (by lia) (by rw[hk];exact⟨_,I',q⟩)
theorem z60(lo hi:Option Int)(n:Nat):(sliceBounds lo hi none n).1=((HT.sIx n 0 lo:Nat):Int)/\(sliceBounds lo hi none n).2.1=((HT.sIx n n hi:Nat):Int)/\(sliceBounds lo hi none n).2.2=1:=by
 refine⟨?_, ?_,rfl⟩
 ·cases lo with
  |none=>simp[sliceBounds,HT.sIx]
  |some i=>
   erw[sliceBounds,HT.sIx,F8,show(1:Int)>0 by decide,if_true]
   by_cases h:i<0
   ·erw[h,if_true]<;>lia
   ·erw[h,if_false]<;>lia
 ·cases hi with
  |none=>simp[sliceBounds,HT.sIx]
  |some i=>
   erw[sliceBounds,HT.sIx,F8,show(1:Int)>0 by decide,if_true]
   by_cases h:i<0
   ·erw[h,if_true]<;>lia
   ·erw[h,if_false]<;>lia
theorem z4P(its:List Value)(lo hi:Option Int):slicePick its.toArray lo hi none=((its.drop (HT.sIx its.length 0 lo)).take (HT.sIx its.length its.length hi -HT.sIx its.length 0 lo)).toArray:=by
 obtain⟨h1,h2,h3⟩:=z60 lo hi its.toArray.size
 unfold slicePick
 rw[h1,h2,h3]
 erw[sliceRange_one,pick_run,l9]<;>rfl
noncomputable def zjo(K:W.Frag):V->Option Int->Option Int->Hp->VK->Prop:=fun x lo hi H Q=> ∃a xs,x= .ref a/\SqL K H a xs/\∀p,H p=none->Q (.ref p) (upd H p (.lst (z6J xs lo hi)))
theorem zdC:SlR X (zjo X.K):=by
 intro pins s σ H x v vl vu lo hi sl Q I rx hs pl pu h
 obtain⟨a,xs,rfl,hx,q⟩:=h
 cases rx
 obtain⟨its,r,ht,hz⟩:=I.list hx
 have hlen:=r.length
 refine⟨"list",_,slot_list_getitem.lookup,ht.isList.typeIs, ?_⟩
 refine wpAny_getItem_list_slice ht.isList hs pl pu .none (by simp) ?_ (by rw[l9]<;>lia)
 rw[z4P,<-hlen]
 refine⟨.ref s.heap.objs.size,_,I.laid (t':=s.toks) (o:= .lst (z6J xs lo hi)) (fun b ob q=>Heap.get?_push_of_some _ q) (c9 _) ?_,rfl,q _ (I.hok.fresh (c9 _))⟩
 exact⟨t8 (z3y xs lo hi) hz,_,0,(r.drop (HT.sIx xs.length 0 lo)).take (HT.sIx xs.length xs.length hi -HT.sIx xs.length 0 lo),Heap.get?_push_size _ rfl⟩
theorem z38:CallR X (.builtin "len") (fun xs H Q=> ∃p ys,xs=[.ref p]/\(SqL X.K H p ys\/SqT X.K H p ys)/\Q (.int ys.length) H):=by
 intro pins s σ H xs us Q I r h
 obtain⟨p,ys,rfl,hq,q⟩:=h
 obtain⟨u,rfl,rx⟩:=z1N r
 cases rx
 have hn:=z4r
 rcases hq with hq|hq
 ·obtain⟨its,r',pl,hz⟩:=I.list hq
  have hlen:=r'.length
  exact Calls.call_len_list pl.isList (by erw[l9]<;>lia) ⟨.int ys.length,H,I.tok _,⟨s.toks+1,by rw[l9,hlen]⟩,q⟩
 ·obtain⟨its,r',pl,hz⟩:=I.tuple hq
  have hlen:=r'.length
  exact len_tuple pl (by erw[l9]<;>lia) ⟨.int ys.length,H,I.tok _,⟨s.toks+1,by rw[l9,hlen]⟩,q⟩
theorem z61:CallR X (.builtin "len") (fun xs H Q=> ∃z,xs=[.str z]/\z.length<=sizeLine/\Q (.int z.length) H):=by
 intro pins s σ H xs us Q I r h
 obtain⟨z,rfl,hz,q⟩:=h
 obtain⟨u,rfl,t,rfl⟩:=z1N r
 have hn:=z4r
 exact len_str (by lia) ⟨.int z.length,H,I.tok _,⟨_,rfl⟩,q⟩
theorem CallR.or{f:Value}{r r':List V->Hp->VK->Prop}(h:CallR X f r)(h':CallR X f r'):CallR X f (fun xs H Q=>r xs H Q\/r' xs H Q):=by
 intro pins s σ H xs us Q I rs q
 rcases q with q|q
 ·exact h pins s σ H xs us Q I rs q
 ·exact h' pins s σ H xs us Q I rs q
theorem z62:CallR X (.type "list") (fun xs H Q=> ∃p ys,xs=[.ref p]/\(SqL X.K H p ys\/SqT X.K H p ys)/\∀l,H l=none->Q (.ref l) (upd H l (.lst ys))):=by
 intro pins s σ H xs us Q I r h
 obtain⟨p,ys,rfl,hq,q⟩:=h
 obtain⟨u,rfl,rx⟩:=z1N r
 cases rx
 have fin: ∀(its:List Value),j4 ys its->ys.length<=sizeLine->∀(h':Heap) (c':Nat),(∀b o',s.heap.get? b=some o'->h'.get? b=some o')->
  h'.get? s.heap.objs.size=some {cls:= .type "list",dict:=none,data:= .seq its.toArray c',slots:= #[]}->EP X pins σ Q (.ref s.heap.objs.size) {s with heap:=h'}:=fun its r' hz h' c' kp e=>
  ⟨.ref s.heap.objs.size,_,I.laid (t':=s.toks) kp (c9 _) (show z1d X.prog X.w _ h' _ (.lst ys) from⟨hz,its,c',r',e⟩),rfl,q _ (I.hok.fresh (c9 _))⟩
 rcases hq with hq|hq
 ·obtain⟨its,r',pl,hz⟩:=I.list hq
  have hlen:=r'.length
  obtain⟨o,ho,hc,n,hd⟩:=pl.isList
  exact call_list_seq p (.inl rfl) ho hc hd (fun h' c' kp e=>fin its r' hz h' c' kp e) (by erw[l9]<;>lia)
 ·obtain⟨its,r',pl,hz⟩:=I.tuple hq
  have hlen:=r'.length
  obtain⟨o,ho,hc,n,hd⟩:=pl
  exact call_list_seq p (.inr rfl) ho hc hd (fun h' c' kp e=>fin its r' hz h' c' kp e) (by erw[l9]<;>lia)
theorem z4Q:CallR X (.type "tuple") (fun xs H Q=> ∃p ys,xs=[.ref p]/\((SqL X.K H p ys/\∀l,H l=none->Q (.ref l) (upd H l (.tup ys)))\/(SqT X.K H p ys/\Q (.ref p) H))):=by
 intro pins s σ H xs us Q I r h
 obtain⟨p,ys,rfl,h⟩:=h
 obtain⟨u,rfl,rx⟩:=z1N r
 cases rx
 rcases h with⟨hq,q⟩|⟨hq,q⟩
 ·obtain⟨its,r',pl,hz⟩:=I.list hq
  have hlen:=r'.length
  refine call_tuple_list pl.isList (fun h' kp=> ?_) (by erw[l9]<;>lia)
  have I1:Inv X pins σ H {s with heap:=h'}:=I.kept (t':=s.toks) kp
  have I2:Inv X pins σ (upd H h'.objs.size (.tup ys)) {s with heap:=h'.push {cls:= .type "tuple",data:= .seq its.toArray}}:=
   I1.laid (t':=s.toks) (fun b o e=>Heap.get?_push_of_some _ e) (c9 _) (show z1d X.prog X.w _ _ _ (.tup ys) from⟨hz,its,r',IsTup.new _ _⟩)
  exact⟨.ref h'.objs.size,_,I2,rfl,q _ (I1.hok.fresh (c9 _))⟩
 ·obtain⟨its,r',pl,hz⟩:=I.tuple hq
  exact call_tuple_same pl ⟨.ref p,H,I,rfl,q⟩
noncomputable def tyV(K:W.Frag)(T:String)(x:V)(H:Hp):Prop:=match x with
 | .str _=>T= "str"
 | .int _=>T= "int"
 | .ref p=>(T= "list" /\∃xs,SqL K H p xs)\/(T= "tuple" /\∃o,K.lookup p=some o/\o.cls= .type "tuple" /\o.dict=none)\/
  (T= "dict" /\((∃kvs,H p=some (.dK kvs))\/∃kvs,H p=some (.dT kvs)))\/(T= "set" /\∃S n,H p=some (.set S n))
 |_=>False
theorem zfJ{pins:List (Addr×Obj)}{σ:St}{H:Hp}{s:Shared}{T:String}{x:V}{v:Value}(I:Inv X pins σ H s)(r:RelV x v)(ty:tyV X.K T x H):
 s.TypeIs v T/\∀a,v= .ref a->∃ob,s.heap.get? a=some ob/\ob.dict=none:=by
 cases x with
 |str z=>
  obtain⟨t,rfl⟩:=r
  cases(show T= "str" from ty)
  exact⟨typeIs_str s z t,fun _ e=>nomatch e⟩
 |int i=>
  obtain⟨t,rfl⟩:=r
  cases(show T= "int" from ty)
  exact⟨typeIs_int s i t,fun _ e=>nomatch e⟩
 |ref p=>
  cases r
  rcases ty with⟨rfl,xs,hq⟩|⟨rfl,o,hk,hc,hd⟩|⟨rfl,hk⟩|⟨rfl,S,n,hk⟩
  ·obtain⟨its,_,pl,_⟩:=I.list hq
   refine⟨pl.isList.typeIs,fun a e=> ?_⟩
   cases e
   obtain⟨o,n,e,c,hd,_⟩:=pl
   exact⟨o,e,hd⟩
  ·refine⟨⟨o,I.kIn p o hk,hc⟩,fun a e=> ?_⟩
   cases e
   exact⟨o,I.kIn _ o hk,hd⟩
  ·have z: ∃o,s.heap.get? p=some o/\o.ExactDict:=by
    rcases hk with⟨kvs,hk⟩|⟨kvs,hk⟩
    ·obtain⟨_,_,_,_,o,_,_,e,ex,_⟩:=I.hok p _ hk
     exact⟨o,e,ex⟩
    ·obtain⟨_,_,_,_,o,_,_,e,ex,_⟩:=I.hok p _ hk
     exact⟨o,e,ex⟩
   obtain⟨o,e,ex⟩:=z
   refine⟨⟨o,e,ex.1⟩,fun a e2=> ?_⟩
   cases e2
   exact⟨o,e,ex.2.1⟩
  ·obtain⟨o,_,_,_,e,ex,_⟩:=I.hok p _ hk
   refine⟨⟨o,e,ex.1⟩,fun a e2=> ?_⟩
   cases e2
   exact⟨o,e,ex.2.1⟩
 |_=>exact False.elim ty
noncomputable def tBM(K:W.Frag)(T:String)(r:V->List V->Hp->VK->Prop)(to:TE)(t:TA):TE:=fun σ H Q=>to σ H fun x H1=>tyV K T x H1/\t σ H1 fun xs H2=>r x xs H2 Q
variable{o e:Expr}{es:List Expr}{to:TE}{t:TA}{name:Str}{apos cpos:Pos}{T id:String}{r:V->List V->Hp->VK->Prop}
theorem zfK(pa:PlainAttrs T)(slot:Slot T name id)(hty:typeOf (.builtin id)=pure (.type "method_descriptor"))(hm:MtR X id r)(ho:PE X o to)(ha:PA X (e::es) t)
 (hbase:attributeBase o name X.env (eval o X.env)=eval o X.env:=by rfl)
 (hfew:((backTo cpos (starEach (e::es) X.env)).all (fun x=> !x.1)&&(backToKw cpos (keywordEach [] X.env)).all (fun x=>x.1.isSome)
  &&decide ((e::es).length+([]:List Keyword).length+(if([]:List Keyword).isEmpty then 0 else 1)<30))=true:=by rfl)
 (hline:(apos.endLine==cpos.line)=true:=by rfl) (hs:starEach (e::es) X.env=(false,eval e X.env)::starEach es X.env:=by rfl) (hplain:(backTo cpos (starEach es X.env)).any (·.1)=false:=by rfl):
 PE X (.Call (.Attribute o name apos) (e::es) [] cpos) (tBM X.K T r to t):=by
 intro pins s σ H Q I h
 refine wpAny_Call_method_late hbase hfew hline rfl (thn (ho pins s σ H _ I h) fun v s1 ⟨x,H1,I1,r1,ty,q1⟩=> ?_)
 obtain⟨h1,h2⟩:=zfJ I1 r1 ty
 refine⟨T,id,pa,slot,hty,h1,h2, ?_⟩
 have hA:=ha cpos pins s1 σ H1 _ I1 q1
 rw[hs] at hA⊢
 refine Calls.callWith_builtin (by show(false||(backTo cpos (starEach es X.env)).any (·.1))=false;rw[hplain]<;>rfl) (Calls.evalArgs_plain ?_)
 exact thn hA fun us s2 ⟨vs,H2,I2,r2,q2⟩=>hm pins s2 σ H2 x vs v us Q I2 r1 r2 q2
end
noncomputable def MtM(X:Cx)(id:String)(r:V->List V->Hp->VK->Prop):Prop:=
 ∀(pins:List (Addr×Obj)) (s:Shared) (σ:St) (H:Hp) (x:V) (xs:List V) (v:Value) (us:List Value) (Q:VK),Inv X pins σ H s->RelV x v->j4 xs us->r x xs H Q->
  wpAny (model X.prog X.w) X.A (call (.builtin id) (v::us)) (EP X pins σ Q) X.xe s
theorem j4.one: ∀{x:V} {us:List Value},j4 [x] us->∃u,us=[u]/\RelV x u
 |_,_, .cons r .nil=>⟨_,rfl,r⟩
theorem j4.rep{xs:List V}{us:List Value}(h:j4 xs us): ∀k:Nat,j4 (l7 k xs).flatten (l7 k us).flatten
 |0=> .nil
 |k+1=>by
  rw[B6,B6,D5,D5]
  exact j4.append h (j4.rep h k)
theorem z3z(its:List Value): ∀(k:Nat) (acc:List Value),
 N7 (fun x1 x2=>x1++x2) acc.toArray (l7 k its.toArray)=(acc++(l7 k its).flatten).toArray
 |0,acc=>by simp
 |k+1,acc=>by
  have e:acc.toArray++its.toArray=(acc++its).toArray:=by simp
  have e2:(acc++its)++(l7 k its).flatten=acc++(l7 (k+1) its).flatten:=by
   rw[B6,D5,t5]
  rw[<-e2,<-z3z its k (acc++its),<-e,B6,List.foldl_cons]
section
variable{X:Cx}{pins:List (Addr×Obj)}{σ:St}{H:Hp}{s:Shared}{l b:Addr}{xs ys zs:List V}
theorem Inv.lset{its its':List Value}{n:Nat}{f:Array Value->Array Value}{t':Nat}(I:Inv X pins σ H s)(hH:H l=some (.lst xs))
 (e:s.heap.get? l=some {cls:= .type "list",data:= .seq its.toArray n}) (hf:f its.toArray=its'.toArray) (hv:j4 ys its') (hz:ys.length<=sizeLine):
 Inv X pins σ (upd H l (.lst ys)) {s with heap:=s.heap.update l (Obj.mapSeq f),toks:=t'}:=by
 have q:=PySem.IsL.update e f
 rw[hf] at q
 refine I.write (x:=l) (e:=l) (by rw[hH];exact trivial) (.inl rfl) (fun b' u hb hu=>(Heap.get?_update_other s.heap (Obj.mapSeq f) (Ne.symm hb)).trans hu) ⟨_,q⟩ ?_
 exact⟨hz,its',_,hv,q⟩
theorem Inv.lnew{its:List Value}{t':Nat}(I:Inv X pins σ H s)(hv:j4 ys its)(hz:ys.length<=sizeLine):
 Inv X pins σ (upd H s.heap.objs.size (.lst ys)) {s with heap:=s.heap.push {cls:= .type "list",data:= .seq its.toArray},toks:=t'}:=
 I.laid (fun _ _ q=>Heap.get?_push_of_some _ q) (c9 _) ⟨hz,its,0,hv,Heap.get?_push_size _ rfl⟩
theorem Inv.fresh(I:Inv X pins σ H s):H s.heap.objs.size=none:=I.hok.fresh (c9 _)
theorem Inv.lstM(I:Inv X pins σ H s)(hH:H l=some (.lst xs)):xs.length<=sizeLine/\∃(its:List Value) (n:Nat),j4 xs its/\xs.length=its.length/\s.heap.get? l=some {cls:= .type "list",data:= .seq its.toArray n}:=by
 obtain⟨z,its,n,r,e⟩:=I.hok l _ hH
 exact⟨z,its,n,r,r.length,e⟩
theorem z7x{n:Nat}(h:n<=sizeLine):Builtin.List.listTooLong n=false:=by
 unfold Builtin.List.listTooLong
 exact decide_eq_false (by lia)
end
section
variable{X:Cx}
noncomputable def z9g:V->List V->Hp->VK->Prop:=fun x vs H Q=> ∃l xs y,x= .ref l/\vs=[y]/\H l=some (.lst xs)/\xs.length<sizeLine/\Q .non (upd H l (.lst (xs++[y])))
theorem z3A:MtM X "list.append" z9g:=by
 intro pins s σ H x vs v us Q I rx rv h
 obtain⟨l,xs,y,rfl,rfl,hH,hz,q⟩:=h
 cases rx
 obtain⟨u,rfl,ru⟩:=rv.one
 obtain⟨z,its,n,r,hl,e⟩:=I.lstM hH
 refine call_meets F.slot_list_append ⟨_,e,rfl⟩ F.entry_list_append (F.args_list_append_2 _ _) (PySem.list_append l its.toArray n u (by rw[l9];lia)) ⟨e, ?_⟩
 refine⟨.non,_,I.lset (its':=its++[u]) hH e (by simp) (r.append (.cons ru .nil)) ?_,rfl,q⟩
 rw[l8,R3]
 lia
noncomputable def zfL:R2:=fun x y H Q=> ∃l b xs zs,x= .ref l/\y= .ref b/\H l=some (.lst xs)/\H b=some (.lst zs)/\xs.length+zs.length<=sizeLine/\∀p,H p=none->Q (.ref p) (upd H p (.lst (xs++zs)))
theorem zcs:OpR X (binaryOp .Add) zfL:=by
 intro pins s σ H x y v u Q I rx ry h
 obtain⟨l,b,xs,zs,rfl,rfl,hH,hB,hz,q⟩:=h
 cases rx
 cases ry
 obtain⟨z,its,n,r,hl,e⟩:=I.lstM hH
 obtain⟨z2,its2,n2,r2,hl2,e2⟩:=I.lstM hB
 refine PySem.P.add_list e e2 ?_ (by rw[l9,l9];lia)
 have ea:its.toArray++its2.toArray=(its++its2).toArray:=by simp
 rw[ea]
 exact⟨.ref _,_,I.lnew (t':=s.toks) (r.append r2) (by rw[l8];lia),rfl,q _ I.fresh⟩
noncomputable def zjp:R2:=fun x y H Q=> ∃l k xs,x= .ref l/\y= .int k/\H l=some (.lst xs)/\-(2^63)<=k/\k<2^63/\xs.length*k.toNat<=sizeLine/\
 ∀p,H p=none->Q (.ref p) (upd H p (.lst (l7 k.toNat xs).flatten))
theorem z6K{α:Type}(xs:List α)(k:Nat):(l7 k xs).flatten.length=k*xs.length:=by
 induction k with
 |zero=>simp
 |succ k ih=>rw[B6,D5,l8,ih,Nat.succ_mul,P6]
theorem zfM:OpR X (binaryOp .Mult) zjp:=by
 intro pins s σ H x y v u Q I rx ry h
 obtain⟨l,k,xs,rfl,rfl,hH,h1,h2,hz,q⟩:=h
 cases rx
 obtain⟨t,rfl⟩:=ry
 obtain⟨z,its,n,r,hl,e⟩:=I.lstM hH
 have hlen:its.toArray.size*k.toNat<=sizeLine:=by rw[l9,<-hl];exact hz
 have hcap: ¬its.toArray.size*k.toNat>(2^63 - 1)/8:=by
  have:(sizeLine:Nat)<=(2^63 - 1)/8:=by decide
  lia
 have hfit: ¬(!Builtin.List.listFitsIndex k)=true:=by
  rw[fitsIndex_both h1 h2]
  exact r6
 have hlong: ¬Builtin.List.listTooLong (its.toArray.size*k.toNat)=true:=by
  rw[z7x hlen]
  exact r6
 have hnew:N7 (fun x1 x2=>x1++x2) #[] (l7 (if its.toArray.isEmpty=true then 0 else k.toNat) its.toArray)=(l7 k.toNat its).flatten.toArray:=by
  have f0: ∀m:Nat,N7 (fun x1 x2=>x1++x2) #[] (l7 m its.toArray)=(l7 m its).flatten.toArray:=fun m=>by
   have:=z3z its m []
   rw[n5] at this
   exact this
  rw[f0]
  cases its with
  |nil=>simp
  |cons a r'=>rw[if_neg (by simp)]
 refine wpAny_binaryOp_repeat_ref (T:= "list") (U:= "int") (by decide) ⟨_,e,rfl⟩ (fun s'=>typeIs_int s' k t) noFill_list_mul F.fills_int_mul F.slot_int_rmul repeat_list F.slot_int_index.lookup
  (call_meets F.slot_int_rmul (typeIs_int s k t) F.entry_int_rmul (F.args_int_rmul_2 _ _) (int___rmul___int_list k t l its.toArray n)
   ⟨e,rfl,⟨_,e,rfl⟩,call_meets F.slot_list_mul ⟨_,e,rfl⟩ F.entry_list_mul (F.args_list_mul_2 _ _) (AutoListH.list___mul___list_int_3 l its.toArray n k t hfit hcap hlong) ⟨e, ?_⟩⟩)
 rw[hnew]
 exact⟨.ref _,_,I.lnew (t':=s.toks) (r.rep k.toNat) (by rw[z6K,S0];exact hz),rfl,q _ I.fresh⟩
end
section
variable{prog:Program}{w:World}{A:Around}{E:Value->Shared->Prop}{s:Shared}
set_option maxRecDepth 100000 in
end
structure M1(X:Cx)(o:Expr)(m:Str)(apos:Pos)(e:Expr)(cpos:Pos):Prop where
 base:attributeBase o m X.env (eval o X.env)=eval o X.env
 few:((backTo cpos (starEach [e] X.env)).all (fun x=> !x.1)&&(backToKw cpos (keywordEach [] X.env)).all (fun x=>x.1.isSome)
  &&decide (([e]:List Expr).length+([]:List Keyword).length+(if([]:List Keyword).isEmpty then 0 else 1)<30))=true
 line:(apos.endLine==cpos.line)=true
 trees:backTo cpos (starEach [e] X.env)=[(false,eval e X.env)]
structure M2(X:Cx)(o:Expr)(m:Str)(apos:Pos)(e f:Expr)(cpos:Pos):Prop where
 base:attributeBase o m X.env (eval o X.env)=eval o X.env
 few:((backTo cpos (starEach [e,f] X.env)).all (fun x=> !x.1)&&(backToKw cpos (keywordEach [] X.env)).all (fun x=>x.1.isSome)
  &&decide (([e,f]:List Expr).length+([]:List Keyword).length+(if([]:List Keyword).isEmpty then 0 else 1)<30))=true
 line:(apos.endLine==cpos.line)=true
 trees:backTo cpos (starEach [e,f] X.env)=[(false,eval e X.env),(false,eval f X.env)]
end L2
namespace Att
open PySem PySem.W PySem.Calls PyProof.Rows
theorem z3B{P:Params}{h:Heap}: ∀(ns:List Int) (vs:List Value),WellAll P h vs (ns.map WData.int)->IntsAre vs ns:=by
 intro ns
 induction ns with
 |nil=>
  intro vs w
  rw[t7] at w
  cases w
  exact .nil
 |cons n ns ih=>
  intro vs w
  rw[l6] at w
  cases w with
  |cons a b=>
   cases a
   exact .cons _ _ (ih _ b)
theorem z9h{l:OpenLaw}{n:Nat}(hn:l.most=some n){P:Params}{h:Heap}{args:List WData}{vals:List Value}
 (hpre:l.row.toRowW.claim.pre args=true) (hwl:WellAll P h vals args):
 ∃a vs ns,vals=[Value.ref a]/\args=[WData.list (ns.map WData.int)]/\h.get? a=some {cls:= .type "list",data:= .seq vs.toArray}/\IntsAre vs ns/\ns.length<=n:=by
 have hsh:WShape.hasAll [] args [.list .int]=true:=(pre_splitW hpre).1
 have hc:l.pre.holds [] {args:=args}=true:=(pre_splitW hpre).2
 obtain⟨d,r,rfl,h1,h2⟩:=hasAllW_cons hsh
 obtain rfl:=hasAllW_nil h2
 obtain⟨xs,rfl,h3⟩:=hasW_list h1
 obtain⟨ns,rfl⟩:=items_int h3
 have hlen:ns.length<=n:=by
  unfold OpenLaw.pre at hc
  have h4:(WTm.not (.lt (.lit (.int (n:Int))) (.len (.arg 0)))).holds [] {args:=[.list (ns.map .int)]}=true:=by
   have h4:=(holds_andW hc).1
   rw[hn] at h4
   exact h4
  have h5:=condW_of h4 (w_not (w_lt w_lit (w_len_list (w_arg rfl))))
  rw[m7] at h5
  refine F9 fun q=> ?_
  have q':(n:Int)<((ns.length:Nat):Int):=by lia
  first
   |(rw[decide_eq_true q'] at h5;exact absurd h5 (by decide))
   |(simp at h5;lia)
 cases hwl with
 |cons w1 w2=>
  cases w2
  cases w1 with
  |list ho hall=>exact⟨_,_,ns,rfl,rfl,ho,z3B ns _ hall,hlen⟩
theorem z9i(l:OpenLaw)(args:List WData):l.row.toRowW.claim.post args (.bool true) args=true:=
 postW_of (r:=l.row.toRowW) (X:=(true==true))
  (show WShape.has [] (.bool true) .bool=true by first|rfl|decide|simp[WShape.has,WShape.arms,WShape.armsAll])
  (show(WTm.eq .res (.lit (.bool true))).value [] {args:=args,res:=some (.bool true),after:=args}=some (.bool (true==true)) from w_eq_bool (w_res rfl) w_lit) rfl
theorem attach_call{l:OpenLaw}{n:Nat}{q:Program}{loose:List Str}{XP:(Str->Option Value)->Heap->Prop}{YP:World->Heap->Prop}{d:DefRec}
 (hn:l.most=some n) (hdf:d.params.defaults=[])
 (call: ∀(w:World) (s₀ s₁:Shared) (mg mb:Str->Option Value) (fa:Addr) (o:Obj) (pm cd doc:Value) (a:Addr) (vs:List Value) (ns:List Int),
  Ground q loose [] XP w s₀ mg mb s₁.heap->YP w s₁.heap->
  s₁.heap.get? fa=some o->o.data= .func (docDef d.name d.params d.body d.scope pm cd doc)->s₁.heap.CodeRec cd d.name->mg d.name=some (.ref fa)->
  s₁.heap.get? a=some {cls:= .type "list",data:= .seq vs.toArray}->IntsAre vs ns->ns.length<=n->s₁.gens= #[]->
  codeAny (model l.prog w) callerA (.call (.ref fa) ⟨[.ref a],[]⟩) (fun r s'=>r= .ok (.ret (.bool true))/\OldK s₁.heap s'.heap/\s'.os=s₁.os/\AllBare s'.gens) s₁):
 WalkO q loose XP YP l.row.toRowW d [] (fun f vs=>PySem.call f vs):=by
 intro w s₀ s₁ mg mb G Y fa o pm cd doc dV kV ho hd hcd hD hmg hg args vals as hpre hlay hrd hwl hlo
 obtain rfl:dV= .none:=Dflts.none hD hdf
 obtain rfl:kV= .none:=Dflts.noKw hD
 obtain⟨a,vs,ns,rfl,rfl,hobj,hints,hlen⟩:=z9h hn hpre hwl
 refine enter_call (codeAny_mono (call w s₀ s₁ mg mb fa o pm cd doc a vs ns G Y ho (fd_plain hd) hcd hmg hobj hints hlen hg) fun r s' hq=> ?_)
 obtain⟨rfl,h2,h3,h4⟩:=hq
 exact⟨.inl ⟨.bool true, .bool true,[],rfl,fun _=>rfl, .bool true,z9i l _,fun _=>⟨List.Pairwise.nil,fun _ hm=>(nomatch hm)⟩⟩,h2,h3,h4⟩
end Att
namespace L2
open PySem PySem.Spec PyProof.Rows
theorem z63: ∀{vs:List Value} {ns:List Int},IntsAre vs ns->j4 (ns.map V.int) vs
 |_,_, .nil=> .nil
 |_,_, .cons n t h=> .cons ⟨t,rfl⟩ (z63 h)
noncomputable def ziO(H:Hp):Prop:= ∀b,H b=none\/∃o xs,H b=some (.frz o (.lst xs))
theorem zbj{P:Program}{w:World}{K:W.Frag}{mg mb:Str->Option Value}{CX:CXT}{k:Nat}{fa a:Addr}{fd:FuncData}{x:Str}{sp:Sp}{s₁:Shared}{vs:List Value}{ns:List Int}
 (KX:K.In s₁.heap) (hns:s₁.heap.Ns mainGlobals mg) (hb:s₁.heap.Ns builtinsNs mb) (hbb: ∀x:Str,x≠ "__name__" ->mb x=bootBuiltins x) (hlim:s₁.heap.NoLimit) (hg:s₁.gens= #[])
 (ha:s₁.heap.get? a=some {cls:= .type "list",data:= .seq vs.toArray}) (hi:IntsAre vs ns) (hl:ns.length<=sizeLine) (hr:z2q k callerA)
 (F: ∀base:Heap,K.In base->base.Ns mainGlobals mg->u2 P w K mg base CX k fa fd [x] sp) (hbind: ∀(s:Shared) (u:Value),BindsTo s fd ⟨[u],[]⟩ [(x,u)])
 (hsp: ∀H:Hp,ziO H->SqL K H a (ns.map V.int)->sp [.ref a] H (fun v _=>v= .bl true) fun _ _ _=>False)
 (hCX: ∀H e s',CX [] H s₁ (fun _ _ _=>False) e s'->False):
 codeAny (model P w) callerA (.call (.ref fa) ⟨[.ref a],[]⟩) (fun r s'=>r= .ok (.ret (.bool true))/\OldK s₁.heap s'.heap/\s'.os=s₁.os/\AllBare s'.gens) s₁:=by
 have rv:=z63 hi
 have lenV:=hi.length
 have core: ∀H:Hp,ziO H->SqL K H a (ns.map V.int)->HOk P w H s₁.heap->(∀b,H b≠none->b=a)->(H a≠none->K.lookup a=none)->
  codeAny (model P w) callerA (.call (.ref fa) ⟨[.ref a],[]⟩) (fun r s'=>r= .ok (.ret (.bool true))/\OldK s₁.heap s'.heap/\s'.os=s₁.os/\AllBare s'.gens) s₁:=by
  intro H hO hS hok hA hK
  have base_of: ∀{b:Addr} {o:Obj},s₁.heap.get? b=some o->H b=none->(zb7 s₁.heap H).get? b=some o:=fun e n=>zb8 e n
  have noA: ∀{b:Addr} {o:Obj} {es:Array DictEntry} {ep:Nat},s₁.heap.get? b=some o->o.data= .dict es ep->H b=none:=fun{b o es ep} e d=>by
   cases q:H b with
   |none=>rfl
   |some u=>
    have e':b=a:=hA b (by rw[q];simp)
    subst e'
    rw[ha] at e;cases e
    have d':Data.seq vs.toArray _=Data.dict es ep:=d
    cases d'
  have nsK: ∀{b:Addr} {m:Str->Option Value},s₁.heap.Ns b m->(zb7 s₁.heap H).Ns b m:=fun{b m} ⟨o,es,ep,e,d,r⟩=>⟨o,es,ep,base_of e (noA e d),d,r⟩
  have hKb:K.In (zb7 s₁.heap H):=fun b o e=>base_of (KX b o e) (by
   cases q:H b with
   |none=>rfl
   |some u=>
    have e':b=a:=hA b (by rw[q];simp)
    subst e'
    rw[hK (by rw[q];simp)] at e;cases e)
  have hM:Mod K mg (zb7 s₁.heap H):=⟨hKb,nsK hns,⟨mb,nsK hb,hbb⟩,let⟨mc,h1,h2⟩:=hlim;⟨mc,nsK h1,h2⟩⟩
  have e0:zfD P w K mg (zb7 s₁.heap H) callerA [] s₁ H:=⟨rfl,hM,fun b o e=>zdl e,Nat.le_of_eq (z8Y _ _),trivial,fun b hb=>absurd (show b∈([]:List Addr) from hb) (by simp),hok, .of_eq hg⟩
  refine codeAny_mono ((F _ hKb (nsK hns)).run callerA [] s₁ H ⟨[.ref a],[]⟩ [.ref a] [.ref a] _ _ hr e0 (hbind s₁ (.ref a)) (.cons rfl .nil) (hsp H hO hS)) fun r s' h=> ?_
  cases r with
  |error e=>exact(hCX H e s' h).elim
  |ok fl=>
   cases fl with
   |next=>exact False.elim h
   |brk=>exact False.elim h
   |cont=>exact False.elim h
   |ret u=>
    obtain⟨v,H',os,bare,un,hok',r',q⟩:=h
    have q':v= .bl true:=q
    subst q'
    obtain rfl:u=Value.bool true:=r'
    refine⟨rfl,OldK.of_keep fun b o e=> ?_,os,bare⟩
    cases q:H b with
    |none=>exact un.keep b o e q (by intro z;exact absurd (show b∈([]:List Addr) from z) (by simp)) (by simp)
    |some u=>
     rcases hO b with z|⟨ob,xs,z⟩
     ·rw[q] at z;cases z
     ·have z2:=un.frzs b ob _ z
      obtain⟨e1,_⟩:=hok b _ z
      obtain⟨e2,_⟩:=hok' b _ z2
      rw[e] at e1;cases e1
      exact e2
 cases hk:K.lookup a with
 |some o=>
  have e:=KX a o hk
  rw[ha] at e
  cases e
  refine core (fun _=>none) (fun _=> .inl rfl) (.inr ⟨_,vs.toArray,_,hk,rfl,rfl,rfl,by rw[l9,lenV];exact hl,by simpa using rv⟩) (fun b u z=>by have z':(none:Option HO)=some u:=z;cases z') (fun b z=>absurd rfl z) fun z=>absurd rfl z
 |none=>
  refine core (fun b=>if b=a then some (.frz {cls:= .type "list",data:= .seq vs.toArray} (.lst (ns.map V.int))) else none) (fun b=> ?_) (.inl (.inr ⟨{cls:= .type "list",data:= .seq vs.toArray},if_pos rfl⟩)) (fun b u z=> ?_) (fun b z=> ?_) fun _=>hk
  ·by_cases hb:b=a
   ·exact .inr ⟨_,_,if_pos hb⟩
   ·exact .inl (if_neg hb)
  ·by_cases hb:b=a
   ·have z':=(if_pos hb).symm.trans z
    cases z'
    subst hb
    exact⟨ha,by rw[m7];exact hl,vs,_,rv,ha⟩
   ·have z':=(if_neg hb).symm.trans z
    cases z'
  ·by_cases hb:b=a
   ·exact hb
   ·exact absurd (if_neg hb) z
theorem zdD{l:W.OpenLaw}{n k:Nat}{q:Program}{loose:List Str}{XP:(Str->Option Value)->Heap->Prop}{YP:World->Heap->Prop}{d:DefRec}{K:Params->W.Frag}{CX:World->CXT}{sp:World->Sp}{x:Str}
 (hn:l.most=some n) (hn2:n<=sizeLine) (hdf:d.params.defaults=[]) (hr:z2q k callerA)
 (hY: ∀(w:World) (h:Heap),YP w h->(K w.params).In h)
 (F: ∀(w:World) (mg:Str->Option Value) (fa:Addr) (h:Heap),(K w.params).In h->h.Ns mainGlobals mg->mg d.name=some (.ref fa)->
  ∃fd:FuncData,(∀(s:Shared) (u:Value),BindsTo s fd ⟨[u],[]⟩ [(x,u)])/\
   ∀base:Heap,(K w.params).In base->base.Ns mainGlobals mg->u2 l.prog w (K w.params) mg base (CX w) k fa fd [x] (sp w))
 (hsp: ∀(w:World) (H:Hp) (a:Addr) (ns:List Int),ns.length<=n->ziO H->SqL (K w.params) H a (ns.map V.int)->sp w [.ref a] H (fun v _=>v= .bl true) fun _ _ _=>False)
 (hCX: ∀(w:World) (H:Hp) (s:Shared) (e:Value) (s':Shared),CX w [] H s (fun _ _ _=>False) e s'->False):
 W.WalkO q loose XP YP l.row.toRowW d [] (fun f vs=>PySem.call f vs):=by
 refine Att.attach_call hn hdf fun w s₀ s₁ mg mb fa o pm cd doc a vs ns G Y ho hd hcd hmg hobj hints hlen hg=> ?_
 have KX:=hY w _ Y
 obtain⟨fd,hb,hF⟩:=F w mg fa _ KX G.T.g hmg
 exact zbj KX G.T.g G.T.b G.T.builtins G.T.nolimit hg hobj hints (t8 hlen hn2) hr hF hb (fun H hO hS=>hsp w H a ns hlen hO hS) fun H e s'=>hCX w H s₁ e s'
noncomputable def z25(s:Stmt):Arguments:=match s with
 | .FunctionDef _ a _ _ _ _ _ _ _ _=>a
 |_=>{posonlyargs:=[],args:=[],vararg:=none,kwonlyargs:=[],kw_defaults:=[],kwarg:=none,defaults:=[]}
noncomputable def U0(s:Stmt):List Stmt:=match s with
 | .FunctionDef _ _ b _ _ _ _ _ _ _=>b
 |_=>[]
noncomputable def y2(s:Stmt):Scope:=match s with
 | .FunctionDef _ _ _ _ _ _ sc _ _ _=>sc
 |_=>{kind:= .function,names:=[],isGenerator:=false,isCoroutine:=false}
noncomputable abbrev CX0:CXT:=fun _ _ _ _ _ _=>False
noncomputable abbrev E0:XK:=fun _ _ _=>False
theorem zjq{X:Cx}:z3x CX0 X E0:=fun _ _ _ _ _ _ _ h=>h.elim
structure Fun(K:W.Frag)(x qual:Str)(st:Stmt)(f:Addr)(fd:FuncData):Prop where
 ex: ∃(oc:Value) (od:Option Addr) (kV doc pm:Value) (an:Option Addr) (cdv ct:Value) (osl:Array (Option Value)),
  fd=W.fnOf x qual (z25 st) (U0 st) (y2 st) .none kV doc pm an cdv ct/\K.lookup f=some ⟨oc,od, .func fd,osl⟩/\W.codeIn K cdv qual=true
 kp:W.keepIn K (.ref f)=true
section
variable{P:Program}{w:World}{K:W.Frag}{mg:Str->Option Value}{base:Heap}
theorem Fun.ok{x qual:Str}{st:Stmt}{f:Addr}{fd:FuncData}{N ps:List Str}{k:Nat}{sp:Sp}(F:Fun K x qual st f fd)(S:Z3 N ps (y2 st))(len: ∀vs H Q E,sp vs H Q E->vs.length=ps.length)
 (hbody: ∀(cdv:Value) (A:Around) (outer:List Env) (s:Shared) (H:Hp) (vs:List V) (Q:VK) (E:XK),z2q k (A.deeper (envOfC qual (y2 st) s.heap.objs.size f cdv))->sp vs H Q E->
  ∃t,PSs (z37 CX0 P w K mg base N qual (y2 st) f cdv A outer s H E).nox (U0 st) t/\t {nx:=fun _ H'=>Q .non H',rt:=Q} (z5Z N vs) H):u2 P w K mg base CX0 (k+1) f fd ps sp:=by
 obtain⟨oc,od,kV,doc,pm,an,cdv,ct,osl,rfl,lk,hcd⟩:=F.ex
 refine zfF lk hcd S len fun A outer s H vs Q E hr hsp=> ?_
 obtain⟨t,h,q⟩:=hbody cdv A outer s H vs Q E hr hsp
 exact⟨t,h.nox,q⟩
theorem Fun.binds{x qual:Str}{st:Stmt}{f:Addr}{fd:FuncData}{ps:List Str}(F:Fun K x qual st f fd)
 (h: ∀(kV doc pm:Value) (an:Option Addr) (cdv ct:Value) (us:List Value),us.length=ps.length->bindArgs (W.fnOf x qual (z25 st) (U0 st) (y2 st) .none kV doc pm an cdv ct) ⟨us,[]⟩=pure (ps.zip us)):z2D K fd ps []:=by
 obtain⟨oc,od,kV,doc,pm,an,cdv,ct,osl,rfl,lk,hcd⟩:=F.ex
 exact .all (h kV doc pm an cdv ct)
theorem zfN{x qual:Str}{st:Stmt}{f:Addr}{oc:Value}{od an:Option Addr}{osl:Array (Option Value)}{kV doc pm cdv ct:Value}(l:K.lookup f=some ⟨oc,od, .func (W.fnOf x qual (z25 st) (U0 st) (y2 st) .none kV doc pm an cdv ct),osl⟩)
 (c:W.codeIn K cdv qual=true) (k:W.keepIn K (.ref f)=true):Fun K x qual st f (W.fnOf x qual (z25 st) (U0 st) (y2 st) .none kV doc pm an cdv ct):=⟨⟨oc,od,kV,doc,pm,an,cdv,ct,osl,rfl,l,c⟩,k⟩
end
section
variable{X:Cx}
theorem pv(i:Nat){x:Str}{pos:Pos}(hN:X.N[i]? =some x:=by rfl)(hv:Vis X.env.scope x:=by first|exact Or.inl rfl|exact Or.inr (Or.inl rfl)|exact Or.inr (Or.inr rfl))(hd:(x==("__debug__" :Str))=false:=by decide)
 (hcd:(x==("__classdict__" :Str))=false:=by decide):PE X (.Name x pos) (ziL i):=zfj hN hv hd hcd
end
noncomputable def z39(H H':Hp):Prop:= ∀b o,H b=some o->H' b=some o
theorem z39.refl(H:Hp):z39 H H:=fun _ _ h=>h
end L2
set_option linter.unusedSimpArgs false
set_option linter.unusedVariables false
namespace So
open PySem PySem.W PyProof.Rows PySem.SeqAt
open AutoSeq1 (wpAny_loadPart')
end So
namespace So
open PySem PySem.W PyProof.Rows PySem.SeqAt
end So
namespace L2
open PySem PySem.Spec PyProof.Rows
mutual
noncomputable def Dp(K:W.Frag)(H:Hp):PyData->V->Prop
 | .none,v=>v= .non
 | .bool b,v=>v= .bl b
 | .int i,v=>v= .int i
 | .str x,v=>v= .str x
 | .list ds,v=> ∃a xs,v= .ref a/\SqL K H a xs/\DpAll K H ds xs
 | .tuple ds,v=> ∃a xs,v= .ref a/\SqT K H a xs/\DpAll K H ds xs
 | .dict _,_=>False
noncomputable def DpAll(K:W.Frag)(H:Hp):List PyData->List V->Prop
 |[],xs=>xs=[]
 |d::ds,xs=> ∃x r,xs=x::r/\Dp K H d x/\DpAll K H ds r
end
section
variable{X:Cx}{pins:List (Addr×Obj)}{σ:St}{H:Hp}{s:Shared}
mutual
theorem Dp.reads(I:Inv X pins σ H s): ∀(d:PyData) (v:V) (u:Value),Dp X.K H d v->RelV v u->∃as,Reads s.heap u d as
 | .none,v,u,h,r=>by
  erw[Dp] at h;subst h;cases r;exact⟨_, .none⟩
 | .bool b,v,u,h,r=>by
  erw[Dp] at h;subst h;cases r;exact⟨_, .bool b⟩
 | .int i,v,u,h,r=>by
  erw[Dp] at h;subst h;obtain⟨t,rfl⟩:=r;exact⟨_, .int i t⟩
 | .str x,v,u,h,r=>by
  erw[Dp] at h;subst h;obtain⟨t,rfl⟩:=r;exact⟨_, .str x t⟩
 | .list ds,v,u,h,r=>by
  erw[Dp] at h
  obtain⟨a,xs,rfl,hs,hd⟩:=h
  cases r
  obtain⟨its,rv,⟨o,n,e,c,_,dd⟩,_⟩:=I.list hs
  obtain⟨as,ra⟩:=DpAll.reads I ds xs its hd rv
  exact⟨_, .list e c dd (by simpa using ra)⟩
 | .tuple ds,v,u,h,r=>by
  erw[Dp] at h
  obtain⟨a,xs,rfl,hs,hd⟩:=h
  cases r
  obtain⟨its,rv,⟨o,e,c,n,dd⟩,_⟩:=I.tuple hs
  obtain⟨as,ra⟩:=DpAll.reads I ds xs its hd rv
  exact⟨_, .tuple e c dd (by simpa using ra)⟩
 | .dict _,v,u,h,r=>by
  erw[Dp] at h
theorem DpAll.reads(I:Inv X pins σ H s): ∀(ds:List PyData) (vs:List V) (us:List Value),DpAll X.K H ds vs->j4 vs us->∃as,ReadsAll s.heap us ds as
 |[],vs,us,h,r=>by
  erw[DpAll] at h;subst h
  cases r
  exact⟨_, .nil⟩
 |d::ds,vs,us,h,r=>by
  erw[DpAll] at h
  obtain⟨x,q,rfl,h1,h2⟩:=h
  cases r with
  |cons r1 r2=>
   obtain⟨as,ra⟩:=Dp.reads I d _ _ h1 r1
   obtain⟨bs,rb⟩:=DpAll.reads I ds _ _ h2 r2
   exact⟨_, .cons ra rb⟩
end
noncomputable def ziP(K:W.Frag)(neg:Bool):R2:=fun x y H Q=> ∃d e,Dp K H d x/\Dp K H e y/\d.canLay0=true/\e.canLay0=true/\min d.depth e.depth<=60/\
 Q (.bl (if neg then !PyData.eqv d e else PyData.eqv d e)) H
theorem zfO(hu:X.A.units+64<cLine):OpR X (compareOp .Eq) (ziP X.K false):=by
 intro pins s σ H x y v u Q I rx ry h
 obtain⟨d,e,hx,hy,c1,c2,hd,q⟩:=h
 obtain⟨as,ra⟩:=hx.reads I _ _ _ rx
 obtain⟨bs,rb⟩:=hy.reads I _ _ _ ry
 exact SeqAt.compareEq_reads ra rb c1 c2 (by lia) ⟨.bl _,H,I,rfl,q⟩
theorem zfP(hu:X.A.units+64<cLine):OpR X (compareOp .NotEq) (ziP X.K true):=by
 intro pins s σ H x y v u Q I rx ry h
 obtain⟨d,e,hx,hy,c1,c2,hd,q⟩:=h
 obtain⟨as,ra⟩:=hx.reads I _ _ _ rx
 obtain⟨bs,rb⟩:=hy.reads I _ _ _ ry
 exact SeqAt.compareNe_reads ra rb c1 c2 (by lia) ⟨.bl _,H,I,rfl,q⟩
noncomputable def ziQ(K:W.Frag)(neg:Bool):R2:=fun x y H Q=> ∃d ds,Dp K H d x/\(Dp K H (.list ds) y\/Dp K H (.tuple ds) y)/\d.canLay0=true/\PyData.canLayAll0 ds=true/\min (PyData.depthAll ds) d.depth<=60/\
 Q (.bl (if neg then !(ds.any fun y=>PyData.eqv y d) else ds.any fun y=>PyData.eqv y d)) H
theorem zfQ(hu:X.A.units+64<cLine):OpR X (compareOp .In) (ziQ X.K false):=by
 intro pins s σ H x y v u Q I rx ry h
 obtain⟨d,ds,hx,hy,c1,c2,hd,q⟩:=h
 obtain⟨as,ra⟩:=hx.reads I _ _ _ rx
 rcases hy with hy|hy
 ·obtain⟨bs,rb⟩:=hy.reads I _ _ _ ry
  exact SeqAt.in_list_reads rb ra c2 c1 (by lia) ⟨.bl _,H,I,rfl,q⟩
 ·obtain⟨bs,rb⟩:=hy.reads I _ _ _ ry
  exact SeqAt.in_tuple_reads rb ra c2 c1 (by lia) ⟨.bl _,H,I,rfl,q⟩
theorem z9j(hu:X.A.units+64<cLine):OpR X (compareOp .NotIn) (ziQ X.K true):=by
 intro pins s σ H x y v u Q I rx ry h
 obtain⟨d,ds,hx,hy,c1,c2,hd,q⟩:=h
 obtain⟨as,ra⟩:=hx.reads I _ _ _ rx
 rcases hy with hy|hy
 ·obtain⟨bs,rb⟩:=hy.reads I _ _ _ ry
  exact SeqAt.notIn_list_reads rb ra c2 c1 (by lia) ⟨.bl _,H,I,rfl,q⟩
 ·obtain⟨bs,rb⟩:=hy.reads I _ _ _ ry
  exact SeqAt.notIn_tuple_reads rb ra c2 c1 (by lia) ⟨.bl _,H,I,rfl,q⟩
noncomputable def zlC(K:W.Frag)(H:Hp)(T:String)(r:Bool):V->Prop
 | .non=>r=false
 | .bl _=>r=(T== "int" ||T== "bool")
 | .int _=>r=(T== "int")
 | .str _=>r=(T== "str")
 | .ref a=>(∃xs,SqT K H a xs/\r=(T== "tuple"))\/(∃xs,SqL K H a xs/\r=(T== "list"))
 |_=>False
noncomputable def zm5(K:W.Frag):List V->Hp->VK->Prop:=fun xs H Q=> ∃x T r,xs=[x, .ty T]/\(T= "int" \/T= "bool" \/T= "tuple" \/T= "list" \/T= "str")/\zlC K H T r x/\Q (.bl r) H
theorem zbk:CallR X (.builtin "isinstance") (zm5 X.K):=by
 intro pins s σ H xs us Q I r h
 obtain⟨x,T,b,rfl,hT,hx,q⟩:=h
 obtain⟨u,u',rfl,ru,ru'⟩:=zdu r
 cases ru'
 have fin: ∀t,EP X pins σ Q (.bool b) {s with toks:=t}:=fun t=>⟨.bl b,H,I.tok t,rfl,q⟩
 have fin0:EP X pins σ Q (.bool b) s:=⟨.bl b,H,I,rfl,q⟩
 cases x with
 |non=>
  cases ru
  have hx:b=false:=hx
  subst hx
  rcases hT with rfl|rfl|rfl|rfl|rfl
  ·exact IsiPair.NoneType_int (fin _)
  ·exact IsiPair.NoneType_bool (fin _)
  ·exact IsiPair.NoneType_tuple (fin _)
  ·exact IsiPair.NoneType_list (fin _)
  ·exact IsiPair.NoneType_str (fin _)
 |bl k=>
  cases ru
  rcases hT with rfl|rfl|rfl|rfl|rfl
  ·have hx:b=true:=hx
   subst hx;exact IsiPair.bool_int fin0
  ·have hx:b=true:=hx
   subst hx;exact IsiPair.bool_bool fin0
  ·have hx:b=false:=hx
   subst hx;exact IsiPair.bool_tuple (fin _)
  ·have hx:b=false:=hx
   subst hx;exact IsiPair.bool_list (fin _)
  ·have hx:b=false:=hx
   subst hx;exact IsiPair.bool_str (fin _)
 |int k=>
  obtain⟨t,rfl⟩:=ru
  rcases hT with rfl|rfl|rfl|rfl|rfl
  ·have hx:b=true:=hx
   subst hx;exact IsiPair.int_int fin0
  ·have hx:b=false:=hx
   subst hx;exact IsiPair.int_bool (fin _)
  ·have hx:b=false:=hx
   subst hx;exact IsiPair.int_tuple (fin _)
  ·have hx:b=false:=hx
   subst hx;exact IsiPair.int_list (fin _)
  ·have hx:b=false:=hx
   subst hx;exact IsiPair.int_str (fin _)
 |str k=>
  obtain⟨t,rfl⟩:=ru
  rcases hT with rfl|rfl|rfl|rfl|rfl
  ·have hx:b=false:=hx
   subst hx;exact IsiPair.str_int (fin _)
  ·have hx:b=false:=hx
   subst hx;exact IsiPair.str_bool (fin _)
  ·have hx:b=false:=hx
   subst hx;exact IsiPair.str_tuple (fin _)
  ·have hx:b=false:=hx
   subst hx;exact IsiPair.str_list (fin _)
  ·have hx:b=true:=hx
   subst hx;exact IsiPair.str_str fin0
 |ref a=>
  cases ru
  rcases hx with⟨ys,hs,hb⟩|⟨ys,hs,hb⟩
  ·obtain⟨its,rv,⟨o,e,c,n,dd⟩,_⟩:=I.tuple hs
   rcases hT with rfl|rfl|rfl|rfl|rfl
   ·have hx:b=false:=hb
    subst hx;exact IsiPair.tuple_int e c (fin _)
   ·have hx:b=false:=hb
    subst hx;exact IsiPair.tuple_bool e c (fin _)
   ·have hx:b=true:=hb
    subst hx;exact IsiPair.tuple_tuple e c fin0
   ·have hx:b=false:=hb
    subst hx;exact IsiPair.tuple_list e c (fin _)
   ·have hx:b=false:=hb
    subst hx;exact IsiPair.tuple_str e c (fin _)
  ·obtain⟨its,rv,⟨o,n,e,c,_,dd⟩,_⟩:=I.list hs
   rcases hT with rfl|rfl|rfl|rfl|rfl
   ·have hx:b=false:=hb
    subst hx;exact IsiPair.list_int e c (fin _)
   ·have hx:b=false:=hb
    subst hx;exact IsiPair.list_bool e c (fin _)
   ·have hx:b=false:=hb
    subst hx;exact IsiPair.list_tuple e c (fin _)
   ·have hx:b=true:=hb
    subst hx;exact IsiPair.list_list e c fin0
   ·have hx:b=false:=hb
    subst hx;exact IsiPair.list_str e c (fin _)
 |byt _=>exact hx.elim
 |flt _=>exact hx.elim
 |ty _=>exact hx.elim
theorem z3C: ∀{bs:List Bool} {us:List Value},j4 (bs.map V.bl) us->LSm.BoolsAre us bs
 |[],_, .nil=> .nil
 |b::bs,_, .cons r t=>by
  cases r
  exact .cons b (z3C t)
theorem z9k(hc:X.A.handled=none):CallR X (.builtin "all") (fun xs H Q=> ∃(p:Addr) (bs:List Bool),xs=[.ref p]/\SqL X.K H p (bs.map V.bl)/\Q (.bl (bs.all id)) H):=by
 intro pins s σ H xs us Q I r h
 obtain⟨p,bs,rfl,hs,q⟩:=h
 obtain⟨u,rfl,ru⟩:=z1N r
 cases ru
 obtain⟨its,rv,pl,_⟩:=I.list hs
 have hb:=z3C rv
 have hl:=pl.isList
 have hlt:p<s.heap.objs.size:=by obtain⟨_,e,_⟩:=hl;exact Heap.lt_size e
 refine call_all_walk (wpAny_pyIter_list hl ?_)
 refine⟨s.heap.objs.size,[s.heap.objs.size,p],[s.heap.objs.size],its.toArray.size,_,_,fun i=>(bs[i]?).getD true,rfl,Walks.list (A:=X.A.in1) hc _ p (A2 hlt) its.toArray,
  ⟨⟨_,Heap.get?_push_size _ rfl,rfl,rfl⟩,hl.push _⟩,fun i v s' Q' E' hP hQ=> ?_,fun h' tk hk=> ?_⟩
 ·obtain⟨b,e,rfl⟩:=hb.get i v (by simpa using hP)
  erw[e,C5] at hQ
  exact wpAny_truthy_bool hQ
 ·have e:((N6 its.toArray.size).all fun i=>(bs[i]?).getD true)=bs.all id:=by
   rw[l9,hb.length];exact LSm.range_all bs
  rw[e]
  exact⟨.bl _,H,I.kept (LSm.kept_iter hk),rfl,q⟩
end
end L2
namespace HT
open PySem PyProof.Rows
section
variable{prog:Program}{w:World}{A:Around}{E:Value->Shared->Prop}{s:Shared}
theorem getItem_tuple_whole{t sl:Addr}{items:Array Value}{vl vu:Value}{lo hi:Option Int}{Q:Value->Shared->Prop}(ht:IsTup s.heap t items)(hs:s.heap.IsSliceOf sl vl vu .none)(pl:IsPart vl lo)(pu:IsPart vu hi)
 (hw:sIx items.size 0 lo=0/\sIx items.size items.size hi=items.size) (h:Q (.ref t) s):wpAny (model prog w) A (getItem (.ref t) (.ref sl)) Q E s:=by
 obtain⟨os,hos,hcs,hds⟩:=id hs
 have hTs:s.TypeIs (.ref sl) "slice" :=⟨os,hos,hcs⟩
 unfold getItem
 try with_reducible refine wpAny_holding ?_
 first|refine wpAny_bind (wpAny_pure ?_)|skip
 refine wpAny_bind (wpAny_sequenceKey ht.typeIs (by decide) ?_)
 refine wpAny_bind (wpAny_callSpecial?_slot (name:=Str.ofString "__getitem__") ht.typeIs PyProof.Rows.slot_tuple_getitem
  (wpAny_call_entry PyProof.Rows.slot_tuple_getitem ht.typeIs entry_tuple_getitem ?_ (args_tuple_getitem _ _)))
 show wpAny _ _ (Builtin.Tuple.tupleItemsOf (.ref t)>>=_) _ _ s
 refine wpAny_bind (tupleItemsOf_ ht ?_)
 refine wpAny_bind (wpAny_typeOf hTs ?_)
 rw[if_pos (by decide)]
 refine wpAny_bind (z0X hs pl pu ?_)
 have hyes:((((sIx items.size 0 lo:Nat):Int)==0&&(1:Int)==1&&(sIx items.size items.size hi -sIx items.size 0 lo)==items.size)=true):=by
  rw[hw.1,hw.2]
  simp
 show wpAny _ _ (if(((sIx items.size 0 lo:Nat):Int)==0&&(1:Int)==1&&(sIx items.size items.size hi -sIx items.size 0 lo)==items.size)=true then _ else _) _ _ s
 rw[if_pos hyes]
 obtain⟨o,ho,hc,n,hd⟩:=id ht
 have ex:Builtin.Tuple.tupleIsExact (.ref t)=(typeOf (.ref t)>>=fun T=>pure (T== .type "tuple")):=rfl
 refine wpAny_bind (m:=Builtin.Tuple.tupleIsExact (.ref t)) ?_
 rw[ex]
 refine wpAny_bind (wpAny_typeOf ht.typeIs (wpAny_pure ?_))
 rw[if_pos (by decide)]
 exact wpAny_bind (wpAny_rule (wpAny_pure ⟨_,rfl,wpAny_pure h⟩))
end
end HT
namespace L2
open PySem PySem.Spec PyProof.Rows
section
variable{X:Cx}
theorem z8n{xs:List V}{lo hi:Option Int}(h:HT.sIx xs.length 0 lo=0/\HT.sIx xs.length xs.length hi=xs.length):z6J xs lo hi=xs:=by
 unfold z6J
 rw[h.1,h.2]
 simp
noncomputable def zfR(K:W.Frag):V->List V->Hp->VK->Prop:=fun x vs H Q=> ∃l b xs zs,x= .ref l/\vs=[.ref b]/\H l=some (.lst xs)/\(SqT K H b zs\/SqL K H b zs)/\xs.length+zs.length<=sizeLine/\Q .non (upd H l (.lst (xs++zs)))
theorem z9l(l:Addr)(items:Array Value)(n:Nat)(b:Addr)(items2:Array Value)(n2:Nat)(dd2:Option Addr)(sl2:Array (Option Value))(hs0: ¬(!items.isEmpty&&Builtin.List.listTooLong (items.size+items2.size))=true)(hs1:items.size<=sizeLine)(hs2:items.size+items2.size<=sizeLine+1):
 Meets (Builtin.«list.extend» ⟨[.ref l, .ref b],[]⟩) (fun _ R s=>s.heap.get? l=some {cls:= .type "list",dict:=none,data:= .seq items n,slots:= #[]}/\s.heap.get? b=some {cls:= .type "tuple",dict:=dd2,data:= .seq items2 n2,slots:=sl2}/\R (.ok (.ret Value.none)) {s with heap:=s.heap.update l (Obj.mapSeq fun x=>x++items2),toks:=s.toks}):=
 .of_wp fun prog w A R s h=>by
  obtain⟨hp,g,d,tk,os⟩:=s;obtain⟨hl,hb,h⟩:=h;have f1:=AutoSeq1.idx_int;have f2:=AutoSeq1.sub_tuple_tuple;have f3:=AutoSeq1.sub_list_list;have f4:=AutoSeq1.sub_tuple_list;have f5:=AutoSeq1.sub_list_tuple
  have hz':(items++items2).size<=sizeLine+1:=by rw[Array.size_append];exact hs2
  wp_walk using(wpAny_updateSeq hl rfl (hz:=hs1) (_hz':=hz')),AutoSeq1.wpAny_loadPart' hl,AutoSeq1.wpAny_loadPart' hb;exact⟨_,rfl,h⟩
theorem z9m(l:Addr)(items:Array Value)(n:Nat)(b:Addr)(items2:Array Value)(n2:Nat)(dd2:Option Addr)(sl2:Array (Option Value))(hs0: ¬(!items.isEmpty&&Builtin.List.listTooLong (items.size+items2.size))=true)(hs1:items.size<=sizeLine)(hs2:items.size+items2.size<=sizeLine+1):
 Meets (Builtin.«list.extend» ⟨[.ref l, .ref b],[]⟩) (fun _ R s=>s.heap.get? l=some {cls:= .type "list",dict:=none,data:= .seq items n,slots:= #[]}/\s.heap.get? b=some {cls:= .type "list",dict:=dd2,data:= .seq items2 n2,slots:=sl2}/\R (.ok (.ret Value.none)) {s with heap:=s.heap.update l (Obj.mapSeq fun x=>x++items2),toks:=s.toks}):=
 .of_wp fun prog w A R s h=>by
  obtain⟨hp,g,d,tk,os⟩:=s;obtain⟨hl,hb,h⟩:=h;have f1:=AutoSeq1.idx_int;have f2:=AutoSeq1.sub_tuple_tuple;have f3:=AutoSeq1.sub_list_list;have f4:=AutoSeq1.sub_tuple_list;have f5:=AutoSeq1.sub_list_tuple
  have hz':(items++items2).size<=sizeLine+1:=by rw[Array.size_append];exact hs2
  wp_walk using(wpAny_updateSeq hl rfl (hz:=hs1) (_hz':=hz')),AutoSeq1.wpAny_loadPart' hl,AutoSeq1.wpAny_loadPart' hb;exact⟨_,rfl,h⟩
theorem zdE:MtM X "list.extend" (zfR X.K):=by
 intro pins s σ H x vs v us Q I rx rv h
 obtain⟨l,b,xs,zs,rfl,rfl,hH,hB,hz,q⟩:=h
 cases rx
 obtain⟨u,rfl,ru⟩:=rv.one
 cases ru
 obtain⟨z,its,n,r,hl,e⟩:=I.lstM hH
 have key: ∃its2:List Value,j4 zs its2/\((∃dd2 n2 sl2,s.heap.get? b=some {cls:= .type "tuple",dict:=dd2,data:= .seq its2.toArray n2,slots:=sl2})\/(∃dd2 n2 sl2,s.heap.get? b=some {cls:= .type "list",dict:=dd2,data:= .seq its2.toArray n2,slots:=sl2})):=by
  rcases hB with hB|hB
  ·obtain⟨its2,r2,⟨⟨cls,dd,data,sl⟩,e2,c,n2,d2⟩,_⟩:=I.tuple hB
   simp only at c d2
   subst c d2
   exact⟨its2,r2, .inl ⟨_,_,_,e2⟩⟩
  ·obtain⟨its2,r2,⟨⟨cls,dd,data,sl⟩,n2,e2,c,_,d2⟩,_⟩:=I.list hB
   simp only at c d2
   subst c d2
   exact⟨its2,r2, .inr ⟨_,_,_,e2⟩⟩
 obtain⟨its2,r2,k⟩:=key
 have hl2:=r2.length
 have hsz:its.toArray.size+its2.toArray.size<=sizeLine:=by rw[l9,l9];lia
 have hlong: ¬(!its.toArray.isEmpty&&Builtin.List.listTooLong (its.toArray.size+its2.toArray.size))=true:=by
  rw[z7x hsz,D9]
  exact r6
 have fin:EP X pins σ Q .none {s with heap:=s.heap.update l (Obj.mapSeq fun x=>x++its2.toArray),toks:=s.toks}:=by
  refine⟨.non,_,I.lset (its':=its++its2) hH e (by simp) (r.append r2) ?_,rfl,q⟩
  rw[l8]
  lia
 rcases k with⟨dd2,n2,sl2,e2⟩|⟨dd2,n2,sl2,e2⟩
 ·exact call_meets F.slot_list_extend ⟨_,e,rfl⟩ F.entry_list_extend (F.args_list_extend_2 _ _) (z9l l its.toArray n b its2.toArray n2 dd2 sl2 hlong (by rw[l9];lia) (by lia)) ⟨e,e2,fin⟩
 ·exact call_meets F.slot_list_extend ⟨_,e,rfl⟩ F.entry_list_extend (F.args_list_extend_2 _ _) (z9m l its.toArray n b its2.toArray n2 dd2 sl2 hlong (by rw[l9];lia) (by lia)) ⟨e,e2,fin⟩
end
noncomputable def z0m(env:Env):List (Str×NameKind)->List (Str×Addr)->List (Str×Addr)
 |[],cs=>cs
 |(n,k)::r,cs=>z0m env r (if k== .free then(match env.cells.lookup n with|some a=>(n,a)::cs|none=>cs) else cs)
theorem z7y{env:Env}: ∀(names:List (Str×NameKind)) (cs:List (Str×Addr)),(∀y∈names,y.2= .free->∃a,env.cells.lookup y.1=some a)->
 (forIn names cs fun(x:Str×NameKind) (r:List (Str×Addr))=>if(x.2==NameKind.free)=true then cellOf env x.1>>=fun a=>pure (ForInStep.yield ((x.1,a)::r)) else pure (ForInStep.yield r))=(pure (z0m env names cs):Sem _)
 |[],cs,_=>rfl
 |(n,k)::r,cs,h=>by
  have ih:=fun cs=>z7y (env:=env) r cs fun y hy=>h y (i4 _ hy)
  rw[List.forIn_cons]
  show((if(k==NameKind.free)=true then cellOf env n>>=fun a=>pure (ForInStep.yield ((n,a)::cs)) else pure (ForInStep.yield cs))>>=_)=pure (z0m env r (if k== .free then(match env.cells.lookup n with|some a=>(n,a)::cs|none=>cs) else cs))
  by_cases hk:(k==NameKind.free)=true
  ·obtain⟨a,e⟩:=h (n,k) o0 (by simpa using hk)
   have e:env.cells.lookup n=some a:=e
   rw[if_pos hk,if_pos hk,e]
   have e2:cellOf env n=pure a:=by unfold cellOf;rw[e]
   rw[e2]
   exact ih _
  ·rw[if_neg hk,if_neg hk]
   exact ih _
theorem z2s{env:Env}{scope:Scope}(h: ∀y∈scope.names,y.2= .free->∃a,env.cells.lookup y.1=some a):closureFor scope env=pure (z0m env scope.names []):=by
 have e:=z7y (env:=env) scope.names [] h
 exact congrArg (fun(m:Sem (List (Str×Addr)))=>m>>=fun cs=>pure cs) e
theorem z3o{env:Env}{x:Str}{c:Addr}: ∀(names:List (Str×NameKind)) (cs:List (Str×Addr)),(z0m env names cs).lookup x=some c->
 cs.lookup x=some c\/(env.cells.lookup x=some c/\(x,NameKind.free)∈names)
 |[],cs,h=> .inl h
 |(n,k)::r,cs,h=>by
  rcases z3o r _ h with q|⟨q,m⟩
  ·by_cases hk:(k==NameKind.free)=true
   ·rw[if_pos hk] at q
    cases e:env.cells.lookup n with
    |none=>rw[e] at q;exact .inl q
    |some a=>
     rw[e] at q
     have q:((n,a)::cs).lookup x=some c:=q
     rw[A3] at q
     by_cases hx:(x==n)=true
     ·rw[hx] at q
      have q:some a=some c:=q
      cases q
      have hx:x=n:=eq_of_beq hx
      subst hx
      have hk:k= .free:=eq_of_beq hk
      subst hk
      exact .inr ⟨e,o0⟩
     ·have hx:(x==n)=false:=by simpa using hx
      rw[hx] at q
      exact .inl q
   ·rw[if_neg hk] at q
    exact .inl q
  ·exact .inr ⟨q,i4 _ m⟩
theorem z3D{env:Env}{x:Str}: ∀(names:List (Str×NameKind)) (cs:List (Str×Addr)),(((∃c,cs.lookup x=some c))\/((x,NameKind.free)∈names/\∃c,env.cells.lookup x=some c))->
 ∃c,(z0m env names cs).lookup x=some c
 |[],cs,h=>by
  rcases h with h|⟨m,_⟩
  ·exact h
  ·cases m
 |(n,k)::r,cs,h=>by
  refine z3D r _ ?_
  rcases h with⟨c,hc⟩|⟨m,c,hc⟩
  ·left
   by_cases hk:(k==NameKind.free)=true
   ·rw[if_pos hk]
    cases e:env.cells.lookup n with
    |none=>exact⟨c,hc⟩
    |some a=>
     by_cases hx:(x==n)=true
     ·exact⟨a,by show((n,a)::cs).lookup x=some a;rw[A3,hx]⟩
     ·have hx:(x==n)=false:=by simpa using hx
      exact⟨c,by show((n,a)::cs).lookup x=some c;rw[A3,hx];exact hc⟩
   ·rw[if_neg hk]
    exact⟨c,hc⟩
  ·rcases i8.mp m with e|m
   ·left
    cases e
    rw[if_pos (by decide),hc]
    exact⟨c,by show((x,c)::cs).lookup x=some c;rw[A3,beq_self_eq_true]⟩
   ·exact .inr ⟨m,c,hc⟩
theorem k9{env:Env}: ∀{names:List (Str×NameKind)} {x:Str},names.lookup x=some .free->
 (names.map fun(n,k)=>if(k==NameKind.free&&env.scope.kind== .function&&env.kindOf n==some .cell) then(n,NameKind.cell) else(n,k)).lookup x=some .cell\/
 (names.map fun(n,k)=>if(k==NameKind.free&&env.scope.kind== .function&&env.kindOf n==some .cell) then(n,NameKind.cell) else(n,k)).lookup x=some .free
 |[],_,h=>by simp at h
 |(n,k)::r,x,h=>by
  have ih:= @k9 env r x
  rw[l6]
  show R5 x ((if(k==NameKind.free&&env.scope.kind== .function&&env.kindOf n==some .cell)=true then(n,NameKind.cell) else(n,k))::_)=_\/R5 x ((if(k==NameKind.free&&env.scope.kind== .function&&env.kindOf n==some .cell)=true then(n,NameKind.cell) else(n,k))::_)=_
  cases hx:x==n with
  |true=>
   erw[A3,hx] at h
   cases h
   by_cases hc:(NameKind.free==NameKind.free&&env.scope.kind== .function&&env.kindOf n==some .cell)=true
   ·rw[if_pos hc];left;erw[A3,hx]
   ·rw[if_neg hc];right;erw[A3,hx]
  |false=>
   erw[A3,hx] at h
   by_cases hc:(k==NameKind.free&&env.scope.kind== .function&&env.kindOf n==some .cell)=true
   ·rw[if_pos hc];erw[A3,hx];exact ih h
   ·rw[if_neg hc];erw[A3,hx];exact ih h
theorem z0n{env:Env}: ∀{names:List (Str×NameKind)} {x:Str},((names.map fun(n,k)=>if(k==NameKind.free&&env.scope.kind== .function&&env.kindOf n==some .cell) then(n,NameKind.cell) else(n,k)).lookup x=some .cell\/
 (names.map fun(n,k)=>if(k==NameKind.free&&env.scope.kind== .function&&env.kindOf n==some .cell) then(n,NameKind.cell) else(n,k)).lookup x=some .free)->names.lookup x=some .free\/names.lookup x=some .cell
 |[],_,h=>by simp at h
 |(n,k)::r,x,h=>by
  have ih:= @z0n env r x
  rw[l6] at h
  have h:R5 x ((if(k==NameKind.free&&env.scope.kind== .function&&env.kindOf n==some .cell)=true then(n,NameKind.cell) else(n,k))::_)=_\/R5 x ((if(k==NameKind.free&&env.scope.kind== .function&&env.kindOf n==some .cell)=true then(n,NameKind.cell) else(n,k))::_)=_:=h
  cases hx:x==n with
  |true=>
   erw[A3,hx]
   by_cases hc:(k==NameKind.free&&env.scope.kind== .function&&env.kindOf n==some .cell)=true
   ·have:k= .free:=by
     erw[i6,beq_iff_eq] at hc
     exact hc.1.1
    subst this
    exact .inl rfl
   ·rw[if_neg hc] at h
    erw[A3,hx] at h
    exact h.symm
  |false=>
   erw[A3,hx]
   refine ih ?_
   by_cases hc:(k==NameKind.free&&env.scope.kind== .function&&env.kindOf n==some .cell)=true
   ·rw[if_pos hc] at h;erw[A3,hx] at h;exact h
   ·rw[if_neg hc] at h;erw[A3,hx] at h;exact h
structure V7(osc sc:Scope)(own frees N:List Str)(ix:List Nat):Prop where
 kind:sc.kind= .function
 nocell: ∀y∈sc.names,y.2≠ .cell
 names: ∀y∈sc.names,y.2= .local->sc.names.lookup y.1=some .local
 fr: ∀y∈sc.names,y.2= .free->osc.names.lookup y.1=some .cell\/osc.names.lookup y.1=some .free
 nd:(own++frees).Nodup
 frl: ∀x∈frees,sc.names.lookup x=some .free
 ixs:ix.map (fun i=>N[i]?)=frees.map some
noncomputable def j5(X:Cx)(scope:Scope)(own frees:List Str)(cl:List (Str×Addr))(C:Addr)(s₀:Shared)(H₀:Hp)(fp:List Addr)(pn:List (Addr×Obj)):Cx:=
 {X with N:=own++frees,s₀:=s₀,H₀:=H₀,env:=compEnvC scope cl C X.env,outer:=X.stack,stack:=X.stack,ex:=fp,fn:=fun _=>false,pn:=pn,xe:=fun _ _=>False}
noncomputable def z1T(k:Nat)(ix:List Nat)(σ:St):St:=l7 k none++ix.map fun i=>(σ[i]?).getD none
section
variable{X:Cx}{tg iter elt:Expr}{pos:Pos}{scope:Scope}{own frees:List Str}{ix:List Nat}{wi:TI}{g:TG}{te:TE}
theorem z8o(k:Nat)(ix:List Nat)(σ:St):(z1T k ix σ).length=k+ix.length:=by
 unfold z1T
 simp
theorem z4u{pins:List (Addr×Obj)}{σ:St}{H:Hp}{s s1:Shared}{fp:List Addr}(S:V7 X.env.scope scope own frees X.N ix)(I:Inv X pins σ H s)(hf: ∀b∈fp,z5T X pins H b)(hb: ∀b∈fp,b<s.heap.objs.size)
 (ho:s1.os=s.os) (hg:s1.gens=s.gens) (hk: ∀b o,s.heap.get? b=some o->s1.heap.get? b=some o) (hn:s1.heap.Ns s.heap.objs.size (fun _=>none)):
 Inv (j5 X scope own frees (z0m X.env scope.names []) s.heap.objs.size s H fp (X.pn++pins)) [] (z1T own.length ix σ) H s1:=by
 have clos: ∀x c,(z0m X.env scope.names []).lookup x=some c->X.env.cells.lookup x=some c/\(x,NameKind.free)∈scope.names:=fun x c h=>by
  rcases z3o _ _ h with q|q
  ·exact nomatch q
  ·exact q
 have hlen:ix.length=frees.length:=by
  have:=congrArg O1 S.ixs
  simpa using this
 have cne: ∀x c,X.env.cells.lookup x=some c->c<s.heap.objs.size:=fun x c e=>by
  obtain⟨v,o,q,_⟩:=I.cell x c e
  exact Heap.lt_size q
 refine⟨⟨I.ok.mod,S.kind,I.ok.glob,I.ok.blt,c9 _,fun x y c h1 h2=>I.ok.inj x y c (clos x c h1).1 (clos y c h2).1,fun x hx=> ?_,fun x c z=>P0 z,I.ok.hd,I.ok.frames, .inl rfl,fun b z=>⟨A2 (hb b z),fun x c e=>(hf b z).2.2.2.2.1 x c (clos x c e).1⟩,I.bs,
  t8 I.ok.bsz I.sz,fun b o e z=> ?_,fun b z=> ?_,I.stack,I.stkFree⟩,ho, ?_,Un.kept hk,⟨_,hn,fun i x v h1 h2 h3=> ?_⟩,fun x c e=> ?_,I.fresh,fun x c e=>I.freeC x c (clos x c e).1,fun p hp=> ?_,I.hok.kept hk, ?_⟩
 ·have hx:(relabel scope X.env).names.lookup x=some .cell\/(relabel scope X.env).names.lookup x=some .free:=hx
  rcases z0n hx with q|q
  ·have m:(x,NameKind.free)∈scope.names:=PySem.mem_of_lookup q
   obtain⟨c,hc⟩:=I.ok.has x (S.fr _ m rfl)
   exact z3D _ _ (.inr ⟨m,c,hc⟩)
  ·exact absurd rfl (S.nocell _ (PySem.mem_of_lookup q))
 ·rcases(hf b z).2.2.2.1 with q|q
  ·exact I.ok.noex b o e q
  ·exact absurd (Heap.lt_size (I.ok.bs b o e).1) (F4.mpr q)
 ·intro q
  rcases i8.mp (I.stkSub b q) with r|r
  ·exact(hf b z).2.1 r
  ·exact(hf b z).2.2.1 r
 ·rw[hg];exact I.bare
 ·have h2:(z1T own.length ix σ)[i]? =some (some v):=h2
  have h1:(own++frees)[i]? =some x:=h1
  unfold z1T at h2
  by_cases hi:i<own.length
  ·rw[List.getElem?_append_left (by simpa using hi),List.getElem?_replicate] at h2
   rw[if_pos hi] at h2
   cases h2
  ·have hi:own.length<=i:=F4.mp hi
   rw[List.getElem?_append_right (by simpa using hi),R1,List.getElem?_map] at h2
   rw[List.getElem?_append_right hi] at h1
   cases e:ix[i -own.length]? with
   |none=>rw[e] at h2;cases h2
   |some j=>
    rw[e] at h2
    have h2:some ((σ[j]?).getD none)=some (some v):=h2
    have hσ:σ[j]? =some (some v):=by
     cases q:σ[j]? with
     |none=>rw[q] at h2;cases h2
     |some z=>rw[q] at h2;exact h2
    have hN:X.N[j]? =some x:=by
     have:=congrArg (fun l:List (Option Str)=>l[i -own.length]?) S.ixs
     erw[List.getElem?_map,e,h1,C1] at this
     exact Option.some.inj this
    have mf:x∈frees:=List.mem_of_getElem? h1
    have lf:=S.frl x mf
    have m:(x,NameKind.free)∈scope.names:=PySem.mem_of_lookup lf
    have hos:=S.fr _ m rfl
    obtain⟨mm,hns,hl⟩:=I.loc
    obtain⟨u,ru,look⟩:=hl j x v hN hσ (hos.elim (fun q=> .inr (.inl q)) fun q=> .inr (.inr q))
    refine⟨u,ru, ?_⟩
    rcases look with⟨kk,_⟩|⟨kk,c,hc,ic⟩
    ·have kk:X.env.scope.names.lookup x=some .local:=kk
     have hos:X.env.scope.names.lookup x=some .cell\/X.env.scope.names.lookup x=some .free:=hos
     rw[kk] at hos
     rcases hos with q|q<;>cases q
    ·obtain⟨c',hc'⟩:=z3D (env:=X.env) scope.names [] (.inr ⟨m,c,hc⟩)
     have e2:=(clos x c' hc').1
     rw[hc] at e2
     cases e2
     refine .inr ⟨k9 lf,c,hc', ?_⟩
     obtain⟨o,q1,q2⟩:=ic
     exact⟨o,hk _ _ q1,q2⟩
 ·obtain⟨v,o,q1,q2⟩:=I.cell x c (clos x c e).1
  exact⟨v,o,hk _ _ q1,q2⟩
 ·have hp:p∈(X.pn++pins)++[]:=hp
  rw[i9] at hp
  obtain⟨e,n,ne,nf,d⟩:=I.pin p hp
  refine⟨hk _ _ e,n,A2 (Heap.lt_size e),fun q=> ?_,d⟩
  rcases i8.mp (I.stkSub p.1 q) with r|r
  ·exact ne r
  ·exact nf r
 ·show(z1T own.length ix σ).length=(own++frees).length
  rw[z8o,hlen,l8]
theorem z7z{pins pins':List (Addr×Obj)}{σ σ':St}{H H':Hp}{s s':Shared}{h':Heap}{fp:List Addr}{cl:List (Str×Addr)}{C:Addr}(I:Inv X pins σ H s)(hf: ∀b∈fp,z5T X pins H b)(hC:s.heap.objs.size<=C)
 (J:Inv (j5 X scope own frees cl C s H fp (X.pn++pins)) pins' σ' H' s') (hs:Heap.SameBut C s'.heap h'):Inv X pins σ H' {s' with heap:=h'}:=by
 have nC: ∀b,b<s.heap.objs.size->b≠C:=fun b q e=>by subst e;exact absurd q (F4.mpr hC)
 refine I.call' (ch:=fp) J.os ⟨fun b o e n hb hx=> ?_,fun b o e n hb hx=> ?_,J.base.free,fun b o e hx=> ?_,J.base.tups,J.base.frzs,J.base.tbls⟩ ?_ J.bare fun b z=>⟨(hf b z).2.2.2.1,(hf b z).2.1,(hf b z).2.2.2.2.1,(hf b z).2.2.2.2.2⟩
 ·exact(hs.2 b (nC b (Heap.lt_size e))).trans (J.base.keep b o e n hb hx)
 ·obtain⟨sl,q⟩:=J.base.slot b o e n hb hx
  exact⟨sl,(hs.2 b (nC b (Heap.lt_size e))).trans q⟩
 ·obtain⟨o',q⟩:=J.base.there b o e hx
  exact⟨o',(hs.2 b (nC b (Heap.lt_size e))).trans q⟩
 ·intro a o e
  refine(J.hok a o e).stay (fun b u hbu q=> ?_) (fun _ q=>q) fun _ _ q=>q
  refine(hs.2 b ?_).trans q
  intro eb
  subst eb
  have hfree:H' b=none:=J.free
  rcases hbu with rfl|z
  ·rw[e] at hfree;cases hfree
  ·rw[z] at hfree;cases hfree
end
end L2
namespace PySem
end PySem
namespace L2
open PySem PySem.Spec PyProof.Rows
noncomputable def V1(osc sc:Scope)(own frees N:List Str)(ix:List Nat):Bool:=
 decide (sc.kind= .function)&&sc.names.all (fun y=>decide (y.2≠ .cell))&&sc.names.all (fun y=>decide (y.2= .local->sc.names.lookup y.1=some .local))&&
  sc.names.all (fun y=>decide (y.2= .free->osc.names.lookup y.1=some .cell\/osc.names.lookup y.1=some .free))&&decide (own++frees).Nodup&&frees.all (fun x=>decide (sc.names.lookup x=some .free))&&
  decide (ix.map (fun i=>N[i]?)=frees.map some)
theorem V1.sc{osc sc:Scope}{own frees N:List Str}{ix:List Nat}(h:V1 osc sc own frees N ix=true):V7 osc sc own frees N ix:=by
 unfold V1 at h
 erw[i6,A6,decide_eq_true_eq] at h
 obtain⟨⟨⟨⟨⟨⟨h1,h2⟩,h3⟩,h4⟩,h5⟩,h6⟩,h7⟩:=h
 exact⟨h1,h2,h3,h4,h5,h6,h7⟩
theorem z39.new{H:Hp}{p:Addr}(o:HO)(h:H p=none):z39 H (upd H p o):=fun x u e=>by rw[Z6 (J5 e h)];exact e
noncomputable def dT(ns:List Int):PyData:= .tuple (ns.map PyData.int)
theorem cut_take(xs:List V)(k:Nat):z6J xs none (some (k:Int))=xs.take k:=by
 unfold z6J
 rw[HT.sIx_none,HT.sIx_nat]
 erw[D4,u01]
 rw[List.take_eq_take_iff]
 lia
theorem cut_drop(xs:List V)(k:Nat):z6J xs (some (k:Int)) none=xs.drop k:=by
 unfold z6J
 rw[HT.sIx_none,HT.sIx_nat]
 by_cases h:k<=xs.length
 ·rw[M8 h,B3 (by rw[C8];lia)]
 ·have h:xs.length<=k:=by lia
  rw[S6 h,u02,R6,C6 h]
theorem map_take{α β:Type}(f:α->β)(xs:List α)(k:Nat):(xs.map f).take k=(xs.take k).map f:=by rw[O4]
theorem map_drop{α β:Type}(f:α->β)(xs:List α)(k:Nat):(xs.map f).drop k=(xs.drop k).map f:=by rw[T9]
noncomputable def zbl(K:W.Frag)(H:Hp)(xs:List V)(Q:VK):Prop:= ∀p H',(H'=H/\H p=some (.tup xs))\/(H p=none/\H'=upd H p (.tup xs))->Q (.ref p) H'
theorem zbl.intro{K:W.Frag}{H:Hp}{xs:List V}{Q:VK}(h: ∀p H',H' p=some (.tup xs)->z39 H H'->Q (.ref p) H'):zbl K H xs Q:=by
 intro p H' e
 rcases e with⟨rfl,s⟩|⟨n,rfl⟩
 ·exact h p H' s (z39.refl _)
 ·exact h p _ Y2 (z39.new _ n)
section
variable{X:Cx}
noncomputable def zjr(K:W.Frag):V->Option Int->Option Int->Hp->VK->Prop:=fun x lo hi H Q=> ∃a xs,x= .ref a/\H a=some (.tup xs)/\zbl K H (z6J xs lo hi) Q
theorem zdF:SlR X (zjr X.K):=by
 intro pins s σ H x v vl vu lo hi sl Q I rx hs pl pu h
 obtain⟨a,xs,rfl,hx0,q⟩:=h
 have hx:SqT X.K H a xs:=SqT.of hx0
 by_cases hw:HT.sIx xs.length 0 lo=0/\HT.sIx xs.length xs.length hi=xs.length
 ·cases rx
  obtain⟨its,r,ht,hz⟩:=I.tuple hx
  have hlen:its.toArray.size=xs.length:=by rw[l9];exact r.length.symm
  refine⟨"tuple",_,PyProof.Rows.slot_tuple_getitem.lookup,ht.typeIs, ?_⟩
  refine HT.getItem_tuple_whole ht hs pl pu (by rw[hlen];exact hw) ⟨.ref a,H,I,rfl,q a H (.inl ⟨rfl, ?_⟩)⟩
  rw[z8n hw]
  exact hx0
 ·exact zfH pins s σ H _ v vl vu lo hi sl Q I rx hs pl pu ⟨a,xs,rfl,hx,hw,fun p hp=>q p _ (.inr ⟨hp,rfl⟩)⟩
noncomputable def z9n(K:W.Frag):R2:=fun x y H Q=> ∃a b xs ys,x= .ref a/\y= .ref b/\H a=some (.tup xs)/\H b=some (.tup ys)/\xs.length+ys.length<=sizeLine/\zbl K H (xs++ys) Q
theorem z9o:OpR X (binaryOp .Add) (z9n X.K):=by
 intro pins s σ H x y v u Q I rx ry h
 obtain⟨a,b,xs,ys,rfl,rfl,ha0,hb0,hz,q⟩:=h
 have ha:SqT X.K H a xs:=SqT.of ha0
 have hb:SqT X.K H b ys:=SqT.of hb0
 by_cases hx:xs=[]
 ·subst hx
  cases rx
  cases ry
  obtain⟨its,r1,p1,_⟩:=I.tuple ha
  obtain⟨its2,r2,p2,_⟩:=I.tuple hb
  have e0:its=[]:=(j4.nil_iff r1).mpr rfl
  subst e0
  obtain⟨⟨cls,dd,data,sl⟩,ho,hc,n,hd⟩:=id p1
  obtain⟨⟨cls2,dd2,data2,sl2⟩,ho2,hc2,n2,hd2⟩:=id p2
  simp only at hc hd hc2 hd2
  subst hc hd hc2 hd2
  exact concat_meets ⟨_,ho,rfl⟩ ⟨_,ho2,rfl⟩ noFill_tuple_add seq_tuple_add PySem.F.slot_tuple_add PySem.F.entry_tuple_add (PySem.F.args_tuple_add_2 _ _)
   (tuple_addW0 a b _ _ n n2 dd dd2 sl sl2 (by simp)) ⟨ho,ho2, .ref b,H,I,rfl,q b H (.inl ⟨rfl,hb0⟩)⟩
 ·refine zdz pins s σ H _ _ v u Q I rx ry ⟨a,b,xs,ys,rfl,rfl,ha,hb,hx,hz,fun e=> ?_,fun _ p hp=>q p _ (.inr ⟨hp,rfl⟩)⟩
  refine q a H (.inl ⟨rfl, ?_⟩)
  rw[e,i9]
  exact ha0
theorem z9p:CallR X (.type "tuple") (fun xs H Q=> ∃(p:Addr) (ys:List V),xs=[.ref p]/\(SqL X.K H p ys\/H p=some (.tup ys))/\zbl X.K H ys Q):=by
 intro pins s σ H xs us Q I r h
 obtain⟨p,ys,rfl,hs,q⟩:=h
 refine z4Q pins s σ H _ us Q I r ⟨p,ys,rfl, ?_⟩
 rcases hs with hs|hs
 ·exact .inl ⟨hs,fun l hl=>q l _ (.inr ⟨hl,rfl⟩)⟩
 ·exact .inr ⟨SqT.of hs,q p H (.inl ⟨rfl,hs⟩)⟩
end
end L2
namespace PyProof.Rows
open PySem
section
variable{prog:Program}{w:World}{A:Around}{E:Value->Shared->Prop}{s:Shared}
theorem z3E{h h':Heap}{t:Addr}{items:Array Value}(hl:h.IsList t items)(k: ∀o,h.get? t=some o->h'.get? t=some o):h'.IsList t items:=by
 obtain⟨o,ho,hc,n,hd⟩:=hl
 exact⟨o,k o ho,hc,n,hd⟩
theorem z64{it t:Addr}{items:Array Value}(hne:t≠it): ∀(n i:Nat) (s:Shared) (Q:List Value->Shared->Prop),s.heap.IsListIter it t i->s.heap.IsList t items->i+n<=items.size->
 (∀h',h'.IsListIter it t (i+n)->Heap.SameBut it s.heap h'->Q ((items.toList.drop i).take n) {s with heap:=h'})->wpAny (model prog w) A (draw (.ref it) n) Q E s
 |0,i,s,Q,hit,_,_,hQ=>by
  show wpAny _ _ (pure []) Q E s
  exact wpAny_pure (by simpa using hQ s.heap hit (Heap.SameBut.refl ..))
 |n+1,i,s,Q,hit,ht,hle,hQ=>by
  have hlt:i<items.size:=by lia
  show wpAny _ _ (pyNext (.ref it)>>=_) Q E s
  refine wpAny_bind (wpAny_pyNext_list_item hit ht (x:=items[i]) (by simp[hlt]) fun h₁ hit₁ hs₁=> ?_)
  refine wpAny_bind (wpAny_holding (z64 hne n (i+1) _ _ hit₁ (z3E ht fun o e=>(hs₁.2 t hne).trans e) (by lia) fun h₂ hit₂ hs₂=>wpAny_pure ?_))
  have hd:items.toList.drop i=items[i]::items.toList.drop (i+1):=by simp[B2,hlt]
  have:=hQ h₂ (by rw[show i+(n+1)=i+1+n by lia];exact hit₂) (hs₁.trans hs₂)
  rw[hd,D7] at this
  exact this
theorem z3i{t:Addr}{items:Array Value}{Q:List Value->Shared->Prop}(hh:A.handled=none)(ht:s.heap.IsList t items)
 (hQ: ∀h',Heap.ExtBut s.heap.objs.size s.heap h'->Q items.toList {s with heap:=h'}):wpAny (model prog w) A (unpackItems (.ref t) items.size none) Q E s:=by
 have hlt:t≠s.heap.objs.size:=by obtain⟨o,ho,_⟩:=ht;exact A2 (Heap.lt_size ho)
 have hT:s.TypeIs (.ref t) "list" :=by obtain⟨o,ho,hc,_⟩:=ht;exact⟨o,ho,hc⟩
 unfold unpackItems
 refine wpAny_bind ?_
 ·unfold notIterableAtAll
  refine wpAny_bind (wpAny_specialOf hT PySem.F.slot_list_iter.lookup ?_)
  refine wpAny_pure ?_
  erw[C4,if_false]
  refine wpAny_bind (wpAny_holding (wpAny_pyIter_list ht ?_))
  refine wpAny_bind (wpAny_holding (z64 hlt items.size 0 _ _ ⟨_,Heap.get?_push_size _ rfl,rfl,rfl⟩ (z3E ht fun o e=>Heap.get?_push_of_some _ e) (by lia) fun h₁ hit₁ hs₁=> ?_))
  have hall:List.take items.size (List.drop 0 items.toList)=items.toList:=by
   rw[D4];exact B3 (by simp)
  rw[hall]
  rw[if_neg (by simp)]
  have ht₁:h₁.IsList t items:=z3E ht fun o e=>(hs₁.2 t hlt).trans (Heap.get?_push_of_some _ e)
  refine wpAny_bind (wpAny_holding (wpAny_pyNext_list_end hh hit₁ ht₁ (by simp) fun h₂ he₂=> ?_))
  erw[Option.isSome_none,C4,if_false]
  refine wpAny_pure (hQ h₂ fun b o hb e=>he₂ b o hb (hs₁.extBut b o hb (Heap.get?_push_of_some _ e)))
theorem z2F{env:Env}{elts:List Expr}{x1}{pos:Pos}{t:Addr}{items:Array Value}{Q:Unit->Shared->Prop}(hh:A.handled=none)(ht:s.heap.IsList t items)
 (hn:(assignEach elts env).length=items.size) (hstar:(assignEach elts env).findIdx? (·.1)=none)
 (h: ∀h',Heap.ExtBut s.heap.objs.size s.heap h'->wpAny (model prog w) A (assignInOrder ((assignEach elts env).map (·.2)) items.toList) Q E {s with heap:=h'}):
 wpAny (model prog w) A (assign (.Tuple elts x1 pos) env (.ref t)) Q E s:=by
 rw[assign_Tuple]
 refine wpAny_bind (wpAny_standAt ?_)
 unfold unpack
 rw[hn,hstar]
 exact wpAny_bind (wpAny_holding (z3i hh ht h))
end
end PyProof.Rows
namespace L2
open PySem PySem.Spec PyProof.Rows
section
variable{X:Cx}{pos:Pos}
noncomputable def zm6(K:W.Frag)(n:Nat)(t:TGs):TG:=fun v σ H Q=> ∃a xs,v= .ref a/\(SqT K H a xs\/SqL K H a xs)/\xs.length=n/\t xs σ H Q
theorem zfS{es:List Expr}{k:Nat}{t:TGs}{n:Nat}(hc:X.calm=true)(h:PGs X es t)
 (hn:(assignEach es X.env).length=n:=by rfl) (hst:(assignEach es X.env).findIdx? (·.1)=none:=by rfl):PG X (.Tuple es k pos) (zm6 X.K n t):=by
 intro pins s σ H v u Q I r hw
 obtain⟨a,xs,e1,hq|hq,hl,hw⟩:=hw
 ·exact zcm hc h hn hst pins s σ H v u Q I r ⟨a,xs,e1,hq,hl,hw⟩
 ·subst e1
  cases r
  obtain⟨its,rv,ht,hz⟩:=I.list hq
  refine z2F (I.ok.hd hc) ht.isList (by simp[hn,<-hl,rv.length]) hst fun h' hx=> ?_
  have I1:Inv X pins σ H {s with heap:=h'}:=I.kept (t':=s.toks) fun b o e=>hx b o (A2 (Heap.lt_size e)) e
  exact h pins _ σ H xs _ Q I1 (by simpa using rv) hw
end
theorem z3j:fillsNumberSlot (.type "tuple") "mul" =pure false:=
 PySem.fillsNumberSlot_seq (id:= "tuple.__mul__") (r:=some (.builtin "tuple.__rmul__")) F.slot_tuple_mul.lookup (by decide+kernel) F.slot_tuple_rmul.lookup (by decide+kernel)
theorem z65:seqRepeat? (.type "tuple")=pure (some (.builtin "tuple.__mul__")):=by
 unfold seqRepeat?
 rw[PySem.seqSlot_of (T:= "tuple") (name:= "__mul__") (id:= "tuple.__mul__") F.slot_tuple_mul.lookup (by decide+kernel),PySem.seqSlot_of (T:= "tuple") (name:= "__rmul__") (id:= "tuple.__rmul__") F.slot_tuple_rmul.lookup (by decide+kernel)]
 rfl
theorem z48(a:Int)(t:Tok)(l:Addr)(items:Array Value)(n:Nat)(dd:Option Addr)(sl:Array (Option Value)):
 Meets (Builtin.«int.__rmul__» ⟨[.int a t, .ref l],[]⟩) (fun _ R s=>s.heap.get? l=some {cls:= .type "tuple",dict:=dd,data:= .seq items n,slots:=sl}/\R (.ok (.ret Value.notImplemented)) s):=
 .of_wp fun prog w A R s h=>by obtain⟨hp,g,d,tk,os⟩:=s;obtain⟨hl,h⟩:=h;wp_walk;exact⟨_,rfl,h⟩
theorem z8p(l:Addr)(items:Array Value)(n:Nat)(dd:Option Addr)(sl:Array (Option Value))(x:Int)(u:Tok)(hc0: ¬(decide (x< -(2^63))||decide (x≥2^63))=true)(hc1: ¬(items.isEmpty||x==1)=true)(hc2: ¬(decide (x<=0)||items.isEmpty)=true)(hc3: ¬((items.size:Int)*x>(2^63 - 1)/8))(hc4: ¬Builtin.Tuple.tupleTooMany ((items.size:Int)*x)=true)(hsz:(N7 (fun x1 x2=>x1++x2) #[] (l7 x.toNat items)).size<=sizeLine):
 Meets (Builtin.«tuple.__mul__» ⟨[.ref l, .int x u],[]⟩) (fun _ R s=>s.heap.get? l=some {cls:= .type "tuple",dict:=dd,data:= .seq items n,slots:=sl}/\R (.ok (.ret (Value.ref s.heap.objs.size))) {s with heap:=s.heap.push {cls:=Value.type "tuple",data:=Data.seq (N7 (fun x1 x2=>x1++x2) #[] (l7 x.toNat items))},toks:=s.toks}):=
 .of_wp fun prog w A R s h=>by
  obtain⟨hp,g,d,tk,os⟩:=s;obtain⟨hl,h⟩:=h
  have f1:=AutoSeq1.idx_int;have f2:=AutoSeq1.sub_tuple_tuple
  wp_walk using AutoSeq1.wpAny_loadPart' hl
  rw[if_neg hc0]
  wp_walk using AutoSeq1.wpAny_loadPart' hl
  rw[if_neg hc3]
  wp_walk using AutoSeq1.wpAny_loadPart' hl
  exact⟨_,rfl,h⟩
section
variable{X:Cx}
noncomputable def zdG(K:W.Frag):R2:=fun x y H Q=> ∃a k xs,x= .ref a/\y= .int k/\SqT K H a xs/\0<xs.length/\2<=k/\k<2^63/\xs.length*k.toNat<=sizeLine/\
 ∀p,H p=none->Q (.ref p) (upd H p (.tup (l7 k.toNat xs).flatten))
theorem zdH:OpR X (binaryOp .Mult) (zdG X.K):=by
 intro pins s σ H x y v u Q I rx ry h
 obtain⟨a,k,xs,rfl,rfl,ha,h0,h1,h2,hz,q⟩:=h
 cases rx
 obtain⟨t,rfl⟩:=ry
 obtain⟨its,r,p1,_⟩:=I.tuple ha
 obtain⟨⟨cls,dd,data,sl⟩,e,hc,n,hd⟩:=id p1
 simp only at hc hd
 subst hc hd
 have hlen:its.length=xs.length:=r.length.symm
 have hne:its.toArray.isEmpty=false:=by
  cases its with
  |nil=>simp at hlen;lia
  |cons a r=>simp
 have hnew:N7 (fun x1 x2=>x1++x2) #[] (l7 k.toNat its.toArray)=(l7 k.toNat its).flatten.toArray:=by
  have:=z3z its k.toNat []
  rw[n5] at this
  exact this
 have hl2:((its.toArray.size:Nat):Int)*k=((xs.length*k.toNat:Nat):Int):=by
  rw[l9,hlen,Int.natCast_mul,Int.toNat_of_nonneg (by lia)]
 have hs:(sizeLine:Nat)=16777216:=rfl
 refine wpAny_binaryOp_repeat_ref (T:= "tuple") (U:= "int") (by decide) ⟨_,e,rfl⟩ (fun s'=>typeIs_int s' k t) z3j F.fills_int_mul F.slot_int_rmul z65 F.slot_int_index.lookup
  (call_meets F.slot_int_rmul (typeIs_int s k t) F.entry_int_rmul (F.args_int_rmul_2 _ _) (z48 k t a its.toArray n dd sl)
   ⟨e,rfl,⟨_,e,rfl⟩,call_meets F.slot_tuple_mul ⟨_,e,rfl⟩ F.entry_tuple_mul (F.args_tuple_mul_2 _ _) (z8p a its.toArray n dd sl k t (by simp;lia) (by rw[hne];simp;lia) (by rw[hne];simp;lia) (by rw[hl2];clear hl2;generalize xs.length*k.toNat=m at hz⊢;lia) (by rw[hl2];clear hl2;generalize xs.length*k.toNat=m at hz⊢;unfold Builtin.Tuple.tupleTooMany;rw[decide_eq_true_eq];lia) (by rw[hnew,l9,z6K,hlen,S0];exact hz)) ⟨e, ?_⟩⟩)
 rw[hnew]
 refine⟨.ref s.heap.objs.size,_,I.laid (t':=s.toks) (o:= .tup (l7 k.toNat xs).flatten) (fun b ob q=>Heap.get?_push_of_some _ q) (c9 _) ?_,rfl,q _ (I.hok.fresh (c9 _))⟩
 exact⟨by rw[z6K,S0];exact hz,_,r.rep k.toNat,IsTup.new _ _⟩
end
end L2
namespace Mi
open PySem L2
inductive D where
 |non|bool (b:Bool)|int (i:Int)|str (x:Str)
 |tup (ds:List D)|ro (ds:List D)|lst (l:Nat) (ds:List D)
 |dct (l:Nat) (ks vs:List D)|obj (l:Nat) (c:Str) (ns:List Str) (vs:List D)
 |exc (c:Str)|fn (c:Str)|fdc (ks vs:List D)
deriving Inhabited
mutual
noncomputable def y4:D->List Nat
 | .tup ds=>labsL ds
 | .ro ds=>labsL ds
 | .fdc _ vs=>labsL vs
 | .lst l ds=>l::labsL ds
 | .dct l ks vs=>l::(labsL ks++labsL vs)
 | .obj l _ _ vs=>l::labsL vs
 | .non=>[]| .bool _=>[]| .int _=>[]| .str _=>[]| .exc _=>[]| .fn _=>[]
noncomputable def labsL:List D->List Nat
 |[]=>[]
 |d::ds=>y4 d++labsL ds
end
noncomputable def Z4:List (Option D)->List Nat
 |[]=>[]
 |none::r=>Z4 r
 |some d::r=>y4 d++Z4 r
structure Gx where
 K:W.Frag
 cl:Str->Option Addr
 ci: ∀c c' a,cl c=some a->cl c'=some a->c=c'
 ck: ∀c a,cl c=some a->∃o,K.lookup a=some o/\∀its n,o.data≠ .seq its n
noncomputable def zbm:Key->D
 | .inl i=> .int i
 | .inr x=> .str x
noncomputable def nkD:Key⊕List Key->D
 | .inl k=>zbm k
 | .inr ks=> .tup (ks.map zbm)
noncomputable def dkD(k:NK):D:= .tup (k.map nkD)
noncomputable def RoL(K:W.Frag)(H:Hp)(a:Addr)(xs:List V):Prop:=
 (∃o,H a=some (.frz o (.lst xs)))\/∃(o:Obj) (its:Array Value) (n:Nat),K.lookup a=some o/\o.cls= .type "list" /\o.dict=none/\o.data= .seq its n/\its.size<=sizeLine/\j4 xs its.toList
theorem RoL.sq{K:W.Frag}{H:Hp}{a:Addr}{xs:List V}(h:RoL K H a xs):SqL K H a xs:=by
 rcases h with⟨o,h⟩|h
 ·exact .inl (.inr ⟨o,h⟩)
 ·exact .inr h
mutual
noncomputable def RD(G:Gx)(ρ:Nat->Addr)(H:Hp):D->V->Prop
 | .non,v=>v= .non
 | .bool b,v=>v= .bl b
 | .int i,v=>v= .int i
 | .str x,v=>v= .str x
 | .exc c,v=> ∃a o C,v= .ref a/\G.cl c=some C/\o.cls= .ref C/\(∃vs,o.data= .fields vs)/\H a=some (.frz o (.ext fun _=>True))
 | .fn c,v=> ∃a,v= .ref a/\G.cl c=some a
 | .tup ds,v=> ∃a xs,v= .ref a/\H a=some (.tup xs)/\RDs G ρ H ds xs
 | .ro ds,v=> ∃a xs,v= .ref a/\RoL G.K H a xs/\RDs G ρ H ds xs
 | .fdc ks vs,v=> ∃(a:Addr) (o:Obj) (kvs:List (NK×V)),v= .ref a/\H a=some (.frz o (.dT kvs))/\ks=kvs.map (fun p=>dkD p.1)/\RDs G ρ H vs (kvs.map (·.2))
 | .lst l ds,v=>v= .ref (ρ l)/\∃xs,H (ρ l)=some (.lst xs)/\RDs G ρ H ds xs
 | .dct l ks vs,v=>v= .ref (ρ l)/\((∃kvs:List (Key×V),H (ρ l)=some (.dK kvs)/\ks=D.non::kvs.map (fun p=>zbm p.1)/\RDs G ρ H vs (kvs.map (·.2)))\/
  (∃kvs:List (NK×V),H (ρ l)=some (.dT kvs)/\ks=kvs.map (fun p=>dkD p.1)/\RDs G ρ H vs (kvs.map (·.2))))
 | .obj l c ns vs,v=>v= .ref (ρ l)/\∃C dx fs,G.cl c=some C/\H (ρ l)=some (.ins C dx fs)/\ns=fs.map (·.1)/\RDs G ρ H vs (fs.map (·.2))
noncomputable def RDs(G:Gx)(ρ:Nat->Addr)(H:Hp):List D->List V->Prop
 |[],xs=>xs=[]
 |d::ds,xs=> ∃x r,xs=x::r/\RD G ρ H d x/\RDs G ρ H ds r
end
structure X5(H H':Hp):Prop where
 t: ∀b xs,H b=some (.tup xs)->H' b=some (.tup xs)
 f: ∀b o u,H b=some (.frz o u)->H' b=some (.frz o u)
theorem X5.refl(H:Hp):X5 H H:=⟨fun _ _ h=>h,fun _ _ _ h=>h⟩
theorem X5.of{H H':Hp}(h:z39 H H'):X5 H H':=⟨fun _ _ e=>h _ _ e,fun _ _ _ e=>h _ _ e⟩
theorem X5.ro{K:W.Frag}{H H':Hp}(t:X5 H H'){a:Addr}{xs:List V}(h:RoL K H a xs):RoL K H' a xs:=by
 rcases h with⟨o,h⟩|h
 ·exact .inl ⟨o,t.f _ _ _ h⟩
 ·exact .inr h
section
variable{G:Gx}{ρ ρ':Nat->Addr}{H H':Hp}
mutual
theorem RD.stay(ts:X5 H H'): ∀(t:D) (v:V),RD G ρ H t v->(∀l∈y4 t,ρ' l=ρ l/\∀o,H (ρ l)=some o->H' (ρ l)=some o)->RD G ρ' H' t v
 | .non,v,h,_=>by erw[RD] at h⊢;exact h
 | .bool b,v,h,_=>by erw[RD] at h⊢;exact h
 | .int b,v,h,_=>by erw[RD] at h⊢;exact h
 | .str b,v,h,_=>by erw[RD] at h⊢;exact h
 | .exc b,v,h,_=>by
  erw[RD] at h⊢
  obtain⟨a,o,C,e,h1,h2,h3,h5⟩:=h
  exact⟨a,o,C,e,h1,h2,h3,ts.f _ _ _ h5⟩
 | .fn b,v,h,_=>by erw[RD] at h⊢;exact h
 | .tup ds,v,h,hl=>by
  erw[RD,y4] at h hl⊢
  obtain⟨a,xs,e,s,r⟩:=h
  exact⟨a,xs,e,ts.t _ _ s,RDs.stay ts ds xs r hl⟩
 | .ro ds,v,h,hl=>by
  erw[RD,y4] at h hl⊢
  obtain⟨a,xs,e,s,r⟩:=h
  exact⟨a,xs,e,ts.ro s,RDs.stay ts ds xs r hl⟩
 | .fdc ks vs,v,h,hl=>by
  erw[RD,y4] at h hl⊢
  obtain⟨a,o,kvs,e,s,s2,r⟩:=h
  exact⟨a,o,kvs,e,ts.f _ _ _ s,s2,RDs.stay ts vs _ r hl⟩
 | .lst l ds,v,h,hl=>by
  erw[RD,y4] at h hl⊢
  obtain⟨e,xs,s,r⟩:=h
  obtain⟨e1,e2⟩:=hl l (o0 ..)
  rw[e1]
  exact⟨e,xs,e2 _ s,RDs.stay ts ds xs r fun k hk=>hl k (i4 _ hk)⟩
 | .dct l ks vs,v,h,hl=>by
  erw[RD,y4] at h hl⊢
  obtain⟨e,s⟩:=h
  obtain⟨e1,e2⟩:=hl l (o0 ..)
  rw[e1]
  refine⟨e, ?_⟩
  rcases s with⟨kvs,s,s2,r⟩|⟨kvs,s,s2,r⟩
  ·exact .inl ⟨kvs,e2 _ s,s2,RDs.stay ts vs _ r fun k hk=>hl k (i4 _ (b9 _ hk))⟩
  ·exact .inr ⟨kvs,e2 _ s,s2,RDs.stay ts vs _ r fun k hk=>hl k (i4 _ (b9 _ hk))⟩
 | .obj l c ns vs,v,h,hl=>by
  erw[RD,y4] at h hl⊢
  obtain⟨e,C,dx,fs,hC,s,s2,r⟩:=h
  obtain⟨e1,e2⟩:=hl l (o0 ..)
  rw[e1]
  exact⟨e,C,dx,fs,hC,e2 _ s,s2,RDs.stay ts vs _ r fun k hk=>hl k (i4 _ hk)⟩
theorem RDs.stay(ts:X5 H H'): ∀(t:List D) (v:List V),RDs G ρ H t v->(∀l∈labsL t,ρ' l=ρ l/\∀o,H (ρ l)=some o->H' (ρ l)=some o)->RDs G ρ' H' t v
 |[],v,h,_=>by erw[RDs] at h⊢;exact h
 |d::ds,v,h,hl=>by
  erw[RDs,labsL] at h hl⊢
  obtain⟨x,r,e,h1,h2⟩:=h
  exact⟨x,r,e,RD.stay ts d x h1 fun l hk=>hl l (i3 _ hk),RDs.stay ts ds r h2 fun l hk=>hl l (b9 _ hk)⟩
end
end
mutual
noncomputable def rp(f:Nat->Option D):D->D
 | .tup ds=> .tup (rpL f ds)
 | .ro ds=> .ro (rpL f ds)
 | .fdc ks vs=> .fdc ks (rpL f vs)
 | .lst l ds=>match f l with|some d=>d|none=> .lst l (rpL f ds)
 | .dct l ks vs=>match f l with|some d=>d|none=> .dct l ks (rpL f vs)
 | .obj l c ns vs=>match f l with|some d=>d|none=> .obj l c ns (rpL f vs)
 | .non=> .non| .bool b=> .bool b| .int i=> .int i| .str x=> .str x| .exc x=> .exc x| .fn x=> .fn x
noncomputable def rpL(f:Nat->Option D):List D->List D
 |[]=>[]
 |d::ds=>rp f d::rpL f ds
end
noncomputable def rpO(f:Nat->Option D):List (Option D)->List (Option D)
 |[]=>[]
 |none::r=>none::rpO f r
 |some d::r=>some (rp f d)::rpO f r
section
variable{f:Nat->Option D}
mutual
theorem zdI: ∀t:D,(∀l∈y4 t,f l=none)->rp f t=t
 | .non,_=>rfl
 | .bool b,_=>rfl
 | .int b,_=>rfl
 | .str b,_=>rfl
 | .exc b,_=>rfl
 | .fn b,_=>rfl
 | .tup ds,h=>by erw[rp,y4] at h⊢;rw[rpL_id ds h]
 | .ro ds,h=>by erw[rp,y4] at h⊢;rw[rpL_id ds h]
 | .fdc ks vs,h=>by erw[rp,y4] at h⊢;rw[rpL_id vs h]
 | .lst l ds,h=>by
  erw[rp,y4] at h⊢
  rw[h l (o0 ..),rpL_id ds fun k hk=>h k (i4 _ hk)]
 | .dct l ks vs,h=>by
  erw[rp,y4] at h⊢
  rw[h l (o0 ..),rpL_id vs fun k hk=>h k (i4 _ (b9 _ hk))]
 | .obj l c ns vs,h=>by
  erw[rp,y4] at h⊢
  rw[h l (o0 ..),rpL_id vs fun k hk=>h k (i4 _ hk)]
theorem rpL_id: ∀t:List D,(∀l∈labsL t,f l=none)->rpL f t=t
 |[],_=>rfl
 |d::ds,h=>by
  erw[rpL,labsL] at h⊢
  rw[zdI d fun l hk=>h l (i3 _ hk),rpL_id ds fun l hk=>h l (b9 _ hk)]
end
theorem z9q: ∀t:List (Option D),(∀l∈Z4 t,f l=none)->rpO f t=t
 |[],_=>rfl
 |none::r,h=>by erw[rpO,Z4] at h⊢;rw[z9q r h]
 |some d::r,h=>by
  erw[rpO,Z4] at h⊢
  rw[zdI d fun l hk=>h l (i3 _ hk),z9q r fun l hk=>h l (b9 _ hk)]
end
section
variable{G:Gx}{ρ ρ':Nat->Addr}{H H':Hp}{f:Nat->Option D}
mutual
theorem RD.rp(ts:X5 H H'): ∀(t:D) (v:V),RD G ρ H t v->(∀l∈y4 t,ρ' l=ρ l/\(match f l with|some d=>RD G ρ' H' d (.ref (ρ l))|none=> ∀o,H (ρ l)=some o->H' (ρ l)=some o))->RD G ρ' H' (rp f t) v
 | .non,v,h,_=>by erw[Mi.rp,RD] at h⊢;exact h
 | .bool b,v,h,_=>by erw[Mi.rp,RD] at h⊢;exact h
 | .int b,v,h,_=>by erw[Mi.rp,RD] at h⊢;exact h
 | .str b,v,h,_=>by erw[Mi.rp,RD] at h⊢;exact h
 | .exc b,v,h,_=>by
  erw[Mi.rp,RD] at h⊢
  obtain⟨a,o,C,e,h1,h2,h3,h5⟩:=h
  exact⟨a,o,C,e,h1,h2,h3,ts.f _ _ _ h5⟩
 | .fn b,v,h,_=>by erw[Mi.rp,RD] at h⊢;exact h
 | .tup ds,v,h,hl=>by
  erw[Mi.rp,RD,y4] at h hl⊢
  obtain⟨a,xs,e,s,r⟩:=h
  exact⟨a,xs,e,ts.t _ _ s,RDs.rp ts ds xs r hl⟩
 | .ro ds,v,h,hl=>by
  erw[Mi.rp,RD,y4] at h hl⊢
  obtain⟨a,xs,e,s,r⟩:=h
  exact⟨a,xs,e,ts.ro s,RDs.rp ts ds xs r hl⟩
 | .fdc ks vs,v,h,hl=>by
  erw[Mi.rp,RD,y4] at h hl⊢
  obtain⟨a,o,kvs,e,s,s2,r⟩:=h
  exact⟨a,o,kvs,e,ts.f _ _ _ s,s2,RDs.rp ts vs _ r hl⟩
 | .lst l ds,v,h,hl=>by
  erw[Mi.rp,RD,y4] at h hl⊢
  obtain⟨e,xs,s,r⟩:=h
  obtain⟨e1,e2⟩:=hl l (o0 ..)
  cases ef:f l with
  |some d=>rw[ef] at e2;subst e;exact e2
  |none=>
   rw[ef] at e2
   erw[RD]
   rw[e1]
   exact⟨e,xs,e2 _ s,RDs.rp ts ds xs r fun k hk=>hl k (i4 _ hk)⟩
 | .dct l ks vs,v,h,hl=>by
  erw[Mi.rp,RD,y4] at h hl⊢
  obtain⟨e,s⟩:=h
  obtain⟨e1,e2⟩:=hl l (o0 ..)
  cases ef:f l with
  |some d=>rw[ef] at e2;subst e;exact e2
  |none=>
   rw[ef] at e2
   erw[RD]
   rw[e1]
   refine⟨e, ?_⟩
   rcases s with⟨kvs,s,s2,r⟩|⟨kvs,s,s2,r⟩
   ·exact .inl ⟨kvs,e2 _ s,s2,RDs.rp ts vs _ r fun k hk=>hl k (i4 _ (b9 _ hk))⟩
   ·exact .inr ⟨kvs,e2 _ s,s2,RDs.rp ts vs _ r fun k hk=>hl k (i4 _ (b9 _ hk))⟩
 | .obj l c ns vs,v,h,hl=>by
  erw[Mi.rp,RD,y4] at h hl⊢
  obtain⟨e,C,dx,fs,hC,s,s2,r⟩:=h
  obtain⟨e1,e2⟩:=hl l (o0 ..)
  cases ef:f l with
  |some d=>rw[ef] at e2;subst e;exact e2
  |none=>
   rw[ef] at e2
   erw[RD]
   rw[e1]
   exact⟨e,C,dx,fs,hC,e2 _ s,s2,RDs.rp ts vs _ r fun k hk=>hl k (i4 _ hk)⟩
theorem RDs.rp(ts:X5 H H'): ∀(t:List D) (v:List V),RDs G ρ H t v->(∀l∈labsL t,ρ' l=ρ l/\(match f l with|some d=>RD G ρ' H' d (.ref (ρ l))|none=> ∀o,H (ρ l)=some o->H' (ρ l)=some o))->RDs G ρ' H' (rpL f t) v
 |[],v,h,_=>by erw[rpL,RDs] at h⊢;exact h
 |d::ds,v,h,hl=>by
  erw[rpL,RDs,labsL] at h hl⊢
  obtain⟨x,r,e,h1,h2⟩:=h
  exact⟨x,r,e,RD.rp ts d x h1 fun l hk=>hl l (i3 _ hk),RDs.rp ts ds r h2 fun l hk=>hl l (b9 _ hk)⟩
end
end
section
variable{f:Nat->Option D}
mutual
theorem z9r(l:Nat): ∀t:D,l∈y4 (rp f t)->l∈y4 t\/∃k d,k∈y4 t/\f k=some d/\l∈y4 d
 | .non,h=>by erw[rp,y4] at h;cases h
 | .bool b,h=>by erw[rp,y4] at h;cases h
 | .int b,h=>by erw[rp,y4] at h;cases h
 | .str b,h=>by erw[rp,y4] at h;cases h
 | .exc b,h=>by erw[rp,y4] at h;cases h
 | .fn b,h=>by erw[rp,y4] at h;cases h
 | .tup ds,h=>by
  erw[rp,y4] at h⊢
  exact labsL_rp l ds h
 | .ro ds,h=>by
  erw[rp,y4] at h⊢
  exact labsL_rp l ds h
 | .fdc ks vs,h=>by
  erw[rp,y4] at h⊢
  exact labsL_rp l vs h
 | .lst k ds,h=>by
  erw[rp] at h
  cases e:f k with
  |some d=>rw[e] at h;exact .inr ⟨k,d,by erw[y4];exact o0 ..,e,h⟩
  |none=>
   rw[e] at h
   erw[y4] at h⊢
   rcases i8.mp h with h|h
   ·exact .inl (i8.mpr (.inl h))
   ·rcases labsL_rp l ds h with q|⟨k',d,q1,q2,q3⟩
    ·exact .inl (i4 _ q)
    ·exact .inr ⟨k',d,i4 _ q1,q2,q3⟩
 | .dct k ks vs,h=>by
  erw[rp] at h
  cases e:f k with
  |some d=>rw[e] at h;exact .inr ⟨k,d,by erw[y4];exact o0 ..,e,h⟩
  |none=>
   rw[e] at h
   erw[y4] at h⊢
   rcases i8.mp h with h|h
   ·exact .inl (i8.mpr (.inl h))
   ·rcases i5.mp h with h|h
    ·exact .inl (i4 _ (i3 _ h))
    ·rcases labsL_rp l vs h with q|⟨k',d,q1,q2,q3⟩
     ·exact .inl (i4 _ (b9 _ q))
     ·exact .inr ⟨k',d,i4 _ (b9 _ q1),q2,q3⟩
 | .obj k c ns vs,h=>by
  erw[rp] at h
  cases e:f k with
  |some d=>rw[e] at h;exact .inr ⟨k,d,by erw[y4];exact o0 ..,e,h⟩
  |none=>
   rw[e] at h
   erw[y4] at h⊢
   rcases i8.mp h with h|h
   ·exact .inl (i8.mpr (.inl h))
   ·rcases labsL_rp l vs h with q|⟨k',d,q1,q2,q3⟩
    ·exact .inl (i4 _ q)
    ·exact .inr ⟨k',d,i4 _ q1,q2,q3⟩
theorem labsL_rp(l:Nat): ∀t:List D,l∈labsL (rpL f t)->l∈labsL t\/∃k d,k∈labsL t/\f k=some d/\l∈y4 d
 |[],h=>by erw[rpL,labsL] at h;cases h
 |d::ds,h=>by
  erw[rpL,labsL] at h⊢
  rcases i5.mp h with h|h
  ·rcases z9r l d h with q|⟨k',d,q1,q2,q3⟩
   ·exact .inl (i3 _ q)
   ·exact .inr ⟨k',d,i3 _ q1,q2,q3⟩
  ·rcases labsL_rp l ds h with q|⟨k',d,q1,q2,q3⟩
   ·exact .inl (b9 _ q)
   ·exact .inr ⟨k',d,b9 _ q1,q2,q3⟩
end
theorem z3p(l:Nat): ∀t:List (Option D),l∈Z4 (rpO f t)->l∈Z4 t\/∃k d,k∈Z4 t/\f k=some d/\l∈y4 d
 |[],h=>by erw[rpO,Z4] at h;cases h
 |none::r,h=>by erw[rpO,Z4] at h⊢;exact z3p l r h
 |some d::ds,h=>by
  erw[rpO,Z4] at h⊢
  rcases i5.mp h with h|h
  ·rcases z9r l d h with q|⟨k',d,q1,q2,q3⟩
   ·exact .inl (i3 _ q)
   ·exact .inr ⟨k',d,i3 _ q1,q2,q3⟩
  ·rcases z3p l ds h with q|⟨k',d,q1,q2,q3⟩
   ·exact .inl (b9 _ q)
   ·exact .inr ⟨k',d,b9 _ q1,q2,q3⟩
end
structure Stt where
 σ:List (Option D)
 tm:List (Option D)
 n:Nat
structure Fx where
 A0:Addr->Prop
 H0:Hp
 Z:Addr->Prop
 zA: ∀a,Z a->(∃o,H0 a=some o)/\¬A0 a
 aH: ∀a,A0 a->∃o,H0 a=some o
 n0:Nat
 ρ0:Nat->Addr
noncomputable def KD(K:W.Frag)(H:Hp):Prop:= ∀a o,K.lookup a=some o->H a=none
section
variable(G:Gx)(ρ:Nat->Addr)(H:Hp)
noncomputable def Sl:List (Option D)->List (Option V)->Prop
 |[],vs=>vs=[]
 |none::r,vs=> ∃o q,vs=o::q/\Sl r q
 |some d::r,vs=> ∃v q,vs=some v::q/\RD G ρ H d v/\Sl r q
end
noncomputable def G1(s:Stt):List Nat:=Z4 s.σ++Z4 s.tm
structure MR(G:Gx)(F:Fx)(ρ:Nat->Addr)(H:Hp)(σv tv:List (Option V))(s:Stt):Prop where
 sl:Sl G ρ H s.σ σv
 tm:Sl G ρ H s.tm tv
 inj: ∀i j,i<s.n->j<s.n->ρ i=ρ j->i=j
 dom: ∀l,l<s.n->∃o,H (ρ l)=some o
 lab: ∀l∈G1 s,l<s.n
 own: ∀l∈G1 s,F.A0 (ρ l)\/F.H0 (ρ l)=none
 frm: ∀a o,F.H0 a=some o->(∃o',H a=some o')/\(¬F.A0 a->H a=some o)
 kd:KD G.K H
 frb: ∀l,l<s.n->¬F.Z (ρ l)
 bas:F.n0<=s.n/\∀l,l<F.n0->ρ l=F.ρ0 l
noncomputable def Stt.psh(s:Stt)(t:D):Stt:={s with tm:=some t::s.tm}
noncomputable def Stt.nxt(s:Stt):Stt:={s with n:=s.n+1}
section
variable{G:Gx}{F:Fx}{ρ ρ':Nat->Addr}{H H':Hp}{σv tv:List (Option V)}{s:Stt}{t:D}{v:V}
theorem Sl.stay(ts:X5 H H'): ∀{σ:List (Option D)} {σv:List (Option V)},Sl G ρ H σ σv->(∀l∈Z4 σ,ρ' l=ρ l/\∀o,H (ρ l)=some o->H' (ρ l)=some o)->Sl G ρ' H' σ σv
 |[],_,h,_=>h
 |none::r,_,h,hl=>by
  erw[Sl,Z4] at h hl⊢
  obtain⟨o,q,e,h⟩:=h
  exact⟨o,q,e,Sl.stay ts h hl⟩
 |some d::r,_,h,hl=>by
  erw[Sl,Z4] at h hl⊢
  obtain⟨o,q,e,h1,h⟩:=h
  exact⟨o,q,e,RD.stay ts d o h1 fun l hk=>hl l (i3 _ hk),Sl.stay ts h fun l hk=>hl l (b9 _ hk)⟩
theorem Sl.rp{f:Nat->Option D}(ts:X5 H H'): ∀{σ:List (Option D)} {σv:List (Option V)},Sl G ρ H σ σv->
 (∀l∈Z4 σ,ρ' l=ρ l/\(match f l with|some d=>RD G ρ' H' d (.ref (ρ l))|none=> ∀o,H (ρ l)=some o->H' (ρ l)=some o))->Sl G ρ' H' (rpO f σ) σv
 |[],_,h,_=>h
 |none::r,_,h,hl=>by
  erw[Sl,Z4,rpO] at h hl⊢
  obtain⟨o,q,e,h⟩:=h
  exact⟨o,q,e,Sl.rp ts h hl⟩
 |some d::r,_,h,hl=>by
  erw[Sl,Z4,rpO] at h hl⊢
  obtain⟨o,q,e,h1,h⟩:=h
  exact⟨o,q,e,RD.rp ts d o h1 fun l hk=>hl l (i3 _ hk),Sl.rp ts h fun l hk=>hl l (b9 _ hk)⟩
theorem Sl.get: ∀{σ:List (Option D)} {σv:List (Option V)},Sl G ρ H σ σv->∀(i:Nat) (d:D),σ[i]? =some (some d)->∃v,σv[i]? =some (some v)/\RD G ρ H d v
 |[],_,_,i,d,e=>by simp at e
 |none::r,_,h,i,d,e=>by
  erw[Sl] at h
  obtain⟨o,q,rfl,h⟩:=h
  cases i with
  |zero=>simp at e
  |succ i=>simpa using Sl.get h i d (by simpa using e)
 |some d'::r,_,h,i,d,e=>by
  erw[Sl] at h
  obtain⟨v,q,rfl,h1,h⟩:=h
  cases i with
  |zero=>simp at e;subst e;exact⟨v,rfl,h1⟩
  |succ i=>simpa using Sl.get h i d (by simpa using e)
theorem Sl.length: ∀{σ:List (Option D)} {σv:List (Option V)},Sl G ρ H σ σv->σ.length=σv.length
 |[],_,h=>by erw[Sl] at h;subst h;rfl
 |none::r,_,h=>by
  erw[Sl] at h
  obtain⟨o,q,rfl,h⟩:=h
  simp[Sl.length h]
 |some d'::r,_,h=>by
  erw[Sl] at h
  obtain⟨v,q,rfl,h1,h⟩:=h
  simp[Sl.length h]
theorem Sl.set: ∀{σ:List (Option D)} {σv:List (Option V)} (i:Nat),Sl G ρ H σ σv->RD G ρ H t v->Sl G ρ H (σ.set i (some t)) (σv.set i (some v))
 |[],_,i,h,_=>by erw[Sl] at h;subst h;simp[Sl]
 |none::r,_,i,h,ht=>by
  erw[Sl] at h
  obtain⟨o,q,rfl,h⟩:=h
  cases i with
  |zero=>erw[A7,Sl];exact⟨_,_,rfl,ht,h⟩
  |succ i=>erw[B5,Sl];exact⟨_,_,rfl,Sl.set i h ht⟩
 |some d'::r,_,i,h,ht=>by
  erw[Sl] at h
  obtain⟨v',q,rfl,h1,h⟩:=h
  cases i with
  |zero=>erw[A7,Sl];exact⟨_,_,rfl,ht,h⟩
  |succ i=>erw[B5,Sl];exact⟨_,_,rfl,h1,Sl.set i h ht⟩
theorem Sl.append: ∀{σ σ':List (Option D)} {σv σv':List (Option V)},Sl G ρ H σ σv->Sl G ρ H σ' σv'->Sl G ρ H (σ++σ') (σv++σv')
 |[],_,_,_,h,h'=>by erw[Sl] at h;subst h;exact h'
 |none::r,_,_,_,h,h'=>by
  erw[Sl] at h
  obtain⟨o,q,rfl,h⟩:=h
  erw[m8,Sl];exact⟨_,_,rfl,Sl.append h h'⟩
 |some d'::r,_,_,_,h,h'=>by
  erw[Sl] at h
  obtain⟨v,q,rfl,h1,h⟩:=h
  erw[m8,Sl];exact⟨_,_,rfl,h1,Sl.append h h'⟩
theorem Sl.split: ∀(σv:List (Option V)) {σ:List (Option D)} {tv:List (Option V)},Sl G ρ H σ (σv++tv)->Sl G ρ H (σ.take σv.length) σv/\Sl G ρ H (σ.drop σv.length) tv
 |[],σ,tv,h=>⟨by simp[Sl],by simpa using h⟩
 |o::σv,[],tv,h=>by simp[Sl] at h
 |o::σv,none::r,tv,h=>by
  erw[m8,Sl] at h
  obtain⟨o',q,e,h⟩:=h
  cases e
  obtain⟨h1,h2⟩:=Sl.split σv h
  erw[i7,D7,N3,Sl]
  exact⟨⟨_,_,rfl,h1⟩,h2⟩
 |o::σv,some d::r,tv,h=>by
  erw[m8,Sl] at h
  obtain⟨o',q,e,h0,h⟩:=h
  cases e
  obtain⟨h1,h2⟩:=Sl.split σv h
  erw[i7,D7,N3,Sl]
  exact⟨⟨_,_,rfl,h0,h1⟩,h2⟩
theorem z1h: ∀{σ:List (Option D)} {i:Nat} {d:D},σ[i]? =some (some d)->∀l∈y4 d,l∈Z4 σ
 |[],i,d,e,l,h=>by simp at e
 |none::r,i,d,e,l,h=>by
  erw[Z4]
  cases i with
  |zero=>simp at e
  |succ i=>exact z1h (i:=i) (by simpa using e) l h
 |some d'::r,i,d,e,l,h=>by
  erw[Z4]
  cases i with
  |zero=>simp at e;subst e;exact i3 _ h
  |succ i=>exact b9 _ (z1h (i:=i) (by simpa using e) l h)
theorem z3F: ∀{σ:List (Option D)} {i:Nat} {d:D} (l:Nat),l∈Z4 (σ.set i (some d))->l∈Z4 σ\/l∈y4 d
 |[],i,d,l,h=>by simp[Z4] at h
 |none::r,i,d,l,h=>by
  cases i with
  |zero=>
   erw[A7,Z4] at h⊢
   rcases i5.mp h with h|h
   ·exact .inr h
   ·exact .inl h
  |succ i=>
   erw[B5,Z4] at h⊢
   exact z3F l h
 |some d'::r,i,d,l,h=>by
  cases i with
  |zero=>
   erw[A7,Z4] at h⊢
   rcases i5.mp h with h|h
   ·exact .inr h
   ·exact .inl (b9 _ h)
  |succ i=>
   erw[B5,Z4] at h⊢
   rcases i5.mp h with h|h
   ·exact .inl (i3 _ h)
   ·rcases z3F l h with q|q
    ·exact .inl (b9 _ q)
    ·exact .inr q
theorem Y0: ∀(σ σ':List (Option D)),Z4 (σ++σ')=Z4 σ++Z4 σ'
 |[],_=>rfl
 |none::r,σ'=>by erw[m8,Z4,Y0 r σ']
 |some d::r,σ'=>by erw[m8,Z4,Y0 r σ',t5]
theorem Q5: ∀(σ σ':List D),labsL (σ++σ')=labsL σ++labsL σ'
 |[],_=>rfl
 |d::r,σ'=>by erw[m8,labsL,Q5 r σ',t5]
theorem labsL_mem: ∀{ds:List D} {d:D},d∈ds->∀l∈y4 d,l∈labsL ds
 |_::ds,d,h,l,hl=>by
  erw[labsL]
  rcases i8.mp h with rfl|h
  ·exact i3 _ hl
  ·exact b9 _ (labsL_mem h l hl)
theorem X6: ∀{ds:List D} {l:Nat},l∈labsL ds->∃d∈ds,l∈y4 d
 |d::ds,l,h=>by
  erw[labsL] at h
  rcases i5.mp h with h|h
  ·exact⟨d,o0 ..,h⟩
  ·obtain⟨x,h1,h2⟩:=X6 h
   exact⟨x,i4 _ h1,h2⟩
theorem RDs.get: ∀{ds:List D} {xs:List V},RDs G ρ H ds xs->∀(i:Nat) (d:D),ds[i]? =some d->∃x,xs[i]? =some x/\RD G ρ H d x
 |[],_,_,i,d,e=>by simp at e
 |d'::r,_,h,i,d,e=>by
  erw[RDs] at h
  obtain⟨x,q,rfl,h1,h2⟩:=h
  cases i with
  |zero=>simp at e;subst e;exact⟨x,rfl,h1⟩
  |succ i=>simpa using RDs.get h2 i d (by simpa using e)
theorem RDs.length: ∀{ds:List D} {xs:List V},RDs G ρ H ds xs->ds.length=xs.length
 |[],_,h=>by erw[RDs] at h;subst h;rfl
 |d'::r,_,h=>by
  erw[RDs] at h
  obtain⟨x,q,rfl,h1,h2⟩:=h
  simp[RDs.length h2]
theorem RDs.append: ∀{ds es:List D} {xs ys:List V},RDs G ρ H ds xs->RDs G ρ H es ys->RDs G ρ H (ds++es) (xs++ys)
 |[],_,_,_,h,h'=>by erw[RDs] at h;subst h;exact h'
 |d'::r,_,_,_,h,h'=>by
  erw[RDs] at h
  obtain⟨x,q,rfl,h1,h2⟩:=h
  erw[m8,RDs]
  exact⟨_,_,rfl,h1,RDs.append h2 h'⟩
theorem RDs.one{d:D}{x:V}(h:RD G ρ H d x):RDs G ρ H [d] [x]:=by erw[RDs];exact⟨_,_,rfl,h,rfl⟩
theorem RDs.take: ∀{ds:List D} {xs:List V} (k:Nat),RDs G ρ H ds xs->RDs G ρ H (ds.take k) (xs.take k)
 |_,_,0,_=>by simp[RDs]
 |[],_,k+1,h=>by erw[RDs] at h;subst h;simp[RDs]
 |d'::r,_,k+1,h=>by
  erw[RDs] at h
  obtain⟨x,q,rfl,h1,h2⟩:=h
  erw[D7,RDs]
  exact⟨_,_,rfl,h1,RDs.take k h2⟩
theorem RDs.drop: ∀{ds:List D} {xs:List V} (k:Nat),RDs G ρ H ds xs->RDs G ρ H (ds.drop k) (xs.drop k)
 |_,_,0,h=>h
 |[],_,k+1,h=>by erw[RDs] at h;subst h;simp[RDs]
 |d'::r,_,k+1,h=>by
  erw[RDs] at h
  obtain⟨x,q,rfl,h1,h2⟩:=h
  erw[N3]
  exact RDs.drop k h2
theorem RDs.set: ∀{ds:List D} {xs:List V} (k:Nat),RDs G ρ H ds xs->RD G ρ H t v->RDs G ρ H (ds.set k t) (xs.set k v)
 |[],_,k,h,_=>by erw[RDs] at h;subst h;simp[RDs]
 |d'::r,_,0,h,ht=>by
  erw[RDs] at h
  obtain⟨x,q,rfl,h1,h2⟩:=h
  erw[A7,RDs];exact⟨_,_,rfl,ht,h2⟩
 |d'::r,_,k+1,h,ht=>by
  erw[RDs] at h
  obtain⟨x,q,rfl,h1,h2⟩:=h
  erw[B5,RDs];exact⟨_,_,rfl,h1,RDs.set k h2 ht⟩
theorem MR.pop{o:Option V}{r:Option D}(M:MR G F ρ H σv (o::tv) {s with tm:=r::s.tm}):MR G F ρ H σv tv s where
 sl:=M.sl
 tm:=by
  have h:=M.tm
  cases r with
  |none=>erw[Sl] at h;obtain⟨_,_,e,h⟩:=h;cases e;exact h
  |some t=>erw[Sl] at h;obtain⟨_,_,e,_,h⟩:=h;cases e;exact h
 inj:=M.inj
 dom:=M.dom
 lab:=fun l h=>M.lab l (by
  rcases i5.mp h with h|h
  ·exact i3 _ h
  ·refine b9 _ ?_
   cases r with
   |none=>exact h
   |some t=>exact b9 _ h)
 own:=fun l h=>M.own l (by
  rcases i5.mp h with h|h
  ·exact i3 _ h
  ·refine b9 _ ?_
   cases r with
   |none=>exact h
   |some t=>exact b9 _ h)
 frm:=M.frm
 kd:=M.kd
 frb:=M.frb
 bas:=M.bas
theorem MR.top(M:MR G F ρ H σv (some v::tv) (s.psh t)):RD G ρ H t v:=by
 have h:=M.tm
 have h:Sl G ρ H (some t::s.tm) (some v::tv):=h
 erw[Sl] at h
 obtain⟨_,_,e,h,_⟩:=h
 cases e
 exact h
theorem MR.topl(M:MR G F ρ H σv tv (s.psh t)): ∀l∈y4 t,l<s.n/\(F.A0 (ρ l)\/F.H0 (ρ l)=none):=fun l h=>
 have m:l∈G1 (s.psh t):=b9 _ (i3 _ h)
 ⟨M.lab l m,M.own l m⟩
theorem MR.same(M:MR G F ρ H σv tv s)(h:z39 H H')(k:KD G.K H'):MR G F ρ H' σv tv s where
 sl:=Sl.stay (X5.of h) M.sl fun l _=>⟨rfl,fun o e=>h _ _ e⟩
 tm:=Sl.stay (X5.of h) M.tm fun l _=>⟨rfl,fun o e=>h _ _ e⟩
 inj:=M.inj
 dom:=fun l hl=>let⟨o,e⟩:=M.dom l hl;⟨o,h _ _ e⟩
 lab:=M.lab
 own:=M.own
 frm:=fun a o e=>let⟨⟨o',e1⟩,e2⟩:=M.frm a o e;⟨⟨o',h _ _ e1⟩,fun n=>h _ _ (e2 n)⟩
 kd:=k
 frb:=M.frb
 bas:=M.bas
theorem RDs.same{ts:List D}{vs:List V}(h:z39 H H')(r:RDs G ρ H ts vs):RDs G ρ H' ts vs:=RDs.stay (X5.of h) ts vs r fun l _=>⟨rfl,fun o e=>h _ _ e⟩
noncomputable def ext(ρ:Nat->Addr)(n:Nat)(p:Addr):Nat->Addr:=fun l=>if l=n then p else ρ l
theorem W3{n l:Nat}{p:Addr}(h:l<n):ext ρ n p l=ρ l:=by unfold ext;rw[if_neg (by lia)]
theorem X2{n:Nat}{p:Addr}:ext ρ n p n=p:=by unfold ext;rw[if_pos rfl]
theorem MR.new{p:Addr}{o:HO}(M:MR G F ρ H σv tv s)(hp:H p=none)(k:KD G.K (upd H p o)):MR G F (ext ρ s.n p) (upd H p o) σv tv s.nxt where
 sl:=Sl.stay (X5.of (z39.new o hp)) M.sl fun l hl=>⟨W3 (M.lab l (i3 _ hl)),fun o e=>z39.new _ hp _ _ e⟩
 tm:=Sl.stay (X5.of (z39.new o hp)) M.tm fun l hl=>⟨W3 (M.lab l (b9 _ hl)),fun o e=>z39.new _ hp _ _ e⟩
 inj:=fun i j hi hj e=>by
  have hi:i<s.n+1:=hi
  have hj:j<s.n+1:=hj
  have nn: ∀i,i<s.n->ρ i≠p:=fun i h e=>by
   obtain⟨o,q⟩:=M.dom i h
   rw[e,hp] at q;cases q
  by_cases h1:i=s.n
  ·by_cases h2:j=s.n
   ·lia
   ·rw[h1,X2,W3 (by lia)] at e
    exact absurd e.symm (nn j (by lia))
  ·by_cases h2:j=s.n
   ·rw[h2,X2,W3 (by lia)] at e
    exact absurd e (nn i (by lia))
   ·rw[W3 (by lia),W3 (by lia)] at e
    exact M.inj i j (by lia) (by lia) e
 dom:=fun l hl=>by
  have hl:l<s.n+1:=hl
  by_cases h1:l=s.n
  ·subst h1;rw[X2];exact⟨o,Y2⟩
  ·rw[W3 (by lia)]
   obtain⟨o',e⟩:=M.dom l (by lia)
   exact⟨o',z39.new _ hp _ _ e⟩
 lab:=fun l h=>E8 (M.lab l h)
 own:=fun l h=>by rw[W3 (M.lab l h)];exact M.own l h
 frm:=fun a o e=>let⟨⟨o',e1⟩,e2⟩:=M.frm a o e;⟨⟨o',z39.new _ hp _ _ e1⟩,fun n=>z39.new _ hp _ _ (e2 n)⟩
 kd:=k
 frb:=fun l hl=>by
  have hl:l<s.n+1:=hl
  by_cases h1:l=s.n
  ·subst h1;rw[X2]
   intro z
   obtain⟨⟨o,e⟩,_⟩:=F.zA p z
   obtain⟨⟨o',e'⟩,_⟩:=M.frm p o e
   rw[hp] at e';cases e'
  ·rw[W3 (by lia)]
   exact M.frb l (by lia)
 bas:=⟨S1 M.bas.1,fun l hl=>by rw[W3 (r8 hl M.bas.1)];exact M.bas.2 l hl⟩
theorem MR.fresh0{p:Addr}(M:MR G F ρ H σv tv s)(hp:H p=none):F.H0 p=none:=by
 cases q:F.H0 p with
 |none=>rfl
 |some o=>
  obtain⟨⟨o',e⟩,_⟩:=M.frm p o q
  rw[hp] at e;cases e
noncomputable def Stt.put(s:Stt)(l:Nat)(d:D):Stt:={s with σ:=rpO (fun k=>if k=l then some d else none) s.σ,tm:=rpO (fun k=>if k=l then some d else none) s.tm}
end
inductive Res(α:Type) where
 |ok (a:α) (s:Stt)|ex (d:D) (s:Stt)|no
noncomputable abbrev M(α:Type):=Stt->Res α
noncomputable def bd{α β:Type}(m:M α)(f:α->M β):M β:=fun s=>match m s with
 | .ok a s'=>f a s'
 | .ex d s'=> .ex d s'
 | .no=> .no
noncomputable def rt{α:Type}(a:α):M α:=fun s=> .ok a s
noncomputable def fl{α:Type}:M α:=fun _=> .no
noncomputable def psh(t:D):M Unit:=fun s=> .ok () (s.psh t)
noncomputable def pop:M D:=fun s=>match s.tm with
 |some t::r=> .ok t {s with tm:=r}
 |_=> .no
structure Fy extends Fx where
 tv0:List (Option V)
 xw:D->Stt->Prop
structure MRL(G:Gx)(F:Fx)(ρ:Nat->Addr)(H:Hp)(σv tv:List (Option V))(s:Stt)(ts:List D)(vs:List V):Prop where
 m:MR G F ρ H σv tv s
 rd:RDs G ρ H ts vs
 lb: ∀l∈labsL ts,l<s.n/\(F.A0 (ρ l)\/F.H0 (ρ l)=none)
section
variable{G:Gx}{F:Fy}{ρ ρ':Nat->Addr}{H H':Hp}{σv tv:List (Option V)}{s:Stt}{t t':D}{v u:V}{ts:List D}{vs:List V}{Q:VK}
theorem MRL.rd1(M:MRL G F.toFx ρ H σv tv s [t] [v]):RD G ρ H t v:=by
 have h:=M.rd
 erw[RDs] at h
 obtain⟨_,_,e,h,_⟩:=h
 cases e;exact h
theorem MRL.rd2(M:MRL G F.toFx ρ H σv tv s [t,t'] [v,u]):RD G ρ H t v/\RD G ρ H t' u:=by
 have h:=M.rd
 erw[RDs] at h
 obtain⟨_,_,e,h,_,_,e',h',_⟩:=h
 cases e;cases e';exact⟨h,h'⟩
theorem MRL.push(M:MRL G F.toFx ρ H σv tv s [t] [v]):MR G F.toFx ρ H σv (some v::tv) (s.psh t):=by
 have hl: ∀l∈y4 t,l<s.n/\(F.A0 (ρ l)\/F.H0 (ρ l)=none):=fun l h=>M.lb l (by erw[labsL,i9];exact h)
 refine⟨M.m.sl, ?_,M.m.inj,M.m.dom,fun l h=> ?_,fun l h=> ?_,M.m.frm,M.m.kd,M.m.frb,M.m.bas⟩
 ·show Sl G ρ H (some t::s.tm) _
  erw[Sl]
  exact⟨v,tv,rfl,M.rd1,M.m.tm⟩
 ·have h:l∈Z4 s.σ++(y4 t++Z4 s.tm):=h
  rcases i5.mp h with h|h
  ·exact M.m.lab l (i3 _ h)
  ·rcases i5.mp h with h|h
   ·exact(hl l h).1
   ·exact M.m.lab l (b9 _ h)
 ·have h:l∈Z4 s.σ++(y4 t++Z4 s.tm):=h
  rcases i5.mp h with h|h
  ·exact M.m.own l (i3 _ h)
  ·rcases i5.mp h with h|h
   ·exact(hl l h).2
   ·exact M.m.own l (b9 _ h)
theorem MRL.down{s':Stt}{r:List (Option D)}(M:MRL G F.toFx ρ H σv (some v::tv) s' ts vs)(e:s'.tm=some t::r):MRL G F.toFx ρ H σv tv {s' with tm:=r} (t::ts) (v::vs):=by
 obtain⟨σ,tm,n⟩:=s'
 have e:tm=some t::r:=e
 subst e
 refine⟨MR.pop (s:=⟨σ,r,n⟩) M.m, ?_,fun l h=> ?_⟩
 ·erw[RDs]
  exact⟨v,vs,rfl,MR.top (s:=⟨σ,r,n⟩) M.m,M.rd⟩
 ·erw[labsL] at h
  rcases i5.mp h with h|h
  ·exact MR.topl (s:=⟨σ,r,n⟩) M.m l h
  ·exact M.lb l h
noncomputable def wM(G:Gx)(F:Fy)(σv tv:List (Option V))(r:Res D)(Q:VK):Prop:=match r with
 | .ok t s'=> ∀ρ' v H',MRL G F.toFx ρ' H' σv tv s' [t] [v]->Q v H'
 | .ex d s'=>F.xw d s'
 | .no=>False
noncomputable def wL(G:Gx)(F:Fy)(σv tv:List (Option V))(r:Res (List D))(Q:List V->Hp->Prop):Prop:=match r with
 | .ok ts s'=> ∀ρ' vs H',MRL G F.toFx ρ' H' σv tv s' ts vs->Q vs H'
 | .ex d s'=>F.xw d s'
 | .no=>False
noncomputable def wB(G:Gx)(F:Fy)(σv tv:List (Option V))(r:Res Bool)(Q:Bool->Hp->Prop):Prop:=match r with
 | .ok b s'=> ∀ρ' H',MR G F.toFx ρ' H' σv tv s'->Q b H'
 | .ex d s'=>F.xw d s'
 | .no=>False
noncomputable def tMv(G:Gx)(F:Fy)(m:M D)(σv tv:List (Option V))(H:Hp)(Q:VK):Prop:=F.tv0<:+tv/\∃ρ s,MR G F.toFx ρ H σv tv s/\wM G F σv tv (m s) Q
noncomputable def tLv(G:Gx)(F:Fy)(m:M (List D))(σv tv:List (Option V))(H:Hp)(Q:List V->Hp->Prop):Prop:=F.tv0<:+tv/\∃ρ s,MR G F.toFx ρ H σv tv s/\wL G F σv tv (m s) Q
noncomputable def tBv(G:Gx)(F:Fy)(m:M Bool)(σv tv:List (Option V))(H:Hp)(Q:Bool->Hp->Prop):Prop:=F.tv0<:+tv/\∃ρ s,MR G F.toFx ρ H σv tv s/\wB G F σv tv (m s) Q
noncomputable def tM(G:Gx)(F:Fy)(m:M D):TE:=fun σv H Q=> ∃tv,tMv G F m σv tv H Q
noncomputable def tML(G:Gx)(F:Fy)(m:M (List D)):TA:=fun σv H Q=> ∃tv,tLv G F m σv tv H Q
noncomputable def tMB(G:Gx)(F:Fy)(m:M Bool):TT:=fun σv H Q=> ∃tv,tBv G F m σv tv H Q
noncomputable def SE(X:Cx)(G:Gx)(F:Fy)(e:Expr)(m:M D):Prop:=PE X e (tM G F m)
noncomputable def SA(X:Cx)(G:Gx)(F:Fy)(es:List Expr)(m:M (List D)):Prop:=PA X es (tML G F m)
noncomputable def SB(X:Cx)(G:Gx)(F:Fy)(e:Expr)(m:M Bool):Prop:=PT X e (tMB G F m)
theorem z8R{o:Option V}(h:F.tv0<:+tv):F.tv0<:+o::tv:=h.trans (List.suffix_cons _ _)
theorem z3G{m:M D}{f:D->M D}(h:tMv G F (bd m f) σv tv H Q):tMv G F m σv tv H (fun v H1=> ∃ρ1 s1 t,MRL G F.toFx ρ1 H1 σv tv s1 [t] [v]/\wM G F σv tv (f t s1) Q):=by
 obtain⟨hs,ρ,s,M,W⟩:=h
 refine⟨hs,ρ,s,M, ?_⟩
 unfold bd at W
 cases e:m s with
 |ok t s1=>rw[e] at W;exact fun ρ1 v H1 M1=>⟨ρ1,s1,t,M1,W⟩
 |ex d s1=>rw[e] at W;exact W
 |no=>rw[e] at W;exact W
noncomputable def y3(ma mb:M D)(g:D->D->M D):M D:=bd ma fun x=>bd (psh x) fun _=>bd mb fun y=>bd pop fun x'=>g x' y
theorem z7A{ma mb:M D}{g:D->D->M D}(h:tMv G F (y3 ma mb g) σv tv H Q):
 tMv G F ma σv tv H (fun v H1=>tMv G F mb σv (some v::tv) H1 (fun u H2=> ∃ρ2 s2 t t',MRL G F.toFx ρ2 H2 σv tv s2 [t,t'] [v,u]/\wM G F σv tv (g t t' s2) Q)):=by
 have h':=z3G h
 obtain⟨hs,ρ,s,M,W⟩:=h'
 refine⟨hs,ρ,s,M, ?_⟩
 cases e:ma s with
 |ok t s1=>
  rw[e] at W
  intro ρ1 v H1 M1
  obtain⟨ρ1,s1,t,M1,W⟩:=W ρ1 v H1 M1
  refine⟨z8R hs,ρ1,s1.psh t,M1.push, ?_⟩
  erw[bd,psh] at W
  cases e2:mb (s1.psh t) with
  |ok y s2=>
   rw[e2] at W
   intro ρ2 u H2 M2
   erw[pop] at W
   cases e3:s2.tm with
   |nil=>rw[e3] at W;exact W.elim
   |cons o r=>
    cases o with
    |none=>rw[e3] at W;exact W.elim
    |some t'=>
     rw[e3] at W
     exact⟨ρ2,{s2 with tm:=r},t',y,M2.down e3,W⟩
  |ex d s2=>rw[e2] at W;exact W
  |no=>rw[e2] at W;exact W
 |ex d s1=>rw[e] at W;exact W
 |no=>rw[e] at W;exact W
noncomputable def mArgs:List (M D)->M (List D)
 |[]=>rt []
 |m::ms=>bd m fun x=>bd (psh x) fun _=>bd (mArgs ms) fun ys=>bd pop fun x'=>rt (x'::ys)
end
section
variable{X:Cx}{G:Gx}{F:Fy}{e a b c:Expr}{pos:Pos}
theorem Inv.kd{pins:List (Addr×Obj)}{σ:St}{H:Hp}{s:Shared}(I:Inv X pins σ H s):KD X.K H:=fun a o e=>(I.bs a o (I.ok.mod.kin a o e)).2
theorem PE.imp{t t':TE}(hk:X.K=G.K)(h:PE X e t)(hi: ∀σ H Q,t' σ H Q->t σ H (fun v H'=>KD G.K H'->Q v H')):PE X e t':=fun pins s σ H Q I q=>
 thn (h pins s σ H _ I (hi σ H Q q)) fun u s' ⟨v,H',I',r,k⟩=>⟨v,H',I',r,k (hk▸Inv.kd I')⟩
theorem PT.imp{t t':TT}(hk:X.K=G.K)(h:PT X e t)(hi: ∀σ H Q,t' σ H Q->t σ H (fun v H'=>KD G.K H'->Q v H')):PT X e t':=fun pins s σ H Q I q=>
 thn (h pins s σ H _ I (hi σ H Q q)) fun u s' ⟨H',I',k⟩=>⟨H',I',k (hk▸Inv.kd I')⟩
theorem PA.imp{es:List Expr}{t t':TA}(hk:X.K=G.K)(h:PA X es t)(hi: ∀σ H Q,t' σ H Q->t σ H (fun v H'=>KD G.K H'->Q v H')):PA X es t':=fun pos pins s σ H Q I q=>
 thn (h pos pins s σ H _ I (hi σ H Q q)) fun u s' ⟨v,H',I',r,k⟩=>⟨v,H',I',r,k (hk▸Inv.kd I')⟩
noncomputable def z9s(G:Gx)(F:Fy)(r:R2)(g:D->D->M D):Prop:= ∀ρ s t t' v u H σv tv Q,MRL G F.toFx ρ H σv tv s [t,t'] [v,u]->wM G F σv tv (g t t' s) Q->r v u H (fun w H'=>KD G.K H'->Q w H')
noncomputable def z01(G:Gx)(F:Fy)(r:R2)(g:D->D->M D):Prop:= ∀ρ s t t' v u H σv tv Q,MRL G F.toFx ρ H σv tv s [t,t'] [v,u]->wM G F σv tv (g t t' s) Q->r v u H Q
noncomputable def zjs(G:Gx)(F:Fy)(r:V->Hp->VK->Prop)(g:D->M D):Prop:= ∀ρ s t v H σv tv Q,MRL G F.toFx ρ H σv tv s [t] [v]->wM G F σv tv (g t s) Q->r v H (fun w H'=>KD G.K H'->Q w H')
noncomputable def V2(G:Gx)(F:Fy)(r:List V->Hp->VK->Prop)(g:List D->M D):Prop:= ∀ρ s ts vs H σv tv Q,MRL G F.toFx ρ H σv tv s ts vs->wM G F σv tv (g ts s) Q->r vs H (fun w H'=>KD G.K H'->Q w H')
theorem z6L{op:Operator}{r:R2}{ma mb:M D}{g:D->D->M D}(hk:X.K=G.K)(ho:OpR X (binaryOp op) r)(hg:z9s G F r g)(ha:SE X G F a ma)(hb:SE X G F b mb):SE X G F (.BinOp a op b pos) (y3 ma mb g):=by
 refine PE.imp hk (zja ho ha hb) fun σ H Q ⟨tv,h⟩=>⟨tv, ?_⟩
 obtain⟨hs,ρ,s,M,W⟩:=z7A h
 refine⟨hs,ρ,s,M, ?_⟩
 cases e:ma s with
 |ok t s1=>
  rw[e] at W
  intro ρ1 v H1 M1
  refine⟨some v::tv, ?_⟩
  obtain⟨hs2,ρ2,s2,M2,W2⟩:=W ρ1 v H1 M1
  refine⟨hs2,ρ2,s2,M2, ?_⟩
  cases e2:mb s2 with
  |ok t2 s3=>
   rw[e2] at W2
   intro ρ3 u H3 M3
   obtain⟨ρ4,s4,x,y,M4,W4⟩:=W2 ρ3 u H3 M3
   exact hg _ _ _ _ _ _ _ _ _ _ M4 W4
  |ex d s3=>rw[e2] at W2;exact W2
  |no=>rw[e2] at W2;exact W2
 |ex d s1=>rw[e] at W;exact W
 |no=>rw[e] at W;exact W
theorem wM.mono{σv tv:List (Option V)}{r:Res D}{Q Q':VK}(h:wM G F σv tv r Q)(k: ∀v H,Q v H->Q' v H):wM G F σv tv r Q':=by
 cases r with
 |ok t s=>exact fun ρ v H M=>k _ _ (h ρ v H M)
 |ex d s=>exact h
 |no=>exact h
theorem tMv.mono{m:M D}{σv tv:List (Option V)}{H:Hp}{Q Q':VK}(h:tMv G F m σv tv H Q)(k: ∀v H,Q v H->Q' v H):tMv G F m σv tv H Q':=by
 obtain⟨hs,ρ,s,M,W⟩:=h
 exact⟨hs,ρ,s,M,W.mono k⟩
theorem zdJ{ma mb:M D}{g:D->D->M D}{R:V->V->Hp->VK->Prop}{σv:St}{H:Hp}{Q:VK}(hg:z9s G F R g)(h:tM G F (y3 ma mb g) σv H Q):
 tM G F ma σv H fun x H1=>tM G F mb σv H1 fun y H2=>R x y H2 fun w H'=>KD G.K H'->Q w H':=by
 obtain⟨tv,h⟩:=h
 exact⟨tv,(z7A h).mono fun v H1 h1=>⟨_,h1.mono fun u H2 ⟨ρ,s,t,t',M,W⟩=>hg _ _ _ _ _ _ _ _ _ _ M W⟩⟩
theorem zfT{ma:M D}{g:D->M D}{R:V->Hp->VK->Prop}{σv:St}{H:Hp}{Q:VK}(hg:zjs G F R g)(h:tM G F (bd ma g) σv H Q):
 tM G F ma σv H fun x H1=>R x H1 fun w H'=>KD G.K H'->Q w H':=by
 obtain⟨tv,h⟩:=h
 exact⟨tv,(z3G h).mono fun v H1 ⟨ρ,s,t,M,W⟩=>hg _ _ _ _ _ _ _ _ M W⟩
theorem zjt{op:UnaryOp}{r:V->Hp->VK->Prop}{ma:M D}{g:D->M D}(hk:X.K=G.K)(ho:UnR X (unaryOp op) r)(hg:zjs G F r g)(ha:SE X G F a ma):SE X G F (.UnaryOp op a pos) (bd ma g):=
 PE.imp hk (zjb ho ha) fun _ _ _ h=>zfT hg h
theorem z4R{ma mb:M D}{g:D->D->M D}{R:V->V->Hp->VK->Prop}{σv:St}{H:Hp}{Q:VK}(hg:z01 G F R g)(h:tM G F (y3 ma mb g) σv H Q):
 tM G F ma σv H fun x H1=>tM G F mb σv H1 fun y H2=>R x y H2 Q:=by
 obtain⟨tv,h⟩:=h
 exact⟨tv,(z7A h).mono fun v H1 h1=>⟨_,h1.mono fun u H2 ⟨ρ,s,t,t',M,W⟩=>hg _ _ _ _ _ _ _ _ _ _ M W⟩⟩
theorem PE.imp0{t t':TE}(h:PE X e t)(hi: ∀σ H Q,t' σ H Q->t σ H Q):PE X e t':=fun pins s σ H Q I q=>h pins s σ H _ I (hi σ H Q q)
theorem PT.imp0{t t':TT}(h:PT X e t)(hi: ∀σ H Q,t' σ H Q->t σ H Q):PT X e t':=fun pins s σ H Q I q=>h pins s σ H _ I (hi σ H Q q)
theorem zdK{op:CmpOp}{r:R2}{ma mb:M D}{g:D->D->M D}(ho:OpR X (compareOp op) r)(hg:z01 G F r g)(ha:SE X G F a ma)(hb:SE X G F b mb)(hm:behindInMarks op b=false):SE X G F (.Compare a [op] [b] pos) (y3 ma mb g):=
 PE.imp0 (zds ho ha hb hm) fun _ _ _ h=>z4R hg h
theorem zju{r:R2}{ma mb:M D}{g:D->D->M D}(hk:X.K=G.K)(ho:IxR X r)(hg:z9s G F r g)(ha:SE X G F a ma)(hb:SE X G F b mb)(hs:z2E b):SE X G F (.Subscript a b pos) (y3 ma mb g):=
 PE.imp hk (zjn ho ha hb hs) fun _ _ _ h=>zdJ hg h
theorem zfU(hk:X.K=G.K):SA X G F [] (mArgs []):=by
 refine PA.imp hk z36 fun σ H Q ⟨tv,hs,ρ,s,M,W⟩ _=>W ρ [] H ⟨M,rfl,fun l h=>by simp[labsL] at h⟩
noncomputable def nst:Expr->Bool
 | .Starred _ _=>false
 |_=>true
theorem z9t{es:List Expr}{env:Env}(h:nst e=true):starEach (e::es) env=(false,eval e env)::starEach es env:=by
 cases e<;>first|rfl|exact P0 h
theorem zdL{es:List Expr}{m:M D}{ms:List (M D)}(hk:X.K=G.K)(ha:SE X G F e m)(hr:SA X G F es (mArgs ms))(hs:nst e=true:=by rfl):SA X G F (e::es) (mArgs (m::ms)):=by
 refine PA.imp hk (Y1 ha hr (z9t hs)) fun σ H Q ⟨tv,hs,ρ,s,M,W⟩=>⟨tv,hs,ρ,s,M, ?_⟩
 unfold mArgs at W
 erw[bd,psh] at W
 cases e:m s with
 |ok t s1=>
  rw[e] at W
  intro ρ1 v H1 M1
  refine⟨some v::tv,z8R hs,ρ1,s1.psh t,M1.push, ?_⟩
  dsimp only at W
  cases e2:mArgs ms (s1.psh t) with
  |ok ys s2=>
   rw[e2] at W
   intro ρ2 us H2 M2 _
   erw[pop,rt] at W
   cases e3:s2.tm with
   |nil=>rw[e3] at W;exact W.elim
   |cons o r=>
    cases o with
    |none=>rw[e3] at W;exact W.elim
    |some t'=>
     rw[e3] at W
     exact W ρ2 (v::us) H2 (M2.down e3)
  |ex d s2=>rw[e2] at W;exact W
  |no=>rw[e2] at W;exact W
 |ex d s1=>rw[e] at W;exact W
 |no=>rw[e] at W;exact W
noncomputable def mCB(ms:List (M D))(g:List D->M D):M D:=bd (mArgs ms) g
theorem z3q{ma:M (List D)}{g:List D->M D}{R:List V->Hp->VK->Prop}{σv:St}{H:Hp}{Q:VK}(hg:V2 G F R g)(h:tM G F (bd ma g) σv H Q):
 tML G F ma σv H fun xs H1=>R xs H1 fun w H'=>KD G.K H'->Q w H':=by
 obtain⟨tv,hs,ρ,s,M,W⟩:=h
 refine⟨tv,hs,ρ,s,M, ?_⟩
 unfold bd at W
 cases e:ma s with
 |ok ts s1=>rw[e] at W;exact fun ρ1 vs H1 M1=>hg _ _ _ _ _ _ _ _ M1 W
 |ex d s1=>rw[e] at W;exact W
 |no=>rw[e] at W;exact W
theorem zbn{x:Str}{p:Pos}{es:List Expr}{ms:List (M D)}{g:List D->M D}{id:String}{r:List V->Hp->VK->Prop}(hk:X.K=G.K)(hc:CallR X (.builtin id) r)(hg:V2 G F r g)(hgl:Gl X x)(hm:X.mg x=none)(hv:bootBuiltins x=some (.builtin id))(ha:SA X G F (e::es) (mArgs ms))(hn:x≠ "__name__" :=by decide)(hdb:(x==("__debug__" :Str))=false:=by decide)
 (he:starEach (e::es) X.env=(false,eval e X.env)::starEach es X.env:=by rfl) (hpl:(backTo pos (starEach es X.env)).any (·.1)=false:=by rfl):SE X G F (.Call (.Name x p) (e::es) [] pos) (mCB ms g):=
 PE.imp hk (z3n hc hgl hm hv ha hn hdb he hpl) fun _ _ _ h=>z3q hg h
theorem z9u{x:Str}{p:Pos}{es:List Expr}{ms:List (M D)}{g:List D->M D}{T:String}{r:List V->Hp->VK->Prop}(hk:X.K=G.K)(hc:CallR X (.type T) r)(hg:V2 G F r g)(hgl:Gl X x)(hm:X.mg x=none)(hv:bootBuiltins x=some (.type T))(ha:SA X G F (e::es) (mArgs ms))(hn:x≠ "__name__" :=by decide)(hdb:(x==("__debug__" :Str))=false:=by decide)
 (he:starEach (e::es) X.env=(false,eval e X.env)::starEach es X.env:=by rfl) (hpl:(backTo pos (starEach es X.env)).any (·.1)=false:=by rfl):SE X G F (.Call (.Name x p) (e::es) [] pos) (mCB ms g):=
 PE.imp hk (z9c hc hgl hm hv ha hn hdb he hpl) fun _ _ _ h=>z3q hg h
noncomputable def y0(i:Nat):M D:=fun s=>match s.σ[i]? with
 |some (some t)=> .ok t s
 |_=> .no
theorem se_var(i:Nat){x:Str}(hk:X.K=G.K)(h:PE X (.Name x pos) (ziL i)):SE X G F (.Name x pos) (y0 i):=by
 refine PE.imp hk h fun σ H Q ⟨tv,hs,ρ,s,M,W⟩=> ?_
 unfold y0 at W
 cases e:s.σ[i]? with
 |none=>rw[e] at W;exact W.elim
 |some o=>
  cases o with
  |none=>rw[e] at W;exact W.elim
  |some t=>
   rw[e] at W
   obtain⟨v,h1,h2⟩:=M.sl.get i t e
   refine⟨v,h1,fun _=>W ρ v H ⟨M,RDs.one h2,fun l hl=> ?_⟩⟩
   erw[labsL,i9] at hl
   have:=z1h e l hl
   exact⟨M.lab l (i3 _ this),M.own l (i3 _ this)⟩
noncomputable def cV:D->Option V
 | .non=>some .non| .bool b=>some (.bl b)| .int i=>some (.int i)| .str x=>some (.str x)|_=>none
theorem z8q{d:D}{v:V}{ρ:Nat->Addr}{H:Hp}(h:cV d=some v):RD G ρ H d v/\y4 d=[]:=by
 cases d<;>erw[cV,Option.some.injEq] at h<;>first|(subst h;exact⟨by erw[RD],by erw[y4]⟩)|cases h
noncomputable def mC(d:D):M D:=rt d
theorem se_c{d:D}{v:V}(hk:X.K=G.K)(h:PE X e (tC v))(hd:cV d=some v:=by rfl):SE X G F e (mC d):=by
 refine PE.imp hk h fun σ H Q ⟨tv,hs,ρ,s,M,W⟩ _=>W ρ v H ⟨M,RDs.one (z8q hd).1,fun l hl=> ?_⟩
 erw[labsL,(z8q (G:=G) (ρ:=ρ) (H:=H) hd).2] at hl
 cases hl
theorem wM.out{σv tv:List (Option V)}{s:Stt}{t:D}{v:V}{ρ:Nat->Addr}{H:Hp}{Q:VK}(W:wM G F σv tv (.ok t s) Q)(M:MR G F.toFx ρ H σv tv s)(h:RD G ρ H t v)(hl: ∀l∈y4 t,l<s.n/\(F.A0 (ρ l)\/F.H0 (ρ l)=none)):Q v H:=
 W ρ v H ⟨M,RDs.one h,fun l q=>hl l (by simpa only[labsL,i9] using q)⟩
theorem wM.flat{σv tv:List (Option V)}{s:Stt}{t:D}{v:V}{ρ:Nat->Addr}{H:Hp}{Q:VK}(W:wM G F σv tv (.ok t s) Q)(M:MR G F.toFx ρ H σv tv s)(h:cV t=some v):Q v H:=
 W.out M (z8q h).1 fun l q=>by rw[(z8q (G:=G) (ρ:=ρ) (H:=H) h).2] at q;cases q
end
mutual
noncomputable def er:D->PyData
 | .non=> .none| .bool b=> .bool b| .int i=> .int i| .str x=> .str x
 | .tup ds=> .tuple (erL ds)
 | .ro ds=> .list (erL ds)
 | .lst _ ds=> .list (erL ds)
 | .dct _ _ _=> .none
 | .obj _ _ _ _=> .none
 | .exc _=> .none| .fn _=> .none| .fdc _ _=> .none
noncomputable def erL:List D->List PyData
 |[]=>[]
 |d::ds=>er d::erL ds
end
mutual
noncomputable def plain:D->Bool
 | .non=>true| .bool _=>true| .int _=>true| .str _=>true
 | .tup ds=>plainL ds
 | .ro ds=>plainL ds
 | .lst _ ds=>plainL ds
 | .dct _ _ _=>false
 | .obj _ _ _ _=>false
 | .exc _=>false| .fn _=>false| .fdc _ _=>false
noncomputable def plainL:List D->Bool
 |[]=>true
 |d::ds=>plain d&&plainL ds
end
noncomputable def z4S:D->Option (List D)
 | .tup ds=>some ds| .ro ds=>some ds| .lst _ ds=>some ds|_=>none
noncomputable def zaY:D->Option (List D)
 | .ro ds=>some ds| .lst _ ds=>some ds|_=>none
section
variable{G:Gx}{F:Fy}{ρ:Nat->Addr}{H H':Hp}{σv tv:List (Option V)}{s:Stt}{t t':D}{v u:V}{ts ds:List D}{vs xs:List V}{Q:VK}
mutual
theorem RD.dp: ∀(t:D) (v:V),RD G ρ H t v->plain t=true->Dp G.K H (er t) v
 | .non,v,h,_=>by erw[RD,er,Dp] at h⊢;exact h
 | .bool b,v,h,_=>by erw[RD,er,Dp] at h⊢;exact h
 | .int b,v,h,_=>by erw[RD,er,Dp] at h⊢;exact h
 | .str b,v,h,_=>by erw[RD,er,Dp] at h⊢;exact h
 | .tup ds,v,h,p=>by
  erw[RD,er,Dp,plain] at h p⊢
  obtain⟨a,xs,e,s,r⟩:=h
  exact⟨a,xs,e,SqT.of s,RDs.dp ds xs r p⟩
 | .ro ds,v,h,p=>by
  erw[RD,er,Dp,plain] at h p⊢
  obtain⟨a,xs,e,s,r⟩:=h
  exact⟨a,xs,e,s.sq,RDs.dp ds xs r p⟩
 | .lst l ds,v,h,p=>by
  erw[RD,er,Dp,plain] at h p⊢
  obtain⟨e,xs,s,r⟩:=h
  exact⟨_,xs,e,SqL.of s,RDs.dp ds xs r p⟩
 | .dct l ks vs,v,h,p=>by erw[plain] at p;cases p
 | .fdc ks vs,v,h,p=>by erw[plain] at p;cases p
 | .obj l c ns vs,v,h,p=>by erw[plain] at p;cases p
 | .exc c,v,h,p=>by erw[plain] at p;cases p
 | .fn c,v,h,p=>by erw[plain] at p;cases p
theorem RDs.dp: ∀(t:List D) (v:List V),RDs G ρ H t v->plainL t=true->DpAll G.K H (erL t) v
 |[],v,h,_=>by erw[RDs,erL,DpAll] at h⊢;exact h
 |d::ds,v,h,p=>by
  erw[RDs,erL,DpAll,plainL,i6] at h p⊢
  obtain⟨x,r,e,h1,h2⟩:=h
  exact⟨x,r,e,RD.dp d x h1 p.1,RDs.dp ds r h2 p.2⟩
end
theorem RD.seq(h:RD G ρ H t v)(e:z4S t=some ds): ∃a xs,v= .ref a/\(SqL G.K H a xs\/SqT G.K H a xs)/\RDs G ρ H ds xs/\∀l∈labsL ds,l∈y4 t:=by
 cases t<;>erw[z4S,Option.some.injEq] at e<;>try cases e
 ·erw[RD] at h
  obtain⟨a,xs,e,s,r⟩:=h
  exact⟨a,xs,e, .inr (SqT.of s),r,fun l hl=>by erw[y4];exact hl⟩
 ·erw[RD] at h
  obtain⟨a,xs,e,s,r⟩:=h
  exact⟨a,xs,e, .inl s.sq,r,fun l hl=>by erw[y4];exact hl⟩
 ·erw[RD] at h
  obtain⟨e,xs,s,r⟩:=h
  exact⟨_,xs,e, .inl (SqL.of s),r,fun l hl=>by erw[y4];exact i4 _ hl⟩
theorem RD.lstq(h:RD G ρ H t v)(e:zaY t=some ds): ∃a xs,v= .ref a/\SqL G.K H a xs/\RDs G ρ H ds xs/\∀l∈labsL ds,l∈y4 t:=by
 cases t<;>erw[zaY,Option.some.injEq] at e<;>try cases e
 ·erw[RD] at h
  obtain⟨a,xs,e,s,r⟩:=h
  exact⟨a,xs,e,s.sq,r,fun l hl=>by erw[y4];exact hl⟩
 ·erw[RD] at h
  obtain⟨e,xs,s,r⟩:=h
  exact⟨_,xs,e,SqL.of s,r,fun l hl=>by erw[y4];exact i4 _ hl⟩
theorem RD.tupx(h:RD G ρ H (.tup ds) v): ∃a xs,v= .ref a/\H a=some (.tup xs)/\RDs G ρ H ds xs:=by
 erw[RD] at h;exact h
theorem RD.tupq(h:RD G ρ H (.tup ds) v): ∃a xs,v= .ref a/\SqT G.K H a xs/\RDs G ρ H ds xs:=by
 obtain⟨a,xs,e,s,r⟩:=h.tupx
 exact⟨a,xs,e,SqT.of s,r⟩
theorem RD.seqx(h:RD G ρ H t v)(e:z4S t=some ds): ∃a xs,v= .ref a/\(SqL G.K H a xs\/H a=some (.tup xs))/\RDs G ρ H ds xs/\∀l∈labsL ds,l∈y4 t:=by
 cases t<;>erw[z4S,Option.some.injEq] at e<;>try cases e
 ·erw[RD] at h
  obtain⟨a,xs,e,s,r⟩:=h
  exact⟨a,xs,e, .inr s,r,fun l hl=>by erw[y4];exact hl⟩
 ·erw[RD] at h
  obtain⟨a,xs,e,s,r⟩:=h
  exact⟨a,xs,e, .inl s.sq,r,fun l hl=>by erw[y4];exact hl⟩
 ·erw[RD] at h
  obtain⟨e,xs,s,r⟩:=h
  exact⟨_,xs,e, .inl (SqL.of s),r,fun l hl=>by erw[y4];exact i4 _ hl⟩
theorem MRL.lb1(M:MRL G F.toFx ρ H σv tv s [t] [v]): ∀l∈y4 t,l<s.n/\(F.A0 (ρ l)\/F.H0 (ρ l)=none):=fun l h=>M.lb l (by erw[labsL,i9];exact h)
theorem MRL.lb2(M:MRL G F.toFx ρ H σv tv s [t,t'] [v,u]):(∀l∈y4 t,l<s.n/\(F.A0 (ρ l)\/F.H0 (ρ l)=none))/\(∀l∈y4 t',l<s.n/\(F.A0 (ρ l)\/F.H0 (ρ l)=none)):=
 ⟨fun l h=>M.lb l (by erw[labsL,i9];exact i3 _ h),fun l h=>M.lb l (by erw[labsL,i9];exact b9 _ h)⟩
noncomputable abbrev LB(F:Fx)(ρ:Nat->Addr)(n:Nat)(ls:List Nat):Prop:= ∀l∈ls,l<n/\(F.A0 (ρ l)\/F.H0 (ρ l)=none)
theorem z4T(W:wM G F σv tv (.ok (.tup ds) s) Q)(M:MR G F.toFx ρ H σv tv s)(r:RDs G ρ H ds xs)(lb:LB F.toFx ρ s.n (labsL ds)):zbl G.K H xs (fun w H'=>KD G.K H'->Q w H'):=by
 refine zbl.intro fun p H' sq sm k=> ?_
 exact W.out (M.same sm k) (by erw[RD];exact⟨p,xs,rfl,sq,r.same sm⟩) (by erw[y4];exact lb)
theorem z6M{p:Addr}(W:wM G F σv tv (.ok (.tup ds) s) Q)(M:MR G F.toFx ρ H σv tv s)(r:RDs G ρ H ds xs)(lb:LB F.toFx ρ s.n (labsL ds))(hp:H p=none)(k:KD G.K (upd H p (.tup xs))):Q (.ref p) (upd H p (.tup xs)):=by
 have sm:=z39.new (.tup xs) hp
 exact W.out (M.same sm k) (by erw[RD];exact⟨p,xs,rfl,Y2,r.same sm⟩) (by erw[y4];exact lb)
theorem RDs.ext{p:Addr}{o:HO}(M:MR G F.toFx ρ H σv tv s)(r:RDs G ρ H ds xs)(lb:LB F.toFx ρ s.n (labsL ds))(hp:H p=none):RDs G (ext ρ s.n p) (upd H p o) ds xs:=
 RDs.stay (X5.of (z39.new o hp)) ds xs r fun l hl=>⟨W3 (lb l hl).1,fun o e=>z39.new _ hp _ _ e⟩
theorem z26{p:Addr}(W:wM G F σv tv (.ok (.lst s.n ds) s.nxt) Q)(M:MR G F.toFx ρ H σv tv s)(r:RDs G ρ H ds xs)(lb:LB F.toFx ρ s.n (labsL ds))(hp:H p=none)(k:KD G.K (upd H p (.lst xs))):Q (.ref p) (upd H p (.lst xs)):=by
 refine W.out (M.new hp k) ?_ fun l hl=> ?_
 ·erw[RD]
  rw[X2]
  exact⟨rfl,xs,Y2,RDs.ext M r lb hp⟩
 ·erw[y4] at hl
  rcases i8.mp hl with q|q
  ·rw[q]
   exact⟨D0 _,by rw[X2];exact .inr (M.fresh0 hp)⟩
  ·obtain⟨h1,h2⟩:=lb l q
   exact⟨E8 h1,by rw[W3 h1];exact h2⟩
end
noncomputable def zaZ(ds:List D):M D:=fun s=> .ok (.lst s.n ds) s.nxt
noncomputable def W8:D->D->M D
 | .int i, .int j=>rt (.int (i+j))
 | .tup a, .tup b=>if a.length+b.length<=sizeLine then rt (.tup (a++b)) else fl
 | .lst _ a, .lst _ b=>if a.length+b.length<=sizeLine then zaZ (a++b) else fl
 | .str a, .str b=>if a.length+b.length<=sizeLine then rt (.str (a++b)) else fl
 |_,_=>fl
noncomputable def zbo:D->D->M D
 | .int i, .int j=>rt (.int (i -j))
 |_,_=>fl
instance(i j:Int):Decidable (zbd i j):=by unfold zbd;infer_instance
instance(i j:Int):Decidable (zeZ i j):=by unfold zeZ;infer_instance
instance(i j:Int):Decidable (zf0 i j):=by unfold zf0;infer_instance
noncomputable def z5O:D->D->M D
 | .int i, .int j=>if zbd i j then rt (.int (i*j)) else fl
 | .lst _ a, .int k=>if -(2^63)<=k/\k<2^63/\a.length*k.toNat<=sizeLine then zaZ (u03 (l7 k.toNat a)) else fl
 | .tup a, .int k=>if 0<a.length/\2<=k/\k<2^63/\a.length*k.toNat<=sizeLine then rt (.tup (u03 (l7 k.toNat a))) else fl
 |_,_=>fl
noncomputable def z66:D->D->M D
 | .int i, .int j=>if zeZ i j then rt (.int (i/j)) else fl
 |_,_=>fl
noncomputable def z49:D->D->M D
 | .int i, .int j=>if 0<j then rt (.int (i %j)) else fl
 |_,_=>fl
noncomputable def z9v:D->D->M D
 | .int i, .int j=>if zf0 i j then rt (.int (i^j.toNat)) else fl
 |_,_=>fl
noncomputable def ltD:D->D->M D
 | .int i, .int j=>rt (.bool (decide (i<j)))
 |_,_=>fl
noncomputable def leD:D->D->M D
 | .int i, .int j=>rt (.bool (decide (i<=j)))
 |_,_=>fl
noncomputable def gtD:D->D->M D
 | .int i, .int j=>rt (.bool (decide (j<i)))
 |_,_=>fl
noncomputable def eqC(t t':D):Bool:=plain t&&plain t'&&(er t).canLay0&&(er t').canLay0&&decide (min (er t).depth (er t').depth<=60)
noncomputable def eqD(t t':D):M D:=if eqC t t'=true then rt (.bool (PyData.eqv (er t) (er t'))) else fl
noncomputable def neD(t t':D):M D:=if eqC t t'=true then rt (.bool (!PyData.eqv (er t) (er t'))) else fl
noncomputable def inC(t:D)(ds:List D):Bool:=plain t&&plainL ds&&(er t).canLay0&&PyData.canLayAll0 (erL ds)&&decide (min (PyData.depthAll (erL ds)) (er t).depth<=60)
noncomputable def inD(t t':D):M D:=match z4S t' with
 |some ds=>if inC t ds=true then rt (.bool ((erL ds).any fun y=>PyData.eqv y (er t))) else fl
 |none=>fl
noncomputable def zct(t t':D):M D:=match z4S t' with
 |some ds=>if inC t ds=true then rt (.bool (!(erL ds).any fun y=>PyData.eqv y (er t))) else fl
 |none=>fl
noncomputable def isN:D->D->M D
 | .non, .non=>rt (.bool true)
 |_, .non=>rt (.bool false)
 |_,_=>fl
noncomputable def zf1:Option D->M D
 |some d=>rt d
 |none=>fl
noncomputable def ixG:Option (List D)->D->M D
 |some ds, .int i=>zf1 (atI ds i)
 |_,_=>fl
noncomputable def ixD(t t':D):M D:=ixG (z4S t) t'
noncomputable def z8S:D->M D
 | .int i=>rt (.int (-i))
 |_=>fl
section
variable{G:Gx}{F:Fy}
theorem wfl{σv tv:List (Option V)}{s:Stt}{Q:VK}{A:Prop}(h:wM G F σv tv ((fl:M D) s) Q):A:=False.elim h
theorem z4U{ρ:Nat->Addr}{H:Hp}{σv tv:List (Option V)}{s:Stt}{i j:Int}{v u:V}(M:MRL G F.toFx ρ H σv tv s [.int i, .int j] [v,u]):v= .int i/\u= .int j:=by
 obtain⟨h1,h2⟩:=M.rd2
 erw[RD] at h1 h2
 exact⟨h1,h2⟩
theorem zcu:z9s G F (fun x y H Q=>rI0 (fun i j=> .int (i+j)) x y H Q\/z9n G.K x y H Q\/zfL x y H Q\/∃i j,x= .str i/\y= .str j/\i.length+j.length<=sizeLine/\Q (.str (i++j)) H) W8:=by
 intro ρ s t t' v u H σv tv Q M W
 unfold W8 at W
 split at W
 ·obtain⟨rfl,rfl⟩:=z4U M
  exact .inl ⟨_,_,rfl,rfl,fun _=>W.flat M.m rfl⟩
 ·split at W
  ·rename_i a b hz
   obtain⟨h1,h2⟩:=M.rd2
   obtain⟨l1,l2⟩:=M.lb2
   obtain⟨p,xs,rfl,s1,r1⟩:=h1.tupx
   obtain⟨q,ys,rfl,s2,r2⟩:=h2.tupx
   refine .inr (.inl ⟨p,q,xs,ys,rfl,rfl,s1,s2,by rw[<-r1.length,<-r2.length];exact hz,z4T W M.m (r1.append r2) ?_⟩)
   rw[Q5]
   intro l hl
   rcases i5.mp hl with q|q
   ·exact l1 l (by simpa only[y4] using q)
   ·exact l2 l (by simpa only[y4] using q)
  ·exact wfl W
 ·split at W
  ·rename_i la a lb b hz
   obtain⟨h1,h2⟩:=M.rd2
   obtain⟨l1,l2⟩:=M.lb2
   erw[RD] at h1 h2
   obtain⟨rfl,xs,s1,r1⟩:=h1
   obtain⟨rfl,ys,s2,r2⟩:=h2
   refine .inr (.inr (.inl ⟨_,_,xs,ys,rfl,rfl,s1,s2,by rw[<-r1.length,<-r2.length];exact hz,fun p hp k=>z26 W M.m (r1.append r2) ?_ hp k⟩))
   rw[Q5]
   intro l hl
   rcases i5.mp hl with q|q
   ·exact l1 l (by erw[y4];exact i4 _ q)
   ·exact l2 l (by erw[y4];exact i4 _ q)
  ·exact wfl W
 ·split at W
  ·rename_i a b hz
   obtain⟨h1,h2⟩:=M.rd2
   erw[RD] at h1 h2
   subst h1 h2
   exact .inr (.inr (.inr ⟨_,_,rfl,rfl,hz,fun _=>W.flat M.m rfl⟩))
  ·exact wfl W
 ·exact wfl W
theorem zfV:z9s G F (rI0 fun i j=> .int (i -j)) zbo:=by
 intro ρ s t t' v u H σv tv Q M W
 unfold zbo at W
 split at W
 ·obtain⟨rfl,rfl⟩:=z4U M
  exact⟨_,_,rfl,rfl,fun _=>W.flat M.m rfl⟩
 ·exact wfl W
theorem zdM:z9s G F (rI zeZ fun i j=> .int (i/j)) z66:=by
 intro ρ s t t' v u H σv tv Q M W
 unfold z66 at W
 split at W
 ·split at W
  ·rename_i hc
   obtain⟨rfl,rfl⟩:=z4U M
   exact⟨_,_,rfl,rfl,hc,fun _=>W.flat M.m rfl⟩
  ·exact wfl W
 ·exact wfl W
theorem zfW:z9s G F (rI (fun _ j=>0<j) fun i j=> .int (i %j)) z49:=by
 intro ρ s t t' v u H σv tv Q M W
 unfold z49 at W
 split at W
 ·split at W
  ·rename_i hc
   obtain⟨rfl,rfl⟩:=z4U M
   exact⟨_,_,rfl,rfl,hc,fun _=>W.flat M.m rfl⟩
  ·exact wfl W
 ·exact wfl W
theorem zfX:z9s G F (rI zf0 fun i j=> .int (i^j.toNat)) z9v:=by
 intro ρ s t t' v u H σv tv Q M W
 unfold z9v at W
 split at W
 ·split at W
  ·rename_i hc
   obtain⟨rfl,rfl⟩:=z4U M
   exact⟨_,_,rfl,rfl,hc,fun _=>W.flat M.m rfl⟩
  ·exact wfl W
 ·exact wfl W
theorem zjv:z01 G F (rI0 fun i j=> .bl (decide (i<j))) ltD:=by
 intro ρ s t t' v u H σv tv Q M W
 unfold ltD at W
 split at W
 ·obtain⟨rfl,rfl⟩:=z4U M
  exact⟨_,_,rfl,rfl,W.flat M.m rfl⟩
 ·exact wfl W
theorem zjw:z01 G F (rI0 fun i j=> .bl (decide (i<=j))) leD:=by
 intro ρ s t t' v u H σv tv Q M W
 unfold leD at W
 split at W
 ·obtain⟨rfl,rfl⟩:=z4U M
  exact⟨_,_,rfl,rfl,W.flat M.m rfl⟩
 ·exact wfl W
theorem zjx:z01 G F (rI0 fun i j=> .bl (decide (j<i))) gtD:=by
 intro ρ s t t' v u H σv tv Q M W
 unfold gtD at W
 split at W
 ·obtain⟨rfl,rfl⟩:=z4U M
  exact⟨_,_,rfl,rfl,W.flat M.m rfl⟩
 ·exact wfl W
theorem zjy:z01 G F (ziP G.K false) eqD:=by
 intro ρ s t t' v u H σv tv Q M W
 unfold eqD at W
 split at W
 ·rename_i hc
  erw[eqC,i6,decide_eq_true_eq] at hc
  obtain⟨⟨⟨⟨c1,c2⟩,c3⟩,c4⟩,c5⟩:=hc
  obtain⟨h1,h2⟩:=M.rd2
  exact⟨er t,er t',RD.dp _ _ h1 c1,RD.dp _ _ h2 c2,c3,c4,c5,W.flat M.m rfl⟩
 ·exact wfl W
theorem zjz:z01 G F (ziP G.K true) neD:=by
 intro ρ s t t' v u H σv tv Q M W
 unfold neD at W
 split at W
 ·rename_i hc
  erw[eqC,i6,decide_eq_true_eq] at hc
  obtain⟨⟨⟨⟨c1,c2⟩,c3⟩,c4⟩,c5⟩:=hc
  obtain⟨h1,h2⟩:=M.rd2
  exact⟨er t,er t',RD.dp _ _ h1 c1,RD.dp _ _ h2 c2,c3,c4,c5,W.flat M.m rfl⟩
 ·exact wfl W
theorem RD.dpSeq{ρ:Nat->Addr}{H:Hp}{t:D}{v:V}{ds:List D}(h:RD G ρ H t v)(e:z4S t=some ds)(p:plainL ds=true):Dp G.K H (.list (erL ds)) v\/Dp G.K H (.tuple (erL ds)) v:=by
 obtain⟨a,xs,rfl,sq,r,_⟩:=h.seq e
 have d:=RDs.dp ds xs r p
 rcases sq with sq|sq
 ·exact .inl (by erw[Dp];exact⟨a,xs,rfl,sq,d⟩)
 ·exact .inr (by erw[Dp];exact⟨a,xs,rfl,sq,d⟩)
theorem zjA:z01 G F (ziQ G.K false) inD:=by
 intro ρ s t t' v u H σv tv Q M W
 unfold inD at W
 cases e:z4S t' with
 |some ds=>
  rw[e] at W
  dsimp only at W
  split at W
  ·rename_i hc
   erw[inC,i6,decide_eq_true_eq] at hc
   obtain⟨⟨⟨⟨c1,c2⟩,c3⟩,c4⟩,c5⟩:=hc
   obtain⟨h1,h2⟩:=M.rd2
   exact⟨er t,erL ds,RD.dp _ _ h1 c1,h2.dpSeq e c2,c3,c4,c5,W.flat M.m rfl⟩
  ·exact wfl W
 |none=>rw[e] at W;exact wfl W
theorem zfY:z01 G F (ziQ G.K true) zct:=by
 intro ρ s t t' v u H σv tv Q M W
 unfold zct at W
 cases e:z4S t' with
 |some ds=>
  rw[e] at W
  dsimp only at W
  split at W
  ·rename_i hc
   erw[inC,i6,decide_eq_true_eq] at hc
   obtain⟨⟨⟨⟨c1,c2⟩,c3⟩,c4⟩,c5⟩:=hc
   obtain⟨h1,h2⟩:=M.rd2
   exact⟨er t,erL ds,RD.dp _ _ h1 c1,h2.dpSeq e c2,c3,c4,c5,W.flat M.m rfl⟩
  ·exact wfl W
 |none=>rw[e] at W;exact wfl W
theorem RD.non_iff{ρ:Nat->Addr}{H:Hp}{t:D}{v:V}(h:RD G ρ H t v):v= .non↔t= .non:=by
 cases t<;>erw[RD] at h<;>(try (subst h;simp))<;>(try (obtain⟨a,xs,rfl,_⟩:=h;simp))<;>(try (obtain⟨rfl,_⟩:=h;simp))<;>(try (obtain⟨a,o,C,rfl,_⟩:=h;simp))<;>(try (obtain⟨a,rfl,_⟩:=h;simp))
theorem zfZ:z01 G F (fun x y H Q=>y= .non/\Q (.bl (decide (x= .non))) H) isN:=by
 intro ρ s t t' v u H σv tv Q M W
 obtain⟨h1,h2⟩:=M.rd2
 have e1:=h1.non_iff
 unfold isN at W
 split at W
 ·erw[RD] at h2
  exact⟨h2,by rw[decide_eq_true (e1.mpr rfl)];exact W.flat M.m rfl⟩
 ·rename_i ne
  erw[RD] at h2
  exact⟨h2,by rw[decide_eq_false (fun z=>ne (e1.mp z))];exact W.flat M.m rfl⟩
 ·exact wfl W
theorem zg0{ρ:Nat->Addr}{H:Hp}{ds:List D}{xs:List V}{i:Int}{d:D}(r:RDs G ρ H ds xs)(e:atI ds i=some d): ∃x,atI xs i=some x/\RD G ρ H d x:=by
 unfold atI at e⊢
 rw[<-r.length]
 cases e1:ixN ds.length i with
 |none=>rw[e1] at e;cases e
 |some j=>
  rw[e1] at e
  exact r.get j d e
theorem zdN{α:Type}{ds:List α}{i:Int}{d:α}(e:atI ds i=some d):d∈ds:=by
 unfold atI at e
 cases e1:ixN ds.length i with
 |none=>rw[e1] at e;cases e
 |some j=>
  rw[e1] at e
  exact List.mem_of_getElem? e
theorem zjB:z9s G F (fun x y H Q=>zlA G.K x y H Q\/zlB G.K x y H Q) ixD:=by
 intro ρ s t t' v u H σv tv Q M W
 obtain⟨h1,h2⟩:=M.rd2
 unfold ixD at W
 cases e:z4S t with
 |none=>rw[e] at W;exact False.elim W
 |some ds=>
  rw[e] at W
  cases t' with
  |int i=>
   have W:wM G F σv tv (zf1 (atI ds i) s) Q:=W
   cases ea:atI ds i with
   |some d=>
    rw[ea] at W
    obtain⟨a,xs,rfl,sq,r,sub⟩:=h1.seq e
    obtain⟨x,ex,rx⟩:=zg0 r ea
    erw[RD] at h2
    subst h2
    have fin:KD G.K H->Q x H:=fun _=>W.out M.m rx fun l hl=>M.lb2.1 l (sub l (labsL_mem (zdN ea) l hl))
    rcases sq with sq|sq
    ·exact .inl ⟨a,xs,i,x,rfl,rfl,sq,ex,fin⟩
    ·exact .inr ⟨a,xs,i,x,rfl,rfl,sq,ex,fin⟩
   |none=>rw[ea] at W;exact False.elim W
  |_=>exact False.elim W
theorem zg1:zjs G F (rU fun i=> .int (-i)) z8S:=by
 intro ρ s t v H σv tv Q M W
 unfold z8S at W
 split at W
 ·have h:=M.rd1
  erw[RD] at h
  exact⟨_,h,fun _=>W.flat M.m rfl⟩
 ·exact wfl W
end
section
variable{X:Cx}{G:Gx}{F:Fy}{e a b c:Expr}{pos:Pos}
theorem RDs.flat{ρ:Nat->Addr}{H:Hp}{ds:List D}{xs:List V}(r:RDs G ρ H ds xs): ∀k:Nat,RDs G ρ H (l7 k ds).flatten (l7 k xs).flatten
 |0=>by simp[RDs]
 |k+1=>by
  rw[B6,B6,D5,D5]
  exact r.append (RDs.flat r k)
theorem z2G{ds:List D}{l:Nat}: ∀k:Nat,l∈labsL (l7 k ds).flatten->l∈labsL ds
 |0,h=>by simp[labsL] at h
 |k+1,h=>by
  rw[B6,D5,Q5] at h
  rcases i5.mp h with h|h
  ·exact h
  ·exact z2G k h
theorem zg2:z9s G F (fun x y H Q=>rI zbd (fun i j=> .int (i*j)) x y H Q\/(zjp x y H Q\/zdG G.K x y H Q)) z5O:=by
 intro ρ s t t' v u H σv tv Q M W
 unfold z5O at W
 split at W
 ·split at W
  ·rename_i hc
   obtain⟨rfl,rfl⟩:=z4U M
   exact .inl ⟨_,_,rfl,rfl,hc,fun _=>W.flat M.m rfl⟩
  ·exact wfl W
 ·split at W
  ·rename_i la a k hc
   obtain⟨h1,h2⟩:=M.rd2
   obtain⟨l1,l2⟩:=M.lb2
   erw[RD] at h1 h2
   obtain⟨rfl,xs,s1,r1⟩:=h1
   subst h2
   refine .inr (.inl ⟨_,k,xs,rfl,rfl,s1,hc.1,hc.2.1,by rw[<-r1.length];exact hc.2.2,fun p hp kd=>z26 W M.m (r1.flat _) (fun l hl=> ?_) hp kd⟩)
   exact l1 l (by erw[y4];exact i4 _ (z2G _ hl))
  ·exact wfl W
 ·split at W
  ·rename_i a k hc
   obtain⟨h1,h2⟩:=M.rd2
   obtain⟨l1,l2⟩:=M.lb2
   erw[RD] at h1 h2
   obtain⟨a',xs,rfl,s1,r1⟩:=h1
   subst h2
   refine .inr (.inr ⟨_,k,xs,rfl,rfl,SqT.of s1,by rw[<-r1.length];exact hc.1,hc.2.1,hc.2.2.1,by rw[<-r1.length];exact hc.2.2.2,fun p hp kd=>z6M W M.m (r1.flat _) (fun l hl=> ?_) hp kd⟩)
   exact l1 l (by erw[y4];exact z2G _ hl)
  ·exact wfl W
 ·exact wfl W
noncomputable def z1i{α:Type}(xs:List α)(lo hi:Option Int):List α:=(xs.drop (HT.sIx xs.length 0 lo)).take (HT.sIx xs.length xs.length hi -HT.sIx xs.length 0 lo)
noncomputable def slD:D->Option Int->Option Int->M D
 | .tup ds,lo,hi=>rt (.tup (z1i ds lo hi))
 | .lst _ ds,lo,hi=>zaZ (z1i ds lo hi)
 | .ro ds,lo,hi=>zaZ (z1i ds lo hi)
 |_,_,_=>fl
theorem RDs.cut{ρ:Nat->Addr}{H:Hp}{ds:List D}{xs:List V}(r:RDs G ρ H ds xs)(lo hi:Option Int):RDs G ρ H (z1i ds lo hi) (z6J xs lo hi):=by
 unfold z1i z6J
 rw[r.length]
 exact(r.drop _).take _
theorem z3H{ds:List D}{lo hi:Option Int}{l:Nat}(h:l∈labsL (z1i ds lo hi)):l∈labsL ds:=by
 obtain⟨d,h1,h2⟩:=X6 h
 exact labsL_mem (L6 (E4 h1)) l h2
noncomputable def mInt(d:D):Option Int:=match d with| .int i=>some i|_=>none
noncomputable def z1O:Option (M D)->M (Option Int)
 |none=>rt none
 |some m=>bd m fun d=>match mInt d with|some i=>rt (some i)|none=>fl
noncomputable def tP(G:Gx)(F:Fy)(m:M (Option Int)):TO:=fun σv H Q=> ∃tv,F.tv0<:+tv/\∃ρ s,MR G F.toFx ρ H σv tv s/\(match m s with
 | .ok o s'=> ∀ρ' H',MR G F.toFx ρ' H' σv tv s'->Q o H'
 | .ex d s'=>F.xw d s'
 | .no=>False)
noncomputable def SO(X:Cx)(G:Gx)(F:Fy)(e:Option Expr)(m:Option (M D)):Prop:=PO X e (tP G F (z1O m))
theorem so_none:SO X G F none none:=by
 intro pins s σ H Q I ⟨tv,hs,ρ,ms,M,W⟩
 exact zdx pins s σ H Q I (W ρ H M)
theorem so_some{m:M D}(h:SE X G F e m):SO X G F (some e) (some m):=by
 intro pins s σ H Q I ⟨tv,hs,ρ,ms,M,W⟩
 refine zdy h pins s σ H Q I ⟨tv,hs,ρ,ms,M, ?_⟩
 erw[z1O,bd] at W
 cases e1:m ms with
 |ok d s1=>
  rw[e1] at W
  intro ρ' v H' M'
  cases d with
  |int i=>
   have h:=M'.rd1
   erw[RD] at h
   exact⟨i,h,W ρ' H' M'.m⟩
  |_=>exact False.elim W
 |ex d s1=>rw[e1] at W;exact W
 |no=>rw[e1] at W;exact W
noncomputable def mSl(m:M D)(lo hi:Option (M D)):M D:=bd m fun x=>bd (psh x) fun _=>bd (z1O lo) fun l=>bd (z1O hi) fun h=>bd pop fun x'=>slD x' l h
theorem zjC{ρ:Nat->Addr}{s:Stt}{t:D}{v:V}{H:Hp}{σv tv:List (Option V)}{lo hi:Option Int}{Q:VK}(M:MRL G F.toFx ρ H σv tv s [t] [v])(W:wM G F σv tv (slD t lo hi s) Q):
 zjr G.K v lo hi H (fun w H'=>KD G.K H'->Q w H')\/zjo G.K v lo hi H (fun w H'=>KD G.K H'->Q w H'):=by
 have h:=M.rd1
 cases t with
 |tup ds=>
  obtain⟨p,xs,rfl,s1,r1⟩:=h.tupx
  exact .inl ⟨p,xs,rfl,s1,z4T W M.m (r1.cut lo hi) fun l hl=>M.lb1 l (by erw[y4];exact z3H hl)⟩
 |lst n ds=>
  obtain⟨p,xs,rfl,s1,r1,_⟩:=h.lstq (ds:=ds) rfl
  exact .inr ⟨p,xs,rfl,s1,fun q hq k=>z26 W M.m (r1.cut lo hi) (fun l hl=>M.lb1 l (by erw[y4];exact i4 _ (z3H hl))) hq k⟩
 |ro ds=>
  obtain⟨p,xs,rfl,s1,r1,_⟩:=h.lstq (ds:=ds) rfl
  exact .inr ⟨p,xs,rfl,s1,fun q hq k=>z26 W M.m (r1.cut lo hi) (fun l hl=>M.lb1 l (by erw[y4];exact z3H hl)) hq k⟩
 |_=>exact False.elim W
theorem se_slice{lo hi:Option Expr}{p2:Pos}{m:M D}{ml mh:Option (M D)}(hk:X.K=G.K)(he:SE X G F e m)(hl:SO X G F lo ml)(hh:SO X G F hi mh):SE X G F (.Subscript e (.Slice lo hi none p2) pos) (mSl m ml mh):=by
 refine PE.imp hk (z7w (r:=fun x lo hi H Q=>zjr X.K x lo hi H Q\/zjo X.K x lo hi H Q) (SlR.or zdF zdC) he hl hh) fun σ H Q ⟨tv,h⟩=>⟨tv, ?_⟩
 obtain⟨hs,ρ,s,M,W⟩:=z3G h
 refine⟨hs,ρ,s,M,W.mono fun v H1 ⟨ρ1,s1,t,M1,W1⟩=>⟨some v::tv,z8R hs,ρ1,s1.psh t,M1.push, ?_⟩⟩
 erw[bd,psh] at W1
 cases e1:z1O ml (s1.psh t) with
 |ex d s2=>rw[e1] at W1;exact W1
 |no=>rw[e1] at W1;exact W1
 |ok l s2=>
  rw[e1] at W1
  intro ρ2 H2 M2
  refine⟨some v::tv,z8R hs,ρ2,s2,M2, ?_⟩
  dsimp only at W1
  cases e2:z1O mh s2 with
  |ex d s3=>rw[e2] at W1;exact W1
  |no=>rw[e2] at W1;exact W1
  |ok h s3=>
   rw[e2] at W1
   intro ρ3 H3 M3
   erw[pop] at W1
   cases e3:s3.tm with
   |nil=>rw[e3] at W1;exact W1.elim
   |cons o r=>
    cases o with
    |none=>rw[e3] at W1;exact W1.elim
    |some t'=>
     rw[e3] at W1
     have M4:MRL G F.toFx ρ3 H3 σ tv {s3 with tm:=r} [t'] [v]:=MRL.down (ts:=[]) (vs:=[]) ⟨M3,rfl,fun l h=>by simp[labsL] at h⟩ e3
     rw[hk]
     exact zjC M4 W1
noncomputable def z1U(ts:List D):M D:=if ts.length<=sizeLine then rt (.tup ts) else fl
noncomputable def lstM(ts:List D):M D:=if ts.length<=sizeLine then zaZ ts else fl
theorem zg3:V2 G F (fun xs H1 Q=>xs.length<=sizeLine/\∀p,H1 p=none->Q (.ref p) (upd H1 p (.tup xs))) z1U:=by
 intro ρ s ts vs H σv tv Q M W
 unfold z1U at W
 split at W
 ·rename_i hz
  exact⟨by rw[<-M.rd.length];exact hz,fun p hp k=>z6M W M.m M.rd M.lb hp k⟩
 ·exact wfl W
theorem zg4:V2 G F (fun xs H1 Q=>xs.length<=sizeLine/\∀p,H1 p=none->Q (.ref p) (upd H1 p (.lst xs))) lstM:=by
 intro ρ s ts vs H σv tv Q M W
 unfold lstM at W
 split at W
 ·rename_i hz
  exact⟨by rw[<-M.rd.length];exact hz,fun p hp k=>z26 W M.m M.rd M.lb hp k⟩
 ·exact wfl W
theorem se_tup{es:List Expr}{ms:List (M D)}{x1}(hk:X.K=G.K)(h:SA X G F es (mArgs ms)):SE X G F (.Tuple es x1 pos) (mCB ms z1U):=
 PE.imp hk (zfB h) fun _ _ _ h=>z3q zg3 h
theorem se_lst{es:List Expr}{ms:List (M D)}(hk:X.K=G.K)(h:SA X G F es (mArgs ms)):SE X G F (.List es pos) (mCB ms lstM):=
 PE.imp hk (zfC h) fun _ _ _ h=>z3q zg4 h
noncomputable def zg5:D->M Bool
 | .non=>rt false
 | .bool b=>rt b
 | .int i=>rt (i !=0)
 | .str x=>if x.length<=sizeLine then rt ((x.length:Int) !=0) else fl
 | .tup ds=>rt (!ds.isEmpty)
 | .ro ds=>rt (!ds.isEmpty)
 | .lst _ ds=>rt (!ds.isEmpty)
 |_=>fl
noncomputable def G9(m:M D):M Bool:=bd m zg5
theorem z2H{ρ:Nat->Addr}{H:Hp}{ds:List D}{xs:List V}(r:RDs G ρ H ds xs):(!ds.isEmpty)= !xs.isEmpty:=by
 have:=r.length
 cases ds<;>cases xs<;>simp at this⊢
theorem zg6{ρ:Nat->Addr}{s:Stt}{t:D}{v:V}{H:Hp}{σv tv:List (Option V)}{Q:Bool->Hp->Prop}(M:MRL G F.toFx ρ H σv tv s [t] [v])(W:wB G F σv tv (zg5 t s) Q): ∃k,TruV G.K v H k/\Q k H:=by
 have h:=M.rd1
 cases t with
 |non=>erw[RD] at h;subst h;exact⟨false,rfl,W ρ H M.m⟩
 |bool b=>erw[RD] at h;subst h;exact⟨b,rfl,W ρ H M.m⟩
 |int i=>erw[RD] at h;subst h;exact⟨_,rfl,W ρ H M.m⟩
 |str x=>
  erw[RD] at h;subst h
  unfold zg5 at W
  by_cases hz:x.length<=sizeLine
  ·erw[if_pos hz] at W;exact⟨_,⟨hz,rfl⟩,W ρ H M.m⟩
  ·erw[if_neg hz] at W;exact False.elim W
 |tup ds=>
  obtain⟨p,xs,rfl,s1,r1⟩:=h.tupq
  exact⟨_, .inr (.inl ⟨xs,s1,z2H r1⟩),W ρ H M.m⟩
 |ro ds=>
  obtain⟨p,xs,rfl,s1,r1,_⟩:=h.lstq (ds:=ds) rfl
  exact⟨_, .inl ⟨xs,s1,z2H r1⟩,W ρ H M.m⟩
 |lst n ds=>
  obtain⟨p,xs,rfl,s1,r1,_⟩:=h.lstq (ds:=ds) rfl
  exact⟨_, .inl ⟨xs,s1,z2H r1⟩,W ρ H M.m⟩
 |dct _ _ _=>exact False.elim W
 |fdc _ _=>exact False.elim W
 |obj _ _ _ _=>exact False.elim W
 |exc _=>exact False.elim W
 |fn _=>exact False.elim W
theorem zbp{m:M D}{σ:St}{H:Hp}{Q:Bool->Hp->Prop}(h:tMB G F (G9 m) σ H Q):tM G F m σ H fun x H'=> ∃k,TruV G.K x H' k/\Q k H':=by
 obtain⟨tv,hs,ρ,s,M,W⟩:=h
 refine⟨tv,hs,ρ,s,M, ?_⟩
 unfold G9 bd at W
 cases e:m s with
 |ok t s1=>rw[e] at W;exact fun ρ1 v H1 M1=>zg6 M1 W
 |ex d s1=>rw[e] at W;exact W
 |no=>rw[e] at W;exact W
theorem sb_truth{m:M D}(hk:X.K=G.K)(ha:SE X G F a m)(he: ∀whole,isTrue a X.env whole=(do let v<-whole;standAt a.pos;holding [v] (truthy v)):=by intro _;rfl):SB X G F a (G9 m):=by
 refine PT.imp hk (zbg ha he) fun σ H Q h=> ?_
 rw[hk]
 obtain⟨tv,h'⟩:=zbp h
 exact⟨tv,h'.mono fun v H1 ⟨k,q1,q2⟩=>⟨k,q1,fun _=>q2⟩⟩
noncomputable def zf2:D->M Bool
 | .bool b=>rt b
 |_=>fl
noncomputable def W5(m:M D):M Bool:=bd m zf2
theorem z9w{m:M D}{σ:St}{H:Hp}{Q:Bool->Hp->Prop}(h:tMB G F (W5 m) σ H Q):tM G F m σ H fun x H'=> ∃k,x= .bl k/\Q k H':=by
 obtain⟨tv,hs,ρ,s,M,W⟩:=h
 refine⟨tv,hs,ρ,s,M, ?_⟩
 unfold W5 bd at W
 cases e:m s with
 |ok t s1=>
  rw[e] at W
  intro ρ1 v H1 M1
  have h:=M1.rd1
  cases t with
  |bool b=>erw[RD] at h;exact⟨b,h,W ρ1 H1 M1.m⟩
  |_=>exact False.elim W
 |ex d s1=>rw[e] at W;exact W
 |no=>rw[e] at W;exact W
theorem zdO{op:CmpOp}{r:R2}{ma mb:M D}{g:D->D->M D}(ho:OpR X (compareOp op) r)(hg:z01 G F r g)(ha:SE X G F a ma)(hb:SE X G F b mb)(hm:behindInMarks op b=false):SB X G F (.Compare a [op] [b] pos) (W5 (y3 ma mb g)):=
 PT.imp0 (zdt ho ha hb hm) fun _ _ _ h=>z4R hg (z9w h)
theorem zdP{m:M Bool}{f:Bool->M Bool}{σ:St}{tv:List (Option V)}{H:Hp}{Q:Bool->Hp->Prop}(h:tBv G F (bd m f) σ tv H Q):tBv G F m σ tv H fun b H1=> ∃ρ1 s1,MR G F.toFx ρ1 H1 σ tv s1/\wB G F σ tv (f b s1) Q:=by
 obtain⟨hs,ρ,s,M,W⟩:=h
 refine⟨hs,ρ,s,M, ?_⟩
 unfold bd at W
 cases e:m s with
 |ok b s1=>rw[e] at W;exact fun ρ1 H1 M1=>⟨ρ1,s1,M1,W⟩
 |ex d s1=>rw[e] at W;exact W
 |no=>rw[e] at W;exact W
theorem wB.mono{σv tv:List (Option V)}{r:Res Bool}{Q Q':Bool->Hp->Prop}(h:wB G F σv tv r Q)(k: ∀v H,Q v H->Q' v H):wB G F σv tv r Q':=by
 cases r with
 |ok t s=>exact fun ρ H M=>k _ _ (h ρ H M)
 |ex d s=>exact h
 |no=>exact h
theorem tBv.mono{m:M Bool}{σv tv:List (Option V)}{H:Hp}{Q Q':Bool->Hp->Prop}(h:tBv G F m σv tv H Q)(k: ∀v H,Q v H->Q' v H):tBv G F m σv tv H Q':=by
 obtain⟨hs,ρ,s,M,W⟩:=h
 exact⟨hs,ρ,s,M,W.mono k⟩
noncomputable def z4V{α:Type}(b:Bool)(m m':M α):M α:=match b with|true=>m|false=>m'
noncomputable def ziR(m m':M Bool):M Bool:=bd m fun b=>z4V b m' (rt false)
noncomputable def mOr(m m':M Bool):M Bool:=bd m fun b=>z4V b (rt true) m'
noncomputable def z0t(m:M Bool):M Bool:=bd m fun b=>rt (!b)
noncomputable def SW(X:Cx)(G:Gx)(F:Fy)(e:Expr)(m:M Bool):Prop:=PW X e (tMB G F m)
theorem SW.sb{m:M Bool}(h:SW X G F e m):SB X G F e m:=PW.pt h
theorem PW.imp0{t t':TT}(h:PW X e t)(hi: ∀σ H Q,t' σ H Q->t σ H Q):PW X e t':=fun wh pins s σ H Q I q=>h wh pins s σ H _ I (hi σ H Q q)
theorem sw_and1{m:M Bool}(h:SB X G F a m):SW X G F (.BoolOp .And [a] pos) m:=zdn h
theorem sw_or1{m:M Bool}(h:SB X G F a m):SW X G F (.BoolOp .Or [a] pos) m:=zfk h
theorem sw_and{rest:List Expr}{m m':M Bool}(ha:SB X G F a m)(hb:SW X G F (.BoolOp .And (b::rest) pos) m'):SW X G F (.BoolOp .And (a::b::rest) pos) (ziR m m'):=by
 refine PW.imp0 (zfl ha hb) fun σ H Q ⟨tv,h⟩=>⟨tv,(zdP h).mono fun b H1 ⟨ρ1,s1,M1,W⟩=> ?_⟩
 cases b with
 |true=>rw[if_pos rfl];exact⟨tv,h.1,ρ1,s1,M1,W⟩
 |false=>rw[if_neg r6];exact W ρ1 H1 M1
theorem sw_or{rest:List Expr}{m m':M Bool}(ha:SB X G F a m)(hb:SW X G F (.BoolOp .Or (b::rest) pos) m'):SW X G F (.BoolOp .Or (a::b::rest) pos) (mOr m m'):=by
 refine PW.imp0 (zj0 ha hb) fun σ H Q ⟨tv,h⟩=>⟨tv,(zdP h).mono fun b H1 ⟨ρ1,s1,M1,W⟩=> ?_⟩
 cases b with
 |true=>rw[if_pos rfl];exact W ρ1 H1 M1
 |false=>rw[if_neg r6];exact⟨tv,h.1,ρ1,s1,M1,W⟩
theorem sb_not{m:M Bool}(ha:SB X G F a m):SB X G F (.UnaryOp .Not a pos) (z0t m):=by
 refine PT.imp0 (zfm ha) fun σ H Q ⟨tv,h⟩=>⟨tv,(zdP h).mono fun b H1 ⟨ρ1,s1,M1,W⟩=>W ρ1 H1 M1⟩
noncomputable def z3I(m m':M D):M D:=bd (W5 m) fun b=>z4V b m' (rt (.bool false))
noncomputable def zg7(m m':M D):M D:=bd (W5 m) fun b=>z4V b (rt (.bool true)) m'
noncomputable def z4W(m:M D):M D:=bd (W5 m) fun b=>rt (.bool (!b))
theorem z9x{m:M D}{f:Bool->M D}{σ:St}{H:Hp}{Q:VK}(h:tM G F (bd (W5 m) f) σ H Q):tM G F m σ H fun x H1=> ∃k,x= .bl k/\∃ρ1 s1 tv,F.tv0<:+tv/\MR G F.toFx ρ1 H1 σ tv s1/\wM G F σ tv (f k s1) Q:=by
 obtain⟨tv,hs,ρ,s,M,W⟩:=h
 refine⟨tv,hs,ρ,s,M, ?_⟩
 unfold W5 bd at W
 cases e:m s with
 |ok t s1=>
  rw[e] at W
  intro ρ1 v H1 M1
  have h:=M1.rd1
  cases t with
  |bool b=>erw[RD] at h;exact⟨b,h,ρ1,s1,tv,hs,M1.m,W⟩
  |_=>exact False.elim W
 |ex d s1=>rw[e] at W;exact W
 |no=>rw[e] at W;exact W
theorem tM.mono{m:M D}{σ:St}{H:Hp}{Q Q':VK}(h:tM G F m σ H Q)(k: ∀v H,Q v H->Q' v H):tM G F m σ H Q':=by
 obtain⟨tv,h⟩:=h
 exact⟨tv,h.mono k⟩
theorem se_one{op}{m:M D}(h:SE X G F a m):SE X G F (.BoolOp op [a] pos) m:=zfn h
theorem se_and{rest:List Expr}{m m':M D}(ha:SE X G F a m)(hb:SE X G F (.BoolOp .And (b::rest) pos) m'):SE X G F (.BoolOp .And (a::b::rest) pos) (z3I m m'):=by
 refine PE.imp0 (zfo ha hb) fun σ H Q h=>(z9x h).mono fun x H1 ⟨k,e,ρ1,s1,tv,hs,M1,W⟩=>⟨k,e, ?_⟩
 cases k with
 |true=>rw[if_pos rfl];exact⟨tv,hs,ρ1,s1,M1,W⟩
 |false=>rw[if_neg r6];exact W.flat M1 rfl
theorem se_or{rest:List Expr}{m m':M D}(ha:SE X G F a m)(hb:SE X G F (.BoolOp .Or (b::rest) pos) m'):SE X G F (.BoolOp .Or (a::b::rest) pos) (zg7 m m'):=by
 refine PE.imp0 (zj3 ha hb) fun σ H Q h=>(z9x h).mono fun x H1 ⟨k,e,ρ1,s1,tv,hs,M1,W⟩=>⟨k,e, ?_⟩
 cases k with
 |true=>rw[if_pos rfl];exact W.flat M1 rfl
 |false=>rw[if_neg r6];exact⟨tv,hs,ρ1,s1,M1,W⟩
theorem se_not{m:M D}(ha:SE X G F a m):SE X G F (.UnaryOp .Not a pos) (z4W m):=by
 refine PE.imp0 (zfp ha) fun σ H Q h=>(z9x h).mono fun x H1 ⟨k,e,ρ1,s1,tv,hs,M1,W⟩=>⟨k,e,W.flat M1 rfl⟩
noncomputable def mIf(c:M Bool)(m m':M D):M D:=bd c fun b=>z4V b m m'
theorem zg8{m:M Bool}{f:Bool->M D}{σ:St}{H:Hp}{Q:VK}(h:tM G F (bd m f) σ H Q):tMB G F m σ H fun b H1=> ∃ρ1 s1 tv,F.tv0<:+tv/\MR G F.toFx ρ1 H1 σ tv s1/\wM G F σ tv (f b s1) Q:=by
 obtain⟨tv,hs,ρ,s,M,W⟩:=h
 refine⟨tv,hs,ρ,s,M, ?_⟩
 unfold bd at W
 cases e:m s with
 |ok b s1=>rw[e] at W;exact fun ρ1 H1 M1=>⟨ρ1,s1,tv,hs,M1,W⟩
 |ex d s1=>rw[e] at W;exact W
 |no=>rw[e] at W;exact W
theorem tMB.mono{m:M Bool}{σ:St}{H:Hp}{Q Q':Bool->Hp->Prop}(h:tMB G F m σ H Q)(k: ∀v H,Q v H->Q' v H):tMB G F m σ H Q':=by
 obtain⟨tv,h⟩:=h
 exact⟨tv,h.mono k⟩
theorem se_ifExp{mc:M Bool}{m m':M D}(hc:SB X G F c mc)(ha:SE X G F a m)(hb:SE X G F b m'):SE X G F (.IfExp c a b pos) (mIf mc m m'):=by
 refine PE.imp0 (zb9 hc ha hb) fun σ H Q h=>(zg8 h).mono fun k H1 ⟨ρ1,s1,tv,hs,M1,W⟩=> ?_
 cases k with
 |true=>rw[if_pos rfl];exact⟨tv,hs,ρ1,s1,M1,W⟩
 |false=>rw[if_neg r6];exact⟨tv,hs,ρ1,s1,M1,W⟩
noncomputable def z8r(y:D)(m:M D):M D:=match cV y with|some _=>m|none=>fl
noncomputable def Q9(ma mb mc:M D)(g g':D->D->M D):M D:=bd ma fun x=>bd (psh x) fun _=>bd mb fun y=>bd pop fun x'=>z8r y (bd (W5 (g x' y)) fun k=>z4V k (bd mc fun z=>g' y z) (rt (.bool false)))
theorem z67{ma mb mc:M D}{g g':D->D->M D}{r r':R2}{σ:St}{H:Hp}{Q:VK}(hg:z01 G F r g)(hg':z01 G F r' g')(h:tM G F (Q9 ma mb mc g g') σ H Q):z98 r r' (tM G F ma) (tM G F mb) (tM G F mc) σ H Q:=by
 obtain⟨tv,h⟩:=h
 have hs:=h.1
 refine⟨tv,(z7A (g:=fun x' y=>z8r y (bd (W5 (g x' y)) fun k=>z4V k (bd mc fun z=>g' y z) (rt (.bool false)))) h).mono fun v H1 h1=>⟨_,h1.mono fun u H2 ⟨ρ,s,t,t',M,W⟩=> ?_⟩⟩
 unfold z8r at W
 cases e:cV t' with
 |none=>rw[e] at W;exact False.elim W
 |some u'=>
  rw[e] at W
  have hu:u=u':=by
   have h2:=M.rd2.2
   cases t'<;>erw[cV,Option.some.injEq] at e<;>erw[RD] at h2<;>first|(rw[h2,e])|cases e
  subst hu
  unfold bd W5 at W
  dsimp only at W
  refine hg ρ s t t' v u H2 σ tv _ M ?_
  unfold bd at W
  cases e2:g t t' s with
  |ok z s1=>
   rw[e2] at W
   intro ρ1 w H3 M3
   have h3:=M3.rd1
   cases z with
   |bool k=>
    erw[RD] at h3
    refine⟨k,h3, ?_⟩
    have W:wM G F σ tv (z4V k (bd mc fun z=>g' t' z) (rt (.bool false)) s1) Q:=W
    cases k with
    |false=>rw[if_neg r6];exact W.flat M3.m rfl
    |true=>
     rw[if_pos rfl]
     have h5:tMv G F (bd mc fun z=>g' t' z) σ tv H3 Q:=⟨hs,ρ1,s1,M3.m,W⟩
     refine⟨tv,(z3G h5).mono fun w' H4 ⟨ρ4,s4,t4,M4,W4⟩=>hg' ρ4 s4 t' t4 u w' H4 σ tv Q ⟨M4.m, ?_,fun l hl=> ?_⟩ W4⟩
     ·erw[RDs];exact⟨_,_,rfl,(z8q e).1,_,_,rfl,M4.rd1,rfl⟩
     ·erw[labsL,(z8q (G:=G) (ρ:=ρ4) (H:=H4) e).2,n5,i9] at hl
      exact M4.lb1 l hl
   |_=>exact False.elim W
  |ex d s1=>rw[e2] at W;exact W
  |no=>rw[e2] at W;exact W
theorem zbq{op op':CmpOp}{r r':R2}{ma mb mc:M D}{g g':D->D->M D}(ho:OpR X (compareOp op) r)(hg:z01 G F r g)(ho':OpR X (compareOp op') r')(hg':z01 G F r' g')(ha:SE X G F a ma)(hb:SE X G F b mb)(hc:SE X G F c mc)
 (hm:lastMarks [op,op'] [b,c]=false:=by with_unfolding_all rfl):SE X G F (.Compare a [op,op'] [b,c] pos) (Q9 ma mb mc g g'):=
 PE.imp0 (zbe ho ho' ha hb hc hm) fun _ _ _ h=>z67 hg hg' h
theorem zbr{op op':CmpOp}{r r':R2}{ma mb mc:M D}{g g':D->D->M D}(ho:OpR X (compareOp op) r)(hg:z01 G F r g)(ho':OpR X (compareOp op') r')(hg':z01 G F r' g')(ha:SE X G F a ma)(hb:SE X G F b mb)(hc:SE X G F c mc)
 (hm:lastMarks [op,op'] [b,c]=false:=by with_unfolding_all rfl):SB X G F (.Compare a [op,op'] [b,c] pos) (W5 (Q9 ma mb mc g g')):=
 PT.imp0 (zbf ho ho' ha hb hc hm) fun _ _ _ h=>z67 hg hg' (z9w h)
end
noncomputable def z27:List D->M D
 |[.tup ds]=>rt (.int ds.length)
 |[.ro ds]=>rt (.int ds.length)
 |[.lst _ ds]=>rt (.int ds.length)
 |_=>fl
noncomputable def zf3:List D->M D
 |[.int i]=>rt (.int (if i<0 then -i else i))
 |_=>fl
noncomputable def zbs:List D->M D
 |[.int i, .int j]=>rt (.int (if j<i then j else i))
 |_=>fl
noncomputable def zcv:List D->M D
 |[.int i, .int j]=>rt (.int (if j>i then j else i))
 |_=>fl
noncomputable def z1j:List D->Option (List Bool)
 |[]=>some []
 | .bool b::r=>(z1j r).map (b:: ·)
 |_=>none
noncomputable def zcw:List D->M D
 |[.lst _ ds]=>match z1j ds with|some bs=>rt (.bool (bs.all id))|none=>fl
 |_=>fl
noncomputable def zbt:List D->M D
 |[.int i]=>rt (.int i)
 |[.bool b]=>rt (.int (if b then 1 else 0))
 |_=>fl
noncomputable def z8T:List D->M D
 |[.tup ds]=>rt (.tup ds)
 |[.ro ds]=>rt (.tup ds)
 |[.lst _ ds]=>rt (.tup ds)
 |_=>fl
noncomputable def z4a:List D->M D
 |[.tup ds]=>zaZ ds
 |[.ro ds]=>zaZ ds
 |[.lst _ ds]=>zaZ ds
 |_=>fl
section
variable{X:Cx}{G:Gx}{F:Fy}{e a b c:Expr}{pos:Pos}
theorem MRL.one{ρ:Nat->Addr}{H:Hp}{σv tv:List (Option V)}{s:Stt}{t:D}{vs:List V}(M:MRL G F.toFx ρ H σv tv s [t] vs): ∃v,vs=[v]/\RD G ρ H t v/\LB F.toFx ρ s.n (y4 t):=by
 have h:=M.rd
 erw[RDs] at h
 obtain⟨v,r,rfl,h,rfl⟩:=h
 exact⟨v,rfl,h,M.lb1⟩
theorem MRL.two{ρ:Nat->Addr}{H:Hp}{σv tv:List (Option V)}{s:Stt}{t t':D}{vs:List V}(M:MRL G F.toFx ρ H σv tv s [t,t'] vs): ∃v u,vs=[v,u]/\RD G ρ H t v/\RD G ρ H t' u:=by
 have h:=M.rd
 erw[RDs] at h
 obtain⟨v,r,rfl,h,u,q,rfl,h',rfl⟩:=h
 exact⟨v,u,rfl,h,h'⟩
theorem zcx:V2 G F (fun xs H Q=> ∃p ys,xs=[.ref p]/\(SqL G.K H p ys\/SqT G.K H p ys)/\Q (.int ys.length) H) z27:=by
 intro ρ s ts vs H σv tv Q M W
 unfold z27 at W
 split at W
 ·obtain⟨v,rfl,h,_⟩:=M.one
  obtain⟨p,xs,rfl,s1,r1,_⟩:=h.seq rfl
  exact⟨p,xs,rfl,s1,fun _=>by rw[<-r1.length];exact W.flat M.m rfl⟩
 ·obtain⟨v,rfl,h,_⟩:=M.one
  obtain⟨p,xs,rfl,s1,r1,_⟩:=h.seq rfl
  exact⟨p,xs,rfl,s1,fun _=>by rw[<-r1.length];exact W.flat M.m rfl⟩
 ·obtain⟨v,rfl,h,_⟩:=M.one
  obtain⟨p,xs,rfl,s1,r1,_⟩:=h.seq rfl
  exact⟨p,xs,rfl,s1,fun _=>by rw[<-r1.length];exact W.flat M.m rfl⟩
 ·exact wfl W
theorem zg9:V2 G F (fun xs H Q=> ∃i,xs=[.int i]/\Q (.int (if i<0 then -i else i)) H) zf3:=by
 intro ρ s ts vs H σv tv Q M W
 unfold zf3 at W
 split at W
 ·obtain⟨v,rfl,h,_⟩:=M.one
  erw[RD] at h
  subst h
  exact⟨_,rfl,fun _=>W.flat M.m rfl⟩
 ·exact wfl W
theorem zga:V2 G F (fun xs H Q=> ∃i j,xs=[.int i, .int j]/\Q (.int (if j<i then j else i)) H) zbs:=by
 intro ρ s ts vs H σv tv Q M W
 unfold zbs at W
 split at W
 ·obtain⟨v,u,rfl,h,h'⟩:=M.two
  erw[RD] at h h'
  subst h h'
  exact⟨_,_,rfl,fun _=>W.flat M.m rfl⟩
 ·exact wfl W
theorem zgb:V2 G F (fun xs H Q=> ∃i j,xs=[.int i, .int j]/\Q (.int (if j>i then j else i)) H) zcv:=by
 intro ρ s ts vs H σv tv Q M W
 unfold zcv at W
 split at W
 ·obtain⟨v,u,rfl,h,h'⟩:=M.two
  erw[RD] at h h'
  subst h h'
  exact⟨_,_,rfl,fun _=>W.flat M.m rfl⟩
 ·exact wfl W
theorem z7B{ρ:Nat->Addr}{H:Hp}: ∀{ds:List D} {xs:List V} {bs:List Bool},RDs G ρ H ds xs->z1j ds=some bs->xs=bs.map V.bl
 |[],xs,bs,r,e=>by erw[RDs] at r;erw[z1j,Option.some.injEq] at e;subst r e;rfl
 |d::ds,xs,bs,r,e=>by
  erw[RDs] at r
  obtain⟨x,q,rfl,h1,h2⟩:=r
  cases d with
  |bool b=>
   erw[z1j] at e
   cases e1:z1j ds with
   |none=>rw[e1] at e;cases e
   |some cs=>
    rw[e1] at e
    cases e
    erw[RD] at h1
    rw[h1,z7B h2 e1];rfl
  |_=>erw[z1j] at e;cases e
theorem zgc:V2 G F (fun xs H Q=> ∃(p:Addr) (bs:List Bool),xs=[.ref p]/\SqL G.K H p (bs.map V.bl)/\Q (.bl (bs.all id)) H) zcw:=by
 intro ρ s ts vs H σv tv Q M W
 unfold zcw at W
 split at W
 ·rename_i l ds
  cases e1:z1j ds with
  |none=>rw[e1] at W;exact False.elim W
  |some bs=>
   rw[e1] at W
   obtain⟨v,rfl,h,_⟩:=M.one
   obtain⟨p,xs,rfl,s1,r1,_⟩:=h.lstq (ds:=ds) rfl
   rw[z7B r1 e1] at s1
   exact⟨p,bs,rfl,s1,fun _=>W.flat M.m rfl⟩
 ·exact wfl W
theorem zcy:V2 G F (fun xs H Q=>(∃i,xs=[.int i]/\Q (.int i) H)\/∃k,xs=[.bl k]/\Q (.int (if k then 1 else 0)) H) zbt:=by
 intro ρ s ts vs H σv tv Q M W
 unfold zbt at W
 split at W
 ·obtain⟨v,rfl,h,_⟩:=M.one
  erw[RD] at h
  subst h
  exact .inl ⟨_,rfl,fun _=>W.flat M.m rfl⟩
 ·obtain⟨v,rfl,h,_⟩:=M.one
  erw[RD] at h
  subst h
  exact .inr ⟨_,rfl,fun _=>W.flat M.m rfl⟩
 ·exact wfl W
theorem zdQ:V2 G F (fun xs H Q=> ∃(p:Addr) (ys:List V),xs=[.ref p]/\(SqL G.K H p ys\/H p=some (.tup ys))/\zbl G.K H ys Q) z8T:=by
 intro ρ s ts vs H σv tv Q M W
 have fin: ∀(t:D) (ds:List D),ts=[t]->z4S t=some ds->wM G F σv tv (.ok (.tup ds) s) Q->∃(p:Addr) (ys:List V),vs=[.ref p]/\(SqL G.K H p ys\/H p=some (.tup ys))/\zbl G.K H ys (fun w H'=>KD G.K H'->Q w H'):=fun t ds et es W'=>by
  subst et
  obtain⟨v,rfl,h,lb⟩:=M.one
  obtain⟨p,xs,rfl,s1,r1,sub⟩:=h.seqx es
  exact⟨p,xs,rfl,s1,z4T W' M.m r1 fun l hl=>lb l (sub l hl)⟩
 unfold z8T at W
 split at W
 ·exact fin _ _ rfl rfl W
 ·exact fin _ _ rfl rfl W
 ·exact fin _ _ rfl rfl W
 ·exact wfl W
theorem zbu:V2 G F (fun xs H Q=> ∃p ys,xs=[.ref p]/\(SqL G.K H p ys\/SqT G.K H p ys)/\∀l,H l=none->Q (.ref l) (upd H l (.lst ys))) z4a:=by
 intro ρ s ts vs H σv tv Q M W
 have fin: ∀(t:D) (ds:List D),ts=[t]->z4S t=some ds->wM G F σv tv (.ok (.lst s.n ds) s.nxt) Q->∃p ys,vs=[.ref p]/\(SqL G.K H p ys\/SqT G.K H p ys)/\∀l,H l=none->KD G.K (upd H l (.lst ys))->Q (.ref l) (upd H l (.lst ys)):=fun t ds et es W'=>by
  subst et
  obtain⟨v,rfl,h,lb⟩:=M.one
  obtain⟨p,xs,rfl,s1,r1,sub⟩:=h.seq es
  exact⟨p,xs,rfl,s1,fun l hl k=>z26 W' M.m r1 (fun l hl=>lb l (sub l hl)) hl k⟩
 unfold z4a at W
 split at W
 ·exact fin _ _ rfl rfl W
 ·exact fin _ _ rfl rfl W
 ·exact fin _ _ rfl rfl W
 ·exact wfl W
noncomputable def isiD(T:String):D->Option Bool
 | .non=>some false
 | .bool _=>some (T== "int" ||T== "bool")
 | .int _=>some (T== "int")
 | .str _=>some (T== "str")
 | .tup _=>some (T== "tuple")
 | .ro _=>some (T== "list")
 | .lst _ _=>some (T== "list")
 |_=>none
noncomputable def z68(T:String)(m:M D):M D:=bd m fun d=>match isiD T d with|some b=>rt (.bool b)|none=>fl
theorem zgd{ρ:Nat->Addr}{H:Hp}{t:D}{v:V}{T:String}{b:Bool}(h:RD G ρ H t v)(e:isiD T t=some b):zlC G.K H T b v:=by
 cases t<;>erw[isiD,Option.some.injEq] at e<;>try cases e
 ·erw[RD] at h;subst h;exact rfl
 ·erw[RD] at h;subst h;exact rfl
 ·erw[RD] at h;subst h;exact rfl
 ·erw[RD] at h;subst h;exact rfl
 ·obtain⟨p,xs,rfl,s1,r1⟩:=h.tupq
  exact .inl ⟨xs,s1,rfl⟩
 ·obtain⟨p,xs,rfl,s1,r1,_⟩:=h.lstq rfl
  exact .inr ⟨xs,s1,rfl⟩
 ·obtain⟨p,xs,rfl,s1,r1,_⟩:=h.lstq rfl
  exact .inr ⟨xs,s1,rfl⟩
theorem se_isi{p:Pos}{x y:Expr}{T:String}{m:M D}(hk:X.K=G.K)(hT:T= "int" \/T= "bool" \/T= "tuple" \/T= "list" \/T= "str")(hgl:Gl X "isinstance")(hm:X.mg "isinstance" =none)(ha:SE X G F x m)(hy:PE X y (tC (.ty T)))
 (he:starEach [x,y] X.env=(false,eval x X.env)::starEach [y] X.env:=by rfl) (he2:starEach [y] X.env=(false,eval y X.env)::starEach [] X.env:=by rfl) (hpl:(backTo pos (starEach [y] X.env)).any (·.1)=false:=by rfl):SE X G F (.Call (.Name "isinstance" p) [x,y] [] pos) (z68 T m):=by
 refine PE.imp hk (z3n zbk hgl hm PyProof.Rows.Boot.«isinstance» (Y1 ha (Y1 hy z36 he2) he) (by decide) (by decide) he hpl) fun σ H Q ⟨tv,h⟩=>⟨tv,(z3G h).mono fun v H1 ⟨ρ1,s1,t,M1,W⟩=> ?_⟩
 cases e:isiD T t with
 |none=>erw[e] at W;exact False.elim W
 |some b=>
  erw[e] at W
  rw[hk]
  exact⟨v,T,b,rfl,hT,zgd M1.rd1 e,fun _=>W.flat M1.m rfl⟩
end
inductive RS where
 |nx (s:Stt)|rt (d:D) (s:Stt)|bk (s:Stt)|ct (s:Stt)|ex (d:D) (s:Stt)|no
noncomputable abbrev MS:=Stt->RS
noncomputable def z1I{α:Type}(m:M α)(f:α->MS):MS:=fun s=>match m s with
 | .ok a s'=>f a s'
 | .ex d s'=> .ex d s'
 | .no=> .no
noncomputable def Z1(m m':MS):MS:=fun s=>match m s with
 | .nx s'=>m' s'
 |r=>r
noncomputable def sNx:MS:=fun s=> .nx s
noncomputable def z1e(m:M D):MS:=z1I m fun _=>sNx
noncomputable def Y9(m:M D):MS:=z1I m fun d s=> .rt d s
noncomputable def zge(b:Bool)(m m':MS):MS:=match b with|true=>m|false=>m'
noncomputable def sIf(c:M Bool)(m m':MS):MS:=z1I c fun b=>zge b m m'
inductive Tg where
 |nm (i:Nat)|tp (ts:List Tg)
mutual
noncomputable def asg:Tg->D->List (Option D)->Option (List (Option D))
 | .nm i,t,σ=>some (σ.set i (some t))
 | .tp ts, .tup ds,σ=>asgL ts ds σ
 | .tp ts, .lst _ ds,σ=>asgL ts ds σ
 | .tp _,_,_=>none
noncomputable def asgL:List Tg->List D->List (Option D)->Option (List (Option D))
 |[],[],σ=>some σ
 |t::ts,d::ds,σ=>match asg t d σ with|some σ'=>asgL ts ds σ'|none=>none
 |_,_,_=>none
end
noncomputable def Y4(g:Tg)(m:M D):MS:=z1I m fun d s=>match asg g d s.σ with
 |some σ'=> .nx {s with σ:=σ'}
 |none=> .no
section
variable{X:Cx}{G:Gx}{F:Fy}{e a b c:Expr}{st:Stmt}{sts rest:List Stmt}{pos:Pos}
noncomputable def wS(G:Gx)(F:Fy)(tv:List (Option V))(r:RS)(D:z5R):Prop:=match r with
 | .nx s'=> ∀ρ' σv' H',MR G F.toFx ρ' H' σv' tv s'->D.nx σv' H'
 | .rt t s'=> ∀ρ' σv' v H',MRL G F.toFx ρ' H' σv' tv s' [t] [v]->D.rt v H'
 | .bk s'=> ∀ρ' σv' H',MR G F.toFx ρ' H' σv' tv s'->D.bk σv' H'
 | .ct s'=> ∀ρ' σv' H',MR G F.toFx ρ' H' σv' tv s'->D.ct σv' H'
 | .ex d s'=>F.xw d s'
 | .no=>False
noncomputable def tSv(G:Gx)(F:Fy)(m:MS)(tv:List (Option V))(D:z5R)(σv:St)(H:Hp):Prop:=F.tv0<:+tv/\∃ρ s,MR G F.toFx ρ H σv tv s/\wS G F tv (m s) D
noncomputable def tS(G:Gx)(F:Fy)(m:MS):TS:=fun D σv H=> ∃tv,tSv G F m tv D σv H
noncomputable def SS(X:Cx)(G:Gx)(F:Fy)(st:Stmt)(m:MS):Prop:=PS X st (tS G F m)
noncomputable def SSs(X:Cx)(G:Gx)(F:Fy)(sts:List Stmt)(m:MS):Prop:=PSs X sts (tS G F m)
theorem PS.imp0{t t':TS}(h:PS X st t)(hi: ∀D σ H,t' D σ H->t D σ H):PS X st t':=fun pins s σ H D I q=>h pins s σ H D I (hi D σ H q)
theorem PSs.imp0{t t':TS}(h:PSs X sts t)(hi: ∀D σ H,t' D σ H->t D σ H):PSs X sts t':=fun pins s σ H D I q=>h pins s σ H D I (hi D σ H q)
theorem ss_nil:SSs X G F [] sNx:=PSs.imp0 zdo fun D σ H ⟨tv,hs,ρ,s,M,W⟩=>W ρ σ H M
theorem ss_cons{m m':MS}(h1:SS X G F st m)(h2:SSs X G F rest m'):SSs X G F (st::rest) (Z1 m m'):=by
 refine PSs.imp0 (zba h1 h2) fun D σ H ⟨tv,hs,ρ,s,M,W⟩=>⟨tv,hs,ρ,s,M, ?_⟩
 unfold Z1 at W
 cases e:m s with
 |nx s'=>rw[e] at W;exact fun ρ' σv' H' M'=>⟨tv,hs,ρ',s',M',W⟩
 |rt d s'=>rw[e] at W;exact W
 |bk s'=>rw[e] at W;exact W
 |ct s'=>rw[e] at W;exact W
 |ex d s'=>rw[e] at W;exact W
 |no=>rw[e] at W;exact W
theorem ss_one{m:MS}(h1:SS X G F st m):SSs X G F [st] m:=zdp h1
theorem z0u{m:M D}{f:D->MS}{tv:List (Option V)}{D:z5R}{σ:St}{H:Hp}(h:tSv G F (z1I m f) tv D σ H):tMv G F m σ tv H fun v H1=> ∃ρ1 s1 t,MRL G F.toFx ρ1 H1 σ tv s1 [t] [v]/\wS G F tv (f t s1) D:=by
 obtain⟨hs,ρ,s,M,W⟩:=h
 refine⟨hs,ρ,s,M, ?_⟩
 unfold z1I at W
 cases e:m s with
 |ok t s1=>rw[e] at W;exact fun ρ1 v H1 M1=>⟨ρ1,s1,t,M1,W⟩
 |ex d s1=>rw[e] at W;exact W
 |no=>rw[e] at W;exact W
theorem z9y{m:M Bool}{f:Bool->MS}{tv:List (Option V)}{D:z5R}{σ:St}{H:Hp}(h:tSv G F (z1I m f) tv D σ H):tBv G F m σ tv H fun b H1=> ∃ρ1 s1,MR G F.toFx ρ1 H1 σ tv s1/\wS G F tv (f b s1) D:=by
 obtain⟨hs,ρ,s,M,W⟩:=h
 refine⟨hs,ρ,s,M, ?_⟩
 unfold z1I at W
 cases e:m s with
 |ok t s1=>rw[e] at W;exact fun ρ1 H1 M1=>⟨ρ1,s1,M1,W⟩
 |ex d s1=>rw[e] at W;exact W
 |no=>rw[e] at W;exact W
theorem ss_expr{m:M D}(he:SE X G F e m)(hs:swapsWith e none pos.line X.env=pure false:=by rfl):SS X G F (.Expr e pos) (z1e m):=
 PS.imp0 (zdq he hs) fun D σ H ⟨tv,h⟩=>⟨tv,(z0u h).mono fun v H1 ⟨ρ1,s1,t,M1,W⟩=>W ρ1 σ H1 M1.m⟩
theorem ss_ret{m:M D}(he:SE X G F e m):SS X G F (.Return (some e) pos) (Y9 m):=
 PS.imp0 (zfq he) fun D σ H ⟨tv,h⟩=>⟨tv,(z0u h).mono fun v H1 ⟨ρ1,s1,t,M1,W⟩=>W ρ1 σ v H1 M1⟩
theorem ss_if{x y:List Stmt}{mc:M Bool}{m m':MS}(hc:SB X G F c mc)(ha:SSs X G F x m)(hb:SSs X G F y m'):SS X G F (.If c x y pos) (sIf mc m m'):=by
 refine PS.imp0 (zj6 hc ha hb) fun D σ H ⟨tv,h⟩=>⟨tv,(z9y h).mono fun k H1 ⟨ρ1,s1,M1,W⟩=> ?_⟩
 cases k with
 |true=>rw[if_pos rfl];exact⟨tv,h.1,ρ1,s1,M1,W⟩
 |false=>rw[if_neg r6];exact⟨tv,h.1,ρ1,s1,M1,W⟩
noncomputable def tGn(G:Gx)(F:Fy)(g:Tg):TG:=fun v σv H Q=> ∃tv ρ s t,MRL G F.toFx ρ H σv tv s [t] [v]/\∃σ',asg g t s.σ=some σ'/\∀σv',MR G F.toFx ρ H σv' tv {s with σ:=σ'}->Q σv' H
noncomputable def tGs(G:Gx)(F:Fy)(g:List Tg):TGs:=fun vs σv H Q=> ∃tv ρ s ts,MRL G F.toFx ρ H σv tv s ts vs/\∃σ',asgL g ts s.σ=some σ'/\∀σv',MR G F.toFx ρ H σv' tv {s with σ:=σ'}->Q σv' H
noncomputable def SG(X:Cx)(G:Gx)(F:Fy)(tg:Expr)(g:Tg):Prop:=PG X tg (tGn G F g)
noncomputable def SGs(X:Cx)(G:Gx)(F:Fy)(tgs:List Expr)(g:List Tg):Prop:=PGs X tgs (tGs G F g)
theorem MRL.setS{ρ:Nat->Addr}{H:Hp}{σv tv:List (Option V)}{s:Stt}{t:D}{v:V}{ts:List D}{vs:List V}(i:Nat)(M:MRL G F.toFx ρ H σv tv s (t::ts) (v::vs)):MRL G F.toFx ρ H (σv.set i (some v)) tv {s with σ:=s.σ.set i (some t)} ts vs:=by
 have h:=M.rd
 erw[RDs] at h
 obtain⟨_,_,e,h1,h2⟩:=h
 cases e
 have lb1: ∀l∈y4 t,l<s.n/\(F.A0 (ρ l)\/F.H0 (ρ l)=none):=fun l h=>M.lb l (by erw[labsL];exact i3 _ h)
 have all: ∀l∈G1 {s with σ:=s.σ.set i (some t)},l<s.n/\(F.A0 (ρ l)\/F.H0 (ρ l)=none):=fun l h=>by
  rcases i5.mp h with h|h
  ·rcases z3F l h with q|q
   ·exact⟨M.m.lab l (i3 _ q),M.m.own l (i3 _ q)⟩
   ·exact lb1 l q
  ·exact⟨M.m.lab l (b9 _ h),M.m.own l (b9 _ h)⟩
 exact⟨⟨M.m.sl.set i h1,M.m.tm,M.m.inj,M.m.dom,fun l h=>(all l h).1,fun l h=>(all l h).2,M.m.frm,M.m.kd,M.m.frb,M.m.bas⟩,h2,fun l h=>M.lb l (by erw[labsL];exact b9 _ h)⟩
theorem sg_name{i:Nat}{x:Str}{p:Pos}(h:PG X (.Name x p) (z8f i)):SG X G F (.Name x p) (.nm i):=by
 intro pins s σ H v u Q I r ⟨tv,ρ,ms,t,M,σ',e,k⟩
 erw[asg,Option.some.injEq] at e
 subst e
 exact h pins s σ H v u Q I r (k _ (M.setS i).m)
theorem sgs_nil:SGs X G F [] []:=by
 intro pins s σ H vs us Q I r ⟨tv,ρ,ms,ts,M,σ',e,k⟩
 cases ts with
 |nil=>
  erw[asgL,Option.some.injEq] at e
  subst e
  have h:=M.rd
  erw[RDs] at h
  exact z90 pins s σ H vs us Q I r ⟨h,k _ M.m⟩
 |cons d ds=>erw[asgL] at e;cases e
theorem MRL.cons_inv{ρ:Nat->Addr}{H:Hp}{σv tv:List (Option V)}{s:Stt}{t:D}{ts:List D}{vs:List V}(M:MRL G F.toFx ρ H σv tv s (t::ts) vs): ∃v r,vs=v::r/\MRL G F.toFx ρ H σv tv s [t] [v]/\RDs G ρ H ts r/\LB F.toFx ρ s.n (labsL ts):=by
 have h:=M.rd
 erw[RDs] at h
 obtain⟨v,r,rfl,h1,h2⟩:=h
 exact⟨v,r,rfl,⟨M.m,RDs.one h1,fun l h=>M.lb l (by erw[labsL,i9] at h⊢;exact i3 _ h)⟩,h2,fun l h=>M.lb l (by erw[labsL];exact b9 _ h)⟩
theorem PGs.imp0{es:List Expr}{t t':TGs}(h:PGs X es t)(hi: ∀vs σ H Q,t' vs σ H Q->t vs σ H Q):PGs X es t':=fun pins s σ H vs us Q I r q=>h pins s σ H vs us Q I r (hi vs σ H Q q)
theorem PG.imp0{t t':TG}(h:PG X e t)(hi: ∀v σ H Q,t' v σ H Q->t v σ H Q):PG X e t':=fun pins s σ H v u Q I r q=>h pins s σ H v u Q I r (hi v σ H Q q)
theorem sgs_cons{es:List Expr}{g:Tg}{gs:List Tg}(h1:SG X G F e g)(h2:SGs X G F es gs)(hs:(assignEach (e::es) X.env).map (·.2)=assign e X.env::(assignEach es X.env).map (·.2):=by rfl):SGs X G F (e::es) (g::gs):=by
 refine PGs.imp0 (z4M h1 h2 hs) fun vs σv H Q ⟨tv,ρ,s,ts,M,σ',e,k⟩=> ?_
 cases ts with
 |nil=>erw[asgL] at e;cases e
 |cons d ds=>
  erw[asgL] at e
  cases e1:asg g d s.σ with
  |none=>rw[e1] at e;cases e
  |some σ1=>
   rw[e1] at e
   obtain⟨v,r,rfl,M1,h2,lb⟩:=M.cons_inv
   exact⟨v,r,rfl,tv,ρ,s,d,M1,σ1,e1,fun σv1 M2=>⟨tv,ρ,{s with σ:=σ1},ds,⟨M2,h2,lb⟩,σ',e,k⟩⟩
theorem sg_tup{es:List Expr}{k:Nat}{gs:List Tg}(hk:X.K=G.K)(hc:X.calm=true)(h:SGs X G F es gs)(hn:(assignEach es X.env).length=gs.length:=by rfl)(hst:(assignEach es X.env).findIdx? (·.1)=none:=by rfl):SG X G F (.Tuple es k pos) (.tp gs):=by
 refine PG.imp0 (zfS hc h hn hst) fun v σv H Q ⟨tv,ρ,s,t,M,σ',e,kk⟩=> ?_
 have len: ∀{gs:List Tg} {ds:List D} {σ σ':List (Option D)},asgL gs ds σ=some σ'->ds.length=gs.length:=by
  intro gs
  induction gs with
  |nil=>intro ds σ σ' e;cases ds with
   |nil=>rfl
   |cons _ _=>erw[asgL] at e;cases e
  |cons g gs ih=>intro ds σ σ' e;cases ds with
   |nil=>erw[asgL] at e;cases e
   |cons d ds=>
    erw[asgL] at e
    cases e1:asg g d σ with
    |none=>rw[e1] at e;cases e
    |some σ1=>rw[e1] at e;rw[i7,i7,ih e]
 cases t with
 |tup ds=>
  erw[asg] at e
  obtain⟨a,xs,rfl,sq,r⟩:=M.rd1.tupq
  refine⟨a,xs,rfl, .inl (hk▸sq),by rw[<-r.length];exact len e,tv,ρ,s,ds,⟨M.m,r,fun l h=>M.lb1 l (by erw[y4];exact h)⟩,σ',e,kk⟩
 |lst l ds=>
  erw[asg] at e
  obtain⟨a,xs,rfl,sq,r,sub⟩:=M.rd1.lstq (ds:=ds) rfl
  refine⟨a,xs,rfl, .inr (hk▸sq),by rw[<-r.length];exact len e,tv,ρ,s,ds,⟨M.m,r,fun l h=>M.lb1 l (sub l h)⟩,σ',e,kk⟩
 |_=>erw[asg] at e;cases e
theorem ss_asg{tg:Expr}{g:Tg}{m:M D}(he:SE X G F e m)(hg:SG X G F tg g)(hs:swapsWithSole [tg] e pos.line X.env=pure false:=by rfl)(hw:swappedStores [tg] e X.env=pure none:=by rfl)
 (h1:(assignEach [tg] X.env).map (·.2)=[assign tg X.env]:=by rfl):SS X G F (.Assign [tg] e pos) (Y4 g m):=by
 refine PS.imp0 (z91 he hg hs hw h1) fun D σ H ⟨tv,h⟩=>⟨tv,(z0u h).mono fun v H1 ⟨ρ1,s1,t,M1,W⟩=> ?_⟩
 cases e:asg g t s1.σ with
 |none=>erw[e] at W;exact False.elim W
 |some σ'=>
  erw[e] at W
  exact⟨tv,ρ1,s1,t,M1,σ',e,fun σv' M2=>W ρ1 σv' H1 M2⟩
theorem ss_set{i:Nat}{x:Str}{p:Pos}{m:M D}(h: ∀{te:TE},PE X e te->PS X (.Assign [.Name x p] e pos) (ziM te (z8f i)))(he:SE X G F e m):SS X G F (.Assign [.Name x p] e pos) (Y4 (.nm i) m):=by
 refine PS.imp0 (h he) fun D σ H ⟨tv,h⟩=>⟨tv,(z0u h).mono fun v H1 ⟨ρ1,s1,t,M1,W⟩=> ?_⟩
 erw[asg] at W
 exact W ρ1 _ H1 (M1.setS i).m
end
end Mi
namespace L2
open PySem PySem.Spec PyProof.Rows
noncomputable abbrev z9z(ifs:List Expr)(env:Env):Sem Bool:=forIn ifs true fun c r=>if r=true then do let ok<-isTrue c env (eval c env);pure (ForInStep.yield ok) else pure (ForInStep.yield r)
theorem X4{prog:Program}{w:World}{A:Around}{R:Result->Shared->Prop}{s:Shared}{elt target iter:Expr}{ifs:List Expr}{scope:Scope}{pos:Pos}{it acc:Value}{env:Env}(I:Nat->Shared->Prop)
 (turn: ∀n s,I n s->wpAny (model prog w) A (pyNext it) (fun r s₁=>match r with
  |none=>R (.ok .next) s₁
  |some v=>wpAny (model prog w) A (letOwnedTupleGo target it v) (fun _ s₁=>wpAny (model prog w) A (assign target env v) (fun _ s₂=>wpAny (model prog w) A (z9z ifs env) (fun ok s₃=>
   if ok=true then wpAny (model prog w) A (eval elt env) (fun x s₃=>
   wpAny (model prog w) A (call (.builtin "list.append") [acc,x]) (fun _ s₄=> ∃m,m<n/\I m s₄) (fun _ _=>False) s₃)
   (fun _ _=>False) s₃ else ∃m,m<n/\I m s₃) (fun _ _=>False) s₂) (fun _ _=>False) s₁) (fun _ _=>False) s₁) (fun _ _=>False) s)
 (n:Nat) (h:I n s):
 codeAny (model prog w) A (.compLoop (.ListComp elt [⟨target,iter,ifs,0⟩] scope pos) 0 it acc env) R s:=by
 refine codeAny_loop rfl I (fun n s hI=> ?_) n h
 show wpAny _ _ ((compTurn (.ListComp elt [⟨target,iter,ifs,0⟩] scope pos) 0 it acc env).onRaise (fun x=>do noteFrame x env;theTreesLotGoes x)) _ _ s
 refine wpAny_noted ?_
 rw[compTurn_list]
 refine wpAny_bind (wpAny_standAt (wpAny_bind (wpAny_mono (turn n s hI) (fun r s₁ h₁=> ?_) fun _ _ h'=>h'.elim)))
 cases r with
 |none=>exact wpAny_pure h₁
 |some v=>
  refine wpAny_bind (wpAny_mono h₁ (fun _ s₁ h₁=> ?_) fun _ _ h'=>h'.elim)
  refine wpAny_bind (wpAny_mono h₁ (fun _ s₂ h₂=>wpAny_bind (wpAny_mono h₂ (fun ok s₃ h₃=> ?_) fun _ _ h'=>h'.elim)) fun _ _ h'=>h'.elim)
  cases ok with
  |false=>exact wpAny_pure ⟨rfl,h₃⟩
  |true=>
   exact wpAny_bind (wpAny_bind (wpAny_mono h₃ (fun x s₄ h₄=>wpAny_bind (wpAny_mono h₄ (fun _ s₅ h₅=>wpAny_pure (wpAny_pure ⟨rfl,h₅⟩)) fun _ _ h'=>h'.elim)) fun _ _ h'=>h'.elim))
noncomputable def PTs(X:Cx)(ifs:List Expr)(t:TT):Prop:=
 ∀(pins:List (Addr×Obj)) (s:Shared) (σ:St) (H:Hp) (Q:Bool->Hp->Prop),Inv X pins σ H s->t σ H Q->wpAny (model X.prog X.w) X.A (z9z ifs X.env) (TP X pins σ Q) X.xe s
theorem zdR{X:Cx}:PTs X [] (fun _ H Q=>Q true H):=fun pins s σ H Q I h=>wpAny_tests_nil ⟨H,I,h⟩
theorem zdS{X:Cx}{c:Expr}{t:TT}(h:PT X c t):PTs X [c] t:=fun pins s σ H Q I q=>wpAny_tests_one (h pins s σ H Q I q)
section
variable{X:Cx}{tg iter elt:Expr}{ifs:List Expr}{pos:Pos}{scope:Scope}{own frees:List Str}{ix:List Nat}{wi:TI}{g:TG}{tt:TT}{te:TE}
noncomputable def z9A(K:W.Frag)(wi:TI)(g:TG)(tt:TT)(te:TE)(k:Nat)(ix:List Nat):TE:=fun σ H Q=>wi σ H fun J H1=> ∀D,H1 D=none->(∀a o,K.lookup a=some o->upd H1 D (.lst []) a=none)->
 ∃W:Nat->Nat->List V->St->Hp->Prop,(∃m,W 0 m [] (z1T k ix σ) (upd H1 D (.lst [])))/\
  ∀i m ys σ' H',W i m ys σ' H'->H' D=some (.lst ys)/\((J.stop i H'/\Q (.ref D) H')\/
   (J.go i H'/\∀x H2,J.yld i H' x H2->g x σ' H2 fun σ2 H3=>tt σ2 H3 fun ok H3=>if ok=true then te σ2 H3 fun y H4=>H4 D=some (.lst ys)/\ys.length<sizeLine/\∃m',m'<m/\W (i+1) m' (ys++[y]) σ2 (upd H4 D (.lst (ys++[y])))
    else ∃m',m'<m/\W (i+1) m' ys σ2 H3))
theorem z9B(hc:X.calm=true)(S:V7 X.env.scope scope own frees X.N ix)(hi:PI X tg iter wi)
 (hg: ∀cl C s₀ H₀ fp pn,PG (j5 X scope own frees cl C s₀ H₀ fp pn) tg g) (ht: ∀cl C s₀ H₀ fp pn,PTs (j5 X scope own frees cl C s₀ H₀ fp pn) ifs tt) (he: ∀cl C s₀ H₀ fp pn,PE (j5 X scope own frees cl C s₀ H₀ fp pn) elt te)
 (hs: ∀x,foldedSetIterable iter X.env x=pure x:=by intro _;rfl):
 PE X (.ListComp elt [⟨tg,iter,ifs,0⟩] scope pos) (z9A X.K wi g tt te own.length ix):=by
 intro pins s σ H Q I h
 have hclos:closureFor scope X.env=pure (z0m X.env scope.names []):=z2s fun y hy e=>I.ok.has y.1 (S.fr y hy e)
 rw[eval_ListComp]
 refine wpAny_comprehension_free (use:=none) rfl hs hclos S.kind S.names (thn (hi pins s σ H _ I h) fun v s1 h1=>thn h1 fun itv s2 h2=> ?_)
 obtain⟨it,fp,tn,J,H2,e,I2,T,st2,f2,hD⟩:=h2
 subst e
 refine wpAny_newObj_type ?_
 have I3:Inv X pins σ (upd H2 s2.heap.objs.size (.lst [])) {s2 with heap:=s2.heap.push {cls:= .type "list",data:= .seq ([]:List Value).toArray}}:=I2.lnew (t':=s2.toks) .nil (L7 _)
 have nD:H2 s2.heap.objs.size=none:=I2.fresh
 obtain⟨W,⟨m0,w0⟩,turn⟩:=hD _ nD fun a o e=>(I3.bs a o (I3.ok.mod.kin a o e)).2
 have fpl: ∀b∈fp,b<s2.heap.objs.size:=fun b z=>by
  obtain⟨o,q,_⟩:=T.obj _ _ st2 b z
  exact Heap.lt_size q
 generalize hs3:({s2 with heap:=s2.heap.push {cls:= .type "list",data:= .seq ([]:List Value).toArray}}:Shared)=s3 at I3
 have hpush: ∀b o,s2.heap.get? b=some o->s3.heap.get? b=some o:=fun b o q=>by rw[<-hs3];exact Heap.get?_push_of_some _ q
 have hsz3:s2.heap.objs.size<s3.heap.objs.size:=by rw[<-hs3];show _<(s2.heap.push _).objs.size;rw[Heap.size_push];exact D0 _
 have f3: ∀b∈fp,z5T X pins (upd H2 s2.heap.objs.size (.lst [])) b:=fun b z=>⟨by rw[Z6 (A2 (fpl b z))];exact(f2 b z).1,(f2 b z).2⟩
 have st3:tn 0 s3.heap:=T.keep _ _ _ st2 fun b _ o q=>hpush b o q
 generalize hDd:s2.heap.objs.size=D at*
 generalize hH3:upd H2 D (.lst [])=H3 at*
 have goal:wpAny (model X.prog X.w) X.A (newFunctionEnv scope X.env.globals (z0m X.env scope.names []) [] X.env.qual none .none (some X.env)) (fun cenv s₄=>
  codeAny (model X.prog X.w) X.A (.compStart (.ListComp elt [⟨tg,iter,ifs,0⟩] scope pos) 0 (.ref it) (.ref D) {cenv with scope:=relabel scope X.env}) (compPost (model X.prog X.w) X.A X.xe none (EP X pins σ Q) (.ref D) cenv.locals) s₄) X.xe s3:=by
  refine wpAny_newFunctionEnv S.nocell (by intro y hy;simp at hy) (fun h1 hns hsb=> ?_) S.kind
  have hns:h1.Ns s3.heap.objs.size (fun _=>none):=hns
  have keep4: ∀b o,s3.heap.get? b=some o->h1.get? b=some o:=fun b o q=>hsb.extBut b o (A2 (Heap.lt_size q)) (Heap.get?_push_of_some _ q)
  have fpl3: ∀b∈fp,b<s3.heap.objs.size:=fun b z=>u04 (fpl b z) hsz3
  generalize hs4:({s3 with heap:=h1,toks:=s3.toks+([]:List (Str×Value)).length}:Shared)=s4
  have I4:Inv (j5 X scope own frees (z0m X.env scope.names []) s3.heap.objs.size s3 H3 fp (X.pn++pins)) [] (z1T own.length ix σ) H3 s4:=
   z4u S I3 f3 fpl3 (by rw[<-hs4]) (by rw[<-hs4]) (fun b o q=>by rw[<-hs4];exact keep4 b o q) (by rw[<-hs4];exact hns)
  have st4:tn 0 s4.heap:=T.keep _ _ _ st3 fun b _ o q=>by rw[<-hs4];exact keep4 b o q
  generalize hXc:j5 X scope own frees (z0m X.env scope.names []) s3.heap.objs.size s3 H3 fp (X.pn++pins)=Y at I4
  have eP:Y.prog=X.prog:=by rw[<-hXc];rfl
  have eW:Y.w=X.w:=by rw[<-hXc];rfl
  have eK:Y.K=X.K:=by rw[<-hXc];rfl
  have eA:Y.A=X.A:=by rw[<-hXc];rfl
  have eC:Y.calm=true:=by rw[<-hXc];exact hc
  have eE:Y.env=compEnvC scope (z0m X.env scope.names []) s3.heap.objs.size X.env:=by rw[<-hXc];rfl
  have eX:Y.xe=fun _ _=>False:=by rw[<-hXc];rfl
  have eF: ∀{H':Hp},(∀b∈fp,H' b=none)->∀b∈fp,z5T Y [] H' b:=fun{H'} hn b hb=>by
   rw[<-hXc]
   obtain⟨g1,g2,g3,g4,g5,g6⟩:=f3 b hb
   refine⟨hn b hb,A2 (fpl3 b hb),fun q=> ?_, .inl hb,fun x c e=> ?_,fun p hp=> ?_⟩
   ·rcases i8.mp (I3.stkSub b q) with r|r
    ·exact g2 r
    ·exact g3 r
   ·rcases z3o _ _ e with q|q
    ·exact nomatch q
    ·exact g5 x c q.1
   ·have hp:p∈(X.pn++pins)++[]:=hp
    rw[i9] at hp
    exact g6 p hp
  have gY:PG Y tg g:=by rw[<-hXc];exact hg _ _ _ _ _ _
  have tY:PE Y elt te:=by rw[<-hXc];exact he _ _ _ _ _ _
  have sY:PTs Y ifs tt:=by rw[<-hXc];exact ht _ _ _ _ _ _
  have loop:codeAny (model X.prog X.w) X.A (.compLoop (.ListComp elt [⟨tg,iter,ifs,0⟩] scope pos) 0 (.ref it) (.ref D) (compEnvC scope (z0m X.env scope.names []) s3.heap.objs.size X.env))
   (compPost (model X.prog X.w) X.A X.xe none (EP X pins σ Q) (.ref D) s3.heap.objs.size) s4:=by
   refine X4 (fun n s'=> ∃i ys σ' H',Inv Y [] σ' H' s'/\tn i s'.heap/\(∀b∈fp,H' b=none)/\W i n ys σ' H') ?_ m0 ⟨0,[],_,_,I4,st4,fun b hb=>(f3 b hb).1,w0⟩
   rintro n s5 ⟨i,ys,σ5,H5,I5,st5,fr5,w5⟩
   obtain⟨hD5,alt⟩:=turn i n ys σ5 H5 w5
   rcases alt with⟨stop,qn⟩|⟨go,step⟩
   ·have d:=T.done Y eP eW eK eC i [] s5 σ5 H5 (fun _ _=>False) I5 (eF fr5) st5 stop
    rw[eA] at d
    refine thn d fun r s6 ⟨hr,I6⟩=> ?_
    subst hr
    subst hXc
    obtain⟨m6,n6,_⟩:=I6.loc
    exact⟨m6,n6,fun h'' hs''=>⟨.ref D,H5,z7z I3 f3 (c9 _) I6 hs'',rfl,qn⟩⟩
   ·have d:=T.item Y eP eW eK eC i [] s5 σ5 H5 (fun _ _=>False) I5 (eF fr5) st5 go
    rw[eA] at d
    refine thn d fun r s6 ⟨u,hr,h6⟩=> ?_
    subst hr
    refine thn h6 fun _ s7 ⟨x,H7,I7,r7,y7,st7,fr7⟩=> ?_
    have I7':=I7.pinned (eF fr7) (T.obj _ _ st7)
    have e1:=gY _ s7 σ5 H7 x u _ I7' r7 (step x H7 y7)
    rw[eP,eW,eA,eE,eX] at e1
    refine thn e1 fun _ s8 ⟨σ8,H8,I8,q8⟩=> ?_
    have e1':=sY _ s8 σ8 H8 _ I8 q8
    rw[eP,eW,eA,eE,eX] at e1'
    refine thn e1' fun ok s8 ⟨H8,I8,q8⟩=> ?_
    cases ok with
    |false=>
     rw[if_neg r6] at q8⊢
     obtain⟨m',hm',w9⟩:=q8
     refine⟨m',hm',i+1,_,σ8,_,I8.unpinned,T.keep _ _ _ st7 fun b hb o e=> ?_,fun b hb=> ?_,w9⟩
     ·exact(I8.pin (b,o) (b9 _ (b9 _ (Q3 hb e)))).1
     ·obtain⟨o,e,d⟩:=T.obj _ _ st7 b hb
      exact(I8.pin (b,o) (b9 _ (b9 _ (Q3 hb e)))).2.1
    |true=>
    rw[if_pos rfl] at q8⊢
    have e2:=tY _ s8 σ8 H8 _ I8 q8
    rw[eP,eW,eA,eE,eX] at e2
    refine thn e2 fun yv s9 ⟨y,H9,I9,r9,hD9,hz9,m',hm',w9⟩=> ?_
    have e3:=z3A (X:=Y) _ s9 σ8 H9 (.ref D) [y] (.ref D) [yv] (fun v H'=>v= .non/\H'=upd H9 D (.lst (ys++[y]))) I9 rfl (.cons r9 .nil) ⟨D,ys,y,rfl,rfl,hD9,hz9,rfl,rfl⟩
    rw[eP,eW,eA,eX] at e3
    refine thn e3 fun _ s10 ⟨v10,H10,I10,r10,_,e10⟩=> ?_
    subst e10
    refine⟨m',hm',i+1,_,σ8,_,I10.unpinned,T.keep _ _ _ st7 fun b hb o e=> ?_,fun b hb=> ?_,w9⟩
    ·exact(I10.pin (b,o) (b9 _ (b9 _ (Q3 hb e)))).1
    ·obtain⟨o,e,d⟩:=T.obj _ _ st7 b hb
     exact(I10.pin (b,o) (b9 _ (b9 _ (Q3 hb e)))).2.1
  exact codeAny_compStart_list loop (T.self _ 0 _ _ _ st4 loop)
 exact goal
theorem z9C{y:Str}{py spos:Pos}{i:Nat}(hN:X.N.Nodup)(hy:X.N[i]? =some y)(hx:Loc X.env.scope y)(hfn:X.fn y=true\/X.env.scope.names.lookup y=some .local)(hsw:swapsWith (.ListComp elt [⟨tg,iter,ifs,0⟩] scope pos) (some (.Name y py)) spos.line X.env=pure true)(hc:X.calm=true)(S:V7 X.env.scope scope own frees X.N ix)(hi:PI X tg iter wi)
 (hg: ∀cl C s₀ H₀ fp pn,PG (j5 X scope own frees cl C s₀ H₀ fp pn) tg g) (ht: ∀cl C s₀ H₀ fp pn,PTs (j5 X scope own frees cl C s₀ H₀ fp pn) ifs tt) (he: ∀cl C s₀ H₀ fp pn,PE (j5 X scope own frees cl C s₀ H₀ fp pn) elt te)
 (hs: ∀x,foldedSetIterable iter X.env x=pure x:=by intro _;rfl):
 PS X (.Assign [.Name y py] (.ListComp elt [⟨tg,iter,ifs,0⟩] scope pos) spos) (fun Dd σ H=>z9A X.K wi g tt te own.length ix σ H fun v H'=>Dd.nx (σ.set i (some v)) H'):=by
 intro pins s σ H Dd I h
 have hclos:closureFor scope X.env=pure (z0m X.env scope.names []):=z2s fun y hy e=>I.ok.has y.1 (S.fr y hy e)
 rw[exec_Assign_Name_used _ _ _ _ hsw]
 refine wpAny_bind (wpAny_standAt (wpAny_bind ?_))
 show wpAny _ X.A (do let _<-comprehension (.ListComp elt [⟨tg,iter,ifs,0⟩] scope pos) scope X.env _ (newList []) false (eval iter X.env) (some (assign (.Name y py) X.env))) _ _ s
 refine wpAny_bind (wpAny_mono (wpAny_comprehension_free (use:=some (assign (.Name y py) X.env)) (Q:=fun _ s'=>SP X pins Dd .next s') rfl hs hclos S.kind S.names (thn (hi pins s σ H _ I h) fun v s1 h1=>thn h1 fun itv s2 h2=> ?_)) (fun _ s' hq=>wpAny_pure (wpAny_pure hq)) fun _ _ e=>e)
 obtain⟨it,fp,tn,J,H2,e,I2,T,st2,f2,hD⟩:=h2
 subst e
 refine wpAny_newObj_type ?_
 have I3:Inv X pins σ (upd H2 s2.heap.objs.size (.lst [])) {s2 with heap:=s2.heap.push {cls:= .type "list",data:= .seq ([]:List Value).toArray}}:=I2.lnew (t':=s2.toks) .nil (L7 _)
 have nD:H2 s2.heap.objs.size=none:=I2.fresh
 obtain⟨W,⟨m0,w0⟩,turn⟩:=hD _ nD fun a o e=>(I3.bs a o (I3.ok.mod.kin a o e)).2
 have fpl: ∀b∈fp,b<s2.heap.objs.size:=fun b z=>by
  obtain⟨o,q,_⟩:=T.obj _ _ st2 b z
  exact Heap.lt_size q
 generalize hs3:({s2 with heap:=s2.heap.push {cls:= .type "list",data:= .seq ([]:List Value).toArray}}:Shared)=s3 at I3
 have hpush: ∀b o,s2.heap.get? b=some o->s3.heap.get? b=some o:=fun b o q=>by rw[<-hs3];exact Heap.get?_push_of_some _ q
 have hsz3:s2.heap.objs.size<s3.heap.objs.size:=by rw[<-hs3];show _<(s2.heap.push _).objs.size;rw[Heap.size_push];exact D0 _
 have f3: ∀b∈fp,z5T X pins (upd H2 s2.heap.objs.size (.lst [])) b:=fun b z=>⟨by rw[Z6 (A2 (fpl b z))];exact(f2 b z).1,(f2 b z).2⟩
 have st3:tn 0 s3.heap:=T.keep _ _ _ st2 fun b _ o q=>hpush b o q
 generalize hDd:s2.heap.objs.size=D at*
 generalize hH3:upd H2 D (.lst [])=H3 at*
 have goal:wpAny (model X.prog X.w) X.A (newFunctionEnv scope X.env.globals (z0m X.env scope.names []) [] X.env.qual none .none (some X.env)) (fun cenv s₄=>
  codeAny (model X.prog X.w) X.A (.compStart (.ListComp elt [⟨tg,iter,ifs,0⟩] scope pos) 0 (.ref it) (.ref D) {cenv with scope:=relabel scope X.env}) (compPost (model X.prog X.w) X.A X.xe (some (assign (.Name y py) X.env)) (fun _ s'=>SP X pins Dd .next s') (.ref D) cenv.locals) s₄) X.xe s3:=by
  refine wpAny_newFunctionEnv S.nocell (by intro y hy;simp at hy) (fun h1 hns hsb=> ?_) S.kind
  have hns:h1.Ns s3.heap.objs.size (fun _=>none):=hns
  have keep4: ∀b o,s3.heap.get? b=some o->h1.get? b=some o:=fun b o q=>hsb.extBut b o (A2 (Heap.lt_size q)) (Heap.get?_push_of_some _ q)
  have fpl3: ∀b∈fp,b<s3.heap.objs.size:=fun b z=>u04 (fpl b z) hsz3
  generalize hs4:({s3 with heap:=h1,toks:=s3.toks+([]:List (Str×Value)).length}:Shared)=s4
  have I4:Inv (j5 X scope own frees (z0m X.env scope.names []) s3.heap.objs.size s3 H3 fp (X.pn++pins)) [] (z1T own.length ix σ) H3 s4:=
   z4u S I3 f3 fpl3 (by rw[<-hs4]) (by rw[<-hs4]) (fun b o q=>by rw[<-hs4];exact keep4 b o q) (by rw[<-hs4];exact hns)
  have st4:tn 0 s4.heap:=T.keep _ _ _ st3 fun b _ o q=>by rw[<-hs4];exact keep4 b o q
  generalize hXc:j5 X scope own frees (z0m X.env scope.names []) s3.heap.objs.size s3 H3 fp (X.pn++pins)=Y at I4
  have eP:Y.prog=X.prog:=by rw[<-hXc];rfl
  have eW:Y.w=X.w:=by rw[<-hXc];rfl
  have eK:Y.K=X.K:=by rw[<-hXc];rfl
  have eA:Y.A=X.A:=by rw[<-hXc];rfl
  have eC:Y.calm=true:=by rw[<-hXc];exact hc
  have eE:Y.env=compEnvC scope (z0m X.env scope.names []) s3.heap.objs.size X.env:=by rw[<-hXc];rfl
  have eX:Y.xe=fun _ _=>False:=by rw[<-hXc];rfl
  have eF: ∀{H':Hp},(∀b∈fp,H' b=none)->∀b∈fp,z5T Y [] H' b:=fun{H'} hn b hb=>by
   rw[<-hXc]
   obtain⟨g1,g2,g3,g4,g5,g6⟩:=f3 b hb
   refine⟨hn b hb,A2 (fpl3 b hb),fun q=> ?_, .inl hb,fun x c e=> ?_,fun p hp=> ?_⟩
   ·rcases i8.mp (I3.stkSub b q) with r|r
    ·exact g2 r
    ·exact g3 r
   ·rcases z3o _ _ e with q|q
    ·exact nomatch q
    ·exact g5 x c q.1
   ·have hp:p∈(X.pn++pins)++[]:=hp
    rw[i9] at hp
    exact g6 p hp
  have gY:PG Y tg g:=by rw[<-hXc];exact hg _ _ _ _ _ _
  have tY:PE Y elt te:=by rw[<-hXc];exact he _ _ _ _ _ _
  have sY:PTs Y ifs tt:=by rw[<-hXc];exact ht _ _ _ _ _ _
  have loop:codeAny (model X.prog X.w) X.A (.compLoop (.ListComp elt [⟨tg,iter,ifs,0⟩] scope pos) 0 (.ref it) (.ref D) (compEnvC scope (z0m X.env scope.names []) s3.heap.objs.size X.env))
   (compPost (model X.prog X.w) X.A X.xe (some (assign (.Name y py) X.env)) (fun _ s'=>SP X pins Dd .next s') (.ref D) s3.heap.objs.size) s4:=by
   refine X4 (fun n s'=> ∃i ys σ' H',Inv Y [] σ' H' s'/\tn i s'.heap/\(∀b∈fp,H' b=none)/\W i n ys σ' H') ?_ m0 ⟨0,[],_,_,I4,st4,fun b hb=>(f3 b hb).1,w0⟩
   rintro n s5 ⟨i,ys,σ5,H5,I5,st5,fr5,w5⟩
   obtain⟨hD5,alt⟩:=turn i n ys σ5 H5 w5
   rcases alt with⟨stop,qn⟩|⟨go,step⟩
   ·have d:=T.done Y eP eW eK eC i [] s5 σ5 H5 (fun _ _=>False) I5 (eF fr5) st5 stop
    rw[eA] at d
    refine thn d fun r s6 ⟨hr,I6⟩=> ?_
    subst hr
    subst hXc
    obtain⟨m6,n6,_⟩:=I6.loc
    have n6:s6.heap.Ns s3.heap.objs.size m6:=n6
    have I7:Inv X pins σ H5 s6:=z7z (h':=s6.heap) I3 f3 (c9 _) I6 (Heap.SameBut.refl _ _)
    have fC:z5T X pins H5 s3.heap.objs.size:=I3.fpOk (c9 _) I6.free
    obtain⟨oC,eC,dC⟩: ∃o,s6.heap.get? s3.heap.objs.size=some o/\∀v,o.data≠ .cell v:=by
     obtain⟨o,es,ep,e1,e2,e3⟩:=n6
     exact⟨o,e1,fun v z=>by simp_all⟩
    have I8:=I7.pinned (fp:=[s3.heap.objs.size]) (fun b hb=>by
     have e:b=s3.heap.objs.size:=by simpa using hb
     rw[e];exact fC) (fun b hb=>by
     have e:b=s3.heap.objs.size:=by simpa using hb
     rw[e];exact⟨oC,eC,dC⟩)
    show wpAny _ _ (assign (.Name y py) X.env (.ref D)) _ _ s6
    refine wpAny_assign_Name (z3m (v:= .ref D) I8 hN hy hx rfl (fun s7 I9=> ?_) hfn)
    have e7:s7.heap.get? s3.heap.objs.size=some oC:=(I9.pin (s3.heap.objs.size,oC) (b9 _ (b9 _ (Q3 (by simp) eC)))).1
    refine⟨m6,n6.at' fun o e=>by rw[eC] at e;cases e;exact e7,fun h3 hs3=>⟨_,H5, ?_,qn⟩⟩
    exact I9.unpinned.turned (t':=s7.toks) (fun b o hb e=>(hs3.2 b hb).trans e) fC.1 fC.2.1 fC.2.2.2.1 fC.2.2.2.2.1 fC.2.2.2.2.2
   ·have d:=T.item Y eP eW eK eC i [] s5 σ5 H5 (fun _ _=>False) I5 (eF fr5) st5 go
    rw[eA] at d
    refine thn d fun r s6 ⟨u,hr,h6⟩=> ?_
    subst hr
    refine thn h6 fun _ s7 ⟨x,H7,I7,r7,y7,st7,fr7⟩=> ?_
    have I7':=I7.pinned (eF fr7) (T.obj _ _ st7)
    have e1:=gY _ s7 σ5 H7 x u _ I7' r7 (step x H7 y7)
    rw[eP,eW,eA,eE,eX] at e1
    refine thn e1 fun _ s8 ⟨σ8,H8,I8,q8⟩=> ?_
    have e1':=sY _ s8 σ8 H8 _ I8 q8
    rw[eP,eW,eA,eE,eX] at e1'
    refine thn e1' fun ok s8 ⟨H8,I8,q8⟩=> ?_
    cases ok with
    |false=>
     rw[if_neg r6] at q8⊢
     obtain⟨m',hm',w9⟩:=q8
     refine⟨m',hm',i+1,_,σ8,_,I8.unpinned,T.keep _ _ _ st7 fun b hb o e=> ?_,fun b hb=> ?_,w9⟩
     ·exact(I8.pin (b,o) (b9 _ (b9 _ (Q3 hb e)))).1
     ·obtain⟨o,e,d⟩:=T.obj _ _ st7 b hb
      exact(I8.pin (b,o) (b9 _ (b9 _ (Q3 hb e)))).2.1
    |true=>
    rw[if_pos rfl] at q8⊢
    have e2:=tY _ s8 σ8 H8 _ I8 q8
    rw[eP,eW,eA,eE,eX] at e2
    refine thn e2 fun yv s9 ⟨y,H9,I9,r9,hD9,hz9,m',hm',w9⟩=> ?_
    have e3:=z3A (X:=Y) _ s9 σ8 H9 (.ref D) [y] (.ref D) [yv] (fun v H'=>v= .non/\H'=upd H9 D (.lst (ys++[y]))) I9 rfl (.cons r9 .nil) ⟨D,ys,y,rfl,rfl,hD9,hz9,rfl,rfl⟩
    rw[eP,eW,eA,eX] at e3
    refine thn e3 fun _ s10 ⟨v10,H10,I10,r10,_,e10⟩=> ?_
    subst e10
    refine⟨m',hm',i+1,_,σ8,_,I10.unpinned,T.keep _ _ _ st7 fun b hb o e=> ?_,fun b hb=> ?_,w9⟩
    ·exact(I10.pin (b,o) (b9 _ (b9 _ (Q3 hb e)))).1
    ·obtain⟨o,e,d⟩:=T.obj _ _ st7 b hb
     exact(I10.pin (b,o) (b9 _ (b9 _ (Q3 hb e)))).2.1
  exact codeAny_compStart_list loop (T.self _ 0 _ _ _ st4 loop)
 exact goal
end
structure zf4(osc sc:Scope)(own frees N:List Str)(ix:List Nat):Prop where
 kind:sc.kind= .function
 names: ∀y∈sc.names,y.2= .local->sc.names.lookup y.1=some .local
 fr: ∀y∈sc.names,y.2= .free->osc.names.lookup y.1=some .cell\/osc.names.lookup y.1=some .free
 nd:(own++frees).Nodup
 frl: ∀x∈frees,sc.names.lookup x=some .free
 ixs:ix.map (fun i=>N[i]?)=frees.map some
 frc: ∀y∈sc.names,y.2= .cell->y.1∉frees
 owf: ∀y∈sc.names,y.2= .free->y.1∉own
theorem Inv.turnedL{X:Cx}{pins:List (Addr×Obj)}{σ:List (Option V)}{H:Hp}{s:Shared}{h':Heap}{t':Nat}{fp:List Addr}(I:Inv X pins σ H s)(k: ∀b o,b∉fp->s.heap.get? b=some o->h'.get? b=some o)(hf: ∀b∈fp,z5T X pins H b):Inv X pins σ H {s with heap:=h',toks:=t'}:=by
 have nit: ∀b u,H b=some u->b∉fp:=fun b u e z=>by rw[(hf b z).1] at e;cases e
 refine I.step (g':=s.gens) (d':=s.drawn) (ch:=fp) (fun b hb=> ?_) (fun b o _ _ hc e _=>k b o hc e) (fun b o _ _ hc e _=>⟨o.slots,k b o hc e⟩) (fun _ _ _ _ n=>n)
  (fun b o hc e=>⟨o,k b o hc e⟩) (fun _ _ e=>e) (fun _ _ _ e=>e) (fun b ps e=>⟨#[],by rw[e];simp⟩) (fun m hm=> ?_) (fun b u e=> ?_) I.bare
 ·obtain⟨f0,f1,f2,f3,f4,f5⟩:=hf b hb
  exact⟨f3,f1,f4,f5⟩
 ·obtain⟨o,es,ep,ho,r⟩:=hm
  exact⟨o,es,ep,k _ o (fun z=>(hf _ z).2.1 rfl) ho,r⟩
 ·refine(I.hok b u e).stay (fun c v hc q=>k c v ?_ q) (fun _ q=>q) fun _ _ q=>q
  rcases hc with z|z
  ·rw[z];exact nit b u e
  ·exact nit c _ z
noncomputable def Ite(K:W.Frag)(a:Addr):It:=
 ⟨fun i H=> ∃xs x,SqL K H a xs/\xs[i]? =some x,fun i H v H'=> ∃p x,H p=none/\v= .ref p/\H'=upd H p (.tup [.int i,x])/\(∀xs,SqL K H a xs->xs[i]? =some x)/\∀b o,K.lookup b=some o->H' b=none,fun i H=> ∃xs,SqL K H a xs/\xs.length<=i⟩
theorem z9D{P:Program}{w:World}{K:W.Frag}{elts:List Expr}{x1:Nat}{tpos:Pos}(a e it:Addr)(hne:e≠it):zcp P w K (.Tuple elts x1 tpos) (Ite K a) [e,it] e (fun i h=> ∃old,IsEnum h e it i old/\h.IsListIter it a i) where
 mem:=by simp
 obj:=fun i h st b hb=>by
  obtain⟨old,h1,h2⟩:=st
  have hb:b=e\/b=it:=by simpa using hb
  rcases hb with rfl|rfl
  ·exact⟨_,h1,fun v z=>by
    have z':Data.fields _=Data.cell v:=z
    cases z'⟩
  ·obtain⟨o,e,c,d⟩:=h2
   exact⟨o,e,fun v z=>by rw[d] at z;cases z⟩
 keep:=fun i h h' st k=>by
  obtain⟨old,h1,h2⟩:=st
  exact⟨old,k e (by simp) _ h1,h2.at fun o q=>k it (by simp) o q⟩
 item:=by
  intro X hP hw hK hc i pins s σ H E I hf st hg
  subst hP hw hK
  obtain⟨old,st1,st2⟩:=st
  obtain⟨xs,x,hq,hx⟩:=hg
  obtain⟨its,rv,p,hz⟩:=I.list hq
  obtain⟨u,hu,ru⟩:=rv.get hx
  refine wpAny_pyNext_enum_item st1 st2 p.isList (x:=u) (by simpa using hu) hne fun h1 heo hit ht hsz hk=> ?_
  refine⟨_,rfl,wpAny_letOwnedTupleGo_enum heo fun h2 he2 hs2=> ?_⟩
  have hs2:Heap.SameBut e h1 h2:=hs2
  have hel:e<s.heap.objs.size:=Heap.lt_size st1
  have ht2:h2.get? s.heap.objs.size=some {cls:= .type "tuple",data:= .seq #[.int i s.toks,u]}:=(hs2.2 _ (P5 hel)).trans ht
  have fr: ∀b∈[e,it],b≠s.heap.objs.size:=fun b hb=>by
   have hb:b=e\/b=it:=by simpa using hb
   rcases hb with rfl|rfl
   ·exact A2 hel
   ·obtain⟨o,q,_⟩:=st2
    exact A2 (Heap.lt_size q)
  have I1:Inv X pins σ (upd H s.heap.objs.size (.tup [.int i,x])) {s with heap:=s.heap.push {cls:= .type "tuple",data:= .seq #[.int i s.toks,u]},toks:=s.toks}:=I.laid (t':=s.toks) (o:= .tup [.int i,x]) (fun b ob q=>Heap.get?_push_of_some _ q) (c9 _) ⟨by show 2<=sizeLine;decide,[.int i s.toks,u], .cons ⟨_,rfl⟩ (.cons ru .nil),IsTup.new _ _⟩
  have f1: ∀b∈[e,it],z5T X pins (upd H s.heap.objs.size (.tup [.int i,x])) b:=fun b hb=>⟨by rw[Z6 (fr b hb)];exact(hf b hb).1,(hf b hb).2⟩
  have I2:=I1.turnedL (h':=h2) (t':=s.toks+1) (fun b o hb q=>by
   have hb:b≠e/\b≠it:=by simpa using hb
   rcases Heap.get?_push_cases (show(s.heap.push {cls:= .type "tuple",data:= .seq #[.int i s.toks,u]}).get? b=some o from q) with⟨rfl,rfl⟩|q'
   ·exact ht2
   ·exact(hs2.2 b hb.1).trans (hk b o hb.1 hb.2 q')) f1
  refine⟨.ref s.heap.objs.size,_,I2,rfl,⟨_,x,I.hok.fresh (c9 _),rfl,rfl,fun ys hy=>by rw[I.list_inj hy hq];exact hx,fun b o q=>(I2.bs b o (I2.ok.mod.kin b o q)).2⟩,⟨u, ?_, ?_⟩,fun b hb=>(f1 b hb).1⟩
  ·have:((i+1:Nat):Int)=(i:Int)+1:=by push_cast;rfl
   rw[this];exact he2
  ·obtain⟨o,q,r⟩:=hit
   exact⟨o,(hs2.2 it (Ne.symm hne)).trans q,r⟩
 done:=by
  intro X hP hw hK hc i pins s σ H E I hf st hg
  subst hP hw hK
  obtain⟨old,st1,st2⟩:=st
  obtain⟨xs,hq,hx⟩:=hg
  obtain⟨its,rv,p,hz⟩:=I.list hq
  have hl:=rv.length
  exact wpAny_pyNext_enum_end (I.ok.hd hc) st1 st2 p.isList (by simp;lia) fun h' eb=>⟨rfl,I.turnedL (t':=s.toks) (fun b o hb q=>eb b o (fun z=>hb (by simp[z])) q) hf⟩
 self:=fun A i s Q E st h=>by
  obtain⟨old,st1,_⟩:=st
  exact wpAny_pyIter_enum st1 h
section
variable{prog:Program}{w:World}{A:Around}{E:Value->Shared->Prop}{s:Shared}
noncomputable abbrev zjD(h:Heap)(a t:Addr)(i:Nat):Prop:=h.IsTupleIter a t i
theorem z2I{it t:Addr}{i:Nat}{items}{x:Value}{Q:Value->Shared->Prop}(hit:s.heap.IsTupleIter it t i)(hl:s.heap.IsTuple t items)(hx:items[i]? =some x)
 (hQ: ∀g,g.IsTupleIter it t (i+1)->Heap.SameBut it s.heap g->Q x {s with heap:=g}):wpAny (model prog w) A (Builtin.SmallTypes.nextOf (.ref it)) Q E s:=by
 obtain⟨oi,gi,ci,di⟩:=id hit
 obtain⟨ot,gt,_,kt,dt⟩:=hl
 have step: ∀u:Unit,zjD (s.heap.update it (Obj.mapFields (·.setIfInBounds 1 (rawInt (i+1))))) it t (i+1):=fun _=>⟨_,Heap.get?_update_self _ gi (Obj.isFreed_of_fields (Obj.data_mapFields di _)),(Obj.cls_mapFields ..).trans ci,by rw[Obj.data_mapFields di];simp[rawInt]⟩
 unfold Builtin.SmallTypes.nextOf
 refine wpAny_bind (wpAny_callSpecial?_slot (name:=Str.ofString "__next__") hit.typeIs F.slot_tuple_iterator_next (wpAny_call_entry F.slot_tuple_iterator_next hit.typeIs F.entry_tuple_iterator_next (wpAny_bind (m:=field (.ref it) 0) (wpAny_field gi di (x:= .ref t) rfl ?_)) (F.args_tuple_iterator_next_1 _)))
 refine wpAny_bind (m:=field (.ref it) 1) (wpAny_field gi di (x:= .int i 0) rfl (wpAny_bind (m:=seqItems? (.ref t)) (wpAny_seqItems gt dt ?_)))
 erw[O2,hx]
 exact wpAny_bind (wpAny_setField gi di (by simp) (wpAny_pure ⟨x,rfl,wpAny_pure (hQ _ (step ()) (Heap.SameBut.update ..))⟩))
theorem z0Y{it t:Addr}{i:Nat}{items}{Q:Value->Shared->Prop}(hh:A.handled=none)(hit:s.heap.IsTupleIter it t i)(hl:s.heap.IsTuple t items)(hx:items[i]? =none)
 (hE: ∀g e,Heap.ExtBut it s.heap g->(∃o,g.get? e=some o/\o.cls= .type "StopIteration")->E (.ref e) {s with heap:=g}):wpAny (model prog w) A (Builtin.SmallTypes.nextOf (.ref it)) Q E s:=by
 obtain⟨oi,gi,ci,di⟩:=id hit
 obtain⟨ot,gt,_,kt,dt⟩:=hl
 unfold Builtin.SmallTypes.nextOf
 refine wpAny_bind (wpAny_callSpecial?_slot (name:=Str.ofString "__next__") hit.typeIs F.slot_tuple_iterator_next (wpAny_call_entry F.slot_tuple_iterator_next hit.typeIs F.entry_tuple_iterator_next (wpAny_bind (m:=field (.ref it) 0) (wpAny_field gi di (x:= .ref t) rfl ?_)) (F.args_tuple_iterator_next_1 _)))
 refine wpAny_bind (m:=field (.ref it) 1) (wpAny_field gi di (x:= .int i 0) rfl (wpAny_bind (m:=seqItems? (.ref t)) (wpAny_seqItems gt dt ?_)))
 erw[O2,hx]
 refine wpAny_bind (wpAny_rule (wpAny_bind (wpAny_setField gi di (by simp) (wpAny_bind (m:=newExc (.type "StopIteration") []) ?_))))
 erw[newExc,newTuple]
 refine wpAny_bind (wpAny_newObj_type (wpAny_bind (m:=firstArgMember _ _) (wpAny_of_eq (a:=Value.none) (by first|rfl|(erw[firstArgMember];rfl)) (wpAny_newObj_type ?_ (by size_fits)))) (by size_fits))
 erw[raiseNew]
 have h1:A.in1.handled=none:=hh
 exact wpAny_bind (wpAny_handled (by rw[h1];exact wpAny_bind (wpAny_pure (wpAny_throw (hE _ _ (((Heap.SameBut.update ..).extBut.push _).push _) ⟨_,Heap.get?_push_size _ rfl,rfl⟩)))))
end
theorem z6N{prog:Program}{w:World}{A:Around}(hh:A.handled=none)(it l:Addr)(hne:l≠it)(items:Array Value):Draws prog w A it [it,l] items.size (fun i v=>items[i]? =some v) (fun i h=>h.IsTupleIter it l i/\h.IsTuple l items) where
 live:=fun _ _ ⟨⟨o,g,_⟩,_⟩=>⟨o,g⟩
 frame:=fun _ _ _ ⟨⟨o,g,r⟩,⟨o',g',r'⟩⟩ keep=>⟨⟨o,keep it (by simp) o g,r⟩,⟨o',keep l (by simp) o' g',r'⟩⟩
 item:=fun i s Q E lt st go=>z2I st.1 st.2 (x:=items[i]) (by simp[lt]) fun g it' k=>go _ g s.toks (by simp[lt]) ⟨it',st.2.extBut k.extBut hne⟩ k
 done:=fun s Q E st go=>z0Y hh st.1 st.2 (by simp) go
noncomputable abbrev eOb(p:Addr):Obj:={cls:= .type "enumerate",data:= .fields #[.none, .bool false, .ref p,rawInt 0, .none, .none]}
noncomputable abbrev pOb(l:Addr):Obj:={cls:= .type "tuple_iterator",data:= .fields #[.ref l, .int 0 0]}
theorem z1P(l:Addr)(items:Array Value)(n:Nat)(dct:Option Addr)(sl:Array (Option Value)):
 Meets (Builtin.«enumerate.__new__» ⟨[.type "enumerate", .ref l],[]⟩) (fun _ R s=>s.heap.get? l=some {cls:= .type "tuple",dict:=dct,data:= .seq items n,slots:=sl}/\R (.ok (.ret (.ref (s.heap.push (pOb l)).objs.size))) {s with heap:=(s.heap.push (pOb l)).push (eOb s.heap.objs.size)}):=
 .of_wp fun prog w A R s ⟨gl,fin⟩=>by
  obtain⟨hp,gn,dr,tk,os⟩:=s
  have sub:=sub_enumerate
  have T:Heap.IsTuple (Shared.heap ⟨hp,gn,dr,tk,os⟩) l items:=⟨_,gl,rfl,n,rfl⟩
  wp_walk using AutoSeq1.wpAny_loadPart' gl
  refine wpAny_stack_any fun st=>wpAny_pure ?_
  split
  ·rename_i c _ _ _ _ _
   cases(c==Value.type "enumerate")<;>(wp_walk using AutoSeq1.wpAny_loadPart' gl,wpAny_pyIter_tuple T;exact⟨_,rfl,fin⟩)
  ·wp_walk using AutoSeq1.wpAny_loadPart' gl,wpAny_pyIter_tuple T
   exact⟨_,rfl,fin⟩
theorem z1Q{prog:Program}{w:World}{A:Around}{E:Value->Shared->Prop}{s:Shared}{l:Addr}{items:Array Value}{Q:Value->Shared->Prop}(hL:s.heap.IsTuple l items)
 (h: ∀g,IsEnum g (s.heap.objs.size+1) s.heap.objs.size 0 .none->g.IsTupleIter s.heap.objs.size l 0->g.objs.size=s.heap.objs.size+2->(∀b o,s.heap.get? b=some o->g.get? b=some o)->Q (.ref (s.heap.objs.size+1)) {s with heap:=g}):
 wpAny (model prog w) A (call (.type "enumerate") [.ref l]) Q E s:=by
 obtain⟨⟨c,dct,dt,sl⟩,gl,ec,n,ed⟩:=hL
 obtain rfl:c= .type "tuple" :=ec
 obtain rfl:dt= .seq items n:=ed
 have sz:(s.heap.push (pOb l)).objs.size=s.heap.objs.size+1:=Heap.size_push ..
 refine callType_new F.called_enumerate (by decide) (F.typeCall_enumerate_1 _) (F.newCall_enumerate_1 _) (fun obj=>F.args_object_init_2 obj _) F.entry_enumerate_new (z1P l items n dct sl) ⟨gl, ?_⟩
 show _/\_
 rw[sz]
 have en:IsEnum ((s.heap.push (pOb l)).push (eOb s.heap.objs.size)) (s.heap.objs.size+1) s.heap.objs.size 0 .none:=by
  have:=Heap.get?_push_size (s.heap.push (pOb l)) (o:=eOb s.heap.objs.size) rfl
  rw[sz] at this;exact this
 exact⟨⟨_,en,rfl⟩,h _ en ⟨_,Heap.get?_push_of_some _ (Heap.get?_push_size _ rfl),rfl,rfl⟩ (by rw[Heap.size_push,sz]) fun b o x=>Heap.get?_push_of_some _ (Heap.get?_push_of_some _ x)⟩
noncomputable def zjE(K:W.Frag)(a:Addr):It:=
 ⟨fun i H=> ∃xs x,SqT K H a xs/\xs[i]? =some x,fun i H v H'=> ∃p x,H p=none/\v= .ref p/\H'=upd H p (.tup [.int i,x])/\(∀xs,SqT K H a xs->xs[i]? =some x)/\∀b o,K.lookup b=some o->H' b=none,fun i H=> ∃xs,SqT K H a xs/\xs.length<=i⟩
theorem z8s{P:Program}{w:World}{K:W.Frag}{elts:List Expr}{x1:Nat}{tpos:Pos}(a e it:Addr)(hne:e≠it):zcp P w K (.Tuple elts x1 tpos) (zjE K a) [e,it] e (fun i h=> ∃old,IsEnum h e it i old/\h.IsTupleIter it a i) where
 mem:=by simp
 obj:=fun i h st b hb=>by
  obtain⟨old,h1,h2⟩:=st
  have hb:b=e\/b=it:=by simpa using hb
  rcases hb with rfl|rfl
  ·exact⟨_,h1,fun v z=>by
    have z':Data.fields _=Data.cell v:=z
    cases z'⟩
  ·obtain⟨o,e,c,d⟩:=h2
   exact⟨o,e,fun v z=>by rw[d] at z;cases z⟩
 keep:=fun i h h' st k=>by
  obtain⟨old,h1,h2⟩:=st
  exact⟨old,k e (by simp) _ h1,h2.at fun o q=>k it (by simp) o q⟩
 item:=by
  intro X hP hw hK hc i pins s σ H E I hf st hg
  subst hP hw hK
  obtain⟨old,st1,st2⟩:=st
  obtain⟨xs,x,hq,hx⟩:=hg
  obtain⟨its,rv,p,hz⟩:=I.tuple hq
  obtain⟨u,hu,ru⟩:=rv.get hx
  have p:s.heap.IsTuple a its.toArray:=p
  have nai:a≠it:=fun z=>by
   obtain⟨o,q,c,_⟩:=id p
   obtain⟨o',q',c',_⟩:=id st2
   rw[z,q'] at q;cases q
   rw[c] at c';exact absurd c' (by decide)
  have nea:e∉[it,a]:=fun z=>by
   have z:e=it\/e=a:=by simpa using z
   rcases z with z|z
   ·exact hne z
   ·obtain⟨o,q,c,_⟩:=id p
    rw[<-z,st1] at q;cases q
    have c:Value.type "enumerate" =Value.type "tuple" :=c
    exact absurd c (by decide)
  have hlt:i<its.toArray.size:=by
   have:=(List.getElem?_eq_some_iff.mp hu).1
   simpa using this
  refine wpAny_pyNext_enum_itemD (z6N (A:=X.A.in1) (I.ok.hd hc) it a nai its.toArray) st1 ⟨st2,p⟩ hlt hne nea fun u' h1 tk hP heo hst ht hsz hk=> ?_
  have eu:u'=u:=by
   have hu':its[i]? =some u:=hu
   have hP':its.toArray[i]? =some u':=hP
   rw[List.getElem?_toArray,hu'] at hP'
   exact(Option.some.inj hP').symm
  subst eu
  refine⟨_,rfl,wpAny_letOwnedTupleGo_enum heo fun h2 he2 hs2=> ?_⟩
  have hs2:Heap.SameBut e h1 h2:=hs2
  have hel:e<s.heap.objs.size:=Heap.lt_size st1
  have ht2:h2.get? s.heap.objs.size=some {cls:= .type "tuple",data:= .seq #[.int i tk,u']}:=(hs2.2 _ (P5 hel)).trans ht
  have fr: ∀b∈[e,it],b≠s.heap.objs.size:=fun b hb=>by
   have hb:b=e\/b=it:=by simpa using hb
   rcases hb with rfl|rfl
   ·exact A2 hel
   ·obtain⟨o,q,_⟩:=st2
    exact A2 (Heap.lt_size q)
  have I1:Inv X pins σ (upd H s.heap.objs.size (.tup [.int i,x])) {s with heap:=s.heap.push {cls:= .type "tuple",data:= .seq #[.int i tk,u']},toks:=s.toks}:=I.laid (t':=s.toks) (o:= .tup [.int i,x]) (fun b ob q=>Heap.get?_push_of_some _ q) (c9 _) ⟨by show 2<=sizeLine;decide,[.int i tk,u'], .cons ⟨_,rfl⟩ (.cons ru .nil),IsTup.new _ _⟩
  have f1: ∀b∈[e,it],z5T X pins (upd H s.heap.objs.size (.tup [.int i,x])) b:=fun b hb=>⟨by rw[Z6 (fr b hb)];exact(hf b hb).1,(hf b hb).2⟩
  have I2:=I1.turnedL (h':=h2) (t':=tk+1) (fun b o hb q=>by
   have hb:b≠e/\b≠it:=by simpa using hb
   rcases Heap.get?_push_cases (show(s.heap.push {cls:= .type "tuple",data:= .seq #[.int i tk,u']}).get? b=some o from q) with⟨rfl,rfl⟩|q'
   ·exact ht2
   ·exact(hs2.2 b hb.1).trans (hk b o hb.1 hb.2 q')) f1
  refine⟨.ref s.heap.objs.size,_,I2,rfl,⟨_,x,I.hok.fresh (c9 _),rfl,rfl,fun ys hy=>by rw[I.tuple_inj hy hq];exact hx,fun b o q=>(I2.bs b o (I2.ok.mod.kin b o q)).2⟩,⟨u', ?_, ?_⟩,fun b hb=>(f1 b hb).1⟩
  ·have:((i+1:Nat):Int)=(i:Int)+1:=by push_cast;rfl
   rw[this];exact he2
  ·obtain⟨o,q,r⟩:=hst.1
   exact⟨o,(hs2.2 it (Ne.symm hne)).trans q,r⟩
 done:=by
  intro X hP hw hK hc i pins s σ H E I hf st hg
  subst hP hw hK
  obtain⟨old,st1,st2⟩:=st
  obtain⟨xs,hq,hx⟩:=hg
  obtain⟨its,rv,p,hz⟩:=I.tuple hq
  have p:s.heap.IsTuple a its.toArray:=p
  have hl:=rv.length
  have hT:s.TypeIs (.ref e) "enumerate" :=⟨_,st1,rfl⟩
  unfold pyNext
  refine wpAny_bind (wpAny_attempt (wpAny_callSpecial?_slot (name:=Str.ofString "__next__") hT F.slot_enumerate_next
   (wpAny_call_entry F.slot_enumerate_next hT F.entry_enumerate_next ?_ (F.args_enumerate_next_1 _))))
  show wpAny _ _ (field (.ref e) 2>>=_) _ _ _
  refine wpAny_bind (wpAny_field st1 rfl (x:= .ref it) rfl ?_)
  refine wpAny_bind (z0Y (A:=X.A.in1) (I.ok.hd hc) st2 p (by simp;lia) fun h' x he' hx'=> ?_)
  obtain⟨o,ho,hcc⟩:=hx'
  refine wpAny_bind (wpAny_isInstance (T:= "StopIteration") (b:=true) ⟨o,ho,hcc⟩ isSubtype_stop ?_)
  exact wpAny_pure ⟨rfl,I.turnedL (t':=s.toks) (fun b o hb q=>he' b o (fun z=>hb (by simp[z])) q) hf⟩
 self:=fun A i s Q E st h=>by
  obtain⟨old,st1,_⟩:=st
  exact wpAny_pyIter_enum st1 h
section
variable{X:Cx}
noncomputable def zjF(K:W.Frag)(ta:TA):TI:=fun σ H R=>ta σ H fun vs H1=> ∃a,vs=[.ref a]/\(((∃xs,SqL K H1 a xs)/\R (Ite K a) H1)\/((∃xs,SqT K H1 a xs)/\R (zjE K a) H1))
theorem zbv{a:Expr}{ta:TA}{p pos tpos:Pos}{elts:List Expr}{x1:Nat}(hg:Gl X "enumerate")(hm:X.mg "enumerate" =none)(ha:PA X [a] ta)(hs:starEach [a] X.env=[(false,eval a X.env)]:=by rfl):PI X (.Tuple elts x1 tpos) (.Call (.Name "enumerate" p) [a] [] pos) (zjF X.K ta):=by
 intro pins s σ H R I h
 refine Call_ (z4p I hg hm PyProof.Rows.Boot.«enumerate» (PyProof.Rows.callWith_type1 (thn (ha pos pins s σ H _ I h) fun us s1 ⟨vs,H1,I1,r1,q1⟩=> ?_) hs rfl))
 obtain⟨l,e,q⟩:=q1
 subst e
 cases r1 with
 |cons r rr=>
  cases rr
  cases r
  rcases q with⟨⟨xs,hq⟩,q⟩|⟨⟨xs,hq⟩,q⟩
  ·obtain⟨its,rv,p,hz⟩:=I1.list hq
   refine call_enumerate_list p.isList fun h' he hit hsz hk=> ?_
   refine wpAny_pyIter_enum he ?_
   have I2:Inv X pins σ H1 {s1 with heap:=h'}:=I1.kept (t':=s1.toks) hk
   refine⟨s1.heap.objs.size+1,[s1.heap.objs.size+1,s1.heap.objs.size],_,_,H1,rfl,I2,z9D l _ _ (by show ¬(s1.heap.objs.size+1=s1.heap.objs.size);lia),⟨_,he,hit⟩,fun b hb=> ?_,q⟩
   have hb:b=s1.heap.objs.size+1\/b=s1.heap.objs.size:=by simpa using hb
   rcases hb with rfl|rfl
   ·exact I1.fpOk (L8 _) (I1.hok.fresh (L8 _))
   ·exact I1.fpOk (c9 _) (I1.hok.fresh (c9 _))
  ·obtain⟨its,rv,p,hz⟩:=I1.tuple hq
   have p:s1.heap.IsTuple l its.toArray:=p
   refine z1Q p fun h' he hit hsz hk=> ?_
   refine wpAny_pyIter_enum he ?_
   have I2:Inv X pins σ H1 {s1 with heap:=h'}:=I1.kept (t':=s1.toks) hk
   refine⟨s1.heap.objs.size+1,[s1.heap.objs.size+1,s1.heap.objs.size],_,_,H1,rfl,I2,z8s l _ _ (by show ¬(s1.heap.objs.size+1=s1.heap.objs.size);lia),⟨_,he,hit⟩,fun b hb=> ?_,q⟩
   have hb:b=s1.heap.objs.size+1\/b=s1.heap.objs.size:=by simpa using hb
   rcases hb with rfl|rfl
   ·exact I1.fpOk (L8 _) (I1.hok.fresh (L8 _))
   ·exact I1.fpOk (c9 _) (I1.hok.fresh (c9 _))
end
section
variable{X:Cx}{a b:Expr}{rest:List Expr}{pos:Pos}{ta tb:TE}
noncomputable def ziS(K:W.Frag)(xs:List V)(H:Hp)(Q:VK):Prop:= ∃p d,xs=[.ref p]/\Dp K H d (.ref p)/\d.hasDict=false/\d.showable=true/\d.depth<=60/\d.shown.length<=sizeLine/\Q (.str d.shown) H
theorem z9E(hg:X.A.guards=some [])(hu:X.A.units+64<cLine):CallR X (.type "str") (ziS X.K):=by
 intro pins s σ H xs us Q I r h
 obtain⟨p,d,rfl,hd,h1,h2,h3,h4,q⟩:=h
 obtain⟨u,rfl,r1⟩:=z1N r
 cases r1
 obtain⟨as,ra⟩:=hd.reads I _ _ _ rfl
 exact str_of_reads ra h2 (fun e=>by rw[h1] at e;cases e) hg (by lia) (fun _ _ h=>h) (fun h' u tk k=>⟨.str d.shown,H,I.kept k,⟨_,rfl⟩,q⟩) h4
theorem zgf:OpR X (compareOp .Eq) (fun x y H Q=> ∃i j,x= .str i/\y= .str j/\Q (.bl (i==j)) H):=by
 intro pins s σ H x y v u Q I rx ry h
 obtain⟨i,j,rfl,rfl,q⟩:=h
 exact zje pins s σ H _ _ v u Q I rx ry ⟨rfl,by rw[z4N];exact q⟩
theorem zdT:OpR X (binaryOp .Add) (fun x y H Q=> ∃k j,x= .bl k/\y= .int j/\Q (.int ((if k then 1 else 0)+j)) H):=by
 intro pins s σ H x y v u Q I rx ry h
 obtain⟨k,j,rfl,rfl,q⟩:=h
 cases rx
 obtain⟨t,rfl⟩:=ry
 exact PySem.IntBool.add_bool_int ⟨.int ((if k then 1 else 0)+j),H,I.tok _,⟨_,rfl⟩,q⟩
end
section
variable{X:Cx}{tg:Expr}
noncomputable def Rg3(i j c:Int):Prop:=c≠0/\c.natAbs<1073741824/\Builtin.Range.small i j c=true/\0<=Builtin.Range.rangeSize i j c
instance(i j c:Int):Decidable (Rg3 i j c):=by unfold Rg3;infer_instance
end
end L2
namespace Mi
open PySem L2
structure ItK where
 k:Nat
 at':Nat->List (Option D)->Option (Option D)
 len:List (Option D)->Nat
noncomputable def zgg(i:Nat):List (Option D)->Option (Option D)
 |some c::_=>(zaY c).map fun ds=>ds[i]?
 |_=>none
noncomputable def zbw(i:Nat):List (Option D)->Option (Option D)
 |some (.tup ds)::_=>some ds[i]?
 |_=>none
noncomputable def z3a:List (Option D)->Nat
 |some (.tup ds)::_=>ds.length
 |some (.lst _ ds)::_=>ds.length
 |some (.ro ds)::_=>ds.length
 |_=>0
noncomputable def kLst:ItK:=⟨1,zgg,z3a⟩
noncomputable def z4v:ItK:=⟨1,zbw,z3a⟩
noncomputable def z4X(lo:Int)(n:Nat):ItK:=⟨0,fun i _=>some (if i<n then some (.int (lo+i)) else none),fun _=>n⟩
noncomputable def Stt.popn(s:Stt)(k:Nat):Stt:={s with tm:=s.tm.drop k}
section
variable{X:Cx}{G:Gx}{F:Fy}{e a b c tg iter:Expr}{pos:Pos}
theorem MR.popn{F:Fx}{ρ:Nat->Addr}{H:Hp}{σv tvs tv:List (Option V)}{s:Stt}(M:MR G F ρ H σv (tvs++tv) s):MR G F ρ H σv tv (s.popn tvs.length):=by
 have sub: ∀l∈G1 (s.popn tvs.length),l∈G1 s:=fun l h=>by
  rcases i5.mp h with h|h
  ·exact i3 _ h
  ·refine b9 _ ?_
   have e:=Y0 (s.tm.take tvs.length) (s.tm.drop tvs.length)
   rw[C3] at e
   rw[e]
   exact b9 _ h
 exact⟨M.sl,(Sl.split tvs M.tm).2,M.inj,M.dom,fun l h=>M.lab l (sub l h),fun l h=>M.own l (sub l h),M.frm,M.kd,M.frb,M.bas⟩
noncomputable def zbx(G:Gx)(J:It)(K:ItK)(tvs:List (Option V)):Prop:= ∀(F:Fx) ρ H σv tvp tv s i,MR G F ρ H σv (tvp++(tvs++tv)) s->match K.at' i (s.tm.drop tvp.length) with
 |none=>True
 |some none=>J.stop i H
 |some (some d)=>J.go i H/\∀x H',J.yld i H x H'->MRL G F ρ H' σv (tvp++(tvs++tv)) s [d] [x]
noncomputable def tI(G:Gx)(F:Fy)(m:M ItK):TI:=fun σv H R=> ∃tv,F.tv0<:+tv/\∃ρ s,MR G F.toFx ρ H σv tv s/\match m s with
 | .ok K s'=> ∀ρ' H' tvs J,tvs.length=K.k->MR G F.toFx ρ' H' σv (tvs++tv) s'->zbx G J K tvs->R J H'
 | .ex d s'=>F.xw d s'
 | .no=>False
noncomputable def SI(X:Cx)(G:Gx)(F:Fy)(tg iter:Expr)(m:M ItK):Prop:=PI X tg iter (tI G F m)
theorem PI.imp0{w w':TI}(h:PI X tg iter w)(hi: ∀σ H R,w' σ H R->w σ H R):PI X tg iter w':=fun pins s σ H R I q=>h pins s σ H R I (hi σ H R q)
noncomputable def zm7(K:W.Frag)(tl:TE):TI:=fun σ H R=>tl σ H fun x H1=> ∃a,x= .ref a/\(((∃xs,SqL K H1 a xs)/\R (Itl K a) H1)\/((∃xs,SqT K H1 a xs)/\R (Itt K a) H1))
theorem zgh{l:Expr}{tl:TE}(hl:PE X l tl):PI X tg l (zm7 X.K tl):=by
 intro pins s σ H R I h
 refine thn (hl pins s σ H _ I h) fun v s1 ⟨x,H1,I1,r1,q1⟩=> ?_
 obtain⟨a,e,q|q⟩:=q1
 ·subst e
  cases r1
  obtain⟨⟨xs,hq⟩,q⟩:=q
  obtain⟨its,rv,p,hz⟩:=I1.list hq
  refine wpAny_pyIter_list p.isList ?_
  refine⟨s1.heap.objs.size,[s1.heap.objs.size],_,_,H1,rfl,I1.kept (t':=s1.toks) fun b o e=>Heap.get?_push_of_some _ e,z92 a _,⟨_,Heap.get?_push_size _ rfl,rfl,rfl⟩,fun b hb=> ?_,q⟩
  have e:b=s1.heap.objs.size:=by simpa using hb
  subst e
  exact I1.fpOk (c9 _) (I1.hok.fresh (c9 _))
 ·subst e
  cases r1
  obtain⟨⟨xs,hq⟩,q⟩:=q
  obtain⟨its,rv,p,hz⟩:=I1.tuple hq
  refine wpAny_pyIter_tuple (show s1.heap.IsTuple a its.toArray from p) ?_
  refine⟨s1.heap.objs.size,[s1.heap.objs.size],_,_,H1,rfl,I1.kept (t':=s1.toks) fun b o e=>Heap.get?_push_of_some _ e,z8h a _,⟨_,Heap.get?_push_size _ rfl,rfl,rfl⟩,fun b hb=> ?_,q⟩
  have e:b=s1.heap.objs.size:=by simpa using hb
  subst e
  exact I1.fpOk (c9 _) (I1.hok.fresh (c9 _))
noncomputable def Y8(m:M D):M ItK:=bd m fun d s=>match d with
 | .tup _=> .ok z4v (s.psh d)
 | .lst _ _=> .ok kLst (s.psh d)
 | .ro _=> .ok kLst (s.psh d)
 |_=> .no
theorem SqT.two{K:W.Frag}{H:Hp}{a:Addr}{xs ys:List V}(k:KD K H)(h:SqT K H a xs)(h':SqT K H a ys):xs=ys:=by
 rcases h with(h|⟨o,h⟩)|⟨o,its,n,h,_,hd,_,r⟩<;>rcases h' with(h'|⟨o',h'⟩)|⟨o',its',n',h',_,hd',_,r'⟩
 ·rw[h] at h';cases h';rfl
 ·rw[h] at h';cases h'
 ·rw[k _ _ h'] at h;cases h
 ·rw[h] at h';cases h'
 ·rw[h] at h';cases h';rfl
 ·rw[k _ _ h'] at h;cases h
 ·rw[k _ _ h] at h';cases h'
 ·rw[k _ _ h] at h';cases h'
 ·rw[h] at h';cases h';rw[hd] at hd';cases hd';exact r.inj r'
theorem SqL.two{K:W.Frag}{H:Hp}{a:Addr}{xs ys:List V}(k:KD K H)(h:SqL K H a xs)(h':SqL K H a ys):xs=ys:=by
 rcases h with(h|⟨o,h⟩)|⟨o,its,n,h,_,_,hd,_,r⟩<;>rcases h' with(h'|⟨o',h'⟩)|⟨o',its',n',h',_,_,hd',_,r'⟩
 ·rw[h] at h';cases h';rfl
 ·rw[h] at h';cases h'
 ·rw[k _ _ h'] at h;cases h
 ·rw[h] at h';cases h'
 ·rw[h] at h';cases h';rfl
 ·rw[k _ _ h'] at h;cases h
 ·rw[k _ _ h] at h';cases h'
 ·rw[k _ _ h] at h';cases h'
 ·rw[h] at h';cases h';rw[hd] at hd';cases hd';exact r.inj r'
theorem MR.head{F:Fx}{ρ:Nat->Addr}{H:Hp}{σv tv:List (Option V)}{s:Stt}{v:V}{c:D}{r:List (Option D)}(M:MR G F ρ H σv (some v::tv) s)(e:s.tm=some c::r):RD G ρ H c v/\LB F ρ s.n (y4 c):=by
 obtain⟨σ,tm,n⟩:=s
 have e:tm=some c::r:=e
 subst e
 exact⟨MR.top (s:=⟨σ,r,n⟩) M,MR.topl (s:=⟨σ,r,n⟩) M⟩
theorem z7C{a:Addr}:zbx G (Itl G.K a) kLst [some (.ref a)]:=by
 intro F ρ H σv tvp tv s i M
 dsimp only[kLst]
 cases e:s.tm.drop tvp.length with
 |nil=>trivial
 |cons o r=>
  cases o with
  |none=>trivial
  |some c=>
   erw[zgg]
   obtain⟨h,lb⟩:=MR.head (s:=s.popn tvp.length) M.popn e
   cases e1:zaY c with
   |none=>trivial
   |some ds=>
    erw[C1]
    obtain⟨a',xs,ea,sq,rr,sub⟩:=h.lstq e1
    cases ea
    cases e2:ds[i]? with
    |none=>
     refine⟨xs,sq, ?_⟩
     rw[<-rr.length]
     exact List.getElem?_eq_none_iff.mp e2
    |some d=>
     obtain⟨x,ex,rx⟩:=rr.get i d e2
     refine⟨⟨xs,x,sq,ex⟩, ?_⟩
     rintro x' H' ⟨rfl,hx⟩
     rw[hx xs sq] at ex
     cases ex
     exact⟨M,RDs.one rx,fun l hl=>lb l (sub l (labsL_mem (List.mem_of_getElem? e2) l (by simpa only[labsL,i9] using hl)))⟩
theorem zby{a:Addr}:zbx G (Itt G.K a) z4v [some (.ref a)]:=by
 intro F ρ H σv tvp tv s i M
 dsimp only[z4v]
 cases e:s.tm.drop tvp.length with
 |nil=>trivial
 |cons o r=>
  cases o with
  |none=>trivial
  |some c=>
   obtain⟨h,lb⟩:=MR.head (s:=s.popn tvp.length) M.popn e
   cases c with
   |tup ds=>
    erw[zbw]
    obtain⟨a',xs,ea,sq,rr⟩:=h.tupq
    cases ea
    cases e2:ds[i]? with
    |none=>
     refine⟨xs,sq, ?_⟩
     rw[<-rr.length]
     exact List.getElem?_eq_none_iff.mp e2
    |some d=>
     obtain⟨x,ex,rx⟩:=rr.get i d e2
     refine⟨⟨xs,x,sq,ex⟩, ?_⟩
     rintro x' H' ⟨rfl,hx⟩
     rw[hx xs sq] at ex
     cases ex
     exact⟨M,RDs.one rx,fun l hl=>lb l (by erw[y4];exact labsL_mem (List.mem_of_getElem? e2) l (by simpa only[labsL,i9] using hl))⟩
   |_=>trivial
theorem si_seq{m:M D}(hk:X.K=G.K)(h:SE X G F e m):SI X G F tg e (Y8 m):=by
 refine PI.imp0 (zgh h) fun σ H R ⟨tv,hs,ρ,s,M,W⟩=>⟨tv,hs,ρ,s,M, ?_⟩
 unfold Y8 bd at W
 cases e:m s with
 |ex d s1=>rw[e] at W;exact W
 |no=>rw[e] at W;exact W
 |ok t s1=>
  rw[e] at W
  intro ρ1 v H1 M1
  rw[hk]
  cases t with
  |tup ds=>
   obtain⟨a,xs,rfl,sq,r⟩:=M1.rd1.tupq
   exact⟨a,rfl, .inr ⟨⟨xs,sq⟩,W ρ1 H1 [some (.ref a)] _ rfl M1.push zby⟩⟩
  |lst n ds=>
   obtain⟨a,xs,rfl,sq,r,_⟩:=M1.rd1.lstq (ds:=ds) rfl
   exact⟨a,rfl, .inl ⟨⟨xs,sq⟩,W ρ1 H1 [some (.ref a)] _ rfl M1.push z7C⟩⟩
  |ro ds=>
   obtain⟨a,xs,rfl,sq,r,_⟩:=M1.rd1.lstq (ds:=ds) rfl
   exact⟨a,rfl, .inl ⟨⟨xs,sq⟩,W ρ1 H1 [some (.ref a)] _ rfl M1.push z7C⟩⟩
  |_=>exact False.elim W
noncomputable def zgi(ts:List D):M ItK:=match ts with
 |[.int j]=>if -(2^62)<=j/\j<2^62 then rt (z4X 0 j.toNat) else fl
 |_=>fl
noncomputable def z1f(ms:List (M D)):M ItK:=bd (mArgs ms) zgi
theorem zbz{lo:Int}{n:Nat}:zbx G (Itr lo n) (z4X lo n) []:=by
 intro F ρ H σv tvp tv s i M
 erw[z4X]
 by_cases h:i<n
 ·rw[if_pos h]
  refine⟨h, ?_⟩
  rintro x H' ⟨rfl,rfl⟩
  exact⟨M,RDs.one (by erw[RD]),fun l hl=>by simp[labsL,y4] at hl⟩
 ·rw[if_neg h]
  exact F4.mp h
theorem si_rng1{p:Pos}{ms:List (M D)}(hg:Gl X "range")(hm:X.mg "range" =none)(ha:SA X G F [a] (mArgs ms))(hs:starEach [a] X.env=[(false,eval a X.env)]:=by rfl):SI X G F tg (.Call (.Name "range" p) [a] [] pos) (z1f ms):=by
 refine PI.imp0 (z93 hg hm ha hs) fun σ H R ⟨tv,hs,ρ,s,M,W⟩=>⟨tv,hs,ρ,s,M, ?_⟩
 unfold z1f bd at W
 cases e:mArgs ms s with
 |ex d s1=>rw[e] at W;exact W
 |no=>rw[e] at W;exact W
 |ok ts s1=>
  rw[e] at W
  intro ρ1 vs H1 M1
  unfold zgi at W
  dsimp only at W
  split at W
  ·rename_i ts' j K s' hh
   split at hh
   ·split at hh
    ·rename_i j' hc
     cases hh
     obtain⟨v,rfl,h,_⟩:=M1.one
     erw[RD] at h
     subst h
     exact⟨j',rfl,hc.1,hc.2,W ρ1 H1 [] _ rfl M1.m zbz⟩
    ·cases hh
   ·cases hh
  ·rename_i hh
   split at hh
   ·split at hh<;>cases hh
   ·cases hh
  ·exact False.elim W
noncomputable def forGo(K:ItK)(g:Tg)(b:MS):Nat->Nat->MS
 |f,i=>fun s=>match K.at' i s.tm with
  |none=> .no
  |some none=> .nx (s.popn K.k)
  |some (some d)=>match f with
   |0=> .no
   |f+1=>match asg g d s.σ with
    |none=> .no
    |some σ'=>match b {s with σ:=σ'} with
     | .nx s'=>forGo K g b f (i+1) s'
     | .ct s'=>forGo K g b f (i+1) s'
     | .bk s'=> .nx (s'.popn K.k)
     | .rt t s'=> .rt t (s'.popn K.k)
     | .ex d s'=> .ex d s'
     | .no=> .no
noncomputable def z1V(mi:M ItK)(g:Tg)(b:MS):MS:=z1I mi fun K s=>forGo K g b (K.len s.tm) 0 s
theorem MRL.popn{ρ:Nat->Addr}{H:Hp}{σv tvs tv:List (Option V)}{s:Stt}{ts:List D}{vs:List V}(M:MRL G F.toFx ρ H σv (tvs++tv) s ts vs):MRL G F.toFx ρ H σv tv (s.popn tvs.length) ts vs:=⟨M.m.popn,M.rd,M.lb⟩
theorem zm8{tvs tv:List (Option V)}(h:F.tv0<:+tv):F.tv0<:+tvs++tv:=h.trans (List.suffix_append _ _)
theorem z9F{m:M ItK}{f:ItK->MS}{tv:List (Option V)}{D:z5R}{σ:St}{H:Hp}{R:It->Hp->Prop}(h:tSv G F (z1I m f) tv D σ H)
 (k: ∀K ρ' H' tvs J s',tvs.length=K.k->MR G F.toFx ρ' H' σ (tvs++tv) s'->zbx G J K tvs->wS G F tv (f K s') D->R J H'):tI G F m σ H R:=by
 obtain⟨hs,ρ,s,M,W⟩:=h
 refine⟨tv,hs,ρ,s,M, ?_⟩
 unfold z1I at W
 cases e:m s with
 |ok K s1=>rw[e] at W;exact fun ρ' H' tvs J hl M' hok=>k K ρ' H' tvs J s1 hl M' hok W
 |ex d s1=>rw[e] at W;exact W
 |no=>rw[e] at W;exact W
theorem ss_for{body:List Stmt}{mi:M ItK}{g:Tg}{mb:MS}(hp:PassesOwn (model X.prog X.w) X.A X.env X.xe)(hc:X.calm=true)(hi:SI X G F tg iter mi)(hg:SG X G F tg g)(hb:SSs X G F body mb)(hst: ∀x,foldedSetIterable iter X.env x=pure x:=by intro _;rfl):SS X G F (.For tg iter body [] pos) (z1V mi g mb):=by
 refine PS.imp0 (zfs hp hc hi hg hb hst) fun D σ H ⟨tv,h⟩=>z9F h fun K ρ' H' tvs J s' hl M' hok W=> ?_
 have hs:=h.1
 refine⟨fun i m σ H=> ∃ρ s,MR G F.toFx ρ H σ (tvs++tv) s/\wS G F tv (forGo K g mb m i s) D,⟨_,ρ',s',M',W⟩, ?_⟩
 rintro i m σ H ⟨ρ,s,M,W⟩
 have ok:=hok F.toFx ρ H σ [] tv s i M
 erw[n9,D4,n5] at ok
 unfold forGo at W
 cases e:K.at' i s.tm with
 |none=>erw[e] at W;exact False.elim W
 |some o=>
  cases o with
  |none=>
   erw[e] at W ok
   refine .inl ⟨ok,W ρ σ H ?_⟩
   rw[<-hl]
   exact M.popn
  |some d=>
   erw[e] at W ok
   cases m with
   |zero=>exact False.elim W
   |succ f=>
    dsimp only at W
    cases e2:asg g d s.σ with
    |none=>erw[e2] at W;exact False.elim W
    |some σ'=>
     erw[e2] at W
     refine .inr ⟨ok.1,fun σ H=> ∃ρ s,MR G F.toFx ρ H σ (tvs++tv) s/\wS G F tv (forGo K g mb f (i+1) s) D,fun σ' H' q=>⟨f,D0 _,q⟩,fun x H2 y=> ?_⟩
     refine⟨tvs++tv,ρ,s,d,ok.2 x H2 y,σ',e2,fun σv' M2=>⟨tvs++tv,zm8 hs,ρ,_,M2, ?_⟩⟩
     cases e3:mb {s with σ:=σ'} with
     |nx s2=>erw[e3] at W;exact fun ρ3 σ3 H3 M3=>⟨ρ3,s2,M3,W⟩
     |ct s2=>erw[e3] at W;exact fun ρ3 σ3 H3 M3=>⟨ρ3,s2,M3,W⟩
     |bk s2=>erw[e3] at W;exact fun ρ3 σ3 H3 M3=>W ρ3 σ3 H3 (by rw[<-hl];exact M3.popn)
     |rt t s2=>erw[e3] at W;exact fun ρ3 σ3 v H3 M3=>W ρ3 σ3 v H3 (by rw[<-hl];exact M3.popn)
     |ex d s2=>erw[e3] at W;exact W
     |no=>erw[e3] at W;exact W
end
noncomputable def Z5:List (Option D)->Option (List D)
 |[]=>some []
 |some d::r=>(Z5 r).map (d:: ·)
 |none::_=>none
noncomputable def V8(K:ItK)(g:Tg)(mt:M Bool)(me:M D)(ol:Nat):Nat->Nat->Nat->M D
 |f,i,k=>fun s=>match K.at' i (s.tm.drop (k+ol)) with
  |none=> .no
  |some none=>match Z5 (s.tm.take k).reverse with
   |some ds=> .ok (.lst s.n ds) {σ:=(s.tm.drop k).take ol,tm:=s.tm.drop (k+ol+K.k),n:=s.n+1}
   |none=> .no
  |some (some d)=>match f with
   |0=> .no
   |f+1=>match asg g d s.σ with
    |none=> .no
    |some σ'=>match mt {s with σ:=σ'} with
     | .ok false s1=>V8 K g mt me ol f (i+1) k s1
     | .ok true s1=>if k<sizeLine then match me s1 with
      | .ok y s2=>V8 K g mt me ol f (i+1) (k+1) (s2.psh y)
      |_=> .no
      else .no
     |_=> .no
noncomputable def z7D(own:Nat)(ix:List Nat)(s:Stt):Stt:={σ:=l7 own none++ix.map (fun i=>(s.σ[i]?).getD none),tm:=s.σ++s.tm,n:=s.n}
noncomputable def J0(mi:M ItK)(g:Tg)(mt:M Bool)(me:M D)(own:Nat)(ix:List Nat):M D:=bd mi fun K s=>V8 K g mt me s.σ.length (K.len s.tm) 0 0 (z7D own ix s)
section
variable{X:Cx}{G:Gx}{F:Fy}{e a b c tg iter elt:Expr}{pos:Pos}
noncomputable def Fy.prot(F:Fy)(D:Addr)(ys:List V)(h:F.H0 D=none):Fy where
 A0:=F.A0
 H0:=upd F.H0 D (.lst ys)
 Z:=fun a=>a=D\/F.Z a
 zA:=fun a z=>by
  rcases z with rfl|z
  ·exact⟨⟨_,Y2⟩,fun q=>by obtain⟨o,e⟩:=F.aH _ q;rw[h] at e;cases e⟩
  ·obtain⟨⟨o,e⟩,n⟩:=F.zA a z
   exact⟨⟨o,by rw[Z6 (J5 e h)];exact e⟩,n⟩
 aH:=fun a q=>by
  obtain⟨o,e⟩:=F.aH a q
  exact⟨o,by rw[Z6 (J5 e h)];exact e⟩
 n0:=F.n0
 ρ0:=F.ρ0
 tv0:=[]
 xw:=fun _ _=>False
theorem Sl.none_map{ρ:Nat->Addr}{H:Hp}: ∀k:Nat,Sl G ρ H (l7 k none) (l7 k none)
 |0=>by simp[Sl]
 |k+1=>by erw[B6,Sl];exact⟨_,_,rfl,Sl.none_map k⟩
theorem Sl.pick{ρ:Nat->Addr}{H:Hp}{σ:List (Option D)}{σv:List (Option V)}(h:Sl G ρ H σ σv): ∀ix:List Nat,Sl G ρ H (ix.map fun i=>(σ[i]?).getD none) (ix.map fun i=>(σv[i]?).getD none)
 |[]=>by simp[Sl]
 |i::ix=>by
  erw[l6]
  cases e:σ[i]? with
  |none=>erw[F8,Sl];exact⟨_,_,rfl,Sl.pick h ix⟩
  |some o=>
   cases o with
   |none=>erw[C5,Sl];exact⟨_,_,rfl,Sl.pick h ix⟩
   |some d=>
    obtain⟨v,e1,r⟩:=h.get i d e
    erw[C5,Sl,e1]
    exact⟨_,_,rfl,r,Sl.pick h ix⟩
theorem z2t{σ:List (Option D)}{l:Nat}: ∀{ix:List Nat},l∈Z4 (ix.map fun i=>(σ[i]?).getD none)->l∈Z4 σ
 |[],h=>by simp[Z4] at h
 |i::ix,h=>by
  erw[l6] at h
  cases e:σ[i]? with
  |none=>rw[e] at h;erw[F8,Z4] at h;exact z2t h
  |some o=>
   rw[e] at h
   cases o with
   |none=>erw[C5,Z4] at h;exact z2t h
   |some d=>
    erw[C5,Z4] at h
    rcases i5.mp h with h|h
    ·exact z1h e l h
    ·exact z2t h
theorem z2u{l:Nat}: ∀k:Nat,¬l∈Z4 (l7 k (none:Option D))
 |0,h=>by simp[Z4] at h
 |k+1,h=>by erw[B6,Z4] at h;exact z2u k h
theorem MR.enter{ρ:Nat->Addr}{H:Hp}{σv tv:List (Option V)}{s:Stt}{D:Addr}(M:MR G F.toFx ρ H σv tv s)(hD:H D=none)(k:KD G.K (upd H D (.lst [])))(own:Nat)(ix:List Nat):
 MR G (F.prot D [] (M.fresh0 hD)).toFx ρ (upd H D (.lst [])) (z1T own ix σv) (σv++tv) (z7D own ix s):=by
 have sm:=z39.new (.lst []) hD
 have M1:=M.same sm k
 have nD: ∀l,l<s.n->ρ l≠D:=fun l hl e=>by
  obtain⟨o,q⟩:=M.dom l hl
  rw[e,hD] at q;cases q
 have sub: ∀l∈G1 (z7D own ix s),l∈G1 s:=fun l h=>by
  rcases i5.mp h with h|h
  ·have h:l∈Z4 (l7 own none++ix.map (fun i=>(s.σ[i]?).getD none)):=h
   rw[Y0] at h
   rcases i5.mp h with h|h
   ·exact absurd h (z2u own)
   ·exact i3 _ (z2t h)
  ·have h:l∈Z4 (s.σ++s.tm):=h
   rw[Y0] at h
   exact h
 refine⟨?_,M1.sl.append M1.tm,M1.inj,M1.dom,fun l h=>M.lab l (sub l h),fun l h=> ?_,fun a o e=> ?_,k,fun l hl z=> ?_,M.bas⟩
 ·exact(Sl.none_map own).append (M1.sl.pick ix)
 ·rcases M.own l (sub l h) with q|q
  ·exact .inl q
  ·refine .inr ?_
   show upd F.H0 D (.lst []) (ρ l)=none
   rw[Z6 (nD l (M.lab l (sub l h)))];exact q
 ·have e:upd F.H0 D (.lst []) a=some o:=e
  by_cases ha:a=D
  ·subst ha
   rw[Y2] at e;cases e
   exact⟨⟨_,Y2⟩,fun _=>Y2⟩
  ·rw[Z6 ha] at e
   exact M1.frm a o e
 ·rcases z with z|z
  ·exact nD l hl z
  ·exact M.frb l hl z
theorem MR.turnD{ρ:Nat->Addr}{H:Hp}{σv tv:List (Option V)}{s:Stt}{D:Addr}{ys ys':List V}{hf:F.H0 D=none}(M:MR G (F.prot D ys hf).toFx ρ H σv tv s):
 H D=some (.lst ys)/\MR G (F.prot D ys' hf).toFx ρ (upd H D (.lst ys')) σv tv s:=by
 have hD:H D=some (.lst ys):=(M.frm D (.lst ys) Y2).2 ((F.prot D ys hf).zA D (.inl rfl)).2
 have nD: ∀l,l<s.n->ρ l≠D:=fun l hl e=>M.frb l hl (.inl e)
 have st:X5 H (upd H D (.lst ys')):=⟨fun b xs e=>by rw[Z6 (zb6 e hD (by intro z;cases z))];exact e,fun b o u e=>by rw[Z6 (zb6 e hD (by intro z;cases z))];exact e⟩
 refine⟨hD,⟨Sl.stay st M.sl fun l hl=>⟨rfl,fun o e=> ?_⟩,Sl.stay st M.tm fun l hl=>⟨rfl,fun o e=> ?_⟩,M.inj,fun l hl=> ?_,M.lab,fun l h=> ?_,fun a o e=> ?_,fun a o e=> ?_,fun l hl=>M.frb l hl,M.bas⟩⟩
 ·rw[Z6 (nD l (M.lab l (i3 _ hl)))];exact e
 ·rw[Z6 (nD l (M.lab l (b9 _ hl)))];exact e
 ·rw[Z6 (nD l hl)];exact M.dom l hl
 ·rcases M.own l h with q|q
  ·exact .inl q
  ·refine .inr ?_
   have q:upd F.H0 D (.lst ys) (ρ l)=none:=q
   show upd F.H0 D (.lst ys') (ρ l)=none
   rw[Z6 (nD l (M.lab l h))] at q⊢;exact q
 ·have e:upd F.H0 D (.lst ys') a=some o:=e
  by_cases ha:a=D
  ·subst ha
   rw[Y2] at e;cases e
   exact⟨⟨_,Y2⟩,fun _=>Y2⟩
  ·rw[Z6 ha] at e⊢
   exact M.frm a o (by show upd F.H0 D (.lst ys) a=some o;rw[Z6 ha];exact e)
 ·by_cases ha:a=D
  ·subst ha
   rw[M.kd a o e] at hD;cases hD
  ·rw[Z6 ha];exact M.kd a o e
theorem Sl.all{ρ:Nat->Addr}{H:Hp}: ∀{tm:List (Option D)} {ys:List V} {ds:List D},Sl G ρ H tm (ys.map some)->Z5 tm=some ds->RDs G ρ H ds ys/\labsL ds=Z4 tm
 |[],ys,ds,h,e=>by
  erw[Sl] at h
  erw[Z5,Option.some.injEq] at e
  subst e
  have:ys=[]:=by simpa using h
  subst this
  simp[RDs,labsL,Z4]
 |none::r,ys,ds,h,e=>by erw[Z5] at e;cases e
 |some d::r,ys,ds,h,e=>by
  erw[Sl] at h
  obtain⟨v,q,e1,h1,h2⟩:=h
  cases ys with
  |nil=>cases e1
  |cons y ys=>
   erw[l6,List.cons.injEq,Option.some.injEq] at e1
   obtain⟨rfl,rfl⟩:=e1
   erw[Z5] at e
   cases e2:Z5 r with
   |none=>rw[e2] at e;cases e
   |some es=>
    rw[e2] at e
    cases e
    obtain⟨r1,r2⟩:=Sl.all h2 e2
    refine⟨?_,by erw[labsL,Z4,r2]⟩
    erw[RDs]
    exact⟨_,_,rfl,h1,r1⟩
theorem Sl.reverse{ρ:Nat->Addr}{H:Hp}: ∀{tm:List (Option D)} {ys:List (Option V)},Sl G ρ H tm ys->Sl G ρ H tm.reverse ys.reverse
 |[],ys,h=>by erw[Sl] at h;subst h;simp[Sl]
 |none::r,ys,h=>by
  erw[Sl] at h
  obtain⟨o,q,rfl,h⟩:=h
  rw[B4,B4]
  exact(Sl.reverse h).append (by erw[Sl];exact⟨_,_,rfl,rfl⟩)
 |some d::r,ys,h=>by
  erw[Sl] at h
  obtain⟨o,q,rfl,h1,h⟩:=h
  rw[B4,B4]
  exact(Sl.reverse h).append (by erw[Sl];exact⟨_,_,rfl,h1,rfl⟩)
theorem z3J{l:Nat}: ∀{tm:List (Option D)},l∈Z4 tm.reverse↔l∈Z4 tm
 |[]=>by simp
 |none::r=>by
  rw[B4,Y0]
  erw[Z4,i9]
  exact z3J
 |some d::r=>by
  rw[B4,Y0]
  erw[Z4,i9,i5]
  rw[z3J]
  exact Or.comm
theorem MR.leave{ρ:Nat->Addr}{H:Hp}{σi σv tvs tv:List (Option V)}{s:Stt}{A1:Addr}{ys:List V}{hf:F.H0 A1=none}{ds:List D}{kk:Nat}
 (M:MR G (F.prot A1 ys hf).toFx ρ H σi ((ys.reverse.map some)++(σv++(tvs++tv))) s) (hk:tvs.length=kk) (ol:Nat) (ho:σv.length=ol) (e:Z5 (s.tm.take ys.length).reverse=some ds):
 MRL G F.toFx (ext ρ s.n A1) H σv tv {σ:=(s.tm.drop ys.length).take ol,tm:=s.tm.drop (ys.length+ol+kk),n:=s.n+1} [.lst s.n ds] [.ref A1]:=by
 subst hk ho
 have hD:=(MR.turnD (ys':=ys) M).1
 have nD: ∀l,l<s.n->ρ l≠A1:=fun l hl e=>M.frb l hl (.inl e)
 have t0:=Sl.split (ys.reverse.map some) M.tm
 erw[m7,E9] at t0
 obtain⟨t1,t2⟩:=t0
 obtain⟨t3,t4⟩:=Sl.split σv t2
 obtain⟨_,t6⟩:=Sl.split tvs t4
 rw[E6] at t4
 rw[E6,E6] at t6
 have t6':Sl G ρ H (s.tm.drop (ys.length+σv.length+tvs.length)) tv:=by rw[O3];exact t6
 have t1':=t1.reverse
 rw[<-List.map_reverse,List.reverse_reverse] at t1'
 obtain⟨r1,r2⟩:=Sl.all t1' e
 have lt: ∀l,l∈Z4 (s.tm.take ys.length)->l∈G1 s:=fun l h=>b9 _ (by
  have e:=Y0 (s.tm.take ys.length) (s.tm.drop ys.length)
  rw[C3] at e
  rw[e];exact i3 _ h)
 have ld: ∀l k,l∈Z4 (s.tm.drop k)->l∈G1 s:=fun l k h=>b9 _ (by
  have e:=Y0 (s.tm.take k) (s.tm.drop k)
  rw[C3] at e
  rw[e];exact b9 _ h)
 have ldt: ∀l k j,l∈Z4 ((s.tm.drop k).take j)->l∈G1 s:=fun l k j h=>ld l k (by
  have e:=Y0 ((s.tm.drop k).take j) ((s.tm.drop k).drop j)
  rw[C3] at e
  rw[e];exact i3 _ h)
 have own: ∀l∈G1 s,F.A0 (ρ l)\/F.H0 (ρ l)=none:=fun l h=>by
  rcases M.own l h with q|q
  ·exact .inl q
  ·refine .inr ?_
   have q:upd F.H0 A1 (.lst ys) (ρ l)=none:=q
   rw[Z6 (nD l (M.lab l h))] at q;exact q
 have st:=X5.refl H
 have stay: ∀l,l<s.n->ext ρ s.n A1 l=ρ l/\∀o,H (ρ l)=some o->H (ρ l)=some o:=fun l hl=>⟨W3 hl,fun o e=>e⟩
 have all: ∀l∈G1 {σ:=(s.tm.drop ys.length).take σv.length,tm:=s.tm.drop (ys.length+σv.length+tvs.length),n:=s.n+1},l∈G1 s:=fun l h=>by
  rcases i5.mp h with h|h
  ·exact ldt l _ _ h
  ·exact ld l _ h
 have dsl: ∀l∈labsL ds,l∈G1 s:=fun l h=>lt l (by rw[r2] at h;exact z3J.mp h)
 refine⟨⟨Sl.stay st t3 fun l hl=>stay l (M.lab l (ldt l _ _ hl)),Sl.stay st t6' fun l hl=>stay l (M.lab l (ld l _ hl)),fun i j hi hj eq=> ?_,fun l hl=> ?_,fun l h=>E8 (M.lab l (all l h)),fun l h=> ?_,fun a o e=> ?_,M.kd,fun l hl z=> ?_,⟨S1 M.bas.1,fun l hl=>by rw[W3 (r8 hl M.bas.1)];exact M.bas.2 l hl⟩⟩, ?_,fun l h=> ?_⟩
 ·have hi:i<s.n+1:=hi
  have hj:j<s.n+1:=hj
  by_cases h1:i=s.n
  ·by_cases h2:j=s.n
   ·lia
   ·rw[h1,X2,W3 (by lia)] at eq
    exact absurd eq.symm (nD j (by lia))
  ·by_cases h2:j=s.n
   ·rw[h2,X2,W3 (by lia)] at eq
    exact absurd eq (nD i (by lia))
   ·rw[W3 (by lia),W3 (by lia)] at eq
    exact M.inj i j (by lia) (by lia) eq
 ·have hl:l<s.n+1:=hl
  by_cases h1:l=s.n
  ·subst h1;rw[X2];exact⟨_,hD⟩
  ·rw[W3 (by lia)];exact M.dom l (by lia)
 ·rw[W3 (M.lab l (all l h))];exact own l (all l h)
 ·exact M.frm a o (by show upd F.H0 A1 (.lst ys) a=some o;rw[Z6 (J5 e hf)];exact e)
 ·have hl:l<s.n+1:=hl
  by_cases h1:l=s.n
  ·subst h1;rw[X2] at z
   obtain⟨⟨o,e⟩,_⟩:=F.zA A1 z
   rw[hf] at e;cases e
  ·rw[W3 (by lia)] at z
   exact M.frb l (by lia) (.inr z)
 ·refine RDs.one ?_
  erw[RD]
  rw[X2]
  exact⟨rfl,ys,hD,RDs.stay st ds ys r1 fun l hl=>stay l (M.lab l (dsl l hl))⟩
 ·erw[labsL,y4,i9] at h
  rcases i8.mp h with q|q
  ·rw[q,X2];exact⟨D0 _, .inr hf⟩
  ·have q2:=dsl l q
   exact⟨E8 (M.lab l q2),by rw[W3 (M.lab l q2)];exact own l q2⟩
noncomputable def tMx(G:Gx)(m:M D):TE:=fun σ H Q=> ∃F:Fy,tM G F m σ H Q
noncomputable def tBx(G:Gx)(m:M Bool):TT:=fun σ H Q=> ∃F:Fy,tMB G F m σ H Q
noncomputable def tGx(G:Gx)(g:Tg):TG:=fun v σ H Q=> ∃F:Fy,tGn G F g v σ H Q
noncomputable def STs(X:Cx)(G:Gx)(F:Fy)(ifs:List Expr)(m:M Bool):Prop:=PTs X ifs (tMB G F m)
theorem sts_nil:STs X G F [] (rt true):=fun pins s σ H Q I ⟨tv,hs,ρ,ms,M,W⟩=>zdR pins s σ H Q I (W ρ H M)
theorem sts_one{m:M Bool}(h:SB X G F c m):STs X G F [c] m:=zdS h
theorem z7E{K:W.Frag}{k:Nat}{ix:List Nat}{mi:M ItK}{g:Tg}{mt:M Bool}{me:M D}{σ:St}{H:Hp}{Q:VK}(hk:K=G.K)(h:tM G F (J0 mi g mt me k ix) σ H Q):z9A K (tI G F mi) (tGx G g) (tBx G mt) (tMx G me) k ix σ H Q:=by
 obtain⟨tv,hsf,ρ,s,M,W⟩:=h
 refine⟨tv,hsf,ρ,s,M, ?_⟩
 unfold J0 bd at W
 cases em:mi s with
 |ex d s1=>rw[em] at W;exact W
 |no=>rw[em] at W;exact W
 |ok K s1=>
  rw[em] at W
  intro ρ1 H1 tvs J hl M1 hok A1 hA1 kd
  subst hk
  have kd:KD G.K (upd H1 A1 (.lst [])):=kd
  have hf:=M1.fresh0 hA1
  refine⟨fun i m ys σ' H'=> ∃ρ s,MR G (F.prot A1 ys hf).toFx ρ H' σ' ((ys.reverse.map some)++(σ++(tvs++tv))) s/\wM G F σ tv (V8 K g mt me s1.σ.length m i ys.length s) Q,⟨_,ρ1,_,M1.enter hA1 kd k ix,W⟩, ?_⟩
  rintro i m ys σ' H' ⟨ρ2,s2,M2,W2⟩
  have hD:=(MR.turnD (ys':=ys) M2).1
  refine⟨hD, ?_⟩
  have ol:s1.σ.length=σ.length:=M1.sl.length
  have ok:=hok (F.prot A1 ys hf).toFx ρ2 H' σ' ((ys.reverse.map some)++σ) tv s2 i (by rw[t5];exact M2)
  erw[l8,m7,E9,<-ol,t5] at ok
  unfold V8 at W2
  cases e:K.at' i (s2.tm.drop (ys.length+s1.σ.length)) with
  |none=>erw[e] at W2;exact False.elim W2
  |some o=>
   rw[e] at ok
   cases o with
   |none=>
    erw[e] at W2 ok
    refine .inl ⟨ok, ?_⟩
    cases ea:Z5 (s2.tm.take ys.length).reverse with
    |none=>erw[ea] at W2;exact False.elim W2
    |some ds=>
     erw[ea] at W2
     exact W2 _ _ _ (MR.leave M2 hl _ ol.symm ea)
   |some d=>
    erw[e] at W2 ok
    cases m with
    |zero=>exact False.elim W2
    |succ f=>
     dsimp only at W2
     cases e2:asg g d s2.σ with
     |none=>erw[e2] at W2;exact False.elim W2
     |some σ3=>
      erw[e2] at W2
      refine .inr ⟨ok.1,fun x H2 y=> ?_⟩
      have hx:=ok.2 x H2 y
      refine⟨F.prot A1 ys hf,_,ρ2,s2,d,hx,σ3,e2,fun σv' M3=>⟨F.prot A1 ys hf,_,T5,ρ2,_,M3, ?_⟩⟩
      cases e3:mt {s2 with σ:=σ3} with
      |ex d s4=>erw[e3] at W2;exact False.elim W2
      |no=>erw[e3] at W2;exact False.elim W2
      |ok b s4=>
       intro ρ4 H4 M4
       cases b with
       |false=>
        erw[e3] at W2
        rw[if_neg r6]
        exact⟨f,D0 _,ρ4,s4,M4,W2⟩
       |true=>
        erw[e3] at W2
        rw[if_pos rfl]
        by_cases hz:ys.length<sizeLine
        ·rw[if_pos hz] at W2
         refine⟨F.prot A1 ys hf,_,T5,ρ4,s4,M4, ?_⟩
         cases e5:me s4 with
         |ex d s5=>erw[e5] at W2;exact False.elim W2
         |no=>erw[e5] at W2;exact False.elim W2
         |ok y s5=>
          erw[e5] at W2
          intro ρ5 v H5 M5
          obtain⟨hD5,M6⟩:=MR.turnD (ys':=ys++[v]) M5.push
          refine⟨hD5,hz,f,D0 _,ρ5,s5.psh y, ?_, ?_⟩
          ·rw[E5,B4,D1,n5,A9]
           exact M6
          ·rw[l8];exact W2
        ·rw[if_neg hz] at W2;exact False.elim W2
theorem se_comp{scope:Scope}{own frees:List Str}{ix:List Nat}{ifs:List Expr}{mi:M ItK}{g:Tg}{mt:M Bool}{me:M D}(hk:X.K=G.K)(hc:X.calm=true)(S:V7 X.env.scope scope own frees X.N ix)(hi:SI X G F tg iter mi)
 (hg: ∀(F:Fy) cl C s₀ H₀ fp pn,SG (j5 X scope own frees cl C s₀ H₀ fp pn) G F tg g) (ht: ∀(F:Fy) cl C s₀ H₀ fp pn,STs (j5 X scope own frees cl C s₀ H₀ fp pn) G F ifs mt) (he: ∀(F:Fy) cl C s₀ H₀ fp pn,SE (j5 X scope own frees cl C s₀ H₀ fp pn) G F elt me)
 (hs: ∀x,foldedSetIterable iter X.env x=pure x:=by intro _;rfl):SE X G F (.ListComp elt [⟨tg,iter,ifs,0⟩] scope pos) (J0 mi g mt me own.length ix):=
 PE.imp0 (z9B (g:=tGx G g) (tt:=tBx G mt) (te:=tMx G me) hc S hi (fun cl C s₀ H₀ fp pn pins s σ H v u Q I r ⟨F',q⟩=>hg F' cl C s₀ H₀ fp pn pins s σ H v u Q I r q)
  (fun cl C s₀ H₀ fp pn pins s σ H Q I ⟨F',q⟩=>ht F' cl C s₀ H₀ fp pn pins s σ H Q I q) (fun cl C s₀ H₀ fp pn pins s σ H Q I ⟨F',q⟩=>he F' cl C s₀ H₀ fp pn pins s σ H Q I q) hs) fun σ H Q h=>z7E hk h
theorem ss_comp{y:Str}{py spos:Pos}{i:Nat}{scope:Scope}{own frees:List Str}{ix:List Nat}{ifs:List Expr}{mi:M ItK}{g:Tg}{mt:M Bool}{me:M D}(hk:X.K=G.K)(hN:X.N.Nodup)(hy:X.N[i]? =some y)(hx:Loc X.env.scope y)(hfn:X.fn y=true\/X.env.scope.names.lookup y=some .local)(hsw:swapsWith (.ListComp elt [⟨tg,iter,ifs,0⟩] scope pos) (some (.Name y py)) spos.line X.env=pure true)
 (hc:X.calm=true) (S:V7 X.env.scope scope own frees X.N ix) (hi:SI X G F tg iter mi)
 (hg: ∀(F:Fy) cl C s₀ H₀ fp pn,SG (j5 X scope own frees cl C s₀ H₀ fp pn) G F tg g) (ht: ∀(F:Fy) cl C s₀ H₀ fp pn,STs (j5 X scope own frees cl C s₀ H₀ fp pn) G F ifs mt) (he: ∀(F:Fy) cl C s₀ H₀ fp pn,SE (j5 X scope own frees cl C s₀ H₀ fp pn) G F elt me)
 (hs: ∀x,foldedSetIterable iter X.env x=pure x:=by intro _;rfl):SS X G F (.Assign [.Name y py] (.ListComp elt [⟨tg,iter,ifs,0⟩] scope pos) spos) (Y4 (.nm i) (J0 mi g mt me own.length ix)):=by
 refine PS.imp0 (z9C (i:=i) (g:=tGx G g) (tt:=tBx G mt) (te:=tMx G me) hN hy hx hfn hsw hc S hi (fun cl C s₀ H₀ fp pn pins s σ H v u Q I r ⟨F',q⟩=>hg F' cl C s₀ H₀ fp pn pins s σ H v u Q I r q)
  (fun cl C s₀ H₀ fp pn pins s σ H Q I ⟨F',q⟩=>ht F' cl C s₀ H₀ fp pn pins s σ H Q I q) (fun cl C s₀ H₀ fp pn pins s σ H Q I ⟨F',q⟩=>he F' cl C s₀ H₀ fp pn pins s σ H Q I q) hs) fun Dd σ H ⟨tv,h⟩=> ?_
 refine z7E hk ⟨tv,(z0u h).mono fun v H1 ⟨ρ1,s1,t,M1,W⟩=> ?_⟩
 erw[asg] at W
 exact W ρ1 _ H1 (M1.setS i).m
end
mutual
noncomputable def W6(l:Nat):D->Option D
 | .tup ds=>findL l ds
 | .ro ds=>findL l ds
 | .fdc _ vs=>findL l vs
 | .lst k ds=>if k=l then some (.lst k ds) else findL l ds
 | .dct k ks vs=>if k=l then some (.dct k ks vs) else findL l vs
 | .obj k c ns vs=>if k=l then some (.obj k c ns vs) else findL l vs
 | .non=>none| .bool _=>none| .int _=>none| .str _=>none| .exc _=>none| .fn _=>none
noncomputable def findL(l:Nat):List D->Option D
 |[]=>none
 |d::ds=>match W6 l d with
  |some x=>some x
  |none=>findL l ds
end
section
variable{G:Gx}{ρ:Nat->Addr}{H:Hp}
mutual
theorem zbA(l:Nat): ∀(t:D) (v:V) (d:D),RD G ρ H t v->W6 l t=some d->RD G ρ H d (.ref (ρ l))/\∀k∈y4 d,k∈y4 t
 | .non,v,d,h,e=>by erw[W6] at e;cases e
 | .bool b,v,d,h,e=>by erw[W6] at e;cases e
 | .int b,v,d,h,e=>by erw[W6] at e;cases e
 | .str b,v,d,h,e=>by erw[W6] at e;cases e
 | .exc b,v,d,h,e=>by erw[W6] at e;cases e
 | .fn b,v,d,h,e=>by erw[W6] at e;cases e
 | .tup ds,v,d,h,e=>by
  erw[W6,RD,y4] at h e⊢
  obtain⟨a,xs,_,_,r⟩:=h
  exact findL_rd l ds xs d r e
 | .ro ds,v,d,h,e=>by
  erw[W6,RD,y4] at h e⊢
  obtain⟨a,xs,_,_,r⟩:=h
  exact findL_rd l ds xs d r e
 | .fdc ks vs,v,d,h,e=>by
  erw[W6,RD,y4] at h e⊢
  obtain⟨a,o,kvs,_,_,_,r⟩:=h
  exact findL_rd l vs _ d r e
 | .lst k ds,v,d,h,e=>by
  erw[W6] at e
  by_cases hk:k=l
  ·rw[if_pos hk] at e;cases e
   subst hk
   have h':=h
   erw[RD] at h'
   obtain⟨rfl,_⟩:=h'
   exact⟨h,fun _ q=>q⟩
  ·rw[if_neg hk] at e
   erw[RD] at h
   obtain⟨_,xs,_,r⟩:=h
   obtain⟨q1,q2⟩:=findL_rd l ds xs d r e
   exact⟨q1,fun j hj=>by erw[y4];exact i4 _ (q2 j hj)⟩
 | .dct k ks vs,v,d,h,e=>by
  erw[W6] at e
  by_cases hk:k=l
  ·rw[if_pos hk] at e;cases e
   subst hk
   have h':=h
   erw[RD] at h'
   obtain⟨rfl,_⟩:=h'
   exact⟨h,fun _ q=>q⟩
  ·rw[if_neg hk] at e
   erw[RD] at h
   obtain⟨_,⟨kvs,_,_,r⟩|⟨kvs,_,_,r⟩⟩:=h
   ·obtain⟨q1,q2⟩:=findL_rd l vs _ d r e
    exact⟨q1,fun j hj=>by erw[y4];exact i4 _ (b9 _ (q2 j hj))⟩
   ·obtain⟨q1,q2⟩:=findL_rd l vs _ d r e
    exact⟨q1,fun j hj=>by erw[y4];exact i4 _ (b9 _ (q2 j hj))⟩
 | .obj k c ns vs,v,d,h,e=>by
  erw[W6] at e
  by_cases hk:k=l
  ·rw[if_pos hk] at e;cases e
   subst hk
   have h':=h
   erw[RD] at h'
   obtain⟨rfl,_⟩:=h'
   exact⟨h,fun _ q=>q⟩
  ·rw[if_neg hk] at e
   erw[RD] at h
   obtain⟨_,C,dx,fs,_,_,_,r⟩:=h
   obtain⟨q1,q2⟩:=findL_rd l vs _ d r e
   exact⟨q1,fun j hj=>by erw[y4];exact i4 _ (q2 j hj)⟩
theorem findL_rd(l:Nat): ∀(t:List D) (v:List V) (d:D),RDs G ρ H t v->findL l t=some d->RD G ρ H d (.ref (ρ l))/\∀k∈y4 d,k∈labsL t
 |[],v,d,h,e=>by erw[findL] at e;cases e
 |t::ts,v,d,h,e=>by
  erw[findL,RDs,labsL] at h e⊢
  obtain⟨x,r,_,h1,h2⟩:=h
  cases e1:W6 l t with
  |some y=>
   rw[e1] at e;cases e
   obtain⟨q1,q2⟩:=zbA l t x _ h1 e1
   exact⟨q1,fun j hj=>i3 _ (q2 j hj)⟩
  |none=>
   rw[e1] at e
   obtain⟨q1,q2⟩:=findL_rd l ts r d h2 e
   exact⟨q1,fun j hj=>b9 _ (q2 j hj)⟩
end
theorem roL_two{K:W.Frag}{a:Addr}{xs ys:List V}(k:KD K H)(h:RoL K H a xs)(h':RoL K H a ys):xs=ys:=SqL.two k h.sq h'.sq
noncomputable def z7F(G:Gx)(H:Hp)(a:Addr):Nat->Prop
 |0=> ∃xs,SqT G.K H a xs
 |1=> ∃xs,RoL G.K H a xs
 |2=> ∃xs,H a=some (.lst xs)
 |3=>(∃kvs,H a=some (.dK kvs))\/∃kvs,H a=some (.dT kvs)
 |4=> ∃C dx fs,H a=some (.ins C dx fs)
 |5=> ∃o φ,H a=some (.frz o (.ext φ))
 |6=> ∃c,G.cl c=some a
 |_=> ∃o kvs,H a=some (.frz o (.dT kvs))
open Classical in
noncomputable def kd(K:W.Frag)(H:Hp)(a:Addr):Nat:=match H a with
 |some (.tup _)=>0|some (.frz _ (.tup _))=>0|some (.frz _ (.lst _))=>1|some (.lst _)=>2|some (.dK _)=>3|some (.dT _)=>3|some (.ins _ _ _)=>4|some (.frz _ (.ext _))=>5|some (.frz _ (.dT _))=>7
 |some _=>9
 |none=>match K.lookup a with
  |some o=>if(∃its n,o.data= .seq its n) then(if o.cls= .type "tuple" then 0 else 1) else 6
  |none=>8
theorem zgj{a:Addr}(k:KD G.K H): ∀{i:Nat},z7F G H a i->i<=7->kd G.K H a=i:=by
 have tl: ¬((.type "list" :Value)= .type "tuple"):=by intro h;injection h with h;exact absurd h (by decide)
 intro i hi li
 match i,hi,li with
 |0,⟨xs,h⟩,_=>
  rcases h with(h|⟨o,h⟩)|⟨o,its,n,h,hc,hd,_⟩
  ·unfold kd;rw[h]
  ·unfold kd;rw[h]
  ·unfold kd;rw[k _ _ h];dsimp only;rw[h];dsimp only;rw[if_pos ⟨its,n,hd⟩,if_pos hc]
 |1,⟨xs,h⟩,_=>
  rcases h with⟨o,h⟩|⟨o,its,n,h,hc,_,hd,_⟩
  ·unfold kd;rw[h]
  ·unfold kd;rw[k _ _ h];dsimp only;rw[h];dsimp only;rw[if_pos ⟨its,n,hd⟩,if_neg (by rw[hc];exact tl)]
 |2,⟨xs,h⟩,_=>unfold kd;rw[h]
 |3,h,_=>rcases h with⟨_,h⟩|⟨_,h⟩<;>(unfold kd;rw[h])
 |4,⟨_,_,_,h⟩,_=>unfold kd;rw[h]
 |5,⟨_,_,h⟩,_=>unfold kd;rw[h]
 |6,⟨c,h⟩,_=>
  obtain⟨o,h1,h2⟩:=G.ck c a h
  unfold kd;rw[k _ _ h1];dsimp only;rw[h1];dsimp only;rw[if_neg (fun⟨its,n,q⟩=>h2 its n q)]
 |7,⟨_,_,h⟩,_=>unfold kd;rw[h]
 |n+8,_,li=>lia
theorem zbB{a:Addr}(k:KD G.K H){i j:Nat}(hi:z7F G H a i)(hj:z7F G H a j)(li:i<=7)(lj:j<=7):i=j:=(zgj k hi li).symm.trans (zgj k hj lj)
noncomputable def ix:D->Nat
 | .tup _=>0| .ro _=>1| .lst _ _=>2| .dct _ _ _=>3| .obj _ _ _ _=>4| .exc _=>5| .fn _=>6| .fdc _ _=>7|_=>8
noncomputable def flD:V->D
 | .bl b=> .bool b| .int b=> .int b| .str b=> .str b|_=> .non
theorem RD.kind{t:D}{v:V}(h:RD G ρ H t v):(t=flD v/\∀a,v≠ .ref a)\/∃a,v= .ref a/\ix t<=7/\z7F G H a (ix t):=by
 cases t<;>erw[RD] at h
 ·exact .inl (by rw[h];exact⟨rfl,nofun⟩)
 ·exact .inl (by rw[h];exact⟨rfl,nofun⟩)
 ·exact .inl (by rw[h];exact⟨rfl,nofun⟩)
 ·exact .inl (by rw[h];exact⟨rfl,nofun⟩)
 ·obtain⟨a',xs,e,s,r⟩:=h;exact .inr ⟨a',e,B1 rfl,xs,SqT.of s⟩
 ·obtain⟨a',xs,e,s,r⟩:=h;exact .inr ⟨a',e,B1 rfl,xs,s⟩
 ·obtain⟨e,xs,s,r⟩:=h;exact .inr ⟨_,e,B1 rfl,xs,s⟩
 ·obtain⟨e,⟨kvs,s,_⟩|⟨kvs,s,_⟩⟩:=h
  ·exact .inr ⟨_,e,B1 rfl, .inl ⟨kvs,s⟩⟩
  ·exact .inr ⟨_,e,B1 rfl, .inr ⟨kvs,s⟩⟩
 ·obtain⟨e,C,dx,fs,_,s,_⟩:=h;exact .inr ⟨_,e,B1 rfl,C,dx,fs,s⟩
 ·obtain⟨a',o,C,e,_,_,_,s⟩:=h;exact .inr ⟨a',e,B1 rfl,o,_,s⟩
 ·obtain⟨a',e,s⟩:=h;exact .inr ⟨a',e,B1 rfl,_,s⟩
 ·obtain⟨a',o,kvs,e,s,_⟩:=h;exact .inr ⟨a',e,B1 rfl,o,kvs,s⟩
theorem ix0{t:D}(h:ix t=0): ∃ds,t= .tup ds:=by cases t<;>first|exact⟨_,rfl⟩|cases h
theorem ix1{t:D}(h:ix t=1): ∃ds,t= .ro ds:=by cases t<;>first|exact⟨_,rfl⟩|cases h
theorem ix2{t:D}(h:ix t=2): ∃l ds,t= .lst l ds:=by cases t<;>first|exact⟨_,_,rfl⟩|cases h
theorem ix3{t:D}(h:ix t=3): ∃l ks vs,t= .dct l ks vs:=by cases t<;>first|exact⟨_,_,_,rfl⟩|cases h
theorem ix4{t:D}(h:ix t=4): ∃l c ns vs,t= .obj l c ns vs:=by cases t<;>first|exact⟨_,_,_,_,rfl⟩|cases h
theorem ix5{t:D}(h:ix t=5): ∃c,t= .exc c:=by cases t<;>first|exact⟨_,rfl⟩|cases h
theorem ix6{t:D}(h:ix t=6): ∃c,t= .fn c:=by cases t<;>first|exact⟨_,rfl⟩|cases h
theorem ix7{t:D}(h:ix t=7): ∃ks vs,t= .fdc ks vs:=by cases t<;>first|exact⟨_,_,rfl⟩|cases h
theorem RD.ixE{t t':D}{v:V}(k:KD G.K H)(h:RD G ρ H t v)(h':RD G ρ H t' v):t=t'\/ix t=ix t':=by
 rcases RD.kind h with⟨e,n⟩|⟨a,e,l,q⟩<;>rcases RD.kind h' with⟨e',n'⟩|⟨a',e',l',q'⟩
 ·exact .inl (e.trans e'.symm)
 ·exact absurd e' (n _)
 ·exact absurd e (n' _)
 ·cases e.symm.trans e';exact .inr (zbB k q q' l l')
section
variable(k:KD G.K H){n:Nat}(inj: ∀i j,i<n->j<n->ρ i=ρ j->i=j)
include k inj
mutual
theorem RD.uniq: ∀(t t':D) (v:V),RD G ρ H t v->RD G ρ H t' v->(∀l∈y4 t,l<n)->(∀l∈y4 t',l<n)->t=t'
 | .non,t',v,h,h',_,_=>(RD.kind h').elim (fun e=>by erw[RD] at h;subst h;exact e.1.symm) fun⟨_,e,_⟩=>by erw[RD] at h;subst h;cases e
 | .bool b,t',v,h,h',_,_=>(RD.kind h').elim (fun e=>by erw[RD] at h;subst h;exact e.1.symm) fun⟨_,e,_⟩=>by erw[RD] at h;subst h;cases e
 | .int b,t',v,h,h',_,_=>(RD.kind h').elim (fun e=>by erw[RD] at h;subst h;exact e.1.symm) fun⟨_,e,_⟩=>by erw[RD] at h;subst h;cases e
 | .str b,t',v,h,h',_,_=>(RD.kind h').elim (fun e=>by erw[RD] at h;subst h;exact e.1.symm) fun⟨_,e,_⟩=>by erw[RD] at h;subst h;cases e
 | .exc c,t',v,h,h',lb,lb'=>by
  rcases RD.ixE k h h' with e|e
  ·exact e
  obtain⟨c',rfl⟩:=ix5 e.symm
  erw[RD] at h h'
  obtain⟨a,o,C,rfl,h1,h2,_,s⟩:=h
  obtain⟨a',o',C',e,h1',h2',_,s'⟩:=h'
  cases e
  rw[s] at s';cases s'
  rw[h2] at h2';cases h2'
  rw[G.ci c c' C h1 h1']
 | .fn c,t',v,h,h',lb,lb'=>by
  rcases RD.ixE k h h' with e|e
  ·exact e
  obtain⟨c',rfl⟩:=ix6 e.symm
  erw[RD] at h h'
  obtain⟨a,rfl,h1⟩:=h
  obtain⟨a',e,h1'⟩:=h'
  cases e
  rw[G.ci c c' a h1 h1']
 | .tup ds,t',v,h,h',lb,lb'=>by
  rcases RD.ixE k h h' with e|e
  ·exact e
  obtain⟨es,rfl⟩:=ix0 e.symm
  obtain⟨a,xs,rfl,s,r⟩:=h.tupq
  obtain⟨a',ys,e,s',r'⟩:=h'.tupq
  cases e
  cases SqT.two k s s'
  rw[RDs.uniq ds es xs r r' lb lb']
 | .fdc ks vs,t',v,h,h',lb,lb'=>by
  rcases RD.ixE k h h' with e|e
  ·exact e
  obtain⟨ks',vs',rfl⟩:=ix7 e.symm
  erw[RD] at h h'
  obtain⟨a,o,kvs,rfl,s,s2,r⟩:=h
  obtain⟨a',o',kvs',e,s',s2',r'⟩:=h'
  cases e
  rw[s] at s';cases s'
  rw[s2,s2',RDs.uniq vs vs' _ r r' lb lb']
 | .ro ds,t',v,h,h',lb,lb'=>by
  rcases RD.ixE k h h' with e|e
  ·exact e
  obtain⟨es,rfl⟩:=ix1 e.symm
  erw[RD] at h h'
  obtain⟨a,xs,rfl,s,r⟩:=h
  obtain⟨a',ys,e,s',r'⟩:=h'
  cases e
  cases roL_two k s s'
  rw[RDs.uniq ds es xs r r' lb lb']
 | .lst l ds,t',v,h,h',lb,lb'=>by
  rcases RD.ixE k h h' with e|e
  ·exact e
  obtain⟨l',es,rfl⟩:=ix2 e.symm
  erw[RD] at h h'
  obtain⟨rfl,xs,s,r⟩:=h
  obtain⟨e,ys,s',r'⟩:=h'
  cases inj l l' (lb l (.head _)) (lb' l' (.head _)) (V.ref.inj e)
  rw[s] at s';cases s'
  rw[RDs.uniq ds es xs r r' (fun j hj=>lb j (.tail _ hj)) fun j hj=>lb' j (.tail _ hj)]
 | .dct l ks vs,t',v,h,h',lb,lb'=>by
  rcases RD.ixE k h h' with e|e
  ·exact e
  obtain⟨l',ks',vs',rfl⟩:=ix3 e.symm
  erw[RD] at h h'
  obtain⟨rfl,q⟩:=h
  obtain⟨e,q'⟩:=h'
  cases inj l l' (lb l (.head _)) (lb' l' (.head _)) (V.ref.inj e)
  have b1: ∀j∈labsL vs,j<n:=fun j hj=>lb j (.tail _ (b9 _ hj))
  have b2: ∀j∈labsL vs',j<n:=fun j hj=>lb' j (.tail _ (b9 _ hj))
  rcases q with⟨kvs,s,s2,r⟩|⟨kvs,s,s2,r⟩<;>rcases q' with⟨kvs',s',s2',r'⟩|⟨kvs',s',s2',r'⟩<;>rw[s] at s'<;>cases s'
  ·rw[s2,s2',RDs.uniq vs vs' _ r r' b1 b2]
  ·rw[s2,s2',RDs.uniq vs vs' _ r r' b1 b2]
 | .obj l c ns vs,t',v,h,h',lb,lb'=>by
  rcases RD.ixE k h h' with e|e
  ·exact e
  obtain⟨l',c',ns',vs',rfl⟩:=ix4 e.symm
  erw[RD] at h h'
  obtain⟨rfl,C,dx,fs,hC,s,s2,r⟩:=h
  obtain⟨e,C',dx',fs',hC',s',s2',r'⟩:=h'
  cases inj l l' (lb l (.head _)) (lb' l' (.head _)) (V.ref.inj e)
  rw[s] at s';cases s'
  rw[s2,s2',G.ci c c' C hC hC',RDs.uniq vs vs' _ r r' (fun j hj=>lb j (.tail _ hj)) fun j hj=>lb' j (.tail _ hj)]
theorem RDs.uniq: ∀(t t':List D) (v:List V),RDs G ρ H t v->RDs G ρ H t' v->(∀l∈labsL t,l<n)->(∀l∈labsL t',l<n)->t=t'
 |[],t',v,h,h',_,_=>by
  erw[RDs] at h;subst h
  cases t' with
  |nil=>rfl
  |cons d ds=>erw[RDs] at h';obtain⟨_,_,e,_⟩:=h';cases e
 |d::ds,t',v,h,h',lb,lb'=>by
  erw[RDs] at h
  obtain⟨x,q,rfl,h1,h2⟩:=h
  cases t' with
  |nil=>erw[RDs] at h';cases h'
  |cons d' ds'=>
   erw[RDs] at h'
   obtain⟨_,_,e,h1',h2'⟩:=h'
   cases e
   rw[RD.uniq d d' x h1 h1' (fun l hl=>lb l (by erw[labsL];exact i3 _ hl)) fun l hl=>lb' l (by erw[labsL];exact i3 _ hl),
    RDs.uniq ds ds' q h2 h2' (fun l hl=>lb l (by erw[labsL];exact b9 _ hl)) fun l hl=>lb' l (by erw[labsL];exact b9 _ hl)]
end
end
end
end Mi
namespace Mi
open PySem L2 PySem.Spec PyProof.Rows
inductive RF where
 |ok (t:D) (ts:List D) (n:Nat)|ex (d:D) (ts:List D) (n:Nat)|no
noncomputable abbrev FM:=List D->Nat->RF
structure z4Y(G:Gx)(ρ:Nat->Addr)(n:Nat)(ts:List D)(vs:List V)(H:Hp)(ρ':Nat->Addr)(n':Nat)(ts':List D)(H':Hp):Prop where
 old: ∀l,l<n->ρ' l=ρ l
 le:n<=n'
 inj: ∀i j,i<n'->j<n'->ρ' i=ρ' j->i=j
 dom: ∀l,l<n'->∃o,H' (ρ' l)=some o
 rd:RDs G ρ' H' ts' vs
 lb: ∀l∈labsL ts',l<n'/\(l<n->l∈labsL ts)
 fr: ∀a o,H a=some o->(∃o',H' a=some o')/\((∀l∈labsL ts,a≠ρ l)->H' a=some o)
 new: ∀l,n<=l->l<n'->H (ρ' l)=none
 kd:KD G.K H'
section
variable{G:Gx}{ρ ρ':Nat->Addr}{H H':Hp}
theorem z9G(k:Key):y4 (zbm k)=[]:=by cases k<;>erw[zbm,y4]
theorem z9H: ∀ks:List Key,labsL (ks.map zbm)=[]
 |[]=>by erw[t7,labsL]
 |k::ks=>by erw[l6,labsL,z9G,z9H ks,i9]
theorem z9I(z:Key⊕List Key):y4 (nkD z)=[]:=by
 cases z with
 |inl k=>exact z9G k
 |inr ks=>erw[nkD,y4,z9H]
mutual
theorem zdU: ∀(t:D) (v:V),RD G ρ H t v->∀l∈y4 t,∃o,H (ρ l)=some o/\(∀xs,o≠ .tup xs)/\∀u w,o≠ .frz u w
 | .non,v,h,l,hl=>by erw[y4] at hl;cases hl
 | .bool b,v,h,l,hl=>by erw[y4] at hl;cases hl
 | .int b,v,h,l,hl=>by erw[y4] at hl;cases hl
 | .str b,v,h,l,hl=>by erw[y4] at hl;cases hl
 | .exc b,v,h,l,hl=>by erw[y4] at hl;cases hl
 | .fn b,v,h,l,hl=>by erw[y4] at hl;cases hl
 | .tup ds,v,h,l,hl=>by
  erw[y4,RD] at h hl
  obtain⟨a,xs,_,_,r⟩:=h
  exact labL_mut ds xs r l hl
 | .fdc ks vs,v,h,l,hl=>by
  erw[y4,RD] at h hl
  obtain⟨a,o,kvs,_,_,_,r⟩:=h
  exact labL_mut vs _ r l hl
 | .ro ds,v,h,l,hl=>by
  erw[y4,RD] at h hl
  obtain⟨a,xs,_,_,r⟩:=h
  exact labL_mut ds xs r l hl
 | .lst k ds,v,h,l,hl=>by
  erw[y4,RD] at h hl
  obtain⟨_,xs,s,r⟩:=h
  rcases i8.mp hl with rfl|hl
  ·exact⟨_,s,(fun _ q=>nomatch q),(fun _ _ q=>nomatch q)⟩
  ·exact labL_mut ds xs r l hl
 | .dct k ks vs,v,h,l,hl=>by
  erw[y4,RD] at h hl
  obtain⟨_,⟨kvs,s,s2,r⟩|⟨kvs,s,s2,r⟩⟩:=h
  ·rcases i8.mp hl with rfl|hl
   ·exact⟨_,s,(fun _ q=>nomatch q),(fun _ _ q=>nomatch q)⟩
   ·rcases i5.mp hl with hl|hl
    ·rw[s2] at hl
     obtain⟨d,hd,hl⟩:=X6 hl
     rcases i8.mp hd with rfl|hd
     ·erw[y4] at hl;cases hl
     obtain⟨p,_,rfl⟩:=m9.mp hd
     obtain⟨kk,_⟩:=p
     cases kk<;>erw[zbm,y4] at hl<;>cases hl
    ·exact labL_mut vs _ r l hl
  ·rcases i8.mp hl with rfl|hl
   ·exact⟨_,s,(fun _ q=>nomatch q),(fun _ _ q=>nomatch q)⟩
   ·rcases i5.mp hl with hl|hl
    ·rw[s2] at hl
     obtain⟨d,hd,hl⟩:=X6 hl
     obtain⟨p,_,rfl⟩:=m9.mp hd
     erw[dkD,y4] at hl
     obtain⟨d,hd,hl⟩:=X6 hl
     obtain⟨kk,_,rfl⟩:=m9.mp hd
     rw[z9I] at hl;cases hl
    ·exact labL_mut vs _ r l hl
 | .obj k c ns vs,v,h,l,hl=>by
  erw[y4,RD] at h hl
  obtain⟨_,C,dx,fs,_,s,_,r⟩:=h
  rcases i8.mp hl with rfl|hl
  ·exact⟨_,s,(fun _ q=>nomatch q),(fun _ _ q=>nomatch q)⟩
  ·exact labL_mut vs _ r l hl
theorem labL_mut: ∀(t:List D) (v:List V),RDs G ρ H t v->∀l∈labsL t,∃o,H (ρ l)=some o/\(∀xs,o≠ .tup xs)/\∀u w,o≠ .frz u w
 |[],v,h,l,hl=>by erw[labsL] at hl;cases hl
 |d::ds,v,h,l,hl=>by
  erw[labsL,RDs] at h hl
  obtain⟨x,r,_,h1,h2⟩:=h
  rcases i5.mp hl with hl|hl
  ·exact zdU d x h1 l hl
  ·exact labL_mut ds r h2 l hl
end
theorem z8t{kvs:List (Key×V)}{l:Nat}(hl:l∈labsL (kvs.map fun p=>zbm p.1)):False:=by
 obtain⟨d,hd,hl⟩:=X6 hl
 obtain⟨p,_,rfl⟩:=m9.mp hd
 obtain⟨kk,_⟩:=p
 cases kk<;>erw[zbm,y4] at hl<;>cases hl
theorem z6O{kvs:List (NK×V)}{l:Nat}(hl:l∈labsL (kvs.map fun p=>dkD p.1)):False:=by
 obtain⟨d,hd,hl⟩:=X6 hl
 obtain⟨p,_,rfl⟩:=m9.mp hd
 erw[dkD,y4] at hl
 obtain⟨d,hd,hl⟩:=X6 hl
 obtain⟨kk,_,rfl⟩:=m9.mp hd
 rw[z9I] at hl;cases hl
mutual
theorem z8u(l:Nat): ∀(t:D) (v:V),RD G ρ H t v->l∈y4 t->(W6 l t).isSome=true
 | .non,v,h,hl=>by erw[y4] at hl;cases hl
 | .bool b,v,h,hl=>by erw[y4] at hl;cases hl
 | .int b,v,h,hl=>by erw[y4] at hl;cases hl
 | .str b,v,h,hl=>by erw[y4] at hl;cases hl
 | .exc b,v,h,hl=>by erw[y4] at hl;cases hl
 | .fn b,v,h,hl=>by erw[y4] at hl;cases hl
 | .tup ds,v,h,hl=>by
  erw[y4,RD,W6] at h hl⊢
  obtain⟨a,xs,_,_,r⟩:=h
  exact findL_some l ds xs r hl
 | .fdc ks vs,v,h,hl=>by
  erw[y4,RD,W6] at h hl⊢
  obtain⟨a,o,kvs,_,_,_,r⟩:=h
  exact findL_some l vs _ r hl
 | .ro ds,v,h,hl=>by
  erw[y4,RD,W6] at h hl⊢
  obtain⟨a,xs,_,_,r⟩:=h
  exact findL_some l ds xs r hl
 | .lst k ds,v,h,hl=>by
  erw[y4,RD,W6] at h hl⊢
  obtain⟨_,xs,s,r⟩:=h
  by_cases e:k=l
  ·rw[if_pos e];rfl
  ·rw[if_neg e]
   rcases i8.mp hl with q|q
   ·exact absurd q.symm e
   ·exact findL_some l ds xs r q
 | .dct k ks vs,v,h,hl=>by
  erw[y4,RD,W6] at h hl⊢
  obtain⟨_,⟨kvs,s,s2,r⟩|⟨kvs,s,s2,r⟩⟩:=h
  ·by_cases e:k=l
   ·rw[if_pos e];rfl
   ·rw[if_neg e]
    rcases i8.mp hl with q|q
    ·exact absurd q.symm e
    ·rcases i5.mp q with q|q
     ·rw[s2] at q;exact(z8t q).elim
     ·exact findL_some l vs _ r q
  ·by_cases e:k=l
   ·rw[if_pos e];rfl
   ·rw[if_neg e]
    rcases i8.mp hl with q|q
    ·exact absurd q.symm e
    ·rcases i5.mp q with q|q
     ·rw[s2] at q;exact(z6O q).elim
     ·exact findL_some l vs _ r q
 | .obj k c ns vs,v,h,hl=>by
  erw[y4,RD,W6] at h hl⊢
  obtain⟨_,C,dx,fs,_,s,_,r⟩:=h
  by_cases e:k=l
  ·rw[if_pos e];rfl
  ·rw[if_neg e]
   rcases i8.mp hl with q|q
   ·exact absurd q.symm e
   ·exact findL_some l vs _ r q
theorem findL_some(l:Nat): ∀(t:List D) (v:List V),RDs G ρ H t v->l∈labsL t->(findL l t).isSome=true
 |[],v,h,hl=>by erw[labsL] at hl;cases hl
 |d::ds,v,h,hl=>by
  erw[labsL,RDs,findL] at h hl⊢
  obtain⟨x,r,_,h1,h2⟩:=h
  cases e:W6 l d with
  |some y=>rfl
  |none=>
   rcases i5.mp hl with q|q
   ·have:=z8u l d x h1 q
    rw[e] at this;cases this
   ·exact findL_some l ds r h2 q
end
theorem z4Y.stays{n n':Nat}{ts ts':List D}{vs:List V}(P:z4Y G ρ n ts vs H ρ' n' ts' H')(r:RDs G ρ H ts vs):X5 H H':=by
 refine⟨fun b xs e=>(P.fr b _ e).2 fun l hl z=> ?_,fun b o u e=>(P.fr b _ e).2 fun l hl z=> ?_⟩
 ·obtain⟨o,q,q1,_⟩:=labL_mut ts vs r l hl
  rw[<-z,e] at q;cases q;exact q1 _ rfl
 ·obtain⟨o,q,_,q1⟩:=labL_mut ts vs r l hl
  rw[<-z,e] at q;cases q;exact q1 _ _ rfl
section
variable(k:KD G.K H){n:Nat}(inj: ∀i j,i<n->j<n->ρ i=ρ j->i=j){ts:List D}{vs:List V}(r:RDs G ρ H ts vs)(lb: ∀l∈labsL ts,l<n)
include k inj r lb
mutual
theorem z4w: ∀(t:D) (v:V),RD G ρ H t v->(∀l∈y4 t,l<n)->rp (fun l=>findL l ts) t=t
 | .non,v,h,hl=>rfl
 | .bool b,v,h,hl=>rfl
 | .int b,v,h,hl=>rfl
 | .str b,v,h,hl=>rfl
 | .exc b,v,h,hl=>rfl
 | .fn b,v,h,hl=>rfl
 | .tup ds,v,h,hl=>by
  erw[y4,RD,rp] at h hl⊢
  obtain⟨a,xs,_,_,r1⟩:=h
  rw[rpL_find_id ds xs r1 hl]
 | .fdc ks vs,v,h,hl=>by
  erw[y4,RD,rp] at h hl⊢
  obtain⟨a,o,kvs,_,_,_,r1⟩:=h
  rw[rpL_find_id vs _ r1 hl]
 | .ro ds,v,h,hl=>by
  erw[y4,RD,rp] at h hl⊢
  obtain⟨a,xs,_,_,r1⟩:=h
  rw[rpL_find_id ds xs r1 hl]
 | .lst l ds,v,h,hl=>by
  erw[rp]
  cases e:findL l ts with
  |some d=>
   dsimp only
   obtain⟨q1,q2⟩:=findL_rd l ts vs d r e
   have h':=h
   erw[RD] at h'
   obtain⟨rfl,_⟩:=h'
   exact RD.uniq k inj _ _ _ q1 h (fun j hj=>lb j (q2 j hj)) hl
  |none=>
   dsimp only
   erw[y4,RD] at h hl
   obtain⟨_,xs,s,r1⟩:=h
   rw[rpL_find_id ds xs r1 fun j hj=>hl j (i4 _ hj)]
 | .dct l ks vs',v,h,hl=>by
  erw[rp]
  cases e:findL l ts with
  |some d=>
   dsimp only
   obtain⟨q1,q2⟩:=findL_rd l ts vs d r e
   have h':=h
   erw[RD] at h'
   obtain⟨rfl,_⟩:=h'
   exact RD.uniq k inj _ _ _ q1 h (fun j hj=>lb j (q2 j hj)) hl
  |none=>
   dsimp only
   erw[y4,RD] at h hl
   obtain⟨_,⟨kvs,s,s2,r1⟩|⟨kvs,s,s2,r1⟩⟩:=h
   ·rw[rpL_find_id vs' _ r1 fun j hj=>hl j (i4 _ (b9 _ hj))]
   ·rw[rpL_find_id vs' _ r1 fun j hj=>hl j (i4 _ (b9 _ hj))]
 | .obj l c ns vs',v,h,hl=>by
  erw[rp]
  cases e:findL l ts with
  |some d=>
   dsimp only
   obtain⟨q1,q2⟩:=findL_rd l ts vs d r e
   have h':=h
   erw[RD] at h'
   obtain⟨rfl,_⟩:=h'
   exact RD.uniq k inj _ _ _ q1 h (fun j hj=>lb j (q2 j hj)) hl
  |none=>
   dsimp only
   erw[y4,RD] at h hl
   obtain⟨_,C,dx,fs,_,s,_,r1⟩:=h
   rw[rpL_find_id vs' _ r1 fun j hj=>hl j (i4 _ hj)]
theorem rpL_find_id: ∀(t:List D) (v:List V),RDs G ρ H t v->(∀l∈labsL t,l<n)->rpL (fun l=>findL l ts) t=t
 |[],v,h,hl=>rfl
 |d::ds,v,h,hl=>by
  erw[labsL,RDs,rpL] at h hl⊢
  obtain⟨x,q,_,h1,h2⟩:=h
  rw[z4w d x h1 fun j hj=>hl j (i3 _ hj),rpL_find_id ds q h2 fun j hj=>hl j (b9 _ hj)]
end
theorem z0v: ∀(t:List (Option D)) (v:List (Option V)),Sl G ρ H t v->(∀l∈Z4 t,l<n)->rpO (fun l=>findL l ts) t=t
 |[],v,h,hl=>rfl
 |none::r',v,h,hl=>by
  erw[Z4,Sl,rpO] at h hl⊢
  obtain⟨o,q,_,h⟩:=h
  rw[z0v r' q h hl]
 |some d::ds,v,h,hl=>by
  erw[Z4,Sl,rpO] at h hl⊢
  obtain⟨x,q,_,h1,h2⟩:=h
  rw[z4w k inj r lb d x h1 fun j hj=>hl j (i3 _ hj),z0v ds q h2 fun j hj=>hl j (b9 _ hj)]
end
variable{F:Fy}{σv tv:List (Option V)}{s:Stt}{np:Nat}
theorem MR.call{ts ts':List D}{vs:List V}{n':Nat}(M:MR G F.toFx ρ H σv tv s)(r:RDs G ρ H ts vs)(lb:LB F.toFx ρ s.n (labsL ts))(P:z4Y G ρ s.n ts vs H ρ' n' ts' H')
 (hc: ∀l∈G1 s,l∈labsL ts->(findL l ts').isSome=true):MR G F.toFx ρ' H' σv tv {σ:=rpO (fun l=>findL l ts') s.σ,tm:=rpO (fun l=>findL l ts') s.tm,n:=n'}:=by
 have st:=P.stays r
 have step: ∀l∈G1 s,ρ' l=ρ l/\(match findL l ts' with|some d=>RD G ρ' H' d (.ref (ρ l))|none=> ∀o,H (ρ l)=some o->H' (ρ l)=some o):=fun l hl=>by
  have ol:=P.old l (M.lab l hl)
  refine⟨ol, ?_⟩
  cases e:findL l ts' with
  |some d=>
   have q:=(findL_rd l ts' vs d P.rd e).1
   rw[ol] at q;exact q
  |none=>
   intro o e1
   refine(P.fr _ _ e1).2 fun j hj z=> ?_
   have:l=j:=M.inj l j (M.lab l hl) (lb j hj).1 z
   subst this
   have:=hc l hl hj
   rw[e] at this;cases this
 have hn: ∀l,l<n'->l<s.n\/H (ρ' l)=none:=fun l hl=>by
  by_cases h:l<s.n
  ·exact .inl h
  ·exact .inr (P.new l (F4.mp h) hl)
 have hlab: ∀(xs:List (Option D)),(∀l∈Z4 xs,l∈G1 s)->∀l∈Z4 (rpO (fun l=>findL l ts') xs),l<n'/\(l<s.n->l∈G1 s\/l∈labsL ts):=fun xs hx l h=>by
  rcases z3p l xs h with q|⟨k,d,q1,q2,q3⟩
  ·exact⟨r8 (M.lab l (hx l q)) P.le,fun _=> .inl (hx l q)⟩
  ·obtain⟨b1,b2⟩:=P.lb l ((findL_rd k ts' vs d P.rd q2).2 l q3)
   exact⟨b1,fun z=> .inr (b2 z)⟩
 have all: ∀l∈G1 {σ:=rpO (fun l=>findL l ts') s.σ,tm:=rpO (fun l=>findL l ts') s.tm,n:=n'},l<n'/\(l<s.n->l∈G1 s\/l∈labsL ts):=fun l h=>by
  rcases i5.mp h with h|h
  ·exact hlab s.σ (fun l q=>i3 _ q) l h
  ·exact hlab s.tm (fun l q=>b9 _ q) l h
 refine⟨Sl.rp st M.sl fun l hl=>step l (i3 _ hl),Sl.rp st M.tm fun l hl=>step l (b9 _ hl),P.inj,P.dom,fun l h=>(all l h).1,fun l h=> ?_,fun a o e=> ?_,P.kd,fun l hl z=> ?_,⟨t8 M.bas.1 P.le,fun l hl=> ?_⟩⟩
 ·rcases hn l (all l h).1 with q|q
  ·rw[P.old l q]
   rcases(all l h).2 q with z|z
   ·exact M.own l z
   ·exact(lb l z).2
  ·exact .inr (M.fresh0 q)
 ·obtain⟨⟨o1,e1⟩,e2⟩:=M.frm a o e
  obtain⟨e3,e4⟩:=P.fr a o1 e1
  refine⟨e3,fun nA=> ?_⟩
  have e5:=e2 nA
  rw[e1] at e5;cases e5
  refine e4 fun l hl z=> ?_
  rcases(lb l hl).2 with q|q
  ·exact nA (z▸q)
  ·rw[<-z,e] at q;cases q
 ·rcases hn l hl with q|q
  ·rw[P.old l q] at z;exact M.frb l q z
  ·obtain⟨⟨o,e⟩,_⟩:=F.zA _ z
   obtain⟨⟨o',e'⟩,_⟩:=M.frm _ o e
   rw[q] at e';cases e'
 ·rw[P.old l (r8 hl M.bas.1)];exact M.bas.2 l hl
theorem MR.call0{ts:List D}{vs:List V}{n':Nat}(M:MR G F.toFx ρ H σv tv s)(r:RDs G ρ H ts vs)(lb:LB F.toFx ρ s.n (labsL ts))(P:z4Y G ρ s.n ts vs H ρ' n' ts H'):MR G F.toFx ρ' H' σv tv {s with n:=n'}:=by
 have hf: ∀l∈labsL ts,(findL l ts).isSome=true:=fun l hl=>findL_some l ts vs r hl
 have M2:=M.call r lb P fun l _ hl=>hf l hl
 rw[z0v M.kd M.inj r (fun l hl=>(lb l hl).1) s.σ σv M.sl fun l hl=>M.lab l (i3 _ hl),z0v M.kd M.inj r (fun l hl=>(lb l hl).1) s.tm tv M.tm fun l hl=>M.lab l (b9 _ hl)] at M2
 exact M2
open Classical in
noncomputable def z4Z(r:RF)(ts:List D):M D:=fun s=>match r with
 | .ok t ts' n'=>if ts'=ts then .ok t {s with n:=n'} else
  if ∀l∈G1 s,l∈labsL ts->(findL l ts').isSome=true then .ok t {σ:=rpO (fun l=>findL l ts') s.σ,tm:=rpO (fun l=>findL l ts') s.tm,n:=n'} else .no
 |_=> .no
noncomputable def mCall(f:FM)(ms:List (M D)):M D:=bd (mArgs ms) fun ts s=>z4Z (f ts s.n) ts s
noncomputable def spM(G:Gx)(np:Nat)(f:FM):Sp:=fun vs H Q _=>vs.length=np/\∃ρ n ts,RDs G ρ H ts vs/\(∀i j,i<n->j<n->ρ i=ρ j->i=j)/\(∀l,l<n->∃o,H (ρ l)=some o)/\(∀l∈labsL ts,l<n)/\KD G.K H/\match f ts n with
 | .ok t ts' n'=> ∀ρ' v H',z4Y G ρ n ts vs H ρ' n' ts' H'->RD G ρ' H' t v->(∀l∈y4 t,l<n'/\(l<n->l∈labsL ts))->Q v H'
 |_=>False
theorem z9J{ts:List D}{vs:List V}{f:FM}{Q:VK}{E:XK}(hl:vs.length=np)(M:MRL G F.toFx ρ H σv tv s ts vs)(W:wM G F σv tv (z4Z (f ts s.n) ts s) Q):spM G np f vs H Q E:=by
 refine⟨hl,ρ,s.n,ts,M.rd,M.m.inj,M.m.dom,fun l h=>(M.lb l h).1,M.m.kd, ?_⟩
 cases e:f ts s.n with
 |no=>rw[e] at W;exact W
 |ex d ts' n'=>rw[e] at W;exact W
 |ok t ts' n'=>
  rw[e] at W
  intro ρ' v H' P rd lbt
  have own: ∀l∈y4 t,F.A0 (ρ' l)\/F.H0 (ρ' l)=none:=fun l h=>by
   obtain⟨b1,b2⟩:=lbt l h
   by_cases hn:l<s.n
   ·rw[P.old l hn];exact(M.lb l (b2 hn)).2
   ·exact .inr (M.m.fresh0 (P.new l (F4.mp hn) b1))
  unfold z4Z at W
  dsimp only at W
  split at W
  ·rename_i et
   subst et
   exact W.out (M.m.call0 M.rd M.lb P) rd fun l h=>⟨(lbt l h).1,own l h⟩
  ·split at W
   ·rename_i hc
    exact W.out (M.m.call M.rd M.lb P hc) rd fun l h=>⟨(lbt l h).1,own l h⟩
   ·exact False.elim W
theorem z69: ∀(ms:List (M D)) (s:Stt) (ts:List D) (s':Stt),mArgs ms s= .ok ts s'->ts.length=ms.length:=by
 intro ms
 induction ms with
 |nil=>intro s ts s' e;erw[mArgs,rt,Res.ok.injEq] at e;rw[<-e.1];rfl
 |cons m ms ih=>
  intro s ts s' e
  erw[mArgs,bd,psh] at e
  cases e1:m s with
  |ok t s1=>
   erw[e1] at e
   cases e2:mArgs ms (s1.psh t) with
   |ok ys s2=>
    erw[e2,pop] at e
    cases e3:s2.tm with
    |nil=>erw[e3] at e;cases e
    |cons o r=>
     cases o with
     |none=>erw[e3] at e;cases e
     |some t'=>
      erw[e3,rt,Res.ok.injEq] at e
      rw[<-e.1,i7,i7,ih _ _ _ e2]
   |ex d s2=>erw[e2] at e;cases e
   |no=>erw[e2] at e;cases e
  |ex d s1=>erw[e1] at e;cases e
  |no=>erw[e1] at e;cases e
theorem se_call{X:Cx}{e:Expr}{es:List Expr}{pos p:Pos}{CX:CXT}{k:Nat}{fa:Addr}{fd:FuncData}{ps:List Str}{x:Str}{E:XK}{f:FM}{ms:List (M D)}(hk:X.K=G.K)(Fn:u2 X.prog X.w X.K X.mg X.base CX k fa fd ps (spM G ps.length f))(hr:z2q k X.A)(hg:Gl X x)(hm:X.mg x=some (.ref fa))(hkp:W.keepIn X.K (.ref fa)=true)(hb:z2D X.K fd ps [])(hx:z3x CX X E)
 (ha:SA X G F (e::es) (mArgs ms)) (hln:ms.length=ps.length) (hdb:(x==("__debug__" :Str))=false:=by decide) (he:starEach (e::es) X.env=(false,eval e X.env)::starEach es X.env:=by rfl) (hpl:(backTo pos (starEach es X.env)).any (·.1)=false:=by rfl):
 SE X G F (.Call (.Name x p) (e::es) [] pos) (mCall f ms):=by
 refine PE.imp0 (zdv Fn hr hg hm hkp hb .nil hx ha hdb he hpl) fun σ H Q ⟨tv,hs,ρ,s,M,W⟩=>⟨tv,hs,ρ,s,M, ?_⟩
 unfold mCall bd at W
 cases e1:mArgs ms s with
 |ex d s1=>rw[e1] at W;exact W
 |no=>rw[e1] at W;exact W
 |ok ts s1=>
  rw[e1] at W
  intro ρ1 vs H1 M1
  rw[i9]
  exact z9J (by rw[<-M1.rd.length,z69 ms s ts s1 e1,hln]) M1 W
noncomputable def z0Z(nl:Nat)(mb:MS):FM:=fun ts n=>match mb {σ:=ts.map some++l7 (nl -ts.length) none,tm:=ts.map some,n:=n} with
 | .nx s'=>match Z5 s'.tm with|some ts'=> .ok .non ts' s'.n|none=> .no
 | .rt t s'=>match Z5 s'.tm with|some ts'=> .ok t ts' s'.n|none=> .no
 | .ex d s'=>match Z5 s'.tm with|some ts'=> .ex d ts' s'.n|none=> .no
 |_=> .no
noncomputable def z8v(G:Gx)(ρ:Nat->Addr)(n:Nat)(ts:List D)(vs:List V)(H:Hp)(lb: ∀l∈labsL ts,l<n)(dom: ∀l,l<n->∃o,H (ρ l)=some o):Fy where
 A0:=fun a=> ∃l∈labsL ts,a=ρ l
 H0:=H
 Z:=fun a=>(∃o,H a=some o)/\∀l,l<n->a≠ρ l
 zA:=fun a z=>⟨z.1,fun⟨l,hl,e⟩=>z.2 l (lb l hl) e⟩
 aH:=fun a ⟨l,hl,e⟩=>e▸dom l (lb l hl)
 n0:=n
 ρ0:=ρ
 tv0:=vs.map some
 xw:=fun _ _=>False
theorem RDs.sl: ∀{ts:List D} {vs:List V},RDs G ρ H ts vs->Sl G ρ H (ts.map some) (vs.map some)/\Z4 (ts.map some)=labsL ts
 |[],vs,h=>by erw[RDs] at h;subst h;simp[Sl,Z4,labsL]
 |d::ds,vs,h=>by
  erw[RDs] at h
  obtain⟨x,q,rfl,h1,h2⟩:=h
  obtain⟨q1,q2⟩:=RDs.sl h2
  refine⟨?_,by erw[l6,Z4,labsL,q2]⟩
  erw[l6,Sl]
  exact⟨_,_,rfl,h1,q1⟩
theorem z2v{ts ts':List D}{vs:List V}{n:Nat}{lb: ∀l∈labsL ts,l<n}{dom: ∀l,l<n->∃o,H (ρ l)=some o}(inj: ∀i j,i<n->j<n->ρ i=ρ j->i=j)(M:MR G (z8v G ρ n ts vs H lb dom).toFx ρ' H' σv (vs.map some) s)(e:Z5 s.tm=some ts'):
 z4Y G ρ n ts vs H ρ' s.n ts' H'/\∀l,l<s.n->((z8v G ρ n ts vs H lb dom).A0 (ρ' l)\/H (ρ' l)=none)->l<n->l∈labsL ts:=by
 have own: ∀l,l<s.n->((z8v G ρ n ts vs H lb dom).A0 (ρ' l)\/H (ρ' l)=none)->l<n->l∈labsL ts:=fun l hl q hn=>by
  have ol:=M.bas.2 l hn
  have ol:ρ' l=ρ l:=ol
  rcases q with⟨j,hj,q⟩|q
  ·rw[ol] at q
   rw[inj l j hn (lb j hj) q];exact hj
  ·rw[ol] at q
   obtain⟨o,z⟩:=dom l hn
   rw[z] at q;cases q
 obtain⟨r1,r2⟩:=Sl.all M.tm e
 refine⟨⟨M.bas.2,M.bas.1,M.inj,M.dom,r1,fun l hl=> ?_,fun a o e1=> ?_,fun l h1 h2=> ?_,M.kd⟩,own⟩
 ·rw[r2] at hl
  have m:l∈G1 s:=b9 _ hl
  exact⟨M.lab l m,own l (M.lab l m) (M.own l m)⟩
 ·obtain⟨q1,q2⟩:=M.frm a o e1
  exact⟨q1,fun z=>q2 fun⟨l,hl,e⟩=>z l hl e⟩
 ·cases q:H (ρ' l) with
  |none=>rfl
  |some o=>
   refine absurd ⟨⟨o,q⟩,fun j hj e=> ?_⟩ (M.frb l h2)
   have oj:ρ' j=ρ j:=M.bas.2 j hj
   have:=M.inj l j h2 (r8 hj M.bas.1) (e.trans oj.symm)
   lia
theorem fn_M{P:Program}{w:World}{K:W.Frag}{mg:Str->Option Value}{base:Heap}{x qual:Str}{st:Stmt}{fa:Addr}{fd:FuncData}{N ps:List Str}{k:Nat}{mb:MS}(Fn:Fun K x qual st fa fd)(S:Z3 N ps (y2 st))(hG:G.K=K)
 (hb: ∀(cdv:Value) (A:Around) (outer:List Env) (s:Shared) (H:Hp) (E:XK) (F:Fy),z2q k (A.deeper (envOfC qual (y2 st) s.heap.objs.size fa cdv))->SSs (z37 CX0 P w K mg base N qual (y2 st) fa cdv A outer s H E).nox G F (U0 st) mb):
 u2 P w K mg base CX0 (k+1) fa fd ps (spM G ps.length (z0Z N.length mb)):=by
 refine Fn.ok S (fun vs H Q E h=>h.1) fun cdv A outer s H vs Q E hr h=> ?_
 obtain⟨hl,ρ,n,ts,r,inj,dom,lb,kd,W⟩:=h
 refine⟨_,hb cdv A outer s H E (z8v G ρ n ts vs H lb dom) hr,vs.map some,P1 _,ρ,{σ:=ts.map some++l7 (N.length -ts.length) none,tm:=ts.map some,n:=n}, ?_, ?_⟩
 ·obtain⟨r1,r2⟩:=RDs.sl r
  have hlen:=r.length
  have sub: ∀l∈G1 {σ:=ts.map some++l7 (N.length -ts.length) none,tm:=ts.map some,n:=n},l∈labsL ts:=fun l h=>by
   rcases i5.mp h with h|h
   ·have h:l∈Z4 (ts.map some++l7 (N.length -ts.length) none):=h
    rw[Y0] at h
    rcases i5.mp h with h|h
    ·rw[<-r2];exact h
    ·exact absurd h (z2u _)
   ·rw[<-r2];exact h
  refine⟨?_,r1,inj,dom,fun l h=>lb l (sub l h),fun l h=> .inl ⟨l,sub l h,rfl⟩,fun a o e=>⟨⟨o,e⟩,fun _=>e⟩,kd,fun l hl z=>z.2 l hl rfl,⟨c9 _,fun l _=>rfl⟩⟩
  show Sl G ρ H _ (vs.map some++l7 (N.length -vs.length) none)
  rw[<-hlen]
  exact r1.append (Sl.none_map _)
 ·unfold z0Z at W
  cases e:mb {σ:=ts.map some++l7 (N.length -ts.length) none,tm:=ts.map some,n:=n} with
  |nx s'=>
   erw[e] at W
   cases ea:Z5 s'.tm with
   |none=>erw[ea] at W
   |some ts'=>
    erw[ea] at W
    intro ρ' σv' H' M
    obtain⟨P,_⟩:=z2v inj M ea
    exact W ρ' .non H' P (by erw[RD]) fun l h=>by simp[y4] at h
  |rt t s'=>
   erw[e] at W
   cases ea:Z5 s'.tm with
   |none=>erw[ea] at W
   |some ts'=>
    erw[ea] at W
    intro ρ' σv' v H' M
    obtain⟨P,own⟩:=z2v inj M.m ea
    exact W ρ' v H' P M.rd1 fun l h=>⟨(M.lb1 l h).1,own l (M.lb1 l h).1 (M.lb1 l h).2⟩
  |bk s'=>erw[e] at W
  |ct s'=>erw[e] at W
  |ex d s'=>
   erw[e] at W
   cases ea:Z5 s'.tm with
   |none=>erw[ea] at W
   |some ts'=>erw[ea] at W
  |no=>erw[e] at W
end
mutual
noncomputable def sz:D->Nat
 | .tup ds=>szL ds+1
 | .ro ds=>szL ds+1
 | .fdc _ vs=>szL vs+1
 | .lst _ ds=>szL ds+1
 | .dct _ _ vs=>szL vs+1
 | .obj _ _ _ vs=>szL vs+1
 | .non=>1| .bool _=>1| .int _=>1| .str _=>1| .exc _=>1| .fn _=>1
noncomputable def szL:List D->Nat
 |[]=>0
 |d::ds=>sz d+szL ds
end
mutual
theorem zbC(l:Nat): ∀(t d:D),W6 l t=some d->sz d<=sz t
 | .non,d,e=>by erw[W6] at e;cases e
 | .bool b,d,e=>by erw[W6] at e;cases e
 | .int b,d,e=>by erw[W6] at e;cases e
 | .str b,d,e=>by erw[W6] at e;cases e
 | .exc b,d,e=>by erw[W6] at e;cases e
 | .fn b,d,e=>by erw[W6] at e;cases e
 | .tup ds,d,e=>by erw[W6,sz] at e⊢;have:=findL_sz l ds d e;lia
 | .ro ds,d,e=>by erw[W6,sz] at e⊢;have:=findL_sz l ds d e;lia
 | .fdc ks vs,d,e=>by erw[W6,sz] at e⊢;have:=findL_sz l vs d e;lia
 | .lst k ds,d,e=>by
  erw[W6] at e
  by_cases h:k=l
  ·rw[if_pos h] at e;cases e;exact c9 _
  ·rw[if_neg h] at e;erw[sz];have:=findL_sz l ds d e;lia
 | .dct k ks vs,d,e=>by
  erw[W6] at e
  by_cases h:k=l
  ·rw[if_pos h] at e;cases e;exact c9 _
  ·rw[if_neg h] at e;erw[sz];have:=findL_sz l vs d e;lia
 | .obj k c ns vs,d,e=>by
  erw[W6] at e
  by_cases h:k=l
  ·rw[if_pos h] at e;cases e;exact c9 _
  ·rw[if_neg h] at e;erw[sz];have:=findL_sz l vs d e;lia
theorem findL_sz(l:Nat): ∀(t:List D) (d:D),findL l t=some d->sz d<=szL t
 |[],d,e=>by erw[findL] at e;cases e
 |t::ts,d,e=>by
  erw[findL] at e
  erw[szL]
  cases e1:W6 l t with
  |some y=>rw[e1] at e;cases e;have:=zbC l t _ e1;lia
  |none=>rw[e1] at e;have:=findL_sz l ts d e;lia
end
section
variable{G:Gx}{F:Fy}{ρ:Nat->Addr}{H:Hp}{σv tv:List (Option V)}{s:Stt}{t:D}{ts ds es:List D}{v:V}{vs xs ys:List V}{l:Nat}{Q:VK}
theorem z6P(M:MR G F.toFx ρ H σv tv s)(h:RD G ρ H (.lst l ds) v)(lb: ∀j∈y4 (.lst l ds),j<s.n):l∉labsL ds:=fun hl=>by
 have h0:=h
 erw[RD] at h0
 obtain⟨rfl,xs,q,r⟩:=h0
 have:=findL_some l ds xs r hl
 cases e:findL l ds with
 |none=>rw[e] at this;cases this
 |some d=>
  obtain⟨q1,q2⟩:=findL_rd l ds xs d r e
  have e2:=RD.uniq M.kd M.inj _ _ _ q1 h (fun j hj=>lb j (by erw[y4];exact i4 _ (q2 j hj))) lb
  have e3:=findL_sz l ds d e
  rw[e2] at e3
  erw[sz] at e3
  lia
theorem MR.put2{o:HO}{d:D}(M:MR G F.toFx ρ H σv tv s)(ln:l<s.n)(ow:F.A0 (ρ l)\/F.H0 (ρ l)=none)(ts:X5 H (upd H (ρ l) o))(k:KD G.K (upd H (ρ l) o))(hd:RD G ρ (upd H (ρ l) o) d (.ref (ρ l)))(hb:LB F.toFx ρ s.n (y4 d)):
 MR G F.toFx ρ (upd H (ρ l) o) σv tv (s.put l d):=by
 have step: ∀k,k∈G1 s->ρ k=ρ k/\(match (if k=l then some d else none:Option D) with|some d=>RD G ρ (upd H (ρ l) o) d (.ref (ρ k))|none=> ∀o',H (ρ k)=some o'->upd H (ρ l) o (ρ k)=some o'):=fun k hk=>by
  refine⟨rfl, ?_⟩
  by_cases e:k=l
  ·rw[if_pos e];subst e;exact hd
  ·rw[if_neg e]
   intro o' q
   rw[Z6 (fun z=>e (M.inj k l (M.lab k hk) ln z))]
   exact q
 have sub: ∀(xs:List (Option D)) (j:Nat),j∈Z4 (rpO (fun k=>if k=l then some d else none) xs)->(∀i∈Z4 xs,i∈G1 s)->j<s.n/\(F.A0 (ρ j)\/F.H0 (ρ j)=none):=fun xs j h hx=>by
  rcases z3p j xs h with q|⟨k,d',q1,q2,q3⟩
  ·exact⟨M.lab j (hx j q),M.own j (hx j q)⟩
  ·by_cases e:k=l
   ·rw[if_pos e] at q2;cases q2;exact hb j q3
   ·rw[if_neg e] at q2;cases q2
 have all: ∀j∈G1 (s.put l d),j<s.n/\(F.A0 (ρ j)\/F.H0 (ρ j)=none):=fun j h=>by
  rcases i5.mp h with h|h
  ·exact sub s.σ j h fun i hi=>i3 _ hi
  ·exact sub s.tm j h fun i hi=>b9 _ hi
 refine⟨Sl.rp ts M.sl fun k hk=>step k (i3 _ hk),Sl.rp ts M.tm fun k hk=>step k (b9 _ hk),M.inj,fun k hk=> ?_,fun j h=>(all j h).1,fun j h=>(all j h).2,fun a o' e=> ?_,k,M.frb,M.bas⟩
 ·by_cases e:ρ k=ρ l
  ·rw[e];exact⟨o,Y2⟩
  ·rw[Z6 e];exact M.dom k hk
 ·obtain⟨⟨o1,e1⟩,e2⟩:=M.frm a o' e
  by_cases ea:a=ρ l
  ·subst ea
   refine⟨⟨o,Y2⟩,fun n=> ?_⟩
   rcases ow with q|q
   ·exact absurd q n
   ·rw[e] at q;cases q
  ·rw[Z6 ea]
   exact⟨⟨o1,e1⟩,e2⟩
theorem zgk{o o':HO}{a:Addr}(k:KD G.K H)(e:H a=some o):KD G.K (upd H a o'):=fun b ob q=>by
 by_cases h:b=a
 ·subst h;rw[k _ _ q] at e;cases e
 ·rw[Z6 h];exact k _ _ q
theorem z6a{o':HO}{a:Addr}{xs:List V}(e:H a=some (.lst xs)):X5 H (upd H a o'):=
 ⟨fun b ys q=>by rw[Z6 (zb6 q e (by intro z;cases z))];exact q,fun b o u q=>by rw[Z6 (zb6 q e (by intro z;cases z))];exact q⟩
theorem RDs.upd{o:HO}{a:Addr}(st:X5 H (upd H (ρ l) o))(inj: ∀i j,i<s.n->j<s.n->ρ i=ρ j->i=j)(ln:l<s.n)(r:RDs G ρ H ds xs)(lb: ∀j∈labsL ds,j<s.n/\j≠l):RDs G ρ (L2.upd H (ρ l) o) ds xs:=
 RDs.stay st ds xs r fun j hj=>⟨rfl,fun o' e=>by rw[Z6 (fun z=>(lb j hj).2 (inj j l (lb j hj).1 ln z))];exact e⟩
theorem MR.putL(M:MR G F.toFx ρ H σv tv s)(hl:H (ρ l)=some (.lst xs))(ln:l<s.n)(ow:F.A0 (ρ l)\/F.H0 (ρ l)=none)(r:RDs G ρ H es ys)(lb:LB F.toFx ρ s.n (labsL es))(ne:l∉labsL es):
 MR G F.toFx ρ (upd H (ρ l) (.lst ys)) σv tv (s.put l (.lst l es)):=by
 refine M.put2 ln ow (z6a hl) (zgk M.kd hl) ?_ fun j hj=> ?_
 ·erw[RD]
  exact⟨trivial,ys,Y2,RDs.upd (a:=0) (z6a hl) M.inj ln r fun j hj=>⟨(lb j hj).1,fun z=>ne (z▸hj)⟩⟩
 ·erw[y4] at hj
  rcases i8.mp hj with q|q
  ·rw[q];exact⟨ln,ow⟩
  ·exact lb j q
end
noncomputable def z6H:D->List D->M D
 | .lst l ds,[y]=>fun s=>if ds.length<sizeLine/\l∉y4 y then .ok .non (s.put l (.lst l (ds++[y]))) else .no
 |_,_=>fl
noncomputable def zb0:D->List D->M D
 | .lst l ds,[y]=>fun s=>match z4S y with
  |some es=>if ds.length+es.length<=sizeLine/\l∉labsL es then .ok .non (s.put l (.lst l (ds++es))) else .no
  |none=> .no
 |_,_=>fl
noncomputable def isL(x:D):M Unit:=fun s=>match zaY x with|some _=> .ok () s|none=> .no
noncomputable def z0w(mo:M D)(ms:List (M D))(g:D->List D->M D):M D:=bd mo fun x=>bd (isL x) fun _=>bd (psh x) fun _=>bd (mArgs ms) fun ys=>bd pop fun x'=>g x' ys
section
variable{X:Cx}{G:Gx}{F:Fy}{e o:Expr}{es:List Expr}{apos cpos:Pos}
noncomputable def zgl(G:Gx)(F:Fy)(r:V->List V->Hp->VK->Prop)(g:D->List D->M D):Prop:= ∀ρ s t ts v vs H σv tv Q,MRL G F.toFx ρ H σv tv s (t::ts) (v::vs)->wM G F σv tv (g t ts s) Q->r v vs H (fun w H'=>KD G.K H'->Q w H')
theorem MRL.hd{ρ:Nat->Addr}{H:Hp}{σv tv:List (Option V)}{s:Stt}{t:D}{ts:List D}{v:V}{vs:List V}(M:MRL G F.toFx ρ H σv tv s (t::ts) (v::vs)):RD G ρ H t v/\RDs G ρ H ts vs/\LB F.toFx ρ s.n (y4 t)/\LB F.toFx ρ s.n (labsL ts):=by
 have h:=M.rd
 erw[RDs] at h
 obtain⟨_,_,e,h1,h2⟩:=h
 cases e
 exact⟨h1,h2,fun l h=>M.lb l (by erw[labsL];exact i3 _ h),fun l h=>M.lb l (by erw[labsL];exact b9 _ h)⟩
theorem zgm:zgl G F z9g z6H:=by
 intro ρ s t ts v vs H σv tv Q M W
 obtain⟨h1,h2,b1,b2⟩:=M.hd
 unfold z6H at W
 split at W
 ·rename_i l ds y
  split at W
  ·rename_i hc
   have h1':=h1
   erw[RD] at h1
   obtain⟨rfl,xs,hx,r⟩:=h1
   erw[RDs] at h2
   obtain⟨u,q,rfl,h2,rfl⟩:=h2
   have ns:=z6P M.m h1' fun j hj=>(b1 j hj).1
   have bl:=b1 l (by erw[y4];exact o0 ..)
   refine⟨_,xs,u,rfl,rfl,hx,by rw[<-r.length];exact hc.1,fun _=>W.out (M.m.putL hx bl.1 bl.2 (r.append (RDs.one h2)) ?_ ?_) (by erw[RD]) fun l h=>by simp[y4] at h⟩
   ·intro j hj
    rw[Q5] at hj
    rcases i5.mp hj with q|q
    ·exact b1 j (by erw[y4];exact i4 _ q)
    ·exact b2 j q
   ·intro hj
    rw[Q5] at hj
    rcases i5.mp hj with q|q
    ·exact ns q
    ·erw[labsL,i9] at q;exact hc.2 q
  ·exact False.elim W
 ·exact wfl W
theorem zgn:zgl G F (zfR G.K) zb0:=by
 intro ρ s t ts v vs H σv tv Q M W
 obtain⟨h1,h2,b1,b2⟩:=M.hd
 unfold zb0 at W
 split at W
 ·rename_i l ds y
  cases ey:z4S y with
  |none=>erw[ey] at W;exact False.elim W
  |some es=>
   erw[ey] at W
   split at W
   ·rename_i hc
    have h1':=h1
    erw[RD] at h1
    obtain⟨rfl,xs,hx,r⟩:=h1
    erw[RDs] at h2
    obtain⟨u,q,rfl,h2,rfl⟩:=h2
    obtain⟨a,ys,rfl,sq,r2,sub⟩:=h2.seq ey
    have ns:=z6P M.m h1' fun j hj=>(b1 j hj).1
    have bl:=b1 l (by erw[y4];exact o0 ..)
    refine⟨_,a,xs,ys,rfl,rfl,hx,sq.symm,by rw[<-r.length,<-r2.length];exact hc.1,fun _=>W.out (M.m.putL hx bl.1 bl.2 (r.append r2) ?_ ?_) (by erw[RD]) fun l h=>by simp[y4] at h⟩
    ·intro j hj
     rw[Q5] at hj
     rcases i5.mp hj with q|q
     ·exact b1 j (by erw[y4];exact i4 _ q)
     ·exact b2 j (by erw[labsL,i9];exact sub j q)
    ·intro hj
     rw[Q5] at hj
     rcases i5.mp hj with q|q
     ·exact ns q
     ·exact hc.2 q
   ·exact False.elim W
 ·exact wfl W
theorem zbD{T:String}{mo:M D}{ms:List (M D)}{g:D->List D->M D}{r:V->List V->Hp->VK->Prop}{σ:L2.St}{H:Hp}{Q:VK}(hT:T= "list")(hg:zgl G F r g)(h:tM G F (z0w mo ms g) σ H Q):
 tM G F mo σ H fun x H1=>tyV G.K T x H1/\tML G F (mArgs ms) σ H1 fun xs H2=>r x xs H2 fun w H'=>KD G.K H'->Q w H':=by
 obtain⟨tv,h⟩:=h
 have hs:=h.1
 refine⟨tv,(z3G h).mono fun v H1 ⟨ρ1,s1,t,M1,W⟩=> ?_⟩
 erw[bd,isL] at W
 cases e1:zaY t with
 |none=>erw[e1] at W;exact False.elim W
 |some ds=>
  erw[e1,psh] at W
  obtain⟨a,xs,rfl,sq,_⟩:=M1.rd1.lstq e1
  refine⟨.inl ⟨hT,xs,sq⟩,some (.ref a)::tv,z8R hs,ρ1,s1.psh t,M1.push, ?_⟩
  cases e2:mArgs ms (s1.psh t) with
  |ex d s2=>erw[e2] at W;exact W
  |no=>erw[e2] at W;exact W
  |ok ys s2=>
   erw[e2,pop] at W
   intro ρ2 us H2 M2
   cases e3:s2.tm with
   |nil=>erw[e3] at W;exact False.elim W
   |cons o r=>
    cases o with
    |none=>erw[e3] at W;exact False.elim W
    |some t'=>
     erw[e3] at W
     exact hg _ _ _ _ _ _ _ _ _ _ (M2.down e3) W
theorem zdV{name:Str}{id:String}{r:V->List V->Hp->VK->Prop}{mo:M D}{ms:List (M D)}{g:D->List D->M D}(hk:X.K=G.K)(slot:Slot "list" name id)(hty:typeOf (.builtin id)=pure (.type "method_descriptor"))(hm:MtR X id r)(hg:zgl G F r g)(ho:SE X G F o mo)(ha:SA X G F (e::es) (mArgs ms))
 (hbase:attributeBase o name X.env (eval o X.env)=eval o X.env:=by rfl)
 (hfew:((backTo cpos (starEach (e::es) X.env)).all (fun x=> !x.1)&&(backToKw cpos (keywordEach [] X.env)).all (fun x=>x.1.isSome)
  &&decide ((e::es).length+([]:List Keyword).length+(if([]:List Keyword).isEmpty then 0 else 1)<30))=true:=by rfl)
 (hline:(apos.endLine==cpos.line)=true:=by rfl) (hs:starEach (e::es) X.env=(false,eval e X.env)::starEach es X.env:=by rfl) (hplain:(backTo cpos (starEach es X.env)).any (·.1)=false:=by rfl):SE X G F (.Call (.Attribute o name apos) (e::es) [] cpos) (z0w mo ms g):=by
 refine PE.imp hk (zfK PySem.F.plainAttrs_list slot hty hm ho ha hbase hfew hline hs hplain) fun σ H Q h=> ?_
 rw[hk]
 exact zbD rfl hg h
noncomputable def setD(o i v:D):MS:=fun s=>match o,i with
 | .lst l ds, .int k=>match ixN ds.length k with
  |some j=>if l∉y4 v then .nx (s.put l (.lst l (ds.set j v))) else .no
  |none=> .no
 |_,_=> .no
noncomputable def mTri(me mo mi:M D)(g:D->D->D->MS):MS:=z1I me fun v=>z1I (psh v) fun _=>z1I mo fun o=>z1I (psh o) fun _=>z1I mi fun i=>z1I pop fun o'=>z1I pop fun v'=>g o' i v'
theorem z7G{mo mi:M D}{g:D->D->D->MS}{tv:List (Option V)}{Dd:z5R}{σ:L2.St}{H1:Hp}{ρ1:Nat->Addr}{s1:Stt}{t:D}{v:V}(hs:F.tv0<:+tv)(M1:MRL G F.toFx ρ1 H1 σ tv s1 [t] [v])
 (W:wS G F tv ((z1I (psh t) fun _=>z1I mo fun o=>z1I (psh o) fun _=>z1I mi fun i=>z1I pop fun o'=>z1I pop fun v'=>g o' i v') s1) Dd):
 tM G F mo σ H1 fun o H2=>tM G F mi σ H2 fun i H3=> ∃ρ s t1 t2 t3,MRL G F.toFx ρ H3 σ tv s [t1,t2,t3] [v,o,i]/\wS G F tv (g t2 t3 t1 s) Dd:=by
 refine⟨some v::tv,z8R hs,ρ1,s1.psh t,M1.push, ?_⟩
 erw[z1I,psh] at W
 cases e1:mo (s1.psh t) with
 |ex d s2=>erw[e1] at W;exact W
 |no=>erw[e1] at W;exact W
 |ok o s2=>
  erw[e1] at W
  intro ρ2 u H2 M2
  refine⟨some u::some v::tv,z8R (z8R hs),ρ2,s2.psh o,M2.push, ?_⟩
  cases e2:mi (s2.psh o) with
  |ex d s3=>erw[e2] at W;exact W
  |no=>erw[e2] at W;exact W
  |ok i s3=>
   erw[e2,pop] at W
   intro ρ3 w H3 M3
   cases e3:s3.tm with
   |nil=>erw[e3] at W;exact False.elim W
   |cons o3 r3=>
    cases o3 with
    |none=>erw[e3] at W;exact False.elim W
    |some x3=>
     erw[e3] at W
     cases r3 with
     |nil=>exact False.elim W
     |cons o4 r4=>
      cases o4 with
      |none=>exact False.elim W
      |some x4=>
       have M4:=M3.down e3
       have M5:=M4.down (s':={s3 with tm:=some x4::r4}) rfl
       exact⟨ρ3,_,x4,x3,i,M5,W⟩
theorem zdW{me mo mi:M D}{g:D->D->D->MS}{tv:List (Option V)}{Dd:z5R}{σ:L2.St}{H:Hp}(h:tSv G F (mTri me mo mi g) tv Dd σ H):
 tM G F me σ H fun v H1=>tM G F mo σ H1 fun o H2=>tM G F mi σ H2 fun i H3=> ∃ρ s t1 t2 t3,MRL G F.toFx ρ H3 σ tv s [t1,t2,t3] [v,o,i]/\wS G F tv (g t2 t3 t1 s) Dd:=
 ⟨tv,(z0u h).mono fun v H1 ⟨ρ1,s1,t,M1,W⟩=>z7G h.1 M1 W⟩
theorem zcz{ρ:Nat->Addr}{s:Stt}{t1 t2 t3:D}{v o i:V}{H:Hp}{σv tv:List (Option V)}{Dd:z5R}(M:MRL G F.toFx ρ H σv tv s [t1,t2,t3] [v,o,i])(W:wS G F tv (setD t2 t3 t1 s) Dd):z47 o i v H fun H'=>Dd.nx σv H':=by
 have h:=M.rd
 erw[RDs] at h
 obtain⟨_,_,e,h1,_,_,e2,h2,_,_,e3,h3,_⟩:=h
 cases e;cases e2;cases e3
 have b1:LB F.toFx ρ s.n (y4 t1):=fun l h=>M.lb l (by erw[labsL];exact i3 _ h)
 have b2:LB F.toFx ρ s.n (y4 t2):=fun l h=>M.lb l (by erw[labsL];exact b9 _ (i3 _ h))
 cases t2 with
 |lst l ds=>
  cases t3 with
  |int k=>
   erw[setD] at W
   cases ek:ixN ds.length k with
   |none=>erw[ek] at W;exact False.elim W
   |some j=>
    erw[ek] at W
    by_cases hc:l∉y4 t1
    ·rw[if_pos hc] at W
     have h2':=h2
     erw[RD] at h2 h3
     obtain⟨rfl,xs,hx,r⟩:=h2
     subst h3
     have ns:=z6P M.m h2' fun j hj=>(b2 j hj).1
     have bl:=b2 l (by erw[y4];exact o0 ..)
     have mm: ∀q,q∈labsL (ds.set j t1)->q∈labsL ds\/q∈y4 t1:=fun q hq=>by
      obtain⟨d,h1,h2⟩:=X6 hq
      rcases O0 h1 with z|z
      ·exact .inl (labsL_mem z q h2)
      ·subst z;exact .inr h2
     refine⟨_,xs,k,j,rfl,rfl,hx,by rw[<-r.length];exact ek,W ρ σv _ (M.m.putL hx bl.1 bl.2 (r.set j h1) (fun q hq=> ?_) fun hq=> ?_)⟩
     ·rcases mm q hq with z|z
      ·exact b2 q (by erw[y4];exact i4 _ z)
      ·exact b1 q z
     ·rcases mm l hq with z|z
      ·exact ns z
      ·exact hc z
    ·rw[if_neg hc] at W;exact False.elim W
  |_=>exact False.elim W
 |_=>exact False.elim W
theorem ss_setI{ob ix:Expr}{pos tpos:Pos}{mo mi me:M D}(he:SE X G F e me)(ho:SE X G F ob mo)(hi:SE X G F ix mi)(hg: ∀{to ti:TE},PE X ob to->PE X ix ti->PG X (.Subscript ob ix tpos) (zcn to ti z47))(hs:swapsWithSole [.Subscript ob ix tpos] e pos.line X.env=pure false:=by rfl)(hw:swappedStores [.Subscript ob ix tpos] e X.env=pure none:=by rfl)
 (h1:(assignEach [.Subscript ob ix tpos] X.env).map (·.2)=[assign (.Subscript ob ix tpos) X.env]:=by rfl):SS X G F (.Assign [.Subscript ob ix tpos] e pos) (mTri me mo mi setD):=by
 refine PS.imp0 (z91 he (hg ho hi) hs hw h1) fun Dd σ H ⟨tv,h⟩=> ?_
 exact(zdW h).mono fun v H1 h1=>h1.mono fun o H2 h2=>h2.mono fun i H3 ⟨ρ,s,t1,t2,t3,M,W⟩=>zcz M W
end
end Mi
namespace Mi
open PySem L2
section
variable{X:Cx}{G:Gx}{F:Fy}{e a b c:Expr}{pos:Pos}{ma mb mc m:M D}
theorem se_add(hk:X.K=G.K)(ha:SE X G F a ma)(hb:SE X G F b mb):SE X G F (.BinOp a .Add b pos) (y3 ma mb W8):=
 z6L hk (r:=fun x y H Q=>rI0 (fun i j=> .int (i+j)) x y H Q\/z9n G.K x y H Q\/zfL x y H Q\/∃i j,x= .str i/\y= .str j/\i.length+j.length<=sizeLine/\Q (.str (i++j)) H) (hk▸OpR.or zcq (OpR.or z9o (OpR.or zcs z4s))) zcu ha hb
theorem se_sub(hk:X.K=G.K)(ha:SE X G F a ma)(hb:SE X G F b mb):SE X G F (.BinOp a .Sub b pos) (y3 ma mb zbo):=z6L hk zft zfV ha hb
theorem se_mul(hk:X.K=G.K)(ha:SE X G F a ma)(hb:SE X G F b mb):SE X G F (.BinOp a .Mult b pos) (y3 ma mb z5O):=z6L hk (r:=fun x y H Q=>rI zbd (fun i j=> .int (i*j)) x y H Q\/(zjp x y H Q\/zdG G.K x y H Q)) (OpR.or zfu (OpR.or zfM (hk▸zdH))) zg2 ha hb
theorem se_fdiv(hk:X.K=G.K)(ha:SE X G F a ma)(hb:SE X G F b mb):SE X G F (.BinOp a .FloorDiv b pos) (y3 ma mb z66):=z6L hk zdr zdM ha hb
theorem se_mod(hk:X.K=G.K)(ha:SE X G F a ma)(hb:SE X G F b mb):SE X G F (.BinOp a .Mod b pos) (y3 ma mb z49):=z6L hk zfv zfW ha hb
theorem se_pow(hk:X.K=G.K)(ha:SE X G F a ma)(hb:SE X G F b mb):SE X G F (.BinOp a .Pow b pos) (y3 ma mb z9v):=z6L hk zfw zfX ha hb
theorem se_neg(hk:X.K=G.K)(ha:SE X G F a ma):SE X G F (.UnaryOp .USub a pos) (bd ma z8S):=zjt hk zfx zg1 ha
structure Cm(X:Cx)(G:Gx)(F:Fy)(op:CmpOp)(g:D->D->M D):Prop where
 h: ∃r,OpR X (compareOp op) r/\z01 G F r g
theorem z2J:Cm X G F .Lt ltD:=⟨_,zjg,zjv⟩
theorem z3k:Cm X G F .LtE leD:=⟨_,zjh,zjw⟩
theorem zdX:Cm X G F .Gt gtD:=⟨_,zji,zjx⟩
theorem z50(hk:X.K=G.K)(hu:X.A.units+64<cLine):Cm X G F .Eq eqD:=⟨_,hk▸zfO hu,zjy⟩
theorem z8w(hk:X.K=G.K)(hu:X.A.units+64<cLine):Cm X G F .NotEq neD:=⟨_,hk▸zfP hu,zjz⟩
theorem zjG(hk:X.K=G.K)(hu:X.A.units+64<cLine):Cm X G F .In inD:=⟨_,hk▸zfQ hu,zjA⟩
theorem zgo(hk:X.K=G.K)(hu:X.A.units+64<cLine):Cm X G F .NotIn zct:=⟨_,hk▸z9j hu,zfY⟩
theorem zcA:Cm X G F .Is isN:=⟨_,zfy,zfZ⟩
theorem se_cmp{op:CmpOp}{g:D->D->M D}(hc:Cm X G F op g)(ha:SE X G F a ma)(hb:SE X G F b mb)(hm:behindInMarks op b=false):SE X G F (.Compare a [op] [b] pos) (y3 ma mb g):=by
 obtain⟨r,h1,h2⟩:=hc.h
 exact zdK h1 h2 ha hb hm
theorem sb_cmp{op:CmpOp}{g:D->D->M D}(hc:Cm X G F op g)(ha:SE X G F a ma)(hb:SE X G F b mb)(hm:behindInMarks op b=false):SB X G F (.Compare a [op] [b] pos) (W5 (y3 ma mb g)):=by
 obtain⟨r,h1,h2⟩:=hc.h
 exact zdO h1 h2 ha hb hm
theorem se_cmp2{op op':CmpOp}{g g':D->D->M D}(hc:Cm X G F op g)(hc':Cm X G F op' g')(ha:SE X G F a ma)(hb:SE X G F b mb)(hcc:SE X G F c mc)(hm:lastMarks [op,op'] [b,c]=false:=by with_unfolding_all rfl):SE X G F (.Compare a [op,op'] [b,c] pos) (Q9 ma mb mc g g'):=by
 obtain⟨r,h1,h2⟩:=hc.h
 obtain⟨r',h1',h2'⟩:=hc'.h
 exact zbq h1 h2 h1' h2' ha hb hcc hm
theorem sb_cmp2{op op':CmpOp}{g g':D->D->M D}(hc:Cm X G F op g)(hc':Cm X G F op' g')(ha:SE X G F a ma)(hb:SE X G F b mb)(hcc:SE X G F c mc)(hm:lastMarks [op,op'] [b,c]=false:=by with_unfolding_all rfl):SB X G F (.Compare a [op,op'] [b,c] pos) (W5 (Q9 ma mb mc g g')):=by
 obtain⟨r,h1,h2⟩:=hc.h
 obtain⟨r',h1',h2'⟩:=hc'.h
 exact zbr h1 h2 h1' h2' ha hb hcc hm
theorem se_idx(hk:X.K=G.K)(ha:SE X G F a ma)(hb:SE X G F b mb)(hs:z2E b):SE X G F (.Subscript a b pos) (y3 ma mb ixD):=zju hk (hk▸IxR.or zdB zfI) zjB ha hb hs
structure Cb(X:Cx)(G:Gx)(F:Fy)(f:Value)(g:List D->M D):Prop where
 h: ∃r,CallR X f r/\V2 G F r g
theorem zgp(hk:X.K=G.K):Cb X G F (.builtin "len") z27:=⟨_,hk▸z38,zcx⟩
theorem zgq:Cb X G F (.builtin "abs") zf3:=⟨_,zbh,zg9⟩
theorem z9K(hc:X.calm=true):Cb X G F (.builtin "min") zbs:=⟨_,z9a hc,zga⟩
theorem zcB(hc:X.calm=true):Cb X G F (.builtin "max") zcv:=⟨_,z99 hc,zgb⟩
theorem z9L(hk:X.K=G.K)(hd:X.A.handled=none):Cb X G F (.builtin "all") zcw:=⟨_,hk▸z9k hd,zgc⟩
theorem zcC:Cb X G F (.type "int") zbt:=⟨_,z5U,zcy⟩
theorem z1J(hk:X.K=G.K):Cb X G F (.type "tuple") z8T:=⟨_,hk▸z9p,zdQ⟩
theorem z6Q(hk:X.K=G.K):Cb X G F (.type "list") z4a:=⟨_,hk▸z62,zbu⟩
theorem se_cb{x:Str}{p:Pos}{es:List Expr}{ms:List (M D)}{g:List D->M D}{id:String}(hk:X.K=G.K)(hc:Cb X G F (.builtin id) g)(hgl:Gl X x)(hm:X.mg x=none)(hv:bootBuiltins x=some (.builtin id))(ha:SA X G F (e::es) (mArgs ms))(hn:x≠ "__name__" :=by decide)(hdb:(x==("__debug__" :Str))=false:=by decide)
 (he:starEach (e::es) X.env=(false,eval e X.env)::starEach es X.env:=by rfl) (hpl:(backTo pos (starEach es X.env)).any (·.1)=false:=by rfl):SE X G F (.Call (.Name x p) (e::es) [] pos) (mCB ms g):=by
 obtain⟨r,h1,h2⟩:=hc.h
 exact zbn hk h1 h2 hgl hm hv ha hn hdb he hpl
theorem se_ct{x:Str}{p:Pos}{es:List Expr}{ms:List (M D)}{g:List D->M D}{T:String}(hk:X.K=G.K)(hc:Cb X G F (.type T) g)(hgl:Gl X x)(hm:X.mg x=none)(hv:bootBuiltins x=some (.type T))(ha:SA X G F (e::es) (mArgs ms))(hn:x≠ "__name__" :=by decide)(hdb:(x==("__debug__" :Str))=false:=by decide)
 (he:starEach (e::es) X.env=(false,eval e X.env)::starEach es X.env:=by rfl) (hpl:(backTo pos (starEach es X.env)).any (·.1)=false:=by rfl):SE X G F (.Call (.Name x p) (e::es) [] pos) (mCB ms g):=by
 obtain⟨r,h1,h2⟩:=hc.h
 exact z9u hk h1 h2 hgl hm hv ha hn hdb he hpl
structure Cl(X:Cx)(G:Gx)(F:Fy)(id:String)(g:D->List D->M D):Prop where
 h: ∃r,MtR X id r/\zgl G F r g
theorem z0o:Cl X G F "list.append" z6H:=⟨_,z3A,zgm⟩
theorem z6b(hk:X.K=G.K):Cl X G F "list.extend" zb0:=⟨_,hk▸zdE,zgn⟩
end
end Mi
namespace Mi
open PySem L2 PySem.Spec PyProof.Rows
end Mi
namespace Mi
open PySem L2
section
variable{X:Cx}{G:Gx}{F:Fy}{e o:Expr}{es:List Expr}{apos cpos:Pos}
theorem se_cl{name:Str}{id:String}{mo:M D}{ms:List (M D)}{g:D->List D->M D}(hk:X.K=G.K)(slot:Slot "list" name id)(hty:typeOf (.builtin id)=pure (.type "method_descriptor"))(hm:Cl X G F id g)(ho:SE X G F o mo)(ha:SA X G F (e::es) (mArgs ms))
 (hbase:attributeBase o name X.env (eval o X.env)=eval o X.env:=by rfl)
 (hfew:((backTo cpos (starEach (e::es) X.env)).all (fun x=> !x.1)&&(backToKw cpos (keywordEach [] X.env)).all (fun x=>x.1.isSome)
  &&decide ((e::es).length+([]:List Keyword).length+(if([]:List Keyword).isEmpty then 0 else 1)<30))=true:=by rfl)
 (hline:(apos.endLine==cpos.line)=true:=by rfl) (hs:starEach (e::es) X.env=(false,eval e X.env)::starEach es X.env:=by rfl) (hplain:(backTo cpos (starEach es X.env)).any (·.1)=false:=by rfl):SE X G F (.Call (.Attribute o name apos) (e::es) [] cpos) (z0w mo ms g):=by
 obtain⟨r,h1,h2⟩:=hm.h
 exact zdV hk slot hty h1 h2 ho ha hbase hfew hline hs hplain
noncomputable def mTmp(k:Nat):M D:=fun s=>match s.tm[k]? with
 |some (some d)=> .ok d s
 |_=> .no
noncomputable def z9M(me mo1 mi1 mo2 mi2:M D):MS:=z1I me fun t=>match t with
 | .tup [d1,d2]=>z1I (psh d1) fun _=>z1I (psh d2) fun _=>Z1 (mTri (mTmp 1) mo1 mi1 setD) (Z1 (mTri (mTmp 0) mo2 mi2 setD) fun s=> .nx (s.popn 2))
 |_=>fun _=> .no
theorem z51(me mo mi:M D)(s:Stt):(∃s',mTri me mo mi setD s= .nx s')\/(∃d s',mTri me mo mi setD s= .ex d s')\/mTri me mo mi setD s= .no:=by
 have hset: ∀(o i v:D) (s:Stt),(∃s',setD o i v s= .nx s')\/setD o i v s= .no:=fun o i v s=>by
  unfold setD
  split
  ·split
   ·split
    ·exact .inl ⟨_,rfl⟩
    ·exact .inr rfl
   ·exact .inr rfl
  ·exact .inr rfl
 unfold mTri z1I
 cases me s with
 |ex d s1=>exact .inr (.inl ⟨d,s1,rfl⟩)
 |no=>exact .inr (.inr rfl)
 |ok v s1=>
  erw[psh]
  cases mo (s1.psh v) with
  |ex d s1=>exact .inr (.inl ⟨d,s1,rfl⟩)
  |no=>exact .inr (.inr rfl)
  |ok o s2=>
   dsimp only
   cases mi (s2.psh o) with
   |ex d s1=>exact .inr (.inl ⟨d,s1,rfl⟩)
   |no=>exact .inr (.inr rfl)
   |ok i s3=>
    dsimp only
    cases pop s3 with
    |ex d s1=>exact .inr (.inl ⟨d,s1,rfl⟩)
    |no=>exact .inr (.inr rfl)
    |ok o' s4=>
     dsimp only
     cases pop s4 with
     |ex d s1=>exact .inr (.inl ⟨d,s1,rfl⟩)
     |no=>exact .inr (.inr rfl)
     |ok v' s5=>
      dsimp only
      rcases hset o' i v' s5 with h|h
      ·exact .inl h
      ·exact .inr (.inr h)
theorem z4x(me mo mi:M D)(s:Stt)(d:D)(s':Stt):mTri me mo mi setD s≠ .rt d s':=fun e=>by rcases z51 me mo mi s with⟨_,h⟩|⟨_,_,h⟩|h<;>rw[h] at e<;>cases e
theorem z4y(me mo mi:M D)(s:Stt)(s':Stt):mTri me mo mi setD s≠ .bk s':=fun e=>by rcases z51 me mo mi s with⟨_,h⟩|⟨_,_,h⟩|h<;>rw[h] at e<;>cases e
theorem z4z(me mo mi:M D)(s:Stt)(s':Stt):mTri me mo mi setD s≠ .ct s':=fun e=>by rcases z51 me mo mi s with⟨_,h⟩|⟨_,_,h⟩|h<;>rw[h] at e<;>cases e
theorem ss_sub2{o1 i1 o2 i2 v:Expr}{pos p1 p2 tpos:Pos}{k}{me mo1 mi1 mo2 mi2:M D}(hk:X.K=G.K)(hc:X.calm=true)(he:SE X G F v me)(h1:SE X G F o1 mo1)(h2:SE X G F i1 mi1)(h3:SE X G F o2 mo2)(h4:SE X G F i2 mi2)
 (hg: ∀{t1 t2 t3 t4:TE},PE X o1 t1->PE X i1 t2->PE X o2 t3->PE X i2 t4->PG X (.Tuple [.Subscript o1 i1 p1, .Subscript o2 i2 p2] k tpos) (zj8 X.K 2 (z8g (zcn t1 t2 z47) (z8g (zcn t3 t4 z47) zfr))))
 (hs:swapsWithSole [.Tuple [.Subscript o1 i1 p1, .Subscript o2 i2 p2] k tpos] v pos.line X.env=pure false:=by rfl) (hw:swappedStores [.Tuple [.Subscript o1 i1 p1, .Subscript o2 i2 p2] k tpos] v X.env=pure none:=by rfl)
 (ha:(assignEach [.Tuple [.Subscript o1 i1 p1, .Subscript o2 i2 p2] k tpos] X.env).map (·.2)=[assign (.Tuple [.Subscript o1 i1 p1, .Subscript o2 i2 p2] k tpos) X.env]:=by rfl):
 SS X G F (.Assign [.Tuple [.Subscript o1 i1 p1, .Subscript o2 i2 p2] k tpos] v pos) (z9M me mo1 mi1 mo2 mi2):=by
 refine PS.imp0 (z91 he (hg h1 h2 h3 h4) hs hw ha) fun Dd σ H ⟨tv,h⟩=>⟨tv,(z0u h).mono fun u H1 ⟨ρ1,s1,t,M1,W⟩=> ?_⟩
 have hsf:=h.1
 cases t with
 |tup ds=>
  match ds,W with
  |[d1,d2],W=>
   obtain⟨a,xs,rfl,sq,r⟩:=M1.rd1.tupq
   erw[RDs] at r
   obtain⟨x1,q,rfl,r1,x2,q',rfl,r2,rfl⟩:=r
   have lb:=M1.lb1
   erw[y4,labsL,i9] at lb
   refine⟨a,[x1,x2],rfl,hk▸sq,rfl,x1,[x2],rfl, ?_⟩
   have W:wS G F tv (Z1 (mTri (mTmp 1) mo1 mi1 setD) (Z1 (mTri (mTmp 0) mo2 mi2 setD) fun s=> .nx (s.popn 2)) ((s1.psh d1).psh d2)) Dd:=W
   have Ma:MRL G F.toFx ρ1 H1 σ tv s1 [d1] [x1]:=⟨M1.m,RDs.one r1,fun l hl=>lb l (i3 _ (by simpa only[labsL,i9] using hl))⟩
   have Mb:MRL G F.toFx ρ1 H1 σ (some x1::tv) (s1.psh d1) [d2] [x2]:=⟨Ma.push,RDs.one r2,fun l hl=>lb l (b9 _ (by simpa only[labsL,i9] using hl))⟩
   have Mp:=Mb.push
   have top: ∀(ρ:Nat->Addr) (Hc:Hp) (σc:L2.St) (s:Stt) (j:Nat) (x:V),MR G F.toFx ρ Hc σc (some x2::some x1::tv) s->(some x2::some x1::tv)[j]? =some (some x)->∀d s',mTmp j s= .ok d s'->s'=s/\MRL G F.toFx ρ Hc σc (some x2::some x1::tv) s [d] [x]:=by
    intro ρ Hc σc s j x M ex d s' e
    erw[mTmp] at e
    cases e1:s.tm[j]? with
    |none=>erw[e1] at e;cases e
    |some o=>
     cases o with
     |none=>erw[e1] at e;cases e
     |some c=>
      erw[e1] at e
      cases e
      obtain⟨v',ev,rv⟩:=M.tm.get j d e1
      rw[ex] at ev;cases ev
      refine⟨rfl,M,RDs.one rv,fun l hl=> ?_⟩
      have m:l∈G1 s:=b9 _ (z1h e1 l (by simpa only[labsL,i9] using hl))
      exact⟨M.lab l m,M.own l m⟩
   have step: ∀(ρ:Nat->Addr) (Hc:Hp) (σc:L2.St) (s:Stt) (j:Nat) (x:V) (mo mi:M D) (Dn:z5R),MR G F.toFx ρ Hc σc (some x2::some x1::tv) s->(some x2::some x1::tv)[j]? =some (some x)->wS G F (some x2::some x1::tv) (mTri (mTmp j) mo mi setD s) Dn->
    tM G F mo σc Hc fun o H2=>tM G F mi σc H2 fun i H3=>z47 o i x H3 fun H'=>Dn.nx σc H':=by
    intro ρ Hc σc s j x mo mi Dn M ex W
    unfold mTri at W
    cases e:mTmp j s with
    |ok d s'=>
     obtain⟨es,Md⟩:=top ρ Hc σc s j x M ex d s' e
     subst es
     erw[z1I,e] at W
     refine(z7G (z8R (z8R hsf)) Md ?_).mono fun o H2 h2=>h2.mono fun i H3 ⟨ρ,s,t1,t2,t3,M,W⟩=>zcz M W
     erw[z1I]
     exact W
    |ex d s'=>erw[mTmp] at e;split at e<;>cases e
    |no=>erw[z1I,e] at W;exact False.elim W
   unfold Z1 at W
   refine step ρ1 H1 σ _ 1 x1 mo1 mi1 {Dd with nx:=fun σ' H'=>z8g (zcn (tM G F mo2) (tM G F mi2) z47) zfr [x2] σ' H' Dd.nx} Mp rfl ?_
   cases e1:mTri (mTmp 1) mo1 mi1 setD ((s1.psh d1).psh d2) with
   |nx s2=>
    erw[e1] at W
    intro ρ2 σ2 H2 M2
    refine⟨x2,[],rfl,step ρ2 H2 σ2 s2 0 x2 mo2 mi2 {Dd with nx:=fun σ' H'=>zfr [] σ' H' Dd.nx} M2 rfl ?_⟩
    cases e2:mTri (mTmp 0) mo2 mi2 setD s2 with
    |nx s3=>
     erw[e2] at W
     intro ρ3 σ3 H3 M3
     exact⟨rfl,W ρ3 σ3 H3 (MR.popn (tvs:=[some x2,some x1]) M3)⟩
    |rt d s3=>exact absurd e2 (z4x _ _ _ _ _ _)
    |bk s3=>exact absurd e2 (z4y _ _ _ _ _)
    |ct s3=>exact absurd e2 (z4z _ _ _ _ _)
    |ex d s3=>erw[e2] at W;exact W
    |no=>erw[e2] at W;exact W
   |rt d s2=>exact absurd e1 (z4x _ _ _ _ _ _)
   |bk s2=>exact absurd e1 (z4y _ _ _ _ _)
   |ct s2=>exact absurd e1 (z4z _ _ _ _ _)
   |ex d s2=>erw[e1] at W;exact W
   |no=>erw[e1] at W;exact W
  |[],W=>exact False.elim W
  |[_],W=>exact False.elim W
  |_::_::_::_,W=>exact False.elim W
 |_=>exact False.elim W
end
inductive SEs(X:Cx)(G:Gx)(F:Fy):List Expr->List (M D)->Prop
 |nil:SEs X G F [] []
 |cons {e:Expr} {m:M D} {es:List Expr} {ms:List (M D)}:SE X G F e m->nst e=true->SEs X G F es ms->SEs X G F (e::es) (m::ms)
theorem sa_of{X:Cx}{G:Gx}{F:Fy}{es:List Expr}{ms:List (M D)}(hk:X.K=G.K)(h:SEs X G F es ms):SA X G F es (mArgs ms):=by
 induction h with
 |nil=>exact zfU hk
 |cons h1 h2 _ ih=>exact zdL hk h1 ih h2
section
variable{X:Cx}{G:Gx}{F:Fy}{a b tg:Expr}{pos:Pos}
noncomputable def zgr(i:Nat):List (Option D)->Option (Option D)
 |some c::_=>(zaY c).map fun ds=>(ds[i]?).map fun d=> .tup [.int i,d]
 |_=>none
noncomputable def zbE:ItK:=⟨1,zgr,z3a⟩
theorem z7H{a:Addr}:zbx G (Ite G.K a) zbE [some (.ref a)]:=by
 intro F ρ H σv tvp tv s i M
 dsimp only[zbE]
 cases e:s.tm.drop tvp.length with
 |nil=>trivial
 |cons o r=>
  cases o with
  |none=>trivial
  |some c=>
   erw[zgr]
   obtain⟨h,lb⟩:=MR.head (s:=s.popn tvp.length) M.popn e
   cases e1:zaY c with
   |none=>trivial
   |some ds=>
    erw[C1]
    obtain⟨a',xs,ea,sq,rr,sub⟩:=h.lstq e1
    cases ea
    cases e2:ds[i]? with
    |none=>
     erw[M9]
     refine⟨xs,sq, ?_⟩
     rw[<-rr.length]
     exact List.getElem?_eq_none_iff.mp e2
    |some d=>
     erw[C1]
     obtain⟨x,ex,rx⟩:=rr.get i d e2
     refine⟨⟨xs,x,sq,ex⟩, ?_⟩
     rintro x' H' ⟨p,y,hp,rfl,rfl,hx,kd⟩
     rw[hx xs sq] at ex
     cases ex
     have sm:=z39.new (.tup [.int i,x]) hp
     refine⟨M.same sm kd,RDs.one ?_,fun l hl=>lb l (sub l (labsL_mem (List.mem_of_getElem? e2) l (by simpa only[labsL,y4,i9,n5] using hl)))⟩
     erw[RD]
     refine⟨p,_,rfl,Y2, ?_⟩
     have r1:=(RDs.one rx).same sm
     erw[RDs] at r1⊢
     obtain⟨x,r,e,h1,h2⟩:=r1
     cases e
     exact⟨_,_,rfl,by erw[RD],_,_,rfl,h1,rfl⟩
noncomputable def zcD(i:Nat):List (Option D)->Option (Option D)
 |some (.tup ds)::_=>some ((ds[i]?).map fun d=> .tup [.int i,d])
 |_=>none
noncomputable def zdY:ItK:=⟨1,zcD,z3a⟩
theorem z9N{a:Addr}:zbx G (zjE G.K a) zdY [some (.ref a)]:=by
 intro F ρ H σv tvp tv s i M
 dsimp only[zdY]
 cases e:s.tm.drop tvp.length with
 |nil=>trivial
 |cons o r=>
  cases o with
  |none=>trivial
  |some c=>
   obtain⟨h,lb⟩:=MR.head (s:=s.popn tvp.length) M.popn e
   cases c with
   |tup ds=>
    erw[zcD]
    obtain⟨a',xs,ea,sq,rr⟩:=h.tupq
    cases ea
    cases e2:ds[i]? with
    |none=>
     erw[M9]
     refine⟨xs,sq, ?_⟩
     rw[<-rr.length]
     exact List.getElem?_eq_none_iff.mp e2
    |some d=>
     erw[C1]
     obtain⟨x,ex,rx⟩:=rr.get i d e2
     refine⟨⟨xs,x,sq,ex⟩, ?_⟩
     rintro x' H' ⟨p,y,hp,rfl,rfl,hx,kd⟩
     rw[hx xs sq] at ex
     cases ex
     have sm:=z39.new (.tup [.int i,x]) hp
     refine⟨M.same sm kd,RDs.one ?_,fun l hl=>lb l (by erw[y4];exact labsL_mem (List.mem_of_getElem? e2) l (by simpa only[labsL,y4,i9,n5] using hl))⟩
     erw[RD]
     refine⟨p,_,rfl,Y2, ?_⟩
     have r1:=(RDs.one rx).same sm
     erw[RDs] at r1⊢
     obtain⟨x,r,e,h1,h2⟩:=r1
     cases e
     exact⟨_,_,rfl,by erw[RD],_,_,rfl,h1,rfl⟩
   |_=>trivial
noncomputable def zlD(ts:List D):M ItK:=fun s=>match ts with
 |[.lst l ds]=> .ok zbE (s.psh (.lst l ds))
 |[.ro ds]=> .ok zbE (s.psh (.ro ds))
 |[.tup ds]=> .ok zdY (s.psh (.tup ds))
 |_=> .no
noncomputable def zf5(ms:List (M D)):M ItK:=bd (mArgs ms) zlD
theorem si_enm{p tpos:Pos}{elts:List Expr}{x1:Nat}{ms:List (M D)}(hk:X.K=G.K)(hg:Gl X "enumerate")(hm:X.mg "enumerate" =none)(ha:SA X G F [a] (mArgs ms))(hs:starEach [a] X.env=[(false,eval a X.env)]:=by rfl):SI X G F (.Tuple elts x1 tpos) (.Call (.Name "enumerate" p) [a] [] pos) (zf5 ms):=by
 refine PI.imp0 (zbv hg hm ha hs) fun σ H R ⟨tv,hs,ρ,s,M,W⟩=>⟨tv,hs,ρ,s,M, ?_⟩
 unfold zf5 bd at W
 cases e:mArgs ms s with
 |ex d s1=>rw[e] at W;exact W
 |no=>rw[e] at W;exact W
 |ok ts s1=>
  rw[e] at W
  intro ρ1 vs H1 M1
  rw[hk]
  unfold zlD at W
  dsimp only at W
  split at W
  ·rename_i ts' K s' hh
   split at hh
   ·cases hh
    obtain⟨v,rfl,h,_⟩:=M1.one
    obtain⟨a,xs,rfl,sq,r,_⟩:=h.lstq (ds:=_) rfl
    exact⟨a,rfl, .inl ⟨⟨xs,sq⟩,W ρ1 H1 [some (.ref a)] _ rfl M1.push z7H⟩⟩
   ·cases hh
    obtain⟨v,rfl,h,_⟩:=M1.one
    obtain⟨a,xs,rfl,sq,r,_⟩:=h.lstq (ds:=_) rfl
    exact⟨a,rfl, .inl ⟨⟨xs,sq⟩,W ρ1 H1 [some (.ref a)] _ rfl M1.push z7H⟩⟩
   ·cases hh
    obtain⟨v,rfl,h,_⟩:=M1.one
    obtain⟨a,xs,rfl,sq,r⟩:=h.tupq
    exact⟨a,rfl, .inr ⟨⟨xs,sq⟩,W ρ1 H1 [some (.ref a)] _ rfl M1.push z9N⟩⟩
   ·cases hh
  ·rename_i hh
   split at hh<;>cases hh
  ·exact False.elim W
noncomputable def zdZ(lo:Int)(n:Nat):List D:=(N6 n).map fun(k:Nat)=>D.int (lo+(k:Int))
noncomputable def lrM(ts:List D):M D:=match ts with
 |[.int i, .int j]=>if(-(2^62)<=i/\i<2^62/\-(2^62)<=j/\j<2^62)/\(j -i).toNat<=sizeLine then zaZ (zdZ i (j -i).toNat) else fl
 |_=>fl
mutual
theorem z3K: ∀t:D,(er t).hasDict=false
 | .non| .bool _| .int _| .str _| .dct _ _ _| .obj _ _ _ _| .exc _| .fn _| .fdc _ _=>by erw[er,PyData.hasDict]
 | .tup ds=>by erw[er,PyData.hasDict];exact erL_noDict ds
 | .ro ds=>by erw[er,PyData.hasDict];exact erL_noDict ds
 | .lst _ ds=>by erw[er,PyData.hasDict];exact erL_noDict ds
theorem erL_noDict: ∀ts:List D,PyData.hasDictAll (erL ts)=false
 |[]=>by erw[erL,PyData.hasDictAll]
 |t::ts=>by erw[erL,PyData.hasDictAll,z3K t,erL_noDict ts,Bool.or_self]
end
noncomputable def zjH(ds:List D):Bool:=plainL ds&&(er (.tup ds)).showable&&decide ((er (.tup ds)).depth<=60)&&decide ((er (.tup ds)).shown.length<=sizeLine)
noncomputable def zlE:List D->M D
 |[.tup ds]=>if zjH ds=true then rt (.str (er (.tup ds)).shown) else fl
 |_=>fl
theorem zgs:V2 G F (ziS G.K) zlE:=by
 intro ρ s ts vs H σv tv Q M W
 unfold zlE at W
 split at W
 ·rename_i ds
  split at W
  ·rename_i hc
   erw[zjH,i6,decide_eq_true_eq] at hc
   obtain⟨⟨⟨c1,c2⟩,c3⟩,c4⟩:=hc
   obtain⟨v,rfl,h,_⟩:=M.one
   obtain⟨p,xs,rfl,s1,r1⟩:=id h.tupq
   exact⟨p,er (.tup ds),rfl,RD.dp _ _ h (by erw[plain];exact c1),z3K _,c2,c3,c4,fun _=>W.flat M.m rfl⟩
  ·exact wfl W
 ·exact wfl W
noncomputable def eqS:D->D->M D
 | .str i, .str j=>rt (.bool (i==j))
 |_,_=>fl
theorem zgt:z01 G F (fun x y H Q=> ∃i j,x= .str i/\y= .str j/\Q (.bl (i==j)) H) eqS:=by
 intro ρ s t t' v u H σv tv Q M W
 unfold eqS at W
 split at W
 ·obtain⟨h1,h2⟩:=M.rd2
  erw[RD] at h1 h2
  exact⟨_,_,h1,h2,W.flat M.m rfl⟩
 ·exact wfl W
theorem z7I:Cm X G F .Eq eqS:=⟨_,zgf,zgt⟩
noncomputable def zf6(x y:D):M D:=match x,y with
 | .bool k, .int j=>rt (.int ((if k then 1 else 0)+j))
 |x,y=>W8 x y
theorem ze0:z9s G F (fun x y H Q=>(∃k j,x= .bl k/\y= .int j/\Q (.int ((if k then 1 else 0)+j)) H)\/(rI0 (fun i j=> .int (i+j)) x y H Q\/z9n G.K x y H Q\/zfL x y H Q\/∃i j,x= .str i/\y= .str j/\i.length+j.length<=sizeLine/\Q (.str (i++j)) H)) zf6:=by
 intro ρ s t t' v u H σv tv Q M W
 unfold zf6 at W
 split at W
 ·obtain⟨h1,h2⟩:=M.rd2
  erw[RD] at h1 h2
  exact .inl ⟨_,_,h1,h2,fun _=>W.flat M.m rfl⟩
 ·exact .inr (zcu ρ s t t' v u H σv tv Q M W)
theorem se_addE{ma mb:M D}(hk:X.K=G.K)(ha:SE X G F a ma)(hb:SE X G F b mb):SE X G F (.BinOp a .Add b pos) (y3 ma mb zf6):=
 z6L hk (r:=fun x y H Q=>(∃k j,x= .bl k/\y= .int j/\Q (.int ((if k then 1 else 0)+j)) H)\/(rI0 (fun i j=> .int (i+j)) x y H Q\/z9n G.K x y H Q\/zfL x y H Q\/∃i j,x= .str i/\y= .str j/\i.length+j.length<=sizeLine/\Q (.str (i++j)) H)) (OpR.or zdT (hk▸OpR.or zcq (OpR.or z9o (OpR.or zcs z4s)))) ze0 ha hb
end
end Mi
namespace L2
open PySem PySem.Spec PyProof.Rows
section
variable{P:Program}{w:World}{H H':Hp}{h h':Heap}{a:Addr}{o:HO}
theorem z1d.here(x:z1d P w H h a o): ∃u,h.get? a=some u:=by
 cases o with
 |lst xs=>obtain⟨_,_,_,_,e⟩:=x;exact⟨_,e⟩
 |tup xs=>obtain⟨_,_,_,ob,e,_⟩:=x;exact⟨_,e⟩
 |dK kvs=>obtain⟨_,_,_,_,o,_,_,e,_⟩:=x;exact⟨_,e⟩
 |dT kvs=>obtain⟨_,_,_,_,o,_,_,e,_⟩:=x;exact⟨_,e⟩
 |set S n=>obtain⟨o,_,_,_,e,_⟩:=x;exact⟨_,e⟩
 |ins C dx fs=>obtain⟨_,_,_,e,_⟩:=x;exact⟨_,e⟩
 |own y=>obtain⟨_,e⟩:=x;exact⟨_,e⟩
 |xd fs=>obtain⟨_,⟨_,_,_,e,_⟩,_⟩:=x;exact⟨_,e⟩
 |rng lo hi=>obtain⟨_,_,_,e⟩:=x;exact⟨_,e⟩
 |frz o u=>exact⟨_,x.1⟩
 |tbl ps=>exact⟨_,x⟩
 |met f y=>exact⟨_,x⟩
 |ext φ=>obtain⟨_,⟨_,e⟩,_⟩:=x;exact⟨_,e⟩
theorem HOk.none_of(x:HOk P w H h)(e:h.get? a=none):H a=none:=by
 cases q:H a with
 |none=>rfl
 |some u=>obtain⟨v,z⟩:=(x a u q).here;rw[e] at z;cases z
end
structure Fly(P:Program)(w:World)(outer:List Env)(H:Hp)(s:Shared)(H':Hp)(C:Value)(e:Addr)(s':Shared):Prop where
 os:s'.os=s.os
 bare:AllBare s'.gens
 un:Un (frs outer) [] H H' s.heap s'.heap
 hok:HOk P w H' s'.heap
 he:H' e=none
 se:s.heap.get? e=none
 tr: ∃oe vs a0 T oT ts,s'.heap.get? e=some oe/\(oe.cls=C/\vs[0]? =some a0)/\oe.data= .fields vs/\vs[1]? =some (.ref T)/\T≠e/\s'.heap.get? T=some oT/\oT.data= .fields ts/\ts[3]? =some .none/\H' T=none/\s.heap.get? T=none
noncomputable def CX1(P:Program)(w:World):CXT:=fun outer H s E e s'=> ∃a C H',e= .ref a/\Fly P w outer H s H' C a s'/\E C none H'
section
variable{X:Cx}{pins:List (Addr×Obj)}{σ:St}{H:Hp}{s:Shared}{h':Heap}
theorem Inv.frmem(I:Inv X pins σ H s): ∀env∈X.stack,∀a,env.frame=some a->a∈frs X.stack:=fun env he a e=>F3.mpr ⟨env,he,e⟩
theorem z7J{ex:List Addr}(I:Inv X pins σ H s)(hx: ∀x∈ex,H x=none)(st:(W.hideAll s.heap (frs X.stack++ex)).StaysIn h'): ∀b u o,H b=some u->s.heap.get? b=some o->h'.get? b=some o:=fun b u o e q=>
 st b o (W.hideAll_get _ q fun hm=>by
  rcases i5.mp hm with z|z
  ·rw[I.stkFree b z] at e;cases e
  ·rw[hx b z] at e;cases e)
theorem z6R{ex:List Addr}(I:Inv X pins σ H s)(hx: ∀x∈ex,H x=none)(st:(W.hideAll s.heap (frs X.stack++ex)).StaysIn h'):HOk X.prog X.w H h':=fun a o e=>
 (I.hok a o e).stay (fun b u hb q=>by
  rcases hb with rfl|hb
  ·exact z7J I hx st _ _ _ e q
  ·exact z7J I hx st _ _ _ hb q) (fun _ q=>q) fun _ _ q=>q
theorem z6S{ex:List Addr}(I:Inv X pins σ H s)(hex:X.ex=[])(hx: ∀x∈ex,H x=none)(hx0: ∀x∈ex,X.s₀.heap.get? x=none)(st:(W.hideAll s.heap (frs X.stack++ex)).StaysIn h')(up:s.heap.UpToSlots h'):Un (frs X.outer) [] X.H₀ H X.s₀.heap h':=by
 have nx: ∀b:Addr,b∉X.ex:=fun b z=>by rw[hex] at z;cases z
 have nst: ∀b o,X.s₀.heap.get? b=some o->b∉frs X.outer->b∉frs X.stack++ex:=fun b o q hb hm=>by
  rcases i5.mp hm with z|z
  ·rcases i8.mp (I.stkSub b z) with z|z
   ·subst z;exact absurd (Heap.lt_size q) (F4.mpr I.ok.above)
   ·exact hb z
  ·rw[hx0 b z] at q;cases q
 have sl: ∀b o,X.s₀.heap.get? b=some o->b∈frs X.outer->∃sl,h'.get? b=some {o with slots:=sl}:=fun b o q hb=>by
  obtain⟨sl,z⟩:=I.base.slot b o q (I.ok.frf b hb) hb (nx b)
  obtain⟨_,o',ho',hd⟩:=I.ok.funs.mem hb
  rw[q] at ho';cases ho'
  obtain⟨sl2,z2⟩:=up b {o with slots:=sl} z hd
  exact⟨sl2,z2⟩
 refine⟨fun b o q n hb _=> ?_,fun b o q n hb _=>sl b o q hb,fun b o q n _=>I.base.free b o q n (nx b),fun b o q _=> ?_,I.base.tups,I.base.frzs,I.base.tbls⟩
 ·exact st b o (W.hideAll_get _ (I.base.keep b o q n hb (nx b)) (nst b o q hb))
 ·by_cases hb:b∈frs X.outer
  ·obtain⟨sl,z⟩:=sl b o q hb;exact⟨_,z⟩
  ·obtain⟨o',z⟩:=I.base.there b o q (nx b)
   exact⟨o',st b o' (W.hideAll_get _ z (nst b o q hb))⟩
theorem z3L(I:Inv X pins σ H s)(hex:X.ex=[]){b:Addr}(e:s.heap.get? b=none):X.s₀.heap.get? b=none:=by
 cases q:X.s₀.heap.get? b with
 |none=>rfl
 |some o=>obtain⟨o',z⟩:=I.base.there b o q (by rw[hex];simp);rw[e] at z;cases z
theorem z7K{ex:List Addr}{e:Addr}{cls a0:Value}(I:Inv X pins σ H s)(hex:X.ex=[])(hx: ∀x∈ex,H x=none)(hx0: ∀x∈ex,X.s₀.heap.get? x=none)(up:s.heap.UpToSlots h')(tr:h'.TracedW (W.hideAll s.heap (frs X.stack++ex)) e cls a0):
 ∃oe vs a0 T oT ts,h'.get? e=some oe/\(oe.cls=cls/\vs[0]? =some a0)/\oe.data= .fields vs/\vs[1]? =some (.ref T)/\T≠e/\h'.get? T=some oT/\oT.data= .fields ts/\ts[3]? =some .none/\H T=none/\X.s₀.heap.get? T=none:=by
 obtain⟨oe,vs,T,oT,ts,h1,h2,h3,h4,h5,h6,h7,h8,h9⟩:=tr
 have nm: ∀o,s.heap.get? T=some o->T∈ex:=fun o q=>by
  by_cases hm:T∈frs X.stack++ex
  ·rcases i5.mp hm with z|z
   ·obtain⟨_,o',ho',hd⟩:=I.stack.mem z
    obtain⟨sl,z'⟩:=up T o' ho' hd
    rw[h7] at z';cases z'
    exact absurd h8 (hd ts)
   ·exact z
  ·rw[W.hideAll_get _ q hm] at h5;cases h5
 have hT:H T=none:=by
  cases q:s.heap.get? T with
  |none=>exact I.hok.none_of q
  |some o=>exact hx T (nm o q)
 have hS:X.s₀.heap.get? T=none:=by
  cases q:s.heap.get? T with
  |none=>exact z3L I hex q
  |some o=>exact hx0 T (nm o q)
 exact⟨oe,vs,a0,T,oT,ts,h1,h2,h3,h4,h6,h7,h8,h9,hT,hS⟩
end
section
variable{P:Program}{w:World}{K:W.Frag}{mg:Str->Option Value}{base:Heap}{N:List Str}{qual:Str}{scope:Scope}{f:Addr}{cd:Value}{A:Around}{outer:List Env}{s:Shared}{H:Hp}{E:XK}
theorem z6T:z3x (CX1 P w) (z37 (CX1 P w) P w K mg base N qual scope f cd A outer s H E) E:=by
 intro pins σ H1 s1 e s2 I ⟨a,C,H2,e1,F,hE⟩
 subst e1
 have I2:Inv (z37 (CX1 P w) P w K mg base N qual scope f cd A outer s H E) pins σ H2 s2:=I.call' (ch:=[]) F.os F.un F.hok F.bare (fun b z=>absurd z (by simp))
 obtain⟨oe,vs,a0,T,oT,ts,h1,h2,h3,h4,h5,h6,h7,h8,h9,h10⟩:=F.tr
 have hx: ∀x∈[a,T],H2 x=none:=fun x hx=>by
  rcases i8.mp hx with rfl|hx
  ·exact F.he
  ·rcases i8.mp hx with rfl|hx
   ·exact h9
   ·cases hx
 have hx0: ∀x∈[a,T],s.heap.get? x=none:=fun x hx=>by
  rcases i8.mp hx with rfl|hx
  ·exact z3L I rfl F.se
  ·rcases i8.mp hx with rfl|hx
   ·exact z3L I rfl h10
   ·cases hx
 refine wpAny_leaves_onW (base:=W.hideAll s2.heap (frs (z37 (CX1 P w) P w K mg base N qual scope f cd A outer s H E).stack++[a,T])) (L:=s.heap.objs.size) (cls:=C) (a0:=a0) I2.ok.frames rfl ⟨fun b o q=>W.of_hideAll _ q,W.hideAll_none _ (by simp),W.funFrames_hide I2.stack fun env he b hb=>i3 _ (I2.frmem env he b hb),oe,vs,T,oT,ts,h1,h2,h3,h4,W.hideAll_none _ (by simp),h5,h6,h7,h8⟩ fun h' fl up=> ?_
 obtain⟨k1,k2,k3,k4⟩:=fl
 exact⟨a,C,H2,rfl,⟨F.os.trans I.os,F.bare,z6S I2 rfl hx hx0 k1 up,z6R I2 hx k1,F.he,hx0 a (by simp),z7K I2 rfl hx hx0 up k4⟩,hE⟩
theorem zgu{pins:List (Addr×Obj)}{σ:St}{H1:Hp}{s1:Shared}{h':Heap}{e:Addr}{C:Value}{args:List Value}(I:Inv (z37 (CX1 P w) P w K mg base N qual scope f cd A outer s H E) pins σ H1 s1)(hx:Heap.MadeExcOf s1.heap h' e C args)(hE:E C none H1):
 (z37 (CX1 P w) P w K mg base N qual scope f cd A outer s H E).xe (.ref e) {s1 with heap:=h'}:=by
 have nn: ∀x∈([]:List Addr),H1 x=none:=fun x z=>absurd z (by simp)
 have nn0: ∀x∈([]:List Addr),s.heap.get? x=none:=fun x z=>absurd z (by simp)
 refine wpAny_leaves_madeW (base:=W.hideAll s1.heap (frs (z37 (CX1 P w) P w K mg base N qual scope f cd A outer s H E).stack++[])) (h:=s1.heap) (L:=s.heap.objs.size) I.ok.frames rfl (fun b o q=>W.of_hideAll _ q) (W.funFrames_hide I.stack fun env he b hb=>i3 _ (I.frmem env he b hb)) hx fun h2 t fl tp bt up=> ?_
 obtain⟨k1,k2,k3,k4⟩:=fl
 have up2:s1.heap.UpToSlots h2:=(Heap.UpToSlots.of_keeps hx.keeps).trans up
 exact⟨e,C,H1,rfl,⟨I.os,I.bare,z6S I rfl nn nn0 k1 up2,z6R I nn k1,I.hok.none_of hx.new,z3L I rfl hx.new,z7K I rfl nn nn0 up2 k4⟩,hE⟩
end
section
variable{X:Cx}{pins:List (Addr×Obj)}{σ:St}{H:Hp}{s:Shared}{h':Heap}
theorem z9O{ex:List Addr}{t':Nat}(I:Inv X pins σ H s)(hex:X.ex=[])(hx: ∀x∈ex,H x=none)(hx0: ∀x∈ex,X.s₀.heap.get? x=none)(hxp: ∀p∈X.pn++pins,p.1∉ex)(st:(W.hideAll s.heap (frs X.stack++ex)).StaysIn h')(up:s.heap.UpToSlots h'):Inv X pins σ H {s with heap:=h',toks:=t'}:=by
 have cellK: ∀c v,s.heap.IsCell c v->h'.IsCell c v:=fun c v ⟨o,ho,hd⟩=>by
  obtain⟨sl,q⟩:=up c o ho (fun vs z=>by rw[hd] at z;cases z)
  exact⟨_,q,hd⟩
 have un:=z6S I hex hx hx0 st up
 refine⟨I.ok,I.os,I.bare,by rw[hex];exact un, ?_,fun y c e=> ?_,I.free,I.freeC,fun p hp=> ?_,z6R I hx st,I.len⟩
 ·obtain⟨m,hn,hl⟩:=I.loc
  refine⟨m,up.ns hn,fun i x v e1 e2 e3=> ?_⟩
  obtain⟨u,r,l⟩:=hl i x v e1 e2 e3
  refine⟨u,r, ?_⟩
  rcases l with l|⟨k,c,e,z⟩
  ·exact .inl l
  ·exact .inr ⟨k,c,e,cellK c _ z⟩
 ·obtain⟨v,z⟩:=I.cell y c e
  exact⟨v,cellK c v z⟩
 ·obtain⟨e,n,ne,nf,d⟩:=I.pin p hp
  refine⟨st p.1 p.2 (W.hideAll_get _ e fun hm=> ?_),n,ne,nf,d⟩
  rcases i5.mp hm with z|z
  ·rcases i8.mp (I.stkSub p.1 z) with z|z
   ·exact ne z
   ·exact nf z
  ·exact hxp p hp z
theorem Inv.track{a:Addr}{o:HO}(I:Inv X pins σ H s)(hn:H a=none)(h0:X.s₀.heap.get? a=none)(hL:a≠X.env.locals)(hC: ∀x c,X.env.cells.lookup x=some c->c≠a)(hp: ∀p∈X.pn++pins,p.1≠a)(ok:z1d X.prog X.w (upd H a o) s.heap a o):Inv X pins σ (upd H a o) s:=by
 have ne: ∀b u,H b=some u->upd H a o b=some u:=fun b u e=>by
  by_cases hb:b=a
  ·subst hb;rw[hn] at e;cases e
  ·rw[Z6 hb];exact e
 refine⟨I.ok,I.os,I.bare,⟨I.base.keep,I.base.slot,fun b ob q n hx=> ?_,I.base.there,fun b xs e=>ne _ _ (I.base.tups b xs e),fun b u xs e=>ne _ _ (I.base.frzs b u xs e),fun b ps e=> ?_⟩,I.loc,I.cell, ?_,fun x c e=> ?_,fun p q=> ?_,fun b u e=> ?_,I.len⟩
 ·rw[Z6 (fun z=>by rw[z,h0] at q;cases q)];exact I.base.free b ob q n hx
 ·obtain⟨m,z⟩:=I.base.tbls b ps e
  exact⟨m,ne _ _ z⟩
 ·rw[Z6 (Ne.symm hL)];exact I.free
 ·rw[Z6 (hC x c e)];exact I.freeC x c e
 ·obtain⟨e,n,r⟩:=I.pin p q
  exact⟨e,by rw[Z6 (hp p q)];exact n,r⟩
 ·by_cases hb:b=a
  ·subst hb;rw[Y2] at e;cases e;exact ok
  ·rw[Z6 hb] at e
   exact(I.hok b u e).stay (fun _ _ _ q=>q) (fun c q=>ne _ _ q) fun c xs q=>ne _ _ q
noncomputable def ze1(N:List Str):St:=l7 N.length none
theorem Inv.forget{m':Str->Option Value}{t':Nat}(I:Inv X pins σ H s)(hn:h'.Ns X.env.locals m')(hs:Heap.SameBut X.env.locals s.heap h'):Inv X pins (ze1 X.N) H {s with heap:=h',toks:=t'}:=by
 have neL: ∀b o,X.s₀.heap.get? b=some o->b≠X.env.locals:=fun b o e=>A2 (r8 (Heap.lt_size e) I.ok.above)
 refine⟨I.ok,I.os,I.bare,⟨fun b o e n hb hx=> ?_,fun b o e n hb hx=> ?_,I.base.free,fun b o e hx=> ?_,I.base.tups,I.base.frzs,I.base.tbls⟩,⟨m',hn,fun i x v _ e=> ?_⟩,fun y c e=> ?_,I.free,I.freeC,fun p hp=> ?_,fun b ob e=> ?_,by simp[ze1]⟩
 ·exact(hs.2 b (neL b o e)).trans (I.base.keep b o e n hb hx)
 ·obtain⟨sl,e1⟩:=I.base.slot b o e n hb hx
  exact⟨sl,(hs.2 b (neL b o e)).trans e1⟩
 ·obtain⟨o',e1⟩:=I.base.there b o e hx
  exact⟨o',(hs.2 b (neL b o e)).trans e1⟩
 ·unfold ze1 at e
  rw[List.getElem?_replicate] at e
  split at e<;>cases e
 ·obtain⟨w',z⟩:=I.cell y c e
  exact⟨w',z.sameBut hs (I.cne y c e)⟩
 ·obtain⟨e,n,ne,nf,d⟩:=I.pin p hp
  exact⟨(hs.2 p.1 ne).trans e,n,ne,nf,d⟩
 ·refine(I.hok b ob e).stay (fun c w' hc q=>(hs.2 c ?_).trans q) (fun _ q=>q) fun _ _ q=>q
  rintro rfl
  rcases hc with rfl|hc
  ·rw[I.free] at e;cases e
  ·rw[I.free] at hc;cases hc
end
noncomputable def bmV:List Value:=[.type "ValueError", .type "Exception", .type "BaseException", .type "object"]
theorem zgv{K:W.Frag}{h:Heap}{C:Addr}{bmB:List Value}{newId:String}(X:K.In h)(q:W.excIn K C bmB newId=true):
 ∃bm N nm qn bs hd sn sub ab col dd k0 k1 k2 k3 k5 mN,h.get? C=some (excClassObj nm qn C N bs bm hd sn sub ab col dd k0 k1 k2 k3 k5 newId)/\h.Ns N mN/\mN "__init__" =none/\OwnTail h bmB bm:=by
 unfold W.excIn at q
 split at q
 ·rename_i dd cd sl ho
  split at q
  ·rename_i C' bm k0 k1 k2 k3 n k5 hm hs
   erw[i6,beq_iff_eq,F5] at q
   obtain⟨⟨⟨⟨⟨rfl,rfl⟩,hdel⟩,ht⟩,hok⟩,hni⟩:=q
   obtain⟨nm,bs,mro,ns,qn,hd,sn,sub,ab,col,del⟩:=cd
   dsimp only at hm hdel hok hni
   subst hm hdel
   have hsl:sl= #[k0,k1,k2,k3,some (.builtin n),k5]:=by
    obtain⟨l⟩:=sl
    simp only at hs
    rw[hs]
   subst hsl
   exact⟨bm,ns,nm,qn,bs,hd,sn,sub,ab,col,dd,k0,k1,k2,k3,k5,_,X _ _ ho, .of_isNs (W.isNs_of_in X hok),W.nsMap_none_of_in X hok hni,W.tail_of_in X ht⟩
  ·cases q
 ·cases q
noncomputable def z3M(X:Cx)(E:St->XK):Prop:= ∀(pins:List (Addr×Obj)) (σ:St) (H:Hp) (s:Shared) (h':Heap) (e:Addr) (C:Value) (args:List Value),Inv X pins σ H s->Heap.MadeExcOf s.heap h' e C args->E σ C none H->X.xe (.ref e) {s with heap:=h'}
noncomputable def zgw(X:Cx)(E:St->XK):Prop:= ∀(pins:List (Addr×Obj)) (σ:St) (H:Hp) (s:Shared) (e:Value) (s':Shared),Inv X pins σ H s->CX1 X.prog X.w X.stack H s (E σ) e s'->X.xe e s'
section
variable{X:Cx}{C:Addr}{x y:Str}{np cpos pos p:Pos}{j:Nat}{E:St->XK}
noncomputable def zgx(C:Addr)(E:St->XK):TS:=fun _ σ H=>E σ (.ref C) none H
theorem zbF(hh:X.A.handled=none)(hx:z3M X E)(hg:Gl X x)(hm:X.mg x=some (.ref C))(hq:W.excIn X.K C bmV "ValueError.__new__" =true)(hd:(x==("__debug__" :Str))=false:=by decide):
 PS X (.Raise (some (.Call (.Name x np) [.Constant (.str y) j p] [] cpos)) none pos) (zgx C E):=by
 intro pins s σ H D I h
 obtain⟨bm,N,nm,qn,bs,hdc,sn,sub,ab,col,dd,k0,k1,k2,k3,k5,mN,hC,hN,hni,T⟩:=zgv I.ok.mod.kin hq
 refine wpAny_Raise_call_subU (C:=C) (nm:=nm) (q:=qn) (N:=N) (bs:=bs) (bm:=bm) (hdct:=hdc) (sn:=sn) (sub:=sub) (ab:=ab) (col:=col) (dd:=dd) (k0:=k0) (k1:=k1) (k2:=k2) (k3:=k3) (k5:=k5)
  F.excBase_ValueError (by decide+kernel) F.excBase_ValueError (mN:=mN) (T.hasType (by decide+kernel)) hh rfl hni (z3w I hg hm ⟨rfl, ?_⟩ hd)
 have he:starEach [Expr.Constant (.str y) j p] X.env=(false,eval (.Constant (.str y) j p) X.env)::starEach [] X.env:=by rfl
 rw[he]
 refine Calls.evalArgs_plain ?_
 have ha:PA X [Expr.Constant (.str y) j p] _:=Y1 Z7 z36 he
 have hp:=ha cpos pins s σ H (fun vs H1=>vs.length<=sizeLine/\H1=H) I ⟨by show 1<=sizeLine;decide,rfl⟩
 rw[he] at hp
 refine wpAny_mono hp (fun us s2 ⟨vs,H1,I1,r,hl,e1⟩=> ?_) fun _ _ z=>z
 subst e1
 exact⟨rfl,by rw[<-r.length];exact hl,I1.bk _ _ hC,hN.keeps I1.bk,T.keeps I1.bk,fun h' e hm=>hx pins σ H1 s2 h' e (.ref C) us I1 hm h⟩
end
section
variable{X:Cx}{k:Nat}{f:Addr}{fd:FuncData}{ps:List Str}{sp:Sp}{E:St->XK}{x:Str}{p pos:Pos}{e:Expr}{es:List Expr}{t:TA}
noncomputable def zgy(sp:Sp)(E:St->XK)(t:TA):TE:=fun σ H Q=>t σ H fun vs H1=>sp vs H1 Q (E σ)
theorem zbG(F:u2 X.prog X.w X.K X.mg X.base (CX1 X.prog X.w) k f fd ps sp)(hr:z2q k X.A)(hg:Gl X x)(hm:X.mg x=some (.ref f))(hk:W.keepIn X.K (.ref f)=true)(hb:z2D X.K fd ps [])(hx:zgw X E)
 (ha:PA X (e::es) t) (hdb:(x==("__debug__" :Str))=false:=by decide) (he:starEach (e::es) X.env=(false,eval e X.env)::starEach es X.env:=by rfl) (hpl:(backTo pos (starEach es X.env)).any (·.1)=false:=by rfl):
 PE X (.Call (.Name x p) (e::es) [] pos) (zgy sp E t):=by
 intro pins s σ H Q I h
 refine wpAny_Call_Name_kw (z3w I hg hm ?_ hdb)
 refine W.callWith_K (h₀:=X.base) I.ok.mod.kin hk (thn (ha pos pins s σ H _ I h) fun us s1 ⟨vs,H1,I1,r,q⟩=>⟨I1.kIn, ?_⟩) he hpl
 have hl:us.length=ps.length:=by rw[<-r.length];exact F.len _ _ _ _ q
 have hb2:=hb s1 us I1.kIn (by rw[i9];exact hl)
 rw[i9] at hb2
 refine wpAny_call (codeAny_mono (F.run X.A X.stack s1 H1 ⟨us,[]⟩ us vs Q (E σ) hr I1.env0 hb2 r q) fun r s' hq=> ?_)
 cases r with
 |error e=>exact hx pins σ H1 s1 e s' I1 hq
 |ok fl=>
  cases fl with
  |ret u=>exact I1.after hq
  |next=>exact False.elim hq
  |brk=>exact False.elim hq
  |cont=>exact False.elim hq
end
noncomputable abbrev Xt(X:Cx)(pl:List (Addr×Obj))(E:Value->Shared->Prop):Cx:={X with pn:=pl,xe:=E}
theorem Cx.Ok.xt{X:Cx}(ok:X.Ok)(pl:List (Addr×Obj))(E:Value->Shared->Prop):(Xt X pl E).Ok:=
 ⟨ok.mod,ok.kind,ok.glob,ok.blt,ok.above,ok.inj,ok.has,ok.cab,ok.hd,ok.frames,ok.stk,ok.exf,ok.bs,ok.bsz,ok.noex,ok.exfs,ok.funs,ok.frf⟩
theorem Cx.Ok.unxt{X:Cx}{pl:List (Addr×Obj)}{E:Value->Shared->Prop}(ok:(Xt X pl E).Ok):X.Ok:=
 ⟨ok.mod,ok.kind,ok.glob,ok.blt,ok.above,ok.inj,ok.has,ok.cab,ok.hd,ok.frames,ok.stk,ok.exf,ok.bs,ok.bsz,ok.noex,ok.exfs,ok.funs,ok.frf⟩
theorem Inv.xt{X:Cx}{pins:List (Addr×Obj)}{σ:St}{H:Hp}{s:Shared}{E:Value->Shared->Prop}(I:Inv X pins σ H s):Inv (Xt X (X.pn++pins) E) [] σ H s:=⟨I.ok.xt _ _,I.os,I.bare,I.base,I.loc,I.cell,I.free,I.freeC,fun p hp=>I.pin p (by rw[i9] at hp;exact hp),I.hok,I.len⟩
theorem Inv.unxt{X:Cx}{pins pins':List (Addr×Obj)}{σ:St}{H:Hp}{s:Shared}{E:Value->Shared->Prop}(I:Inv (Xt X (X.pn++pins) E) pins' σ H s):Inv X pins σ H s:=⟨I.ok.unxt,I.os,I.bare,I.base,I.loc,I.cell,I.free,I.freeC,fun p hp=>I.pin p (i3 _ hp),I.hok,I.len⟩
noncomputable abbrev Xm(X:Cx)(a:Addr):Cx:={X with A:=X.A.mark (some (.ref a)),calm:=false,xe:=fun _ _=>False}
theorem Cx.Ok.xm{X:Cx}(ok:X.Ok)(a:Addr):(Xm X a).Ok:=
 ⟨ok.mod,ok.kind,ok.glob,ok.blt,ok.above,ok.inj,ok.has,ok.cab,fun z=>P0 z,ok.frames,ok.stk,ok.exf,ok.bs,ok.bsz,ok.noex,ok.exfs,ok.funs,ok.frf⟩
section
variable{X:Cx}{pins:List (Addr×Obj)}{σ:St}{H:Hp}{s s':Shared}
theorem Inv.xm(I:Inv X pins σ H s)(a:Addr):Inv (Xm X a) pins σ H s:=⟨I.ok.xm a,I.os,I.bare,I.base,I.loc,I.cell,I.free,I.freeC,I.pin,I.hok,I.len⟩
theorem Inv.unxm{a:Addr}(ok:X.Ok)(I:Inv (Xm X a) pins σ H s):Inv X pins σ H s:=⟨ok,I.os,I.bare,I.base,I.loc,I.cell,I.free,I.freeC,I.pin,I.hok,I.len⟩
noncomputable def z6c(o:Obj):HO:= .frz o (.ext fun _=>True)
noncomputable def zgz(K:W.Frag)(CB:Addr)(ie:Nat)(th:TS)(D:z5R):St->XK:=fun σ C _ H=>W.exmOne K C (.ref CB)=some true/\∀a o,H a=none->K.lookup a=none->o.cls=C->(∃vs,o.data= .fields vs)->th {nx:=fun _ _=>False,rt:=D.rt} (σ.set ie (some (.ref a))) (upd H a (z6c o))
noncomputable def zbH(X:Cx)(hs:List ExceptHandler)(Q:Flow->Shared->Prop):Value->Shared->Prop:=fun e s₁=>
 wpAny (model X.prog X.w) X.A (noteFrame e X.env) (fun _ s₂=>wpAny (model X.prog X.w) X.A (setFlight e none) (fun _ s₃=>wpAny (model X.prog X.w) X.A (handleBy e X.env hs) Q X.xe s₃) X.xe s₂) X.xe s₁
theorem zbI{CB:Addr}{x n:Str}{ie:Nat}{np hpos:Pos}{b₀:Stmt}{suite:List Stmt}{th:TS}{D:z5R}(hst:X.stack=X.env::X.outer)(hfr:X.env.frame=some X.env.locals)(hex:X.ex=[])(hg:Gl X x)(hm:X.mg x=some (.ref CB))(hN:X.N.Nodup)(hi:X.N[ie]? =some n)(hloc:X.env.scope.names.lookup n=some .local)
 (hb: ∀a,PSs (Xm X a) (b₀::suite) th) (hd:(x==("__debug__" :Str))=false:=by decide) {e:Value} (I:Inv X pins σ H s) (hc:CX1 X.prog X.w X.stack H s (zgz X.K CB ie th D σ) e s'):
 zbH X [.ExceptHandler (some (.Name x np)) (some n) (b₀::suite) hpos] (SP X pins D) e s':=by
 obtain⟨a,C,H2,e1,F,hE⟩:=hc
 subst e1
 have I2:Inv X pins σ H2 s':=I.call' (ch:=[]) F.os F.un F.hok F.bare (fun b z=>absurd z (by simp))
 obtain⟨oe,vs,a0,T,oT,ts,h1,h2,h3,h4,h5,h6,h7,h8,h9,h10⟩:=F.tr
 have hx: ∀x∈[a,T],H2 x=none:=fun x hx=>by
  rcases i8.mp hx with rfl|hx
  ·exact F.he
  ·rcases i8.mp hx with rfl|hx
   ·exact h9
   ·cases hx
 have hs0: ∀x∈[a,T],s.heap.get? x=none:=fun x hx=>by
  rcases i8.mp hx with rfl|hx
  ·exact F.se
  ·rcases i8.mp hx with rfl|hx
   ·exact h10
   ·cases hx
 have hx0: ∀x∈[a,T],X.s₀.heap.get? x=none:=fun x hx=>z3L I hex (hs0 x hx)
 have hxp: ∀p∈X.pn++pins,p.1∉[a,T]:=fun p hp z=>by
  have:=(I.pin p hp).1
  rw[hs0 _ z] at this;cases this
 have aL:a≠X.env.locals:=fun z=>by
  obtain⟨m,⟨o,_,_,ho,_⟩,_⟩:=I.loc
  have:=F.se
  rw[z,ho] at this;cases this
 have aC: ∀x c,X.env.cells.lookup x=some c->c≠a:=fun x c e z=>by
  obtain⟨v,o,ho,_⟩:=I.cell x c e
  have:=F.se
  rw[<-z,ho] at this;cases this
 have fl0:Heap.FlyingW (W.hideAll s'.heap (frs X.stack++[a,T])) (X.env::X.outer) a C a0 s'.heap:=⟨fun b o q=>W.of_hideAll _ q,W.hideAll_none _ (by simp),by rw[<-hst];exact W.funFrames_hide I2.stack fun env he b hb=>i3 _ (I2.frmem env he b hb),oe,vs,T,oT,ts,h1,h2,h3,h4,W.hideAll_none _ (by simp),h5,h6,h7,h8⟩
 unfold zbH
 refine wpAny_looks_onW (by rw[<-hst];exact I2.ok.frames) hfr fl0 fun h4' held up4=> ?_
 refine wpAny_landsW held fun h5' fl5 up5=> ?_
 have up:=up4.trans up5
 have I5:Inv X pins σ H2 {s' with heap:=h5'}:=z9O (t':=s'.toks) I2 hex hx hx0 hxp fl5.1 up
 obtain⟨ob,hob,hobc⟩:=fl5.there
 refine wpAny_handleBy_cons (codeAny_handlers_test (z3w (X:=Xm X a) (I5.xm a) hg hm ?_ hd)) (by intro q;cases q)
 have LT:W.Looks (model X.prog X.w) h5' (typeOf (.ref a)) C:=hobc▸(W.Looks.ld hob).andThen .now
 refine(W.exm_one I5.kIn LT hE.1).here ?_
 refine codeAny_handlers_suite_as ?_
 refine lands_againW fl5 fun h6' fl6 up6=> ?_
 have I6:Inv X pins σ H2 {s' with heap:=h6'}:=z9O (t':=s'.toks) I2 hex hx hx0 hxp fl6.1 (up.trans up6)
 obtain⟨oe6,vs6,hoe6,hoec6,hoed6,_⟩:=fl6.first
 have I7:Inv X pins σ (upd H2 a (z6c oe6)) {s' with heap:=h6'}:=I6.track F.he (hx0 a (by simp)) aL aC (fun p hp z=>hxp p hp (by rw[z];simp)) ⟨hoe6,trivial,⟨_,hoe6⟩,fun _ _ _ _=>trivial⟩
 refine z3m (X:=Xm X a) (I7.xm a) hN hi (.inl hloc) (v:= .ref a) rfl (fun s8 I8=> ?_) (.inr hloc)
 refine wpAny_mono (hb a pins s8 _ _ _ I8 (hE.2 a oe6 F.he (by cases q:X.K.lookup a with|none=>rfl|some u=>have z:=I.kIn _ _ q;rw[F.se] at z;cases z) hoec6 ⟨_,hoed6⟩)) (fun fl s9 hq=> ?_) fun _ _ z=>z.elim
 have hkn:X.env.kindOf n=some .local:=hloc
 cases fl with
 |ret u=>
  obtain⟨v,σ',H',I9,r,q⟩:=hq
  have J:=I9.unxm I.ok
  obtain⟨m,hn,_⟩:=id J.loc
  refine wpAny_nameGoes hkn hn (by rw[I.ok.kind];rfl) fun h10 m' hn' hs=> ?_
  exact⟨v,_,H',J.forget (t':=s9.toks+1) hn' hs,r,q⟩
 |next=>obtain⟨_,_,_,q⟩:=hq;exact q.elim
 |brk=>obtain⟨_,_,_,q⟩:=hq;exact q.elim
 |cont=>obtain⟨_,_,_,q⟩:=hq;exact q.elim
end
end L2
namespace L2
open PySem PySem.Spec PySem.Calls PyProof.Rows Builtin Builtin.ObjectAttr Builtin.Getset_descriptor
section
variable{prog:Program}{w:World}{A:Around}{E:Value->Shared->Prop}{h:Heap}{g:Array GenState}{d:Drawn}{t:Nat}{os:OsState}{a C:Addr}{K:W.Frag}
theorem zgA{R:Result->Shared->Prop}{tp:Value}(X:K.In h)(L0:W.Looks (model prog w) h (typeOf (.ref a)) (.ref C))(hm:W.mroIn K C (.type "object")=some true)(hq:R (.ok (.ret (.ref C))) ⟨h,g,d,t,os⟩):
 codeAny (model prog w) A (.call (.builtin "getset_descriptor.__get__") ⟨[.builtin "object.__class__", .ref a,tp],[]⟩) R ⟨h,g,d,t,os⟩:=by
 have L1:=W.looks_mroIn (M:=model prog w) X hm
 refine codeAny_call_builtin W.KF.slot_gs.plain W.KF.entry_gs (W.KF.slot_gs.check _ _ _ _ _ _ _ _ W.KF.type_class (W.KF.args_gs _ _ _) ?_)
 unfold Builtin.«getset_descriptor.__get__» descrGet
 rw[W.dga_obj]
 refine wpAny_bind (wpAny_pure ?_)
 unfold descrGetter descrCheckInstance descrNameAndClass isInstance
 erw[W.KF.owner_class]
 repeat lk
 refine⟨Code.quiet_builtin _ (by decide+kernel),codeAny_builtin W.KF.entry_class ?_⟩
 unfold Builtin.«object.__class__» shownTypeOf
 repeat lk
 exact hq
theorem zbJ{tk:Tok}{Q:Fin->Shared->Prop}(X:K.In h)(L0:W.Looks (model prog w) h (typeOf (.ref a)) (.ref C))(hm:W.mroIn K C (.type "object")=some true)(f3:W.findIn K (.ref C) "__class__" =some (some (.builtin "object.__class__")))(hq:Q (.done (.ret (.ref C))) ⟨h,g,d,t,os⟩):
 wpAny (model prog w) A (Builtin.«object.__getattribute__» ⟨[.ref a, .str "__class__" tk],[]⟩) Q E ⟨h,g,d,t,os⟩:=by
 have L3:=W.looks_findIn (M:=model prog w) X f3
 have hT5:(⟨h,g,d,t,os⟩:Shared).TypeIs (.builtin "object.__class__") "getset_descriptor" :=F.typeOf_object_class
 have f5:=F.typeOf_object_class
 have f6:=F.slot_gs_get.lookup
 have f7:=F.slot_gs_set.lookup
 repeat (any_goals (first|assumption|with_reducible refine L0.at ?_|with_reducible refine L3.at ?_|wp_step))
 refine zgA X L0 hm ?_
 repeat (any_goals (first|assumption|wp_step))
theorem zbK{M:Model}{nameV:Value}{Q:Unit->Shared->Prop}(X:K.In h)(L0:W.Looks M h (typeOf (.ref a)) (.ref C))(hm:W.mroIn K C (.type "BaseException")=some true)(hq:Q () ⟨h,g,d,t,os⟩):
 wpAny M A (checkBuiltinCall "BaseException.__getattribute__" ⟨[.ref a,nameV],[]⟩) Q E ⟨h,g,d,t,os⟩:=by
 have hk:builtinKind "BaseException.__getattribute__" =some .slot:=by decide+kernel
 have hsplit:splitId "BaseException.__getattribute__" =some ("BaseException", "__getattribute__"):=by decide+kernel
 have ha:=F.args_bexc_ga (.ref a) nameV
 have L1:=W.looks_mroIn (M:=M) X hm
 erw[checkBuiltinCall,hk,hsplit]
 refine wpAny_bind ?_
 ·unfold isInstance
  repeat (first|with_reducible refine L0.at ?_|with_reducible refine L1.at ?_|wp_step)
  exact hq
theorem ze2{tk:Tok}{R:Result->Shared->Prop}(X:K.In h)(L0:W.Looks (model prog w) h (typeOf (.ref a)) (.ref C))(hm:W.mroIn K C (.type "object")=some true)(hb:W.mroIn K C (.type "BaseException")=some true)(f3:W.findIn K (.ref C) "__class__" =some (some (.builtin "object.__class__")))(hq:R (.ok (.ret (.ref C))) ⟨h,g,d,t,os⟩):
 codeAny (model prog w) A (.call (.builtin "BaseException.__getattribute__") ⟨[.ref a, .str "__class__" tk],[]⟩) R ⟨h,g,d,t,os⟩:=
 codeAny_call_builtin F.excAttr_ValueError.ga.plain F.entry_bexc_ga (zbK X L0 hb (zbJ X L0 hm f3 hq))
theorem zjI{tk:Tok}{fill expr:Bool}{Q:Value->Shared->Prop}(X:K.In h)(L0:W.Looks (model prog w) h (typeOf (.ref a)) (.ref C))(hm:W.mroIn K C (.type "object")=some true)(hb:W.mroIn K C (.type "BaseException")=some true)(f1:W.findIn K (.ref C) "__getattribute__" =some (some (.builtin "BaseException.__getattribute__")))(f2:W.findIn K (.ref C) "__getattr__" =some none)(f3:W.findIn K (.ref C) "__class__" =some (some (.builtin "object.__class__")))(hq:Q (.ref C) ⟨h,g,d,t,os⟩):
 wpAny (model prog w) A (getAttrBy (.ref a) (.str "__class__" tk) fill expr) Q E ⟨h,g,d,t,os⟩:=by
 have L1:=W.looks_findIn (M:=model prog w) X f1
 have L2:=W.looks_findIn (M:=model prog w) X f2
 have f3':=F.excAttr_ValueError.ga.bind (.ref a)
 have hx0:(expr&&onTheHeap (Value.builtin "BaseException.__getattribute__"))=false:=by cases expr<;>rfl
 have hx2:(Value.builtin "BaseException.__getattribute__" ==Value.builtin "object.__getattribute__")=false:=by decide+kernel
 have hx1:(onTheHeap (Value.ref C)&&Value.builtin "BaseException.__getattribute__" ==Value.builtin "object.__getattribute__")=false:=by rw[hx2];rfl
 repeat (any_goals (first|assumption|with_reducible refine L0.at ?_|with_reducible refine L1.at ?_|with_reducible refine L2.at ?_|wp_step))
 refine ze2 X L0 hm hb f3 ?_
 repeat (any_goals (first|assumption|wp_step))
theorem ze3{Q:Option Value->Shared->Prop}(X:K.In h)(L0:W.Looks (model prog w) h (typeOf (.ref a)) (.ref C))(hm:W.mroIn K C (.type "object")=some true)(hb:W.mroIn K C (.type "BaseException")=some true)(f1:W.findIn K (.ref C) "__getattribute__" =some (some (.builtin "BaseException.__getattribute__")))(f2:W.findIn K (.ref C) "__getattr__" =some none)(f3:W.findIn K (.ref C) "__class__" =some (some (.builtin "object.__class__")))(hq:Q (some (.ref C)) ⟨h,g,d,t+1,os⟩):
 wpAny (model prog w) A (getAttr? (.ref a) "__class__") Q E ⟨h,g,d,t,os⟩:=by
 unfold getAttr? getAttrBy?
 repeat (any_goals (first|assumption|with_reducible apply zjI X L0 hm hb f1 f2 f3|wp_step))
end
structure z6d(K:W.Frag)(C:Addr):Prop where
 ob:W.mroIn K C (.type "object")=some true
 ba:W.mroIn K C (.type "BaseException")=some true
 f1:W.findIn K (.ref C) "__getattribute__" =some (some (.builtin "BaseException.__getattribute__"))
 f2:W.findIn K (.ref C) "__getattr__" =some none
 f3:W.findIn K (.ref C) "__class__" =some (some (.builtin "object.__class__"))
theorem z7L{K:W.Frag}{a C:Addr}(Z:z6d K C):W.KitX K (.ref a) (.ref C) (fun h=> ∃o,h.get? a=some o/\o.cls= .ref C) where
 ty:=fun M h _ ⟨o,e,c⟩=>c▸(W.Looks.ld e).andThen .now
 it:=fun M h X _=>by
  obtain⟨cd,hc,_⟩:=P2.mp Z.ob
  unfold W.clsIn at hc
  split at hc
  ·rename_i c' d' cd' sl' ho
   intro A' Q' E' s' k q
   unfold isType loadHead
   exact wpAny_bind (wpAny_loadPart (k _ _ (X _ _ ho)) (wpAny_pure q))
  ·cases hc
 ne:=fun h tp dd its n sl X htp=>by
  obtain⟨cd,hc,_⟩:=P2.mp Z.ob
  refine Bool.eq_false_iff.mpr fun q=> ?_
  have e:C=tp:=Value.ref.inj (beq_iff_eq.mp q)
  subst e
  unfold W.clsIn at hc
  split at hc
  ·rename_i c' d' cd' sl' ho
   have z:=(X _ _ ho).symm.trans htp
   cases z
  ·cases hc
 ca:=fun{prog w A E Q s} X ⟨o,e,c⟩ k=>by
  obtain⟨hh,g,d,t,os⟩:=s
  exact ze3 X (c▸(W.Looks.ld e).andThen .now) Z.ob Z.ba Z.f1 Z.f2 Z.f3 k
end L2
namespace L2
open PySem PySem.Spec PySem.Calls PyProof.Rows
noncomputable def cvV:V->Value
 | .ref a=> .ref a| .ty n=> .type n|_=> .none
noncomputable def zf7:V->Bool
 | .ref _=>true| .ty _=>true|_=>false
theorem z52: ∀{cs:List V} {us:List Value},(∀c∈cs,zf7 c=true)->j4 cs us->us=cs.map cvV
 |[],_,_, .nil=>rfl
 |c::cs,_,h, .cons r rs=>by
  rw[l6,<-z52 (fun x hx=>h x (i4 _ hx)) rs]
  have hc:=h c (o0 ..)
  cases c<;>first|(cases hc;done)|(have r:_=_:=r;rw[r];rfl)
noncomputable def clO(p:Addr)(us:List Value):HO:= .ext fun h=>h.get? p=some {cls:= .type "tuple",data:= .seq us.toArray}
section
variable{X:Cx}{pos:Pos}
noncomputable def zjJ(us:List Value):TE:=fun _ H Q=> ∀p,H p=none->Q (.ref p) (upd H p (clO p us))
theorem z53{es:List Expr}{k}{cs:List V}{t:TA}(h:PA X es t)(ht: ∀σ H Q,Q cs H->t σ H Q)(hca:cs.all zf7=true)(hl:Nat.ble cs.length 40=true):PE X (.Tuple es k pos) (zjJ (cs.map cvV)):=by
 have hc: ∀c∈cs,zf7 c=true:=A6.mp hca
 have hl:cs.length<=40:=B1 hl
 intro pins s σ H Q I hq
 refine wpAny_Tuple_spliced (thn (h pos pins s σ H (fun vs H1=>vs=cs/\H1=H) I (ht _ _ _ ⟨rfl,rfl⟩)) fun us s1 ⟨xs,H1,I1,r,e1,e2⟩=>⟨?_, ?_⟩)
 ·rw[<-r.length,e1,sizeLine_eq];lia
 ·subst e1 e2
  have hu:=z52 hc r
  subst hu
  have hf:H1 s1.heap.objs.size=none:=I1.hok.fresh (c9 _)
  refine⟨.ref s1.heap.objs.size,upd H1 s1.heap.objs.size (clO s1.heap.objs.size (xs.map cvV)),I1.laid (t':=s1.toks) (fun b u e=>Heap.get?_push_of_some _ e) (c9 _) ?_,rfl,hq _ hf⟩
  exact⟨Heap.get?_push_size _ rfl,⟨_,Heap.get?_push_size _ rfl⟩,fun h1 h2 q k=>k _ q⟩
noncomputable def zjK(K:W.Frag)(c:V):List V->Hp->VK->Prop:=fun xs H Q=> ∃a o C b,xs=[.ref a,c]/\H a=some (z6c o)/\o.cls= .ref C/\z6d K C/\W.kitOne K (.ref C) (cvV c)=some b/\Q (.bl b) H
theorem z9P{c:V}(hc:zf7 c=true):CallR X (.builtin "isinstance") (zjK X.K c):=by
 intro pins s σ H xs us Q I r ⟨a,o,C,b,e,hx,ho,Z,hk,q⟩
 subst e
 cases r with
 |cons r1 r2=>
  cases r2 with
  |cons r2 r3=>
   cases r3
   have e1:_=Value.ref a:=r1
   subst e1
   have e2:=z52 (cs:=[c]) (fun x hx=>by cases hx with|head=>exact hc|tail _ h=>cases h) (.cons r2 .nil)
   cases e2
   have hob:s.heap.get? a=some o:=(I.hok a _ hx).1
   exact W.kia_one (z7L Z) I.kIn ⟨o,hob,ho⟩ hk (by intro z;cases z) fun tk=>⟨.bl b,H,I.tok tk,rfl,q⟩
noncomputable def zjL(K:W.Frag)(us:List Value):List V->Hp->VK->Prop:=fun xs H Q=> ∃a o C p b,xs=[.ref a, .ref p]/\H a=some (z6c o)/\o.cls= .ref C/\z6d K C/\H p=some (clO p us)/\W.kitAny K (.ref C) us=some b/\Q (.bl b) H
theorem z9Q{us:List Value}:CallR X (.builtin "isinstance") (zjL X.K us):=by
 intro pins s σ H xs vs Q I r ⟨a,o,C,p,b,e,hx,ho,Z,hp,hk,q⟩
 subst e
 cases r with
 |cons r1 r2=>
  cases r2 with
  |cons r2 r3=>
   cases r3
   have e1:_=Value.ref a:=r1
   subst e1
   have e2:_=Value.ref p:=r2
   subst e2
   have hob:s.heap.get? a=some o:=(I.hok a _ hx).1
   have htp:s.heap.get? p=some {cls:= .type "tuple",data:= .seq us.toArray}:=(I.hok p _ hp).1
   exact W.kia_tup (z7L Z) I.kIn ⟨o,hob,ho⟩ htp hk (by intro z;cases z) fun tk=>⟨.bl b,H,I.tok tk,rfl,q⟩
end
end L2
namespace L2
open PySem PySem.Spec PySem.SeqAt PySem.Calls PyProof.Rows
end L2
namespace L2
open PySem PySem.Spec PySem.Calls PyProof.Rows
structure zjM(k:Nat)(A:Around):Prop where
 dp:A.depth+3*k+5<recursionLimit
 un:A.units+16*k+200<cLine
 gd:A.guards=some []
structure FnOkH(P:Program)(w:World)(K:W.Frag)(mg:Str->Option Value)(base:Heap)(CX:CXT)(k:Nat)(f:Addr)(fd:FuncData)(ps:List Str)(sp:Sp):Prop where
 len: ∀vs H Q E,sp vs H Q E->vs.length=ps.length
 run: ∀(A:Around) (outer:List Env) (s:Shared) (H:Hp) (args:Args) (us:List Value) (vs:List V) (Q:VK) (E:XK),zjM k A->zfD P w K mg base A outer s H->BindsTo s fd args (ps.zip us)->j4 vs us->sp vs H Q E->
  codeAny (model P w) A (.call (.ref f) args) (CR CX outer P w H s Q E) s
end L2
namespace L2
open PySem PySem.Spec PyProof.Rows
end L2
namespace Mi
open PySem L2 PySem.Spec
open PyProof.Rows (envOfC)
structure XP(X:Cx)(G:Gx)(F:Fy)(E:L2.St->XK):Prop where
 ps:zgw X E
 xw: ∀c s',F.xw (.exc c) s'->∀ρ σv tv H C,F.tv0<:+tv->MR G F.toFx ρ H σv tv s'->G.cl c=some C->E σv (.ref C) none H
 no: ∀d s',F.xw d s'->∃c,d= .exc c
noncomputable def z7M(c:Str):MS:=fun s=> .ex (.exc c) s
section
variable{X:Cx}{G:Gx}{F:Fy}{E:L2.St->XK}{C:Addr}{x y:Str}{np cpos pos p:Pos}{j:Nat}
theorem ss_raise(hh:X.A.handled=none)(hx:XP X G F E)(hr:z3M X E)(hcl:G.cl x=some C)(hg:Gl X x)(hm:X.mg x=some (.ref C))(hq:W.excIn X.K C bmV "ValueError.__new__" =true)(hd:(x==("__debug__" :Str))=false:=by decide):
 SS X G F (.Raise (some (.Call (.Name x np) [.Constant (.str y) j p] [] cpos)) none pos) (z7M x):=
 PS.imp0 (zbF hh hr hg hm hq hd) fun D σ H ⟨tv,hs,ρ,s,M,W⟩=>hx.xw x s W ρ σ tv H C hs M hcl
end
open Classical in
noncomputable def z3N(r:RF)(ts:List D):M D:=fun s=>match r with
 | .ok t ts' n'=>if ts'=ts then .ok t {s with n:=n'} else
  if ∀l∈G1 s,l∈labsL ts->(findL l ts').isSome=true then .ok t {σ:=rpO (fun l=>findL l ts') s.σ,tm:=rpO (fun l=>findL l ts') s.tm,n:=n'} else .no
 | .ex d ts' n'=>if ts'=ts then .ex d {s with n:=n'} else
  if ∀l∈G1 s,l∈labsL ts->(findL l ts').isSome=true then .ex d {σ:=rpO (fun l=>findL l ts') s.σ,tm:=rpO (fun l=>findL l ts') s.tm,n:=n'} else .no
 | .no=> .no
noncomputable def z4A(f:FM)(ms:List (M D)):M D:=bd (mArgs ms) fun ts s=>z3N (f ts s.n) ts s
noncomputable def spX(G:Gx)(np:Nat)(f:FM):Sp:=fun vs H Q E=>vs.length=np/\∃ρ n ts,RDs G ρ H ts vs/\(∀i j,i<n->j<n->ρ i=ρ j->i=j)/\(∀l,l<n->∃o,H (ρ l)=some o)/\(∀l∈labsL ts,l<n)/\KD G.K H/\match f ts n with
 | .ok t ts' n'=> ∀ρ' v H',z4Y G ρ n ts vs H ρ' n' ts' H'->RD G ρ' H' t v->(∀l∈y4 t,l<n'/\(l<n->l∈labsL ts))->Q v H'
 | .ex d ts' n'=> ∃c,d= .exc c/\∀ρ' H' C,z4Y G ρ n ts vs H ρ' n' ts' H'->G.cl c=some C->E (.ref C) none H'
 | .no=>False
section
variable{X:Cx}{G:Gx}{F:Fy}{E:L2.St->XK}{ρ:Nat->Addr}{H:Hp}{σv tv:List (Option V)}{s:Stt}{np:Nat}
theorem z8x{ts:List D}{vs:List V}{f:FM}{Q:VK}(hx:XP X G F E)(hs:F.tv0<:+tv)(hl:vs.length=np)(M:MRL G F.toFx ρ H σv tv s ts vs)(W:wM G F σv tv (z3N (f ts s.n) ts s) Q):spX G np f vs H Q (E σv):=by
 refine⟨hl,ρ,s.n,ts,M.rd,M.m.inj,M.m.dom,fun l h=>(M.lb l h).1,M.m.kd, ?_⟩
 cases e:f ts s.n with
 |no=>rw[e] at W;exact W
 |ex d ts' n'=>
  rw[e] at W
  unfold z3N at W
  dsimp only at W
  split at W
  ·rename_i et
   subst et
   obtain⟨c,rfl⟩:=hx.no _ _ W
   exact⟨c,rfl,fun ρ' H' C P hc=>hx.xw c _ W ρ' σv tv H' C hs (M.m.call0 M.rd M.lb P) hc⟩
  ·split at W
   ·rename_i hc
    obtain⟨c,rfl⟩:=hx.no _ _ W
    exact⟨c,rfl,fun ρ' H' C P hcl=>hx.xw c _ W ρ' σv tv H' C hs (M.m.call M.rd M.lb P hc) hcl⟩
   ·exact False.elim W
 |ok t ts' n'=>
  rw[e] at W
  intro ρ' v H' P rd lbt
  have own: ∀l∈y4 t,F.A0 (ρ' l)\/F.H0 (ρ' l)=none:=fun l h=>by
   obtain⟨b1,b2⟩:=lbt l h
   by_cases hn:l<s.n
   ·rw[P.old l hn];exact(M.lb l (b2 hn)).2
   ·exact .inr (M.m.fresh0 (P.new l (F4.mp hn) b1))
  unfold z3N at W
  dsimp only at W
  split at W
  ·rename_i et
   subst et
   exact W.out (M.m.call0 M.rd M.lb P) rd fun l h=>⟨(lbt l h).1,own l h⟩
  ·split at W
   ·rename_i hc
    exact W.out (M.m.call M.rd M.lb P hc) rd fun l h=>⟨(lbt l h).1,own l h⟩
   ·exact False.elim W
theorem se_callX{e:Expr}{es:List Expr}{pos p:Pos}{k:Nat}{fa:Addr}{fd:FuncData}{ps:List Str}{x:Str}{f:FM}{ms:List (M D)}(hx:XP X G F E)(Fn:u2 X.prog X.w X.K X.mg X.base (CX1 X.prog X.w) k fa fd ps (spX G ps.length f))(hr:z2q k X.A)(hg:Gl X x)(hm:X.mg x=some (.ref fa))(hkp:W.keepIn X.K (.ref fa)=true)(hb:z2D X.K fd ps [])
 (ha:SA X G F (e::es) (mArgs ms)) (hln:ms.length=ps.length) (hdb:(x==("__debug__" :Str))=false:=by decide) (he:starEach (e::es) X.env=(false,eval e X.env)::starEach es X.env:=by rfl) (hpl:(backTo pos (starEach es X.env)).any (·.1)=false:=by rfl):
 SE X G F (.Call (.Name x p) (e::es) [] pos) (z4A f ms):=by
 refine PE.imp0 (zbG Fn hr hg hm hkp hb hx.ps ha hdb he hpl) fun σ H Q ⟨tv,hs,ρ,s,M,W⟩=>⟨tv,hs,ρ,s,M, ?_⟩
 unfold z4A bd at W
 cases e1:mArgs ms s with
 |ex d s1=>rw[e1] at W;exact W
 |no=>rw[e1] at W;exact W
 |ok ts s1=>
  rw[e1] at W
  intro ρ1 vs H1 M1
  exact z8x hx hs (by rw[<-M1.rd.length,z69 ms s ts s1 e1,hln]) M1 W
end
noncomputable def z1k(k:Nat)(tm:List (Option D)):List (Option D):=tm.drop (tm.length -k)
noncomputable def ze4(nl:Nat)(mb:MS):FM:=fun ts n=>match mb {σ:=ts.map some++l7 (nl -ts.length) none,tm:=ts.map some,n:=n} with
 | .nx s'=>match Z5 s'.tm with|some ts'=> .ok .non ts' s'.n|none=> .no
 | .rt t s'=>match Z5 s'.tm with|some ts'=> .ok t ts' s'.n|none=> .no
 | .ex d s'=>match Z5 (z1k ts.length s'.tm) with|some ts'=> .ex d ts' s'.n|none=> .no
 |_=> .no
noncomputable def zgB(G:Gx)(ρ:Nat->Addr)(n:Nat)(ts:List D)(vs:List V)(H:Hp)(lb: ∀l∈labsL ts,l<n)(dom: ∀l,l<n->∃o,H (ρ l)=some o)(E:XK):Fy:=
 {(z8v G ρ n ts vs H lb dom) with xw:=fun d s'=> ∃c ts',d= .exc c/\Z5 (z1k ts.length s'.tm)=some ts'/\∀ρ' H' C,z4Y G ρ n ts vs H ρ' s'.n ts' H'->G.cl c=some C->E (.ref C) none H'}
theorem MR.last{G:Gx}{F:Fx}{ρ:Nat->Addr}{H:Hp}{σv tv t0:List (Option V)}{s:Stt}(M:MR G F ρ H σv tv s)(h:t0<:+tv):MR G F ρ H σv t0 {s with tm:=z1k t0.length s.tm}:=by
 obtain⟨t1,rfl⟩:=h
 have hl:=M.tm.length
 have e:z1k t0.length s.tm=s.tm.drop t1.length:=by
  unfold z1k
  rw[hl,l8]
  congr 1
  lia
 have sub: ∀l∈Z4 (s.tm.drop t1.length),l∈Z4 s.tm:=fun l hm=>by
  rw[<-C3 t1.length s.tm,Y0]
  exact b9 _ hm
 rw[e]
 refine⟨M.sl,(Sl.split t1 M.tm).2,M.inj,M.dom,fun l h=>M.lab l ?_,fun l h=>M.own l ?_,M.frm,M.kd,M.frb,M.bas⟩
 ·rcases i5.mp h with h|h
  ·exact i3 _ h
  ·exact b9 _ (sub l h)
 ·rcases i5.mp h with h|h
  ·exact i3 _ h
  ·exact b9 _ (sub l h)
theorem fn_X{G:Gx}{P:Program}{w:World}{K:W.Frag}{mg:Str->Option Value}{base:Heap}{x qual:Str}{st:Stmt}{fa:Addr}{fd:FuncData}{N ps:List Str}{k:Nat}{mb:MS}(Fn:Fun K x qual st fa fd)(S:Z3 N ps (y2 st))(hG:G.K=K)
 (hb: ∀(cdv:Value) (A:Around) (outer:List Env) (s:Shared) (H:Hp) (E:XK) (F:Fy),z2q k (A.deeper (envOfC qual (y2 st) s.heap.objs.size fa cdv))->XP (z37 (CX1 P w) P w K mg base N qual (y2 st) fa cdv A outer s H E) G F (fun _=>E)->z3M (z37 (CX1 P w) P w K mg base N qual (y2 st) fa cdv A outer s H E) (fun _=>E)->SSs (z37 (CX1 P w) P w K mg base N qual (y2 st) fa cdv A outer s H E) G F (U0 st) mb):
 u2 P w K mg base (CX1 P w) (k+1) fa fd ps (spX G ps.length (ze4 N.length mb)):=by
 obtain⟨oc,od,kV,doc,pm,an,cdv,ct,osl,rfl,lk,hcd⟩:=Fn.ex
 refine zfF lk hcd S (fun vs H Q E h=>h.1) fun A outer s H vs Q E hr h=> ?_
 obtain⟨hl,ρ,n,ts,r,inj,dom,lb,kd,W⟩:=h
 have hlen:=r.length
 have hX:XP (z37 (CX1 P w) P w K mg base N qual (y2 st) fa cdv A outer s H E) G (zgB G ρ n ts vs H lb dom E) (fun _=>E):=by
  refine⟨fun pins σ H1 s1 e s2 I h=>z6T pins σ H1 s1 e s2 I h,fun c s' ⟨c',ts',e1,e2,q⟩ ρ' σv tv H' C hs M hc=> ?_,fun d s' ⟨c,ts',e1,_⟩=>⟨c,e1⟩⟩
  cases e1
  have M2:MR G (z8v G ρ n ts vs H lb dom).toFx ρ' H' σv (vs.map some) {s' with tm:=z1k ts.length s'.tm}:=by
   have:=MR.last (t0:=vs.map some) M hs
   rw[m7,<-hlen] at this
   exact this
  obtain⟨P,_⟩:=z2v inj M2 e2
  exact q ρ' H' C P hc
 have hR:z3M (z37 (CX1 P w) P w K mg base N qual (y2 st) fa cdv A outer s H E) (fun _=>E):=fun pins σ H1 s1 h' e C args I hm hE=>zgu I hm hE
 refine⟨_,hb cdv A outer s H E (zgB G ρ n ts vs H lb dom E) hr hX hR,vs.map some,P1 _,ρ,{σ:=ts.map some++l7 (N.length -ts.length) none,tm:=ts.map some,n:=n}, ?_, ?_⟩
 ·obtain⟨r1,r2⟩:=RDs.sl r
  have sub: ∀l∈G1 {σ:=ts.map some++l7 (N.length -ts.length) none,tm:=ts.map some,n:=n},l∈labsL ts:=fun l h=>by
   rcases i5.mp h with h|h
   ·have h:l∈Z4 (ts.map some++l7 (N.length -ts.length) none):=h
    rw[Y0] at h
    rcases i5.mp h with h|h
    ·rw[<-r2];exact h
    ·exact absurd h (z2u _)
   ·rw[<-r2];exact h
  refine⟨?_,r1,inj,dom,fun l h=>lb l (sub l h),fun l h=> .inl ⟨l,sub l h,rfl⟩,fun a o e=>⟨⟨o,e⟩,fun _=>e⟩,kd,fun l hl z=>z.2 l hl rfl,⟨c9 _,fun l _=>rfl⟩⟩
  show Sl G ρ H _ (vs.map some++l7 (N.length -vs.length) none)
  rw[<-hlen]
  exact r1.append (Sl.none_map _)
 ·unfold ze4 at W
  cases e:mb {σ:=ts.map some++l7 (N.length -ts.length) none,tm:=ts.map some,n:=n} with
  |nx s'=>
   erw[e] at W
   cases ea:Z5 s'.tm with
   |none=>erw[ea] at W
   |some ts'=>
    erw[ea] at W
    intro ρ' σv' H' M
    obtain⟨P,_⟩:=z2v (lb:=lb) (dom:=dom) inj M ea
    exact W ρ' .non H' P (by erw[RD]) fun l h=>by simp[y4] at h
  |rt t s'=>
   erw[e] at W
   cases ea:Z5 s'.tm with
   |none=>erw[ea] at W
   |some ts'=>
    erw[ea] at W
    intro ρ' σv' v H' M
    obtain⟨P,own⟩:=z2v (lb:=lb) (dom:=dom) inj M.m ea
    exact W ρ' v H' P M.rd1 fun l h=>⟨(M.lb1 l h).1,own l (M.lb1 l h).1 (M.lb1 l h).2⟩
  |bk s'=>erw[e] at W
  |ct s'=>erw[e] at W
  |ex d s'=>
   erw[e] at W
   cases ea:Z5 (z1k ts.length s'.tm) with
   |none=>erw[ea] at W
   |some ts'=>
    erw[ea] at W
    obtain⟨c,e1,q⟩:=W
    exact⟨c,ts',e1,ea,q⟩
  |no=>erw[e] at W
noncomputable def zf8(k:Str->Bool)(ie:Nat)(mb mh:MS):MS:=fun s=>match mb s with
 | .ex (.exc c) s'=>if k c then(match mh {σ:=s'.σ.set ie (some (.exc c)),tm:=z1k s.tm.length s'.tm,n:=s'.n} with
  | .rt d s''=> .rt d s''
  |_=> .no) else .no
 | .ex _ _=> .no
 |r=>r
noncomputable def zjN(G:Gx)(F:Fy)(k:Str->Bool)(ie:Nat)(mh:MS)(tv:List (Option V))(D:z5R):Fy:=
 {F with tv0:=tv,xw:=fun d s'=> ∃c,d= .exc c/\k c=true/\wS G F tv (match mh {σ:=s'.σ.set ie (some (.exc c)),tm:=z1k tv.length s'.tm,n:=s'.n} with| .rt d s''=> .rt d s''|_=> .no) D}
section
variable{X:Cx}{G:Gx}{F:Fy}{np hpos pos:Pos}{b₀:Stmt}{suite body:List Stmt}{x n:Str}{ie:Nat}{CB:Addr}{mb mh:MS}{k:Str->Bool}
theorem ss_try(hst:X.stack=X.env::X.outer)(hfr:X.env.frame=some X.env.locals)(hex:X.ex=[])(hK:X.K=G.K)(hg:Gl X x)(hm:X.mg x=some (.ref CB))(hN:X.N.Nodup)(hi:X.N[ie]? =some n)(hloc:X.env.scope.names.lookup n=some .local)
 (hk: ∀c C,G.cl c=some C->k c=true->W.exmOne X.K (.ref C) (.ref CB)=some true)
 (hb: ∀(pl:List (Addr×Obj)) (E':Value->Shared->Prop) (F':Fy) (E:L2.St->XK),XP (Xt X pl E') G F' E->SSs (Xt X pl E') G F' body mb) (hh: ∀a,SSs (Xm X a) G F (b₀::suite) mh) (hd:(x==("__debug__" :Str))=false:=by decide):
 SS X G F (.Try body [.ExceptHandler (some (.Name x np)) (some n) (b₀::suite) hpos] [] [] pos) (zf8 k ie mb mh):=by
 intro pins s σ H D I ⟨tv,hs,ρ,ms,M,W⟩
 refine wpAny_Try_except ?_
 have hlt:ms.tm.length=tv.length:=M.tm.length
 have hX:XP (Xt X (X.pn++pins) (zbH X [.ExceptHandler (some (.Name x np)) (some n) (b₀::suite) hpos] (SP X pins D))) G (zjN G F k ie mh tv D) (zgz X.K CB ie (tS G F mh) D):=by
  refine⟨fun pins' σ' H' s' e s2 I' h=> ?_,fun c s' ⟨c',e1,hkc,q⟩ ρ' σv tv' H' C hs' M' hc=> ?_,fun d s' ⟨c,e1,_⟩=>⟨c,e1⟩⟩
  ·exact zbI hst hfr hex hg hm hN hi hloc hh hd I'.unxt h
  ·cases e1
   refine⟨hk c C hc hkc,fun a o hn hKn ho hf=>⟨tv,hs,ρ',{σ:=s'.σ.set ie (some (.exc c)),tm:=z1k tv.length s'.tm,n:=s'.n}, ?_, ?_⟩⟩
   ·have M1:MR G F.toFx ρ' H' σv tv {s' with tm:=z1k tv.length s'.tm}:=MR.last (t0:=tv) M' hs'
    have kd:KD G.K (upd H' a (z6c o)):=fun b ob q=>by
     by_cases hb:b=a
     ·subst hb;rw[<-hK,hKn] at q;cases q
     ·rw[Z6 hb];exact M1.kd b ob q
    have M2:=M1.same (z39.new (z6c o) hn) kd
    have rd:RD G ρ' (upd H' a (z6c o)) (.exc c) (.ref a):=by
     erw[RD]
     exact⟨a,o,C,rfl,hc,ho,hf,Y2⟩
    have M3:=MRL.setS ie (⟨M2,RDs.one rd,fun l hl=>by simp[labsL,y4] at hl⟩:MRL G F.toFx ρ' (upd H' a (z6c o)) σv tv {s' with tm:=z1k tv.length s'.tm} [.exc c] [.ref a])
    exact M3.m
   ·revert q
    cases mh {σ:=s'.σ.set ie (some (.exc c)),tm:=z1k tv.length s'.tm,n:=s'.n} with
    |rt d s''=>exact fun q=>q
    |nx s''=>exact fun q=>q.elim
    |bk s''=>exact fun q=>q.elim
    |ct s''=>exact fun q=>q.elim
    |ex d s''=>exact fun q=>q.elim
    |no=>exact fun q=>q.elim
 have W':wS G (zjN G F k ie mh tv D) tv (mb ms) D:=by
  unfold zf8 at W
  cases e:mb ms with
  |nx s'=>rw[e] at W;exact W
  |rt d s'=>rw[e] at W;exact W
  |bk s'=>rw[e] at W;exact W
  |ct s'=>rw[e] at W;exact W
  |no=>rw[e] at W;exact W
  |ex d s'=>
   rw[e] at W
   cases d with
   |exc c=>
    dsimp only at W
    by_cases hkc:k c=true
    ·rw[if_pos hkc,hlt] at W;exact⟨c,rfl,hkc,W⟩
    ·rw[if_neg hkc] at W;exact False.elim W
   |_=>exact False.elim W
 refine wpAny_mono (hb (X.pn++pins) (zbH X [.ExceptHandler (some (.Name x np)) (some n) (b₀::suite) hpos] (SP X pins D)) (zjN G F k ie mh tv D) _ hX [] s σ H D I.xt ⟨tv,P1 _,ρ,ms,M,W'⟩) (fun f s1 q=> ?_) fun _ _ z=>z
 cases f with
 |next=>obtain⟨σ',H',I',q⟩:=q;exact wpAny_execs_nil ⟨σ',H',I'.unxt,q⟩
 |brk=>obtain⟨σ',H',I',q⟩:=q;exact⟨σ',H',I'.unxt,q⟩
 |cont=>obtain⟨σ',H',I',q⟩:=q;exact⟨σ',H',I'.unxt,q⟩
 |ret u=>obtain⟨v,σ',H',I',r,q⟩:=q;exact⟨v,σ',H',I'.unxt,r,q⟩
noncomputable def z9R(tb:Str->Option Bool)(m:M D):M D:=bd m fun d=>match d with
 | .exc c=>(match tb c with|some b=>rt (.bool b)|none=>fl)
 |_=>fl
theorem se_isX1{p:Pos}{x y:Expr}{m:M D}{c:V}{tb:Str->Option Bool}(hK:X.K=G.K)(hc:zf7 c=true)(ht: ∀r C b,G.cl r=some C->tb r=some b->z6d X.K C/\W.kitOne X.K (.ref C) (cvV c)=some b)(hgl:Gl X "isinstance")(hm:X.mg "isinstance" =none)(ha:SE X G F x m)(hy:PE X y (tC c))
 (he:starEach [x,y] X.env=(false,eval x X.env)::starEach [y] X.env:=by rfl) (he2:starEach [y] X.env=(false,eval y X.env)::starEach [] X.env:=by rfl) (hpl:(backTo pos (starEach [y] X.env)).any (·.1)=false:=by rfl):SE X G F (.Call (.Name "isinstance" p) [x,y] [] pos) (z9R tb m):=by
 refine PE.imp hK (z3n (z9P (c:=c) hc) hgl hm PyProof.Rows.Boot.«isinstance» (Y1 ha (Y1 hy z36 he2) he) (by decide) (by decide) he hpl) fun σ H Q ⟨tv,h⟩=>⟨tv,(z3G h).mono fun v H1 ⟨ρ1,s1,t,M1,W⟩=> ?_⟩
 cases t with
 |exc r=>
  have h1:=M1.rd1
  erw[RD] at h1
  obtain⟨a,o,C,e,hcl,ho,hf,hH⟩:=h1
  cases e
  cases eb:tb r with
  |none=>erw[eb] at W;exact False.elim W
  |some b=>
   erw[eb] at W
   obtain⟨z1,z2⟩:=ht r C b hcl eb
   exact⟨a,o,C,b,rfl,hH,ho,z1,z2,fun _=>W.flat M1.m rfl⟩
 |_=>exact False.elim W
theorem se_isXT{p:Pos}{x y:Expr}{m:M D}{us:List Value}{tb:Str->Option Bool}(hK:X.K=G.K)(ht: ∀r C b,G.cl r=some C->tb r=some b->z6d X.K C/\W.kitAny X.K (.ref C) us=some b)(hgl:Gl X "isinstance")(hm:X.mg "isinstance" =none)(ha:SE X G F x m)(hy:PE X y (zjJ us))
 (he:starEach [x,y] X.env=(false,eval x X.env)::starEach [y] X.env:=by rfl) (he2:starEach [y] X.env=(false,eval y X.env)::starEach [] X.env:=by rfl) (hpl:(backTo pos (starEach [y] X.env)).any (·.1)=false:=by rfl):SE X G F (.Call (.Name "isinstance" p) [x,y] [] pos) (z9R tb m):=by
 refine PE.imp hK (z3n (z9Q (us:=us)) hgl hm PyProof.Rows.Boot.«isinstance» (Y1 ha (Y1 hy z36 he2) he) (by decide) (by decide) he hpl) fun σ H Q ⟨tv,h⟩=>⟨tv,(z3G h).mono fun v H1 ⟨ρ1,s1,t,M1,W⟩=> ?_⟩
 cases t with
 |exc r=>
  have h1:=M1.rd1
  erw[RD] at h1
  obtain⟨a,o,C,e,hcl,ho,hf,hH⟩:=h1
  cases e
  cases eb:tb r with
  |none=>erw[eb] at W;exact False.elim W
  |some b=>
   erw[eb] at W
   obtain⟨z1,z2⟩:=ht r C b hcl eb
   intro q hq
   have sm:=z39.new (clO q us) hq
   exact⟨a,o,C,q,b,rfl,sm _ _ hH,ho,z1,Y2,z2,fun k=>W.flat (M1.m.same sm k) rfl⟩
 |_=>exact False.elim W
end
end Mi
namespace Mi
open PySem L2 PySem.Spec
inductive Al(Φ:Addr->Prop):List (Str×Addr)->Prop
 |nil:Al Φ []
 |cons {c:Str} {a:Addr} {l:List (Str×Addr)}:Φ a->Al Φ l->Al Φ ((c,a)::l)
theorem Al.at{Φ:Addr->Prop}{l:List (Str×Addr)}(h:Al Φ l){c:Str}{a:Addr}(e:l.lookup c=some a):Φ a:=by
 induction h with
 |nil=>cases e
 | @cons c' a' l h _ ih=>
  rw[A3] at e
  cases q:c==c' with
  |true=>rw[q] at e;cases e;exact h
  |false=>rw[q] at e;exact ih e
inductive Al2{β:Type}(Φ:Addr->β->Prop):List (Str×Addr)->List (Str×β)->Prop
 |nil:Al2 Φ [] []
 |cons {c:Str} {a:Addr} {b:β} {l:List (Str×Addr)} {r:List (Str×β)}:Φ a b->Al2 Φ l r->Al2 Φ ((c,a)::l) ((c,b)::r)
 |skip {c:Str} {a:Addr} {l:List (Str×Addr)} {r:List (Str×β)}:r.lookup c=none->Al2 Φ l r->Al2 Φ ((c,a)::l) r
theorem Al2.at{β:Type}{Φ:Addr->β->Prop}{l:List (Str×Addr)}{r:List (Str×β)}(h:Al2 Φ l r): ∀{c:Str} {a:Addr} {b:β},l.lookup c=some a->r.lookup c=some b->Φ a b:=by
 induction h with
 |nil=>intro c a b e;cases e
 | @cons c' a' b' l r h _ ih=>
  intro c a b e e2
  rw[A3] at e e2
  cases q:c==c' with
  |true=>rw[q] at e e2;cases e;cases e2;exact h
  |false=>rw[q] at e e2;exact ih e e2
 | @skip c' a' l r hn _ ih=>
  intro c a b e e2
  rw[A3] at e
  cases q:c==c' with
  |true=>rw[beq_iff_eq] at q;subst q;rw[hn] at e2;cases e2
  |false=>rw[q] at e;exact ih e e2
theorem z2K: ∀{l:List (Str×Addr)} {c:Str} {a:Addr},l.lookup c=some a->a∈l.map (·.2)
 |(c',a')::l,c,a,e=>by
  rw[A3] at e
  cases q:c==c' with
  |true=>rw[q] at e;cases e;exact o0 ..
  |false=>rw[q] at e;exact i4 _ (z2K e)
theorem z4B: ∀{l:List (Str×Addr)},(l.map (·.2)).Nodup->∀{c c':Str} {a:Addr},l.lookup c=some a->l.lookup c'=some a->c=c'
 |(k,v)::l,nd,c,c',a,e,e'=>by
  rw[l6,F2] at nd
  rw[A3] at e e'
  cases q:c==k with
  |true=>
   rw[q] at e;cases e
   cases q':c'==k with
   |true=>rw[beq_iff_eq] at q q';rw[q,q']
   |false=>rw[q'] at e';exact absurd (z2K e') nd.1
  |false=>
   rw[q] at e
   cases q':c'==k with
   |true=>rw[q'] at e';cases e';exact absurd (z2K e) nd.1
   |false=>rw[q'] at e';exact z4B nd.2 e e'
noncomputable def NSq(K:W.Frag)(a:Addr):Prop:= ∃o,K.lookup a=some o/\∀its n,o.data≠ .seq its n
theorem ze5{K:W.Frag}{C:Addr}{bm:List Value}{i:String}(q:W.excIn K C bm i=true):NSq K C:=by
 unfold W.excIn at q
 split at q
 ·rename_i dd cd sl ho
  exact⟨_,ho,fun its n z=>by cases z⟩
 ·cases q
noncomputable def mkG(K:W.Frag)(l:List (Str×Addr))(nd:(l.map (·.2)).Nodup)(ok:Al (NSq K) l):Gx:=⟨K,fun c=>l.lookup c,fun _ _ _ h h'=>z4B nd h h',fun _ _ h=>ok.at h⟩
section
variable{X:Cx}{G:Gx}{F:Fy}{E:L2.St->XK}
structure FnV(X:Cx)(G:Gx)(np:Nat)(a:Addr)(f:FM):Prop where
 ex: ∃k fd ps,ps.length=np/\u2 X.prog X.w X.K X.mg X.base (CX1 X.prog X.w) k a fd ps (spX G np f)/\z2q k X.A/\W.keepIn X.K (.ref a)=true/\z2D X.K fd ps []
end
end Mi
namespace Mi
open PySem L2 PySem.Spec
open PyProof.Rows (envOfC)
end Mi
namespace Mi
open PySem L2 PySem.Spec
noncomputable def isT:List D->Bool
 | .non::_=>false
 |_=>true
section
variable{G:Gx}{ρ:Nat->Addr}{H:Hp}
noncomputable def rdD:D->Option (List D×List D)
 | .dct _ ks vs=>if isT ks=true then some (ks,vs) else none
 | .fdc ks vs=>some (ks,vs)
 |_=>none
end
end Mi
namespace Mi
open PySem L2
end Mi
namespace PySem
end PySem
namespace L2
open PySem PySem.Spec PyProof.Rows
end L2
namespace Mi
open PySem L2 PySem.Spec
structure Dm(K:W.Frag)(C:Addr)(x qual:Str)(st:Stmt)(ps:List Str) where
 f:Addr
 d:FuncData
 F:Fun K x qual st f d
 b:z2D K d ps []
 h:zm0 K C x f
end Mi
namespace Mi
open PySem L2 PySem.Spec PyProof.Rows
end Mi
namespace Mi
open PySem L2 PySem.Spec PySem.SeqAt PySem.Calls PyProof.Rows
end Mi
namespace Mi
open PySem L2 PySem.Spec PyProof.Rows
section
variable{X:Cx}{G:Gx}{F:Fy}
noncomputable def zgC:List D->M D
 |[.tup ds]=>if zjH ds=true then rt (.str (er (.tup ds)).shown) else fl
 |[.lst l ds]=>if(plainL ds&&(er (.lst l ds)).showable&&decide ((er (.lst l ds)).depth<=60)&&decide ((er (.lst l ds)).shown.length<=sizeLine))=true then rt (.str (er (.lst l ds)).shown) else fl
 |_=>fl
theorem zgD:V2 G F (ziS G.K) zgC:=by
 intro ρ s ts vs H σv tv Q M W
 unfold zgC at W
 split at W
 ·rename_i ds
  exact zgs ρ s [.tup ds] vs H σv tv Q M W
 ·rename_i l ds
  split at W
  ·rename_i hc
   erw[i6,decide_eq_true_eq] at hc
   obtain⟨⟨⟨c1,c2⟩,c3⟩,c4⟩:=hc
   obtain⟨v,rfl,h,_⟩:=M.one
   obtain⟨p,xs,rfl,s1,r1,_⟩:=id (h.lstq (ds:=ds) rfl)
   exact⟨p,er (.lst l ds),rfl,RD.dp _ _ h (by erw[plain];exact c1),z3K _,c2,c3,c4,fun _=>W.flat M.m rfl⟩
  ·exact wfl W
 ·exact wfl W
end
end Mi
namespace L2
open PySem PySem.Spec PyProof.Rows
end L2
namespace Mi
open PySem L2
noncomputable def sNo:MS:=fun _=> .no
section
variable{X:Cx}{G:Gx}{F:Fy}{st:Stmt}
theorem ss_no:SS X G F st sNo:=fun pins s σ H D I h=>by
 obtain⟨tv,hs,ρ,s,M,W⟩:=h
 exact False.elim W
end
end Mi
namespace Mi
open PySem L2 PySem.Spec PyProof.Rows PySem F P
section
variable{X:Cx}{G:Gx}{F:Fy}
noncomputable def z6U:V->Option Str
 | .non=>some "None"
 | .bl b=>some (if b then "True" else "False")
 | .int i=>if i.natAbs.log2<1920 then some (toString i:String) else none
 | .str x=>some x
 |_=>none
noncomputable def zgE(K:W.Frag)(xs:List V)(H:Hp)(Q:VK):Prop:=(∃x t,xs=[x]/\z6U x=some t/\Q (.str t) H)\/ziS K xs H Q
theorem z9S(hg:X.A.guards=some [])(hu:X.A.units+64<cLine):CallR X (.type "str") (zgE X.K):=by
 intro pins s σ H xs us Q I r h
 rcases h with⟨x,t,rfl,e,q⟩|h
 ·obtain⟨u,rfl,r1⟩:=z1N r
  cases x with
  |non=>
   cases r1
   erw[z6U,Option.some.injEq] at e
   subst e
   exact str_of_none ⟨.str "None",H,I.tok _,⟨_,rfl⟩,q⟩
  |bl b=>
   cases r1
   erw[z6U,Option.some.injEq] at e
   subst e
   exact str_of_bool ⟨.str (if b then "True" else "False"),H,I.tok _,⟨_,rfl⟩,q⟩
  |int i=>
   obtain⟨t',rfl⟩:=r1
   erw[z6U] at e
   split at e
   ·rename_i hl
    erw[Option.some.injEq] at e
    subst e
    exact str_of_int hl ⟨.str (toString i:String),H,I.tok _,⟨_,rfl⟩,q⟩
   ·cases e
  |str y=>
   obtain⟨t',rfl⟩:=r1
   erw[z6U,Option.some.injEq] at e
   subst e
   exact str_of_str ⟨.str y,H,I,⟨_,rfl⟩,q⟩
  |_=>simp[z6U] at e
 ·exact z9E hg hu pins s σ H xs us Q I r h
noncomputable def z1g:List D->M D
 |[.non]=>rt (.str "None")
 |[.bool b]=>rt (.str (if b then "True" else "False"))
 |[.int i]=>if i.natAbs.log2<1920 then rt (.str (toString i:String)) else fl
 |[.str x]=>rt (.str x)
 |ds=>zgC ds
theorem ze6:V2 G F (zgE G.K) z1g:=by
 intro ρ s ts vs H σv tv Q M W
 unfold z1g at W
 split at W
 ·obtain⟨v,rfl,h,_⟩:=M.one
  erw[RD] at h;subst h
  exact .inl ⟨_,_,rfl,rfl,fun _=>W.flat M.m rfl⟩
 ·obtain⟨v,rfl,h,_⟩:=M.one
  erw[RD] at h;subst h
  exact .inl ⟨_,_,rfl,rfl,fun _=>W.flat M.m rfl⟩
 ·split at W
  ·rename_i hl
   obtain⟨v,rfl,h,_⟩:=M.one
   erw[RD] at h;subst h
   exact .inl ⟨_,_,rfl,by erw[z6U,if_pos hl],fun _=>W.flat M.m rfl⟩
  ·exact wfl W
 ·obtain⟨v,rfl,h,_⟩:=M.one
  erw[RD] at h;subst h
  exact .inl ⟨_,_,rfl,rfl,fun _=>W.flat M.m rfl⟩
 ·exact .inr (zgD ρ s _ vs H σv tv Q M W)
theorem G2(hk:X.K=G.K)(hg:X.A.guards=some [])(hu:X.A.units+64<cLine):Cb X G F (.type "str") z1g:=⟨_,hk▸z9S hg hu,ze6⟩
theorem zgF:OpR X (compareOp .NotEq) (fun x y H Q=> ∃i j,x= .str i/\y= .str j/\Q (.bl (!(i==j))) H):=by
 intro pins s σ H x y v u Q I rx ry h
 obtain⟨i,j,rfl,rfl,q⟩:=h
 exact zjf pins s σ H _ _ v u Q I rx ry ⟨rfl,by rw[z4N];exact q⟩
noncomputable def neS:D->D->M D
 | .str i, .str j=>rt (.bool (!(i==j)))
 |_,_=>fl
theorem zgG:z01 G F (fun x y H Q=> ∃i j,x= .str i/\y= .str j/\Q (.bl (!(i==j))) H) neS:=by
 intro ρ s t t' v u H σv tv Q M W
 unfold neS at W
 split at W
 ·obtain⟨h1,h2⟩:=M.rd2
  erw[RD] at h1 h2
  exact⟨_,_,h1,h2,W.flat M.m rfl⟩
 ·exact wfl W
theorem z3b:Cm X G F .NotEq neS:=⟨_,zgF,zgG⟩
end
end Mi
namespace L2
open PySem PySem.Spec PyProof.Rows
end L2
namespace Mi
open PySem L2 PySem.Spec PyProof.Rows
end Mi
namespace L2
open PySem PySem.Spec PyProof.Rows
theorem z8y{prog:Program}{w:World}{A:Around}(hh:A.handled=none)(I ax:Addr)(hne:ax≠I)(items:Array Value):
 WalksS prog w A I [I,ax] [I] (fun a b=>a=b) items.size (fun i v=>items[i]? =some v) (fun i s=>s.heap.IsListIter I ax i/\s.heap.IsList ax items) where
 sub:=fun b hb=>by simp at hb;simp[hb]
 grefl:=fun _=>rfl
 gtrans:=fun _ _ _ p q=>p.trans q
 frame:=fun _ _ _ _ st _ hk=>⟨st.1.at fun o e=>hk I (by simp) o e,st.2.at fun o e=>hk ax (by simp) o e⟩
 item:=fun i s Q E hi st hQ=>wpAny_pyNext_list_item st.1 st.2 (x:=items[i]) (by simp[hi]) fun h' hit' hs'=>
  hQ _ _ (by simp[hi]) ⟨hit',st.2.extBut hs'.extBut hne⟩ ⟨fun b o hb e=>hs'.extBut b o (fun h=>hb (by simp[h])) e,rfl,rfl,rfl,c9 _⟩
 done:=fun s Q E st hQ=>wpAny_pyNext_list_end hh st.1 st.2 (by simp) fun h' he'=>hQ _ ⟨fun b o hb e=>he' b o (fun h=>hb (by simp[h])) e,rfl,rfl,rfl,c9 _⟩
 self:=fun _ _ _ _ st hQ=>wpAny_pyIter_listiter st.1 hQ
theorem z4C(ns:List Int): ∀k,k<=ns.length->preSum (fun i=>(ns[i]?).getD 0) k=(ns.take k).sum
 |0,_=>by simp[preSum]
 |k+1,h=>by
  rw[preSum,z4C ns k (by lia),S2,T6]
  simp[show k<ns.length by lia]
section
variable{X:Cx}
theorem z9T(hc:X.A.handled=none):CallR X (.builtin "sum") (fun xs H Q=> ∃(p:Addr) (ns:List Int),xs=[.ref p]/\SqL X.K H p (ns.map V.int)/\Q (.int ns.sum) H):=by
 intro pins s σ H xs us Q I r h
 obtain⟨p,ns,rfl,hs,q⟩:=h
 obtain⟨u,rfl,ru⟩:=z1N r
 cases ru
 obtain⟨its,rv,pl,_⟩:=I.list hs
 have hl:=pl.isList
 have hlen:ns.length=its.length:=by have:=Paired.length rv;simpa using this
 have hlt:p<s.heap.objs.size:=by obtain⟨_,e,_⟩:=hl;exact Heap.lt_size e
 refine call_sum_walkAnyS (wpAny_pyIter_list hl ?_)
 refine⟨s.heap.objs.size,[s.heap.objs.size,p],[s.heap.objs.size],_,its.toArray.size,_,_,fun i=>(ns[i]?).getD 0,rfl,z8y (A:=X.A.in1) hc _ p (A2 hlt) its.toArray,
  ⟨⟨_,Heap.get?_push_size _ rfl,rfl,rfl⟩,hl.push _⟩,fun b hb=> ?_,fun i v hv=> ?_,fun s' t' hm=> ?_⟩
 ·erw[i8,t9,or_false] at hb
  rcases hb with rfl|rfl
  ·rw[PyProof.Rows.size_push'];exact D0 _
  ·rw[PyProof.Rows.size_push'];exact E8 hlt
 ·have hv:its[i]? =some v:=by simpa using hv
  have hi:i<ns.length:=by have:=(List.getElem?_eq_some_iff.mp hv).1;lia
  obtain⟨u,h1,h2⟩:=j4.get (i:=i) (x:=V.int ns[i]) rv (by simp[hi])
  rw[h1] at hv
  cases hv
  obtain⟨t,rfl⟩:=h2
  exact⟨t,by simp[hi]⟩
 ·have e:preSum (fun i=>(ns[i]?).getD 0) its.toArray.size=ns.sum:=by
   rw[l9,<-hlen,z4C ns _ (c9 _),List.take_length]
  rw[e]
  obtain⟨hp,g,d,tk,os⟩:=s
  obtain⟨hp',g',d',tk',os'⟩:=s'
  obtain⟨m1,m2,m3,m4,m5⟩:=hm
  dsimp only at m1 m2 m3 m4 m5
  subst m2 m3 m4
  exact⟨.int _,H,I.kept (h':=hp') (t':=tk') (fun b o e=>m1 b o (by
   erw[B0]
   exact A2 (Heap.lt_size e)) (Heap.get?_push_of_some _ e)),⟨_,rfl⟩,q⟩
end
end L2
namespace Mi
open PySem L2 PySem.Spec PyProof.Rows
section
variable{X:Cx}{G:Gx}{F:Fy}{e:Expr}{pos pos':Pos}
noncomputable def z1W:List D->Option (List Int)
 |[]=>some []
 | .int i::ds=>match z1W ds with|some ns=>some (i::ns)|none=>none
 |_=>none
theorem z6e{ρ:Nat->Addr}{H:Hp}: ∀{ds:List D} {xs:List V} {ns:List Int},RDs G ρ H ds xs->z1W ds=some ns->xs=ns.map V.int
 |[],xs,ns,h,e=>by erw[RDs] at h;erw[z1W] at e;cases e;exact h
 |d::ds,xs,ns,h,e=>by
  erw[RDs] at h
  obtain⟨x,r,rfl,h1,h2⟩:=h
  cases d with
  |int i=>
   erw[z1W] at e
   cases e2:z1W ds with
   |none=>rw[e2] at e;cases e
   |some ms=>
    rw[e2] at e
    cases e
    erw[RD] at h1
    rw[h1,z6e h2 e2];rfl
  |_=>simp[z1W] at e
noncomputable def ze7:List D->M D
 |[.lst _ ds]=>match z1W ds with|some ns=>rt (.int ns.sum)|none=>fl
 |_=>fl
theorem zgH:V2 G F (fun xs H Q=> ∃(p:Addr) (ns:List Int),xs=[.ref p]/\SqL G.K H p (ns.map V.int)/\Q (.int ns.sum) H) ze7:=by
 intro ρ s ts vs H σv tv Q M W
 unfold ze7 at W
 split at W
 ·rename_i l ds
  obtain⟨v,rfl,h,_⟩:=M.one
  obtain⟨p,xs,rfl,s1,r1,_⟩:=id (h.lstq (ds:=ds) rfl)
  cases e:z1W ds with
  |none=>rw[e] at W;exact wfl W
  |some ns=>
   rw[e] at W
   refine⟨p,ns,rfl, ?_,fun _=>W.flat M.m rfl⟩
   rw[<-z6e r1 e];exact s1
 ·exact wfl W
theorem zgI(hk:X.K=G.K)(hd:X.A.handled=none):Cb X G F (.builtin "sum") ze7:=⟨_,hk▸z9T hd,zgH⟩
end
end Mi
namespace L2
open PySem PySem.Spec PyProof.Rows
end L2
namespace Mi
open PySem L2
end Mi
namespace So
open PySem PySem.W PyProof.Rows PySem.SeqAt
end So
namespace L2
open PySem PySem.Spec PyProof.Rows
end L2
namespace Mi
open PySem L2 PySem.Spec PyProof.Rows
end Mi
namespace PySem
end PySem
namespace L2
open PySem PySem.Spec PyProof.Rows
end L2
namespace Mi
open PySem L2
end Mi
namespace So
open PySem PySem.W PyProof.Rows PySem.SeqAt
end So
namespace L2
open PySem PySem.Spec PyProof.Rows
end L2
namespace L2
open PySem PySem.Spec PyProof.Rows
open Sem (wp)
open AutoSeq1 (wpAny_loadPart')
section
variable{prog:Program}{w:World}{A:Around}{E:Value->Shared->Prop}{s:Shared}
theorem z6V{T newId initId:String}{Bn Bi:Builtin}{args:List Value}{kw:List (Str×Value)}{S:PySem.Spec}{Q Q₁:Value->Shared->Prop}(ft:TypeCalled T newId initId)
 (hct:checkTypeCall T ⟨args,kw⟩=pure ()) (hcn:checkBuiltinCall newId ⟨.type T::args,kw⟩=pure ())
 (entryN:entryFor table newId=some Bn) (entryI:entryFor table initId=some Bi) (g:Meets (Bn ⟨.type T::args,kw⟩) S)
 (h:S A.in1 (wants Q₁ E) s)
 (hnext: ∀obj s₁,Q₁ obj s₁->s₁.TypeIs obj T/\argsOk initId ⟨obj::args,kw⟩/\∃Si,Meets (Bi ⟨obj::args,kw⟩) Si/\Si A.in1 (wants (fun r s₂=>r= .none/\Q obj s₂) E) s₁):
 wpAny (model prog w) A (call (.type T) args kw) Q E s:=by
 obtain⟨c,tl,hmro⟩:=ft.mro
 have hmade:=ft.made
 have hsub:=ft.sub
 refine wpAny_call (codeAny_of_tree ?_)
 show wpAny _ _ (callAny (.type T) _) _ _ _
 refine wpAny_pure ⟨Code.quiet_builtin _ (by decide+kernel),codeAny_builtin F.entry_type_call ?_⟩
 rw[Around.under_plain (weight_type_call_type T args kw) (units_type_call_type T args kw)]
 have h1:=ft.notType
 have h2:=ft.canCreate
 repeat (any_goals (first|assumption|wp_step))
 refine codeAny_mono (codeAny_call_builtin ft.plain entryN (wpAny_of_eq hcn (g prog w A.in1 _ s h))) fun r s₁ hr=> ?_
 cases r with
 |error e=>exact hr
 |ok fl=>
  cases fl with
  |ret obj=>
   obtain⟨hT,hok,Si,gi,hsi⟩:=hnext _ _ hr
   have hli:=ft.init.lookup
   have hbi:=ft.init.bind obj
   repeat (any_goals (first|assumption|wp_step))
   refine codeAny_mono (codeAny_call_builtin ft.init.plain entryI (ft.init.check _ _ _ _ _ _ _ _ hT hok (gi prog w A.in1 _ s₁ hsi))) fun r₂ s₂ hr₂=> ?_
   cases r₂ with
   |error e=>exact hr₂
   |ok fl₂=>
    cases fl₂ with
    |ret r=>
     obtain⟨rfl,hq⟩:=hr₂
     repeat (any_goals (first|assumption|wp_step))
    |_=>exact hr₂.elim
  |_=>exact hr.elim
end
theorem z4b(a b:Value):checkTypeCall "enumerate" ⟨[a],[("start",b)]⟩=pure ():=by kernel_rfl
theorem z54(a b:Value):checkBuiltinCall "enumerate.__new__" ⟨[.type "enumerate",a],[("start",b)]⟩=pure ():=by kernel_rfl
theorem z8z(a b c:Value):argsOk "object.__init__" ⟨[a,b],[("start",c)]⟩:=by
 unfold argsOk;kernel_rfl
theorem zjO{T newId:String}{self a b:Value}(hl:typeLookup (.type T) "__init__" =pure (some (.builtin "object.__init__")))
 (hm:Bind.madeBy (.type T)=pure (some newId)) (hne:(some newId !=some "object.__new__")=true):
 Meets (Builtin.«object.__init__» ⟨[self,a],[("start",b)]⟩) (fun _ R s=>s.TypeIs self T/\R (.ok (.ret .none)) s):=by
 refine Meets.of_wp fun prog w A R s hs=> ?_
 obtain⟨hT,hq⟩:=hs
 repeat (any_goals (first|assumption|wp_step))
 exact⟨_,rfl,hq⟩
theorem z6W(l:Addr)(items:Array Value)(n:Nat)(dct:Option Addr)(sl:Array (Option Value))(t:Tok):
 Meets (Builtin.«enumerate.__new__» ⟨[.type "enumerate", .ref l],[("start", .int 1 t)]⟩) (fun _ R s=>s.heap.get? l=some {cls:= .type "list",dict:=dct,data:= .seq items n,slots:=sl}/\
  R (.ok (.ret (.ref (s.heap.push {cls:= .type "list_iterator",data:= .fields #[.ref l, .int 0 0]}).objs.size)))
   {s with heap:=(s.heap.push {cls:= .type "list_iterator",data:= .fields #[.ref l, .int 0 0]}).push {cls:= .type "enumerate",data:= .fields #[.none, .bool false, .ref s.heap.objs.size,rawInt 1, .none, .none]}}):=
 .of_wp fun prog w A R s h=>by
  obtain⟨hp,g,d,tk,os⟩:=s;obtain⟨hl,h⟩:=h
  have hsub:=sub_enumerate
  have hL:Heap.IsList (Shared.heap ⟨hp,g,d,tk,os⟩) l items:=⟨_,hl,rfl,n,rfl⟩
  wp_walk using wpAny_loadPart' hl
  refine wpAny_stack_any fun st=>wpAny_pure ?_
  split
  ·rename_i c _ _ _ _ _
   cases(c==Value.type "enumerate")
   ·wp_walk using wpAny_loadPart' hl,wpAny_pyIter_list hL
    exact⟨_,rfl,h⟩
   ·wp_walk using wpAny_loadPart' hl,wpAny_pyIter_list hL
    exact⟨_,rfl,h⟩
  ·wp_walk using wpAny_loadPart' hl,wpAny_pyIter_list hL
   exact⟨_,rfl,h⟩
end L2
namespace L2
open PySem PySem.Spec PyProof.Rows
open Sem (wp)
section
variable{prog:Program}{w:World}{A:Around}{E:Value->Shared->Prop}{s:Shared}
theorem z8A{l:Addr}{items:Array Value}{t:Tok}{Q:Value->Shared->Prop}(hL:s.heap.IsList l items)
 (h: ∀h',IsEnum h' (s.heap.objs.size+1) s.heap.objs.size 1 .none->h'.IsListIter s.heap.objs.size l 0->h'.objs.size=s.heap.objs.size+2->
  (∀b o,s.heap.get? b=some o->h'.get? b=some o)->Q (.ref (s.heap.objs.size+1)) {s with heap:=h'}):
 wpAny (model prog w) A (call (.type "enumerate") [.ref l] [("start", .int 1 t)]) Q E s:=by
 obtain⟨⟨c,dct,dt,sl⟩,hl,hc,n,hd⟩:=hL
 replace hc:c= .type "list" :=hc
 replace hd:dt= .seq items n:=hd
 subst hc hd
 refine z6V (Q₁:=fun obj s₁=>s₁.TypeIs obj "enumerate" /\Q obj s₁) F.called_enumerate (z4b _ _) (z54 _ _) F.entry_enumerate_new F.entry_object_init
  (z6W l items n dct sl t) ⟨hl, ?_⟩ fun obj _ hq=>⟨hq.1,z8z obj _ _,_,zjO F.called_enumerate.init.lookup F.called_enumerate.made (by decide),hq.1,rfl,hq.2⟩
 have hz:(s.heap.push {cls:= .type "list_iterator",data:= .fields #[.ref l, .int 0 0]}).objs.size=s.heap.objs.size+1:=Heap.size_push ..
 show _/\_
 rw[hz]
 have he:IsEnum ((s.heap.push {cls:= .type "list_iterator",data:= .fields #[.ref l, .int 0 0]}).push
  {cls:= .type "enumerate",data:= .fields #[.none, .bool false, .ref s.heap.objs.size,rawInt 1, .none, .none]}) (s.heap.objs.size+1) s.heap.objs.size 1 .none:=by
  have:=Heap.get?_push_size (s.heap.push {cls:= .type "list_iterator",data:= .fields #[.ref l, .int 0 0]})
   (o:={cls:= .type "enumerate",data:= .fields #[.none, .bool false, .ref s.heap.objs.size,rawInt 1, .none, .none]}) rfl
  rw[hz] at this;exact this
 refine⟨⟨_,he,rfl⟩,h _ he ⟨_,Heap.get?_push_of_some _ (Heap.get?_push_size _ rfl),rfl,rfl⟩ (by rw[Heap.size_push,hz]) fun b o x=>Heap.get?_push_of_some _ (Heap.get?_push_of_some _ x)⟩
end
theorem z6X{prog:Program}{w:World}{A:Around}(hh:A.handled=none)(it l:Addr)(hne:l≠it)(items:Array Value):
 Draws prog w A it [it,l] (items.size+1) (fun i v=>items[i - 1]? =some v) (fun i h=>0<i/\h.IsListIter it l (i - 1)/\h.IsList l items) where
 live:=fun _ _ st=>let⟨o,ho,_⟩:=st.2.1;⟨o,ho⟩
 frame:=fun _ _ _ st hk=>⟨st.1,st.2.1.at fun o e=>hk it (by simp) o e,let⟨o,ho,r⟩:=st.2.2;⟨o,hk l (by simp) o ho,r⟩⟩
 item:=fun i s Q E hi st hQ=>by
  have h0:=st.1
  refine wpAny_nextOf_list_item st.2.1 st.2.2 (x:=items[i - 1]'(by lia)) (by rw[Array.getElem?_eq_getElem (by lia)]) fun h' hit' hs'=> ?_
  exact hQ _ h' s.toks (by rw[Array.getElem?_eq_getElem (by lia)]) ⟨by lia,by rw[show i+1 - 1=i - 1+1 by lia];exact hit',st.2.2.extBut hs'.extBut hne⟩ hs'
 done:=fun s Q E st hE=>wpAny_nextOf_list_end hh st.2.1 st.2.2 (by simp) hE
noncomputable def Its(K:W.Frag)(a:Addr):It:=
 ⟨fun i H=> ∃xs x,SqL K H a xs/\xs[i]? =some x,fun i H v H'=> ∃p x,H p=none/\v= .ref p/\H'=upd H p (.tup [.int ((i+1:Nat):Int),x])/\(∀xs,SqL K H a xs->xs[i]? =some x)/\∀b o,K.lookup b=some o->H' b=none,fun i H=> ∃xs,SqL K H a xs/\xs.length<=i⟩
theorem z8B{P:Program}{w:World}{K:W.Frag}{elts:List Expr}{x1:Nat}{tpos:Pos}(a e it:Addr)(hne:e≠it):zcp P w K (.Tuple elts x1 tpos) (Its K a) [e,it] e (fun i h=> ∃old,IsEnum h e it ((i+1:Nat):Int) old/\h.IsListIter it a i) where
 mem:=by simp
 obj:=fun i h st b hb=>by
  obtain⟨old,h1,h2⟩:=st
  have hb:b=e\/b=it:=by simpa using hb
  rcases hb with rfl|rfl
  ·exact⟨_,h1,fun v z=>by
    have z':Data.fields _=Data.cell v:=z
    cases z'⟩
  ·obtain⟨o,e,c,d⟩:=h2
   exact⟨o,e,fun v z=>by rw[d] at z;cases z⟩
 keep:=fun i h h' st k=>by
  obtain⟨old,h1,h2⟩:=st
  exact⟨old,k e (by simp) _ h1,h2.at fun o q=>k it (by simp) o q⟩
 item:=by
  intro X hP hw hK hc i pins s σ H E I hf st hg
  subst hP hw hK
  obtain⟨old,st1,st2⟩:=st
  obtain⟨xs,x,hq,hx⟩:=hg
  obtain⟨its,rv,p,hz⟩:=I.list hq
  obtain⟨u,hu,ru⟩:=rv.get hx
  have p:s.heap.IsList a its.toArray:=p.isList
  have nai:a≠it:=fun z=>by
   obtain⟨o,q,c,_⟩:=id p
   obtain⟨o',q',c',_⟩:=id st2
   rw[z,q'] at q;cases q
   rw[c] at c';exact absurd c' (by decide)
  have nea:e∉[it,a]:=fun z=>by
   have z:e=it\/e=a:=by simpa using z
   rcases z with z|z
   ·exact hne z
   ·obtain⟨o,q,c,_⟩:=id p
    rw[<-z,st1] at q;cases q
    have c:Value.type "enumerate" =Value.type "list" :=c
    exact absurd c (by decide)
  have hlt:i+1<its.toArray.size+1:=by
   have:=(List.getElem?_eq_some_iff.mp hu).1
   simpa using this
  refine wpAny_pyNext_enum_itemD (z6X (A:=X.A.in1) (I.ok.hd hc) it a nai its.toArray) st1 ⟨Nat.succ_pos _,st2,p⟩ hlt hne nea fun u' h1 tk hP heo hst ht hsz hk=> ?_
  have eu:u'=u:=by
   have hu':its[i]? =some u:=hu
   have hP':its.toArray[i]? =some u':=hP
   rw[List.getElem?_toArray,hu'] at hP'
   exact(Option.some.inj hP').symm
  subst eu
  refine⟨_,rfl,wpAny_letOwnedTupleGo_enum heo fun h2 he2 hs2=> ?_⟩
  have hs2:Heap.SameBut e h1 h2:=hs2
  have hel:e<s.heap.objs.size:=Heap.lt_size st1
  have ht2:h2.get? s.heap.objs.size=some {cls:= .type "tuple",data:= .seq #[.int ((i+1:Nat):Int) tk,u']}:=(hs2.2 _ (P5 hel)).trans ht
  have fr: ∀b∈[e,it],b≠s.heap.objs.size:=fun b hb=>by
   have hb:b=e\/b=it:=by simpa using hb
   rcases hb with rfl|rfl
   ·exact A2 hel
   ·obtain⟨o,q,_⟩:=st2
    exact A2 (Heap.lt_size q)
  have I1:Inv X pins σ (upd H s.heap.objs.size (.tup [.int ((i+1:Nat):Int),x])) {s with heap:=s.heap.push {cls:= .type "tuple",data:= .seq #[.int ((i+1:Nat):Int) tk,u']},toks:=s.toks}:=I.laid (t':=s.toks) (o:= .tup [.int ((i+1:Nat):Int),x]) (fun b ob q=>Heap.get?_push_of_some _ q) (c9 _) ⟨by show 2<=sizeLine;decide,[.int ((i+1:Nat):Int) tk,u'], .cons ⟨_,rfl⟩ (.cons ru .nil),IsTup.new _ _⟩
  have f1: ∀b∈[e,it],z5T X pins (upd H s.heap.objs.size (.tup [.int ((i+1:Nat):Int),x])) b:=fun b hb=>⟨by rw[Z6 (fr b hb)];exact(hf b hb).1,(hf b hb).2⟩
  have I2:=I1.turnedL (h':=h2) (t':=tk+1) (fun b o hb q=>by
   have hb:b≠e/\b≠it:=by simpa using hb
   rcases Heap.get?_push_cases (show(s.heap.push {cls:= .type "tuple",data:= .seq #[.int ((i+1:Nat):Int) tk,u']}).get? b=some o from q) with⟨rfl,rfl⟩|q'
   ·exact ht2
   ·exact(hs2.2 b hb.1).trans (hk b o hb.1 hb.2 q')) f1
  refine⟨.ref s.heap.objs.size,_,I2,rfl,⟨_,x,I.hok.fresh (c9 _),rfl,rfl,fun ys hy=>by rw[I.list_inj hy hq];exact hx,fun b o q=>(I2.bs b o (I2.ok.mod.kin b o q)).2⟩,⟨u', ?_, ?_⟩,fun b hb=>(f1 b hb).1⟩
  ·have:((i+1+1:Nat):Int)=((i+1:Nat):Int)+1:=by push_cast;rfl
   rw[this];exact he2
  ·obtain⟨o,q,r⟩:=hst.2.1
   exact⟨o,(hs2.2 it (Ne.symm hne)).trans q,r⟩
 done:=by
  intro X hP hw hK hc i pins s σ H E I hf st hg
  subst hP hw hK
  obtain⟨old,st1,st2⟩:=st
  obtain⟨xs,hq,hx⟩:=hg
  obtain⟨its,rv,p,hz⟩:=I.list hq
  have p:s.heap.IsList a its.toArray:=p.isList
  have hl:=rv.length
  have hT:s.TypeIs (.ref e) "enumerate" :=⟨_,st1,rfl⟩
  unfold pyNext
  refine wpAny_bind (wpAny_attempt (wpAny_callSpecial?_slot (name:=Str.ofString "__next__") hT F.slot_enumerate_next
   (wpAny_call_entry F.slot_enumerate_next hT F.entry_enumerate_next ?_ (F.args_enumerate_next_1 _))))
  show wpAny _ _ (field (.ref e) 2>>=_) _ _ _
  refine wpAny_bind (wpAny_field st1 rfl (x:= .ref it) rfl ?_)
  refine wpAny_bind (wpAny_nextOf_list_end (A:=X.A.in1) (I.ok.hd hc) st2 p (by simp;lia) fun h' x he' hx'=> ?_)
  obtain⟨o,ho,hcc⟩:=hx'
  refine wpAny_bind (wpAny_isInstance (T:= "StopIteration") (b:=true) ⟨o,ho,hcc⟩ isSubtype_stop ?_)
  exact wpAny_pure ⟨rfl,I.turnedL (t':=s.toks) (fun b o hb q=>he' b o (fun z=>hb (by simp[z])) q) hf⟩
 self:=fun A i s Q E st h=>by
  obtain⟨old,st1,_⟩:=st
  exact wpAny_pyIter_enum st1 h
section
variable{X:Cx}
noncomputable def zjP(K:W.Frag)(ta:TA):TI:=fun σ H R=>ta σ H fun vs H1=> ∃a,vs=[.ref a]/\(∃xs,SqL K H1 a xs)/\R (Its K a) H1
theorem z55{M:Model}{A:Around}{E:Value->Shared->Prop}{s:Shared}{pos:Pos}{T:String}{first:List Value}{args:List (Bool×Sem Value)}{keywords:List (Option Str×Sem Value)}{Q:Value->Shared->Prop}
 (hplain:args.any (·.1)=false) (hkw:keywords.any (·.1.isNone)=false)
 (h:wpAny M A (evalArgs (.type T) true args keywords) (fun a s₁=>wpAny M A (call (.type T) (first++a.pos) a.kw) Q E s₁) E s):
 wpAny M A (callWith pos (.type T) first args keywords) Q E s:=by
 unfold callWith
 refine wpAny_bind (wpAny_holding (wpAny_mono h (fun a s₁ h₁=>wpAny_bind (wpAny_standAt ?_)) fun _ _ x=>x))
 erw[hplain,hkw,O5]
 refine wpAny_bind (wpAny_pure ?_)
 exact wpAny_bind (wpAny_mono h₁ (fun r s₂ hr=>wpAny_bind (wpAny_holding (wpAny_point (wpAny_pure hr)))) fun _ _ x=>x)
theorem zbL{a b:Expr}{ta:TA}{p pos tpos kp:Pos}{elts:List Expr}{x1:Nat}(hg:Gl X "enumerate")(hm:X.mg "enumerate" =none)(ha:PA X [a] ta)(hb:PE X b (tC (.int 1)))(hs:starEach [a] X.env=[(false,eval a X.env)]:=by rfl):PI X (.Tuple elts x1 tpos) (.Call (.Name "enumerate" p) [a] [⟨some "start",b,kp⟩] pos) (zjP X.K ta):=by
 intro pins s σ H R I h
 refine wpAny_Call_Name_kw (z4p I hg hm PyProof.Rows.Boot.«enumerate» ?_)
 refine z55 (by rw[hs];rfl) rfl (evalArgs_kw2 rfl (thn (ha pos pins s σ H _ I h) fun us s1 ⟨vs,H1,I1,r1,q1⟩=> ?_) hs)
 refine kwAll_cons (thn (hb pins s1 σ H1 (fun v H'=>v= .int 1/\H'=H1) I1 ⟨rfl,rfl⟩) fun u s2 ⟨v,H2,I2,r2,ev,eh⟩=>kwAll_nil ?_)
 subst ev eh
 obtain⟨l,e,⟨xs,hq⟩,q⟩:=q1
 subst e
 cases r1 with
 |cons r rr=>
  cases rr
  cases r
  obtain⟨t,rfl⟩:=r2
  obtain⟨its,rv,p,hz⟩:=I2.list hq
  refine z8A p.isList fun h' he hit hsz hk=> ?_
  refine wpAny_pyIter_enum he ?_
  have I3:Inv X pins σ H2 {s2 with heap:=h'}:=I2.kept (t':=s2.toks) hk
  refine⟨s2.heap.objs.size+1,[s2.heap.objs.size+1,s2.heap.objs.size],_,_,H2,rfl,I3,z8B l _ _ (by show ¬(s2.heap.objs.size+1=s2.heap.objs.size);lia),⟨_,he,hit⟩,fun b hb=> ?_,q⟩
  have hb:b=s2.heap.objs.size+1\/b=s2.heap.objs.size:=by simpa using hb
  rcases hb with rfl|rfl
  ·exact I2.fpOk (L8 _) (I2.hok.fresh (L8 _))
  ·exact I2.fpOk (c9 _) (I2.hok.fresh (c9 _))
end
end L2
namespace Mi
open PySem L2 PySem.Spec PyProof.Rows
section
variable{X:Cx}{G:Gx}{F:Fy}{a b tg e o:Expr}{pos apos cpos:Pos}{mo mi mx:M D}
noncomputable def zgJ(i:Nat):List (Option D)->Option (Option D)
 |some c::_=>(zaY c).map fun ds=>(ds[i]?).map fun d=> .tup [.int ((i+1:Nat):Int),d]
 |_=>none
noncomputable def zf9:ItK:=⟨1,zgJ,z3a⟩
theorem z7N{a:Addr}:zbx G (Its G.K a) zf9 [some (.ref a)]:=by
 intro F ρ H σv tvp tv s i M
 dsimp only[zf9]
 cases e:s.tm.drop tvp.length with
 |nil=>trivial
 |cons o r=>
  cases o with
  |none=>trivial
  |some c=>
   erw[zgJ]
   obtain⟨h,lb⟩:=MR.head (s:=s.popn tvp.length) M.popn e
   cases e1:zaY c with
   |none=>trivial
   |some ds=>
    erw[C1]
    obtain⟨a',xs,ea,sq,rr,sub⟩:=h.lstq e1
    cases ea
    cases e2:ds[i]? with
    |none=>
     erw[M9]
     refine⟨xs,sq, ?_⟩
     rw[<-rr.length]
     exact List.getElem?_eq_none_iff.mp e2
    |some d=>
     erw[C1]
     obtain⟨x,ex,rx⟩:=rr.get i d e2
     refine⟨⟨xs,x,sq,ex⟩, ?_⟩
     rintro x' H' ⟨p,y,hp,rfl,rfl,hx,kd⟩
     rw[hx xs sq] at ex
     cases ex
     have sm:=z39.new (.tup [.int ((i+1:Nat):Int),x]) hp
     refine⟨M.same sm kd,RDs.one ?_,fun l hl=>lb l (sub l (labsL_mem (List.mem_of_getElem? e2) l (by simpa only[labsL,y4,i9,n5] using hl)))⟩
     erw[RD]
     refine⟨p,_,rfl,Y2, ?_⟩
     have r1:=(RDs.one rx).same sm
     erw[RDs] at r1⊢
     obtain⟨x,r,e,h1,h2⟩:=r1
     cases e
     exact⟨_,_,rfl,by erw[RD],_,_,rfl,h1,rfl⟩
noncomputable def zlF(ts:List D):M ItK:=fun s=>match ts with
 |[.lst l ds]=> .ok zf9 (s.psh (.lst l ds))
 |[.ro ds]=> .ok zf9 (s.psh (.ro ds))
 |_=> .no
noncomputable def zfa(ms:List (M D)):M ItK:=bd (mArgs ms) zlF
theorem si_ens{p tpos kp:Pos}{elts:List Expr}{x1:Nat}{ms:List (M D)}(hk:X.K=G.K)(hg:Gl X "enumerate")(hm:X.mg "enumerate" =none)(ha:SA X G F [a] (mArgs ms))(hb:PE X b (tC (.int 1)))(hs:starEach [a] X.env=[(false,eval a X.env)]:=by rfl):SI X G F (.Tuple elts x1 tpos) (.Call (.Name "enumerate" p) [a] [⟨some "start",b,kp⟩] pos) (zfa ms):=by
 refine PI.imp0 (zbL hg hm ha hb hs) fun σ H R ⟨tv,hs,ρ,s,M,W⟩=>⟨tv,hs,ρ,s,M, ?_⟩
 unfold zfa bd at W
 cases e:mArgs ms s with
 |ex d s1=>rw[e] at W;exact W
 |no=>rw[e] at W;exact W
 |ok ts s1=>
  rw[e] at W
  intro ρ1 vs H1 M1
  rw[hk]
  unfold zlF at W
  dsimp only at W
  split at W
  ·rename_i ts' K s' hh
   split at hh
   ·cases hh
    obtain⟨v,rfl,h,_⟩:=M1.one
    obtain⟨a,xs,rfl,sq,r,_⟩:=h.lstq (ds:=_) rfl
    exact⟨a,rfl,⟨xs,sq⟩,W ρ1 H1 [some (.ref a)] _ rfl M1.push z7N⟩
   ·cases hh
    obtain⟨v,rfl,h,_⟩:=M1.one
    obtain⟨a,xs,rfl,sq,r,_⟩:=h.lstq (ds:=_) rfl
    exact⟨a,rfl,⟨xs,sq⟩,W ρ1 H1 [some (.ref a)] _ rfl M1.push z7N⟩
   ·cases hh
  ·rename_i hh
   split at hh<;>cases hh
  ·exact False.elim W
end
end Mi
namespace L2
open PySem PySem.Spec PyProof.Rows
end L2
namespace Mi
open PySem L2 PySem.Spec PyProof.Rows
end Mi
namespace L2
open PySem PySem.Spec PyProof.Rows
end L2
namespace Mi
open PySem L2 PySem.Spec PyProof.Rows
end Mi
namespace L2
open PySem PySem.Spec PyProof.Rows
section
variable{prog:Program}{w:World}{A:Around}{E:Value->Shared->Prop}{s:Shared}{z TI TO p q t u:Addr}{i j:Nat}{xs ys:Array Value}{a b:Value}
structure ZT(h:Heap)(z TI TO p q t u:Addr)(i j:Nat)(xs ys:Array Value)(a b:Value):Prop where
 z:IsZip h z TI TO .none
 ti:IsPair h TI (.ref p) (.ref q)
 to:IsPair h TO a b
 p:h.IsTupleIter p t i
 q:h.IsTupleIter q u j
 t:h.IsTuple t xs
 u:h.IsTuple u ys
end
end L2
namespace Mi
open PySem L2
end Mi
namespace L2
open PySem PySem.Spec PyProof.Rows
theorem z6f: ∀{ys:List Str} {us:List Value},j4 (ys.map V.str) us->StrsAre us ys
 |[],_, .nil=> .nil
 |y::ys,_, .cons ⟨t,e⟩ r=>by subst e;exact .cons y t (z6f r)
theorem z3O: ∀(l:List (Str×Tok)),j4 ((l.map (·.1)).map V.str) (strValues l)
 |[]=> .nil
 |(x,t)::l=> .cons ⟨t,rfl⟩ (z3O l)
section
variable{X:Cx}{tg:Expr}
noncomputable def zgK(K:W.Frag)(x:V)(xs:List V)(H:Hp)(Q:VK):Prop:= ∃(z:Str) (p:Addr) (ys:List Str),x= .str z/\xs=[.ref p]/\SqL K H p (ys.map V.str)/\(ys.map (·.length)).sum+ys.length*z.length<=sizeLine/\Q (.str (Txt.join z ys)) H
theorem ze8:MtR X "str.join" (zgK X.K):=by
 intro pins s σ H x xs v us Q I rx rs h
 obtain⟨z,p,ys,rfl,rfl,hs,hz,q⟩:=h
 obtain⟨t,rfl⟩:=rx
 obtain⟨u,rfl,ru⟩:=z1N rs
 cases ru
 obtain⟨its,rv,pl,_⟩:=I.list hs
 exact join_list pl.isList (by rw[List.toList_toArray];exact z6f rv) (by rw[sizeLine_eq] at hz;exact hz) fun t' k=>⟨.str (Txt.join z ys),H,I.tok _,⟨_,rfl⟩,q⟩
noncomputable def zcE(x:V)(xs:List V)(H:Hp)(Q:VK):Prop:= ∃(z y:Str),x= .str z/\xs=[.str y]/\(y.length==0)=false/\z.length+2<=sizeLine/\∀l,H l=none->Q (.ref l) (upd H l (.lst ((Txt.split z y).map V.str)))
theorem z9U{z y:Str}(hz:z.length+2<=sizeLine):(Txt.split z y).length<=sizeLine:=by
 unfold Txt.split
 split
 ·simp;lia
 ·split
  ·simp;lia
  ·have e1:=StrLaws.occ_length_le z y 0 z.length (z.length+1)
   rw[length_partsBetween]
   lia
theorem zbM:MtR X "str.split" zcE:=by
 intro pins s σ H x xs v us Q I rx rs h
 obtain⟨z,y,rfl,rfl,hy,hz,q⟩:=h
 obtain⟨t,rfl⟩:=rx
 obtain⟨u,rfl,t',rfl⟩:=z1N rs
 have hn:=z9U (y:=y) hz
 have fin: ∀(l:List (Str×Tok)) (tk:Nat),l.map (·.1)=Txt.split z y->EP X pins σ Q (.ref s.heap.objs.size) {s with heap:=s.heap.push {cls:= .type "list",data:= .seq (strValues l).toArray},toks:=tk}:=by
  intro l tk e
  refine⟨.ref s.heap.objs.size,_,I.laid (t':=tk) (fun b o hb=>Heap.get?_push_of_some _ hb) (c9 _) (show z1d X.prog X.w _ _ _ (.lst ((Txt.split z y).map V.str)) from⟨by rw[m7];exact hn,strValues l,0,e▸z3O l,Heap.get?_push_size _ rfl⟩),rfl,q _ (I.hok.fresh (c9 _))⟩
 by_cases h1:(decide (z.length<y.length)||decide (Builtin.Str.strKind z<Builtin.Str.strKind y))=true
 ·exact call_meets F.slot_str_split (typeIs_str _ _ _) F.entry_str_split (F.args_str_split_2 _ _) (meets_str_split_cannot_occur z y t t' h1) (fin [(z,t)] s.toks (if_pos h1).symm)
 ·have h1':=eq_false_of_ne_true h1
  by_cases hf:(Builtin.Str.occurrences z y 0 z.length (z.length+1)).isEmpty=true
  ·exact call_meets F.slot_str_split (typeIs_str _ _ _) F.entry_str_split (F.args_str_split_2 _ _) (meets_str_split_not_found z y t t' h1' hy hf) (fin [(z,t)] s.toks ((if_neg h1).trans (if_pos hf)).symm)
  ·have hf':=eq_false_of_ne_true hf
   have e:Txt.split z y=Builtin.Str.partsBetween z (Builtin.Str.occurrences z y 0 z.length (z.length+1)) y.length:=(if_neg h1).trans (if_neg hf)
   refine call_meets F.slot_str_split (typeIs_str _ _ _) F.entry_str_split (F.args_str_split_2 _ _) (meets_str_split_sep z y t t' h1' hy hf' (by lia) (by rw[<-e];exact hn)) ?_
   have z0:=fin (numbered s.toks (Builtin.Str.partsBetween z (Builtin.Str.occurrences z y 0 z.length (z.length+1)) y.length)) (s.toks+(Builtin.Str.partsBetween z (Builtin.Str.occurrences z y 0 z.length (z.length+1)) y.length).length) ((numbered_texts _ _).trans e.symm)
   rw[<-strsFrom_eq] at z0
   exact z0
theorem z9V:CallR X (.type "int") (fun xs H Q=> ∃x n,xs=[.str x]/\x.length<=640/\PySem.intText? x=some n/\Q (.int n) H):=by
 intro pins s σ H xs us Q I r h
 obtain⟨x,n,rfl,hl,hn,q⟩:=h
 obtain⟨u,rfl,t,rfl⟩:=z1N r
 exact W.KIN.call_text hn hl ⟨.int n,H,I.tok _,⟨_,rfl⟩,q⟩
noncomputable def Itc(x:Str):It:=⟨fun i _=>i<x.cps.size,fun i H v H'=>H'=H/\∃c,x.cps[i]? =some c/\v= .str ⟨#[c]⟩,fun i _=>x.cps.size<=i⟩
theorem zbN{P:Program}{w:World}{K:W.Frag}(it:Addr)(x:Str)(t:Tok){ty:String}(hty:ty= "str_ascii_iterator" \/ty= "str_iterator"):zcp P w K tg (Itc x) [it] it (fun i h=>h.IsStrIter it ty x t i) where
 mem:=by simp
 obj:=fun i h st b hb=>by
  have e:b=it:=by simpa using hb
  subst e
  obtain⟨o,e,c,d⟩:=st
  exact⟨o,e,fun v z=>by rw[d] at z;cases z⟩
 keep:=fun i h h' ⟨o,ho,r⟩ k=>⟨o,k it (by simp) o ho,r⟩
 item:=by
  intro X hP hw hK hc i pins s σ H E I hf st hg
  subst hP hw hK
  obtain⟨f0,f1,f2,f3,f4,f5⟩:=hf it (by simp)
  have W:Walks X.prog X.w X.A it [it] [it] x.cps.size (SignAt x) (fun i h=>h.IsStrIter it ty x t i):=by
   rcases hty with rfl|rfl
   ·exact Walks.strAscii (I.ok.hd hc) it x t
   ·exact Walks.strWide (I.ok.hd hc) it x t
  refine W.item i s _ _ hg st fun v h' tk hv st' kk=> ?_
  obtain⟨c,u,hx,rfl⟩:=hv
  have I1:Inv X pins σ H {s with heap:=h',toks:=tk}:=I.turned (fun b o hb e=>kk b o (by simpa using hb) e) f0 f1 f3 f4 f5
  obtain⟨o,e,c1,d⟩:=id st'
  exact⟨_,rfl,zbb (s:={s with heap:=h',toks:=tk}) e c1 d (by rcases hty with rfl|rfl<;>decide) ⟨.str ⟨#[c]⟩,H,I1,⟨u,rfl⟩,⟨rfl,c,hx,rfl⟩,st',fun b hb=>(hf b hb).1⟩⟩
 done:=by
  intro X hP hw hK hc i pins s σ H E I hf st hg
  subst hP hw hK
  obtain⟨f0,f1,f2,f3,f4,f5⟩:=hf it (by simp)
  have hx:x.cps[i]? =none:=Array.getElem?_eq_none hg
  rcases hty with rfl|rfl
  ·exact wpAny_pyNext_ascii_end (I.ok.hd hc) st hx fun h' eb=>⟨rfl,I.turned (t':=s.toks) (fun b o hb e=>eb b o hb e) f0 f1 f3 f4 f5⟩
  ·exact wpAny_pyNext_wide_end (I.ok.hd hc) st hx fun h' eb=>⟨rfl,I.turned (t':=s.toks) (fun b o hb e=>eb b o hb e) f0 f1 f3 f4 f5⟩
 self:=fun _ _ _ _ _ st h=>by
  rcases hty with rfl|rfl
  ·exact wpAny_pyIter_striter_ascii st h
  ·exact wpAny_pyIter_striter_wide st h
noncomputable def zm9(tl:TE):TI:=fun σ H R=>tl σ H fun x H1=> ∃z,x= .str z/\R (Itc z) H1
theorem zgL{l:Expr}{tl:TE}(hl:PE X l tl):PI X tg l (zm9 tl):=by
 intro pins s σ H R I h
 refine thn (hl pins s σ H _ I h) fun v s1 ⟨x,H1,I1,r1,q1⟩=> ?_
 obtain⟨z,rfl,q⟩:=q1
 obtain⟨t,rfl⟩:=r1
 have fin: ∀ty,ty= "str_ascii_iterator" \/ty= "str_iterator" ->PIE X pins σ tg R (.ref s1.heap.objs.size) {s1 with heap:=s1.heap.push {cls:= .type ty,data:= .fields #[.str z t, .int 0 0]}}:=by
  intro ty hty
  refine⟨s1.heap.objs.size,[s1.heap.objs.size],_,_,H1,rfl,I1.kept (t':=s1.toks) fun b o e=>Heap.get?_push_of_some _ e,zbN _ z t hty,⟨_,Heap.get?_push_size _ rfl,rfl,rfl⟩,fun b hb=> ?_,q⟩
  have e:b=s1.heap.objs.size:=by simpa using hb
  subst e
  exact I1.fpOk (c9 _) (I1.hok.fresh (c9 _))
 cases ha:z.cps.all (· <128)
 ·exact wpAny_pyIter_wide ha (fin _ (.inr rfl))
 ·exact wpAny_pyIter_ascii ha (fin _ (.inl rfl))
noncomputable def fmtV:V->Option Str
 | .int i=>if i.natAbs.log2<1920 then some (toString i:String) else none
 | .str x=>if x.length<=sizeLine then some x else none
 |_=>none
noncomputable def tFs:List (Str⊕TE)->Str->TE
 |[],z=>fun _ H Q=>z.length<=sizeLine/\Q (.str z) H
 | .inl y::ts,z=>fun σ H Q=>(z++y).length<=sizeLine/\tFs ts (z++y) σ H Q
 | .inr t::ts,z=>fun σ H Q=>t σ H fun v H1=> ∃y,fmtV v=some y/\(z++y).length<=sizeLine/\tFs ts (z++y) σ H1 Q
inductive PF(X:Cx):List Expr->List (Str⊕TE)->Prop where
 |nil:PF X [] []
 |lit {es:List Expr} {ts:List (Str⊕TE)} {x:Str} {j:Nat} {pos:Pos} (r:PF X es ts):PF X (.Constant (.str x) j pos::es) (.inl x::ts)
 |fld {e:Expr} {es:List Expr} {t:TE} {ts:List (Str⊕TE)} {pos:Pos} (h:PE X e t) (r:PF X es ts):PF X (.FormattedValue e (-1) none pos::es) (.inr t::ts)
theorem PF.go{es:List Expr}{ts:List (Str⊕TE)}(h:PF X es ts): ∀(z:Str) (pins:List (Addr×Obj)) (s:Shared) (σ:St) (H:Hp) (Q:VK),Inv X pins σ H s->tFs ts z σ H Q->wpAny (model X.prog X.w) X.A (joinParts z (evalEach es X.env)) (EP X pins σ Q) X.xe s:=by
 induction h with
 |nil=>
  intro z pins s σ H Q I h
  exact joinParts_nil ⟨.str z,H,I.tok _,⟨_,rfl⟩,h.2⟩ h.1
 |lit r ih=>
  intro z pins s σ H Q I h
  refine joinParts_cons (Calls.Constant_str ?_)
  exact⟨h.1,ih _ pins _ σ H Q (I.tok _) h.2⟩
 |fld he r ih=>
  intro z pins s σ H Q I h
  refine joinParts_cons (FormattedValue_plain (thn (he pins s σ H _ I h) fun v s1 ⟨x,H1,I1,r1,y,e,hz,q⟩=> ?_))
  cases x with
  |int i=>
   obtain⟨t,rfl⟩:=r1
   erw[fmtV] at e
   split at e
   ·rename_i hl
    cases e
    exact formatField_int_small hl ⟨hz,ih _ pins _ σ H1 Q (I1.tok _) q⟩
   ·cases e
  |str w=>
   obtain⟨t,rfl⟩:=r1
   erw[fmtV] at e
   split at e
   ·rename_i hl
    cases e
    exact formatField_str (fun t' tk=>⟨hz,ih _ pins _ σ H1 Q (I1.tok _) q⟩) hl
   ·cases e
  |_=>simp[fmtV] at e
theorem zjQ{v1 v2:Expr}{es:List Expr}{pos:Pos}{ts:List (Str⊕TE)}(h:PF X (v1::v2::es) ts):PE X (.JoinedStr (v1::v2::es) pos) (tFs ts Str.empty):=
 fun pins s σ H Q I q=>JoinedStr_many (h.go _ pins s σ H Q I q)
end
end L2
namespace Mi
open PySem L2 PySem.Spec PyProof.Rows
noncomputable def z4c:List D->Option (List Str)
 |[]=>some []
 | .str x::ds=>(z4c ds).map (x:: ·)
 |_=>none
noncomputable def J8(mo:M D)(ms:List (M D))(g:Str->List D->M D):M D:=bd mo fun x=>match x with
 | .str z=>bd (mArgs ms) (g z)
 |_=>fl
noncomputable def z28(z:Str):List D->M D
 |[.lst _ ds]=>match z4c ds with
  |some ys=>if(ys.map (·.length)).sum+ys.length*z.length<=sizeLine then rt (.str (Txt.join z ys)) else fl
  |none=>fl
 |_=>fl
noncomputable def V3(z:Str):List D->M D
 |[.str y]=>if(y.length==0)=false/\z.length+2<=sizeLine then zaZ ((Txt.split z y).map D.str) else fl
 |_=>fl
noncomputable def ixS(t t':D):M D:=match t,t' with
 | .str z, .int i=>if 0<=i/\i<2^63/\i<z.length then(match z.cps[i.toNat]? with|some c=>rt (.str ⟨#[c]⟩)|none=>fl) else fl
 |_,_=>fl
noncomputable def inS(t t':D):M D:=match t,t' with
 | .str i, .str j=>rt (.bool (!(Builtin.Str.occurrences j i 0 j.length 1).isEmpty))
 |_,_=>fl
noncomputable def z7O:List D->M D
 |[.str z]=>if z.length<=sizeLine then rt (.int z.length) else fl
 |ds=>z27 ds
noncomputable def z8C:List D->M D
 |[.str x]=>if x.length<=640 then(match PySem.intText? x with|some n=>rt (.int n)|none=>fl) else fl
 |ds=>zbt ds
noncomputable def zgM(z:Str):ItK:=⟨0,fun i _=>some ((z.cps[i]?).map fun c=> .str ⟨#[c]⟩),fun _=>z.cps.size⟩
noncomputable def z9W(m:M D):M ItK:=bd m fun d=>match d with
 | .str z=>rt (zgM z)
 |_=>fl
noncomputable def zbO:D->Option Str
 | .int i=>if i.natAbs.log2<1920 then some (toString i:String) else none
 | .str x=>if x.length<=sizeLine then some x else none
 |_=>none
noncomputable def mFs:List (Str⊕M D)->Str->M D
 |[],z=>if z.length<=sizeLine then rt (.str z) else fl
 | .inl y::ms,z=>if(z++y).length<=sizeLine then mFs ms (z++y) else fl
 | .inr m::ms,z=>bd m fun d=>match zbO d with
  |some y=>if(z++y).length<=sizeLine then mFs ms (z++y) else fl
  |none=>fl
inductive SF(P:Expr->M D->Prop):List Expr->List (Str⊕M D)->Prop where
 |nil:SF P [] []
 |lit {es:List Expr} {ms:List (Str⊕M D)} {x:Str} {j:Nat} {pos:Pos} (r:SF P es ms):SF P (.Constant (.str x) j pos::es) (.inl x::ms)
 |fld {e:Expr} {es:List Expr} {m:M D} {ms:List (Str⊕M D)} {pos:Pos} (h:P e m) (r:SF P es ms):SF P (.FormattedValue e (-1) none pos::es) (.inr m::ms)
theorem SF.mono{P Q:Expr->M D->Prop}{es:List Expr}{ms:List (Str⊕M D)}(h:SF P es ms)(k: ∀e m,P e m->Q e m):SF Q es ms:=by
 induction h with
 |nil=>exact .nil
 |lit r ih=>exact .lit ih
 |fld h r ih=>exact .fld (k _ _ h) ih
section
variable{X:Cx}{G:Gx}{F:Fy}{e a b c o tg iter:Expr}{es:List Expr}{pos apos cpos:Pos}
theorem z9X{ρ:Nat->Addr}{H:Hp}: ∀{ds:List D} {xs:List V} {ys:List Str},RDs G ρ H ds xs->z4c ds=some ys->xs=ys.map V.str
 |[],xs,ys,h,e=>by erw[RDs] at h;erw[z4c,Option.some.injEq] at e;subst h e;rfl
 |d::ds,xs,ys,h,e=>by
  erw[RDs] at h
  obtain⟨x,r,rfl,h1,h2⟩:=h
  cases d with
  |str y=>
   erw[z4c] at e
   cases e2:z4c ds with
   |none=>rw[e2] at e;cases e
   |some zs=>
    rw[e2] at e
    cases e
    erw[RD] at h1
    rw[h1,z9X h2 e2];rfl
  |_=>simp[z4c] at e
noncomputable def ziT(G:Gx)(F:Fy)(r:V->List V->Hp->VK->Prop)(g:Str->List D->M D):Prop:= ∀ρ s z ts vs H σv tv Q,MRL G F.toFx ρ H σv tv s ts vs->wM G F σv tv (g z ts s) Q->r (.str z) vs H (fun w H'=>KD G.K H'->Q w H')
theorem ze9{name:Str}{id:String}{r:V->List V->Hp->VK->Prop}{mo:M D}{ms:List (M D)}{g:Str->List D->M D}(hk:X.K=G.K)(slot:Slot "str" name id)(hty:typeOf (.builtin id)=pure (.type "method_descriptor"))(hm:MtR X id r)(hg:ziT G F r g)(ho:SE X G F o mo)(ha:SA X G F (e::es) (mArgs ms))
 (hbase:attributeBase o name X.env (eval o X.env)=eval o X.env:=by rfl)
 (hfew:((backTo cpos (starEach (e::es) X.env)).all (fun x=> !x.1)&&(backToKw cpos (keywordEach [] X.env)).all (fun x=>x.1.isSome)
  &&decide ((e::es).length+([]:List Keyword).length+(if([]:List Keyword).isEmpty then 0 else 1)<30))=true:=by rfl)
 (hline:(apos.endLine==cpos.line)=true:=by rfl) (hs:starEach (e::es) X.env=(false,eval e X.env)::starEach es X.env:=by rfl) (hplain:(backTo cpos (starEach es X.env)).any (·.1)=false:=by rfl):SE X G F (.Call (.Attribute o name apos) (e::es) [] cpos) (J8 mo ms g):=by
 refine PE.imp hk (zfK PySem.F.plainAttrs_str slot hty hm ho ha hbase hfew hline hs hplain) fun σ H Q h=> ?_
 obtain⟨tv,h⟩:=h
 have h0:=h.1
 refine⟨tv,(z3G h).mono fun v H1 ⟨ρ1,s1,t,M1,W⟩=> ?_⟩
 have rd:=M1.rd1
 cases t with
 |str z=>
  erw[RD] at rd
  subst rd
  refine⟨(show("str" :String)= "str" from rfl),tv,h0,ρ1,s1,M1.m, ?_⟩
  dsimp only[bd] at W
  cases e2:mArgs ms s1 with
  |ex d s2=>rw[e2] at W;exact W
  |no=>rw[e2] at W;exact W
  |ok ys s2=>rw[e2] at W;exact fun ρ2 us H2 M2=>hg _ _ _ _ _ _ _ _ _ M2 W
 |_=>exact False.elim W
structure Ct(X:Cx)(G:Gx)(F:Fy)(id:String)(g:Str->List D->M D):Prop where
 h: ∃r,MtR X id r/\ziT G F r g
theorem zea:ziT G F (zgK G.K) z28:=by
 intro ρ s z ts vs H σv tv Q M W
 unfold z28 at W
 split at W
 ·rename_i l ds
  obtain⟨v,rfl,h,_⟩:=M.one
  obtain⟨p,xs,rfl,s1,r1,_⟩:=id (h.lstq (ds:=ds) rfl)
  cases e:z4c ds with
  |none=>rw[e] at W;exact wfl W
  |some ys=>
   rw[e] at W
   dsimp only at W
   split at W
   ·rename_i hz
    exact⟨z,p,ys,rfl,rfl,by rw[<-z9X r1 e];exact s1,hz,fun _=>W.flat M.m rfl⟩
   ·exact wfl W
 ·exact wfl W
theorem z29(hk:X.K=G.K):Ct X G F "str.join" z28:=⟨_,hk▸ze8,zea⟩
theorem z56{ρ:Nat->Addr}{H:Hp}: ∀(ys:List Str),RDs G ρ H (ys.map D.str) (ys.map V.str)
 |[]=>by simp[RDs]
 |y::ys=>by
  erw[l6,RDs]
  exact⟨_,_,rfl,by erw[RD],z56 ys⟩
theorem z2w: ∀(ys:List Str),labsL (ys.map D.str)=[]
 |[]=>rfl
 |y::ys=>by erw[l6,labsL,y4,n5];exact z2w ys
theorem zbP:ziT G F zcE V3:=by
 intro ρ s z ts vs H σv tv Q M W
 unfold V3 at W
 split at W
 ·rename_i y
  split at W
  ·rename_i hc
   obtain⟨v,rfl,h,_⟩:=M.one
   erw[RD] at h
   subst h
   exact⟨z,y,rfl,rfl,hc.1,hc.2,fun l hl k=>z26 W M.m (z56 _) (fun l h=>by rw[z2w] at h;simp at h) hl k⟩
  ·exact wfl W
 ·exact wfl W
theorem z03:Ct X G F "str.split" V3:=⟨_,zbM,zbP⟩
theorem se_ctS{name:Str}{id:String}{mo:M D}{ms:List (M D)}{g:Str->List D->M D}(hk:X.K=G.K)(slot:Slot "str" name id)(hty:typeOf (.builtin id)=pure (.type "method_descriptor"))(hm:Ct X G F id g)(ho:SE X G F o mo)(ha:SA X G F (e::es) (mArgs ms))
 (hbase:attributeBase o name X.env (eval o X.env)=eval o X.env:=by rfl)
 (hfew:((backTo cpos (starEach (e::es) X.env)).all (fun x=> !x.1)&&(backToKw cpos (keywordEach [] X.env)).all (fun x=>x.1.isSome)
  &&decide ((e::es).length+([]:List Keyword).length+(if([]:List Keyword).isEmpty then 0 else 1)<30))=true:=by rfl)
 (hline:(apos.endLine==cpos.line)=true:=by rfl) (hs:starEach (e::es) X.env=(false,eval e X.env)::starEach es X.env:=by rfl) (hplain:(backTo cpos (starEach es X.env)).any (·.1)=false:=by rfl):SE X G F (.Call (.Attribute o name apos) (e::es) [] cpos) (J8 mo ms g):=by
 obtain⟨r,h1,h2⟩:=hm.h
 exact ze9 hk slot hty h1 h2 ho ha hbase hfew hline hs hplain
theorem zgN:z01 G F (fun x y H Q=> ∃z i c,x= .str z/\y= .int i/\0<=i/\i<2^63/\i<z.length/\z.cps[i.toNat]? =some c/\Q (.str ⟨#[c]⟩) H) ixS:=by
 intro ρ s t t' v u H σv tv Q M W
 obtain⟨h1,h2⟩:=M.rd2
 unfold ixS at W
 split at W
 ·rename_i z i
  split at W
  ·rename_i hc
   erw[RD] at h1 h2
   subst h1 h2
   cases e:z.cps[i.toNat]? with
   |none=>rw[e] at W;exact wfl W
   |some c=>rw[e] at W;exact⟨z,i,c,rfl,rfl,hc.1,hc.2.1,hc.2.2,e,W.flat M.m rfl⟩
  ·exact wfl W
 ·exact wfl W
theorem se_ixS{ma mb:M D}(ha:SE X G F a ma)(hb:SE X G F b mb)(hs:z4O b):SE X G F (.Subscript a b pos) (y3 ma mb ixS):=PE.imp0 (z6I ha hb hs) fun _ _ _ h=>z4R zgN h
theorem zgO:z01 G F (fun x y H Q=> ∃i j,x= .str i/\y= .str j/\Q (.bl (!(Builtin.Str.occurrences j i 0 j.length 1).isEmpty)) H) inS:=by
 intro ρ s t t' v u H σv tv Q M W
 obtain⟨h1,h2⟩:=M.rd2
 unfold inS at W
 split at W
 ·erw[RD] at h1 h2
  subst h1 h2
  exact⟨_,_,rfl,rfl,W.flat M.m rfl⟩
 ·exact wfl W
theorem zgP:Cm X G F .In inS:=⟨_,z97,zgO⟩
theorem z2a(hk:X.K=G.K):Cb X G F (.builtin "len") z7O:=⟨_,hk▸CallR.or z61 z38,by
 intro ρ s ts vs H σv tv Q M W
 unfold z7O at W
 split at W
 ·obtain⟨v,rfl,h,_⟩:=M.one
  erw[RD] at h;subst h
  split at W
  ·rename_i hz
   exact .inl ⟨_,rfl,hz,fun _=>W.flat M.m rfl⟩
  ·exact wfl W
 ·exact .inr (zcx ρ s _ vs H σv tv Q M W)⟩
theorem z57:Cb X G F (.type "int") z8C:=⟨_,CallR.or z9V z5U,by
 intro ρ s ts vs H σv tv Q M W
 unfold z8C at W
 split at W
 ·rename_i x
  obtain⟨v,rfl,h,_⟩:=M.one
  erw[RD] at h;subst h
  split at W
  ·rename_i hz
   cases e:PySem.intText? x with
   |none=>rw[e] at W;exact wfl W
   |some n=>rw[e] at W;exact .inl ⟨_,_,rfl,hz,e,fun _=>W.flat M.m rfl⟩
  ·exact wfl W
 ·exact .inr (zcy ρ s _ vs H σv tv Q M W)⟩
theorem zbQ{z:Str}:zbx G (Itc z) (zgM z) []:=by
 intro F ρ H σv tvp tv s i M
 erw[zgM]
 cases e:z.cps[i]? with
 |none=>exact Array.getElem?_eq_none_iff.mp e
 |some c=>
  refine⟨(Array.getElem?_eq_some_iff.mp e).1, ?_⟩
  rintro x H' ⟨rfl,c',e',rfl⟩
  rw[e] at e'
  cases e'
  exact⟨M,RDs.one (by erw[RD]),fun l hl=>by simp[labsL,y4] at hl⟩
theorem si_str{m:M D}(h:SE X G F e m):SI X G F tg e (z9W m):=by
 refine PI.imp0 (zgL h) fun σ H R ⟨tv,hs,ρ,s,M,W⟩=>⟨tv,hs,ρ,s,M, ?_⟩
 unfold z9W bd at W
 cases e1:m s with
 |ex d s1=>rw[e1] at W;exact W
 |no=>rw[e1] at W;exact W
 |ok t s1=>
  rw[e1] at W
  intro ρ1 v H1 M1
  have rd:=M1.rd1
  cases t with
  |str z=>
   erw[RD] at rd
   subst rd
   exact⟨z,rfl,W ρ1 H1 [] _ rfl M1.m zbQ⟩
  |_=>exact False.elim W
theorem zgQ{ρ:Nat->Addr}{H:Hp}{d:D}{v:V}{y:Str}(h:RD G ρ H d v)(e:zbO d=some y):fmtV v=some y:=by
 cases d<;>erw[zbO] at e<;>try cases e
 ·erw[RD] at h;subst h;exact e
 ·erw[RD] at h;subst h;exact e
theorem z9Y{σ:L2.St}{tv:List (Option V)}: ∀(ms:List (Str⊕M D)) (z:Str) (H:Hp) (Q:VK),tMv G F (mFs ms z) σ tv H Q->tFs (ms.map (Sum.map id (tM G F))) z σ H Q
 |[],z,H,Q,h=>by
  obtain⟨hs,ρ,s,M,W⟩:=h
  unfold mFs at W
  split at W
  ·rename_i hz
   exact⟨hz,W.flat M rfl⟩
  ·exact wfl W
 | .inl y::ms,z,H,Q,h=>by
  obtain⟨hs,ρ,s,M,W⟩:=h
  unfold mFs at W
  split at W
  ·rename_i hz
   exact⟨hz,z9Y ms _ H Q ⟨hs,ρ,s,M,W⟩⟩
  ·exact wfl W
 | .inr m::ms,z,H,Q,h=>by
  have hs:=h.1
  unfold mFs at h
  refine⟨tv,(z3G h).mono fun v H1 ⟨ρ1,s1,t,M1,W⟩=> ?_⟩
  cases e:zbO t with
  |none=>rw[e] at W;exact wfl W
  |some y=>
   rw[e] at W
   dsimp only at W
   split at W
   ·rename_i hz
    exact⟨y,zgQ M1.rd1 e,hz,z9Y ms _ H1 Q ⟨hs,ρ1,s1,M1.m,W⟩⟩
   ·exact wfl W
theorem SF.pf{ms:List (Str⊕M D)}(h:SF (SE X G F) es ms):PF X es (ms.map (Sum.map id (tM G F))):=by
 induction h with
 |nil=>exact .nil
 |lit r ih=>exact .lit ih
 |fld h r ih=>exact .fld h ih
theorem se_fs{ms:List (Str⊕M D)}(h:SF (SE X G F) (a::b::es) ms):SE X G F (.JoinedStr (a::b::es) pos) (mFs ms Str.empty):=
 PE.imp0 (zjQ h.pf) fun σ H Q ⟨tv,q⟩=>z9Y ms _ H Q q
end
end Mi
namespace L2
open PySem PySem.Spec PyProof.Rows
section
variable{X:Cx}
noncomputable def zma(x:V)(xs:List V)(H:Hp)(Q:VK):Prop:= ∃z y:Str,x= .str z/\xs=[.str y]/\z.length<=sizeLine/\Q (.str (Txt.stripChars z y)) H
theorem zgR:MtR X "str.strip" zma:=by
 intro pins s σ H x xs v us Q I rx rs h
 obtain⟨z,y,rfl,rfl,hz,q⟩:=h
 obtain⟨t,rfl⟩:=rx
 obtain⟨u,rfl,t',rfl⟩:=z1N rs
 exact SC.stripChars (fun t' k=>⟨.str (Txt.stripChars z y),H,I.tok _,⟨_,rfl⟩,q⟩) hz
end
end L2
namespace Mi
open PySem L2 PySem.Spec PyProof.Rows
noncomputable def txS(z:Str):List D->M D
 |[.str y]=>if z.length<=sizeLine then rt (.str (Txt.stripChars z y)) else fl
 |_=>fl
section
variable{X:Cx}{G:Gx}{F:Fy}
theorem zcF:Ct X G F "str.strip" txS:=⟨_,zgR,by
 intro ρ s z ts vs H σv tv Q M W
 unfold txS at W
 split at W
 ·obtain⟨v,rfl,h,_⟩:=M.one
  erw[RD] at h
  subst h
  split at W
  ·rename_i hz
   exact⟨z,_,rfl,rfl,hz,fun _=>W.flat M.m rfl⟩
  ·exact wfl W
 ·exact wfl W⟩
end
end Mi
namespace L2
open PySem PySem.Spec PyProof.Rows
section
variable{X:Cx}
noncomputable def zjR:V->Option Int->Option Int->Hp->VK->Prop:=fun x lo hi H Q=> ∃z:Str,x= .str z/\z.length<=sizeLine/\Q (.str (Txt.slice z lo hi)) H
theorem z9Z{v:Value}{o:Option Int}(h:IsPart v o): ∃l:Option (Int×Tok),v=partValue l/\l.map (·.1)=o:=by
 cases h with
 |none=>exact⟨none,rfl,rfl⟩
 |int i t=>exact⟨some (i,t),rfl,rfl⟩
theorem zgS:SlR X zjR:=by
 intro pins s σ H x v vl vu lo hi sl Q I rx hs pl pu h
 obtain⟨z,rfl,hz,q⟩:=h
 obtain⟨t,rfl⟩:=rx
 obtain⟨l,rfl,rfl⟩:=z9Z pl
 obtain⟨u,rfl,rfl⟩:=z9Z pu
 refine⟨"str",_,F.slot_str_getitem.lookup,typeIs_str _ _ _,wpAny_getItem_str_slice (l:=l) (u:=u) (st:=none) hs rfl ?_⟩
 exact post_val_or_str ⟨t8 (Txt.slice_le z _ _) hz,fun t' k=>⟨.str (Txt.slice z (l.map (·.1)) (u.map (·.1))),H,I.tok _,⟨_,rfl⟩,q⟩⟩
noncomputable def prt(z y:Str):List Str:=match Builtin.Str.occurrences z y 0 z.length 1 with
 |i::_=>[Builtin.Str.strSub z 0 i,y,Builtin.Str.strSub z (i+y.length) z.length]
 |[]=>[z,Str.empty,Str.empty]
theorem zeb(z y:Str):(prt z y).length=3:=by unfold prt;split<;>rfl
noncomputable def zmb(x:V)(xs:List V)(H:Hp)(Q:VK):Prop:= ∃z y:Str,x= .str z/\xs=[.str y]/\(y.length==0)=false/\z.length<=sizeLine/\∀l,H l=none->Q (.ref l) (upd H l (.tup ((prt z y).map V.str)))
theorem zgT:MtR X "str.partition" zmb:=by
 intro pins s σ H x xs v us Q I rx rs h
 obtain⟨z,y,rfl,rfl,hy,hz,q⟩:=h
 obtain⟨t,rfl⟩:=rx
 obtain⟨u,rfl,t',rfl⟩:=z1N rs
 have fin: ∀(l:List (Str×Tok)) (tk:Nat),l.map (·.1)=prt z y->EP X pins σ Q (.ref s.heap.objs.size) {s with heap:=s.heap.push {cls:= .type "tuple",data:= .seq (strValues l).toArray},toks:=tk}:=by
  intro l tk e
  refine⟨.ref s.heap.objs.size,_,I.laid (t':=tk) (o:= .tup ((prt z y).map V.str)) (fun b ob q=>Heap.get?_push_of_some _ q) (c9 _) ?_,rfl,q _ (I.hok.fresh (c9 _))⟩
  exact⟨by rw[m7,zeb];decide,_,e▸z3O l,IsTup.new _ _⟩
 refine call_meets F.slot_str_partition (typeIs_str _ _ _) F.entry_str_partition (F.args_str_partition_2 _ _) (meets_str_partition z y t t' hy hz) ?_
 cases e:Builtin.Str.occurrences z y 0 z.length 1 with
 |nil=>exact fin [(z,t),(Str.empty,s.toks),(Str.empty,s.toks)] (s.toks+1) (by unfold prt;rw[e];rfl)
 |cons i r=>exact fin [(Builtin.Str.strSub z 0 i,s.toks),(y,t'),(Builtin.Str.strSub z (i+y.length) z.length,s.toks+1)] (s.toks+1+1) (by unfold prt;rw[e];rfl)
end
end L2
namespace Mi
open PySem L2 PySem.Spec PyProof.Rows
noncomputable def txP(z:Str):List D->M D
 |[.str y]=>if(y.length==0)=false/\z.length<=sizeLine then rt (.tup ((prt z y).map D.str)) else fl
 |_=>fl
noncomputable def slS:D->Option Int->Option Int->M D
 | .str z,lo,hi=>if z.length<=sizeLine then rt (.str (Txt.slice z lo hi)) else fl
 |_,_,_=>fl
noncomputable def z6g(m:M D)(lo hi:Option (M D)):M D:=bd m fun x=>bd (psh x) fun _=>bd (z1O lo) fun l=>bd (z1O hi) fun h=>bd pop fun x'=>slS x' l h
section
variable{X:Cx}{G:Gx}{F:Fy}{e:Expr}{pos:Pos}
theorem zgU:Ct X G F "str.partition" txP:=⟨_,zgT,by
 intro ρ s z ts vs H σv tv Q M W
 unfold txP at W
 split at W
 ·rename_i y
  obtain⟨v,rfl,h,_⟩:=M.one
  erw[RD] at h
  subst h
  split at W
  ·rename_i hz
   exact⟨z,y,rfl,rfl,hz.1,hz.2,fun p hp k=>z6M W M.m (z56 _) (fun l h=>by rw[z2w] at h;simp at h) hp k⟩
  ·exact wfl W
 ·exact wfl W⟩
theorem zgV{ρ:Nat->Addr}{s:Stt}{t:D}{v:V}{H:Hp}{σv tv:List (Option V)}{lo hi:Option Int}{Q:VK}(M:MRL G F.toFx ρ H σv tv s [t] [v])(W:wM G F σv tv (slS t lo hi s) Q):
 zjR v lo hi H (fun w H'=>KD G.K H'->Q w H'):=by
 have h:=M.rd1
 unfold slS at W
 split at W
 ·erw[RD] at h
  subst h
  split at W
  ·rename_i hz
   exact⟨_,rfl,hz,fun _=>W.flat M.m rfl⟩
  ·exact wfl W
 ·exact wfl W
theorem se_sliceS{lo hi:Option Expr}{p2:Pos}{m:M D}{ml mh:Option (M D)}(hk:X.K=G.K)(he:SE X G F e m)(hl:SO X G F lo ml)(hh:SO X G F hi mh):SE X G F (.Subscript e (.Slice lo hi none p2) pos) (z6g m ml mh):=by
 refine PE.imp hk (z7w (r:=zjR) zgS he hl hh) fun σ H Q ⟨tv,h⟩=>⟨tv, ?_⟩
 obtain⟨hs,ρ,s,M,W⟩:=z3G h
 refine⟨hs,ρ,s,M,W.mono fun v H1 ⟨ρ1,s1,t,M1,W1⟩=>⟨some v::tv,z8R hs,ρ1,s1.psh t,M1.push, ?_⟩⟩
 erw[bd,psh] at W1
 cases e1:z1O ml (s1.psh t) with
 |ex d s2=>rw[e1] at W1;exact W1
 |no=>rw[e1] at W1;exact W1
 |ok l s2=>
  rw[e1] at W1
  intro ρ2 H2 M2
  refine⟨some v::tv,z8R hs,ρ2,s2,M2, ?_⟩
  dsimp only at W1
  cases e2:z1O mh s2 with
  |ex d s3=>rw[e2] at W1;exact W1
  |no=>rw[e2] at W1;exact W1
  |ok h s3=>
   rw[e2] at W1
   intro ρ3 H3 M3
   erw[pop] at W1
   cases e3:s3.tm with
   |nil=>rw[e3] at W1;exact W1.elim
   |cons o r=>
    cases o with
    |none=>rw[e3] at W1;exact W1.elim
    |some t'=>
     rw[e3] at W1
     have M4:MRL G F.toFx ρ3 H3 σ tv {s3 with tm:=r} [t'] [v]:=MRL.down (ts:=[]) (vs:=[]) ⟨M3,rfl,fun l h=>by simp[labsL] at h⟩ e3
     exact zgV M4 W1
end
end Mi
namespace My
open PySem L2 PySem.Spec PyProof.Rows Mi
@[irreducible] noncomputable def SE(X:Cx)(G:Gx)(F:Fy)(e:Expr)(m:M D):Prop:=Mi.SE X G F e m
theorem eSE(X:Cx)(G:Gx)(F:Fy)(e:Expr)(m:M D):SE X G F e m=Mi.SE X G F e m:=by unfold SE;rfl
@[irreducible] noncomputable def SA(X:Cx)(G:Gx)(F:Fy)(e:List Expr)(m:M (List D)):Prop:=Mi.SA X G F e m
theorem eSA(X:Cx)(G:Gx)(F:Fy)(e:List Expr)(m:M (List D)):SA X G F e m=Mi.SA X G F e m:=by unfold SA;rfl
@[irreducible] noncomputable def SB(X:Cx)(G:Gx)(F:Fy)(e:Expr)(m:M Bool):Prop:=Mi.SB X G F e m
theorem eSB(X:Cx)(G:Gx)(F:Fy)(e:Expr)(m:M Bool):SB X G F e m=Mi.SB X G F e m:=by unfold SB;rfl
@[irreducible] noncomputable def SW(X:Cx)(G:Gx)(F:Fy)(e:Expr)(m:M Bool):Prop:=Mi.SW X G F e m
theorem eSW(X:Cx)(G:Gx)(F:Fy)(e:Expr)(m:M Bool):SW X G F e m=Mi.SW X G F e m:=by unfold SW;rfl
@[irreducible] noncomputable def SS(X:Cx)(G:Gx)(F:Fy)(e:Stmt)(m:MS):Prop:=Mi.SS X G F e m
theorem eSS(X:Cx)(G:Gx)(F:Fy)(e:Stmt)(m:MS):SS X G F e m=Mi.SS X G F e m:=by unfold SS;rfl
@[irreducible] noncomputable def SSs(X:Cx)(G:Gx)(F:Fy)(e:List Stmt)(m:MS):Prop:=Mi.SSs X G F e m
theorem zmc(X:Cx)(G:Gx)(F:Fy)(e:List Stmt)(m:MS):SSs X G F e m=Mi.SSs X G F e m:=by unfold SSs;rfl
@[irreducible] noncomputable def SG(X:Cx)(G:Gx)(F:Fy)(e:Expr)(m:Tg):Prop:=Mi.SG X G F e m
theorem eSG(X:Cx)(G:Gx)(F:Fy)(e:Expr)(m:Tg):SG X G F e m=Mi.SG X G F e m:=by unfold SG;rfl
@[irreducible] noncomputable def SGs(X:Cx)(G:Gx)(F:Fy)(e:List Expr)(m:List Tg):Prop:=Mi.SGs X G F e m
theorem zmd(X:Cx)(G:Gx)(F:Fy)(e:List Expr)(m:List Tg):SGs X G F e m=Mi.SGs X G F e m:=by unfold SGs;rfl
@[irreducible] noncomputable def SI(X:Cx)(G:Gx)(F:Fy)(tg e:Expr)(m:M ItK):Prop:=Mi.SI X G F tg e m
theorem eSI(X:Cx)(G:Gx)(F:Fy)(tg e:Expr)(m:M ItK):SI X G F tg e m=Mi.SI X G F tg e m:=by unfold SI;rfl
@[irreducible] noncomputable def SO(X:Cx)(G:Gx)(F:Fy)(e:Option Expr)(m:Option (M D)):Prop:=Mi.SO X G F e m
theorem eSO(X:Cx)(G:Gx)(F:Fy)(e:Option Expr)(m:Option (M D)):SO X G F e m=Mi.SO X G F e m:=by unfold SO;rfl
@[irreducible] noncomputable def STs(X:Cx)(G:Gx)(F:Fy)(e:List Expr)(m:M Bool):Prop:=Mi.STs X G F e m
theorem zme(X:Cx)(G:Gx)(F:Fy)(e:List Expr)(m:M Bool):STs X G F e m=Mi.STs X G F e m:=by unfold STs;rfl
local macro_rules | `(tactic| walk_at "go") => `(tactic| (simp only [eSE, eSA, eSB, eSW, eSS, zmc, eSG, zmd, eSI, eSO, zme] at *))
section
variable{X:Cx}{G:Gx}{F:Fy}{e a b c:Expr}{pos:Pos}
theorem se_var(i:Nat){x:Str}(hk:X.K=G.K)(h:PE X (.Name x pos) (ziL i)):SE X G F (.Name x pos) (y0 i):=by
 walk_at "go"
 exact Mi.se_var i hk h
theorem se_c{d:D}{v:V}(hk:X.K=G.K)(h:PE X e (tC v))(hd:cV d=some v:=by rfl):SE X G F e (mC d):=by
 walk_at "go"
 exact Mi.se_c hk h hd
theorem so_none:SO X G F none none:=by
 walk_at "go"
 exact Mi.so_none
theorem so_some{m:M D}(h:SE X G F e m):SO X G F (some e) (some m):=by
 walk_at "go"
 exact Mi.so_some h
theorem se_slice{lo hi:Option Expr}{p2:Pos}{m:M D}{ml mh:Option (M D)}(hk:X.K=G.K)(he:SE X G F e m)(hl:SO X G F lo ml)(hh:SO X G F hi mh):SE X G F (.Subscript e (.Slice lo hi none p2) pos) (mSl m ml mh):=by
 walk_at "go"
 exact Mi.se_slice hk he hl hh
theorem se_tup{es:List Expr}{ms:List (M D)}{x1}(hk:X.K=G.K)(h:SA X G F es (mArgs ms)):SE X G F (.Tuple es x1 pos) (mCB ms z1U):=by
 walk_at "go"
 exact Mi.se_tup hk h
theorem se_lst{es:List Expr}{ms:List (M D)}(hk:X.K=G.K)(h:SA X G F es (mArgs ms)):SE X G F (.List es pos) (mCB ms lstM):=by
 walk_at "go"
 exact Mi.se_lst hk h
theorem sb_truth{m:M D}(hk:X.K=G.K)(ha:SE X G F a m)(he: ∀whole,isTrue a X.env whole=(do let v<-whole;standAt a.pos;holding [v] (truthy v)):=by intro _;rfl):SB X G F a (G9 m):=by
 walk_at "go"
 exact Mi.sb_truth hk ha he
theorem SW.sb{m:M Bool}(h:SW X G F e m):SB X G F e m:=by
 walk_at "go"
 exact Mi.SW.sb h
theorem sw_and1{m:M Bool}(h:SB X G F a m):SW X G F (.BoolOp .And [a] pos) m:=by
 walk_at "go"
 exact Mi.sw_and1 h
theorem sw_or1{m:M Bool}(h:SB X G F a m):SW X G F (.BoolOp .Or [a] pos) m:=by
 walk_at "go"
 exact Mi.sw_or1 h
theorem sw_and{rest:List Expr}{m m':M Bool}(ha:SB X G F a m)(hb:SW X G F (.BoolOp .And (b::rest) pos) m'):SW X G F (.BoolOp .And (a::b::rest) pos) (ziR m m'):=by
 walk_at "go"
 exact Mi.sw_and ha hb
theorem sw_or{rest:List Expr}{m m':M Bool}(ha:SB X G F a m)(hb:SW X G F (.BoolOp .Or (b::rest) pos) m'):SW X G F (.BoolOp .Or (a::b::rest) pos) (mOr m m'):=by
 walk_at "go"
 exact Mi.sw_or ha hb
theorem sb_not{m:M Bool}(ha:SB X G F a m):SB X G F (.UnaryOp .Not a pos) (z0t m):=by
 walk_at "go"
 exact Mi.sb_not ha
theorem se_one{op}{m:M D}(h:SE X G F a m):SE X G F (.BoolOp op [a] pos) m:=by
 walk_at "go"
 exact Mi.se_one h
theorem se_and{rest:List Expr}{m m':M D}(ha:SE X G F a m)(hb:SE X G F (.BoolOp .And (b::rest) pos) m'):SE X G F (.BoolOp .And (a::b::rest) pos) (z3I m m'):=by
 walk_at "go"
 exact Mi.se_and ha hb
theorem se_or{rest:List Expr}{m m':M D}(ha:SE X G F a m)(hb:SE X G F (.BoolOp .Or (b::rest) pos) m'):SE X G F (.BoolOp .Or (a::b::rest) pos) (zg7 m m'):=by
 walk_at "go"
 exact Mi.se_or ha hb
theorem se_not{m:M D}(ha:SE X G F a m):SE X G F (.UnaryOp .Not a pos) (z4W m):=by
 walk_at "go"
 exact Mi.se_not ha
theorem se_ifExp{mc:M Bool}{m m':M D}(hc:SB X G F c mc)(ha:SE X G F a m)(hb:SE X G F b m'):SE X G F (.IfExp c a b pos) (mIf mc m m'):=by
 walk_at "go"
 exact Mi.se_ifExp hc ha hb
theorem se_isi{p:Pos}{x y:Expr}{T:String}{m:M D}(hk:X.K=G.K)(hT:T= "int" \/T= "bool" \/T= "tuple" \/T= "list" \/T= "str")(hgl:Gl X "isinstance")(hm:X.mg "isinstance" =none)(ha:SE X G F x m)(hy:PE X y (tC (.ty T)))
 (he:starEach [x,y] X.env=(false,eval x X.env)::starEach [y] X.env:=by rfl) (he2:starEach [y] X.env=(false,eval y X.env)::starEach [] X.env:=by rfl) (hpl:(backTo pos (starEach [y] X.env)).any (·.1)=false:=by rfl):SE X G F (.Call (.Name "isinstance" p) [x,y] [] pos) (z68 T m):=by
 walk_at "go"
 exact Mi.se_isi hk hT hgl hm ha hy he he2 hpl
end
section
variable{X:Cx}{G:Gx}{F:Fy}{e a b c:Expr}{st:Stmt}{sts rest:List Stmt}{pos:Pos}
theorem ss_nil:SSs X G F [] sNx:=by
 walk_at "go"
 exact Mi.ss_nil
theorem ss_cons{m m':MS}(h1:SS X G F st m)(h2:SSs X G F rest m'):SSs X G F (st::rest) (Z1 m m'):=by
 walk_at "go"
 exact Mi.ss_cons h1 h2
theorem ss_one{m:MS}(h1:SS X G F st m):SSs X G F [st] m:=by
 walk_at "go"
 exact Mi.ss_one h1
theorem ss_expr{m:M D}(he:SE X G F e m)(hs:swapsWith e none pos.line X.env=pure false:=by rfl):SS X G F (.Expr e pos) (z1e m):=by
 walk_at "go"
 exact Mi.ss_expr he hs
theorem ss_ret{m:M D}(he:SE X G F e m):SS X G F (.Return (some e) pos) (Y9 m):=by
 walk_at "go"
 exact Mi.ss_ret he
theorem ss_if{x y:List Stmt}{mc:M Bool}{m m':MS}(hc:SB X G F c mc)(ha:SSs X G F x m)(hb:SSs X G F y m'):SS X G F (.If c x y pos) (sIf mc m m'):=by
 walk_at "go"
 exact Mi.ss_if hc ha hb
theorem sg_name{i:Nat}{x:Str}{p:Pos}(h:PG X (.Name x p) (z8f i)):SG X G F (.Name x p) (.nm i):=by
 walk_at "go"
 exact Mi.sg_name h
theorem sgs_nil:SGs X G F [] []:=by
 walk_at "go"
 exact Mi.sgs_nil
theorem sgs_cons{es:List Expr}{g:Tg}{gs:List Tg}(h1:SG X G F e g)(h2:SGs X G F es gs)(hs:(assignEach (e::es) X.env).map (·.2)=assign e X.env::(assignEach es X.env).map (·.2):=by rfl):SGs X G F (e::es) (g::gs):=by
 walk_at "go"
 exact Mi.sgs_cons h1 h2 hs
theorem sg_tup{es:List Expr}{k:Nat}{gs:List Tg}(hk:X.K=G.K)(hc:X.calm=true)(h:SGs X G F es gs)(hn:(assignEach es X.env).length=gs.length:=by rfl)(hst:(assignEach es X.env).findIdx? (·.1)=none:=by rfl):SG X G F (.Tuple es k pos) (.tp gs):=by
 walk_at "go"
 exact Mi.sg_tup hk hc h hn hst
theorem ss_asg{tg:Expr}{g:Tg}{m:M D}(he:SE X G F e m)(hg:SG X G F tg g)(hs:swapsWithSole [tg] e pos.line X.env=pure false:=by rfl)(hw:swappedStores [tg] e X.env=pure none:=by rfl)
 (h1:(assignEach [tg] X.env).map (·.2)=[assign tg X.env]:=by rfl):SS X G F (.Assign [tg] e pos) (Y4 g m):=by
 walk_at "go"
 exact Mi.ss_asg he hg hs hw h1
theorem ss_set{i:Nat}{x:Str}{p:Pos}{m:M D}(h: ∀{te:TE},PE X e te->PS X (.Assign [.Name x p] e pos) (ziM te (z8f i)))(he:SE X G F e m):SS X G F (.Assign [.Name x p] e pos) (Y4 (.nm i) m):=by
 walk_at "go"
 exact Mi.ss_set h he
end
section
variable{X:Cx}{G:Gx}{F:Fy}{e a b c tg iter:Expr}{pos:Pos}
theorem si_seq{m:M D}(hk:X.K=G.K)(h:SE X G F e m):SI X G F tg e (Y8 m):=by
 walk_at "go"
 exact Mi.si_seq hk h
theorem si_rng1{p:Pos}{ms:List (M D)}(hg:Gl X "range")(hm:X.mg "range" =none)(ha:SA X G F [a] (mArgs ms))(hs:starEach [a] X.env=[(false,eval a X.env)]:=by rfl):SI X G F tg (.Call (.Name "range" p) [a] [] pos) (z1f ms):=by
 walk_at "go"
 exact Mi.si_rng1 hg hm ha hs
theorem ss_for{body:List Stmt}{mi:M ItK}{g:Tg}{mb:MS}(hp:PassesOwn (model X.prog X.w) X.A X.env X.xe)(hc:X.calm=true)(hi:SI X G F tg iter mi)(hg:SG X G F tg g)(hb:SSs X G F body mb)(hst: ∀x,foldedSetIterable iter X.env x=pure x:=by intro _;rfl):SS X G F (.For tg iter body [] pos) (z1V mi g mb):=by
 walk_at "go"
 exact Mi.ss_for hp hc hi hg hb hst
end
section
variable{X:Cx}{G:Gx}{F:Fy}{e a b c tg iter elt:Expr}{pos:Pos}
theorem sts_nil:STs X G F [] (rt true):=by
 walk_at "go"
 exact Mi.sts_nil
theorem sts_one{m:M Bool}(h:SB X G F c m):STs X G F [c] m:=by
 walk_at "go"
 exact Mi.sts_one h
theorem se_comp{scope:Scope}{own frees:List Str}{ix:List Nat}{ifs:List Expr}{mi:M ItK}{g:Tg}{mt:M Bool}{me:M D}(hk:X.K=G.K)(hc:X.calm=true)(S:V7 X.env.scope scope own frees X.N ix)(hi:SI X G F tg iter mi)
 (hg: ∀(F:Fy) cl C s₀ H₀ fp pn,SG (j5 X scope own frees cl C s₀ H₀ fp pn) G F tg g) (ht: ∀(F:Fy) cl C s₀ H₀ fp pn,STs (j5 X scope own frees cl C s₀ H₀ fp pn) G F ifs mt) (he: ∀(F:Fy) cl C s₀ H₀ fp pn,SE (j5 X scope own frees cl C s₀ H₀ fp pn) G F elt me)
 (hs: ∀x,foldedSetIterable iter X.env x=pure x:=by intro _;rfl):SE X G F (.ListComp elt [⟨tg,iter,ifs,0⟩] scope pos) (J0 mi g mt me own.length ix):=by
 walk_at "go"
 exact Mi.se_comp hk hc S hi hg ht he hs
theorem ss_comp{y:Str}{py spos:Pos}{i:Nat}{scope:Scope}{own frees:List Str}{ix:List Nat}{ifs:List Expr}{mi:M ItK}{g:Tg}{mt:M Bool}{me:M D}(hk:X.K=G.K)(hN:X.N.Nodup)(hy:X.N[i]? =some y)(hx:Loc X.env.scope y)(hfn:X.fn y=true\/X.env.scope.names.lookup y=some .local)(hsw:swapsWith (.ListComp elt [⟨tg,iter,ifs,0⟩] scope pos) (some (.Name y py)) spos.line X.env=pure true)
 (hc:X.calm=true) (S:V7 X.env.scope scope own frees X.N ix) (hi:SI X G F tg iter mi)
 (hg: ∀(F:Fy) cl C s₀ H₀ fp pn,SG (j5 X scope own frees cl C s₀ H₀ fp pn) G F tg g) (ht: ∀(F:Fy) cl C s₀ H₀ fp pn,STs (j5 X scope own frees cl C s₀ H₀ fp pn) G F ifs mt) (he: ∀(F:Fy) cl C s₀ H₀ fp pn,SE (j5 X scope own frees cl C s₀ H₀ fp pn) G F elt me)
 (hs: ∀x,foldedSetIterable iter X.env x=pure x:=by intro _;rfl):SS X G F (.Assign [.Name y py] (.ListComp elt [⟨tg,iter,ifs,0⟩] scope pos) spos) (Y4 (.nm i) (J0 mi g mt me own.length ix)):=by
 walk_at "go"
 exact Mi.ss_comp hk hN hy hx hfn hsw hc S hi hg ht he hs
end
section
variable{G:Gx}{ρ:Nat->Addr}{H:Hp}
section
variable(k:KD G.K H){n:Nat}(inj: ∀i j,i<n->j<n->ρ i=ρ j->i=j)
include k inj
end
end
section
variable{G:Gx}{ρ ρ':Nat->Addr}{H H':Hp}
section
variable(k:KD G.K H){n:Nat}(inj: ∀i j,i<n->j<n->ρ i=ρ j->i=j){ts:List D}{vs:List V}(r:RDs G ρ H ts vs)(lb: ∀l∈labsL ts,l<n)
include k inj r lb
end
variable{F:Fy}{σv tv:List (Option V)}{s:Stt}{np:Nat}
theorem se_call{X:Cx}{e:Expr}{es:List Expr}{pos p:Pos}{CX:CXT}{k:Nat}{fa:Addr}{fd:FuncData}{ps:List Str}{x:Str}{E:XK}{f:FM}{ms:List (M D)}(hk:X.K=G.K)(Fn:u2 X.prog X.w X.K X.mg X.base CX k fa fd ps (spM G ps.length f))(hr:z2q k X.A)(hg:Gl X x)(hm:X.mg x=some (.ref fa))(hkp:W.keepIn X.K (.ref fa)=true)(hb:z2D X.K fd ps [])(hx:z3x CX X E)
 (ha:SA X G F (e::es) (mArgs ms)) (hln:ms.length=ps.length) (hdb:(x==("__debug__" :Str))=false:=by decide) (he:starEach (e::es) X.env=(false,eval e X.env)::starEach es X.env:=by rfl) (hpl:(backTo pos (starEach es X.env)).any (·.1)=false:=by rfl):
 SE X G F (.Call (.Name x p) (e::es) [] pos) (mCall f ms):=by
 walk_at "go"
 exact Mi.se_call hk Fn hr hg hm hkp hb hx ha hln hdb he hpl
theorem fn_M{P:Program}{w:World}{K:W.Frag}{mg:Str->Option Value}{base:Heap}{x qual:Str}{st:Stmt}{fa:Addr}{fd:FuncData}{N ps:List Str}{k:Nat}{mb:MS}(Fn:Fun K x qual st fa fd)(S:Z3 N ps (y2 st))(hG:G.K=K)
 (hb: ∀(cdv:Value) (A:Around) (outer:List Env) (s:Shared) (H:Hp) (E:XK) (F:Fy),z2q k (A.deeper (envOfC qual (y2 st) s.heap.objs.size fa cdv))->SSs (z37 CX0 P w K mg base N qual (y2 st) fa cdv A outer s H E).nox G F (U0 st) mb):
 u2 P w K mg base CX0 (k+1) fa fd ps (spM G ps.length (z0Z N.length mb)):=by
 walk_at "go"
 exact Mi.fn_M Fn S hG hb
end
section
variable{X:Cx}{G:Gx}{F:Fy}{e o:Expr}{es:List Expr}{apos cpos:Pos}
theorem ss_setI{ob ix:Expr}{pos tpos:Pos}{mo mi me:M D}(he:SE X G F e me)(ho:SE X G F ob mo)(hi:SE X G F ix mi)(hg: ∀{to ti:TE},PE X ob to->PE X ix ti->PG X (.Subscript ob ix tpos) (zcn to ti z47))(hs:swapsWithSole [.Subscript ob ix tpos] e pos.line X.env=pure false:=by rfl)(hw:swappedStores [.Subscript ob ix tpos] e X.env=pure none:=by rfl)
 (h1:(assignEach [.Subscript ob ix tpos] X.env).map (·.2)=[assign (.Subscript ob ix tpos) X.env]:=by rfl):SS X G F (.Assign [.Subscript ob ix tpos] e pos) (mTri me mo mi setD):=by
 walk_at "go"
 exact Mi.ss_setI he ho hi hg hs hw h1
end
section
variable{X:Cx}{G:Gx}{F:Fy}{e a b c:Expr}{pos:Pos}{ma mb mc m:M D}
theorem se_add(hk:X.K=G.K)(ha:SE X G F a ma)(hb:SE X G F b mb):SE X G F (.BinOp a .Add b pos) (y3 ma mb W8):=by
 walk_at "go"
 exact Mi.se_add hk ha hb
theorem se_sub(hk:X.K=G.K)(ha:SE X G F a ma)(hb:SE X G F b mb):SE X G F (.BinOp a .Sub b pos) (y3 ma mb zbo):=by
 walk_at "go"
 exact Mi.se_sub hk ha hb
theorem se_mul(hk:X.K=G.K)(ha:SE X G F a ma)(hb:SE X G F b mb):SE X G F (.BinOp a .Mult b pos) (y3 ma mb z5O):=by
 walk_at "go"
 exact Mi.se_mul hk ha hb
theorem se_fdiv(hk:X.K=G.K)(ha:SE X G F a ma)(hb:SE X G F b mb):SE X G F (.BinOp a .FloorDiv b pos) (y3 ma mb z66):=by
 walk_at "go"
 exact Mi.se_fdiv hk ha hb
theorem se_mod(hk:X.K=G.K)(ha:SE X G F a ma)(hb:SE X G F b mb):SE X G F (.BinOp a .Mod b pos) (y3 ma mb z49):=by
 walk_at "go"
 exact Mi.se_mod hk ha hb
theorem se_pow(hk:X.K=G.K)(ha:SE X G F a ma)(hb:SE X G F b mb):SE X G F (.BinOp a .Pow b pos) (y3 ma mb z9v):=by
 walk_at "go"
 exact Mi.se_pow hk ha hb
theorem se_neg(hk:X.K=G.K)(ha:SE X G F a ma):SE X G F (.UnaryOp .USub a pos) (bd ma z8S):=by
 walk_at "go"
 exact Mi.se_neg hk ha
theorem se_cmp{op:CmpOp}{g:D->D->M D}(hc:Cm X G F op g)(ha:SE X G F a ma)(hb:SE X G F b mb)(hm:behindInMarks op b=false):SE X G F (.Compare a [op] [b] pos) (y3 ma mb g):=by
 walk_at "go"
 exact Mi.se_cmp hc ha hb hm
theorem sb_cmp{op:CmpOp}{g:D->D->M D}(hc:Cm X G F op g)(ha:SE X G F a ma)(hb:SE X G F b mb)(hm:behindInMarks op b=false):SB X G F (.Compare a [op] [b] pos) (W5 (y3 ma mb g)):=by
 walk_at "go"
 exact Mi.sb_cmp hc ha hb hm
theorem se_cmp2{op op':CmpOp}{g g':D->D->M D}(hc:Cm X G F op g)(hc':Cm X G F op' g')(ha:SE X G F a ma)(hb:SE X G F b mb)(hcc:SE X G F c mc)(hm:lastMarks [op,op'] [b,c]=false:=by with_unfolding_all rfl):SE X G F (.Compare a [op,op'] [b,c] pos) (Q9 ma mb mc g g'):=by
 walk_at "go"
 exact Mi.se_cmp2 hc hc' ha hb hcc hm
theorem sb_cmp2{op op':CmpOp}{g g':D->D->M D}(hc:Cm X G F op g)(hc':Cm X G F op' g')(ha:SE X G F a ma)(hb:SE X G F b mb)(hcc:SE X G F c mc)(hm:lastMarks [op,op'] [b,c]=false:=by with_unfolding_all rfl):SB X G F (.Compare a [op,op'] [b,c] pos) (W5 (Q9 ma mb mc g g')):=by
 walk_at "go"
 exact Mi.sb_cmp2 hc hc' ha hb hcc hm
theorem se_idx(hk:X.K=G.K)(ha:SE X G F a ma)(hb:SE X G F b mb)(hs:z2E b):SE X G F (.Subscript a b pos) (y3 ma mb ixD):=by
 walk_at "go"
 exact Mi.se_idx hk ha hb hs
theorem se_cb{x:Str}{p:Pos}{es:List Expr}{ms:List (M D)}{g:List D->M D}{id:String}(hk:X.K=G.K)(hc:Cb X G F (.builtin id) g)(hgl:Gl X x)(hm:X.mg x=none)(hv:bootBuiltins x=some (.builtin id))(ha:SA X G F (e::es) (mArgs ms))(hn:x≠ "__name__" :=by decide)(hdb:(x==("__debug__" :Str))=false:=by decide)
 (he:starEach (e::es) X.env=(false,eval e X.env)::starEach es X.env:=by rfl) (hpl:(backTo pos (starEach es X.env)).any (·.1)=false:=by rfl):SE X G F (.Call (.Name x p) (e::es) [] pos) (mCB ms g):=by
 walk_at "go"
 exact Mi.se_cb hk hc hgl hm hv ha hn hdb he hpl
theorem se_ct{x:Str}{p:Pos}{es:List Expr}{ms:List (M D)}{g:List D->M D}{T:String}(hk:X.K=G.K)(hc:Cb X G F (.type T) g)(hgl:Gl X x)(hm:X.mg x=none)(hv:bootBuiltins x=some (.type T))(ha:SA X G F (e::es) (mArgs ms))(hn:x≠ "__name__" :=by decide)(hdb:(x==("__debug__" :Str))=false:=by decide)
 (he:starEach (e::es) X.env=(false,eval e X.env)::starEach es X.env:=by rfl) (hpl:(backTo pos (starEach es X.env)).any (·.1)=false:=by rfl):SE X G F (.Call (.Name x p) (e::es) [] pos) (mCB ms g):=by
 walk_at "go"
 exact Mi.se_ct hk hc hgl hm hv ha hn hdb he hpl
end
section
variable{X:Cx}{G:Gx}{F:Fy}{e o:Expr}{es:List Expr}{apos cpos:Pos}
theorem se_cl{name:Str}{id:String}{mo:M D}{ms:List (M D)}{g:D->List D->M D}(hk:X.K=G.K)(slot:Slot "list" name id)(hty:typeOf (.builtin id)=pure (.type "method_descriptor"))(hm:Cl X G F id g)(ho:SE X G F o mo)(ha:SA X G F (e::es) (mArgs ms))
 (hbase:attributeBase o name X.env (eval o X.env)=eval o X.env:=by rfl)
 (hfew:((backTo cpos (starEach (e::es) X.env)).all (fun x=> !x.1)&&(backToKw cpos (keywordEach [] X.env)).all (fun x=>x.1.isSome)
  &&decide ((e::es).length+([]:List Keyword).length+(if([]:List Keyword).isEmpty then 0 else 1)<30))=true:=by rfl)
 (hline:(apos.endLine==cpos.line)=true:=by rfl) (hs:starEach (e::es) X.env=(false,eval e X.env)::starEach es X.env:=by rfl) (hplain:(backTo cpos (starEach es X.env)).any (·.1)=false:=by rfl):SE X G F (.Call (.Attribute o name apos) (e::es) [] cpos) (z0w mo ms g):=by
 walk_at "go"
 exact Mi.se_cl hk slot hty hm ho ha hbase hfew hline hs hplain
theorem ss_sub2{o1 i1 o2 i2 v:Expr}{pos p1 p2 tpos:Pos}{k}{me mo1 mi1 mo2 mi2:M D}(hk:X.K=G.K)(hc:X.calm=true)(he:SE X G F v me)(h1:SE X G F o1 mo1)(h2:SE X G F i1 mi1)(h3:SE X G F o2 mo2)(h4:SE X G F i2 mi2)
 (hg: ∀{t1 t2 t3 t4:TE},PE X o1 t1->PE X i1 t2->PE X o2 t3->PE X i2 t4->PG X (.Tuple [.Subscript o1 i1 p1, .Subscript o2 i2 p2] k tpos) (zj8 X.K 2 (z8g (zcn t1 t2 z47) (z8g (zcn t3 t4 z47) zfr))))
 (hs:swapsWithSole [.Tuple [.Subscript o1 i1 p1, .Subscript o2 i2 p2] k tpos] v pos.line X.env=pure false:=by rfl) (hw:swappedStores [.Tuple [.Subscript o1 i1 p1, .Subscript o2 i2 p2] k tpos] v X.env=pure none:=by rfl)
 (ha:(assignEach [.Tuple [.Subscript o1 i1 p1, .Subscript o2 i2 p2] k tpos] X.env).map (·.2)=[assign (.Tuple [.Subscript o1 i1 p1, .Subscript o2 i2 p2] k tpos) X.env]:=by rfl):
 SS X G F (.Assign [.Tuple [.Subscript o1 i1 p1, .Subscript o2 i2 p2] k tpos] v pos) (z9M me mo1 mi1 mo2 mi2):=by
 walk_at "go"
 exact Mi.ss_sub2 hk hc he h1 h2 h3 h4 hg hs hw ha
end
section
variable{X:Cx}{G:Gx}{F:Fy}{a b tg:Expr}{pos:Pos}
theorem si_enm{p tpos:Pos}{elts:List Expr}{x1:Nat}{ms:List (M D)}(hk:X.K=G.K)(hg:Gl X "enumerate")(hm:X.mg "enumerate" =none)(ha:SA X G F [a] (mArgs ms))(hs:starEach [a] X.env=[(false,eval a X.env)]:=by rfl):SI X G F (.Tuple elts x1 tpos) (.Call (.Name "enumerate" p) [a] [] pos) (zf5 ms):=by
 walk_at "go"
 exact Mi.si_enm hk hg hm ha hs
theorem se_addE{ma mb:M D}(hk:X.K=G.K)(ha:SE X G F a ma)(hb:SE X G F b mb):SE X G F (.BinOp a .Add b pos) (y3 ma mb zf6):=by
 walk_at "go"
 exact Mi.se_addE hk ha hb
end
section
variable{X:Cx}{G:Gx}{F:Fy}{E:L2.St->XK}{C:Addr}{x y:Str}{np cpos pos p:Pos}{j:Nat}
theorem ss_raise(hh:X.A.handled=none)(hx:XP X G F E)(hr:z3M X E)(hcl:G.cl x=some C)(hg:Gl X x)(hm:X.mg x=some (.ref C))(hq:W.excIn X.K C bmV "ValueError.__new__" =true)(hd:(x==("__debug__" :Str))=false:=by decide):
 SS X G F (.Raise (some (.Call (.Name x np) [.Constant (.str y) j p] [] cpos)) none pos) (z7M x):=by
 walk_at "go"
 exact Mi.ss_raise hh hx hr hcl hg hm hq hd
end
section
variable{X:Cx}{G:Gx}{F:Fy}{E:L2.St->XK}{ρ:Nat->Addr}{H:Hp}{σv tv:List (Option V)}{s:Stt}{np:Nat}
theorem se_callX{e:Expr}{es:List Expr}{pos p:Pos}{k:Nat}{fa:Addr}{fd:FuncData}{ps:List Str}{x:Str}{f:FM}{ms:List (M D)}(hx:XP X G F E)(Fn:u2 X.prog X.w X.K X.mg X.base (CX1 X.prog X.w) k fa fd ps (spX G ps.length f))(hr:z2q k X.A)(hg:Gl X x)(hm:X.mg x=some (.ref fa))(hkp:W.keepIn X.K (.ref fa)=true)(hb:z2D X.K fd ps [])
 (ha:SA X G F (e::es) (mArgs ms)) (hln:ms.length=ps.length) (hdb:(x==("__debug__" :Str))=false:=by decide) (he:starEach (e::es) X.env=(false,eval e X.env)::starEach es X.env:=by rfl) (hpl:(backTo pos (starEach es X.env)).any (·.1)=false:=by rfl):
 SE X G F (.Call (.Name x p) (e::es) [] pos) (z4A f ms):=by
 walk_at "go"
 exact Mi.se_callX hx Fn hr hg hm hkp hb ha hln hdb he hpl
end
theorem fn_X{G:Gx}{P:Program}{w:World}{K:W.Frag}{mg:Str->Option Value}{base:Heap}{x qual:Str}{st:Stmt}{fa:Addr}{fd:FuncData}{N ps:List Str}{k:Nat}{mb:MS}(Fn:Fun K x qual st fa fd)(S:Z3 N ps (y2 st))(hG:G.K=K)
 (hb: ∀(cdv:Value) (A:Around) (outer:List Env) (s:Shared) (H:Hp) (E:XK) (F:Fy),z2q k (A.deeper (envOfC qual (y2 st) s.heap.objs.size fa cdv))->XP (z37 (CX1 P w) P w K mg base N qual (y2 st) fa cdv A outer s H E) G F (fun _=>E)->z3M (z37 (CX1 P w) P w K mg base N qual (y2 st) fa cdv A outer s H E) (fun _=>E)->SSs (z37 (CX1 P w) P w K mg base N qual (y2 st) fa cdv A outer s H E) G F (U0 st) mb):
 u2 P w K mg base (CX1 P w) (k+1) fa fd ps (spX G ps.length (ze4 N.length mb)):=by
 walk_at "go"
 exact Mi.fn_X Fn S hG hb
section
variable{X:Cx}{G:Gx}{F:Fy}{np hpos pos:Pos}{b₀:Stmt}{suite body:List Stmt}{x n:Str}{ie:Nat}{CB:Addr}{mb mh:MS}{k:Str->Bool}
theorem ss_try(hst:X.stack=X.env::X.outer)(hfr:X.env.frame=some X.env.locals)(hex:X.ex=[])(hK:X.K=G.K)(hg:Gl X x)(hm:X.mg x=some (.ref CB))(hN:X.N.Nodup)(hi:X.N[ie]? =some n)(hloc:X.env.scope.names.lookup n=some .local)
 (hk: ∀c C,G.cl c=some C->k c=true->W.exmOne X.K (.ref C) (.ref CB)=some true)
 (hb: ∀(pl:List (Addr×Obj)) (E':Value->Shared->Prop) (F':Fy) (E:L2.St->XK),XP (Xt X pl E') G F' E->SSs (Xt X pl E') G F' body mb) (hh: ∀a,SSs (Xm X a) G F (b₀::suite) mh) (hd:(x==("__debug__" :Str))=false:=by decide):
 SS X G F (.Try body [.ExceptHandler (some (.Name x np)) (some n) (b₀::suite) hpos] [] [] pos) (zf8 k ie mb mh):=by
 walk_at "go"
 exact Mi.ss_try hst hfr hex hK hg hm hN hi hloc hk hb hh hd
theorem se_isX1{p:Pos}{x y:Expr}{m:M D}{c:V}{tb:Str->Option Bool}(hK:X.K=G.K)(hc:zf7 c=true)(ht: ∀r C b,G.cl r=some C->tb r=some b->z6d X.K C/\W.kitOne X.K (.ref C) (cvV c)=some b)(hgl:Gl X "isinstance")(hm:X.mg "isinstance" =none)(ha:SE X G F x m)(hy:PE X y (tC c))
 (he:starEach [x,y] X.env=(false,eval x X.env)::starEach [y] X.env:=by rfl) (he2:starEach [y] X.env=(false,eval y X.env)::starEach [] X.env:=by rfl) (hpl:(backTo pos (starEach [y] X.env)).any (·.1)=false:=by rfl):SE X G F (.Call (.Name "isinstance" p) [x,y] [] pos) (z9R tb m):=by
 walk_at "go"
 exact Mi.se_isX1 hK hc ht hgl hm ha hy he he2 hpl
theorem se_isXT{p:Pos}{x y:Expr}{m:M D}{us:List Value}{tb:Str->Option Bool}(hK:X.K=G.K)(ht: ∀r C b,G.cl r=some C->tb r=some b->z6d X.K C/\W.kitAny X.K (.ref C) us=some b)(hgl:Gl X "isinstance")(hm:X.mg "isinstance" =none)(ha:SE X G F x m)(hy:PE X y (zjJ us))
 (he:starEach [x,y] X.env=(false,eval x X.env)::starEach [y] X.env:=by rfl) (he2:starEach [y] X.env=(false,eval y X.env)::starEach [] X.env:=by rfl) (hpl:(backTo pos (starEach [y] X.env)).any (·.1)=false:=by rfl):SE X G F (.Call (.Name "isinstance" p) [x,y] [] pos) (z9R tb m):=by
 walk_at "go"
 exact Mi.se_isXT hK ht hgl hm ha hy he he2 hpl
end
section
variable{X:Cx}{G:Gx}{F:Fy}{st:Stmt}
theorem ss_no:SS X G F st sNo:=by
 walk_at "go"
 exact Mi.ss_no
end
inductive SEs(X:Cx)(G:Gx)(F:Fy):List Expr->List (M D)->Prop
 |nil:SEs X G F [] []
 |cons {e:Expr} {m:M D} {es:List Expr} {ms:List (M D)}:SE X G F e m->nst e=true->SEs X G F es ms->SEs X G F (e::es) (m::ms)
theorem zmf{X:Cx}{G:Gx}{F:Fy}{es:List Expr}{ms:List (M D)}(h:SEs X G F es ms):Mi.SEs X G F es ms:=by
 induction h with
 |nil=>exact .nil
 |cons h n _ ih=>rw[eSE] at h;exact .cons h n ih
theorem sa_of{X:Cx}{G:Gx}{F:Fy}{es:List Expr}{ms:List (M D)}(hk:X.K=G.K)(h:SEs X G F es ms):SA X G F es (mArgs ms):=by
 rw[eSA];exact Mi.sa_of hk (zmf h)
section
variable{X:Cx}{G:Gx}{F:Fy}{e a b c d:Expr}{pos p:Pos}{m ma mb mc md:M D}
theorem sv(i:Nat){x:Str}(hk:X.K=G.K:=by rfl)(hN:X.N[i]? =some x:=by rfl)(hv:Vis X.env.scope x:=by first|exact Or.inl rfl|exact Or.inr (Or.inl rfl)|exact Or.inr (Or.inr rfl))(hd:(x==("__debug__" :Str))=false:=by decide)(hcd:(x==("__classdict__" :Str))=false:=by decide):SE X G F (.Name x pos) (y0 i):=se_var i hk (pv i hN hv hd hcd)
theorem s1(h:SE X G F a ma)(n:nst a=true:=by rfl)(hk:X.K=G.K:=by rfl):SA X G F [a] (mArgs [ma]):=sa_of hk (.cons h n .nil)
theorem s2(h:SE X G F a ma)(h2:SE X G F b mb)(n:nst a=true:=by rfl)(n2:nst b=true:=by rfl)(hk:X.K=G.K:=by rfl):SA X G F [a,b] (mArgs [ma,mb]):=sa_of hk (.cons h n (.cons h2 n2 .nil))
theorem s3(h:SE X G F a ma)(h2:SE X G F b mb)(h3:SE X G F c mc)(n:nst a=true:=by rfl)(n2:nst b=true:=by rfl)(n3:nst c=true:=by rfl)(hk:X.K=G.K:=by rfl):SA X G F [a,b,c] (mArgs [ma,mb,mc]):=sa_of hk (.cons h n (.cons h2 n2 (.cons h3 n3 .nil)))
theorem s4(h:SE X G F a ma)(h2:SE X G F b mb)(h3:SE X G F c mc)(h4:SE X G F d md)(n:nst a=true:=by rfl)(n2:nst b=true:=by rfl)(n3:nst c=true:=by rfl)(n4:nst d=true:=by rfl)(hk:X.K=G.K:=by rfl):SA X G F [a,b,c,d] (mArgs [ma,mb,mc,md]):=sa_of hk (.cons h n (.cons h2 n2 (.cons h3 n3 (.cons h4 n4 .nil))))
theorem sst(i:Nat){x:Str}(hN:X.N.Nodup)(he:SE X G F e m)(hi:X.N[i]? =some x:=by rfl)(hx:Loc X.env.scope x:=by exact Or.inl rfl)(hs:swapsWith e (some (.Name x p)) pos.line X.env=pure false:=by rfl)(hf:X.fn x=true\/X.env.scope.names.lookup x=some .local:=by first|exact .inl rfl|exact .inr rfl|assumption):SS X G F (.Assign [.Name x p] e pos) (Y4 (.nm i) m):=
 ss_set (fun{te} h=>zco hN hi hx h hs hf) he
theorem sgn(i:Nat){x:Str}(hN:X.N.Nodup)(hi:X.N[i]? =some x:=by rfl)(hx:Loc X.env.scope x:=by exact Or.inl rfl)(hf:X.fn x=true\/X.env.scope.names.lookup x=some .local:=by first|exact .inl rfl|exact .inr rfl|assumption):SG X G F (.Name x pos) (.nm i):=sg_name (j9 hN hi hx hf)
theorem sln{es:List Expr}{ms:List (M D)}(hm:X.mg "len" =none)(ha:SA X G F (e::es) (mArgs ms))(hgl:Gl X "len" :=by rfl)(he:starEach (e::es) X.env=(false,eval e X.env)::starEach es X.env:=by rfl)(hpl:(backTo pos (starEach es X.env)).any (·.1)=false:=by rfl)(hk:X.K=G.K:=by rfl):SE X G F (.Call (.Name "len" p) (e::es) [] pos) (mCB ms z27):=
 se_cb hk (zgp hk) hgl hm PyProof.Rows.Boot.«len» ha (by decide) (by decide) he hpl
theorem sc0{v:V}{d:D}(h:PE X e (tC v))(hd:cV d=some v:=by rfl)(hk:X.K=G.K:=by rfl):SE X G F e (mC d):=se_c hk h hd
theorem sxc{v:V}{q:D}(ha:SE X G F a ma)(h:PE X b (tC v))(hd:cV q=some v:=by rfl)(hs:z2E b:=by exact fun _ _=>rfl)(hk:X.K=G.K:=by rfl):SE X G F (.Subscript a b pos) (y3 ma (mC q) ixD):=se_idx hk ha (se_c hk h hd) hs
theorem sxx(ha:SE X G F a ma)(hb:SE X G F b mb)(hs:z2E b:=by exact fun _ _=>rfl)(hk:X.K=G.K:=by rfl):SE X G F (.Subscript a b pos) (y3 ma mb ixD):=se_idx hk ha hb hs
end
section
variable{G:Gx}{P:Program}{w:World}{K:W.Frag}{mg:Str->Option Value}{base:Heap}{x qual:Str}{st:Stmt}{fa:Addr}{fd:FuncData}{N ps:List Str}{k np:Nat}{f:FM}
theorem okM(mb:MS)(Fn:Fun K x qual st fa fd)(S:Z3 N ps (y2 st))(hb: ∀(cdv:Value) (A:Around) (outer:List Env) (s:Shared) (H:Hp) (E:XK) (F:Fy),z2q k (A.deeper (envOfC qual (y2 st) s.heap.objs.size fa cdv))->SSs (z37 CX0 P w K mg base N qual (y2 st) fa cdv A outer s H E).nox G F (U0 st) mb)(hG:G.K=K:=by rfl)(hf:f=z0Z N.length mb:=by rfl)(hn:np=ps.length:=by rfl):
 u2 P w K mg base CX0 (k+1) fa fd ps (spM G np f):=by
 subst hf hn;exact fn_M Fn S hG hb
theorem okX(mb:MS)(Fn:Fun K x qual st fa fd)(S:Z3 N ps (y2 st))(hb: ∀(cdv:Value) (A:Around) (outer:List Env) (s:Shared) (H:Hp) (E:XK) (F:Fy),z2q k (A.deeper (envOfC qual (y2 st) s.heap.objs.size fa cdv))->XP (z37 (CX1 P w) P w K mg base N qual (y2 st) fa cdv A outer s H E) G F (fun _=>E)->z3M (z37 (CX1 P w) P w K mg base N qual (y2 st) fa cdv A outer s H E) (fun _=>E)->SSs (z37 (CX1 P w) P w K mg base N qual (y2 st) fa cdv A outer s H E) G F (U0 st) mb)(hG:G.K=K:=by rfl)(hf:f=ze4 N.length mb:=by rfl)(hn:np=ps.length:=by rfl):
 u2 P w K mg base (CX1 P w) (k+1) fa fd ps (spX G np f):=by
 subst hf hn;exact fn_X Fn S hG hb
end
section
variable{X:Cx}{G:Gx}{F:Fy}{a b tg e o iter elt:Expr}{pos apos cpos:Pos}{mo mi mx:M D}
theorem si_ens{p tpos kp:Pos}{elts:List Expr}{x1:Nat}{ms:List (M D)}(hk:X.K=G.K)(hg:Gl X "enumerate")(hm:X.mg "enumerate" =none)(ha:SA X G F [a] (mArgs ms))(hb:PE X b (tC (.int 1)))(hs:starEach [a] X.env=[(false,eval a X.env)]:=by rfl):SI X G F (.Tuple elts x1 tpos) (.Call (.Name "enumerate" p) [a] [⟨some "start",b,kp⟩] pos) (zfa ms):=by
 rw[eSI];rw[eSA] at ha
 exact Mi.si_ens hk hg hm ha hb hs
end
section
variable{X:Cx}{G:Gx}{F:Fy}{a b e o tg:Expr}{es:List Expr}{pos apos cpos:Pos}{mo m ma mb:M D}
theorem se_ctS{name:Str}{id:String}{ms:List (M D)}{g:Str->List D->M D}(hk:X.K=G.K)(slot:Slot "str" name id)(hty:typeOf (.builtin id)=pure (.type "method_descriptor"))(hm:Ct X G F id g)(ho:SE X G F o mo)(ha:SA X G F (e::es) (mArgs ms))
 (hbase:attributeBase o name X.env (eval o X.env)=eval o X.env:=by rfl)
 (hfew:((backTo cpos (starEach (e::es) X.env)).all (fun x=> !x.1)&&(backToKw cpos (keywordEach [] X.env)).all (fun x=>x.1.isSome)
  &&decide ((e::es).length+([]:List Keyword).length+(if([]:List Keyword).isEmpty then 0 else 1)<30))=true:=by rfl)
 (hline:(apos.endLine==cpos.line)=true:=by rfl) (hs:starEach (e::es) X.env=(false,eval e X.env)::starEach es X.env:=by rfl) (hplain:(backTo cpos (starEach es X.env)).any (·.1)=false:=by rfl):SE X G F (.Call (.Attribute o name apos) (e::es) [] cpos) (J8 mo ms g):=by
 rw[eSE] at*;rw[eSA] at ha
 exact Mi.se_ctS hk slot hty hm ho ha hbase hfew hline hs hplain
theorem se_ixS(ha:SE X G F a ma)(hb:SE X G F b mb)(hs:z4O b):SE X G F (.Subscript a b pos) (y3 ma mb ixS):=by
 rw[eSE] at*
 exact Mi.se_ixS ha hb hs
theorem si_str(h:SE X G F e m):SI X G F tg e (z9W m):=by
 rw[eSI];rw[eSE] at h
 exact Mi.si_str h
theorem se_fs{ms:List (Str⊕M D)}(h:SF (SE X G F) (a::b::es) ms):SE X G F (.JoinedStr (a::b::es) pos) (mFs ms Str.empty):=by
 rw[eSE]
 exact Mi.se_fs (h.mono fun e m q=>by rw[eSE] at q;exact q)
end
section
variable{X:Cx}{G:Gx}{F:Fy}{a b e:Expr}{pos:Pos}{m ma mb:M D}
theorem se_sliceS{lo hi:Option Expr}{p2:Pos}{ml mh:Option (M D)}(hk:X.K=G.K)(he:SE X G F e m)(hl:SO X G F lo ml)(hh:SO X G F hi mh):SE X G F (.Subscript e (.Slice lo hi none p2) pos) (z6g m ml mh):=by
 rw[eSE] at*;rw[eSO] at hl hh
 exact Mi.se_sliceS hk he hl hh
end
end My
namespace My
open PySem L2 Mi
noncomputable def top(i:Nat):Stmt:=PySem.Challenge.pw_signbench_k59_journals_spoilt.main.body.getD i (.Pass ⟨0,0,0,0⟩)
noncomputable abbrev z0x:Stmt:=top 28
noncomputable abbrev z1l:Stmt:=top 29
noncomputable abbrev z2L:Stmt:=top 30
noncomputable abbrev z1m:Stmt:=top 36
noncomputable abbrev U1:Stmt:=top 37
noncomputable abbrev G3:Stmt:=top 38
noncomputable abbrev z2M:Stmt:=top 39
noncomputable abbrev z0y:Stmt:=top 41
noncomputable abbrev z1n:Stmt:=top 47
noncomputable abbrev z2N:Stmt:=top 48
noncomputable abbrev z0b:Stmt:=top 49
noncomputable abbrev z1o:Stmt:=top 50
noncomputable abbrev z2b:Stmt:=top 51
noncomputable abbrev z0z:Stmt:=top 52
noncomputable abbrev z0c:Stmt:=top 53
noncomputable abbrev K0:Stmt:=top 54
noncomputable abbrev K1:Stmt:=top 55
noncomputable abbrev z6Y:Stmt:=top 57
noncomputable abbrev z58:Stmt:=top 58
noncomputable abbrev z0d:Stmt:=top 59
noncomputable abbrev z2O:Stmt:=top 60
noncomputable abbrev z2c:Stmt:=top 61
noncomputable abbrev z59:Stmt:=top 62
noncomputable abbrev z6Z:Stmt:=top 63
noncomputable abbrev z2P:Stmt:=top 64
noncomputable abbrev z2d:Stmt:=top 65
noncomputable abbrev z0A:Stmt:=top 66
noncomputable abbrev z0B:Stmt:=top 67
noncomputable abbrev z5a:Stmt:=top 68
noncomputable abbrev z0C:Stmt:=top 69
noncomputable abbrev z5b:Stmt:=top 70
noncomputable abbrev z2e:Stmt:=top 71
noncomputable abbrev zec:Stmt:=top 72
noncomputable abbrev z2x:List Str:=["thing"]
noncomputable abbrev z0D:List Str:=z2x
noncomputable abbrev z3c:List Str:=["thing", "low", "high"]
noncomputable abbrev z1p:List Str:=z3c
noncomputable abbrev z4D:List Str:=["thing", "fewest", "most", "high"]
noncomputable abbrev z2Q:List Str:=z4D
noncomputable abbrev z6h:List Str:=["thing", "begin", "length", "end", "signs", "kind", "cost"]
noncomputable abbrev z1q:List Str:=["thing", "begin", "length"]
noncomputable abbrev z04:List Str:=["thing"]
noncomputable abbrev U2:List Str:=z04
noncomputable abbrev K2:List Str:=["thing"]
noncomputable abbrev G4:List Str:=K2
noncomputable abbrev z8D:List Str:=["pieces", "length", "at", "piece"]
noncomputable abbrev z2R:List Str:=["pieces", "length"]
noncomputable abbrev z5c:List Str:=["thing", "sounds", "cutting", "wished"]
noncomputable abbrev z0E:List Str:=["thing"]
noncomputable abbrev z6i:List Str:=["commit", "sounds", "cutting", "wished", "parts"]
noncomputable abbrev z1r:List Str:=["commit"]
noncomputable abbrev z4E:List Str:=["row"]
noncomputable abbrev z2S:List Str:=z4E
noncomputable abbrev z4d:List Str:=["piece", "end", "signs", "kind", "cost"]
noncomputable abbrev z0e:List Str:=["piece"]
noncomputable abbrev z6j:List Str:=["commit", "sounds", "cutting", "wished", "numbers", "end", "signs", "kind", "cost"]
noncomputable abbrev z1s:List Str:=["commit"]
noncomputable abbrev z70:List Str:=["text", "commits", "row", "commit"]
noncomputable abbrev z0F:List Str:=["text"]
noncomputable abbrev z5d:List Str:=["row", "words", "cutting", "commit"]
noncomputable abbrev z0G:List Str:=["row"]
noncomputable abbrev z4e:List Str:=["word", "parts"]
noncomputable abbrev z0f:List Str:=["word"]
noncomputable abbrev z3P:List Str:=["word", "numbers"]
noncomputable abbrev K3:List Str:=["word"]
noncomputable abbrev z1t:List Str:=["word"]
noncomputable abbrev K4:List Str:=z1t
noncomputable abbrev zed:List Str:=["_law_script", "_law_at", "_law_cell", "_law_mix", "_law_k"]
noncomputable abbrev z71:List Str:=["_law_script", "_law_at"]
noncomputable abbrev zbR:List Str:=["_law_bag_here", "_law_many", "_law_digit"]
noncomputable abbrev z5e:List Str:=["_law_bag_here", "_law_many"]
noncomputable abbrev z1X:List Str:=["_law_bag_here", "_law_many", "_law_most"]
noncomputable abbrev z0g:List Str:=z1X
noncomputable abbrev z8E:List Str:=["_law_bag_here", "_law_most", "_law_wide", "_law_many", "_law_far", "_law_pieces", "_law_place", "_law_turn", "_law_signs"]
noncomputable abbrev z2T:List Str:=["_law_bag_here", "_law_most", "_law_wide"]
noncomputable abbrev z72:List Str:=["_law_bag_here", "_law_way", "_law_many"]
noncomputable abbrev z2f:List Str:=["_law_bag_here"]
noncomputable abbrev z7P:List Str:=["_law_numbers_here"]
noncomputable abbrev z5f:List Str:=z7P
noncomputable abbrev zee:List Str:=["_law_commit_here", "_law_sounds", "_law_cutting", "_law_wished", "_law_numbers_here", "_law_words", "_law_end", "_law_signs", "_law_kind", "_law_cost", "_law_check", "_law_place", "_law_number_here"]
noncomputable abbrev z73:List Str:=["_law_commit_here"]
noncomputable abbrev z4F:List Str:=["_law_word"]
noncomputable abbrev z2U:List Str:=z4F
noncomputable abbrev z3Q:List Str:=["_law_word"]
noncomputable abbrev z2g:List Str:=z3Q
noncomputable abbrev z5g:List Str:=["_law_sounds", "_law_pieces", "_law_place", "_law_end", "_law_signs", "_law_kind", "_law_cost"]
noncomputable abbrev z0H:List Str:=["_law_sounds", "_law_pieces"]
noncomputable abbrev z5h:List Str:=["_law_row_here", "_law_words", "_law_pieces", "_law_word", "_law_some", "_law_found"]
noncomputable abbrev z0I:List Str:=["_law_row_here"]
noncomputable abbrev zbS:List Str:=["_law_text", "_law_found", "_law_left", "_law_turn", "_law_row_here", "_law_end", "_law_commit_here"]
noncomputable abbrev z5i:List Str:=["_law_text"]
noncomputable abbrev z5j:List Str:=["_law_bag_here", "_law_word", "_law_at", "_law_way"]
noncomputable abbrev z0J:List Str:=["_law_bag_here", "_law_word"]
noncomputable abbrev zbT:List Str:=["_law_bag_here", "_law_text", "_law_way", "_law_signs", "_law_sign", "_law_at", "_law_between", "_law_words", "_law_one", "_law_far"]
noncomputable abbrev z5k:List Str:=["_law_bag_here", "_law_text"]
noncomputable abbrev z74:List Str:=["_law_thing", "e", "_law_one", "_law_other", "_law_more"]
noncomputable abbrev z2h:List Str:=["_law_thing"]
noncomputable abbrev zjS:List Str:=["_law_script", "_law_at", "_law_bag_here", "_law_often", "_law_text", "_law_turn", "_law_bent_here", "_law_again", "_law_found", "_law_thing", "_law_odd"]
noncomputable abbrev zef:List Str:=["_law_script"]
local macro_rules | `(tactic| walk_at "sc") => `(tactic| exact ⟨rfl, rfl, rfl, by decide +kernel, rfl, by decide +kernel, by decide +kernel⟩)
theorem z4f:Z3 z2x z0D (y2 z0x):=by walk_at "sc"
theorem z5l:Z3 z3c z1p (y2 z1l):=by walk_at "sc"
theorem z75:Z3 z4D z2Q (y2 z2L):=by walk_at "sc"
theorem U3:Z3 z6h z1q (y2 z1m):=by walk_at "sc"
theorem z2i:Z3 z04 U2 (y2 U1):=by walk_at "sc"
theorem z1R:Z3 K2 G4 (y2 G3):=by walk_at "sc"
theorem z0K:Z3 z8D z2R (y2 z2M):=by walk_at "sc"
theorem V5:Z3 z5c z0E (y2 z0y):=by walk_at "sc"
theorem U4:Z3 z6i z1r (y2 z1n):=by walk_at "sc"
theorem z76:Z3 z4E z2S (y2 z2N):=by walk_at "sc"
theorem J1:Z3 z4d z0e (y2 z0b):=by walk_at "sc"
theorem Y6:Z3 z6j z1s (y2 z1o):=by walk_at "sc"
theorem G7:Z3 z70 z0F (y2 z2b):=by walk_at "sc"
theorem V6:Z3 z5d z0G (y2 z0z):=by walk_at "sc"
theorem z1u:Z3 z4e z0f (y2 z0c):=by walk_at "sc"
theorem z1a:Z3 z3P K3 (y2 K0):=by walk_at "sc"
theorem z3l:Z3 z1t K4 (y2 K1):=by walk_at "sc"
theorem z0L:Z3 zed z71 (y2 z6Y):=by walk_at "sc"
theorem z6k:Z3 zbR z5e (y2 z58):=by walk_at "sc"
theorem z3R:Z3 z1X z0g (y2 z0d):=by walk_at "sc"
theorem J2:Z3 z8E z2T (y2 z2O):=by walk_at "sc"
theorem z1v:Z3 z72 z2f (y2 z2c):=by walk_at "sc"
theorem za0:Z3 z7P z5f (y2 z59):=by walk_at "sc"
theorem Q7:Z3 zee z73 (y2 z6Z):=by walk_at "sc"
theorem z77:Z3 z4F z2U (y2 z2P):=by walk_at "sc"
theorem z6l:Z3 z3Q z2g (y2 z2d):=by walk_at "sc"
theorem W9:Z3 z5g z0H (y2 z0A):=by walk_at "sc"
theorem j3:Z3 z5h z0I (y2 z0B):=by walk_at "sc"
theorem V9:Z3 zbS z5i (y2 z5a):=by walk_at "sc"
theorem z0h:Z3 z5j z0J (y2 z0C):=by walk_at "sc"
theorem J3:Z3 zbT z5k (y2 z5b):=by walk_at "sc"
theorem x9:Z3 z74 z2h (y2 z2e):=by walk_at "sc"
theorem z1b:Z3 zjS zef (y2 zec):=by walk_at "sc"
structure Dx(K:W.Frag)(mg:Str->Option Value)(x:Str)(st:Stmt)(ps:List Str) where
 f:Addr
 d:FuncData
 F:Fun K x x st f d
 b:z2D K d ps []
 m:mg x=some (.ref f)
theorem scl{X:Cx}{G:Gx}{F:Fy}{e:Expr}{es:List Expr}{pos p:Pos}{CX:CXT}{k j:Nat}{x:Str}{st:Stmt}{ps:List Str}{E:XK}{f:FM}{ms:List (M D)}(d:Dx X.K X.mg x st ps)(Fn:u2 X.prog X.w X.K X.mg X.base CX j d.f d.d ps (spM G ps.length f))(hr:z2q k X.A)(ha:SA X G F (e::es) (mArgs ms))(hg:Gl X x:=by rfl)(hx:z3x CX X E:=by exact zjq)(hln:ms.length=ps.length:=by rfl)(hk:X.K=G.K:=by rfl)(hj:j<=k:=by lia)(hdb:(x==("__debug__" :Str))=false:=by decide)(he:starEach (e::es) X.env=(false,eval e X.env)::starEach es X.env:=by rfl)(hpl:(backTo pos (starEach es X.env)).any (·.1)=false:=by rfl):SE X G F (.Call (.Name x p) (e::es) [] pos) (mCall f ms):=se_call hk (Fn.mono hj) hr hg d.m d.F.kp d.b hx ha hln hdb he hpl
noncomputable abbrev kF(K:W.Frag)(a b:Addr)(r:Bool):Prop:=W.kitOne K (.ref a) (.ref b)=some r
noncomputable abbrev kN(K:W.Frag)(a:Addr)(l:List Addr):Prop:=W.kitAny K (.ref a) (l.map .ref)=some false
noncomputable abbrev kV(K:W.Frag)(a:Addr):Prop:=W.kitOne K (.ref a) (.type "ValueError")=some true
noncomputable abbrev fA(K:W.Frag)(a:Addr):Prop:=W.findIn K (.ref a) "__getattribute__" =some (some (.builtin "BaseException.__getattribute__"))
noncomputable abbrev fB(K:W.Frag)(a:Addr):Prop:=W.findIn K (.ref a) "__getattr__" =some none
noncomputable abbrev fC(K:W.Frag)(a:Addr):Prop:=W.findIn K (.ref a) "__class__" =some (some (.builtin "object.__class__"))
noncomputable abbrev xA(K:W.Frag)(a:Addr):Prop:=W.excIn K a bmV "ValueError.__new__" =true
noncomputable abbrev mO(K:W.Frag)(a:Addr)(s:String):Prop:=W.mroIn K a (.type s)=some true
noncomputable abbrev eB(K:W.Frag)(a b:Addr):Prop:=W.exmOne K (.ref a) (.ref b)=some true
noncomputable abbrev nI(K:W.Frag)(s:Str)(a:Addr):Prop:=W.nsIn K mainGlobals s=some (some (.ref a))
set_option genInjectivity false in
set_option genSizeOf false in
set_option genSizeOfSpec false in
structure Wd(K:W.Frag)(mg:Str->Option Value) where
 kan:Dx K mg "is_number" z0x z0D
 kav:Dx K mg "is_whole" z1l z1p
 kaG:Dx K mg "is_row" z2L z2Q
 kap:Dx K mg "is_piece" z1m z1q
 kab:Dx K mg "is_piece_signs" U1 U2
 kaa:Dx K mg "has_piece_kinds" G3 G4
 kaH:Dx K mg "is_way" z2M z2R
 kao:Dx K mg "is_commit" z0y z0E
 kaq:Dx K mg "row_text" z1n z1r
 kaI:Dx K mg "dotted" z2N z2S
 kaf:Dx K mg "piece_text" z0b z0e
 kat:Dx K mg "check_of" z1o z1s
 kaw:Dx K mg "come_up" z2b z0F
 kai:Dx K mg "commit_of" z0z z0G
 kae:Dx K mg "read_piece" z0c z0f
 kac:Dx K mg "read_dotted" K0 K3
 kad:Dx K mg "read_number" K1 K4
 kbm:Dx K mg "_law_bag" z6Y z71
 kbc:Dx K mg "_law_take" z58 z5e
 kag:Dx K mg "_law_numbers_of" z0d z0g
 kaO:Dx K mg "_law_commit" z2O z2T
 kaA:Dx K mg "_law_commits" z2c z2f
 ka8:Dx K mg "_law_dots" z59 z5f
 kbq:Dx K mg "_law_row" z6Z z73
 kaE:Dx K mg "_law_number" z2P z2U
 kaC:Dx K mg "_law_numbers" z2d z2g
 kam:Dx K mg "_law_is_commit" z0A z0H
 kaj:Dx K mg "_law_commit_in" z0B z0I
 kba:Dx K mg "_law_came" z5a z5i
 kal:Dx K mg "_law_word_bent" z0C z0J
 kbe:Dx K mg "_law_bent" z5b z5k
 kaB:Dx K mg "_law_refused" z2e z2h
 x_law:Dx K mg "law" zec zef
 n_ValueError:mg "ValueError" =none
 n_abs:mg "abs" =none
 n_all:mg "all" =none
 n_bool:mg "bool" =none
 c_CHECK_DIVISOR: ∃t,mg "CHECK_DIVISOR" =some (.int 997 t)
 c_FIGURES: ∃t,mg "FIGURES" =some (.str ("0123456789" :Str) t)
 c_LAST_PIECE_COST: ∃t,mg "LAST_PIECE_COST" =some (.int 99999 t)
 c_LAST_PIECE_KIND: ∃t,mg "LAST_PIECE_KIND" =some (.int 8 t)
 c_LAST_SIGN: ∃t,mg "LAST_SIGN" =some (.int 1039 t)
 c_LAST_SOUND: ∃t,mg "LAST_SOUND" =some (.int 39 t)
 c_MOST_FIGURES: ∃t,mg "MOST_FIGURES" =some (.int 5 t)
 c_MOST_PIECE_SIGNS: ∃t,mg "MOST_PIECE_SIGNS" =some (.int 24 t)
 c_MOST_PLACES: ∃t,mg "MOST_PLACES" =some (.int 24 t)
 c_MOST_ROWS: ∃t,mg "MOST_ROWS" =some (.int 60 t)
 n_enumerate:mg "enumerate" =none
 n_int:mg "int" =none
 n_isinstance:mg "isinstance" =none
 n_len:mg "len" =none
 n_list:mg "list" =none
 n_max:mg "max" =none
 n_min:mg "min" =none
 n_range:mg "range" =none
 n_str:mg "str" =none
 n_sum:mg "sum" =none
 n_tuple:mg "tuple" =none
 ka9:Addr
 ka1:mg "Barred" =some (.ref ka9)
 kas:Addr
 kak:mg "BenchError" =some (.ref kas)
 kbo:Addr
 kbd:mg "Fight" =some (.ref kbo)
 kbs:Addr
 kbp:mg "Full" =some (.ref kbs)
 kbk:Addr
 ka2:mg "Marked" =some (.ref kbk)
 kaS:Addr
 kaF:mg "Missing" =some (.ref kaS)
 kaM:Addr
 kaz:mg "NoChoice" =some (.ref kaM)
 kay:Addr
 kau:mg "NoCutting" =some (.ref kay)
 kbf:Addr
 ka5:mg "NoDeed" =some (.ref kbf)
 kbj:Addr
 kaQ:mg "NoMark" =some (.ref kbj)
 kbb:Addr
 ka0:mg "NoNode" =some (.ref kbb)
 ka3:Addr
 kaN:mg "NoPlace" =some (.ref ka3)
 kaL:Addr
 kax:mg "NoSaying" =some (.ref kaL)
 kar:Addr
 kah:mg "NoStanding" =some (.ref kar)
 kaR:Addr
 kaK:mg "NoTable" =some (.ref kaR)
 kbi:Addr
 kaT:mg "NoText" =some (.ref kbi)
 kbh:Addr
 kaZ:mg "NoTurn" =some (.ref kbh)
 ka6:Addr
 kaU:mg "NoWish" =some (.ref ka6)
 ka7:Addr
 kaX:mg "NoWord" =some (.ref ka7)
 ka4:Addr
 kaD:mg "Nothing" =some (.ref ka4)
 kaW:Addr
 kaP:mg "TooLong" =some (.ref kaW)
 kaY:Addr
 kaJ:mg "TooMany" =some (.ref kaY)
 kbn:Addr
 kbg:mg "Twice" =some (.ref kbn)
 kbr:Addr
 kbl:mg "Waits" =some (.ref kbr)
 kaV:xA K kbi
 cxob_NoText:mO K kbi "object"
 cxba_NoText:mO K kbi "BaseException"
 cxf1_NoText:fA K kbi
 cxf2_NoText:fB K kbi
 cxf3_NoText:fC K kbi
 ch_NoText_BenchError:eB K kbi kas
 ck_0_NoText:kN K kbi [ka9,kbk,kbf,kbj,ka3,kar,kaW,ka7,kbn,kaY]
 ck_1_NoText:kN K kbi [kaS,kaM,kbb,ka4,ka6,kbo,kay,kbr,kbh,kbs]
 ck_2_NoText:kN K kbi [kaR,kaL]
 ck_3_NoText:kV K kbi
 ck_4_NoText:kF K kbi kbi true
 cnd:[kbi].Nodup
section
variable{K:W.Frag}{mg:Str->Option Value}
noncomputable abbrev GT(T:Wd K mg):Gx:=mkG K [("NoText",T.kbi)] T.cnd (.cons (ze5 T.kaV) .nil)
theorem za1(T:Wd K mg):(GT T).cl "NoText" =some T.kbi:=rfl
noncomputable def X7(c:Str):Bool:=[("NoText" :Str)].contains c
theorem z5m(T:Wd K mg): ∀c C,(GT T).cl c=some C->X7 c=true->eB K C T.kas:=fun c C h1 h2=>by
 have h3:([("NoText",())]:List (Str×Unit)).lookup c=some ():=by
  unfold X7 at h2;erw[List.contains_cons,List.contains_nil,Bool.or_eq_true,O5,beq_iff_eq] at h2
  subst h2;rfl
 exact Al2.at (Φ:=fun C (_:Unit)=>eB K C T.kas) (.cons (b:=()) T.ch_NoText_BenchError .nil) h1 h3
noncomputable def zjT(c:Str):Option Bool:=[(("NoText" :Str),false)].lookup c
theorem zmg(T:Wd K mg): ∀r C b,(GT T).cl r=some C->zjT r=some b->z6d K C/\W.kitAny K (.ref C) ([V.ref T.ka9,V.ref T.kbk,V.ref T.kbf,V.ref T.kbj,V.ref T.ka3,V.ref T.kar,V.ref T.kaW,V.ref T.ka7,V.ref T.kbn,V.ref T.kaY].map cvV)=some b:=fun r C b h1 h2=>Al2.at (Φ:=fun C b=>z6d K C/\W.kitAny K (.ref C) ([V.ref T.ka9,V.ref T.kbk,V.ref T.kbf,V.ref T.kbj,V.ref T.ka3,V.ref T.kar,V.ref T.kaW,V.ref T.ka7,V.ref T.kbn,V.ref T.kaY].map cvV)=some b) (.cons ⟨⟨T.cxob_NoText,T.cxba_NoText,T.cxf1_NoText,T.cxf2_NoText,T.cxf3_NoText⟩,T.ck_0_NoText⟩ .nil) h1 h2
noncomputable def zjU(c:Str):Option Bool:=[(("NoText" :Str),false)].lookup c
theorem zmh(T:Wd K mg): ∀r C b,(GT T).cl r=some C->zjU r=some b->z6d K C/\W.kitAny K (.ref C) ([V.ref T.kaS,V.ref T.kaM,V.ref T.kbb,V.ref T.ka4,V.ref T.ka6,V.ref T.kbo,V.ref T.kay,V.ref T.kbr,V.ref T.kbh,V.ref T.kbs].map cvV)=some b:=fun r C b h1 h2=>Al2.at (Φ:=fun C b=>z6d K C/\W.kitAny K (.ref C) ([V.ref T.kaS,V.ref T.kaM,V.ref T.kbb,V.ref T.ka4,V.ref T.ka6,V.ref T.kbo,V.ref T.kay,V.ref T.kbr,V.ref T.kbh,V.ref T.kbs].map cvV)=some b) (.cons ⟨⟨T.cxob_NoText,T.cxba_NoText,T.cxf1_NoText,T.cxf2_NoText,T.cxf3_NoText⟩,T.ck_1_NoText⟩ .nil) h1 h2
noncomputable def zjV(c:Str):Option Bool:=[(("NoText" :Str),false)].lookup c
theorem zmi(T:Wd K mg): ∀r C b,(GT T).cl r=some C->zjV r=some b->z6d K C/\W.kitAny K (.ref C) ([V.ref T.kaR,V.ref T.kaL].map cvV)=some b:=fun r C b h1 h2=>Al2.at (Φ:=fun C b=>z6d K C/\W.kitAny K (.ref C) ([V.ref T.kaR,V.ref T.kaL].map cvV)=some b) (.cons ⟨⟨T.cxob_NoText,T.cxba_NoText,T.cxf1_NoText,T.cxf2_NoText,T.cxf3_NoText⟩,T.ck_2_NoText⟩ .nil) h1 h2
noncomputable def zjW(c:Str):Option Bool:=[(("NoText" :Str),true)].lookup c
theorem zmj(T:Wd K mg): ∀r C b,(GT T).cl r=some C->zjW r=some b->z6d K C/\W.kitOne K (.ref C) (cvV (.ty "ValueError"))=some b:=fun r C b h1 h2=>Al2.at (Φ:=fun C b=>z6d K C/\W.kitOne K (.ref C) (cvV (.ty "ValueError"))=some b) (.cons ⟨⟨T.cxob_NoText,T.cxba_NoText,T.cxf1_NoText,T.cxf2_NoText,T.cxf3_NoText⟩,T.ck_3_NoText⟩ .nil) h1 h2
noncomputable def zjX(c:Str):Option Bool:=[(("NoText" :Str),true)].lookup c
theorem zmk(T:Wd K mg): ∀r C b,(GT T).cl r=some C->zjX r=some b->z6d K C/\W.kitOne K (.ref C) (cvV (.ref T.kbi))=some b:=fun r C b h1 h2=>Al2.at (Φ:=fun C b=>z6d K C/\W.kitOne K (.ref C) (cvV (.ref T.kbi))=some b) (.cons ⟨⟨T.cxob_NoText,T.cxba_NoText,T.cxf1_NoText,T.cxf2_NoText,T.cxf3_NoText⟩,T.ck_4_NoText⟩ .nil) h1 h2
end
section
variable{P:Program}{w:World}{K:W.Frag}{mg:Str->Option Value}{base:Heap}
noncomputable def z0M:MS:=(Y9 (z3I (z68 "int" (y0 0)) (z4W (z68 "bool" (y0 0)))))
noncomputable def J6:FM:=z0Z 1 z0M
theorem z1Y(T:Wd K mg):u2 P w K mg base CX0 1 T.kan.f T.kan.d z0D (spM (GT T) 1 J6):=okM z0M T.kan.F z4f fun cdv A outer s H E F hr=>(ss_one (ss_ret (se_and (se_isi rfl (by decide) rfl T.n_isinstance (sv 0) (X1 (v:= .ty "int") rfl T.n_int PyProof.Rows.Boot.«int» rfl)) (se_one (se_not (se_isi rfl (by decide) rfl T.n_isinstance (sv 0) (X1 (v:= .ty "bool") rfl T.n_bool PyProof.Rows.Boot.«bool» rfl)))))))
noncomputable def z1w:MS:=(Y9 (z3I (mCall J6 [(y0 0)]) (Q9 (y0 1) (y0 0) (y0 2) leD leD)))
noncomputable def Q6:FM:=z0Z 3 z1w
theorem X8(T:Wd K mg):u2 P w K mg base CX0 2 T.kav.f T.kav.d z1p (spM (GT T) 3 Q6):=okM z1w T.kav.F z5l fun cdv A outer s H E F hr=>(ss_one (ss_ret (se_and (scl T.kan (z1Y T) hr (s1 (sv 0))) (se_one (se_cmp2 z3k z3k (sv 1) (sv 0) (sv 2))))))
noncomputable def z2V:MS:=(Z1 (sIf (mOr (z0t (G9 (z68 "tuple" (y0 0)))) (z0t (W5 (Q9 (y0 1) (mCB [(y0 0)] z27) (y0 2) leD leD)))) (Y9 (mC (.bool false))) sNx)
 (Y9 (mCB [(J0 (Y8 (y0 0)) (.nm 0) (rt true) (mCall Q6 [(y0 0),(mC (.int 0)),(y0 1)]) 1 [3])] zcw)))
noncomputable def z0p:FM:=z0Z 4 z2V
theorem z3S(T:Wd K mg):u2 P w K mg base CX0 3 T.kaG.f T.kaG.d z2Q (spM (GT T) 4 z0p):=okM z2V T.kaG.F z75 fun cdv A outer s H E F hr=>(ss_cons (ss_if (SW.sb (sw_or (sb_not (sb_truth rfl (se_isi rfl (by decide) rfl T.n_isinstance (sv 0) (X1 (v:= .ty "tuple") rfl T.n_tuple PyProof.Rows.Boot.«tuple» rfl)))) (sw_or1 (sb_not (sb_cmp2 z3k z3k (sv 1) (sln T.n_len (s1 (sv 0))) (sv 2)))))) (ss_one (ss_ret (sc0 z1M))) ss_nil)
 (ss_one (ss_ret (se_cb rfl (z9L rfl hr.hd) rfl T.n_all PyProof.Rows.Boot.«all» (s1 (se_comp (own:=["part"]) (frees:=["high"]) (ix:=[3]) rfl rfl (V1.sc (by kernel_rfl)) (si_seq rfl (sv 0)) (fun _ _ _ _ _ _ _=>(sg_name (j9 (i:=0) (show C7 (["part", "high"]:List Str) by decide+kernel) rfl (Or.inl rfl)))) (fun _ _ _ _ _ _ _=>sts_nil) (fun _ _ _ _ _ _ _=>(scl T.kav (X8 T) hr (s3 (sv 0) (sc0 y1) (sv 1))))))))))
noncomputable def G5:MS:=(Z1 (sIf (mOr (z0t (G9 (z68 "tuple" (y0 0)))) (mOr (W5 (y3 (mCB [(y0 0)] z27) (mC (.int 4)) neD)) (z0t (G9 (z68 "tuple" (y3 (y0 0) (mC (.int 1)) ixD)))))) (Y9 (mC (.bool false))) sNx)
 (Y9 (mCB [(J0 (Y8 (y3 (mCB [(y3 (y0 0) (mC (.int 0)) ixD),(y3 (y0 0) (mC (.int 2)) ixD),(y3 (y0 0) (mC (.int 3)) ixD)] z1U) (y3 (y0 0) (mC (.int 1)) ixD) W8)) (.nm 0) (rt true) (mCall J6 [(y0 0)]) 1 [])] zcw)))
noncomputable def Q8:FM:=z0Z 1 G5
theorem z1S(T:Wd K mg):u2 P w K mg base CX0 2 T.kaa.f T.kaa.d G4 (spM (GT T) 1 Q8):=okM G5 T.kaa.F z1R fun cdv A outer s H E F hr=>by
 have h64:=hr.units
 exact(ss_cons (ss_if (SW.sb (sw_or (sb_not (sb_truth rfl (se_isi rfl (by decide) rfl T.n_isinstance (sv 0) (X1 (v:= .ty "tuple") rfl T.n_tuple PyProof.Rows.Boot.«tuple» rfl)))) (sw_or (sb_cmp (z8w rfl h64) (sln T.n_len (s1 (sv 0))) (sc0 y1) (Y3 _)) (sw_or1 (sb_not (sb_truth rfl (se_isi rfl (by decide) rfl T.n_isinstance (sxc (sv 0) y1) (X1 (v:= .ty "tuple") rfl T.n_tuple PyProof.Rows.Boot.«tuple» rfl)))))))) (ss_one (ss_ret (sc0 z1M))) ss_nil)
 (ss_one (ss_ret (se_cb rfl (z9L rfl hr.hd) rfl T.n_all PyProof.Rows.Boot.«all» (s1 (se_comp (own:=["part"]) (frees:=[]) (ix:=[]) rfl rfl (V1.sc (by kernel_rfl)) (si_seq rfl (se_add rfl (se_tup rfl (s3 (sxc (sv 0) y1) (sxc (sv 0) y1) (sxc (sv 0) y1))) (sxc (sv 0) y1))) (fun _ _ _ _ _ _ _=>(sg_name (j9 (i:=0) (show C7 (["part"]:List Str) by decide+kernel) rfl (Or.inl rfl)))) (fun _ _ _ _ _ _ _=>sts_nil) (fun _ _ _ _ _ _ _=>(scl T.kan (z1Y T) hr (s1 (sv 0))))))))))
noncomputable def U5:MS:=(Y9 (mCall z0p [(y0 0),(mC (.int 1)),(mC (.int 24)),(mC (.int 1039))]))
noncomputable def j6:FM:=z0Z 1 U5
theorem z2j(T:Wd K mg):u2 P w K mg base CX0 4 T.kab.f T.kab.d U2 (spM (GT T) 1 j6):=okM U5 T.kab.F z2i fun cdv A outer s H E F hr=>(ss_one (ss_ret (scl T.kaG (z3S T) hr (s4 (sv 0) (sc0 y1) (se_c rfl (Z8 (v:= .int 24) rfl T.c_MOST_PIECE_SIGNS.choose_spec ⟨_,rfl⟩)) (se_c rfl (Z8 (v:= .int 1039) rfl T.c_LAST_SIGN.choose_spec ⟨_,rfl⟩))))))
noncomputable def z1x:MS:=(Z1 (sIf (z0t (G9 (mCall Q8 [(y0 0)]))) (Y9 (mC (.bool false))) sNx)
 (Z1 (Y4 (.tp [(.nm 3),(.nm 4),(.nm 5),(.nm 6)]) (y0 0))
 (Z1 (sIf (mOr (z0t (G9 (mCall Q6 [(y0 3),(y3 (y0 1) (mC (.int 1)) W8),(y0 2)]))) (z0t (G9 (mCall j6 [(y0 4)])))) (Y9 (mC (.bool false))) sNx)
 (Y9 (z3I (mCall Q6 [(y0 5),(mC (.int 0)),(mC (.int 8))]) (mCall Q6 [(y0 6),(mC (.int 0)),(mC (.int 99999))]))))))
noncomputable def X0:FM:=z0Z 7 z1x
theorem z5n(T:Wd K mg):u2 P w K mg base CX0 5 T.kap.f T.kap.d z1q (spM (GT T) 3 X0):=okM z1x T.kap.F U3 fun cdv A outer s H E F hr=>(ss_cons (ss_if (sb_not (sb_truth rfl (scl T.kaa (z1S T) hr (s1 (sv 0))))) (ss_one (ss_ret (sc0 z1M))) ss_nil)
 (ss_cons (ss_asg (sv 0) (sg_tup rfl rfl (sgs_cons (sgn 3 U3.nd) (sgs_cons (sgn 4 U3.nd) (sgs_cons (sgn 5 U3.nd) (sgs_cons (sgn 6 U3.nd) sgs_nil))))))
 (ss_cons (ss_if (SW.sb (sw_or (sb_not (sb_truth rfl (scl T.kav (X8 T) hr (s3 (sv 3) (se_add rfl (sv 1) (sc0 y1)) (sv 2))))) (sw_or1 (sb_not (sb_truth rfl (scl T.kab (z2j T) hr (s1 (sv 4)))))))) (ss_one (ss_ret (sc0 z1M))) ss_nil)
 (ss_one (ss_ret (se_and (scl T.kav (X8 T) hr (s3 (sv 5) (sc0 y1) (se_c rfl (Z8 (v:= .int 8) rfl T.c_LAST_PIECE_KIND.choose_spec ⟨_,rfl⟩)))) (se_one (scl T.kav (X8 T) hr (s3 (sv 6) (sc0 y1) (se_c rfl (Z8 (v:= .int 99999) rfl T.c_LAST_PIECE_COST.choose_spec ⟨_,rfl⟩)))))))))))
noncomputable def z2W:MS:=(Z1 (Y4 (.nm 2) (mC (.int 0)))
 (Z1 (z1V (Y8 (y0 0)) (.nm 3) (Z1 (sIf (z0t (G9 (mCall X0 [(y0 3),(y0 2),(y0 1)]))) (Y9 (mC (.bool false))) sNx)
 (Y4 (.nm 2) (y3 (y0 3) (mC (.int 0)) ixD))))
 (Y9 (y3 (y0 2) (y0 1) eqD))))
noncomputable def z1K:FM:=z0Z 4 z2W
theorem z78(T:Wd K mg):u2 P w K mg base CX0 6 T.kaH.f T.kaH.d z2R (spM (GT T) 2 z1K):=okM z2W T.kaH.F z0K fun cdv A outer s H E F hr=>by
 have h64:=hr.units
 exact(ss_cons (sst 2 z0K.nd (sc0 y1))
 (ss_cons (ss_for PassesOwn.never rfl (si_seq rfl (sv 0)) (sgn 3 z0K.nd) (ss_cons (ss_if (sb_not (sb_truth rfl (scl T.kap (z5n T) hr (s3 (sv 3) (sv 2) (sv 1))))) (ss_one (ss_ret (sc0 z1M))) ss_nil)
 (ss_one (sst 2 z0K.nd (sxc (sv 3) y1)))))
 (ss_one (ss_ret (se_cmp (z50 rfl h64) (sv 2) (sv 1) (Y3 _))))))
noncomputable def z0N:MS:=(Z1 (sIf (mOr (z0t (G9 (z68 "tuple" (y0 0)))) (W5 (y3 (mCB [(y0 0)] z27) (mC (.int 3)) neD))) (Y9 (mC (.bool false))) sNx)
 (Z1 (Y4 (.tp [(.nm 1),(.nm 2),(.nm 3)]) (y0 0))
 (Z1 (sIf (mOr (z0t (G9 (mCall z0p [(y0 1),(mC (.int 1)),(mC (.int 24)),(mC (.int 39))]))) (z0t (G9 (z68 "bool" (y0 3))))) (Y9 (mC (.bool false))) sNx)
 (Y9 (z3I (z68 "tuple" (y0 2)) (mCall z1K [(y0 2),(mCB [(y0 1)] z27)]))))))
noncomputable def X9:FM:=z0Z 4 z0N
theorem z4g(T:Wd K mg):u2 P w K mg base CX0 7 T.kao.f T.kao.d z0E (spM (GT T) 1 X9):=okM z0N T.kao.F V5 fun cdv A outer s H E F hr=>by
 have h64:=hr.units
 exact(ss_cons (ss_if (SW.sb (sw_or (sb_not (sb_truth rfl (se_isi rfl (by decide) rfl T.n_isinstance (sv 0) (X1 (v:= .ty "tuple") rfl T.n_tuple PyProof.Rows.Boot.«tuple» rfl)))) (sw_or1 (sb_cmp (z8w rfl h64) (sln T.n_len (s1 (sv 0))) (sc0 y1) (Y3 _))))) (ss_one (ss_ret (sc0 z1M))) ss_nil)
 (ss_cons (ss_asg (sv 0) (sg_tup rfl rfl (sgs_cons (sgn 1 V5.nd) (sgs_cons (sgn 2 V5.nd) (sgs_cons (sgn 3 V5.nd) sgs_nil)))))
 (ss_cons (ss_if (SW.sb (sw_or (sb_not (sb_truth rfl (scl T.kaG (z3S T) hr (s4 (sv 1) (sc0 y1) (se_c rfl (Z8 (v:= .int 24) rfl T.c_MOST_PLACES.choose_spec ⟨_,rfl⟩)) (se_c rfl (Z8 (v:= .int 39) rfl T.c_LAST_SOUND.choose_spec ⟨_,rfl⟩)))))) (sw_or1 (sb_not (sb_truth rfl (se_isi rfl (by decide) rfl T.n_isinstance (sv 3) (X1 (v:= .ty "bool") rfl T.n_bool PyProof.Rows.Boot.«bool» rfl))))))) (ss_one (ss_ret (sc0 z1M))) ss_nil)
 (ss_one (ss_ret (se_and (se_isi rfl (by decide) rfl T.n_isinstance (sv 2) (X1 (v:= .ty "tuple") rfl T.n_tuple PyProof.Rows.Boot.«tuple» rfl)) (se_one (scl T.kaH (z78 T) hr (s2 (sv 2) (sln T.n_len (s1 (sv 1))))))))))))
noncomputable def z2X:MS:=(Y9 (J8 (mC (.str ("." :Str))) [(J0 (Y8 (y0 0)) (.nm 0) (rt true) (mCB [(y0 0)] z1g) 1 [])] z28))
noncomputable def f_p_dotted:FM:=z0Z 1 z2X
theorem z3T(T:Wd K mg):u2 P w K mg base CX0 1 T.kaI.f T.kaI.d z2S (spM (GT T) 1 f_p_dotted):=okM z2X T.kaI.F z76 fun cdv A outer s H E F hr=>by
 have h64:=hr.units
 exact(ss_one (ss_ret (se_ctS rfl PySem.F.slot_str_join PySem.F.type_str_join (z29 rfl) (sc0 Z7) (s1 (se_comp (own:=["number"]) (frees:=[]) (ix:=[]) rfl rfl (V1.sc (by kernel_rfl)) (si_seq rfl (sv 0)) (fun _ _ _ _ _ _ _=>(sg_name (j9 (i:=0) (show C7 (["number"]:List Str) by decide+kernel) rfl (Or.inl rfl)))) (fun _ _ _ _ _ _ _=>sts_nil) (fun _ _ _ _ _ _ _=>(se_ct rfl (G2 rfl hr.gd h64) rfl T.n_str PyProof.Rows.Boot.«str» (s1 (sv 0)))))))))
noncomputable def z0i:MS:=(Z1 (Y4 (.tp [(.nm 1),(.nm 2),(.nm 3),(.nm 4)]) (y0 0))
 (Y9 (mFs [.inr (y0 1), .inl (":" :Str), .inr (mCall f_p_dotted [(y0 2)]), .inl (":" :Str), .inr (y0 3), .inl (":" :Str), .inr (y0 4)] Str.empty)))
noncomputable def J9:FM:=z0Z 5 z0i
theorem z3U(T:Wd K mg):u2 P w K mg base CX0 2 T.kaf.f T.kaf.d z0e (spM (GT T) 1 J9):=okM z0i T.kaf.F J1 fun cdv A outer s H E F hr=>(ss_cons (ss_asg (sv 0) (sg_tup rfl rfl (sgs_cons (sgn 1 J1.nd) (sgs_cons (sgn 2 J1.nd) (sgs_cons (sgn 3 J1.nd) (sgs_cons (sgn 4 J1.nd) sgs_nil))))))
 (ss_one (ss_ret (se_fs (.fld (sv 1) (.lit (.fld (scl T.kaI (z3T T) hr (s1 (sv 2))) (.lit (.fld (sv 3) (.lit (.fld (sv 4) .nil)))))))))))
noncomputable def z1y:MS:=(Z1 (Y4 (.tp [(.nm 1),(.nm 2),(.nm 3)]) (y0 0))
 (Z1 (Y4 (.nm 4) (y3 (mCB [(y0 1)] z4a) (mCB [(mIf (G9 (y0 3)) (mC (.int 1)) (mC (.int 0)))] lstM) W8))
 (Z1 (z1V (Y8 (y0 2)) (.tp [(.nm 5),(.nm 6),(.nm 7),(.nm 8)]) (z1e (z0w (y0 4) [(y3 (y3 (mCB [(y0 5)] z1U) (y0 6) W8) (mCB [(y0 7),(y0 8)] z1U) W8)] zb0)))
 (Y9 (y3 (mCB [(J0 (zfa [(y0 4)]) (.tp [(.nm 0),(.nm 1)]) (rt true) (y3 (y0 0) (y0 1) z5O) 2 [])] ze7) (mC (.int 997)) z49)))))
noncomputable def G8:FM:=z0Z 9 z1y
theorem z5o(T:Wd K mg):u2 P w K mg base CX0 1 T.kat.f T.kat.d z1s (spM (GT T) 1 G8):=okM z1y T.kat.F Y6 fun cdv A outer s H E F hr=>(ss_cons (ss_asg (sv 0) (sg_tup rfl rfl (sgs_cons (sgn 1 Y6.nd) (sgs_cons (sgn 2 Y6.nd) (sgs_cons (sgn 3 Y6.nd) sgs_nil)))))
 (ss_cons (sst 4 Y6.nd (se_add rfl (se_ct rfl (z6Q rfl) rfl T.n_list PyProof.Rows.Boot.«list» (s1 (sv 1))) (se_lst rfl (s1 (se_ifExp (sb_truth rfl (sv 3)) (sc0 y1) (sc0 y1))))))
 (ss_cons (ss_for PassesOwn.never rfl (si_seq rfl (sv 2)) (sg_tup rfl rfl (sgs_cons (sgn 5 Y6.nd) (sgs_cons (sgn 6 Y6.nd) (sgs_cons (sgn 7 Y6.nd) (sgs_cons (sgn 8 Y6.nd) sgs_nil))))) (ss_one (ss_expr (se_cl rfl PySem.F.slot_list_extend PySem.F.type_list_extend (z6b rfl) (sv 4) (s1 (se_add rfl (se_add rfl (se_tup rfl (s1 (sv 5))) (sv 6)) (se_tup rfl (s2 (sv 7) (sv 8)))))))))
 (ss_one (ss_ret (se_mod rfl (se_cb rfl (zgI rfl hr.hd) rfl T.n_sum PyProof.Rows.Boot.«sum» (s1 (se_comp (own:=["place", "number"]) (frees:=[]) (ix:=[]) rfl rfl (V1.sc (by kernel_rfl)) (si_ens rfl rfl T.n_enumerate (s1 (sv 4)) y1) (fun _ _ _ _ _ _ _=>(sg_tup rfl rfl (sgs_cons (sg_name (j9 (i:=0) (show C7 (["place", "number"]:List Str) by decide+kernel) rfl (Or.inl rfl))) (sgs_cons (sg_name (j9 (i:=1) (show C7 (["place", "number"]:List Str) by decide+kernel) rfl (Or.inl rfl))) sgs_nil)))) (fun _ _ _ _ _ _ _=>sts_nil) (fun _ _ _ _ _ _ _=>(se_mul rfl (sv 0) (sv 1)))))) (se_c rfl (Z8 (v:= .int 997) rfl T.c_CHECK_DIVISOR.choose_spec ⟨_,rfl⟩))))))))
noncomputable def z1z:MS:=(Z1 (Y4 (.tp [(.nm 1),(.nm 2),(.nm 3)]) (y0 0))
 (Z1 (Y4 (.nm 4) (mCB [(mCall f_p_dotted [(y0 1)]),(mIf (G9 (y0 3)) (mC (.str ("1" :Str))) (mC (.str ("0" :Str))))] lstM))
 (Z1 (z1e (z0w (y0 4) [(J0 (Y8 (y0 2)) (.nm 0) (rt true) (mCall J9 [(y0 0)]) 1 [])] zb0))
 (Z1 (z1e (z0w (y0 4) [(mFs [.inl ("=" :Str), .inr (mCall G8 [(y0 0)]), .inl (";" :Str)] Str.empty)] z6H))
 (Y9 (J8 (mC (.str (" " :Str))) [(y0 4)] z28))))))
noncomputable def z05:FM:=z0Z 5 z1z
theorem z5p(T:Wd K mg):u2 P w K mg base CX0 3 T.kaq.f T.kaq.d z1r (spM (GT T) 1 z05):=okM z1z T.kaq.F U4 fun cdv A outer s H E F hr=>(ss_cons (ss_asg (sv 0) (sg_tup rfl rfl (sgs_cons (sgn 1 U4.nd) (sgs_cons (sgn 2 U4.nd) (sgs_cons (sgn 3 U4.nd) sgs_nil)))))
 (ss_cons (sst 4 U4.nd (se_lst rfl (s2 (scl T.kaI (z3T T) hr (s1 (sv 1))) (se_ifExp (sb_truth rfl (sv 3)) (sc0 Z7) (sc0 Z7)))))
 (ss_cons (ss_expr (se_cl rfl PySem.F.slot_list_extend PySem.F.type_list_extend (z6b rfl) (sv 4) (s1 (se_comp (own:=["piece"]) (frees:=[]) (ix:=[]) rfl rfl (V1.sc (by kernel_rfl)) (si_seq rfl (sv 2)) (fun _ _ _ _ _ _ _=>(sg_name (j9 (i:=0) (show C7 (["piece"]:List Str) by decide+kernel) rfl (Or.inl rfl)))) (fun _ _ _ _ _ _ _=>sts_nil) (fun _ _ _ _ _ _ _=>(scl T.kaf (z3U T) hr (s1 (sv 0))))))))
 (ss_cons (ss_expr (se_cl rfl PySem.F.slot_list_append PySem.F.type_list_append z0o (sv 4) (s1 (se_fs (.lit (.fld (scl T.kat (z5o T) hr (s1 (sv 0))) (.lit .nil)))))))
 (ss_one (ss_ret (se_ctS rfl PySem.F.slot_str_join PySem.F.type_str_join (z29 rfl) (sc0 Z7) (s1 (sv 4)))))))))
noncomputable def K5:MS:=(Z1 (sIf (mOr (z0t (W5 (Q9 (mC (.int 1)) (mCB [(y0 0)] z7O) (mC (.int 5)) leD leD))) (z0t (G9 (mCB [(J0 (z9W (y0 0)) (.nm 0) (rt true) (y3 (y0 0) (mC (.str ("0123456789" :Str))) inS) 1 [])] zcw)))) (Y9 (mC .non)) sNx)
 (Z1 (sIf (ziR (W5 (y3 (y3 (y0 0) (mC (.int 0)) ixS) (mC (.str ("0" :Str))) eqS)) (W5 (y3 (y0 0) (mC (.str ("0" :Str))) neS))) (Y9 (mC .non)) sNx)
 (Y9 (mCB [(y0 0)] z8C))))
noncomputable def Y5:FM:=z0Z 1 K5
theorem G0(T:Wd K mg):u2 P w K mg base CX0 1 T.kad.f T.kad.d K4 (spM (GT T) 1 Y5):=okM K5 T.kad.F z3l fun cdv A outer s H E F hr=>(ss_cons (ss_if (SW.sb (sw_or (sb_not (sb_cmp2 z3k z3k (sc0 y1) (se_cb rfl (z2a rfl) rfl T.n_len PyProof.Rows.Boot.«len» (s1 (sv 0))) (se_c rfl (Z8 (v:= .int 5) rfl T.c_MOST_FIGURES.choose_spec ⟨_,rfl⟩)))) (sw_or1 (sb_not (sb_truth rfl (se_cb rfl (z9L rfl hr.hd) rfl T.n_all PyProof.Rows.Boot.«all» (s1 (se_comp (own:=["sign"]) (frees:=[]) (ix:=[]) rfl rfl (V1.sc (by kernel_rfl)) (si_str (sv 0)) (fun _ _ _ _ _ _ _=>(sg_name (j9 (i:=0) (show C7 (["sign"]:List Str) by decide+kernel) rfl (Or.inl rfl)))) (fun _ _ _ _ _ _ _=>sts_nil) (fun _ _ _ _ _ _ _=>(se_cmp zgP (sv 0) (se_c rfl (Z8 (v:= .str ("0123456789" :Str)) rfl T.c_FIGURES.choose_spec ⟨_,rfl⟩)) (by with_unfolding_all rfl))))))))))) (ss_one (ss_ret (sc0 z0l))) ss_nil)
 (ss_cons (ss_if (SW.sb (sw_and (sb_cmp z7I (se_ixS (sv 0) (sc0 y1) (fun _ _=>rfl)) (sc0 Z7) (Y3 _)) (sw_and1 (sb_cmp z3b (sv 0) (sc0 Z7) (Y3 _))))) (ss_one (ss_ret (sc0 z0l))) ss_nil)
 (ss_one (ss_ret (se_ct rfl z57 rfl T.n_int PyProof.Rows.Boot.«int» (s1 (sv 0)))))))
noncomputable def K6:MS:=(Z1 (Y4 (.nm 1) (J0 (Y8 (J8 (y0 0) [(mC (.str ("." :Str)))] V3)) (.nm 0) (rt true) (mCall Y5 [(y0 0)]) 1 []))
 (Y9 (mIf (W5 (y3 (mC .non) (y0 1) inD)) (mC .non) (mCB [(y0 1)] z8T))))
noncomputable def J4:FM:=z0Z 2 K6
theorem z1c(T:Wd K mg):u2 P w K mg base CX0 2 T.kac.f T.kac.d K3 (spM (GT T) 1 J4):=okM K6 T.kac.F z1a fun cdv A outer s H E F hr=>by
 have h64:=hr.units
 exact(ss_cons (ss_comp (i:=1) (own:=["part"]) (frees:=[]) (ix:=[]) rfl z1a.nd rfl (Or.inl rfl) (Or.inl rfl) rfl rfl (V1.sc (by kernel_rfl)) (si_seq rfl (se_ctS rfl PySem.F.slot_str_split PySem.F.type_str_split z03 (sv 0) (s1 (sc0 Z7)))) (fun _ _ _ _ _ _ _=>(sg_name (j9 (i:=0) (show C7 (["part"]:List Str) by decide+kernel) rfl (Or.inl rfl)))) (fun _ _ _ _ _ _ _=>sts_nil) (fun _ _ _ _ _ _ _=>(scl T.kad (G0 T) hr (s1 (sv 0)))))
 (ss_one (ss_ret (se_ifExp (sb_cmp (zjG rfl h64) (sc0 z0l) (sv 1) (by with_unfolding_all rfl)) (sc0 z0l) (se_ct rfl (z1J rfl) rfl T.n_tuple PyProof.Rows.Boot.«tuple» (s1 (sv 1)))))))
noncomputable def z0j:MS:=(Z1 (Y4 (.nm 1) (J8 (y0 0) [(mC (.str (":" :Str)))] V3))
 (Z1 (sIf (W5 (y3 (mCB [(y0 1)] z27) (mC (.int 4)) neD)) (Y9 (mC .non)) sNx)
 (Y9 (mCB [(mCall Y5 [(y3 (y0 1) (mC (.int 0)) ixD)]),(mCall J4 [(y3 (y0 1) (mC (.int 1)) ixD)]),(mCall Y5 [(y3 (y0 1) (mC (.int 2)) ixD)]),(mCall Y5 [(y3 (y0 1) (mC (.int 3)) ixD)])] z1U))))
noncomputable def g9:FM:=z0Z 2 z0j
theorem z3V(T:Wd K mg):u2 P w K mg base CX0 3 T.kae.f T.kae.d z0f (spM (GT T) 1 g9):=okM z0j T.kae.F z1u fun cdv A outer s H E F hr=>by
 have h64:=hr.units
 exact(ss_cons (sst 1 z1u.nd (se_ctS rfl PySem.F.slot_str_split PySem.F.type_str_split z03 (sv 0) (s1 (sc0 Z7))))
 (ss_cons (ss_if (sb_cmp (z8w rfl h64) (sln T.n_len (s1 (sv 1))) (sc0 y1) (Y3 _)) (ss_one (ss_ret (sc0 z0l))) ss_nil)
 (ss_one (ss_ret (se_tup rfl (s4 (scl T.kad (G0 T) hr (s1 (sxc (sv 1) y1))) (scl T.kac (z1c T) hr (s1 (sxc (sv 1) y1))) (scl T.kad (G0 T) hr (s1 (sxc (sv 1) y1))) (scl T.kad (G0 T) hr (s1 (sxc (sv 1) y1)))))))))
noncomputable def z0O:MS:=(Z1 (Y4 (.nm 1) (J8 (y0 0) [(mC (.str (" " :Str)))] V3))
 (Z1 (sIf (W5 (y3 (mCB [(y0 1)] z27) (mC (.int 4)) ltD)) (Y9 (mC .non)) sNx)
 (Z1 (Y4 (.nm 2) (mCB [(J0 (Y8 (mSl (y0 1) (some (mC (.int 2))) (some (bd (mC (.int 1)) z8S)))) (.nm 0) (rt true) (mCall g9 [(y0 0)]) 1 [])] z8T))
 (Z1 (Y4 (.nm 3) (mCB [(mCall J4 [(y3 (y0 1) (mC (.int 0)) ixD)]),(y0 2),(y3 (y3 (y0 1) (mC (.int 1)) ixD) (mC (.str ("1" :Str))) eqS)] z1U))
 (Z1 (sIf (mOr (z0t (G9 (mCall X9 [(y0 3)]))) (W5 (y3 (mCall z05 [(y0 3)]) (y3 (y0 0) (mC (.str (";" :Str))) W8) neS))) (Y9 (mC .non)) sNx)
 (Y9 (y0 3)))))))
noncomputable def U6:FM:=z0Z 4 z0O
theorem z4h(T:Wd K mg):u2 P w K mg base CX0 8 T.kai.f T.kai.d z0G (spM (GT T) 1 U6):=okM z0O T.kai.F V6 fun cdv A outer s H E F hr=>(ss_cons (sst 1 V6.nd (se_ctS rfl PySem.F.slot_str_split PySem.F.type_str_split z03 (sv 0) (s1 (sc0 Z7))))
 (ss_cons (ss_if (sb_cmp z2J (sln T.n_len (s1 (sv 1))) (sc0 y1) (Y3 _)) (ss_one (ss_ret (sc0 z0l))) ss_nil)
 (ss_cons (sst 2 V6.nd (se_ct rfl (z1J rfl) rfl T.n_tuple PyProof.Rows.Boot.«tuple» (s1 (se_comp (own:=["word"]) (frees:=[]) (ix:=[]) rfl rfl (V1.sc (by kernel_rfl)) (si_seq rfl (se_slice rfl (sv 1) (so_some (sc0 y1)) (so_some (se_neg rfl (sc0 y1))))) (fun _ _ _ _ _ _ _=>(sg_name (j9 (i:=0) (show C7 (["word"]:List Str) by decide+kernel) rfl (Or.inl rfl)))) (fun _ _ _ _ _ _ _=>sts_nil) (fun _ _ _ _ _ _ _=>(scl T.kae (z3V T) hr (s1 (sv 0))))))))
 (ss_cons (sst 3 V6.nd (se_tup rfl (s3 (scl T.kac (z1c T) hr (s1 (sxc (sv 1) y1))) (sv 2) (se_cmp z7I (sxc (sv 1) y1) (sc0 Z7) (Y3 _)))))
 (ss_cons (ss_if (SW.sb (sw_or (sb_not (sb_truth rfl (scl T.kao (z4g T) hr (s1 (sv 3))))) (sw_or1 (sb_cmp z3b (scl T.kaq (z5p T) hr (s1 (sv 3))) (se_add rfl (sv 0) (sc0 Z7)) (Y3 _))))) (ss_one (ss_ret (sc0 z0l))) ss_nil)
 (ss_one (ss_ret (sv 3))))))))
noncomputable def z2k:MS:=(Z1 (sIf (z0t (G9 (z68 "str" (y0 0)))) (z7M "NoText") sNx)
 (Z1 (Y4 (.nm 1) (mCB [] lstM))
 (Z1 sNo
 (Y9 (y0 1)))))
noncomputable def z0P:FM:=ze4 4 z2k
theorem z6m(T:Wd K mg):u2 P w K mg base (CX1 P w) 9 T.kaw.f T.kaw.d z0F (spX (GT T) 1 z0P):=okX z2k T.kaw.F G7 fun cdv A outer s H E F hr hx hrx=>(ss_cons (ss_if (sb_not (sb_truth rfl (se_isi rfl (by decide) rfl T.n_isinstance (sv 0) (X1 (v:= .ty "str") rfl T.n_str PyProof.Rows.Boot.«str» rfl)))) (ss_one (ss_raise hr.hd hx hrx (za1 T) rfl T.kaT T.kaV)) ss_nil)
 (ss_cons (sst 1 G7.nd (se_lst rfl (sa_of rfl .nil)))
 (ss_cons ss_no
 (ss_one (ss_ret (sv 1))))))
noncomputable def z0Q:MS:=(Z1 (sIf (z0t (G9 (z68 "str" (y0 0)))) sNo sNx)
 (Z1 (Y4 (.nm 1) (mCB [] lstM))
 (Z1 (z1V (Y8 (mSl (mSl (J8 (y0 0) [(mC (.str (";" :Str)))] V3) none (some (bd (mC (.int 1)) z8S))) none (some (mC (.int 60))))) (.nm 2) (Z1 (Y4 (.nm 3) (mCall U6 [(y0 2)]))
 (Z1 (sIf (W5 (y3 (y0 3) (mC .non) isN)) (Y9 (y0 1)) sNx)
 (z1e (z0w (y0 1) [(y0 3)] z6H)))))
 (Y9 (y0 1)))))
noncomputable def W7:FM:=z0Z 4 z0Q
theorem z1Z(T:Wd K mg):u2 P w K mg base CX0 9 T.kaw.f T.kaw.d z0F (spM (GT T) 1 W7):=okM z0Q T.kaw.F G7 fun cdv A outer s H E F hr=>(ss_cons (ss_if (sb_not (sb_truth rfl (se_isi rfl (by decide) rfl T.n_isinstance (sv 0) (X1 (v:= .ty "str") rfl T.n_str PyProof.Rows.Boot.«str» rfl)))) (ss_one ss_no) ss_nil)
 (ss_cons (sst 1 G7.nd (se_lst rfl (sa_of rfl .nil)))
 (ss_cons (ss_for PassesOwn.never rfl (si_seq rfl (se_slice rfl (se_slice rfl (se_ctS rfl PySem.F.slot_str_split PySem.F.type_str_split z03 (sv 0) (s1 (sc0 Z7))) so_none (so_some (se_neg rfl (sc0 y1)))) so_none (so_some (se_c rfl (Z8 (v:= .int 60) rfl T.c_MOST_ROWS.choose_spec ⟨_,rfl⟩))))) (sgn 2 G7.nd) (ss_cons (sst 3 G7.nd (scl T.kai (z4h T) hr (s1 (sv 2))))
 (ss_cons (ss_if (sb_cmp zcA (sv 3) (sc0 z0l) (Y3 _)) (ss_one (ss_ret (sv 1))) ss_nil)
 (ss_one (ss_expr (se_cl rfl PySem.F.slot_list_append PySem.F.type_list_append z0o (sv 1) (s1 (sv 3))))))))
 (ss_one (ss_ret (sv 1))))))
noncomputable def z79:MS:=(Z1 (Y4 (.nm 2) (mC (.int 0)))
 (Z1 (sIf (W5 (y3 (y0 1) (mCB [(y0 0)] z27) ltD)) (Y4 (.nm 2) (mCB [(y3 (y0 0) (y0 1) ixD)] zf3)) sNx)
 (Z1 (Y4 (.nm 3) (y3 (y3 (y3 (y3 (y3 (y0 2) (mC (.int 2147483629)) z49) (y3 (mC (.int 104729)) (y0 1) z5O) W8) (mC (.int 17)) W8) (mC (.int 5)) z9v) (mC (.int 2147483647)) z49))
 (Z1 (z1V (z1f [(mCB [(mCB [(y0 0)] z27),(mC (.int 60))] zbs)]) (.nm 4) (Y4 (.nm 3) (y3 (y3 (y3 (y3 (y0 3) (mC (.int 48271)) z5O) (y3 (y3 (y3 (y0 0) (y0 4) ixD) (mC (.int 2147483587)) z49) (y3 (y0 4) (mC (.int 3)) W8) z5O) W8) (y0 4) W8) (mC (.int 2147483629)) z49)))
 (Z1 (sIf (W5 (y3 (y0 2) (y3 (mC (.int 10)) (mC (.int 18)) z9v) ltD)) (Y4 (.nm 2) (mC (.int 0))) sNx)
 (Y9 (mCB [(y0 2),(y0 3)] lstM)))))))
noncomputable def z3W:FM:=z0Z 5 z79
theorem zbU(T:Wd K mg):u2 P w K mg base CX0 1 T.kbm.f T.kbm.d z71 (spM (GT T) 2 z3W):=okM z79 T.kbm.F z0L fun cdv A outer s H E F hr=>(ss_cons (sst 2 z0L.nd (sc0 y1))
 (ss_cons (ss_if (sb_cmp z2J (sv 1) (sln T.n_len (s1 (sv 0))) (Y3 _)) (ss_one (sst 2 z0L.nd (se_cb rfl zgq rfl T.n_abs PyProof.Rows.Boot.«abs» (s1 (sxx (sv 0) (sv 1)))))) ss_nil)
 (ss_cons (sst 3 z0L.nd (se_mod rfl (se_pow rfl (se_add rfl (se_add rfl (se_mod rfl (sv 2) (sc0 y1)) (se_mul rfl (sc0 y1) (sv 1))) (sc0 y1)) (sc0 y1)) (sc0 y1)))
 (ss_cons (ss_for PassesOwn.never rfl (si_rng1 rfl T.n_range (s1 (se_cb rfl (z9K rfl) rfl T.n_min PyProof.Rows.Boot.«min» (s2 (sln T.n_len (s1 (sv 0))) (sc0 y1))))) (sgn 4 z0L.nd) (ss_one (sst 3 z0L.nd (se_mod rfl (se_add rfl (se_add rfl (se_mul rfl (sv 3) (sc0 y1)) (se_mul rfl (se_mod rfl (sxx (sv 0) (sv 4)) (sc0 y1)) (se_add rfl (sv 4) (sc0 y1)))) (sv 4)) (sc0 y1)))))
 (ss_cons (ss_if (sb_cmp z2J (sv 2) (se_pow rfl (sc0 y1) (sc0 y1)) (Y3 _)) (ss_one (sst 2 z0L.nd (sc0 y1))) ss_nil)
 (ss_one (ss_ret (se_lst rfl (s2 (sv 2) (sv 3))))))))))
noncomputable def z5q:MS:=(Z1 (sIf (W5 (y3 (y3 (y0 0) (mC (.int 0)) ixD) (mC (.int 0)) gtD)) (Z1 (Y4 (.nm 2) (y3 (y3 (y0 0) (mC (.int 0)) ixD) (y0 1) z49))
 (Z1 (mTri (y3 (y3 (y0 0) (mC (.int 0)) ixD) (y0 1) z66) (y0 0) (mC (.int 0)) setD)
 (Y9 (y0 2)))) sNx)
 (Z1 (mTri (y3 (y3 (y3 (y3 (y0 0) (mC (.int 1)) ixD) (mC (.int 48271)) z5O) (mC (.int 7919)) W8) (mC (.int 2147483647)) z49) (y0 0) (mC (.int 1)) setD)
 (Y9 (y3 (y3 (y3 (y3 (y3 (y3 (y3 (y0 0) (mC (.int 1)) ixD) (mC (.int 3)) z9v) (mC (.int 2147483587)) z49) (mC (.int 7)) z66) (mC (.int 69621)) z5O) (mC (.int 1073741789)) z49) (y0 1) z49))))
noncomputable def Z0:FM:=z0Z 3 z5q
theorem Z9(T:Wd K mg):u2 P w K mg base CX0 1 T.kbc.f T.kbc.d z5e (spM (GT T) 2 Z0):=okM z5q T.kbc.F z6k fun cdv A outer s H E F hr=>(ss_cons (ss_if (sb_cmp zdX (sxc (sv 0) y1) (sc0 y1) (Y3 _)) (ss_cons (sst 2 z6k.nd (se_mod rfl (sxc (sv 0) y1) (sv 1)))
 (ss_cons (ss_setI (se_fdiv rfl (sxc (sv 0) y1) (sv 1)) (sv 0) (sc0 y1) (fun{to ti} h1 h2=>z5S h1 h2 z2r))
 (ss_one (ss_ret (sv 2))))) ss_nil)
 (ss_cons (ss_setI (se_mod rfl (se_add rfl (se_mul rfl (sxc (sv 0) y1) (sc0 y1)) (sc0 y1)) (sc0 y1)) (sv 0) (sc0 y1) (fun{to ti} h1 h2=>z5S h1 h2 z2r))
 (ss_one (ss_ret (se_mod rfl (se_mod rfl (se_mul rfl (se_fdiv rfl (se_mod rfl (se_pow rfl (sxc (sv 0) y1) (sc0 y1)) (sc0 y1)) (sc0 y1)) (sc0 y1)) (sc0 y1)) (sv 1))))))
noncomputable def z0k:MS:=(Y9 (mCB [(J0 (z1f [(y0 1)]) (.nm 0) (rt true) (mCall Z0 [(y0 1),(y0 2)]) 1 [0,2])] z8T))
noncomputable def Q0:FM:=z0Z 3 z0k
theorem z1A(T:Wd K mg):u2 P w K mg base CX0 2 T.kag.f T.kag.d z0g (spM (GT T) 3 Q0):=okM z0k T.kag.F z3R fun cdv A outer s H E F hr=>(ss_one (ss_ret (se_ct rfl (z1J rfl) rfl T.n_tuple PyProof.Rows.Boot.«tuple» (s1 (se_comp (own:=["_law_k"]) (frees:=["_law_bag_here", "_law_most"]) (ix:=[0,2]) rfl rfl (V1.sc (by kernel_rfl)) (si_rng1 rfl T.n_range (s1 (sv 1))) (fun _ _ _ _ _ _ _=>(sg_name (j9 (i:=0) (show C7 (["_law_k", "_law_bag_here", "_law_most"]:List Str) by decide+kernel) rfl (Or.inl rfl)))) (fun _ _ _ _ _ _ _=>sts_nil) (fun _ _ _ _ _ _ _=>(scl T.kbc (Z9 T) hr (s2 (sv 1) (sv 2)))))))))
noncomputable def z2Y:MS:=(Z1 (Y4 (.nm 3) (y3 (mC (.int 1)) (mCall Z0 [(y0 0),(y0 1)]) W8))
 (Z1 (Y4 (.nm 4) (y3 (mCB [(mC (.int 10)),(mC (.int 10000)),(mC (.int 100000))] lstM) (mCall Z0 [(y0 0),(mC (.int 3))]) ixD))
 (Z1 (Y4 (.nm 5) (mCB [] lstM))
 (Z1 (Y4 (.nm 6) (mC (.int 0)))
 (Z1 (z1V (z1f [(y0 3)]) (.nm 7) (sIf (W5 (y3 (y0 6) (y0 3) ltD)) (Z1 (Y4 (.nm 6) (y3 (y3 (y0 6) (mC (.int 1)) W8) (mCall Z0 [(y0 0),(mCB [(mC (.int 3)),(y3 (y0 3) (y0 6) zbo)] zbs)]) W8))
 (Z1 (Y4 (.nm 8) (mCall Q0 [(y0 0),(y3 (mC (.int 1)) (mCall Z0 [(y0 0),(y0 2)]) W8),(mC (.int 1040))]))
 (z1e (z0w (y0 5) [(mCB [(y0 6),(y0 8),(mCall Z0 [(y0 0),(mC (.int 9))]),(mCall Z0 [(y0 0),(y0 4)])] z1U)] z6H)))) sNx))
 (Y9 (mCB [(mCall Q0 [(y0 0),(y0 3),(mC (.int 40))]),(mCB [(y0 5)] z8T),(y3 (mCall Z0 [(y0 0),(mC (.int 2))]) (mC (.int 1)) eqD)] z1U)))))))
noncomputable def z0q:FM:=z0Z 9 z2Y
theorem z7a(T:Wd K mg):u2 P w K mg base CX0 3 T.kaO.f T.kaO.d z2T (spM (GT T) 3 z0q):=okM z2Y T.kaO.F J2 fun cdv A outer s H E F hr=>by
 have h64:=hr.units
 exact(ss_cons (sst 3 J2.nd (se_add rfl (sc0 y1) (scl T.kbc (Z9 T) hr (s2 (sv 0) (sv 1)))))
 (ss_cons (sst 4 J2.nd (sxx (se_lst rfl (s3 (sc0 y1) (sc0 y1) (sc0 y1))) (scl T.kbc (Z9 T) hr (s2 (sv 0) (sc0 y1)))))
 (ss_cons (sst 5 J2.nd (se_lst rfl (sa_of rfl .nil)))
 (ss_cons (sst 6 J2.nd (sc0 y1))
 (ss_cons (ss_for PassesOwn.never rfl (si_rng1 rfl T.n_range (s1 (sv 3))) (sgn 7 J2.nd) (ss_one (ss_if (sb_cmp z2J (sv 6) (sv 3) (Y3 _)) (ss_cons (sst 6 J2.nd (se_add rfl (se_add rfl (sv 6) (sc0 y1)) (scl T.kbc (Z9 T) hr (s2 (sv 0) (se_cb rfl (z9K rfl) rfl T.n_min PyProof.Rows.Boot.«min» (s2 (sc0 y1) (se_sub rfl (sv 3) (sv 6))))))))
 (ss_cons (sst 8 J2.nd (scl T.kag (z1A T) hr (s3 (sv 0) (se_add rfl (sc0 y1) (scl T.kbc (Z9 T) hr (s2 (sv 0) (sv 2)))) (sc0 y1))))
 (ss_one (ss_expr (se_cl rfl PySem.F.slot_list_append PySem.F.type_list_append z0o (sv 5) (s1 (se_tup rfl (s4 (sv 6) (sv 8) (scl T.kbc (Z9 T) hr (s2 (sv 0) (sc0 y1))) (scl T.kbc (Z9 T) hr (s2 (sv 0) (sv 4))))))))))) ss_nil)))
 (ss_one (ss_ret (se_tup rfl (s3 (scl T.kag (z1A T) hr (s3 (sv 0) (sv 3) (sc0 y1))) (se_ct rfl (z1J rfl) rfl T.n_tuple PyProof.Rows.Boot.«tuple» (s1 (sv 5))) (se_cmp (z50 rfl h64) (scl T.kbc (Z9 T) hr (s2 (sv 0) (sc0 y1))) (sc0 y1) (Y3 _)))))))))))
noncomputable def z2l:MS:=(Z1 (Y4 (.nm 1) (mCall Z0 [(y0 0),(mC (.int 8))]))
 (Z1 (Y4 (.nm 2) (mCall Z0 [(y0 0),(y3 (mCB [(mC (.int 61)),(mC (.int 3)),(mC (.int 6)),(mC (.int 6)),(mC (.int 9)),(mC (.int 2)),(mC (.int 4)),(mC (.int 6))] lstM) (y0 1) ixD)]))
 (Y9 (J0 (z1f [(y0 2)]) (.nm 0) (rt true) (mCall z0q [(y0 1),(y3 (mCB [(mC (.int 3)),(mC (.int 24)),(mC (.int 6)),(mC (.int 6)),(mC (.int 6)),(mC (.int 6)),(mC (.int 6)),(mC (.int 6))] lstM) (y0 2) ixD),(y3 (mCB [(mC (.int 2)),(mC (.int 24)),(mC (.int 4)),(mC (.int 4)),(mC (.int 4)),(mC (.int 4)),(mC (.int 4)),(mC (.int 4))] lstM) (y0 2) ixD)]) 1 [0,1]))))
noncomputable def V4:FM:=z0Z 3 z2l
theorem z6n(T:Wd K mg):u2 P w K mg base CX0 4 T.kaA.f T.kaA.d z2f (spM (GT T) 1 V4):=okM z2l T.kaA.F z1v fun cdv A outer s H E F hr=>(ss_cons (ss_set (fun{te} h=>zco (i:=1) z1v.nd rfl (Or.inr rfl) h) (scl T.kbc (Z9 T) hr (s2 (sv 0) (sc0 y1))))
 (ss_cons (sst 2 z1v.nd (scl T.kbc (Z9 T) hr (s2 (sv 0) (sxx (se_lst rfl (sa_of rfl (.cons (sc0 y1) rfl (.cons (sc0 y1) rfl (.cons (sc0 y1) rfl (.cons (sc0 y1) rfl (.cons (sc0 y1) rfl (.cons (sc0 y1) rfl (.cons (sc0 y1) rfl (.cons (sc0 y1) rfl .nil)))))))))) (sv 1)))))
 (ss_one (ss_ret (se_comp (own:=["_law_k"]) (frees:=["_law_bag_here", "_law_way"]) (ix:=[0,1]) rfl rfl (V1.sc (by kernel_rfl)) (si_rng1 rfl T.n_range (s1 (sv 2))) (fun _ _ _ _ _ _ _=>(sg_name (j9 (i:=0) (show C7 (["_law_k", "_law_bag_here", "_law_way"]:List Str) by decide+kernel) rfl (Or.inl rfl)))) (fun _ _ _ _ _ _ _=>sts_nil) (fun _ _ _ _ _ _ _=>(scl T.kaO (z7a T) hr (s3 (sv 1) (sxx (se_lst rfl (sa_of rfl (.cons (sc0 y1) rfl (.cons (sc0 y1) rfl (.cons (sc0 y1) rfl (.cons (sc0 y1) rfl (.cons (sc0 y1) rfl (.cons (sc0 y1) rfl (.cons (sc0 y1) rfl (.cons (sc0 y1) rfl .nil)))))))))) (sv 2)) (sxx (se_lst rfl (sa_of rfl (.cons (sc0 y1) rfl (.cons (sc0 y1) rfl (.cons (sc0 y1) rfl (.cons (sc0 y1) rfl (.cons (sc0 y1) rfl (.cons (sc0 y1) rfl (.cons (sc0 y1) rfl (.cons (sc0 y1) rfl .nil)))))))))) (sv 2))))))))))
noncomputable def z7Q:MS:=(Y9 (J8 (mC (.str ("." :Str))) [(J0 (Y8 (y0 0)) (.nm 0) (rt true) (mCB [(y0 0)] z1g) 1 [])] z28))
noncomputable def z1L:FM:=z0Z 1 z7Q
theorem z6o(T:Wd K mg):u2 P w K mg base CX0 1 T.ka8.f T.ka8.d z5f (spM (GT T) 1 z1L):=okM z7Q T.ka8.F za0 fun cdv A outer s H E F hr=>by
 have h64:=hr.units
 exact(ss_one (ss_ret (se_ctS rfl PySem.F.slot_str_join PySem.F.type_str_join (z29 rfl) (sc0 Z7) (s1 (se_comp (own:=["_law_number_here"]) (frees:=[]) (ix:=[]) rfl rfl (V1.sc (by kernel_rfl)) (si_seq rfl (sv 0)) (fun _ _ _ _ _ _ _=>(sg_name (j9 (i:=0) (show C7 (["_law_number_here"]:List Str) by decide+kernel) rfl (Or.inl rfl)))) (fun _ _ _ _ _ _ _=>sts_nil) (fun _ _ _ _ _ _ _=>(se_ct rfl (G2 rfl hr.gd h64) rfl T.n_str PyProof.Rows.Boot.«str» (s1 (sv 0)))))))))
noncomputable def z7b:MS:=(Z1 (Y4 (.tp [(.nm 1),(.nm 2),(.nm 3)]) (y0 0))
 (Z1 (Y4 (.nm 4) (y3 (mCB [(y0 1)] z4a) (mCB [(mCB [(y0 3)] zbt)] lstM) W8))
 (Z1 (Y4 (.nm 5) (mCB [(mCall z1L [(y0 1)]),(mCB [(mCB [(y0 3)] zbt)] z1g)] lstM))
 (Z1 (z1V (Y8 (y0 2)) (.tp [(.nm 6),(.nm 7),(.nm 8),(.nm 9)]) (Z1 (Y4 (.nm 4) (y3 (y3 (y3 (y0 4) (mCB [(y0 6)] lstM) W8) (mCB [(y0 7)] z4a) W8) (mCB [(y0 8),(y0 9)] lstM) W8))
 (z1e (z0w (y0 5) [(J8 (mC (.str (":" :Str))) [(mCB [(mCB [(y0 6)] z1g),(mCall z1L [(y0 7)]),(mCB [(y0 8)] z1g),(mCB [(y0 9)] z1g)] lstM)] z28)] z6H))))
 (Z1 (Y4 (.nm 10) (mC (.int 0)))
 (Z1 (z1V (zf5 [(y0 4)]) (.tp [(.nm 11),(.nm 12)]) (Y4 (.nm 10) (y3 (y3 (y3 (y0 10) (y3 (y0 11) (y0 12) z5O) W8) (y0 12) W8) (mC (.int 997)) z49)))
 (Y9 (y3 (y3 (y3 (J8 (mC (.str (" " :Str))) [(y0 5)] z28) (mC (.str (" =" :Str))) W8) (mCB [(y0 10)] z1g) W8) (mC (.str (";" :Str))) W8))))))))
noncomputable def z1B:FM:=z0Z 13 z7b
theorem z7R(T:Wd K mg):u2 P w K mg base CX0 2 T.kbq.f T.kbq.d z73 (spM (GT T) 1 z1B):=okM z7b T.kbq.F Q7 fun cdv A outer s H E F hr=>by
 have h64:=hr.units
 exact(ss_cons (ss_asg (sv 0) (sg_tup rfl rfl (sgs_cons (sgn 1 Q7.nd) (sgs_cons (sgn 2 Q7.nd) (sgs_cons (sgn 3 Q7.nd) sgs_nil)))))
 (ss_cons (sst 4 Q7.nd (se_add rfl (se_ct rfl (z6Q rfl) rfl T.n_list PyProof.Rows.Boot.«list» (s1 (sv 1))) (se_lst rfl (s1 (se_ct rfl zcC rfl T.n_int PyProof.Rows.Boot.«int» (s1 (sv 3)))))))
 (ss_cons (sst 5 Q7.nd (se_lst rfl (s2 (scl T.ka8 (z6o T) hr (s1 (sv 1))) (se_ct rfl (G2 rfl hr.gd h64) rfl T.n_str PyProof.Rows.Boot.«str» (s1 (se_ct rfl zcC rfl T.n_int PyProof.Rows.Boot.«int» (s1 (sv 3))))))))
 (ss_cons (ss_for PassesOwn.never rfl (si_seq rfl (sv 2)) (sg_tup rfl rfl (sgs_cons (sgn 6 Q7.nd) (sgs_cons (sgn 7 Q7.nd) (sgs_cons (sgn 8 Q7.nd) (sgs_cons (sgn 9 Q7.nd) sgs_nil))))) (ss_cons (sst 4 Q7.nd (se_add rfl (se_add rfl (se_add rfl (sv 4) (se_lst rfl (s1 (sv 6)))) (se_ct rfl (z6Q rfl) rfl T.n_list PyProof.Rows.Boot.«list» (s1 (sv 7)))) (se_lst rfl (s2 (sv 8) (sv 9)))))
 (ss_one (ss_expr (se_cl rfl PySem.F.slot_list_append PySem.F.type_list_append z0o (sv 5) (s1 (se_ctS rfl PySem.F.slot_str_join PySem.F.type_str_join (z29 rfl) (sc0 Z7) (s1 (se_lst rfl (s4 (se_ct rfl (G2 rfl hr.gd h64) rfl T.n_str PyProof.Rows.Boot.«str» (s1 (sv 6))) (scl T.ka8 (z6o T) hr (s1 (sv 7))) (se_ct rfl (G2 rfl hr.gd h64) rfl T.n_str PyProof.Rows.Boot.«str» (s1 (sv 8))) (se_ct rfl (G2 rfl hr.gd h64) rfl T.n_str PyProof.Rows.Boot.«str» (s1 (sv 9)))))))))))))
 (ss_cons (sst 10 Q7.nd (sc0 y1))
 (ss_cons (ss_for PassesOwn.never rfl (si_enm rfl rfl T.n_enumerate (s1 (sv 4))) (sg_tup rfl rfl (sgs_cons (sgn 11 Q7.nd) (sgs_cons (sgn 12 Q7.nd) sgs_nil))) (ss_one (sst 10 Q7.nd (se_mod rfl (se_add rfl (se_add rfl (sv 10) (se_mul rfl (sv 11) (sv 12))) (sv 12)) (sc0 y1)))))
 (ss_one (ss_ret (se_add rfl (se_add rfl (se_add rfl (se_ctS rfl PySem.F.slot_str_join PySem.F.type_str_join (z29 rfl) (sc0 Z7) (s1 (sv 5))) (sc0 Z7)) (se_ct rfl (G2 rfl hr.gd h64) rfl T.n_str PyProof.Rows.Boot.«str» (s1 (sv 10)))) (sc0 Z7))))))))))
noncomputable def z2Z:MS:=(Z1 (sIf (mOr (z0t (W5 (Q9 (mC (.int 1)) (mCB [(y0 0)] z7O) (mC (.int 5)) leD leD))) (mOr (W5 (y3 (J8 (y0 0) [(mC (.str ("0123456789" :Str)))] txS) (mC (.str ("" :Str))) neS)) (W5 (y3 (mCB [(mCB [(y0 0)] z8C)] z1g) (y0 0) neS)))) (Y9 (bd (mC (.int 1)) z8S)) sNx)
 (Y9 (mCB [(y0 0)] z8C)))
noncomputable def Q4:FM:=z0Z 1 z2Z
theorem z0R(T:Wd K mg):u2 P w K mg base CX0 1 T.kaE.f T.kaE.d z2U (spM (GT T) 1 Q4):=okM z2Z T.kaE.F z77 fun cdv A outer s H E F hr=>by
 have h64:=hr.units
 exact(ss_cons (ss_if (SW.sb (sw_or (sb_not (sb_cmp2 z3k z3k (sc0 y1) (se_cb rfl (z2a rfl) rfl T.n_len PyProof.Rows.Boot.«len» (s1 (sv 0))) (sc0 y1))) (sw_or (sb_cmp z3b (se_ctS rfl PySem.F.slot_str_strip PySem.F.type_str_strip zcF (sv 0) (s1 (sc0 Z7))) (sc0 Z7) (Y3 _)) (sw_or1 (sb_cmp z3b (se_ct rfl (G2 rfl hr.gd h64) rfl T.n_str PyProof.Rows.Boot.«str» (s1 (se_ct rfl z57 rfl T.n_int PyProof.Rows.Boot.«int» (s1 (sv 0))))) (sv 0) (Y3 _)))))) (ss_one (ss_ret (se_neg rfl (sc0 y1)))) ss_nil)
 (ss_one (ss_ret (se_ct rfl z57 rfl T.n_int PyProof.Rows.Boot.«int» (s1 (sv 0))))))
noncomputable def z2m:MS:=(Y9 (mCB [(J0 (Y8 (J8 (y0 0) [(mC (.str ("." :Str)))] V3)) (.nm 0) (rt true) (mCall Q4 [(y0 0)]) 1 [])] z8T))
noncomputable def G6:FM:=z0Z 1 z2m
theorem z3d(T:Wd K mg):u2 P w K mg base CX0 2 T.kaC.f T.kaC.d z2g (spM (GT T) 1 G6):=okM z2m T.kaC.F z6l fun cdv A outer s H E F hr=>(ss_one (ss_ret (se_ct rfl (z1J rfl) rfl T.n_tuple PyProof.Rows.Boot.«tuple» (s1 (se_comp (own:=["_law_part"]) (frees:=[]) (ix:=[]) rfl rfl (V1.sc (by kernel_rfl)) (si_seq rfl (se_ctS rfl PySem.F.slot_str_split PySem.F.type_str_split z03 (sv 0) (s1 (sc0 Z7)))) (fun _ _ _ _ _ _ _=>(sg_name (j9 (i:=0) (show C7 (["_law_part"]:List Str) by decide+kernel) rfl (Or.inl rfl)))) (fun _ _ _ _ _ _ _=>sts_nil) (fun _ _ _ _ _ _ _=>(scl T.kaE (z0R T) hr (s1 (sv 0)))))))))
noncomputable def z0S:MS:=(Z1 (sIf (mOr (W5 (y3 (mCB [(y0 0)] z27) (mC (.int 24)) gtD)) (W5 (y3 (J0 (Y8 (y0 0)) (.nm 0) (z0t (W5 (Q9 (mC (.int 0)) (y0 0) (mC (.int 40)) leD ltD))) (y0 0) 1 []) (mCB [] lstM) neD))) (Y9 (mC (.bool false))) sNx)
 (Z1 (Y4 (.nm 2) (mC (.int 0)))
 (Z1 (z1V (Y8 (y0 1)) (.tp [(.nm 3),(.nm 4),(.nm 5),(.nm 6)]) (Z1 (sIf (mOr (z0t (W5 (Q9 (y0 2) (y0 3) (mCB [(y0 0)] z27) ltD leD))) (mOr (z0t (W5 (Q9 (mC (.int 0)) (y0 5) (mC (.int 9)) leD ltD))) (mOr (W5 (y3 (y0 6) (mC (.int 0)) ltD)) (W5 (y3 (mCB [(y0 4)] z27) (mC (.int 24)) gtD))))) (Y9 (mC (.bool false))) sNx)
 (Z1 (sIf (W5 (y3 (J0 (Y8 (y0 4)) (.nm 0) (z0t (W5 (Q9 (mC (.int 0)) (y0 0) (mC (.int 1040)) leD ltD))) (y0 0) 1 []) (mCB [] lstM) neD)) (Y9 (mC (.bool false))) sNx)
 (Y4 (.nm 2) (y0 3)))))
 (Y9 (y3 (y0 2) (mCB [(y0 0)] z27) eqD)))))
noncomputable def U7:FM:=z0Z 7 z0S
theorem z4i(T:Wd K mg):u2 P w K mg base CX0 1 T.kam.f T.kam.d z0H (spM (GT T) 2 U7):=okM z0S T.kam.F W9 fun cdv A outer s H E F hr=>by
 have h64:=hr.units
 exact(ss_cons (ss_if (SW.sb (sw_or (sb_cmp zdX (sln T.n_len (s1 (sv 0))) (sc0 y1) (Y3 _)) (sw_or1 (sb_cmp (z8w rfl h64) (se_comp (own:=["_law_one"]) (frees:=[]) (ix:=[]) rfl rfl (V1.sc (by kernel_rfl)) (si_seq rfl (sv 0)) (fun _ _ _ _ _ _ _=>(sg_name (j9 (i:=0) (show C7 (["_law_one"]:List Str) by decide+kernel) rfl (Or.inl rfl)))) (fun _ _ _ _ _ _ _=>(sts_one (sb_not (sb_cmp2 z3k z2J (sc0 y1) (sv 0) (sc0 y1))))) (fun _ _ _ _ _ _ _=>(sv 0))) (se_lst rfl (sa_of rfl .nil)) (Y3 _))))) (ss_one (ss_ret (sc0 z1M))) ss_nil)
 (ss_cons (sst 2 W9.nd (sc0 y1))
 (ss_cons (ss_for PassesOwn.never rfl (si_seq rfl (sv 1)) (sg_tup rfl rfl (sgs_cons (sgn 3 W9.nd) (sgs_cons (sgn 4 W9.nd) (sgs_cons (sgn 5 W9.nd) (sgs_cons (sgn 6 W9.nd) sgs_nil))))) (ss_cons (ss_if (SW.sb (sw_or (sb_not (sb_cmp2 z2J z3k (sv 2) (sv 3) (sln T.n_len (s1 (sv 0))))) (sw_or (sb_not (sb_cmp2 z3k z2J (sc0 y1) (sv 5) (sc0 y1))) (sw_or (sb_cmp z2J (sv 6) (sc0 y1) (Y3 _)) (sw_or1 (sb_cmp zdX (sln T.n_len (s1 (sv 4))) (sc0 y1) (Y3 _))))))) (ss_one (ss_ret (sc0 z1M))) ss_nil)
 (ss_cons (ss_if (sb_cmp (z8w rfl h64) (se_comp (own:=["_law_one"]) (frees:=[]) (ix:=[]) rfl rfl (V1.sc (by kernel_rfl)) (si_seq rfl (sv 4)) (fun _ _ _ _ _ _ _=>(sg_name (j9 (i:=0) (show C7 (["_law_one"]:List Str) by decide+kernel) rfl (Or.inl rfl)))) (fun _ _ _ _ _ _ _=>(sts_one (sb_not (sb_cmp2 z3k z2J (sc0 y1) (sv 0) (sc0 y1))))) (fun _ _ _ _ _ _ _=>(sv 0))) (se_lst rfl (sa_of rfl .nil)) (Y3 _)) (ss_one (ss_ret (sc0 z1M))) ss_nil)
 (ss_one (sst 2 W9.nd (sv 3))))))
 (ss_one (ss_ret (se_cmp (z50 rfl h64) (sv 2) (sln T.n_len (s1 (sv 0))) (Y3 _)))))))
noncomputable def z0T:MS:=(Z1 (Y4 (.nm 1) (J8 (y0 0) [(mC (.str (" " :Str)))] V3))
 (Z1 (sIf (mOr (W5 (y3 (mCB [(y0 1)] z27) (mC (.int 4)) ltD)) (W5 (y3 (y3 (y0 1) (mC (.int 1)) ixD) (mCB [(mC (.str ("0" :Str))),(mC (.str ("1" :Str)))] lstM) zct))) (Y9 (mC .non)) sNx)
 (Z1 (Y4 (.nm 2) (mCB [] lstM))
 (Z1 (z1V (Y8 (mSl (y0 1) (some (mC (.int 2))) (some (bd (mC (.int 1)) z8S)))) (.nm 3) (Z1 (Y4 (.nm 4) (J8 (y0 3) [(mC (.str (":" :Str)))] V3))
 (Z1 (sIf (W5 (y3 (mCB [(y0 4)] z27) (mC (.int 4)) neD)) (Y9 (mC .non)) sNx)
 (z1e (z0w (y0 2) [(mCB [(mCall Q4 [(y3 (y0 4) (mC (.int 0)) ixD)]),(mCall G6 [(y3 (y0 4) (mC (.int 1)) ixD)]),(mCall Q4 [(y3 (y0 4) (mC (.int 2)) ixD)]),(mCall Q4 [(y3 (y0 4) (mC (.int 3)) ixD)])] z1U)] z6H)))))
 (Z1 (Y4 (.nm 5) (mCB [(mCall G6 [(y3 (y0 1) (mC (.int 0)) ixD)]),(mCB [(y0 2)] z8T),(y3 (y3 (y0 1) (mC (.int 1)) ixD) (mC (.str ("1" :Str))) eqS)] z1U))
 (Z1 (sIf (mOr (z0t (G9 (mCall U7 [(y3 (y0 5) (mC (.int 0)) ixD),(y0 2)]))) (W5 (y3 (mCall z1B [(y0 5)]) (y3 (y0 0) (mC (.str (";" :Str))) W8) neS))) (Y9 (mC .non)) sNx)
 (Y9 (y0 5))))))))
noncomputable def U8:FM:=z0Z 6 z0T
theorem z4j(T:Wd K mg):u2 P w K mg base CX0 3 T.kaj.f T.kaj.d z0I (spM (GT T) 1 U8):=okM z0T T.kaj.F j3 fun cdv A outer s H E F hr=>by
 have h64:=hr.units
 exact(ss_cons (sst 1 j3.nd (se_ctS rfl PySem.F.slot_str_split PySem.F.type_str_split z03 (sv 0) (s1 (sc0 Z7))))
 (ss_cons (ss_if (SW.sb (sw_or (sb_cmp z2J (sln T.n_len (s1 (sv 1))) (sc0 y1) (Y3 _)) (sw_or1 (sb_cmp (zgo rfl h64) (sxc (sv 1) y1) (se_lst rfl (s2 (sc0 Z7) (sc0 Z7))) (by with_unfolding_all rfl))))) (ss_one (ss_ret (sc0 z0l))) ss_nil)
 (ss_cons (sst 2 j3.nd (se_lst rfl (sa_of rfl .nil)))
 (ss_cons (ss_for PassesOwn.never rfl (si_seq rfl (se_slice rfl (sv 1) (so_some (sc0 y1)) (so_some (se_neg rfl (sc0 y1))))) (sgn 3 j3.nd) (ss_cons (sst 4 j3.nd (se_ctS rfl PySem.F.slot_str_split PySem.F.type_str_split z03 (sv 3) (s1 (sc0 Z7))))
 (ss_cons (ss_if (sb_cmp (z8w rfl h64) (sln T.n_len (s1 (sv 4))) (sc0 y1) (Y3 _)) (ss_one (ss_ret (sc0 z0l))) ss_nil)
 (ss_one (ss_expr (se_cl rfl PySem.F.slot_list_append PySem.F.type_list_append z0o (sv 2) (s1 (se_tup rfl (s4 (scl T.kaE (z0R T) hr (s1 (sxc (sv 4) y1))) (scl T.kaC (z3d T) hr (s1 (sxc (sv 4) y1))) (scl T.kaE (z0R T) hr (s1 (sxc (sv 4) y1))) (scl T.kaE (z0R T) hr (s1 (sxc (sv 4) y1))))))))))))
 (ss_cons (sst 5 j3.nd (se_tup rfl (s3 (scl T.kaC (z3d T) hr (s1 (sxc (sv 1) y1))) (se_ct rfl (z1J rfl) rfl T.n_tuple PyProof.Rows.Boot.«tuple» (s1 (sv 2))) (se_cmp z7I (sxc (sv 1) y1) (sc0 Z7) (Y3 _)))))
 (ss_cons (ss_if (SW.sb (sw_or (sb_not (sb_truth rfl (scl T.kam (z4i T) hr (s2 (sxc (sv 5) y1) (sv 2))))) (sw_or1 (sb_cmp z3b (scl T.kbq (z7R T) hr (s1 (sv 5))) (se_add rfl (sv 0) (sc0 Z7)) (Y3 _))))) (ss_one (ss_ret (sc0 z0l))) ss_nil)
 (ss_one (ss_ret (sv 5)))))))))
noncomputable def z5r:MS:=(Z1 (Y4 (.nm 1) (mCB [] lstM))
 (Z1 (Y4 (.nm 2) (y0 0))
 (Z1 (z1V (z1f [(mC (.int 60))]) (.nm 3) (Z1 (Y4 (.tp [(.nm 4),(.nm 5),(.nm 2)]) (J8 (y0 2) [(mC (.str (";" :Str)))] txP))
 (Z1 (Y4 (.nm 6) (mCall U8 [(y0 4)]))
 (Z1 (sIf (mOr (W5 (y3 (y0 5) (mC (.str ("" :Str))) eqS)) (W5 (y3 (y0 6) (mC .non) isN))) (Y9 (y0 1)) sNx)
 (z1e (z0w (y0 1) [(y0 6)] z6H))))))
 (Y9 (y0 1)))))
noncomputable def z06:FM:=z0Z 7 z5r
theorem z6p(T:Wd K mg):u2 P w K mg base CX0 4 T.kba.f T.kba.d z5i (spM (GT T) 1 z06):=okM z5r T.kba.F V9 fun cdv A outer s H E F hr=>(ss_cons (sst 1 V9.nd (se_lst rfl (sa_of rfl .nil)))
 (ss_cons (sst 2 V9.nd (sv 0))
 (ss_cons (ss_for PassesOwn.never rfl (si_rng1 rfl T.n_range (s1 (sc0 y1))) (sgn 3 V9.nd) (ss_cons (ss_asg (se_ctS rfl PySem.F.slot_str_partition PySem.F.type_str_partition zgU (sv 2) (s1 (sc0 Z7))) (sg_tup rfl rfl (sgs_cons (sgn 4 V9.nd) (sgs_cons (sgn 5 V9.nd) (sgs_cons (sgn 2 V9.nd) sgs_nil)))))
 (ss_cons (sst 6 V9.nd (scl T.kaj (z4j T) hr (s1 (sv 4))))
 (ss_cons (ss_if (SW.sb (sw_or (sb_cmp z7I (sv 5) (sc0 Z7) (Y3 _)) (sw_or1 (sb_cmp zcA (sv 6) (sc0 z0l) (Y3 _))))) (ss_one (ss_ret (sv 1))) ss_nil)
 (ss_one (ss_expr (se_cl rfl PySem.F.slot_list_append PySem.F.type_list_append z0o (sv 1) (s1 (sv 6)))))))))
 (ss_one (ss_ret (sv 1))))))
noncomputable def z0U:MS:=(Z1 (Y4 (.nm 2) (mCall Z0 [(y0 0),(mCB [(mC (.int 1)),(mCB [(y0 1)] z7O)] zcv)]))
 (Z1 (Y4 (.nm 3) (mCall Z0 [(y0 0),(mC (.int 5))]))
 (Z1 (sIf (W5 (y3 (y0 3) (mC (.int 0)) eqD)) (Y9 (y3 (y3 (z6g (y0 1) none (some (y0 2))) (mC (.str ("0" :Str))) W8) (z6g (y0 1) (some (y0 2)) none) W8)) sNx)
 (Z1 (sIf (W5 (y3 (y0 3) (mC (.int 1)) eqD)) (Y9 (y3 (y3 (z6g (y0 1) none (some (y0 2))) (mCB [(mCall Z0 [(y0 0),(y3 (mC (.int 10)) (mC (.int 60)) z9v)])] z1g) W8) (z6g (y0 1) (some (y3 (y0 2) (mC (.int 1)) W8)) none) W8)) sNx)
 (Z1 (sIf (mOr (W5 (y3 (J8 (y0 1) [(mC (.str ("0123456789" :Str)))] txS) (mC (.str ("" :Str))) neS)) (z0t (W5 (Q9 (mC (.int 0)) (mCB [(y0 1)] z7O) (mC (.int 6)) ltD ltD)))) (Y9 (y3 (y3 (z6g (y0 1) none (some (y0 2))) (mCB [(mCall Z0 [(y0 0),(mC (.int 10))])] z1g) W8) (z6g (y0 1) (some (y3 (y0 2) (mC (.int 1)) W8)) none) W8)) sNx)
 (Y9 (mCB [(y3 (mCB [(y0 1)] z8C) (y3 (mCB [(mC (.int 1)),(mC (.int 997)),(mC (.int 994))] lstM) (y3 (y0 3) (mC (.int 2)) zbo) ixD) W8)] z1g)))))))
noncomputable def k6:FM:=z0Z 4 z0U
theorem z4k(T:Wd K mg):u2 P w K mg base CX0 2 T.kal.f T.kal.d z0J (spM (GT T) 2 k6):=okM z0U T.kal.F z0h fun cdv A outer s H E F hr=>by
 have h64:=hr.units
 exact(ss_cons (sst 2 z0h.nd (scl T.kbc (Z9 T) hr (s2 (sv 0) (se_cb rfl (zcB rfl) rfl T.n_max PyProof.Rows.Boot.«max» (s2 (sc0 y1) (se_cb rfl (z2a rfl) rfl T.n_len PyProof.Rows.Boot.«len» (s1 (sv 1))))))))
 (ss_cons (sst 3 z0h.nd (scl T.kbc (Z9 T) hr (s2 (sv 0) (sc0 y1))))
 (ss_cons (ss_if (sb_cmp (z50 rfl h64) (sv 3) (sc0 y1) (Y3 _)) (ss_one (ss_ret (se_add rfl (se_add rfl (se_sliceS rfl (sv 1) so_none (so_some (sv 2))) (sc0 Z7)) (se_sliceS rfl (sv 1) (so_some (sv 2)) so_none)))) ss_nil)
 (ss_cons (ss_if (sb_cmp (z50 rfl h64) (sv 3) (sc0 y1) (Y3 _)) (ss_one (ss_ret (se_add rfl (se_add rfl (se_sliceS rfl (sv 1) so_none (so_some (sv 2))) (se_ct rfl (G2 rfl hr.gd h64) rfl T.n_str PyProof.Rows.Boot.«str» (s1 (scl T.kbc (Z9 T) hr (s2 (sv 0) (se_pow rfl (sc0 y1) (sc0 y1))))))) (se_sliceS rfl (sv 1) (so_some (se_add rfl (sv 2) (sc0 y1))) so_none)))) ss_nil)
 (ss_cons (ss_if (SW.sb (sw_or (sb_cmp z3b (se_ctS rfl PySem.F.slot_str_strip PySem.F.type_str_strip zcF (sv 1) (s1 (sc0 Z7))) (sc0 Z7) (Y3 _)) (sw_or1 (sb_not (sb_cmp2 z2J z2J (sc0 y1) (se_cb rfl (z2a rfl) rfl T.n_len PyProof.Rows.Boot.«len» (s1 (sv 1))) (sc0 y1)))))) (ss_one (ss_ret (se_add rfl (se_add rfl (se_sliceS rfl (sv 1) so_none (so_some (sv 2))) (se_ct rfl (G2 rfl hr.gd h64) rfl T.n_str PyProof.Rows.Boot.«str» (s1 (scl T.kbc (Z9 T) hr (s2 (sv 0) (sc0 y1)))))) (se_sliceS rfl (sv 1) (so_some (se_add rfl (sv 2) (sc0 y1))) so_none)))) ss_nil)
 (ss_one (ss_ret (se_ct rfl (G2 rfl hr.gd h64) rfl T.n_str PyProof.Rows.Boot.«str» (s1 (se_add rfl (se_ct rfl z57 rfl T.n_int PyProof.Rows.Boot.«int» (s1 (sv 1))) (sxx (se_lst rfl (s3 (sc0 y1) (sc0 y1) (sc0 y1))) (se_sub rfl (sv 3) (sc0 y1)))))))))))))
noncomputable def z5s:MS:=(Z1 (Y4 (.nm 2) (mCall Z0 [(y0 0),(mC (.int 8))]))
 (Z1 (Y4 (.nm 3) (mC (.str ("0123456789.:;= -019az" :Str))))
 (Z1 (Y4 (.nm 4) (y3 (y0 3) (mCall Z0 [(y0 0),(mC (.int 21))]) ixS))
 (Z1 (Y4 (.nm 5) (mCall Z0 [(y0 0),(y3 (mCB [(y0 1)] z7O) (mC (.int 1)) W8)]))
 (Z1 (sIf (W5 (y3 (y0 2) (mC (.int 4)) ltD)) (Y9 (y3 (y3 (z6g (y0 1) none (some (y0 5))) (y3 (mCB [(mC (.str ("" :Str))),(y0 4),(y0 4),(y0 4)] lstM) (y0 2) ixD) W8) (z6g (y0 1) (some (y3 (y0 5) (y3 (mCB [(mC (.int 1)),(mC (.int 0)),(mC (.int 1)),(mC (.int 1))] lstM) (y0 2) ixD) zf6)) none) W8)) sNx)
 (Z1 (Y4 (.nm 6) (y3 (mCB [(mC (.str (" " :Str))),(mC (.str ("." :Str))),(mC (.str (":" :Str))),(mC (.str ("=" :Str)))] lstM) (mCall Z0 [(y0 0),(mC (.int 4))]) ixD))
 (Z1 (Y4 (.nm 7) (J8 (y0 1) [(y0 6)] V3))
 (Z1 (Y4 (.nm 8) (mCall Z0 [(y0 0),(mCB [(y0 7)] z7O)]))
 (Z1 (Y4 (.nm 9) (mCall Z0 [(y0 0),(mCB [(y0 7)] z7O)]))
 (Z1 (sIf (W5 (y3 (y0 2) (mC (.int 4)) eqD)) (z9M (mCB [(y3 (y0 7) (y0 9) ixD),(y3 (y0 7) (y0 8) ixD)] z1U) (y0 7) (y0 8) (y0 7) (y0 9)) sNx)
 (Z1 (sIf (W5 (y3 (y0 2) (mC (.int 5)) eqD)) (Y4 (.nm 7) (y3 (mSl (y0 7) none (some (y0 8))) (mSl (y0 7) (some (y3 (y0 8) (mC (.int 1)) W8)) none) W8)) sNx)
 (Z1 (sIf (W5 (y3 (y0 2) (mC (.int 6)) eqD)) (Y4 (.nm 7) (y3 (y3 (mSl (y0 7) none (some (y0 8))) (mCB [(y3 (y0 7) (y0 9) ixD)] lstM) W8) (mSl (y0 7) (some (y0 8)) none) W8)) sNx)
 (Z1 (sIf (W5 (y3 (y0 2) (mC (.int 7)) eqD)) (mTri (mCall k6 [(y0 0),(y3 (y0 7) (y0 8) ixD)]) (y0 7) (y0 8) setD) sNx)
 (Y9 (J8 (y0 6) [(y0 7)] z28)))))))))))))))
noncomputable def z2y:FM:=z0Z 10 z5s
theorem za2(T:Wd K mg):u2 P w K mg base CX0 3 T.kbe.f T.kbe.d z5k (spM (GT T) 2 z2y):=okM z5s T.kbe.F J3 fun cdv A outer s H E F hr=>by
 have h64:=hr.units
 exact(ss_cons (sst 2 J3.nd (scl T.kbc (Z9 T) hr (s2 (sv 0) (sc0 y1))))
 (ss_cons (sst 3 J3.nd (sc0 Z7))
 (ss_cons (sst 4 J3.nd (se_ixS (sv 3) (scl T.kbc (Z9 T) hr (s2 (sv 0) (sc0 y1))) (fun _ _=>rfl)))
 (ss_cons (sst 5 J3.nd (scl T.kbc (Z9 T) hr (s2 (sv 0) (se_add rfl (se_cb rfl (z2a rfl) rfl T.n_len PyProof.Rows.Boot.«len» (s1 (sv 1))) (sc0 y1)))))
 (ss_cons (ss_if (sb_cmp z2J (sv 2) (sc0 y1) (Y3 _)) (ss_one (ss_ret (se_add rfl (se_add rfl (se_sliceS rfl (sv 1) so_none (so_some (sv 5))) (sxx (se_lst rfl (s4 (sc0 Z7) (sv 4) (sv 4) (sv 4))) (sv 2))) (se_sliceS rfl (sv 1) (so_some (se_addE rfl (sv 5) (sxx (se_lst rfl (s4 (sc0 y1) (sc0 y1) (sc0 y1) (sc0 y1))) (sv 2)))) so_none)))) ss_nil)
 (ss_cons (sst 6 J3.nd (sxx (se_lst rfl (s4 (sc0 Z7) (sc0 Z7) (sc0 Z7) (sc0 Z7))) (scl T.kbc (Z9 T) hr (s2 (sv 0) (sc0 y1)))))
 (ss_cons (sst 7 J3.nd (se_ctS rfl PySem.F.slot_str_split PySem.F.type_str_split z03 (sv 1) (s1 (sv 6))))
 (ss_cons (sst 8 J3.nd (scl T.kbc (Z9 T) hr (s2 (sv 0) (se_cb rfl (z2a rfl) rfl T.n_len PyProof.Rows.Boot.«len» (s1 (sv 7))))))
 (ss_cons (sst 9 J3.nd (scl T.kbc (Z9 T) hr (s2 (sv 0) (se_cb rfl (z2a rfl) rfl T.n_len PyProof.Rows.Boot.«len» (s1 (sv 7))))))
 (ss_cons (ss_if (sb_cmp (z50 rfl h64) (sv 2) (sc0 y1) (Y3 _)) (ss_one (ss_sub2 rfl rfl (se_tup rfl (s2 (sxx (sv 7) (sv 9)) (sxx (sv 7) (sv 8)))) (sv 7) (sv 8) (sv 7) (sv 9) (fun{t1 t2 t3 t4} h1 h2 h3 h4=>zcm rfl (z4M (z5S h1 h2 z2r) (z4M (z5S h3 h4 z2r) z90))))) ss_nil)
 (ss_cons (ss_if (sb_cmp (z50 rfl h64) (sv 2) (sc0 y1) (Y3 _)) (ss_one (sst 7 J3.nd (se_add rfl (se_slice rfl (sv 7) so_none (so_some (sv 8))) (se_slice rfl (sv 7) (so_some (se_add rfl (sv 8) (sc0 y1))) so_none)))) ss_nil)
 (ss_cons (ss_if (sb_cmp (z50 rfl h64) (sv 2) (sc0 y1) (Y3 _)) (ss_one (sst 7 J3.nd (se_add rfl (se_add rfl (se_slice rfl (sv 7) so_none (so_some (sv 8))) (se_lst rfl (s1 (sxx (sv 7) (sv 9))))) (se_slice rfl (sv 7) (so_some (sv 8)) so_none)))) ss_nil)
 (ss_cons (ss_if (sb_cmp (z50 rfl h64) (sv 2) (sc0 y1) (Y3 _)) (ss_one (ss_setI (scl T.kal (z4k T) hr (s2 (sv 0) (sxx (sv 7) (sv 8)))) (sv 7) (sv 8) (fun{to ti} h1 h2=>z5S h1 h2 z2r))) ss_nil)
 (ss_one (ss_ret (se_ctS rfl PySem.F.slot_str_join PySem.F.type_str_join (z29 rfl) (sv 6) (s1 (sv 7))))))))))))))))))
noncomputable def z2n:MS:=(Z1 (zf8 X7 1 (z1e (z4A z0P [(y0 0)])) (Z1 (Y4 (.nm 2) (z9R zjT (y0 1)))
 (Z1 (Y4 (.nm 3) (z9R zjU (y0 1)))
 (Z1 (Y4 (.nm 4) (zg7 (z9R zjV (y0 1)) (z4W (z9R zjW (y0 1)))))
 (Y9 (z3I (z9R zjX (y0 1)) (z3I (z4W (y0 2)) (z3I (z4W (y0 3)) (z4W (y0 4))))))))))
 (Y9 (mC (.bool false))))
noncomputable def K7:FM:=z0Z 5 z2n
theorem z6q(T:Wd K mg):u2 P w K mg base CX0 10 T.kaB.f T.kaB.d z2h (spM (GT T) 1 K7):=okM z2n T.kaB.F x9 fun cdv A outer s H E F hr=>(ss_cons (ss_try rfl rfl rfl rfl rfl T.kak x9.nd rfl rfl (z5m T) (fun pl E1 F1 E2 hx=>(ss_one (ss_expr (se_callX hx ((z6m T).mono (by lia)) hr rfl T.kaw.m T.kaw.F.kp T.kaw.b (s1 (sv 0)) rfl)))) (fun ax=>(ss_cons (sst 2 x9.nd (se_isXT rfl (zmg T) rfl T.n_isinstance (sv 1) (z53 (cs:=[.ref T.ka9, .ref T.kbk, .ref T.kbf, .ref T.kbj, .ref T.ka3, .ref T.kar, .ref T.kaW, .ref T.ka7, .ref T.kbn, .ref T.kaY]) (Y1 (Z8 (v:= .ref T.ka9) rfl T.ka1 rfl) (Y1 (Z8 (v:= .ref T.kbk) rfl T.ka2 rfl) (Y1 (Z8 (v:= .ref T.kbf) rfl T.ka5 rfl) (Y1 (Z8 (v:= .ref T.kbj) rfl T.kaQ rfl) (Y1 (Z8 (v:= .ref T.ka3) rfl T.kaN rfl) (Y1 (Z8 (v:= .ref T.kar) rfl T.kah rfl) (Y1 (Z8 (v:= .ref T.kaW) rfl T.kaP rfl) (Y1 (Z8 (v:= .ref T.ka7) rfl T.kaX rfl) (Y1 (Z8 (v:= .ref T.kbn) rfl T.kbg rfl) (Y1 (Z8 (v:= .ref T.kaY) rfl T.kaJ rfl) z36)))))))))) (fun _ _ _ q=>q) rfl rfl)))
 (ss_cons (sst 3 x9.nd (se_isXT rfl (zmh T) rfl T.n_isinstance (sv 1) (z53 (cs:=[.ref T.kaS, .ref T.kaM, .ref T.kbb, .ref T.ka4, .ref T.ka6, .ref T.kbo, .ref T.kay, .ref T.kbr, .ref T.kbh, .ref T.kbs]) (Y1 (Z8 (v:= .ref T.kaS) rfl T.kaF rfl) (Y1 (Z8 (v:= .ref T.kaM) rfl T.kaz rfl) (Y1 (Z8 (v:= .ref T.kbb) rfl T.ka0 rfl) (Y1 (Z8 (v:= .ref T.ka4) rfl T.kaD rfl) (Y1 (Z8 (v:= .ref T.ka6) rfl T.kaU rfl) (Y1 (Z8 (v:= .ref T.kbo) rfl T.kbd rfl) (Y1 (Z8 (v:= .ref T.kay) rfl T.kau rfl) (Y1 (Z8 (v:= .ref T.kbr) rfl T.kbl rfl) (Y1 (Z8 (v:= .ref T.kbh) rfl T.kaZ rfl) (Y1 (Z8 (v:= .ref T.kbs) rfl T.kbp rfl) z36)))))))))) (fun _ _ _ q=>q) rfl rfl)))
 (ss_cons (sst 4 x9.nd (se_or (se_isXT rfl (zmi T) rfl T.n_isinstance (sv 1) (z53 (cs:=[.ref T.kaR, .ref T.kaL]) (Y1 (Z8 (v:= .ref T.kaR) rfl T.kaK rfl) (Y1 (Z8 (v:= .ref T.kaL) rfl T.kax rfl) z36)) (fun _ _ _ q=>q) rfl rfl)) (se_one (se_not (se_isX1 (c:= .ty "ValueError") rfl rfl (zmj T) rfl T.n_isinstance (sv 1) (X1 (v:= .ty "ValueError") rfl T.n_ValueError PyProof.Rows.Boot.«ValueError» rfl))))))
 (ss_one (ss_ret (se_and (se_isX1 (c:= .ref T.kbi) rfl rfl (zmk T) rfl T.n_isinstance (sv 1) (Z8 (v:= .ref T.kbi) rfl T.kaT rfl)) (se_and (se_not (sv 2)) (se_and (se_not (sv 3)) (se_one (se_not (sv 4)))))))))))))
 (ss_one (ss_ret (sc0 z1M))))
noncomputable def zeg:MS:=(Z1 (z1V (z1f [(mCB [(mC (.int 2)),(mCB [(mCB [(y0 0)] z27),(mC (.int 5))] zbs)] zcv)]) (.nm 1) (Z1 (Y4 (.nm 2) (mCall z3W [(y0 0),(y0 1)]))
 (Z1 (Y4 (.nm 3) (mCall Z0 [(y0 2),(mC (.int 3))]))
 (Z1 (Y4 (.nm 4) (J8 (mC (.str ("" :Str))) [(J0 (Y8 (mSl (mCall V4 [(y0 2)]) none (some (mC (.int 8))))) (.nm 0) (rt true) (mCall z1B [(y0 0)]) 1 [])] z28))
 (Z1 (z1V (z1f [(mC (.int 12))]) (.nm 5) (Z1 (Y4 (.nm 6) (y0 4))
 (Z1 (z1V (z1f [(y3 (mC (.int 1)) (y0 3) W8)]) (.nm 7) (Y4 (.nm 6) (mCall z2y [(y0 2),(y0 6)])))
 (Z1 (Y4 (.nm 8) (mCall W7 [(y0 6)]))
 (sIf (mOr (z0t (G9 (z68 "list" (y0 8)))) (W5 (y3 (mCB [(y0 8)] z1g) (mCB [(mCall z06 [(y0 6)])] z1g) neS))) (Y9 (mC (.bool false))) sNx)))))
 (Z1 (z1V (Y8 (mCB [(mC .non),(mC (.int 0)),(mC (.bool true)),(mCB [] lstM),(mCB [] z1U),(mCB [(y0 4)] lstM),(mCB [(y0 4)] z1U),(mC (.int 997))] lstM)) (.nm 9) (sIf (z0t (G9 (mCall K7 [(y0 9)]))) (Y9 (mC (.bool false))) sNx))
 (z1V (Y8 (mCB [(mC (.str ("1 0 1:1:0:0" :Str))),(mC (.str ("1 0 1:1:0:0 =" :Str))),(mC (.str (";;" :Str))),(mC (.str (" ;" :Str))),(mC (.str ("1 0 =1;" :Str))),(mC (.str ("01 0 1:1:0:0 =4;" :Str))),(mC (.str ("-;" :Str))),(y3 (y0 4) (mC (.str (" " :Str))) W8)] lstM)) (.nm 10) (sIf (W5 (y3 (mCB [(mCall W7 [(y0 10)])] z1g) (mCB [(mCall z06 [(y0 10)])] z1g) neS)) (Y9 (mC (.bool false))) sNx))))))))
 (Y9 (mC (.bool true))))
noncomputable def f_law:FM:=z0Z 11 zeg
theorem zgW(T:Wd K mg):u2 P w K mg base CX0 11 T.x_law.f T.x_law.d zef (spM (GT T) 1 f_law):=okM zeg T.x_law.F z1b fun cdv A outer s H E F hr=>by
 have h64:=hr.units
 exact(ss_cons (ss_for PassesOwn.never rfl (si_rng1 rfl T.n_range (s1 (se_cb rfl (zcB rfl) rfl T.n_max PyProof.Rows.Boot.«max» (s2 (sc0 y1) (se_cb rfl (z9K rfl) rfl T.n_min PyProof.Rows.Boot.«min» (s2 (sln T.n_len (s1 (sv 0))) (sc0 y1))))))) (sgn 1 z1b.nd) (ss_cons (sst 2 z1b.nd (scl T.kbm (zbU T) hr (s2 (sv 0) (sv 1))))
 (ss_cons (sst 3 z1b.nd (scl T.kbc (Z9 T) hr (s2 (sv 2) (sc0 y1))))
 (ss_cons (sst 4 z1b.nd (se_ctS rfl PySem.F.slot_str_join PySem.F.type_str_join (z29 rfl) (sc0 Z7) (s1 (se_comp (own:=["_law_commit_here"]) (frees:=[]) (ix:=[]) rfl rfl (V1.sc (by kernel_rfl)) (si_seq rfl (se_slice rfl (scl T.kaA (z6n T) hr (s1 (sv 2))) so_none (so_some (sc0 y1)))) (fun _ _ _ _ _ _ _=>(sg_name (j9 (i:=0) (show C7 (["_law_commit_here"]:List Str) by decide+kernel) rfl (Or.inl rfl)))) (fun _ _ _ _ _ _ _=>sts_nil) (fun _ _ _ _ _ _ _=>(scl T.kbq (z7R T) hr (s1 (sv 0))))))))
 (ss_cons (ss_for PassesOwn.never rfl (si_rng1 rfl T.n_range (s1 (sc0 y1))) (sgn 5 z1b.nd) (ss_cons (sst 6 z1b.nd (sv 4))
 (ss_cons (ss_for PassesOwn.never rfl (si_rng1 rfl T.n_range (s1 (se_add rfl (sc0 y1) (sv 3)))) (sgn 7 z1b.nd) (ss_one (sst 6 z1b.nd (scl T.kbe (za2 T) hr (s2 (sv 2) (sv 6))))))
 (ss_cons (sst 8 z1b.nd (scl T.kaw (z1Z T) hr (s1 (sv 6))))
 (ss_one (ss_if (SW.sb (sw_or (sb_not (sb_truth rfl (se_isi rfl (by decide) rfl T.n_isinstance (sv 8) (X1 (v:= .ty "list") rfl T.n_list PyProof.Rows.Boot.«list» rfl)))) (sw_or1 (sb_cmp z3b (se_ct rfl (G2 rfl hr.gd h64) rfl T.n_str PyProof.Rows.Boot.«str» (s1 (sv 8))) (se_ct rfl (G2 rfl hr.gd h64) rfl T.n_str PyProof.Rows.Boot.«str» (s1 (scl T.kba (z6p T) hr (s1 (sv 6))))) (Y3 _))))) (ss_one (ss_ret (sc0 z1M))) ss_nil))))))
 (ss_cons (ss_for PassesOwn.never rfl (si_seq rfl (se_lst rfl (sa_of rfl (.cons (sc0 z0l) rfl (.cons (sc0 y1) rfl (.cons (sc0 z1M) rfl (.cons (se_lst rfl (sa_of rfl .nil)) rfl (.cons (se_tup rfl (sa_of rfl .nil)) rfl (.cons (se_lst rfl (s1 (sv 4))) rfl (.cons (se_tup rfl (s1 (sv 4))) rfl (.cons (sc0 y1) rfl .nil))))))))))) (sgn 9 z1b.nd) (ss_one (ss_if (sb_not (sb_truth rfl (scl T.kaB (z6q T) hr (s1 (sv 9))))) (ss_one (ss_ret (sc0 z1M))) ss_nil)))
 (ss_one (ss_for PassesOwn.never rfl (si_seq rfl (se_lst rfl (sa_of rfl (.cons (sc0 Z7) rfl (.cons (sc0 Z7) rfl (.cons (sc0 Z7) rfl (.cons (sc0 Z7) rfl (.cons (sc0 Z7) rfl (.cons (sc0 Z7) rfl (.cons (sc0 Z7) rfl (.cons (se_add rfl (sv 4) (sc0 Z7)) rfl .nil))))))))))) (sgn 10 z1b.nd) (ss_one (ss_if (sb_cmp z3b (se_ct rfl (G2 rfl hr.gd h64) rfl T.n_str PyProof.Rows.Boot.«str» (s1 (scl T.kaw (z1Z T) hr (s1 (sv 10))))) (se_ct rfl (G2 rfl hr.gd h64) rfl T.n_str PyProof.Rows.Boot.«str» (s1 (scl T.kba (z6p T) hr (s1 (sv 10))))) (Y3 _)) (ss_one (ss_ret (sc0 z1M))) ss_nil))))))))))
 (ss_one (ss_ret (sc0 z1M))))
end
end My
namespace Mi
open PySem L2
theorem j7{α:Type}(xs ys:List α)(k:Nat)(h:xs.length=k):(xs++ys).drop k=ys:=by subst h;simp
theorem z07{α:Type}(xs ys:List α)(k:Nat)(h:xs.length=k):(xs++ys).take k=xs:=by subst h;simp
theorem K8: ∀ds:List D,Z5 (ds.map some)=some ds
 |[]=>rfl
 |d::ds=>by simp[Z5,K8 ds]
theorem z8F{me:M D}{g:D->D}{ds:List D}{fr σ0 tm0:List (Option D)}{ol:Nat}(hol:σ0.length=ol)(hz:ds.length<sizeLine)
 (hme: ∀d∈ds,∀tm n,∃n',n<=n'/\me ⟨some d::fr,tm,n⟩= .ok (g d) ⟨some d::fr,tm,n'⟩):
 ∀(f i:Nat) (o:Option D) (n:Nat),i+f=ds.length->∃n',n<=n'/\V8 z4v (.nm 0) (rt true) me ol f i i ⟨o::fr,(((ds.take i).map g).reverse.map some)++(σ0++(some (.tup ds)::tm0)),n⟩= .ok (.lst n' (ds.map g)) ⟨σ0,tm0,n'+1⟩:=by
 intro f
 induction f with
 |zero=>
  intro i o n hi
  have hi:i=ds.length:=by lia
  subst hi
  refine⟨n,c9 _, ?_⟩
  have l1:(((ds.take ds.length).map g).reverse.map some).length=ds.length:=by simp
  unfold V8
  have e1:(((((ds.take ds.length).map g).reverse.map some)++(σ0++(some (D.tup ds)::tm0))).drop (ds.length+ol))=some (D.tup ds)::tm0:=by
   rw[<-t5];exact j7 _ _ _ (by simp[hol])
  erw[e1,z4v,zbw,List.getElem?_eq_none (c9 ds.length)]
  rw[z07 _ _ _ l1]
  have e2:(((ds.take ds.length).map g).reverse.map some).reverse=(ds.map g).map some:=by simp
  rw[e2,K8]
  erw[Res.ok.injEq,true_and,Stt.mk.injEq,and_true]
  constructor
  ·rw[j7 _ _ _ l1,z07 _ _ _ hol]
  ·rw[<-t5]
   have:(((((ds.take ds.length).map g).reverse.map some)++σ0)++(some (D.tup ds)::tm0)).drop (ds.length+ol+1)=((((((ds.take ds.length).map g).reverse.map some)++σ0)++(some (D.tup ds)::tm0)).drop (ds.length+ol)).drop 1:=by rw[E6]
   rw[this,j7 _ _ _ (by simp[hol])]
   rfl
 |succ f ih=>
  intro i o n hi
  have hlt:i<ds.length:=by lia
  have l1:(((ds.take i).map g).reverse.map some).length=i:=by simp;lia
  unfold V8
  have e1:(((((ds.take i).map g).reverse.map some)++(σ0++(some (D.tup ds)::tm0))).drop (i+ol))=some (D.tup ds)::tm0:=by
   rw[<-t5];exact j7 _ _ _ (by simp[hol];lia)
  erw[e1,z4v,zbw,List.getElem?_eq_getElem hlt,asg,A7,rt]
  rw[if_pos (by lia)]
  obtain⟨n1,hn1,h1⟩:=hme ds[i] (A4 hlt) ((((ds.take i).map g).reverse.map some)++(σ0++(some (D.tup ds)::tm0))) n
  rw[h1]
  obtain⟨n2,hn2,h2⟩:=ih (i+1) (some ds[i]) n1 (by lia)
  refine⟨n2,by lia, ?_⟩
  rw[<-h2]
  erw[Stt.psh]
  have e3:ds.take (i+1)=ds.take i++[ds[i]]:=by rw[S2,List.getElem?_eq_getElem hlt];rfl
  rw[e3]
  erw[A9,l6,t7,E5,B4,D1,n5,m8]
  rfl
theorem z6r{mc me:M D}{g:D->D}{ds:List D}{ix:List Nat}{s s1:Stt}(hc:mc s= .ok (.tup ds) s1)(hz:ds.length<sizeLine)
 (hme: ∀d∈ds,∀tm n,∃n',n<=n'/\me ⟨some d::(ix.map fun i=>(s1.σ[i]?).getD none),tm,n⟩= .ok (g d) ⟨some d::(ix.map fun i=>(s1.σ[i]?).getD none),tm,n'⟩):
 ∃n',s1.n<=n'/\J0 (Y8 mc) (.nm 0) (rt true) me 1 ix s= .ok (.lst n' (ds.map g)) {s1 with n:=n'+1}:=by
 obtain⟨n',h1,h2⟩:=z8F (me:=me) (g:=g) (ds:=ds) (σ0:=s1.σ) (tm0:=s1.tm) rfl hz hme ds.length 0 none s1.n (by lia)
 refine⟨n',h1, ?_⟩
 unfold J0 Y8
 erw[bd,hc,Stt.psh]
 erw[R6,t7,D1,n5] at h2
 erw[z4v,z3a,z7D,l7] at h2⊢
 exact h2
theorem z3X(ds:List D)(g:D->Bool):z1j (ds.map fun d=> .bool (g d))=some (ds.map g):=by
 induction ds with
 |nil=>rfl
 |cons d ds ih=>simp[z1j,ih]
theorem z8G{t:D}{ts:List D}{n':Nat}{s:Stt}:z4Z (.ok t ts n') ts s= .ok t {s with n:=n'}:=by
 unfold z4Z;simp
end Mi
set_option maxHeartbeats 40000
namespace Mi
open PySem L2
class Kq{α:Type}(f:α):Type where
instance kq{α:Type}(f:α):Kq f:=⟨⟩
noncomputable def Res.bnd{α β:Type}(f:α->Stt->Res β)[Kq f](r:Res α):Res β:=match r with
 | .ok a s=>f a s
 | .ex d s=> .ex d s
 | .no=> .no
theorem z2z{α β:Type}{a:α}{s:Stt}{f:α->Stt->Res β}:((Res.ok a s).bnd f:Res β)=f a s:=(rfl)
noncomputable def Res.lf{α:Type}(f:α->MS)[Kq f](r:Res α):RS:=match r with
 | .ok a s=>f a s
 | .ex d s=> .ex d s
 | .no=> .no
theorem zgX{α:Type}{a:α}{s:Stt}{f:α->MS}:((Res.ok a s).lf f:RS)=f a s:=(rfl)
noncomputable def RS.sq(m:MS)[Kq m](r:RS):RS:=match r with
 | .nx s=>m s
 |r=>r
theorem zjY{s:Stt}{m:MS}:((RS.nx s).sq m:RS)=m s:=(rfl)
theorem zjZ{d:D}{s:Stt}{m:MS}:((RS.rt d s).sq m:RS)= .rt d s:=(rfl)
noncomputable def RS.fin(r:RS):RF:=match r with
 | .nx s'=>match Z5 s'.tm with|some ts'=> .ok .non ts' s'.n|none=> .no
 | .rt t s'=>match Z5 s'.tm with|some ts'=> .ok t ts' s'.n|none=> .no
 | .ex d s'=>match Z5 s'.tm with|some ts'=> .ex d ts' s'.n|none=> .no
 |_=> .no
noncomputable def zgY(o:Option (List D))(t:D)(n:Nat):RF:=match o with|some ts=> .ok t ts n|none=> .no
theorem za3{ts:List D}{t:D}{n:Nat}:zgY (some ts) t n= .ok t ts n:=(rfl)
theorem zk0{t:D}{σ tm:List (Option D)}{n:Nat}:(RS.rt t ⟨σ,tm,n⟩).fin=zgY (Z5 tm) t n:=(rfl)
theorem zk1{nl:Nat}{mb:MS}{ts:List D}{n:Nat}:z0Z nl mb ts n=(mb ⟨ts.map some++l7 (nl -ts.length) none,ts.map some,n⟩).fin:=(rfl)
section
variable{α β:Type}{m ma mb mc:M D}{s:Stt}{ms:List (M D)}{σ tm:List (Option D)}{n:Nat}
theorem ziU{m:M α}{f:α->M β}:bd m f s=(m s).bnd f:=(rfl)
theorem zml{a:α}:rt a s= .ok a s:=(rfl)
theorem zgZ{t:D}:Stt.psh ⟨σ,tm,n⟩ t=⟨σ,some t::tm,n⟩:=(rfl)
theorem zk2:Stt.nxt ⟨σ,tm,n⟩=⟨σ,tm,n+1⟩:=(rfl)
theorem zk3{t:D}{r:List (Option D)}:pop ⟨σ,some t::r,n⟩= .ok t ⟨σ,r,n⟩:=(rfl)
noncomputable def vOf(o:Option (Option D))(s:Stt):Res D:=match o with
 |some (some t)=> .ok t s
 |_=> .no
theorem zbV{t:D}:vOf (some (some t)) s= .ok t s:=(rfl)
theorem zk4{i:Nat}:y0 i ⟨σ,tm,n⟩=vOf (σ[i]?) ⟨σ,tm,n⟩:=by
 unfold y0 vOf
 cases σ[i]? with
 |none=>rfl
 |some o=>cases o<;>rfl
theorem x_C{d:D}:mC d s= .ok d s:=(rfl)
theorem zeh{g:D->D->M D}:y3 ma mb g s=(ma s).bnd fun x s1=>(mb (s1.psh x)).bnd fun y s2=>(pop s2).bnd fun x' s3=>g x' y s3:=(rfl)
theorem zk5:W5 m s=(m s).bnd zf2:=(rfl)
theorem zh0{b:Bool}:zf2 (.bool b) s= .ok b s:=(rfl)
theorem zh1:G9 m s=(m s).bnd zg5:=(rfl)
theorem zmm{b:Bool}:zg5 (.bool b) s= .ok b s:=(rfl)
theorem zk6{m m':M Bool}:ziR m m' s=(m s).bnd fun b=>z4V b m' (rt false):=(rfl)
theorem zmn{m m':M Bool}:mOr m m' s=(m s).bnd fun b=>z4V b (rt true) m':=(rfl)
theorem zk7{m:M Bool}:z0t m s=(m s).bnd fun b s1=> .ok (!b) s1:=(rfl)
theorem zh2{m m':M D}:z3I m m' s=(m s).bnd fun d s1=>(zf2 d s1).bnd fun b=>z4V b m' (rt (.bool false)):=by
 unfold z3I W5 bd Res.bnd
 cases m s<;>rfl
theorem zk8{m m':M D}:zg7 m m' s=(m s).bnd fun d s1=>(zf2 d s1).bnd fun b=>z4V b (rt (.bool true)) m':=by
 unfold zg7 W5 bd Res.bnd
 cases m s<;>rfl
theorem zh3{m:M D}:z4W m s=(m s).bnd fun d s1=>(zf2 d s1).bnd fun b=>rt (.bool (!b)):=by
 unfold z4W W5 bd Res.bnd
 cases m s<;>rfl
theorem zk9{c:M Bool}{m m':M D}:mIf c m m' s=(c s).bnd fun b=>z4V b m m':=(rfl)
theorem zmo{m m':M α}:z4V true m m' s=m s:=(rfl)
theorem zmp{m m':M α}:z4V false m m' s=m' s:=(rfl)
theorem zei:mArgs [] s= .ok [] s:=(rfl)
theorem z30:mArgs (m::ms) s=(m s).bnd fun x s1=>(mArgs ms (s1.psh x)).bnd fun ys s2=>(pop s2).bnd fun x' s3=> .ok (x'::ys) s3:=(rfl)
theorem zlG{g:List D->M D}:mCB ms g s=(mArgs ms s).bnd g:=(rfl)
theorem zh4{f:FM}:mCall f ms s=(mArgs ms s).bnd fun ts s1=>z4Z (f ts s1.n) ts s1:=(rfl)
noncomputable def zka(o:Option Bool)(s:Stt):Res D:=match o with
 |some b=> .ok (.bool b) s
 |none=> .no
theorem za4{b:Bool}:zka (some b) s= .ok (.bool b) s:=(rfl)
theorem zkb{T:String}:z68 T m s=(m s).bnd fun d s1=>zka (isiD T d) s1:=by
 unfold z68 bd Res.bnd zka
 cases m s with
 |ok d s1=>dsimp only;cases isiD T d<;>rfl
 |ex d s1=>rfl
 |no=>rfl
theorem za5{g g':D->D->M D}:Q9 ma mb mc g g' s=(ma s).bnd fun x s1=>(mb (s1.psh x)).bnd fun y s2=>(pop s2).bnd fun x' s3=>z8r y (bd (W5 (g x' y)) fun k=>z4V k (bd mc fun z=>g' y z) (rt (.bool false))) s3:=(rfl)
theorem zkc{i:Int}{m:M D}:z8r (.int i) m s=m s:=(rfl)
noncomputable def zkd(o:Option Int)(s:Stt):Res (Option Int):=match o with
 |some i=> .ok (some i) s
 |none=> .no
theorem za6{i:Int}:zkd (some i) s= .ok (some i) s:=(rfl)
theorem zej:z1O none s= .ok none s:=(rfl)
theorem zek:z1O (some m) s=(m s).bnd fun d s1=>zkd (mInt d) s1:=by
 show bd m (fun d=>match mInt d with|some i=>rt (some i)|none=>fl) s=_
 unfold bd Res.bnd
 cases m s with
 |ok d s1=>show(match mInt d with|some i=>rt (some i)|none=>fl:M (Option Int)) s1=zkd (mInt d) s1;cases mInt d<;>rfl
 |ex d s1=>rfl
 |no=>rfl
theorem zh5{i:Int}:mInt (.int i)=some i:=(rfl)
theorem zmq{lo hi:Option (M D)}:mSl m lo hi s=(m s).bnd fun x s1=>(z1O lo (s1.psh x)).bnd fun l s2=>(z1O hi s2).bnd fun h s3=>(pop s3).bnd fun x' s4=>slD x' l h s4:=(rfl)
theorem zh6{i j:Int}:W8 (.int i) (.int j) s= .ok (.int (i+j)) s:=(rfl)
theorem za7{a b:List D}(h:a.length+b.length<=sizeLine):W8 (.tup a) (.tup b) s= .ok (.tup (a++b)) s:=by erw[W8,if_pos h];rfl
theorem z3e{k l:Nat}{a b:List D}(h:a.length+b.length<=sizeLine):W8 (.lst k a) (.lst l b) s= .ok (.lst s.n (a++b)) s.nxt:=by erw[W8,if_pos h];rfl
theorem zke{i j:Int}:zbo (.int i) (.int j) s= .ok (.int (i -j)) s:=(rfl)
theorem z7c{i j:Int}(h:zbd i j):z5O (.int i) (.int j) s= .ok (.int (i*j)) s:=by erw[z5O,if_pos h];rfl
theorem zcG{i j:Int}(h:zeZ i j):z66 (.int i) (.int j) s= .ok (.int (i/j)) s:=by erw[z66,if_pos h];rfl
theorem z3Y{i j:Int}(h:0<j):z49 (.int i) (.int j) s= .ok (.int (i %j)) s:=by erw[z49,if_pos h];rfl
theorem zbW{i j:Int}(h:zf0 i j):z9v (.int i) (.int j) s= .ok (.int (i^j.toNat)) s:=by erw[z9v,if_pos h];rfl
theorem zmr{i j:Int}:ltD (.int i) (.int j) s= .ok (.bool (decide (i<j))) s:=(rfl)
theorem zms{i j:Int}:leD (.int i) (.int j) s= .ok (.bool (decide (i<=j))) s:=(rfl)
theorem zmt{i j:Int}:gtD (.int i) (.int j) s= .ok (.bool (decide (j<i))) s:=(rfl)
theorem zkf{i:Int}:z8S (.int i) s= .ok (.int (-i)) s:=(rfl)
theorem zlH{t t':D}(h:eqC t t'=true):eqD t t' s= .ok (.bool (PyData.eqv (er t) (er t'))) s:=by erw[eqD,if_pos h];rfl
theorem zkg{t t':D}(h:eqC t t'=true):neD t t' s= .ok (.bool (!PyData.eqv (er t) (er t'))) s:=by erw[neD,if_pos h];rfl
theorem zmu{t t':D}{ds:List D}(e:z4S t'=some ds)(h:inC t ds=true):inD t t' s= .ok (.bool ((erL ds).any fun y=>PyData.eqv y (er t))) s:=by erw[inD,e,if_pos h];rfl
theorem zkh{t t':D}{ds:List D}(e:z4S t'=some ds)(h:inC t ds=true):zct t t' s= .ok (.bool (!(erL ds).any fun y=>PyData.eqv y (er t))) s:=by erw[zct,e,if_pos h];rfl
theorem zki{ds:List D}{i:Int}:ixD (.tup ds) (.int i) s=zf1 (atI ds i) s:=(rfl)
theorem zkj{l:Nat}{ds:List D}{i:Int}:ixD (.lst l ds) (.int i) s=zf1 (atI ds i) s:=(rfl)
theorem zkk{ds:List D}{i:Int}:ixD (.ro ds) (.int i) s=zf1 (atI ds i) s:=(rfl)
theorem zkl{d:D}:zf1 (some d) s= .ok d s:=(rfl)
theorem zkm{l:Nat}{ds:List D}{lo hi:Option Int}:slD (.lst l ds) lo hi s= .ok (.lst s.n (z1i ds lo hi)) s.nxt:=(rfl)
theorem za8{ts:List D}(h:ts.length<=sizeLine):z1U ts s= .ok (.tup ts) s:=by erw[z1U,if_pos h];rfl
theorem z8H{ts:List D}(h:ts.length<=sizeLine):lstM ts s= .ok (.lst s.n ts) s.nxt:=by erw[lstM,if_pos h];rfl
theorem zh7{ds:List D}:z27 [.tup ds] s= .ok (.int ds.length) s:=(rfl)
theorem zh8{l:Nat}{ds:List D}:z27 [.lst l ds] s= .ok (.int ds.length) s:=(rfl)
theorem zh9{ds:List D}:z27 [.ro ds] s= .ok (.int ds.length) s:=(rfl)
theorem zkn{i:Int}:zf3 [.int i] s= .ok (.int (if i<0 then -i else i)) s:=(rfl)
theorem zko{i j:Int}:zbs [.int i, .int j] s= .ok (.int (if j<i then j else i)) s:=(rfl)
theorem zkp{i j:Int}:zcv [.int i, .int j] s= .ok (.int (if j>i then j else i)) s:=(rfl)
theorem zha{b:Bool}:zbt [.bool b] s= .ok (.int (if b then 1 else 0)) s:=(rfl)
theorem zhb{l:Nat}{ds:List D}:z8T [.lst l ds] s= .ok (.tup ds) s:=(rfl)
theorem zel{ds:List D}:z4a [.tup ds] s= .ok (.lst s.n ds) s.nxt:=(rfl)
theorem zem{l:Nat}{ds:List D}{bs:List Bool}(h:z1j ds=some bs):zcw [.lst l ds] s= .ok (.bool (bs.all id)) s:=by erw[zcw,h];rfl
theorem zhc{a b:MS}:Z1 a b s=(a s).sq b:=by
 unfold Z1 RS.sq
 cases a s<;>rfl
theorem zcH{m:M α}{f:α->MS}:z1I m f s=(m s).lf f:=(rfl)
theorem zkq:sNx s= .nx s:=(rfl)
theorem zhd:Y9 m s=(m s).lf fun d s1=> .rt d s1:=(rfl)
theorem zen:z1e m s=(m s).lf fun _ s1=> .nx s1:=(rfl)
theorem zkr{c:M Bool}{a b:MS}:sIf c a b s=(c s).lf fun k=>zge k a b:=(rfl)
theorem zmv{a b:MS}:zge true a b s=a s:=(rfl)
theorem zmw{a b:MS}:zge false a b s=b s:=(rfl)
noncomputable def zks(o:Option (List (Option D)))(s:Stt):RS:=match o with
 |some σ'=> .nx {s with σ:=σ'}
 |none=> .no
theorem za9{σ':List (Option D)}:zks (some σ') ⟨σ,tm,n⟩= .nx ⟨σ',tm,n⟩:=(rfl)
theorem zhe{g:Tg}:Y4 g m s=(m s).lf fun d s1=>zks (asg g d s1.σ) s1:=by
 unfold Y4 z1I Res.lf zks
 cases m s with
 |ok d s1=>first|(dsimp only;cases asg g d s1.σ<;>rfl)|(dsimp only;done)|rfl
 |ex d s1=>rfl
 |no=>rfl
theorem zkt{me mo mi:M D}{g:D->D->D->MS}:mTri me mo mi g s=(me s).lf fun v s1=>(mo (s1.psh v)).lf fun o s2=>(mi (s2.psh o)).lf fun i s3=>(pop s3).lf fun o' s4=>(pop s4).lf fun v' s5=>g o' i v' s5:=(rfl)
theorem zaa{l:Nat}{ds:List D}{k:Int}{v:D}{j:Nat}(e:ixN ds.length k=some j)(h:l∉y4 v):setD (.lst l ds) (.int k) v s= .nx (s.put l (.lst l (ds.set j v))):=by erw[setD,e,if_pos h]
theorem zhf{mo:M D}{g:D->List D->M D}:z0w mo ms g s=(mo s).bnd fun x s1=>(isL x s1).bnd fun _ s2=>(mArgs ms (s2.psh x)).bnd fun ys s3=>(pop s3).bnd fun x' s4=>g x' ys s4:=(rfl)
theorem zku{l:Nat}{ds:List D}:isL (.lst l ds) s= .ok () s:=(rfl)
theorem z8I{l:Nat}{ds:List D}{y:D}(h:ds.length<sizeLine/\l∉y4 y):z6H (.lst l ds) [y] s= .ok .non (s.put l (.lst l (ds++[y]))):=by erw[z6H,if_pos h]
end
theorem z4G{α:Type}{xs:List α}{i:Int}{d:α}(h0:0<=i)(h:xs[i.toNat]? =some d):atI xs i=some d:=by
 obtain⟨j,rfl⟩:=C0 h0
 exact zdA (by simpa using h)
end Mi
set_option maxHeartbeats 400000
namespace Mi
open PySem L2
noncomputable def pl(l:Nat)(d:D):Nat->Option D:=fun k=>if k=l then some d else none
theorem zhg{σ tm:List (Option D)}{n l:Nat}{d:D}:Stt.put ⟨σ,tm,n⟩ l d=⟨rpO (pl l d) σ,rpO (pl l d) tm,n⟩:=(rfl)
theorem z7S{l:Nat}{d t:D}(h:l∉y4 t):rp (pl l d) t=t:=zdI t fun k hk=>by
 unfold pl;rw[if_neg];intro e;subst e;exact h hk
theorem zeo{f:Nat->Option D}:rpO f []=[]:=(rfl)
theorem zbX{f:Nat->Option D}{r:List (Option D)}:rpO f (none::r)=none::rpO f r:=(rfl)
theorem zbY{f:Nat->Option D}{d:D}{r:List (Option D)}:rpO f (some d::r)=some (rp f d)::rpO f r:=(rfl)
theorem zhh{l:Nat}{d:D}{b:List D}:rp (pl l d) (.lst l b)=d:=by erw[rp,pl,if_true]
theorem zab{f:Nat->Option D}{i:Int}:rp f (.int i)= .int i:=(rfl)
theorem zac{f:Nat->Option D}{i:Str}:rp f (.str i)= .str i:=(rfl)
theorem zad{f:Nat->Option D}{i:Bool}:rp f (.bool i)= .bool i:=(rfl)
theorem z7T{f:Nat->Option D}{ds:List D}:rp f (.tup ds)= .tup (rpL f ds):=(rfl)
theorem z5t{f:Nat->Option D}:rpL f []=[]:=(rfl)
theorem z0V{f:Nat->Option D}{d:D}{ds:List D}:rpL f (d::ds)=rp f d::rpL f ds:=(rfl)
mutual
theorem z8J{l:Nat}: ∀t:D,l∉y4 t->W6 l t=none
 | .non,_=>rfl
 | .bool _,_=>rfl
 | .int _,_=>rfl
 | .str _,_=>rfl
 | .exc _,_=>rfl
 | .fn _,_=>rfl
 | .tup ds,h=>by erw[y4] at h;erw[W6];exact findL_none ds h
 | .ro ds,h=>by erw[y4] at h;erw[W6];exact findL_none ds h
 | .fdc ks ds,h=>by erw[y4] at h;erw[W6];exact findL_none ds h
 | .lst k ds,h=>by
  erw[y4,i8,not_or] at h;erw[W6];rw[if_neg fun e=>h.1 e.symm];exact findL_none ds h.2
 | .dct k ks ds,h=>by
  erw[y4,i8,i5,not_or] at h;erw[W6];rw[if_neg fun e=>h.1 e.symm];exact findL_none ds h.2.2
 | .obj k c ks ds,h=>by
  erw[y4,i8,not_or] at h;erw[W6];rw[if_neg fun e=>h.1 e.symm];exact findL_none ds h.2
theorem findL_none{l:Nat}: ∀t:List D,l∉labsL t->findL l t=none
 |[],_=>rfl
 |d::ds,h=>by
  erw[labsL,i5,not_or] at h
  erw[findL,z8J d h.1,findL_none ds h.2]
end
theorem z3Z{t:D}{l n' n:Nat}{b b' r:List D}{σ tm:List (Option D)}(hb:labsL b=[])(hb':labsL b'=[])(hr:labsL r=[])(f1:rpO (pl l (.lst l b)) σ=σ)(f2:rpO (pl l (.lst l b)) tm=tm):
 z4Z (.ok t (.lst l b'::r) n') (.lst l b::r) ⟨σ,tm,n⟩= .ok t ⟨rpO (pl l (.lst l b')) σ,rpO (pl l (.lst l b')) tm,n'⟩:=by
 have e:(fun k=>findL k (.lst l b'::r))=pl l (.lst l b'):=by
  funext k
  erw[findL,W6,pl]
  by_cases h:l=k
  ·subst h;rw[if_pos rfl,if_pos rfl]
  ·rw[if_neg h,if_neg fun q=>h q.symm,findL_none b' (by rw[hb'];exact t9),findL_none r (by rw[hr];exact t9)]
 unfold z4Z
 by_cases h:(D.lst l b'::r)=(D.lst l b::r)
 ·have hh:b'=b:=by injection h with h _;injection h
  subst hh
  erw[if_true]
  rw[f1,f2]
 ·erw[if_neg h]
  rw[if_pos,e]
  intro k _ hk
  erw[labsL,y4,hb,hr,i9,B0] at hk
  subst hk
  have:=congrFun e k
  rw[show findL k (D.lst k b'::r)=pl k (D.lst k b') k from this];simp[pl]
theorem zkv{mi:M ItK}{g:Tg}{b:MS}{s:Stt}:z1V mi g b s=(mi s).lf fun K s=>forGo K g b (K.len s.tm) 0 s:=(rfl)
theorem zcI{ms:List (M D)}{s:Stt}:z1f ms s=(mArgs ms s).bnd zgi:=(rfl)
theorem z40{j:Int}{s:Stt}(h: -(2^62)<=j/\j<2^62):zgi [.int j] s= .ok (z4X 0 j.toNat) s:=by erw[zgi,if_pos h];rfl
theorem zhi{lo:Int}{N:Nat}{tm:List (Option D)}:(z4X lo N).len tm=N:=(rfl)
theorem z41{P:Nat->Stt->Prop}{lo:Int}{N:Nat}{g:Tg}{b:MS}
 (body: ∀i,i<N->∀s,P i s->∃σ',asg g (.int (lo+i)) s.σ=some σ'/\∃s',b {s with σ:=σ'}= .nx s'/\P (i+1) s'):
 ∀(f i:Nat) (s:Stt),i+f=N->P i s->∃s',forGo (z4X lo N) g b f i s= .nx s'/\P N s':=by
 intro f
 induction f with
 |zero=>
  intro i s hi h
  have e:i=N:=by lia
  subst e
  refine⟨s, ?_,h⟩
  unfold forGo
  erw[z4X,D8,if_false]
  rfl
 |succ f ih=>
  intro i s hi h
  have hl:i<N:=by lia
  obtain⟨σ',e1,s',e2,h'⟩:=body i hl s h
  obtain⟨s2,e3,h2⟩:=ih (i+1) s' (by lia) h'
  refine⟨s2, ?_,h2⟩
  unfold forGo
  erw[z4X,if_pos hl,e1,e2]
  exact e3
mutual
theorem zhj{l:Nat}{b:List D}{d:D}: ∀t:D,rp (pl l d) (rp (pl l (.lst l b)) t)=rp (pl l d) t
 | .non=>rfl
 | .bool _=>rfl
 | .int _=>rfl
 | .str _=>rfl
 | .exc _=>rfl
 | .fn _=>rfl
 | .tup ds=>by erw[rp];rw[rpL_rp ds]
 | .ro ds=>by erw[rp];rw[rpL_rp ds]
 | .fdc ks ds=>by erw[rp];rw[rpL_rp ds]
 | .lst k ds=>by
  by_cases h:k=l
  ·subst h;erw[rp,pl,if_true]
  ·have e: ∀x,pl l x k=none:=fun x=>by erw[pl,if_neg h]
   erw[rp,e];rw[rpL_rp ds]
 | .dct k ks ds=>by
  by_cases h:k=l
  ·subst h;erw[rp,pl,if_true]
  ·have e: ∀x,pl l x k=none:=fun x=>by erw[pl,if_neg h]
   erw[rp,e];rw[rpL_rp ds]
 | .obj k c ks ds=>by
  by_cases h:k=l
  ·subst h;erw[rp,pl,if_true]
  ·have e: ∀x,pl l x k=none:=fun x=>by erw[pl,if_neg h]
   erw[rp,e];rw[rpL_rp ds]
theorem rpL_rp{l:Nat}{b:List D}{d:D}: ∀t:List D,rpL (pl l d) (rpL (pl l (.lst l b)) t)=rpL (pl l d) t
 |[]=>rfl
 |t::ts=>by erw[rpL];rw[zhj t,rpL_rp ts]
end
theorem z6s{l:Nat}{b:List D}{d:D}: ∀t:List (Option D),rpO (pl l d) (rpO (pl l (.lst l b)) t)=rpO (pl l d) t
 |[]=>rfl
 |none::ts=>by erw[rpO];rw[z6s ts]
 |some t::ts=>by erw[rpO];rw[zhj t,z6s ts]
theorem z42{f:Nat->Option D}: ∀(a b:List (Option D)),rpO f (a++b)=rpO f a++rpO f b
 |[],b=>rfl
 |none::a,b=>by erw[m8,rpO,z42 a b]
 |some d::a,b=>by erw[m8,rpO,z42 a b]
theorem z5u{f:Nat->Option D}: ∀(a:List (Option D)),(rpO f a).length=a.length
 |[]=>rfl
 |none::a=>by erw[rpO,i7,z5u a]
 |some d::a=>by erw[rpO,i7,z5u a]
theorem z6t: ∀ds:List D,Z4 (ds.map some)=labsL ds
 |[]=>rfl
 |d::ds=>by erw[l6,Z4,labsL,z6t ds]
theorem z43: ∀a b:List D,labsL (a++b)=labsL a++labsL b
 |[],b=>rfl
 |d::ds,b=>by erw[m8,labsL,z43 ds b,t5]
theorem zae{l:Nat}: ∀ds:List D,l∈labsL ds.reverse↔l∈labsL ds
 |[]=>Iff.rfl
 |d::ds=>by erw[B4,z43,labsL,i5,zae ds,i9];exact Or.comm
theorem z6u{l:Nat}{d:D}{ds:List D}(h:l∉labsL ds):rpO (pl l d) (ds.reverse.map some)=ds.reverse.map some:=z9q _ fun k hk=>by
 rw[z6t,zae] at hk
 unfold pl;rw[if_neg];intro e;subst e;exact h hk
theorem z8K{me:M D}{N:Nat}{cap σ0 tm0:List (Option D)}{l ol:Nat}{Bg:List D->Prop}{Q:Nat->D->Prop}(mono: ∀a b,a<=b->∀y,Q a y->Q b y)(hol:σ0.length=ol)(hz:N<sizeLine)
 (hme: ∀i,i<N->∀b tm n,Bg b->l<n->rpO (pl l (.lst l b)) tm=tm->∃y b' n',Bg b'/\Q n' y/\n<=n'/\l∉y4 y/\me ⟨some (.int (0+(i:Nat)))::rpO (pl l (.lst l b)) cap,tm,n⟩= .ok y ⟨some (.int (0+(i:Nat)))::rpO (pl l (.lst l b')) cap,rpO (pl l (.lst l b')) tm,n'⟩):
 ∀(f:Nat) (acc:List D) (o:Option D) (b:List D) (n:Nat),acc.length+f=N->Bg b->l<n->(∀y∈acc,Q n y)->l∉labsL acc->
  ∃ys b' n',ys.length=N/\(∀y∈ys,Q n' y)/\l∉labsL ys/\Bg b'/\n<=n'/\
   V8 (z4X 0 N) (.nm 0) (rt true) me ol f acc.length acc.length ⟨o::rpO (pl l (.lst l b)) cap,(acc.reverse.map some)++(rpO (pl l (.lst l b)) σ0++rpO (pl l (.lst l b)) tm0),n⟩= .ok (.lst n' ys) ⟨rpO (pl l (.lst l b')) σ0,rpO (pl l (.lst l b')) tm0,n'+1⟩:=by
 intro f
 induction f with
 |zero=>
  intro acc o b n hi hb hn hq hf
  have hi:acc.length=N:=by lia
  refine⟨acc,b,n,hi,hq,hf,hb,c9 _, ?_⟩
  have l1:(acc.reverse.map some).length=acc.length:=by simp
  unfold V8
  erw[z4X,hi,D8,if_false]
  rw[<-hi,z07 _ _ _ l1]
  have e2:(acc.reverse.map some).reverse=acc.map some:=by simp
  rw[e2,K8]
  erw[Res.ok.injEq,true_and,Stt.mk.injEq,and_true]
  constructor
  ·rw[j7 _ _ _ l1,z07 _ _ _ (by rw[z5u];exact hol)]
  ·rw[<-t5,Nat.add_zero]
   exact j7 _ _ _ (by simp[z5u,hol])
 |succ f ih=>
  intro acc o b n hi hb hn hq hf
  have hlt:acc.length<N:=by lia
  unfold V8
  erw[z4X,if_pos hlt,asg,A7,rt]
  rw[if_pos (by lia)]
  obtain⟨y,b',n',h1,h2,h3,h4,h5⟩:=hme acc.length hlt b ((acc.reverse.map some)++(rpO (pl l (.lst l b)) σ0++rpO (pl l (.lst l b)) tm0)) n hb hn (by rw[z42,z42,z6s,z6s,z6u hf])
  rw[h5]
  obtain⟨ys,b2,n2,g1,g2,g3,g4,g5,g6⟩:=ih (acc++[y]) (some (.int (0+(acc.length:Nat)))) b' n' (by simp;lia) h1 (by lia) (by
   intro z hz
   rcases i5.mp hz with hz|hz
   ·exact mono _ _ h3 z (hq z hz)
   ·rw[B0.mp hz];exact h2) (by
   rw[z43]
   erw[labsL,i9,i5,not_or]
   exact⟨hf,h4⟩)
  refine⟨ys,b2,n2,g1,g2,g3,g4,by lia, ?_⟩
  rw[<-g6]
  erw[Stt.psh,z42,z6s,z6u hf,l8,i7,n9,P7,E5,B4,D1,n5,A9,l6,t7,m8]
  rfl
theorem z6v{ms:List (M D)}{me:M D}{N:Nat}{ix:List Nat}{s:Stt}{l n:Nat}{j:Int}{σ0 tm0:List (Option D)}{b:List D}{Bg:List D->Prop}{Q:Nat->D->Prop}(mono: ∀a b,a<=b->∀y,Q a y->Q b y)(hms:mArgs ms s= .ok [.int j] ⟨σ0,tm0,n⟩)(hj:j.toNat=N)(hj': -(2^62)<=j/\j<2^62)(hz:N<sizeLine)
 (hb:Bg b) (hn:l<n) (f1:rpO (pl l (.lst l b)) σ0=σ0) (f2:rpO (pl l (.lst l b)) tm0=tm0) (f3:rpO (pl l (.lst l b)) (ix.map fun i=>(σ0[i]?).getD none)=ix.map fun i=>(σ0[i]?).getD none)
 (hme: ∀i,i<N->∀b tm n,Bg b->l<n->rpO (pl l (.lst l b)) tm=tm->∃y b' n',Bg b'/\Q n' y/\n<=n'/\l∉y4 y/\me ⟨some (.int (0+(i:Nat)))::rpO (pl l (.lst l b)) (ix.map fun i=>(σ0[i]?).getD none),tm,n⟩= .ok y ⟨some (.int (0+(i:Nat)))::rpO (pl l (.lst l b')) (ix.map fun i=>(σ0[i]?).getD none),rpO (pl l (.lst l b')) tm,n'⟩):
 ∃ys b' n',ys.length=N/\(∀y∈ys,Q n' y)/\l∉labsL ys/\Bg b'/\n<=n'/\J0 (z1f ms) (.nm 0) (rt true) me 1 ix s= .ok (.lst n' ys) ⟨rpO (pl l (.lst l b')) σ0,rpO (pl l (.lst l b')) tm0,n'+1⟩:=by
 obtain⟨ys,b',n',h1,h2,h3,h4,h5,h6⟩:=z8K (me:=me) (N:=N) (cap:=ix.map fun i=>(σ0[i]?).getD none) (σ0:=σ0) (tm0:=tm0) (l:=l) (Bg:=Bg) (Q:=Q) mono rfl hz hme N [] none b n (by simp) hb hn (by intro y h;cases h) (by simp[labsL])
 refine⟨ys,b',n',h1,h2,h3,h4,h5, ?_⟩
 unfold J0
 rw[ziU,zcI,hms,z2z,z40 hj',z2z,hj]
 rw[f1,f2,f3] at h6
 exact h6
inductive All2(Q:D->D->Prop):List D->List D->Prop
 |nil:All2 Q [] []
 |cons {a b:D} {as bs:List D}:Q a b->All2 Q as bs->All2 Q (a::as) (b::bs)
theorem z3f{m:M D}{s:Stt}{l:Nat}{ds:List D}{σ tm:List (Option D)}{n:Nat}(h:m s= .ok (.lst l ds) ⟨σ,tm,n⟩):Y8 m s= .ok kLst ⟨σ,some (.lst l ds)::tm,n⟩:=by
 unfold Y8;rw[ziU,h];rfl
theorem z8L{K:ItK}{mt:M Bool}{me:M D}{p:D->Bool}{g:D->D}{items:List D}{its fr σ0 tm0:List (Option D)}{ol:Nat}(hk:its.length=K.k)(hol:σ0.length=ol)(hz:items.length<sizeLine)(hat: ∀i rest,K.at' i (its++rest)=some items[i]?)
 (hmt: ∀d∈items,∀tm n,∃n',n<=n'/\mt ⟨some d::fr,tm,n⟩= .ok (p d) ⟨some d::fr,tm,n'⟩)
 (hme: ∀d∈items,p d=true->∀tm n,∃n',n<=n'/\me ⟨some d::fr,tm,n⟩= .ok (g d) ⟨some d::fr,tm,n'⟩):
 ∀(f i:Nat) (acc:List D) (o:Option D) (n:Nat),i+f=items.length->acc.length<=i->∃n',n<=n'/\V8 K (.nm 0) mt me ol f i acc.length ⟨o::fr,(acc.reverse.map some)++(σ0++(its++tm0)),n⟩= .ok (.lst n' (acc++((items.drop i).filter p).map g)) ⟨σ0,tm0,n'+1⟩:=by
 intro f
 induction f with
 |zero=>
  intro i acc o n hi ha
  have hi:i=items.length:=by lia
  refine⟨n,c9 _, ?_⟩
  have l1:(acc.reverse.map some).length=acc.length:=by simp
  have e1:((acc.reverse.map some)++(σ0++(its++tm0))).drop (acc.length+ol)=its++tm0:=by
   rw[<-t5];exact j7 _ _ _ (by simp[hol])
  unfold V8
  erw[e1,hat,List.getElem?_eq_none (show items.length<=i by lia)]
  rw[z07 _ _ _ l1]
  have e2:(acc.reverse.map some).reverse=acc.map some:=by simp
  rw[e2,K8]
  erw[Res.ok.injEq,Stt.mk.injEq,and_true,C6 (show items.length<=i by lia),List.filter_nil,t7,i9,true_and]
  constructor
  ·rw[j7 _ _ _ l1,z07 _ _ _ hol]
  ·have:((acc.reverse.map some)++(σ0++(its++tm0))).drop (acc.length+ol+K.k)=(((acc.reverse.map some)++(σ0++(its++tm0))).drop (acc.length+ol)).drop K.k:=by rw[E6]
   rw[this,e1]
   exact j7 _ _ _ hk
 |succ f ih=>
  intro i acc o n hi ha
  have hlt:i<items.length:=by lia
  have e1:((acc.reverse.map some)++(σ0++(its++tm0))).drop (acc.length+ol)=its++tm0:=by
   rw[<-t5];exact j7 _ _ _ (by simp[hol])
  obtain⟨n1,hn1,h1⟩:=hmt items[i] (A4 hlt) ((acc.reverse.map some)++(σ0++(its++tm0))) n
  rw[B2 hlt,S7]
  unfold V8
  erw[e1,hat,List.getElem?_eq_getElem hlt,asg,A7,h1]
  cases hp:p items[i] with
  |false=>
   obtain⟨n2,hn2,h2⟩:=ih (i+1) acc (some items[i]) n1 (by lia) (by lia)
   exact⟨n2,by lia,h2⟩
  |true=>
   obtain⟨n2,hn2,h2⟩:=hme items[i] (A4 hlt) hp ((acc.reverse.map some)++(σ0++(its++tm0))) n1
   obtain⟨n3,hn3,h3⟩:=ih (i+1) (acc++[g items[i]]) (some items[i]) n2 (by lia) (by simp;lia)
   refine⟨n3,by lia, ?_⟩
   erw[if_pos (show acc.length<sizeLine by lia),h2]
   erw[l8,i7,n9,P7,E5,B4,D1,n5,A9,l6,t7,m8,t5] at h3⊢
   exact h3
theorem zaf{mi:M ItK}{K:ItK}{mt:M Bool}{me:M D}{p:D->Bool}{g:D->D}{items:List D}{its:List (Option D)}{ix:List Nat}{s:Stt}{σ tm:List (Option D)}{n:Nat}(hc:mi s= .ok K ⟨σ,its++tm,n⟩)(hk:its.length=K.k)(hz:items.length<sizeLine)(hat: ∀i rest,K.at' i (its++rest)=some items[i]?)(hlen:K.len (its++tm)=items.length)
 (hmt: ∀d∈items,∀tm n,∃n',n<=n'/\mt ⟨some d::(ix.map fun i=>(σ[i]?).getD none),tm,n⟩= .ok (p d) ⟨some d::(ix.map fun i=>(σ[i]?).getD none),tm,n'⟩)
 (hme: ∀d∈items,p d=true->∀tm n,∃n',n<=n'/\me ⟨some d::(ix.map fun i=>(σ[i]?).getD none),tm,n⟩= .ok (g d) ⟨some d::(ix.map fun i=>(σ[i]?).getD none),tm,n'⟩):
 ∃n',n<=n'/\J0 mi (.nm 0) mt me 1 ix s= .ok (.lst n' ((items.filter p).map g)) ⟨σ,tm,n'+1⟩:=by
 obtain⟨n',h2,h3⟩:=z8L (K:=K) (mt:=mt) (me:=me) (σ0:=σ) (tm0:=tm) hk rfl hz hat hmt hme items.length 0 [] none n (by simp) (by simp)
 refine⟨n',h2, ?_⟩
 unfold J0
 erw[bd,hc,hlen]
 erw[t7,D1,n5,n9,D4] at h3
 exact h3
theorem z8M{mc:M D}{mt:M Bool}{me:M D}{p:D->Bool}{g:D->D}{ds:List D}{ix:List Nat}{s:Stt}{σ tm:List (Option D)}{n:Nat}(hc:mc s= .ok (.tup ds) ⟨σ,tm,n⟩)(hz:ds.length<sizeLine)
 (hmt: ∀d∈ds,∀tm n,∃n',n<=n'/\mt ⟨some d::(ix.map fun i=>(σ[i]?).getD none),tm,n⟩= .ok (p d) ⟨some d::(ix.map fun i=>(σ[i]?).getD none),tm,n'⟩)
 (hme: ∀d∈ds,p d=true->∀tm n,∃n',n<=n'/\me ⟨some d::(ix.map fun i=>(σ[i]?).getD none),tm,n⟩= .ok (g d) ⟨some d::(ix.map fun i=>(σ[i]?).getD none),tm,n'⟩):
 ∃n',n<=n'/\J0 (Y8 mc) (.nm 0) mt me 1 ix s= .ok (.lst n' ((ds.filter p).map g)) ⟨σ,tm,n'+1⟩:=
 zaf (K:=z4v) (its:=[some (.tup ds)]) (items:=ds) (by unfold Y8;rw[ziU,hc];rfl) rfl hz (fun i rest=>rfl) rfl hmt hme
end Mi
set_option maxHeartbeats 1000000
namespace Mi
open PySem L2
noncomputable def zhk(o:Option (List D))(t:D)(n:Nat):RF:=match o with|some ts=> .ex t ts n|none=> .no
noncomputable def _root_.Mi.RS.finX(k:Nat):RS->RF
 | .nx s'=>zgY (Z5 s'.tm) .non s'.n
 | .rt t s'=>zgY (Z5 s'.tm) t s'.n
 | .ex d s'=>zhk (Z5 (z1k k s'.tm)) d s'.n
 |_=> .no
theorem zhl{nl:Nat}{mb:MS}{ts:List D}{n:Nat}:ze4 nl mb ts n=(mb ⟨ts.map some++l7 (nl -ts.length) none,ts.map some,n⟩).finX ts.length:=by
 unfold ze4 RS.finX zgY zhk
 cases mb ⟨ts.map some++l7 (nl -ts.length) none,ts.map some,n⟩<;>rfl
theorem zep{f:FM}{ms:List (M D)}{s:Stt}:z4A f ms s=(mArgs ms s).bnd fun ts s1=>z3N (f ts s1.n) ts s1:=by
 unfold z4A bd Res.bnd
 cases mArgs ms s<;>rfl
theorem zkw{t:D}{ts:List D}{n':Nat}{s:Stt}:z3N (.ex t ts n') ts s= .ex t {s with n:=n'}:=by
 unfold z3N;simp
noncomputable def iK(tb:Str->Option Bool):D->M D
 | .exc c=>(match tb c with|some b=>rt (.bool b)|none=>fl)
 |_=>fl
theorem zag{tb:Str->Option Bool}{m:M D}{s:Stt}:z9R tb m s=(m s).bnd (iK tb):=by
 unfold z9R bd Res.bnd
 cases m s with
 |ok d s1=>cases d<;>rfl
 |ex d s1=>rfl
 |no=>rfl
theorem z6w{tb:Str->Option Bool}{c:Str}{b:Bool}{s:Stt}(h:tb c=some b):iK tb (.exc c) s= .ok (.bool b) s:=by
 show(match tb c with|some b=>rt (D.bool b)|none=>fl) s=_
 rw[h];rfl
theorem zeq{c:Str}{s:Stt}:z7M c s= .ex (.exc c) s:=(rfl)
noncomputable def tK(k:Str->Bool)(ie N:Nat)(mh:MS):RS->RS
 | .ex (.exc c) s'=>if k c then(match mh {σ:=s'.σ.set ie (some (.exc c)),tm:=z1k N s'.tm,n:=s'.n} with
  | .rt d s''=> .rt d s''
  |_=> .no) else .no
 | .ex _ _=> .no
 |r=>r
theorem zkx{k:Str->Bool}{ie:Nat}{mb mh:MS}{s:Stt}:zf8 k ie mb mh s=tK k ie s.tm.length mh (mb s):=by
 unfold zf8 tK
 cases mb s with
 |ex d s'=>cases d<;>rfl
 |_=>rfl
noncomputable def rtO:RS->RS
 | .rt d s''=> .rt d s''
 |_=> .no
theorem zhm{d:D}{s:Stt}:rtO (.rt d s)= .rt d s:=(rfl)
theorem zky{k:Str->Bool}{ie N:Nat}{mh:MS}{c:Str}{σ tm:List (Option D)}{n:Nat}(h:k c=true):tK k ie N mh (.ex (.exc c) ⟨σ,tm,n⟩)=rtO (mh ⟨σ.set ie (some (.exc c)),z1k N tm,n⟩):=by
 unfold tK rtO;erw[h,if_true]
theorem zkz{α:Type}{d:D}{s:Stt}{f:α->MS}:((Res.ex d s:Res α).lf f:RS)= .ex d s:=(rfl)
end Mi
set_option maxHeartbeats 4000000
namespace Mi
open PySem L2
theorem at_rng(lo:Int)(N i:Nat)(rest:List (Option D)):(z4X lo N).at' i ([]++rest)=some (zdZ lo N)[i]? :=by
 erw[z4X,zdZ,List.getElem?_map]
 by_cases hi:i<N
 ·rw[if_pos hi,List.getElem?_range hi];rfl
 ·rw[if_neg hi,List.getElem?_eq_none (by simpa using hi)];rfl
end Mi
set_option maxHeartbeats 40000
namespace Mi
open PySem L2
section
variable{α β:Type}{m ma mb mc:M D}{s:Stt}{ms:List (M D)}{σ tm l:List (Option D)}{n i j k p:Nat}{x y z u d:D}{g g2:D->D->M D}{h:List D->M D}
variable{a0 a1 a2 a3 a4 a5 a6 a7 a8 a9 a10 a11 a12 a13 a14 a15 v:Option D}
theorem qg1:(a0::a1::l)[1]? =some a1:=(rfl)
theorem qg2:(a0::a1::a2::l)[2]? =some a2:=(rfl)
theorem qg3:(a0::a1::a2::a3::l)[3]? =some a3:=(rfl)
theorem qg4:(a0::a1::a2::a3::a4::l)[4]? =some a4:=(rfl)
theorem qg5:(a0::a1::a2::a3::a4::a5::l)[5]? =some a5:=(rfl)
theorem qg6:(a0::a1::a2::a3::a4::a5::a6::l)[6]? =some a6:=(rfl)
theorem qg7:(a0::a1::a2::a3::a4::a5::a6::a7::l)[7]? =some a7:=(rfl)
theorem qg8:(a0::a1::a2::a3::a4::a5::a6::a7::a8::l)[8]? =some a8:=(rfl)
theorem qg9:(a0::a1::a2::a3::a4::a5::a6::a7::a8::a9::l)[9]? =some a9:=(rfl)
theorem zmx:(a0::a1::a2::a3::a4::a5::a6::a7::a8::a9::a10::l)[10]? =some a10:=(rfl)
theorem zmy:(a0::a1::a2::a3::a4::a5::a6::a7::a8::a9::a10::a11::l)[11]? =some a11:=(rfl)
theorem qh1:(a0::a1::l).set 1 v=a0::v::l:=(rfl)
theorem qh2:(a0::a1::a2::l).set 2 v=a0::a1::v::l:=(rfl)
theorem qh3:(a0::a1::a2::a3::l).set 3 v=a0::a1::a2::v::l:=(rfl)
theorem qh4:(a0::a1::a2::a3::a4::l).set 4 v=a0::a1::a2::a3::v::l:=(rfl)
theorem qh5:(a0::a1::a2::a3::a4::a5::l).set 5 v=a0::a1::a2::a3::a4::v::l:=(rfl)
theorem qh6:(a0::a1::a2::a3::a4::a5::a6::l).set 6 v=a0::a1::a2::a3::a4::a5::v::l:=(rfl)
theorem qh7:(a0::a1::a2::a3::a4::a5::a6::a7::l).set 7 v=a0::a1::a2::a3::a4::a5::a6::v::l:=(rfl)
theorem qh8:(a0::a1::a2::a3::a4::a5::a6::a7::a8::l).set 8 v=a0::a1::a2::a3::a4::a5::a6::a7::v::l:=(rfl)
theorem qh9:(a0::a1::a2::a3::a4::a5::a6::a7::a8::a9::l).set 9 v=a0::a1::a2::a3::a4::a5::a6::a7::a8::v::l:=(rfl)
theorem zmz:(a0::a1::a2::a3::a4::a5::a6::a7::a8::a9::a10::l).set 10 v=a0::a1::a2::a3::a4::a5::a6::a7::a8::a9::v::l:=(rfl)
theorem zmA:(a0::a1::a2::a3::a4::a5::a6::a7::a8::a9::a10::a11::l).set 11 v=a0::a1::a2::a3::a4::a5::a6::a7::a8::a9::a10::v::l:=(rfl)
theorem ov:y0 i s=match s.σ[i]? with|some (some t)=> .ok t s|_=> .no:=rfl
noncomputable def cv(g:D->D->M D)(a:D)(b:Option (Option D))(s:Stt):Res D:=match b with
 |some (some b)=>g a b s
 |_=> .no
theorem zer:cv g x (some (some y)) s=g x y s:=(rfl)
theorem zmB:y3 m (mC y) g s=(m s).bnd fun x s1=>g x y s1:=by
 rw[zeh];cases m s<;>rfl
theorem zmC:y3 m (y0 j) g s=(m s).bnd fun x s1=>cv g x s1.σ[j]? s1:=by
 rw[zeh];cases m s with
 |ok x s1=>rw[z2z,z2z];unfold y0 cv;dsimp only[Stt.psh];cases s1.σ[j]? with
  |none=>rfl
  |some o=>cases o<;>rfl
 |ex d s1=>rfl
 |no=>rfl
noncomputable def qc1(h:List D->M D)(a:Option (Option D))(s:Stt):Res D:=match a with
 |some (some a)=>h [a] s
 |_=> .no
theorem zbZ:qc1 h (some (some x)) s=h [x] s:=(rfl)
theorem zmD:mCB [y0 i] h ⟨σ,tm,n⟩=qc1 h σ[i]? ⟨σ,tm,n⟩:=by
 rw[zlG];unfold y0 qc1 mArgs bd;dsimp only
 cases σ[i]? with
 |none=>rfl
 |some o=>cases o<;>rfl
theorem zcJ:mArgs [m] s=(m s).bnd fun x s1=> .ok [x] s1:=by
 rw[z30];cases m s<;>rfl
noncomputable def qa1(a:Option (Option D))(s:Stt):Res (List D):=match a with
 |some (some a)=> .ok [a] s
 |_=> .no
theorem zlI:mArgs [y0 i] ⟨σ,tm,n⟩=qa1 σ[i]? ⟨σ,tm,n⟩:=by
 rw[zcJ];unfold y0 qa1;dsimp only
 cases σ[i]? with
 |none=>rfl
 |some o=>cases o<;>rfl
noncomputable def qa2(a b:Option (Option D))(s:Stt):Res (List D):=match a,b with
 |some (some a),some (some b)=> .ok [a,b] s
 |_,_=> .no
theorem zc0:qa2 (some (some x)) (some (some y)) s= .ok [x,y] s:=(rfl)
theorem zlJ:mArgs [y0 i,y0 j] ⟨σ,tm,n⟩=qa2 σ[i]? σ[j]? ⟨σ,tm,n⟩:=by
 rw[z30];unfold y0 qa2;dsimp only
 cases σ[i]? with
 |none=>rfl
 |some o=>cases o with
  |none=>rfl
  |some a=>rw[z2z];show Res.bnd _ (mArgs [y0 j] ⟨σ,_,_⟩)=_;rw[zlI];unfold qa1;cases σ[j]? with
   |none=>rfl
   |some o=>cases o<;>rfl
noncomputable def qa3(a b c:Option (Option D))(s:Stt):Res (List D):=match a,b,c with
 |some (some a),some (some b),some (some c)=> .ok [a,b,c] s
 |_,_,_=> .no
theorem zc1:qa3 (some (some x)) (some (some y)) (some (some z)) s= .ok [x,y,z] s:=(rfl)
theorem zmE:mArgs [y0 i,y0 j,y0 k] ⟨σ,tm,n⟩=qa3 σ[i]? σ[j]? σ[k]? ⟨σ,tm,n⟩:=by
 rw[z30];unfold y0 qa3;dsimp only
 cases σ[i]? with
 |none=>rfl
 |some o=>cases o with
  |none=>rfl
  |some a=>rw[z2z];show Res.bnd _ (mArgs [y0 j,y0 k] ⟨σ,_,_⟩)=_;rw[zlJ];unfold qa2;cases σ[j]? with
   |none=>rfl
   |some o=>cases o with
    |none=>rfl
    |some b=>cases σ[k]? with
     |none=>rfl
     |some o=>cases o<;>rfl
theorem zkA:mArgs [y0 i,mC y] ⟨σ,tm,n⟩=qa2 σ[i]? (some (some y)) ⟨σ,tm,n⟩:=by
 rw[z30];unfold y0 qa2;dsimp only
 cases σ[i]? with
 |none=>rfl
 |some o=>cases o<;>rfl
theorem zhn:mArgs [y0 i,mC y,mC z] ⟨σ,tm,n⟩=qa3 σ[i]? (some (some y)) (some (some z)) ⟨σ,tm,n⟩:=by
 rw[z30];unfold y0 qa3;dsimp only
 cases σ[i]? with
 |none=>rfl
 |some o=>cases o<;>rfl
theorem zkB:Q9 ma (y0 i) mc g g2 s=(ma s).bnd fun x s1=>(y0 i s1).bnd fun y s3=>z8r y (bd (W5 (g x y)) fun k=>z4V k (bd mc fun z=>g2 y z) (rt (.bool false))) s3:=by
 rw[za5];cases ma s with
 |ok x s1=>rw[z2z,z2z];unfold y0;dsimp only[Stt.psh];cases s1.σ[i]? with
  |none=>rfl
  |some o=>cases o<;>rfl
 |ex d s1=>rfl
 |no=>rfl
theorem zkC:Y4 (.nm i) m s=(m s).lf fun d s1=> .nx ⟨s1.σ.set i (some d),s1.tm,s1.n⟩:=by
 rw[zhe];cases m s<;>rfl
end
theorem Z2{t:D}{l n' n:Nat}{b b' r:List D}{σ tm:List (Option D)}{σ1 tm1:D->List (Option D)}(hb:labsL b=[])(hb':labsL b'=[])(hr:labsL r=[])(f1: ∀q,rpO (pl l q) σ=σ1 q)(f2: ∀q,rpO (pl l q) tm=tm1 q)(e1:σ1 (.lst l b)=σ:=by rfl)(e2:tm1 (.lst l b)=tm:=by rfl):
 z4Z (.ok t (.lst l b'::r) n') (.lst l b::r) ⟨σ,tm,n⟩= .ok t ⟨σ1 (.lst l b'),tm1 (.lst l b'),n'⟩:=by
 rw[z3Z hb hb' hr ((f1 _).trans e1) ((f2 _).trans e2),f1,f2]
end Mi
set_option maxHeartbeats 1000000
namespace Mi
open PySem L2
theorem z7U{K:ItK}{g:Tg}{b:MS}{f i:Nat}{s s':Stt}{d:D}{σ':List (Option D)}(h1:K.at' i s.tm=some (some d))(h2:asg g d s.σ=some σ')(h3:b {s with σ:=σ'}= .nx s'):forGo K g b (f+1) i s=forGo K g b f (i+1) s':=by
 conv=>lhs;unfold forGo
 erw[h1,h2,h3]
theorem z7d{K:ItK}{g:Tg}{b:MS}{f i:Nat}{s:Stt}(h1:K.at' i s.tm=some none):forGo K g b f i s= .nx (s.popn K.k):=by
 unfold forGo
 erw[h1]
theorem zes{K:ItK}{g:Tg}{b:MS}{f i:Nat}{s s':Stt}{d t:D}{σ':List (Option D)}(h1:K.at' i s.tm=some (some d))(h2:asg g d s.σ=some σ')(h3:b {s with σ:=σ'}= .rt t s'):forGo K g b (f+1) i s= .rt t (s'.popn K.k):=by
 conv=>lhs;unfold forGo
 erw[h1,h2,h3]
end Mi
namespace My
open PySem L2 Mi
theorem BA{a b:Prop}(h:a)(k:b):a/\b:=⟨h,k⟩
noncomputable def B_0:=BA (BA (BA (BA (BA (BA @zk1 @ziU) (BA @z2z (BA @zgX @zjY))) (BA (BA @zjZ (BA @zml @zgZ)) (BA @zk2 (BA @zk3 @zbV)))) (BA (BA (BA @zk4 (BA @x_C @zeh)) (BA @zk5 (BA @zh0 @zh1))) (BA (BA @zmm (BA @zk6 @zmn)) (BA @zk7 (BA @zh2 @zk8))))) (BA (BA (BA (BA @zh3 (BA @zk9 @zmo)) (BA @zmp (BA @zei @z30))) (BA (BA @zlG (BA @zh4 @za4)) (BA @zkb (BA @za5 @zkc)))) (BA (BA (BA @za6 (BA @zej @zek)) (BA @zh5 (BA @zmq @zh6))) (BA (BA @zke (BA @zmr @zms)) (BA @zmt (BA @zkf @zki)))))) (BA (BA (BA (BA (BA @zkj (BA @zkk @zkl)) (BA @zkm (BA @zh7 @zh8))) (BA (BA @zh9 (BA @zkn @zko)) (BA @zkp (BA @zha @zhb)))) (BA (BA (BA @zel (BA @zhc @zcH)) (BA @zkq (BA @zhd @zen))) (BA (BA @zkr (BA @zmv @zmw)) (BA @za9 (BA @zhe @zkt))))) (BA (BA (BA (BA @zhf (BA @zku @z8G)) (BA @zk0 (BA @za3 @l6.{0,0}))) (BA (BA @t7.{0,0} (BA @n5.{0} @m8.{0})) (BA @i9.{0} (BA @List.getElem?_cons_zero.{0} @List.getElem?_cons_succ.{0})))) (BA (BA (BA @List.getElem?_nil.{0} (BA @A7.{0} @B5.{0})) (BA @i7.{0} (BA @n9.{0} @C1.{0,0}))) (BA (BA @M9.{0,0} (BA @R8 @N8)) (BA @beq_self_eq_true.{0} (BA @P7 @u02))))))
local macro_rules | `(tactic| left) => `(tactic| (simp (config := { dsimp := false }) only [B_0, isiD, Z5, asg, asgL, l7, I0, L4, String.reduceBEq]))
noncomputable def isInt:D->Bool
 | .int _=>true
 |_=>false
noncomputable def inR(lo hi:Int):D->Bool
 | .int i=>decide (lo<=i)&&decide (i<=hi)
 |_=>false
theorem zcK(t:D)(n:Nat)(h:plain t=true):J6 [t] n= .ok (.bool (isInt t)) [t] n:=by
 unfold J6 z0M
 cases t<;>first|(simp[Mi.plain] at h;done)|(left;first|done|rfl)
theorem z7V(t:D)(lo hi:Int)(n:Nat)(h:plain t=true):Q6 [t, .int lo, .int hi] n= .ok (.bool (inR lo hi t)) [t, .int lo, .int hi] n:=by
 unfold Q6 z1w
 left
 rw[zcK t n h]
 cases t<;>(try erw[isInt,inR])<;>left <;>try rfl
 rename_i i
 by_cases h1:lo<=i
 ·erw[h1,decide_true];left;simp
 ·erw[h1,decide_false];left;simp
noncomputable def rowB(lo hi top:Int):D->Bool
 | .tup ds=>decide (lo<=(ds.length:Int))&&decide ((ds.length:Int)<=hi)&&ds.all (inR 0 top)
 |_=>false
theorem z4H: ∀{ds:List D} {d:D},plainL ds=true->d∈ds->plain d=true
 |x::ds,d,h,m=>by
  erw[plainL,i6] at h
  rcases i8.mp m with rfl|m
  ·exact h.1
  ·exact z4H h.2 m
theorem zcL(t:D)(lo hi top:Int)(n:Nat)(h:plain t=true)(hh:hi<1000000): ∃n',n<=n'/\z0p [t, .int lo, .int hi, .int top] n= .ok (.bool (rowB lo hi top t)) [t, .int lo, .int hi, .int top] n':=by
 unfold z0p z2V
 left
 cases t with
 |tup ds=>
  left
  by_cases h1:lo<=(ds.length:Int)
  ·by_cases h2:(ds.length:Int)<=hi
   ·erw[h1,h2,decide_true,rowB,A5]
    left
    erw[h2,decide_true]
    left
    have hz:ds.length<sizeLine:=by have:sizeLine=16777216:=rfl;lia
    obtain⟨n',hn,hc⟩:=z6r (mc:=y0 0) (me:=mCall Q6 [y0 0,mC (D.int 0),y0 1]) (g:=fun d=> .bool (inR 0 top d)) (ds:=ds) (ix:=[3]) (s:=⟨[some (.tup ds),some (.int lo),some (.int hi),some (.int top)],[some (.tup ds),some (.int lo),some (.int hi),some (.int top)],n⟩) (s1:=⟨[some (.tup ds),some (.int lo),some (.int hi),some (.int top)],[some (.tup ds),some (.int lo),some (.int hi),some (.int top)],n⟩) (by left) hz (by
     intro d hd tm m
     refine⟨m,c9 _, ?_⟩
     show mCall _ _ ⟨[some d,some (.int top)],tm,m⟩=_
     left
     rw[z7V d 0 top m (z4H (by simpa[Mi.plain] using h) hd)]
     left
     rfl)
    refine⟨n'+1,by simp only at hn;lia, ?_⟩
    rw[hc]
    left
    rw[zem (z3X ds (inR 0 top))]
    left
    erw[P8]
    rfl
   ·refine⟨n,c9 _, ?_⟩
    erw[h1,h2,decide_true,decide_false,rowB,A5,B9]
    left
    erw[h2,decide_false]
    left
  ·refine⟨n,c9 _, ?_⟩
   erw[h1,decide_false,rowB,B9]
   left
 |dct _ _ _=>simp[Mi.plain] at h
 |obj _ _ _ _=>simp[Mi.plain] at h
 |exc _=>simp[Mi.plain] at h
 |fn _=>simp[Mi.plain] at h
 |fdc _ _=>simp[Mi.plain] at h
 |_=>refine⟨n,c9 _, ?_⟩;left;rfl
theorem at0{a:D}{l:List D}:atI (a::l) 0=some a:=z4G (by decide) rfl
theorem at1{a b:D}{l:List D}:atI (a::b::l) 1=some b:=z4G (by decide) rfl
theorem at2{a b c:D}{l:List D}:atI (a::b::c::l) 2=some c:=z4G (by decide) rfl
theorem at3{a b c d:D}{l:List D}:atI (a::b::c::d::l) 3=some d:=z4G (by decide) rfl
theorem zkD{i j:Int}{s:Stt}:eqD (.int i) (.int j) s= .ok (.bool (i==j)) s:=by
 rw[zlH (by simp[eqC,Mi.plain,er,PyData.canLay0,PyData.depth])];erw[er,PyData.eqv]
theorem c0:((0:Nat):Int)=0:=rfl
theorem c1:((1:Nat):Int)=1:=rfl
theorem c2:((2:Nat):Int)=2:=rfl
theorem c3:((3:Nat):Int)=3:=rfl
theorem c4:((4:Nat):Int)=4:=rfl
noncomputable def Gd(t:D):Prop:=plain t=true/\(er t).canLay0=true
noncomputable def GdL(ds:List D):Prop:=plainL ds=true/\PyData.canLayAll0 (erL ds)=true
theorem Gd.tup{ds:List D}:Gd (.tup ds)↔GdL ds:=by erw[Gd,GdL,Mi.plain,er,PyData.canLay0]
theorem Gd.lst{l:Nat}{ds:List D}:Gd (.lst l ds)↔GdL ds:=by erw[Gd,GdL,Mi.plain,er,PyData.canLay0]
theorem GdL.cons{d:D}{ds:List D}:GdL (d::ds)↔Gd d/\GdL ds:=by
 erw[Gd,GdL,plainL,erL,PyData.canLayAll0,i6]
 constructor
 ·rintro ⟨⟨a,b⟩,c,d⟩;exact⟨⟨a,c⟩,b,d⟩
 ·rintro ⟨⟨a,c⟩,b,d⟩;exact⟨⟨a,b⟩,c,d⟩
noncomputable def zho(x:Str):D->Bool
 | .str y=>y==x
 |_=>false
theorem eq_str{t:D}{x:Str}{s:Stt}(g:Gd t)(h:PyData.strOk x=true):eqD t (.str x) s= .ok (.bool (zho x t)) s:=by
 have e:eqC t (.str x)=true:=by
  erw[eqC,g.1,g.2,Mi.plain,er,PyData.canLay0,h,A5,decide_eq_true_eq]
  simp[PyData.depth]
 rw[zlH e]
 cases t<;>simp[er,PyData.eqv,zho]
theorem zl:sizeLine=16777216:=rfl
section
variable{a b c d:D}{s:Stt}
theorem t0:z1U [] s= .ok (.tup []) s:=za8 (by decide)
theorem t1:z1U [a] s= .ok (.tup [a]) s:=za8 (by rw[zl];simp)
theorem t2:z1U [a,b] s= .ok (.tup [a,b]) s:=za8 (by rw[zl];simp)
theorem t3:z1U [a,b,c] s= .ok (.tup [a,b,c]) s:=za8 (by rw[zl];simp)
theorem t4:z1U [a,b,c,d] s= .ok (.tup [a,b,c,d]) s:=za8 (by rw[zl];simp)
theorem k0{σ tm:List (Option D)}{n:Nat}:lstM [] ⟨σ,tm,n⟩= .ok (.lst n []) ⟨σ,tm,n+1⟩:=z8H (by rw[zl];simp)
theorem k1{σ tm:List (Option D)}{n:Nat}:lstM [a] ⟨σ,tm,n⟩= .ok (.lst n [a]) ⟨σ,tm,n+1⟩:=z8H (by rw[zl];simp)
theorem k2{σ tm:List (Option D)}{n:Nat}:lstM [a,b] ⟨σ,tm,n⟩= .ok (.lst n [a,b]) ⟨σ,tm,n+1⟩:=z8H (by rw[zl];simp)
theorem k3{σ tm:List (Option D)}{n:Nat}:lstM [a,b,c] ⟨σ,tm,n⟩= .ok (.lst n [a,b,c]) ⟨σ,tm,n+1⟩:=z8H (by rw[zl];simp)
theorem k4{σ tm:List (Option D)}{n:Nat}:lstM [a,b,c,d] ⟨σ,tm,n⟩= .ok (.lst n [a,b,c,d]) ⟨σ,tm,n+1⟩:=z8H (by rw[zl];simp)
end
noncomputable def B_1:=BA (BA (BA (BA (BA @t0 @t1) (BA @t2 @t3)) (BA (BA @t4 @k0) (BA @k1 @k2))) (BA (BA (BA @k3 @k4) (BA @O5 @Bool.false_or)) (BA (BA @Bool.true_or @Bool.or_true) (BA @O6 @A5)))) (BA (BA (BA (BA @D9 @B9) (BA @at0 @at1)) (BA (BA @at2 @at3) (BA @zkD @zhg))) (BA (BA (BA @zeo @zhh) (BA @zab @zac)) (BA (BA @zad @z7T) (BA @z5t @z0V))))
noncomputable def B_2:=BA @zbX @zbY
local macro_rules | `(tactic| left) => `(tactic| (simp (config := { dsimp := false }) only [B_0, B_1, B_2, isiD, Z5, asg, asgL, l7, I0, L4, String.reduceBEq, O7]))
noncomputable def Bg(c x:Int):Prop:=0<=c/\0<=x/\x<2147483647
theorem Q1(l:Nat)(c x top:Int)(n:Nat)(h:Bg c x)(ht:0<top)(ht':top<1000000000000000000000000000000000000000000000000000000000001): ∃r c' x',0<=r/\r<top/\Bg c' x'/\Z0 [.lst l [.int c, .int x], .int top] n= .ok (.int r) [.lst l [.int c', .int x'], .int top] n:=by
 unfold Z0 z5q
 obtain⟨h0,h1,h2⟩:=h
 by_cases hc:0<c
 ·refine⟨c %top,c/top,x,E3 _ (by lia),D2 _ ht,⟨Int.ediv_nonneg h0 (by lia),h1,h2⟩, ?_⟩
  left
  erw[hc,decide_true]
  left
  rw[z3Y ht]
  left
  rw[zcG ⟨ht,by lia⟩]
  left
  rw[zaa (j:=0) rfl (by simp[y4])]
  left
 ·have hx0:=E3 (x*48271+7919) (show(2147483647:Int)≠0 by decide)
  have hx1:=D2 (x*48271+7919) (show(0:Int)<2147483647 by decide)
  generalize hy:(x*48271+7919) %2147483647=y at hx0 hx1
  refine⟨(y^(3:Int).toNat %2147483587/7*69621 %1073741789) %top,c,y,E3 _ (by lia),D2 _ ht,⟨h0,hx0,hx1⟩, ?_⟩
  left
  erw[hc,decide_false]
  left
  rw[z7c (.inl ⟨by lia,by lia⟩)]
  left
  rw[z3Y (by decide),hy]
  left
  rw[zaa (j:=1) rfl (by simp[y4])]
  left
  rw[zbW ⟨by decide,by decide,by lia⟩]
  left
  rw[z3Y (by decide)]
  left
  rw[zcG ⟨by decide,by decide⟩]
  left
  rw[z7c (.inr ⟨by decide,by decide⟩)]
  left
  rw[z3Y (by decide)]
  left
  rw[z3Y ht]
  left
noncomputable def B_3:=BA (BA @zkv @zcI) (BA @zhi @N5)
local macro_rules | `(tactic| left) => `(tactic| (simp (config := { dsimp := false }) only [B_0, B_1, B_2, B_3, isiD, Z5, asg, asgL, l7, I0, L4, String.reduceBEq, O7]))
theorem zcM{ns:List Int}{a:Nat}(h:a<ns.length):atI (ns.map D.int) (a:Int)=some (.int ns[a]):=z4G (by lia) (by simp[h])
theorem zhp(ns:List Int)(a n:Nat)(ha:a<1000)(hl:ns.length<1000): ∃c x,Bg c x/\z3W [.ro (ns.map .int), .int a] n= .ok (.lst n [.int c, .int x]) [.ro (ns.map .int), .int a] (n+1):=by
 unfold z3W z79
 left
 have key: ∃c:Int,0<=c/\zge (decide ((a:Int)<((ns.map D.int).length:Int))) (Y4 (Tg.nm 2) (mCB [y3 (y0 0) (y0 1) ixD] zf3)) sNx ⟨[some (.ro (ns.map .int)),some (.int a),some (.int 0),none,none],[some (.ro (ns.map .int)),some (.int a)],n⟩= .nx ⟨[some (.ro (ns.map .int)),some (.int a),some (.int c),none,none],[some (.ro (ns.map .int)),some (.int a)],n⟩:=by
  by_cases h:a<ns.length
  ·refine⟨if ns[a]<0 then -ns[a] else ns[a], ?_, ?_⟩
   rotate_left
   ·rw[show decide ((a:Int)<((ns.map D.int).length:Int))=true by simp[h]]
    left
    rw[zcM h]
    left
   ·split<;>lia
  ·refine⟨0,by decide, ?_⟩
   rw[show decide ((a:Int)<((ns.map D.int).length:Int))=false by simp;lia]
   left
 obtain⟨c,hc,e1⟩:=key
 rw[e1]
 left
 rw[z3Y (by decide)]
 left
 rw[z7c (.inl ⟨by decide,by decide⟩)]
 left
 have q0:=E3 c (show(2147483629:Int)≠0 by decide)
 have q1:=D2 c (show(0:Int)<2147483629 by decide)
 rw[zbW ⟨by decide,by decide,by lia⟩]
 left
 rw[z3Y (by decide)]
 left
 have w0:((ns.map D.int).length:Int)=ns.length:=by simp
 rw[w0]
 generalize hk:(if(60:Int)<(ns.length:Int) then(60:Int) else(ns.length:Int))=k
 have hk0:0<=k/\k<=60/\k<=ns.length:=by split at hk<;>lia
 rw[z40 ⟨by lia,by lia⟩]
 left
 have p0:=E3 ((c %2147483629+104729*(a:Int)+17)^(5:Int).toNat) (show(2147483647:Int)≠0 by decide)
 have p1:=D2 ((c %2147483629+104729*(a:Int)+17)^(5:Int).toNat) (show(0:Int)<2147483647 by decide)
 generalize (c %2147483629+104729*(a:Int)+17)^(5:Int).toNat %2147483647=x0 at p0 p1
 obtain⟨s',e2,x,o,hx0,hx1,rfl⟩:=z41 (P:=fun i s=> ∃(x:Int) (o:Option D),0<=x/\x<2147483647/\s=⟨[some (.ro (ns.map .int)),some (.int a),some (.int c),some (.int x),o],[some (.ro (ns.map .int)),some (.int a)],n⟩) (lo:=0) (N:=k.toNat) (g:= .nm 4) (b:=Y4 (.nm 3) (y3 (y3 (y3 (y3 (y0 3) (mC (.int 48271)) z5O) (y3 (y3 (y3 (y0 0) (y0 4) ixD) (mC (.int 2147483587)) z49) (y3 (y0 4) (mC (.int 3)) W8) z5O) W8) (y0 4) W8) (mC (.int 2147483629)) z49)) (by
  rintro i hi s ⟨x,o,h0,h1,rfl⟩
  have hi':i<ns.length:=by lia
  refine⟨[some (.ro (ns.map .int)),some (.int a),some (.int c),some (.int x),some (.int i)],by erw[N5];rfl, ?_⟩
  refine⟨⟨[some (.ro (ns.map .int)),some (.int a),some (.int c),some (.int ((x*48271+ns[i] %2147483587*(i+3)+i) %2147483629)),some (.int i)],[some (.ro (ns.map .int)),some (.int a)],n⟩, ?_, ?_⟩
  ·left
   rw[z7c (.inl ⟨by lia,by lia⟩)]
   left
   rw[zcM hi']
   left
   rw[z3Y (by decide)]
   left
   rw[z7c (.inr ⟨by lia,by lia⟩)]
   left
   rw[z3Y (by decide)]
   left
  ·have r0:=E3 (x*48271+ns[i] %2147483587*(i+3)+i) (show(2147483629:Int)≠0 by decide)
   have r1:=D2 (x*48271+ns[i] %2147483587*(i+3)+i) (show(0:Int)<2147483629 by decide)
   exact⟨_,_,r0,by lia,rfl⟩) k.toNat 0 ⟨[some (.ro (ns.map .int)),some (.int a),some (.int c),some (.int x0),none],[some (.ro (ns.map .int)),some (.int a)],n⟩ (by lia) ⟨x0,none,p0,p1,rfl⟩
 rw[e2]
 left
 rw[zbW ⟨by decide,by decide,by decide⟩]
 left
 by_cases h:c<10^(18:Int).toNat
 ·refine⟨0,x,⟨by decide,hx0,hx1⟩, ?_⟩
  erw[h,decide_true]
  left
 ·refine⟨c,x,⟨hc,hx0,hx1⟩, ?_⟩
  erw[h,decide_false]
  left
theorem z4l{l k:Nat}{d:D}{ds:List D}(h:k≠l):rp (pl l d) (.lst k ds)= .lst k (rpL (pl l d) ds):=by erw[rp,pl,if_neg h]
mutual
noncomputable def Rs(n:Nat):D->Bool
 | .non=>true| .bool _=>true| .int _=>true| .str x=>PyData.strOk x
 | .tup ds=>decide (ds.length<=2000)&&RsL n ds
 | .lst l ds=>decide (n<=l)&&(decide (ds.length<=2000)&&RsL n ds)
 | .ro _=>false| .dct _ _ _=>false| .obj _ _ _ _=>false| .exc _=>false| .fn _=>false| .fdc _ _=>false
noncomputable def RsL(n:Nat):List D->Bool
 |[]=>true
 |d::ds=>Rs n d&&RsL n ds
end
noncomputable def Up(m:Nat)(t:D):Prop:= ∀k∈y4 t,k<m
mutual
noncomputable def Tr:D->Bool
 | .non=>true| .bool _=>true| .int _=>true| .str x=>PyData.strOk x
 | .tup ds=>decide (ds.length<=900)&&TrL ds
 | .lst _ _=>false| .ro _=>false| .dct _ _ _=>false| .obj _ _ _ _=>false| .exc _=>false| .fn _=>false| .fdc _ _=>false
noncomputable def TrL:List D->Bool
 |[]=>true
 |d::ds=>Tr d&&TrL ds
end
theorem z7e: ∀{ds:List D},TrL ds=true↔∀d∈ds,Tr d=true
 |[]=>by simp[TrL]
 |d::ds=>by erw[TrL,i6,z7e (ds:=ds),A8]
theorem zah{n:Nat}: ∀{ds:List D},RsL n ds=true↔∀d∈ds,Rs n d=true
 |[]=>by simp[RsL]
 |d::ds=>by erw[RsL,i6,zah (ds:=ds),A8]
theorem z7f{k:Nat}: ∀{ds:List D},PyData.depthAll (erL ds)<=k↔∀d∈ds,(er d).depth<=k
 |[]=>by simp[erL,PyData.depthAll]
 |d::ds=>by erw[erL,PyData.depthAll,A8,<-z7f (ds:=ds)];lia
mutual
theorem zai: ∀t:D,Tr t=true->y4 t=[]
 | .non,_=>rfl
 | .bool _,_=>rfl
 | .int _,_=>rfl
 | .str _,_=>rfl
 | .tup ds,h=>by erw[Tr,i6] at h;erw[y4];exact TrL_labs ds h.2
 | .lst _ _,h=>by simp[Tr] at h
 | .ro _,h=>by simp[Tr] at h
 | .dct _ _ _,h=>by simp[Tr] at h
 | .obj _ _ _ _,h=>by simp[Tr] at h
 | .exc _,h=>by simp[Tr] at h
 | .fn _,h=>by simp[Tr] at h
 | .fdc _ _,h=>by simp[Tr] at h
theorem TrL_labs: ∀t:List D,TrL t=true->labsL t=[]
 |[],_=>rfl
 |d::ds,h=>by erw[TrL,i6] at h;erw[labsL,zai d h.1,TrL_labs ds h.2,i9]
end
mutual
theorem zhq{n:Nat}: ∀t:D,Tr t=true->Rs n t=true
 | .non,_=>rfl
 | .bool _,_=>rfl
 | .int _,_=>rfl
 | .str _,h=>by simpa[Tr,Rs] using h
 | .tup ds,h=>by
  erw[Tr,i6,decide_eq_true_eq] at h;erw[Rs,i6,decide_eq_true_eq];exact⟨by lia,TrL_rs ds h.2⟩
 | .lst _ _,h=>by simp[Tr] at h
 | .ro _,h=>by simp[Tr] at h
 | .dct _ _ _,h=>by simp[Tr] at h
 | .obj _ _ _ _,h=>by simp[Tr] at h
 | .exc _,h=>by simp[Tr] at h
 | .fn _,h=>by simp[Tr] at h
 | .fdc _ _,h=>by simp[Tr] at h
theorem TrL_rs{n:Nat}: ∀t:List D,TrL t=true->RsL n t=true
 |[],_=>rfl
 |d::ds,h=>by erw[TrL,i6] at h;erw[RsL,zhq d h.1,TrL_rs ds h.2,O6]
end
mutual
theorem zhr{n:Nat}: ∀t:D,Rs n t=true->Gd t
 | .non,_=>⟨rfl,rfl⟩
 | .bool _,_=>⟨rfl,rfl⟩
 | .int _,_=>⟨rfl,rfl⟩
 | .str _,h=>⟨rfl,by simpa[Rs,er,PyData.canLay0] using h⟩
 | .tup ds,h=>by erw[Rs,i6] at h;exact Gd.tup.mpr (RsL_gd ds h.2)
 | .lst _ ds,h=>by erw[Rs,i6] at h;exact Gd.lst.mpr (RsL_gd ds h.2.2)
 | .ro _,h=>by simp[Rs] at h
 | .dct _ _ _,h=>by simp[Rs] at h
 | .obj _ _ _ _,h=>by simp[Rs] at h
 | .exc _,h=>by simp[Rs] at h
 | .fn _,h=>by simp[Rs] at h
 | .fdc _ _,h=>by simp[Rs] at h
theorem RsL_gd{n:Nat}: ∀t:List D,RsL n t=true->GdL t
 |[],_=>⟨rfl,rfl⟩
 |d::ds,h=>by erw[RsL,i6] at h;exact GdL.cons.mpr ⟨zhr d h.1,RsL_gd ds h.2⟩
end
mutual
theorem zhs{n k:Nat}: ∀t:D,Rs n t=true->k∈y4 t->n<=k
 | .non,_,h=>by simp[y4] at h
 | .bool _,_,h=>by simp[y4] at h
 | .int _,_,h=>by simp[y4] at h
 | .str _,_,h=>by simp[y4] at h
 | .tup ds,h,m=>by erw[Rs,i6] at h;erw[y4] at m;exact RsL_low ds h.2 m
 | .lst _ ds,h,m=>by
  erw[Rs,i6,decide_eq_true_eq] at h
  erw[y4,i8] at m
  rcases m with rfl|m
  ·exact h.1
  ·exact RsL_low ds h.2.2 m
 | .ro _,h,_=>by simp[Rs] at h
 | .dct _ _ _,h,_=>by simp[Rs] at h
 | .obj _ _ _ _,h,_=>by simp[Rs] at h
 | .exc _,h,_=>by simp[Rs] at h
 | .fn _,h,_=>by simp[Rs] at h
 | .fdc _ _,h,_=>by simp[Rs] at h
theorem RsL_low{n k:Nat}: ∀t:List D,RsL n t=true->k∈labsL t->n<=k
 |[],_,h=>by simp[labsL] at h
 |d::ds,h,m=>by
  erw[RsL,i6] at h
  erw[labsL,i5] at m
  rcases m with m|m
  ·exact zhs d h.1 m
  ·exact RsL_low ds h.2 m
end
theorem zht{n k l:Nat}{es:List D}(hn:n<=l)(hl:es.length<=2000)(h: ∀e∈es,Rs n e=true/\(er e).depth<=k):Rs n (.lst l es)=true/\(er (.lst l es)).depth<=k+1:=by
 refine⟨?_, ?_⟩
 ·erw[Rs,i6,decide_eq_true_eq];exact⟨hn,hl,zah.mpr fun d m=>(h d m).1⟩
 ·erw[er,PyData.depth];exact S8 (z7f.mpr fun d m=>(h d m).2)
theorem labsL_mem{k:Nat}: ∀{es:List D},k∈labsL es->∃e∈es,k∈y4 e
 |e::es,h=>by
  erw[labsL,i5] at h
  rcases h with h|h
  ·exact⟨e,o0,h⟩
  ·obtain⟨e',h1,h2⟩:=labsL_mem h
   exact⟨e',i4 _ h1,h2⟩
theorem ne_bool{b:Bool}{s:Stt}:neD (.bool b) (.bool b) s= .ok (.bool false) s:=by
 rw[zkg (by simp[eqC,Mi.plain,er,PyData.canLay0,PyData.depth])];simp[er,PyData.eqv]
theorem zc2{f:Nat->Option D}{o:Option D}{r:List (Option D)}:rpO f (o::r)=o.map (rp f)::rpO f r:=by cases o<;>rfl
noncomputable def UpO(n:Nat)(o:Option D):Prop:= ∀d,o=some d->Up n d
theorem UpO.fix{n:Nat}{o:Option D}(h:UpO n o)(d:D):u06 (rp (pl n d)) o=o:=by
 cases o with
 |none=>rfl
 |some t=>erw[C1];rw[z7S fun m=>D8 _ (h t rfl n m)]
theorem k5{a b c d e:D}{σ tm:List (Option D)}{n:Nat}:lstM [a,b,c,d,e] ⟨σ,tm,n⟩= .ok (.lst n [a,b,c,d,e]) ⟨σ,tm,n+1⟩:=z8H (by rw[zl];simp)
theorem z7W{k:Nat}{es:List D}(hl:es.length<=900)(h: ∀e∈es,Tr e=true/\(er e).depth<=k):Tr (.tup es)=true/\(er (.tup es)).depth<=k+1:=by
 refine⟨?_, ?_⟩
 ·erw[Tr,i6,decide_eq_true_eq];exact⟨hl,z7e.mpr fun d m=>(h d m).1⟩
 ·erw[er,PyData.depth];exact S8 (z7f.mpr fun d m=>(h d m).2)
theorem z7X{k:Nat}{i:Int}:Tr (.int i)=true/\(er (.int i)).depth<=k:=⟨rfl,by simp[er,PyData.depth]⟩
theorem zet{k:Nat}{i:Bool}:Tr (.bool i)=true/\(er (.bool i)).depth<=k:=⟨rfl,by simp[er,PyData.depth]⟩
theorem zkE{i j:Int}{s:Stt}:neD (.int i) (.int j) s= .ok (.bool (!(i==j))) s:=by
 rw[zkg (by simp[eqC,Mi.plain,er,PyData.canLay0,PyData.depth])];erw[er,PyData.eqv]
noncomputable def iL(bs:List Int):List D:=bs.map D.int
theorem zaj: ∀{ds:List D},(∀d∈ds,∃i:Int,d= .int i)->∃bs,ds=iL bs
 |[],_=>⟨[],rfl⟩
 |d::ds,h=>by
  obtain⟨i,rfl⟩:=h d (by simp)
  obtain⟨bs,rfl⟩:=zaj (ds:=ds) fun d hd=>h d (by simp[hd])
  exact⟨i::bs,rfl⟩
structure Pz where
 e:Int
 ss:List Int
 k:Int
 c:Int
noncomputable def Pz.d(p:Pz):D:= .tup [.int p.e, .tup (iL p.ss), .int p.k, .int p.c]
noncomputable def psD(ps:List Pz):List D:=ps.map Pz.d
structure Cm where
 S:List Int
 C:List Pz
 b:Bool
noncomputable def Cm.d(c:Cm):D:= .tup [.tup (iL c.S), .tup (psD c.C), .bool c.b]
noncomputable def csD(cs:List Cm):List D:=cs.map Cm.d
noncomputable def sg(x:Str):List Nat:=x.cps.toList
theorem K9(x y:Str):sg (x++y)=sg x++sg y:=by unfold sg;rw[Str.cps_append,Array.toList_append]
theorem z0r{x y:Str}(h:sg x=sg y):x=y:=by
 obtain⟨a⟩:=x
 obtain⟨b⟩:=y
 exact congrArg Str.mk (Array.toList_inj.mp h)
theorem J7(x:Str):(sg x).length=x.length:=Array.length_toList
theorem z44(c:Nat):sg ⟨#[c]⟩=[c]:=rfl
noncomputable def jn(c:List Nat):List (List Nat)->List Nat
 |[]=>[]
 |[x]=>x
 |x::y::r=>x++(c++jn c (y::r))
theorem X3(z:Str): ∀(ys:List Str),sg (Txt.join z ys)=jn (sg z) (ys.map sg):=by
 intro ys
 show sg (Builtin.Str.glued z ys)=_
 rw[StrLaws.glued_eq_join]
 induction ys with
 |nil=>rfl
 |cons x r ih=>
  cases r with
  |nil=>rfl
  |cons y r=>
   show sg (x++z++z.join (y::r))=_
   rw[K9,K9,ih]
   erw[l6,jn,t5]
theorem zkF{c:Nat}: ∀{a b u v:List Nat},c∉a->c∉b->a++c::u=b++c::v->a=b/\u=v
 |[],[],u,v,_,_,h=>by simpa using h
 |[],y::b,u,v,_,hb,h=>by
  erw[n5,m8,List.cons.injEq] at h
  exact absurd (by rw[h.1];simp) hb
 |x::a,[],u,v,ha,_,h=>by
  erw[n5,m8,List.cons.injEq] at h
  exact absurd (by rw[<-h.1];simp) ha
 |x::a,y::b,u,v,ha,hb,h=>by
  erw[m8,List.cons.injEq] at h
  obtain⟨h1,h2⟩:=zkF (fun q=>ha (i4 _ q)) (fun q=>hb (i4 _ q)) h.2
  exact⟨by rw[h.1,h1],h2⟩
theorem zlK{c:Nat}{a b v:List Nat}(ha:c∉a):a≠b++c::v:=fun h=>ha (by rw[h];simp)
theorem zcN{c:Nat}: ∀{xs ys:List (List Nat)},xs≠[]->ys≠[]->(∀x∈xs,c∉x)->(∀y∈ys,c∉y)->jn [c] xs=jn [c] ys->xs=ys
 |[],_,h,_,_,_,_=>absurd rfl h
 |_::_,[],_,h,_,_,_=>absurd rfl h
 |[x],[y],_,_,_,_,h=>by erw[jn] at h;rw[h]
 |[x],y::y'::ys,_,_,hx,_,h=>by
  erw[jn,m8,n5] at h
  exact absurd h (zlK (hx x (by simp)))
 |x::x'::xs,[y],_,_,_,hy,h=>by
  erw[jn,m8,n5] at h
  exact absurd h.symm (zlK (hy y (by simp)))
 |x::x'::xs,y::y'::ys,_,_,hx,hy,h=>by
  erw[jn,m8,n5] at h
  obtain⟨h1,h2⟩:=zkF (hx x (by simp)) (hy y (by simp)) h
  rw[h1,zcN (xs:=x'::xs) (ys:=y'::ys) (by simp) (by simp) (fun z hz=>hx z (i4 _ hz)) (fun z hz=>hy z (i4 _ hz)) h2]
theorem z0W{x y:Str}:Txt.split x y≠[]:=by
 unfold Txt.split
 split
 ·simp
 ·split
  ·simp
  ·intro h
   have:=congrArg O1 h
   rw[length_partsBetween] at this
   simp at this
theorem zcO: ∀{xs ys:List Str},xs.map sg=ys.map sg->xs=ys
 |[],[],_=>rfl
 |[],_::_,h=>by simp at h
 |_::_,[],h=>by simp at h
 |x::xs,y::ys,h=>by
  erw[l6,List.cons.injEq] at h
  rw[z0r h.1,zcO h.2]
theorem z3r{x:Str}{c:Nat}{ys:List Str}(hn:ys≠[])(hf: ∀y∈ys,c∉sg y)(e:sg x=jn [c] (ys.map sg)):Txt.split x ⟨#[c]⟩=ys:=by
 refine zcO (zcN (c:=c) (by simp[z0W]) (by simpa using hn) (fun z hz=> ?_) (fun z hz=> ?_) ?_)
 ·obtain⟨p,hp,rfl⟩:=m9.mp hz
  exact StrLaws.split_free x c p hp
 ·obtain⟨p,hp,rfl⟩:=m9.mp hz
  exact hf p hp
 ·rw[<-e]
  have h:=X3 ⟨#[c]⟩ (Txt.split x ⟨#[c]⟩)
  rw[z44] at h
  rw[<-h]
  show sg (Builtin.Str.glued _ _)=_
  rw[StrLaws.glued_eq_join,StrLaws.join_split]
noncomputable def num(i:Int):Str:=Str.ofString (toString i)
noncomputable def Dg(w:List Nat):Prop:= ∀c∈w,48<=c/\c<=57
theorem z7g(m:Nat):sg (num m)=(F6 10 m).map Char.toNat:=W.KIN.signs_num m
theorem zeu{m:Nat}(h:10<=m):F6 10 m=F6 10 (m/10)++[u00 (m %10)]:=by
 have hm:m %10<10:=Nat.mod_lt m (by decide)
 have t:F6 10 (m/10)++F6 10 (m %10)=F6 10 (10*(m/10)+m %10):=Nat.toDigits_append_toDigits (by decide) (by lia) hm
 rw[Nat.div_add_mod,P3 hm] at t
 exact t.symm
theorem dc: ∀d:Nat,d<10->(u00 d).toNat=48+d:=by decide
theorem z1C{m:Nat}(h:m<10):sg (num m)=[48+m]:=by
 rw[z7g,P3 h,D3,dc m h]
theorem z5v{m:Nat}(h:10<=m):sg (num m)=sg (num ((m/10:Nat):Int))++[48+m %10]:=by
 rw[z7g,z7g,zeu h,A9,D3,dc _ (Nat.mod_lt _ (by decide))]
theorem z5w(m:Nat):Dg (sg (num m))/\sg (num m)≠[]/\(0<m->(sg (num m)).head? ≠some 48):=by
 induction m using Nat.strongRecOn with
 |_ m ih=>
  by_cases h:m<10
  ·rw[z1C h]
   refine⟨fun c hc=> ?_,by simp,fun h0=>by simp;lia⟩
   rw[B0.mp hc];lia
  ·obtain⟨h1,h2,h3⟩:=ih (m/10) (by lia)
   rw[z5v (by lia)]
   refine⟨fun c hc=> ?_,by simp,fun _=> ?_⟩
   ·rcases i5.mp hc with hc|hc
    ·exact h1 c hc
    ·rw[B0.mp hc];lia
   ·have h4:=h3 (by lia)
    cases e:sg (num ((m/10:Nat):Int)) with
    |nil=>exact absurd e h2
    |cons a r=>rw[e] at h4;simpa using h4
theorem z7h: ∀(k m:Nat),m<10^(k+1)->(sg (num m)).length<=k+1
 |0,m,h=>by rw[z1C (by simpa using h)];simp
 |k+1,m,h=>by
  by_cases hm:m<10
  ·rw[z1C hm];simp
  ·rw[z5v (by lia),l8,R3]
   have:=z7h k (m/10) (by rw[u05] at h;lia)
   lia
theorem zak{i:Int}(h:0<=i):Dg (sg (num i)):=by
 obtain⟨m,rfl⟩:=C0 h
 exact(z5w m).1
theorem zhu{i:Int}(h:0<=i):sg (num i)≠[]:=by
 obtain⟨m,rfl⟩:=C0 h
 exact(z5w m).2.1
theorem z08{i:Int}(h:0<=i)(h':i<100000):(num i).length<=5:=by
 obtain⟨m,rfl⟩:=C0 h
 rw[<-J7]
 exact z7h 4 m (by rw[show(10:Nat)^(4+1)=100000 from rfl];lia)
theorem z1D{i:Int}(h:0<=i)(h':i<100000):i.natAbs.log2<1920:=by
 have h1:i.natAbs<2^1920:=r8 (show i.natAbs<2^17 by rw[show(2:Nat)^17=131072 from rfl];lia) (L9 (by decide) (by decide))
 by_cases h0:i.natAbs=0
 ·rw[h0];decide
 ·exact(S9 h0).mpr h1
theorem k7{i:Int}{c:Nat}(h:0<=i)(hc:c<48\/57<c):c∉sg (num i):=fun q=>by
 have:=zak h c q
 lia
noncomputable def okN(w:Str):Bool:=decide (1<=w.length)&&(decide (w.length<=5)&&((sg w).all (fun c=>decide (48<=c/\c<=57))&& !((sg w).head? ==some 48&& !(w== "0"))))
noncomputable def z02(w:Str):D:=if okN w=true then .int ((PySem.intText? w).getD 0) else .non
theorem z2A{i:Int}(h:0<=i)(h':i<100000):z02 (num i)= .int i:=by
 have hr:PySem.intText? (num i)=some i:=W.KIN.num_reads h (by rw[show(10:Int)^10=10000000000 from rfl];lia)
 have hk:okN (num i)=true:=by
  unfold okN
  have l5:=z08 h h'
  have d:=zak h
  have ne:=zhu h
  have l1:1<=(num i).length:=by
   rw[<-J7]
   cases e:sg (num i) with
   |nil=>exact absurd e ne
   |cons _ _=>simp
  rw[decide_eq_true l1,decide_eq_true l5,A6.mpr fun c hc=>decide_eq_true (d c hc)]
  erw[A5]
  obtain⟨m,rfl⟩:=C0 h
  by_cases h0:0<m
  ·have:=(z5w m).2.2 h0
   simp[this]
  ·have:m=0:=by lia
   subst this
   decide
 unfold z02
 rw[if_pos hk,hr]
 rfl
theorem z31{K:ItK}{g:Tg}{b:MS}{P:Nat->Stt->Prop}{item:Nat->D}{N:Nat}(hat: ∀i s,P i s->K.at' i s.tm=some (if i<N then some (item i) else none))
 (body: ∀i,i<N->∀s,P i s->∃σ',asg g (item i) s.σ=some σ'/\∃s',b {s with σ:=σ'}= .nx s'/\P (i+1) s'):
 ∀(f i:Nat) (s:Stt),i+f=N->P i s->∃s',forGo K g b f i s= .nx (s'.popn K.k)/\P N s'
 |0,i,s,hi,h=>by
  have e:i=N:=by lia
  subst e
  exact⟨s,z7d (by rw[hat i s h,if_neg (D8 _)]),h⟩
 |f+1,i,s,hi,h=>by
  obtain⟨σ',h1,s1,h2,h3⟩:=body i (by lia) s h
  obtain⟨s2,h4,h5⟩:=z31 hat body f (i+1) s1 (by lia) h3
  exact⟨s2,by rw[z7U (by rw[hat i s h,if_pos (by lia)]) h1 h2,h4],h5⟩
theorem z32{o:Option D}{σ tm:List (Option D)}{n:Nat}:Stt.popn ⟨σ,o::tm,n⟩ 1=⟨σ,tm,n⟩:=rfl
theorem z7i(f:Nat->Option D)(s:List Int):rpL f (iL s)=iL s:=by
 induction s with
 |nil=>rfl
 |cons i s ih=>erw[iL,l6,z0V,zab] at ih⊢;rw[ih]
theorem zev(f:Nat->Option D)(C:List Pz):rpL f (psD C)=psD C:=by
 induction C with
 |nil=>rfl
 |cons p C ih=>erw[psD,l6,z0V,Pz.d,z7T,zab,z7i,z5t] at ih⊢;rw[ih]
theorem z7j(f:Nat->Option D)(c:Cm):rp f c.d=c.d:=by
 erw[Cm.d,z7T,z0V,z7i,zev,zad,z5t]
theorem zmF(f:Nat->Option D)(cs:List Cm):rpL f (csD cs)=csD cs:=by
 induction cs with
 |nil=>rfl
 |cons c cs ih=>erw[csD,l6,z0V,z7j] at ih⊢;rw[ih]
theorem zkG{L m:Nat}{d:D}{cs:List Cm}(h:L≠m):rp (pl m d) (.lst L (csD cs))= .lst L (csD cs):=by rw[z4l h,zmF]
noncomputable def Fx(o:Option D):Prop:= ∀f,o.map (rp f)=o
theorem Fx.no:Fx none:=fun _=>rfl
theorem Fx.int{i:Int}:Fx (some (.int i)):=fun _=>rfl
theorem Fx.iL{s:List Int}:Fx (some (.tup (iL s))):=fun f=>by erw[C1,z7T,z7i]
theorem zc3:z4v.k=1:=rfl
theorem z6x:kLst.k=1:=rfl
theorem zkH:zbE.k=1:=rfl
theorem zcP{ds:List D}{i:Nat}{tm:List (Option D)}:z4v.at' i (some (.tup ds)::tm)=some (if i<ds.length then some (ds.getD i .non) else none):=by
 show some (ds[i]?)=_
 by_cases h:i<ds.length
 ·rw[if_pos h];simp[h]
 ·rw[if_neg h];simp[F9 h]
theorem zcQ{l:Nat}{ds:List D}{i:Nat}{tm:List (Option D)}:kLst.at' i (some (.lst l ds)::tm)=some (if i<ds.length then some (ds.getD i .non) else none):=by
 show some (ds[i]?)=_
 by_cases h:i<ds.length
 ·rw[if_pos h];simp[h]
 ·rw[if_neg h];simp[F9 h]
theorem zhv{l:Nat}{ds:List D}{i:Nat}{tm:List (Option D)}:zbE.at' i (some (.lst l ds)::tm)=some (if i<ds.length then some (.tup [.int (i:Nat),ds.getD i .non]) else none):=by
 show some ((ds[i]?).map fun d=>D.tup [.int (i:Nat),d])=_
 by_cases h:i<ds.length
 ·rw[if_pos h];simp[h]
 ·rw[if_neg h];simp[F9 h]
theorem zhw{C:List Pz}{i:Nat}(h:i<C.length):(psD C).getD i .non=C[i].d:=by simp[psD,h]
theorem z1E{C:List Pz}:(psD C).length=C.length:=by simp[psD]
theorem z4I{C:List Cm}:(csD C).length=C.length:=by simp[csD]
theorem zal{K:ItK}{tg:Tg}{me:M D}{g:D->D}{sl:D->List (Option D)}{k:Nat}{items:List D}{its fr σ0 tm0:List (Option D)}{ol:Nat}(hk:its.length=K.k)(hol:σ0.length=ol)(hz:items.length<sizeLine)(hat: ∀i rest,K.at' i (its++rest)=some items[i]?)
 (has: ∀d∈items,(sl d).length=k/\∀os:List (Option D),os.length=k->asg tg d (os++fr)=some (sl d++fr))
 (hme: ∀d∈items,∀tm n,∃n',n<=n'/\me ⟨sl d++fr,tm,n⟩= .ok (g d) ⟨sl d++fr,tm,n'⟩):
 ∀(f i:Nat) (acc:List D) (os:List (Option D)) (n:Nat),os.length=k->i+f=items.length->acc.length<=i->∃n',n<=n'/\V8 K tg (rt true) me ol f i acc.length ⟨os++fr,(acc.reverse.map some)++(σ0++(its++tm0)),n⟩= .ok (.lst n' (acc++(items.drop i).map g)) ⟨σ0,tm0,n'+1⟩:=by
 intro f
 induction f with
 |zero=>
  intro i acc os n ho hi ha
  have hi:i=items.length:=by lia
  refine⟨n,c9 _, ?_⟩
  have l1:(acc.reverse.map some).length=acc.length:=by simp
  have e1:((acc.reverse.map some)++(σ0++(its++tm0))).drop (acc.length+ol)=its++tm0:=by
   rw[<-t5];exact j7 _ _ _ (by simp[hol])
  have e0:K.at' i (its++tm0)=some none:=by
   rw[hat,List.getElem?_eq_none (show items.length<=i by lia)]
  unfold V8
  erw[e1,e0]
  rw[z07 _ _ _ l1]
  have e2:(acc.reverse.map some).reverse=acc.map some:=by simp
  rw[e2,K8]
  erw[Res.ok.injEq,Stt.mk.injEq,and_true,C6 (show items.length<=i by lia),t7,i9,true_and]
  constructor
  ·rw[j7 _ _ _ l1,z07 _ _ _ hol]
  ·have:((acc.reverse.map some)++(σ0++(its++tm0))).drop (acc.length+ol+K.k)=(((acc.reverse.map some)++(σ0++(its++tm0))).drop (acc.length+ol)).drop K.k:=by rw[E6]
   rw[this,e1]
   exact j7 _ _ _ hk
 |succ f ih=>
  intro i acc os n ho hi ha
  have hlt:i<items.length:=by lia
  have e1:((acc.reverse.map some)++(σ0++(its++tm0))).drop (acc.length+ol)=its++tm0:=by
   rw[<-t5];exact j7 _ _ _ (by simp[hol])
  have e0:K.at' i (its++tm0)=some (some items[i]):=by
   rw[hat,List.getElem?_eq_getElem hlt]
  obtain⟨a1,a2⟩:=has items[i] (A4 hlt)
  rw[B2 hlt]
  obtain⟨n2,hn2,h2⟩:=hme items[i] (A4 hlt) ((acc.reverse.map some)++(σ0++(its++tm0))) n
  obtain⟨n3,hn3,h3⟩:=ih (i+1) (acc++[g items[i]]) (sl items[i]) n2 a1 (by lia) (by simp;lia)
  refine⟨n3,by lia, ?_⟩
  unfold V8
  erw[e1,e0,a2 os ho,rt]
  erw[if_pos (show acc.length<sizeLine by lia),h2]
  erw[l8,i7,n9,P7,E5,B4,D1,n5,A9,l6,t7,m8,t5] at h3⊢
  exact h3
theorem z09{mi:M ItK}{K:ItK}{tg:Tg}{me:M D}{g:D->D}{sl:D->List (Option D)}{k:Nat}{items:List D}{its:List (Option D)}{ix:List Nat}{s:Stt}{σ tm:List (Option D)}{n:Nat}(hc:mi s= .ok K ⟨σ,its++tm,n⟩)(hk:its.length=K.k)(hz:items.length<sizeLine)(hat: ∀i rest,K.at' i (its++rest)=some items[i]?)(hlen:K.len (its++tm)=items.length)
 (has: ∀d∈items,(sl d).length=k/\∀os:List (Option D),os.length=k->asg tg d (os++(ix.map fun i=>(σ[i]?).getD none))=some (sl d++(ix.map fun i=>(σ[i]?).getD none)))
 (hme: ∀d∈items,∀tm n,∃n',n<=n'/\me ⟨sl d++(ix.map fun i=>(σ[i]?).getD none),tm,n⟩= .ok (g d) ⟨sl d++(ix.map fun i=>(σ[i]?).getD none),tm,n'⟩):
 ∃n',n<=n'/\J0 mi tg (rt true) me k ix s= .ok (.lst n' (items.map g)) ⟨σ,tm,n'+1⟩:=by
 obtain⟨n',h2,h3⟩:=zal (K:=K) (tg:=tg) (me:=me) (g:=g) (sl:=sl) (σ0:=σ) (tm0:=tm) hk rfl hz hat has hme items.length 0 [] (l7 k none) n (by simp) (by simp) (by simp)
 refine⟨n',h2, ?_⟩
 unfold J0
 erw[bd,hc,hlen]
 erw[t7,D1,n5,n9,D4] at h3
 exact h3
section
variable{s s1:Stt}{mo m:M D}{ms:List (M D)}{fs:List (Str⊕M D)}{g:Str->List D->M D}{z y:Str}{d:D}{l n:Nat}{σ tm:List (Option D)}
noncomputable def zlL(ms:List (M D))(g:Str->List D->M D)(x:D):M D:=match x with
 | .str z=>bd (mArgs ms) (g z)
 |_=>fl
theorem zhx:J8 mo ms g s=(mo s).bnd (zlL ms g):=(rfl)
theorem zhy:zlL ms g (.str z) s=(mArgs ms s).bnd (g z):=(rfl)
theorem z6y(h:z.length<=sizeLine):z7O [.str z] s= .ok (.int z.length) s:=by erw[z7O,if_pos h];rfl
theorem zcR(h:z.length<=sizeLine):mFs [] z s= .ok (.str z) s:=by erw[mFs,if_pos h];rfl
theorem z6z(h:(z++y).length<=sizeLine):mFs (.inl y::fs) z s=mFs fs (z++y) s:=by erw[mFs,if_pos h]
theorem z6A(e:m s= .ok d s1)(hf:zbO d=some y)(h:(z++y).length<=sizeLine):mFs (.inr m::fs) z s=mFs fs (z++y) s1:=by erw[mFs,bd,e,hf,if_pos h]
theorem z7Y: ∀(ys:List Str),z4c (ys.map D.str)=some ys
 |[]=>rfl
 |y::ys=>by erw[l6,z4c,z7Y ys];rfl
theorem z2B{ys:List Str}(h:(ys.map (·.length)).sum+ys.length*z.length<=sizeLine):z28 z [.lst l (ys.map D.str)] s= .ok (.str (Txt.join z ys)) s:=by
 erw[z28,z7Y,if_pos h];rfl
theorem z1F(h:(y.length==0)=false)(hz:z.length+2<=sizeLine):V3 z [.str y] ⟨σ,tm,n⟩= .ok (.lst n ((Txt.split z y).map D.str)) ⟨σ,tm,n+1⟩:=by
 erw[V3,if_pos (And.intro h hz)];rfl
end
theorem zcS:sg ("0123456789" :Str)=T2 48 10:=by decide+kernel
theorem zkI{c:Nat}{s:Stt}:inS (.str ⟨#[c]⟩) (.str ("0123456789" :Str)) s= .ok (.bool (decide (48<=c/\c<=57))) s:=by
 unfold inS
 dsimp only
 rw[StrLaws.found_one,show("0123456789" :Str).cps.toList=T2 48 10 from zcS]
 show Res.ok _ s=_
 congr 3
 rw[S3,eq_iff_iff]
 lia
theorem zkJ{w:Str}{c:Nat}{r:List Nat}{s:Stt}(h:sg w=c::r)(hw:w.length<=1000000):ixS (.str w) (.int 0) s= .ok (.str ⟨#[c]⟩) s:=by
 have h0:w.cps[0]? =some c:=by
  rw[<-Array.getElem?_toList]
  show(sg w)[0]? =_
  rw[h];rfl
 have hl:(0:Int)<w.length:=by rw[<-J7,h];simp
 unfold ixS
 dsimp only
 rw[if_pos ⟨by decide,by decide,hl⟩]
 show(match w.cps[0]? with|some c=>rt (.str ⟨#[c]⟩)|none=>fl:M D) s=_
 rw[h0]
 rfl
theorem zc4{w:Str}(h:(sg w).all (fun c=>decide (48<=c/\c<=57))=true)(h1:1<=w.length)(h2:w.length<=5): ∃n,PySem.intText? w=some n:=by
 refine⟨_,PySem.intText_digits (fun c hc=> ?_) (fun e=> ?_) (by lia)⟩
 ·exact of_decide_eq_true (A6.mp h c hc)
 ·have:=J7 w
  unfold sg at this
  rw[e] at this
  simp at this
  lia
theorem z7Z(w:Str):((sg w).map fun c=>D.str ⟨#[c]⟩).length=w.length:=by rw[m7,J7]
noncomputable def zhz:D->Bool
 | .str x=>(sg x).all fun c=>decide (48<=c/\c<=57)
 |_=>false
theorem z80(c:Nat):zhz (.str ⟨#[c]⟩)=decide (48<=c/\c<=57):=by
 simp[zhz,z44]
theorem zhA{w:Str}{i:Nat}{rest:List (Option D)}:(zgM w).at' i ([]++rest)=some ((sg w).map fun c=>D.str ⟨#[c]⟩)[i]? :=by
 show some ((w.cps[i]?).map _)=_
 rw[List.getElem?_map,<-Array.getElem?_toList]
 rfl
theorem zcT{w:Str}:(((sg w).map fun c=>D.str ⟨#[c]⟩).map zhz).all id=(sg w).all fun c=>decide (48<=c/\c<=57):=by
 rw[P8,P8]
 congr 1
 funext c
 exact z80 c
theorem zam{x y:Str}{s:Stt}:eqS (.str x) (.str y) s= .ok (.bool (x==y)) s:=(rfl)
theorem z5x{x y:Str}{s:Stt}:neS (.str x) (.str y) s= .ok (.bool (!(x==y))) s:=(rfl)
noncomputable def B_4:=BA (BA (BA (BA (BA @qg1 @qg2) (BA @qg3 @qg4)) (BA (BA @qg5 @qg6) (BA @qg7 @qg8))) (BA (BA (BA @qg9 @zmx) (BA @zmy @qh1)) (BA (BA @qh2 @qh3) (BA @qh4 @qh5)))) (BA (BA (BA (BA @qh6 @qh7) (BA @qh8 @qh9)) (BA (BA @zmz @zmA) (BA @zmB @zmC))) (BA (BA (BA @zmD @zlI) (BA @zlJ @zmE)) (BA (BA @zkA @zhn) (BA @zcJ (BA @zkB @zkC)))))
noncomputable def B_5:=BA (BA (BA @zer @zbZ) (BA @zc0 @zc1)) (BA (BA @zkE @zc2) (BA @zhx @zhy))
local macro_rules | `(tactic| left) => `(tactic| (simp (config := { dsimp := false }) only [B_0, B_1, B_3, ↓B_4, B_5, isiD, Z5, asg, asgL, l7, I0, L4, String.reduceBEq, O7]))
noncomputable def B_6:=BA (BA @c0 @c1) (BA @c2 (BA @c3 @c4))
local macro_rules | `(tactic| walk_at "mh") => `(tactic| (simp (config := { dsimp := false }) only [B_0, B_1, B_3, ↓B_4, B_5, B_6, Z5, asg, asgL, l7, I0, L4, String.reduceBEq, O7, *]))
theorem zc5(w:Str)(hw:w.length<=1000000)(n:Nat): ∃n',n<=n'/\Y5 [.str w] n= .ok (z02 w) [.str w] n':=by
 unfold Y5 K5
 left
 rw[z6y (by rw[zl];lia)]
 left
 have eA:decide (1<=(w.length:Int))=decide (1<=w.length):=by congr 1;erw[eq_iff_iff];lia
 have eB:decide ((w.length:Int)<=5)=decide (w.length<=5):=by congr 1;erw[eq_iff_iff];lia
 rw[eA]
 unfold z02 okN
 by_cases h1:1<=w.length
 ·rw[decide_eq_true h1]
  left
  rw[eB]
  by_cases h5:w.length<=5
  ·rw[decide_eq_true h5]
   left
   obtain⟨n1,g1,e1⟩:=z09 (mi:=z9W (y0 0)) (K:=zgM w) (tg:= .nm 0) (me:=y3 (y0 0) (mC (.str ("0123456789" :Str))) inS) (g:=fun d=> .bool (zhz d)) (sl:=fun d=>[some d]) (k:=1) (items:=(sg w).map fun c=>D.str ⟨#[c]⟩) (its:=[]) (ix:=[]) (s:=⟨[some (.str w)],[some (.str w)],n⟩) (σ:=[some (.str w)]) (tm:=[some (.str w)]) (n:=n) rfl rfl (by rw[zl,z7Z];lia) (fun i rest=>zhA) (by rw[z7Z];rfl) (by
    intro d hd
    refine⟨rfl,fun os ho=> ?_⟩
    match os,ho with
    |[a0],_=>rfl) (by
    intro d hd tm n
    obtain⟨c,_,rfl⟩:=m9.mp hd
    refine⟨n,c9 _, ?_⟩
    erw[t7,i9]
    left
    rw[zkI,z80])
   rw[e1]
   left
   rw[zem (z3X _ zhz)]
   left
   cases ha:(sg w).all fun c=>decide (48<=c/\c<=57) with
   |false=>
    refine⟨n1+1,by lia, ?_⟩
    rw[zcT,ha]
    left
    rfl
   |true=>
    refine⟨n1+1,by lia, ?_⟩
    rw[zcT,ha]
    left
    obtain⟨c,r,hc⟩: ∃c r,sg w=c::r:=by
     cases e:sg w with
     |nil=>rw[<-J7,e] at h1;simp at h1
     |cons c r=>exact⟨c,r,rfl⟩
    rw[zkJ hc hw]
    left
    obtain⟨v,hv⟩:=zc4 ha h1 h5
    have ei: ∀s:Stt,z8C [.str w] s= .ok (.int v) s:=fun s=>by erw[z8C,if_pos (show w.length<=640 by lia),hv];rfl
    rw[hc]
    erw[List.head?_cons,zam,z5x]
    have e0:((⟨#[c]⟩:Str)==Str.ofString "0")=(some c==some 48):=by
     rw[B8,beq_iff_eq,beq_iff_eq]
     constructor
     ·intro h
      have:=congrArg sg h
      rw[z44,show sg (Str.ofString "0")=[48] by decide+kernel] at this
      simpa using this
     ·intro h
      cases h
      exact z0r (by rw[z44];decide+kernel)
    rw[e0]
    left
    rcases O8 (some c==some 48) with hq|hq
    ·erw[hq]
     left
     erw[z5x]
     left
     rcases O8 (w==Str.ofString "0") with hr|hr
     ·erw[hr]
      left
      rw[ei,hv]
      left
      rfl
     ·erw[hr]
      left
      rfl
    ·erw[hq]
     left
     rw[ei,hv]
     left
     rfl
  ·rw[decide_eq_false h5]
   refine⟨n,c9 _, ?_⟩
   left
   rfl
 ·rw[decide_eq_false h1]
  refine⟨n,c9 _, ?_⟩
  left
  rfl
noncomputable def z7k:D->Bool
 | .non=>true
 |_=>false
noncomputable def rE:D->D
 | .str x=>z02 x
 |_=> .non
theorem z5y(w:Str):z02 w= .non\/∃i:Int,z02 w= .int i:=by
 unfold z02
 split
 ·exact .inr ⟨_,rfl⟩
 ·exact .inl rfl
noncomputable def Nn(ds:List D):Prop:= ∀d∈ds,d= .non\/∃i:Int,d= .int i
theorem zhB: ∀{ds:List D},Nn ds->Mi.plainL ds=true/\PyData.canLayAll0 (erL ds)=true/\((erL ds).any fun y=>PyData.eqv y (er .non))=ds.any z7k
 |[],_=>⟨rfl,rfl,rfl⟩
 |d::ds,h=>by
  obtain⟨h1,h2,h3⟩:=zhB (ds:=ds) fun e he=>h e (by simp[he])
  rcases h d (by simp) with rfl|⟨i,rfl⟩
  ·refine⟨by erw[Mi.plainL,Mi.plain,h1];rfl,by erw[erL,er,PyData.canLayAll0,PyData.canLay0,h2];rfl, ?_⟩
   erw[erL,L5,h3,z7k,er,PyData.eqv]
   rfl
  ·refine⟨by erw[Mi.plainL,Mi.plain,h1];rfl,by erw[erL,er,PyData.canLayAll0,PyData.canLay0,h2];rfl, ?_⟩
   rw[erL,L5,L5,h3]
   rfl
theorem zkK{l:Nat}{ds:List D}{s:Stt}(h:Nn ds):inD .non (.lst l ds) s= .ok (.bool (ds.any z7k)) s:=by
 obtain⟨h1,h2,h3⟩:=zhB h
 rw[zmu (ds:=ds) rfl (by
  erw[inC,h1,h2,Mi.plain,er,PyData.canLay0,F0,A5,decide_eq_true_eq,PyData.depth]
  exact t8 (F7 _ _) (by decide)),h3]
noncomputable def z1G(w:Str):D:=if(((Txt.split w (Str.ofString ".")).map z02).any z7k)=true then .non else .tup ((Txt.split w (Str.ofString ".")).map z02)
noncomputable def z0s(w:Str):D:=match Txt.split w (Str.ofString ":") with
 |[a,b,c,d]=> .tup [z02 a,z1G b,z02 c,z02 d]
 |_=> .non
theorem zhC(ys:List Str):(ys.map D.str).map rE=ys.map z02:=by rw[B7];rfl
theorem z00{w y:Str}(hw:w.length<=1000000):(Txt.split w y).length<=1000002:=by
 unfold Txt.split
 split
 ·simp
 ·split
  ·simp
  ·have e1:=StrLaws.occ_length_le w y 0 w.length (w.length+1)
   rw[length_partsBetween]
   lia
theorem zb1{x y a:Str}(h:a∈Txt.split x y):a.length<=x.length:=PyProof.Rows.part_short h
theorem z8N(c:Nat)(x:Str)(h:sg x=[c]):x=⟨#[c]⟩/\(x.length==0)=false:=by
 have e:x=⟨#[c]⟩:=z0r (by rw[h];rfl)
 exact⟨e,by rw[e];rfl⟩
theorem zan:sg (Str.ofString ".")=[46]:=by decide+kernel
theorem z8O:sg (Str.ofString ":")=[58]:=by decide+kernel
theorem z4m:sg (Str.ofString " ")=[32]:=by decide+kernel
theorem z6B:sg (Str.ofString ";")=[59]:=by decide+kernel
theorem zcU:((Str.ofString ".").length==0)=false:=(z8N _ _ zan).2
theorem zcV:((Str.ofString ":").length==0)=false:=(z8N _ _ z8O).2
theorem zcW:((Str.ofString " ").length==0)=false:=(z8N _ _ z4m).2
theorem zcX:((Str.ofString ";").length==0)=false:=(z8N _ _ z6B).2
theorem zhD(w:Str)(hw:w.length<=1000000)(n:Nat): ∃n',n<=n'/\J4 [.str w] n= .ok (z1G w) [.str w] n':=by
 have hc:=z00 (y:=Str.ofString ".") hw
 obtain⟨n1,g1,e1⟩:=z09 (mi:=Y8 (J8 (y0 0) [(mC (.str ("." :Str)))] V3)) (K:=kLst) (tg:= .nm 0) (me:=mCall Y5 [(y0 0)]) (g:=rE) (sl:=fun d=>[some d]) (k:=1) (items:=(Txt.split w (Str.ofString ".")).map D.str) (its:=[some (.lst n ((Txt.split w (Str.ofString ".")).map D.str))]) (ix:=[]) (s:=⟨[some (.str w),none],[some (.str w)],n⟩) (σ:=[some (.str w),none]) (tm:=[some (.str w)]) (n:=n+1) (z3f (by
  left
  rw[z1F zcU (by rw[zl];lia)]
  rfl)) rfl (by rw[zl,m7];lia) (fun i rest=>rfl) rfl (by
  intro d hd
  refine⟨rfl,fun os ho=> ?_⟩
  match os,ho with
  |[a0],_=>rfl) (by
  intro d hd tm n
  obtain⟨p,hp,rfl⟩:=m9.mp hd
  obtain⟨n',h1,e⟩:=zc5 p (t8 (zb1 hp) hw) n
  refine⟨n',h1, ?_⟩
  erw[t7,i9]
  left
  rw[e]
  left
  rfl)
 rw[zhC] at e1
 have hN:Nn ((Txt.split w (Str.ofString ".")).map z02):=fun d hd=>by
  obtain⟨p,_,rfl⟩:=m9.mp hd
  exact z5y p
 refine⟨n1+1,by lia, ?_⟩
 unfold J4 K6
 left
 rw[e1]
 left
 rw[zkK hN]
 unfold z1G
 cases((Txt.split w (Str.ofString ".")).map z02).any z7k with
 |true=>left;rfl
 |false=>left;rfl
theorem zhE(w:Str)(hw:w.length<=1000000)(n:Nat): ∃n',n<=n'/\g9 [.str w] n= .ok (z0s w) [.str w] n':=by
 unfold g9 z0j
 left
 rw[z1F zcV (by rw[zl];lia)]
 left
 unfold z0s
 have hs: ∀p∈Txt.split w (Str.ofString ":"),p.length<=1000000:=fun p hp=>t8 (zb1 hp) hw
 generalize Txt.split w (Str.ofString ":")=ps at hs
 by_cases hl:ps.length=4
 ·rcases ps with _|⟨a,_|⟨b,_|⟨c,_|⟨d,_|⟨e,r⟩⟩⟩⟩⟩<;>simp at hl
  left
  rw[show(((4:Nat):Int)==4)=true from rfl]
  left
  obtain⟨n1,g1,e1⟩:=zc5 a (hs a (by simp)) (n+1)
  obtain⟨n2,g2,e2⟩:=zhD b (hs b (by simp)) n1
  obtain⟨n3,g3,e3⟩:=zc5 c (hs c (by simp)) n2
  obtain⟨n4,g4,e4⟩:=zc5 d (hs d (by simp)) n3
  refine⟨n4,by lia, ?_⟩
  rw[e1]
  left
  rw[e2]
  left
  rw[e3]
  left
  rw[e4]
  left
 ·have e:(((ps.length:Nat):Int)==4)=false:=by simp;lia
  refine⟨n+1,by lia, ?_⟩
  erw[m7]
  erw[e]
  left
  congr 2
  rcases ps with _|⟨a,_|⟨b,_|⟨c,_|⟨d,_|⟨e,r⟩⟩⟩⟩⟩<;>first|rfl|(simp at hl)
theorem z3g{i:Int}{s:Stt}(h:i.natAbs.log2<1920):z1g [.int i] s= .ok (.str (num i)) s:=by erw[z1g,if_pos h];rfl
noncomputable def Nm(s:List Int):Prop:= ∀i∈s,0<=i/\i<100000
noncomputable def dt(s:List Int):Str:=Txt.join (Str.ofString ".") (s.map num)
theorem zew(s:List Int):(iL s).map (fun d=>match d with| .int i=>D.str (num i)|_=> .non)=(s.map num).map D.str:=by
 unfold iL
 rw[B7,B7]
 rfl
theorem zc6{z:Str}{ys:List Str}{B:Nat}(h: ∀y∈ys,y.length<=B):(Txt.join z ys).length<=ys.length*(B+z.length)/\(ys.map (·.length)).sum+ys.length*z.length<=ys.length*(B+z.length):=by
 have h1:=StrLaws.join_length_le z ys
 have h2:=StrLaws.sumLen_le ys h
 have e:Txt.join z ys=z.join ys:=StrLaws.glued_eq_join z ys
 rw[e]
 have h3:ys.length*(B+z.length)=ys.length*B+ys.length*z.length:=Nat.mul_add _ _ _
 lia
theorem zhF{s:List Int}(h:Nm s): ∀y∈s.map num,y.length<=5:=fun y hy=>by
 obtain⟨i,hi,rfl⟩:=m9.mp hy
 exact z08 (h i hi).1 (h i hi).2
theorem zhG:(Str.ofString ".").length=1:=by rw[<-J7,zan];rfl
theorem z4n:(Str.ofString ":").length=1:=by rw[<-J7,z8O];rfl
theorem zc7:(Str.ofString " ").length=1:=by rw[<-J7,z4m];rfl
theorem z8P:(Str.ofString ";").length=1:=by rw[<-J7,z6B];rfl
theorem z6C{s:List Int}(h:Nm s)(hl:s.length<=24):(dt s).length<=144/\((s.map num).map (·.length)).sum+(s.map num).length*(Str.ofString ".").length<=144:=by
 have:=zc6 (z:=Str.ofString ".") (zhF h)
 rw[zhG,m7] at this
 unfold dt
 rw[zhG,m7]
 lia
noncomputable def gN:D->D:=fun d=>match d with| .int i=>D.str (num i)|_=> .non
theorem zao(s:List Int)(h:Nm s)(hl:s.length<=24)(n:Nat): ∃n',n<=n'/\f_p_dotted [.tup (iL s)] n= .ok (.str (dt s)) [.tup (iL s)] n':=by
 obtain⟨n1,g1,e1⟩:=z09 (mi:=Y8 (y0 0)) (K:=z4v) (tg:= .nm 0) (me:=mCB [(y0 0)] z1g) (g:=gN) (sl:=fun d=>[some d]) (k:=1) (items:=iL s) (its:=[some (.tup (iL s))]) (ix:=[]) (s:=⟨[some (.tup (iL s))],[some (.tup (iL s))],n⟩) (σ:=[some (.tup (iL s))]) (tm:=[some (.tup (iL s))]) (n:=n) rfl rfl (by rw[zl];erw[iL,m7];lia) (fun i rest=>rfl) rfl (by
  intro d hd
  refine⟨rfl,fun os ho=> ?_⟩
  match os,ho with
  |[a0],_=>rfl) (by
  intro d hd tm n
  obtain⟨i,hi,rfl⟩:=m9.mp hd
  refine⟨n,c9 _, ?_⟩
  erw[t7,i9]
  left
  rw[z3g (z1D (h i hi).1 (h i hi).2)]
  rfl)
 rw[show(iL s).map gN=(s.map num).map D.str from zew s] at e1
 refine⟨n1+1,by lia, ?_⟩
 have hd:=z6C h hl
 unfold f_p_dotted z2X
 left
 rw[e1]
 left
 rw[z2B (by rw[zl];lia)]
 left
 rfl
theorem zap(s:List Int)(h:Nm s)(hl:s.length<=24)(n:Nat): ∃n',n<=n'/\z1L [.tup (iL s)] n= .ok (.str (dt s)) [.tup (iL s)] n':=zao s h hl n
noncomputable def Pz.ok(p:Pz):Prop:=(0<=p.e/\p.e<100000)/\(Nm p.ss/\1<=p.ss.length/\p.ss.length<=24)/\(0<=p.k/\p.k<100000)/\(0<=p.c/\p.c<100000)
noncomputable def pT(p:Pz):Str:=Str.empty++num p.e++Str.ofString ":" ++dt p.ss++Str.ofString ":" ++num p.k++Str.ofString ":" ++num p.c
theorem zhH{p:Pz}(h:p.ok):(pT p).length<=162:=by
 have h1:=z08 h.1.1 h.1.2
 have h2:=(z6C h.2.1.1 h.2.1.2.2).1
 have h3:=z08 h.2.2.1.1 h.2.2.1.2
 have h4:=z08 h.2.2.2.1 h.2.2.2.2
 unfold pT
 erw[Str.length_append,z4n]
 have:Str.empty.length=0:=rfl
 lia
theorem ziV{i:Int}(h:0<=i/\i<100000):zbO (.int i)=some (num i):=by erw[zbO,if_pos (z1D h.1 h.2)];rfl
theorem zmG{x:Str}(h:x.length<=sizeLine):zbO (.str x)=some x:=by erw[zbO,if_pos h]
theorem zkL(p:Pz)(h:p.ok)(n:Nat): ∃n',n<=n'/\J9 [p.d] n= .ok (.str (pT p)) [p.d] n':=by
 obtain⟨n1,g1,e1⟩:=zao p.ss h.2.1.1 h.2.1.2.2 n
 have l1:=z08 h.1.1 h.1.2
 have l2:=(z6C h.2.1.1 h.2.1.2.2).1
 have l3:=z08 h.2.2.1.1 h.2.2.1.2
 have l4:=z08 h.2.2.2.1 h.2.2.2.2
 have l0:Str.empty.length=0:=rfl
 have ec: ∀tm,mCall f_p_dotted [(y0 2)] ⟨[some p.d,some (.int p.e),some (.tup (iL p.ss)),some (.int p.k),some (.int p.c)],tm,n⟩= .ok (.str (dt p.ss)) ⟨[some p.d,some (.int p.e),some (.tup (iL p.ss)),some (.int p.k),some (.int p.c)],tm,n1⟩:=fun tm=>by
  left
  rw[e1]
  left
 refine⟨n1,g1, ?_⟩
 unfold J9 z0i Pz.d
 left
 show((mFs _ _ ⟨[some p.d,_,_,_,_],[some p.d],n⟩).lf _).fin=_
 rw[z6A (m:=y0 1) (d:= .int p.e) rfl (ziV h.1) (by rw[zl];erw[Str.length_append,z4n];lia),z6z (by rw[zl];erw[Str.length_append,z4n];lia),z6A (ec _) (zmG (by rw[zl];lia)) (by rw[zl];erw[Str.length_append,z4n];lia),z6z (by rw[zl];erw[Str.length_append,z4n];lia),z6A (m:=y0 3) (d:= .int p.k) rfl (ziV h.2.2.1) (by rw[zl];erw[Str.length_append,z4n];lia),z6z (by rw[zl];erw[Str.length_append,z4n];lia),z6A (m:=y0 4) (d:= .int p.c) rfl (ziV h.2.2.2) (by rw[zl];erw[Str.length_append,z4n];lia),zcR (by rw[zl];erw[Str.length_append,z4n];lia)]
 left
 rfl
noncomputable def bI(b:Bool):Int:=if b=true then 1 else 0
noncomputable def bT(b:Bool):Str:=if b=true then Str.ofString "1" else Str.ofString "0"
noncomputable def pn(p:Pz):List Int:=p.e::(p.ss++[p.k,p.c])
noncomputable def z5z(c:Cm)(i:Nat):List Int:=c.S++(bI c.b::(c.C.take i).flatMap pn)
noncomputable def z33(c:Cm):List Int:=c.S++(bI c.b::c.C.flatMap pn)
noncomputable def z45:Nat->List Int->List Int
 |_,[]=>[]
 |k,x::r=>(k:Int)*x::z45 (k+1) r
noncomputable def chk(c:Cm):Int:=(z45 1 (z33 c)).sum %997
noncomputable def enI:Nat->List Int->List D
 |_,[]=>[]
 |k,x::r=> .tup [.int (k:Nat), .int x]::enI (k+1) r
theorem zcY: ∀(k:Nat) (xs:List Int) (i:Nat),(enI k xs)[i]? =((iL xs)[i]?).map fun d=>D.tup [.int ((k+i:Nat):Int),d]
 |_,[],i=>by simp[enI,iL]
 |k,x::r,0=>by simp[enI,iL]
 |k,x::r,i+1=>by
  have:=zcY (k+1) r i
  erw[enI,iL,l6,List.getElem?_cons_succ] at this⊢
  rw[this,show k+1+i=k+(i+1) by lia]
theorem zaq: ∀(k:Nat) (xs:List Int),(enI k xs).length=xs.length
 |_,[]=>rfl
 |k,x::r=>by simp[enI,zaq (k+1) r]
noncomputable def gM:D->D
 | .tup [.int a, .int b]=> .int (a*b)
 |_=> .non
theorem zcZ: ∀(k:Nat) (xs:List Int),(enI k xs).map gM=iL (z45 k xs)
 |_,[]=>rfl
 |k,x::r=>by
  have:=zcZ (k+1) r
  erw[enI,l6,z45,iL,gM] at this⊢
  rw[this]
theorem zar: ∀{k:Nat} {xs:List Int} {d:D},d∈enI k xs->∃(j:Nat) (x:Int),j<k+xs.length/\d= .tup [.int (j:Nat), .int x]
 |_,[],d,h=>nomatch h
 |k,x::r,d,h=>by
  rcases i8.mp (show d∈ .tup [.int (k:Nat), .int x]::enI (k+1) r from h) with rfl|h
  ·exact⟨k,x,by simp,rfl⟩
  ·obtain⟨j,y,h1,h2⟩:=zar h
   exact⟨j,y,by erw[i7];lia,h2⟩
theorem zas: ∀(xs:List Int),z1W (iL xs)=some xs
 |[]=>rfl
 |x::xs=>by
  have:=zas xs
  erw[iL,l6,z1W] at this⊢
  rw[this]
theorem zkM{l:Nat}{xs:List Int}{s:Stt}:ze7 [.lst l (iL xs)] s= .ok (.int xs.sum) s:=by erw[ze7,zas];rfl
theorem zkN{l:Nat}{ds es:List D}{s:Stt}(h:ds.length+es.length<=sizeLine/\l∉labsL es):zb0 (.lst l ds) [.tup es] s= .ok .non (s.put l (.lst l (ds++es))):=by
 erw[zb0,z4S,if_pos h]
theorem zhI{l k:Nat}{ds es:List D}{s:Stt}(h:ds.length+es.length<=sizeLine/\l∉labsL es):zb0 (.lst l ds) [.lst k es] s= .ok .non (s.put l (.lst l (ds++es))):=by
 erw[zb0,z4S,if_pos h]
theorem zmH{b:Bool}{s:Stt}:z4V b (mC (.int 1)) (mC (.int 0)) s= .ok (.int (bI b)) s:=by cases b<;>rfl
theorem zmI{b:Bool}{s:Stt}:z4V b (mC (.str (Str.ofString "1"))) (mC (.str (Str.ofString "0"))) s= .ok (.str (bT b)) s:=by cases b<;>rfl
noncomputable def Cm.ok(c:Cm):Prop:=(Nm c.S/\1<=c.S.length/\c.S.length<=24)/\(1<=c.C.length/\c.C.length<=24)/\∀p∈c.C,p.ok
theorem zhJ(a b:List Int):iL a++iL b=iL (a++b):=by simp[iL]
theorem z7l(s:List Int):labsL (iL s)=[]:=by
 induction s with
 |nil=>rfl
 |cons x s ih=>erw[iL,l6,labsL,y4,n5] at ih⊢;exact ih
theorem zd0{c:Cm}{i:Nat}(h:i<c.C.length):z5z c (i+1)=z5z c i++pn c.C[i]:=by
 unfold z5z
 rw[R7,List.getElem?_eq_getElem h,N9,List.flatMap_append,List.flatMap_singleton,<-m8,<-t5]
theorem z81{c:Cm}:z5z c c.C.length=z33 c:=by unfold z5z z33;rw[B3 (c9 _)]
theorem zat{p:Pz}(h:p.ok):(pn p).length<=27:=by
 have:=h.2.1.2.2
 erw[pn,i7,l8,n9]
 lia
theorem z82: ∀{C:List Pz},(∀p∈C,p.ok)->(C.flatMap pn).length<=27*C.length
 |[],_=>by simp
 |p::C,h=>by
  have h1:=zat (h p (by simp))
  have h2:=z82 (C:=C) fun q hq=>h q (by simp[hq])
  erw[List.flatMap_cons,l8,i7]
  lia
theorem z3s{c:Cm}(h:c.ok){i:Nat}:(z5z c i).length<=700:=by
 have h1:=z82 (C:=c.C.take i) fun p hp=>h.2.2 p (E4 hp)
 have h2:=h.1.2.2
 have h3:=h.2.1.2
 have h4:(c.C.take i).length<=c.C.length:=by erw[C2];lia
 erw[z5z,l8,i7]
 lia
theorem Q2(s:List Int):(iL s).length=s.length:=by simp[iL]
theorem zex{l:Nat}{ds:List D}{i:Nat}{tm:List (Option D)}:zf9.at' i (some (.lst l ds)::tm)=some ((ds[i]?).map fun d=>D.tup [.int ((i+1:Nat):Int),d]):=rfl
theorem zkO{L m:Nat}{d:D}{s:List Int}(h:L≠m):rp (pl m d) (.lst L (iL s))= .lst L (iL s):=by rw[z4l h,z7i]
noncomputable def ckM:MS:=(z1e (z0w (y0 4) [(y3 (y3 (mCB [(y0 5)] z1U) (y0 6) W8) (mCB [(y0 7),(y0 8)] z1U) W8)] zb0))
theorem zhK(c:Cm)(hc:c.ok)(n:Nat): ∃n',n<=n'/\G8 [c.d] n= .ok (.int (chk c)) [c.d] n':=by
 obtain⟨s',e,o5,o6,o7,o8,y5,y6,y7,y8,rfl⟩:=z31 (K:=z4v) (g:= .tp [(.nm 5),(.nm 6),(.nm 7),(.nm 8)]) (b:=ckM) (item:=fun i=>(psD c.C).getD i .non) (N:=c.C.length) (P:=fun i s=> ∃(o5 o6 o7 o8:Option D),Fx o5/\Fx o6/\Fx o7/\Fx o8/\s=⟨[some c.d,some (.tup (iL c.S)),some (.tup (psD c.C)),some (.bool c.b),some (.lst (n+1+1) (iL (z5z c i))),o5,o6,o7,o8],[some (.tup (psD c.C)),some c.d],n+1+1+1⟩)
  (by rintro i s ⟨_,_,_,_,_,_,_,_,rfl⟩;rw[zcP,z1E])
  (by
   rintro i hi s ⟨o5,o6,o7,o8,y5,y6,y7,y8,rfl⟩
   rw[zhw hi]
   refine⟨_,rfl, ?_⟩
   have hp:=hc.2.2 _ (A4 hi)
   have l1:=z3s hc (i:=i)
   have l2:=zat hp
   have l3:=hp.2.1.2.2
   have ee:[D.int c.C[i].e]++iL c.C[i].ss++[.int c.C[i].k, .int c.C[i].c]=iL (pn c.C[i]):=by simp[iL,pn]
   refine⟨_, ?_,some (.int c.C[i].e),some (.tup (iL c.C[i].ss)),some (.int c.C[i].k),some (.int c.C[i].c),Fx.int,Fx.iL,Fx.int,Fx.int,rfl⟩
   rw[zd0 hi]
   unfold ckM
   left
   rw[za7 (by rw[zl];erw[i7,n9,Q2];lia)]
   left
   rw[za7 (by rw[zl];erw[i7,n9,l8,Q2];lia)]
   left
   rw[show D.int c.C[i].e::(iL c.C[i].ss++[.int c.C[i].k, .int c.C[i].c])=iL (pn c.C[i]) from ee,zkN ⟨by rw[zl,Q2,Q2];lia,by rw[z7l];exact t9⟩]
   left
   erw[z7j,zev,z7i,zhJ])
  c.C.length 0 ⟨[some c.d,some (.tup (iL c.S)),some (.tup (psD c.C)),some (.bool c.b),some (.lst (n+1+1) (iL (z5z c 0))),none,none,none,none],[some (.tup (psD c.C)),some c.d],n+1+1+1⟩ (by lia) ⟨none,none,none,none, .no, .no, .no, .no,rfl⟩
 rw[zc3,z32,z81] at e
 have hl:(z33 c).length<=700:=by rw[<-z81];exact z3s hc
 obtain⟨n1,g1,e1⟩:=z09 (mi:=zfa [(y0 4)]) (K:=zf9) (tg:= .tp [(.nm 0),(.nm 1)]) (me:=y3 (y0 0) (y0 1) z5O) (g:=gM) (sl:=fun d=>match d with| .tup [a,b]=>[some a,some b]|_=>[]) (k:=2) (items:=enI 1 (z33 c)) (its:=[some (.lst (n+1+1) (iL (z33 c)))]) (ix:=[]) (s:=⟨[some c.d,some (.tup (iL c.S)),some (.tup (psD c.C)),some (.bool c.b),some (.lst (n+1+1) (iL (z33 c))),o5,o6,o7,o8],[some c.d],n+1+1+1⟩) (σ:=[some c.d,some (.tup (iL c.S)),some (.tup (psD c.C)),some (.bool c.b),some (.lst (n+1+1) (iL (z33 c))),o5,o6,o7,o8]) (tm:=[some c.d]) (n:=n+1+1+1) rfl rfl (by rw[zl,zaq];lia) (fun i rest=>by
  rw[List.singleton_append,zex,zcY,P6 1 i]) (by rw[zaq];exact Q2 _) (by
  intro d hd
  obtain⟨j,x,_,rfl⟩:=zar hd
  refine⟨rfl,fun os ho=> ?_⟩
  match os,ho with
  |[a0,a1],_=>rfl) (by
  intro d hd tm n
  obtain⟨j,x,hj,rfl⟩:=zar hd
  refine⟨n,c9 _, ?_⟩
  erw[t7,i9]
  left
  rw[z7c (.inl ⟨by lia,by lia⟩)]
  rfl)
 rw[zcZ] at e1
 refine⟨n1+1,by lia, ?_⟩
 have e0:z1y=(Z1 (Y4 (.tp [(.nm 1),(.nm 2),(.nm 3)]) (y0 0)) (Z1 (Y4 (.nm 4) (y3 (mCB [(y0 1)] z4a) (mCB [(mIf (G9 (y0 3)) (mC (.int 1)) (mC (.int 0)))] lstM) W8)) (Z1 (z1V (Y8 (y0 2)) (.tp [(.nm 5),(.nm 6),(.nm 7),(.nm 8)]) ckM) (Y9 (y3 (mCB [(J0 (zfa [(y0 4)]) (.tp [(.nm 0),(.nm 1)]) (rt true) (y3 (y0 0) (y0 1) z5O) 2 [])] ze7) (mC (.int 997)) z49))))):=rfl
 have hS:=hc.1.2.2
 unfold G8
 rw[e0]
 unfold Cm.d
 left
 rw[zmH]
 left
 rw[z3e (by rw[zl];erw[i7,n9,Q2];lia)]
 left
 have e2:iL c.S++[D.int (bI c.b)]=iL (z5z c 0):=by simp[iL,z5z]
 rw[e2,show ∀σ tm n,Y8 (y0 2) ⟨some (.tup [.tup (iL c.S), .tup (psD c.C), .bool c.b])::some (.tup (iL c.S))::some (.tup (psD c.C))::σ,tm,n⟩= .ok z4v ⟨some (.tup [.tup (iL c.S), .tup (psD c.C), .bool c.b])::some (.tup (iL c.S))::some (.tup (psD c.C))::σ,some (.tup (psD c.C))::tm,n⟩ from fun _ _ _=>rfl]
 left
 rw[show z4v.len [some (.tup (psD c.C)),some (.tup [.tup (iL c.S), .tup (psD c.C), .bool c.b])]=c.C.length from z1E]
 unfold Cm.d at e e1
 rw[e]
 left
 rw[e1]
 left
 rw[zkM]
 left
 rw[z3Y (by decide)]
 left
 rfl
noncomputable def eT(k:Int):Str:=Str.empty++Str.ofString "=" ++num k++Str.ofString ";"
noncomputable def rP(c:Cm):List Str:=dt c.S::bT c.b::(c.C.map pT++[eT (chk c)])
noncomputable def rT(c:Cm):Str:=Txt.join (Str.ofString " ") (rP c)
theorem z8Q(c:Cm):0<=chk c/\chk c<100000:=by
 unfold chk
 have h1:=E3 (z45 1 (z33 c)).sum (show(997:Int)≠0 by decide)
 have h2:=D2 (z45 1 (z33 c)).sum (show(0:Int)<997 by decide)
 lia
theorem zfb:sg (Str.ofString "=")=[61]:=by decide+kernel
theorem zhL:(Str.ofString "=").length=1:=by rw[<-J7,zfb];rfl
theorem zhM(c:Cm):(eT (chk c)).length<=7:=by
 have:=z08 (z8Q c).1 (z8Q c).2
 unfold eT
 erw[Str.length_append,zhL,z8P]
 have:Str.empty.length=0:=rfl
 lia
theorem zey(b:Bool):sg (bT b)=[if b=true then 49 else 48]:=by cases b<;>decide+kernel
theorem zhN(b:Bool):(bT b).length=1:=by rw[<-J7,zey];rfl
theorem zau{c:Cm}(h:c.ok):(∀y∈rP c,y.length<=162)/\(rP c).length<=27:=by
 refine⟨fun y hy=> ?_, ?_⟩
 ·erw[rP,i8,i5,t9,or_false] at hy
  rcases hy with rfl|rfl|hy|rfl
  ·exact t8 (z6C h.1.1 h.1.2.2).1 (by decide)
  ·rw[zhN];decide
  ·obtain⟨p,hp,rfl⟩:=m9.mp hy
   exact zhH (h.2.2 p hp)
  ·exact t8 (zhM c) (by decide)
 ·have:=h.2.1.2
  erw[rP,i7,l8,m7,n9]
  lia
theorem zd1{c:Cm}(h:c.ok):(rT c).length<=5000/\((rP c).map (·.length)).sum+(rP c).length*(Str.ofString " ").length<=5000:=by
 have h1:=zc6 (z:=Str.ofString " ") (zau h).1
 have h2:=(zau h).2
 rw[zc7] at h1⊢
 unfold rT
 have h3:(rP c).length*(162+1)<=27*163:=M7 _ h2
 lia
noncomputable def gP:D->D
 | .tup [.int e, .tup ss, .int k, .int c]=> .str (pT ⟨e,ss.map (fun d=>match d with| .int i=>i|_=>0),k,c⟩)
 |_=> .non
theorem zlM(p:Pz):gP p.d= .str (pT p):=by
 have e: ∀s:List Int,(iL s).map (fun d:D=>match d with| .int i=>i|_=>0)=s:=fun s=>by
  induction s with
  |nil=>rfl
  |cons i s ih=>erw[iL,l6] at ih⊢;rw[ih]
 erw[Pz.d,gP]
 rw[e]
theorem zhO(C:List Pz):(psD C).map gP=(C.map pT).map D.str:=by
 unfold psD
 rw[B7,B7]
 exact C9 fun p _=>zlM p
theorem zkP(f:Nat->Option D)(ys:List Str):rpL f (ys.map D.str)=ys.map D.str:=by
 induction ys with
 |nil=>rfl
 |cons y ys ih=>erw[l6,z0V,zac] at ih⊢;rw[ih]
theorem zkQ(c:Cm)(hc:c.ok)(n:Nat): ∃n',n<=n'/\z05 [c.d] n= .ok (.str (rT c)) [c.d] n':=by
 obtain⟨n1,g1,e1⟩:=zao c.S hc.1.1 hc.1.2.2 n
 have l24:=hc.2.1.2
 obtain⟨n2,g2,e2⟩:=z09 (mi:=Y8 (y0 2)) (K:=z4v) (tg:= .nm 0) (me:=mCall J9 [(y0 0)]) (g:=gP) (sl:=fun d=>[some d]) (k:=1) (items:=psD c.C) (its:=[some (.tup (psD c.C))]) (ix:=[]) (s:=⟨[some c.d,some (.tup (iL c.S)),some (.tup (psD c.C)),some (.bool c.b),some (.lst n1 [.str (dt c.S), .str (bT c.b)])],[some (.lst n1 [.str (dt c.S), .str (bT c.b)]),some c.d],n1+1⟩) (σ:=[some c.d,some (.tup (iL c.S)),some (.tup (psD c.C)),some (.bool c.b),some (.lst n1 [.str (dt c.S), .str (bT c.b)])]) (tm:=[some (.lst n1 [.str (dt c.S), .str (bT c.b)]),some c.d]) (n:=n1+1) rfl rfl (by rw[zl,z1E];lia) (fun i rest=>rfl) rfl (by
  intro d hd
  refine⟨rfl,fun os ho=> ?_⟩
  match os,ho with
  |[a0],_=>rfl) (by
  intro d hd tm n
  obtain⟨p,hp,rfl⟩:=m9.mp hd
  obtain⟨n',h1,e⟩:=zkL p (hc.2.2 p hp) n
  refine⟨n',h1, ?_⟩
  erw[t7,i9]
  left
  rw[e,zlM]
  left)
 rw[zhO] at e2
 obtain⟨n3,g3,e3⟩:=zhK c hc (n2+1)
 have hk:=z8Q c
 have l5:=z08 hk.1 hk.2
 have l0:Str.empty.length=0:=rfl
 have ef:mFs [.inl ("=" :Str), .inr (mCall G8 [(y0 0)]), .inl (";" :Str)] Str.empty ⟨[some c.d,some (.tup (iL c.S)),some (.tup (psD c.C)),some (.bool c.b),some (.lst n1 (D.str (dt c.S):: .str (bT c.b)::(c.C.map pT).map D.str))],[some (.lst n1 (D.str (dt c.S):: .str (bT c.b)::(c.C.map pT).map D.str)),some c.d],n2+1⟩= .ok (.str (eT (chk c))) ⟨[some c.d,some (.tup (iL c.S)),some (.tup (psD c.C)),some (.bool c.b),some (.lst n1 (D.str (dt c.S):: .str (bT c.b)::(c.C.map pT).map D.str))],[some (.lst n1 (D.str (dt c.S):: .str (bT c.b)::(c.C.map pT).map D.str)),some c.d],n3⟩:=by
  rw[z6z (by rw[zl];erw[Str.length_append,zhL];lia),z6A (m:=mCall G8 [(y0 0)]) (d:= .int (chk c)) (by
   left
   rw[e3]
   left
   rfl) (ziV hk) (by rw[zl];erw[Str.length_append,zhL];lia),z6z (by rw[zl];erw[Str.length_append,zhL,z8P];lia),zcR (by rw[zl];erw[Str.length_append,zhL,z8P];lia)]
  rfl
 have hr:=zd1 hc
 refine⟨n3,by lia, ?_⟩
 have ed:c.d= .tup [.tup (iL c.S), .tup (psD c.C), .bool c.b]:=rfl
 unfold z05 z1z
 rw[ed]
 left
 rw[e1]
 left
 rw[zmI]
 left
 rw[<-ed,e2]
 left
 rw[zhI ⟨by rw[zl];erw[i7,n9,m7];lia,by rw[z2w];exact t9⟩]
 left
 erw[z7j,zev,z7i]
 rw[ef]
 left
 rw[z8I ⟨by rw[zl];erw[i7,n9,m7];lia,by simp[y4]⟩]
 left
 erw[z7j,zev,z7i]
 rw[show D.str (dt c.S):: .str (bT c.b)::((c.C.map pT).map D.str++[.str (eT (chk c))])=(rP c).map D.str by simp[rP]]
 rw[z2B (by rw[zl];lia)]
 left
 rfl
theorem z0a{x y:Str}{s:Stt}(h:x.length+y.length<=sizeLine):W8 (.str x) (.str y) s= .ok (.str (x++y)) s:=by erw[W8,if_pos h];rfl
theorem z5A{c:List Nat}: ∀{xs:List (List Nat)} {y:List Nat},xs≠[]->jn c (xs++[y])=jn c xs++(c++y)
 |[],_,h=>absurd rfl h
 |[x],y,_=>by simp[jn]
 |x::x'::xs,y,_=>by
  have:=z5A (c:=c) (xs:=x'::xs) (y:=y) (by simp)
  erw[m8,jn] at this⊢
  rw[this]
  simp
theorem zkR:sg Str.empty=[]:=rfl
theorem zc8(p:Pz):sg (pT p)=jn [58] ([num p.e,dt p.ss,num p.k,num p.c].map sg):=by
 unfold pT
 erw[K9,z8O,zkR,l6,t7,jn,n5,t5]
theorem zez(p:Pz):Txt.join (Str.ofString ":") [num p.e,dt p.ss,num p.k,num p.c]=pT p:=z0r (by rw[X3,z8O,zc8])
theorem zlN:sg (Str.ofString " =")=[32,61]:=by decide+kernel
theorem zhP(c:Cm):Txt.join (Str.ofString " ") (dt c.S::bT c.b::c.C.map pT)++Str.ofString " =" ++num (chk c)++Str.ofString ";" =rT c:=z0r (by
 unfold rT rP
 rw[K9,K9,K9,X3,X3,z4m,zlN,z6B,<-m8,<-m8,A9,D3,z5A (by simp)]
 unfold eT
 erw[K9,zfb,z6B,zkR,n5,t5,m8])
theorem z4J: ∀(k:Nat) (xs:List Int) (x:Int),(z45 k (xs++[x])).sum=(z45 k xs).sum+((k+xs.length:Nat):Int)*x
 |k,[],x=>by simp[z45]
 |k,y::xs,x=>by
  have:=z4J (k+1) xs x
  erw[m8,z45,E7,i7] at this⊢
  rw[this,show k+1+xs.length=k+(xs.length+1) by lia]
  lia
noncomputable def ckI(xs:List Int)(i:Nat):Int:=(z45 1 (xs.take i)).sum %997
theorem zkS{xs:List Int}{i:Nat}(h:i<xs.length):ckI xs (i+1)=(ckI xs i+(i:Int)*xs[i]+xs[i]) %997:=by
 unfold ckI
 rw[R7,List.getElem?_eq_getElem h,N9,z4J,C2,M8 (by lia)]
 have e:((1+i:Nat):Int)*xs[i]=(i:Int)*xs[i]+xs[i]:=by
  push_cast
  rw[Int.add_mul,Int.one_mul,Int.add_comm]
 rw[e,Int.add_assoc,Int.emod_add_emod]
theorem zkT{c:Cm}:ckI (z33 c) (z33 c).length=chk c:=by unfold ckI chk;rw[B3 (c9 _)]
theorem zkU{xs:List Int}{i:Nat}(h:i<xs.length):(iL xs).getD i .non= .int xs[i]:=by simp[iL,h]
noncomputable def wI(c:Cm)(i:Nat):List Str:=dt c.S::bT c.b::(c.C.take i).map pT
theorem zmJ{c:Cm}{i:Nat}(h:i<c.C.length):wI c (i+1)=wI c i++[pT c.C[i]]:=by
 unfold wI
 rw[R7,List.getElem?_eq_getElem h,N9,A9]
 rfl
theorem zmK{c:Cm}:wI c c.C.length=dt c.S::bT c.b::c.C.map pT:=by unfold wI;rw[B3 (c9 _)]
theorem zhQ{c:Cm}(h:c.ok){i:Nat}:(wI c i).length<=26:=by
 have:=h.2.1.2
 erw[wI,i7,m7,C2]
 lia
theorem zc9{L m:Nat}{d:D}{ys:List Str}(h:L≠m):rp (pl m d) (.lst L (ys.map D.str))= .lst L (ys.map D.str):=by rw[z4l h,zkP]
theorem zkV{b:Bool}{s:Stt}:z1g [.int (if b=true then 1 else 0)] s= .ok (.str (bT b)) s:=by
 rw[z3g (by cases b<;>decide)]
 cases b<;>rfl
noncomputable def toI:D->Int
 | .int i=>i
 |_=>0
noncomputable def toP:D->Pz
 | .tup [.int e, .tup ss, .int k, .int c]=>⟨e,ss.map toI,k,c⟩
 |_=>⟨0,[],0,0⟩
noncomputable def gC:D->D
 | .tup [.tup s, .tup ps, .bool b]=> .str (rT ⟨s.map toI,ps.map toP,b⟩)
 |_=> .non
theorem zkW:(Str.ofString "").length=0:=rfl
theorem z83: ∀s:List Int,(iL s).map toI=s
 |[]=>rfl
 |i::s=>by
  have:=z83 s
  erw[iL,l6,toI] at this⊢
  rw[this]
theorem zkX(p:Pz):toP p.d=p:=by
 obtain⟨e,ss,k,c⟩:=p
 erw[Pz.d,toP,z83]
theorem zav: ∀C:List Pz,(psD C).map toP=C
 |[]=>rfl
 |p::C=>by
  have:=zav C
  erw[psD,l6,zkX] at this⊢
  rw[this]
theorem zlO(c:Cm):gC c.d= .str (rT c):=by
 obtain⟨S,C,b⟩:=c
 erw[Cm.d,gC,z83,zav]
theorem zhR(cs:List Cm):(csD cs).map gC=(cs.map rT).map D.str:=by
 unfold csD
 rw[B7,B7]
 exact C9 fun c _=>zlO c
noncomputable def lcM:MS:=(Y4 (.nm 10) (y3 (y3 (y3 (y0 10) (y3 (y0 11) (y0 12) z5O) W8) (y0 12) W8) (mC (.int 997)) z49))
noncomputable def lrM:MS:=(Z1 (Y4 (.nm 4) (y3 (y3 (y3 (y0 4) (mCB [(y0 6)] lstM) W8) (mCB [(y0 7)] z4a) W8) (mCB [(y0 8),(y0 9)] lstM) W8))
 (z1e (z0w (y0 5) [(J8 (mC (.str (":" :Str))) [(mCB [(mCB [(y0 6)] z1g),(mCall z1L [(y0 7)]),(mCB [(y0 8)] z1g),(mCB [(y0 9)] z1g)] lstM)] z28)] z6H)))
theorem zhS(c:Cm)(hc:c.ok)(i:Nat)(hi:i<c.C.length)(Ln Lw n:Nat)(h1:Ln≠Lw)(h2:Ln<n)(h3:Lw<n)(o10 o11 o12:Option D)(x10:Fx o10)(x11:Fx o11)(x12:Fx o12): ∃Ln' n',Ln'≠Lw/\Ln'<n'/\n<=n'/\lrM ⟨[some c.d,some (.tup (iL c.S)),some (.tup (psD c.C)),some (.bool c.b),some (.lst Ln (iL (z5z c i))),some (.lst Lw ((wI c i).map D.str)),some (.int c.C[i].e),some (.tup (iL c.C[i].ss)),some (.int c.C[i].k),some (.int c.C[i].c),o10,o11,o12],[some (.tup (psD c.C)),some c.d],n⟩= .nx ⟨[some c.d,some (.tup (iL c.S)),some (.tup (psD c.C)),some (.bool c.b),some (.lst Ln' (iL (z5z c (i+1)))),some (.lst Lw ((wI c (i+1)).map D.str)),some (.int c.C[i].e),some (.tup (iL c.C[i].ss)),some (.int c.C[i].k),some (.int c.C[i].c),o10,o11,o12],[some (.tup (psD c.C)),some c.d],n'⟩:=by
 have hp:=hc.2.2 _ (A4 hi)
 have l1:=z3s hc (i:=i)
 have l2:=zat hp
 have l3:=hp.2.1.2.2
 have l4:=zhQ hc (i:=i)
 have l5:=(z6C hp.2.1.1 hp.2.1.2.2).1
 have k1:=z08 hp.1.1 hp.1.2
 have k3:=z08 hp.2.2.1.1 hp.2.2.1.2
 have k4:=z08 hp.2.2.2.1 hp.2.2.2.2
 have ed:c.d= .tup [.tup (iL c.S), .tup (psD c.C), .bool c.b]:=rfl
 obtain⟨n1,g1,e1⟩:=zap c.C[i].ss hp.2.1.1 hp.2.1.2.2 (n+1+1+1+1+1+1)
 refine⟨n+1+1+1+1+1,n1+1,by lia,by lia,by lia, ?_⟩
 rw[zd0 hi,zmJ hi]
 unfold lrM
 left
 rw[z3e (by rw[zl];erw[i7,n9,Q2];lia)]
 left
 rw[z3e (by rw[zl];erw[i7,l8,n9,Q2];lia)]
 left
 rw[z3e (by rw[zl];erw[i7,l8,n9,Q2];lia)]
 left
 rw[show iL (z5z c i)++[D.int c.C[i].e]++iL c.C[i].ss++[.int c.C[i].k, .int c.C[i].c]=iL (z5z c i++pn c.C[i]) by simp[iL,pn]]
 rw[z3g (z1D hp.1.1 hp.1.2)]
 left
 rw[e1]
 left
 rw[z3g (z1D hp.2.2.1.1 hp.2.2.1.2)]
 left
 rw[z3g (z1D hp.2.2.2.1 hp.2.2.2.2)]
 left
 rw[show[D.str (num c.C[i].e), .str (dt c.C[i].ss), .str (num c.C[i].k), .str (num c.C[i].c)]=[num c.C[i].e,dt c.C[i].ss,num c.C[i].k,num c.C[i].c].map D.str from rfl,z2B (by
  rw[zl]
  erw[l6,t7,E7,List.sum_nil,i7,n9,z4n]
  lia),zez]
 left
 rw[z8I ⟨by rw[zl,m7];lia,by simp[y4]⟩]
 left
 erw[z7j,zev,z7i,x10 _,x11 _,x12 _,zkO (show n+1+1+1+1+1≠Lw by lia)]
 rw[A9]
 rfl
theorem zhT(c:Cm)(hc:c.ok)(n:Nat): ∃n',n<=n'/\z1B [c.d] n= .ok (.str (rT c)) [c.d] n':=by
 have hS:=hc.1.2.2
 obtain⟨n1,g1,e1⟩:=zap c.S hc.1.1 hc.1.2.2 (n+1+1+1)
 obtain⟨s',e,Ln,n2,o6,o7,o8,o9,h1,h2,h3,y6,y7,y8,y9,rfl⟩:=z31 (K:=z4v) (g:= .tp [(.nm 6),(.nm 7),(.nm 8),(.nm 9)]) (b:=lrM) (item:=fun i=>(psD c.C).getD i .non) (N:=c.C.length) (P:=fun i s=> ∃(Ln n2:Nat) (o6 o7 o8 o9:Option D),Ln≠n1/\Ln<n2/\n1+1<=n2/\Fx o6/\Fx o7/\Fx o8/\Fx o9/\s=⟨[some c.d,some (.tup (iL c.S)),some (.tup (psD c.C)),some (.bool c.b),some (.lst Ln (iL (z5z c i))),some (.lst n1 ((wI c i).map D.str)),o6,o7,o8,o9,none,none,none],[some (.tup (psD c.C)),some c.d],n2⟩)
  (by rintro i s ⟨_,_,_,_,_,_,_,_,_,_,_,_,_,rfl⟩;rw[zcP,z1E])
  (by
   rintro i hi s ⟨Ln,n2,o6,o7,o8,o9,h1,h2,h3,y6,y7,y8,y9,rfl⟩
   rw[zhw hi]
   refine⟨_,rfl, ?_⟩
   obtain⟨Ln',n',g1,g2,g3,e⟩:=zhS c hc i hi Ln n1 n2 h1 h2 (by lia) none none none .no .no .no
   exact⟨_,e,Ln',n',_,_,_,_,g1,g2,by lia,Fx.int,Fx.iL,Fx.int,Fx.int,rfl⟩)
  c.C.length 0 ⟨[some c.d,some (.tup (iL c.S)),some (.tup (psD c.C)),some (.bool c.b),some (.lst (n+1+1) (iL (z5z c 0))),some (.lst n1 ((wI c 0).map D.str)),none,none,none,none,none,none,none],[some (.tup (psD c.C)),some c.d],n1+1⟩ (by lia) ⟨n+1+1,n1+1,none,none,none,none,by lia,by lia,c9 _, .no, .no, .no, .no,rfl⟩
 rw[zc3,z32,z81,zmK] at e
 have hl:(z33 c).length<=700:=by rw[<-z81];exact z3s hc
 obtain⟨s',f,o11,o12,y11,y12,rfl⟩:=z31 (K:=zbE) (g:= .tp [(.nm 11),(.nm 12)]) (b:=lcM) (item:=fun i=> .tup [.int (i:Nat),(iL (z33 c)).getD i .non]) (N:=(z33 c).length) (P:=fun i s=> ∃(o11 o12:Option D),Fx o11/\Fx o12/\s=⟨[some c.d,some (.tup (iL c.S)),some (.tup (psD c.C)),some (.bool c.b),some (.lst Ln (iL (z33 c))),some (.lst n1 ((dt c.S::bT c.b::c.C.map pT).map D.str)),o6,o7,o8,o9,some (.int (ckI (z33 c) i)),o11,o12],[some (.lst Ln (iL (z33 c))),some c.d],n2⟩)
  (by rintro i s ⟨_,_,_,_,rfl⟩;rw[zhv,Q2])
  (by
   rintro i hi s ⟨o11,o12,y11,y12,rfl⟩
   rw[zkU hi]
   refine⟨_,rfl, ?_⟩
   refine⟨_, ?_,some (.int (i:Nat)),some (.int (z33 c)[i]),Fx.int,Fx.int,rfl⟩
   rw[zkS hi]
   unfold lcM
   left
   rw[z7c (.inl ⟨by lia,by lia⟩)]
   left
   rw[z3Y (by decide)]
   left)
  (z33 c).length 0 ⟨[some c.d,some (.tup (iL c.S)),some (.tup (psD c.C)),some (.bool c.b),some (.lst Ln (iL (z33 c))),some (.lst n1 ((dt c.S::bT c.b::c.C.map pT).map D.str)),o6,o7,o8,o9,some (.int 0),none,none],[some (.lst Ln (iL (z33 c))),some c.d],n2⟩ (by lia) ⟨none,none, .no, .no,rfl⟩
 rw[zkH,z32,zkT] at f
 have e0:z7b=(Z1 (Y4 (.tp [(.nm 1),(.nm 2),(.nm 3)]) (y0 0)) (Z1 (Y4 (.nm 4) (y3 (mCB [(y0 1)] z4a) (mCB [(mCB [(y0 3)] zbt)] lstM) W8)) (Z1 (Y4 (.nm 5) (mCB [(mCall z1L [(y0 1)]),(mCB [(mCB [(y0 3)] zbt)] z1g)] lstM)) (Z1 (z1V (Y8 (y0 2)) (.tp [(.nm 6),(.nm 7),(.nm 8),(.nm 9)]) lrM) (Z1 (Y4 (.nm 10) (mC (.int 0))) (Z1 (z1V (zf5 [(y0 4)]) (.tp [(.nm 11),(.nm 12)]) lcM) (Y9 (y3 (y3 (y3 (J8 (mC (.str (" " :Str))) [(y0 5)] z28) (mC (.str (" =" :Str))) W8) (mCB [(y0 10)] z1g) W8) (mC (.str (";" :Str))) W8)))))))):=rfl
 have hk:=z8Q c
 have l5:=z08 hk.1 hk.2
 have hj:=zc6 (z:=Str.ofString " ") (ys:=dt c.S::bT c.b::c.C.map pT) (B:=162) fun y hy=>(zau hc).1 y (by
  erw[rP,i8,i5] at hy⊢
  rcases hy with h|h|h
  ·exact .inl h
  ·exact .inr (.inl h)
  ·exact .inr (.inr (.inl h)))
 have hm:(dt c.S::bT c.b::c.C.map pT).length*(162+(Str.ofString " ").length)<=26*163:=by
  rw[zc7]
  refine M7 _ ?_
  have:=hc.2.1.2
  erw[i7,m7]
  lia
 have lse:(Str.ofString " =").length=2:=by rw[<-J7,zlN];rfl
 refine⟨n2,by lia, ?_⟩
 have ed:c.d= .tup [.tup (iL c.S), .tup (psD c.C), .bool c.b]:=rfl
 unfold z1B
 rw[e0,ed]
 left
 rw[z3e (by rw[zl];erw[i7,n9,Q2];lia)]
 left
 rw[e1]
 left
 rw[zkV]
 left
 rw[show ∀σ tm n,Y8 (y0 2) ⟨some (.tup [.tup (iL c.S), .tup (psD c.C), .bool c.b])::some (.tup (iL c.S))::some (.tup (psD c.C))::σ,tm,n⟩= .ok z4v ⟨some (.tup [.tup (iL c.S), .tup (psD c.C), .bool c.b])::some (.tup (iL c.S))::some (.tup (psD c.C))::σ,some (.tup (psD c.C))::tm,n⟩ from fun _ _ _=>rfl]
 left
 rw[show z4v.len [some (.tup (psD c.C)),some (.tup [.tup (iL c.S), .tup (psD c.C), .bool c.b])]=c.C.length from z1E,show iL c.S++[D.int (if c.b=true then 1 else 0)]=iL (z5z c 0) by simp[iL,z5z,bI],show[D.str (dt c.S), .str (bT c.b)]=(wI c 0).map D.str from rfl,<-ed,e]
 left
 rw[show ∀σ tm n a0 a1 a2 a3 l,zf5 [y0 4] ⟨a0::a1::a2::a3::some (.lst l (iL (z33 c)))::σ,tm,n⟩= .ok zbE ⟨a0::a1::a2::a3::some (.lst l (iL (z33 c)))::σ,some (.lst l (iL (z33 c)))::tm,n⟩ from fun _ _ _ _ _ _ _ _=>rfl]
 left
 rw[show zbE.len [some (.lst Ln (iL (z33 c))),some c.d]=(z33 c).length from Q2 _,show D.str (dt c.S):: .str (bT c.b)::(c.C.map pT).map D.str=(dt c.S::bT c.b::c.C.map pT).map D.str from rfl,f]
 left
 rw[show D.str (dt c.S):: .str (bT c.b)::(c.C.map pT).map D.str=(dt c.S::bT c.b::c.C.map pT).map D.str from rfl,z2B (by rw[zl];lia)]
 left
 rw[z0a (by rw[zl,lse];lia)]
 left
 rw[z3g (z1D hk.1 hk.2)]
 left
 rw[z0a (by rw[zl];erw[Str.length_append,lse];lia)]
 left
 rw[z0a (by rw[zl];erw[Str.length_append,lse,z8P];lia),zhP]
 left
mutual
noncomputable def Rw:D->Bool
 | .non=>true
 | .bool _=>true
 | .int _=>true
 | .tup ds=>decide (ds.length<=1000002)&&RwL ds
 |_=>false
noncomputable def RwL:List D->Bool
 |[]=>true
 |d::ds=>Rw d&&RwL ds
end
theorem z5B: ∀{ds:List D},RwL ds=true↔∀d∈ds,Rw d=true
 |[]=>by simp[RwL]
 |d::ds=>by rw[RwL,i6,z5B (ds:=ds),A8]
theorem z46{ds:List D}(h:Rw (.tup ds)=true):ds.length<=1000002/\∀d∈ds,Rw d=true:=by
 erw[Rw,i6,decide_eq_true_eq,z5B] at h;exact h
mutual
theorem z4o: ∀t:D,Rw t=true->Gd t
 | .non,_=>⟨rfl,rfl⟩
 | .bool _,_=>⟨rfl,rfl⟩
 | .int _,_=>⟨rfl,rfl⟩
 | .tup ds,h=>Gd.tup.mpr (RwL_gd ds (z5B.mpr (z46 h).2))
theorem RwL_gd: ∀ds:List D,RwL ds=true->GdL ds
 |[],_=>⟨rfl,rfl⟩
 |d::ds,h=>by rw[RwL,i6] at h;exact GdL.cons.mpr ⟨z4o d h.1,RwL_gd ds h.2⟩
end
theorem zmL{ds:List D}(h:ds.length=4): ∃a b c d,ds=[a,b,c,d]:=by
 rcases ds with _|⟨a,_|⟨b,_|⟨c,_|⟨d,_|⟨e,r⟩⟩⟩⟩⟩<;>simp at h
 exact⟨a,b,c,d,rfl⟩
theorem zmM{ds:List D}(h:ds.length=3): ∃a b c,ds=[a,b,c]:=by
 rcases ds with _|⟨a,_|⟨b,_|⟨c,_|⟨e,r⟩⟩⟩⟩<;>simp at h
 exact⟨a,b,c,rfl⟩
noncomputable def z3h:D->Bool
 | .tup [a, .tup ss,c,d]=>[a,c,d].all isInt&&ss.all isInt
 |_=>false
theorem zca(t:D)(m:Nat)(h:Rw t=true): ∃m',m<=m'/\Q8 [t] m= .ok (.bool (z3h t)) [t] m':=by
 unfold Q8 G5
 left
 cases t with
 |tup ds=>
  left
  by_cases hl:ds.length=4
  ·obtain⟨a,b,c,d,rfl⟩:=zmL hl
   obtain⟨_,hm⟩:=z46 h
   have gb:Gd b:=z4o b (hm b (by simp))
   walk_at "mh"
   cases b with
   |tup ss=>
    have hs:=(z46 (hm (.tup ss) (by simp))).1
    have hsm:=(z46 (hm (.tup ss) (by simp))).2
    have ha:=z4o a (hm a (by simp))
    have hc:=z4o c (hm c (by simp))
    have hd:=z4o d (hm d (by simp))
    have es: ∀x∈[a,c,d]++ss,plain x=true:=by
     intro x hx
     rcases i5.mp hx with hx|hx
     ·erw[i8,t9,or_false] at hx
      rcases hx with rfl|rfl|rfl
      ·exact ha.1
      ·exact hc.1
      ·exact hd.1
     ·exact(z4o x (hsm x hx)).1
    clear hm h ha hc hd gb hsm
    obtain⟨n',hn,hq⟩:=z6r (mc:=y3 (mCB [y3 (y0 0) (mC (.int 0)) ixD,y3 (y0 0) (mC (.int 2)) ixD,y3 (y0 0) (mC (.int 3)) ixD] z1U) (y3 (y0 0) (mC (.int 1)) ixD) W8) (me:=mCall J6 [y0 0]) (g:=fun d=> .bool (isInt d)) (ds:=[a,c,d]++ss) (ix:=[]) (s:=⟨[some (.tup [a, .tup ss,c,d])],[some (.tup [a, .tup ss,c,d])],m⟩) (s1:=⟨[some (.tup [a, .tup ss,c,d])],[some (.tup [a, .tup ss,c,d])],m⟩) (by
     left
     rw[za7 (by rw[zl];erw[i7,n9];lia)]
     try (left)) (by rw[zl];erw[l8,i7,n9];lia) (by
     intro x hx tm n
     refine⟨n,c9 _, ?_⟩
     show mCall _ _ ⟨[some x],tm,n⟩=_
     left
     rw[zcK x n (es x hx)]
     left)
    refine⟨n'+1,by simp only at hn;lia, ?_⟩
    left
    rw[hq]
    left
    have eb:=z3X ([a,c,d]++ss) isInt
    erw[A9,l6,t7,m8,n5] at eb
    rw[zem eb]
    left
    erw[P8,z3h,O9,S4,Function.comp_def,id,O6,Bool.and_assoc]
   |dct _ _ _=>simp[Gd,Mi.plain] at gb
   |obj _ _ _ _=>simp[Gd,Mi.plain] at gb
   |exc _=>simp[Gd,Mi.plain] at gb
   |fn _=>simp[Gd,Mi.plain] at gb
   |fdc _ _=>simp[Gd,Mi.plain] at gb
   |_=>refine⟨m,c9 _, ?_⟩;left;rfl
  ·have e:(((ds.length:Nat):Int)==4)=false:=by simp;lia
   refine⟨m,c9 _, ?_⟩
   erw[e]
   left
   congr 2
   rcases ds with _|⟨a,_|⟨b,_|⟨c,_|⟨d,_|⟨e,r⟩⟩⟩⟩⟩<;>first|rfl|(cases b<;>rfl)|(simp at hl)
 |dct _ _ _=>simp[Rw] at h
 |obj _ _ _ _=>simp[Rw] at h
 |exc _=>simp[Rw] at h
 |fn _=>simp[Rw] at h
 |fdc _ _=>simp[Rw] at h
 |_=>refine⟨m,c9 _, ?_⟩;left;rfl
noncomputable def U9(b l:Int):D->Bool
 | .tup [a,s,c,d]=>inR (b+1) l a&&(rowB 1 24 1039 s&&(inR 0 8 c&&inR 0 99999 d))
 |_=>false
theorem z5C{lo hi:Int}{t:D}(h:inR lo hi t=true): ∃i:Int,t= .int i:=by
 cases t<;>first|(simp[inR] at h;done)|exact⟨_,rfl⟩
theorem z5D{lo hi top:Int}{t:D}(h:rowB lo hi top t=true): ∃ss,t= .tup ss/\ss.all isInt=true:=by
 cases t<;>first|(simp[rowB] at h;done)|skip
 rename_i ss
 refine⟨ss,rfl, ?_⟩
 erw[rowB,i6,A6] at h⊢
 intro x hx
 obtain⟨i,rfl⟩:=z5C (h.2 x hx)
 rfl
theorem z2o{b l:Int}{t:D}(h:U9 b l t=true):z3h t=true:=by
 unfold U9 at h
 split at h
 ·erw[i6] at h
  obtain⟨h1,h2,h3,h4⟩:=h
  obtain⟨a,rfl⟩:=z5C h1
  obtain⟨ss,rfl,q⟩:=z5D h2
  obtain⟨c,rfl⟩:=z5C h3
  obtain⟨d,rfl⟩:=z5C h4
  erw[z3h,q,O9,S4,isInt,O6]
 ·cases h
theorem z2p{t:D}(h:z3h t=true): ∃a ss c d,t= .tup [.int a, .tup ss, .int c, .int d]:=by
 unfold z3h at h
 split at h
 ·rename_i a ss c d
  erw[O9,S4,i6] at h
  obtain⟨⟨h1,h2,h3,_⟩,_⟩:=h
  cases a<;>simp[isInt] at h1
  cases c<;>simp[isInt] at h2
  cases d<;>simp[isInt] at h3
  exact⟨_,_,_,_,rfl⟩
 ·cases h
theorem zcb(c:D)(m:Nat)(hc:Gd c): ∃m',m<=m'/\j6 [c] m= .ok (.bool (rowB 1 24 1039 c)) [c] m':=by
 obtain⟨m',h1,h2⟩:=zcL c 1 24 1039 m hc.1 (by decide)
 refine⟨m',h1, ?_⟩
 unfold j6 U5
 left
 rw[h2]
 left
theorem zaw(t:D)(b l:Int)(m:Nat)(h:Rw t=true): ∃m',m<=m'/\X0 [t, .int b, .int l] m= .ok (.bool (U9 b l t)) [t, .int b, .int l] m':=by
 unfold X0 z1x
 left
 obtain⟨m1,g1,e1⟩:=zca t m h
 rw[e1]
 cases hk:z3h t with
 |false=>
  refine⟨m1,g1, ?_⟩
  left
  have:U9 b l t=false:=by
   cases q:U9 b l t with
   |false=>rfl
   |true=>rw[z2o q] at hk;cases hk
  rw[this]
 |true=>
  obtain⟨a,ss,c,d,rfl⟩:=z2p hk
  left
  rw[z7V (.int a) (b+1) l m1 rfl]
  left
  erw[U9]
  cases inR (b+1) l (.int a) with
  |false=>exact⟨m1,g1,by left⟩
  |true=>
   left
   obtain⟨m2,g2,e2⟩:=zcb (.tup ss) m1 (z4o _ ((z46 h).2 (.tup ss) (by simp)))
   rw[e2]
   left
   cases rowB 1 24 1039 (.tup ss) with
   |false=>exact⟨m2,by lia,by left⟩
   |true=>
    refine⟨m2,by lia, ?_⟩
    left
    rw[z7V (.int c) 0 8 m2 rfl]
    left
    cases inR 0 8 (.int c) with
    |false=>left
    |true=>
     left
     rw[z7V (.int d) 0 99999 m2 rfl]
     left
noncomputable def zkY:D->Int
 | .tup (.int e::_)=>e
 |_=>0
noncomputable def z5E(l:Int):Int->List D->Bool
 |a,[]=>a==l
 |a,p::r=>U9 a l p&&z5E l (zkY p) r
theorem zax{a l:Int}{p:D}(h:U9 a l p=true): ∃(e:Int) (r:List D),p= .tup (.int e::r):=by
 obtain⟨a,ss,c,d,rfl⟩:=z2p (z2o h)
 exact⟨_,_,rfl⟩
theorem zay{ps:List D}{i:Nat}{tm:List (Option D)}:z4v.at' i (some (.tup ps)::tm)=some ps[i]? :=rfl
theorem zhU{ps:List D}{i:Nat}(h:i<ps.length):ps.drop i=ps[i]::ps.drop (i+1):=B2 h
noncomputable def zeA:MS:=Z1 (sIf (z0t (G9 (mCall X0 [y0 3,y0 2,y0 1]))) (Y9 (mC (.bool false))) sNx) (Y4 (.nm 2) (y3 (y0 3) (mC (.int 0)) ixD))
theorem zeB(ps:List D)(l:Int)(h: ∀p∈ps,Rw p=true): ∀(f i:Nat) (a:Int) (o:Option D) (n:Nat),i+f=ps.length->∃n',n<=n'/\((forGo z4v (.nm 3) zeA f i ⟨[some (.tup ps),some (.int l),some (.int a),o],[some (.tup ps),some (.tup ps),some (.int l)],n⟩).sq (Y9 (y3 (y0 2) (y0 1) eqD))).fin= .ok (.bool (z5E l a (ps.drop i))) [.tup ps, .int l] n':=by
 intro f
 induction f with
 |zero=>
  intro i a o n hi
  refine⟨n,c9 _, ?_⟩
  unfold forGo
  erw[zay,List.getElem?_eq_none (show ps.length<=i by lia),zc3,z32,C6 (show ps.length<=i by lia),z5E]
  left
 |succ f ih=>
  intro i a o n hi
  have hl:i<ps.length:=by lia
  obtain⟨m1,g1,e1⟩:=zaw ps[i] a l n (h _ (A4 hl))
  unfold forGo
  erw[zay,List.getElem?_eq_getElem hl,asg,B5,A7]
  rw[zhU hl]
  unfold zeA
  left
  rw[e1]
  erw[z5E]
  cases hp:U9 a l ps[i] with
  |false=>
   refine⟨m1,g1, ?_⟩
   left
   erw[zc3,z32]
   left
  |true=>
   obtain⟨e,r,hr⟩:=zax hp
   obtain⟨n',g2,e2⟩:=ih (i+1) e (some ps[i]) m1 (by lia)
   refine⟨n',by lia, ?_⟩
   have hend:zkY ps[i]=e:=by rw[hr];rfl
   left
   rw[hend,<-e2]
   rw[hr]
   left
   rw[<-hr]
   rfl
theorem zeC(ps:List D)(l:Int)(m:Nat)(h: ∀p∈ps,Rw p=true): ∃m',m<=m'/\z1K [.tup ps, .int l] m= .ok (.bool (z5E l 0 ps)) [.tup ps, .int l] m':=by
 obtain⟨n',g,e⟩:=zeB ps l h ps.length 0 0 none m (by lia)
 refine⟨n',g, ?_⟩
 unfold z1K
 have e0:z2W=Z1 (Y4 (.nm 2) (mC (.int 0))) (Z1 (z1V (Y8 (y0 0)) (.nm 3) zeA) (Y9 (y3 (y0 2) (y0 1) eqD))):=rfl
 rw[e0]
 left
 exact e
noncomputable def zcc:D->Int
 | .tup ss=>ss.length
 |_=>0
noncomputable def V0:D->Bool
 | .tup [s, .tup ps, .bool _]=>rowB 1 24 39 s&&z5E (zcc s) 0 ps
 |_=>false
theorem zcd{lo hi top:Int}{t:D}(h:rowB lo hi top t=true): ∃ss,t= .tup ss:=by
 obtain⟨ss,rfl,_⟩:=z5D h;exact⟨ss,rfl⟩
theorem zkZ{w:D}(h: ∀b,w≠ .bool b)(s p:D):V0 (.tup [s,p,w])=false:=by
 cases p<;>cases w<;>first|rfl|exact absurd rfl (h _)
theorem ntup{p:D}(h: ∀b,p≠ .tup b)(s w:D):V0 (.tup [s,p,w])=false:=by
 cases p<;>first|rfl|exact absurd rfl (h _)
theorem zmN{s:D}(h:rowB 1 24 39 s=false)(p w:D):V0 (.tup [s,p,w])=false:=by
 cases p<;>cases w<;>first|rfl|(erw[V0,h,B9])
theorem zhV(t:D)(m:Nat)(h:Rw t=true): ∃m',m<=m'/\X9 [t] m= .ok (.bool (V0 t)) [t] m':=by
 unfold X9 z0N
 left
 cases t with
 |tup ds=>
  left
  by_cases hl:ds.length=3
  ·obtain⟨s,p,w,rfl⟩:=zmM hl
   obtain⟨_,hm⟩:=z46 h
   have gs:=z4o s (hm s (by simp))
   have gp:=z4o p (hm p (by simp))
   have gw:=z4o w (hm w (by simp))
   have hp:=hm p (by simp)
   clear hm h
   walk_at "mh"
   obtain⟨m1,g1,e1⟩:=zcL s 1 24 39 m gs.1 (by decide)
   rw[e1]
   cases hr:rowB 1 24 39 s with
   |false=>
    refine⟨m1,g1, ?_⟩
    left
    rw[zmN hr]
   |true=>
    left
    obtain⟨ss,rfl⟩:=zcd hr
    cases w with
    |bool b=>
     left
     cases p with
     |tup ps=>
      left
      obtain⟨m2,g2,e2⟩:=zeC ps ss.length m1 (z46 hp).2
      refine⟨m2,by lia, ?_⟩
      rw[e2]
      left
      erw[V0,hr,zcc,A5]
     |dct _ _ _=>simp[Gd,Mi.plain] at gp
     |obj _ _ _ _=>simp[Gd,Mi.plain] at gp
     |exc _=>simp[Gd,Mi.plain] at gp
     |fn _=>simp[Gd,Mi.plain] at gp
     |fdc _ _=>simp[Gd,Mi.plain] at gp
     |_=>refine⟨m1,g1, ?_⟩;left;rw[ntup (by intro b;simp)]
    |dct _ _ _=>simp[Gd,Mi.plain] at gw
    |obj _ _ _ _=>simp[Gd,Mi.plain] at gw
    |exc _=>simp[Gd,Mi.plain] at gw
    |fn _=>simp[Gd,Mi.plain] at gw
    |fdc _ _=>simp[Gd,Mi.plain] at gw
    |_=>refine⟨m1,g1, ?_⟩;left;rw[zkZ (by intro b;simp)]
  ·have e:(((ds.length:Nat):Int)==3)=false:=by simp;lia
   refine⟨m,c9 _, ?_⟩
   erw[e]
   left
   congr 2
   rcases ds with _|⟨a,_|⟨b,_|⟨c,_|⟨d,r⟩⟩⟩⟩<;>first|rfl|(simp at hl;done)|(cases b<;>rfl)|(cases b<;>cases c<;>rfl)
 |dct _ _ _=>simp[Rw] at h
 |obj _ _ _ _=>simp[Rw] at h
 |exc _=>simp[Rw] at h
 |fn _=>simp[Rw] at h
 |fdc _ _=>simp[Rw] at h
 |_=>refine⟨m,c9 _, ?_⟩;left;rfl
noncomputable def bP(c:Cm):List Str:=dt c.S::bT c.b::(c.C.map pT++[Str.ofString "=" ++num (chk c)])
noncomputable def bo(c:Cm):Str:=Txt.join (Str.ofString " ") (bP c)
theorem z84{c:List Nat}{x:Nat}: ∀{xs:List (List Nat)},x∈jn c xs->x∈c\/∃y∈xs,x∈y
 |[],h=>nomatch h
 |[y],h=> .inr ⟨y,by simp,h⟩
 |y::z::r,h=>by
  erw[jn,i5] at h
  rcases h with h|h|h
  ·exact .inr ⟨y,by simp,h⟩
  ·exact .inl h
  ·rcases z84 h with h|⟨w,hw,h⟩
   ·exact .inl h
   ·exact .inr ⟨w,i4 _ hw,h⟩
theorem zeD(s:List Int):sg (dt s)=jn [46] ((s.map num).map sg):=by unfold dt;rw[X3,zan]
theorem z7m{s:List Int}(h:Nm s){c:Nat}(hc:c<48\/57<c)(h46:c≠46):c∉sg (dt s):=fun q=>by
 rw[zeD] at q
 rcases z84 q with q|⟨y,hy,q⟩
 ·exact h46 (by simpa using q)
 ·rw[B7] at hy
  obtain⟨i,hi,rfl⟩:=m9.mp hy
  exact k7 (h i hi).1 hc q
theorem z85{s:List Int}(h:Nm s)(hn:s≠[]):Txt.split (dt s) (Str.ofString ".")=s.map num:=by
 rw[(z8N 46 _ zan).1]
 refine z3r (by simpa using hn) (fun y hy=> ?_) (zeD s)
 obtain⟨i,hi,rfl⟩:=m9.mp hy
 exact k7 (h i hi).1 (by decide)
theorem zaz{s:List Int}(h:Nm s):(s.map num).map z02=iL s:=by
 rw[B7]
 exact C9 fun i hi=>z2A (h i hi).1 (h i hi).2
theorem zd2: ∀s:List Int,(iL s).any z7k=false
 |[]=>rfl
 |i::s=>by
  have:=zd2 s
  erw[iL,l6,L5,z7k] at this⊢
  rw[this];rfl
theorem zaA{s:List Int}(h:Nm s)(hn:s≠[]):z1G (dt s)= .tup (iL s):=by
 unfold z1G
 rw[z85 h hn,zaz h,zd2]
 rfl
theorem z2C{α:Type}{s:List α}(h:1<=s.length):s≠[]:=fun e=>by rw[e] at h;simp at h
theorem z86{p:Pz}(h:p.ok):Txt.split (pT p) (Str.ofString ":")=[num p.e,dt p.ss,num p.k,num p.c]:=by
 rw[(z8N 58 _ z8O).1]
 refine z3r (by simp) (fun y hy=> ?_) (zc8 p)
 erw[i8,t9,or_false] at hy
 rcases hy with rfl|rfl|rfl|rfl
 ·exact k7 h.1.1 (by decide)
 ·exact z7m h.2.1.1 (by decide) (by decide)
 ·exact k7 h.2.2.1.1 (by decide)
 ·exact k7 h.2.2.2.1 (by decide)
theorem zeE{p:Pz}(h:p.ok):z0s (pT p)=p.d:=by
 unfold z0s
 rw[z86 h]
 dsimp only
 rw[z2A h.1.1 h.1.2,zaA h.2.1.1 (z2C h.2.1.2.1),z2A h.2.2.1.1 h.2.2.1.2,z2A h.2.2.2.1 h.2.2.2.2]
 rfl
theorem zeF{p:Pz}(h:p.ok){c:Nat}(hc:c<48\/57<c)(h46:c≠46)(h58:c≠58):c∉sg (pT p):=fun q=>by
 rw[zc8] at q
 rcases z84 q with q|⟨y,hy,q⟩
 ·exact h58 (by simpa using q)
 ·erw[l6,t7,i8,t9,or_false] at hy
  rcases hy with rfl|rfl|rfl|rfl
  ·exact k7 h.1.1 hc q
  ·exact z7m h.2.1.1 hc h46 q
  ·exact k7 h.2.2.1.1 hc q
  ·exact k7 h.2.2.2.1 hc q
theorem zeG{x:Cm}(h:x.ok){c:Nat}(hc:c<48\/57<c)(h46:c≠46)(h58:c≠58)(h61:c≠61): ∀y∈bP x,c∉sg y:=fun y hy=>by
 erw[bP,i8,i5,t9,or_false] at hy
 rcases hy with rfl|rfl|hy|rfl
 ·exact z7m h.1.1 hc h46
 ·rw[zey]
  intro q
  rw[B0] at q
  split at q<;>lia
 ·obtain⟨p,hp,rfl⟩:=m9.mp hy
  exact zeF (h.2.2 p hp) hc h46 h58
 ·rw[K9,zfb]
  intro q
  rcases i5.mp q with q|q
  ·exact h61 (by simpa using q)
  ·exact k7 (z8Q x).1 hc q
theorem z87{c:Cm}(h:c.ok):Txt.split (bo c) (Str.ofString " ")=bP c:=by
 rw[(z8N 32 _ z4m).1]
 exact z3r (by simp[bP]) (zeG h (by decide) (by decide) (by decide) (by decide)) (by unfold bo;rw[X3,z4m])
theorem zaB(c:Cm):bo c++Str.ofString ";" =rT c:=z0r (by
 unfold bo rT bP rP
 rw[K9,X3,X3,z4m,z6B,<-m8,<-m8,<-m8,<-m8,A9,A9,D3,D3,z5A (by simp),z5A (by simp)]
 unfold eT
 erw[K9,zfb,z6B,zkR,n5,t5,m8])
theorem zaC{α:Type}{a b x:α}{l:List α}:z1i (a::b::(l++[x])) (some 2) (some (-1))=l:=by
 have h1:HT.sIx (a::b::(l++[x])).length 0 (some 2)=2:=by
  rw[show(2:Int)=((2:Nat):Int) from rfl,HT.sIx_nat]
  simp
 have h2:HT.sIx (a::b::(l++[x])).length (a::b::(l++[x])).length (some (-1))=l.length+2:=by
  show(if(-1:Int)<0 then((-1:Int)+((a::b::(l++[x])).length:Int)).toNat else min (-1:Int).toNat (a::b::(l++[x])).length)=_
  rw[if_pos (by decide)]
  erw[i7,l8,n9]
  lia
 unfold z1i
 rw[h1,h2]
 simp
theorem zhW(b:Bool):(bT b==Str.ofString "1")=b:=by cases b<;>decide+kernel
theorem zhX{k:Nat}{s:List Int}(h:s.length<=24):Tr (.tup (iL s))=true/\(er (.tup (iL s))).depth<=k+1:=z7W (by simp[iL];lia) fun e he=>by
 obtain⟨i,_,rfl⟩:=m9.mp he;exact z7X
theorem zce{c:Cm}(h:c.ok):Tr c.d=true/\(er c.d).depth<=4:=z7W (by simp) (A8.mpr ⟨zhX h.1.2.2,A8.mpr ⟨z7W (by rw[z1E];have:=h.2.1.2;lia) (fun e he=>by
 obtain⟨p,hp,rfl⟩:=m9.mp he
 exact z7W (by simp) (A8.mpr ⟨z7X,A8.mpr ⟨zhX (h.2.2 p hp).2.1.2.2,A8.mpr ⟨z7X,A8.mpr ⟨z7X,fun _ h=>nomatch h⟩⟩⟩⟩)),A8.mpr ⟨zet,fun _ h=>nomatch h⟩⟩⟩)
theorem z7n(q:Cm)(h:q.ok):y4 q.d=[]:=zai _ (zce h).1
noncomputable def Good(c:Cm):Prop:=c.ok/\V0 c.d=true
noncomputable def rPd:D->D
 | .str x=>z0s x
 |_=> .non
theorem zhY:sg (Str.ofString "")=[]:=rfl
theorem zcf{α:Type}{x:α}{l:List α}:z1i (l++[x]) none (some (-1))=l:=by
 have h2:HT.sIx (l++[x]).length (l++[x]).length (some (-1))=l.length:=by
  show(if(-1:Int)<0 then((-1:Int)+((l++[x]).length:Int)).toNat else min (-1:Int).toNat (l++[x]).length)=_
  rw[if_pos (by decide)]
  erw[l8,i7,n9]
  lia
 unfold z1i
 rw[HT.sIx_none,h2]
 simp
theorem zhZ{c:Cm}{s:Stt}:isN c.d .non s= .ok (.bool false) s:=(rfl)
noncomputable def Bd(M:Int)(s:List Int):Prop:= ∀i∈s,0<=i/\i<M
theorem zi0{M:Int}: ∀{ds:List D},(∀d∈ds,∃i:Int,0<=i/\i<M/\d= .int i)->∃s,ds=iL s/\Bd M s
 |[],_=>⟨[],rfl,fun _ h=>nomatch h⟩
 |d::ds,h=>by
  obtain⟨i,h1,h2,rfl⟩:=h d (by simp)
  obtain⟨s,rfl,hs⟩:=zi0 (ds:=ds) fun d hd=>h d (by simp[hd])
  exact⟨i::s,rfl,fun j hj=>(i8.mp hj).elim (fun e=>e▸⟨h1,h2⟩) (hs j)⟩
theorem Bd.nm{M:Int}{s:List Int}(h:Bd M s)(hM:M<=100000):Nm s:=fun i hi=>by have:=h i hi;lia
theorem zd3{M:Int}{s:List Int}{lo hi:Nat}(h:Bd M s)(h1:lo<=s.length)(h2:s.length<=hi):rowB lo hi (M - 1) (.tup (iL s))=true:=by
 erw[rowB,i6,decide_eq_true_eq,A6,Q2]
 refine⟨⟨by lia,by lia⟩,fun d hd=> ?_⟩
 obtain⟨i,hi,rfl⟩:=m9.mp hd
 have:=h i hi
 erw[inR,i6,decide_eq_true_eq]
 lia
noncomputable def Wy(N:Int):Int->List Pz->Int->Prop
 |a,[],p=>a=p
 |a,q::cs,p=>U9 a N q.d=true/\q.ok/\Wy N q.e cs p
theorem Wy.snoc{N:Int}: ∀{cs:List Pz} {a p:Int} {q:Pz},Wy N a cs p->U9 p N q.d=true->q.ok->Wy N a (cs++[q]) q.e
 |[],a,p,q,h,h1,h2=>by cases(show a=p from h);exact⟨h1,h2,rfl⟩
 |r::cs,a,p,q,h,h1,h2=>⟨h.1,h.2.1,Wy.snoc h.2.2 h1 h2⟩
theorem Wy.way{N:Int}: ∀{cs:List Pz} {a p:Int},Wy N a cs p->p=N->z5E N a (psD cs)=true
 |[],a,p,h,hp=>by
  cases(show a=p from h)
  erw[psD,t7,z5E,hp,beq_self_eq_true]
 |r::cs,a,p,h,hp=>by
  have:=Wy.way h.2.2 hp
  erw[psD,l6,z5E,h.1,A5] at this⊢
  exact this
theorem Wy.all{N:Int}: ∀{cs:List Pz} {a p:Int},Wy N a cs p->∀q∈cs,q.ok
 |[],_,_,_,q,hq=>nomatch hq
 |r::cs,a,p,h,q,hq=>(i8.mp hq).elim (fun e=>e▸h.2.1) (Wy.all h.2.2 q)
theorem zl0{a N e k w:Int}{ss:List Int}(h1:a+1<=e)(h2:e<=N)(hs:Bd 1040 ss)(l1:1<=ss.length)(l2:ss.length<=24)(k0:0<=k)(k1:k<9)(w0:0<=w)(w1:w<100000)(a0:0<=a)(hN:N<=24):U9 a N (Pz.mk e ss k w).d=true/\(Pz.mk e ss k w).ok:=by
 refine⟨?_,⟨⟨by dsimp only;lia,by dsimp only;lia⟩,⟨hs.nm (by decide),l1,l2⟩,⟨k0,by dsimp only;lia⟩,⟨w0,w1⟩⟩⟩
 have hr:=zd3 (lo:=1) (hi:=24) hs l1 l2
 erw[Pz.d,U9,inR,i6,decide_eq_true_eq]
 exact⟨⟨h1,h2⟩,hr,⟨k0,by lia⟩,⟨w0,by lia⟩⟩
theorem zd4(l:Nat)(c x N M:Int)(n:Nat)(h:Bg c x)(hn:l<n)(h0:0<=N)(h1:N<=1000)(m0:0<M)(m1:M<1000000): ∃(s:List Int) (c' x':Int) (n':Nat),s.length=N.toNat/\Bd M s/\Bg c' x'/\n<=n'/\Q0 [.lst l [.int c, .int x], .int N, .int M] n= .ok (.tup (iL s)) [.lst l [.int c', .int x'], .int N, .int M] n':=by
 unfold Q0 z0k
 left
 obtain⟨ys,b',n',g1,g2,g3,⟨c3,x3,rfl,h3⟩,g5,g6⟩:=z6v (l:=l) (ms:=[y0 1]) (me:=mCall Z0 [y0 1,y0 2]) (N:=N.toNat) (ix:=[0,2]) (Q:=fun _ y=> ∃i:Int,0<=i/\i<M/\y= .int i) (Bg:=fun b=> ∃c x,b=[D.int c, .int x]/\Bg c x) (fun _ _ _ _ h=>h) (s:=⟨[some (.lst l [.int c, .int x]),some (.int N),some (.int M)],[some (.lst l [.int c, .int x]),some (.int N),some (.int M)],n⟩) (j:=N) (σ0:=[some (.lst l [.int c, .int x]),some (.int N),some (.int M)]) (tm0:=[some (.lst l [.int c, .int x]),some (.int N),some (.int M)]) (n:=n)
  (by left) rfl ⟨by lia,by lia⟩ (by rw[zl];lia) ⟨c,x,rfl,h⟩ (by lia) (by left) (by left) (by erw[l6,t7,List.getElem?_cons_zero,List.getElem?_cons_succ,C5];left) (by
   rintro i hi b tm m ⟨c,x,rfl,hb⟩ hm hf
   obtain⟨r,c',x',hs0,hs1,h',e'⟩:=Q1 l c x M m hb m0 (by lia)
   refine⟨.int r,[.int c', .int x'],m,⟨c',x',rfl,h'⟩,⟨r,hs0,hs1,rfl⟩,c9 _,by simp[y4], ?_⟩
   erw[l6,t7,List.getElem?_cons_zero,List.getElem?_cons_succ,C5]
   left
   rw[e',z3Z rfl rfl rfl (by left) hf]
   left)
 rw[g6]
 left
 obtain⟨s,rfl,hs⟩:=zi0 g2
 exact⟨s,c3,x3,n'+1,by rw[<-g1,Q2],hs,h3,by lia,rfl⟩
noncomputable def zl1:MS:=(sIf (W5 (y3 (y0 6) (y0 3) ltD)) (Z1 (Y4 (.nm 6) (y3 (y3 (y0 6) (mC (.int 1)) W8) (mCall Z0 [(y0 0),(mCB [(mC (.int 3)),(y3 (y0 3) (y0 6) zbo)] zbs)]) W8))
 (Z1 (Y4 (.nm 8) (mCall Q0 [(y0 0),(y3 (mC (.int 1)) (mCall Z0 [(y0 0),(y0 2)]) W8),(mC (.int 1040))]))
 (z1e (z0w (y0 5) [(mCB [(y0 6),(y0 8),(mCall Z0 [(y0 0),(mC (.int 9))]),(mCall Z0 [(y0 0),(y0 4)])] z1U)] z6H)))) sNx)
theorem zi1(l:Nat)(c x T W:Int)(n:Nat)(h:Bg c x)(hn:l<n)(t0:0<T)(t1:T<=24)(w0:0<W)(w1:W<=24): ∃(q:Cm) (c' x':Int) (n':Nat),Good q/\Bg c' x'/\n<=n'/\z0q [.lst l [.int c, .int x], .int T, .int W] n= .ok q.d [.lst l [.int c', .int x'], .int T, .int W] n':=by
 unfold z0q
 have e0:z2Y=(Z1 (Y4 (.nm 3) (y3 (mC (.int 1)) (mCall Z0 [(y0 0),(y0 1)]) W8))
  (Z1 (Y4 (.nm 4) (y3 (mCB [(mC (.int 10)),(mC (.int 10000)),(mC (.int 100000))] lstM) (mCall Z0 [(y0 0),(mC (.int 3))]) ixD))
  (Z1 (Y4 (.nm 5) (mCB [] lstM))
  (Z1 (Y4 (.nm 6) (mC (.int 0)))
  (Z1 (z1V (z1f [(y0 3)]) (.nm 7) zl1)
  (Y9 (mCB [(mCall Q0 [(y0 0),(y0 3),(mC (.int 40))]),(mCB [(y0 5)] z8T),(y3 (mCall Z0 [(y0 0),(mC (.int 2))]) (mC (.int 1)) eqD)] z1U))))))):=rfl
 rw[e0]
 left
 obtain⟨r,c1,x1,hr0,hr1,b1,e1⟩:=Q1 l c x T n h (by lia) (by lia)
 rw[e1,Z2 rfl rfl rfl (fun q=>by left;rfl) (fun q=>by left;rfl)]
 left
 obtain⟨r2,c2,x2,s0,s1,b2,e2⟩:=Q1 l c1 x1 3 (n+1) b1 (by decide) (by decide)
 have fl: ∀d,rp (pl l d) (.lst n [.int 10, .int 10000, .int 100000])= .lst n [.int 10, .int 10000, .int 100000]:=fun d=>by rw[z4l (by lia)];rfl
 rw[e2,Z2 rfl rfl rfl (fun q=>by left;rfl) (fun q=>by left;erw[fl];rfl)]
 left
 have hv: ∃v:Int,0<v/\v<=100000/\atI [D.int 10,D.int 10000,D.int 100000] r2=some (.int v):=by
  have:r2=0\/r2=1\/r2=2:=by lia
  rcases this with rfl|rfl|rfl
  ·exact⟨_,by decide,by decide,at0⟩
  ·exact⟨_,by decide,by decide,at1⟩
  ·exact⟨_,by decide,by decide,at2⟩
 obtain⟨v,hv0,hv1,ev⟩:=hv
 rw[ev]
 left
 generalize hN:1+r=N
 have N0:0<N/\N<=24:=by lia
 rw[z40 ⟨by lia,by lia⟩]
 left
 obtain⟨s',e3,c3,x3,cs,p,o7,o8,n3,rfl,b3,hw,hp0,hp1,hp2,lc,hn3,ho7,ho8⟩:=z41 (P:=fun i s=> ∃(c x:Int) (cs:List Pz) (p:Int) (o7 o8:Option D) (m:Nat),s=⟨[some (.lst l [.int c, .int x]),some (.int T),some (.int W),some (.int N),some (.int v),some (.lst (n+1) (psD cs)),some (.int p),o7,o8],[some (.lst l [.int c, .int x]),some (.int T),some (.int W)],m⟩/\Bg c x/\Wy N 0 cs p/\0<=p/\p<=N/\((i:Int)<=p\/p=N)/\cs.length<=i/\n+1<m/\Fx o7/\Fx o8) (lo:=0) (N:=N.toNat) (g:= .nm 7) (b:=zl1) (by
  rintro i hi s ⟨c,x,cs,p,o7,o8,m,rfl,hb,hw,hp0,hp1,hp2,lc,hm,ho7,ho8⟩
  have hcs: ∀k d,rpL (pl k d) (psD cs)=psD cs:=fun k d=>zev _ cs
  have hlc: ∀d,rp (pl l d) (.lst (n+1) (psD cs))= .lst (n+1) (psD cs):=fun d=>by rw[z4l (by lia),hcs]
  have hbg: ∀d c x,rp (pl (n+1) d) (.lst l [.int c, .int x])= .lst l [.int c, .int x]:=fun d c x=>by rw[z4l (by lia)];rfl
  refine⟨[some (.lst l [.int c, .int x]),some (.int T),some (.int W),some (.int N),some (.int v),some (.lst (n+1) (psD cs)),some (.int p),some (.int i),o8],by erw[N5];rfl, ?_⟩
  unfold zl1
  left
  by_cases hp:p<N
  ·erw[hp,decide_true]
   left
   obtain⟨r,c1,x1,hr0,hr1,b1,e1⟩:=Q1 l c x (if N -p<3 then N -p else 3) m hb (by split<;>lia) (by split<;>lia)
   rw[e1,Z2 rfl rfl rfl (fun q=>by left;erw[hlc,ho8 _];rfl) (fun q=>by left;rfl)]
   left
   have hr2:p+1+r<=N:=by split at hr1<;>lia
   obtain⟨r3,c2,x2,t0,t1,b2,e2⟩:=Q1 l c1 x1 W m b1 (by lia) (by lia)
   rw[e2,Z2 rfl rfl rfl (fun q=>by left;erw[hlc,ho8 _];rfl) (fun q=>by left;rfl)]
   left
   obtain⟨zs,c3,x3,n2,lz,iz,b3,g3,e3⟩:=zd4 l c2 x2 (1+r3) 1040 m b2 (by lia) (by lia) (by lia) (by decide) (by decide)
   rw[e3,Z2 rfl rfl rfl (fun q=>by left;erw[hlc,ho8 _];rfl) (fun q=>by left;rfl)]
   left
   obtain⟨k,c4,x4,hk0,hk1,b4,e4⟩:=Q1 l c3 x3 9 n2 b3 (by decide) (by decide)
   rw[e4,Z2 rfl rfl rfl (fun q=>by left;erw[hlc,z7i];rfl) (fun q=>by left;erw[hlc,z7i];rfl)]
   left
   obtain⟨w,c5,x5,hw0,hw1,b5,e5⟩:=Q1 l c4 x4 v n2 b4 (by lia) (by lia)
   rw[e5,Z2 rfl rfl rfl (fun q=>by left;erw[hlc,z7i];rfl) (fun q=>by left;erw[hlc,z7i];rfl)]
   left
   rw[z8I ⟨by rw[zl,z1E];lia,by erw[y4,labsL,z7l,i9];exact t9⟩]
   left
   erw[hbg,z7i]
   obtain⟨q1,q2⟩:=zl0 (a:=p) (N:=N) (e:=p+1+r) (k:=k) (w:=w) (ss:=zs) (by lia) hr2 iz (by lia) (by lia) hk0 hk1 hw0 (by lia) hp0 (by lia)
   exact⟨_,rfl,c5,x5,cs++[⟨p+1+r,zs,k,w⟩],p+1+r,some (.int i),some (.tup (iL zs)),n2,by simp[psD,Pz.d],b5,hw.snoc q1 q2,by lia,hr2,by lia,by erw[l8,i7,n9];lia,by lia,Fx.int,Fx.iL⟩
  ·erw[hp,decide_false]
   left
   exact⟨_,rfl,c,x,cs,p,_,_,m,rfl,hb,hw,hp0,hp1,by lia,by lia,hm,Fx.int,ho8⟩) N.toNat 0 ⟨[some (.lst l [.int c2, .int x2]),some (.int T),some (.int W),some (.int N),some (.int v),some (.lst (n+1) (psD [])),some (.int 0),none,none],[some (.lst l [.int c2, .int x2]),some (.int T),some (.int W)],n+1+1⟩ (by lia) ⟨c2,x2,[],0,none,none,n+1+1,rfl,b2,rfl,by lia,by lia,by lia,by simp,by lia, .no, .no⟩
 rw[show psD []=[] from rfl] at e3
 rw[e3]
 have hpN:p=N:=by lia
 have hcs: ∀k d,rpL (pl k d) (psD cs)=psD cs:=fun k d=>zev _ cs
 have hlc: ∀d,rp (pl l d) (.lst (n+1) (psD cs))= .lst (n+1) (psD cs):=fun d=>by rw[z4l (by lia),hcs]
 left
 obtain⟨S,c4,x4,n4,lS,iS,b4,g4,e4⟩:=zd4 l c3 x3 N 40 n3 b3 (by lia) (by lia) (by lia) (by decide) (by decide)
 rw[e4,Z2 rfl rfl rfl (fun q=>by left;erw[hlc,ho7 _,ho8 _];rfl) (fun q=>by left;rfl)]
 left
 obtain⟨w,c5,x5,hw0,hw1,b5,e5⟩:=Q1 l c4 x4 2 n4 b4 (by decide) (by decide)
 rw[e5,Z2 rfl rfl rfl (fun q=>by left;erw[hlc,ho7 _,ho8 _];rfl) (fun q=>by left;erw[z7i,hcs];rfl)]
 left
 have hle:cs≠[]:=by
  intro q
  rw[q] at hw
  have:(0:Int)=p:=hw
  lia
 have hl1:1<=cs.length:=by
  cases cs with
  |nil=>exact absurd rfl hle
  |cons _ _=>simp
 have hS:((iL S).length:Int)=N:=by rw[Q2,lS];lia
 refine⟨⟨S,cs,w==1⟩,c5,x5,n4,⟨⟨⟨iS.nm (by decide),by dsimp only;lia,by dsimp only;lia⟩,⟨hl1,by dsimp only;lia⟩,hw.all⟩, ?_⟩,b5,by lia,rfl⟩
 have hr:=zd3 (lo:=1) (hi:=24) iS (by lia) (by lia)
 erw[Cm.d,V0,zcc,i6,hS]
 exact⟨hr,hw.way hpN⟩
theorem zd5: ∀{ys:List D},(∀y∈ys,∃q:Cm,Good q/\y=q.d)->∃cs:List Cm,(∀c∈cs,Good c)/\ys=csD cs
 |[],_=>⟨[],(fun _ h=>nomatch h),rfl⟩
 |y::ys,h=>by
  obtain⟨q,h1,rfl⟩:=h y (by simp)
  obtain⟨cs,h2,rfl⟩:=zd5 (ys:=ys) fun z hz=>h z (by simp[hz])
  exact⟨q::cs,fun c hc=>(i8.mp hc).elim (fun e=>e▸h1) (h2 c),rfl⟩
theorem zl2{a b c d e f g h:Int}{r:Int}(h0:0<=r)(h1:r<8)(lo hi:Int)(q: ∀v∈[a,b,c,d,e,f,g,h],lo<v/\v<=hi): ∃v:Int,lo<v/\v<=hi/\atI [D.int a, .int b, .int c, .int d, .int e, .int f, .int g, .int h] r=some (.int v):=by
 have:r=0\/r=1\/r=2\/r=3\/r=4\/r=5\/r=6\/r=7:=by lia
 rcases this with rfl|rfl|rfl|rfl|rfl|rfl|rfl|rfl
 ·exact⟨a,(q _ (by simp)).1,(q _ (by simp)).2,rfl⟩
 ·exact⟨b,(q _ (by simp)).1,(q _ (by simp)).2,rfl⟩
 ·exact⟨c,(q _ (by simp)).1,(q _ (by simp)).2,rfl⟩
 ·exact⟨d,(q _ (by simp)).1,(q _ (by simp)).2,rfl⟩
 ·exact⟨e,(q _ (by simp)).1,(q _ (by simp)).2,rfl⟩
 ·exact⟨f,(q _ (by simp)).1,(q _ (by simp)).2,rfl⟩
 ·exact⟨g,(q _ (by simp)).1,(q _ (by simp)).2,rfl⟩
 ·exact⟨h,(q _ (by simp)).1,(q _ (by simp)).2,rfl⟩
theorem k8{a b c d e f g h:D}{σ tm:List (Option D)}{n:Nat}:lstM [a,b,c,d,e,f,g,h] ⟨σ,tm,n⟩= .ok (.lst n [a,b,c,d,e,f,g,h]) ⟨σ,tm,n+1⟩:=(rfl)
theorem zeH(l:Nat)(c x:Int)(n:Nat)(h:Bg c x)(hn:l<n): ∃(cs:List Cm) (c' x':Int) (L n':Nat),cs.length<=60/\(∀q∈cs,Good q)/\Bg c' x'/\n<=L/\L<n'/\V4 [.lst l [.int c, .int x]] n= .ok (.lst L (csD cs)) [.lst l [.int c', .int x']] n':=by
 unfold V4 z2l
 left
 obtain⟨w,c1,x1,w0,w1,b1,e1⟩:=Q1 l c x 8 n h (by decide) (by decide)
 rw[e1,Z2 rfl rfl rfl (fun q=>by left;rfl) (fun q=>by left;rfl)]
 left
 obtain⟨v,v0,v1,ev⟩:=zl2 (a:=61) (b:=3) (c:=6) (d:=6) (e:=9) (f:=2) (g:=4) (h:=6) w0 w1 1 61 (by decide)
 rw[k8]
 left
 rw[ev]
 left
 obtain⟨N,c2,x2,N0,N1,b2,e2⟩:=Q1 l c1 x1 v (n+1) b1 (by lia) (by lia)
 rw[e2,Z2 rfl rfl rfl (fun q=>by left;rfl) (fun q=>by left;rfl)]
 left
 obtain⟨T,T0,T1,eT⟩:=zl2 (a:=3) (b:=24) (c:=6) (d:=6) (e:=6) (f:=6) (g:=6) (h:=6) w0 w1 0 24 (by decide)
 obtain⟨W,W0,W1,eW⟩:=zl2 (a:=2) (b:=24) (c:=4) (d:=4) (e:=4) (f:=4) (g:=4) (h:=4) w0 w1 0 24 (by decide)
 obtain⟨ys,b',n',g1,g2,g3,⟨c3,x3,rfl,h3⟩,g5,g6⟩:=z6v (l:=l) (ms:=[y0 2]) (me:=mCall z0q [(y0 1),(y3 (mCB [(mC (.int 3)),(mC (.int 24)),(mC (.int 6)),(mC (.int 6)),(mC (.int 6)),(mC (.int 6)),(mC (.int 6)),(mC (.int 6))] lstM) (y0 2) ixD),(y3 (mCB [(mC (.int 2)),(mC (.int 24)),(mC (.int 4)),(mC (.int 4)),(mC (.int 4)),(mC (.int 4)),(mC (.int 4)),(mC (.int 4))] lstM) (y0 2) ixD)]) (N:=N.toNat) (ix:=[0,1]) (Q:=fun _ y=> ∃q:Cm,Good q/\y=q.d) (Bg:=fun b=> ∃c x,b=[D.int c, .int x]/\Bg c x) (fun _ _ _ _ h=>h) (s:=⟨[some (.lst l [.int c2, .int x2]),some (.int w),some (.int N)],[some (.lst l [.int c2, .int x2])],n+1⟩) (j:=N) (σ0:=[some (.lst l [.int c2, .int x2]),some (.int w),some (.int N)]) (tm0:=[some (.lst l [.int c2, .int x2])]) (n:=n+1)
  (by left) rfl ⟨by lia,by lia⟩ (by rw[zl];lia) ⟨c2,x2,rfl,b2⟩ (by lia) (by left) (by left) (by erw[l6,t7,List.getElem?_cons_zero,List.getElem?_cons_succ,C5];left) (by
   rintro i hi b tm m ⟨c,x,rfl,hb⟩ hm hf
   obtain⟨q,c4,x4,n4,qo,b4,h4,e4⟩:=zi1 l c x T W (m+1+1) hb (by lia) T0 T1 W0 W1
   refine⟨q.d,[.int c4, .int x4],n4,⟨c4,x4,rfl,b4⟩,⟨q,qo,rfl⟩,by lia,by rw[z7n q qo.1];exact t9, ?_⟩
   erw[l6,t7,List.getElem?_cons_zero,List.getElem?_cons_succ,C5]
   left
   rw[k8]
   left
   rw[eT]
   left
   rw[k8]
   left
   rw[eW]
   left
   rw[e4,z3Z rfl rfl rfl (by left) hf]
   left)
 rw[g6]
 left
 obtain⟨cs,h4,rfl⟩:=zd5 g2
 exact⟨cs,c3,x3,n',n'+1,by rw[z4I] at g1;lia,h4,h3,by lia,by lia,rfl⟩
structure Sh(k:Nat)(E:PyData):Prop where
 a:PyData.leavesShort 64 E=true
 b:E.showable=true
 c:E.bulk<=k
theorem ziW{i:Int}(h:0<=i/\i<100000):Sh 0 (.int i):=by
 have e:(PyData.int i).shown.length<=64:=by
  erw[PyData.shown]
  have:= @PySem.int_text_length_le10 i 61 (by decide) (Nat.lt_of_le_of_lt (show i.natAbs<=100000 by lia) (by decide))
  rw[PySem.ofString_length];lia
 refine⟨?_, ?_,by simp[PyData.bulk]⟩
 ·erw[PyData.leavesShort,decide_eq_true_eq];exact e
 ·erw[PyData.showable,decide_eq_true_eq]
  exact z1D h.1 h.2
theorem shL{k:Nat}: ∀{es:List PyData},(∀e∈es,Sh k e)->PyData.leavesShortAll 64 es=true/\PyData.showableAll es=true/\PyData.bulkAll es<=(k+1)*es.length
 |[],_=>⟨rfl,rfl,c9 _⟩
 |e::es,h=>by
  obtain⟨r1,r2,r3⟩:=shL (es:=es) fun x hx=>h x (by simp[hx])
  have q:=h e (by simp)
  have q3:=q.c
  refine⟨?_, ?_, ?_⟩
  ·erw[PyData.leavesShortAll,i6];exact⟨q.a,r1⟩
  ·erw[PyData.showableAll,i6];exact⟨q.b,r2⟩
  ·erw[PyData.bulkAll,i7];rw[Nat.mul_add,Nat.mul_one];lia
theorem z3t{P:PyData->Prop}: ∀{ds:List D},(∀d∈ds,P (er d))->∀e∈erL ds,P e
 |[],_,e,h=>nomatch h
 |d::ds,hd,e,h=>by
  rcases i8.mp (show e∈er d::erL ds from h) with rfl|h
  ·exact hd d (by simp)
  ·exact z3t (fun d' h'=>hd d' (by simp[h'])) e h
theorem z7o(ds:List D):(erL ds).length=ds.length:=by
 induction ds with
 |nil=>rfl
 |cons d ds ih=>erw[erL,i7,ih]
theorem zi2{s:List Int}(h:Nm s)(hl:s.length<=24):Sh 24 (er (.tup (iL s))):=by
 obtain⟨r1,r2,r3⟩:=shL (k:=0) (es:=erL (iL s)) (z3t fun d hd=>by
  obtain⟨i,hi,rfl⟩:=m9.mp hd
  exact ziW (h i hi))
 rw[z7o,Q2] at r3
 exact⟨by erw[er,PyData.leavesShort];exact r1,by erw[er,PyData.showable];exact r2,by erw[er,PyData.bulk];lia⟩
theorem zmO{p:Pz}(h:p.ok):Sh 28 (er p.d):=by
 have a:=ziW h.1
 have b:=zi2 h.2.1.1 h.2.1.2.2
 have c:=ziW h.2.2.1
 have d:=ziW h.2.2.2
 have e1:=a.c
 have e2:=b.c
 have e3:=c.c
 have e4:=d.c
 rw[show er p.d= .tuple [.int p.e,er (.tup (iL p.ss)), .int p.k, .int p.c] from rfl]
 generalize PyData.int p.e=A at*
 generalize PyData.int p.k=K at*
 generalize PyData.int p.c=C at*
 generalize er (.tup (iL p.ss))=B at*
 exact⟨by erw[PyData.leavesShort,PyData.leavesShortAll,a.a,b.a,c.a,d.a,F0],by erw[PyData.showable,PyData.showableAll,a.b,b.b,c.b,d.b,F0],by erw[PyData.bulk,PyData.bulkAll];lia⟩
theorem zmP{c:Cm}(h:c.ok):Sh 723 (er c.d):=by
 have a:=zi2 h.1.1 h.1.2.2
 have l24:=h.2.1.2
 have b:Sh 696 (er (.tup (psD c.C))):=by
  obtain⟨r1,r2,r3⟩:=shL (k:=28) (es:=erL (psD c.C)) (z3t fun d hd=>by
   obtain⟨p,hp,rfl⟩:=m9.mp hd
   exact zmO (h.2.2 p hp))
  rw[z7o,z1E] at r3
  exact⟨by erw[er,PyData.leavesShort];exact r1,by erw[er,PyData.showable];exact r2,by erw[er,PyData.bulk];lia⟩
 have d:Sh 0 (.bool c.b):=by
  refine⟨?_,rfl,by simp[PyData.bulk]⟩
  cases c.b<;>decide+kernel
 have e1:=a.c
 have e2:=b.c
 have e3:=d.c
 rw[show er c.d= .tuple [er (.tup (iL c.S)),er (.tup (psD c.C)), .bool c.b] from rfl]
 generalize PyData.bool c.b=K at*
 generalize er (.tup (iL c.S))=A at*
 generalize er (.tup (psD c.C))=B at*
 exact⟨by erw[PyData.leavesShort,PyData.leavesShortAll,a.a,b.a,d.a,F0],by erw[PyData.showable,PyData.showableAll,a.b,b.b,d.b,F0],by erw[PyData.bulk,PyData.bulkAll];lia⟩
theorem zl3{cs:List Cm}(hc: ∀c∈cs,c.ok)(hz:cs.length<=60){l:Nat}:Gd (.lst l (csD cs))/\(er (.lst l (csD cs))).depth<=5:=by
 have r:=zht (n:=0) (k:=4) (l:=l) (L7 _) (show(csD cs).length<=2000 by rw[z4I];lia) fun d hd=>by
  obtain⟨c,hc',rfl⟩:=m9.mp hd
  exact⟨zhq _ (zce (hc c hc')).1,(zce (hc c hc')).2⟩
 exact⟨zhr _ r.1,r.2⟩
noncomputable def shT(cs:List Cm):Str:=(PyData.list (erL (csD cs))).shown
theorem zcg{cs:List Cm}(hc: ∀c∈cs,c.ok)(hz:cs.length<=60){l:Nat}{s:Stt}:z1g [.lst l (csD cs)] s= .ok (.str (shT cs)) s:=by
 obtain⟨r1,r2,r3⟩:=shL (k:=723) (es:=erL (csD cs)) (z3t fun d hd=>by
  obtain⟨c,h,rfl⟩:=m9.mp hd
  exact zmP (hc c h))
 rw[z7o,z4I] at r3
 have b:=PyData.shown_le_bulk 64 (by decide) (er (.lst l (csD cs))) (by erw[er,PyData.leavesShort];exact r1)
 have g:=zl3 (l:=l) hc hz
 have g1:plainL (csD cs)=true:=g.1.1
 have hq:(plainL (csD cs)&&(er (.lst l (csD cs))).showable&&decide ((er (.lst l (csD cs))).depth<=60)&&decide ((er (.lst l (csD cs))).shown.length<=sizeLine))=true:=by
  erw[i6,decide_eq_true_eq]
  refine⟨⟨⟨g1,by erw[er,PyData.showable];exact r2⟩,by have:=g.2;lia⟩, ?_⟩
  rw[zl]
  have b2:(er (.lst l (csD cs))).bulk<=43440:=by erw[er,PyData.bulk];lia
  lia
 show zgC [.lst l (csD cs)] s=_
 erw[zgC]
 rw[if_pos hq]
 rfl
noncomputable def Lo(x:List Nat):Prop:= ∀c∈x,c<128
theorem zaD{z:List Nat}{xs:List (List Nat)}(hz:Lo z)(h: ∀x∈xs,Lo x):Lo (jn z xs):=fun c hc=>by
 rcases z84 hc with q|⟨y,hy,q⟩
 ·exact hz c q
 ·exact h y hy c q
theorem z4K{i:Int}(h:0<=i):Lo (sg (num i)):=fun c hc=>by have:=zak h c hc;lia
theorem zi3{s:List Int}(h:Nm s):Lo (sg (dt s)):=by
 rw[zeD]
 refine zaD (by simp[Lo]) fun x hx=> ?_
 rw[B7] at hx
 obtain⟨i,hi,rfl⟩:=m9.mp hx
 exact z4K (h i hi).1
theorem zl4{p:Pz}(h:p.ok):Lo (sg (pT p)):=by
 rw[zc8]
 refine zaD (by simp[Lo]) fun x hx=> ?_
 erw[l6,t7,i8,t9,or_false] at hx
 rcases hx with rfl|rfl|rfl|rfl
 ·exact z4K h.1.1
 ·exact zi3 h.2.1.1
 ·exact z4K h.2.2.1.1
 ·exact z4K h.2.2.2.1
theorem zl5{c:Cm}(h:c.ok):Lo (sg (bo c)):=by
 unfold bo
 rw[X3,z4m]
 refine zaD (by simp[Lo]) fun x hx=> ?_
 obtain⟨y,hy,rfl⟩:=m9.mp hx
 erw[bP,i8,i5,t9,or_false] at hy
 rcases hy with rfl|rfl|hy|rfl
 ·exact zi3 h.1.1
 ·rw[zey];cases c.b<;>simp[Lo]
 ·obtain⟨p,hp,rfl⟩:=m9.mp hy
  exact zl4 (h.2.2 p hp)
 ·rw[K9,zfb]
  intro d hd
  rcases i5.mp hd with hd|hd
  ·rw[B0.mp hd];decide
  ·exact z4K (z8Q c).1 d hd
theorem zd6{α:Type}(p:α->Bool): ∀l:List α,(l.takeWhile p).length=l.length->∀a∈l,p a=true
 |[],_,a,h=>nomatch h
 |x::l,e,a,h=>by
  rw[N4] at e
  cases hx:p x with
  |false=>rw[hx] at e;simp at e
  |true=>
   rw[hx] at e
   erw[if_true,i7,Nat.add_right_cancel_iff] at e
   rcases i8.mp h with rfl|h
   ·exact hx
   ·exact zd6 p l e a h
theorem zd7{α:Type}(p:α->Bool): ∀l:List α,(∀a∈l,p a=true)->l.takeWhile p=l
 |[],_=>rfl
 |x::l,h=>by
  rw[N4,h x (by simp),if_pos rfl,zd7 p l fun a ha=>h a (by simp[ha])]
theorem zaE{α:Type}(p:α->Bool): ∀l:List α,∀a∈l.take (l.takeWhile p).length,p a=true
 |[],a,h=>by simp at h
 |x::l,a,h=>by
  rw[N4] at h
  cases hx:p x with
  |false=>rw[hx] at h;simp at h
  |true=>
   rw[hx] at h
   erw[if_true,i7,D7] at h
   rcases i8.mp h with rfl|h
   ·exact hx
   ·exact zaE p l a h
theorem zaF(w y:Str):(Txt.stripChars w y==Str.ofString "")=(sg w).all fun c=>y.cps.contains c:=by
 unfold Txt.stripChars
 rw[PyProof.Rows.stripBy_eq,B8,beq_iff_eq,A6]
 generalize y.cps.contains=p
 have hlen:(sg w).length=w.length:=J7 w
 have hlo:stripLo p true w=((sg w).takeWhile p).length:=rfl
 have hhi: ∀lo,stripHi p true w lo=w.length -(((sg w).drop lo).reverse.takeWhile p).length:=fun _=>rfl
 have tl:((sg w).takeWhile p).length<=w.length:=by rw[<-hlen];exact(R4 p).length_le
 constructor
 ·intro h
  have h1:(w.cps.extract (stripLo p true w) (stripHi p true w (stripLo p true w))).size=0:=congrArg Str.length h
  rw[Array.size_extract,hhi,hlo] at h1
  have hw:w.cps.size=w.length:=rfl
  generalize hk:((sg w).takeWhile p).length=k at*
  have h2:(((sg w).drop k).reverse.takeWhile p).length<=((sg w).drop k).reverse.length:=(R4 p).length_le
  rw[E9,C8,hlen] at h2
  have h3:(((sg w).drop k).reverse.takeWhile p).length=((sg w).drop k).reverse.length:=by
   rw[E9,C8,hlen]
   lia
  intro c hc
  rw[<-C3 k (sg w)] at hc
  rcases i5.mp hc with hc|hc
  ·rw[<-hk] at hc
   exact zaE p (sg w) c hc
  ·exact zd6 p _ h3 c (List.mem_reverse.mpr hc)
 ·intro h
  have e:((sg w).takeWhile p).length=w.length:=by rw[zd7 p _ h,hlen]
  refine z0r ?_
  show(w.cps.extract (stripLo p true w) (stripHi p true w (stripLo p true w))).toList=[]
  rw[<-P4,Array.length_toList,Array.size_extract,hhi,hlo,e]
  have hw:w.cps.size=w.length:=rfl
  lia
theorem zeI(c:Nat):("0123456789" :Str).cps.contains c=decide (48<=c/\c<=57):=by
 rw[<-Array.contains_toList,show("0123456789" :Str).cps.toList=T2 48 10 from zcS,B8,List.contains_iff_mem,S3,decide_eq_true_iff]
 lia
theorem z6D(w:Str):(Txt.stripChars w (Str.ofString "0123456789")==Str.ofString "")=(sg w).all fun c=>decide (48<=c/\c<=57):=by
 rw[zaF]
 congr 1
 funext c
 exact zeI c
theorem z88(ds:List Nat)(d:Nat):PySem.NumText.digitsVal (ds++[d])=PySem.NumText.digitsVal ds*10+(d - 48):=by
 unfold PySem.NumText.digitsVal
 rw[List.foldl_append]
 rfl
theorem zaG: ∀(k:Nat) (ds:List Nat),ds.length=k+1->Dg ds->ds.head? ≠some 48->0<PySem.NumText.digitsVal ds/\sg (num (PySem.NumText.digitsVal ds:Nat))=ds
 |0,ds,hl,hd,hh=>by
  match ds,hl with
  |[d],_=>
   have:=hd d (by simp)
   have h0:d≠48:=fun e=>hh (by rw[e];rfl)
   have e:PySem.NumText.digitsVal [d]=d - 48:=by simp[PySem.NumText.digitsVal]
   rw[e]
   refine⟨by lia, ?_⟩
   rw[z1C (by lia)]
   congr 1
   lia
 |k+1,ds,hl,hd,hh=>by
  obtain⟨es,d,rfl⟩: ∃es d,ds=es++[d]:=⟨ds.dropLast,ds.getLast (by intro e;rw[e] at hl;simp at hl),(D6 _).symm⟩
  have hd':=hd d (by simp)
  have hes:es.length=k+1:=by simpa using hl
  have hh':es.head? ≠some 48:=by
   match es,hes with
   |a::r,_=>simpa using hh
  obtain⟨h1,h2⟩:=zaG k es hes (fun c hc=>hd c (by simp[hc])) hh'
  rw[z88]
  refine⟨by lia, ?_⟩
  rw[z5v (by lia),show(PySem.NumText.digitsVal es*10+(d - 48))/10=PySem.NumText.digitsVal es by lia,h2,show 48+(PySem.NumText.digitsVal es*10+(d - 48)) %10=d by lia]
theorem zd8: ∀(k:Nat) (ds:List Nat),ds.length=k->Dg ds->PySem.NumText.digitsVal ds<10^k
 |0,ds,hl,_=>by
  rw[P4.mp hl]
  exact Nat.one_pos
 |k+1,ds,hl,hd=>by
  obtain⟨es,d,rfl⟩: ∃es d,ds=es++[d]:=⟨ds.dropLast,ds.getLast (by intro e;rw[e] at hl;simp at hl),(D6 _).symm⟩
  have hd':=hd d (by simp)
  have h1:=zd8 k es (by simpa using hl) (fun c hc=>hd c (by simp[hc]))
  rw[z88,u05]
  lia
theorem z5F{w:Str}(h:(sg w).all (fun c=>decide (48<=c/\c<=57))=true)(h1:1<=w.length)(h5:w.length<=5): ∃v:Nat,v<100000/\PySem.intText? w=some (v:Int)/\(num v==w)= !((sg w).head? ==some 48&& !(w== "0")):=by
 have hd:Dg (sg w):=fun c hc=>of_decide_eq_true (A6.mp h c hc)
 have hl:=J7 w
 have hne:sg w≠[]:=fun e=>by rw[e] at hl;simp at hl;lia
 refine⟨PySem.NumText.digitsVal (sg w),r8 (zd8 _ _ rfl hd) (t8 (L9 (by decide) (show(sg w).length<=5 by lia)) (by decide)),PySem.intText_digits hd hne (by lia), ?_⟩
 by_cases hh:(sg w).head? =some 48
 ·rw[hh]
  erw[beq_self_eq_true,A5,Bool.not_not]
  rw[B8,beq_iff_eq,beq_iff_eq]
  constructor
  ·intro e
   have e2:=congrArg sg e
   have h3:=(z5w (PySem.NumText.digitsVal (sg w))).2.2
   rw[e2] at h3
   have h0:PySem.NumText.digitsVal (sg w)=0:=by
    by_cases hz:0<PySem.NumText.digitsVal (sg w)
    ·exact absurd hh (h3 hz)
    ·lia
   rw[<-e,h0]
   exact z0r (by rw[z1C (by decide)];decide+kernel)
  ·intro e
   rw[e]
   exact z0r (by decide+kernel)
 ·have h2:=(zaG ((sg w).length - 1) (sg w) (by lia) hd hh).2
  rw[show((sg w).head? ==some 48)=false from beq_eq_false_iff_ne.mpr hh,B9,N8,beq_iff_eq]
  exact z0r h2
noncomputable def zi4(w:Str):D:=match z02 w with
 | .int i=> .int i
 |_=> .int (-1)
theorem zi5{w y:Str}{s:Stt}(h:w.length<=sizeLine):txS w [.str y] s= .ok (.str (Txt.stripChars w y)) s:=by erw[txS,if_pos h];rfl
theorem zch(w:Str)(hw:w.length<=1000000)(n:Nat):Q4 [.str w] n= .ok (zi4 w) [.str w] n:=by
 unfold Q4 z2Z
 left
 rw[z6y (by rw[zl];lia)]
 left
 have eA:decide (1<=(w.length:Int))=decide (1<=w.length):=by congr 1;erw[eq_iff_iff];lia
 have eB:decide ((w.length:Int)<=5)=decide (w.length<=5):=by congr 1;erw[eq_iff_iff];lia
 rw[eA]
 unfold zi4 z02 okN
 by_cases h1:1<=w.length
 ·rw[decide_eq_true h1]
  left
  rw[eB]
  by_cases h5:w.length<=5
  ·rw[decide_eq_true h5]
   left
   rw[zi5 (by rw[zl];lia)]
   left
   rw[z5x,z6D]
   cases ha:(sg w).all fun c=>decide (48<=c/\c<=57) with
   |false=>
    left
    rfl
   |true=>
    obtain⟨v,hv,ev,eq⟩:=z5F ha h1 h5
    have ei: ∀s:Stt,z8C [.str w] s= .ok (.int v) s:=fun s=>by erw[z8C,if_pos (show w.length<=640 by lia),ev];rfl
    left
    rw[ei]
    left
    rw[z3g (z1D (by lia) (by lia))]
    left
    rw[z5x,eq]
    cases((sg w).head? ==some 48&& !(w== "0")) with
    |true=>
     left
     rfl
    |false=>
     left
     rw[ei,ev]
     left
     rfl
  ·rw[decide_eq_false h5]
   left
   rfl
 ·rw[decide_eq_false h1]
  left
  rfl
noncomputable def z8U(w:Str):Int:=match z02 w with
 | .int i=>i
 |_=> -1
theorem z89(w:Str):zi4 w= .int (z8U w):=by
 unfold zi4 z8U
 rcases z5y w with h|⟨i,h⟩<;>rw[h]
noncomputable def lE:D->D
 | .str x=>zi4 x
 |_=> .non
theorem zi6(ys:List Str):(ys.map D.str).map lE=iL (ys.map z8U):=by
 unfold iL
 rw[B7,B7]
 exact C9 fun y _=>z89 y
theorem zi7(w:Str): -1<=z8U w/\z8U w<100000:=by
 unfold z8U z02
 by_cases h:okN w=true
 ·rw[if_pos h]
  unfold okN at h
  erw[i6,decide_eq_true_eq] at h
  obtain⟨v,hv,ev,_⟩:=z5F h.2.2.1 h.1 h.2.1
  rw[ev]
  exact⟨by show(-1:Int)<=(v:Int);lia,by show(v:Int)<100000;lia⟩
 ·rw[if_neg h]
  exact⟨by decide,by decide⟩
noncomputable def z8a(w:Str):List Int:=(Txt.split w (Str.ofString ".")).map z8U
theorem zd9(w:Str)(hw:w.length<=1000000)(n:Nat): ∃n',n<=n'/\G6 [.str w] n= .ok (.tup (iL (z8a w))) [.str w] n':=by
 have hc:=z00 (y:=Str.ofString ".") hw
 obtain⟨n1,g1,e1⟩:=z09 (mi:=Y8 (J8 (y0 0) [(mC (.str ("." :Str)))] V3)) (K:=kLst) (tg:= .nm 0) (me:=mCall Q4 [(y0 0)]) (g:=lE) (sl:=fun d=>[some d]) (k:=1) (items:=(Txt.split w (Str.ofString ".")).map D.str) (its:=[some (.lst n ((Txt.split w (Str.ofString ".")).map D.str))]) (ix:=[]) (s:=⟨[some (.str w)],[some (.str w)],n⟩) (σ:=[some (.str w)]) (tm:=[some (.str w)]) (n:=n+1) (z3f (by
  left
  rw[z1F zcU (by rw[zl];lia)]
  rfl)) rfl (by rw[zl,m7];lia) (fun i rest=>rfl) rfl (by
  intro d hd
  refine⟨rfl,fun os ho=> ?_⟩
  match os,ho with
  |[a0],_=>rfl) (by
  intro d hd tm n
  obtain⟨p,hp,rfl⟩:=m9.mp hd
  refine⟨n,c9 _, ?_⟩
  erw[t7,i9]
  left
  rw[zch p (t8 (zb1 hp) hw)]
  left
  rfl)
 rw[zi6] at e1
 refine⟨n1+1,by lia, ?_⟩
 unfold G6 z2m
 left
 rw[e1]
 left
 rfl
theorem zi8: ∀s:List Int,GdL (iL s)
 |[]=>⟨rfl,rfl⟩
 |i::s=>by
  obtain⟨h1,h2⟩:=zi8 s
  exact⟨by erw[iL,l6,plainL,Mi.plain,A5] at h1⊢;exact h1,by erw[iL,l6,erL,er,PyData.canLayAll0,PyData.canLay0,A5] at h2⊢;exact h2⟩
theorem zaH{l m:Nat}{s:List Int}{q:Stt}:neD (.lst l (iL s)) (.lst m []) q= .ok (.bool (!s.isEmpty)) q:=by
 have g:=(Gd.lst (l:=l)).mpr (zi8 s)
 have g2:Gd (.lst m []):=⟨rfl,rfl⟩
 have d2:(er (.lst m [])).depth<=60:=show(PyData.list []).depth<=60 by decide
 rw[zkg (by erw[eqC,g.1,g.2,g2.1,g2.2,A5,decide_eq_true_eq];exact t8 (F7 _ _) d2)]
 cases s<;>rfl
noncomputable def out(M i:Int):Bool:= !(decide (0<=i)&&decide (i<M))
noncomputable def ziX(M:Int):D->Bool
 | .int i=>out M i
 |_=>false
theorem zaI(M:Int): ∀s:List Int,((iL s).filter (ziX M)).map id=iL (s.filter (out M))
 |[]=>rfl
 |i::s=>by
  have:=zaI M s
  erw[iL,l6,T3,S7] at this⊢
  show(if out M i=true then D.int i::_ else _)=_
  cases out M i with
  |true=>erw[if_true,l6];rw[this]
  |false=>erw[C4,if_false];exact this
noncomputable def inB(M:Int)(s:List Int):Bool:=s.all fun i=> !out M i
theorem zaJ(M:Int)(s:List Int):(!(s.filter (out M)).isEmpty)= !inB M s:=by
 unfold inB
 congr 1
 rw[B8,List.isEmpty_iff,List.filter_eq_nil_iff,A6]
 erw[Bool.not_eq_true,F5]
noncomputable def lw(N:Int):Int->List Pz->Bool
 |a,[]=>a==N
 |a,p::C=>(decide (a<p.e)&&decide (p.e<=N))&&((decide (0<=p.k)&&decide (p.k<9))&&(!decide (p.c<0)&& !decide (24<(p.ss.length:Int))))&&inB 1040 p.ss&&lw N p.e C
theorem zi9{i:Nat}{s:List Int}{M:Int}(hs:s.length<=1000002){σ tm:List (Option D)}(hi:σ[i]? =some (some (.tup (iL s))))(n:Nat): ∃n',n<=n'/\J0 (Y8 (y0 i)) (.nm 0) (z0t (W5 (Q9 (mC (.int 0)) (y0 0) (mC (.int M)) leD ltD))) (y0 0) 1 [] ⟨σ,tm,n⟩= .ok (.lst n' (iL (s.filter (out M)))) ⟨σ,tm,n'+1⟩:=by
 obtain⟨n1,g1,e1⟩:=z8M (mc:=y0 i) (mt:=z0t (W5 (Q9 (mC (.int 0)) (y0 0) (mC (.int M)) leD ltD))) (me:=y0 0) (p:=ziX M) (g:=id) (ds:=iL s) (ix:=[]) (s:=⟨σ,tm,n⟩) (σ:=σ) (tm:=tm) (n:=n) (by unfold y0;erw[hi]) (by rw[zl,Q2];lia) (by
  intro d hd tm n
  obtain⟨j,_,rfl⟩:=m9.mp hd
  refine⟨n,c9 _, ?_⟩
  erw[t7]
  left
  by_cases h0:0<=j
  ·erw[h0,decide_true,ziX,out]
   left
  ·erw[h0,decide_false,ziX,out]
   left) (by
  intro d hd _ tm n
  refine⟨n,c9 _, ?_⟩
  erw[t7]
  left
  rfl)
 rw[zaI] at e1
 exact⟨n1,g1,e1⟩
theorem z34{l:Nat}{ds:List D}{i:Nat}{tm:List (Option D)}:kLst.at' i (some (.lst l ds)::tm)=some ds[i]? :=rfl
theorem zl6{C:List Pz}{i:Nat}(h:i<C.length):(psD C)[i]? =some (.tup [.int C[i].e, .tup (iL C[i].ss), .int C[i].k, .int C[i].c]):=by
 unfold psD
 rw[List.getElem?_map,List.getElem?_eq_getElem h]
 rfl
noncomputable def okP(N a:Int)(p:Pz):Bool:=(decide (a<p.e)&&decide (p.e<=N))&&((decide (0<=p.k)&&decide (p.k<9))&&(!decide (p.c<0)&& !decide (24<(p.ss.length:Int))))&&inB 1040 p.ss
noncomputable def lwM:MS:=(Z1 (sIf (mOr (z0t (W5 (Q9 (y0 2) (y0 3) (mCB [(y0 0)] z27) ltD leD))) (mOr (z0t (W5 (Q9 (mC (.int 0)) (y0 5) (mC (.int 9)) leD ltD))) (mOr (W5 (y3 (y0 6) (mC (.int 0)) ltD)) (W5 (y3 (mCB [(y0 4)] z27) (mC (.int 24)) gtD))))) (Y9 (mC (.bool false))) sNx)
 (Z1 (sIf (W5 (y3 (J0 (Y8 (y0 4)) (.nm 0) (z0t (W5 (Q9 (mC (.int 0)) (y0 0) (mC (.int 1040)) leD ltD))) (y0 0) 1 []) (mCB [] lstM) neD)) (Y9 (mC (.bool false))) sNx)
 (Y4 (.nm 2) (y0 3))))
theorem zl7(S:List Int)(B:D)(p:Pz)(hps:p.ss.length<=1000002)(a:Int)(tm:List (Option D))(n:Nat): ∃n',n<=n'/\lwM ⟨[some (.tup (iL S)),some B,some (.int a),some (.int p.e),some (.tup (iL p.ss)),some (.int p.k),some (.int p.c)],tm,n⟩=if okP S.length a p=true then .nx ⟨[some (.tup (iL S)),some B,some (.int p.e),some (.int p.e),some (.tup (iL p.ss)),some (.int p.k),some (.int p.c)],tm,n'⟩ else .rt (.bool false) ⟨[some (.tup (iL S)),some B,some (.int a),some (.int p.e),some (.tup (iL p.ss)),some (.int p.k),some (.int p.c)],tm,n'⟩:=by
 unfold lwM
 left
 (try erw[Q2])
 by_cases h1:a<p.e
 ·erw[h1,decide_true]
  (try left)
  (try erw[Q2])
  by_cases h2:p.e<=S.length
  ·erw[h2,decide_true]
   (try left)
   (try erw[Q2])
   by_cases h3:0<=p.k
   ·erw[h3,decide_true]
    (try left)
    (try erw[Q2])
    by_cases h4:p.k<9
    ·erw[h4,decide_true]
     (try left)
     by_cases h5:p.c<0
     ·refine⟨n,c9 _, ?_⟩
      erw[okP,h1,h2,h3,h4,h5,decide_true,R8,B9,D9,A5,if_false,C4]
      (try left)
     ·erw[h5,decide_false]
      (try left)
      (try erw[Q2])
      by_cases h6:(24:Int)<p.ss.length
      ·refine⟨n,c9 _, ?_⟩
       erw[okP,h1,h2,h3,h4,h5,h6,decide_true,decide_false,N8,R8,B9,D9,A5,if_false,C4]
       (try left)
      ·erw[h6,decide_false]
       (try left)
       obtain⟨n1,g1,e1⟩:=zi9 (i:=4) (s:=p.ss) (M:=1040) hps (σ:=[some (.tup (iL S)),some B,some (.int a),some (.int p.e),some (.tup (iL p.ss)),some (.int p.k),some (.int p.c)]) (tm:=tm) rfl n
       rw[e1]
       left
       rw[zaH,zaJ]
       refine⟨n1+1+1,by lia, ?_⟩
       erw[okP,h1,h2,h3,h4,h5,h6,decide_true,decide_false,N8,A5]
       cases inB 1040 p.ss with
       |true=>left;rfl
       |false=>left;rfl
    ·refine⟨n,c9 _, ?_⟩
     erw[okP,h1,h2,h3,h4,decide_false,decide_true,B9,D9,A5,if_false,C4]
     (try left)
   ·refine⟨n,c9 _, ?_⟩
    erw[okP,h1,h2,h3,decide_false,decide_true,B9,D9,A5,if_false,C4]
    (try left)
  ·refine⟨n,c9 _, ?_⟩
   erw[okP,h1,h2,decide_false,decide_true,B9,D9,A5,if_false,C4]
   (try left)
 ·refine⟨n,c9 _, ?_⟩
  erw[okP,h1,decide_false,decide_true,B9,D9,A5,if_false,C4]
  (try left)
noncomputable def ziY(S:List Int)(C:List Pz):Bool:= !decide (24<(S.length:Int))&&inB 40 S&&lw S.length 0 C
theorem zl8(S:List Int)(C:List Pz)(hC: ∀p∈C,p.ss.length<=1000002)(L:Nat): ∀(f i:Nat) (a:Int) (o3 o4 o5 o6:Option D) (n:Nat),i+f=C.length->∃n',n<=n'/\((forGo kLst (.tp [(.nm 3),(.nm 4),(.nm 5),(.nm 6)]) lwM f i ⟨[some (.tup (iL S)),some (.lst L (psD C)),some (.int a),o3,o4,o5,o6],[some (.lst L (psD C)),some (.tup (iL S)),some (.lst L (psD C))],n⟩).sq (Y9 (y3 (y0 2) (mCB [(y0 0)] z27) eqD))).fin= .ok (.bool (lw S.length a (C.drop i))) [.tup (iL S), .lst L (psD C)] n':=by
 intro f
 induction f with
 |zero=>
  intro i a o3 o4 o5 o6 n hi
  refine⟨n,c9 _, ?_⟩
  unfold forGo
  erw[z34,List.getElem?_eq_none (show(psD C).length<=i by rw[z1E];lia),z6x,z32,C6 (show C.length<=i by lia),lw]
  left
  rw[Q2]
 |succ f ih=>
  intro i a o3 o4 o5 o6 n hi
  have hl:i<C.length:=by lia
  obtain⟨n1,g1,e1⟩:=zl7 S (.lst L (psD C)) C[i] (hC _ (A4 hl)) a [some (.lst L (psD C)),some (.tup (iL S)),some (.lst L (psD C))] n
  unfold forGo
  erw[z34,zl6 hl,asg,asgL,B5,A7]
  rw[B2 hl,show lw S.length a (C[i]::C.drop (i+1))=(okP S.length a C[i]&&lw S.length C[i].e (C.drop (i+1))) from rfl]
  cases hk:okP S.length a C[i] with
  |false=>
   rw[hk,if_neg (by decide)] at e1
   rw[e1]
   refine⟨n1,g1, ?_⟩
   erw[z6x,z32,B9]
   left
  |true=>
   rw[hk,if_pos rfl] at e1
   rw[e1]
   obtain⟨n2,g2,e2⟩:=ih (i+1) C[i].e (some (.int C[i].e)) (some (.tup (iL C[i].ss))) (some (.int C[i].k)) (some (.int C[i].c)) n1 (by lia)
   refine⟨n2,by lia, ?_⟩
   rw[A5]
   exact e2
theorem zia(S:List Int)(hS:S.length<=1000002)(C:List Pz)(hC: ∀p∈C,p.ss.length<=1000002)(L n:Nat): ∃n',n<=n'/\U7 [.tup (iL S), .lst L (psD C)] n= .ok (.bool (ziY S C)) [.tup (iL S), .lst L (psD C)] n':=by
 unfold U7
 have e0:z0S=(Z1 (sIf (mOr (W5 (y3 (mCB [(y0 0)] z27) (mC (.int 24)) gtD)) (W5 (y3 (J0 (Y8 (y0 0)) (.nm 0) (z0t (W5 (Q9 (mC (.int 0)) (y0 0) (mC (.int 40)) leD ltD))) (y0 0) 1 []) (mCB [] lstM) neD))) (Y9 (mC (.bool false))) sNx)
  (Z1 (Y4 (.nm 2) (mC (.int 0)))
  (Z1 (z1V (Y8 (y0 1)) (.tp [(.nm 3),(.nm 4),(.nm 5),(.nm 6)]) lwM)
  (Y9 (y3 (y0 2) (mCB [(y0 0)] z27) eqD))))):=rfl
 rw[e0]
 left
 unfold ziY
 erw[Q2]
 by_cases h1:(24:Int)<S.length
 ·refine⟨n,c9 _, ?_⟩
  erw[h1,decide_true]
  left
 ·erw[h1,decide_false]
  left
  obtain⟨n1,g1,e1⟩:=zi9 (i:=0) (s:=S) (M:=40) hS (σ:=[some (.tup (iL S)),some (.lst L (psD C)),none,none,none,none,none]) (tm:=[some (.tup (iL S)),some (.lst L (psD C))]) rfl n
  rw[e1]
  left
  rw[zaH,zaJ]
  cases inB 40 S with
  |false=>
   refine⟨n1+1+1,by lia, ?_⟩
   left
  |true=>
   obtain⟨n2,g2,e2⟩:=zl8 S C hC L C.length 0 0 none none none none (n1+1+1) (by lia)
   refine⟨n2,by lia, ?_⟩
   rw[D4] at e2
   left
   rw[<-e2,<-z1E]
   rfl
noncomputable def Nm'(M:Int)(s:List Int):Prop:= ∀i∈s,0<=i/\i<M
theorem zaK{M:Int}{s:List Int}:inB M s=true↔Nm' M s:=by
 unfold inB Nm' out
 rw[A6]
 constructor
 ·intro h i hi
  have:=h i hi
  simpa using this
 ·intro h i hi
  have:=h i hi
  simp[this.1,this.2]
theorem z5G{M:Int}{s:List Int}(h1:1<=s.length):rowB 1 24 (M - 1) (.tup (iL s))=true↔s.length<=24/\Nm' M s:=by
 erw[rowB,i6,decide_eq_true_eq,A6,Q2]
 constructor
 ·rintro ⟨⟨_,h2⟩,h3⟩
  refine⟨by lia,fun i hi=> ?_⟩
  have:=h3 (.int i) (m9.mpr ⟨i,hi,rfl⟩)
  erw[inR,i6,decide_eq_true_eq] at this
  lia
 ·rintro ⟨h2,h3⟩
  refine⟨⟨by lia,by lia⟩,fun d hd=> ?_⟩
  obtain⟨i,hi,rfl⟩:=m9.mp hd
  have:=h3 i hi
  erw[inR,i6,decide_eq_true_eq]
  lia
theorem zib{N a:Int}{p:Pz}(h1:1<=p.ss.length)(hc:p.c<=99999):okP N a p=U9 a N p.d:=by
 rw[B8]
 have hr:=z5G (M:=1040) h1
 have hr':rowB 1 24 1039 (.tup (iL p.ss))=true↔p.ss.length<=24/\Nm' 1040 p.ss:=hr
 erw[okP,U9,Pz.d,inR,i6,decide_eq_true_eq,F5,decide_eq_false_iff_not,hr',zaK]
 constructor
 ·rintro ⟨⟨⟨a1,a2⟩,⟨a3,a4⟩,a5,a6⟩,a7⟩
  exact⟨⟨by lia,a2⟩,⟨by lia,a7⟩,⟨a3,by lia⟩,by lia,hc⟩
 ·rintro ⟨⟨a1,a2⟩,⟨a3,a4⟩,⟨a5,a6⟩,a7,a8⟩
  exact⟨⟨⟨by lia,a2⟩,⟨a5,by lia⟩,by lia,by lia⟩,a4⟩
theorem zda{N:Int}: ∀{C:List Pz} {a:Int},(∀p∈C,1<=p.ss.length/\p.c<=99999)->lw N a C=z5E N a (psD C)
 |[],a,_=>rfl
 |p::C,a,h=>by
  have hp:=h p (by simp)
  show(okP N a p&&lw N p.e C)=(U9 a N p.d&&z5E N (zkY p.d) (psD C))
  rw[zib hp.1 hp.2,zda (C:=C) fun q hq=>h q (by simp[hq])]
  rfl
theorem zeJ{S:List Int}{C:List Pz}(b:Bool)(hS:1<=S.length)(h: ∀p∈C,1<=p.ss.length/\p.c<=99999):ziY S C=V0 (Cm.mk S C b).d:=by
 unfold ziY
 show _=(rowB 1 24 39 (.tup (iL S))&&z5E (zcc (.tup (iL S))) 0 (psD C))
 rw[zda h,show zcc (.tup (iL S))=S.length by erw[zcc,Q2]]
 congr 1
 have hr:rowB 1 24 39 (.tup (iL S))=true↔S.length<=24/\Nm' 40 S:=z5G (M:=40) hS
 rw[B8,hr]
 erw[i6,F5,decide_eq_false_iff_not,zaK]
 constructor
 ·rintro ⟨a1,a2⟩
  exact⟨by lia,a2⟩
 ·rintro ⟨a1,a2⟩
  exact⟨by lia,a2⟩
theorem z8b{M:Int}{s:List Int}(h:rowB 1 24 (M - 1) (.tup (iL s))=true):(1<=s.length/\s.length<=24)/\Nm' M s:=by
 have h1:1<=s.length:=by
  erw[rowB,i6,decide_eq_true_eq,Q2] at h
  lia
 have:=(z5G h1).mp h
 exact⟨⟨h1,this.1⟩,this.2⟩
theorem zdb{N:Int}(hN:N<=24): ∀{C:List Pz} {a:Int},0<=a->z5E N a (psD C)=true->(∀p∈C,p.ok)/\(C.length:Int)<=N -a
 |[],a,_,h=>by
  have:a=N:=by simpa[psD,z5E] using h
  exact⟨(fun _ h=>nomatch h),by simp;lia⟩
 |p::C,a,h0,h=>by
  have h':(U9 a N p.d&&z5E N p.e (psD C))=true:=h
  rw[i6] at h'
  obtain⟨h1,h2⟩:=h'
  erw[U9,Pz.d,inR,i6,decide_eq_true_eq] at h1
  obtain⟨⟨a1,a2⟩,a3,⟨a5,a6⟩,a7,a8⟩:=h1
  have a3':=z8b (M:=1040) a3
  obtain⟨r1,r2⟩:=zdb hN (C:=C) (show 0<=p.e by lia) h2
  refine⟨fun q hq=> ?_,by erw[i7];lia⟩
  rcases i8.mp hq with rfl|hq
  ·exact⟨⟨by lia,by lia⟩,⟨fun i hi=>by have:=a3'.2 i hi;lia,a3'.1.1,a3'.1.2⟩,⟨a5,by lia⟩,⟨a7,by lia⟩⟩
  ·exact r1 q hq
theorem zaL{c:Cm}(h:V0 c.d=true):Good c:=by
 have h':(rowB 1 24 39 (.tup (iL c.S))&&z5E (zcc (.tup (iL c.S))) 0 (psD c.C))=true:=h
 rw[i6,show zcc (.tup (iL c.S))=c.S.length by erw[zcc,Q2]] at h'
 have hs:=z8b (M:=40) h'.1
 obtain⟨r1,r2⟩:=zdb (by lia) (by decide) h'.2
 refine⟨⟨⟨fun i hi=>by have:=hs.2 i hi;lia,hs.1.1,hs.1.2⟩,⟨?_,by lia⟩,r1⟩,h⟩
 cases hc:c.C with
 |nil=>
  have h3:=h'.2
  rw[hc] at h3
  have:(0:Int)=c.S.length:=by simpa[psD,z5E] using h3
  lia
 |cons _ _=>simp
theorem zdc{z:List Nat}{c:Nat}: ∀{xs:List (List Nat)} {y:List Nat},y∈xs->c∈y->c∈jn z xs
 |[x],y,hy,hc=>by
  rw[B0.mp hy] at hc
  exact hc
 |x::x'::xs,y,hy,hc=>by
  erw[jn,i5]
  rcases i8.mp hy with rfl|hy
  ·exact .inl hc
  ·exact .inr (.inr (zdc hy hc))
theorem z5H(x:Str)(c:Nat):sg x=jn [c] ((Txt.split x ⟨#[c]⟩).map sg):=by
 have h:=X3 ⟨#[c]⟩ (Txt.split x ⟨#[c]⟩)
 rw[z44] at h
 rw[<-h]
 show _=sg (Builtin.Str.glued _ _)
 rw[StrLaws.glued_eq_join,StrLaws.join_split]
theorem z5I{x:Str}{c:Nat}(h:Lo (sg x)): ∀p∈Txt.split x ⟨#[c]⟩,Lo (sg p):=fun p hp d hd=>h d (by
 rw[z5H x c]
 exact zdc (m9.mpr ⟨p,hp,rfl⟩) hd)
noncomputable def rd(w:Str):Option Cm:= @dite _ (∃c,Good c/\bo c=w) (Classical.propDecidable _) (fun h=>some h.choose) (fun _=>none)
theorem z5J{w:Str}{c:Cm}(h:rd w=some c):Good c/\bo c=w:=by
 unfold rd at h
 split at h
 ·rename_i q
  cases h
  exact q.choose_spec
 ·cases h
theorem z1H{w:Str}(h: ∀c,Good c->bo c≠w):rd w=none:=by
 unfold rd
 rw[dif_neg]
 rintro ⟨c,h1,h2⟩
 exact h c h1 h2
noncomputable def ofC:D->Cm
 | .tup [.tup s, .tup ps, .bool b]=>⟨s.map toI,ps.map toP,b⟩
 |_=>⟨[],[],false⟩
theorem zci(c:Cm):ofC c.d=c:=by
 obtain⟨S,C,b⟩:=c
 erw[Cm.d,ofC,z83,zav]
theorem zeK{C:List Pz}(h: ∀p∈C,p.ok):(C.map pT).map z0s=psD C:=by
 rw[B7]
 exact C9 fun p hp=>zeE (h p hp)
theorem z3u{c:Cm}(h:c.ok){a b z:Str}{r:List Str}(e:Txt.split (bo c) (Str.ofString " ")=a::b::(r++[z])):D.tup [z1G a, .tup (r.map z0s), .bool (b==Str.ofString "1")]=c.d/\a=dt c.S/\b=bT c.b/\r=c.C.map pT:=by
 rw[z87 h] at e
 unfold bP at e
 erw[List.cons.injEq] at e
 obtain⟨rfl,rfl,e⟩:=e
 have:=(List.append_inj' e rfl).1
 subst this
 refine⟨?_,rfl,rfl,rfl⟩
 rw[zaA h.1.1 (z2C h.1.2.1),zeK h.2.2,zhW]
 rfl
theorem z7p{c:Cm}(h:c.ok):4<=(Txt.split (bo c) (Str.ofString " ")).length:=by
 rw[z87 h]
 have:=h.2.1.1
 erw[bP,i7,l8,m7,n9]
 lia
theorem z35{l:List Str}(h:4<=l.length): ∃a b r z,l=a::b::(r++[z]):=by
 match l,h with
 |a::b::l,h=>
  have hl:l≠[]:=fun q=>by rw[q] at h;simp at h
  exact⟨a,b,l.dropLast,l.getLast hl,by rw[D6]⟩
theorem zic{c c':Cm}(h:c.ok)(h':c'.ok)(e:bo c=bo c'):c=c':=by
 obtain⟨a,b,r,z,q⟩:=z35 (z7p h)
 have e1:=(z3u h q).1
 rw[e] at q
 have e2:=(z3u h' q).1
 rw[<-zci c,<-zci c',<-e1,<-e2]
theorem zid{c:Cm}(h:Good c):rd (bo c)=some c:=by
 cases e:rd (bo c) with
 |none=>
  unfold rd at e
  rw[dif_pos ⟨c,h,rfl⟩] at e
  cases e
 |some q=>
  obtain⟨h1,h2⟩:=z5J e
  rw[zic h1.1 h.1 h2]
noncomputable def rdD(w:Str):D:=match rd w with
 |some c=>c.d
 |none=> .non
theorem zaM{ss:List D}(h:ss.all isInt=true): ∃s,ss=iL s:=zaj fun d hd=>by
 have:=A6.mp h d hd
 cases d<;>first|exact⟨_,rfl⟩|(simp[isInt] at this;done)
theorem zl9{a l:Int}{t:D}(h:U9 a l t=true): ∃q:Pz,t=q.d:=by
 have hk:=z2o h
 obtain⟨e,ss,k,c,rfl⟩:=z2p hk
 erw[z3h,i6] at hk
 obtain⟨s,rfl⟩:=zaM hk.2
 exact⟨⟨e,s,k,c⟩,rfl⟩
theorem zdd{l:Int}: ∀{ps:List D} {a:Int},z5E l a ps=true->∃C,ps=psD C
 |[],_,_=>⟨[],rfl⟩
 |p::ps,a,h=>by
  erw[z5E,i6] at h
  obtain⟨q,rfl⟩:=zl9 h.1
  obtain⟨C,rfl⟩:=zdd h.2
  exact⟨q::C,rfl⟩
theorem zla{t:D}(h:V0 t=true): ∃c:Cm,t=c.d:=by
 unfold V0 at h
 split at h
 ·rename_i s ps b
  rw[i6] at h
  obtain⟨ss,rfl,q⟩:=z5D h.1
  obtain⟨S,rfl⟩:=zaM q
  obtain⟨C,rfl⟩:=zdd h.2
  exact⟨⟨S,C,b⟩,rfl⟩
 ·cases h
theorem zcj(w:Str):Rw (z02 w)=true:=by
 rcases z5y w with h|⟨i,h⟩<;>rw[h]<;>rfl
theorem z8c{ds:List D}(h1:ds.length<=1000002)(h2: ∀d∈ds,Rw d=true):Rw (.tup ds)=true:=by
 erw[Rw,i6,decide_eq_true_eq,z5B];exact⟨h1,h2⟩
theorem zde{w:Str}(hw:w.length<=1000000):Rw (z1G w)=true:=by
 unfold z1G
 split
 ·rfl
 ·refine z8c (by rw[m7];exact z00 hw) fun d hd=> ?_
  obtain⟨p,_,rfl⟩:=m9.mp hd
  exact zcj p
theorem zie{w:Str}(hw:w.length<=1000000):Rw (z0s w)=true:=by
 unfold z0s
 have hs: ∀p∈Txt.split w (Str.ofString ":"),p.length<=1000000:=fun p hp=>t8 (zb1 hp) hw
 split
 ·rename_i a b c d e
  have hb:=hs b (by rw[e];simp)
  refine z8c (by simp) fun x hx=> ?_
  erw[i8,t9,or_false] at hx
  rcases hx with rfl|rfl|rfl|rfl
  ·exact zcj a
  ·exact zde hb
  ·exact zcj c
  ·exact zcj d
 ·rfl
theorem zaN{x y:Str}:(x++Str.ofString ";" ==y++Str.ofString ";")=(x==y):=by
 rw[B8,beq_iff_eq,beq_iff_eq]
 constructor
 ·intro h
  have:=congrArg sg h
  rw[K9,K9] at this
  exact z0r (List.append_cancel_right this)
 ·intro h
  rw[h]
theorem zeL(r:List Str):(r.map D.str).map rPd=r.map z0s:=by rw[B7];rfl
theorem zeM(w:Str)(hw:w.length<=1000000)(n:Nat): ∃n',n<=n'/\U6 [.str w] n= .ok (rdD w) [.str w] n':=by
 have hp: ∀p∈Txt.split w (Str.ofString " "),p.length<=1000000:=fun p h=>t8 (zb1 h) hw
 have hq:=z00 (y:=Str.ofString " ") hw
 have hbo: ∀c,Good c->bo c=w->4<=(Txt.split w (Str.ofString " ")).length:=fun c hg e=>by rw[<-e];exact z7p hg.1
 have hpt: ∀c,Good c->bo c=w->∀a b r z,Txt.split w (Str.ofString " ")=a::b::(r++[z])->D.tup [z1G a, .tup (r.map z0s), .bool (b==Str.ofString "1")]=c.d:=fun c hg e a b r z q=>(z3u hg.1 (by rw[e];exact q)).1
 unfold U6 z0O
 left
 rw[z1F zcW (by rw[zl];lia)]
 generalize Txt.split w (Str.ofString " ")=ws at hp hq hbo hpt
 left
 rw[m7]
 by_cases hl:4<=ws.length
 ·obtain⟨a,b,r,z,rfl⟩:=z35 hl
  rw[decide_eq_false (show ¬(((a::b::(r++[z])).length:Nat):Int)<4 by lia)]
  have hpt':=fun c hg e=>hpt c hg e a b r z rfl
  have hr:r.length<=1000002:=by erw[i7,l8] at hq;lia
  obtain⟨n1,g1,e1⟩:=z09 (mi:=Y8 (mSl (y0 1) (some (mC (.int 2))) (some (bd (mC (.int 1)) z8S)))) (K:=kLst) (tg:= .nm 0) (me:=mCall g9 [(y0 0)]) (g:=rPd) (sl:=fun d=>[some d]) (k:=1) (items:=r.map D.str) (its:=[some (.lst (n+1) (r.map D.str))]) (ix:=[]) (s:=⟨[some (.str w),some (.lst n ((a::b::(r++[z])).map D.str)),none,none],[some (.str w)],n+1⟩) (σ:=[some (.str w),some (.lst n ((a::b::(r++[z])).map D.str)),none,none]) (tm:=[some (.str w)]) (n:=n+1+1) (z3f (by
   left
   rw[A9,D3,zaC]
   rfl)) rfl (by rw[zl];erw[m7];lia) (fun i rest=>rfl) rfl (by
   intro d hd
   refine⟨rfl,fun os ho=> ?_⟩
   match os,ho with
   |[a0],_=>rfl) (by
   intro d hd tm n
   obtain⟨x,hx,rfl⟩:=m9.mp hd
   obtain⟨n',h1,e⟩:=zhE x (hp x (by simp[hx])) n
   refine⟨n',h1, ?_⟩
   erw[t7,i9]
   left
   rw[e]
   left
   rfl)
  rw[zeL] at e1
  obtain⟨n2,g2,e2⟩:=zhD a (hp a (by simp)) (n1+1)
  obtain⟨n3,g3,e3⟩:=zhV (.tup [z1G a, .tup (r.map z0s), .bool (b==Str.ofString "1")]) n2 (z8c (by simp) (by
   intro x hx
   erw[i8,t9,or_false] at hx
   rcases hx with rfl|rfl|rfl
   ·exact zde (hp a (by simp))
   ·refine z8c (by rw[m7];exact hr) fun d hd=> ?_
    obtain⟨p,h,rfl⟩:=m9.mp hd
    exact zie (hp p (by simp[h]))
   ·rfl))
  left
  erw[l6] at e1
  rw[e1]
  left
  rw[e2]
  left
  rw[zam]
  left
  rw[e3]
  generalize hT:D.tup [z1G a, .tup (r.map z0s), .bool (b==Str.ofString "1")]=T at*
  cases hB:V0 T with
  |false=>
   refine⟨n3,by lia, ?_⟩
   have:rd w=none:=z1H fun c hg e=>by
    rw[hpt' c hg e] at hB
    rw[hg.2] at hB
    cases hB
   left
   unfold rdD
   rw[this]
  |true=>
   obtain⟨c,rfl⟩:=zla hB
   have hg:=zaL hB
   obtain⟨n4,g4,e4⟩:=zkQ c hg.1 n3
   refine⟨n4,by lia, ?_⟩
   left
   rw[e4]
   left
   rw[z0a (by rw[zl,z8P];lia),<-zaB]
   left
   rw[z5x,zaN]
   unfold rdD
   by_cases he:bo c=w
   ·rw[<-he,zid hg,beq_self_eq_true]
    left
   ·rw[show(bo c==w)=false from beq_eq_false_iff_ne.mpr he]
    have:rd w=none:=z1H fun c' hg' e=>he (by
     have:=hpt' c' hg' e
     rw[<-zci c,this,zci,e])
    left
    rw[this]
 ·rw[decide_eq_true (show((ws.length:Nat):Int)<4 by lia)]
  refine⟨n+1,by lia, ?_⟩
  have:rd w=none:=z1H fun c hg e=>hl (hbo c hg e)
  left
  unfold rdD
  rw[this]
noncomputable def upR:List Str->List Cm
 |[]=>[]
 |w::r=>match rd w with
  |some c=>c::upR r
  |none=>[]
noncomputable def upF:Nat->List Str->List Cm
 |0,_=>[]
 |k+1,p::q::r=>match rd p with
  |some c=>c::upF k (q::r)
  |none=>[]
 |_+1,_=>[]
theorem zif: ∀(k:Nat) (ps:List Str),upR (ps.dropLast.take k)=upF k ps
 |0,ps=>by rw[R6];rfl
 |k+1,[]=>rfl
 |k+1,[p]=>rfl
 |k+1,p::q::r=>by
  rw[List.dropLast_cons₂,D7]
  erw[upR,upF,zif k (q::r)]
theorem zdf: ∀(k:Nat) (ps:List Str),(∀c∈upF k ps,Good c)/\(upF k ps).length<=k
 |0,ps=>⟨fun _ h=>(nomatch h),c9 _⟩
 |k+1,[]=>⟨fun _ h=>(nomatch h),L7 _⟩
 |k+1,[p]=>⟨fun _ h=>(nomatch h),L7 _⟩
 |k+1,p::q::r=>by
  obtain⟨h1,h2⟩:=zdf k (q::r)
  erw[upF]
  cases e:rd p with
  |none=>exact⟨fun _ h=>(nomatch h),L7 _⟩
  |some c=>exact⟨A8.mpr ⟨(z5J e).1,h1⟩,by erw[i7];lia⟩
theorem cut_take{α:Type}{l:List α}{k:Nat}:z1i l none (some (k:Int))=l.take k:=by
 unfold z1i
 rw[HT.sIx_none,HT.sIx_nat,D4,u01]
 rcases Nat.le_total k l.length with h|h
 ·rw[M8 h]
 ·rw[S6 h,B3 (c9 _),B3 h]
theorem zck{l:List D}(h:l≠[]):z1i l none (some (-1))=l.dropLast:=by
 conv=>lhs;rw[<-D6 h]
 exact zcf
theorem zaO(a b:List Cm):csD (a++b)=csD a++csD b:=by simp[csD]
theorem zig{s:Stt}:isN .non .non s= .ok (.bool true) s:=(rfl)
noncomputable def cuM:MS:=(Z1 (Y4 (.nm 3) (mCall U6 [(y0 2)])) (Z1 (sIf (W5 (y3 (y0 3) (mC .non) isN)) (Y9 (y0 1)) sNx) (z1e (z0w (y0 1) [(y0 3)] z6H))))
theorem zlb(x:Str)(rows:List Str)(hp: ∀p∈rows,p.length<=1000000)(hz:rows.length<=60)(L l:Nat)(hL:L≠l): ∀(f i:Nat) (acc:List Cm) (o2 o3:Option D) (n:Nat),i+f=rows.length->acc.length=i->∃n',n<=n'/\((forGo kLst (.nm 2) cuM f i ⟨[some (.str x),some (.lst l (csD acc)),o2,o3],[some (.lst L (rows.map D.str)),some (.str x)],n⟩).sq (Y9 (y0 1))).fin= .ok (.lst l (csD (acc++upR (rows.drop i)))) [.str x] n':=by
 intro f
 induction f with
 |zero=>
  intro i acc o2 o3 n hi ha
  refine⟨n,c9 _, ?_⟩
  unfold forGo
  erw[z34,List.getElem?_eq_none (show(rows.map D.str).length<=i by rw[m7];lia),z6x,z32,C6 (show rows.length<=i by lia),upR,i9]
  left
 |succ f ih=>
  intro i acc o2 o3 n hi ha
  have hl:i<rows.length:=by lia
  obtain⟨n1,g1,e1⟩:=zeM rows[i] (hp _ (A4 hl)) n
  rw[B2 hl]
  unfold forGo
  erw[z34,List.getElem?_map,List.getElem?_eq_getElem hl,C1,asg,B5,A7,upR]
  unfold cuM
  left
  rw[e1]
  unfold rdD
  cases hr:rd rows[i] with
  |none=>
   refine⟨n1,g1, ?_⟩
   dsimp only
   left
   rw[zig]
   left
   erw[z6x,z32]
   left
  |some c=>
   have hg:=(z5J hr).1
   obtain⟨n2,g2,e2⟩:=ih (i+1) (acc++[c]) (some (.str rows[i])) (some c.d) n1 (by lia) (by erw[l8,i7,n9];lia)
   refine⟨n2,by lia, ?_⟩
   dsimp only
   left
   rw[zhZ]
   left
   rw[z8I ⟨by rw[zl,z4I];lia,by rw[z7n _ hg.1];exact t9⟩]
   left
   erw[z7j,zc9 hL]
   rw[zaO,t5] at e2
   exact e2
theorem zih(x:Str)(hx:x.length<=1000000)(n:Nat): ∃n',n<n'/\W7 [.str x] n= .ok (.lst n (csD (upF 60 (Txt.split x (Str.ofString ";"))))) [.str x] n':=by
 have hp: ∀p∈Txt.split x (Str.ofString ";"),p.length<=1000000:=fun p h=>t8 (zb1 h) hx
 have hne:Txt.split x (Str.ofString ";")≠[]:=z0W
 have e0:z0Q=(Z1 (sIf (z0t (G9 (z68 "str" (y0 0)))) sNo sNx) (Z1 (Y4 (.nm 1) (mCB [] lstM)) (Z1 (z1V (Y8 (mSl (mSl (J8 (y0 0) [(mC (.str (";" :Str)))] V3) none (some (bd (mC (.int 1)) z8S))) none (some (mC (.int 60))))) (.nm 2) cuM) (Y9 (y0 1))))):=rfl
 obtain⟨n1,g1,e1⟩:=zlb x ((Txt.split x (Str.ofString ";")).dropLast.take 60) (fun p h=>hp p ((List.dropLast_sublist _).subset (E4 h))) (by erw[C2];lia) (n+1+1+1) n (by lia) ((Txt.split x (Str.ofString ";")).dropLast.take 60).length 0 [] none none (n+1+1+1+1) (by lia) rfl
 rw[D4,n5,zif] at e1
 refine⟨n1,by lia, ?_⟩
 unfold W7
 rw[e0]
 left
 rw[z3f (l:=n+1+1+1) (ds:=((Txt.split x (Str.ofString ";")).dropLast.take 60).map D.str) (σ:=[some (.str x),some (.lst n []),none,none]) (tm:=[some (.str x)]) (n:=n+1+1+1+1) (by
  left
  rw[z1F zcX (by rw[zl];lia)]
  left
  rw[zck (by simpa using hne),<-List.map_dropLast]
  try (left)
  rw[show(60:Int)=((60:Nat):Int) from rfl,cut_take,<-O4])]
 left
 rw[show ∀tm,kLst.len (some (.lst (n+1+1+1) (((Txt.split x (Str.ofString ";")).dropLast.take 60).map D.str))::tm)=((Txt.split x (Str.ofString ";")).dropLast.take 60).length from fun tm=>by simp[kLst,z3a]]
 exact e1
noncomputable def zb2(w:Str):Bool:=(Txt.split w (Str.ofString ":")).length==4
noncomputable def pzL(w:Str):Pz:=match Txt.split w (Str.ofString ":") with
 |[a,b,c,d]=>⟨z8U a,z8a b,z8U c,z8U d⟩
 |_=>⟨0,[],0,0⟩
theorem z3v{i:Int}(h:0<=i/\i<100000):z8U (num i)=i:=by
 unfold z8U
 rw[z2A h.1 h.2]
theorem zaP{s:List Int}(h:Nm s)(hn:s≠[]):z8a (dt s)=s:=by
 unfold z8a
 rw[z85 h hn,B7]
 conv=>rhs;rw[<-T3 s]
 exact C9 fun i hi=>z3v (h i hi)
theorem zdg{p:Pz}(h:p.ok):pzL (pT p)=p/\zb2 (pT p)=true:=by
 unfold pzL zb2
 rw[z86 h]
 refine⟨?_,rfl⟩
 dsimp only
 rw[z3v h.1,zaP h.2.1.1 (z2C h.2.1.2.1),z3v h.2.2.1,z3v h.2.2.2]
theorem zlc{w:Str}(hw:w.length<=1000000)(h:zb2 w=true):(1<=(pzL w).ss.length/\(pzL w).c<=99999)/\(pzL w).ss.length<=1000002:=by
 have hs: ∀p∈Txt.split w (Str.ofString ":"),p.length<=1000000:=fun p hp=>t8 (zb1 hp) hw
 unfold zb2 at h
 unfold pzL
 generalize Txt.split w (Str.ofString ":")=ps at h hs
 rcases ps with _|⟨a,_|⟨b,_|⟨c,_|⟨d,_|⟨e,r⟩⟩⟩⟩⟩<;>simp at h
 have h1:=zi7 d
 have h2:=z00 (y:=Str.ofString ".") (hs b (by simp))
 have h3:Txt.split b (Str.ofString ".")≠[]:=z0W
 have h4:1<=(Txt.split b (Str.ofString ".")).length:=by
  cases e:Txt.split b (Str.ofString ".") with
  |nil=>exact absurd e h3
  |cons _ _=>simp
 dsimp only[z8a]
 rw[m7]
 exact⟨⟨h4,by lia⟩,h2⟩
theorem zeN(a b:List Pz):psD (a++b)=psD a++psD b:=by simp[psD]
noncomputable def ciM:MS:=(Z1 (Y4 (.nm 4) (J8 (y0 3) [(mC (.str (":" :Str)))] V3))
 (Z1 (sIf (W5 (y3 (mCB [(y0 4)] z27) (mC (.int 4)) neD)) (Y9 (mC .non)) sNx)
 (z1e (z0w (y0 2) [(mCB [(mCall Q4 [(y3 (y0 4) (mC (.int 0)) ixD)]),(mCall G6 [(y3 (y0 4) (mC (.int 1)) ixD)]),(mCall Q4 [(y3 (y0 4) (mC (.int 2)) ixD)]),(mCall Q4 [(y3 (y0 4) (mC (.int 3)) ixD)])] z1U)] z6H))))
theorem zeO(w p:Str)(hp:p.length<=1000000)(ws rows:List Str)(acc:List Pz)(ha:acc.length<=1000002)(Lw L l n:Nat)(h1:Lw≠l)(h2:L≠l)(h3:l<n)(o4:Option D): ∃n',n<=n'/\ciM ⟨[some (.str w),some (.lst Lw (ws.map D.str)),some (.lst l (psD acc)),some (.str p),o4,none],[some (.lst L (rows.map D.str)),some (.str w)],n⟩=if zb2 p=true then .nx ⟨[some (.str w),some (.lst Lw (ws.map D.str)),some (.lst l (psD (acc++[pzL p]))),some (.str p),some (.lst n ((Txt.split p (Str.ofString ":")).map D.str)),none],[some (.lst L (rows.map D.str)),some (.str w)],n'⟩ else .rt .non ⟨[some (.str w),some (.lst Lw (ws.map D.str)),some (.lst l (psD acc)),some (.str p),some (.lst n ((Txt.split p (Str.ofString ":")).map D.str)),none],[some (.lst L (rows.map D.str)),some (.str w)],n'⟩:=by
 have hs: ∀q∈Txt.split p (Str.ofString ":"),q.length<=1000000:=fun q hq=>t8 (zb1 hq) hp
 unfold ciM
 left
 rw[z1F zcV (by rw[zl];lia)]
 left
 unfold zb2 pzL
 generalize Txt.split p (Str.ofString ":")=ps at hs
 erw[m7]
 by_cases hl:ps.length=4
 ·rcases ps with _|⟨a,_|⟨b,_|⟨c,_|⟨d,_|⟨e,r⟩⟩⟩⟩⟩<;>simp at hl
  obtain⟨n2,g2,e2⟩:=zd9 b (hs b (by simp)) (n+1)
  refine⟨n2,by lia, ?_⟩
  left
  rw[show(((4:Nat):Int)==4)=true from rfl]
  left
  rw[zch a (hs a (by simp)),z89]
  left
  rw[e2]
  left
  rw[zch c (hs c (by simp)),z89]
  left
  rw[zch d (hs d (by simp)),z89]
  left
  rw[z8I ⟨by rw[zl,z1E];lia,by erw[y4,labsL,z7l,i9];exact t9⟩]
  left
  erw[zc9 h1,zc9 h2,z7i,z4l (show n≠l by lia),z0V,zac,z5t]
  rw[if_pos trivial,zeN]
  rfl
 ·have e:(((ps.length:Nat):Int)==4)=false:=by simp;lia
  refine⟨n+1,by lia, ?_⟩
  erw[e]
  left
  rw[if_neg (by simpa using hl)]
theorem zld(w:Str)(ws rows:List Str)(hp: ∀p∈rows,p.length<=1000000)(hr:rows.length<=1000002)(Lw L l:Nat)(h1:Lw≠l)(h2:L≠l): ∀(f i:Nat) (acc:List Pz) (o3 o4:Option D) (n:Nat),i+f=rows.length->acc.length=i->l<n->∃n' p3 p4 σ',n<=n'/\forGo kLst (.nm 3) ciM f i ⟨[some (.str w),some (.lst Lw (ws.map D.str)),some (.lst l (psD acc)),o3,o4,none],[some (.lst L (rows.map D.str)),some (.str w)],n⟩=if(rows.drop i).all zb2=true then .nx ⟨[some (.str w),some (.lst Lw (ws.map D.str)),some (.lst l (psD (acc++(rows.drop i).map pzL))),p3,p4,none],[some (.str w)],n'⟩ else .rt .non ⟨σ',[some (.str w)],n'⟩:=by
 intro f
 induction f with
 |zero=>
  intro i acc o3 o4 n hi ha hn
  refine⟨n,o3,o4,[],c9 _, ?_⟩
  rw[C6 (show rows.length<=i by lia),z7d (by rw[z34,List.getElem?_eq_none (show(rows.map D.str).length<=i by rw[m7];lia)]),z6x,z32,t7,i9]
  rfl
 |succ f ih=>
  intro i acc o3 o4 n hi ha hn
  have hl:i<rows.length:=by lia
  obtain⟨n1,g1,e1⟩:=zeO w rows[i] (hp _ (A4 hl)) ws rows acc (by lia) Lw L l n h1 h2 hn o4
  have hat:kLst.at' i [some (.lst L (rows.map D.str)),some (.str w)]=some (some (.str rows[i])):=by rw[z34,List.getElem?_map,List.getElem?_eq_getElem hl];rfl
  rw[B2 hl,O9,l6]
  cases h4:zb2 rows[i] with
  |true=>
   rw[h4,if_pos rfl] at e1
   obtain⟨n2,p3,p4,σ',g2,e2⟩:=ih (i+1) (acc++[pzL rows[i]]) (some (.str rows[i])) _ n1 (by lia) (by erw[l8,i7,n9];lia) (by lia)
   refine⟨n2,p3,p4,σ',by lia, ?_⟩
   rw[z7U hat rfl e1,e2,A5,t5]
   rfl
  |false=>
   rw[h4,if_neg (by decide)] at e1
   refine⟨n1,none,none,[some (.str w),some (.lst Lw (ws.map D.str)),some (.lst l (psD acc)),some (.str rows[i]),some (.lst n ((Txt.split rows[i] (Str.ofString ":")).map D.str)),none],g1, ?_⟩
   rw[zes hat rfl e1,z6x,z32,B9,if_neg (by decide)]
theorem z7q{x:Str}(h:Lo (sg x)):(er (.str x)).canLay0=true:=by
 erw[er,PyData.canLay0,PyData.strOk,Array.all_eq_true',decide_eq_true_eq]
 intro c hc
 have:=h c (by unfold sg;simpa using hc)
 lia
noncomputable def ziZ(b:Str):Bool:=b==Str.ofString "0" ||b==Str.ofString "1"
theorem zii{b:Str}(h:Lo (sg b)){l:Nat}{s:Stt}:zct (.str b) (.lst l [.str (Str.ofString "0"), .str (Str.ofString "1")]) s= .ok (.bool (!ziZ b)) s:=by
 have hk:=z7q h
 have h0:=z7q (x:=Str.ofString "0") (by rw[show sg (Str.ofString "0")=[48] by decide+kernel];simp[Lo])
 have h1:=z7q (x:=Str.ofString "1") (by rw[show sg (Str.ofString "1")=[49] by decide+kernel];simp[Lo])
 rw[zkh (ds:=[.str (Str.ofString "0"), .str (Str.ofString "1")]) rfl (by
  erw[inC,hk,Mi.plain,Mi.plainL,erL,PyData.canLayAll0,h0,h1,F0,A5,decide_eq_true_eq]
  exact decide_eq_true (t8 (F7 _ _) (show(er (.str b)).depth<=60 by simp[er,PyData.depth])))]
 congr 2
 unfold ziZ
 erw[erL,er,L5,List.any_nil,O5,PyData.eqv]
 rw[BEq.comm (a:=Str.ofString "0"),BEq.comm (a:=Str.ofString "1")]
theorem zij(b:Bool):ziZ (bT b)=true:=by cases b<;>decide+kernel
theorem zeP(w:Str)(hw:w.length<=1000000)(hlo:Lo (sg w))(n:Nat): ∃n',n<=n'/\U8 [.str w] n= .ok (rdD w) [.str w] n':=by
 have hp: ∀p∈Txt.split w (Str.ofString " "),p.length<=1000000:=fun p h=>t8 (zb1 h) hw
 have hq:=z00 (y:=Str.ofString " ") hw
 have hL: ∀p∈Txt.split w (Str.ofString " "),Lo (sg p):=by
  rw[(z8N 32 _ z4m).1]
  exact z5I hlo
 have hbo: ∀c,Good c->bo c=w->4<=(Txt.split w (Str.ofString " ")).length:=fun c hg e=>by rw[<-e];exact z7p hg.1
 have hpt: ∀c,Good c->bo c=w->∀a b r z,Txt.split w (Str.ofString " ")=a::b::(r++[z])->a=dt c.S/\b=bT c.b/\r=c.C.map pT:=fun c hg e a b r z q=>(z3u hg.1 (by rw[e];exact q)).2
 have e0:z0T=(Z1 (Y4 (.nm 1) (J8 (y0 0) [(mC (.str (" " :Str)))] V3))
  (Z1 (sIf (mOr (W5 (y3 (mCB [(y0 1)] z27) (mC (.int 4)) ltD)) (W5 (y3 (y3 (y0 1) (mC (.int 1)) ixD) (mCB [(mC (.str ("0" :Str))),(mC (.str ("1" :Str)))] lstM) zct))) (Y9 (mC .non)) sNx)
  (Z1 (Y4 (.nm 2) (mCB [] lstM))
  (Z1 (z1V (Y8 (mSl (y0 1) (some (mC (.int 2))) (some (bd (mC (.int 1)) z8S)))) (.nm 3) ciM)
  (Z1 (Y4 (.nm 5) (mCB [(mCall G6 [(y3 (y0 1) (mC (.int 0)) ixD)]),(mCB [(y0 2)] z8T),(y3 (y3 (y0 1) (mC (.int 1)) ixD) (mC (.str ("1" :Str))) eqS)] z1U))
  (Z1 (sIf (mOr (z0t (G9 (mCall U7 [(y3 (y0 5) (mC (.int 0)) ixD),(y0 2)]))) (W5 (y3 (mCall z1B [(y0 5)]) (y3 (y0 0) (mC (.str (";" :Str))) W8) neS))) (Y9 (mC .non)) sNx)
  (Y9 (y0 5)))))))):=rfl
 unfold U8
 rw[e0]
 left
 rw[z1F zcW (by rw[zl];lia)]
 generalize Txt.split w (Str.ofString " ")=ws at hp hq hbo hpt hL
 left
 rw[m7]
 by_cases hl:4<=ws.length
 ·obtain⟨a,b,r,z,rfl⟩:=z35 hl
  rw[decide_eq_false (show ¬(((a::b::(r++[z])).length:Nat):Int)<4 by lia)]
  have hpt':=fun c hg e=>hpt c hg e a b r z rfl
  have hr:r.length<=1000002:=by erw[i7,l8] at hq;lia
  left
  rw[zii (hL b (by simp))]
  cases h01:ziZ b with
  |false=>
   refine⟨n+1+1,by lia, ?_⟩
   have:rd w=none:=z1H fun c hg e=>by
    rw[(hpt' c hg e).2.1,zij] at h01
    cases h01
   left
   unfold rdD
   rw[this]
  |true=>
   obtain⟨n1,p3,p4,σ',g1,e1⟩:=zld w (a::b::(r++[z])) r (fun p h=>hp p (by simp[h])) hr n (n+1+1+1) (n+1+1) (by lia) (by lia) r.length 0 [] none none (n+1+1+1+1) (by lia) rfl (by lia)
   rw[D4,n5] at e1
   left
   rw[z3f (l:=n+1+1+1) (ds:=r.map D.str) (σ:=[some (.str w),some (.lst n ((a::b::(r++[z])).map D.str)),some (.lst (n+1+1) (psD [])),none,none,none]) (tm:=[some (.str w)]) (n:=n+1+1+1+1) (by
    left
    rw[A9,D3,zaC]
    rfl)]
   left
   rw[show ∀tm,kLst.len (some (.lst (n+1+1+1) (r.map D.str))::tm)=r.length from fun tm=>by simp[kLst,z3a]]
   erw[l6] at e1
   rw[e1]
   cases h4:r.all zb2 with
   |false=>
    refine⟨n1,by lia, ?_⟩
    have:rd w=none:=z1H fun c hg e=>by
     rw[(hpt' c hg e).2.2] at h4
     have h5:(c.C.map pT).all zb2=true:=by
      rw[A6]
      intro x hx
      obtain⟨p,hp,rfl⟩:=m9.mp hx
      exact(zdg (hg.1.2.2 p hp)).2
     rw[h5] at h4
     cases h4
    rw[if_neg (by decide)]
    left
    unfold rdD
    rw[this]
   |true=>
    rw[if_pos rfl]
    have hS:=z00 (y:=Str.ofString ".") (hp a (by simp))
    have hS1:1<=(z8a a).length:=by
     have h3:Txt.split a (Str.ofString ".")≠[]:=z0W
     unfold z8a
     rw[m7]
     cases e:Txt.split a (Str.ofString ".") with
     |nil=>exact absurd e h3
     |cons _ _=>simp
    have hS2:(z8a a).length<=1000002:=by unfold z8a;rw[m7];exact hS
    have hC: ∀p∈r.map pzL,(1<=p.ss.length/\p.c<=99999)/\p.ss.length<=1000002:=fun p h=>by
     obtain⟨x,hx,rfl⟩:=m9.mp h
     exact zlc (hp x (by simp[hx])) (A6.mp h4 x hx)
    obtain⟨n2,g2,e2⟩:=zd9 a (hp a (by simp)) n1
    obtain⟨n3,g3,e3⟩:=zia (z8a a) hS2 (r.map pzL) (fun p h=>(hC p h).2) (n+1+1) n2
    have hrd: ∀c,Good c->bo c=w->Cm.mk (z8a a) (r.map pzL) (b==Str.ofString "1")=c:=fun c hg e=>by
     obtain⟨q1,q2,q3⟩:=hpt' c hg e
     rw[q1,q2,q3,zaP hg.1.1.1 (z2C hg.1.1.2.1),zhW,B7]
     have:c.C.map (pzL∘pT)=c.C:=by
      conv=>rhs;rw[<-T3 c.C]
      exact C9 fun p hp=>(zdg (hg.1.2.2 p hp)).1
     rw[this]
    rw[zeJ (b==Str.ofString "1") hS1 fun p h=>(hC p h).1] at e3
    have ed:(Cm.mk (z8a a) (r.map pzL) (b==Str.ofString "1")).d= .tup [.tup (iL (z8a a)), .tup (psD (r.map pzL)), .bool (b==Str.ofString "1")]:=rfl
    left
    rw[e2]
    left
    rw[zam]
    left
    rw[e3]
    rw[<-ed]
    generalize Cm.mk (z8a a) (r.map pzL) (b==Str.ofString "1")=q at*
    cases hB:V0 q.d with
    |false=>
     refine⟨n3,by lia, ?_⟩
     have:rd w=none:=z1H fun c hg e=>by
      rw[hrd c hg e,hg.2] at hB
      cases hB
     left
     unfold rdD
     rw[this]
    |true=>
     have hg:=zaL hB
     obtain⟨n4,g4,e4⟩:=zhT q hg.1 n3
     refine⟨n4,by lia, ?_⟩
     left
     rw[e4]
     left
     rw[z0a (by rw[zl,z8P];lia),<-zaB]
     left
     rw[z5x,zaN]
     unfold rdD
     by_cases he:bo q=w
     ·rw[<-he,zid hg,beq_self_eq_true]
      left
     ·rw[show(bo q==w)=false from beq_eq_false_iff_ne.mpr he]
      have:rd w=none:=z1H fun c' hg' e=>he (by rw[hrd c' hg' e,e])
      left
      rw[this]
 ·rw[decide_eq_true (show((ws.length:Nat):Int)<4 by lia)]
  refine⟨n+1,by lia, ?_⟩
  have:rd w=none:=z1H fun c hg e=>hl (hbo c hg e)
  left
  unfold rdD
  rw[this]
theorem zik(x:Str)(i:Nat):sg (Builtin.Str.strSub x 0 i)=(sg x).take i:=by
 show(x.cps.extract 0 i).toList=_
 rw[Array.toList_extract]
 simp[sg,List.extract]
theorem z5K(x:Str)(i:Nat):sg (Builtin.Str.strSub x i x.length)=(sg x).drop i:=by
 show(x.cps.extract i x.length).toList=_
 rw[Array.toList_extract]
 show((sg x).drop i).take (x.length -i)=_
 rw[B3 (by rw[C8,J7];exact c9 _)]
theorem zaQ{x:Str}{c:Nat}{p:Str}{ps:List Str}(h:Txt.split x ⟨#[c]⟩=p::ps):(ps=[]->prt x ⟨#[c]⟩=[p,Str.empty,Str.empty])/\(ps≠[]->∃b,prt x ⟨#[c]⟩=[p,⟨#[c]⟩,b]/\Txt.split b ⟨#[c]⟩=ps/\b.length<=x.length/\∀d∈sg b,d∈sg x):=by
 have hs:=z5H x c
 have hf: ∀q∈p::ps,c∉sg q:=by rw[<-h];exact StrLaws.split_free x c
 rw[h] at hs
 have hat: ∀i,StrLaws.At x ⟨#[c]⟩ x.length i↔(sg x)[i]? =some c:=fun i=>StrLaws.subAt_one x c i
 unfold prt
 rcases StrLaws.occ_head x ⟨#[c]⟩ 1 (c9 _) with⟨h0,hn⟩|⟨i,r,h0,ha,hno⟩
 ·rw[h0]
  have hc:c∉sg x:=fun q=>by
   obtain⟨i,hi⟩:=List.mem_iff_getElem?.mp q
   exact hn i ((hat i).mpr hi)
  cases ps with
  |nil=>
   have:x=p:=z0r (by rw[hs];rfl)
   exact⟨fun _=>by rw[this],fun q=>absurd rfl q⟩
  |cons q r=>
   refine absurd ?_ hc
   rw[hs]
   simp[jn]
 ·rw[h0]
  have hi:=(hat i).mp ha
  have hl:i<(sg x).length:=(List.getElem?_eq_some_iff.mp hi).1
  have hm:c∈sg x:=List.mem_iff_getElem?.mpr ⟨i,hi⟩
  cases ps with
  |nil=>exact absurd (by rw[hs] at hm;exact hm) (hf p (by simp))
  |cons q r=>
   refine⟨fun e=>(nomatch e),fun _=> ?_⟩
   have e1:sg x=(sg x).take i++c::(sg x).drop (i+1):=by
    conv=>lhs;rw[<-C3 i (sg x),B2 hl]
    rw[(List.getElem?_eq_some_iff.mp hi).2]
   have hc:c∉(sg x).take i:=fun m=>by
    obtain⟨k,hk⟩:=List.mem_iff_getElem?.mp m
    have hk2:k<i:=by
     have:=(List.getElem?_eq_some_iff.mp hk).1
     rw[C2] at this
     lia
    rw[List.getElem?_take_of_lt hk2] at hk
    exact hno k hk2 ((hat k).mpr hk)
   have e2:sg x=sg p++c::jn [c] ((q::r).map sg):=by rw[hs];simp[jn]
   obtain⟨h1,h2⟩:=zkF hc (hf p (by simp)) (e1.symm.trans e2)
   have e3:Builtin.Str.strSub x 0 i=p:=z0r (by rw[zik,h1])
   refine⟨Builtin.Str.strSub x (i+1) x.length,by rw[<-e3];rfl,z3r (by simp) (fun y hy=>hf y (by erw[i8] at hy⊢;exact .inr hy)) (by rw[z5K,h2]), ?_,fun d hd=> ?_⟩
   ·have e4:=congrArg O1 (z5K x (i+1))
    rw[J7,C8,J7] at e4
    lia
   ·rw[z5K] at hd
    exact L6 hd
theorem zil{cs:List Cm}(h: ∀c∈cs,Good c): ∀c∈cs,c.ok:=fun c hc=>(h c hc).1
theorem zle{z y:Str}{s:Stt}(h:(y.length==0)=false)(hz:z.length<=sizeLine):txP z [.str y] s= .ok (.tup ((prt z y).map D.str)) s:=by erw[txP,if_pos (And.intro h hz)];rfl
theorem zim:((⟨#[59]⟩:Str)==Str.ofString "")=false:=by decide+kernel
theorem at_rng{lo:Int}{N i:Nat}{tm:List (Option D)}:(z4X lo N).at' i tm=some (if i<N then some (.int (lo+i)) else none):=rfl
theorem zeQ{s:Stt}:s.popn 0=s:=rfl
noncomputable def caM:MS:=(Z1 (Y4 (.tp [(.nm 4),(.nm 5),(.nm 2)]) (J8 (y0 2) [(mC (.str (";" :Str)))] txP))
 (Z1 (Y4 (.nm 6) (mCall U8 [(y0 4)]))
 (Z1 (sIf (mOr (W5 (y3 (y0 5) (mC (.str ("" :Str))) eqS)) (W5 (y3 (y0 6) (mC .non) isN))) (Y9 (y0 1)) sNx)
 (z1e (z0w (y0 1) [(y0 6)] z6H)))))
theorem zlf(x:Str)(l:Nat): ∀(f i:Nat) (z:Str) (ps:List Str) (acc:List Cm) (o3 o4 o5 o6:Option D) (n:Nat),i+f=60->acc.length=i->Txt.split z (Str.ofString ";")=ps->z.length<=1000000->Lo (sg z)->∃n',n<=n'/\((forGo (z4X 0 60) (.nm 3) caM f i ⟨[some (.str x),some (.lst l (csD acc)),some (.str z),o3,o4,o5,o6],[some (.str x)],n⟩).sq (Y9 (y0 1))).fin= .ok (.lst l (csD (acc++upF f ps))) [.str x] n':=by
 have es:=(z8N 59 _ z6B).1
 intro f
 induction f with
 |zero=>
  intro i z ps acc o3 o4 o5 o6 n hi ha hs hz hlo
  refine⟨n,c9 _, ?_⟩
  rw[z7d (by rw[at_rng,if_neg (by lia)]),show(z4X 0 60).k=0 from rfl,zeQ]
  erw[upF,i9]
  left
 |succ f ih=>
  intro i z ps acc o3 o4 o5 o6 n hi ha hs hz hlo
  have hat: ∀tm,(z4X 0 60).at' i tm=some (some (.int (i:Nat))):=fun tm=>by rw[at_rng,if_pos (by lia),N5]
  have hne:Txt.split z (Str.ofString ";")≠[]:=z0W
  unfold forGo
  erw[hat,asg,B5,A7]
  unfold caM
  left
  rw[zle zcX (by rw[zl];lia)]
  obtain⟨p,r,hpr⟩: ∃p r,ps=p::r:=by
   cases ps with
   |nil=>exact absurd hs hne
   |cons p r=>exact⟨p,r,rfl⟩
  subst hpr
  have hs':=hs
  rw[es] at hs'
  obtain⟨q1,q2⟩:=zaQ hs'
  have hp:p.length<=1000000:=t8 (zb1 (show p∈Txt.split z (Str.ofString ";") by rw[hs];simp)) hz
  have hL:Lo (sg p):=z5I (c:=59) hlo p (by rw[hs'];simp)
  obtain⟨n1,g1,e1⟩:=zeP p hp hL n
  cases r with
  |nil=>
   refine⟨n1,g1, ?_⟩
   rw[es,q1 rfl]
   left
   rw[e1]
   left
   rw[zam,show(Str.empty==Str.ofString "")=true from by decide+kernel]
   left
   rw[show(z4X 0 60).k=0 from rfl,zeQ]
   left
   erw[upF,i9]
  |cons q r=>
   obtain⟨b,b1,b2,b3,b4⟩:=q2 (by simp)
   rw[es,b1]
   left
   rw[e1]
   left
   rw[zam,zim]
   left
   erw[upF]
   unfold rdD
   cases hr:rd p with
   |none=>
    refine⟨n1,g1, ?_⟩
    dsimp only
    rw[zig]
    left
    rw[show(z4X 0 60).k=0 from rfl,zeQ]
    left
   |some c=>
    have hg:=(z5J hr).1
    obtain⟨n2,g2,e2⟩:=ih (i+1) b (q::r) (acc++[c]) (some (.int i)) (some (.str p)) (some (.str ⟨#[59]⟩)) (some c.d) n1 (by lia) (by erw[l8,i7,n9];lia) (by rw[es];exact b2) (by lia) (fun d hd=>hlo d (b4 d hd))
    refine⟨n2,by lia, ?_⟩
    dsimp only
    rw[zhZ]
    left
    rw[z8I ⟨by rw[zl,z4I];lia,by rw[z7n _ hg.1];exact t9⟩]
    left
    erw[z7j]
    rw[zaO,t5] at e2
    exact e2
theorem zeR(x:Str)(hx:x.length<=1000000)(hlo:Lo (sg x))(n:Nat): ∃n',n<n'/\z06 [.str x] n= .ok (.lst n (csD (upF 60 (Txt.split x (Str.ofString ";"))))) [.str x] n':=by
 have e0:z5r=(Z1 (Y4 (.nm 1) (mCB [] lstM)) (Z1 (Y4 (.nm 2) (y0 0)) (Z1 (z1V (z1f [(mC (.int 60))]) (.nm 3) caM) (Y9 (y0 1))))):=rfl
 obtain⟨n1,g1,e1⟩:=zlf x n 60 0 x _ [] none none none none (n+1) rfl rfl rfl hx hlo
 refine⟨n1,by lia, ?_⟩
 unfold z06
 rw[e0]
 left
 rw[z40 ⟨by decide,by decide⟩]
 left
 exact e1
noncomputable def Tx(B:Nat)(y:Str):Prop:=y.length<=B/\Lo (sg y)
theorem Tx.app{A B:Nat}{x y:Str}(h:Tx A x)(h':Tx B y):Tx (A+B) (x++y):=⟨by rw[Str.length_append];have:=h.1;have:=h'.1;lia,by
 rw[K9]
 intro c hc
 rcases i5.mp hc with hc|hc
 ·exact h.2 c hc
 ·exact h'.2 c hc⟩
theorem Tx.up{A B:Nat}{x:Str}(h:Tx A x)(hB:A<=B):Tx B x:=⟨t8 h.1 hB,h.2⟩
theorem zin(x:Str)(l u:Option Int): ∀c∈sg (Txt.slice x l u),c∈sg x:=by
 intro c hc
 unfold Txt.slice at hc
 split at hc
 ·exact hc
 ·erw[sg,F3] at hc
  obtain⟨i,_,hi⟩:=hc
  rw[<-Array.getElem?_toList] at hi
  exact List.mem_iff_getElem?.mpr ⟨i,hi⟩
theorem Tx.sl{A:Nat}{x:Str}(h:Tx A x)(l u:Option Int):Tx A (Txt.slice x l u):=⟨t8 (Txt.slice_le x l u) h.1,fun c hc=>h.2 c (zin x l u c hc)⟩
theorem Tx.join{ys:List Str}{N:Nat}(h: ∀y∈ys,Tx 5000 y)(hl:ys.length<=N):Tx (N*5000) (Txt.join (Str.ofString "") ys)/\(ys.map (·.length)).sum+ys.length*(Str.ofString "").length<=N*5000:=by
 have h1:=zc6 (z:=Str.ofString "") (ys:=ys) (B:=5000) fun y hy=>(h y hy).1
 have h3:ys.length*(5000+(Str.ofString "").length)<=N*5000:=by rw[zkW];exact M7 _ hl
 refine⟨⟨by lia, ?_⟩,by lia⟩
 rw[X3,zhY]
 refine zaD (by simp[Lo]) fun x hx=> ?_
 obtain⟨y,hy,rfl⟩:=m9.mp hx
 exact(h y hy).2
theorem z5L{α β:Type}(f:α->β)(l:List α)(lo hi:Option Int):z1i (l.map f) lo hi=(z1i l lo hi).map f:=by
 unfold z1i
 rw[m7,O4,T9]
theorem z5M{α:Type}{l:List α}{lo hi:Option Int}{x:α}(h:x∈z1i l lo hi):x∈l:=L6 (E4 h)
theorem z5N{α:Type}(l:List α)(lo hi:Option Int):(z1i l lo hi).length<=l.length:=by
 unfold z1i
 rw[C2,C8]
 lia
section
variable{s:Stt}{m:M D}{z:Str}{l:Nat}{ds:List D}
theorem z6E{lo hi:Option (M D)}:z6g m lo hi s=(m s).bnd fun x s1=>(z1O lo (s1.psh x)).bnd fun l s2=>(z1O hi s2).bnd fun h s3=>(pop s3).bnd fun x' s4=>slS x' l h s4:=(rfl)
theorem z6F{lo hi:Option Int}(h:z.length<=sizeLine):slS (.str z) lo hi s= .ok (.str (Txt.slice z lo hi)) s:=by erw[slS,if_pos h];rfl
theorem zaR:z7O [.lst l ds] s= .ok (.int ds.length) s:=(rfl)
end
section
variable{me mo1 mi1 mo2 mi2:M D}{s:Stt}{σ tm:List (Option D)}{n:Nat}{d1 d2:D}
theorem zio(h:me s= .ok (.tup [d1,d2]) ⟨σ,tm,n⟩):z9M me mo1 mi1 mo2 mi2 s=(mTri (mTmp 1) mo1 mi1 setD ⟨σ,some d2::some d1::tm,n⟩).sq (Z1 (mTri (mTmp 0) mo2 mi2 setD) fun s=> .nx (s.popn 2)):=by
 unfold z9M
 rw[zcH,h,zgX]
 show Z1 _ _ _=_
 rw[zhc]
 rfl
theorem ziq{k:Nat}:mTmp k ⟨σ,tm,n⟩=vOf (tm[k]?) ⟨σ,tm,n⟩:=by
 unfold mTmp vOf
 cases tm[k]? with
 |none=>rfl
 |some o=>cases o<;>rfl
theorem zir{a b:Option D}:Stt.popn ⟨σ,a::b::tm,n⟩ 2=⟨σ,tm,n⟩:=rfl
theorem zis{i j:Int}:zf6 (.int i) (.int j) s= .ok (.int (i+j)) s:=(rfl)
end
theorem zeS{k:Nat}{r:Int}(h0:0<=r)(h1:r<k):ixN k r=some r.toNat:=by
 unfold ixN
 rw[if_pos h0,if_pos h1]
theorem zeT{i:Int}(h:0<=i)(h':i<10^61):i.natAbs.log2<1920:=by
 have h1:i.natAbs<2^1920:=r8 (show i.natAbs<10^61 by lia) (t8 (show(10:Nat)^61<=2^203 by decide+kernel) (L9 (by decide) (by decide)))
 by_cases h0:i.natAbs=0
 ·rw[h0];decide
 ·exact(S9 h0).mpr h1
theorem zaS{i:Int}(h:0<=i)(h':i<10^61):Tx 61 (num i):=by
 refine⟨?_,z4K h⟩
 obtain⟨m,rfl⟩:=C0 h
 rw[<-J7]
 exact z7h 60 m (by lia)
theorem z7r{i:Int}{s:Stt}(h:0<=i)(h':i<10^61):z1g [.int i] s= .ok (.str (num i)) s:=z3g (zeT h h')
noncomputable def wbM:M D:=(y3 (y3 (z6g (y0 1) none (some (y0 2))) (mCB [(mCall Z0 [(y0 0),(mC (.int 10))])] z1g) W8) (z6g (y0 1) (some (y3 (y0 2) (mC (.int 1)) W8)) none) W8)
theorem zlg(l n:Nat)(c x:Int)(w:Str)(B:Nat)(hB:B<=1000000)(hw:Tx B w)(h:Bg c x): ∃(y:Str) (c' x':Int) (n':Nat),Tx (2*B+61) y/\Bg c' x'/\n<=n'/\k6 [.lst l [.int c, .int x], .str w] n= .ok (.str y) [.lst l [.int c', .int x'], .str w] n':=by
 have wl:=hw.1
 have s1: ∀lo hi,(Txt.slice w lo hi).length<=B:=fun lo hi=>(hw.sl lo hi).1
 have e0:z0U=(Z1 (Y4 (.nm 2) (mCall Z0 [(y0 0),(mCB [(mC (.int 1)),(mCB [(y0 1)] z7O)] zcv)]))
  (Z1 (Y4 (.nm 3) (mCall Z0 [(y0 0),(mC (.int 5))]))
  (Z1 (sIf (W5 (y3 (y0 3) (mC (.int 0)) eqD)) (Y9 (y3 (y3 (z6g (y0 1) none (some (y0 2))) (mC (.str ("0" :Str))) W8) (z6g (y0 1) (some (y0 2)) none) W8)) sNx)
  (Z1 (sIf (W5 (y3 (y0 3) (mC (.int 1)) eqD)) (Y9 (y3 (y3 (z6g (y0 1) none (some (y0 2))) (mCB [(mCall Z0 [(y0 0),(y3 (mC (.int 10)) (mC (.int 60)) z9v)])] z1g) W8) (z6g (y0 1) (some (y3 (y0 2) (mC (.int 1)) W8)) none) W8)) sNx)
  (Z1 (sIf (mOr (W5 (y3 (J8 (y0 1) [(mC (.str ("0123456789" :Str)))] txS) (mC (.str ("" :Str))) neS)) (z0t (W5 (Q9 (mC (.int 0)) (mCB [(y0 1)] z7O) (mC (.int 6)) ltD ltD)))) (Y9 wbM) sNx)
  (Y9 (mCB [(y3 (mCB [(y0 1)] z8C) (y3 (mCB [(mC (.int 1)),(mC (.int 997)),(mC (.int 994))] lstM) (y3 (y0 3) (mC (.int 2)) zbo) ixD) W8)] z1g))))))):=rfl
 unfold k6
 rw[e0]
 left
 rw[z6y (by rw[zl];lia)]
 left
 generalize hM:(if(w.length:Int)>1 then(w.length:Int) else 1)=M
 have M0:0<M/\M<=1000000:=by split at hM<;>lia
 obtain⟨a,c1,x1,a0,a1,b1,e1⟩:=Q1 l c x M n h M0.1 (by lia)
 rw[e1,Z2 rfl rfl rfl (fun q=>by left;rfl) (fun q=>by left;rfl)]
 left
 obtain⟨v,c2,x2,v0,v1,b2,e2⟩:=Q1 l c1 x1 5 n b1 (by decide) (by decide)
 rw[e2,Z2 rfl rfl rfl (fun q=>by left;rfl) (fun q=>by left;rfl)]
 left
 have sm: ∀{i:Int} {k:Option Int} {k':Option Int},0<=i->i<10^61->Tx (2*B+61) (Txt.slice w none k++num i++Txt.slice w k' none):=fun h0 h1=>(((hw.sl _ _).app (zaS h0 h1)).app (hw.sl _ _)).up (by lia)
 have ln: ∀{i:Int},0<=i->i<10^61->(num i).length<=61:=fun h0 h1=>(zaS h0 h1).1
 by_cases h0:v=0
 ·subst h0
  refine⟨Txt.slice w none (some a)++Str.ofString "0" ++Txt.slice w (some a) none,c2,x2,n,(((hw.sl _ _).app (B:=1) ⟨by decide,by rw[show sg (Str.ofString "0")=[48] by decide+kernel];simp[Lo]⟩).app (hw.sl _ _)).up (by lia),b2,c9 _, ?_⟩
  have q1:=s1 none (some a)
  have q2:=s1 (some a) none
  have q3:(Str.ofString "0").length=1:=rfl
  left
  rw[z6E]
  left
  rw[z6F (by rw[zl];lia)]
  left
  rw[z0a (by rw[zl];lia)]
  left
  rw[z6E]
  left
  rw[z6F (by rw[zl];lia)]
  left
  rw[z0a (by rw[zl,Str.length_append];lia)]
  left
 rw[show(v==0)=false from beq_eq_false_iff_ne.mpr h0]
 left
 have q1:=s1 none (some a)
 have q2:=s1 (some (a+1)) none
 by_cases h1:v=1
 ·subst h1
  obtain⟨i,c3,x3,i0,i1,b3,e3⟩:=Q1 l c2 x2 1000000000000000000000000000000000000000000000000000000000000 n b2 (by decide) (by decide)
  have i2:i<10^61:=by lia
  have q3:=ln i0 i2
  refine⟨Txt.slice w none (some a)++num i++Txt.slice w (some (a+1)) none,c3,x3,n,sm i0 i2,b3,c9 _, ?_⟩
  left
  rw[z6E]
  left
  rw[z6F (by rw[zl];lia)]
  left
  rw[zbW (by decide),show((10:Int)^(Int.toNat 60))=1000000000000000000000000000000000000000000000000000000000000 by decide]
  left
  rw[e3,Z2 rfl rfl rfl (fun q=>by left;rfl) (fun q=>by left;rfl)]
  left
  rw[z7r i0 i2]
  left
  rw[z0a (by rw[zl];lia)]
  left
  rw[z6E]
  left
  rw[z6F (by rw[zl];lia)]
  left
  rw[z0a (by rw[zl,Str.length_append];lia)]
  left
 rw[show(v==1)=false from beq_eq_false_iff_ne.mpr h1]
 left
 rw[zi5 (by rw[zl];lia)]
 left
 rw[z5x,z6D]
 obtain⟨i,c3,x3,i0,i1,b3,e3⟩:=Q1 l c2 x2 10 n b2 (by decide) (by decide)
 have i2:i<10^61:=by lia
 have q3:=ln i0 i2
 have hret:wbM ⟨[some (.lst l [.int c2, .int x2]),some (.str w),some (.int a),some (.int v)],[some (.lst l [.int c2, .int x2]),some (.str w)],n⟩= .ok (.str (Txt.slice w none (some a)++num i++Txt.slice w (some (a+1)) none)) ⟨[some (.lst l [.int c3, .int x3]),some (.str w),some (.int a),some (.int v)],[some (.lst l [.int c3, .int x3]),some (.str w)],n⟩:=by
  unfold wbM
  left
  rw[z6E]
  left
  rw[z6F (by rw[zl];lia)]
  left
  rw[e3,Z2 rfl rfl rfl (fun q=>by left;rfl) (fun q=>by left;rfl)]
  left
  rw[z7r i0 i2]
  left
  rw[z0a (by rw[zl];lia)]
  left
  rw[z6E]
  left
  rw[z6F (by rw[zl];lia)]
  left
  rw[z0a (by rw[zl,Str.length_append];lia)]
 cases hd:(sg w).all fun c=>decide (48<=c/\c<=57) with
 |false=>
  refine⟨_,c3,x3,n,sm (k:=some a) (k':=some (a+1)) i0 i2,b3,c9 _, ?_⟩
  left
  rw[hret]
  left
 |true=>
  left
  rw[z6y (by rw[zl];lia)]
  left
  by_cases g0:(0:Int)<w.length
  ·erw[g0,decide_true]
   left
   by_cases g6:(w.length:Int)<6
   ·erw[g6,decide_true]
    left
    obtain⟨z,hz,ez,_⟩:=z5F hd (by lia) (by lia)
    have ei: ∀s:Stt,z8C [.str w] s= .ok (.int z) s:=fun s=>by erw[z8C,if_pos (show w.length<=640 by lia),ez];rfl
    rw[ei]
    left
    have hj: ∃j:Int,0<=j/\j<=1000/\atI [D.int 1,D.int 997,D.int 994] (v - 2)=some (.int j):=by
     have:v - 2=0\/v - 2=1\/v - 2=2:=by lia
     rcases this with e|e|e<;>rw[e]
     ·exact⟨_,by decide,by decide,at0⟩
     ·exact⟨_,by decide,by decide,at1⟩
     ·exact⟨_,by decide,by decide,at2⟩
    obtain⟨j,j0,j1,ej⟩:=hj
    rw[ej]
    left
    rw[z7r (show 0<=(z:Int)+j by lia) (show(z:Int)+j<10^61 by lia)]
    left
    exact⟨_,c2,x2,n+1,(zaS (show 0<=(z:Int)+j by lia) (show(z:Int)+j<10^61 by lia)).up (by lia),b2,by lia,rfl⟩
   ·erw[g6,decide_false]
    refine⟨_,c3,x3,n,sm (k:=some a) (k':=some (a+1)) i0 i2,b3,c9 _, ?_⟩
    left
    rw[hret]
    left
  ·erw[g0,decide_false]
   refine⟨_,c3,x3,n,sm (k:=some a) (k':=some (a+1)) i0 i2,b3,c9 _, ?_⟩
   left
   rw[hret]
   left
noncomputable def Wz(ws:List Str):Nat:=(ws.map (·.length)).sum+ws.length
theorem z8d(a b:List Str):Wz (a++b)=Wz a+Wz b:=by erw[Wz,A9,T6,l8];lia
theorem zit(w:Str):Wz [w]=w.length+1:=by simp[Wz]
theorem z8e: ∀(ws:List Str) (i:Nat) (x:Str) (h:i<ws.length),Wz (ws.set i x)+ws[i].length=Wz ws+x.length
 |w::ws,0,x,_=>by erw[Wz,A7,l6,E7,i7,List.getElem_cons_zero];lia
 |w::ws,i+1,x,h=>by
  have:=z8e ws i x (by simpa using h)
  erw[Wz,B5,l6,E7,i7,List.getElem_cons_succ] at this⊢
  lia
theorem zaT: ∀{ws:List Str} {w:Str},w∈ws->w.length<=Wz ws
 |x::ws,w,h=>by
  rcases i8.mp h with rfl|h
  ·erw[Wz,l6,E7];lia
  ·have:=zaT h
   erw[Wz,l6,E7,i7] at this⊢;lia
theorem z7s(ws:List Str)(k:Nat):Wz (ws.take k)+Wz (ws.drop k)=Wz ws:=by
 rw[<-z8d,C3]
theorem zaU{c:Nat}: ∀{xs:List (List Nat)},xs≠[]->(jn [c] xs).length+1=(xs.map O1).sum+xs.length
 |[],h=>absurd rfl h
 |[x],_=>by simp[jn]
 |x::y::r,_=>by
  have:=zaU (c:=c) (xs:=y::r) (by simp)
  erw[jn,l8,i7,n9,l6,E7] at this⊢
  lia
theorem zcl(x:Str)(c:Nat):Wz (Txt.split x ⟨#[c]⟩)=x.length+1:=by
 have h1:=zaU (c:=c) (xs:=(Txt.split x ⟨#[c]⟩).map sg) (by simp[z0W])
 rw[<-z5H,J7,B7,m7] at h1
 rw[h1]
 unfold Wz
 congr 2
theorem Tx.joinW{ws:List Str}{c:Nat}(hc:c<128)(h: ∀w∈ws,Lo (sg w)):Tx (Wz ws) (Txt.join ⟨#[c]⟩ ws)/\(ws.map (·.length)).sum+ws.length*(⟨#[c]⟩:Str).length<=Wz ws:=by
 have l1:(⟨#[c]⟩:Str).length=1:=rfl
 have h1:=StrLaws.join_length_le ⟨#[c]⟩ ws
 have e:Txt.join ⟨#[c]⟩ ws=(⟨#[c]⟩:Str).join ws:=StrLaws.glued_eq_join _ ws
 rw[l1,Nat.mul_one] at h1⊢
 refine⟨⟨by rw[e];exact h1, ?_⟩,c9 _⟩
 rw[X3]
 refine zaD (by rw[z44];intro d hd;rw[B0.mp hd];exact hc) fun x hx=> ?_
 obtain⟨y,hy,rfl⟩:=m9.mp hx
 exact h y hy
theorem cut_drop{α:Type}{l:List α}{k:Nat}(h:k<=l.length):z1i l (some (k:Int)) none=l.drop k:=by
 unfold z1i
 rw[HT.sIx_none,HT.sIx_nat,M8 h,B3 (by rw[C8];exact c9 _)]
theorem ziu{r:Int}(h0:0<=r)(h1:r<4): ∃c:Nat,c<128/\atI [D.str (Str.ofString " "), .str (Str.ofString "."), .str (Str.ofString ":"), .str (Str.ofString "=")] r=some (.str ⟨#[c]⟩):=by
 have:r=0\/r=1\/r=2\/r=3:=by lia
 rcases this with rfl|rfl|rfl|rfl
 ·exact⟨32,by decide,by rw[(z8N 32 _ z4m).1];rfl⟩
 ·exact⟨46,by decide,by rw[(z8N 46 _ zan).1];rfl⟩
 ·exact⟨58,by decide,by rw[(z8N 58 _ z8O).1];rfl⟩
 ·exact⟨61,by decide,by rw[(z8N 61 _ zfb).1];rfl⟩
theorem zdh:sg (Str.ofString "0123456789.:;= -019az")=[48,49,50,51,52,53,54,55,56,57,46,58,59,61,32,45,48,49,57,97,122]:=by decide+kernel
theorem zlh{w:Str}{r:Int}(h0:0<=r)(h1:r<w.length)(hw:w.length<=1000000): ∃c,c∈sg w/\∀s,ixS (.str w) (.int r) s= .ok (.str ⟨#[c]⟩) s:=by
 have hl:r.toNat<(sg w).length:=by rw[J7];lia
 refine⟨(sg w)[r.toNat],A4 hl,fun s=> ?_⟩
 have e:w.cps[r.toNat]? =some (sg w)[r.toNat]:=by
  rw[<-Array.getElem?_toList]
  exact List.getElem?_eq_getElem hl
 unfold ixS
 dsimp only
 rw[if_pos ⟨h0,by lia,h1⟩]
 show(match w.cps[r.toNat]? with|some c=>rt (.str ⟨#[c]⟩)|none=>fl:M D) s=_
 rw[e]
 rfl
theorem ziv{r:Int}(h0:0<=r)(h1:r<21): ∃c:Nat,c<128/\∀s,ixS (.str (Str.ofString "0123456789.:;= -019az")) (.int r) s= .ok (.str ⟨#[c]⟩) s:=by
 have hl:(Str.ofString "0123456789.:;= -019az").length=21:=by rw[<-J7,zdh];rfl
 obtain⟨c,hc,hs⟩:=zlh h0 (by rw[hl];exact h1) (by rw[hl];decide)
 have hc':c<128:=by
  rw[zdh] at hc
  exact(by decide: ∀c∈[48,49,50,51,52,53,54,55,56,57,46,58,59,61,32,45,48,49,57,97,122],c<128) c hc
 exact⟨c,hc',hs⟩
theorem ziw{ws:List Str}{r:Int}(h0:0<=r)(h1:r<ws.length): ∃h:r.toNat<ws.length,atI (ws.map D.str) r=some (.str ws[r.toNat]):=by
 have h:r.toNat<ws.length:=by lia
 exact⟨h,z4G h0 (by simp[h])⟩
theorem zix{c:Nat}(h:c<128):Lo (sg ⟨#[c]⟩):=by rw[z44];intro d hd;rw[B0.mp hd];exact h
theorem ziy{c:Nat}(hc:c<128){v:Int}(h0:0<=v)(h1:v<4): ∃z:Str,Tx 1 z/\atI [D.str (Str.ofString ""), .str ⟨#[c]⟩, .str ⟨#[c]⟩, .str ⟨#[c]⟩] v=some (.str z):=by
 have:v=0\/v=1\/v=2\/v=3:=by lia
 have t1:Tx 1 ⟨#[c]⟩:=⟨c9 _,zix hc⟩
 rcases this with rfl|rfl|rfl|rfl
 ·exact⟨_,⟨by decide,by rw[zhY];simp[Lo]⟩,at0⟩
 ·exact⟨_,t1,at1⟩
 ·exact⟨_,t1,at2⟩
 ·exact⟨_,t1,at3⟩
theorem ziz{v:Int}(h0:0<=v)(h1:v<4): ∃j:Int,0<=j/\j<=1/\atI [D.int 1, .int 0, .int 1, .int 1] v=some (.int j):=by
 have:v=0\/v=1\/v=2\/v=3:=by lia
 rcases this with rfl|rfl|rfl|rfl
 ·exact⟨_,by decide,by decide,at0⟩
 ·exact⟨_,by decide,by decide,at1⟩
 ·exact⟨_,by decide,by decide,at2⟩
 ·exact⟨_,by decide,by decide,at3⟩
theorem zaV{ws:List Str}{i:Nat}{x:Str}(h: ∀w∈ws,Lo (sg w))(hx:Lo (sg x)): ∀w∈ws.set i x,Lo (sg w):=fun w hw=>by
 rcases O0 hw with q|rfl
 ·exact h w q
 ·exact hx
theorem zli(l n:Nat)(c x:Int)(t:Str)(B:Nat)(hB:B<=400000)(ht:Tx B t)(h:Bg c x)(hn:l<n): ∃(y:Str) (c' x':Int) (n':Nat),Tx (2*B+100) y/\Bg c' x'/\n<=n'/\z2y [.lst l [.int c, .int x], .str t] n= .ok (.str y) [.lst l [.int c', .int x'], .str t] n':=by
 have tl:=ht.1
 have s1: ∀lo hi,(Txt.slice t lo hi).length<=B:=fun lo hi=>(ht.sl lo hi).1
 unfold z2y z5s
 left
 obtain⟨v,c1,x1,v0,v1,b1,e1⟩:=Q1 l c x 8 n h (by decide) (by decide)
 rw[e1,Z2 rfl rfl rfl (fun q=>by left;rfl) (fun q=>by left;rfl)]
 left
 obtain⟨r,c2,x2,r0,r1,b2,e2⟩:=Q1 l c1 x1 21 n b1 (by decide) (by decide)
 rw[e2,Z2 rfl rfl rfl (fun q=>by left;rfl) (fun q=>by left;rfl)]
 left
 obtain⟨g,hg,eg⟩:=ziv r0 r1
 rw[eg]
 left
 rw[z6y (by rw[zl];lia)]
 left
 obtain⟨a,c3,x3,a0,a1,b3,e3⟩:=Q1 l c2 x2 ((t.length:Int)+1) n b2 (by lia) (by lia)
 rw[e3,Z2 rfl rfl rfl (fun q=>by left;rfl) (fun q=>by left;rfl)]
 left
 by_cases h4:v<4
 ·erw[h4,decide_true]
  left
  rw[z6E]
  left
  rw[z6F (by rw[zl];lia)]
  left
  obtain⟨z,hz,ez⟩:=ziy hg v0 h4
  rw[ez]
  left
  have z1:=hz.1
  have q1:=s1 none (some a)
  rw[z0a (by rw[zl];lia)]
  left
  rw[z6E]
  left
  obtain⟨j,j0,j1,ej⟩:=ziz v0 h4
  rw[ej]
  left
  rw[zis]
  left
  rw[z6F (by rw[zl];lia)]
  left
  have q2:=s1 (some (a+j)) none
  rw[z0a (by rw[zl,Str.length_append];lia)]
  left
  exact⟨_,c3,x3,n+1+1,(((ht.sl _ _).app hz).app (ht.sl _ _)).up (by lia),b3,by lia,rfl⟩
 ·erw[h4,decide_false]
  left
  obtain⟨u,c4,x4,u0,u1,b4,e4⟩:=Q1 l c3 x3 4 (n+1) b3 (by decide) (by decide)
  have fl: ∀d,rp (pl l d) (.lst n [.str (Str.ofString " "), .str (Str.ofString "."), .str (Str.ofString ":"), .str (Str.ofString "=")])= .lst n [.str (Str.ofString " "), .str (Str.ofString "."), .str (Str.ofString ":"), .str (Str.ofString "=")]:=fun d=>by rw[z4l (by lia)];rfl
  rw[e4,Z2 rfl rfl rfl (fun q=>by left;rfl) (fun q=>by left;erw[fl];rfl)]
  left
  obtain⟨k,hk,ek⟩:=ziu u0 u1
  rw[ek]
  left
  rw[z1F rfl (by rw[zl];lia)]
  left
  have hW:=zcl t k
  have hL:=z5I (c:=k) ht.2
  have hne:Txt.split t ⟨#[k]⟩≠[]:=z0W
  generalize Txt.split t ⟨#[k]⟩=ws at hW hL hne
  have hl0:0<ws.length:=List.length_pos_iff.mpr hne
  have hl1:ws.length<=B+1:=by unfold Wz at hW;lia
  have hR: ∀d,rp (pl l d) (.lst (n+1) (ws.map D.str))= .lst (n+1) (ws.map D.str):=fun d=>zc9 (by lia)
  have hbg: ∀d c x,rp (pl (n+1) d) (.lst l [.int c, .int x])= .lst l [.int c, .int x]:=fun d c x=>by rw[z4l (by lia)];rfl
  have el:(((ws.map D.str).length:Nat):Int)=ws.length:=by simp
  rw[zaR]
  left
  rw[el]
  obtain⟨i,c5,x5,i0,i1,b5,e5⟩:=Q1 l c4 x4 ws.length (n+1+1) b4 (by lia) (by lia)
  rw[e5,Z2 rfl rfl rfl (fun q=>by left;erw[hR];rfl) (fun q=>by left;rfl)]
  left
  rw[zaR]
  left
  rw[el]
  obtain⟨j,c6,x6,j0,j1,b6,e6⟩:=Q1 l c5 x5 ws.length (n+1+1) b5 (by lia) (by lia)
  rw[e6,Z2 rfl rfl rfl (fun q=>by left;erw[hR];rfl) (fun q=>by left;rfl)]
  left
  obtain⟨i2,ei⟩:=ziw i0 i1
  obtain⟨j2,ej⟩:=ziw j0 j1
  have wi:ws[i.toNat].length<=B+1:=by rw[<-P6];have:=zaT (A4 i2);lia
  have wj:ws[j.toNat].length<=B+1:=by rw[<-P6];have:=zaT (A4 j2);lia
  have hv:v=4\/v=5\/v=6\/v=7:=by lia
  rcases hv with rfl|rfl|rfl|rfl
  ·have hd: ∀w∈(ws.set i.toNat ws[j.toNat]).set j.toNat ws[i.toNat],Lo (sg w):=zaV (zaV hL (hL _ (A4 j2))) (hL _ (A4 i2))
   have hz:Wz ((ws.set i.toNat ws[j.toNat]).set j.toNat ws[i.toNat])=Wz ws:=by
    have q1:=z8e ws i.toNat ws[j.toNat] i2
    have q2:=z8e (ws.set i.toNat ws[j.toNat]) j.toNat ws[i.toNat] (by rw[R0];exact j2)
    have q3:(ws.set i.toNat ws[j.toNat])[j.toNat]'(by rw[R0];exact j2)=ws[j.toNat]:=by
     rw[List.getElem_set]
     split<;>rfl
    rw[q3] at q2
    lia
   obtain⟨t1,t2⟩:=Tx.joinW hk hd
   rw[hz] at t1 t2
   refine⟨_,c6,x6,n+1+1,t1.up (by lia),b6,by lia, ?_⟩
   left
   rw[zio (d1:= .str ws[j.toNat]) (d2:= .str ws[i.toNat]) (σ:=[some (.lst l [.int c6, .int x6]),some (.str t),some (.int 4),some (.str (Str.ofString "0123456789.:;= -019az")),some (.str ⟨#[g]⟩),some (.int a),some (.str ⟨#[k]⟩),some (.lst (n+1) (ws.map D.str)),some (.int i),some (.int j)]) (tm:=[some (.lst l [.int c6, .int x6]),some (.str t)]) (n:=n+1+1) (by left;rw[ej];left;rw[ei];left)]
   left
   rw[ziq]
   left
   rw[zaa (zeS i0 (by simpa using i1)) (by simp[y4])]
   left
   erw[hbg]
   (try left)
   rw[ziq]
   left
   rw[zaa (zeS j0 (by simpa using j1)) (by simp[y4])]
   left
   erw[hbg,zir]
   (try left)
   rw[<-S5,<-S5,z2B (by rw[zl];lia)]
   left
  ·have hd: ∀w∈z1i ws none (some i)++z1i ws (some (i+1)) none,Lo (sg w):=fun w hw=>(i5.mp hw).elim (fun q=>hL w (z5M q)) (fun q=>hL w (z5M q))
   have hz:Wz (z1i ws none (some i)++z1i ws (some (i+1)) none)<=Wz ws:=by
    obtain⟨m,rfl⟩:=C0 i0
    rw[z8d,cut_take,show((m:Nat):Int)+1=((m+1:Nat):Int) by lia,cut_drop (by lia)]
    have q1:=z7s ws m
    have q2:=z7s (ws.drop m) 1
    rw[E6] at q2
    lia
   obtain⟨t1,t2⟩:=Tx.joinW hk hd
   refine⟨_,c6,x6,n+1+1+1+1+1,t1.up (by lia),b6,by lia, ?_⟩
   have q1:=z5N ws none (some i)
   have q2:=z5N ws (some (i+1)) none
   left
   rw[z5L,z5L,z3e (by rw[zl];erw[m7];lia)]
   left
   rw[<-A9,z2B (by rw[zl];lia)]
   left
  ·have hd: ∀w∈z1i ws none (some i)++[ws[j.toNat]]++z1i ws (some i) none,Lo (sg w):=fun w hw=>(i5.mp hw).elim (fun q=>(i5.mp q).elim (fun q=>hL w (z5M q)) (fun q=>by rw[B0.mp q];exact hL _ (A4 j2))) (fun q=>hL w (z5M q))
   have hz:Wz (z1i ws none (some i)++[ws[j.toNat]]++z1i ws (some i) none)<=Wz ws+(B+2):=by
    obtain⟨m,rfl⟩:=C0 i0
    rw[z8d,z8d,zit,cut_take,cut_drop (by lia)]
    have q1:=z7s ws m
    lia
   obtain⟨t1,t2⟩:=Tx.joinW hk hd
   refine⟨_,c6,x6,n+1+1+1+1+1+1+1,t1.up (by lia),b6,by lia, ?_⟩
   have q1:=z5N ws none (some i)
   have q2:=z5N ws (some i) none
   left
   rw[ej]
   left
   rw[z5L,z3e (by rw[zl];erw[m7,i7,n9];lia)]
   left
   rw[z5L,z3e (by rw[zl];erw[l8,m7,i7,n9];lia)]
   left
   rw[show(z1i ws none (some i)).map D.str++[D.str ws[j.toNat]]++(z1i ws (some i) none).map D.str=(z1i ws none (some i)++[ws[j.toNat]]++z1i ws (some i) none).map D.str by simp,z2B (by rw[zl];lia)]
   left
  ·obtain⟨y,c7,x7,n7,ty,b7,g7,e7⟩:=zlg l (n+1+1) c6 x6 ws[i.toNat] ws[i.toNat].length (by lia) ⟨c9 _,hL _ (A4 i2)⟩ b6
   have yl:=ty.1
   have hd: ∀w∈ws.set i.toNat y,Lo (sg w):=zaV hL ty.2
   have hz:=z8e ws i.toNat y i2
   obtain⟨t1,t2⟩:=Tx.joinW hk hd
   refine⟨_,c7,x7,n7,t1.up (by lia),b7,by lia, ?_⟩
   left
   rw[ei]
   left
   rw[e7,Z2 rfl rfl rfl (fun q=>by left;erw[hR];rfl) (fun q=>by left;rfl)]
   left
   rw[zaa (zeS i0 (by simpa using i1)) (by simp[y4])]
   left
   erw[hbg]
   (try left)
   rw[<-S5,z2B (by rw[zl];lia)]
   left
theorem zlj{s:Stt}:iK zjT (.exc "NoText") s= .ok (.bool false) s:=z6w (by decide+kernel)
theorem zlk{s:Stt}:iK zjU (.exc "NoText") s= .ok (.bool false) s:=z6w (by decide+kernel)
theorem zll{s:Stt}:iK zjV (.exc "NoText") s= .ok (.bool false) s:=z6w (by decide+kernel)
theorem zlm{s:Stt}:iK zjW (.exc "NoText") s= .ok (.bool true) s:=z6w (by decide+kernel)
theorem zln{s:Stt}:iK zjX (.exc "NoText") s= .ok (.bool true) s:=z6w (by decide+kernel)
theorem zlo:X7 "NoText" =true:=by decide+kernel
theorem ziA(t:D)(n:Nat)(h:plain t=true)(hs: ∀x,t≠ .str x):z0P [t] n= .ex (.exc "NoText") [t] n:=by
 unfold z0P z2k
 rw[zhl]
 left
 cases t with
 |str x=>exact absurd rfl (hs x)
 |dct _ _ _=>simp[Mi.plain] at h
 |obj _ _ _ _=>simp[Mi.plain] at h
 |exc _=>simp[Mi.plain] at h
 |fn _=>simp[Mi.plain] at h
 |fdc _ _=>simp[Mi.plain] at h
 |_=>
  left
  rw[zeq]
  rfl
theorem ziB(t:D)(n:Nat)(h:plain t=true)(hs: ∀x,t≠ .str x):K7 [t] n= .ok (.bool true) [t] n:=by
 unfold K7 z2n
 left
 rw[zkx]
 left
 rw[zep]
 left
 rw[ziA t n h hs,zkw]
 rw[zkz,zky zlo]
 rw[show z1k 1 [some t]=[some t] from rfl]
 left
 rw[zag]
 left
 rw[zlj]
 left
 rw[zag]
 left
 rw[zlk]
 left
 rw[zag]
 left
 rw[zll]
 left
 rw[zag]
 left
 rw[zlm]
 left
 rw[zag]
 left
 rw[zln]
 left
 rw[zhm]
 left
theorem ziC{cs:List Cm}:z1i (csD cs) none (some 8)=csD (cs.take 8):=by
 rw[show(8:Int)=((8:Nat):Int) from rfl,cut_take]
 unfold csD
 rw[O4]
theorem zlp{c:Cm}(h:c.ok):Tx 5000 (rT c):=⟨(zd1 h).1,by
 rw[<-zaB,K9,z6B]
 intro d hd
 rcases i5.mp hd with hd|hd
 ·exact zl5 h d hd
 ·rw[B0.mp hd];decide⟩
theorem zeU{cs:List Cm}(hc: ∀c∈cs,c.ok):labsL (csD cs)=[]:=TrL_labs _ (z7e.mpr fun d hd=>by
 obtain⟨c,h,rfl⟩:=m9.mp hd
 exact(zce (hc c h)).1)
theorem zlq(ns:List Int){l:Nat}: ¬l∈y4 (.ro (ns.map .int)):=fun h=>by
 erw[y4] at h
 obtain⟨e,he,hk⟩:=labsL_mem h
 obtain⟨j,_,rfl⟩:=m9.mp he
 simp[y4] at hk
theorem ziD(ns:List Int): ∀k d,rp (pl k d) (.ro (ns.map .int))= .ro (ns.map .int):=fun k d=>z7S (zlq ns)
theorem UpO.of{k:Nat}{d:D}(h:Up k d):UpO k (some d):=fun x hx=>by cases hx;exact h
theorem UpO.mono{k m:Nat}{o:Option D}(h:UpO k o)(hk:k<=m):UpO m o:=fun d hd j hj=>r8 (h d hd j hj) hk
theorem UpO.no{k:Nat}:UpO k none:=fun d hd=>nomatch hd
theorem zlr{cs:List Cm}(hc: ∀c∈cs,c.ok){l k:Nat}(h:l<k):Up k (.lst l (csD cs)):=fun j hj=>by
 erw[y4,zeU hc,i8,t9,or_false] at hj;lia
theorem zeV{k:Nat}{i:Int}:UpO k (some (.int i)):=UpO.of fun j hj=>by erw[y4] at hj;cases hj
theorem zeW{k:Nat}{x:Str}:UpO k (some (.str x)):=UpO.of fun j hj=>by erw[y4] at hj;cases hj
noncomputable def Fl(l:Nat)(o:Option D):Prop:= ∀d,u06 (rp (pl l d)) o=o
noncomputable def ziE:Nat->Nat
 |0=>40000
 |n+1=>2*ziE n+100
theorem zdi: ∀i,i<=3->ziE i<=320700:=fun i h=>by
 have:i=0\/i=1\/i=2\/i=3:=by lia
 rcases this with rfl|rfl|rfl|rfl<;>decide
theorem ziF: ∀i,i<3->ziE i<=400000:=fun i h=>t8 (zdi i (by lia)) (by decide)
noncomputable def bdM:MS:=(Y4 (.nm 6) (mCall z2y [(y0 2),(y0 6)]))
noncomputable def inM:MS:=(Z1 (Y4 (.nm 6) (y0 4))
 (Z1 (z1V (z1f [(y3 (mC (.int 1)) (y0 3) W8)]) (.nm 7) bdM)
 (Z1 (Y4 (.nm 8) (mCall W7 [(y0 6)]))
 (sIf (mOr (z0t (G9 (z68 "list" (y0 8)))) (W5 (y3 (mCB [(y0 8)] z1g) (mCB [(mCall z06 [(y0 6)])] z1g) neS))) (Y9 (mC (.bool false))) sNx))))
theorem zaW(x:Str)(hx:x.length<=1000000)(hlo:Lo (sg x))(n:Nat): ∃(U:List Cm) (n1 n2:Nat),(∀c∈U,c.ok)/\U.length<=60/\n<n1/\n1<n2/\W7 [.str x] n= .ok (.lst n (csD U)) [.str x] n1/\z06 [.str x] n1= .ok (.lst n1 (csD U)) [.str x] n2:=by
 obtain⟨h1,h2⟩:=zdf 60 (Txt.split x (Str.ofString ";"))
 obtain⟨n1,g1,e1⟩:=zih x hx n
 obtain⟨n2,g2,e2⟩:=zeR x hx hlo n1
 exact⟨_,n1,n2,zil h1,h2,g1,g2,e1,e2⟩
theorem zls(ns:List Int)(i t v c x:Int)(T:Str)(hT:Tx 40000 T)(l n:Nat)(h:Bg c x)(hn:l<n)(v0:0<=v)(v1:v<3)(o6 o7 o8 o9 o10:Option D)(s7:Fl l o7)(s8:Fl l o8)(s9:Fl l o9)(s10:Fl l o10):
 ∃(c' x':Int) (y:Str) (p7 p8:Option D) (n':Nat),Bg c' x'/\n<=n'/\Fl l p7/\UpO n' p7/\Fl l p8/\UpO n' p8/\inM ⟨[some (.ro (ns.map .int)),some (.int i),some (.lst l [.int c, .int x]),some (.int v),some (.str T),some (.int t),o6,o7,o8,o9,o10],[some (.ro (ns.map .int))],n⟩= .nx ⟨[some (.ro (ns.map .int)),some (.int i),some (.lst l [.int c', .int x']),some (.int v),some (.str T),some (.int t),some (.str y),p7,p8,o9,o10],[some (.ro (ns.map .int))],n'⟩:=by
 have sr:=ziD ns
 obtain⟨s',e1,c1,x1,y,p7,n1,b1,ty,g1,f7,w7,rfl⟩:=z41 (P:=fun k s=> ∃(c1 x1:Int) (y:Str) (p7:Option D) (n1:Nat),Bg c1 x1/\Tx (ziE k) y/\n<=n1/\Fl l p7/\(0<k->UpO n1 p7)/\s=⟨[some (.ro (ns.map .int)),some (.int i),some (.lst l [.int c1, .int x1]),some (.int v),some (.str T),some (.int t),some (.str y),p7,o8,o9,o10],[some (.ro (ns.map .int))],n1⟩) (lo:=0) (N:=(1+v).toNat) (g:= .nm 7) (b:=bdM) (by
  rintro k hk s ⟨c1,x1,y,p7,n1,b1,ty,g1,f7,_,rfl⟩
  refine⟨_,rfl, ?_⟩
  obtain⟨z,c2,x2,n2,tz,b2,g2,e2⟩:=zli l n1 c1 x1 y (ziE k) (ziF k (by lia)) ty b1 (by lia)
  refine⟨_, ?_,c2,x2,z,some (.int (0+(k:Int))),n2,b2,tz,by lia,fun _=>rfl,fun _=>zeV,rfl⟩
  unfold bdM
  left
  rw[e2,Z2 rfl rfl rfl (fun q=>by left;erw[sr,s8 _,s9 _,s10 _];rfl) (fun q=>by left;erw[sr];rfl)]
  left) (1+v).toNat 0 ⟨[some (.ro (ns.map .int)),some (.int i),some (.lst l [.int c, .int x]),some (.int v),some (.str T),some (.int t),some (.str T),o7,o8,o9,o10],[some (.ro (ns.map .int))],n⟩ (by lia) ⟨c,x,T,o7,n,h,hT,c9 _,s7,fun q=>absurd q (by decide),rfl⟩
 have tl:=ty.up (zdi (1+v).toNat (by lia))
 obtain⟨U,n2,n3,hU,uz,g2,g3,e2,e3⟩:=zaW y (t8 tl.1 (by decide)) tl.2 n1
 refine⟨c1,x1,y,p7,some (.lst n1 (csD U)),n3,b1,by lia,f7,(w7 (by lia)).mono (by lia),fun d=>by rw[C1,zkG (by lia)],UpO.of (zlr hU (by lia)), ?_⟩
 unfold inM
 left
 rw[z40 ⟨by lia,by lia⟩]
 left
 rw[e1]
 left
 rw[e2]
 left
 rw[zcg hU uz]
 left
 rw[e3]
 left
 rw[zcg hU uz]
 left
 rw[z5x]
 erw[beq_self_eq_true]
 left
noncomputable def thM:MS:=(sIf (z0t (G9 (mCall K7 [(y0 9)]))) (Y9 (mC (.bool false))) sNx)
theorem zlt(A:List (Option D))(hA:A.length=9)(ds:List D)(hd: ∀d∈ds,plain d=true/\∀x,d≠ .str x)(L n:Nat)(o9 o10:Option D)(R:D): ∃p9,(p9=o9\/∃d∈ds,p9=some d)/\forGo kLst (.nm 9) thM ds.length 0 ⟨A++[o9,o10],[some (.lst L ds),some R],n⟩= .nx ⟨A++[p9,o10],[some R],n⟩:=by
 match A,hA with
 |[a0,a1,a2,a3,a4,a5,a6,a7,a8],_=>
  obtain⟨s',e,p9,hp,rfl⟩:=z31 (K:=kLst) (g:= .nm 9) (b:=thM) (item:=fun i=>ds.getD i .non) (N:=ds.length) (P:=fun i s=> ∃p9,(p9=o9\/∃d∈ds,p9=some d)/\s=⟨[a0,a1,a2,a3,a4,a5,a6,a7,a8,p9,o10],[some (.lst L ds),some R],n⟩)
   (by rintro i s ⟨_,_,rfl⟩;rw[zcQ])
   (by
    rintro i hi s ⟨p9,_,rfl⟩
    have hm:ds.getD i .non∈ds:=by
     rw[List.getD_eq_getElem?_getD,List.getElem?_eq_getElem hi]
     exact A4 hi
    generalize ds.getD i .non=d at hm
    refine⟨_,rfl,_, ?_,some d, .inr ⟨d,hm,rfl⟩,rfl⟩
    have hq:=hd d hm
    unfold thM
    left
    rw[ziB d n hq.1 hq.2]
    left) ds.length 0 ⟨[a0,a1,a2,a3,a4,a5,a6,a7,a8,o9,o10],[some (.lst L ds),some R],n⟩ (by lia) ⟨o9, .inl rfl,rfl⟩
  rw[z6x,z32] at e
  exact⟨p9,hp,e⟩
noncomputable def odM:MS:=(sIf (W5 (y3 (mCB [(mCall W7 [(y0 10)])] z1g) (mCB [(mCall z06 [(y0 10)])] z1g) neS)) (Y9 (mC (.bool false))) sNx)
theorem zlu(A:List (Option D))(hA:A.length=10)(ws:List Str)(hw: ∀w∈ws,Tx 1000000 w)(L n:Nat)(o10:Option D)(R:D): ∃p10 n',n<=n'/\(p10=o10\/∃w,p10=some (.str w))/\forGo kLst (.nm 10) odM ws.length 0 ⟨A++[o10],[some (.lst L (ws.map D.str)),some R],n⟩= .nx ⟨A++[p10],[some R],n'⟩:=by
 match A,hA with
 |[a0,a1,a2,a3,a4,a5,a6,a7,a8,a9],_=>
  obtain⟨s',e,p10,n',hn,hp,rfl⟩:=z31 (K:=kLst) (g:= .nm 10) (b:=odM) (item:=fun i=>(ws.map D.str).getD i .non) (N:=ws.length) (P:=fun i s=> ∃p10 n',n<=n'/\(p10=o10\/∃w,p10=some (.str w))/\s=⟨[a0,a1,a2,a3,a4,a5,a6,a7,a8,a9,p10],[some (.lst L (ws.map D.str)),some R],n'⟩)
   (by rintro i s ⟨_,_,_,_,rfl⟩;rw[zcQ,m7])
   (by
    rintro i hi s ⟨p10,n',hn,_,rfl⟩
    have hi':(ws.map D.str).getD i .non= .str ws[i]:=by simp[hi]
    rw[hi']
    have hm:=hw ws[i] (A4 hi)
    obtain⟨U,n2,n3,hU,uz,g2,g3,e2,e3⟩:=zaW ws[i] hm.1 hm.2 n'
    refine⟨_,rfl,_, ?_,some (.str ws[i]),n3,by lia, .inr ⟨_,rfl⟩,rfl⟩
    unfold odM
    left
    rw[e2]
    left
    rw[zcg hU uz]
    left
    rw[e3]
    left
    rw[zcg hU uz]
    left
    rw[z5x]
    erw[beq_self_eq_true]
    left) ws.length 0 ⟨[a0,a1,a2,a3,a4,a5,a6,a7,a8,a9,o10],[some (.lst L (ws.map D.str)),some R],n⟩ (by lia) ⟨o10,n,c9 _, .inl rfl,rfl⟩
  rw[z6x,z32] at e
  exact⟨p10,n',hn,hp,e⟩
theorem zeX{x:Str}{B:Nat}(h1:x.length<=B)(h2:((sg x).all fun c=>decide (c<128))=true)(hB:B<=1000000):Tx 1000000 x:=⟨t8 h1 hB,fun c hc=>of_decide_eq_true (A6.mp h2 c hc)⟩
theorem ziG{T:Str}(hT:Tx 40000 T): ∀w∈[Str.ofString "1 0 1:1:0:0",Str.ofString "1 0 1:1:0:0 =",Str.ofString ";;",Str.ofString " ;",Str.ofString "1 0 =1;",Str.ofString "01 0 1:1:0:0 =4;",Str.ofString "-;",T++Str.ofString " "],Tx 1000000 w:=by
 intro w hw
 erw[i8,t9,or_false] at hw
 rcases hw with rfl|rfl|rfl|rfl|rfl|rfl|rfl|rfl
 ·exact zeX (B:=100) (by decide+kernel) (by decide+kernel) (by decide)
 ·exact zeX (B:=100) (by decide+kernel) (by decide+kernel) (by decide)
 ·exact zeX (B:=100) (by decide+kernel) (by decide+kernel) (by decide)
 ·exact zeX (B:=100) (by decide+kernel) (by decide+kernel) (by decide)
 ·exact zeX (B:=100) (by decide+kernel) (by decide+kernel) (by decide)
 ·exact zeX (B:=100) (by decide+kernel) (by decide+kernel) (by decide)
 ·exact zeX (B:=100) (by decide+kernel) (by decide+kernel) (by decide)
 ·exact(hT.app (B:=1) ⟨by rw[zc7];exact c9 _,by rw[z4m];simp[Lo]⟩).up (by decide)
theorem thg{T:Str}{a b k:Nat}(h1:a<k)(h2:b<k): ∀d∈[D.non, .int 0, .bool true, .lst a [], .tup [], .lst b [.str T], .tup [.str T], .int 997],(plain d=true/\∀x,d≠ .str x)/\Up k d:=by
 intro d hd
 erw[i8,t9,or_false] at hd
 rcases hd with rfl|rfl|rfl|rfl|rfl|rfl|rfl|rfl<;>refine⟨⟨rfl,fun x q=>(nomatch q)⟩,fun j hj=> ?_⟩<;>simp[y4,labsL] at hj<;>lia
noncomputable def turnM:MS:=(Z1 (Y4 (.nm 2) (mCall z3W [(y0 0),(y0 1)]))
 (Z1 (Y4 (.nm 3) (mCall Z0 [(y0 2),(mC (.int 3))]))
 (Z1 (Y4 (.nm 4) (J8 (mC (.str ("" :Str))) [(J0 (Y8 (mSl (mCall V4 [(y0 2)]) none (some (mC (.int 8))))) (.nm 0) (rt true) (mCall z1B [(y0 0)]) 1 [])] z28))
 (Z1 (z1V (z1f [(mC (.int 12))]) (.nm 5) inM)
 (Z1 (z1V (Y8 (mCB [(mC .non),(mC (.int 0)),(mC (.bool true)),(mCB [] lstM),(mCB [] z1U),(mCB [(y0 4)] lstM),(mCB [(y0 4)] z1U),(mC (.int 997))] lstM)) (.nm 9) thM)
 (z1V (Y8 (mCB [(mC (.str ("1 0 1:1:0:0" :Str))),(mC (.str ("1 0 1:1:0:0 =" :Str))),(mC (.str (";;" :Str))),(mC (.str (" ;" :Str))),(mC (.str ("1 0 =1;" :Str))),(mC (.str ("01 0 1:1:0:0 =4;" :Str))),(mC (.str ("-;" :Str))),(y3 (y0 4) (mC (.str (" " :Str))) W8)] lstM)) (.nm 10) odM))))))
theorem zeY(ns:List Int)(hl:ns.length<1000)(i:Nat)(hi:i<6)(n:Nat)(o2 o3 o4 o5 o6 o7 o8 o9 o10:Option D)(u3:UpO n o3)(u4:UpO n o4)(u5:UpO n o5)(u6:UpO n o6)(u7:UpO n o7)(u8:UpO n o8)(u9:UpO n o9)(u10:UpO n o10):
 ∃n' p2 p3 p4 p5 p6 p7 p8 p9 p10,turnM ⟨[some (.ro (ns.map .int)),some (.int i),o2,o3,o4,o5,o6,o7,o8,o9,o10],[some (.ro (ns.map .int))],n⟩= .nx ⟨[some (.ro (ns.map .int)),some (.int i),p2,p3,p4,p5,p6,p7,p8,p9,p10],[some (.ro (ns.map .int))],n'⟩/\UpO n' p3/\UpO n' p4/\UpO n' p5/\UpO n' p6/\UpO n' p7/\UpO n' p8/\UpO n' p9/\UpO n' p10:=by
 have s3:=u3.fix
 have s4:=u4.fix
 have s5:=u5.fix
 have s6:=u6.fix
 have s7:=u7.fix
 have s8:=u8.fix
 have s9:=u9.fix
 have s10:=u10.fix
 have sr:=ziD ns
 obtain⟨c,x,b0,e0⟩:=zhp ns i n (by lia) hl
 obtain⟨v,c1,x1,v0,v1,b1,e1⟩:=Q1 n c x 3 (n+1) b0 (by decide) (by decide)
 obtain⟨cs,c2,x2,L,n2,hz,hc,b2,g1,g2,e2⟩:=zeH n c1 x1 (n+1) b1 (by lia)
 have ho: ∀c∈cs.take 8,c.ok:=fun c h=>(hc c (E4 h)).1
 obtain⟨n4,g4,e4⟩:=z09 (mi:=Y8 (mSl (mCall V4 [(y0 2)]) none (some (mC (.int 8))))) (K:=kLst) (tg:= .nm 0) (me:=mCall z1B [(y0 0)]) (g:=gC) (sl:=fun d=>[some d]) (k:=1) (items:=csD (cs.take 8)) (its:=[some (.lst n2 (csD (cs.take 8)))]) (ix:=[]) (s:=⟨[some (.ro (ns.map .int)),some (.int i),some (.lst n [.int c1, .int x1]),some (.int v),o4,o5,o6,o7,o8,o9,o10],[some (.ro (ns.map .int))],n+1⟩) (σ:=[some (.ro (ns.map .int)),some (.int i),some (.lst n [.int c2, .int x2]),some (.int v),o4,o5,o6,o7,o8,o9,o10]) (tm:=[some (.ro (ns.map .int))]) (n:=n2+1) (z3f (by
  left
  rw[e2,Z2 rfl rfl rfl (fun q=>by left;erw[sr,s4,s5,s6,s7,s8,s9,s10];rfl) (fun q=>by left;erw[sr];rfl)]
  left
  rw[ziC]
  rfl)) rfl (by rw[zl,z4I,C2];lia) (fun i rest=>rfl) rfl (by
  intro d hd
  refine⟨rfl,fun os ho=> ?_⟩
  match os,ho with
  |[a0],_=>rfl) (by
  intro d hd tm n
  obtain⟨c,hp,rfl⟩:=m9.mp hd
  obtain⟨n',h1,e⟩:=zhT c (ho c hp) n
  refine⟨n',h1, ?_⟩
  erw[t7,i9]
  left
  rw[e,zlO]
  left)
 rw[zhR] at e4
 obtain⟨hT,hj⟩:=Tx.join (ys:=(cs.take 8).map rT) (N:=8) (fun y hy=>by
  obtain⟨c,h,rfl⟩:=m9.mp hy
  exact zlp (ho c h)) (by rw[m7,C2];lia)
 generalize eT:Txt.join (Str.ofString "") ((cs.take 8).map rT)=T at hT
 obtain⟨s',e7,c7,x7,p5,p6,p7,p8,n7,b7,hn7,w5,w6,f7,w7,f8,w8,rfl⟩:=z41 (P:=fun k s=> ∃(c7 x7:Int) (p5 p6 p7 p8:Option D) (n7:Nat),Bg c7 x7/\n4+1<=n7/\UpO n7 p5/\UpO n7 p6/\Fl n p7/\UpO n7 p7/\Fl n p8/\UpO n7 p8/\s=⟨[some (.ro (ns.map .int)),some (.int i),some (.lst n [.int c7, .int x7]),some (.int v),some (.str T),p5,p6,p7,p8,o9,o10],[some (.ro (ns.map .int))],n7⟩) (lo:=0) (N:=12) (g:= .nm 5) (b:=inM) (by
  rintro k hk s ⟨c7,x7,p5,p6,p7,p8,n7,b7,hn7,w5,w6,f7,w7,f8,w8,rfl⟩
  refine⟨_,rfl, ?_⟩
  obtain⟨c8,x8,y,q7,q8,n8,b8,g8,a7,a8,a9,a10,e8⟩:=zls ns i (0+(k:Int)) v c7 x7 T hT n n7 b7 (by lia) v0 v1 p6 p7 p8 o9 o10 f7 f8 s9 s10
  exact⟨_,e8,c8,x8,_,_,q7,q8,n8,b8,by lia,zeV,zeW,a7,a8,a9,a10,rfl⟩) 12 0 ⟨[some (.ro (ns.map .int)),some (.int i),some (.lst n [.int c2, .int x2]),some (.int v),some (.str T),o5,o6,o7,o8,o9,o10],[some (.ro (ns.map .int))],n4+1⟩ (by lia) ⟨c2,x2,o5,o6,o7,o8,n4+1,b2,c9 _,u5.mono (by lia),u6.mono (by lia),s7,u7.mono (by lia),s8,u8.mono (by lia),rfl⟩
 have hth:=thg (T:=T) (a:=n7) (b:=n7+1) (k:=n7+1+1+1) (by lia) (by lia)
 obtain⟨p9,h9,e9⟩:=zlt [some (.ro (ns.map .int)),some (.int i),some (.lst n [.int c7, .int x7]),some (.int v),some (.str T),p5,p6,p7,p8] rfl [D.non, .int 0, .bool true, .lst n7 [], .tup [], .lst (n7+1) [.str T], .tup [.str T], .int 997] (fun d h=>(hth d h).1) (n7+1+1) (n7+1+1+1) o9 o10 (.ro (ns.map .int))
 obtain⟨p10,n10,g10,h10,e10⟩:=zlu [some (.ro (ns.map .int)),some (.int i),some (.lst n [.int c7, .int x7]),some (.int v),some (.str T),p5,p6,p7,p8,p9] rfl [Str.ofString "1 0 1:1:0:0",Str.ofString "1 0 1:1:0:0 =",Str.ofString ";;",Str.ofString " ;",Str.ofString "1 0 =1;",Str.ofString "01 0 1:1:0:0 =4;",Str.ofString "-;",T++Str.ofString " "] (ziG hT) (n7+1+1+1) (n7+1+1+1+1) o10 (.ro (ns.map .int))
 have w9:UpO n10 p9:=by
  rcases h9 with rfl|⟨d,hd,rfl⟩
  ·exact u9.mono (by lia)
  ·exact(UpO.of (hth d hd).2).mono (by lia)
 have w10:UpO n10 p10:=by
  rcases h10 with rfl|⟨w,rfl⟩
  ·exact u10.mono (by lia)
  ·exact zeW
 refine⟨n10,some (.lst n [.int c7, .int x7]),some (.int v),some (.str T),p5,p6,p7,p8,p9,p10, ?_,zeV,zeW,w5.mono (by lia),w6.mono (by lia),w7.mono (by lia),w8.mono (by lia),w9,w10⟩
 have tl:=hT.1
 unfold turnM
 left
 rw[e0]
 left
 rw[e1,Z2 rfl rfl rfl (fun q=>by left;erw[sr,s3,s4,s5,s6,s7,s8,s9,s10];rfl) (fun q=>by left;erw[sr];rfl)]
 left
 rw[e4]
 left
 rw[z2B (by rw[zl];lia),eT]
 left
 rw[z40 ⟨by decide,by decide⟩]
 left
 rw[show Int.toNat 12=12 from rfl,e7]
 left
 rw[z3f (l:=n7+1+1) (ds:=[D.non, .int 0, .bool true, .lst n7 [], .tup [], .lst (n7+1) [.str T], .tup [.str T], .int 997]) (σ:=[some (.ro (ns.map .int)),some (.int i),some (.lst n [.int c7, .int x7]),some (.int v),some (.str T),p5,p6,p7,p8,o9,o10]) (tm:=[some (.ro (ns.map .int))]) (n:=n7+1+1+1) (by
  left
  rw[k8])]
 left
 rw[show ∀(l:Nat) (ds:List D) (tm:List (Option D)),kLst.len (some (.lst l ds)::tm)=ds.length from fun _ _ _=>rfl]
 erw[m8,n5] at e9 e10
 rw[e9]
 left
 rw[z3f (l:=n7+1+1+1) (ds:=[Str.ofString "1 0 1:1:0:0",Str.ofString "1 0 1:1:0:0 =",Str.ofString ";;",Str.ofString " ;",Str.ofString "1 0 =1;",Str.ofString "01 0 1:1:0:0 =4;",Str.ofString "-;",T++Str.ofString " "].map D.str) (σ:=[some (.ro (ns.map .int)),some (.int i),some (.lst n [.int c7, .int x7]),some (.int v),some (.str T),p5,p6,p7,p8,p9,o10]) (tm:=[some (.ro (ns.map .int))]) (n:=n7+1+1+1+1) (by
  left
  rw[z0a (by rw[zl,zc7];lia)]
  left
  rw[k8]
  try rfl)]
 left
 rw[show ∀(l:Nat) (ds:List D) (tm:List (Option D)),kLst.len (some (.lst l ds)::tm)=ds.length from fun _ _ _=>rfl]
 exact e10
theorem ziH(ns:List Int)(hl:ns.length<1000)(n:Nat): ∃n',f_law [.ro (ns.map .int)] n= .ok (.bool true) [.ro (ns.map .int)] n':=by
 unfold f_law
 have e0:zeg=Z1 (z1V (z1f [(mCB [(mC (.int 2)),(mCB [(mCB [(y0 0)] z27),(mC (.int 5))] zbs)] zcv)]) (.nm 1) turnM) (Y9 (mC (.bool true))):=rfl
 rw[e0]
 left
 have w0:((ns.map D.int).length:Int)=ns.length:=by simp
 rw[w0]
 generalize hk:(if(if(5:Int)<(ns.length:Int) then(5:Int) else(ns.length:Int))>2 then(if(5:Int)<(ns.length:Int) then(5:Int) else(ns.length:Int)) else(2:Int))=k
 have hk0:0<=k/\k<=5:=by split at hk<;>(try split at hk)<;>lia
 rw[z40 ⟨by lia,by lia⟩]
 left
 obtain⟨s',e2,o1,o2,o3,o4,o5,o6,o7,o8,o9,o10,m,rfl,u3,u4,u5,u6,u7,u8,u9,u10⟩:=z41 (P:=fun i s=> ∃(o1 o2 o3 o4 o5 o6 o7 o8 o9 o10:Option D) (n:Nat),s=⟨[some (.ro (ns.map .int)),o1,o2,o3,o4,o5,o6,o7,o8,o9,o10],[some (.ro (ns.map .int))],n⟩/\UpO n o3/\UpO n o4/\UpO n o5/\UpO n o6/\UpO n o7/\UpO n o8/\UpO n o9/\UpO n o10) (lo:=0) (N:=k.toNat) (g:= .nm 1) (b:=turnM) (by
  rintro i hi s ⟨o1,o2,o3,o4,o5,o6,o7,o8,o9,o10,n,rfl,u3,u4,u5,u6,u7,u8,u9,u10⟩
  refine⟨[some (.ro (ns.map .int)),some (.int i),o2,o3,o4,o5,o6,o7,o8,o9,o10],by erw[N5];rfl, ?_⟩
  obtain⟨n',p2,p3,p4,p5,p6,p7,p8,p9,p10,e,v3,v4,v5,v6,v7,v8,v9,v10⟩:=zeY ns hl i (by lia) n o2 o3 o4 o5 o6 o7 o8 o9 o10 u3 u4 u5 u6 u7 u8 u9 u10
  exact⟨_,e,_,p2,p3,p4,p5,p6,p7,p8,p9,p10,n',rfl,v3,v4,v5,v6,v7,v8,v9,v10⟩) k.toNat 0 ⟨[some (.ro (ns.map .int)),none,none,none,none,none,none,none,none,none,none],[some (.ro (ns.map .int))],n⟩ (by lia) ⟨none,none,none,none,none,none,none,none,none,none,n,rfl, .no, .no, .no, .no, .no, .no, .no, .no⟩
 rw[e2]
 left
 exact⟨_,rfl⟩
end My
set_option maxHeartbeats 4000000
namespace Mi
open PySem L2 PySem.Spec PyProof.Rows
noncomputable def zaX(K:W.Frag)(np:Nat)(f:FM):Sp:=fun vs H Q E=>vs.length=np/\∀G:Gx,G.K=K->KD K H->spM G np f vs H Q E
theorem ziI{P:Program}{w:World}{K:W.Frag}{mg:Str->Option Value}{base:Heap}{CX:CXT}{k:Nat}{fa:Addr}{fd:FuncData}{x:Str}{f:FM}{G:Gx}(hG:G.K=K)(F:u2 P w K mg base CX k fa fd [x] (spM G 1 f)):u2 P w K mg base CX k fa fd [x] (zaX K 1 f):=
 ⟨fun _ _ _ _ h=>h.1,fun A outer s H args us vs Q E hr e0 hb hv h=>F.run A outer s H args us vs Q E hr e0 hb hv (h.2 G hG fun a o e=>(e0.bs a o (e0.mod.kin a o e)).2)⟩
theorem RDs.ints{G:Gx}{ρ:Nat->Addr}{H:Hp}: ∀ns:List Int,RDs G ρ H (ns.map D.int) (ns.map V.int)
 |[]=>by erw[t7,RDs]
 |n::ns=>by
  erw[l6,RDs]
  exact⟨_,_,rfl,by erw[RD],RDs.ints ns⟩
theorem z6G: ∀ns:List Int,labsL (ns.map D.int)=[]
 |[]=>by erw[t7,labsL]
 |n::ns=>by erw[l6,labsL,y4,z6G ns,n5]
theorem ziJ{K:W.Frag}{H:Hp}{a:Addr}{ns:List Int}{f:FM}{E:XK}(e: ∀n,∃n',f [.ro (ns.map D.int)] n= .ok (.bool true) [.ro (ns.map D.int)] n')(hO:ziO H)(hS:SqL K H a (ns.map V.int)):zaX K 1 f [.ref a] H (fun v _=>v= .bl true) E:=by
 refine⟨rfl,fun G hG kd=> ?_⟩
 subst hG
 refine⟨rfl,fun _=>a,0,[.ro (ns.map D.int)], ?_,fun i j hi=>absurd hi (T7 _),fun l hl=>absurd hl (T7 _),fun l hl=> ?_,kd, ?_⟩
 ·erw[RDs,RD]
  refine⟨_,_,rfl,⟨a,ns.map V.int,rfl, ?_,RDs.ints ns⟩,rfl⟩
  rcases hS with(h|h)|h
  ·rcases hO a with z|⟨o,xs,z⟩<;>rw[h] at z<;>cases z
  ·exact .inl h
  ·exact .inr h
 ·erw[labsL,y4,z6G,i9] at hl
  cases hl
 ·obtain⟨n',e⟩:=e 0
  rw[e]
  intro ρ' v H' _ rd _
  erw[RD] at rd
  exact rd
end Mi
namespace My
open PySem L2 Mi
structure DA(K:W.Frag)(x:Str)(st:Stmt)(f:Addr)(d:FuncData):Prop where
 a:W.nsIn K mainGlobals x=some (some (.ref f))
 F:Fun K x x st f d
theorem zlv{K:W.Frag}{x:Str}{st:Stmt}{f:Addr}{oc:Value}{od an:Option Addr}{sl:Array (Option Value)}{kV dc pm cd ct:Value}(a:W.nsIn K mainGlobals x=some (some (.ref f)))
 (l:K.lookup f=some ⟨oc,od, .func (W.fnOf x x (z25 st) (U0 st) (y2 st) .none kV dc pm an cd ct),sl⟩) (c:W.codeIn K cd x=true) (k:W.keepIn K (.ref f)=true):
 DA K x st f (W.fnOf x x (z25 st) (U0 st) (y2 st) .none kV dc pm an cd ct):=⟨a,zfN l c k⟩
noncomputable def dx{K:W.Frag}{h:Heap}{mg:Str->Option Value}{x:Str}{st:Stmt}{f:Addr}{d:FuncData}{ps:List Str}(X:K.In h)(G:h.Ns mainGlobals mg)(a:DA K x st f d)
 (b: ∀(kV dc pm:Value) (an:Option Addr) (cd ct:Value) (us:List Value),us.length=ps.length->bindArgs (W.fnOf x x (z25 st) (U0 st) (y2 st) .none kV dc pm an cd ct) ⟨us,[]⟩=pure (ps.zip us)):Dx K mg x st ps:=
 ⟨f,d,a.F,a.F.binds b,W.mg_of X G a.a⟩
theorem ziK{l:W.OpenLaw}{w:World}{K:W.Frag}{h:Heap}{mg:Str->Option Value}{fa f0 f1 f2 f3 f4 f5 f6 f7 f8 f9 f10 f11 f12 f13 f14 f15 f16 f17 f18 f19 f20 f21 f22 f23 f24 f25 f26 f27 f28 f29 f30 f31 f32:Addr}{d0 d1 d2 d3 d4 d5 d6 d7 d8 d9 d10 d11 d12 d13 d14 d15 d16 d17 d18 d19 d20 d21 d22 d23 d24 d25 d26 d27 d28 d29 d30 d31 d32:FuncData}(X:K.In h)(G:h.Ns mainGlobals mg)(hfa:mg "law" =some (.ref fa))
 (a0:DA K "is_number" z0x f0 d0)
 (a1:DA K "is_whole" z1l f1 d1)
 (a2:DA K "is_row" z2L f2 d2)
 (a3:DA K "is_piece" z1m f3 d3)
 (a4:DA K "is_piece_signs" U1 f4 d4)
 (a5:DA K "has_piece_kinds" G3 f5 d5)
 (a6:DA K "is_way" z2M f6 d6)
 (a7:DA K "is_commit" z0y f7 d7)
 (a8:DA K "row_text" z1n f8 d8)
 (a9:DA K "dotted" z2N f9 d9)
 (a10:DA K "piece_text" z0b f10 d10)
 (a11:DA K "check_of" z1o f11 d11)
 (a12:DA K "come_up" z2b f12 d12)
 (a13:DA K "commit_of" z0z f13 d13)
 (a14:DA K "read_piece" z0c f14 d14)
 (a15:DA K "read_dotted" K0 f15 d15)
 (a16:DA K "read_number" K1 f16 d16)
 (a17:DA K "_law_bag" z6Y f17 d17)
 (a18:DA K "_law_take" z58 f18 d18)
 (a19:DA K "_law_numbers_of" z0d f19 d19)
 (a20:DA K "_law_commit" z2O f20 d20)
 (a21:DA K "_law_commits" z2c f21 d21)
 (a22:DA K "_law_dots" z59 f22 d22)
 (a23:DA K "_law_row" z6Z f23 d23)
 (a24:DA K "_law_number" z2P f24 d24)
 (a25:DA K "_law_numbers" z2d f25 d25)
 (a26:DA K "_law_is_commit" z0A f26 d26)
 (a27:DA K "_law_commit_in" z0B f27 d27)
 (a28:DA K "_law_came" z5a f28 d28)
 (a29:DA K "_law_word_bent" z0C f29 d29)
 (a30:DA K "_law_bent" z5b f30 d30)
 (a31:DA K "_law_refused" z2e f31 d31)
 (a32:DA K "law" zec f32 d32)
 (z0:W.nsIn K mainGlobals "ValueError" =some none)
 (z1:W.nsIn K mainGlobals "abs" =some none)
 (z2:W.nsIn K mainGlobals "all" =some none)
 (z3:W.nsIn K mainGlobals "bool" =some none)
 {tk4:Nat} (z4:W.nsIn K mainGlobals "CHECK_DIVISOR" =some (some (.int 997 tk4)))
 {tk5:Nat} (z5:W.nsIn K mainGlobals "FIGURES" =some (some (.str ("0123456789" :Str) tk5)))
 {tk6:Nat} (z6:W.nsIn K mainGlobals "LAST_PIECE_COST" =some (some (.int 99999 tk6)))
 {tk7:Nat} (z7:W.nsIn K mainGlobals "LAST_PIECE_KIND" =some (some (.int 8 tk7)))
 {tk8:Nat} (z8:W.nsIn K mainGlobals "LAST_SIGN" =some (some (.int 1039 tk8)))
 {tk9:Nat} (z9:W.nsIn K mainGlobals "LAST_SOUND" =some (some (.int 39 tk9)))
 {tk10:Nat} (z10:W.nsIn K mainGlobals "MOST_FIGURES" =some (some (.int 5 tk10)))
 {tk11:Nat} (z11:W.nsIn K mainGlobals "MOST_PIECE_SIGNS" =some (some (.int 24 tk11)))
 {tk12:Nat} (z12:W.nsIn K mainGlobals "MOST_PLACES" =some (some (.int 24 tk12)))
 {tk13:Nat} (z13:W.nsIn K mainGlobals "MOST_ROWS" =some (some (.int 60 tk13)))
 (z14:W.nsIn K mainGlobals "enumerate" =some none)
 (z15:W.nsIn K mainGlobals "int" =some none)
 (z16:W.nsIn K mainGlobals "isinstance" =some none)
 (z17:W.nsIn K mainGlobals "len" =some none)
 (z18:W.nsIn K mainGlobals "list" =some none)
 (z19:W.nsIn K mainGlobals "max" =some none)
 (z20:W.nsIn K mainGlobals "min" =some none)
 (z21:W.nsIn K mainGlobals "range" =some none)
 (z22:W.nsIn K mainGlobals "str" =some none)
 (z23:W.nsIn K mainGlobals "sum" =some none)
 (z24:W.nsIn K mainGlobals "tuple" =some none)
 {ka9:Addr}
 (q1:nI K "Barred" ka9)
 {kas:Addr}
 (q3:nI K "BenchError" kas)
 {kbo:Addr}
 (q5:nI K "Fight" kbo)
 {kbs:Addr}
 (q7:nI K "Full" kbs)
 {kbk:Addr}
 (q9:nI K "Marked" kbk)
 {kaS:Addr}
 (q11:nI K "Missing" kaS)
 {kaM:Addr}
 (q13:nI K "NoChoice" kaM)
 {kay:Addr}
 (q15:nI K "NoCutting" kay)
 {kbf:Addr}
 (q17:nI K "NoDeed" kbf)
 {kbj:Addr}
 (q19:nI K "NoMark" kbj)
 {kbb:Addr}
 (q21:nI K "NoNode" kbb)
 {ka3:Addr}
 (q23:nI K "NoPlace" ka3)
 {kaL:Addr}
 (q25:nI K "NoSaying" kaL)
 {kar:Addr}
 (q27:nI K "NoStanding" kar)
 {kaR:Addr}
 (q29:nI K "NoTable" kaR)
 {kbi:Addr}
 (q31:nI K "NoText" kbi)
 {kbh:Addr}
 (q33:nI K "NoTurn" kbh)
 {ka6:Addr}
 (q35:nI K "NoWish" ka6)
 {ka7:Addr}
 (q37:nI K "NoWord" ka7)
 {ka4:Addr}
 (q39:nI K "Nothing" ka4)
 {kaW:Addr}
 (q41:nI K "TooLong" kaW)
 {kaY:Addr}
 (q43:nI K "TooMany" kaY)
 {kbn:Addr}
 (q45:nI K "Twice" kbn)
 {kbr:Addr}
 (q47:nI K "Waits" kbr)
 (q48:xA K kbi)
 (q49:mO K kbi "object")
 (q50:mO K kbi "BaseException")
 (q51:fA K kbi)
 (q52:fB K kbi)
 (q53:fC K kbi)
 (q54:eB K kbi kas)
 (q55:kN K kbi [ka9,kbk,kbf,kbj,ka3,kar,kaW,ka7,kbn,kaY])
 (q56:kN K kbi [kaS,kaM,kbb,ka4,ka6,kbo,kay,kbr,kbh,kbs])
 (q57:kN K kbi [kaR,kaL])
 (q58:kV K kbi)
 (q59:kF K kbi kbi true)
 (q60:[kbi].Nodup)
 : ∃fd:FuncData,(∀(s:Shared) (v:Value),BindsTo s fd ⟨[v],[]⟩ [("_law_script",v)])/\∀base:Heap,K.In base->base.Ns mainGlobals mg->u2 l.prog w K mg base CX0 11 fa fd ["_law_script"] (zaX K 1 f_law):=by
 have e:=hfa.symm.trans (W.mg_of X G a32.a)
 cases e
 obtain⟨oc,od,kV,doc,pm,an,cdv,ct,osl,rfl,lk,hcd⟩:=a32.F.ex
 exact⟨_,fun s v=> .of_eq rfl,fun base _ _=>ziI rfl (zgW ⟨dx X G a0 fun _ _ _ _ _ _ us hl=>match us,hl with|[_],_=>rfl,dx X G a1 fun _ _ _ _ _ _ us hl=>match us,hl with|[_,_,_],_=>rfl,dx X G a2 fun _ _ _ _ _ _ us hl=>match us,hl with|[_,_,_,_],_=>rfl,dx X G a3 fun _ _ _ _ _ _ us hl=>match us,hl with|[_,_,_],_=>rfl,dx X G a4 fun _ _ _ _ _ _ us hl=>match us,hl with|[_],_=>rfl,dx X G a5 fun _ _ _ _ _ _ us hl=>match us,hl with|[_],_=>rfl,dx X G a6 fun _ _ _ _ _ _ us hl=>match us,hl with|[_,_],_=>rfl,dx X G a7 fun _ _ _ _ _ _ us hl=>match us,hl with|[_],_=>rfl,dx X G a8 fun _ _ _ _ _ _ us hl=>match us,hl with|[_],_=>rfl,dx X G a9 fun _ _ _ _ _ _ us hl=>match us,hl with|[_],_=>rfl,dx X G a10 fun _ _ _ _ _ _ us hl=>match us,hl with|[_],_=>rfl,dx X G a11 fun _ _ _ _ _ _ us hl=>match us,hl with|[_],_=>rfl,dx X G a12 fun _ _ _ _ _ _ us hl=>match us,hl with|[_],_=>rfl,dx X G a13 fun _ _ _ _ _ _ us hl=>match us,hl with|[_],_=>rfl,dx X G a14 fun _ _ _ _ _ _ us hl=>match us,hl with|[_],_=>rfl,dx X G a15 fun _ _ _ _ _ _ us hl=>match us,hl with|[_],_=>rfl,dx X G a16 fun _ _ _ _ _ _ us hl=>match us,hl with|[_],_=>rfl,dx X G a17 fun _ _ _ _ _ _ us hl=>match us,hl with|[_,_],_=>rfl,dx X G a18 fun _ _ _ _ _ _ us hl=>match us,hl with|[_,_],_=>rfl,dx X G a19 fun _ _ _ _ _ _ us hl=>match us,hl with|[_,_,_],_=>rfl,dx X G a20 fun _ _ _ _ _ _ us hl=>match us,hl with|[_,_,_],_=>rfl,dx X G a21 fun _ _ _ _ _ _ us hl=>match us,hl with|[_],_=>rfl,dx X G a22 fun _ _ _ _ _ _ us hl=>match us,hl with|[_],_=>rfl,dx X G a23 fun _ _ _ _ _ _ us hl=>match us,hl with|[_],_=>rfl,dx X G a24 fun _ _ _ _ _ _ us hl=>match us,hl with|[_],_=>rfl,dx X G a25 fun _ _ _ _ _ _ us hl=>match us,hl with|[_],_=>rfl,dx X G a26 fun _ _ _ _ _ _ us hl=>match us,hl with|[_,_],_=>rfl,dx X G a27 fun _ _ _ _ _ _ us hl=>match us,hl with|[_],_=>rfl,dx X G a28 fun _ _ _ _ _ _ us hl=>match us,hl with|[_],_=>rfl,dx X G a29 fun _ _ _ _ _ _ us hl=>match us,hl with|[_,_],_=>rfl,dx X G a30 fun _ _ _ _ _ _ us hl=>match us,hl with|[_,_],_=>rfl,dx X G a31 fun _ _ _ _ _ _ us hl=>match us,hl with|[_],_=>rfl,dx X G a32 fun _ _ _ _ _ _ us hl=>match us,hl with|[_],_=>rfl,W.mg_none_of X G z0,W.mg_none_of X G z1,W.mg_none_of X G z2,W.mg_none_of X G z3,⟨_,W.mg_of X G z4⟩,⟨_,W.mg_of X G z5⟩,⟨_,W.mg_of X G z6⟩,⟨_,W.mg_of X G z7⟩,⟨_,W.mg_of X G z8⟩,⟨_,W.mg_of X G z9⟩,⟨_,W.mg_of X G z10⟩,⟨_,W.mg_of X G z11⟩,⟨_,W.mg_of X G z12⟩,⟨_,W.mg_of X G z13⟩,W.mg_none_of X G z14,W.mg_none_of X G z15,W.mg_none_of X G z16,W.mg_none_of X G z17,W.mg_none_of X G z18,W.mg_none_of X G z19,W.mg_none_of X G z20,W.mg_none_of X G z21,W.mg_none_of X G z22,W.mg_none_of X G z23,W.mg_none_of X G z24,ka9,W.mg_of X G q1,kas,W.mg_of X G q3,kbo,W.mg_of X G q5,kbs,W.mg_of X G q7,kbk,W.mg_of X G q9,kaS,W.mg_of X G q11,kaM,W.mg_of X G q13,kay,W.mg_of X G q15,kbf,W.mg_of X G q17,kbj,W.mg_of X G q19,kbb,W.mg_of X G q21,ka3,W.mg_of X G q23,kaL,W.mg_of X G q25,kar,W.mg_of X G q27,kaR,W.mg_of X G q29,kbi,W.mg_of X G q31,kbh,W.mg_of X G q33,ka6,W.mg_of X G q35,ka7,W.mg_of X G q37,ka4,W.mg_of X G q39,kaW,W.mg_of X G q41,kaY,W.mg_of X G q43,kbn,W.mg_of X G q45,kbr,W.mg_of X G q47,q48,q49,q50,q51,q52,q53,q54,q55,q56,q57,q58,q59,q60⟩)⟩
theorem zmQ{l:W.OpenLaw}{q:Program}{loose:List Str}{XP:(Str->Option Value)->Heap->Prop}{YP:World->Heap->Prop}{d:DefRec}{K:Params->W.Frag}(hn:l.most=some 63)(hdf:d.params.defaults=[])
 (hY: ∀(w:World) (h:Heap),YP w h->(K w.params).In h)
 (F: ∀(w:World) (mg:Str->Option Value) (fa:Addr) (h:Heap),(K w.params).In h->h.Ns mainGlobals mg->mg d.name=some (.ref fa)->
  ∃fd:FuncData,(∀(s:Shared) (u:Value),BindsTo s fd ⟨[u],[]⟩ [("_law_script",u)])/\∀base:Heap,(K w.params).In base->base.Ns mainGlobals mg->u2 l.prog w (K w.params) mg base CX0 11 fa fd ["_law_script"] (zaX (K w.params) 1 f_law)):
 W.WalkO q loose XP YP l.row.toRowW d [] (fun f vs=>PySem.call f vs):=
 L2.zdD (n:=63) (k:=11) (x:= "_law_script") (CX:=fun _=>CX0) (sp:=fun w=>zaX (K w.params) 1 f_law) hn (by decide) hdf ⟨rfl,by decide,by decide,rfl⟩ hY F (fun _ _ a ns hl hO hS=>ziJ (fun n=>ziH ns (by lia) n) hO hS) fun _ _ _ _ _ h=>h.elim
end My
inductive PySem.W.Fast:Prop|tw15414756182661412482|tw3480968525980113388|tw5941963421094199628|tw7552917408073871497|tw16193266928508922755|tw11986800333185294758|tw18372465163640224863|tw16343762499516517172|tw7357384848946150111|tw13192948985038904880|tw4498390603853956890|tw6624227900514449583|tw8990870133234762027|tw17228261458793454365|tw8195001751558166074|tw2895198421743027321|tw5722685736088261971|tw17511362351867296076|tw14202573505594434888|tw934116913092634123|tw6592122044754937082|tw16029045215012800391|tw15006117198205555525|tw16022426836971943179|tw12890717631204196329|tw3665567454959808877|tw10289416600187317633|tw16279618870581582755|tw9400999089367331678|tw15195629396975319650|tw14450417329963912992|tw4464407836533415160|tw16292246034644192820|tw16327710408114282263|tw6250105399118028613|tw15816314783837489233|tw9654533086706808218|tw654334829819958117|tw18259129582722457154|tw10330291715654961861|tw8994920689713748071|tw5639084554197705117|tw15329905899491252748|tw7906361892751092686|tw13796889547775395739|tw11863474784095079278|tw9104641442243681552|tw7791604239578140134|tw13149094907851544966|tw16162739877189282665|tw9491483622244973876|tw8458384064831172186|tw10625892539975000686|tw1335291830717523259|tw16716575703057913958|tw15089237415983729607|tw12015664746488150697|tw9113967983067311420|tw18277996109495293008|tw8402531328147797788|tw15862204397527680418|tw4764884431373236010|tw15356793712859965658|tw1041601232340142489|tw5407328365097348671|tw3510472315816920457|tw16871979217067179502|tw5746052428475097341|tw429789899866124458|tw10238535666001916555|tw16791080628431858371|tw13782003017821328675|tw12006365104416897642|tw4689124402315830562|tw5884050882839120646|tw2567084186165924007|tw433815283821606348|tw16214179857739321226|tw1759811216822518539|tw7804712119358216032|tw1476620262069668875|tw14092749563070816630|tw3207396872815677529|tw427049861178055839|tw12561001079594370470|tw10285224127585598557|tw11202391820101709127|tw15335190564634823979|tw4560804277532315975|tw9918065294112830562|tw13359115416164086187|tw2652685078619260079|tw9127845913992876878|tw2280309649218262632|tw3773659191150007167|tw7632812583917197648|tw9325225919404223284|tw10340375503280841759|tw8011612093951880337|tw1039696348993143769|tw177222883940076305|tw5560455675491224861|tw18084367170187255682|tw6915114947861100251|tw12480225654699054049|tw858247375517227379|tw3055578619259505644|tw3081109671769341597|tw16084596545084229275|tw14465442258304356805|tw13657196888713019075|tw14405083437071629657|tw13379053035452306170|tw16203284816186608396|tw10823899818068091888
open PySem PySem.W PyProof.Rows
set_option maxRecDepth 100000 in
set_option maxHeartbeats 0 in
theorem PySem.Challenge.cw_signbench_k59_journals_spoilt_holds : PySem.Challenge.rw_signbench_k59_journals_spoilt.Holds := by
 w_on;o_law;k_head;(case hw=>w_witness2)
 k_fill
 refine My.zmQ (l:=PySem.Challenge.rw_signbench_k59_journals_spoilt) rfl rfl (fun w h Y=>PySem.W.kIn_of Y) ?F
 case F=>
  intro w mg fa h KX G hmg
  apply My.ziK KX G hmg<;>(try delta My.nI My.kF My.kN My.kV My.fA My.fB My.fC My.xA My.mO My.eB)<;>first|(apply My.zlv<;>k_is)|k_is|kernel_rfl|rfl|decide
