import PyProof.Rows.All
import Wide.All
import OpenK.AllK
import Wide.FinOn
import Lean
import PyProof.EqAt
import PyProof.EqKinds
import PyProof.TupleCall
import PyProof.CallStr
import PyProof.Draws
import PyProof.EnumMake
import PyProof.ListRange
import PyProof.P3Eq
import PyProof.Rows.CountFlat
import PyProof.Rows.Range3
import PyProof.Rows.ZipGen
import PyProof.SumAny
import PyProof.ZipIter
import PySem.Challenge.RW_signbench_k17_cost_of_a_cutting
local macro_rules|`(tactic|erw[$[$e:term],*]$[$l:location]?)=>`(tactic|simp only[$[$e:term],*]$[$l:location]?)
open List renaming mem_append_right→c9,mem_cons_of_mem→e9,mem_cons→i0,mem_append→i3,mem_append_left→i5,map_cons→i6,append_nil→l3,mem_cons_self→l4,replicate→l5,not_mem_nil→l6,size_toArray→l7,length_cons→l8,map_nil→l9,length_append→m7,nil_append→m8,mem_singleton→m9,append_assoc→r6,cons_append→r8,length_nil→t5,getElem_mem→A2,length_map→A3,mem_map→A4,set_cons_zero→A7,reverse_cons→A9,lookup_cons→B0,reverse_nil→B2,set_cons_succ→B3,replicate_succ→B5,mem_or_eq_of_mem_set→B7,map_append→B8,reverse_append→B9,Nodup→C1,drop_eq_nil_of_le→C6,drop_eq_getElem_cons→C7,drop_drop→D0,forall_mem_cons→D1,flatten_cons→D2,all_eq_true→D4,range→D5,length→D7,mem_of_mem_take→D9,take_of_length_le→E3,take_append_drop→E6,drop_zero→E8,mem_of_mem_drop→E9,length_take→F0,filterMap_cons→F2,take_succ_cons→F3,zip_cons_cons→F8,flatten→L3,map_map→L7,take_add_one→L8,length_replicate→M7,length_singleton→M8,length_drop→M9,nodup_cons→N5,of_mem_zip→N6,length_set→N7,foldl_cons→N8,nil_suffix→N9,map_congr_left→O0,drop_succ_cons→O1,length_reverse→O2,foldl→O4,lookup_append→O5,getElem_append_right→O7,getElem_append_left→O9,all_cons→P0,eraseIdx_cons_succ→P1,zipIdx_cons→P2,take_length→P4,zipWith_cons_cons→P8,mem_filter→R0,lookup→R3,getElem_of_mem→R4,filter_eq_self→R5,any_cons→R6,map_take→R7,mem_filterMap→R8,all_nil→S4,filter_cons→S5,filter_nil→S7,length_zip→S9,mem_range→T2,take_zero→T4,zipWith→T7,all_map→T8,range'→u00,map_id→u01
open Nat renaming le_refl→i4,lt_of_lt_of_le→n9,ne_of_lt→o0,lt_irrefl→B1,le_of_ble_eq_true→B4,lt_succ_self→B6,le_trans→C0,zero_le→C9,lt_succ_of_lt→D3,zero_add→D8,le_of_succ_le→E1,le_of_succ_le_succ→E4,reduceAdd→F4,reduceSub→F5,not_lt→F9,add_assoc→N2,le_succ→N4,ne_of_gt→O3,succ_le_succ→P5,lt_trans→P7,le_of_lt→R9,mul_comm→S0,le_of_eq→S1,le_succ_of_le→S2,sub_self→S3,min_eq_right→S6,min_eq_left→S8,not_lt_zero→T1,le_total→T9
open Bool renaming and_eq_true→l0,false_ne_true→A6,true_and→C3,false_eq_true→C8,and_self→E2,false_and→E7,and_true→F6,noConfusion→P3,eq_iff_iff→P9,not_false→T3,false_or→T5,true_or→T6
open Option renaming map_some→A5,getD_some→A8,isSome_some→F7,map_eq_some_iff→I0,getD_none→N1,map→O6,isSome_iff_exists→O8,bind_some→P6,map_none→R1
open Int renaming eq_ofNat_of_zero_le→C4,toNat_natCast→C5,emod_lt_of_pos→D6,emod_nonneg→E5,zero_add→L9,reduceBEq→N3
set_option Elab.async false
set_option linter.all false
set_option maxRecDepth 100000
set_option maxHeartbeats 4000000
namespace L2
open PySem PySem.Spec PyProof.Rows
noncomputable abbrev Key:=Sum Int Str
noncomputable def z6P:Key->Value->Bool
 | .inl k,v=>Value.isInt k v
 | .inr x,v=>Value.isStrOf x v
noncomputable def zit(w:World):Key->Int
 | .inl k=>hashInt k
 | .inr x=>hashStr w x
theorem Q5: ∀{k:Key} {v:Value},z6P k v=true->(∃i t,k=Sum.inl i/\v=Value.int i t)\/(∃x t,k=Sum.inr x/\v=Value.str x t)
 | .inl i,v,h=>by
  obtain⟨t,e⟩:=Value.isInt_shape (k:=i) (v:=v) h
  exact .inl ⟨i,t,rfl,e⟩
 | .inr x,v,h=>by
  obtain⟨t,e⟩:=Value.isStrOf_shape (x:=x) (v:=v) h
  exact .inr ⟨x,t,rfl,e⟩
theorem z7t(i:Int)(t:Tok):z6P (.inl i) (.int i t)=true:=by simp[z6P,Value.isInt]
theorem z7u(x:Str)(t:Tok):z6P (.inr x) (.str x t)=true:=by simp[z6P,Value.isStrOf]
theorem zdh(a b:Int):decide ((Sum.inl a:Key)=Sum.inl b)=(a==b):=by
 by_cases e:a=b
 ·subst e;simp
 ·have h: ¬(Sum.inl a:Key)=Sum.inl b:=fun q=>e (Sum.inl.inj q)
  rw[decide_eq_false h]
  exact(beq_eq_false_iff_ne.mpr e).symm
theorem zdi(a b:Str):decide ((Sum.inr a:Key)=Sum.inr b)=decide (a=b):=by
 by_cases e:a=b
 ·subst e;simp
 ·have h: ¬(Sum.inr a:Key)=Sum.inr b:=fun q=>e (Sum.inr.inj q)
  rw[decide_eq_false h,decide_eq_false e]
theorem zdj(a:Int)(b:Str):decide ((Sum.inl a:Key)=Sum.inr b)=false:=decide_eq_false (fun q=>nomatch q)
theorem zdk(a:Str)(b:Int):decide ((Sum.inr a:Key)=Sum.inl b)=false:=decide_eq_false (fun q=>nomatch q)
noncomputable def Q1(prog:Program)(w:World):PySem.KeyKind prog w Key where
 is:=z6P
 hash:=zit w
 inj:=fun v a b ha hb=>by
  rcases Q5 ha with⟨i,t,rfl,rfl⟩|⟨x,t,rfl,rfl⟩
  ·rcases Q5 hb with⟨j,u,rfl,e⟩|⟨y,u,rfl,e⟩
   ·injection e with e1 _;rw[e1]
   ·exact nomatch e
  ·rcases Q5 hb with⟨j,u,rfl,e⟩|⟨y,u,rfl,e⟩
   ·exact nomatch e
   ·injection e with e1 _;rw[e1]
 byValue:=fun k v h=>by
  rcases Q5 h with⟨i,t,rfl,rfl⟩|⟨x,t,rfl,rfl⟩<;>rfl
 pyHash:=fun hv h=>by
  rcases Q5 hv with⟨i,t,rfl,rfl⟩|⟨x,t,rfl,rfl⟩
  ·exact wpAny_pyHash_int h
  ·exact wpAny_pyHash_str h
 eqBool:=fun hu hv h=>by
  rcases Q5 hu with⟨i,t,rfl,rfl⟩|⟨x,t,rfl,rfl⟩
  ·rcases Q5 hv with⟨j,u,rfl,rfl⟩|⟨y,u,rfl,rfl⟩
   ·rw[zdh] at h;exact wpAny_eqBool_int h
   ·rw[zdj] at h;exact SeqAt.EqAt.int_str i t y u _ _ _ _ h
  ·rcases Q5 hv with⟨j,u,rfl,rfl⟩|⟨y,u,rfl,rfl⟩
   ·rw[zdk] at h;exact SeqAt.EqAt.str_int x t j u _ _ _ _ h
   ·rw[zdi] at h;exact wpAny_eqBool_str h
 «strs» :=fun k x t v h=>by
  rcases Q5 h with⟨i,u,rfl,e⟩|⟨y,u,rfl,e⟩
  ·exact nomatch e
  ·injection e with e1 _
   subst e1
   cases v<;>rfl
theorem z5v(prog:Program)(w:World)(i:Int)(t:Tok):(Q1 prog w).is (.inl i) (.int i t)=true:=z7t i t
theorem z5w(prog:Program)(w:World)(x:Str)(t:Tok):(Q1 prog w).is (.inr x) (.str x t)=true:=z7u x t
inductive V where
 |non|bl (b:Bool)|int (i:Int)|str (x:Str)|byt (b:Array UInt8)|flt (b:UInt64)|ref (a:Addr)|ty (n:String)
 deriving DecidableEq
noncomputable def RelV:V->Value->Prop
 | .non,u=>u=Value.none
 | .bl b,u=>u=Value.bool b
 | .int i,u=> ∃t,u=Value.int i t
 | .str x,u=> ∃t,u=Value.str x t
 | .byt b,u=> ∃t,u=Value.bytes b t
 | .flt b,u=> ∃t,u=Value.float b t
 | .ref a,u=>u=Value.ref a
 | .ty n,u=>u=Value.type n
noncomputable abbrev J0:List V->List Value->Prop:=Paired RelV
theorem J0.length{xs:List V}{us:List Value}(r:J0 xs us):xs.length=us.length:=Paired.length r
theorem J0.get: ∀{xs:List V} {us:List Value} {i:Nat} {x:V},J0 xs us->xs[i]? =some x->∃u,us[i]? =some u/\RelV x u
 |_,_,_,_, .nil,e=>by simp at e
 |_,_,0,_, .cons r _,e=>by simp at e;subst e;exact⟨_,rfl,r⟩
 |_,_,i+1,x, .cons _ t,e=>by
  obtain⟨u,h1,h2⟩:=J0.get (i:=i) (x:=x) t (by simpa using e)
  exact⟨u,by simpa using h1,h2⟩
theorem J0.set{x:V}{u:Value}(r:RelV x u): ∀{xs:List V} {us:List Value} (i:Nat),J0 xs us->J0 (xs.set i x) (us.set i u)
 |_,_,_, .nil=> .nil
 |_,_,0, .cons _ t=> .cons r t
 |_,_,i+1, .cons q t=> .cons q (J0.set r i t)
theorem J0.append: ∀{xs ys:List V} {us ws:List Value},J0 xs us->J0 ys ws->J0 (xs++ys) (us++ws)
 |_,_,_,_, .nil,s=>s
 |_,_,_,_, .cons r t,s=> .cons r (J0.append t s)
theorem J0.take: ∀{xs:List V} {us:List Value} (n:Nat),J0 xs us->J0 (xs.take n) (us.take n)
 |_,_,0,_=> .nil
 |_,_,_+1, .nil=> .nil
 |_,_,n+1, .cons r t=> .cons r (J0.take n t)
theorem J0.drop: ∀{xs:List V} {us:List Value} (n:Nat),J0 xs us->J0 (xs.drop n) (us.drop n)
 |_,_,0,r=>r
 |_,_,_+1, .nil=> .nil
 |_,_,n+1, .cons _ t=>J0.drop n t
noncomputable def RelO:Option V->Option Value->Prop
 |some v,some u=>RelV v u
 |none,none=>True
 |_,_=>False
noncomputable def KV{κ:Type}:List (κ×V)->List (κ×Value)->Prop:=Paired fun(p:κ×V) (q:κ×Value)=>p.1=q.1/\RelV p.2 q.2
noncomputable def kV:Key->V
 | .inl i=> .int i
 | .inr x=> .str x
theorem Paired.mapP{α β:Type}{F G:α->β->Prop}: ∀{l₁:List α} {l₂:List β},Paired F l₁ l₂->(∀a b,F a b->G a b)->Paired G l₁ l₂
 |_,_, .nil,_=> .nil
 |_,_, .cons r t,f=> .cons (f _ _ r) (Paired.mapP t f)
noncomputable abbrev NK:=List (Key⊕List Key)
section
variable(P:Program)(w:World)
noncomputable def ItN(h:Heap):Key⊕List Key->Value->Prop
 | .inl k,v=>(Q1 P w).is k v=true
 | .inr ks,v=> ∃c,v= .ref c/\IsTupleKey (Q1 P w) h ks c
noncomputable def IsN(h:Heap)(k:NK)(a:Addr):Prop:= ∃o items n,h.get? a=some o/\o.cls= .type "tuple" /\o.data= .seq items n/\Paired (ItN P w h) k items.toList
noncomputable def hsN:Key⊕List Key->Int
 | .inl k=>(Q1 P w).hash k
 | .inr ks=>tupleKeyHash (Q1 P w) ks
noncomputable def drN:Key⊕List Key->Nat
 | .inl _=>1
 | .inr ks=>ks.length+1
end
section
variable{P:Program}{w:World}{h:Heap}
theorem zbA{x y:Key⊕List Key}{v:Value}(hx:ItN P w h x v)(hy:ItN P w h y v):x=y:=by
 cases x with
 |inl k=>
  cases y with
  |inl k'=>rw[(Q1 P w).inj v k k' hx hy]
  |inr ks=>obtain⟨c,rfl,_⟩:=hy;have:=(Q1 P w).byValue _ _ hx;simp[carriedByValue] at this
 |inr ks=>
  obtain⟨c,rfl,hc⟩:=hx
  cases y with
  |inl k'=>have:=(Q1 P w).byValue _ _ hy;simp[carriedByValue] at this
  |inr ks'=>obtain⟨c',e,hc'⟩:=hy;cases e;rw[hc.inj hc']
theorem z3M: ∀{x y:NK} {vs:List Value},Paired (ItN P w h) x vs->Paired (ItN P w h) y vs->x=y
 |_,_,_, .nil, .nil=>rfl
 |_,_,_, .cons a b, .cons c d=>by rw[zbA a c,z3M b d]
variable{A:Around}{E:Value->Shared->Prop}{s:Shared}
theorem z4A{M:Model}{a:Addr}{o:Obj}{items:Array Value}{n m:Nat}{Q:Bool->Shared->Prop}(ho:s.heap.get? a=some o)(hc:o.cls= .type "tuple")(hd:o.data= .seq items n)(hi: ∀v∈items.toList,∀(R:Bool->Shared->Prop) E,R true s->wpAny M A (eqIsQuiet m v) R E s)(q:Q true s):wpAny M A (eqIsQuiet (m+1) (.ref a)) Q E s:=by
 have hT:s.TypeIs (.ref a) "tuple" :=⟨o,ho,hc⟩
 rw[eqIsQuiet]
 refine wpAny_bind (wpAny_specialOf hT PySem.F.slot_tuple_eq.lookup ?_)
 dsimp only
 refine wpAny_bind (wpAny_isInstance hT isSubtype_tuple_tuple ?_)
 rw[if_neg (by decide)]
 refine wpAny_bind (wpAny_seqItems ho hd ?_)
 refine wpAny_bind ?_
 dsimp only[A8]
 rw[<-Array.forIn_toList]
 refine wpAny_forIn_list _ (fun r b s'=>b.1=none/\s'=s/\∀v∈r,v∈items.toList) _ ?_ ?_ _ _ ⟨rfl,rfl,fun v hv=>hv⟩
 ·rintro v r b s' ⟨_,rfl,hm⟩
  refine wpAny_bind (hi v (hm v l4) _ _ ?_)
  rw[if_neg (by decide)]
  exact wpAny_pure ⟨rfl,rfl,fun u hu=>hm u (e9 _ hu)⟩
 ·rintro ⟨b1,b2⟩ s' ⟨hb,rfl,_⟩
  dsimp only at hb
  subst hb
  exact wpAny_pure q
theorem z4B{P':Program}{w':World}: ∀{ks:List Key} {vs:List Value},ItemsAre (Q1 P w) ks vs->ItemsAre (Q1 P' w') ks vs
 |_,_, .nil=> .nil
 |_,_, .cons a b=> .cons a (z4B b)
theorem z7v{P':Program}{w':World}{ks:List Key}{c:Addr}(hk:IsTupleKey (Q1 P w) h ks c):IsTupleKey (Q1 P' w') h ks c:=by
 obtain⟨o,items,n,h1,h2,h3,h4⟩:=hk
 exact⟨o,items,n,h1,h2,h3,z4B h4⟩
theorem zdl{x y:Key⊕List Key}{u v:Value}(hu:A.units<cLine)(hx:ItN P w s.heap x u)(hy:ItN P w s.heap y v):SeqAt.EqAt A s u v (decide (x=y)):=fun prog w' E Q q=>by
 cases x with
 |inl k=>
  cases y with
  |inl k'=>exact(Q1 prog w').eqBool (a:=k) (b:=k') hx hy (by rw[show decide (k=k')=decide ((Sum.inl k:Key⊕List Key)=Sum.inl k') by by_cases e:k=k'<;>simp[e]];exact q)
  |inr ks=>
   obtain⟨c,rfl,o,items,n,h1,h2,h3,_⟩:=hy
   rw[decide_eq_false (fun e=>nomatch e)] at q
   rcases Q5 hx with⟨i,t,rfl,rfl⟩|⟨z,t,rfl,rfl⟩
   ·exact SeqAt.EqAt.int_tuple i t ⟨o,h1,h2,n,h3⟩ hu prog w' E Q q
   ·exact SeqAt.EqAt.str_tuple z t ⟨o,h1,h2,n,h3⟩ hu prog w' E Q q
 |inr ks=>
  obtain⟨c,rfl,hc⟩:=hx
  cases y with
  |inl k'=>
   obtain⟨o,items,n,h1,h2,h3,_⟩:=hc
   rw[decide_eq_false (fun e=>nomatch e)] at q
   rcases Q5 hy with⟨i,t,rfl,rfl⟩|⟨z,t,rfl,rfl⟩
   ·exact SeqAt.EqAt.tuple_int i t ⟨o,h1,h2,n,h3⟩ hu prog w' E Q q
   ·exact SeqAt.EqAt.tuple_str z t ⟨o,h1,h2,n,h3⟩ hu prog w' E Q q
  |inr ks'=>
   obtain⟨c',rfl,hc'⟩:=hy
   refine wpAny_eqBool_tuple (knd:=Q1 prog w') hu (z7v hc) (z7v hc') ?_
   rw[show decide (ks=ks')=decide ((Sum.inr ks:Key⊕List Key)=Sum.inr ks') by by_cases e:ks=ks'<;>simp[e]];exact q
theorem zbB{α:Type}[DecidableEq α](x y:List α):((D5 (min x.length y.length)).all (fun j=>decide (x[j]? =y[j]?))&&x.length==y.length)=decide (x=y):=by
 rw[P9]
 erw[l0,D4,T2,decide_eq_true_eq,beq_iff_eq]
 constructor
 ·rintro ⟨h1,h2⟩
  apply List.ext_getElem?
  intro j
  by_cases hj:j<x.length
  ·exact h1 j (by lia)
  ·rw[List.getElem?_eq_none (by lia),List.getElem?_eq_none (by lia)]
 ·rintro rfl;exact⟨fun _ _=>rfl,rfl⟩
theorem Paired.get2{α β:Type}{F:α->β->Prop}: ∀{l:List α} {m:List β},Paired F l m->∀j (h1:j<l.length) (h2:j<m.length),F l[j] m[j]
 |_,_, .cons a b,0,_,_=>a
 |_,_, .cons a b,j+1,h1,h2=>Paired.get2 b j (by simpa using h1) (by simpa using h2)
theorem zdm{x y:NK}{a b:Addr}{Q:Bool->Shared->Prop}(hu:A.units+1<cLine)(hx:IsN P w s.heap x a)(hy:IsN P w s.heap y b)(q:Q (decide (x=y)) s):wpAny (model P w) A (eqBool (.ref a) (.ref b)) Q E s:=by
 by_cases e:a=b
 ·subst e
  obtain⟨o,items,n,h1,h2,h3,h4⟩:=hx
  obtain⟨o',items',n',k1,k2,k3,k4⟩:=hy
  obtain rfl:o=o':=Option.some.inj (h1.symm.trans k1)
  rw[h3] at k3
  injection k3 with k3 _
  subst k3
  obtain rfl:=z3M h4 k4
  exact SeqAt.EqAt.same _ P w E Q (by simpa using q)
 ·obtain⟨o,items,n,h1,h2,h3,h4⟩:=hx
  obtain⟨o',items',n',k1,k2,k3,k4⟩:=hy
  have l1:x.length=items.size:=by have:=Paired.length h4;simpa using this
  have l2:y.length=items'.size:=by have:=Paired.length k4;simpa using this
  refine SeqAt.EqAt.of_refs e (SeqAt.RcAt.tuples (e:=fun j=>decide (x[j]? =y[j]?)) ⟨o,h1,h2,n,h3⟩ ⟨o',k1,k2,n',k3⟩ (by lia) fun j j1 j2=> ?_) P w E Q ?_
  ·have:=zdl (A:=A.in1) (show A.units+1<cLine from hu) (Paired.get2 h4 j (by lia) (by simpa using j1)) (Paired.get2 k4 j (by lia) (by simpa using j2))
   rw[List.getElem?_eq_getElem (by lia),List.getElem?_eq_getElem (by lia)]
   simpa using this
  ·rw[<-l1,<-l2,zbB];exact q
theorem z9z{k:Key⊕List Key}{v:Value}{Q:Int->Shared->Prop}(hu:A.units<cLine)(hk:ItN P w s.heap k v)(q:Q (hsN P w k) {s with toks:=s.toks+drN k}):wpAny (model P w) A (pyHash v) Q E s:=by
 cases k with
 |inl k=>exact(Q1 P w).pyHash hk q
 |inr ks=>obtain⟨c,rfl,hc⟩:=hk;exact wpAny_pyHash_tuple hu hc q
theorem z9A{k:NK}{a:Addr}{Q:Int->Shared->Prop}(hu:A.units+1<cLine)(hk:IsN P w s.heap k a)(q:Q (reduceHash (Builtin.Tuple.tupleHashOf (k.map (hsN P w)))) {s with toks:=s.toks+((k.map drN).sum+1)}):wpAny (model P w) A (pyHash (.ref a)) Q E s:=by
 obtain⟨o,items,n,ho,hc,hd,hi⟩:=hk
 have hT:s.TypeIs (.ref a) "tuple" :=⟨o,ho,hc⟩
 unfold pyHash
 unfold pyHashByItsType
 refine wpAny_bind (wpAny_cRoomFor_or (.inr (by lia)) ?_)
 refine wpAny_bind (wpAny_specialOf hT PySem.F.slot_tuple_hash.lookup ?_)
 rw[if_neg (show ¬(some (Value.builtin "tuple.__hash__")==some Value.none)=true by rw[beq_builtin_none];decide)]
 refine wpAny_bind (wpAny_specialOf hT PySem.F.slot_tuple_hash.lookup ?_)
 refine wpAny_bind (wpAny_callSpecialIfBoundUnlessNone?_slot hT PySem.F.slot_tuple_hash (wpAny_call_entry PySem.F.slot_tuple_hash hT PySem.F.entry_tuple_hash ?_ (PySem.F.args_tuple_hash_1 _)))
 change wpAny _ A.in1 (Builtin.Tuple.tupleItemsOf (Value.ref a)>>=_) _ _ s
 refine wpAny_bind (wpAny_tupleItemsOf ho hd (wpAny_bind ?_))
 rw[<-Array.forIn_toList]
 refine wpAny_forIn_list _ (fun r (b:Array Int) s'=> ∃d l,k=d++l/\Paired (ItN P w s.heap) l r/\b.toList=d.map (hsN P w)/\s'={s with toks:=s.toks+(d.map drN).sum}) _ ?_ ?_ _ _ ⟨[],k,rfl,hi,rfl,rfl⟩
 ·rintro x r b s' ⟨d,l,rfl,hl,hb,rfl⟩
  cases hl with
  | @cons z _ l' _ h1 hl'=>
   refine wpAny_bind (z9z (A:=A.in1) (s:={s with toks:=s.toks+(d.map drN).sum}) (show A.units+1<cLine from hu) h1 ?_)
   have fin: ∃d' l2,d++z::l'=d'++l2/\Paired (ItN P w s.heap) l2 r/\(b.push (hsN P w z)).toList=d'.map (hsN P w)/\({s with toks:=s.toks+(d.map drN).sum+drN z}:Shared)={s with toks:=s.toks+(d'.map drN).sum}:=⟨d++[z],l',by simp,hl',by simp[hb],by simp[N2]⟩
   exact wpAny_pure fin
 ·rintro b s' ⟨d,l,rfl,hl,hb,rfl⟩
  cases hl
  rw[l3] at q
  change wpAny _ A.in1 (retInt (Builtin.Tuple.tupleHashOf b.toList)) _ _ _
  rw[hb]
  refine wpAny_ret_mkInt ?_
  unfold reduceHash at q
  show wpAny _ _ (if(decide (-(2:Int)^63<=Builtin.Tuple.tupleHashOf (d.map (hsN P w)))&&decide (Builtin.Tuple.tupleHashOf (d.map (hsN P w))<2^63))=true then _ else _) Q E _
  split
  ·rename_i hr
   rw[if_pos hr] at q
   exact wpAny_pure (by simpa[N2] using q)
  ·rename_i hr
   rw[if_neg hr] at q
   exact wpAny_bind (wpAny_rule (wpAny_pure (by simpa[N2] using q)))
theorem z7w{k:NK}{a:Addr}{Q:Bool->Shared->Prop}(hk:IsN P w s.heap k a)(q:Q true s):wpAny (model P w) A (eqIsQuiet 8 (.ref a)) Q E s:=by
 obtain⟨o,items,n,h1,h2,h3,h4⟩:=hk
 refine z4A h1 h2 h3 (fun v hv R E' r=> ?_) q
 have all: ∀{k:NK} {vs:List Value},Paired (ItN P w s.heap) k vs->∀v∈vs,∃z,ItN P w s.heap z v:=by
  intro k vs p
  induction p with
  |nil=>intro v hv;cases hv
  |cons a b ih=>
   intro v hv
   rcases i0.mp hv with rfl|hv
   ·exact⟨_,a⟩
   ·exact ih v hv
 obtain⟨z,hz⟩:=all h4 v hv
 cases z with
 |inl k=>rw[eqIsQuiet_byValue _ ((Q1 P w).byValue _ _ hz)];exact wpAny_pure r
 |inr ks=>
  obtain⟨c,rfl,o,items,n,h1,h2,h3,h4⟩:=hz
  exact z4A h1 h2 h3 (fun v hv R E' r=>by rw[eqIsQuiet_byValue _ (h4.byValue v hv)];exact wpAny_pure r) r
theorem z7x{h':Heap}{d:Addr}{o:Obj}{es:Array DictEntry}{ep:Nat}(ho:h.get? d=some o)(hd:o.data= .dict es ep)(hs:Heap.SameBut d h h'): ∀{k:NK} {vs:List Value},Paired (ItN P w h) k vs->Paired (ItN P w h') k vs:=fun p=>Paired.mapP p fun z v q=>by
 cases z with
 |inl k=>exact q
 |inr ks=>obtain⟨c,rfl,hc⟩:=q;exact⟨c,rfl,hc.keeps ho hd hs⟩
end
noncomputable def z0P(P:Program)(w:World):HeapKind P w NK where
 is:=IsN P w
 hash:=fun k=>reduceHash (Builtin.Tuple.tupleHashOf (k.map (hsN P w)))
 draws:=fun k=>(k.map drN).sum+1
 room:=fun A=>A.units+1<cLine
 inj:=fun⟨o,items,n,h1,_,h3,h4⟩ ⟨o',items',n',k1,_,k3,k4⟩=>by
  obtain rfl:o=o':=Option.some.inj (h1.symm.trans k1)
  rw[h3] at k3
  injection k3 with k3 _
  subst k3
  exact z3M h4 k4
 keeps:=fun{h h' k a d o es ep} ⟨o',items,n,h1,h2,h3,h4⟩ ho hd hs=>by
  have hne:a≠d:=by
   rintro rfl
   obtain rfl:o'=o:=Option.some.inj (h1.symm.trans ho)
   rw[hd] at h3;cases h3
  exact⟨o',items,n,(hs.2 a hne).trans h1,h2,h3,z7x ho hd hs h4⟩
 pyHash:=fun hu hk q=>z9A hu hk q
 eqBool:=fun hu hx hy q=>zdm hu hx hy q
 quiet:=fun hk q=>z7w hk q
theorem z4C{P:Program}{w:World}{A:Around}(hu:A.units+2<cLine):(z0P P w).room A.in1:=hu
inductive HO where
 |lst (xs:List V)
 |tup (xs:List V)
 |dK (kvs:List (Key×V))|dT (kvs:List (NK×V))
 |set (S:Int->Bool) (n:Nat)
 |ins (C dx:Addr) (fs:List (Str×V))
 |own (x:Addr)
 |xd (fs:List (Str×V))
 |met (f x:Addr)
 |rng (lo hi:Int)
 |frz (o:Obj) (u:HO)
 |tbl (ps:Array Value)
 |ext (φ:Heap->Prop)
noncomputable abbrev Hp:=Addr->Option HO
noncomputable def upd(H:Hp)(a:Addr)(o:HO):Hp:=fun b=>if b=a then some o else H b
theorem Z8{H:Hp}{a:Addr}{o:HO}:upd H a o a=some o:=by unfold upd;rw[if_pos rfl]
theorem Z6{H:Hp}{a b:Addr}{o:HO}(h:b≠a):upd H a o b=H b:=by unfold upd;rw[if_neg h]
theorem z36{H:Hp}{a b:Addr}{o u:HO}(h:H a=some o)(h':H b=some u)(d:o≠u):a≠b:=by
 intro e;subst e;rw[h] at h';exact d (Option.some.inj h')
theorem J6{H:Hp}{a b:Addr}{o:HO}(h:H a=some o)(h':H b=none):a≠b:=by
 intro e;subst e;rw[h] at h';cases h'
noncomputable def TKi(H:Hp):Key⊕List Key->V->Prop
 | .inl k,x=>x=kV k
 | .inr ks,x=> ∃c,x= .ref c/\H c=some (.tup (ks.map kV))
noncomputable def TK(H:Hp)(k:NK)(b:Addr):Prop:= ∃xs,H b=some (.tup xs)/\Paired (TKi H) k xs
theorem TK.stay{H H':Hp}{k:NK}{b:Addr}(ht: ∀b xs,H b=some (.tup xs)->H' b=some (.tup xs))(h:TK H k b):TK H' k b:=by
 obtain⟨xs,h1,h2⟩:=h
 refine⟨xs,ht _ _ h1,Paired.mapP h2 fun z x q=> ?_⟩
 cases z with
 |inl k=>exact q
 |inr ks=>obtain⟨c,e,q⟩:=q;exact⟨c,e,ht _ _ q⟩
section
variable(P:Program)(w:World)
noncomputable def z00(H:Hp)(h:Heap)(a:Addr):HO->Prop
 | .lst xs=>xs.length<=sizeLine/\∃(its:List Value) (n:Nat),J0 xs its/\h.get? a=some {cls:= .type "list",data:= .seq its.toArray n}
 | .tup xs=>xs.length<=sizeLine/\∃its:List Value,J0 xs its/\IsTup h a its.toArray
 | .dK kvs=>kvs.length<=sizeLine/\(a==sysModules)=false/\∃vs,KV kvs vs/\h.DictOf (Q1 P w) a vs
 | .dT kvs=>kvs.length<=sizeLine/\(a==sysModules)=false/\∃xs:List (NK×Addr×Value),
  Paired (fun(p:NK×V) (q:NK×Addr×Value)=>p.1=q.1/\TK H p.1 q.2.1/\RelV p.2 q.2.2) kvs xs/\
  ∃o es ep,h.get? a=some o/\o.ExactDict/\o.data= .dict es ep/\es.toList=xs.map (entryOfKey (z0P P w))/\(xs.map (·.1)).Nodup
 | .set S n=>h.SetOf (intKind P w) a S n
 | .ins C dx fs=>H dx=some (.own a)/\fs.length<=1000/\dx≠a/\h.get? a=some (W.instObj C dx)/\
  ∃mA,h.Ns1 dx mA/\(∀f,RelO (fs.lookup f) (mA f))/\PySem.Within mA (fs.map (·.1))
 | .own _=> ∃o,h.get? a=some o
 | .xd fs=> ∃mA,h.Ns1 a mA/\∀f,RelO (fs.lookup f) (mA f)
 | .rng lo hi=> ∃t u v,h.get? a=some {cls:= .type "range",data:= .fields #[.int lo t, .int hi u, .int 1 v]}
 | .frz o u=>h.get? a=some o/\z00 H h a u
 | .tbl ps=>h.get? a=some {cls:= .none,data:= .fields ps}
 | .met f x=>h.get? a=some (W.methodObj (.ref f) (.ref x))
 | .ext φ=>φ h/\(∃o,h.get? a=some o)/\∀h1 h2:Heap,φ h1->(∀o,h1.get? a=some o->h2.get? a=some o)->φ h2
noncomputable def HOk(H:Hp)(h:Heap):Prop:= ∀a o,H a=some o->z00 P w H h a o
end
section
variable{P:Program}{w:World}{H H':Hp}{h h':Heap}{a:Addr}{o:HO}
theorem z00.lt(x:z00 P w H h a o):a<h.objs.size:=by
 cases o with
 |lst xs=>obtain⟨_,_,_,_,e⟩:=x;exact Heap.lt_size e
 |tup xs=>obtain⟨_,_,_,p⟩:=x;exact p.lt
 |dK kvs=>obtain⟨_,_,_,_,o,_,_,e,_⟩:=x;exact Heap.lt_size e
 |dT kvs=>obtain⟨_,_,_,_,o,_,_,e,_⟩:=x;exact Heap.lt_size e
 |set S n=>obtain⟨o,_,_,_,e,_⟩:=x;exact Heap.lt_size e
 |ins C dx fs=>obtain⟨_,_,_,e,_⟩:=x;exact Heap.lt_size e
 |own y=>obtain⟨_,e⟩:=x;exact Heap.lt_size e
 |xd fs=>obtain⟨_,⟨_,_,_,e,_⟩,_⟩:=x;exact Heap.lt_size e
 |rng lo hi=>obtain⟨_,_,_,e⟩:=x;exact Heap.lt_size e
 |frz ob u=>obtain⟨e,_⟩:=x;exact Heap.lt_size e
 |tbl ps=>exact Heap.lt_size (show h.get? a=some _ from x)
 |met f y=>exact Heap.lt_size (show h.get? a=some _ from x)
 |ext φ=>obtain⟨_,⟨_,e⟩,_⟩:=x;exact Heap.lt_size e
theorem z00.stay(x:z00 P w H h a o)(k: ∀b u,(b=a\/H b=some (.own a))->h.get? b=some u->h'.get? b=some u)
 (ho: ∀b,H b=some (.own a)->H' b=some (.own a)) (ht: ∀b xs,H b=some (.tup xs)->H' b=some (.tup xs)):z00 P w H' h' a o:=by
 induction o with
 |lst xs=>obtain⟨z,its,n,r,e⟩:=x;exact⟨z,its,n,r,k _ _ (.inl rfl) e⟩
 |tup xs=>obtain⟨z,its,r,ob,e,c⟩:=x;exact⟨z,its,r,ob,k _ _ (.inl rfl) e,c⟩
 |dK kvs=>obtain⟨z,y,vs,r,ob,es,ep,e,c⟩:=x;exact⟨z,y,vs,r,ob,es,ep,k _ _ (.inl rfl) e,c⟩
 |dT kvs=>
  obtain⟨z,y,xs,r,ob,es,ep,e,c⟩:=x
  exact⟨z,y,xs,Paired.mapP r fun p q z=>⟨z.1,z.2.1.stay ht,z.2.2⟩,ob,es,ep,k _ _ (.inl rfl) e,c⟩
 |set S n=>obtain⟨ob,es,ep,t,e,c⟩:=x;exact⟨ob,es,ep,t,k _ _ (.inl rfl) e,c⟩
 |ins C dx fs=>
  obtain⟨d,z,ne,e,mA,⟨od,es,ep,e2,c⟩,r⟩:=x
  exact⟨ho _ d,z,ne,k _ _ (.inl rfl) e,mA,⟨od,es,ep,k _ _ (.inr d) e2,c⟩,r⟩
 |own y=>obtain⟨ob,e⟩:=x;exact⟨ob,k _ _ (.inl rfl) e⟩
 |xd fs=>obtain⟨mA,⟨od,es,ep,e,c⟩,r⟩:=x;exact⟨mA,⟨od,es,ep,k _ _ (.inl rfl) e,c⟩,r⟩
 |rng lo hi=>obtain⟨t,u,v,e⟩:=x;exact⟨t,u,v,k _ _ (.inl rfl) e⟩
 |frz ob u ih=>obtain⟨e,q⟩:=x;exact⟨k _ _ (.inl rfl) e,ih q⟩
 |tbl ps=>
  have e:h.get? a=some {cls:= .none,data:= .fields ps}:=x
  show h'.get? a=some {cls:= .none,data:= .fields ps}
  exact k a _ (.inl rfl) e
 |met f y=>
  have e:h.get? a=some (W.methodObj (.ref f) (.ref y)):=x
  show h'.get? a=some (W.methodObj (.ref f) (.ref y))
  exact k a _ (.inl rfl) e
 |ext φ=>obtain⟨p,⟨o,e⟩,st⟩:=x;exact⟨st _ _ p fun o q=>k _ _ (.inl rfl) q,⟨o,k _ _ (.inl rfl) e⟩,st⟩
theorem HOk.lt(x:HOk P w H h)(e:H a=some o):a<h.objs.size:=(x a o e).lt
theorem HOk.fresh(x:HOk P w H h)(e:h.objs.size<=a):H a=none:=by
 cases q:H a with
 |none=>rfl
 |some u=>exact absurd (n9 (x.lt q) e) (B1 _)
theorem HOk.kept(x:HOk P w H h)(k: ∀b u,h.get? b=some u->h'.get? b=some u):HOk P w H h':=fun a o e=>
 (x a o e).stay (fun b u _ q=>k b u q) (fun _ q=>q) fun _ _ q=>q
theorem HOk.laid(x:HOk P w H h)(k: ∀b u,h.get? b=some u->h'.get? b=some u)(hp:h.objs.size<=a)(new:z00 P w (upd H a o) h' a o):HOk P w (upd H a o) h':=fun b u e=>by
 have hn:=x.fresh hp
 by_cases hb:b=a
 ·subst hb;rw[Z8] at e;cases e;exact new
 ·rw[Z6 hb] at e
  exact(x b u e).stay (fun c v _ q=>k c v q) (fun c q=>by rw[Z6 (J6 q hn)];exact q) fun c xs q=>by rw[Z6 (J6 q hn)];exact q
end
noncomputable def Rd(H:Hp)(a:Addr)(u:HO):Prop:=H a=some u\/∃o,H a=some (.frz o u)
theorem Rd.ok{P:Program}{w:World}{H:Hp}{h:Heap}{a:Addr}{u:HO}(r:Rd H a u)(x:HOk P w H h):z00 P w H h a u:=by
 rcases r with r|⟨o,r⟩
 ·exact x a u r
 ·obtain⟨_,q⟩:=x a _ r
  exact q
noncomputable def Mut:Option HO->Prop
 |some (.lst _)=>True
 |some (.dK _)=>True
 |some (.dT _)=>True
 |some (.set _ _)=>True
 |some (.ins _ _ _)=>True
 |some (.ext _)=>True
 |_=>False
section
variable{P:Program}{w:World}{H:Hp}{h h':Heap}{x e:Addr}{o':HO}
theorem HOk.write(ok:HOk P w H h)(mu:Mut (H x))(he:e=x\/H e=some (.own x))(k: ∀b u,b≠e->h.get? b=some u->h'.get? b=some u)(heo: ∃u,h'.get? e=some u)
 (new:z00 P w (upd H x o') h' x o'):HOk P w (upd H x o') h':=fun b u q=>by
 have nown: ∀c y,H c=some (.own y)->c≠x:=fun c y r z=>by subst z;rw[r] at mu;exact mu
 have ntup: ∀c xs,H c=some (.tup xs)->c≠x:=fun c xs r z=>by subst z;rw[r] at mu;exact mu
 by_cases hb:b=x
 ·subst hb;rw[Z8] at q;cases q;exact new
 ·rw[Z6 hb] at q
  by_cases hbe:b=e
  ·have q':H b=some (.own x):=by
    rcases he with z|z
    ·exact absurd (hbe.trans z) hb
    ·rw[hbe];exact z
   rw[q] at q';cases q'
   obtain⟨v,hv⟩:=heo
   exact⟨v,by rw[hbe];exact hv⟩
  ·refine(ok b u q).stay (fun c v hc r=>k c v ?_ r) (fun c r=>by rw[Z6 (nown c b r)];exact r) fun c xs r=>by rw[Z6 (ntup c xs r)];exact r
   rcases hc with rfl|hc
   ·exact hbe
   ·rintro rfl
    rcases he with z|z
    ·exact nown c b hc z
    ·rw[hc] at z;cases z;exact hb rfl
end
structure Un(fs ex:List Addr)(H H':Hp)(h h':Heap):Prop where
 keep: ∀b o,h.get? b=some o->H b=none->b∉fs->b∉ex->h'.get? b=some o
 slot: ∀b o,h.get? b=some o->H b=none->b∈fs->b∉ex->∃sl,h'.get? b=some {o with slots:=sl}
 free: ∀b o,h.get? b=some o->H b=none->b∉ex->H' b=none
 there: ∀b o,h.get? b=some o->b∉ex->∃o',h'.get? b=some o'
 tups: ∀b xs,H b=some (.tup xs)->H' b=some (.tup xs)
 frzs: ∀b o u,H b=some (.frz o u)->H' b=some (.frz o u)
 tbls: ∀b ps,H b=some (.tbl ps)->∃more,H' b=some (.tbl (ps++more))
section
variable{fs fs' ex ex':List Addr}{H H1 H2:Hp}{h h1 h2 h':Heap}{a x e:Addr}{o:HO}
theorem Un.any(u:Un fs ex H H1 h h1){b:Addr}{ob:Obj}(q:h.get? b=some ob)(n:H b=none)(hx:b∉ex): ∃sl,h1.get? b=some {ob with slots:=sl}:=by
 by_cases hb:b∈fs
 ·exact u.slot b ob q n hb hx
 ·exact⟨ob.slots,u.keep b ob q n hb hx⟩
theorem Un.kept(k: ∀b u,h.get? b=some u->h'.get? b=some u):Un fs ex H H h h':=
 ⟨fun b ob q _ _ _=>k b ob q,fun b ob q _ _ _=>⟨ob.slots,k b ob q⟩,fun _ _ _ n _=>n,fun b ob q _=>⟨ob,k b ob q⟩,fun _ _ q=>q,fun _ _ _ q=>q,fun _ ps q=>⟨#[],by rw[q];simp⟩⟩
theorem Un.refl:Un fs ex H H h h:=Un.kept fun _ _ q=>q
theorem Un.laid(k: ∀b u,h.get? b=some u->h'.get? b=some u)(hp:h.objs.size<=a)(hn:H a=none):Un fs ex H (upd H a o) h h' where
 keep:=fun b u q _ _ _=>k b u q
 slot:=fun b u q _ _ _=>⟨u.slots,k b u q⟩
 free:=fun b u q n _=>by rw[Z6 (o0 (n9 (Heap.lt_size q) hp))];exact n
 there:=fun b u q _=>⟨u,k b u q⟩
 tups:=fun b xs q=>by rw[Z6 (J6 q hn)];exact q
 frzs:=fun b u xs q=>by rw[Z6 (J6 q hn)];exact q
 tbls:=fun b ps q=>⟨#[],by rw[Z6 (J6 q hn),q];simp⟩
theorem Un.write(mu:Mut (H x))(he:e=x\/H e=some (.own x))(k: ∀b u,b≠e->h.get? b=some u->h'.get? b=some u)(heo: ∃u,h'.get? e=some u):Un fs ex H (upd H x o) h h':=by
 have hx: ∀b,H b=none->b≠x:=fun b n z=>by subst z;rw[n] at mu;exact mu
 have hb: ∀b,H b=none->b≠e:=fun b n z=>by
  subst z
  rcases he with r|r
  ·exact hx b n r
  ·rw[n] at r;cases r
 have hm: ∀b u,H b=some u->¬Mut (some u)->b≠x:=fun b u q nm z=>by subst z;rw[q] at mu;exact nm mu
 refine⟨fun b u q n _ _=>k b u (hb b n) q,fun b u q n _ _=>⟨u.slots,k b u (hb b n) q⟩,fun b u q n _=>by rw[Z6 (hx b n)];exact n,fun b u q _=> ?_,
  fun b xs q=>by rw[Z6 (hm b _ q fun z=>z)];exact q,fun b u xs q=>by rw[Z6 (hm b _ q fun z=>z)];exact q,fun b ps q=>⟨#[],by rw[Z6 (hm b _ q fun z=>z),q];simp⟩⟩
 by_cases hbe:b=e
 ·subst hbe;exact heo
 ·exact⟨u,k b u hbe q⟩
end
noncomputable def trk(h:Heap)(H:Hp):List Addr:=(D5 h.objs.size).filter fun a=>(H a).isSome
noncomputable def z9B(h:Heap)(H:Hp):Heap:=W.hideAll h (trk h H)
theorem z7y(h:Heap)(H:Hp):(z9B h H).objs.size=h.objs.size:=W.hideAll_size _ _
theorem z9C{h:Heap}{H:Hp}{b:Addr}{o:Obj}(e:h.get? b=some o)(n:H b=none):(z9B h H).get? b=some o:=
 W.hideAll_get _ e fun hm=>by
  have q:(H b).isSome=true:=(R0.mp hm).2
  rw[n] at q;simp at q
theorem zbC{h:Heap}{H:Hp}{b:Addr}{o:Obj}(e:(z9B h H).get? b=some o):h.get? b=some o/\H b=none:=by
 have e':h.get? b=some o:=W.of_hideAll (trk h H) e
 refine⟨e', ?_⟩
 cases q:H b with
 |none=>rfl
 |some x=>
  have hm:b∈trk h H:=R0.mpr ⟨T2.mpr (Heap.lt_size e'),by simp[q]⟩
  have z:(z9B h H).get? b=none:=W.hideAll_none (trk h H) hm
  rw[z] at e;cases e
noncomputable def zbD(g h:Heap)(L:Addr):List (Addr×Obj):=(D5 h.objs.size).filterMap fun a=>if a=L\/(g.get? a).isSome=true then none else(h.get? a).map fun o=>(a,o)
noncomputable def rest(g h:Heap)(L d:Addr):List (Addr×Obj):=(zbD g h L).filter fun p=>decide (p.1≠d)
structure Mod(K:W.Frag)(mg:Str->Option Value)(base:Heap):Prop where
 kin:K.In base
 glob:base.Ns mainGlobals mg
 blt: ∃mb,base.Ns builtinsNs mb/\∀x:Str,x≠ "__name__" ->mb x=bootBuiltins x
 nolimit:base.NoLimit
structure Cx where
 prog:Program
 w:World
 K:W.Frag
 mg:Str->Option Value
 base:Heap
 A:Around
 N:List Str
 s₀:Shared
 H₀:Hp
 env:Env
 outer:List Env
 stack:List Env
 ex:List Addr
 fn:Str->Bool
 calm:Bool
 pn:List (Addr×Obj)
 xe:Value->Shared->Prop
noncomputable def frs(l:List Env):List Addr:=l.filterMap (·.frame)
noncomputable abbrev Cx.fs(X:Cx):List Addr:=frs X.outer
noncomputable def Vis(sc:Scope)(x:Str):Prop:=sc.names.lookup x=some .local\/sc.names.lookup x=some .cell\/sc.names.lookup x=some .free
noncomputable def Loc(sc:Scope)(x:Str):Prop:=sc.names.lookup x=some .local\/sc.names.lookup x=some .cell
noncomputable def ziu(env:Env)(h:Heap)(m:Str->Option Value)(x:Str)(u:Value):Prop:=
 (env.kindOf x=some .local/\m x=some u)\/((env.kindOf x=some .cell\/env.kindOf x=some .free)/\∃c,env.cells.lookup x=some c/\h.IsCell c (some u))
structure Cx.Ok(X:Cx):Prop where
 mod:Mod X.K X.mg X.base
 kind:X.env.scope.kind= .function
 glob:X.env.globals=mainGlobals
 blt:X.env.builtins=builtinsNs
 above:X.s₀.heap.objs.size<=X.env.locals
 inj: ∀x y c,X.env.cells.lookup x=some c->X.env.cells.lookup y=some c->x=y
 has: ∀x,(X.env.kindOf x=some .cell\/X.env.kindOf x=some .free)->∃c,X.env.cells.lookup x=some c
 cab: ∀x c,X.fn x=true->X.env.cells.lookup x=some c->X.s₀.heap.objs.size<=c
 hd:X.calm=true->X.A.handled=none
 frames:X.A.frames=some X.stack
 stk:X.stack=X.outer\/(X.stack=X.env::X.outer/\X.env.frame=some X.env.locals)
 exf: ∀b∈X.ex,b≠X.env.locals/\∀x c,X.env.cells.lookup x=some c->c≠b
 bs: ∀b o,X.base.get? b=some o->X.s₀.heap.get? b=some o/\X.H₀ b=none
 bsz:X.base.objs.size<=X.s₀.heap.objs.size
 noex: ∀b o,X.base.get? b=some o->b∉X.ex
 exfs: ∀b∈X.ex,b∉X.fs
 funs:X.s₀.heap.FunFrames X.base X.outer
 frf: ∀b∈X.fs,X.H₀ b=none
structure Inv(X:Cx)(pins:List (Addr×Obj))(σ:List (Option V))(H:Hp)(s:Shared):Prop where
 ok:X.Ok
 os:s.os=X.s₀.os
 bare:AllBare s.gens
 base:Un X.fs X.ex X.H₀ H X.s₀.heap s.heap
 loc: ∃m,s.heap.Ns X.env.locals m/\∀(i:Nat) (x:Str) (v:V),X.N[i]? =some x->σ[i]? =some (some v)->Vis X.env.scope x->∃u,RelV v u/\ziu X.env s.heap m x u
 cell: ∀x c,X.env.cells.lookup x=some c->∃v,s.heap.IsCell c v
 free:H X.env.locals=none
 freeC: ∀x c,X.env.cells.lookup x=some c->H c=none
 pin: ∀p∈X.pn++pins,s.heap.get? p.1=some p.2/\H p.1=none/\p.1≠X.env.locals/\p.1∉X.fs/\∀v,p.2.data≠ .cell v
 hok:HOk X.prog X.w H s.heap
 len:σ.length=X.N.length
section
variable{X:Cx}{pins:List (Addr×Obj)}{σ:List (Option V)}{H H':Hp}{s:Shared}{h':Heap}
theorem Cx.Ok.nofr(ok:X.Ok){b:Addr}{o:Obj}(e:X.base.get? b=some o):b∉X.fs:=fun hb=>by
 have:=(ok.funs.mem hb).1
 rw[e] at this;cases this
theorem Inv.bs(I:Inv X pins σ H s): ∀b o,X.base.get? b=some o->s.heap.get? b=some o/\H b=none:=fun b o e=>
 ⟨I.base.keep b o (I.ok.bs b o e).1 (I.ok.bs b o e).2 (I.ok.nofr e) (I.ok.noex b o e),I.base.free b o (I.ok.bs b o e).1 (I.ok.bs b o e).2 (I.ok.noex b o e)⟩
theorem Inv.bk(I:Inv X pins σ H s): ∀b o,X.base.get? b=some o->s.heap.get? b=some o:=fun b o e=>(I.bs b o e).1
theorem Inv.mod(I:Inv X pins σ H s):Mod X.K X.mg X.base:=I.ok.mod
theorem Inv.kIn(I:Inv X pins σ H s):X.K.In s.heap:=I.ok.mod.kin.keeps I.bk
theorem Inv.lt(I:Inv X pins σ H s):X.env.locals<s.heap.objs.size:=let⟨_,hn,_⟩:=I.loc;hn.lt
theorem Inv.sz(I:Inv X pins σ H s):X.s₀.heap.objs.size<=s.heap.objs.size:=C0 I.ok.above (R9 I.lt)
theorem Inv.nofs(I:Inv X pins σ H s){a:Addr}(h:s.heap.objs.size<=a):a∉X.fs:=fun hb=>by
 obtain⟨_,o,ho,_⟩:=I.ok.funs.mem hb
 exact absurd (n9 (Heap.lt_size ho) (C0 I.sz h)) (B1 _)
theorem Inv.cne(I:Inv X pins σ H s): ∀x c,X.env.cells.lookup x=some c->c≠X.env.locals:=fun x c e z=>by
 obtain⟨v,o,ho,hd⟩:=I.cell x c e
 obtain⟨m,⟨o',es,ep,ho',hd',_⟩,_⟩:=I.loc
 rw[z,ho'] at ho;cases ho;rw[hd'] at hd;cases hd
theorem Inv.funs(I:Inv X pins σ H s):s.heap.FunFrames X.base X.outer:=by
 have all: ∀(l:List Env),(∀b∈frs l,b∈X.fs)->X.s₀.heap.FunFrames X.base l->s.heap.FunFrames X.base l:=by
  intro l
  induction l with
  |nil=>intro _ _;trivial
  |cons env r ih=>
   intro hs hl
   obtain⟨hk,⟨L,o,hf,hn,ho,hd⟩,hr⟩:=hl
   have hL:L∈X.fs:=hs L (by unfold frs;rw[F2,hf];exact l4)
   obtain⟨sl,e⟩:=I.base.slot L o ho (I.ok.frf L hL) hL fun z=>I.ok.exfs L z hL
   exact⟨hk,⟨L,_,hf,hn,e,hd⟩,ih (fun b hb=>hs b (by unfold frs;rw[F2,hf];exact e9 _ hb)) hr⟩
 exact all X.outer (fun _ hb=>hb) I.ok.funs
theorem Inv.stack(I:Inv X pins σ H s):s.heap.FunFrames X.base X.stack:=by
 rcases I.ok.stk with e|⟨e,hf⟩
 ·rw[e];exact I.funs
 ·rw[e]
  obtain⟨m,hn,_⟩:=I.loc
  refine .cons (by rw[I.ok.kind];decide) hf hn ?_ I.funs
  exact Heap.get?_none_of_le (C0 I.ok.bsz I.ok.above)
theorem Inv.stkSub(I:Inv X pins σ H s): ∀b∈frs X.stack,b∈X.env.locals::X.fs:=fun b hb=>by
 rcases I.ok.stk with e|⟨e,hf⟩
 ·rw[e] at hb;exact e9 _ hb
 ·rw[e] at hb
  unfold frs at hb
  rw[F2,hf] at hb
  exact hb
theorem Inv.stkFree(I:Inv X pins σ H s): ∀b∈frs X.stack,H b=none:=fun b hb=>by
 rcases i0.mp (I.stkSub b hb) with e|hb
 ·rw[e];exact I.free
 ·obtain⟨_,o,ho,_⟩:=I.ok.funs.mem hb
  exact I.base.free b o ho (I.ok.frf b hb) fun z=>I.ok.exfs b z hb
theorem Inv.step{g':Array GenState}{t':Nat}{d':Drawn}{ch:List Addr}(I:Inv X pins σ H s)
 (hch: ∀b∈ch,(b∈X.ex\/X.s₀.heap.objs.size<=b)/\b≠X.env.locals/\(∀x c,X.env.cells.lookup x=some c->c≠b)/\∀p∈X.pn++pins,p.1≠b)
 (keep: ∀b o,b≠X.env.locals->b∉X.fs->b∉ch->s.heap.get? b=some o->H b=none->h'.get? b=some o)
 (slot: ∀b o,b≠X.env.locals->b∈X.fs->b∉ch->s.heap.get? b=some o->H b=none->∃sl,h'.get? b=some {o with slots:=sl}) (free: ∀b o,b∉ch->s.heap.get? b=some o->H b=none->H' b=none)
 (there: ∀b o,b∉ch->s.heap.get? b=some o->∃o',h'.get? b=some o')
 (tups: ∀b xs,H b=some (.tup xs)->H' b=some (.tup xs)) (frzs: ∀b o u,H b=some (.frz o u)->H' b=some (.frz o u)) (tbls: ∀b ps,H b=some (.tbl ps)->∃more,H' b=some (.tbl (ps++more)))
 (ns: ∀m,s.heap.Ns X.env.locals m->h'.Ns X.env.locals m) (hok:HOk X.prog X.w H' h') (hg:AllBare g'):
 Inv X pins σ H' {s with heap:=h',gens:=g',drawn:=d',toks:=t'}:=by
 have neL: ∀b o,X.s₀.heap.get? b=some o->b≠X.env.locals:=fun b o e=>o0 (n9 (Heap.lt_size e) I.ok.above)
 have neC: ∀b o,X.s₀.heap.get? b=some o->b∉X.ex->b∉ch:=fun b o e hx hb=>by
  rcases(hch b hb).1 with z|z
  ·exact hx z
  ·exact absurd (n9 (Heap.lt_size e) z) (B1 _)
 have cellK: ∀x c,X.env.cells.lookup x=some c->∀v,s.heap.IsCell c v->h'.IsCell c v:=fun x c e v ⟨o,ho,hd⟩=>by
  have nch:c∉ch:=fun z=>(hch c z).2.2.1 x c e rfl
  by_cases hc:c∈X.fs
  ·obtain⟨sl,q⟩:=slot c o (I.cne x c e) hc nch ho (I.freeC x c e)
   exact⟨_,q,hd⟩
  ·exact⟨o,keep c o (I.cne x c e) hc nch ho (I.freeC x c e),hd⟩
 refine⟨I.ok,I.os,hg,⟨fun b o e n hb hx=> ?_,fun b o e n hb hx=> ?_,fun b o e n hx=> ?_,fun b o e hx=> ?_,fun b xs e=>tups b xs (I.base.tups b xs e),fun b o xs e=>frzs b o xs (I.base.frzs b o xs e),fun b ps e=> ?_⟩, ?_,fun x c e=> ?_, ?_,fun x c e=> ?_,fun p hp=> ?_,hok,I.len⟩
 ·exact keep b o (neL b o e) hb (neC b o e hx) (I.base.keep b o e n hb hx) (I.base.free b o e n hx)
 ·obtain⟨sl,e1⟩:=I.base.slot b o e n hb hx
  obtain⟨sl',e2⟩:=slot b _ (neL b o e) hb (neC b o e hx) e1 (I.base.free b o e n hx)
  exact⟨sl',e2⟩
 ·obtain⟨o',e1⟩:=I.base.there b o e hx
  exact free b o' (neC b o e hx) e1 (I.base.free b o e n hx)
 ·obtain⟨o',e1⟩:=I.base.there b o e hx
  exact there b o' (neC b o e hx) e1
 ·obtain⟨m1,e1⟩:=I.base.tbls b ps e
  obtain⟨m2,e2⟩:=tbls b _ e1
  exact⟨m1++m2,by rw[e2,Array.append_assoc]⟩
 ·obtain⟨m,hn,hl⟩:=I.loc
  refine⟨m,ns m hn,fun i x v e1 e2 e3=> ?_⟩
  obtain⟨u,r,l⟩:=hl i x v e1 e2 e3
  refine⟨u,r, ?_⟩
  rcases l with l|⟨k,c,e,z⟩
  ·exact .inl l
  ·exact .inr ⟨k,c,e,cellK x c e _ z⟩
 ·obtain⟨v,z⟩:=I.cell x c e
  exact⟨v,cellK x c e v z⟩
 ·obtain⟨m,⟨o,_,_,ho,_⟩,_⟩:=I.loc
  exact free _ o (fun z=>(hch _ z).2.1 rfl) ho I.free
 ·obtain⟨v,o,ho,hd⟩:=I.cell x c e
  exact free c o (fun z=>(hch c z).2.2.1 x c e rfl) ho (I.freeC x c e)
 ·obtain⟨e,n,ne,nf,d⟩:=I.pin p hp
  have nch:p.1∉ch:=fun z=>(hch p.1 z).2.2.2 p hp rfl
  exact⟨keep p.1 p.2 ne nf nch e n,free p.1 p.2 nch e n,ne,nf,d⟩
theorem Inv.un{t':Nat}(I:Inv X pins σ H s)(u:Un X.fs [] H H' s.heap h')(hok:HOk X.prog X.w H' h'):Inv X pins σ H' {s with heap:=h',toks:=t'}:=by
 obtain⟨m,⟨o,es,ep,ho,r⟩,_⟩:=id I.loc
 obtain⟨sl,hL⟩:=u.any ho I.free (by simp)
 exact I.step (g':=s.gens) (d':=s.drawn) (ch:=[]) (fun _ z=>nomatch z) (fun b o _ hb _ e n=>u.keep b o e n hb (by simp)) (fun b o _ hb _ e n=>u.slot b o e n hb (by simp)) (fun b o _ e n=>u.free b o e n (by simp)) (fun b o _ e=>u.there b o e (by simp)) u.tups u.frzs u.tbls (fun m' hm=>by
  obtain⟨o',es',ep',ho',r'⟩:=hm
  rw[ho] at ho';cases ho'
  exact⟨_,es',ep',hL,r'⟩) hok I.bare
theorem Inv.call{g':Array GenState}{t':Nat}{d':Drawn}{ch:List Addr}(I:Inv X pins σ H s)(u:Un (frs X.stack) ch H H' s.heap h')(hok:HOk X.prog X.w H' h')(hg:AllBare g')
 (hch: ∀b∈ch,(b∈X.ex\/X.s₀.heap.objs.size<=b)/\b≠X.env.locals/\(∀x c,X.env.cells.lookup x=some c->c≠b)/\∀p∈X.pn++pins,p.1≠b):
 Inv X pins σ H' {s with heap:=h',gens:=g',drawn:=d',toks:=t'}:=by
 obtain⟨m,⟨o,es,ep,ho,r⟩,_⟩:=id I.loc
 obtain⟨sl,hL⟩:=u.any ho I.free fun z=>(hch _ z).2.1 rfl
 exact I.step (ch:=ch) hch (fun b o hL hb hc e n=>u.keep b o e n (fun z=>(i0.mp (I.stkSub b z)).elim hL hb) hc) (fun b o _ _ hc e n=>u.any e n hc) (fun b o hc e n=>u.free b o e n hc) (fun b o hc e=>u.there b o e hc) u.tups u.frzs u.tbls (fun m' hm=>by
  obtain⟨o',es',ep',ho',r'⟩:=hm
  rw[ho] at ho';cases ho'
  exact⟨_,es',ep',hL,r'⟩) hok hg
theorem Inv.turned{t':Nat}{it:Addr}(I:Inv X pins σ H s)(k: ∀b o,b≠it->s.heap.get? b=some o->h'.get? b=some o)(hn:H it=none)(hL:it≠X.env.locals)
 (h1:it∈X.ex\/X.s₀.heap.objs.size<=it) (h2: ∀x c,X.env.cells.lookup x=some c->c≠it) (h3: ∀p∈X.pn++pins,p.1≠it):Inv X pins σ H {s with heap:=h',toks:=t'}:=by
 have nit: ∀b u,H b=some u->b≠it:=fun b u e z=>by rw[z,hn] at e;cases e
 refine I.step (g':=s.gens) (d':=s.drawn) (ch:=[it]) (fun b hb=> ?_) (fun b o _ _ hc e _=>k b o (fun z=>hc (by simp[z])) e) (fun b o _ _ hc e _=>⟨o.slots,k b o (fun z=>hc (by simp[z])) e⟩) (fun _ _ _ _ n=>n)
  (fun b o hc e=>⟨o,k b o (fun z=>hc (by simp[z])) e⟩) (fun _ _ e=>e) (fun _ _ _ e=>e) (fun b ps e=>⟨#[],by rw[e];simp⟩) (fun m hm=> ?_) (fun b u e=> ?_) I.bare
 ·have e:b=it:=by simpa using hb
  subst e
  exact⟨h1,hL,h2,h3⟩
 ·obtain⟨o,es,ep,ho,r⟩:=hm
  exact⟨o,es,ep,k _ o (Ne.symm hL) ho,r⟩
 ·refine(I.hok b u e).stay (fun c v hc q=>k c v ?_ q) (fun _ q=>q) fun _ _ q=>q
  rcases hc with z|z
  ·rw[z];exact nit b u e
  ·exact nit c _ z
theorem Inv.tok(I:Inv X pins σ H s)(t:Nat):Inv X pins σ H {s with toks:=t}:=I.un (h':=s.heap) (t':=t) Un.refl I.hok
theorem Inv.kept{t':Nat}(I:Inv X pins σ H s)(k: ∀b u,s.heap.get? b=some u->h'.get? b=some u):Inv X pins σ H {s with heap:=h',toks:=t'}:=I.un (Un.kept k) (I.hok.kept k)
theorem Inv.laid{a:Addr}{o:HO}{t':Nat}(I:Inv X pins σ H s)(k: ∀b u,s.heap.get? b=some u->h'.get? b=some u)(hp:s.heap.objs.size<=a)(new:z00 X.prog X.w (upd H a o) h' a o):
 Inv X pins σ (upd H a o) {s with heap:=h',toks:=t'}:=I.un (Un.laid k hp (I.hok.fresh hp)) (I.hok.laid k hp new)
theorem Inv.write{x e:Addr}{o:HO}{t':Nat}(I:Inv X pins σ H s)(mu:Mut (H x))(he:e=x\/H e=some (.own x))(k: ∀b u,b≠e->s.heap.get? b=some u->h'.get? b=some u)(heo: ∃u,h'.get? e=some u)
 (new:z00 X.prog X.w (upd H x o) h' x o):Inv X pins σ (upd H x o) {s with heap:=h',toks:=t'}:=I.un (Un.write mu he k heo) (I.hok.write mu he k heo new)
theorem Inv.pins_of{pins':List (Addr×Obj)}(I:Inv X pins σ H s)(h: ∀p∈pins',s.heap.get? p.1=some p.2/\H p.1=none/\p.1≠X.env.locals/\p.1∉X.fs/\∀v,p.2.data≠ .cell v):Inv X pins' σ H s:=
 ⟨I.ok,I.os,I.bare,I.base,I.loc,I.cell,I.free,I.freeC,fun p hp=>(i3.mp hp).elim (fun z=>I.pin p (i5 _ z)) (h p),I.hok,I.len⟩
theorem z69{N:List Str}(hN:N.Nodup){i j:Nat}{x:Str}(a:N[i]? =some x)(b:N[j]? =some x):i=j:=by
 obtain⟨h1,e1⟩:=List.getElem?_eq_some_iff.mp a
 obtain⟨h2,e2⟩:=List.getElem?_eq_some_iff.mp b
 exact(List.getElem_inj hN).mp (e1.trans e2.symm)
theorem z7z{M:Model}{A:Around}{E:Value->Shared->Prop}{i:Nat}{x:Str}{v:V}{u:Value}{Q:Unit->Shared->Prop}(I:Inv X pins σ H s)(hN:X.N.Nodup)(hi:X.N[i]? =some x)(hx:Loc X.env.scope x)(r:RelV v u)
 (h: ∀s',Inv X pins (σ.set i (some v)) H s'->(∃a,Heap.SameBut a s.heap s'.heap/\(a=X.env.locals\/X.env.cells.lookup x=some a))->Q () s') (hf:X.fn x=true\/X.env.scope.names.lookup x=some .local:=by first|exact .inl rfl|exact .inr rfl|assumption):wpAny M A (storeName X.env x u) Q E s:=by
 obtain⟨m,hn,hl⟩:=id I.loc
 have hcls:(X.env.scope.kind== .class||(X.env.scope.kind== .module&&X.env.locals !=X.env.globals))=false:=by rw[I.ok.kind];rfl
 have hiσ:i<σ.length:=by rw[I.len];exact(List.getElem?_eq_some_iff.mp hi).1
 have cne:=I.cne
 have tracked: ∀{a:Addr} {h':Heap},(∃o,s.heap.get? a=some o/\H a=none)->Heap.SameBut a s.heap h'->HOk X.prog X.w H h':=fun{a h'} ha hs b ob e=>by
  obtain⟨_,_,hfree⟩:=ha
  refine(I.hok b ob e).stay (fun c w' hc q=>(hs.2 c ?_).trans q) (fun _ q=>q) fun _ _ q=>q
  rintro rfl
  rcases hc with rfl|hc
  ·rw[hfree] at e;cases e
  ·rw[hfree] at hc;cases hc
 rcases hx with hk|hk
 ·refine wpAny_storeName_local hk hn (fun h' hn' hs=> ?_) hcls
  obtain⟨oL,_,_,hoL,_⟩:=id hn
  refine h _ ⟨I.ok,I.os,I.bare,⟨fun b o e n hb hx=> ?_,fun b o e n hb hx=> ?_,I.base.free,fun b o e hx=> ?_,I.base.tups,I.base.frzs,I.base.tbls⟩,⟨_,hn',fun j y v' e1 e2 e3=> ?_⟩,fun y c e=> ?_,I.free,I.freeC,fun p hp=> ?_,tracked ⟨oL,hoL,I.free⟩ hs,by simpa using I.len⟩ ⟨_,hs, .inl rfl⟩
  ·exact(hs.2 b (o0 (n9 (Heap.lt_size e) I.ok.above))).trans (I.base.keep b o e n hb hx)
  ·obtain⟨sl,e1⟩:=I.base.slot b o e n hb hx
   exact⟨sl,(hs.2 b (o0 (n9 (Heap.lt_size e) I.ok.above))).trans e1⟩
  ·obtain⟨o',e1⟩:=I.base.there b o e hx
   exact⟨o',(hs.2 b (o0 (n9 (Heap.lt_size e) I.ok.above))).trans e1⟩
  ·by_cases hj:j=i
   ·subst hj
    rw[hi] at e1;cases e1
    rw[List.getElem?_set_self hiσ] at e2
    cases e2
    exact⟨u,r, .inl ⟨hk,by simp⟩⟩
   ·rw[List.getElem?_set_ne (Ne.symm hj)] at e2
    obtain⟨u',r',q⟩:=hl j y v' e1 e2 e3
    refine⟨u',r', ?_⟩
    rcases q with⟨k,e⟩|⟨k,c,e,z⟩
    ·refine .inl ⟨k, ?_⟩
     have:y≠x:=fun e=>hj (z69 hN e1 (e▸hi))
     simp[this,e]
    ·exact .inr ⟨k,c,e,z.sameBut hs (cne y c e)⟩
  ·obtain⟨w',z⟩:=I.cell y c e
   exact⟨w',z.sameBut hs (cne y c e)⟩
  ·obtain⟨e,n,ne,nf,d⟩:=I.pin p hp
   exact⟨(hs.2 p.1 ne).trans e,n,ne,nf,d⟩
 ·have hfn:X.fn x=true:=by
   rcases hf with z|z
   ·exact z
   ·rw[z] at hk;cases hk
  obtain⟨c,hc⟩:=I.ok.has x (.inl hk)
  obtain⟨w',z⟩:=I.cell x c hc
  refine wpAny_storeName_cell I.ok.kind hk hc z (fun h' hc' hs=> ?_)
  obtain⟨oc,hoc,hocd⟩:=id z
  refine h {s with heap:=h'} ⟨I.ok,I.os,I.bare,⟨fun b o e n hb hx=> ?_,fun b o e n hb hx=> ?_,I.base.free,fun b o e hx=> ?_,I.base.tups,I.base.frzs,I.base.tbls⟩,⟨m,hn.sameBut hs (Ne.symm (cne x c hc)),fun j y v' e1 e2 e3=> ?_⟩,fun y c' e=> ?_,I.free,I.freeC,fun p hp=> ?_,tracked ⟨oc,hoc,I.freeC x c hc⟩ hs,by simpa using I.len⟩ ⟨c,hs, .inr hc⟩
  ·exact(hs.2 b (o0 (n9 (Heap.lt_size e) (I.ok.cab x c hfn hc)))).trans (I.base.keep b o e n hb hx)
  ·obtain⟨sl,e1⟩:=I.base.slot b o e n hb hx
   exact⟨sl,(hs.2 b (o0 (n9 (Heap.lt_size e) (I.ok.cab x c hfn hc)))).trans e1⟩
  ·obtain⟨o',e1⟩:=I.base.there b o e hx
   exact⟨o',(hs.2 b (o0 (n9 (Heap.lt_size e) (I.ok.cab x c hfn hc)))).trans e1⟩
  ·by_cases hj:j=i
   ·subst hj
    rw[hi] at e1;cases e1
    rw[List.getElem?_set_self hiσ] at e2
    cases e2
    exact⟨u,r, .inr ⟨.inl hk,c,hc,hc'⟩⟩
   ·rw[List.getElem?_set_ne (Ne.symm hj)] at e2
    obtain⟨u',r',q⟩:=hl j y v' e1 e2 e3
    refine⟨u',r', ?_⟩
    rcases q with q|⟨k,c',e,z'⟩
    ·exact .inl q
    ·refine .inr ⟨k,c',e,z'.sameBut hs ?_⟩
     rintro rfl
     exact hj (z69 hN e1 (I.ok.inj _ _ _ e hc▸hi))
  ·by_cases hcc:c'=c
   ·subst hcc;exact⟨_,hc'⟩
   ·obtain⟨w2,z2⟩:=I.cell y c' e
    exact⟨w2,z2.sameBut hs hcc⟩
  ·obtain⟨e,n,ne,nf,d⟩:=I.pin p hp
   refine⟨(hs.2 p.1 ?_).trans e,n,ne,nf,d⟩
   intro q
   rw[q,hoc] at e
   have q':oc=p.2:=Option.some.inj e
   exact d w' (by rw[<-q'];exact hocd)
theorem z2f{M:Model}{A:Around}{E:Value->Shared->Prop}{i:Nat}{x:Str}{v:V}{u:Value}{Q:Unit->Shared->Prop}(I:Inv X pins σ H s)(hN:X.N.Nodup)(hi:X.N[i]? =some x)(hx:Loc X.env.scope x)(r:RelV v u)
 (h: ∀s',Inv X pins (σ.set i (some v)) H s'->Q () s') (hf:X.fn x=true\/X.env.scope.names.lookup x=some .local:=by first|exact .inl rfl|exact .inr rfl|assumption):wpAny M A (storeName X.env x u) Q E s:=
 z7z I hN hi hx r (fun s' I' _=>h s' I') hf
theorem Inv.call'{s':Shared}{ch:List Addr}(I:Inv X pins σ H s)(ho:s'.os=s.os)(u:Un (frs X.stack) ch H H' s.heap s'.heap)(hok:HOk X.prog X.w H' s'.heap)(hg:AllBare s'.gens)
 (hch: ∀b∈ch,(b∈X.ex\/X.s₀.heap.objs.size<=b)/\b≠X.env.locals/\(∀x c,X.env.cells.lookup x=some c->c≠b)/\∀p∈X.pn++pins,p.1≠b):Inv X pins σ H' s':=by
 obtain⟨h',g',d',t',o'⟩:=s'
 have e:o'=s.os:=ho
 subst e
 exact I.call (g':=g') (t':=t') (d':=d') u hok hg hch
end
noncomputable abbrev XK:=Value->Option Addr->Hp->Prop
noncomputable abbrev St:=List (Option V)
noncomputable abbrev VK:=V->Hp->Prop
noncomputable abbrev TE:=St->Hp->VK->Prop
noncomputable abbrev TT:=St->Hp->(Bool->Hp->Prop)->Prop
noncomputable abbrev TA:=St->Hp->(List V->Hp->Prop)->Prop
structure z5x where
 nx:St->Hp->Prop
 rt:VK
 bk:St->Hp->Prop:=fun _ _=>False
 ct:St->Hp->Prop:=fun _ _=>False
noncomputable abbrev TS:=z5x->St->Hp->Prop
noncomputable def EP(X:Cx)(pins:List (Addr×Obj))(σ:St)(Q:VK)(u:Value)(s':Shared):Prop:= ∃v H',Inv X pins σ H' s'/\RelV v u/\Q v H'
noncomputable def TP(X:Cx)(pins:List (Addr×Obj))(σ:St)(Q:Bool->Hp->Prop)(b:Bool)(s':Shared):Prop:= ∃H',Inv X pins σ H' s'/\Q b H'
noncomputable def AP(X:Cx)(pins:List (Addr×Obj))(σ:St)(Q:List V->Hp->Prop)(us:List Value)(s':Shared):Prop:= ∃vs H',Inv X pins σ H' s'/\J0 vs us/\Q vs H'
noncomputable def SP(X:Cx)(pins:List (Addr×Obj))(D:z5x)(f:Flow)(s':Shared):Prop:=
 match f with
 | .next=> ∃σ' H',Inv X pins σ' H' s'/\D.nx σ' H'
 | .brk=> ∃σ' H',Inv X pins σ' H' s'/\D.bk σ' H'
 | .cont=> ∃σ' H',Inv X pins σ' H' s'/\D.ct σ' H'
 | .ret u=> ∃v σ' H',Inv X pins σ' H' s'/\RelV v u/\D.rt v H'
noncomputable def PE(X:Cx)(e:Expr)(t:TE):Prop:=
 ∀(pins:List (Addr×Obj)) (s:Shared) (σ:St) (H:Hp) (Q:VK),Inv X pins σ H s->t σ H Q->wpAny (model X.prog X.w) X.A (eval e X.env) (EP X pins σ Q) X.xe s
noncomputable def PT(X:Cx)(e:Expr)(t:TT):Prop:=
 ∀(pins:List (Addr×Obj)) (s:Shared) (σ:St) (H:Hp) (Q:Bool->Hp->Prop),Inv X pins σ H s->t σ H Q->wpAny (model X.prog X.w) X.A (isTrue e X.env (eval e X.env)) (TP X pins σ Q) X.xe s
noncomputable def PW(X:Cx)(e:Expr)(t:TT):Prop:=
 ∀(whole:Sem Value) (pins:List (Addr×Obj)) (s:Shared) (σ:St) (H:Hp) (Q:Bool->Hp->Prop),Inv X pins σ H s->t σ H Q->wpAny (model X.prog X.w) X.A (isTrue e X.env whole) (TP X pins σ Q) X.xe s
theorem PW.pt{X:Cx}{e:Expr}{t:TT}(h:PW X e t):PT X e t:=h _
noncomputable def PA(X:Cx)(es:List Expr)(t:TA):Prop:=
 ∀(pos:Pos) (pins:List (Addr×Obj)) (s:Shared) (σ:St) (H:Hp) (Q:List V->Hp->Prop),Inv X pins σ H s->t σ H Q->wpAny (model X.prog X.w) X.A (spliced (backTo pos (starEach es X.env))) (AP X pins σ Q) X.xe s
noncomputable def PS(X:Cx)(st:Stmt)(t:TS):Prop:=
 ∀(pins:List (Addr×Obj)) (s:Shared) (σ:St) (H:Hp) (D:z5x),Inv X pins σ H s->t D σ H->wpAny (model X.prog X.w) X.A (exec st X.env) (SP X pins D) X.xe s
noncomputable def PSs(X:Cx)(st:List Stmt)(t:TS):Prop:=
 ∀(pins:List (Addr×Obj)) (s:Shared) (σ:St) (H:Hp) (D:z5x),Inv X pins σ H s->t D σ H->wpAny (model X.prog X.w) X.A (execs st X.env) (SP X pins D) X.xe s
theorem thn{α:Type}{t:Sem α}{Q Q':α->Shared->Prop}{M:Model}{A:Around}{E:Value->Shared->Prop}{s:Shared}(h:wpAny M A t Q E s)(hQ: ∀a s,Q a s->Q' a s):wpAny M A t Q' E s:=wpAny_mono h hQ fun _ _ x=>x
section
variable{X:Cx}
noncomputable def zg4(i:Nat):TE:=fun σ H Q=> ∃v,σ[i]? =some (some v)/\Q v H
noncomputable def tC(v:V):TE:=fun _ H Q=>Q v H
theorem zdn{i:Nat}{x:Str}{pos:Pos}(hN:X.N[i]? =some x)(hv:Vis X.env.scope x)(hd:(x==("__debug__" :Str))=false:=by decide)(hcd:(x==("__classdict__" :Str))=false:=by decide):PE X (.Name x pos) (zg4 i):=by
 intro pins s σ H Q I h
 obtain⟨v,e,h⟩:=h
 obtain⟨m,hn,hl⟩:=I.loc
 obtain⟨u,r,l⟩:=hl i x v hN e hv
 have fin:EP X pins σ Q u s:=⟨v,H,I,r,h⟩
 rcases l with⟨hk,hm⟩|⟨hk,c,hc,hcell⟩
 ·exact wpAny_Name (wpAny_loadName_local I.ok.kind hk hn hm fin) hd
 ·rcases hk with hk|hk
  ·exact wpAny_Name (wpAny_loadName_cell I.ok.kind hk hc hcell fin) hd
  ·exact wpAny_Name (wpAny_loadName_free I.ok.kind hk hc hcell fin hcd) hd
theorem y6{i j pos}:PE X (.Constant (.int i) j pos) (tC (.int i)):=fun _ _ _ H _ I h=>wpAny_Constant_int ⟨.int i,H,I.tok _,⟨_,rfl⟩,h⟩
theorem z1M{b j pos}:PE X (.Constant (.bool b) j pos) (tC (.bl b)):=fun _ _ _ H _ I h=>Constant_bool ⟨.bl b,H,I,rfl,h⟩
theorem zdo{j pos}:PE X (.Constant .none j pos) (tC .non):=fun _ _ _ H _ I h=>Constant_none ⟨.non,H,I,rfl,h⟩
theorem z7A{x j pos}:PE X (.Constant (.str x) j pos) (tC (.str x)):=fun _ _ _ H _ I h=>Calls.Constant_str ⟨.str x,H,I.tok _,⟨_,rfl⟩,h⟩
noncomputable def Gl(X:Cx)(x:Str):Prop:=X.env.kindOf x=some .globalImplicit
theorem z7B{E:Value->Shared->Prop}{pins:List (Addr×Obj)}{s:Shared}{σ:St}{H:Hp}{x:Str}{u:Value}{pos:Pos}{Q:Value->Shared->Prop}(I:Inv X pins σ H s)(hg:Gl X x)(hm:X.mg x=some u)(h:Q u s)
 (hd:(x==("__debug__" :Str))=false:=by decide):wpAny (model X.prog X.w) X.A (eval (.Name x pos) X.env) Q E s:=
 Calls.Name_function_global I.ok.kind hg (Calls.loadGlobal_global (by rw[I.ok.glob];exact I.mod.glob.keeps I.bk) hm h) hd
theorem z3l{E:Value->Shared->Prop}{pins:List (Addr×Obj)}{s:Shared}{σ:St}{H:Hp}{x:Str}{u:Value}{pos:Pos}{Q:Value->Shared->Prop}(I:Inv X pins σ H s)(hg:Gl X x)(hm:X.mg x=none)(hv:bootBuiltins x=some u)(h:Q u s)
 (hn:x≠ "__name__" :=by decide) (hd:(x==("__debug__" :Str))=false:=by decide):wpAny (model X.prog X.w) X.A (eval (.Name x pos) X.env) Q E s:=by
 obtain⟨mb,h1,h2⟩:=I.mod.blt
 exact Calls.Name_function_global I.ok.kind hg (Calls.loadGlobal_builtin (by rw[I.ok.glob];exact I.mod.glob.keeps I.bk) hm (by rw[I.ok.blt];exact h1.keeps I.bk) ((h2 x hn).trans hv) h) hd
theorem z7C{x:Str}{v:V}{u:Value}{pos:Pos}(hg:Gl X x)(hm:X.mg x=some u)(r:RelV v u)(hd:(x==("__debug__" :Str))=false:=by decide):PE X (.Name x pos) (tC v):=
 fun _ _ _ H _ I h=>z7B I hg hm ⟨v,H,I,r,h⟩ hd
theorem J7{x:Str}{v:V}{u:Value}{pos:Pos}(hg:Gl X x)(hm:X.mg x=none)(hv:bootBuiltins x=some u)(r:RelV v u)(hn:x≠ "__name__" :=by decide)(hd:(x==("__debug__" :Str))=false:=by decide):PE X (.Name x pos) (tC v):=
 fun _ _ _ H _ I h=>z3l I hg hm hv ⟨v,H,I,r,h⟩ hn hd
variable{a b:Expr}{ta tb:TE}{pos:Pos}
noncomputable def tB(t:TE):TT:=fun σ H Q=>t σ H fun x H1=> ∃c,x= .bl c/\Q c H1
variable{tA tB':TT}{rest:List Expr}
noncomputable def ziv(t u:TT):TT:=fun σ H Q=>t σ H fun c H1=>if c=true then u σ H1 Q else Q false H1
noncomputable def tOr(t u:TT):TT:=fun σ H Q=>t σ H fun c H1=>if c=true then Q true H1 else u σ H1 Q
noncomputable def ziw(t:TT):TT:=fun σ H Q=>t σ H fun c H1=>Q (!c) H1
theorem zbE(ha:PT X a tA):PW X (.BoolOp .And [a] pos) tA:=by
 intro wh pins s σ H Q I h
 refine isTrue_and (thn (ha pins s σ H Q I h) fun c s1 e=> ?_)
 cases c with
 |true=>exact isTrue_and_nil e
 |false=>exact e
theorem zdp(ha:PT X a tA):PW X (.BoolOp .Or [a] pos) tA:=by
 intro wh pins s σ H Q I h
 refine isTrue_or (thn (ha pins s σ H Q I h) fun c s1 e=> ?_)
 cases c with
 |false=>exact isTrue_or_nil e
 |true=>exact e
theorem zdq(ha:PT X a tA)(hb:PW X (.BoolOp .And (b::rest) pos) tB'):PW X (.BoolOp .And (a::b::rest) pos) (ziv tA tB'):=by
 intro wh pins s σ H Q I h
 refine isTrue_and (thn (ha pins s σ H _ I h) fun c s1 ⟨H1,I1,q1⟩=> ?_)
 cases c with
 |true=>exact hb wh pins s1 σ H1 Q I1 q1
 |false=>exact⟨H1,I1,q1⟩
theorem zgj(ha:PT X a tA)(hb:PW X (.BoolOp .Or (b::rest) pos) tB'):PW X (.BoolOp .Or (a::b::rest) pos) (tOr tA tB'):=by
 intro wh pins s σ H Q I h
 refine isTrue_or (thn (ha pins s σ H _ I h) fun c s1 ⟨H1,I1,q1⟩=> ?_)
 cases c with
 |true=>exact⟨H1,I1,q1⟩
 |false=>exact hb wh pins s1 σ H1 Q I1 q1
theorem zdr(ha:PT X a tA):PT X (.UnaryOp .Not a pos) (ziw tA):=by
 intro pins s σ H Q I h
 exact isTrue_not (ha pins s σ H (fun c H1=>Q (!c) H1) I h)
noncomputable def zgk(ta tb:TE):TE:=fun σ H Q=>ta σ H fun x H1=> ∃c,x= .bl c/\if c=true then tb σ H1 Q else Q (.bl false) H1
noncomputable def zgl(ta:TE):TE:=fun σ H Q=>ta σ H fun x H1=> ∃c,x= .bl c/\Q (.bl (!c)) H1
theorem zds{op}{t:TE}(h:PE X a t):PE X (.BoolOp op [a] pos) t:=fun pins s σ H Q I hw=>BoolOp_one (h pins s σ H Q I hw)
theorem zdt(ha:PE X a ta)(hb:PE X (.BoolOp .And (b::rest) pos) tb):PE X (.BoolOp .And (a::b::rest) pos) (zgk ta tb):=by
 intro pins s σ H Q I h
 refine BoolOp_and (thn (ha pins s σ H _ I h) fun v s1 ⟨x,H1,I1,r1,q1⟩=> ?_)
 obtain⟨c,rfl,q1⟩:=q1
 cases r1
 refine wpAny_truthy_bool ?_
 cases c with
 |true=>exact hb pins s1 σ H1 Q I1 q1
 |false=>exact⟨.bl false,H1,I1,rfl,q1⟩
theorem zdu(ha:PE X a ta):PE X (.UnaryOp .Not a pos) (zgl ta):=by
 intro pins s σ H Q I h
 refine UnaryOp_ (thn (ha pins s σ H _ I h) fun v s1 ⟨x,H1,I1,r1,q1⟩=> ?_)
 obtain⟨c,rfl,q1⟩:=q1
 cases r1
 exact not_of (wpAny_truthy_bool ⟨.bl (!c),H1,I1,rfl,q1⟩)
end
noncomputable def SqL(K:W.Frag)(H:Hp)(a:Addr)(xs:List V):Prop:=
 Rd H a (.lst xs)\/
  ∃(o:Obj) (its:Array Value) (n:Nat),K.lookup a=some o/\o.cls= .type "list" /\o.dict=none/\o.data= .seq its n/\its.size<=sizeLine/\J0 xs its.toList
noncomputable def SqT(K:W.Frag)(H:Hp)(a:Addr)(xs:List V):Prop:=
 Rd H a (.tup xs)\/
  ∃(o:Obj) (its:Array Value) (n:Nat),K.lookup a=some o/\o.cls= .type "tuple" /\o.data= .seq its n/\its.size<=sizeLine/\J0 xs its.toList
noncomputable def zix:Value->Option V
 | .none=>some .non
 | .bool b=>some (.bl b)
 | .int i _=>some (.int i)
 | .str x _=>some (.str x)
 | .bytes b _=>some (.byt b)
 | .float b _=>some (.flt b)
 | .ref a=>some (.ref a)
 | .type n=>some (.ty n)
 |_=>none
theorem RelV.abs{x:V}{u:Value}(r:RelV x u):zix u=some x:=by
 cases x with
 |non=>cases r;rfl
 |bl _=>cases r;rfl
 |int _=>obtain⟨t,rfl⟩:=r;rfl
 |str _=>obtain⟨t,rfl⟩:=r;rfl
 |byt _=>obtain⟨t,rfl⟩:=r;rfl
 |flt _=>obtain⟨t,rfl⟩:=r;rfl
 |ref _=>cases r;rfl
 |ty _=>cases r;rfl
theorem RelV.inj{x y:V}{u:Value}(r:RelV x u)(q:RelV y u):x=y:=Option.some.inj (r.abs.symm.trans q.abs)
theorem J0.inj: ∀{xs ys:List V} {us:List Value},J0 xs us->J0 ys us->xs=ys
 |_,_,_, .nil, .nil=>rfl
 |_,_,_, .cons r t, .cons r' t'=>by rw[r.inj r',J0.inj t t']
section
variable{X:Cx}{pins:List (Addr×Obj)}{σ:St}{H:Hp}{s:Shared}{a:Addr}{xs ys:List V}
theorem SqL.of{K:W.Frag}(h:H a=some (.lst xs)):SqL K H a xs:= .inl (.inl h)
theorem SqT.of{K:W.Frag}(h:H a=some (.tup xs)):SqT K H a xs:= .inl (.inl h)
theorem Inv.list(I:Inv X pins σ H s)(h:SqL X.K H a xs): ∃its:List Value,J0 xs its/\PlainL s.heap a its.toArray/\xs.length<=sizeLine:=by
 rcases h with h|⟨o,its,n,hk,hc,hd,hs,hz,r⟩
 ·obtain⟨z,its,n,r,e⟩:=h.ok I.hok
  exact⟨its,r,⟨_,n,e,rfl,rfl,rfl⟩,z⟩
 ·refine⟨its.toList,r,⟨o,n,I.kIn a o hk,hc,hd,by simpa using hs⟩, ?_⟩
  have e:=r.length
  erw[Array.length_toList] at e
  lia
theorem Inv.tuple(I:Inv X pins σ H s)(h:SqT X.K H a xs): ∃its:List Value,J0 xs its/\IsTup s.heap a its.toArray/\xs.length<=sizeLine:=by
 rcases h with h|⟨o,its,n,hk,hc,hs,hz,r⟩
 ·obtain⟨z,its,r,p⟩:=h.ok I.hok
  exact⟨its,r,p,z⟩
 ·refine⟨its.toList,r,⟨o,I.kIn a o hk,hc,n,by simpa using hs⟩, ?_⟩
  have e:=r.length
  erw[Array.length_toList] at e
  lia
theorem Inv.list_inj(I:Inv X pins σ H s)(h:SqL X.K H a xs)(h':SqL X.K H a ys):xs=ys:=by
 obtain⟨its,r,⟨o,n,e,_,_,d⟩,_⟩:=I.list h
 obtain⟨its',r',⟨o',n',e',_,_,d'⟩,_⟩:=I.list h'
 rw[e] at e';cases e'
 rw[d] at d'
 injection d' with d1 _
 have:its=its':=by simpa using congrArg Array.toList d1
 subst this
 exact r.inj r'
theorem Inv.tuple_inj(I:Inv X pins σ H s)(h:SqT X.K H a xs)(h':SqT X.K H a ys):xs=ys:=by
 obtain⟨its,r,⟨o,e,_,n,d⟩,_⟩:=I.tuple h
 obtain⟨its',r',⟨o',e',_,n',d'⟩,_⟩:=I.tuple h'
 rw[e] at e';cases e'
 rw[d] at d'
 injection d' with d1 _
 have:its=its':=by simpa using congrArg Array.toList d1
 subst this
 exact r.inj r'
end
noncomputable abbrev Cx.wish(X:Cx)(E:Value->Shared->Prop):Cx:={X with xe:=E}
noncomputable abbrev Cx.nox(X:Cx):Cx:=X.wish fun _ _=>False
theorem Cx.Ok.wish{X:Cx}(ok:X.Ok)(E:Value->Shared->Prop):(X.wish E).Ok:=
 ⟨ok.mod,ok.kind,ok.glob,ok.blt,ok.above,ok.inj,ok.has,ok.cab,ok.hd,ok.frames,ok.stk,ok.exf,ok.bs,ok.bsz,ok.noex,ok.exfs,ok.funs,ok.frf⟩
theorem Cx.Ok.unwish{X:Cx}{E:Value->Shared->Prop}(ok:(X.wish E).Ok):X.Ok:=
 ⟨ok.mod,ok.kind,ok.glob,ok.blt,ok.above,ok.inj,ok.has,ok.cab,ok.hd,ok.frames,ok.stk,ok.exf,ok.bs,ok.bsz,ok.noex,ok.exfs,ok.funs,ok.frf⟩
section
variable{X:Cx}{pins:List (Addr×Obj)}{σ:St}{H:Hp}{s:Shared}{E:Value->Shared->Prop}
theorem Inv.wish(I:Inv X pins σ H s)(E:Value->Shared->Prop):Inv (X.wish E) pins σ H s:=⟨I.ok.wish E,I.os,I.bare,I.base,I.loc,I.cell,I.free,I.freeC,I.pin,I.hok,I.len⟩
theorem Inv.unwish(I:Inv (X.wish E) pins σ H s):Inv X pins σ H s:=⟨I.ok.unwish,I.os,I.bare,I.base,I.loc,I.cell,I.free,I.freeC,I.pin,I.hok,I.len⟩
theorem SP.unwish{D:z5x}{f:Flow}{s':Shared}(h:SP (X.wish E) pins D f s'):SP X pins D f s':=by
 cases f with
 |next=>obtain⟨σ',H',I,q⟩:=h;exact⟨σ',H',I.unwish,q⟩
 |brk=>obtain⟨σ',H',I,q⟩:=h;exact⟨σ',H',I.unwish,q⟩
 |cont=>obtain⟨σ',H',I,q⟩:=h;exact⟨σ',H',I.unwish,q⟩
 |ret u=>obtain⟨v,σ',H',I,r,q⟩:=h;exact⟨v,σ',H',I.unwish,r,q⟩
theorem PSs.nox{st:List Stmt}{t:TS}(h:PSs X.nox st t):PSs X st t:=fun pins s σ H D I hw=>
 wpAny_mono (h pins s σ H D (I.wish _) hw) (fun _ _ q=>q.unwish) fun _ _ z=>False.elim z
end
section
variable{X:Cx}{st:Stmt}{rest:List Stmt}{t u:TS}{e:Expr}{te:TE}{pos:Pos}
noncomputable def zgm:TS:=fun D σ H=>D.nx σ H
noncomputable def ziy(t u:TS):TS:=fun D σ H=>t {D with nx:=u D} σ H
theorem zbF:PSs X [] zgm:=fun _ _ σ H _ I h=>wpAny_execs_nil ⟨σ,H,I,h⟩
theorem z9D(h1:PS X st t)(h2:PSs X rest u):PSs X (st::rest) (ziy t u):=by
 intro pins s σ H D I h
 refine wpAny_execs_cons (thn (h1 pins s σ H {D with nx:=u D} I h) fun f s1 q=> ?_)
 cases f with
 |next=>
  obtain⟨σ',H',I',q⟩:=q
  exact h2 pins s1 σ' H' D I' q
 |ret v=>exact q
 |brk=>exact q
 |cont=>exact q
theorem zbG(h1:PS X st t):PSs X [st] t:=by
 intro pins s σ H D I h
 refine wpAny_execs_cons (thn (h1 pins s σ H D I h) fun f s1 q=> ?_)
 cases f with
 |next=>exact wpAny_execs_nil q
 |ret v=>exact q
 |brk=>exact q
 |cont=>exact q
theorem Inv.quiet{pins:List (Addr×Obj)}{σ:St}{H:Hp}{s:Shared}(I:Inv X pins σ H s):interactive X.env=false:=by simp[interactive,I.ok.kind]
noncomputable def zgn(te:TE):TS:=fun D σ H=>te σ H fun _ H1=>D.nx σ H1
theorem zbH(he:PE X e te)(hs:swapsWith e none pos.line X.env=pure false:=by rfl):PS X (.Expr e pos) (zgn te):=by
 intro pins s σ H D I h
 exact wpAny_Expr_any (thn (he pins s σ H _ I h) fun v s1 ⟨x,H1,I1,r1,q1⟩=>⟨σ,H1,I1,q1⟩) I.quiet hs
noncomputable def ziz(te:TE):TS:=fun D σ H=>te σ H D.rt
theorem zdv(he:PE X e te):PS X (.Return (some e) pos) (ziz te):=by
 intro pins s σ H D I h
 exact wpAny_Return_some (thn (he pins s σ H _ I h) fun v s1 ⟨x,H1,I1,r1,q1⟩=>⟨x,σ,H1,I1,r1,q1⟩)
noncomputable def ziA(c:TT)(t u:TS):TS:=fun D σ H=>c σ H fun b H1=>if b=true then t D σ H1 else u D σ H1
theorem zgo{c:Expr}{a b:List Stmt}{tc:TT}(hc:PT X c tc)(ha:PSs X a t)(hb:PSs X b u):PS X (.If c a b pos) (ziA tc t u):=by
 intro pins s σ H D I h
 refine wpAny_If (thn (hc pins s σ H _ I h) fun d s1 ⟨H1,I1,q1⟩=> ?_)
 cases d with
 |true=>exact ha pins s1 σ H1 D I1 q1
 |false=>exact hb pins s1 σ H1 D I1 q1
end
noncomputable abbrev TG:=V->St->Hp->(St->Hp->Prop)->Prop
noncomputable abbrev TGs:=List V->St->Hp->(St->Hp->Prop)->Prop
noncomputable def PG(X:Cx)(target:Expr)(t:TG):Prop:=
 ∀(pins:List (Addr×Obj)) (s:Shared) (σ:St) (H:Hp) (v:V) (u:Value) (Q:St->Hp->Prop),Inv X pins σ H s->RelV v u->t v σ H Q->
  wpAny (model X.prog X.w) X.A (assign target X.env u) (fun _ s'=> ∃σ' H',Inv X pins σ' H' s'/\Q σ' H') X.xe s
noncomputable def PGs(X:Cx)(ts:List Expr)(t:TGs):Prop:=
 ∀(pins:List (Addr×Obj)) (s:Shared) (σ:St) (H:Hp) (vs:List V) (us:List Value) (Q:St->Hp->Prop),Inv X pins σ H s->J0 vs us->t vs σ H Q->
  wpAny (model X.prog X.w) X.A (assignInOrder ((assignEach ts X.env).map (·.2)) us) (fun _ s'=> ∃σ' H',Inv X pins σ' H' s'/\Q σ' H') X.xe s
noncomputable abbrev zgp:=V->V->V->Hp->(Hp->Prop)->Prop
noncomputable def zia(X:Cx)(t:zgp):Prop:=
 ∀(pins:List (Addr×Obj)) (s:Shared) (σ:St) (H:Hp) (o i v:V) (ov iv u:Value) (Q:Hp->Prop),Inv X pins σ H s->RelV o ov->RelV i iv->RelV v u->t o i v H Q->
  wpAny (model X.prog X.w) X.A (setItem ov iv u) (fun _ s'=> ∃H',Inv X pins σ H' s'/\Q H') X.xe s
noncomputable abbrev TIp:=V->V->Hp->VK->Prop
noncomputable def PIp(X:Cx)(op:Operator)(t:TIp):Prop:=
 ∀(pins:List (Addr×Obj)) (s:Shared) (σ:St) (H:Hp) (x y:V) (v u:Value) (Q:VK),Inv X pins σ H s->RelV x v->RelV y u->t x y H Q->
  wpAny (model X.prog X.w) X.A (inplaceOp op v u) (EP X pins σ Q) X.xe s
section
variable{X:Cx}{pos:Pos}
noncomputable def z6Q(i:Nat):TG:=fun v σ H Q=>Q (σ.set i (some v)) H
theorem j4{i:Nat}{x:Str}(hN:X.N.Nodup)(hi:X.N[i]? =some x)(hx:Loc X.env.scope x)(hf:X.fn x=true\/X.env.scope.names.lookup x=some .local:=by first|exact .inl rfl|exact .inr rfl|assumption):PG X (.Name x pos) (z6Q i):=by
 intro pins s σ H v u Q I r h
 exact wpAny_assign_Name (z2f I hN hi hx r (fun s' I'=>⟨_,H,I',h⟩) hf)
noncomputable def zdw:TGs:=fun vs σ H Q=>vs=[]/\Q σ H
noncomputable def z6R(t:TG)(u:TGs):TGs:=fun vs σ H Q=> ∃v r,vs=v::r/\t v σ H fun σ' H'=>u r σ' H' Q
theorem z7D:PGs X [] zdw:=by
 intro pins s σ H vs us Q I r h
 obtain⟨e,h⟩:=h
 subst e
 cases r
 exact assignInOrder_nil ⟨σ,H,I,h⟩
theorem z3N{e:Expr}{es:List Expr}{t:TG}{u:TGs}(h1:PG X e t)(h2:PGs X es u)
 (hs:(assignEach (e::es) X.env).map (·.2)=assign e X.env::(assignEach es X.env).map (·.2):=by rfl):PGs X (e::es) (z6R t u):=by
 intro pins s σ H vs us Q I r h
 obtain⟨v,vr,e1,h⟩:=h
 subst e1
 cases r with
 |cons r rr=>
  rw[hs]
  refine assignInOrder_cons (thn (h1 pins s σ H _ _ _ I r h) fun _ s1 ⟨σ1,H1,I1,q1⟩=> ?_)
  exact h2 pins s1 σ1 H1 _ _ Q I1 rr q1
noncomputable def zgq(K:W.Frag)(n:Nat)(t:TGs):TG:=fun v σ H Q=> ∃a xs,v= .ref a/\SqT K H a xs/\xs.length=n/\t xs σ H Q
theorem zaL{es:List Expr}{k:Nat}{t:TGs}{n:Nat}(hc:X.calm=true)(h:PGs X es t)
 (hn:(assignEach es X.env).length=n:=by rfl) (hst:(assignEach es X.env).findIdx? (·.1)=none:=by rfl):PG X (.Tuple es k pos) (zgq X.K n t):=by
 intro pins s σ H v u Q I r hw
 obtain⟨a,xs,e1,hq,hl,hw⟩:=hw
 subst e1
 cases r
 obtain⟨its,rv,ht,hz⟩:=I.tuple hq
 refine assign_Tuple_tuple (I.ok.hd hc) ht (by simp[hn,<-hl,rv.length]) hst fun h' hx=> ?_
 have I1:Inv X pins σ H {s with heap:=h'}:=I.kept (t':=s.toks) fun b o e=>hx b o (o0 (Heap.lt_size e)) e
 exact h pins _ σ H xs _ Q I1 (by simpa using rv) hw
noncomputable def zaM(to ti:TE)(t:zgp):TG:=fun v σ H Q=>to σ H fun o H1=>ti σ H1 fun i H2=>t o i v H2 fun H3=>Q σ H3
theorem z4D{o i:Expr}{to ti:TE}{t:zgp}(ho:PE X o to)(hi:PE X i ti)(hs:zia X t)
 (ha: ∀v,assign (.Subscript o i pos) X.env v=(do
  let ov<-holding [v] (eval o X.env)
  let iv<-holding [v,ov] (eval i X.env)
  standAt pos
  holding [v,ov,iv] (setItem ov iv v)
  release [v,ov,iv] []):=by intro _;rfl):PG X (.Subscript o i pos) (zaM to ti t):=by
 intro pins s σ H v u Q I r h
 rw[ha]
 refine wpAny_bind (wpAny_holding (thn (ho pins s σ H _ I h) fun ov s1 ⟨x,H1,I1,r1,q1⟩=> ?_))
 refine wpAny_bind (wpAny_holding (thn (hi pins s1 σ H1 _ I1 q1) fun iv s2 ⟨y,H2,I2,r2,q2⟩=> ?_))
 refine wpAny_bind (wpAny_standAt (wpAny_bind (wpAny_holding (thn (hs pins s2 σ H2 x y v ov iv u _ I2 r1 r2 r q2) fun _ s3 ⟨H3,I3,q3⟩=> ?_))))
 exact wpAny_release ⟨σ,H3,I3,q3⟩
noncomputable def zg5(te:TE)(g:TG):TS:=fun D σ H=>te σ H fun x H1=>g x σ H1 D.nx
theorem zaN{tg e:Expr}{te:TE}{g:TG}(he:PE X e te)(hg:PG X tg g)(hs:swapsWithSole [tg] e pos.line X.env=pure false:=by rfl)(hw:swappedStores [tg] e X.env=pure none:=by rfl)
 (h1:(assignEach [tg] X.env).map (·.2)=[assign tg X.env]:=by rfl):PS X (.Assign [tg] e pos) (zg5 te g):=by
 intro pins s σ H D I h
 refine wpAny_Assign_stores (thn (he pins s σ H _ I h) fun v s1 ⟨x,H1,I1,r1,q1⟩=> ?_) hs hw
 rw[h1]
 exact thn (hg pins s1 σ H1 x v _ I1 r1 q1) fun _ s2 q=>q
theorem z2m{i:Nat}{x:Str}{e:Expr}{te:TE}{pos':Pos}(hN:X.N.Nodup)(hi:X.N[i]? =some x)(hx:Loc X.env.scope x)(he:PE X e te)(hs:swapsWith e (some (.Name x pos')) pos.line X.env=pure false:=by rfl)(hf:X.fn x=true\/X.env.scope.names.lookup x=some .local:=by first|exact .inl rfl|exact .inr rfl|assumption):
 PS X (.Assign [.Name x pos'] e pos) (zg5 te (z6Q i)):=by
 intro pins s σ H D I h
 refine wpAny_Assign_Name (thn (he pins s σ H _ I h) fun v s1 ⟨y,H1,I1,r1,q1⟩=> ?_) hs
 exact z2f I1 hN hi hx r1 (fun s2 I2=>⟨_,H1,I2,q1⟩) hf
noncomputable def ziB(i:Nat)(te:TE)(ti:TIp):TS:=fun D σ H=> ∃x,σ[i]? =some (some x)/\te σ H fun y H1=>ti x y H1 fun z H2=>D.nx (σ.set i (some z)) H2
theorem zdx{i:Nat}{x:Str}{e:Expr}{te:TE}{op:Operator}{ti:TIp}{pos':Pos}(hN:X.N.Nodup)(hi:X.N[i]? =some x)(hx:Loc X.env.scope x)(he:PE X e te)(ho:PIp X op ti)(hf:X.fn x=true\/X.env.scope.names.lookup x=some .local:=by first|exact .inl rfl|exact .inr rfl|assumption):
 PS X (.AugAssign (.Name x pos') op e pos) (ziB i te ti):=by
 intro pins s σ H D I h
 obtain⟨v,e1,h⟩:=h
 obtain⟨m,hn,hl⟩:=I.loc
 have vis:Vis X.env.scope x:=by rcases hx with k|k;exact .inl k;exact .inr (.inl k)
 obtain⟨u,r,l⟩:=hl i x v hi e1 vis
 refine wpAny_AugAssign_Name ?_
 have go:wpAny (model X.prog X.w) X.A (eval e X.env) (fun w s₂=>wpAny (model X.prog X.w) X.A (inplaceOp op u w) (fun r s₃=>wpAny (model X.prog X.w) X.A (storeName X.env x r) (fun _=>SP X pins D .next) X.xe s₃) X.xe s₂) X.xe s:=by
  refine thn (he pins s σ H _ I h) fun w s1 ⟨y,H1,I1,r1,q1⟩=> ?_
  refine thn (ho pins s1 σ H1 v y u w _ I1 r r1 q1) fun z s2 ⟨zv,H2,I2,r2,q2⟩=> ?_
  exact z2f I2 hN hi hx r2 (fun s3 I3=>⟨_,H2,I3,q2⟩) hf
 rcases l with⟨hk,hm⟩|⟨hk,c,hc,hcell⟩
 ·exact wpAny_loadName_local I.ok.kind hk hn hm go
 ·rcases hk with hk|hk
  ·exact wpAny_loadName_cell I.ok.kind hk hc hcell go
  ·rcases hx with k|k
   ·have:X.env.scope.names.lookup x=some .free:=hk
    rw[k] at this;cases this
   ·have:X.env.scope.names.lookup x=some .free:=hk
    rw[k] at this;cases this
noncomputable def ipI(f:Int->Int->Int):TIp:=fun x y H Q=> ∃i j,x= .int i/\y= .int j/\Q (.int (f i j)) H
theorem zdy:PIp X .Add (ipI fun i j=>i+j):=by
 intro pins s σ H x y v u Q I r1 r2 h
 obtain⟨i,j,e1,e2,q⟩:=h
 subst e1;subst e2
 obtain⟨t,rfl⟩:=r1
 obtain⟨t',rfl⟩:=r2
 exact iadd_int ⟨.int _,H,I.tok _,⟨_,rfl⟩,q⟩
end
structure It where
 go:Nat->Hp->Prop
 yld:Nat->Hp->V->Hp->Prop
 stop:Nat->Hp->Prop
noncomputable def z3m(X:Cx)(pins:List (Addr×Obj))(H:Hp)(b:Addr):Prop:=
 H b=none/\b≠X.env.locals/\b∉X.fs/\(b∈X.ex\/X.s₀.heap.objs.size<=b)/\(∀x c,X.env.cells.lookup x=some c->c≠b)/\∀p∈X.pn++pins,p.1≠b
theorem Inv.fpOk{X:Cx}{pins:List (Addr×Obj)}{σ:St}{H H':Hp}{s:Shared}{b:Addr}(I:Inv X pins σ H s)(hb:s.heap.objs.size<=b)(hn:H' b=none):z3m X pins H' b:=by
 refine⟨hn,O3 (n9 I.lt hb),I.nofs hb, .inr (C0 I.sz hb),fun x c e z=> ?_,fun p hp z=> ?_⟩
 ·obtain⟨v,q⟩:=I.cell x c e
  exact absurd (n9 q.lt (by rw[z];exact hb)) (B1 _)
 ·exact absurd (n9 (Heap.lt_size (I.pin p hp).1) (by rw[z];exact hb)) (B1 _)
structure zaO(P:Program)(w:World)(K:W.Frag)(tg:Expr)(J:It)(fp:List Addr)(it:Addr)(tn:Nat->Heap->Prop):Prop where
 mem:it∈fp
 obj: ∀i h,tn i h->∀b∈fp,∃o,h.get? b=some o/\∀v,o.data≠ .cell v
 keep: ∀i h h',tn i h->(∀b∈fp,∀o,h.get? b=some o->h'.get? b=some o)->tn i h'
 item: ∀(X:Cx),X.prog=P->X.w=w->X.K=K->X.calm=true->∀(i:Nat) (pins:List (Addr×Obj)) (s:Shared) (σ:St) (H:Hp) (E:Value->Shared->Prop),Inv X pins σ H s->(∀b∈fp,z3m X pins H b)->tn i s.heap->J.go i H->
  wpAny (model P w) X.A (pyNext (.ref it)) (fun r s1=> ∃u,r=some u/\
   wpAny (model P w) X.A (letOwnedTupleGo tg (.ref it) u) (fun _ s2=> ∃x H',Inv X pins σ H' s2/\RelV x u/\J.yld i H x H'/\tn (i+1) s2.heap/\∀b∈fp,H' b=none) E s1) E s
 done: ∀(X:Cx),X.prog=P->X.w=w->X.K=K->X.calm=true->∀(i:Nat) (pins:List (Addr×Obj)) (s:Shared) (σ:St) (H:Hp) (E:Value->Shared->Prop),Inv X pins σ H s->(∀b∈fp,z3m X pins H b)->tn i s.heap->J.stop i H->
  wpAny (model P w) X.A (pyNext (.ref it)) (fun r s1=>r=none/\Inv X pins σ H s1) E s
 self: ∀(A:Around) (i:Nat) (s:Shared) (Q:Value->Shared->Prop) (E:Value->Shared->Prop),tn i s.heap->Q (.ref it) s->wpAny (model P w) A (pyIter (.ref it)) Q E s
noncomputable abbrev TI:=St->Hp->(It->Hp->Prop)->Prop
noncomputable def PIE(X:Cx)(pins:List (Addr×Obj))(σ:St)(tg:Expr)(R:It->Hp->Prop)(itv:Value)(s2:Shared):Prop:=
 ∃(it:Addr) (fp:List Addr) (tn:Nat->Heap->Prop) (J:It) (H':Hp),itv= .ref it/\Inv X pins σ H' s2/\zaO X.prog X.w X.K tg J fp it tn/\tn 0 s2.heap/\(∀b∈fp,z3m X pins H' b)/\R J H'
noncomputable def PI(X:Cx)(tg iter:Expr)(wi:TI):Prop:=
 ∀(pins:List (Addr×Obj)) (s:Shared) (σ:St) (H:Hp) (R:It->Hp->Prop),Inv X pins σ H s->wi σ H R->
  wpAny (model X.prog X.w) X.A (eval iter X.env) (fun v s1=>wpAny (model X.prog X.w) X.A (pyIter v) (PIE X pins σ tg R) X.xe s1) X.xe s
theorem z9E{M:Model}{A:Around}{E:Value->Shared->Prop}{s:Shared}{tg:Expr}{it:Addr}{u:Value}{o:Obj}{n:String}{vs:Array Value}{Q:Unit->Shared->Prop}(ho:s.heap.get? it=some o)(hc:o.cls= .type n)(hd:o.data= .fields vs)
 (hn:["enumerate", "zip", "dict_itemiterator", "dict_reverseitemiterator", "odict_iterator", "itertools.zip_longest", "itertools.pairwise"].contains n=false) (hQ:Q () s):wpAny M A (letOwnedTupleGo tg (.ref it) u) Q E s:=by
 unfold letOwnedTupleGo
 cases tg<;>first
  |exact wpAny_pure hQ
  |(cases u<;>first
   |exact wpAny_pure hQ
   |(refine wpAny_bind (wpAny_load ho ?_)
     rw[hc,hd]
     show wpAny M A (if(["enumerate", "zip", "dict_itemiterator", "dict_reverseitemiterator", "odict_iterator", "itertools.zip_longest", "itertools.pairwise"].contains n&&vs[0]? ==some (rawInt _))=true then _ else _) Q E s
     rw[if_neg (by intro h;rw[hn,E7] at h;cases h)]
     exact wpAny_pure hQ))
noncomputable def Itl(K:W.Frag)(a:Addr):It:=
 ⟨fun i H=> ∃xs x,SqL K H a xs/\xs[i]? =some x,fun i H x H'=>H'=H/\∀xs,SqL K H a xs->xs[i]? =some x,fun i H=> ∃xs,SqL K H a xs/\xs.length<=i⟩
noncomputable def Itt(K:W.Frag)(a:Addr):It:=
 ⟨fun i H=> ∃xs x,SqT K H a xs/\xs[i]? =some x,fun i H x H'=>H'=H/\∀xs,SqT K H a xs->xs[i]? =some x,fun i H=> ∃xs,SqT K H a xs/\xs.length<=i⟩
noncomputable def Itr(lo:Int)(n:Nat):It:=⟨fun i _=>i<n,fun i H x H'=>H'=H/\x= .int (lo+i),fun i _=>n<=i⟩
theorem z7E{P:Program}{w:World}{K:W.Frag}{tg:Expr}(a it:Addr):zaO P w K tg (Itl K a) [it] it (fun i h=>h.IsListIter it a i) where
 mem:=by simp
 obj:=fun i h st b hb=>by
  have e:b=it:=by simpa using hb
  subst e
  obtain⟨o,e,c,d⟩:=st
  exact⟨o,e,fun v z=>by rw[d] at z;cases z⟩
 keep:=fun i h h' st k=>st.at fun o e=>k it (by simp) o e
 item:=by
  intro X hP hw hK hc i pins s σ H E I hf st hg
  subst hP hw hK
  obtain⟨xs,x,hq,hx⟩:=hg
  obtain⟨its,rv,p,hz⟩:=I.list hq
  obtain⟨u,hu,ru⟩:=rv.get hx
  obtain⟨f0,f1,f2,f3,f4,f5⟩:=hf it (by simp)
  refine wpAny_pyNext_list_item st p.isList (x:=u) (by simpa using hu) fun h' st' sb=> ?_
  have I1:Inv X pins σ H {s with heap:=h'}:=I.turned (t':=s.toks) (fun b o hb e=>(sb.2 b hb).trans e) f0 f1 f3 f4 f5
  obtain⟨o,e,c,d⟩:=id st'
  exact⟨u,rfl,z9E (s:={s with heap:=h'}) e c d (by decide) ⟨x,H,I1,ru,⟨rfl,fun ys hy=>by rw[I.list_inj hy hq];exact hx⟩,st',fun b hb=>(hf b hb).1⟩⟩
 done:=by
  intro X hP hw hK hc i pins s σ H E I hf st hg
  subst hP hw hK
  obtain⟨xs,hq,hx⟩:=hg
  obtain⟨its,rv,p,hz⟩:=I.list hq
  obtain⟨f0,f1,f2,f3,f4,f5⟩:=hf it (by simp)
  have hl:=rv.length
  exact wpAny_pyNext_list_end (I.ok.hd hc) st p.isList (by simp;lia) fun h' eb=>⟨rfl,I.turned (t':=s.toks) (fun b o hb e=>eb b o hb e) f0 f1 f3 f4 f5⟩
 self:=fun _ _ _ _ _ st h=>wpAny_pyIter_listiter st h
theorem z6S{P:Program}{w:World}{K:W.Frag}{tg:Expr}(a it:Addr):zaO P w K tg (Itt K a) [it] it (fun i h=>h.IsTupleIter it a i) where
 mem:=by simp
 obj:=fun i h st b hb=>by
  have e:b=it:=by simpa using hb
  subst e
  obtain⟨o,e,c,d⟩:=st
  exact⟨o,e,fun v z=>by rw[d] at z;cases z⟩
 keep:=fun i h h' st k=>st.at fun o e=>k it (by simp) o e
 item:=by
  intro X hP hw hK hc i pins s σ H E I hf st hg
  subst hP hw hK
  obtain⟨xs,x,hq,hx⟩:=hg
  obtain⟨its,rv,p,hz⟩:=I.tuple hq
  obtain⟨u,hu,ru⟩:=rv.get hx
  obtain⟨f0,f1,f2,f3,f4,f5⟩:=hf it (by simp)
  refine wpAny_pyNext_tuple_item st (show s.heap.IsTuple a its.toArray from p) (x:=u) (by simpa using hu) fun h' st' sb=> ?_
  have I1:Inv X pins σ H {s with heap:=h'}:=I.turned (t':=s.toks) (fun b o hb e=>(sb.2 b hb).trans e) f0 f1 f3 f4 f5
  obtain⟨o,e,c,d⟩:=id st'
  exact⟨u,rfl,z9E (s:={s with heap:=h'}) e c d (by decide) ⟨x,H,I1,ru,⟨rfl,fun ys hy=>by rw[I.tuple_inj hy hq];exact hx⟩,st',fun b hb=>(hf b hb).1⟩⟩
 done:=by
  intro X hP hw hK hc i pins s σ H E I hf st hg
  subst hP hw hK
  obtain⟨xs,hq,hx⟩:=hg
  obtain⟨its,rv,p,hz⟩:=I.tuple hq
  obtain⟨f0,f1,f2,f3,f4,f5⟩:=hf it (by simp)
  have hl:=rv.length
  exact wpAny_pyNext_tuple_end (I.ok.hd hc) st (show s.heap.IsTuple a its.toArray from p) (by simp;lia) fun h' eb=>⟨rfl,I.turned (t':=s.toks) (fun b o hb e=>eb b o hb e) f0 f1 f3 f4 f5⟩
 self:=fun _ _ _ _ _ st h=>wpAny_pyIter_tupleiter st h
theorem z6T{P:Program}{w:World}{K:W.Frag}{tg:Expr}(it:Addr)(lo:Int)(n:Nat):zaO P w K tg (Itr lo n) [it] it (fun i h=>IsRangeIter h it (lo+(i:Nat)*1) ((n:Int) -(i:Nat)) 1) where
 mem:=by simp
 obj:=fun i h st b hb=>by
  have e:b=it:=by simpa using hb
  subst e
  exact⟨_,st,fun v z=>by
   have z':Data.fields _=Data.cell v:=z
   cases z'⟩
 keep:=fun i h h' st k=>k it (by simp) _ st
 item:=by
  intro X hP hw hK hc i pins s σ H E I hf st hg
  subst hP hw hK
  obtain⟨f0,f1,f2,f3,f4,f5⟩:=hf it (by simp)
  have W:=Walks.range (prog:=X.prog) (w:=X.w) (I.ok.hd hc) it lo 1 n
  refine W.item i s _ _ hg st fun v h' tk hv st' kk=> ?_
  obtain⟨t,rfl⟩:=hv
  have I1:Inv X pins σ H {s with heap:=h',toks:=tk}:=I.turned (fun b o hb e=>kk b o (by simpa using hb) e) f0 f1 f3 f4 f5
  refine⟨_,rfl,z9E (s:={s with heap:=h',toks:=tk}) (n:= "range_iterator") st' rfl rfl (by decide) ⟨.int (lo+i),H,I1,⟨t, ?_⟩,⟨rfl,rfl⟩,st',fun b hb=>(hf b hb).1⟩⟩
  rw[Int.mul_one]
 done:=by
  intro X hP hw hK hc i pins s σ H E I hf st hg
  subst hP hw hK
  obtain⟨f0,f1,f2,f3,f4,f5⟩:=hf it (by simp)
  exact wpAny_pyNext_range_end (I.ok.hd hc) st (by have:n<=i:=hg;lia) fun h' eb=>⟨rfl,I.turned (t':=s.toks) (fun b o hb e=>eb b o hb e) f0 f1 f3 f4 f5⟩
 self:=fun _ _ _ _ _ st h=>wpAny_pyIter_rangeiter st h
section
variable{X:Cx}{tg:Expr}
theorem z9F{pins:List (Addr×Obj)}{σ:St}{H:Hp}{s:Shared}{R:It->Hp->Prop}{E:Value->Shared->Prop}{lo hi:Int}{t u v:Tok}{tk:Nat}(I:Inv X pins σ H s)(h1: -(2^62)<=lo)(h2:lo<2^62)(h3: -(2^62)<=hi)(h4:hi<2^62)
 (q:R (Itr lo (hi -lo).toNat) H):wpAny (model X.prog X.w) X.A (pyIter (.ref s.heap.objs.size)) (PIE X pins σ tg R) E {s with heap:=s.heap.push {cls:= .type "range",data:= .fields #[.int lo t, .int hi u, .int 1 v]},toks:=tk}:=by
 refine wpAny_pyIter_range (IsRange.new ..) (small_one h1 h2 h3 h4) ?_
 have I1:Inv X pins σ H {s with heap:=s.heap.push {cls:= .type "range",data:= .fields #[.int lo t, .int hi u, .int 1 v]},toks:=tk}:=I.kept fun b o e=>Heap.get?_push_of_some _ e
 refine⟨(s.heap.push {cls:= .type "range",data:= .fields #[.int lo t, .int hi u, .int 1 v]}).objs.size,[(s.heap.push {cls:= .type "range",data:= .fields #[.int lo t, .int hi u, .int 1 v]}).objs.size],_,_,H,rfl,
  I1.kept (t':=tk) fun b o e=>Heap.get?_push_of_some _ e,z6T _ lo (hi -lo).toNat, ?_,fun b hb=> ?_,q⟩
 ·have e1:lo+((0:Nat):Int)*1=lo:=by simp
  have e2:(((hi -lo).toNat:Nat):Int) -((0:Nat):Int)=Builtin.Range.rangeSize lo hi 1:=by rw[rangeSize_one];split<;>lia
  show IsRangeIter _ _ (lo+((0:Nat):Int)*1) ((((hi -lo).toNat:Nat):Int) -((0:Nat):Int)) 1
  rw[e1,e2]
  exact Heap.get?_push_size _ rfl
 ·have e:b=(s.heap.push {cls:= .type "range",data:= .fields #[.int lo t, .int hi u, .int 1 v]}).objs.size:=by simpa using hb
  subst e
  exact I1.fpOk (i4 _) (I1.hok.fresh (i4 _))
noncomputable def zgr(ta:TA):TI:=fun σ H R=>ta σ H fun vs H1=> ∃j:Int,vs=[.int j]/\-(2^62)<=j/\j<2^62/\R (Itr 0 j.toNat) H1
theorem z7F{a:Expr}{ta:TA}{p pos:Pos}(hg:Gl X "range")(hm:X.mg "range" =none)(ha:PA X [a] ta)(hs:starEach [a] X.env=[(false,eval a X.env)]:=by rfl):PI X tg (.Call (.Name "range" p) [a] [] pos) (zgr ta):=by
 intro pins s σ H R I h
 refine Call_ (z3l I hg hm boot_range (PyProof.Rows.callWith_type1 (thn (ha pos pins s σ H _ I h) fun us s1 ⟨vs,H1,I1,r1,q1⟩=> ?_) hs rfl))
 obtain⟨j,e,q1,q2,q⟩:=q1
 subst e
 cases r1 with
 |cons r rr=>
  cases rr
  obtain⟨t,rfl⟩:=r
  exact call_range_1 (z9F I1 (by lia) (by lia) q1 q2 (by simpa using q))
noncomputable def ziC(wi:TI)(g:TG)(tb:TS):TS:=fun D σ H=>wi σ H fun J H1=> ∃W:Nat->Nat->St->Hp->Prop,(∃m,W 0 m σ H1)/\∀i m σ H,W i m σ H->
 (J.stop i H/\D.nx σ H)\/(J.go i H/\∃N:St->Hp->Prop,(∀σ' H',N σ' H'->∃m',m'<m/\W (i+1) m' σ' H')/\∀x H',J.yld i H x H'->g x σ H' fun σ2 H2=>tb {D with nx:=N,ct:=N,bk:=D.nx} σ2 H2)
noncomputable def z6a(fp:List Addr)(h:Heap):List (Addr×Obj):=fp.filterMap fun b=>(h.get? b).map fun o=>(b,o)
theorem W6{fp:List Addr}{h:Heap}{b:Addr}{o:Obj}(hb:b∈fp)(e:h.get? b=some o):(b,o)∈z6a fp h:=R8.mpr ⟨b,hb,by rw[e];rfl⟩
theorem z7G{fp:List Addr}{h:Heap}{p:Addr×Obj}(hp:p∈z6a fp h):p.1∈fp/\h.get? p.1=some p.2:=by
 obtain⟨b,hb,e⟩:=R8.mp hp
 cases q:h.get? b with
 |none=>rw[q] at e;cases e
 |some o=>
  rw[q] at e
  have e':(b,o)=p:=Option.some.inj e
  subst e'
  exact⟨hb,q⟩
theorem Inv.pinned{pins:List (Addr×Obj)}{σ:St}{H:Hp}{s:Shared}{fp:List Addr}(I:Inv X pins σ H s)(hf: ∀b∈fp,z3m X pins H b)(ho: ∀b∈fp,∃o,s.heap.get? b=some o/\∀v,o.data≠ .cell v):Inv X (pins++z6a fp s.heap) σ H s:=
 I.pins_of fun p hp=>(i3.mp hp).elim (fun z=>I.pin p (c9 _ z)) fun z=>by
  obtain⟨hb,e⟩:=z7G z
  obtain⟨f0,f1,f2,_⟩:=hf p.1 hb
  obtain⟨o,e',d⟩:=ho p.1 hb
  rw[e] at e';cases e'
  exact⟨e,f0,f1,f2,d⟩
theorem Inv.unpinned{pins pl:List (Addr×Obj)}{σ:St}{H:Hp}{s:Shared}(I:Inv X (pins++pl) σ H s):Inv X pins σ H s:=I.pins_of fun p hp=>I.pin p (c9 _ (i5 _ hp))
theorem zdz{iter:Expr}{body:List Stmt}{wi:TI}{g:TG}{tb:TS}{pos:Pos}(hp:PassesOwn (model X.prog X.w) X.A X.env X.xe)(hc:X.calm=true)(hi:PI X tg iter wi)(hg:PG X tg g)(hb:PSs X body tb)
 (hs: ∀x,foldedSetIterable iter X.env x=pure x:=by intro _;rfl):PS X (.For tg iter body [] pos) (ziC wi g tb):=by
 intro pins s σ H D I h
 refine wpAny_For (thn (hi pins s σ H _ I h) fun v s1 h1=>thn h1 fun itv s2 h2=> ?_) hs
 obtain⟨it,fp,tn,J,H2,e,I2,T,st2,f2,W,⟨m0,w0⟩,turn⟩:=h2
 subst e
 have stat: ∀{H':Hp},(∀b∈fp,H' b=none)->∀b∈fp,z3m X pins H' b:=fun hn b hb=>⟨hn b hb,(f2 b hb).2⟩
 refine codeAny_forLoop_any (fun n s'=> ∃i σ' H',Inv X pins σ' H' s'/\tn i s'.heap/\(∀b∈fp,H' b=none)/\W i n σ' H') ?_ m0 ⟨0,σ,H2,I2,st2,fun b hb=>(f2 b hb).1,w0⟩
 rintro n s3 ⟨i,σ3,H3,I3,st3,fr3,w3⟩
 rcases turn i n σ3 H3 w3 with⟨stop,qn⟩|⟨go,N,hN,step⟩
 ·refine wpAny_passesOwn hp (thn (T.done X rfl rfl rfl hc i pins s3 σ3 H3 X.xe I3 (stat fr3) st3 stop) fun r s4 ⟨hr,I4⟩=> ?_)
  subst hr
  exact wpAny_execs_nil ⟨σ3,H3,I4,qn⟩
 ·refine wpAny_passesOwn hp (thn (T.item X rfl rfl rfl hc i pins s3 σ3 H3 X.xe I3 (stat fr3) st3 go) fun r s4 ⟨u,hr,h4⟩=> ?_)
  subst hr
  refine wpAny_passesOwn hp (thn h4 fun _ s5 ⟨x,H5,I5,r5,y5,st5,fr5⟩=> ?_)
  have I5':=I5.pinned (stat fr5) (T.obj _ _ st5)
  refine wpAny_passesOwn hp (thn (hg _ s5 σ3 H5 x u _ I5' r5 (step x H5 y5)) fun _ s6 ⟨σ6,H6,I6,q6⟩=> ?_)
  refine wpAny_passesOwn hp (thn (hb _ s6 σ6 H6 _ I6 q6) fun f s7 q7=> ?_)
  have again: ∀{σ7:St} {H7:Hp},Inv X (pins++z6a fp s5.heap) σ7 H7 s7->N σ7 H7->∃m,m<n/\∃i σ' H',Inv X pins σ' H' s7/\tn i s7.heap/\(∀b∈fp,H' b=none)/\W i m σ' H':=fun{σ7 H7} I7 n7=>by
   obtain⟨m',hm,w7⟩:=hN σ7 H7 n7
   refine⟨m',hm,i+1,σ7,H7,I7.unpinned,T.keep _ _ _ st5 fun b hb o e=>(I7.pin (b,o) (c9 _ (c9 _ (W6 hb e)))).1,fun b hb=> ?_,w7⟩
   obtain⟨o,e,d⟩:=T.obj _ _ st5 b hb
   exact(I7.pin (b,o) (c9 _ (c9 _ (W6 hb e)))).2.1
  cases f with
  |next=>obtain⟨σ7,H7,I7,n7⟩:=q7;exact again I7 n7
  |cont=>obtain⟨σ7,H7,I7,n7⟩:=q7;exact again I7 n7
  |brk=>obtain⟨σ7,H7,I7,q7⟩:=q7;exact⟨σ7,H7,I7.unpinned,q7⟩
  |ret v=>obtain⟨x7,σ7,H7,I7,r7,q7⟩:=q7;exact⟨x7,σ7,H7,I7.unpinned,r7,q7⟩
end
noncomputable abbrev R2:=V->V->Hp->VK->Prop
noncomputable def OpR(X:Cx)(f:Value->Value->Sem Value)(r:R2):Prop:=
 ∀(pins:List (Addr×Obj)) (s:Shared) (σ:St) (H:Hp) (x y:V) (v u:Value) (Q:VK),Inv X pins σ H s->RelV x v->RelV y u->r x y H Q->
  wpAny (model X.prog X.w) X.A (f v u) (EP X pins σ Q) X.xe s
noncomputable def UnR(X:Cx)(f:Value->Sem Value)(r:V->Hp->VK->Prop):Prop:=
 ∀(pins:List (Addr×Obj)) (s:Shared) (σ:St) (H:Hp) (x:V) (v:Value) (Q:VK),Inv X pins σ H s->RelV x v->r x H Q->
  wpAny (model X.prog X.w) X.A (f v) (EP X pins σ Q) X.xe s
noncomputable def CallR(X:Cx)(f:Value)(r:List V->Hp->VK->Prop):Prop:=
 ∀(pins:List (Addr×Obj)) (s:Shared) (σ:St) (H:Hp) (xs:List V) (us:List Value) (Q:VK),Inv X pins σ H s->J0 xs us->r xs H Q->
  wpAny (model X.prog X.w) X.A (call f us) (EP X pins σ Q) X.xe s
noncomputable def ziD(X:Cx)(r:V->Hp->(Bool->Hp->Prop)->Prop):Prop:=
 ∀(pins:List (Addr×Obj)) (s:Shared) (σ:St) (H:Hp) (x:V) (v:Value) (Q:Bool->Hp->Prop),Inv X pins σ H s->RelV x v->r x H Q->
  wpAny (model X.prog X.w) X.A (truthy v) (TP X pins σ Q) X.xe s
noncomputable def tOp(r:R2)(ta tb:TE):TE:=fun σ H Q=>ta σ H fun x H1=>tb σ H1 fun y H2=>r x y H2 Q
noncomputable def tUn(r:V->Hp->VK->Prop)(ta:TE):TE:=fun σ H Q=>ta σ H fun x H1=>r x H1 Q
noncomputable def rI(C:Int->Int->Prop)(g:Int->Int->V):R2:=fun x y H Q=> ∃i j,x= .int i/\y= .int j/\C i j/\Q (g i j) H
noncomputable def rI0(g:Int->Int->V):R2:=fun x y H Q=> ∃i j,x= .int i/\y= .int j/\Q (g i j) H
noncomputable def rU(g:Int->V):V->Hp->VK->Prop:=fun x H Q=> ∃i,x= .int i/\Q (g i) H
section
variable{X:Cx}{a b c:Expr}{ta tb tc:TE}{pos:Pos}
theorem zgs(ha:PE X a ta)(hb:PE X b tb){pins:List (Addr×Obj)}{s:Shared}{σ:St}{H:Hp}{R:V->V->Hp->Prop}(I:Inv X pins σ H s)
 (h:ta σ H fun x H1=>tb σ H1 fun y H2=>R x y H2) {Q:Value->Shared->Prop} {f:Value->Value->Sem Value}
 (hf: ∀v u s2 x y H2,Inv X pins σ H2 s2->RelV x v->RelV y u->R x y H2->wpAny (model X.prog X.w) X.A (f v u) Q X.xe s2):
 wpAny (model X.prog X.w) X.A (eval a X.env) (fun v s₁=>wpAny (model X.prog X.w) X.A (eval b X.env) (fun u s₂=>wpAny (model X.prog X.w) X.A (f v u) Q X.xe s₂) X.xe s₁) X.xe s:=by
 refine thn (ha pins s σ H _ I h) fun v s1 ⟨x,H1,I1,r1,q1⟩=> ?_
 refine thn (hb pins s1 σ H1 _ I1 q1) fun u s2 ⟨y,H2,I2,r2,q2⟩=> ?_
 exact hf v u s2 x y H2 I2 r1 r2 q2
theorem zgt{op:Operator}{r:R2}(ho:OpR X (binaryOp op) r)(ha:PE X a ta)(hb:PE X b tb):PE X (.BinOp a op b pos) (tOp r ta tb):=by
 intro pins s σ H Q I h
 exact wpAny_BinOp (zgs ha hb I h fun v u s2 x y H2 I2 rx ry q=>ho pins s2 σ H2 x y v u Q I2 rx ry q)
theorem zgu{op:UnaryOp}{r:V->Hp->VK->Prop}(ho:UnR X (unaryOp op) r)(ha:PE X a ta):PE X (.UnaryOp op a pos) (tUn r ta):=by
 intro pins s σ H Q I h
 exact UnaryOp_ (thn (ha pins s σ H _ I h) fun v s1 ⟨x,H1,I1,r1,q1⟩=>ho pins s1 σ H1 x v Q I1 r1 q1)
theorem opI{f:Value->Value->Sem Value}{C:Int->Int->Prop}{g:Int->Int->Int}
 (rule: ∀(i j:Int) (t u:Tok) (s:Shared) (Q:Value->Shared->Prop) (E:Value->Shared->Prop),C i j->Q (.int (g i j) s.toks) {s with toks:=s.toks+1}->wpAny (model X.prog X.w) X.A (f (.int i t) (.int j u)) Q E s):
 OpR X f (rI C fun i j=> .int (g i j)):=by
 intro pins s σ H x y v u Q I rx ry h
 obtain⟨i,j,rfl,rfl,hc,q⟩:=h
 obtain⟨t,rfl⟩:=rx
 obtain⟨t',rfl⟩:=ry
 exact rule i j t t' s _ _ hc ⟨.int (g i j),H,I.tok _,⟨_,rfl⟩,q⟩
theorem zib{f:Value->Value->Sem Value}{g:Int->Int->Int}
 (rule: ∀(i j:Int) (t u:Tok) (s:Shared) (Q:Value->Shared->Prop) (E:Value->Shared->Prop),Q (.int (g i j) s.toks) {s with toks:=s.toks+1}->wpAny (model X.prog X.w) X.A (f (.int i t) (.int j u)) Q E s):
 OpR X f (rI0 fun i j=> .int (g i j)):=by
 intro pins s σ H x y v u Q I rx ry h
 obtain⟨i,j,rfl,rfl,q⟩:=h
 obtain⟨t,rfl⟩:=rx
 obtain⟨t',rfl⟩:=ry
 exact rule i j t t' s _ _ ⟨.int (g i j),H,I.tok _,⟨_,rfl⟩,q⟩
theorem zg6{f:Value->Value->Sem Value}{g:Int->Int->Bool}
 (rule: ∀(i j:Int) (t u:Tok) (s:Shared) (Q:Value->Shared->Prop) (E:Value->Shared->Prop),Q (.bool (g i j)) s->wpAny (model X.prog X.w) X.A (f (.int i t) (.int j u)) Q E s):
 OpR X f (rI0 fun i j=> .bl (g i j)):=by
 intro pins s σ H x y v u Q I rx ry h
 obtain⟨i,j,rfl,rfl,q⟩:=h
 obtain⟨t,rfl⟩:=rx
 obtain⟨t',rfl⟩:=ry
 exact rule i j t t' s _ _ ⟨.bl (g i j),H,I,rfl,q⟩
noncomputable def zd7(i j:Int):Prop:=0<j/\j<2^200
theorem zgv{x j:Int}(h1:0<j)(h2:j<2^200):Builtin.divisionGoesByPylong x j=false:=by
 refine PyProof.noPylong_of_log2 ?_
 have h3:j.natAbs.log2<200:=(Nat.log2_lt (by lia)).mpr (by lia)
 lia
noncomputable def zd8(i j:Int):Prop:=0<=j/\j<=1000000/\i.natAbs<2^64
noncomputable def z9u(i j:Int):Prop:=(-(2^64)<i/\i<2^64)\/(-(2^64)<j/\j<2^64)
theorem z9u.ok{i j:Int}(h:z9u i j):IntMulOk i j:=by
 rcases h with⟨h1,h2⟩|⟨h1,h2⟩
 ·exact .of_left (intBits_le_64 h1 h2)
 ·exact .of_right (intBits_le_64 h1 h2)
theorem zaP:OpR X (binaryOp .Add) (rI0 fun i j=> .int (i+j)):=zib fun _ _ _ _ _ _ _ q=>add_int q
theorem zdA:OpR X (binaryOp .Sub) (rI0 fun i j=> .int (i -j)):=zib fun _ _ _ _ _ _ _ q=>sub_int q
theorem zdB:OpR X (binaryOp .Mult) (rI z9u fun i j=> .int (i*j)):=opI fun _ _ _ _ _ _ _ hc q=>mul_int q hc.ok
theorem zbI:OpR X (binaryOp .FloorDiv) (rI zd7 fun i j=> .int (i/j)):=opI fun i j _ _ _ _ _ hc q=>by
 have h1:(0:Int)<j:=hc.1
 have h2:j<2^200:=hc.2
 exact floordiv_int (by lia) (by rw[Int.fdiv_eq_ediv_of_nonneg i (by lia)];exact q) (.inl (zgv h1 h2))
theorem zdC:OpR X (binaryOp .Mod) (rI (fun _ j=>0<j) fun i j=> .int (i %j)):=opI fun i j _ _ _ _ _ hc q=>by
 have h1:(0:Int)<j:=hc
 exact mod_int' (by lia) (by rw[Int.fmod_eq_emod_of_nonneg i (by lia)];exact q)
theorem zdD:OpR X (binaryOp .Pow) (rI zd8 fun i j=> .int (i^j.toNat)):=opI fun _ _ _ _ _ _ _ hc q=>pow_int_small hc.1 hc.2.1 hc.2.2 q
theorem unI{f:Value->Sem Value}{g:Int->Int}
 (rule: ∀(i:Int) (t:Tok) (s:Shared) (Q:Value->Shared->Prop) (E:Value->Shared->Prop),Q (.int (g i) s.toks) {s with toks:=s.toks+1}->wpAny (model X.prog X.w) X.A (f (.int i t)) Q E s):
 UnR X f (rU fun i=> .int (g i)):=by
 intro pins s σ H x v Q I rx h
 obtain⟨i,rfl,q⟩:=h
 obtain⟨t,rfl⟩:=rx
 exact rule i t s _ _ ⟨.int (g i),H,I.tok _,⟨_,rfl⟩,q⟩
theorem zdE:UnR X (unaryOp .USub) (rU fun i=> .int (-i)):=unI fun _ _ _ _ _ q=>neg_int q
theorem zgw:OpR X (compareOp .Lt) (rI0 fun i j=> .bl (decide (i<j))):=zg6 fun _ _ _ _ _ _ _ q=>lt_int q
theorem zgx:OpR X (compareOp .LtE) (rI0 fun i j=> .bl (decide (i<=j))):=zg6 fun _ _ _ _ _ _ _ q=>le_int q
theorem zgy:OpR X (compareOp .Gt) (rI0 fun i j=> .bl (decide (j<i))):=zg6 fun _ _ _ _ _ _ _ q=>gt_int q
theorem zgz:OpR X (compareOp .GtE) (rI0 fun i j=> .bl (decide (j<=i))):=zg6 fun _ _ _ _ _ _ _ q=>ge_int q
theorem OpR.or{f:Value->Value->Sem Value}{r r':R2}(h:OpR X f r)(h':OpR X f r'):OpR X f (fun x y H Q=>r x y H Q\/r' x y H Q):=by
 intro pins s σ H x y v u Q I rx ry q
 rcases q with q|q
 ·exact h pins s σ H x y v u Q I rx ry q
 ·exact h' pins s σ H x y v u Q I rx ry q
theorem W7(b:Expr){op:CmpOp}(h:op≠ .In:=by decide)(h2:op≠ .NotIn:=by decide):behindInMarks op b=false:=by
 have e1:(op==CmpOp.In)=false:=by cases op<;>first|rfl|exact absurd rfl h
 have e2:(op==CmpOp.NotIn)=false:=by cases op<;>first|rfl|exact absurd rfl h2
 cases b<;>simp[behindInMarks,e1,e2]
theorem zbJ{op:CmpOp}{r:R2}(ho:OpR X (compareOp op) r)(ha:PE X a ta)(hb:PE X b tb)(hm:behindInMarks op b=false):PE X (.Compare a [op] [b] pos) (tOp r ta tb):=by
 intro pins s σ H Q I h
 exact wpAny_Compare1 (zgs ha hb I h fun v u s2 x y H2 I2 rx ry q=>ho pins s2 σ H2 x y v u Q I2 rx ry q) hm
noncomputable def zgA(t:TE):TT:=fun σ H Q=>t σ H fun x H'=> ∃k,x= .bl k/\Q k H'
theorem zbK{op:CmpOp}{r:R2}(ho:OpR X (compareOp op) r)(ha:PE X a ta)(hb:PE X b tb)(hm:behindInMarks op b=false):PT X (.Compare a [op] [b] pos) (zgA (tOp r ta tb)):=by
 intro pins s σ H Q I h
 refine wpAny_isTrue_Compare1 (thn (ha pins s σ H _ I h) fun v s1 ⟨x,H1,I1,r1,q1⟩=>thn (hb pins s1 σ H1 _ I1 q1) fun u s2 ⟨y,H2,I2,r2,q2⟩=>
  thn (ho pins s2 σ H2 x y v u _ I2 r1 r2 q2) fun c s3 ⟨z,H3,I3,r3,k,e,q3⟩=> ?_) hm
 subst e
 cases r3
 exact wpAny_truthy_bool ⟨H3,I3,q3⟩
noncomputable def zaQ(r r':R2)(ta tb tc:TE):TE:=fun σ H Q=>ta σ H fun x H1=>tb σ H1 fun y H2=>r x y H2 fun z H3=> ∃k,z= .bl k/\
 (if k=true then tc σ H3 fun w' H4=>r' y w' H4 Q else Q (.bl false) H3)
theorem z9G{op op':CmpOp}{r r':R2}(ho:OpR X (compareOp op) r)(ho':OpR X (compareOp op') r')(ha:PE X a ta)(hb:PE X b tb)(hc:PE X c tc)
 (hm:lastMarks [op,op'] [b,c]=false:=by with_unfolding_all rfl):PE X (.Compare a [op,op'] [b,c] pos) (zaQ r r' ta tb tc):=by
 intro pins s σ H Q I h
 refine Compare_chain (thn (ha pins s σ H _ I h) fun v s1 ⟨x,H1,I1,r1,q1⟩=>chain_link (thn (hb pins s1 σ H1 _ I1 q1) fun u s2 ⟨y,H2,I2,r2,q2⟩=>
  thn (ho pins s2 σ H2 x y v u _ I2 r1 r2 q2) fun d s3 ⟨z,H3,I3,r3,k,e,q3⟩=> ?_)) hm
 subst e
 cases r3
 refine wpAny_truthy_bool ?_
 cases k with
 |false=>exact ite_ff ⟨.bl false,H3,I3,rfl,q3⟩
 |true=>exact ite_tt (chain_last (thn (hc pins s3 σ H3 _ I3 q3) fun w' s4 ⟨z',H4,I4,r4,q4⟩=>ho' pins s4 σ H4 y z' u w' Q I4 r2 r4 q4))
noncomputable def TruV(K:W.Frag)(x:V)(H:Hp)(k:Bool):Prop:=
 match x with
 | .non=>k=false
 | .bl b=>k=b
 | .int i=>k=(i !=0)
 | .str y=>y.length<=sizeLine/\k=((y.length:Int) !=0)
 | .byt y=>y.size<=sizeLine/\k=((y.size:Int) !=0)
 | .ref p=>(∃xs,SqL K H p xs/\k= !xs.isEmpty)\/(∃xs,SqT K H p xs/\k= !xs.isEmpty)\/∃kvs,H p=some (.dK kvs)/\k= !kvs.isEmpty
 |_=>False
theorem z6U{κ:Type}{kvs:List (κ×V)}{vs:List (κ×Value)}(r:KV kvs vs):(!vs.isEmpty)= !kvs.isEmpty:=by
 cases r<;>rfl
theorem z3n{xs:List V}{its:List Value}(r:J0 xs its):(!its.toArray.isEmpty)= !xs.isEmpty:=by
 cases r<;>simp
theorem z4E:(sizeLine:Nat)<2^63:=by rw[sizeLine_eq];decide
theorem zdF:ziD X (fun x H Q=> ∃k,TruV X.K x H k/\Q k H):=by
 intro pins s σ H x v Q I rx h
 obtain⟨k,e,q⟩:=h
 have hl:=z4E
 have hs:sizeLine=16777216:=sizeLine_eq
 cases x with
 |non=>
  cases rx
  have e':k=false:=e
  subst e'
  exact truthy_none ⟨H,I,q⟩
 |bl b=>
  cases rx
  have e':k=b:=e
  subst e'
  exact wpAny_truthy_bool ⟨H,I,q⟩
 |int i=>
  obtain⟨t,rfl⟩:=rx
  have e':k=(i !=0):=e
  subst e'
  exact PySem.P.truthy_int ⟨H,I,q⟩
 |str y=>
  obtain⟨t,rfl⟩:=rx
  obtain⟨hy,e'⟩:y.length<=sizeLine/\k=((y.length:Int) !=0):=e
  subst e'
  exact PySem.P.truthy_str (by lia) ⟨H,I.tok _,q⟩
 |byt y=>
  obtain⟨t,rfl⟩:=rx
  obtain⟨hy,e'⟩:y.size<=sizeLine/\k=((y.size:Int) !=0):=e
  subst e'
  exact W.truthy_bytes (by lia) ⟨H,I.tok _,q⟩
 |ref p=>
  cases rx
  have e':(∃xs,SqL X.K H p xs/\k= !xs.isEmpty)\/(∃xs,SqT X.K H p xs/\k= !xs.isEmpty)\/∃kvs,H p=some (.dK kvs)/\k= !kvs.isEmpty:=e
  rcases e' with⟨xs,hx,e'⟩|⟨xs,hx,e'⟩|⟨kvs,hx,e'⟩
  ·subst e'
   obtain⟨its,r,pl,hz⟩:=I.list hx
   have hlen:=r.length
   exact wpAny_truthy_list pl.isList (by erw[l7];lia) ⟨H,I.tok _,by rw[z3n r];exact q⟩
  ·subst e'
   obtain⟨its,r,pl,hz⟩:=I.tuple hx
   have hlen:=r.length
   exact truthy_tuple pl (by erw[l7];lia) ⟨H,I.tok _,by rw[z3n r];exact q⟩
  ·subst e'
   obtain⟨hz,hS,vs,r,m⟩:kvs.length<=sizeLine/\(p==sysModules)=false/\∃vs,KV kvs vs/\s.heap.DictOf (Q1 X.prog X.w) p vs:=I.hok p _ hx
   have hlen:kvs.length=vs.length:=Paired.length r
   exact wpAny_truthy_dict hS m (by lia) ⟨H,I.tok _,by rw[z6U r];exact q⟩
 |_=>exact(show False from e).elim
theorem z9H(ha:PE X a ta)(he: ∀whole,isTrue a X.env whole=(do let v<-whole;standAt a.pos;holding [v] (truthy v))):
 PT X a (fun σ H Q=>ta σ H fun x H'=> ∃k,TruV X.K x H' k/\Q k H'):=by
 intro pins s σ H Q I h
 exact isTrue_plain (thn (ha pins s σ H _ I h) fun v s1 ⟨x,H1,I1,r1,q1⟩=>zdF pins s1 σ H1 x v Q I1 r1 q1) (he _)
theorem z3o:OpR X (binaryOp .Add) (fun x y H Q=> ∃i j,x= .str i/\y= .str j/\i.length+j.length<=sizeLine/\Q (.str (i++j)) H):=by
 intro pins s σ H x y v u Q I rx ry h
 obtain⟨i,j,rfl,rfl,hz,q⟩:=h
 obtain⟨t,rfl⟩:=rx
 obtain⟨t',rfl⟩:=ry
 exact add_str (fun t' tk=>⟨.str (i++j),H,I.tok _,⟨_,rfl⟩,q⟩) hz
theorem z3O{x:V}{us:List Value}(r:J0 [x] us): ∃u,us=[u]/\RelV x u:=by
 cases r with
 |cons r1 r2=>cases r2;exact⟨_,rfl,r1⟩
theorem z9I{x y:V}{us:List Value}(r:J0 [x,y] us): ∃u w',us=[u,w']/\RelV x u/\RelV y w':=by
 cases r with
 |cons r1 r2=>
  cases r2 with
  |cons r3 r4=>cases r4;exact⟨_,_,rfl,r1,r3⟩
theorem z9J:CallR X (.builtin "abs") (fun xs H Q=> ∃i,xs=[.int i]/\Q (.int (if i<0 then -i else i)) H):=by
 intro pins s σ H xs us Q I r h
 obtain⟨i,rfl,q⟩:=h
 obtain⟨u,rfl,t,rfl⟩:=z3O r
 exact call_abs_int fun u tk=>⟨.int (if i<0 then -i else i),H,I.tok _,⟨_,rfl⟩,q⟩
theorem z7H(hc:X.calm=true):CallR X (.builtin "max") (fun xs H Q=> ∃i j,xs=[.int i, .int j]/\Q (.int (if j>i then j else i)) H):=by
 intro pins s σ H xs us Q I r h
 obtain⟨i,j,rfl,q⟩:=h
 obtain⟨u,w',rfl,⟨t,rfl⟩,⟨t',rfl⟩⟩:=z9I r
 refine max_two_ints (I.ok.hd hc) fun h' tk k=>⟨_,H,I.kept k, ?_,q⟩
 by_cases hj:j>i
 ·rw[if_pos hj,if_pos hj];exact⟨_,rfl⟩
 ·rw[if_neg hj,if_neg hj];exact⟨_,rfl⟩
theorem z7I(hc:X.calm=true):CallR X (.builtin "min") (fun xs H Q=> ∃i j,xs=[.int i, .int j]/\Q (.int (if j<i then j else i)) H):=by
 intro pins s σ H xs us Q I r h
 obtain⟨i,j,rfl,q⟩:=h
 obtain⟨u,w',rfl,⟨t,rfl⟩,⟨t',rfl⟩⟩:=z9I r
 refine min_two_ints (I.ok.hd hc) fun h' tk k=>⟨_,H,I.kept k, ?_,q⟩
 by_cases hj:j<i
 ·rw[if_pos hj,if_pos hj];exact⟨_,rfl⟩
 ·rw[if_neg hj,if_neg hj];exact⟨_,rfl⟩
theorem z7J:CallR X (.type "int") (fun xs H Q=>(∃i,xs=[.int i]/\Q (.int i) H)\/∃k,xs=[.bl k]/\Q (.int (if k then 1 else 0)) H):=by
 intro pins s σ H xs us Q I r h
 rcases h with⟨i,rfl,q⟩|⟨k,rfl,q⟩
 ·obtain⟨u,rfl,t,rfl⟩:=z3O r
  exact call_int_int ⟨.int i,H,I,⟨_,rfl⟩,q⟩
 ·obtain⟨u,rfl,r1⟩:=z3O r
  cases r1
  exact call_int_bool ⟨.int (if k then 1 else 0),H,I.tok _,⟨_,rfl⟩,q⟩
end
structure zjg(h:Heap)(x dx C:Addr)(mA:Str->Option Value):Prop where
 obj:h.get? x=some (W.instObj C dx)
 ns:h.Ns1 dx mA
 ne:dx≠x
theorem RelO.some_of{v:V}{o:Option Value}(r:RelO (some v) o): ∃u,o=some u/\RelV v u:=by
 cases o with
 |none=>exact(show False from r).elim
 |some u=>exact⟨u,rfl,r⟩
structure Cls(K:W.Frag)(C:Addr):Prop where
 pg:W.plainGet K C Str.empty=true
 hd:W.hasDictIn K C=true
 po:W.plainOver K C=true
 sa:W.findIn K (.ref C) "__setattr__" =some (some (.builtin "object.__setattr__"))
structure Con(K:W.Frag)(C:Addr)(f:Str)(v:V)(u:Value):Prop where
 at_:W.findIn K (.ref C) f=some (some u)
 rel:RelV v u
 get:W.specialIn K u "__get__" =some none
 cp:W.copiedNames.contains f=false
structure ziE(K:W.Frag)(C:Addr)(m:Str)(f:Addr):Prop where
 at_:W.findIn K (.ref C) m=some (some (.ref f))
 fn:W.isFn K (.ref f)=true
 kp:W.keepIn K (.ref f)=true
section
variable{X:Cx}{pins:List (Addr×Obj)}{σ:St}{H:Hp}{s:Shared}{A:Around}{E:Value->Shared->Prop}{Q:Value->Shared->Prop}{c:Value}{b:Bool}
inductive TyOf(K:W.Frag)(H:Hp):V->Value->Prop where
 |non:TyOf K H .non (.type "NoneType")
 |bl (x:Bool):TyOf K H (.bl x) (.type "bool")
 |int (i:Int):TyOf K H (.int i) (.type "int")
 |str (x:Str):TyOf K H (.str x) (.type "str")
 |flt (x:UInt64):TyOf K H (.flt x) (.type "float")
 |lst {a:Addr} {xs:List V} (e:H a=some (.lst xs)):TyOf K H (.ref a) (.type "list")
 |frz {a:Addr} {o:Obj} {xs:List V} (e:H a=some (.frz o (.lst xs))):TyOf K H (.ref a) (.type "list")
 |tup {a:Addr} {xs:List V} (e:H a=some (.tup xs)):TyOf K H (.ref a) (.type "tuple")
 |dK {a:Addr} {kvs:List (Key×V)} (e:H a=some (.dK kvs)):TyOf K H (.ref a) (.type "dict")
 |dT {a:Addr} {kvs:List (NK×V)} (e:H a=some (.dT kvs)):TyOf K H (.ref a) (.type "dict")
 |ins {a C dx:Addr} {fs:List (Str×V)} (e:H a=some (.ins C dx fs)) (cl:Cls K C) (ha:W.findIn K (.ref C) "__class__" =some (some (.builtin "object.__class__")))
  (hn:W.specialIn K (.builtin "object.__class__") "__get__" =some (some (.builtin "getset_descriptor.__get__"))) (htk:W.takesIn K (.builtin "object.__class__")=some true)
  (hm:W.mroIn K C (.type "object")=some true):TyOf K H (.ref a) (.ref C)
end
structure z2g(k:Nat)(A:Around):Prop where
 hd:A.handled=none
 dp:A.depth+3*k+5<recursionLimit
 un:A.units+16*k+200<cLine
 gd:A.guards=some []
theorem z2g.mono{j k:Nat}{A:Around}(r:z2g k A)(h:j<=k):z2g j A:=⟨r.hd,by have:=r.dp;lia,by have:=r.un;lia,r.gd⟩
theorem z2g.deeper{k:Nat}{A:Around}(r:z2g (k+1) A)(env:Env):z2g k (A.deeper env):=
 ⟨r.hd,by have:=r.dp;show A.depth+1+3*k+5<_;lia,by have:=r.un;show A.units+3+16*k+200<_;lia,r.gd⟩
theorem z2g.depth{k:Nat}{A:Around}(r:z2g k A):A.depth<recursionLimit:=by have:=r.dp;lia
theorem z2g.units{k:Nat}{A:Around}(r:z2g k A):A.units+64<cLine:=by have:=r.un;lia
noncomputable def ziF:TA:=fun _ H Q=>Q [] H
noncomputable def zgB(ta:TE)(tr:TA):TA:=fun σ H Q=>ta σ H fun x H1=>tr σ H1 fun xs H2=>Q (x::xs) H2
section
variable{X:Cx}{e:Expr}{es:List Expr}{te:TE}{t:TA}{pos:Pos}
theorem z6b:PA X [] ziF:=fun _ _ _ _ H Q I h=>Calls.spliced_nil ⟨[],H,I, .nil,h⟩
theorem z1b(ha:PE X e te)(hr:PA X es t)(hs:starEach (e::es) X.env=(false,eval e X.env)::starEach es X.env:=by rfl):PA X (e::es) (zgB te t):=by
 intro pos pins s σ H Q I h
 rw[hs]
 show wpAny _ _ (spliced ((false,eval e X.env)::backTo pos (starEach es X.env))) _ _ s
 refine Calls.spliced_cons (thn (ha pins s σ H _ I h) fun u s1 ⟨x,H1,I1,r1,q1⟩=> ?_)
 exact thn (hr pos pins s1 σ H1 _ I1 q1) fun us s2 ⟨xs,H2,I2,r2,q2⟩=>⟨x::xs,H2,I2, .cons r1 r2,q2⟩
noncomputable def ziG(t:TA):TE:=fun σ H Q=>t σ H fun xs H1=>xs.length<=sizeLine/\∀p,H1 p=none->Q (.ref p) (upd H1 p (.tup xs))
noncomputable def ziH(t:TA):TE:=fun σ H Q=>t σ H fun xs H1=>xs.length<=sizeLine/\∀p,H1 p=none->Q (.ref p) (upd H1 p (.lst xs))
theorem zdG{x1}(h:PA X es t):PE X (.Tuple es x1 pos) (ziG t):=by
 intro pins s σ H Q I hq
 refine wpAny_Tuple_spliced (thn (h pos pins s σ H _ I hq) fun us s1 ⟨xs,H1,I1,r,z,q⟩=>⟨by rw[<-r.length];exact z, ?_⟩)
 have hf:H1 s1.heap.objs.size=none:=I1.hok.fresh (i4 _)
 refine⟨.ref s1.heap.objs.size,upd H1 s1.heap.objs.size (.tup xs),I1.laid (t':=s1.toks) (fun b u e=>Heap.get?_push_of_some _ e) (i4 _) ?_,rfl,q _ hf⟩
 exact⟨z,us,r,⟨_,Heap.get?_push_size _ rfl,rfl,_,rfl⟩⟩
theorem zdH(h:PA X es t):PE X (.List es pos) (ziH t):=by
 intro pins s σ H Q I hq
 refine wpAny_List_spliced (thn (h pos pins s σ H _ I hq) fun us s1 ⟨xs,H1,I1,r,z,q⟩=>⟨by rw[<-r.length];exact z, ?_⟩)
 have hf:H1 s1.heap.objs.size=none:=I1.hok.fresh (i4 _)
 refine⟨.ref s1.heap.objs.size,upd H1 s1.heap.objs.size (.lst xs),I1.laid (t':=s1.toks) (fun b u e=>Heap.get?_push_of_some _ e) (i4 _) ?_,rfl,q _ hf⟩
 exact⟨z,us,0,r,Heap.get?_push_size _ rfl⟩
end
noncomputable abbrev Sp:=List V->Hp->VK->XK->Prop
noncomputable abbrev CXT:=List Env->Hp->Shared->XK->Value->Shared->Prop
structure zdI(P:Program)(w:World)(K:W.Frag)(mg:Str->Option Value)(base:Heap)(A:Around)(outer:List Env)(s:Shared)(H:Hp):Prop where
 frames:A.frames=some outer
 mod:Mod K mg base
 bs: ∀b o,base.get? b=some o->s.heap.get? b=some o/\H b=none
 bsz:base.objs.size<=s.heap.objs.size
 funs:s.heap.FunFrames base outer
 frf: ∀b∈frs outer,H b=none
 hok:HOk P w H s.heap
 bare:AllBare s.gens
noncomputable def CE(outer:List Env)(P:Program)(w:World)(H:Hp)(s:Shared)(Q:VK)(u:Value)(s':Shared):Prop:=
 ∃v H',s'.os=s.os/\AllBare s'.gens/\Un (frs outer) [] H H' s.heap s'.heap/\HOk P w H' s'.heap/\RelV v u/\Q v H'
noncomputable def CR(CX:CXT)(outer:List Env)(P:Program)(w:World)(H:Hp)(s:Shared)(Q:VK)(E:XK)(r:Result)(s':Shared):Prop:=
 match r with
 | .ok (.ret u)=>CE outer P w H s Q u s'
 | .ok _=>False
 | .error e=>CX outer H s E e s'
structure FnOk(P:Program)(w:World)(K:W.Frag)(mg:Str->Option Value)(base:Heap)(CX:CXT)(k:Nat)(f:Addr)(fd:FuncData)(ps:List Str)(sp:Sp):Prop where
 len: ∀vs H Q E,sp vs H Q E->vs.length=ps.length
 run: ∀(A:Around) (outer:List Env) (s:Shared) (H:Hp) (args:Args) (us:List Value) (vs:List V) (Q:VK) (E:XK),z2g k A->zdI P w K mg base A outer s H->BindsTo s fd args (ps.zip us)->J0 vs us->sp vs H Q E->
  codeAny (model P w) A (.call (.ref f) args) (CR CX outer P w H s Q E) s
theorem FnOk.mono{P:Program}{w:World}{K:W.Frag}{mg:Str->Option Value}{base:Heap}{CX:CXT}{j k:Nat}{f:Addr}{fd:FuncData}{ps:List Str}{sp:Sp}(F:FnOk P w K mg base CX j f fd ps sp)(h:j<=k):
 FnOk P w K mg base CX k f fd ps sp:=⟨F.len,fun A outer s H args us vs Q E hr=>F.run A outer s H args us vs Q E (hr.mono h)⟩
section
variable{X:Cx}{pins:List (Addr×Obj)}{σ:St}{H:Hp}{s s':Shared}
theorem Inv.env0(I:Inv X pins σ H s):zdI X.prog X.w X.K X.mg X.base X.A X.stack s H:=
 ⟨I.ok.frames,I.ok.mod,I.bs,C0 I.ok.bsz I.sz,I.stack,I.stkFree,I.hok,I.bare⟩
theorem Inv.after{Q:VK}{u:Value}(I:Inv X pins σ H s)(h:CE X.stack X.prog X.w H s Q u s'):EP X pins σ Q u s':=by
 obtain⟨v,H',os,bare,un,hok,r,q⟩:=h
 obtain⟨hh,g,d,t,os'⟩:=s'
 obtain rfl:os'=s.os:=os
 exact⟨v,H',I.call (h':=hh) (g':=g) (d':=d) (t':=t) (ch:=[]) un hok bare (fun b z=>absurd z (by simp)),r,q⟩
end
noncomputable def zgC(sp:Sp)(dvs:List V)(E:XK)(t:TA):TE:=fun σ H Q=>t σ H fun vs H1=>sp (vs++dvs) H1 Q E
noncomputable def z37(K:W.Frag)(fd:FuncData)(ps:List Str)(ds:List Value):Prop:=
 ∀(s:Shared) (us:List Value),K.In s.heap->(us++ds).length=ps.length->BindsTo s fd ⟨us,[]⟩ (ps.zip (us++ds))
theorem z37.all{K:W.Frag}{fd:FuncData}{ps:List Str}(h: ∀us:List Value,us.length=ps.length->bindArgs fd ⟨us,[]⟩=pure (ps.zip us)):z37 K fd ps []:=fun s us _ hl=>by
 rw[l3] at hl⊢
 exact .of_eq (h us hl)
noncomputable def z3p(CX:CXT)(X:Cx)(E:XK):Prop:= ∀(pins:List (Addr×Obj)) (σ:St) (H:Hp) (s:Shared) (e:Value) (s':Shared),Inv X pins σ H s->CX X.stack H s E e s'->X.xe e s'
section
variable{X:Cx}{CX:CXT}{k:Nat}{f C:Addr}{fd:FuncData}{ps:List Str}{sp:Sp}{dvs:List V}{ds:List Value}{E:XK}{x m:Str}{p pos apos:Pos}{e o:Expr}{es:List Expr}{ta:TE}{t:TA}
theorem zdJ{pins:List (Addr×Obj)}{σ:St}{H:Hp}{s:Shared}{Q:VK}{us:List Value}{vs:List V}(F:FnOk X.prog X.w X.K X.mg X.base CX k f fd ps sp)(hr:z2g k X.A)(hb:z37 X.K fd ps ds)(hd:J0 dvs ds)(hx:z3p CX X E)
 (I:Inv X pins σ H s) (r:J0 vs us) (h:sp (vs++dvs) H Q E):wpAny (model X.prog X.w) X.A (call (.ref f) us) (EP X pins σ Q) X.xe s:=by
 have r2:J0 (vs++dvs) (us++ds):=r.append hd
 have hl:(us++ds).length=ps.length:=by rw[<-r2.length];exact F.len _ _ _ _ h
 refine wpAny_call (codeAny_mono (F.run X.A X.stack s H ⟨us,[]⟩ (us++ds) (vs++dvs) Q E hr I.env0 (hb s us I.kIn hl) r2 h) fun r s' hq=> ?_)
 cases r with
 |error e=>exact hx pins σ H s e s' I hq
 |ok fl=>
  cases fl with
  |ret u=>exact I.after hq
  |next=>exact False.elim hq
  |brk=>exact False.elim hq
  |cont=>exact False.elim hq
theorem zbL(F:FnOk X.prog X.w X.K X.mg X.base CX k f fd ps sp)(hr:z2g k X.A)(hg:Gl X x)(hm:X.mg x=some (.ref f))(hk:W.keepIn X.K (.ref f)=true)(hb:z37 X.K fd ps ds)(hd:J0 dvs ds)(hx:z3p CX X E)
 (ha:PA X (e::es) t) (hdb:(x==("__debug__" :Str))=false:=by decide) (he:starEach (e::es) X.env=(false,eval e X.env)::starEach es X.env:=by rfl) (hpl:(backTo pos (starEach es X.env)).any (·.1)=false:=by rfl):
 PE X (.Call (.Name x p) (e::es) [] pos) (zgC sp dvs E t):=by
 intro pins s σ H Q I h
 refine wpAny_Call_Name_kw (z7B I hg hm ?_ hdb)
 refine W.callWith_K (h₀:=X.base) I.ok.mod.kin hk (thn (ha pos pins s σ H _ I h) fun us s1 ⟨vs,H1,I1,r,q⟩=>⟨I1.kIn, ?_⟩) he hpl
 exact zdJ F hr hb hd hx I1 r q
structure Mk(K:W.Frag)(C f:Addr):Prop where
 makes:W.makesIn K C=true
 init:W.findIn K (.ref C) "__init__" =some (some (.ref f))
 fn:W.isFn K (.ref f)=true
 kp:W.keepIn K (.ref C)=true
end
section
variable{X:Cx}{CX:CXT}{k:Nat}{f C:Addr}{fd:FuncData}{ps ks:List Str}{sp:Sp}{E:XK}{x m:Str}{p pos apos kpos:Pos}{e o:Expr}{es:List Expr}{kws:List Keyword}{te ta:TE}{t tk:TA}{nm:Option Str}
structure zic(K:W.Frag)(fd:FuncData)(ps ks:List Str)(g:List Value->List Value->List Value)(gV:List V->List V->List V):Prop where
 to: ∀(s:Shared) (us ws:List Value),K.In s.heap->(g us ws).length=ps.length->BindsTo s fd ⟨us,ks.zip ws⟩ (ps.zip (g us ws))
 rel: ∀{vs:List V} {us:List Value} {zs:List V} {ws:List Value},J0 vs us->J0 zs ws->J0 (gV vs zs) (g us ws)
variable{g:List Value->List Value->List Value}{gV:List V->List V->List V}
end
structure Y7(N P:List Str)(sc:Scope):Prop where
 kind:sc.kind= .function
 co:sc.isCoroutine=false
 gen:sc.isGenerator=false
 nd:N.Nodup
 pre:N.take P.length=P
 par: ∀x∈P,sc.names.lookup x=some .local\/sc.names.lookup x=some .cell
 nofree: ∀y∈sc.names,y.2≠ .free
theorem z4F{kindOf:Str->Option NameKind}{x:Str}: ∀{binds:List (Str×Value)} {m:Str->Option Value},(∀v,(x,v)∉binds)->bindL kindOf binds m x=m x
 |[],_,_=>rfl
 |(n,v)::r,m,h=>by
  unfold bindL
  rw[z4F fun w hw=>h w (e9 _ hw)]
  split
  ·have:x≠n:=by rintro rfl;exact h v l4
   simp[this]
  ·rfl
theorem z4G{kindOf:Str->Option NameKind}{x:Str}: ∀{binds:List (Str×Value)} {m:Str->Option Value},(∀v,(x,v)∉binds)->bindC kindOf binds m x=m x
 |[],_,_=>rfl
 |(n,v)::r,m,h=>by
  unfold bindC
  rw[z4G fun w hw=>h w (e9 _ hw)]
  split
  ·rfl
  ·have:x≠n:=by rintro rfl;exact h v l4
   simp[this]
theorem z4H{kindOf:Str->Option NameKind}{x:Str}{v:Value}: ∀{P:List Str} {vs:List Value} {i:Nat} {m:Str->Option Value},P.Nodup->P[i]? =some x->vs[i]? =some v->kindOf x=some .local->
 bindL kindOf (P.zip vs) m x=some v
 |[],_,_,_,_,h,_,_=>by simp at h
 |_::_,[],_,_,_,_,h,_=>by simp at h
 |p::P,w::vs,0,m,nd,h1,h2,hk=>by
  simp at h1 h2;subst h1;subst h2
  show bindL kindOf ((p,w)::P.zip vs) m p=_
  unfold bindL
  rw[z4F fun v hv=>(N5.mp nd).1 (N6 hv).1,if_pos hk]
  simp
 |p::P,w::vs,i+1,m,nd,h1,h2,hk=>by
  show bindL kindOf ((p,w)::P.zip vs) m x=_
  unfold bindL
  exact z4H (i:=i) (N5.mp nd).2 (by simpa using h1) (by simpa using h2) hk
theorem z4I{kindOf:Str->Option NameKind}{x:Str}{v:Value}: ∀{P:List Str} {vs:List Value} {i:Nat} {m:Str->Option Value},P.Nodup->P[i]? =some x->vs[i]? =some v->kindOf x≠some .local->
 bindC kindOf (P.zip vs) m x=some v
 |[],_,_,_,_,h,_,_=>by simp at h
 |_::_,[],_,_,_,_,h,_=>by simp at h
 |p::P,w::vs,0,m,nd,h1,h2,hk=>by
  simp at h1 h2;subst h1;subst h2
  show bindC kindOf ((p,w)::P.zip vs) m p=_
  unfold bindC
  rw[z4G fun v hv=>(N5.mp nd).1 (N6 hv).1,if_neg hk]
  simp
 |p::P,w::vs,i+1,m,nd,h1,h2,hk=>by
  show bindC kindOf ((p,w)::P.zip vs) m x=_
  unfold bindC
  exact z4I (i:=i) (N5.mp nd).2 (by simpa using h1) (by simpa using h2) hk
noncomputable def z4J(N:List Str)(vs:List V):St:=vs.map some++l5 (N.length -vs.length) none
noncomputable def z9K(CX:CXT)(P:Program)(w:World)(K:W.Frag)(mg:Str->Option Value)(base:Heap)(N:List Str)(qual:Str)(scope:Scope)(f:Addr)(cd:Value)(A:Around)(outer:List Env)(s:Shared)(H:Hp)(E:XK):Cx where
 prog:=P
 w:=w
 K:=K
 mg:=mg
 base:=base
 A:=A.deeper (envOfC qual scope s.heap.objs.size f cd)
 N:=N
 s₀:=s
 H₀:=H
 env:=envOfC qual scope s.heap.objs.size f cd
 outer:=outer
 stack:=envOfC qual scope s.heap.objs.size f cd::outer
 ex:=[]
 calm:=true
 fn:=fun _=>true
 pn:=[]
 xe:=fun e s'=>wpAny (model P w) (A.deeper (envOfC qual scope s.heap.objs.size f cd)) (leaving (envOfC qual scope s.heap.objs.size f cd) e) (fun _ s''=>CX outer H s E e s'') (fun e' s''=>CX outer H s E e' s'') s'
theorem z6c{sc:Scope}{n:Nat}{x:Str}(h:sc.names.lookup x=some .cell): ∃c,(cellsFrom n sc.names []).lookup x=some c:=by
 have q:=W.cellsFrom_some sc.names n [] (.inl h)
 exact O8.mp q
theorem z7K{CX:CXT}{P:Program}{w:World}{K:W.Frag}{mg:Str->Option Value}{base:Heap}{N ps:List Str}{qual:Str}{scope:Scope}{f:Addr}{cd:Value}{A:Around}{outer:List Env}{s s1:Shared}{H:Hp}{E:XK}{us:List Value}{vs:List V}
 (S:Y7 N ps scope) (hd:A.handled=none) (e0:zdI P w K mg base A outer s H) (hl:vs.length=ps.length) (r:J0 vs us)
 (x:InCallC s s.heap.objs.size (bindL (envOfC qual scope s.heap.objs.size f cd).kindOf (ps.zip us) fun _=>none) (cellsFrom (s.heap.objs.size+1) scope.names []) (bindC (envOfC qual scope s.heap.objs.size f cd).kindOf (ps.zip us) fun _=>none) s1):
 Inv (z9K CX P w K mg base N qual scope f cd A outer s H E) [] (z4J N vs) H s1:=by
 have hpl:ps.length<=N.length:=by have:=congrArg D7 S.pre;rw[F0] at this;lia
 obtain⟨h1,tk,rfl,hk⟩:=x.done
 have noA: ∀b:Addr,b∉(z9K CX P w K mg base N qual scope f cd A outer s H E).ex:=fun b z=>absurd (show b∈([]:List Addr) from z) (by simp)
 refine⟨⟨e0.mod,S.kind,rfl,rfl,i4 _,fun y z c h1 h2=> ?_,fun y hy=> ?_,fun y c _ h=> ?_,fun _=>hd,Around.frames_deeper e0.frames, .inr ⟨rfl,rfl⟩,fun b z=>absurd z (noA b),e0.bs,e0.bsz,fun b _ _=>noA b,fun b z=>absurd z (noA b),e0.funs,e0.frf⟩,
  rfl,e0.bare,Un.kept hk,⟨_,x.toInCall.ns,fun i y v h1 h2 h3=> ?_⟩,fun y c h=>⟨_,x.cell y c h⟩,e0.hok.fresh (i4 _),fun y c h=> ?_,fun p hp=>absurd (show p∈([]:List (Addr×Obj)) from hp) (by simp),e0.hok.kept hk, ?_⟩
 ·exact name_of_addr x.apart (PySem.mem_of_lookup h1) (PySem.mem_of_lookup h2)
 ·have hy:scope.names.lookup y=some .cell\/scope.names.lookup y=some .free:=hy
  rcases hy with hy|hy
  ·exact z6c hy
  ·exact absurd rfl (S.nofree _ (PySem.mem_of_lookup hy))
 ·exact R9 (x.above y c (PySem.mem_of_lookup h))
 ·have hi:i<vs.length:=by
   unfold z4J at h2
   by_cases hi:i<vs.length
   ·exact hi
   ·rw[List.getElem?_append_right (by simpa using hi)] at h2
    rw[List.getElem?_replicate] at h2
    split at h2<;>cases h2
  have ha:vs[i]? =some v:=by
   unfold z4J at h2
   rw[List.getElem?_append_left (by simpa using hi),List.getElem?_map] at h2
   cases e:vs[i]? with
   |none=>rw[e] at h2;cases h2
   |some a=>rw[e] at h2;cases h2;rfl
  obtain⟨u,hu,rv⟩:=r.get ha
  have hp:ps[i]? =some y:=by
   rw[<-S.pre,List.getElem?_take_of_lt (by lia)];exact h1
  have ndP:ps.Nodup:=by rw[<-S.pre];exact S.nd.sublist (List.take_sublist _ _)
  refine⟨u,rv, ?_⟩
  rcases S.par y (List.mem_of_getElem? hp) with k|k
  ·exact .inl ⟨k,z4H ndP hp hu k⟩
  ·obtain⟨c,e⟩:=z6c (n:=s.heap.objs.size+1) k
   refine .inr ⟨.inl k,c,e, ?_⟩
   have q:=x.cell y c e
   rw[z4I ndP hp hu (by show scope.names.lookup y≠_;rw[k];decide)] at q
   exact q
 ·exact e0.hok.fresh (R9 (x.above y c (PySem.mem_of_lookup h)))
 ·unfold z4J
  show _=N.length
  rw[m7,A3,M7]
  lia
theorem zgD{CX:CXT}{P:Program}{w:World}{K:W.Frag}{mg:Str->Option Value}{base:Heap}{k:Nat}{f:Addr}{name qual:Str}{params:Arguments}{body:List Stmt}{scope:Scope}{dV kV doc pm cdv ct oc:Value}{an od:Option Addr}
 {osl:Array (Option Value)} {N ps:List Str} {sp:Sp} (lk:K.lookup f=some ⟨oc,od, .func (W.fnOf name qual params body scope dV kV doc pm an cdv ct),osl⟩) (hcd:W.codeIn K cdv qual=true) (S:Y7 N ps scope)
 (len: ∀vs H Q E,sp vs H Q E->vs.length=ps.length)
 (hbody: ∀(A:Around) (outer:List Env) (s:Shared) (H:Hp) (vs:List V) (Q:VK) (E:XK),z2g k (A.deeper (envOfC qual scope s.heap.objs.size f cdv))->sp vs H Q E->
  ∃t,PSs (z9K CX P w K mg base N qual scope f cdv A outer s H E) body t/\t {nx:=fun _ H'=>Q .non H',rt:=Q} (z4J N vs) H):
 FnOk P w K mg base CX (k+1) f (W.fnOf name qual params body scope dV kV doc pm an cdv ct) ps sp:=by
 refine⟨len,fun A outer s H args us vs Q E hr e0 hb r hsp=> ?_⟩
 have hl:=len _ _ _ _ hsp
 have KX:K.In s.heap:=e0.mod.kin.keeps fun b o e=>(e0.bs b o e).1
 have lim:s.heap.NoLimit:=e0.mod.nolimit.keeps fun b o e=>(e0.bs b o e).1
 have hkind: ∀y∈ps.zip us,scope.names.lookup y.1=some .local\/(scope.names.lookup y.1=some .cell/\((cellsFrom (s.heap.objs.size+1) scope.names []).lookup y.1).isSome=true):=fun⟨n,v⟩ hy=>by
  rcases S.par n (N6 hy).1 with q|q
  ·exact .inl q
  ·exact .inr ⟨q,W.cellsFrom_some _ _ _ (.inl q)⟩
 refine codeAny_call_function hr.depth (KX _ _ lk) rfl S.co S.gen rfl (W.codeRec_of KX hcd) (hb _ _ _ _ ?_)
 refine wpAny_newFunctionEnv_cells S.kind hkind fun env he s1 x=> ?_
 subst he
 refine⟨lim.keeps x.toInCall.keep,codeAny_func ?_⟩
 obtain⟨t,ht,hq⟩:=hbody A outer s H vs Q E (hr.deeper _) hsp
 have I:Inv (z9K CX P w K mg base N qual scope f cdv A outer s H E) [] (z4J N vs) H s1:=z7K S hr.hd e0 hl r x
 refine wpAny_mono (ht [] s1 (z4J N vs) H _ I hq) (fun fl s' hs=> ?_) fun e s' hs=>hs
 have fin: ∀{σ':St} {H':Hp} {v:V} {u:Value},Inv (z9K CX P w K mg base N qual scope f cdv A outer s H E) [] σ' H' s'->RelV v u->Q v H'->CE outer P w H s Q u s':=
  fun{σ' H' v u} J rv q=>⟨v,H',J.os,J.bare,J.base,J.hok,rv,q⟩
 cases fl with
 |ret u=>
  obtain⟨v,σ',H',J,rv,q⟩:=hs
  exact fin J rv q
 |next=>
  obtain⟨σ',H',J,q⟩:=hs
  exact fin (v:=V.non) (u:=Value.none) J rfl q
 |brk=>
  obtain⟨_,_,_,q⟩:=hs
  exact False.elim q
 |cont=>
  obtain⟨_,_,_,q⟩:=hs
  exact False.elim q
section
variable{X:Cx}{x:Str}{p pos:Pos}{e:Expr}{es:List Expr}{t:TA}{id T:String}{r:List V->Hp->VK->Prop}
noncomputable def tCB(r:List V->Hp->VK->Prop)(t:TA):TE:=fun σ H Q=>t σ H fun vs H1=>r vs H1 Q
theorem z3P(hc:CallR X (.builtin id) r)(hg:Gl X x)(hm:X.mg x=none)(hv:bootBuiltins x=some (.builtin id))(ha:PA X (e::es) t)(hn:x≠ "__name__" :=by decide)(hdb:(x==("__debug__" :Str))=false:=by decide)
 (he:starEach (e::es) X.env=(false,eval e X.env)::starEach es X.env:=by rfl) (hpl:(backTo pos (starEach es X.env)).any (·.1)=false:=by rfl):PE X (.Call (.Name x p) (e::es) [] pos) (tCB r t):=by
 intro pins s σ H Q I h
 refine wpAny_Call_Name_kw (z3l I hg hm hv ?_ hn hdb)
 exact PyProof.Rows.callWith_builtin1 (thn (ha pos pins s σ H _ I h) fun us s1 ⟨vs,H1,I1,r1,q1⟩=>hc pins s1 σ H1 vs us Q I1 r1 q1) he hpl
theorem z7L(hc:CallR X (.type T) r)(hg:Gl X x)(hm:X.mg x=none)(hv:bootBuiltins x=some (.type T))(ha:PA X (e::es) t)(hn:x≠ "__name__" :=by decide)(hdb:(x==("__debug__" :Str))=false:=by decide)
 (he:starEach (e::es) X.env=(false,eval e X.env)::starEach es X.env:=by rfl) (hpl:(backTo pos (starEach es X.env)).any (·.1)=false:=by rfl):PE X (.Call (.Name x p) (e::es) [] pos) (tCB r t):=by
 intro pins s σ H Q I h
 refine wpAny_Call_Name_kw (z3l I hg hm hv ?_ hn hdb)
 exact PyProof.Rows.callWith_type1 (thn (ha pos pins s σ H _ I h) fun us s1 ⟨vs,H1,I1,r1,q1⟩=>hc pins s1 σ H1 vs us Q I1 r1 q1) he hpl
end
end L2
namespace HT
open PySem PyProof.Rows
section
open PySem.SeqAt
open PySem.AutoSeq1 (wpAny_loadPart')
open PySem.MeetsSeq PySem.MeetsSeq2 PySem.MeetsSeq3
end
section
variable{prog:Program}{w:World}{A:Around}{E:Value->Shared->Prop}{s:Shared}
theorem cat_tup{t b:Addr}{vs ws:List Value}{Q:Value->Shared->Prop}(ht:IsTup s.heap t vs.toArray)(hb:IsTup s.heap b ws.toArray)(hv:vs≠[])
 (h1:ws=[]->Q (.ref t) s) (h2:ws≠[]->Q (.ref s.heap.objs.size) {s with heap:=s.heap.push {cls:= .type "tuple",data:= .seq (vs++ws).toArray}})
 (hsz:vs.length+ws.length<=sizeLine):wpAny (model prog w) A (binaryOp .Add (.ref t) (.ref b)) Q E s:=by
 obtain⟨⟨cls,dd,data,sl⟩,ho,hc,n,hd⟩:=id ht
 obtain⟨⟨cls2,dd2,data2,sl2⟩,ho2,hc2,n2,hd2⟩:=id hb
 simp only at hc hd hc2 hd2
 subst hc hd hc2 hd2
 have e:vs.toArray++ws.toArray=(vs++ws).toArray:=by simp
 by_cases hw:ws=[]
 ·exact concat_meets ⟨_,ho,rfl⟩ ⟨_,ho2,rfl⟩ noFill_tuple_add seq_tuple_add PySem.F.slot_tuple_add PySem.F.entry_tuple_add (PySem.F.args_tuple_add_2 _ _)
   (tuple_addW1 t b vs.toArray ws.toArray n n2 dd dd2 sl sl2 (by simpa using hv) (by simp[hw])) ⟨ho,ho2,h1 hw⟩
 ·refine concat_meets ⟨_,ho,rfl⟩ ⟨_,ho2,rfl⟩ noFill_tuple_add seq_tuple_add PySem.F.slot_tuple_add PySem.F.entry_tuple_add (PySem.F.args_tuple_add_2 _ _)
   (tuple_addW2 t b vs.toArray ws.toArray n n2 dd dd2 sl sl2 (by simpa using hv) (by simpa using hw) (by rw[l7,l7];exact hsz)) ⟨ho,ho2, ?_⟩
  rw[e]
  exact h2 hw
noncomputable def sIx(n d:Nat):Option Int->Nat
 |none=>d
 |some v=>if v<0 then(v+(n:Int)).toNat else min v.toNat n
theorem sIx_none(n d:Nat):sIx n d none=d:=rfl
theorem sIx_nat(n d k:Nat):sIx n d (some (k:Int))=min k n:=by
 show(if(k:Int)<0 then((k:Int)+(n:Int)).toNat else min (k:Int).toNat n)=min k n
 rw[if_neg (by lia),C5]
theorem zdK(n d:Nat)(hd:d<=n)(o:Option Int):sIx n d o<=n:=by
 cases o with
 |none=>exact hd
 |some v=>
  show(if v<0 then(v+(n:Int)).toNat else min v.toNat n)<=n
  by_cases hv:v<0
  ·rw[if_pos hv];lia
  ·rw[if_neg hv];exact Nat.min_le_right _ _
theorem z7M(v:Int)(n d:Nat):(if v<0 then max (v+(n:Int)) 0 else min v (n:Int))=((sIx n d (some v):Nat):Int):=by
 show(if v<0 then max (v+(n:Int)) 0 else min v (n:Int))=(((if v<0 then(v+(n:Int)).toNat else min v.toNat n):Nat):Int)
 by_cases hv:v<0
 ·erw[if_pos hv];lia
 ·erw[if_neg hv];lia
theorem z6V(lo hi:Option Int)(n:Nat):Builtin.Slice.sliceAdjust lo hi 1 (n:Int)=(((sIx n 0 lo:Nat):Int),((sIx n n hi:Nat):Int)):=by
 have h1: ¬((1:Int)<0):=by lia
 unfold Builtin.Slice.sliceAdjust
 erw[h1,if_false]
 refine Prod.ext ?_ ?_
 ·cases lo with
  |none=>rfl
  |some v=>exact z7M v n 0
 ·cases hi with
  |none=>rfl
  |some v=>exact z7M v n n
theorem z6W(i j:Nat):Builtin.Slice.slicePlaces (i:Int) (j:Int) 1=j -i:=by
 unfold Builtin.Slice.slicePlaces
 have h1:(1:Int)>0:=by lia
 erw[h1,if_true,Int.ediv_one]
 split<;>lia
theorem z3q{v:Value}{o:Option Int}{Q:Option Int->Shared->Prop}(p:IsPart v o)(h:Q o s):wpAny (model prog w) A (Builtin.Slice.slicePartIndex v) Q E s:=by
 cases p with
 |none=>exact slicePart_none h
 |int i t=>exact slicePart_int h
theorem z0s{sl:Addr}{vl vu:Value}{lo hi:Option Int}{n:Nat}{Q:Int×Int×Nat->Shared->Prop}(hs:s.heap.IsSliceOf sl vl vu .none)(pl:IsPart vl lo)(pu:IsPart vu hi)
 (h:Q (((sIx n 0 lo:Nat):Int),1,sIx n n hi -sIx n 0 lo) s):wpAny (model prog w) A (Builtin.Slice.sliceApplied (.ref sl) (pure (n:Int))) Q E s:=by
 obtain⟨os,hos,hcs,hds⟩:=id hs
 unfold Builtin.Slice.sliceApplied Builtin.Slice.sliceFields
 refine wpAny_bind (wpAny_bind (wpAny_field hos hds (x:=vl) rfl (wpAny_bind (wpAny_field hos hds (x:=vu) rfl (wpAny_bind (wpAny_field hos hds (x:= .none) rfl (wpAny_pure ?_)))))))
 refine wpAny_bind (slicePart_none ?_)
 show wpAny _ _ (if((1:Int)==0)=true then _ else _) _ _ s
 rw[if_neg (by decide)]
 refine wpAny_bind (z3q pl (wpAny_bind (z3q pu (wpAny_bind (wpAny_pure ?_)))))
 show wpAny _ _ (match Builtin.Slice.sliceAdjust lo hi 1 (n:Int) with|(lo,hi)=>pure (lo,(1:Int),Builtin.Slice.slicePlaces lo hi 1)) _ _ s
 rw[z6V lo hi n]
 show wpAny _ _ (pure (((sIx n 0 lo:Nat):Int),(1:Int),Builtin.Slice.slicePlaces ((sIx n 0 lo:Nat):Int) ((sIx n n hi:Nat):Int) 1)) _ _ s
 rw[z6W]
 exact wpAny_pure h
theorem z9L(xs:Array Value)(i k:Nat):((D5 k).filterMap fun(m:Nat)=>xs[((i:Int)+(m:Int)*1).toNat]?).toArray=((xs.toList.drop i).take k).toArray:=by
 have e:(fun(m:Nat)=>xs[((i:Int)+(m:Int)*1).toNat]?)=fun m=>xs[i+m]? :=by
  funext m
  have:((i:Int)+(m:Int)*1).toNat=i+m:=by lia
  rw[this]
 rw[e]
 have:=pick_run xs i k
 rw[List.filterMap_map] at this
 have e2:((fun x=>xs[x]?)∘fun x=>i+x)=fun m=>xs[i+m]? :=rfl
 rw[e2] at this
 rw[this]
theorem getItem_tuple_cut{t sl:Addr}{items:Array Value}{vl vu:Value}{lo hi:Option Int}{Q:Value->Shared->Prop}(ht:IsTup s.heap t items)(hs:s.heap.IsSliceOf sl vl vu .none)(pl:IsPart vl lo)(pu:IsPart vu hi)
 (hw: ¬(sIx items.size 0 lo=0/\sIx items.size items.size hi=items.size))
 (h:Q (.ref s.heap.objs.size) {s with heap:=s.heap.push {cls:= .type "tuple",data:= .seq ((items.toList.drop (sIx items.size 0 lo)).take (sIx items.size items.size hi -sIx items.size 0 lo)).toArray}})
 (hsz:items.size<=sizeLine):wpAny (model prog w) A (getItem (.ref t) (.ref sl)) Q E s:=by
 have htake:sizeOk (.seq ((items.toList.drop (sIx items.size 0 lo)).take (sIx items.size items.size hi -sIx items.size 0 lo)).toArray):=by
  show((items.toList.drop (sIx items.size 0 lo)).take (sIx items.size items.size hi -sIx items.size 0 lo)).toArray.size<=sizeLine
  rw[l7,F0,M9,Array.length_toList]
  lia
 have hj:sIx items.size items.size hi<=items.size:=zdK _ _ (i4 _) hi
 obtain⟨os,hos,hcs,hds⟩:=id hs
 have hTs:s.TypeIs (.ref sl) "slice" :=⟨os,hos,hcs⟩
 unfold getItem
 try with_reducible refine wpAny_holding ?_
 first|refine wpAny_bind (wpAny_pure ?_)|skip
 refine wpAny_bind (wpAny_sequenceKey ht.typeIs (by decide) ?_)
 refine wpAny_bind (wpAny_callSpecial?_slot (name:=Str.ofString "__getitem__") ht.typeIs PyProof.Rows.slot_tuple_getitem
  (wpAny_call_entry PyProof.Rows.slot_tuple_getitem ht.typeIs entry_tuple_getitem ?_ (args_tuple_getitem _ _)))
 show wpAny _ _ (Builtin.Tuple.tupleItemsOf (.ref t)>>=_) _ _ s
 refine wpAny_bind (tupleItemsOf_ ht ?_)
 refine wpAny_bind (wpAny_typeOf hTs ?_)
 rw[if_pos (by decide)]
 refine wpAny_bind (z0s hs pl pu ?_)
 have hno: ¬((((sIx items.size 0 lo:Nat):Int)==0&&(1:Int)==1&&(sIx items.size items.size hi -sIx items.size 0 lo)==items.size)=true):=by
  intro q
  rw[l0,l0] at q
  have q1:((sIx items.size 0 lo:Nat):Int)=0:=eq_of_beq q.1.1
  have q2:sIx items.size items.size hi -sIx items.size 0 lo=items.size:=eq_of_beq q.2
  exact hw ⟨by lia,by lia⟩
 show wpAny _ _ (if(((sIx items.size 0 lo:Nat):Int)==0&&(1:Int)==1&&(sIx items.size items.size hi -sIx items.size 0 lo)==items.size)=true then _ else _) _ _ s
 rw[if_neg hno,z9L]
 first
  |exact wpAny_bind (m:=Builtin.Tuple.tupleExact _) (wpAny_newObj_type (wpAny_pure ⟨_,rfl,wpAny_pure h⟩) htake)
  |exact wpAny_bind (m:=Builtin.Tuple.tupleExact _) (wpAny_newObj_type (wpAny_bind (wpAny_pure (wpAny_pure ⟨_,rfl,wpAny_pure h⟩))) htake)
  |exact wpAny_bind (wpAny_bind (m:=Builtin.Tuple.tupleExact _) (wpAny_newObj_type (wpAny_pure (wpAny_pure ⟨_,rfl,wpAny_pure h⟩)) htake))
  |exact wpAny_bind (wpAny_bind (m:=Builtin.Tuple.tupleExact _) (wpAny_newObj_type (wpAny_pure ⟨_,rfl,wpAny_pure h⟩) htake))
end
end HT
namespace L2
open PySem PySem.Spec PyProof.Rows
noncomputable abbrev TO:=St->Hp->(Option Int->Hp->Prop)->Prop
noncomputable def PO(X:Cx)(e:Option Expr)(t:TO):Prop:=
 ∀(pins:List (Addr×Obj)) (s:Shared) (σ:St) (H:Hp) (Q:Option Int->Hp->Prop),Inv X pins σ H s->t σ H Q->
  wpAny (model X.prog X.w) X.A (evalPart e X.env) (fun u s'=> ∃o H',Inv X pins σ H' s'/\IsPart u o/\Q o H') X.xe s
noncomputable def zbM:TO:=fun _ H Q=>Q none H
noncomputable def zgE(t:TE):TO:=fun σ H Q=>t σ H fun x H1=> ∃i,x= .int i/\Q (some i) H1
section
variable{X:Cx}{e:Expr}{te:TE}{lo hi:Option Expr}{tl th:TO}{pos p2:Pos}
theorem zbN:PO X none zbM:=by
 intro pins s σ H Q I h
 rw[evalPart_none]
 exact wpAny_pure ⟨none,H,I, .none,h⟩
theorem zbO(h:PE X e te):PO X (some e) (zgE te):=by
 intro pins s σ H Q I hw
 rw[evalPart_some]
 refine thn (h pins s σ H _ I hw) fun u s1 ⟨x,H1,I1,r1,q1⟩=> ?_
 obtain⟨i,rfl,q⟩:=q1
 obtain⟨t,rfl⟩:=r1
 exact⟨some i,H1,I1, .int i t,q⟩
noncomputable def SlR(X:Cx)(r:V->Option Int->Option Int->Hp->VK->Prop):Prop:=
 ∀(pins:List (Addr×Obj)) (s:Shared) (σ:St) (H:Hp) (x:V) (v vl vu:Value) (lo hi:Option Int) (sl:Addr) (Q:VK),Inv X pins σ H s->RelV x v->s.heap.IsSliceOf sl vl vu .none->IsPart vl lo->IsPart vu hi->r x lo hi H Q->
  ∃T id,typeLookup (.type T) "__getitem__" =pure (some (.builtin id))/\s.TypeIs v T/\wpAny (model X.prog X.w) X.A (getItem v (.ref sl)) (EP X pins σ Q) X.xe s
theorem SlR.or{r r':V->Option Int->Option Int->Hp->VK->Prop}(h:SlR X r)(h':SlR X r'):SlR X (fun x lo hi H Q=>r x lo hi H Q\/r' x lo hi H Q):=by
 intro pins s σ H x v vl vu lo hi sl Q I rx hs pl pu q
 rcases q with q|q
 ·exact h pins s σ H x v vl vu lo hi sl Q I rx hs pl pu q
 ·exact h' pins s σ H x v vl vu lo hi sl Q I rx hs pl pu q
noncomputable def tSl(r:V->Option Int->Option Int->Hp->VK->Prop)(te:TE)(tl th:TO):TE:=fun σ H Q=>te σ H fun x H1=>tl σ H1 fun l H2=>th σ H2 fun u H3=>r x l u H3 Q
theorem z9M{r:V->Option Int->Option Int->Hp->VK->Prop}(hr:SlR X r)(he:PE X e te)(hl:PO X lo tl)(hu:PO X hi th):PE X (.Subscript e (.Slice lo hi none p2) pos) (tSl r te tl th):=by
 intro pins s σ H Q I h
 refine Subscript_ (thn (he pins s σ H _ I h) fun v s1 ⟨x,H1,I1,r1,q1⟩=> ?_)
 refine wpAny_Slice (thn (hl pins s1 σ H1 _ I1 q1) fun vl s2 ⟨l,H2,I2,pl,q2⟩=>thn (hu pins s2 σ H2 _ I2 q2) fun vu s3 ⟨u,H3,I3,pu,q3⟩=> ?_)
 rw[evalPart_none]
 refine wpAny_pure ?_
 have I4:Inv X pins σ H3 {s3 with heap:=s3.heap.push {cls:= .type "slice",data:= .fields #[vl,vu, .none]}}:=I3.kept (t':=s3.toks) fun b ob q=>Heap.get?_push_of_some _ q
 obtain⟨T,id,hT,ht,hg⟩:=hr pins {s3 with heap:=s3.heap.push {cls:= .type "slice",data:= .fields #[vl,vu, .none]}} σ H3 x v vl vu l u s3.heap.objs.size Q I4 r1 (Heap.IsSliceOf.new ..) pl pu q3
 show wpAny (model X.prog X.w) X.A (subscriptTail e (.Slice lo hi none p2) v (.ref s3.heap.objs.size)) (EP X pins σ Q) X.xe {s3 with heap:=s3.heap.push {cls:= .type "slice",data:= .fields #[vl,vu, .none]}}
 exact tail_any (ops:=[.ref s3.heap.objs.size,v]) ht hT hg (by with_unfolding_all rfl)
noncomputable def z7N(xs:List V)(lo hi:Option Int):List V:=(xs.drop (HT.sIx xs.length 0 lo)).take (HT.sIx xs.length xs.length hi -HT.sIx xs.length 0 lo)
theorem z2n(xs:List V)(lo hi:Option Int):(z7N xs lo hi).length<=xs.length:=by
 unfold z7N
 rw[F0,M9]
 lia
noncomputable def ziI(K:W.Frag):V->Option Int->Option Int->Hp->VK->Prop:=fun x lo hi H Q=> ∃a xs,x= .ref a/\SqT K H a xs/\
 ¬(HT.sIx xs.length 0 lo=0/\HT.sIx xs.length xs.length hi=xs.length)/\∀p,H p=none->Q (.ref p) (upd H p (.tup (z7N xs lo hi)))
theorem zdL:SlR X (ziI X.K):=by
 intro pins s σ H x v vl vu lo hi sl Q I rx hs pl pu h
 obtain⟨a,xs,rfl,hx,hw,q⟩:=h
 cases rx
 obtain⟨its,r,ht,hz⟩:=I.tuple hx
 have hlen:its.toArray.size=xs.length:=by rw[l7];exact r.length.symm
 refine⟨"tuple",_,PyProof.Rows.slot_tuple_getitem.lookup,ht.typeIs, ?_⟩
 refine HT.getItem_tuple_cut ht hs pl pu (by rw[hlen];exact hw) ?_ (by rw[hlen];exact hz)
 rw[hlen]
 refine⟨.ref s.heap.objs.size,_,I.laid (t':=s.toks) (o:= .tup (z7N xs lo hi)) (fun b ob q=>Heap.get?_push_of_some _ q) (i4 _) ?_,rfl,q _ (I.hok.fresh (i4 _))⟩
 exact⟨C0 (z2n xs lo hi) hz,_,(r.drop (HT.sIx xs.length 0 lo)).take (HT.sIx xs.length xs.length hi -HT.sIx xs.length 0 lo),IsTup.new _ _⟩
noncomputable def zgF(K:W.Frag):R2:=fun x y H Q=> ∃a b xs ys,x= .ref a/\y= .ref b/\SqT K H a xs/\SqT K H b ys/\xs≠[]/\xs.length+ys.length<=sizeLine/\
 (ys=[]->Q (.ref a) H)/\(ys≠[]->∀p,H p=none->Q (.ref p) (upd H p (.tup (xs++ys))))
theorem J0.nil_iff{xs:List V}{us:List Value}(r:J0 xs us):us=[]↔xs=[]:=by
 cases r with
 |nil=>simp
 |cons _ _=>simp
theorem zbP:OpR X (binaryOp .Add) (zgF X.K):=by
 intro pins s σ H x y v u Q I rx ry h
 obtain⟨a,b,xs,ys,rfl,rfl,ha,hb,hx,hz,q1,q2⟩:=h
 cases rx
 cases ry
 obtain⟨its,r1,p1,_⟩:=I.tuple ha
 obtain⟨its2,r2,p2,_⟩:=I.tuple hb
 refine HT.cat_tup p1 p2 (fun z=>hx (r1.nil_iff.mp z)) (fun z=>⟨.ref a,H,I,rfl,q1 (r2.nil_iff.mp z)⟩) (fun z=> ?_) (by rw[<-r1.length,<-r2.length];exact hz)
 refine⟨.ref s.heap.objs.size,_,I.laid (t':=s.toks) (o:= .tup (xs++ys)) (fun b ob q=>Heap.get?_push_of_some _ q) (i4 _) ?_,rfl,q2 (fun w=>z (r2.nil_iff.mpr w)) _ (I.hok.fresh (i4 _))⟩
 exact⟨by rw[m7];exact hz,_,r1.append r2,IsTup.new _ _⟩
end
noncomputable def ixN(n:Nat)(i:Int):Option Nat:=if 0<=i then(if i<n then some i.toNat else none) else if -(n:Int)<=i then some (i+n).toNat else none
noncomputable def atI{α:Type}(xs:List α)(i:Int):Option α:=(ixN xs.length i).bind fun j=>xs[j]?
theorem z7O{n:Nat}{i:Int}{j:Nat}(h:ixN n i=some j):seqIndex? i n=some j/\j<n/\-(n:Int)<=i/\i<n:=by
 unfold ixN at h
 by_cases h0:0<=i
 ·rw[if_pos h0] at h
  by_cases h1:i<n
  ·rw[if_pos h1] at h
   have e:i.toNat=j:=Option.some.inj h
   exact⟨by rw[seqIndex_of h0 h1,e],by lia,by lia,h1⟩
  ·rw[if_neg h1] at h;cases h
 ·rw[if_neg h0] at h
  by_cases h1: -(n:Int)<=i
  ·rw[if_pos h1] at h
   have e:(i+n).toNat=j:=Option.some.inj h
   exact⟨by rw[seqIndex_neg (by lia) h1,e],by lia,h1,by lia⟩
  ·rw[if_neg h1] at h;cases h
theorem z7P{α:Type}{xs:List α}{i:Int}{v:α}(h:atI xs i=some v): ∃j,seqIndex? i xs.length=some j/\xs[j]? =some v/\j<xs.length/\-(xs.length:Int)<=i/\i<xs.length:=by
 unfold atI at h
 cases e:ixN xs.length i with
 |none=>rw[e] at h;cases h
 |some j=>
  rw[e] at h
  obtain⟨h1,h2,h3,h4⟩:=z7O e
  exact⟨j,h1,h,h2,h3,h4⟩
theorem zbQ{α:Type}{xs:List α}{j:Nat}{v:α}(h:xs[j]? =some v):atI xs (j:Int)=some v:=by
 have hj:j<xs.length:=(List.getElem?_eq_some_iff.mp h).1
 have e:ixN xs.length (j:Int)=some j:=by
  unfold ixN
  rw[if_pos (by lia),if_pos (by lia)];simp
 unfold atI;rw[e];exact h
noncomputable def z0v(b:Expr):Prop:= ∀o i,subscripted b false o i=operate [o,i] (getItem o i)
noncomputable def IxR(X:Cx)(r:R2):Prop:=
 ∀(value slice:Expr) (pins:List (Addr×Obj)) (s:Shared) (σ:St) (H:Hp) (x y:V) (v u:Value) (Q:VK),Inv X pins σ H s->RelV x v->RelV y u->r x y H Q->
  subscripted slice false v u=operate [v,u] (getItem v u)->wpAny (model X.prog X.w) X.A (subscriptTail value slice v u) (EP X pins σ Q) X.xe s
noncomputable def MtR(X:Cx)(id:String)(r:V->List V->Hp->VK->Prop):Prop:=
 ∀(pins:List (Addr×Obj)) (s:Shared) (σ:St) (H:Hp) (x:V) (xs:List V) (v:Value) (us:List Value) (Q:VK),Inv X pins σ H s->RelV x v->J0 xs us->r x xs H Q->
  wpAny (model X.prog X.w) X.A (call (.builtin id) (v::us)) (EP X pins σ Q) X.xe s
section
variable{X:Cx}{a b:Expr}{ta tb:TE}{pos:Pos}
theorem IxR.or{r r':R2}(h:IxR X r)(h':IxR X r'):IxR X (fun x y H Q=>r x y H Q\/r' x y H Q):=by
 intro value slice pins s σ H x y v u Q I rx ry q hs
 rcases q with q|q
 ·exact h value slice pins s σ H x y v u Q I rx ry q hs
 ·exact h' value slice pins s σ H x y v u Q I rx ry q hs
theorem zgG{r:R2}(hr:IxR X r)(ha:PE X a ta)(hb:PE X b tb)(hs:z0v b):PE X (.Subscript a b pos) (tOp r ta tb):=by
 intro pins s σ H Q I h
 exact Subscript_ (zgs ha hb I h fun v u s2 x y H2 I2 rx ry q=>hr a b pins s2 σ H2 x y v u Q I2 rx ry q (hs _ _))
noncomputable def zid(K:W.Frag):R2:=fun x y H Q=> ∃p xs i v,x= .ref p/\y= .int i/\SqL K H p xs/\atI xs i=some v/\Q v H
noncomputable def zie(K:W.Frag):R2:=fun x y H Q=> ∃p xs i v,x= .ref p/\y= .int i/\SqT K H p xs/\atI xs i=some v/\Q v H
theorem zbR:IxR X (zid X.K):=by
 intro value slice pins s σ H x y v u Q I rx ry h hs
 obtain⟨p,xs,i,z,rfl,rfl,hq,he,q⟩:=h
 cases rx
 obtain⟨t,rfl⟩:=ry
 obtain⟨its,r,pl,hz⟩:=I.list hq
 obtain⟨j,h1,h2,h3,h4,h5⟩:=z7P he
 obtain⟨w,ew,rw'⟩:=r.get h2
 have hl:=r.length
 have hn:=z4E
 have fin:EP X pins σ Q w s:=⟨z,H,I,rw',q⟩
 by_cases h0:0<=i
 ·have hj:i.toNat=j:=by
   rw[seqIndex_of h0 h5] at h1
   exact Option.some.inj h1
  exact item_listR pl.isList h0 (by lia) (by rw[hj];simpa using ew) fin hs
 ·have hj:(i+(its.toArray.size:Int)).toNat=j:=by
   rw[seqIndex_neg (by lia) h4] at h1
   rw[l7,<-hl]
   exact Option.some.inj h1
  exact subscriptTail_builtinR (x:=w) pl.isList.typeIs slot_list_getitem.lookup
   (wpAny_getItem_list_neg (Q:=fun r s'=>r=w/\EP X pins σ Q r s') pl.isList (by lia) (by rw[l7]<;>lia) (by lia) (by rw[hj];simpa using ew) ⟨rfl,fin⟩) hs
theorem zdM:IxR X (zie X.K):=by
 intro value slice pins s σ H x y v u Q I rx ry h hs
 obtain⟨p,xs,i,z,rfl,rfl,hq,he,q⟩:=h
 cases rx
 obtain⟨t,rfl⟩:=ry
 obtain⟨its,r,pl,hz⟩:=I.tuple hq
 obtain⟨j,h1,h2,h3,h4,h5⟩:=z7P he
 obtain⟨w,ew,rw'⟩:=r.get h2
 have hl:=r.length
 have hn:=z4E
 have fin:EP X pins σ Q w s:=⟨z,H,I,rw',q⟩
 exact subscriptTail_builtinR (x:=w) pl.typeIs slot_tuple_getitem.lookup
  (getItem_tuple (j:=j) (Q:=fun r s'=>r=w/\EP X pins σ Q r s') pl (by lia) (by lia) (by rw[l7,<-hl];exact h1) (by simpa using ew) ⟨rfl,fin⟩) hs
theorem z6X(its:List Value)(n j:Nat)(u:Value):Obj.mapSeq (·.setIfInBounds j u) {cls:= .type "list",data:= .seq its.toArray n}={cls:= .type "list",data:= .seq (its.set j u).toArray n}:=by
 simp[Obj.mapSeq]
theorem Inv.lst{pins:List (Addr×Obj)}{σ:St}{H:Hp}{s:Shared}{p:Addr}{xs:List V}(I:Inv X pins σ H s)(h:H p=some (.lst xs)):
 ∃(its:List Value) (n:Nat),J0 xs its/\s.heap.get? p=some {cls:= .type "list",data:= .seq its.toArray n}/\xs.length<=sizeLine:=by
 obtain⟨z,its,n,r,e⟩:=I.hok p _ h
 exact⟨its,n,r,e,z⟩
theorem Inv.lstUpd{pins:List (Addr×Obj)}{σ:St}{H:Hp}{s:Shared}{p:Addr}{xs ys:List V}{its its':List Value}{n n':Nat}{f:Obj->Obj}(I:Inv X pins σ H s)(h:H p=some (.lst xs))
 (ho:s.heap.get? p=some {cls:= .type "list",data:= .seq its.toArray n}) (hf:f {cls:= .type "list",data:= .seq its.toArray n}={cls:= .type "list",data:= .seq its'.toArray n'}) (r:J0 ys its') (hz:ys.length<=sizeLine) (t:Nat):
 Inv X pins σ (upd H p (.lst ys)) {s with heap:=s.heap.update p f,toks:=t}:=by
 have e:(s.heap.update p f).get? p=some {cls:= .type "list",data:= .seq its'.toArray n'}:=by
  rw[Heap.get?_update_self f ho (by rw[hf]<;>rfl),hf]
 refine I.write (x:=p) (e:=p) (by rw[h];trivial) (.inl rfl) (fun b u hb q=>(Heap.get?_update_other _ _ (Ne.symm hb)).trans q) ⟨_,e⟩ ?_
 exact⟨hz,its',n',r,e⟩
noncomputable def z38:V->V->V->Hp->(Hp->Prop)->Prop:=fun o i v H Q=> ∃p xs k j,o= .ref p/\i= .int k/\H p=some (.lst xs)/\ixN xs.length k=some j/\Q (upd H p (.lst (xs.set j v)))
theorem z1r:zia X z38:=by
 intro pins s σ H o i v ov iv u Q I ro ri rv h
 obtain⟨p,xs,k,j,rfl,rfl,hp,hj,q⟩:=h
 cases ro
 obtain⟨t,rfl⟩:=ri
 obtain⟨its,n,r,ho,hz⟩:=I.lst hp
 obtain⟨h1,h2,h3,h4⟩:=z7O hj
 have hl:=r.length
 have hn:=z4E
 have I':Inv X pins σ (upd H p (.lst (xs.set j v))) {s with heap:=s.heap.update p (Obj.mapSeq (·.setIfInBounds j u))}:=
  I.lstUpd hp ho (z6X its n j u) (r.set rv j) (by rw[N7];exact hz) s.toks
 by_cases h0:0<=k
 ·have hk:k.toNat=j:=by
   rw[seqIndex_of h0 h4] at h1
   exact Option.some.inj h1
  exact W.ki_setAt ho h0 (by lia) (by rw[l7,<-hl];exact h4) (by rw[hk];exact⟨_,I',q⟩)
 ·have hk:(k+(its.toArray.size:Int)).toNat=j:=by
   rw[seqIndex_neg (by lia) h3] at h1
   rw[l7,<-hl]
   exact Option.some.inj h1
  exact W.ki_setBack ho (by lia) (by rw[l7,<-hl];exact h3) (by lia) (by rw[hk];exact⟨_,I',q⟩)
theorem z4K(lo hi:Option Int)(n:Nat):(sliceBounds lo hi none n).1=((HT.sIx n 0 lo:Nat):Int)/\(sliceBounds lo hi none n).2.1=((HT.sIx n n hi:Nat):Int)/\(sliceBounds lo hi none n).2.2=1:=by
 refine⟨?_, ?_,rfl⟩
 ·cases lo with
  |none=>simp[sliceBounds,HT.sIx]
  |some i=>
   erw[sliceBounds,HT.sIx,N1,show(1:Int)>0 by decide,if_true]
   by_cases h:i<0
   ·erw[h,if_true]<;>lia
   ·erw[h,if_false]<;>lia
 ·cases hi with
  |none=>simp[sliceBounds,HT.sIx]
  |some i=>
   erw[sliceBounds,HT.sIx,N1,show(1:Int)>0 by decide,if_true]
   by_cases h:i<0
   ·erw[h,if_true]<;>lia
   ·erw[h,if_false]<;>lia
theorem z3Q(its:List Value)(lo hi:Option Int):slicePick its.toArray lo hi none=((its.drop (HT.sIx its.length 0 lo)).take (HT.sIx its.length its.length hi -HT.sIx its.length 0 lo)).toArray:=by
 obtain⟨h1,h2,h3⟩:=z4K lo hi its.toArray.size
 unfold slicePick
 rw[h1,h2,h3]
 erw[sliceRange_one,pick_run,l7]<;>rfl
noncomputable def zgH(K:W.Frag):V->Option Int->Option Int->Hp->VK->Prop:=fun x lo hi H Q=> ∃a xs,x= .ref a/\SqL K H a xs/\∀p,H p=none->Q (.ref p) (upd H p (.lst (z7N xs lo hi)))
theorem zbS:SlR X (zgH X.K):=by
 intro pins s σ H x v vl vu lo hi sl Q I rx hs pl pu h
 obtain⟨a,xs,rfl,hx,q⟩:=h
 cases rx
 obtain⟨its,r,ht,hz⟩:=I.list hx
 have hlen:=r.length
 refine⟨"list",_,slot_list_getitem.lookup,ht.isList.typeIs, ?_⟩
 refine wpAny_getItem_list_slice ht.isList hs pl pu .none (by simp) ?_ (by rw[l7]<;>lia)
 rw[z3Q,<-hlen]
 refine⟨.ref s.heap.objs.size,_,I.laid (t':=s.toks) (o:= .lst (z7N xs lo hi)) (fun b ob q=>Heap.get?_push_of_some _ q) (i4 _) ?_,rfl,q _ (I.hok.fresh (i4 _))⟩
 exact⟨C0 (z2n xs lo hi) hz,_,0,(r.drop (HT.sIx xs.length 0 lo)).take (HT.sIx xs.length xs.length hi -HT.sIx xs.length 0 lo),Heap.get?_push_size _ rfl⟩
theorem z4L:CallR X (.builtin "len") (fun xs H Q=> ∃p ys,xs=[.ref p]/\(SqL X.K H p ys\/SqT X.K H p ys)/\Q (.int ys.length) H):=by
 intro pins s σ H xs us Q I r h
 obtain⟨p,ys,rfl,hq,q⟩:=h
 obtain⟨u,rfl,rx⟩:=z3O r
 cases rx
 have hn:=z4E
 rcases hq with hq|hq
 ·obtain⟨its,r',pl,hz⟩:=I.list hq
  have hlen:=r'.length
  exact Calls.call_len_list pl.isList (by erw[l7]<;>lia) ⟨.int ys.length,H,I.tok _,⟨s.toks+1,by rw[l7,hlen]⟩,q⟩
 ·obtain⟨its,r',pl,hz⟩:=I.tuple hq
  have hlen:=r'.length
  exact len_tuple pl (by erw[l7]<;>lia) ⟨.int ys.length,H,I.tok _,⟨s.toks+1,by rw[l7,hlen]⟩,q⟩
theorem z4M:CallR X (.type "list") (fun xs H Q=> ∃p ys,xs=[.ref p]/\(SqL X.K H p ys\/SqT X.K H p ys)/\∀l,H l=none->Q (.ref l) (upd H l (.lst ys))):=by
 intro pins s σ H xs us Q I r h
 obtain⟨p,ys,rfl,hq,q⟩:=h
 obtain⟨u,rfl,rx⟩:=z3O r
 cases rx
 have fin: ∀(its:List Value),J0 ys its->ys.length<=sizeLine->∀(h':Heap) (c':Nat),(∀b o',s.heap.get? b=some o'->h'.get? b=some o')->
  h'.get? s.heap.objs.size=some {cls:= .type "list",dict:=none,data:= .seq its.toArray c',slots:= #[]}->EP X pins σ Q (.ref s.heap.objs.size) {s with heap:=h'}:=fun its r' hz h' c' kp e=>
  ⟨.ref s.heap.objs.size,_,I.laid (t':=s.toks) kp (i4 _) (show z00 X.prog X.w _ h' _ (.lst ys) from⟨hz,its,c',r',e⟩),rfl,q _ (I.hok.fresh (i4 _))⟩
 rcases hq with hq|hq
 ·obtain⟨its,r',pl,hz⟩:=I.list hq
  have hlen:=r'.length
  obtain⟨o,ho,hc,n,hd⟩:=pl.isList
  exact call_list_seq p (.inl rfl) ho hc hd (fun h' c' kp e=>fin its r' hz h' c' kp e) (by erw[l7]<;>lia)
 ·obtain⟨its,r',pl,hz⟩:=I.tuple hq
  have hlen:=r'.length
  obtain⟨o,ho,hc,n,hd⟩:=pl
  exact call_list_seq p (.inr rfl) ho hc hd (fun h' c' kp e=>fin its r' hz h' c' kp e) (by erw[l7]<;>lia)
theorem z3R:CallR X (.type "tuple") (fun xs H Q=> ∃p ys,xs=[.ref p]/\((SqL X.K H p ys/\∀l,H l=none->Q (.ref l) (upd H l (.tup ys)))\/(SqT X.K H p ys/\Q (.ref p) H))):=by
 intro pins s σ H xs us Q I r h
 obtain⟨p,ys,rfl,h⟩:=h
 obtain⟨u,rfl,rx⟩:=z3O r
 cases rx
 rcases h with⟨hq,q⟩|⟨hq,q⟩
 ·obtain⟨its,r',pl,hz⟩:=I.list hq
  have hlen:=r'.length
  refine call_tuple_list pl.isList (fun h' kp=> ?_) (by erw[l7]<;>lia)
  have I1:Inv X pins σ H {s with heap:=h'}:=I.kept (t':=s.toks) kp
  have I2:Inv X pins σ (upd H h'.objs.size (.tup ys)) {s with heap:=h'.push {cls:= .type "tuple",data:= .seq its.toArray}}:=
   I1.laid (t':=s.toks) (fun b o e=>Heap.get?_push_of_some _ e) (i4 _) (show z00 X.prog X.w _ _ _ (.tup ys) from⟨hz,its,r',IsTup.new _ _⟩)
  exact⟨.ref h'.objs.size,_,I2,rfl,q _ (I1.hok.fresh (i4 _))⟩
 ·obtain⟨its,r',pl,hz⟩:=I.tuple hq
  exact call_tuple_same pl ⟨.ref p,H,I,rfl,q⟩
noncomputable def tyV(K:W.Frag)(T:String)(x:V)(H:Hp):Prop:=match x with
 | .str _=>T= "str"
 | .int _=>T= "int"
 | .ref p=>(T= "list" /\∃xs,SqL K H p xs)\/(T= "tuple" /\∃o,K.lookup p=some o/\o.cls= .type "tuple" /\o.dict=none)\/
  (T= "dict" /\((∃kvs,H p=some (.dK kvs))\/∃kvs,H p=some (.dT kvs)))\/(T= "set" /\∃S n,H p=some (.set S n))
 |_=>False
theorem zdN{pins:List (Addr×Obj)}{σ:St}{H:Hp}{s:Shared}{T:String}{x:V}{v:Value}(I:Inv X pins σ H s)(r:RelV x v)(ty:tyV X.K T x H):
 s.TypeIs v T/\∀a,v= .ref a->∃ob,s.heap.get? a=some ob/\ob.dict=none:=by
 cases x with
 |str z=>
  obtain⟨t,rfl⟩:=r
  cases(show T= "str" from ty)
  exact⟨typeIs_str s z t,fun _ e=>nomatch e⟩
 |int i=>
  obtain⟨t,rfl⟩:=r
  cases(show T= "int" from ty)
  exact⟨typeIs_int s i t,fun _ e=>nomatch e⟩
 |ref p=>
  cases r
  rcases ty with⟨rfl,xs,hq⟩|⟨rfl,o,hk,hc,hd⟩|⟨rfl,hk⟩|⟨rfl,S,n,hk⟩
  ·obtain⟨its,_,pl,_⟩:=I.list hq
   refine⟨pl.isList.typeIs,fun a e=> ?_⟩
   cases e
   obtain⟨o,n,e,c,hd,_⟩:=pl
   exact⟨o,e,hd⟩
  ·refine⟨⟨o,I.kIn p o hk,hc⟩,fun a e=> ?_⟩
   cases e
   exact⟨o,I.kIn _ o hk,hd⟩
  ·have z: ∃o,s.heap.get? p=some o/\o.ExactDict:=by
    rcases hk with⟨kvs,hk⟩|⟨kvs,hk⟩
    ·obtain⟨_,_,_,_,o,_,_,e,ex,_⟩:=I.hok p _ hk
     exact⟨o,e,ex⟩
    ·obtain⟨_,_,_,_,o,_,_,e,ex,_⟩:=I.hok p _ hk
     exact⟨o,e,ex⟩
   obtain⟨o,e,ex⟩:=z
   refine⟨⟨o,e,ex.1⟩,fun a e2=> ?_⟩
   cases e2
   exact⟨o,e,ex.2.1⟩
  ·obtain⟨o,_,_,_,e,ex,_⟩:=I.hok p _ hk
   refine⟨⟨o,e,ex.1⟩,fun a e2=> ?_⟩
   cases e2
   exact⟨o,e,ex.2.1⟩
 |_=>exact False.elim ty
noncomputable def tBM(K:W.Frag)(T:String)(r:V->List V->Hp->VK->Prop)(to:TE)(t:TA):TE:=fun σ H Q=>to σ H fun x H1=>tyV K T x H1/\t σ H1 fun xs H2=>r x xs H2 Q
variable{o e:Expr}{es:List Expr}{to:TE}{t:TA}{name:Str}{apos cpos:Pos}{T id:String}{r:V->List V->Hp->VK->Prop}
theorem zgI(pa:PlainAttrs T)(slot:Slot T name id)(hty:typeOf (.builtin id)=pure (.type "method_descriptor"))(hm:MtR X id r)(ho:PE X o to)(ha:PA X (e::es) t)
 (hbase:attributeBase o name X.env (eval o X.env)=eval o X.env:=by rfl)
 (hfew:((backTo cpos (starEach (e::es) X.env)).all (fun x=> !x.1)&&(backToKw cpos (keywordEach [] X.env)).all (fun x=>x.1.isSome)
  &&decide ((e::es).length+([]:List Keyword).length+(if([]:List Keyword).isEmpty then 0 else 1)<30))=true:=by rfl)
 (hline:(apos.endLine==cpos.line)=true:=by rfl) (hs:starEach (e::es) X.env=(false,eval e X.env)::starEach es X.env:=by rfl) (hplain:(backTo cpos (starEach es X.env)).any (·.1)=false:=by rfl):
 PE X (.Call (.Attribute o name apos) (e::es) [] cpos) (tBM X.K T r to t):=by
 intro pins s σ H Q I h
 refine wpAny_Call_method_late hbase hfew hline rfl (thn (ho pins s σ H _ I h) fun v s1 ⟨x,H1,I1,r1,ty,q1⟩=> ?_)
 obtain⟨h1,h2⟩:=zdN I1 r1 ty
 refine⟨T,id,pa,slot,hty,h1,h2, ?_⟩
 have hA:=ha cpos pins s1 σ H1 _ I1 q1
 rw[hs] at hA⊢
 refine Calls.callWith_builtin (by show(false||(backTo cpos (starEach es X.env)).any (·.1))=false;rw[hplain]<;>rfl) (Calls.evalArgs_plain ?_)
 exact thn hA fun us s2 ⟨vs,H2,I2,r2,q2⟩=>hm pins s2 σ H2 x vs v us Q I2 r1 r2 q2
end
noncomputable def MtM(X:Cx)(id:String)(r:V->List V->Hp->VK->Prop):Prop:=
 ∀(pins:List (Addr×Obj)) (s:Shared) (σ:St) (H:Hp) (x:V) (xs:List V) (v:Value) (us:List Value) (Q:VK),Inv X pins σ H s->RelV x v->J0 xs us->r x xs H Q->
  wpAny (model X.prog X.w) X.A (call (.builtin id) (v::us)) (EP X pins σ Q) X.xe s
theorem J0.one: ∀{x:V} {us:List Value},J0 [x] us->∃u,us=[u]/\RelV x u
 |_,_, .cons r .nil=>⟨_,rfl,r⟩
theorem J0.rep{xs:List V}{us:List Value}(h:J0 xs us): ∀k:Nat,J0 (l5 k xs).flatten (l5 k us).flatten
 |0=> .nil
 |k+1=>by
  rw[B5,B5,D2,D2]
  exact J0.append h (J0.rep h k)
theorem z2o(its:List Value): ∀(k:Nat) (acc:List Value),
 O4 (fun x1 x2=>x1++x2) acc.toArray (l5 k its.toArray)=(acc++(l5 k its).flatten).toArray
 |0,acc=>by simp
 |k+1,acc=>by
  have e:acc.toArray++its.toArray=(acc++its).toArray:=by simp
  have e2:(acc++its)++(l5 k its).flatten=acc++(l5 (k+1) its).flatten:=by
   rw[B5,D2,r6]
  rw[<-e2,<-z2o its k (acc++its),<-e,B5,N8]
section
variable{X:Cx}{pins:List (Addr×Obj)}{σ:St}{H:Hp}{s:Shared}{l b:Addr}{xs ys zs:List V}
theorem Inv.lset{its its':List Value}{n:Nat}{f:Array Value->Array Value}{t':Nat}(I:Inv X pins σ H s)(hH:H l=some (.lst xs))
 (e:s.heap.get? l=some {cls:= .type "list",data:= .seq its.toArray n}) (hf:f its.toArray=its'.toArray) (hv:J0 ys its') (hz:ys.length<=sizeLine):
 Inv X pins σ (upd H l (.lst ys)) {s with heap:=s.heap.update l (Obj.mapSeq f),toks:=t'}:=by
 have q:=PySem.IsL.update e f
 rw[hf] at q
 refine I.write (x:=l) (e:=l) (by rw[hH];exact trivial) (.inl rfl) (fun b' u hb hu=>(Heap.get?_update_other s.heap (Obj.mapSeq f) (Ne.symm hb)).trans hu) ⟨_,q⟩ ?_
 exact⟨hz,its',_,hv,q⟩
theorem Inv.lnew{its:List Value}{t':Nat}(I:Inv X pins σ H s)(hv:J0 ys its)(hz:ys.length<=sizeLine):
 Inv X pins σ (upd H s.heap.objs.size (.lst ys)) {s with heap:=s.heap.push {cls:= .type "list",data:= .seq its.toArray},toks:=t'}:=
 I.laid (fun _ _ q=>Heap.get?_push_of_some _ q) (i4 _) ⟨hz,its,0,hv,Heap.get?_push_size _ rfl⟩
theorem Inv.fresh(I:Inv X pins σ H s):H s.heap.objs.size=none:=I.hok.fresh (i4 _)
theorem Inv.lstM(I:Inv X pins σ H s)(hH:H l=some (.lst xs)):xs.length<=sizeLine/\∃(its:List Value) (n:Nat),J0 xs its/\xs.length=its.length/\s.heap.get? l=some {cls:= .type "list",data:= .seq its.toArray n}:=by
 obtain⟨z,its,n,r,e⟩:=I.hok l _ hH
 exact⟨z,its,n,r,r.length,e⟩
theorem z9N{n:Nat}(h:n<=sizeLine):Builtin.List.listTooLong n=false:=by
 unfold Builtin.List.listTooLong
 exact decide_eq_false (by lia)
end
section
variable{X:Cx}
noncomputable def z7Q:V->List V->Hp->VK->Prop:=fun x vs H Q=> ∃l xs y,x= .ref l/\vs=[y]/\H l=some (.lst xs)/\xs.length<sizeLine/\Q .non (upd H l (.lst (xs++[y])))
theorem z1s:MtM X "list.append" z7Q:=by
 intro pins s σ H x vs v us Q I rx rv h
 obtain⟨l,xs,y,rfl,rfl,hH,hz,q⟩:=h
 cases rx
 obtain⟨u,rfl,ru⟩:=rv.one
 obtain⟨z,its,n,r,hl,e⟩:=I.lstM hH
 refine call_meets F.slot_list_append ⟨_,e,rfl⟩ F.entry_list_append (F.args_list_append_2 _ _) (PySem.list_append l its.toArray n u (by rw[l7];lia)) ⟨e, ?_⟩
 refine⟨.non,_,I.lset (its':=its++[u]) hH e (by simp) (r.append (.cons ru .nil)) ?_,rfl,q⟩
 rw[m7,M8]
 lia
noncomputable def zdO:R2:=fun x y H Q=> ∃l b xs zs,x= .ref l/\y= .ref b/\H l=some (.lst xs)/\H b=some (.lst zs)/\xs.length+zs.length<=sizeLine/\∀p,H p=none->Q (.ref p) (upd H p (.lst (xs++zs)))
theorem zaR:OpR X (binaryOp .Add) zdO:=by
 intro pins s σ H x y v u Q I rx ry h
 obtain⟨l,b,xs,zs,rfl,rfl,hH,hB,hz,q⟩:=h
 cases rx
 cases ry
 obtain⟨z,its,n,r,hl,e⟩:=I.lstM hH
 obtain⟨z2,its2,n2,r2,hl2,e2⟩:=I.lstM hB
 refine PySem.P.add_list e e2 ?_ (by rw[l7,l7];lia)
 have ea:its.toArray++its2.toArray=(its++its2).toArray:=by simp
 rw[ea]
 exact⟨.ref _,_,I.lnew (t':=s.toks) (r.append r2) (by rw[m7];lia),rfl,q _ I.fresh⟩
noncomputable def zgJ:R2:=fun x y H Q=> ∃l k xs,x= .ref l/\y= .int k/\H l=some (.lst xs)/\-(2^63)<=k/\k<2^63/\xs.length*k.toNat<=sizeLine/\
 ∀p,H p=none->Q (.ref p) (upd H p (.lst (l5 k.toNat xs).flatten))
theorem z5y{α:Type}(xs:List α)(k:Nat):(l5 k xs).flatten.length=k*xs.length:=by
 induction k with
 |zero=>simp
 |succ k ih=>rw[B5,D2,m7,ih,Nat.succ_mul,Nat.add_comm]
theorem zdP:OpR X (binaryOp .Mult) zgJ:=by
 intro pins s σ H x y v u Q I rx ry h
 obtain⟨l,k,xs,rfl,rfl,hH,h1,h2,hz,q⟩:=h
 cases rx
 obtain⟨t,rfl⟩:=ry
 obtain⟨z,its,n,r,hl,e⟩:=I.lstM hH
 have hlen:its.toArray.size*k.toNat<=sizeLine:=by rw[l7,<-hl];exact hz
 have hcap: ¬its.toArray.size*k.toNat>(2^63 - 1)/8:=by
  have:(sizeLine:Nat)<=(2^63 - 1)/8:=by decide
  lia
 have hfit: ¬(!Builtin.List.listFitsIndex k)=true:=by
  rw[fitsIndex_both h1 h2]
  exact A6
 have hlong: ¬Builtin.List.listTooLong (its.toArray.size*k.toNat)=true:=by
  rw[z9N hlen]
  exact A6
 have hnew:O4 (fun x1 x2=>x1++x2) #[] (l5 (if its.toArray.isEmpty=true then 0 else k.toNat) its.toArray)=(l5 k.toNat its).flatten.toArray:=by
  have f0: ∀m:Nat,O4 (fun x1 x2=>x1++x2) #[] (l5 m its.toArray)=(l5 m its).flatten.toArray:=fun m=>by
   have:=z2o its m []
   rw[m8] at this
   exact this
  rw[f0]
  cases its with
  |nil=>simp
  |cons a r'=>rw[if_neg (by simp)]
 refine wpAny_binaryOp_repeat_ref (T:= "list") (U:= "int") (by decide) ⟨_,e,rfl⟩ (fun s'=>typeIs_int s' k t) noFill_list_mul F.fills_int_mul F.slot_int_rmul repeat_list F.slot_int_index.lookup
  (call_meets F.slot_int_rmul (typeIs_int s k t) F.entry_int_rmul (F.args_int_rmul_2 _ _) (int___rmul___int_list k t l its.toArray n)
   ⟨e,rfl,⟨_,e,rfl⟩,call_meets F.slot_list_mul ⟨_,e,rfl⟩ F.entry_list_mul (F.args_list_mul_2 _ _) (AutoListH.list___mul___list_int_3 l its.toArray n k t hfit hcap hlong) ⟨e, ?_⟩⟩)
 rw[hnew]
 exact⟨.ref _,_,I.lnew (t':=s.toks) (r.rep k.toNat) (by rw[z5y,S0];exact hz),rfl,q _ I.fresh⟩
end
section
variable{prog:Program}{w:World}{A:Around}{E:Value->Shared->Prop}{s:Shared}
set_option maxRecDepth 100000 in
end
section
variable{κ:Type}[DecidableEq κ]
noncomputable def valV(kvs:List (κ×V))(k:κ):Option V:=(kvs.find? fun kv=>decide (kv.1=k)).map (·.2)
noncomputable def z5t(kvs:List (κ×V))(k:κ)(v:V):List (κ×V):=
 if(kvs.any fun kv=>decide (kv.1=k))=true then kvs.map (fun kv=>if kv.1=k then(kv.1,v) else kv) else kvs++[(k,v)]
theorem z2h{p:κ×V}{r:List (κ×V)}{k:κ}(e:p.1=k):valV (p::r) k=some p.2:=by simp[valV,List.find?_cons,e]
theorem z2i{p:κ×V}{r:List (κ×V)}{k:κ}(e: ¬p.1=k):valV (p::r) k=valV r k:=by simp[valV,List.find?_cons,e]
theorem z6d(k:κ): ∀kvs:List (κ×V),(kvs.any fun kv=>decide (kv.1=k))=(valV kvs k).isSome
 |[]=>rfl
 |p::r=>by
  rw[R6]
  by_cases e:p.1=k
  ·erw[z2h e,decide_eq_true e,T6,F7]
  ·rw[z2i e,decide_eq_false e,T5];exact z6d k r
theorem z2p(kvs:List (κ×V))(k:κ)(v:V):(z5t kvs k v).length<=kvs.length+1:=by
 unfold z5t
 split
 ·rw[A3];lia
 ·rw[m7,l8,t5];lia
theorem RelO.isSome_eq{o:Option V}{u:Option Value}(r:RelO o u):o.isSome=u.isSome:=by
 cases o with
 |none=>cases u with
  |none=>rfl
  |some _=>exact(show False from r).elim
 |some _=>cases u with
  |none=>exact(show False from r).elim
  |some _=>rfl
theorem KV.val{kvs:List (κ×V)}{vs:List (κ×Value)}(r:KV kvs vs)(k:κ):RelO (valV kvs k) (valueAt vs k):=by
 unfold KV at r
 induction r with
 |nil=>exact True.intro
 | @cons p q ps qs h t ih=>
  obtain⟨h1,h2⟩:=h
  by_cases e:p.1=k
  ·have e':q.1=k:=h1.symm.trans e
   have b:valueAt (q::qs) k=some q.2:=by simp[valueAt,List.find?_cons,e']
   rw[z2h e,b];exact h2
  ·have e': ¬q.1=k:=fun z=>e (h1.trans z)
   have b:valueAt (q::qs) k=valueAt qs k:=by simp[valueAt,List.find?_cons,e']
   rw[z2i e,b];exact ih
theorem KV.any{kvs:List (κ×V)}{vs:List (κ×Value)}(r:KV kvs vs)(k:κ):(kvs.any fun kv=>decide (kv.1=k))=vs.any fun kv=>decide (kv.1=k):=by
 unfold KV at r
 induction r with
 |nil=>rfl
 |cons h t ih=>rw[R6,R6,ih,h.1]
theorem KV.repl{kvs:List (κ×V)}{vs:List (κ×Value)}(r:KV kvs vs)(k:κ){y:V}{u:Value}(ry:RelV y u):
 KV (kvs.map fun kv=>if kv.1=k then(kv.1,y) else kv) (vs.map fun kv=>if kv.1=k then(kv.1,u) else kv):=by
 unfold KV at r⊢
 induction r with
 |nil=>exact .nil
 | @cons p q ps qs h t ih=>
  rw[i6,i6]
  refine .cons ?_ ih
  obtain⟨h1,h2⟩:=h
  by_cases e:p.1=k
  ·rw[if_pos e,if_pos (h1.symm.trans e)];exact⟨h1,ry⟩
  ·rw[if_neg e,if_neg (fun z=>e (h1.trans z))];exact⟨h1,h2⟩
theorem KV.put{kvs:List (κ×V)}{vs:List (κ×Value)}(r:KV kvs vs)(k:κ){y:V}{u:Value}(ry:RelV y u):KV (z5t kvs k y) (stored vs k u):=by
 unfold z5t stored
 rw[r.any k]
 by_cases e:(vs.any fun kv=>decide (kv.1=k))=true
 ·rw[if_pos e,if_pos e];exact r.repl k ry
 ·rw[if_neg e,if_neg e];exact Paired.snoc r ⟨rfl,ry⟩
theorem KV.length{kvs:List (κ×V)}{vs:List (κ×Value)}(r:KV kvs vs):kvs.length=vs.length:=Paired.length r
end
theorem z9O{P:Program}{w:World}{k:Key}{u:Value}(r:RelV (kV k) u):(Q1 P w).is k u=true:=by
 cases k with
 |inl i=>obtain⟨t,e⟩:=(show ∃t,u=Value.int i t from r);subst e;exact z5v P w i t
 |inr x=>obtain⟨t,e⟩:=(show ∃t,u=Value.str x t from r);subst e;exact z5w P w x t
theorem z4N{P:Program}{w:World}: ∀{ks:List Key} {us:List Value},J0 (ks.map kV) us->ItemsAre (Q1 P w) ks us
 |[],_,r=>by rw[l9] at r;cases r;exact .nil
 |k::ks,_,r=>by
  rw[i6] at r
  cases r with
  |cons h t=>exact .cons (z9O h) (z4N t)
noncomputable abbrev KT(H:Hp):List (NK×V)->List (NK×Addr×Value)->Prop:=Paired fun p q=>p.1=q.1/\TK H p.1 q.2.1/\RelV p.2 q.2.2
theorem KT.val{H:Hp}{kvs:List (NK×V)}{xs:List (NK×Addr×Value)}(r:KT H kvs xs)(k:NK):RelO (valV kvs k) ((atKey xs k).map (·.2)):=by
 induction r with
 |nil=>exact True.intro
 | @cons p q ps qs h t ih=>
  obtain⟨h1,_,h2⟩:=h
  by_cases e:p.1=k
  ·have e':q.1=k:=h1.symm.trans e
   have b:atKey (q::qs) k=some q.2:=by simp[atKey,List.find?_cons,e']
   rw[z2h e,b];exact h2
  ·have e': ¬q.1=k:=fun z=>e (h1.trans z)
   have b:atKey (q::qs) k=atKey qs k:=by simp[atKey,List.find?_cons,e']
   rw[z2i e,b];exact ih
theorem KT.repl{H:Hp}{kvs:List (NK×V)}{xs:List (NK×Addr×Value)}(r:KT H kvs xs)(k:NK){y:V}{u:Value}(ry:RelV y u):
 KT H (kvs.map fun kv=>if kv.1=k then(kv.1,y) else kv) (xs.map (putAt k u)):=by
 induction r with
 |nil=>exact .nil
 | @cons p q ps qs h t ih=>
  rw[i6,i6]
  refine .cons ?_ ih
  obtain⟨h1,h2,h3⟩:=h
  unfold putAt
  by_cases e:p.1=k
  ·rw[if_pos e,if_pos (h1.symm.trans e)];exact⟨h1,h2,ry⟩
  ·rw[if_neg e,if_neg (fun z=>e (h1.trans z))];exact⟨h1,h2,h3⟩
theorem KT.put{H:Hp}{kvs:List (NK×V)}{xs:List (NK×Addr×Value)}(r:KT H kvs xs)(k:NK){b:Addr}{y:V}{u:Value}(hb:TK H k b)(ry:RelV y u):
 KT H (z5t kvs k y) (storedH xs k b u):=by
 have e:(kvs.any fun kv=>decide (kv.1=k))=(atKey xs k).isSome:=by
  rw[z6d,(r.val k).isSome_eq,Option.isSome_map]
 unfold z5t storedH
 rw[e]
 by_cases q:(atKey xs k).isSome=true
 ·rw[if_pos q,if_pos q];exact r.repl k ry
 ·rw[if_neg q,if_neg q];exact Paired.snoc r ⟨rfl,hb,ry⟩
theorem KT.keeps{H H':Hp}{kvs:List (NK×V)}{xs:List (NK×Addr×Value)}(r:KT H kvs xs)(ht: ∀b ys,H b=some (.tup ys)->H' b=some (.tup ys)):KT H' kvs xs:=
 Paired.mapP r fun _ _ z=>⟨z.1,z.2.1.stay ht,z.2.2⟩
section
variable{P:Program}{w:World}{H:Hp}{h:Heap}{a:Addr}
theorem zdQ{u:HO}(ok:HOk P w H h)(e:Rd H a u):z00 P w H h a u:=e.ok ok
theorem zbT{kvs:List (Key×V)}(ok:HOk P w H h)(e:Rd H a (.dK kvs)):kvs.length<=sizeLine/\(a==sysModules)=false/\∃vs,KV kvs vs/\h.DictOf (Q1 P w) a vs:=
 show z00 P w H h a (.dK kvs) from zdQ ok e
theorem zgK{kvs:List (Key×V)}(ok:HOk P w H h)(e:H a=some (.dK kvs)):kvs.length<=sizeLine/\(a==sysModules)=false/\∃vs,KV kvs vs/\h.DictOf (Q1 P w) a vs:=zbT ok (.inl e)
theorem zbU{ks:List Key}(ok:HOk P w H h)(e:H a=some (.tup (ks.map kV))):IsTupleKey (Q1 P w) h ks a:=by
 obtain⟨_,its,r,o,h1,h2,n,h3⟩:=(show z00 P w H h a (.tup (ks.map kV)) from ok a _ e)
 exact⟨o,its.toArray,n,h1,h2,h3,by simpa using z4N r⟩
theorem z5z(ok:HOk P w H h): ∀{k:NK} {xs:List V} {us:List Value},Paired (TKi H) k xs->J0 xs us->Paired (ItN P w h) k us
 |_,_,_, .nil, .nil=> .nil
 | .inl k::_,_,_, .cons a b, .cons c d=>by
  have e:=(show _=kV k from a)
  subst e
  exact .cons (z9O c) (z5z ok b d)
 | .inr ks::_,_,_, .cons a b, .cons c d=>by
  obtain⟨x,rfl,hx⟩:=a
  cases c
  exact .cons ⟨x,rfl,zbU ok hx⟩ (z5z ok b d)
theorem z7R{k:NK}(ok:HOk P w H h)(e:TK H k a):(z0P P w).is h k a:=by
 obtain⟨xs,e,p⟩:=e
 obtain⟨_,its,r,o,h1,h2,n,h3⟩:=(show z00 P w H h a (.tup xs) from ok a _ e)
 exact⟨o,its.toArray,n,h1,h2,h3,by simpa using z5z ok p r⟩
theorem zbV{kvs:List (NK×V)}(ok:HOk P w H h)(e:Rd H a (.dT kvs)):kvs.length<=sizeLine/\(a==sysModules)=false/\
 ∃xs,KT H kvs xs/\h.DictOfH (z0P P w) a xs:=by
 obtain⟨z,y,xs,r,o,es,ep,h1,h2,h3,h4,h5⟩:=(show z00 P w H h a (.dT kvs) from zdQ ok e)
 refine⟨z,y,xs,r,o,es,ep,h1,h2,h3,h4,fun x hx=> ?_,h5⟩
 have all: ∀{l:List (NK×V)} {m:List (NK×Addr×Value)},KT H l m->∀x∈m,(z0P P w).is h x.1 x.2.1:=by
  intro l m q
  induction q with
  |nil=>intro x hx;exact nomatch hx
  | @cons p q ps qs hq t ih=>
   intro x hx
   rcases i0.mp hx with e|hx
   ·subst e
    exact z7R ok (by rw[<-hq.1];exact hq.2.1)
   ·exact ih x hx
 exact all r x hx
theorem zgL{kvs:List (NK×V)}(ok:HOk P w H h)(e:H a=some (.dT kvs)):kvs.length<=sizeLine/\(a==sysModules)=false/\
 ∃xs,KT H kvs xs/\h.DictOfH (z0P P w) a xs:=zbV ok (.inl e)
end
noncomputable def zg7(H:Hp)(a:Addr)(y:V)(r:Option V):Prop:=
 (∃kvs k,Rd H a (.dK kvs)/\y=kV k/\r=valV kvs k)\/∃kvs k b,Rd H a (.dT kvs)/\y= .ref b/\TK H k b/\r=valV kvs k
noncomputable def zd9(H:Hp)(a:Addr)(y v:V)(H':Hp):Prop:=
 (∃kvs k,H a=some (.dK kvs)/\y=kV k/\kvs.length<sizeLine/\H'=upd H a (.dK (z5t kvs k v)))\/
 ∃kvs k b,H a=some (.dT kvs)/\y= .ref b/\TK H k b/\kvs.length<sizeLine/\H'=upd H a (.dT (z5t kvs k v))
theorem zd9.t{H:Hp}{a b:Addr}{kvs:List (NK×V)}{k:NK}{v:V}(e:H a=some (.dT kvs))(eb:TK H k b)(hl:kvs.length<sizeLine):
 zd9 H a (.ref b) v (upd H a (.dT (z5t kvs k v))):= .inr ⟨kvs,k,b,e,rfl,eb,hl,rfl⟩
section
variable{X:Cx}{pins:List (Addr×Obj)}{σ:St}{H:Hp}{s:Shared}{a:Addr}{y v:V}{u r:Value}{o:Option V}{A:Around}{E:Value->Shared->Prop}
theorem Inv.big(I:Inv X pins σ H s):sysModules<s.heap.objs.size:=by
 have h:mainGlobals<s.heap.objs.size:=(I.mod.glob.keeps I.bk).lt
 exact P7 (by decide) h
theorem z7S{Q:Value->Shared->Prop}(hu:A.units+2<cLine)(I:Inv X pins σ H s)(g:zg7 H a y (some v))(ry:RelV y u)(h: ∀w' s',Inv X pins σ H s'->RelV v w'->Q w' s'):
 wpAny (model X.prog X.w) A (getItem (.ref a) u) Q E s:=by
 rcases g with⟨kvs,k,e,ey,l⟩|⟨kvs,k,b,e,ey,eb,l⟩
 ·subst ey
  obtain⟨z,hd,vs,rel,dd⟩:=zbT I.hok e
  obtain⟨w',hw,rw'⟩:=RelO.some_of (v:=v) (o:=valueAt vs k) (by rw[l];exact rel.val k)
  exact wpAny_getItem_of (z9O ry) dd.mapOf hw (h w' _ (I.tok _) rw')
 ·subst ey
  cases(show u=Value.ref b from ry)
  obtain⟨z,hd,xs,rel,dd⟩:=zbV I.hok e
  obtain⟨w',hw,rw'⟩:=RelO.some_of (v:=v) (o:=(atKey xs k).map (·.2)) (by rw[l];exact rel.val k)
  obtain⟨p,hp,hp2⟩:=I0.mp hw
  refine wpAny_getItem_heap (z4C hu) (z7R I.hok eb) dd hp ?_
  rw[hp2]
  exact h w' _ (I.tok _) rw'
theorem z7T{h':Heap}{t':Nat}{ob:HO}(I:Inv X pins σ H s)(mu:Mut (H a))(hs:Heap.SameBut a s.heap h')(he: ∃q,h'.get? a=some q)(new:z00 X.prog X.w (upd H a ob) h' a ob):
 Inv X pins σ (upd H a ob) {s with heap:=h',toks:=t'}:=
 I.write (x:=a) (e:=a) mu (.inl rfl) (fun b q hb z=>(hs.2 b hb).trans z) he new
theorem zdR{P:Program}{w:World}{H':Hp}{h':Heap}{kvs:List (Key×V)}{vs:List (Key×Value)}(z:kvs.length<=sizeLine)(hd:(a==sysModules)=false)(rel:KV kvs vs)(dd:h'.DictOf (Q1 P w) a vs):
 z00 P w H' h' a (.dK kvs):=⟨z,hd,vs,rel,dd⟩
theorem z7U{H':Hp}{Q:Unit->Shared->Prop}(hu:A.units+2<cLine)(I:Inv X pins σ H s)(g:zd9 H a y v H')(ry:RelV y u)(rv:RelV v r)(h: ∀s',Inv X pins σ H' s'->Q () s'):
 wpAny (model X.prog X.w) A (setItem (.ref a) u r) Q E s:=by
 rcases g with⟨kvs,k,e,ey,l,eH⟩|⟨kvs,k,b,e,ey,eb,l,eH⟩
 ·subst ey eH
  obtain⟨z,hd,vs,rel,dd⟩:=zgK I.hok e
  have hz:vs.length<=sizeLine:=by rw[<-rel.length];exact z
  have hl:(z5t kvs k v).length<=sizeLine:=by have:=z2p kvs k v;lia
  refine wpAny_setItem_pairs (hsz:=hz) (z9O ry) dd fun h' dd' hs=>h _ ?_
  have he: ∃q,h'.get? a=some q:=let⟨q,_,_,hq,_⟩:=dd';⟨q,hq⟩
  exact z7T I (by rw[e];exact True.intro) hs he (zdR hl hd (rel.put k rv) dd')
 ·subst ey eH
  cases(show u=Value.ref b from ry)
  obtain⟨z,hd,xs,rel,dd⟩:=zgL I.hok e
  have hz:xs.length<=sizeLine:=by rw[<-Paired.length rel];exact z
  have hl:(z5t kvs k v).length<=sizeLine:=by have:=z2p kvs k v;lia
  refine wpAny_setItem_heap (hsz:=hz) (z4C hu) (z7R I.hok eb) dd fun h' dd' hs=>h _ ?_
  obtain⟨q,es,ep,hq,h2,h3,h4,_,h5⟩:=dd'
  refine z7T I (by rw[e];exact True.intro) hs ⟨q,hq⟩ ⟨hl,hd,_,(rel.put k eb rv).keeps fun c ys ec=> ?_,q,es,ep,hq,h2,h3,h4,h5⟩
  rw[Z6 (z36 ec e (fun z=>nomatch z))]
  exact ec
end
noncomputable def zif(i:Expr):Prop:= ∀ov iv,subscripted i false ov iv=operate [ov,iv] (getItem ov iv)
theorem zbW{prog:Program}{w:World}{A:Around}{E:Value->Shared->Prop}{s:Shared}{env:Env}{value slice:Expr}{pos:Pos}{T id:String}{Q:Value->Shared->Prop}
 (hl:typeLookup (.type T) "__getitem__" =pure (some (.builtin id))) (hs:zif slice)
 (h:wpAny (model prog w) A (eval value env) (fun o s₁=>wpAny (model prog w) A (eval slice env) (fun i s₂=>s₂.TypeIs o T/\wpAny (model prog w) A (getItem o i) Q E s₂) E s₁) E s):
 wpAny (model prog w) A (eval (.Subscript value slice pos) env) Q E s:=by
 refine Subscript_ (wpAny_mono h (fun o s₁ h₁=>wpAny_mono h₁ (fun i s₂ h₂=> ?_) fun _ _ x=>x) fun _ _ x=>x)
 obtain⟨hT,h₂⟩:=h₂
 unfold subscriptTail
 refine wpAny_bind ?_
 rw[getitemInPython_of_ne hT.not_modules]
 refine wpAny_bind (wpAny_specialOf hT hl ?_)
 have fin:wpAny (model prog w) A (subscripted slice false o i) (fun r s₃=>wpAny (model prog w) A (letTemporaryGo value o r>>=fun _=>pure r) Q E s₃) E s₂:=by
  rw[hs o i]
  exact wpAny_operating (wpAny_mono h₂ (fun r s₃ h₃=>wpAny_bind (wpAny_letTemporaryGo (wpAny_pure h₃))) fun _ _ x=>x)
 first
  |exact wpAny_pure (wpAny_bind fin)
  |exact wpAny_bind (wpAny_pure (wpAny_bind fin))
  |exact wpAny_bind fin
theorem z5A{X:Cx}{pins:List (Addr×Obj)}{σ:St}{H:Hp}{s:Shared}{a:Addr}{y:V}{o:Option V}(I:Inv X pins σ H s)(g:zg7 H a y o):s.TypeIs (.ref a) "dict" :=by
 rcases g with⟨kvs,k,e,_,_⟩|⟨kvs,k,b,e,_,_,_⟩
 ·obtain⟨_,_,vs,_,dd⟩:=zbT I.hok e
  exact dd.typeIs
 ·obtain⟨_,_,xs,_,dd⟩:=zbV I.hok e
  exact dd.typeIs
noncomputable def zgM(td ty:TE):TE:=fun σ H Q=>td σ H fun x H1=>ty σ H1 fun y H2=> ∃a v,x= .ref a/\zg7 H2 a y (some v)/\Q v H2
noncomputable def zgN(td ty tv:TE):TS:=fun D σ H=>tv σ H fun v H1=>td σ H1 fun x H2=>ty σ H2 fun y H3=> ∃a H4,x= .ref a/\zd9 H3 a y v H4/\D.nx σ H4
section
variable{X:Cx}{o i e value:Expr}{pos pos' tpos:Pos}{td ty tv:TE}
theorem zbX(hu:X.A.units+2<cLine)(ho:PE X o td)(hi:PE X i ty)(hs:zif i):PE X (.Subscript o i pos) (zgM td ty):=by
 intro pins s σ H Q I h
 refine zbW PySem.F.slot_dict_getitem.lookup hs (thn (ho pins s σ H _ I h) fun u s1 ⟨x,H1,I1,rx,q1⟩=>thn (hi pins s1 σ H1 _ I1 q1) fun iv s2 ⟨y,H2,I2,ry,a,v,ex,g,q2⟩=> ?_)
 subst ex
 obtain rfl:u=Value.ref a:=rx
 exact⟨z5A I2 g,z7S hu I2 g ry fun w' s3 I3 rw'=>⟨v,H2,I3,rw',q2⟩⟩
theorem zbY(hu:X.A.units+2<cLine)(ho:PE X o td)(hi:PE X i ty)(hv:PE X value tv)(hs:swapsWith value (some (.Subscript o i pos')) pos.line X.env=pure false):
 PS X (.Assign [.Subscript o i pos'] value pos) (zgN td ty tv):=by
 intro pins s σ H D I h
 refine wpAny_Assign_Subscript (thn (hv pins s σ H _ I h) fun r s1 ⟨v,H1,I1,rv,q1⟩=>thn (ho pins s1 σ H1 _ I1 q1) fun u s2 ⟨x,H2,I2,rx,q2⟩=>thn (hi pins s2 σ H2 _ I2 q2) fun iv s3 ⟨y,H3,I3,ry,a,H4,ex,g,q3⟩=> ?_) hs
 subst ex
 obtain rfl:u=Value.ref a:=rx
 exact z7U hu I3 g ry rv fun s4 I4=>⟨σ,H4,I4,q3⟩
end
theorem z9P{P:Program}{w:World}{H:Hp}(h:Heap)(hb:sysModules<h.objs.size):z00 P w H (h.push {cls:= .type "dict",data:= .dict #[]}) h.objs.size (.dT []):=
 ⟨C9 _,beq_eq_false_iff_ne.mpr (Ne.symm (o0 hb)),[], .nil,_, #[],0,Heap.get?_push_size _ rfl,⟨rfl,rfl,rfl⟩,rfl,rfl,List.nodup_nil⟩
noncomputable def zdS:TE:=fun _ H Q=> ∀p,H p=none->Q (.ref p) (upd H p (.dT []))
section
variable{X:Cx}{pos:Pos}
theorem z9Q:PE X (.Dict [] [] pos) zdS:=fun pins s σ H Q I h=>
 wpAny_Dict_empty ⟨.ref s.heap.objs.size,_,I.laid (a:=s.heap.objs.size) (o:= .dT []) (t':=s.toks) (fun _ _ q=>Heap.get?_push_of_some _ q) (i4 _) (z9P s.heap I.big),rfl,h _ (I.hok.fresh (i4 _))⟩
end
structure M1(X:Cx)(o:Expr)(m:Str)(apos:Pos)(e:Expr)(cpos:Pos):Prop where
 base:attributeBase o m X.env (eval o X.env)=eval o X.env
 few:((backTo cpos (starEach [e] X.env)).all (fun x=> !x.1)&&(backToKw cpos (keywordEach [] X.env)).all (fun x=>x.1.isSome)
  &&decide (([e]:List Expr).length+([]:List Keyword).length+(if([]:List Keyword).isEmpty then 0 else 1)<30))=true
 line:(apos.endLine==cpos.line)=true
 trees:backTo cpos (starEach [e] X.env)=[(false,eval e X.env)]
structure M2(X:Cx)(o:Expr)(m:Str)(apos:Pos)(e f:Expr)(cpos:Pos):Prop where
 base:attributeBase o m X.env (eval o X.env)=eval o X.env
 few:((backTo cpos (starEach [e,f] X.env)).all (fun x=> !x.1)&&(backToKw cpos (keywordEach [] X.env)).all (fun x=>x.1.isSome)
  &&decide (([e,f]:List Expr).length+([]:List Keyword).length+(if([]:List Keyword).isEmpty then 0 else 1)<30))=true
 line:(apos.endLine==cpos.line)=true
 trees:backTo cpos (starEach [e,f] X.env)=[(false,eval e X.env),(false,eval f X.env)]
end L2
namespace Att
open PySem PySem.W PySem.Calls PyProof.Rows
theorem z2q{P:Params}{h:Heap}: ∀(ns:List Int) (vs:List Value),WellAll P h vs (ns.map WData.int)->IntsAre vs ns:=by
 intro ns
 induction ns with
 |nil=>
  intro vs w
  rw[l9] at w
  cases w
  exact .nil
 |cons n ns ih=>
  intro vs w
  rw[i6] at w
  cases w with
  |cons a b=>
   cases a
   exact .cons _ _ (ih _ b)
theorem z7V{l:OpenLaw}{n:Nat}(hn:l.most=some n){P:Params}{h:Heap}{args:List WData}{vals:List Value}
 (hpre:l.row.toRowW.claim.pre args=true) (hwl:WellAll P h vals args):
 ∃a vs ns,vals=[Value.ref a]/\args=[WData.list (ns.map WData.int)]/\h.get? a=some {cls:= .type "list",data:= .seq vs.toArray}/\IntsAre vs ns/\ns.length<=n:=by
 have hsh:WShape.hasAll [] args [.list .int]=true:=(pre_splitW hpre).1
 have hc:l.pre.holds [] {args:=args}=true:=(pre_splitW hpre).2
 obtain⟨d,r,rfl,h1,h2⟩:=hasAllW_cons hsh
 obtain rfl:=hasAllW_nil h2
 obtain⟨xs,rfl,h3⟩:=hasW_list h1
 obtain⟨ns,rfl⟩:=items_int h3
 have hlen:ns.length<=n:=by
  unfold OpenLaw.pre at hc
  have h4:(WTm.not (.lt (.lit (.int (n:Int))) (.len (.arg 0)))).holds [] {args:=[.list (ns.map .int)]}=true:=by
   have h4:=(holds_andW hc).1
   rw[hn] at h4
   exact h4
  have h5:=condW_of h4 (w_not (w_lt w_lit (w_len_list (w_arg rfl))))
  rw[A3] at h5
  refine Nat.le_of_not_lt fun q=> ?_
  have q':(n:Int)<((ns.length:Nat):Int):=by lia
  first
   |(rw[decide_eq_true q'] at h5;exact absurd h5 (by decide))
   |(simp at h5;lia)
 cases hwl with
 |cons w1 w2=>
  cases w2
  cases w1 with
  |list ho hall=>exact⟨_,_,ns,rfl,rfl,ho,z2q ns _ hall,hlen⟩
theorem z7W(l:OpenLaw)(args:List WData):l.row.toRowW.claim.post args (.bool true) args=true:=
 postW_of (r:=l.row.toRowW) (X:=(true==true))
  (show WShape.has [] (.bool true) .bool=true by first|rfl|decide|simp[WShape.has,WShape.arms,WShape.armsAll])
  (show(WTm.eq .res (.lit (.bool true))).value [] {args:=args,res:=some (.bool true),after:=args}=some (.bool (true==true)) from w_eq_bool (w_res rfl) w_lit) rfl
theorem attach_call{l:OpenLaw}{n:Nat}{q:Program}{loose:List Str}{XP:(Str->Option Value)->Heap->Prop}{YP:World->Heap->Prop}{d:DefRec}
 (hn:l.most=some n) (hdf:d.params.defaults=[])
 (call: ∀(w:World) (s₀ s₁:Shared) (mg mb:Str->Option Value) (fa:Addr) (o:Obj) (pm cd doc:Value) (a:Addr) (vs:List Value) (ns:List Int),
  Ground q loose [] XP w s₀ mg mb s₁.heap->YP w s₁.heap->
  s₁.heap.get? fa=some o->o.data= .func (docDef d.name d.params d.body d.scope pm cd doc)->s₁.heap.CodeRec cd d.name->mg d.name=some (.ref fa)->
  s₁.heap.get? a=some {cls:= .type "list",data:= .seq vs.toArray}->IntsAre vs ns->ns.length<=n->s₁.gens= #[]->
  codeAny (model l.prog w) callerA (.call (.ref fa) ⟨[.ref a],[]⟩) (fun r s'=>r= .ok (.ret (.bool true))/\OldK s₁.heap s'.heap/\s'.os=s₁.os/\AllBare s'.gens) s₁):
 WalkO q loose XP YP l.row.toRowW d [] (fun f vs=>PySem.call f vs):=by
 intro w s₀ s₁ mg mb G Y fa o pm cd doc dV kV ho hd hcd hD hmg hg args vals as hpre hlay hrd hwl hlo
 obtain rfl:dV= .none:=Dflts.none hD hdf
 obtain rfl:kV= .none:=Dflts.noKw hD
 obtain⟨a,vs,ns,rfl,rfl,hobj,hints,hlen⟩:=z7V hn hpre hwl
 refine enter_call (codeAny_mono (call w s₀ s₁ mg mb fa o pm cd doc a vs ns G Y ho (fd_plain hd) hcd hmg hobj hints hlen hg) fun r s' hq=> ?_)
 obtain⟨rfl,h2,h3,h4⟩:=hq
 exact⟨.inl ⟨.bool true, .bool true,[],rfl,fun _=>rfl, .bool true,z7W l _,fun _=>⟨List.Pairwise.nil,fun _ hm=>(nomatch hm)⟩⟩,h2,h3,h4⟩
end Att
namespace L2
open PySem PySem.Spec PyProof.Rows
theorem z4O: ∀{vs:List Value} {ns:List Int},IntsAre vs ns->J0 (ns.map V.int) vs
 |_,_, .nil=> .nil
 |_,_, .cons n t h=> .cons ⟨t,rfl⟩ (z4O h)
noncomputable def zg8(H:Hp):Prop:= ∀b,H b=none\/∃o xs,H b=some (.frz o (.lst xs))
theorem z9R{P:Program}{w:World}{K:W.Frag}{mg mb:Str->Option Value}{CX:CXT}{k:Nat}{fa a:Addr}{fd:FuncData}{x:Str}{sp:Sp}{s₁:Shared}{vs:List Value}{ns:List Int}
 (KX:K.In s₁.heap) (hns:s₁.heap.Ns mainGlobals mg) (hb:s₁.heap.Ns builtinsNs mb) (hbb: ∀x:Str,x≠ "__name__" ->mb x=bootBuiltins x) (hlim:s₁.heap.NoLimit) (hg:s₁.gens= #[])
 (ha:s₁.heap.get? a=some {cls:= .type "list",data:= .seq vs.toArray}) (hi:IntsAre vs ns) (hl:ns.length<=sizeLine) (hr:z2g k callerA)
 (F: ∀base:Heap,K.In base->base.Ns mainGlobals mg->FnOk P w K mg base CX k fa fd [x] sp) (hbind: ∀(s:Shared) (u:Value),BindsTo s fd ⟨[u],[]⟩ [(x,u)])
 (hsp: ∀H:Hp,zg8 H->SqL K H a (ns.map V.int)->sp [.ref a] H (fun v _=>v= .bl true) fun _ _ _=>False)
 (hCX: ∀H e s',CX [] H s₁ (fun _ _ _=>False) e s'->False):
 codeAny (model P w) callerA (.call (.ref fa) ⟨[.ref a],[]⟩) (fun r s'=>r= .ok (.ret (.bool true))/\OldK s₁.heap s'.heap/\s'.os=s₁.os/\AllBare s'.gens) s₁:=by
 have rv:=z4O hi
 have lenV:=hi.length
 have core: ∀H:Hp,zg8 H->SqL K H a (ns.map V.int)->HOk P w H s₁.heap->(∀b,H b≠none->b=a)->(H a≠none->K.lookup a=none)->
  codeAny (model P w) callerA (.call (.ref fa) ⟨[.ref a],[]⟩) (fun r s'=>r= .ok (.ret (.bool true))/\OldK s₁.heap s'.heap/\s'.os=s₁.os/\AllBare s'.gens) s₁:=by
  intro H hO hS hok hA hK
  have base_of: ∀{b:Addr} {o:Obj},s₁.heap.get? b=some o->H b=none->(z9B s₁.heap H).get? b=some o:=fun e n=>z9C e n
  have noA: ∀{b:Addr} {o:Obj} {es:Array DictEntry} {ep:Nat},s₁.heap.get? b=some o->o.data= .dict es ep->H b=none:=fun{b o es ep} e d=>by
   cases q:H b with
   |none=>rfl
   |some u=>
    have e':b=a:=hA b (by rw[q];simp)
    subst e'
    rw[ha] at e;cases e
    have d':Data.seq vs.toArray _=Data.dict es ep:=d
    cases d'
  have nsK: ∀{b:Addr} {m:Str->Option Value},s₁.heap.Ns b m->(z9B s₁.heap H).Ns b m:=fun{b m} ⟨o,es,ep,e,d,r⟩=>⟨o,es,ep,base_of e (noA e d),d,r⟩
  have hKb:K.In (z9B s₁.heap H):=fun b o e=>base_of (KX b o e) (by
   cases q:H b with
   |none=>rfl
   |some u=>
    have e':b=a:=hA b (by rw[q];simp)
    subst e'
    rw[hK (by rw[q];simp)] at e;cases e)
  have hM:Mod K mg (z9B s₁.heap H):=⟨hKb,nsK hns,⟨mb,nsK hb,hbb⟩,let⟨mc,h1,h2⟩:=hlim;⟨mc,nsK h1,h2⟩⟩
  have e0:zdI P w K mg (z9B s₁.heap H) callerA [] s₁ H:=⟨rfl,hM,fun b o e=>zbC e,S1 (z7y _ _),trivial,fun b hb=>absurd (show b∈([]:List Addr) from hb) (by simp),hok, .of_eq hg⟩
  refine codeAny_mono ((F _ hKb (nsK hns)).run callerA [] s₁ H ⟨[.ref a],[]⟩ [.ref a] [.ref a] _ _ hr e0 (hbind s₁ (.ref a)) (.cons rfl .nil) (hsp H hO hS)) fun r s' h=> ?_
  cases r with
  |error e=>exact(hCX H e s' h).elim
  |ok fl=>
   cases fl with
   |next=>exact False.elim h
   |brk=>exact False.elim h
   |cont=>exact False.elim h
   |ret u=>
    obtain⟨v,H',os,bare,un,hok',r',q⟩:=h
    have q':v= .bl true:=q
    subst q'
    obtain rfl:u=Value.bool true:=r'
    refine⟨rfl,OldK.of_keep fun b o e=> ?_,os,bare⟩
    cases q:H b with
    |none=>exact un.keep b o e q (by intro z;exact absurd (show b∈([]:List Addr) from z) (by simp)) (by simp)
    |some u=>
     rcases hO b with z|⟨ob,xs,z⟩
     ·rw[q] at z;cases z
     ·have z2:=un.frzs b ob _ z
      obtain⟨e1,_⟩:=hok b _ z
      obtain⟨e2,_⟩:=hok' b _ z2
      rw[e] at e1;cases e1
      exact e2
 cases hk:K.lookup a with
 |some o=>
  have e:=KX a o hk
  rw[ha] at e
  cases e
  refine core (fun _=>none) (fun _=> .inl rfl) (.inr ⟨_,vs.toArray,_,hk,rfl,rfl,rfl,by rw[l7,lenV];exact hl,by simpa using rv⟩) (fun b u z=>by have z':(none:Option HO)=some u:=z;cases z') (fun b z=>absurd rfl z) fun z=>absurd rfl z
 |none=>
  refine core (fun b=>if b=a then some (.frz {cls:= .type "list",data:= .seq vs.toArray} (.lst (ns.map V.int))) else none) (fun b=> ?_) (.inl (.inr ⟨{cls:= .type "list",data:= .seq vs.toArray},if_pos rfl⟩)) (fun b u z=> ?_) (fun b z=> ?_) fun _=>hk
  ·by_cases hb:b=a
   ·exact .inr ⟨_,_,if_pos hb⟩
   ·exact .inl (if_neg hb)
  ·by_cases hb:b=a
   ·have z':=(if_pos hb).symm.trans z
    cases z'
    subst hb
    exact⟨ha,by rw[A3];exact hl,vs,_,rv,ha⟩
   ·have z':=(if_neg hb).symm.trans z
    cases z'
  ·by_cases hb:b=a
   ·exact hb
   ·exact absurd (if_neg hb) z
theorem zbZ{l:W.OpenLaw}{n k:Nat}{q:Program}{loose:List Str}{XP:(Str->Option Value)->Heap->Prop}{YP:World->Heap->Prop}{d:DefRec}{K:Params->W.Frag}{CX:World->CXT}{sp:World->Sp}{x:Str}
 (hn:l.most=some n) (hn2:n<=sizeLine) (hdf:d.params.defaults=[]) (hr:z2g k callerA)
 (hY: ∀(w:World) (h:Heap),YP w h->(K w.params).In h)
 (F: ∀(w:World) (mg:Str->Option Value) (fa:Addr) (h:Heap),(K w.params).In h->h.Ns mainGlobals mg->mg d.name=some (.ref fa)->
  ∃fd:FuncData,(∀(s:Shared) (u:Value),BindsTo s fd ⟨[u],[]⟩ [(x,u)])/\
   ∀base:Heap,(K w.params).In base->base.Ns mainGlobals mg->FnOk l.prog w (K w.params) mg base (CX w) k fa fd [x] (sp w))
 (hsp: ∀(w:World) (H:Hp) (a:Addr) (ns:List Int),ns.length<=n->zg8 H->SqL (K w.params) H a (ns.map V.int)->sp w [.ref a] H (fun v _=>v= .bl true) fun _ _ _=>False)
 (hCX: ∀(w:World) (H:Hp) (s:Shared) (e:Value) (s':Shared),CX w [] H s (fun _ _ _=>False) e s'->False):
 W.WalkO q loose XP YP l.row.toRowW d [] (fun f vs=>PySem.call f vs):=by
 refine Att.attach_call hn hdf fun w s₀ s₁ mg mb fa o pm cd doc a vs ns G Y ho hd hcd hmg hobj hints hlen hg=> ?_
 have KX:=hY w _ Y
 obtain⟨fd,hb,hF⟩:=F w mg fa _ KX G.T.g hmg
 exact z9R KX G.T.g G.T.b G.T.builtins G.T.nolimit hg hobj hints (C0 hlen hn2) hr hF hb (fun H hO hS=>hsp w H a ns hlen hO hS) fun H e s'=>hCX w H s₁ e s'
noncomputable def z1c(s:Stmt):Arguments:=match s with
 | .FunctionDef _ a _ _ _ _ _ _ _ _=>a
 |_=>{posonlyargs:=[],args:=[],vararg:=none,kwonlyargs:=[],kw_defaults:=[],kwarg:=none,defaults:=[]}
noncomputable def k7(s:Stmt):List Stmt:=match s with
 | .FunctionDef _ _ b _ _ _ _ _ _ _=>b
 |_=>[]
noncomputable def Z3(s:Stmt):Scope:=match s with
 | .FunctionDef _ _ _ _ _ _ sc _ _ _=>sc
 |_=>{kind:= .function,names:=[],isGenerator:=false,isCoroutine:=false}
noncomputable abbrev CX0:CXT:=fun _ _ _ _ _ _=>False
noncomputable abbrev E0:XK:=fun _ _ _=>False
theorem z6Y{X:Cx}:z3p CX0 X E0:=fun _ _ _ _ _ _ _ h=>h.elim
structure Fun(K:W.Frag)(x qual:Str)(st:Stmt)(f:Addr)(fd:FuncData):Prop where
 ex: ∃(oc:Value) (od:Option Addr) (kV doc pm:Value) (an:Option Addr) (cdv ct:Value) (osl:Array (Option Value)),
  fd=W.fnOf x qual (z1c st) (k7 st) (Z3 st) .none kV doc pm an cdv ct/\K.lookup f=some ⟨oc,od, .func fd,osl⟩/\W.codeIn K cdv qual=true
 kp:W.keepIn K (.ref f)=true
section
variable{P:Program}{w:World}{K:W.Frag}{mg:Str->Option Value}{base:Heap}
theorem Fun.ok{x qual:Str}{st:Stmt}{f:Addr}{fd:FuncData}{N ps:List Str}{k:Nat}{sp:Sp}(F:Fun K x qual st f fd)(S:Y7 N ps (Z3 st))(len: ∀vs H Q E,sp vs H Q E->vs.length=ps.length)
 (hbody: ∀(cdv:Value) (A:Around) (outer:List Env) (s:Shared) (H:Hp) (vs:List V) (Q:VK) (E:XK),z2g k (A.deeper (envOfC qual (Z3 st) s.heap.objs.size f cdv))->sp vs H Q E->
  ∃t,PSs (z9K CX0 P w K mg base N qual (Z3 st) f cdv A outer s H E).nox (k7 st) t/\t {nx:=fun _ H'=>Q .non H',rt:=Q} (z4J N vs) H):FnOk P w K mg base CX0 (k+1) f fd ps sp:=by
 obtain⟨oc,od,kV,doc,pm,an,cdv,ct,osl,rfl,lk,hcd⟩:=F.ex
 refine zgD lk hcd S len fun A outer s H vs Q E hr hsp=> ?_
 obtain⟨t,h,q⟩:=hbody cdv A outer s H vs Q E hr hsp
 exact⟨t,h.nox,q⟩
theorem Fun.binds{x qual:Str}{st:Stmt}{f:Addr}{fd:FuncData}{ps:List Str}(F:Fun K x qual st f fd)
 (h: ∀(kV doc pm:Value) (an:Option Addr) (cdv ct:Value) (us:List Value),us.length=ps.length->bindArgs (W.fnOf x qual (z1c st) (k7 st) (Z3 st) .none kV doc pm an cdv ct) ⟨us,[]⟩=pure (ps.zip us)):z37 K fd ps []:=by
 obtain⟨oc,od,kV,doc,pm,an,cdv,ct,osl,rfl,lk,hcd⟩:=F.ex
 exact .all (h kV doc pm an cdv ct)
theorem zdT{x qual:Str}{st:Stmt}{f:Addr}{oc:Value}{od an:Option Addr}{osl:Array (Option Value)}{kV doc pm cdv ct:Value}(l:K.lookup f=some ⟨oc,od, .func (W.fnOf x qual (z1c st) (k7 st) (Z3 st) .none kV doc pm an cdv ct),osl⟩)
 (c:W.codeIn K cdv qual=true) (k:W.keepIn K (.ref f)=true):Fun K x qual st f (W.fnOf x qual (z1c st) (k7 st) (Z3 st) .none kV doc pm an cdv ct):=⟨⟨oc,od,kV,doc,pm,an,cdv,ct,osl,rfl,l,c⟩,k⟩
end
section
variable{X:Cx}
theorem pv(i:Nat){x:Str}{pos:Pos}(hN:X.N[i]? =some x:=by rfl)(hv:Vis X.env.scope x:=by first|exact Or.inl rfl|exact Or.inr (Or.inl rfl)|exact Or.inr (Or.inr rfl))(hd:(x==("__debug__" :Str))=false:=by decide)
 (hcd:(x==("__classdict__" :Str))=false:=by decide):PE X (.Name x pos) (zg4 i):=zdn hN hv hd hcd
end
noncomputable def z0X(H H':Hp):Prop:= ∀b o,H b=some o->H' b=some o
theorem z0X.refl(H:Hp):z0X H H:=fun _ _ h=>h
theorem z0X.seq{K:W.Frag}{H H':Hp}{a:Addr}{xs:List V}(e:z0X H H')(h:SqL K H a xs):SqL K H' a xs:=by
 rcases h with(h|⟨o,h⟩)|h
 ·exact .inl (.inl (e _ _ h))
 ·exact .inl (.inr ⟨o,e _ _ h⟩)
 ·exact .inr h
end L2
namespace So
open PySem PySem.W PyProof.Rows
noncomputable abbrev En:=SortKind×Array Keyed
noncomputable def im(i:Nat)(e:En):Keyed:=kas_item e.2 (i %e.2.size)
noncomputable def ar(q:Array Nat)(e:En):Array Keyed:=q.map fun i=>im i e
noncomputable def sst(q:Array Nat)(p:Array (Nat×Nat×Nat))(g:Nat)(e:En):SortSt:=SortSt.mk' e.1 (ar q e) p g none
noncomputable def Cmp(prog:Program)(w:World)(A:Around)(cmp:Nat->Nat->Bool)(G:Shared->Prop)(e:En):Prop:=
 ∀i j C s,G s->(∀s',G s'->C (cmp i j) s')->kas_cmp prog w A e.1 e.2 (i %e.2.size) (j %e.2.size) C s
noncomputable def Det(cmp:Nat->Nat->Bool){α:Type}(m:En->StateT SortSt Sem α)(st:En->SortSt)(P:(En->α)->(En->SortSt)->Prop):Prop:=
 ∃v st',P v st'/\∀(prog:Program) (w:World) (A:Around) (E:Value->Shared->Prop) (e:En) (G:Shared->Prop) (Q:α->SortSt->Shared->Prop) (s:Shared),Cmp prog w A cmp G e->G s->(∀s',G s'->Q (v e) (st' e) s')->kasC (model prog w) A E (m e) Q (st e) s
variable{cmp:Nat->Nat->Bool}{α β:Type}{st:En->SortSt}
theorem U2{a:En->α}{P:(En->α)->(En->SortSt)->Prop}(h:P a st):Det cmp (fun e=>pure (a e)) st P:=
 ⟨a,st,h,fun _ _ _ _ _ _ _ s _ hg hq=>kasC_pure (hq s hg)⟩
theorem y8{m:En->StateT SortSt Sem α}{f:En->α->StateT SortSt Sem β}{P:(En->β)->(En->SortSt)->Prop}(h:Det cmp m st fun v st'=>Det cmp (fun e=>f e (v e)) st' P):Det cmp (fun e=>m e>>=f e) st P:=by
 obtain⟨v,st1,⟨u,st2,hp,h2⟩,h1⟩:=h
 exact⟨u,st2,hp,fun prog w A E e G Q s hc hg hq=>kasC_bind (h1 prog w A E e G _ s hc hg fun s' hg'=>h2 prog w A E e G Q s' hc hg' hq)⟩
theorem u1{m:En->StateT SortSt Sem α}{P P':(En->α)->(En->SortSt)->Prop}(h:Det cmp m st P)(hp: ∀v s,P v s->P' v s):Det cmp m st P':=by
 obtain⟨v,st',p,h⟩:=h
 exact⟨v,st',hp _ _ p,h⟩
theorem z2r{P:(En->SortSt)->(En->SortSt)->Prop}(h:P st st):Det cmp (fun _=>get) st P:=
 ⟨st,st,h,fun _ _ _ _ _ _ _ s _ hg hq=>kasC_get (hq s hg)⟩
theorem zgO{a:En->SortSt}{P:(En->PUnit)->(En->SortSt)->Prop}(h:P (fun _=>⟨⟩) a):Det cmp (fun e=>set (a e)) st P:=
 ⟨_,a,h,fun _ _ _ _ _ _ _ s _ hg hq=>by
  unfold kasC;rw[StateT.run_set];exact wpAny_pure (hq s hg)⟩
theorem z0e{f:En->SortSt->SortSt}{P:(En->PUnit)->(En->SortSt)->Prop}(h:P (fun _=>⟨⟩) (fun e=>f e (st e))):Det cmp (fun e=>modify (f e)) st P:=
 ⟨_,_,h,fun _ _ _ _ _ _ _ s _ hg hq=>kasC_modify (hq s hg)⟩
theorem z2s{x:String}{P:(En->Unit)->(En->SortSt)->Prop}(h:P (fun _=>()) st):Det cmp (fun _=>liftM (rule x)) st P:=
 ⟨_,st,h,fun _ _ _ _ _ _ _ s _ hg hq=>kasC_lift (wpAny_rule (hq s hg))⟩
theorem Y9{c:Prop}{i:En->Decidable c}{m m':En->StateT SortSt Sem α}{P:(En->α)->(En->SortSt)->Prop}(h1:c->Det cmp m st P)(h2: ¬c->Det cmp m' st P):Det cmp (fun e=> @ite _ c (i e) (m e) (m' e)) st P:=by
 by_cases h:c
 ·erw[if_pos h];exact h1 h
 ·erw[if_neg h];exact h2 h
theorem J4{q:Array Nat}{i:Nat}{P:(En->Keyed)->(En->SortSt)->Prop}(hi:i<q.size)(h:P (im q[i]) st):Det cmp (fun e=>elem' (ar q e) i) st P:=
 ⟨_,st,h,fun _ _ _ _ e _ _ s _ hg hq=>by
  have e1:(ar q e)[i]? =some (im q[i] e):=by simp[ar,hi]
  erw[elem'_eq,e1]
  exact kasC_pure (hq s hg)⟩
theorem zdU{q:Array Nat}{p:Array (Nat×Nat×Nat)}{g i j:Nat}{P:(En->Option Bool)->(En->SortSt)->Prop}(h:P (fun _=>some (cmp i j)) (sst q p g)):Det cmp (fun e=>lt' (im i e) (im j e)) (sst q p g) P:=
 ⟨_,_,h,fun prog w A E e G Q s hc hg hq=>by
  erw[lt'_eq]
  refine kasC_bind (kasC_get ?_)
  refine kasC_bind (kasC_lift (wpAny_attempt (wpAny_mono (hc i j (fun b s'=>b=cmp i j/\G s') s hg fun s' h=>⟨rfl,h⟩) (fun c s' hc'=> ?_) fun _ _ hF=>hF.elim)))
  obtain⟨rfl,hg'⟩:=hc'
  exact kasC_pure (hq s' hg')⟩
theorem z24{q:Array Nat}{p:Array (Nat×Nat×Nat)}{g i j:Nat}{P:(En->Option Bool)->(En->SortSt)->Prop}(hi:i<q.size)(hj:j<q.size)(h:P (fun _=>some (cmp q[i] q[j])) (sst q p g)):Det cmp (fun _=>ltAt' i j) (sst q p g) P:=by
 erw[ltAt'_eq]
 exact y8 (z2r (y8 (J4 hi (y8 (J4 hj (zdU h))))))
theorem z6e(u v:Nat->Nat)(l:List Nat)(q:Array Nat)(e:En):l.foldl (fun a k=>a.swapIfInBounds (u k) (v k)) (ar q e)=ar (l.foldl (fun a k=>a.swapIfInBounds (u k) (v k)) q) e:=kas_swaps_map _ u v l q
theorem z3S{q:Array Nat}{p:Array (Nat×Nat×Nat)}{g i j:Nat}{P:(En->Unit)->(En->SortSt)->Prop}(h:P (fun _=>()) (sst (mirror q i j ((j -i)/2)) p g)):Det cmp (fun _=>reverseSlice' i j) (sst q p g) P:=by
 erw[reverseSlice'_eq]
 refine z0e ?_
 have e:(fun e=>setArr (sst q p g e) (mirror (arrOf (sst q p g e)) i j ((j -i)/2)))=sst (mirror q i j ((j -i)/2)) p g:=by
  funext e
  show SortSt.mk' e.1 (mirror (ar q e) i j ((j -i)/2)) p g none=SortSt.mk' e.1 (ar (mirror q i j ((j -i)/2)) e) p g none
  rw[show mirror (ar q e) i j ((j -i)/2)=ar (mirror q i j ((j -i)/2)) e from z6e (fun k=>i+k) (fun k=>j - 1 -k) _ q e]
 rw[e];exact h
theorem zdV{q:Array Nat}{p:Array (Nat×Nat×Nat)}{g k l:Nat}{P:(En->Unit)->(En->SortSt)->Prop}(h:P (fun _=>()) (sst (bubble q k (k -l)) p g)):Det cmp (fun _=>moveDown' k l) (sst q p g) P:=by
 erw[moveDown'_eq]
 refine z0e ?_
 have e:(fun e=>setArr (sst q p g e) (bubble (arrOf (sst q p g e)) k (k -l)))=sst (bubble q k (k -l)) p g:=by
  funext e
  show SortSt.mk' e.1 (bubble (ar q e) k (k -l)) p g none=SortSt.mk' e.1 (ar (bubble q k (k -l)) e) p g none
  rw[show bubble (ar q e) k (k -l)=ar (bubble q k (k -l)) e from z6e (fun i=>k -i) (fun i=>k -i - 1) _ q e]
 rw[e];exact h
theorem zaS{f:En->Nat->β->StateT SortSt Sem (ForInStep β)}{I:Nat->(En->β)->(En->SortSt)->Prop}{Q:(En->β)->(En->SortSt)->Prop}(hb: ∀(x:Nat) (k:Nat) (b:En->β) (st:En->SortSt),I (k+1) b st->Det cmp (fun e=>f e x (b e)) st fun v st'=>(∃c,v=(fun e=> .done (c e))/\Q c st')\/∃c,v=(fun e=> .yield (c e))/\I k c st')(hf: ∀b st,I 0 b st->Q b st):
 ∀(l:List Nat) (b:En->β) (st:En->SortSt),I l.length b st->Det cmp (fun e=>forIn l (b e) (f e)) st Q
 |[],b,st,h=>⟨b,st,hf b st h,fun _ _ _ _ _ _ _ s _ hg hq=>kasC_nil (hq s hg)⟩
 |x::l,b,st,h=>by
  obtain⟨v,st1,hp,h1⟩:=hb x l.length b st h
  rcases hp with⟨c,rfl,hp⟩|⟨c,rfl,hp⟩
  ·exact⟨c,st1,hp,fun prog w A E e G Q s hc hg hq=>kasC_cons (h1 prog w A E e G _ s hc hg fun s' hg'=>hq s' hg')⟩
  ·obtain⟨c2,st2,hp2,h2⟩:=zaS hb hf l c st1 hp
   exact⟨c2,st2,hp2,fun prog w A E e G Q s hc hg hq=>kasC_cons (h1 prog w A E e G _ s hc hg fun s' hg'=>h2 prog w A E e G Q s' hc hg' hq)⟩
theorem z0f{lo hi:Nat}{f:En->Nat->β->StateT SortSt Sem (ForInStep β)}{b:En->β}(I:Nat->(En->β)->(En->SortSt)->Prop){Q:(En->β)->(En->SortSt)->Prop}(h0:I (hi -lo) b st)(hb: ∀(x:Nat) (k:Nat) (b:En->β) (st:En->SortSt),I (k+1) b st->Det cmp (fun e=>f e x (b e)) st fun v st'=>(∃c,v=(fun e=> .done (c e))/\Q c st')\/∃c,v=(fun e=> .yield (c e))/\I k c st')(hf: ∀b st,I 0 b st->Q b st):
 Det cmp (fun e=>forIn [lo:hi] (b e) (f e)) st Q:=by
 obtain⟨v,st',hp,h⟩:=zaS (cmp:=cmp) (f:=f) (I:=I) (Q:=Q) hb hf (u00 lo (hi -lo)) b st (by rw[List.length_range'];exact h0)
 exact⟨v,st',hp,fun prog w A E e G Q s hc hg hq=>kasC_range (h prog w A E e G Q s hc hg hq)⟩
theorem Y8{c:En->β}{I:(En->β)->(En->SortSt)->Prop}{Q:(En->β)->(En->SortSt)->Prop}(h:Q c st):Det cmp (fun e=>pure (ForInStep.done (c e))) st fun v st'=>(∃c,v=(fun e=> .done (c e))/\Q c st')\/∃c,v=(fun e=> .yield (c e))/\I c st':=
 U2 (.inl ⟨c,rfl,h⟩)
theorem W0{c:En->β}{I:(En->β)->(En->SortSt)->Prop}{Q:(En->β)->(En->SortSt)->Prop}(h:I c st):Det cmp (fun e=>pure (ForInStep.yield (c e))) st fun v st'=>(∃c,v=(fun e=> .done (c e))/\Q c st')\/∃c,v=(fun e=> .yield (c e))/\I c st':=
 U2 (.inr ⟨c,rfl,h⟩)
theorem zaT{c:Prop}{i:En->Decidable c}{v:En->β}{I Q:(En->β)->(En->SortSt)->Prop}(h:I v st):Det cmp (fun e=> @ite _ c (i e) (pure (ForInStep.done (v e))) (pure (ForInStep.yield (v e)))) st fun u st'=>(∃c,u=(fun e=> .done (c e))/\(Q c st'\/I c st'))\/∃c,u=(fun e=> .yield (c e))/\I c st':=
 Y9 (fun _=>Y8 (.inr h)) fun _=>W0 h
theorem zdW{Q:Nat->Array Nat->Prop}(R:Nat->Array Nat->Prop){G:Prop}(h:(∀a o,R a o->Q a o)->G)(k: ∀a o,R a o->Q a o):G:=h k
theorem zdX{Q:Nat->Prop}{G:Prop}(h:(∀mm,Q mm)->G)(k: ∀mm,Q mm):G:=h k
end So
namespace So
open PySem PySem.W PyProof.Rows
noncomputable def gal:Bool->Keyed->Array Keyed->Nat->Nat->Nat->StateT SortSt Sem (Option Nat):=sortPriv%PySem.Builtin.gallop
variable{cmp:Nat->Nat->Bool}{α β:Type}{q:Array Nat}{p:Array (Nat×Nat×Nat)}{g:Nat}
theorem z4P{left:Bool}{r:Array Nat}{i x:Nat}{P:(En->Option Bool)->(En->SortSt)->Prop}(hi:i<r.size)(h: ∀b,P (fun _=>some b) (sst q p g)):
 Det cmp (fun e=>elem' (ar r e) i>>=fun y=>if left=true then lt' y (im x e) else lt' (im x e) y>>=fun o=>pure (o.map fun b=> !b)) (sst q p g) P:=by
 refine y8 (J4 hi ?_)
 cases left with
 |true=>exact zdU (h _)
 |false=>exact y8 (zdU (U2 (h _)))
theorem z0Q{left:Bool}{r:Array Nat}{x base n hint:Nat}{P:(En->Option Nat)->(En->SortSt)->Prop}(hn:base+n<=r.size)(hh:hint<n)(h: ∀k,k<=n->P (fun _=>some k) (sst q p g)):
 Det cmp (fun e=>gal left (im x e) (ar r e) base n hint) (sst q p g) P:=by
 refine y8 (z4P (left:=left) (r:=r) (i:=base+hint) (x:=x) (by lia) fun b=> ?_)
 cases b with
 |true=>
  refine y8 (u1 (P:=fun v st'=>st'=sst q p g/\∃lo hi:Nat,v=(fun _=>(none,lo,hi))) (z0f (I:=fun _ v st'=>st'=sst q p g/\∃lo hi:Nat,v=(fun _=>(none,lo,hi))) ⟨rfl,0,1,rfl⟩ ?_ fun _ _ h=>h) ?_)
  ·rintro _ k b st ⟨rfl,lo,hi,rfl⟩
   dsimp only
   refine Y9 (fun _=>Y8 ⟨rfl,lo,hi,rfl⟩) fun hlt=> ?_
   refine y8 (z4P (left:=left) (r:=r) (i:=base+(hint+hi)) (x:=x) (by lia) fun b=> ?_)
   cases b with
   |true=>exact W0 ⟨rfl,_,_,rfl⟩
   |false=>exact Y8 ⟨rfl,lo,hi,rfl⟩
  ·rintro v st ⟨rfl,lo,hi,rfl⟩
   dsimp only
   refine y8 (u1 (P:=fun v st'=>st'=sst q p g/\∃lo hi:Nat,v=(fun _=>(none,lo,hi))/\hi<=n) (z0f (I:=fun _ v st'=>st'=sst q p g/\∃lo hi:Nat,v=(fun _=>(none,lo,hi))/\hi<=n) ⟨rfl,_,_,rfl,by lia⟩ ?_ fun _ _ h=>h) ?_)
   ·rintro _ k b st ⟨rfl,lo,hi,rfl,hl⟩
    dsimp only
    refine Y9 (fun _=>Y8 ⟨rfl,lo,hi,rfl,hl⟩) fun hlt=> ?_
    refine y8 (z4P (left:=left) (r:=r) (x:=x) (by lia) fun b=> ?_)
    cases b with
    |true=>exact W0 ⟨rfl,_,hi,rfl,hl⟩
    |false=>exact W0 ⟨rfl,lo,_,rfl,by lia⟩
   ·rintro v st ⟨rfl,lo,hi,rfl,hl⟩
    exact U2 (h hi hl)
 |false=>
  refine y8 (u1 (P:=fun v st'=>st'=sst q p g/\∃lo hi:Nat,v=(fun _=>(none,lo,hi))) (z0f (I:=fun _ v st'=>st'=sst q p g/\∃lo hi:Nat,v=(fun _=>(none,lo,hi))) ⟨rfl,0,1,rfl⟩ ?_ fun _ _ h=>h) ?_)
  ·rintro _ k b st ⟨rfl,lo,hi,rfl⟩
   dsimp only
   refine Y9 (fun _=>Y8 ⟨rfl,lo,hi,rfl⟩) fun hlt=> ?_
   refine y8 (z4P (left:=left) (r:=r) (i:=base+(hint -hi)) (x:=x) (by lia) fun b=> ?_)
   cases b with
   |true=>exact Y8 ⟨rfl,lo,hi,rfl⟩
   |false=>exact W0 ⟨rfl,_,_,rfl⟩
  ·rintro v st ⟨rfl,lo,hi,rfl⟩
   dsimp only
   refine y8 (u1 (P:=fun v st'=>st'=sst q p g/\∃lo hi:Nat,v=(fun _=>(none,lo,hi))/\hi<=n) (z0f (I:=fun _ v st'=>st'=sst q p g/\∃lo hi:Nat,v=(fun _=>(none,lo,hi))/\hi<=n) ⟨rfl,_,_,rfl,by lia⟩ ?_ fun _ _ h=>h) ?_)
   ·rintro _ k b st ⟨rfl,lo,hi,rfl,hl⟩
    dsimp only
    refine Y9 (fun _=>Y8 ⟨rfl,lo,hi,rfl,hl⟩) fun hlt=> ?_
    refine y8 (z4P (left:=left) (r:=r) (x:=x) (by lia) fun b=> ?_)
    cases b with
    |true=>exact W0 ⟨rfl,_,hi,rfl,hl⟩
    |false=>exact W0 ⟨rfl,lo,_,rfl,by lia⟩
   ·rintro v st ⟨rfl,lo,hi,rfl,hl⟩
    exact U2 (h hi hl)
end So
set_option linter.unusedSimpArgs false
namespace So
open PySem PySem.W PyProof.Rows
noncomputable def mlo:Array Keyed->Array Keyed->StateT SortSt Sem (Array Keyed):=sortPriv%PySem.Builtin.mergeLo
theorem z1N{q:Array Nat}{e:En}:(ar q e).size=q.size:=by simp[ar]
theorem z0w{q:Array Nat}{i:Nat}{e:En}:(ar q e).push (im i e)=ar (q.push i) e:=by simp[ar]
theorem z01{q r:Array Nat}{e:En}:ar q e++ar r e=ar (q++r) e:=by simp[ar]
theorem X7{q:Array Nat}{i j:Nat}{e:En}:(ar q e).extract i j=ar (q.extract i j) e:=by simp[ar]
theorem z2t{q:Array Nat}{e:En}:(ar q e).reverse=ar q.reverse e:=by simp[ar]
theorem zaU{i:Nat}{e:En}: #[im i e]=ar #[i] e:=by simp[ar]
noncomputable def Al(T:Nat->Prop)(q:Array Nat):Prop:= ∀i∈q,T i
section
variable{T:Nat->Prop}{q r:Array Nat}
theorem Q2{i:Nat}(h:Al T q)(hi:T i):Al T (q.push i):=fun j hj=>by
 rcases Array.mem_push.mp hj with hj|rfl
 ·exact h j hj
 ·exact hi
theorem Q9(h:Al T q)(h':Al T r):Al T (q++r):=fun j hj=>by
 rcases Array.mem_append.mp hj with hj|hj
 ·exact h j hj
 ·exact h' j hj
theorem Q3{i j:Nat}(h:Al T q):Al T (q.extract i j):=fun k hk=>h k (by
 obtain⟨n,hn,rfl⟩:=Array.mem_iff_getElem.mp hk
 rw[Array.getElem_extract]
 exact Array.getElem_mem _)
theorem z0x(h:Al T q):Al T q.reverse:=fun k hk=>h k (Array.mem_reverse.mp hk)
theorem Y3{i:Nat}(h:Al T q)(hi:i<q.size):T q[i]:=h _ (Array.getElem_mem hi)
theorem z3r{i:Nat}(h:T i):Al T #[i]:=fun j hj=>by
 rw[Array.mem_singleton.mp hj];exact h
end
variable{cmp:Nat->Nat->Bool}{α β:Type}{q:Array Nat}{p:Array (Nat×Nat×Nat)}{g:Nat}
theorem z6f{g':Nat}{P:(En->Unit)->(En->SortSt)->Prop}(h:P (fun _=>()) (sst q p g')):Det cmp (fun _=>(sortPriv%PySem.Builtin.setMinGallop) g') (sst q p g) P:=z0e h
noncomputable def Rt(T:Nat->Prop)(q:Array Nat)(p:Array (Nat×Nat×Nat)){β:Type}(v:En->Option (Array Keyed)×β)(st:En->SortSt):Prop:= ∃(mq:Array Nat) (b:En->β) (g:Nat),v=(fun e=>(some (ar mq e),b e))/\Al T mq/\st=sst q p g
theorem zgP{T:Nat->Prop}{qa qb:Array Nat}{P:(En->Array Keyed)->(En->SortSt)->Prop}(ha:Al T qa)(hb:Al T qb)(a1:1<=qa.size)(b1:1<=qb.size)(h: ∀mq g',Al T mq->P (ar mq) (sst q p g')):
 Det cmp (fun e=>mlo (ar qa e) (ar qb e)) (sst q p g) P:=by
 refine y8 (z2s ?_)
 refine y8 (J4 (by lia) ?_)
 erw[z1N,zaU,z01,X7]
 refine Y9 (fun _=>U2 (h _ _ ?_)) fun c1=>Y9 (fun _=>U2 (h _ _ ?_)) fun c2=> ?_
 ·exact Q9 (Q9 (z3r (Y3 hb _)) (Q3 ha)) (Q3 hb)
 ·exact Q9 (Q9 (z3r (Y3 hb _)) (Q3 hb)) (Q3 ha)
 erw[beq_iff_eq] at c1 c2
 refine y8 (z2r ?_)
 try dsimp only
 refine y8 (u1 (P:=fun v st'=>Rt T q p v st') (z0f (I:=fun k v st'=> ∃(out:Array Nat) (ia ib mg g':Nat),v=(fun e=>(none,ar out e,ia,ib,mg))/\st'=sst q p g'/\Al T out/\ia+1<qa.size/\ib<qb.size/\qa.size+qb.size+1<=ia+ib+k) ⟨_,0,1,g,g,rfl,rfl,z3r (Y3 hb (by lia)),by lia,by lia,by lia⟩ ?_ ?_) ?_)
 ·rintro _ k b st ⟨out,ia,ib,mg,g',rfl,rfl,ho,hia,hib,hk⟩
  try dsimp only
  refine y8 (u1 (P:=fun v st'=>Rt T q p v st'\/∃(out:Array Nat) (ja jb ac bc:Nat),v=(fun e=>(none,ar out e,ja,jb,ac,bc))/\st'=sst q p g'/\Al T out/\ja+1<qa.size/\jb<qb.size/\ia+ib+1<=ja+jb)
   (z0f (I:=fun k v st'=> ∃(out:Array Nat) (ja jb ac bc:Nat),v=(fun e=>(none,ar out e,ja,jb,ac,bc))/\st'=sst q p g'/\Al T out/\ja+1<qa.size/\jb<qb.size/\ia+ib+(qa.size+qb.size)<=ja+jb+k/\k<=qa.size+qb.size) ⟨out,ia,ib,0,0,rfl,rfl,ho,hia,hib,by lia,by lia⟩ ?_ ?_) ?_)
  ·rintro _ k b st ⟨out,ja,jb,ac,bc,rfl,rfl,ho,hja,hjb,hp,hk2⟩
   try dsimp only
   refine y8 (J4 hjb (y8 (J4 (by lia) (y8 (zdU ?_)))))
   try dsimp only
   cases cmp qb[jb] qa[ja] with
   |true=>
    refine y8 (J4 hjb ?_)
    try dsimp only
    erw[z0w,z01,X7]
    refine Y9 (fun _=>Y8 (.inl ⟨_,_,_,rfl,Q9 (Q9 (Q2 ho (Y3 hb _)) (Q3 ha)) (Q3 hb),rfl⟩)) fun c=> ?_
    erw[beq_iff_eq] at c
    refine Y9 (fun _=>Y8 (.inr ⟨_,_,_,_,_,rfl,rfl,Q2 ho (Y3 hb _),hja,by lia,by lia⟩)) fun _=>W0 ⟨_,_,_,_,_,rfl,rfl,Q2 ho (Y3 hb _),hja,by lia,by lia,by lia⟩
   |false=>
    refine y8 (J4 (by lia) ?_)
    try dsimp only
    erw[z0w,z01,X7]
    refine Y9 (fun _=>Y8 (.inl ⟨_,_,_,rfl,Q9 (Q9 (Q2 ho (Y3 ha _)) (Q3 hb)) (Q3 ha),rfl⟩)) fun c=> ?_
    erw[beq_iff_eq] at c
    refine Y9 (fun _=>Y8 (.inr ⟨_,_,_,_,_,rfl,rfl,Q2 ho (Y3 ha _),by lia,hjb,by lia⟩)) fun _=>W0 ⟨_,_,_,_,_,rfl,rfl,Q2 ho (Y3 ha _),by lia,hjb,by lia,by lia⟩
  ·rintro b st ⟨out,ja,jb,ac,bc,rfl,rfl,ho,hja,hjb,hp,hk2⟩
   exact .inr ⟨_,_,_,_,_,rfl,rfl,ho,hja,hjb,by lia⟩
  ·rintro v st (⟨mq,b,g2,rfl,hm,rfl⟩|⟨out,ja,jb,ac,bc,rfl,rfl,ho,hja,hjb,hp⟩)
   ·exact Y8 ⟨_,_,_,rfl,hm,rfl⟩
   try dsimp only
   refine y8 (z2s ?_)
   refine y8 (u1 (P:=fun v st'=>Rt T q p v st'\/∃(out:Array Nat) (ka kb mg ac bc g':Nat),v=(fun e=>(none,ar out e,ka,kb,mg,ac,bc))/\st'=sst q p g'/\Al T out/\ka+1<qa.size/\kb<qb.size/\ja+jb<=ka+kb)
    (z0f (I:=fun k v st'=> ∃(out:Array Nat) (ka kb mg ac bc g':Nat),v=(fun e=>(none,ar out e,ka,kb,mg,ac,bc))/\st'=sst q p g'/\Al T out/\ka+1<qa.size/\kb<qb.size/\ja+jb<=ka+kb) ⟨out,ja,jb,_,ac,bc,_,rfl,rfl,ho,hja,hjb,by lia⟩ ?_ fun b st h=> .inr h) ?_)
   ·rintro _ k b st ⟨out,ka,kb,mg,ac,bc,g2,rfl,rfl,ho,hka,hkb,hp2⟩
    try dsimp only
    try erw[z1N]
    apply zdX
    ·intro key
     refine Y9 (c:=mg>1) (fun _=> ?_) (fun _=> ?_)
     rotate_left
     ·generalize mg=z
      exact key z
     ·exact key _
    ·intro mm
     try dsimp only
     refine y8 (z6f (y8 (J4 hkb (y8 (z0Q (by lia) (by lia) fun k hk=> ?_)))))
     try dsimp only
     try erw[z01,X7]
     refine Y9 (fun k0=>Y9 (fun _=>Y8 (.inl ⟨_,_,_,rfl, ?_,rfl⟩)) fun c1=>Y9 (fun _=>Y8 (.inl ⟨_,_,_,rfl, ?_,rfl⟩)) fun c2=> ?_) (fun k0=> ?_)
     ·(repeat' first|with_reducible assumption|with_reducible exact Y3 ha _|with_reducible exact Y3 hb _|with_reducible apply Q2|with_reducible apply Q9|with_reducible apply Q3)
     ·(repeat' first|with_reducible assumption|with_reducible exact Y3 ha _|with_reducible exact Y3 hb _|with_reducible apply Q2|with_reducible apply Q9|with_reducible apply Q3)
     all_goals
      try erw[beq_iff_eq] at c1 c2
      refine y8 (J4 hkb ?_)
      try dsimp only
      try erw[z0w,z01,X7]
      refine Y9 (fun _=>Y8 (.inl ⟨_,_,_,rfl, ?_,rfl⟩)) fun c3=> ?_
      ·(repeat' first|with_reducible assumption|with_reducible exact Y3 ha _|with_reducible exact Y3 hb _|with_reducible apply Q2|with_reducible apply Q9|with_reducible apply Q3)
      erw[beq_iff_eq] at c3
      refine y8 (J4 (by lia) (y8 (z0Q (by lia) (by lia) fun k' hk'=> ?_)))
      try dsimp only
      try erw[z01,X7]
      refine Y9 (fun k1=>Y9 (fun _=>Y8 (.inl ⟨_,_,_,rfl, ?_,rfl⟩)) fun c4=> ?_) (fun k1=> ?_)
      ·(repeat' first|with_reducible assumption|with_reducible exact Y3 ha _|with_reducible exact Y3 hb _|with_reducible apply Q2|with_reducible apply Q9|with_reducible apply Q3)
      all_goals
       try erw[beq_iff_eq] at c4
       refine y8 (J4 (by lia) ?_)
       try dsimp only
       try erw[z0w,z01,X7]
       refine Y9 (fun _=>Y8 (.inl ⟨_,_,_,rfl, ?_,rfl⟩)) fun c5=> ?_
       ·(repeat' first|with_reducible assumption|with_reducible exact Y3 ha _|with_reducible exact Y3 hb _|with_reducible apply Q2|with_reducible apply Q9|with_reducible apply Q3)
       erw[beq_iff_eq] at c5
       refine zaT ⟨_,_,_,_,_,_,_,rfl,rfl, ?_,by lia,by lia,by lia⟩
       (repeat' first|with_reducible assumption|with_reducible exact Y3 ha _|with_reducible exact Y3 hb _|with_reducible apply Q2|with_reducible apply Q9|with_reducible apply Q3)
   ·rintro v st (⟨mq,b,g2,rfl,hm,rfl⟩|⟨out,ka,kb,mg,ac,bc,g2,rfl,rfl,ho,hka,hkb,hp2⟩)
    ·exact Y8 ⟨_,_,_,rfl,hm,rfl⟩
    ·try dsimp only
     exact y8 (z6f (W0 ⟨_,_,_,_,_,rfl,rfl,ho,hka,hkb,by lia⟩))
 ·rintro b st ⟨out,ia,ib,mg,g',rfl,rfl,ho,hia,hib,hk⟩
  lia
 ·rintro v st ⟨mq,b,g',rfl,hm,rfl⟩
  exact U2 (h _ _ hm)
end So
namespace So
open PySem PySem.W PyProof.Rows
noncomputable def mhi:Array Keyed->Array Keyed->StateT SortSt Sem (Array Keyed):=sortPriv%PySem.Builtin.mergeHi
variable{cmp:Nat->Nat->Bool}{α β:Type}{q:Array Nat}{p:Array (Nat×Nat×Nat)}{g:Nat}
theorem zgQ{T:Nat->Prop}{qa qb:Array Nat}{P:(En->Array Keyed)->(En->SortSt)->Prop}(ha:Al T qa)(hb:Al T qb)(a1:1<=qa.size)(b1:1<=qb.size)(h: ∀mq g',Al T mq->P (ar mq) (sst q p g')):
 Det cmp (fun e=>mhi (ar qa e) (ar qb e)) (sst q p g) P:=by
 refine y8 (z2s ?_)
 try dsimp only
 try erw[z1N]
 refine y8 (J4 (by lia) ?_)
 erw[z1N,zaU,z01,X7,z2t]
 refine Y9 (fun _=>U2 (h _ _ ?_)) fun c1=>Y9 (fun _=>U2 (h _ _ ?_)) fun c2=> ?_
 ·exact Q9 (Q9 (Q3 ha) (Q3 hb)) (z0x (z3r (Y3 ha _)))
 ·exact Q9 (Q9 (Q3 hb) (Q3 ha)) (z0x (z3r (Y3 ha _)))
 erw[beq_iff_eq] at c1 c2
 refine y8 (z2r ?_)
 try dsimp only
 refine y8 (u1 (P:=fun v st'=>Rt T q p v st') (z0f (I:=fun k v st'=> ∃(na nb:Nat) (out:Array Nat) (mg g':Nat),v=(fun e=>(none,na,nb,ar out e,mg))/\st'=sst q p g'/\Al T out/\1<=na/\na<=qa.size/\2<=nb/\nb<=qb.size/\na+nb+1<=k) ⟨qa.size - 1,qb.size,_,g,g,rfl,rfl,z3r (Y3 ha (by lia)),by lia,by lia,by lia,by lia,by lia⟩ ?_ ?_) ?_)
 ·rintro _ k b st ⟨na,nb,out,mg,g',rfl,rfl,ho,na1,na2,nb1,nb2,hk⟩
  try dsimp only
  refine y8 (u1 (P:=fun v st'=>Rt T q p v st'\/∃(ja jb:Nat) (out:Array Nat) (ac bc:Nat),v=(fun e=>(none,ja,jb,ar out e,ac,bc))/\st'=sst q p g'/\Al T out/\1<=ja/\ja<=qa.size/\2<=jb/\jb<=qb.size/\ja+jb+1<=na+nb)
   (z0f (I:=fun k v st'=> ∃(ja jb:Nat) (out:Array Nat) (ac bc:Nat),v=(fun e=>(none,ja,jb,ar out e,ac,bc))/\st'=sst q p g'/\Al T out/\1<=ja/\ja<=qa.size/\2<=jb/\jb<=qb.size/\ja+jb+(qa.size+qb.size)<=na+nb+k/\k<=qa.size+qb.size) ⟨na,nb,out,0,0,rfl,rfl,ho,na1,na2,nb1,nb2,by lia,by lia⟩ ?_ ?_) ?_)
  ·rintro _ k b st ⟨ja,jb,out,ac,bc,rfl,rfl,ho,ja1,ja2,jb1,jb2,hp,hk2⟩
   try dsimp only
   refine y8 (J4 (by lia) (y8 (J4 (by lia) (y8 (zdU ?_)))))
   try dsimp only
   cases cmp qb[jb - 1] qa[ja - 1] with
   |true=>
    refine y8 (J4 (by lia) ?_)
    try dsimp only
    try erw[z0w,z01,X7,z2t]
    refine Y9 (fun _=>Y8 (.inl ⟨_,_,_,rfl,Q9 (Q9 (Q3 ha) (Q3 hb)) (z0x (Q2 ho (Y3 ha _))),rfl⟩)) fun c=> ?_
    erw[beq_iff_eq] at c
    refine Y9 (fun _=>Y8 (.inr ⟨_,_,_,_,_,rfl,rfl,Q2 ho (Y3 ha _),by lia,by lia,by lia,by lia,by lia⟩)) fun _=>W0 ⟨_,_,_,_,_,rfl,rfl,Q2 ho (Y3 ha _),by lia,by lia,by lia,by lia,by lia,by lia⟩
   |false=>
    refine y8 (J4 (by lia) ?_)
    try dsimp only
    try erw[z0w,z01,X7,z2t]
    refine Y9 (fun _=>Y8 (.inl ⟨_,_,_,rfl,Q9 (Q9 (Q3 hb) (Q3 ha)) (z0x (Q2 ho (Y3 hb _))),rfl⟩)) fun c=> ?_
    erw[beq_iff_eq] at c
    refine Y9 (fun _=>Y8 (.inr ⟨_,_,_,_,_,rfl,rfl,Q2 ho (Y3 hb _),by lia,by lia,by lia,by lia,by lia⟩)) fun _=>W0 ⟨_,_,_,_,_,rfl,rfl,Q2 ho (Y3 hb _),by lia,by lia,by lia,by lia,by lia,by lia⟩
  ·rintro b st ⟨ja,jb,out,ac,bc,rfl,rfl,ho,ja1,ja2,jb1,jb2,hp,hk2⟩
   exact .inr ⟨_,_,_,_,_,rfl,rfl,ho,ja1,ja2,jb1,jb2,by lia⟩
  ·rintro v st (⟨mq,b,g2,rfl,hm,rfl⟩|⟨ja,jb,out,ac,bc,rfl,rfl,ho,ja1,ja2,jb1,jb2,hp⟩)
   ·exact Y8 ⟨_,_,_,rfl,hm,rfl⟩
   try dsimp only
   refine y8 (z2s ?_)
   refine y8 (u1 (P:=fun v st'=>Rt T q p v st'\/∃(ka kb:Nat) (out:Array Nat) (mg ac bc g':Nat),v=(fun e=>(none,ka,kb,ar out e,mg,ac,bc))/\st'=sst q p g'/\Al T out/\1<=ka/\ka<=qa.size/\2<=kb/\kb<=qb.size/\ka+kb<=ja+jb)
    (z0f (I:=fun k v st'=> ∃(ka kb:Nat) (out:Array Nat) (mg ac bc g':Nat),v=(fun e=>(none,ka,kb,ar out e,mg,ac,bc))/\st'=sst q p g'/\Al T out/\1<=ka/\ka<=qa.size/\2<=kb/\kb<=qb.size/\ka+kb<=ja+jb) ⟨ja,jb,out,_,ac,bc,_,rfl,rfl,ho,ja1,ja2,jb1,jb2,by lia⟩ ?_ fun b st h=> .inr h) ?_)
   ·rintro _ k b st ⟨ka,kb,out,mg,ac,bc,g2,rfl,rfl,ho,ka1,ka2,kb1,kb2,hp2⟩
    try dsimp only
    try erw[z1N]
    apply zdX
    ·intro key
     refine Y9 (c:=mg>1) (fun _=> ?_) (fun _=> ?_)
     rotate_left
     ·generalize mg=z
      exact key z
     ·exact key _
    ·intro mm
     try dsimp only
     refine y8 (z6f (y8 (J4 (by lia) (y8 (z0Q (by lia) (by lia) fun k hk=> ?_)))))
     try dsimp only
     try erw[z01,X7,z2t]
     obtain⟨W,hW⟩: ∃W,ka -k=W:=⟨_,rfl⟩
     erw[hW]
     obtain⟨KA,hKA⟩: ∃KA,KA=ka:=⟨_,rfl⟩
     apply zdW (fun a o=>Al T o/\1<=a/\a<=KA)
     ·intro key
      refine Y9 (fun k0=>Y9 (fun _=>Y8 (.inl ⟨_,_,_,rfl, ?_,rfl⟩)) fun c1=> ?_) (fun k0=> ?_)
      ·(repeat' first|with_reducible assumption|with_reducible exact Y3 ha _|with_reducible exact Y3 hb _|with_reducible apply Q2|with_reducible apply Q9|with_reducible apply Q3|with_reducible apply z0x)
      rotate_left
      ·have r:Al T out/\1<=ka/\ka<=KA:=⟨ho,ka1,by lia⟩
       revert r
       generalize out=z2
       generalize ka=z1
       intro r
       exact key z1 z2 r
      ·erw[beq_iff_eq] at c1
       refine key _ _ ⟨?_,by lia,by lia⟩
       (repeat' first|with_reducible assumption|with_reducible exact Y3 ha _|with_reducible exact Y3 hb _|with_reducible apply Q2|with_reducible apply Q9|with_reducible apply Q3|with_reducible apply z0x)
     ·intro ka0 out0 r0
      obtain⟨ho0,ka01,ka02⟩:=r0
      try dsimp only
      refine y8 (J4 (by lia) ?_)
      try dsimp only
      try erw[z0w,z01,X7,z2t]
      refine Y9 (fun _=>Y8 (.inl ⟨_,_,_,rfl, ?_,rfl⟩)) fun c3=> ?_
      ·(repeat' first|with_reducible assumption|with_reducible exact Y3 ha _|with_reducible exact Y3 hb _|with_reducible apply Q2|with_reducible apply Q9|with_reducible apply Q3|with_reducible apply z0x)
      erw[beq_iff_eq] at c3
      refine y8 (J4 (by lia) (y8 (z0Q (by lia) (by lia) fun k' hk'=> ?_)))
      try dsimp only
      try erw[z01,X7,z2t]
      refine Y9 (fun k1=>Y9 (fun _=>Y8 (.inl ⟨_,_,_,rfl, ?_,rfl⟩)) fun c4=>Y9 (fun _=>Y8 (.inl ⟨_,_,_,rfl, ?_,rfl⟩)) fun c6=> ?_) (fun k1=> ?_)
      ·(repeat' first|with_reducible assumption|with_reducible exact Y3 ha _|with_reducible exact Y3 hb _|with_reducible apply Q2|with_reducible apply Q9|with_reducible apply Q3|with_reducible apply z0x)
      ·(repeat' first|with_reducible assumption|with_reducible exact Y3 ha _|with_reducible exact Y3 hb _|with_reducible apply Q2|with_reducible apply Q9|with_reducible apply Q3|with_reducible apply z0x)
      all_goals
       try erw[beq_iff_eq] at c4 c6
       refine y8 (J4 (by lia) ?_)
       try dsimp only
       try erw[z0w,z01,X7,z2t]
       refine Y9 (fun _=>Y8 (.inl ⟨_,_,_,rfl, ?_,rfl⟩)) fun c5=> ?_
       ·(repeat' first|with_reducible assumption|with_reducible exact Y3 ha _|with_reducible exact Y3 hb _|with_reducible apply Q2|with_reducible apply Q9|with_reducible apply Q3|with_reducible apply z0x)
       erw[beq_iff_eq] at c5
       erw[l0,decide_eq_true_eq]
       refine zaT ⟨_,_,_,_,_,_,_,rfl,rfl, ?_,by lia,by lia,by lia,by lia,by lia⟩
       (repeat' first|with_reducible assumption|with_reducible exact Y3 ha _|with_reducible exact Y3 hb _|with_reducible apply Q2|with_reducible apply Q9|with_reducible apply Q3|with_reducible apply z0x)
   ·rintro v st (⟨mq,b,g2,rfl,hm,rfl⟩|⟨ka,kb,out,mg,ac,bc,g2,rfl,rfl,ho,ka1,ka2,kb1,kb2,hp2⟩)
    ·exact Y8 ⟨_,_,_,rfl,hm,rfl⟩
    ·try dsimp only
     exact y8 (z6f (W0 ⟨_,_,_,_,_,rfl,rfl,ho,ka1,ka2,kb1,kb2,by lia⟩))
 ·rintro b st ⟨na,nb,out,mg,g',rfl,rfl,ho,na1,na2,nb1,nb2,hk⟩
  lia
 ·rintro v st ⟨mq,b,g',rfl,hm,rfl⟩
  exact U2 (h _ _ hm)
end So
namespace So
open PySem PySem.W PyProof.Rows
variable{cmp:Nat->Nat->Bool}{α β:Type}{q:Array Nat}{p:Array (Nat×Nat×Nat)}{g:Nat}{T:Nat->Prop}{st:En->SortSt}
theorem zc0{i j:Nat}(h:Al T q):Al T (q.swapIfInBounds i j):=by
 rw[Array.swapIfInBounds_def]
 split
 ·split
  ·exact fun k hk=>h k ((Array.Perm.mem_iff (Array.swap_perm _ _)).mp hk)
  ·exact h
 ·exact h
theorem z3T(u v:Nat->Nat): ∀(l:List Nat) (q:Array Nat),Al T q->Al T (l.foldl (fun a k=>a.swapIfInBounds (u k) (v k)) q)
 |[],_,h=>h
 |k::l,q,h=>z3T u v l _ (zc0 h)
theorem z3U(u v:Nat->Nat): ∀(l:List Nat) (q:Array Nat),(l.foldl (fun a k=>a.swapIfInBounds (u k) (v k)) q).size=q.size
 |[],_=>rfl
 |k::l,q=>by
  show(l.foldl _ (q.swapIfInBounds (u k) (v k))).size=_
  rw[z3U u v l,Array.size_swapIfInBounds]
theorem z1t{i j k:Nat}(h:Al T q):Al T (mirror q i j k):=z3T (fun k=>i+k) (fun k=>j - 1 -k) _ q h
theorem k8{i j k:Nat}:(mirror q i j k).size=q.size:=z3U (fun k=>i+k) (fun k=>j - 1 -k) _ q
theorem zdY{i k:Nat}(h:Al T q):Al T (bubble q i k):=z3T (fun k=>i -k) (fun k=>i -k - 1) _ q h
theorem zdZ{i k:Nat}:(bubble q i k).size=q.size:=z3U (fun k=>i -k) (fun k=>i -k - 1) _ q
theorem zaV{f:En->Nat->β->StateT SortSt Sem (ForInStep β)}{I:Nat->(En->β)->(En->SortSt)->Prop}{Q:(En->β)->(En->SortSt)->Prop}{hi:Nat}(hb: ∀(x:Nat) (b:En->β) (st:En->SortSt),x<hi->I x b st->Det cmp (fun e=>f e x (b e)) st fun v st'=>(∃c,v=(fun e=> .done (c e))/\Q c st')\/∃c,v=(fun e=> .yield (c e))/\I (x+1) c st')(hf: ∀x b st,I x b st->Q b st):
 ∀(n lo:Nat) (b:En->β) (st:En->SortSt),lo+n<=hi->I lo b st->Det cmp (fun e=>forIn (u00 lo n) (b e) (f e)) st Q
 |0,lo,b,st,_,h=>⟨b,st,hf lo b st h,fun _ _ _ _ _ _ _ s _ hg hq=>kasC_nil (hq s hg)⟩
 |n+1,lo,b,st,hl,h=>by
  obtain⟨v,st1,hp,h1⟩:=hb lo b st (by lia) h
  rcases hp with⟨c,rfl,hp⟩|⟨c,rfl,hp⟩
  ·exact⟨c,st1,hp,fun prog w A E e G Q s hc hg hq=>kasC_cons (h1 prog w A E e G _ s hc hg fun s' hg'=>hq s' hg')⟩
  ·obtain⟨c2,st2,hp2,h2⟩:=zaV hb hf n (lo+1) c st1 (by lia) hp
   exact⟨c2,st2,hp2,fun prog w A E e G Q s hc hg hq=>kasC_cons (h1 prog w A E e G _ s hc hg fun s' hg'=>h2 prog w A E e G Q s' hc hg' hq)⟩
theorem ze0{lo hi:Nat}{f:En->Nat->β->StateT SortSt Sem (ForInStep β)}{b:En->β}(I:Nat->(En->β)->(En->SortSt)->Prop){Q:(En->β)->(En->SortSt)->Prop}(h0:I lo b st)(hb: ∀(x:Nat) (b:En->β) (st:En->SortSt),x<hi->I x b st->Det cmp (fun e=>f e x (b e)) st fun v st'=>(∃c,v=(fun e=> .done (c e))/\Q c st')\/∃c,v=(fun e=> .yield (c e))/\I (x+1) c st')(hf: ∀x b st,I x b st->Q b st):
 Det cmp (fun e=>forIn [lo:hi] (b e) (f e)) st Q:=by
 by_cases hl:lo<=hi
 ·obtain⟨v,st',hp,h⟩:=zaV (cmp:=cmp) (f:=f) (I:=I) (Q:=Q) hb hf (hi -lo) lo b st (by lia) h0
  exact⟨v,st',hp,fun prog w A E e G Q s hc hg hq=>kasC_range (h prog w A E e G Q s hc hg hq)⟩
 ·refine⟨b,st,hf lo b st h0,fun prog w A E e G Q s hc hg hq=>kasC_range ?_⟩
  rw[show hi -lo=0 by lia]
  exact kasC_nil (hq s hg)
theorem z6g{lo nrem n m:Nat}{P:(En->Option Nat)->(En->SortSt)->Prop}{f:Nat->Option (Option Nat)×Nat->StateT SortSt Sem (ForInStep (Option (Option Nat)×Nat))}{k:Option (Option Nat)×Nat->StateT SortSt Sem (Option Nat)}(hf: ∀x m,f x (none,m)=ltAt' (lo+m) (lo+m - 1)>>=fun o=>match o with|some b=>if b=true then pure (.done (none,m)) else pure (.yield (none,m+1))|_=>pure (.done (some none,m)))(hk: ∀m,k (none,m)=pure (some m))(hs:q.size=n)(hl:lo+nrem<=n)(m1:1<=m)(m2:m<=nrem)(h: ∀k,1<=k->k<=nrem->P (fun _=>some k) (sst q p g)):
 Det cmp (fun _=>forIn [m:nrem] ((none,m):Option (Option Nat)×Nat) f>>=k) (sst q p g) P:=by
 refine y8 (u1 (P:=fun v st'=> ∃m:Nat,v=(fun _=>(none,m))/\st'=sst q p g/\1<=m/\m<=nrem) (z0f (I:=fun k v st'=> ∃m:Nat,v=(fun _=>(none,m))/\st'=sst q p g/\1<=m/\m+k=nrem) ⟨m,rfl,rfl,m1,by lia⟩ ?_ ?_) ?_)
 ·rintro _ k b st ⟨m,rfl,rfl,m1,hm⟩
  erw[hf]
  refine y8 (z24 (by lia) (by lia) ?_)
  try dsimp only
  exact Y9 (fun _=>Y8 ⟨m,rfl,rfl,m1,by lia⟩) fun _=>W0 ⟨m+1,rfl,rfl,by lia,by lia⟩
 ·rintro b st ⟨m,rfl,rfl,m1,hm⟩
  exact⟨m,rfl,rfl,m1,by lia⟩
 ·rintro v st ⟨m,rfl,rfl,m1,m2⟩
  erw[hk]
  exact U2 (h m m1 m2)
theorem zgR{lo nrem n:Nat}{P:(En->Option Nat)->(En->SortSt)->Prop}(ha:Al T q)(hs:q.size=n)(hl:lo+nrem<=n)(h1:1<=nrem)(h: ∀k q',1<=k->k<=nrem->Al T q'->q'.size=n->P (fun _=>some k) (sst q' p g)):
 Det cmp (fun _=>countRun' lo nrem) (sst q p g) P:=by
 refine y8 (u1 (P:=fun v st'=> ∃m:Nat,v=(fun _=>(none,m))/\st'=sst q p g/\1<=m/\m<=nrem) (z0f (I:=fun k v st'=> ∃m:Nat,v=(fun _=>(none,m))/\st'=sst q p g/\1<=m/\m+k=nrem) ⟨1,rfl,rfl,i4 _,by lia⟩ ?_ ?_) ?_)
 ·rintro _ k b st ⟨m,rfl,rfl,m1,hm⟩
  refine y8 (z24 (by lia) (by lia) ?_)
  try dsimp only
  exact Y9 (fun _=>Y8 ⟨m,rfl,rfl,m1,by lia⟩) fun _=>W0 ⟨m+1,rfl,rfl,by lia,by lia⟩
 ·rintro b st ⟨m,rfl,rfl,m1,hm⟩
  exact⟨m,rfl,rfl,m1,by lia⟩
 rintro v st ⟨m,rfl,rfl,m1,m2⟩
 try dsimp only
 refine Y9 (fun _=>U2 (h m q m1 m2 ha hs)) fun c1=> ?_
 erw[beq_iff_eq] at c1
 have m3:m<nrem:=by lia
 clear c1 m2
 refine Y9 (fun c2=> ?_) fun c2=> ?_
 ·refine y8 (z24 (by lia) (by lia) ?_)
  try dsimp only
  refine Y9 (fun _=>U2 (h m q m1 (by lia) ha hs)) fun c3=> ?_
  refine y8 (z3S ?_)
  have ha:=z1t (i:=lo) (j:=lo+m) (k:=(lo+m -lo)/2) ha
  have hs:=(k8 (i:=lo) (j:=lo+m) (k:=(lo+m -lo)/2)).trans hs
  generalize mirror q lo (lo+m) ((lo+m -lo)/2)=q at ha hs⊢
  refine y8 (z2s ?_)
  refine y8 (u1 (P:=fun v st'=> ∃(m z:Nat) (q:Array Nat),v=(fun _=>(none,m,z))/\st'=sst q p g/\1<=m/\m<=nrem/\Al T q/\q.size=n) (z0f (I:=fun k v st'=> ∃(m z:Nat) (q:Array Nat),v=(fun _=>(none,m,z))/\st'=sst q p g/\1<=m/\m+k=nrem/\Al T q/\q.size=n) ⟨m+1,0,q,rfl,rfl,by lia,by lia,ha,hs⟩ ?_ ?_) ?_)
  ·rintro _ k b st ⟨m,z,q,rfl,rfl,m1,hm,ha,hs⟩
   try dsimp only
   refine y8 (z24 (by lia) (by lia) ?_)
   try dsimp only
   refine Y9 (fun _=> ?_) fun _=> ?_
   ·refine Y9 (fun _=>y8 (z3S (W0 ⟨m+1,0,_,rfl,rfl,by lia,by lia,z1t ha,k8.trans hs⟩))) fun _=>W0 ⟨m+1,0,_,rfl,rfl,by lia,by lia,ha,hs⟩
   ·refine y8 (z24 (by lia) (by lia) ?_)
    try dsimp only
    exact Y9 (fun _=>Y8 ⟨m,z,_,rfl,rfl,m1,by lia,ha,hs⟩) fun _=>W0 ⟨m+1,_,_,rfl,rfl,by lia,by lia,ha,hs⟩
  ·rintro b st ⟨m,z,q,rfl,rfl,m1,hm,ha,hs⟩
   exact⟨m,z,q,rfl,rfl,m1,by lia,ha,hs⟩
  rintro v st ⟨m,z,q,rfl,rfl,m1,m2,ha,hs⟩
  try dsimp only
  refine Y9 (fun _=>y8 (z3S ?_)) fun _=> ?_
  ·refine y8 (z3S ?_)
   exact z6g (fun _ _=>rfl) (fun _=>rfl) (k8.trans (k8.trans hs)) hl m1 m2 fun k k1 k2=>h k _ k1 k2 (z1t (z1t ha)) (k8.trans (k8.trans hs))
  ·refine y8 (z3S ?_)
   exact z6g (fun _ _=>rfl) (fun _=>rfl) (k8.trans hs) hl m1 m2 fun k k1 k2=>h k _ k1 k2 (z1t ha) (k8.trans hs)
 ·refine y8 (z2s ?_)
  refine y8 (u1 (P:=fun v st'=> ∃(m z:Nat) (q:Array Nat),v=(fun _=>(none,m,z))/\st'=sst q p g/\1<=m/\m<=nrem/\Al T q/\q.size=n) (z0f (I:=fun k v st'=> ∃(m z:Nat) (q:Array Nat),v=(fun _=>(none,m,z))/\st'=sst q p g/\1<=m/\m+k=nrem/\Al T q/\q.size=n) ⟨m+1,0,q,rfl,rfl,by lia,by lia,ha,hs⟩ ?_ ?_) ?_)
  ·rintro _ k b st ⟨m,z,q,rfl,rfl,m1,hm,ha,hs⟩
   try dsimp only
   refine y8 (z24 (by lia) (by lia) ?_)
   try dsimp only
   refine Y9 (fun _=> ?_) fun _=> ?_
   ·refine Y9 (fun _=>y8 (z3S (W0 ⟨m+1,0,_,rfl,rfl,by lia,by lia,z1t ha,k8.trans hs⟩))) fun _=>W0 ⟨m+1,0,_,rfl,rfl,by lia,by lia,ha,hs⟩
   ·refine y8 (z24 (by lia) (by lia) ?_)
    try dsimp only
    exact Y9 (fun _=>Y8 ⟨m,z,_,rfl,rfl,m1,by lia,ha,hs⟩) fun _=>W0 ⟨m+1,_,_,rfl,rfl,by lia,by lia,ha,hs⟩
  ·rintro b st ⟨m,z,q,rfl,rfl,m1,hm,ha,hs⟩
   exact⟨m,z,q,rfl,rfl,m1,by lia,ha,hs⟩
  rintro v st ⟨m,z,q,rfl,rfl,m1,m2,ha,hs⟩
  try dsimp only
  refine Y9 (fun _=>y8 (z3S ?_)) fun _=> ?_
  ·refine y8 (z3S ?_)
   exact z6g (fun _ _=>rfl) (fun _=>rfl) (k8.trans (k8.trans hs)) hl m1 m2 fun k k1 k2=>h k _ k1 k2 (z1t (z1t ha)) (k8.trans (k8.trans hs))
  ·refine y8 (z3S ?_)
   exact z6g (fun _ _=>rfl) (fun _=>rfl) (k8.trans hs) hl m1 m2 fun k k1 k2=>h k _ k1 k2 (z1t ha) (k8.trans hs)
end So
set_option linter.unusedVariables false
namespace So
open PySem PySem.W PyProof.Rows
variable{cmp:Nat->Nat->Bool}{α β:Type}{q:Array Nat}{p:Array (Nat×Nat×Nat)}{g:Nat}{T:Nat->Prop}{st:En->SortSt}
theorem zgS{lo n ok N:Nat}{P:(En->Bool)->(En->SortSt)->Prop}(ha:Al T q)(hs:q.size=N)(hl:lo+n<=N)(h: ∀q',Al T q'->q'.size=N->P (fun _=>true) (sst q' p g)):
 Det cmp (fun _=>binarySort' lo n ok) (sst q p g) P:=by
 refine y8 (u1 (P:=fun v st'=> ∃q:Array Nat,v=(fun _=>(none,()))/\st'=sst q p g/\Al T q/\q.size=N) (ze0 (I:=fun k v st'=> ∃q:Array Nat,v=(fun _=>(none,()))/\st'=sst q p g/\Al T q/\q.size=N) ⟨q,rfl,rfl,ha,hs⟩ ?_ fun _ _ _ h=>h) ?_)
 ·rintro k b st hk ⟨q,rfl,rfl,ha,hs⟩
  try dsimp only
  refine y8 (u1 (P:=fun v st'=> ∃l r:Nat,v=(fun _=>(none,l,r))/\st'=sst q p g) (z0f (I:=fun _ v st'=> ∃l r:Nat,v=(fun _=>(none,l,r))/\st'=sst q p g/\r<=k) ⟨0,k,rfl,rfl,i4 _⟩ ?_ ?_) ?_)
  ·rintro _ _ b st ⟨l,r,rfl,rfl,hr⟩
   try dsimp only
   refine Y9 (fun _=>Y8 ⟨l,r,rfl,rfl⟩) fun c=>y8 (z24 (by lia) (by lia) ?_)
   try dsimp only
   exact Y9 (fun _=>W0 ⟨_,_,rfl,rfl,by lia⟩) fun _=>W0 ⟨_,_,rfl,rfl,hr⟩
  ·rintro b st ⟨l,r,rfl,rfl,_⟩
   exact⟨l,r,rfl,rfl⟩
  ·rintro v st ⟨l,r,rfl,rfl⟩
   try dsimp only
   exact y8 (zdV (W0 ⟨_,rfl,rfl,zdY ha,zdZ.trans hs⟩))
 ·rintro v st ⟨q,rfl,rfl,ha,hs⟩
  exact U2 (h q ha hs)
noncomputable def Ch:Nat->List (Nat×Nat×Nat)->Nat->Prop
 |a,[],b=>a=b
 |a,r::l,b=>r.1=a/\1<=r.2.1/\Ch (a+r.2.1) l b
theorem ze1: ∀{l:List (Nat×Nat×Nat)} {a b:Nat},Ch a l b->a<=b
 |[],_,_,h=>S1 h
 |r::l,a,b,h=>C0 (Nat.le_add_right _ _) (ze1 h.2.2)
theorem z7X: ∀{l:List (Nat×Nat×Nat)} {a b n w:Nat},Ch a l b->1<=n->Ch a (l++[(b,n,w)]) (b+n)
 |[],a,b,n,w,h,hn=>by cases(show a=b from h);exact⟨rfl,hn,rfl⟩
 |r::l,a,b,n,w,h,hn=>⟨h.1,h.2.1,z7X h.2.2 hn⟩
theorem zaW: ∀{l:List (Nat×Nat×Nat)} {a b i:Nat} {x y:Nat×Nat×Nat},Ch a l b->l[i]? =some x->l[i+1]? =some y->y.1=x.1+x.2.1/\1<=x.2.1/\1<=y.2.1/\y.1+y.2.1<=b/\∀w,Ch a ((l.set i (x.1,x.2.1+y.2.1,w)).eraseIdx (i+1)) b
 |[],_,_,_,_,_,_,h,_=>by simp at h
 |[_],_,_,0,_,_,_,_,h=>by simp at h
 |[_],_,_,_+1,_,_,_,h,_=>by simp at h
 |u::v::l,a,b,0,x,y,hc,hx,hy=>by
  erw[List.getElem?_cons_zero,Option.some.injEq] at hx
  erw[D8,List.getElem?_cons_succ,List.getElem?_cons_zero,Option.some.injEq] at hy
  subst hx hy
  obtain⟨h1,h2,h3,h4,h5⟩:=hc
  refine⟨by lia,h2,h4,by have:=ze1 h5;lia,fun w=> ?_⟩
  erw[A7,D8,P1,List.eraseIdx_cons_zero]
  refine⟨h1,by show 1<=_+_;lia, ?_⟩
  show Ch (a+(u.2.1+v.2.1)) l b
  rw[<-N2];exact h5
 |u::v::l,a,b,i+1,x,y,hc,hx,hy=>by
  erw[List.getElem?_cons_succ] at hx hy
  obtain⟨q1,q2,q3,q4,q5⟩:=zaW hc.2.2 hx hy
  refine⟨q1,q2,q3,q4,fun w=> ?_⟩
  rw[B3,P1]
  exact⟨hc.1,hc.2.1,q5 w⟩
theorem z7Y{f:Nat×Nat×Nat->Nat×Nat×Nat}(hf: ∀x,(f x).1=x.1/\(f x).2.1=x.2.1): ∀{l:List (Nat×Nat×Nat)} {a b:Nat} (i:Nat),Ch a l b->Ch a (l.modify i f) b
 |[],_,_,i,h=>by rw[List.modify_nil];exact h
 |r::l,a,b,0,h=>by
  rw[List.modify_zero_cons]
  exact⟨(hf r).1.trans h.1,by rw[(hf r).2];exact h.2.1,by rw[(hf r).2];exact h.2.2⟩
 |r::l,a,b,i+1,h=>by
  rw[List.modify_succ_cons]
  exact⟨h.1,h.2.1,z7Y hf i h.2.2⟩
theorem z7Z(sa:Nat)(e:En): ∀(m:List Nat) (j:Nat) (q:Array Nat),((m.map fun i=>im i e).zipIdx j).foldl (fun a x=>match x with|(p,j)=>a.setIfInBounds (sa+j) p) (ar q e)=ar ((m.zipIdx j).foldl (fun a x=>match x with|(p,j)=>a.setIfInBounds (sa+j) p) q) e
 |[],_,_=>rfl
 |i::m,j,q=>by
  rw[i6,P2,P2,N8,N8]
  have:(ar q e).setIfInBounds (sa+j) (im i e)=ar (q.setIfInBounds (sa+j) i) e:=by simp[ar,Array.map_setIfInBounds]
  dsimp only
  rw[this]
  exact z7Z sa e m (j+1) _
theorem ze2{i x:Nat}(h:Al T q)(hx:T x):Al T (q.setIfInBounds i x):=fun k hk=>by
 rcases Array.mem_or_eq_of_mem_setIfInBounds hk with hk|rfl
 ·exact h k hk
 ·exact hx
theorem z80(sa:Nat): ∀(m:List Nat) (j:Nat) (q:Array Nat),(∀i∈m,T i)->Al T q->Al T ((m.zipIdx j).foldl (fun a x=>match x with|(p,j)=>a.setIfInBounds (sa+j) p) q)/\((m.zipIdx j).foldl (fun a x=>match x with|(p,j)=>a.setIfInBounds (sa+j) p) q).size=q.size
 |[],_,_,_,h=>⟨h,rfl⟩
 |i::m,j,q,hm,h=>by
  rw[P2,N8]
  obtain⟨h1,h2⟩:=z80 sa m (j+1) (q.setIfInBounds (sa+j) i) (fun k hk=>hm k (e9 _ hk)) (ze2 h (hm i l4))
  exact⟨h1,h2.trans Array.size_setIfInBounds⟩
end So
namespace So
open PySem PySem.W PyProof.Rows
variable{cmp:Nat->Nat->Bool}{α β:Type}{q:Array Nat}{p:Array (Nat×Nat×Nat)}{g:Nat}{T:Nat->Prop}{st:En->SortSt}
theorem z1u{e:En}:pendingOf (sst q p g e)=p:=rfl
theorem zc1{i lo N:Nat}{P:(En->Bool)->(En->SortSt)->Prop}(ha:Al T q)(hs:q.size=N)(hc:Ch 0 p.toList lo)(hl:lo<=N)(hi:i+1<p.size)(h: ∀q' p' g',Al T q'->q'.size=N->Ch 0 p'.toList lo->P (fun _=>true) (sst q' p' g')):
 Det cmp (fun _=>mergeAt' i) (sst q p g) P:=by
 refine y8 (z2r ?_)
 obtain⟨x,hx⟩: ∃x,p[i]? =some x:=⟨p[i],Array.getElem?_eq_getElem (by lia)⟩
 obtain⟨y,hy⟩: ∃y,p[i+1]? =some y:=⟨p[i+1],Array.getElem?_eq_getElem hi⟩
 obtain⟨sa,na,pw⟩:=x
 obtain⟨sb,nb,pw'⟩:=y
 obtain⟨c1,c2,c3,c4,c5⟩:=zaW hc (by rw[Array.getElem?_toList];exact hx) (by rw[Array.getElem?_toList];exact hy)
 dsimp only at c1 c2 c3 c4 c5
 have hp':Ch 0 ((p.setIfInBounds i (sa,na+nb,pw)).eraseIdxIfInBounds (i+1)).toList lo:=by
  have e:((p.setIfInBounds i (sa,na+nb,pw)).eraseIdxIfInBounds (i+1)).toList=(p.toList.set i (sa,na+nb,pw)).eraseIdx (i+1):=by simp
  rw[e];exact c5 pw
 have e1: ∀e,(pendingOf (sst q p g e))[i]? =some (sa,na,pw):=fun _=>hx
 have e2: ∀e,(pendingOf (sst q p g e))[i+1]? =some (sb,nb,pw'):=fun _=>hy
 erw[e1,e2]
 refine y8 (zgO (a:=sst q ((p.setIfInBounds i (sa,na+nb,pw)).eraseIdxIfInBounds (i+1)) g) ?_)
 generalize (p.setIfInBounds i (sa,na+nb,pw)).eraseIdxIfInBounds (i+1)=p' at hp'⊢
 refine y8 (J4 (q:=q) (by lia) ?_)
 refine y8 (z0Q (r:=q) (by lia) (by lia) fun k hk=> ?_)
 try dsimp only
 refine Y9 (fun _=>U2 (h _ _ _ ha hs hp')) fun c6=> ?_
 erw[beq_iff_eq] at c6
 refine y8 (J4 (q:=q) (by lia) ?_)
 refine y8 (z0Q (r:=q) (by lia) (by lia) fun k2 hk2=> ?_)
 try dsimp only
 refine Y9 (fun _=>U2 (h _ _ _ ha hs hp')) fun c7=> ?_
 erw[beq_iff_eq] at c7
 have sx:(q.extract (sa+k) sb).size=na -k:=by rw[Array.size_extract];lia
 have sy:(q.extract sb (sb+k2)).size=k2:=by rw[Array.size_extract];lia
 have ex: ∀e,(arrOf (sst q p g e)).extract (sa+k) sb=ar (q.extract (sa+k) sb) e:=fun e=>X7
 have ey: ∀e,(arrOf (sst q p g e)).extract sb (sb+k2)=ar (q.extract sb (sb+k2)) e:=fun e=>X7
 erw[ex,ey]
 have fin: ∀(mq:Array Nat) (g':Nat),Al T mq->∀(f:En->SortSt->SortSt),(∀e,f e (sst q p' g' e)=SortSt.mk' e.1 ((ar mq e).toList.zipIdx.foldl (fun a x=>match x with|(p,j)=>a.setIfInBounds (sa+k+j) p) (ar q e)) p' g' none)->Det cmp (fun e=>(modify (f e):StateT SortSt Sem PUnit)>>=fun _=>get>>=fun s=>pure (failedOf s).isNone) (sst q p' g') P:=by
  intro mq g' hm f hf
  obtain⟨h1,h2⟩:=z80 (T:=T) (sa+k) mq.toList 0 q (fun i hi=>hm i (by simpa using hi)) ha
  refine y8 (z0e ?_)
  have e3:(fun e=>f e (sst q p' g' e))=sst ((mq.toList.zipIdx 0).foldl (fun a x=>match x with|(p,j)=>a.setIfInBounds (sa+k+j) p) q) p' g':=by
   funext e
   rw[hf]
   unfold sst
   have:(ar mq e).toList=mq.toList.map fun i=>im i e:=by simp[ar]
   rw[this,z7Z]
  rw[e3]
  exact y8 (z2r (U2 (h _ _ _ h1 (h2.trans hs) hp')))
 refine Y9 (fun _=> ?_) fun _=> ?_
 ·refine y8 (zgP (T:=T) (Q3 ha) (Q3 ha) (by lia) (by lia) fun mq g' hm=> ?_)
  exact fin mq g' hm _ fun e=>rfl
 ·refine y8 (zgQ (T:=T) (Q3 ha) (Q3 ha) (by lia) (by lia) fun mq g' hm=> ?_)
  exact fin mq g' hm _ fun e=>rfl
end So
namespace So
open PySem PySem.W PyProof.Rows
variable{cmp:Nat->Nat->Bool}{α β:Type}{q:Array Nat}{p:Array (Nat×Nat×Nat)}{g:Nat}{T:Nat->Prop}{st:En->SortSt}
theorem ze3{c:Prop}{i:Decidable c}{n:Nat}(h:2<=n): @ite Nat c i (n - 2 - 1) (n - 2)+1<n:=by
 by_cases hc:c
 ·rw[if_pos hc];lia
 ·rw[if_neg hc];lia
theorem ze4{i:En->Nat}{lo N:Nat}{P:(En->Bool)->(En->SortSt)->Prop}(hE: ∀e e',i e=i e')(ha:Al T q)(hs:q.size=N)(hc:Ch 0 p.toList lo)(hl:lo<=N)(hi: ∀e,i e+1<p.size)(h: ∀q' p' g',Al T q'->q'.size=N->Ch 0 p'.toList lo->P (fun _=>true) (sst q' p' g')):
 Det cmp (fun e=>mergeAt' (i e)) (sst q p g) P:=by
 have e0:i=fun _=>i (general', #[]):=funext fun e=>hE e _
 rw[e0]
 exact zc1 ha hs hc hl (hi _) h
theorem ze5{N:Nat}{P:(En->Unit)->(En->SortSt)->Prop}(ha:Al T q)(hs:q.size=N)(h: ∀q' p' g',Al T q'->q'.size=N->P (fun _=>()) (sst q' p' g')):
 Det cmp (fun _=>sortRuns') (sst q #[] g) P:=by
 refine y8 (z2r ?_)
 have e0: ∀e,(arrOf (sst q #[] g e)).size=N:=fun e=>z1N.trans hs
 erw[e0]
 refine y8 (u1 (P:=fun v st'=> ∃(lo:Nat) (q:Array Nat) (p:Array (Nat×Nat×Nat)) (g:Nat),v=(fun _=>(none,lo))/\st'=sst q p g/\Al T q/\q.size=N/\Ch 0 p.toList lo/\lo<=N) (z0f (I:=fun _ v st'=> ∃(lo:Nat) (q:Array Nat) (p:Array (Nat×Nat×Nat)) (g:Nat),v=(fun _=>(none,lo))/\st'=sst q p g/\Al T q/\q.size=N/\Ch 0 p.toList lo/\lo<=N) ⟨0,q, #[],g,rfl,rfl,ha,hs,rfl,C9 _⟩ ?_ fun _ _ h=>h) ?_)
 ·rintro _ _ b st ⟨lo,q,p,g,rfl,rfl,ha,hs,hc,hl⟩
  try dsimp only
  refine Y9 (fun _=>Y8 ⟨lo,q,p,g,rfl,rfl,ha,hs,hc,hl⟩) fun c1=> ?_
  refine y8 (zgR (T:=T) (n:=N) ha hs (by lia) (by lia) fun k q k1 k2 ha hs=> ?_)
  try dsimp only
  have tail: ∀(n:Nat) (q:Array Nat) (p:Array (Nat×Nat×Nat)) (g:Nat),1<=n->lo+n<=N->Al T q->q.size=N->Ch 0 p.toList lo->∀(f:SortSt->SortSt),(∀e,f (sst q p g e)=SortSt.mk' e.1 (ar q e) (p.push (lo,n,0)) g none)->Det cmp (fun _=>(modify f:StateT SortSt Sem PUnit)>>=fun _=>pure (ForInStep.yield ((none,lo+n):Option Unit×Nat))) (sst q p g) fun v st'=>(∃c,v=(fun e=> .done (c e))/\∃(lo:Nat) (q:Array Nat) (p:Array (Nat×Nat×Nat)) (g:Nat),c=(fun _=>(none,lo))/\st'=sst q p g/\Al T q/\q.size=N/\Ch 0 p.toList lo/\lo<=N)\/∃c,v=(fun e=> .yield (c e))/\∃(lo:Nat) (q:Array Nat) (p:Array (Nat×Nat×Nat)) (g:Nat),c=(fun _=>(none,lo))/\st'=sst q p g/\Al T q/\q.size=N/\Ch 0 p.toList lo/\lo<=N:=by
   intro n q p g n1 n2 ha hs hc f hf
   refine y8 (z0e ?_)
   erw[hf]
   exact W0 ⟨lo+n,q,p.push (lo,n,0),g,rfl,rfl,ha,hs,by rw[Array.toList_push];exact z7X hc n1,n2⟩
  refine Y9 (fun c2=> ?_) fun c2=> ?_
  ·refine y8 (z2s ?_)
   refine y8 (zgS (T:=T) (N:=N) ha hs (by lia) fun q ha hs=> ?_)
   try dsimp only
   refine Y9 (fun c=>by cases c) fun _=> ?_
   refine y8 (z2r ?_)
   try dsimp only
   erw[z1u]
   cases hb:p.back? with
   |none=>exact tail _ q p g (by lia) (by lia) ha hs hc _ fun e=>rfl
   |some x=>
    obtain⟨s1,n1,w⟩:=x
    try dsimp only
    refine y8 (u1 (P:=fun v st'=> ∃(q:Array Nat) (p:Array (Nat×Nat×Nat)) (g:Nat),v=(fun _=>(none,()))/\st'=sst q p g/\Al T q/\q.size=N/\Ch 0 p.toList lo) (z0f (I:=fun _ v st'=> ∃(q:Array Nat) (p:Array (Nat×Nat×Nat)) (g:Nat),v=(fun _=>(none,()))/\st'=sst q p g/\Al T q/\q.size=N/\Ch 0 p.toList lo) ⟨q,p,g,rfl,rfl,ha,hs,hc⟩ ?_ fun _ _ h=>h) ?_)
    ·rintro _ _ b st ⟨q,p,g,rfl,rfl,ha,hs,hc⟩
     refine y8 (z2r ?_)
     try dsimp only
     erw[z1u]
     by_cases hp:p.size>1
     ·have hp':(p.size>1)=True:=eq_true hp
      erw[hp',if_true]
      obtain⟨x,hx⟩: ∃x,p[p.size - 2]? =some x:=⟨p[p.size - 2],Array.getElem?_eq_getElem (by lia)⟩
      obtain⟨s1,n1,w⟩:=x
      erw[hx]
      refine Y9 (fun _=>Y8 ⟨q,p,g,rfl,rfl,ha,hs,hc⟩) fun _=> ?_
      refine y8 (zc1 (T:=T) (N:=N) ha hs hc hl (by lia) fun q p g ha hs hc=> ?_)
      try dsimp only
      exact Y9 (fun c=>by cases c) fun _=>W0 ⟨q,p,g,rfl,rfl,ha,hs,hc⟩
     ·have hp':(p.size>1)=False:=eq_false hp
      erw[hp',if_false]
      exact Y8 ⟨q,p,g,rfl,rfl,ha,hs,hc⟩
    ·rintro v st ⟨q,p,g,rfl,rfl,ha,hs,hc⟩
     try dsimp only
     refine y8 (z0e ?_)
     exact tail _ q (p.modify (p.size - 1) fun x=>(x.1,x.2.1,_)) g (by lia) (by lia) ha hs (by rw[Array.toList_modify];refine z7Y ?_ _ hc;exact fun x=>⟨rfl,rfl⟩) _ fun e=>rfl
  ·refine y8 (z2r ?_)
   try dsimp only
   erw[z1u]
   cases hb:p.back? with
   |none=>exact tail _ q p g (by lia) (by lia) ha hs hc _ fun e=>rfl
   |some x=>
    obtain⟨s1,n1,w⟩:=x
    try dsimp only
    refine y8 (u1 (P:=fun v st'=> ∃(q:Array Nat) (p:Array (Nat×Nat×Nat)) (g:Nat),v=(fun _=>(none,()))/\st'=sst q p g/\Al T q/\q.size=N/\Ch 0 p.toList lo) (z0f (I:=fun _ v st'=> ∃(q:Array Nat) (p:Array (Nat×Nat×Nat)) (g:Nat),v=(fun _=>(none,()))/\st'=sst q p g/\Al T q/\q.size=N/\Ch 0 p.toList lo) ⟨q,p,g,rfl,rfl,ha,hs,hc⟩ ?_ fun _ _ h=>h) ?_)
    ·rintro _ _ b st ⟨q,p,g,rfl,rfl,ha,hs,hc⟩
     refine y8 (z2r ?_)
     try dsimp only
     erw[z1u]
     by_cases hp:p.size>1
     ·have hp':(p.size>1)=True:=eq_true hp
      erw[hp',if_true]
      obtain⟨x,hx⟩: ∃x,p[p.size - 2]? =some x:=⟨p[p.size - 2],Array.getElem?_eq_getElem (by lia)⟩
      obtain⟨s1,n1,w⟩:=x
      erw[hx]
      refine Y9 (fun _=>Y8 ⟨q,p,g,rfl,rfl,ha,hs,hc⟩) fun _=> ?_
      refine y8 (zc1 (T:=T) (N:=N) ha hs hc hl (by lia) fun q p g ha hs hc=> ?_)
      try dsimp only
      exact Y9 (fun c=>by cases c) fun _=>W0 ⟨q,p,g,rfl,rfl,ha,hs,hc⟩
     ·have hp':(p.size>1)=False:=eq_false hp
      erw[hp',if_false]
      exact Y8 ⟨q,p,g,rfl,rfl,ha,hs,hc⟩
    ·rintro v st ⟨q,p,g,rfl,rfl,ha,hs,hc⟩
     try dsimp only
     refine y8 (z0e ?_)
     exact tail _ q (p.modify (p.size - 1) fun x=>(x.1,x.2.1,_)) g (by lia) (by lia) ha hs (by rw[Array.toList_modify];refine z7Y ?_ _ hc;exact fun x=>⟨rfl,rfl⟩) _ fun e=>rfl
 ·rintro v st ⟨lo,q,p,g,rfl,rfl,ha,hs,hc,hl⟩
  try dsimp only
  refine y8 (u1 (P:=fun v st'=> ∃(q:Array Nat) (p:Array (Nat×Nat×Nat)) (g:Nat),v=(fun _=>(none,()))/\st'=sst q p g/\Al T q/\q.size=N/\Ch 0 p.toList lo) (z0f (I:=fun _ v st'=> ∃(q:Array Nat) (p:Array (Nat×Nat×Nat)) (g:Nat),v=(fun _=>(none,()))/\st'=sst q p g/\Al T q/\q.size=N/\Ch 0 p.toList lo) ⟨q,p,g,rfl,rfl,ha,hs,hc⟩ ?_ fun _ _ h=>h) ?_)
  ·rintro _ _ b st ⟨q,p,g,rfl,rfl,ha,hs,hc⟩
   refine y8 (z2r ?_)
   try dsimp only
   erw[z1u]
   refine Y9 (fun _=>Y8 ⟨q,p,g,rfl,rfl,ha,hs,hc⟩) fun c1=> ?_
   refine y8 (ze4 (T:=T) (N:=N) (fun _ _=>rfl) ha hs hc hl (fun e=> ?_) fun q p g ha hs hc=> ?_)
   ·exact ze3 (by lia)
   try dsimp only
   exact Y9 (fun c=>by cases c) fun _=>W0 ⟨q,p,g,rfl,rfl,ha,hs,hc⟩
  ·rintro v st ⟨q,p,g,rfl,rfl,ha,hs,hc⟩
   exact U2 (h q p g ha hs)
end So
namespace So
open PySem PySem.W PyProof.Rows PySem.SeqAt
open AutoSeq1 (wpAny_loadPart')
noncomputable def zaX(A:Around)(s:Shared)(y x:Value)(b:Bool):Prop:=
 ∀(prog:Program) (w:World) (E:Value->Shared->Prop) (Q:Value->Shared->Prop),Q (.bool b) s->wpAny (model prog w) A (richCompare .Lt y x) Q E s
noncomputable def z5B(A:Around)(s:Shared):List Value->List Value->Bool->Prop
 |v::vs,u::us,r=> ∃e,EqAt A s v u e/\if e=true then z5B A s vs us r else zaX A s v u r
 |[],us,r=>r=decide (0<us.length)
 |_::_,[],r=>r=false
theorem zc2{A:Around}{s:Shared}: ∀{vs us:List Value} {r:Bool},vs.zip us=[]->z5B A s vs us r->r=decide (vs.length<us.length)
 |[],us,r,_,h=>h
 |v::vs,[],r,_,h=>by rw[show r=false from h];simp
theorem z6Z(l b:Addr)(items items2:Array Value)(n n2:Nat)(dd dd2:Option Addr)(sl sl2:Array (Option Value))(r:Bool):
 Meets (Builtin.«tuple.__lt__» ⟨[.ref l, .ref b],[]⟩)
  (fun A R s=>s.heap.get? l=some {cls:= .type "tuple",dict:=dd,data:= .seq items n,slots:=sl}/\s.heap.get? b=some {cls:= .type "tuple",dict:=dd2,data:= .seq items2 n2,slots:=sl2}/\
   z5B A.in1 s items.toList items2.toList r/\R (.ok (.ret (.bool r))) s):=
 .of_wp fun prog w A R s h=>by
  obtain⟨hp,g,d,tk,os⟩:=s;obtain⟨hl,hb,he,h⟩:=h
  have f2:=AutoSeq1.sub_tuple_tuple
  wp_walk using wpAny_loadPart' hl,wpAny_loadPart' hb,wpAny_forIn_list _ (fun rest b s'=>b.1=none/\s'=⟨hp,g,d,tk,os⟩/\∃vs us,rest=vs.zip us/\z5B A.in1 ⟨hp,g,d,tk,os⟩ vs us r/\(vs.length<us.length↔items.size<items2.size)) _
  case turn=>
   rintro ⟨y,x⟩ rest b s' ⟨hb',rfl,vs,us,hz,hR,hs⟩
   match vs,us,hz,hR with
   |v::vs,u::us,hz,hR=>
    rw[F8] at hz
    injection hz with h1 h2
    injection h1 with h3 h4
    subst h2 h3 h4
    obtain⟨e,q1,q2⟩:=hR
    refine wpAny_bind (q1 prog w _ _ ?_)
    cases e with
    |true=>
     wp_walk
     exact⟨rfl,rfl,vs,us,rfl,q2,by simpa using hs⟩
    |false=>
     erw[C8,if_false] at q2
     erw[T3,if_true]
     refine wpAny_bind (wpAny_rule (wpAny_bind (q2 prog w _ _ ?_)))
     exact wpAny_bind (wpAny_pure (wpAny_pure (wpAny_pure ⟨_,rfl,h⟩)))
   |[],_,hz,_=>simp at hz
   |_::_,[],hz,_=>simp at hz
  case fin=>
   rintro ⟨b1,b2⟩ s' ⟨hb',rfl,vs,us,hz,hR,hs⟩
   simp only at hb'
   subst hb'
   have:=zc2 hz.symm hR
   wp_walk
   refine⟨_,rfl, ?_⟩
   have e:r=decide (items.size<items2.size):=by rw[this];exact decide_eq_decide.mpr hs
   rw[e] at h
   exact h
  case h=>
   exact⟨rfl,rfl,_,_,rfl,he,by simp⟩
theorem zaX.int{A:Around}{s:Shared}(a b:Int)(t u:Tok):zaX A s (.int a t) (.int b u) (decide (a<b)):=fun prog w E Q h=>wpAny_lt_int h
theorem zaX.tuples{A:Around}{s:Shared}{l b:Addr}{items items2:Array Value}{r:Bool}(hl:s.heap.IsTuple l items)(hb:s.heap.IsTuple b items2)(hu:A.units<cLine)(he:z5B A.in1 s items.toList items2.toList r):zaX A s (.ref l) (.ref b) r:=fun prog w E Q h=>by
 obtain⟨⟨cls,dd,data,sl⟩,ho,hc,n,hd⟩:=id hl
 obtain⟨⟨cls2,dd2,data2,sl2⟩,ho2,hc2,n2,hd2⟩:=id hb
 simp only at hc hd hc2 hd2
 subst hc hd hc2 hd2
 exact richCompare_meets_room (op:= .Lt) ⟨_,ho,rfl⟩ ⟨_,ho2,rfl⟩ F.slot_tuple_lt F.entry_tuple_lt (F.args_tuple_lt_2 _ _) (z6Z l b items items2 n n2 dd dd2 sl sl2 r)
  ⟨ho,ho2,he,show Value.bool r≠Value.notImplemented/\Q (.bool r) s from⟨(fun x=>nomatch x),h⟩⟩ hu
mutual
noncomputable def ltD:PyData->PyData->Option Bool
 | .int a, .int b=>some (decide (a<b))
 | .tuple xs, .tuple ys=>ltL xs ys
 |_,_=>none
noncomputable def ltL:List PyData->List PyData->Option Bool
 |x::xs,y::ys=>if PyData.eqv x y=true then ltL xs ys else ltD x y
 |[],ys=>some (decide (0<ys.length))
 |_::_,[]=>some false
end
end So
namespace So
open PySem PySem.W PyProof.Rows PySem.SeqAt
mutual
theorem z9S: ∀(da db:PyData) (A:Around) (s:Shared) (a b:Value) (as bs:List Addr) (r:Bool),Reads s.heap a da as->Reads s.heap b db bs->da.canLay0=true->db.canLay0=true->A.units+min da.depth db.depth<cLine->ltD da db=some r->zaX A s a b r
 | .int x,_,A,s,_,_,_,_,r,ra,rb,_,_,_,h=>by
  cases ra with
  |int _ t=>
   cases rb with
   |int y u=>
    erw[ltD,Option.some.injEq] at h
    subst h
    exact zaX.int _ _ _ _
   |_=>simp[ltD] at h
 | .tuple xs,_,A,s,_,_,_,_,r,ra,rb,ha,hb,hu,h=>by
  cases ra with
  | @tuple l o vs n _ as₁ h1 h2 h3 h4=>
   cases rb with
   | @tuple l' o' vs' n' ys as' k1 k2 k3 k4=>
    have ha:PyData.canLayAll0 xs=true:=by simpa[PyData.canLay0] using ha
    have hb:PyData.canLayAll0 ys=true:=by simpa[PyData.canLay0] using hb
    erw[ltD] at h
    exact zaX.tuples ⟨_,h1,h2,_,h3⟩ ⟨_,k1,k2,_,k3⟩ (room_here hu) (lex_reads xs ys A.in1 s _ _ _ _ r h4 k4 ha hb (room_in hu) h)
   |_=>simp[ltD] at h
 | .none,_,A,s,_,_,_,_,r,ra,rb,ha,hb,hu,h=>by simp[ltD] at h
 | .bool _,_,A,s,_,_,_,_,r,ra,rb,ha,hb,hu,h=>by simp[ltD] at h
 | .str _,_,A,s,_,_,_,_,r,ra,rb,ha,hb,hu,h=>by simp[ltD] at h
 | .list _,_,A,s,_,_,_,_,r,ra,rb,ha,hb,hu,h=>by simp[ltD] at h
 | .dict _,_,A,s,_,_,_,_,r,ra,rb,ha,hb,hu,h=>by simp[ltD] at h
theorem lex_reads: ∀(xs ys:List PyData) (A:Around) (s:Shared) (vs ws:List Value) (as bs:List Addr) (r:Bool),ReadsAll s.heap vs xs as->ReadsAll s.heap ws ys bs->PyData.canLayAll0 xs=true->PyData.canLayAll0 ys=true->
 A.units+min (PyData.depthAll xs) (PyData.depthAll ys)<cLine->ltL xs ys=some r->z5B A s vs ws r
 |[],ys,A,s,vs,ws,_,_,r,ra,rb,_,_,_,h=>by
  cases ra
  erw[ltL,Option.some.injEq] at h
  subst h
  show _=decide (0<ws.length)
  have e: ∀{ws:List Value} {ys:List PyData} {bs:List Addr},ReadsAll s.heap ws ys bs->ws.length=ys.length:=fun{ws}=>by
   induction ws with
   |nil=>intro ys bs q;cases q;rfl
   |cons v vs ih=>intro ys bs q;cases q with|cons q1 q2=>rw[l8,l8,ih q2]
  rw[e rb]
 |_::_,[],A,s,vs,ws,_,_,r,ra,rb,_,_,_,h=>by
  cases rb
  cases ra
  erw[ltL,Option.some.injEq] at h
  exact h.symm
 |x::xs,y::ys,A,s,_,_,_,_,r,ra,rb,ha,hb,hu,h=>by
  have ha':x.canLay0=true/\PyData.canLayAll0 xs=true:=by simpa[PyData.canLayAll0] using ha
  have hb':y.canLay0=true/\PyData.canLayAll0 ys=true:=by simpa[PyData.canLayAll0] using hb
  cases ra with
  |cons r1 rs=>
  cases rb with
  |cons r1' rs'=>
   refine⟨PyData.eqv x y,eqAt_reads x y A s _ _ _ _ r1 r1' ha'.1 hb'.1 (room_head hu), ?_⟩
   rw[ltL] at h
   split
   ·rename_i e
    rw[if_pos e] at h
    exact lex_reads xs ys A s _ _ _ _ r rs rs' ha'.2 hb'.2 (room_tail hu) h
   ·rename_i e
    rw[if_neg e] at h
    exact z9S x y A s _ _ _ _ r r1 r1' ha'.1 hb'.1 (room_head hu) h
end
noncomputable def hdI:PyData->Bool
 | .tuple (.int _::_)=>true
 |_=>false
theorem hd_int{d:PyData}(h:hdI d=true): ∃i xs,d= .tuple (.int i::xs):=by
 cases d with
 |tuple xs=>
  cases xs with
  |nil=>simp[hdI] at h
  |cons x xs=>cases x<;>first|exact⟨_,_,rfl⟩|simp[hdI] at h
 |_=>simp[hdI] at h
theorem zaY{prog:Program}{w:World}{A:Around}{b fin:Bool}{Q:Bool->Shared->Prop}{s:Shared}: ∀(vs us:List Value) (i:Nat) (r:Bool),0<i->z5B A s vs us r->fin=decide (vs.length<us.length)->Q r s->KatLex prog w A b fin Q (vs.zip us) i s
 |[],us,i,r,hi,h,hf,q=>by
  have:r=decide (0<us.length):=h
  subst hf
  rw[List.zip_nil_left]
  exact kat_nil (by rw[this] at q;exact q)
 |_::_,[],i,r,hi,h,hf,q=>by
  have:r=false:=h
  subst hf
  rw[List.zip_nil_right]
  exact kat_nil (by rw[this] at q;simpa using q)
 |v::vs,u::us,i,r,hi,h,hf,q=>by
  rw[F8]
  obtain⟨e,h1,h2⟩:=h
  refine kat_cons (h1 prog w _ _ ?_)
  cases e with
  |true=>exact kat_yes (zaY vs us (i+1) r (by lia) h2 (by simpa using hf) q)
  |false=>
   refine kat_no ?_
   rw[show(b&&i==0)=false by simp;lia]
   exact kat_one v u (h2 prog w _ _ q)
theorem key_lt{prog:Program}{w:World}{A:Around}{E:Value->Shared->Prop}{Q:Bool->Shared->Prop}{s:Shared}{x y:Value}{dx dy:PyData}{as bs:List Addr}{r:Bool}(rx:Reads s.heap x dx as)(ry:Reads s.heap y dy bs)(hx:dx.canLay0=true)(hy:dy.canLay0=true)(ix:hdI dx=true)(iy:hdI dy=true)(hu:A.units+min dx.depth dy.depth<cLine)(hr:ltD dx dy=some r)(q:Q r s):
 wpAny (model prog w) A (keyLt' (tuples' true) x y) Q E s:=by
 obtain⟨i,xs,rfl⟩:=hd_int ix
 obtain⟨j,ys,rfl⟩:=hd_int iy
 ·skip
  cases rx with
  | @tuple l o vs n _ as₁ h1 h2 h3 h4=>
  cases ry with
  | @tuple l' o' vs' n' _ as' k1 k2 k3 k4=>
   have ha:PyData.canLayAll0 (.int i::xs)=true:=by simpa[PyData.canLay0] using hx
   have hb:PyData.canLayAll0 (.int j::ys)=true:=by simpa[PyData.canLay0] using hy
   refine kat_lt h1 h3 k1 k3 ?_
   generalize hv:vs.toList=us at h4
   generalize hv':vs'.toList=us' at k4
   have sz:decide (vs.size<vs'.size)=decide (us.length<us'.length):=by rw[<-hv,<-hv'];simp
   rw[sz]
   erw[ltD] at hr
   cases h4 with
   |cons r1 r2=>
   cases k4 with
   |cons q1 q2=>
    cases r1 with|int _ t=>
    cases q1 with|int _ t'=>
    rw[F8]
    refine kat_cons ((eqAt_reads (.int i) (.int j) A s _ _ _ _ (.int i t) (.int j t') rfl rfl (room_here hu)) prog w _ _ ?_)
    rw[ltL] at hr
    split at hr
    ·rename_i e
     rw[e]
     refine kat_yes (zaY _ _ 1 r (by lia) (lex_reads xs ys A s _ _ _ _ r r2 q2 (by simpa[PyData.canLayAll0,PyData.canLay0] using ha) (by simpa[PyData.canLayAll0,PyData.canLay0] using hb) ?_ hr) (by simp) q)
     erw[PyData.depth,PyData.depthAll] at hu
     lia
    ·rename_i e
     rw[Bool.not_eq_true] at e
     rw[e]
     refine kat_no ?_
     erw[C3,beq_self_eq_true]
     erw[ltD,Option.some.injEq] at hr
     subst hr
     exact oneLt_int q
theorem z1d(n:Nat)(cmp:Nat->Nat->Bool): ∃q:Array Nat,(q.size=n/\Al (· <n) q)/\∃p g,∀(prog:Program) (w:World) (A:Around) (E:Value->Shared->Prop) (e:En) (G:Shared->Prop) (Q:Unit->SortSt->Shared->Prop) (s:Shared),Cmp prog w A cmp G e->G s->(∀s',G s'->Q () (sst q p g e) s')->kasC (model prog w) A E sortRuns' Q (sst (D5 n).toArray #[] 7 e) s:=by
 obtain⟨v,st',⟨q,p,g,rfl,h1,h2⟩,h⟩:=ze5 (cmp:=cmp) (T:=(· <n)) (q:=(D5 n).toArray) (g:=7) (N:=n) (P:=fun _ st'=> ∃q p g,st'=sst q p g/\q.size=n/\Al (· <n) q) (fun i hi=>by simpa using hi) (by simp) fun q' p' g' a b=>⟨q',p',g',rfl,b,a⟩
 exact⟨q,⟨h1,h2⟩,p,g,h⟩
open Classical in
noncomputable def perm(n:Nat)(cmp:Nat->Nat->Bool):List Nat:=if n<2 then D5 n else(z1d n fun i j=>cmp (i %n) (j %n)).choose.toList
theorem perm_len{n:Nat}{cmp:Nat->Nat->Bool}:(perm n cmp).length=n:=by
 unfold perm
 split
 ·simp
 ·rw[Array.length_toList];exact(z1d n fun i j=>cmp (i %n) (j %n)).choose_spec.1.1
theorem perm_lt{n:Nat}{cmp:Nat->Nat->Bool}: ∀i∈perm n cmp,i<n:=by
 unfold perm
 split
 ·intro i hi;simpa using hi
 ·intro i hi;exact(z1d n fun i j=>cmp (i %n) (j %n)).choose_spec.1.2 i (by simpa using hi)
theorem zc3{vs:List Value}:(vs.toArray.zip vs.toArray).map (·.2)=vs.toArray:=by
 apply Array.ext_getElem?
 intro i
 by_cases hi:i<vs.length<;>simp[hi]
theorem z70{vs:List Value}:(D5 vs.length).map (fun i=>vs.getD i Value.none)=vs:=by
 apply List.ext_getElem?
 intro i
 by_cases hi:i<vs.length<;>simp[hi]
section
variable{prog:Program}{w:World}{A:Around}{E:Value->Shared->Prop}{s:Shared}
theorem z3V{a:Addr}{vs:List Value}{n:Nat}{cmp:Nat->Nat->Bool}{P:PySem.Fin->Shared->Prop}(ho:s.heap.get? a=some (seqObj "list" vs.toArray n))(hz:vs.length<=sizeLine)
 (hk: ∀h',(∀b o,b≠a->s.heap.get? b=some o->h'.get? b=some o)->2<=vs.length->∃κ,(∀(Q:SortKind->Shared->Prop) E,Q κ {s with heap:=h'}->wpAny (model prog w) A (keyKind' vs.toArray) Q E {s with heap:=h'})/\
  ∀i j (hi:i<vs.length) (hj:j<vs.length) (C:Bool->Shared->Prop),C (cmp i j) {s with heap:=h'}->wpAny (model prog w) A (keyLt' κ vs[i] vs[j]) C (fun _ _=>False) {s with heap:=h'})
 (h: ∀h' e1,(∀b o,b≠a->s.heap.get? b=some o->h'.get? b=some o)->h'.get? a=some (seqObj "list" ((perm vs.length cmp).map fun i=>vs.getD i Value.none).toArray e1)->P (.done (.ret .none)) {s with heap:=h'}):
 wpAny (model prog w) A (Builtin.«list.sort» ⟨[.ref a],[]⟩) P E s:=by
 have ha:a<s.heap.objs.size:=Heap.lt_size ho
 obtain⟨e1,ho1⟩: ∃e1,(s.heap.update a (Obj.mapSeq fun _=>(#[]:Array Value))).get? a=some (seqObj "list" #[] e1):=⟨_,get?_update_seq ho fun _=> #[]⟩
 have ho3:(((s.heap.update a (Obj.mapSeq fun _=>(#[]:Array Value))).push (seqObj "tuple" vs.toArray 0)).push (seqObj "list" #[] 0)).get? a=some (seqObj "list" #[] e1):=Heap.get?_push_of_some _ (Heap.get?_push_of_some _ ho1)
 have kept: ∀b o,b≠a->s.heap.get? b=some o->(((s.heap.update a (Obj.mapSeq fun _=>(#[]:Array Value))).push (seqObj "tuple" vs.toArray 0)).push (seqObj "list" #[] 0)).get? b=some o:=fun b o hb q=>
  Heap.get?_push_of_some _ (Heap.get?_push_of_some _ ((Heap.get?_update_ne _ _ _ _ hb).trans q))
 rw[list_sort_plain]
 refine wpAny_bind (listItems_at ho rfl ?_)
 refine wpAny_bind (listUpdate_at ho rfl ?_ (by rw[l7];exact hz) (C9 _))
 refine wpAny_bind (seqEpoch_at ho1 rfl ?_)
 refine wpAny_bind (wpAny_newTuple ?_ (by show vs.length<=_;exact hz))
 refine wpAny_bind (wpAny_newList ?_ (C9 _))
 refine wpAny_holding ?_
 show wpAny (model prog w) A _ P E {s with heap:=((s.heap.update a (Obj.mapSeq fun _=>(#[]:Array Value))).push (seqObj "tuple" vs.toArray 0)).push (seqObj "list" #[] 0)}
 dsimp only
 generalize ((s.heap.update a (Obj.mapSeq fun _=>(#[]:Array Value))).push (seqObj "tuple" vs.toArray 0)).push (seqObj "list" #[] 0)=h1 at ho3 kept⊢
 have fin: ∀st':SortSt,(arrOf st').map (·.2)=((perm vs.length cmp).map fun i=>vs.getD i Value.none).toArray->failedOf st'=none->wpAny (model prog w) A (do
  let touched<-seqEpoch a
  Builtin.List.listUpdate (.ref a) fun _=>(arrOf st').map (·.2)
  if let some e:=failedOf st' then rule "list.sort.comparison-raised";throw e
  if(touched !=e1)=true then rule "list.sort.modified";raiseError "ValueError" "list modified during sort"
  ret .none) P E {s with heap:=h1}:=by
  intro st' har hf
  refine wpAny_bind (seqEpoch_at ho3 rfl ?_)
  rw[har]
  have hsz:((perm vs.length cmp).map fun i=>vs.getD i Value.none).toArray.size=vs.length:=by rw[l7,A3,perm_len]
  refine wpAny_bind (listUpdate_at ho3 rfl ?_ (C9 _) (C0 (S1 hsz) (by lia)))
  rw[hf]
  erw[bne_self_eq_false,C8,if_false]
  obtain⟨c2,hc2⟩: ∃c2,(h1.update a (Obj.mapSeq fun _=>((perm vs.length cmp).map fun i=>vs.getD i Value.none).toArray)).get? a=some (seqObj "list" ((perm vs.length cmp).map fun i=>vs.getD i Value.none).toArray c2):=⟨_,get?_update_seq ho3 fun _=>_⟩
  exact wpAny_pure (h _ c2 (fun b o hb q=>(Heap.get?_update_ne _ _ _ _ hb).trans (kept b o hb q)) hc2)
 by_cases h2:vs.length<2
 ·have h2':vs.toArray.size<2:=by simpa using h2
  rw[if_pos h2',if_pos h2']
  refine wpAny_bind (wpAny_pure ?_)
  rw[StateT.run_pure]
  refine wpAny_bind (wpAny_pure ?_)
  refine fin _ ?_ rfl
  show(vs.toArray.zip vs.toArray).map (·.2)=_
  unfold perm
  rw[if_pos h2,zc3,z70]
 ·have h2': ¬vs.toArray.size<2:=by simpa using h2
  rw[if_neg h2',if_neg h2']
  obtain⟨κ,k1,k2⟩:=hk h1 kept (by lia)
  refine wpAny_bind (k1 _ _ ?_)
  have sz:(vs.toArray.zip vs.toArray).size=vs.length:=by simp
  have im_eq: ∀i,i<vs.length->im i (κ,vs.toArray.zip vs.toArray)=(vs.getD i Value.none,vs.getD i Value.none):=fun i hi=>by
   unfold im
   rw[sz,Nat.mod_eq_of_lt hi,kat_item rfl]
  have est:SortSt.mk' κ (vs.toArray.zip vs.toArray) #[] 7 none=sst (D5 vs.length).toArray #[] 7 (κ,vs.toArray.zip vs.toArray):=by
   unfold sst ar
   have e:(D5 vs.length).toArray.map (fun i=>im i (κ,vs.toArray.zip vs.toArray))=vs.toArray.zip vs.toArray:=by
    apply Array.ext_getElem?
    intro i
    by_cases hi:i<vs.length
    ·rw[Array.getElem?_map]
     have:=im_eq i hi
     erw[List.getElem?_toArray,List.getElem?_range hi,A5,this]
     simp[hi]
    ·simp[hi]
   rw[e]
  obtain⟨p,g,run⟩:=(z1d vs.length fun i j=>cmp (i %vs.length) (j %vs.length)).choose_spec.2
  have hpe:perm vs.length cmp=(z1d vs.length fun i j=>cmp (i %vs.length) (j %vs.length)).choose.toList:=by unfold perm;rw[if_neg h2]
  have hlt:=(z1d vs.length fun i j=>cmp (i %vs.length) (j %vs.length)).choose_spec.1.2
  generalize (z1d vs.length fun i j=>cmp (i %vs.length) (j %vs.length)).choose=q at run hpe hlt
  rw[est]
  have go:=run prog w A E (κ,vs.toArray.zip vs.toArray) (fun s'=>s'={s with heap:=h1}) (fun _ st' s'=>st'=sst q p g (κ,vs.toArray.zip vs.toArray)/\s'={s with heap:=h1}) {s with heap:=h1} (fun i j C s' hs hc=>by
   subst hs
   have l1:i %vs.length<vs.length:=Nat.mod_lt _ (by lia)
   have l2:j %vs.length<vs.length:=Nat.mod_lt _ (by lia)
   have hq:=k2 (i %vs.length) (j %vs.length) l1 l2 C (hc _ rfl)
   unfold kas_cmp
   erw[sz,kat_item rfl]
   rw[show vs.getD (i %vs.length) Value.none=vs[i %vs.length] by simp[l1],show vs.getD (j %vs.length) Value.none=vs[j %vs.length] by simp[l2]]
   exact hq) rfl fun s' hs=>⟨rfl,hs⟩
  refine wpAny_bind (wpAny_mono go ?_ fun _ _ e=>e)
  rintro ⟨⟨⟩,st'⟩ s' ⟨hst,hs⟩
  dsimp only at hst⊢
  subst hst hs
  refine fin _ ?_ rfl
  rw[hpe]
  apply Array.toList_inj.mp
  show((ar q (κ,vs.toArray.zip vs.toArray)).map (·.2)).toList=_
  unfold ar
  rw[Array.map_map,Array.toList_map]
  exact O0 fun i hi=>by show(im i (κ,vs.toArray.zip vs.toArray)).2=_;rw[im_eq i (hlt i (by simpa using hi))]
theorem call_sorted{l:Addr}{vs:List Value}{cmp:Nat->Nat->Bool}{Q:Value->Shared->Prop}(hl:s.heap.IsList l vs.toArray)(hz:vs.length<=sizeLine)
 (hk: ∀h',(∀b o,s.heap.get? b=some o->h'.get? b=some o)->2<=vs.length->∃κ,(∀(Q:SortKind->Shared->Prop) E,Q κ {s with heap:=h'}->wpAny (model prog w) A.in1.in1 (keyKind' vs.toArray) Q E {s with heap:=h'})/\
  ∀i j (hi:i<vs.length) (hj:j<vs.length) (C:Bool->Shared->Prop),C (cmp i j) {s with heap:=h'}->wpAny (model prog w) A.in1.in1 (keyLt' κ vs[i] vs[j]) C (fun _ _=>False) {s with heap:=h'})
 (h: ∀h' D e1,(∀b o,s.heap.get? b=some o->h'.get? b=some o)->s.heap.objs.size<=D->h'.get? D=some (seqObj "list" ((perm vs.length cmp).map fun i=>vs.getD i Value.none).toArray e1)->Q (.ref D) {s with heap:=h'}):
 wpAny (model prog w) A (call (.builtin "sorted") [.ref l]) Q E s:=by
 refine Calls.call_function_entry kind_sorted plain_sorted entry_sorted (args_sorted1 _) ?_
 unfold Builtin.«sorted»
 refine wpAny_bind (m:=checkCount "sorted" 1 1 _) (wpAny_pure ?_)
 refine wpAny_bind (collect_list hl ?_ hz)
 refine wpAny_bind (wpAny_newList ?_ hz)
 have hsz:((s.heap.push (seqObj "list" #[] 0)).update s.heap.objs.size (Obj.mapSeq (· ++vs.toArray))).objs.size=s.heap.objs.size+1:=by
  rw[Heap.size_update,size_push']
 have hoL:(((s.heap.push (seqObj "list" #[] 0)).update s.heap.objs.size (Obj.mapSeq (· ++vs.toArray))).push (seqObj "list" vs.toArray 0)).get? (s.heap.objs.size+1)=some (seqObj "list" vs.toArray 0):=by
  rw[<-hsz];exact Heap.get?_push_size _ rfl
 have keep: ∀b o,s.heap.get? b=some o->(((s.heap.push (seqObj "list" #[] 0)).update s.heap.objs.size (Obj.mapSeq (· ++vs.toArray))).push (seqObj "list" vs.toArray 0)).get? b=some o:=fun b o q=>by
  have hlt:b<s.heap.objs.size:=Heap.lt_size q
  rw[Heap.get?_push_ne _ _ _ (by rw[hsz];exact o0 (D3 hlt)),Heap.get?_update_ne _ _ _ _ (o0 hlt),Heap.get?_push_ne _ _ _ (o0 hlt)]
  exact q
 show wpAny _ _ _ _ _ {s with heap:=((s.heap.push (seqObj "list" #[] 0)).update s.heap.objs.size (Obj.mapSeq (· ++vs.toArray))).push (seqObj "list" vs.toArray 0)}
 rw[hsz]
 have ne: ∀{b o},s.heap.get? b=some o->b≠s.heap.objs.size+1:=fun q=>o0 (D3 (Heap.lt_size q))
 refine wpAny_bind (wpAny_holding (wpAny_call_entry slot_list_sort ⟨_,hoL,rfl⟩ entry_list_sort ?body (args_list_sort _)))
 case body=>
  refine z3V (s:={s with heap:=((s.heap.push (seqObj "list" #[] 0)).update s.heap.objs.size (Obj.mapSeq (· ++vs.toArray))).push (seqObj "list" vs.toArray 0)}) (cmp:=cmp) hoL hz (fun h' kp h2=> ?_) fun h' e1 kp hD=> ?_
  ·exact hk h' (fun b o q=>kp b o (ne q) (keep b o q)) h2
  ·exact⟨_,rfl,wpAny_pure ⟨_,rfl,h h' _ e1 (fun b o q=>kp b o (ne q) (keep b o q)) (N4 _) hD⟩⟩
end
end So
namespace L2
open PySem PySem.Spec PyProof.Rows
mutual
noncomputable def Dp(K:W.Frag)(H:Hp):PyData->V->Prop
 | .none,v=>v= .non
 | .bool b,v=>v= .bl b
 | .int i,v=>v= .int i
 | .str x,v=>v= .str x
 | .list ds,v=> ∃a xs,v= .ref a/\SqL K H a xs/\DpAll K H ds xs
 | .tuple ds,v=> ∃a xs,v= .ref a/\SqT K H a xs/\DpAll K H ds xs
 | .dict _,_=>False
noncomputable def DpAll(K:W.Frag)(H:Hp):List PyData->List V->Prop
 |[],xs=>xs=[]
 |d::ds,xs=> ∃x r,xs=x::r/\Dp K H d x/\DpAll K H ds r
end
section
variable{X:Cx}{pins:List (Addr×Obj)}{σ:St}{H:Hp}{s:Shared}
mutual
theorem Dp.reads(I:Inv X pins σ H s): ∀(d:PyData) (v:V) (u:Value),Dp X.K H d v->RelV v u->∃as,Reads s.heap u d as
 | .none,v,u,h,r=>by
  erw[Dp] at h;subst h;cases r;exact⟨_, .none⟩
 | .bool b,v,u,h,r=>by
  erw[Dp] at h;subst h;cases r;exact⟨_, .bool b⟩
 | .int i,v,u,h,r=>by
  erw[Dp] at h;subst h;obtain⟨t,rfl⟩:=r;exact⟨_, .int i t⟩
 | .str x,v,u,h,r=>by
  erw[Dp] at h;subst h;obtain⟨t,rfl⟩:=r;exact⟨_, .str x t⟩
 | .list ds,v,u,h,r=>by
  erw[Dp] at h
  obtain⟨a,xs,rfl,hs,hd⟩:=h
  cases r
  obtain⟨its,rv,⟨o,n,e,c,_,dd⟩,_⟩:=I.list hs
  obtain⟨as,ra⟩:=DpAll.reads I ds xs its hd rv
  exact⟨_, .list e c dd (by simpa using ra)⟩
 | .tuple ds,v,u,h,r=>by
  erw[Dp] at h
  obtain⟨a,xs,rfl,hs,hd⟩:=h
  cases r
  obtain⟨its,rv,⟨o,e,c,n,dd⟩,_⟩:=I.tuple hs
  obtain⟨as,ra⟩:=DpAll.reads I ds xs its hd rv
  exact⟨_, .tuple e c dd (by simpa using ra)⟩
 | .dict _,v,u,h,r=>by
  erw[Dp] at h
theorem DpAll.reads(I:Inv X pins σ H s): ∀(ds:List PyData) (vs:List V) (us:List Value),DpAll X.K H ds vs->J0 vs us->∃as,ReadsAll s.heap us ds as
 |[],vs,us,h,r=>by
  erw[DpAll] at h;subst h
  cases r
  exact⟨_, .nil⟩
 |d::ds,vs,us,h,r=>by
  erw[DpAll] at h
  obtain⟨x,q,rfl,h1,h2⟩:=h
  cases r with
  |cons r1 r2=>
   obtain⟨as,ra⟩:=Dp.reads I d _ _ h1 r1
   obtain⟨bs,rb⟩:=DpAll.reads I ds _ _ h2 r2
   exact⟨_, .cons ra rb⟩
end
noncomputable def zg9(K:W.Frag)(neg:Bool):R2:=fun x y H Q=> ∃d e,Dp K H d x/\Dp K H e y/\d.canLay0=true/\e.canLay0=true/\min d.depth e.depth<=60/\
 Q (.bl (if neg then !PyData.eqv d e else PyData.eqv d e)) H
theorem ze6(hu:X.A.units+64<cLine):OpR X (compareOp .Eq) (zg9 X.K false):=by
 intro pins s σ H x y v u Q I rx ry h
 obtain⟨d,e,hx,hy,c1,c2,hd,q⟩:=h
 obtain⟨as,ra⟩:=hx.reads I _ _ _ rx
 obtain⟨bs,rb⟩:=hy.reads I _ _ _ ry
 exact SeqAt.compareEq_reads ra rb c1 c2 (by lia) ⟨.bl _,H,I,rfl,q⟩
theorem ze7(hu:X.A.units+64<cLine):OpR X (compareOp .NotEq) (zg9 X.K true):=by
 intro pins s σ H x y v u Q I rx ry h
 obtain⟨d,e,hx,hy,c1,c2,hd,q⟩:=h
 obtain⟨as,ra⟩:=hx.reads I _ _ _ rx
 obtain⟨bs,rb⟩:=hy.reads I _ _ _ ry
 exact SeqAt.compareNe_reads ra rb c1 c2 (by lia) ⟨.bl _,H,I,rfl,q⟩
noncomputable def zig(K:W.Frag)(neg:Bool):R2:=fun x y H Q=> ∃d ds,Dp K H d x/\(Dp K H (.list ds) y\/Dp K H (.tuple ds) y)/\d.canLay0=true/\PyData.canLayAll0 ds=true/\min (PyData.depthAll ds) d.depth<=60/\
 Q (.bl (if neg then !(ds.any fun y=>PyData.eqv y d) else ds.any fun y=>PyData.eqv y d)) H
theorem z81(hu:X.A.units+64<cLine):OpR X (compareOp .NotIn) (zig X.K true):=by
 intro pins s σ H x y v u Q I rx ry h
 obtain⟨d,ds,hx,hy,c1,c2,hd,q⟩:=h
 obtain⟨as,ra⟩:=hx.reads I _ _ _ rx
 rcases hy with hy|hy
 ·obtain⟨bs,rb⟩:=hy.reads I _ _ _ ry
  exact SeqAt.notIn_list_reads rb ra c2 c1 (by lia) ⟨.bl _,H,I,rfl,q⟩
 ·obtain⟨bs,rb⟩:=hy.reads I _ _ _ ry
  exact SeqAt.notIn_tuple_reads rb ra c2 c1 (by lia) ⟨.bl _,H,I,rfl,q⟩
noncomputable def zaZ(K:W.Frag)(H:Hp)(T:String)(r:Bool):V->Prop
 | .non=>r=false
 | .bl _=>r=(T== "int" ||T== "bool")
 | .int _=>r=(T== "int")
 | .str _=>r=(T== "str")
 | .ref a=>(∃xs,SqT K H a xs/\r=(T== "tuple"))\/(∃xs,SqL K H a xs/\r=(T== "list"))
 |_=>False
noncomputable def ziJ(K:W.Frag):List V->Hp->VK->Prop:=fun xs H Q=> ∃x T r,xs=[x, .ty T]/\(T= "int" \/T= "bool" \/T= "tuple" \/T= "list" \/T= "str")/\zaZ K H T r x/\Q (.bl r) H
theorem z9T:CallR X (.builtin "isinstance") (ziJ X.K):=by
 intro pins s σ H xs us Q I r h
 obtain⟨x,T,b,rfl,hT,hx,q⟩:=h
 obtain⟨u,u',rfl,ru,ru'⟩:=z9I r
 cases ru'
 have fin: ∀t,EP X pins σ Q (.bool b) {s with toks:=t}:=fun t=>⟨.bl b,H,I.tok t,rfl,q⟩
 have fin0:EP X pins σ Q (.bool b) s:=⟨.bl b,H,I,rfl,q⟩
 cases x with
 |non=>
  cases ru
  have hx:b=false:=hx
  subst hx
  rcases hT with rfl|rfl|rfl|rfl|rfl
  ·exact IsiPair.NoneType_int (fin _)
  ·exact IsiPair.NoneType_bool (fin _)
  ·exact IsiPair.NoneType_tuple (fin _)
  ·exact IsiPair.NoneType_list (fin _)
  ·exact IsiPair.NoneType_str (fin _)
 |bl k=>
  cases ru
  rcases hT with rfl|rfl|rfl|rfl|rfl
  ·have hx:b=true:=hx
   subst hx;exact IsiPair.bool_int fin0
  ·have hx:b=true:=hx
   subst hx;exact IsiPair.bool_bool fin0
  ·have hx:b=false:=hx
   subst hx;exact IsiPair.bool_tuple (fin _)
  ·have hx:b=false:=hx
   subst hx;exact IsiPair.bool_list (fin _)
  ·have hx:b=false:=hx
   subst hx;exact IsiPair.bool_str (fin _)
 |int k=>
  obtain⟨t,rfl⟩:=ru
  rcases hT with rfl|rfl|rfl|rfl|rfl
  ·have hx:b=true:=hx
   subst hx;exact IsiPair.int_int fin0
  ·have hx:b=false:=hx
   subst hx;exact IsiPair.int_bool (fin _)
  ·have hx:b=false:=hx
   subst hx;exact IsiPair.int_tuple (fin _)
  ·have hx:b=false:=hx
   subst hx;exact IsiPair.int_list (fin _)
  ·have hx:b=false:=hx
   subst hx;exact IsiPair.int_str (fin _)
 |str k=>
  obtain⟨t,rfl⟩:=ru
  rcases hT with rfl|rfl|rfl|rfl|rfl
  ·have hx:b=false:=hx
   subst hx;exact IsiPair.str_int (fin _)
  ·have hx:b=false:=hx
   subst hx;exact IsiPair.str_bool (fin _)
  ·have hx:b=false:=hx
   subst hx;exact IsiPair.str_tuple (fin _)
  ·have hx:b=false:=hx
   subst hx;exact IsiPair.str_list (fin _)
  ·have hx:b=true:=hx
   subst hx;exact IsiPair.str_str fin0
 |ref a=>
  cases ru
  rcases hx with⟨ys,hs,hb⟩|⟨ys,hs,hb⟩
  ·obtain⟨its,rv,⟨o,e,c,n,dd⟩,_⟩:=I.tuple hs
   rcases hT with rfl|rfl|rfl|rfl|rfl
   ·have hx:b=false:=hb
    subst hx;exact IsiPair.tuple_int e c (fin _)
   ·have hx:b=false:=hb
    subst hx;exact IsiPair.tuple_bool e c (fin _)
   ·have hx:b=true:=hb
    subst hx;exact IsiPair.tuple_tuple e c fin0
   ·have hx:b=false:=hb
    subst hx;exact IsiPair.tuple_list e c (fin _)
   ·have hx:b=false:=hb
    subst hx;exact IsiPair.tuple_str e c (fin _)
  ·obtain⟨its,rv,⟨o,n,e,c,_,dd⟩,_⟩:=I.list hs
   rcases hT with rfl|rfl|rfl|rfl|rfl
   ·have hx:b=false:=hb
    subst hx;exact IsiPair.list_int e c (fin _)
   ·have hx:b=false:=hb
    subst hx;exact IsiPair.list_bool e c (fin _)
   ·have hx:b=false:=hb
    subst hx;exact IsiPair.list_tuple e c (fin _)
   ·have hx:b=true:=hb
    subst hx;exact IsiPair.list_list e c fin0
   ·have hx:b=false:=hb
    subst hx;exact IsiPair.list_str e c (fin _)
 |byt _=>exact hx.elim
 |flt _=>exact hx.elim
 |ty _=>exact hx.elim
theorem z2u: ∀{bs:List Bool} {us:List Value},J0 (bs.map V.bl) us->LSm.BoolsAre us bs
 |[],_, .nil=> .nil
 |b::bs,_, .cons r t=>by
  cases r
  exact .cons b (z2u t)
theorem z82(hc:X.A.handled=none):CallR X (.builtin "all") (fun xs H Q=> ∃(p:Addr) (bs:List Bool),xs=[.ref p]/\SqL X.K H p (bs.map V.bl)/\Q (.bl (bs.all id)) H):=by
 intro pins s σ H xs us Q I r h
 obtain⟨p,bs,rfl,hs,q⟩:=h
 obtain⟨u,rfl,ru⟩:=z3O r
 cases ru
 obtain⟨its,rv,pl,_⟩:=I.list hs
 have hb:=z2u rv
 have hl:=pl.isList
 have hlt:p<s.heap.objs.size:=by obtain⟨_,e,_⟩:=hl;exact Heap.lt_size e
 refine call_all_walk (wpAny_pyIter_list hl ?_)
 refine⟨s.heap.objs.size,[s.heap.objs.size,p],[s.heap.objs.size],its.toArray.size,_,_,fun i=>(bs[i]?).getD true,rfl,Walks.list (A:=X.A.in1) hc _ p (o0 hlt) its.toArray,
  ⟨⟨_,Heap.get?_push_size _ rfl,rfl,rfl⟩,hl.push _⟩,fun i v s' Q' E' hP hQ=> ?_,fun h' tk hk=> ?_⟩
 ·obtain⟨b,e,rfl⟩:=hb.get i v (by simpa using hP)
  erw[e,A8] at hQ
  exact wpAny_truthy_bool hQ
 ·have e:((D5 its.toArray.size).all fun i=>(bs[i]?).getD true)=bs.all id:=by
   rw[l7,hb.length];exact LSm.range_all bs
  rw[e]
  exact⟨.bl _,H,I.kept (LSm.kept_iter hk),rfl,q⟩
end
end L2
namespace HT
open PySem PyProof.Rows
section
variable{prog:Program}{w:World}{A:Around}{E:Value->Shared->Prop}{s:Shared}
theorem getItem_tuple_whole{t sl:Addr}{items:Array Value}{vl vu:Value}{lo hi:Option Int}{Q:Value->Shared->Prop}(ht:IsTup s.heap t items)(hs:s.heap.IsSliceOf sl vl vu .none)(pl:IsPart vl lo)(pu:IsPart vu hi)
 (hw:sIx items.size 0 lo=0/\sIx items.size items.size hi=items.size) (h:Q (.ref t) s):wpAny (model prog w) A (getItem (.ref t) (.ref sl)) Q E s:=by
 obtain⟨os,hos,hcs,hds⟩:=id hs
 have hTs:s.TypeIs (.ref sl) "slice" :=⟨os,hos,hcs⟩
 unfold getItem
 try with_reducible refine wpAny_holding ?_
 first|refine wpAny_bind (wpAny_pure ?_)|skip
 refine wpAny_bind (wpAny_sequenceKey ht.typeIs (by decide) ?_)
 refine wpAny_bind (wpAny_callSpecial?_slot (name:=Str.ofString "__getitem__") ht.typeIs PyProof.Rows.slot_tuple_getitem
  (wpAny_call_entry PyProof.Rows.slot_tuple_getitem ht.typeIs entry_tuple_getitem ?_ (args_tuple_getitem _ _)))
 show wpAny _ _ (Builtin.Tuple.tupleItemsOf (.ref t)>>=_) _ _ s
 refine wpAny_bind (tupleItemsOf_ ht ?_)
 refine wpAny_bind (wpAny_typeOf hTs ?_)
 rw[if_pos (by decide)]
 refine wpAny_bind (z0s hs pl pu ?_)
 have hyes:((((sIx items.size 0 lo:Nat):Int)==0&&(1:Int)==1&&(sIx items.size items.size hi -sIx items.size 0 lo)==items.size)=true):=by
  rw[hw.1,hw.2]
  simp
 show wpAny _ _ (if(((sIx items.size 0 lo:Nat):Int)==0&&(1:Int)==1&&(sIx items.size items.size hi -sIx items.size 0 lo)==items.size)=true then _ else _) _ _ s
 rw[if_pos hyes]
 obtain⟨o,ho,hc,n,hd⟩:=id ht
 have ex:Builtin.Tuple.tupleIsExact (.ref t)=(typeOf (.ref t)>>=fun T=>pure (T== .type "tuple")):=rfl
 refine wpAny_bind (m:=Builtin.Tuple.tupleIsExact (.ref t)) ?_
 rw[ex]
 refine wpAny_bind (wpAny_typeOf ht.typeIs (wpAny_pure ?_))
 rw[if_pos (by decide)]
 exact wpAny_bind (wpAny_rule (wpAny_pure ⟨_,rfl,wpAny_pure h⟩))
end
end HT
namespace L2
open PySem PySem.Spec PyProof.Rows
section
variable{X:Cx}
theorem z71{xs:List V}{lo hi:Option Int}(h:HT.sIx xs.length 0 lo=0/\HT.sIx xs.length xs.length hi=xs.length):z7N xs lo hi=xs:=by
 unfold z7N
 rw[h.1,h.2]
 simp
end
noncomputable def V4(env:Env):List (Str×NameKind)->List (Str×Addr)->List (Str×Addr)
 |[],cs=>cs
 |(n,k)::r,cs=>V4 env r (if k== .free then(match env.cells.lookup n with|some a=>(n,a)::cs|none=>cs) else cs)
theorem z6h{env:Env}: ∀(names:List (Str×NameKind)) (cs:List (Str×Addr)),(∀y∈names,y.2= .free->∃a,env.cells.lookup y.1=some a)->
 (forIn names cs fun(x:Str×NameKind) (r:List (Str×Addr))=>if(x.2==NameKind.free)=true then cellOf env x.1>>=fun a=>pure (ForInStep.yield ((x.1,a)::r)) else pure (ForInStep.yield r))=(pure (V4 env names cs):Sem _)
 |[],cs,_=>rfl
 |(n,k)::r,cs,h=>by
  have ih:=fun cs=>z6h (env:=env) r cs fun y hy=>h y (e9 _ hy)
  rw[List.forIn_cons]
  show((if(k==NameKind.free)=true then cellOf env n>>=fun a=>pure (ForInStep.yield ((n,a)::cs)) else pure (ForInStep.yield cs))>>=_)=pure (V4 env r (if k== .free then(match env.cells.lookup n with|some a=>(n,a)::cs|none=>cs) else cs))
  by_cases hk:(k==NameKind.free)=true
  ·obtain⟨a,e⟩:=h (n,k) l4 (by simpa using hk)
   have e:env.cells.lookup n=some a:=e
   rw[if_pos hk,if_pos hk,e]
   have e2:cellOf env n=pure a:=by unfold cellOf;rw[e]
   rw[e2]
   exact ih _
  ·rw[if_neg hk,if_neg hk]
   exact ih _
theorem z0g{env:Env}{scope:Scope}(h: ∀y∈scope.names,y.2= .free->∃a,env.cells.lookup y.1=some a):closureFor scope env=pure (V4 env scope.names []):=by
 have e:=z6h (env:=env) scope.names [] h
 exact congrArg (fun(m:Sem (List (Str×Addr)))=>m>>=fun cs=>pure cs) e
theorem z0R{env:Env}{x:Str}{c:Addr}: ∀(names:List (Str×NameKind)) (cs:List (Str×Addr)),(V4 env names cs).lookup x=some c->
 cs.lookup x=some c\/(env.cells.lookup x=some c/\(x,NameKind.free)∈names)
 |[],cs,h=> .inl h
 |(n,k)::r,cs,h=>by
  rcases z0R r _ h with q|⟨q,m⟩
  ·by_cases hk:(k==NameKind.free)=true
   ·rw[if_pos hk] at q
    cases e:env.cells.lookup n with
    |none=>rw[e] at q;exact .inl q
    |some a=>
     rw[e] at q
     have q:((n,a)::cs).lookup x=some c:=q
     rw[B0] at q
     by_cases hx:(x==n)=true
     ·rw[hx] at q
      have q:some a=some c:=q
      cases q
      have hx:x=n:=eq_of_beq hx
      subst hx
      have hk:k= .free:=eq_of_beq hk
      subst hk
      exact .inr ⟨e,l4⟩
     ·have hx:(x==n)=false:=by simpa using hx
      rw[hx] at q
      exact .inl q
   ·rw[if_neg hk] at q
    exact .inl q
  ·exact .inr ⟨q,e9 _ m⟩
theorem z0y{env:Env}{x:Str}: ∀(names:List (Str×NameKind)) (cs:List (Str×Addr)),(((∃c,cs.lookup x=some c))\/((x,NameKind.free)∈names/\∃c,env.cells.lookup x=some c))->
 ∃c,(V4 env names cs).lookup x=some c
 |[],cs,h=>by
  rcases h with h|⟨m,_⟩
  ·exact h
  ·cases m
 |(n,k)::r,cs,h=>by
  refine z0y r _ ?_
  rcases h with⟨c,hc⟩|⟨m,c,hc⟩
  ·left
   by_cases hk:(k==NameKind.free)=true
   ·rw[if_pos hk]
    cases e:env.cells.lookup n with
    |none=>exact⟨c,hc⟩
    |some a=>
     by_cases hx:(x==n)=true
     ·exact⟨a,by show((n,a)::cs).lookup x=some a;rw[B0,hx]⟩
     ·have hx:(x==n)=false:=by simpa using hx
      exact⟨c,by show((n,a)::cs).lookup x=some c;rw[B0,hx];exact hc⟩
   ·rw[if_neg hk]
    exact⟨c,hc⟩
  ·rcases i0.mp m with e|m
   ·left
    cases e
    rw[if_pos (by decide),hc]
    exact⟨c,by show((x,c)::cs).lookup x=some c;rw[B0,beq_self_eq_true]⟩
   ·exact .inr ⟨m,c,hc⟩
theorem G4{env:Env}: ∀{names:List (Str×NameKind)} {x:Str},names.lookup x=some .free->
 (names.map fun(n,k)=>if(k==NameKind.free&&env.scope.kind== .function&&env.kindOf n==some .cell) then(n,NameKind.cell) else(n,k)).lookup x=some .cell\/
 (names.map fun(n,k)=>if(k==NameKind.free&&env.scope.kind== .function&&env.kindOf n==some .cell) then(n,NameKind.cell) else(n,k)).lookup x=some .free
 |[],_,h=>by simp at h
 |(n,k)::r,x,h=>by
  have ih:= @G4 env r x
  rw[i6]
  show R3 x ((if(k==NameKind.free&&env.scope.kind== .function&&env.kindOf n==some .cell)=true then(n,NameKind.cell) else(n,k))::_)=_\/R3 x ((if(k==NameKind.free&&env.scope.kind== .function&&env.kindOf n==some .cell)=true then(n,NameKind.cell) else(n,k))::_)=_
  cases hx:x==n with
  |true=>
   erw[B0,hx] at h
   cases h
   by_cases hc:(NameKind.free==NameKind.free&&env.scope.kind== .function&&env.kindOf n==some .cell)=true
   ·rw[if_pos hc];left;erw[B0,hx]
   ·rw[if_neg hc];right;erw[B0,hx]
  |false=>
   erw[B0,hx] at h
   by_cases hc:(k==NameKind.free&&env.scope.kind== .function&&env.kindOf n==some .cell)=true
   ·rw[if_pos hc];erw[B0,hx];exact ih h
   ·rw[if_neg hc];erw[B0,hx];exact ih h
theorem V0{env:Env}: ∀{names:List (Str×NameKind)} {x:Str},((names.map fun(n,k)=>if(k==NameKind.free&&env.scope.kind== .function&&env.kindOf n==some .cell) then(n,NameKind.cell) else(n,k)).lookup x=some .cell\/
 (names.map fun(n,k)=>if(k==NameKind.free&&env.scope.kind== .function&&env.kindOf n==some .cell) then(n,NameKind.cell) else(n,k)).lookup x=some .free)->names.lookup x=some .free\/names.lookup x=some .cell
 |[],_,h=>by simp at h
 |(n,k)::r,x,h=>by
  have ih:= @V0 env r x
  rw[i6] at h
  have h:R3 x ((if(k==NameKind.free&&env.scope.kind== .function&&env.kindOf n==some .cell)=true then(n,NameKind.cell) else(n,k))::_)=_\/R3 x ((if(k==NameKind.free&&env.scope.kind== .function&&env.kindOf n==some .cell)=true then(n,NameKind.cell) else(n,k))::_)=_:=h
  cases hx:x==n with
  |true=>
   erw[B0,hx]
   by_cases hc:(k==NameKind.free&&env.scope.kind== .function&&env.kindOf n==some .cell)=true
   ·have:k= .free:=by
     erw[l0,beq_iff_eq] at hc
     exact hc.1.1
    subst this
    exact .inl rfl
   ·rw[if_neg hc] at h
    erw[B0,hx] at h
    exact h.symm
  |false=>
   erw[B0,hx]
   refine ih ?_
   by_cases hc:(k==NameKind.free&&env.scope.kind== .function&&env.kindOf n==some .cell)=true
   ·rw[if_pos hc] at h;erw[B0,hx] at h;exact h
   ·rw[if_neg hc] at h;erw[B0,hx] at h;exact h
structure G1(osc sc:Scope)(own frees N:List Str)(ix:List Nat):Prop where
 kind:sc.kind= .function
 nocell: ∀y∈sc.names,y.2≠ .cell
 names: ∀y∈sc.names,y.2= .local->sc.names.lookup y.1=some .local
 fr: ∀y∈sc.names,y.2= .free->osc.names.lookup y.1=some .cell\/osc.names.lookup y.1=some .free
 nd:(own++frees).Nodup
 frl: ∀x∈frees,sc.names.lookup x=some .free
 ixs:ix.map (fun i=>N[i]?)=frees.map some
noncomputable def compCx(X:Cx)(scope:Scope)(own frees:List Str)(cl:List (Str×Addr))(C:Addr)(s₀:Shared)(H₀:Hp)(fp:List Addr)(pn:List (Addr×Obj)):Cx:=
 {X with N:=own++frees,s₀:=s₀,H₀:=H₀,env:=compEnvC scope cl C X.env,outer:=X.stack,stack:=X.stack,ex:=fp,fn:=fun _=>false,pn:=pn,xe:=fun _ _=>False}
noncomputable def k9(k:Nat)(ix:List Nat)(σ:St):St:=l5 k none++ix.map fun i=>(σ[i]?).getD none
section
variable{X:Cx}{tg iter elt:Expr}{pos:Pos}{scope:Scope}{own frees:List Str}{ix:List Nat}{wi:TI}{g:TG}{te:TE}
theorem z3s(k:Nat)(ix:List Nat)(σ:St):(k9 k ix σ).length=k+ix.length:=by
 unfold k9
 simp
theorem z3t{pins:List (Addr×Obj)}{σ:St}{H:Hp}{s s1:Shared}{fp:List Addr}(S:G1 X.env.scope scope own frees X.N ix)(I:Inv X pins σ H s)(hf: ∀b∈fp,z3m X pins H b)(hb: ∀b∈fp,b<s.heap.objs.size)
 (ho:s1.os=s.os) (hg:s1.gens=s.gens) (hk: ∀b o,s.heap.get? b=some o->s1.heap.get? b=some o) (hn:s1.heap.Ns s.heap.objs.size (fun _=>none)):
 Inv (compCx X scope own frees (V4 X.env scope.names []) s.heap.objs.size s H fp (X.pn++pins)) [] (k9 own.length ix σ) H s1:=by
 have clos: ∀x c,(V4 X.env scope.names []).lookup x=some c->X.env.cells.lookup x=some c/\(x,NameKind.free)∈scope.names:=fun x c h=>by
  rcases z0R _ _ h with q|q
  ·exact nomatch q
  ·exact q
 have hlen:ix.length=frees.length:=by
  have:=congrArg D7 S.ixs
  simpa using this
 have cne: ∀x c,X.env.cells.lookup x=some c->c<s.heap.objs.size:=fun x c e=>by
  obtain⟨v,o,q,_⟩:=I.cell x c e
  exact Heap.lt_size q
 refine⟨⟨I.ok.mod,S.kind,I.ok.glob,I.ok.blt,i4 _,fun x y c h1 h2=>I.ok.inj x y c (clos x c h1).1 (clos y c h2).1,fun x hx=> ?_,fun x c z=>P3 z,I.ok.hd,I.ok.frames, .inl rfl,fun b z=>⟨o0 (hb b z),fun x c e=>(hf b z).2.2.2.2.1 x c (clos x c e).1⟩,I.bs,
  C0 I.ok.bsz I.sz,fun b o e z=> ?_,fun b z=> ?_,I.stack,I.stkFree⟩,ho, ?_,Un.kept hk,⟨_,hn,fun i x v h1 h2 h3=> ?_⟩,fun x c e=> ?_,I.fresh,fun x c e=>I.freeC x c (clos x c e).1,fun p hp=> ?_,I.hok.kept hk, ?_⟩
 ·have hx:(relabel scope X.env).names.lookup x=some .cell\/(relabel scope X.env).names.lookup x=some .free:=hx
  rcases V0 hx with q|q
  ·have m:(x,NameKind.free)∈scope.names:=PySem.mem_of_lookup q
   obtain⟨c,hc⟩:=I.ok.has x (S.fr _ m rfl)
   exact z0y _ _ (.inr ⟨m,c,hc⟩)
  ·exact absurd rfl (S.nocell _ (PySem.mem_of_lookup q))
 ·rcases(hf b z).2.2.2.1 with q|q
  ·exact I.ok.noex b o e q
  ·exact absurd (Heap.lt_size (I.ok.bs b o e).1) (F9.mpr q)
 ·intro q
  rcases i0.mp (I.stkSub b q) with r|r
  ·exact(hf b z).2.1 r
  ·exact(hf b z).2.2.1 r
 ·rw[hg];exact I.bare
 ·have h2:(k9 own.length ix σ)[i]? =some (some v):=h2
  have h1:(own++frees)[i]? =some x:=h1
  unfold k9 at h2
  by_cases hi:i<own.length
  ·rw[List.getElem?_append_left (by simpa using hi),List.getElem?_replicate] at h2
   rw[if_pos hi] at h2
   cases h2
  ·have hi:own.length<=i:=F9.mp hi
   rw[List.getElem?_append_right (by simpa using hi),M7,List.getElem?_map] at h2
   rw[List.getElem?_append_right hi] at h1
   cases e:ix[i -own.length]? with
   |none=>rw[e] at h2;cases h2
   |some j=>
    rw[e] at h2
    have h2:some ((σ[j]?).getD none)=some (some v):=h2
    have hσ:σ[j]? =some (some v):=by
     cases q:σ[j]? with
     |none=>rw[q] at h2;cases h2
     |some z=>rw[q] at h2;exact h2
    have hN:X.N[j]? =some x:=by
     have:=congrArg (fun l:List (Option Str)=>l[i -own.length]?) S.ixs
     erw[List.getElem?_map,e,h1,A5] at this
     exact Option.some.inj this
    have mf:x∈frees:=List.mem_of_getElem? h1
    have lf:=S.frl x mf
    have m:(x,NameKind.free)∈scope.names:=PySem.mem_of_lookup lf
    have hos:=S.fr _ m rfl
    obtain⟨mm,hns,hl⟩:=I.loc
    obtain⟨u,ru,look⟩:=hl j x v hN hσ (hos.elim (fun q=> .inr (.inl q)) fun q=> .inr (.inr q))
    refine⟨u,ru, ?_⟩
    rcases look with⟨kk,_⟩|⟨kk,c,hc,ic⟩
    ·have kk:X.env.scope.names.lookup x=some .local:=kk
     have hos:X.env.scope.names.lookup x=some .cell\/X.env.scope.names.lookup x=some .free:=hos
     rw[kk] at hos
     rcases hos with q|q<;>cases q
    ·obtain⟨c',hc'⟩:=z0y (env:=X.env) scope.names [] (.inr ⟨m,c,hc⟩)
     have e2:=(clos x c' hc').1
     rw[hc] at e2
     cases e2
     refine .inr ⟨G4 lf,c,hc', ?_⟩
     obtain⟨o,q1,q2⟩:=ic
     exact⟨o,hk _ _ q1,q2⟩
 ·obtain⟨v,o,q1,q2⟩:=I.cell x c (clos x c e).1
  exact⟨v,o,hk _ _ q1,q2⟩
 ·have hp:p∈(X.pn++pins)++[]:=hp
  rw[l3] at hp
  obtain⟨e,n,ne,nf,d⟩:=I.pin p hp
  refine⟨hk _ _ e,n,o0 (Heap.lt_size e),fun q=> ?_,d⟩
  rcases i0.mp (I.stkSub p.1 q) with r|r
  ·exact ne r
  ·exact nf r
 ·show(k9 own.length ix σ).length=(own++frees).length
  rw[z3s,hlen,m7]
theorem z3W{pins pins':List (Addr×Obj)}{σ σ':St}{H H':Hp}{s s':Shared}{h':Heap}{fp:List Addr}{cl:List (Str×Addr)}{C:Addr}(I:Inv X pins σ H s)(hf: ∀b∈fp,z3m X pins H b)(hC:s.heap.objs.size<=C)
 (J:Inv (compCx X scope own frees cl C s H fp (X.pn++pins)) pins' σ' H' s') (hs:Heap.SameBut C s'.heap h'):Inv X pins σ H' {s' with heap:=h'}:=by
 have nC: ∀b,b<s.heap.objs.size->b≠C:=fun b q e=>by subst e;exact absurd q (F9.mpr hC)
 refine I.call' (ch:=fp) J.os ⟨fun b o e n hb hx=> ?_,fun b o e n hb hx=> ?_,J.base.free,fun b o e hx=> ?_,J.base.tups,J.base.frzs,J.base.tbls⟩ ?_ J.bare fun b z=>⟨(hf b z).2.2.2.1,(hf b z).2.1,(hf b z).2.2.2.2.1,(hf b z).2.2.2.2.2⟩
 ·exact(hs.2 b (nC b (Heap.lt_size e))).trans (J.base.keep b o e n hb hx)
 ·obtain⟨sl,q⟩:=J.base.slot b o e n hb hx
  exact⟨sl,(hs.2 b (nC b (Heap.lt_size e))).trans q⟩
 ·obtain⟨o',q⟩:=J.base.there b o e hx
  exact⟨o',(hs.2 b (nC b (Heap.lt_size e))).trans q⟩
 ·intro a o e
  refine(J.hok a o e).stay (fun b u hbu q=> ?_) (fun _ q=>q) fun _ _ q=>q
  refine(hs.2 b ?_).trans q
  intro eb
  subst eb
  have hfree:H' b=none:=J.free
  rcases hbu with rfl|z
  ·rw[e] at hfree;cases hfree
  ·rw[z] at hfree;cases hfree
end
end L2
namespace PySem
section
variable{prog:Program}{w:World}{A:Around}{E:Value->Shared->Prop}{s:Shared}
theorem z2v{d:Addr}{o:Obj}{es:Array DictEntry}{ep:Nat}{Q:Value->Shared->Prop}(hd:(d==sysModules)=false)(ho:s.heap.get? d=some o)(hc:o.ExactDict)(hdat:o.data= .dict es ep)
 (hQ:Q (.ref s.heap.objs.size) {s with heap:=s.heap.push {cls:= .type "dict_keyiterator",data:= .fields #[.ref d, .int 0 0, .int es.size 0, .int ep 0]}}):
 wpAny (model prog w) A (pyIter (.ref d)) Q E s:=by
 have hT:s.TypeIs (.ref d) "dict" :=⟨o,ho,hc.1⟩
 refine wpAny_pyIter_slot hT F.slot_dict_iter (wpAny_call_entry F.slot_dict_iter hT F.entry_dict_iter ?_ (F.args_dict_iter_1 _))
 unfold Builtin.«dict.__iter__»
 refine wpAny_bind ?_
 unfold Builtin.Dict.dictSlotNone
 refine wpAny_bind (wpAny_notOrdered_dict hT ?_)
 show wpAny _ _ (pure (Value.ref d)) _ _ s
 refine wpAny_pure ?_
 show wpAny _ _ (Builtin.Dict.showsAll d>>=_) _ _ s
 unfold Builtin.Dict.showsAll
 rw[if_neg (by rw[hd];exact A6)]
 refine wpAny_bind (wpAny_pure ?_)
 refine wpAny_bind (wpAny_dictEntries ho hdat ?_)
 refine wpAny_bind (wpAny_dictEpoch ho hdat ?_)
 refine wpAny_bind (wpAny_newObj_type (wpAny_pure ⟨_,rfl, "dict_keyiterator",_,⟨_,Heap.get?_push_size _ rfl,rfl⟩,F.slot_dict_keyiterator_next.lookup, ?_⟩))
 simpa[rawInt] using hQ
theorem z2w{it d:Addr}{i ep:Nat}{od:Obj}{es:Array DictEntry}{en:DictEntry}{Q:Option Value->Shared->Prop}(hit:s.heap.IsKeyIter it d i es.size ep)
 (hod:s.heap.get? d=some od) (hdd:od.data= .dict es ep) (hx:es[i]? =some en)
 (hQ: ∀h',h'.IsKeyIter it d (i+1) es.size ep->Heap.SameBut it s.heap h'->Q (some en.key) {s with heap:=h'}):
 wpAny (model prog w) A (pyNext (.ref it)) Q E s:=by
 obtain⟨o,ho,hc,hd⟩:=id hit
 unfold pyNext
 refine wpAny_bind (wpAny_attempt (wpAny_callSpecial?_slot (name:=Str.ofString "__next__") hit.typeIs F.slot_dict_keyiterator_next
  (wpAny_call_entry F.slot_dict_keyiterator_next hit.typeIs F.entry_dict_keyiterator_next ?_ (F.args_dict_keyiterator_next_1 _))))
 refine wpAny_bind (wpAny_pure ?_)
 refine wpAny_bind ?_
 refine wpAny_bind ?_
 first|refine wpAny_bind (wpAny_typeNameOfWhole_keyiter hit.typeIs (wpAny_pure ?_))|refine wpAny_bind (wpAny_typeNameOf_keyiter hit.typeIs (wpAny_pure ?_))
 refine wpAny_bind (wpAny_fieldsOf ho hd ?_)
 have hown:Builtin.Dict_items.ownsTuple "dict_keyiterator" =false:=by decide
 erw[hown,C8,if_false]
 show wpAny _ _ (if(Value.ref d==Value.none)=true then _ else _) _ _ s
 rw[if_neg (show ¬((Value.ref d==Value.none)=true) from A6)]
 refine wpAny_bind (wpAny_pure ?_)
 refine wpAny_bind (wpAny_dictEntries hod hdd ?_)
 rw[if_neg (by simp)]
 refine wpAny_bind (wpAny_pure ?_)
 refine wpAny_bind (wpAny_dictEpoch hod hdd ?_)
 rw[if_neg (by simp)]
 refine wpAny_pure ?_
 have hlt':i<es.size:=by
  rcases Nat.lt_or_ge i es.size with h|h
  ·exact h
  ·simp[Array.getElem?_eq_none h] at hx
 have hkey:es[i]=en:=by
  rw[Array.getElem?_eq_getElem hlt'] at hx
  exact Option.some.inj hx
 erw[show ¬((i:Int)<0) from by lia,if_false,C5,Array.getElem?_eq_getElem hlt']
 refine wpAny_bind ?_
 first|refine wpAny_bind (wpAny_typeNameOfWhole_keyiter hit.typeIs (wpAny_pure ?_))|refine wpAny_bind (wpAny_typeNameOf_keyiter hit.typeIs (wpAny_pure ?_))
 refine wpAny_bind (wpAny_isOneOf_keyiter hit.typeIs ?_)
 show wpAny _ _ (setField (.ref it) 1 (rawInt ((i:Int)+1))>>=_) _ _ s
 refine wpAny_bind (wpAny_setField ho hd (by simp) ?_)
 have hit':(s.heap.update it (Obj.mapFields (·.setIfInBounds 1 (rawInt ((i:Int)+1))))).IsKeyIter it d (i+1) es.size ep:=
  ⟨_,Heap.get?_update_self _ ho (Obj.isFreed_of_fields (Obj.data_mapFields hd _)),(Obj.cls_mapFields ..).trans hc,by rw[Obj.data_mapFields hd];simp[rawInt]⟩
 refine wpAny_bind (wpAny_holding ?_)
 refine wpAny_bind (wpAny_isOneOf_keyiter (s:={s with heap:=s.heap.update it (Obj.mapFields (·.setIfInBounds 1 (rawInt ((i:Int)+1))))}) hit'.typeIs ?_)
 show wpAny _ _ (pure es[i].key) _ _ _
 rw[hkey]
 exact wpAny_pure (wpAny_pure ⟨_,rfl,wpAny_pure (hQ _ hit' (Heap.SameBut.update ..))⟩)
theorem z39{it d:Addr}{i ep:Nat}{od:Obj}{es:Array DictEntry}{Q:Option Value->Shared->Prop}(hh:A.handled=none)(hit:s.heap.IsKeyIter it d i es.size ep)
 (hod:s.heap.get? d=some od) (hdd:od.data= .dict es ep) (hge:es.size<=i)
 (hQ: ∀h',Heap.ExtBut it s.heap h'->Q none {s with heap:=h'}):wpAny (model prog w) A (pyNext (.ref it)) Q E s:=by
 obtain⟨o,ho,hc,hd⟩:=id hit
 unfold pyNext
 refine wpAny_bind (wpAny_attempt (wpAny_callSpecial?_slot (name:=Str.ofString "__next__") hit.typeIs F.slot_dict_keyiterator_next
  (wpAny_call_entry F.slot_dict_keyiterator_next hit.typeIs F.entry_dict_keyiterator_next ?_ (F.args_dict_keyiterator_next_1 _))))
 refine wpAny_bind (wpAny_pure ?_)
 refine wpAny_bind ?_
 refine wpAny_bind ?_
 first|refine wpAny_bind (wpAny_typeNameOfWhole_keyiter hit.typeIs (wpAny_pure ?_))|refine wpAny_bind (wpAny_typeNameOf_keyiter hit.typeIs (wpAny_pure ?_))
 refine wpAny_bind (wpAny_fieldsOf ho hd ?_)
 have hown:Builtin.Dict_items.ownsTuple "dict_keyiterator" =false:=by decide
 erw[hown,C8,if_false]
 show wpAny _ _ (if(Value.ref d==Value.none)=true then _ else _) _ _ s
 rw[if_neg (show ¬((Value.ref d==Value.none)=true) from A6)]
 refine wpAny_bind (wpAny_pure ?_)
 refine wpAny_bind (wpAny_dictEntries hod hdd ?_)
 rw[if_neg (by simp)]
 refine wpAny_bind (wpAny_pure ?_)
 refine wpAny_bind (wpAny_dictEpoch hod hdd ?_)
 rw[if_neg (by simp)]
 refine wpAny_pure ?_
 erw[show ¬((i:Int)<0) from by lia,if_false,C5,Array.getElem?_eq_none hge]
 refine wpAny_bind ?_
 first|refine wpAny_bind (wpAny_typeNameOfWhole_keyiter hit.typeIs (wpAny_pure ?_))|refine wpAny_bind (wpAny_typeNameOf_keyiter hit.typeIs (wpAny_pure ?_))
 show wpAny _ _ (setField (.ref it) 0 .none>>=_) _ _ s
 refine wpAny_bind (wpAny_setField ho hd (by simp) ?_)
 show wpAny _ _ (newExc (.type "StopIteration") []>>=_) _ _ _
 refine wpAny_bind ?_
 erw[newExc,newTuple]
 refine wpAny_bind (wpAny_newObj_type ?_ (by size_fits))
 refine wpAny_bind (m:=firstArgMember _ _) (wpAny_of_eq (a:=Value.none) (by first|rfl|(erw[firstArgMember];rfl)) ?_)
 refine wpAny_newObj_type ?_ (by size_fits)
 erw[raiseNew]
 refine wpAny_bind (wpAny_handled ?_)
 rw[show A.in1.handled=none from hh]
 refine wpAny_bind (wpAny_pure (wpAny_throw ?_))
 refine wpAny_bind (wpAny_isInstance (T:= "StopIteration") (b:=true) ⟨_,Heap.get?_push_size _ rfl,rfl⟩ isSubtype_stop ?_)
 exact wpAny_pure (hQ _ (((Heap.SameBut.update ..).extBut.push _).push _))
end
end PySem
namespace L2
open PySem PySem.Spec PyProof.Rows
noncomputable def ItD(a:Addr)(o:Obj)(kvs:List (NK×V)):It:=
 ⟨fun i H=>i<kvs.length/\H a=some (.frz o (.dT kvs)),fun i H x H'=>H'=H/\∃b k v,x= .ref b/\kvs[i]? =some (k,v)/\TK H k b,fun i H=>kvs.length<=i/\H a=some (.frz o (.dT kvs))⟩
theorem zb0{P:Program}{w:World}{H:Hp}{h:Heap}{a:Addr}{o:Obj}{kvs:List (NK×V)}(ok:HOk P w H h)(e:H a=some (.frz o (.dT kvs))):
 h.get? a=some o/\(a==sysModules)=false/\o.ExactDict/\∃es ep,o.data= .dict es ep/\es.size=kvs.length/\
  ∀(i:Nat) (k:NK) (v:V),kvs[i]? =some (k,v)->∃en b,es[i]? =some en/\en.key= .ref b/\TK H k b:=by
 obtain⟨ho,z,y,xs,r,o',es,ep,e',c,d,l,nd⟩:=ok a _ e
 rw[ho] at e'
 cases e'
 have hl:kvs.length=xs.length:=Paired.length r
 have hs:es.size=xs.length:=size_of_entries l
 refine⟨ho,y,c,es,ep,d,by lia,fun i k v q=> ?_⟩
 have key: ∀{kvs:List (NK×V)} {xs:List (NK×Addr×Value)},Paired (fun(p:NK×V) (q:NK×Addr×Value)=>p.1=q.1/\TK H p.1 q.2.1/\RelV p.2 q.2.2) kvs xs->
  ∀(i:Nat),kvs[i]? =some (k,v)->∃b u,xs[i]? =some (k,b,u)/\TK H k b:=by
  intro kvs xs r
  induction r with
  |nil=>intro i q;simp at q
  | @cons p x l1 l2 h1 h2 ih=>
   intro i q
   cases i with
   |zero=>
    erw[List.getElem?_cons_zero,Option.some.injEq] at q
    subst q
    obtain⟨e1,e2,_⟩:=h1
    obtain⟨x1,x2,x3⟩:=x
    have e1:k=x1:=e1
    subst e1
    exact⟨x2,x3,rfl,e2⟩
   |succ j=>
    erw[List.getElem?_cons_succ] at q
    obtain⟨b,u,q1,q2⟩:=ih j q
    exact⟨b,u,by simpa using q1,q2⟩
 obtain⟨b,u,q1,q2⟩:=key r i q
 have hi:=entry_at l i
 rw[q1] at hi
 exact⟨_,b,hi,rfl,q2⟩
theorem z83{P:Program}{w:World}{K:W.Frag}{tg:Expr}(a it:Addr)(o:Obj)(es:Array DictEntry)(ep:Nat)(hd:o.data= .dict es ep)(kvs:List (NK×V)):
 zaO P w K tg (ItD a o kvs) [it] it (fun i h=>h.IsKeyIter it a i es.size ep) where
 mem:=by simp
 obj:=fun i h st b hb=>by
  have e:b=it:=by simpa using hb
  subst e
  obtain⟨o,e,c,d⟩:=st
  exact⟨o,e,fun v z=>by rw[d] at z;cases z⟩
 keep:=fun i h h' st k=>st.at fun o e=>k it (by simp) o e
 item:=by
  intro X hP hw hK hc i pins s σ H E I hf st hg
  subst hP hw hK
  obtain⟨hi,hq⟩:=hg
  obtain⟨ho,_,_,es',ep',hd',hsz,hat⟩:=zb0 I.hok hq
  rw[hd] at hd'
  cases hd'
  obtain⟨f0,f1,f2,f3,f4,f5⟩:=hf it (by simp)
  obtain⟨⟨k,v⟩,hk⟩: ∃p,kvs[i]? =some p:=⟨kvs[i],by simp[hi]⟩
  obtain⟨en,b,he,hb,hB⟩:=hat i k v hk
  refine z2w st ho hd he fun h' st' sb=> ?_
  have I1:Inv X pins σ H {s with heap:=h'}:=I.turned (t':=s.toks) (fun b o hb e=>(sb.2 b hb).trans e) f0 f1 f3 f4 f5
  obtain⟨o2,e2,c2,d2⟩:=id st'
  exact⟨_,rfl,z9E (s:={s with heap:=h'}) e2 c2 d2 (by decide) ⟨.ref b,H,I1,hb,⟨rfl,b,k,v,rfl,hk,hB⟩,st',fun b hb=>(hf b hb).1⟩⟩
 done:=by
  intro X hP hw hK hc i pins s σ H E I hf st hg
  subst hP hw hK
  obtain⟨hi,hq⟩:=hg
  obtain⟨ho,_,_,es',ep',hd',hsz,hat⟩:=zb0 I.hok hq
  rw[hd] at hd'
  cases hd'
  obtain⟨f0,f1,f2,f3,f4,f5⟩:=hf it (by simp)
  exact z39 (I.ok.hd hc) st ho hd (by lia) fun h' eb=>⟨rfl,I.turned (t':=s.toks) (fun b o hb e=>eb b o hb e) f0 f1 f3 f4 f5⟩
 self:=fun _ _ _ _ _ st h=>wpAny_pyIter_keyiter st h
section
variable{X:Cx}{tg:Expr}
theorem Inv.freeze{pins:List (Addr×Obj)}{σ:St}{H:Hp}{s:Shared}{a:Addr}{kvs:List (NK×V)}(I:Inv X pins σ H s)(h:H a=some (.dT kvs)):
 ∃o es ep,s.heap.get? a=some o/\o.ExactDict/\o.data= .dict es ep/\(a==sysModules)=false/\es.size=kvs.length/\Inv X pins σ (upd H a (.frz o (.dT kvs))) s:=by
 obtain⟨z,y,xs,r,o,es,ep,e,c,d,l,nd⟩:=I.hok a _ h
 have hs:es.size=xs.length:=size_of_entries l
 have hl:kvs.length=xs.length:=Paired.length r
 refine⟨o,es,ep,e,c,d,y,by lia, ?_⟩
 have tn: ∀b xs,H b=some (.tup xs)->(upd H a (.frz o (.dT kvs))) b=some (.tup xs):=fun b xs q=>by
  rw[Z6 (z36 q h (by intro z;cases z))];exact q
 have hw:=I.write (x:=a) (e:=a) (o:= .frz o (.dT kvs)) (h':=s.heap) (t':=s.toks) (by rw[h];trivial) (.inl rfl) (fun b u _ q=>q) ⟨o,e⟩
  ⟨e,z,y,xs,Paired.mapP r fun p q z=>⟨z.1,z.2.1.stay tn,z.2.2⟩,o,es,ep,e,c,d,l,nd⟩
 exact hw
noncomputable def ze8(td:TE):TI:=fun σ H R=>td σ H fun x H1=> ∃a kvs,x= .ref a/\H1 a=some (.dT kvs)/\∀o,R (ItD a o kvs) (upd H1 a (.frz o (.dT kvs)))
theorem zc4{l:Expr}{tl:TE}(hl:PE X l tl):PI X tg l (ze8 tl):=by
 intro pins s σ H R I h
 refine thn (hl pins s σ H _ I h) fun v s1 ⟨x,H1,I1,r1,a,kvs,e,ha,q⟩=> ?_
 subst e
 cases r1
 obtain⟨o,es,ep,ho,hc,hd,hy,hsz,I2⟩:=I1.freeze ha
 refine z2v hy ho hc hd ?_
 have I3:Inv X pins σ (upd H1 a (.frz o (.dT kvs))) {s1 with heap:=s1.heap.push {cls:= .type "dict_keyiterator",data:= .fields #[.ref a, .int 0 0, .int es.size 0, .int ep 0]}}:=
  I2.kept (t':=s1.toks) fun b u q=>Heap.get?_push_of_some _ q
 refine⟨s1.heap.objs.size,[s1.heap.objs.size],_,ItD a o kvs,_,rfl,I3,z83 a _ o es ep hd kvs,⟨_,Heap.get?_push_size _ rfl,rfl,rfl⟩,fun b hb=> ?_,q o⟩
 have e:b=s1.heap.objs.size:=by simpa using hb
 subst e
 exact I2.fpOk (i4 _) I2.fresh
end
noncomputable def U3(osc sc:Scope)(own frees N:List Str)(ix:List Nat):Bool:=
 decide (sc.kind= .function)&&sc.names.all (fun y=>decide (y.2≠ .cell))&&sc.names.all (fun y=>decide (y.2= .local->sc.names.lookup y.1=some .local))&&
  sc.names.all (fun y=>decide (y.2= .free->osc.names.lookup y.1=some .cell\/osc.names.lookup y.1=some .free))&&decide (own++frees).Nodup&&frees.all (fun x=>decide (sc.names.lookup x=some .free))&&
  decide (ix.map (fun i=>N[i]?)=frees.map some)
theorem U3.sc{osc sc:Scope}{own frees N:List Str}{ix:List Nat}(h:U3 osc sc own frees N ix=true):G1 osc sc own frees N ix:=by
 unfold U3 at h
 erw[l0,D4,decide_eq_true_eq] at h
 obtain⟨⟨⟨⟨⟨⟨h1,h2⟩,h3⟩,h4⟩,h5⟩,h6⟩,h7⟩:=h
 exact⟨h1,h2,h3,h4,h5,h6,h7⟩
theorem z0X.new{H:Hp}{p:Addr}(o:HO)(h:H p=none):z0X H (upd H p o):=fun x u e=>by rw[Z6 (J6 e h)];exact e
noncomputable def zc5(H H':Hp):Prop:=(∀b xs,H b=some (.tup xs)->H' b=some (.tup xs))/\∀b o xs,H b=some (.frz o (.tup xs))->H' b=some (.frz o (.tup xs))
theorem z0X.ts{H H':Hp}(h:z0X H H'):zc5 H H':=⟨fun b _ e=>h b _ e,fun b _ _ e=>h b _ e⟩
theorem zc5.tup{K:W.Frag}{H H':Hp}(t:zc5 H H'){a:Addr}{xs:List V}(h:SqT K H a xs):SqT K H' a xs:=by
 rcases h with(h|⟨o,h⟩)|h
 ·exact .inl (.inl (t.1 _ _ h))
 ·exact .inl (.inr ⟨o,t.2 _ _ _ h⟩)
 ·exact .inr h
theorem z0X.lst{K:W.Frag}{H H':Hp}(h:z0X H H'){a:Addr}{xs:List V}(s:SqL K H a xs):SqL K H' a xs:=z0X.seq h s
noncomputable def dT(ns:List Int):PyData:= .tuple (ns.map PyData.int)
theorem map_take{α β:Type}(f:α->β)(xs:List α)(k:Nat):(xs.map f).take k=(xs.take k).map f:=by rw[R7]
theorem Paired.snoc{α β:Type}{F:α->β->Prop}: ∀{l₁:List α} {l₂:List β} {a:α} {b:β},Paired F l₁ l₂->F a b->Paired F (l₁++[a]) (l₂++[b])
 |_,_,_,_, .nil,h=> .cons h .nil
 |_,_,_,_, .cons r t,h=> .cons r (Paired.snoc t h)
noncomputable def z9U(K:W.Frag)(H:Hp)(xs:List V)(Q:VK):Prop:= ∀p H',(H'=H/\H p=some (.tup xs))\/(H p=none/\H'=upd H p (.tup xs))->Q (.ref p) H'
theorem z9U.intro{K:W.Frag}{H:Hp}{xs:List V}{Q:VK}(h: ∀p H',H' p=some (.tup xs)->z0X H H'->Q (.ref p) H'):z9U K H xs Q:=by
 intro p H' e
 rcases e with⟨rfl,s⟩|⟨n,rfl⟩
 ·exact h p H' s (z0X.refl _)
 ·exact h p _ Z8 (z0X.new _ n)
section
variable{X:Cx}
noncomputable def zgT(K:W.Frag):V->Option Int->Option Int->Hp->VK->Prop:=fun x lo hi H Q=> ∃a xs,x= .ref a/\H a=some (.tup xs)/\z9U K H (z7N xs lo hi) Q
theorem zc6:SlR X (zgT X.K):=by
 intro pins s σ H x v vl vu lo hi sl Q I rx hs pl pu h
 obtain⟨a,xs,rfl,hx0,q⟩:=h
 have hx:SqT X.K H a xs:=SqT.of hx0
 by_cases hw:HT.sIx xs.length 0 lo=0/\HT.sIx xs.length xs.length hi=xs.length
 ·cases rx
  obtain⟨its,r,ht,hz⟩:=I.tuple hx
  have hlen:its.toArray.size=xs.length:=by rw[l7];exact r.length.symm
  refine⟨"tuple",_,PyProof.Rows.slot_tuple_getitem.lookup,ht.typeIs, ?_⟩
  refine HT.getItem_tuple_whole ht hs pl pu (by rw[hlen];exact hw) ⟨.ref a,H,I,rfl,q a H (.inl ⟨rfl, ?_⟩)⟩
  rw[z71 hw]
  exact hx0
 ·exact zdL pins s σ H _ v vl vu lo hi sl Q I rx hs pl pu ⟨a,xs,rfl,hx,hw,fun p hp=>q p _ (.inr ⟨hp,rfl⟩)⟩
noncomputable def z84(K:W.Frag):R2:=fun x y H Q=> ∃a b xs ys,x= .ref a/\y= .ref b/\H a=some (.tup xs)/\H b=some (.tup ys)/\xs.length+ys.length<=sizeLine/\z9U K H (xs++ys) Q
theorem z85:OpR X (binaryOp .Add) (z84 X.K):=by
 intro pins s σ H x y v u Q I rx ry h
 obtain⟨a,b,xs,ys,rfl,rfl,ha0,hb0,hz,q⟩:=h
 have ha:SqT X.K H a xs:=SqT.of ha0
 have hb:SqT X.K H b ys:=SqT.of hb0
 by_cases hx:xs=[]
 ·subst hx
  cases rx
  cases ry
  obtain⟨its,r1,p1,_⟩:=I.tuple ha
  obtain⟨its2,r2,p2,_⟩:=I.tuple hb
  have e0:its=[]:=(J0.nil_iff r1).mpr rfl
  subst e0
  obtain⟨⟨cls,dd,data,sl⟩,ho,hc,n,hd⟩:=id p1
  obtain⟨⟨cls2,dd2,data2,sl2⟩,ho2,hc2,n2,hd2⟩:=id p2
  simp only at hc hd hc2 hd2
  subst hc hd hc2 hd2
  exact concat_meets ⟨_,ho,rfl⟩ ⟨_,ho2,rfl⟩ noFill_tuple_add seq_tuple_add PySem.F.slot_tuple_add PySem.F.entry_tuple_add (PySem.F.args_tuple_add_2 _ _)
   (tuple_addW0 a b _ _ n n2 dd dd2 sl sl2 (by simp)) ⟨ho,ho2, .ref b,H,I,rfl,q b H (.inl ⟨rfl,hb0⟩)⟩
 ·refine zbP pins s σ H _ _ v u Q I rx ry ⟨a,b,xs,ys,rfl,rfl,ha,hb,hx,hz,fun e=> ?_,fun _ p hp=>q p _ (.inr ⟨hp,rfl⟩)⟩
  refine q a H (.inl ⟨rfl, ?_⟩)
  rw[e,l3]
  exact ha0
theorem z86:CallR X (.type "tuple") (fun xs H Q=> ∃(p:Addr) (ys:List V),xs=[.ref p]/\(SqL X.K H p ys\/H p=some (.tup ys))/\z9U X.K H ys Q):=by
 intro pins s σ H xs us Q I r h
 obtain⟨p,ys,rfl,hs,q⟩:=h
 refine z3R pins s σ H _ us Q I r ⟨p,ys,rfl, ?_⟩
 rcases hs with hs|hs
 ·exact .inl ⟨hs,fun l hl=>q l _ (.inr ⟨hl,rfl⟩)⟩
 ·exact .inr ⟨SqT.of hs,q p H (.inl ⟨rfl,hs⟩)⟩
end
end L2
namespace PyProof.Rows
open PySem
section
variable{prog:Program}{w:World}{A:Around}{E:Value->Shared->Prop}{s:Shared}
theorem z2x{h h':Heap}{t:Addr}{items:Array Value}(hl:h.IsList t items)(k: ∀o,h.get? t=some o->h'.get? t=some o):h'.IsList t items:=by
 obtain⟨o,ho,hc,n,hd⟩:=hl
 exact⟨o,k o ho,hc,n,hd⟩
theorem z4Q{it t:Addr}{items:Array Value}(hne:t≠it): ∀(n i:Nat) (s:Shared) (Q:List Value->Shared->Prop),s.heap.IsListIter it t i->s.heap.IsList t items->i+n<=items.size->
 (∀h',h'.IsListIter it t (i+n)->Heap.SameBut it s.heap h'->Q ((items.toList.drop i).take n) {s with heap:=h'})->wpAny (model prog w) A (draw (.ref it) n) Q E s
 |0,i,s,Q,hit,_,_,hQ=>by
  show wpAny _ _ (pure []) Q E s
  exact wpAny_pure (by simpa using hQ s.heap hit (Heap.SameBut.refl ..))
 |n+1,i,s,Q,hit,ht,hle,hQ=>by
  have hlt:i<items.size:=by lia
  show wpAny _ _ (pyNext (.ref it)>>=_) Q E s
  refine wpAny_bind (wpAny_pyNext_list_item hit ht (x:=items[i]) (by simp[hlt]) fun h₁ hit₁ hs₁=> ?_)
  refine wpAny_bind (wpAny_holding (z4Q hne n (i+1) _ _ hit₁ (z2x ht fun o e=>(hs₁.2 t hne).trans e) (by lia) fun h₂ hit₂ hs₂=>wpAny_pure ?_))
  have hd:items.toList.drop i=items[i]::items.toList.drop (i+1):=by simp[C7,hlt]
  have:=hQ h₂ (by rw[show i+(n+1)=i+1+n by lia];exact hit₂) (hs₁.trans hs₂)
  rw[hd,F3] at this
  exact this
theorem z2a{t:Addr}{items:Array Value}{Q:List Value->Shared->Prop}(hh:A.handled=none)(ht:s.heap.IsList t items)
 (hQ: ∀h',Heap.ExtBut s.heap.objs.size s.heap h'->Q items.toList {s with heap:=h'}):wpAny (model prog w) A (unpackItems (.ref t) items.size none) Q E s:=by
 have hlt:t≠s.heap.objs.size:=by obtain⟨o,ho,_⟩:=ht;exact o0 (Heap.lt_size ho)
 have hT:s.TypeIs (.ref t) "list" :=by obtain⟨o,ho,hc,_⟩:=ht;exact⟨o,ho,hc⟩
 unfold unpackItems
 refine wpAny_bind ?_
 ·unfold notIterableAtAll
  refine wpAny_bind (wpAny_specialOf hT PySem.F.slot_list_iter.lookup ?_)
  refine wpAny_pure ?_
  erw[C8,if_false]
  refine wpAny_bind (wpAny_holding (wpAny_pyIter_list ht ?_))
  refine wpAny_bind (wpAny_holding (z4Q hlt items.size 0 _ _ ⟨_,Heap.get?_push_size _ rfl,rfl,rfl⟩ (z2x ht fun o e=>Heap.get?_push_of_some _ e) (by lia) fun h₁ hit₁ hs₁=> ?_))
  have hall:List.take items.size (List.drop 0 items.toList)=items.toList:=by
   rw[E8];exact E3 (by simp)
  rw[hall]
  rw[if_neg (by simp)]
  have ht₁:h₁.IsList t items:=z2x ht fun o e=>(hs₁.2 t hlt).trans (Heap.get?_push_of_some _ e)
  refine wpAny_bind (wpAny_holding (wpAny_pyNext_list_end hh hit₁ ht₁ (by simp) fun h₂ he₂=> ?_))
  erw[Option.isSome_none,C8,if_false]
  refine wpAny_pure (hQ h₂ fun b o hb e=>he₂ b o hb (hs₁.extBut b o hb (Heap.get?_push_of_some _ e)))
theorem z1O{env:Env}{elts:List Expr}{x1}{pos:Pos}{t:Addr}{items:Array Value}{Q:Unit->Shared->Prop}(hh:A.handled=none)(ht:s.heap.IsList t items)
 (hn:(assignEach elts env).length=items.size) (hstar:(assignEach elts env).findIdx? (·.1)=none)
 (h: ∀h',Heap.ExtBut s.heap.objs.size s.heap h'->wpAny (model prog w) A (assignInOrder ((assignEach elts env).map (·.2)) items.toList) Q E {s with heap:=h'}):
 wpAny (model prog w) A (assign (.Tuple elts x1 pos) env (.ref t)) Q E s:=by
 rw[assign_Tuple]
 refine wpAny_bind (wpAny_standAt ?_)
 unfold unpack
 rw[hn,hstar]
 exact wpAny_bind (wpAny_holding (z2a hh ht h))
end
end PyProof.Rows
namespace L2
open PySem PySem.Spec PyProof.Rows
section
variable{X:Cx}{pos:Pos}
noncomputable def ziK(K:W.Frag)(n:Nat)(t:TGs):TG:=fun v σ H Q=> ∃a xs,v= .ref a/\(SqT K H a xs\/SqL K H a xs)/\xs.length=n/\t xs σ H Q
theorem ze9{es:List Expr}{k:Nat}{t:TGs}{n:Nat}(hc:X.calm=true)(h:PGs X es t)
 (hn:(assignEach es X.env).length=n:=by rfl) (hst:(assignEach es X.env).findIdx? (·.1)=none:=by rfl):PG X (.Tuple es k pos) (ziK X.K n t):=by
 intro pins s σ H v u Q I r hw
 obtain⟨a,xs,e1,hq|hq,hl,hw⟩:=hw
 ·exact zaL hc h hn hst pins s σ H v u Q I r ⟨a,xs,e1,hq,hl,hw⟩
 ·subst e1
  cases r
  obtain⟨its,rv,ht,hz⟩:=I.list hq
  refine z1O (I.ok.hd hc) ht.isList (by simp[hn,<-hl,rv.length]) hst fun h' hx=> ?_
  have I1:Inv X pins σ H {s with heap:=h'}:=I.kept (t':=s.toks) fun b o e=>hx b o (o0 (Heap.lt_size e)) e
  exact h pins _ σ H xs _ Q I1 (by simpa using rv) hw
end
theorem z2b:fillsNumberSlot (.type "tuple") "mul" =pure false:=
 PySem.fillsNumberSlot_seq (id:= "tuple.__mul__") (r:=some (.builtin "tuple.__rmul__")) F.slot_tuple_mul.lookup (by decide+kernel) F.slot_tuple_rmul.lookup (by decide+kernel)
theorem z4R:seqRepeat? (.type "tuple")=pure (some (.builtin "tuple.__mul__")):=by
 unfold seqRepeat?
 rw[PySem.seqSlot_of (T:= "tuple") (name:= "__mul__") (id:= "tuple.__mul__") F.slot_tuple_mul.lookup (by decide+kernel),PySem.seqSlot_of (T:= "tuple") (name:= "__rmul__") (id:= "tuple.__rmul__") F.slot_tuple_rmul.lookup (by decide+kernel)]
 rfl
theorem z3a(a:Int)(t:Tok)(l:Addr)(items:Array Value)(n:Nat)(dd:Option Addr)(sl:Array (Option Value)):
 Meets (Builtin.«int.__rmul__» ⟨[.int a t, .ref l],[]⟩) (fun _ R s=>s.heap.get? l=some {cls:= .type "tuple",dict:=dd,data:= .seq items n,slots:=sl}/\R (.ok (.ret Value.notImplemented)) s):=
 .of_wp fun prog w A R s h=>by obtain⟨hp,g,d,tk,os⟩:=s;obtain⟨hl,h⟩:=h;wp_walk;exact⟨_,rfl,h⟩
theorem z72(l:Addr)(items:Array Value)(n:Nat)(dd:Option Addr)(sl:Array (Option Value))(x:Int)(u:Tok)(hc0: ¬(decide (x< -(2^63))||decide (x≥2^63))=true)(hc1: ¬(items.isEmpty||x==1)=true)(hc2: ¬(decide (x<=0)||items.isEmpty)=true)(hc3: ¬((items.size:Int)*x>(2^63 - 1)/8))(hc4: ¬Builtin.Tuple.tupleTooMany ((items.size:Int)*x)=true)(hsz:(O4 (fun x1 x2=>x1++x2) #[] (l5 x.toNat items)).size<=sizeLine):
 Meets (Builtin.«tuple.__mul__» ⟨[.ref l, .int x u],[]⟩) (fun _ R s=>s.heap.get? l=some {cls:= .type "tuple",dict:=dd,data:= .seq items n,slots:=sl}/\R (.ok (.ret (Value.ref s.heap.objs.size))) {s with heap:=s.heap.push {cls:=Value.type "tuple",data:=Data.seq (O4 (fun x1 x2=>x1++x2) #[] (l5 x.toNat items))},toks:=s.toks}):=
 .of_wp fun prog w A R s h=>by
  obtain⟨hp,g,d,tk,os⟩:=s;obtain⟨hl,h⟩:=h
  have f1:=AutoSeq1.idx_int;have f2:=AutoSeq1.sub_tuple_tuple
  wp_walk using AutoSeq1.wpAny_loadPart' hl
  rw[if_neg hc0]
  wp_walk using AutoSeq1.wpAny_loadPart' hl
  rw[if_neg hc3]
  wp_walk using AutoSeq1.wpAny_loadPart' hl
  exact⟨_,rfl,h⟩
section
variable{X:Cx}
noncomputable def zc7(K:W.Frag):R2:=fun x y H Q=> ∃a k xs,x= .ref a/\y= .int k/\SqT K H a xs/\0<xs.length/\2<=k/\k<2^63/\xs.length*k.toNat<=sizeLine/\
 ∀p,H p=none->Q (.ref p) (upd H p (.tup (l5 k.toNat xs).flatten))
theorem zc8:OpR X (binaryOp .Mult) (zc7 X.K):=by
 intro pins s σ H x y v u Q I rx ry h
 obtain⟨a,k,xs,rfl,rfl,ha,h0,h1,h2,hz,q⟩:=h
 cases rx
 obtain⟨t,rfl⟩:=ry
 obtain⟨its,r,p1,_⟩:=I.tuple ha
 obtain⟨⟨cls,dd,data,sl⟩,e,hc,n,hd⟩:=id p1
 simp only at hc hd
 subst hc hd
 have hlen:its.length=xs.length:=r.length.symm
 have hne:its.toArray.isEmpty=false:=by
  cases its with
  |nil=>simp at hlen;lia
  |cons a r=>simp
 have hnew:O4 (fun x1 x2=>x1++x2) #[] (l5 k.toNat its.toArray)=(l5 k.toNat its).flatten.toArray:=by
  have:=z2o its k.toNat []
  rw[m8] at this
  exact this
 have hl2:((its.toArray.size:Nat):Int)*k=((xs.length*k.toNat:Nat):Int):=by
  rw[l7,hlen,Int.natCast_mul,Int.toNat_of_nonneg (by lia)]
 have hs:(sizeLine:Nat)=16777216:=rfl
 refine wpAny_binaryOp_repeat_ref (T:= "tuple") (U:= "int") (by decide) ⟨_,e,rfl⟩ (fun s'=>typeIs_int s' k t) z2b F.fills_int_mul F.slot_int_rmul z4R F.slot_int_index.lookup
  (call_meets F.slot_int_rmul (typeIs_int s k t) F.entry_int_rmul (F.args_int_rmul_2 _ _) (z3a k t a its.toArray n dd sl)
   ⟨e,rfl,⟨_,e,rfl⟩,call_meets F.slot_tuple_mul ⟨_,e,rfl⟩ F.entry_tuple_mul (F.args_tuple_mul_2 _ _) (z72 a its.toArray n dd sl k t (by simp;lia) (by rw[hne];simp;lia) (by rw[hne];simp;lia) (by rw[hl2];clear hl2;generalize xs.length*k.toNat=m at hz⊢;lia) (by rw[hl2];clear hl2;generalize xs.length*k.toNat=m at hz⊢;unfold Builtin.Tuple.tupleTooMany;rw[decide_eq_true_eq];lia) (by rw[hnew,l7,z5y,hlen,S0];exact hz)) ⟨e, ?_⟩⟩)
 rw[hnew]
 refine⟨.ref s.heap.objs.size,_,I.laid (t':=s.toks) (o:= .tup (l5 k.toNat xs).flatten) (fun b ob q=>Heap.get?_push_of_some _ q) (i4 _) ?_,rfl,q _ (I.hok.fresh (i4 _))⟩
 exact⟨by rw[z5y,S0];exact hz,_,r.rep k.toNat,IsTup.new _ _⟩
end
end L2
namespace Mi
open PySem L2
inductive D where
 |non|bool (b:Bool)|int (i:Int)|str (x:Str)
 |tup (ds:List D)|ro (ds:List D)|lst (l:Nat) (ds:List D)
 |dct (l:Nat) (ks vs:List D)|obj (l:Nat) (c:Str) (ns:List Str) (vs:List D)
 |exc (c:Str)|fn (c:Str)|fdc (ks vs:List D)
deriving Inhabited
mutual
noncomputable def y9:D->List Nat
 | .tup ds=>labsL ds
 | .ro ds=>labsL ds
 | .fdc _ vs=>labsL vs
 | .lst l ds=>l::labsL ds
 | .dct l ks vs=>l::(labsL ks++labsL vs)
 | .obj l _ _ vs=>l::labsL vs
 | .non=>[]| .bool _=>[]| .int _=>[]| .str _=>[]| .exc _=>[]| .fn _=>[]
noncomputable def labsL:List D->List Nat
 |[]=>[]
 |d::ds=>y9 d++labsL ds
end
noncomputable def Y0:List (Option D)->List Nat
 |[]=>[]
 |none::r=>Y0 r
 |some d::r=>y9 d++Y0 r
structure Gx where
 K:W.Frag
 cl:Str->Option Addr
 ci: ∀c c' a,cl c=some a->cl c'=some a->c=c'
 ck: ∀c a,cl c=some a->∃o,K.lookup a=some o/\∀its n,o.data≠ .seq its n
noncomputable def z4y:Key->D
 | .inl i=> .int i
 | .inr x=> .str x
noncomputable def nkD:Key⊕List Key->D
 | .inl k=>z4y k
 | .inr ks=> .tup (ks.map z4y)
noncomputable def dkD(k:NK):D:= .tup (k.map nkD)
noncomputable def RoL(K:W.Frag)(H:Hp)(a:Addr)(xs:List V):Prop:=
 (∃o,H a=some (.frz o (.lst xs)))\/∃(o:Obj) (its:Array Value) (n:Nat),K.lookup a=some o/\o.cls= .type "list" /\o.dict=none/\o.data= .seq its n/\its.size<=sizeLine/\J0 xs its.toList
theorem RoL.sq{K:W.Frag}{H:Hp}{a:Addr}{xs:List V}(h:RoL K H a xs):SqL K H a xs:=by
 rcases h with⟨o,h⟩|h
 ·exact .inl (.inr ⟨o,h⟩)
 ·exact .inr h
mutual
noncomputable def RD(G:Gx)(ρ:Nat->Addr)(H:Hp):D->V->Prop
 | .non,v=>v= .non
 | .bool b,v=>v= .bl b
 | .int i,v=>v= .int i
 | .str x,v=>v= .str x
 | .exc c,v=> ∃a o C,v= .ref a/\G.cl c=some C/\o.cls= .ref C/\(∃vs,o.data= .fields vs)/\H a=some (.frz o (.ext fun _=>True))
 | .fn c,v=> ∃a,v= .ref a/\G.cl c=some a
 | .tup ds,v=> ∃a xs,v= .ref a/\H a=some (.tup xs)/\RDs G ρ H ds xs
 | .ro ds,v=> ∃a xs,v= .ref a/\RoL G.K H a xs/\RDs G ρ H ds xs
 | .fdc ks vs,v=> ∃(a:Addr) (o:Obj) (kvs:List (NK×V)),v= .ref a/\H a=some (.frz o (.dT kvs))/\ks=kvs.map (fun p=>dkD p.1)/\RDs G ρ H vs (kvs.map (·.2))
 | .lst l ds,v=>v= .ref (ρ l)/\∃xs,H (ρ l)=some (.lst xs)/\RDs G ρ H ds xs
 | .dct l ks vs,v=>v= .ref (ρ l)/\((∃kvs:List (Key×V),H (ρ l)=some (.dK kvs)/\ks=D.non::kvs.map (fun p=>z4y p.1)/\RDs G ρ H vs (kvs.map (·.2)))\/
  (∃kvs:List (NK×V),H (ρ l)=some (.dT kvs)/\ks=kvs.map (fun p=>dkD p.1)/\RDs G ρ H vs (kvs.map (·.2))))
 | .obj l c ns vs,v=>v= .ref (ρ l)/\∃C dx fs,G.cl c=some C/\H (ρ l)=some (.ins C dx fs)/\ns=fs.map (·.1)/\RDs G ρ H vs (fs.map (·.2))
noncomputable def RDs(G:Gx)(ρ:Nat->Addr)(H:Hp):List D->List V->Prop
 |[],xs=>xs=[]
 |d::ds,xs=> ∃x r,xs=x::r/\RD G ρ H d x/\RDs G ρ H ds r
end
structure V5(H H':Hp):Prop where
 t: ∀b xs,H b=some (.tup xs)->H' b=some (.tup xs)
 f: ∀b o u,H b=some (.frz o u)->H' b=some (.frz o u)
theorem V5.refl(H:Hp):V5 H H:=⟨fun _ _ h=>h,fun _ _ _ h=>h⟩
theorem V5.of{H H':Hp}(h:z0X H H'):V5 H H':=⟨fun _ _ e=>h _ _ e,fun _ _ _ e=>h _ _ e⟩
theorem V5.ro{K:W.Frag}{H H':Hp}(t:V5 H H'){a:Addr}{xs:List V}(h:RoL K H a xs):RoL K H' a xs:=by
 rcases h with⟨o,h⟩|h
 ·exact .inl ⟨o,t.f _ _ _ h⟩
 ·exact .inr h
section
variable{G:Gx}{ρ ρ':Nat->Addr}{H H':Hp}
mutual
theorem RD.stay(ts:V5 H H'): ∀(t:D) (v:V),RD G ρ H t v->(∀l∈y9 t,ρ' l=ρ l/\∀o,H (ρ l)=some o->H' (ρ l)=some o)->RD G ρ' H' t v
 | .non,v,h,_=>by erw[RD] at h⊢;exact h
 | .bool b,v,h,_=>by erw[RD] at h⊢;exact h
 | .int b,v,h,_=>by erw[RD] at h⊢;exact h
 | .str b,v,h,_=>by erw[RD] at h⊢;exact h
 | .exc b,v,h,_=>by
  erw[RD] at h⊢
  obtain⟨a,o,C,e,h1,h2,h3,h5⟩:=h
  exact⟨a,o,C,e,h1,h2,h3,ts.f _ _ _ h5⟩
 | .fn b,v,h,_=>by erw[RD] at h⊢;exact h
 | .tup ds,v,h,hl=>by
  erw[RD,y9] at h hl⊢
  obtain⟨a,xs,e,s,r⟩:=h
  exact⟨a,xs,e,ts.t _ _ s,RDs.stay ts ds xs r hl⟩
 | .ro ds,v,h,hl=>by
  erw[RD,y9] at h hl⊢
  obtain⟨a,xs,e,s,r⟩:=h
  exact⟨a,xs,e,ts.ro s,RDs.stay ts ds xs r hl⟩
 | .fdc ks vs,v,h,hl=>by
  erw[RD,y9] at h hl⊢
  obtain⟨a,o,kvs,e,s,s2,r⟩:=h
  exact⟨a,o,kvs,e,ts.f _ _ _ s,s2,RDs.stay ts vs _ r hl⟩
 | .lst l ds,v,h,hl=>by
  erw[RD,y9] at h hl⊢
  obtain⟨e,xs,s,r⟩:=h
  obtain⟨e1,e2⟩:=hl l (l4 ..)
  rw[e1]
  exact⟨e,xs,e2 _ s,RDs.stay ts ds xs r fun k hk=>hl k (e9 _ hk)⟩
 | .dct l ks vs,v,h,hl=>by
  erw[RD,y9] at h hl⊢
  obtain⟨e,s⟩:=h
  obtain⟨e1,e2⟩:=hl l (l4 ..)
  rw[e1]
  refine⟨e, ?_⟩
  rcases s with⟨kvs,s,s2,r⟩|⟨kvs,s,s2,r⟩
  ·exact .inl ⟨kvs,e2 _ s,s2,RDs.stay ts vs _ r fun k hk=>hl k (e9 _ (c9 _ hk))⟩
  ·exact .inr ⟨kvs,e2 _ s,s2,RDs.stay ts vs _ r fun k hk=>hl k (e9 _ (c9 _ hk))⟩
 | .obj l c ns vs,v,h,hl=>by
  erw[RD,y9] at h hl⊢
  obtain⟨e,C,dx,fs,hC,s,s2,r⟩:=h
  obtain⟨e1,e2⟩:=hl l (l4 ..)
  rw[e1]
  exact⟨e,C,dx,fs,hC,e2 _ s,s2,RDs.stay ts vs _ r fun k hk=>hl k (e9 _ hk)⟩
theorem RDs.stay(ts:V5 H H'): ∀(t:List D) (v:List V),RDs G ρ H t v->(∀l∈labsL t,ρ' l=ρ l/\∀o,H (ρ l)=some o->H' (ρ l)=some o)->RDs G ρ' H' t v
 |[],v,h,_=>by erw[RDs] at h⊢;exact h
 |d::ds,v,h,hl=>by
  erw[RDs,labsL] at h hl⊢
  obtain⟨x,r,e,h1,h2⟩:=h
  exact⟨x,r,e,RD.stay ts d x h1 fun l hk=>hl l (i5 _ hk),RDs.stay ts ds r h2 fun l hk=>hl l (c9 _ hk)⟩
end
end
mutual
noncomputable def rp(f:Nat->Option D):D->D
 | .tup ds=> .tup (rpL f ds)
 | .ro ds=> .ro (rpL f ds)
 | .fdc ks vs=> .fdc ks (rpL f vs)
 | .lst l ds=>match f l with|some d=>d|none=> .lst l (rpL f ds)
 | .dct l ks vs=>match f l with|some d=>d|none=> .dct l ks (rpL f vs)
 | .obj l c ns vs=>match f l with|some d=>d|none=> .obj l c ns (rpL f vs)
 | .non=> .non| .bool b=> .bool b| .int i=> .int i| .str x=> .str x| .exc x=> .exc x| .fn x=> .fn x
noncomputable def rpL(f:Nat->Option D):List D->List D
 |[]=>[]
 |d::ds=>rp f d::rpL f ds
end
noncomputable def rpO(f:Nat->Option D):List (Option D)->List (Option D)
 |[]=>[]
 |none::r=>none::rpO f r
 |some d::r=>some (rp f d)::rpO f r
section
variable{f:Nat->Option D}
mutual
theorem z9V: ∀t:D,(∀l∈y9 t,f l=none)->rp f t=t
 | .non,_=>rfl
 | .bool b,_=>rfl
 | .int b,_=>rfl
 | .str b,_=>rfl
 | .exc b,_=>rfl
 | .fn b,_=>rfl
 | .tup ds,h=>by erw[rp,y9] at h⊢;rw[rpL_id ds h]
 | .ro ds,h=>by erw[rp,y9] at h⊢;rw[rpL_id ds h]
 | .fdc ks vs,h=>by erw[rp,y9] at h⊢;rw[rpL_id vs h]
 | .lst l ds,h=>by
  erw[rp,y9] at h⊢
  rw[h l (l4 ..),rpL_id ds fun k hk=>h k (e9 _ hk)]
 | .dct l ks vs,h=>by
  erw[rp,y9] at h⊢
  rw[h l (l4 ..),rpL_id vs fun k hk=>h k (e9 _ (c9 _ hk))]
 | .obj l c ns vs,h=>by
  erw[rp,y9] at h⊢
  rw[h l (l4 ..),rpL_id vs fun k hk=>h k (e9 _ hk)]
theorem rpL_id: ∀t:List D,(∀l∈labsL t,f l=none)->rpL f t=t
 |[],_=>rfl
 |d::ds,h=>by
  erw[rpL,labsL] at h⊢
  rw[z9V d fun l hk=>h l (i5 _ hk),rpL_id ds fun l hk=>h l (c9 _ hk)]
end
theorem z87: ∀t:List (Option D),(∀l∈Y0 t,f l=none)->rpO f t=t
 |[],_=>rfl
 |none::r,h=>by erw[rpO,Y0] at h⊢;rw[z87 r h]
 |some d::r,h=>by
  erw[rpO,Y0] at h⊢
  rw[z9V d fun l hk=>h l (i5 _ hk),z87 r fun l hk=>h l (c9 _ hk)]
end
section
variable{G:Gx}{ρ ρ':Nat->Addr}{H H':Hp}{f:Nat->Option D}
mutual
theorem RD.rp(ts:V5 H H'): ∀(t:D) (v:V),RD G ρ H t v->(∀l∈y9 t,ρ' l=ρ l/\(match f l with|some d=>RD G ρ' H' d (.ref (ρ l))|none=> ∀o,H (ρ l)=some o->H' (ρ l)=some o))->RD G ρ' H' (rp f t) v
 | .non,v,h,_=>by erw[Mi.rp,RD] at h⊢;exact h
 | .bool b,v,h,_=>by erw[Mi.rp,RD] at h⊢;exact h
 | .int b,v,h,_=>by erw[Mi.rp,RD] at h⊢;exact h
 | .str b,v,h,_=>by erw[Mi.rp,RD] at h⊢;exact h
 | .exc b,v,h,_=>by
  erw[Mi.rp,RD] at h⊢
  obtain⟨a,o,C,e,h1,h2,h3,h5⟩:=h
  exact⟨a,o,C,e,h1,h2,h3,ts.f _ _ _ h5⟩
 | .fn b,v,h,_=>by erw[Mi.rp,RD] at h⊢;exact h
 | .tup ds,v,h,hl=>by
  erw[Mi.rp,RD,y9] at h hl⊢
  obtain⟨a,xs,e,s,r⟩:=h
  exact⟨a,xs,e,ts.t _ _ s,RDs.rp ts ds xs r hl⟩
 | .ro ds,v,h,hl=>by
  erw[Mi.rp,RD,y9] at h hl⊢
  obtain⟨a,xs,e,s,r⟩:=h
  exact⟨a,xs,e,ts.ro s,RDs.rp ts ds xs r hl⟩
 | .fdc ks vs,v,h,hl=>by
  erw[Mi.rp,RD,y9] at h hl⊢
  obtain⟨a,o,kvs,e,s,s2,r⟩:=h
  exact⟨a,o,kvs,e,ts.f _ _ _ s,s2,RDs.rp ts vs _ r hl⟩
 | .lst l ds,v,h,hl=>by
  erw[Mi.rp,RD,y9] at h hl⊢
  obtain⟨e,xs,s,r⟩:=h
  obtain⟨e1,e2⟩:=hl l (l4 ..)
  cases ef:f l with
  |some d=>rw[ef] at e2;subst e;exact e2
  |none=>
   rw[ef] at e2
   erw[RD]
   rw[e1]
   exact⟨e,xs,e2 _ s,RDs.rp ts ds xs r fun k hk=>hl k (e9 _ hk)⟩
 | .dct l ks vs,v,h,hl=>by
  erw[Mi.rp,RD,y9] at h hl⊢
  obtain⟨e,s⟩:=h
  obtain⟨e1,e2⟩:=hl l (l4 ..)
  cases ef:f l with
  |some d=>rw[ef] at e2;subst e;exact e2
  |none=>
   rw[ef] at e2
   erw[RD]
   rw[e1]
   refine⟨e, ?_⟩
   rcases s with⟨kvs,s,s2,r⟩|⟨kvs,s,s2,r⟩
   ·exact .inl ⟨kvs,e2 _ s,s2,RDs.rp ts vs _ r fun k hk=>hl k (e9 _ (c9 _ hk))⟩
   ·exact .inr ⟨kvs,e2 _ s,s2,RDs.rp ts vs _ r fun k hk=>hl k (e9 _ (c9 _ hk))⟩
 | .obj l c ns vs,v,h,hl=>by
  erw[Mi.rp,RD,y9] at h hl⊢
  obtain⟨e,C,dx,fs,hC,s,s2,r⟩:=h
  obtain⟨e1,e2⟩:=hl l (l4 ..)
  cases ef:f l with
  |some d=>rw[ef] at e2;subst e;exact e2
  |none=>
   rw[ef] at e2
   erw[RD]
   rw[e1]
   exact⟨e,C,dx,fs,hC,e2 _ s,s2,RDs.rp ts vs _ r fun k hk=>hl k (e9 _ hk)⟩
theorem RDs.rp(ts:V5 H H'): ∀(t:List D) (v:List V),RDs G ρ H t v->(∀l∈labsL t,ρ' l=ρ l/\(match f l with|some d=>RD G ρ' H' d (.ref (ρ l))|none=> ∀o,H (ρ l)=some o->H' (ρ l)=some o))->RDs G ρ' H' (rpL f t) v
 |[],v,h,_=>by erw[rpL,RDs] at h⊢;exact h
 |d::ds,v,h,hl=>by
  erw[rpL,RDs,labsL] at h hl⊢
  obtain⟨x,r,e,h1,h2⟩:=h
  exact⟨x,r,e,RD.rp ts d x h1 fun l hk=>hl l (i5 _ hk),RDs.rp ts ds r h2 fun l hk=>hl l (c9 _ hk)⟩
end
end
section
variable{f:Nat->Option D}
mutual
theorem z88(l:Nat): ∀t:D,l∈y9 (rp f t)->l∈y9 t\/∃k d,k∈y9 t/\f k=some d/\l∈y9 d
 | .non,h=>by erw[rp,y9] at h;cases h
 | .bool b,h=>by erw[rp,y9] at h;cases h
 | .int b,h=>by erw[rp,y9] at h;cases h
 | .str b,h=>by erw[rp,y9] at h;cases h
 | .exc b,h=>by erw[rp,y9] at h;cases h
 | .fn b,h=>by erw[rp,y9] at h;cases h
 | .tup ds,h=>by
  erw[rp,y9] at h⊢
  exact labsL_rp l ds h
 | .ro ds,h=>by
  erw[rp,y9] at h⊢
  exact labsL_rp l ds h
 | .fdc ks vs,h=>by
  erw[rp,y9] at h⊢
  exact labsL_rp l vs h
 | .lst k ds,h=>by
  erw[rp] at h
  cases e:f k with
  |some d=>rw[e] at h;exact .inr ⟨k,d,by erw[y9];exact l4 ..,e,h⟩
  |none=>
   rw[e] at h
   erw[y9] at h⊢
   rcases i0.mp h with h|h
   ·exact .inl (i0.mpr (.inl h))
   ·rcases labsL_rp l ds h with q|⟨k',d,q1,q2,q3⟩
    ·exact .inl (e9 _ q)
    ·exact .inr ⟨k',d,e9 _ q1,q2,q3⟩
 | .dct k ks vs,h=>by
  erw[rp] at h
  cases e:f k with
  |some d=>rw[e] at h;exact .inr ⟨k,d,by erw[y9];exact l4 ..,e,h⟩
  |none=>
   rw[e] at h
   erw[y9] at h⊢
   rcases i0.mp h with h|h
   ·exact .inl (i0.mpr (.inl h))
   ·rcases i3.mp h with h|h
    ·exact .inl (e9 _ (i5 _ h))
    ·rcases labsL_rp l vs h with q|⟨k',d,q1,q2,q3⟩
     ·exact .inl (e9 _ (c9 _ q))
     ·exact .inr ⟨k',d,e9 _ (c9 _ q1),q2,q3⟩
 | .obj k c ns vs,h=>by
  erw[rp] at h
  cases e:f k with
  |some d=>rw[e] at h;exact .inr ⟨k,d,by erw[y9];exact l4 ..,e,h⟩
  |none=>
   rw[e] at h
   erw[y9] at h⊢
   rcases i0.mp h with h|h
   ·exact .inl (i0.mpr (.inl h))
   ·rcases labsL_rp l vs h with q|⟨k',d,q1,q2,q3⟩
    ·exact .inl (e9 _ q)
    ·exact .inr ⟨k',d,e9 _ q1,q2,q3⟩
theorem labsL_rp(l:Nat): ∀t:List D,l∈labsL (rpL f t)->l∈labsL t\/∃k d,k∈labsL t/\f k=some d/\l∈y9 d
 |[],h=>by erw[rpL,labsL] at h;cases h
 |d::ds,h=>by
  erw[rpL,labsL] at h⊢
  rcases i3.mp h with h|h
  ·rcases z88 l d h with q|⟨k',d,q1,q2,q3⟩
   ·exact .inl (i5 _ q)
   ·exact .inr ⟨k',d,i5 _ q1,q2,q3⟩
  ·rcases labsL_rp l ds h with q|⟨k',d,q1,q2,q3⟩
   ·exact .inl (c9 _ q)
   ·exact .inr ⟨k',d,c9 _ q1,q2,q3⟩
end
theorem z2j(l:Nat): ∀t:List (Option D),l∈Y0 (rpO f t)->l∈Y0 t\/∃k d,k∈Y0 t/\f k=some d/\l∈y9 d
 |[],h=>by erw[rpO,Y0] at h;cases h
 |none::r,h=>by erw[rpO,Y0] at h⊢;exact z2j l r h
 |some d::ds,h=>by
  erw[rpO,Y0] at h⊢
  rcases i3.mp h with h|h
  ·rcases z88 l d h with q|⟨k',d,q1,q2,q3⟩
   ·exact .inl (i5 _ q)
   ·exact .inr ⟨k',d,i5 _ q1,q2,q3⟩
  ·rcases z2j l ds h with q|⟨k',d,q1,q2,q3⟩
   ·exact .inl (c9 _ q)
   ·exact .inr ⟨k',d,c9 _ q1,q2,q3⟩
end
structure Stt where
 σ:List (Option D)
 tm:List (Option D)
 n:Nat
structure Fx where
 A0:Addr->Prop
 H0:Hp
 Z:Addr->Prop
 zA: ∀a,Z a->(∃o,H0 a=some o)/\¬A0 a
 aH: ∀a,A0 a->∃o,H0 a=some o
 n0:Nat
 ρ0:Nat->Addr
noncomputable def KD(K:W.Frag)(H:Hp):Prop:= ∀a o,K.lookup a=some o->H a=none
section
variable(G:Gx)(ρ:Nat->Addr)(H:Hp)
noncomputable def Sl:List (Option D)->List (Option V)->Prop
 |[],vs=>vs=[]
 |none::r,vs=> ∃o q,vs=o::q/\Sl r q
 |some d::r,vs=> ∃v q,vs=some v::q/\RD G ρ H d v/\Sl r q
end
noncomputable def G5(s:Stt):List Nat:=Y0 s.σ++Y0 s.tm
structure MR(G:Gx)(F:Fx)(ρ:Nat->Addr)(H:Hp)(σv tv:List (Option V))(s:Stt):Prop where
 sl:Sl G ρ H s.σ σv
 tm:Sl G ρ H s.tm tv
 inj: ∀i j,i<s.n->j<s.n->ρ i=ρ j->i=j
 dom: ∀l,l<s.n->∃o,H (ρ l)=some o
 lab: ∀l∈G5 s,l<s.n
 own: ∀l∈G5 s,F.A0 (ρ l)\/F.H0 (ρ l)=none
 frm: ∀a o,F.H0 a=some o->(∃o',H a=some o')/\(¬F.A0 a->H a=some o)
 kd:KD G.K H
 frb: ∀l,l<s.n->¬F.Z (ρ l)
 bas:F.n0<=s.n/\∀l,l<F.n0->ρ l=F.ρ0 l
noncomputable def Stt.psh(s:Stt)(t:D):Stt:={s with tm:=some t::s.tm}
noncomputable def Stt.nxt(s:Stt):Stt:={s with n:=s.n+1}
section
variable{G:Gx}{F:Fx}{ρ ρ':Nat->Addr}{H H':Hp}{σv tv:List (Option V)}{s:Stt}{t:D}{v:V}
theorem Sl.stay(ts:V5 H H'): ∀{σ:List (Option D)} {σv:List (Option V)},Sl G ρ H σ σv->(∀l∈Y0 σ,ρ' l=ρ l/\∀o,H (ρ l)=some o->H' (ρ l)=some o)->Sl G ρ' H' σ σv
 |[],_,h,_=>h
 |none::r,_,h,hl=>by
  erw[Sl,Y0] at h hl⊢
  obtain⟨o,q,e,h⟩:=h
  exact⟨o,q,e,Sl.stay ts h hl⟩
 |some d::r,_,h,hl=>by
  erw[Sl,Y0] at h hl⊢
  obtain⟨o,q,e,h1,h⟩:=h
  exact⟨o,q,e,RD.stay ts d o h1 fun l hk=>hl l (i5 _ hk),Sl.stay ts h fun l hk=>hl l (c9 _ hk)⟩
theorem Sl.rp{f:Nat->Option D}(ts:V5 H H'): ∀{σ:List (Option D)} {σv:List (Option V)},Sl G ρ H σ σv->
 (∀l∈Y0 σ,ρ' l=ρ l/\(match f l with|some d=>RD G ρ' H' d (.ref (ρ l))|none=> ∀o,H (ρ l)=some o->H' (ρ l)=some o))->Sl G ρ' H' (rpO f σ) σv
 |[],_,h,_=>h
 |none::r,_,h,hl=>by
  erw[Sl,Y0,rpO] at h hl⊢
  obtain⟨o,q,e,h⟩:=h
  exact⟨o,q,e,Sl.rp ts h hl⟩
 |some d::r,_,h,hl=>by
  erw[Sl,Y0,rpO] at h hl⊢
  obtain⟨o,q,e,h1,h⟩:=h
  exact⟨o,q,e,RD.rp ts d o h1 fun l hk=>hl l (i5 _ hk),Sl.rp ts h fun l hk=>hl l (c9 _ hk)⟩
theorem Sl.get: ∀{σ:List (Option D)} {σv:List (Option V)},Sl G ρ H σ σv->∀(i:Nat) (d:D),σ[i]? =some (some d)->∃v,σv[i]? =some (some v)/\RD G ρ H d v
 |[],_,_,i,d,e=>by simp at e
 |none::r,_,h,i,d,e=>by
  erw[Sl] at h
  obtain⟨o,q,rfl,h⟩:=h
  cases i with
  |zero=>simp at e
  |succ i=>simpa using Sl.get h i d (by simpa using e)
 |some d'::r,_,h,i,d,e=>by
  erw[Sl] at h
  obtain⟨v,q,rfl,h1,h⟩:=h
  cases i with
  |zero=>simp at e;subst e;exact⟨v,rfl,h1⟩
  |succ i=>simpa using Sl.get h i d (by simpa using e)
theorem Sl.length: ∀{σ:List (Option D)} {σv:List (Option V)},Sl G ρ H σ σv->σ.length=σv.length
 |[],_,h=>by erw[Sl] at h;subst h;rfl
 |none::r,_,h=>by
  erw[Sl] at h
  obtain⟨o,q,rfl,h⟩:=h
  simp[Sl.length h]
 |some d'::r,_,h=>by
  erw[Sl] at h
  obtain⟨v,q,rfl,h1,h⟩:=h
  simp[Sl.length h]
theorem Sl.set: ∀{σ:List (Option D)} {σv:List (Option V)} (i:Nat),Sl G ρ H σ σv->RD G ρ H t v->Sl G ρ H (σ.set i (some t)) (σv.set i (some v))
 |[],_,i,h,_=>by erw[Sl] at h;subst h;simp[Sl]
 |none::r,_,i,h,ht=>by
  erw[Sl] at h
  obtain⟨o,q,rfl,h⟩:=h
  cases i with
  |zero=>erw[A7,Sl];exact⟨_,_,rfl,ht,h⟩
  |succ i=>erw[B3,Sl];exact⟨_,_,rfl,Sl.set i h ht⟩
 |some d'::r,_,i,h,ht=>by
  erw[Sl] at h
  obtain⟨v',q,rfl,h1,h⟩:=h
  cases i with
  |zero=>erw[A7,Sl];exact⟨_,_,rfl,ht,h⟩
  |succ i=>erw[B3,Sl];exact⟨_,_,rfl,h1,Sl.set i h ht⟩
theorem Sl.append: ∀{σ σ':List (Option D)} {σv σv':List (Option V)},Sl G ρ H σ σv->Sl G ρ H σ' σv'->Sl G ρ H (σ++σ') (σv++σv')
 |[],_,_,_,h,h'=>by erw[Sl] at h;subst h;exact h'
 |none::r,_,_,_,h,h'=>by
  erw[Sl] at h
  obtain⟨o,q,rfl,h⟩:=h
  erw[r8,Sl];exact⟨_,_,rfl,Sl.append h h'⟩
 |some d'::r,_,_,_,h,h'=>by
  erw[Sl] at h
  obtain⟨v,q,rfl,h1,h⟩:=h
  erw[r8,Sl];exact⟨_,_,rfl,h1,Sl.append h h'⟩
theorem Sl.split: ∀(σv:List (Option V)) {σ:List (Option D)} {tv:List (Option V)},Sl G ρ H σ (σv++tv)->Sl G ρ H (σ.take σv.length) σv/\Sl G ρ H (σ.drop σv.length) tv
 |[],σ,tv,h=>⟨by simp[Sl],by simpa using h⟩
 |o::σv,[],tv,h=>by simp[Sl] at h
 |o::σv,none::r,tv,h=>by
  erw[r8,Sl] at h
  obtain⟨o',q,e,h⟩:=h
  cases e
  obtain⟨h1,h2⟩:=Sl.split σv h
  erw[l8,F3,O1,Sl]
  exact⟨⟨_,_,rfl,h1⟩,h2⟩
 |o::σv,some d::r,tv,h=>by
  erw[r8,Sl] at h
  obtain⟨o',q,e,h0,h⟩:=h
  cases e
  obtain⟨h1,h2⟩:=Sl.split σv h
  erw[l8,F3,O1,Sl]
  exact⟨⟨_,_,rfl,h0,h1⟩,h2⟩
theorem z0z: ∀{σ:List (Option D)} {i:Nat} {d:D},σ[i]? =some (some d)->∀l∈y9 d,l∈Y0 σ
 |[],i,d,e,l,h=>by simp at e
 |none::r,i,d,e,l,h=>by
  erw[Y0]
  cases i with
  |zero=>simp at e
  |succ i=>exact z0z (i:=i) (by simpa using e) l h
 |some d'::r,i,d,e,l,h=>by
  erw[Y0]
  cases i with
  |zero=>simp at e;subst e;exact i5 _ h
  |succ i=>exact c9 _ (z0z (i:=i) (by simpa using e) l h)
theorem z2y: ∀{σ:List (Option D)} {i:Nat} {d:D} (l:Nat),l∈Y0 (σ.set i (some d))->l∈Y0 σ\/l∈y9 d
 |[],i,d,l,h=>by simp[Y0] at h
 |none::r,i,d,l,h=>by
  cases i with
  |zero=>
   erw[A7,Y0] at h⊢
   rcases i3.mp h with h|h
   ·exact .inr h
   ·exact .inl h
  |succ i=>
   erw[B3,Y0] at h⊢
   exact z2y l h
 |some d'::r,i,d,l,h=>by
  cases i with
  |zero=>
   erw[A7,Y0] at h⊢
   rcases i3.mp h with h|h
   ·exact .inr h
   ·exact .inl (c9 _ h)
  |succ i=>
   erw[B3,Y0] at h⊢
   rcases i3.mp h with h|h
   ·exact .inl (i5 _ h)
   ·rcases z2y l h with q|q
    ·exact .inl (c9 _ q)
    ·exact .inr q
theorem W8: ∀(σ σ':List (Option D)),Y0 (σ++σ')=Y0 σ++Y0 σ'
 |[],_=>rfl
 |none::r,σ'=>by erw[r8,Y0,W8 r σ']
 |some d::r,σ'=>by erw[r8,Y0,W8 r σ',r6]
theorem U0: ∀(σ σ':List D),labsL (σ++σ')=labsL σ++labsL σ'
 |[],_=>rfl
 |d::r,σ'=>by erw[r8,labsL,U0 r σ',r6]
theorem labsL_mem: ∀{ds:List D} {d:D},d∈ds->∀l∈y9 d,l∈labsL ds
 |_::ds,d,h,l,hl=>by
  erw[labsL]
  rcases i0.mp h with rfl|h
  ·exact i5 _ hl
  ·exact c9 _ (labsL_mem h l hl)
theorem k5: ∀{ds:List D} {l:Nat},l∈labsL ds->∃d∈ds,l∈y9 d
 |d::ds,l,h=>by
  erw[labsL] at h
  rcases i3.mp h with h|h
  ·exact⟨d,l4 ..,h⟩
  ·obtain⟨x,h1,h2⟩:=k5 h
   exact⟨x,e9 _ h1,h2⟩
theorem RDs.get: ∀{ds:List D} {xs:List V},RDs G ρ H ds xs->∀(i:Nat) (d:D),ds[i]? =some d->∃x,xs[i]? =some x/\RD G ρ H d x
 |[],_,_,i,d,e=>by simp at e
 |d'::r,_,h,i,d,e=>by
  erw[RDs] at h
  obtain⟨x,q,rfl,h1,h2⟩:=h
  cases i with
  |zero=>simp at e;subst e;exact⟨x,rfl,h1⟩
  |succ i=>simpa using RDs.get h2 i d (by simpa using e)
theorem RDs.length: ∀{ds:List D} {xs:List V},RDs G ρ H ds xs->ds.length=xs.length
 |[],_,h=>by erw[RDs] at h;subst h;rfl
 |d'::r,_,h=>by
  erw[RDs] at h
  obtain⟨x,q,rfl,h1,h2⟩:=h
  simp[RDs.length h2]
theorem RDs.append: ∀{ds es:List D} {xs ys:List V},RDs G ρ H ds xs->RDs G ρ H es ys->RDs G ρ H (ds++es) (xs++ys)
 |[],_,_,_,h,h'=>by erw[RDs] at h;subst h;exact h'
 |d'::r,_,_,_,h,h'=>by
  erw[RDs] at h
  obtain⟨x,q,rfl,h1,h2⟩:=h
  erw[r8,RDs]
  exact⟨_,_,rfl,h1,RDs.append h2 h'⟩
theorem RDs.one{d:D}{x:V}(h:RD G ρ H d x):RDs G ρ H [d] [x]:=by erw[RDs];exact⟨_,_,rfl,h,rfl⟩
theorem RDs.take: ∀{ds:List D} {xs:List V} (k:Nat),RDs G ρ H ds xs->RDs G ρ H (ds.take k) (xs.take k)
 |_,_,0,_=>by simp[RDs]
 |[],_,k+1,h=>by erw[RDs] at h;subst h;simp[RDs]
 |d'::r,_,k+1,h=>by
  erw[RDs] at h
  obtain⟨x,q,rfl,h1,h2⟩:=h
  erw[F3,RDs]
  exact⟨_,_,rfl,h1,RDs.take k h2⟩
theorem RDs.drop: ∀{ds:List D} {xs:List V} (k:Nat),RDs G ρ H ds xs->RDs G ρ H (ds.drop k) (xs.drop k)
 |_,_,0,h=>h
 |[],_,k+1,h=>by erw[RDs] at h;subst h;simp[RDs]
 |d'::r,_,k+1,h=>by
  erw[RDs] at h
  obtain⟨x,q,rfl,h1,h2⟩:=h
  erw[O1]
  exact RDs.drop k h2
theorem RDs.set: ∀{ds:List D} {xs:List V} (k:Nat),RDs G ρ H ds xs->RD G ρ H t v->RDs G ρ H (ds.set k t) (xs.set k v)
 |[],_,k,h,_=>by erw[RDs] at h;subst h;simp[RDs]
 |d'::r,_,0,h,ht=>by
  erw[RDs] at h
  obtain⟨x,q,rfl,h1,h2⟩:=h
  erw[A7,RDs];exact⟨_,_,rfl,ht,h2⟩
 |d'::r,_,k+1,h,ht=>by
  erw[RDs] at h
  obtain⟨x,q,rfl,h1,h2⟩:=h
  erw[B3,RDs];exact⟨_,_,rfl,h1,RDs.set k h2 ht⟩
theorem MR.pop{o:Option V}{r:Option D}(M:MR G F ρ H σv (o::tv) {s with tm:=r::s.tm}):MR G F ρ H σv tv s where
 sl:=M.sl
 tm:=by
  have h:=M.tm
  cases r with
  |none=>erw[Sl] at h;obtain⟨_,_,e,h⟩:=h;cases e;exact h
  |some t=>erw[Sl] at h;obtain⟨_,_,e,_,h⟩:=h;cases e;exact h
 inj:=M.inj
 dom:=M.dom
 lab:=fun l h=>M.lab l (by
  rcases i3.mp h with h|h
  ·exact i5 _ h
  ·refine c9 _ ?_
   cases r with
   |none=>exact h
   |some t=>exact c9 _ h)
 own:=fun l h=>M.own l (by
  rcases i3.mp h with h|h
  ·exact i5 _ h
  ·refine c9 _ ?_
   cases r with
   |none=>exact h
   |some t=>exact c9 _ h)
 frm:=M.frm
 kd:=M.kd
 frb:=M.frb
 bas:=M.bas
theorem MR.top(M:MR G F ρ H σv (some v::tv) (s.psh t)):RD G ρ H t v:=by
 have h:=M.tm
 have h:Sl G ρ H (some t::s.tm) (some v::tv):=h
 erw[Sl] at h
 obtain⟨_,_,e,h,_⟩:=h
 cases e
 exact h
theorem MR.topl(M:MR G F ρ H σv tv (s.psh t)): ∀l∈y9 t,l<s.n/\(F.A0 (ρ l)\/F.H0 (ρ l)=none):=fun l h=>
 have m:l∈G5 (s.psh t):=c9 _ (i5 _ h)
 ⟨M.lab l m,M.own l m⟩
theorem MR.same(M:MR G F ρ H σv tv s)(h:z0X H H')(k:KD G.K H'):MR G F ρ H' σv tv s where
 sl:=Sl.stay (V5.of h) M.sl fun l _=>⟨rfl,fun o e=>h _ _ e⟩
 tm:=Sl.stay (V5.of h) M.tm fun l _=>⟨rfl,fun o e=>h _ _ e⟩
 inj:=M.inj
 dom:=fun l hl=>let⟨o,e⟩:=M.dom l hl;⟨o,h _ _ e⟩
 lab:=M.lab
 own:=M.own
 frm:=fun a o e=>let⟨⟨o',e1⟩,e2⟩:=M.frm a o e;⟨⟨o',h _ _ e1⟩,fun n=>h _ _ (e2 n)⟩
 kd:=k
 frb:=M.frb
 bas:=M.bas
theorem RDs.same{ts:List D}{vs:List V}(h:z0X H H')(r:RDs G ρ H ts vs):RDs G ρ H' ts vs:=RDs.stay (V5.of h) ts vs r fun l _=>⟨rfl,fun o e=>h _ _ e⟩
noncomputable def ext(ρ:Nat->Addr)(n:Nat)(p:Addr):Nat->Addr:=fun l=>if l=n then p else ρ l
theorem Q7{n l:Nat}{p:Addr}(h:l<n):ext ρ n p l=ρ l:=by unfold ext;rw[if_neg (by lia)]
theorem U4{n:Nat}{p:Addr}:ext ρ n p n=p:=by unfold ext;rw[if_pos rfl]
theorem MR.new{p:Addr}{o:HO}(M:MR G F ρ H σv tv s)(hp:H p=none)(k:KD G.K (upd H p o)):MR G F (ext ρ s.n p) (upd H p o) σv tv s.nxt where
 sl:=Sl.stay (V5.of (z0X.new o hp)) M.sl fun l hl=>⟨Q7 (M.lab l (i5 _ hl)),fun o e=>z0X.new _ hp _ _ e⟩
 tm:=Sl.stay (V5.of (z0X.new o hp)) M.tm fun l hl=>⟨Q7 (M.lab l (c9 _ hl)),fun o e=>z0X.new _ hp _ _ e⟩
 inj:=fun i j hi hj e=>by
  have hi:i<s.n+1:=hi
  have hj:j<s.n+1:=hj
  have nn: ∀i,i<s.n->ρ i≠p:=fun i h e=>by
   obtain⟨o,q⟩:=M.dom i h
   rw[e,hp] at q;cases q
  by_cases h1:i=s.n
  ·by_cases h2:j=s.n
   ·lia
   ·rw[h1,U4,Q7 (by lia)] at e
    exact absurd e.symm (nn j (by lia))
  ·by_cases h2:j=s.n
   ·rw[h2,U4,Q7 (by lia)] at e
    exact absurd e (nn i (by lia))
   ·rw[Q7 (by lia),Q7 (by lia)] at e
    exact M.inj i j (by lia) (by lia) e
 dom:=fun l hl=>by
  have hl:l<s.n+1:=hl
  by_cases h1:l=s.n
  ·subst h1;rw[U4];exact⟨o,Z8⟩
  ·rw[Q7 (by lia)]
   obtain⟨o',e⟩:=M.dom l (by lia)
   exact⟨o',z0X.new _ hp _ _ e⟩
 lab:=fun l h=>D3 (M.lab l h)
 own:=fun l h=>by rw[Q7 (M.lab l h)];exact M.own l h
 frm:=fun a o e=>let⟨⟨o',e1⟩,e2⟩:=M.frm a o e;⟨⟨o',z0X.new _ hp _ _ e1⟩,fun n=>z0X.new _ hp _ _ (e2 n)⟩
 kd:=k
 frb:=fun l hl=>by
  have hl:l<s.n+1:=hl
  by_cases h1:l=s.n
  ·subst h1;rw[U4]
   intro z
   obtain⟨⟨o,e⟩,_⟩:=F.zA p z
   obtain⟨⟨o',e'⟩,_⟩:=M.frm p o e
   rw[hp] at e';cases e'
  ·rw[Q7 (by lia)]
   exact M.frb l (by lia)
 bas:=⟨S2 M.bas.1,fun l hl=>by rw[Q7 (n9 hl M.bas.1)];exact M.bas.2 l hl⟩
theorem MR.fresh0{p:Addr}(M:MR G F ρ H σv tv s)(hp:H p=none):F.H0 p=none:=by
 cases q:F.H0 p with
 |none=>rfl
 |some o=>
  obtain⟨⟨o',e⟩,_⟩:=M.frm p o q
  rw[hp] at e;cases e
noncomputable def Stt.put(s:Stt)(l:Nat)(d:D):Stt:={s with σ:=rpO (fun k=>if k=l then some d else none) s.σ,tm:=rpO (fun k=>if k=l then some d else none) s.tm}
end
inductive Res(α:Type) where
 |ok (a:α) (s:Stt)|ex (d:D) (s:Stt)|no
noncomputable abbrev M(α:Type):=Stt->Res α
noncomputable def bd{α β:Type}(m:M α)(f:α->M β):M β:=fun s=>match m s with
 | .ok a s'=>f a s'
 | .ex d s'=> .ex d s'
 | .no=> .no
noncomputable def rt{α:Type}(a:α):M α:=fun s=> .ok a s
noncomputable def fl{α:Type}:M α:=fun _=> .no
noncomputable def psh(t:D):M Unit:=fun s=> .ok () (s.psh t)
noncomputable def pop:M D:=fun s=>match s.tm with
 |some t::r=> .ok t {s with tm:=r}
 |_=> .no
structure Fy extends Fx where
 tv0:List (Option V)
 xw:D->Stt->Prop
structure MRL(G:Gx)(F:Fx)(ρ:Nat->Addr)(H:Hp)(σv tv:List (Option V))(s:Stt)(ts:List D)(vs:List V):Prop where
 m:MR G F ρ H σv tv s
 rd:RDs G ρ H ts vs
 lb: ∀l∈labsL ts,l<s.n/\(F.A0 (ρ l)\/F.H0 (ρ l)=none)
section
variable{G:Gx}{F:Fy}{ρ ρ':Nat->Addr}{H H':Hp}{σv tv:List (Option V)}{s:Stt}{t t':D}{v u:V}{ts:List D}{vs:List V}{Q:VK}
theorem MRL.rd1(M:MRL G F.toFx ρ H σv tv s [t] [v]):RD G ρ H t v:=by
 have h:=M.rd
 erw[RDs] at h
 obtain⟨_,_,e,h,_⟩:=h
 cases e;exact h
theorem MRL.rd2(M:MRL G F.toFx ρ H σv tv s [t,t'] [v,u]):RD G ρ H t v/\RD G ρ H t' u:=by
 have h:=M.rd
 erw[RDs] at h
 obtain⟨_,_,e,h,_,_,e',h',_⟩:=h
 cases e;cases e';exact⟨h,h'⟩
theorem MRL.push(M:MRL G F.toFx ρ H σv tv s [t] [v]):MR G F.toFx ρ H σv (some v::tv) (s.psh t):=by
 have hl: ∀l∈y9 t,l<s.n/\(F.A0 (ρ l)\/F.H0 (ρ l)=none):=fun l h=>M.lb l (by erw[labsL,l3];exact h)
 refine⟨M.m.sl, ?_,M.m.inj,M.m.dom,fun l h=> ?_,fun l h=> ?_,M.m.frm,M.m.kd,M.m.frb,M.m.bas⟩
 ·show Sl G ρ H (some t::s.tm) _
  erw[Sl]
  exact⟨v,tv,rfl,M.rd1,M.m.tm⟩
 ·have h:l∈Y0 s.σ++(y9 t++Y0 s.tm):=h
  rcases i3.mp h with h|h
  ·exact M.m.lab l (i5 _ h)
  ·rcases i3.mp h with h|h
   ·exact(hl l h).1
   ·exact M.m.lab l (c9 _ h)
 ·have h:l∈Y0 s.σ++(y9 t++Y0 s.tm):=h
  rcases i3.mp h with h|h
  ·exact M.m.own l (i5 _ h)
  ·rcases i3.mp h with h|h
   ·exact(hl l h).2
   ·exact M.m.own l (c9 _ h)
theorem MRL.down{s':Stt}{r:List (Option D)}(M:MRL G F.toFx ρ H σv (some v::tv) s' ts vs)(e:s'.tm=some t::r):MRL G F.toFx ρ H σv tv {s' with tm:=r} (t::ts) (v::vs):=by
 obtain⟨σ,tm,n⟩:=s'
 have e:tm=some t::r:=e
 subst e
 refine⟨MR.pop (s:=⟨σ,r,n⟩) M.m, ?_,fun l h=> ?_⟩
 ·erw[RDs]
  exact⟨v,vs,rfl,MR.top (s:=⟨σ,r,n⟩) M.m,M.rd⟩
 ·erw[labsL] at h
  rcases i3.mp h with h|h
  ·exact MR.topl (s:=⟨σ,r,n⟩) M.m l h
  ·exact M.lb l h
noncomputable def wM(G:Gx)(F:Fy)(σv tv:List (Option V))(r:Res D)(Q:VK):Prop:=match r with
 | .ok t s'=> ∀ρ' v H',MRL G F.toFx ρ' H' σv tv s' [t] [v]->Q v H'
 | .ex d s'=>F.xw d s'
 | .no=>False
noncomputable def wL(G:Gx)(F:Fy)(σv tv:List (Option V))(r:Res (List D))(Q:List V->Hp->Prop):Prop:=match r with
 | .ok ts s'=> ∀ρ' vs H',MRL G F.toFx ρ' H' σv tv s' ts vs->Q vs H'
 | .ex d s'=>F.xw d s'
 | .no=>False
noncomputable def wB(G:Gx)(F:Fy)(σv tv:List (Option V))(r:Res Bool)(Q:Bool->Hp->Prop):Prop:=match r with
 | .ok b s'=> ∀ρ' H',MR G F.toFx ρ' H' σv tv s'->Q b H'
 | .ex d s'=>F.xw d s'
 | .no=>False
noncomputable def tMv(G:Gx)(F:Fy)(m:M D)(σv tv:List (Option V))(H:Hp)(Q:VK):Prop:=F.tv0<:+tv/\∃ρ s,MR G F.toFx ρ H σv tv s/\wM G F σv tv (m s) Q
noncomputable def tLv(G:Gx)(F:Fy)(m:M (List D))(σv tv:List (Option V))(H:Hp)(Q:List V->Hp->Prop):Prop:=F.tv0<:+tv/\∃ρ s,MR G F.toFx ρ H σv tv s/\wL G F σv tv (m s) Q
noncomputable def tBv(G:Gx)(F:Fy)(m:M Bool)(σv tv:List (Option V))(H:Hp)(Q:Bool->Hp->Prop):Prop:=F.tv0<:+tv/\∃ρ s,MR G F.toFx ρ H σv tv s/\wB G F σv tv (m s) Q
noncomputable def tM(G:Gx)(F:Fy)(m:M D):TE:=fun σv H Q=> ∃tv,tMv G F m σv tv H Q
noncomputable def tML(G:Gx)(F:Fy)(m:M (List D)):TA:=fun σv H Q=> ∃tv,tLv G F m σv tv H Q
noncomputable def tMB(G:Gx)(F:Fy)(m:M Bool):TT:=fun σv H Q=> ∃tv,tBv G F m σv tv H Q
noncomputable def SE(X:Cx)(G:Gx)(F:Fy)(e:Expr)(m:M D):Prop:=PE X e (tM G F m)
noncomputable def SA(X:Cx)(G:Gx)(F:Fy)(es:List Expr)(m:M (List D)):Prop:=PA X es (tML G F m)
noncomputable def SB(X:Cx)(G:Gx)(F:Fy)(e:Expr)(m:M Bool):Prop:=PT X e (tMB G F m)
theorem z9v{o:Option V}(h:F.tv0<:+tv):F.tv0<:+o::tv:=h.trans (List.suffix_cons _ _)
theorem z5C{m:M D}{f:D->M D}(h:tMv G F (bd m f) σv tv H Q):tMv G F m σv tv H (fun v H1=> ∃ρ1 s1 t,MRL G F.toFx ρ1 H1 σv tv s1 [t] [v]/\wM G F σv tv (f t s1) Q):=by
 obtain⟨hs,ρ,s,M,W⟩:=h
 refine⟨hs,ρ,s,M, ?_⟩
 unfold bd at W
 cases e:m s with
 |ok t s1=>rw[e] at W;exact fun ρ1 v H1 M1=>⟨ρ1,s1,t,M1,W⟩
 |ex d s1=>rw[e] at W;exact W
 |no=>rw[e] at W;exact W
noncomputable def Z1(ma mb:M D)(g:D->D->M D):M D:=bd ma fun x=>bd (psh x) fun _=>bd mb fun y=>bd pop fun x'=>g x' y
theorem z6i{ma mb:M D}{g:D->D->M D}(h:tMv G F (Z1 ma mb g) σv tv H Q):
 tMv G F ma σv tv H (fun v H1=>tMv G F mb σv (some v::tv) H1 (fun u H2=> ∃ρ2 s2 t t',MRL G F.toFx ρ2 H2 σv tv s2 [t,t'] [v,u]/\wM G F σv tv (g t t' s2) Q)):=by
 have h':=z5C h
 obtain⟨hs,ρ,s,M,W⟩:=h'
 refine⟨hs,ρ,s,M, ?_⟩
 cases e:ma s with
 |ok t s1=>
  rw[e] at W
  intro ρ1 v H1 M1
  obtain⟨ρ1,s1,t,M1,W⟩:=W ρ1 v H1 M1
  refine⟨z9v hs,ρ1,s1.psh t,M1.push, ?_⟩
  erw[bd,psh] at W
  cases e2:mb (s1.psh t) with
  |ok y s2=>
   rw[e2] at W
   intro ρ2 u H2 M2
   erw[pop] at W
   cases e3:s2.tm with
   |nil=>rw[e3] at W;exact W.elim
   |cons o r=>
    cases o with
    |none=>rw[e3] at W;exact W.elim
    |some t'=>
     rw[e3] at W
     exact⟨ρ2,{s2 with tm:=r},t',y,M2.down e3,W⟩
  |ex d s2=>rw[e2] at W;exact W
  |no=>rw[e2] at W;exact W
 |ex d s1=>rw[e] at W;exact W
 |no=>rw[e] at W;exact W
noncomputable def Y4:List (M D)->M (List D)
 |[]=>rt []
 |m::ms=>bd m fun x=>bd (psh x) fun _=>bd (Y4 ms) fun ys=>bd pop fun x'=>rt (x'::ys)
end
section
variable{X:Cx}{G:Gx}{F:Fy}{e a b c:Expr}{pos:Pos}
theorem Inv.kd{pins:List (Addr×Obj)}{σ:St}{H:Hp}{s:Shared}(I:Inv X pins σ H s):KD X.K H:=fun a o e=>(I.bs a o (I.ok.mod.kin a o e)).2
theorem PE.imp{t t':TE}(hk:X.K=G.K)(h:PE X e t)(hi: ∀σ H Q,t' σ H Q->t σ H (fun v H'=>KD G.K H'->Q v H')):PE X e t':=fun pins s σ H Q I q=>
 thn (h pins s σ H _ I (hi σ H Q q)) fun u s' ⟨v,H',I',r,k⟩=>⟨v,H',I',r,k (hk▸Inv.kd I')⟩
theorem PT.imp{t t':TT}(hk:X.K=G.K)(h:PT X e t)(hi: ∀σ H Q,t' σ H Q->t σ H (fun v H'=>KD G.K H'->Q v H')):PT X e t':=fun pins s σ H Q I q=>
 thn (h pins s σ H _ I (hi σ H Q q)) fun u s' ⟨H',I',k⟩=>⟨H',I',k (hk▸Inv.kd I')⟩
theorem PA.imp{es:List Expr}{t t':TA}(hk:X.K=G.K)(h:PA X es t)(hi: ∀σ H Q,t' σ H Q->t σ H (fun v H'=>KD G.K H'->Q v H')):PA X es t':=fun pos pins s σ H Q I q=>
 thn (h pos pins s σ H _ I (hi σ H Q q)) fun u s' ⟨v,H',I',r,k⟩=>⟨v,H',I',r,k (hk▸Inv.kd I')⟩
noncomputable def z7r(G:Gx)(F:Fy)(r:R2)(g:D->D->M D):Prop:= ∀ρ s t t' v u H σv tv Q,MRL G F.toFx ρ H σv tv s [t,t'] [v,u]->wM G F σv tv (g t t' s) Q->r v u H (fun w H'=>KD G.K H'->Q w H')
noncomputable def z1e(G:Gx)(F:Fy)(r:R2)(g:D->D->M D):Prop:= ∀ρ s t t' v u H σv tv Q,MRL G F.toFx ρ H σv tv s [t,t'] [v,u]->wM G F σv tv (g t t' s) Q->r v u H Q
noncomputable def zgU(G:Gx)(F:Fy)(r:V->Hp->VK->Prop)(g:D->M D):Prop:= ∀ρ s t v H σv tv Q,MRL G F.toFx ρ H σv tv s [t] [v]->wM G F σv tv (g t s) Q->r v H (fun w H'=>KD G.K H'->Q w H')
noncomputable def X8(G:Gx)(F:Fy)(r:List V->Hp->VK->Prop)(g:List D->M D):Prop:= ∀ρ s ts vs H σv tv Q,MRL G F.toFx ρ H σv tv s ts vs->wM G F σv tv (g ts s) Q->r vs H (fun w H'=>KD G.K H'->Q w H')
theorem z5D{op:Operator}{r:R2}{ma mb:M D}{g:D->D->M D}(hk:X.K=G.K)(ho:OpR X (binaryOp op) r)(hg:z7r G F r g)(ha:SE X G F a ma)(hb:SE X G F b mb):SE X G F (.BinOp a op b pos) (Z1 ma mb g):=by
 refine PE.imp hk (zgt ho ha hb) fun σ H Q ⟨tv,h⟩=>⟨tv, ?_⟩
 obtain⟨hs,ρ,s,M,W⟩:=z6i h
 refine⟨hs,ρ,s,M, ?_⟩
 cases e:ma s with
 |ok t s1=>
  rw[e] at W
  intro ρ1 v H1 M1
  refine⟨some v::tv, ?_⟩
  obtain⟨hs2,ρ2,s2,M2,W2⟩:=W ρ1 v H1 M1
  refine⟨hs2,ρ2,s2,M2, ?_⟩
  cases e2:mb s2 with
  |ok t2 s3=>
   rw[e2] at W2
   intro ρ3 u H3 M3
   obtain⟨ρ4,s4,x,y,M4,W4⟩:=W2 ρ3 u H3 M3
   exact hg _ _ _ _ _ _ _ _ _ _ M4 W4
  |ex d s3=>rw[e2] at W2;exact W2
  |no=>rw[e2] at W2;exact W2
 |ex d s1=>rw[e] at W;exact W
 |no=>rw[e] at W;exact W
theorem wM.mono{σv tv:List (Option V)}{r:Res D}{Q Q':VK}(h:wM G F σv tv r Q)(k: ∀v H,Q v H->Q' v H):wM G F σv tv r Q':=by
 cases r with
 |ok t s=>exact fun ρ v H M=>k _ _ (h ρ v H M)
 |ex d s=>exact h
 |no=>exact h
theorem tMv.mono{m:M D}{σv tv:List (Option V)}{H:Hp}{Q Q':VK}(h:tMv G F m σv tv H Q)(k: ∀v H,Q v H->Q' v H):tMv G F m σv tv H Q':=by
 obtain⟨hs,ρ,s,M,W⟩:=h
 exact⟨hs,ρ,s,M,W.mono k⟩
theorem z89{ma mb:M D}{g:D->D->M D}{R:V->V->Hp->VK->Prop}{σv:St}{H:Hp}{Q:VK}(hg:z7r G F R g)(h:tM G F (Z1 ma mb g) σv H Q):
 tM G F ma σv H fun x H1=>tM G F mb σv H1 fun y H2=>R x y H2 fun w H'=>KD G.K H'->Q w H':=by
 obtain⟨tv,h⟩:=h
 exact⟨tv,(z6i h).mono fun v H1 h1=>⟨_,h1.mono fun u H2 ⟨ρ,s,t,t',M,W⟩=>hg _ _ _ _ _ _ _ _ _ _ M W⟩⟩
theorem zea{ma:M D}{g:D->M D}{R:V->Hp->VK->Prop}{σv:St}{H:Hp}{Q:VK}(hg:zgU G F R g)(h:tM G F (bd ma g) σv H Q):
 tM G F ma σv H fun x H1=>R x H1 fun w H'=>KD G.K H'->Q w H':=by
 obtain⟨tv,h⟩:=h
 exact⟨tv,(z5C h).mono fun v H1 ⟨ρ,s,t,M,W⟩=>hg _ _ _ _ _ _ _ _ M W⟩
theorem zgV{op:UnaryOp}{r:V->Hp->VK->Prop}{ma:M D}{g:D->M D}(hk:X.K=G.K)(ho:UnR X (unaryOp op) r)(hg:zgU G F r g)(ha:SE X G F a ma):SE X G F (.UnaryOp op a pos) (bd ma g):=
 PE.imp hk (zgu ho ha) fun _ _ _ h=>zea hg h
theorem z6j{ma mb:M D}{g:D->D->M D}{R:V->V->Hp->VK->Prop}{σv:St}{H:Hp}{Q:VK}(hg:z1e G F R g)(h:tM G F (Z1 ma mb g) σv H Q):
 tM G F ma σv H fun x H1=>tM G F mb σv H1 fun y H2=>R x y H2 Q:=by
 obtain⟨tv,h⟩:=h
 exact⟨tv,(z6i h).mono fun v H1 h1=>⟨_,h1.mono fun u H2 ⟨ρ,s,t,t',M,W⟩=>hg _ _ _ _ _ _ _ _ _ _ M W⟩⟩
theorem PE.imp0{t t':TE}(h:PE X e t)(hi: ∀σ H Q,t' σ H Q->t σ H Q):PE X e t':=fun pins s σ H Q I q=>h pins s σ H _ I (hi σ H Q q)
theorem PT.imp0{t t':TT}(h:PT X e t)(hi: ∀σ H Q,t' σ H Q->t σ H Q):PT X e t':=fun pins s σ H Q I q=>h pins s σ H _ I (hi σ H Q q)
theorem zc9{op:CmpOp}{r:R2}{ma mb:M D}{g:D->D->M D}(ho:OpR X (compareOp op) r)(hg:z1e G F r g)(ha:SE X G F a ma)(hb:SE X G F b mb)(hm:behindInMarks op b=false):SE X G F (.Compare a [op] [b] pos) (Z1 ma mb g):=
 PE.imp0 (zbJ ho ha hb hm) fun _ _ _ h=>z6j hg h
theorem zgW{r:R2}{ma mb:M D}{g:D->D->M D}(hk:X.K=G.K)(ho:IxR X r)(hg:z7r G F r g)(ha:SE X G F a ma)(hb:SE X G F b mb)(hs:z0v b):SE X G F (.Subscript a b pos) (Z1 ma mb g):=
 PE.imp hk (zgG ho ha hb hs) fun _ _ _ h=>z89 hg h
theorem zeb(hk:X.K=G.K):SA X G F [] (Y4 []):=by
 refine PA.imp hk z6b fun σ H Q ⟨tv,hs,ρ,s,M,W⟩ _=>W ρ [] H ⟨M,rfl,fun l h=>by simp[labsL] at h⟩
noncomputable def nst:Expr->Bool
 | .Starred _ _=>false
 |_=>true
theorem z8a{es:List Expr}{env:Env}(h:nst e=true):starEach (e::es) env=(false,eval e env)::starEach es env:=by
 cases e<;>first|rfl|exact P3 h
theorem zca{es:List Expr}{m:M D}{ms:List (M D)}(hk:X.K=G.K)(ha:SE X G F e m)(hr:SA X G F es (Y4 ms))(hs:nst e=true:=by rfl):SA X G F (e::es) (Y4 (m::ms)):=by
 refine PA.imp hk (z1b ha hr (z8a hs)) fun σ H Q ⟨tv,hs,ρ,s,M,W⟩=>⟨tv,hs,ρ,s,M, ?_⟩
 unfold Y4 at W
 erw[bd,psh] at W
 cases e:m s with
 |ok t s1=>
  rw[e] at W
  intro ρ1 v H1 M1
  refine⟨some v::tv,z9v hs,ρ1,s1.psh t,M1.push, ?_⟩
  dsimp only at W
  cases e2:Y4 ms (s1.psh t) with
  |ok ys s2=>
   rw[e2] at W
   intro ρ2 us H2 M2 _
   erw[pop,rt] at W
   cases e3:s2.tm with
   |nil=>rw[e3] at W;exact W.elim
   |cons o r=>
    cases o with
    |none=>rw[e3] at W;exact W.elim
    |some t'=>
     rw[e3] at W
     exact W ρ2 (v::us) H2 (M2.down e3)
  |ex d s2=>rw[e2] at W;exact W
  |no=>rw[e2] at W;exact W
 |ex d s1=>rw[e] at W;exact W
 |no=>rw[e] at W;exact W
noncomputable def mCB(ms:List (M D))(g:List D->M D):M D:=bd (Y4 ms) g
theorem z2k{ma:M (List D)}{g:List D->M D}{R:List V->Hp->VK->Prop}{σv:St}{H:Hp}{Q:VK}(hg:X8 G F R g)(h:tM G F (bd ma g) σv H Q):
 tML G F ma σv H fun xs H1=>R xs H1 fun w H'=>KD G.K H'->Q w H':=by
 obtain⟨tv,hs,ρ,s,M,W⟩:=h
 refine⟨tv,hs,ρ,s,M, ?_⟩
 unfold bd at W
 cases e:ma s with
 |ok ts s1=>rw[e] at W;exact fun ρ1 vs H1 M1=>hg _ _ _ _ _ _ _ _ M1 W
 |ex d s1=>rw[e] at W;exact W
 |no=>rw[e] at W;exact W
theorem z9W{x:Str}{p:Pos}{es:List Expr}{ms:List (M D)}{g:List D->M D}{id:String}{r:List V->Hp->VK->Prop}(hk:X.K=G.K)(hc:CallR X (.builtin id) r)(hg:X8 G F r g)(hgl:Gl X x)(hm:X.mg x=none)(hv:bootBuiltins x=some (.builtin id))(ha:SA X G F (e::es) (Y4 ms))(hn:x≠ "__name__" :=by decide)(hdb:(x==("__debug__" :Str))=false:=by decide)
 (he:starEach (e::es) X.env=(false,eval e X.env)::starEach es X.env:=by rfl) (hpl:(backTo pos (starEach es X.env)).any (·.1)=false:=by rfl):SE X G F (.Call (.Name x p) (e::es) [] pos) (mCB ms g):=
 PE.imp hk (z3P hc hgl hm hv ha hn hdb he hpl) fun _ _ _ h=>z2k hg h
theorem z8b{x:Str}{p:Pos}{es:List Expr}{ms:List (M D)}{g:List D->M D}{T:String}{r:List V->Hp->VK->Prop}(hk:X.K=G.K)(hc:CallR X (.type T) r)(hg:X8 G F r g)(hgl:Gl X x)(hm:X.mg x=none)(hv:bootBuiltins x=some (.type T))(ha:SA X G F (e::es) (Y4 ms))(hn:x≠ "__name__" :=by decide)(hdb:(x==("__debug__" :Str))=false:=by decide)
 (he:starEach (e::es) X.env=(false,eval e X.env)::starEach es X.env:=by rfl) (hpl:(backTo pos (starEach es X.env)).any (·.1)=false:=by rfl):SE X G F (.Call (.Name x p) (e::es) [] pos) (mCB ms g):=
 PE.imp hk (z7L hc hgl hm hv ha hn hdb he hpl) fun _ _ _ h=>z2k hg h
noncomputable def y0(i:Nat):M D:=fun s=>match s.σ[i]? with
 |some (some t)=> .ok t s
 |_=> .no
theorem se_var(i:Nat){x:Str}(hk:X.K=G.K)(h:PE X (.Name x pos) (zg4 i)):SE X G F (.Name x pos) (y0 i):=by
 refine PE.imp hk h fun σ H Q ⟨tv,hs,ρ,s,M,W⟩=> ?_
 unfold y0 at W
 cases e:s.σ[i]? with
 |none=>rw[e] at W;exact W.elim
 |some o=>
  cases o with
  |none=>rw[e] at W;exact W.elim
  |some t=>
   rw[e] at W
   obtain⟨v,h1,h2⟩:=M.sl.get i t e
   refine⟨v,h1,fun _=>W ρ v H ⟨M,RDs.one h2,fun l hl=> ?_⟩⟩
   erw[labsL,l3] at hl
   have:=z0z e l hl
   exact⟨M.lab l (i5 _ this),M.own l (i5 _ this)⟩
noncomputable def cV:D->Option V
 | .non=>some .non| .bool b=>some (.bl b)| .int i=>some (.int i)| .str x=>some (.str x)|_=>none
theorem z73{d:D}{v:V}{ρ:Nat->Addr}{H:Hp}(h:cV d=some v):RD G ρ H d v/\y9 d=[]:=by
 cases d<;>erw[cV,Option.some.injEq] at h<;>first|(subst h;exact⟨by erw[RD],by erw[y9]⟩)|cases h
noncomputable def mC(d:D):M D:=rt d
theorem se_c{d:D}{v:V}(hk:X.K=G.K)(h:PE X e (tC v))(hd:cV d=some v:=by rfl):SE X G F e (mC d):=by
 refine PE.imp hk h fun σ H Q ⟨tv,hs,ρ,s,M,W⟩ _=>W ρ v H ⟨M,RDs.one (z73 hd).1,fun l hl=> ?_⟩
 erw[labsL,(z73 (G:=G) (ρ:=ρ) (H:=H) hd).2] at hl
 cases hl
theorem wM.out{σv tv:List (Option V)}{s:Stt}{t:D}{v:V}{ρ:Nat->Addr}{H:Hp}{Q:VK}(W:wM G F σv tv (.ok t s) Q)(M:MR G F.toFx ρ H σv tv s)(h:RD G ρ H t v)(hl: ∀l∈y9 t,l<s.n/\(F.A0 (ρ l)\/F.H0 (ρ l)=none)):Q v H:=
 W ρ v H ⟨M,RDs.one h,fun l q=>hl l (by simpa only[labsL,l3] using q)⟩
theorem wM.flat{σv tv:List (Option V)}{s:Stt}{t:D}{v:V}{ρ:Nat->Addr}{H:Hp}{Q:VK}(W:wM G F σv tv (.ok t s) Q)(M:MR G F.toFx ρ H σv tv s)(h:cV t=some v):Q v H:=
 W.out M (z73 h).1 fun l q=>by rw[(z73 (G:=G) (ρ:=ρ) (H:=H) h).2] at q;cases q
end
mutual
noncomputable def er:D->PyData
 | .non=> .none| .bool b=> .bool b| .int i=> .int i| .str x=> .str x
 | .tup ds=> .tuple (erL ds)
 | .ro ds=> .list (erL ds)
 | .lst _ ds=> .list (erL ds)
 | .dct _ _ _=> .none
 | .obj _ _ _ _=> .none
 | .exc _=> .none| .fn _=> .none| .fdc _ _=> .none
noncomputable def erL:List D->List PyData
 |[]=>[]
 |d::ds=>er d::erL ds
end
mutual
noncomputable def Q4:D->Bool
 | .non=>true| .bool _=>true| .int _=>true| .str _=>true
 | .tup ds=>plainL ds
 | .ro ds=>plainL ds
 | .lst _ ds=>plainL ds
 | .dct _ _ _=>false
 | .obj _ _ _ _=>false
 | .exc _=>false| .fn _=>false| .fdc _ _=>false
noncomputable def plainL:List D->Bool
 |[]=>true
 |d::ds=>Q4 d&&plainL ds
end
noncomputable def z7s:D->Option (List D)
 | .tup ds=>some ds| .ro ds=>some ds| .lst _ ds=>some ds|_=>none
noncomputable def z4S:D->Option (List D)
 | .ro ds=>some ds| .lst _ ds=>some ds|_=>none
section
variable{G:Gx}{F:Fy}{ρ:Nat->Addr}{H H':Hp}{σv tv:List (Option V)}{s:Stt}{t t':D}{v u:V}{ts ds:List D}{vs xs:List V}{Q:VK}
mutual
theorem RD.dp: ∀(t:D) (v:V),RD G ρ H t v->Q4 t=true->Dp G.K H (er t) v
 | .non,v,h,_=>by erw[RD,er,Dp] at h⊢;exact h
 | .bool b,v,h,_=>by erw[RD,er,Dp] at h⊢;exact h
 | .int b,v,h,_=>by erw[RD,er,Dp] at h⊢;exact h
 | .str b,v,h,_=>by erw[RD,er,Dp] at h⊢;exact h
 | .tup ds,v,h,p=>by
  erw[RD,er,Dp,Q4] at h p⊢
  obtain⟨a,xs,e,s,r⟩:=h
  exact⟨a,xs,e,SqT.of s,RDs.dp ds xs r p⟩
 | .ro ds,v,h,p=>by
  erw[RD,er,Dp,Q4] at h p⊢
  obtain⟨a,xs,e,s,r⟩:=h
  exact⟨a,xs,e,s.sq,RDs.dp ds xs r p⟩
 | .lst l ds,v,h,p=>by
  erw[RD,er,Dp,Q4] at h p⊢
  obtain⟨e,xs,s,r⟩:=h
  exact⟨_,xs,e,SqL.of s,RDs.dp ds xs r p⟩
 | .dct l ks vs,v,h,p=>by erw[Q4] at p;cases p
 | .fdc ks vs,v,h,p=>by erw[Q4] at p;cases p
 | .obj l c ns vs,v,h,p=>by erw[Q4] at p;cases p
 | .exc c,v,h,p=>by erw[Q4] at p;cases p
 | .fn c,v,h,p=>by erw[Q4] at p;cases p
theorem RDs.dp: ∀(t:List D) (v:List V),RDs G ρ H t v->plainL t=true->DpAll G.K H (erL t) v
 |[],v,h,_=>by erw[RDs,erL,DpAll] at h⊢;exact h
 |d::ds,v,h,p=>by
  erw[RDs,erL,DpAll,plainL,l0] at h p⊢
  obtain⟨x,r,e,h1,h2⟩:=h
  exact⟨x,r,e,RD.dp d x h1 p.1,RDs.dp ds r h2 p.2⟩
end
theorem RD.seq(h:RD G ρ H t v)(e:z7s t=some ds): ∃a xs,v= .ref a/\(SqL G.K H a xs\/SqT G.K H a xs)/\RDs G ρ H ds xs/\∀l∈labsL ds,l∈y9 t:=by
 cases t<;>erw[z7s,Option.some.injEq] at e<;>try cases e
 ·erw[RD] at h
  obtain⟨a,xs,e,s,r⟩:=h
  exact⟨a,xs,e, .inr (SqT.of s),r,fun l hl=>by erw[y9];exact hl⟩
 ·erw[RD] at h
  obtain⟨a,xs,e,s,r⟩:=h
  exact⟨a,xs,e, .inl s.sq,r,fun l hl=>by erw[y9];exact hl⟩
 ·erw[RD] at h
  obtain⟨e,xs,s,r⟩:=h
  exact⟨_,xs,e, .inl (SqL.of s),r,fun l hl=>by erw[y9];exact e9 _ hl⟩
theorem RD.lstq(h:RD G ρ H t v)(e:z4S t=some ds): ∃a xs,v= .ref a/\SqL G.K H a xs/\RDs G ρ H ds xs/\∀l∈labsL ds,l∈y9 t:=by
 cases t<;>erw[z4S,Option.some.injEq] at e<;>try cases e
 ·erw[RD] at h
  obtain⟨a,xs,e,s,r⟩:=h
  exact⟨a,xs,e,s.sq,r,fun l hl=>by erw[y9];exact hl⟩
 ·erw[RD] at h
  obtain⟨e,xs,s,r⟩:=h
  exact⟨_,xs,e,SqL.of s,r,fun l hl=>by erw[y9];exact e9 _ hl⟩
theorem RD.tupx(h:RD G ρ H (.tup ds) v): ∃a xs,v= .ref a/\H a=some (.tup xs)/\RDs G ρ H ds xs:=by
 erw[RD] at h;exact h
theorem RD.tupq(h:RD G ρ H (.tup ds) v): ∃a xs,v= .ref a/\SqT G.K H a xs/\RDs G ρ H ds xs:=by
 obtain⟨a,xs,e,s,r⟩:=h.tupx
 exact⟨a,xs,e,SqT.of s,r⟩
theorem RD.seqx(h:RD G ρ H t v)(e:z7s t=some ds): ∃a xs,v= .ref a/\(SqL G.K H a xs\/H a=some (.tup xs))/\RDs G ρ H ds xs/\∀l∈labsL ds,l∈y9 t:=by
 cases t<;>erw[z7s,Option.some.injEq] at e<;>try cases e
 ·erw[RD] at h
  obtain⟨a,xs,e,s,r⟩:=h
  exact⟨a,xs,e, .inr s,r,fun l hl=>by erw[y9];exact hl⟩
 ·erw[RD] at h
  obtain⟨a,xs,e,s,r⟩:=h
  exact⟨a,xs,e, .inl s.sq,r,fun l hl=>by erw[y9];exact hl⟩
 ·erw[RD] at h
  obtain⟨e,xs,s,r⟩:=h
  exact⟨_,xs,e, .inl (SqL.of s),r,fun l hl=>by erw[y9];exact e9 _ hl⟩
theorem MRL.lb1(M:MRL G F.toFx ρ H σv tv s [t] [v]): ∀l∈y9 t,l<s.n/\(F.A0 (ρ l)\/F.H0 (ρ l)=none):=fun l h=>M.lb l (by erw[labsL,l3];exact h)
theorem MRL.lb2(M:MRL G F.toFx ρ H σv tv s [t,t'] [v,u]):(∀l∈y9 t,l<s.n/\(F.A0 (ρ l)\/F.H0 (ρ l)=none))/\(∀l∈y9 t',l<s.n/\(F.A0 (ρ l)\/F.H0 (ρ l)=none)):=
 ⟨fun l h=>M.lb l (by erw[labsL,l3];exact i5 _ h),fun l h=>M.lb l (by erw[labsL,l3];exact c9 _ h)⟩
noncomputable abbrev LB(F:Fx)(ρ:Nat->Addr)(n:Nat)(ls:List Nat):Prop:= ∀l∈ls,l<n/\(F.A0 (ρ l)\/F.H0 (ρ l)=none)
theorem z3X(W:wM G F σv tv (.ok (.tup ds) s) Q)(M:MR G F.toFx ρ H σv tv s)(r:RDs G ρ H ds xs)(lb:LB F.toFx ρ s.n (labsL ds)):z9U G.K H xs (fun w H'=>KD G.K H'->Q w H'):=by
 refine z9U.intro fun p H' sq sm k=> ?_
 exact W.out (M.same sm k) (by erw[RD];exact⟨p,xs,rfl,sq,r.same sm⟩) (by erw[y9];exact lb)
theorem z8c{p:Addr}(W:wM G F σv tv (.ok (.tup ds) s) Q)(M:MR G F.toFx ρ H σv tv s)(r:RDs G ρ H ds xs)(lb:LB F.toFx ρ s.n (labsL ds))(hp:H p=none)(k:KD G.K (upd H p (.tup xs))):Q (.ref p) (upd H p (.tup xs)):=by
 have sm:=z0X.new (.tup xs) hp
 exact W.out (M.same sm k) (by erw[RD];exact⟨p,xs,rfl,Z8,r.same sm⟩) (by erw[y9];exact lb)
theorem RDs.ext{p:Addr}{o:HO}(M:MR G F.toFx ρ H σv tv s)(r:RDs G ρ H ds xs)(lb:LB F.toFx ρ s.n (labsL ds))(hp:H p=none):RDs G (ext ρ s.n p) (upd H p o) ds xs:=
 RDs.stay (V5.of (z0X.new o hp)) ds xs r fun l hl=>⟨Q7 (lb l hl).1,fun o e=>z0X.new _ hp _ _ e⟩
theorem z1f{p:Addr}(W:wM G F σv tv (.ok (.lst s.n ds) s.nxt) Q)(M:MR G F.toFx ρ H σv tv s)(r:RDs G ρ H ds xs)(lb:LB F.toFx ρ s.n (labsL ds))(hp:H p=none)(k:KD G.K (upd H p (.lst xs))):Q (.ref p) (upd H p (.lst xs)):=by
 refine W.out (M.new hp k) ?_ fun l hl=> ?_
 ·erw[RD]
  rw[U4]
  exact⟨rfl,xs,Z8,RDs.ext M r lb hp⟩
 ·erw[y9] at hl
  rcases i0.mp hl with q|q
  ·rw[q]
   exact⟨B6 _,by rw[U4];exact .inr (M.fresh0 hp)⟩
  ·obtain⟨h1,h2⟩:=lb l q
   exact⟨D3 h1,by rw[Q7 h1];exact h2⟩
end
noncomputable def zb1(ds:List D):M D:=fun s=> .ok (.lst s.n ds) s.nxt
noncomputable def J1:D->D->M D
 | .int i, .int j=>rt (.int (i+j))
 | .tup a, .tup b=>if a.length+b.length<=sizeLine then rt (.tup (a++b)) else fl
 | .lst _ a, .lst _ b=>if a.length+b.length<=sizeLine then zb1 (a++b) else fl
 | .str a, .str b=>if a.length+b.length<=sizeLine then rt (.str (a++b)) else fl
 |_,_=>fl
noncomputable def z9X:D->D->M D
 | .int i, .int j=>rt (.int (i -j))
 |_,_=>fl
instance(i j:Int):Decidable (z9u i j):=by unfold z9u;infer_instance
instance(i j:Int):Decidable (zd7 i j):=by unfold zd7;infer_instance
instance(i j:Int):Decidable (zd8 i j):=by unfold zd8;infer_instance
noncomputable def z4z:D->D->M D
 | .int i, .int j=>if z9u i j then rt (.int (i*j)) else fl
 | .lst _ a, .int k=>if -(2^63)<=k/\k<2^63/\a.length*k.toNat<=sizeLine then zb1 (L3 (l5 k.toNat a)) else fl
 | .tup a, .int k=>if 0<a.length/\2<=k/\k<2^63/\a.length*k.toNat<=sizeLine then rt (.tup (L3 (l5 k.toNat a))) else fl
 |_,_=>fl
noncomputable def z4T:D->D->M D
 | .int i, .int j=>if zd7 i j then rt (.int (i/j)) else fl
 |_,_=>fl
noncomputable def z3u:D->D->M D
 | .int i, .int j=>if 0<j then rt (.int (i %j)) else fl
 |_,_=>fl
noncomputable def z9w:D->D->M D
 | .int i, .int j=>if zd8 i j then rt (.int (i^j.toNat)) else fl
 |_,_=>fl
noncomputable def ltD:D->D->M D
 | .int i, .int j=>rt (.bool (decide (i<j)))
 |_,_=>fl
noncomputable def leD:D->D->M D
 | .int i, .int j=>rt (.bool (decide (i<=j)))
 |_,_=>fl
noncomputable def gtD:D->D->M D
 | .int i, .int j=>rt (.bool (decide (j<i)))
 |_,_=>fl
noncomputable def geD:D->D->M D
 | .int i, .int j=>rt (.bool (decide (j<=i)))
 |_,_=>fl
noncomputable def eqC(t t':D):Bool:=Q4 t&&Q4 t'&&(er t).canLay0&&(er t').canLay0&&decide (min (er t).depth (er t').depth<=60)
noncomputable def eqD(t t':D):M D:=if eqC t t'=true then rt (.bool (PyData.eqv (er t) (er t'))) else fl
noncomputable def neD(t t':D):M D:=if eqC t t'=true then rt (.bool (!PyData.eqv (er t) (er t'))) else fl
noncomputable def inC(t:D)(ds:List D):Bool:=Q4 t&&plainL ds&&(er t).canLay0&&PyData.canLayAll0 (erL ds)&&decide (min (PyData.depthAll (erL ds)) (er t).depth<=60)
noncomputable def z9x(t t':D):M D:=match z7s t' with
 |some ds=>if inC t ds=true then rt (.bool (!(erL ds).any fun y=>PyData.eqv y (er t))) else fl
 |none=>fl
noncomputable def zda:Option D->M D
 |some d=>rt d
 |none=>fl
noncomputable def ixG:Option (List D)->D->M D
 |some ds, .int i=>zda (atI ds i)
 |_,_=>fl
noncomputable def ixD(t t':D):M D:=ixG (z7s t) t'
noncomputable def z6k:D->M D
 | .int i=>rt (.int (-i))
 |_=>fl
section
variable{G:Gx}{F:Fy}
theorem wfl{σv tv:List (Option V)}{s:Stt}{Q:VK}{A:Prop}(h:wM G F σv tv ((fl:M D) s) Q):A:=False.elim h
theorem z3b{ρ:Nat->Addr}{H:Hp}{σv tv:List (Option V)}{s:Stt}{i j:Int}{v u:V}(M:MRL G F.toFx ρ H σv tv s [.int i, .int j] [v,u]):v= .int i/\u= .int j:=by
 obtain⟨h1,h2⟩:=M.rd2
 erw[RD] at h1 h2
 exact⟨h1,h2⟩
theorem zb2:z7r G F (fun x y H Q=>rI0 (fun i j=> .int (i+j)) x y H Q\/z84 G.K x y H Q\/zdO x y H Q\/∃i j,x= .str i/\y= .str j/\i.length+j.length<=sizeLine/\Q (.str (i++j)) H) J1:=by
 intro ρ s t t' v u H σv tv Q M W
 unfold J1 at W
 split at W
 ·obtain⟨rfl,rfl⟩:=z3b M
  exact .inl ⟨_,_,rfl,rfl,fun _=>W.flat M.m rfl⟩
 ·split at W
  ·rename_i a b hz
   obtain⟨h1,h2⟩:=M.rd2
   obtain⟨l1,l2⟩:=M.lb2
   obtain⟨p,xs,rfl,s1,r1⟩:=h1.tupx
   obtain⟨q,ys,rfl,s2,r2⟩:=h2.tupx
   refine .inr (.inl ⟨p,q,xs,ys,rfl,rfl,s1,s2,by rw[<-r1.length,<-r2.length];exact hz,z3X W M.m (r1.append r2) ?_⟩)
   rw[U0]
   intro l hl
   rcases i3.mp hl with q|q
   ·exact l1 l (by simpa only[y9] using q)
   ·exact l2 l (by simpa only[y9] using q)
  ·exact wfl W
 ·split at W
  ·rename_i la a lb b hz
   obtain⟨h1,h2⟩:=M.rd2
   obtain⟨l1,l2⟩:=M.lb2
   erw[RD] at h1 h2
   obtain⟨rfl,xs,s1,r1⟩:=h1
   obtain⟨rfl,ys,s2,r2⟩:=h2
   refine .inr (.inr (.inl ⟨_,_,xs,ys,rfl,rfl,s1,s2,by rw[<-r1.length,<-r2.length];exact hz,fun p hp k=>z1f W M.m (r1.append r2) ?_ hp k⟩))
   rw[U0]
   intro l hl
   rcases i3.mp hl with q|q
   ·exact l1 l (by erw[y9];exact e9 _ q)
   ·exact l2 l (by erw[y9];exact e9 _ q)
  ·exact wfl W
 ·split at W
  ·rename_i a b hz
   obtain⟨h1,h2⟩:=M.rd2
   erw[RD] at h1 h2
   subst h1 h2
   exact .inr (.inr (.inr ⟨_,_,rfl,rfl,hz,fun _=>W.flat M.m rfl⟩))
  ·exact wfl W
 ·exact wfl W
theorem zec:z7r G F (rI0 fun i j=> .int (i -j)) z9X:=by
 intro ρ s t t' v u H σv tv Q M W
 unfold z9X at W
 split at W
 ·obtain⟨rfl,rfl⟩:=z3b M
  exact⟨_,_,rfl,rfl,fun _=>W.flat M.m rfl⟩
 ·exact wfl W
theorem zcb:z7r G F (rI zd7 fun i j=> .int (i/j)) z4T:=by
 intro ρ s t t' v u H σv tv Q M W
 unfold z4T at W
 split at W
 ·split at W
  ·rename_i hc
   obtain⟨rfl,rfl⟩:=z3b M
   exact⟨_,_,rfl,rfl,hc,fun _=>W.flat M.m rfl⟩
  ·exact wfl W
 ·exact wfl W
theorem zed:z7r G F (rI (fun _ j=>0<j) fun i j=> .int (i %j)) z3u:=by
 intro ρ s t t' v u H σv tv Q M W
 unfold z3u at W
 split at W
 ·split at W
  ·rename_i hc
   obtain⟨rfl,rfl⟩:=z3b M
   exact⟨_,_,rfl,rfl,hc,fun _=>W.flat M.m rfl⟩
  ·exact wfl W
 ·exact wfl W
theorem zee:z7r G F (rI zd8 fun i j=> .int (i^j.toNat)) z9w:=by
 intro ρ s t t' v u H σv tv Q M W
 unfold z9w at W
 split at W
 ·split at W
  ·rename_i hc
   obtain⟨rfl,rfl⟩:=z3b M
   exact⟨_,_,rfl,rfl,hc,fun _=>W.flat M.m rfl⟩
  ·exact wfl W
 ·exact wfl W
theorem zgX:z1e G F (rI0 fun i j=> .bl (decide (i<j))) ltD:=by
 intro ρ s t t' v u H σv tv Q M W
 unfold ltD at W
 split at W
 ·obtain⟨rfl,rfl⟩:=z3b M
  exact⟨_,_,rfl,rfl,W.flat M.m rfl⟩
 ·exact wfl W
theorem zgY:z1e G F (rI0 fun i j=> .bl (decide (i<=j))) leD:=by
 intro ρ s t t' v u H σv tv Q M W
 unfold leD at W
 split at W
 ·obtain⟨rfl,rfl⟩:=z3b M
  exact⟨_,_,rfl,rfl,W.flat M.m rfl⟩
 ·exact wfl W
theorem zgZ:z1e G F (rI0 fun i j=> .bl (decide (j<i))) gtD:=by
 intro ρ s t t' v u H σv tv Q M W
 unfold gtD at W
 split at W
 ·obtain⟨rfl,rfl⟩:=z3b M
  exact⟨_,_,rfl,rfl,W.flat M.m rfl⟩
 ·exact wfl W
theorem zh0:z1e G F (rI0 fun i j=> .bl (decide (j<=i))) geD:=by
 intro ρ s t t' v u H σv tv Q M W
 unfold geD at W
 split at W
 ·obtain⟨rfl,rfl⟩:=z3b M
  exact⟨_,_,rfl,rfl,W.flat M.m rfl⟩
 ·exact wfl W
theorem zh1:z1e G F (zg9 G.K false) eqD:=by
 intro ρ s t t' v u H σv tv Q M W
 unfold eqD at W
 split at W
 ·rename_i hc
  erw[eqC,l0,decide_eq_true_eq] at hc
  obtain⟨⟨⟨⟨c1,c2⟩,c3⟩,c4⟩,c5⟩:=hc
  obtain⟨h1,h2⟩:=M.rd2
  exact⟨er t,er t',RD.dp _ _ h1 c1,RD.dp _ _ h2 c2,c3,c4,c5,W.flat M.m rfl⟩
 ·exact wfl W
theorem zh2:z1e G F (zg9 G.K true) neD:=by
 intro ρ s t t' v u H σv tv Q M W
 unfold neD at W
 split at W
 ·rename_i hc
  erw[eqC,l0,decide_eq_true_eq] at hc
  obtain⟨⟨⟨⟨c1,c2⟩,c3⟩,c4⟩,c5⟩:=hc
  obtain⟨h1,h2⟩:=M.rd2
  exact⟨er t,er t',RD.dp _ _ h1 c1,RD.dp _ _ h2 c2,c3,c4,c5,W.flat M.m rfl⟩
 ·exact wfl W
theorem RD.dpSeq{ρ:Nat->Addr}{H:Hp}{t:D}{v:V}{ds:List D}(h:RD G ρ H t v)(e:z7s t=some ds)(p:plainL ds=true):Dp G.K H (.list (erL ds)) v\/Dp G.K H (.tuple (erL ds)) v:=by
 obtain⟨a,xs,rfl,sq,r,_⟩:=h.seq e
 have d:=RDs.dp ds xs r p
 rcases sq with sq|sq
 ·exact .inl (by erw[Dp];exact⟨a,xs,rfl,sq,d⟩)
 ·exact .inr (by erw[Dp];exact⟨a,xs,rfl,sq,d⟩)
theorem zef:z1e G F (zig G.K true) z9x:=by
 intro ρ s t t' v u H σv tv Q M W
 unfold z9x at W
 cases e:z7s t' with
 |some ds=>
  rw[e] at W
  dsimp only at W
  split at W
  ·rename_i hc
   erw[inC,l0,decide_eq_true_eq] at hc
   obtain⟨⟨⟨⟨c1,c2⟩,c3⟩,c4⟩,c5⟩:=hc
   obtain⟨h1,h2⟩:=M.rd2
   exact⟨er t,erL ds,RD.dp _ _ h1 c1,h2.dpSeq e c2,c3,c4,c5,W.flat M.m rfl⟩
  ·exact wfl W
 |none=>rw[e] at W;exact wfl W
theorem zeg{ρ:Nat->Addr}{H:Hp}{ds:List D}{xs:List V}{i:Int}{d:D}(r:RDs G ρ H ds xs)(e:atI ds i=some d): ∃x,atI xs i=some x/\RD G ρ H d x:=by
 unfold atI at e⊢
 rw[<-r.length]
 cases e1:ixN ds.length i with
 |none=>rw[e1] at e;cases e
 |some j=>
  rw[e1] at e
  exact r.get j d e
theorem zcc{α:Type}{ds:List α}{i:Int}{d:α}(e:atI ds i=some d):d∈ds:=by
 unfold atI at e
 cases e1:ixN ds.length i with
 |none=>rw[e1] at e;cases e
 |some j=>
  rw[e1] at e
  exact List.mem_of_getElem? e
theorem zh3:z7r G F (fun x y H Q=>zid G.K x y H Q\/zie G.K x y H Q) ixD:=by
 intro ρ s t t' v u H σv tv Q M W
 obtain⟨h1,h2⟩:=M.rd2
 unfold ixD at W
 cases e:z7s t with
 |none=>rw[e] at W;exact False.elim W
 |some ds=>
  rw[e] at W
  cases t' with
  |int i=>
   have W:wM G F σv tv (zda (atI ds i) s) Q:=W
   cases ea:atI ds i with
   |some d=>
    rw[ea] at W
    obtain⟨a,xs,rfl,sq,r,sub⟩:=h1.seq e
    obtain⟨x,ex,rx⟩:=zeg r ea
    erw[RD] at h2
    subst h2
    have fin:KD G.K H->Q x H:=fun _=>W.out M.m rx fun l hl=>M.lb2.1 l (sub l (labsL_mem (zcc ea) l hl))
    rcases sq with sq|sq
    ·exact .inl ⟨a,xs,i,x,rfl,rfl,sq,ex,fin⟩
    ·exact .inr ⟨a,xs,i,x,rfl,rfl,sq,ex,fin⟩
   |none=>rw[ea] at W;exact False.elim W
  |_=>exact False.elim W
theorem zeh:zgU G F (rU fun i=> .int (-i)) z6k:=by
 intro ρ s t v H σv tv Q M W
 unfold z6k at W
 split at W
 ·have h:=M.rd1
  erw[RD] at h
  exact⟨_,h,fun _=>W.flat M.m rfl⟩
 ·exact wfl W
end
section
variable{X:Cx}{G:Gx}{F:Fy}{e a b c:Expr}{pos:Pos}
theorem RDs.flat{ρ:Nat->Addr}{H:Hp}{ds:List D}{xs:List V}(r:RDs G ρ H ds xs): ∀k:Nat,RDs G ρ H (l5 k ds).flatten (l5 k xs).flatten
 |0=>by simp[RDs]
 |k+1=>by
  rw[B5,B5,D2,D2]
  exact r.append (RDs.flat r k)
theorem z1P{ds:List D}{l:Nat}: ∀k:Nat,l∈labsL (l5 k ds).flatten->l∈labsL ds
 |0,h=>by simp[labsL] at h
 |k+1,h=>by
  rw[B5,D2,U0] at h
  rcases i3.mp h with h|h
  ·exact h
  ·exact z1P k h
theorem zei:z7r G F (fun x y H Q=>rI z9u (fun i j=> .int (i*j)) x y H Q\/(zgJ x y H Q\/zc7 G.K x y H Q)) z4z:=by
 intro ρ s t t' v u H σv tv Q M W
 unfold z4z at W
 split at W
 ·split at W
  ·rename_i hc
   obtain⟨rfl,rfl⟩:=z3b M
   exact .inl ⟨_,_,rfl,rfl,hc,fun _=>W.flat M.m rfl⟩
  ·exact wfl W
 ·split at W
  ·rename_i la a k hc
   obtain⟨h1,h2⟩:=M.rd2
   obtain⟨l1,l2⟩:=M.lb2
   erw[RD] at h1 h2
   obtain⟨rfl,xs,s1,r1⟩:=h1
   subst h2
   refine .inr (.inl ⟨_,k,xs,rfl,rfl,s1,hc.1,hc.2.1,by rw[<-r1.length];exact hc.2.2,fun p hp kd=>z1f W M.m (r1.flat _) (fun l hl=> ?_) hp kd⟩)
   exact l1 l (by erw[y9];exact e9 _ (z1P _ hl))
  ·exact wfl W
 ·split at W
  ·rename_i a k hc
   obtain⟨h1,h2⟩:=M.rd2
   obtain⟨l1,l2⟩:=M.lb2
   erw[RD] at h1 h2
   obtain⟨a',xs,rfl,s1,r1⟩:=h1
   subst h2
   refine .inr (.inr ⟨_,k,xs,rfl,rfl,SqT.of s1,by rw[<-r1.length];exact hc.1,hc.2.1,hc.2.2.1,by rw[<-r1.length];exact hc.2.2.2,fun p hp kd=>z8c W M.m (r1.flat _) (fun l hl=> ?_) hp kd⟩)
   exact l1 l (by erw[y9];exact z1P _ hl)
  ·exact wfl W
 ·exact wfl W
noncomputable def z1q{α:Type}(xs:List α)(lo hi:Option Int):List α:=(xs.drop (HT.sIx xs.length 0 lo)).take (HT.sIx xs.length xs.length hi -HT.sIx xs.length 0 lo)
noncomputable def slD:D->Option Int->Option Int->M D
 | .tup ds,lo,hi=>rt (.tup (z1q ds lo hi))
 | .lst _ ds,lo,hi=>zb1 (z1q ds lo hi)
 | .ro ds,lo,hi=>zb1 (z1q ds lo hi)
 |_,_,_=>fl
theorem RDs.cut{ρ:Nat->Addr}{H:Hp}{ds:List D}{xs:List V}(r:RDs G ρ H ds xs)(lo hi:Option Int):RDs G ρ H (z1q ds lo hi) (z7N xs lo hi):=by
 unfold z1q z7N
 rw[r.length]
 exact(r.drop _).take _
theorem z2z{ds:List D}{lo hi:Option Int}{l:Nat}(h:l∈labsL (z1q ds lo hi)):l∈labsL ds:=by
 obtain⟨d,h1,h2⟩:=k5 h
 exact labsL_mem (E9 (D9 h1)) l h2
noncomputable def mInt(d:D):Option Int:=match d with| .int i=>some i|_=>none
noncomputable def z3c:Option (M D)->M (Option Int)
 |none=>rt none
 |some m=>bd m fun d=>match mInt d with|some i=>rt (some i)|none=>fl
noncomputable def tP(G:Gx)(F:Fy)(m:M (Option Int)):TO:=fun σv H Q=> ∃tv,F.tv0<:+tv/\∃ρ s,MR G F.toFx ρ H σv tv s/\(match m s with
 | .ok o s'=> ∀ρ' H',MR G F.toFx ρ' H' σv tv s'->Q o H'
 | .ex d s'=>F.xw d s'
 | .no=>False)
noncomputable def SO(X:Cx)(G:Gx)(F:Fy)(e:Option Expr)(m:Option (M D)):Prop:=PO X e (tP G F (z3c m))
theorem so_none:SO X G F none none:=by
 intro pins s σ H Q I ⟨tv,hs,ρ,ms,M,W⟩
 exact zbN pins s σ H Q I (W ρ H M)
theorem so_some{m:M D}(h:SE X G F e m):SO X G F (some e) (some m):=by
 intro pins s σ H Q I ⟨tv,hs,ρ,ms,M,W⟩
 refine zbO h pins s σ H Q I ⟨tv,hs,ρ,ms,M, ?_⟩
 erw[z3c,bd] at W
 cases e1:m ms with
 |ok d s1=>
  rw[e1] at W
  intro ρ' v H' M'
  cases d with
  |int i=>
   have h:=M'.rd1
   erw[RD] at h
   exact⟨i,h,W ρ' H' M'.m⟩
  |_=>exact False.elim W
 |ex d s1=>rw[e1] at W;exact W
 |no=>rw[e1] at W;exact W
noncomputable def mSl(m:M D)(lo hi:Option (M D)):M D:=bd m fun x=>bd (psh x) fun _=>bd (z3c lo) fun l=>bd (z3c hi) fun h=>bd pop fun x'=>slD x' l h
theorem zh4{ρ:Nat->Addr}{s:Stt}{t:D}{v:V}{H:Hp}{σv tv:List (Option V)}{lo hi:Option Int}{Q:VK}(M:MRL G F.toFx ρ H σv tv s [t] [v])(W:wM G F σv tv (slD t lo hi s) Q):
 zgT G.K v lo hi H (fun w H'=>KD G.K H'->Q w H')\/zgH G.K v lo hi H (fun w H'=>KD G.K H'->Q w H'):=by
 have h:=M.rd1
 cases t with
 |tup ds=>
  obtain⟨p,xs,rfl,s1,r1⟩:=h.tupx
  exact .inl ⟨p,xs,rfl,s1,z3X W M.m (r1.cut lo hi) fun l hl=>M.lb1 l (by erw[y9];exact z2z hl)⟩
 |lst n ds=>
  obtain⟨p,xs,rfl,s1,r1,_⟩:=h.lstq (ds:=ds) rfl
  exact .inr ⟨p,xs,rfl,s1,fun q hq k=>z1f W M.m (r1.cut lo hi) (fun l hl=>M.lb1 l (by erw[y9];exact e9 _ (z2z hl))) hq k⟩
 |ro ds=>
  obtain⟨p,xs,rfl,s1,r1,_⟩:=h.lstq (ds:=ds) rfl
  exact .inr ⟨p,xs,rfl,s1,fun q hq k=>z1f W M.m (r1.cut lo hi) (fun l hl=>M.lb1 l (by erw[y9];exact z2z hl)) hq k⟩
 |_=>exact False.elim W
theorem se_slice{lo hi:Option Expr}{p2:Pos}{m:M D}{ml mh:Option (M D)}(hk:X.K=G.K)(he:SE X G F e m)(hl:SO X G F lo ml)(hh:SO X G F hi mh):SE X G F (.Subscript e (.Slice lo hi none p2) pos) (mSl m ml mh):=by
 refine PE.imp hk (z9M (r:=fun x lo hi H Q=>zgT X.K x lo hi H Q\/zgH X.K x lo hi H Q) (SlR.or zc6 zbS) he hl hh) fun σ H Q ⟨tv,h⟩=>⟨tv, ?_⟩
 obtain⟨hs,ρ,s,M,W⟩:=z5C h
 refine⟨hs,ρ,s,M,W.mono fun v H1 ⟨ρ1,s1,t,M1,W1⟩=>⟨some v::tv,z9v hs,ρ1,s1.psh t,M1.push, ?_⟩⟩
 erw[bd,psh] at W1
 cases e1:z3c ml (s1.psh t) with
 |ex d s2=>rw[e1] at W1;exact W1
 |no=>rw[e1] at W1;exact W1
 |ok l s2=>
  rw[e1] at W1
  intro ρ2 H2 M2
  refine⟨some v::tv,z9v hs,ρ2,s2,M2, ?_⟩
  dsimp only at W1
  cases e2:z3c mh s2 with
  |ex d s3=>rw[e2] at W1;exact W1
  |no=>rw[e2] at W1;exact W1
  |ok h s3=>
   rw[e2] at W1
   intro ρ3 H3 M3
   erw[pop] at W1
   cases e3:s3.tm with
   |nil=>rw[e3] at W1;exact W1.elim
   |cons o r=>
    cases o with
    |none=>rw[e3] at W1;exact W1.elim
    |some t'=>
     rw[e3] at W1
     have M4:MRL G F.toFx ρ3 H3 σ tv {s3 with tm:=r} [t'] [v]:=MRL.down (ts:=[]) (vs:=[]) ⟨M3,rfl,fun l h=>by simp[labsL] at h⟩ e3
     rw[hk]
     exact zh4 M4 W1
noncomputable def K9(ts:List D):M D:=if ts.length<=sizeLine then rt (.tup ts) else fl
noncomputable def lstM(ts:List D):M D:=if ts.length<=sizeLine then zb1 ts else fl
theorem zej:X8 G F (fun xs H1 Q=>xs.length<=sizeLine/\∀p,H1 p=none->Q (.ref p) (upd H1 p (.tup xs))) K9:=by
 intro ρ s ts vs H σv tv Q M W
 unfold K9 at W
 split at W
 ·rename_i hz
  exact⟨by rw[<-M.rd.length];exact hz,fun p hp k=>z8c W M.m M.rd M.lb hp k⟩
 ·exact wfl W
theorem zek:X8 G F (fun xs H1 Q=>xs.length<=sizeLine/\∀p,H1 p=none->Q (.ref p) (upd H1 p (.lst xs))) lstM:=by
 intro ρ s ts vs H σv tv Q M W
 unfold lstM at W
 split at W
 ·rename_i hz
  exact⟨by rw[<-M.rd.length];exact hz,fun p hp k=>z1f W M.m M.rd M.lb hp k⟩
 ·exact wfl W
theorem se_tup{es:List Expr}{ms:List (M D)}{x1}(hk:X.K=G.K)(h:SA X G F es (Y4 ms)):SE X G F (.Tuple es x1 pos) (mCB ms K9):=
 PE.imp hk (zdG h) fun _ _ _ h=>z2k zej h
theorem se_lst{es:List Expr}{ms:List (M D)}(hk:X.K=G.K)(h:SA X G F es (Y4 ms)):SE X G F (.List es pos) (mCB ms lstM):=
 PE.imp hk (zdH h) fun _ _ _ h=>z2k zek h
noncomputable def zel:D->M Bool
 | .non=>rt false
 | .bool b=>rt b
 | .int i=>rt (i !=0)
 | .str x=>if x.length<=sizeLine then rt ((x.length:Int) !=0) else fl
 | .tup ds=>rt (!ds.isEmpty)
 | .ro ds=>rt (!ds.isEmpty)
 | .lst _ ds=>rt (!ds.isEmpty)
 |_=>fl
noncomputable def U5(m:M D):M Bool:=bd m zel
theorem z1Q{ρ:Nat->Addr}{H:Hp}{ds:List D}{xs:List V}(r:RDs G ρ H ds xs):(!ds.isEmpty)= !xs.isEmpty:=by
 have:=r.length
 cases ds<;>cases xs<;>simp at this⊢
theorem zem{ρ:Nat->Addr}{s:Stt}{t:D}{v:V}{H:Hp}{σv tv:List (Option V)}{Q:Bool->Hp->Prop}(M:MRL G F.toFx ρ H σv tv s [t] [v])(W:wB G F σv tv (zel t s) Q): ∃k,TruV G.K v H k/\Q k H:=by
 have h:=M.rd1
 cases t with
 |non=>erw[RD] at h;subst h;exact⟨false,rfl,W ρ H M.m⟩
 |bool b=>erw[RD] at h;subst h;exact⟨b,rfl,W ρ H M.m⟩
 |int i=>erw[RD] at h;subst h;exact⟨_,rfl,W ρ H M.m⟩
 |str x=>
  erw[RD] at h;subst h
  unfold zel at W
  by_cases hz:x.length<=sizeLine
  ·erw[if_pos hz] at W;exact⟨_,⟨hz,rfl⟩,W ρ H M.m⟩
  ·erw[if_neg hz] at W;exact False.elim W
 |tup ds=>
  obtain⟨p,xs,rfl,s1,r1⟩:=h.tupq
  exact⟨_, .inr (.inl ⟨xs,s1,z1Q r1⟩),W ρ H M.m⟩
 |ro ds=>
  obtain⟨p,xs,rfl,s1,r1,_⟩:=h.lstq (ds:=ds) rfl
  exact⟨_, .inl ⟨xs,s1,z1Q r1⟩,W ρ H M.m⟩
 |lst n ds=>
  obtain⟨p,xs,rfl,s1,r1,_⟩:=h.lstq (ds:=ds) rfl
  exact⟨_, .inl ⟨xs,s1,z1Q r1⟩,W ρ H M.m⟩
 |dct _ _ _=>exact False.elim W
 |fdc _ _=>exact False.elim W
 |obj _ _ _ _=>exact False.elim W
 |exc _=>exact False.elim W
 |fn _=>exact False.elim W
theorem z9Y{m:M D}{σ:St}{H:Hp}{Q:Bool->Hp->Prop}(h:tMB G F (U5 m) σ H Q):tM G F m σ H fun x H'=> ∃k,TruV G.K x H' k/\Q k H':=by
 obtain⟨tv,hs,ρ,s,M,W⟩:=h
 refine⟨tv,hs,ρ,s,M, ?_⟩
 unfold U5 bd at W
 cases e:m s with
 |ok t s1=>rw[e] at W;exact fun ρ1 v H1 M1=>zem M1 W
 |ex d s1=>rw[e] at W;exact W
 |no=>rw[e] at W;exact W
theorem sb_truth{m:M D}(hk:X.K=G.K)(ha:SE X G F a m)(he: ∀whole,isTrue a X.env whole=(do let v<-whole;standAt a.pos;holding [v] (truthy v)):=by intro _;rfl):SB X G F a (U5 m):=by
 refine PT.imp hk (z9H ha he) fun σ H Q h=> ?_
 rw[hk]
 obtain⟨tv,h'⟩:=z9Y h
 exact⟨tv,h'.mono fun v H1 ⟨k,q1,q2⟩=>⟨k,q1,fun _=>q2⟩⟩
noncomputable def zen:D->M Bool
 | .bool b=>rt b
 |_=>fl
noncomputable def g9(m:M D):M Bool:=bd m zen
theorem zcd{m:M D}{σ:St}{H:Hp}{Q:Bool->Hp->Prop}(h:tMB G F (g9 m) σ H Q):tM G F m σ H fun x H'=> ∃k,x= .bl k/\Q k H':=by
 obtain⟨tv,hs,ρ,s,M,W⟩:=h
 refine⟨tv,hs,ρ,s,M, ?_⟩
 unfold g9 bd at W
 cases e:m s with
 |ok t s1=>
  rw[e] at W
  intro ρ1 v H1 M1
  have h:=M1.rd1
  cases t with
  |bool b=>erw[RD] at h;exact⟨b,h,W ρ1 H1 M1.m⟩
  |_=>exact False.elim W
 |ex d s1=>rw[e] at W;exact W
 |no=>rw[e] at W;exact W
theorem zce{op:CmpOp}{r:R2}{ma mb:M D}{g:D->D->M D}(ho:OpR X (compareOp op) r)(hg:z1e G F r g)(ha:SE X G F a ma)(hb:SE X G F b mb)(hm:behindInMarks op b=false):SB X G F (.Compare a [op] [b] pos) (g9 (Z1 ma mb g)):=
 PT.imp0 (zbK ho ha hb hm) fun _ _ _ h=>z6j hg (zcd h)
theorem zcf{m:M Bool}{f:Bool->M Bool}{σ:St}{tv:List (Option V)}{H:Hp}{Q:Bool->Hp->Prop}(h:tBv G F (bd m f) σ tv H Q):tBv G F m σ tv H fun b H1=> ∃ρ1 s1,MR G F.toFx ρ1 H1 σ tv s1/\wB G F σ tv (f b s1) Q:=by
 obtain⟨hs,ρ,s,M,W⟩:=h
 refine⟨hs,ρ,s,M, ?_⟩
 unfold bd at W
 cases e:m s with
 |ok b s1=>rw[e] at W;exact fun ρ1 H1 M1=>⟨ρ1,s1,M1,W⟩
 |ex d s1=>rw[e] at W;exact W
 |no=>rw[e] at W;exact W
theorem wB.mono{σv tv:List (Option V)}{r:Res Bool}{Q Q':Bool->Hp->Prop}(h:wB G F σv tv r Q)(k: ∀v H,Q v H->Q' v H):wB G F σv tv r Q':=by
 cases r with
 |ok t s=>exact fun ρ H M=>k _ _ (h ρ H M)
 |ex d s=>exact h
 |no=>exact h
theorem tBv.mono{m:M Bool}{σv tv:List (Option V)}{H:Hp}{Q Q':Bool->Hp->Prop}(h:tBv G F m σv tv H Q)(k: ∀v H,Q v H->Q' v H):tBv G F m σv tv H Q':=by
 obtain⟨hs,ρ,s,M,W⟩:=h
 exact⟨hs,ρ,s,M,W.mono k⟩
noncomputable def z74{α:Type}(b:Bool)(m m':M α):M α:=match b with|true=>m|false=>m'
noncomputable def zcg(m m':M Bool):M Bool:=bd m fun b=>z74 b m' (rt false)
noncomputable def mOr(m m':M Bool):M Bool:=bd m fun b=>z74 b (rt true) m'
noncomputable def z3d(m:M Bool):M Bool:=bd m fun b=>rt (!b)
noncomputable def SW(X:Cx)(G:Gx)(F:Fy)(e:Expr)(m:M Bool):Prop:=PW X e (tMB G F m)
theorem SW.sb{m:M Bool}(h:SW X G F e m):SB X G F e m:=PW.pt h
theorem PW.imp0{t t':TT}(h:PW X e t)(hi: ∀σ H Q,t' σ H Q->t σ H Q):PW X e t':=fun wh pins s σ H Q I q=>h wh pins s σ H _ I (hi σ H Q q)
theorem sw_and1{m:M Bool}(h:SB X G F a m):SW X G F (.BoolOp .And [a] pos) m:=zbE h
theorem sw_or1{m:M Bool}(h:SB X G F a m):SW X G F (.BoolOp .Or [a] pos) m:=zdp h
theorem sw_and{rest:List Expr}{m m':M Bool}(ha:SB X G F a m)(hb:SW X G F (.BoolOp .And (b::rest) pos) m'):SW X G F (.BoolOp .And (a::b::rest) pos) (zcg m m'):=by
 refine PW.imp0 (zdq ha hb) fun σ H Q ⟨tv,h⟩=>⟨tv,(zcf h).mono fun b H1 ⟨ρ1,s1,M1,W⟩=> ?_⟩
 cases b with
 |true=>rw[if_pos rfl];exact⟨tv,h.1,ρ1,s1,M1,W⟩
 |false=>rw[if_neg A6];exact W ρ1 H1 M1
theorem sw_or{rest:List Expr}{m m':M Bool}(ha:SB X G F a m)(hb:SW X G F (.BoolOp .Or (b::rest) pos) m'):SW X G F (.BoolOp .Or (a::b::rest) pos) (mOr m m'):=by
 refine PW.imp0 (zgj ha hb) fun σ H Q ⟨tv,h⟩=>⟨tv,(zcf h).mono fun b H1 ⟨ρ1,s1,M1,W⟩=> ?_⟩
 cases b with
 |true=>rw[if_pos rfl];exact W ρ1 H1 M1
 |false=>rw[if_neg A6];exact⟨tv,h.1,ρ1,s1,M1,W⟩
theorem sb_not{m:M Bool}(ha:SB X G F a m):SB X G F (.UnaryOp .Not a pos) (z3d m):=by
 refine PT.imp0 (zdr ha) fun σ H Q ⟨tv,h⟩=>⟨tv,(zcf h).mono fun b H1 ⟨ρ1,s1,M1,W⟩=>W ρ1 H1 M1⟩
noncomputable def z3Y(m m':M D):M D:=bd (g9 m) fun b=>z74 b m' (rt (.bool false))
noncomputable def z75(m:M D):M D:=bd (g9 m) fun b=>rt (.bool (!b))
theorem zb3{m:M D}{f:Bool->M D}{σ:St}{H:Hp}{Q:VK}(h:tM G F (bd (g9 m) f) σ H Q):tM G F m σ H fun x H1=> ∃k,x= .bl k/\∃ρ1 s1 tv,F.tv0<:+tv/\MR G F.toFx ρ1 H1 σ tv s1/\wM G F σ tv (f k s1) Q:=by
 obtain⟨tv,hs,ρ,s,M,W⟩:=h
 refine⟨tv,hs,ρ,s,M, ?_⟩
 unfold g9 bd at W
 cases e:m s with
 |ok t s1=>
  rw[e] at W
  intro ρ1 v H1 M1
  have h:=M1.rd1
  cases t with
  |bool b=>erw[RD] at h;exact⟨b,h,ρ1,s1,tv,hs,M1.m,W⟩
  |_=>exact False.elim W
 |ex d s1=>rw[e] at W;exact W
 |no=>rw[e] at W;exact W
theorem tM.mono{m:M D}{σ:St}{H:Hp}{Q Q':VK}(h:tM G F m σ H Q)(k: ∀v H,Q v H->Q' v H):tM G F m σ H Q':=by
 obtain⟨tv,h⟩:=h
 exact⟨tv,h.mono k⟩
theorem se_one{op}{m:M D}(h:SE X G F a m):SE X G F (.BoolOp op [a] pos) m:=zds h
theorem se_and{rest:List Expr}{m m':M D}(ha:SE X G F a m)(hb:SE X G F (.BoolOp .And (b::rest) pos) m'):SE X G F (.BoolOp .And (a::b::rest) pos) (z3Y m m'):=by
 refine PE.imp0 (zdt ha hb) fun σ H Q h=>(zb3 h).mono fun x H1 ⟨k,e,ρ1,s1,tv,hs,M1,W⟩=>⟨k,e, ?_⟩
 cases k with
 |true=>rw[if_pos rfl];exact⟨tv,hs,ρ1,s1,M1,W⟩
 |false=>rw[if_neg A6];exact W.flat M1 rfl
theorem se_not{m:M D}(ha:SE X G F a m):SE X G F (.UnaryOp .Not a pos) (z75 m):=by
 refine PE.imp0 (zdu ha) fun σ H Q h=>(zb3 h).mono fun x H1 ⟨k,e,ρ1,s1,tv,hs,M1,W⟩=>⟨k,e,W.flat M1 rfl⟩
noncomputable def z76(y:D)(m:M D):M D:=match cV y with|some _=>m|none=>fl
noncomputable def z2A(ma mb mc:M D)(g g':D->D->M D):M D:=bd ma fun x=>bd (psh x) fun _=>bd mb fun y=>bd pop fun x'=>z76 y (bd (g9 (g x' y)) fun k=>z74 k (bd mc fun z=>g' y z) (rt (.bool false)))
theorem z8d{ma mb mc:M D}{g g':D->D->M D}{r r':R2}{σ:St}{H:Hp}{Q:VK}(hg:z1e G F r g)(hg':z1e G F r' g')(h:tM G F (z2A ma mb mc g g') σ H Q):zaQ r r' (tM G F ma) (tM G F mb) (tM G F mc) σ H Q:=by
 obtain⟨tv,h⟩:=h
 have hs:=h.1
 refine⟨tv,(z6i (g:=fun x' y=>z76 y (bd (g9 (g x' y)) fun k=>z74 k (bd mc fun z=>g' y z) (rt (.bool false)))) h).mono fun v H1 h1=>⟨_,h1.mono fun u H2 ⟨ρ,s,t,t',M,W⟩=> ?_⟩⟩
 unfold z76 at W
 cases e:cV t' with
 |none=>rw[e] at W;exact False.elim W
 |some u'=>
  rw[e] at W
  have hu:u=u':=by
   have h2:=M.rd2.2
   cases t'<;>erw[cV,Option.some.injEq] at e<;>erw[RD] at h2<;>first|(rw[h2,e])|cases e
  subst hu
  unfold bd g9 at W
  dsimp only at W
  refine hg ρ s t t' v u H2 σ tv _ M ?_
  unfold bd at W
  cases e2:g t t' s with
  |ok z s1=>
   rw[e2] at W
   intro ρ1 w H3 M3
   have h3:=M3.rd1
   cases z with
   |bool k=>
    erw[RD] at h3
    refine⟨k,h3, ?_⟩
    have W:wM G F σ tv (z74 k (bd mc fun z=>g' t' z) (rt (.bool false)) s1) Q:=W
    cases k with
    |false=>rw[if_neg A6];exact W.flat M3.m rfl
    |true=>
     rw[if_pos rfl]
     have h5:tMv G F (bd mc fun z=>g' t' z) σ tv H3 Q:=⟨hs,ρ1,s1,M3.m,W⟩
     refine⟨tv,(z5C h5).mono fun w' H4 ⟨ρ4,s4,t4,M4,W4⟩=>hg' ρ4 s4 t' t4 u w' H4 σ tv Q ⟨M4.m, ?_,fun l hl=> ?_⟩ W4⟩
     ·erw[RDs];exact⟨_,_,rfl,(z73 e).1,_,_,rfl,M4.rd1,rfl⟩
     ·erw[labsL,(z73 (G:=G) (ρ:=ρ4) (H:=H4) e).2,m8,l3] at hl
      exact M4.lb1 l hl
   |_=>exact False.elim W
  |ex d s1=>rw[e2] at W;exact W
  |no=>rw[e2] at W;exact W
theorem z9Z{op op':CmpOp}{r r':R2}{ma mb mc:M D}{g g':D->D->M D}(ho:OpR X (compareOp op) r)(hg:z1e G F r g)(ho':OpR X (compareOp op') r')(hg':z1e G F r' g')(ha:SE X G F a ma)(hb:SE X G F b mb)(hc:SE X G F c mc)
 (hm:lastMarks [op,op'] [b,c]=false:=by with_unfolding_all rfl):SE X G F (.Compare a [op,op'] [b,c] pos) (z2A ma mb mc g g'):=
 PE.imp0 (z9G ho ho' ha hb hc hm) fun _ _ _ h=>z8d hg hg' h
end
noncomputable def lenD:List D->M D
 |[.tup ds]=>rt (.int ds.length)
 |[.ro ds]=>rt (.int ds.length)
 |[.lst _ ds]=>rt (.int ds.length)
 |_=>fl
noncomputable def zdb:List D->M D
 |[.int i]=>rt (.int (if i<0 then -i else i))
 |_=>fl
noncomputable def za0:List D->M D
 |[.int i, .int j]=>rt (.int (if j<i then j else i))
 |_=>fl
noncomputable def zdc:List D->M D
 |[.int i, .int j]=>rt (.int (if j>i then j else i))
 |_=>fl
noncomputable def z0A:List D->Option (List Bool)
 |[]=>some []
 | .bool b::r=>(z0A r).map (b:: ·)
 |_=>none
noncomputable def zch:List D->M D
 |[.lst _ ds]=>match z0A ds with|some bs=>rt (.bool (bs.all id))|none=>fl
 |_=>fl
noncomputable def zci:List D->M D
 |[.int i]=>rt (.int i)
 |[.bool b]=>rt (.int (if b then 1 else 0))
 |_=>fl
noncomputable def tupF:List D->M D
 |[.tup ds]=>rt (.tup ds)
 |[.ro ds]=>rt (.tup ds)
 |[.lst _ ds]=>rt (.tup ds)
 |_=>fl
noncomputable def z77:List D->M D
 |[.tup ds]=>zb1 ds
 |[.ro ds]=>zb1 ds
 |[.lst _ ds]=>zb1 ds
 |_=>fl
section
variable{X:Cx}{G:Gx}{F:Fy}{e a b c:Expr}{pos:Pos}
theorem MRL.one{ρ:Nat->Addr}{H:Hp}{σv tv:List (Option V)}{s:Stt}{t:D}{vs:List V}(M:MRL G F.toFx ρ H σv tv s [t] vs): ∃v,vs=[v]/\RD G ρ H t v/\LB F.toFx ρ s.n (y9 t):=by
 have h:=M.rd
 erw[RDs] at h
 obtain⟨v,r,rfl,h,rfl⟩:=h
 exact⟨v,rfl,h,M.lb1⟩
theorem MRL.two{ρ:Nat->Addr}{H:Hp}{σv tv:List (Option V)}{s:Stt}{t t':D}{vs:List V}(M:MRL G F.toFx ρ H σv tv s [t,t'] vs): ∃v u,vs=[v,u]/\RD G ρ H t v/\RD G ρ H t' u:=by
 have h:=M.rd
 erw[RDs] at h
 obtain⟨v,r,rfl,h,u,q,rfl,h',rfl⟩:=h
 exact⟨v,u,rfl,h,h'⟩
theorem zeo:X8 G F (fun xs H Q=> ∃p ys,xs=[.ref p]/\(SqL G.K H p ys\/SqT G.K H p ys)/\Q (.int ys.length) H) lenD:=by
 intro ρ s ts vs H σv tv Q M W
 unfold lenD at W
 split at W
 ·obtain⟨v,rfl,h,_⟩:=M.one
  obtain⟨p,xs,rfl,s1,r1,_⟩:=h.seq rfl
  exact⟨p,xs,rfl,s1,fun _=>by rw[<-r1.length];exact W.flat M.m rfl⟩
 ·obtain⟨v,rfl,h,_⟩:=M.one
  obtain⟨p,xs,rfl,s1,r1,_⟩:=h.seq rfl
  exact⟨p,xs,rfl,s1,fun _=>by rw[<-r1.length];exact W.flat M.m rfl⟩
 ·obtain⟨v,rfl,h,_⟩:=M.one
  obtain⟨p,xs,rfl,s1,r1,_⟩:=h.seq rfl
  exact⟨p,xs,rfl,s1,fun _=>by rw[<-r1.length];exact W.flat M.m rfl⟩
 ·exact wfl W
theorem zep:X8 G F (fun xs H Q=> ∃i,xs=[.int i]/\Q (.int (if i<0 then -i else i)) H) zdb:=by
 intro ρ s ts vs H σv tv Q M W
 unfold zdb at W
 split at W
 ·obtain⟨v,rfl,h,_⟩:=M.one
  erw[RD] at h
  subst h
  exact⟨_,rfl,fun _=>W.flat M.m rfl⟩
 ·exact wfl W
theorem zeq:X8 G F (fun xs H Q=> ∃i j,xs=[.int i, .int j]/\Q (.int (if j<i then j else i)) H) za0:=by
 intro ρ s ts vs H σv tv Q M W
 unfold za0 at W
 split at W
 ·obtain⟨v,u,rfl,h,h'⟩:=M.two
  erw[RD] at h h'
  subst h h'
  exact⟨_,_,rfl,fun _=>W.flat M.m rfl⟩
 ·exact wfl W
theorem zer:X8 G F (fun xs H Q=> ∃i j,xs=[.int i, .int j]/\Q (.int (if j>i then j else i)) H) zdc:=by
 intro ρ s ts vs H σv tv Q M W
 unfold zdc at W
 split at W
 ·obtain⟨v,u,rfl,h,h'⟩:=M.two
  erw[RD] at h h'
  subst h h'
  exact⟨_,_,rfl,fun _=>W.flat M.m rfl⟩
 ·exact wfl W
theorem z6l{ρ:Nat->Addr}{H:Hp}: ∀{ds:List D} {xs:List V} {bs:List Bool},RDs G ρ H ds xs->z0A ds=some bs->xs=bs.map V.bl
 |[],xs,bs,r,e=>by erw[RDs] at r;erw[z0A,Option.some.injEq] at e;subst r e;rfl
 |d::ds,xs,bs,r,e=>by
  erw[RDs] at r
  obtain⟨x,q,rfl,h1,h2⟩:=r
  cases d with
  |bool b=>
   erw[z0A] at e
   cases e1:z0A ds with
   |none=>rw[e1] at e;cases e
   |some cs=>
    rw[e1] at e
    cases e
    erw[RD] at h1
    rw[h1,z6l h2 e1];rfl
  |_=>erw[z0A] at e;cases e
theorem zes:X8 G F (fun xs H Q=> ∃(p:Addr) (bs:List Bool),xs=[.ref p]/\SqL G.K H p (bs.map V.bl)/\Q (.bl (bs.all id)) H) zch:=by
 intro ρ s ts vs H σv tv Q M W
 unfold zch at W
 split at W
 ·rename_i l ds
  cases e1:z0A ds with
  |none=>rw[e1] at W;exact False.elim W
  |some bs=>
   rw[e1] at W
   obtain⟨v,rfl,h,_⟩:=M.one
   obtain⟨p,xs,rfl,s1,r1,_⟩:=h.lstq (ds:=ds) rfl
   rw[z6l r1 e1] at s1
   exact⟨p,bs,rfl,s1,fun _=>W.flat M.m rfl⟩
 ·exact wfl W
theorem zet:X8 G F (fun xs H Q=>(∃i,xs=[.int i]/\Q (.int i) H)\/∃k,xs=[.bl k]/\Q (.int (if k then 1 else 0)) H) zci:=by
 intro ρ s ts vs H σv tv Q M W
 unfold zci at W
 split at W
 ·obtain⟨v,rfl,h,_⟩:=M.one
  erw[RD] at h
  subst h
  exact .inl ⟨_,rfl,fun _=>W.flat M.m rfl⟩
 ·obtain⟨v,rfl,h,_⟩:=M.one
  erw[RD] at h
  subst h
  exact .inr ⟨_,rfl,fun _=>W.flat M.m rfl⟩
 ·exact wfl W
theorem zcj:X8 G F (fun xs H Q=> ∃(p:Addr) (ys:List V),xs=[.ref p]/\(SqL G.K H p ys\/H p=some (.tup ys))/\z9U G.K H ys Q) tupF:=by
 intro ρ s ts vs H σv tv Q M W
 have fin: ∀(t:D) (ds:List D),ts=[t]->z7s t=some ds->wM G F σv tv (.ok (.tup ds) s) Q->∃(p:Addr) (ys:List V),vs=[.ref p]/\(SqL G.K H p ys\/H p=some (.tup ys))/\z9U G.K H ys (fun w H'=>KD G.K H'->Q w H'):=fun t ds et es W'=>by
  subst et
  obtain⟨v,rfl,h,lb⟩:=M.one
  obtain⟨p,xs,rfl,s1,r1,sub⟩:=h.seqx es
  exact⟨p,xs,rfl,s1,z3X W' M.m r1 fun l hl=>lb l (sub l hl)⟩
 unfold tupF at W
 split at W
 ·exact fin _ _ rfl rfl W
 ·exact fin _ _ rfl rfl W
 ·exact fin _ _ rfl rfl W
 ·exact wfl W
theorem za1:X8 G F (fun xs H Q=> ∃p ys,xs=[.ref p]/\(SqL G.K H p ys\/SqT G.K H p ys)/\∀l,H l=none->Q (.ref l) (upd H l (.lst ys))) z77:=by
 intro ρ s ts vs H σv tv Q M W
 have fin: ∀(t:D) (ds:List D),ts=[t]->z7s t=some ds->wM G F σv tv (.ok (.lst s.n ds) s.nxt) Q->∃p ys,vs=[.ref p]/\(SqL G.K H p ys\/SqT G.K H p ys)/\∀l,H l=none->KD G.K (upd H l (.lst ys))->Q (.ref l) (upd H l (.lst ys)):=fun t ds et es W'=>by
  subst et
  obtain⟨v,rfl,h,lb⟩:=M.one
  obtain⟨p,xs,rfl,s1,r1,sub⟩:=h.seq es
  exact⟨p,xs,rfl,s1,fun l hl k=>z1f W' M.m r1 (fun l hl=>lb l (sub l hl)) hl k⟩
 unfold z77 at W
 split at W
 ·exact fin _ _ rfl rfl W
 ·exact fin _ _ rfl rfl W
 ·exact fin _ _ rfl rfl W
 ·exact wfl W
noncomputable def isiD(T:String):D->Option Bool
 | .non=>some false
 | .bool _=>some (T== "int" ||T== "bool")
 | .int _=>some (T== "int")
 | .str _=>some (T== "str")
 | .tup _=>some (T== "tuple")
 | .ro _=>some (T== "list")
 | .lst _ _=>some (T== "list")
 |_=>none
noncomputable def z34(T:String)(m:M D):M D:=bd m fun d=>match isiD T d with|some b=>rt (.bool b)|none=>fl
theorem zb4{ρ:Nat->Addr}{H:Hp}{t:D}{v:V}{T:String}{b:Bool}(h:RD G ρ H t v)(e:isiD T t=some b):zaZ G.K H T b v:=by
 cases t<;>erw[isiD,Option.some.injEq] at e<;>try cases e
 ·erw[RD] at h;subst h;exact rfl
 ·erw[RD] at h;subst h;exact rfl
 ·erw[RD] at h;subst h;exact rfl
 ·erw[RD] at h;subst h;exact rfl
 ·obtain⟨p,xs,rfl,s1,r1⟩:=h.tupq
  exact .inl ⟨xs,s1,rfl⟩
 ·obtain⟨p,xs,rfl,s1,r1,_⟩:=h.lstq rfl
  exact .inr ⟨xs,s1,rfl⟩
 ·obtain⟨p,xs,rfl,s1,r1,_⟩:=h.lstq rfl
  exact .inr ⟨xs,s1,rfl⟩
theorem se_isi{p:Pos}{x y:Expr}{T:String}{m:M D}(hk:X.K=G.K)(hT:T= "int" \/T= "bool" \/T= "tuple" \/T= "list" \/T= "str")(hgl:Gl X "isinstance")(hm:X.mg "isinstance" =none)(ha:SE X G F x m)(hy:PE X y (tC (.ty T)))
 (he:starEach [x,y] X.env=(false,eval x X.env)::starEach [y] X.env:=by rfl) (he2:starEach [y] X.env=(false,eval y X.env)::starEach [] X.env:=by rfl) (hpl:(backTo pos (starEach [y] X.env)).any (·.1)=false:=by rfl):SE X G F (.Call (.Name "isinstance" p) [x,y] [] pos) (z34 T m):=by
 refine PE.imp hk (z3P z9T hgl hm PyProof.Rows.Boot.«isinstance» (z1b ha (z1b hy z6b he2) he) (by decide) (by decide) he hpl) fun σ H Q ⟨tv,h⟩=>⟨tv,(z5C h).mono fun v H1 ⟨ρ1,s1,t,M1,W⟩=> ?_⟩
 cases e:isiD T t with
 |none=>erw[e] at W;exact False.elim W
 |some b=>
  erw[e] at W
  rw[hk]
  exact⟨v,T,b,rfl,hT,zb4 M1.rd1 e,fun _=>W.flat M1.m rfl⟩
end
inductive RS where
 |nx (s:Stt)|rt (d:D) (s:Stt)|bk (s:Stt)|ct (s:Stt)|ex (d:D) (s:Stt)|no
noncomputable abbrev MS:=Stt->RS
noncomputable def z0u{α:Type}(m:M α)(f:α->MS):MS:=fun s=>match m s with
 | .ok a s'=>f a s'
 | .ex d s'=> .ex d s'
 | .no=> .no
noncomputable def Y2(m m':MS):MS:=fun s=>match m s with
 | .nx s'=>m' s'
 |r=>r
noncomputable def sNx:MS:=fun s=> .nx s
noncomputable def z2B(m:M D):MS:=z0u m fun _=>sNx
noncomputable def J3(m:M D):MS:=z0u m fun d s=> .rt d s
noncomputable def zdd(b:Bool)(m m':MS):MS:=match b with|true=>m|false=>m'
noncomputable def sIf(c:M Bool)(m m':MS):MS:=z0u c fun b=>zdd b m m'
inductive Tg where
 |nm (i:Nat)|tp (ts:List Tg)
mutual
noncomputable def asg:Tg->D->List (Option D)->Option (List (Option D))
 | .nm i,t,σ=>some (σ.set i (some t))
 | .tp ts, .tup ds,σ=>asgL ts ds σ
 | .tp ts, .lst _ ds,σ=>asgL ts ds σ
 | .tp _,_,_=>none
noncomputable def asgL:List Tg->List D->List (Option D)->Option (List (Option D))
 |[],[],σ=>some σ
 |t::ts,d::ds,σ=>match asg t d σ with|some σ'=>asgL ts ds σ'|none=>none
 |_,_,_=>none
end
noncomputable def Q8(g:Tg)(m:M D):MS:=z0u m fun d s=>match asg g d s.σ with
 |some σ'=> .nx {s with σ:=σ'}
 |none=> .no
section
variable{X:Cx}{G:Gx}{F:Fy}{e a b c:Expr}{st:Stmt}{sts rest:List Stmt}{pos:Pos}
noncomputable def wS(G:Gx)(F:Fy)(tv:List (Option V))(r:RS)(D:z5x):Prop:=match r with
 | .nx s'=> ∀ρ' σv' H',MR G F.toFx ρ' H' σv' tv s'->D.nx σv' H'
 | .rt t s'=> ∀ρ' σv' v H',MRL G F.toFx ρ' H' σv' tv s' [t] [v]->D.rt v H'
 | .bk s'=> ∀ρ' σv' H',MR G F.toFx ρ' H' σv' tv s'->D.bk σv' H'
 | .ct s'=> ∀ρ' σv' H',MR G F.toFx ρ' H' σv' tv s'->D.ct σv' H'
 | .ex d s'=>F.xw d s'
 | .no=>False
noncomputable def tSv(G:Gx)(F:Fy)(m:MS)(tv:List (Option V))(D:z5x)(σv:St)(H:Hp):Prop:=F.tv0<:+tv/\∃ρ s,MR G F.toFx ρ H σv tv s/\wS G F tv (m s) D
noncomputable def tS(G:Gx)(F:Fy)(m:MS):TS:=fun D σv H=> ∃tv,tSv G F m tv D σv H
noncomputable def SS(X:Cx)(G:Gx)(F:Fy)(st:Stmt)(m:MS):Prop:=PS X st (tS G F m)
noncomputable def SSs(X:Cx)(G:Gx)(F:Fy)(sts:List Stmt)(m:MS):Prop:=PSs X sts (tS G F m)
theorem PS.imp0{t t':TS}(h:PS X st t)(hi: ∀D σ H,t' D σ H->t D σ H):PS X st t':=fun pins s σ H D I q=>h pins s σ H D I (hi D σ H q)
theorem PSs.imp0{t t':TS}(h:PSs X sts t)(hi: ∀D σ H,t' D σ H->t D σ H):PSs X sts t':=fun pins s σ H D I q=>h pins s σ H D I (hi D σ H q)
theorem ss_nil:SSs X G F [] sNx:=PSs.imp0 zbF fun D σ H ⟨tv,hs,ρ,s,M,W⟩=>W ρ σ H M
theorem ss_cons{m m':MS}(h1:SS X G F st m)(h2:SSs X G F rest m'):SSs X G F (st::rest) (Y2 m m'):=by
 refine PSs.imp0 (z9D h1 h2) fun D σ H ⟨tv,hs,ρ,s,M,W⟩=>⟨tv,hs,ρ,s,M, ?_⟩
 unfold Y2 at W
 cases e:m s with
 |nx s'=>rw[e] at W;exact fun ρ' σv' H' M'=>⟨tv,hs,ρ',s',M',W⟩
 |rt d s'=>rw[e] at W;exact W
 |bk s'=>rw[e] at W;exact W
 |ct s'=>rw[e] at W;exact W
 |ex d s'=>rw[e] at W;exact W
 |no=>rw[e] at W;exact W
theorem ss_one{m:MS}(h1:SS X G F st m):SSs X G F [st] m:=zbG h1
theorem z0h{m:M D}{f:D->MS}{tv:List (Option V)}{D:z5x}{σ:St}{H:Hp}(h:tSv G F (z0u m f) tv D σ H):tMv G F m σ tv H fun v H1=> ∃ρ1 s1 t,MRL G F.toFx ρ1 H1 σ tv s1 [t] [v]/\wS G F tv (f t s1) D:=by
 obtain⟨hs,ρ,s,M,W⟩:=h
 refine⟨hs,ρ,s,M, ?_⟩
 unfold z0u at W
 cases e:m s with
 |ok t s1=>rw[e] at W;exact fun ρ1 v H1 M1=>⟨ρ1,s1,t,M1,W⟩
 |ex d s1=>rw[e] at W;exact W
 |no=>rw[e] at W;exact W
theorem z8e{m:M Bool}{f:Bool->MS}{tv:List (Option V)}{D:z5x}{σ:St}{H:Hp}(h:tSv G F (z0u m f) tv D σ H):tBv G F m σ tv H fun b H1=> ∃ρ1 s1,MR G F.toFx ρ1 H1 σ tv s1/\wS G F tv (f b s1) D:=by
 obtain⟨hs,ρ,s,M,W⟩:=h
 refine⟨hs,ρ,s,M, ?_⟩
 unfold z0u at W
 cases e:m s with
 |ok t s1=>rw[e] at W;exact fun ρ1 H1 M1=>⟨ρ1,s1,M1,W⟩
 |ex d s1=>rw[e] at W;exact W
 |no=>rw[e] at W;exact W
theorem ss_expr{m:M D}(he:SE X G F e m)(hs:swapsWith e none pos.line X.env=pure false:=by rfl):SS X G F (.Expr e pos) (z2B m):=
 PS.imp0 (zbH he hs) fun D σ H ⟨tv,h⟩=>⟨tv,(z0h h).mono fun v H1 ⟨ρ1,s1,t,M1,W⟩=>W ρ1 σ H1 M1.m⟩
theorem ss_ret{m:M D}(he:SE X G F e m):SS X G F (.Return (some e) pos) (J3 m):=
 PS.imp0 (zdv he) fun D σ H ⟨tv,h⟩=>⟨tv,(z0h h).mono fun v H1 ⟨ρ1,s1,t,M1,W⟩=>W ρ1 σ v H1 M1⟩
theorem ss_if{x y:List Stmt}{mc:M Bool}{m m':MS}(hc:SB X G F c mc)(ha:SSs X G F x m)(hb:SSs X G F y m'):SS X G F (.If c x y pos) (sIf mc m m'):=by
 refine PS.imp0 (zgo hc ha hb) fun D σ H ⟨tv,h⟩=>⟨tv,(z8e h).mono fun k H1 ⟨ρ1,s1,M1,W⟩=> ?_⟩
 cases k with
 |true=>rw[if_pos rfl];exact⟨tv,h.1,ρ1,s1,M1,W⟩
 |false=>rw[if_neg A6];exact⟨tv,h.1,ρ1,s1,M1,W⟩
noncomputable def tGn(G:Gx)(F:Fy)(g:Tg):TG:=fun v σv H Q=> ∃tv ρ s t,MRL G F.toFx ρ H σv tv s [t] [v]/\∃σ',asg g t s.σ=some σ'/\∀σv',MR G F.toFx ρ H σv' tv {s with σ:=σ'}->Q σv' H
noncomputable def tGs(G:Gx)(F:Fy)(g:List Tg):TGs:=fun vs σv H Q=> ∃tv ρ s ts,MRL G F.toFx ρ H σv tv s ts vs/\∃σ',asgL g ts s.σ=some σ'/\∀σv',MR G F.toFx ρ H σv' tv {s with σ:=σ'}->Q σv' H
noncomputable def SG(X:Cx)(G:Gx)(F:Fy)(tg:Expr)(g:Tg):Prop:=PG X tg (tGn G F g)
noncomputable def SGs(X:Cx)(G:Gx)(F:Fy)(tgs:List Expr)(g:List Tg):Prop:=PGs X tgs (tGs G F g)
theorem MRL.setS{ρ:Nat->Addr}{H:Hp}{σv tv:List (Option V)}{s:Stt}{t:D}{v:V}{ts:List D}{vs:List V}(i:Nat)(M:MRL G F.toFx ρ H σv tv s (t::ts) (v::vs)):MRL G F.toFx ρ H (σv.set i (some v)) tv {s with σ:=s.σ.set i (some t)} ts vs:=by
 have h:=M.rd
 erw[RDs] at h
 obtain⟨_,_,e,h1,h2⟩:=h
 cases e
 have lb1: ∀l∈y9 t,l<s.n/\(F.A0 (ρ l)\/F.H0 (ρ l)=none):=fun l h=>M.lb l (by erw[labsL];exact i5 _ h)
 have all: ∀l∈G5 {s with σ:=s.σ.set i (some t)},l<s.n/\(F.A0 (ρ l)\/F.H0 (ρ l)=none):=fun l h=>by
  rcases i3.mp h with h|h
  ·rcases z2y l h with q|q
   ·exact⟨M.m.lab l (i5 _ q),M.m.own l (i5 _ q)⟩
   ·exact lb1 l q
  ·exact⟨M.m.lab l (c9 _ h),M.m.own l (c9 _ h)⟩
 exact⟨⟨M.m.sl.set i h1,M.m.tm,M.m.inj,M.m.dom,fun l h=>(all l h).1,fun l h=>(all l h).2,M.m.frm,M.m.kd,M.m.frb,M.m.bas⟩,h2,fun l h=>M.lb l (by erw[labsL];exact c9 _ h)⟩
theorem sg_name{i:Nat}{x:Str}{p:Pos}(h:PG X (.Name x p) (z6Q i)):SG X G F (.Name x p) (.nm i):=by
 intro pins s σ H v u Q I r ⟨tv,ρ,ms,t,M,σ',e,k⟩
 erw[asg,Option.some.injEq] at e
 subst e
 exact h pins s σ H v u Q I r (k _ (M.setS i).m)
theorem sgs_nil:SGs X G F [] []:=by
 intro pins s σ H vs us Q I r ⟨tv,ρ,ms,ts,M,σ',e,k⟩
 cases ts with
 |nil=>
  erw[asgL,Option.some.injEq] at e
  subst e
  have h:=M.rd
  erw[RDs] at h
  exact z7D pins s σ H vs us Q I r ⟨h,k _ M.m⟩
 |cons d ds=>erw[asgL] at e;cases e
theorem MRL.cons_inv{ρ:Nat->Addr}{H:Hp}{σv tv:List (Option V)}{s:Stt}{t:D}{ts:List D}{vs:List V}(M:MRL G F.toFx ρ H σv tv s (t::ts) vs): ∃v r,vs=v::r/\MRL G F.toFx ρ H σv tv s [t] [v]/\RDs G ρ H ts r/\LB F.toFx ρ s.n (labsL ts):=by
 have h:=M.rd
 erw[RDs] at h
 obtain⟨v,r,rfl,h1,h2⟩:=h
 exact⟨v,r,rfl,⟨M.m,RDs.one h1,fun l h=>M.lb l (by erw[labsL,l3] at h⊢;exact i5 _ h)⟩,h2,fun l h=>M.lb l (by erw[labsL];exact c9 _ h)⟩
theorem PGs.imp0{es:List Expr}{t t':TGs}(h:PGs X es t)(hi: ∀vs σ H Q,t' vs σ H Q->t vs σ H Q):PGs X es t':=fun pins s σ H vs us Q I r q=>h pins s σ H vs us Q I r (hi vs σ H Q q)
theorem PG.imp0{t t':TG}(h:PG X e t)(hi: ∀v σ H Q,t' v σ H Q->t v σ H Q):PG X e t':=fun pins s σ H v u Q I r q=>h pins s σ H v u Q I r (hi v σ H Q q)
theorem sgs_cons{es:List Expr}{g:Tg}{gs:List Tg}(h1:SG X G F e g)(h2:SGs X G F es gs)(hs:(assignEach (e::es) X.env).map (·.2)=assign e X.env::(assignEach es X.env).map (·.2):=by rfl):SGs X G F (e::es) (g::gs):=by
 refine PGs.imp0 (z3N h1 h2 hs) fun vs σv H Q ⟨tv,ρ,s,ts,M,σ',e,k⟩=> ?_
 cases ts with
 |nil=>erw[asgL] at e;cases e
 |cons d ds=>
  erw[asgL] at e
  cases e1:asg g d s.σ with
  |none=>rw[e1] at e;cases e
  |some σ1=>
   rw[e1] at e
   obtain⟨v,r,rfl,M1,h2,lb⟩:=M.cons_inv
   exact⟨v,r,rfl,tv,ρ,s,d,M1,σ1,e1,fun σv1 M2=>⟨tv,ρ,{s with σ:=σ1},ds,⟨M2,h2,lb⟩,σ',e,k⟩⟩
theorem sg_tup{es:List Expr}{k:Nat}{gs:List Tg}(hk:X.K=G.K)(hc:X.calm=true)(h:SGs X G F es gs)(hn:(assignEach es X.env).length=gs.length:=by rfl)(hst:(assignEach es X.env).findIdx? (·.1)=none:=by rfl):SG X G F (.Tuple es k pos) (.tp gs):=by
 refine PG.imp0 (ze9 hc h hn hst) fun v σv H Q ⟨tv,ρ,s,t,M,σ',e,kk⟩=> ?_
 have len: ∀{gs:List Tg} {ds:List D} {σ σ':List (Option D)},asgL gs ds σ=some σ'->ds.length=gs.length:=by
  intro gs
  induction gs with
  |nil=>intro ds σ σ' e;cases ds with
   |nil=>rfl
   |cons _ _=>erw[asgL] at e;cases e
  |cons g gs ih=>intro ds σ σ' e;cases ds with
   |nil=>erw[asgL] at e;cases e
   |cons d ds=>
    erw[asgL] at e
    cases e1:asg g d σ with
    |none=>rw[e1] at e;cases e
    |some σ1=>rw[e1] at e;rw[l8,l8,ih e]
 cases t with
 |tup ds=>
  erw[asg] at e
  obtain⟨a,xs,rfl,sq,r⟩:=M.rd1.tupq
  refine⟨a,xs,rfl, .inl (hk▸sq),by rw[<-r.length];exact len e,tv,ρ,s,ds,⟨M.m,r,fun l h=>M.lb1 l (by erw[y9];exact h)⟩,σ',e,kk⟩
 |lst l ds=>
  erw[asg] at e
  obtain⟨a,xs,rfl,sq,r,sub⟩:=M.rd1.lstq (ds:=ds) rfl
  refine⟨a,xs,rfl, .inr (hk▸sq),by rw[<-r.length];exact len e,tv,ρ,s,ds,⟨M.m,r,fun l h=>M.lb1 l (sub l h)⟩,σ',e,kk⟩
 |_=>erw[asg] at e;cases e
theorem ss_set{i:Nat}{x:Str}{p:Pos}{m:M D}(h: ∀{te:TE},PE X e te->PS X (.Assign [.Name x p] e pos) (zg5 te (z6Q i)))(he:SE X G F e m):SS X G F (.Assign [.Name x p] e pos) (Q8 (.nm i) m):=by
 refine PS.imp0 (h he) fun D σ H ⟨tv,h⟩=>⟨tv,(z0h h).mono fun v H1 ⟨ρ1,s1,t,M1,W⟩=> ?_⟩
 erw[asg] at W
 exact W ρ1 _ H1 (M1.setS i).m
end
end Mi
namespace L2
open PySem PySem.Spec PyProof.Rows
noncomputable abbrev z8f(ifs:List Expr)(env:Env):Sem Bool:=forIn ifs true fun c r=>if r=true then do let ok<-isTrue c env (eval c env);pure (ForInStep.yield ok) else pure (ForInStep.yield r)
theorem J8{prog:Program}{w:World}{A:Around}{R:Result->Shared->Prop}{s:Shared}{elt target iter:Expr}{ifs:List Expr}{scope:Scope}{pos:Pos}{it acc:Value}{env:Env}(I:Nat->Shared->Prop)
 (turn: ∀n s,I n s->wpAny (model prog w) A (pyNext it) (fun r s₁=>match r with
  |none=>R (.ok .next) s₁
  |some v=>wpAny (model prog w) A (letOwnedTupleGo target it v) (fun _ s₁=>wpAny (model prog w) A (assign target env v) (fun _ s₂=>wpAny (model prog w) A (z8f ifs env) (fun ok s₃=>
   if ok=true then wpAny (model prog w) A (eval elt env) (fun x s₃=>
   wpAny (model prog w) A (call (.builtin "list.append") [acc,x]) (fun _ s₄=> ∃m,m<n/\I m s₄) (fun _ _=>False) s₃)
   (fun _ _=>False) s₃ else ∃m,m<n/\I m s₃) (fun _ _=>False) s₂) (fun _ _=>False) s₁) (fun _ _=>False) s₁) (fun _ _=>False) s)
 (n:Nat) (h:I n s):
 codeAny (model prog w) A (.compLoop (.ListComp elt [⟨target,iter,ifs,0⟩] scope pos) 0 it acc env) R s:=by
 refine codeAny_loop rfl I (fun n s hI=> ?_) n h
 show wpAny _ _ ((compTurn (.ListComp elt [⟨target,iter,ifs,0⟩] scope pos) 0 it acc env).onRaise (fun x=>do noteFrame x env;theTreesLotGoes x)) _ _ s
 refine wpAny_noted ?_
 rw[compTurn_list]
 refine wpAny_bind (wpAny_standAt (wpAny_bind (wpAny_mono (turn n s hI) (fun r s₁ h₁=> ?_) fun _ _ h'=>h'.elim)))
 cases r with
 |none=>exact wpAny_pure h₁
 |some v=>
  refine wpAny_bind (wpAny_mono h₁ (fun _ s₁ h₁=> ?_) fun _ _ h'=>h'.elim)
  refine wpAny_bind (wpAny_mono h₁ (fun _ s₂ h₂=>wpAny_bind (wpAny_mono h₂ (fun ok s₃ h₃=> ?_) fun _ _ h'=>h'.elim)) fun _ _ h'=>h'.elim)
  cases ok with
  |false=>exact wpAny_pure ⟨rfl,h₃⟩
  |true=>
   exact wpAny_bind (wpAny_bind (wpAny_mono h₃ (fun x s₄ h₄=>wpAny_bind (wpAny_mono h₄ (fun _ s₅ h₅=>wpAny_pure (wpAny_pure ⟨rfl,h₅⟩)) fun _ _ h'=>h'.elim)) fun _ _ h'=>h'.elim))
noncomputable def PTs(X:Cx)(ifs:List Expr)(t:TT):Prop:=
 ∀(pins:List (Addr×Obj)) (s:Shared) (σ:St) (H:Hp) (Q:Bool->Hp->Prop),Inv X pins σ H s->t σ H Q->wpAny (model X.prog X.w) X.A (z8f ifs X.env) (TP X pins σ Q) X.xe s
theorem zck{X:Cx}:PTs X [] (fun _ H Q=>Q true H):=fun pins s σ H Q I h=>wpAny_tests_nil ⟨H,I,h⟩
theorem zcl{X:Cx}{c:Expr}{t:TT}(h:PT X c t):PTs X [c] t:=fun pins s σ H Q I q=>wpAny_tests_one (h pins s σ H Q I q)
section
variable{X:Cx}{tg iter elt:Expr}{ifs:List Expr}{pos:Pos}{scope:Scope}{own frees:List Str}{ix:List Nat}{wi:TI}{g:TG}{tt:TT}{te:TE}
noncomputable def z4U(K:W.Frag)(wi:TI)(g:TG)(tt:TT)(te:TE)(k:Nat)(ix:List Nat):TE:=fun σ H Q=>wi σ H fun J H1=> ∀D,H1 D=none->(∀a o,K.lookup a=some o->upd H1 D (.lst []) a=none)->
 ∃W:Nat->Nat->List V->St->Hp->Prop,(∃m,W 0 m [] (k9 k ix σ) (upd H1 D (.lst [])))/\
  ∀i m ys σ' H',W i m ys σ' H'->H' D=some (.lst ys)/\((J.stop i H'/\Q (.ref D) H')\/
   (J.go i H'/\∀x H2,J.yld i H' x H2->g x σ' H2 fun σ2 H3=>tt σ2 H3 fun ok H3=>if ok=true then te σ2 H3 fun y H4=>H4 D=some (.lst ys)/\ys.length<sizeLine/\∃m',m'<m/\W (i+1) m' (ys++[y]) σ2 (upd H4 D (.lst (ys++[y])))
    else ∃m',m'<m/\W (i+1) m' ys σ2 H3))
theorem z4V(hc:X.calm=true)(S:G1 X.env.scope scope own frees X.N ix)(hi:PI X tg iter wi)
 (hg: ∀cl C s₀ H₀ fp pn,PG (compCx X scope own frees cl C s₀ H₀ fp pn) tg g) (ht: ∀cl C s₀ H₀ fp pn,PTs (compCx X scope own frees cl C s₀ H₀ fp pn) ifs tt) (he: ∀cl C s₀ H₀ fp pn,PE (compCx X scope own frees cl C s₀ H₀ fp pn) elt te)
 (hs: ∀x,foldedSetIterable iter X.env x=pure x:=by intro _;rfl):
 PE X (.ListComp elt [⟨tg,iter,ifs,0⟩] scope pos) (z4U X.K wi g tt te own.length ix):=by
 intro pins s σ H Q I h
 have hclos:closureFor scope X.env=pure (V4 X.env scope.names []):=z0g fun y hy e=>I.ok.has y.1 (S.fr y hy e)
 rw[eval_ListComp]
 refine wpAny_comprehension_free (use:=none) rfl hs hclos S.kind S.names (thn (hi pins s σ H _ I h) fun v s1 h1=>thn h1 fun itv s2 h2=> ?_)
 obtain⟨it,fp,tn,J,H2,e,I2,T,st2,f2,hD⟩:=h2
 subst e
 refine wpAny_newObj_type ?_
 have I3:Inv X pins σ (upd H2 s2.heap.objs.size (.lst [])) {s2 with heap:=s2.heap.push {cls:= .type "list",data:= .seq ([]:List Value).toArray}}:=I2.lnew (t':=s2.toks) .nil (C9 _)
 have nD:H2 s2.heap.objs.size=none:=I2.fresh
 obtain⟨W,⟨m0,w0⟩,turn⟩:=hD _ nD fun a o e=>(I3.bs a o (I3.ok.mod.kin a o e)).2
 have fpl: ∀b∈fp,b<s2.heap.objs.size:=fun b z=>by
  obtain⟨o,q,_⟩:=T.obj _ _ st2 b z
  exact Heap.lt_size q
 generalize hs3:({s2 with heap:=s2.heap.push {cls:= .type "list",data:= .seq ([]:List Value).toArray}}:Shared)=s3 at I3
 have hpush: ∀b o,s2.heap.get? b=some o->s3.heap.get? b=some o:=fun b o q=>by rw[<-hs3];exact Heap.get?_push_of_some _ q
 have hsz3:s2.heap.objs.size<s3.heap.objs.size:=by rw[<-hs3];show _<(s2.heap.push _).objs.size;rw[Heap.size_push];exact B6 _
 have f3: ∀b∈fp,z3m X pins (upd H2 s2.heap.objs.size (.lst [])) b:=fun b z=>⟨by rw[Z6 (o0 (fpl b z))];exact(f2 b z).1,(f2 b z).2⟩
 have st3:tn 0 s3.heap:=T.keep _ _ _ st2 fun b _ o q=>hpush b o q
 generalize hDd:s2.heap.objs.size=D at*
 generalize hH3:upd H2 D (.lst [])=H3 at*
 have goal:wpAny (model X.prog X.w) X.A (newFunctionEnv scope X.env.globals (V4 X.env scope.names []) [] X.env.qual none .none (some X.env)) (fun cenv s₄=>
  codeAny (model X.prog X.w) X.A (.compStart (.ListComp elt [⟨tg,iter,ifs,0⟩] scope pos) 0 (.ref it) (.ref D) {cenv with scope:=relabel scope X.env}) (compPost (model X.prog X.w) X.A X.xe none (EP X pins σ Q) (.ref D) cenv.locals) s₄) X.xe s3:=by
  refine wpAny_newFunctionEnv S.nocell (by intro y hy;simp at hy) (fun h1 hns hsb=> ?_) S.kind
  have hns:h1.Ns s3.heap.objs.size (fun _=>none):=hns
  have keep4: ∀b o,s3.heap.get? b=some o->h1.get? b=some o:=fun b o q=>hsb.extBut b o (o0 (Heap.lt_size q)) (Heap.get?_push_of_some _ q)
  have fpl3: ∀b∈fp,b<s3.heap.objs.size:=fun b z=>P7 (fpl b z) hsz3
  generalize hs4:({s3 with heap:=h1,toks:=s3.toks+([]:List (Str×Value)).length}:Shared)=s4
  have I4:Inv (compCx X scope own frees (V4 X.env scope.names []) s3.heap.objs.size s3 H3 fp (X.pn++pins)) [] (k9 own.length ix σ) H3 s4:=
   z3t S I3 f3 fpl3 (by rw[<-hs4]) (by rw[<-hs4]) (fun b o q=>by rw[<-hs4];exact keep4 b o q) (by rw[<-hs4];exact hns)
  have st4:tn 0 s4.heap:=T.keep _ _ _ st3 fun b _ o q=>by rw[<-hs4];exact keep4 b o q
  generalize hXc:compCx X scope own frees (V4 X.env scope.names []) s3.heap.objs.size s3 H3 fp (X.pn++pins)=Y at I4
  have eP:Y.prog=X.prog:=by rw[<-hXc];rfl
  have eW:Y.w=X.w:=by rw[<-hXc];rfl
  have eK:Y.K=X.K:=by rw[<-hXc];rfl
  have eA:Y.A=X.A:=by rw[<-hXc];rfl
  have eC:Y.calm=true:=by rw[<-hXc];exact hc
  have eE:Y.env=compEnvC scope (V4 X.env scope.names []) s3.heap.objs.size X.env:=by rw[<-hXc];rfl
  have eX:Y.xe=fun _ _=>False:=by rw[<-hXc];rfl
  have eF: ∀{H':Hp},(∀b∈fp,H' b=none)->∀b∈fp,z3m Y [] H' b:=fun{H'} hn b hb=>by
   rw[<-hXc]
   obtain⟨g1,g2,g3,g4,g5,g6⟩:=f3 b hb
   refine⟨hn b hb,o0 (fpl3 b hb),fun q=> ?_, .inl hb,fun x c e=> ?_,fun p hp=> ?_⟩
   ·rcases i0.mp (I3.stkSub b q) with r|r
    ·exact g2 r
    ·exact g3 r
   ·rcases z0R _ _ e with q|q
    ·exact nomatch q
    ·exact g5 x c q.1
   ·have hp:p∈(X.pn++pins)++[]:=hp
    rw[l3] at hp
    exact g6 p hp
  have gY:PG Y tg g:=by rw[<-hXc];exact hg _ _ _ _ _ _
  have tY:PE Y elt te:=by rw[<-hXc];exact he _ _ _ _ _ _
  have sY:PTs Y ifs tt:=by rw[<-hXc];exact ht _ _ _ _ _ _
  have loop:codeAny (model X.prog X.w) X.A (.compLoop (.ListComp elt [⟨tg,iter,ifs,0⟩] scope pos) 0 (.ref it) (.ref D) (compEnvC scope (V4 X.env scope.names []) s3.heap.objs.size X.env))
   (compPost (model X.prog X.w) X.A X.xe none (EP X pins σ Q) (.ref D) s3.heap.objs.size) s4:=by
   refine J8 (fun n s'=> ∃i ys σ' H',Inv Y [] σ' H' s'/\tn i s'.heap/\(∀b∈fp,H' b=none)/\W i n ys σ' H') ?_ m0 ⟨0,[],_,_,I4,st4,fun b hb=>(f3 b hb).1,w0⟩
   rintro n s5 ⟨i,ys,σ5,H5,I5,st5,fr5,w5⟩
   obtain⟨hD5,alt⟩:=turn i n ys σ5 H5 w5
   rcases alt with⟨stop,qn⟩|⟨go,step⟩
   ·have d:=T.done Y eP eW eK eC i [] s5 σ5 H5 (fun _ _=>False) I5 (eF fr5) st5 stop
    rw[eA] at d
    refine thn d fun r s6 ⟨hr,I6⟩=> ?_
    subst hr
    subst hXc
    obtain⟨m6,n6,_⟩:=I6.loc
    exact⟨m6,n6,fun h'' hs''=>⟨.ref D,H5,z3W I3 f3 (i4 _) I6 hs'',rfl,qn⟩⟩
   ·have d:=T.item Y eP eW eK eC i [] s5 σ5 H5 (fun _ _=>False) I5 (eF fr5) st5 go
    rw[eA] at d
    refine thn d fun r s6 ⟨u,hr,h6⟩=> ?_
    subst hr
    refine thn h6 fun _ s7 ⟨x,H7,I7,r7,y7,st7,fr7⟩=> ?_
    have I7':=I7.pinned (eF fr7) (T.obj _ _ st7)
    have e1:=gY _ s7 σ5 H7 x u _ I7' r7 (step x H7 y7)
    rw[eP,eW,eA,eE,eX] at e1
    refine thn e1 fun _ s8 ⟨σ8,H8,I8,q8⟩=> ?_
    have e1':=sY _ s8 σ8 H8 _ I8 q8
    rw[eP,eW,eA,eE,eX] at e1'
    refine thn e1' fun ok s8 ⟨H8,I8,q8⟩=> ?_
    cases ok with
    |false=>
     rw[if_neg A6] at q8⊢
     obtain⟨m',hm',w9⟩:=q8
     refine⟨m',hm',i+1,_,σ8,_,I8.unpinned,T.keep _ _ _ st7 fun b hb o e=> ?_,fun b hb=> ?_,w9⟩
     ·exact(I8.pin (b,o) (c9 _ (c9 _ (W6 hb e)))).1
     ·obtain⟨o,e,d⟩:=T.obj _ _ st7 b hb
      exact(I8.pin (b,o) (c9 _ (c9 _ (W6 hb e)))).2.1
    |true=>
    rw[if_pos rfl] at q8⊢
    have e2:=tY _ s8 σ8 H8 _ I8 q8
    rw[eP,eW,eA,eE,eX] at e2
    refine thn e2 fun yv s9 ⟨y,H9,I9,r9,hD9,hz9,m',hm',w9⟩=> ?_
    have e3:=z1s (X:=Y) _ s9 σ8 H9 (.ref D) [y] (.ref D) [yv] (fun v H'=>v= .non/\H'=upd H9 D (.lst (ys++[y]))) I9 rfl (.cons r9 .nil) ⟨D,ys,y,rfl,rfl,hD9,hz9,rfl,rfl⟩
    rw[eP,eW,eA,eX] at e3
    refine thn e3 fun _ s10 ⟨v10,H10,I10,r10,_,e10⟩=> ?_
    subst e10
    refine⟨m',hm',i+1,_,σ8,_,I10.unpinned,T.keep _ _ _ st7 fun b hb o e=> ?_,fun b hb=> ?_,w9⟩
    ·exact(I10.pin (b,o) (c9 _ (c9 _ (W6 hb e)))).1
    ·obtain⟨o,e,d⟩:=T.obj _ _ st7 b hb
     exact(I10.pin (b,o) (c9 _ (c9 _ (W6 hb e)))).2.1
  exact codeAny_compStart_list loop (T.self _ 0 _ _ _ st4 loop)
 exact goal
theorem z8g{y:Str}{py spos:Pos}{i:Nat}(hN:X.N.Nodup)(hy:X.N[i]? =some y)(hx:Loc X.env.scope y)(hfn:X.fn y=true\/X.env.scope.names.lookup y=some .local)(hsw:swapsWith (.ListComp elt [⟨tg,iter,ifs,0⟩] scope pos) (some (.Name y py)) spos.line X.env=pure true)(hc:X.calm=true)(S:G1 X.env.scope scope own frees X.N ix)(hi:PI X tg iter wi)
 (hg: ∀cl C s₀ H₀ fp pn,PG (compCx X scope own frees cl C s₀ H₀ fp pn) tg g) (ht: ∀cl C s₀ H₀ fp pn,PTs (compCx X scope own frees cl C s₀ H₀ fp pn) ifs tt) (he: ∀cl C s₀ H₀ fp pn,PE (compCx X scope own frees cl C s₀ H₀ fp pn) elt te)
 (hs: ∀x,foldedSetIterable iter X.env x=pure x:=by intro _;rfl):
 PS X (.Assign [.Name y py] (.ListComp elt [⟨tg,iter,ifs,0⟩] scope pos) spos) (fun Dd σ H=>z4U X.K wi g tt te own.length ix σ H fun v H'=>Dd.nx (σ.set i (some v)) H'):=by
 intro pins s σ H Dd I h
 have hclos:closureFor scope X.env=pure (V4 X.env scope.names []):=z0g fun y hy e=>I.ok.has y.1 (S.fr y hy e)
 rw[exec_Assign_Name_used _ _ _ _ hsw]
 refine wpAny_bind (wpAny_standAt (wpAny_bind ?_))
 show wpAny _ X.A (do let _<-comprehension (.ListComp elt [⟨tg,iter,ifs,0⟩] scope pos) scope X.env _ (newList []) false (eval iter X.env) (some (assign (.Name y py) X.env))) _ _ s
 refine wpAny_bind (wpAny_mono (wpAny_comprehension_free (use:=some (assign (.Name y py) X.env)) (Q:=fun _ s'=>SP X pins Dd .next s') rfl hs hclos S.kind S.names (thn (hi pins s σ H _ I h) fun v s1 h1=>thn h1 fun itv s2 h2=> ?_)) (fun _ s' hq=>wpAny_pure (wpAny_pure hq)) fun _ _ e=>e)
 obtain⟨it,fp,tn,J,H2,e,I2,T,st2,f2,hD⟩:=h2
 subst e
 refine wpAny_newObj_type ?_
 have I3:Inv X pins σ (upd H2 s2.heap.objs.size (.lst [])) {s2 with heap:=s2.heap.push {cls:= .type "list",data:= .seq ([]:List Value).toArray}}:=I2.lnew (t':=s2.toks) .nil (C9 _)
 have nD:H2 s2.heap.objs.size=none:=I2.fresh
 obtain⟨W,⟨m0,w0⟩,turn⟩:=hD _ nD fun a o e=>(I3.bs a o (I3.ok.mod.kin a o e)).2
 have fpl: ∀b∈fp,b<s2.heap.objs.size:=fun b z=>by
  obtain⟨o,q,_⟩:=T.obj _ _ st2 b z
  exact Heap.lt_size q
 generalize hs3:({s2 with heap:=s2.heap.push {cls:= .type "list",data:= .seq ([]:List Value).toArray}}:Shared)=s3 at I3
 have hpush: ∀b o,s2.heap.get? b=some o->s3.heap.get? b=some o:=fun b o q=>by rw[<-hs3];exact Heap.get?_push_of_some _ q
 have hsz3:s2.heap.objs.size<s3.heap.objs.size:=by rw[<-hs3];show _<(s2.heap.push _).objs.size;rw[Heap.size_push];exact B6 _
 have f3: ∀b∈fp,z3m X pins (upd H2 s2.heap.objs.size (.lst [])) b:=fun b z=>⟨by rw[Z6 (o0 (fpl b z))];exact(f2 b z).1,(f2 b z).2⟩
 have st3:tn 0 s3.heap:=T.keep _ _ _ st2 fun b _ o q=>hpush b o q
 generalize hDd:s2.heap.objs.size=D at*
 generalize hH3:upd H2 D (.lst [])=H3 at*
 have goal:wpAny (model X.prog X.w) X.A (newFunctionEnv scope X.env.globals (V4 X.env scope.names []) [] X.env.qual none .none (some X.env)) (fun cenv s₄=>
  codeAny (model X.prog X.w) X.A (.compStart (.ListComp elt [⟨tg,iter,ifs,0⟩] scope pos) 0 (.ref it) (.ref D) {cenv with scope:=relabel scope X.env}) (compPost (model X.prog X.w) X.A X.xe (some (assign (.Name y py) X.env)) (fun _ s'=>SP X pins Dd .next s') (.ref D) cenv.locals) s₄) X.xe s3:=by
  refine wpAny_newFunctionEnv S.nocell (by intro y hy;simp at hy) (fun h1 hns hsb=> ?_) S.kind
  have hns:h1.Ns s3.heap.objs.size (fun _=>none):=hns
  have keep4: ∀b o,s3.heap.get? b=some o->h1.get? b=some o:=fun b o q=>hsb.extBut b o (o0 (Heap.lt_size q)) (Heap.get?_push_of_some _ q)
  have fpl3: ∀b∈fp,b<s3.heap.objs.size:=fun b z=>P7 (fpl b z) hsz3
  generalize hs4:({s3 with heap:=h1,toks:=s3.toks+([]:List (Str×Value)).length}:Shared)=s4
  have I4:Inv (compCx X scope own frees (V4 X.env scope.names []) s3.heap.objs.size s3 H3 fp (X.pn++pins)) [] (k9 own.length ix σ) H3 s4:=
   z3t S I3 f3 fpl3 (by rw[<-hs4]) (by rw[<-hs4]) (fun b o q=>by rw[<-hs4];exact keep4 b o q) (by rw[<-hs4];exact hns)
  have st4:tn 0 s4.heap:=T.keep _ _ _ st3 fun b _ o q=>by rw[<-hs4];exact keep4 b o q
  generalize hXc:compCx X scope own frees (V4 X.env scope.names []) s3.heap.objs.size s3 H3 fp (X.pn++pins)=Y at I4
  have eP:Y.prog=X.prog:=by rw[<-hXc];rfl
  have eW:Y.w=X.w:=by rw[<-hXc];rfl
  have eK:Y.K=X.K:=by rw[<-hXc];rfl
  have eA:Y.A=X.A:=by rw[<-hXc];rfl
  have eC:Y.calm=true:=by rw[<-hXc];exact hc
  have eE:Y.env=compEnvC scope (V4 X.env scope.names []) s3.heap.objs.size X.env:=by rw[<-hXc];rfl
  have eX:Y.xe=fun _ _=>False:=by rw[<-hXc];rfl
  have eF: ∀{H':Hp},(∀b∈fp,H' b=none)->∀b∈fp,z3m Y [] H' b:=fun{H'} hn b hb=>by
   rw[<-hXc]
   obtain⟨g1,g2,g3,g4,g5,g6⟩:=f3 b hb
   refine⟨hn b hb,o0 (fpl3 b hb),fun q=> ?_, .inl hb,fun x c e=> ?_,fun p hp=> ?_⟩
   ·rcases i0.mp (I3.stkSub b q) with r|r
    ·exact g2 r
    ·exact g3 r
   ·rcases z0R _ _ e with q|q
    ·exact nomatch q
    ·exact g5 x c q.1
   ·have hp:p∈(X.pn++pins)++[]:=hp
    rw[l3] at hp
    exact g6 p hp
  have gY:PG Y tg g:=by rw[<-hXc];exact hg _ _ _ _ _ _
  have tY:PE Y elt te:=by rw[<-hXc];exact he _ _ _ _ _ _
  have sY:PTs Y ifs tt:=by rw[<-hXc];exact ht _ _ _ _ _ _
  have loop:codeAny (model X.prog X.w) X.A (.compLoop (.ListComp elt [⟨tg,iter,ifs,0⟩] scope pos) 0 (.ref it) (.ref D) (compEnvC scope (V4 X.env scope.names []) s3.heap.objs.size X.env))
   (compPost (model X.prog X.w) X.A X.xe (some (assign (.Name y py) X.env)) (fun _ s'=>SP X pins Dd .next s') (.ref D) s3.heap.objs.size) s4:=by
   refine J8 (fun n s'=> ∃i ys σ' H',Inv Y [] σ' H' s'/\tn i s'.heap/\(∀b∈fp,H' b=none)/\W i n ys σ' H') ?_ m0 ⟨0,[],_,_,I4,st4,fun b hb=>(f3 b hb).1,w0⟩
   rintro n s5 ⟨i,ys,σ5,H5,I5,st5,fr5,w5⟩
   obtain⟨hD5,alt⟩:=turn i n ys σ5 H5 w5
   rcases alt with⟨stop,qn⟩|⟨go,step⟩
   ·have d:=T.done Y eP eW eK eC i [] s5 σ5 H5 (fun _ _=>False) I5 (eF fr5) st5 stop
    rw[eA] at d
    refine thn d fun r s6 ⟨hr,I6⟩=> ?_
    subst hr
    subst hXc
    obtain⟨m6,n6,_⟩:=I6.loc
    have n6:s6.heap.Ns s3.heap.objs.size m6:=n6
    have I7:Inv X pins σ H5 s6:=z3W (h':=s6.heap) I3 f3 (i4 _) I6 (Heap.SameBut.refl _ _)
    have fC:z3m X pins H5 s3.heap.objs.size:=I3.fpOk (i4 _) I6.free
    obtain⟨oC,eC,dC⟩: ∃o,s6.heap.get? s3.heap.objs.size=some o/\∀v,o.data≠ .cell v:=by
     obtain⟨o,es,ep,e1,e2,e3⟩:=n6
     exact⟨o,e1,fun v z=>by simp_all⟩
    have I8:=I7.pinned (fp:=[s3.heap.objs.size]) (fun b hb=>by
     have e:b=s3.heap.objs.size:=by simpa using hb
     rw[e];exact fC) (fun b hb=>by
     have e:b=s3.heap.objs.size:=by simpa using hb
     rw[e];exact⟨oC,eC,dC⟩)
    show wpAny _ _ (assign (.Name y py) X.env (.ref D)) _ _ s6
    refine wpAny_assign_Name (z2f (v:= .ref D) I8 hN hy hx rfl (fun s7 I9=> ?_) hfn)
    have e7:s7.heap.get? s3.heap.objs.size=some oC:=(I9.pin (s3.heap.objs.size,oC) (c9 _ (c9 _ (W6 (by simp) eC)))).1
    refine⟨m6,n6.at' fun o e=>by rw[eC] at e;cases e;exact e7,fun h3 hs3=>⟨_,H5, ?_,qn⟩⟩
    exact I9.unpinned.turned (t':=s7.toks) (fun b o hb e=>(hs3.2 b hb).trans e) fC.1 fC.2.1 fC.2.2.2.1 fC.2.2.2.2.1 fC.2.2.2.2.2
   ·have d:=T.item Y eP eW eK eC i [] s5 σ5 H5 (fun _ _=>False) I5 (eF fr5) st5 go
    rw[eA] at d
    refine thn d fun r s6 ⟨u,hr,h6⟩=> ?_
    subst hr
    refine thn h6 fun _ s7 ⟨x,H7,I7,r7,y7,st7,fr7⟩=> ?_
    have I7':=I7.pinned (eF fr7) (T.obj _ _ st7)
    have e1:=gY _ s7 σ5 H7 x u _ I7' r7 (step x H7 y7)
    rw[eP,eW,eA,eE,eX] at e1
    refine thn e1 fun _ s8 ⟨σ8,H8,I8,q8⟩=> ?_
    have e1':=sY _ s8 σ8 H8 _ I8 q8
    rw[eP,eW,eA,eE,eX] at e1'
    refine thn e1' fun ok s8 ⟨H8,I8,q8⟩=> ?_
    cases ok with
    |false=>
     rw[if_neg A6] at q8⊢
     obtain⟨m',hm',w9⟩:=q8
     refine⟨m',hm',i+1,_,σ8,_,I8.unpinned,T.keep _ _ _ st7 fun b hb o e=> ?_,fun b hb=> ?_,w9⟩
     ·exact(I8.pin (b,o) (c9 _ (c9 _ (W6 hb e)))).1
     ·obtain⟨o,e,d⟩:=T.obj _ _ st7 b hb
      exact(I8.pin (b,o) (c9 _ (c9 _ (W6 hb e)))).2.1
    |true=>
    rw[if_pos rfl] at q8⊢
    have e2:=tY _ s8 σ8 H8 _ I8 q8
    rw[eP,eW,eA,eE,eX] at e2
    refine thn e2 fun yv s9 ⟨y,H9,I9,r9,hD9,hz9,m',hm',w9⟩=> ?_
    have e3:=z1s (X:=Y) _ s9 σ8 H9 (.ref D) [y] (.ref D) [yv] (fun v H'=>v= .non/\H'=upd H9 D (.lst (ys++[y]))) I9 rfl (.cons r9 .nil) ⟨D,ys,y,rfl,rfl,hD9,hz9,rfl,rfl⟩
    rw[eP,eW,eA,eX] at e3
    refine thn e3 fun _ s10 ⟨v10,H10,I10,r10,_,e10⟩=> ?_
    subst e10
    refine⟨m',hm',i+1,_,σ8,_,I10.unpinned,T.keep _ _ _ st7 fun b hb o e=> ?_,fun b hb=> ?_,w9⟩
    ·exact(I10.pin (b,o) (c9 _ (c9 _ (W6 hb e)))).1
    ·obtain⟨o,e,d⟩:=T.obj _ _ st7 b hb
     exact(I10.pin (b,o) (c9 _ (c9 _ (W6 hb e)))).2.1
  exact codeAny_compStart_list loop (T.self _ 0 _ _ _ st4 loop)
 exact goal
end
structure z0a(osc sc:Scope)(own frees N:List Str)(ix:List Nat):Prop where
 kind:sc.kind= .function
 names: ∀y∈sc.names,y.2= .local->sc.names.lookup y.1=some .local
 fr: ∀y∈sc.names,y.2= .free->osc.names.lookup y.1=some .cell\/osc.names.lookup y.1=some .free
 nd:(own++frees).Nodup
 frl: ∀x∈frees,sc.names.lookup x=some .free
 ixs:ix.map (fun i=>N[i]?)=frees.map some
 frc: ∀y∈sc.names,y.2= .cell->y.1∉frees
 owf: ∀y∈sc.names,y.2= .free->y.1∉own
noncomputable def z3Z(osc sc:Scope)(own frees N:List Str)(ix:List Nat):Bool:=
 decide (sc.kind= .function)&&sc.names.all (fun y=>decide (y.2= .local->sc.names.lookup y.1=some .local))&&
  sc.names.all (fun y=>decide (y.2= .free->osc.names.lookup y.1=some .cell\/osc.names.lookup y.1=some .free))&&decide (own++frees).Nodup&&frees.all (fun x=>decide (sc.names.lookup x=some .free))&&
  decide (ix.map (fun i=>N[i]?)=frees.map some)&&sc.names.all (fun y=>decide (y.2= .cell->y.1∉frees))&&sc.names.all (fun y=>decide (y.2= .free->y.1∉own))
theorem z3Z.sc{osc sc:Scope}{own frees N:List Str}{ix:List Nat}(h:z3Z osc sc own frees N ix=true):z0a osc sc own frees N ix:=by
 unfold z3Z at h
 erw[l0,D4,decide_eq_true_eq] at h
 obtain⟨⟨⟨⟨⟨⟨⟨h1,h3⟩,h4⟩,h5⟩,h6⟩,h7⟩,h8⟩,h9⟩:=h
 exact⟨h1,h3,h4,h5,h6,h7,h8,h9⟩
noncomputable def V1(X:Cx)(scope:Scope)(own frees:List Str)(cl:List (Str×Addr))(C:Addr)(s₀:Shared)(H₀:Hp)(fp:List Addr)(pn:List (Addr×Obj)):Cx:=
 {compCx X scope own frees cl C s₀ H₀ fp pn with fn:=fun x=>own.contains x}
theorem z0i: ∀(names:List (Str×NameKind)) (n:Nat) (a b:List (Str×Addr)),cellsFrom n names (a++b)=cellsFrom n names a++b
 |[],_,_,_=>rfl
 |(name,kind)::r,n,a,b=>by
  unfold cellsFrom
  split
  ·exact z0i r (n+1) ((name,n)::a) b
  ·exact z0i r n a b
theorem z0j: ∀(names:List (Str×NameKind)) (n:Nat) (a:List (Str×Addr)) (x:Str) (c:Addr),(x,c)∈cellsFrom n names a->(x,c)∈a\/(x,NameKind.cell)∈names
 |[],_,_,_,_,h=> .inl h
 |(name,kind)::r,n,a,x,c,h=>by
  unfold cellsFrom at h
  split at h
  ·rename_i hk
   rcases z0j r (n+1) _ x c h with q|q
   ·rcases i0.mp q with q|q
    ·cases q;rw[eq_of_beq hk];exact .inr l4
    ·exact .inl q
   ·exact .inr (e9 _ q)
  ·rcases z0j r n a x c h with q|q
   ·exact .inl q
   ·exact .inr (e9 _ q)
theorem z0k: ∀(names:List (Str×NameKind)) (n:Nat) (a:List (Str×Addr)) (x:Str),((∃c,a.lookup x=some c)\/(x,NameKind.cell)∈names)->∃c,(cellsFrom n names a).lookup x=some c
 |[],_,_,_,h=>by rcases h with h|h;exact h;cases h
 |(name,kind)::r,n,a,x,h=>by
  unfold cellsFrom
  split
  ·rename_i hk
   refine z0k r (n+1) _ x ?_
   by_cases hx:(x==name)=true
   ·exact .inl ⟨n,by rw[B0,hx]⟩
   ·have hx':(x==name)=false:=by simpa using hx
    rcases h with⟨c,h⟩|h
    ·exact .inl ⟨c,by rw[B0,hx'];exact h⟩
    ·rcases i0.mp h with q|q
     ·cases q;simp at hx
     ·exact .inr q
  ·rename_i hk
   refine z0k r n a x ?_
   rcases h with h|h
   ·exact .inl h
   ·rcases i0.mp h with q|q
    ·cases q;simp at hk
    ·exact .inr q
theorem z04{M:Model}{A:Around}{E:Value->Shared->Prop}{s:Shared}{scope:Scope}{globals:Addr}{cl:List (Str×Addr)}{qual:Str}{func:Option Addr}{code:Value}{env:Env}{builtins:Addr}{Q:Env->Shared->Prop}
 (hQ: ∀h',h'.Ns s.heap.objs.size (fun _=>none)->(∀b o,s.heap.get? b=some o->h'.get? b=some o)->CellsOk h' (s.heap.objs.size+1) (cellsFrom (s.heap.objs.size+1) scope.names [])->
  Q (newEnv scope s.heap.objs.size globals (cellsFrom (s.heap.objs.size+1) scope.names []++cl) qual func code (some env) builtins) {s with heap:=h'}):
 wpAny M A (newFunctionEnv scope globals cl [] qual func code (some env) builtins) Q E s:=by
 erw[newFunctionEnv,F7,if_true]
 refine wpAny_bind (wpAny_alloc ?_)
 refine wpAny_bind (wpAny_layCells _ (fun name kind cells=>by cases hkc:kind==NameKind.cell<;>simp[hkc]) _ _ _ _ ?_)
 have ok:=cellsFrom_ok scope.names (s.heap.push {cls:= .type "dict",data:= .dict #[]}) (s.heap.objs.size+1) [] ⟨fun _ _ hm=>(nomatch hm),List.Pairwise.nil⟩ (by rw[Heap.size_push];exact i4 _)
 rw[Heap.size_push] at ok
 rw[show({s with heap:=s.heap.push {cls:= .type "dict",data:= .dict #[]}}:Shared).heap.objs.size=s.heap.objs.size+1 from Heap.size_push ..]
 rw[show cellsFrom (s.heap.objs.size+1) scope.names cl=cellsFrom (s.heap.objs.size+1) scope.names []++cl from z0i scope.names _ [] cl]
 refine wpAny_bind ?_
 rw[List.forIn_nil]
 refine wpAny_pure (wpAny_pure ?_)
 exact hQ _ ((Heap.Ns.new s.heap (.type "dict")).keeps (pushCells_keeps _ _)) (fun b o e=>pushCells_keeps _ _ b o (Heap.get?_push_of_some _ e)) ok
section
variable{X:Cx}{tg iter elt:Expr}{ifs:List Expr}{pos:Pos}{scope:Scope}{own frees:List Str}{ix:List Nat}{wi:TI}{g:TG}{tt:TT}{te:TE}
noncomputable def U9(X:Cx)(scope:Scope)(n:Nat):List (Str×Addr):=cellsFrom n scope.names []++V4 X.env scope.names []
theorem K0{n:Nat}{x:Str}{c:Addr}(h:(U9 X scope n).lookup x=some c):(cellsFrom n scope.names []).lookup x=some c\/((cellsFrom n scope.names []).lookup x=none/\(V4 X.env scope.names []).lookup x=some c):=by
 unfold U9 at h
 rw[O5] at h
 cases e:(cellsFrom n scope.names []).lookup x with
 |some d=>rw[e] at h;exact .inl h
 |none=>rw[e] at h;exact .inr ⟨rfl,h⟩
theorem z3v{n:Nat}{x:Str}{c:Addr}(h:(cellsFrom n scope.names []).lookup x=some c):(U9 X scope n).lookup x=some c:=by
 unfold U9
 rw[O5,h];rfl
theorem z3w{n:Nat}{x:Str}{c:Addr}(h:(cellsFrom n scope.names []).lookup x=none)(h2:(V4 X.env scope.names []).lookup x=some c):(U9 X scope n).lookup x=some c:=by
 unfold U9
 rw[O5,h,h2];rfl
theorem Inv.ofC{cl:List (Str×Addr)}{C:Addr}{s₀ s:Shared}{H₀ H:Hp}{fp:List Addr}{pn pins:List (Addr×Obj)}{σ:St}(I:Inv (V1 X scope own frees cl C s₀ H₀ fp pn) pins σ H s):Inv (compCx X scope own frees cl C s₀ H₀ fp pn) pins σ H s:=
 ⟨⟨I.ok.mod,I.ok.kind,I.ok.glob,I.ok.blt,I.ok.above,I.ok.inj,I.ok.has,fun _ _ z=>P3 z,I.ok.hd,I.ok.frames,I.ok.stk,I.ok.exf,I.ok.bs,I.ok.bsz,I.ok.noex,I.ok.exfs,I.ok.funs,I.ok.frf⟩,I.os,I.bare,I.base,I.loc,I.cell,I.free,I.freeC,I.pin,I.hok,I.len⟩
theorem z5E{pins:List (Addr×Obj)}{σ:St}{H:Hp}{s s1:Shared}{fp:List Addr}(S:z0a X.env.scope scope own frees X.N ix)(I:Inv X pins σ H s)(hf: ∀b∈fp,z3m X pins H b)(hb: ∀b∈fp,b<s.heap.objs.size)
 (ho:s1.os=s.os) (hg:s1.gens=s.gens) (hk: ∀b o,s.heap.get? b=some o->s1.heap.get? b=some o) (hn:s1.heap.Ns s.heap.objs.size (fun _=>none)) (hcl:CellsOk s1.heap (s.heap.objs.size+1) (cellsFrom (s.heap.objs.size+1) scope.names [])):
 Inv (V1 X scope own frees (U9 X scope (s.heap.objs.size+1)) s.heap.objs.size s H fp (X.pn++pins)) [] (k9 own.length ix σ) H s1:=by
 have clos: ∀x c,(V4 X.env scope.names []).lookup x=some c->X.env.cells.lookup x=some c/\(x,NameKind.free)∈scope.names:=fun x c h=>by
  rcases z0R _ _ h with q|q
  ·exact nomatch q
  ·exact q
 have hlen:ix.length=frees.length:=by
  have:=congrArg D7 S.ixs
  simpa using this
 have cne: ∀x c,X.env.cells.lookup x=some c->c<s.heap.objs.size:=fun x c e=>by
  obtain⟨v,o,q,_⟩:=I.cell x c e
  exact Heap.lt_size q
 have nw: ∀x c,(cellsFrom (s.heap.objs.size+1) scope.names []).lookup x=some c->s1.heap.IsCell c none/\s.heap.objs.size+1<=c:=fun x c e=>hcl.empty x c (PySem.mem_of_lookup e)
 have dis: ∀x y c,(U9 X scope (s.heap.objs.size+1)).lookup x=some c->(U9 X scope (s.heap.objs.size+1)).lookup y=some c->x=y:=fun x y c h1 h2=>by
  rcases K0 h1 with q1|⟨_,q1⟩<;>rcases K0 h2 with q2|⟨_,q2⟩
  ·exact PySem.name_of_addr hcl.apart (PySem.mem_of_lookup q1) (PySem.mem_of_lookup q2)
  ·exact absurd (n9 (cne _ _ (clos _ _ q2).1) (E1 (nw _ _ q1).2)) (B1 _)
  ·exact absurd (n9 (cne _ _ (clos _ _ q1).1) (E1 (nw _ _ q2).2)) (B1 _)
  ·exact I.ok.inj x y c (clos _ _ q1).1 (clos _ _ q2).1
 refine⟨⟨I.ok.mod,S.kind,I.ok.glob,I.ok.blt,i4 _,dis,fun x hx=> ?_,fun x c z e=> ?_,I.ok.hd,I.ok.frames, .inl rfl,fun b z=>⟨o0 (hb b z),fun x c e=> ?_⟩,I.bs,
  C0 I.ok.bsz I.sz,fun b o e z=> ?_,fun b z=> ?_,I.stack,I.stkFree⟩,ho, ?_,Un.kept hk,⟨_,hn,fun i x v h1 h2 h3=> ?_⟩,fun x c e=> ?_,I.fresh,fun x c e=> ?_,fun p hp=> ?_,I.hok.kept hk, ?_⟩
 ·have hx:(relabel scope X.env).names.lookup x=some .cell\/(relabel scope X.env).names.lookup x=some .free:=hx
  rcases V0 hx with q|q
  ·have m:(x,NameKind.free)∈scope.names:=PySem.mem_of_lookup q
   obtain⟨c,hc⟩:=I.ok.has x (S.fr _ m rfl)
   obtain⟨c',hc'⟩:=z0y (env:=X.env) scope.names [] (.inr ⟨m,c,hc⟩)
   cases e:(cellsFrom (s.heap.objs.size+1) scope.names []).lookup x with
   |some d=>exact⟨d,z3v e⟩
   |none=>exact⟨c',z3w e hc'⟩
  ·obtain⟨c,hc⟩:=z0k scope.names (s.heap.objs.size+1) [] x (.inr (PySem.mem_of_lookup q))
   exact⟨c,z3v hc⟩
 ·have e:(U9 X scope (s.heap.objs.size+1)).lookup x=some c:=e
  have z:x∈own:=by
   have z:own.contains x=true:=z
   simpa using z
  rcases K0 e with q|⟨_,q⟩
  ·exact E1 (nw _ _ q).2
  ·exact absurd z (S.owf _ (clos _ _ q).2 rfl)
 ·have e:(U9 X scope (s.heap.objs.size+1)).lookup x=some c:=e
  rcases K0 e with q|⟨_,q⟩
  ·exact O3 (n9 (hb b z) (E1 (nw _ _ q).2))
  ·exact(hf b z).2.2.2.2.1 x c (clos x c q).1
 ·rcases(hf b z).2.2.2.1 with q|q
  ·exact I.ok.noex b o e q
  ·exact absurd (Heap.lt_size (I.ok.bs b o e).1) (F9.mpr q)
 ·intro q
  rcases i0.mp (I.stkSub b q) with r|r
  ·exact(hf b z).2.1 r
  ·exact(hf b z).2.2.1 r
 ·rw[hg];exact I.bare
 ·have h2:(k9 own.length ix σ)[i]? =some (some v):=h2
  have h1:(own++frees)[i]? =some x:=h1
  unfold k9 at h2
  by_cases hi:i<own.length
  ·rw[List.getElem?_append_left (by simpa using hi),List.getElem?_replicate] at h2
   rw[if_pos hi] at h2
   cases h2
  ·have hi:own.length<=i:=F9.mp hi
   rw[List.getElem?_append_right (by simpa using hi),M7,List.getElem?_map] at h2
   rw[List.getElem?_append_right hi] at h1
   cases e:ix[i -own.length]? with
   |none=>rw[e] at h2;cases h2
   |some j=>
    rw[e] at h2
    have h2:some ((σ[j]?).getD none)=some (some v):=h2
    have hσ:σ[j]? =some (some v):=by
     cases q:σ[j]? with
     |none=>rw[q] at h2;cases h2
     |some z=>rw[q] at h2;exact h2
    have hN:X.N[j]? =some x:=by
     have:=congrArg (fun l:List (Option Str)=>l[i -own.length]?) S.ixs
     erw[List.getElem?_map,e,h1,A5] at this
     exact Option.some.inj this
    have mf:x∈frees:=List.mem_of_getElem? h1
    have lf:=S.frl x mf
    have m:(x,NameKind.free)∈scope.names:=PySem.mem_of_lookup lf
    have hos:=S.fr _ m rfl
    obtain⟨mm,hns,hl⟩:=I.loc
    obtain⟨u,ru,look⟩:=hl j x v hN hσ (hos.elim (fun q=> .inr (.inl q)) fun q=> .inr (.inr q))
    refine⟨u,ru, ?_⟩
    rcases look with⟨kk,_⟩|⟨kk,c,hc,ic⟩
    ·have kk:X.env.scope.names.lookup x=some .local:=kk
     have hos:X.env.scope.names.lookup x=some .cell\/X.env.scope.names.lookup x=some .free:=hos
     rw[kk] at hos
     rcases hos with q|q<;>cases q
    ·obtain⟨c',hc'⟩:=z0y (env:=X.env) scope.names [] (.inr ⟨m,c,hc⟩)
     have e2:=(clos x c' hc').1
     rw[hc] at e2
     cases e2
     have e3:(cellsFrom (s.heap.objs.size+1) scope.names []).lookup x=none:=by
      cases e4:(cellsFrom (s.heap.objs.size+1) scope.names []).lookup x with
      |none=>rfl
      |some d=>
       rcases z0j _ _ _ _ _ (PySem.mem_of_lookup e4) with q|q
       ·cases q
       ·exact absurd mf (S.frc _ q rfl)
     refine .inr ⟨G4 lf,c,z3w e3 hc', ?_⟩
     obtain⟨o,q1,q2⟩:=ic
     exact⟨o,hk _ _ q1,q2⟩
 ·have e:(U9 X scope (s.heap.objs.size+1)).lookup x=some c:=e
  rcases K0 e with q|⟨_,q⟩
  ·exact⟨none,(nw _ _ q).1⟩
  ·obtain⟨v,o,q1,q2⟩:=I.cell x c (clos x c q).1
   exact⟨v,o,hk _ _ q1,q2⟩
 ·have e:(U9 X scope (s.heap.objs.size+1)).lookup x=some c:=e
  rcases K0 e with q|⟨_,q⟩
  ·exact I.hok.fresh (E1 (nw _ _ q).2)
  ·exact I.freeC x c (clos x c q).1
 ·have hp:p∈(X.pn++pins)++[]:=hp
  rw[l3] at hp
  obtain⟨e,n,ne,nf,d⟩:=I.pin p hp
  refine⟨hk _ _ e,n,o0 (Heap.lt_size e),fun q=> ?_,d⟩
  rcases i0.mp (I.stkSub p.1 q) with r|r
  ·exact ne r
  ·exact nf r
 ·show(k9 own.length ix σ).length=(own++frees).length
  rw[z3s,hlen,m7]
theorem z8h(hc:X.calm=true)(S:z0a X.env.scope scope own frees X.N ix)(hi:PI X tg iter wi)
 (hg: ∀cl C s₀ H₀ fp pn,PG (V1 X scope own frees cl C s₀ H₀ fp pn) tg g) (ht: ∀cl C s₀ H₀ fp pn,PTs (V1 X scope own frees cl C s₀ H₀ fp pn) ifs tt) (he: ∀cl C s₀ H₀ fp pn,PE (V1 X scope own frees cl C s₀ H₀ fp pn) elt te)
 (hs: ∀x,foldedSetIterable iter X.env x=pure x:=by intro _;rfl):
 PE X (.ListComp elt [⟨tg,iter,ifs,0⟩] scope pos) (z4U X.K wi g tt te own.length ix):=by
 intro pins s σ H Q I h
 have hclos:closureFor scope X.env=pure (V4 X.env scope.names []):=z0g fun y hy e=>I.ok.has y.1 (S.fr y hy e)
 rw[eval_ListComp]
 refine wpAny_comprehension_free (use:=none) rfl hs hclos S.kind S.names (thn (hi pins s σ H _ I h) fun v s1 h1=>thn h1 fun itv s2 h2=> ?_)
 obtain⟨it,fp,tn,J,H2,e,I2,T,st2,f2,hD⟩:=h2
 subst e
 refine wpAny_newObj_type ?_
 have I3:Inv X pins σ (upd H2 s2.heap.objs.size (.lst [])) {s2 with heap:=s2.heap.push {cls:= .type "list",data:= .seq ([]:List Value).toArray}}:=I2.lnew (t':=s2.toks) .nil (C9 _)
 have nD:H2 s2.heap.objs.size=none:=I2.fresh
 obtain⟨W,⟨m0,w0⟩,turn⟩:=hD _ nD fun a o e=>(I3.bs a o (I3.ok.mod.kin a o e)).2
 have fpl: ∀b∈fp,b<s2.heap.objs.size:=fun b z=>by
  obtain⟨o,q,_⟩:=T.obj _ _ st2 b z
  exact Heap.lt_size q
 generalize hs3:({s2 with heap:=s2.heap.push {cls:= .type "list",data:= .seq ([]:List Value).toArray}}:Shared)=s3 at I3
 have hpush: ∀b o,s2.heap.get? b=some o->s3.heap.get? b=some o:=fun b o q=>by rw[<-hs3];exact Heap.get?_push_of_some _ q
 have hsz3:s2.heap.objs.size<s3.heap.objs.size:=by rw[<-hs3];show _<(s2.heap.push _).objs.size;rw[Heap.size_push];exact B6 _
 have f3: ∀b∈fp,z3m X pins (upd H2 s2.heap.objs.size (.lst [])) b:=fun b z=>⟨by rw[Z6 (o0 (fpl b z))];exact(f2 b z).1,(f2 b z).2⟩
 have st3:tn 0 s3.heap:=T.keep _ _ _ st2 fun b _ o q=>hpush b o q
 generalize hDd:s2.heap.objs.size=D at*
 generalize hH3:upd H2 D (.lst [])=H3 at*
 have goal:wpAny (model X.prog X.w) X.A (newFunctionEnv scope X.env.globals (V4 X.env scope.names []) [] X.env.qual none .none (some X.env)) (fun cenv s₄=>
  codeAny (model X.prog X.w) X.A (.compStart (.ListComp elt [⟨tg,iter,ifs,0⟩] scope pos) 0 (.ref it) (.ref D) {cenv with scope:=relabel scope X.env}) (compPost (model X.prog X.w) X.A X.xe none (EP X pins σ Q) (.ref D) cenv.locals) s₄) X.xe s3:=by
  refine z04 (fun h1 hns keep4 hcl=> ?_)
  have fpl3: ∀b∈fp,b<s3.heap.objs.size:=fun b z=>P7 (fpl b z) hsz3
  generalize hs4:({s3 with heap:=h1}:Shared)=s4
  have I4:Inv (V1 X scope own frees (U9 X scope (s3.heap.objs.size+1)) s3.heap.objs.size s3 H3 fp (X.pn++pins)) [] (k9 own.length ix σ) H3 s4:=
   z5E S I3 f3 fpl3 (by rw[<-hs4]) (by rw[<-hs4]) (fun b o q=>by rw[<-hs4];exact keep4 b o q) (by rw[<-hs4];exact hns) (by rw[<-hs4];exact hcl)
  have st4:tn 0 s4.heap:=T.keep _ _ _ st3 fun b _ o q=>by rw[<-hs4];exact keep4 b o q
  generalize hXc:V1 X scope own frees (U9 X scope (s3.heap.objs.size+1)) s3.heap.objs.size s3 H3 fp (X.pn++pins)=Y at I4
  have eP:Y.prog=X.prog:=by rw[<-hXc];rfl
  have eW:Y.w=X.w:=by rw[<-hXc];rfl
  have eK:Y.K=X.K:=by rw[<-hXc];rfl
  have eA:Y.A=X.A:=by rw[<-hXc];rfl
  have eC:Y.calm=true:=by rw[<-hXc];exact hc
  have eE:Y.env=compEnvC scope (U9 X scope (s3.heap.objs.size+1)) s3.heap.objs.size X.env:=by rw[<-hXc];rfl
  have eX:Y.xe=fun _ _=>False:=by rw[<-hXc];rfl
  have eF: ∀{H':Hp},(∀b∈fp,H' b=none)->∀b∈fp,z3m Y [] H' b:=fun{H'} hn b hb=>by
   rw[<-hXc]
   obtain⟨g1,g2,g3,g4,g5,g6⟩:=f3 b hb
   refine⟨hn b hb,o0 (fpl3 b hb),fun q=> ?_, .inl hb,fun x c e=> ?_,fun p hp=> ?_⟩
   ·rcases i0.mp (I3.stkSub b q) with r|r
    ·exact g2 r
    ·exact g3 r
   ·have e:(U9 X scope (s3.heap.objs.size+1)).lookup x=some c:=e
    rcases K0 e with q|⟨_,q⟩
    ·exact O3 (n9 (fpl3 b hb) (E1 (hcl.empty x c (PySem.mem_of_lookup q)).2))
    ·rcases z0R _ _ q with q|q
     ·exact nomatch q
     ·exact g5 x c q.1
   ·have hp:p∈(X.pn++pins)++[]:=hp
    rw[l3] at hp
    exact g6 p hp
  have gY:PG Y tg g:=by rw[<-hXc];exact hg _ _ _ _ _ _
  have tY:PE Y elt te:=by rw[<-hXc];exact he _ _ _ _ _ _
  have sY:PTs Y ifs tt:=by rw[<-hXc];exact ht _ _ _ _ _ _
  have loop:codeAny (model X.prog X.w) X.A (.compLoop (.ListComp elt [⟨tg,iter,ifs,0⟩] scope pos) 0 (.ref it) (.ref D) (compEnvC scope (U9 X scope (s3.heap.objs.size+1)) s3.heap.objs.size X.env))
   (compPost (model X.prog X.w) X.A X.xe none (EP X pins σ Q) (.ref D) s3.heap.objs.size) s4:=by
   refine J8 (fun n s'=> ∃i ys σ' H',Inv Y [] σ' H' s'/\tn i s'.heap/\(∀b∈fp,H' b=none)/\W i n ys σ' H') ?_ m0 ⟨0,[],_,_,I4,st4,fun b hb=>(f3 b hb).1,w0⟩
   rintro n s5 ⟨i,ys,σ5,H5,I5,st5,fr5,w5⟩
   obtain⟨hD5,alt⟩:=turn i n ys σ5 H5 w5
   rcases alt with⟨stop,qn⟩|⟨go,step⟩
   ·have d:=T.done Y eP eW eK eC i [] s5 σ5 H5 (fun _ _=>False) I5 (eF fr5) st5 stop
    rw[eA] at d
    refine thn d fun r s6 ⟨hr,I6⟩=> ?_
    subst hr
    subst hXc
    obtain⟨m6,n6,_⟩:=I6.loc
    exact⟨m6,n6,fun h'' hs''=>⟨.ref D,H5,z3W I3 f3 (i4 _) I6.ofC hs'',rfl,qn⟩⟩
   ·have d:=T.item Y eP eW eK eC i [] s5 σ5 H5 (fun _ _=>False) I5 (eF fr5) st5 go
    rw[eA] at d
    refine thn d fun r s6 ⟨u,hr,h6⟩=> ?_
    subst hr
    refine thn h6 fun _ s7 ⟨x,H7,I7,r7,y7,st7,fr7⟩=> ?_
    have I7':=I7.pinned (eF fr7) (T.obj _ _ st7)
    have e1:=gY _ s7 σ5 H7 x u _ I7' r7 (step x H7 y7)
    rw[eP,eW,eA,eE,eX] at e1
    refine thn e1 fun _ s8 ⟨σ8,H8,I8,q8⟩=> ?_
    have e1':=sY _ s8 σ8 H8 _ I8 q8
    rw[eP,eW,eA,eE,eX] at e1'
    refine thn e1' fun ok s8 ⟨H8,I8,q8⟩=> ?_
    cases ok with
    |false=>
     rw[if_neg A6] at q8⊢
     obtain⟨m',hm',w9⟩:=q8
     refine⟨m',hm',i+1,_,σ8,_,I8.unpinned,T.keep _ _ _ st7 fun b hb o e=> ?_,fun b hb=> ?_,w9⟩
     ·exact(I8.pin (b,o) (c9 _ (c9 _ (W6 hb e)))).1
     ·obtain⟨o,e,d⟩:=T.obj _ _ st7 b hb
      exact(I8.pin (b,o) (c9 _ (c9 _ (W6 hb e)))).2.1
    |true=>
    rw[if_pos rfl] at q8⊢
    have e2:=tY _ s8 σ8 H8 _ I8 q8
    rw[eP,eW,eA,eE,eX] at e2
    refine thn e2 fun yv s9 ⟨y,H9,I9,r9,hD9,hz9,m',hm',w9⟩=> ?_
    have e3:=z1s (X:=Y) _ s9 σ8 H9 (.ref D) [y] (.ref D) [yv] (fun v H'=>v= .non/\H'=upd H9 D (.lst (ys++[y]))) I9 rfl (.cons r9 .nil) ⟨D,ys,y,rfl,rfl,hD9,hz9,rfl,rfl⟩
    rw[eP,eW,eA,eX] at e3
    refine thn e3 fun _ s10 ⟨v10,H10,I10,r10,_,e10⟩=> ?_
    subst e10
    refine⟨m',hm',i+1,_,σ8,_,I10.unpinned,T.keep _ _ _ st7 fun b hb o e=> ?_,fun b hb=> ?_,w9⟩
    ·exact(I10.pin (b,o) (c9 _ (c9 _ (W6 hb e)))).1
    ·obtain⟨o,e,d⟩:=T.obj _ _ st7 b hb
     exact(I10.pin (b,o) (c9 _ (c9 _ (W6 hb e)))).2.1
  exact codeAny_compStart_list loop (T.self _ 0 _ _ _ st4 loop)
 exact goal
end
theorem Inv.turnedL{X:Cx}{pins:List (Addr×Obj)}{σ:List (Option V)}{H:Hp}{s:Shared}{h':Heap}{t':Nat}{fp:List Addr}(I:Inv X pins σ H s)(k: ∀b o,b∉fp->s.heap.get? b=some o->h'.get? b=some o)(hf: ∀b∈fp,z3m X pins H b):Inv X pins σ H {s with heap:=h',toks:=t'}:=by
 have nit: ∀b u,H b=some u->b∉fp:=fun b u e z=>by rw[(hf b z).1] at e;cases e
 refine I.step (g':=s.gens) (d':=s.drawn) (ch:=fp) (fun b hb=> ?_) (fun b o _ _ hc e _=>k b o hc e) (fun b o _ _ hc e _=>⟨o.slots,k b o hc e⟩) (fun _ _ _ _ n=>n)
  (fun b o hc e=>⟨o,k b o hc e⟩) (fun _ _ e=>e) (fun _ _ _ e=>e) (fun b ps e=>⟨#[],by rw[e];simp⟩) (fun m hm=> ?_) (fun b u e=> ?_) I.bare
 ·obtain⟨f0,f1,f2,f3,f4,f5⟩:=hf b hb
  exact⟨f3,f1,f4,f5⟩
 ·obtain⟨o,es,ep,ho,r⟩:=hm
  exact⟨o,es,ep,k _ o (fun z=>(hf _ z).2.1 rfl) ho,r⟩
 ·refine(I.hok b u e).stay (fun c v hc q=>k c v ?_ q) (fun _ q=>q) fun _ _ q=>q
  rcases hc with z|z
  ·rw[z];exact nit b u e
  ·exact nit c _ z
noncomputable def Ite(K:W.Frag)(a:Addr):It:=
 ⟨fun i H=> ∃xs x,SqL K H a xs/\xs[i]? =some x,fun i H v H'=> ∃p x,H p=none/\v= .ref p/\H'=upd H p (.tup [.int i,x])/\(∀xs,SqL K H a xs->xs[i]? =some x)/\∀b o,K.lookup b=some o->H' b=none,fun i H=> ∃xs,SqL K H a xs/\xs.length<=i⟩
theorem z8i{P:Program}{w:World}{K:W.Frag}{elts:List Expr}{x1:Nat}{tpos:Pos}(a e it:Addr)(hne:e≠it):zaO P w K (.Tuple elts x1 tpos) (Ite K a) [e,it] e (fun i h=> ∃old,IsEnum h e it i old/\h.IsListIter it a i) where
 mem:=by simp
 obj:=fun i h st b hb=>by
  obtain⟨old,h1,h2⟩:=st
  have hb:b=e\/b=it:=by simpa using hb
  rcases hb with rfl|rfl
  ·exact⟨_,h1,fun v z=>by
    have z':Data.fields _=Data.cell v:=z
    cases z'⟩
  ·obtain⟨o,e,c,d⟩:=h2
   exact⟨o,e,fun v z=>by rw[d] at z;cases z⟩
 keep:=fun i h h' st k=>by
  obtain⟨old,h1,h2⟩:=st
  exact⟨old,k e (by simp) _ h1,h2.at fun o q=>k it (by simp) o q⟩
 item:=by
  intro X hP hw hK hc i pins s σ H E I hf st hg
  subst hP hw hK
  obtain⟨old,st1,st2⟩:=st
  obtain⟨xs,x,hq,hx⟩:=hg
  obtain⟨its,rv,p,hz⟩:=I.list hq
  obtain⟨u,hu,ru⟩:=rv.get hx
  refine wpAny_pyNext_enum_item st1 st2 p.isList (x:=u) (by simpa using hu) hne fun h1 heo hit ht hsz hk=> ?_
  refine⟨_,rfl,wpAny_letOwnedTupleGo_enum heo fun h2 he2 hs2=> ?_⟩
  have hs2:Heap.SameBut e h1 h2:=hs2
  have hel:e<s.heap.objs.size:=Heap.lt_size st1
  have ht2:h2.get? s.heap.objs.size=some {cls:= .type "tuple",data:= .seq #[.int i s.toks,u]}:=(hs2.2 _ (O3 hel)).trans ht
  have fr: ∀b∈[e,it],b≠s.heap.objs.size:=fun b hb=>by
   have hb:b=e\/b=it:=by simpa using hb
   rcases hb with rfl|rfl
   ·exact o0 hel
   ·obtain⟨o,q,_⟩:=st2
    exact o0 (Heap.lt_size q)
  have I1:Inv X pins σ (upd H s.heap.objs.size (.tup [.int i,x])) {s with heap:=s.heap.push {cls:= .type "tuple",data:= .seq #[.int i s.toks,u]},toks:=s.toks}:=I.laid (t':=s.toks) (o:= .tup [.int i,x]) (fun b ob q=>Heap.get?_push_of_some _ q) (i4 _) ⟨by show 2<=sizeLine;decide,[.int i s.toks,u], .cons ⟨_,rfl⟩ (.cons ru .nil),IsTup.new _ _⟩
  have f1: ∀b∈[e,it],z3m X pins (upd H s.heap.objs.size (.tup [.int i,x])) b:=fun b hb=>⟨by rw[Z6 (fr b hb)];exact(hf b hb).1,(hf b hb).2⟩
  have I2:=I1.turnedL (h':=h2) (t':=s.toks+1) (fun b o hb q=>by
   have hb:b≠e/\b≠it:=by simpa using hb
   rcases Heap.get?_push_cases (show(s.heap.push {cls:= .type "tuple",data:= .seq #[.int i s.toks,u]}).get? b=some o from q) with⟨rfl,rfl⟩|q'
   ·exact ht2
   ·exact(hs2.2 b hb.1).trans (hk b o hb.1 hb.2 q')) f1
  refine⟨.ref s.heap.objs.size,_,I2,rfl,⟨_,x,I.hok.fresh (i4 _),rfl,rfl,fun ys hy=>by rw[I.list_inj hy hq];exact hx,fun b o q=>(I2.bs b o (I2.ok.mod.kin b o q)).2⟩,⟨u, ?_, ?_⟩,fun b hb=>(f1 b hb).1⟩
  ·have:((i+1:Nat):Int)=(i:Int)+1:=by push_cast;rfl
   rw[this];exact he2
  ·obtain⟨o,q,r⟩:=hit
   exact⟨o,(hs2.2 it (Ne.symm hne)).trans q,r⟩
 done:=by
  intro X hP hw hK hc i pins s σ H E I hf st hg
  subst hP hw hK
  obtain⟨old,st1,st2⟩:=st
  obtain⟨xs,hq,hx⟩:=hg
  obtain⟨its,rv,p,hz⟩:=I.list hq
  have hl:=rv.length
  exact wpAny_pyNext_enum_end (I.ok.hd hc) st1 st2 p.isList (by simp;lia) fun h' eb=>⟨rfl,I.turnedL (t':=s.toks) (fun b o hb q=>eb b o (fun z=>hb (by simp[z])) q) hf⟩
 self:=fun A i s Q E st h=>by
  obtain⟨old,st1,_⟩:=st
  exact wpAny_pyIter_enum st1 h
section
variable{prog:Program}{w:World}{A:Around}{E:Value->Shared->Prop}{s:Shared}
theorem z1R{it t:Addr}{i:Nat}{items}{x:Value}{Q:Value->Shared->Prop}(hit:s.heap.IsTupleIter it t i)
 (hl:s.heap.IsTuple t items) (hx:items[i]? =some x)
 (hQ: ∀h',h'.IsTupleIter it t (i+1)->Heap.SameBut it s.heap h'->Q x {s with heap:=h'}):
 wpAny (model prog w) A (Builtin.SmallTypes.nextOf (.ref it)) Q E s:=by
 obtain⟨o,ho,hc,hd⟩:=id hit
 obtain⟨ol,hol,_,nl,hdl⟩:=hl
 unfold Builtin.SmallTypes.nextOf
 refine wpAny_bind (wpAny_callSpecial?_slot (name:=Str.ofString "__next__") hit.typeIs F.slot_tuple_iterator_next
  (wpAny_call_entry F.slot_tuple_iterator_next hit.typeIs F.entry_tuple_iterator_next ?_ (F.args_tuple_iterator_next_1 _)))
 show wpAny _ _ (field (.ref it) 0>>=_) _ _ s
 refine wpAny_bind (wpAny_field ho hd (x:= .ref t) rfl ?_)
 show wpAny _ _ (if(Value.ref t==Value.none)=true then _ else _) _ _ s
 rw[if_neg (show ¬((Value.ref t==Value.none)=true) from A6)]
 show wpAny _ _ (field (.ref it) 1>>=_) _ _ s
 refine wpAny_bind (wpAny_field ho hd (x:= .int i 0) rfl ?_)
 show wpAny _ _ (seqItems? (.ref t)>>=_) _ _ s
 refine wpAny_bind (wpAny_seqItems hol hdl ?_)
 erw[C5,hx]
 refine wpAny_bind (wpAny_setField ho hd (by simp) (wpAny_pure ⟨x,rfl,wpAny_pure (hQ _ ?_ (Heap.SameBut.update ..))⟩))
 exact⟨_,Heap.get?_update_self _ ho (Obj.isFreed_of_fields (Obj.data_mapFields hd _)),(Obj.cls_mapFields ..).trans hc,by
  rw[Obj.data_mapFields hd];simp[rawInt]⟩
theorem z0t{it t:Addr}{i:Nat}{items}{Q:Value->Shared->Prop}(hh:A.handled=none)
 (hit:s.heap.IsTupleIter it t i) (hl:s.heap.IsTuple t items) (hx:items[i]? =none)
 (hE: ∀h' e,Heap.ExtBut it s.heap h'->(∃o,h'.get? e=some o/\o.cls= .type "StopIteration")->E (.ref e) {s with heap:=h'}):
 wpAny (model prog w) A (Builtin.SmallTypes.nextOf (.ref it)) Q E s:=by
 obtain⟨o,ho,hc,hd⟩:=id hit
 obtain⟨ol,hol,_,nl,hdl⟩:=hl
 unfold Builtin.SmallTypes.nextOf
 refine wpAny_bind (wpAny_callSpecial?_slot (name:=Str.ofString "__next__") hit.typeIs F.slot_tuple_iterator_next
  (wpAny_call_entry F.slot_tuple_iterator_next hit.typeIs F.entry_tuple_iterator_next ?_ (F.args_tuple_iterator_next_1 _)))
 show wpAny _ _ (field (.ref it) 0>>=_) _ _ s
 refine wpAny_bind (wpAny_field ho hd (x:= .ref t) rfl ?_)
 show wpAny _ _ (if(Value.ref t==Value.none)=true then _ else _) _ _ s
 rw[if_neg (show ¬((Value.ref t==Value.none)=true) from A6)]
 show wpAny _ _ (field (.ref it) 1>>=_) _ _ s
 refine wpAny_bind (wpAny_field ho hd (x:= .int i 0) rfl ?_)
 show wpAny _ _ (seqItems? (.ref t)>>=_) _ _ s
 refine wpAny_bind (wpAny_seqItems hol hdl ?_)
 erw[C5,hx]
 refine wpAny_bind (wpAny_rule (wpAny_bind (wpAny_setField ho hd (by simp) ?_)))
 show wpAny _ _ (newExc (.type "StopIteration") []>>=_) _ _ _
 refine wpAny_bind ?_
 erw[newExc,newTuple]
 refine wpAny_bind (wpAny_newObj_type ?_ (by size_fits))
 refine wpAny_bind (m:=firstArgMember _ _) (wpAny_of_eq (a:=Value.none) (by first|rfl|(erw[firstArgMember];rfl)) ?_)
 refine wpAny_newObj_type ?_ (by size_fits)
 erw[raiseNew]
 refine wpAny_bind (wpAny_handled ?_)
 first|rw[show A.in1.handled=none from hh]|rw[hh]
 refine wpAny_bind (wpAny_pure (wpAny_throw ?_))
 exact hE _ _ (((Heap.SameBut.update ..).extBut.push _).push _) ⟨_,Heap.get?_push_size _ rfl,rfl⟩
end
theorem z5F{prog:Program}{w:World}{A:Around}(hh:A.handled=none)(it l:Addr)(hne:l≠it)(items:Array Value):
 Draws prog w A it [it,l] items.size (fun i v=>items[i]? =some v) (fun i h=>h.IsTupleIter it l i/\h.IsTuple l items) where
 live:=fun _ _ st=>let⟨o,ho,_⟩:=st.1;⟨o,ho⟩
 frame:=fun _ _ _ st hk=>⟨st.1.at fun o e=>hk it (by simp) o e,let⟨o,ho,r⟩:=st.2;⟨o,hk l (by simp) o ho,r⟩⟩
 item:=fun i s Q E hi st hQ=>by
  refine z1R st.1 st.2 (x:=items[i]) (by simp[hi]) fun h' hit' hs'=> ?_
  exact hQ _ h' s.toks (by simp[hi]) ⟨hit',st.2.extBut hs'.extBut hne⟩ hs'
 done:=fun s Q E st hE=>z0t hh st.1 st.2 (by simp) hE
theorem z0Y(l:Addr)(items:Array Value)(n:Nat)(dct:Option Addr)(sl:Array (Option Value)):
 Meets (Builtin.«enumerate.__new__» ⟨[.type "enumerate", .ref l],[]⟩) (fun _ R s=>s.heap.get? l=some {cls:= .type "tuple",dict:=dct,data:= .seq items n,slots:=sl}/\
  R (.ok (.ret (.ref (s.heap.push {cls:= .type "tuple_iterator",data:= .fields #[.ref l, .int 0 0]}).objs.size)))
   {s with heap:=(s.heap.push {cls:= .type "tuple_iterator",data:= .fields #[.ref l, .int 0 0]}).push {cls:= .type "enumerate",data:= .fields #[.none, .bool false, .ref s.heap.objs.size,rawInt 0, .none, .none]}}):=
 .of_wp fun prog w A R s h=>by
  obtain⟨hp,g,d,tk,os⟩:=s;obtain⟨hl,h⟩:=h
  have hsub:=sub_enumerate
  have hL:Heap.IsTuple (Shared.heap ⟨hp,g,d,tk,os⟩) l items:=⟨_,hl,rfl,n,rfl⟩
  wp_walk using AutoSeq1.wpAny_loadPart' hl
  refine wpAny_stack_any fun st=>wpAny_pure ?_
  split
  ·rename_i c _ _ _ _ _
   cases(c==Value.type "enumerate")
   ·wp_walk using AutoSeq1.wpAny_loadPart' hl,wpAny_pyIter_tuple hL
    exact⟨_,rfl,h⟩
   ·wp_walk using AutoSeq1.wpAny_loadPart' hl,wpAny_pyIter_tuple hL
    exact⟨_,rfl,h⟩
  ·wp_walk using AutoSeq1.wpAny_loadPart' hl,wpAny_pyIter_tuple hL
   exact⟨_,rfl,h⟩
theorem z0Z{prog:Program}{w:World}{A:Around}{E:Value->Shared->Prop}{s:Shared}{l:Addr}{items:Array Value}{Q:Value->Shared->Prop}(hL:s.heap.IsTuple l items)
 (h: ∀h',IsEnum h' (s.heap.objs.size+1) s.heap.objs.size 0 .none->h'.IsTupleIter s.heap.objs.size l 0->h'.objs.size=s.heap.objs.size+2->
  (∀b o,s.heap.get? b=some o->h'.get? b=some o)->Q (.ref (s.heap.objs.size+1)) {s with heap:=h'}):
 wpAny (model prog w) A (call (.type "enumerate") [.ref l]) Q E s:=by
 obtain⟨⟨c,dct,dt,sl⟩,hl,hc,n,hd⟩:=hL
 replace hc:c= .type "tuple" :=hc
 replace hd:dt= .seq items n:=hd
 subst hc hd
 refine callType_new F.called_enumerate (by decide) (F.typeCall_enumerate_1 _) (F.newCall_enumerate_1 _) (fun obj=>F.args_object_init_2 obj _) F.entry_enumerate_new
  (z0Y l items n dct sl) ⟨hl, ?_⟩
 have hz:(s.heap.push {cls:= .type "tuple_iterator",data:= .fields #[.ref l, .int 0 0]}).objs.size=s.heap.objs.size+1:=Heap.size_push ..
 show _/\_
 rw[hz]
 have he:IsEnum ((s.heap.push {cls:= .type "tuple_iterator",data:= .fields #[.ref l, .int 0 0]}).push
  {cls:= .type "enumerate",data:= .fields #[.none, .bool false, .ref s.heap.objs.size,rawInt 0, .none, .none]}) (s.heap.objs.size+1) s.heap.objs.size 0 .none:=by
  have:=Heap.get?_push_size (s.heap.push {cls:= .type "tuple_iterator",data:= .fields #[.ref l, .int 0 0]})
   (o:={cls:= .type "enumerate",data:= .fields #[.none, .bool false, .ref s.heap.objs.size,rawInt 0, .none, .none]}) rfl
  rw[hz] at this;exact this
 refine⟨⟨_,he,rfl⟩,h _ he ⟨_,Heap.get?_push_of_some _ (Heap.get?_push_size _ rfl),rfl,rfl⟩ (by rw[Heap.size_push,hz]) fun b o x=>Heap.get?_push_of_some _ (Heap.get?_push_of_some _ x)⟩
noncomputable def zh5(K:W.Frag)(a:Addr):It:=
 ⟨fun i H=> ∃xs x,SqT K H a xs/\xs[i]? =some x,fun i H v H'=> ∃p x,H p=none/\v= .ref p/\H'=upd H p (.tup [.int i,x])/\(∀xs,SqT K H a xs->xs[i]? =some x)/\∀b o,K.lookup b=some o->H' b=none,fun i H=> ∃xs,SqT K H a xs/\xs.length<=i⟩
theorem z78{P:Program}{w:World}{K:W.Frag}{elts:List Expr}{x1:Nat}{tpos:Pos}(a e it:Addr)(hne:e≠it):zaO P w K (.Tuple elts x1 tpos) (zh5 K a) [e,it] e (fun i h=> ∃old,IsEnum h e it i old/\h.IsTupleIter it a i) where
 mem:=by simp
 obj:=fun i h st b hb=>by
  obtain⟨old,h1,h2⟩:=st
  have hb:b=e\/b=it:=by simpa using hb
  rcases hb with rfl|rfl
  ·exact⟨_,h1,fun v z=>by
    have z':Data.fields _=Data.cell v:=z
    cases z'⟩
  ·obtain⟨o,e,c,d⟩:=h2
   exact⟨o,e,fun v z=>by rw[d] at z;cases z⟩
 keep:=fun i h h' st k=>by
  obtain⟨old,h1,h2⟩:=st
  exact⟨old,k e (by simp) _ h1,h2.at fun o q=>k it (by simp) o q⟩
 item:=by
  intro X hP hw hK hc i pins s σ H E I hf st hg
  subst hP hw hK
  obtain⟨old,st1,st2⟩:=st
  obtain⟨xs,x,hq,hx⟩:=hg
  obtain⟨its,rv,p,hz⟩:=I.tuple hq
  obtain⟨u,hu,ru⟩:=rv.get hx
  have p:s.heap.IsTuple a its.toArray:=p
  have nai:a≠it:=fun z=>by
   obtain⟨o,q,c,_⟩:=id p
   obtain⟨o',q',c',_⟩:=id st2
   rw[z,q'] at q;cases q
   rw[c] at c';exact absurd c' (by decide)
  have nea:e∉[it,a]:=fun z=>by
   have z:e=it\/e=a:=by simpa using z
   rcases z with z|z
   ·exact hne z
   ·obtain⟨o,q,c,_⟩:=id p
    rw[<-z,st1] at q;cases q
    have c:Value.type "enumerate" =Value.type "tuple" :=c
    exact absurd c (by decide)
  have hlt:i<its.toArray.size:=by
   have:=(List.getElem?_eq_some_iff.mp hu).1
   simpa using this
  refine wpAny_pyNext_enum_itemD (z5F (A:=X.A.in1) (I.ok.hd hc) it a nai its.toArray) st1 ⟨st2,p⟩ hlt hne nea fun u' h1 tk hP heo hst ht hsz hk=> ?_
  have eu:u'=u:=by
   have hu':its[i]? =some u:=hu
   have hP':its.toArray[i]? =some u':=hP
   rw[List.getElem?_toArray,hu'] at hP'
   exact(Option.some.inj hP').symm
  subst eu
  refine⟨_,rfl,wpAny_letOwnedTupleGo_enum heo fun h2 he2 hs2=> ?_⟩
  have hs2:Heap.SameBut e h1 h2:=hs2
  have hel:e<s.heap.objs.size:=Heap.lt_size st1
  have ht2:h2.get? s.heap.objs.size=some {cls:= .type "tuple",data:= .seq #[.int i tk,u']}:=(hs2.2 _ (O3 hel)).trans ht
  have fr: ∀b∈[e,it],b≠s.heap.objs.size:=fun b hb=>by
   have hb:b=e\/b=it:=by simpa using hb
   rcases hb with rfl|rfl
   ·exact o0 hel
   ·obtain⟨o,q,_⟩:=st2
    exact o0 (Heap.lt_size q)
  have I1:Inv X pins σ (upd H s.heap.objs.size (.tup [.int i,x])) {s with heap:=s.heap.push {cls:= .type "tuple",data:= .seq #[.int i tk,u']},toks:=s.toks}:=I.laid (t':=s.toks) (o:= .tup [.int i,x]) (fun b ob q=>Heap.get?_push_of_some _ q) (i4 _) ⟨by show 2<=sizeLine;decide,[.int i tk,u'], .cons ⟨_,rfl⟩ (.cons ru .nil),IsTup.new _ _⟩
  have f1: ∀b∈[e,it],z3m X pins (upd H s.heap.objs.size (.tup [.int i,x])) b:=fun b hb=>⟨by rw[Z6 (fr b hb)];exact(hf b hb).1,(hf b hb).2⟩
  have I2:=I1.turnedL (h':=h2) (t':=tk+1) (fun b o hb q=>by
   have hb:b≠e/\b≠it:=by simpa using hb
   rcases Heap.get?_push_cases (show(s.heap.push {cls:= .type "tuple",data:= .seq #[.int i tk,u']}).get? b=some o from q) with⟨rfl,rfl⟩|q'
   ·exact ht2
   ·exact(hs2.2 b hb.1).trans (hk b o hb.1 hb.2 q')) f1
  refine⟨.ref s.heap.objs.size,_,I2,rfl,⟨_,x,I.hok.fresh (i4 _),rfl,rfl,fun ys hy=>by rw[I.tuple_inj hy hq];exact hx,fun b o q=>(I2.bs b o (I2.ok.mod.kin b o q)).2⟩,⟨u', ?_, ?_⟩,fun b hb=>(f1 b hb).1⟩
  ·have:((i+1:Nat):Int)=(i:Int)+1:=by push_cast;rfl
   rw[this];exact he2
  ·obtain⟨o,q,r⟩:=hst.1
   exact⟨o,(hs2.2 it (Ne.symm hne)).trans q,r⟩
 done:=by
  intro X hP hw hK hc i pins s σ H E I hf st hg
  subst hP hw hK
  obtain⟨old,st1,st2⟩:=st
  obtain⟨xs,hq,hx⟩:=hg
  obtain⟨its,rv,p,hz⟩:=I.tuple hq
  have p:s.heap.IsTuple a its.toArray:=p
  have hl:=rv.length
  have hT:s.TypeIs (.ref e) "enumerate" :=⟨_,st1,rfl⟩
  unfold pyNext
  refine wpAny_bind (wpAny_attempt (wpAny_callSpecial?_slot (name:=Str.ofString "__next__") hT F.slot_enumerate_next
   (wpAny_call_entry F.slot_enumerate_next hT F.entry_enumerate_next ?_ (F.args_enumerate_next_1 _))))
  show wpAny _ _ (field (.ref e) 2>>=_) _ _ _
  refine wpAny_bind (wpAny_field st1 rfl (x:= .ref it) rfl ?_)
  refine wpAny_bind (z0t (A:=X.A.in1) (I.ok.hd hc) st2 p (by simp;lia) fun h' x he' hx'=> ?_)
  obtain⟨o,ho,hcc⟩:=hx'
  refine wpAny_bind (wpAny_isInstance (T:= "StopIteration") (b:=true) ⟨o,ho,hcc⟩ isSubtype_stop ?_)
  exact wpAny_pure ⟨rfl,I.turnedL (t':=s.toks) (fun b o hb q=>he' b o (fun z=>hb (by simp[z])) q) hf⟩
 self:=fun A i s Q E st h=>by
  obtain⟨old,st1,_⟩:=st
  exact wpAny_pyIter_enum st1 h
section
variable{X:Cx}
noncomputable def zh6(K:W.Frag)(ta:TA):TI:=fun σ H R=>ta σ H fun vs H1=> ∃a,vs=[.ref a]/\(((∃xs,SqL K H1 a xs)/\R (Ite K a) H1)\/((∃xs,SqT K H1 a xs)/\R (zh5 K a) H1))
theorem za2{a:Expr}{ta:TA}{p pos tpos:Pos}{elts:List Expr}{x1:Nat}(hg:Gl X "enumerate")(hm:X.mg "enumerate" =none)(ha:PA X [a] ta)(hs:starEach [a] X.env=[(false,eval a X.env)]:=by rfl):PI X (.Tuple elts x1 tpos) (.Call (.Name "enumerate" p) [a] [] pos) (zh6 X.K ta):=by
 intro pins s σ H R I h
 refine Call_ (z3l I hg hm PyProof.Rows.Boot.«enumerate» (PyProof.Rows.callWith_type1 (thn (ha pos pins s σ H _ I h) fun us s1 ⟨vs,H1,I1,r1,q1⟩=> ?_) hs rfl))
 obtain⟨l,e,q⟩:=q1
 subst e
 cases r1 with
 |cons r rr=>
  cases rr
  cases r
  rcases q with⟨⟨xs,hq⟩,q⟩|⟨⟨xs,hq⟩,q⟩
  ·obtain⟨its,rv,p,hz⟩:=I1.list hq
   refine call_enumerate_list p.isList fun h' he hit hsz hk=> ?_
   refine wpAny_pyIter_enum he ?_
   have I2:Inv X pins σ H1 {s1 with heap:=h'}:=I1.kept (t':=s1.toks) hk
   refine⟨s1.heap.objs.size+1,[s1.heap.objs.size+1,s1.heap.objs.size],_,_,H1,rfl,I2,z8i l _ _ (by show ¬(s1.heap.objs.size+1=s1.heap.objs.size);lia),⟨_,he,hit⟩,fun b hb=> ?_,q⟩
   have hb:b=s1.heap.objs.size+1\/b=s1.heap.objs.size:=by simpa using hb
   rcases hb with rfl|rfl
   ·exact I1.fpOk (N4 _) (I1.hok.fresh (N4 _))
   ·exact I1.fpOk (i4 _) (I1.hok.fresh (i4 _))
  ·obtain⟨its,rv,p,hz⟩:=I1.tuple hq
   have p:s1.heap.IsTuple l its.toArray:=p
   refine z0Z p fun h' he hit hsz hk=> ?_
   refine wpAny_pyIter_enum he ?_
   have I2:Inv X pins σ H1 {s1 with heap:=h'}:=I1.kept (t':=s1.toks) hk
   refine⟨s1.heap.objs.size+1,[s1.heap.objs.size+1,s1.heap.objs.size],_,_,H1,rfl,I2,z78 l _ _ (by show ¬(s1.heap.objs.size+1=s1.heap.objs.size);lia),⟨_,he,hit⟩,fun b hb=> ?_,q⟩
   have hb:b=s1.heap.objs.size+1\/b=s1.heap.objs.size:=by simpa using hb
   rcases hb with rfl|rfl
   ·exact I1.fpOk (N4 _) (I1.hok.fresh (N4 _))
   ·exact I1.fpOk (i4 _) (I1.hok.fresh (i4 _))
end
section
variable{X:Cx}{a b:Expr}{rest:List Expr}{pos:Pos}{ta tb:TE}
theorem zcm:OpR X (binaryOp .Add) (fun x y H Q=> ∃k j,x= .bl k/\y= .int j/\Q (.int ((if k then 1 else 0)+j)) H):=by
 intro pins s σ H x y v u Q I rx ry h
 obtain⟨k,j,rfl,rfl,q⟩:=h
 cases rx
 obtain⟨t,rfl⟩:=ry
 exact PySem.IntBool.add_bool_int ⟨.int ((if k then 1 else 0)+j),H,I.tok _,⟨_,rfl⟩,q⟩
end
section
variable{X:Cx}{tg:Expr}
noncomputable def Rg3(i j c:Int):Prop:=c≠0/\c.natAbs<1073741824/\Builtin.Range.small i j c=true/\0<=Builtin.Range.rangeSize i j c
instance(i j c:Int):Decidable (Rg3 i j c):=by unfold Rg3;infer_instance
end
end L2
namespace Mi
open PySem L2
structure ItK where
 k:Nat
 at':Nat->List (Option D)->Option (Option D)
 len:List (Option D)->Nat
noncomputable def zcn(i:Nat):List (Option D)->Option (Option D)
 |some c::_=>(z4S c).map fun ds=>ds[i]?
 |_=>none
noncomputable def za3(i:Nat):List (Option D)->Option (Option D)
 |some (.tup ds)::_=>some ds[i]?
 |_=>none
noncomputable def z3x:List (Option D)->Nat
 |some (.tup ds)::_=>ds.length
 |some (.lst _ ds)::_=>ds.length
 |some (.ro ds)::_=>ds.length
 |_=>0
noncomputable def kLst:ItK:=⟨1,zcn,z3x⟩
noncomputable def zco:ItK:=⟨1,za3,z3x⟩
noncomputable def z4W(lo:Int)(n:Nat):ItK:=⟨0,fun i _=>some (if i<n then some (.int (lo+i)) else none),fun _=>n⟩
noncomputable def Stt.popn(s:Stt)(k:Nat):Stt:={s with tm:=s.tm.drop k}
section
variable{X:Cx}{G:Gx}{F:Fy}{e a b c tg iter:Expr}{pos:Pos}
theorem MR.popn{F:Fx}{ρ:Nat->Addr}{H:Hp}{σv tvs tv:List (Option V)}{s:Stt}(M:MR G F ρ H σv (tvs++tv) s):MR G F ρ H σv tv (s.popn tvs.length):=by
 have sub: ∀l∈G5 (s.popn tvs.length),l∈G5 s:=fun l h=>by
  rcases i3.mp h with h|h
  ·exact i5 _ h
  ·refine c9 _ ?_
   have e:=W8 (s.tm.take tvs.length) (s.tm.drop tvs.length)
   rw[E6] at e
   rw[e]
   exact c9 _ h
 exact⟨M.sl,(Sl.split tvs M.tm).2,M.inj,M.dom,fun l h=>M.lab l (sub l h),fun l h=>M.own l (sub l h),M.frm,M.kd,M.frb,M.bas⟩
noncomputable def zb5(G:Gx)(J:It)(K:ItK)(tvs:List (Option V)):Prop:= ∀(F:Fx) ρ H σv tvp tv s i,MR G F ρ H σv (tvp++(tvs++tv)) s->match K.at' i (s.tm.drop tvp.length) with
 |none=>True
 |some none=>J.stop i H
 |some (some d)=>J.go i H/\∀x H',J.yld i H x H'->MRL G F ρ H' σv (tvp++(tvs++tv)) s [d] [x]
noncomputable def tI(G:Gx)(F:Fy)(m:M ItK):TI:=fun σv H R=> ∃tv,F.tv0<:+tv/\∃ρ s,MR G F.toFx ρ H σv tv s/\match m s with
 | .ok K s'=> ∀ρ' H' tvs J,tvs.length=K.k->MR G F.toFx ρ' H' σv (tvs++tv) s'->zb5 G J K tvs->R J H'
 | .ex d s'=>F.xw d s'
 | .no=>False
noncomputable def SI(X:Cx)(G:Gx)(F:Fy)(tg iter:Expr)(m:M ItK):Prop:=PI X tg iter (tI G F m)
theorem PI.imp0{w w':TI}(h:PI X tg iter w)(hi: ∀σ H R,w' σ H R->w σ H R):PI X tg iter w':=fun pins s σ H R I q=>h pins s σ H R I (hi σ H R q)
noncomputable def ziL(K:W.Frag)(tl:TE):TI:=fun σ H R=>tl σ H fun x H1=> ∃a,x= .ref a/\(((∃xs,SqL K H1 a xs)/\R (Itl K a) H1)\/((∃xs,SqT K H1 a xs)/\R (Itt K a) H1))
theorem zeu{l:Expr}{tl:TE}(hl:PE X l tl):PI X tg l (ziL X.K tl):=by
 intro pins s σ H R I h
 refine thn (hl pins s σ H _ I h) fun v s1 ⟨x,H1,I1,r1,q1⟩=> ?_
 obtain⟨a,e,q|q⟩:=q1
 ·subst e
  cases r1
  obtain⟨⟨xs,hq⟩,q⟩:=q
  obtain⟨its,rv,p,hz⟩:=I1.list hq
  refine wpAny_pyIter_list p.isList ?_
  refine⟨s1.heap.objs.size,[s1.heap.objs.size],_,_,H1,rfl,I1.kept (t':=s1.toks) fun b o e=>Heap.get?_push_of_some _ e,z7E a _,⟨_,Heap.get?_push_size _ rfl,rfl,rfl⟩,fun b hb=> ?_,q⟩
  have e:b=s1.heap.objs.size:=by simpa using hb
  subst e
  exact I1.fpOk (i4 _) (I1.hok.fresh (i4 _))
 ·subst e
  cases r1
  obtain⟨⟨xs,hq⟩,q⟩:=q
  obtain⟨its,rv,p,hz⟩:=I1.tuple hq
  refine wpAny_pyIter_tuple (show s1.heap.IsTuple a its.toArray from p) ?_
  refine⟨s1.heap.objs.size,[s1.heap.objs.size],_,_,H1,rfl,I1.kept (t':=s1.toks) fun b o e=>Heap.get?_push_of_some _ e,z6S a _,⟨_,Heap.get?_push_size _ rfl,rfl,rfl⟩,fun b hb=> ?_,q⟩
  have e:b=s1.heap.objs.size:=by simpa using hb
  subst e
  exact I1.fpOk (i4 _) (I1.hok.fresh (i4 _))
noncomputable def G2(m:M D):M ItK:=bd m fun d s=>match d with
 | .tup _=> .ok zco (s.psh d)
 | .lst _ _=> .ok kLst (s.psh d)
 | .ro _=> .ok kLst (s.psh d)
 |_=> .no
theorem SqT.two{K:W.Frag}{H:Hp}{a:Addr}{xs ys:List V}(k:KD K H)(h:SqT K H a xs)(h':SqT K H a ys):xs=ys:=by
 rcases h with(h|⟨o,h⟩)|⟨o,its,n,h,_,hd,_,r⟩<;>rcases h' with(h'|⟨o',h'⟩)|⟨o',its',n',h',_,hd',_,r'⟩
 ·rw[h] at h';cases h';rfl
 ·rw[h] at h';cases h'
 ·rw[k _ _ h'] at h;cases h
 ·rw[h] at h';cases h'
 ·rw[h] at h';cases h';rfl
 ·rw[k _ _ h'] at h;cases h
 ·rw[k _ _ h] at h';cases h'
 ·rw[k _ _ h] at h';cases h'
 ·rw[h] at h';cases h';rw[hd] at hd';cases hd';exact r.inj r'
theorem SqL.two{K:W.Frag}{H:Hp}{a:Addr}{xs ys:List V}(k:KD K H)(h:SqL K H a xs)(h':SqL K H a ys):xs=ys:=by
 rcases h with(h|⟨o,h⟩)|⟨o,its,n,h,_,_,hd,_,r⟩<;>rcases h' with(h'|⟨o',h'⟩)|⟨o',its',n',h',_,_,hd',_,r'⟩
 ·rw[h] at h';cases h';rfl
 ·rw[h] at h';cases h'
 ·rw[k _ _ h'] at h;cases h
 ·rw[h] at h';cases h'
 ·rw[h] at h';cases h';rfl
 ·rw[k _ _ h'] at h;cases h
 ·rw[k _ _ h] at h';cases h'
 ·rw[k _ _ h] at h';cases h'
 ·rw[h] at h';cases h';rw[hd] at hd';cases hd';exact r.inj r'
theorem MR.head{F:Fx}{ρ:Nat->Addr}{H:Hp}{σv tv:List (Option V)}{s:Stt}{v:V}{c:D}{r:List (Option D)}(M:MR G F ρ H σv (some v::tv) s)(e:s.tm=some c::r):RD G ρ H c v/\LB F ρ s.n (y9 c):=by
 obtain⟨σ,tm,n⟩:=s
 have e:tm=some c::r:=e
 subst e
 exact⟨MR.top (s:=⟨σ,r,n⟩) M,MR.topl (s:=⟨σ,r,n⟩) M⟩
theorem z6m{a:Addr}:zb5 G (Itl G.K a) kLst [some (.ref a)]:=by
 intro F ρ H σv tvp tv s i M
 dsimp only[kLst]
 cases e:s.tm.drop tvp.length with
 |nil=>trivial
 |cons o r=>
  cases o with
  |none=>trivial
  |some c=>
   erw[zcn]
   obtain⟨h,lb⟩:=MR.head (s:=s.popn tvp.length) M.popn e
   cases e1:z4S c with
   |none=>trivial
   |some ds=>
    erw[A5]
    obtain⟨a',xs,ea,sq,rr,sub⟩:=h.lstq e1
    cases ea
    cases e2:ds[i]? with
    |none=>
     refine⟨xs,sq, ?_⟩
     rw[<-rr.length]
     exact List.getElem?_eq_none_iff.mp e2
    |some d=>
     obtain⟨x,ex,rx⟩:=rr.get i d e2
     refine⟨⟨xs,x,sq,ex⟩, ?_⟩
     rintro x' H' ⟨rfl,hx⟩
     rw[hx xs sq] at ex
     cases ex
     exact⟨M,RDs.one rx,fun l hl=>lb l (sub l (labsL_mem (List.mem_of_getElem? e2) l (by simpa only[labsL,l3] using hl)))⟩
theorem za4{a:Addr}:zb5 G (Itt G.K a) zco [some (.ref a)]:=by
 intro F ρ H σv tvp tv s i M
 dsimp only[zco]
 cases e:s.tm.drop tvp.length with
 |nil=>trivial
 |cons o r=>
  cases o with
  |none=>trivial
  |some c=>
   obtain⟨h,lb⟩:=MR.head (s:=s.popn tvp.length) M.popn e
   cases c with
   |tup ds=>
    erw[za3]
    obtain⟨a',xs,ea,sq,rr⟩:=h.tupq
    cases ea
    cases e2:ds[i]? with
    |none=>
     refine⟨xs,sq, ?_⟩
     rw[<-rr.length]
     exact List.getElem?_eq_none_iff.mp e2
    |some d=>
     obtain⟨x,ex,rx⟩:=rr.get i d e2
     refine⟨⟨xs,x,sq,ex⟩, ?_⟩
     rintro x' H' ⟨rfl,hx⟩
     rw[hx xs sq] at ex
     cases ex
     exact⟨M,RDs.one rx,fun l hl=>lb l (by erw[y9];exact labsL_mem (List.mem_of_getElem? e2) l (by simpa only[labsL,l3] using hl))⟩
   |_=>trivial
theorem si_seq{m:M D}(hk:X.K=G.K)(h:SE X G F e m):SI X G F tg e (G2 m):=by
 refine PI.imp0 (zeu h) fun σ H R ⟨tv,hs,ρ,s,M,W⟩=>⟨tv,hs,ρ,s,M, ?_⟩
 unfold G2 bd at W
 cases e:m s with
 |ex d s1=>rw[e] at W;exact W
 |no=>rw[e] at W;exact W
 |ok t s1=>
  rw[e] at W
  intro ρ1 v H1 M1
  rw[hk]
  cases t with
  |tup ds=>
   obtain⟨a,xs,rfl,sq,r⟩:=M1.rd1.tupq
   exact⟨a,rfl, .inr ⟨⟨xs,sq⟩,W ρ1 H1 [some (.ref a)] _ rfl M1.push za4⟩⟩
  |lst n ds=>
   obtain⟨a,xs,rfl,sq,r,_⟩:=M1.rd1.lstq (ds:=ds) rfl
   exact⟨a,rfl, .inl ⟨⟨xs,sq⟩,W ρ1 H1 [some (.ref a)] _ rfl M1.push z6m⟩⟩
  |ro ds=>
   obtain⟨a,xs,rfl,sq,r,_⟩:=M1.rd1.lstq (ds:=ds) rfl
   exact⟨a,rfl, .inl ⟨⟨xs,sq⟩,W ρ1 H1 [some (.ref a)] _ rfl M1.push z6m⟩⟩
  |_=>exact False.elim W
noncomputable def zev(ts:List D):M ItK:=match ts with
 |[.int j]=>if -(2^62)<=j/\j<2^62 then rt (z4W 0 j.toNat) else fl
 |_=>fl
noncomputable def U1(ms:List (M D)):M ItK:=bd (Y4 ms) zev
theorem za5{lo:Int}{n:Nat}:zb5 G (Itr lo n) (z4W lo n) []:=by
 intro F ρ H σv tvp tv s i M
 erw[z4W]
 by_cases h:i<n
 ·rw[if_pos h]
  refine⟨h, ?_⟩
  rintro x H' ⟨rfl,rfl⟩
  exact⟨M,RDs.one (by erw[RD]),fun l hl=>by simp[labsL,y9] at hl⟩
 ·rw[if_neg h]
  exact F9.mp h
theorem si_rng1{p:Pos}{ms:List (M D)}(hg:Gl X "range")(hm:X.mg "range" =none)(ha:SA X G F [a] (Y4 ms))(hs:starEach [a] X.env=[(false,eval a X.env)]:=by rfl):SI X G F tg (.Call (.Name "range" p) [a] [] pos) (U1 ms):=by
 refine PI.imp0 (z7F hg hm ha hs) fun σ H R ⟨tv,hs,ρ,s,M,W⟩=>⟨tv,hs,ρ,s,M, ?_⟩
 unfold U1 bd at W
 cases e:Y4 ms s with
 |ex d s1=>rw[e] at W;exact W
 |no=>rw[e] at W;exact W
 |ok ts s1=>
  rw[e] at W
  intro ρ1 vs H1 M1
  unfold zev at W
  dsimp only at W
  split at W
  ·rename_i ts' j K s' hh
   split at hh
   ·split at hh
    ·rename_i j' hc
     cases hh
     obtain⟨v,rfl,h,_⟩:=M1.one
     erw[RD] at h
     subst h
     exact⟨j',rfl,hc.1,hc.2,W ρ1 H1 [] _ rfl M1.m za5⟩
    ·cases hh
   ·cases hh
  ·rename_i hh
   split at hh
   ·split at hh<;>cases hh
   ·cases hh
  ·exact False.elim W
noncomputable def forGo(K:ItK)(g:Tg)(b:MS):Nat->Nat->MS
 |f,i=>fun s=>match K.at' i s.tm with
  |none=> .no
  |some none=> .nx (s.popn K.k)
  |some (some d)=>match f with
   |0=> .no
   |f+1=>match asg g d s.σ with
    |none=> .no
    |some σ'=>match b {s with σ:=σ'} with
     | .nx s'=>forGo K g b f (i+1) s'
     | .ct s'=>forGo K g b f (i+1) s'
     | .bk s'=> .nx (s'.popn K.k)
     | .rt t s'=> .rt t (s'.popn K.k)
     | .ex d s'=> .ex d s'
     | .no=> .no
noncomputable def z35(mi:M ItK)(g:Tg)(b:MS):MS:=z0u mi fun K s=>forGo K g b (K.len s.tm) 0 s
theorem MRL.popn{ρ:Nat->Addr}{H:Hp}{σv tvs tv:List (Option V)}{s:Stt}{ts:List D}{vs:List V}(M:MRL G F.toFx ρ H σv (tvs++tv) s ts vs):MRL G F.toFx ρ H σv tv (s.popn tvs.length) ts vs:=⟨M.m.popn,M.rd,M.lb⟩
theorem ziM{tvs tv:List (Option V)}(h:F.tv0<:+tv):F.tv0<:+tvs++tv:=h.trans (List.suffix_append _ _)
theorem z8j{m:M ItK}{f:ItK->MS}{tv:List (Option V)}{D:z5x}{σ:St}{H:Hp}{R:It->Hp->Prop}(h:tSv G F (z0u m f) tv D σ H)
 (k: ∀K ρ' H' tvs J s',tvs.length=K.k->MR G F.toFx ρ' H' σ (tvs++tv) s'->zb5 G J K tvs->wS G F tv (f K s') D->R J H'):tI G F m σ H R:=by
 obtain⟨hs,ρ,s,M,W⟩:=h
 refine⟨tv,hs,ρ,s,M, ?_⟩
 unfold z0u at W
 cases e:m s with
 |ok K s1=>rw[e] at W;exact fun ρ' H' tvs J hl M' hok=>k K ρ' H' tvs J s1 hl M' hok W
 |ex d s1=>rw[e] at W;exact W
 |no=>rw[e] at W;exact W
theorem ss_for{body:List Stmt}{mi:M ItK}{g:Tg}{mb:MS}(hp:PassesOwn (model X.prog X.w) X.A X.env X.xe)(hc:X.calm=true)(hi:SI X G F tg iter mi)(hg:SG X G F tg g)(hb:SSs X G F body mb)(hst: ∀x,foldedSetIterable iter X.env x=pure x:=by intro _;rfl):SS X G F (.For tg iter body [] pos) (z35 mi g mb):=by
 refine PS.imp0 (zdz hp hc hi hg hb hst) fun D σ H ⟨tv,h⟩=>z8j h fun K ρ' H' tvs J s' hl M' hok W=> ?_
 have hs:=h.1
 refine⟨fun i m σ H=> ∃ρ s,MR G F.toFx ρ H σ (tvs++tv) s/\wS G F tv (forGo K g mb m i s) D,⟨_,ρ',s',M',W⟩, ?_⟩
 rintro i m σ H ⟨ρ,s,M,W⟩
 have ok:=hok F.toFx ρ H σ [] tv s i M
 erw[t5,E8,m8] at ok
 unfold forGo at W
 cases e:K.at' i s.tm with
 |none=>erw[e] at W;exact False.elim W
 |some o=>
  cases o with
  |none=>
   erw[e] at W ok
   refine .inl ⟨ok,W ρ σ H ?_⟩
   rw[<-hl]
   exact M.popn
  |some d=>
   erw[e] at W ok
   cases m with
   |zero=>exact False.elim W
   |succ f=>
    dsimp only at W
    cases e2:asg g d s.σ with
    |none=>erw[e2] at W;exact False.elim W
    |some σ'=>
     erw[e2] at W
     refine .inr ⟨ok.1,fun σ H=> ∃ρ s,MR G F.toFx ρ H σ (tvs++tv) s/\wS G F tv (forGo K g mb f (i+1) s) D,fun σ' H' q=>⟨f,B6 _,q⟩,fun x H2 y=> ?_⟩
     refine⟨tvs++tv,ρ,s,d,ok.2 x H2 y,σ',e2,fun σv' M2=>⟨tvs++tv,ziM hs,ρ,_,M2, ?_⟩⟩
     cases e3:mb {s with σ:=σ'} with
     |nx s2=>erw[e3] at W;exact fun ρ3 σ3 H3 M3=>⟨ρ3,s2,M3,W⟩
     |ct s2=>erw[e3] at W;exact fun ρ3 σ3 H3 M3=>⟨ρ3,s2,M3,W⟩
     |bk s2=>erw[e3] at W;exact fun ρ3 σ3 H3 M3=>W ρ3 σ3 H3 (by rw[<-hl];exact M3.popn)
     |rt t s2=>erw[e3] at W;exact fun ρ3 σ3 v H3 M3=>W ρ3 σ3 v H3 (by rw[<-hl];exact M3.popn)
     |ex d s2=>erw[e3] at W;exact W
     |no=>erw[e3] at W;exact W
end
noncomputable def Y5:List (Option D)->Option (List D)
 |[]=>some []
 |some d::r=>(Y5 r).map (d:: ·)
 |none::_=>none
noncomputable def j0(K:ItK)(g:Tg)(mt:M Bool)(me:M D)(ol:Nat):Nat->Nat->Nat->M D
 |f,i,k=>fun s=>match K.at' i (s.tm.drop (k+ol)) with
  |none=> .no
  |some none=>match Y5 (s.tm.take k).reverse with
   |some ds=> .ok (.lst s.n ds) {σ:=(s.tm.drop k).take ol,tm:=s.tm.drop (k+ol+K.k),n:=s.n+1}
   |none=> .no
  |some (some d)=>match f with
   |0=> .no
   |f+1=>match asg g d s.σ with
    |none=> .no
    |some σ'=>match mt {s with σ:=σ'} with
     | .ok false s1=>j0 K g mt me ol f (i+1) k s1
     | .ok true s1=>if k<sizeLine then match me s1 with
      | .ok y s2=>j0 K g mt me ol f (i+1) (k+1) (s2.psh y)
      |_=> .no
      else .no
     |_=> .no
noncomputable def z4X(own:Nat)(ix:List Nat)(s:Stt):Stt:={σ:=l5 own none++ix.map (fun i=>(s.σ[i]?).getD none),tm:=s.σ++s.tm,n:=s.n}
noncomputable def W3(mi:M ItK)(g:Tg)(mt:M Bool)(me:M D)(own:Nat)(ix:List Nat):M D:=bd mi fun K s=>j0 K g mt me s.σ.length (K.len s.tm) 0 0 (z4X own ix s)
section
variable{X:Cx}{G:Gx}{F:Fy}{e a b c tg iter elt:Expr}{pos:Pos}
noncomputable def Fy.prot(F:Fy)(D:Addr)(ys:List V)(h:F.H0 D=none):Fy where
 A0:=F.A0
 H0:=upd F.H0 D (.lst ys)
 Z:=fun a=>a=D\/F.Z a
 zA:=fun a z=>by
  rcases z with rfl|z
  ·exact⟨⟨_,Z8⟩,fun q=>by obtain⟨o,e⟩:=F.aH _ q;rw[h] at e;cases e⟩
  ·obtain⟨⟨o,e⟩,n⟩:=F.zA a z
   exact⟨⟨o,by rw[Z6 (J6 e h)];exact e⟩,n⟩
 aH:=fun a q=>by
  obtain⟨o,e⟩:=F.aH a q
  exact⟨o,by rw[Z6 (J6 e h)];exact e⟩
 n0:=F.n0
 ρ0:=F.ρ0
 tv0:=[]
 xw:=fun _ _=>False
theorem Sl.none_map{ρ:Nat->Addr}{H:Hp}: ∀k:Nat,Sl G ρ H (l5 k none) (l5 k none)
 |0=>by simp[Sl]
 |k+1=>by erw[B5,Sl];exact⟨_,_,rfl,Sl.none_map k⟩
theorem Sl.pick{ρ:Nat->Addr}{H:Hp}{σ:List (Option D)}{σv:List (Option V)}(h:Sl G ρ H σ σv): ∀ix:List Nat,Sl G ρ H (ix.map fun i=>(σ[i]?).getD none) (ix.map fun i=>(σv[i]?).getD none)
 |[]=>by simp[Sl]
 |i::ix=>by
  erw[i6]
  cases e:σ[i]? with
  |none=>erw[N1,Sl];exact⟨_,_,rfl,Sl.pick h ix⟩
  |some o=>
   cases o with
   |none=>erw[A8,Sl];exact⟨_,_,rfl,Sl.pick h ix⟩
   |some d=>
    obtain⟨v,e1,r⟩:=h.get i d e
    erw[A8,Sl,e1]
    exact⟨_,_,rfl,r,Sl.pick h ix⟩
theorem z1v{σ:List (Option D)}{l:Nat}: ∀{ix:List Nat},l∈Y0 (ix.map fun i=>(σ[i]?).getD none)->l∈Y0 σ
 |[],h=>by simp[Y0] at h
 |i::ix,h=>by
  erw[i6] at h
  cases e:σ[i]? with
  |none=>rw[e] at h;erw[N1,Y0] at h;exact z1v h
  |some o=>
   rw[e] at h
   cases o with
   |none=>erw[A8,Y0] at h;exact z1v h
   |some d=>
    erw[A8,Y0] at h
    rcases i3.mp h with h|h
    ·exact z0z e l h
    ·exact z1v h
theorem z2C{l:Nat}: ∀k:Nat,¬l∈Y0 (l5 k (none:Option D))
 |0,h=>by simp[Y0] at h
 |k+1,h=>by erw[B5,Y0] at h;exact z2C k h
theorem MR.enter{ρ:Nat->Addr}{H:Hp}{σv tv:List (Option V)}{s:Stt}{D:Addr}(M:MR G F.toFx ρ H σv tv s)(hD:H D=none)(k:KD G.K (upd H D (.lst [])))(own:Nat)(ix:List Nat):
 MR G (F.prot D [] (M.fresh0 hD)).toFx ρ (upd H D (.lst [])) (k9 own ix σv) (σv++tv) (z4X own ix s):=by
 have sm:=z0X.new (.lst []) hD
 have M1:=M.same sm k
 have nD: ∀l,l<s.n->ρ l≠D:=fun l hl e=>by
  obtain⟨o,q⟩:=M.dom l hl
  rw[e,hD] at q;cases q
 have sub: ∀l∈G5 (z4X own ix s),l∈G5 s:=fun l h=>by
  rcases i3.mp h with h|h
  ·have h:l∈Y0 (l5 own none++ix.map (fun i=>(s.σ[i]?).getD none)):=h
   rw[W8] at h
   rcases i3.mp h with h|h
   ·exact absurd h (z2C own)
   ·exact i5 _ (z1v h)
  ·have h:l∈Y0 (s.σ++s.tm):=h
   rw[W8] at h
   exact h
 refine⟨?_,M1.sl.append M1.tm,M1.inj,M1.dom,fun l h=>M.lab l (sub l h),fun l h=> ?_,fun a o e=> ?_,k,fun l hl z=> ?_,M.bas⟩
 ·exact(Sl.none_map own).append (M1.sl.pick ix)
 ·rcases M.own l (sub l h) with q|q
  ·exact .inl q
  ·refine .inr ?_
   show upd F.H0 D (.lst []) (ρ l)=none
   rw[Z6 (nD l (M.lab l (sub l h)))];exact q
 ·have e:upd F.H0 D (.lst []) a=some o:=e
  by_cases ha:a=D
  ·subst ha
   rw[Z8] at e;cases e
   exact⟨⟨_,Z8⟩,fun _=>Z8⟩
  ·rw[Z6 ha] at e
   exact M1.frm a o e
 ·rcases z with z|z
  ·exact nD l hl z
  ·exact M.frb l hl z
theorem MR.turnD{ρ:Nat->Addr}{H:Hp}{σv tv:List (Option V)}{s:Stt}{D:Addr}{ys ys':List V}{hf:F.H0 D=none}(M:MR G (F.prot D ys hf).toFx ρ H σv tv s):
 H D=some (.lst ys)/\MR G (F.prot D ys' hf).toFx ρ (upd H D (.lst ys')) σv tv s:=by
 have hD:H D=some (.lst ys):=(M.frm D (.lst ys) Z8).2 ((F.prot D ys hf).zA D (.inl rfl)).2
 have nD: ∀l,l<s.n->ρ l≠D:=fun l hl e=>M.frb l hl (.inl e)
 have st:V5 H (upd H D (.lst ys')):=⟨fun b xs e=>by rw[Z6 (z36 e hD (by intro z;cases z))];exact e,fun b o u e=>by rw[Z6 (z36 e hD (by intro z;cases z))];exact e⟩
 refine⟨hD,⟨Sl.stay st M.sl fun l hl=>⟨rfl,fun o e=> ?_⟩,Sl.stay st M.tm fun l hl=>⟨rfl,fun o e=> ?_⟩,M.inj,fun l hl=> ?_,M.lab,fun l h=> ?_,fun a o e=> ?_,fun a o e=> ?_,fun l hl=>M.frb l hl,M.bas⟩⟩
 ·rw[Z6 (nD l (M.lab l (i5 _ hl)))];exact e
 ·rw[Z6 (nD l (M.lab l (c9 _ hl)))];exact e
 ·rw[Z6 (nD l hl)];exact M.dom l hl
 ·rcases M.own l h with q|q
  ·exact .inl q
  ·refine .inr ?_
   have q:upd F.H0 D (.lst ys) (ρ l)=none:=q
   show upd F.H0 D (.lst ys') (ρ l)=none
   rw[Z6 (nD l (M.lab l h))] at q⊢;exact q
 ·have e:upd F.H0 D (.lst ys') a=some o:=e
  by_cases ha:a=D
  ·subst ha
   rw[Z8] at e;cases e
   exact⟨⟨_,Z8⟩,fun _=>Z8⟩
  ·rw[Z6 ha] at e⊢
   exact M.frm a o (by show upd F.H0 D (.lst ys) a=some o;rw[Z6 ha];exact e)
 ·by_cases ha:a=D
  ·subst ha
   rw[M.kd a o e] at hD;cases hD
  ·rw[Z6 ha];exact M.kd a o e
theorem Sl.all{ρ:Nat->Addr}{H:Hp}: ∀{tm:List (Option D)} {ys:List V} {ds:List D},Sl G ρ H tm (ys.map some)->Y5 tm=some ds->RDs G ρ H ds ys/\labsL ds=Y0 tm
 |[],ys,ds,h,e=>by
  erw[Sl] at h
  erw[Y5,Option.some.injEq] at e
  subst e
  have:ys=[]:=by simpa using h
  subst this
  simp[RDs,labsL,Y0]
 |none::r,ys,ds,h,e=>by erw[Y5] at e;cases e
 |some d::r,ys,ds,h,e=>by
  erw[Sl] at h
  obtain⟨v,q,e1,h1,h2⟩:=h
  cases ys with
  |nil=>cases e1
  |cons y ys=>
   erw[i6,List.cons.injEq,Option.some.injEq] at e1
   obtain⟨rfl,rfl⟩:=e1
   erw[Y5] at e
   cases e2:Y5 r with
   |none=>rw[e2] at e;cases e
   |some es=>
    rw[e2] at e
    cases e
    obtain⟨r1,r2⟩:=Sl.all h2 e2
    refine⟨?_,by erw[labsL,Y0,r2]⟩
    erw[RDs]
    exact⟨_,_,rfl,h1,r1⟩
theorem Sl.reverse{ρ:Nat->Addr}{H:Hp}: ∀{tm:List (Option D)} {ys:List (Option V)},Sl G ρ H tm ys->Sl G ρ H tm.reverse ys.reverse
 |[],ys,h=>by erw[Sl] at h;subst h;simp[Sl]
 |none::r,ys,h=>by
  erw[Sl] at h
  obtain⟨o,q,rfl,h⟩:=h
  rw[A9,A9]
  exact(Sl.reverse h).append (by erw[Sl];exact⟨_,_,rfl,rfl⟩)
 |some d::r,ys,h=>by
  erw[Sl] at h
  obtain⟨o,q,rfl,h1,h⟩:=h
  rw[A9,A9]
  exact(Sl.reverse h).append (by erw[Sl];exact⟨_,_,rfl,h1,rfl⟩)
theorem z2D{l:Nat}: ∀{tm:List (Option D)},l∈Y0 tm.reverse↔l∈Y0 tm
 |[]=>by simp
 |none::r=>by
  rw[A9,W8]
  erw[Y0,l3]
  exact z2D
 |some d::r=>by
  rw[A9,W8]
  erw[Y0,l3,i3]
  rw[z2D]
  exact Or.comm
theorem MR.leave{ρ:Nat->Addr}{H:Hp}{σi σv tvs tv:List (Option V)}{s:Stt}{A1:Addr}{ys:List V}{hf:F.H0 A1=none}{ds:List D}{kk:Nat}
 (M:MR G (F.prot A1 ys hf).toFx ρ H σi ((ys.reverse.map some)++(σv++(tvs++tv))) s) (hk:tvs.length=kk) (ol:Nat) (ho:σv.length=ol) (e:Y5 (s.tm.take ys.length).reverse=some ds):
 MRL G F.toFx (ext ρ s.n A1) H σv tv {σ:=(s.tm.drop ys.length).take ol,tm:=s.tm.drop (ys.length+ol+kk),n:=s.n+1} [.lst s.n ds] [.ref A1]:=by
 subst hk ho
 have hD:=(MR.turnD (ys':=ys) M).1
 have nD: ∀l,l<s.n->ρ l≠A1:=fun l hl e=>M.frb l hl (.inl e)
 have t0:=Sl.split (ys.reverse.map some) M.tm
 erw[A3,O2] at t0
 obtain⟨t1,t2⟩:=t0
 obtain⟨t3,t4⟩:=Sl.split σv t2
 obtain⟨_,t6⟩:=Sl.split tvs t4
 rw[D0] at t4
 rw[D0,D0] at t6
 have t6':Sl G ρ H (s.tm.drop (ys.length+σv.length+tvs.length)) tv:=by rw[N2];exact t6
 have t1':=t1.reverse
 rw[<-List.map_reverse,List.reverse_reverse] at t1'
 obtain⟨r1,r2⟩:=Sl.all t1' e
 have lt: ∀l,l∈Y0 (s.tm.take ys.length)->l∈G5 s:=fun l h=>c9 _ (by
  have e:=W8 (s.tm.take ys.length) (s.tm.drop ys.length)
  rw[E6] at e
  rw[e];exact i5 _ h)
 have ld: ∀l k,l∈Y0 (s.tm.drop k)->l∈G5 s:=fun l k h=>c9 _ (by
  have e:=W8 (s.tm.take k) (s.tm.drop k)
  rw[E6] at e
  rw[e];exact c9 _ h)
 have ldt: ∀l k j,l∈Y0 ((s.tm.drop k).take j)->l∈G5 s:=fun l k j h=>ld l k (by
  have e:=W8 ((s.tm.drop k).take j) ((s.tm.drop k).drop j)
  rw[E6] at e
  rw[e];exact i5 _ h)
 have own: ∀l∈G5 s,F.A0 (ρ l)\/F.H0 (ρ l)=none:=fun l h=>by
  rcases M.own l h with q|q
  ·exact .inl q
  ·refine .inr ?_
   have q:upd F.H0 A1 (.lst ys) (ρ l)=none:=q
   rw[Z6 (nD l (M.lab l h))] at q;exact q
 have st:=V5.refl H
 have stay: ∀l,l<s.n->ext ρ s.n A1 l=ρ l/\∀o,H (ρ l)=some o->H (ρ l)=some o:=fun l hl=>⟨Q7 hl,fun o e=>e⟩
 have all: ∀l∈G5 {σ:=(s.tm.drop ys.length).take σv.length,tm:=s.tm.drop (ys.length+σv.length+tvs.length),n:=s.n+1},l∈G5 s:=fun l h=>by
  rcases i3.mp h with h|h
  ·exact ldt l _ _ h
  ·exact ld l _ h
 have dsl: ∀l∈labsL ds,l∈G5 s:=fun l h=>lt l (by rw[r2] at h;exact z2D.mp h)
 refine⟨⟨Sl.stay st t3 fun l hl=>stay l (M.lab l (ldt l _ _ hl)),Sl.stay st t6' fun l hl=>stay l (M.lab l (ld l _ hl)),fun i j hi hj eq=> ?_,fun l hl=> ?_,fun l h=>D3 (M.lab l (all l h)),fun l h=> ?_,fun a o e=> ?_,M.kd,fun l hl z=> ?_,⟨S2 M.bas.1,fun l hl=>by rw[Q7 (n9 hl M.bas.1)];exact M.bas.2 l hl⟩⟩, ?_,fun l h=> ?_⟩
 ·have hi:i<s.n+1:=hi
  have hj:j<s.n+1:=hj
  by_cases h1:i=s.n
  ·by_cases h2:j=s.n
   ·lia
   ·rw[h1,U4,Q7 (by lia)] at eq
    exact absurd eq.symm (nD j (by lia))
  ·by_cases h2:j=s.n
   ·rw[h2,U4,Q7 (by lia)] at eq
    exact absurd eq (nD i (by lia))
   ·rw[Q7 (by lia),Q7 (by lia)] at eq
    exact M.inj i j (by lia) (by lia) eq
 ·have hl:l<s.n+1:=hl
  by_cases h1:l=s.n
  ·subst h1;rw[U4];exact⟨_,hD⟩
  ·rw[Q7 (by lia)];exact M.dom l (by lia)
 ·rw[Q7 (M.lab l (all l h))];exact own l (all l h)
 ·exact M.frm a o (by show upd F.H0 A1 (.lst ys) a=some o;rw[Z6 (J6 e hf)];exact e)
 ·have hl:l<s.n+1:=hl
  by_cases h1:l=s.n
  ·subst h1;rw[U4] at z
   obtain⟨⟨o,e⟩,_⟩:=F.zA A1 z
   rw[hf] at e;cases e
  ·rw[Q7 (by lia)] at z
   exact M.frb l (by lia) (.inr z)
 ·refine RDs.one ?_
  erw[RD]
  rw[U4]
  exact⟨rfl,ys,hD,RDs.stay st ds ys r1 fun l hl=>stay l (M.lab l (dsl l hl))⟩
 ·erw[labsL,y9,l3] at h
  rcases i0.mp h with q|q
  ·rw[q,U4];exact⟨B6 _, .inr hf⟩
  ·have q2:=dsl l q
   exact⟨D3 (M.lab l q2),by rw[Q7 (M.lab l q2)];exact own l q2⟩
noncomputable def tMx(G:Gx)(m:M D):TE:=fun σ H Q=> ∃F:Fy,tM G F m σ H Q
noncomputable def tBx(G:Gx)(m:M Bool):TT:=fun σ H Q=> ∃F:Fy,tMB G F m σ H Q
noncomputable def tGx(G:Gx)(g:Tg):TG:=fun v σ H Q=> ∃F:Fy,tGn G F g v σ H Q
noncomputable def STs(X:Cx)(G:Gx)(F:Fy)(ifs:List Expr)(m:M Bool):Prop:=PTs X ifs (tMB G F m)
theorem sts_nil:STs X G F [] (rt true):=fun pins s σ H Q I ⟨tv,hs,ρ,ms,M,W⟩=>zck pins s σ H Q I (W ρ H M)
theorem sts_one{m:M Bool}(h:SB X G F c m):STs X G F [c] m:=zcl h
theorem z40{K:W.Frag}{k:Nat}{ix:List Nat}{mi:M ItK}{g:Tg}{mt:M Bool}{me:M D}{σ:St}{H:Hp}{Q:VK}(hk:K=G.K)(h:tM G F (W3 mi g mt me k ix) σ H Q):z4U K (tI G F mi) (tGx G g) (tBx G mt) (tMx G me) k ix σ H Q:=by
 obtain⟨tv,hsf,ρ,s,M,W⟩:=h
 refine⟨tv,hsf,ρ,s,M, ?_⟩
 unfold W3 bd at W
 cases em:mi s with
 |ex d s1=>rw[em] at W;exact W
 |no=>rw[em] at W;exact W
 |ok K s1=>
  rw[em] at W
  intro ρ1 H1 tvs J hl M1 hok A1 hA1 kd
  subst hk
  have kd:KD G.K (upd H1 A1 (.lst [])):=kd
  have hf:=M1.fresh0 hA1
  refine⟨fun i m ys σ' H'=> ∃ρ s,MR G (F.prot A1 ys hf).toFx ρ H' σ' ((ys.reverse.map some)++(σ++(tvs++tv))) s/\wM G F σ tv (j0 K g mt me s1.σ.length m i ys.length s) Q,⟨_,ρ1,_,M1.enter hA1 kd k ix,W⟩, ?_⟩
  rintro i m ys σ' H' ⟨ρ2,s2,M2,W2⟩
  have hD:=(MR.turnD (ys':=ys) M2).1
  refine⟨hD, ?_⟩
  have ol:s1.σ.length=σ.length:=M1.sl.length
  have ok:=hok (F.prot A1 ys hf).toFx ρ2 H' σ' ((ys.reverse.map some)++σ) tv s2 i (by rw[r6];exact M2)
  erw[m7,A3,O2,<-ol,r6] at ok
  unfold j0 at W2
  cases e:K.at' i (s2.tm.drop (ys.length+s1.σ.length)) with
  |none=>erw[e] at W2;exact False.elim W2
  |some o=>
   rw[e] at ok
   cases o with
   |none=>
    erw[e] at W2 ok
    refine .inl ⟨ok, ?_⟩
    cases ea:Y5 (s2.tm.take ys.length).reverse with
    |none=>erw[ea] at W2;exact False.elim W2
    |some ds=>
     erw[ea] at W2
     exact W2 _ _ _ (MR.leave M2 hl _ ol.symm ea)
   |some d=>
    erw[e] at W2 ok
    cases m with
    |zero=>exact False.elim W2
    |succ f=>
     dsimp only at W2
     cases e2:asg g d s2.σ with
     |none=>erw[e2] at W2;exact False.elim W2
     |some σ3=>
      erw[e2] at W2
      refine .inr ⟨ok.1,fun x H2 y=> ?_⟩
      have hx:=ok.2 x H2 y
      refine⟨F.prot A1 ys hf,_,ρ2,s2,d,hx,σ3,e2,fun σv' M3=>⟨F.prot A1 ys hf,_,N9,ρ2,_,M3, ?_⟩⟩
      cases e3:mt {s2 with σ:=σ3} with
      |ex d s4=>erw[e3] at W2;exact False.elim W2
      |no=>erw[e3] at W2;exact False.elim W2
      |ok b s4=>
       intro ρ4 H4 M4
       cases b with
       |false=>
        erw[e3] at W2
        rw[if_neg A6]
        exact⟨f,B6 _,ρ4,s4,M4,W2⟩
       |true=>
        erw[e3] at W2
        rw[if_pos rfl]
        by_cases hz:ys.length<sizeLine
        ·rw[if_pos hz] at W2
         refine⟨F.prot A1 ys hf,_,N9,ρ4,s4,M4, ?_⟩
         cases e5:me s4 with
         |ex d s5=>erw[e5] at W2;exact False.elim W2
         |no=>erw[e5] at W2;exact False.elim W2
         |ok y s5=>
          erw[e5] at W2
          intro ρ5 v H5 M5
          obtain⟨hD5,M6⟩:=MR.turnD (ys':=ys++[v]) M5.push
          refine⟨hD5,hz,f,B6 _,ρ5,s5.psh y, ?_, ?_⟩
          ·rw[B9,A9,B2,m8,B8]
           exact M6
          ·rw[m7];exact W2
        ·rw[if_neg hz] at W2;exact False.elim W2
theorem se_comp{scope:Scope}{own frees:List Str}{ix:List Nat}{ifs:List Expr}{mi:M ItK}{g:Tg}{mt:M Bool}{me:M D}(hk:X.K=G.K)(hc:X.calm=true)(S:G1 X.env.scope scope own frees X.N ix)(hi:SI X G F tg iter mi)
 (hg: ∀(F:Fy) cl C s₀ H₀ fp pn,SG (compCx X scope own frees cl C s₀ H₀ fp pn) G F tg g) (ht: ∀(F:Fy) cl C s₀ H₀ fp pn,STs (compCx X scope own frees cl C s₀ H₀ fp pn) G F ifs mt) (he: ∀(F:Fy) cl C s₀ H₀ fp pn,SE (compCx X scope own frees cl C s₀ H₀ fp pn) G F elt me)
 (hs: ∀x,foldedSetIterable iter X.env x=pure x:=by intro _;rfl):SE X G F (.ListComp elt [⟨tg,iter,ifs,0⟩] scope pos) (W3 mi g mt me own.length ix):=
 PE.imp0 (z4V (g:=tGx G g) (tt:=tBx G mt) (te:=tMx G me) hc S hi (fun cl C s₀ H₀ fp pn pins s σ H v u Q I r ⟨F',q⟩=>hg F' cl C s₀ H₀ fp pn pins s σ H v u Q I r q)
  (fun cl C s₀ H₀ fp pn pins s σ H Q I ⟨F',q⟩=>ht F' cl C s₀ H₀ fp pn pins s σ H Q I q) (fun cl C s₀ H₀ fp pn pins s σ H Q I ⟨F',q⟩=>he F' cl C s₀ H₀ fp pn pins s σ H Q I q) hs) fun σ H Q h=>z40 hk h
theorem ss_comp{y:Str}{py spos:Pos}{i:Nat}{scope:Scope}{own frees:List Str}{ix:List Nat}{ifs:List Expr}{mi:M ItK}{g:Tg}{mt:M Bool}{me:M D}(hk:X.K=G.K)(hN:X.N.Nodup)(hy:X.N[i]? =some y)(hx:Loc X.env.scope y)(hfn:X.fn y=true\/X.env.scope.names.lookup y=some .local)(hsw:swapsWith (.ListComp elt [⟨tg,iter,ifs,0⟩] scope pos) (some (.Name y py)) spos.line X.env=pure true)
 (hc:X.calm=true) (S:G1 X.env.scope scope own frees X.N ix) (hi:SI X G F tg iter mi)
 (hg: ∀(F:Fy) cl C s₀ H₀ fp pn,SG (compCx X scope own frees cl C s₀ H₀ fp pn) G F tg g) (ht: ∀(F:Fy) cl C s₀ H₀ fp pn,STs (compCx X scope own frees cl C s₀ H₀ fp pn) G F ifs mt) (he: ∀(F:Fy) cl C s₀ H₀ fp pn,SE (compCx X scope own frees cl C s₀ H₀ fp pn) G F elt me)
 (hs: ∀x,foldedSetIterable iter X.env x=pure x:=by intro _;rfl):SS X G F (.Assign [.Name y py] (.ListComp elt [⟨tg,iter,ifs,0⟩] scope pos) spos) (Q8 (.nm i) (W3 mi g mt me own.length ix)):=by
 refine PS.imp0 (z8g (i:=i) (g:=tGx G g) (tt:=tBx G mt) (te:=tMx G me) hN hy hx hfn hsw hc S hi (fun cl C s₀ H₀ fp pn pins s σ H v u Q I r ⟨F',q⟩=>hg F' cl C s₀ H₀ fp pn pins s σ H v u Q I r q)
  (fun cl C s₀ H₀ fp pn pins s σ H Q I ⟨F',q⟩=>ht F' cl C s₀ H₀ fp pn pins s σ H Q I q) (fun cl C s₀ H₀ fp pn pins s σ H Q I ⟨F',q⟩=>he F' cl C s₀ H₀ fp pn pins s σ H Q I q) hs) fun Dd σ H ⟨tv,h⟩=> ?_
 refine z40 hk ⟨tv,(z0h h).mono fun v H1 ⟨ρ1,s1,t,M1,W⟩=> ?_⟩
 erw[asg] at W
 exact W ρ1 _ H1 (M1.setS i).m
end
mutual
noncomputable def W9(l:Nat):D->Option D
 | .tup ds=>findL l ds
 | .ro ds=>findL l ds
 | .fdc _ vs=>findL l vs
 | .lst k ds=>if k=l then some (.lst k ds) else findL l ds
 | .dct k ks vs=>if k=l then some (.dct k ks vs) else findL l vs
 | .obj k c ns vs=>if k=l then some (.obj k c ns vs) else findL l vs
 | .non=>none| .bool _=>none| .int _=>none| .str _=>none| .exc _=>none| .fn _=>none
noncomputable def findL(l:Nat):List D->Option D
 |[]=>none
 |d::ds=>match W9 l d with
  |some x=>some x
  |none=>findL l ds
end
section
variable{G:Gx}{ρ:Nat->Addr}{H:Hp}
mutual
theorem za6(l:Nat): ∀(t:D) (v:V) (d:D),RD G ρ H t v->W9 l t=some d->RD G ρ H d (.ref (ρ l))/\∀k∈y9 d,k∈y9 t
 | .non,v,d,h,e=>by erw[W9] at e;cases e
 | .bool b,v,d,h,e=>by erw[W9] at e;cases e
 | .int b,v,d,h,e=>by erw[W9] at e;cases e
 | .str b,v,d,h,e=>by erw[W9] at e;cases e
 | .exc b,v,d,h,e=>by erw[W9] at e;cases e
 | .fn b,v,d,h,e=>by erw[W9] at e;cases e
 | .tup ds,v,d,h,e=>by
  erw[W9,RD,y9] at h e⊢
  obtain⟨a,xs,_,_,r⟩:=h
  exact findL_rd l ds xs d r e
 | .ro ds,v,d,h,e=>by
  erw[W9,RD,y9] at h e⊢
  obtain⟨a,xs,_,_,r⟩:=h
  exact findL_rd l ds xs d r e
 | .fdc ks vs,v,d,h,e=>by
  erw[W9,RD,y9] at h e⊢
  obtain⟨a,o,kvs,_,_,_,r⟩:=h
  exact findL_rd l vs _ d r e
 | .lst k ds,v,d,h,e=>by
  erw[W9] at e
  by_cases hk:k=l
  ·rw[if_pos hk] at e;cases e
   subst hk
   have h':=h
   erw[RD] at h'
   obtain⟨rfl,_⟩:=h'
   exact⟨h,fun _ q=>q⟩
  ·rw[if_neg hk] at e
   erw[RD] at h
   obtain⟨_,xs,_,r⟩:=h
   obtain⟨q1,q2⟩:=findL_rd l ds xs d r e
   exact⟨q1,fun j hj=>by erw[y9];exact e9 _ (q2 j hj)⟩
 | .dct k ks vs,v,d,h,e=>by
  erw[W9] at e
  by_cases hk:k=l
  ·rw[if_pos hk] at e;cases e
   subst hk
   have h':=h
   erw[RD] at h'
   obtain⟨rfl,_⟩:=h'
   exact⟨h,fun _ q=>q⟩
  ·rw[if_neg hk] at e
   erw[RD] at h
   obtain⟨_,⟨kvs,_,_,r⟩|⟨kvs,_,_,r⟩⟩:=h
   ·obtain⟨q1,q2⟩:=findL_rd l vs _ d r e
    exact⟨q1,fun j hj=>by erw[y9];exact e9 _ (c9 _ (q2 j hj))⟩
   ·obtain⟨q1,q2⟩:=findL_rd l vs _ d r e
    exact⟨q1,fun j hj=>by erw[y9];exact e9 _ (c9 _ (q2 j hj))⟩
 | .obj k c ns vs,v,d,h,e=>by
  erw[W9] at e
  by_cases hk:k=l
  ·rw[if_pos hk] at e;cases e
   subst hk
   have h':=h
   erw[RD] at h'
   obtain⟨rfl,_⟩:=h'
   exact⟨h,fun _ q=>q⟩
  ·rw[if_neg hk] at e
   erw[RD] at h
   obtain⟨_,C,dx,fs,_,_,_,r⟩:=h
   obtain⟨q1,q2⟩:=findL_rd l vs _ d r e
   exact⟨q1,fun j hj=>by erw[y9];exact e9 _ (q2 j hj)⟩
theorem findL_rd(l:Nat): ∀(t:List D) (v:List V) (d:D),RDs G ρ H t v->findL l t=some d->RD G ρ H d (.ref (ρ l))/\∀k∈y9 d,k∈labsL t
 |[],v,d,h,e=>by erw[findL] at e;cases e
 |t::ts,v,d,h,e=>by
  erw[findL,RDs,labsL] at h e⊢
  obtain⟨x,r,_,h1,h2⟩:=h
  cases e1:W9 l t with
  |some y=>
   rw[e1] at e;cases e
   obtain⟨q1,q2⟩:=za6 l t x _ h1 e1
   exact⟨q1,fun j hj=>i5 _ (q2 j hj)⟩
  |none=>
   rw[e1] at e
   obtain⟨q1,q2⟩:=findL_rd l ts r d h2 e
   exact⟨q1,fun j hj=>c9 _ (q2 j hj)⟩
end
theorem roL_two{K:W.Frag}{a:Addr}{xs ys:List V}(k:KD K H)(h:RoL K H a xs)(h':RoL K H a ys):xs=ys:=SqL.two k h.sq h'.sq
noncomputable def z6n(G:Gx)(H:Hp)(a:Addr):Nat->Prop
 |0=> ∃xs,SqT G.K H a xs
 |1=> ∃xs,RoL G.K H a xs
 |2=> ∃xs,H a=some (.lst xs)
 |3=>(∃kvs,H a=some (.dK kvs))\/∃kvs,H a=some (.dT kvs)
 |4=> ∃C dx fs,H a=some (.ins C dx fs)
 |5=> ∃o φ,H a=some (.frz o (.ext φ))
 |6=> ∃c,G.cl c=some a
 |_=> ∃o kvs,H a=some (.frz o (.dT kvs))
open Classical in
noncomputable def kd(K:W.Frag)(H:Hp)(a:Addr):Nat:=match H a with
 |some (.tup _)=>0|some (.frz _ (.tup _))=>0|some (.frz _ (.lst _))=>1|some (.lst _)=>2|some (.dK _)=>3|some (.dT _)=>3|some (.ins _ _ _)=>4|some (.frz _ (.ext _))=>5|some (.frz _ (.dT _))=>7
 |some _=>9
 |none=>match K.lookup a with
  |some o=>if(∃its n,o.data= .seq its n) then(if o.cls= .type "tuple" then 0 else 1) else 6
  |none=>8
theorem zew{a:Addr}(k:KD G.K H): ∀{i:Nat},z6n G H a i->i<=7->kd G.K H a=i:=by
 have tl: ¬((.type "list" :Value)= .type "tuple"):=by intro h;injection h with h;exact absurd h (by decide)
 intro i hi li
 match i,hi,li with
 |0,⟨xs,h⟩,_=>
  rcases h with(h|⟨o,h⟩)|⟨o,its,n,h,hc,hd,_⟩
  ·unfold kd;rw[h]
  ·unfold kd;rw[h]
  ·unfold kd;rw[k _ _ h];dsimp only;rw[h];dsimp only;rw[if_pos ⟨its,n,hd⟩,if_pos hc]
 |1,⟨xs,h⟩,_=>
  rcases h with⟨o,h⟩|⟨o,its,n,h,hc,_,hd,_⟩
  ·unfold kd;rw[h]
  ·unfold kd;rw[k _ _ h];dsimp only;rw[h];dsimp only;rw[if_pos ⟨its,n,hd⟩,if_neg (by rw[hc];exact tl)]
 |2,⟨xs,h⟩,_=>unfold kd;rw[h]
 |3,h,_=>rcases h with⟨_,h⟩|⟨_,h⟩<;>(unfold kd;rw[h])
 |4,⟨_,_,_,h⟩,_=>unfold kd;rw[h]
 |5,⟨_,_,h⟩,_=>unfold kd;rw[h]
 |6,⟨c,h⟩,_=>
  obtain⟨o,h1,h2⟩:=G.ck c a h
  unfold kd;rw[k _ _ h1];dsimp only;rw[h1];dsimp only;rw[if_neg (fun⟨its,n,q⟩=>h2 its n q)]
 |7,⟨_,_,h⟩,_=>unfold kd;rw[h]
 |n+8,_,li=>lia
theorem za7{a:Addr}(k:KD G.K H){i j:Nat}(hi:z6n G H a i)(hj:z6n G H a j)(li:i<=7)(lj:j<=7):i=j:=(zew k hi li).symm.trans (zew k hj lj)
noncomputable def ix:D->Nat
 | .tup _=>0| .ro _=>1| .lst _ _=>2| .dct _ _ _=>3| .obj _ _ _ _=>4| .exc _=>5| .fn _=>6| .fdc _ _=>7|_=>8
noncomputable def flD:V->D
 | .bl b=> .bool b| .int b=> .int b| .str b=> .str b|_=> .non
theorem RD.kind{t:D}{v:V}(h:RD G ρ H t v):(t=flD v/\∀a,v≠ .ref a)\/∃a,v= .ref a/\ix t<=7/\z6n G H a (ix t):=by
 cases t<;>erw[RD] at h
 ·exact .inl (by rw[h];exact⟨rfl,nofun⟩)
 ·exact .inl (by rw[h];exact⟨rfl,nofun⟩)
 ·exact .inl (by rw[h];exact⟨rfl,nofun⟩)
 ·exact .inl (by rw[h];exact⟨rfl,nofun⟩)
 ·obtain⟨a',xs,e,s,r⟩:=h;exact .inr ⟨a',e,B4 rfl,xs,SqT.of s⟩
 ·obtain⟨a',xs,e,s,r⟩:=h;exact .inr ⟨a',e,B4 rfl,xs,s⟩
 ·obtain⟨e,xs,s,r⟩:=h;exact .inr ⟨_,e,B4 rfl,xs,s⟩
 ·obtain⟨e,⟨kvs,s,_⟩|⟨kvs,s,_⟩⟩:=h
  ·exact .inr ⟨_,e,B4 rfl, .inl ⟨kvs,s⟩⟩
  ·exact .inr ⟨_,e,B4 rfl, .inr ⟨kvs,s⟩⟩
 ·obtain⟨e,C,dx,fs,_,s,_⟩:=h;exact .inr ⟨_,e,B4 rfl,C,dx,fs,s⟩
 ·obtain⟨a',o,C,e,_,_,_,s⟩:=h;exact .inr ⟨a',e,B4 rfl,o,_,s⟩
 ·obtain⟨a',e,s⟩:=h;exact .inr ⟨a',e,B4 rfl,_,s⟩
 ·obtain⟨a',o,kvs,e,s,_⟩:=h;exact .inr ⟨a',e,B4 rfl,o,kvs,s⟩
theorem ix0{t:D}(h:ix t=0): ∃ds,t= .tup ds:=by cases t<;>first|exact⟨_,rfl⟩|cases h
theorem ix1{t:D}(h:ix t=1): ∃ds,t= .ro ds:=by cases t<;>first|exact⟨_,rfl⟩|cases h
theorem ix2{t:D}(h:ix t=2): ∃l ds,t= .lst l ds:=by cases t<;>first|exact⟨_,_,rfl⟩|cases h
theorem ix3{t:D}(h:ix t=3): ∃l ks vs,t= .dct l ks vs:=by cases t<;>first|exact⟨_,_,_,rfl⟩|cases h
theorem ix4{t:D}(h:ix t=4): ∃l c ns vs,t= .obj l c ns vs:=by cases t<;>first|exact⟨_,_,_,_,rfl⟩|cases h
theorem ix5{t:D}(h:ix t=5): ∃c,t= .exc c:=by cases t<;>first|exact⟨_,rfl⟩|cases h
theorem ix6{t:D}(h:ix t=6): ∃c,t= .fn c:=by cases t<;>first|exact⟨_,rfl⟩|cases h
theorem ix7{t:D}(h:ix t=7): ∃ks vs,t= .fdc ks vs:=by cases t<;>first|exact⟨_,_,rfl⟩|cases h
theorem RD.ixE{t t':D}{v:V}(k:KD G.K H)(h:RD G ρ H t v)(h':RD G ρ H t' v):t=t'\/ix t=ix t':=by
 rcases RD.kind h with⟨e,n⟩|⟨a,e,l,q⟩<;>rcases RD.kind h' with⟨e',n'⟩|⟨a',e',l',q'⟩
 ·exact .inl (e.trans e'.symm)
 ·exact absurd e' (n _)
 ·exact absurd e (n' _)
 ·cases e.symm.trans e';exact .inr (za7 k q q' l l')
section
variable(k:KD G.K H){n:Nat}(inj: ∀i j,i<n->j<n->ρ i=ρ j->i=j)
include k inj
mutual
theorem RD.uniq: ∀(t t':D) (v:V),RD G ρ H t v->RD G ρ H t' v->(∀l∈y9 t,l<n)->(∀l∈y9 t',l<n)->t=t'
 | .non,t',v,h,h',_,_=>(RD.kind h').elim (fun e=>by erw[RD] at h;subst h;exact e.1.symm) fun⟨_,e,_⟩=>by erw[RD] at h;subst h;cases e
 | .bool b,t',v,h,h',_,_=>(RD.kind h').elim (fun e=>by erw[RD] at h;subst h;exact e.1.symm) fun⟨_,e,_⟩=>by erw[RD] at h;subst h;cases e
 | .int b,t',v,h,h',_,_=>(RD.kind h').elim (fun e=>by erw[RD] at h;subst h;exact e.1.symm) fun⟨_,e,_⟩=>by erw[RD] at h;subst h;cases e
 | .str b,t',v,h,h',_,_=>(RD.kind h').elim (fun e=>by erw[RD] at h;subst h;exact e.1.symm) fun⟨_,e,_⟩=>by erw[RD] at h;subst h;cases e
 | .exc c,t',v,h,h',lb,lb'=>by
  rcases RD.ixE k h h' with e|e
  ·exact e
  obtain⟨c',rfl⟩:=ix5 e.symm
  erw[RD] at h h'
  obtain⟨a,o,C,rfl,h1,h2,_,s⟩:=h
  obtain⟨a',o',C',e,h1',h2',_,s'⟩:=h'
  cases e
  rw[s] at s';cases s'
  rw[h2] at h2';cases h2'
  rw[G.ci c c' C h1 h1']
 | .fn c,t',v,h,h',lb,lb'=>by
  rcases RD.ixE k h h' with e|e
  ·exact e
  obtain⟨c',rfl⟩:=ix6 e.symm
  erw[RD] at h h'
  obtain⟨a,rfl,h1⟩:=h
  obtain⟨a',e,h1'⟩:=h'
  cases e
  rw[G.ci c c' a h1 h1']
 | .tup ds,t',v,h,h',lb,lb'=>by
  rcases RD.ixE k h h' with e|e
  ·exact e
  obtain⟨es,rfl⟩:=ix0 e.symm
  obtain⟨a,xs,rfl,s,r⟩:=h.tupq
  obtain⟨a',ys,e,s',r'⟩:=h'.tupq
  cases e
  cases SqT.two k s s'
  rw[RDs.uniq ds es xs r r' lb lb']
 | .fdc ks vs,t',v,h,h',lb,lb'=>by
  rcases RD.ixE k h h' with e|e
  ·exact e
  obtain⟨ks',vs',rfl⟩:=ix7 e.symm
  erw[RD] at h h'
  obtain⟨a,o,kvs,rfl,s,s2,r⟩:=h
  obtain⟨a',o',kvs',e,s',s2',r'⟩:=h'
  cases e
  rw[s] at s';cases s'
  rw[s2,s2',RDs.uniq vs vs' _ r r' lb lb']
 | .ro ds,t',v,h,h',lb,lb'=>by
  rcases RD.ixE k h h' with e|e
  ·exact e
  obtain⟨es,rfl⟩:=ix1 e.symm
  erw[RD] at h h'
  obtain⟨a,xs,rfl,s,r⟩:=h
  obtain⟨a',ys,e,s',r'⟩:=h'
  cases e
  cases roL_two k s s'
  rw[RDs.uniq ds es xs r r' lb lb']
 | .lst l ds,t',v,h,h',lb,lb'=>by
  rcases RD.ixE k h h' with e|e
  ·exact e
  obtain⟨l',es,rfl⟩:=ix2 e.symm
  erw[RD] at h h'
  obtain⟨rfl,xs,s,r⟩:=h
  obtain⟨e,ys,s',r'⟩:=h'
  cases inj l l' (lb l (.head _)) (lb' l' (.head _)) (V.ref.inj e)
  rw[s] at s';cases s'
  rw[RDs.uniq ds es xs r r' (fun j hj=>lb j (.tail _ hj)) fun j hj=>lb' j (.tail _ hj)]
 | .dct l ks vs,t',v,h,h',lb,lb'=>by
  rcases RD.ixE k h h' with e|e
  ·exact e
  obtain⟨l',ks',vs',rfl⟩:=ix3 e.symm
  erw[RD] at h h'
  obtain⟨rfl,q⟩:=h
  obtain⟨e,q'⟩:=h'
  cases inj l l' (lb l (.head _)) (lb' l' (.head _)) (V.ref.inj e)
  have b1: ∀j∈labsL vs,j<n:=fun j hj=>lb j (.tail _ (c9 _ hj))
  have b2: ∀j∈labsL vs',j<n:=fun j hj=>lb' j (.tail _ (c9 _ hj))
  rcases q with⟨kvs,s,s2,r⟩|⟨kvs,s,s2,r⟩<;>rcases q' with⟨kvs',s',s2',r'⟩|⟨kvs',s',s2',r'⟩<;>rw[s] at s'<;>cases s'
  ·rw[s2,s2',RDs.uniq vs vs' _ r r' b1 b2]
  ·rw[s2,s2',RDs.uniq vs vs' _ r r' b1 b2]
 | .obj l c ns vs,t',v,h,h',lb,lb'=>by
  rcases RD.ixE k h h' with e|e
  ·exact e
  obtain⟨l',c',ns',vs',rfl⟩:=ix4 e.symm
  erw[RD] at h h'
  obtain⟨rfl,C,dx,fs,hC,s,s2,r⟩:=h
  obtain⟨e,C',dx',fs',hC',s',s2',r'⟩:=h'
  cases inj l l' (lb l (.head _)) (lb' l' (.head _)) (V.ref.inj e)
  rw[s] at s';cases s'
  rw[s2,s2',G.ci c c' C hC hC',RDs.uniq vs vs' _ r r' (fun j hj=>lb j (.tail _ hj)) fun j hj=>lb' j (.tail _ hj)]
theorem RDs.uniq: ∀(t t':List D) (v:List V),RDs G ρ H t v->RDs G ρ H t' v->(∀l∈labsL t,l<n)->(∀l∈labsL t',l<n)->t=t'
 |[],t',v,h,h',_,_=>by
  erw[RDs] at h;subst h
  cases t' with
  |nil=>rfl
  |cons d ds=>erw[RDs] at h';obtain⟨_,_,e,_⟩:=h';cases e
 |d::ds,t',v,h,h',lb,lb'=>by
  erw[RDs] at h
  obtain⟨x,q,rfl,h1,h2⟩:=h
  cases t' with
  |nil=>erw[RDs] at h';cases h'
  |cons d' ds'=>
   erw[RDs] at h'
   obtain⟨_,_,e,h1',h2'⟩:=h'
   cases e
   rw[RD.uniq d d' x h1 h1' (fun l hl=>lb l (by erw[labsL];exact i5 _ hl)) fun l hl=>lb' l (by erw[labsL];exact i5 _ hl),
    RDs.uniq ds ds' q h2 h2' (fun l hl=>lb l (by erw[labsL];exact c9 _ hl)) fun l hl=>lb' l (by erw[labsL];exact c9 _ hl)]
end
end
end
end Mi
namespace Mi
open PySem L2 PySem.Spec PyProof.Rows
inductive RF where
 |ok (t:D) (ts:List D) (n:Nat)|ex (d:D) (ts:List D) (n:Nat)|no
noncomputable abbrev FM:=List D->Nat->RF
structure z4Y(G:Gx)(ρ:Nat->Addr)(n:Nat)(ts:List D)(vs:List V)(H:Hp)(ρ':Nat->Addr)(n':Nat)(ts':List D)(H':Hp):Prop where
 old: ∀l,l<n->ρ' l=ρ l
 le:n<=n'
 inj: ∀i j,i<n'->j<n'->ρ' i=ρ' j->i=j
 dom: ∀l,l<n'->∃o,H' (ρ' l)=some o
 rd:RDs G ρ' H' ts' vs
 lb: ∀l∈labsL ts',l<n'/\(l<n->l∈labsL ts)
 fr: ∀a o,H a=some o->(∃o',H' a=some o')/\((∀l∈labsL ts,a≠ρ l)->H' a=some o)
 new: ∀l,n<=l->l<n'->H (ρ' l)=none
 kd:KD G.K H'
section
variable{G:Gx}{ρ ρ':Nat->Addr}{H H':Hp}
theorem z8k(k:Key):y9 (z4y k)=[]:=by cases k<;>erw[z4y,y9]
theorem z8l: ∀ks:List Key,labsL (ks.map z4y)=[]
 |[]=>by erw[l9,labsL]
 |k::ks=>by erw[i6,labsL,z8k,z8l ks,l3]
theorem z5G(z:Key⊕List Key):y9 (nkD z)=[]:=by
 cases z with
 |inl k=>exact z8k k
 |inr ks=>erw[nkD,y9,z8l]
mutual
theorem z8m: ∀(t:D) (v:V),RD G ρ H t v->∀l∈y9 t,∃o,H (ρ l)=some o/\(∀xs,o≠ .tup xs)/\∀u w,o≠ .frz u w
 | .non,v,h,l,hl=>by erw[y9] at hl;cases hl
 | .bool b,v,h,l,hl=>by erw[y9] at hl;cases hl
 | .int b,v,h,l,hl=>by erw[y9] at hl;cases hl
 | .str b,v,h,l,hl=>by erw[y9] at hl;cases hl
 | .exc b,v,h,l,hl=>by erw[y9] at hl;cases hl
 | .fn b,v,h,l,hl=>by erw[y9] at hl;cases hl
 | .tup ds,v,h,l,hl=>by
  erw[y9,RD] at h hl
  obtain⟨a,xs,_,_,r⟩:=h
  exact labL_mut ds xs r l hl
 | .fdc ks vs,v,h,l,hl=>by
  erw[y9,RD] at h hl
  obtain⟨a,o,kvs,_,_,_,r⟩:=h
  exact labL_mut vs _ r l hl
 | .ro ds,v,h,l,hl=>by
  erw[y9,RD] at h hl
  obtain⟨a,xs,_,_,r⟩:=h
  exact labL_mut ds xs r l hl
 | .lst k ds,v,h,l,hl=>by
  erw[y9,RD] at h hl
  obtain⟨_,xs,s,r⟩:=h
  rcases i0.mp hl with rfl|hl
  ·exact⟨_,s,(fun _ q=>nomatch q),(fun _ _ q=>nomatch q)⟩
  ·exact labL_mut ds xs r l hl
 | .dct k ks vs,v,h,l,hl=>by
  erw[y9,RD] at h hl
  obtain⟨_,⟨kvs,s,s2,r⟩|⟨kvs,s,s2,r⟩⟩:=h
  ·rcases i0.mp hl with rfl|hl
   ·exact⟨_,s,(fun _ q=>nomatch q),(fun _ _ q=>nomatch q)⟩
   ·rcases i3.mp hl with hl|hl
    ·rw[s2] at hl
     obtain⟨d,hd,hl⟩:=k5 hl
     rcases i0.mp hd with rfl|hd
     ·erw[y9] at hl;cases hl
     obtain⟨p,_,rfl⟩:=A4.mp hd
     obtain⟨kk,_⟩:=p
     cases kk<;>erw[z4y,y9] at hl<;>cases hl
    ·exact labL_mut vs _ r l hl
  ·rcases i0.mp hl with rfl|hl
   ·exact⟨_,s,(fun _ q=>nomatch q),(fun _ _ q=>nomatch q)⟩
   ·rcases i3.mp hl with hl|hl
    ·rw[s2] at hl
     obtain⟨d,hd,hl⟩:=k5 hl
     obtain⟨p,_,rfl⟩:=A4.mp hd
     erw[dkD,y9] at hl
     obtain⟨d,hd,hl⟩:=k5 hl
     obtain⟨kk,_,rfl⟩:=A4.mp hd
     rw[z5G] at hl;cases hl
    ·exact labL_mut vs _ r l hl
 | .obj k c ns vs,v,h,l,hl=>by
  erw[y9,RD] at h hl
  obtain⟨_,C,dx,fs,_,s,_,r⟩:=h
  rcases i0.mp hl with rfl|hl
  ·exact⟨_,s,(fun _ q=>nomatch q),(fun _ _ q=>nomatch q)⟩
  ·exact labL_mut vs _ r l hl
theorem labL_mut: ∀(t:List D) (v:List V),RDs G ρ H t v->∀l∈labsL t,∃o,H (ρ l)=some o/\(∀xs,o≠ .tup xs)/\∀u w,o≠ .frz u w
 |[],v,h,l,hl=>by erw[labsL] at hl;cases hl
 |d::ds,v,h,l,hl=>by
  erw[labsL,RDs] at h hl
  obtain⟨x,r,_,h1,h2⟩:=h
  rcases i3.mp hl with hl|hl
  ·exact z8m d x h1 l hl
  ·exact labL_mut ds r h2 l hl
end
theorem z79{kvs:List (Key×V)}{l:Nat}(hl:l∈labsL (kvs.map fun p=>z4y p.1)):False:=by
 obtain⟨d,hd,hl⟩:=k5 hl
 obtain⟨p,_,rfl⟩:=A4.mp hd
 obtain⟨kk,_⟩:=p
 cases kk<;>erw[z4y,y9] at hl<;>cases hl
theorem z5H{kvs:List (NK×V)}{l:Nat}(hl:l∈labsL (kvs.map fun p=>dkD p.1)):False:=by
 obtain⟨d,hd,hl⟩:=k5 hl
 obtain⟨p,_,rfl⟩:=A4.mp hd
 erw[dkD,y9] at hl
 obtain⟨d,hd,hl⟩:=k5 hl
 obtain⟨kk,_,rfl⟩:=A4.mp hd
 rw[z5G] at hl;cases hl
mutual
theorem z7a(l:Nat): ∀(t:D) (v:V),RD G ρ H t v->l∈y9 t->(W9 l t).isSome=true
 | .non,v,h,hl=>by erw[y9] at hl;cases hl
 | .bool b,v,h,hl=>by erw[y9] at hl;cases hl
 | .int b,v,h,hl=>by erw[y9] at hl;cases hl
 | .str b,v,h,hl=>by erw[y9] at hl;cases hl
 | .exc b,v,h,hl=>by erw[y9] at hl;cases hl
 | .fn b,v,h,hl=>by erw[y9] at hl;cases hl
 | .tup ds,v,h,hl=>by
  erw[y9,RD,W9] at h hl⊢
  obtain⟨a,xs,_,_,r⟩:=h
  exact findL_some l ds xs r hl
 | .fdc ks vs,v,h,hl=>by
  erw[y9,RD,W9] at h hl⊢
  obtain⟨a,o,kvs,_,_,_,r⟩:=h
  exact findL_some l vs _ r hl
 | .ro ds,v,h,hl=>by
  erw[y9,RD,W9] at h hl⊢
  obtain⟨a,xs,_,_,r⟩:=h
  exact findL_some l ds xs r hl
 | .lst k ds,v,h,hl=>by
  erw[y9,RD,W9] at h hl⊢
  obtain⟨_,xs,s,r⟩:=h
  by_cases e:k=l
  ·rw[if_pos e];rfl
  ·rw[if_neg e]
   rcases i0.mp hl with q|q
   ·exact absurd q.symm e
   ·exact findL_some l ds xs r q
 | .dct k ks vs,v,h,hl=>by
  erw[y9,RD,W9] at h hl⊢
  obtain⟨_,⟨kvs,s,s2,r⟩|⟨kvs,s,s2,r⟩⟩:=h
  ·by_cases e:k=l
   ·rw[if_pos e];rfl
   ·rw[if_neg e]
    rcases i0.mp hl with q|q
    ·exact absurd q.symm e
    ·rcases i3.mp q with q|q
     ·rw[s2] at q;exact(z79 q).elim
     ·exact findL_some l vs _ r q
  ·by_cases e:k=l
   ·rw[if_pos e];rfl
   ·rw[if_neg e]
    rcases i0.mp hl with q|q
    ·exact absurd q.symm e
    ·rcases i3.mp q with q|q
     ·rw[s2] at q;exact(z5H q).elim
     ·exact findL_some l vs _ r q
 | .obj k c ns vs,v,h,hl=>by
  erw[y9,RD,W9] at h hl⊢
  obtain⟨_,C,dx,fs,_,s,_,r⟩:=h
  by_cases e:k=l
  ·rw[if_pos e];rfl
  ·rw[if_neg e]
   rcases i0.mp hl with q|q
   ·exact absurd q.symm e
   ·exact findL_some l vs _ r q
theorem findL_some(l:Nat): ∀(t:List D) (v:List V),RDs G ρ H t v->l∈labsL t->(findL l t).isSome=true
 |[],v,h,hl=>by erw[labsL] at hl;cases hl
 |d::ds,v,h,hl=>by
  erw[labsL,RDs,findL] at h hl⊢
  obtain⟨x,r,_,h1,h2⟩:=h
  cases e:W9 l d with
  |some y=>rfl
  |none=>
   rcases i3.mp hl with q|q
   ·have:=z7a l d x h1 q
    rw[e] at this;cases this
   ·exact findL_some l ds r h2 q
end
theorem z4Y.stays{n n':Nat}{ts ts':List D}{vs:List V}(P:z4Y G ρ n ts vs H ρ' n' ts' H')(r:RDs G ρ H ts vs):V5 H H':=by
 refine⟨fun b xs e=>(P.fr b _ e).2 fun l hl z=> ?_,fun b o u e=>(P.fr b _ e).2 fun l hl z=> ?_⟩
 ·obtain⟨o,q,q1,_⟩:=labL_mut ts vs r l hl
  rw[<-z,e] at q;cases q;exact q1 _ rfl
 ·obtain⟨o,q,_,q1⟩:=labL_mut ts vs r l hl
  rw[<-z,e] at q;cases q;exact q1 _ _ rfl
section
variable(k:KD G.K H){n:Nat}(inj: ∀i j,i<n->j<n->ρ i=ρ j->i=j){ts:List D}{vs:List V}(r:RDs G ρ H ts vs)(lb: ∀l∈labsL ts,l<n)
include k inj r lb
mutual
theorem z3y: ∀(t:D) (v:V),RD G ρ H t v->(∀l∈y9 t,l<n)->rp (fun l=>findL l ts) t=t
 | .non,v,h,hl=>rfl
 | .bool b,v,h,hl=>rfl
 | .int b,v,h,hl=>rfl
 | .str b,v,h,hl=>rfl
 | .exc b,v,h,hl=>rfl
 | .fn b,v,h,hl=>rfl
 | .tup ds,v,h,hl=>by
  erw[y9,RD,rp] at h hl⊢
  obtain⟨a,xs,_,_,r1⟩:=h
  rw[rpL_find_id ds xs r1 hl]
 | .fdc ks vs,v,h,hl=>by
  erw[y9,RD,rp] at h hl⊢
  obtain⟨a,o,kvs,_,_,_,r1⟩:=h
  rw[rpL_find_id vs _ r1 hl]
 | .ro ds,v,h,hl=>by
  erw[y9,RD,rp] at h hl⊢
  obtain⟨a,xs,_,_,r1⟩:=h
  rw[rpL_find_id ds xs r1 hl]
 | .lst l ds,v,h,hl=>by
  erw[rp]
  cases e:findL l ts with
  |some d=>
   dsimp only
   obtain⟨q1,q2⟩:=findL_rd l ts vs d r e
   have h':=h
   erw[RD] at h'
   obtain⟨rfl,_⟩:=h'
   exact RD.uniq k inj _ _ _ q1 h (fun j hj=>lb j (q2 j hj)) hl
  |none=>
   dsimp only
   erw[y9,RD] at h hl
   obtain⟨_,xs,s,r1⟩:=h
   rw[rpL_find_id ds xs r1 fun j hj=>hl j (e9 _ hj)]
 | .dct l ks vs',v,h,hl=>by
  erw[rp]
  cases e:findL l ts with
  |some d=>
   dsimp only
   obtain⟨q1,q2⟩:=findL_rd l ts vs d r e
   have h':=h
   erw[RD] at h'
   obtain⟨rfl,_⟩:=h'
   exact RD.uniq k inj _ _ _ q1 h (fun j hj=>lb j (q2 j hj)) hl
  |none=>
   dsimp only
   erw[y9,RD] at h hl
   obtain⟨_,⟨kvs,s,s2,r1⟩|⟨kvs,s,s2,r1⟩⟩:=h
   ·rw[rpL_find_id vs' _ r1 fun j hj=>hl j (e9 _ (c9 _ hj))]
   ·rw[rpL_find_id vs' _ r1 fun j hj=>hl j (e9 _ (c9 _ hj))]
 | .obj l c ns vs',v,h,hl=>by
  erw[rp]
  cases e:findL l ts with
  |some d=>
   dsimp only
   obtain⟨q1,q2⟩:=findL_rd l ts vs d r e
   have h':=h
   erw[RD] at h'
   obtain⟨rfl,_⟩:=h'
   exact RD.uniq k inj _ _ _ q1 h (fun j hj=>lb j (q2 j hj)) hl
  |none=>
   dsimp only
   erw[y9,RD] at h hl
   obtain⟨_,C,dx,fs,_,s,_,r1⟩:=h
   rw[rpL_find_id vs' _ r1 fun j hj=>hl j (e9 _ hj)]
theorem rpL_find_id: ∀(t:List D) (v:List V),RDs G ρ H t v->(∀l∈labsL t,l<n)->rpL (fun l=>findL l ts) t=t
 |[],v,h,hl=>rfl
 |d::ds,v,h,hl=>by
  erw[labsL,RDs,rpL] at h hl⊢
  obtain⟨x,q,_,h1,h2⟩:=h
  rw[z3y d x h1 fun j hj=>hl j (i5 _ hj),rpL_find_id ds q h2 fun j hj=>hl j (c9 _ hj)]
end
theorem z0l: ∀(t:List (Option D)) (v:List (Option V)),Sl G ρ H t v->(∀l∈Y0 t,l<n)->rpO (fun l=>findL l ts) t=t
 |[],v,h,hl=>rfl
 |none::r',v,h,hl=>by
  erw[Y0,Sl,rpO] at h hl⊢
  obtain⟨o,q,_,h⟩:=h
  rw[z0l r' q h hl]
 |some d::ds,v,h,hl=>by
  erw[Y0,Sl,rpO] at h hl⊢
  obtain⟨x,q,_,h1,h2⟩:=h
  rw[z3y k inj r lb d x h1 fun j hj=>hl j (i5 _ hj),z0l ds q h2 fun j hj=>hl j (c9 _ hj)]
end
variable{F:Fy}{σv tv:List (Option V)}{s:Stt}{np:Nat}
theorem MR.call{ts ts':List D}{vs:List V}{n':Nat}(M:MR G F.toFx ρ H σv tv s)(r:RDs G ρ H ts vs)(lb:LB F.toFx ρ s.n (labsL ts))(P:z4Y G ρ s.n ts vs H ρ' n' ts' H')
 (hc: ∀l∈G5 s,l∈labsL ts->(findL l ts').isSome=true):MR G F.toFx ρ' H' σv tv {σ:=rpO (fun l=>findL l ts') s.σ,tm:=rpO (fun l=>findL l ts') s.tm,n:=n'}:=by
 have st:=P.stays r
 have step: ∀l∈G5 s,ρ' l=ρ l/\(match findL l ts' with|some d=>RD G ρ' H' d (.ref (ρ l))|none=> ∀o,H (ρ l)=some o->H' (ρ l)=some o):=fun l hl=>by
  have ol:=P.old l (M.lab l hl)
  refine⟨ol, ?_⟩
  cases e:findL l ts' with
  |some d=>
   have q:=(findL_rd l ts' vs d P.rd e).1
   rw[ol] at q;exact q
  |none=>
   intro o e1
   refine(P.fr _ _ e1).2 fun j hj z=> ?_
   have:l=j:=M.inj l j (M.lab l hl) (lb j hj).1 z
   subst this
   have:=hc l hl hj
   rw[e] at this;cases this
 have hn: ∀l,l<n'->l<s.n\/H (ρ' l)=none:=fun l hl=>by
  by_cases h:l<s.n
  ·exact .inl h
  ·exact .inr (P.new l (F9.mp h) hl)
 have hlab: ∀(xs:List (Option D)),(∀l∈Y0 xs,l∈G5 s)->∀l∈Y0 (rpO (fun l=>findL l ts') xs),l<n'/\(l<s.n->l∈G5 s\/l∈labsL ts):=fun xs hx l h=>by
  rcases z2j l xs h with q|⟨k,d,q1,q2,q3⟩
  ·exact⟨n9 (M.lab l (hx l q)) P.le,fun _=> .inl (hx l q)⟩
  ·obtain⟨b1,b2⟩:=P.lb l ((findL_rd k ts' vs d P.rd q2).2 l q3)
   exact⟨b1,fun z=> .inr (b2 z)⟩
 have all: ∀l∈G5 {σ:=rpO (fun l=>findL l ts') s.σ,tm:=rpO (fun l=>findL l ts') s.tm,n:=n'},l<n'/\(l<s.n->l∈G5 s\/l∈labsL ts):=fun l h=>by
  rcases i3.mp h with h|h
  ·exact hlab s.σ (fun l q=>i5 _ q) l h
  ·exact hlab s.tm (fun l q=>c9 _ q) l h
 refine⟨Sl.rp st M.sl fun l hl=>step l (i5 _ hl),Sl.rp st M.tm fun l hl=>step l (c9 _ hl),P.inj,P.dom,fun l h=>(all l h).1,fun l h=> ?_,fun a o e=> ?_,P.kd,fun l hl z=> ?_,⟨C0 M.bas.1 P.le,fun l hl=> ?_⟩⟩
 ·rcases hn l (all l h).1 with q|q
  ·rw[P.old l q]
   rcases(all l h).2 q with z|z
   ·exact M.own l z
   ·exact(lb l z).2
  ·exact .inr (M.fresh0 q)
 ·obtain⟨⟨o1,e1⟩,e2⟩:=M.frm a o e
  obtain⟨e3,e4⟩:=P.fr a o1 e1
  refine⟨e3,fun nA=> ?_⟩
  have e5:=e2 nA
  rw[e1] at e5;cases e5
  refine e4 fun l hl z=> ?_
  rcases(lb l hl).2 with q|q
  ·exact nA (z▸q)
  ·rw[<-z,e] at q;cases q
 ·rcases hn l hl with q|q
  ·rw[P.old l q] at z;exact M.frb l q z
  ·obtain⟨⟨o,e⟩,_⟩:=F.zA _ z
   obtain⟨⟨o',e'⟩,_⟩:=M.frm _ o e
   rw[q] at e';cases e'
 ·rw[P.old l (n9 hl M.bas.1)];exact M.bas.2 l hl
theorem MR.call0{ts:List D}{vs:List V}{n':Nat}(M:MR G F.toFx ρ H σv tv s)(r:RDs G ρ H ts vs)(lb:LB F.toFx ρ s.n (labsL ts))(P:z4Y G ρ s.n ts vs H ρ' n' ts H'):MR G F.toFx ρ' H' σv tv {s with n:=n'}:=by
 have hf: ∀l∈labsL ts,(findL l ts).isSome=true:=fun l hl=>findL_some l ts vs r hl
 have M2:=M.call r lb P fun l _ hl=>hf l hl
 rw[z0l M.kd M.inj r (fun l hl=>(lb l hl).1) s.σ σv M.sl fun l hl=>M.lab l (i5 _ hl),z0l M.kd M.inj r (fun l hl=>(lb l hl).1) s.tm tv M.tm fun l hl=>M.lab l (c9 _ hl)] at M2
 exact M2
open Classical in
noncomputable def z1w(r:RF)(ts:List D):M D:=fun s=>match r with
 | .ok t ts' n'=>if ts'=ts then .ok t {s with n:=n'} else
  if ∀l∈G5 s,l∈labsL ts->(findL l ts').isSome=true then .ok t {σ:=rpO (fun l=>findL l ts') s.σ,tm:=rpO (fun l=>findL l ts') s.tm,n:=n'} else .no
 |_=> .no
noncomputable def Z2(f:FM)(ms:List (M D)):M D:=bd (Y4 ms) fun ts s=>z1w (f ts s.n) ts s
noncomputable def spM(G:Gx)(np:Nat)(f:FM):Sp:=fun vs H Q _=>vs.length=np/\∃ρ n ts,RDs G ρ H ts vs/\(∀i j,i<n->j<n->ρ i=ρ j->i=j)/\(∀l,l<n->∃o,H (ρ l)=some o)/\(∀l∈labsL ts,l<n)/\KD G.K H/\match f ts n with
 | .ok t ts' n'=> ∀ρ' v H',z4Y G ρ n ts vs H ρ' n' ts' H'->RD G ρ' H' t v->(∀l∈y9 t,l<n'/\(l<n->l∈labsL ts))->Q v H'
 |_=>False
theorem z8n{ts:List D}{vs:List V}{f:FM}{Q:VK}{E:XK}(hl:vs.length=np)(M:MRL G F.toFx ρ H σv tv s ts vs)(W:wM G F σv tv (z1w (f ts s.n) ts s) Q):spM G np f vs H Q E:=by
 refine⟨hl,ρ,s.n,ts,M.rd,M.m.inj,M.m.dom,fun l h=>(M.lb l h).1,M.m.kd, ?_⟩
 cases e:f ts s.n with
 |no=>rw[e] at W;exact W
 |ex d ts' n'=>rw[e] at W;exact W
 |ok t ts' n'=>
  rw[e] at W
  intro ρ' v H' P rd lbt
  have own: ∀l∈y9 t,F.A0 (ρ' l)\/F.H0 (ρ' l)=none:=fun l h=>by
   obtain⟨b1,b2⟩:=lbt l h
   by_cases hn:l<s.n
   ·rw[P.old l hn];exact(M.lb l (b2 hn)).2
   ·exact .inr (M.m.fresh0 (P.new l (F9.mp hn) b1))
  unfold z1w at W
  dsimp only at W
  split at W
  ·rename_i et
   subst et
   exact W.out (M.m.call0 M.rd M.lb P) rd fun l h=>⟨(lbt l h).1,own l h⟩
  ·split at W
   ·rename_i hc
    exact W.out (M.m.call M.rd M.lb P hc) rd fun l h=>⟨(lbt l h).1,own l h⟩
   ·exact False.elim W
theorem z8o: ∀(ms:List (M D)) (s:Stt) (ts:List D) (s':Stt),Y4 ms s= .ok ts s'->ts.length=ms.length:=by
 intro ms
 induction ms with
 |nil=>intro s ts s' e;erw[Y4,rt,Res.ok.injEq] at e;rw[<-e.1];rfl
 |cons m ms ih=>
  intro s ts s' e
  erw[Y4,bd,psh] at e
  cases e1:m s with
  |ok t s1=>
   erw[e1] at e
   cases e2:Y4 ms (s1.psh t) with
   |ok ys s2=>
    erw[e2,pop] at e
    cases e3:s2.tm with
    |nil=>erw[e3] at e;cases e
    |cons o r=>
     cases o with
     |none=>erw[e3] at e;cases e
     |some t'=>
      erw[e3,rt,Res.ok.injEq] at e
      rw[<-e.1,l8,l8,ih _ _ _ e2]
   |ex d s2=>erw[e2] at e;cases e
   |no=>erw[e2] at e;cases e
  |ex d s1=>erw[e1] at e;cases e
  |no=>erw[e1] at e;cases e
theorem se_call{X:Cx}{e:Expr}{es:List Expr}{pos p:Pos}{CX:CXT}{k:Nat}{fa:Addr}{fd:FuncData}{ps:List Str}{x:Str}{E:XK}{f:FM}{ms:List (M D)}(hk:X.K=G.K)(Fn:FnOk X.prog X.w X.K X.mg X.base CX k fa fd ps (spM G ps.length f))(hr:z2g k X.A)(hg:Gl X x)(hm:X.mg x=some (.ref fa))(hkp:W.keepIn X.K (.ref fa)=true)(hb:z37 X.K fd ps [])(hx:z3p CX X E)
 (ha:SA X G F (e::es) (Y4 ms)) (hln:ms.length=ps.length) (hdb:(x==("__debug__" :Str))=false:=by decide) (he:starEach (e::es) X.env=(false,eval e X.env)::starEach es X.env:=by rfl) (hpl:(backTo pos (starEach es X.env)).any (·.1)=false:=by rfl):
 SE X G F (.Call (.Name x p) (e::es) [] pos) (Z2 f ms):=by
 refine PE.imp0 (zbL Fn hr hg hm hkp hb .nil hx ha hdb he hpl) fun σ H Q ⟨tv,hs,ρ,s,M,W⟩=>⟨tv,hs,ρ,s,M, ?_⟩
 unfold Z2 bd at W
 cases e1:Y4 ms s with
 |ex d s1=>rw[e1] at W;exact W
 |no=>rw[e1] at W;exact W
 |ok ts s1=>
  rw[e1] at W
  intro ρ1 vs H1 M1
  rw[l3]
  exact z8n (by rw[<-M1.rd.length,z8o ms s ts s1 e1,hln]) M1 W
noncomputable def z0d(nl:Nat)(mb:MS):FM:=fun ts n=>match mb {σ:=ts.map some++l5 (nl -ts.length) none,tm:=ts.map some,n:=n} with
 | .nx s'=>match Y5 s'.tm with|some ts'=> .ok .non ts' s'.n|none=> .no
 | .rt t s'=>match Y5 s'.tm with|some ts'=> .ok t ts' s'.n|none=> .no
 | .ex d s'=>match Y5 s'.tm with|some ts'=> .ex d ts' s'.n|none=> .no
 |_=> .no
noncomputable def za8(G:Gx)(ρ:Nat->Addr)(n:Nat)(ts:List D)(vs:List V)(H:Hp)(lb: ∀l∈labsL ts,l<n)(dom: ∀l,l<n->∃o,H (ρ l)=some o):Fy where
 A0:=fun a=> ∃l∈labsL ts,a=ρ l
 H0:=H
 Z:=fun a=>(∃o,H a=some o)/\∀l,l<n->a≠ρ l
 zA:=fun a z=>⟨z.1,fun⟨l,hl,e⟩=>z.2 l (lb l hl) e⟩
 aH:=fun a ⟨l,hl,e⟩=>e▸dom l (lb l hl)
 n0:=n
 ρ0:=ρ
 tv0:=vs.map some
 xw:=fun _ _=>False
theorem RDs.sl: ∀{ts:List D} {vs:List V},RDs G ρ H ts vs->Sl G ρ H (ts.map some) (vs.map some)/\Y0 (ts.map some)=labsL ts
 |[],vs,h=>by erw[RDs] at h;subst h;simp[Sl,Y0,labsL]
 |d::ds,vs,h=>by
  erw[RDs] at h
  obtain⟨x,q,rfl,h1,h2⟩:=h
  obtain⟨q1,q2⟩:=RDs.sl h2
  refine⟨?_,by erw[i6,Y0,labsL,q2]⟩
  erw[i6,Sl]
  exact⟨_,_,rfl,h1,q1⟩
theorem z6o{ts ts':List D}{vs:List V}{n:Nat}{lb: ∀l∈labsL ts,l<n}{dom: ∀l,l<n->∃o,H (ρ l)=some o}(inj: ∀i j,i<n->j<n->ρ i=ρ j->i=j)(M:MR G (za8 G ρ n ts vs H lb dom).toFx ρ' H' σv (vs.map some) s)(e:Y5 s.tm=some ts'):
 z4Y G ρ n ts vs H ρ' s.n ts' H'/\∀l,l<s.n->((za8 G ρ n ts vs H lb dom).A0 (ρ' l)\/H (ρ' l)=none)->l<n->l∈labsL ts:=by
 have own: ∀l,l<s.n->((za8 G ρ n ts vs H lb dom).A0 (ρ' l)\/H (ρ' l)=none)->l<n->l∈labsL ts:=fun l hl q hn=>by
  have ol:=M.bas.2 l hn
  have ol:ρ' l=ρ l:=ol
  rcases q with⟨j,hj,q⟩|q
  ·rw[ol] at q
   rw[inj l j hn (lb j hj) q];exact hj
  ·rw[ol] at q
   obtain⟨o,z⟩:=dom l hn
   rw[z] at q;cases q
 obtain⟨r1,r2⟩:=Sl.all M.tm e
 refine⟨⟨M.bas.2,M.bas.1,M.inj,M.dom,r1,fun l hl=> ?_,fun a o e1=> ?_,fun l h1 h2=> ?_,M.kd⟩,own⟩
 ·rw[r2] at hl
  have m:l∈G5 s:=c9 _ hl
  exact⟨M.lab l m,own l (M.lab l m) (M.own l m)⟩
 ·obtain⟨q1,q2⟩:=M.frm a o e1
  exact⟨q1,fun z=>q2 fun⟨l,hl,e⟩=>z l hl e⟩
 ·cases q:H (ρ' l) with
  |none=>rfl
  |some o=>
   refine absurd ⟨⟨o,q⟩,fun j hj e=> ?_⟩ (M.frb l h2)
   have oj:ρ' j=ρ j:=M.bas.2 j hj
   have:=M.inj l j h2 (n9 hj M.bas.1) (e.trans oj.symm)
   lia
theorem fn_M{P:Program}{w:World}{K:W.Frag}{mg:Str->Option Value}{base:Heap}{x qual:Str}{st:Stmt}{fa:Addr}{fd:FuncData}{N ps:List Str}{k:Nat}{mb:MS}(Fn:Fun K x qual st fa fd)(S:Y7 N ps (Z3 st))(hG:G.K=K)
 (hb: ∀(cdv:Value) (A:Around) (outer:List Env) (s:Shared) (H:Hp) (E:XK) (F:Fy),z2g k (A.deeper (envOfC qual (Z3 st) s.heap.objs.size fa cdv))->SSs (z9K CX0 P w K mg base N qual (Z3 st) fa cdv A outer s H E).nox G F (k7 st) mb):
 FnOk P w K mg base CX0 (k+1) fa fd ps (spM G ps.length (z0d N.length mb)):=by
 refine Fn.ok S (fun vs H Q E h=>h.1) fun cdv A outer s H vs Q E hr h=> ?_
 obtain⟨hl,ρ,n,ts,r,inj,dom,lb,kd,W⟩:=h
 refine⟨_,hb cdv A outer s H E (za8 G ρ n ts vs H lb dom) hr,vs.map some,List.suffix_refl _,ρ,{σ:=ts.map some++l5 (N.length -ts.length) none,tm:=ts.map some,n:=n}, ?_, ?_⟩
 ·obtain⟨r1,r2⟩:=RDs.sl r
  have hlen:=r.length
  have sub: ∀l∈G5 {σ:=ts.map some++l5 (N.length -ts.length) none,tm:=ts.map some,n:=n},l∈labsL ts:=fun l h=>by
   rcases i3.mp h with h|h
   ·have h:l∈Y0 (ts.map some++l5 (N.length -ts.length) none):=h
    rw[W8] at h
    rcases i3.mp h with h|h
    ·rw[<-r2];exact h
    ·exact absurd h (z2C _)
   ·rw[<-r2];exact h
  refine⟨?_,r1,inj,dom,fun l h=>lb l (sub l h),fun l h=> .inl ⟨l,sub l h,rfl⟩,fun a o e=>⟨⟨o,e⟩,fun _=>e⟩,kd,fun l hl z=>z.2 l hl rfl,⟨i4 _,fun l _=>rfl⟩⟩
  show Sl G ρ H _ (vs.map some++l5 (N.length -vs.length) none)
  rw[<-hlen]
  exact r1.append (Sl.none_map _)
 ·unfold z0d at W
  cases e:mb {σ:=ts.map some++l5 (N.length -ts.length) none,tm:=ts.map some,n:=n} with
  |nx s'=>
   erw[e] at W
   cases ea:Y5 s'.tm with
   |none=>erw[ea] at W
   |some ts'=>
    erw[ea] at W
    intro ρ' σv' H' M
    obtain⟨P,_⟩:=z6o inj M ea
    exact W ρ' .non H' P (by erw[RD]) fun l h=>by simp[y9] at h
  |rt t s'=>
   erw[e] at W
   cases ea:Y5 s'.tm with
   |none=>erw[ea] at W
   |some ts'=>
    erw[ea] at W
    intro ρ' σv' v H' M
    obtain⟨P,own⟩:=z6o inj M.m ea
    exact W ρ' v H' P M.rd1 fun l h=>⟨(M.lb1 l h).1,own l (M.lb1 l h).1 (M.lb1 l h).2⟩
  |bk s'=>erw[e] at W
  |ct s'=>erw[e] at W
  |ex d s'=>
   erw[e] at W
   cases ea:Y5 s'.tm with
   |none=>erw[ea] at W
   |some ts'=>erw[ea] at W
  |no=>erw[e] at W
end
mutual
noncomputable def sz:D->Nat
 | .tup ds=>szL ds+1
 | .ro ds=>szL ds+1
 | .fdc _ vs=>szL vs+1
 | .lst _ ds=>szL ds+1
 | .dct _ _ vs=>szL vs+1
 | .obj _ _ _ vs=>szL vs+1
 | .non=>1| .bool _=>1| .int _=>1| .str _=>1| .exc _=>1| .fn _=>1
noncomputable def szL:List D->Nat
 |[]=>0
 |d::ds=>sz d+szL ds
end
mutual
theorem za9(l:Nat): ∀(t d:D),W9 l t=some d->sz d<=sz t
 | .non,d,e=>by erw[W9] at e;cases e
 | .bool b,d,e=>by erw[W9] at e;cases e
 | .int b,d,e=>by erw[W9] at e;cases e
 | .str b,d,e=>by erw[W9] at e;cases e
 | .exc b,d,e=>by erw[W9] at e;cases e
 | .fn b,d,e=>by erw[W9] at e;cases e
 | .tup ds,d,e=>by erw[W9,sz] at e⊢;have:=findL_sz l ds d e;lia
 | .ro ds,d,e=>by erw[W9,sz] at e⊢;have:=findL_sz l ds d e;lia
 | .fdc ks vs,d,e=>by erw[W9,sz] at e⊢;have:=findL_sz l vs d e;lia
 | .lst k ds,d,e=>by
  erw[W9] at e
  by_cases h:k=l
  ·rw[if_pos h] at e;cases e;exact i4 _
  ·rw[if_neg h] at e;erw[sz];have:=findL_sz l ds d e;lia
 | .dct k ks vs,d,e=>by
  erw[W9] at e
  by_cases h:k=l
  ·rw[if_pos h] at e;cases e;exact i4 _
  ·rw[if_neg h] at e;erw[sz];have:=findL_sz l vs d e;lia
 | .obj k c ns vs,d,e=>by
  erw[W9] at e
  by_cases h:k=l
  ·rw[if_pos h] at e;cases e;exact i4 _
  ·rw[if_neg h] at e;erw[sz];have:=findL_sz l vs d e;lia
theorem findL_sz(l:Nat): ∀(t:List D) (d:D),findL l t=some d->sz d<=szL t
 |[],d,e=>by erw[findL] at e;cases e
 |t::ts,d,e=>by
  erw[findL] at e
  erw[szL]
  cases e1:W9 l t with
  |some y=>rw[e1] at e;cases e;have:=za9 l t _ e1;lia
  |none=>rw[e1] at e;have:=findL_sz l ts d e;lia
end
section
variable{G:Gx}{F:Fy}{ρ:Nat->Addr}{H:Hp}{σv tv:List (Option V)}{s:Stt}{t:D}{ts ds es:List D}{v:V}{vs xs ys:List V}{l:Nat}{Q:VK}
theorem z8p(M:MR G F.toFx ρ H σv tv s)(h:RD G ρ H (.lst l ds) v)(lb: ∀j∈y9 (.lst l ds),j<s.n):l∉labsL ds:=fun hl=>by
 have h0:=h
 erw[RD] at h0
 obtain⟨rfl,xs,q,r⟩:=h0
 have:=findL_some l ds xs r hl
 cases e:findL l ds with
 |none=>rw[e] at this;cases this
 |some d=>
  obtain⟨q1,q2⟩:=findL_rd l ds xs d r e
  have e2:=RD.uniq M.kd M.inj _ _ _ q1 h (fun j hj=>lb j (by erw[y9];exact e9 _ (q2 j hj))) lb
  have e3:=findL_sz l ds d e
  rw[e2] at e3
  erw[sz] at e3
  lia
theorem MR.put2{o:HO}{d:D}(M:MR G F.toFx ρ H σv tv s)(ln:l<s.n)(ow:F.A0 (ρ l)\/F.H0 (ρ l)=none)(ts:V5 H (upd H (ρ l) o))(k:KD G.K (upd H (ρ l) o))(hd:RD G ρ (upd H (ρ l) o) d (.ref (ρ l)))(hb:LB F.toFx ρ s.n (y9 d)):
 MR G F.toFx ρ (upd H (ρ l) o) σv tv (s.put l d):=by
 have step: ∀k,k∈G5 s->ρ k=ρ k/\(match (if k=l then some d else none:Option D) with|some d=>RD G ρ (upd H (ρ l) o) d (.ref (ρ k))|none=> ∀o',H (ρ k)=some o'->upd H (ρ l) o (ρ k)=some o'):=fun k hk=>by
  refine⟨rfl, ?_⟩
  by_cases e:k=l
  ·rw[if_pos e];subst e;exact hd
  ·rw[if_neg e]
   intro o' q
   rw[Z6 (fun z=>e (M.inj k l (M.lab k hk) ln z))]
   exact q
 have sub: ∀(xs:List (Option D)) (j:Nat),j∈Y0 (rpO (fun k=>if k=l then some d else none) xs)->(∀i∈Y0 xs,i∈G5 s)->j<s.n/\(F.A0 (ρ j)\/F.H0 (ρ j)=none):=fun xs j h hx=>by
  rcases z2j j xs h with q|⟨k,d',q1,q2,q3⟩
  ·exact⟨M.lab j (hx j q),M.own j (hx j q)⟩
  ·by_cases e:k=l
   ·rw[if_pos e] at q2;cases q2;exact hb j q3
   ·rw[if_neg e] at q2;cases q2
 have all: ∀j∈G5 (s.put l d),j<s.n/\(F.A0 (ρ j)\/F.H0 (ρ j)=none):=fun j h=>by
  rcases i3.mp h with h|h
  ·exact sub s.σ j h fun i hi=>i5 _ hi
  ·exact sub s.tm j h fun i hi=>c9 _ hi
 refine⟨Sl.rp ts M.sl fun k hk=>step k (i5 _ hk),Sl.rp ts M.tm fun k hk=>step k (c9 _ hk),M.inj,fun k hk=> ?_,fun j h=>(all j h).1,fun j h=>(all j h).2,fun a o' e=> ?_,k,M.frb,M.bas⟩
 ·by_cases e:ρ k=ρ l
  ·rw[e];exact⟨o,Z8⟩
  ·rw[Z6 e];exact M.dom k hk
 ·obtain⟨⟨o1,e1⟩,e2⟩:=M.frm a o' e
  by_cases ea:a=ρ l
  ·subst ea
   refine⟨⟨o,Z8⟩,fun n=> ?_⟩
   rcases ow with q|q
   ·exact absurd q n
   ·rw[e] at q;cases q
  ·rw[Z6 ea]
   exact⟨⟨o1,e1⟩,e2⟩
theorem z8q{o o':HO}{a:Addr}(k:KD G.K H)(e:H a=some o):KD G.K (upd H a o'):=fun b ob q=>by
 by_cases h:b=a
 ·subst h;rw[k _ _ q] at e;cases e
 ·rw[Z6 h];exact k _ _ q
theorem z4Z{o':HO}{a:Addr}{xs:List V}(e:H a=some (.lst xs)):V5 H (upd H a o'):=
 ⟨fun b ys q=>by rw[Z6 (z36 q e (by intro z;cases z))];exact q,fun b o u q=>by rw[Z6 (z36 q e (by intro z;cases z))];exact q⟩
theorem RDs.upd{o:HO}{a:Addr}(st:V5 H (upd H (ρ l) o))(inj: ∀i j,i<s.n->j<s.n->ρ i=ρ j->i=j)(ln:l<s.n)(r:RDs G ρ H ds xs)(lb: ∀j∈labsL ds,j<s.n/\j≠l):RDs G ρ (L2.upd H (ρ l) o) ds xs:=
 RDs.stay st ds xs r fun j hj=>⟨rfl,fun o' e=>by rw[Z6 (fun z=>(lb j hj).2 (inj j l (lb j hj).1 ln z))];exact e⟩
theorem MR.putL(M:MR G F.toFx ρ H σv tv s)(hl:H (ρ l)=some (.lst xs))(ln:l<s.n)(ow:F.A0 (ρ l)\/F.H0 (ρ l)=none)(r:RDs G ρ H es ys)(lb:LB F.toFx ρ s.n (labsL es))(ne:l∉labsL es):
 MR G F.toFx ρ (upd H (ρ l) (.lst ys)) σv tv (s.put l (.lst l es)):=by
 refine M.put2 ln ow (z4Z hl) (z8q M.kd hl) ?_ fun j hj=> ?_
 ·erw[RD]
  exact⟨trivial,ys,Z8,RDs.upd (a:=0) (z4Z hl) M.inj ln r fun j hj=>⟨(lb j hj).1,fun z=>ne (z▸hj)⟩⟩
 ·erw[y9] at hj
  rcases i0.mp hj with q|q
  ·rw[q];exact⟨ln,ow⟩
  ·exact lb j q
end
noncomputable def z7b:D->List D->M D
 | .lst l ds,[y]=>fun s=>if ds.length<sizeLine/\l∉y9 y then .ok .non (s.put l (.lst l (ds++[y]))) else .no
 |_,_=>fl
noncomputable def isL(x:D):M Unit:=fun s=>match z4S x with|some _=> .ok () s|none=> .no
noncomputable def z1S(mo:M D)(ms:List (M D))(g:D->List D->M D):M D:=bd mo fun x=>bd (isL x) fun _=>bd (psh x) fun _=>bd (Y4 ms) fun ys=>bd pop fun x'=>g x' ys
section
variable{X:Cx}{G:Gx}{F:Fy}{e o:Expr}{es:List Expr}{apos cpos:Pos}
noncomputable def zga(G:Gx)(F:Fy)(r:V->List V->Hp->VK->Prop)(g:D->List D->M D):Prop:= ∀ρ s t ts v vs H σv tv Q,MRL G F.toFx ρ H σv tv s (t::ts) (v::vs)->wM G F σv tv (g t ts s) Q->r v vs H (fun w H'=>KD G.K H'->Q w H')
theorem MRL.hd{ρ:Nat->Addr}{H:Hp}{σv tv:List (Option V)}{s:Stt}{t:D}{ts:List D}{v:V}{vs:List V}(M:MRL G F.toFx ρ H σv tv s (t::ts) (v::vs)):RD G ρ H t v/\RDs G ρ H ts vs/\LB F.toFx ρ s.n (y9 t)/\LB F.toFx ρ s.n (labsL ts):=by
 have h:=M.rd
 erw[RDs] at h
 obtain⟨_,_,e,h1,h2⟩:=h
 cases e
 exact⟨h1,h2,fun l h=>M.lb l (by erw[labsL];exact i5 _ h),fun l h=>M.lb l (by erw[labsL];exact c9 _ h)⟩
theorem zex:zga G F z7Q z7b:=by
 intro ρ s t ts v vs H σv tv Q M W
 obtain⟨h1,h2,b1,b2⟩:=M.hd
 unfold z7b at W
 split at W
 ·rename_i l ds y
  split at W
  ·rename_i hc
   have h1':=h1
   erw[RD] at h1
   obtain⟨rfl,xs,hx,r⟩:=h1
   erw[RDs] at h2
   obtain⟨u,q,rfl,h2,rfl⟩:=h2
   have ns:=z8p M.m h1' fun j hj=>(b1 j hj).1
   have bl:=b1 l (by erw[y9];exact l4 ..)
   refine⟨_,xs,u,rfl,rfl,hx,by rw[<-r.length];exact hc.1,fun _=>W.out (M.m.putL hx bl.1 bl.2 (r.append (RDs.one h2)) ?_ ?_) (by erw[RD]) fun l h=>by simp[y9] at h⟩
   ·intro j hj
    rw[U0] at hj
    rcases i3.mp hj with q|q
    ·exact b1 j (by erw[y9];exact e9 _ q)
    ·exact b2 j q
   ·intro hj
    rw[U0] at hj
    rcases i3.mp hj with q|q
    ·exact ns q
    ·erw[labsL,l3] at q;exact hc.2 q
  ·exact False.elim W
 ·exact wfl W
theorem zaa{T:String}{mo:M D}{ms:List (M D)}{g:D->List D->M D}{r:V->List V->Hp->VK->Prop}{σ:L2.St}{H:Hp}{Q:VK}(hT:T= "list")(hg:zga G F r g)(h:tM G F (z1S mo ms g) σ H Q):
 tM G F mo σ H fun x H1=>tyV G.K T x H1/\tML G F (Y4 ms) σ H1 fun xs H2=>r x xs H2 fun w H'=>KD G.K H'->Q w H':=by
 obtain⟨tv,h⟩:=h
 have hs:=h.1
 refine⟨tv,(z5C h).mono fun v H1 ⟨ρ1,s1,t,M1,W⟩=> ?_⟩
 erw[bd,isL] at W
 cases e1:z4S t with
 |none=>erw[e1] at W;exact False.elim W
 |some ds=>
  erw[e1,psh] at W
  obtain⟨a,xs,rfl,sq,_⟩:=M1.rd1.lstq e1
  refine⟨.inl ⟨hT,xs,sq⟩,some (.ref a)::tv,z9v hs,ρ1,s1.psh t,M1.push, ?_⟩
  cases e2:Y4 ms (s1.psh t) with
  |ex d s2=>erw[e2] at W;exact W
  |no=>erw[e2] at W;exact W
  |ok ys s2=>
   erw[e2,pop] at W
   intro ρ2 us H2 M2
   cases e3:s2.tm with
   |nil=>erw[e3] at W;exact False.elim W
   |cons o r=>
    cases o with
    |none=>erw[e3] at W;exact False.elim W
    |some t'=>
     erw[e3] at W
     exact hg _ _ _ _ _ _ _ _ _ _ (M2.down e3) W
theorem zcp{name:Str}{id:String}{r:V->List V->Hp->VK->Prop}{mo:M D}{ms:List (M D)}{g:D->List D->M D}(hk:X.K=G.K)(slot:Slot "list" name id)(hty:typeOf (.builtin id)=pure (.type "method_descriptor"))(hm:MtR X id r)(hg:zga G F r g)(ho:SE X G F o mo)(ha:SA X G F (e::es) (Y4 ms))
 (hbase:attributeBase o name X.env (eval o X.env)=eval o X.env:=by rfl)
 (hfew:((backTo cpos (starEach (e::es) X.env)).all (fun x=> !x.1)&&(backToKw cpos (keywordEach [] X.env)).all (fun x=>x.1.isSome)
  &&decide ((e::es).length+([]:List Keyword).length+(if([]:List Keyword).isEmpty then 0 else 1)<30))=true:=by rfl)
 (hline:(apos.endLine==cpos.line)=true:=by rfl) (hs:starEach (e::es) X.env=(false,eval e X.env)::starEach es X.env:=by rfl) (hplain:(backTo cpos (starEach es X.env)).any (·.1)=false:=by rfl):SE X G F (.Call (.Attribute o name apos) (e::es) [] cpos) (z1S mo ms g):=by
 refine PE.imp hk (zgI PySem.F.plainAttrs_list slot hty hm ho ha hbase hfew hline hs hplain) fun σ H Q h=> ?_
 rw[hk]
 exact zaa rfl hg h
noncomputable def setD(o i v:D):MS:=fun s=>match o,i with
 | .lst l ds, .int k=>match ixN ds.length k with
  |some j=>if l∉y9 v then .nx (s.put l (.lst l (ds.set j v))) else .no
  |none=> .no
 |_,_=> .no
noncomputable def mTri(me mo mi:M D)(g:D->D->D->MS):MS:=z0u me fun v=>z0u (psh v) fun _=>z0u mo fun o=>z0u (psh o) fun _=>z0u mi fun i=>z0u pop fun o'=>z0u pop fun v'=>g o' i v'
theorem z6p{mo mi:M D}{g:D->D->D->MS}{tv:List (Option V)}{Dd:z5x}{σ:L2.St}{H1:Hp}{ρ1:Nat->Addr}{s1:Stt}{t:D}{v:V}(hs:F.tv0<:+tv)(M1:MRL G F.toFx ρ1 H1 σ tv s1 [t] [v])
 (W:wS G F tv ((z0u (psh t) fun _=>z0u mo fun o=>z0u (psh o) fun _=>z0u mi fun i=>z0u pop fun o'=>z0u pop fun v'=>g o' i v') s1) Dd):
 tM G F mo σ H1 fun o H2=>tM G F mi σ H2 fun i H3=> ∃ρ s t1 t2 t3,MRL G F.toFx ρ H3 σ tv s [t1,t2,t3] [v,o,i]/\wS G F tv (g t2 t3 t1 s) Dd:=by
 refine⟨some v::tv,z9v hs,ρ1,s1.psh t,M1.push, ?_⟩
 erw[z0u,psh] at W
 cases e1:mo (s1.psh t) with
 |ex d s2=>erw[e1] at W;exact W
 |no=>erw[e1] at W;exact W
 |ok o s2=>
  erw[e1] at W
  intro ρ2 u H2 M2
  refine⟨some u::some v::tv,z9v (z9v hs),ρ2,s2.psh o,M2.push, ?_⟩
  cases e2:mi (s2.psh o) with
  |ex d s3=>erw[e2] at W;exact W
  |no=>erw[e2] at W;exact W
  |ok i s3=>
   erw[e2,pop] at W
   intro ρ3 w H3 M3
   cases e3:s3.tm with
   |nil=>erw[e3] at W;exact False.elim W
   |cons o3 r3=>
    cases o3 with
    |none=>erw[e3] at W;exact False.elim W
    |some x3=>
     erw[e3] at W
     cases r3 with
     |nil=>exact False.elim W
     |cons o4 r4=>
      cases o4 with
      |none=>exact False.elim W
      |some x4=>
       have M4:=M3.down e3
       have M5:=M4.down (s':={s3 with tm:=some x4::r4}) rfl
       exact⟨ρ3,_,x4,x3,i,M5,W⟩
theorem z8r{me mo mi:M D}{g:D->D->D->MS}{tv:List (Option V)}{Dd:z5x}{σ:L2.St}{H:Hp}(h:tSv G F (mTri me mo mi g) tv Dd σ H):
 tM G F me σ H fun v H1=>tM G F mo σ H1 fun o H2=>tM G F mi σ H2 fun i H3=> ∃ρ s t1 t2 t3,MRL G F.toFx ρ H3 σ tv s [t1,t2,t3] [v,o,i]/\wS G F tv (g t2 t3 t1 s) Dd:=
 ⟨tv,(z0h h).mono fun v H1 ⟨ρ1,s1,t,M1,W⟩=>z6p h.1 M1 W⟩
theorem zb6{ρ:Nat->Addr}{s:Stt}{t1 t2 t3:D}{v o i:V}{H:Hp}{σv tv:List (Option V)}{Dd:z5x}(M:MRL G F.toFx ρ H σv tv s [t1,t2,t3] [v,o,i])(W:wS G F tv (setD t2 t3 t1 s) Dd):z38 o i v H fun H'=>Dd.nx σv H':=by
 have h:=M.rd
 erw[RDs] at h
 obtain⟨_,_,e,h1,_,_,e2,h2,_,_,e3,h3,_⟩:=h
 cases e;cases e2;cases e3
 have b1:LB F.toFx ρ s.n (y9 t1):=fun l h=>M.lb l (by erw[labsL];exact i5 _ h)
 have b2:LB F.toFx ρ s.n (y9 t2):=fun l h=>M.lb l (by erw[labsL];exact c9 _ (i5 _ h))
 cases t2 with
 |lst l ds=>
  cases t3 with
  |int k=>
   erw[setD] at W
   cases ek:ixN ds.length k with
   |none=>erw[ek] at W;exact False.elim W
   |some j=>
    erw[ek] at W
    by_cases hc:l∉y9 t1
    ·rw[if_pos hc] at W
     have h2':=h2
     erw[RD] at h2 h3
     obtain⟨rfl,xs,hx,r⟩:=h2
     subst h3
     have ns:=z8p M.m h2' fun j hj=>(b2 j hj).1
     have bl:=b2 l (by erw[y9];exact l4 ..)
     have mm: ∀q,q∈labsL (ds.set j t1)->q∈labsL ds\/q∈y9 t1:=fun q hq=>by
      obtain⟨d,h1,h2⟩:=k5 hq
      rcases B7 h1 with z|z
      ·exact .inl (labsL_mem z q h2)
      ·subst z;exact .inr h2
     refine⟨_,xs,k,j,rfl,rfl,hx,by rw[<-r.length];exact ek,W ρ σv _ (M.m.putL hx bl.1 bl.2 (r.set j h1) (fun q hq=> ?_) fun hq=> ?_)⟩
     ·rcases mm q hq with z|z
      ·exact b2 q (by erw[y9];exact e9 _ z)
      ·exact b1 q z
     ·rcases mm l hq with z|z
      ·exact ns z
      ·exact hc z
    ·rw[if_neg hc] at W;exact False.elim W
  |_=>exact False.elim W
 |_=>exact False.elim W
theorem ss_setI{ob ix:Expr}{pos tpos:Pos}{mo mi me:M D}(he:SE X G F e me)(ho:SE X G F ob mo)(hi:SE X G F ix mi)(hg: ∀{to ti:TE},PE X ob to->PE X ix ti->PG X (.Subscript ob ix tpos) (zaM to ti z38))(hs:swapsWithSole [.Subscript ob ix tpos] e pos.line X.env=pure false:=by rfl)(hw:swappedStores [.Subscript ob ix tpos] e X.env=pure none:=by rfl)
 (h1:(assignEach [.Subscript ob ix tpos] X.env).map (·.2)=[assign (.Subscript ob ix tpos) X.env]:=by rfl):SS X G F (.Assign [.Subscript ob ix tpos] e pos) (mTri me mo mi setD):=by
 refine PS.imp0 (zaN he (hg ho hi) hs hw h1) fun Dd σ H ⟨tv,h⟩=> ?_
 exact(z8r h).mono fun v H1 h1=>h1.mono fun o H2 h2=>h2.mono fun i H3 ⟨ρ,s,t1,t2,t3,M,W⟩=>zb6 M W
end
end Mi
namespace Mi
open PySem L2
section
variable{X:Cx}{G:Gx}{F:Fy}{e a b c:Expr}{pos:Pos}{ma mb mc m:M D}
theorem se_add(hk:X.K=G.K)(ha:SE X G F a ma)(hb:SE X G F b mb):SE X G F (.BinOp a .Add b pos) (Z1 ma mb J1):=
 z5D hk (r:=fun x y H Q=>rI0 (fun i j=> .int (i+j)) x y H Q\/z84 G.K x y H Q\/zdO x y H Q\/∃i j,x= .str i/\y= .str j/\i.length+j.length<=sizeLine/\Q (.str (i++j)) H) (hk▸OpR.or zaP (OpR.or z85 (OpR.or zaR z3o))) zb2 ha hb
theorem se_sub(hk:X.K=G.K)(ha:SE X G F a ma)(hb:SE X G F b mb):SE X G F (.BinOp a .Sub b pos) (Z1 ma mb z9X):=z5D hk zdA zec ha hb
theorem se_mul(hk:X.K=G.K)(ha:SE X G F a ma)(hb:SE X G F b mb):SE X G F (.BinOp a .Mult b pos) (Z1 ma mb z4z):=z5D hk (r:=fun x y H Q=>rI z9u (fun i j=> .int (i*j)) x y H Q\/(zgJ x y H Q\/zc7 G.K x y H Q)) (OpR.or zdB (OpR.or zdP (hk▸zc8))) zei ha hb
theorem se_fdiv(hk:X.K=G.K)(ha:SE X G F a ma)(hb:SE X G F b mb):SE X G F (.BinOp a .FloorDiv b pos) (Z1 ma mb z4T):=z5D hk zbI zcb ha hb
theorem se_mod(hk:X.K=G.K)(ha:SE X G F a ma)(hb:SE X G F b mb):SE X G F (.BinOp a .Mod b pos) (Z1 ma mb z3u):=z5D hk zdC zed ha hb
theorem se_pow(hk:X.K=G.K)(ha:SE X G F a ma)(hb:SE X G F b mb):SE X G F (.BinOp a .Pow b pos) (Z1 ma mb z9w):=z5D hk zdD zee ha hb
theorem se_neg(hk:X.K=G.K)(ha:SE X G F a ma):SE X G F (.UnaryOp .USub a pos) (bd ma z6k):=zgV hk zdE zeh ha
structure Cm(X:Cx)(G:Gx)(F:Fy)(op:CmpOp)(g:D->D->M D):Prop where
 h: ∃r,OpR X (compareOp op) r/\z1e G F r g
theorem z8s:Cm X G F .Lt ltD:=⟨_,zgw,zgX⟩
theorem zey:Cm X G F .LtE leD:=⟨_,zgx,zgY⟩
theorem z7c:Cm X G F .Gt gtD:=⟨_,zgy,zgZ⟩
theorem zh7:Cm X G F .GtE geD:=⟨_,zgz,zh0⟩
theorem z0B(hk:X.K=G.K)(hu:X.A.units+64<cLine):Cm X G F .Eq eqD:=⟨_,hk▸ze6 hu,zh1⟩
theorem z5I(hk:X.K=G.K)(hu:X.A.units+64<cLine):Cm X G F .NotEq neD:=⟨_,hk▸ze7 hu,zh2⟩
theorem zb7(hk:X.K=G.K)(hu:X.A.units+64<cLine):Cm X G F .NotIn z9x:=⟨_,hk▸z81 hu,zef⟩
theorem se_cmp{op:CmpOp}{g:D->D->M D}(hc:Cm X G F op g)(ha:SE X G F a ma)(hb:SE X G F b mb)(hm:behindInMarks op b=false):SE X G F (.Compare a [op] [b] pos) (Z1 ma mb g):=by
 obtain⟨r,h1,h2⟩:=hc.h
 exact zc9 h1 h2 ha hb hm
theorem sb_cmp{op:CmpOp}{g:D->D->M D}(hc:Cm X G F op g)(ha:SE X G F a ma)(hb:SE X G F b mb)(hm:behindInMarks op b=false):SB X G F (.Compare a [op] [b] pos) (g9 (Z1 ma mb g)):=by
 obtain⟨r,h1,h2⟩:=hc.h
 exact zce h1 h2 ha hb hm
theorem se_cmp2{op op':CmpOp}{g g':D->D->M D}(hc:Cm X G F op g)(hc':Cm X G F op' g')(ha:SE X G F a ma)(hb:SE X G F b mb)(hcc:SE X G F c mc)(hm:lastMarks [op,op'] [b,c]=false:=by with_unfolding_all rfl):SE X G F (.Compare a [op,op'] [b,c] pos) (z2A ma mb mc g g'):=by
 obtain⟨r,h1,h2⟩:=hc.h
 obtain⟨r',h1',h2'⟩:=hc'.h
 exact z9Z h1 h2 h1' h2' ha hb hcc hm
theorem se_idx(hk:X.K=G.K)(ha:SE X G F a ma)(hb:SE X G F b mb)(hs:z0v b):SE X G F (.Subscript a b pos) (Z1 ma mb ixD):=zgW hk (hk▸IxR.or zbR zdM) zh3 ha hb hs
structure Cb(X:Cx)(G:Gx)(F:Fy)(f:Value)(g:List D->M D):Prop where
 h: ∃r,CallR X f r/\X8 G F r g
theorem zez(hk:X.K=G.K):Cb X G F (.builtin "len") lenD:=⟨_,hk▸z4L,zeo⟩
theorem zeA:Cb X G F (.builtin "abs") zdb:=⟨_,z9J,zep⟩
theorem z8t(hc:X.calm=true):Cb X G F (.builtin "min") za0:=⟨_,z7I hc,zeq⟩
theorem zeB(hc:X.calm=true):Cb X G F (.builtin "max") zdc:=⟨_,z7H hc,zer⟩
theorem zb8(hk:X.K=G.K)(hd:X.A.handled=none):Cb X G F (.builtin "all") zch:=⟨_,hk▸z82 hd,zes⟩
theorem zb9:Cb X G F (.type "int") zci:=⟨_,z7J,zet⟩
theorem V2(hk:X.K=G.K):Cb X G F (.type "tuple") tupF:=⟨_,hk▸z86,zcj⟩
theorem z8u(hk:X.K=G.K):Cb X G F (.type "list") z77:=⟨_,hk▸z4M,za1⟩
theorem se_cb{x:Str}{p:Pos}{es:List Expr}{ms:List (M D)}{g:List D->M D}{id:String}(hk:X.K=G.K)(hc:Cb X G F (.builtin id) g)(hgl:Gl X x)(hm:X.mg x=none)(hv:bootBuiltins x=some (.builtin id))(ha:SA X G F (e::es) (Y4 ms))(hn:x≠ "__name__" :=by decide)(hdb:(x==("__debug__" :Str))=false:=by decide)
 (he:starEach (e::es) X.env=(false,eval e X.env)::starEach es X.env:=by rfl) (hpl:(backTo pos (starEach es X.env)).any (·.1)=false:=by rfl):SE X G F (.Call (.Name x p) (e::es) [] pos) (mCB ms g):=by
 obtain⟨r,h1,h2⟩:=hc.h
 exact z9W hk h1 h2 hgl hm hv ha hn hdb he hpl
theorem se_ct{x:Str}{p:Pos}{es:List Expr}{ms:List (M D)}{g:List D->M D}{T:String}(hk:X.K=G.K)(hc:Cb X G F (.type T) g)(hgl:Gl X x)(hm:X.mg x=none)(hv:bootBuiltins x=some (.type T))(ha:SA X G F (e::es) (Y4 ms))(hn:x≠ "__name__" :=by decide)(hdb:(x==("__debug__" :Str))=false:=by decide)
 (he:starEach (e::es) X.env=(false,eval e X.env)::starEach es X.env:=by rfl) (hpl:(backTo pos (starEach es X.env)).any (·.1)=false:=by rfl):SE X G F (.Call (.Name x p) (e::es) [] pos) (mCB ms g):=by
 obtain⟨r,h1,h2⟩:=hc.h
 exact z8b hk h1 h2 hgl hm hv ha hn hdb he hpl
structure Cl(X:Cx)(G:Gx)(F:Fy)(id:String)(g:D->List D->M D):Prop where
 h: ∃r,MtR X id r/\zga G F r g
theorem z1x:Cl X G F "list.append" z7b:=⟨_,z1s,zex⟩
end
end Mi
namespace Mi
open PySem L2 PySem.Spec PyProof.Rows
noncomputable def tyO(p:Addr)(Ts:List String):HO:= .ext fun h=>h.get? p=some {cls:= .type "tuple",data:= .seq (Ts.map Value.type).toArray}
section
variable{X:Cx}{G:Gx}{F:Fy}{e a b c:Expr}{pos:Pos}
noncomputable def zh8(Ts:List String):TE:=fun σ H Q=> ∀p,H p=none->Q (.ref p) (upd H p (tyO p Ts))
theorem z8v: ∀{Ts:List String} {us:List Value},J0 (Ts.map V.ty) us->us=Ts.map Value.type
 |[],_, .nil=>rfl
 |T::Ts,_, .cons r t=>by
  have e:_=Value.type T:=r
  rw[e,z8v t];rfl
theorem zab{es:List Expr}{k}{Ts:List String}{t:TA}(h:PA X es t)(ht: ∀σ H Q,Q (Ts.map V.ty) H->t σ H Q)(hl:Ts.length<=20):PE X (.Tuple es k pos) (zh8 Ts):=by
 intro pins s σ H Q I hq
 refine wpAny_Tuple_spliced (thn (h pos pins s σ H (fun vs H1=>vs=Ts.map V.ty/\H1=H) I (ht _ _ _ ⟨rfl,rfl⟩)) fun us s1 ⟨xs,H1,I1,r,e1,e2⟩=>⟨?_, ?_⟩)
 ·rw[<-r.length,e1,A3,sizeLine_eq];lia
 ·subst e1 e2
  have hu:=z8v r
  subst hu
  have hf:H1 s1.heap.objs.size=none:=I1.hok.fresh (i4 _)
  refine⟨.ref s1.heap.objs.size,upd H1 s1.heap.objs.size (tyO s1.heap.objs.size Ts),I1.laid (t':=s1.toks) (fun b u e=>Heap.get?_push_of_some _ e) (i4 _) ?_,rfl,hq _ hf⟩
  exact⟨Heap.get?_push_size _ rfl,⟨_,Heap.get?_push_size _ rfl⟩,fun h1 h2 q k=>k _ q⟩
noncomputable def zh9(K:W.Frag)(Ts:List String):List V->Hp->VK->Prop:=fun xs H Q=> ∃x p bs,xs=[x, .ref p]/\Ts≠[]/\H p=some (tyO p Ts)/\Paired (fun T b=>(T= "tuple" \/T= "list")/\zaZ K H T b x) Ts bs/\Q (.bl (bs.any id)) H
theorem z8w{Ts:List String}:CallR X (.builtin "isinstance") (zh9 X.K Ts):=by
 intro pins s σ H xs us Q I r h
 obtain⟨x,p,bs,rfl,hne,hp,hb,q⟩:=h
 have some1: ∃T b,(T= "tuple" \/T= "list")/\zaZ X.K H T b x:=by
  cases hb with
  |nil=>exact absurd rfl hne
  |cons h _=>exact⟨_,_,h⟩
 obtain⟨u,u',rfl,ru,ru'⟩:=z9I r
 cases ru'
 have hobj:s.heap.get? p=some {cls:= .type "tuple",data:= .seq (Ts.map Value.type).toArray}:=(I.hok p _ hp).1
 have fin: ∀(Tx:String),s.TypeIs u Tx->AnswersAll (fun s=>s.TypeIs u Tx) u (Ts.map Value.type) bs->wpAny (model X.prog X.w) X.A (call (.builtin "isinstance") [u, .ref p]) (EP X pins σ Q) X.xe s:=fun Tx ht ha=>
  IsiPair.tupleOfB ha ht hobj rfl fun tk=>⟨.bl _,H,I.tok tk,rfl,q⟩
 have all: ∀(Tx:String),(∀T b,(T= "tuple" \/T= "list")/\zaZ X.K H T b x->Answers (fun s=>s.TypeIs u Tx) u (.type T) b)->AnswersAll (fun s=>s.TypeIs u Tx) u (Ts.map Value.type) bs:=fun Tx hA=>by
  clear hobj hp q fin hne
  induction hb with
  |nil=>exact AnswersAll.nil
  |cons h _ ih=>exact AnswersAll.cons (hA _ _ h) ih
 cases x with
 |non=>
  cases ru
  refine fin "NoneType" (typeIs_none s) (all _ ?_)
  rintro T b ⟨rfl|rfl,hb⟩<;>cases(show b=false from hb)
  ·exact Answers.of_false_none (by decide+kernel) F.isi_meta_tuple (by rw[isSubtype_type];kernel_rfl)
  ·exact Answers.of_false_none (by decide+kernel) F.isi_meta_list (by rw[isSubtype_type];kernel_rfl)
 |bl k=>
  cases ru
  refine fin "bool" (PySem.typeIs_bool s k) (all _ ?_)
  rintro T b ⟨rfl|rfl,hb⟩<;>cases(show b=false from hb)
  ·exact Answers.of_false_bool (by decide+kernel) F.isi_meta_tuple (by rw[isSubtype_type];kernel_rfl)
  ·exact Answers.of_false_bool (by decide+kernel) F.isi_meta_list (by rw[isSubtype_type];kernel_rfl)
 |int k=>
  obtain⟨t,rfl⟩:=ru
  refine fin "int" (typeIs_int s k t) (all _ ?_)
  rintro T b ⟨rfl|rfl,hb⟩<;>cases(show b=false from hb)
  ·exact Answers.of_false_int (by decide+kernel) F.isi_meta_tuple F.sub_int_tuple
  ·exact Answers.of_false_int (by decide+kernel) F.isi_meta_list (by rw[isSubtype_type];kernel_rfl)
 |str k=>
  obtain⟨t,rfl⟩:=ru
  refine fin "str" (typeIs_str s k t) (all _ ?_)
  rintro T b ⟨rfl|rfl,hb⟩<;>cases(show b=false from hb)
  ·exact Answers.of_false_str (by decide+kernel) F.isi_meta_tuple (by rw[isSubtype_type];kernel_rfl)
  ·exact Answers.of_false_str (by decide+kernel) F.isi_meta_list (by rw[isSubtype_type];kernel_rfl)
 |ref a=>
  cases ru
  by_cases hT: ∃ys,SqT X.K H a ys
  ·obtain⟨ys,hT⟩:=hT
   obtain⟨its,rv,ht,_⟩:=I.tuple hT
   refine fin "tuple" ht.typeIs (all _ ?_)
   have nl: ∀ys,¬SqL X.K H a ys:=fun ys q=>by
    obtain⟨its',rv',⟨o',n',e',c',_,_⟩,_⟩:=I.list q
    obtain⟨o,e,c,_⟩:=ht
    rw[e] at e';cases e'
    rw[c] at c';injection c' with c';exact absurd c' (by decide)
   rintro T b ⟨rfl|rfl,hb⟩
   ·rcases hb with⟨_,_,hb⟩|⟨ys,hb,_⟩
    ·cases(show b=true from hb)
     exact Answers.of_true F.isi_meta_tuple (by rw[isSubtype_type];kernel_rfl)
    ·exact absurd hb (nl ys)
   ·rcases hb with⟨_,_,hb⟩|⟨ys,hb,_⟩
    ·cases(show b=false from hb)
     exact Answers.of_false_tuple (by decide+kernel) F.isi_meta_list (by rw[isSubtype_type];kernel_rfl)
    ·exact absurd hb (nl ys)
  ·by_cases hL: ∃ys,SqL X.K H a ys
   ·obtain⟨ys,hL⟩:=hL
    obtain⟨its,rv,ht,_⟩:=I.list hL
    refine fin "list" ht.isList.typeIs (all _ ?_)
    rintro T b ⟨rfl|rfl,hb⟩
    ·rcases hb with⟨ys,hb,_⟩|⟨ys,_,hb⟩
     ·exact absurd ⟨ys,hb⟩ hT
     ·cases(show b=false from hb)
      exact Answers.of_false_list (by decide+kernel) F.isi_meta_tuple (by rw[isSubtype_type];kernel_rfl)
    ·rcases hb with⟨ys,hb,_⟩|⟨ys,_,hb⟩
     ·exact absurd ⟨ys,hb⟩ hT
     ·cases(show b=true from hb)
      exact Answers.of_true F.isi_meta_list (by rw[isSubtype_type];kernel_rfl)
   ·obtain⟨T,b,_,h⟩:=some1
    rcases h with⟨ys,h,_⟩|⟨ys,h,_⟩
    ·exact absurd ⟨ys,h⟩ hT
    ·exact absurd ⟨ys,h⟩ hL
 |byt _=>obtain⟨T,b,_,h⟩:=some1;exact h.elim
 |flt _=>obtain⟨T,b,_,h⟩:=some1;exact h.elim
 |ty _=>obtain⟨T,b,_,h⟩:=some1;exact h.elim
noncomputable def isiAny(Ts:List String)(d:D):Option Bool:=match Ts with
 |[]=>some false
 |T::r=>match isiD T d,isiAny r d with
  |some b,some c=>some (b||c)
  |_,_=>none
noncomputable def z8x(Ts:List String)(m:M D):M D:=bd m fun d=>match isiAny Ts d with|some b=>rt (.bool b)|none=>fl
theorem z50{ρ:Nat->Addr}{H:Hp}{t:D}{v:V}(h:RD G ρ H t v): ∀{Ts:List String} {b:Bool},isiAny Ts t=some b->(∀T∈Ts,T= "tuple" \/T= "list")->∃bs,Paired (fun T b=>(T= "tuple" \/T= "list")/\zaZ G.K H T b v) Ts bs/\bs.any id=b
 |[],b,e,_=>by erw[isiAny,Option.some.injEq] at e;subst e;exact⟨[], .nil,rfl⟩
 |T::Ts,b,e,hT=>by
  erw[isiAny] at e
  cases e1:isiD T t with
  |none=>erw[e1] at e;cases e
  |some b1=>
   cases e2:isiAny Ts t with
   |none=>erw[e1,e2] at e;cases e
   |some b2=>
    erw[e1,e2,Option.some.injEq] at e
    subst e
    obtain⟨bs,q1,q2⟩:=z50 h e2 fun T h=>hT T (e9 _ h)
    exact⟨b1::bs, .cons ⟨hT T (l4 ..),zb4 h e1⟩ q1,by simp[q2]⟩
theorem zac{K:W.Frag}{H H':Hp}{T:String}{b:Bool}{v:V}(sm:z0X H H')(h:zaZ K H T b v):zaZ K H' T b v:=by
 cases v with
 |ref a=>
  rcases h with⟨xs,q,e⟩|⟨xs,q,e⟩
  ·exact .inl ⟨xs,sm.ts.tup q,e⟩
  ·exact .inr ⟨xs,sm.lst q,e⟩
 |_=>exact h
theorem se_isiT{p:Pos}{x y:Expr}{Ts:List String}{m:M D}(hk:X.K=G.K)(hT: ∀T∈Ts,T= "tuple" \/T= "list")(hne:Ts≠[])(hgl:Gl X "isinstance")(hm:X.mg "isinstance" =none)(ha:SE X G F x m)(hy:PE X y (zh8 Ts))
 (he:starEach [x,y] X.env=(false,eval x X.env)::starEach [y] X.env:=by rfl) (he2:starEach [y] X.env=(false,eval y X.env)::starEach [] X.env:=by rfl) (hpl:(backTo pos (starEach [y] X.env)).any (·.1)=false:=by rfl):SE X G F (.Call (.Name "isinstance" p) [x,y] [] pos) (z8x Ts m):=by
 refine PE.imp hk (z3P (z8w (Ts:=Ts)) hgl hm PyProof.Rows.Boot.«isinstance» (z1b ha (z1b hy z6b he2) he) (by decide) (by decide) he hpl) fun σ H Q ⟨tv,h⟩=>⟨tv,(z5C h).mono fun v H1 ⟨ρ1,s1,t,M1,W⟩=> ?_⟩
 cases e:isiAny Ts t with
 |none=>erw[e] at W;exact False.elim W
 |some b=>
  erw[e] at W
  intro p hp
  have sm:=z0X.new (tyO p Ts) hp
  rw[hk]
  obtain⟨bs,q1,q2⟩:=z50 M1.rd1 e hT
  refine⟨v,p,bs,rfl,hne,Z8,Paired.mapP q1 fun T b q=>⟨q.1,zac sm q.2⟩,fun k=> ?_⟩
  rw[q2]
  exact W.flat (M1.m.same sm k) rfl
end
end Mi
namespace Mi
open PySem L2
noncomputable def G0(K:W.Frag):Gx:=⟨K,fun _=>none,fun _ _ _ h=>(by cases h),fun _ _ h=>(by cases h)⟩
theorem z8y{P:Program}{w:World}{K:W.Frag}{mg:Str->Option Value}{base:Heap}{CX:CXT}{k:Nat}{fa:Addr}{fd:FuncData}{ps:List Str}{G:Gx}{np:Nat}:FnOk P w K mg base CX k fa fd ps (spM G np fun _ _=> .no):=
 ⟨fun vs H Q E h=>by obtain⟨_,_,_,_,_,_,_,_,_,h⟩:=h;exact h.elim,fun A outer s H args us vs Q E _ _ _ _ h=>by obtain⟨_,_,_,_,_,_,_,_,_,h⟩:=h;exact h.elim⟩
section
variable{X:Cx}{G:Gx}{F:Fy}{e o:Expr}{es:List Expr}{apos cpos:Pos}
theorem se_cl{name:Str}{id:String}{mo:M D}{ms:List (M D)}{g:D->List D->M D}(hk:X.K=G.K)(slot:Slot "list" name id)(hty:typeOf (.builtin id)=pure (.type "method_descriptor"))(hm:Cl X G F id g)(ho:SE X G F o mo)(ha:SA X G F (e::es) (Y4 ms))
 (hbase:attributeBase o name X.env (eval o X.env)=eval o X.env:=by rfl)
 (hfew:((backTo cpos (starEach (e::es) X.env)).all (fun x=> !x.1)&&(backToKw cpos (keywordEach [] X.env)).all (fun x=>x.1.isSome)
  &&decide ((e::es).length+([]:List Keyword).length+(if([]:List Keyword).isEmpty then 0 else 1)<30))=true:=by rfl)
 (hline:(apos.endLine==cpos.line)=true:=by rfl) (hs:starEach (e::es) X.env=(false,eval e X.env)::starEach es X.env:=by rfl) (hplain:(backTo cpos (starEach es X.env)).any (·.1)=false:=by rfl):SE X G F (.Call (.Attribute o name apos) (e::es) [] cpos) (z1S mo ms g):=by
 obtain⟨r,h1,h2⟩:=hm.h
 exact zcp hk slot hty h1 h2 ho ha hbase hfew hline hs hplain
noncomputable def mTmp(k:Nat):M D:=fun s=>match s.tm[k]? with
 |some (some d)=> .ok d s
 |_=> .no
noncomputable def z8z(me mo1 mi1 mo2 mi2:M D):MS:=z0u me fun t=>match t with
 | .tup [d1,d2]=>z0u (psh d1) fun _=>z0u (psh d2) fun _=>Y2 (mTri (mTmp 1) mo1 mi1 setD) (Y2 (mTri (mTmp 0) mo2 mi2 setD) fun s=> .nx (s.popn 2))
 |_=>fun _=> .no
theorem z41(me mo mi:M D)(s:Stt):(∃s',mTri me mo mi setD s= .nx s')\/(∃d s',mTri me mo mi setD s= .ex d s')\/mTri me mo mi setD s= .no:=by
 have hset: ∀(o i v:D) (s:Stt),(∃s',setD o i v s= .nx s')\/setD o i v s= .no:=fun o i v s=>by
  unfold setD
  split
  ·split
   ·split
    ·exact .inl ⟨_,rfl⟩
    ·exact .inr rfl
   ·exact .inr rfl
  ·exact .inr rfl
 unfold mTri z0u
 cases me s with
 |ex d s1=>exact .inr (.inl ⟨d,s1,rfl⟩)
 |no=>exact .inr (.inr rfl)
 |ok v s1=>
  erw[psh]
  cases mo (s1.psh v) with
  |ex d s1=>exact .inr (.inl ⟨d,s1,rfl⟩)
  |no=>exact .inr (.inr rfl)
  |ok o s2=>
   dsimp only
   cases mi (s2.psh o) with
   |ex d s1=>exact .inr (.inl ⟨d,s1,rfl⟩)
   |no=>exact .inr (.inr rfl)
   |ok i s3=>
    dsimp only
    cases pop s3 with
    |ex d s1=>exact .inr (.inl ⟨d,s1,rfl⟩)
    |no=>exact .inr (.inr rfl)
    |ok o' s4=>
     dsimp only
     cases pop s4 with
     |ex d s1=>exact .inr (.inl ⟨d,s1,rfl⟩)
     |no=>exact .inr (.inr rfl)
     |ok v' s5=>
      dsimp only
      rcases hset o' i v' s5 with h|h
      ·exact .inl h
      ·exact .inr (.inr h)
theorem z3z(me mo mi:M D)(s:Stt)(d:D)(s':Stt):mTri me mo mi setD s≠ .rt d s':=fun e=>by rcases z41 me mo mi s with⟨_,h⟩|⟨_,_,h⟩|h<;>rw[h] at e<;>cases e
theorem z3A(me mo mi:M D)(s:Stt)(s':Stt):mTri me mo mi setD s≠ .bk s':=fun e=>by rcases z41 me mo mi s with⟨_,h⟩|⟨_,_,h⟩|h<;>rw[h] at e<;>cases e
theorem z3B(me mo mi:M D)(s:Stt)(s':Stt):mTri me mo mi setD s≠ .ct s':=fun e=>by rcases z41 me mo mi s with⟨_,h⟩|⟨_,_,h⟩|h<;>rw[h] at e<;>cases e
theorem ss_sub2{o1 i1 o2 i2 v:Expr}{pos p1 p2 tpos:Pos}{k}{me mo1 mi1 mo2 mi2:M D}(hk:X.K=G.K)(hc:X.calm=true)(he:SE X G F v me)(h1:SE X G F o1 mo1)(h2:SE X G F i1 mi1)(h3:SE X G F o2 mo2)(h4:SE X G F i2 mi2)
 (hg: ∀{t1 t2 t3 t4:TE},PE X o1 t1->PE X i1 t2->PE X o2 t3->PE X i2 t4->PG X (.Tuple [.Subscript o1 i1 p1, .Subscript o2 i2 p2] k tpos) (zgq X.K 2 (z6R (zaM t1 t2 z38) (z6R (zaM t3 t4 z38) zdw))))
 (hs:swapsWithSole [.Tuple [.Subscript o1 i1 p1, .Subscript o2 i2 p2] k tpos] v pos.line X.env=pure false:=by rfl) (hw:swappedStores [.Tuple [.Subscript o1 i1 p1, .Subscript o2 i2 p2] k tpos] v X.env=pure none:=by rfl)
 (ha:(assignEach [.Tuple [.Subscript o1 i1 p1, .Subscript o2 i2 p2] k tpos] X.env).map (·.2)=[assign (.Tuple [.Subscript o1 i1 p1, .Subscript o2 i2 p2] k tpos) X.env]:=by rfl):
 SS X G F (.Assign [.Tuple [.Subscript o1 i1 p1, .Subscript o2 i2 p2] k tpos] v pos) (z8z me mo1 mi1 mo2 mi2):=by
 refine PS.imp0 (zaN he (hg h1 h2 h3 h4) hs hw ha) fun Dd σ H ⟨tv,h⟩=>⟨tv,(z0h h).mono fun u H1 ⟨ρ1,s1,t,M1,W⟩=> ?_⟩
 have hsf:=h.1
 cases t with
 |tup ds=>
  match ds,W with
  |[d1,d2],W=>
   obtain⟨a,xs,rfl,sq,r⟩:=M1.rd1.tupq
   erw[RDs] at r
   obtain⟨x1,q,rfl,r1,x2,q',rfl,r2,rfl⟩:=r
   have lb:=M1.lb1
   erw[y9,labsL,l3] at lb
   refine⟨a,[x1,x2],rfl,hk▸sq,rfl,x1,[x2],rfl, ?_⟩
   have W:wS G F tv (Y2 (mTri (mTmp 1) mo1 mi1 setD) (Y2 (mTri (mTmp 0) mo2 mi2 setD) fun s=> .nx (s.popn 2)) ((s1.psh d1).psh d2)) Dd:=W
   have Ma:MRL G F.toFx ρ1 H1 σ tv s1 [d1] [x1]:=⟨M1.m,RDs.one r1,fun l hl=>lb l (i5 _ (by simpa only[labsL,l3] using hl))⟩
   have Mb:MRL G F.toFx ρ1 H1 σ (some x1::tv) (s1.psh d1) [d2] [x2]:=⟨Ma.push,RDs.one r2,fun l hl=>lb l (c9 _ (by simpa only[labsL,l3] using hl))⟩
   have Mp:=Mb.push
   have top: ∀(ρ:Nat->Addr) (Hc:Hp) (σc:L2.St) (s:Stt) (j:Nat) (x:V),MR G F.toFx ρ Hc σc (some x2::some x1::tv) s->(some x2::some x1::tv)[j]? =some (some x)->∀d s',mTmp j s= .ok d s'->s'=s/\MRL G F.toFx ρ Hc σc (some x2::some x1::tv) s [d] [x]:=by
    intro ρ Hc σc s j x M ex d s' e
    erw[mTmp] at e
    cases e1:s.tm[j]? with
    |none=>erw[e1] at e;cases e
    |some o=>
     cases o with
     |none=>erw[e1] at e;cases e
     |some c=>
      erw[e1] at e
      cases e
      obtain⟨v',ev,rv⟩:=M.tm.get j d e1
      rw[ex] at ev;cases ev
      refine⟨rfl,M,RDs.one rv,fun l hl=> ?_⟩
      have m:l∈G5 s:=c9 _ (z0z e1 l (by simpa only[labsL,l3] using hl))
      exact⟨M.lab l m,M.own l m⟩
   have step: ∀(ρ:Nat->Addr) (Hc:Hp) (σc:L2.St) (s:Stt) (j:Nat) (x:V) (mo mi:M D) (Dn:z5x),MR G F.toFx ρ Hc σc (some x2::some x1::tv) s->(some x2::some x1::tv)[j]? =some (some x)->wS G F (some x2::some x1::tv) (mTri (mTmp j) mo mi setD s) Dn->
    tM G F mo σc Hc fun o H2=>tM G F mi σc H2 fun i H3=>z38 o i x H3 fun H'=>Dn.nx σc H':=by
    intro ρ Hc σc s j x mo mi Dn M ex W
    unfold mTri at W
    cases e:mTmp j s with
    |ok d s'=>
     obtain⟨es,Md⟩:=top ρ Hc σc s j x M ex d s' e
     subst es
     erw[z0u,e] at W
     refine(z6p (z9v (z9v hsf)) Md ?_).mono fun o H2 h2=>h2.mono fun i H3 ⟨ρ,s,t1,t2,t3,M,W⟩=>zb6 M W
     erw[z0u]
     exact W
    |ex d s'=>erw[mTmp] at e;split at e<;>cases e
    |no=>erw[z0u,e] at W;exact False.elim W
   unfold Y2 at W
   refine step ρ1 H1 σ _ 1 x1 mo1 mi1 {Dd with nx:=fun σ' H'=>z6R (zaM (tM G F mo2) (tM G F mi2) z38) zdw [x2] σ' H' Dd.nx} Mp rfl ?_
   cases e1:mTri (mTmp 1) mo1 mi1 setD ((s1.psh d1).psh d2) with
   |nx s2=>
    erw[e1] at W
    intro ρ2 σ2 H2 M2
    refine⟨x2,[],rfl,step ρ2 H2 σ2 s2 0 x2 mo2 mi2 {Dd with nx:=fun σ' H'=>zdw [] σ' H' Dd.nx} M2 rfl ?_⟩
    cases e2:mTri (mTmp 0) mo2 mi2 setD s2 with
    |nx s3=>
     erw[e2] at W
     intro ρ3 σ3 H3 M3
     exact⟨rfl,W ρ3 σ3 H3 (MR.popn (tvs:=[some x2,some x1]) M3)⟩
    |rt d s3=>exact absurd e2 (z3z _ _ _ _ _ _)
    |bk s3=>exact absurd e2 (z3A _ _ _ _ _)
    |ct s3=>exact absurd e2 (z3B _ _ _ _ _)
    |ex d s3=>erw[e2] at W;exact W
    |no=>erw[e2] at W;exact W
   |rt d s2=>exact absurd e1 (z3z _ _ _ _ _ _)
   |bk s2=>exact absurd e1 (z3A _ _ _ _ _)
   |ct s2=>exact absurd e1 (z3B _ _ _ _ _)
   |ex d s2=>erw[e1] at W;exact W
   |no=>erw[e1] at W;exact W
  |[],W=>exact False.elim W
  |[_],W=>exact False.elim W
  |_::_::_::_,W=>exact False.elim W
 |_=>exact False.elim W
end
inductive SEs(X:Cx)(G:Gx)(F:Fy):List Expr->List (M D)->Prop
 |nil:SEs X G F [] []
 |cons {e:Expr} {m:M D} {es:List Expr} {ms:List (M D)}:SE X G F e m->nst e=true->SEs X G F es ms->SEs X G F (e::es) (m::ms)
theorem sa_of{X:Cx}{G:Gx}{F:Fy}{es:List Expr}{ms:List (M D)}(hk:X.K=G.K)(h:SEs X G F es ms):SA X G F es (Y4 ms):=by
 induction h with
 |nil=>exact zeb hk
 |cons h1 h2 _ ih=>exact zca hk h1 ih h2
section
variable{X:Cx}{G:Gx}{F:Fy}{tg iter elt:Expr}{pos:Pos}
theorem se_compC{scope:Scope}{own frees:List Str}{ix:List Nat}{ifs:List Expr}{mi:M ItK}{g:Tg}{mt:M Bool}{me:M D}(hk:X.K=G.K)(hc:X.calm=true)(S:z0a X.env.scope scope own frees X.N ix)(hi:SI X G F tg iter mi)
 (hg: ∀(F:Fy) cl C s₀ H₀ fp pn,SG (V1 X scope own frees cl C s₀ H₀ fp pn) G F tg g) (ht: ∀(F:Fy) cl C s₀ H₀ fp pn,STs (V1 X scope own frees cl C s₀ H₀ fp pn) G F ifs mt) (he: ∀(F:Fy) cl C s₀ H₀ fp pn,SE (V1 X scope own frees cl C s₀ H₀ fp pn) G F elt me)
 (hs: ∀x,foldedSetIterable iter X.env x=pure x:=by intro _;rfl):SE X G F (.ListComp elt [⟨tg,iter,ifs,0⟩] scope pos) (W3 mi g mt me own.length ix):=
 PE.imp0 (z8h (g:=tGx G g) (tt:=tBx G mt) (te:=tMx G me) hc S hi (fun cl C s₀ H₀ fp pn pins s σ H v u Q I r ⟨F',q⟩=>hg F' cl C s₀ H₀ fp pn pins s σ H v u Q I r q)
  (fun cl C s₀ H₀ fp pn pins s σ H Q I ⟨F',q⟩=>ht F' cl C s₀ H₀ fp pn pins s σ H Q I q) (fun cl C s₀ H₀ fp pn pins s σ H Q I ⟨F',q⟩=>he F' cl C s₀ H₀ fp pn pins s σ H Q I q) hs) fun σ H Q h=>z40 hk h
end
section
variable{X:Cx}{G:Gx}{F:Fy}{a b tg:Expr}{pos:Pos}
noncomputable def zeC(i:Nat):List (Option D)->Option (Option D)
 |some c::_=>(z4S c).map fun ds=>(ds[i]?).map fun d=> .tup [.int i,d]
 |_=>none
noncomputable def zad:ItK:=⟨1,zeC,z3x⟩
theorem z6q{a:Addr}:zb5 G (Ite G.K a) zad [some (.ref a)]:=by
 intro F ρ H σv tvp tv s i M
 dsimp only[zad]
 cases e:s.tm.drop tvp.length with
 |nil=>trivial
 |cons o r=>
  cases o with
  |none=>trivial
  |some c=>
   erw[zeC]
   obtain⟨h,lb⟩:=MR.head (s:=s.popn tvp.length) M.popn e
   cases e1:z4S c with
   |none=>trivial
   |some ds=>
    erw[A5]
    obtain⟨a',xs,ea,sq,rr,sub⟩:=h.lstq e1
    cases ea
    cases e2:ds[i]? with
    |none=>
     erw[R1]
     refine⟨xs,sq, ?_⟩
     rw[<-rr.length]
     exact List.getElem?_eq_none_iff.mp e2
    |some d=>
     erw[A5]
     obtain⟨x,ex,rx⟩:=rr.get i d e2
     refine⟨⟨xs,x,sq,ex⟩, ?_⟩
     rintro x' H' ⟨p,y,hp,rfl,rfl,hx,kd⟩
     rw[hx xs sq] at ex
     cases ex
     have sm:=z0X.new (.tup [.int i,x]) hp
     refine⟨M.same sm kd,RDs.one ?_,fun l hl=>lb l (sub l (labsL_mem (List.mem_of_getElem? e2) l (by simpa only[labsL,y9,l3,m8] using hl)))⟩
     erw[RD]
     refine⟨p,_,rfl,Z8, ?_⟩
     have r1:=(RDs.one rx).same sm
     erw[RDs] at r1⊢
     obtain⟨x,r,e,h1,h2⟩:=r1
     cases e
     exact⟨_,_,rfl,by erw[RD],_,_,rfl,h1,rfl⟩
noncomputable def zba(i:Nat):List (Option D)->Option (Option D)
 |some (.tup ds)::_=>some ((ds[i]?).map fun d=> .tup [.int i,d])
 |_=>none
noncomputable def zcq:ItK:=⟨1,zba,z3x⟩
theorem z8A{a:Addr}:zb5 G (zh5 G.K a) zcq [some (.ref a)]:=by
 intro F ρ H σv tvp tv s i M
 dsimp only[zcq]
 cases e:s.tm.drop tvp.length with
 |nil=>trivial
 |cons o r=>
  cases o with
  |none=>trivial
  |some c=>
   obtain⟨h,lb⟩:=MR.head (s:=s.popn tvp.length) M.popn e
   cases c with
   |tup ds=>
    erw[zba]
    obtain⟨a',xs,ea,sq,rr⟩:=h.tupq
    cases ea
    cases e2:ds[i]? with
    |none=>
     erw[R1]
     refine⟨xs,sq, ?_⟩
     rw[<-rr.length]
     exact List.getElem?_eq_none_iff.mp e2
    |some d=>
     erw[A5]
     obtain⟨x,ex,rx⟩:=rr.get i d e2
     refine⟨⟨xs,x,sq,ex⟩, ?_⟩
     rintro x' H' ⟨p,y,hp,rfl,rfl,hx,kd⟩
     rw[hx xs sq] at ex
     cases ex
     have sm:=z0X.new (.tup [.int i,x]) hp
     refine⟨M.same sm kd,RDs.one ?_,fun l hl=>lb l (by erw[y9];exact labsL_mem (List.mem_of_getElem? e2) l (by simpa only[labsL,y9,l3,m8] using hl))⟩
     erw[RD]
     refine⟨p,_,rfl,Z8, ?_⟩
     have r1:=(RDs.one rx).same sm
     erw[RDs] at r1⊢
     obtain⟨x,r,e,h1,h2⟩:=r1
     cases e
     exact⟨_,_,rfl,by erw[RD],_,_,rfl,h1,rfl⟩
   |_=>trivial
noncomputable def zih(ts:List D):M ItK:=fun s=>match ts with
 |[.lst l ds]=> .ok zad (s.psh (.lst l ds))
 |[.ro ds]=> .ok zad (s.psh (.ro ds))
 |[.tup ds]=> .ok zcq (s.psh (.tup ds))
 |_=> .no
noncomputable def zde(ms:List (M D)):M ItK:=bd (Y4 ms) zih
theorem si_enm{p tpos:Pos}{elts:List Expr}{x1:Nat}{ms:List (M D)}(hk:X.K=G.K)(hg:Gl X "enumerate")(hm:X.mg "enumerate" =none)(ha:SA X G F [a] (Y4 ms))(hs:starEach [a] X.env=[(false,eval a X.env)]:=by rfl):SI X G F (.Tuple elts x1 tpos) (.Call (.Name "enumerate" p) [a] [] pos) (zde ms):=by
 refine PI.imp0 (za2 hg hm ha hs) fun σ H R ⟨tv,hs,ρ,s,M,W⟩=>⟨tv,hs,ρ,s,M, ?_⟩
 unfold zde bd at W
 cases e:Y4 ms s with
 |ex d s1=>rw[e] at W;exact W
 |no=>rw[e] at W;exact W
 |ok ts s1=>
  rw[e] at W
  intro ρ1 vs H1 M1
  rw[hk]
  unfold zih at W
  dsimp only at W
  split at W
  ·rename_i ts' K s' hh
   split at hh
   ·cases hh
    obtain⟨v,rfl,h,_⟩:=M1.one
    obtain⟨a,xs,rfl,sq,r,_⟩:=h.lstq (ds:=_) rfl
    exact⟨a,rfl, .inl ⟨⟨xs,sq⟩,W ρ1 H1 [some (.ref a)] _ rfl M1.push z6q⟩⟩
   ·cases hh
    obtain⟨v,rfl,h,_⟩:=M1.one
    obtain⟨a,xs,rfl,sq,r,_⟩:=h.lstq (ds:=_) rfl
    exact⟨a,rfl, .inl ⟨⟨xs,sq⟩,W ρ1 H1 [some (.ref a)] _ rfl M1.push z6q⟩⟩
   ·cases hh
    obtain⟨v,rfl,h,_⟩:=M1.one
    obtain⟨a,xs,rfl,sq,r⟩:=h.tupq
    exact⟨a,rfl, .inr ⟨⟨xs,sq⟩,W ρ1 H1 [some (.ref a)] _ rfl M1.push z8A⟩⟩
   ·cases hh
  ·rename_i hh
   split at hh<;>cases hh
  ·exact False.elim W
noncomputable def zae(lo:Int)(n:Nat):List D:=(D5 n).map fun(k:Nat)=>D.int (lo+(k:Int))
noncomputable def zeD(x y:D):M D:=match x,y with
 | .bool k, .int j=>rt (.int ((if k then 1 else 0)+j))
 |x,y=>J1 x y
theorem zcr:z7r G F (fun x y H Q=>(∃k j,x= .bl k/\y= .int j/\Q (.int ((if k then 1 else 0)+j)) H)\/(rI0 (fun i j=> .int (i+j)) x y H Q\/z84 G.K x y H Q\/zdO x y H Q\/∃i j,x= .str i/\y= .str j/\i.length+j.length<=sizeLine/\Q (.str (i++j)) H)) zeD:=by
 intro ρ s t t' v u H σv tv Q M W
 unfold zeD at W
 split at W
 ·obtain⟨h1,h2⟩:=M.rd2
  erw[RD] at h1 h2
  exact .inl ⟨_,_,h1,h2,fun _=>W.flat M.m rfl⟩
 ·exact .inr (zb2 ρ s t t' v u H σv tv Q M W)
theorem se_addE{ma mb:M D}(hk:X.K=G.K)(ha:SE X G F a ma)(hb:SE X G F b mb):SE X G F (.BinOp a .Add b pos) (Z1 ma mb zeD):=
 z5D hk (r:=fun x y H Q=>(∃k j,x= .bl k/\y= .int j/\Q (.int ((if k then 1 else 0)+j)) H)\/(rI0 (fun i j=> .int (i+j)) x y H Q\/z84 G.K x y H Q\/zdO x y H Q\/∃i j,x= .str i/\y= .str j/\i.length+j.length<=sizeLine/\Q (.str (i++j)) H)) (OpR.or zcm (hk▸OpR.or zaP (OpR.or z85 (OpR.or zaR z3o)))) zcr ha hb
end
end Mi
namespace L2
open PySem PySem.Spec PyProof.Rows
structure Fly(P:Program)(w:World)(outer:List Env)(H:Hp)(s:Shared)(H':Hp)(C:Value)(e:Addr)(s':Shared):Prop where
 os:s'.os=s.os
 bare:AllBare s'.gens
 un:Un (frs outer) [] H H' s.heap s'.heap
 hok:HOk P w H' s'.heap
 he:H' e=none
 se:s.heap.get? e=none
 tr: ∃oe vs a0 T oT ts,s'.heap.get? e=some oe/\(oe.cls=C/\vs[0]? =some a0)/\oe.data= .fields vs/\vs[1]? =some (.ref T)/\T≠e/\s'.heap.get? T=some oT/\oT.data= .fields ts/\ts[3]? =some .none/\H' T=none/\s.heap.get? T=none
noncomputable def CX1(P:Program)(w:World):CXT:=fun outer H s E e s'=> ∃a C H',e= .ref a/\Fly P w outer H s H' C a s'/\E C none H'
noncomputable def zha(X:Cx)(E:St->XK):Prop:= ∀(pins:List (Addr×Obj)) (σ:St) (H:Hp) (s:Shared) (e:Value) (s':Shared),Inv X pins σ H s->CX1 X.prog X.w X.stack H s (E σ) e s'->X.xe e s'
end L2
namespace L2
open PySem PySem.Spec PySem.Calls PyProof.Rows Builtin Builtin.ObjectAttr Builtin.Getset_descriptor
structure zjh(K:W.Frag)(C:Addr):Prop where
 ob:W.mroIn K C (.type "object")=some true
 ba:W.mroIn K C (.type "BaseException")=some true
 f1:W.findIn K (.ref C) "__getattribute__" =some (some (.builtin "BaseException.__getattribute__"))
 f2:W.findIn K (.ref C) "__getattr__" =some none
 f3:W.findIn K (.ref C) "__class__" =some (some (.builtin "object.__class__"))
end L2
namespace L2
open PySem PySem.Spec PySem.Calls PyProof.Rows
end L2
namespace L2
open PySem PySem.Spec PySem.SeqAt PySem.Calls PyProof.Rows
end L2
namespace L2
open PySem PySem.Spec PySem.Calls PyProof.Rows
structure zhb(k:Nat)(A:Around):Prop where
 dp:A.depth+3*k+5<recursionLimit
 un:A.units+16*k+200<cLine
 gd:A.guards=some []
structure FnOkH(P:Program)(w:World)(K:W.Frag)(mg:Str->Option Value)(base:Heap)(CX:CXT)(k:Nat)(f:Addr)(fd:FuncData)(ps:List Str)(sp:Sp):Prop where
 len: ∀vs H Q E,sp vs H Q E->vs.length=ps.length
 run: ∀(A:Around) (outer:List Env) (s:Shared) (H:Hp) (args:Args) (us:List Value) (vs:List V) (Q:VK) (E:XK),zhb k A->zdI P w K mg base A outer s H->BindsTo s fd args (ps.zip us)->J0 vs us->sp vs H Q E->
  codeAny (model P w) A (.call (.ref f) args) (CR CX outer P w H s Q E) s
end L2
namespace L2
open PySem PySem.Spec PyProof.Rows
end L2
namespace Mi
open PySem L2 PySem.Spec
open PyProof.Rows (envOfC)
structure XP(X:Cx)(G:Gx)(F:Fy)(E:L2.St->XK):Prop where
 ps:zha X E
 xw: ∀c s',F.xw (.exc c) s'->∀ρ σv tv H C,F.tv0<:+tv->MR G F.toFx ρ H σv tv s'->G.cl c=some C->E σv (.ref C) none H
 no: ∀d s',F.xw d s'->∃c,d= .exc c
open Classical in
noncomputable def zii(r:RF)(ts:List D):M D:=fun s=>match r with
 | .ok t ts' n'=>if ts'=ts then .ok t {s with n:=n'} else
  if ∀l∈G5 s,l∈labsL ts->(findL l ts').isSome=true then .ok t {σ:=rpO (fun l=>findL l ts') s.σ,tm:=rpO (fun l=>findL l ts') s.tm,n:=n'} else .no
 | .ex d ts' n'=>if ts'=ts then .ex d {s with n:=n'} else
  if ∀l∈G5 s,l∈labsL ts->(findL l ts').isSome=true then .ex d {σ:=rpO (fun l=>findL l ts') s.σ,tm:=rpO (fun l=>findL l ts') s.tm,n:=n'} else .no
 | .no=> .no
noncomputable def spX(G:Gx)(np:Nat)(f:FM):Sp:=fun vs H Q E=>vs.length=np/\∃ρ n ts,RDs G ρ H ts vs/\(∀i j,i<n->j<n->ρ i=ρ j->i=j)/\(∀l,l<n->∃o,H (ρ l)=some o)/\(∀l∈labsL ts,l<n)/\KD G.K H/\match f ts n with
 | .ok t ts' n'=> ∀ρ' v H',z4Y G ρ n ts vs H ρ' n' ts' H'->RD G ρ' H' t v->(∀l∈y9 t,l<n'/\(l<n->l∈labsL ts))->Q v H'
 | .ex d ts' n'=> ∃c,d= .exc c/\∀ρ' H' C,z4Y G ρ n ts vs H ρ' n' ts' H'->G.cl c=some C->E (.ref C) none H'
 | .no=>False
noncomputable def zhc(k:Nat)(tm:List (Option D)):List (Option D):=tm.drop (tm.length -k)
end Mi
namespace Mi
open PySem L2 PySem.Spec
inductive Al(Φ:Addr->Prop):List (Str×Addr)->Prop
 |nil:Al Φ []
 |cons {c:Str} {a:Addr} {l:List (Str×Addr)}:Φ a->Al Φ l->Al Φ ((c,a)::l)
inductive Al2{β:Type}(Φ:Addr->β->Prop):List (Str×Addr)->List (Str×β)->Prop
 |nil:Al2 Φ [] []
 |cons {c:Str} {a:Addr} {b:β} {l:List (Str×Addr)} {r:List (Str×β)}:Φ a b->Al2 Φ l r->Al2 Φ ((c,a)::l) ((c,b)::r)
 |skip {c:Str} {a:Addr} {l:List (Str×Addr)} {r:List (Str×β)}:r.lookup c=none->Al2 Φ l r->Al2 Φ ((c,a)::l) r
section
variable{X:Cx}{G:Gx}{F:Fy}{E:L2.St->XK}
structure FnV(X:Cx)(G:Gx)(np:Nat)(a:Addr)(f:FM):Prop where
 ex: ∃k fd ps,ps.length=np/\FnOk X.prog X.w X.K X.mg X.base (CX1 X.prog X.w) k a fd ps (spX G np f)/\z2g k X.A/\W.keepIn X.K (.ref a)=true/\z37 X.K fd ps []
end
end Mi
namespace Mi
open PySem L2 PySem.Spec
open PyProof.Rows (envOfC)
end Mi
namespace Mi
open PySem L2 PySem.Spec
noncomputable def z51:D->Option Key
 | .int i=>some (.inl i)
 | .str x=>some (.inr x)
 |_=>none
noncomputable def z1y:List D->Option (List Key)
 |[]=>some []
 |d::ds=>match z51 d with
  |some k=>match z1y ds with
   |some ks=>some (k::ks)
   |none=>none
  |none=>none
noncomputable def zdf:D->Option (Key⊕List Key)
 | .tup ds=>match z1y ds with|some ks=>some (.inr ks)|none=>none
 |d=>match z51 d with|some k=>some (.inl k)|none=>none
noncomputable def z52:List D->Option NK
 |[]=>some []
 |d::ds=>match zdf d with
  |some k=>match z52 ds with
   |some ks=>some (k::ks)
   |none=>none
  |none=>none
noncomputable def z5u:D->Option NK
 | .tup ds=>z52 ds
 |_=>none
noncomputable def isT:List D->Bool
 | .non::_=>false
 |_=>true
section
variable{G:Gx}{ρ:Nat->Addr}{H:Hp}
theorem z6r{d:D}{v:V}{k:Key}(h:RD G ρ H d v)(e:z51 d=some k):v=kV k/\d=z4y k:=by
 cases d<;>erw[z51] at e<;>cases e<;>(erw[RD] at h;exact⟨h,rfl⟩)
theorem z53: ∀{ds:List D} {xs:List V} {ks:List Key},RDs G ρ H ds xs->z1y ds=some ks->xs=ks.map kV/\ds=ks.map z4y
 |[],xs,ks,h,e=>by erw[RDs] at h;erw[z1y] at e;cases e;exact⟨h,rfl⟩
 |d::ds,xs,ks,h,e=>by
  erw[RDs] at h
  obtain⟨x,r,rfl,h1,h2⟩:=h
  erw[z1y] at e
  cases e1:z51 d with
  |none=>rw[e1] at e;cases e
  |some k=>
   rw[e1] at e
   cases e2:z1y ds with
   |none=>erw[e2] at e;cases e
   |some ks'=>
    erw[e2] at e
    cases e
    obtain⟨a1,a2⟩:=z6r h1 e1
    obtain⟨b1,b2⟩:=z53 h2 e2
    rw[a1,b1,a2,b2]
    exact⟨rfl,rfl⟩
theorem zcs{d:D}{v:V}{k:Key⊕List Key}(h:RD G ρ H d v)(e:zdf d=some k):TKi H k v/\d=nkD k:=by
 have flat: ∀{d:D} {v:V},RD G ρ H d v->(match z51 d with|some k=>some (Sum.inl k:Key⊕List Key)|none=>none)=some k->TKi H k v/\d=nkD k:=by
  intro d v h e
  cases e1:z51 d with
  |none=>rw[e1] at e;cases e
  |some k'=>
   rw[e1] at e
   cases e
   obtain⟨a1,a2⟩:=z6r h e1
   exact⟨a1,a2⟩
 cases d with
 |tup ds=>
  erw[zdf] at e
  cases e1:z1y ds with
  |none=>rw[e1] at e;cases e
  |some ks=>
   rw[e1] at e
   cases e
   erw[RD] at h
   obtain⟨a,xs,e2,s,r⟩:=h
   obtain⟨b1,b2⟩:=z53 r e1
   exact⟨⟨a,e2,b1▸s⟩,by rw[b2];rfl⟩
 |_=>exact flat h e
theorem z6s: ∀{ds:List D} {xs:List V} {ks:NK},RDs G ρ H ds xs->z52 ds=some ks->Paired (TKi H) ks xs/\ds=ks.map nkD
 |[],xs,ks,h,e=>by erw[RDs] at h;erw[z52] at e;cases e;subst h;exact⟨.nil,rfl⟩
 |d::ds,xs,ks,h,e=>by
  erw[RDs] at h
  obtain⟨x,r,rfl,h1,h2⟩:=h
  erw[z52] at e
  cases e1:zdf d with
  |none=>rw[e1] at e;cases e
  |some k=>
   rw[e1] at e
   cases e2:z52 ds with
   |none=>erw[e2] at e;cases e
   |some ks'=>
    erw[e2] at e
    cases e
    obtain⟨a1,a2⟩:=zcs h1 e1
    obtain⟨b1,b2⟩:=z6s h2 e2
    rw[a2,b2]
    exact⟨.cons a1 b1,rfl⟩
theorem z8B{t:D}{v:V}{k:NK}(h:RD G ρ H t v)(e:z5u t=some k): ∃b,v= .ref b/\TK H k b/\t=dkD k:=by
 cases t<;>erw[z5u] at e<;>try cases e
 erw[RD] at h
 obtain⟨a,xs,e1,s,r⟩:=h
 obtain⟨b1,b2⟩:=z6s r e
 exact⟨a,e1,⟨xs,s,b1⟩,by rw[b2];rfl⟩
theorem z3C: ∀k:List Key,z1y (k.map z4y)=some k
 |[]=>rfl
 |k::ks=>by
  erw[i6,z1y]
  have:z51 (z4y k)=some k:=by cases k<;>rfl
  rw[this,z3C ks]
theorem zct(z:Key⊕List Key):zdf (nkD z)=some z:=by
 cases z with
 |inl k=>cases k<;>rfl
 |inr ks=>erw[nkD,zdf,z3C]
theorem z54: ∀k:NK,z52 (k.map nkD)=some k
 |[]=>rfl
 |k::ks=>by erw[i6,z52,zct,z54 ks]
theorem z42(k:NK):z5u (dkD k)=some k:=z54 k
theorem z5J{ρ:Nat->Addr}: ∀k:List Key,RDs G ρ H (k.map z4y) (k.map kV)
 |[]=>by erw[l9,RDs]
 | .inl i::k=>by erw[i6,RDs];exact⟨_,_,rfl,by erw[z4y,RD];rfl,z5J k⟩
 | .inr i::k=>by erw[i6,RDs];exact⟨_,_,rfl,by erw[z4y,RD];rfl,z5J k⟩
theorem z8C{ρ:Nat->Addr}: ∀{k:NK} {xs:List V},Paired (TKi H) k xs->RDs G ρ H (k.map nkD) xs
 |_,_, .nil=>by erw[l9,RDs]
 | .inl i::k,_, .cons a b=>by
  have e:=(show _=kV i from a)
  erw[i6,RDs]
  refine⟨_,_,rfl, ?_,z8C b⟩
  rw[e]
  cases i<;>(erw[nkD,z4y,RD];rfl)
 | .inr ks::k,_, .cons a b=>by
  obtain⟨c,e,hc⟩:=a
  erw[i6,RDs]
  refine⟨_,_,rfl, ?_,z8C b⟩
  erw[nkD,RD]
  exact⟨c,_,e,hc,z5J ks⟩
theorem zhd{ρ:Nat->Addr}{k:NK}{b:Addr}(h:TK H k b):RD G ρ H (dkD k) (.ref b):=by
 obtain⟨xs,h1,h2⟩:=h
 erw[dkD,RD]
 exact⟨b,xs,rfl,h1,z8C h2⟩
noncomputable def rdD:D->Option (List D×List D)
 | .dct _ ks vs=>if isT ks=true then some (ks,vs) else none
 | .fdc ks vs=>some (ks,vs)
 |_=>none
theorem RD.rdq{t:D}{ks vs:List D}{v:V}(h:RD G ρ H t v)(e:rdD t=some (ks,vs)): ∃a kvs,v= .ref a/\Rd H a (.dT kvs)/\ks=kvs.map (fun p:NK×V=>dkD p.1)/\RDs G ρ H vs (kvs.map (·.2))/\∀l∈labsL vs,l∈y9 t:=by
 cases t<;>erw[rdD] at e<;>try cases e
 ·rename_i l ks' vs'
  by_cases hT:isT ks'=true
  ·rw[if_pos hT] at e;cases e
   erw[RD] at h
   obtain⟨e,⟨kvs,s,s2,r⟩|⟨kvs,s,s2,r⟩⟩:=h
   ·rw[s2] at hT;cases hT
   ·exact⟨ρ l,kvs,e, .inl s,s2,r,fun j hj=>by erw[y9];exact e9 _ (c9 _ hj)⟩
  ·rw[if_neg hT] at e;cases e
 ·erw[RD] at h
  obtain⟨a,o,kvs,e,s,s2,r⟩:=h
  exact⟨a,kvs,e, .inr ⟨o,s⟩,s2,r,fun j hj=>by erw[y9];exact hj⟩
theorem RD.dctq{l:Nat}{ks vs:List D}{v:V}(h:RD G ρ H (.dct l ks vs) v)(hn:isT ks=true):v= .ref (ρ l)/\∃kvs:List (NK×V),H (ρ l)=some (.dT kvs)/\ks=kvs.map (fun p=>dkD p.1)/\RDs G ρ H vs (kvs.map (·.2)):=by
 erw[RD] at h
 obtain⟨e,⟨kvs,s,s2,r⟩|h⟩:=h
 ·rw[s2] at hn;cases hn
 ·exact⟨e,h⟩
noncomputable def z3e:List D->List D->NK->Option D
 |d::ks,v::vs,k=>if z5u d=some k then some v else z3e ks vs k
 |_,_,_=>none
theorem z3D{k:NK}: ∀(kvs:List (NK×V)) (vs:List D) (t:D),RDs G ρ H vs (kvs.map (·.2))->z3e (kvs.map fun p=>dkD p.1) vs k=some t->∃v,valV kvs k=some v/\RD G ρ H t v/\t∈vs
 |[],_,_,_,e=>by erw[l9,z3e] at e;cases e
 |p::kvs,[],_,_,e=>by erw[i6,z3e] at e;cases e
 |p::kvs,w::vs,t,h,e=>by
  erw[i6,RDs] at h
  obtain⟨x,r,e1,h1,h2⟩:=h
  cases e1
  erw[i6,z3e,z42,Option.some.injEq] at e
  by_cases hk:p.1=k
  ·rw[if_pos hk] at e;cases e
   exact⟨_,z2h hk,h1,l4 ..⟩
  ·rw[if_neg hk] at e
   obtain⟨v,a,b,c⟩:=z3D kvs vs t h2 e
   exact⟨v,by rw[z2i hk];exact a,b,e9 _ c⟩
noncomputable def z7d(ks:List D)(k:NK):List D:=if(ks.any fun d=>decide (z5u d=some k))=true then ks else ks++[dkD k]
noncomputable def z55(ks vs:List D)(k:NK)(v:D):List D:=if(ks.any fun d=>decide (z5u d=some k))=true then T7 (fun d w=>if z5u d=some k then v else w) ks vs else vs++[v]
theorem zeE{k:NK}(kvs:List (NK×V)):((kvs.map fun p=>dkD p.1).any fun d=>decide (z5u d=some k))=kvs.any fun kv=>decide (kv.1=k):=by
 rw[List.any_map]
 congr 1
 funext p
 erw[Function.comp,z42,Option.some.injEq]
theorem z5K{k:NK}{t:D}{v:V}(h:RD G ρ H t v): ∀(kvs:List (NK×V)) (vs:List D),RDs G ρ H vs (kvs.map (·.2))->
 RDs G ρ H (T7 (fun d w=>if z5u d=some k then t else w) (kvs.map fun p=>dkD p.1) vs) ((kvs.map (fun kv=>if kv.1=k then(kv.1,v) else kv)).map (·.2))
 |[],[],_=>by simp[RDs]
 |[],_::_,h=>by erw[l9,RDs] at h;obtain⟨_,_,e,_⟩:=h;cases e
 |p::kvs,[],h=>by erw[i6,RDs] at h;cases h
 |p::kvs,w::vs,h'=>by
  erw[i6,RDs] at h'
  obtain⟨x,r,e1,h1,h2⟩:=h'
  cases e1
  erw[i6,P8,RDs,z42,Option.some.injEq]
  by_cases hk:p.1=k
  ·rw[if_pos hk,if_pos hk];exact⟨_,_,rfl,h,z5K h kvs vs h2⟩
  ·rw[if_neg hk,if_neg hk];exact⟨_,_,rfl,h1,z5K h kvs vs h2⟩
theorem zeF{k:NK}{t:D}{v:V}{kvs:List (NK×V)}{vs:List D}(h:RD G ρ H t v)(r:RDs G ρ H vs (kvs.map (·.2))):
 z7d (kvs.map fun p=>dkD p.1) k=(z5t kvs k v).map (fun p=>dkD p.1)/\RDs G ρ H (z55 (kvs.map fun p=>dkD p.1) vs k t) ((z5t kvs k v).map (·.2)):=by
 unfold z7d z55 z5t
 rw[zeE]
 cases e:kvs.any fun kv=>decide (kv.1=k) with
 |true=>
  erw[if_true]
  refine⟨?_,z5K h kvs vs r⟩
  rw[L7]
  refine O0 fun p _=> ?_
  erw[Function.comp]
  split<;>rfl
 |false=>
  erw[C8,if_false,B8,i6,l9]
  exact⟨trivial,r.append (RDs.one h)⟩
end
section
variable{X:Cx}{G:Gx}{F:Fy}{a b e:Expr}{ma mb:M D}{pos:Pos}
noncomputable def z9y(o t:D):M D:=match rdD o with
 |some (ks,vs)=>match z5u t with
  |some k=>(match z3e ks vs k with|some d=>rt d|none=>fl)
  |none=>fl
 |none=>fl
theorem zeG:z7r G F (fun x y H Q=> ∃a v,x= .ref a/\zg7 H a y (some v)/\Q v H) z9y:=by
 intro ρ s t t' v u H σv tv Q M W
 obtain⟨h1,h2⟩:=M.rd2
 obtain⟨l1,l2⟩:=M.lb2
 unfold z9y at W
 cases er:rdD t with
 |none=>rw[er] at W;exact False.elim W
 |some p=>
  obtain⟨ks,vs⟩:=p
  rw[er] at W
  dsimp only at W
  cases ek:z5u t' with
  |none=>rw[ek] at W;exact False.elim W
  |some k=>
   rw[ek] at W
   dsimp only at W
   obtain⟨a,kvs,rfl,hx,rfl,r,sub⟩:=h1.rdq er
   obtain⟨b,rfl,hb,_⟩:=z8B h2 ek
   cases ef:z3e (kvs.map fun p=>dkD p.1) vs k with
   |none=>rw[ef] at W;exact False.elim W
   |some d=>
    rw[ef] at W
    obtain⟨w,hv,hd,hm⟩:=z3D kvs vs d r ef
    exact⟨a,w,rfl, .inr ⟨kvs,k,b,hx,rfl,hb,hv.symm⟩,fun _=>W.out M.m hd fun j hj=>l1 j (sub j (labsL_mem hm j hj))⟩
theorem se_dgt(hk:X.K=G.K)(hu:X.A.units+64<cLine)(ha:SE X G F a ma)(hb:SE X G F b mb)(hs:z0v b):SE X G F (.Subscript a b pos) (Z1 ma mb z9y):=
 PE.imp hk (zbX (show X.A.units+2<cLine by lia) ha hb hs) fun _ _ _ h=>z89 zeG h
noncomputable def z8D:M D:=fun s=> .ok (.dct s.n [] []) s.nxt
theorem se_dnew(hk:X.K=G.K):SE X G F (.Dict [] [] pos) z8D:=
 PE.imp hk z9Q fun σ H Q ⟨tv,hs,ρ,s,M,W⟩ p hp k=>by
  refine wM.out (ρ:=ext ρ s.n p) W (M.new hp k) ?_ fun l hl=> ?_
  ·erw[RD]
   rw[U4]
   exact⟨rfl, .inr ⟨[],Z8,rfl,by simp[RDs]⟩⟩
  ·erw[y9,labsL,l3,m9] at hl
   rw[hl]
   exact⟨B6 _,by rw[U4];exact .inr (M.fresh0 hp)⟩
noncomputable def z3f(o i v:D):MS:=fun s=>match o with
 | .dct l ks vs=>match z5u i with
  |some k=>if isT ks=true/\ks.length<sizeLine/\y9 v=[]/\labsL vs=[] then .nx (s.put l (.dct l (z7d ks k) (z55 ks vs k v))) else .no
  |none=> .no
 |_=> .no
theorem z8E(k:NK):y9 (dkD k)=[]:=by
 have h: ∀k:NK,labsL (k.map nkD)=[]:=fun k=>by
  induction k with
  |nil=>rfl
  |cons z k ih=>erw[i6,labsL,z5G,ih,l3]
 erw[dkD,y9,h]
theorem z6t: ∀kvs:List (NK×V),labsL (kvs.map fun p=>dkD p.1)=[]
 |[]=>rfl
 |p::kvs=>by
  have e:y9 (dkD p.1)=[]:=z8E p.1
  erw[i6,labsL,e,z6t kvs];rfl
theorem z2E: ∀{ds:List D},(∀d∈ds,y9 d=[])->labsL ds=[]
 |[],_=>rfl
 |d::ds,h=>by erw[labsL,h d (l4 ..),z2E fun x hx=>h x (e9 _ hx)];rfl
theorem z56{ds:List D}(h:labsL ds=[]): ∀d∈ds,y9 d=[]:=fun d hd=>by
 cases e:y9 d with
 |nil=>rfl
 |cons l r=>exact absurd (labsL_mem hd l (by rw[e];exact l4 ..)) (by rw[h];exact l6)
theorem z6u{ks vs:List D}{k:NK}{v:D}(hv:y9 v=[])(h:labsL vs=[]):labsL (z55 ks vs k v)=[]:=by
 have h':=z56 h
 unfold z55
 split
 ·refine z2E fun d hd=> ?_
  obtain⟨i,hi,e⟩:=R4 hd
  rw[List.getElem_zipWith] at e
  subst e
  split
  ·exact hv
  ·exact h' _ (A2 _)
 ·refine z2E fun d hd=> ?_
  rcases i3.mp hd with q|q
  ·exact h' d q
  ·rw[m9.mp q];exact hv
theorem zcu{ρ:Nat->Addr}{s:Stt}{t1 t2 t3:D}{v o i:V}{H:Hp}{σv tv:List (Option V)}{Dd:z5x}(M:MRL G F.toFx ρ H σv tv s [t1,t2,t3] [v,o,i])(W:wS G F tv (z3f t2 t3 t1 s) Dd): ∃a H4,o= .ref a/\zd9 H a i v H4/\Dd.nx σv H4:=by
 have h:=M.rd
 erw[RDs] at h
 obtain⟨_,_,e,h1,_,_,e2,h2,_,_,e3,h3,_⟩:=h
 cases e;cases e2;cases e3
 have b2:LB F.toFx ρ s.n (y9 t2):=fun l h=>M.lb l (by erw[labsL];exact c9 _ (i5 _ h))
 unfold z3f at W
 cases t2 with
 |dct l ks vs=>
  dsimp only at W
  cases ek:z5u t3 with
  |none=>rw[ek] at W;exact False.elim W
  |some k=>
   rw[ek] at W
   dsimp only at W
   by_cases hc:isT ks=true/\ks.length<sizeLine/\y9 t1=[]/\labsL vs=[]
   ·rw[if_pos hc] at W
    obtain⟨hT,hz,hv,hvs⟩:=hc
    obtain⟨rfl,kvs,hx,rfl,r⟩:=h2.dctq hT
    obtain⟨b,rfl,hb,_⟩:=z8B h3 ek
    have bl:=b2 l (by erw[y9];exact l4 ..)
    have st:V5 H (upd H (ρ l) (.dT (z5t kvs k v))):=
     ⟨fun b ys q=>by rw[Z6 (z36 q hx (by intro z;cases z))];exact q,fun b o u q=>by rw[Z6 (z36 q hx (by intro z;cases z))];exact q⟩
    have pr:=zeF (k:=k) h1 r
    refine⟨ρ l,_,rfl,zd9.t hx hb (by simpa using hz),W ρ σv _ (M.m.put2 bl.1 bl.2 st (z8q M.m.kd hx) ?_ fun j hj=> ?_)⟩
    ·erw[RD]
     refine⟨trivial, .inr ⟨z5t kvs k v,Z8,pr.1, ?_⟩⟩
     exact RDs.stay st _ _ pr.2 fun j hj=>by rw[z6u hv hvs] at hj;cases hj
    ·erw[y9,pr.1,z6t,z6u hv hvs,l3,m9] at hj
     rw[hj];exact bl
   ·rw[if_neg hc] at W;exact False.elim W
 |_=>exact False.elim W
theorem ss_dput{ob ix:Expr}{pos tpos:Pos}{mo mi me:M D}(hu:X.A.units+64<cLine)(he:SE X G F e me)(ho:SE X G F ob mo)(hi:SE X G F ix mi)(hs:swapsWith e (some (.Subscript ob ix tpos)) pos.line X.env=pure false:=by rfl):
 SS X G F (.Assign [.Subscript ob ix tpos] e pos) (mTri me mo mi z3f):=by
 refine PS.imp0 (zbY (show X.A.units+2<cLine by lia) ho hi he hs) fun Dd σ H ⟨tv,h⟩=> ?_
 exact(z8r h).mono fun v H1 h1=>h1.mono fun o H2 h2=>h2.mono fun i H3 ⟨ρ,s,t1,t2,t3,M,W⟩=>zcu M W
end
noncomputable def zeH(i:Nat):List (Option D)->Option (Option D)
 |some (.fdc ks _)::_=>some ks[i]?
 |_=>none
noncomputable def zeI:List (Option D)->Nat
 |some (.fdc ks _)::_=>ks.length
 |_=>0
noncomputable def zaf:ItK:=⟨1,zeH,zeI⟩
noncomputable def z2F(m:M D):M ItK:=bd m fun d s=>match d with
 | .dct l ks vs=>if isT ks=true/\labsL vs=[] then .ok zaf ((s.put l (.fdc ks vs)).psh (.fdc ks vs)) else .no
 |_=> .no
noncomputable def Fy.frz(F:Fy)(a:Addr)(o:HO)(ha:F.A0 a\/F.H0 a=none)(hz: ¬F.Z a):Fy where
 A0:=fun x=>F.A0 x/\x≠a
 H0:=upd F.H0 a o
 Z:=F.Z
 zA:=fun x z=>by
  have hn:x≠a:=fun e=>hz (e▸z)
  obtain⟨⟨o',e⟩,n⟩:=F.zA x z
  exact⟨⟨o',by rw[Z6 hn];exact e⟩,fun q=>n q.1⟩
 aH:=fun x q=>by
  obtain⟨o',e⟩:=F.aH x q.1
  exact⟨o',by rw[Z6 q.2];exact e⟩
 n0:=F.n0
 ρ0:=F.ρ0
 tv0:=F.tv0
 xw:=F.xw
section
variable{G:Gx}{F:Fy}{ρ:Nat->Addr}{H:Hp}{σv tv:List (Option V)}{s:Stt}{a:Addr}{o:HO}{ha:F.A0 a\/F.H0 a=none}{hz: ¬F.Z a}
theorem z6v: ∀{os:List (Option D)} {vs:List (Option V)},Sl G ρ H os vs->∀l∈Y0 os,∃o,H (ρ l)=some o/\(∀xs,o≠ .tup xs)/\∀u w,o≠ .frz u w
 |[],_,_,l,hl=>by erw[Y0] at hl;cases hl
 |none::os,_,h,l,hl=>by
  erw[Sl,Y0] at h hl
  obtain⟨_,_,_,h⟩:=h
  exact z6v h l hl
 |some d::os,_,h,l,hl=>by
  erw[Sl,Y0] at h hl
  obtain⟨v,_,_,h1,h2⟩:=h
  rcases i3.mp hl with q|q
  ·exact z8m d v h1 l q
  ·exact z6v h2 l q
theorem MR.frzIn(M:MR G F.toFx ρ H σv tv s)(h:H a=some o)(hm: ∃u w,o= .frz u w):MR G (F.frz a o ha hz).toFx ρ H σv tv s:=by
 have ne: ∀l∈G5 s,ρ l≠a:=fun l hl e=>by
  obtain⟨u,w,rfl⟩:=hm
  have: ∃o,H (ρ l)=some o/\(∀xs,o≠ .tup xs)/\∀u w,o≠ .frz u w:=by
   rcases i3.mp hl with q|q
   ·exact z6v M.sl l q
   ·exact z6v M.tm l q
  obtain⟨o',e1,_,e3⟩:=this
  rw[e,h] at e1
  cases e1
  exact e3 _ _ rfl
 refine⟨M.sl,M.tm,M.inj,M.dom,M.lab,fun l hl=> ?_,fun x o' e=> ?_,M.kd,M.frb,M.bas⟩
 ·rcases M.own l hl with q|q
  ·exact .inl ⟨q,ne l hl⟩
  ·exact .inr (by show upd F.H0 a o (ρ l)=none;rw[Z6 (ne l hl)];exact q)
 ·have e:upd F.H0 a o x=some o':=e
  by_cases hx:x=a
  ·subst hx
   rw[Z8] at e
   cases e
   exact⟨⟨o,h⟩,fun _=>h⟩
  ·rw[Z6 hx] at e
   obtain⟨q1,q2⟩:=M.frm x o' e
   exact⟨q1,fun n=>q2 fun z=>n ⟨z,hx⟩⟩
theorem MR.frzOut(M:MR G (F.frz a o ha hz).toFx ρ H σv tv s):MR G F.toFx ρ H σv tv s:=by
 refine⟨M.sl,M.tm,M.inj,M.dom,M.lab,fun l hl=> ?_,fun x o' e=> ?_,M.kd,M.frb,M.bas⟩
 ·rcases M.own l hl with q|q
  ·exact .inl q.1
  ·have q:upd F.H0 a o (ρ l)=none:=q
   by_cases hx:ρ l=a
   ·rw[hx,Z8] at q;cases q
   ·rw[Z6 hx] at q;exact .inr q
 ·by_cases hx:x=a
  ·subst hx
   have q:=(M.frm x o Z8).1
   refine⟨q,fun n=> ?_⟩
   rcases ha with z|z
   ·exact absurd z n
   ·rw[z] at e;cases e
  ·obtain⟨q1,q2⟩:=M.frm x o' (by show upd F.H0 a o x=some o';rw[Z6 hx];exact e)
   exact⟨q1,fun n=>q2 fun z=>n z.1⟩
theorem MRL.frzOut{ts:List D}{vs:List V}(M:MRL G (F.frz a o ha hz).toFx ρ H σv tv s ts vs):MRL G F.toFx ρ H σv tv s ts vs:=by
 refine⟨M.m.frzOut,M.rd,fun l hl=> ?_⟩
 obtain⟨q1,q⟩:=M.lb l hl
 refine⟨q1, ?_⟩
 rcases q with q|q
 ·exact .inl q.1
 ·have q:upd F.H0 a o (ρ l)=none:=q
  by_cases hx:ρ l=a
  ·rw[hx,Z8] at q;cases q
  ·rw[Z6 hx] at q;exact .inr q
theorem MR.frzAt'{A1:Addr}{ys:List V}{hf:(F.frz a o ha hz).H0 A1=none}(M:MR G ((F.frz a o ha hz).prot A1 ys hf).toFx ρ H σv tv s):H a=some o:=by
 have hne:a≠A1:=fun e=>by
  have:upd F.H0 a o A1=none:=hf
  rw[e,Z8] at this;cases this
 exact(M.frm a o (by show upd (upd F.H0 a o) A1 (.lst ys) a=some o;rw[Z6 hne,Z8])).2 fun z=>z.2 rfl
theorem zeJ{u:Obj}{kvs:List (NK×V)}{tvp:List (Option V)}{F':Fx}(M:MR G F' ρ H σv (tvp++([some (.ref a)]++tv)) s)(h:H a=some (.frz u (.dT kvs)))(i:Nat):match zaf.at' i (s.tm.drop tvp.length) with
 |none=>True
 |some none=>(ItD a u kvs).stop i H
 |some (some d)=>(ItD a u kvs).go i H/\∀x H',(ItD a u kvs).yld i H x H'->MRL G F' ρ H' σv (tvp++([some (.ref a)]++tv)) s [d] [x]:=by
 dsimp only[zaf]
 cases e:s.tm.drop tvp.length with
 |nil=>trivial
 |cons c0 r=>
  cases c0 with
  |none=>trivial
  |some c=>
   obtain⟨hc,lb⟩:=MR.head (s:=s.popn tvp.length) M.popn e
   cases c with
   |fdc ks vs=>
    erw[zeH]
    erw[RD] at hc
    obtain⟨a',u',kvs',ea,hx,hk,_⟩:=hc
    cases ea
    rw[h] at hx
    cases hx
    subst hk
    cases e2:(kvs.map fun p=>dkD p.1)[i]? with
    |none=>
     refine⟨?_,h⟩
     have:=List.getElem?_eq_none_iff.mp e2
     simpa using this
    |some d=>
     rw[List.getElem?_map] at e2
     cases e3:kvs[i]? with
     |none=>rw[e3] at e2;cases e2
     |some p=>
      rw[e3] at e2
      cases e2
      refine⟨⟨(List.getElem?_eq_some_iff.mp e3).1,h⟩, ?_⟩
      rintro x H' ⟨rfl,b,k,v,rfl,hk,hb⟩
      rw[hk] at e3
      cases e3
      refine⟨M,RDs.one ?_,fun l hl=> ?_⟩
      ·exact zhd hb
      ·have e:labsL [dkD k]=[]:=by erw[labsL,l3];exact z8E k
       rw[e] at hl;cases hl
   |_=>trivial
end
section
variable{X:Cx}{G:Gx}{F:Fy}{tg iter elt:Expr}{pos:Pos}
theorem z8F{K:W.Frag}{k:Nat}{ix:List Nat}{m0:M D}{g:Tg}{mt:M Bool}{me:M D}{σ:St}{H:Hp}{Q:VK}(hk:K=G.K)(h:tM G F (W3 (z2F m0) g mt me k ix) σ H Q):z4U K (ze8 (tM G F m0)) (tGx G g) (tBx G mt) (tMx G me) k ix σ H Q:=by
 obtain⟨tv,hsf,ρ,s,M,W⟩:=h
 refine⟨tv,hsf,ρ,s,M, ?_⟩
 unfold W3 z2F bd at W
 cases em:m0 s with
 |ex d s1=>rw[em] at W;exact W
 |no=>rw[em] at W;exact W
 |ok t s0=>
  rw[em] at W
  dsimp only at W
  intro ρ1 v H1 M0
  cases t with
  |dct l ks vs=>
   dsimp only at W
   by_cases hc:isT ks=true/\labsL vs=[]
   ·rw[if_pos hc] at W
    dsimp only at W
    obtain⟨hT,hvs⟩:=hc
    have rd0:=M0.rd1
    obtain⟨rfl,kvs,hx,hks,r⟩:=rd0.dctq hT
    have bl:=M0.lb1 l (by erw[y9];exact l4 ..)
    refine⟨ρ1 l,kvs,rfl,hx,fun u A1 hA1 kd=> ?_⟩
    have st:V5 H1 (upd H1 (ρ1 l) (.frz u (.dT kvs))):=
     ⟨fun b ys q=>by rw[Z6 (z36 q hx (by intro z;cases z))];exact q,fun b o w q=>by rw[Z6 (z36 q hx (by intro z;cases z))];exact q⟩
    have rdF:RD G ρ1 (upd H1 (ρ1 l) (.frz u (.dT kvs))) (.fdc ks vs) (.ref (ρ1 l)):=by
     erw[RD]
     exact⟨ρ1 l,u,kvs,rfl,Z8,hks,RDs.stay st _ _ r fun j hj=>by rw[hvs] at hj;cases hj⟩
    have lbF: ∀j∈y9 (.fdc ks vs),j<s0.n/\(F.A0 (ρ1 j)\/F.H0 (ρ1 j)=none):=fun j hj=>by erw[y9,hvs] at hj;cases hj
    have M2:MR G F.toFx ρ1 (upd H1 (ρ1 l) (.frz u (.dT kvs))) σ tv (s0.put l (.fdc ks vs)):=M0.m.put2 bl.1 bl.2 st (z8q M0.m.kd hx) rdF lbF
    have M3:MR G F.toFx ρ1 (upd H1 (ρ1 l) (.frz u (.dT kvs))) σ (some (.ref (ρ1 l))::tv) ((s0.put l (.fdc ks vs)).psh (.fdc ks vs)):=
     MRL.push ⟨M2,RDs.one rdF,fun j hj=>by erw[labsL,l3] at hj;exact lbF j hj⟩
    have M1:MR G (F.frz (ρ1 l) (.frz u (.dT kvs)) bl.2 (M0.m.frb l bl.1)).toFx ρ1 (upd H1 (ρ1 l) (.frz u (.dT kvs))) σ ([some (.ref (ρ1 l))]++tv) ((s0.put l (.fdc ks vs)).psh (.fdc ks vs)):=M3.frzIn Z8 ⟨_,_,rfl⟩
    generalize hs1:(s0.put l (.fdc ks vs)).psh (.fdc ks vs)=s1 at M1 W
    generalize hF1:F.frz (ρ1 l) (.frz u (.dT kvs)) bl.2 (M0.m.frb l bl.1)=F1 at M1
    have out: ∀{ρ H s ts vs},MRL G F1.toFx ρ H σ tv s ts vs->MRL G F.toFx ρ H σ tv s ts vs:=by subst hF1;exact fun h=>h.frzOut
    subst hk
    have kd:KD G.K (upd (upd H1 (ρ1 l) (.frz u (.dT kvs))) A1 (.lst [])):=kd
    have hf:=M1.fresh0 hA1
    refine⟨fun i m ys σ' H'=> ∃ρ s,MR G (F1.prot A1 ys hf).toFx ρ H' σ' ((ys.reverse.map some)++(σ++([some (.ref (ρ1 l))]++tv))) s/\wM G F σ tv (j0 zaf g mt me s1.σ.length m i ys.length s) Q,⟨_,ρ1,_,M1.enter hA1 kd k ix,W⟩, ?_⟩
    rintro i m ys σ' H' ⟨ρ2,s2,M2',W2⟩
    have hD:=(MR.turnD (ys':=ys) M2').1
    refine⟨hD, ?_⟩
    have ol:s1.σ.length=σ.length:=M1.sl.length
    have hfz:H' (ρ1 l)=some (.frz u (.dT kvs)):=by subst hF1;exact MR.frzAt' M2'
    have ok:=zeJ (tvp:=(ys.reverse.map some)++σ) (a:=ρ1 l) (tv:=tv) (by rw[r6];exact M2') hfz i
    erw[m7,A3,O2,<-ol,r6] at ok
    unfold j0 at W2
    cases e:zaf.at' i (s2.tm.drop (ys.length+s1.σ.length)) with
    |none=>erw[e] at W2;exact False.elim W2
    |some o=>
     rw[e] at ok
     cases o with
     |none=>
      erw[e] at W2 ok
      refine .inl ⟨ok, ?_⟩
      cases ea:Y5 (s2.tm.take ys.length).reverse with
      |none=>erw[ea] at W2;exact False.elim W2
      |some ds=>
       erw[ea] at W2
       exact W2 _ _ _ (out (MR.leave M2' (kk:=zaf.k) rfl _ ol.symm ea))
     |some d=>
      erw[e] at W2 ok
      cases m with
      |zero=>exact False.elim W2
      |succ f=>
       dsimp only at W2
       cases e2:asg g d s2.σ with
       |none=>erw[e2] at W2;exact False.elim W2
       |some σ3=>
        erw[e2] at W2
        refine .inr ⟨ok.1,fun x H2 y=> ?_⟩
        have hx:=ok.2 x H2 y
        refine⟨F1.prot A1 ys hf,_,ρ2,s2,d,hx,σ3,e2,fun σv' M3=>⟨F1.prot A1 ys hf,_,N9,ρ2,_,M3, ?_⟩⟩
        cases e3:mt {s2 with σ:=σ3} with
        |ex d s4=>erw[e3] at W2;exact False.elim W2
        |no=>erw[e3] at W2;exact False.elim W2
        |ok b s4=>
         intro ρ4 H4 M4
         cases b with
         |false=>
          erw[e3] at W2
          rw[if_neg A6]
          exact⟨f,B6 _,ρ4,s4,M4,W2⟩
         |true=>
          erw[e3] at W2
          rw[if_pos rfl]
          by_cases hz:ys.length<sizeLine
          ·rw[if_pos hz] at W2
           refine⟨F1.prot A1 ys hf,_,N9,ρ4,s4,M4, ?_⟩
           cases e5:me s4 with
           |ex d s5=>erw[e5] at W2;exact False.elim W2
           |no=>erw[e5] at W2;exact False.elim W2
           |ok y s5=>
            erw[e5] at W2
            intro ρ5 v H5 M5
            obtain⟨hD5,M6⟩:=MR.turnD (ys':=ys++[v]) M5.push
            refine⟨hD5,hz,f,B6 _,ρ5,s5.psh y, ?_, ?_⟩
            ·rw[B9,A9,B2,m8,B8]
             exact M6
            ·rw[m7];exact W2
          ·rw[if_neg hz] at W2;exact False.elim W2
   ·rw[if_neg hc] at W;exact False.elim W
  |_=>exact False.elim W
theorem se_compD{scope:Scope}{own frees:List Str}{ix:List Nat}{ifs:List Expr}{m0:M D}{g:Tg}{mt:M Bool}{me:M D}(hk:X.K=G.K)(hc:X.calm=true)(S:G1 X.env.scope scope own frees X.N ix)(hi:SE X G F iter m0)
 (hg: ∀(F:Fy) cl C s₀ H₀ fp pn,SG (compCx X scope own frees cl C s₀ H₀ fp pn) G F tg g) (ht: ∀(F:Fy) cl C s₀ H₀ fp pn,STs (compCx X scope own frees cl C s₀ H₀ fp pn) G F ifs mt) (he: ∀(F:Fy) cl C s₀ H₀ fp pn,SE (compCx X scope own frees cl C s₀ H₀ fp pn) G F elt me)
 (hs: ∀x,foldedSetIterable iter X.env x=pure x:=by intro _;rfl):SE X G F (.ListComp elt [⟨tg,iter,ifs,0⟩] scope pos) (W3 (z2F m0) g mt me own.length ix):=
 PE.imp0 (z4V (g:=tGx G g) (tt:=tBx G mt) (te:=tMx G me) hc S (zc4 hi) (fun cl C s₀ H₀ fp pn pins s σ H v u Q I r ⟨F',q⟩=>hg F' cl C s₀ H₀ fp pn pins s σ H v u Q I r q)
  (fun cl C s₀ H₀ fp pn pins s σ H Q I ⟨F',q⟩=>ht F' cl C s₀ H₀ fp pn pins s σ H Q I q) (fun cl C s₀ H₀ fp pn pins s σ H Q I ⟨F',q⟩=>he F' cl C s₀ H₀ fp pn pins s σ H Q I q) hs) fun σ H Q h=>z8F hk h
end
end Mi
namespace Mi
open PySem L2
end Mi
namespace PySem
end PySem
namespace L2
open PySem PySem.Spec PyProof.Rows
end L2
namespace Mi
open PySem L2 PySem.Spec
section
variable{X:Cx}{G:Gx}{F:Fy}{a b e:Expr}{ma mb:M D}{pos:Pos}
theorem ss_setN{i:Nat}{x:Str}{p:Pos}{m:M D}(hN:X.N.Nodup)(hi:X.N[i]? =some x)(hx:Loc X.env.scope x)(hf:X.fn x=true\/X.env.scope.names.lookup x=some .local)(he:SE X G F e m)(hs:swapsWith e (some (.Name x p)) pos.line X.env=pure false:=by rfl):SS X G F (.Assign [.Name x p] e pos) (Q8 (.nm i) m):=
 ss_set (fun{te} h=>z2m hN hi hx h hs hf) he
end
structure Dm(K:W.Frag)(C:Addr)(x qual:Str)(st:Stmt)(ps:List Str) where
 f:Addr
 d:FuncData
 F:Fun K x qual st f d
 b:z37 K d ps []
 h:ziE K C x f
end Mi
namespace Mi
open PySem L2 PySem.Spec PyProof.Rows
end Mi
namespace Mi
open PySem L2 PySem.Spec PySem.SeqAt PySem.Calls PyProof.Rows
end Mi
namespace Mi
open PySem L2 PySem.Spec PyProof.Rows
section
variable{X:Cx}{G:Gx}{F:Fy}
theorem RDs.at'{ρ:Nat->Addr}{H:Hp}: ∀{ds:List D} {xs:List V} {i:Nat} {d:D},RDs G ρ H ds xs->ds[i]? =some d->∃x,xs[i]? =some x/\RD G ρ H d x
 |[],xs,i,d,h,e=>by simp at e
 |d::ds,xs,0,d',h,e=>by erw[RDs] at h;obtain⟨x,q,rfl,h1,_⟩:=h;simp at e;subst e;exact⟨x,rfl,h1⟩
 |d::ds,xs,i+1,d',h,e=>by
  erw[RDs] at h
  obtain⟨x,q,rfl,h1,h2⟩:=h
  erw[List.getElem?_cons_succ] at e⊢
  exact RDs.at' h2 e
end
end Mi
namespace L2
open PySem PySem.Spec PyProof.Rows
end L2
namespace Mi
open PySem L2
end Mi
namespace Mi
open PySem L2 PySem.Spec PyProof.Rows PySem F P
end Mi
namespace L2
open PySem PySem.Spec PyProof.Rows
section
variable{X:Cx}
noncomputable def zcv(ds:List PyData)(i j:Nat):Bool:=(So.ltD (ds.getD i .none) (ds.getD j .none)).getD false
noncomputable def z8G(ds:List PyData):Bool:=ds.all (fun d=>So.hdI d&&d.canLay0&&decide (d.depth<=60))&&ds.all fun d=>ds.all fun e=>(So.ltD d e).isSome
theorem z8H{h:Heap}: ∀{its:List Value} {ds:List PyData} {as:List Addr},ReadsAll h its ds as->(∀d∈ds,So.hdI d=true)->∃fs:List Value,W.KatTups h its fs/\fs.length=ds.length/\∀f∈fs,∃i t,f=Value.int i t
 |[],_,_, .nil,_=>⟨[], .nil,rfl,by simp⟩
 |v::its,d::ds,_, .cons r rs,hd=>by
  obtain⟨fs,t,hl,hf⟩:=z8H rs fun d hd'=>hd d (e9 _ hd')
  obtain⟨i,xs,rfl⟩:=So.hd_int (hd _ l4)
  cases r with
  | @tuple l o vs n _ as₁ h1 h2 h3 h4=>
   generalize hv:vs.toList=us at h4
   cases h4 with
   |cons r1 r2=>
    cases r1 with
    |int _ tk=>
     refine⟨Value.int i tk::fs, .cons h1 h2 h3 ?_ t,by simp[hl],fun f hf'=> ?_⟩
     ·rw[<-Array.getElem?_toList,hv];rfl
     ·rcases i0.mp hf' with rfl|hf'
      ·exact⟨_,_,rfl⟩
      ·exact hf f hf'
theorem z0C{h:Heap}: ∀{its:List Value} {ds:List PyData} {as:List Addr},ReadsAll h its ds as->∀i (hi:i<its.length),∃bs,Reads h its[i] (ds.getD i .none) bs/\ds.getD i .none∈ds
 |v::its,d::ds,_, .cons r rs,0,_=>⟨_,r,by simp⟩
 |v::its,d::ds,_, .cons r rs,i+1,hi=>by
  obtain⟨bs,h1,h2⟩:=z0C rs i (by simpa using hi)
  exact⟨bs,by simpa using h1,by simpa using Or.inr h2⟩
noncomputable def zeK(K:W.Frag):List V->Hp->VK->Prop:=fun xs H Q=> ∃p ys ds,xs=[.ref p]/\SqL K H p ys/\DpAll K H ds ys/\z8G ds=true/\∀l,H l=none->Q (.ref l) (upd H l (.lst ((So.perm ys.length (zcv ds)).map fun i=>ys.getD i .non)))
theorem z57{ys:List V}{its:List Value}(h:J0 ys its): ∀(q:List Nat),(∀i∈q,i<its.length)->J0 (q.map fun i=>ys.getD i .non) (q.map fun i=>its.getD i Value.none)
 |[],_=> .nil
 |i::q,hq=>by
  refine .cons ?_ (z57 h q fun j hj=>hq j (e9 _ hj))
  have hi:=hq i l4
  clear hq
  induction h generalizing i with
  |nil=>simp at hi
  |cons r t ih=>
   cases i with
   |zero=>simpa using r
   |succ i=>simpa using ih i (by simpa using hi)
theorem zag(hu:X.A.units+64<cLine):CallR X (.builtin "sorted") (zeK X.K):=by
 intro pins s σ H xs us Q I r h
 obtain⟨p,ys,ds,rfl,hs,hd,ok,q⟩:=h
 obtain⟨u,rfl,ru⟩:=z3O r
 cases ru
 obtain⟨its,rv,pl,hz⟩:=I.list hs
 have hl:its.length=ys.length:=(Paired.length rv).symm
 unfold z8G at ok
 erw[l0,D4,decide_eq_true_eq] at ok
 obtain⟨ok1,ok2⟩:=ok
 refine So.call_sorted (cmp:=zcv ds) pl.isList (by lia) (fun h' kp h2=> ?_) fun h' D e1 kp hD hget=> ?_
 ·have I':Inv X pins σ H {s with heap:=h'}:=I.kept (t':=s.toks) kp
  obtain⟨as,ra⟩:=DpAll.reads I' ds ys its hd rv
  refine⟨tuples' true,fun Q E hq=> ?_,fun i j hi hj C hC=> ?_⟩
  ·obtain⟨fs,t,hfl,hf⟩:=z8H ra fun d hd'=>(ok1 d hd').1.1
   have hdl:=SeqAt.ReadsAll.length _ _ _ ra
   refine W.kat_kind (T:= .type "int") t (by lia) (fun v hv=> ?_) rfl hq
   obtain⟨i,tk,rfl⟩:=hf v hv
   exact W.Looks.of_pure rfl
  ·obtain⟨bs,r1,m1⟩:=z0C ra i hi
   obtain⟨cs,r2,m2⟩:=z0C ra j hj
   obtain⟨b,hb⟩:=O8.mp (ok2 _ m1 _ m2)
   have o1:=ok1 _ m1
   have o2:=ok1 _ m2
   refine So.key_lt r1 r2 o1.1.2 o2.1.2 o1.1.1 o2.1.1 ?_ hb ?_
   ·show X.A.units+1+1+_<_
    have:=Nat.min_le_left (ds.getD i .none).depth (ds.getD j .none).depth
    lia
   ·have:zcv ds i j=b:=by unfold zcv;rw[hb];rfl
    rw[<-this];exact hC
 ·refine⟨.ref D,_,I.laid (t':=s.toks) (o:= .lst ((So.perm ys.length (zcv ds)).map fun i=>ys.getD i .non)) kp hD ⟨by rw[A3,So.perm_len];exact hz,_,e1,z57 rv _ fun i hi=> ?_, ?_⟩,rfl,q _ (I.hok.fresh hD)⟩
  ·rw[hl];exact So.perm_lt i hi
  ·rw[hl] at hget;exact hget
end
end L2
namespace Mi
open PySem L2 PySem.Spec PyProof.Rows
section
variable{X:Cx}{G:Gx}{F:Fy}
noncomputable def zgb(ds:List D):List D:=(So.perm ds.length (zcv (erL ds))).map fun i=>ds.getD i .non
noncomputable def zah:List D->M D
 |[.lst l ds]=>fun s=>if(plainL ds&&z8G (erL ds)&&(labsL ds).isEmpty)=true then .ok (.lst s.n (zgb ds)) s.nxt else .no
 |_=>fl
theorem RDs.len2{ρ:Nat->Addr}{H:Hp}: ∀{ds:List D} {xs:List V},RDs G ρ H ds xs->ds.length=xs.length
 |[],xs,h=>by erw[RDs] at h;subst h;rfl
 |d::ds,xs,h=>by erw[RDs] at h;obtain⟨x,q,rfl,_,h2⟩:=h;rw[l8,l8,RDs.len2 h2]
theorem RDs.perm{ρ:Nat->Addr}{H:Hp}{ds:List D}{xs:List V}(h:RDs G ρ H ds xs): ∀q:List Nat,(∀i∈q,i<ds.length)->RDs G ρ H (q.map fun i=>ds.getD i .non) (q.map fun i=>xs.getD i .non)
 |[],_=>by erw[l9,RDs]
 |i::q,hq=>by
  erw[i6,RDs]
  refine⟨_,_,rfl, ?_,RDs.perm h q fun j hj=>hq j (e9 _ hj)⟩
  have hi:=hq i l4
  obtain⟨x,ex,rx⟩:=RDs.at' (i:=i) (d:=ds.getD i .non) h (by simp[hi])
  rw[show xs.getD i .non=x by rw[List.getD_eq_getElem?_getD,ex];rfl]
  exact rx
theorem z58{ds:List D}(h:labsL ds=[]): ∀q:List Nat,labsL (q.map fun i=>ds.getD i .non)=[]
 |[]=>by erw[l9,labsL]
 |i::q=>by
  erw[i6,labsL]
  rw[z58 h q,l3]
  have gen: ∀(ds:List D) (i:Nat),labsL ds=[]->y9 (ds.getD i .non)=[]:=by
   intro ds
   induction ds with
   |nil=>intro i _;simp[y9]
   |cons d ds ih=>
    intro i h
    erw[labsL,List.append_eq_nil_iff] at h
    cases i with
    |zero=>simpa using h.1
    |succ i=>simpa using ih i h.2
  exact gen ds i h
theorem zeL:X8 G F (zeK G.K) zah:=by
 intro ρ s ts vs H σv tv Q M W
 unfold zah at W
 split at W
 ·rename_i l ds
  split at W
  ·rename_i hc
   erw[l0,List.isEmpty_iff] at hc
   obtain⟨⟨c1,c2⟩,c3⟩:=hc
   obtain⟨v,rfl,h,_⟩:=M.one
   obtain⟨p,xs,rfl,s1,r1,_⟩:=id (h.lstq (ds:=ds) rfl)
   refine⟨p,xs,erL ds,rfl,s1,RDs.dp _ _ r1 c1,c2,fun l hl k=> ?_⟩
   have e:=RDs.len2 r1
   rw[<-e] at k⊢
   exact z1f W M.m (RDs.perm r1 _ So.perm_lt) (fun j hj=>by unfold zgb at hj;rw[z58 c3] at hj;cases hj) hl k
  ·exact False.elim W
 ·exact wfl W
theorem zbb(hk:X.K=G.K)(hu:X.A.units+64<cLine):Cb X G F (.builtin "sorted") zah:=⟨_,hk▸zag hu,zeL⟩
end
end Mi
namespace L2
open PySem PySem.Spec PyProof.Rows
theorem z7e{prog:Program}{w:World}{A:Around}(hh:A.handled=none)(I ax:Addr)(hne:ax≠I)(items:Array Value):
 WalksS prog w A I [I,ax] [I] (fun a b=>a=b) items.size (fun i v=>items[i]? =some v) (fun i s=>s.heap.IsListIter I ax i/\s.heap.IsList ax items) where
 sub:=fun b hb=>by simp at hb;simp[hb]
 grefl:=fun _=>rfl
 gtrans:=fun _ _ _ p q=>p.trans q
 frame:=fun _ _ _ _ st _ hk=>⟨st.1.at fun o e=>hk I (by simp) o e,st.2.at fun o e=>hk ax (by simp) o e⟩
 item:=fun i s Q E hi st hQ=>wpAny_pyNext_list_item st.1 st.2 (x:=items[i]) (by simp[hi]) fun h' hit' hs'=>
  hQ _ _ (by simp[hi]) ⟨hit',st.2.extBut hs'.extBut hne⟩ ⟨fun b o hb e=>hs'.extBut b o (fun h=>hb (by simp[h])) e,rfl,rfl,rfl,i4 _⟩
 done:=fun s Q E st hQ=>wpAny_pyNext_list_end hh st.1 st.2 (by simp) fun h' he'=>hQ _ ⟨fun b o hb e=>he' b o (fun h=>hb (by simp[h])) e,rfl,rfl,rfl,i4 _⟩
 self:=fun _ _ _ _ st hQ=>wpAny_pyIter_listiter st.1 hQ
theorem z3E(ns:List Int): ∀k,k<=ns.length->preSum (fun i=>(ns[i]?).getD 0) k=(ns.take k).sum
 |0,_=>by simp[preSum]
 |k+1,h=>by
  rw[preSum,z3E ns k (by lia),L8,List.sum_append]
  simp[show k<ns.length by lia]
section
variable{X:Cx}
theorem z8I(hc:X.A.handled=none):CallR X (.builtin "sum") (fun xs H Q=> ∃(p:Addr) (ns:List Int),xs=[.ref p]/\SqL X.K H p (ns.map V.int)/\Q (.int ns.sum) H):=by
 intro pins s σ H xs us Q I r h
 obtain⟨p,ns,rfl,hs,q⟩:=h
 obtain⟨u,rfl,ru⟩:=z3O r
 cases ru
 obtain⟨its,rv,pl,_⟩:=I.list hs
 have hl:=pl.isList
 have hlen:ns.length=its.length:=by have:=Paired.length rv;simpa using this
 have hlt:p<s.heap.objs.size:=by obtain⟨_,e,_⟩:=hl;exact Heap.lt_size e
 refine call_sum_walkAnyS (wpAny_pyIter_list hl ?_)
 refine⟨s.heap.objs.size,[s.heap.objs.size,p],[s.heap.objs.size],_,its.toArray.size,_,_,fun i=>(ns[i]?).getD 0,rfl,z7e (A:=X.A.in1) hc _ p (o0 hlt) its.toArray,
  ⟨⟨_,Heap.get?_push_size _ rfl,rfl,rfl⟩,hl.push _⟩,fun b hb=> ?_,fun i v hv=> ?_,fun s' t' hm=> ?_⟩
 ·erw[i0,l6,or_false] at hb
  rcases hb with rfl|rfl
  ·rw[PyProof.Rows.size_push'];exact B6 _
  ·rw[PyProof.Rows.size_push'];exact D3 hlt
 ·have hv:its[i]? =some v:=by simpa using hv
  have hi:i<ns.length:=by have:=(List.getElem?_eq_some_iff.mp hv).1;lia
  obtain⟨u,h1,h2⟩:=J0.get (i:=i) (x:=V.int ns[i]) rv (by simp[hi])
  rw[h1] at hv
  cases hv
  obtain⟨t,rfl⟩:=h2
  exact⟨t,by simp[hi]⟩
 ·have e:preSum (fun i=>(ns[i]?).getD 0) its.toArray.size=ns.sum:=by
   rw[l7,<-hlen,z3E ns _ (i4 _),P4]
  rw[e]
  obtain⟨hp,g,d,tk,os⟩:=s
  obtain⟨hp',g',d',tk',os'⟩:=s'
  obtain⟨m1,m2,m3,m4,m5⟩:=hm
  dsimp only at m1 m2 m3 m4 m5
  subst m2 m3 m4
  exact⟨.int _,H,I.kept (h':=hp') (t':=tk') (fun b o e=>m1 b o (by
   erw[m9]
   exact o0 (Heap.lt_size e)) (Heap.get?_push_of_some _ e)),⟨_,rfl⟩,q⟩
end
end L2
namespace Mi
open PySem L2 PySem.Spec PyProof.Rows
section
variable{X:Cx}{G:Gx}{F:Fy}{e:Expr}{pos pos':Pos}
noncomputable def zeM(i:Nat)(a:Int):D->MS
 | .int b=>fun s=> .nx {s with σ:=s.σ.set i (some (.int (a+b)))}
 |_=>fun _=> .no
noncomputable def z5L(i:Nat)(m:M D):MS:=fun s=>match s.σ[i]? with
 |some (some (.int a))=>z0u m (zeM i a) s
 |_=> .no
theorem ss_augI{i:Nat}{x:Str}{m:M D}(hN:X.N.Nodup)(hi:X.N[i]? =some x)(hx:Loc X.env.scope x)(hf:X.fn x=true\/X.env.scope.names.lookup x=some .local)(he:SE X G F e m):SS X G F (.AugAssign (.Name x pos') .Add e pos) (z5L i m):=by
 refine PS.imp0 (zdx hN hi hx he zdy hf) fun D σ H ⟨tv,hs,ρ,s,M,W⟩=> ?_
 unfold z5L at W
 split at W
 ·rename_i a ea
  obtain⟨v,h1,h2⟩:=M.sl.get i _ ea
  erw[RD] at h2
  subst h2
  refine⟨.int a,h1,tv,(z0h (m:=m) (f:=zeM i a) ⟨hs,ρ,s,M,W⟩).mono fun v H1 ⟨ρ1,s1,t,M1,W1⟩=> ?_⟩
  unfold zeM at W1
  split at W1
  ·rename_i b
   obtain⟨v',e',h,_⟩:=M1.one
   cases e'
   erw[RD] at h
   subst h
   have M2:MRL G F.toFx ρ1 H1 σ tv s1 [.int (a+b)] [.int (a+b)]:=⟨M1.m,RDs.one (by erw[RD]),fun l hl=>by simp[labsL,y9] at hl⟩
   exact⟨a,b,rfl,rfl,W1 ρ1 _ H1 (M2.setS i).m⟩
  ·exact False.elim W1
 ·exact False.elim W
noncomputable def z18:List D->Option (List Int)
 |[]=>some []
 | .int i::ds=>match z18 ds with|some ns=>some (i::ns)|none=>none
 |_=>none
theorem z59{ρ:Nat->Addr}{H:Hp}: ∀{ds:List D} {xs:List V} {ns:List Int},RDs G ρ H ds xs->z18 ds=some ns->xs=ns.map V.int
 |[],xs,ns,h,e=>by erw[RDs] at h;erw[z18] at e;cases e;exact h
 |d::ds,xs,ns,h,e=>by
  erw[RDs] at h
  obtain⟨x,r,rfl,h1,h2⟩:=h
  cases d with
  |int i=>
   erw[z18] at e
   cases e2:z18 ds with
   |none=>rw[e2] at e;cases e
   |some ms=>
    rw[e2] at e
    cases e
    erw[RD] at h1
    rw[h1,z59 h2 e2];rfl
  |_=>simp[z18] at e
noncomputable def zcw:List D->M D
 |[.lst _ ds]=>match z18 ds with|some ns=>rt (.int ns.sum)|none=>fl
 |_=>fl
theorem zeN:X8 G F (fun xs H Q=> ∃(p:Addr) (ns:List Int),xs=[.ref p]/\SqL G.K H p (ns.map V.int)/\Q (.int ns.sum) H) zcw:=by
 intro ρ s ts vs H σv tv Q M W
 unfold zcw at W
 split at W
 ·rename_i l ds
  obtain⟨v,rfl,h,_⟩:=M.one
  obtain⟨p,xs,rfl,s1,r1,_⟩:=id (h.lstq (ds:=ds) rfl)
  cases e:z18 ds with
  |none=>rw[e] at W;exact wfl W
  |some ns=>
   rw[e] at W
   refine⟨p,ns,rfl, ?_,fun _=>W.flat M.m rfl⟩
   rw[<-z59 r1 e];exact s1
 ·exact wfl W
theorem zbc(hk:X.K=G.K)(hd:X.A.handled=none):Cb X G F (.builtin "sum") zcw:=⟨_,hk▸z8I hd,zeN⟩
end
end Mi
namespace L2
open PySem PySem.Spec PyProof.Rows
noncomputable def Itz(K:W.Frag)(a b:Addr):It:=
 ⟨fun i H=> ∃xs ys x y,SqL K H a xs/\SqL K H b ys/\xs[i]? =some x/\ys[i]? =some y,
  fun i H v H'=> ∃p x y,H p=none/\v= .ref p/\H'=upd H p (.tup [x,y])/\(∀xs,SqL K H a xs->xs[i]? =some x)/\(∀ys,SqL K H b ys->ys[i]? =some y)/\∀b o,K.lookup b=some o->H' b=none,
  fun i H=> ∃xs ys,SqL K H a xs/\SqL K H b ys/\(xs.length<=i\/ys.length<=i)⟩
theorem zai{P:Program}{w:World}{K:W.Frag}{elts:List Expr}{x1:Nat}{tpos:Pos}{a b z TI TO i1 i2:Addr}(D:ZipApart z TI TO i1 i2 a b):zaO P w K (.Tuple elts x1 tpos) (Itz K a b) [z,TI,TO,i1,i2] z
 (fun i h=>IsZip h z TI TO .none/\IsPair h TI (.ref i1) (.ref i2)/\(∃u v,IsPair h TO u v)/\h.IsListIter i1 a i/\h.IsListIter i2 b i) where
 mem:=by simp
 obj:=fun i h st c hc=>by
  obtain⟨h1,h2,⟨u,v,h3⟩,h4,h5⟩:=st
  have hc:c=z\/c=TI\/c=TO\/c=i1\/c=i2:=by simpa using hc
  rcases hc with rfl|rfl|rfl|rfl|rfl
  ·exact⟨_,h1,fun v z=>by
    have z':Data.fields _=Data.cell v:=z
    cases z'⟩
  ·exact⟨_,h2,fun v z=>by
    have z':Data.seq _ _=Data.cell v:=z
    cases z'⟩
  ·exact⟨_,h3,fun v z=>by
    have z':Data.seq _ _=Data.cell v:=z
    cases z'⟩
  ·obtain⟨o,e,c,d⟩:=h4
   exact⟨o,e,fun v z=>by rw[d] at z;cases z⟩
  ·obtain⟨o,e,c,d⟩:=h5
   exact⟨o,e,fun v z=>by rw[d] at z;cases z⟩
 keep:=fun i h h' st k=>by
  obtain⟨h1,h2,⟨u,v,h3⟩,h4,h5⟩:=st
  exact⟨k z (by simp) _ h1,k TI (by simp) _ h2,⟨u,v,k TO (by simp) _ h3⟩,h4.at fun o q=>k i1 (by simp) o q,h5.at fun o q=>k i2 (by simp) o q⟩
 item:=by
  intro X hP hw hK hc i pins s σ H E I hf st hg
  subst hP hw hK
  obtain⟨h1,h2,⟨u0,v0,h3⟩,h4,h5⟩:=st
  obtain⟨xs,ys,x,y,hq,hr,hx,hy⟩:=hg
  obtain⟨its,rv,p,hz⟩:=I.list hq
  obtain⟨jts,rw',p',hz'⟩:=I.list hr
  obtain⟨u,hu,ru⟩:=rv.get hx
  obtain⟨v,hv,rv'⟩:=rw'.get hy
  refine wpAny_pyNext_zip_item D h1 h2 h3 h4 h5 p.isList p'.isList (x:=u) (y:=v) (by simpa using hu) (by simpa using hv) fun g1 z1 t1 l1 l2 t2 hsz hk=> ?_
  refine⟨_,rfl,wpAny_letOwnedTupleGo_zip z1 fun g2 z2 hs2=> ?_⟩
  have hs2:Heap.SameBut z g1 g2:=hs2
  have fr: ∀c∈[z,TI,TO,i1,i2],c≠s.heap.objs.size:=fun c hc=>by
   have hc:c=z\/c=TI\/c=TO\/c=i1\/c=i2:=by simpa using hc
   rcases hc with rfl|rfl|rfl|rfl|rfl
   ·exact o0 (Heap.lt_size h1)
   ·exact o0 (Heap.lt_size h2)
   ·exact o0 (Heap.lt_size h3)
   ·obtain⟨o,q,_⟩:=h4
    exact o0 (Heap.lt_size q)
   ·obtain⟨o,q,_⟩:=h5
    exact o0 (Heap.lt_size q)
  have t3:g2.get? s.heap.objs.size=some {cls:= .type "tuple",data:= .seq #[u,v]}:=(hs2.2 _ (Ne.symm (fr z (by simp)))).trans t2
  have I1:Inv X pins σ (upd H s.heap.objs.size (.tup [x,y])) {s with heap:=s.heap.push {cls:= .type "tuple",data:= .seq #[u,v]},toks:=s.toks}:=I.laid (t':=s.toks) (o:= .tup [x,y]) (fun b ob q=>Heap.get?_push_of_some _ q) (i4 _) ⟨by show 2<=sizeLine;decide,[u,v], .cons ru (.cons rv' .nil),IsTup.new _ _⟩
  have f1: ∀c∈[z,TI,TO,i1,i2],z3m X pins (upd H s.heap.objs.size (.tup [x,y])) c:=fun c hc=>⟨by rw[Z6 (fr c hc)];exact(hf c hc).1,(hf c hc).2⟩
  have I2:=I1.turnedL (h':=g2) (t':=s.toks) (fun c o hc q=>by
   have hc:c≠z/\c≠TI/\c≠TO/\c≠i1/\c≠i2:=by simpa using hc
   rcases Heap.get?_push_cases (show(s.heap.push {cls:= .type "tuple",data:= .seq #[u,v]}).get? c=some o from q) with⟨rfl,rfl⟩|q'
   ·exact t3
   ·exact(hs2.2 c hc.1).trans (hk c o hc.1 hc.2.2.1 hc.2.2.2.1 hc.2.2.2.2 q')) f1
  refine⟨.ref s.heap.objs.size,_,I2,rfl,⟨_,x,y,I.hok.fresh (i4 _),rfl,rfl,fun ws hw=>by rw[I.list_inj hw hq];exact hx,fun ws hw=>by rw[I.list_inj hw hr];exact hy,fun b o q=>(I2.bs b o (I2.ok.mod.kin b o q)).2⟩,⟨z2, ?_,⟨u,v, ?_⟩, ?_, ?_⟩,fun b hb=>(f1 b hb).1⟩
  ·exact(hs2.2 TI D.TIz).trans (hk TI _ D.TIz D.TITO D.TIi1 D.TIi2 h2)
  ·exact(hs2.2 TO D.TOz).trans t1
  ·obtain⟨o,q,r⟩:=l1
   exact⟨o,(hs2.2 i1 D.i1z).trans q,r⟩
  ·obtain⟨o,q,r⟩:=l2
   exact⟨o,(hs2.2 i2 D.i2z).trans q,r⟩
 done:=by
  intro X hP hw hK hc i pins s σ H E I hf st hg
  subst hP hw hK
  obtain⟨h1,h2,⟨u0,v0,h3⟩,h4,h5⟩:=st
  obtain⟨xs,ys,hq,hr,hx⟩:=hg
  obtain⟨its,rv,p,hz⟩:=I.list hq
  obtain⟨jts,rw',p',hz'⟩:=I.list hr
  have e1:=rv.length
  have e2:=rw'.length
  refine wpAny_pyNext_zip_end (I.ok.hd hc) D h1 h2 h3 h4 h5 p.isList p'.isList ?_ fun h' eb=>⟨rfl,I.turnedL (t':=s.toks) (fun c o hb q=> ?_) hf⟩
  ·rcases hx with hx|hx
   ·exact .inl (by simp;lia)
   ·exact .inr (by simp;lia)
  ·have hc:c≠z/\c≠TI/\c≠TO/\c≠i1/\c≠i2:=by simpa using hb
   exact eb c o hc.1 hc.2.2.1 hc.2.2.2.1 hc.2.2.2.2 q
 self:=fun A i s Q E st h=>wpAny_pyIter_zip st.1 h
section
variable{X:Cx}
noncomputable def ziN(K:W.Frag)(ta:TA):TI:=fun σ H R=>ta σ H fun vs H1=> ∃a b,vs=[.ref a, .ref b]/\(∃xs,SqL K H1 a xs)/\(∃ys,SqL K H1 b ys)/\R (Itz K a b) H1
theorem zeO{a b:Expr}{ta:TA}{p pos tpos:Pos}{elts:List Expr}{x1:Nat}(hg:Gl X "zip")(hm:X.mg "zip" =none)(ha:PA X [a,b] ta)(hs:starEach [a,b] X.env=[(false,eval a X.env),(false,eval b X.env)]:=by rfl)(hs2:starEach [b] X.env=[(false,eval b X.env)]:=by rfl):PI X (.Tuple elts x1 tpos) (.Call (.Name "zip" p) [a,b] [] pos) (ziN X.K ta):=by
 intro pins s σ H R I h
 refine Call_ (z3l I hg hm PyProof.Rows.Boot.«zip» (PyProof.Rows.callWith_type1 (thn (ha pos pins s σ H _ I h) fun us s1 ⟨vs,H1,I1,r1,q1⟩=> ?_) (by rw[hs,hs2]) (by rw[hs2];rfl)))
 obtain⟨l,m,e,⟨xs,hq⟩,⟨ys,hr⟩,q⟩:=q1
 subst e
 cases r1 with
 |cons r rr=>
  cases rr with
  |cons r' rr=>
   cases rr
   cases r
   cases r'
   obtain⟨its,rv,p,hz⟩:=I1.list hq
   obtain⟨jts,rw',p',hz'⟩:=I1.list hr
   refine call_zip_2 p.isList p'.isList fun h' g1 g2 g3 g4 g5 hsz hk=> ?_
   refine wpAny_pyIter_zip g1 ?_
   have I2:Inv X pins σ H1 {s1 with heap:=h'}:=I1.kept (t':=s1.toks) hk
   have a1:l<s1.heap.objs.size:=by obtain⟨o,e,_⟩:=p.isList;exact Heap.lt_size e
   have a2:m<s1.heap.objs.size:=by obtain⟨o,e,_⟩:=p'.isList;exact Heap.lt_size e
   refine⟨s1.heap.objs.size+4,[s1.heap.objs.size+4,s1.heap.objs.size+2,s1.heap.objs.size+3,s1.heap.objs.size,s1.heap.objs.size+1],_,_,H1,rfl,I2,zai (zipApart_new a1 a2),⟨g1,g2,⟨_,_,g3⟩,g4,g5⟩,fun c hc=> ?_,q⟩
   have hc:s1.heap.objs.size<=c:=by
    have hc:c=s1.heap.objs.size+4\/c=s1.heap.objs.size+2\/c=s1.heap.objs.size+3\/c=s1.heap.objs.size\/c=s1.heap.objs.size+1:=by simpa using hc
    rcases hc with rfl|rfl|rfl|rfl|rfl<;>simp
   exact I1.fpOk hc (I1.hok.fresh hc)
end
end L2
namespace Mi
open PySem L2
section
variable{X:Cx}{G:Gx}{F:Fy}{a b tg:Expr}{pos:Pos}
noncomputable def zeP(i:Nat)(ds es:List D):Option D:=match ds[i]?,es[i]? with
 |some d,some e=>some (.tup [d,e])
 |_,_=>none
noncomputable def zeQ(i:Nat):List (Option D)->Option (Option D)
 |some c2::some c1::_=>match z4S c1,z4S c2 with
  |some ds,some es=>some (zeP i ds es)
  |_,_=>none
 |_=>none
noncomputable def zeR:List (Option D)->Nat
 |some c2::some c1::_=>match z4S c1,z4S c2 with
  |some ds,some es=>min ds.length es.length
  |_,_=>0
 |_=>0
noncomputable def zgc:ItK:=⟨2,zeQ,zeR⟩
theorem zaj{a b:Addr}:zb5 G (Itz G.K a b) zgc [some (.ref b),some (.ref a)]:=by
 intro F ρ H σv tvp tv s i M
 dsimp only[zgc]
 cases e:s.tm.drop tvp.length with
 |nil=>trivial
 |cons o r=>
  cases o with
  |none=>trivial
  |some c2=>
   cases r with
   |nil=>trivial
   |cons o r=>
    cases o with
    |none=>trivial
    |some c1=>
     have M0:MR G F ρ H σv (some (.ref b)::some (.ref a)::tv) (s.popn tvp.length):=M.popn
     obtain⟨h2,lb2⟩:=MR.head (s:=s.popn tvp.length) M0 e
     have e':s.tm.drop (tvp++[some (V.ref b)]).length=some c1::r:=by
      rw[m7,<-D0,e];rfl
     have M1:MR G F ρ H σv ((tvp++[some (.ref b)])++(some (.ref a)::tv)) s:=by simpa using M
     have M1':MR G F ρ H σv (some (.ref a)::tv) (s.popn (tvp++[some (V.ref b)]).length):=M1.popn
     obtain⟨h1,lb1⟩:=MR.head (s:=s.popn (tvp++[some (V.ref b)]).length) M1' e'
     erw[zeQ]
     cases e1:z4S c1 with
     |none=>trivial
     |some ds=>
      cases e2:z4S c2 with
      |none=>trivial
      |some es=>
       obtain⟨a',xs,ea,sq,rr,sub⟩:=h1.lstq e1
       cases ea
       obtain⟨b',ys,ea,sq',rr',sub'⟩:=h2.lstq e2
       cases ea
       erw[zeP]
       cases e3:ds[i]? with
       |none=>exact⟨xs,ys,sq,sq', .inl (by rw[<-rr.length];exact List.getElem?_eq_none_iff.mp e3)⟩
       |some d=>
        cases e4:es[i]? with
        |none=>exact⟨xs,ys,sq,sq', .inr (by rw[<-rr'.length];exact List.getElem?_eq_none_iff.mp e4)⟩
        |some d'=>
         obtain⟨x,ex,rx⟩:=rr.get i d e3
         obtain⟨y,ey,ry⟩:=rr'.get i d' e4
         refine⟨⟨xs,ys,x,y,sq,sq',ex,ey⟩, ?_⟩
         rintro x' H' ⟨p,x1,y1,hp,rfl,rfl,hx,hy,kd⟩
         rw[hx xs sq] at ex
         cases ex
         rw[hy ys sq'] at ey
         cases ey
         have sm:=z0X.new (.tup [x,y]) hp
         refine⟨M.same sm kd,RDs.one ?_,fun l hl=> ?_⟩
         ·erw[RD]
          refine⟨p,_,rfl,Z8, ?_⟩
          have r1:=(RDs.one rx).same sm
          have r2:=(RDs.one ry).same sm
          erw[RDs] at r1 r2⊢
          obtain⟨x,r,e,h1,h2⟩:=r1
          cases e
          obtain⟨y,r,e,h1',h2'⟩:=r2
          cases e
          exact⟨_,_,rfl,h1,_,_,rfl,h1',rfl⟩
         ·erw[labsL,y9,l3] at hl
          rcases i3.mp hl with q|q
          ·exact lb1 l (sub l (labsL_mem (List.mem_of_getElem? e3) l q))
          ·exact lb2 l (sub' l (labsL_mem (List.mem_of_getElem? e4) l q))
theorem MRL.push2{ρ:Nat->Addr}{H:Hp}{σv tv:List (Option V)}{s:Stt}{t t':D}{v u:V}(M:MRL G F.toFx ρ H σv tv s [t,t'] [v,u]):MR G F.toFx ρ H σv (some u::some v::tv) ((s.psh t).psh t'):=by
 have M1:MRL G F.toFx ρ H σv tv s [t] [v]:=⟨M.m,RDs.one M.rd2.1,fun l h=>M.lb2.1 l (by simpa only[labsL,l3] using h)⟩
 exact MRL.push ⟨M1.push,RDs.one M.rd2.2,fun l h=>M.lb2.2 l (by simpa only[labsL,l3] using h)⟩
noncomputable def zij(ts:List D):M ItK:=fun s=>match ts with
 |[c1,c2]=>match z4S c1,z4S c2 with
  |some _,some _=> .ok zgc ((s.psh c1).psh c2)
  |_,_=> .no
 |_=> .no
noncomputable def zdg(ms:List (M D)):M ItK:=bd (Y4 ms) zij
theorem si_zip{p tpos:Pos}{elts:List Expr}{x1:Nat}{ms:List (M D)}(hk:X.K=G.K)(hg:Gl X "zip")(hm:X.mg "zip" =none)(ha:SA X G F [a,b] (Y4 ms))(hs:starEach [a,b] X.env=[(false,eval a X.env),(false,eval b X.env)]:=by rfl)(hs2:starEach [b] X.env=[(false,eval b X.env)]:=by rfl):SI X G F (.Tuple elts x1 tpos) (.Call (.Name "zip" p) [a,b] [] pos) (zdg ms):=by
 refine PI.imp0 (zeO hg hm ha hs hs2) fun σ H R ⟨tv,hs,ρ,s,M,W⟩=>⟨tv,hs,ρ,s,M, ?_⟩
 unfold zdg bd at W
 cases e:Y4 ms s with
 |ex d s1=>rw[e] at W;exact W
 |no=>rw[e] at W;exact W
 |ok ts s1=>
  rw[e] at W
  intro ρ1 vs H1 M1
  rw[hk]
  unfold zij at W
  dsimp only at W
  split at W
  ·rename_i ts' K s' hh
   split at hh
   ·split at hh
    ·cases hh
     obtain⟨v,u,rfl,h1,h2⟩:=M1.two
     rename_i ds es q1 q2
     obtain⟨a,xs,rfl,sq,r,_⟩:=h1.lstq q1
     obtain⟨b,ys,rfl,sq',r',_⟩:=h2.lstq q2
     exact⟨a,b,rfl,⟨xs,sq⟩,⟨ys,sq'⟩,W ρ1 H1 [some (.ref b),some (.ref a)] _ rfl M1.push2 zaj⟩
    ·cases hh
   ·cases hh
  ·rename_i hh
   split at hh
   ·split at hh<;>cases hh
   ·cases hh
  ·exact False.elim W
end
end Mi
namespace My
open PySem L2 PySem.Spec PyProof.Rows Mi
@[irreducible] noncomputable def SE(X:Cx)(G:Gx)(F:Fy)(e:Expr)(m:M D):Prop:=Mi.SE X G F e m
theorem eSE(X:Cx)(G:Gx)(F:Fy)(e:Expr)(m:M D):SE X G F e m=Mi.SE X G F e m:=by unfold SE;rfl
@[irreducible] noncomputable def SA(X:Cx)(G:Gx)(F:Fy)(e:List Expr)(m:M (List D)):Prop:=Mi.SA X G F e m
theorem eSA(X:Cx)(G:Gx)(F:Fy)(e:List Expr)(m:M (List D)):SA X G F e m=Mi.SA X G F e m:=by unfold SA;rfl
@[irreducible] noncomputable def SB(X:Cx)(G:Gx)(F:Fy)(e:Expr)(m:M Bool):Prop:=Mi.SB X G F e m
theorem eSB(X:Cx)(G:Gx)(F:Fy)(e:Expr)(m:M Bool):SB X G F e m=Mi.SB X G F e m:=by unfold SB;rfl
@[irreducible] noncomputable def SW(X:Cx)(G:Gx)(F:Fy)(e:Expr)(m:M Bool):Prop:=Mi.SW X G F e m
theorem eSW(X:Cx)(G:Gx)(F:Fy)(e:Expr)(m:M Bool):SW X G F e m=Mi.SW X G F e m:=by unfold SW;rfl
@[irreducible] noncomputable def SS(X:Cx)(G:Gx)(F:Fy)(e:Stmt)(m:MS):Prop:=Mi.SS X G F e m
theorem eSS(X:Cx)(G:Gx)(F:Fy)(e:Stmt)(m:MS):SS X G F e m=Mi.SS X G F e m:=by unfold SS;rfl
@[irreducible] noncomputable def SSs(X:Cx)(G:Gx)(F:Fy)(e:List Stmt)(m:MS):Prop:=Mi.SSs X G F e m
theorem ziO(X:Cx)(G:Gx)(F:Fy)(e:List Stmt)(m:MS):SSs X G F e m=Mi.SSs X G F e m:=by unfold SSs;rfl
@[irreducible] noncomputable def SG(X:Cx)(G:Gx)(F:Fy)(e:Expr)(m:Tg):Prop:=Mi.SG X G F e m
theorem eSG(X:Cx)(G:Gx)(F:Fy)(e:Expr)(m:Tg):SG X G F e m=Mi.SG X G F e m:=by unfold SG;rfl
@[irreducible] noncomputable def SGs(X:Cx)(G:Gx)(F:Fy)(e:List Expr)(m:List Tg):Prop:=Mi.SGs X G F e m
theorem ziP(X:Cx)(G:Gx)(F:Fy)(e:List Expr)(m:List Tg):SGs X G F e m=Mi.SGs X G F e m:=by unfold SGs;rfl
@[irreducible] noncomputable def SI(X:Cx)(G:Gx)(F:Fy)(tg e:Expr)(m:M ItK):Prop:=Mi.SI X G F tg e m
theorem eSI(X:Cx)(G:Gx)(F:Fy)(tg e:Expr)(m:M ItK):SI X G F tg e m=Mi.SI X G F tg e m:=by unfold SI;rfl
@[irreducible] noncomputable def SO(X:Cx)(G:Gx)(F:Fy)(e:Option Expr)(m:Option (M D)):Prop:=Mi.SO X G F e m
theorem eSO(X:Cx)(G:Gx)(F:Fy)(e:Option Expr)(m:Option (M D)):SO X G F e m=Mi.SO X G F e m:=by unfold SO;rfl
@[irreducible] noncomputable def STs(X:Cx)(G:Gx)(F:Fy)(e:List Expr)(m:M Bool):Prop:=Mi.STs X G F e m
theorem ziQ(X:Cx)(G:Gx)(F:Fy)(e:List Expr)(m:M Bool):STs X G F e m=Mi.STs X G F e m:=by unfold STs;rfl
local macro_rules | `(tactic| walk_at "go") => `(tactic| (simp only [eSE, eSA, eSB, eSW, eSS, ziO, eSG, ziP, eSI, eSO, ziQ] at *))
section
variable{X:Cx}{G:Gx}{F:Fy}{e a b c:Expr}{pos:Pos}
theorem se_var(i:Nat){x:Str}(hk:X.K=G.K)(h:PE X (.Name x pos) (zg4 i)):SE X G F (.Name x pos) (y0 i):=by
 walk_at "go"
 exact Mi.se_var i hk h
theorem se_c{d:D}{v:V}(hk:X.K=G.K)(h:PE X e (tC v))(hd:cV d=some v:=by rfl):SE X G F e (mC d):=by
 walk_at "go"
 exact Mi.se_c hk h hd
theorem so_none:SO X G F none none:=by
 walk_at "go"
 exact Mi.so_none
theorem so_some{m:M D}(h:SE X G F e m):SO X G F (some e) (some m):=by
 walk_at "go"
 exact Mi.so_some h
theorem se_slice{lo hi:Option Expr}{p2:Pos}{m:M D}{ml mh:Option (M D)}(hk:X.K=G.K)(he:SE X G F e m)(hl:SO X G F lo ml)(hh:SO X G F hi mh):SE X G F (.Subscript e (.Slice lo hi none p2) pos) (mSl m ml mh):=by
 walk_at "go"
 exact Mi.se_slice hk he hl hh
theorem se_tup{es:List Expr}{ms:List (M D)}{x1}(hk:X.K=G.K)(h:SA X G F es (Y4 ms)):SE X G F (.Tuple es x1 pos) (mCB ms K9):=by
 walk_at "go"
 exact Mi.se_tup hk h
theorem se_lst{es:List Expr}{ms:List (M D)}(hk:X.K=G.K)(h:SA X G F es (Y4 ms)):SE X G F (.List es pos) (mCB ms lstM):=by
 walk_at "go"
 exact Mi.se_lst hk h
theorem sb_truth{m:M D}(hk:X.K=G.K)(ha:SE X G F a m)(he: ∀whole,isTrue a X.env whole=(do let v<-whole;standAt a.pos;holding [v] (truthy v)):=by intro _;rfl):SB X G F a (U5 m):=by
 walk_at "go"
 exact Mi.sb_truth hk ha he
theorem SW.sb{m:M Bool}(h:SW X G F e m):SB X G F e m:=by
 walk_at "go"
 exact Mi.SW.sb h
theorem sw_and1{m:M Bool}(h:SB X G F a m):SW X G F (.BoolOp .And [a] pos) m:=by
 walk_at "go"
 exact Mi.sw_and1 h
theorem sw_or1{m:M Bool}(h:SB X G F a m):SW X G F (.BoolOp .Or [a] pos) m:=by
 walk_at "go"
 exact Mi.sw_or1 h
theorem sw_and{rest:List Expr}{m m':M Bool}(ha:SB X G F a m)(hb:SW X G F (.BoolOp .And (b::rest) pos) m'):SW X G F (.BoolOp .And (a::b::rest) pos) (zcg m m'):=by
 walk_at "go"
 exact Mi.sw_and ha hb
theorem sw_or{rest:List Expr}{m m':M Bool}(ha:SB X G F a m)(hb:SW X G F (.BoolOp .Or (b::rest) pos) m'):SW X G F (.BoolOp .Or (a::b::rest) pos) (mOr m m'):=by
 walk_at "go"
 exact Mi.sw_or ha hb
theorem sb_not{m:M Bool}(ha:SB X G F a m):SB X G F (.UnaryOp .Not a pos) (z3d m):=by
 walk_at "go"
 exact Mi.sb_not ha
theorem se_one{op}{m:M D}(h:SE X G F a m):SE X G F (.BoolOp op [a] pos) m:=by
 walk_at "go"
 exact Mi.se_one h
theorem se_and{rest:List Expr}{m m':M D}(ha:SE X G F a m)(hb:SE X G F (.BoolOp .And (b::rest) pos) m'):SE X G F (.BoolOp .And (a::b::rest) pos) (z3Y m m'):=by
 walk_at "go"
 exact Mi.se_and ha hb
theorem se_not{m:M D}(ha:SE X G F a m):SE X G F (.UnaryOp .Not a pos) (z75 m):=by
 walk_at "go"
 exact Mi.se_not ha
theorem se_isi{p:Pos}{x y:Expr}{T:String}{m:M D}(hk:X.K=G.K)(hT:T= "int" \/T= "bool" \/T= "tuple" \/T= "list" \/T= "str")(hgl:Gl X "isinstance")(hm:X.mg "isinstance" =none)(ha:SE X G F x m)(hy:PE X y (tC (.ty T)))
 (he:starEach [x,y] X.env=(false,eval x X.env)::starEach [y] X.env:=by rfl) (he2:starEach [y] X.env=(false,eval y X.env)::starEach [] X.env:=by rfl) (hpl:(backTo pos (starEach [y] X.env)).any (·.1)=false:=by rfl):SE X G F (.Call (.Name "isinstance" p) [x,y] [] pos) (z34 T m):=by
 walk_at "go"
 exact Mi.se_isi hk hT hgl hm ha hy he he2 hpl
end
section
variable{X:Cx}{G:Gx}{F:Fy}{e a b c:Expr}{st:Stmt}{sts rest:List Stmt}{pos:Pos}
theorem ss_nil:SSs X G F [] sNx:=by
 walk_at "go"
 exact Mi.ss_nil
theorem ss_cons{m m':MS}(h1:SS X G F st m)(h2:SSs X G F rest m'):SSs X G F (st::rest) (Y2 m m'):=by
 walk_at "go"
 exact Mi.ss_cons h1 h2
theorem ss_one{m:MS}(h1:SS X G F st m):SSs X G F [st] m:=by
 walk_at "go"
 exact Mi.ss_one h1
theorem ss_expr{m:M D}(he:SE X G F e m)(hs:swapsWith e none pos.line X.env=pure false:=by rfl):SS X G F (.Expr e pos) (z2B m):=by
 walk_at "go"
 exact Mi.ss_expr he hs
theorem ss_ret{m:M D}(he:SE X G F e m):SS X G F (.Return (some e) pos) (J3 m):=by
 walk_at "go"
 exact Mi.ss_ret he
theorem ss_if{x y:List Stmt}{mc:M Bool}{m m':MS}(hc:SB X G F c mc)(ha:SSs X G F x m)(hb:SSs X G F y m'):SS X G F (.If c x y pos) (sIf mc m m'):=by
 walk_at "go"
 exact Mi.ss_if hc ha hb
theorem sg_name{i:Nat}{x:Str}{p:Pos}(h:PG X (.Name x p) (z6Q i)):SG X G F (.Name x p) (.nm i):=by
 walk_at "go"
 exact Mi.sg_name h
theorem sgs_nil:SGs X G F [] []:=by
 walk_at "go"
 exact Mi.sgs_nil
theorem sgs_cons{es:List Expr}{g:Tg}{gs:List Tg}(h1:SG X G F e g)(h2:SGs X G F es gs)(hs:(assignEach (e::es) X.env).map (·.2)=assign e X.env::(assignEach es X.env).map (·.2):=by rfl):SGs X G F (e::es) (g::gs):=by
 walk_at "go"
 exact Mi.sgs_cons h1 h2 hs
theorem sg_tup{es:List Expr}{k:Nat}{gs:List Tg}(hk:X.K=G.K)(hc:X.calm=true)(h:SGs X G F es gs)(hn:(assignEach es X.env).length=gs.length:=by rfl)(hst:(assignEach es X.env).findIdx? (·.1)=none:=by rfl):SG X G F (.Tuple es k pos) (.tp gs):=by
 walk_at "go"
 exact Mi.sg_tup hk hc h hn hst
theorem ss_set{i:Nat}{x:Str}{p:Pos}{m:M D}(h: ∀{te:TE},PE X e te->PS X (.Assign [.Name x p] e pos) (zg5 te (z6Q i)))(he:SE X G F e m):SS X G F (.Assign [.Name x p] e pos) (Q8 (.nm i) m):=by
 walk_at "go"
 exact Mi.ss_set h he
end
section
variable{X:Cx}{G:Gx}{F:Fy}{e a b c tg iter:Expr}{pos:Pos}
theorem si_seq{m:M D}(hk:X.K=G.K)(h:SE X G F e m):SI X G F tg e (G2 m):=by
 walk_at "go"
 exact Mi.si_seq hk h
theorem si_rng1{p:Pos}{ms:List (M D)}(hg:Gl X "range")(hm:X.mg "range" =none)(ha:SA X G F [a] (Y4 ms))(hs:starEach [a] X.env=[(false,eval a X.env)]:=by rfl):SI X G F tg (.Call (.Name "range" p) [a] [] pos) (U1 ms):=by
 walk_at "go"
 exact Mi.si_rng1 hg hm ha hs
theorem ss_for{body:List Stmt}{mi:M ItK}{g:Tg}{mb:MS}(hp:PassesOwn (model X.prog X.w) X.A X.env X.xe)(hc:X.calm=true)(hi:SI X G F tg iter mi)(hg:SG X G F tg g)(hb:SSs X G F body mb)(hst: ∀x,foldedSetIterable iter X.env x=pure x:=by intro _;rfl):SS X G F (.For tg iter body [] pos) (z35 mi g mb):=by
 walk_at "go"
 exact Mi.ss_for hp hc hi hg hb hst
end
section
variable{X:Cx}{G:Gx}{F:Fy}{e a b c tg iter elt:Expr}{pos:Pos}
theorem sts_nil:STs X G F [] (rt true):=by
 walk_at "go"
 exact Mi.sts_nil
theorem sts_one{m:M Bool}(h:SB X G F c m):STs X G F [c] m:=by
 walk_at "go"
 exact Mi.sts_one h
theorem se_comp{scope:Scope}{own frees:List Str}{ix:List Nat}{ifs:List Expr}{mi:M ItK}{g:Tg}{mt:M Bool}{me:M D}(hk:X.K=G.K)(hc:X.calm=true)(S:G1 X.env.scope scope own frees X.N ix)(hi:SI X G F tg iter mi)
 (hg: ∀(F:Fy) cl C s₀ H₀ fp pn,SG (compCx X scope own frees cl C s₀ H₀ fp pn) G F tg g) (ht: ∀(F:Fy) cl C s₀ H₀ fp pn,STs (compCx X scope own frees cl C s₀ H₀ fp pn) G F ifs mt) (he: ∀(F:Fy) cl C s₀ H₀ fp pn,SE (compCx X scope own frees cl C s₀ H₀ fp pn) G F elt me)
 (hs: ∀x,foldedSetIterable iter X.env x=pure x:=by intro _;rfl):SE X G F (.ListComp elt [⟨tg,iter,ifs,0⟩] scope pos) (W3 mi g mt me own.length ix):=by
 walk_at "go"
 exact Mi.se_comp hk hc S hi hg ht he hs
theorem ss_comp{y:Str}{py spos:Pos}{i:Nat}{scope:Scope}{own frees:List Str}{ix:List Nat}{ifs:List Expr}{mi:M ItK}{g:Tg}{mt:M Bool}{me:M D}(hk:X.K=G.K)(hN:X.N.Nodup)(hy:X.N[i]? =some y)(hx:Loc X.env.scope y)(hfn:X.fn y=true\/X.env.scope.names.lookup y=some .local)(hsw:swapsWith (.ListComp elt [⟨tg,iter,ifs,0⟩] scope pos) (some (.Name y py)) spos.line X.env=pure true)
 (hc:X.calm=true) (S:G1 X.env.scope scope own frees X.N ix) (hi:SI X G F tg iter mi)
 (hg: ∀(F:Fy) cl C s₀ H₀ fp pn,SG (compCx X scope own frees cl C s₀ H₀ fp pn) G F tg g) (ht: ∀(F:Fy) cl C s₀ H₀ fp pn,STs (compCx X scope own frees cl C s₀ H₀ fp pn) G F ifs mt) (he: ∀(F:Fy) cl C s₀ H₀ fp pn,SE (compCx X scope own frees cl C s₀ H₀ fp pn) G F elt me)
 (hs: ∀x,foldedSetIterable iter X.env x=pure x:=by intro _;rfl):SS X G F (.Assign [.Name y py] (.ListComp elt [⟨tg,iter,ifs,0⟩] scope pos) spos) (Q8 (.nm i) (W3 mi g mt me own.length ix)):=by
 walk_at "go"
 exact Mi.ss_comp hk hN hy hx hfn hsw hc S hi hg ht he hs
end
section
variable{G:Gx}{ρ:Nat->Addr}{H:Hp}
section
variable(k:KD G.K H){n:Nat}(inj: ∀i j,i<n->j<n->ρ i=ρ j->i=j)
include k inj
end
end
section
variable{G:Gx}{ρ ρ':Nat->Addr}{H H':Hp}
section
variable(k:KD G.K H){n:Nat}(inj: ∀i j,i<n->j<n->ρ i=ρ j->i=j){ts:List D}{vs:List V}(r:RDs G ρ H ts vs)(lb: ∀l∈labsL ts,l<n)
include k inj r lb
end
variable{F:Fy}{σv tv:List (Option V)}{s:Stt}{np:Nat}
theorem se_call{X:Cx}{e:Expr}{es:List Expr}{pos p:Pos}{CX:CXT}{k:Nat}{fa:Addr}{fd:FuncData}{ps:List Str}{x:Str}{E:XK}{f:FM}{ms:List (M D)}(hk:X.K=G.K)(Fn:FnOk X.prog X.w X.K X.mg X.base CX k fa fd ps (spM G ps.length f))(hr:z2g k X.A)(hg:Gl X x)(hm:X.mg x=some (.ref fa))(hkp:W.keepIn X.K (.ref fa)=true)(hb:z37 X.K fd ps [])(hx:z3p CX X E)
 (ha:SA X G F (e::es) (Y4 ms)) (hln:ms.length=ps.length) (hdb:(x==("__debug__" :Str))=false:=by decide) (he:starEach (e::es) X.env=(false,eval e X.env)::starEach es X.env:=by rfl) (hpl:(backTo pos (starEach es X.env)).any (·.1)=false:=by rfl):
 SE X G F (.Call (.Name x p) (e::es) [] pos) (Z2 f ms):=by
 walk_at "go"
 exact Mi.se_call hk Fn hr hg hm hkp hb hx ha hln hdb he hpl
theorem fn_M{P:Program}{w:World}{K:W.Frag}{mg:Str->Option Value}{base:Heap}{x qual:Str}{st:Stmt}{fa:Addr}{fd:FuncData}{N ps:List Str}{k:Nat}{mb:MS}(Fn:Fun K x qual st fa fd)(S:Y7 N ps (Z3 st))(hG:G.K=K)
 (hb: ∀(cdv:Value) (A:Around) (outer:List Env) (s:Shared) (H:Hp) (E:XK) (F:Fy),z2g k (A.deeper (envOfC qual (Z3 st) s.heap.objs.size fa cdv))->SSs (z9K CX0 P w K mg base N qual (Z3 st) fa cdv A outer s H E).nox G F (k7 st) mb):
 FnOk P w K mg base CX0 (k+1) fa fd ps (spM G ps.length (z0d N.length mb)):=by
 walk_at "go"
 exact Mi.fn_M Fn S hG hb
end
section
variable{X:Cx}{G:Gx}{F:Fy}{e o:Expr}{es:List Expr}{apos cpos:Pos}
theorem ss_setI{ob ix:Expr}{pos tpos:Pos}{mo mi me:M D}(he:SE X G F e me)(ho:SE X G F ob mo)(hi:SE X G F ix mi)(hg: ∀{to ti:TE},PE X ob to->PE X ix ti->PG X (.Subscript ob ix tpos) (zaM to ti z38))(hs:swapsWithSole [.Subscript ob ix tpos] e pos.line X.env=pure false:=by rfl)(hw:swappedStores [.Subscript ob ix tpos] e X.env=pure none:=by rfl)
 (h1:(assignEach [.Subscript ob ix tpos] X.env).map (·.2)=[assign (.Subscript ob ix tpos) X.env]:=by rfl):SS X G F (.Assign [.Subscript ob ix tpos] e pos) (mTri me mo mi setD):=by
 walk_at "go"
 exact Mi.ss_setI he ho hi hg hs hw h1
end
section
variable{X:Cx}{G:Gx}{F:Fy}{e a b c:Expr}{pos:Pos}{ma mb mc m:M D}
theorem se_add(hk:X.K=G.K)(ha:SE X G F a ma)(hb:SE X G F b mb):SE X G F (.BinOp a .Add b pos) (Z1 ma mb J1):=by
 walk_at "go"
 exact Mi.se_add hk ha hb
theorem se_sub(hk:X.K=G.K)(ha:SE X G F a ma)(hb:SE X G F b mb):SE X G F (.BinOp a .Sub b pos) (Z1 ma mb z9X):=by
 walk_at "go"
 exact Mi.se_sub hk ha hb
theorem se_mul(hk:X.K=G.K)(ha:SE X G F a ma)(hb:SE X G F b mb):SE X G F (.BinOp a .Mult b pos) (Z1 ma mb z4z):=by
 walk_at "go"
 exact Mi.se_mul hk ha hb
theorem se_fdiv(hk:X.K=G.K)(ha:SE X G F a ma)(hb:SE X G F b mb):SE X G F (.BinOp a .FloorDiv b pos) (Z1 ma mb z4T):=by
 walk_at "go"
 exact Mi.se_fdiv hk ha hb
theorem se_mod(hk:X.K=G.K)(ha:SE X G F a ma)(hb:SE X G F b mb):SE X G F (.BinOp a .Mod b pos) (Z1 ma mb z3u):=by
 walk_at "go"
 exact Mi.se_mod hk ha hb
theorem se_pow(hk:X.K=G.K)(ha:SE X G F a ma)(hb:SE X G F b mb):SE X G F (.BinOp a .Pow b pos) (Z1 ma mb z9w):=by
 walk_at "go"
 exact Mi.se_pow hk ha hb
theorem se_neg(hk:X.K=G.K)(ha:SE X G F a ma):SE X G F (.UnaryOp .USub a pos) (bd ma z6k):=by
 walk_at "go"
 exact Mi.se_neg hk ha
theorem se_cmp{op:CmpOp}{g:D->D->M D}(hc:Cm X G F op g)(ha:SE X G F a ma)(hb:SE X G F b mb)(hm:behindInMarks op b=false):SE X G F (.Compare a [op] [b] pos) (Z1 ma mb g):=by
 walk_at "go"
 exact Mi.se_cmp hc ha hb hm
theorem sb_cmp{op:CmpOp}{g:D->D->M D}(hc:Cm X G F op g)(ha:SE X G F a ma)(hb:SE X G F b mb)(hm:behindInMarks op b=false):SB X G F (.Compare a [op] [b] pos) (g9 (Z1 ma mb g)):=by
 walk_at "go"
 exact Mi.sb_cmp hc ha hb hm
theorem se_cmp2{op op':CmpOp}{g g':D->D->M D}(hc:Cm X G F op g)(hc':Cm X G F op' g')(ha:SE X G F a ma)(hb:SE X G F b mb)(hcc:SE X G F c mc)(hm:lastMarks [op,op'] [b,c]=false:=by with_unfolding_all rfl):SE X G F (.Compare a [op,op'] [b,c] pos) (z2A ma mb mc g g'):=by
 walk_at "go"
 exact Mi.se_cmp2 hc hc' ha hb hcc hm
theorem se_idx(hk:X.K=G.K)(ha:SE X G F a ma)(hb:SE X G F b mb)(hs:z0v b):SE X G F (.Subscript a b pos) (Z1 ma mb ixD):=by
 walk_at "go"
 exact Mi.se_idx hk ha hb hs
theorem se_cb{x:Str}{p:Pos}{es:List Expr}{ms:List (M D)}{g:List D->M D}{id:String}(hk:X.K=G.K)(hc:Cb X G F (.builtin id) g)(hgl:Gl X x)(hm:X.mg x=none)(hv:bootBuiltins x=some (.builtin id))(ha:SA X G F (e::es) (Y4 ms))(hn:x≠ "__name__" :=by decide)(hdb:(x==("__debug__" :Str))=false:=by decide)
 (he:starEach (e::es) X.env=(false,eval e X.env)::starEach es X.env:=by rfl) (hpl:(backTo pos (starEach es X.env)).any (·.1)=false:=by rfl):SE X G F (.Call (.Name x p) (e::es) [] pos) (mCB ms g):=by
 walk_at "go"
 exact Mi.se_cb hk hc hgl hm hv ha hn hdb he hpl
theorem se_ct{x:Str}{p:Pos}{es:List Expr}{ms:List (M D)}{g:List D->M D}{T:String}(hk:X.K=G.K)(hc:Cb X G F (.type T) g)(hgl:Gl X x)(hm:X.mg x=none)(hv:bootBuiltins x=some (.type T))(ha:SA X G F (e::es) (Y4 ms))(hn:x≠ "__name__" :=by decide)(hdb:(x==("__debug__" :Str))=false:=by decide)
 (he:starEach (e::es) X.env=(false,eval e X.env)::starEach es X.env:=by rfl) (hpl:(backTo pos (starEach es X.env)).any (·.1)=false:=by rfl):SE X G F (.Call (.Name x p) (e::es) [] pos) (mCB ms g):=by
 walk_at "go"
 exact Mi.se_ct hk hc hgl hm hv ha hn hdb he hpl
end
section
variable{X:Cx}{G:Gx}{F:Fy}{e a b c:Expr}{pos:Pos}
theorem se_isiT{p:Pos}{x y:Expr}{Ts:List String}{m:M D}(hk:X.K=G.K)(hT: ∀T∈Ts,T= "tuple" \/T= "list")(hne:Ts≠[])(hgl:Gl X "isinstance")(hm:X.mg "isinstance" =none)(ha:SE X G F x m)(hy:PE X y (zh8 Ts))
 (he:starEach [x,y] X.env=(false,eval x X.env)::starEach [y] X.env:=by rfl) (he2:starEach [y] X.env=(false,eval y X.env)::starEach [] X.env:=by rfl) (hpl:(backTo pos (starEach [y] X.env)).any (·.1)=false:=by rfl):SE X G F (.Call (.Name "isinstance" p) [x,y] [] pos) (z8x Ts m):=by
 walk_at "go"
 exact Mi.se_isiT hk hT hne hgl hm ha hy he he2 hpl
end
section
variable{X:Cx}{G:Gx}{F:Fy}{e o:Expr}{es:List Expr}{apos cpos:Pos}
theorem se_cl{name:Str}{id:String}{mo:M D}{ms:List (M D)}{g:D->List D->M D}(hk:X.K=G.K)(slot:Slot "list" name id)(hty:typeOf (.builtin id)=pure (.type "method_descriptor"))(hm:Cl X G F id g)(ho:SE X G F o mo)(ha:SA X G F (e::es) (Y4 ms))
 (hbase:attributeBase o name X.env (eval o X.env)=eval o X.env:=by rfl)
 (hfew:((backTo cpos (starEach (e::es) X.env)).all (fun x=> !x.1)&&(backToKw cpos (keywordEach [] X.env)).all (fun x=>x.1.isSome)
  &&decide ((e::es).length+([]:List Keyword).length+(if([]:List Keyword).isEmpty then 0 else 1)<30))=true:=by rfl)
 (hline:(apos.endLine==cpos.line)=true:=by rfl) (hs:starEach (e::es) X.env=(false,eval e X.env)::starEach es X.env:=by rfl) (hplain:(backTo cpos (starEach es X.env)).any (·.1)=false:=by rfl):SE X G F (.Call (.Attribute o name apos) (e::es) [] cpos) (z1S mo ms g):=by
 walk_at "go"
 exact Mi.se_cl hk slot hty hm ho ha hbase hfew hline hs hplain
theorem ss_sub2{o1 i1 o2 i2 v:Expr}{pos p1 p2 tpos:Pos}{k}{me mo1 mi1 mo2 mi2:M D}(hk:X.K=G.K)(hc:X.calm=true)(he:SE X G F v me)(h1:SE X G F o1 mo1)(h2:SE X G F i1 mi1)(h3:SE X G F o2 mo2)(h4:SE X G F i2 mi2)
 (hg: ∀{t1 t2 t3 t4:TE},PE X o1 t1->PE X i1 t2->PE X o2 t3->PE X i2 t4->PG X (.Tuple [.Subscript o1 i1 p1, .Subscript o2 i2 p2] k tpos) (zgq X.K 2 (z6R (zaM t1 t2 z38) (z6R (zaM t3 t4 z38) zdw))))
 (hs:swapsWithSole [.Tuple [.Subscript o1 i1 p1, .Subscript o2 i2 p2] k tpos] v pos.line X.env=pure false:=by rfl) (hw:swappedStores [.Tuple [.Subscript o1 i1 p1, .Subscript o2 i2 p2] k tpos] v X.env=pure none:=by rfl)
 (ha:(assignEach [.Tuple [.Subscript o1 i1 p1, .Subscript o2 i2 p2] k tpos] X.env).map (·.2)=[assign (.Tuple [.Subscript o1 i1 p1, .Subscript o2 i2 p2] k tpos) X.env]:=by rfl):
 SS X G F (.Assign [.Tuple [.Subscript o1 i1 p1, .Subscript o2 i2 p2] k tpos] v pos) (z8z me mo1 mi1 mo2 mi2):=by
 walk_at "go"
 exact Mi.ss_sub2 hk hc he h1 h2 h3 h4 hg hs hw ha
end
section
variable{X:Cx}{G:Gx}{F:Fy}{tg iter elt:Expr}{pos:Pos}
theorem se_compC{scope:Scope}{own frees:List Str}{ix:List Nat}{ifs:List Expr}{mi:M ItK}{g:Tg}{mt:M Bool}{me:M D}(hk:X.K=G.K)(hc:X.calm=true)(S:z0a X.env.scope scope own frees X.N ix)(hi:SI X G F tg iter mi)
 (hg: ∀(F:Fy) cl C s₀ H₀ fp pn,SG (V1 X scope own frees cl C s₀ H₀ fp pn) G F tg g) (ht: ∀(F:Fy) cl C s₀ H₀ fp pn,STs (V1 X scope own frees cl C s₀ H₀ fp pn) G F ifs mt) (he: ∀(F:Fy) cl C s₀ H₀ fp pn,SE (V1 X scope own frees cl C s₀ H₀ fp pn) G F elt me)
 (hs: ∀x,foldedSetIterable iter X.env x=pure x:=by intro _;rfl):SE X G F (.ListComp elt [⟨tg,iter,ifs,0⟩] scope pos) (W3 mi g mt me own.length ix):=by
 walk_at "go"
 exact Mi.se_compC hk hc S hi hg ht he hs
end
section
variable{X:Cx}{G:Gx}{F:Fy}{a b tg:Expr}{pos:Pos}
theorem si_enm{p tpos:Pos}{elts:List Expr}{x1:Nat}{ms:List (M D)}(hk:X.K=G.K)(hg:Gl X "enumerate")(hm:X.mg "enumerate" =none)(ha:SA X G F [a] (Y4 ms))(hs:starEach [a] X.env=[(false,eval a X.env)]:=by rfl):SI X G F (.Tuple elts x1 tpos) (.Call (.Name "enumerate" p) [a] [] pos) (zde ms):=by
 walk_at "go"
 exact Mi.si_enm hk hg hm ha hs
theorem se_addE{ma mb:M D}(hk:X.K=G.K)(ha:SE X G F a ma)(hb:SE X G F b mb):SE X G F (.BinOp a .Add b pos) (Z1 ma mb zeD):=by
 walk_at "go"
 exact Mi.se_addE hk ha hb
end
section
variable{X:Cx}{G:Gx}{F:Fy}{a b e:Expr}{ma mb:M D}{pos:Pos}
theorem se_dgt(hk:X.K=G.K)(hu:X.A.units+64<cLine)(ha:SE X G F a ma)(hb:SE X G F b mb)(hs:z0v b):SE X G F (.Subscript a b pos) (Z1 ma mb z9y):=by
 walk_at "go"
 exact Mi.se_dgt hk hu ha hb hs
theorem se_dnew(hk:X.K=G.K):SE X G F (.Dict [] [] pos) z8D:=by
 walk_at "go"
 exact Mi.se_dnew hk
theorem ss_dput{ob ix:Expr}{pos tpos:Pos}{mo mi me:M D}(hu:X.A.units+64<cLine)(he:SE X G F e me)(ho:SE X G F ob mo)(hi:SE X G F ix mi)(hs:swapsWith e (some (.Subscript ob ix tpos)) pos.line X.env=pure false:=by rfl):
 SS X G F (.Assign [.Subscript ob ix tpos] e pos) (mTri me mo mi z3f):=by
 walk_at "go"
 exact Mi.ss_dput hu he ho hi hs
end
section
variable{X:Cx}{G:Gx}{F:Fy}{tg iter elt:Expr}{pos:Pos}
theorem se_compD{scope:Scope}{own frees:List Str}{ix:List Nat}{ifs:List Expr}{m0:M D}{g:Tg}{mt:M Bool}{me:M D}(hk:X.K=G.K)(hc:X.calm=true)(S:G1 X.env.scope scope own frees X.N ix)(hi:SE X G F iter m0)
 (hg: ∀(F:Fy) cl C s₀ H₀ fp pn,SG (compCx X scope own frees cl C s₀ H₀ fp pn) G F tg g) (ht: ∀(F:Fy) cl C s₀ H₀ fp pn,STs (compCx X scope own frees cl C s₀ H₀ fp pn) G F ifs mt) (he: ∀(F:Fy) cl C s₀ H₀ fp pn,SE (compCx X scope own frees cl C s₀ H₀ fp pn) G F elt me)
 (hs: ∀x,foldedSetIterable iter X.env x=pure x:=by intro _;rfl):SE X G F (.ListComp elt [⟨tg,iter,ifs,0⟩] scope pos) (W3 (z2F m0) g mt me own.length ix):=by
 walk_at "go"
 exact Mi.se_compD hk hc S hi hg ht he hs
end
section
variable{X:Cx}{G:Gx}{F:Fy}{a b e:Expr}{ma mb:M D}{pos:Pos}
theorem ss_setN{i:Nat}{x:Str}{p:Pos}{m:M D}(hN:X.N.Nodup)(hi:X.N[i]? =some x)(hx:Loc X.env.scope x)(hf:X.fn x=true\/X.env.scope.names.lookup x=some .local)(he:SE X G F e m)(hs:swapsWith e (some (.Name x p)) pos.line X.env=pure false:=by rfl):SS X G F (.Assign [.Name x p] e pos) (Q8 (.nm i) m):=by
 walk_at "go"
 exact Mi.ss_setN hN hi hx hf he hs
end
inductive SEs(X:Cx)(G:Gx)(F:Fy):List Expr->List (M D)->Prop
 |nil:SEs X G F [] []
 |cons {e:Expr} {m:M D} {es:List Expr} {ms:List (M D)}:SE X G F e m->nst e=true->SEs X G F es ms->SEs X G F (e::es) (m::ms)
theorem ziR{X:Cx}{G:Gx}{F:Fy}{es:List Expr}{ms:List (M D)}(h:SEs X G F es ms):Mi.SEs X G F es ms:=by
 induction h with
 |nil=>exact .nil
 |cons h n _ ih=>rw[eSE] at h;exact .cons h n ih
theorem sa_of{X:Cx}{G:Gx}{F:Fy}{es:List Expr}{ms:List (M D)}(hk:X.K=G.K)(h:SEs X G F es ms):SA X G F es (Y4 ms):=by
 rw[eSA];exact Mi.sa_of hk (ziR h)
section
variable{X:Cx}{G:Gx}{F:Fy}{e:Expr}{pos pos' tpos:Pos}
theorem ss_augI{i:Nat}{x:Str}{m:M D}(hN:X.N.Nodup)(hi:X.N[i]? =some x)(hx:Loc X.env.scope x)(hf:X.fn x=true\/X.env.scope.names.lookup x=some .local)(he:SE X G F e m):SS X G F (.AugAssign (.Name x pos') .Add e pos) (z5L i m):=by
 rw[eSS];rw[eSE] at he
 exact Mi.ss_augI hN hi hx hf he
end
section
variable{X:Cx}{G:Gx}{F:Fy}{e a b c d:Expr}{pos p:Pos}{m ma mb mc md:M D}
theorem sv(i:Nat){x:Str}(hk:X.K=G.K:=by rfl)(hN:X.N[i]? =some x:=by rfl)(hv:Vis X.env.scope x:=by first|exact Or.inl rfl|exact Or.inr (Or.inl rfl)|exact Or.inr (Or.inr rfl))(hd:(x==("__debug__" :Str))=false:=by decide)(hcd:(x==("__classdict__" :Str))=false:=by decide):SE X G F (.Name x pos) (y0 i):=se_var i hk (pv i hN hv hd hcd)
theorem s1(h:SE X G F a ma)(n:nst a=true:=by rfl)(hk:X.K=G.K:=by rfl):SA X G F [a] (Y4 [ma]):=sa_of hk (.cons h n .nil)
theorem s2(h:SE X G F a ma)(h2:SE X G F b mb)(n:nst a=true:=by rfl)(n2:nst b=true:=by rfl)(hk:X.K=G.K:=by rfl):SA X G F [a,b] (Y4 [ma,mb]):=sa_of hk (.cons h n (.cons h2 n2 .nil))
theorem s3(h:SE X G F a ma)(h2:SE X G F b mb)(h3:SE X G F c mc)(n:nst a=true:=by rfl)(n2:nst b=true:=by rfl)(n3:nst c=true:=by rfl)(hk:X.K=G.K:=by rfl):SA X G F [a,b,c] (Y4 [ma,mb,mc]):=sa_of hk (.cons h n (.cons h2 n2 (.cons h3 n3 .nil)))
theorem s4(h:SE X G F a ma)(h2:SE X G F b mb)(h3:SE X G F c mc)(h4:SE X G F d md)(n:nst a=true:=by rfl)(n2:nst b=true:=by rfl)(n3:nst c=true:=by rfl)(n4:nst d=true:=by rfl)(hk:X.K=G.K:=by rfl):SA X G F [a,b,c,d] (Y4 [ma,mb,mc,md]):=sa_of hk (.cons h n (.cons h2 n2 (.cons h3 n3 (.cons h4 n4 .nil))))
theorem sst(i:Nat){x:Str}(hN:X.N.Nodup)(he:SE X G F e m)(hi:X.N[i]? =some x:=by rfl)(hx:Loc X.env.scope x:=by exact Or.inl rfl)(hs:swapsWith e (some (.Name x p)) pos.line X.env=pure false:=by rfl)(hf:X.fn x=true\/X.env.scope.names.lookup x=some .local:=by first|exact .inl rfl|exact .inr rfl|assumption):SS X G F (.Assign [.Name x p] e pos) (Q8 (.nm i) m):=
 ss_set (fun{te} h=>z2m hN hi hx h hs hf) he
theorem sgn(i:Nat){x:Str}(hN:X.N.Nodup)(hi:X.N[i]? =some x:=by rfl)(hx:Loc X.env.scope x:=by exact Or.inl rfl)(hf:X.fn x=true\/X.env.scope.names.lookup x=some .local:=by first|exact .inl rfl|exact .inr rfl|assumption):SG X G F (.Name x pos) (.nm i):=sg_name (j4 hN hi hx hf)
theorem sln{es:List Expr}{ms:List (M D)}(hm:X.mg "len" =none)(ha:SA X G F (e::es) (Y4 ms))(hgl:Gl X "len" :=by rfl)(he:starEach (e::es) X.env=(false,eval e X.env)::starEach es X.env:=by rfl)(hpl:(backTo pos (starEach es X.env)).any (·.1)=false:=by rfl)(hk:X.K=G.K:=by rfl):SE X G F (.Call (.Name "len" p) (e::es) [] pos) (mCB ms lenD):=
 se_cb hk (zez hk) hgl hm PyProof.Rows.Boot.«len» ha (by decide) (by decide) he hpl
theorem sc0{v:V}{d:D}(h:PE X e (tC v))(hd:cV d=some v:=by rfl)(hk:X.K=G.K:=by rfl):SE X G F e (mC d):=se_c hk h hd
theorem sxc{v:V}{q:D}(ha:SE X G F a ma)(h:PE X b (tC v))(hd:cV q=some v:=by rfl)(hs:z0v b:=by exact fun _ _=>rfl)(hk:X.K=G.K:=by rfl):SE X G F (.Subscript a b pos) (Z1 ma (mC q) ixD):=se_idx hk ha (se_c hk h hd) hs
theorem sxx(ha:SE X G F a ma)(hb:SE X G F b mb)(hs:z0v b:=by exact fun _ _=>rfl)(hk:X.K=G.K:=by rfl):SE X G F (.Subscript a b pos) (Z1 ma mb ixD):=se_idx hk ha hb hs
end
section
variable{G:Gx}{P:Program}{w:World}{K:W.Frag}{mg:Str->Option Value}{base:Heap}{x qual:Str}{st:Stmt}{fa:Addr}{fd:FuncData}{N ps:List Str}{k np:Nat}{f:FM}
theorem okM(mb:MS)(Fn:Fun K x qual st fa fd)(S:Y7 N ps (Z3 st))(hb: ∀(cdv:Value) (A:Around) (outer:List Env) (s:Shared) (H:Hp) (E:XK) (F:Fy),z2g k (A.deeper (envOfC qual (Z3 st) s.heap.objs.size fa cdv))->SSs (z9K CX0 P w K mg base N qual (Z3 st) fa cdv A outer s H E).nox G F (k7 st) mb)(hG:G.K=K:=by rfl)(hf:f=z0d N.length mb:=by rfl)(hn:np=ps.length:=by rfl):
 FnOk P w K mg base CX0 (k+1) fa fd ps (spM G np f):=by
 subst hf hn;exact fn_M Fn S hG hb
end
section
variable{X:Cx}{G:Gx}{F:Fy}{a b:Expr}{pos:Pos}
theorem si_zip{p tpos:Pos}{elts:List Expr}{x1:Nat}{ms:List (M D)}(hk:X.K=G.K)(hg:Gl X "zip")(hm:X.mg "zip" =none)(ha:SA X G F [a,b] (Y4 ms))(hs:starEach [a,b] X.env=[(false,eval a X.env),(false,eval b X.env)]:=by rfl)(hs2:starEach [b] X.env=[(false,eval b X.env)]:=by rfl):SI X G F (.Tuple elts x1 tpos) (.Call (.Name "zip" p) [a,b] [] pos) (zdg ms):=by
 rw[eSI];rw[eSA] at ha
 exact Mi.si_zip hk hg hm ha hs hs2
end
end My
namespace My
open PySem L2 Mi
noncomputable def top(i:Nat):Stmt:=PySem.Challenge.pw_signbench_k17_cost_of_a_cutting.main.body.getD i (.Pass ⟨0,0,0,0⟩)
noncomputable abbrev z0m:Stmt:=top 1
noncomputable abbrev G6:Stmt:=top 4
noncomputable abbrev z05:Stmt:=top 6
noncomputable abbrev V9:Stmt:=top 7
noncomputable abbrev z5M:Stmt:=top 9
noncomputable abbrev z43:Stmt:=top 10
noncomputable abbrev z2G:Stmt:=top 11
noncomputable abbrev z44:Stmt:=top 12
noncomputable abbrev z1T:Stmt:=top 13
noncomputable abbrev z0D:Stmt:=top 14
noncomputable abbrev z1U:Stmt:=top 15
noncomputable abbrev z5N:Stmt:=top 16
noncomputable abbrev z45:Stmt:=top 17
noncomputable abbrev z2H:Stmt:=top 18
noncomputable abbrev z46:Stmt:=top 19
noncomputable abbrev z1V:Stmt:=top 20
noncomputable abbrev z5O:Stmt:=top 21
noncomputable abbrev z2I:Stmt:=top 22
noncomputable abbrev x9:Stmt:=top 23
noncomputable abbrev z2J:Stmt:=top 24
noncomputable abbrev z1g:Stmt:=top 25
noncomputable abbrev z1h:Stmt:=top 26
noncomputable abbrev z47:Stmt:=top 27
noncomputable abbrev zcx:Stmt:=top 28
noncomputable abbrev z1z:List Str:=["thing"]
noncomputable abbrev z0n:List Str:=z1z
noncomputable abbrev K1:List Str:=["thing"]
noncomputable abbrev G7:List Str:=K1
noncomputable abbrev z3g:List Str:=["net", "thing", "at", "piece"]
noncomputable abbrev z06:List Str:=["net", "thing"]
noncomputable abbrev z2c:List Str:=["net", "rates", "cutting", "total", "ahead", "end", "signs", "kind", "cost"]
noncomputable abbrev X0:List Str:=["net", "rates", "cutting"]
noncomputable abbrev zcy:List Str:=["_law_script", "_law_at", "_law_cell", "_law_mix", "_law_k"]
noncomputable abbrev z5P:List Str:=["_law_script", "_law_at"]
noncomputable abbrev zak:List Str:=["_law_bag_here", "_law_many", "_law_digit"]
noncomputable abbrev z48:List Str:=["_law_bag_here", "_law_many"]
noncomputable abbrev z5a:List Str:=["_law_thing"]
noncomputable abbrev z2K:List Str:=z5a
noncomputable abbrev z6w:List Str:=["_law_thing", "_law_least", "_law_most"]
noncomputable abbrev z49:List Str:=z6w
noncomputable abbrev z3F:List Str:=["_law_thing", "_law_least", "_law_most", "_law_top"]
noncomputable abbrev z1W:List Str:=z3F
noncomputable abbrev z25:List Str:=["_law_thing", "_law_begin", "_law_many"]
noncomputable abbrev z0E:List Str:=z25
noncomputable abbrev z3G:List Str:=["_law_thing"]
noncomputable abbrev z3H:List Str:=z3G
noncomputable abbrev zcz:List Str:=["_law_bag_here", "_law_some"]
noncomputable abbrev z5Q:List Str:=["_law_bag_here"]
noncomputable abbrev zal:List Str:=["_law_bag_here", "_law_thing", "_law_way", "_law_odd_here", "_law_at", "_law_parts"]
noncomputable abbrev z6x:List Str:=["_law_bag_here", "_law_thing"]
noncomputable abbrev z8J:List Str:=["_law_bag_here", "_law_way"]
noncomputable abbrev z2L:List Str:=["_law_bag_here"]
noncomputable abbrev z6y:List Str:=["_law_bag_here"]
noncomputable abbrev z4a:List Str:=z6y
noncomputable abbrev z3I:List Str:=["_law_bag_here", "_law_most"]
noncomputable abbrev z1X:List Str:=z3I
noncomputable abbrev zcA:List Str:=["_law_bag_here", "_law_many", "_law_chain", "_law_wide", "_law_net_here", "_law_begin", "_law_found", "_law_turn", "_law_far", "_law_end"]
noncomputable abbrev z5R:List Str:=["_law_bag_here", "_law_many"]
noncomputable abbrev z8K:List Str:=["_law_bag_here", "_law_most", "_law_ahead", "_law_behind"]
noncomputable abbrev z2M:List Str:=["_law_bag_here"]
noncomputable abbrev z2d:List Str:=["_law_rates_here", "_law_cutting_here", "_law_kinds"]
noncomputable abbrev X3:List Str:=["_law_rates_here", "_law_cutting_here"]
noncomputable abbrev z8L:List Str:=["_law_net_here", "_law_thing", "_law_place", "_law_piece"]
noncomputable abbrev z2N:List Str:=["_law_net_here", "_law_thing"]
noncomputable abbrev z5S:List Str:=["_law_bag_here", "_law_net_here", "_law_cutting_here", "_law_place", "_law_turn"]
noncomputable abbrev z1i:List Str:=["_law_bag_here", "_law_net_here"]
noncomputable abbrev z5T:List Str:=["_law_net_here", "_law_found", "_law_k", "_law_pieces", "_law_some"]
noncomputable abbrev z1j:List Str:=["_law_net_here"]
noncomputable abbrev zam:List Str:=["_law_bag_here", "_law_cutting_here", "_law_at", "_law_place", "_law_piece"]
noncomputable abbrev z4b:List Str:=["_law_bag_here", "_law_cutting_here"]
noncomputable abbrev zhe:List Str:=["_law_script", "_law_k", "_law_bag_here", "_law_rates_here", "_law_net_here", "_law_cutting_here", "_law_things", "_law_thing", "_law_handed", "_law_found", "_law_cost_here"]
noncomputable abbrev zcB:List Str:=["_law_script"]
local macro_rules | `(tactic| walk_at "sc") => `(tactic| exact ⟨rfl, rfl, rfl, by decide +kernel, rfl, by decide +kernel, by decide +kernel⟩)
theorem z3h:Y7 z1z z0n (Z3 z0m):=by walk_at "sc"
theorem z16:Y7 K1 G7 (Z3 G6):=by walk_at "sc"
theorem U6:Y7 z3g z06 (Z3 z05):=by walk_at "sc"
theorem Y1:Y7 z2c X0 (Z3 V9):=by walk_at "sc"
theorem z0o:Y7 zcy z5P (Z3 z5M):=by walk_at "sc"
theorem z5b:Y7 zak z48 (Z3 z43):=by walk_at "sc"
theorem z7f:Y7 z5a z2K (Z3 z2G):=by walk_at "sc"
theorem z8M:Y7 z6w z49 (Z3 z44):=by walk_at "sc"
theorem z5U:Y7 z3F z1W (Z3 z1T):=by walk_at "sc"
theorem z4c:Y7 z25 z0E (Z3 z0D):=by walk_at "sc"
theorem z5V:Y7 z3G z3H (Z3 z1U):=by walk_at "sc"
theorem z6z:Y7 zcz z5Q (Z3 z5N):=by walk_at "sc"
theorem K2:Y7 zal z6x (Z3 z45):=by walk_at "sc"
theorem z3J:Y7 z8J z2L (Z3 z2H):=by walk_at "sc"
theorem z8N:Y7 z6y z4a (Z3 z46):=by walk_at "sc"
theorem z5W:Y7 z3I z1X (Z3 z1V):=by walk_at "sc"
theorem V3:Y7 zcA z5R (Z3 z5O):=by walk_at "sc"
theorem z0S:Y7 z8K z2M (Z3 z2I):=by walk_at "sc"
theorem z0b:Y7 z2d X3 (Z3 x9):=by walk_at "sc"
theorem z0T:Y7 z8L z2N (Z3 z2J):=by walk_at "sc"
theorem V6:Y7 z5S z1i (Z3 z1g):=by walk_at "sc"
theorem V7:Y7 z5T z1j (Z3 z1h):=by walk_at "sc"
theorem z1A:Y7 zam z4b (Z3 z47):=by walk_at "sc"
theorem z0F:Y7 zhe zcB (Z3 zcx):=by walk_at "sc"
structure Dx(K:W.Frag)(mg:Str->Option Value)(x:Str)(st:Stmt)(ps:List Str) where
 f:Addr
 d:FuncData
 F:Fun K x x st f d
 b:z37 K d ps []
 m:mg x=some (.ref f)
theorem scl{X:Cx}{G:Gx}{F:Fy}{e:Expr}{es:List Expr}{pos p:Pos}{CX:CXT}{k j:Nat}{x:Str}{st:Stmt}{ps:List Str}{E:XK}{f:FM}{ms:List (M D)}(d:Dx X.K X.mg x st ps)(Fn:FnOk X.prog X.w X.K X.mg X.base CX j d.f d.d ps (spM G ps.length f))(hr:z2g k X.A)(ha:SA X G F (e::es) (Y4 ms))(hg:Gl X x:=by rfl)(hx:z3p CX X E:=by exact z6Y)(hln:ms.length=ps.length:=by rfl)(hk:X.K=G.K:=by rfl)(hj:j<=k:=by lia)(hdb:(x==("__debug__" :Str))=false:=by decide)(he:starEach (e::es) X.env=(false,eval e X.env)::starEach es X.env:=by rfl)(hpl:(backTo pos (starEach es X.env)).any (·.1)=false:=by rfl):SE X G F (.Call (.Name x p) (e::es) [] pos) (Z2 f ms):=se_call hk (Fn.mono hj) hr hg d.m d.F.kp d.b hx ha hln hdb he hpl
set_option genInjectivity false in
set_option genSizeOf false in
set_option genSizeOfSpec false in
structure Wd(K:W.Frag)(mg:Str->Option Value) where
 x_p_is_number:Dx K mg "is_number" z0m z0n
 x_p_has_piece_kinds:Dx K mg "has_piece_kinds" G6 G7
 x_p_is_cutting:Dx K mg "is_cutting" z05 z06
 x_p_cutting_cost:Dx K mg "cutting_cost" V9 X0
 x_l_bag:Dx K mg "_law_bag" z5M z5P
 x_l_take:Dx K mg "_law_take" z43 z48
 x_l_whole:Dx K mg "_law_whole" z2G z2K
 x_l_from:Dx K mg "_law_from" z44 z49
 x_l_is_row:Dx K mg "_law_is_row" z1T z1W
 x_l_is_piece:Dx K mg "_law_is_piece" z0D z0E
 x_l_copied:Dx K mg "_law_copied" z1U z3H
 x_l_odd:Dx K mg "_law_odd" z5N z5Q
 x_l_bent:Dx K mg "_law_bent" z45 z6x
 x_l_signs:Dx K mg "_law_signs" z2H z2L
 x_l_cost:Dx K mg "_law_cost" z46 z4a
 x_l_places:Dx K mg "_law_places" z1V z1X
 x_l_net:Dx K mg "_law_net" z5O z5R
 x_l_rates:Dx K mg "_law_rates" z2I z2M
 x_l_cutting_cost:Dx K mg "_law_cutting_cost" x9 X3
 x_l_leads:Dx K mg "_law_leads" z2J z2N
 x_l_cutting:Dx K mg "_law_cutting" z1g z1i
 x_l_chained:Dx K mg "_law_chained" z1h z1j
 x_l_true:Dx K mg "_law_true" z47 z4b
 x_law:Dx K mg "law" zcx zcB
 n_abs:mg "abs" =none
 n_all:mg "all" =none
 n_bool:mg "bool" =none
 c_END_KIND: ∃t,mg "END_KIND" =some (.int 9 t)
 n_enumerate:mg "enumerate" =none
 n_int:mg "int" =none
 n_isinstance:mg "isinstance" =none
 n_len:mg "len" =none
 n_list:mg "list" =none
 n_max:mg "max" =none
 n_min:mg "min" =none
 n_range:mg "range" =none
 n_sorted:mg "sorted" =none
 n_sum:mg "sum" =none
 n_tuple:mg "tuple" =none
 n_zip:mg "zip" =none
section
variable{P:Program}{w:World}{K:W.Frag}{mg:Str->Option Value}{base:Heap}
noncomputable def z0p:MS:=(J3 (z3Y (z34 "int" (y0 0)) (z75 (z34 "bool" (y0 0)))))
noncomputable def U7:FM:=z0d 1 z0p
theorem z3i(T:Wd K mg):FnOk P w K mg base CX0 1 T.x_p_is_number.f T.x_p_is_number.d z0n (spM (G0 K) 1 U7):=okM z0p T.x_p_is_number.F z3h fun cdv A outer s H E F hr=>(ss_one (ss_ret (se_and (se_isi rfl (by decide) rfl T.n_isinstance (sv 0) (J7 (v:= .ty "int") rfl T.n_int PyProof.Rows.Boot.«int» rfl)) (se_one (se_not (se_isi rfl (by decide) rfl T.n_isinstance (sv 0) (J7 (v:= .ty "bool") rfl T.n_bool PyProof.Rows.Boot.«bool» rfl)))))))
noncomputable def G8:MS:=(Y2 (sIf (mOr (z3d (U5 (z34 "tuple" (y0 0)))) (mOr (g9 (Z1 (mCB [(y0 0)] lenD) (mC (.int 4)) neD)) (z3d (U5 (z34 "tuple" (Z1 (y0 0) (mC (.int 1)) ixD)))))) (J3 (mC (.bool false))) sNx)
 (J3 (mCB [(W3 (G2 (Z1 (mCB [(Z1 (y0 0) (mC (.int 0)) ixD),(Z1 (y0 0) (mC (.int 2)) ixD),(Z1 (y0 0) (mC (.int 3)) ixD)] K9) (Z1 (y0 0) (mC (.int 1)) ixD) J1)) (.nm 0) (rt true) (Z2 U7 [(y0 0)]) 1 [])] zch)))
noncomputable def Q6:FM:=z0d 1 G8
theorem z17(T:Wd K mg):FnOk P w K mg base CX0 2 T.x_p_has_piece_kinds.f T.x_p_has_piece_kinds.d G7 (spM (G0 K) 1 Q6):=okM G8 T.x_p_has_piece_kinds.F z16 fun cdv A outer s H E F hr=>by
 have h64:=hr.units
 exact(ss_cons (ss_if (SW.sb (sw_or (sb_not (sb_truth rfl (se_isi rfl (by decide) rfl T.n_isinstance (sv 0) (J7 (v:= .ty "tuple") rfl T.n_tuple PyProof.Rows.Boot.«tuple» rfl)))) (sw_or (sb_cmp (z5I rfl h64) (sln T.n_len (s1 (sv 0))) (sc0 y6) (W7 _)) (sw_or1 (sb_not (sb_truth rfl (se_isi rfl (by decide) rfl T.n_isinstance (sxc (sv 0) y6) (J7 (v:= .ty "tuple") rfl T.n_tuple PyProof.Rows.Boot.«tuple» rfl)))))))) (ss_one (ss_ret (sc0 z1M))) ss_nil)
 (ss_one (ss_ret (se_cb rfl (zb8 rfl hr.hd) rfl T.n_all PyProof.Rows.Boot.«all» (s1 (se_comp (own:=["part"]) (frees:=[]) (ix:=[]) rfl rfl (U3.sc (by kernel_rfl)) (si_seq rfl (se_add rfl (se_tup rfl (s3 (sxc (sv 0) y6) (sxc (sv 0) y6) (sxc (sv 0) y6))) (sxc (sv 0) y6))) (fun _ _ _ _ _ _ _=>(sg_name (j4 (i:=0) (show C1 (["part"]:List Str) by decide+kernel) rfl (Or.inl rfl)))) (fun _ _ _ _ _ _ _=>sts_nil) (fun _ _ _ _ _ _ _=>(scl T.x_p_is_number (z3i T) hr (s1 (sv 0))))))))))
noncomputable def z07:MS:=(Y2 (sIf (z3d (U5 (z34 "list" (y0 1)))) (J3 (mC (.bool false))) sNx)
 (Y2 (Q8 (.nm 2) (mC (.int 0)))
 (Y2 (z35 (G2 (y0 1)) (.nm 3) (Y2 (sIf (mOr (g9 (Z1 (y0 2) (mCB [(y0 0)] lenD) eqD)) (mOr (z3d (U5 (Z2 Q6 [(y0 3)]))) (g9 (Z1 (y0 3) (Z1 (y0 0) (y0 2) ixD) z9x)))) (J3 (mC (.bool false))) sNx)
 (Q8 (.nm 2) (Z1 (y0 3) (mC (.int 0)) ixD))))
 (J3 (Z1 (y0 2) (mCB [(y0 0)] lenD) eqD)))))
noncomputable def G3:FM:=z0d 4 z07
theorem z2O(T:Wd K mg):FnOk P w K mg base CX0 3 T.x_p_is_cutting.f T.x_p_is_cutting.d z06 (spM (G0 K) 2 G3):=okM z07 T.x_p_is_cutting.F U6 fun cdv A outer s H E F hr=>by
 have h64:=hr.units
 exact(ss_cons (ss_if (sb_not (sb_truth rfl (se_isi rfl (by decide) rfl T.n_isinstance (sv 1) (J7 (v:= .ty "list") rfl T.n_list PyProof.Rows.Boot.«list» rfl)))) (ss_one (ss_ret (sc0 z1M))) ss_nil)
 (ss_cons (sst 2 U6.nd (sc0 y6))
 (ss_cons (ss_for PassesOwn.never rfl (si_seq rfl (sv 1)) (sgn 3 U6.nd) (ss_cons (ss_if (SW.sb (sw_or (sb_cmp (z0B rfl h64) (sv 2) (sln T.n_len (s1 (sv 0))) (W7 _)) (sw_or (sb_not (sb_truth rfl (scl T.x_p_has_piece_kinds (z17 T) hr (s1 (sv 3))))) (sw_or1 (sb_cmp (zb7 rfl h64) (sv 3) (sxx (sv 0) (sv 2)) (by with_unfolding_all rfl)))))) (ss_one (ss_ret (sc0 z1M))) ss_nil)
 (ss_one (sst 2 U6.nd (sxc (sv 3) y6)))))
 (ss_one (ss_ret (se_cmp (z0B rfl h64) (sv 2) (sln T.n_len (s1 (sv 0))) (W7 _)))))))
noncomputable def X4:MS:=(Y2 (Q8 (.nm 3) (mC (.int 0)))
 (Y2 (Q8 (.nm 4) (mC (.int 9)))
 (Y2 (z35 (G2 (y0 2)) (.tp [(.nm 5),(.nm 6),(.nm 7),(.nm 8)]) (Y2 (z5L 3 (Z1 (Z1 (Z1 (y0 1) (y0 4) ixD) (y0 7) ixD) (y0 8) J1))
 (Q8 (.nm 4) (y0 7))))
 (J3 (Z1 (y0 3) (Z1 (Z1 (y0 1) (y0 4) ixD) (mC (.int 9)) ixD) J1)))))
noncomputable def j5:FM:=z0d 9 X4
theorem z1Y(T:Wd K mg):FnOk P w K mg base CX0 1 T.x_p_cutting_cost.f T.x_p_cutting_cost.d X0 (spM (G0 K) 3 j5):=okM X4 T.x_p_cutting_cost.F Y1 fun cdv A outer s H E F hr=>(ss_cons (sst 3 Y1.nd (sc0 y6))
 (ss_cons (sst 4 Y1.nd (se_c rfl (z7C (v:= .int 9) rfl T.c_END_KIND.choose_spec ⟨_,rfl⟩)))
 (ss_cons (ss_for PassesOwn.never rfl (si_seq rfl (sv 2)) (sg_tup rfl rfl (sgs_cons (sgn 5 Y1.nd) (sgs_cons (sgn 6 Y1.nd) (sgs_cons (sgn 7 Y1.nd) (sgs_cons (sgn 8 Y1.nd) sgs_nil))))) (ss_cons (ss_augI (i:=3) Y1.nd rfl (Or.inl rfl) (by first|exact .inl rfl|exact .inr rfl) (se_add rfl (sxx (sxx (sv 1) (sv 4)) (sv 7)) (sv 8)))
 (ss_one (sst 4 Y1.nd (sv 7)))))
 (ss_one (ss_ret (se_add rfl (sv 3) (sxx (sxx (sv 1) (sv 4)) (se_c rfl (z7C (v:= .int 9) rfl T.c_END_KIND.choose_spec ⟨_,rfl⟩)))))))))
noncomputable def z5X:MS:=(Y2 (Q8 (.nm 2) (mC (.int 0)))
 (Y2 (sIf (g9 (Z1 (y0 1) (mCB [(y0 0)] lenD) ltD)) (Q8 (.nm 2) (mCB [(Z1 (y0 0) (y0 1) ixD)] zdb)) sNx)
 (Y2 (Q8 (.nm 3) (Z1 (Z1 (Z1 (Z1 (Z1 (y0 2) (mC (.int 2147483629)) z3u) (Z1 (mC (.int 104729)) (y0 1) z4z) J1) (mC (.int 17)) J1) (mC (.int 5)) z9w) (mC (.int 2147483647)) z3u))
 (Y2 (z35 (U1 [(mCB [(mCB [(y0 0)] lenD),(mC (.int 60))] za0)]) (.nm 4) (Q8 (.nm 3) (Z1 (Z1 (Z1 (Z1 (y0 3) (mC (.int 48271)) z4z) (Z1 (Z1 (Z1 (y0 0) (y0 4) ixD) (mC (.int 2147483587)) z3u) (Z1 (y0 4) (mC (.int 3)) J1) z4z) J1) (y0 4) J1) (mC (.int 2147483629)) z3u)))
 (Y2 (sIf (g9 (Z1 (y0 2) (Z1 (mC (.int 10)) (mC (.int 18)) z9w) ltD)) (Q8 (.nm 2) (mC (.int 0))) sNx)
 (J3 (mCB [(y0 2),(y0 3)] lstM)))))))
noncomputable def z2P:FM:=z0d 5 z5X
theorem zan(T:Wd K mg):FnOk P w K mg base CX0 1 T.x_l_bag.f T.x_l_bag.d z5P (spM (G0 K) 2 z2P):=okM z5X T.x_l_bag.F z0o fun cdv A outer s H E F hr=>(ss_cons (sst 2 z0o.nd (sc0 y6))
 (ss_cons (ss_if (sb_cmp z8s (sv 1) (sln T.n_len (s1 (sv 0))) (W7 _)) (ss_one (sst 2 z0o.nd (se_cb rfl zeA rfl T.n_abs PyProof.Rows.Boot.«abs» (s1 (sxx (sv 0) (sv 1)))))) ss_nil)
 (ss_cons (sst 3 z0o.nd (se_mod rfl (se_pow rfl (se_add rfl (se_add rfl (se_mod rfl (sv 2) (sc0 y6)) (se_mul rfl (sc0 y6) (sv 1))) (sc0 y6)) (sc0 y6)) (sc0 y6)))
 (ss_cons (ss_for PassesOwn.never rfl (si_rng1 rfl T.n_range (s1 (se_cb rfl (z8t rfl) rfl T.n_min PyProof.Rows.Boot.«min» (s2 (sln T.n_len (s1 (sv 0))) (sc0 y6))))) (sgn 4 z0o.nd) (ss_one (sst 3 z0o.nd (se_mod rfl (se_add rfl (se_add rfl (se_mul rfl (sv 3) (sc0 y6)) (se_mul rfl (se_mod rfl (sxx (sv 0) (sv 4)) (sc0 y6)) (se_add rfl (sv 4) (sc0 y6)))) (sv 4)) (sc0 y6)))))
 (ss_cons (ss_if (sb_cmp z8s (sv 2) (se_pow rfl (sc0 y6) (sc0 y6)) (W7 _)) (ss_one (sst 2 z0o.nd (sc0 y6))) ss_nil)
 (ss_one (ss_ret (se_lst rfl (s2 (sv 2) (sv 3))))))))))
noncomputable def z4d:MS:=(Y2 (sIf (g9 (Z1 (Z1 (y0 0) (mC (.int 0)) ixD) (mC (.int 0)) gtD)) (Y2 (Q8 (.nm 2) (Z1 (Z1 (y0 0) (mC (.int 0)) ixD) (y0 1) z3u))
 (Y2 (mTri (Z1 (Z1 (y0 0) (mC (.int 0)) ixD) (y0 1) z4T) (y0 0) (mC (.int 0)) setD)
 (J3 (y0 2)))) sNx)
 (Y2 (mTri (Z1 (Z1 (Z1 (Z1 (y0 0) (mC (.int 1)) ixD) (mC (.int 48271)) z4z) (mC (.int 7919)) J1) (mC (.int 2147483647)) z3u) (y0 0) (mC (.int 1)) setD)
 (J3 (Z1 (Z1 (Z1 (Z1 (Z1 (Z1 (Z1 (y0 0) (mC (.int 1)) ixD) (mC (.int 3)) z9w) (mC (.int 2147483587)) z3u) (mC (.int 7)) z4T) (mC (.int 69621)) z4z) (mC (.int 1073741789)) z3u) (y0 1) z3u))))
noncomputable def Z0:FM:=z0d 3 z4d
theorem Z4(T:Wd K mg):FnOk P w K mg base CX0 1 T.x_l_take.f T.x_l_take.d z48 (spM (G0 K) 2 Z0):=okM z4d T.x_l_take.F z5b fun cdv A outer s H E F hr=>(ss_cons (ss_if (sb_cmp z7c (sxc (sv 0) y6) (sc0 y6) (W7 _)) (ss_cons (sst 2 z5b.nd (se_mod rfl (sxc (sv 0) y6) (sv 1)))
 (ss_cons (ss_setI (se_fdiv rfl (sxc (sv 0) y6) (sv 1)) (sv 0) (sc0 y6) (fun{to ti} h1 h2=>z4D h1 h2 z1r))
 (ss_one (ss_ret (sv 2))))) ss_nil)
 (ss_cons (ss_setI (se_mod rfl (se_add rfl (se_mul rfl (sxc (sv 0) y6) (sc0 y6)) (sc0 y6)) (sc0 y6)) (sv 0) (sc0 y6) (fun{to ti} h1 h2=>z4D h1 h2 z1r))
 (ss_one (ss_ret (se_mod rfl (se_mod rfl (se_mul rfl (se_fdiv rfl (se_mod rfl (se_pow rfl (sxc (sv 0) y6) (sc0 y6)) (sc0 y6)) (sc0 y6)) (sc0 y6)) (sc0 y6)) (sv 1))))))
noncomputable def z2Q:MS:=(J3 (z3Y (z34 "int" (y0 0)) (z75 (z34 "bool" (y0 0)))))
noncomputable def f_l_whole:FM:=z0d 1 z2Q
theorem z1Z(T:Wd K mg):FnOk P w K mg base CX0 1 T.x_l_whole.f T.x_l_whole.d z2K (spM (G0 K) 1 f_l_whole):=okM z2Q T.x_l_whole.F z7f fun cdv A outer s H E F hr=>(ss_one (ss_ret (se_and (se_isi rfl (by decide) rfl T.n_isinstance (sv 0) (J7 (v:= .ty "int") rfl T.n_int PyProof.Rows.Boot.«int» rfl)) (se_one (se_not (se_isi rfl (by decide) rfl T.n_isinstance (sv 0) (J7 (v:= .ty "bool") rfl T.n_bool PyProof.Rows.Boot.«bool» rfl)))))))
noncomputable def z4e:MS:=(J3 (z3Y (Z2 f_l_whole [(y0 0)]) (z2A (y0 1) (y0 0) (y0 2) leD leD)))
noncomputable def z02:FM:=z0d 3 z4e
theorem z1B(T:Wd K mg):FnOk P w K mg base CX0 2 T.x_l_from.f T.x_l_from.d z49 (spM (G0 K) 3 z02):=okM z4e T.x_l_from.F z8M fun cdv A outer s H E F hr=>(ss_one (ss_ret (se_and (scl T.x_l_whole (z1Z T) hr (s1 (sv 0))) (se_one (se_cmp2 zey zey (sv 1) (sv 0) (sv 2))))))
noncomputable def z20:MS:=(Y2 (sIf (mOr (z3d (U5 (z34 "tuple" (y0 0)))) (mOr (g9 (Z1 (mCB [(y0 0)] lenD) (y0 1) ltD)) (g9 (Z1 (mCB [(y0 0)] lenD) (y0 2) gtD)))) (J3 (mC (.bool false))) sNx)
 (J3 (mCB [(W3 (G2 (y0 0)) (.nm 0) (rt true) (Z2 z02 [(y0 0),(mC (.int 0)),(y0 1)]) 1 [3])] zch)))
noncomputable def z0U:FM:=z0d 4 z20
theorem z5Y(T:Wd K mg):FnOk P w K mg base CX0 3 T.x_l_is_row.f T.x_l_is_row.d z1W (spM (G0 K) 4 z0U):=okM z20 T.x_l_is_row.F z5U fun cdv A outer s H E F hr=>(ss_cons (ss_if (SW.sb (sw_or (sb_not (sb_truth rfl (se_isi rfl (by decide) rfl T.n_isinstance (sv 0) (J7 (v:= .ty "tuple") rfl T.n_tuple PyProof.Rows.Boot.«tuple» rfl)))) (sw_or (sb_cmp z8s (sln T.n_len (s1 (sv 0))) (sv 1) (W7 _)) (sw_or1 (sb_cmp z7c (sln T.n_len (s1 (sv 0))) (sv 2) (W7 _)))))) (ss_one (ss_ret (sc0 z1M))) ss_nil)
 (ss_one (ss_ret (se_cb rfl (zb8 rfl hr.hd) rfl T.n_all PyProof.Rows.Boot.«all» (s1 (se_comp (own:=["_law_one"]) (frees:=["_law_top"]) (ix:=[3]) rfl rfl (U3.sc (by kernel_rfl)) (si_seq rfl (sv 0)) (fun _ _ _ _ _ _ _=>(sg_name (j4 (i:=0) (show C1 (["_law_one", "_law_top"]:List Str) by decide+kernel) rfl (Or.inl rfl)))) (fun _ _ _ _ _ _ _=>sts_nil) (fun _ _ _ _ _ _ _=>(scl T.x_l_from (z1B T) hr (s3 (sv 0) (sc0 y6) (sv 1))))))))))
noncomputable def z0G:MS:=(Y2 (sIf (mOr (z3d (U5 (z34 "tuple" (y0 0)))) (mOr (g9 (Z1 (mCB [(y0 0)] lenD) (mC (.int 4)) neD)) (z3d (U5 (Z2 z02 [(Z1 (y0 0) (mC (.int 0)) ixD),(Z1 (y0 1) (mC (.int 1)) J1),(y0 2)]))))) (J3 (mC (.bool false))) sNx)
 (J3 (z3Y (Z2 z0U [(Z1 (y0 0) (mC (.int 1)) ixD),(mC (.int 1)),(mC (.int 24)),(mC (.int 1039))]) (z3Y (Z2 z02 [(Z1 (y0 0) (mC (.int 2)) ixD),(mC (.int 0)),(mC (.int 8))]) (Z2 z02 [(Z1 (y0 0) (mC (.int 3)) ixD),(mC (.int 0)),(mC (.int 99999))])))))
noncomputable def V8:FM:=z0d 3 z0G
theorem z4f(T:Wd K mg):FnOk P w K mg base CX0 4 T.x_l_is_piece.f T.x_l_is_piece.d z0E (spM (G0 K) 3 V8):=okM z0G T.x_l_is_piece.F z4c fun cdv A outer s H E F hr=>by
 have h64:=hr.units
 exact(ss_cons (ss_if (SW.sb (sw_or (sb_not (sb_truth rfl (se_isi rfl (by decide) rfl T.n_isinstance (sv 0) (J7 (v:= .ty "tuple") rfl T.n_tuple PyProof.Rows.Boot.«tuple» rfl)))) (sw_or (sb_cmp (z5I rfl h64) (sln T.n_len (s1 (sv 0))) (sc0 y6) (W7 _)) (sw_or1 (sb_not (sb_truth rfl (scl T.x_l_from (z1B T) hr (s3 (sxc (sv 0) y6) (se_add rfl (sv 1) (sc0 y6)) (sv 2))))))))) (ss_one (ss_ret (sc0 z1M))) ss_nil)
 (ss_one (ss_ret (se_and (scl T.x_l_is_row (z5Y T) hr (s4 (sxc (sv 0) y6) (sc0 y6) (sc0 y6) (sc0 y6))) (se_and (scl T.x_l_from (z1B T) hr (s3 (sxc (sv 0) y6) (sc0 y6) (sc0 y6))) (se_one (scl T.x_l_from (z1B T) hr (s3 (sxc (sv 0) y6) (sc0 y6) (sc0 y6)))))))))
noncomputable def Q0(self:FM):MS:=(Y2 (sIf (U5 (z34 "list" (y0 0))) (J3 (W3 (G2 (y0 0)) (.nm 0) (rt true) (Z2 self [(y0 0)]) 1 [])) sNx)
 (J3 (y0 0)))
noncomputable def Z7:Nat->FM
 |0=>fun _ _=> .no
 |k+1=>z0d 1 (Q0 (Z7 k))
theorem z1k(T:Wd K mg): ∀k,FnOk P w K mg base CX0 (1+k) T.x_l_copied.f T.x_l_copied.d ["_law_thing"] (spM (G0 K) 1 (Z7 k))
 |0=>z8y
 |k+1=>by
  have ih:=z1k T k
  have h:FnOk P w K mg base CX0 (1+k+1) T.x_l_copied.f T.x_l_copied.d ["_law_thing"] (spM (G0 K) (D7 (["_law_thing"]:List Str)) (z0d (D7 (["_law_thing"]:List Str)) (Q0 (Z7 k)))):=fn_M T.x_l_copied.F z5V rfl fun cdv A outer s H E F hr=>(ss_cons (ss_if (sb_truth rfl (se_isi rfl (by decide) rfl T.n_isinstance (sv 0) (J7 (v:= .ty "list") rfl T.n_list PyProof.Rows.Boot.«list» rfl))) (ss_one (ss_ret (se_comp (own:=["_law_one"]) (frees:=[]) (ix:=[]) rfl rfl (U3.sc (by kernel_rfl)) (si_seq rfl (sv 0)) (fun _ _ _ _ _ _ _=>(sg_name (j4 (i:=0) (show C1 (["_law_one"]:List Str) by decide+kernel) rfl (Or.inl rfl)))) (fun _ _ _ _ _ _ _=>sts_nil) (fun _ _ _ _ _ _ _=>(se_call rfl ih hr rfl T.x_l_copied.m T.x_l_copied.F.kp T.x_l_copied.b z6Y (s1 (sv 0)) rfl))))) ss_nil)
  (ss_one (ss_ret (sv 0))))
  exact h
noncomputable def z5Z:MS:=(Y2 (Q8 (.nm 1) (mCB [(mC .non),(mC (.bool true)),(mC (.bool false)),(mC (.str ("" :Str))),(mC (.str ("1" :Str))),(bd (mC (.int 1)) z6k),(mC (.int 0)),(mC (.int 1)),(Z1 (mC (.int 10)) (mC (.int 59)) z9w),(mCB [] K9),(mCB [] lstM),(mCB [(mC (.int 0))] K9),(mCB [(mC (.int 0))] lstM),(mC (.str ("border" :Str))),(mC (.int 24)),(mC (.int 25)),(mC (.int 40)),(mC (.int 1040)),(mCB [(mCB [] K9)] K9),(bd (mC (.int 7)) z6k)] lstM))
 (J3 (Z1 (y0 1) (Z2 Z0 [(y0 0),(mC (.int 20))]) ixD)))
noncomputable def z0H:FM:=z0d 2 z5Z
theorem z4g(T:Wd K mg):FnOk P w K mg base CX0 2 T.x_l_odd.f T.x_l_odd.d z5Q (spM (G0 K) 1 z0H):=okM z5Z T.x_l_odd.F z6z fun cdv A outer s H E F hr=>(ss_cons (ss_setN (i:=1) z6z.nd rfl (Or.inl rfl) (Or.inl rfl) (se_lst rfl (sa_of rfl (.cons (sc0 zdo) rfl (.cons (sc0 z1M) rfl (.cons (sc0 z1M) rfl (.cons (sc0 z7A) rfl (.cons (sc0 z7A) rfl (.cons (se_neg rfl (sc0 y6)) rfl (.cons (sc0 y6) rfl (.cons (sc0 y6) rfl (.cons (se_pow rfl (sc0 y6) (sc0 y6)) rfl (.cons (se_tup rfl (sa_of rfl .nil)) rfl (.cons (se_lst rfl (sa_of rfl .nil)) rfl (.cons (se_tup rfl (s1 (sc0 y6))) rfl (.cons (se_lst rfl (s1 (sc0 y6))) rfl (.cons (sc0 z7A) rfl (.cons (sc0 y6) rfl (.cons (sc0 y6) rfl (.cons (sc0 y6) rfl (.cons (sc0 y6) rfl (.cons (se_tup rfl (s1 (se_tup rfl (sa_of rfl .nil)))) rfl (.cons (se_neg rfl (sc0 y6)) rfl .nil)))))))))))))))))))))))
 (ss_one (ss_ret (sxx (sv 1) (scl T.x_l_take (Z4 T) hr (s2 (sv 0) (sc0 y6)))))))
noncomputable def z0q(self:FM):MS:=(Y2 (Q8 (.nm 2) (Z2 Z0 [(y0 0),(mC (.int 8))]))
 (Y2 (Q8 (.nm 3) (Z2 z0H [(y0 0)]))
 (Y2 (sIf (zcg (U5 (Z2 f_l_whole [(y0 1)])) (g9 (Z1 (y0 2) (mC (.int 4)) ltD))) (J3 (Z1 (y0 1) (Z1 (mCB [(mC (.int 1)),(bd (mC (.int 1)) z6k),(mC (.int 1040)),(mC (.int 100000))] lstM) (y0 2) ixD) zeD)) sNx)
 (Y2 (sIf (mOr (z3d (U5 (z8x ["tuple", "list"] (y0 1)))) (mOr (g9 (Z1 (mCB [(y0 1)] lenD) (mC (.int 0)) eqD)) (g9 (Z1 (y0 2) (mC (.int 0)) eqD)))) (J3 (y0 3)) sNx)
 (Y2 (Q8 (.nm 4) (Z2 Z0 [(y0 0),(mCB [(y0 1)] lenD)]))
 (Y2 (Q8 (.nm 5) (mCB [(y0 1)] z77))
 (Y2 (sIf (g9 (Z1 (y0 2) (mC (.int 1)) eqD)) (Q8 (.nm 5) (Z1 (mSl (y0 5) none (some (y0 4))) (mSl (y0 5) (some (Z1 (y0 4) (mC (.int 1)) J1)) none) J1)) (sIf (g9 (Z1 (y0 2) (mC (.int 2)) eqD)) (Q8 (.nm 5) (Z1 (Z1 (mSl (y0 5) none (some (y0 4))) (mCB [(Z1 (y0 5) (y0 4) ixD)] lstM) J1) (mSl (y0 5) (some (y0 4)) none) J1)) (sIf (g9 (Z1 (y0 2) (mC (.int 3)) eqD)) (z8z (mCB [(Z1 (y0 5) (mC (.int 0)) ixD),(Z1 (y0 5) (y0 4) ixD)] K9) (y0 5) (y0 4) (y0 5) (mC (.int 0))) (sIf (zcg (g9 (Z1 (y0 2) (mC (.int 4)) eqD)) (g9 (Z1 (Z2 Z0 [(y0 0),(mC (.int 4))]) (mC (.int 0)) eqD))) (J3 (Z1 (mCB [(mCB [(y0 1)] z77),(mCB [(y0 1)] tupF)] lstM) (mCB [(z34 "list" (y0 1))] zci) ixD)) (mTri (Z2 self [(y0 0),(Z1 (y0 5) (y0 4) ixD)]) (y0 5) (y0 4) setD)))))
 (Y2 (sIf (U5 (z34 "list" (y0 1))) (J3 (y0 5)) sNx)
 (J3 (mCB [(y0 5)] tupF))))))))))
noncomputable def U8:Nat->FM
 |0=>fun _ _=> .no
 |k+1=>z0d 6 (z0q (U8 k))
theorem z5c(T:Wd K mg): ∀k,FnOk P w K mg base CX0 (3+k) T.x_l_bent.f T.x_l_bent.d ["_law_bag_here", "_law_thing"] (spM (G0 K) 2 (U8 k))
 |0=>z8y
 |k+1=>by
  have ih:=z5c T k
  have h:FnOk P w K mg base CX0 (3+k+1) T.x_l_bent.f T.x_l_bent.d ["_law_bag_here", "_law_thing"] (spM (G0 K) (D7 (["_law_bag_here", "_law_thing"]:List Str)) (z0d (D7 (["_law_bag_here", "_law_thing", "_law_way", "_law_odd_here", "_law_at", "_law_parts"]:List Str)) (z0q (U8 k)))):=fn_M T.x_l_bent.F K2 rfl fun cdv A outer s H E F hr=>by
   have h64:=hr.units
   exact(ss_cons (sst 2 K2.nd (scl T.x_l_take (Z4 T) hr (s2 (sv 0) (sc0 y6))))
 (ss_cons (sst 3 K2.nd (scl T.x_l_odd (z4g T) hr (s1 (sv 0))))
 (ss_cons (ss_if (SW.sb (sw_and (sb_truth rfl (scl T.x_l_whole (z1Z T) hr (s1 (sv 1)))) (sw_and1 (sb_cmp z8s (sv 2) (sc0 y6) (W7 _))))) (ss_one (ss_ret (se_addE rfl (sv 1) (sxx (se_lst rfl (s4 (sc0 y6) (se_neg rfl (sc0 y6)) (sc0 y6) (sc0 y6))) (sv 2))))) ss_nil)
 (ss_cons (ss_if (SW.sb (sw_or (sb_not (sb_truth rfl (se_isiT rfl (by decide) (by decide) rfl T.n_isinstance (sv 1) (zab (z1b (J7 (v:= .ty "tuple") rfl T.n_tuple PyProof.Rows.Boot.«tuple» rfl) (z1b (J7 (v:= .ty "list") rfl T.n_list PyProof.Rows.Boot.«list» rfl) z6b)) (fun _ _ _ q=>q) (by decide))))) (sw_or (sb_cmp (z0B rfl h64) (sln T.n_len (s1 (sv 1))) (sc0 y6) (W7 _)) (sw_or1 (sb_cmp (z0B rfl h64) (sv 2) (sc0 y6) (W7 _)))))) (ss_one (ss_ret (sv 3))) ss_nil)
 (ss_cons (sst 4 K2.nd (scl T.x_l_take (Z4 T) hr (s2 (sv 0) (sln T.n_len (s1 (sv 1))))))
 (ss_cons (sst 5 K2.nd (se_ct rfl (z8u rfl) rfl T.n_list PyProof.Rows.Boot.«list» (s1 (sv 1))))
 (ss_cons (ss_if (sb_cmp (z0B rfl h64) (sv 2) (sc0 y6) (W7 _)) (ss_one (sst 5 K2.nd (se_add rfl (se_slice rfl (sv 5) so_none (so_some (sv 4))) (se_slice rfl (sv 5) (so_some (se_add rfl (sv 4) (sc0 y6))) so_none)))) (ss_one (ss_if (sb_cmp (z0B rfl h64) (sv 2) (sc0 y6) (W7 _)) (ss_one (sst 5 K2.nd (se_add rfl (se_add rfl (se_slice rfl (sv 5) so_none (so_some (sv 4))) (se_lst rfl (s1 (sxx (sv 5) (sv 4))))) (se_slice rfl (sv 5) (so_some (sv 4)) so_none)))) (ss_one (ss_if (sb_cmp (z0B rfl h64) (sv 2) (sc0 y6) (W7 _)) (ss_one (ss_sub2 rfl rfl (se_tup rfl (s2 (sxc (sv 5) y6) (sxx (sv 5) (sv 4)))) (sv 5) (sv 4) (sv 5) (sc0 y6) (fun{t1 t2 t3 t4} h1 h2 h3 h4=>zaL rfl (z3N (z4D h1 h2 z1r) (z3N (z4D h3 h4 z1r) z7D))))) (ss_one (ss_if (SW.sb (sw_and (sb_cmp (z0B rfl h64) (sv 2) (sc0 y6) (W7 _)) (sw_and1 (sb_cmp (z0B rfl h64) (scl T.x_l_take (Z4 T) hr (s2 (sv 0) (sc0 y6))) (sc0 y6) (W7 _))))) (ss_one (ss_ret (sxx (se_lst rfl (s2 (se_ct rfl (z8u rfl) rfl T.n_list PyProof.Rows.Boot.«list» (s1 (sv 1))) (se_ct rfl (V2 rfl) rfl T.n_tuple PyProof.Rows.Boot.«tuple» (s1 (sv 1))))) (se_ct rfl zb9 rfl T.n_int PyProof.Rows.Boot.«int» (s1 (se_isi rfl (by decide) rfl T.n_isinstance (sv 1) (J7 (v:= .ty "list") rfl T.n_list PyProof.Rows.Boot.«list» rfl))))))) (ss_one (ss_setI (se_call rfl ih hr rfl T.x_l_bent.m T.x_l_bent.F.kp T.x_l_bent.b z6Y (s2 (sv 0) (sxx (sv 5) (sv 4))) rfl) (sv 5) (sv 4) (fun{to ti} h1 h2=>z4D h1 h2 z1r))))))))))
 (ss_cons (ss_if (sb_truth rfl (se_isi rfl (by decide) rfl T.n_isinstance (sv 1) (J7 (v:= .ty "list") rfl T.n_list PyProof.Rows.Boot.«list» rfl))) (ss_one (ss_ret (sv 5))) ss_nil)
 (ss_one (ss_ret (se_ct rfl (V2 rfl) rfl T.n_tuple PyProof.Rows.Boot.«tuple» (s1 (sv 5)))))))))))))
  exact h
noncomputable def z2R:MS:=(Y2 (Q8 (.nm 1) (Z2 Z0 [(y0 0),(mC (.int 8))]))
 (Y2 (sIf (g9 (Z1 (y0 1) (mC (.int 7)) eqD)) (J3 (mCB [(Z1 (Z1 (mCB [(Z2 Z0 [(y0 0),(mC (.int 1040))])] lstM) (mC (.int 23)) z4z) (mCB [(Z2 Z0 [(y0 0),(mC (.int 1040))])] lstM) J1)] tupF)) sNx)
 (Y2 (sIf (g9 (Z1 (y0 1) (mC (.int 4)) gtD)) (J3 (mCB [(W3 (U1 [(Z1 (mC (.int 1)) (Z2 Z0 [(y0 0),(mC (.int 4))]) J1)]) (.nm 0) (rt true) (Z2 Z0 [(y0 1),(mC (.int 1040))]) 1 [0])] tupF)) sNx)
 (J3 (mCB [(W3 (U1 [(Z1 (mC (.int 1)) (Z2 Z0 [(y0 0),(mC (.int 2))]) J1)]) (.nm 0) (rt true) (Z2 Z0 [(y0 1),(mC (.int 3))]) 1 [0])] tupF)))))
noncomputable def z0I:FM:=z0d 2 z2R
theorem z7g(T:Wd K mg):FnOk P w K mg base CX0 2 T.x_l_signs.f T.x_l_signs.d z2L (spM (G0 K) 1 z0I):=okM z2R T.x_l_signs.F z3J fun cdv A outer s H E F hr=>by
 have h64:=hr.units
 exact(ss_cons (sst 1 z3J.nd (scl T.x_l_take (Z4 T) hr (s2 (sv 0) (sc0 y6))))
 (ss_cons (ss_if (sb_cmp (z0B rfl h64) (sv 1) (sc0 y6) (W7 _)) (ss_one (ss_ret (se_ct rfl (V2 rfl) rfl T.n_tuple PyProof.Rows.Boot.«tuple» (s1 (se_add rfl (se_mul rfl (se_lst rfl (s1 (scl T.x_l_take (Z4 T) hr (s2 (sv 0) (sc0 y6))))) (sc0 y6)) (se_lst rfl (s1 (scl T.x_l_take (Z4 T) hr (s2 (sv 0) (sc0 y6)))))))))) ss_nil)
 (ss_cons (ss_if (sb_cmp z7c (sv 1) (sc0 y6) (W7 _)) (ss_one (ss_ret (se_ct rfl (V2 rfl) rfl T.n_tuple PyProof.Rows.Boot.«tuple» (s1 (se_comp (own:=["_law_k"]) (frees:=["_law_bag_here"]) (ix:=[0]) rfl rfl (U3.sc (by kernel_rfl)) (si_rng1 rfl T.n_range (s1 (se_add rfl (sc0 y6) (scl T.x_l_take (Z4 T) hr (s2 (sv 0) (sc0 y6)))))) (fun _ _ _ _ _ _ _=>(sg_name (j4 (i:=0) (show C1 (["_law_k", "_law_bag_here"]:List Str) by decide+kernel) rfl (Or.inl rfl)))) (fun _ _ _ _ _ _ _=>sts_nil) (fun _ _ _ _ _ _ _=>(scl T.x_l_take (Z4 T) hr (s2 (sv 1) (sc0 y6))))))))) ss_nil)
 (ss_one (ss_ret (se_ct rfl (V2 rfl) rfl T.n_tuple PyProof.Rows.Boot.«tuple» (s1 (se_comp (own:=["_law_k"]) (frees:=["_law_bag_here"]) (ix:=[0]) rfl rfl (U3.sc (by kernel_rfl)) (si_rng1 rfl T.n_range (s1 (se_add rfl (sc0 y6) (scl T.x_l_take (Z4 T) hr (s2 (sv 0) (sc0 y6)))))) (fun _ _ _ _ _ _ _=>(sg_name (j4 (i:=0) (show C1 (["_law_k", "_law_bag_here"]:List Str) by decide+kernel) rfl (Or.inl rfl)))) (fun _ _ _ _ _ _ _=>sts_nil) (fun _ _ _ _ _ _ _=>(scl T.x_l_take (Z4 T) hr (s2 (sv 1) (sc0 y6))))))))))))
noncomputable def z4h:MS:=(Y2 (sIf (g9 (Z1 (Z2 Z0 [(y0 0),(mC (.int 3))]) (mC (.int 0)) gtD)) (J3 (Z2 Z0 [(y0 0),(mC (.int 4))])) sNx)
 (J3 (Z2 Z0 [(y0 0),(mC (.int 100000))])))
noncomputable def z0r:FM:=z0d 1 z4h
theorem z5d(T:Wd K mg):FnOk P w K mg base CX0 2 T.x_l_cost.f T.x_l_cost.d z4a (spM (G0 K) 1 z0r):=okM z4h T.x_l_cost.F z8N fun cdv A outer s H E F hr=>(ss_cons (ss_if (sb_cmp z7c (scl T.x_l_take (Z4 T) hr (s2 (sv 0) (sc0 y6))) (sc0 y6) (W7 _)) (ss_one (ss_ret (scl T.x_l_take (Z4 T) hr (s2 (sv 0) (sc0 y6))))) ss_nil)
 (ss_one (ss_ret (scl T.x_l_take (Z4 T) hr (s2 (sv 0) (sc0 y6))))))
noncomputable def z21:MS:=(Y2 (sIf (g9 (Z1 (Z2 Z0 [(y0 0),(mC (.int 8))]) (mC (.int 5)) eqD)) (J3 (mC (.int 24))) sNx)
 (J3 (Z2 Z0 [(y0 0),(Z1 (y0 1) (mC (.int 1)) J1)])))
noncomputable def z0c:FM:=z0d 2 z21
theorem z60(T:Wd K mg):FnOk P w K mg base CX0 2 T.x_l_places.f T.x_l_places.d z1X (spM (G0 K) 2 z0c):=okM z21 T.x_l_places.F z5W fun cdv A outer s H E F hr=>by
 have h64:=hr.units
 exact(ss_cons (ss_if (sb_cmp (z0B rfl h64) (scl T.x_l_take (Z4 T) hr (s2 (sv 0) (sc0 y6))) (sc0 y6) (W7 _)) (ss_one (ss_ret (sc0 y6))) ss_nil)
 (ss_one (ss_ret (scl T.x_l_take (Z4 T) hr (s2 (sv 0) (se_add rfl (sv 1) (sc0 y6)))))))
noncomputable def z61:MS:=(Y2 (Q8 (.nm 2) (Z2 Z0 [(y0 0),(mC (.int 3))]))
 (Y2 (Q8 (.nm 3) (bd (mC (.int 1)) z6k))
 (Y2 (sIf (zcg (g9 (Z1 (y0 1) (mC (.int 0)) gtD)) (g9 (Z1 (Z2 Z0 [(y0 0),(mC (.int 8))]) (mC (.int 5)) eqD))) (Q8 (.nm 3) (Z2 Z0 [(y0 0),(y0 1)])) sNx)
 (Y2 (Q8 (.nm 4) (mCB [] lstM))
 (Y2 (z35 (U1 [(y0 1)]) (.nm 5) (Y2 (Q8 (.nm 6) z8D)
 (Y2 (z35 (U1 [(Z1 (Z2 Z0 [(y0 0),(mC (.int 4))]) (Z1 (mC (.int 147)) (mCB [(Z1 (y0 5) (y0 3) eqD)] zci) z4z) J1)]) (.nm 7) (Y2 (Q8 (.nm 8) (Z1 (mCB [(Z1 (y0 1) (y0 5) z9X),(mCB [(mC (.int 2)),(Z1 (y0 1) (y0 5) z9X)] za0)] lstM) (Z2 Z0 [(y0 0),(mC (.int 2))]) ixD))
 (Y2 (Q8 (.nm 9) (Z1 (Z1 (y0 5) (mC (.int 1)) J1) (Z2 Z0 [(y0 0),(y0 8)]) J1))
 (mTri (Z2 z0r [(y0 0)]) (y0 6) (mCB [(y0 9),(Z2 z0I [(y0 0)]),(Z2 Z0 [(y0 0),(mC (.int 9))])] K9) z3f))))
 (Y2 (sIf (g9 (Z1 (y0 2) (mC (.int 0)) gtD)) (mTri (Z2 z0r [(y0 0)]) (y0 6) (mCB [(Z1 (y0 5) (mC (.int 1)) J1),(mCB [(Z1 (mC (.int 1000)) (Z2 Z0 [(y0 0),(mC (.int 40))]) J1)] K9),(mC (.int 8))] K9) z3f) sNx)
 (z2B (z1S (y0 4) [(mSl (mCB [(W3 (z2F (y0 6)) (.nm 0) (rt true) (Z1 (y0 0) (mCB [(Z1 (y0 1) (y0 0) z9y)] K9) J1) 1 [6])] zah) none (some (mC (.int 150))))] z7b))))))
 (J3 (y0 4)))))))
noncomputable def z2S:FM:=z0d 10 z61
theorem zao(T:Wd K mg):FnOk P w K mg base CX0 3 T.x_l_net.f T.x_l_net.d z5R (spM (G0 K) 2 z2S):=okM z61 T.x_l_net.F V3 fun cdv A outer s H E F hr=>by
 have h64:=hr.units
 exact(ss_cons (sst 2 V3.nd (scl T.x_l_take (Z4 T) hr (s2 (sv 0) (sc0 y6))))
 (ss_cons (sst 3 V3.nd (se_neg rfl (sc0 y6)))
 (ss_cons (ss_if (SW.sb (sw_and (sb_cmp z7c (sv 1) (sc0 y6) (W7 _)) (sw_and1 (sb_cmp (z0B rfl h64) (scl T.x_l_take (Z4 T) hr (s2 (sv 0) (sc0 y6))) (sc0 y6) (W7 _))))) (ss_one (sst 3 V3.nd (scl T.x_l_take (Z4 T) hr (s2 (sv 0) (sv 1))))) ss_nil)
 (ss_cons (sst 4 V3.nd (se_lst rfl (sa_of rfl .nil)))
 (ss_cons (ss_for PassesOwn.never rfl (si_rng1 rfl T.n_range (s1 (sv 1))) (sgn 5 V3.nd) (ss_cons (ss_set (fun{te} h=>z2m (i:=6) V3.nd rfl (Or.inr rfl) h) (se_dnew rfl))
 (ss_cons (ss_for PassesOwn.never rfl (si_rng1 rfl T.n_range (s1 (se_add rfl (scl T.x_l_take (Z4 T) hr (s2 (sv 0) (sc0 y6))) (se_mul rfl (sc0 y6) (se_ct rfl zb9 rfl T.n_int PyProof.Rows.Boot.«int» (s1 (se_cmp (z0B rfl h64) (sv 5) (sv 3) (W7 _)))))))) (sgn 7 V3.nd) (ss_cons (sst 8 V3.nd (sxx (se_lst rfl (s2 (se_sub rfl (sv 1) (sv 5)) (se_cb rfl (z8t rfl) rfl T.n_min PyProof.Rows.Boot.«min» (s2 (sc0 y6) (se_sub rfl (sv 1) (sv 5)))))) (scl T.x_l_take (Z4 T) hr (s2 (sv 0) (sc0 y6)))))
 (ss_cons (sst 9 V3.nd (se_add rfl (se_add rfl (sv 5) (sc0 y6)) (scl T.x_l_take (Z4 T) hr (s2 (sv 0) (sv 8)))))
 (ss_one (ss_dput h64 (scl T.x_l_cost (z5d T) hr (s1 (sv 0))) (sv 6) (se_tup rfl (s3 (sv 9) (scl T.x_l_signs (z7g T) hr (s1 (sv 0))) (scl T.x_l_take (Z4 T) hr (s2 (sv 0) (sc0 y6))))))))))
 (ss_cons (ss_if (sb_cmp z7c (sv 2) (sc0 y6) (W7 _)) (ss_one (ss_dput h64 (scl T.x_l_cost (z5d T) hr (s1 (sv 0))) (sv 6) (se_tup rfl (s3 (se_add rfl (sv 5) (sc0 y6)) (se_tup rfl (s1 (se_add rfl (sc0 y6) (scl T.x_l_take (Z4 T) hr (s2 (sv 0) (sc0 y6)))))) (sc0 y6))))) ss_nil)
 (ss_one (ss_expr (se_cl rfl PySem.F.slot_list_append PySem.F.type_list_append z1x (sv 4) (s1 (se_slice rfl (se_cb rfl (zbb rfl h64) rfl T.n_sorted PyProof.Rows.Boot.«sorted» (s1 (se_compD (own:=["_law_piece"]) (frees:=["_law_found"]) (ix:=[6]) rfl rfl (U3.sc (by kernel_rfl)) (sv 6) (fun _ _ _ _ _ _ _=>(sg_name (j4 (i:=0) (show C1 (["_law_piece", "_law_found"]:List Str) by decide+kernel) rfl (Or.inl rfl)))) (fun _ _ _ _ _ _ _=>sts_nil) (fun _ _ _ _ _ _ _=>(se_add rfl (sv 0) (se_tup rfl (s1 (se_dgt rfl h64 (sv 1) (sv 0) (fun _ _=>rfl))))))))) so_none (so_some (sc0 y6)))))))))))
 (ss_one (ss_ret (sv 4))))))))
noncomputable def z2T:MS:=(Y2 (Q8 (.nm 1) (Z1 (mCB [(mC (.int 1)),(mC (.int 2)),(mC (.int 4)),(mC (.int 1000))] lstM) (Z2 Z0 [(y0 0),(mC (.int 4))]) ixD))
 (Y2 (sIf (g9 (Z1 (Z2 Z0 [(y0 0),(mC (.int 2))]) (mC (.int 0)) eqD)) (Y2 (Q8 (.nm 2) (W3 (U1 [(mC (.int 10))]) (.nm 0) (rt true) (Z2 Z0 [(y0 1),(y0 2)]) 1 [0,1]))
 (Y2 (Q8 (.nm 3) (W3 (U1 [(mC (.int 10))]) (.nm 0) (rt true) (Z2 Z0 [(y0 1),(y0 2)]) 1 [0,1]))
 (J3 (mCB [(W3 (G2 (y0 2)) (.nm 0) (rt true) (mCB [(W3 (G2 (y0 2)) (.nm 0) (rt true) (Z1 (Z1 (y0 2) (y0 0) J1) (y0 1) z3u) 1 [1,0])] tupF) 1 [1,3])] tupF)))) sNx)
 (J3 (mCB [(W3 (U1 [(mC (.int 10))]) (.nm 0) (rt true) (mCB [(W3 (U1 [(mC (.int 10))]) (.nm 0) (rt true) (Z2 Z0 [(y0 1),(y0 2)]) 1 [1,2])] tupF) 1 [0,1])] tupF))))
noncomputable def z0J:FM:=z0d 4 z2T
theorem z7h(T:Wd K mg):FnOk P w K mg base CX0 2 T.x_l_rates.f T.x_l_rates.d z2M (spM (G0 K) 1 z0J):=okM z2T T.x_l_rates.F z0S fun cdv A outer s H E F hr=>by
 have h64:=hr.units
 exact(ss_cons (ss_set (fun{te} h=>z2m (i:=1) z0S.nd rfl (Or.inr rfl) h) (sxx (se_lst rfl (s4 (sc0 y6) (sc0 y6) (sc0 y6) (sc0 y6))) (scl T.x_l_take (Z4 T) hr (s2 (sv 0) (sc0 y6)))))
 (ss_cons (ss_if (sb_cmp (z0B rfl h64) (scl T.x_l_take (Z4 T) hr (s2 (sv 0) (sc0 y6))) (sc0 y6) (W7 _)) (ss_cons (ss_comp (i:=2) (own:=["_law_kind"]) (frees:=["_law_bag_here", "_law_most"]) (ix:=[0,1]) rfl z0S.nd rfl (Or.inl rfl) (Or.inl rfl) rfl rfl (U3.sc (by kernel_rfl)) (si_rng1 rfl T.n_range (s1 (sc0 y6))) (fun _ _ _ _ _ _ _=>(sg_name (j4 (i:=0) (show C1 (["_law_kind", "_law_bag_here", "_law_most"]:List Str) by decide+kernel) rfl (Or.inl rfl)))) (fun _ _ _ _ _ _ _=>sts_nil) (fun _ _ _ _ _ _ _=>(scl T.x_l_take (Z4 T) hr (s2 (sv 1) (sv 2)))))
 (ss_cons (ss_set (fun{te} h=>z2m (i:=3) z0S.nd rfl (Or.inr rfl) h) (se_comp (own:=["_law_kind"]) (frees:=["_law_bag_here", "_law_most"]) (ix:=[0,1]) rfl rfl (U3.sc (by kernel_rfl)) (si_rng1 rfl T.n_range (s1 (sc0 y6))) (fun _ _ _ _ _ _ _=>(sg_name (j4 (i:=0) (show C1 (["_law_kind", "_law_bag_here", "_law_most"]:List Str) by decide+kernel) rfl (Or.inl rfl)))) (fun _ _ _ _ _ _ _=>sts_nil) (fun _ _ _ _ _ _ _=>(scl T.x_l_take (Z4 T) hr (s2 (sv 1) (sv 2))))))
 (ss_one (ss_ret (se_ct rfl (V2 rfl) rfl T.n_tuple PyProof.Rows.Boot.«tuple» (s1 (se_compC (own:=["_law_a"]) (frees:=["_law_most", "_law_behind"]) (ix:=[1,3]) rfl rfl (z3Z.sc (by kernel_rfl)) (si_seq rfl (sv 2)) (fun _ _ _ _ _ _ _=>(sg_name (j4 (i:=0) (show C1 (["_law_a", "_law_most", "_law_behind"]:List Str) by decide+kernel) rfl (Or.inr rfl)))) (fun _ _ _ _ _ _ _=>sts_nil) (fun _ _ _ _ _ _ _=>(se_ct rfl (V2 rfl) rfl T.n_tuple PyProof.Rows.Boot.«tuple» (s1 (se_comp (own:=["_law_b"]) (frees:=["_law_most", "_law_a"]) (ix:=[1,0]) rfl rfl (U3.sc (by kernel_rfl)) (si_seq rfl (sv 2)) (fun _ _ _ _ _ _ _=>(sg_name (j4 (i:=0) (show C1 (["_law_b", "_law_most", "_law_a"]:List Str) by decide+kernel) rfl (Or.inl rfl)))) (fun _ _ _ _ _ _ _=>sts_nil) (fun _ _ _ _ _ _ _=>(se_mod rfl (se_add rfl (sv 2) (sv 0)) (sv 1)))))))))))))) ss_nil)
 (ss_one (ss_ret (se_ct rfl (V2 rfl) rfl T.n_tuple PyProof.Rows.Boot.«tuple» (s1 (se_comp (own:=["_law_a"]) (frees:=["_law_bag_here", "_law_most"]) (ix:=[0,1]) rfl rfl (U3.sc (by kernel_rfl)) (si_rng1 rfl T.n_range (s1 (sc0 y6))) (fun _ _ _ _ _ _ _=>(sg_name (j4 (i:=0) (show C1 (["_law_a", "_law_bag_here", "_law_most"]:List Str) by decide+kernel) rfl (Or.inl rfl)))) (fun _ _ _ _ _ _ _=>sts_nil) (fun _ _ _ _ _ _ _=>(se_ct rfl (V2 rfl) rfl T.n_tuple PyProof.Rows.Boot.«tuple» (s1 (se_comp (own:=["_law_b"]) (frees:=["_law_bag_here", "_law_most"]) (ix:=[1,2]) rfl rfl (U3.sc (by kernel_rfl)) (si_rng1 rfl T.n_range (s1 (sc0 y6))) (fun _ _ _ _ _ _ _=>(sg_name (j4 (i:=0) (show C1 (["_law_b", "_law_bag_here", "_law_most"]:List Str) by decide+kernel) rfl (Or.inl rfl)))) (fun _ _ _ _ _ _ _=>sts_nil) (fun _ _ _ _ _ _ _=>(scl T.x_l_take (Z4 T) hr (s2 (sv 1) (sv 2)))))))))))))))
noncomputable def X5:MS:=(Y2 (Q8 (.nm 2) (Z1 (Z1 (mCB [(mC (.int 9))] lstM) (W3 (G2 (y0 1)) (.nm 0) (rt true) (Z1 (y0 0) (mC (.int 2)) ixD) 1 []) J1) (mCB [(mC (.int 9))] lstM) J1))
 (J3 (Z1 (mCB [(W3 (G2 (y0 1)) (.nm 0) (rt true) (Z1 (y0 0) (mC (.int 3)) ixD) 1 [])] zcw) (mCB [(W3 (zdg [(y0 2),(mSl (y0 2) (some (mC (.int 1))) none)]) (.tp [(.nm 0),(.nm 1)]) (rt true) (Z1 (Z1 (y0 2) (y0 0) ixD) (y0 1) ixD) 2 [0])] zcw) J1)))
noncomputable def j6:FM:=z0d 3 X5
theorem z22(T:Wd K mg):FnOk P w K mg base CX0 1 T.x_l_cutting_cost.f T.x_l_cutting_cost.d X3 (spM (G0 K) 2 j6):=okM X5 T.x_l_cutting_cost.F z0b fun cdv A outer s H E F hr=>(ss_cons (sst 2 z0b.nd (se_add rfl (se_add rfl (se_lst rfl (s1 (sc0 y6))) (se_comp (own:=["_law_piece"]) (frees:=[]) (ix:=[]) rfl rfl (U3.sc (by kernel_rfl)) (si_seq rfl (sv 1)) (fun _ _ _ _ _ _ _=>(sg_name (j4 (i:=0) (show C1 (["_law_piece"]:List Str) by decide+kernel) rfl (Or.inl rfl)))) (fun _ _ _ _ _ _ _=>sts_nil) (fun _ _ _ _ _ _ _=>(sxc (sv 0) y6)))) (se_lst rfl (s1 (sc0 y6)))))
 (ss_one (ss_ret (se_add rfl (se_cb rfl (zbc rfl hr.hd) rfl T.n_sum PyProof.Rows.Boot.«sum» (s1 (se_comp (own:=["_law_piece"]) (frees:=[]) (ix:=[]) rfl rfl (U3.sc (by kernel_rfl)) (si_seq rfl (sv 1)) (fun _ _ _ _ _ _ _=>(sg_name (j4 (i:=0) (show C1 (["_law_piece"]:List Str) by decide+kernel) rfl (Or.inl rfl)))) (fun _ _ _ _ _ _ _=>sts_nil) (fun _ _ _ _ _ _ _=>(sxc (sv 0) y6))))) (se_cb rfl (zbc rfl hr.hd) rfl T.n_sum PyProof.Rows.Boot.«sum» (s1 (se_comp (own:=["_law_a", "_law_b"]) (frees:=["_law_rates_here"]) (ix:=[0]) rfl rfl (U3.sc (by kernel_rfl)) (si_zip rfl rfl T.n_zip (s2 (sv 2) (se_slice rfl (sv 2) (so_some (sc0 y6)) so_none))) (fun _ _ _ _ _ _ _=>(sg_tup rfl rfl (sgs_cons (sg_name (j4 (i:=0) (show C1 (["_law_a", "_law_b", "_law_rates_here"]:List Str) by decide+kernel) rfl (Or.inl rfl))) (sgs_cons (sg_name (j4 (i:=1) (show C1 (["_law_a", "_law_b", "_law_rates_here"]:List Str) by decide+kernel) rfl (Or.inl rfl))) sgs_nil)))) (fun _ _ _ _ _ _ _=>sts_nil) (fun _ _ _ _ _ _ _=>(sxx (sxx (sv 2) (sv 0)) (sv 1))))))))))
noncomputable def z2U:MS:=(Y2 (sIf (z3d (U5 (z34 "list" (y0 1)))) (J3 (mC (.bool false))) sNx)
 (Y2 (Q8 (.nm 2) (mC (.int 0)))
 (Y2 (z35 (G2 (y0 1)) (.nm 3) (Y2 (sIf (mOr (g9 (Z1 (y0 2) (mCB [(y0 0)] lenD) geD)) (z3d (U5 (Z2 V8 [(y0 3),(y0 2),(mCB [(y0 0)] lenD)])))) (J3 (mC (.bool false))) sNx)
 (Y2 (sIf (g9 (Z1 (y0 3) (Z1 (y0 0) (y0 2) ixD) z9x)) (J3 (mC (.bool false))) sNx)
 (Q8 (.nm 2) (Z1 (y0 3) (mC (.int 0)) ixD)))))
 (J3 (Z1 (y0 2) (mCB [(y0 0)] lenD) eqD)))))
noncomputable def z0K:FM:=z0d 4 z2U
theorem z7i(T:Wd K mg):FnOk P w K mg base CX0 5 T.x_l_leads.f T.x_l_leads.d z2N (spM (G0 K) 2 z0K):=okM z2U T.x_l_leads.F z0T fun cdv A outer s H E F hr=>by
 have h64:=hr.units
 exact(ss_cons (ss_if (sb_not (sb_truth rfl (se_isi rfl (by decide) rfl T.n_isinstance (sv 1) (J7 (v:= .ty "list") rfl T.n_list PyProof.Rows.Boot.«list» rfl)))) (ss_one (ss_ret (sc0 z1M))) ss_nil)
 (ss_cons (sst 2 z0T.nd (sc0 y6))
 (ss_cons (ss_for PassesOwn.never rfl (si_seq rfl (sv 1)) (sgn 3 z0T.nd) (ss_cons (ss_if (SW.sb (sw_or (sb_cmp zh7 (sv 2) (sln T.n_len (s1 (sv 0))) (W7 _)) (sw_or1 (sb_not (sb_truth rfl (scl T.x_l_is_piece (z4f T) hr (s3 (sv 3) (sv 2) (sln T.n_len (s1 (sv 0)))))))))) (ss_one (ss_ret (sc0 z1M))) ss_nil)
 (ss_cons (ss_if (sb_cmp (zb7 rfl h64) (sv 3) (sxx (sv 0) (sv 2)) (by with_unfolding_all rfl)) (ss_one (ss_ret (sc0 z1M))) ss_nil)
 (ss_one (sst 2 z0T.nd (sxc (sv 3) y6))))))
 (ss_one (ss_ret (se_cmp (z0B rfl h64) (sv 2) (sln T.n_len (s1 (sv 0))) (W7 _)))))))
noncomputable def z1l:MS:=(Y2 (Q8 (.nm 2) (mCB [] lstM))
 (Y2 (Q8 (.nm 3) (mC (.int 0)))
 (Y2 (z35 (U1 [(mCB [(y0 1)] lenD)]) (.nm 4) (sIf (g9 (Z1 (y0 3) (mCB [(y0 1)] lenD) ltD)) (Y2 (z2B (z1S (y0 2) [(Z1 (Z1 (y0 1) (y0 3) ixD) (Z2 Z0 [(y0 0),(mCB [(Z1 (y0 1) (y0 3) ixD)] lenD)]) ixD)] z7b))
 (Q8 (.nm 3) (Z1 (Z1 (y0 2) (bd (mC (.int 1)) z6k) ixD) (mC (.int 0)) ixD))) sNx))
 (J3 (y0 2)))))
noncomputable def G9:FM:=z0d 5 z1l
theorem z26(T:Wd K mg):FnOk P w K mg base CX0 2 T.x_l_cutting.f T.x_l_cutting.d z1i (spM (G0 K) 2 G9):=okM z1l T.x_l_cutting.F V6 fun cdv A outer s H E F hr=>(ss_cons (sst 2 V6.nd (se_lst rfl (sa_of rfl .nil)))
 (ss_cons (sst 3 V6.nd (sc0 y6))
 (ss_cons (ss_for PassesOwn.never rfl (si_rng1 rfl T.n_range (s1 (sln T.n_len (s1 (sv 1))))) (sgn 4 V6.nd) (ss_one (ss_if (sb_cmp z8s (sv 3) (sln T.n_len (s1 (sv 1))) (W7 _)) (ss_cons (ss_expr (se_cl rfl PySem.F.slot_list_append PySem.F.type_list_append z1x (sv 2) (s1 (sxx (sxx (sv 1) (sv 3)) (scl T.x_l_take (Z4 T) hr (s2 (sv 0) (sln T.n_len (s1 (sxx (sv 1) (sv 3))))))))))
 (ss_one (sst 3 V6.nd (sxc (sxx (sv 2) (se_neg rfl (sc0 y6))) y6)))) ss_nil)))
 (ss_one (ss_ret (sv 2))))))
noncomputable def z1m:MS:=(Y2 (Q8 (.nm 1) (mCB [] lstM))
 (Y2 (z35 (zde [(y0 0)]) (.tp [(.nm 2),(.nm 3)]) (Y2 (Q8 (.nm 4) (W3 (G2 (mSl (y0 3) none (some (mC (.int 149))))) (.nm 0) (g9 (Z1 (mSl (y0 0) none (some (mC (.int 3)))) (mCB [(Z1 (y0 1) (mC (.int 1)) J1),(mCB [(mC (.int 1039))] K9),(mC (.int 8))] K9) neD)) (y0 0) 1 [2]))
 (z2B (z1S (y0 1) [(mCB [(Z1 (y0 4) (mCB [(mCB [(Z1 (y0 2) (mC (.int 1)) J1),(mCB [(mC (.int 1039))] K9),(mC (.int 8)),(y0 2)] K9)] lstM) J1)] zah)] z7b))))
 (J3 (y0 1))))
noncomputable def K4:FM:=z0d 5 z1m
theorem z5e(T:Wd K mg):FnOk P w K mg base CX0 1 T.x_l_chained.f T.x_l_chained.d z1j (spM (G0 K) 1 K4):=okM z1m T.x_l_chained.F V7 fun cdv A outer s H E F hr=>by
 have h64:=hr.units
 exact(ss_cons (sst 1 V7.nd (se_lst rfl (sa_of rfl .nil)))
 (ss_cons (ss_for PassesOwn.never rfl (si_enm rfl rfl T.n_enumerate (s1 (sv 0))) (sg_tup rfl rfl (sgs_cons (sg_name (j4 (i:=2) V7.nd rfl (Or.inr rfl))) (sgs_cons (sgn 3 V7.nd) sgs_nil))) (ss_cons (ss_comp (i:=4) (own:=["_law_piece"]) (frees:=["_law_k"]) (ix:=[2]) rfl V7.nd rfl (Or.inl rfl) (Or.inl rfl) rfl rfl (U3.sc (by kernel_rfl)) (si_seq rfl (se_slice rfl (sv 3) so_none (so_some (sc0 y6)))) (fun _ _ _ _ _ _ _=>(sg_name (j4 (i:=0) (show C1 (["_law_piece", "_law_k"]:List Str) by decide+kernel) rfl (Or.inl rfl)))) (fun _ _ _ _ _ _ _=>(sts_one (sb_cmp (z5I rfl h64) (se_slice rfl (sv 0) so_none (so_some (sc0 y6))) (se_tup rfl (s3 (se_add rfl (sv 1) (sc0 y6)) (se_tup rfl (s1 (sc0 y6))) (sc0 y6))) (W7 _)))) (fun _ _ _ _ _ _ _=>(sv 0)))
 (ss_one (ss_expr (se_cl rfl PySem.F.slot_list_append PySem.F.type_list_append z1x (sv 1) (s1 (se_cb rfl (zbb rfl h64) rfl T.n_sorted PyProof.Rows.Boot.«sorted» (s1 (se_add rfl (sv 4) (se_lst rfl (s1 (se_tup rfl (s4 (se_add rfl (sv 2) (sc0 y6)) (se_tup rfl (s1 (sc0 y6))) (sc0 y6) (sv 2))))))))))))))
 (ss_one (ss_ret (sv 1)))))
noncomputable def z4i:MS:=(Y2 (sIf (g9 (Z1 (y0 1) (mCB [] lstM) eqD)) (J3 (mCB [(mCB [] K9)] lstM)) sNx)
 (Y2 (Q8 (.nm 2) (Z2 Z0 [(y0 0),(mCB [(y0 1)] lenD)]))
 (Y2 (Q8 (.nm 3) (Z1 (mCB [(mC (.int 0)),(mC (.int 2)),(mC (.int 3))] lstM) (Z2 Z0 [(y0 0),(mC (.int 3))]) ixD))
 (Y2 (Q8 (.nm 4) (Z1 (y0 1) (y0 2) ixD))
 (J3 (Z1 (Z1 (mSl (y0 1) none (some (y0 2))) (mCB [(Z1 (Z1 (mSl (y0 4) none (some (y0 3))) (mCB [(Z1 (Z1 (y0 4) (y0 3) ixD) (mC (.int 1)) eqD)] K9) J1) (mSl (y0 4) (some (Z1 (y0 3) (mC (.int 1)) J1)) none) J1)] lstM) J1) (mSl (y0 1) (some (Z1 (y0 2) (mC (.int 1)) J1)) none) J1))))))
noncomputable def z1C:FM:=z0d 5 z4i
theorem z8O(T:Wd K mg):FnOk P w K mg base CX0 2 T.x_l_true.f T.x_l_true.d z4b (spM (G0 K) 2 z1C):=okM z4i T.x_l_true.F z1A fun cdv A outer s H E F hr=>by
 have h64:=hr.units
 exact(ss_cons (ss_if (sb_cmp (z0B rfl h64) (sv 1) (se_lst rfl (sa_of rfl .nil)) (W7 _)) (ss_one (ss_ret (se_lst rfl (s1 (se_tup rfl (sa_of rfl .nil)))))) ss_nil)
 (ss_cons (sst 2 z1A.nd (scl T.x_l_take (Z4 T) hr (s2 (sv 0) (sln T.n_len (s1 (sv 1))))))
 (ss_cons (sst 3 z1A.nd (sxx (se_lst rfl (s3 (sc0 y6) (sc0 y6) (sc0 y6))) (scl T.x_l_take (Z4 T) hr (s2 (sv 0) (sc0 y6)))))
 (ss_cons (sst 4 z1A.nd (sxx (sv 1) (sv 2)))
 (ss_one (ss_ret (se_add rfl (se_add rfl (se_slice rfl (sv 1) so_none (so_some (sv 2))) (se_lst rfl (s1 (se_add rfl (se_add rfl (se_slice rfl (sv 4) so_none (so_some (sv 3))) (se_tup rfl (s1 (se_cmp (z0B rfl h64) (sxx (sv 4) (sv 3)) (sc0 y6) (W7 _))))) (se_slice rfl (sv 4) (so_some (se_add rfl (sv 3) (sc0 y6))) so_none))))) (se_slice rfl (sv 1) (so_some (se_add rfl (sv 2) (sc0 y6))) so_none))))))))
noncomputable def zcC:MS:=(Y2 (z35 (U1 [(mCB [(mC (.int 2)),(mCB [(mC (.int 4)),(mCB [(y0 0)] lenD)] za0)] zdc)]) (.nm 1) (Y2 (Q8 (.nm 2) (Z2 z2P [(y0 0),(y0 1)]))
 (Y2 (Q8 (.nm 3) (Z2 z0J [(y0 2)]))
 (Y2 (Q8 (.nm 4) (Z2 K4 [(Z2 z2S [(y0 2),(Z2 z0c [(y0 2),(mC (.int 9))])])]))
 (Y2 (Q8 (.nm 5) (Z2 G9 [(y0 2),(y0 4)]))
 (Y2 (Q8 (.nm 6) (mCB [(y0 5),(Z2 G9 [(y0 2),(y0 4)]),(mCB [(y0 5)] tupF),(mSl (y0 5) none (some (bd (mC (.int 1)) z6k))),(mSl (y0 5) (some (mC (.int 1))) none),(mCB [] lstM)] lstM))
 (Y2 (z2B (z1S (y0 6) [(Z2 z1C [(y0 2),(y0 5)])] z7b))
 (z35 (G2 (Z1 (Z1 (y0 6) (W3 (U1 [(mC (.int 6))]) (.nm 0) (rt true) (Z2 (U8 12) [(y0 1),(y0 2)]) 1 [2,5]) J1) (mCB [(Z2 z0H [(y0 2)]),(mCB [(Z2 z0H [(y0 2)])] lstM)] lstM) J1)) (.nm 7) (Y2 (Q8 (.nm 8) (mCB [(Z2 (Z7 12) [(y0 4)]),(Z2 (Z7 12) [(y0 7)])] K9))
 (Y2 (Q8 (.nm 9) (Z2 G3 [(Z1 (y0 8) (mC (.int 0)) ixD),(Z1 (y0 8) (mC (.int 1)) ixD)]))
 (Y2 (sIf (mOr (z3d (U5 (z34 "bool" (y0 9)))) (mOr (g9 (Z1 (y0 9) (Z2 z0K [(y0 4),(y0 7)]) neD)) (g9 (Z1 (y0 8) (mCB [(y0 4),(y0 7)] K9) neD)))) (J3 (mC (.bool false))) sNx)
 (sIf (U5 (y0 9)) (Y2 (Q8 (.nm 10) (Z2 j5 [(Z1 (y0 8) (mC (.int 0)) ixD),(y0 3),(Z1 (y0 8) (mC (.int 1)) ixD)]))
 (sIf (mOr (z3d (U5 (Z2 f_l_whole [(y0 10)]))) (mOr (g9 (Z1 (y0 10) (Z2 j6 [(y0 3),(y0 7)]) neD)) (g9 (Z1 (y0 8) (mCB [(y0 4),(y0 7)] K9) neD)))) (J3 (mC (.bool false))) sNx)) sNx))))))))))))
 (J3 (mC (.bool true))))
noncomputable def f_law:FM:=z0d 11 zcC
theorem zeS(T:Wd K mg):FnOk P w K mg base CX0 16 T.x_law.f T.x_law.d zcB (spM (G0 K) 1 f_law):=okM zcC T.x_law.F z0F fun cdv A outer s H E F hr=>by
 have h64:=hr.units
 exact(ss_cons (ss_for PassesOwn.never rfl (si_rng1 rfl T.n_range (s1 (se_cb rfl (zeB rfl) rfl T.n_max PyProof.Rows.Boot.«max» (s2 (sc0 y6) (se_cb rfl (z8t rfl) rfl T.n_min PyProof.Rows.Boot.«min» (s2 (sc0 y6) (sln T.n_len (s1 (sv 0))))))))) (sgn 1 z0F.nd) (ss_cons (ss_set (fun{te} h=>z2m (i:=2) z0F.nd rfl (Or.inr rfl) h) (scl T.x_l_bag (zan T) hr (s2 (sv 0) (sv 1))))
 (ss_cons (sst 3 z0F.nd (scl T.x_l_rates (z7h T) hr (s1 (sv 2))))
 (ss_cons (sst 4 z0F.nd (scl T.x_l_chained (z5e T) hr (s1 (scl T.x_l_net (zao T) hr (s2 (sv 2) (scl T.x_l_places (z60 T) hr (s2 (sv 2) (sc0 y6))))))))
 (ss_cons (ss_set (fun{te} h=>z2m (i:=5) z0F.nd rfl (Or.inr rfl) h) (scl T.x_l_cutting (z26 T) hr (s2 (sv 2) (sv 4))))
 (ss_cons (ss_setN (i:=6) z0F.nd rfl (Or.inl rfl) (Or.inl rfl) (se_lst rfl (sa_of rfl (.cons (sv 5) rfl (.cons (scl T.x_l_cutting (z26 T) hr (s2 (sv 2) (sv 4))) rfl (.cons (se_ct rfl (V2 rfl) rfl T.n_tuple PyProof.Rows.Boot.«tuple» (s1 (sv 5))) rfl (.cons (se_slice rfl (sv 5) so_none (so_some (se_neg rfl (sc0 y6)))) rfl (.cons (se_slice rfl (sv 5) (so_some (sc0 y6)) so_none) rfl (.cons (se_lst rfl (sa_of rfl .nil)) rfl .nil)))))))))
 (ss_cons (ss_expr (se_cl rfl PySem.F.slot_list_append PySem.F.type_list_append z1x (sv 6) (s1 (scl T.x_l_true (z8O T) hr (s2 (sv 2) (sv 5))))))
 (ss_one (ss_for PassesOwn.never rfl (si_seq rfl (se_add rfl (se_add rfl (sv 6) (se_comp (own:=["_law_turn"]) (frees:=["_law_bag_here", "_law_cutting_here"]) (ix:=[2,5]) rfl rfl (U3.sc (by kernel_rfl)) (si_rng1 rfl T.n_range (s1 (sc0 y6))) (fun _ _ _ _ _ _ _=>(sg_name (j4 (i:=0) (show C1 (["_law_turn", "_law_bag_here", "_law_cutting_here"]:List Str) by decide+kernel) rfl (Or.inl rfl)))) (fun _ _ _ _ _ _ _=>sts_nil) (fun _ _ _ _ _ _ _=>(se_call rfl ((z5c T 12).mono (by lia)) hr rfl T.x_l_bent.m T.x_l_bent.F.kp T.x_l_bent.b z6Y (s2 (sv 1) (sv 2)) rfl)))) (se_lst rfl (s2 (scl T.x_l_odd (z4g T) hr (s1 (sv 2))) (se_lst rfl (s1 (scl T.x_l_odd (z4g T) hr (s1 (sv 2))))))))) (sgn 7 z0F.nd) (ss_cons (sst 8 z0F.nd (se_tup rfl (s2 (se_call rfl ((z1k T 12).mono (by lia)) hr rfl T.x_l_copied.m T.x_l_copied.F.kp T.x_l_copied.b z6Y (s1 (sv 4)) rfl) (se_call rfl ((z1k T 12).mono (by lia)) hr rfl T.x_l_copied.m T.x_l_copied.F.kp T.x_l_copied.b z6Y (s1 (sv 7)) rfl))))
 (ss_cons (sst 9 z0F.nd (scl T.x_p_is_cutting (z2O T) hr (s2 (sxc (sv 8) y6) (sxc (sv 8) y6))))
 (ss_cons (ss_if (SW.sb (sw_or (sb_not (sb_truth rfl (se_isi rfl (by decide) rfl T.n_isinstance (sv 9) (J7 (v:= .ty "bool") rfl T.n_bool PyProof.Rows.Boot.«bool» rfl)))) (sw_or (sb_cmp (z5I rfl h64) (sv 9) (scl T.x_l_leads (z7i T) hr (s2 (sv 4) (sv 7))) (W7 _)) (sw_or1 (sb_cmp (z5I rfl h64) (sv 8) (se_tup rfl (s2 (sv 4) (sv 7))) (W7 _)))))) (ss_one (ss_ret (sc0 z1M))) ss_nil)
 (ss_one (ss_if (sb_truth rfl (sv 9)) (ss_cons (sst 10 z0F.nd (scl T.x_p_cutting_cost (z1Y T) hr (s3 (sxc (sv 8) y6) (sv 3) (sxc (sv 8) y6))))
 (ss_one (ss_if (SW.sb (sw_or (sb_not (sb_truth rfl (scl T.x_l_whole (z1Z T) hr (s1 (sv 10))))) (sw_or (sb_cmp (z5I rfl h64) (sv 10) (scl T.x_l_cutting_cost (z22 T) hr (s2 (sv 3) (sv 7))) (W7 _)) (sw_or1 (sb_cmp (z5I rfl h64) (sv 8) (se_tup rfl (s2 (sv 4) (sv 7))) (W7 _)))))) (ss_one (ss_ret (sc0 z1M))) ss_nil))) ss_nil))))))))))))))
 (ss_one (ss_ret (sc0 z1M))))
end
end My
namespace Mi
open PySem L2
theorem Y6{α:Type}(xs ys:List α)(k:Nat)(h:xs.length=k):(xs++ys).drop k=ys:=by subst h;simp
theorem J2{α:Type}(xs ys:List α)(k:Nat)(h:xs.length=k):(xs++ys).take k=xs:=by subst h;simp
theorem J5: ∀ds:List D,Y5 (ds.map some)=some ds
 |[]=>rfl
 |d::ds=>by simp[Y5,J5 ds]
theorem z7j{me:M D}{g:D->D}{ds:List D}{fr σ0 tm0:List (Option D)}{ol:Nat}(hol:σ0.length=ol)(hz:ds.length<sizeLine)
 (hme: ∀d∈ds,∀tm n,∃n',n<=n'/\me ⟨some d::fr,tm,n⟩= .ok (g d) ⟨some d::fr,tm,n'⟩):
 ∀(f i:Nat) (o:Option D) (n:Nat),i+f=ds.length->∃n',n<=n'/\j0 zco (.nm 0) (rt true) me ol f i i ⟨o::fr,(((ds.take i).map g).reverse.map some)++(σ0++(some (.tup ds)::tm0)),n⟩= .ok (.lst n' (ds.map g)) ⟨σ0,tm0,n'+1⟩:=by
 intro f
 induction f with
 |zero=>
  intro i o n hi
  have hi:i=ds.length:=by lia
  subst hi
  refine⟨n,i4 _, ?_⟩
  have l1:(((ds.take ds.length).map g).reverse.map some).length=ds.length:=by simp
  unfold j0
  have e1:(((((ds.take ds.length).map g).reverse.map some)++(σ0++(some (D.tup ds)::tm0))).drop (ds.length+ol))=some (D.tup ds)::tm0:=by
   rw[<-r6];exact Y6 _ _ _ (by simp[hol])
  erw[e1,zco,za3,List.getElem?_eq_none (i4 ds.length)]
  rw[J2 _ _ _ l1]
  have e2:(((ds.take ds.length).map g).reverse.map some).reverse=(ds.map g).map some:=by simp
  rw[e2,J5]
  erw[Res.ok.injEq,true_and,Stt.mk.injEq,and_true]
  constructor
  ·rw[Y6 _ _ _ l1,J2 _ _ _ hol]
  ·rw[<-r6]
   have:(((((ds.take ds.length).map g).reverse.map some)++σ0)++(some (D.tup ds)::tm0)).drop (ds.length+ol+1)=((((((ds.take ds.length).map g).reverse.map some)++σ0)++(some (D.tup ds)::tm0)).drop (ds.length+ol)).drop 1:=by rw[D0]
   rw[this,Y6 _ _ _ (by simp[hol])]
   rfl
 |succ f ih=>
  intro i o n hi
  have hlt:i<ds.length:=by lia
  have l1:(((ds.take i).map g).reverse.map some).length=i:=by simp;lia
  unfold j0
  have e1:(((((ds.take i).map g).reverse.map some)++(σ0++(some (D.tup ds)::tm0))).drop (i+ol))=some (D.tup ds)::tm0:=by
   rw[<-r6];exact Y6 _ _ _ (by simp[hol];lia)
  erw[e1,zco,za3,List.getElem?_eq_getElem hlt,asg,A7,rt]
  rw[if_pos (by lia)]
  obtain⟨n1,hn1,h1⟩:=hme ds[i] (A2 hlt) ((((ds.take i).map g).reverse.map some)++(σ0++(some (D.tup ds)::tm0))) n
  rw[h1]
  obtain⟨n2,hn2,h2⟩:=ih (i+1) (some ds[i]) n1 (by lia)
  refine⟨n2,by lia, ?_⟩
  rw[<-h2]
  erw[Stt.psh]
  have e3:ds.take (i+1)=ds.take i++[ds[i]]:=by rw[L8,List.getElem?_eq_getElem hlt];rfl
  rw[e3]
  erw[B8,i6,l9,B9,A9,B2,m8,r8]
  rfl
theorem z5f{mc me:M D}{g:D->D}{ds:List D}{ix:List Nat}{s s1:Stt}(hc:mc s= .ok (.tup ds) s1)(hz:ds.length<sizeLine)
 (hme: ∀d∈ds,∀tm n,∃n',n<=n'/\me ⟨some d::(ix.map fun i=>(s1.σ[i]?).getD none),tm,n⟩= .ok (g d) ⟨some d::(ix.map fun i=>(s1.σ[i]?).getD none),tm,n'⟩):
 ∃n',s1.n<=n'/\W3 (G2 mc) (.nm 0) (rt true) me 1 ix s= .ok (.lst n' (ds.map g)) {s1 with n:=n'+1}:=by
 obtain⟨n',h1,h2⟩:=z7j (me:=me) (g:=g) (ds:=ds) (σ0:=s1.σ) (tm0:=s1.tm) rfl hz hme ds.length 0 none s1.n (by lia)
 refine⟨n',h1, ?_⟩
 unfold W3 G2
 erw[bd,hc,Stt.psh]
 erw[T4,l9,B2,m8] at h2
 erw[zco,z3x,z4X,l5] at h2⊢
 exact h2
theorem z5g(ds:List D)(g:D->Bool):z0A (ds.map fun d=> .bool (g d))=some (ds.map g):=by
 induction ds with
 |nil=>rfl
 |cons d ds ih=>simp[z0A,ih]
theorem z7k{t:D}{ts:List D}{n':Nat}{s:Stt}:z1w (.ok t ts n') ts s= .ok t {s with n:=n'}:=by
 unfold z1w;simp
end Mi
set_option maxHeartbeats 40000
namespace Mi
open PySem L2
class Kq{α:Type}(f:α):Type where
instance kq{α:Type}(f:α):Kq f:=⟨⟩
noncomputable def Res.bnd{α β:Type}(f:α->Stt->Res β)[Kq f](r:Res α):Res β:=match r with
 | .ok a s=>f a s
 | .ex d s=> .ex d s
 | .no=> .no
theorem z1D{α β:Type}{a:α}{s:Stt}{f:α->Stt->Res β}:((Res.ok a s).bnd f:Res β)=f a s:=(rfl)
noncomputable def Res.lf{α:Type}(f:α->MS)[Kq f](r:Res α):RS:=match r with
 | .ok a s=>f a s
 | .ex d s=> .ex d s
 | .no=> .no
theorem zcD{α:Type}{a:α}{s:Stt}{f:α->MS}:((Res.ok a s).lf f:RS)=f a s:=(rfl)
noncomputable def RS.sq(m:MS)[Kq m](r:RS):RS:=match r with
 | .nx s=>m s
 |r=>r
theorem zhf{s:Stt}{m:MS}:((RS.nx s).sq m:RS)=m s:=(rfl)
theorem zhg{d:D}{s:Stt}{m:MS}:((RS.rt d s).sq m:RS)= .rt d s:=(rfl)
noncomputable def RS.fin(r:RS):RF:=match r with
 | .nx s'=>match Y5 s'.tm with|some ts'=> .ok .non ts' s'.n|none=> .no
 | .rt t s'=>match Y5 s'.tm with|some ts'=> .ok t ts' s'.n|none=> .no
 | .ex d s'=>match Y5 s'.tm with|some ts'=> .ex d ts' s'.n|none=> .no
 |_=> .no
noncomputable def zgd(o:Option (List D))(t:D)(n:Nat):RF:=match o with|some ts=> .ok t ts n|none=> .no
theorem z8P{ts:List D}{t:D}{n:Nat}:zgd (some ts) t n= .ok t ts n:=(rfl)
theorem zhh{t:D}{σ tm:List (Option D)}{n:Nat}:(RS.rt t ⟨σ,tm,n⟩).fin=zgd (Y5 tm) t n:=(rfl)
theorem zhi{nl:Nat}{mb:MS}{ts:List D}{n:Nat}:z0d nl mb ts n=(mb ⟨ts.map some++l5 (nl -ts.length) none,ts.map some,n⟩).fin:=(rfl)
section
variable{α β:Type}{m ma mb mc:M D}{s:Stt}{ms:List (M D)}{σ tm:List (Option D)}{n:Nat}
theorem zge{m:M α}{f:α->M β}:bd m f s=(m s).bnd f:=(rfl)
theorem ziS{a:α}:rt a s= .ok a s:=(rfl)
theorem zeT{t:D}:Stt.psh ⟨σ,tm,n⟩ t=⟨σ,some t::tm,n⟩:=(rfl)
theorem zhj:Stt.nxt ⟨σ,tm,n⟩=⟨σ,tm,n+1⟩:=(rfl)
theorem zhk{t:D}{r:List (Option D)}:pop ⟨σ,some t::r,n⟩= .ok t ⟨σ,r,n⟩:=(rfl)
noncomputable def vOf(o:Option (Option D))(s:Stt):Res D:=match o with
 |some (some t)=> .ok t s
 |_=> .no
theorem zap{t:D}:vOf (some (some t)) s= .ok t s:=(rfl)
theorem zhl{i:Nat}:y0 i ⟨σ,tm,n⟩=vOf (σ[i]?) ⟨σ,tm,n⟩:=by
 unfold y0 vOf
 cases σ[i]? with
 |none=>rfl
 |some o=>cases o<;>rfl
theorem x_C{d:D}:mC d s= .ok d s:=(rfl)
theorem zcE{g:D->D->M D}:Z1 ma mb g s=(ma s).bnd fun x s1=>(mb (s1.psh x)).bnd fun y s2=>(pop s2).bnd fun x' s3=>g x' y s3:=(rfl)
theorem zhm:g9 m s=(m s).bnd zen:=(rfl)
theorem zeU{b:Bool}:zen (.bool b) s= .ok b s:=(rfl)
theorem zeV:U5 m s=(m s).bnd zel:=(rfl)
theorem ziT{b:Bool}:zel (.bool b) s= .ok b s:=(rfl)
theorem zhn{m m':M Bool}:zcg m m' s=(m s).bnd fun b=>z74 b m' (rt false):=(rfl)
theorem ziU{m m':M Bool}:mOr m m' s=(m s).bnd fun b=>z74 b (rt true) m':=(rfl)
theorem zho{m:M Bool}:z3d m s=(m s).bnd fun b s1=> .ok (!b) s1:=(rfl)
theorem zeW{m m':M D}:z3Y m m' s=(m s).bnd fun d s1=>(zen d s1).bnd fun b=>z74 b m' (rt (.bool false)):=by
 unfold z3Y g9 bd Res.bnd
 cases m s<;>rfl
theorem zeX{m:M D}:z75 m s=(m s).bnd fun d s1=>(zen d s1).bnd fun b=>rt (.bool (!b)):=by
 unfold z75 g9 bd Res.bnd
 cases m s<;>rfl
theorem ziV{m m':M α}:z74 true m m' s=m s:=(rfl)
theorem ziW{m m':M α}:z74 false m m' s=m' s:=(rfl)
theorem zcF:Y4 [] s= .ok [] s:=(rfl)
theorem z4j:Y4 (m::ms) s=(m s).bnd fun x s1=>(Y4 ms (s1.psh x)).bnd fun ys s2=>(pop s2).bnd fun x' s3=> .ok (x'::ys) s3:=(rfl)
theorem zik{g:List D->M D}:mCB ms g s=(Y4 ms s).bnd g:=(rfl)
theorem zeY{f:FM}:Z2 f ms s=(Y4 ms s).bnd fun ts s1=>z1w (f ts s1.n) ts s1:=(rfl)
noncomputable def zeZ(o:Option Bool)(s:Stt):Res D:=match o with
 |some b=> .ok (.bool b) s
 |none=> .no
theorem z8Q{b:Bool}:zeZ (some b) s= .ok (.bool b) s:=(rfl)
theorem zhp{T:String}:z34 T m s=(m s).bnd fun d s1=>zeZ (isiD T d) s1:=by
 unfold z34 bd Res.bnd zeZ
 cases m s with
 |ok d s1=>dsimp only;cases isiD T d<;>rfl
 |ex d s1=>rfl
 |no=>rfl
theorem zf0{Ts:List String}:z8x Ts m s=(m s).bnd fun d s1=>zeZ (isiAny Ts d) s1:=by
 unfold z8x bd Res.bnd zeZ
 cases m s with
 |ok d s1=>dsimp only;cases isiAny Ts d<;>rfl
 |ex d s1=>rfl
 |no=>rfl
theorem z8R{g g':D->D->M D}:z2A ma mb mc g g' s=(ma s).bnd fun x s1=>(mb (s1.psh x)).bnd fun y s2=>(pop s2).bnd fun x' s3=>z76 y (bd (g9 (g x' y)) fun k=>z74 k (bd mc fun z=>g' y z) (rt (.bool false))) s3:=(rfl)
theorem zhq{i:Int}{m:M D}:z76 (.int i) m s=m s:=(rfl)
noncomputable def zhr(o:Option Int)(s:Stt):Res (Option Int):=match o with
 |some i=> .ok (some i) s
 |none=> .no
theorem z8S{i:Int}:zhr (some i) s= .ok (some i) s:=(rfl)
theorem zcG:z3c none s= .ok none s:=(rfl)
theorem zcH:z3c (some m) s=(m s).bnd fun d s1=>zhr (mInt d) s1:=by
 show bd m (fun d=>match mInt d with|some i=>rt (some i)|none=>fl) s=_
 unfold bd Res.bnd
 cases m s with
 |ok d s1=>show(match mInt d with|some i=>rt (some i)|none=>fl:M (Option Int)) s1=zhr (mInt d) s1;cases mInt d<;>rfl
 |ex d s1=>rfl
 |no=>rfl
theorem zf1{i:Int}:mInt (.int i)=some i:=(rfl)
theorem ziX{lo hi:Option (M D)}:mSl m lo hi s=(m s).bnd fun x s1=>(z3c lo (s1.psh x)).bnd fun l s2=>(z3c hi s2).bnd fun h s3=>(pop s3).bnd fun x' s4=>slD x' l h s4:=(rfl)
theorem zf2{i j:Int}:J1 (.int i) (.int j) s= .ok (.int (i+j)) s:=(rfl)
theorem z27{a b:List D}(h:a.length+b.length<=sizeLine):J1 (.tup a) (.tup b) s= .ok (.tup (a++b)) s:=by erw[J1,if_pos h];rfl
theorem K6{k l:Nat}{a b:List D}(h:a.length+b.length<=sizeLine):J1 (.lst k a) (.lst l b) s= .ok (.lst s.n (a++b)) s.nxt:=by erw[J1,if_pos h];rfl
theorem zhs{i j:Int}:z9X (.int i) (.int j) s= .ok (.int (i -j)) s:=(rfl)
theorem z7l{i j:Int}(h:z9u i j):z4z (.int i) (.int j) s= .ok (.int (i*j)) s:=by erw[z4z,if_pos h];rfl
theorem zbd{i j:Int}(h:zd7 i j):z4T (.int i) (.int j) s= .ok (.int (i/j)) s:=by erw[z4T,if_pos h];rfl
theorem z3j{i j:Int}(h:0<j):z3u (.int i) (.int j) s= .ok (.int (i %j)) s:=by erw[z3u,if_pos h];rfl
theorem zaq{i j:Int}(h:zd8 i j):z9w (.int i) (.int j) s= .ok (.int (i^j.toNat)) s:=by erw[z9w,if_pos h];rfl
theorem ziY{i j:Int}:ltD (.int i) (.int j) s= .ok (.bool (decide (i<j))) s:=(rfl)
theorem ziZ{i j:Int}:leD (.int i) (.int j) s= .ok (.bool (decide (i<=j))) s:=(rfl)
theorem zj0{i j:Int}:gtD (.int i) (.int j) s= .ok (.bool (decide (j<i))) s:=(rfl)
theorem zj1{i j:Int}:geD (.int i) (.int j) s= .ok (.bool (decide (j<=i))) s:=(rfl)
theorem zht{i:Int}:z6k (.int i) s= .ok (.int (-i)) s:=(rfl)
theorem zil{t t':D}(h:eqC t t'=true):eqD t t' s= .ok (.bool (PyData.eqv (er t) (er t'))) s:=by erw[eqD,if_pos h];rfl
theorem zgf{t t':D}(h:eqC t t'=true):neD t t' s= .ok (.bool (!PyData.eqv (er t) (er t'))) s:=by erw[neD,if_pos h];rfl
theorem zhu{t t':D}{ds:List D}(e:z7s t'=some ds)(h:inC t ds=true):z9x t t' s= .ok (.bool (!(erL ds).any fun y=>PyData.eqv y (er t))) s:=by erw[z9x,e,if_pos h];rfl
theorem zhv{ds:List D}{i:Int}:ixD (.tup ds) (.int i) s=zda (atI ds i) s:=(rfl)
theorem zhw{l:Nat}{ds:List D}{i:Int}:ixD (.lst l ds) (.int i) s=zda (atI ds i) s:=(rfl)
theorem zhx{ds:List D}{i:Int}:ixD (.ro ds) (.int i) s=zda (atI ds i) s:=(rfl)
theorem zhy{d:D}:zda (some d) s= .ok d s:=(rfl)
theorem zhz{ds:List D}{lo hi:Option Int}:slD (.tup ds) lo hi s= .ok (.tup (z1q ds lo hi)) s:=(rfl)
theorem zhA{l:Nat}{ds:List D}{lo hi:Option Int}:slD (.lst l ds) lo hi s= .ok (.lst s.n (z1q ds lo hi)) s.nxt:=(rfl)
theorem z8T{ts:List D}(h:ts.length<=sizeLine):K9 ts s= .ok (.tup ts) s:=by erw[K9,if_pos h];rfl
theorem z62{ts:List D}(h:ts.length<=sizeLine):lstM ts s= .ok (.lst s.n ts) s.nxt:=by erw[lstM,if_pos h];rfl
theorem zf3{ds:List D}:lenD [.tup ds] s= .ok (.int ds.length) s:=(rfl)
theorem zf4{l:Nat}{ds:List D}:lenD [.lst l ds] s= .ok (.int ds.length) s:=(rfl)
theorem zf5{ds:List D}:lenD [.ro ds] s= .ok (.int ds.length) s:=(rfl)
theorem zhB{i:Int}:zdb [.int i] s= .ok (.int (if i<0 then -i else i)) s:=(rfl)
theorem zhC{i j:Int}:za0 [.int i, .int j] s= .ok (.int (if j<i then j else i)) s:=(rfl)
theorem zhD{i j:Int}:zdc [.int i, .int j] s= .ok (.int (if j>i then j else i)) s:=(rfl)
theorem zf6{b:Bool}:zci [.bool b] s= .ok (.int (if b then 1 else 0)) s:=(rfl)
theorem zf7{l:Nat}{ds:List D}:tupF [.lst l ds] s= .ok (.tup ds) s:=(rfl)
theorem zf8{l:Nat}{ds:List D}{bs:List Bool}(h:z0A ds=some bs):zch [.lst l ds] s= .ok (.bool (bs.all id)) s:=by erw[zch,h];rfl
theorem zf9{a b:MS}:Y2 a b s=(a s).sq b:=by
 unfold Y2 RS.sq
 cases a s<;>rfl
theorem zbe{m:M α}{f:α->MS}:z0u m f s=(m s).lf f:=(rfl)
theorem zhE:sNx s= .nx s:=(rfl)
theorem zfa:J3 m s=(m s).lf fun d s1=> .rt d s1:=(rfl)
theorem zcI:z2B m s=(m s).lf fun _ s1=> .nx s1:=(rfl)
theorem zhF{c:M Bool}{a b:MS}:sIf c a b s=(c s).lf fun k=>zdd k a b:=(rfl)
theorem zj2{a b:MS}:zdd true a b s=a s:=(rfl)
theorem zj3{a b:MS}:zdd false a b s=b s:=(rfl)
noncomputable def zim(o:Option (List (Option D)))(s:Stt):RS:=match o with
 |some σ'=> .nx {s with σ:=σ'}
 |none=> .no
theorem zfb{g:Tg}:Q8 g m s=(m s).lf fun d s1=>zim (asg g d s1.σ) s1:=by
 unfold Q8 z0u Res.lf zim
 cases m s with
 |ok d s1=>first|(dsimp only;cases asg g d s1.σ<;>rfl)|(dsimp only;done)|rfl
 |ex d s1=>rfl
 |no=>rfl
theorem zhG{me mo mi:M D}{g:D->D->D->MS}:mTri me mo mi g s=(me s).lf fun v s1=>(mo (s1.psh v)).lf fun o s2=>(mi (s2.psh o)).lf fun i s3=>(pop s3).lf fun o' s4=>(pop s4).lf fun v' s5=>g o' i v' s5:=(rfl)
theorem z8U{l:Nat}{ds:List D}{k:Int}{v:D}{j:Nat}(e:ixN ds.length k=some j)(h:l∉y9 v):setD (.lst l ds) (.int k) v s= .nx (s.put l (.lst l (ds.set j v))):=by erw[setD,e,if_pos h]
theorem zfc{mo:M D}{g:D->List D->M D}:z1S mo ms g s=(mo s).bnd fun x s1=>(isL x s1).bnd fun _ s2=>(Y4 ms (s2.psh x)).bnd fun ys s3=>(pop s3).bnd fun x' s4=>g x' ys s4:=(rfl)
theorem zhH{l:Nat}{ds:List D}:isL (.lst l ds) s= .ok () s:=(rfl)
theorem zar{l:Nat}{ds:List D}{y:D}(h:ds.length<sizeLine/\l∉y9 y):z7b (.lst l ds) [y] s= .ok .non (s.put l (.lst l (ds++[y]))):=by erw[z7b,if_pos h]
end
theorem z1E{α:Type}{xs:List α}{i:Int}{d:α}(h0:0<=i)(h:xs[i.toNat]? =some d):atI xs i=some d:=by
 obtain⟨j,rfl⟩:=C4 h0
 exact zbQ (by simpa using h)
end Mi
set_option maxHeartbeats 400000
namespace Mi
open PySem L2
noncomputable def pl(l:Nat)(d:D):Nat->Option D:=fun k=>if k=l then some d else none
theorem zbf{σ tm:List (Option D)}{n l:Nat}{d:D}:Stt.put ⟨σ,tm,n⟩ l d=⟨rpO (pl l d) σ,rpO (pl l d) tm,n⟩:=(rfl)
theorem Z9{l:Nat}{d t:D}(h:l∉y9 t):rp (pl l d) t=t:=z9V t fun k hk=>by
 unfold pl;rw[if_neg];intro e;subst e;exact h hk
theorem z8V{f:Nat->Option D}:rpO f []=[]:=(rfl)
theorem zas{f:Nat->Option D}{r:List (Option D)}:rpO f (none::r)=none::rpO f r:=(rfl)
theorem zat{f:Nat->Option D}{d:D}{r:List (Option D)}:rpO f (some d::r)=some (rp f d)::rpO f r:=(rfl)
theorem z6A{l:Nat}{d:D}{b:List D}:rp (pl l d) (.lst l b)=d:=by erw[rp,pl,if_true]
theorem z8W{f:Nat->Option D}{i:Int}:rp f (.int i)= .int i:=(rfl)
theorem zfd{f:Nat->Option D}{i:Str}:rp f (.str i)= .str i:=(rfl)
theorem zcJ{f:Nat->Option D}{i:Bool}:rp f (.bool i)= .bool i:=(rfl)
theorem zfe{f:Nat->Option D}:rp f .non= .non:=(rfl)
theorem zbg{f:Nat->Option D}{ds:List D}:rp f (.tup ds)= .tup (rpL f ds):=(rfl)
theorem zcK{f:Nat->Option D}:rpL f []=[]:=(rfl)
theorem z6B{f:Nat->Option D}{d:D}{ds:List D}:rpL f (d::ds)=rp f d::rpL f ds:=(rfl)
mutual
theorem z23{l:Nat}: ∀t:D,l∉y9 t->W9 l t=none
 | .non,_=>rfl
 | .bool _,_=>rfl
 | .int _,_=>rfl
 | .str _,_=>rfl
 | .exc _,_=>rfl
 | .fn _,_=>rfl
 | .tup ds,h=>by erw[y9] at h;erw[W9];exact findL_none ds h
 | .ro ds,h=>by erw[y9] at h;erw[W9];exact findL_none ds h
 | .fdc ks ds,h=>by erw[y9] at h;erw[W9];exact findL_none ds h
 | .lst k ds,h=>by
  erw[y9,i0,not_or] at h;erw[W9];rw[if_neg fun e=>h.1 e.symm];exact findL_none ds h.2
 | .dct k ks ds,h=>by
  erw[y9,i0,i3,not_or] at h;erw[W9];rw[if_neg fun e=>h.1 e.symm];exact findL_none ds h.2.2
 | .obj k c ks ds,h=>by
  erw[y9,i0,not_or] at h;erw[W9];rw[if_neg fun e=>h.1 e.symm];exact findL_none ds h.2
theorem findL_none{l:Nat}: ∀t:List D,l∉labsL t->findL l t=none
 |[],_=>rfl
 |d::ds,h=>by
  erw[labsL,i3,not_or] at h
  erw[findL,z23 d h.1,findL_none ds h.2]
end
theorem W5{t:D}{l n' n:Nat}{b b' r:List D}{σ tm:List (Option D)}(hb:labsL b=[])(hb':labsL b'=[])(hr:labsL r=[])(f1:rpO (pl l (.lst l b)) σ=σ)(f2:rpO (pl l (.lst l b)) tm=tm):
 z1w (.ok t (.lst l b'::r) n') (.lst l b::r) ⟨σ,tm,n⟩= .ok t ⟨rpO (pl l (.lst l b')) σ,rpO (pl l (.lst l b')) tm,n'⟩:=by
 have e:(fun k=>findL k (.lst l b'::r))=pl l (.lst l b'):=by
  funext k
  erw[findL,W9,pl]
  by_cases h:l=k
  ·subst h;rw[if_pos rfl,if_pos rfl]
  ·rw[if_neg h,if_neg fun q=>h q.symm,findL_none b' (by rw[hb'];exact l6),findL_none r (by rw[hr];exact l6)]
 unfold z1w
 by_cases h:(D.lst l b'::r)=(D.lst l b::r)
 ·have hh:b'=b:=by injection h with h _;injection h
  subst hh
  erw[if_true]
  rw[f1,f2]
 ·erw[if_neg h]
  rw[if_pos,e]
  intro k _ hk
  erw[labsL,y9,hb,hr,l3,m9] at hk
  subst hk
  have:=congrFun e k
  rw[show findL k (D.lst k b'::r)=pl k (D.lst k b') k from this];simp[pl]
theorem zhI{mi:M ItK}{g:Tg}{b:MS}{s:Stt}:z35 mi g b s=(mi s).lf fun K s=>forGo K g b (K.len s.tm) 0 s:=(rfl)
theorem z8X{ms:List (M D)}{s:Stt}:U1 ms s=(Y4 ms s).bnd zev:=(rfl)
theorem z2V{j:Int}{s:Stt}(h: -(2^62)<=j/\j<2^62):zev [.int j] s= .ok (z4W 0 j.toNat) s:=by erw[zev,if_pos h];rfl
theorem zbh{lo:Int}{N:Nat}{tm:List (Option D)}:(z4W lo N).len tm=N:=(rfl)
theorem z2W{P:Nat->Stt->Prop}{lo:Int}{N:Nat}{g:Tg}{b:MS}
 (body: ∀i,i<N->∀s,P i s->∃σ',asg g (.int (lo+i)) s.σ=some σ'/\∃s',b {s with σ:=σ'}= .nx s'/\P (i+1) s'):
 ∀(f i:Nat) (s:Stt),i+f=N->P i s->∃s',forGo (z4W lo N) g b f i s= .nx s'/\P N s':=by
 intro f
 induction f with
 |zero=>
  intro i s hi h
  have e:i=N:=by lia
  subst e
  refine⟨s, ?_,h⟩
  unfold forGo
  erw[z4W,B1,if_false]
  rfl
 |succ f ih=>
  intro i s hi h
  have hl:i<N:=by lia
  obtain⟨σ',e1,s',e2,h'⟩:=body i hl s h
  obtain⟨s2,e3,h2⟩:=ih (i+1) s' (by lia) h'
  refine⟨s2, ?_,h2⟩
  unfold forGo
  erw[z4W,if_pos hl,e1,e2]
  exact e3
mutual
theorem zff{l:Nat}{b:List D}{d:D}: ∀t:D,rp (pl l d) (rp (pl l (.lst l b)) t)=rp (pl l d) t
 | .non=>rfl
 | .bool _=>rfl
 | .int _=>rfl
 | .str _=>rfl
 | .exc _=>rfl
 | .fn _=>rfl
 | .tup ds=>by erw[rp];rw[rpL_rp ds]
 | .ro ds=>by erw[rp];rw[rpL_rp ds]
 | .fdc ks ds=>by erw[rp];rw[rpL_rp ds]
 | .lst k ds=>by
  by_cases h:k=l
  ·subst h;erw[rp,pl,if_true]
  ·have e: ∀x,pl l x k=none:=fun x=>by erw[pl,if_neg h]
   erw[rp,e];rw[rpL_rp ds]
 | .dct k ks ds=>by
  by_cases h:k=l
  ·subst h;erw[rp,pl,if_true]
  ·have e: ∀x,pl l x k=none:=fun x=>by erw[pl,if_neg h]
   erw[rp,e];rw[rpL_rp ds]
 | .obj k c ks ds=>by
  by_cases h:k=l
  ·subst h;erw[rp,pl,if_true]
  ·have e: ∀x,pl l x k=none:=fun x=>by erw[pl,if_neg h]
   erw[rp,e];rw[rpL_rp ds]
theorem rpL_rp{l:Nat}{b:List D}{d:D}: ∀t:List D,rpL (pl l d) (rpL (pl l (.lst l b)) t)=rpL (pl l d) t
 |[]=>rfl
 |t::ts=>by erw[rpL];rw[zff t,rpL_rp ts]
end
theorem z5h{l:Nat}{b:List D}{d:D}: ∀t:List (Option D),rpO (pl l d) (rpO (pl l (.lst l b)) t)=rpO (pl l d) t
 |[]=>rfl
 |none::ts=>by erw[rpO];rw[z5h ts]
 |some t::ts=>by erw[rpO];rw[zff t,z5h ts]
theorem z1n{f:Nat->Option D}: ∀(a b:List (Option D)),rpO f (a++b)=rpO f a++rpO f b
 |[],b=>rfl
 |none::a,b=>by erw[r8,rpO,z1n a b]
 |some d::a,b=>by erw[r8,rpO,z1n a b]
theorem z4k{f:Nat->Option D}: ∀(a:List (Option D)),(rpO f a).length=a.length
 |[]=>rfl
 |none::a=>by erw[rpO,l8,z4k a]
 |some d::a=>by erw[rpO,l8,z4k a]
theorem z5i: ∀ds:List D,Y0 (ds.map some)=labsL ds
 |[]=>rfl
 |d::ds=>by erw[i6,Y0,labsL,z5i ds]
theorem z2X: ∀a b:List D,labsL (a++b)=labsL a++labsL b
 |[],b=>rfl
 |d::ds,b=>by erw[r8,labsL,z2X ds b,r6]
theorem z8Y{l:Nat}: ∀ds:List D,l∈labsL ds.reverse↔l∈labsL ds
 |[]=>Iff.rfl
 |d::ds=>by erw[A9,z2X,labsL,i3,z8Y ds,l3];exact Or.comm
theorem z5j{l:Nat}{d:D}{ds:List D}(h:l∉labsL ds):rpO (pl l d) (ds.reverse.map some)=ds.reverse.map some:=z87 _ fun k hk=>by
 rw[z5i,z8Y] at hk
 unfold pl;rw[if_neg];intro e;subst e;exact h hk
theorem z7m{me:M D}{N:Nat}{cap σ0 tm0:List (Option D)}{l ol:Nat}{Bg:List D->Prop}{Q:Nat->D->Prop}(mono: ∀a b,a<=b->∀y,Q a y->Q b y)(hol:σ0.length=ol)(hz:N<sizeLine)
 (hme: ∀i,i<N->∀b tm n,Bg b->l<n->rpO (pl l (.lst l b)) tm=tm->∃y b' n',Bg b'/\Q n' y/\n<=n'/\l∉y9 y/\me ⟨some (.int (0+(i:Nat)))::rpO (pl l (.lst l b)) cap,tm,n⟩= .ok y ⟨some (.int (0+(i:Nat)))::rpO (pl l (.lst l b')) cap,rpO (pl l (.lst l b')) tm,n'⟩):
 ∀(f:Nat) (acc:List D) (o:Option D) (b:List D) (n:Nat),acc.length+f=N->Bg b->l<n->(∀y∈acc,Q n y)->l∉labsL acc->
  ∃ys b' n',ys.length=N/\(∀y∈ys,Q n' y)/\l∉labsL ys/\Bg b'/\n<=n'/\
   j0 (z4W 0 N) (.nm 0) (rt true) me ol f acc.length acc.length ⟨o::rpO (pl l (.lst l b)) cap,(acc.reverse.map some)++(rpO (pl l (.lst l b)) σ0++rpO (pl l (.lst l b)) tm0),n⟩= .ok (.lst n' ys) ⟨rpO (pl l (.lst l b')) σ0,rpO (pl l (.lst l b')) tm0,n'+1⟩:=by
 intro f
 induction f with
 |zero=>
  intro acc o b n hi hb hn hq hf
  have hi:acc.length=N:=by lia
  refine⟨acc,b,n,hi,hq,hf,hb,i4 _, ?_⟩
  have l1:(acc.reverse.map some).length=acc.length:=by simp
  unfold j0
  erw[z4W,hi,B1,if_false]
  rw[<-hi,J2 _ _ _ l1]
  have e2:(acc.reverse.map some).reverse=acc.map some:=by simp
  rw[e2,J5]
  erw[Res.ok.injEq,true_and,Stt.mk.injEq,and_true]
  constructor
  ·rw[Y6 _ _ _ l1,J2 _ _ _ (by rw[z4k];exact hol)]
  ·rw[<-r6,Nat.add_zero]
   exact Y6 _ _ _ (by simp[z4k,hol])
 |succ f ih=>
  intro acc o b n hi hb hn hq hf
  have hlt:acc.length<N:=by lia
  unfold j0
  erw[z4W,if_pos hlt,asg,A7,rt]
  rw[if_pos (by lia)]
  obtain⟨y,b',n',h1,h2,h3,h4,h5⟩:=hme acc.length hlt b ((acc.reverse.map some)++(rpO (pl l (.lst l b)) σ0++rpO (pl l (.lst l b)) tm0)) n hb hn (by rw[z1n,z1n,z5h,z5h,z5j hf])
  rw[h5]
  obtain⟨ys,b2,n2,g1,g2,g3,g4,g5,g6⟩:=ih (acc++[y]) (some (.int (0+(acc.length:Nat)))) b' n' (by simp;lia) h1 (by lia) (by
   intro z hz
   rcases i3.mp hz with hz|hz
   ·exact mono _ _ h3 z (hq z hz)
   ·rw[m9.mp hz];exact h2) (by
   rw[z2X]
   erw[labsL,l3,i3,not_or]
   exact⟨hf,h4⟩)
  refine⟨ys,b2,n2,g1,g2,g3,g4,by lia, ?_⟩
  rw[<-g6]
  erw[Stt.psh,z1n,z5h,z5j hf,m7,l8,t5,D8,B9,A9,B2,m8,B8,i6,l9,r8]
  rfl
theorem z2Y{ms:List (M D)}{me:M D}{N:Nat}{ix:List Nat}{s:Stt}{l n:Nat}{j:Int}{σ0 tm0:List (Option D)}{b:List D}{Bg:List D->Prop}{Q:Nat->D->Prop}(mono: ∀a b,a<=b->∀y,Q a y->Q b y)(hms:Y4 ms s= .ok [.int j] ⟨σ0,tm0,n⟩)(hj:j.toNat=N)(hj': -(2^62)<=j/\j<2^62)(hz:N<sizeLine)
 (hb:Bg b) (hn:l<n) (f1:rpO (pl l (.lst l b)) σ0=σ0) (f2:rpO (pl l (.lst l b)) tm0=tm0) (f3:rpO (pl l (.lst l b)) (ix.map fun i=>(σ0[i]?).getD none)=ix.map fun i=>(σ0[i]?).getD none)
 (hme: ∀i,i<N->∀b tm n,Bg b->l<n->rpO (pl l (.lst l b)) tm=tm->∃y b' n',Bg b'/\Q n' y/\n<=n'/\l∉y9 y/\me ⟨some (.int (0+(i:Nat)))::rpO (pl l (.lst l b)) (ix.map fun i=>(σ0[i]?).getD none),tm,n⟩= .ok y ⟨some (.int (0+(i:Nat)))::rpO (pl l (.lst l b')) (ix.map fun i=>(σ0[i]?).getD none),rpO (pl l (.lst l b')) tm,n'⟩):
 ∃ys b' n',ys.length=N/\(∀y∈ys,Q n' y)/\l∉labsL ys/\Bg b'/\n<=n'/\W3 (U1 ms) (.nm 0) (rt true) me 1 ix s= .ok (.lst n' ys) ⟨rpO (pl l (.lst l b')) σ0,rpO (pl l (.lst l b')) tm0,n'+1⟩:=by
 obtain⟨ys,b',n',h1,h2,h3,h4,h5,h6⟩:=z7m (me:=me) (N:=N) (cap:=ix.map fun i=>(σ0[i]?).getD none) (σ0:=σ0) (tm0:=tm0) (l:=l) (Bg:=Bg) (Q:=Q) mono rfl hz hme N [] none b n (by simp) hb hn (by intro y h;cases h) (by simp[labsL])
 refine⟨ys,b',n',h1,h2,h3,h4,h5, ?_⟩
 unfold W3
 rw[zge,z8X,hms,z1D,z2V hj',z1D,hj]
 rw[f1,f2,f3] at h6
 exact h6
inductive All2(Q:D->D->Prop):List D->List D->Prop
 |nil:All2 Q [] []
 |cons {a b:D} {as bs:List D}:Q a b->All2 Q as bs->All2 Q (a::as) (b::bs)
theorem All2.snoc{Q:D->D->Prop}{a b:D}: ∀{as bs:List D},All2 Q as bs->Q a b->All2 Q (as++[a]) (bs++[b])
 |_,_, .nil,h=> .cons h .nil
 |_,_, .cons h1 h2,h=> .cons h1 (h2.snoc h)
theorem All2.len{Q:D->D->Prop}: ∀{as bs:List D},All2 Q as bs->as.length=bs.length
 |_,_, .nil=>rfl
 |_,_, .cons _ h=>by erw[l8,h.len]
theorem All2.mono{Q R:D->D->Prop}(h: ∀a b,Q a b->R a b): ∀{as bs:List D},All2 Q as bs->All2 R as bs
 |_,_, .nil=> .nil
 |_,_, .cons h1 h2=> .cons (h _ _ h1) (h2.mono h)
theorem z7n{me:M D}{Q:Nat->D->D->Prop}(mono: ∀a b,a<=b->∀d y,Q a d y->Q b d y){l:Nat}{ds:List D}{fr σ0 tm0:List (Option D)}{ol:Nat}(hol:σ0.length=ol)(hz:ds.length<sizeLine)
 (hme: ∀d∈ds,∀tm n,∃y n',n<=n'/\Q n' d y/\me ⟨some d::fr,tm,n⟩= .ok y ⟨some d::fr,tm,n'⟩):
 ∀(f:Nat) (acc:List D) (o:Option D) (n:Nat),acc.length+f=ds.length->All2 (Q n) (ds.take acc.length) acc->∃ys n',All2 (Q n') ds ys/\n<=n'/\j0 kLst (.nm 0) (rt true) me ol f acc.length acc.length ⟨o::fr,(acc.reverse.map some)++(σ0++(some (.lst l ds)::tm0)),n⟩= .ok (.lst n' ys) ⟨σ0,tm0,n'+1⟩:=by
 intro f
 induction f with
 |zero=>
  intro acc o n hi hq
  have hi:acc.length=ds.length:=by lia
  rw[hi,P4] at hq
  refine⟨acc,n,hq,i4 _, ?_⟩
  have l1:(acc.reverse.map some).length=acc.length:=by simp
  have e1:((acc.reverse.map some)++(σ0++(some (D.lst l ds)::tm0))).drop (acc.length+ol)=some (D.lst l ds)::tm0:=by
   rw[<-r6];exact Y6 _ _ _ (by simp[hol])
  have e0:kLst.at' acc.length (((acc.reverse.map some)++(σ0++(some (D.lst l ds)::tm0))).drop (acc.length+ol))=some none:=by
   rw[e1];show some ds[acc.length]? =_;rw[List.getElem?_eq_none (by lia)]
  unfold j0
  erw[e0,show kLst.k=1 from rfl]
  rw[J2 _ _ _ l1]
  have e2:(acc.reverse.map some).reverse=acc.map some:=by simp
  rw[e2,J5]
  erw[Res.ok.injEq,true_and,Stt.mk.injEq,and_true]
  constructor
  ·rw[Y6 _ _ _ l1,J2 _ _ _ hol]
  ·have:((acc.reverse.map some)++(σ0++(some (D.lst l ds)::tm0))).drop (acc.length+ol+1)=(((acc.reverse.map some)++(σ0++(some (D.lst l ds)::tm0))).drop (acc.length+ol)).drop 1:=by rw[D0]
   rw[this,e1]
   rfl
 |succ f ih=>
  intro acc o n hi hq
  have hlt:acc.length<ds.length:=by lia
  have e1:((acc.reverse.map some)++(σ0++(some (D.lst l ds)::tm0))).drop (acc.length+ol)=some (D.lst l ds)::tm0:=by
   rw[<-r6];exact Y6 _ _ _ (by simp[hol])
  unfold j0
  erw[e1,kLst,zcn,z4S,A5,List.getElem?_eq_getElem hlt,asg,A7,rt]
  rw[if_pos (by lia)]
  obtain⟨y,n1,hn1,q1,h1⟩:=hme ds[acc.length] (A2 hlt) ((acc.reverse.map some)++(σ0++(some (D.lst l ds)::tm0))) n
  rw[h1]
  obtain⟨ys,n2,g1,g2,g3⟩:=ih (acc++[y]) (some ds[acc.length]) n1 (by simp;lia) (by
   have e3:ds.take (acc++[y]).length=ds.take acc.length++[ds[acc.length]]:=by
    rw[m7,M8,L8,List.getElem?_eq_getElem hlt];rfl
   rw[e3];exact(hq.mono (mono _ _ hn1)).snoc q1)
  refine⟨ys,n2,g1,by lia, ?_⟩
  rw[<-g3]
  erw[Stt.psh,m7,l8,t5,D8,B9,A9,B2,m8,B8,i6,l9,r8]
  rfl
theorem z1F{mc me:M D}{Q:Nat->D->D->Prop}(mono: ∀a b,a<=b->∀d y,Q a d y->Q b d y){l:Nat}{ds:List D}{ix:List Nat}{s:Stt}{σ tm:List (Option D)}{n:Nat}(hc:mc s= .ok (.lst l ds) ⟨σ,tm,n⟩)(hz:ds.length<sizeLine)
 (hme: ∀d∈ds,∀tm n,∃y n',n<=n'/\Q n' d y/\me ⟨some d::(ix.map fun i=>(σ[i]?).getD none),tm,n⟩= .ok y ⟨some d::(ix.map fun i=>(σ[i]?).getD none),tm,n'⟩):
 ∃ys n',All2 (Q n') ds ys/\n<=n'/\W3 (G2 mc) (.nm 0) (rt true) me 1 ix s= .ok (.lst n' ys) ⟨σ,tm,n'+1⟩:=by
 obtain⟨ys,n',h1,h2,h3⟩:=z7n (me:=me) (Q:=Q) mono (l:=l) (ds:=ds) (σ0:=σ) (tm0:=tm) rfl hz hme ds.length [] none n (by simp) .nil
 refine⟨ys,n',h1,h2, ?_⟩
 unfold W3 G2
 erw[bd,hc,Stt.psh]
 erw[l9,B2,m8,t5] at h3
 erw[kLst,z3x,z4X,l5] at h3⊢
 exact h3
theorem zfg{m:M D}{s:Stt}{l:Nat}{ds:List D}{σ tm:List (Option D)}{n:Nat}(h:m s= .ok (.lst l ds) ⟨σ,tm,n⟩):G2 m s= .ok kLst ⟨σ,some (.lst l ds)::tm,n⟩:=by
 unfold G2;rw[zge,h];rfl
theorem zcL{P:Stt->Prop}{l:Nat}{ds:List D}{g:Tg}{b:MS}{tm:List (Option D)}(hP: ∀s,P s->s.tm=some (.lst l ds)::tm)
 (body: ∀d∈ds,∀s,P s->∃σ',asg g d s.σ=some σ'/\∃s',b {s with σ:=σ'}= .nx s'/\P s'):
 ∀(f i:Nat) (s:Stt),i+f=ds.length->P s->∃s',forGo kLst g b f i s= .nx (s'.popn 1)/\P s':=by
 intro f
 induction f with
 |zero=>
  intro i s hi h
  refine⟨s, ?_,h⟩
  unfold forGo
  have e:kLst.at' i s.tm=some none:=by rw[hP s h];show some ds[i]? =_;rw[List.getElem?_eq_none (by lia)]
  erw[e]
  rfl
 |succ f ih=>
  intro i s hi h
  have hl:i<ds.length:=by lia
  obtain⟨σ',e1,s',e2,h'⟩:=body ds[i] (A2 hl) s h
  obtain⟨s2,e3,h2⟩:=ih (i+1) s' (by lia) h'
  refine⟨s2, ?_,h2⟩
  unfold forGo
  have e:kLst.at' i s.tm=some (some ds[i]):=by rw[hP s h];show some ds[i]? =_;rw[List.getElem?_eq_getElem hl]
  erw[e,e1,e2]
  exact e3
theorem z7o{K:ItK}{mt:M Bool}{me:M D}{p:D->Bool}{g:D->D}{items:List D}{its fr σ0 tm0:List (Option D)}{ol:Nat}(hk:its.length=K.k)(hol:σ0.length=ol)(hz:items.length<sizeLine)(hat: ∀i rest,K.at' i (its++rest)=some items[i]?)
 (hmt: ∀d∈items,∀tm n,∃n',n<=n'/\mt ⟨some d::fr,tm,n⟩= .ok (p d) ⟨some d::fr,tm,n'⟩)
 (hme: ∀d∈items,p d=true->∀tm n,∃n',n<=n'/\me ⟨some d::fr,tm,n⟩= .ok (g d) ⟨some d::fr,tm,n'⟩):
 ∀(f i:Nat) (acc:List D) (o:Option D) (n:Nat),i+f=items.length->acc.length<=i->∃n',n<=n'/\j0 K (.nm 0) mt me ol f i acc.length ⟨o::fr,(acc.reverse.map some)++(σ0++(its++tm0)),n⟩= .ok (.lst n' (acc++((items.drop i).filter p).map g)) ⟨σ0,tm0,n'+1⟩:=by
 intro f
 induction f with
 |zero=>
  intro i acc o n hi ha
  have hi:i=items.length:=by lia
  refine⟨n,i4 _, ?_⟩
  have l1:(acc.reverse.map some).length=acc.length:=by simp
  have e1:((acc.reverse.map some)++(σ0++(its++tm0))).drop (acc.length+ol)=its++tm0:=by
   rw[<-r6];exact Y6 _ _ _ (by simp[hol])
  unfold j0
  erw[e1,hat,List.getElem?_eq_none (show items.length<=i by lia)]
  rw[J2 _ _ _ l1]
  have e2:(acc.reverse.map some).reverse=acc.map some:=by simp
  rw[e2,J5]
  erw[Res.ok.injEq,Stt.mk.injEq,and_true,C6 (show items.length<=i by lia),S7,l9,l3,true_and]
  constructor
  ·rw[Y6 _ _ _ l1,J2 _ _ _ hol]
  ·have:((acc.reverse.map some)++(σ0++(its++tm0))).drop (acc.length+ol+K.k)=(((acc.reverse.map some)++(σ0++(its++tm0))).drop (acc.length+ol)).drop K.k:=by rw[D0]
   rw[this,e1]
   exact Y6 _ _ _ hk
 |succ f ih=>
  intro i acc o n hi ha
  have hlt:i<items.length:=by lia
  have e1:((acc.reverse.map some)++(σ0++(its++tm0))).drop (acc.length+ol)=its++tm0:=by
   rw[<-r6];exact Y6 _ _ _ (by simp[hol])
  obtain⟨n1,hn1,h1⟩:=hmt items[i] (A2 hlt) ((acc.reverse.map some)++(σ0++(its++tm0))) n
  rw[C7 hlt,S5]
  unfold j0
  erw[e1,hat,List.getElem?_eq_getElem hlt,asg,A7,h1]
  cases hp:p items[i] with
  |false=>
   obtain⟨n2,hn2,h2⟩:=ih (i+1) acc (some items[i]) n1 (by lia) (by lia)
   exact⟨n2,by lia,h2⟩
  |true=>
   obtain⟨n2,hn2,h2⟩:=hme items[i] (A2 hlt) hp ((acc.reverse.map some)++(σ0++(its++tm0))) n1
   obtain⟨n3,hn3,h3⟩:=ih (i+1) (acc++[g items[i]]) (some items[i]) n2 (by lia) (by simp;lia)
   refine⟨n3,by lia, ?_⟩
   erw[if_pos (show acc.length<sizeLine by lia),h2]
   erw[m7,l8,t5,D8,B9,A9,B2,m8,B8,i6,l9,r8,r6] at h3⊢
   exact h3
theorem z5k{mi:M ItK}{K:ItK}{mt:M Bool}{me:M D}{p:D->Bool}{g:D->D}{items:List D}{its:List (Option D)}{ix:List Nat}{s:Stt}{σ tm:List (Option D)}{n:Nat}(hc:mi s= .ok K ⟨σ,its++tm,n⟩)(hk:its.length=K.k)(hz:items.length<sizeLine)(hat: ∀i rest,K.at' i (its++rest)=some items[i]?)(hlen:K.len (its++tm)=items.length)
 (hmt: ∀d∈items,∀tm n,∃n',n<=n'/\mt ⟨some d::(ix.map fun i=>(σ[i]?).getD none),tm,n⟩= .ok (p d) ⟨some d::(ix.map fun i=>(σ[i]?).getD none),tm,n'⟩)
 (hme: ∀d∈items,p d=true->∀tm n,∃n',n<=n'/\me ⟨some d::(ix.map fun i=>(σ[i]?).getD none),tm,n⟩= .ok (g d) ⟨some d::(ix.map fun i=>(σ[i]?).getD none),tm,n'⟩):
 ∃n',n<=n'/\W3 mi (.nm 0) mt me 1 ix s= .ok (.lst n' ((items.filter p).map g)) ⟨σ,tm,n'+1⟩:=by
 obtain⟨n',h2,h3⟩:=z7o (K:=K) (mt:=mt) (me:=me) (σ0:=σ) (tm0:=tm) hk rfl hz hat hmt hme items.length 0 [] none n (by simp) (by simp)
 refine⟨n',h2, ?_⟩
 unfold W3
 erw[bd,hc,hlen]
 erw[l9,B2,m8,t5,E8] at h3
 exact h3
theorem z0V{mc:M D}{mt:M Bool}{me:M D}{p:D->Bool}{g:D->D}{l:Nat}{ds:List D}{ix:List Nat}{s:Stt}{σ tm:List (Option D)}{n:Nat}(hc:mc s= .ok (.lst l ds) ⟨σ,tm,n⟩)(hz:ds.length<sizeLine)
 (hmt: ∀d∈ds,∀tm n,∃n',n<=n'/\mt ⟨some d::(ix.map fun i=>(σ[i]?).getD none),tm,n⟩= .ok (p d) ⟨some d::(ix.map fun i=>(σ[i]?).getD none),tm,n'⟩)
 (hme: ∀d∈ds,p d=true->∀tm n,∃n',n<=n'/\me ⟨some d::(ix.map fun i=>(σ[i]?).getD none),tm,n⟩= .ok (g d) ⟨some d::(ix.map fun i=>(σ[i]?).getD none),tm,n'⟩):
 ∃n',n<=n'/\W3 (G2 mc) (.nm 0) mt me 1 ix s= .ok (.lst n' ((ds.filter p).map g)) ⟨σ,tm,n'+1⟩:=
 z5k (K:=kLst) (its:=[some (.lst l ds)]) (items:=ds) (by unfold G2;rw[zge,hc];rfl) rfl hz (fun i rest=>rfl) rfl hmt hme
end Mi
set_option maxHeartbeats 1000000
namespace Mi
open PySem L2
noncomputable def zhJ(o:Option (List D))(t:D)(n:Nat):RF:=match o with|some ts=> .ex t ts n|none=> .no
noncomputable def _root_.Mi.RS.finX(k:Nat):RS->RF
 | .nx s'=>zgd (Y5 s'.tm) .non s'.n
 | .rt t s'=>zgd (Y5 s'.tm) t s'.n
 | .ex d s'=>zhJ (Y5 (zhc k s'.tm)) d s'.n
 |_=> .no
end Mi
set_option maxHeartbeats 4000000
namespace Mi
open PySem L2
theorem zbi(lo:Int)(N i:Nat)(rest:List (Option D)):(z4W lo N).at' i ([]++rest)=some (zae lo N)[i]? :=by
 erw[z4W,zae,List.getElem?_map]
 by_cases hi:i<N
 ·rw[if_pos hi,List.getElem?_range hi];rfl
 ·rw[if_neg hi,List.getElem?_eq_none (by simpa using hi)];rfl
end Mi
set_option maxHeartbeats 40000
namespace Mi
open PySem L2
section
variable{α β:Type}{m ma mb mc:M D}{s:Stt}{ms:List (M D)}{σ tm l:List (Option D)}{n i j k p:Nat}{x y z u d:D}{g g2:D->D->M D}{h:List D->M D}
variable{a0 a1 a2 a3 a4 a5 a6 a7 a8 a9 a10 a11 a12 a13 a14 a15 v:Option D}
theorem qg1:(a0::a1::l)[1]? =some a1:=(rfl)
theorem qg2:(a0::a1::a2::l)[2]? =some a2:=(rfl)
theorem qg3:(a0::a1::a2::a3::l)[3]? =some a3:=(rfl)
theorem qg4:(a0::a1::a2::a3::a4::l)[4]? =some a4:=(rfl)
theorem qg5:(a0::a1::a2::a3::a4::a5::l)[5]? =some a5:=(rfl)
theorem qg6:(a0::a1::a2::a3::a4::a5::a6::l)[6]? =some a6:=(rfl)
theorem qg7:(a0::a1::a2::a3::a4::a5::a6::a7::l)[7]? =some a7:=(rfl)
theorem qg8:(a0::a1::a2::a3::a4::a5::a6::a7::a8::l)[8]? =some a8:=(rfl)
theorem qg9:(a0::a1::a2::a3::a4::a5::a6::a7::a8::a9::l)[9]? =some a9:=(rfl)
theorem zj4:(a0::a1::a2::a3::a4::a5::a6::a7::a8::a9::a10::l)[10]? =some a10:=(rfl)
theorem qh1:(a0::a1::l).set 1 v=a0::v::l:=(rfl)
theorem qh2:(a0::a1::a2::l).set 2 v=a0::a1::v::l:=(rfl)
theorem qh3:(a0::a1::a2::a3::l).set 3 v=a0::a1::a2::v::l:=(rfl)
theorem qh4:(a0::a1::a2::a3::a4::l).set 4 v=a0::a1::a2::a3::v::l:=(rfl)
theorem qh5:(a0::a1::a2::a3::a4::a5::l).set 5 v=a0::a1::a2::a3::a4::v::l:=(rfl)
theorem qh7:(a0::a1::a2::a3::a4::a5::a6::a7::l).set 7 v=a0::a1::a2::a3::a4::a5::a6::v::l:=(rfl)
theorem qh8:(a0::a1::a2::a3::a4::a5::a6::a7::a8::l).set 8 v=a0::a1::a2::a3::a4::a5::a6::a7::v::l:=(rfl)
theorem qh9:(a0::a1::a2::a3::a4::a5::a6::a7::a8::a9::l).set 9 v=a0::a1::a2::a3::a4::a5::a6::a7::a8::v::l:=(rfl)
theorem ov:y0 i s=match s.σ[i]? with|some (some t)=> .ok t s|_=> .no:=rfl
noncomputable def cv(g:D->D->M D)(a:D)(b:Option (Option D))(s:Stt):Res D:=match b with
 |some (some b)=>g a b s
 |_=> .no
theorem zcM:cv g x (some (some y)) s=g x y s:=(rfl)
theorem zj5:Z1 m (mC y) g s=(m s).bnd fun x s1=>g x y s1:=by
 rw[zcE];cases m s<;>rfl
theorem zj6:Z1 m (y0 j) g s=(m s).bnd fun x s1=>cv g x s1.σ[j]? s1:=by
 rw[zcE];cases m s with
 |ok x s1=>rw[z1D,z1D];unfold y0 cv;dsimp only[Stt.psh];cases s1.σ[j]? with
  |none=>rfl
  |some o=>cases o<;>rfl
 |ex d s1=>rfl
 |no=>rfl
noncomputable def qc1(h:List D->M D)(a:Option (Option D))(s:Stt):Res D:=match a with
 |some (some a)=>h [a] s
 |_=> .no
theorem zau:qc1 h (some (some x)) s=h [x] s:=(rfl)
theorem zj7:mCB [y0 i] h ⟨σ,tm,n⟩=qc1 h σ[i]? ⟨σ,tm,n⟩:=by
 rw[zik];unfold y0 qc1 Y4 bd;dsimp only
 cases σ[i]? with
 |none=>rfl
 |some o=>cases o<;>rfl
theorem zbj:Y4 [m] s=(m s).bnd fun x s1=> .ok [x] s1:=by
 rw[z4j];cases m s<;>rfl
noncomputable def qa1(a:Option (Option D))(s:Stt):Res (List D):=match a with
 |some (some a)=> .ok [a] s
 |_=> .no
theorem zin:Y4 [y0 i] ⟨σ,tm,n⟩=qa1 σ[i]? ⟨σ,tm,n⟩:=by
 rw[zbj];unfold y0 qa1;dsimp only
 cases σ[i]? with
 |none=>rfl
 |some o=>cases o<;>rfl
noncomputable def qa2(a b:Option (Option D))(s:Stt):Res (List D):=match a,b with
 |some (some a),some (some b)=> .ok [a,b] s
 |_,_=> .no
theorem zav:qa2 (some (some x)) (some (some y)) s= .ok [x,y] s:=(rfl)
theorem zj8:Y4 [y0 i,y0 j] ⟨σ,tm,n⟩=qa2 σ[i]? σ[j]? ⟨σ,tm,n⟩:=by
 rw[z4j];unfold y0 qa2;dsimp only
 cases σ[i]? with
 |none=>rfl
 |some o=>cases o with
  |none=>rfl
  |some a=>rw[z1D];show Res.bnd _ (Y4 [y0 j] ⟨σ,_,_⟩)=_;rw[zin];unfold qa1;cases σ[j]? with
   |none=>rfl
   |some o=>cases o<;>rfl
theorem zhK:Y4 [y0 i,mC y] ⟨σ,tm,n⟩=qa2 σ[i]? (some (some y)) ⟨σ,tm,n⟩:=by
 rw[z4j];unfold y0 qa2;dsimp only
 cases σ[i]? with
 |none=>rfl
 |some o=>cases o<;>rfl
theorem zhL:z2A ma (y0 i) mc g g2 s=(ma s).bnd fun x s1=>(y0 i s1).bnd fun y s3=>z76 y (bd (g9 (g x y)) fun k=>z74 k (bd mc fun z=>g2 y z) (rt (.bool false))) s3:=by
 rw[z8R];cases ma s with
 |ok x s1=>rw[z1D,z1D];unfold y0;dsimp only[Stt.psh];cases s1.σ[i]? with
  |none=>rfl
  |some o=>cases o<;>rfl
 |ex d s1=>rfl
 |no=>rfl
theorem zhM:Q8 (.nm i) m s=(m s).lf fun d s1=> .nx ⟨s1.σ.set i (some d),s1.tm,s1.n⟩:=by
 rw[zfb];cases m s<;>rfl
end
theorem Z5{t:D}{l n' n:Nat}{b b' r:List D}{σ tm:List (Option D)}{σ1 tm1:D->List (Option D)}(hb:labsL b=[])(hb':labsL b'=[])(hr:labsL r=[])(f1: ∀q,rpO (pl l q) σ=σ1 q)(f2: ∀q,rpO (pl l q) tm=tm1 q)(e1:σ1 (.lst l b)=σ:=by rfl)(e2:tm1 (.lst l b)=tm:=by rfl):
 z1w (.ok t (.lst l b'::r) n') (.lst l b::r) ⟨σ,tm,n⟩= .ok t ⟨σ1 (.lst l b'),tm1 (.lst l b'),n'⟩:=by
 rw[W5 hb hb' hr ((f1 _).trans e1) ((f2 _).trans e2),f1,f2]
end Mi
set_option maxHeartbeats 1000000
namespace Mi
open PySem L2
theorem z5l{t:D}{ts ts':List D}{n' n:Nat}{σ tm:List (Option D)}(hs: ∀k∈labsL ts,(findL k ts').isSome=true)(h0:ts'=ts->rpO (fun k=>findL k ts') σ=σ/\rpO (fun k=>findL k ts') tm=tm):
 z1w (.ok t ts' n') ts ⟨σ,tm,n⟩= .ok t ⟨rpO (fun k=>findL k ts') σ,rpO (fun k=>findL k ts') tm,n'⟩:=by
 unfold z1w
 by_cases h:ts'=ts
 ·erw[if_pos h,(h0 h).1,(h0 h).2]
 ·erw[if_neg h]
  rw[if_pos fun k _ hk=>hs k hk]
theorem zaw{K:ItK}{g:Tg}{b:MS}{f i:Nat}{s s':Stt}{d:D}{σ':List (Option D)}(h1:K.at' i s.tm=some (some d))(h2:asg g d s.σ=some σ')(h3:b {s with σ:=σ'}= .nx s'):forGo K g b (f+1) i s=forGo K g b f (i+1) s':=by
 conv=>lhs;unfold forGo
 erw[h1,h2,h3]
theorem zcN{K:ItK}{g:Tg}{b:MS}{f i:Nat}{s:Stt}(h1:K.at' i s.tm=some none):forGo K g b f i s= .nx (s.popn K.k):=by
 unfold forGo
 erw[h1]
end Mi
namespace My
open PySem L2 Mi
theorem BA{a b:Prop}(h:a)(k:b):a/\b:=⟨h,k⟩
noncomputable def B_0:=BA (BA (BA (BA @qg1 (BA @qg2 @qg3)) (BA @qg4 (BA @qg5 @qg6))) (BA (BA @qg7 (BA @qg8 @qg9)) (BA (BA @zj4 @qh1) (BA @qh2 @qh3)))) (BA (BA (BA @qh4 (BA @qh5 @qh7)) (BA (BA @qh8 @qh9) (BA @zj5 @zj6))) (BA (BA @zj7 (BA @zin @zj8)) (BA (BA @zhK @zbj) (BA @zhL @zhM))))
noncomputable def B_1:=BA (BA (BA (BA (BA (BA @zcM (BA @zau @zav)) (BA @zhi (BA @zge @z1D))) (BA (BA @zcD (BA @zhf @zhg)) (BA @ziS (BA @zeT @zhj)))) (BA (BA (BA @zhk (BA @zap @zhl)) (BA @x_C (BA @zcE @zhm))) (BA (BA @zeU (BA @zeV @ziT)) (BA @zhn (BA @ziU @zho))))) (BA (BA (BA (BA @zeW (BA @zeX @ziV)) (BA @ziW (BA @zcF @z4j))) (BA (BA @zik (BA @zeY @z8Q)) (BA @zhp (BA @zf0 @z8R)))) (BA (BA (BA @zhq (BA @z8S @zcG)) (BA @zcH (BA @zf1 @ziX))) (BA (BA @zf2 (BA @zhs @ziY)) (BA @ziZ (BA @zj0 @zj1)))))) (BA (BA (BA (BA (BA @zht (BA @zhv @zhw)) (BA @zhx (BA @zhy @zhz))) (BA (BA @zhA (BA @zf3 @zf4)) (BA @zf5 (BA @zhB @zhC)))) (BA (BA (BA @zhD (BA @zf6 @zf7)) (BA @zf9 (BA @zbe @zhE))) (BA (BA @zfa (BA @zcI @zhF)) (BA @zj2 (BA @zj3 @zfb))))) (BA (BA (BA (BA @zhG (BA @zfc @zhH)) (BA @z7k (BA @zhh @z8P))) (BA (BA @i6.{0,0} (BA @l9.{0,0} @m8.{0})) (BA @r8.{0} (BA @l3.{0} @List.getElem?_cons_zero.{0})))) (BA (BA (BA @List.getElem?_cons_succ.{0} (BA @List.getElem?_nil.{0} @A7.{0})) (BA @B3.{0} (BA @l8.{0} @t5.{0}))) (BA (BA @A5.{0,0} (BA @R1.{0,0} @Bool.not_true)) (BA (BA @T3 @beq_self_eq_true.{0}) (BA @D8 @S3))))))
local macro_rules | `(tactic| left) => `(tactic| (simp (config := { dsimp := false }) only [↓B_0, B_1, isiD, Y5, asg, asgL, l5, F4, F5, String.reduceBEq]))
noncomputable def isInt:D->Bool
 | .int _=>true
 |_=>false
noncomputable def inR(lo hi:Int):D->Bool
 | .int i=>decide (lo<=i)&&decide (i<=hi)
 |_=>false
theorem zfh(t:D)(n:Nat)(h:Q4 t=true):U7 [t] n= .ok (.bool (isInt t)) [t] n:=by
 unfold U7 z0p
 cases t<;>first|(simp[Mi.Q4] at h;done)|(left;first|done|rfl)
theorem z2l(t:D)(n:Nat)(h:Q4 t=true):f_l_whole [t] n= .ok (.bool (isInt t)) [t] n:=by
 unfold f_l_whole z2Q
 cases t<;>first|(simp[Mi.Q4] at h;done)|(left;first|done|rfl)
theorem z4l(t:D)(lo hi:Int)(n:Nat)(h:Q4 t=true):z02 [t, .int lo, .int hi] n= .ok (.bool (inR lo hi t)) [t, .int lo, .int hi] n:=by
 unfold z02 z4e
 left
 rw[z2l t n h]
 cases t<;>(try erw[isInt,inR])<;>left <;>try rfl
 rename_i i
 by_cases h1:lo<=i
 ·erw[h1,decide_true];left;simp
 ·erw[h1,decide_false];left;simp
noncomputable def rowB(lo hi top:Int):D->Bool
 | .tup ds=>decide (lo<=(ds.length:Int))&&decide ((ds.length:Int)<=hi)&&ds.all (inR 0 top)
 |_=>false
theorem z3K: ∀{ds:List D} {d:D},plainL ds=true->d∈ds->Q4 d=true
 |x::ds,d,h,m=>by
  erw[plainL,l0] at h
  rcases i0.mp m with rfl|m
  ·exact h.1
  ·exact z3K h.2 m
theorem zcO(t:D)(lo hi top:Int)(n:Nat)(h:Q4 t=true)(hh:hi<1000000): ∃n',n<=n'/\z0U [t, .int lo, .int hi, .int top] n= .ok (.bool (rowB lo hi top t)) [t, .int lo, .int hi, .int top] n':=by
 unfold z0U z20
 left
 cases t with
 |tup ds=>
  left
  by_cases h1:lo<=(ds.length:Int)
  ·have h1': ¬(ds.length:Int)<lo:=by lia
   by_cases h2:(ds.length:Int)<=hi
   ·have h2': ¬hi<(ds.length:Int):=by lia
    erw[h1,h2,h1',decide_true,decide_false,rowB,C3]
    left
    erw[h2',decide_false]
    left
    have hz:ds.length<sizeLine:=by have:sizeLine=16777216:=rfl;lia
    obtain⟨n',hn,hc⟩:=z5f (mc:=y0 0) (me:=Z2 z02 [y0 0,mC (D.int 0),y0 1]) (g:=fun d=> .bool (inR 0 top d)) (ds:=ds) (ix:=[3]) (s:=⟨[some (.tup ds),some (.int lo),some (.int hi),some (.int top)],[some (.tup ds),some (.int lo),some (.int hi),some (.int top)],n⟩) (s1:=⟨[some (.tup ds),some (.int lo),some (.int hi),some (.int top)],[some (.tup ds),some (.int lo),some (.int hi),some (.int top)],n⟩) (by left) hz (by
     intro d hd tm m
     refine⟨m,i4 _, ?_⟩
     show Z2 _ _ ⟨[some d,some (.int top)],tm,m⟩=_
     left
     rw[z4l d 0 top m (z3K (by simpa[Mi.Q4] using h) hd)]
     left
     rfl)
    refine⟨n'+1,by simp only at hn;lia, ?_⟩
    rw[hc]
    left
    rw[zf8 (z5g ds (inR 0 top))]
    left
    erw[T8]
    rfl
   ·have h2':hi<(ds.length:Int):=by lia
    refine⟨n,i4 _, ?_⟩
    erw[h1,h2,h1',decide_true,decide_false,rowB,C3,E7]
    left
    erw[h2',decide_true]
    left
  ·have h1':(ds.length:Int)<lo:=by lia
   refine⟨n,i4 _, ?_⟩
   erw[h1,h1',decide_true,decide_false,rowB,E7]
   left
 |dct _ _ _=>simp[Mi.Q4] at h
 |obj _ _ _ _=>simp[Mi.Q4] at h
 |exc _=>simp[Mi.Q4] at h
 |fn _=>simp[Mi.Q4] at h
 |fdc _ _=>simp[Mi.Q4] at h
 |_=>refine⟨n,i4 _, ?_⟩;left;rfl
theorem at0{a:D}{l:List D}:atI (a::l) 0=some a:=z1E (by decide) rfl
theorem at1{a b:D}{l:List D}:atI (a::b::l) 1=some b:=z1E (by decide) rfl
theorem at2{a b c:D}{l:List D}:atI (a::b::c::l) 2=some c:=z1E (by decide) rfl
theorem at3{a b c d:D}{l:List D}:atI (a::b::c::d::l) 3=some d:=z1E (by decide) rfl
theorem zhN{i j:Int}{s:Stt}:eqD (.int i) (.int j) s= .ok (.bool (i==j)) s:=by
 rw[zil (by simp[eqC,Mi.Q4,er,PyData.canLay0,PyData.depth])];erw[er,PyData.eqv]
theorem c0:((0:Nat):Int)=0:=rfl
theorem c1:((1:Nat):Int)=1:=rfl
theorem c2:((2:Nat):Int)=2:=rfl
theorem c3:((3:Nat):Int)=3:=rfl
theorem c4:((4:Nat):Int)=4:=rfl
noncomputable def Gd(t:D):Prop:=Q4 t=true/\(er t).canLay0=true
noncomputable def GdL(ds:List D):Prop:=plainL ds=true/\PyData.canLayAll0 (erL ds)=true
theorem Gd.tup{ds:List D}:Gd (.tup ds)↔GdL ds:=by erw[Gd,GdL,Mi.Q4,er,PyData.canLay0]
theorem Gd.lst{l:Nat}{ds:List D}:Gd (.lst l ds)↔GdL ds:=by erw[Gd,GdL,Mi.Q4,er,PyData.canLay0]
theorem GdL.cons{d:D}{ds:List D}:GdL (d::ds)↔Gd d/\GdL ds:=by
 erw[Gd,GdL,plainL,erL,PyData.canLayAll0,l0]
 constructor
 ·rintro ⟨⟨a,b⟩,c,d⟩;exact⟨⟨a,c⟩,b,d⟩
 ·rintro ⟨⟨a,c⟩,b,d⟩;exact⟨⟨a,b⟩,c,d⟩
theorem okB:PyData.strOk ("border" :Str)=true:=by decide+kernel
theorem zl:sizeLine=16777216:=rfl
section
variable{a b c d:D}{s:Stt}
theorem t0:K9 [] s= .ok (.tup []) s:=z8T (by decide)
theorem t1:K9 [a] s= .ok (.tup [a]) s:=z8T (by rw[zl];simp)
theorem t2:K9 [a,b] s= .ok (.tup [a,b]) s:=z8T (by rw[zl];simp)
theorem t3:K9 [a,b,c] s= .ok (.tup [a,b,c]) s:=z8T (by rw[zl];simp)
theorem t4:K9 [a,b,c,d] s= .ok (.tup [a,b,c,d]) s:=z8T (by rw[zl];simp)
theorem k0{σ tm:List (Option D)}{n:Nat}:lstM [] ⟨σ,tm,n⟩= .ok (.lst n []) ⟨σ,tm,n+1⟩:=z62 (by rw[zl];simp)
theorem k1{σ tm:List (Option D)}{n:Nat}:lstM [a] ⟨σ,tm,n⟩= .ok (.lst n [a]) ⟨σ,tm,n+1⟩:=z62 (by rw[zl];simp)
theorem k2{σ tm:List (Option D)}{n:Nat}:lstM [a,b] ⟨σ,tm,n⟩= .ok (.lst n [a,b]) ⟨σ,tm,n+1⟩:=z62 (by rw[zl];simp)
theorem k3{σ tm:List (Option D)}{n:Nat}:lstM [a,b,c] ⟨σ,tm,n⟩= .ok (.lst n [a,b,c]) ⟨σ,tm,n+1⟩:=z62 (by rw[zl];simp)
theorem k4{σ tm:List (Option D)}{n:Nat}:lstM [a,b,c,d] ⟨σ,tm,n⟩= .ok (.lst n [a,b,c,d]) ⟨σ,tm,n+1⟩:=z62 (by rw[zl];simp)
end
noncomputable def B_2:=BA (BA (BA (BA (BA @t0 @t1) (BA @t2 @t3)) (BA (BA @t4 @k0) (BA @k1 @k2))) (BA (BA (BA @k3 @k4) (BA @Bool.or_false @T5)) (BA (BA @T6 @Bool.or_true) (BA @F6 @C3)))) (BA (BA (BA (BA @Bool.and_false @E7) (BA @at0 @at1)) (BA (BA @at2 @at3) (BA @zhN @zbf))) (BA (BA (BA @z8V @z6A) (BA @z8W @zfd)) (BA (BA @zcJ @zfe) (BA @zbg (BA @zcK @z6B)))))
noncomputable def B_3:=BA @zas @zat
local macro_rules | `(tactic| left) => `(tactic| (simp (config := { dsimp := false }) only [↓B_0, B_1, B_2, B_3, isiD, Y5, asg, asgL, l5, F4, F5, String.reduceBEq, N3]))
noncomputable def Bg(c x:Int):Prop:=0<=c/\0<=x/\x<2147483647
theorem w6(l:Nat)(c x top:Int)(n:Nat)(h:Bg c x)(ht:0<top)(ht':top<1000000): ∃r c' x',0<=r/\r<top/\Bg c' x'/\Z0 [.lst l [.int c, .int x], .int top] n= .ok (.int r) [.lst l [.int c', .int x'], .int top] n:=by
 unfold Z0 z4d
 obtain⟨h0,h1,h2⟩:=h
 by_cases hc:0<c
 ·refine⟨c %top,c/top,x,E5 _ (by lia),D6 _ ht,⟨Int.ediv_nonneg h0 (by lia),h1,h2⟩, ?_⟩
  left
  erw[hc,decide_true]
  left
  rw[z3j ht]
  left
  rw[zbd ⟨ht,by lia⟩]
  left
  rw[z8U (j:=0) rfl (by simp[y9])]
  left
 ·have hx0:=E5 (x*48271+7919) (show(2147483647:Int)≠0 by decide)
  have hx1:=D6 (x*48271+7919) (show(0:Int)<2147483647 by decide)
  generalize hy:(x*48271+7919) %2147483647=y at hx0 hx1
  refine⟨(y^(3:Int).toNat %2147483587/7*69621 %1073741789) %top,c,y,E5 _ (by lia),D6 _ ht,⟨h0,hx0,hx1⟩, ?_⟩
  left
  erw[hc,decide_false]
  left
  rw[z7l (.inl ⟨by lia,by lia⟩)]
  left
  rw[z3j (by decide),hy]
  left
  rw[z8U (j:=1) rfl (by simp[y9])]
  left
  rw[zaq ⟨by decide,by decide,by lia⟩]
  left
  rw[z3j (by decide)]
  left
  rw[zbd ⟨by decide,by decide⟩]
  left
  rw[z7l (.inr ⟨by decide,by decide⟩)]
  left
  rw[z3j (by decide)]
  left
  rw[z3j ht]
  left
noncomputable def B_4:=BA (BA @zhI @z8X) (BA @zbh @L9)
local macro_rules | `(tactic| left) => `(tactic| (simp (config := { dsimp := false }) only [↓B_0, B_1, B_2, B_3, B_4, isiD, Y5, asg, asgL, l5, F4, F5, String.reduceBEq, N3]))
theorem zbk{ns:List Int}{a:Nat}(h:a<ns.length):atI (ns.map D.int) (a:Int)=some (.int ns[a]):=z1E (by lia) (by simp[h])
theorem zfi(ns:List Int)(a n:Nat)(ha:a<1000)(hl:ns.length<1000): ∃c x,Bg c x/\z2P [.ro (ns.map .int), .int a] n= .ok (.lst n [.int c, .int x]) [.ro (ns.map .int), .int a] (n+1):=by
 unfold z2P z5X
 left
 have key: ∃c:Int,0<=c/\zdd (decide ((a:Int)<((ns.map D.int).length:Int))) (Q8 (Tg.nm 2) (mCB [Z1 (y0 0) (y0 1) ixD] zdb)) sNx ⟨[some (.ro (ns.map .int)),some (.int a),some (.int 0),none,none],[some (.ro (ns.map .int)),some (.int a)],n⟩= .nx ⟨[some (.ro (ns.map .int)),some (.int a),some (.int c),none,none],[some (.ro (ns.map .int)),some (.int a)],n⟩:=by
  by_cases h:a<ns.length
  ·refine⟨if ns[a]<0 then -ns[a] else ns[a], ?_, ?_⟩
   rotate_left
   ·rw[show decide ((a:Int)<((ns.map D.int).length:Int))=true by simp[h]]
    left
    rw[zbk h]
    left
   ·split<;>lia
  ·refine⟨0,by decide, ?_⟩
   rw[show decide ((a:Int)<((ns.map D.int).length:Int))=false by simp;lia]
   left
 obtain⟨c,hc,e1⟩:=key
 rw[e1]
 left
 rw[z3j (by decide)]
 left
 rw[z7l (.inl ⟨by decide,by decide⟩)]
 left
 have q0:=E5 c (show(2147483629:Int)≠0 by decide)
 have q1:=D6 c (show(0:Int)<2147483629 by decide)
 rw[zaq ⟨by decide,by decide,by lia⟩]
 left
 rw[z3j (by decide)]
 left
 have w0:((ns.map D.int).length:Int)=ns.length:=by simp
 rw[w0]
 generalize hk:(if(60:Int)<(ns.length:Int) then(60:Int) else(ns.length:Int))=k
 have hk0:0<=k/\k<=60/\k<=ns.length:=by split at hk<;>lia
 rw[z2V ⟨by lia,by lia⟩]
 left
 have p0:=E5 ((c %2147483629+104729*(a:Int)+17)^(5:Int).toNat) (show(2147483647:Int)≠0 by decide)
 have p1:=D6 ((c %2147483629+104729*(a:Int)+17)^(5:Int).toNat) (show(0:Int)<2147483647 by decide)
 generalize (c %2147483629+104729*(a:Int)+17)^(5:Int).toNat %2147483647=x0 at p0 p1
 obtain⟨s',e2,x,o,hx0,hx1,rfl⟩:=z2W (P:=fun i s=> ∃(x:Int) (o:Option D),0<=x/\x<2147483647/\s=⟨[some (.ro (ns.map .int)),some (.int a),some (.int c),some (.int x),o],[some (.ro (ns.map .int)),some (.int a)],n⟩) (lo:=0) (N:=k.toNat) (g:= .nm 4) (b:=Q8 (.nm 3) (Z1 (Z1 (Z1 (Z1 (y0 3) (mC (.int 48271)) z4z) (Z1 (Z1 (Z1 (y0 0) (y0 4) ixD) (mC (.int 2147483587)) z3u) (Z1 (y0 4) (mC (.int 3)) J1) z4z) J1) (y0 4) J1) (mC (.int 2147483629)) z3u)) (by
  rintro i hi s ⟨x,o,h0,h1,rfl⟩
  have hi':i<ns.length:=by lia
  refine⟨[some (.ro (ns.map .int)),some (.int a),some (.int c),some (.int x),some (.int i)],by erw[L9];rfl, ?_⟩
  refine⟨⟨[some (.ro (ns.map .int)),some (.int a),some (.int c),some (.int ((x*48271+ns[i] %2147483587*(i+3)+i) %2147483629)),some (.int i)],[some (.ro (ns.map .int)),some (.int a)],n⟩, ?_, ?_⟩
  ·left
   rw[z7l (.inl ⟨by lia,by lia⟩)]
   left
   rw[zbk hi']
   left
   rw[z3j (by decide)]
   left
   rw[z7l (.inr ⟨by lia,by lia⟩)]
   left
   rw[z3j (by decide)]
   left
  ·have r0:=E5 (x*48271+ns[i] %2147483587*(i+3)+i) (show(2147483629:Int)≠0 by decide)
   have r1:=D6 (x*48271+ns[i] %2147483587*(i+3)+i) (show(0:Int)<2147483629 by decide)
   exact⟨_,_,r0,by lia,rfl⟩) k.toNat 0 ⟨[some (.ro (ns.map .int)),some (.int a),some (.int c),some (.int x0),none],[some (.ro (ns.map .int)),some (.int a)],n⟩ (by lia) ⟨x0,none,p0,p1,rfl⟩
 rw[e2]
 left
 rw[zaq ⟨by decide,by decide,by decide⟩]
 left
 by_cases h:c<10^(18:Int).toNat
 ·refine⟨0,x,⟨by decide,hx0,hx1⟩, ?_⟩
  erw[h,decide_true]
  left
 ·refine⟨c,x,⟨hc,hx0,hx1⟩, ?_⟩
  erw[h,decide_false]
  left
theorem J9{l k:Nat}{d:D}{ds:List D}(h:k≠l):rp (pl l d) (.lst k ds)= .lst k (rpL (pl l d) ds):=by erw[rp,pl,if_neg h]
mutual
noncomputable def Rs(n:Nat):D->Bool
 | .non=>true| .bool _=>true| .int _=>true| .str x=>PyData.strOk x
 | .tup ds=>decide (ds.length<=2000)&&RsL n ds
 | .lst l ds=>decide (n<=l)&&(decide (ds.length<=2000)&&RsL n ds)
 | .ro _=>false| .dct _ _ _=>false| .obj _ _ _ _=>false| .exc _=>false| .fn _=>false| .fdc _ _=>false
noncomputable def RsL(n:Nat):List D->Bool
 |[]=>true
 |d::ds=>Rs n d&&RsL n ds
end
noncomputable def Up(m:Nat)(t:D):Prop:= ∀k∈y9 t,k<m
theorem z5m{α:Type}{ds:List α}{r:Int}(h0:0<=r)(h1:r<ds.length): ∃d∈ds,atI ds r=some d:=by
 have h:r.toNat<ds.length:=by lia
 exact⟨ds[r.toNat],A2 h,z1E h0 (by simp[h])⟩
theorem k20{a0 a1 a2 a3 a4 a5 a6 a7 a8 a9 b0 b1 b2 b3 b4 b5 b6 b7 b8 b9:D}{σ tm:List (Option D)}{n:Nat}:lstM [a0,a1,a2,a3,a4,a5,a6,a7,a8,a9,b0,b1,b2,b3,b4,b5,b6,b7,b8,b9] ⟨σ,tm,n⟩= .ok (.lst n [a0,a1,a2,a3,a4,a5,a6,a7,a8,a9,b0,b1,b2,b3,b4,b5,b6,b7,b8,b9]) ⟨σ,tm,n+1⟩:=z62 (by rw[zl];simp)
theorem okE:PyData.strOk ("" :Str)=true:=by decide+kernel
theorem ok1:PyData.strOk ("1" :Str)=true:=by decide+kernel
theorem z6C(l:Nat)(c x:Int)(n:Nat)(h:Bg c x)(hn:l<n): ∃t c' x' n',(Rs n t=true/\(er t).depth<=2)/\Bg c' x'/\n<=n'/\Up n' t/\z0H [.lst l [.int c, .int x]] n= .ok t [.lst l [.int c', .int x']] n':=by
 unfold z0H z5Z
 left
 rw[zaq ⟨by decide,by decide,by decide⟩]
 left
 rw[k20]
 left
 have q0:n≠l:=by lia
 have q1:n+1≠l:=by lia
 have q2:n+1+1≠l:=by lia
 obtain⟨r,c1,x1,hr0,hr1,b1,e1⟩:=w6 l c x 20 (n+1+1+1) h (by decide) (by decide)
 rw[e1,W5 rfl rfl rfl (by left;erw[J9 q0,J9 q1,J9 q2];left;erw[J9 q0,J9 q1,J9 q2];left) (by left;erw[J9 q0,J9 q1,J9 q2];left;erw[J9 q0,J9 q1,J9 q2];left)]
 left
 erw[J9 q0,J9 q1,J9 q2]
 left
 erw[J9 q0,J9 q1,J9 q2]
 left
 have key: ∀d∈[D.non,D.bool true,D.bool false,D.str "",D.str "1",D.int (-1),D.int 0,D.int 1,D.int (10^Int.toNat 59),D.tup [],D.lst n [],D.tup [D.int 0],D.lst (n+1) [D.int 0],D.str "border",D.int 24,D.int 25,D.int 40,D.int 1040,D.tup [D.tup []],D.int (-7)],(Rs n d=true/\(er d).depth<=2)/\Up (n+1+1+1) d:=by
  erw[D1]
  erw[Up,y9,labsL,Rs,RsL,okE,ok1,okB,er,erL,PyData.depth,PyData.depthAll,t5,l8]
  simp
  lia
 obtain⟨d,hd,ed⟩:=z5m (ds:=[D.non,D.bool true,D.bool false,D.str "",D.str "1",D.int (-1),D.int 0,D.int 1,D.int (10^Int.toNat 59),D.tup [],D.lst n [],D.tup [D.int 0],D.lst (n+1) [D.int 0],D.str "border",D.int 24,D.int 25,D.int 40,D.int 1040,D.tup [D.tup []],D.int (-7)]) hr0 (by erw[l8,t5];lia)
 rw[ed]
 left
 exact⟨d,c1,x1,n+1+1+1,(key d hd).1,b1,by lia,(key d hd).2,rfl⟩
mutual
noncomputable def Tr:D->Bool
 | .non=>true| .bool _=>true| .int _=>true| .str x=>PyData.strOk x
 | .tup ds=>decide (ds.length<=900)&&TrL ds
 | .lst _ _=>false| .ro _=>false| .dct _ _ _=>false| .obj _ _ _ _=>false| .exc _=>false| .fn _=>false| .fdc _ _=>false
noncomputable def TrL:List D->Bool
 |[]=>true
 |d::ds=>Tr d&&TrL ds
end
theorem z4m: ∀{ds:List D},TrL ds=true↔∀d∈ds,Tr d=true
 |[]=>by simp[TrL]
 |d::ds=>by erw[TrL,l0,z4m (ds:=ds),D1]
theorem z08{n:Nat}: ∀{ds:List D},RsL n ds=true↔∀d∈ds,Rs n d=true
 |[]=>by simp[RsL]
 |d::ds=>by erw[RsL,l0,z08 (ds:=ds),D1]
theorem z0L{k:Nat}: ∀{ds:List D},PyData.depthAll (erL ds)<=k↔∀d∈ds,(er d).depth<=k
 |[]=>by simp[erL,PyData.depthAll]
 |d::ds=>by erw[erL,PyData.depthAll,D1,<-z0L (ds:=ds)];lia
mutual
theorem K7: ∀t:D,Tr t=true->y9 t=[]
 | .non,_=>rfl
 | .bool _,_=>rfl
 | .int _,_=>rfl
 | .str _,_=>rfl
 | .tup ds,h=>by erw[Tr,l0] at h;erw[y9];exact TrL_labs ds h.2
 | .lst _ _,h=>by simp[Tr] at h
 | .ro _,h=>by simp[Tr] at h
 | .dct _ _ _,h=>by simp[Tr] at h
 | .obj _ _ _ _,h=>by simp[Tr] at h
 | .exc _,h=>by simp[Tr] at h
 | .fn _,h=>by simp[Tr] at h
 | .fdc _ _,h=>by simp[Tr] at h
theorem TrL_labs: ∀t:List D,TrL t=true->labsL t=[]
 |[],_=>rfl
 |d::ds,h=>by erw[TrL,l0] at h;erw[labsL,K7 d h.1,TrL_labs ds h.2,l3]
end
mutual
theorem z7p{n:Nat}: ∀t:D,Tr t=true->Rs n t=true
 | .non,_=>rfl
 | .bool _,_=>rfl
 | .int _,_=>rfl
 | .str _,h=>by simpa[Tr,Rs] using h
 | .tup ds,h=>by
  erw[Tr,l0,decide_eq_true_eq] at h;erw[Rs,l0,decide_eq_true_eq];exact⟨by lia,TrL_rs ds h.2⟩
 | .lst _ _,h=>by simp[Tr] at h
 | .ro _,h=>by simp[Tr] at h
 | .dct _ _ _,h=>by simp[Tr] at h
 | .obj _ _ _ _,h=>by simp[Tr] at h
 | .exc _,h=>by simp[Tr] at h
 | .fn _,h=>by simp[Tr] at h
 | .fdc _ _,h=>by simp[Tr] at h
theorem TrL_rs{n:Nat}: ∀t:List D,TrL t=true->RsL n t=true
 |[],_=>rfl
 |d::ds,h=>by erw[TrL,l0] at h;erw[RsL,z7p d h.1,TrL_rs ds h.2,F6]
end
mutual
theorem z0M{n:Nat}: ∀t:D,Rs n t=true->Gd t
 | .non,_=>⟨rfl,rfl⟩
 | .bool _,_=>⟨rfl,rfl⟩
 | .int _,_=>⟨rfl,rfl⟩
 | .str _,h=>⟨rfl,by simpa[Rs,er,PyData.canLay0] using h⟩
 | .tup ds,h=>by erw[Rs,l0] at h;exact Gd.tup.mpr (RsL_gd ds h.2)
 | .lst _ ds,h=>by erw[Rs,l0] at h;exact Gd.lst.mpr (RsL_gd ds h.2.2)
 | .ro _,h=>by simp[Rs] at h
 | .dct _ _ _,h=>by simp[Rs] at h
 | .obj _ _ _ _,h=>by simp[Rs] at h
 | .exc _,h=>by simp[Rs] at h
 | .fn _,h=>by simp[Rs] at h
 | .fdc _ _,h=>by simp[Rs] at h
theorem RsL_gd{n:Nat}: ∀t:List D,RsL n t=true->GdL t
 |[],_=>⟨rfl,rfl⟩
 |d::ds,h=>by erw[RsL,l0] at h;exact GdL.cons.mpr ⟨z0M d h.1,RsL_gd ds h.2⟩
end
mutual
theorem z8Z{n k:Nat}: ∀t:D,Rs n t=true->k∈y9 t->n<=k
 | .non,_,h=>by simp[y9] at h
 | .bool _,_,h=>by simp[y9] at h
 | .int _,_,h=>by simp[y9] at h
 | .str _,_,h=>by simp[y9] at h
 | .tup ds,h,m=>by erw[Rs,l0] at h;erw[y9] at m;exact RsL_low ds h.2 m
 | .lst _ ds,h,m=>by
  erw[Rs,l0,decide_eq_true_eq] at h
  erw[y9,i0] at m
  rcases m with rfl|m
  ·exact h.1
  ·exact RsL_low ds h.2.2 m
 | .ro _,h,_=>by simp[Rs] at h
 | .dct _ _ _,h,_=>by simp[Rs] at h
 | .obj _ _ _ _,h,_=>by simp[Rs] at h
 | .exc _,h,_=>by simp[Rs] at h
 | .fn _,h,_=>by simp[Rs] at h
 | .fdc _ _,h,_=>by simp[Rs] at h
theorem RsL_low{n k:Nat}: ∀t:List D,RsL n t=true->k∈labsL t->n<=k
 |[],_,h=>by simp[labsL] at h
 |d::ds,h,m=>by
  erw[RsL,l0] at h
  erw[labsL,i3] at m
  rcases m with m|m
  ·exact z8Z d h.1 m
  ·exact RsL_low ds h.2 m
end
theorem z1G{n l:Nat}{t:D}(h:Rs n t=true)(hl:l<n):l∉y9 t:=fun m=>by have:=z8Z t h m;lia
mutual
theorem z0N{n m:Nat}(h:m<=n): ∀t:D,Rs n t=true->Rs m t=true
 | .non,_=>rfl
 | .bool _,_=>rfl
 | .int _,_=>rfl
 | .str _,h=>by simpa[Rs] using h
 | .tup ds,h=>by erw[Rs,l0] at h⊢;exact⟨h.1,RsL_mono ‹_› ds h.2⟩
 | .lst _ ds,h=>by erw[Rs,l0,decide_eq_true_eq] at h⊢;exact⟨by lia,h.2.1,RsL_mono ‹_› ds h.2.2⟩
 | .ro _,h=>by simp[Rs] at h
 | .dct _ _ _,h=>by simp[Rs] at h
 | .obj _ _ _ _,h=>by simp[Rs] at h
 | .exc _,h=>by simp[Rs] at h
 | .fn _,h=>by simp[Rs] at h
 | .fdc _ _,h=>by simp[Rs] at h
theorem RsL_mono{n m:Nat}(h:m<=n): ∀t:List D,RsL n t=true->RsL m t=true
 |[],_=>rfl
 |d::ds,h=>by erw[RsL,l0] at h⊢;exact⟨z0N ‹_› d h.1,RsL_mono ‹_› ds h.2⟩
end
theorem zbl{n k:Nat}{es:List D}(hl:es.length<=2000)(h: ∀e∈es,Rs n e=true/\(er e).depth<=k):Rs n (.tup es)=true/\(er (.tup es)).depth<=k+1:=by
 refine⟨?_, ?_⟩
 ·erw[Rs,l0,decide_eq_true_eq];exact⟨hl,z08.mpr fun d m=>(h d m).1⟩
 ·erw[er,PyData.depth];exact P5 (z0L.mpr fun d m=>(h d m).2)
theorem z5n{n k l:Nat}{es:List D}(hn:n<=l)(hl:es.length<=2000)(h: ∀e∈es,Rs n e=true/\(er e).depth<=k):Rs n (.lst l es)=true/\(er (.lst l es)).depth<=k+1:=by
 refine⟨?_, ?_⟩
 ·erw[Rs,l0,decide_eq_true_eq];exact⟨hn,hl,z08.mpr fun d m=>(h d m).1⟩
 ·erw[er,PyData.depth];exact P5 (z0L.mpr fun d m=>(h d m).2)
local macro_rules | `(tactic| left) => `(tactic| (simp (config := { dsimp := false }) only [↓B_0, B_1, B_2, B_3, B_4, isiD, Y5, asg, asgL, l5, F4, F5, String.reduceBEq, N3]))
theorem labsL_mem{k:Nat}: ∀{es:List D},k∈labsL es->∃e∈es,k∈y9 e
 |e::es,h=>by
  erw[labsL,i3] at h
  rcases h with h|h
  ·exact⟨e,l4,h⟩
  ·obtain⟨e',h1,h2⟩:=labsL_mem h
   exact⟨e',e9 _ h1,h2⟩
theorem z90{m:Nat}{es:List D}(h: ∀e∈es,Up m e):Up m (.tup es):=fun k hk=>by
 erw[y9] at hk
 obtain⟨e,h1,h2⟩:=labsL_mem hk
 exact h e h1 k h2
theorem z1H{m l:Nat}{es:List D}(hl:l<m)(h: ∀e∈es,Up m e):Up m (.lst l es):=fun k hk=>by
 erw[y9,i0] at hk
 rcases hk with rfl|hk
 ·exact hl
 ·obtain⟨e,h1,h2⟩:=labsL_mem hk
  exact h e h1 k h2
theorem z91{d:D}(h:Tr d=true):isiAny ["tuple", "list"] d=some (match d with| .tup _=>true|_=>false):=by
 cases d<;>first|rfl|(simp[Tr] at h;done)
theorem at4{w:Int}(h0:0<=w)(h1:w<4): ∃j:Int,atI [D.int 1,D.int (-1),D.int 1040,D.int 100000] w=some (.int j):=by
 obtain⟨d,hd,e⟩:=z5m (ds:=[D.int 1,D.int (-1),D.int 1040,D.int 100000]) h0 (by simpa using h1)
 erw[i0,l6,or_false] at hd
 rcases hd with rfl|rfl|rfl|rfl<;>exact⟨_,e⟩
section
variable{me mo1 mi1 mo2 mi2:M D}{s:Stt}{σ tm:List (Option D)}{n:Nat}{d1 d2:D}
theorem zfj(h:me s= .ok (.tup [d1,d2]) ⟨σ,tm,n⟩):z8z me mo1 mi1 mo2 mi2 s=(mTri (mTmp 1) mo1 mi1 setD ⟨σ,some d2::some d1::tm,n⟩).sq (Y2 (mTri (mTmp 0) mo2 mi2 setD) fun s=> .nx (s.popn 2)):=by
 unfold z8z
 rw[zbe,h,zcD]
 show Y2 _ _ _=_
 rw[zf9]
 rfl
theorem zfk{k:Nat}:mTmp k ⟨σ,tm,n⟩=vOf (tm[k]?) ⟨σ,tm,n⟩:=by
 unfold mTmp vOf
 cases tm[k]? with
 |none=>rfl
 |some o=>cases o<;>rfl
theorem zfl{a b:Option D}:Stt.popn ⟨σ,a::b::tm,n⟩ 2=⟨σ,tm,n⟩:=rfl
end
theorem zcP{k:Nat}{r:Int}(h0:0<=r)(h1:r<k):ixN k r=some r.toNat:=by
 unfold ixN
 rw[if_pos h0,if_pos h1]
theorem z1o{ds:List D}{lo hi:Option Int}{d:D}(h:d∈z1q ds lo hi):d∈ds:=E9 (D9 h)
theorem z09{ds:List D}{lo hi:Option Int}:(z1q ds lo hi).length<=ds.length:=by unfold z1q;erw[F0,M9];lia
theorem z4n{k:Nat}: ∀{es:List D} {e:D},e∈es->k∈y9 e->k∈labsL es
 |e::es,x,h,hk=>by
  erw[labsL,i3]
  rcases i0.mp h with rfl|h
  ·exact .inl hk
  ·exact .inr (z4n h hk)
noncomputable def WL(t t':D):Prop:=t'=t\/∃l ds l' ds',t= .lst l ds/\t'= .lst l' ds'
noncomputable def CQ(m:Nat)(d y:D):Prop:=(Gd y/\er y=er d)/\∀M,m<=M->Up M d->Up M y
theorem z92{m:Nat}{as bs:List D}(h:All2 (CQ m) as bs):GdL bs/\erL bs=erL as/\∀M,m<=M->(∀a∈as,Up M a)->∀b∈bs,Up M b:=by
 induction h with
 |nil=>exact⟨⟨rfl,rfl⟩,rfl,fun _ _ _ _ h=>nomatch h⟩
 |cons h1 h2 ih=>
  refine⟨GdL.cons.mpr ⟨h1.1.1,ih.1⟩,by erw[erL,h1.1.2,ih.2.1],fun M hM hu=> ?_⟩
  have hu:=D1.mp hu
  exact D1.mpr ⟨h1.2 M hM hu.1,ih.2.2 M hM hu.2⟩
theorem z5o: ∀(k:Nat) (t:D) (m n:Nat),Rs m t=true->(er t).depth<=k->∃t' n',CQ n' t t'/\WL t t'/\n<=n'/\Z7 (k+1) [t] n= .ok t' [t] n':=by
 intro k
 induction k with
 |zero=>
  intro t m n hr hd
  refine⟨t,n,⟨⟨z0M t hr,rfl⟩,fun _ _ h=>h⟩, .inl rfl,i4 _, ?_⟩
  show z0d 1 (Q0 (Z7 0)) _ _=_
  unfold Q0
  cases t with
  |lst l ds=>simp[er,PyData.depth] at hd
  |ro _=>simp[Rs] at hr
  |dct _ _ _=>simp[Rs] at hr
  |obj _ _ _ _=>simp[Rs] at hr
  |exc _=>simp[Rs] at hr
  |fn _=>simp[Rs] at hr
  |fdc _ _=>simp[Rs] at hr
  |_=>left
 |succ k ih=>
  intro t m n hr hd
  show ∃t' n',_/\_/\_/\z0d 1 (Q0 (Z7 (k+1))) _ _=_
  unfold Q0
  cases t with
  |lst l ds=>
   erw[Rs,l0,decide_eq_true_eq,z08] at hr
   erw[er,PyData.depth] at hd
   have hd':=z0L.mp (E4 hd)
   obtain⟨ys,n',h1,h2,h3⟩:=z1F (mc:=y0 0) (me:=Z2 (Z7 (k+1)) [y0 0]) (Q:=CQ) (fun a b hab d y h=>⟨h.1,fun M hM=>h.2 M (by lia)⟩) (l:=l) (ds:=ds) (ix:=[]) (s:=⟨[some (.lst l ds)],[some (.lst l ds)],n⟩) (σ:=[some (.lst l ds)]) (tm:=[some (.lst l ds)]) (n:=n) (by left) (by rw[zl];lia) (by
    intro d hdm tm n
    obtain⟨y,n',g1,_,g2,g3⟩:=ih d m n (hr.2.2 d hdm) (hd' d hdm)
    refine⟨y,n',g2,g1, ?_⟩
    left
    rw[g3]
    left)
   left
   rw[h3]
   left
   obtain⟨q1,q2,q3⟩:=z92 h1
   refine⟨_,n'+1,⟨⟨Gd.lst.mpr q1,by erw[er,q2]⟩,fun M hM hu=> ?_⟩, .inr ⟨_,_,_,_,rfl,rfl⟩,by lia,rfl⟩
   refine z1H (by lia) (q3 M (by lia) fun e he k hk=>hu k ?_)
   erw[y9,i0]
   exact .inr (z4n he hk)
  |ro _=>simp[Rs] at hr
  |dct _ _ _=>simp[Rs] at hr
  |obj _ _ _ _=>simp[Rs] at hr
  |exc _=>simp[Rs] at hr
  |fn _=>simp[Rs] at hr
  |fdc _ _=>simp[Rs] at hr
  |_=>exact⟨_,n,⟨⟨z0M _ hr,rfl⟩,fun _ _ h=>h⟩, .inl rfl,i4 _,by left⟩
theorem z93{b:Bool}{s:Stt}:neD (.bool b) (.bool b) s= .ok (.bool false) s:=by
 rw[zgf (by simp[eqC,Mi.Q4,er,PyData.canLay0,PyData.depth])];simp[er,PyData.eqv]
theorem zcQ{y d:D}{s:Stt}(gy:Gd y)(gd:Gd d)(e:er y=er d)(hd:(er d).depth<=60):neD y d s= .ok (.bool false) s:=by
 rw[zgf (by erw[eqC,gy.1,gd.1,gy.2,gd.2,e,C3,decide_eq_true_eq];lia),e,PySem.SeqAt.eqv_refl _ gd.2];rfl
theorem z1I{f:Nat->Option D}{o:Option D}{r:List (Option D)}:rpO f (o::r)=o.map (rp f)::rpO f r:=by cases o<;>rfl
noncomputable def UpO(n:Nat)(o:Option D):Prop:= ∀d,o=some d->Up n d
theorem UpO.fixk{n k:Nat}{o:Option D}(h:UpO n o)(hk:n<=k)(d:D):O6 (rp (pl k d)) o=o:=by
 cases o with
 |none=>rfl
 |some t=>erw[A5];rw[Z9 fun m=>by have:=h t rfl k m;lia]
theorem UpO.fix{n:Nat}{o:Option D}(h:UpO n o)(d:D):O6 (rp (pl n d)) o=o:=by
 cases o with
 |none=>rfl
 |some t=>erw[A5];rw[Z9 fun m=>B1 _ (h t rfl n m)]
noncomputable def Th(n m:Nat)(y:D):Prop:=Rs n y=true/\(er y).depth<=11/\Up m y
theorem z4o{n m k:Nat}{T:List D}(h: ∀e∈T,Th (n+1) m e)(hk:n<k)(d:D):rp (pl n d) (.lst k T)= .lst k T:=Z9 fun q=>by
 erw[y9,i0] at q
 rcases q with rfl|q
 ·lia
 ·obtain⟨e,he,hq⟩:=labsL_mem q
  have:=z8Z e (h e he).1 hq
  lia
theorem zfm{l n:Nat}{a:List D}{k:Int}{σ tm:List (Option D)}(h: -(2^63)<=k/\k<2^63/\a.length*k.toNat<=sizeLine):z4z (.lst l a) (.int k) ⟨σ,tm,n⟩= .ok (.lst n (L3 (l5 k.toNat a))) ⟨σ,tm,n+1⟩:=by erw[z4z,if_pos h];rfl
theorem k6{a b c d e f:D}{σ tm:List (Option D)}{n:Nat}:lstM [a,b,c,d,e,f] ⟨σ,tm,n⟩= .ok (.lst n [a,b,c,d,e,f]) ⟨σ,tm,n+1⟩:=z62 (by rw[zl];simp)
theorem z6D{k:Nat}{es:List D}(hl:es.length<=900)(h: ∀e∈es,Tr e=true/\(er e).depth<=k):Tr (.tup es)=true/\(er (.tup es)).depth<=k+1:=by
 refine⟨?_, ?_⟩
 ·erw[Tr,l0,decide_eq_true_eq];exact⟨hl,z4m.mpr fun d m=>(h d m).1⟩
 ·erw[er,PyData.depth];exact P5 (z0L.mpr fun d m=>(h d m).2)
theorem zhO{n m k:Nat}{e:D}(hk:k<=11)(h:Tr e=true/\(er e).depth<=k):Th n m e:=⟨z7p e h.1,by lia,fun j hj=>by rw[K7 e h.1] at hj;cases hj⟩
theorem z19{k:Nat}{i:Int}:Tr (.int i)=true/\(er (.int i)).depth<=k:=⟨rfl,by simp[er,PyData.depth]⟩
theorem z63{k:Nat}{i:Bool}:Tr (.bool i)=true/\(er (.bool i)).depth<=k:=⟨rfl,by simp[er,PyData.depth]⟩
theorem zhP{i j:Int}{s:Stt}:neD (.int i) (.int j) s= .ok (.bool (!(i==j))) s:=by
 rw[zgf (by simp[eqC,Mi.Q4,er,PyData.canLay0,PyData.depth])];erw[er,PyData.eqv]
noncomputable def iL(bs:List Int):List D:=bs.map D.int
theorem z94: ∀{ds:List D},(∀d∈ds,∃i:Int,d= .int i)->∃bs,ds=iL bs
 |[],_=>⟨[],rfl⟩
 |d::ds,h=>by
  obtain⟨i,rfl⟩:=h d (by simp)
  obtain⟨bs,rfl⟩:=z94 (ds:=ds) fun d hd=>h d (by simp[hd])
  exact⟨i::bs,rfl⟩
structure Pz where
 e:Int
 ss:List Int
 k:Int
 c:Int
noncomputable def Pz.d(p:Pz):D:= .tup [.int p.e, .tup (iL p.ss), .int p.k, .int p.c]
noncomputable def sOk(ss:List Int):Prop:=1<=ss.length/\ss.length<=24/\∀b∈ss,0<=b/\b<=1039
noncomputable def Pz.ok(m b:Int)(p:Pz):Prop:=b<p.e/\p.e<=m/\sOk p.ss/\(0<=p.k/\p.k<=8)/\0<=p.c/\p.c<=99999
noncomputable def B_5:=BA @zhP @z1I
local macro_rules | `(tactic| left) => `(tactic| (simp (config := { dsimp := false }) only [↓B_0, B_1, B_2, B_4, B_5, isiD, Y5, asg, asgL, l5, F4, F5, String.reduceBEq, N3]))
noncomputable def B_6:=BA (BA @c0 @c1) (BA @c2 (BA @c3 @c4))
local macro_rules | `(tactic| walk_at "mh") => `(tactic| (simp (config := { dsimp := false }) only [↓B_0, B_1, B_2, B_4, B_5, B_6, Y5, asg, asgL, l5, F4, F5, String.reduceBEq, N3, *]))
theorem z4p: ∀bs:List Int,plainL (iL bs)=true/\PyData.canLayAll0 (erL (iL bs))=true/\PyData.depthAll (erL (iL bs))=0
 |[]=>⟨rfl,rfl,rfl⟩
 |b::bs=>by
  obtain⟨h1,h2,h3⟩:=z4p bs
  refine⟨?_, ?_, ?_⟩
  ·show plainL (.int b::iL bs)=true
   erw[plainL,Mi.Q4,h1,E2]
  ·show PyData.canLayAll0 (erL (.int b::iL bs))=true
   erw[erL,er,PyData.canLayAll0,PyData.canLay0,h2,E2]
  ·show PyData.depthAll (erL (.int b::iL bs))=0
   erw[erL,er,PyData.depthAll,PyData.depth,h3];rfl
theorem z1J(ds:List D):ds.filter (fun _=>true)=ds:=R5.mpr fun _ _=>rfl
noncomputable def unI:D->Int
 | .int i=>i
 |_=>0
noncomputable def psD(ps:List Pz):List D:=ps.map Pz.d
noncomputable def nD(N:List (Nat×List Pz)):List D:=N.map fun q=> .lst q.1 (psD q.2)
noncomputable def Lb(lo hi:Nat)(N:List (Nat×List Pz)):Prop:= ∀q∈N,lo<=q.1/\q.1<hi
theorem z95{K:ItK}{g:Tg}{b:MS}{P:Nat->Stt->Prop}{item:Nat->D}{N:Nat}(hat: ∀i s,P i s->K.at' i s.tm=some (if i<N then some (item i) else none))
 (body: ∀i,i<N->∀s,P i s->∃σ',asg g (item i) s.σ=some σ'/\∃s',b {s with σ:=σ'}= .nx s'/\P (i+1) s'):
 ∀(f i:Nat) (s:Stt),i+f=N->P i s->∃s',forGo K g b f i s= .nx (s'.popn K.k)/\P N s'
 |0,i,s,hi,h=>by
  have e:i=N:=by lia
  subst e
  exact⟨s,zcN (by rw[hat i s h,if_neg (B1 _)]),h⟩
 |f+1,i,s,hi,h=>by
  obtain⟨σ',h1,s1,h2,h3⟩:=body i (by lia) s h
  obtain⟨s2,h4,h5⟩:=z95 hat body f (i+1) s1 (by lia) h3
  exact⟨s2,by rw[zaw (by rw[hat i s h,if_pos (by lia)]) h1 h2,h4],h5⟩
theorem z2Z{k:Nat}{N:List (Nat×List Pz)}{L:Nat}(hL:L<k)(h: ∀q∈N,q.1<k):Up k (.lst L (nD N)):=z1H hL fun e he=>by
 obtain⟨q,hq,rfl⟩:=A4.mp he
 refine z1H (h q hq) fun e he j hj=> ?_
 obtain⟨p,_,rfl⟩:=A4.mp he
 have e0: ∀bs:List Int,labsL (iL bs)=[]:=fun bs=>by
  induction bs with
  |nil=>rfl
  |cons b bs ih=>erw[iL,i6,labsL,y9] at ih⊢;simpa using ih
 erw[Pz.d,y9,labsL,e0,l3] at hj
 cases hj
theorem X6(ps:List Pz):labsL (psD ps)=[]:=by
 have e0: ∀bs:List Int,labsL (iL bs)=[]:=fun bs=>by
  induction bs with
  |nil=>rfl
  |cons b bs ih=>erw[iL,i6,labsL,y9] at ih⊢;simpa using ih
 induction ps with
 |nil=>rfl
 |cons p ps ih=>
  erw[psD,i6,labsL,Pz.d,y9,e0,l3] at ih⊢
  exact ih
theorem X9{N:List (Nat×List Pz)}:(nD N).length=N.length:=by simp[nD]
theorem UpO.of{k:Nat}{d:D}(h:Up k d):UpO k (some d):=fun x hx=>by cases hx;exact h
theorem z64{M:List (Nat×List Pz)}{l:Nat}{X:List Pz}:nD (M++[(l,X)])=nD M++[.lst l (psD X)]:=by simp[nD]
theorem z7q{K:ItK}{me:M D}{PL:Nat->List D->Prop}{items:List D}{its fr σ0 tm0:List (Option D)}{ol:Nat}(hk:its.length=K.k)(hol:σ0.length=ol)(hz:items.length<sizeLine)(hat: ∀i rest,K.at' i (its++rest)=some items[i]?)
 (hme: ∀(acc:List D) (hi:acc.length<items.length) tm n,PL n acc->∃y n',PL n' (acc++[y])/\me ⟨some items[acc.length]::fr,tm,n⟩= .ok y ⟨some items[acc.length]::fr,tm,n'⟩):
 ∀(f:Nat) (acc:List D) (o:Option D) (n:Nat),acc.length+f=items.length->PL n acc->∃ys n',ys.length=items.length/\PL n' ys/\j0 K (.nm 0) (rt true) me ol f acc.length acc.length ⟨o::fr,(acc.reverse.map some)++(σ0++(its++tm0)),n⟩= .ok (.lst n' ys) ⟨σ0,tm0,n'+1⟩:=by
 intro f
 induction f with
 |zero=>
  intro acc o n hi hq
  have hi:acc.length=items.length:=by lia
  have l1:(acc.reverse.map some).length=acc.length:=by simp
  have e1:((acc.reverse.map some)++(σ0++(its++tm0))).drop (acc.length+ol)=its++tm0:=by
   rw[<-r6];exact Y6 _ _ _ (by simp[hol])
  refine⟨acc,n,by lia,hq, ?_⟩
  unfold j0
  erw[e1,hat,List.getElem?_eq_none (show items.length<=acc.length by lia)]
  rw[J2 _ _ _ l1]
  have e2:(acc.reverse.map some).reverse=acc.map some:=by simp
  rw[e2,J5]
  erw[Res.ok.injEq,Stt.mk.injEq,and_true,true_and]
  constructor
  ·rw[Y6 _ _ _ l1,J2 _ _ _ hol]
  ·have:((acc.reverse.map some)++(σ0++(its++tm0))).drop (acc.length+ol+K.k)=(((acc.reverse.map some)++(σ0++(its++tm0))).drop (acc.length+ol)).drop K.k:=by rw[D0]
   rw[this,e1]
   exact Y6 _ _ _ hk
 |succ f ih=>
  intro acc o n hi hq
  have hlt:acc.length<items.length:=by lia
  have e1:((acc.reverse.map some)++(σ0++(its++tm0))).drop (acc.length+ol)=its++tm0:=by
   rw[<-r6];exact Y6 _ _ _ (by simp[hol])
  obtain⟨y,n1,q1,h2⟩:=hme acc hlt ((acc.reverse.map some)++(σ0++(its++tm0))) n hq
  obtain⟨ys,n2,g0,g1,h3⟩:=ih (acc++[y]) (some items[acc.length]) n1 (by simp;lia) q1
  refine⟨ys,n2,g0,g1, ?_⟩
  unfold j0
  erw[e1,hat,List.getElem?_eq_getElem hlt,asg,A7,rt,if_pos (show acc.length<sizeLine by lia),h2]
  erw[m7,l8,t5,D8,B9,A9,B2,m8,B8,i6,l9,r8,r6] at h3
  erw[Stt.psh]
  exact h3
theorem z96{mi:M ItK}{K:ItK}{me:M D}{PL:Nat->List D->Prop}{items:List D}{its:List (Option D)}{ix:List Nat}{s:Stt}{σ tm:List (Option D)}{n:Nat}(hc:mi s= .ok K ⟨σ,its++tm,n⟩)(hk:its.length=K.k)(hz:items.length<sizeLine)(hat: ∀i rest,K.at' i (its++rest)=some items[i]?)(hlen:K.len (its++tm)=items.length)(h0:PL n [])
 (hme: ∀(acc:List D) (hi:acc.length<items.length) tm m,PL m acc->∃y n',PL n' (acc++[y])/\me ⟨some items[acc.length]::(ix.map fun i=>(σ[i]?).getD none),tm,m⟩= .ok y ⟨some items[acc.length]::(ix.map fun i=>(σ[i]?).getD none),tm,n'⟩):
 ∃ys n',ys.length=items.length/\PL n' ys/\W3 mi (.nm 0) (rt true) me 1 ix s= .ok (.lst n' ys) ⟨σ,tm,n'+1⟩:=by
 obtain⟨ys,n',g0,g1,h3⟩:=z7q (K:=K) (me:=me) (PL:=PL) (σ0:=σ) (tm0:=tm) hk rfl hz hat hme items.length [] none n (by simp) h0
 refine⟨ys,n',g0,g1, ?_⟩
 unfold W3
 erw[bd,hc,hlen]
 erw[l9,B2,m8,t5] at h3
 exact h3
theorem zj9(k:Nat)(p:Pz)(n:Nat):Z7 (k+1) [p.d] n= .ok p.d [p.d] n:=by
 show z0d 1 (Q0 (Z7 k)) [p.d] n=_
 unfold Q0
 erw[Pz.d]
 left
theorem zja(k l:Nat)(ps:List Pz)(hl:ps.length<=200)(n:Nat): ∃n',n<=n'/\Z7 (k+2) [.lst l (psD ps)] n= .ok (.lst n' (psD ps)) [.lst l (psD ps)] (n'+1):=by
 obtain⟨n',h1,h2⟩:=z0V (mc:=y0 0) (mt:=rt true) (me:=Z2 (Z7 (k+1)) [(y0 0)]) (p:=fun _=>true) (g:=id) (l:=l) (ds:=psD ps) (ix:=[]) (s:=⟨[some (.lst l (psD ps))],[some (.lst l (psD ps))],n⟩) (σ:=[some (.lst l (psD ps))]) (tm:=[some (.lst l (psD ps))]) (n:=n)
  (by left) (by rw[zl];erw[psD,A3];lia) (fun d _ tm n=>⟨n,i4 _,rfl⟩) (fun d hd _ tm n=>by
   obtain⟨p,_,rfl⟩:=A4.mp hd
   refine⟨n,i4 _, ?_⟩
   erw[l9]
   left
   rw[zj9]
   left
   rfl)
 refine⟨n',h1, ?_⟩
 show z0d 1 (Q0 (Z7 (k+1))) [.lst l (psD ps)] n=_
 unfold Q0
 left
 rw[h2,z1J,u01]
 left
theorem zjb(L:Nat)(N:List (Nat×List Pz))(hN:N.length<=100)(hP: ∀q∈N,q.2.length<=200)(n:Nat): ∃N' n',n<=n'/\N'.map (·.2)=N.map (·.2)/\Lb n n' N'/\Z7 12 [.lst L (nD N)] n= .ok (.lst n' (nD N')) [.lst L (nD N)] (n'+1):=by
 obtain⟨ys,n',g0,⟨g1,N',rfl,g2,g3⟩,h3⟩:=z96 (mi:=G2 (y0 0)) (K:=kLst) (me:=Z2 (Z7 11) [(y0 0)]) (PL:=fun m acc=>n<=m/\∃N',acc=nD N'/\N'.map (·.2)=(N.map (·.2)).take acc.length/\Lb n m N') (items:=nD N) (its:=[some (.lst L (nD N))]) (ix:=[]) (s:=⟨[some (.lst L (nD N))],[some (.lst L (nD N))],n⟩) (σ:=[some (.lst L (nD N))]) (tm:=[some (.lst L (nD N))]) (n:=n) (by unfold G2;left) rfl (by rw[X9,zl];lia) (fun _ _=>rfl) rfl
  ⟨i4 _,[],rfl,by simp,by intro q hq;cases hq⟩ (by
   rintro acc hi tm m ⟨q1,N',rfl,q2,q3⟩
   have hi':(nD N').length<N.length:=by rw[<-X9];exact hi
   have e:(nD N)[(nD N').length]= .lst N[(nD N').length].1 (psD N[(nD N').length].2):=by simp[nD]
   erw[e,l9]
   obtain⟨n1,h1,h2⟩:=zja 9 N[(nD N').length].1 N[(nD N').length].2 (hP _ (A2 _)) m
   refine⟨.lst n1 (psD N[(nD N').length].2),n1+1,⟨by lia,N'++[(n1,N[(nD N').length].2)],by rw[z64], ?_, ?_⟩, ?_⟩
   ·rw[B8,q2,m7,M8,L8]
    simp[hi']
   ·intro q hq
    rcases i3.mp hq with hq|hq
    ·have:=q3 q hq;exact⟨this.1,by lia⟩
    ·rw[m9.mp hq];exact⟨by lia,by lia⟩
   ·left
    rw[h2]
    left)
 refine⟨N',n',g1,by rw[g2,g0,X9,E3 (by simp)],g3, ?_⟩
 show z0d 1 (Q0 (Z7 11)) [.lst L (nD N)] n=_
 unfold Q0
 left
 rw[h3]
 left
theorem UpO.mono{n m:Nat}{o:Option D}(h:UpO n o)(hm:n<=m):UpO m o:=fun d hd k hk=>n9 (h d hd k hk) hm
theorem zhQ(N:List (Nat×List Pz)):erL (nD N)=(N.map (·.2)).map fun ps=>PyData.list (erL (psD ps)):=by
 induction N with
 |nil=>rfl
 |cons q N ih=>erw[nD,i6,erL,er] at ih⊢;rw[ih]
theorem zax(ps:List Pz):GdL (psD ps)/\PyData.depthAll (erL (psD ps))<=2:=by
 induction ps with
 |nil=>exact⟨⟨rfl,rfl⟩,by simp[psD,erL,PyData.depthAll]⟩
 |cons p ps ih=>
  obtain⟨a1,a2,a3⟩:=z4p p.ss
  have g:Gd p.d:=by
   erw[Gd,Pz.d,Mi.Q4,plainL,er,erL,PyData.canLay0,PyData.canLayAll0,a1,a2,E2,and_self]
  have d:(er p.d).depth<=2:=by
   erw[Pz.d,er,erL,PyData.depth,PyData.depthAll,a3];decide
  have i2:=ih.2
  refine⟨GdL.cons.mpr ⟨g,ih.1⟩, ?_⟩
  show PyData.depthAll (er p.d::erL (psD ps))<=2
  erw[PyData.depthAll]
  lia
theorem zfn(N:List (Nat×List Pz)):GdL (nD N)/\PyData.depthAll (erL (nD N))<=3:=by
 induction N with
 |nil=>exact⟨⟨rfl,rfl⟩,by simp[nD,erL,PyData.depthAll]⟩
 |cons q N ih=>
  obtain⟨a,b⟩:=zax q.2
  have i2:=ih.2
  refine⟨GdL.cons.mpr ⟨Gd.lst.mpr a,ih.1⟩, ?_⟩
  show PyData.depthAll (er (.lst q.1 (psD q.2))::erL (nD N))<=3
  erw[PyData.depthAll,er,PyData.depth]
  lia
theorem UpO.int{k:Nat}{i:Int}:UpO k (some (.int i)):=UpO.of fun j hj=>by erw[y9] at hj;cases hj
theorem z4q{N:List (Nat×List Pz)}{k:Nat}(h:k∈labsL (nD N)): ∃q∈N,q.1=k:=by
 obtain⟨e,he,hk⟩:=labsL_mem h
 obtain⟨q,hq,rfl⟩:=A4.mp he
 erw[y9,X6,i0,l6,or_false] at hk
 exact⟨q,hq,hk.symm⟩
theorem z0W{l LN:Nat}{N:List (Nat×List Pz)}(hL:l<LN)(hN: ∀q∈N,l<q.1)(d:D):rp (pl l d) (.lst LN (nD N))= .lst LN (nD N):=Z9 fun hk=>by
 erw[y9,i0] at hk
 rcases hk with hk|hk
 ·lia
 ·obtain⟨q,hq,e⟩:=z4q hk
  have:=hN q hq
  lia
theorem z30(bs:List Int):labsL (iL bs)=[]:=by
 induction bs with
 |nil=>rfl
 |cons b bs ih=>erw[iL,i6,labsL,y9] at ih⊢;simpa using ih
theorem zbm{ps:List Pz}{r:Int}(h0:0<=r)(h1:r<ps.length): ∃p∈ps,atI (psD ps) r=some p.d:=by
 obtain⟨d,hd,e⟩:=z5m (ds:=psD ps) h0 (by simpa[psD] using h1)
 obtain⟨z,hz,rfl⟩:=A4.mp hd
 exact⟨z,hz,e⟩
theorem zay{N:List (Nat×List Pz)}{i:Nat}(hi:i<N.length)(h:N.length<=100):atI (nD N) (i:Int)=some (.lst N[i].1 (psD N[i].2)):=z1E (by lia) (by simp[nD,hi])
theorem z6E{t:Int}: ∀{ds:List D},(∀d∈ds,∃i:Int,d= .int i/\0<=i/\i<t)->∃bs,ds=iL bs/\∀b∈bs,0<=b/\b<t
 |[],_=>⟨[],rfl,fun _ h=>nomatch h⟩
 |d::ds,h=>by
  obtain⟨i,rfl,hi⟩:=h d (by simp)
  obtain⟨bs,rfl,hb⟩:=z6E (ds:=ds) fun d hd=>h d (by simp[hd])
  exact⟨i::bs,rfl,fun b m=>by exact(i0.mp m).elim (fun e=>e▸hi) (hb b)⟩
theorem z6F(l:Nat)(c x t1 t2:Int)(n:Nat)(h:Bg c x)(hn:l<n)(w:Int)(h1:0<t1)(h1':t1<=4)(h2:0<t2)(h2':t2<1000000): ∃(bs:List Int) (c' x':Int) (n':Nat),(1<=bs.length/\bs.length<=4/\∀b∈bs,0<=b/\b<t2)/\Bg c' x'/\n<=n'/\W3 (U1 [(Z1 (mC (.int 1)) (Z2 Z0 [(y0 0),(mC (.int t1))]) J1)]) (.nm 0) (rt true) (Z2 Z0 [(y0 1),(mC (.int t2))]) 1 [0] ⟨[some (.lst l [.int c, .int x]),some (.int w)],[some (.lst l [.int c, .int x])],n⟩= .ok (.lst n' (iL bs)) ⟨[some (.lst l [.int c', .int x']),some (.int w)],[some (.lst l [.int c', .int x'])],n'+1⟩:=by
 obtain⟨r',c2,x2,hs0,hs1,h2b,e2⟩:=w6 l c x t1 n h h1 (by lia)
 obtain⟨ys,b',n',g1,g2,g3,⟨c3,x3,rfl,h3⟩,g5,g6⟩:=z2Y (ms:=[Z1 (mC (.int 1)) (Z2 Z0 [y0 0,mC (.int t1)]) J1]) (me:=Z2 Z0 [y0 1,mC (.int t2)]) (N:=(1+r').toNat) (ix:=[0]) (s:=⟨[some (.lst l [.int c, .int x]),some (.int w)],[some (.lst l [.int c, .int x])],n⟩) (l:=l) (n:=n) (j:=1+r') (σ0:=[some (.lst l [.int c2, .int x2]),some (.int w)]) (tm0:=[some (.lst l [.int c2, .int x2])]) (b:=[.int c2, .int x2]) (Bg:=fun b=> ∃c x,b=[.int c, .int x]/\Bg c x) (Q:=fun _ d=> ∃i:Int,d= .int i/\0<=i/\i<t2) (fun _ _ _ _ h=>h)
  (by
   left
   rw[e2,W5 rfl rfl rfl (by left) (by left)]
   left) rfl ⟨by lia,by lia⟩ (by rw[zl];lia) ⟨c2,x2,rfl,h2b⟩ hn (by left) (by left) (by erw[i6,l9,List.getElem?_cons_zero,A8];left) (by
   rintro i hi b tm m ⟨c,x,rfl,hb⟩ hm hf
   obtain⟨r,c',x',hs0,hs1,h',e'⟩:=w6 l c x t2 m hb h2 h2'
   refine⟨.int r,[.int c', .int x'],m,⟨c',x',rfl,h'⟩,⟨r,rfl,hs0,hs1⟩,i4 _,by simp[y9], ?_⟩
   erw[i6,l9,List.getElem?_cons_zero,A8]
   left
   rw[e',W5 rfl rfl rfl (by left) hf]
   left)
 obtain⟨bs,rfl,hbs⟩:=z6E g2
 refine⟨bs,c3,x3,n',⟨by erw[iL,A3] at g1;lia,by erw[iL,A3] at g1;lia,hbs⟩,h3,g5, ?_⟩
 rw[g6]
 left
theorem zaz(l:Nat)(c x:Int)(n:Nat)(h:Bg c x)(hn:l<n): ∃(bs:List Int) (c' x':Int) (n':Nat),sOk bs/\Bg c' x'/\n<=n'/\z0I [.lst l [.int c, .int x]] n= .ok (.tup (iL bs)) [.lst l [.int c', .int x']] n':=by
 obtain⟨w,c1,x1,w0,w1,b1,e1⟩:=w6 l c x 8 n h (by decide) (by decide)
 unfold z0I z2R
 left
 rw[e1,W5 rfl rfl rfl (by left) (by left)]
 left
 cases h7:(w==7) with
 |true=>
  left
  obtain⟨r,c2,x2,r0,r1,b2,e2⟩:=w6 l c1 x1 1040 n b1 (by decide) (by decide)
  rw[e2,W5 rfl rfl rfl (by left) (by left)]
  left
  rw[zfm (by simp;rw[zl];decide)]
  left
  obtain⟨r',c3,x3,r0',r1',b3,e3⟩:=w6 l c2 x2 1040 (n+1+1) b2 (by decide) (by decide)
  have fr: ∀d,rp (pl l d) (.lst (n+1) (L3 (l5 (23:Int).toNat [D.int r])))= .lst (n+1) (L3 (l5 (23:Int).toNat [D.int r])):=fun d=>Z9 (by
   have e:L3 (l5 (23:Int).toNat [D.int r])=iL (l5 23 r):=by rfl
   rw[e]
   erw[y9,z30,i0,l6,or_false]
   lia)
  rw[e3,Z5 rfl rfl rfl (fun q=>by left;first|(erw[fr];rfl)|rfl) (fun q=>by left;first|(erw[fr];rfl)|rfl)]
  left
  rw[K6 (by rw[zl];simp)]
  left
  exact⟨l5 23 r++[r'],c3,x3,n+1+1+1+1,⟨by simp,by simp,fun b hb=>by
   rcases i3.mp hb with q|q
   ·obtain⟨_,rfl⟩:=List.mem_replicate.mp q;lia
   ·obtain rfl:=m9.mp q;lia⟩,b3,by lia,rfl⟩
 |false=>
  left
  cases h4:decide (4<w) with
  |true=>
   left
   obtain⟨bs,c2,x2,n2,g1,g2,g3,e2⟩:=z6F l c1 x1 4 1040 n b1 hn w (by decide) (by decide) (by decide) (by decide)
   rw[e2]
   left
   exact⟨bs,c2,x2,n2+1,⟨g1.1,by lia,fun b hb=>by have:=g1.2.2 b hb;lia⟩,g2,by lia,rfl⟩
  |false=>
   left
   obtain⟨bs,c2,x2,n2,g1,g2,g3,e2⟩:=z6F l c1 x1 2 3 n b1 hn w (by decide) (by decide) (by decide) (by decide)
   rw[e2]
   left
   exact⟨bs,c2,x2,n2+1,⟨g1.1,by lia,fun b hb=>by have:=g1.2.2 b hb;lia⟩,g2,by lia,rfl⟩
theorem z97(l:Nat)(c x:Int)(n:Nat)(h:Bg c x): ∃(r c' x':Int),(0<=r/\r<=99999)/\Bg c' x'/\z0r [.lst l [.int c, .int x]] n= .ok (.int r) [.lst l [.int c', .int x']] n:=by
 obtain⟨w,c1,x1,w0,w1,b1,e1⟩:=w6 l c x 3 n h (by decide) (by decide)
 unfold z0r z4h
 left
 rw[e1,W5 rfl rfl rfl (by left) (by left)]
 left
 cases h0:decide (0<w) with
 |true=>
  left
  obtain⟨r,c2,x2,r0,r1,b2,e2⟩:=w6 l c1 x1 4 n b1 (by decide) (by decide)
  rw[e2,W5 rfl rfl rfl (by left) (by left)]
  left
  exact⟨r,c2,x2,⟨r0,by lia⟩,b2,rfl⟩
 |false=>
  left
  obtain⟨r,c2,x2,r0,r1,b2,e2⟩:=w6 l c1 x1 100000 n b1 (by decide) (by decide)
  rw[e2,W5 rfl rfl rfl (by left) (by left)]
  left
  exact⟨r,c2,x2,⟨r0,by lia⟩,b2,rfl⟩
theorem zcR(l:Nat)(c x:Int)(n:Nat)(h:Bg c x): ∃(r:Nat) (c' x':Int),r<=24/\Bg c' x'/\z0c [.lst l [.int c, .int x], .int 9] n= .ok (.int (r:Nat)) [.lst l [.int c', .int x'], .int 9] n:=by
 obtain⟨w,c1,x1,w0,w1,b1,e1⟩:=w6 l c x 8 n h (by decide) (by decide)
 unfold z0c z21
 left
 rw[e1,W5 rfl rfl rfl (by left) (by left)]
 left
 cases h0:(w==5) with
 |true=>
  left
  exact⟨24,c1,x1,by lia,b1,rfl⟩
 |false=>
  left
  obtain⟨r,c2,x2,r0,r1,b2,e2⟩:=w6 l c1 x1 10 n b1 (by decide) (by decide)
  rw[show(9:Int)+1=10 from rfl,e2,W5 rfl rfl rfl (by left) (by left)]
  left
  obtain⟨k,rfl⟩:=C4 r0
  exact⟨k,c2,x2,by lia,b2,rfl⟩
noncomputable def kD3(p:Pz):D:= .tup [.int p.e, .tup (iL p.ss), .int p.k]
noncomputable def nk3(p:Pz):NK:=[.inl (.inl p.e), .inr (p.ss.map Sum.inl), .inl (.inl p.k)]
theorem zbn(p:Pz):kD3 p=dkD (nk3 p):=by
 erw[kD3,dkD,nk3,i6,l9,nkD,z4y,L7,iL]
 congr 3
theorem tk3(p:Pz):z5u (kD3 p)=some (nk3 p):=by rw[zbn,z42]
noncomputable def ksD(K:List Pz):List D:=K.map kD3
noncomputable def vsD(K:List Pz):List D:=K.map fun p=>D.int p.c
theorem zcS{p q:Pz}(h:nk3 p=nk3 q):p.e=q.e/\p.ss=q.ss/\p.k=q.k:=by
 erw[nk3,List.cons.injEq,Sum.inl.injEq,Sum.inr.injEq,and_true] at h
 refine⟨h.1, ?_,h.2.2⟩
 have:=h.2.1
 generalize p.ss=a at this
 generalize q.ss=b at this
 clear h
 induction a generalizing b with
 |nil=>cases b with|nil=>rfl|cons y b=>simp at this
 |cons x a ih=>
  cases b with
  |nil=>simp at this
  |cons y b=>
   erw[i6,List.cons.injEq,Sum.inl.injEq] at this
   rw[this.1,ih b this.2]
theorem zio(m b:Int)(K:List Pz)(p:Pz)(hK: ∀q∈K,q.ok m b)(hp:p.ok m b): ∃K':List Pz,K'.length<=K.length+1/\(∀q∈K',q.ok m b)/\z7d (ksD K) (nk3 p)=ksD K'/\z55 (ksD K) (vsD K) (nk3 p) (.int p.c)=vsD K':=by
 unfold z7d z55
 cases h:(ksD K).any fun d=>decide (z5u d=some (nk3 p)) with
 |true=>
  refine⟨K.map fun q=>if nk3 q=nk3 p then{q with c:=p.c} else q,by simp, ?_, ?_, ?_⟩
  ·intro q hq
   obtain⟨r,hr,rfl⟩:=A4.mp hq
   have:=hK r hr
   split
   ·exact⟨this.1,this.2.1,this.2.2.1,this.2.2.2.1,hp.2.2.2.2⟩
   ·exact this
  ·erw[if_true,ksD,L7]
   refine O0 fun q _=> ?_
   erw[Function.comp]
   split<;>rfl
  ·erw[if_true]
   clear h hK
   induction K with
   |nil=>rfl
   |cons q K ih=>
    erw[ksD,vsD,i6,P8,tk3,Option.some.injEq] at ih⊢
    rw[ih]
    congr 1
    split<;>rfl
 |false=>
  refine⟨K++[p],by simp, ?_, ?_, ?_⟩
  ·intro q hq
   rcases i3.mp hq with hq|hq
   ·exact hK q hq
   ·rw[m9.mp hq];exact hp
  ·simp[ksD,zbn]
  ·simp[vsD]
theorem zfo(K:List Pz)(p:Pz)(h:p∈K): ∃q∈K,z3e (ksD K) (vsD K) (nk3 p)=some (.int q.c)/\nk3 q=nk3 p:=by
 induction K with
 |nil=>cases h
 |cons r K ih=>
  erw[ksD,vsD,i6,z3e,tk3,Option.some.injEq]
  by_cases e:nk3 r=nk3 p
  ·rw[if_pos e];exact⟨r,l4,rfl,e⟩
  ·rw[if_neg e]
   rcases i0.mp h with rfl|h
   ·exact absurd rfl e
   ·obtain⟨q,h1,h2,h3⟩:=ih h
    exact⟨q,e9 _ h1,h2,h3⟩
noncomputable def fd3(K:List Pz)(d:D):D:=((z5u d).bind (z3e (ksD K) (vsD K))).getD .non
noncomputable def gK(K:List Pz):D->D
 | .tup ds=> .tup (ds++[fd3 K (.tup ds)])
 |_=> .non
theorem zfp{K:List Pz}{p:Pz}(h:p∈K): ∃q∈K,fd3 K (kD3 p)= .int q.c/\nk3 q=nk3 p:=by
 obtain⟨q,h1,h2,h3⟩:=zfo K p h
 exact⟨q,h1,by erw[fd3,tk3,P6,h2,A8],h3⟩
theorem zhR{K:List Pz}{p:Pz}(h:p∈K): ∃q∈K,gK K (kD3 p)=q.d:=by
 obtain⟨q,h1,h2,h3⟩:=zfp h
 obtain⟨a1,a2,a3⟩:=zcS h3
 refine⟨q,h1, ?_⟩
 have e:gK K (kD3 p)= .tup ([.int p.e, .tup (iL p.ss), .int p.k]++[fd3 K (kD3 p)]):=rfl
 rw[e,h2,Pz.d,a1,a2,a3]
 rfl
theorem gKs{K:List Pz}: ∀L:List Pz,(∀p∈L,p∈K)->∃ps:List Pz,(ksD L).map (gK K)=psD ps/\ps.length=L.length/\∀q∈ps,q∈K
 |[],_=>⟨[],rfl,rfl,by intro q hq;cases hq⟩
 |p::L,h=>by
  obtain⟨ps,h1,h2,h3⟩:=gKs L fun q hq=>h q (e9 _ hq)
  obtain⟨q,h4,h5⟩:=zhR (h p l4)
  refine⟨q::ps, ?_,by rw[l8,l8,h2],fun r hr=> ?_⟩
  ·show gK K (kD3 p)::(ksD L).map (gK K)=q.d::psD ps
   rw[h5,h1]
  ·rcases i0.mp hr with rfl|hr
   ·exact h4
   ·exact h3 r hr
theorem z98: ∀a b:List Int,(So.ltL (erL (iL a)) (erL (iL b))).isSome=true
 |[],b=>by simp[iL,erL,So.ltL]
 |x::a,[]=>by simp[iL,erL,So.ltL]
 |x::a,y::b=>by
  show(So.ltL (.int x::erL (iL a)) (.int y::erL (iL b))).isSome=true
  rw[So.ltL]
  split
  ·exact z98 a b
  ·simp[So.ltD]
theorem zhS(p q:Pz):(So.ltD (er p.d) (er q.d)).isSome=true:=by
 erw[Pz.d,er,erL,So.ltD,So.ltL]
 split
 ·split
  ·split
   ·split
    ·rfl
    ·rfl
   ·rfl
  ·exact z98 _ _
 ·rfl
theorem zfq(ps:List Pz):z8G (erL (psD ps))=true:=by
 have mem: ∀{ps:List Pz} {d:PyData},d∈erL (psD ps)->∃p∈ps,d=er p.d:=by
  intro ps
  induction ps with
  |nil=>intro d h;simp[psD,erL] at h
  |cons p ps ih=>
   intro d h
   have h':d∈er p.d::erL (psD ps):=h
   rcases i0.mp h' with rfl|h'
   ·exact⟨p,l4,rfl⟩
   ·obtain⟨q,hq,e⟩:=ih h'
    exact⟨q,e9 _ hq,e⟩
 unfold z8G
 erw[l0,D4,decide_eq_true_eq]
 refine⟨fun d hd=> ?_,fun d hd e he=> ?_⟩
 ·obtain⟨p,hp,rfl⟩:=mem hd
  obtain⟨a1,a2,a3⟩:=z4p p.ss
  refine⟨⟨rfl, ?_⟩, ?_⟩
  ·erw[Pz.d,er,erL,PyData.canLay0,PyData.canLayAll0,a2,E2]
  ·erw[Pz.d,er,erL,PyData.depth,PyData.depthAll,a3];decide
 ·obtain⟨p,hp,rfl⟩:=mem hd
  obtain⟨q,hq,rfl⟩:=mem he
  exact zhS p q
theorem z99(ps:List Pz): ∃qs:List Pz,zgb (psD ps)=psD qs/\qs.length=ps.length/\∀q∈qs,q∈ps:=by
 have go: ∀r:List Nat,(∀i∈r,i<ps.length)->∃qs:List Pz,(r.map fun i=>(psD ps).getD i .non)=psD qs/\qs.length=r.length/\∀q∈qs,q∈ps:=by
  intro r
  induction r with
  |nil=>intro _;exact⟨[],rfl,rfl,by intro q hq;cases hq⟩
  |cons i r ih=>
   intro h
   obtain⟨qs,h1,h2,h3⟩:=ih fun j hj=>h j (e9 _ hj)
   have hi:=h i l4
   refine⟨ps[i]::qs, ?_,by simp[h2],fun q hq=> ?_⟩
   ·rw[i6,h1]
    show(psD ps).getD i .non::psD qs=ps[i].d::psD qs
    congr 1
    simp[psD,hi]
   ·rcases i0.mp hq with rfl|hq
    ·exact A2 hi
    ·exact h3 q hq
 have e:(psD ps).length=ps.length:=by simp[psD]
 obtain⟨qs,h1,h2,h3⟩:=go (So.perm (psD ps).length (zcv (erL (psD ps)))) fun i hi=>by have:=So.perm_lt i hi;lia
 exact⟨qs,h1,by rw[h2,So.perm_len,e],h3⟩
theorem zbo(f:Nat->Option D)(K:List Pz):rpL f (vsD K)=vsD K:=by
 induction K with
 |nil=>rfl
 |cons p K ih=>erw[vsD,i6,z6B,z8W] at ih⊢;rw[ih]
theorem z9a(K:List Pz):labsL (vsD K)=[]:=by
 induction K with
 |nil=>rfl
 |cons p K ih=>erw[vsD,i6,labsL,y9,m8] at ih⊢;exact ih
theorem z9b{l m:Nat}{d:D}{K:List Pz}(h:l≠m):rp (pl l d) (.dct m (ksD K) (vsD K))= .dct m (ksD K) (vsD K):=by
 erw[rp,pl,if_neg (fun q:m=l=>h q.symm),zbo]
theorem z9c{m:Nat}{d:D}{ks vs:List D}:rp (pl m d) (.dct m ks vs)=d:=by erw[rp,pl,if_true]
theorem z28{l m:Nat}{d:D}{c x:Int}(h:l≠m):rp (pl m d) (.lst l [.int c, .int x])= .lst l [.int c, .int x]:=by
 rw[J9 h];rfl
theorem ziq(K:List Pz):isT (ksD K)=true:=by cases K<;>rfl
noncomputable def z2e(o:Option D):Prop:=o=none\/∃i:Int,o=some (.int i)
theorem z2e.fix{o:Option D}(h:z2e o)(f:Nat->Option D):O6 (rp f) o=o:=by
 rcases h with rfl|⟨i,rfl⟩<;>rfl
theorem zbp{m:Nat}{K:List Pz}{p:Pz}{v:Int}{s:Stt}(h:K.length<=1000):z3f (.dct m (ksD K) (vsD K)) (kD3 p) (.int v) s= .nx (s.put m (.dct m (z7d (ksD K) (nk3 p)) (z55 (ksD K) (vsD K) (nk3 p) (.int v)))):=by
 unfold z3f
 erw[tk3]
 rw[if_pos ⟨ziq K,by rw[zl];erw[ksD,A3];lia,by erw[y9],z9a K⟩]
theorem zfr{K:List Pz}{p:Pz}{s:Stt}(h:p∈K):z9y (.fdc (ksD K) (vsD K)) (kD3 p) s= .ok (fd3 K (kD3 p)) s:=by
 obtain⟨q,h1,h2,h3⟩:=zfo K p h
 unfold z9y
 erw[rdD,tk3,h2,fd3,P6,A8]
 rfl
theorem zbq{l n:Nat}{ps:List Pz}{σ tm:List (Option D)}:zah [.lst l (psD ps)] ⟨σ,tm,n⟩= .ok (.lst n (zgb (psD ps))) ⟨σ,tm,n+1⟩:=by
 erw[zah]
 rw[if_pos (by rw[(zax ps).1.1,zfq,X6];rfl)]
 rfl
noncomputable def zgg:MS:=(Y2 (Q8 (.nm 8) (Z1 (mCB [(Z1 (y0 1) (y0 5) z9X),(mCB [(mC (.int 2)),(Z1 (y0 1) (y0 5) z9X)] za0)] lstM) (Z2 Z0 [(y0 0),(mC (.int 2))]) ixD))
 (Y2 (Q8 (.nm 9) (Z1 (Z1 (y0 5) (mC (.int 1)) J1) (Z2 Z0 [(y0 0),(y0 8)]) J1))
 (mTri (Z2 z0r [(y0 0)]) (y0 6) (mCB [(y0 9),(Z2 z0I [(y0 0)]),(Z2 Z0 [(y0 0),(mC (.int 9))])] K9) z3f)))
theorem zcT{K:List Pz}{m0:M D}{σ tm:List (Option D)}{n:Nat}{s:Stt}(hz:K.length<=1000)(hσ:σ[6]? =some (some (.fdc (ksD K) (vsD K))))(hm:z2F m0 s= .ok zaf ⟨σ,some (.fdc (ksD K) (vsD K))::tm,n⟩):
 ∃n',n<=n'/\W3 (z2F m0) (.nm 0) (rt true) (Z1 (y0 0) (mCB [(Z1 (y0 1) (y0 0) z9y)] K9) J1) 1 [6] s= .ok (.lst n' ((ksD K).map (gK K))) ⟨σ,tm,n'+1⟩:=by
 obtain⟨n',h1,h2⟩:=z5k (mi:=z2F m0) (K:=zaf) (mt:=rt true) (me:=Z1 (y0 0) (mCB [(Z1 (y0 1) (y0 0) z9y)] K9) J1) (p:=fun _=>true) (g:=gK K) (items:=ksD K) (its:=[some (.fdc (ksD K) (vsD K))]) (ix:=[6]) (s:=s) (σ:=σ) (tm:=tm) (n:=n) hm rfl (by rw[zl];erw[ksD,A3];lia) (fun i rest=>rfl) rfl (fun d hd tm n=>⟨n,i4 _,rfl⟩) (by
  intro d hd _ tm n
  obtain⟨p,hp,rfl⟩:=A4.mp hd
  refine⟨n,i4 _, ?_⟩
  erw[i6,l9,hσ,A8]
  left
  rw[zfr hp]
  left
  rw[kD3,z27 (by rw[zl];simp)]
  rfl)
 rw[z1J] at h2
 exact⟨n',h1,h2⟩
theorem zfs(l L4 m:Nat)(A:List (Nat×List Pz))(hl:l<L4)(hA: ∀q∈A,l<q.1/\q.1<m)(hm:L4<m)(many b chain wide:Int)(hb0:0<=b)(hb1:b<many)(hm1:many<=24)(c x:Int)(hbg:Bg c x)(K:List Pz)(hK: ∀q∈K,q.ok many b)(hKl:K.length<=500)(o7 o8 o9:Option D)(i7:z2e o7)(i8:z2e o8)(i9:z2e o9)(n:Nat)(hn:m<n):
 ∃(c' x':Int) (K':List Pz) (o8' o9':Option D) (n':Nat),Bg c' x'/\(∀q∈K',q.ok many b)/\K'.length<=K.length+1/\z2e o8'/\z2e o9'/\n<=n'/\zgg ⟨[some (.lst l [.int c, .int x]),some (.int many),some (.int chain),some (.int wide),some (.lst L4 (nD A)),some (.int b),some (.dct m (ksD K) (vsD K)),o7,o8,o9],[some (.lst l [.int c, .int x]),some (.int many)],n⟩= .nx ⟨[some (.lst l [.int c', .int x']),some (.int many),some (.int chain),some (.int wide),some (.lst L4 (nD A)),some (.int b),some (.dct m (ksD K') (vsD K')),o7,o8',o9'],[some (.lst l [.int c', .int x']),some (.int many)],n'⟩:=by
 have fA: ∀d,rp (pl l d) (.lst L4 (nD A))= .lst L4 (nD A):=z0W hl fun q hq=>(hA q hq).1
 have fA': ∀d,rp (pl m d) (.lst L4 (nD A))= .lst L4 (nD A):=fun d=>Z9 fun h=>B1 _ (z2Z hm (fun q hq=>(hA q hq).2) m h)
 have fD: ∀d,rp (pl l d) (.dct m (ksD K) (vsD K))= .dct m (ksD K) (vsD K):=fun d=>z9b (by lia)
 have fB: ∀d (c x:Int),rp (pl m d) (.lst l [.int c, .int x])= .lst l [.int c, .int x]:=fun d c x=>z28 (by lia)
 obtain⟨r,c1,x1,r0,r1,b1,e1⟩:=w6 l c x 2 (n+1) hbg (by decide) (by decide)
 have hv: ∃v:Int,0<v/\v<=many -b/\atI [D.int (many -b),D.int (if many -b<2 then many -b else 2)] r=some (.int v):=by
  by_cases hr:r=0
  ·subst hr;exact⟨many -b,by lia,by lia,at0⟩
  ·have hr:r=1:=by lia
   subst hr;exact⟨_,by split<;>lia,by split<;>lia,at1⟩
 obtain⟨v,v0,v1,ev⟩:=hv
 obtain⟨r2,c2,x2,s0,s1,b2,e2⟩:=w6 l c1 x1 v (n+1) b1 v0 (by lia)
 obtain⟨co,c3,x3,hco,b3,e3⟩:=z97 l c2 x2 (n+1) b2
 obtain⟨ss,c4,x4,n4,g1,b4,g2,e4⟩:=zaz l c3 x3 (n+1) b3 (by lia)
 obtain⟨k,c5,x5,k0,k1,b5,e5⟩:=w6 l c4 x4 9 n4 b4 (by decide) (by decide)
 have pok:(⟨b+1+r2,ss,k,co⟩:Pz).ok many b:=⟨by show b<b+1+r2;lia,by show b+1+r2<=many;lia,g1,⟨k0,by show k<=8;lia⟩,hco⟩
 obtain⟨K',h1,h2,h3,h4⟩:=zio many b K ⟨b+1+r2,ss,k,co⟩ hK pok
 refine⟨c5,x5,K',some (.int v),some (.int (b+1+r2)),n4,b5,h2,h1, .inr ⟨_,rfl⟩, .inr ⟨_,rfl⟩,by lia, ?_⟩
 unfold zgg
 have fl: ∀d (u w:Int),rp (pl l d) (.lst n [.int u, .int w])= .lst n [.int u, .int w]:=fun d u w=>by rw[J9 (by lia)];rfl
 left
 rw[e1,Z5 rfl rfl rfl (fun q=>by left;erw[fA,fD,i7.fix,i8.fix,i9.fix];rfl) (fun q=>by left;erw[fl];rfl)]
 left
 rw[ev]
 left
 rw[e2,Z5 rfl rfl rfl (fun q=>by left;erw[fA,fD,i7.fix,i8.fix,i9.fix];rfl) (fun q=>by left;rfl)]
 left
 rw[e3,Z5 rfl rfl rfl (fun q=>by left;erw[fA,fD,i7.fix];rfl) (fun q=>by left;rfl)]
 left
 rw[e4,Z5 rfl rfl rfl (fun q=>by left;erw[fA,fD,i7.fix];rfl) (fun q=>by left;erw[fA,fD,i7.fix];rfl)]
 left
 have fS: ∀d,rpL (pl l d) (iL ss)=iL ss:=fun d=>rpL_id (iL ss) fun j hj=>by rw[z30] at hj;cases hj
 rw[e5,Z5 rfl rfl rfl (fun q=>by left;erw[fA,fD,i7.fix];rfl) (fun q=>by left;erw[fA,fD,i7.fix,fS];rfl)]
 left
 rw[show D.tup [.int (b+1+r2), .tup (iL ss), .int k]=kD3 ⟨b+1+r2,ss,k,co⟩ from rfl,zbp (by lia),h3,h4]
 left
 erw[fA',fB,z9c,i7.fix]
noncomputable def zhT:MS:=sIf (g9 (Z1 (y0 2) (mC (.int 0)) gtD)) (mTri (Z2 z0r [(y0 0)]) (y0 6) (mCB [(Z1 (y0 5) (mC (.int 1)) J1),(mCB [(Z1 (mC (.int 1000)) (Z2 Z0 [(y0 0),(mC (.int 40))]) J1)] K9),(mC (.int 8))] K9) z3f) sNx
noncomputable def zhU:MS:=z2B (z1S (y0 4) [(mSl (mCB [(W3 (z2F (y0 6)) (.nm 0) (rt true) (Z1 (y0 0) (mCB [(Z1 (y0 1) (y0 0) z9y)] K9) J1) 1 [6])] zah) none (some (mC (.int 150))))] z7b)
noncomputable def zgh:MS:=(Y2 (Q8 (.nm 6) z8D) (Y2 (z35 (U1 [(Z1 (Z2 Z0 [(y0 0),(mC (.int 4))]) (Z1 (mC (.int 147)) (mCB [(Z1 (y0 5) (y0 3) eqD)] zci) z4z) J1)]) (.nm 7) zgg) (Y2 zhT zhU)))
theorem zft{qs:List Pz}:z1q (psD qs) none (some 150)=psD (qs.take 150):=by
 have e:z1q (psD qs) none (some ((150:Nat):Int))=(psD qs).take 150:=by
  unfold z1q
  erw[HT.sIx]
  simp[psD]
 rw[show(150:Int)=((150:Nat):Int) from rfl,e]
 simp[psD,R7]
theorem zfu(l L4 m:Nat)(A:List (Nat×List Pz))(hl:l<L4)(hA: ∀q∈A,l<q.1/\q.1<m)(hm:L4<m)(many b chain wide:Int)(hb0:0<=b)(hb1:b<many)(hm1:many<=24)(c x:Int)(hbg:Bg c x)(K:List Pz)(hK: ∀q∈K,q.ok many b)(hKl:K.length<=500)(o7 o8 o9:Option D)(i7:z2e o7)(i8:z2e o8)(i9:z2e o9)(n:Nat):
 ∃(c' x':Int) (K':List Pz),Bg c' x'/\(∀q∈K',q.ok many b)/\K'.length<=K.length+1/\zhT ⟨[some (.lst l [.int c, .int x]),some (.int many),some (.int chain),some (.int wide),some (.lst L4 (nD A)),some (.int b),some (.dct m (ksD K) (vsD K)),o7,o8,o9],[some (.lst l [.int c, .int x]),some (.int many)],n⟩= .nx ⟨[some (.lst l [.int c', .int x']),some (.int many),some (.int chain),some (.int wide),some (.lst L4 (nD A)),some (.int b),some (.dct m (ksD K') (vsD K')),o7,o8,o9],[some (.lst l [.int c', .int x']),some (.int many)],n⟩:=by
 have fA: ∀d,rp (pl l d) (.lst L4 (nD A))= .lst L4 (nD A):=z0W hl fun q hq=>(hA q hq).1
 have fA': ∀d,rp (pl m d) (.lst L4 (nD A))= .lst L4 (nD A):=fun d=>Z9 fun h=>B1 _ (z2Z hm (fun q hq=>(hA q hq).2) m h)
 have fD: ∀d,rp (pl l d) (.dct m (ksD K) (vsD K))= .dct m (ksD K) (vsD K):=fun d=>z9b (by lia)
 have fB: ∀d (c x:Int),rp (pl m d) (.lst l [.int c, .int x])= .lst l [.int c, .int x]:=fun d c x=>z28 (by lia)
 unfold zhT
 cases h0:decide (0<chain) with
 |false=>
  refine⟨c,x,K,hbg,hK,by lia, ?_⟩
  left
  rw[h0]
  left
 |true=>
  obtain⟨co,c3,x3,hco,b3,e3⟩:=z97 l c x n hbg
  obtain⟨k,c5,x5,k0,k1,b5,e5⟩:=w6 l c3 x3 40 n b3 (by decide) (by decide)
  have pok:(⟨b+1,[1000+k],8,co⟩:Pz).ok many b:=⟨by show b<b+1;lia,by show b+1<=many;lia,⟨by simp,by simp,fun z hz=>by have:=m9.mp hz;lia⟩,⟨by show(0:Int)<=8;decide,by show(8:Int)<=8;decide⟩,hco⟩
  obtain⟨K',h1,h2,h3,h4⟩:=zio many b K ⟨b+1,[1000+k],8,co⟩ hK pok
  refine⟨c5,x5,K',b5,h2,h1, ?_⟩
  left
  rw[h0]
  left
  rw[e3,Z5 rfl rfl rfl (fun q=>by left;erw[fA,fD,i7.fix,i8.fix,i9.fix];rfl) (fun q=>by left;rfl)]
  left
  rw[e5,Z5 rfl rfl rfl (fun q=>by left;erw[fA,fD,i7.fix,i8.fix,i9.fix];rfl) (fun q=>by left;erw[fA,fD];rfl)]
  left
  rw[show D.tup [.int (b+1), .tup [.int (1000+k)], .int 8]=kD3 ⟨b+1,[1000+k],8,co⟩ from rfl,zbp (by lia),h3,h4]
  left
  erw[fA',fB,z9c,i7.fix,i8.fix,i9.fix]
theorem zfv(l L4 m:Nat)(A:List (Nat×List Pz))(hl:l<L4)(hA: ∀q∈A,l<q.1/\q.1<m)(hAl:A.length<=100)(hm:L4<m)(many b chain wide c x:Int)(K:List Pz)(hK: ∀q∈K,q.ok many b)(hKl:K.length<=500)(o7 o8 o9:Option D)(i7:z2e o7)(i8:z2e o8)(i9:z2e o9)(n:Nat)(hn:m<n):
 ∃(ps:List Pz) (k n':Nat),ps.length<=150/\(∀q∈ps,q.ok many b)/\n<=k/\k<n'/\zhU ⟨[some (.lst l [.int c, .int x]),some (.int many),some (.int chain),some (.int wide),some (.lst L4 (nD A)),some (.int b),some (.dct m (ksD K) (vsD K)),o7,o8,o9],[some (.lst l [.int c, .int x]),some (.int many)],n⟩= .nx ⟨[some (.lst l [.int c, .int x]),some (.int many),some (.int chain),some (.int wide),some (.lst L4 (nD (A++[(k,ps)]))),some (.int b),some (.fdc (ksD K) (vsD K)),o7,o8,o9],[some (.lst l [.int c, .int x]),some (.int many)],n'⟩:=by
 have fA': ∀d,rp (pl m d) (.lst L4 (nD A))= .lst L4 (nD A):=fun d=>Z9 fun h=>B1 _ (z2Z hm (fun q hq=>(hA q hq).2) m h)
 have fB: ∀d (c x:Int),rp (pl m d) (.lst l [.int c, .int x])= .lst l [.int c, .int x]:=fun d c x=>z28 (by lia)
 have fB4: ∀d (c x:Int),rp (pl L4 d) (.lst l [.int c, .int x])= .lst l [.int c, .int x]:=fun d c x=>z28 (by lia)
 have fF: ∀f:Nat->Option D,rp f (.fdc (ksD K) (vsD K))= .fdc (ksD K) (vsD K):=fun f=>by erw[rp,zbo]
 have em:z2F (y0 6) ⟨[some (.lst l [.int c, .int x]),some (.int many),some (.int chain),some (.int wide),some (.lst L4 (nD A)),some (.int b),some (.dct m (ksD K) (vsD K)),o7,o8,o9],some (.lst L4 (nD A))::[some (.lst l [.int c, .int x]),some (.int many)],n⟩= .ok zaf ⟨[some (.lst l [.int c, .int x]),some (.int many),some (.int chain),some (.int wide),some (.lst L4 (nD A)),some (.int b),some (.fdc (ksD K) (vsD K)),o7,o8,o9],some (.fdc (ksD K) (vsD K))::some (.lst L4 (nD A))::[some (.lst l [.int c, .int x]),some (.int many)],n⟩:=by
  unfold z2F
  left
  rw[if_pos ⟨ziq K,z9a K⟩]
  erw[zbf,Stt.psh,z1I,z8V,A5,z8W,fA',fB,z9c,i7.fix,i8.fix,i9.fix]
 obtain⟨n1,h1,h2⟩:=zcT (K:=K) (m0:=y0 6) (σ:=[some (.lst l [.int c, .int x]),some (.int many),some (.int chain),some (.int wide),some (.lst L4 (nD A)),some (.int b),some (.fdc (ksD K) (vsD K)),o7,o8,o9]) (tm:=some (.lst L4 (nD A))::[some (.lst l [.int c, .int x]),some (.int many)]) (n:=n) (by lia) rfl em
 obtain⟨ps,p1,p2,p3⟩:=gKs (K:=K) K fun p hp=>hp
 obtain⟨qs,q1,q2,q3⟩:=z99 ps
 rw[p1] at h2
 refine⟨qs.take 150,n1+1+1,n1+1+1+1,by erw[F0];lia,fun q hq=>hK q (p3 q (q3 q (D9 hq))),by lia,by lia, ?_⟩
 unfold zhU
 left
 rw[h2]
 left
 rw[zbq,q1]
 left
 rw[zft,zar ⟨by rw[X9,zl];lia,by erw[y9,X6,i0,l6,or_false];lia⟩]
 left
 erw[fB4,fF,i7.fix,i8.fix,i9.fix,z64]
theorem zfw(l L4:Nat)(A:List (Nat×List Pz))(hl:l<L4)(hAl:A.length<=99)(many b chain wide:Int)(hb0:0<=b)(hb1:b<many)(hm1:many<=24)(c x:Int)(hbg:Bg c x)(o6 o7 o8 o9:Option D)(i7:z2e o7)(i8:z2e o8)(i9:z2e o9)(n:Nat)(hn:L4<n)(hA: ∀q∈A,l<q.1/\q.1<n):
 ∃(c' x':Int) (ps:List Pz) (k n':Nat) (o6' o7' o8' o9':Option D),Bg c' x'/\ps.length<=150/\(∀q∈ps,q.ok many b)/\n<=k/\k<n'/\z2e o7'/\z2e o8'/\z2e o9'/\zgh ⟨[some (.lst l [.int c, .int x]),some (.int many),some (.int chain),some (.int wide),some (.lst L4 (nD A)),some (.int b),o6,o7,o8,o9],[some (.lst l [.int c, .int x]),some (.int many)],n⟩= .nx ⟨[some (.lst l [.int c', .int x']),some (.int many),some (.int chain),some (.int wide),some (.lst L4 (nD (A++[(k,ps)]))),some (.int b),o6',o7',o8',o9'],[some (.lst l [.int c', .int x']),some (.int many)],n'⟩:=by
 have fA: ∀d,rp (pl l d) (.lst L4 (nD A))= .lst L4 (nD A):=z0W hl fun q hq=>(hA q hq).1
 have fD: ∀d,rp (pl l d) (.dct n [] [])= .dct n [] []:=fun d=>z9b (K:=[]) (by lia)
 obtain⟨r,c1,x1,r0,r1,b1,e1⟩:=w6 l c x 4 (n+1) hbg (by decide) (by decide)
 obtain⟨T,hT,eT⟩: ∃T:Nat,T<=200/\r+147*(if(b==wide)=true then 1 else 0)=(T:Int):=by
  split
  ·exact⟨(r+147).toNat,by lia,by lia⟩
  ·exact⟨r.toNat,by lia,by lia⟩
 obtain⟨s',e2,c2,x2,K,p7,p8,p9,n2,b2,k1,k2,j7,j8,j9,hn2,rfl⟩:=z2W (P:=fun i s=> ∃(c x:Int) (K:List Pz) (p7 p8 p9:Option D) (n2:Nat),Bg c x/\(∀q∈K,q.ok many b)/\K.length<=i/\z2e p7/\z2e p8/\z2e p9/\n+1<=n2/\s=⟨[some (.lst l [.int c, .int x]),some (.int many),some (.int chain),some (.int wide),some (.lst L4 (nD A)),some (.int b),some (.dct n (ksD K) (vsD K)),p7,p8,p9],[some (.lst l [.int c, .int x]),some (.int many)],n2⟩) (lo:=0) (N:=T) (g:= .nm 7) (b:=zgg) (by
  rintro i hi s ⟨c,x,K,p7,p8,p9,n2,b2,k1,k2,j7,j8,j9,hn2,rfl⟩
  refine⟨_,rfl, ?_⟩
  obtain⟨c',x',K',o8',o9',n',g1,g2,g3,g4,g5,g6,e⟩:=zfs l L4 n A hl hA hn many b chain wide hb0 hb1 hm1 c x b2 K k1 (by lia) (some (.int (0+(i:Int)))) p8 p9 (.inr ⟨_,rfl⟩) j8 j9 n2 (by lia)
  exact⟨_,e,c',x',K',_,o8',o9',n',g1,g2,by lia, .inr ⟨_,rfl⟩,g4,g5,by lia,rfl⟩) T 0 ⟨[some (.lst l [.int c1, .int x1]),some (.int many),some (.int chain),some (.int wide),some (.lst L4 (nD A)),some (.int b),some (.dct n (ksD []) (vsD [])),o7,o8,o9],[some (.lst l [.int c1, .int x1]),some (.int many)],n+1⟩ (by lia) ⟨c1,x1,[],o7,o8,o9,n+1,b1,(by intro q hq;cases hq),i4 _,i7,i8,i9,i4 _,rfl⟩
 obtain⟨c3,x3,K3,b3,k3,k4,e3⟩:=zfu l L4 n A hl hA hn many b chain wide hb0 hb1 hm1 c2 x2 b2 K k1 (by lia) p7 p8 p9 j7 j8 j9 n2
 obtain⟨ps,k,n',a1,a2,a3,a4,e4⟩:=zfv l L4 n A hl hA (by lia) hn many b chain wide c3 x3 K3 k3 (by lia) p7 p8 p9 j7 j8 j9 n2 (by lia)
 refine⟨c3,x3,ps,k,n',some (.fdc (ksD K3) (vsD K3)),p7,p8,p9,b3,a1,a2,by lia,a4,j7,j8,j9, ?_⟩
 unfold zgh
 have ed: ∀σ tm,z8D ⟨σ,tm,n⟩= .ok (.dct n [] []) ⟨σ,tm,n+1⟩:=fun _ _=>rfl
 left
 rw[ed]
 left
 rw[e1,Z5 rfl rfl rfl (fun q=>by left;erw[fA,fD,i7.fix,i8.fix,i9.fix];rfl) (fun q=>by left;rfl)]
 left
 rw[z7l (by unfold z9u;split<;>decide)]
 left
 rw[eT,z2V (by lia)]
 left
 rw[C5]
 rw[show(D.dct n [] [])= .dct n (ksD []) (vsD []) from rfl,e2]
 left
 rw[e3]
 left
 rw[e4]
noncomputable def zhV:MS:=sIf (zcg (g9 (Z1 (y0 1) (mC (.int 0)) gtD)) (g9 (Z1 (Z2 Z0 [(y0 0),(mC (.int 8))]) (mC (.int 5)) eqD))) (Q8 (.nm 3) (Z2 Z0 [(y0 0),(y0 1)])) sNx
noncomputable def zhW:MS:=z35 (U1 [(y0 1)]) (.nm 5) zgh
theorem zfx(l:Nat)(c x:Int)(many:Nat)(hm:many<=24)(n:Nat)(hn:l<n)(hbg:Bg c x): ∃(N:List (Nat×List Pz)) (L4:Nat) (c' x':Int) (n':Nat),N.length=many/\(∀q∈N,q.2.length<=200)/\(∀i (h:i<N.length),∀p∈N[i].2,p.ok (many:Nat) (i:Nat))/\n<=L4/\L4<n'/\(∀q∈N,n<=q.1/\q.1<n')/\Bg c' x'/\z2S [.lst l [.int c, .int x], .int (many:Nat)] n= .ok (.lst L4 (nD N)) [.lst l [.int c', .int x'], .int (many:Nat)] n':=by
 obtain⟨ch,c1,x1,a0,a1,b1,e1⟩:=w6 l c x 3 n hbg (by decide) (by decide)
 have key: ∃(wide c2 x2:Int),Bg c2 x2/\zhV ⟨[some (.lst l [.int c1, .int x1]),some (.int (many:Nat)),some (.int ch),some (.int (-1)),none,none,none,none,none,none],[some (.lst l [.int c1, .int x1]),some (.int (many:Nat))],n⟩= .nx ⟨[some (.lst l [.int c2, .int x2]),some (.int (many:Nat)),some (.int ch),some (.int wide),none,none,none,none,none,none],[some (.lst l [.int c2, .int x2]),some (.int (many:Nat))],n⟩:=by
  unfold zhV
  cases h0:decide (0<(many:Int)) with
  |false=>
   refine⟨-1,c1,x1,b1, ?_⟩
   left
   rw[h0]
   left
  |true=>
   have hp:0<(many:Int):=of_decide_eq_true h0
   obtain⟨r,c2,x2,r0,r1,b2,e2⟩:=w6 l c1 x1 8 n b1 (by decide) (by decide)
   cases h5:(r==5) with
   |false=>
    refine⟨-1,c2,x2,b2, ?_⟩
    left
    rw[h0]
    left
    rw[e2,W5 rfl rfl rfl (by left) (by left)]
    left
    rw[h5]
    left
   |true=>
    obtain⟨r',c3,x3,r0',r1',b3,e3⟩:=w6 l c2 x2 (many:Int) n b2 hp (by lia)
    refine⟨r',c3,x3,b3, ?_⟩
    left
    rw[h0]
    left
    rw[e2,W5 rfl rfl rfl (by left) (by left)]
    left
    rw[h5]
    left
    rw[e3,W5 rfl rfl rfl (by left) (by left)]
    left
 obtain⟨wide,c2,x2,b2,e2⟩:=key
 obtain⟨s',e3,A,c3,x3,p5,p6,p7,p8,p9,n3,g1,g2,g3,g4,g5,j7,j8,j9,hn3,rfl⟩:=z2W (P:=fun i s=> ∃(A:List (Nat×List Pz)) (c x:Int) (p5 p6 p7 p8 p9:Option D) (n3:Nat),A.length=i/\(∀q∈A,q.2.length<=200)/\(∀i (h:i<A.length),∀p∈A[i].2,p.ok (many:Nat) (i:Nat))/\(∀q∈A,n<q.1/\q.1<n3)/\Bg c x/\z2e p7/\z2e p8/\z2e p9/\n+1<=n3/\s=⟨[some (.lst l [.int c, .int x]),some (.int (many:Nat)),some (.int ch),some (.int wide),some (.lst n (nD A)),p5,p6,p7,p8,p9],[some (.lst l [.int c, .int x]),some (.int (many:Nat))],n3⟩) (lo:=0) (N:=many) (g:= .nm 5) (b:=zgh) (by
  rintro i hi s ⟨A,c,x,p5,p6,p7,p8,p9,n3,g1,g2,g3,g4,g5,j7,j8,j9,hn3,rfl⟩
  refine⟨_,rfl, ?_⟩
  obtain⟨c',x',ps,k,n',o6',o7',o8',o9',h1,h2,h3,h4,h5,h6,h7,h8,e⟩:=zfw l n A hn (by lia) (many:Nat) (0+(i:Int)) ch wide (by lia) (by lia) (by lia) c x g5 p6 p7 p8 p9 j7 j8 j9 n3 (by lia) (fun q hq=>by have:=g4 q hq;lia)
  refine⟨_,e,A++[(k,ps)],c',x',_,o6',o7',o8',o9',n',by simp[g1], ?_, ?_, ?_,h1,h6,h7,h8,by lia,rfl⟩
  ·intro q hq
   rcases i3.mp hq with hq|hq
   ·exact g2 q hq
   ·rw[m9.mp hq];show ps.length<=200;lia
  ·intro j hj p hp
   by_cases hja:j<A.length
   ·rw[O9 hja] at hp
    exact g3 j hja p hp
   ·have ej:j=i:=by simp at hj;lia
    subst ej
    rw[O7 (by lia)] at hp
    have:=h3 p (by simpa using hp)
    rw[L9] at this
    exact this
  ·intro q hq
   rcases i3.mp hq with hq|hq
   ·have:=g4 q hq;lia
   ·rw[m9.mp hq];exact⟨by show n<k;lia,h5⟩) many 0 ⟨[some (.lst l [.int c2, .int x2]),some (.int (many:Nat)),some (.int ch),some (.int wide),some (.lst n (nD [])),none,none,none,none,none],[some (.lst l [.int c2, .int x2]),some (.int (many:Nat))],n+1⟩ (by lia) ⟨[],c2,x2,none,none,none,none,none,n+1,rfl,(by intro q hq;cases hq),(by intro i h;cases h),(by intro q hq;cases hq),b2, .inl rfl, .inl rfl, .inl rfl,i4 _,rfl⟩
 refine⟨A,n,c3,x3,n3,g1,g2,g3,i4 _,by lia,fun q hq=>by have:=g4 q hq;lia,g5, ?_⟩
 have e0:z61=Y2 (Q8 (.nm 2) (Z2 Z0 [(y0 0),(mC (.int 3))])) (Y2 (Q8 (.nm 3) (bd (mC (.int 1)) z6k)) (Y2 zhV (Y2 (Q8 (.nm 4) (mCB [] lstM)) (Y2 zhW (J3 (y0 4)))))):=rfl
 have e4:zhW ⟨[some (.lst l [.int c2, .int x2]),some (.int (many:Nat)),some (.int ch),some (.int wide),some (.lst n []),none,none,none,none,none],[some (.lst l [.int c2, .int x2]),some (.int (many:Nat))],n+1⟩= .nx ⟨[some (.lst l [.int c3, .int x3]),some (.int (many:Nat)),some (.int ch),some (.int wide),some (.lst n (nD A)),p5,p6,p7,p8,p9],[some (.lst l [.int c3, .int x3]),some (.int (many:Nat))],n3⟩:=by
  unfold zhW
  left
  rw[z2V (by lia)]
  left
  rw[C5]
  exact e3
 unfold z2S
 rw[e0]
 left
 rw[e1,W5 rfl rfl rfl (by left) (by left)]
 left
 rw[e2]
 left
 rw[e4]
 left
theorem z6G{k:Nat}{ds:List D}(h:Rs k (.tup ds)=true):ds.length<=2000/\∀d∈ds,Rs k d=true:=by
 erw[Rs,l0,decide_eq_true_eq,z08] at h;exact h
theorem zir{ds:List D}(h:ds.length=4): ∃a b c d,ds=[a,b,c,d]:=by
 rcases ds with _|⟨a,_|⟨b,_|⟨c,_|⟨d,_|⟨e,r⟩⟩⟩⟩⟩<;>simp at h
 exact⟨a,b,c,d,rfl⟩
noncomputable def z1a:D->Bool
 | .tup [a, .tup ss,c,d]=>[a,c,d].all isInt&&ss.all isInt
 |_=>false
theorem zaA(t:D)(m k:Nat)(h:Rs k t=true): ∃m',m<=m'/\Q6 [t] m= .ok (.bool (z1a t)) [t] m':=by
 unfold Q6 G8
 left
 cases t with
 |tup ds=>
  left
  by_cases hl:ds.length=4
  ·obtain⟨a,b,c,d,rfl⟩:=zir hl
   obtain⟨_,hm⟩:=z6G h
   have gb:Gd b:=z0M b (hm b (by simp))
   walk_at "mh"
   cases b with
   |tup ss=>
    have hs:=(z6G (hm (.tup ss) (by simp))).1
    have hsm:=(z6G (hm (.tup ss) (by simp))).2
    have ha:=z0M a (hm a (by simp))
    have hc:=z0M c (hm c (by simp))
    have hd:=z0M d (hm d (by simp))
    have es: ∀x∈[a,c,d]++ss,Q4 x=true:=by
     intro x hx
     rcases i3.mp hx with hx|hx
     ·erw[i0,l6,or_false] at hx
      rcases hx with rfl|rfl|rfl
      ·exact ha.1
      ·exact hc.1
      ·exact hd.1
     ·exact(z0M x (hsm x hx)).1
    clear hm h ha hc hd gb hsm
    obtain⟨n',hn,hq⟩:=z5f (mc:=Z1 (mCB [Z1 (y0 0) (mC (.int 0)) ixD,Z1 (y0 0) (mC (.int 2)) ixD,Z1 (y0 0) (mC (.int 3)) ixD] K9) (Z1 (y0 0) (mC (.int 1)) ixD) J1) (me:=Z2 U7 [y0 0]) (g:=fun d=> .bool (isInt d)) (ds:=[a,c,d]++ss) (ix:=[]) (s:=⟨[some (.tup [a, .tup ss,c,d])],[some (.tup [a, .tup ss,c,d])],m⟩) (s1:=⟨[some (.tup [a, .tup ss,c,d])],[some (.tup [a, .tup ss,c,d])],m⟩) (by
     left
     rw[z27 (by rw[zl];erw[l8,t5];lia)]
     try (left)) (by rw[zl];erw[m7,l8,t5];lia) (by
     intro x hx tm n
     refine⟨n,i4 _, ?_⟩
     show Z2 _ _ ⟨[some x],tm,n⟩=_
     left
     rw[zfh x n (es x hx)]
     left)
    refine⟨n'+1,by simp only at hn;lia, ?_⟩
    left
    rw[hq]
    left
    have eb:=z5g ([a,c,d]++ss) isInt
    erw[B8,i6,l9,r8,m8] at eb
    rw[zf8 eb]
    left
    erw[T8,z1a,P0,S4,Function.comp_def,id,F6,Bool.and_assoc]
   |dct _ _ _=>simp[Gd,Mi.Q4] at gb
   |obj _ _ _ _=>simp[Gd,Mi.Q4] at gb
   |exc _=>simp[Gd,Mi.Q4] at gb
   |fn _=>simp[Gd,Mi.Q4] at gb
   |fdc _ _=>simp[Gd,Mi.Q4] at gb
   |_=>refine⟨m,i4 _, ?_⟩;left;rfl
  ·have e:(((ds.length:Nat):Int)==4)=false:=by simp;lia
   refine⟨m,i4 _, ?_⟩
   erw[e]
   left
   congr 2
   rcases ds with _|⟨a,_|⟨b,_|⟨c,_|⟨d,_|⟨e,r⟩⟩⟩⟩⟩<;>first|rfl|(cases b<;>rfl)|(simp at hl)
 |dct _ _ _=>simp[Rs] at h
 |obj _ _ _ _=>simp[Rs] at h
 |exc _=>simp[Rs] at h
 |fn _=>simp[Rs] at h
 |fdc _ _=>simp[Rs] at h
 |_=>refine⟨m,i4 _, ?_⟩;left;rfl
noncomputable def z31(b l:Int):D->Bool
 | .tup [a,s,c,d]=>inR (b+1) l a&&(rowB 1 24 1039 s&&(inR 0 8 c&&inR 0 99999 d))
 |_=>false
theorem z4r{lo hi:Int}{t:D}(h:inR lo hi t=true): ∃i:Int,t= .int i:=by
 cases t<;>first|(simp[inR] at h;done)|exact⟨_,rfl⟩
theorem zaB{lo hi top:Int}{t:D}(h:rowB lo hi top t=true): ∃ss,t= .tup ss/\ss.all isInt=true:=by
 cases t<;>first|(simp[rowB] at h;done)|skip
 rename_i ss
 refine⟨ss,rfl, ?_⟩
 erw[rowB,l0,D4] at h⊢
 intro x hx
 obtain⟨i,rfl⟩:=z4r (h.2 x hx)
 rfl
theorem z65{b l:Int}{t:D}(h:z31 b l t=true):z1a t=true:=by
 unfold z31 at h
 split at h
 ·erw[l0] at h
  obtain⟨h1,h2,h3,h4⟩:=h
  obtain⟨a,rfl⟩:=z4r h1
  obtain⟨ss,rfl,q⟩:=zaB h2
  obtain⟨c,rfl⟩:=z4r h3
  obtain⟨d,rfl⟩:=z4r h4
  erw[z1a,q,P0,S4,isInt,F6]
 ·cases h
theorem z66{t:D}(h:z1a t=true): ∃a ss c d,t= .tup [.int a, .tup ss, .int c, .int d]:=by
 unfold z1a at h
 split at h
 ·rename_i a ss c d
  erw[P0,S4,l0] at h
  obtain⟨⟨h1,h2,h3,_⟩,_⟩:=h
  cases a<;>simp[isInt] at h1
  cases c<;>simp[isInt] at h2
  cases d<;>simp[isInt] at h3
  exact⟨_,_,_,_,rfl⟩
 ·cases h
theorem z9d(t:D)(b l:Int)(m k:Nat)(h:Rs k t=true): ∃m',m<=m'/\V8 [t, .int b, .int l] m= .ok (.bool (z31 b l t)) [t, .int b, .int l] m':=by
 unfold V8 z0G
 left
 cases t with
 |tup ds=>
  left
  by_cases hl:ds.length=4
  ·obtain⟨a,s,c,d,rfl⟩:=zir hl
   obtain⟨_,hm⟩:=z6G h
   have ga:=z0M a (hm a (by simp))
   have gs:=z0M s (hm s (by simp))
   have gc:=z0M c (hm c (by simp))
   have gd:=z0M d (hm d (by simp))
   clear hm h
   walk_at "mh"
   rw[z4l a (b+1) l m ga.1]
   left
   erw[z31]
   cases inR (b+1) l a with
   |false=>exact⟨m,i4 _,by left⟩
   |true=>
    left
    obtain⟨m2,g2,e2⟩:=zcO s 1 24 1039 m gs.1 (by decide)
    rw[e2]
    left
    cases rowB 1 24 1039 s with
    |false=>exact⟨m2,by lia,by left⟩
    |true=>
     refine⟨m2,by lia, ?_⟩
     left
     rw[z4l c 0 8 m2 gc.1]
     left
     cases inR 0 8 c with
     |false=>left
     |true=>
      left
      rw[z4l d 0 99999 m2 gd.1]
      left
  ·have e:(((ds.length:Nat):Int)==4)=false:=by simp;lia
   refine⟨m,i4 _, ?_⟩
   erw[e]
   left
   congr 2
   rcases ds with _|⟨a,_|⟨b,_|⟨c,_|⟨d,_|⟨e,r⟩⟩⟩⟩⟩<;>first|rfl|(simp at hl)
 |dct _ _ _=>simp[Rs] at h
 |obj _ _ _ _=>simp[Rs] at h
 |exc _=>simp[Rs] at h
 |fn _=>simp[Rs] at h
 |fdc _ _=>simp[Rs] at h
 |_=>refine⟨m,i4 _, ?_⟩;left;rfl
noncomputable def Ints(ys:List D):Prop:= ∀y∈ys,∃i:Int,y= .int i
theorem z1K: ∀{ys:List D},Ints ys->labsL ys=[]
 |[],_=>rfl
 |y::ys,h=>by
  obtain⟨i,rfl⟩:=h y (by simp)
  erw[labsL,y9,m8]
  exact z1K fun z hz=>h z (by simp[hz])
theorem z5p{l:Nat}{d:D}{ts:List D}(h:labsL ts=[]):rpL (pl l d) ts=ts:=by
 have e:=Z9 (l:=l) (d:=d) (t:= .tup ts) (by erw[y9,h];exact l6)
 erw[zbg,D.tup.injEq] at e;exact e
theorem z1L: ∀{cs:List D},(∀d∈cs,Tr d=true)->labsL cs=[]
 |[],_=>rfl
 |y::ys,h=>by
  erw[labsL,K7 y (h y (by simp)),m8]
  exact z1L fun z hz=>h z (by simp[hz])
noncomputable def Row(y:D):Prop:= ∃ys,y= .tup ys/\Ints ys/\ys.length=10
theorem z9e{n:Nat}{as bs:List D}(h:All2 (fun(_:D) y=> ∃i:Int,y= .int i) as bs):Ints bs/\bs.length=as.length:=by
 induction h with
 |nil=>exact⟨(fun _ h=>nomatch h),rfl⟩
 |cons h1 _ ih=>
  refine⟨?_,by simp[ih.2]⟩
  intro y hy
  rcases i0.mp hy with rfl|hy
  ·exact h1
  ·exact ih.1 y hy
theorem zaC{as bs:List D}(h:All2 (fun(_:D) y=>Row y) as bs):(∀b∈bs,Row b)/\bs.length=as.length:=by
 induction h with
 |nil=>exact⟨(fun _ h=>nomatch h),rfl⟩
 |cons h1 _ ih=>
  refine⟨?_,by simp[ih.2]⟩
  intro y hy
  rcases i0.mp hy with rfl|hy
  ·exact h1
  ·exact ih.1 y hy
theorem z9f(l:Nat)(c x v:Int)(n:Nat)(h:Bg c x)(hn:l<n)(hv0:0<v)(hv1:v<1000000)(σ0 tm0:List (Option D))(ix:List Nat)(i j:Nat)(hix:ix=[i,j])(hi:(σ0[i]?).getD none=some (.lst l [.int c, .int x]))(hj:(σ0[j]?).getD none=some (.int v))(f1:rpO (pl l (.lst l [.int c, .int x])) σ0=σ0)(f2:rpO (pl l (.lst l [.int c, .int x])) tm0=tm0):
 ∃ys c' x' n',Ints ys/\ys.length=10/\Bg c' x'/\n<=n'/\W3 (U1 [mC (.int 10)]) (.nm 0) (rt true) (Z2 Z0 [y0 1,y0 2]) 1 ix ⟨σ0,tm0,n⟩= .ok (.lst n' ys) ⟨rpO (pl l (.lst l [.int c', .int x'])) σ0,rpO (pl l (.lst l [.int c', .int x'])) tm0,n'+1⟩:=by
 subst hix
 obtain⟨ys,b',n',g1,g2,g3,⟨c3,x3,rfl,h3⟩,g5,g6⟩:=z2Y (ms:=[mC (.int 10)]) (me:=Z2 Z0 [y0 1,y0 2]) (N:=10) (ix:=[i,j]) (s:=⟨σ0,tm0,n⟩) (l:=l) (n:=n) (j:=10) (σ0:=σ0) (tm0:=tm0) (b:=[.int c, .int x]) (Bg:=fun b=> ∃c x,b=[.int c, .int x]/\Bg c x) (Q:=fun _ d=> ∃i:Int,d= .int i) (fun _ _ _ _ h=>h)
  (by left) rfl ⟨by lia,by lia⟩ (by rw[zl];lia) ⟨c,x,rfl,h⟩ hn f1 f2 (by erw[i6,l9,hi,hj];left) (by
   rintro k hk b tm m ⟨c,x,rfl,hb⟩ hm hf
   obtain⟨r,c',x',hs0,hs1,h',e'⟩:=w6 l c x v m hb hv0 hv1
   refine⟨.int r,[.int c', .int x'],m,⟨c',x',rfl,h'⟩,⟨r,rfl⟩,i4 _,by simp[y9], ?_⟩
   erw[i6,l9,hi,hj]
   left
   rw[e',W5 rfl rfl rfl (by left) hf]
   left)
 exact⟨ys,c3,x3,n',g2,g1,h3,g5,g6⟩
noncomputable def zhX:M D:=mCB [(W3 (G2 (y0 2)) (.nm 0) (rt true) (Z1 (Z1 (y0 2) (y0 0) J1) (y0 1) z3u) 1 [1,0])] tupF
noncomputable def zhY:M D:=mCB [(W3 (U1 [(mC (.int 10))]) (.nm 0) (rt true) (Z2 Z0 [(y0 1),(y0 2)]) 1 [1,2])] tupF
theorem zfy(l:Nat)(c x:Int)(n:Nat)(h:Bg c x)(hn:l<n): ∃rs c' x' n',rs.length=10/\(∀r∈rs,Row r)/\Bg c' x'/\n<=n'/\z0J [.lst l [.int c, .int x]] n= .ok (.tup rs) [.lst l [.int c', .int x']] n':=by
 unfold z0J
 have e0:z2T=(Y2 (Q8 (.nm 1) (Z1 (mCB [(mC (.int 1)),(mC (.int 2)),(mC (.int 4)),(mC (.int 1000))] lstM) (Z2 Z0 [(y0 0),(mC (.int 4))]) ixD))
  (Y2 (sIf (g9 (Z1 (Z2 Z0 [(y0 0),(mC (.int 2))]) (mC (.int 0)) eqD)) (Y2 (Q8 (.nm 2) (W3 (U1 [(mC (.int 10))]) (.nm 0) (rt true) (Z2 Z0 [(y0 1),(y0 2)]) 1 [0,1]))
  (Y2 (Q8 (.nm 3) (W3 (U1 [(mC (.int 10))]) (.nm 0) (rt true) (Z2 Z0 [(y0 1),(y0 2)]) 1 [0,1]))
  (J3 (mCB [(W3 (G2 (y0 2)) (.nm 0) (rt true) zhX 1 [1,3])] tupF)))) sNx)
  (J3 (mCB [(W3 (U1 [(mC (.int 10))]) (.nm 0) (rt true) zhY 1 [0,1])] tupF)))):=rfl
 rw[e0]
 left
 obtain⟨r,c1,x1,hr0,hr1,b1,e1⟩:=w6 l c x 4 (n+1) h (by decide) (by decide)
 rw[e1,W5 rfl rfl rfl (by left) (by left;rw[J9 (by lia)];left)]
 left
 rw[J9 (by lia)]
 left
 have hv: ∃v:Int,0<v/\v<1000000/\atI [D.int 1,D.int 2,D.int 4,D.int 1000] r=some (.int v):=by
  have:r=0\/r=1\/r=2\/r=3:=by lia
  rcases this with rfl|rfl|rfl|rfl
  ·exact⟨_,by decide,by decide,at0⟩
  ·exact⟨_,by decide,by decide,at1⟩
  ·exact⟨_,by decide,by decide,at2⟩
  ·exact⟨_,by decide,by decide,at3⟩
 obtain⟨v,hv0,hv1,ev⟩:=hv
 rw[ev]
 left
 obtain⟨w,c2,x2,hw0,hw1,b2,e2⟩:=w6 l c1 x1 2 (n+1) b1 (by decide) (by decide)
 rw[e2,W5 rfl rfl rfl (by left) (by left)]
 left
 cases hw:(w==0) with
 |true=>
  left
  obtain⟨as,c3,x3,n3,ia,la,b3,g3,e3⟩:=z9f l c2 x2 v (n+1) b2 (by lia) hv0 hv1 [some (.lst l [.int c2, .int x2]),some (.int v),none,none] [some (.lst l [.int c2, .int x2])] [0,1] 0 1 rfl rfl rfl (by left) (by left)
  rw[e3]
  have hsa: ∀k d,rpL (pl k d) as=as:=fun k d=>z5p (z1K ia)
  left
  have q3:n3≠l:=by lia
  obtain⟨bs,c4,x4,n4,ib,lb,b4,g4,e4⟩:=z9f l c3 x3 v (n3+1) b3 (by lia) hv0 hv1 [some (.lst l [.int c3, .int x3]),some (.int v),some (.lst n3 as),none] [some (.lst l [.int c3, .int x3])] [0,1] 0 1 rfl rfl rfl (by left;erw[J9 q3,hsa]) (by left)
  rw[e4]
  have hsb: ∀k d,rpL (pl k d) bs=bs:=fun k d=>z5p (z1K ib)
  left
  erw[J9 q3,hsa]
  obtain⟨rs,n5,h1,h2,h3⟩:=z1F (mc:=y0 2) (me:=zhX) (Q:=fun _ (_:D) y=>Row y) (fun _ _ _ _ _ h=>h) (l:=n3) (ds:=as) (ix:=[1,3]) (s:=⟨[some (.lst l [.int c4, .int x4]),some (.int v),some (.lst n3 as),some (.lst n4 bs)],[some (.lst l [.int c4, .int x4])],n4+1⟩) (σ:=[some (.lst l [.int c4, .int x4]),some (.int v),some (.lst n3 as),some (.lst n4 bs)]) (tm:=[some (.lst l [.int c4, .int x4])]) (n:=n4+1) (by left) (by rw[zl];lia) (by
   intro d hd tm m
   obtain⟨a,rfl⟩:=ia d hd
   obtain⟨ys,m2,j1,j2,j3⟩:=z1F (mc:=y0 2) (me:=Z1 (Z1 (y0 2) (y0 0) J1) (y0 1) z3u) (Q:=fun _ (_:D) y=> ∃i:Int,y= .int i) (fun _ _ _ _ _ h=>h) (l:=n4) (ds:=bs) (ix:=[1,0]) (s:=⟨[some (.int a),some (.int v),some (.lst n4 bs)],tm,m⟩) (σ:=[some (.int a),some (.int v),some (.lst n4 bs)]) (tm:=tm) (n:=m) (by left) (by rw[zl];lia) (by
    intro d hd tm m
    obtain⟨b,rfl⟩:=ib d hd
    refine⟨_,m,i4 _,⟨(a+b) %v,rfl⟩, ?_⟩
    erw[i6,l9,List.getElem?_cons_zero,List.getElem?_cons_succ,A8]
    left
    rw[z3j hv0])
   obtain⟨iy,ly⟩:=z9e (n:=m2) j1
   refine⟨.tup ys,m2+1,by lia,⟨ys,rfl,iy,by lia⟩, ?_⟩
   erw[i6,l9,List.getElem?_cons_zero,List.getElem?_cons_succ,A8]
   unfold zhX
   left
   rw[j3]
   left)
  obtain⟨hr,lr⟩:=zaC h1
  rw[h3]
  left
  exact⟨rs,c4,x4,n5+1,by lia,hr,b4,by lia,rfl⟩
 |false=>
  left
  obtain⟨rs,b',n',g1,g2,g3,⟨c3,x3,rfl,h3⟩,g5,g6⟩:=z2Y (ms:=[mC (.int 10)]) (me:=zhY) (N:=10) (ix:=[0,1]) (s:=⟨[some (.lst l [.int c2, .int x2]),some (.int v),none,none],[some (.lst l [.int c2, .int x2])],n+1⟩) (l:=l) (n:=n+1) (j:=10) (σ0:=[some (.lst l [.int c2, .int x2]),some (.int v),none,none]) (tm0:=[some (.lst l [.int c2, .int x2])]) (b:=[.int c2, .int x2]) (Bg:=fun b=> ∃c x,b=[.int c, .int x]/\Bg c x) (Q:=fun _ y=>Row y) (fun _ _ _ _ h=>h)
   (by left) rfl ⟨by lia,by lia⟩ (by rw[zl];lia) ⟨c2,x2,rfl,b2⟩ (by lia) (by left) (by left) (by erw[i6,l9,List.getElem?_cons_zero,List.getElem?_cons_succ,A8];left) (by
    rintro k hk b tm m ⟨c,x,rfl,hb⟩ hm hf
    obtain⟨ys,c5,x5,n5,iy,ly,b5,g5,e5⟩:=z9f l c x v m hb hm hv0 hv1 [some (.int (0+(k:Int))),some (.lst l [.int c, .int x]),some (.int v)] tm [1,2] 1 2 rfl rfl rfl (by left) hf
    refine⟨.tup ys,[.int c5, .int x5],n5+1,⟨c5,x5,rfl,b5⟩,⟨ys,rfl,iy,ly⟩,by lia,by erw[y9,z1K iy];exact l6, ?_⟩
    erw[i6,l9,List.getElem?_cons_zero,List.getElem?_cons_succ,A8]
    unfold zhY
    left
    erw[L9] at e5
    rw[e5]
    left)
  rw[g6]
  left
  exact⟨rs,c3,x3,n'+1,g1,g2,h3,by lia,rfl⟩
theorem z3L{l:Nat}{ps:List D}{i:Nat}{tm:List (Option D)}:kLst.at' i (some (.lst l ps)::tm)=some ps[i]? :=rfl
theorem zfz{ps:List D}{i:Nat}(h:i<ps.length):ps.drop i=ps[i]::ps.drop (i+1):=C7 h
theorem z3k{o:Option D}{σ tm:List (Option D)}{n:Nat}:Stt.popn ⟨σ,o::tm,n⟩ 1=⟨σ,tm,n⟩:=rfl
theorem z4s:kLst.k=1:=rfl
noncomputable def z4t:List PyData->Option (List Int)
 |[]=>some []
 | .int i::r=>(z4t r).map (i:: ·)
 |_::_=>none
noncomputable def unP:PyData->Option Pz
 | .tuple [.int e, .tuple ss, .int k, .int c]=>(z4t ss).map fun bs=>⟨e,bs,k,c⟩
 |_=>none
theorem z6H: ∀bs:List Int,z4t (erL (iL bs))=some bs
 |[]=>rfl
 |b::bs=>by
  show(z4t (erL (iL bs))).map (b:: ·)=_
  rw[z6H bs];rfl
theorem z6I{t:D}{i:Int}(h:Q4 t=true)(e:er t= .int i):t= .int i:=by
 cases t<;>simp[er] at e<;>simp_all [Mi.Q4]
theorem zbr{t:D}{xs:List PyData}(h:Q4 t=true)(e:er t= .tuple xs): ∃ds,t= .tup ds/\erL ds=xs/\plainL ds=true:=by
 cases t<;>simp[er] at e
 exact⟨_,rfl,e,by simpa[Mi.Q4] using h⟩
theorem z9g: ∀{ds:List D} {bs:List Int},plainL ds=true->z4t (erL ds)=some bs->ds=iL bs
 |[],bs,_,h=>by erw[erL,z4t,Option.some.injEq] at h;subst h;rfl
 |d::ds,bs,hp,h=>by
  erw[plainL,l0] at hp
  erw[erL] at h
  cases e:er d with
  |int i=>
   rw[e] at h
   erw[z4t,I0] at h
   obtain⟨cs,h1,rfl⟩:=h
   rw[z9g hp.2 h1,z6I hp.1 e];rfl
  |_=>rw[e] at h;simp[z4t] at h
theorem zfA(p:Pz):unP (er p.d)=some p:=by
 show(z4t (erL (iL p.ss))).map _=_
 rw[z6H];rfl
theorem zhZ{t:D}{p:Pz}(h:Q4 t=true)(e:unP (er t)=some p):t=p.d:=by
 cases q:er t with
 |tuple xs=>
  rw[q] at e
  obtain⟨ds,rfl,e1,hp⟩:=zbr h q
  subst e1
  unfold unP at e
  split at e
  ·rename_i e0 ss k c hx
   injection hx with hx
   rcases ds with _|⟨d1,_|⟨d2,_|⟨d3,_|⟨d4,_|⟨d5,r⟩⟩⟩⟩⟩<;>erw[erL] at hx<;>try (simp at hx;done)
   erw[List.cons.injEq,and_true] at hx
   obtain⟨h1,h2,h3,h4⟩:=hx
   erw[plainL,l0,and_true] at hp
   obtain⟨p1,p2,p3,p4⟩:=hp
   obtain⟨es,rfl,h5,h6⟩:=zbr p2 h2
   erw[I0] at e
   obtain⟨bs,h7,rfl⟩:=e
   rw[<-h5] at h7
   rw[z6I p1 h1,z6I p3 h3,z6I p4 h4,z9g h6 h7];rfl
  ·cases e
 |_=>rw[q] at e;simp[unP] at e
theorem z6J: ∀{ss:List D},ss.all isInt=true->∃bs,ss=iL bs
 |[],_=>⟨[],rfl⟩
 |d::ss,h=>by
  erw[P0,l0] at h
  obtain⟨bs,rfl⟩:=z6J h.2
  cases d<;>simp[isInt] at h
  exact⟨_::bs,rfl⟩
theorem zcU(p:Pz):z1a p.d=true:=by
 have h: ∀bs:List Int,(iL bs).all isInt=true:=fun bs=>by
  induction bs with
  |nil=>rfl
  |cons b bs ih=>show(isInt (.int b)&&(iL bs).all isInt)=true;rw[ih];rfl
 show([D.int p.e, .int p.k, .int p.c].all isInt&&(iL p.ss).all isInt)=true
 rw[h];rfl
theorem z9h{t:D}(h:z1a t=true): ∃p:Pz,t=p.d:=by
 obtain⟨a,ss,c,d,rfl⟩:=z66 h
 have h':([D.int a, .int c, .int d].all isInt&&ss.all isInt)=true:=h
 erw[l0] at h'
 obtain⟨bs,rfl⟩:=z6J h'.2
 exact⟨⟨a,bs,c,d⟩,rfl⟩
theorem zaD{t:D}(h:Q4 t=true)(hk:z1a t=false):unP (er t)=none:=by
 cases e:unP (er t) with
 |none=>rfl
 |some p=>rw[zhZ h e,zcU] at hk;cases hk
theorem zbs: ∀{a b:List Int},PyData.eqvAll (erL (iL a)) (erL (iL b))=true->a=b
 |[],[],_=>rfl
 |[],b::bs,h=>by simp[iL,erL,PyData.eqvAll] at h
 |a::as,[],h=>by simp[iL,erL,PyData.eqvAll] at h
 |a::as,b::bs,h=>by
  have h':(PyData.eqv (.int a) (.int b)&&PyData.eqvAll (erL (iL as)) (erL (iL bs)))=true:=h
  erw[PyData.eqv,l0,beq_iff_eq] at h'
  rw[h'.1,zbs h'.2]
theorem zfB{p q:Pz}(h:PyData.eqv (er p.d) (er q.d)=true):p=q:=by
 obtain⟨e,ss,k,c⟩:=p
 obtain⟨e',ss',k',c'⟩:=q
 erw[Pz.d,er,erL,PyData.eqv,PyData.eqvAll,l0,F6,beq_iff_eq] at h
 obtain⟨rfl,h,rfl,rfl⟩:=h
 rw[zbs h]
noncomputable def way(X:List (List Pz)):Nat->List PyData->Bool
 |a,[]=>a==X.length
 |a,d::r=>match unP d with
  |none=>false
  |some p=>decide (a<X.length)&&((X.getD a []).any fun q=>PyData.eqv (er q.d) d)&&way X p.e.toNat r
theorem zfC(ps:List Pz)(d:PyData):((erL (psD ps)).any fun y=>PyData.eqv y d)=ps.any fun q=>PyData.eqv (er q.d) d:=by
 induction ps with
 |nil=>rfl
 |cons p ps ih=>
  show(PyData.eqv (er p.d) d||(erL (psD ps)).any _)=_
  rw[ih];rfl
theorem zbt{t:D}{l:Nat}{ps:List Pz}{s:Stt}(g:Gd t):z9x t (.lst l (psD ps)) s= .ok (.bool (!ps.any fun q=>PyData.eqv (er q.d) (er t))) s:=by
 obtain⟨⟨h1,h2⟩,h3⟩:=zax ps
 rw[zhu (ds:=psD ps) rfl (by erw[inC,g.1,g.2,h1,h2,C3,decide_eq_true_eq];lia),zfC]
theorem z4u{ps:List Pz}{p:Pz}(h:(ps.any fun q=>PyData.eqv (er q.d) (er p.d))=true):p∈ps:=by
 obtain⟨q,hq,e⟩:=List.any_eq_true.mp h
 rw[<-zfB e];exact hq
theorem z6K{ds:List D}{i:Nat}(h:i<ds.length):erL (ds.drop i)=er ds[i]::erL (ds.drop (i+1)):=by rw[zfz h];rfl
noncomputable def zi0:MS:=(Y2 (sIf (mOr (g9 (Z1 (y0 2) (mCB [(y0 0)] lenD) eqD)) (mOr (z3d (U5 (Z2 Q6 [(y0 3)]))) (g9 (Z1 (y0 3) (Z1 (y0 0) (y0 2) ixD) z9x)))) (J3 (mC (.bool false))) sNx)
 (Q8 (.nm 2) (Z1 (y0 3) (mC (.int 0)) ixD)))
theorem zfD(L l:Nat)(N:List (Nat×List Pz))(hN:N.length<=100)(hO: ∀i (h:i<N.length),∀p∈N[i].2,p.ok (N.length:Nat) (i:Nat))(ds:List D)(k:Nat)(h: ∀p∈ds,Rs k p=true): ∀(f i a:Nat) (o:Option D) (n:Nat),i+f=ds.length->a<=N.length->∃n',n<=n'/\((forGo kLst (.nm 3) zi0 f i ⟨[some (.lst L (nD N)),some (.lst l ds),some (.int (a:Nat)),o],[some (.lst l ds),some (.lst L (nD N)),some (.lst l ds)],n⟩).sq (J3 (Z1 (y0 2) (mCB [(y0 0)] lenD) eqD))).fin= .ok (.bool (way (N.map (·.2)) a (erL (ds.drop i)))) [.lst L (nD N), .lst l ds] n':=by
 intro f
 induction f with
 |zero=>
  intro i a o n hi ha
  refine⟨n,i4 _, ?_⟩
  unfold forGo
  erw[z3L,List.getElem?_eq_none (show ds.length<=i by lia),z4s,z3k,C6 (show ds.length<=i by lia),way,erL]
  left
  erw[X9,A3]
  rw[show((a:Int)==(N.length:Int))=(a==N.length) by rw[P9,beq_iff_eq,beq_iff_eq];lia]
 |succ f ih=>
  intro i a o n hi ha
  have hl:i<ds.length:=by lia
  have gd:=z0M _ (h _ (A2 hl))
  obtain⟨m1,g1,e1⟩:=zaA ds[i] n k (h _ (A2 hl))
  unfold forGo
  erw[z3L,List.getElem?_eq_getElem hl,asg,B3,A7]
  rw[z6K hl]
  unfold zi0
  left
  by_cases ha':a=N.length
  ·subst ha'
   refine⟨n,i4 _, ?_⟩
   rw[show((N.length:Int)==((nD N).length:Int))=true by rw[X9];simp]
   left
   erw[z4s,z3k]
   left
   erw[way,A3,B1,decide_false,E7]
   cases unP (er ds[i])<;>rfl
  ·rw[show((a:Int)==((nD N).length:Int))=false by rw[X9];simp;lia]
   have ha2:a<N.length:=by lia
   left
   rw[e1]
   cases hp:z1a ds[i] with
   |false=>
    refine⟨m1,g1, ?_⟩
    left
    erw[z4s,z3k]
    left
    erw[way,zaD gd.1 hp]
   |true=>
    obtain⟨p,hd⟩:=z9h hp
    have ex:(List.map (·.2) N).getD a []=N[a].2:=by simp[ha2]
    left
    rw[zay ha2 hN]
    left
    rw[zbt gd]
    erw[way,hd,zfA,ex,A3,decide_eq_true ha2,C3]
    cases ha:N[a].2.any fun q=>PyData.eqv (er q.d) (er p.d) with
    |false=>
     refine⟨m1,g1, ?_⟩
     left
     erw[z4s,z3k]
     left
    |true=>
     have hm:=hO a ha2 p (z4u ha)
     obtain⟨n',g2,e2⟩:=ih (i+1) p.e.toNat (some p.d) m1 (by lia) (by have:=hm.1;have:=hm.2.1;lia)
     refine⟨n',by lia, ?_⟩
     have hp:((p.e.toNat:Nat):Int)=p.e:=by have:=hm.1;lia
     rw[hp] at e2
     erw[C3]
     rw[<-e2]
     left
     erw[Pz.d]
     left
     rfl
theorem zcV{m b:Int}{p:Pz}(h:p.ok m b):z31 b m p.d=true:=by
 obtain⟨h1,h2,⟨h3,h4,h5⟩,⟨h6,h7⟩,h8,h9⟩:=h
 have hr:(iL p.ss).all (inR 0 1039)=true:=by
  rw[D4]
  intro d hd
  obtain⟨z,hz,rfl⟩:=A4.mp hd
  have:=h5 z hz
  erw[inR,l0,decide_eq_true_eq];lia
 have hl:(iL p.ss).length=p.ss.length:=by simp[iL]
 erw[Pz.d,z31,rowB]
 rw[hr,hl]
 erw[inR,l0,decide_eq_true_eq,F6]
 lia
noncomputable def zgi(X:List (List Pz))(d:PyData):Bool:=match d with
 | .list ds=>way X 0 ds
 |_=>false
noncomputable def zi1:MS:=(Y2 (sIf (mOr (g9 (Z1 (y0 2) (mCB [(y0 0)] lenD) geD)) (z3d (U5 (Z2 V8 [(y0 3),(y0 2),(mCB [(y0 0)] lenD)])))) (J3 (mC (.bool false))) sNx)
 (Y2 (sIf (g9 (Z1 (y0 3) (Z1 (y0 0) (y0 2) ixD) z9x)) (J3 (mC (.bool false))) sNx)
 (Q8 (.nm 2) (Z1 (y0 3) (mC (.int 0)) ixD))))
theorem zfE(L l:Nat)(N:List (Nat×List Pz))(hN:N.length<=100)(hO: ∀i (h:i<N.length),∀p∈N[i].2,p.ok (N.length:Nat) (i:Nat))(ds:List D)(k:Nat)(h: ∀p∈ds,Rs k p=true): ∀(f i a:Nat) (o:Option D) (n:Nat),i+f=ds.length->a<=N.length->∃n',n<=n'/\((forGo kLst (.nm 3) zi1 f i ⟨[some (.lst L (nD N)),some (.lst l ds),some (.int (a:Nat)),o],[some (.lst l ds),some (.lst L (nD N)),some (.lst l ds)],n⟩).sq (J3 (Z1 (y0 2) (mCB [(y0 0)] lenD) eqD))).fin= .ok (.bool (way (N.map (·.2)) a (erL (ds.drop i)))) [.lst L (nD N), .lst l ds] n':=by
 intro f
 induction f with
 |zero=>
  intro i a o n hi ha
  refine⟨n,i4 _, ?_⟩
  unfold forGo
  erw[z3L,List.getElem?_eq_none (show ds.length<=i by lia),z4s,z3k,C6 (show ds.length<=i by lia),way,erL]
  left
  erw[X9,A3]
  rw[show((a:Int)==(N.length:Int))=(a==N.length) by rw[P9,beq_iff_eq,beq_iff_eq];lia]
 |succ f ih=>
  intro i a o n hi ha
  have hl:i<ds.length:=by lia
  have gd:=z0M _ (h _ (A2 hl))
  obtain⟨m1,g1,e1⟩:=z9d ds[i] (a:Nat) (N.length:Nat) n k (h _ (A2 hl))
  unfold forGo
  erw[z3L,List.getElem?_eq_getElem hl,asg,B3,A7]
  rw[z6K hl]
  unfold zi1
  left
  by_cases ha':a=N.length
  ·subst ha'
   refine⟨n,i4 _, ?_⟩
   rw[decide_eq_true (show((nD N).length:Int)<=(N.length:Int) by rw[X9];lia)]
   left
   erw[z4s,z3k]
   left
   erw[way,A3,B1,decide_false,E7]
   cases unP (er ds[i])<;>rfl
  ·rw[decide_eq_false (show ¬((nD N).length:Int)<=(a:Int) by rw[X9];lia)]
   have ha2:a<N.length:=by lia
   have ex:(List.map (·.2) N).getD a []=N[a].2:=by simp[ha2]
   left
   rw[show((nD N).length:Int)=(N.length:Int) by rw[X9],e1]
   cases hp:z31 (a:Nat) (N.length:Nat) ds[i] with
   |false=>
    refine⟨m1,g1, ?_⟩
    left
    erw[z4s,z3k]
    left
    erw[way]
    cases e:unP (er ds[i]) with
    |none=>rfl
    |some p=>
     have hd:=zhZ gd.1 e
     rw[hd] at hp⊢
     erw[ex]
     cases ha:N[a].2.any fun q=>PyData.eqv (er q.d) (er p.d) with
     |false=>simp
     |true=>rw[zcV (hO a ha2 p (z4u ha))] at hp;cases hp
   |true=>
    obtain⟨p,hd⟩:=z9h (z65 hp)
    left
    rw[zay ha2 hN]
    left
    rw[zbt gd]
    erw[way,hd,zfA,ex,A3,decide_eq_true ha2,C3]
    cases ha:N[a].2.any fun q=>PyData.eqv (er q.d) (er p.d) with
    |false=>
     refine⟨m1,g1, ?_⟩
     left
     erw[z4s,z3k]
     left
    |true=>
     have hm:=hO a ha2 p (z4u ha)
     obtain⟨n',g2,e2⟩:=ih (i+1) p.e.toNat (some p.d) m1 (by lia) (by have:=hm.1;have:=hm.2.1;lia)
     refine⟨n',by lia, ?_⟩
     have hp:((p.e.toNat:Nat):Int)=p.e:=by have:=hm.1;lia
     rw[hp] at e2
     erw[C3]
     rw[<-e2]
     left
     erw[Pz.d]
     left
     rfl
theorem zfF(L:Nat)(N:List (Nat×List Pz))(hN:N.length<=100)(hO: ∀i (h:i<N.length),∀p∈N[i].2,p.ok (N.length:Nat) (i:Nat))(t:D)(k n:Nat)(h:Rs k t=true): ∃n',n<=n'/\G3 [.lst L (nD N),t] n= .ok (.bool (zgi (N.map (·.2)) (er t))) [.lst L (nD N),t] n':=by
 unfold G3
 have e0:z07=(Y2 (sIf (z3d (U5 (z34 "list" (y0 1)))) (J3 (mC (.bool false))) sNx) (Y2 (Q8 (.nm 2) (mC (.int 0))) (Y2 (z35 (G2 (y0 1)) (.nm 3) zi0) (J3 (Z1 (y0 2) (mCB [(y0 0)] lenD) eqD))))):=rfl
 rw[e0]
 cases t with
 |lst l ds=>
  have hr: ∀p∈ds,Rs k p=true:=by erw[Rs,l0,decide_eq_true_eq,z08] at h;exact h.2.2
  obtain⟨n',g,e⟩:=zfD L l N hN hO ds k hr ds.length 0 0 none n (by lia) (by lia)
  refine⟨n',g, ?_⟩
  left
  exact e
 |ro _=>simp[Rs] at h
 |dct _ _ _=>simp[Rs] at h
 |obj _ _ _ _=>simp[Rs] at h
 |exc _=>simp[Rs] at h
 |fn _=>simp[Rs] at h
 |fdc _ _=>simp[Rs] at h
 |_=>refine⟨n,i4 _, ?_⟩;left;rfl
theorem zfG(L:Nat)(N:List (Nat×List Pz))(hN:N.length<=100)(hO: ∀i (h:i<N.length),∀p∈N[i].2,p.ok (N.length:Nat) (i:Nat))(t:D)(k n:Nat)(h:Rs k t=true): ∃n',n<=n'/\z0K [.lst L (nD N),t] n= .ok (.bool (zgi (N.map (·.2)) (er t))) [.lst L (nD N),t] n':=by
 unfold z0K
 have e0:z2U=(Y2 (sIf (z3d (U5 (z34 "list" (y0 1)))) (J3 (mC (.bool false))) sNx) (Y2 (Q8 (.nm 2) (mC (.int 0))) (Y2 (z35 (G2 (y0 1)) (.nm 3) zi1) (J3 (Z1 (y0 2) (mCB [(y0 0)] lenD) eqD))))):=rfl
 rw[e0]
 cases t with
 |lst l ds=>
  have hr: ∀p∈ds,Rs k p=true:=by erw[Rs,l0,decide_eq_true_eq,z08] at h;exact h.2.2
  obtain⟨n',g,e⟩:=zfE L l N hN hO ds k hr ds.length 0 0 none n (by lia) (by lia)
  refine⟨n',g, ?_⟩
  left
  exact e
 |ro _=>simp[Rs] at h
 |dct _ _ _=>simp[Rs] at h
 |obj _ _ _ _=>simp[Rs] at h
 |exc _=>simp[Rs] at h
 |fn _=>simp[Rs] at h
 |fdc _ _=>simp[Rs] at h
 |_=>refine⟨n,i4 _, ?_⟩;left;rfl
noncomputable def rte(R:List (List Int))(a b:Int):Int:=(R.getD a.toNat []).getD b.toNat 0
noncomputable def rD(R:List (List Int)):List D:=R.map fun r=> .tup (iL r)
noncomputable def R10(R:List (List Int)):Prop:=R.length=10/\∀r∈R,r.length=10
theorem zbu: ∀{rs:List D},(∀r∈rs,Row r)->∃R:List (List Int),rs=rD R/\∀r∈R,r.length=10
 |[],_=>⟨[],rfl,fun _ h=>nomatch h⟩
 |r::rs,h=>by
  obtain⟨R,rfl,hR⟩:=zbu (rs:=rs) fun d hd=>h d (by simp[hd])
  obtain⟨ys,rfl,h1,h2⟩:=h r (by simp)
  obtain⟨bs,rfl⟩:=z94 h1
  exact⟨bs::R,rfl,fun r hr=>(i0.mp hr).elim (fun e=>e▸by simpa[iL] using h2) (hR r)⟩
theorem z9i{R:List (List Int)}(h:R10 R){a:Int}(h0:0<=a)(h1:a<=9):atI (rD R) a=some (.tup (iL (R.getD a.toNat []))):=by
 obtain⟨k,rfl⟩:=C4 h0
 have hk:k<R.length:=by have:=h.1;lia
 refine z1E (by lia) ?_
 simp[rD,hk]
theorem z9j{R:List (List Int)}(h:R10 R){a b:Int}(h0:0<=a)(h1:a<=9)(g0:0<=b)(g1:b<=9):atI (iL (R.getD a.toNat [])) b=some (.int (rte R a b)):=by
 obtain⟨k,rfl⟩:=C4 g0
 obtain⟨j,rfl⟩:=C4 h0
 have hj:j<R.length:=by have:=h.1;lia
 have hk:k<(R.getD j []).length:=by
  have:=h.2 R[j] (A2 hj)
  have e:R.getD j []=R[j]:=by simp[hj]
  rw[e];lia
 refine z1E (by lia) ?_
 have hk':k<(R[j]?.getD []).length:=by simpa using hk
 simp[iL,rte,hk']
noncomputable def cst(R:List (List Int)):Int->List Pz->Int
 |a,[]=>rte R a 9
 |a,p::r=>rte R a p.k+p.c+cst R p.k r
theorem z9k(R:List (List Int)): ∀(C:List Pz) (a:Int),cst R a C=(C.map (·.c)).sum+((List.zip (a::(C.map (·.k)++[9])) (C.map (·.k)++[9])).map fun q=>rte R q.1 q.2).sum
 |[],a=>by simp[cst]
 |p::r,a=>by
  erw[cst,z9k R r p.k,i6,r8,F8,List.sum_cons]
  lia
theorem zfH{i n:Nat}{a:Int}{m:M D}{σ tm:List (Option D)}(h:σ[i]? =some (some (.int a))):z5L i m ⟨σ,tm,n⟩=z0u m (zeM i a) ⟨σ,tm,n⟩:=by
 unfold z5L;erw[h]
theorem zfI{i:Nat}{a b:Int}{s:Stt}:zeM i a (.int b) s= .nx {s with σ:=s.σ.set i (some (.int (a+b)))}:=rfl
theorem zi2{C:List Pz}{i:Nat}(h:i<C.length):C.drop i=C[i]::C.drop (i+1):=C7 h
theorem zcW{C:List Pz}{i:Nat}(h:i<C.length):(psD C)[i]? =some C[i].d:=by simp[psD,h]
noncomputable def K8(C:List Pz):Prop:= ∀p∈C,0<=p.k/\p.k<=8
theorem z9l: ∀xs:List Int,z18 (iL xs)=some xs
 |[]=>rfl
 |x::xs=>by
  show(match z18 (iL xs) with|some ns=>some (x::ns)|none=>none)=_
  rw[z9l xs]
theorem zfJ{l:Nat}{xs:List Int}{s:Stt}:zcw [.lst l (iL xs)] s= .ok (.int xs.sum) s:=by
 erw[zcw,z9l];rfl
theorem z32{ws:List D}{l:Nat}:z1q ws none (some (l:Int))=ws.take l:=by
 unfold z1q
 rw[HT.sIx_nat,HT.sIx_none,E8,Nat.sub_zero]
 rcases T9 l ws.length with h|h
 ·rw[S8 h]
 ·rw[S6 h,P4,E3 h]
theorem z1p{ws:List D}{l:Nat}:z1q ws (some ((l:Int)+1)) none=ws.drop (l+1):=by
 rw[show((l:Int)+1)=((l+1:Nat):Int) by lia]
 unfold z1q
 rw[HT.sIx_nat,HT.sIx_none]
 rcases T9 (l+1) ws.length with h|h
 ·rw[S8 h]
  exact E3 (by rw[M9];lia)
 ·rw[S6 h,S3,T4,C6 h]
theorem zfK{ws:List D}:z1q ws (some 1) none=ws.drop 1:=by
 have:=z1p (ws:=ws) (l:=0)
 simpa using this
theorem z9m{K:ItK}{mt:M Bool}{me:M D}{p:D->D->Bool}{g:D->D->D}{items:List (D×D)}{its fr σ0 tm0:List (Option D)}{ol:Nat}(hk:its.length=K.k)(hol:σ0.length=ol)(hz:items.length<sizeLine)(hat: ∀i rest,K.at' i (its++rest)=some ((items[i]?).map fun q=> .tup [q.1,q.2]))
 (hmt: ∀q∈items,∀tm n,∃n',n<=n'/\mt ⟨some q.1::some q.2::fr,tm,n⟩= .ok (p q.1 q.2) ⟨some q.1::some q.2::fr,tm,n'⟩)
 (hme: ∀q∈items,p q.1 q.2=true->∀tm n,∃n',n<=n'/\me ⟨some q.1::some q.2::fr,tm,n⟩= .ok (g q.1 q.2) ⟨some q.1::some q.2::fr,tm,n'⟩):
 ∀(f i:Nat) (acc:List D) (o o':Option D) (n:Nat),i+f=items.length->acc.length<=i->∃n',n<=n'/\j0 K (.tp [.nm 0, .nm 1]) mt me ol f i acc.length ⟨o::o'::fr,(acc.reverse.map some)++(σ0++(its++tm0)),n⟩= .ok (.lst n' (acc++((items.drop i).filter fun q=>p q.1 q.2).map fun q=>g q.1 q.2)) ⟨σ0,tm0,n'+1⟩:=by
 intro f
 induction f with
 |zero=>
  intro i acc o o' n hi ha
  have hi:i=items.length:=by lia
  refine⟨n,i4 _, ?_⟩
  have l1:(acc.reverse.map some).length=acc.length:=by simp
  have e1:((acc.reverse.map some)++(σ0++(its++tm0))).drop (acc.length+ol)=its++tm0:=by
   rw[<-r6];exact Y6 _ _ _ (by simp[hol])
  have e0:K.at' i (its++tm0)=some none:=by
   rw[hat,List.getElem?_eq_none (show items.length<=i by lia)];rfl
  unfold j0
  erw[e1,e0]
  rw[J2 _ _ _ l1]
  have e2:(acc.reverse.map some).reverse=acc.map some:=by simp
  rw[e2,J5]
  erw[Res.ok.injEq,Stt.mk.injEq,and_true,C6 (show items.length<=i by lia),S7,l9,l3,true_and]
  constructor
  ·rw[Y6 _ _ _ l1,J2 _ _ _ hol]
  ·have:((acc.reverse.map some)++(σ0++(its++tm0))).drop (acc.length+ol+K.k)=(((acc.reverse.map some)++(σ0++(its++tm0))).drop (acc.length+ol)).drop K.k:=by rw[D0]
   rw[this,e1]
   exact Y6 _ _ _ hk
 |succ f ih=>
  intro i acc o o' n hi ha
  have hlt:i<items.length:=by lia
  have e1:((acc.reverse.map some)++(σ0++(its++tm0))).drop (acc.length+ol)=its++tm0:=by
   rw[<-r6];exact Y6 _ _ _ (by simp[hol])
  have e0:K.at' i (its++tm0)=some (some (.tup [items[i].1,items[i].2])):=by
   rw[hat,List.getElem?_eq_getElem hlt];rfl
  obtain⟨n1,hn1,h1⟩:=hmt items[i] (A2 hlt) ((acc.reverse.map some)++(σ0++(its++tm0))) n
  rw[C7 hlt,S5]
  unfold j0
  erw[e1,e0,asg,asgL,A7,B3,h1]
  cases hp:p items[i].1 items[i].2 with
  |false=>
   obtain⟨n2,hn2,h2⟩:=ih (i+1) acc (some items[i].1) (some items[i].2) n1 (by lia) (by lia)
   exact⟨n2,by lia,h2⟩
  |true=>
   obtain⟨n2,hn2,h2⟩:=hme items[i] (A2 hlt) hp ((acc.reverse.map some)++(σ0++(its++tm0))) n1
   obtain⟨n3,hn3,h3⟩:=ih (i+1) (acc++[g items[i].1 items[i].2]) (some items[i].1) (some items[i].2) n2 (by lia) (by simp;lia)
   refine⟨n3,by lia, ?_⟩
   erw[if_pos (show acc.length<sizeLine by lia),h2]
   erw[m7,l8,t5,D8,B9,A9,B2,m8,B8,i6,l9,r8,r6,if_true] at h3⊢
   exact h3
theorem zaE{mi:M ItK}{K:ItK}{mt:M Bool}{me:M D}{p:D->D->Bool}{g:D->D->D}{items:List (D×D)}{its:List (Option D)}{ix:List Nat}{s:Stt}{σ tm:List (Option D)}{n:Nat}(hc:mi s= .ok K ⟨σ,its++tm,n⟩)(hk:its.length=K.k)(hz:items.length<sizeLine)(hat: ∀i rest,K.at' i (its++rest)=some ((items[i]?).map fun q=> .tup [q.1,q.2]))(hlen:K.len (its++tm)=items.length)
 (hmt: ∀q∈items,∀tm n,∃n',n<=n'/\mt ⟨some q.1::some q.2::(ix.map fun i=>(σ[i]?).getD none),tm,n⟩= .ok (p q.1 q.2) ⟨some q.1::some q.2::(ix.map fun i=>(σ[i]?).getD none),tm,n'⟩)
 (hme: ∀q∈items,p q.1 q.2=true->∀tm n,∃n',n<=n'/\me ⟨some q.1::some q.2::(ix.map fun i=>(σ[i]?).getD none),tm,n⟩= .ok (g q.1 q.2) ⟨some q.1::some q.2::(ix.map fun i=>(σ[i]?).getD none),tm,n'⟩):
 ∃n',n<=n'/\W3 mi (.tp [.nm 0, .nm 1]) mt me 2 ix s= .ok (.lst n' ((items.filter fun q=>p q.1 q.2).map fun q=>g q.1 q.2)) ⟨σ,tm,n'+1⟩:=by
 obtain⟨n',h2,h3⟩:=z9m (K:=K) (mt:=mt) (me:=me) (p:=p) (g:=g) (σ0:=σ) (tm0:=tm) hk rfl hz hat hmt hme items.length 0 [] none none n (by simp) (by simp)
 refine⟨n',h2, ?_⟩
 unfold W3
 erw[bd,hc,hlen]
 erw[l9,B2,m8,t5,E8] at h3
 exact h3
theorem zcX{i:Nat}{ds es:List D}:zeP i ds es=((ds.zip es)[i]?).map fun q=> .tup [q.1,q.2]:=by
 unfold zeP List.zip
 rw[List.getElem?_zipWith]
 cases ds[i]? <;>cases es[i]? <;>rfl
noncomputable def coM:MS:=(Y2 (z5L 3 (Z1 (Z1 (Z1 (y0 1) (y0 4) ixD) (y0 7) ixD) (y0 8) J1)) (Q8 (.nm 4) (y0 7)))
theorem zcY(net:D)(R:List (List Int))(hR:R10 R)(l:Nat)(C:List Pz)(hC:K8 C): ∀(f i:Nat) (tot a:Int) (o5 o6 o7 o8:Option D) (n:Nat),i+f=C.length->0<=a->a<=9->((forGo kLst (.tp [(.nm 5),(.nm 6),(.nm 7),(.nm 8)]) coM f i ⟨[some net,some (.tup (rD R)),some (.lst l (psD C)),some (.int tot),some (.int a),o5,o6,o7,o8],[some (.lst l (psD C)),some net,some (.tup (rD R)),some (.lst l (psD C))],n⟩).sq (J3 (Z1 (y0 3) (Z1 (Z1 (y0 1) (y0 4) ixD) (mC (.int 9)) ixD) J1))).fin= .ok (.int (tot+cst R a (C.drop i))) [net, .tup (rD R), .lst l (psD C)] n:=by
 intro f
 induction f with
 |zero=>
  intro i tot a o5 o6 o7 o8 n hi a0 a1
  unfold forGo
  have e:(psD C)[i]? =none:=List.getElem?_eq_none (by simp[psD];lia)
  erw[z3L,e,z4s,z3k,C6 (show C.length<=i by lia),cst]
  left
  rw[z9i hR a0 a1]
  left
  rw[z9j hR a0 a1 (by decide) (by decide)]
  left
 |succ f ih=>
  intro i tot a o5 o6 o7 o8 n hi a0 a1
  have hl:i<C.length:=by lia
  obtain⟨k0,k1⟩:=hC _ (A2 hl)
  unfold forGo
  erw[z3L,zcW hl,Pz.d,asg,asgL,B3,A7]
  unfold coM
  rw[zi2 hl]
  left
  rw[zfH rfl]
  left
  rw[z9i hR a0 a1]
  left
  rw[z9j hR a0 a1 k0 (by lia)]
  left
  rw[zfI]
  left
  have h:=ih (i+1) (tot+(rte R a C[i].k+C[i].c)) C[i].k (some (.int C[i].e)) (some (.tup (iL C[i].ss))) (some (.int C[i].k)) (some (.int C[i].c)) n (by lia) k0 (by lia)
  erw[cst]
  rw[show tot+(rte R a C[i].k+C[i].c+cst R C[i].k (C.drop (i+1)))=tot+(rte R a C[i].k+C[i].c)+cst R C[i].k (C.drop (i+1)) by lia]
  exact h
theorem zaF(net:D)(R:List (List Int))(hR:R10 R)(l:Nat)(C:List Pz)(hC:K8 C)(n:Nat):j5 [net, .tup (rD R), .lst l (psD C)] n= .ok (.int (cst R 9 C)) [net, .tup (rD R), .lst l (psD C)] n:=by
 have e:=zcY net R hR l C hC (psD C).length 0 0 9 none none none none n (by simp[psD]) (by decide) (by decide)
 unfold j5
 have e0:X4=(Y2 (Q8 (.nm 3) (mC (.int 0))) (Y2 (Q8 (.nm 4) (mC (.int 9))) (Y2 (z35 (G2 (y0 2)) (.tp [(.nm 5),(.nm 6),(.nm 7),(.nm 8)]) coM) (J3 (Z1 (y0 3) (Z1 (Z1 (y0 1) (y0 4) ixD) (mC (.int 9)) ixD) J1))))):=rfl
 rw[e0]
 left
 erw[L9,E8] at e
 exact e
theorem zaG(R:List (List Int))(hR:R10 R)(l:Nat)(C:List Pz)(hC:K8 C)(hl:C.length<=2000)(n:Nat): ∃n',n<=n'/\j6 [.tup (rD R), .lst l (psD C)] n= .ok (.int (cst R 9 C)) [.tup (rD R), .lst l (psD C)] n':=by
 have lp:(psD C).length=C.length:=by simp[psD]
 obtain⟨n1,a1,e1⟩:=z0V (mc:=y0 1) (mt:=rt true) (me:=Z1 (y0 0) (mC (.int 2)) ixD) (p:=fun _=>true) (g:=fun d=>match d with| .tup [_,_,k,_]=>k|_=> .non) (l:=l) (ds:=psD C) (ix:=[]) (s:=⟨[some (.tup (rD R)),some (.lst l (psD C)),none],[some (.lst n [.int 9]),some (.tup (rD R)),some (.lst l (psD C))],n+1⟩) (σ:=[some (.tup (rD R)),some (.lst l (psD C)),none]) (tm:=[some (.lst n [.int 9]),some (.tup (rD R)),some (.lst l (psD C))]) (n:=n+1) (by left) (by rw[lp,zl];lia) (fun d _ tm n=>⟨n,i4 _,rfl⟩) (fun d hd _ tm n=>by
  obtain⟨p,hp,rfl⟩:=A4.mp hd
  refine⟨n,i4 _, ?_⟩
  erw[Pz.d]
  left)
 have m1:((psD C).filter fun _=>true).map (fun d=>match d with| .tup [_,_,k,_]=>k|_=>D.non)=iL (C.map (·.k)):=by
  rw[z1J];erw[psD,iL,L7];rfl
 rw[m1] at e1
 unfold j6 X5
 left
 rw[e1]
 left
 rw[K6 (by rw[zl];simp[iL];lia)]
 left
 rw[K6 (by rw[zl];simp[iL];lia)]
 left
 have w0:[D.int 9]++iL (C.map (·.k))++[D.int 9]=iL (9::(C.map (·.k)++[9])):=by simp[iL]
 have w1:D.int 9::(iL (C.map (·.k))++[D.int 9])=iL (9::(C.map (·.k)++[9])):=by simp[iL]
 try rw[w0]
 try rw[w1]
 generalize hW:(9::(C.map (·.k)++[9]):List Int)=W
 have hW9: ∀w∈W,0<=w/\w<=9:=by
  subst hW
  intro w hw
  erw[i0,i3,A4,l6,or_false] at hw
  rcases hw with rfl|⟨p,hp,rfl⟩|rfl
  ·decide
  ·have:=hC p hp;lia
  ·decide
 have hWl:W.length<=3000:=by subst hW;simp;lia
 have dW:(iL W).drop 1=iL (W.drop 1):=by simp[iL]
 obtain⟨n2,a2,e2⟩:=z0V (mc:=y0 1) (mt:=rt true) (me:=Z1 (y0 0) (mC (.int 3)) ixD) (p:=fun _=>true) (g:=fun d=>match d with| .tup [_,_,_,k]=>k|_=> .non) (l:=l) (ds:=psD C) (ix:=[]) (s:=⟨[some (.tup (rD R)),some (.lst l (psD C)),some (.lst (n1+1+1+1) (iL W))],[some (.tup (rD R)),some (.lst l (psD C))],n1+1+1+1+1⟩) (σ:=[some (.tup (rD R)),some (.lst l (psD C)),some (.lst (n1+1+1+1) (iL W))]) (tm:=[some (.tup (rD R)),some (.lst l (psD C))]) (n:=n1+1+1+1+1) (by left) (by rw[lp,zl];lia) (fun d _ tm n=>⟨n,i4 _,rfl⟩) (fun d hd _ tm n=>by
  obtain⟨p,hp,rfl⟩:=A4.mp hd
  refine⟨n,i4 _, ?_⟩
  erw[Pz.d]
  left)
 have m2:((psD C).filter fun _=>true).map (fun d=>match d with| .tup [_,_,_,k]=>k|_=>D.non)=iL (C.map (·.c)):=by
  rw[z1J];erw[psD,iL,L7];rfl
 rw[m2] at e2
 obtain⟨n3,a3,e3⟩:=zaE (mi:=zdg [y0 2,mSl (y0 2) (some (mC (D.int 1))) none]) (K:=zgc) (mt:=rt true) (me:=Z1 (Z1 (y0 2) (y0 0) ixD) (y0 1) ixD) (p:=fun _ _=>true) (g:=fun a b=> .int (rte R (unI a) (unI b))) (items:=(iL W).zip (iL (W.drop 1))) (its:=[some (.lst (n2+1) (iL (W.drop 1))),some (.lst (n1+1+1+1) (iL W))]) (ix:=[0]) (s:=⟨[some (.tup (rD R)),some (.lst l (psD C)),some (.lst (n1+1+1+1) (iL W))],[some (.int (C.map (·.c)).sum),some (.tup (rD R)),some (.lst l (psD C))],n2+1⟩) (σ:=[some (.tup (rD R)),some (.lst l (psD C)),some (.lst (n1+1+1+1) (iL W))]) (tm:=[some (.int (C.map (·.c)).sum),some (.tup (rD R)),some (.lst l (psD C))]) (n:=n2+1+1) (by
  unfold zdg
  left
  rw[zfK,dW]
  rfl) rfl (by rw[S9,zl];simp[iL];lia) (fun i rest=>by
  show some (zeP i (iL W) (iL (W.drop 1)))=_
  rw[zcX]) (by
  show min (iL W).length (iL (W.drop 1)).length=_
  rw[S9]) (fun q _ tm n=>⟨n,i4 _,rfl⟩) (fun q hq _ tm n=>by
  obtain⟨a,b⟩:=q
  obtain⟨ha,hb⟩:=N6 hq
  obtain⟨a,ha',rfl⟩:=A4.mp ha
  obtain⟨b,hb',rfl⟩:=A4.mp hb
  obtain⟨a0,a1⟩:=hW9 a ha'
  obtain⟨b0,b1⟩:=hW9 b (E9 hb')
  refine⟨n,i4 _, ?_⟩
  erw[i6,l9,List.getElem?_cons_zero,A8]
  left
  rw[z9i hR a0 a1]
  left
  rw[z9j hR a0 a1 b0 b1]
  left
  rfl)
 have m3:(((iL W).zip (iL (W.drop 1))).filter fun _=>true).map (fun q=>D.int (rte R (unI q.1) (unI q.2)))=iL ((W.zip (W.drop 1)).map fun q=>rte R q.1 q.2):=by
  rw[R5.mpr fun _ _=>rfl]
  erw[iL,List.zip_map,L7];rfl
 rw[m3] at e3
 refine⟨n3+1,by lia, ?_⟩
 rw[e2]
 left
 rw[zfJ]
 left
 rw[e3]
 left
 rw[zfJ]
 left
 rw[z9k,<-hW]
 rfl
theorem zis{a b c d:D}:z1q [a,b,c,d] none (some 3)=[a,b,c]:=by
 rw[show(3:Int)=((3:Nat):Int) from rfl,z32];rfl
theorem zfL{ps:List Pz}:z1q (psD ps) none (some 149)=psD (ps.take 149):=by
 rw[show(149:Int)=((149:Nat):Int) from rfl,z32];simp[psD,R7]
noncomputable def hd3:D->D
 | .tup [a,b,c,_]=> .tup [a,b,c]
 |d=>d
noncomputable def pfD(i:Nat)(d:D):Bool:= !PyData.eqv (er (hd3 d)) (er (kD3 ⟨(i:Int)+1,[1039],8,0⟩))
theorem zfM(p:Pz):Gd (kD3 p)/\(er (kD3 p)).depth<=2:=by
 obtain⟨h1,h2,h3⟩:=z4p p.ss
 refine⟨⟨?_, ?_⟩, ?_⟩
 ·erw[kD3,Mi.Q4,plainL,h1,E2]
 ·erw[kD3,er,erL,PyData.canLay0,PyData.canLayAll0,h2,E2]
 ·erw[kD3,er,erL,PyData.depth,PyData.depthAll,h3];decide
theorem zi3{p q:Pz}{s:Stt}:neD (kD3 p) (kD3 q) s= .ok (.bool (!PyData.eqv (er (kD3 p)) (er (kD3 q)))) s:=by
 obtain⟨⟨a1,a2⟩,a3⟩:=zfM p
 obtain⟨⟨b1,b2⟩,b3⟩:=zfM q
 exact zgf (by erw[eqC,a1,a2,b1,b2,E2,C3,decide_eq_true_eq];lia)
theorem z03{l m:Nat}{ps:List Pz}(h:l≠m)(d:D):rp (pl l d) (.lst m (psD ps))= .lst m (psD ps):=Z9 fun hk=>by
 erw[y9,X6,i0,l6,or_false] at hk;exact h hk
theorem z9n(f:D->Bool)(ps:List Pz):(psD ps).filter f=psD (ps.filter fun p=>f p.d):=by
 erw[psD,List.filter_map];rfl
noncomputable def chM:MS:=(Y2 (Q8 (.nm 4) (W3 (G2 (mSl (y0 3) none (some (mC (.int 149))))) (.nm 0) (g9 (Z1 (mSl (y0 0) none (some (mC (.int 3)))) (mCB [(Z1 (y0 1) (mC (.int 1)) J1),(mCB [(mC (.int 1039))] K9),(mC (.int 8))] K9) neD)) (y0 0) 1 [2]))
 (z2B (z1S (y0 1) [(mCB [(Z1 (y0 4) (mCB [(mCB [(Z1 (y0 2) (mC (.int 1)) J1),(mCB [(mC (.int 1039))] K9),(mC (.int 8)),(y0 2)] K9)] lstM) J1)] zah)] z7b)))
noncomputable def chP(i:Nat):Pz:=⟨(i:Int)+1,[1039],8,i⟩
theorem zcZ(net:D)(L1 i pl0:Nat)(ps:List Pz)(A:List (Nat×List Pz))(hA:A.length<=100)(fN: ∀d,rp (pl L1 d) net=net)(o4:Option D)(n:Nat)(hp:pl0<L1)(hL:L1<n):
 ∃(qs fs:List Pz) (k m n':Nat),qs.length<=150/\qs≠[]/\(∀q∈qs,q∈ps\/q=chP i)/\n<=k/\k<n'/\n<=m/\chM ⟨[some net,some (.lst L1 (nD A)),some (.int (i:Nat)),some (.lst pl0 (psD ps)),o4],[some net,some net],n⟩= .nx ⟨[some net,some (.lst L1 (nD (A++[(k,qs)]))),some (.int (i:Nat)),some (.lst pl0 (psD ps)),some (.lst m (psD fs))],[some net,some net],n'⟩:=by
 obtain⟨n1,h1,h2⟩:=z0V (mc:=mSl (y0 3) none (some (mC (.int 149)))) (mt:=g9 (Z1 (mSl (y0 0) none (some (mC (.int 3)))) (mCB [(Z1 (y0 1) (mC (.int 1)) J1),(mCB [(mC (.int 1039))] K9),(mC (.int 8))] K9) neD)) (me:=y0 0) (p:=pfD i) (g:=id) (l:=n) (ds:=psD (ps.take 149)) (ix:=[2]) (s:=⟨[some net,some (.lst L1 (nD A)),some (.int (i:Nat)),some (.lst pl0 (psD ps)),o4],[some net,some net],n⟩) (σ:=[some net,some (.lst L1 (nD A)),some (.int (i:Nat)),some (.lst pl0 (psD ps)),o4]) (tm:=[some net,some net]) (n:=n+1) (by left;rw[zfL]) (by rw[zl];simp[psD];lia) (fun d hd tm n=>by
  obtain⟨p,hp,rfl⟩:=A4.mp hd
  refine⟨n,i4 _, ?_⟩
  erw[i6,l9,List.getElem?_cons_zero,List.getElem?_cons_succ,A8]
  erw[Pz.d]
  left
  rw[zis,show D.tup [.int p.e, .tup (iL p.ss), .int p.k]=kD3 p from rfl,show D.tup [.int ((i:Int)+1), .tup [.int 1039], .int 8]=kD3 ⟨(i:Int)+1,[1039],8,0⟩ from rfl,zi3]
  left
  rfl) (fun d hd _ tm n=>by
  refine⟨n,i4 _, ?_⟩
  erw[i6,l9,List.getElem?_cons_zero,List.getElem?_cons_succ,A8]
  left
  rfl)
 rw[u01,z9n] at h2
 obtain⟨qs,q1,q2,q3⟩:=z99 ((ps.take 149).filter (fun p=>pfD i p.d)++[chP i])
 have hfl:((ps.take 149).filter (fun p=>pfD i p.d)).length<=149:=C0 (List.length_filter_le _ _) (by simp;lia)
 have ea:psD ((ps.take 149).filter (fun p=>pfD i p.d))++[D.tup [.int ((i:Int)+1), .tup [.int 1039], .int 8, .int (i:Nat)]]=psD ((ps.take 149).filter (fun p=>pfD i p.d)++[chP i]):=by simp[psD,chP,Pz.d,iL]
 refine⟨qs,(ps.take 149).filter (fun p=>pfD i p.d),n1+1+1+1,n1,n1+1+1+1+1,by rw[q2,m7];erw[l8,t5];lia,fun e=>by rw[e] at q2;simp at q2,fun q hq=> ?_,by lia,by lia,by lia, ?_⟩
 ·rcases i3.mp (q3 q hq) with h|h
  ·exact .inl (D9 (R0.mp h).1)
  ·exact .inr (m9.mp h)
 unfold chM
 left
 rw[h2]
 left
 rw[K6 (by rw[zl];simp[psD];lia)]
 left
 rw[ea,zbq,q1]
 left
 rw[zar ⟨by rw[X9,zl];lia,by erw[y9,X6,i0,l6,or_false];lia⟩]
 left
 erw[fN,z03 (show L1≠pl0 by lia),z03 (show L1≠n1 by lia),z64]
theorem zi4:zad.k=1:=rfl
noncomputable def enI(N:List (Nat×List Pz))(i:Nat):D:= .tup [.int (i:Nat),(nD N).getD i .non]
theorem zbv{N:List (Nat×List Pz)}{i:Nat}(h:i<N.length):(nD N).getD i .non= .lst N[i].1 (psD N[i].2):=by simp[nD,h]
theorem zfN{L:Nat}{N:List (Nat×List Pz)}{i:Nat}{tm:List (Option D)}:zad.at' i (some (.lst L (nD N))::tm)=some (if i<N.length then some (enI N i) else none):=by
 show some (((nD N)[i]?).map fun d=>D.tup [.int (i:Nat),d])=_
 by_cases h:i<N.length
 ·rw[if_pos h,enI,zbv h];simp[nD,h]
 ·rw[if_neg h];simp[nD,h]
theorem zfO(L:Nat)(N:List (Nat×List Pz))(n:Nat)(hN:N.length<=24)(hO: ∀i (h:i<N.length),∀p∈N[i].2,p.ok (N.length:Nat) (i:Nat))(hL:L<n)(hl: ∀q∈N,q.1<n):
 ∃(A:List (Nat×List Pz)) (n':Nat),A.length=N.length/\(∀q∈A,q.2.length<=150/\q.2≠[])/\(∀i (h:i<A.length),∀p∈A[i].2,p.ok (N.length:Nat) (i:Nat))/\n<n'/\(∀q∈A,n<q.1/\q.1<n')/\K4 [.lst L (nD N)] n= .ok (.lst n (nD A)) [.lst L (nD N)] n':=by
 have fN: ∀d,rp (pl n d) (.lst L (nD N))= .lst L (nD N):=fun d=>Z9 fun h=>B1 _ (z2Z hL hl n h)
 obtain⟨s',e,A,o2,o3,o4,n2,h1,h2,h3,h4,h5,rfl⟩:=z95 (K:=zad) (g:= .tp [.nm 2, .nm 3]) (b:=chM) (item:=enI N) (N:=N.length) (P:=fun i s=> ∃(A:List (Nat×List Pz)) (o2 o3 o4:Option D) (n2:Nat),A.length=i/\(∀q∈A,q.2.length<=150/\q.2≠[])/\(∀i (h:i<A.length),∀p∈A[i].2,p.ok (N.length:Nat) (i:Nat))/\n<n2/\(∀q∈A,n<q.1/\q.1<n2)/\s=⟨[some (.lst L (nD N)),some (.lst n (nD A)),o2,o3,o4],[some (.lst L (nD N)),some (.lst L (nD N))],n2⟩)
  (by rintro i s ⟨A,o2,o3,o4,n2,_,_,_,_,_,rfl⟩;exact zfN)
  (by
   rintro i hi s ⟨A,o2,o3,o4,n2,h1,h2,h3,h4,h5,rfl⟩
   refine⟨[some (.lst L (nD N)),some (.lst n (nD A)),some (.int (i:Nat)),some (.lst N[i].1 (psD N[i].2)),o4],by rw[enI,zbv hi];rfl, ?_⟩
   obtain⟨qs,fs,k,m,n',g1,g2,g3,g4,g5,g6,e⟩:=zcZ (.lst L (nD N)) n i N[i].1 N[i].2 A (by lia) fN o4 n2 (hl _ (A2 hi)) h4
   refine⟨_,e,A++[(k,qs)],_,_,_,n',by simp[h1],fun q hq=> ?_,fun j hj p hp=> ?_,by lia,fun q hq=> ?_,rfl⟩
   ·rcases i3.mp hq with hq|hq
    ·exact h2 q hq
    ·rw[m9.mp hq];exact⟨g1,g2⟩
   ·by_cases hj':j<A.length
    ·rw[O9 hj'] at hp
     exact h3 j hj' p hp
    ·have ej:j=A.length:=by simp at hj;lia
     subst ej
     rw[O7 (i4 _)] at hp
     erw[S3,List.getElem_cons_zero] at hp
     rw[h1]
     rcases g3 p hp with q|rfl
     ·exact hO i hi p q
     ·exact⟨by show(i:Int)<(i:Int)+1;lia,by show(i:Int)+1<=N.length;lia,⟨by simp[chP],by simp[chP],fun b hb=>by have:=m9.mp hb;lia⟩,⟨by show(0:Int)<=8;decide,by show(8:Int)<=8;decide⟩,by show(0:Int)<=(i:Int);lia,by show(i:Int)<=99999;lia⟩
   ·rcases i3.mp hq with hq|hq
    ·have:=h5 q hq;lia
    ·rw[m9.mp hq];exact⟨by show n<k;lia,g5⟩)
  N.length 0 ⟨[some (.lst L (nD N)),some (.lst n (nD [])),none,none,none],[some (.lst L (nD N)),some (.lst L (nD N))],n+1⟩ (by lia) ⟨[],none,none,none,n+1,rfl,(by intro q hq;cases hq),(fun i h=>by simp at h),by lia,(by intro q hq;cases hq),rfl⟩
 refine⟨A,n2,h1,h2,h3,h4,h5, ?_⟩
 unfold K4
 have e0:z1m=(Y2 (Q8 (.nm 1) (mCB [] lstM)) (Y2 (z35 (zde [(y0 0)]) (.tp [(.nm 2),(.nm 3)]) chM) (J3 (y0 1)))):=rfl
 rw[e0]
 have em: ∀σ tm n,zde [y0 0] ⟨some (.lst L (nD N))::σ,tm,n⟩= .ok zad ⟨some (.lst L (nD N))::σ,some (.lst L (nD N))::tm,n⟩:=fun σ tm n=>rfl
 left
 rw[em]
 left
 rw[show zad.len (some (.lst L (nD N))::[some (.lst L (nD N))])=N.length from X9,show(D.lst n [])= .lst n (nD []) from rfl,e]
 erw[zi4,z3k]
 left
theorem zd0{C:List Pz}{p:Pz}:atI (psD (C++[p])) (-1)=some p.d:=by
 unfold atI ixN
 have hl:(psD (C++[p])).length=C.length+1:=by simp[psD]
 rw[if_neg (by decide),if_pos (by rw[hl];lia)]
 erw[P6]
 rw[hl,show((-1:Int)+((C.length+1:Nat):Int)).toNat=C.length by lia]
 simp[psD]
theorem zd1{C:List Pz}{p:Pz}:psD C++[p.d]=psD (C++[p]):=by simp[psD]
noncomputable def S24(C:List Pz):Prop:= ∀p∈C,p.ss.length<=24
noncomputable def ctM:MS:=(sIf (g9 (Z1 (y0 3) (mCB [(y0 1)] lenD) ltD)) (Y2 (z2B (z1S (y0 2) [(Z1 (Z1 (y0 1) (y0 3) ixD) (Z2 Z0 [(y0 0),(mCB [(Z1 (y0 1) (y0 3) ixD)] lenD)]) ixD)] z7b))
 (Q8 (.nm 3) (Z1 (Z1 (y0 2) (bd (mC (.int 1)) z6k) ixD) (mC (.int 0)) ixD))) sNx)
theorem zfP(l L k:Nat)(c x:Int)(hb:Bg c x)(N:List (Nat×List Pz))(hN:N.length<=24)(hE: ∀q∈N,q.2.length<=150/\q.2≠[])(hO: ∀i (h:i<N.length),∀p∈N[i].2,p.ok (N.length:Nat) (i:Nat))(hl:l<L)(hL:L<k)(hq: ∀q∈N,l<q.1/\q.1<k)(C:List Pz)(hC:S24 C)(hCl:C.length<=100)(a:Nat)(ha:a<=N.length)(t:Int)(n:Nat)(hk:k<n):
 ∃(C':List Pz) (a':Nat) (c' x':Int),Bg c' x'/\S24 C'/\C'.length<=C.length+1/\a'<=N.length/\ctM ⟨[some (.lst l [.int c, .int x]),some (.lst L (nD N)),some (.lst k (psD C)),some (.int (a:Nat)),some (.int t)],[some (.lst l [.int c, .int x]),some (.lst L (nD N))],n⟩= .nx ⟨[some (.lst l [.int c', .int x']),some (.lst L (nD N)),some (.lst k (psD C')),some (.int (a':Nat)),some (.int t)],[some (.lst l [.int c', .int x']),some (.lst L (nD N))],n⟩:=by
 have fN:=z0W hl fun q h=>(hq q h).1
 have fC: ∀d,rp (pl l d) (.lst k (psD C))= .lst k (psD C):=z03 (by lia)
 have gN: ∀d,rp (pl k d) (.lst L (nD N))= .lst L (nD N):=fun d=>Z9 fun h=>B1 _ (z2Z hL (fun q h=>(hq q h).2) k h)
 have gB: ∀d (c x:Int),rp (pl k d) (.lst l [.int c, .int x])= .lst l [.int c, .int x]:=fun d c x=>z28 (by lia)
 unfold ctM
 by_cases h:a<N.length
 ·obtain⟨h1,h2⟩:=hE _ (A2 h)
  have hp0:0<N[a].2.length:=List.length_pos_iff.mpr h2
  obtain⟨r,c1,x1,r0,r1,b1,e1⟩:=w6 l c x (N[a].2.length:Int) n hb (by lia) (by lia)
  obtain⟨p,hp,ep⟩:=zbm (ps:=N[a].2) r0 r1
  have ok:=hO a h p hp
  have fi: ∀d,rp (pl l d) (.lst N[a].1 (psD N[a].2))= .lst N[a].1 (psD N[a].2):=z03 (by have:=hq _ (A2 h);lia)
  refine⟨C++[p],p.e.toNat,c1,x1,b1,fun z hz=> ?_,by simp,by have:=ok.2.1;lia, ?_⟩
  ·rcases i3.mp hz with q|q
   ·exact hC z q
   ·rw[m9.mp q];exact ok.2.2.1.2.1
  have hpe:((p.e.toNat:Nat):Int)=p.e:=by have:=ok.1;lia
  left
  rw[decide_eq_true (show(a:Int)<((nD N).length:Int) by rw[X9];lia)]
  left
  rw[zay h (by lia)]
  left
  rw[zay h (by lia)]
  left
  rw[show(psD N[a].2).length=N[a].2.length by simp[psD]]
  rw[e1,Z5 rfl rfl rfl (fun q=>by left;try erw[fN,fC,fi];rfl) (fun q=>by left;try erw[fN,fC,fi];rfl)]
  left
  rw[ep]
  left
  rw[zar ⟨by rw[zl];simp[psD];lia,by erw[Pz.d,y9,labsL,z30,l3,l6,not_false_eq_true]⟩,zd1]
  left
  erw[gN,gB]
  try left
  rw[zd0]
  erw[Pz.d]
  left
  rw[hpe]
 ·refine⟨C,a,c,x,hb,hC,by lia,ha, ?_⟩
  left
  rw[decide_eq_false (show ¬(a:Int)<((nD N).length:Int) by rw[X9];lia)]
  left
theorem zbw(l L:Nat)(c x:Int)(hb:Bg c x)(N:List (Nat×List Pz))(hN:N.length<=24)(hE: ∀q∈N,q.2.length<=150/\q.2≠[])(hO: ∀i (h:i<N.length),∀p∈N[i].2,p.ok (N.length:Nat) (i:Nat))(hl:l<L)(n:Nat)(hL:L<n)(hq: ∀q∈N,l<q.1/\q.1<n):
 ∃(C:List Pz) (c' x':Int),Bg c' x'/\S24 C/\C.length<=24/\G9 [.lst l [.int c, .int x], .lst L (nD N)] n= .ok (.lst n (psD C)) [.lst l [.int c', .int x'], .lst L (nD N)] (n+1):=by
 obtain⟨s',e,C,a,c',x',o,b1,h1,h2,h3,rfl⟩:=z2W (P:=fun i s=> ∃(C:List Pz) (a:Nat) (c x:Int) (o:Option D),Bg c x/\S24 C/\C.length<=i/\a<=N.length/\s=⟨[some (.lst l [.int c, .int x]),some (.lst L (nD N)),some (.lst n (psD C)),some (.int (a:Nat)),o],[some (.lst l [.int c, .int x]),some (.lst L (nD N))],n+1⟩) (lo:=0) (N:=N.length) (g:= .nm 4) (b:=ctM) (by
  rintro i hi s ⟨C,a,c,x,o,b1,h1,h2,h3,rfl⟩
  refine⟨_,rfl, ?_⟩
  obtain⟨C',a',c',x',g1,g2,g3,g4,e⟩:=zfP l L n c x b1 N hN hE hO hl hL hq C h1 (by lia) a h3 (0+(i:Int)) (n+1) (by lia)
  exact⟨_,e,C',a',c',x',_,g1,g2,by lia,g4,rfl⟩) N.length 0 ⟨[some (.lst l [.int c, .int x]),some (.lst L (nD N)),some (.lst n (psD [])),some (.int (0:Nat)),none],[some (.lst l [.int c, .int x]),some (.lst L (nD N))],n+1⟩ (by lia) ⟨[],0,c,x,none,hb,(fun p hp=>nomatch hp),i4 _,by lia,rfl⟩
 refine⟨C,c',x',b1,h1,by lia, ?_⟩
 unfold G9
 have e0:z1l=(Y2 (Q8 (.nm 2) (mCB [] lstM)) (Y2 (Q8 (.nm 3) (mC (.int 0))) (Y2 (z35 (U1 [(mCB [(y0 1)] lenD)]) (.nm 4) ctM) (J3 (y0 2))))):=rfl
 rw[e0]
 left
 rw[show((nD N).length:Int)=(N.length:Int) by rw[X9],z2V (by lia)]
 left
 rw[C5]
 rw[show(D.lst n [])= .lst n (psD []) from rfl,show(D.int 0)= .int ((0:Nat):Int) from rfl,e]
 left
theorem zfQ{l m:Nat}{ps:List Pz}{s:Stt}:eqD (.lst l (psD ps)) (.lst m []) s= .ok (.bool ps.isEmpty) s:=by
 obtain⟨⟨h1,h2⟩,h3⟩:=zax ps
 rw[zil (by erw[eqC,Mi.Q4,plainL,er,erL,PyData.canLay0,PyData.canLayAll0,PyData.depth,PyData.depthAll,h1,h2,E2,C3,decide_eq_true_eq];lia)]
 cases ps<;>simp[er,erL,psD,PyData.eqv,PyData.eqvAll]
theorem z4v{bs:List Int}(h:bs.length<=900):Tr (.tup (iL bs))=true/\(er (.tup (iL bs))).depth<=1:=z6D (k:=0) (by simpa[iL] using h) fun e he=>by
 obtain⟨i,_,rfl⟩:=A4.mp he
 exact z19
theorem zaH{p:Pz}(h:p.ss.length<=24):Tr p.d=true/\(er p.d).depth<=2:=z6D (k:=1) (by simp) fun e he=>by
 erw[i0,l6,or_false] at he
 rcases he with rfl|rfl|rfl|rfl
 ·exact z19
 ·exact z4v (by lia)
 ·exact z19
 ·exact z19
theorem zi5{a b c d:D}(ha:Tr a=true/\(er a).depth<=1)(hb:Tr b=true/\(er b).depth<=1)(hc:Tr c=true/\(er c).depth<=1)(hd:Tr d=true/\(er d).depth<=1):Tr (.tup [a,b,c,d])=true/\(er (.tup [a,b,c,d])).depth<=2:=z6D (k:=1) (by simp) fun e he=>by
 erw[i0,l6,or_false] at he
 rcases he with rfl|rfl|rfl|rfl<;>assumption
theorem cu0{a b c d:D}:z1q [a,b,c,d] none (some 0)=[]:=by
 rw[show(0:Int)=((0:Nat):Int) from rfl,z32];rfl
theorem cu2{a b c d:D}:z1q [a,b,c,d] none (some 2)=[a,b]:=by
 rw[show(2:Int)=((2:Nat):Int) from rfl,z32];rfl
theorem zjc{a b c d:D}:z1q [a,b,c,d] (some 1) none=[b,c,d]:=by
 rw[show(1:Int)=((0:Nat):Int)+1 from rfl,z1p];rfl
theorem zjd{a b c d:D}:z1q [a,b,c,d] (some 3) none=[d]:=by
 rw[show(3:Int)=((2:Nat):Int)+1 from rfl,z1p];rfl
theorem zje{a b c d:D}:z1q [a,b,c,d] (some 4) none=[]:=by
 rw[show(4:Int)=((3:Nat):Int)+1 from rfl,z1p];rfl
theorem z3{a b c:D}{r:Int}(h0:0<=r)(h1:r<3):r=0\/r=1\/r=2:=by lia
theorem zfR(l L:Nat)(c x:Int)(hb:Bg c x)(C:List Pz)(hC:S24 C)(hl:C.length<=24)(hL:l<L)(n:Nat)(hn:L<n):
 ∃(ds:List D) (k:Nat) (c' x':Int) (n':Nat),Bg c' x'/\ds.length<=30/\(∀d∈ds,Tr d=true/\(er d).depth<=2)/\n<=k/\k<n'/\z1C [.lst l [.int c, .int x], .lst L (psD C)] n= .ok (.lst k ds) [.lst l [.int c', .int x'], .lst L (psD C)] n':=by
 have fC: ∀d,rp (pl l d) (.lst L (psD C))= .lst L (psD C):=z03 (by lia)
 have lC:(psD C).length=C.length:=by simp[psD]
 unfold z1C z4i
 left
 rw[zfQ]
 cases hE:C.isEmpty with
 |true=>
  left
  exact⟨_,_,c,x,_,hb,by simp,(fun d hd=>by rw[m9.mp hd];exact⟨rfl,by simp[er,erL,PyData.depth,PyData.depthAll]⟩),by lia,by lia,rfl⟩
 |false=>
  have h0:0<C.length:=by cases C with|nil=>simp at hE|cons b bs=>simp
  obtain⟨r,c1,x1,r0,r1,b1,e1⟩:=w6 l c x (C.length:Int) (n+1) hb (by lia) (by lia)
  obtain⟨w,c2,x2,w0,w1,b2,e2⟩:=w6 l c1 x1 3 (n+1+1) b1 (by decide) (by decide)
  obtain⟨p,hp,ep⟩:=zbm (ps:=C) r0 r1
  obtain⟨j,rfl⟩:=C4 r0
  have hps:=hC p hp
  have fI: ∀d (a b c:Int),rp (pl l d) (.lst (n+1) [.int a, .int b, .int c])= .lst (n+1) [.int a, .int b, .int c]:=fun d a b c=>by rw[J9 (by lia)];rfl
  left
  rw[lC,e1,Z5 rfl rfl rfl (fun q=>by left;try erw[fC];rfl) (fun q=>by left;try erw[fC];rfl)]
  left
  rw[e2,Z5 rfl rfl rfl (fun q=>by left;try erw[fC,fI];rfl) (fun q=>by left;try erw[fC,fI];rfl)]
  left
  have key: ∀(Y:D) (k1 k2:Nat),Tr Y=true/\(er Y).depth<=2->∀d∈(psD C).take j++[Y]++(psD C).drop (j+1),Tr d=true/\(er d).depth<=2:=fun Y _ _ hY d hd=>by
   have hm: ∀d∈psD C,Tr d=true/\(er d).depth<=2:=fun d hd=>by
    obtain⟨q,hq,rfl⟩:=A4.mp hd
    exact zaH (hC q hq)
   rcases i3.mp hd with hd|hd
   ·rcases i3.mp hd with hd|hd
    ·exact hm d (D9 hd)
    ·rw[m9.mp hd];exact hY
   ·exact hm d (E9 hd)
  have kl: ∀Y:D,((psD C).take j++[Y]++(psD C).drop (j+1)).length<=30:=fun Y=>by simp[lC];lia
  have z1: ∀Y:D,((psD C).take j).length+[Y].length<=sizeLine:=fun Y=>by rw[zl];simp[lC];lia
  have z2: ∀Y:D,((psD C).take j++[Y]).length+((psD C).drop (j+1)).length<=sizeLine:=fun Y=>by rw[zl];simp[lC];lia
  rcases(show w=0\/w=1\/w=2 by lia) with rfl|rfl|rfl
  ·rw[at0]
   left
   rw[ep]
   erw[Pz.d]
   left
   rw[cu0,z27 (by rw[zl];simp)]
   left
   rw[zjc,z27 (by rw[zl];simp)]
   left
   rw[z32,K6 (z1 _)]
   left
   rw[z1p,K6 (z2 _)]
   left
   exact⟨_,_,c2,x2,_,b2,kl _,key _ 0 0 (zi5 z63 (z4v (by lia)) z19 z19),by lia,by lia,rfl⟩
  ·rw[at1]
   left
   rw[ep]
   erw[Pz.d]
   left
   rw[cu2,z27 (by rw[zl];simp)]
   left
   rw[show(2:Int)+1=3 from rfl,zjd,z27 (by rw[zl];simp)]
   left
   rw[z32,K6 (z1 _)]
   left
   rw[z1p,K6 (z2 _)]
   left
   exact⟨_,_,c2,x2,_,b2,kl _,key _ 0 0 (zi5 z19 (z4v (by lia)) z63 z19),by lia,by lia,rfl⟩
  ·rw[at2]
   left
   rw[ep]
   erw[Pz.d]
   left
   rw[zis,z27 (by rw[zl];simp)]
   left
   rw[show(3:Int)+1=4 from rfl,zje,z27 (by rw[zl];simp)]
   left
   rw[z32,K6 (z1 _)]
   left
   rw[z1p,K6 (z2 _)]
   left
   exact⟨_,_,c2,x2,_,b2,kl _,key _ 0 0 (zi5 z19 (z4v (by lia)) z19 z63),by lia,by lia,rfl⟩
mutual
theorem zbx{l:Nat}{q:D}{g f:Nat->Option D}(hl:f l=some q)(hf: ∀k,k≠l->f k=g k)(hg: ∀k e,g k=some e->l∉y9 e): ∀d:D,rp g d=d->rp f d=rp (pl l q) d
 | .non,_=>rfl
 | .bool _,_=>rfl
 | .int _,_=>rfl
 | .str _,_=>rfl
 | .exc _,_=>rfl
 | .fn _,_=>rfl
 | .tup ds,h=>by erw[rp,D.tup.injEq] at h⊢;exact rpL_two hl hf hg ds h
 | .ro ds,h=>by erw[rp,D.ro.injEq] at h⊢;exact rpL_two hl hf hg ds h
 | .fdc ks vs,h=>by erw[rp,D.fdc.injEq,true_and] at h⊢;exact rpL_two hl hf hg vs h
 | .lst k ds,h=>by
  by_cases hk:k=l
  ·subst hk;erw[rp,hl,pl,if_true]
  ·erw[rp,hf k hk,pl,if_neg hk] at h⊢
   cases e:g k with
   |none=>rw[e] at h;erw[D.lst.injEq,true_and] at h⊢;exact rpL_two hl hf hg ds h
   |some x=>
    rw[e] at h
    have h:x= .lst k ds:=h
    subst h
    have:=hg k _ e
    erw[y9,i0,not_or] at this
    erw[D.lst.injEq,true_and]
    exact(rpL_id ds fun j hj=>by unfold pl;exact if_neg fun q:j=l=>this.2 (q▸hj)).symm
 | .dct k ks ds,h=>by
  by_cases hk:k=l
  ·subst hk;erw[rp,hl,pl,if_true]
  ·erw[rp,hf k hk,pl,if_neg hk] at h⊢
   cases e:g k with
   |none=>rw[e] at h;erw[D.dct.injEq,true_and] at h⊢;exact rpL_two hl hf hg ds h
   |some x=>
    rw[e] at h
    have h:x= .dct k ks ds:=h
    subst h
    have:=hg k _ e
    erw[y9,i0,i3,not_or] at this
    erw[D.dct.injEq,true_and]
    exact(rpL_id ds fun j hj=>by unfold pl;exact if_neg fun q:j=l=>this.2.2 (q▸hj)).symm
 | .obj k c ks ds,h=>by
  by_cases hk:k=l
  ·subst hk;erw[rp,hl,pl,if_true]
  ·erw[rp,hf k hk,pl,if_neg hk] at h⊢
   cases e:g k with
   |none=>rw[e] at h;erw[D.obj.injEq,true_and] at h⊢;exact rpL_two hl hf hg ds h
   |some x=>
    rw[e] at h
    have h:x= .obj k c ks ds:=h
    subst h
    have:=hg k _ e
    erw[y9,i0,not_or] at this
    erw[D.obj.injEq,true_and]
    exact(rpL_id ds fun j hj=>by unfold pl;exact if_neg fun q:j=l=>this.2 (q▸hj)).symm
theorem rpL_two{l:Nat}{q:D}{g f:Nat->Option D}(hl:f l=some q)(hf: ∀k,k≠l->f k=g k)(hg: ∀k e,g k=some e->l∉y9 e): ∀d:List D,rpL g d=d->rpL f d=rpL (pl l q) d
 |[],_=>rfl
 |d::ds,h=>by
  erw[rpL,List.cons.injEq] at h⊢
  exact⟨zbx hl hf hg d h.1,rpL_two hl hf hg ds h.2⟩
end
theorem z67{l:Nat}{q:D}{g f:Nat->Option D}(hl:f l=some q)(hf: ∀k,k≠l->f k=g k)(hg: ∀k e,g k=some e->l∉y9 e): ∀d:List (Option D),rpO g d=d->rpO f d=rpO (pl l q) d
 |[],_=>rfl
 |none::ds,h=>by
  erw[rpO,List.cons.injEq,true_and] at h⊢
  exact z67 hl hf hg ds h
 |some d::ds,h=>by
  erw[rpO,List.cons.injEq,Option.some.injEq] at h⊢
  exact⟨zbx hl hf hg d h.1,z67 hl hf hg ds h.2⟩
theorem zfS{t:D}{l L n' n:Nat}{b b' ds:List D}{σ tm:List (Option D)}{σ1 tm1:D->List (Option D)}(hb:labsL b=[])(hb':labsL b'=[])(hd:labsL ds=[])(hL:l≠L)(c1:rpO (pl L (.lst L ds)) σ=σ)(c2:rpO (pl L (.lst L ds)) tm=tm)(f1: ∀q,rpO (pl l q) σ=σ1 q)(f2: ∀q,rpO (pl l q) tm=tm1 q)(e1:σ1 (.lst l b)=σ:=by rfl)(e2:tm1 (.lst l b)=tm:=by rfl):
 z1w (.ok t [.lst l b', .lst L ds] n') [.lst l b, .lst L ds] ⟨σ,tm,n⟩= .ok t ⟨σ1 (.lst l b'),tm1 (.lst l b'),n'⟩:=by
 have fd: ∀(x:List D) (k:Nat),labsL x=[]->findL k [.lst l x, .lst L ds]=if k=l then some (.lst l x) else pl L (.lst L ds) k:=fun x k hx=>by
  have z1:findL k x=none:=findL_none x (by rw[hx];exact l6)
  have z2:findL k ds=none:=findL_none ds (by rw[hd];exact l6)
  erw[findL,W9,pl,z1,z2]
  by_cases h:l=k
  ·rw[if_pos h,if_pos h.symm]
  ·rw[if_neg h,if_neg (show ¬k=l from fun q=>h q.symm)]
   by_cases h2:L=k
   ·rw[if_pos h2,if_pos h2.symm]
   ·rw[if_neg h2,if_neg (show ¬k=L from fun q=>h2 q.symm)]
 have hg: ∀k e,pl L (.lst L ds) k=some e->l∉y9 e:=fun k e h=>by
  unfold pl at h
  split at h
  ·cases h;erw[y9,hd,i0,l6,or_false];exact hL
  ·cases h
 have go: ∀(x:List D) (S:List (Option D)),labsL x=[]->rpO (pl L (.lst L ds)) S=S->rpO (fun k=>findL k [.lst l x, .lst L ds]) S=rpO (pl l (.lst l x)) S:=fun x S hx hS=>
  z67 (g:=pl L (.lst L ds)) (by rw[fd x l hx,if_pos rfl]) (fun k hk=>by rw[fd x k hx,if_neg hk]) hg S hS
 rw[z5l,go b' σ hb' c1,go b' tm hb' c2,f1,f2]
 ·intro k hk
  rw[fd b' k hb']
  erw[labsL,y9,hb,hd,l3,r8,m8,i0,l6,or_false] at hk
  by_cases h:k=l
  ·rw[if_pos h];rfl
  ·rw[if_neg h]
   rcases hk with hk|hk
   ·exact absurd hk h
   ·subst hk;erw[pl,if_true,F7]
 ·intro h
  have:b'=b:=by injection h with h _;injection h
  subst this
  rw[go b' σ hb' c1,go b' tm hb' c2,f1,f2]
  exact⟨e1,e2⟩
theorem z9o{n0:Nat}{me:M D}{B:List D->Prop}{PL:Nat->List D->Prop}{lo:Int}{N:Nat}{fr σ0 tm0:List D->List (Option D)}{ol:Nat}(hol: ∀b,(σ0 b).length=ol)(hz:N<sizeLine)
 (hme: ∀(acc b:List D) (m:Nat),acc.length<N->n0<=m->B b->PL m acc->∃y b' m',PL m' (acc++[y])/\B b'/\m<=m'/\me ⟨some (.int (lo+(acc.length:Int)))::fr b,(acc.reverse.map some)++(σ0 b++tm0 b),m⟩= .ok y ⟨some (.int (lo+(acc.length:Int)))::fr b',(acc.reverse.map some)++(σ0 b'++tm0 b'),m'⟩):
 ∀(f:Nat) (acc b:List D) (o:Option D) (n:Nat),n0<=n->acc.length+f=N->B b->PL n acc->∃ys b' n',ys.length=N/\PL n' ys/\B b'/\n<=n'/\j0 (z4W lo N) (.nm 0) (rt true) me ol f acc.length acc.length ⟨o::fr b,(acc.reverse.map some)++(σ0 b++tm0 b),n⟩= .ok (.lst n' ys) ⟨σ0 b',tm0 b',n'+1⟩:=by
 intro f
 induction f with
 |zero=>
  intro acc b o n hn0 hi hB hq
  have hi:acc.length=N:=by lia
  have l1:(acc.reverse.map some).length=acc.length:=by simp
  have e1:((acc.reverse.map some)++(σ0 b++tm0 b)).drop (acc.length+ol)=tm0 b:=by
   rw[<-r6];exact Y6 _ _ _ (by simp[hol])
  have e0:(z4W lo N).at' acc.length (tm0 b)=some none:=by
   have:=zbi lo N acc.length (tm0 b)
   rw[m8] at this
   rw[this,List.getElem?_eq_none (by simp[zae];lia)]
  refine⟨acc,b,n,by lia,hq,hB,i4 _, ?_⟩
  unfold j0
  erw[e1,e0]
  rw[J2 _ _ _ l1]
  have e2:(acc.reverse.map some).reverse=acc.map some:=by simp
  rw[e2,J5]
  erw[Res.ok.injEq,Stt.mk.injEq,and_true,true_and]
  constructor
  ·rw[Y6 _ _ _ l1,J2 _ _ _ (hol b)]
  ·exact e1
 |succ f ih=>
  intro acc b o n hn0 hi hB hq
  have hlt:acc.length<N:=by lia
  have e1:((acc.reverse.map some)++(σ0 b++tm0 b)).drop (acc.length+ol)=tm0 b:=by
   rw[<-r6];exact Y6 _ _ _ (by simp[hol])
  have e0:(z4W lo N).at' acc.length (tm0 b)=some (some (.int (lo+(acc.length:Int)))):=by
   have:=zbi lo N acc.length (tm0 b)
   rw[m8] at this
   rw[this]
   simp[zae,hlt]
  obtain⟨y,b1,n1,y2,y3,y4,h2⟩:=hme acc b n hlt hn0 hB hq
  obtain⟨ys,b2,n2,g0,g2,g3,g4,h3⟩:=ih (acc++[y]) b1 (some (.int (lo+(acc.length:Int)))) n1 (by lia) (by simp;lia) y3 y2
  refine⟨ys,b2,n2,g0,g2,g3,by lia, ?_⟩
  unfold j0
  erw[e1,e0,asg,A7,rt,if_pos (show acc.length<sizeLine by lia),h2]
  erw[m7,l8,t5,D8,B9,A9,B2,m8,B8,i6,l9,r8,r6] at h3
  erw[Stt.psh]
  exact h3
theorem zaI{ms:List (M D)}{me:M D}{B:List D->Prop}{PL:Nat->List D->Prop}{N:Nat}{ix:List Nat}{σ tm:List D->List (Option D)}{s:Stt}{b:List D}{n:Nat}(hc:Y4 ms s= .ok [.int (N:Int)] ⟨σ b,tm b,n⟩)(hN:N<100000)(hol: ∀b,(σ b).length=(σ []).length)(hB:B b)(h0:PL n [])
 (hme: ∀(acc b:List D) (m:Nat),acc.length<N->n<=m->B b->PL m acc->∃y b' m',PL m' (acc++[y])/\B b'/\m<=m'/\me ⟨some (.int (0+(acc.length:Int)))::(ix.map fun i=>((σ b)[i]?).getD none),(acc.reverse.map some)++(σ b++tm b),m⟩= .ok y ⟨some (.int (0+(acc.length:Int)))::(ix.map fun i=>((σ b')[i]?).getD none),(acc.reverse.map some)++(σ b'++tm b'),m'⟩):
 ∃ys b' n',ys.length=N/\PL n' ys/\B b'/\n<=n'/\W3 (U1 ms) (.nm 0) (rt true) me 1 ix s= .ok (.lst n' ys) ⟨σ b',tm b',n'+1⟩:=by
 obtain⟨ys,b',n',g0,g2,g3,g4,h3⟩:=z9o (n0:=n) (me:=me) (B:=B) (PL:=PL) (lo:=0) (N:=N) (fr:=fun b=>ix.map fun i=>((σ b)[i]?).getD none) (σ0:=σ) (tm0:=tm) (ol:=(σ b).length) (fun b'=>(hol b').trans (hol b).symm) (by rw[show sizeLine=16777216 from rfl];lia) hme N [] b none n (i4 _) (by simp) hB h0
 refine⟨ys,b',n',g0,g2,g3,g4, ?_⟩
 have e1:U1 ms s= .ok (z4W 0 N) ⟨σ b,tm b,n⟩:=by
  rw[z8X,hc,z1D,z2V (by lia)];simp
 unfold W3
 erw[bd,e1,zbh]
 erw[l9,B2,m8,t5] at h3
 exact h3
theorem z6L(self:FM)(K:Nat)(t:D)(ds:List D)(isl:Bool)(l:Nat)(c x:Int)(n:Nat)(hT:ds.length<=900/\∀d∈ds,Tr d=true)(hD: ∀d∈ds,(er d).depth<=K+1)(hb:Bg c x)(hn:l<n)
 (g1: ∀s,lenD [t] s= .ok (.int ds.length) s) (g2: ∀σ tm m,z77 [t] ⟨σ,tm,m⟩= .ok (.lst m ds) ⟨σ,tm,m+1⟩) (g3:isiAny ["tuple", "list"] t=some true) (g4:isiD "list" t=some isl) (g5: ∀m,f_l_whole [t] m= .ok (.bool false) [t] m) (rt1: ∀d,rp (pl l d) t=t) (g7: ∀k d,n<=k->rp (pl k d) t=t) (g8: ∀s,tupF [t] s= .ok (.tup ds) s)
 (hself: ∀d∈ds,∀c x n,Bg c x->l<n->∃v c' x' n',(Rs n v=true/\(er v).depth<=K+1)/\Bg c' x'/\n<=n'/\Up n' v/\self [.lst l [.int c, .int x],d] n= .ok v [.lst l [.int c', .int x'],d] n'):
 ∃t' c' x' n',(Rs n t'=true/\(er t').depth<=K+2)/\Bg c' x'/\n<=n'/\Up n' t'/\z0d 6 (z0q self) [.lst l [.int c, .int x],t] n= .ok t' [.lst l [.int c', .int x'],t] n':=by
 unfold z0q
 have lL:labsL ds=[]:=z1L hT.2
 walk_at "mh"
 obtain⟨w,c1,x1,hw0,hw1,b1,e1⟩:=w6 l c x 8 n hb (by decide) (by decide)
 rw[e1,Z5 rfl rfl rfl (fun q=>by walk_at "mh";first|(erw[rt1];rfl)|rfl) (fun q=>by walk_at "mh";first|(erw[rt1];rfl)|rfl)]
 try (walk_at "mh")
 obtain⟨o,c2,x2,n2,⟨ho,hod⟩,b2,hn2,uo,e2⟩:=z6C l c1 x1 n b1 (by lia)
 have ro1: ∀d,rp (pl l d) o=o:=fun d=>Z9 (z1G ho (by lia))
 rw[e2,Z5 rfl rfl rfl (fun q=>by walk_at "mh";first|(erw[rt1];rfl)|rfl) (fun q=>by walk_at "mh";first|(erw[rt1];rfl)|rfl)]
 try (walk_at "mh")
 try rw[g5]
 try (walk_at "mh")
 have fin: ∃t' c' x' n',(Rs n t'=true/\(er t').depth<=K+2)/\Bg c' x'/\n<=n'/\Up n' t'/\RF.ok o [.lst l [.int c2, .int x2],t] n2= .ok t' [.lst l [.int c', .int x'],t] n':=⟨o,c2,x2,n2,⟨ho,by lia⟩,b2,hn2,uo,rfl⟩
 try rw[g3]
 try (walk_at "mh")
 try rw[g1]
 try (walk_at "mh")
 have rLn: ∀k d,rpL (pl k d) ds=ds:=fun k d=>rpL_id ds fun j hj=>by rw[lL] at hj;cases hj
 have hE: ∀e∈ds,Rs n e=true/\(er e).depth<=K+1:=fun e he=>⟨z7p e (hT.2 e he),hD e he⟩
 by_cases h0:ds.length=0
 ·erw[show((ds.length:Int)==0)=true by simp[h0]]
  walk_at "mh"
  try exact fin
 erw[show((ds.length:Int)==0)=false by erw[beq_eq_false_iff_ne];lia]
 walk_at "mh"
 by_cases hw:w=0
 ·subst hw
  erw[beq_self_eq_true]
  walk_at "mh"
  try exact fin
 erw[show(w==0)=false by erw[beq_eq_false_iff_ne];lia]
 walk_at "mh"
 try rw[g1]
 try (walk_at "mh")
 obtain⟨r,c3,x3,hr0,hr1,b3,e3⟩:=w6 l c2 x2 ds.length n2 b2 (by lia) (by lia)
 rw[e3,Z5 rfl rfl rfl (fun q=>by walk_at "mh";first|(erw[ro1,rt1];rfl)|rfl) (fun q=>by walk_at "mh";first|(erw[ro1,rt1];rfl)|rfl)]
 try (walk_at "mh")
 try rw[g2]
 try (walk_at "mh")
 obtain⟨dr,hdr,er'⟩:=z5m (ds:=ds) hr0 hr1
 have tail: ∀(a2 a3 a4:Option D) (m:Nat) (es:List D) (c' x':Int) (n':Nat),((zdd isl (J3 (y0 5)) sNx ⟨[some (.lst l [.int c', .int x']),some t,a2,a3,a4,some (.lst m es)],[some (.lst l [.int c', .int x']),some t],n'⟩).sq (J3 (mCB [y0 5] tupF))).fin=RF.ok (if isl=true then .lst m es else .tup es) [.lst l [.int c', .int x'],t] n':=by
  intro a2 a3 a4 m es c' x' n'
  cases isl<;>(left;try rfl)
 have fin2: ∀(m:Nat) (es:List D) (c' x':Int) (n':Nat),Bg c' x'->n<=m->n<=n'->m<n'->es.length<=2000->(∀e∈es,Rs n e=true/\(er e).depth<=K+1)->(∀e∈es,Up n' e)->∃t' c'' x'' n'',(Rs n t'=true/\(er t').depth<=K+2)/\Bg c'' x''/\n<=n''/\Up n'' t'/\RF.ok (if isl=true then .lst m es else .tup es) [.lst l [.int c', .int x'],t] n'= .ok t' [.lst l [.int c'', .int x''],t] n'':=fun m es c' x' n' h3 h0 h4 h6 h1 h2 h5=>by
  refine⟨_,c',x',n', ?_,h3,h4, ?_,rfl⟩
  ·cases isl
   ·exact zbl h1 h2
   ·exact z5n h0 h1 h2
  ·cases isl
   ·exact z90 h5
   ·exact z1H h6 h5
 have upE: ∀(m:Nat) {es:List D},(∀e∈es,e∈ds)->∀e∈es,Up m e:=fun m es h e he k hk=>by rw[K7 e (hT.2 e (h e he))] at hk;cases hk
 by_cases w1:w=1
 ·subst w1
  erw[beq_self_eq_true]
  walk_at "mh"
  rw[K6 (by rw[zl];have:= @z09 ds none (some r);have:= @z09 ds (some (r+1)) none;lia)]
  walk_at "mh"
  try rw[g4]
  try rw[tail]
  refine fin2 _ _ _ _ _ b3 (by lia) (by lia) (by lia) ?_ ?_ (upE _ ?_)
  ·erw[m7];have:= @z09 ds none (some r);have:= @z09 ds (some (r+1)) none;lia
  ·intro e he
   rcases i3.mp he with he|he<;>exact hE e (z1o he)
  ·intro e he
   rcases i3.mp he with he|he<;>exact z1o he
 erw[show(w==1)=false by erw[beq_eq_false_iff_ne];lia]
 walk_at "mh"
 by_cases w2:w=2
 ·subst w2
  erw[beq_self_eq_true]
  walk_at "mh"
  try rw[er']
  try (walk_at "mh")
  rw[K6 (by rw[zl];have:= @z09 ds none (some r);erw[l8,t5];lia)]
  walk_at "mh"
  rw[K6 (by rw[zl];have:= @z09 ds none (some r);have:= @z09 ds (some r) none;erw[m7,l8,t5];lia)]
  walk_at "mh"
  try rw[g4]
  try rw[tail]
  refine fin2 _ _ _ _ _ b3 (by lia) (by lia) (by lia) ?_ ?_ (upE _ ?_)
  ·erw[m7,l8,t5];have:= @z09 ds none (some r);have:= @z09 ds (some r) none;lia
  ·intro e he
   rcases i3.mp he with he|he
   ·rcases i3.mp he with he|he
    ·exact hE e (z1o he)
    ·rw[m9.mp he];exact hE dr hdr
   ·exact hE e (z1o he)
  ·intro e he
   rcases i3.mp he with he|he
   ·rcases i3.mp he with he|he
    ·exact z1o he
    ·rw[m9.mp he];exact hdr
   ·exact z1o he
 erw[show(w==2)=false by erw[beq_eq_false_iff_ne];lia]
 walk_at "mh"
 by_cases w3:w=3
 ·subst w3
  erw[beq_self_eq_true]
  walk_at "mh"
  obtain⟨d0,hd0,e0'⟩:=z5m (ds:=ds) (r:=0) (by decide) (by lia)
  have f0: ∀k d,rp (pl k d) d0=d0:=fun k d=>Z9 (by rw[K7 d0 (hT.2 d0 hd0)];exact l6)
  have fr: ∀k d,rp (pl k d) dr=dr:=fun k d=>Z9 (by rw[K7 dr (hT.2 dr hdr)];exact l6)
  have qn:l≠n2:=by lia
  rw[zfj (d1:=d0) (d2:=dr) (σ:=[some (D.lst l [D.int c3,D.int x3]),some (t),some (D.int 3),some o,some (D.int r),some (D.lst n2 ds)]) (tm:=[some (D.lst l [D.int c3,D.int x3]),some (t)]) (n:=n2+1) (by walk_at "mh";try rw[e0'];try (walk_at "mh");try rw[er'];try (walk_at "mh"))]
  walk_at "mh"
  rw[zfk]
  walk_at "mh"
  rw[z8U (zcP hr0 hr1) (by rw[K7 d0 (hT.2 d0 hd0)];exact l6)]
  walk_at "mh"
  erw[J9 qn,g7 n2 _ hn2,f0,fr,rLn]
  walk_at "mh"
  rw[zfk]
  walk_at "mh"
  rw[z8U (j:=0) (zcP (by decide) (by erw[N7];lia)) (by rw[K7 dr (hT.2 dr hdr)];exact l6)]
  walk_at "mh"
  erw[J9 qn,g7 n2 _ hn2,f0,fr,rLn,zfl]
  walk_at "mh"
  try rw[g4]
  try rw[tail]
  refine fin2 _ _ _ _ _ b3 (by lia) (by lia) (by lia) ?_ ?_ (upE _ ?_)
  ·erw[N7];lia
  ·intro e he
   rcases B7 he with he|rfl
   ·rcases B7 he with he|rfl
    ·exact hE e he
    ·exact hE _ hd0
   ·exact hE _ hdr
  ·intro e he
   rcases B7 he with he|rfl
   ·rcases B7 he with he|rfl
    ·exact he
    ·exact hd0
   ·exact hdr
 erw[show(w==3)=false by erw[beq_eq_false_iff_ne];lia]
 walk_at "mh"
 have qn:l≠n2:=by lia
 have qn':n2≠l:=by lia
 have deep: ∀c3 x3,Bg c3 x3->∃t' c' x' n',(Rs n t'=true/\(er t').depth<=K+2)/\Bg c' x'/\n<=n'/\Up n' t'/\
  (((z1w (self [D.lst l [D.int c3,D.int x3],dr] (n2+1)) [D.lst l [D.int c3,D.int x3],dr] ⟨[some (D.lst l [D.int c3,D.int x3]),some t,some (D.int w),some o,some (D.int r),some (D.lst n2 ds)],[some (D.lst l [D.int c3,D.int x3]),some t],n2+1⟩).lf fun v s1=>(y0 5 (s1.psh v)).lf fun o s2=>(y0 4 (s2.psh o)).lf fun i s3=>(pop s3).lf fun o' s4=>(pop s4).lf fun v' s5=>setD o' i v' s5).sq
    (Y2 (sIf (U5 (z34 "list" (y0 1))) (J3 (y0 5)) sNx) (J3 (mCB [y0 5] tupF)))).fin=RF.ok t' [D.lst l [D.int c',D.int x'],t] n':=by
  intro c3 x3 b3
  obtain⟨v,c4,x4,n4,⟨hv,hvd⟩,b4,hn4,uv,e4⟩:=hself dr hdr c3 x3 (n2+1) b3 (by lia)
  have lv:n2∉y9 v:=z1G hv (by lia)
  have lv':l∉y9 v:=z1G hv (by lia)
  try rw[e4]
  rw[Z5 rfl rfl (by erw[labsL,K7 dr (hT.2 dr hdr),l3]) (fun q=>by walk_at "mh";first|(erw[ro1,rt1,rLn,J9 qn'];rfl)|rfl) (fun q=>by walk_at "mh";first|(erw[ro1,rt1,rLn,J9 qn'];rfl)|rfl)]
  try (walk_at "mh")
  try (walk_at "mh")
  rw[z8U (zcP hr0 hr1) lv]
  walk_at "mh"
  erw[J9 qn,g7 n2 _ hn2,rLn]
  walk_at "mh"
  try rw[g4]
  try rw[tail]
  refine fin2 _ _ _ _ _ b4 (by lia) (by lia) (by lia) ?_ ?_ ?_
  ·erw[N7];lia
  ·intro e he
   rcases B7 he with he|rfl
   ·exact hE e he
   ·exact⟨z0N (by lia) _ hv,hvd⟩
  ·intro e he
   rcases B7 he with he|rfl
   ·exact upE _ (fun e he=>he) e he
   ·exact uv
 by_cases w4:w=4
 ·subst w4
  erw[beq_self_eq_true]
  walk_at "mh"
  obtain⟨r4,c4,x4,hr40,hr41,b4,e4⟩:=w6 l c3 x3 4 (n2+1) b3 (by decide) (by decide)
  rw[e4,Z5 rfl rfl rfl (fun q=>by walk_at "mh";first|(erw[ro1,rt1,rLn,J9 qn'];rfl)|rfl) (fun q=>by walk_at "mh";first|(erw[ro1,rt1,rLn,J9 qn'];rfl)|rfl)]
  try (walk_at "mh")
  by_cases hz:r4=0
  ·subst hz
   erw[beq_self_eq_true]
   walk_at "mh"
   try rw[g2]
   try (walk_at "mh")
   try rw[g8]
   try (walk_at "mh")
   try rw[g4]
   cases isl
   ·try (walk_at "mh")
    rw[show(if false=true then(1:Int) else 0)=0 from rfl,at0]
    walk_at "mh"
    exact⟨_,c4,x4,n2+1+1+1,z5n (by lia) (by lia) hE,b4,by lia,z1H (by lia) (upE _ fun e he=>he),rfl⟩
   ·try (walk_at "mh")
    erw[if_true,at1]
    walk_at "mh"
    exact⟨_,c4,x4,n2+1+1+1,zbl (by lia) hE,b4,by lia,z90 (upE _ fun e he=>he),rfl⟩
  ·erw[show(r4==0)=false by erw[beq_eq_false_iff_ne];lia]
   try (walk_at "mh")
   try exact deep c4 x4 b4
 ·erw[show(w==4)=false by erw[beq_eq_false_iff_ne];lia]
  try (walk_at "mh")
  try exact deep c3 x3 b3
theorem zd2(self:FM)(K:Nat)(t:D)(l:Nat)(c x:Int)(n:Nat)(hb:Bg c x)(hn:l<n)(rt1: ∀d,rp (pl l d) t=t)(g3:isiAny ["tuple", "list"] t=some false)(g5: ∀m,f_l_whole [t] m= .ok (.bool (isInt t)) [t] m):
 ∃t' c' x' n',(Rs n t'=true/\(er t').depth<=K+2)/\Bg c' x'/\n<=n'/\Up n' t'/\z0d 6 (z0q self) [.lst l [.int c, .int x],t] n= .ok t' [.lst l [.int c', .int x'],t] n':=by
 unfold z0q
 walk_at "mh"
 obtain⟨w,c1,x1,hw0,hw1,b1,e1⟩:=w6 l c x 8 n hb (by decide) (by decide)
 rw[e1,Z5 rfl rfl rfl (fun q=>by walk_at "mh";first|(erw[rt1];rfl)|rfl) (fun q=>by walk_at "mh";first|(erw[rt1];rfl)|rfl)]
 try (walk_at "mh")
 obtain⟨o,c2,x2,n2,⟨ho,hod⟩,b2,hn2,uo,e2⟩:=z6C l c1 x1 n b1 hn
 rw[e2,Z5 rfl rfl rfl (fun q=>by walk_at "mh";first|(erw[rt1];rfl)|rfl) (fun q=>by walk_at "mh";first|(erw[rt1];rfl)|rfl)]
 try (walk_at "mh")
 have fin: ∃t' c' x' n',(Rs n t'=true/\(er t').depth<=K+2)/\Bg c' x'/\n<=n'/\Up n' t'/\RF.ok o [.lst l [.int c2, .int x2],t] n2= .ok t' [.lst l [.int c', .int x'],t] n':=⟨o,c2,x2,n2,⟨ho,by lia⟩,b2,hn2,uo,rfl⟩
 cases hI:isInt t with
 |false=>
  try rw[hI]
  try (walk_at "mh")
  try exact fin
 |true=>
  cases t with
  |int i=>
   try rw[hI]
   try (walk_at "mh")
   by_cases hw:w<4
   ·erw[hw,decide_true]
    walk_at "mh"
    obtain⟨j,ej⟩:=at4 hw0 hw
    rw[ej]
    walk_at "mh"
    exact⟨.int (i+j),c2,x2,n2+1,⟨rfl,by simp[er,PyData.depth]⟩,b2,by lia,by simp[Up,y9],rfl⟩
   ·erw[hw,decide_false]
    try (walk_at "mh")
    try exact fin
  |_=>cases hI
theorem z5q(self:FM)(K:Nat)(t:D)(l:Nat)(c x:Int)(n:Nat)(ht:Tr t=true)(hd:(er t).depth<=K)(hb:Bg c x)(hn:l<n)
 (hself: ∀ds,t= .tup ds->∀d∈ds,∀c x n,Bg c x->l<n->∃v c' x' n',(Rs n v=true/\(er v).depth<=K+1)/\Bg c' x'/\n<=n'/\Up n' v/\self [.lst l [.int c, .int x],d] n= .ok v [.lst l [.int c', .int x'],d] n'):
 ∃t' c' x' n',(Rs n t'=true/\(er t').depth<=K+2)/\Bg c' x'/\n<=n'/\Up n' t'/\z0d 6 (z0q self) [.lst l [.int c, .int x],t] n= .ok t' [.lst l [.int c', .int x'],t] n':=by
 have wh: ∀m,f_l_whole [t] m= .ok (.bool (isInt t)) [t] m:=fun m=>z2l t m (z0M _ (z7p (n:=0) _ ht)).1
 have fr: ∀k d,rp (pl k d) t=t:=fun k d=>Z9 (by rw[K7 _ ht];exact l6)
 have ha:=z91 ht
 cases t with
 |tup ds=>
  have hT:ds.length<=900/\∀d∈ds,Tr d=true:=by erw[Tr,l0,decide_eq_true_eq,z4m] at ht;exact ht
  exact z6L self K (.tup ds) ds false l c x n hT (fun d hd'=>by
   erw[er,PyData.depth] at hd
   have:=z0L.mp (E4 (C0 hd (N4 K))) d hd'
   lia) hb hn (fun _=>rfl) (fun _ _ _=>rfl) rfl rfl wh (fr l) (fun k d _=>fr k d) (fun _=>rfl) (hself ds rfl)
 |_=>exact zd2 self K _ l c x n hb hn (fr l) ha wh
theorem zd3: ∀(k f:Nat) (t:D) (l:Nat) (c x:Int) (n:Nat),k<=f->Tr t=true->(er t).depth<=k->Bg c x->l<n->∃t' c' x' n',(Rs n t'=true/\(er t').depth<=k+2)/\Bg c' x'/\n<=n'/\Up n' t'/\U8 (f+1) [.lst l [.int c, .int x],t] n= .ok t' [.lst l [.int c', .int x'],t] n':=by
 intro k
 induction k with
 |zero=>
  intro f t l c x n hf ht hd hb hn
  refine z5q (U8 f) 0 t l c x n ht hd hb hn ?_
  rintro ds rfl
  erw[er,PyData.depth] at hd
  lia
 |succ k ih=>
  intro f t l c x n hf ht hd hb hn
  obtain⟨f,rfl⟩: ∃g,f=g+1:=⟨f - 1,by lia⟩
  refine z5q (U8 (f+1)) (k+1) t l c x n ht hd hb hn ?_
  rintro ds rfl d hdm c x n hb hn
  have h1:Tr d=true:=by erw[Tr,l0,z4m] at ht;exact ht.2 d hdm
  have h2:(er d).depth<=k:=by erw[er,PyData.depth] at hd;exact z0L.mp (E4 hd) d hdm
  obtain⟨v,c',x',n',⟨g1,g2⟩,g3,g4,g6,g5⟩:=ih f d l c x n (by lia) h1 h2 hb hn
  exact⟨v,c',x',n',⟨g1,by lia⟩,g3,g4,g6,g5⟩
theorem zi6(f:Nat)(ds:List D)(l L:Nat)(c x:Int)(n:Nat)(hT:ds.length<=900/\∀d∈ds,Tr d=true)(hD: ∀d∈ds,(er d).depth<=2)(hb:Bg c x)(hlL:l<L)(hn:L<n)(hf:2<=f):
 ∃t' c' x' n',(Rs n t'=true/\(er t').depth<=7)/\Bg c' x'/\n<=n'/\Up n' t'/\U8 (f+2) [.lst l [.int c, .int x], .lst L ds] n= .ok t' [.lst l [.int c', .int x'], .lst L ds] n':=by
 have lL:labsL ds=[]:=z1L hT.2
 have gL: ∀k d,k≠L->rp (pl k d) (.lst L ds)= .lst L ds:=fun k d h=>Z9 (by erw[y9,lL,i0,l6,or_false];exact h)
 exact z6L (U8 (f+1)) 5 (.lst L ds) ds true l c x n hT (fun d hd=>by have:=hD d hd;lia) hb (by lia) (fun _=>rfl) (fun _ _ _=>rfl) rfl rfl (fun m=>z2l (.lst L ds) m (z0M _ (z5n (n:=0) (C9 _) (by lia) fun e he=>⟨z7p e (hT.2 e he),hD e he⟩).1).1) (fun d=>gL l d (by lia)) (fun k d hk=>gL k d (by lia)) (fun _=>rfl) fun d hd c x n hb hn=>by
  obtain⟨v,c',x',n',⟨h1,h2⟩,h3⟩:=zd3 2 f d l c x n hf (hT.2 d hd) (hD d hd) hb hn
  exact⟨v,c',x',n',⟨h1,by lia⟩,h3⟩
theorem z4w{P Q:D->D->Prop}(h: ∀a b,P a b->Q a b): ∀{as bs:List D},All2 P as bs->All2 Q as bs
 |_,_, .nil=> .nil
 |_,_, .cons h1 h2=> .cons (h _ _ h1) (z4w h h2)
theorem z6M{P:D->Prop}: ∀{as bs:List D},All2 (fun _ b=>P b) as bs->∀b∈bs,P b
 |_,_, .nil=>fun _ h=>nomatch h
 |_,_, .cons h1 h2=>fun b hb=>(i0.mp hb).elim (fun e=>e▸h1) (z6M h2 b)
theorem z9p(X:List (List Pz))(hX: ∀ps∈X,K8 ps): ∀(ds:List D) (a:Nat),plainL ds=true->way X a (erL ds)=true->ds=psD ((erL ds).filterMap unP)/\K8 ((erL ds).filterMap unP)
 |[],_,_,_=>⟨rfl,fun _ h=>nomatch h⟩
 |d::ds,a,hp,h=>by
  erw[plainL,l0] at hp
  erw[erL,way] at h
  cases e:unP (er d) with
  |none=>rw[e] at h;cases h
  |some p=>
   rw[e] at h
   erw[l0] at h
   obtain⟨i1,i2⟩:=z9p X hX ds p.e.toNat hp.2 h.2
   have hd:=zhZ hp.1 e
   have hm:p∈X.getD a []:=z4u (by rw[<-hd];exact h.1.2)
   have ha:a<X.length:=of_decide_eq_true h.1.1
   have ex:X.getD a []=X[a]:=by simp[ha]
   rw[ex] at hm
   erw[erL,F2,e]
   refine⟨?_,fun q hq=> ?_⟩
   ·show d::ds=p.d::psD _
    rw[<-i1,<-hd]
   ·rcases i0.mp hq with rfl|hq
    ·exact hX _ (A2 ha) _ hm
    ·exact i2 q hq
theorem zfT{N:List (Nat×List Pz)}{m:Nat}(hO: ∀i (h:i<N.length),∀p∈N[i].2,p.ok (m:Nat) (i:Nat)): ∀ps∈N.map (·.2),K8 ps:=fun ps hps p hp=>by
 obtain⟨q,hq,rfl⟩:=A4.mp hps
 obtain⟨i,hi,rfl⟩:=R4 hq
 exact(hO i hi p hp).2.2.2.1
theorem zi7{N M:List (Nat×List Pz)}{m:Nat}(h:M.map (·.2)=N.map (·.2))(hO: ∀i (h:i<N.length),∀p∈N[i].2,p.ok (m:Nat) (i:Nat)): ∀i (h:i<M.length),∀p∈M[i].2,p.ok (m:Nat) (i:Nat):=fun i hi p hp=>by
 have hl:M.length=N.length:=by have:=congrArg D7 h;simpa using this
 have e:M[i].2=N[i].2:=by
  have:=congrArg (fun z=>z[i]?) h
  simpa[hi,hl▸hi] using this
 exact hO i (hl▸hi) p (e▸hp)
theorem zd4: ∀(k:Nat) (t:D) (m n:Nat),Rs m t=true->(er t).depth<=k->∃t' n',CQ n' t t'/\WL t t'/\Rs 0 t'=true/\n<=n'/\Z7 (k+1) [t] n= .ok t' [t] n':=by
 intro k
 induction k with
 |zero=>
  intro t m n hr hd
  obtain⟨t',n',h1,h2,h3,h4⟩:=z5o 0 t m n hr hd
  refine⟨t',n',h1,h2, ?_,h3,h4⟩
  rcases h2 with rfl|⟨l,ds,l',ds',rfl,rfl⟩
  ·exact z0N (C9 _) _ hr
  ·simp[er,PyData.depth] at hd
 |succ k ih=>
  intro t m n hr hd
  cases t with
  |lst l ds=>
   show ∃t' n',_/\_/\_/\_/\z0d 1 (Q0 (Z7 (k+1))) _ _=_
   unfold Q0
   erw[Rs,l0,decide_eq_true_eq,z08] at hr
   erw[er,PyData.depth] at hd
   have hd':=z0L.mp (E4 hd)
   obtain⟨ys,n',h1,h2,h3⟩:=z1F (mc:=y0 0) (me:=Z2 (Z7 (k+1)) [y0 0]) (Q:=fun m d y=>CQ m d y/\Rs 0 y=true) (fun a b hab d y h=>⟨⟨h.1.1,fun M hM=>h.1.2 M (by lia)⟩,h.2⟩) (l:=l) (ds:=ds) (ix:=[]) (s:=⟨[some (.lst l ds)],[some (.lst l ds)],n⟩) (σ:=[some (.lst l ds)]) (tm:=[some (.lst l ds)]) (n:=n) (by left) (by have:sizeLine=16777216:=rfl;lia) (by
    intro d hdm tm n
    obtain⟨y,n',g1,_,g0,g2,g3⟩:=ih d m n (hr.2.2 d hdm) (hd' d hdm)
    refine⟨y,n',g2,⟨g1,g0⟩, ?_⟩
    left
    rw[g3]
    left)
   left
   rw[h3]
   left
   have h1l:=h1.len
   obtain⟨q1,q2,q3⟩:=z92 (z4w (fun a b h=>h.1) h1)
   have q4:=z6M (z4w (fun a b h=>h.2) h1)
   refine⟨_,n'+1,⟨⟨Gd.lst.mpr q1,by erw[er,q2]⟩,fun M hM hu=> ?_⟩, .inr ⟨_,_,_,_,rfl,rfl⟩, ?_,by lia,rfl⟩
   ·refine z1H (by lia) (q3 M (by lia) fun e he k hk=>hu k ?_)
    erw[y9,i0]
    exact .inr (z4n he hk)
   ·erw[Rs,l0,decide_eq_true_eq,z08]
    exact⟨C9 _,by lia,q4⟩
  |_=>
   obtain⟨t',n',h1,h2,h3,h4⟩:=z5o (k+1) _ m n hr hd
   refine⟨t',n',h1,h2, ?_,h3,h4⟩
   rcases h2 with rfl|⟨l,ds,l',ds',hh,_⟩
   ·exact z0N (C9 _) _ hr
   ·cases hh
theorem z9q{i:Int}{n:Nat}:f_l_whole [.int i] n= .ok (.bool true) [.int i] n:=z2l (.int i) n rfl
noncomputable def zfU:MS:=(Y2 (Q8 (.nm 10) (Z2 j5 [(Z1 (y0 8) (mC (.int 0)) ixD),(y0 3),(Z1 (y0 8) (mC (.int 1)) ixD)]))
 (sIf (mOr (z3d (U5 (Z2 f_l_whole [(y0 10)]))) (mOr (g9 (Z1 (y0 10) (Z2 j6 [(y0 3),(y0 7)]) neD)) (g9 (Z1 (y0 8) (mCB [(y0 4),(y0 7)] K9) neD)))) (J3 (mC (.bool false))) sNx))
noncomputable def zfV:MS:=(Y2 (Q8 (.nm 8) (mCB [(Z2 (Z7 12) [(y0 4)]),(Z2 (Z7 12) [(y0 7)])] K9))
 (Y2 (Q8 (.nm 9) (Z2 G3 [(Z1 (y0 8) (mC (.int 0)) ixD),(Z1 (y0 8) (mC (.int 1)) ixD)]))
 (Y2 (sIf (mOr (z3d (U5 (z34 "bool" (y0 9)))) (mOr (g9 (Z1 (y0 9) (Z2 z0K [(y0 4),(y0 7)]) neD)) (g9 (Z1 (y0 8) (mCB [(y0 4),(y0 7)] K9) neD)))) (J3 (mC (.bool false))) sNx)
 (sIf (U5 (y0 9)) zfU sNx))))
theorem chk{a0 a1 a2 a5 a6 o8 o9 o10:Option D}{R:List (List Int)}(hR:R10 R){L:Nat}{N:List (Nat×List Pz)}(hN:N.length<=24)(hP: ∀q∈N,q.2.length<=200)(hO: ∀i (h:i<N.length),∀p∈N[i].2,p.ok (N.length:Nat) (i:Nat)){d:D}{tm:List (Option D)}{m n:Nat}(hr:Rs m d=true)(hd:(er d).depth<=11)(hu:Up n d)(u10:UpO n o10):
 ∃p8 p9 p10 n',n<=n'/\UpO n' p8/\UpO n' p9/\UpO n' p10/\zfV ⟨[a0,a1,a2,some (.tup (rD R)),some (.lst L (nD N)),a5,a6,some d,o8,o9,o10],tm,n⟩= .nx ⟨[a0,a1,a2,some (.tup (rD R)),some (.lst L (nD N)),a5,a6,some d,p8,p9,p10],tm,n'⟩:=by
 obtain⟨M,n1,hn1,eM,lM,e1⟩:=zjb L N (by lia) hP n
 obtain⟨y,n2,⟨⟨gy,ey⟩,uy⟩,wl,ry,hn2,e2⟩:=zd4 11 d m (n1+1) hr hd
 have hMl:M.length=N.length:=by have:=congrArg D7 eM;simpa using this
 have hOM:=zi7 eM hO
 obtain⟨n3,hn3,e3⟩:=zfF n1 M (by lia) (fun i hi p hp=>by have:=hOM i hi p hp;rw[<-hMl] at this;exact this) y 0 n2 ry
 obtain⟨n4,hn4,e4⟩:=zfG L N (by lia) hO d m n3 hr
 rw[eM,ey] at e3
 have gd:=z0M d hr
 have hne: ∀s:Stt,neD (.tup [.lst n1 (nD M),y]) (.tup [.lst L (nD N),d]) s= .ok (.bool false) s:=fun s=>by
  obtain⟨a,a2⟩:=zfn M
  obtain⟨b,b2⟩:=zfn N
  refine zcQ (Gd.tup.mpr (GdL.cons.mpr ⟨Gd.lst.mpr a,GdL.cons.mpr ⟨gy,⟨rfl,rfl⟩⟩⟩)) (Gd.tup.mpr (GdL.cons.mpr ⟨Gd.lst.mpr b,GdL.cons.mpr ⟨gd,⟨rfl,rfl⟩⟩⟩)) (by erw[er,erL,zhQ,eM,ey]) ?_
  erw[er,erL,PyData.depth,PyData.depthAll]
  lia
 have uY:Up (max n n2) y:=uy (max n n2) (by lia) (fun k hk=>by have:=hu k hk;lia)
 have u8: ∀k,n2<=k->UpO k (some (.tup [.lst n1 (nD M),y])):=fun k hk=>UpO.of (z90 fun e he=>by
  erw[i0,l6,or_false] at he
  rcases he with rfl|rfl
  ·exact z2Z (by lia) fun q hq=>by have:=lM q hq;lia
  ·exact fun j hj=>by have:=uY j hj;lia)
 have u9: ∀(k:Nat) (b:Bool),UpO k (some (.bool b)):=fun k b=>UpO.of fun j hj=>by simp[y9] at hj
 unfold zfV
 cases hc:zgi (N.map (·.2)) (er d) with
 |false=>
  rw[hc] at e3 e4
  refine⟨_,_,o10,n4,by lia,u8 n4 (by lia),u9 _ false,u10.mono (by lia), ?_⟩
  left
  rw[e1]
  left
  rw[e2]
  left
  rw[e3]
  left
  rw[e4]
  left
  rw[z93]
  left
  rw[hne]
  left
 |true=>
  rw[hc] at e3 e4
  have key: ∃(C:List Pz) (l1 l2:Nat),K8 C/\C.length<=2000/\d= .lst l1 (psD C)/\y= .lst l2 (psD C):=by
   cases d with
   |lst l1 ds=>
    have hw:way (N.map (·.2)) 0 (erL ds)=true:=hc
    erw[Rs,l0,decide_eq_true_eq,z08] at hr
    have gds:plainL ds=true:=(Gd.lst.mp gd).1
    obtain⟨i1,i2⟩:=z9p _ (zfT hO) ds 0 gds hw
    have hlen:((erL ds).filterMap unP).length<=2000:=by
     have:=congrArg D7 i1
     erw[psD,A3] at this
     lia
    rcases wl with rfl|⟨_,_,l2,es,hh,rfl⟩
    ·exact⟨_,l1,l1,i2,hlen,by rw[<-i1],by rw[<-i1]⟩
    ·have ee:erL es=erL ds:=by simpa only[er,PyData.list.injEq] using ey
     obtain⟨j1,j2⟩:=z9p _ (zfT hO) es 0 (Gd.lst.mp gy).1 (by rw[ee];exact hw)
     rw[ee] at j1
     exact⟨_,l1,l2,i2,hlen,by rw[<-i1],by rw[<-j1]⟩
   |ro _=>simp[Rs] at hr
   |_=>simp[zgi,er] at hc
  obtain⟨C,l1,l2,hC,hCl,rfl,rfl⟩:=key
  have e5:=zaF (.lst n1 (nD M)) R hR l2 C hC n4
  obtain⟨n5,hn5,e6⟩:=zaG R hR l1 C hC hCl n4
  refine⟨_,_,some (.int (cst R 9 C)),n5,by lia,u8 n5 (by lia),u9 _ true,UpO.int, ?_⟩
  left
  rw[e1]
  left
  rw[e2]
  left
  rw[e3]
  left
  rw[e4]
  left
  rw[z93]
  left
  rw[hne]
  left
  unfold zfU
  left
  rw[e5]
  left
  rw[z9q]
  left
  rw[e6]
  left
  rw[hne]
  left
theorem z9r{f:Nat->Option D}: ∀{a:List D},(∀e∈a,rp f e=e)->rpO f (a.map some)=a.map some
 |[],_=>rfl
 |d::a,h=>by erw[i6,rpO,h d (by simp),z9r (a:=a) fun e he=>h e (by simp[he])]
theorem zi8(R:List (List Int)): ∀k d,rp (pl k d) (.tup (rD R))= .tup (rD R):=fun k d=>Z9 (by
 intro h
 erw[y9] at h
 obtain⟨e,he,hk⟩:=labsL_mem h
 obtain⟨r,_,rfl⟩:=A4.mp he
 erw[y9,z30] at hk;cases hk)
theorem zby(R:List (List Int)): ∀k d,rpL (pl k d) (rD R)=rD R:=fun k d=>by
 have:=zi8 R k d;erw[rp,D.tup.injEq] at this;exact this
theorem zfW(ns:List Int): ∀k d,rp (pl k d) (.ro (ns.map .int))= .ro (ns.map .int):=fun k d=>Z9 (by
 erw[y9];intro h;obtain⟨e,he,hk⟩:=labsL_mem h;obtain⟨j,_,rfl⟩:=A4.mp he;simp[y9] at hk)
theorem z6N{k m:Nat}{d:D}{T:List D}(h:m≠k)(hT:rpL (pl k d) T=T):rp (pl k d) (.lst m T)= .lst m T:=by rw[J9 h,hT]
noncomputable def zaJ:M ItK:=G2 (Z1 (Z1 (y0 6) (W3 (U1 [(mC (.int 6))]) (.nm 0) (rt true) (Z2 (U8 12) [(y0 1),(y0 2)]) 1 [2,5]) J1) (mCB [(Z2 z0H [(y0 2)]),(mCB [(Z2 z0H [(y0 2)])] lstM)] lstM) J1)
theorem zaK(ns:List Int)(i c x:Int)(n L4 L5 L6 k:Nat)(R:List (List Int))(N:List (Nat×List Pz))(C:List Pz)(T:List D)(o7 o8 o9 o10:Option D)(hb:Bg c x)(h4:n<L4)(hq: ∀q∈N,n<q.1/\q.1<L5)(h45:L4<L5)(h56:L5<L6)(h6:L6<k)(hC:S24 C)(hCl:C.length<=24)(hT: ∀e∈T,Th (n+1) k e)(hTc:rpL (pl L5 (.lst L5 (psD C))) T=T)(lT:T.length<=100)(u7:UpO n o7)(u8:UpO n o8)(u9:UpO n o9)(u10:UpO n o10):
 ∃c' x' m T' n',Bg c' x'/\m<n'/\k<=m/\T'.length<=200/\(∀e∈T',Th (n+1) n' e)/\zaJ ⟨[some (.ro (ns.map .int)),some (.int i),some (.lst n [.int c, .int x]),some (.tup (rD R)),some (.lst L4 (nD N)),some (.lst L5 (psD C)),some (.lst L6 T),o7,o8,o9,o10],[some (.ro (ns.map .int))],k⟩=
  .ok kLst ⟨[some (.ro (ns.map .int)),some (.int i),some (.lst n [.int c', .int x']),some (.tup (rD R)),some (.lst L4 (nD N)),some (.lst L5 (psD C)),some (.lst L6 T),o7,o8,o9,o10],[some (.lst m T'),some (.ro (ns.map .int))],n'⟩:=by
 have s7:=u7.fix
 have s8:=u8.fix
 have s9:=u9.fix
 have s10:=u10.fix
 have t7:=u7.fixk (show n<=L5 by lia)
 have t8:=u8.fixk (show n<=L5 by lia)
 have t9:=u9.fixk (show n<=L5 by lia)
 have t10:=u10.fixk (show n<=L5 by lia)
 have sr:=zfW ns
 have sR:=zby R
 have sN:=z0W h4 fun q h=>(hq q h).1
 have sC: ∀d,rp (pl n d) (.lst L5 (psD C))= .lst L5 (psD C):=z03 (by lia)
 have sT:=z4o hT (show n<L6 by lia)
 have tN: ∀d,rp (pl L5 d) (.lst L4 (nD N))= .lst L4 (nD N):=fun d=>Z9 fun h=>B1 _ (z2Z h45 (fun q h=>(hq q h).2) L5 h)
 have tB: ∀d (c x:Int),rp (pl L5 d) (.lst n [.int c, .int x])= .lst n [.int c, .int x]:=fun d c x=>z28 (by lia)
 have tT:rp (pl L5 (.lst L5 (psD C))) (.lst L6 T)= .lst L6 T:=z6N (by lia) hTc
 have hTr:(psD C).length<=900/\∀d∈psD C,Tr d=true:=⟨by simp[psD];lia,fun d hd=>by
  obtain⟨p,hp,rfl⟩:=A4.mp hd
  exact(zaH (hC p hp)).1⟩
 have hDp: ∀d∈psD C,(er d).depth<=2:=fun d hd=>by
  obtain⟨p,hp,rfl⟩:=A4.mp hd
  exact(zaH (hC p hp)).2
 obtain⟨zs,b',n1,g1,g2,⟨c1,x1,rfl,b1⟩,g5,g6⟩:=zaI (ms:=[mC (.int 6)]) (me:=Z2 (U8 12) [y0 1,y0 2]) (N:=6) (ix:=[2,5]) (s:=⟨[some (.ro (ns.map .int)),some (.int i),some (.lst n [.int c, .int x]),some (.tup (rD R)),some (.lst L4 (nD N)),some (.lst L5 (psD C)),some (.lst L6 T),o7,o8,o9,o10],[some (.lst L6 T),some (.ro (ns.map .int))],k⟩) (σ:=fun b=>[some (.ro (ns.map .int)),some (.int i),some (.lst n b),some (.tup (rD R)),some (.lst L4 (nD N)),some (.lst L5 (psD C)),some (.lst L6 T),o7,o8,o9,o10]) (tm:=fun _=>[some (.lst L6 T),some (.ro (ns.map .int))]) (b:=[.int c, .int x]) (n:=k) (B:=fun b=> ∃c x,b=[.int c, .int x]/\Bg c x) (PL:=fun m acc=> ∀e∈acc,Rs k e=true/\(er e).depth<=11/\Up m e)
  (by left;rfl) (by decide) (fun _=>rfl) ⟨c,x,rfl,hb⟩ (fun _ h=>nomatch h) (by
   rintro acc b m hacc hkm ⟨c,x,rfl,hb⟩ hPL
   obtain⟨y,c',x',n',⟨r1,r2⟩,b',hn',uy,e'⟩:=zi6 10 (psD C) n L5 c x m hTr hDp hb (by lia) (by lia) (by decide)
   refine⟨y,[.int c', .int x'],n', ?_,⟨c',x',rfl,b'⟩,hn', ?_⟩
   ·intro e he
    rcases i3.mp he with he|he
    ·obtain⟨q1,q2,q3⟩:=hPL e he
     exact⟨q1,q2,fun j hj=>by have:=q3 j hj;lia⟩
    ·rw[m9.mp he];exact⟨z0N hkm _ r1,by lia,uy⟩
   have aN: ∀j,j<k->∀d,rpO (pl j d) (acc.reverse.map some)=acc.reverse.map some:=fun j hj d=>z9r fun e he=>Z9 (z1G (hPL e (List.mem_reverse.mp he)).1 hj)
   erw[i6,l9,List.getElem?_cons_zero,List.getElem?_cons_succ,A8]
   left
   rw[e',zfS (σ1:=fun q=>[some (.int (acc.length:Int)),some q,some (.lst L5 (psD C))]) (tm1:=fun q=>acc.reverse.map some++([some (.ro (ns.map .int)),some (.int i),some q,some (.tup (rD R)),some (.lst L4 (nD N)),some (.lst L5 (psD C)),some (.lst L6 T),o7,o8,o9,o10]++[some (.lst L6 T),some (.ro (ns.map .int))])) rfl rfl (X6 C) (by lia)
    (by left;erw[tB]) (by rw[z1n,aN L5 (by lia)];congr 1;left;erw[sr,sR,tN,tB,tT,t7,t8,t9,t10])
    (fun q=>by left;erw[sC]) (fun q=>by rw[z1n,aN n (by lia)];congr 1;left;erw[sr,sR,sN,sC,sT,s7,s8,s9,s10])]
   rfl)
 have hz: ∀e∈zs,Th (n+1) n1 e:=fun e he=>⟨z0N (by lia) _ (g2 e he).1,(g2 e he).2.1,(g2 e he).2.2⟩
 have sT2: ∀d,rp (pl n d) (.lst (n1+1) (T++zs))= .lst (n1+1) (T++zs):=z4o (m:=n1) (by
  intro e he
  rcases i3.mp he with he|he
  ·exact⟨(hT e he).1,(hT e he).2.1,fun k hk=>n9 ((hT e he).2.2 k hk) g5⟩
  ·exact hz e he) (by lia)
 obtain⟨y,c2,x2,n2,⟨ry,dy⟩,b2,hn2,uy,e2⟩:=z6C n c1 x1 (n1+1+1) b1 (by lia)
 have sy: ∀d,rp (pl n d) y=y:=fun d=>Z9 (z1G ry (by lia))
 obtain⟨w,c3,x3,n3,⟨rw',dw⟩,b3,hn3,uw,e3⟩:=z6C n c2 x2 n2 b2 (by lia)
 refine⟨c3,x3,n3+1+1,T++zs++[y, .lst n3 [w]],n3+1+1+1,b3,by lia,by lia,by erw[m7,l8,t5];lia, ?_, ?_⟩
 ·intro e he
  rcases i3.mp he with he|he
  ·rcases i3.mp he with he|he
   ·exact⟨(hT e he).1,(hT e he).2.1,fun k hk=>by have:=(hT e he).2.2 k hk;lia⟩
   ·exact⟨(hz e he).1,(hz e he).2.1,fun k hk=>by have:=(hz e he).2.2 k hk;lia⟩
  ·erw[i0,l6,or_false] at he
   rcases he with rfl|rfl
   ·exact⟨z0N (by lia) _ ry,by lia,fun k hk=>by have:=uy k hk;lia⟩
   ·have h:=z5n (n:=n+1) (k:=2) (l:=n3) (es:=[w]) (by lia) (by simp) (fun e he=>by rw[m9.mp he];exact⟨z0N (by lia) _ rw',dw⟩)
    exact⟨h.1,by lia,z1H (by lia) fun e he=>by rw[m9.mp he];exact fun j hj=>by have:=uw j hj;lia⟩
 ·unfold zaJ
  refine zfg ?_
  left
  rw[g6]
  left
  rw[K6 (by rw[zl];lia)]
  left
  rw[e2,Z5 rfl rfl rfl (fun q=>by left;erw[sr,sR,sN,sC,sT,s7,s8,s9,s10];rfl) (fun q=>by left;erw[sr,sT2];rfl)]
  left
  rw[e3,Z5 rfl rfl rfl (fun q=>by left;erw[sr,sR,sN,sC,sT,s7,s8,s9,s10];rfl) (fun q=>by left;erw[sr,sT2,sy];rfl)]
  left
  rw[K6 (by rw[zl];erw[m7,l8,t5];lia)]
  try (left)
theorem z9s{k:Nat}: ∀{N:List (Nat×List Pz)},k∈labsL (nD N)->(findL k (nD N)).isSome=true
 |[],h=>by simp[nD,labsL] at h
 |q::N,h=>by
  show(findL k (.lst q.1 (psD q.2)::nD N)).isSome=true
  by_cases e:q.1=k
  ·erw[findL,W9,if_pos e,F7]
  ·have h':k∈labsL (nD N):=by
    have:k∈y9 (.lst q.1 (psD q.2))++labsL (nD N):=h
    rcases i3.mp this with q'|q'
    ·erw[y9,X6,i0,l6,or_false] at q'
     exact absurd q'.symm e
    ·exact q'
   have e2:W9 k (.lst q.1 (psD q.2))=none:=z23 _ (by erw[y9,X6,i0,l6,or_false];exact fun q=>e q.symm)
   erw[findL,e2]
   exact z9s h'
noncomputable def Okn(l LN:Nat)(b:List D)(N:List (Nat×List Pz))(o:Option D):Prop:=(∀d,o=some d->∀k∈y9 d,k≠l/\k∉y9 (.lst LN (nD N)))\/o=some (.lst l b)\/o=some (.lst LN (nD N))
theorem zfX{t:D}{l LN n' n:Nat}{b b':List D}{N:List (Nat×List Pz)}{σ tm:List (Option D)}(hb:labsL b=[])(hb':labsL b'=[])(hL:l<LN)(hN: ∀q∈N,l<q.1)(f1: ∀o∈σ,Okn l LN b N o)(f2: ∀o∈tm,Okn l LN b N o):
 z1w (.ok t [.lst l b', .lst LN (nD N)] n') [.lst l b, .lst LN (nD N)] ⟨σ,tm,n⟩= .ok t ⟨rpO (pl l (.lst l b')) σ,rpO (pl l (.lst l b')) tm,n'⟩:=by
 have eb: ∀k,k≠l->W9 k (.lst l b')=none:=fun k hk=>z23 _ (by erw[y9,hb',i0,l6,or_false];exact hk)
 have e1:findL l [.lst l b', .lst LN (nD N)]=some (.lst l b'):=by erw[findL,W9,if_true]
 have e2:findL LN [.lst l b', .lst LN (nD N)]=some (.lst LN (nD N)):=by
  erw[findL,eb LN (by lia)]
  erw[W9,if_true]
 have e3: ∀k,k≠l->k∉y9 (.lst LN (nD N))->findL k [.lst l b', .lst LN (nD N)]=none:=fun k hk hk'=>by
  refine findL_none _ fun h=> ?_
  erw[labsL,y9,hb',l3,r8,m8,i0] at h
  erw[y9,i0] at hk'
  rcases h with h|h
  ·exact hk h
  ·exact hk' h
 have go: ∀o,Okn l LN b N o->O6 (rp fun k=>findL k [.lst l b', .lst LN (nD N)]) o=O6 (rp (pl l (.lst l b'))) o:=by
  rintro o (h|rfl|rfl)
  ·cases o with
   |none=>rfl
   |some d=>
    have h1:rp (fun k=>findL k [.lst l b', .lst LN (nD N)]) d=d:=z9V d fun k hk=>e3 k (h d rfl k hk).1 (h d rfl k hk).2
    have h2:rp (pl l (.lst l b')) d=d:=Z9 fun hk=>(h d rfl l hk).1 rfl
    rw[A5,A5,h1,h2]
  ·rw[A5,A5,z6A]
   erw[rp,e1]
  ·have h2:rp (pl l (.lst l b')) (.lst LN (nD N))= .lst LN (nD N):=Z9 fun hk=>by
    erw[y9,i0] at hk
    rcases hk with hk|hk
    ·lia
    ·obtain⟨q,hq,e⟩:=z4q hk
     have:=hN q hq
     lia
   rw[A5,A5,h2]
   erw[rp,e2]
 have gos: ∀L:List (Option D),(∀o∈L,Okn l LN b N o)->rpO (fun k=>findL k [.lst l b', .lst LN (nD N)]) L=rpO (pl l (.lst l b')) L:=by
  intro L
  induction L with
  |nil=>intro _;rfl
  |cons o L ih=>intro h;rw[z1I,z1I,go o (h o l4),ih fun o' h'=>h o' (e9 _ h')]
 have same: ∀o,Okn l LN b N o->O6 (rp (pl l (.lst l b))) o=o:=by
  rintro o (h|rfl|rfl)
  ·cases o with
   |none=>rfl
   |some d=>rw[A5,Z9 fun hk=>(h d rfl l hk).1 rfl]
  ·rw[A5,z6A]
  ·rw[A5,Z9 fun hk=> ?_]
   erw[y9,i0] at hk
   rcases hk with hk|hk
   ·lia
   ·obtain⟨q,hq,e⟩:=z4q hk
    have:=hN q hq
    lia
 have sames: ∀L:List (Option D),(∀o∈L,Okn l LN b N o)->rpO (pl l (.lst l b)) L=L:=by
  intro L
  induction L with
  |nil=>intro _;rfl
  |cons o L ih=>intro h;rw[z1I,same o (h o l4),ih fun o' h'=>h o' (e9 _ h')]
 rw[z5l,gos σ f1,gos tm f2]
 ·intro k hk
  erw[labsL,y9,hb,l3,r8,m8,i0] at hk
  by_cases h1:k=l
  ·subst h1;rw[e1];rfl
  ·erw[findL,eb k h1]
   by_cases h2:LN=k
   ·erw[W9,if_pos h2];rfl
   ·erw[W9,if_neg h2]
    rcases hk with hk|hk|hk
    ·exact absurd hk h1
    ·exact absurd hk.symm h2
    ·have:=z9s hk
     cases e:findL k (nD N) with
     |none=>rw[e] at this;cases this
     |some x=>rfl
 ·intro h
  have:b'=b:=by injection h with h _;injection h
  subst this
  rw[gos σ f1,gos tm f2]
  exact⟨sames σ f1,sames tm f2⟩
theorem zfY{l LN:Nat}{N:List (Nat×List Pz)}{o:Option D}(h:UpO l o)(hL:l<LN)(hN: ∀q∈N,l<q.1): ∀d,o=some d->∀k∈y9 d,k≠l/\k∉y9 (.lst LN (nD N)):=fun d e k hk=>by
 have:=h d e k hk
 refine⟨by lia,fun hk'=> ?_⟩
 erw[y9,i0] at hk'
 rcases hk' with hk'|hk'
 ·lia
 ·obtain⟨q,hq,e⟩:=z4q hk'
  have:=hN q hq
  lia
theorem z0O{l LN:Nat}{b:List D}{N:List (Nat×List Pz)}{o:Option D}(h:UpO l o)(hL:l<LN)(hN: ∀q∈N,l<q.1):Okn l LN b N o:= .inl (zfY h hL hN)
theorem z29{l LN:Nat}{b:List D}{N:List (Nat×List Pz)}{d:D}(h:y9 d=[]):Okn l LN b N (some d):= .inl fun e he k hk=>by cases he;rw[h] at hk;cases hk
theorem zbz{l LN L:Nat}{b:List D}{N:List (Nat×List Pz)}{C:List Pz}(h:l≠L)(hL:LN<L)(hN: ∀q∈N,q.1<L):Okn l LN b N (some (.lst L (psD C))):= .inl fun e he k hk=>by
 cases he
 erw[y9,X6,i0,l6,or_false] at hk
 subst hk
 exact⟨fun q=>h q.symm,fun q=>B1 _ (z2Z hL hN _ q)⟩
theorem z68(R:List (List Int)):y9 (.tup (rD R))=[]:=by
 erw[y9]
 induction R with
 |nil=>rfl
 |cons r R ih=>erw[rD,i6,labsL,y9,z30,m8] at ih⊢;exact ih
theorem z4x(ns:List Int):y9 (.ro (ns.map .int))=[]:=by
 erw[y9]
 induction ns with
 |nil=>rfl
 |cons r R ih=>erw[i6,labsL,y9,m8];exact ih
theorem zd5(ns:List Int)(i c x:Int)(n L4 L5 L6 k:Nat)(R:List (List Int))(hR:R10 R)(N:List (Nat×List Pz))(C:List Pz)(T:List D)(o7 o8 o9 o10:Option D)(hb:Bg c x)(h4:n<L4)(hq: ∀q∈N,n<q.1/\q.1<L5)(h45:L4<L5)(h56:L5<L6)(h6:L6<k)(hN:N.length<=24)(hP: ∀q∈N,q.2.length<=200)(hO: ∀i (h:i<N.length),∀p∈N[i].2,p.ok (N.length:Nat) (i:Nat))(hC:S24 C)(hCl:C.length<=24)(hT: ∀e∈T,Th (n+1) k e)(hTc:rpL (pl L5 (.lst L5 (psD C))) T=T)(lT:T.length<=100)(u7:UpO n o7)(u8:UpO n o8)(u9:UpO n o9)(u10:UpO n o10):
 ∃c' x' n' p7 p8 p9 p10,k<=n'/\UpO n' p7/\UpO n' p8/\UpO n' p9/\UpO n' p10/\((zaJ ⟨[some (.ro (ns.map .int)),some (.int i),some (.lst n [.int c, .int x]),some (.tup (rD R)),some (.lst L4 (nD N)),some (.lst L5 (psD C)),some (.lst L6 T),o7,o8,o9,o10],[some (.ro (ns.map .int))],k⟩).lf fun K s=>forGo K (.nm 7) zfV (K.len s.tm) 0 s)=
  .nx ⟨[some (.ro (ns.map .int)),some (.int i),some (.lst n [.int c', .int x']),some (.tup (rD R)),some (.lst L4 (nD N)),some (.lst L5 (psD C)),some (.lst L6 T),p7,p8,p9,p10],[some (.ro (ns.map .int))],n'⟩:=by
 obtain⟨c1,x1,m,T',n1,b1,hm,hmk,lT',hT',e1⟩:=zaK ns i c x n L4 L5 L6 k R N C T o7 o8 o9 o10 hb h4 hq h45 h56 h6 hC hCl hT hTc lT u7 u8 u9 u10
 rw[e1,zcD]
 obtain⟨s',e2,p7,p8,p9,p10,n2,rfl,hn2,v7,v8,v9,v10⟩:=zcL (P:=fun s=> ∃(p7 p8 p9 p10:Option D) (n2:Nat),s=⟨[some (.ro (ns.map .int)),some (.int i),some (.lst n [.int c1, .int x1]),some (.tup (rD R)),some (.lst L4 (nD N)),some (.lst L5 (psD C)),some (.lst L6 T),p7,p8,p9,p10],[some (.lst m T'),some (.ro (ns.map .int))],n2⟩/\n1<=n2/\UpO n2 p7/\UpO n2 p8/\UpO n2 p9/\UpO n2 p10) (l:=m) (ds:=T') (g:= .nm 7) (b:=zfV) (tm:=[some (.ro (ns.map .int))]) (by rintro s ⟨_,_,_,_,_,rfl,_⟩;rfl) (by
  rintro d hd s ⟨p7,p8,p9,p10,n2,rfl,hn2,v7,v8,v9,v10⟩
  refine⟨_,rfl, ?_⟩
  have h:=hT' d hd
  have hu:Up n2 d:=fun k hk=>by have:=h.2.2 k hk;lia
  obtain⟨q8,q9,q10,n3,hn3,w8,w9,w10,e⟩:=chk (a0:=some (.ro (ns.map .int))) (a1:=some (.int i)) (a2:=some (.lst n [.int c1, .int x1])) (a5:=some (.lst L5 (psD C))) (a6:=some (.lst L6 T)) (o8:=p8) (o9:=p9) (o10:=p10) (R:=R) hR (L:=L4) (N:=N) hN hP hO (d:=d) (tm:=[some (.lst m T'),some (.ro (ns.map .int))]) (m:=n+1) (n:=n2) h.1 h.2.1 hu v10
  refine⟨_,e,some d,q8,q9,q10,n3,rfl,by lia, ?_,w8,w9,w10⟩
  rintro _ ⟨⟩ k hk;have:=hu k hk;lia) T'.length 0 ⟨[some (.ro (ns.map .int)),some (.int i),some (.lst n [.int c1, .int x1]),some (.tup (rD R)),some (.lst L4 (nD N)),some (.lst L5 (psD C)),some (.lst L6 T),o7,o8,o9,o10],[some (.lst m T'),some (.ro (ns.map .int))],n1⟩ (by simp) ⟨o7,o8,o9,o10,n1,rfl,i4 _,u7.mono (by lia),u8.mono (by lia),u9.mono (by lia),u10.mono (by lia)⟩
 refine⟨c1,x1,n2,p7,p8,p9,p10,by lia,v7,v8,v9,v10, ?_⟩
 exact e2
theorem mk0{P:Option D->Prop}: ∀o∈([]:List (Option D)),P o:=fun _ h=>nomatch h
theorem mk1{P:Option D->Prop}{a:Option D}{r:List (Option D)}(h:P a)(h': ∀o∈r,P o): ∀o∈a::r,P o:=fun o ho=>(i0.mp ho).elim (fun e=>e▸h) (h' o)
theorem z6O(f:Nat->Option D): ∀(a b:List D),rpL f (a++b)=rpL f a++rpL f b
 |[],_=>rfl
 |d::a,b=>by erw[r8,rpL,z6O f a b]
theorem zfZ{n m:Nat}{es:List D}(hl:es.length<=900)(h: ∀e∈es,Tr e=true/\(er e).depth<=2):Th n m (.tup es):=zhO (k:=3) (by decide) (z6D hl h)
theorem z33{n m l:Nat}{es:List D}(hn:n<=l)(hm:l<m)(hl:es.length<=900)(h: ∀e∈es,Tr e=true/\(er e).depth<=2):Th n m (.lst l es):=by
 obtain⟨h1,h2⟩:=z5n (n:=n) (k:=2) (l:=l) (es:=es) hn (by lia) fun e he=>⟨z7p e (h e he).1,(h e he).2⟩
 exact⟨h1,by lia,z1H hm fun e he j hj=>by rw[K7 e (h e he).1] at hj;cases hj⟩
theorem z5r{k m:Nat}{d:D}{es:List D}(h:m≠k)(ht: ∀e∈es,Tr e=true/\(er e).depth<=2):rp (pl k d) (.lst m es)= .lst m es:=Z9 (by
 erw[y9,z1L fun e he=>(ht e he).1,i0,l6,or_false];exact fun q=>h q.symm)
noncomputable def turnM:MS:=(Y2 (Q8 (.nm 2) (Z2 z2P [(y0 0),(y0 1)]))
 (Y2 (Q8 (.nm 3) (Z2 z0J [(y0 2)]))
 (Y2 (Q8 (.nm 4) (Z2 K4 [(Z2 z2S [(y0 2),(Z2 z0c [(y0 2),(mC (.int 9))])])]))
 (Y2 (Q8 (.nm 5) (Z2 G9 [(y0 2),(y0 4)]))
 (Y2 (Q8 (.nm 6) (mCB [(y0 5),(Z2 G9 [(y0 2),(y0 4)]),(mCB [(y0 5)] tupF),(mSl (y0 5) none (some (bd (mC (.int 1)) z6k))),(mSl (y0 5) (some (mC (.int 1))) none),(mCB [] lstM)] lstM))
 (Y2 (z2B (z1S (y0 6) [(Z2 z1C [(y0 2),(y0 5)])] z7b))
 (z35 zaJ (.nm 7) zfV)))))))
theorem zd6(ns:List Int)(hl:ns.length<1000)(i:Nat)(hi:i<4)(n:Nat)(o2 o3 o4 o5 o6 o7 o8 o9 o10:Option D)(u2:UpO n o2)(u3:UpO n o3)(u4:UpO n o4)(u5:UpO n o5)(u6:UpO n o6)(u7:UpO n o7)(u8:UpO n o8)(u9:UpO n o9)(u10:UpO n o10):
 ∃n' p2 p3 p4 p5 p6 p7 p8 p9 p10,turnM ⟨[some (.ro (ns.map .int)),some (.int i),o2,o3,o4,o5,o6,o7,o8,o9,o10],[some (.ro (ns.map .int))],n⟩= .nx ⟨[some (.ro (ns.map .int)),some (.int i),p2,p3,p4,p5,p6,p7,p8,p9,p10],[some (.ro (ns.map .int))],n'⟩/\UpO n' p2/\UpO n' p3/\UpO n' p4/\UpO n' p5/\UpO n' p6/\UpO n' p7/\UpO n' p8/\UpO n' p9/\UpO n' p10:=by
 have s3:=u3.fix
 have s4:=u4.fix
 have s5:=u5.fix
 have s6:=u6.fix
 have s7:=u7.fix
 have s8:=u8.fix
 have s9:=u9.fix
 have s10:=u10.fix
 have sr:=zfW ns
 obtain⟨c,x,b0,e0⟩:=zfi ns i n (by lia) hl
 obtain⟨rs,c1,x1,n1,lr,hrs,b1,hn1,e1⟩:=zfy n c x (n+1) b0 (by lia)
 obtain⟨R,rfl,hR'⟩:=zbu hrs
 have hR:R10 R:=⟨by simpa[rD] using lr,hR'⟩
 have sR:=zby R
 obtain⟨many,c2,x2,hmany,b2,e2⟩:=zcR n c1 x1 n1 b1
 obtain⟨N0,L0,c3,x3,n3,g1,g2,g3,g4,g5,g6,b3,e3⟩:=zfx n c2 x2 many hmany n1 (by lia) b2
 obtain⟨N,n4,a1,a2,a3,a4,a5,e4⟩:=zfO L0 N0 n3 (by lia) (fun i h p hp=>by have:=g3 i h p hp;rw[<-g1] at this;exact this) g5 (fun q hq=>(g6 q hq).2)
 have hN:N.length<=24:=by lia
 have hO: ∀i (h:i<N.length),∀p∈N[i].2,p.ok (N.length:Nat) (i:Nat):=fun i h p hp=>by have:=a3 i h p hp;rw[<-a1] at this;exact this
 obtain⟨C,c5,x5,b5,hC,hCl,e5⟩:=zbw n n3 c3 x3 b3 N hN a2 hO (by lia) n4 a4 (fun q hq=>by have:=a5 q hq;lia)
 obtain⟨C2,c6,x6,b6,hC2,hCl2,e6⟩:=zbw n n3 c5 x5 b5 N hN a2 hO (by lia) (n4+1) (by lia) (fun q hq=>by have:=a5 q hq;lia)
 have tp: ∀{C:List Pz},S24 C->∀e∈psD C,Tr e=true/\(er e).depth<=2:=fun{C} hC e he=>by
  obtain⟨p,hp,rfl⟩:=A4.mp he
  exact zaH (hC p hp)
 have lp:(psD C).length<=24:=by simpa[psD] using hCl
 have lp2:(psD C2).length<=24:=by simpa[psD] using hCl2
 have sN: ∀d,rp (pl n d) (.lst n3 (nD N))= .lst n3 (nD N):=z0W (by lia) fun q hq=>by have:=a5 q hq;lia
 have sC: ∀d,rp (pl n d) (.lst n4 (psD C))= .lst n4 (psD C):=z03 (by lia)
 unfold turnM
 left
 rw[e0]
 left
 rw[e1,Z5 rfl rfl rfl (fun q=>by left;erw[sr,s3,s4,s5,s6,s7,s8,s9,s10];rfl) (fun q=>by left;erw[sr];rfl)]
 left
 rw[e2,Z5 rfl rfl rfl (fun q=>by left;erw[sr,sR,s4,s5,s6,s7,s8,s9,s10];rfl) (fun q=>by left;erw[sr];rfl)]
 left
 rw[e3,Z5 rfl rfl rfl (fun q=>by left;erw[sr,sR,s4,s5,s6,s7,s8,s9,s10];rfl) (fun q=>by left;erw[sr];rfl)]
 left
 rw[e4]
 left
 have K5: ∀{b:List D} {d:Option D},Okn n n3 b N d->Okn n n3 b N d:=fun h=>h
 have hq3: ∀q∈N,n<q.1:=fun q hq=>by have:=a5 q hq;lia
 have hq4: ∀q∈N,q.1<n4:=fun q hq=>(a5 q hq).2
 have n3':n<n3:=by lia
 rw[e5,zfX rfl rfl n3' hq3 (mk1 (z29 (z4x ns)) (mk1 (z29 rfl) (mk1 (.inr (.inl rfl)) (mk1 (z29 (z68 R)) (mk1 (.inr (.inr rfl)) (mk1 (z0O u5 n3' hq3) (mk1 (z0O u6 n3' hq3) (mk1 (z0O u7 n3' hq3) (mk1 (z0O u8 n3' hq3) (mk1 (z0O u9 n3' hq3) (mk1 (z0O u10 n3' hq3) mk0))))))))))) (mk1 (z29 (z4x ns)) mk0)]
 left
 erw[sr,sR,sN,s5,s6,s7,s8,s9,s10]
 try (left)
 rw[e6,zfX rfl rfl n3' hq3 (mk1 (z29 (z4x ns)) (mk1 (z29 rfl) (mk1 (.inr (.inl rfl)) (mk1 (z29 (z68 R)) (mk1 (.inr (.inr rfl)) (mk1 (zbz (by lia) a4 hq4) (mk1 (z0O u6 n3' hq3) (mk1 (z0O u7 n3' hq3) (mk1 (z0O u8 n3' hq3) (mk1 (z0O u9 n3' hq3) (mk1 (z0O u10 n3' hq3) mk0))))))))))) (mk1 (zbz (by lia) a4 hq4) (mk1 (z29 (z4x ns)) mk0))]
 left
 erw[sr,sR,sN,sC,s6,s7,s8,s9,s10]
 try (left)
 rw[k6]
 obtain⟨ds,kk,c7,x7,n7,b7,ld,hds,hk1,hk2,e7⟩:=zfR n n4 c6 x6 b6 C hC hCl (by lia) (n4+1+1+1+1+1+1) (by lia)
 have tA: ∀lo hi,∀e∈z1q (psD C) lo hi,Tr e=true/\(er e).depth<=2:=fun lo hi e he=>tp hC e (z1o he)
 have lA: ∀lo hi,(z1q (psD C) lo hi).length<=24:=fun lo hi=>by have:= @z09 (psD C) lo hi;lia
 generalize hX:z1q (psD C) none (some (-1))=X1 at*
 generalize hY:z1q (psD C) (some 1) none=X2 at*
 have tX1: ∀e∈X1,Tr e=true/\(er e).depth<=2:=by rw[<-hX];exact tA _ _
 have tX2: ∀e∈X2,Tr e=true/\(er e).depth<=2:=by rw[<-hY];exact tA _ _
 have lX1:X1.length<=24:=by rw[<-hX];exact lA _ _
 have lX2:X2.length<=24:=by rw[<-hY];exact lA _ _
 clear hX hY tA lA
 generalize hT0:[D.lst n4 (psD C), .lst (n4+1) (psD C2), .tup (psD C), .lst (n4+1+1) X1, .lst (n4+1+1+1) X2, .lst (n4+1+1+1+1) []]=T0
 have lT0:T0.length=6:=by rw[<-hT0];rfl
 have hT0': ∀k,n4+1+1+1+1<k->∀e∈T0,Th (n+1) k e:=fun k hk e he=>by
  rw[<-hT0] at he
  erw[i0,l6,or_false] at he
  rcases he with rfl|rfl|rfl|rfl|rfl|rfl
  ·exact z33 (by lia) (by lia) (by lia) (tp hC)
  ·exact z33 (by lia) (by lia) (by lia) (tp hC2)
  ·exact zfZ (by lia) (tp hC)
  ·exact z33 (by lia) (by lia) (by lia) tX1
  ·exact z33 (by lia) (by lia) (by lia) tX2
  ·exact z33 (by lia) (by lia) (by simp) (fun _ h=>nomatch h)
 have cT0:rpL (pl n4 (.lst n4 (psD C))) T0=T0:=by
  rw[<-hT0]
  have z: ∀k d,rp (pl k d) (.tup (psD C))= .tup (psD C):=fun k d=>Z9 (by erw[y9,X6];exact l6)
  erw[rpL,z6A,z,z5r (show n4+1≠n4 by lia) (tp hC2),z5r (show n4+1+1≠n4 by lia) tX1,z5r (show n4+1+1+1≠n4 by lia) tX2,z5r (show n4+1+1+1+1≠n4 by lia) (es:=[]) (fun _ h=>nomatch h)]
 have sT0: ∀d,rp (pl n d) (.lst (n4+1+1+1+1+1) T0)= .lst (n4+1+1+1+1+1) T0:=z4o (hT0' (n4+1+1+1+1+1) (by lia)) (by lia)
 have t6:rp (pl n4 (.lst n4 (psD C))) (.lst (n4+1+1+1+1+1) T0)= .lst (n4+1+1+1+1+1) T0:=z6N (by lia) cT0
 have tN: ∀d,rp (pl n4 d) (.lst n3 (nD N))= .lst n3 (nD N):=fun d=>Z9 fun h=>B1 _ (z2Z a4 hq4 n4 h)
 have tB: ∀d (c x:Int),rp (pl n4 d) (.lst n [.int c, .int x])= .lst n [.int c, .int x]:=fun d c x=>z28 (by lia)
 have v7:=u7.fixk (show n<=n4 by lia)
 have v8:=u8.fixk (show n<=n4 by lia)
 have v9:=u9.fixk (show n<=n4 by lia)
 have v10:=u10.fixk (show n<=n4 by lia)
 have w7:=u7.fixk (show n<=n4+1+1+1+1+1 by lia)
 have w8:=u8.fixk (show n<=n4+1+1+1+1+1 by lia)
 have w9:=u9.fixk (show n<=n4+1+1+1+1+1 by lia)
 have w10:=u10.fixk (show n<=n4+1+1+1+1+1 by lia)
 have wN: ∀d,rp (pl (n4+1+1+1+1+1) d) (.lst n3 (nD N))= .lst n3 (nD N):=fun d=>Z9 fun h=>by have:=z2Z a4 hq4 _ h;lia
 have wB: ∀d (c x:Int),rp (pl (n4+1+1+1+1+1) d) (.lst n [.int c, .int x])= .lst n [.int c, .int x]:=fun d c x=>z28 (by lia)
 have wC: ∀d,rp (pl (n4+1+1+1+1+1) d) (.lst n4 (psD C))= .lst n4 (psD C):=z03 (by lia)
 left
 rw[e7,zfS (σ1:=fun q=>[some (.ro (ns.map .int)),some (.int i),some q,some (.tup (rD R)),some (.lst n3 (nD N)),some (.lst n4 (psD C)),some (.lst (n4+1+1+1+1+1) T0),o7,o8,o9,o10]) (tm1:=fun _=>[some (.lst (n4+1+1+1+1+1) T0),some (.ro (ns.map .int))]) rfl rfl (X6 C) (by lia)
  (by left;erw[sr,sR,tB,tN,t6,v7,v8,v9,v10]) (by left;erw[sr,t6])
  (fun q=>by left;erw[sr,sR,sN,sC,sT0,s7,s8,s9,s10]) (fun q=>by left;erw[sr,sT0])]
 left
 rw[zar ⟨by rw[zl,lT0];decide,by erw[y9,z1L fun e he=>(hds e he).1,i0,l6,or_false];lia⟩]
 left
 erw[sr,sR,wB,wN,wC,w7,w8,w9,w10]
 obtain⟨c8,x8,n8,p7,p8,p9,p10,hn8,z7,z8,z9,z10,e8⟩:=zd5 ns i c7 x7 n n3 n4 (n4+1+1+1+1+1) n7 R hR N C (T0++[.lst kk ds]) o7 o8 o9 o10 b7 (by lia) (fun q hq=>⟨hq3 q hq,hq4 q hq⟩) a4 (by lia) (by lia) hN (fun q hq=>by have:=(a2 q hq).1;lia) hO hC hCl (fun e he=>by
  rcases i3.mp he with he|he
  ·exact hT0' n7 (by lia) e he
  ·rw[m9.mp he];exact z33 (by lia) hk2 (by lia) hds) (by rw[z6O,cT0];erw[rpL,z5r (show kk≠n4 by lia) hds]) (by simp[lT0]) u7 u8 u9 u10
 refine⟨n8,_,_,_,_,_,p7,p8,p9,p10,e8,UpO.of fun j hj=> ?_,UpO.of fun j hj=> ?_,UpO.of (z2Z (by lia) fun q hq=>by have:=hq4 q hq;lia),UpO.of fun j hj=> ?_,UpO.of (z1H (by lia) fun e he=> ?_),z7,z8,z9,z10⟩
 ·erw[y9,labsL,l3,i0,l6,or_false] at hj;lia
 ·rw[z68] at hj;cases hj
 ·erw[y9,X6,i0,l6,or_false] at hj;lia
 ·rcases i3.mp he with he|he
  ·exact(hT0' n8 (by lia) e he).2.2
  ·rw[m9.mp he];exact(z33 (n:=0) (by lia) (show kk<n8 by lia) (by lia) hds).2.2
theorem zg0(ns:List Int)(hl:ns.length<1000)(n:Nat): ∃n',f_law [.ro (ns.map .int)] n= .ok (.bool true) [.ro (ns.map .int)] n':=by
 unfold f_law
 have e0:zcC=Y2 (z35 (U1 [mCB [mC (.int 2),mCB [mC (.int 4),mCB [y0 0] lenD] za0] zdc]) (.nm 1) turnM) (J3 (mC (.bool true))):=rfl
 rw[e0]
 left
 have w0:((ns.map D.int).length:Int)=ns.length:=by simp
 rw[w0]
 generalize hk:(if(if(ns.length:Int)<4 then(ns.length:Int) else 4)>2 then(if(ns.length:Int)<4 then(ns.length:Int) else 4) else(2:Int))=k
 have hk0:0<=k/\k<=4:=by split at hk<;>(try split at hk)<;>lia
 rw[z2V ⟨by lia,by lia⟩]
 left
 obtain⟨s',e2,o1,o2,o3,o4,o5,o6,o7,o8,o9,o10,m,rfl,u2,u3,u4,u5,u6,u7,u8,u9,u10⟩:=z2W (P:=fun i s=> ∃(o1 o2 o3 o4 o5 o6 o7 o8 o9 o10:Option D) (n:Nat),s=⟨[some (.ro (ns.map .int)),o1,o2,o3,o4,o5,o6,o7,o8,o9,o10],[some (.ro (ns.map .int))],n⟩/\UpO n o2/\UpO n o3/\UpO n o4/\UpO n o5/\UpO n o6/\UpO n o7/\UpO n o8/\UpO n o9/\UpO n o10) (lo:=0) (N:=k.toNat) (g:= .nm 1) (b:=turnM) (by
  rintro i hi s ⟨o1,o2,o3,o4,o5,o6,o7,o8,o9,o10,n,rfl,u2,u3,u4,u5,u6,u7,u8,u9,u10⟩
  refine⟨[some (.ro (ns.map .int)),some (.int i),o2,o3,o4,o5,o6,o7,o8,o9,o10],by erw[L9];rfl, ?_⟩
  obtain⟨n',p2,p3,p4,p5,p6,p7,p8,p9,p10,e,v2,v3,v4,v5,v6,v7,v8,v9,v10⟩:=zd6 ns hl i (by lia) n o2 o3 o4 o5 o6 o7 o8 o9 o10 u2 u3 u4 u5 u6 u7 u8 u9 u10
  exact⟨_,e,_,p2,p3,p4,p5,p6,p7,p8,p9,p10,n',rfl,v2,v3,v4,v5,v6,v7,v8,v9,v10⟩) k.toNat 0 ⟨[some (.ro (ns.map .int)),none,none,none,none,none,none,none,none,none,none],[some (.ro (ns.map .int))],n⟩ (by lia) ⟨none,none,none,none,none,none,none,none,none,none,n,rfl,nofun,nofun,nofun,nofun,nofun,nofun,nofun,nofun,nofun⟩
 rw[e2]
 left
 exact⟨m,rfl⟩
end My
set_option maxHeartbeats 4000000
namespace Mi
open PySem L2 PySem.Spec PyProof.Rows
noncomputable def z9t(K:W.Frag)(np:Nat)(f:FM):Sp:=fun vs H Q E=>vs.length=np/\∀G:Gx,G.K=K->KD K H->spM G np f vs H Q E
theorem zg1{P:Program}{w:World}{K:W.Frag}{mg:Str->Option Value}{base:Heap}{CX:CXT}{k:Nat}{fa:Addr}{fd:FuncData}{x:Str}{f:FM}{G:Gx}(hG:G.K=K)(F:FnOk P w K mg base CX k fa fd [x] (spM G 1 f)):FnOk P w K mg base CX k fa fd [x] (z9t K 1 f):=
 ⟨fun _ _ _ _ h=>h.1,fun A outer s H args us vs Q E hr e0 hb hv h=>F.run A outer s H args us vs Q E hr e0 hb hv (h.2 G hG fun a o e=>(e0.bs a o (e0.mod.kin a o e)).2)⟩
theorem RDs.ints{G:Gx}{ρ:Nat->Addr}{H:Hp}: ∀ns:List Int,RDs G ρ H (ns.map D.int) (ns.map V.int)
 |[]=>by erw[l9,RDs]
 |n::ns=>by
  erw[i6,RDs]
  exact⟨_,_,rfl,by erw[RD],RDs.ints ns⟩
theorem z5s: ∀ns:List Int,labsL (ns.map D.int)=[]
 |[]=>by erw[l9,labsL]
 |n::ns=>by erw[i6,labsL,y9,z5s ns,m8]
theorem zg2{K:W.Frag}{H:Hp}{a:Addr}{ns:List Int}{f:FM}{E:XK}(e: ∀n,∃n',f [.ro (ns.map D.int)] n= .ok (.bool true) [.ro (ns.map D.int)] n')(hO:zg8 H)(hS:SqL K H a (ns.map V.int)):z9t K 1 f [.ref a] H (fun v _=>v= .bl true) E:=by
 refine⟨rfl,fun G hG kd=> ?_⟩
 subst hG
 refine⟨rfl,fun _=>a,0,[.ro (ns.map D.int)], ?_,fun i j hi=>absurd hi (T1 _),fun l hl=>absurd hl (T1 _),fun l hl=> ?_,kd, ?_⟩
 ·erw[RDs,RD]
  refine⟨_,_,rfl,⟨a,ns.map V.int,rfl, ?_,RDs.ints ns⟩,rfl⟩
  rcases hS with(h|h)|h
  ·rcases hO a with z|⟨o,xs,z⟩<;>rw[h] at z<;>cases z
  ·exact .inl h
  ·exact .inr h
 ·erw[labsL,y9,z5s,l3] at hl
  cases hl
 ·obtain⟨n',e⟩:=e 0
  rw[e]
  intro ρ' v H' _ rd _
  erw[RD] at rd
  exact rd
end Mi
namespace My
open PySem L2 Mi
structure DA(K:W.Frag)(x:Str)(st:Stmt)(f:Addr)(d:FuncData):Prop where
 a:W.nsIn K mainGlobals x=some (some (.ref f))
 F:Fun K x x st f d
theorem zi9{K:W.Frag}{x:Str}{st:Stmt}{f:Addr}{oc:Value}{od an:Option Addr}{sl:Array (Option Value)}{kV dc pm cd ct:Value}(a:W.nsIn K mainGlobals x=some (some (.ref f)))
 (l:K.lookup f=some ⟨oc,od, .func (W.fnOf x x (z1c st) (k7 st) (Z3 st) .none kV dc pm an cd ct),sl⟩) (c:W.codeIn K cd x=true) (k:W.keepIn K (.ref f)=true):
 DA K x st f (W.fnOf x x (z1c st) (k7 st) (Z3 st) .none kV dc pm an cd ct):=⟨a,zdT l c k⟩
noncomputable def dx{K:W.Frag}{h:Heap}{mg:Str->Option Value}{x:Str}{st:Stmt}{f:Addr}{d:FuncData}{ps:List Str}(X:K.In h)(G:h.Ns mainGlobals mg)(a:DA K x st f d)
 (b: ∀(kV dc pm:Value) (an:Option Addr) (cd ct:Value) (us:List Value),us.length=ps.length->bindArgs (W.fnOf x x (z1c st) (k7 st) (Z3 st) .none kV dc pm an cd ct) ⟨us,[]⟩=pure (ps.zip us)):Dx K mg x st ps:=
 ⟨f,d,a.F,a.F.binds b,W.mg_of X G a.a⟩
theorem zg3{l:W.OpenLaw}{w:World}{K:W.Frag}{h:Heap}{mg:Str->Option Value}{fa f0 f1 f2 f3 f4 f5 f6 f7 f8 f9 f10 f11 f12 f13 f14 f15 f16 f17 f18 f19 f20 f21 f22 f23:Addr}{d0 d1 d2 d3 d4 d5 d6 d7 d8 d9 d10 d11 d12 d13 d14 d15 d16 d17 d18 d19 d20 d21 d22 d23:FuncData}(X:K.In h)(G:h.Ns mainGlobals mg)(hfa:mg "law" =some (.ref fa))
 (a0:DA K "is_number" z0m f0 d0)
 (a1:DA K "has_piece_kinds" G6 f1 d1)
 (a2:DA K "is_cutting" z05 f2 d2)
 (a3:DA K "cutting_cost" V9 f3 d3)
 (a4:DA K "_law_bag" z5M f4 d4)
 (a5:DA K "_law_take" z43 f5 d5)
 (a6:DA K "_law_whole" z2G f6 d6)
 (a7:DA K "_law_from" z44 f7 d7)
 (a8:DA K "_law_is_row" z1T f8 d8)
 (a9:DA K "_law_is_piece" z0D f9 d9)
 (a10:DA K "_law_copied" z1U f10 d10)
 (a11:DA K "_law_odd" z5N f11 d11)
 (a12:DA K "_law_bent" z45 f12 d12)
 (a13:DA K "_law_signs" z2H f13 d13)
 (a14:DA K "_law_cost" z46 f14 d14)
 (a15:DA K "_law_places" z1V f15 d15)
 (a16:DA K "_law_net" z5O f16 d16)
 (a17:DA K "_law_rates" z2I f17 d17)
 (a18:DA K "_law_cutting_cost" x9 f18 d18)
 (a19:DA K "_law_leads" z2J f19 d19)
 (a20:DA K "_law_cutting" z1g f20 d20)
 (a21:DA K "_law_chained" z1h f21 d21)
 (a22:DA K "_law_true" z47 f22 d22)
 (a23:DA K "law" zcx f23 d23)
 (z0:W.nsIn K mainGlobals "abs" =some none)
 (z1:W.nsIn K mainGlobals "all" =some none)
 (z2:W.nsIn K mainGlobals "bool" =some none)
 {tk3:Nat} (z3:W.nsIn K mainGlobals "END_KIND" =some (some (.int 9 tk3)))
 (z4:W.nsIn K mainGlobals "enumerate" =some none)
 (z5:W.nsIn K mainGlobals "int" =some none)
 (z6:W.nsIn K mainGlobals "isinstance" =some none)
 (z7:W.nsIn K mainGlobals "len" =some none)
 (z8:W.nsIn K mainGlobals "list" =some none)
 (z9:W.nsIn K mainGlobals "max" =some none)
 (z10:W.nsIn K mainGlobals "min" =some none)
 (z11:W.nsIn K mainGlobals "range" =some none)
 (z12:W.nsIn K mainGlobals "sorted" =some none)
 (z13:W.nsIn K mainGlobals "sum" =some none)
 (z14:W.nsIn K mainGlobals "tuple" =some none)
 (z15:W.nsIn K mainGlobals "zip" =some none)
 : ∃fd:FuncData,(∀(s:Shared) (v:Value),BindsTo s fd ⟨[v],[]⟩ [("_law_script",v)])/\∀base:Heap,K.In base->base.Ns mainGlobals mg->FnOk l.prog w K mg base CX0 16 fa fd ["_law_script"] (z9t K 1 f_law):=by
 have e:=hfa.symm.trans (W.mg_of X G a23.a)
 cases e
 obtain⟨oc,od,kV,doc,pm,an,cdv,ct,osl,rfl,lk,hcd⟩:=a23.F.ex
 exact⟨_,fun s v=> .of_eq rfl,fun base _ _=>zg1 rfl (zeS ⟨dx X G a0 fun _ _ _ _ _ _ us hl=>match us,hl with|[_],_=>rfl,dx X G a1 fun _ _ _ _ _ _ us hl=>match us,hl with|[_],_=>rfl,dx X G a2 fun _ _ _ _ _ _ us hl=>match us,hl with|[_,_],_=>rfl,dx X G a3 fun _ _ _ _ _ _ us hl=>match us,hl with|[_,_,_],_=>rfl,dx X G a4 fun _ _ _ _ _ _ us hl=>match us,hl with|[_,_],_=>rfl,dx X G a5 fun _ _ _ _ _ _ us hl=>match us,hl with|[_,_],_=>rfl,dx X G a6 fun _ _ _ _ _ _ us hl=>match us,hl with|[_],_=>rfl,dx X G a7 fun _ _ _ _ _ _ us hl=>match us,hl with|[_,_,_],_=>rfl,dx X G a8 fun _ _ _ _ _ _ us hl=>match us,hl with|[_,_,_,_],_=>rfl,dx X G a9 fun _ _ _ _ _ _ us hl=>match us,hl with|[_,_,_],_=>rfl,dx X G a10 fun _ _ _ _ _ _ us hl=>match us,hl with|[_],_=>rfl,dx X G a11 fun _ _ _ _ _ _ us hl=>match us,hl with|[_],_=>rfl,dx X G a12 fun _ _ _ _ _ _ us hl=>match us,hl with|[_,_],_=>rfl,dx X G a13 fun _ _ _ _ _ _ us hl=>match us,hl with|[_],_=>rfl,dx X G a14 fun _ _ _ _ _ _ us hl=>match us,hl with|[_],_=>rfl,dx X G a15 fun _ _ _ _ _ _ us hl=>match us,hl with|[_,_],_=>rfl,dx X G a16 fun _ _ _ _ _ _ us hl=>match us,hl with|[_,_],_=>rfl,dx X G a17 fun _ _ _ _ _ _ us hl=>match us,hl with|[_],_=>rfl,dx X G a18 fun _ _ _ _ _ _ us hl=>match us,hl with|[_,_],_=>rfl,dx X G a19 fun _ _ _ _ _ _ us hl=>match us,hl with|[_,_],_=>rfl,dx X G a20 fun _ _ _ _ _ _ us hl=>match us,hl with|[_,_],_=>rfl,dx X G a21 fun _ _ _ _ _ _ us hl=>match us,hl with|[_],_=>rfl,dx X G a22 fun _ _ _ _ _ _ us hl=>match us,hl with|[_,_],_=>rfl,dx X G a23 fun _ _ _ _ _ _ us hl=>match us,hl with|[_],_=>rfl,W.mg_none_of X G z0,W.mg_none_of X G z1,W.mg_none_of X G z2,⟨_,W.mg_of X G z3⟩,W.mg_none_of X G z4,W.mg_none_of X G z5,W.mg_none_of X G z6,W.mg_none_of X G z7,W.mg_none_of X G z8,W.mg_none_of X G z9,W.mg_none_of X G z10,W.mg_none_of X G z11,W.mg_none_of X G z12,W.mg_none_of X G z13,W.mg_none_of X G z14,W.mg_none_of X G z15⟩)⟩
theorem zjf{l:W.OpenLaw}{q:Program}{loose:List Str}{XP:(Str->Option Value)->Heap->Prop}{YP:World->Heap->Prop}{d:DefRec}{K:Params->W.Frag}(hn:l.most=some 63)(hdf:d.params.defaults=[])
 (hY: ∀(w:World) (h:Heap),YP w h->(K w.params).In h)
 (F: ∀(w:World) (mg:Str->Option Value) (fa:Addr) (h:Heap),(K w.params).In h->h.Ns mainGlobals mg->mg d.name=some (.ref fa)->
  ∃fd:FuncData,(∀(s:Shared) (u:Value),BindsTo s fd ⟨[u],[]⟩ [("_law_script",u)])/\∀base:Heap,(K w.params).In base->base.Ns mainGlobals mg->FnOk l.prog w (K w.params) mg base CX0 16 fa fd ["_law_script"] (z9t (K w.params) 1 f_law)):
 W.WalkO q loose XP YP l.row.toRowW d [] (fun f vs=>PySem.call f vs):=
 L2.zbZ (n:=63) (k:=16) (x:= "_law_script") (CX:=fun _=>CX0) (sp:=fun w=>z9t (K w.params) 1 f_law) hn (by decide) hdf ⟨rfl,by decide,by decide,rfl⟩ hY F (fun _ _ a ns hl hO hS=>zg2 (fun n=>zg0 ns (by lia) n) hO hS) fun _ _ _ _ _ h=>h.elim
end My
inductive PySem.W.Fast:Prop|tw6412058729823241431|tw11756311016729952323|tw7262491344015450092|tw13812901745858076998|tw12042466770623545368|tw13561042500229535198|tw11398816552906423206|tw6869265378709665184|tw16789308665051240357|tw1398691657610879507|tw9772840743749313042|tw12529140657400394243|tw11674779750758861121|tw5951136722349964271|tw17572908653224621031|tw14389396950036614731|tw13542690470046987867|tw14889881983048961453|tw10764951560183370402|tw3963117050762689344|tw2427487345919627113|tw8557279309224977228|tw13260341538696859988|tw548444115511110175|tw14053592658694910435|tw5890280299981974481|tw16616247319189479266|tw18072001722226501193|tw7340899931481805930|tw14657533894773493039|tw16473374846486751878|tw1035968084175726942|tw2834990885760015082|tw11719083022614063254|tw14921833749350732906|tw14962235243991090323|tw2275794902334605498|tw4507657486763578798|tw7512951665625337014|tw10893920651719343565|tw6575184726844587176|tw10957638858178393403|tw7302897878099136351|tw4601107820930476832|tw14585112984460712018|tw12431492458379311030|tw1665357831026130092
open PySem PySem.W PyProof.Rows
set_option maxRecDepth 100000 in
set_option maxHeartbeats 0 in
theorem PySem.Challenge.cw_signbench_k17_cost_of_a_cutting_holds : PySem.Challenge.rw_signbench_k17_cost_of_a_cutting.Holds := by
 w_on;o_law;k_head;(case hw=>w_witness2)
 k_fill
 refine My.zjf (l:=PySem.Challenge.rw_signbench_k17_cost_of_a_cutting) rfl rfl (fun w h Y=>PySem.W.kIn_of Y) ?F
 case F=>
  intro w mg fa h KX G hmg
  apply My.zg3 KX G hmg<;>first|(apply My.zi9<;>k_is)|k_is|kernel_rfl|rfl|decide
