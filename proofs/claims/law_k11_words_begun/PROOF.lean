import PyProof.Rows.All
import Wide.All
import OpenK.AllK
import Wide.FinOn
import Lean
import PyProof.EqAt
import PyProof.EqKinds
import PyProof.TupleCall
import PyProof.CallStr
import PyProof.DictTruth
import PyProof.Draws
import PyProof.EnumMake
import PyProof.ListRange
import PyProof.P3Eq
import PyProof.Rows.CallKw2
import PyProof.Rows.CountFlat
import PyProof.Rows.Range3
import PyProof.Rows.ZipGen
import PyProof.SumAny
import PyProof.ZipIter
import PySem.Challenge.RW_signbench_k11_words_begun
local macro_rules|`(tactic|erw[$[$e:term],*]$[$l:location]?)=>`(tactic|simp only[$[$e:term],*]$[$l:location]?)
open List renaming mem_append_right→b6,map_cons→b7,mem_cons_of_mem→b8,mem_append_left→b9,mem_append→c9,append_nil→h9,mem_cons_self→i3,mem_singleton→i4,mem_cons→i5,replicate→i7,size_toArray→i8,length_cons→i9,map_nil→l3,mem_map→l7,nil_append→m5,forall_mem_cons→m7,length_append→m8,append_assoc→m9,length_map→n9,cons_append→o0,lookup_cons→p4,getElem_mem→p9,length_nil→t9,reverse_cons→A2,filter_cons_of_neg→A3,not_mem_nil→A4,range→A5,set_cons_zero→A6,replicate_succ→A8,filter_cons_of_pos→A9,nodup_cons→B3,reverse_nil→B4,map_append→B6,lookup→B7,zipWith_cons_cons→C0,Nodup→C1,all_eq_true→C2,set_cons_succ→C3,flatten_cons→C5,map_congr_left→C7,reverse_append→C8,zipWith→C9,length_take→D0,getElem_map→D1,drop_drop→D2,take_succ_cons→D8,filter_sublist→D9,append_eq_nil_iff→E1,take_append_drop→E3,zipIdx_cons→E8,drop_eq_getElem_cons→E9,pairwise_iff_getElem→F0,filter_eq_self→F1,zip_cons_cons→F4,eraseIdx_cons_succ→F5,drop_zero→F7,take_of_length_le→F8,map_map→F9,any_eq_true→L0,mem_iff_getElem→L3,mem_filter→L4,foldl_cons→L5,filterMap_cons→L7,drop_succ_cons→L8,foldl→M7,nodup_iff_pairwise_ne→M9,nodup_append→N1,any_cons→N4,eraseIdx_cons_zero→N7,drop_eq_nil_of_le→O0,getElem_cons_succ→O1,of_mem_zip→O6,forIn_cons→O7,length_replicate→O8,mem_range→O9,nodup_nil→P0,length_reverse→P1,mem_filterMap→P4,contains_cons→P6,zip_nil_right→P7,length_range→R3,filter_congr→R4,length_drop→R5,isEmpty_iff→R9,isEmpty_nil→S1,length→S2,nil_suffix→S3,zipIdx_nil→S4,forIn_nil→S8,flatten→T5,any_map→T6,range'→T9
open Nat renaming le_refl→c8,lt_of_lt_of_le→l8,ne_of_lt→l9,le_of_ble_eq_true→A7,le_trans→B0,lt_succ_self→B1,mod_eq_of_lt→B2,zero_le→C4,lt_succ_of_lt→C6,lt_of_le_of_lt→D3,lt_irrefl→D7,zero_add→E7,add_assoc→L1,ne_of_gt→L9,not_lt→M8,reduceAdd→N5,reduceSub→N6,le_of_eq→N9,le_of_lt→P8,mul_comm→P9,lt_trans→R0,le_succ_of_le→R1,le_of_not_lt→R6,le_add_right→R7,succ_le_succ→S0,not_lt_zero→S5,lt_or_ge→T4,sub_self→T7
open Bool renaming and_eq_true→i6,false_ne_true→l5,false_eq_true→s0,true_and→B8,eq_false_iff→D6,not_eq_true'→E5,and_true→F2,eq_iff_iff→F3,false_and→F6,noConfusion→R8,not_false→S6,and_false→S7,false_or→S9,or_false→T1,and_self→T2,true_or→T3
open Option renaming map_some→r6,getD_some→r8,isSome_map→E4,getD_none→E6,map_none→L6,isSome_iff_exists→N3,bind_some→N8
open Int renaming toNat_natCast→B9,emod_lt_of_pos→D4,emod_nonneg→E2,zero_add→I0,lt_trichotomy→N2,reduceBEq→P3
set_option Elab.async false
set_option linter.all false
set_option maxRecDepth 100000
set_option maxHeartbeats 4000000
namespace L2
open PySem PySem.Spec PyProof.Rows
noncomputable abbrev Key:=Sum Int Str
noncomputable def z6e:Key->Value->Bool
 | .inl k,v=>Value.isInt k v
 | .inr x,v=>Value.isStrOf x v
noncomputable def ziv(w:World):Key->Int
 | .inl k=>hashInt k
 | .inr x=>hashStr w x
theorem W7: ∀{k:Key} {v:Value},z6e k v=true->(∃i t,k=Sum.inl i/\v=Value.int i t)\/(∃x t,k=Sum.inr x/\v=Value.str x t)
 | .inl i,v,h=>by
  obtain⟨t,e⟩:=Value.isInt_shape (k:=i) (v:=v) h
  exact .inl ⟨i,t,rfl,e⟩
 | .inr x,v,h=>by
  obtain⟨t,e⟩:=Value.isStrOf_shape (x:=x) (v:=v) h
  exact .inr ⟨x,t,rfl,e⟩
theorem z6Z(i:Int)(t:Tok):z6e (.inl i) (.int i t)=true:=by simp[z6e,Value.isInt]
theorem z70(x:Str)(t:Tok):z6e (.inr x) (.str x t)=true:=by simp[z6e,Value.isStrOf]
theorem zdn(a b:Int):decide ((Sum.inl a:Key)=Sum.inl b)=(a==b):=by
 by_cases e:a=b
 ·subst e;simp
 ·have h: ¬(Sum.inl a:Key)=Sum.inl b:=fun q=>e (Sum.inl.inj q)
  rw[decide_eq_false h]
  exact(beq_eq_false_iff_ne.mpr e).symm
theorem zdo(a b:Str):decide ((Sum.inr a:Key)=Sum.inr b)=decide (a=b):=by
 by_cases e:a=b
 ·subst e;simp
 ·have h: ¬(Sum.inr a:Key)=Sum.inr b:=fun q=>e (Sum.inr.inj q)
  rw[decide_eq_false h,decide_eq_false e]
theorem zdp(a:Int)(b:Str):decide ((Sum.inl a:Key)=Sum.inr b)=false:=decide_eq_false (fun q=>nomatch q)
theorem zdq(a:Str)(b:Int):decide ((Sum.inr a:Key)=Sum.inl b)=false:=decide_eq_false (fun q=>nomatch q)
noncomputable def Y9(prog:Program)(w:World):PySem.KeyKind prog w Key where
 is:=z6e
 hash:=ziv w
 inj:=fun v a b ha hb=>by
  rcases W7 ha with⟨i,t,rfl,rfl⟩|⟨x,t,rfl,rfl⟩
  ·rcases W7 hb with⟨j,u,rfl,e⟩|⟨y,u,rfl,e⟩
   ·injection e with e1 _;rw[e1]
   ·exact nomatch e
  ·rcases W7 hb with⟨j,u,rfl,e⟩|⟨y,u,rfl,e⟩
   ·exact nomatch e
   ·injection e with e1 _;rw[e1]
 byValue:=fun k v h=>by
  rcases W7 h with⟨i,t,rfl,rfl⟩|⟨x,t,rfl,rfl⟩<;>rfl
 pyHash:=fun hv h=>by
  rcases W7 hv with⟨i,t,rfl,rfl⟩|⟨x,t,rfl,rfl⟩
  ·exact wpAny_pyHash_int h
  ·exact wpAny_pyHash_str h
 eqBool:=fun hu hv h=>by
  rcases W7 hu with⟨i,t,rfl,rfl⟩|⟨x,t,rfl,rfl⟩
  ·rcases W7 hv with⟨j,u,rfl,rfl⟩|⟨y,u,rfl,rfl⟩
   ·rw[zdn] at h;exact wpAny_eqBool_int h
   ·rw[zdp] at h;exact SeqAt.EqAt.int_str i t y u _ _ _ _ h
  ·rcases W7 hv with⟨j,u,rfl,rfl⟩|⟨y,u,rfl,rfl⟩
   ·rw[zdq] at h;exact SeqAt.EqAt.str_int x t j u _ _ _ _ h
   ·rw[zdo] at h;exact wpAny_eqBool_str h
 «strs» :=fun k x t v h=>by
  rcases W7 h with⟨i,u,rfl,e⟩|⟨y,u,rfl,e⟩
  ·exact nomatch e
  ·injection e with e1 _
   subst e1
   cases v<;>rfl
theorem z4M(prog:Program)(w:World)(i:Int)(t:Tok):(Y9 prog w).is (.inl i) (.int i t)=true:=z6Z i t
theorem z4N(prog:Program)(w:World)(x:Str)(t:Tok):(Y9 prog w).is (.inr x) (.str x t)=true:=z70 x t
inductive V where
 |non|bl (b:Bool)|int (i:Int)|str (x:Str)|byt (b:Array UInt8)|flt (b:UInt64)|ref (a:Addr)|ty (n:String)
 deriving DecidableEq
noncomputable def RelV:V->Value->Prop
 | .non,u=>u=Value.none
 | .bl b,u=>u=Value.bool b
 | .int i,u=> ∃t,u=Value.int i t
 | .str x,u=> ∃t,u=Value.str x t
 | .byt b,u=> ∃t,u=Value.bytes b t
 | .flt b,u=> ∃t,u=Value.float b t
 | .ref a,u=>u=Value.ref a
 | .ty n,u=>u=Value.type n
noncomputable abbrev Q9:List V->List Value->Prop:=Paired RelV
theorem Q9.length{xs:List V}{us:List Value}(r:Q9 xs us):xs.length=us.length:=Paired.length r
theorem Q9.get: ∀{xs:List V} {us:List Value} {i:Nat} {x:V},Q9 xs us->xs[i]? =some x->∃u,us[i]? =some u/\RelV x u
 |_,_,_,_, .nil,e=>by simp at e
 |_,_,0,_, .cons r _,e=>by simp at e;subst e;exact⟨_,rfl,r⟩
 |_,_,i+1,x, .cons _ t,e=>by
  obtain⟨u,h1,h2⟩:=Q9.get (i:=i) (x:=x) t (by simpa using e)
  exact⟨u,by simpa using h1,h2⟩
theorem Q9.set{x:V}{u:Value}(r:RelV x u): ∀{xs:List V} {us:List Value} (i:Nat),Q9 xs us->Q9 (xs.set i x) (us.set i u)
 |_,_,_, .nil=> .nil
 |_,_,0, .cons _ t=> .cons r t
 |_,_,i+1, .cons q t=> .cons q (Q9.set r i t)
theorem Q9.append: ∀{xs ys:List V} {us ws:List Value},Q9 xs us->Q9 ys ws->Q9 (xs++ys) (us++ws)
 |_,_,_,_, .nil,s=>s
 |_,_,_,_, .cons r t,s=> .cons r (Q9.append t s)
theorem Q9.take: ∀{xs:List V} {us:List Value} (n:Nat),Q9 xs us->Q9 (xs.take n) (us.take n)
 |_,_,0,_=> .nil
 |_,_,_+1, .nil=> .nil
 |_,_,n+1, .cons r t=> .cons r (Q9.take n t)
theorem Q9.drop: ∀{xs:List V} {us:List Value} (n:Nat),Q9 xs us->Q9 (xs.drop n) (us.drop n)
 |_,_,0,r=>r
 |_,_,_+1, .nil=> .nil
 |_,_,n+1, .cons _ t=>Q9.drop n t
noncomputable def RelO:Option V->Option Value->Prop
 |some v,some u=>RelV v u
 |none,none=>True
 |_,_=>False
noncomputable def KV{κ:Type}:List (κ×V)->List (κ×Value)->Prop:=Paired fun(p:κ×V) (q:κ×Value)=>p.1=q.1/\RelV p.2 q.2
noncomputable def kV:Key->V
 | .inl i=> .int i
 | .inr x=> .str x
theorem Paired.mapP{α β:Type}{F G:α->β->Prop}: ∀{l₁:List α} {l₂:List β},Paired F l₁ l₂->(∀a b,F a b->G a b)->Paired G l₁ l₂
 |_,_, .nil,_=> .nil
 |_,_, .cons r t,f=> .cons (f _ _ r) (Paired.mapP t f)
noncomputable abbrev NK:=List (Key⊕List Key)
section
variable(P:Program)(w:World)
noncomputable def ItN(h:Heap):Key⊕List Key->Value->Prop
 | .inl k,v=>(Y9 P w).is k v=true
 | .inr ks,v=> ∃c,v= .ref c/\IsTupleKey (Y9 P w) h ks c
noncomputable def IsN(h:Heap)(k:NK)(a:Addr):Prop:= ∃o items n,h.get? a=some o/\o.cls= .type "tuple" /\o.data= .seq items n/\Paired (ItN P w h) k items.toList
noncomputable def hsN:Key⊕List Key->Int
 | .inl k=>(Y9 P w).hash k
 | .inr ks=>tupleKeyHash (Y9 P w) ks
noncomputable def drN:Key⊕List Key->Nat
 | .inl _=>1
 | .inr ks=>ks.length+1
end
section
variable{P:Program}{w:World}{h:Heap}
theorem zbb{x y:Key⊕List Key}{v:Value}(hx:ItN P w h x v)(hy:ItN P w h y v):x=y:=by
 cases x with
 |inl k=>
  cases y with
  |inl k'=>rw[(Y9 P w).inj v k k' hx hy]
  |inr ks=>obtain⟨c,rfl,_⟩:=hy;have:=(Y9 P w).byValue _ _ hx;simp[carriedByValue] at this
 |inr ks=>
  obtain⟨c,rfl,hc⟩:=hx
  cases y with
  |inl k'=>have:=(Y9 P w).byValue _ _ hy;simp[carriedByValue] at this
  |inr ks'=>obtain⟨c',e,hc'⟩:=hy;cases e;rw[hc.inj hc']
theorem z3l: ∀{x y:NK} {vs:List Value},Paired (ItN P w h) x vs->Paired (ItN P w h) y vs->x=y
 |_,_,_, .nil, .nil=>rfl
 |_,_,_, .cons a b, .cons c d=>by rw[zbb a c,z3l b d]
variable{A:Around}{E:Value->Shared->Prop}{s:Shared}
theorem z3V{M:Model}{a:Addr}{o:Obj}{items:Array Value}{n m:Nat}{Q:Bool->Shared->Prop}(ho:s.heap.get? a=some o)(hc:o.cls= .type "tuple")(hd:o.data= .seq items n)(hi: ∀v∈items.toList,∀(R:Bool->Shared->Prop) E,R true s->wpAny M A (eqIsQuiet m v) R E s)(q:Q true s):wpAny M A (eqIsQuiet (m+1) (.ref a)) Q E s:=by
 have hT:s.TypeIs (.ref a) "tuple" :=⟨o,ho,hc⟩
 rw[eqIsQuiet]
 refine wpAny_bind (wpAny_specialOf hT PySem.F.slot_tuple_eq.lookup ?_)
 dsimp only
 refine wpAny_bind (wpAny_isInstance hT isSubtype_tuple_tuple ?_)
 rw[if_neg (by decide)]
 refine wpAny_bind (wpAny_seqItems ho hd ?_)
 refine wpAny_bind ?_
 dsimp only[r8]
 rw[<-Array.forIn_toList]
 refine wpAny_forIn_list _ (fun r b s'=>b.1=none/\s'=s/\∀v∈r,v∈items.toList) _ ?_ ?_ _ _ ⟨rfl,rfl,fun v hv=>hv⟩
 ·rintro v r b s' ⟨_,rfl,hm⟩
  refine wpAny_bind (hi v (hm v i3) _ _ ?_)
  rw[if_neg (by decide)]
  exact wpAny_pure ⟨rfl,rfl,fun u hu=>hm u (b8 _ hu)⟩
 ·rintro ⟨b1,b2⟩ s' ⟨hb,rfl,_⟩
  dsimp only at hb
  subst hb
  exact wpAny_pure q
theorem z3W{P':Program}{w':World}: ∀{ks:List Key} {vs:List Value},ItemsAre (Y9 P w) ks vs->ItemsAre (Y9 P' w') ks vs
 |_,_, .nil=> .nil
 |_,_, .cons a b=> .cons a (z3W b)
theorem z71{P':Program}{w':World}{ks:List Key}{c:Addr}(hk:IsTupleKey (Y9 P w) h ks c):IsTupleKey (Y9 P' w') h ks c:=by
 obtain⟨o,items,n,h1,h2,h3,h4⟩:=hk
 exact⟨o,items,n,h1,h2,h3,z3W h4⟩
theorem zdr{x y:Key⊕List Key}{u v:Value}(hu:A.units<cLine)(hx:ItN P w s.heap x u)(hy:ItN P w s.heap y v):SeqAt.EqAt A s u v (decide (x=y)):=fun prog w' E Q q=>by
 cases x with
 |inl k=>
  cases y with
  |inl k'=>exact(Y9 prog w').eqBool (a:=k) (b:=k') hx hy (by rw[show decide (k=k')=decide ((Sum.inl k:Key⊕List Key)=Sum.inl k') by by_cases e:k=k'<;>simp[e]];exact q)
  |inr ks=>
   obtain⟨c,rfl,o,items,n,h1,h2,h3,_⟩:=hy
   rw[decide_eq_false (fun e=>nomatch e)] at q
   rcases W7 hx with⟨i,t,rfl,rfl⟩|⟨z,t,rfl,rfl⟩
   ·exact SeqAt.EqAt.int_tuple i t ⟨o,h1,h2,n,h3⟩ hu prog w' E Q q
   ·exact SeqAt.EqAt.str_tuple z t ⟨o,h1,h2,n,h3⟩ hu prog w' E Q q
 |inr ks=>
  obtain⟨c,rfl,hc⟩:=hx
  cases y with
  |inl k'=>
   obtain⟨o,items,n,h1,h2,h3,_⟩:=hc
   rw[decide_eq_false (fun e=>nomatch e)] at q
   rcases W7 hy with⟨i,t,rfl,rfl⟩|⟨z,t,rfl,rfl⟩
   ·exact SeqAt.EqAt.tuple_int i t ⟨o,h1,h2,n,h3⟩ hu prog w' E Q q
   ·exact SeqAt.EqAt.tuple_str z t ⟨o,h1,h2,n,h3⟩ hu prog w' E Q q
  |inr ks'=>
   obtain⟨c',rfl,hc'⟩:=hy
   refine wpAny_eqBool_tuple (knd:=Y9 prog w') hu (z71 hc) (z71 hc') ?_
   rw[show decide (ks=ks')=decide ((Sum.inr ks:Key⊕List Key)=Sum.inr ks') by by_cases e:ks=ks'<;>simp[e]];exact q
theorem zbc{α:Type}[DecidableEq α](x y:List α):((A5 (min x.length y.length)).all (fun j=>decide (x[j]? =y[j]?))&&x.length==y.length)=decide (x=y):=by
 rw[F3]
 erw[i6,C2,O9,decide_eq_true_eq,beq_iff_eq]
 constructor
 ·rintro ⟨h1,h2⟩
  apply List.ext_getElem?
  intro j
  by_cases hj:j<x.length
  ·exact h1 j (by lia)
  ·rw[List.getElem?_eq_none (by lia),List.getElem?_eq_none (by lia)]
 ·rintro rfl;exact⟨fun _ _=>rfl,rfl⟩
theorem Paired.get2{α β:Type}{F:α->β->Prop}: ∀{l:List α} {m:List β},Paired F l m->∀j (h1:j<l.length) (h2:j<m.length),F l[j] m[j]
 |_,_, .cons a b,0,_,_=>a
 |_,_, .cons a b,j+1,h1,h2=>Paired.get2 b j (by simpa using h1) (by simpa using h2)
theorem zds{x y:NK}{a b:Addr}{Q:Bool->Shared->Prop}(hu:A.units+1<cLine)(hx:IsN P w s.heap x a)(hy:IsN P w s.heap y b)(q:Q (decide (x=y)) s):wpAny (model P w) A (eqBool (.ref a) (.ref b)) Q E s:=by
 by_cases e:a=b
 ·subst e
  obtain⟨o,items,n,h1,h2,h3,h4⟩:=hx
  obtain⟨o',items',n',k1,k2,k3,k4⟩:=hy
  obtain rfl:o=o':=Option.some.inj (h1.symm.trans k1)
  rw[h3] at k3
  injection k3 with k3 _
  subst k3
  obtain rfl:=z3l h4 k4
  exact SeqAt.EqAt.same _ P w E Q (by simpa using q)
 ·obtain⟨o,items,n,h1,h2,h3,h4⟩:=hx
  obtain⟨o',items',n',k1,k2,k3,k4⟩:=hy
  have l1:x.length=items.size:=by have:=Paired.length h4;simpa using this
  have l2:y.length=items'.size:=by have:=Paired.length k4;simpa using this
  refine SeqAt.EqAt.of_refs e (SeqAt.RcAt.tuples (e:=fun j=>decide (x[j]? =y[j]?)) ⟨o,h1,h2,n,h3⟩ ⟨o',k1,k2,n',k3⟩ (by lia) fun j j1 j2=> ?_) P w E Q ?_
  ·have:=zdr (A:=A.in1) (show A.units+1<cLine from hu) (Paired.get2 h4 j (by lia) (by simpa using j1)) (Paired.get2 k4 j (by lia) (by simpa using j2))
   rw[List.getElem?_eq_getElem (by lia),List.getElem?_eq_getElem (by lia)]
   simpa using this
  ·rw[<-l1,<-l2,zbc];exact q
theorem z9d{k:Key⊕List Key}{v:Value}{Q:Int->Shared->Prop}(hu:A.units<cLine)(hk:ItN P w s.heap k v)(q:Q (hsN P w k) {s with toks:=s.toks+drN k}):wpAny (model P w) A (pyHash v) Q E s:=by
 cases k with
 |inl k=>exact(Y9 P w).pyHash hk q
 |inr ks=>obtain⟨c,rfl,hc⟩:=hk;exact wpAny_pyHash_tuple hu hc q
theorem z9e{k:NK}{a:Addr}{Q:Int->Shared->Prop}(hu:A.units+1<cLine)(hk:IsN P w s.heap k a)(q:Q (reduceHash (Builtin.Tuple.tupleHashOf (k.map (hsN P w)))) {s with toks:=s.toks+((k.map drN).sum+1)}):wpAny (model P w) A (pyHash (.ref a)) Q E s:=by
 obtain⟨o,items,n,ho,hc,hd,hi⟩:=hk
 have hT:s.TypeIs (.ref a) "tuple" :=⟨o,ho,hc⟩
 unfold pyHash
 unfold pyHashByItsType
 refine wpAny_bind (wpAny_cRoomFor_or (.inr (by lia)) ?_)
 refine wpAny_bind (wpAny_specialOf hT PySem.F.slot_tuple_hash.lookup ?_)
 rw[if_neg (show ¬(some (Value.builtin "tuple.__hash__")==some Value.none)=true by rw[beq_builtin_none];decide)]
 refine wpAny_bind (wpAny_specialOf hT PySem.F.slot_tuple_hash.lookup ?_)
 refine wpAny_bind (wpAny_callSpecialIfBoundUnlessNone?_slot hT PySem.F.slot_tuple_hash (wpAny_call_entry PySem.F.slot_tuple_hash hT PySem.F.entry_tuple_hash ?_ (PySem.F.args_tuple_hash_1 _)))
 change wpAny _ A.in1 (Builtin.Tuple.tupleItemsOf (Value.ref a)>>=_) _ _ s
 refine wpAny_bind (wpAny_tupleItemsOf ho hd (wpAny_bind ?_))
 rw[<-Array.forIn_toList]
 refine wpAny_forIn_list _ (fun r (b:Array Int) s'=> ∃d l,k=d++l/\Paired (ItN P w s.heap) l r/\b.toList=d.map (hsN P w)/\s'={s with toks:=s.toks+(d.map drN).sum}) _ ?_ ?_ _ _ ⟨[],k,rfl,hi,rfl,rfl⟩
 ·rintro x r b s' ⟨d,l,rfl,hl,hb,rfl⟩
  cases hl with
  | @cons z _ l' _ h1 hl'=>
   refine wpAny_bind (z9d (A:=A.in1) (s:={s with toks:=s.toks+(d.map drN).sum}) (show A.units+1<cLine from hu) h1 ?_)
   have fin: ∃d' l2,d++z::l'=d'++l2/\Paired (ItN P w s.heap) l2 r/\(b.push (hsN P w z)).toList=d'.map (hsN P w)/\({s with toks:=s.toks+(d.map drN).sum+drN z}:Shared)={s with toks:=s.toks+(d'.map drN).sum}:=⟨d++[z],l',by simp,hl',by simp[hb],by simp[L1]⟩
   exact wpAny_pure fin
 ·rintro b s' ⟨d,l,rfl,hl,hb,rfl⟩
  cases hl
  rw[h9] at q
  change wpAny _ A.in1 (retInt (Builtin.Tuple.tupleHashOf b.toList)) _ _ _
  rw[hb]
  refine wpAny_ret_mkInt ?_
  unfold reduceHash at q
  show wpAny _ _ (if(decide (-(2:Int)^63<=Builtin.Tuple.tupleHashOf (d.map (hsN P w)))&&decide (Builtin.Tuple.tupleHashOf (d.map (hsN P w))<2^63))=true then _ else _) Q E _
  split
  ·rename_i hr
   rw[if_pos hr] at q
   exact wpAny_pure (by simpa[L1] using q)
  ·rename_i hr
   rw[if_neg hr] at q
   exact wpAny_bind (wpAny_rule (wpAny_pure (by simpa[L1] using q)))
theorem z72{k:NK}{a:Addr}{Q:Bool->Shared->Prop}(hk:IsN P w s.heap k a)(q:Q true s):wpAny (model P w) A (eqIsQuiet 8 (.ref a)) Q E s:=by
 obtain⟨o,items,n,h1,h2,h3,h4⟩:=hk
 refine z3V h1 h2 h3 (fun v hv R E' r=> ?_) q
 have all: ∀{k:NK} {vs:List Value},Paired (ItN P w s.heap) k vs->∀v∈vs,∃z,ItN P w s.heap z v:=by
  intro k vs p
  induction p with
  |nil=>intro v hv;cases hv
  |cons a b ih=>
   intro v hv
   rcases i5.mp hv with rfl|hv
   ·exact⟨_,a⟩
   ·exact ih v hv
 obtain⟨z,hz⟩:=all h4 v hv
 cases z with
 |inl k=>rw[eqIsQuiet_byValue _ ((Y9 P w).byValue _ _ hz)];exact wpAny_pure r
 |inr ks=>
  obtain⟨c,rfl,o,items,n,h1,h2,h3,h4⟩:=hz
  exact z3V h1 h2 h3 (fun v hv R E' r=>by rw[eqIsQuiet_byValue _ (h4.byValue v hv)];exact wpAny_pure r) r
theorem z73{h':Heap}{d:Addr}{o:Obj}{es:Array DictEntry}{ep:Nat}(ho:h.get? d=some o)(hd:o.data= .dict es ep)(hs:Heap.SameBut d h h'): ∀{k:NK} {vs:List Value},Paired (ItN P w h) k vs->Paired (ItN P w h') k vs:=fun p=>Paired.mapP p fun z v q=>by
 cases z with
 |inl k=>exact q
 |inr ks=>obtain⟨c,rfl,hc⟩:=q;exact⟨c,rfl,hc.keeps ho hd hs⟩
end
noncomputable def K8(P:Program)(w:World):HeapKind P w NK where
 is:=IsN P w
 hash:=fun k=>reduceHash (Builtin.Tuple.tupleHashOf (k.map (hsN P w)))
 draws:=fun k=>(k.map drN).sum+1
 room:=fun A=>A.units+1<cLine
 inj:=fun⟨o,items,n,h1,_,h3,h4⟩ ⟨o',items',n',k1,_,k3,k4⟩=>by
  obtain rfl:o=o':=Option.some.inj (h1.symm.trans k1)
  rw[h3] at k3
  injection k3 with k3 _
  subst k3
  exact z3l h4 k4
 keeps:=fun{h h' k a d o es ep} ⟨o',items,n,h1,h2,h3,h4⟩ ho hd hs=>by
  have hne:a≠d:=by
   rintro rfl
   obtain rfl:o'=o:=Option.some.inj (h1.symm.trans ho)
   rw[hd] at h3;cases h3
  exact⟨o',items,n,(hs.2 a hne).trans h1,h2,h3,z73 ho hd hs h4⟩
 pyHash:=fun hu hk q=>z9e hu hk q
 eqBool:=fun hu hx hy q=>zds hu hx hy q
 quiet:=fun hk q=>z72 hk q
theorem z0p{P:Program}{w:World}{A:Around}(hu:A.units+2<cLine):(K8 P w).room A.in1:=hu
inductive HO where
 |lst (xs:List V)
 |tup (xs:List V)
 |dK (kvs:List (Key×V))|dT (kvs:List (NK×V))
 |set (S:Int->Bool) (n:Nat)
 |ins (C dx:Addr) (fs:List (Str×V))
 |own (x:Addr)
 |xd (fs:List (Str×V))
 |met (f x:Addr)
 |rng (lo hi:Int)
 |frz (o:Obj) (u:HO)
 |tbl (ps:Array Value)
 |ext (φ:Heap->Prop)
noncomputable abbrev Hp:=Addr->Option HO
noncomputable def upd(H:Hp)(a:Addr)(o:HO):Hp:=fun b=>if b=a then some o else H b
theorem y9{H:Hp}{a:Addr}{o:HO}:upd H a o a=some o:=by unfold upd;rw[if_pos rfl]
theorem y6{H:Hp}{a b:Addr}{o:HO}(h:b≠a):upd H a o b=H b:=by unfold upd;rw[if_neg h]
theorem z0L{H:Hp}{a b:Addr}{o u:HO}(h:H a=some o)(h':H b=some u)(d:o≠u):a≠b:=by
 intro e;subst e;rw[h] at h';exact d (Option.some.inj h')
theorem J0{H:Hp}{a b:Addr}{o:HO}(h:H a=some o)(h':H b=none):a≠b:=by
 intro e;subst e;rw[h] at h';cases h'
noncomputable def TKi(H:Hp):Key⊕List Key->V->Prop
 | .inl k,x=>x=kV k
 | .inr ks,x=> ∃c,x= .ref c/\H c=some (.tup (ks.map kV))
noncomputable def TK(H:Hp)(k:NK)(b:Addr):Prop:= ∃xs,H b=some (.tup xs)/\Paired (TKi H) k xs
theorem TK.stay{H H':Hp}{k:NK}{b:Addr}(ht: ∀b xs,H b=some (.tup xs)->H' b=some (.tup xs))(h:TK H k b):TK H' k b:=by
 obtain⟨xs,h1,h2⟩:=h
 refine⟨xs,ht _ _ h1,Paired.mapP h2 fun z x q=> ?_⟩
 cases z with
 |inl k=>exact q
 |inr ks=>obtain⟨c,e,q⟩:=q;exact⟨c,e,ht _ _ q⟩
section
variable(P:Program)(w:World)
noncomputable def v4(H:Hp)(h:Heap)(a:Addr):HO->Prop
 | .lst xs=>xs.length<=sizeLine/\∃(its:List Value) (n:Nat),Q9 xs its/\h.get? a=some {cls:= .type "list",data:= .seq its.toArray n}
 | .tup xs=>xs.length<=sizeLine/\∃its:List Value,Q9 xs its/\IsTup h a its.toArray
 | .dK kvs=>kvs.length<=sizeLine/\(a==sysModules)=false/\∃vs,KV kvs vs/\h.DictOf (Y9 P w) a vs
 | .dT kvs=>kvs.length<=sizeLine/\(a==sysModules)=false/\∃xs:List (NK×Addr×Value),
  Paired (fun(p:NK×V) (q:NK×Addr×Value)=>p.1=q.1/\TK H p.1 q.2.1/\RelV p.2 q.2.2) kvs xs/\
  ∃o es ep,h.get? a=some o/\o.ExactDict/\o.data= .dict es ep/\es.toList=xs.map (entryOfKey (K8 P w))/\(xs.map (·.1)).Nodup
 | .set S n=>h.SetOf (intKind P w) a S n
 | .ins C dx fs=>H dx=some (.own a)/\fs.length<=1000/\dx≠a/\h.get? a=some (W.instObj C dx)/\
  ∃mA,h.Ns1 dx mA/\(∀f,RelO (fs.lookup f) (mA f))/\PySem.Within mA (fs.map (·.1))
 | .own _=> ∃o,h.get? a=some o
 | .xd fs=> ∃mA,h.Ns1 a mA/\∀f,RelO (fs.lookup f) (mA f)
 | .rng lo hi=> ∃t u v,h.get? a=some {cls:= .type "range",data:= .fields #[.int lo t, .int hi u, .int 1 v]}
 | .frz o u=>h.get? a=some o/\v4 H h a u
 | .tbl ps=>h.get? a=some {cls:= .none,data:= .fields ps}
 | .met f x=>h.get? a=some (W.methodObj (.ref f) (.ref x))
 | .ext φ=>φ h/\(∃o,h.get? a=some o)/\∀h1 h2:Heap,φ h1->(∀o,h1.get? a=some o->h2.get? a=some o)->φ h2
noncomputable def HOk(H:Hp)(h:Heap):Prop:= ∀a o,H a=some o->v4 P w H h a o
end
section
variable{P:Program}{w:World}{H H':Hp}{h h':Heap}{a:Addr}{o:HO}
theorem v4.lt(x:v4 P w H h a o):a<h.objs.size:=by
 cases o with
 |lst xs=>obtain⟨_,_,_,_,e⟩:=x;exact Heap.lt_size e
 |tup xs=>obtain⟨_,_,_,p⟩:=x;exact p.lt
 |dK kvs=>obtain⟨_,_,_,_,o,_,_,e,_⟩:=x;exact Heap.lt_size e
 |dT kvs=>obtain⟨_,_,_,_,o,_,_,e,_⟩:=x;exact Heap.lt_size e
 |set S n=>obtain⟨o,_,_,_,e,_⟩:=x;exact Heap.lt_size e
 |ins C dx fs=>obtain⟨_,_,_,e,_⟩:=x;exact Heap.lt_size e
 |own y=>obtain⟨_,e⟩:=x;exact Heap.lt_size e
 |xd fs=>obtain⟨_,⟨_,_,_,e,_⟩,_⟩:=x;exact Heap.lt_size e
 |rng lo hi=>obtain⟨_,_,_,e⟩:=x;exact Heap.lt_size e
 |frz ob u=>obtain⟨e,_⟩:=x;exact Heap.lt_size e
 |tbl ps=>exact Heap.lt_size (show h.get? a=some _ from x)
 |met f y=>exact Heap.lt_size (show h.get? a=some _ from x)
 |ext φ=>obtain⟨_,⟨_,e⟩,_⟩:=x;exact Heap.lt_size e
theorem v4.stay(x:v4 P w H h a o)(k: ∀b u,(b=a\/H b=some (.own a))->h.get? b=some u->h'.get? b=some u)
 (ho: ∀b,H b=some (.own a)->H' b=some (.own a)) (ht: ∀b xs,H b=some (.tup xs)->H' b=some (.tup xs)):v4 P w H' h' a o:=by
 induction o with
 |lst xs=>obtain⟨z,its,n,r,e⟩:=x;exact⟨z,its,n,r,k _ _ (.inl rfl) e⟩
 |tup xs=>obtain⟨z,its,r,ob,e,c⟩:=x;exact⟨z,its,r,ob,k _ _ (.inl rfl) e,c⟩
 |dK kvs=>obtain⟨z,y,vs,r,ob,es,ep,e,c⟩:=x;exact⟨z,y,vs,r,ob,es,ep,k _ _ (.inl rfl) e,c⟩
 |dT kvs=>
  obtain⟨z,y,xs,r,ob,es,ep,e,c⟩:=x
  exact⟨z,y,xs,Paired.mapP r fun p q z=>⟨z.1,z.2.1.stay ht,z.2.2⟩,ob,es,ep,k _ _ (.inl rfl) e,c⟩
 |set S n=>obtain⟨ob,es,ep,t,e,c⟩:=x;exact⟨ob,es,ep,t,k _ _ (.inl rfl) e,c⟩
 |ins C dx fs=>
  obtain⟨d,z,ne,e,mA,⟨od,es,ep,e2,c⟩,r⟩:=x
  exact⟨ho _ d,z,ne,k _ _ (.inl rfl) e,mA,⟨od,es,ep,k _ _ (.inr d) e2,c⟩,r⟩
 |own y=>obtain⟨ob,e⟩:=x;exact⟨ob,k _ _ (.inl rfl) e⟩
 |xd fs=>obtain⟨mA,⟨od,es,ep,e,c⟩,r⟩:=x;exact⟨mA,⟨od,es,ep,k _ _ (.inl rfl) e,c⟩,r⟩
 |rng lo hi=>obtain⟨t,u,v,e⟩:=x;exact⟨t,u,v,k _ _ (.inl rfl) e⟩
 |frz ob u ih=>obtain⟨e,q⟩:=x;exact⟨k _ _ (.inl rfl) e,ih q⟩
 |tbl ps=>
  have e:h.get? a=some {cls:= .none,data:= .fields ps}:=x
  show h'.get? a=some {cls:= .none,data:= .fields ps}
  exact k a _ (.inl rfl) e
 |met f y=>
  have e:h.get? a=some (W.methodObj (.ref f) (.ref y)):=x
  show h'.get? a=some (W.methodObj (.ref f) (.ref y))
  exact k a _ (.inl rfl) e
 |ext φ=>obtain⟨p,⟨o,e⟩,st⟩:=x;exact⟨st _ _ p fun o q=>k _ _ (.inl rfl) q,⟨o,k _ _ (.inl rfl) e⟩,st⟩
theorem HOk.lt(x:HOk P w H h)(e:H a=some o):a<h.objs.size:=(x a o e).lt
theorem HOk.fresh(x:HOk P w H h)(e:h.objs.size<=a):H a=none:=by
 cases q:H a with
 |none=>rfl
 |some u=>exact absurd (l8 (x.lt q) e) (D7 _)
theorem HOk.kept(x:HOk P w H h)(k: ∀b u,h.get? b=some u->h'.get? b=some u):HOk P w H h':=fun a o e=>
 (x a o e).stay (fun b u _ q=>k b u q) (fun _ q=>q) fun _ _ q=>q
theorem HOk.laid(x:HOk P w H h)(k: ∀b u,h.get? b=some u->h'.get? b=some u)(hp:h.objs.size<=a)(new:v4 P w (upd H a o) h' a o):HOk P w (upd H a o) h':=fun b u e=>by
 have hn:=x.fresh hp
 by_cases hb:b=a
 ·subst hb;rw[y9] at e;cases e;exact new
 ·rw[y6 hb] at e
  exact(x b u e).stay (fun c v _ q=>k c v q) (fun c q=>by rw[y6 (J0 q hn)];exact q) fun c xs q=>by rw[y6 (J0 q hn)];exact q
end
noncomputable def Rd(H:Hp)(a:Addr)(u:HO):Prop:=H a=some u\/∃o,H a=some (.frz o u)
theorem Rd.ok{P:Program}{w:World}{H:Hp}{h:Heap}{a:Addr}{u:HO}(r:Rd H a u)(x:HOk P w H h):v4 P w H h a u:=by
 rcases r with r|⟨o,r⟩
 ·exact x a u r
 ·obtain⟨_,q⟩:=x a _ r
  exact q
noncomputable def Mut:Option HO->Prop
 |some (.lst _)=>True
 |some (.dK _)=>True
 |some (.dT _)=>True
 |some (.set _ _)=>True
 |some (.ins _ _ _)=>True
 |some (.ext _)=>True
 |_=>False
section
variable{P:Program}{w:World}{H:Hp}{h h':Heap}{x e:Addr}{o':HO}
theorem HOk.write(ok:HOk P w H h)(mu:Mut (H x))(he:e=x\/H e=some (.own x))(k: ∀b u,b≠e->h.get? b=some u->h'.get? b=some u)(heo: ∃u,h'.get? e=some u)
 (new:v4 P w (upd H x o') h' x o'):HOk P w (upd H x o') h':=fun b u q=>by
 have nown: ∀c y,H c=some (.own y)->c≠x:=fun c y r z=>by subst z;rw[r] at mu;exact mu
 have ntup: ∀c xs,H c=some (.tup xs)->c≠x:=fun c xs r z=>by subst z;rw[r] at mu;exact mu
 by_cases hb:b=x
 ·subst hb;rw[y9] at q;cases q;exact new
 ·rw[y6 hb] at q
  by_cases hbe:b=e
  ·have q':H b=some (.own x):=by
    rcases he with z|z
    ·exact absurd (hbe.trans z) hb
    ·rw[hbe];exact z
   rw[q] at q';cases q'
   obtain⟨v,hv⟩:=heo
   exact⟨v,by rw[hbe];exact hv⟩
  ·refine(ok b u q).stay (fun c v hc r=>k c v ?_ r) (fun c r=>by rw[y6 (nown c b r)];exact r) fun c xs r=>by rw[y6 (ntup c xs r)];exact r
   rcases hc with rfl|hc
   ·exact hbe
   ·rintro rfl
    rcases he with z|z
    ·exact nown c b hc z
    ·rw[hc] at z;cases z;exact hb rfl
end
structure Un(fs ex:List Addr)(H H':Hp)(h h':Heap):Prop where
 keep: ∀b o,h.get? b=some o->H b=none->b∉fs->b∉ex->h'.get? b=some o
 slot: ∀b o,h.get? b=some o->H b=none->b∈fs->b∉ex->∃sl,h'.get? b=some {o with slots:=sl}
 free: ∀b o,h.get? b=some o->H b=none->b∉ex->H' b=none
 there: ∀b o,h.get? b=some o->b∉ex->∃o',h'.get? b=some o'
 tups: ∀b xs,H b=some (.tup xs)->H' b=some (.tup xs)
 frzs: ∀b o u,H b=some (.frz o u)->H' b=some (.frz o u)
 tbls: ∀b ps,H b=some (.tbl ps)->∃more,H' b=some (.tbl (ps++more))
section
variable{fs fs' ex ex':List Addr}{H H1 H2:Hp}{h h1 h2 h':Heap}{a x e:Addr}{o:HO}
theorem Un.any(u:Un fs ex H H1 h h1){b:Addr}{ob:Obj}(q:h.get? b=some ob)(n:H b=none)(hx:b∉ex): ∃sl,h1.get? b=some {ob with slots:=sl}:=by
 by_cases hb:b∈fs
 ·exact u.slot b ob q n hb hx
 ·exact⟨ob.slots,u.keep b ob q n hb hx⟩
theorem Un.kept(k: ∀b u,h.get? b=some u->h'.get? b=some u):Un fs ex H H h h':=
 ⟨fun b ob q _ _ _=>k b ob q,fun b ob q _ _ _=>⟨ob.slots,k b ob q⟩,fun _ _ _ n _=>n,fun b ob q _=>⟨ob,k b ob q⟩,fun _ _ q=>q,fun _ _ _ q=>q,fun _ ps q=>⟨#[],by rw[q];simp⟩⟩
theorem Un.refl:Un fs ex H H h h:=Un.kept fun _ _ q=>q
theorem Un.laid(k: ∀b u,h.get? b=some u->h'.get? b=some u)(hp:h.objs.size<=a)(hn:H a=none):Un fs ex H (upd H a o) h h' where
 keep:=fun b u q _ _ _=>k b u q
 slot:=fun b u q _ _ _=>⟨u.slots,k b u q⟩
 free:=fun b u q n _=>by rw[y6 (l9 (l8 (Heap.lt_size q) hp))];exact n
 there:=fun b u q _=>⟨u,k b u q⟩
 tups:=fun b xs q=>by rw[y6 (J0 q hn)];exact q
 frzs:=fun b u xs q=>by rw[y6 (J0 q hn)];exact q
 tbls:=fun b ps q=>⟨#[],by rw[y6 (J0 q hn),q];simp⟩
theorem Un.write(mu:Mut (H x))(he:e=x\/H e=some (.own x))(k: ∀b u,b≠e->h.get? b=some u->h'.get? b=some u)(heo: ∃u,h'.get? e=some u):Un fs ex H (upd H x o) h h':=by
 have hx: ∀b,H b=none->b≠x:=fun b n z=>by subst z;rw[n] at mu;exact mu
 have hb: ∀b,H b=none->b≠e:=fun b n z=>by
  subst z
  rcases he with r|r
  ·exact hx b n r
  ·rw[n] at r;cases r
 have hm: ∀b u,H b=some u->¬Mut (some u)->b≠x:=fun b u q nm z=>by subst z;rw[q] at mu;exact nm mu
 refine⟨fun b u q n _ _=>k b u (hb b n) q,fun b u q n _ _=>⟨u.slots,k b u (hb b n) q⟩,fun b u q n _=>by rw[y6 (hx b n)];exact n,fun b u q _=> ?_,
  fun b xs q=>by rw[y6 (hm b _ q fun z=>z)];exact q,fun b u xs q=>by rw[y6 (hm b _ q fun z=>z)];exact q,fun b ps q=>⟨#[],by rw[y6 (hm b _ q fun z=>z),q];simp⟩⟩
 by_cases hbe:b=e
 ·subst hbe;exact heo
 ·exact⟨u,k b u hbe q⟩
end
noncomputable def trk(h:Heap)(H:Hp):List Addr:=(A5 h.objs.size).filter fun a=>(H a).isSome
noncomputable def z9f(h:Heap)(H:Hp):Heap:=W.hideAll h (trk h H)
theorem z74(h:Heap)(H:Hp):(z9f h H).objs.size=h.objs.size:=W.hideAll_size _ _
theorem z9g{h:Heap}{H:Hp}{b:Addr}{o:Obj}(e:h.get? b=some o)(n:H b=none):(z9f h H).get? b=some o:=
 W.hideAll_get _ e fun hm=>by
  have q:(H b).isSome=true:=(L4.mp hm).2
  rw[n] at q;simp at q
theorem zbd{h:Heap}{H:Hp}{b:Addr}{o:Obj}(e:(z9f h H).get? b=some o):h.get? b=some o/\H b=none:=by
 have e':h.get? b=some o:=W.of_hideAll (trk h H) e
 refine⟨e', ?_⟩
 cases q:H b with
 |none=>rfl
 |some x=>
  have hm:b∈trk h H:=L4.mpr ⟨O9.mpr (Heap.lt_size e'),by simp[q]⟩
  have z:(z9f h H).get? b=none:=W.hideAll_none (trk h H) hm
  rw[z] at e;cases e
noncomputable def zbe(g h:Heap)(L:Addr):List (Addr×Obj):=(A5 h.objs.size).filterMap fun a=>if a=L\/(g.get? a).isSome=true then none else(h.get? a).map fun o=>(a,o)
noncomputable def rest(g h:Heap)(L d:Addr):List (Addr×Obj):=(zbe g h L).filter fun p=>decide (p.1≠d)
structure Mod(K:W.Frag)(mg:Str->Option Value)(base:Heap):Prop where
 kin:K.In base
 glob:base.Ns mainGlobals mg
 blt: ∃mb,base.Ns builtinsNs mb/\∀x:Str,x≠ "__name__" ->mb x=bootBuiltins x
 nolimit:base.NoLimit
structure Cx where
 prog:Program
 w:World
 K:W.Frag
 mg:Str->Option Value
 base:Heap
 A:Around
 N:List Str
 s₀:Shared
 H₀:Hp
 env:Env
 outer:List Env
 stack:List Env
 ex:List Addr
 fn:Str->Bool
 calm:Bool
 pn:List (Addr×Obj)
 xe:Value->Shared->Prop
noncomputable def frs(l:List Env):List Addr:=l.filterMap (·.frame)
noncomputable abbrev Cx.fs(X:Cx):List Addr:=frs X.outer
noncomputable def Vis(sc:Scope)(x:Str):Prop:=sc.names.lookup x=some .local\/sc.names.lookup x=some .cell\/sc.names.lookup x=some .free
noncomputable def Loc(sc:Scope)(x:Str):Prop:=sc.names.lookup x=some .local\/sc.names.lookup x=some .cell
noncomputable def ziw(env:Env)(h:Heap)(m:Str->Option Value)(x:Str)(u:Value):Prop:=
 (env.kindOf x=some .local/\m x=some u)\/((env.kindOf x=some .cell\/env.kindOf x=some .free)/\∃c,env.cells.lookup x=some c/\h.IsCell c (some u))
structure Cx.Ok(X:Cx):Prop where
 mod:Mod X.K X.mg X.base
 kind:X.env.scope.kind= .function
 glob:X.env.globals=mainGlobals
 blt:X.env.builtins=builtinsNs
 above:X.s₀.heap.objs.size<=X.env.locals
 inj: ∀x y c,X.env.cells.lookup x=some c->X.env.cells.lookup y=some c->x=y
 has: ∀x,(X.env.kindOf x=some .cell\/X.env.kindOf x=some .free)->∃c,X.env.cells.lookup x=some c
 cab: ∀x c,X.fn x=true->X.env.cells.lookup x=some c->X.s₀.heap.objs.size<=c
 hd:X.calm=true->X.A.handled=none
 frames:X.A.frames=some X.stack
 stk:X.stack=X.outer\/(X.stack=X.env::X.outer/\X.env.frame=some X.env.locals)
 exf: ∀b∈X.ex,b≠X.env.locals/\∀x c,X.env.cells.lookup x=some c->c≠b
 bs: ∀b o,X.base.get? b=some o->X.s₀.heap.get? b=some o/\X.H₀ b=none
 bsz:X.base.objs.size<=X.s₀.heap.objs.size
 noex: ∀b o,X.base.get? b=some o->b∉X.ex
 exfs: ∀b∈X.ex,b∉X.fs
 funs:X.s₀.heap.FunFrames X.base X.outer
 frf: ∀b∈X.fs,X.H₀ b=none
structure Inv(X:Cx)(pins:List (Addr×Obj))(σ:List (Option V))(H:Hp)(s:Shared):Prop where
 ok:X.Ok
 os:s.os=X.s₀.os
 bare:AllBare s.gens
 base:Un X.fs X.ex X.H₀ H X.s₀.heap s.heap
 loc: ∃m,s.heap.Ns X.env.locals m/\∀(i:Nat) (x:Str) (v:V),X.N[i]? =some x->σ[i]? =some (some v)->Vis X.env.scope x->∃u,RelV v u/\ziw X.env s.heap m x u
 cell: ∀x c,X.env.cells.lookup x=some c->∃v,s.heap.IsCell c v
 free:H X.env.locals=none
 freeC: ∀x c,X.env.cells.lookup x=some c->H c=none
 pin: ∀p∈X.pn++pins,s.heap.get? p.1=some p.2/\H p.1=none/\p.1≠X.env.locals/\p.1∉X.fs/\∀v,p.2.data≠ .cell v
 hok:HOk X.prog X.w H s.heap
 len:σ.length=X.N.length
section
variable{X:Cx}{pins:List (Addr×Obj)}{σ:List (Option V)}{H H':Hp}{s:Shared}{h':Heap}
theorem Cx.Ok.nofr(ok:X.Ok){b:Addr}{o:Obj}(e:X.base.get? b=some o):b∉X.fs:=fun hb=>by
 have:=(ok.funs.mem hb).1
 rw[e] at this;cases this
theorem Inv.bs(I:Inv X pins σ H s): ∀b o,X.base.get? b=some o->s.heap.get? b=some o/\H b=none:=fun b o e=>
 ⟨I.base.keep b o (I.ok.bs b o e).1 (I.ok.bs b o e).2 (I.ok.nofr e) (I.ok.noex b o e),I.base.free b o (I.ok.bs b o e).1 (I.ok.bs b o e).2 (I.ok.noex b o e)⟩
theorem Inv.bk(I:Inv X pins σ H s): ∀b o,X.base.get? b=some o->s.heap.get? b=some o:=fun b o e=>(I.bs b o e).1
theorem Inv.mod(I:Inv X pins σ H s):Mod X.K X.mg X.base:=I.ok.mod
theorem Inv.kIn(I:Inv X pins σ H s):X.K.In s.heap:=I.ok.mod.kin.keeps I.bk
theorem Inv.lt(I:Inv X pins σ H s):X.env.locals<s.heap.objs.size:=let⟨_,hn,_⟩:=I.loc;hn.lt
theorem Inv.sz(I:Inv X pins σ H s):X.s₀.heap.objs.size<=s.heap.objs.size:=B0 I.ok.above (P8 I.lt)
theorem Inv.nofs(I:Inv X pins σ H s){a:Addr}(h:s.heap.objs.size<=a):a∉X.fs:=fun hb=>by
 obtain⟨_,o,ho,_⟩:=I.ok.funs.mem hb
 exact absurd (l8 (Heap.lt_size ho) (B0 I.sz h)) (D7 _)
theorem Inv.cne(I:Inv X pins σ H s): ∀x c,X.env.cells.lookup x=some c->c≠X.env.locals:=fun x c e z=>by
 obtain⟨v,o,ho,hd⟩:=I.cell x c e
 obtain⟨m,⟨o',es,ep,ho',hd',_⟩,_⟩:=I.loc
 rw[z,ho'] at ho;cases ho;rw[hd'] at hd;cases hd
theorem Inv.funs(I:Inv X pins σ H s):s.heap.FunFrames X.base X.outer:=by
 have all: ∀(l:List Env),(∀b∈frs l,b∈X.fs)->X.s₀.heap.FunFrames X.base l->s.heap.FunFrames X.base l:=by
  intro l
  induction l with
  |nil=>intro _ _;trivial
  |cons env r ih=>
   intro hs hl
   obtain⟨hk,⟨L,o,hf,hn,ho,hd⟩,hr⟩:=hl
   have hL:L∈X.fs:=hs L (by unfold frs;rw[L7,hf];exact i3)
   obtain⟨sl,e⟩:=I.base.slot L o ho (I.ok.frf L hL) hL fun z=>I.ok.exfs L z hL
   exact⟨hk,⟨L,_,hf,hn,e,hd⟩,ih (fun b hb=>hs b (by unfold frs;rw[L7,hf];exact b8 _ hb)) hr⟩
 exact all X.outer (fun _ hb=>hb) I.ok.funs
theorem Inv.stack(I:Inv X pins σ H s):s.heap.FunFrames X.base X.stack:=by
 rcases I.ok.stk with e|⟨e,hf⟩
 ·rw[e];exact I.funs
 ·rw[e]
  obtain⟨m,hn,_⟩:=I.loc
  refine .cons (by rw[I.ok.kind];decide) hf hn ?_ I.funs
  exact Heap.get?_none_of_le (B0 I.ok.bsz I.ok.above)
theorem Inv.stkSub(I:Inv X pins σ H s): ∀b∈frs X.stack,b∈X.env.locals::X.fs:=fun b hb=>by
 rcases I.ok.stk with e|⟨e,hf⟩
 ·rw[e] at hb;exact b8 _ hb
 ·rw[e] at hb
  unfold frs at hb
  rw[L7,hf] at hb
  exact hb
theorem Inv.stkFree(I:Inv X pins σ H s): ∀b∈frs X.stack,H b=none:=fun b hb=>by
 rcases i5.mp (I.stkSub b hb) with e|hb
 ·rw[e];exact I.free
 ·obtain⟨_,o,ho,_⟩:=I.ok.funs.mem hb
  exact I.base.free b o ho (I.ok.frf b hb) fun z=>I.ok.exfs b z hb
theorem Inv.step{g':Array GenState}{t':Nat}{d':Drawn}{ch:List Addr}(I:Inv X pins σ H s)
 (hch: ∀b∈ch,(b∈X.ex\/X.s₀.heap.objs.size<=b)/\b≠X.env.locals/\(∀x c,X.env.cells.lookup x=some c->c≠b)/\∀p∈X.pn++pins,p.1≠b)
 (keep: ∀b o,b≠X.env.locals->b∉X.fs->b∉ch->s.heap.get? b=some o->H b=none->h'.get? b=some o)
 (slot: ∀b o,b≠X.env.locals->b∈X.fs->b∉ch->s.heap.get? b=some o->H b=none->∃sl,h'.get? b=some {o with slots:=sl}) (free: ∀b o,b∉ch->s.heap.get? b=some o->H b=none->H' b=none)
 (there: ∀b o,b∉ch->s.heap.get? b=some o->∃o',h'.get? b=some o')
 (tups: ∀b xs,H b=some (.tup xs)->H' b=some (.tup xs)) (frzs: ∀b o u,H b=some (.frz o u)->H' b=some (.frz o u)) (tbls: ∀b ps,H b=some (.tbl ps)->∃more,H' b=some (.tbl (ps++more)))
 (ns: ∀m,s.heap.Ns X.env.locals m->h'.Ns X.env.locals m) (hok:HOk X.prog X.w H' h') (hg:AllBare g'):
 Inv X pins σ H' {s with heap:=h',gens:=g',drawn:=d',toks:=t'}:=by
 have neL: ∀b o,X.s₀.heap.get? b=some o->b≠X.env.locals:=fun b o e=>l9 (l8 (Heap.lt_size e) I.ok.above)
 have neC: ∀b o,X.s₀.heap.get? b=some o->b∉X.ex->b∉ch:=fun b o e hx hb=>by
  rcases(hch b hb).1 with z|z
  ·exact hx z
  ·exact absurd (l8 (Heap.lt_size e) z) (D7 _)
 have cellK: ∀x c,X.env.cells.lookup x=some c->∀v,s.heap.IsCell c v->h'.IsCell c v:=fun x c e v ⟨o,ho,hd⟩=>by
  have nch:c∉ch:=fun z=>(hch c z).2.2.1 x c e rfl
  by_cases hc:c∈X.fs
  ·obtain⟨sl,q⟩:=slot c o (I.cne x c e) hc nch ho (I.freeC x c e)
   exact⟨_,q,hd⟩
  ·exact⟨o,keep c o (I.cne x c e) hc nch ho (I.freeC x c e),hd⟩
 refine⟨I.ok,I.os,hg,⟨fun b o e n hb hx=> ?_,fun b o e n hb hx=> ?_,fun b o e n hx=> ?_,fun b o e hx=> ?_,fun b xs e=>tups b xs (I.base.tups b xs e),fun b o xs e=>frzs b o xs (I.base.frzs b o xs e),fun b ps e=> ?_⟩, ?_,fun x c e=> ?_, ?_,fun x c e=> ?_,fun p hp=> ?_,hok,I.len⟩
 ·exact keep b o (neL b o e) hb (neC b o e hx) (I.base.keep b o e n hb hx) (I.base.free b o e n hx)
 ·obtain⟨sl,e1⟩:=I.base.slot b o e n hb hx
  obtain⟨sl',e2⟩:=slot b _ (neL b o e) hb (neC b o e hx) e1 (I.base.free b o e n hx)
  exact⟨sl',e2⟩
 ·obtain⟨o',e1⟩:=I.base.there b o e hx
  exact free b o' (neC b o e hx) e1 (I.base.free b o e n hx)
 ·obtain⟨o',e1⟩:=I.base.there b o e hx
  exact there b o' (neC b o e hx) e1
 ·obtain⟨m1,e1⟩:=I.base.tbls b ps e
  obtain⟨m2,e2⟩:=tbls b _ e1
  exact⟨m1++m2,by rw[e2,Array.append_assoc]⟩
 ·obtain⟨m,hn,hl⟩:=I.loc
  refine⟨m,ns m hn,fun i x v e1 e2 e3=> ?_⟩
  obtain⟨u,r,l⟩:=hl i x v e1 e2 e3
  refine⟨u,r, ?_⟩
  rcases l with l|⟨k,c,e,z⟩
  ·exact .inl l
  ·exact .inr ⟨k,c,e,cellK x c e _ z⟩
 ·obtain⟨v,z⟩:=I.cell x c e
  exact⟨v,cellK x c e v z⟩
 ·obtain⟨m,⟨o,_,_,ho,_⟩,_⟩:=I.loc
  exact free _ o (fun z=>(hch _ z).2.1 rfl) ho I.free
 ·obtain⟨v,o,ho,hd⟩:=I.cell x c e
  exact free c o (fun z=>(hch c z).2.2.1 x c e rfl) ho (I.freeC x c e)
 ·obtain⟨e,n,ne,nf,d⟩:=I.pin p hp
  have nch:p.1∉ch:=fun z=>(hch p.1 z).2.2.2 p hp rfl
  exact⟨keep p.1 p.2 ne nf nch e n,free p.1 p.2 nch e n,ne,nf,d⟩
theorem Inv.un{t':Nat}(I:Inv X pins σ H s)(u:Un X.fs [] H H' s.heap h')(hok:HOk X.prog X.w H' h'):Inv X pins σ H' {s with heap:=h',toks:=t'}:=by
 obtain⟨m,⟨o,es,ep,ho,r⟩,_⟩:=id I.loc
 obtain⟨sl,hL⟩:=u.any ho I.free (by simp)
 exact I.step (g':=s.gens) (d':=s.drawn) (ch:=[]) (fun _ z=>nomatch z) (fun b o _ hb _ e n=>u.keep b o e n hb (by simp)) (fun b o _ hb _ e n=>u.slot b o e n hb (by simp)) (fun b o _ e n=>u.free b o e n (by simp)) (fun b o _ e=>u.there b o e (by simp)) u.tups u.frzs u.tbls (fun m' hm=>by
  obtain⟨o',es',ep',ho',r'⟩:=hm
  rw[ho] at ho';cases ho'
  exact⟨_,es',ep',hL,r'⟩) hok I.bare
theorem Inv.call{g':Array GenState}{t':Nat}{d':Drawn}{ch:List Addr}(I:Inv X pins σ H s)(u:Un (frs X.stack) ch H H' s.heap h')(hok:HOk X.prog X.w H' h')(hg:AllBare g')
 (hch: ∀b∈ch,(b∈X.ex\/X.s₀.heap.objs.size<=b)/\b≠X.env.locals/\(∀x c,X.env.cells.lookup x=some c->c≠b)/\∀p∈X.pn++pins,p.1≠b):
 Inv X pins σ H' {s with heap:=h',gens:=g',drawn:=d',toks:=t'}:=by
 obtain⟨m,⟨o,es,ep,ho,r⟩,_⟩:=id I.loc
 obtain⟨sl,hL⟩:=u.any ho I.free fun z=>(hch _ z).2.1 rfl
 exact I.step (ch:=ch) hch (fun b o hL hb hc e n=>u.keep b o e n (fun z=>(i5.mp (I.stkSub b z)).elim hL hb) hc) (fun b o _ _ hc e n=>u.any e n hc) (fun b o hc e n=>u.free b o e n hc) (fun b o hc e=>u.there b o e hc) u.tups u.frzs u.tbls (fun m' hm=>by
  obtain⟨o',es',ep',ho',r'⟩:=hm
  rw[ho] at ho';cases ho'
  exact⟨_,es',ep',hL,r'⟩) hok hg
theorem Inv.turned{t':Nat}{it:Addr}(I:Inv X pins σ H s)(k: ∀b o,b≠it->s.heap.get? b=some o->h'.get? b=some o)(hn:H it=none)(hL:it≠X.env.locals)
 (h1:it∈X.ex\/X.s₀.heap.objs.size<=it) (h2: ∀x c,X.env.cells.lookup x=some c->c≠it) (h3: ∀p∈X.pn++pins,p.1≠it):Inv X pins σ H {s with heap:=h',toks:=t'}:=by
 have nit: ∀b u,H b=some u->b≠it:=fun b u e z=>by rw[z,hn] at e;cases e
 refine I.step (g':=s.gens) (d':=s.drawn) (ch:=[it]) (fun b hb=> ?_) (fun b o _ _ hc e _=>k b o (fun z=>hc (by simp[z])) e) (fun b o _ _ hc e _=>⟨o.slots,k b o (fun z=>hc (by simp[z])) e⟩) (fun _ _ _ _ n=>n)
  (fun b o hc e=>⟨o,k b o (fun z=>hc (by simp[z])) e⟩) (fun _ _ e=>e) (fun _ _ _ e=>e) (fun b ps e=>⟨#[],by rw[e];simp⟩) (fun m hm=> ?_) (fun b u e=> ?_) I.bare
 ·have e:b=it:=by simpa using hb
  subst e
  exact⟨h1,hL,h2,h3⟩
 ·obtain⟨o,es,ep,ho,r⟩:=hm
  exact⟨o,es,ep,k _ o (Ne.symm hL) ho,r⟩
 ·refine(I.hok b u e).stay (fun c v hc q=>k c v ?_ q) (fun _ q=>q) fun _ _ q=>q
  rcases hc with z|z
  ·rw[z];exact nit b u e
  ·exact nit c _ z
theorem Inv.tok(I:Inv X pins σ H s)(t:Nat):Inv X pins σ H {s with toks:=t}:=I.un (h':=s.heap) (t':=t) Un.refl I.hok
theorem Inv.kept{t':Nat}(I:Inv X pins σ H s)(k: ∀b u,s.heap.get? b=some u->h'.get? b=some u):Inv X pins σ H {s with heap:=h',toks:=t'}:=I.un (Un.kept k) (I.hok.kept k)
theorem Inv.laid{a:Addr}{o:HO}{t':Nat}(I:Inv X pins σ H s)(k: ∀b u,s.heap.get? b=some u->h'.get? b=some u)(hp:s.heap.objs.size<=a)(new:v4 X.prog X.w (upd H a o) h' a o):
 Inv X pins σ (upd H a o) {s with heap:=h',toks:=t'}:=I.un (Un.laid k hp (I.hok.fresh hp)) (I.hok.laid k hp new)
theorem Inv.write{x e:Addr}{o:HO}{t':Nat}(I:Inv X pins σ H s)(mu:Mut (H x))(he:e=x\/H e=some (.own x))(k: ∀b u,b≠e->s.heap.get? b=some u->h'.get? b=some u)(heo: ∃u,h'.get? e=some u)
 (new:v4 X.prog X.w (upd H x o) h' x o):Inv X pins σ (upd H x o) {s with heap:=h',toks:=t'}:=I.un (Un.write mu he k heo) (I.hok.write mu he k heo new)
theorem Inv.pins_of{pins':List (Addr×Obj)}(I:Inv X pins σ H s)(h: ∀p∈pins',s.heap.get? p.1=some p.2/\H p.1=none/\p.1≠X.env.locals/\p.1∉X.fs/\∀v,p.2.data≠ .cell v):Inv X pins' σ H s:=
 ⟨I.ok,I.os,I.bare,I.base,I.loc,I.cell,I.free,I.freeC,fun p hp=>(c9.mp hp).elim (fun z=>I.pin p (b9 _ z)) (h p),I.hok,I.len⟩
theorem z5u{N:List Str}(hN:N.Nodup){i j:Nat}{x:Str}(a:N[i]? =some x)(b:N[j]? =some x):i=j:=by
 obtain⟨h1,e1⟩:=List.getElem?_eq_some_iff.mp a
 obtain⟨h2,e2⟩:=List.getElem?_eq_some_iff.mp b
 exact(List.getElem_inj hN).mp (e1.trans e2.symm)
theorem z75{M:Model}{A:Around}{E:Value->Shared->Prop}{i:Nat}{x:Str}{v:V}{u:Value}{Q:Unit->Shared->Prop}(I:Inv X pins σ H s)(hN:X.N.Nodup)(hi:X.N[i]? =some x)(hx:Loc X.env.scope x)(r:RelV v u)
 (h: ∀s',Inv X pins (σ.set i (some v)) H s'->(∃a,Heap.SameBut a s.heap s'.heap/\(a=X.env.locals\/X.env.cells.lookup x=some a))->Q () s') (hf:X.fn x=true\/X.env.scope.names.lookup x=some .local:=by first|exact .inl rfl|exact .inr rfl|assumption):wpAny M A (storeName X.env x u) Q E s:=by
 obtain⟨m,hn,hl⟩:=id I.loc
 have hcls:(X.env.scope.kind== .class||(X.env.scope.kind== .module&&X.env.locals !=X.env.globals))=false:=by rw[I.ok.kind];rfl
 have hiσ:i<σ.length:=by rw[I.len];exact(List.getElem?_eq_some_iff.mp hi).1
 have cne:=I.cne
 have tracked: ∀{a:Addr} {h':Heap},(∃o,s.heap.get? a=some o/\H a=none)->Heap.SameBut a s.heap h'->HOk X.prog X.w H h':=fun{a h'} ha hs b ob e=>by
  obtain⟨_,_,hfree⟩:=ha
  refine(I.hok b ob e).stay (fun c w' hc q=>(hs.2 c ?_).trans q) (fun _ q=>q) fun _ _ q=>q
  rintro rfl
  rcases hc with rfl|hc
  ·rw[hfree] at e;cases e
  ·rw[hfree] at hc;cases hc
 rcases hx with hk|hk
 ·refine wpAny_storeName_local hk hn (fun h' hn' hs=> ?_) hcls
  obtain⟨oL,_,_,hoL,_⟩:=id hn
  refine h _ ⟨I.ok,I.os,I.bare,⟨fun b o e n hb hx=> ?_,fun b o e n hb hx=> ?_,I.base.free,fun b o e hx=> ?_,I.base.tups,I.base.frzs,I.base.tbls⟩,⟨_,hn',fun j y v' e1 e2 e3=> ?_⟩,fun y c e=> ?_,I.free,I.freeC,fun p hp=> ?_,tracked ⟨oL,hoL,I.free⟩ hs,by simpa using I.len⟩ ⟨_,hs, .inl rfl⟩
  ·exact(hs.2 b (l9 (l8 (Heap.lt_size e) I.ok.above))).trans (I.base.keep b o e n hb hx)
  ·obtain⟨sl,e1⟩:=I.base.slot b o e n hb hx
   exact⟨sl,(hs.2 b (l9 (l8 (Heap.lt_size e) I.ok.above))).trans e1⟩
  ·obtain⟨o',e1⟩:=I.base.there b o e hx
   exact⟨o',(hs.2 b (l9 (l8 (Heap.lt_size e) I.ok.above))).trans e1⟩
  ·by_cases hj:j=i
   ·subst hj
    rw[hi] at e1;cases e1
    rw[List.getElem?_set_self hiσ] at e2
    cases e2
    exact⟨u,r, .inl ⟨hk,by simp⟩⟩
   ·rw[List.getElem?_set_ne (Ne.symm hj)] at e2
    obtain⟨u',r',q⟩:=hl j y v' e1 e2 e3
    refine⟨u',r', ?_⟩
    rcases q with⟨k,e⟩|⟨k,c,e,z⟩
    ·refine .inl ⟨k, ?_⟩
     have:y≠x:=fun e=>hj (z5u hN e1 (e▸hi))
     simp[this,e]
    ·exact .inr ⟨k,c,e,z.sameBut hs (cne y c e)⟩
  ·obtain⟨w',z⟩:=I.cell y c e
   exact⟨w',z.sameBut hs (cne y c e)⟩
  ·obtain⟨e,n,ne,nf,d⟩:=I.pin p hp
   exact⟨(hs.2 p.1 ne).trans e,n,ne,nf,d⟩
 ·have hfn:X.fn x=true:=by
   rcases hf with z|z
   ·exact z
   ·rw[z] at hk;cases hk
  obtain⟨c,hc⟩:=I.ok.has x (.inl hk)
  obtain⟨w',z⟩:=I.cell x c hc
  refine wpAny_storeName_cell I.ok.kind hk hc z (fun h' hc' hs=> ?_)
  obtain⟨oc,hoc,hocd⟩:=id z
  refine h {s with heap:=h'} ⟨I.ok,I.os,I.bare,⟨fun b o e n hb hx=> ?_,fun b o e n hb hx=> ?_,I.base.free,fun b o e hx=> ?_,I.base.tups,I.base.frzs,I.base.tbls⟩,⟨m,hn.sameBut hs (Ne.symm (cne x c hc)),fun j y v' e1 e2 e3=> ?_⟩,fun y c' e=> ?_,I.free,I.freeC,fun p hp=> ?_,tracked ⟨oc,hoc,I.freeC x c hc⟩ hs,by simpa using I.len⟩ ⟨c,hs, .inr hc⟩
  ·exact(hs.2 b (l9 (l8 (Heap.lt_size e) (I.ok.cab x c hfn hc)))).trans (I.base.keep b o e n hb hx)
  ·obtain⟨sl,e1⟩:=I.base.slot b o e n hb hx
   exact⟨sl,(hs.2 b (l9 (l8 (Heap.lt_size e) (I.ok.cab x c hfn hc)))).trans e1⟩
  ·obtain⟨o',e1⟩:=I.base.there b o e hx
   exact⟨o',(hs.2 b (l9 (l8 (Heap.lt_size e) (I.ok.cab x c hfn hc)))).trans e1⟩
  ·by_cases hj:j=i
   ·subst hj
    rw[hi] at e1;cases e1
    rw[List.getElem?_set_self hiσ] at e2
    cases e2
    exact⟨u,r, .inr ⟨.inl hk,c,hc,hc'⟩⟩
   ·rw[List.getElem?_set_ne (Ne.symm hj)] at e2
    obtain⟨u',r',q⟩:=hl j y v' e1 e2 e3
    refine⟨u',r', ?_⟩
    rcases q with q|⟨k,c',e,z'⟩
    ·exact .inl q
    ·refine .inr ⟨k,c',e,z'.sameBut hs ?_⟩
     rintro rfl
     exact hj (z5u hN e1 (I.ok.inj _ _ _ e hc▸hi))
  ·by_cases hcc:c'=c
   ·subst hcc;exact⟨_,hc'⟩
   ·obtain⟨w2,z2⟩:=I.cell y c' e
    exact⟨w2,z2.sameBut hs hcc⟩
  ·obtain⟨e,n,ne,nf,d⟩:=I.pin p hp
   refine⟨(hs.2 p.1 ?_).trans e,n,ne,nf,d⟩
   intro q
   rw[q,hoc] at e
   have q':oc=p.2:=Option.some.inj e
   exact d w' (by rw[<-q'];exact hocd)
theorem z3m{M:Model}{A:Around}{E:Value->Shared->Prop}{i:Nat}{x:Str}{v:V}{u:Value}{Q:Unit->Shared->Prop}(I:Inv X pins σ H s)(hN:X.N.Nodup)(hi:X.N[i]? =some x)(hx:Loc X.env.scope x)(r:RelV v u)
 (h: ∀s',Inv X pins (σ.set i (some v)) H s'->Q () s') (hf:X.fn x=true\/X.env.scope.names.lookup x=some .local:=by first|exact .inl rfl|exact .inr rfl|assumption):wpAny M A (storeName X.env x u) Q E s:=
 z75 I hN hi hx r (fun s' I' _=>h s' I') hf
theorem Inv.call'{s':Shared}{ch:List Addr}(I:Inv X pins σ H s)(ho:s'.os=s.os)(u:Un (frs X.stack) ch H H' s.heap s'.heap)(hok:HOk X.prog X.w H' s'.heap)(hg:AllBare s'.gens)
 (hch: ∀b∈ch,(b∈X.ex\/X.s₀.heap.objs.size<=b)/\b≠X.env.locals/\(∀x c,X.env.cells.lookup x=some c->c≠b)/\∀p∈X.pn++pins,p.1≠b):Inv X pins σ H' s':=by
 obtain⟨h',g',d',t',o'⟩:=s'
 have e:o'=s.os:=ho
 subst e
 exact I.call (g':=g') (t':=t') (d':=d') u hok hg hch
end
noncomputable abbrev XK:=Value->Option Addr->Hp->Prop
noncomputable abbrev St:=List (Option V)
noncomputable abbrev VK:=V->Hp->Prop
noncomputable abbrev TE:=St->Hp->VK->Prop
noncomputable abbrev TT:=St->Hp->(Bool->Hp->Prop)->Prop
noncomputable abbrev TA:=St->Hp->(List V->Hp->Prop)->Prop
structure z5v where
 nx:St->Hp->Prop
 rt:VK
 bk:St->Hp->Prop:=fun _ _=>False
 ct:St->Hp->Prop:=fun _ _=>False
noncomputable abbrev TS:=z5v->St->Hp->Prop
noncomputable def EP(X:Cx)(pins:List (Addr×Obj))(σ:St)(Q:VK)(u:Value)(s':Shared):Prop:= ∃v H',Inv X pins σ H' s'/\RelV v u/\Q v H'
noncomputable def TP(X:Cx)(pins:List (Addr×Obj))(σ:St)(Q:Bool->Hp->Prop)(b:Bool)(s':Shared):Prop:= ∃H',Inv X pins σ H' s'/\Q b H'
noncomputable def AP(X:Cx)(pins:List (Addr×Obj))(σ:St)(Q:List V->Hp->Prop)(us:List Value)(s':Shared):Prop:= ∃vs H',Inv X pins σ H' s'/\Q9 vs us/\Q vs H'
noncomputable def SP(X:Cx)(pins:List (Addr×Obj))(D:z5v)(f:Flow)(s':Shared):Prop:=
 match f with
 | .next=> ∃σ' H',Inv X pins σ' H' s'/\D.nx σ' H'
 | .brk=> ∃σ' H',Inv X pins σ' H' s'/\D.bk σ' H'
 | .cont=> ∃σ' H',Inv X pins σ' H' s'/\D.ct σ' H'
 | .ret u=> ∃v σ' H',Inv X pins σ' H' s'/\RelV v u/\D.rt v H'
noncomputable def PE(X:Cx)(e:Expr)(t:TE):Prop:=
 ∀(pins:List (Addr×Obj)) (s:Shared) (σ:St) (H:Hp) (Q:VK),Inv X pins σ H s->t σ H Q->wpAny (model X.prog X.w) X.A (eval e X.env) (EP X pins σ Q) X.xe s
noncomputable def PT(X:Cx)(e:Expr)(t:TT):Prop:=
 ∀(pins:List (Addr×Obj)) (s:Shared) (σ:St) (H:Hp) (Q:Bool->Hp->Prop),Inv X pins σ H s->t σ H Q->wpAny (model X.prog X.w) X.A (isTrue e X.env (eval e X.env)) (TP X pins σ Q) X.xe s
noncomputable def PW(X:Cx)(e:Expr)(t:TT):Prop:=
 ∀(whole:Sem Value) (pins:List (Addr×Obj)) (s:Shared) (σ:St) (H:Hp) (Q:Bool->Hp->Prop),Inv X pins σ H s->t σ H Q->wpAny (model X.prog X.w) X.A (isTrue e X.env whole) (TP X pins σ Q) X.xe s
theorem PW.pt{X:Cx}{e:Expr}{t:TT}(h:PW X e t):PT X e t:=h _
noncomputable def PA(X:Cx)(es:List Expr)(t:TA):Prop:=
 ∀(pos:Pos) (pins:List (Addr×Obj)) (s:Shared) (σ:St) (H:Hp) (Q:List V->Hp->Prop),Inv X pins σ H s->t σ H Q->wpAny (model X.prog X.w) X.A (spliced (backTo pos (starEach es X.env))) (AP X pins σ Q) X.xe s
noncomputable def PS(X:Cx)(st:Stmt)(t:TS):Prop:=
 ∀(pins:List (Addr×Obj)) (s:Shared) (σ:St) (H:Hp) (D:z5v),Inv X pins σ H s->t D σ H->wpAny (model X.prog X.w) X.A (exec st X.env) (SP X pins D) X.xe s
noncomputable def PSs(X:Cx)(st:List Stmt)(t:TS):Prop:=
 ∀(pins:List (Addr×Obj)) (s:Shared) (σ:St) (H:Hp) (D:z5v),Inv X pins σ H s->t D σ H->wpAny (model X.prog X.w) X.A (execs st X.env) (SP X pins D) X.xe s
theorem thn{α:Type}{t:Sem α}{Q Q':α->Shared->Prop}{M:Model}{A:Around}{E:Value->Shared->Prop}{s:Shared}(h:wpAny M A t Q E s)(hQ: ∀a s,Q a s->Q' a s):wpAny M A t Q' E s:=wpAny_mono h hQ fun _ _ x=>x
section
variable{X:Cx}
noncomputable def z76(i:Nat):TE:=fun σ H Q=> ∃v,σ[i]? =some (some v)/\Q v H
noncomputable def tC(v:V):TE:=fun _ H Q=>Q v H
theorem zdt{i:Nat}{x:Str}{pos:Pos}(hN:X.N[i]? =some x)(hv:Vis X.env.scope x)(hd:(x==("__debug__" :Str))=false:=by decide)(hcd:(x==("__classdict__" :Str))=false:=by decide):PE X (.Name x pos) (z76 i):=by
 intro pins s σ H Q I h
 obtain⟨v,e,h⟩:=h
 obtain⟨m,hn,hl⟩:=I.loc
 obtain⟨u,r,l⟩:=hl i x v hN e hv
 have fin:EP X pins σ Q u s:=⟨v,H,I,r,h⟩
 rcases l with⟨hk,hm⟩|⟨hk,c,hc,hcell⟩
 ·exact wpAny_Name (wpAny_loadName_local I.ok.kind hk hn hm fin) hd
 ·rcases hk with hk|hk
  ·exact wpAny_Name (wpAny_loadName_cell I.ok.kind hk hc hcell fin) hd
  ·exact wpAny_Name (wpAny_loadName_free I.ok.kind hk hc hcell fin hcd) hd
theorem y4{i j pos}:PE X (.Constant (.int i) j pos) (tC (.int i)):=fun _ _ _ H _ I h=>wpAny_Constant_int ⟨.int i,H,I.tok _,⟨_,rfl⟩,h⟩
theorem z1c{b j pos}:PE X (.Constant (.bool b) j pos) (tC (.bl b)):=fun _ _ _ H _ I h=>Constant_bool ⟨.bl b,H,I,rfl,h⟩
theorem zdu{j pos}:PE X (.Constant .none j pos) (tC .non):=fun _ _ _ H _ I h=>Constant_none ⟨.non,H,I,rfl,h⟩
noncomputable def Gl(X:Cx)(x:Str):Prop:=X.env.kindOf x=some .globalImplicit
theorem z4O{E:Value->Shared->Prop}{pins:List (Addr×Obj)}{s:Shared}{σ:St}{H:Hp}{x:Str}{u:Value}{pos:Pos}{Q:Value->Shared->Prop}(I:Inv X pins σ H s)(hg:Gl X x)(hm:X.mg x=some u)(h:Q u s)
 (hd:(x==("__debug__" :Str))=false:=by decide):wpAny (model X.prog X.w) X.A (eval (.Name x pos) X.env) Q E s:=
 Calls.Name_function_global I.ok.kind hg (Calls.loadGlobal_global (by rw[I.ok.glob];exact I.mod.glob.keeps I.bk) hm h) hd
theorem z3X{E:Value->Shared->Prop}{pins:List (Addr×Obj)}{s:Shared}{σ:St}{H:Hp}{x:Str}{u:Value}{pos:Pos}{Q:Value->Shared->Prop}(I:Inv X pins σ H s)(hg:Gl X x)(hm:X.mg x=none)(hv:bootBuiltins x=some u)(h:Q u s)
 (hn:x≠ "__name__" :=by decide) (hd:(x==("__debug__" :Str))=false:=by decide):wpAny (model X.prog X.w) X.A (eval (.Name x pos) X.env) Q E s:=by
 obtain⟨mb,h1,h2⟩:=I.mod.blt
 exact Calls.Name_function_global I.ok.kind hg (Calls.loadGlobal_builtin (by rw[I.ok.glob];exact I.mod.glob.keeps I.bk) hm (by rw[I.ok.blt];exact h1.keeps I.bk) ((h2 x hn).trans hv) h) hd
theorem z0U{x:Str}{v:V}{u:Value}{pos:Pos}(hg:Gl X x)(hm:X.mg x=some u)(r:RelV v u)(hd:(x==("__debug__" :Str))=false:=by decide):PE X (.Name x pos) (tC v):=
 fun _ _ _ H _ I h=>z4O I hg hm ⟨v,H,I,r,h⟩ hd
theorem x8{x:Str}{v:V}{u:Value}{pos:Pos}(hg:Gl X x)(hm:X.mg x=none)(hv:bootBuiltins x=some u)(r:RelV v u)(hn:x≠ "__name__" :=by decide)(hd:(x==("__debug__" :Str))=false:=by decide):PE X (.Name x pos) (tC v):=
 fun _ _ _ H _ I h=>z3X I hg hm hv ⟨v,H,I,r,h⟩ hn hd
variable{a b:Expr}{ta tb:TE}{pos:Pos}
variable{tA tB':TT}{rest:List Expr}
noncomputable def tOr(t u:TT):TT:=fun σ H Q=>t σ H fun c H1=>if c=true then Q true H1 else u σ H1 Q
noncomputable def zix(t:TT):TT:=fun σ H Q=>t σ H fun c H1=>Q (!c) H1
theorem zdv(ha:PT X a tA):PW X (.BoolOp .Or [a] pos) tA:=by
 intro wh pins s σ H Q I h
 refine isTrue_or (thn (ha pins s σ H Q I h) fun c s1 e=> ?_)
 cases c with
 |false=>exact isTrue_or_nil e
 |true=>exact e
theorem zgj(ha:PT X a tA)(hb:PW X (.BoolOp .Or (b::rest) pos) tB'):PW X (.BoolOp .Or (a::b::rest) pos) (tOr tA tB'):=by
 intro wh pins s σ H Q I h
 refine isTrue_or (thn (ha pins s σ H _ I h) fun c s1 ⟨H1,I1,q1⟩=> ?_)
 cases c with
 |true=>exact⟨H1,I1,q1⟩
 |false=>exact hb wh pins s1 σ H1 Q I1 q1
theorem zdw(ha:PT X a tA):PT X (.UnaryOp .Not a pos) (zix tA):=by
 intro pins s σ H Q I h
 exact isTrue_not (ha pins s σ H (fun c H1=>Q (!c) H1) I h)
noncomputable def zgk(ta tb:TE):TE:=fun σ H Q=>ta σ H fun x H1=> ∃c,x= .bl c/\if c=true then tb σ H1 Q else Q (.bl false) H1
noncomputable def zgl(ta:TE):TE:=fun σ H Q=>ta σ H fun x H1=> ∃c,x= .bl c/\Q (.bl (!c)) H1
theorem zdx{op}{t:TE}(h:PE X a t):PE X (.BoolOp op [a] pos) t:=fun pins s σ H Q I hw=>BoolOp_one (h pins s σ H Q I hw)
theorem zdy(ha:PE X a ta)(hb:PE X (.BoolOp .And (b::rest) pos) tb):PE X (.BoolOp .And (a::b::rest) pos) (zgk ta tb):=by
 intro pins s σ H Q I h
 refine BoolOp_and (thn (ha pins s σ H _ I h) fun v s1 ⟨x,H1,I1,r1,q1⟩=> ?_)
 obtain⟨c,rfl,q1⟩:=q1
 cases r1
 refine wpAny_truthy_bool ?_
 cases c with
 |true=>exact hb pins s1 σ H1 Q I1 q1
 |false=>exact⟨.bl false,H1,I1,rfl,q1⟩
theorem zdz(ha:PE X a ta):PE X (.UnaryOp .Not a pos) (zgl ta):=by
 intro pins s σ H Q I h
 refine UnaryOp_ (thn (ha pins s σ H _ I h) fun v s1 ⟨x,H1,I1,r1,q1⟩=> ?_)
 obtain⟨c,rfl,q1⟩:=q1
 cases r1
 exact not_of (wpAny_truthy_bool ⟨.bl (!c),H1,I1,rfl,q1⟩)
end
noncomputable def SqL(K:W.Frag)(H:Hp)(a:Addr)(xs:List V):Prop:=
 Rd H a (.lst xs)\/
  ∃(o:Obj) (its:Array Value) (n:Nat),K.lookup a=some o/\o.cls= .type "list" /\o.dict=none/\o.data= .seq its n/\its.size<=sizeLine/\Q9 xs its.toList
noncomputable def SqT(K:W.Frag)(H:Hp)(a:Addr)(xs:List V):Prop:=
 Rd H a (.tup xs)\/
  ∃(o:Obj) (its:Array Value) (n:Nat),K.lookup a=some o/\o.cls= .type "tuple" /\o.data= .seq its n/\its.size<=sizeLine/\Q9 xs its.toList
noncomputable def ziy:Value->Option V
 | .none=>some .non
 | .bool b=>some (.bl b)
 | .int i _=>some (.int i)
 | .str x _=>some (.str x)
 | .bytes b _=>some (.byt b)
 | .float b _=>some (.flt b)
 | .ref a=>some (.ref a)
 | .type n=>some (.ty n)
 |_=>none
theorem RelV.abs{x:V}{u:Value}(r:RelV x u):ziy u=some x:=by
 cases x with
 |non=>cases r;rfl
 |bl _=>cases r;rfl
 |int _=>obtain⟨t,rfl⟩:=r;rfl
 |str _=>obtain⟨t,rfl⟩:=r;rfl
 |byt _=>obtain⟨t,rfl⟩:=r;rfl
 |flt _=>obtain⟨t,rfl⟩:=r;rfl
 |ref _=>cases r;rfl
 |ty _=>cases r;rfl
theorem RelV.inj{x y:V}{u:Value}(r:RelV x u)(q:RelV y u):x=y:=Option.some.inj (r.abs.symm.trans q.abs)
theorem Q9.inj: ∀{xs ys:List V} {us:List Value},Q9 xs us->Q9 ys us->xs=ys
 |_,_,_, .nil, .nil=>rfl
 |_,_,_, .cons r t, .cons r' t'=>by rw[r.inj r',Q9.inj t t']
section
variable{X:Cx}{pins:List (Addr×Obj)}{σ:St}{H:Hp}{s:Shared}{a:Addr}{xs ys:List V}
theorem SqL.of{K:W.Frag}(h:H a=some (.lst xs)):SqL K H a xs:= .inl (.inl h)
theorem SqT.of{K:W.Frag}(h:H a=some (.tup xs)):SqT K H a xs:= .inl (.inl h)
theorem Inv.list(I:Inv X pins σ H s)(h:SqL X.K H a xs): ∃its:List Value,Q9 xs its/\PlainL s.heap a its.toArray/\xs.length<=sizeLine:=by
 rcases h with h|⟨o,its,n,hk,hc,hd,hs,hz,r⟩
 ·obtain⟨z,its,n,r,e⟩:=h.ok I.hok
  exact⟨its,r,⟨_,n,e,rfl,rfl,rfl⟩,z⟩
 ·refine⟨its.toList,r,⟨o,n,I.kIn a o hk,hc,hd,by simpa using hs⟩, ?_⟩
  have e:=r.length
  erw[Array.length_toList] at e
  lia
theorem Inv.tuple(I:Inv X pins σ H s)(h:SqT X.K H a xs): ∃its:List Value,Q9 xs its/\IsTup s.heap a its.toArray/\xs.length<=sizeLine:=by
 rcases h with h|⟨o,its,n,hk,hc,hs,hz,r⟩
 ·obtain⟨z,its,r,p⟩:=h.ok I.hok
  exact⟨its,r,p,z⟩
 ·refine⟨its.toList,r,⟨o,I.kIn a o hk,hc,n,by simpa using hs⟩, ?_⟩
  have e:=r.length
  erw[Array.length_toList] at e
  lia
theorem Inv.list_inj(I:Inv X pins σ H s)(h:SqL X.K H a xs)(h':SqL X.K H a ys):xs=ys:=by
 obtain⟨its,r,⟨o,n,e,_,_,d⟩,_⟩:=I.list h
 obtain⟨its',r',⟨o',n',e',_,_,d'⟩,_⟩:=I.list h'
 rw[e] at e';cases e'
 rw[d] at d'
 injection d' with d1 _
 have:its=its':=by simpa using congrArg Array.toList d1
 subst this
 exact r.inj r'
theorem Inv.tuple_inj(I:Inv X pins σ H s)(h:SqT X.K H a xs)(h':SqT X.K H a ys):xs=ys:=by
 obtain⟨its,r,⟨o,e,_,n,d⟩,_⟩:=I.tuple h
 obtain⟨its',r',⟨o',e',_,n',d'⟩,_⟩:=I.tuple h'
 rw[e] at e';cases e'
 rw[d] at d'
 injection d' with d1 _
 have:its=its':=by simpa using congrArg Array.toList d1
 subst this
 exact r.inj r'
end
noncomputable abbrev Cx.wish(X:Cx)(E:Value->Shared->Prop):Cx:={X with xe:=E}
noncomputable abbrev Cx.nox(X:Cx):Cx:=X.wish fun _ _=>False
theorem Cx.Ok.wish{X:Cx}(ok:X.Ok)(E:Value->Shared->Prop):(X.wish E).Ok:=
 ⟨ok.mod,ok.kind,ok.glob,ok.blt,ok.above,ok.inj,ok.has,ok.cab,ok.hd,ok.frames,ok.stk,ok.exf,ok.bs,ok.bsz,ok.noex,ok.exfs,ok.funs,ok.frf⟩
theorem Cx.Ok.unwish{X:Cx}{E:Value->Shared->Prop}(ok:(X.wish E).Ok):X.Ok:=
 ⟨ok.mod,ok.kind,ok.glob,ok.blt,ok.above,ok.inj,ok.has,ok.cab,ok.hd,ok.frames,ok.stk,ok.exf,ok.bs,ok.bsz,ok.noex,ok.exfs,ok.funs,ok.frf⟩
section
variable{X:Cx}{pins:List (Addr×Obj)}{σ:St}{H:Hp}{s:Shared}{E:Value->Shared->Prop}
theorem Inv.wish(I:Inv X pins σ H s)(E:Value->Shared->Prop):Inv (X.wish E) pins σ H s:=⟨I.ok.wish E,I.os,I.bare,I.base,I.loc,I.cell,I.free,I.freeC,I.pin,I.hok,I.len⟩
theorem Inv.unwish(I:Inv (X.wish E) pins σ H s):Inv X pins σ H s:=⟨I.ok.unwish,I.os,I.bare,I.base,I.loc,I.cell,I.free,I.freeC,I.pin,I.hok,I.len⟩
theorem SP.unwish{D:z5v}{f:Flow}{s':Shared}(h:SP (X.wish E) pins D f s'):SP X pins D f s':=by
 cases f with
 |next=>obtain⟨σ',H',I,q⟩:=h;exact⟨σ',H',I.unwish,q⟩
 |brk=>obtain⟨σ',H',I,q⟩:=h;exact⟨σ',H',I.unwish,q⟩
 |cont=>obtain⟨σ',H',I,q⟩:=h;exact⟨σ',H',I.unwish,q⟩
 |ret u=>obtain⟨v,σ',H',I,r,q⟩:=h;exact⟨v,σ',H',I.unwish,r,q⟩
theorem PSs.nox{st:List Stmt}{t:TS}(h:PSs X.nox st t):PSs X st t:=fun pins s σ H D I hw=>
 wpAny_mono (h pins s σ H D (I.wish _) hw) (fun _ _ q=>q.unwish) fun _ _ z=>False.elim z
end
section
variable{X:Cx}{st:Stmt}{rest:List Stmt}{t u:TS}{e:Expr}{te:TE}{pos:Pos}
noncomputable def zgm:TS:=fun D σ H=>D.nx σ H
noncomputable def ziz(t u:TS):TS:=fun D σ H=>t {D with nx:=u D} σ H
theorem zbf:PSs X [] zgm:=fun _ _ σ H _ I h=>wpAny_execs_nil ⟨σ,H,I,h⟩
theorem z9h(h1:PS X st t)(h2:PSs X rest u):PSs X (st::rest) (ziz t u):=by
 intro pins s σ H D I h
 refine wpAny_execs_cons (thn (h1 pins s σ H {D with nx:=u D} I h) fun f s1 q=> ?_)
 cases f with
 |next=>
  obtain⟨σ',H',I',q⟩:=q
  exact h2 pins s1 σ' H' D I' q
 |ret v=>exact q
 |brk=>exact q
 |cont=>exact q
theorem zbg(h1:PS X st t):PSs X [st] t:=by
 intro pins s σ H D I h
 refine wpAny_execs_cons (thn (h1 pins s σ H D I h) fun f s1 q=> ?_)
 cases f with
 |next=>exact wpAny_execs_nil q
 |ret v=>exact q
 |brk=>exact q
 |cont=>exact q
theorem Inv.quiet{pins:List (Addr×Obj)}{σ:St}{H:Hp}{s:Shared}(I:Inv X pins σ H s):interactive X.env=false:=by simp[interactive,I.ok.kind]
noncomputable def zgn(te:TE):TS:=fun D σ H=>te σ H fun _ H1=>D.nx σ H1
theorem zbh(he:PE X e te)(hs:swapsWith e none pos.line X.env=pure false:=by rfl):PS X (.Expr e pos) (zgn te):=by
 intro pins s σ H D I h
 exact wpAny_Expr_any (thn (he pins s σ H _ I h) fun v s1 ⟨x,H1,I1,r1,q1⟩=>⟨σ,H1,I1,q1⟩) I.quiet hs
noncomputable def ziA(te:TE):TS:=fun D σ H=>te σ H D.rt
theorem zdA(he:PE X e te):PS X (.Return (some e) pos) (ziA te):=by
 intro pins s σ H D I h
 exact wpAny_Return_some (thn (he pins s σ H _ I h) fun v s1 ⟨x,H1,I1,r1,q1⟩=>⟨x,σ,H1,I1,r1,q1⟩)
noncomputable def ziB(c:TT)(t u:TS):TS:=fun D σ H=>c σ H fun b H1=>if b=true then t D σ H1 else u D σ H1
theorem zgo{c:Expr}{a b:List Stmt}{tc:TT}(hc:PT X c tc)(ha:PSs X a t)(hb:PSs X b u):PS X (.If c a b pos) (ziB tc t u):=by
 intro pins s σ H D I h
 refine wpAny_If (thn (hc pins s σ H _ I h) fun d s1 ⟨H1,I1,q1⟩=> ?_)
 cases d with
 |true=>exact ha pins s1 σ H1 D I1 q1
 |false=>exact hb pins s1 σ H1 D I1 q1
end
noncomputable abbrev TG:=V->St->Hp->(St->Hp->Prop)->Prop
noncomputable abbrev TGs:=List V->St->Hp->(St->Hp->Prop)->Prop
noncomputable def PG(X:Cx)(target:Expr)(t:TG):Prop:=
 ∀(pins:List (Addr×Obj)) (s:Shared) (σ:St) (H:Hp) (v:V) (u:Value) (Q:St->Hp->Prop),Inv X pins σ H s->RelV v u->t v σ H Q->
  wpAny (model X.prog X.w) X.A (assign target X.env u) (fun _ s'=> ∃σ' H',Inv X pins σ' H' s'/\Q σ' H') X.xe s
noncomputable def PGs(X:Cx)(ts:List Expr)(t:TGs):Prop:=
 ∀(pins:List (Addr×Obj)) (s:Shared) (σ:St) (H:Hp) (vs:List V) (us:List Value) (Q:St->Hp->Prop),Inv X pins σ H s->Q9 vs us->t vs σ H Q->
  wpAny (model X.prog X.w) X.A (assignInOrder ((assignEach ts X.env).map (·.2)) us) (fun _ s'=> ∃σ' H',Inv X pins σ' H' s'/\Q σ' H') X.xe s
noncomputable abbrev zgp:=V->V->V->Hp->(Hp->Prop)->Prop
noncomputable def zie(X:Cx)(t:zgp):Prop:=
 ∀(pins:List (Addr×Obj)) (s:Shared) (σ:St) (H:Hp) (o i v:V) (ov iv u:Value) (Q:Hp->Prop),Inv X pins σ H s->RelV o ov->RelV i iv->RelV v u->t o i v H Q->
  wpAny (model X.prog X.w) X.A (setItem ov iv u) (fun _ s'=> ∃H',Inv X pins σ H' s'/\Q H') X.xe s
section
variable{X:Cx}{pos:Pos}
noncomputable def z0M(i:Nat):TG:=fun v σ H Q=>Q (σ.set i (some v)) H
theorem j6{i:Nat}{x:Str}(hN:X.N.Nodup)(hi:X.N[i]? =some x)(hx:Loc X.env.scope x)(hf:X.fn x=true\/X.env.scope.names.lookup x=some .local:=by first|exact .inl rfl|exact .inr rfl|assumption):PG X (.Name x pos) (z0M i):=by
 intro pins s σ H v u Q I r h
 exact wpAny_assign_Name (z3m I hN hi hx r (fun s' I'=>⟨_,H,I',h⟩) hf)
noncomputable def zg8:TGs:=fun vs σ H Q=>vs=[]/\Q σ H
noncomputable def z4P(t:TG)(u:TGs):TGs:=fun vs σ H Q=> ∃v r,vs=v::r/\t v σ H fun σ' H'=>u r σ' H' Q
theorem z77:PGs X [] zg8:=by
 intro pins s σ H vs us Q I r h
 obtain⟨e,h⟩:=h
 subst e
 cases r
 exact assignInOrder_nil ⟨σ,H,I,h⟩
theorem z3n{e:Expr}{es:List Expr}{t:TG}{u:TGs}(h1:PG X e t)(h2:PGs X es u)
 (hs:(assignEach (e::es) X.env).map (·.2)=assign e X.env::(assignEach es X.env).map (·.2):=by rfl):PGs X (e::es) (z4P t u):=by
 intro pins s σ H vs us Q I r h
 obtain⟨v,vr,e1,h⟩:=h
 subst e1
 cases r with
 |cons r rr=>
  rw[hs]
  refine assignInOrder_cons (thn (h1 pins s σ H _ _ _ I r h) fun _ s1 ⟨σ1,H1,I1,q1⟩=> ?_)
  exact h2 pins s1 σ1 H1 _ _ Q I1 rr q1
noncomputable def zg9(K:W.Frag)(n:Nat)(t:TGs):TG:=fun v σ H Q=> ∃a xs,v= .ref a/\SqT K H a xs/\xs.length=n/\t xs σ H Q
theorem zaq{es:List Expr}{k:Nat}{t:TGs}{n:Nat}(hc:X.calm=true)(h:PGs X es t)
 (hn:(assignEach es X.env).length=n:=by rfl) (hst:(assignEach es X.env).findIdx? (·.1)=none:=by rfl):PG X (.Tuple es k pos) (zg9 X.K n t):=by
 intro pins s σ H v u Q I r hw
 obtain⟨a,xs,e1,hq,hl,hw⟩:=hw
 subst e1
 cases r
 obtain⟨its,rv,ht,hz⟩:=I.tuple hq
 refine assign_Tuple_tuple (I.ok.hd hc) ht (by simp[hn,<-hl,rv.length]) hst fun h' hx=> ?_
 have I1:Inv X pins σ H {s with heap:=h'}:=I.kept (t':=s.toks) fun b o e=>hx b o (l9 (Heap.lt_size e)) e
 exact h pins _ σ H xs _ Q I1 (by simpa using rv) hw
noncomputable def zgq(to ti:TE)(t:zgp):TG:=fun v σ H Q=>to σ H fun o H1=>ti σ H1 fun i H2=>t o i v H2 fun H3=>Q σ H3
theorem zar{o i:Expr}{to ti:TE}{t:zgp}(ho:PE X o to)(hi:PE X i ti)(hs:zie X t)
 (ha: ∀v,assign (.Subscript o i pos) X.env v=(do
  let ov<-holding [v] (eval o X.env)
  let iv<-holding [v,ov] (eval i X.env)
  standAt pos
  holding [v,ov,iv] (setItem ov iv v)
  release [v,ov,iv] []):=by intro _;rfl):PG X (.Subscript o i pos) (zgq to ti t):=by
 intro pins s σ H v u Q I r h
 rw[ha]
 refine wpAny_bind (wpAny_holding (thn (ho pins s σ H _ I h) fun ov s1 ⟨x,H1,I1,r1,q1⟩=> ?_))
 refine wpAny_bind (wpAny_holding (thn (hi pins s1 σ H1 _ I1 q1) fun iv s2 ⟨y,H2,I2,r2,q2⟩=> ?_))
 refine wpAny_bind (wpAny_standAt (wpAny_bind (wpAny_holding (thn (hs pins s2 σ H2 x y v ov iv u _ I2 r1 r2 r q2) fun _ s3 ⟨H3,I3,q3⟩=> ?_))))
 exact wpAny_release ⟨σ,H3,I3,q3⟩
noncomputable def zga(te:TE)(g:TG):TS:=fun D σ H=>te σ H fun x H1=>g x σ H1 D.nx
theorem zas{tg e:Expr}{te:TE}{g:TG}(he:PE X e te)(hg:PG X tg g)(hs:swapsWithSole [tg] e pos.line X.env=pure false:=by rfl)(hw:swappedStores [tg] e X.env=pure none:=by rfl)
 (h1:(assignEach [tg] X.env).map (·.2)=[assign tg X.env]:=by rfl):PS X (.Assign [tg] e pos) (zga te g):=by
 intro pins s σ H D I h
 refine wpAny_Assign_stores (thn (he pins s σ H _ I h) fun v s1 ⟨x,H1,I1,r1,q1⟩=> ?_) hs hw
 rw[h1]
 exact thn (hg pins s1 σ H1 x v _ I1 r1 q1) fun _ s2 q=>q
theorem z1M{i:Nat}{x:Str}{e:Expr}{te:TE}{pos':Pos}(hN:X.N.Nodup)(hi:X.N[i]? =some x)(hx:Loc X.env.scope x)(he:PE X e te)(hs:swapsWith e (some (.Name x pos')) pos.line X.env=pure false:=by rfl)(hf:X.fn x=true\/X.env.scope.names.lookup x=some .local:=by first|exact .inl rfl|exact .inr rfl|assumption):
 PS X (.Assign [.Name x pos'] e pos) (zga te (z0M i)):=by
 intro pins s σ H D I h
 refine wpAny_Assign_Name (thn (he pins s σ H _ I h) fun v s1 ⟨y,H1,I1,r1,q1⟩=> ?_) hs
 exact z3m I1 hN hi hx r1 (fun s2 I2=>⟨_,H1,I2,q1⟩) hf
end
structure It where
 go:Nat->Hp->Prop
 yld:Nat->Hp->V->Hp->Prop
 stop:Nat->Hp->Prop
noncomputable def z4K(X:Cx)(pins:List (Addr×Obj))(H:Hp)(b:Addr):Prop:=
 H b=none/\b≠X.env.locals/\b∉X.fs/\(b∈X.ex\/X.s₀.heap.objs.size<=b)/\(∀x c,X.env.cells.lookup x=some c->c≠b)/\∀p∈X.pn++pins,p.1≠b
theorem Inv.fpOk{X:Cx}{pins:List (Addr×Obj)}{σ:St}{H H':Hp}{s:Shared}{b:Addr}(I:Inv X pins σ H s)(hb:s.heap.objs.size<=b)(hn:H' b=none):z4K X pins H' b:=by
 refine⟨hn,L9 (l8 I.lt hb),I.nofs hb, .inr (B0 I.sz hb),fun x c e z=> ?_,fun p hp z=> ?_⟩
 ·obtain⟨v,q⟩:=I.cell x c e
  exact absurd (l8 q.lt (by rw[z];exact hb)) (D7 _)
 ·exact absurd (l8 (Heap.lt_size (I.pin p hp).1) (by rw[z];exact hb)) (D7 _)
structure zbi(P:Program)(w:World)(K:W.Frag)(tg:Expr)(J:It)(fp:List Addr)(it:Addr)(tn:Nat->Heap->Prop):Prop where
 mem:it∈fp
 obj: ∀i h,tn i h->∀b∈fp,∃o,h.get? b=some o/\∀v,o.data≠ .cell v
 keep: ∀i h h',tn i h->(∀b∈fp,∀o,h.get? b=some o->h'.get? b=some o)->tn i h'
 item: ∀(X:Cx),X.prog=P->X.w=w->X.K=K->X.calm=true->∀(i:Nat) (pins:List (Addr×Obj)) (s:Shared) (σ:St) (H:Hp) (E:Value->Shared->Prop),Inv X pins σ H s->(∀b∈fp,z4K X pins H b)->tn i s.heap->J.go i H->
  wpAny (model P w) X.A (pyNext (.ref it)) (fun r s1=> ∃u,r=some u/\
   wpAny (model P w) X.A (letOwnedTupleGo tg (.ref it) u) (fun _ s2=> ∃x H',Inv X pins σ H' s2/\RelV x u/\J.yld i H x H'/\tn (i+1) s2.heap/\∀b∈fp,H' b=none) E s1) E s
 done: ∀(X:Cx),X.prog=P->X.w=w->X.K=K->X.calm=true->∀(i:Nat) (pins:List (Addr×Obj)) (s:Shared) (σ:St) (H:Hp) (E:Value->Shared->Prop),Inv X pins σ H s->(∀b∈fp,z4K X pins H b)->tn i s.heap->J.stop i H->
  wpAny (model P w) X.A (pyNext (.ref it)) (fun r s1=>r=none/\Inv X pins σ H s1) E s
 self: ∀(A:Around) (i:Nat) (s:Shared) (Q:Value->Shared->Prop) (E:Value->Shared->Prop),tn i s.heap->Q (.ref it) s->wpAny (model P w) A (pyIter (.ref it)) Q E s
noncomputable abbrev TI:=St->Hp->(It->Hp->Prop)->Prop
noncomputable def PIE(X:Cx)(pins:List (Addr×Obj))(σ:St)(tg:Expr)(R:It->Hp->Prop)(itv:Value)(s2:Shared):Prop:=
 ∃(it:Addr) (fp:List Addr) (tn:Nat->Heap->Prop) (J:It) (H':Hp),itv= .ref it/\Inv X pins σ H' s2/\zbi X.prog X.w X.K tg J fp it tn/\tn 0 s2.heap/\(∀b∈fp,z4K X pins H' b)/\R J H'
noncomputable def PI(X:Cx)(tg iter:Expr)(wi:TI):Prop:=
 ∀(pins:List (Addr×Obj)) (s:Shared) (σ:St) (H:Hp) (R:It->Hp->Prop),Inv X pins σ H s->wi σ H R->
  wpAny (model X.prog X.w) X.A (eval iter X.env) (fun v s1=>wpAny (model X.prog X.w) X.A (pyIter v) (PIE X pins σ tg R) X.xe s1) X.xe s
theorem z9i{M:Model}{A:Around}{E:Value->Shared->Prop}{s:Shared}{tg:Expr}{it:Addr}{u:Value}{o:Obj}{n:String}{vs:Array Value}{Q:Unit->Shared->Prop}(ho:s.heap.get? it=some o)(hc:o.cls= .type n)(hd:o.data= .fields vs)
 (hn:["enumerate", "zip", "dict_itemiterator", "dict_reverseitemiterator", "odict_iterator", "itertools.zip_longest", "itertools.pairwise"].contains n=false) (hQ:Q () s):wpAny M A (letOwnedTupleGo tg (.ref it) u) Q E s:=by
 unfold letOwnedTupleGo
 cases tg<;>first
  |exact wpAny_pure hQ
  |(cases u<;>first
   |exact wpAny_pure hQ
   |(refine wpAny_bind (wpAny_load ho ?_)
     rw[hc,hd]
     show wpAny M A (if(["enumerate", "zip", "dict_itemiterator", "dict_reverseitemiterator", "odict_iterator", "itertools.zip_longest", "itertools.pairwise"].contains n&&vs[0]? ==some (rawInt _))=true then _ else _) Q E s
     rw[if_neg (by intro h;rw[hn,F6] at h;cases h)]
     exact wpAny_pure hQ))
noncomputable def Itl(K:W.Frag)(a:Addr):It:=
 ⟨fun i H=> ∃xs x,SqL K H a xs/\xs[i]? =some x,fun i H x H'=>H'=H/\∀xs,SqL K H a xs->xs[i]? =some x,fun i H=> ∃xs,SqL K H a xs/\xs.length<=i⟩
noncomputable def Itt(K:W.Frag)(a:Addr):It:=
 ⟨fun i H=> ∃xs x,SqT K H a xs/\xs[i]? =some x,fun i H x H'=>H'=H/\∀xs,SqT K H a xs->xs[i]? =some x,fun i H=> ∃xs,SqT K H a xs/\xs.length<=i⟩
noncomputable def Itr(lo:Int)(n:Nat):It:=⟨fun i _=>i<n,fun i H x H'=>H'=H/\x= .int (lo+i),fun i _=>n<=i⟩
theorem z78{P:Program}{w:World}{K:W.Frag}{tg:Expr}(a it:Addr):zbi P w K tg (Itl K a) [it] it (fun i h=>h.IsListIter it a i) where
 mem:=by simp
 obj:=fun i h st b hb=>by
  have e:b=it:=by simpa using hb
  subst e
  obtain⟨o,e,c,d⟩:=st
  exact⟨o,e,fun v z=>by rw[d] at z;cases z⟩
 keep:=fun i h h' st k=>st.at fun o e=>k it (by simp) o e
 item:=by
  intro X hP hw hK hc i pins s σ H E I hf st hg
  subst hP hw hK
  obtain⟨xs,x,hq,hx⟩:=hg
  obtain⟨its,rv,p,hz⟩:=I.list hq
  obtain⟨u,hu,ru⟩:=rv.get hx
  obtain⟨f0,f1,f2,f3,f4,f5⟩:=hf it (by simp)
  refine wpAny_pyNext_list_item st p.isList (x:=u) (by simpa using hu) fun h' st' sb=> ?_
  have I1:Inv X pins σ H {s with heap:=h'}:=I.turned (t':=s.toks) (fun b o hb e=>(sb.2 b hb).trans e) f0 f1 f3 f4 f5
  obtain⟨o,e,c,d⟩:=id st'
  exact⟨u,rfl,z9i (s:={s with heap:=h'}) e c d (by decide) ⟨x,H,I1,ru,⟨rfl,fun ys hy=>by rw[I.list_inj hy hq];exact hx⟩,st',fun b hb=>(hf b hb).1⟩⟩
 done:=by
  intro X hP hw hK hc i pins s σ H E I hf st hg
  subst hP hw hK
  obtain⟨xs,hq,hx⟩:=hg
  obtain⟨its,rv,p,hz⟩:=I.list hq
  obtain⟨f0,f1,f2,f3,f4,f5⟩:=hf it (by simp)
  have hl:=rv.length
  exact wpAny_pyNext_list_end (I.ok.hd hc) st p.isList (by simp;lia) fun h' eb=>⟨rfl,I.turned (t':=s.toks) (fun b o hb e=>eb b o hb e) f0 f1 f3 f4 f5⟩
 self:=fun _ _ _ _ _ st h=>wpAny_pyIter_listiter st h
theorem z6f{P:Program}{w:World}{K:W.Frag}{tg:Expr}(a it:Addr):zbi P w K tg (Itt K a) [it] it (fun i h=>h.IsTupleIter it a i) where
 mem:=by simp
 obj:=fun i h st b hb=>by
  have e:b=it:=by simpa using hb
  subst e
  obtain⟨o,e,c,d⟩:=st
  exact⟨o,e,fun v z=>by rw[d] at z;cases z⟩
 keep:=fun i h h' st k=>st.at fun o e=>k it (by simp) o e
 item:=by
  intro X hP hw hK hc i pins s σ H E I hf st hg
  subst hP hw hK
  obtain⟨xs,x,hq,hx⟩:=hg
  obtain⟨its,rv,p,hz⟩:=I.tuple hq
  obtain⟨u,hu,ru⟩:=rv.get hx
  obtain⟨f0,f1,f2,f3,f4,f5⟩:=hf it (by simp)
  refine wpAny_pyNext_tuple_item st (show s.heap.IsTuple a its.toArray from p) (x:=u) (by simpa using hu) fun h' st' sb=> ?_
  have I1:Inv X pins σ H {s with heap:=h'}:=I.turned (t':=s.toks) (fun b o hb e=>(sb.2 b hb).trans e) f0 f1 f3 f4 f5
  obtain⟨o,e,c,d⟩:=id st'
  exact⟨u,rfl,z9i (s:={s with heap:=h'}) e c d (by decide) ⟨x,H,I1,ru,⟨rfl,fun ys hy=>by rw[I.tuple_inj hy hq];exact hx⟩,st',fun b hb=>(hf b hb).1⟩⟩
 done:=by
  intro X hP hw hK hc i pins s σ H E I hf st hg
  subst hP hw hK
  obtain⟨xs,hq,hx⟩:=hg
  obtain⟨its,rv,p,hz⟩:=I.tuple hq
  obtain⟨f0,f1,f2,f3,f4,f5⟩:=hf it (by simp)
  have hl:=rv.length
  exact wpAny_pyNext_tuple_end (I.ok.hd hc) st (show s.heap.IsTuple a its.toArray from p) (by simp;lia) fun h' eb=>⟨rfl,I.turned (t':=s.toks) (fun b o hb e=>eb b o hb e) f0 f1 f3 f4 f5⟩
 self:=fun _ _ _ _ _ st h=>wpAny_pyIter_tupleiter st h
theorem z6g{P:Program}{w:World}{K:W.Frag}{tg:Expr}(it:Addr)(lo:Int)(n:Nat):zbi P w K tg (Itr lo n) [it] it (fun i h=>IsRangeIter h it (lo+(i:Nat)*1) ((n:Int) -(i:Nat)) 1) where
 mem:=by simp
 obj:=fun i h st b hb=>by
  have e:b=it:=by simpa using hb
  subst e
  exact⟨_,st,fun v z=>by
   have z':Data.fields _=Data.cell v:=z
   cases z'⟩
 keep:=fun i h h' st k=>k it (by simp) _ st
 item:=by
  intro X hP hw hK hc i pins s σ H E I hf st hg
  subst hP hw hK
  obtain⟨f0,f1,f2,f3,f4,f5⟩:=hf it (by simp)
  have W:=Walks.range (prog:=X.prog) (w:=X.w) (I.ok.hd hc) it lo 1 n
  refine W.item i s _ _ hg st fun v h' tk hv st' kk=> ?_
  obtain⟨t,rfl⟩:=hv
  have I1:Inv X pins σ H {s with heap:=h',toks:=tk}:=I.turned (fun b o hb e=>kk b o (by simpa using hb) e) f0 f1 f3 f4 f5
  refine⟨_,rfl,z9i (s:={s with heap:=h',toks:=tk}) (n:= "range_iterator") st' rfl rfl (by decide) ⟨.int (lo+i),H,I1,⟨t, ?_⟩,⟨rfl,rfl⟩,st',fun b hb=>(hf b hb).1⟩⟩
  rw[Int.mul_one]
 done:=by
  intro X hP hw hK hc i pins s σ H E I hf st hg
  subst hP hw hK
  obtain⟨f0,f1,f2,f3,f4,f5⟩:=hf it (by simp)
  exact wpAny_pyNext_range_end (I.ok.hd hc) st (by have:n<=i:=hg;lia) fun h' eb=>⟨rfl,I.turned (t':=s.toks) (fun b o hb e=>eb b o hb e) f0 f1 f3 f4 f5⟩
 self:=fun _ _ _ _ _ st h=>wpAny_pyIter_rangeiter st h
section
variable{X:Cx}{tg:Expr}
theorem z9j{pins:List (Addr×Obj)}{σ:St}{H:Hp}{s:Shared}{R:It->Hp->Prop}{E:Value->Shared->Prop}{lo hi:Int}{t u v:Tok}{tk:Nat}(I:Inv X pins σ H s)(h1: -(2^62)<=lo)(h2:lo<2^62)(h3: -(2^62)<=hi)(h4:hi<2^62)
 (q:R (Itr lo (hi -lo).toNat) H):wpAny (model X.prog X.w) X.A (pyIter (.ref s.heap.objs.size)) (PIE X pins σ tg R) E {s with heap:=s.heap.push {cls:= .type "range",data:= .fields #[.int lo t, .int hi u, .int 1 v]},toks:=tk}:=by
 refine wpAny_pyIter_range (IsRange.new ..) (small_one h1 h2 h3 h4) ?_
 have I1:Inv X pins σ H {s with heap:=s.heap.push {cls:= .type "range",data:= .fields #[.int lo t, .int hi u, .int 1 v]},toks:=tk}:=I.kept fun b o e=>Heap.get?_push_of_some _ e
 refine⟨(s.heap.push {cls:= .type "range",data:= .fields #[.int lo t, .int hi u, .int 1 v]}).objs.size,[(s.heap.push {cls:= .type "range",data:= .fields #[.int lo t, .int hi u, .int 1 v]}).objs.size],_,_,H,rfl,
  I1.kept (t':=tk) fun b o e=>Heap.get?_push_of_some _ e,z6g _ lo (hi -lo).toNat, ?_,fun b hb=> ?_,q⟩
 ·have e1:lo+((0:Nat):Int)*1=lo:=by simp
  have e2:(((hi -lo).toNat:Nat):Int) -((0:Nat):Int)=Builtin.Range.rangeSize lo hi 1:=by rw[rangeSize_one];split<;>lia
  show IsRangeIter _ _ (lo+((0:Nat):Int)*1) ((((hi -lo).toNat:Nat):Int) -((0:Nat):Int)) 1
  rw[e1,e2]
  exact Heap.get?_push_size _ rfl
 ·have e:b=(s.heap.push {cls:= .type "range",data:= .fields #[.int lo t, .int hi u, .int 1 v]}).objs.size:=by simpa using hb
  subst e
  exact I1.fpOk (c8 _) (I1.hok.fresh (c8 _))
noncomputable def zgr(ta:TA):TI:=fun σ H R=>ta σ H fun vs H1=> ∃j:Int,vs=[.int j]/\-(2^62)<=j/\j<2^62/\R (Itr 0 j.toNat) H1
theorem z79{a:Expr}{ta:TA}{p pos:Pos}(hg:Gl X "range")(hm:X.mg "range" =none)(ha:PA X [a] ta)(hs:starEach [a] X.env=[(false,eval a X.env)]:=by rfl):PI X tg (.Call (.Name "range" p) [a] [] pos) (zgr ta):=by
 intro pins s σ H R I h
 refine Call_ (z3X I hg hm boot_range (PyProof.Rows.callWith_type1 (thn (ha pos pins s σ H _ I h) fun us s1 ⟨vs,H1,I1,r1,q1⟩=> ?_) hs rfl))
 obtain⟨j,e,q1,q2,q⟩:=q1
 subst e
 cases r1 with
 |cons r rr=>
  cases rr
  obtain⟨t,rfl⟩:=r
  exact call_range_1 (z9j I1 (by lia) (by lia) q1 q2 (by simpa using q))
noncomputable def ziC(wi:TI)(g:TG)(tb:TS):TS:=fun D σ H=>wi σ H fun J H1=> ∃W:Nat->Nat->St->Hp->Prop,(∃m,W 0 m σ H1)/\∀i m σ H,W i m σ H->
 (J.stop i H/\D.nx σ H)\/(J.go i H/\∃N:St->Hp->Prop,(∀σ' H',N σ' H'->∃m',m'<m/\W (i+1) m' σ' H')/\∀x H',J.yld i H x H'->g x σ H' fun σ2 H2=>tb {D with nx:=N,ct:=N,bk:=D.nx} σ2 H2)
noncomputable def z5w(fp:List Addr)(h:Heap):List (Addr×Obj):=fp.filterMap fun b=>(h.get? b).map fun o=>(b,o)
theorem Q7{fp:List Addr}{h:Heap}{b:Addr}{o:Obj}(hb:b∈fp)(e:h.get? b=some o):(b,o)∈z5w fp h:=P4.mpr ⟨b,hb,by rw[e];rfl⟩
theorem z7a{fp:List Addr}{h:Heap}{p:Addr×Obj}(hp:p∈z5w fp h):p.1∈fp/\h.get? p.1=some p.2:=by
 obtain⟨b,hb,e⟩:=P4.mp hp
 cases q:h.get? b with
 |none=>rw[q] at e;cases e
 |some o=>
  rw[q] at e
  have e':(b,o)=p:=Option.some.inj e
  subst e'
  exact⟨hb,q⟩
theorem Inv.pinned{pins:List (Addr×Obj)}{σ:St}{H:Hp}{s:Shared}{fp:List Addr}(I:Inv X pins σ H s)(hf: ∀b∈fp,z4K X pins H b)(ho: ∀b∈fp,∃o,s.heap.get? b=some o/\∀v,o.data≠ .cell v):Inv X (pins++z5w fp s.heap) σ H s:=
 I.pins_of fun p hp=>(c9.mp hp).elim (fun z=>I.pin p (b6 _ z)) fun z=>by
  obtain⟨hb,e⟩:=z7a z
  obtain⟨f0,f1,f2,_⟩:=hf p.1 hb
  obtain⟨o,e',d⟩:=ho p.1 hb
  rw[e] at e';cases e'
  exact⟨e,f0,f1,f2,d⟩
theorem Inv.unpinned{pins pl:List (Addr×Obj)}{σ:St}{H:Hp}{s:Shared}(I:Inv X (pins++pl) σ H s):Inv X pins σ H s:=I.pins_of fun p hp=>I.pin p (b6 _ (b9 _ hp))
theorem zdB{iter:Expr}{body:List Stmt}{wi:TI}{g:TG}{tb:TS}{pos:Pos}(hp:PassesOwn (model X.prog X.w) X.A X.env X.xe)(hc:X.calm=true)(hi:PI X tg iter wi)(hg:PG X tg g)(hb:PSs X body tb)
 (hs: ∀x,foldedSetIterable iter X.env x=pure x:=by intro _;rfl):PS X (.For tg iter body [] pos) (ziC wi g tb):=by
 intro pins s σ H D I h
 refine wpAny_For (thn (hi pins s σ H _ I h) fun v s1 h1=>thn h1 fun itv s2 h2=> ?_) hs
 obtain⟨it,fp,tn,J,H2,e,I2,T,st2,f2,W,⟨m0,w0⟩,turn⟩:=h2
 subst e
 have stat: ∀{H':Hp},(∀b∈fp,H' b=none)->∀b∈fp,z4K X pins H' b:=fun hn b hb=>⟨hn b hb,(f2 b hb).2⟩
 refine codeAny_forLoop_any (fun n s'=> ∃i σ' H',Inv X pins σ' H' s'/\tn i s'.heap/\(∀b∈fp,H' b=none)/\W i n σ' H') ?_ m0 ⟨0,σ,H2,I2,st2,fun b hb=>(f2 b hb).1,w0⟩
 rintro n s3 ⟨i,σ3,H3,I3,st3,fr3,w3⟩
 rcases turn i n σ3 H3 w3 with⟨stop,qn⟩|⟨go,N,hN,step⟩
 ·refine wpAny_passesOwn hp (thn (T.done X rfl rfl rfl hc i pins s3 σ3 H3 X.xe I3 (stat fr3) st3 stop) fun r s4 ⟨hr,I4⟩=> ?_)
  subst hr
  exact wpAny_execs_nil ⟨σ3,H3,I4,qn⟩
 ·refine wpAny_passesOwn hp (thn (T.item X rfl rfl rfl hc i pins s3 σ3 H3 X.xe I3 (stat fr3) st3 go) fun r s4 ⟨u,hr,h4⟩=> ?_)
  subst hr
  refine wpAny_passesOwn hp (thn h4 fun _ s5 ⟨x,H5,I5,r5,y5,st5,fr5⟩=> ?_)
  have I5':=I5.pinned (stat fr5) (T.obj _ _ st5)
  refine wpAny_passesOwn hp (thn (hg _ s5 σ3 H5 x u _ I5' r5 (step x H5 y5)) fun _ s6 ⟨σ6,H6,I6,q6⟩=> ?_)
  refine wpAny_passesOwn hp (thn (hb _ s6 σ6 H6 _ I6 q6) fun f s7 q7=> ?_)
  have again: ∀{σ7:St} {H7:Hp},Inv X (pins++z5w fp s5.heap) σ7 H7 s7->N σ7 H7->∃m,m<n/\∃i σ' H',Inv X pins σ' H' s7/\tn i s7.heap/\(∀b∈fp,H' b=none)/\W i m σ' H':=fun{σ7 H7} I7 n7=>by
   obtain⟨m',hm,w7⟩:=hN σ7 H7 n7
   refine⟨m',hm,i+1,σ7,H7,I7.unpinned,T.keep _ _ _ st5 fun b hb o e=>(I7.pin (b,o) (b6 _ (b6 _ (Q7 hb e)))).1,fun b hb=> ?_,w7⟩
   obtain⟨o,e,d⟩:=T.obj _ _ st5 b hb
   exact(I7.pin (b,o) (b6 _ (b6 _ (Q7 hb e)))).2.1
  cases f with
  |next=>obtain⟨σ7,H7,I7,n7⟩:=q7;exact again I7 n7
  |cont=>obtain⟨σ7,H7,I7,n7⟩:=q7;exact again I7 n7
  |brk=>obtain⟨σ7,H7,I7,q7⟩:=q7;exact⟨σ7,H7,I7.unpinned,q7⟩
  |ret v=>obtain⟨x7,σ7,H7,I7,r7,q7⟩:=q7;exact⟨x7,σ7,H7,I7.unpinned,r7,q7⟩
end
noncomputable abbrev R2:=V->V->Hp->VK->Prop
noncomputable def OpR(X:Cx)(f:Value->Value->Sem Value)(r:R2):Prop:=
 ∀(pins:List (Addr×Obj)) (s:Shared) (σ:St) (H:Hp) (x y:V) (v u:Value) (Q:VK),Inv X pins σ H s->RelV x v->RelV y u->r x y H Q->
  wpAny (model X.prog X.w) X.A (f v u) (EP X pins σ Q) X.xe s
noncomputable def CallR(X:Cx)(f:Value)(r:List V->Hp->VK->Prop):Prop:=
 ∀(pins:List (Addr×Obj)) (s:Shared) (σ:St) (H:Hp) (xs:List V) (us:List Value) (Q:VK),Inv X pins σ H s->Q9 xs us->r xs H Q->
  wpAny (model X.prog X.w) X.A (call f us) (EP X pins σ Q) X.xe s
noncomputable def ziD(X:Cx)(r:V->Hp->(Bool->Hp->Prop)->Prop):Prop:=
 ∀(pins:List (Addr×Obj)) (s:Shared) (σ:St) (H:Hp) (x:V) (v:Value) (Q:Bool->Hp->Prop),Inv X pins σ H s->RelV x v->r x H Q->
  wpAny (model X.prog X.w) X.A (truthy v) (TP X pins σ Q) X.xe s
noncomputable def tOp(r:R2)(ta tb:TE):TE:=fun σ H Q=>ta σ H fun x H1=>tb σ H1 fun y H2=>r x y H2 Q
noncomputable def rI(C:Int->Int->Prop)(g:Int->Int->V):R2:=fun x y H Q=> ∃i j,x= .int i/\y= .int j/\C i j/\Q (g i j) H
noncomputable def rI0(g:Int->Int->V):R2:=fun x y H Q=> ∃i j,x= .int i/\y= .int j/\Q (g i j) H
section
variable{X:Cx}{a b c:Expr}{ta tb tc:TE}{pos:Pos}
theorem zgs(ha:PE X a ta)(hb:PE X b tb){pins:List (Addr×Obj)}{s:Shared}{σ:St}{H:Hp}{R:V->V->Hp->Prop}(I:Inv X pins σ H s)
 (h:ta σ H fun x H1=>tb σ H1 fun y H2=>R x y H2) {Q:Value->Shared->Prop} {f:Value->Value->Sem Value}
 (hf: ∀v u s2 x y H2,Inv X pins σ H2 s2->RelV x v->RelV y u->R x y H2->wpAny (model X.prog X.w) X.A (f v u) Q X.xe s2):
 wpAny (model X.prog X.w) X.A (eval a X.env) (fun v s₁=>wpAny (model X.prog X.w) X.A (eval b X.env) (fun u s₂=>wpAny (model X.prog X.w) X.A (f v u) Q X.xe s₂) X.xe s₁) X.xe s:=by
 refine thn (ha pins s σ H _ I h) fun v s1 ⟨x,H1,I1,r1,q1⟩=> ?_
 refine thn (hb pins s1 σ H1 _ I1 q1) fun u s2 ⟨y,H2,I2,r2,q2⟩=> ?_
 exact hf v u s2 x y H2 I2 r1 r2 q2
theorem zbj{op:Operator}{r:R2}(ho:OpR X (binaryOp op) r)(ha:PE X a ta)(hb:PE X b tb):PE X (.BinOp a op b pos) (tOp r ta tb):=by
 intro pins s σ H Q I h
 exact wpAny_BinOp (zgs ha hb I h fun v u s2 x y H2 I2 rx ry q=>ho pins s2 σ H2 x y v u Q I2 rx ry q)
theorem opI{f:Value->Value->Sem Value}{C:Int->Int->Prop}{g:Int->Int->Int}
 (rule: ∀(i j:Int) (t u:Tok) (s:Shared) (Q:Value->Shared->Prop) (E:Value->Shared->Prop),C i j->Q (.int (g i j) s.toks) {s with toks:=s.toks+1}->wpAny (model X.prog X.w) X.A (f (.int i t) (.int j u)) Q E s):
 OpR X f (rI C fun i j=> .int (g i j)):=by
 intro pins s σ H x y v u Q I rx ry h
 obtain⟨i,j,rfl,rfl,hc,q⟩:=h
 obtain⟨t,rfl⟩:=rx
 obtain⟨t',rfl⟩:=ry
 exact rule i j t t' s _ _ hc ⟨.int (g i j),H,I.tok _,⟨_,rfl⟩,q⟩
theorem ziE{f:Value->Value->Sem Value}{g:Int->Int->Int}
 (rule: ∀(i j:Int) (t u:Tok) (s:Shared) (Q:Value->Shared->Prop) (E:Value->Shared->Prop),Q (.int (g i j) s.toks) {s with toks:=s.toks+1}->wpAny (model X.prog X.w) X.A (f (.int i t) (.int j u)) Q E s):
 OpR X f (rI0 fun i j=> .int (g i j)):=by
 intro pins s σ H x y v u Q I rx ry h
 obtain⟨i,j,rfl,rfl,q⟩:=h
 obtain⟨t,rfl⟩:=rx
 obtain⟨t',rfl⟩:=ry
 exact rule i j t t' s _ _ ⟨.int (g i j),H,I.tok _,⟨_,rfl⟩,q⟩
theorem zgb{f:Value->Value->Sem Value}{g:Int->Int->Bool}
 (rule: ∀(i j:Int) (t u:Tok) (s:Shared) (Q:Value->Shared->Prop) (E:Value->Shared->Prop),Q (.bool (g i j)) s->wpAny (model X.prog X.w) X.A (f (.int i t) (.int j u)) Q E s):
 OpR X f (rI0 fun i j=> .bl (g i j)):=by
 intro pins s σ H x y v u Q I rx ry h
 obtain⟨i,j,rfl,rfl,q⟩:=h
 obtain⟨t,rfl⟩:=rx
 obtain⟨t',rfl⟩:=ry
 exact rule i j t t' s _ _ ⟨.bl (g i j),H,I,rfl,q⟩
noncomputable def z9k(i j:Int):Prop:=0<j/\j<2^200
theorem zgt{x j:Int}(h1:0<j)(h2:j<2^200):Builtin.divisionGoesByPylong x j=false:=by
 refine PyProof.noPylong_of_log2 ?_
 have h3:j.natAbs.log2<200:=(Nat.log2_lt (by lia)).mpr (by lia)
 lia
noncomputable def zd4(i j:Int):Prop:=0<=j/\j<=1000000/\i.natAbs<2^64
noncomputable def z9l(i j:Int):Prop:=(-(2^64)<i/\i<2^64)\/(-(2^64)<j/\j<2^64)
theorem z9l.ok{i j:Int}(h:z9l i j):IntMulOk i j:=by
 rcases h with⟨h1,h2⟩|⟨h1,h2⟩
 ·exact .of_left (intBits_le_64 h1 h2)
 ·exact .of_right (intBits_le_64 h1 h2)
theorem zdC:OpR X (binaryOp .Add) (rI0 fun i j=> .int (i+j)):=ziE fun _ _ _ _ _ _ _ q=>add_int q
theorem zdD:OpR X (binaryOp .Mult) (rI z9l fun i j=> .int (i*j)):=opI fun _ _ _ _ _ _ _ hc q=>mul_int q hc.ok
theorem zbk:OpR X (binaryOp .FloorDiv) (rI z9k fun i j=> .int (i/j)):=opI fun i j _ _ _ _ _ hc q=>by
 have h1:(0:Int)<j:=hc.1
 have h2:j<2^200:=hc.2
 exact floordiv_int (by lia) (by rw[Int.fdiv_eq_ediv_of_nonneg i (by lia)];exact q) (.inl (zgt h1 h2))
theorem zdE:OpR X (binaryOp .Mod) (rI (fun _ j=>0<j) fun i j=> .int (i %j)):=opI fun i j _ _ _ _ _ hc q=>by
 have h1:(0:Int)<j:=hc
 exact mod_int' (by lia) (by rw[Int.fmod_eq_emod_of_nonneg i (by lia)];exact q)
theorem zdF:OpR X (binaryOp .Pow) (rI zd4 fun i j=> .int (i^j.toNat)):=opI fun _ _ _ _ _ _ _ hc q=>pow_int_small hc.1 hc.2.1 hc.2.2 q
end
noncomputable def ziF:V->V->Bool
 | .non, .non=>true| .non, .int _=>true| .int _, .non=>true| .non, .bl _=>true| .bl _, .non=>true| .non, .str _=>true| .str _, .non=>true
 | .int _, .int _=>true| .bl _, .bl _=>true| .str _, .str _=>true| .byt _, .byt _=>true
 | .int _, .str _=>true| .str _, .int _=>true| .bl _, .str _=>true| .str _, .bl _=>true
 |_,_=>false
noncomputable def rNe:R2:=fun x y H Q=>ziF x y=true/\Q (.bl (!decide (x=y))) H
theorem zbl{i j:Int}:decide (V.int i=V.int j)=(i==j):=by
 rw[F3]
 simp
theorem zdG{i j:Bool}:decide (V.bl i=V.bl j)=(i==j):=by
 rw[F3]
 simp
theorem z7b{i j:Str}:decide (V.str i=V.str j)=(i==j):=by
 rw[F3]
 simp
theorem zbm{i j:Array UInt8}:decide (V.byt i=V.byt j)=(i.toList==j.toList):=by
 rw[F3]
 cases i
 cases j
 simp
section
variable{X:Cx}{a b c:Expr}{ta tb tc:TE}{pos:Pos}
theorem v9{pins:List (Addr×Obj)}{σ:St}{H:Hp}{s:Shared}{Q:VK}{k k':Bool}(I:Inv X pins σ H s)(q:Q (.bl k) H)(e:k=k'):EP X pins σ Q (.bool k') s:=by
 subst e
 exact⟨.bl k,H,I,rfl,q⟩
theorem zgu:OpR X (compareOp .NotEq) rNe:=by
 intro pins s σ H x y v u Q I rx ry h
 obtain⟨hs,q⟩:=h
 cases x with
 |non=>
  cases rx
  cases y with
  |non=>cases ry;exact PySem.EqNone.ne_none_none (v9 I q (by simp))
  |bl j=>cases ry;exact PySem.EqNone.ne_none_bool (v9 I q (by simp))
  |int j=>obtain⟨t',rfl⟩:=ry;exact PySem.EqNone.ne_none_int (v9 I q (by simp))
  |str j=>obtain⟨t',rfl⟩:=ry;exact PySem.EqNone.ne_none_str (v9 I q (by simp))
  |_=>exact absurd (show false=true from hs) l5
 |bl i=>
  cases rx
  cases y with
  |non=>cases ry;exact PySem.EqNone.ne_bool_none (v9 I q (by simp))
  |bl j=>cases ry;exact ne_bool (v9 I q (congrArg not zdG))
  |str j=>obtain⟨t',rfl⟩:=ry;exact PySem.EqMixed.ne_bool_str (v9 I q (by simp))
  |_=>exact absurd (show false=true from hs) l5
 |int i=>
  obtain⟨t,rfl⟩:=rx
  cases y with
  |non=>cases ry;exact PySem.EqNone.ne_int_none (v9 I q (by simp))
  |int j=>obtain⟨t',rfl⟩:=ry;exact ne_int (v9 I q (congrArg not zbl))
  |str j=>obtain⟨t',rfl⟩:=ry;exact PySem.EqMixed.ne_int_str (v9 I q (by simp))
  |_=>exact absurd (show false=true from hs) l5
 |str i=>
  obtain⟨t,rfl⟩:=rx
  cases y with
  |non=>cases ry;exact PySem.EqNone.ne_str_none (v9 I q (by simp))
  |bl j=>cases ry;exact PySem.EqMixed.ne_str_bool (v9 I q (by simp))
  |int j=>obtain⟨t',rfl⟩:=ry;exact PySem.EqMixed.ne_str_int (v9 I q (by simp))
  |str j=>obtain⟨t',rfl⟩:=ry;exact ne_str (v9 I q (congrArg not z7b))
  |_=>exact absurd (show false=true from hs) l5
 |byt i=>
  obtain⟨t,rfl⟩:=rx
  cases y with
  |byt j=>obtain⟨t',rfl⟩:=ry;exact W.ne_bytes (v9 I q (congrArg not zbm))
  |_=>exact absurd (show false=true from hs) l5
 |_=>cases y<;>exact absurd (show false=true from hs) l5
theorem zgv:OpR X (compareOp .Lt) (rI0 fun i j=> .bl (decide (i<j))):=zgb fun _ _ _ _ _ _ _ q=>lt_int q
theorem zgw:OpR X (compareOp .LtE) (rI0 fun i j=> .bl (decide (i<=j))):=zgb fun _ _ _ _ _ _ _ q=>le_int q
theorem zgx:OpR X (compareOp .Gt) (rI0 fun i j=> .bl (decide (j<i))):=zgb fun _ _ _ _ _ _ _ q=>gt_int q
theorem zgy:OpR X (compareOp .GtE) (rI0 fun i j=> .bl (decide (j<=i))):=zgb fun _ _ _ _ _ _ _ q=>ge_int q
theorem OpR.or{f:Value->Value->Sem Value}{r r':R2}(h:OpR X f r)(h':OpR X f r'):OpR X f (fun x y H Q=>r x y H Q\/r' x y H Q):=by
 intro pins s σ H x y v u Q I rx ry q
 rcases q with q|q
 ·exact h pins s σ H x y v u Q I rx ry q
 ·exact h' pins s σ H x y v u Q I rx ry q
theorem V0(b:Expr){op:CmpOp}(h:op≠ .In:=by decide)(h2:op≠ .NotIn:=by decide):behindInMarks op b=false:=by
 have e1:(op==CmpOp.In)=false:=by cases op<;>first|rfl|exact absurd rfl h
 have e2:(op==CmpOp.NotIn)=false:=by cases op<;>first|rfl|exact absurd rfl h2
 cases b<;>simp[behindInMarks,e1,e2]
theorem zbn{op:CmpOp}{r:R2}(ho:OpR X (compareOp op) r)(ha:PE X a ta)(hb:PE X b tb)(hm:behindInMarks op b=false):PE X (.Compare a [op] [b] pos) (tOp r ta tb):=by
 intro pins s σ H Q I h
 exact wpAny_Compare1 (zgs ha hb I h fun v u s2 x y H2 I2 rx ry q=>ho pins s2 σ H2 x y v u Q I2 rx ry q) hm
noncomputable def zdH(t:TE):TT:=fun σ H Q=>t σ H fun x H'=> ∃k,x= .bl k/\Q k H'
theorem zbo{op:CmpOp}{r:R2}(ho:OpR X (compareOp op) r)(ha:PE X a ta)(hb:PE X b tb)(hm:behindInMarks op b=false):PT X (.Compare a [op] [b] pos) (zdH (tOp r ta tb)):=by
 intro pins s σ H Q I h
 refine wpAny_isTrue_Compare1 (thn (ha pins s σ H _ I h) fun v s1 ⟨x,H1,I1,r1,q1⟩=>thn (hb pins s1 σ H1 _ I1 q1) fun u s2 ⟨y,H2,I2,r2,q2⟩=>
  thn (ho pins s2 σ H2 x y v u _ I2 r1 r2 q2) fun c s3 ⟨z,H3,I3,r3,k,e,q3⟩=> ?_) hm
 subst e
 cases r3
 exact wpAny_truthy_bool ⟨H3,I3,q3⟩
noncomputable def z7c(r r':R2)(ta tb tc:TE):TE:=fun σ H Q=>ta σ H fun x H1=>tb σ H1 fun y H2=>r x y H2 fun z H3=> ∃k,z= .bl k/\
 (if k=true then tc σ H3 fun w' H4=>r' y w' H4 Q else Q (.bl false) H3)
theorem z9m{op op':CmpOp}{r r':R2}(ho:OpR X (compareOp op) r)(ho':OpR X (compareOp op') r')(ha:PE X a ta)(hb:PE X b tb)(hc:PE X c tc)
 (hm:lastMarks [op,op'] [b,c]=false:=by with_unfolding_all rfl):PE X (.Compare a [op,op'] [b,c] pos) (z7c r r' ta tb tc):=by
 intro pins s σ H Q I h
 refine Compare_chain (thn (ha pins s σ H _ I h) fun v s1 ⟨x,H1,I1,r1,q1⟩=>chain_link (thn (hb pins s1 σ H1 _ I1 q1) fun u s2 ⟨y,H2,I2,r2,q2⟩=>
  thn (ho pins s2 σ H2 x y v u _ I2 r1 r2 q2) fun d s3 ⟨z,H3,I3,r3,k,e,q3⟩=> ?_)) hm
 subst e
 cases r3
 refine wpAny_truthy_bool ?_
 cases k with
 |false=>exact ite_ff ⟨.bl false,H3,I3,rfl,q3⟩
 |true=>exact ite_tt (chain_last (thn (hc pins s3 σ H3 _ I3 q3) fun w' s4 ⟨z',H4,I4,r4,q4⟩=>ho' pins s4 σ H4 y z' u w' Q I4 r2 r4 q4))
theorem z9n{op op':CmpOp}{r r':R2}(ho:OpR X (compareOp op) r)(ho':OpR X (compareOp op') r')(ha:PE X a ta)(hb:PE X b tb)(hc:PE X c tc)
 (hm:lastMarks [op,op'] [b,c]=false:=by with_unfolding_all rfl):PT X (.Compare a [op,op'] [b,c] pos) (zdH (z7c r r' ta tb tc)):=by
 intro pins s σ H Q I h
 refine isTrue_chain (thn (ha pins s σ H _ I h) fun v s1 ⟨x,H1,I1,r1,q1⟩=>test_link (thn (hb pins s1 σ H1 _ I1 q1) fun u s2 ⟨y,H2,I2,r2,q2⟩=>
  thn (ho pins s2 σ H2 x y v u _ I2 r1 r2 q2) fun d s3 ⟨z,H3,I3,r3,k,e,q3⟩=> ?_)) hm
 subst e
 cases r3
 refine wpAny_truthy_bool ?_
 cases k with
 |false=>
  obtain⟨k',e',q'⟩:=q3
  cases e'
  exact ite_ff ⟨H3,I3,q'⟩
 |true=>
  refine ite_tt (test_last (thn (hc pins s3 σ H3 _ I3 q3) fun w' s4 ⟨z',H4,I4,r4,q4⟩=>thn (ho' pins s4 σ H4 y z' u w' _ I4 r2 r4 q4) fun d' s5 ⟨z2,H5,I5,r5,k2,e2,q5⟩=> ?_))
  subst e2
  cases r5
  exact wpAny_truthy_bool ⟨H5,I5,q5⟩
noncomputable def TruV(K:W.Frag)(x:V)(H:Hp)(k:Bool):Prop:=
 match x with
 | .non=>k=false
 | .bl b=>k=b
 | .int i=>k=(i !=0)
 | .str y=>y.length<=sizeLine/\k=((y.length:Int) !=0)
 | .byt y=>y.size<=sizeLine/\k=((y.size:Int) !=0)
 | .ref p=>(∃xs,SqL K H p xs/\k= !xs.isEmpty)\/(∃xs,SqT K H p xs/\k= !xs.isEmpty)\/∃kvs,H p=some (.dK kvs)/\k= !kvs.isEmpty
 |_=>False
theorem z6h{κ:Type}{kvs:List (κ×V)}{vs:List (κ×Value)}(r:KV kvs vs):(!vs.isEmpty)= !kvs.isEmpty:=by
 cases r<;>rfl
theorem z33{xs:List V}{its:List Value}(r:Q9 xs its):(!its.toArray.isEmpty)= !xs.isEmpty:=by
 cases r<;>simp
theorem z3Y:(sizeLine:Nat)<2^63:=by rw[sizeLine_eq];decide
theorem zdI:ziD X (fun x H Q=> ∃k,TruV X.K x H k/\Q k H):=by
 intro pins s σ H x v Q I rx h
 obtain⟨k,e,q⟩:=h
 have hl:=z3Y
 have hs:sizeLine=16777216:=sizeLine_eq
 cases x with
 |non=>
  cases rx
  have e':k=false:=e
  subst e'
  exact truthy_none ⟨H,I,q⟩
 |bl b=>
  cases rx
  have e':k=b:=e
  subst e'
  exact wpAny_truthy_bool ⟨H,I,q⟩
 |int i=>
  obtain⟨t,rfl⟩:=rx
  have e':k=(i !=0):=e
  subst e'
  exact PySem.P.truthy_int ⟨H,I,q⟩
 |str y=>
  obtain⟨t,rfl⟩:=rx
  obtain⟨hy,e'⟩:y.length<=sizeLine/\k=((y.length:Int) !=0):=e
  subst e'
  exact PySem.P.truthy_str (by lia) ⟨H,I.tok _,q⟩
 |byt y=>
  obtain⟨t,rfl⟩:=rx
  obtain⟨hy,e'⟩:y.size<=sizeLine/\k=((y.size:Int) !=0):=e
  subst e'
  exact W.truthy_bytes (by lia) ⟨H,I.tok _,q⟩
 |ref p=>
  cases rx
  have e':(∃xs,SqL X.K H p xs/\k= !xs.isEmpty)\/(∃xs,SqT X.K H p xs/\k= !xs.isEmpty)\/∃kvs,H p=some (.dK kvs)/\k= !kvs.isEmpty:=e
  rcases e' with⟨xs,hx,e'⟩|⟨xs,hx,e'⟩|⟨kvs,hx,e'⟩
  ·subst e'
   obtain⟨its,r,pl,hz⟩:=I.list hx
   have hlen:=r.length
   exact wpAny_truthy_list pl.isList (by erw[i8];lia) ⟨H,I.tok _,by rw[z33 r];exact q⟩
  ·subst e'
   obtain⟨its,r,pl,hz⟩:=I.tuple hx
   have hlen:=r.length
   exact truthy_tuple pl (by erw[i8];lia) ⟨H,I.tok _,by rw[z33 r];exact q⟩
  ·subst e'
   obtain⟨hz,hS,vs,r,m⟩:kvs.length<=sizeLine/\(p==sysModules)=false/\∃vs,KV kvs vs/\s.heap.DictOf (Y9 X.prog X.w) p vs:=I.hok p _ hx
   have hlen:kvs.length=vs.length:=Paired.length r
   exact wpAny_truthy_dict hS m (by lia) ⟨H,I.tok _,by rw[z6h r];exact q⟩
 |_=>exact(show False from e).elim
theorem z9o(ha:PE X a ta)(he: ∀whole,isTrue a X.env whole=(do let v<-whole;standAt a.pos;holding [v] (truthy v))):
 PT X a (fun σ H Q=>ta σ H fun x H'=> ∃k,TruV X.K x H' k/\Q k H'):=by
 intro pins s σ H Q I h
 exact isTrue_plain (thn (ha pins s σ H _ I h) fun v s1 ⟨x,H1,I1,r1,q1⟩=>zdI pins s1 σ H1 x v Q I1 r1 q1) (he _)
theorem z6i:OpR X (binaryOp .Add) (fun x y H Q=> ∃i j,x= .str i/\y= .str j/\i.length+j.length<=sizeLine/\Q (.str (i++j)) H):=by
 intro pins s σ H x y v u Q I rx ry h
 obtain⟨i,j,rfl,rfl,hz,q⟩:=h
 obtain⟨t,rfl⟩:=rx
 obtain⟨t',rfl⟩:=ry
 exact add_str (fun t' tk=>⟨.str (i++j),H,I.tok _,⟨_,rfl⟩,q⟩) hz
theorem z3o{x:V}{us:List Value}(r:Q9 [x] us): ∃u,us=[u]/\RelV x u:=by
 cases r with
 |cons r1 r2=>cases r2;exact⟨_,rfl,r1⟩
theorem zbp{x y:V}{us:List Value}(r:Q9 [x,y] us): ∃u w',us=[u,w']/\RelV x u/\RelV y w':=by
 cases r with
 |cons r1 r2=>
  cases r2 with
  |cons r3 r4=>cases r4;exact⟨_,_,rfl,r1,r3⟩
theorem z9p:CallR X (.builtin "abs") (fun xs H Q=> ∃i,xs=[.int i]/\Q (.int (if i<0 then -i else i)) H):=by
 intro pins s σ H xs us Q I r h
 obtain⟨i,rfl,q⟩:=h
 obtain⟨u,rfl,t,rfl⟩:=z3o r
 exact call_abs_int fun u tk=>⟨.int (if i<0 then -i else i),H,I.tok _,⟨_,rfl⟩,q⟩
theorem z7d(hc:X.calm=true):CallR X (.builtin "max") (fun xs H Q=> ∃i j,xs=[.int i, .int j]/\Q (.int (if j>i then j else i)) H):=by
 intro pins s σ H xs us Q I r h
 obtain⟨i,j,rfl,q⟩:=h
 obtain⟨u,w',rfl,⟨t,rfl⟩,⟨t',rfl⟩⟩:=zbp r
 refine max_two_ints (I.ok.hd hc) fun h' tk k=>⟨_,H,I.kept k, ?_,q⟩
 by_cases hj:j>i
 ·rw[if_pos hj,if_pos hj];exact⟨_,rfl⟩
 ·rw[if_neg hj,if_neg hj];exact⟨_,rfl⟩
theorem z7e(hc:X.calm=true):CallR X (.builtin "min") (fun xs H Q=> ∃i j,xs=[.int i, .int j]/\Q (.int (if j<i then j else i)) H):=by
 intro pins s σ H xs us Q I r h
 obtain⟨i,j,rfl,q⟩:=h
 obtain⟨u,w',rfl,⟨t,rfl⟩,⟨t',rfl⟩⟩:=zbp r
 refine min_two_ints (I.ok.hd hc) fun h' tk k=>⟨_,H,I.kept k, ?_,q⟩
 by_cases hj:j<i
 ·rw[if_pos hj,if_pos hj];exact⟨_,rfl⟩
 ·rw[if_neg hj,if_neg hj];exact⟨_,rfl⟩
theorem z7f:CallR X (.type "int") (fun xs H Q=>(∃i,xs=[.int i]/\Q (.int i) H)\/∃k,xs=[.bl k]/\Q (.int (if k then 1 else 0)) H):=by
 intro pins s σ H xs us Q I r h
 rcases h with⟨i,rfl,q⟩|⟨k,rfl,q⟩
 ·obtain⟨u,rfl,t,rfl⟩:=z3o r
  exact call_int_int ⟨.int i,H,I,⟨_,rfl⟩,q⟩
 ·obtain⟨u,rfl,r1⟩:=z3o r
  cases r1
  exact call_int_bool ⟨.int (if k then 1 else 0),H,I.tok _,⟨_,rfl⟩,q⟩
end
structure ObjM(h:Heap)(x dx C:Addr)(mA:Str->Option Value):Prop where
 obj:h.get? x=some (W.instObj C dx)
 ns:h.Ns1 dx mA
 ne:dx≠x
theorem z7g{h:Heap}{dx:Addr}{mA:Str->Option Value}(n:h.Ns1 dx mA): ∃od,h.get? dx=some od/\∀name,W.lookIn name od=some (mA name):=by
 obtain⟨o,es,ep,ho,hd,hk,_,hm⟩:=n
 refine⟨o,ho,fun name=> ?_⟩
 have e:=hm name
 unfold nsFind findBy at e
 rw[<-Array.find?_toList] at e
 unfold W.lookIn
 rw[hd]
 dsimp only
 split
 ·rename_i y q
  rw[q] at e
  exact congrArg some e
 ·rename_i q
  rw[q] at e
  have a:es.toList.any (·.refKey)=false:=by
   rw[List.any_eq_false]
   intro y hy
   obtain⟨z,t,hkey⟩:=hk y (Array.mem_toList_iff.mp hy)
   simp[DictEntry.refKey,hkey]
  have a': ¬es.toList.any (·.refKey)=true:=by rw[a];exact l5
  rw[if_neg a']
  exact congrArg some e
theorem ObjM.look{h:Heap}{x dx C:Addr}{mA:Str->Option Value}(I:ObjM h x dx C mA): ∃od,W.InstAt h x (W.instObj C dx) C (some od)/\∀name,W.lookIn name od=some (mA name):=
 let⟨od,ho,hl⟩:=z7g I.ns
 ⟨od,⟨I.obj,rfl,rfl,ho⟩,hl⟩
section
variable{prog:Program}{w:World}{A:Around}{E:Value->Shared->Prop}{s:Shared}{K:W.Frag}{x dx C f:Addr}{mA:Str->Option Value}{name:Str}{v:Value}
theorem zbq{expr:Bool}{Q:Value->Shared->Prop}(X:K.In s.heap)(I:ObjM s.heap x dx C mA)(hg:W.plainGet K C name=true)(hh:W.hasDictIn K C=true)
 (ha:W.findIn K (.ref C) name=some none) (hv:mA name=some v) (hv':W.handedIn v=true) (h:Q v {s with toks:=s.toks+1}):
 wpAny (model prog w) A (getAttr (.ref x) name expr) Q E s:=by
 obtain⟨od,J,hl⟩:=I.look
 exact W.get_value X J (W.plainGet_of hg).1 (W.findObj_own hh ha rfl (by rw[hl,hv])) hv' h
theorem z9q{pl:Sem Bool}{Q:Value×List Value->Shared->Prop}(X:K.In s.heap)(I:ObjM s.heap x dx C mA)(hg:W.plainGet K C name=true)
 (hf:W.findIn K (.ref C) name=some (some (.ref f))) (ht:W.isFn K (.ref f)=true) (hv:mA name=none) (h:Q (.ref f,[.ref x]) s):
 wpAny (model prog w) A (getMethod (.ref x) name pl) Q E s:=by
 obtain⟨od,J,hl⟩:=I.look
 exact W.method_fn X J (W.plainGet_of hg).1 (W.plainGet_of hg).2 hf (beq_iff_eq.mp ht) (by show(W.lookIn name od).map (·.isSome)=some false;rw[hl,hv];rfl) h
theorem zbr{ns:List Str}{Q:Unit->Shared->Prop}(X:K.In s.heap)(I:ObjM s.heap x dx C mA)
 (hs:W.findIn K (.ref C) "__setattr__" =some (some (.builtin "object.__setattr__"))) (hp:W.plainOver K C=true) (ht:W.takerIn K C name=some none) (hh:W.hasDictIn K C=true)
 (hw:PySem.Within mA ns) (hsz:ns.length<=sizeLine)
 (h: ∀h',ObjM h' x dx C (fun y=>if y=name then some v else mA y)->Heap.SameBut dx s.heap h'->Q () {s with heap:=h',toks:=s.toks+2}):
 wpAny (model prog w) A (setAttr (.ref x) name v) Q E s:=by
 obtain⟨od,J,hl⟩:=I.look
 refine W.set_plain X J hs (W.osa_open (s:={s with toks:=s.toks+1}) (r:=none) X J hp ht fun b=> ?_)
 obtain⟨cd,hc,hd'⟩:=W.any_some hh
 have hx:s.heap.get? x=some ⟨.ref C,some dx, .plain, #[]⟩:=I.obj
 refine wpAny_bind (wpAny_pure (wpAny_bind (wpAny_bind (wpAny_loadPart hx (wpAny_bind (W.Looks.here (s:={s with toks:=s.toks+1}) (W.looks_clsIn X hc) ?_))))))
 rw[hd']
 refine wpAny_pure (a:=some dx) (wpAny_bind (wpAny_pure (wpAny_bind ?_)))
 refine wpAny_nsSet1 (s:={s with toks:=s.toks+1}) I.ns fun h' hn2 hs2=> ?_
 obtain⟨oD,esD,epD,hoD,hdD,hcD⟩:=hn2.count (PySem.Within.cons name v hw)
 refine wpAny_bind (wpAny_lookBehind hoD (by rw[hdD];exact pastItsLine_dict (B0 hcD (by rw[i9];lia))) ?_)
 exact wpAny_pure (h _ ⟨(hs2.2 _ (Ne.symm I.ne)).trans I.obj,hn2,I.ne⟩ hs2)
theorem z9r{R:Result->Shared->Prop}{vs:List Value}{kw:List (Str×Value)}(X:K.In s.heap)(hm:W.makesIn K C=true)
 (hi:W.findIn K (.ref C) "__init__" =some (some (.ref f))) (hf:W.typeIn K (.ref f)=some (.type "function"))
 (h:codeAny (model prog w) (A.under (.builtin "type.__call__" ⟨.ref C::vs,kw⟩)) (.call (.ref f) ⟨.ref (s.heap.objs.size+1)::vs,kw⟩) (W.InitBack (s.heap.objs.size+1) R)
  {s with heap:=(s.heap.push W.emptyDict).push (W.instObj C s.heap.objs.size)}):
 codeAny (model prog w) A (.call (.ref C) ⟨vs,kw⟩) R s:=by
 obtain⟨hh,g,d,t,os⟩:=s
 exact W.make_core (W.makes_of X hm) (W.looks_findIn X hi) (fun self=>W.bind_fn X self hf) (.inl rfl) h
end
noncomputable def z34(f:Str)(v:V):List (Str×V)->List (Str×V)
 |[]=>[(f,v)]
 |(g,x)::r=>if g=f then(g,v)::r else(g,x)::z34 f v r
theorem z21(f g:Str)(v:V): ∀fs:List (Str×V),(z34 f v fs).lookup g=if g=f then some v else fs.lookup g
 |[]=>by
  show B7 g [(f,v)]=_
  by_cases h:g=f
  ·have hb:(g==f)=true:=beq_iff_eq.mpr h
   erw[B7,hb,if_pos h]
  ·have hb:(g==f)=false:=beq_eq_false_iff_ne.mpr h
   erw[B7,hb,if_neg h]
 |(k,x)::r=>by
  have ih:=z21 f g v r
  rw[show z34 f v ((k,x)::r)=(if k=f then(k,v)::r else(k,x)::z34 f v r) from rfl]
  by_cases hk:k=f
  ·rw[if_pos hk]
   by_cases h:g=k
   ·have hb:(g==k)=true:=beq_iff_eq.mpr h
    erw[B7,hb,if_pos (h.trans hk)]
   ·have hb:(g==k)=false:=beq_eq_false_iff_ne.mpr h
    erw[B7,hb,if_neg (fun e:g=f=>h (e.trans hk.symm))]
  ·rw[if_neg hk]
   by_cases h:g=k
   ·have hb:(g==k)=true:=beq_iff_eq.mpr h
    erw[B7,hb,if_neg (fun e:g=f=>hk (h.symm.trans e))]
   ·have hb:(g==k)=false:=beq_eq_false_iff_ne.mpr h
    erw[B7,hb]
    exact ih
theorem z22(f:Str)(v:V): ∀fs:List (Str×V),f∈(z34 f v fs).map (·.1)/\∀g,g∈fs.map (·.1)->g∈(z34 f v fs).map (·.1)
 |[]=>⟨by simp[z34],fun g h=>by simp at h⟩
 |(k,x)::r=>by
  obtain⟨i1,i2⟩:=z22 f v r
  rw[show z34 f v ((k,x)::r)=(if k=f then(k,v)::r else(k,x)::z34 f v r) from rfl]
  by_cases hk:k=f
  ·rw[if_pos hk]
   subst hk
   exact⟨by simp,fun g h=>by simpa using h⟩
  ·rw[if_neg hk]
   refine⟨?_,fun g h=> ?_⟩
   ·rw[b7]
    exact b8 _ i1
   ·rw[b7] at h⊢
    rcases i5.mp h with e|e
    ·exact i5.mpr (.inl e)
    ·exact b8 _ (i2 g e)
theorem z23(f:Str)(v:V): ∀fs:List (Str×V),(z34 f v fs).length<=fs.length+1
 |[]=>by simp[z34]
 |(k,x)::r=>by
  have ih:=z23 f v r
  rw[show z34 f v ((k,x)::r)=(if k=f then(k,v)::r else(k,x)::z34 f v r) from rfl]
  by_cases hk:k=f
  ·rw[if_pos hk,i9,i9];lia
  ·rw[if_neg hk,i9,i9];lia
theorem RelO.some_of{v:V}{o:Option Value}(r:RelO (some v) o): ∃u,o=some u/\RelV v u:=by
 cases o with
 |none=>exact(show False from r).elim
 |some u=>exact⟨u,rfl,r⟩
theorem RelO.none_of{o:Option Value}(r:RelO none o):o=none:=by
 cases o with
 |none=>rfl
 |some u=>exact(show False from r).elim
theorem z7h{v:V}{u:Value}(r:RelV v u):W.handedIn u=true:=by
 cases v with
 |non=>cases(show u=Value.none from r);rfl
 |bl b=>cases(show u=Value.bool b from r);rfl
 |int i=>obtain⟨t,e⟩:=(show ∃t,u=Value.int i t from r);cases e;rfl
 |str x=>obtain⟨t,e⟩:=(show ∃t,u=Value.str x t from r);cases e;rfl
 |byt b=>obtain⟨t,e⟩:=(show ∃t,u=Value.bytes b t from r);cases e;rfl
 |flt b=>obtain⟨t,e⟩:=(show ∃t,u=Value.float b t from r);cases e;rfl
 |ref a=>cases(show u=Value.ref a from r);rfl
 |ty n=>cases(show u=Value.type n from r);rfl
section
variable{P:Program}{w:World}{H H':Hp}{h h':Heap}{a C dx:Addr}{fs fs':List (Str×V)}
theorem z4Q(hok:HOk P w H h)(e:H a=some (.ins C dx fs)): ∃mA,ObjM h a dx C mA/\(∀f,RelO (fs.lookup f) (mA f))/\PySem.Within mA (fs.map (·.1))/\fs.length<=1000/\H dx=some (.own a):=by
 obtain⟨d,z,ne,ob,mA,n,r,q⟩:=(show v4 P w H h a (.ins C dx fs) from hok a _ e)
 exact⟨mA,⟨ob,n,ne⟩,r,q,z,d⟩
end
structure Cls(K:W.Frag)(C:Addr):Prop where
 pg:W.plainGet K C Str.empty=true
 hd:W.hasDictIn K C=true
 po:W.plainOver K C=true
 sa:W.findIn K (.ref C) "__setattr__" =some (some (.builtin "object.__setattr__"))
theorem Cls.get{K:W.Frag}{C:Addr}(c:Cls K C)(f:Str):W.plainGet K C f=true:=c.pg
noncomputable def V7(K:W.Frag)(C:Addr)(f:Str):Prop:=W.findIn K (.ref C) f=some none
theorem V7.taker{K:W.Frag}{C:Addr}{f:Str}(n:V7 K C f):W.takerIn K C f=some none:=by
 unfold W.takerIn
 rw[show W.findIn K (.ref C) f=some none from n]
 rfl
structure Con(K:W.Frag)(C:Addr)(f:Str)(v:V)(u:Value):Prop where
 at_:W.findIn K (.ref C) f=some (some u)
 rel:RelV v u
 get:W.specialIn K u "__get__" =some none
 cp:W.copiedNames.contains f=false
structure z9s(K:W.Frag)(C:Addr)(m:Str)(f:Addr):Prop where
 at_:W.findIn K (.ref C) m=some (some (.ref f))
 fn:W.isFn K (.ref f)=true
 kp:W.keepIn K (.ref f)=true
section
variable{X:Cx}{pins:List (Addr×Obj)}{σ:St}{H:Hp}{s:Shared}{a C dx:Addr}{fs:List (Str×V)}{f:Str}{v:V}{A:Around}{E:Value->Shared->Prop}
theorem z6j{b:Bool}{Q:Value->Shared->Prop}(I:Inv X pins σ H s)(e:H a=some (.ins C dx fs))(c:Cls X.K C)(n:V7 X.K C f)(l:fs.lookup f=some v)
 (h: ∀u s',Inv X pins σ H s'->RelV v u->Q u s'):wpAny (model X.prog X.w) A (getAttr (.ref a) f b) Q E s:=by
 obtain⟨mA,O,r,_,_,_⟩:=z4Q I.hok e
 obtain⟨u,hu,ru⟩:=RelO.some_of (v:=v) (o:=mA f) (by rw[<-l];exact r f)
 exact zbq I.kIn O (c.get f) c.hd n hu (z7h ru) (h u _ (I.tok _) ru)
theorem z35{m:Str}{g:Addr}{pl:Sem Bool}{Q:Value×List Value->Shared->Prop}(I:Inv X pins σ H s)(e:H a=some (.ins C dx fs))(c:Cls X.K C)(k:z9s X.K C m g)(l:fs.lookup m=none)
 (h:Q (.ref g,[.ref a]) s):wpAny (model X.prog X.w) A (getMethod (.ref a) m pl) Q E s:=by
 obtain⟨mA,O,r,_,_,_⟩:=z4Q I.hok e
 have hn:mA m=none:=RelO.none_of (by rw[<-l];exact r m)
 exact z9q I.kIn O (c.get m) k.at_ k.fn hn h
theorem z6k{y:V}{u:Value}{Q:Unit->Shared->Prop}(I:Inv X pins σ H s)(e:H a=some (.ins C dx fs))(c:Cls X.K C)(n:V7 X.K C f)(hl:fs.length<1000)(ry:RelV y u)
 (h: ∀s',Inv X pins σ (upd H a (.ins C dx (z34 f y fs))) s'->Q () s'):wpAny (model X.prog X.w) A (setAttr (.ref a) f u) Q E s:=by
 obtain⟨mA,O,r,wi,_,ho⟩:=z4Q I.hok e
 have hz:(fs.map (·.1)).length<=sizeLine:=by rw[n9,sizeLine_eq];lia
 refine zbr I.kIn O c.sa c.po n.taker c.hd wi hz fun h' O' sb=>h _ ?_
 have hd: ∃o,h'.get? dx=some o:=let⟨o,_,_,e',_⟩:=O'.ns;⟨o,e'⟩
 refine I.write (x:=a) (e:=dx) (by rw[e];exact True.intro) (.inr ho) (fun b q hb z=>(sb.2 b hb).trans z) hd ?_
 refine⟨by rw[y6 O.ne];exact ho, ?_,O.ne,O'.obj,_,O'.ns,fun g=> ?_,fun g hg=> ?_⟩
 ·have:=z23 f y fs;lia
 ·show RelO ((z34 f y fs).lookup g) (if g=f then some u else mA g)
  rw[z21]
  by_cases q:g=f
  ·rw[if_pos q,if_pos q];exact ry
  ·rw[if_neg q,if_neg q];exact r g
 ·by_cases q:g=f
  ·rw[q];exact(z22 f y fs).1
  ·refine(z22 f y fs).2 g (wi g fun z=>hg ?_)
   show(if g=f then some u else mA g)=none
   rw[if_neg q];exact z
theorem Inv.made(I:Inv X pins σ H s):Inv X pins σ (upd (upd H s.heap.objs.size (.own (s.heap.objs.size+1))) (s.heap.objs.size+1) (.ins C s.heap.objs.size []))
 {s with heap:=(s.heap.push W.emptyDict).push (W.instObj C s.heap.objs.size)}:=by
 have e1:(s.heap.push W.emptyDict).get? s.heap.objs.size=some W.emptyDict:=Heap.get?_push_size s.heap rfl
 have e2:((s.heap.push W.emptyDict).push (W.instObj C s.heap.objs.size)).get? (s.heap.objs.size+1)=some (W.instObj C s.heap.objs.size):=by
  have:=Heap.get?_push_size (s.heap.push W.emptyDict) (o:=W.instObj C s.heap.objs.size) rfl
  rwa [Heap.size_push] at this
 have e3:(s.heap.push W.emptyDict).Ns s.heap.objs.size (fun _=>none):=⟨W.emptyDict, #[],_,e1,rfl,(fun e he=>absurd he (by simp)),fun _=>rfl⟩
 have I1:=I.laid (a:=s.heap.objs.size) (o:= .own (s.heap.objs.size+1)) (h':=s.heap.push W.emptyDict) (t':=s.toks) (fun b u q=>Heap.get?_push_of_some _ q) (c8 _) ⟨_,e1⟩
 refine I1.laid (a:=s.heap.objs.size+1) (o:= .ins C s.heap.objs.size []) (t':=s.toks) (fun b u q=>Heap.get?_push_of_some _ q) (N9 (Heap.size_push _ _)) ?_
 have ne:s.heap.objs.size≠s.heap.objs.size+1:=l9 (B1 _)
 refine⟨by rw[y6 ne,y9],C4 _,ne,e2,fun _=>none,(Heap.Ns1.of_empty e3).at fun o q=>Heap.get?_push_of_some _ q,fun _=>True.intro,fun y hy=>absurd rfl hy⟩
theorem zbs{prog:Program}{w:World}{env:Env}{e:Expr}{f:Str}{pos:Pos}{s:Shared}{Q:Value->Shared->Prop}(hb:attributeBase e f env (eval e env)=eval e env)
 (h:wpAny (model prog w) A (eval e env) (fun o s₁=>wpAny (model prog w) A (getAttr o f true) Q E s₁) E s):wpAny (model prog w) A (eval (.Attribute e f pos) env) Q E s:=
 Attribute_any_ h (by rw[arm_eval_Attribute,hb])
end
noncomputable def ziG(K:W.Frag)(ta:TE)(f:Str):TE:=fun σ H Q=>ta σ H fun x H1=> ∃a C dx fs v,x= .ref a/\H1 a=some (.ins C dx fs)/\Cls K C/\V7 K C f/\fs.lookup f=some v/\Q v H1
noncomputable def ziH(K:W.Frag)(ta tv:TE)(f:Str):TS:=fun D σ H=>tv σ H fun y H1=>ta σ H1 fun x H2=> ∃a C dx fs,x= .ref a/\H2 a=some (.ins C dx fs)/\Cls K C/\V7 K C f/\fs.length<1000/\
 D.nx σ (upd H2 a (.ins C dx (z34 f y fs)))
section
variable{X:Cx}{o e value:Expr}{f:Str}{pos pos' tpos:Pos}{ta tv:TE}
theorem zdJ(he:PE X e ta)(hb:attributeBase e f X.env (eval e X.env)=eval e X.env):PE X (.Attribute e f pos) (ziG X.K ta f):=by
 intro pins s σ H Q I h
 refine zbs hb (thn (he pins s σ H _ I h) fun u s1 ⟨x,H1,I1,rx,a,C,dx,fs,v,ex,ea,c,n,l,q⟩=> ?_)
 subst ex
 obtain rfl:u=Value.ref a:=rx
 exact z6j I1 ea c n l fun u' s2 I2 ru=>⟨v,H1,I2,ru,q⟩
theorem zdK(ha:PE X o ta)(hv:PE X value tv)(hs:swapsWith value (some (.Attribute o f pos')) pos.line X.env=pure false):PS X (.Assign [.Attribute o f pos'] value pos) (ziH X.K ta tv f):=by
 intro pins s σ H D I h
 refine plainObj_wpAny_Assign_Attribute (thn (hv pins s σ H _ I h) fun u s1 ⟨y,H1,I1,ry,q⟩=>thn (ha pins s1 σ H1 _ I1 q) fun ov s2 ⟨x,H2,I2,rx,a,C,dx,fs,ex,ea,c,n,l,q2⟩=> ?_) hs
 subst ex
 obtain rfl:ov=Value.ref a:=rx
 exact z6k I2 ea c n l ry fun s3 I3=>⟨σ,_,I3,q2⟩
end
section
variable{X:Cx}{pins:List (Addr×Obj)}{σ:St}{H:Hp}{s:Shared}{A:Around}{E:Value->Shared->Prop}{Q:Value->Shared->Prop}{c:Value}{b:Bool}
inductive TyOf(K:W.Frag)(H:Hp):V->Value->Prop where
 |non:TyOf K H .non (.type "NoneType")
 |bl (x:Bool):TyOf K H (.bl x) (.type "bool")
 |int (i:Int):TyOf K H (.int i) (.type "int")
 |str (x:Str):TyOf K H (.str x) (.type "str")
 |flt (x:UInt64):TyOf K H (.flt x) (.type "float")
 |lst {a:Addr} {xs:List V} (e:H a=some (.lst xs)):TyOf K H (.ref a) (.type "list")
 |frz {a:Addr} {o:Obj} {xs:List V} (e:H a=some (.frz o (.lst xs))):TyOf K H (.ref a) (.type "list")
 |tup {a:Addr} {xs:List V} (e:H a=some (.tup xs)):TyOf K H (.ref a) (.type "tuple")
 |dK {a:Addr} {kvs:List (Key×V)} (e:H a=some (.dK kvs)):TyOf K H (.ref a) (.type "dict")
 |dT {a:Addr} {kvs:List (NK×V)} (e:H a=some (.dT kvs)):TyOf K H (.ref a) (.type "dict")
 |ins {a C dx:Addr} {fs:List (Str×V)} (e:H a=some (.ins C dx fs)) (cl:Cls K C) (ha:W.findIn K (.ref C) "__class__" =some (some (.builtin "object.__class__")))
  (hn:W.specialIn K (.builtin "object.__class__") "__get__" =some (some (.builtin "getset_descriptor.__get__"))) (htk:W.takesIn K (.builtin "object.__class__")=some true)
  (hm:W.mroIn K C (.type "object")=some true):TyOf K H (.ref a) (.ref C)
end
structure z0n(k:Nat)(A:Around):Prop where
 hd:A.handled=none
 dp:A.depth+3*k+5<recursionLimit
 un:A.units+16*k+200<cLine
 gd:A.guards=some []
theorem z0n.mono{j k:Nat}{A:Around}(r:z0n k A)(h:j<=k):z0n j A:=⟨r.hd,by have:=r.dp;lia,by have:=r.un;lia,r.gd⟩
theorem z0n.deeper{k:Nat}{A:Around}(r:z0n (k+1) A)(env:Env):z0n k (A.deeper env):=
 ⟨r.hd,by have:=r.dp;show A.depth+1+3*k+5<_;lia,by have:=r.un;show A.units+3+16*k+200<_;lia,r.gd⟩
theorem z6l{A:Around}{C:Addr}{us:List Value}{kw:List (Str×Value)}:(A.under (.builtin "type.__call__" ⟨.ref C::us,kw⟩)).depth=A.depth+1:=by
 first|rfl|simp[Around.under,Code.weight,Code.isCreation,Code.isGuard,Code.isCaller,Code.frames,Code.isFrame,guardIds]
theorem z6m{A:Around}{C:Addr}{us:List Value}{kw:List (Str×Value)}:(A.under (.builtin "type.__call__" ⟨.ref C::us,kw⟩)).units=A.units+1:=by
 first|rfl|simp[Around.under,Code.cUnits,Code.frames,Code.isFrame]
theorem z0n.make{k:Nat}{A:Around}(r:z0n (k+1) A)(C:Addr)(us:List Value)(kw:List (Str×Value)):z0n k (A.under (.builtin "type.__call__" ⟨.ref C::us,kw⟩)):=
 ⟨r.hd,by have:=r.dp;rw[z6l];lia,by have:=r.un;rw[z6m];lia,by first|exact r.gd|simpa[Around.under] using r.gd⟩
theorem z0n.depth{k:Nat}{A:Around}(r:z0n k A):A.depth<recursionLimit:=by have:=r.dp;lia
theorem z0n.units{k:Nat}{A:Around}(r:z0n k A):A.units+64<cLine:=by have:=r.un;lia
noncomputable def zdL:TA:=fun _ H Q=>Q [] H
noncomputable def zbt(ta:TE)(tr:TA):TA:=fun σ H Q=>ta σ H fun x H1=>tr σ H1 fun xs H2=>Q (x::xs) H2
section
variable{X:Cx}{e:Expr}{es:List Expr}{te:TE}{t:TA}{pos:Pos}
theorem z5x:PA X [] zdL:=fun _ _ _ _ H Q I h=>Calls.spliced_nil ⟨[],H,I, .nil,h⟩
theorem z24(ha:PE X e te)(hr:PA X es t)(hs:starEach (e::es) X.env=(false,eval e X.env)::starEach es X.env:=by rfl):PA X (e::es) (zbt te t):=by
 intro pos pins s σ H Q I h
 rw[hs]
 show wpAny _ _ (spliced ((false,eval e X.env)::backTo pos (starEach es X.env))) _ _ s
 refine Calls.spliced_cons (thn (ha pins s σ H _ I h) fun u s1 ⟨x,H1,I1,r1,q1⟩=> ?_)
 exact thn (hr pos pins s1 σ H1 _ I1 q1) fun us s2 ⟨xs,H2,I2,r2,q2⟩=>⟨x::xs,H2,I2, .cons r1 r2,q2⟩
noncomputable def zgz(t:TA):TE:=fun σ H Q=>t σ H fun xs H1=>xs.length<=sizeLine/\∀p,H1 p=none->Q (.ref p) (upd H1 p (.tup xs))
noncomputable def ziI(t:TA):TE:=fun σ H Q=>t σ H fun xs H1=>xs.length<=sizeLine/\∀p,H1 p=none->Q (.ref p) (upd H1 p (.lst xs))
theorem z7i{x1}(h:PA X es t):PE X (.Tuple es x1 pos) (zgz t):=by
 intro pins s σ H Q I hq
 refine wpAny_Tuple_spliced (thn (h pos pins s σ H _ I hq) fun us s1 ⟨xs,H1,I1,r,z,q⟩=>⟨by rw[<-r.length];exact z, ?_⟩)
 have hf:H1 s1.heap.objs.size=none:=I1.hok.fresh (c8 _)
 refine⟨.ref s1.heap.objs.size,upd H1 s1.heap.objs.size (.tup xs),I1.laid (t':=s1.toks) (fun b u e=>Heap.get?_push_of_some _ e) (c8 _) ?_,rfl,q _ hf⟩
 exact⟨z,us,r,⟨_,Heap.get?_push_size _ rfl,rfl,_,rfl⟩⟩
theorem zdM(h:PA X es t):PE X (.List es pos) (ziI t):=by
 intro pins s σ H Q I hq
 refine wpAny_List_spliced (thn (h pos pins s σ H _ I hq) fun us s1 ⟨xs,H1,I1,r,z,q⟩=>⟨by rw[<-r.length];exact z, ?_⟩)
 have hf:H1 s1.heap.objs.size=none:=I1.hok.fresh (c8 _)
 refine⟨.ref s1.heap.objs.size,upd H1 s1.heap.objs.size (.lst xs),I1.laid (t':=s1.toks) (fun b u e=>Heap.get?_push_of_some _ e) (c8 _) ?_,rfl,q _ hf⟩
 exact⟨z,us,0,r,Heap.get?_push_size _ rfl⟩
end
noncomputable abbrev Sp:=List V->Hp->VK->XK->Prop
noncomputable abbrev CXT:=List Env->Hp->Shared->XK->Value->Shared->Prop
structure zat(P:Program)(w:World)(K:W.Frag)(mg:Str->Option Value)(base:Heap)(A:Around)(outer:List Env)(s:Shared)(H:Hp):Prop where
 frames:A.frames=some outer
 mod:Mod K mg base
 bs: ∀b o,base.get? b=some o->s.heap.get? b=some o/\H b=none
 bsz:base.objs.size<=s.heap.objs.size
 funs:s.heap.FunFrames base outer
 frf: ∀b∈frs outer,H b=none
 hok:HOk P w H s.heap
 bare:AllBare s.gens
noncomputable def CE(outer:List Env)(P:Program)(w:World)(H:Hp)(s:Shared)(Q:VK)(u:Value)(s':Shared):Prop:=
 ∃v H',s'.os=s.os/\AllBare s'.gens/\Un (frs outer) [] H H' s.heap s'.heap/\HOk P w H' s'.heap/\RelV v u/\Q v H'
noncomputable def CR(CX:CXT)(outer:List Env)(P:Program)(w:World)(H:Hp)(s:Shared)(Q:VK)(E:XK)(r:Result)(s':Shared):Prop:=
 match r with
 | .ok (.ret u)=>CE outer P w H s Q u s'
 | .ok _=>False
 | .error e=>CX outer H s E e s'
structure U3(P:Program)(w:World)(K:W.Frag)(mg:Str->Option Value)(base:Heap)(CX:CXT)(k:Nat)(f:Addr)(fd:FuncData)(ps:List Str)(sp:Sp):Prop where
 len: ∀vs H Q E,sp vs H Q E->vs.length=ps.length
 run: ∀(A:Around) (outer:List Env) (s:Shared) (H:Hp) (args:Args) (us:List Value) (vs:List V) (Q:VK) (E:XK),z0n k A->zat P w K mg base A outer s H->BindsTo s fd args (ps.zip us)->Q9 vs us->sp vs H Q E->
  codeAny (model P w) A (.call (.ref f) args) (CR CX outer P w H s Q E) s
theorem U3.mono{P:Program}{w:World}{K:W.Frag}{mg:Str->Option Value}{base:Heap}{CX:CXT}{j k:Nat}{f:Addr}{fd:FuncData}{ps:List Str}{sp:Sp}(F:U3 P w K mg base CX j f fd ps sp)(h:j<=k):
 U3 P w K mg base CX k f fd ps sp:=⟨F.len,fun A outer s H args us vs Q E hr=>F.run A outer s H args us vs Q E (hr.mono h)⟩
theorem zat.make{P:Program}{w:World}{K:W.Frag}{mg:Str->Option Value}{base:Heap}{A:Around}{outer:List Env}{s:Shared}{H:Hp}(e:zat P w K mg base A outer s H)(C:Addr)(us:List Value)(kw:List (Str×Value)):
 zat P w K mg base (A.under (.builtin "type.__call__" ⟨.ref C::us,kw⟩)) outer s H:=⟨by first|exact e.frames|(simpa[Around.under,Code.envs,Code.isFrame,pushEnvs] using e.frames),e.mod,e.bs,e.bsz,e.funs,e.frf,e.hok,e.bare⟩
section
variable{X:Cx}{pins:List (Addr×Obj)}{σ:St}{H:Hp}{s s':Shared}
theorem Inv.env0(I:Inv X pins σ H s):zat X.prog X.w X.K X.mg X.base X.A X.stack s H:=
 ⟨I.ok.frames,I.ok.mod,I.bs,B0 I.ok.bsz I.sz,I.stack,I.stkFree,I.hok,I.bare⟩
theorem Inv.after{Q:VK}{u:Value}(I:Inv X pins σ H s)(h:CE X.stack X.prog X.w H s Q u s'):EP X pins σ Q u s':=by
 obtain⟨v,H',os,bare,un,hok,r,q⟩:=h
 obtain⟨hh,g,d,t,os'⟩:=s'
 obtain rfl:os'=s.os:=os
 exact⟨v,H',I.call (h':=hh) (g':=g) (d':=d) (t':=t) (ch:=[]) un hok bare (fun b z=>absurd z (by simp)),r,q⟩
end
noncomputable def zgA(sp:Sp)(dvs:List V)(E:XK)(t:TA):TE:=fun σ H Q=>t σ H fun vs H1=>sp (vs++dvs) H1 Q E
noncomputable def zbu(C:Addr)(m:Str)(sp:Sp)(dvs:List V)(E:XK)(ta:TE)(t:TA):TE:=fun σ H Q=>ta σ H fun x H1=> ∃a dx fs,x= .ref a/\H1 a=some (.ins C dx fs)/\fs.lookup m=none/\
 t σ H1 fun vs H2=>sp (x::(vs++dvs)) H2 Q E
noncomputable def zdN(C:Addr)(sp:Sp)(dvs:List V)(E:XK)(t:TA):TE:=fun σ H Q=>t σ H fun vs H1=> ∀x dx,H1 x=none->H1 dx=none->dx≠x->
 sp (.ref x::(vs++dvs)) (upd (upd H1 dx (.own x)) x (.ins C dx [])) (fun v H2=>v= .non/\Q (.ref x) H2) E
noncomputable def X9(K:W.Frag)(fd:FuncData)(ps:List Str)(ds:List Value):Prop:=
 ∀(s:Shared) (us:List Value),K.In s.heap->(us++ds).length=ps.length->BindsTo s fd ⟨us,[]⟩ (ps.zip (us++ds))
theorem X9.all{K:W.Frag}{fd:FuncData}{ps:List Str}(h: ∀us:List Value,us.length=ps.length->bindArgs fd ⟨us,[]⟩=pure (ps.zip us)):X9 K fd ps []:=fun s us _ hl=>by
 rw[h9] at hl⊢
 exact .of_eq (h us hl)
noncomputable def U4(CX:CXT)(X:Cx)(E:XK):Prop:= ∀(pins:List (Addr×Obj)) (σ:St) (H:Hp) (s:Shared) (e:Value) (s':Shared),Inv X pins σ H s->CX X.stack H s E e s'->X.xe e s'
section
variable{X:Cx}{CX:CXT}{k:Nat}{f C:Addr}{fd:FuncData}{ps:List Str}{sp:Sp}{dvs:List V}{ds:List Value}{E:XK}{x m:Str}{p pos apos:Pos}{e o:Expr}{es:List Expr}{ta:TE}{t:TA}
theorem z7j{pins:List (Addr×Obj)}{σ:St}{H:Hp}{s:Shared}{Q:VK}{us:List Value}{vs:List V}(F:U3 X.prog X.w X.K X.mg X.base CX k f fd ps sp)(hr:z0n k X.A)(hb:X9 X.K fd ps ds)(hd:Q9 dvs ds)(hx:U4 CX X E)
 (I:Inv X pins σ H s) (r:Q9 vs us) (h:sp (vs++dvs) H Q E):wpAny (model X.prog X.w) X.A (call (.ref f) us) (EP X pins σ Q) X.xe s:=by
 have r2:Q9 (vs++dvs) (us++ds):=r.append hd
 have hl:(us++ds).length=ps.length:=by rw[<-r2.length];exact F.len _ _ _ _ h
 refine wpAny_call (codeAny_mono (F.run X.A X.stack s H ⟨us,[]⟩ (us++ds) (vs++dvs) Q E hr I.env0 (hb s us I.kIn hl) r2 h) fun r s' hq=> ?_)
 cases r with
 |error e=>exact hx pins σ H s e s' I hq
 |ok fl=>
  cases fl with
  |ret u=>exact I.after hq
  |next=>exact False.elim hq
  |brk=>exact False.elim hq
  |cont=>exact False.elim hq
theorem zbv(F:U3 X.prog X.w X.K X.mg X.base CX k f fd ps sp)(hr:z0n k X.A)(hg:Gl X x)(hm:X.mg x=some (.ref f))(hk:W.keepIn X.K (.ref f)=true)(hb:X9 X.K fd ps ds)(hd:Q9 dvs ds)(hx:U4 CX X E)
 (ha:PA X (e::es) t) (hdb:(x==("__debug__" :Str))=false:=by decide) (he:starEach (e::es) X.env=(false,eval e X.env)::starEach es X.env:=by rfl) (hpl:(backTo pos (starEach es X.env)).any (·.1)=false:=by rfl):
 PE X (.Call (.Name x p) (e::es) [] pos) (zgA sp dvs E t):=by
 intro pins s σ H Q I h
 refine wpAny_Call_Name_kw (z4O I hg hm ?_ hdb)
 refine W.callWith_K (h₀:=X.base) I.ok.mod.kin hk (thn (ha pos pins s σ H _ I h) fun us s1 ⟨vs,H1,I1,r,q⟩=>⟨I1.kIn, ?_⟩) he hpl
 exact z7j F hr hb hd hx I1 r q
theorem zbw{pl:Sem Bool}(he:PE X o ta)(c:Cls X.K C)(hm:z9s X.K C m f)(F:U3 X.prog X.w X.K X.mg X.base CX k f fd ps sp)(hr:z0n k X.A)(hb:X9 X.K fd ps ds)(hd:Q9 dvs ds)(hx:U4 CX X E)(ha:PA X (e::es) t)
 (hst:starEach (e::es) X.env=(false,eval e X.env)::starEach es X.env:=by rfl) (hpl:(backTo pos (starEach es X.env)).any (·.1)=false:=by rfl)
 (ht:eval (.Call (.Attribute o m apos) (e::es) [] pos) X.env=(do
  let ov<-eval o X.env
  standAt apos.atName
  let(f,first)<-holding [ov] (getMethod ov m pl)
  callWith pos f first (backTo pos (starEach (e::es) X.env)) (backToKw pos (keywordEach [] X.env))):=by rfl):
 PE X (.Call (.Attribute o m apos) (e::es) [] pos) (zbu C m sp dvs E ta t):=by
 intro pins s σ H Q I h
 refine W.methodCall_KW (pl:=pl) (thn (he pins s σ H _ I h) fun u s1 ⟨x,H1,I1,rx,a,dx,fs,ex,ea,l,q⟩=> ?_) ht
 subst ex
 obtain rfl:u=Value.ref a:=rx
 refine z35 I1 ea c hm l ?_
 refine W.callWith_K (first:=[.ref a]) (h₀:=X.base) I.ok.mod.kin hm.kp (thn (ha pos pins s1 σ H1 _ I1 q) fun us s2 ⟨vs,H2,I2,r,q2⟩=>⟨I2.kIn, ?_⟩) hst hpl
 exact z7j (us:= .ref a::us) (vs:= .ref a::vs) F hr hb hd hx I2 (.cons rfl r) q2
theorem z9t{pl:Sem Bool}(he:PE X o ta)(c:Cls X.K C)(hm:z9s X.K C m f)(F:U3 X.prog X.w X.K X.mg X.base CX k f fd ps sp)(hr:z0n k X.A)(hb:X9 X.K fd ps ds)(hd:Q9 dvs ds)(hx:U4 CX X E)
 (ht:eval (.Call (.Attribute o m apos) [] [] pos) X.env=(do
  let ov<-eval o X.env
  standAt apos.atName
  let(f,first)<-holding [ov] (getMethod ov m pl)
  callWith pos f first (backTo pos (starEach [] X.env)) (backToKw pos (keywordEach [] X.env))):=by rfl):
 PE X (.Call (.Attribute o m apos) [] [] pos) (zbu C m sp dvs E ta zdL):=by
 intro pins s σ H Q I h
 refine W.methodCall_KW (pl:=pl) (thn (he pins s σ H _ I h) fun u s1 ⟨x,H1,I1,rx,a,dx,fs,ex,ea,l,q⟩=> ?_) ht
 subst ex
 obtain rfl:u=Value.ref a:=rx
 refine z35 I1 ea c hm l ?_
 exact W.callWith_K0 (first:=[.ref a]) I1.kIn hm.kp (z7j (us:=[.ref a]) (vs:=[.ref a]) F hr hb hd hx I1 (.cons rfl .nil) q)
structure Mk(K:W.Frag)(C f:Addr):Prop where
 makes:W.makesIn K C=true
 init:W.findIn K (.ref C) "__init__" =some (some (.ref f))
 fn:W.isFn K (.ref f)=true
 kp:W.keepIn K (.ref C)=true
theorem z9u{pins:List (Addr×Obj)}{σ:St}{H:Hp}{s:Shared}{Q:VK}{us:List Value}{vs:List V}(M:Mk X.K C f)(F:U3 X.prog X.w X.K X.mg X.base CX k f fd ps sp)(hr:z0n (k+1) X.A)(hb:X9 X.K fd ps ds)(hd:Q9 dvs ds)
 (hx:U4 CX X E) (I:Inv X pins σ H s) (r:Q9 vs us)
 (h: ∀x dx,H x=none->H dx=none->dx≠x->sp (.ref x::(vs++dvs)) (upd (upd H dx (.own x)) x (.ins C dx [])) (fun v H2=>v= .non/\Q (.ref x) H2) E):
 wpAny (model X.prog X.w) X.A (call (.ref C) us) (EP X pins σ Q) X.xe s:=by
 have hq:=h (s.heap.objs.size+1) s.heap.objs.size (I.hok.fresh (Nat.le_succ _)) (I.hok.fresh (c8 _)) (l9 (B1 _))
 have I2:=Inv.made (C:=C) I
 have r2:Q9 (V.ref (s.heap.objs.size+1)::(vs++dvs)) (Value.ref (s.heap.objs.size+1)::(us++ds)):= .cons rfl (r.append hd)
 have hl:(Value.ref (s.heap.objs.size+1)::us++ds).length=ps.length:=by
  have e:=r2.length
  rw[F.len _ _ _ _ hq] at e
  exact e.symm
 refine wpAny_call (z9r (f:=f) I.kIn M.makes M.init (beq_iff_eq.mp M.fn) (codeAny_mono (F.run _ X.stack _ _ ⟨Value.ref (s.heap.objs.size+1)::us,[]⟩ (Value.ref (s.heap.objs.size+1)::(us++ds)) _ _ E (hr.make C us [])
  (I2.env0.make C us []) (hb _ (Value.ref (s.heap.objs.size+1)::us) I2.kIn hl) r2 hq) fun r s' hq'=> ?_))
 cases r with
 |error e=>exact hx pins σ _ _ e s' I2 hq'
 |ok fl=>
  cases fl with
  |ret u=>
   obtain⟨v,H',I3,rv,ev,q3⟩:=I2.after hq'
   subst ev
   exact⟨rv,⟨V.ref (s.heap.objs.size+1),H',I3,rfl,q3⟩⟩
  |next=>exact False.elim hq'
  |brk=>exact False.elim hq'
  |cont=>exact False.elim hq'
theorem z9v(M:Mk X.K C f)(F:U3 X.prog X.w X.K X.mg X.base CX k f fd ps sp)(hr:z0n (k+1) X.A)(hg:Gl X x)(hm:X.mg x=some (.ref C))(hb:X9 X.K fd ps ds)(hd:Q9 dvs ds)(hx:U4 CX X E)
 (hdb:(x==("__debug__" :Str))=false:=by decide):PE X (.Call (.Name x p) [] [] pos) (zdN C sp dvs E zdL):=by
 intro pins s σ H Q I h
 refine wpAny_Call_Name_kw (z4O I hg hm ?_ hdb)
 exact W.callWith_K0 I.kIn M.kp (z9u (us:=[]) M F hr hb hd hx I .nil h)
end
section
variable{X:Cx}{CX:CXT}{k:Nat}{f C:Addr}{fd:FuncData}{ps ks:List Str}{sp:Sp}{E:XK}{x m:Str}{p pos apos kpos:Pos}{e o:Expr}{es:List Expr}{kws:List Keyword}{te ta:TE}{t tk:TA}{nm:Option Str}
structure zif(K:W.Frag)(fd:FuncData)(ps ks:List Str)(g:List Value->List Value->List Value)(gV:List V->List V->List V):Prop where
 to: ∀(s:Shared) (us ws:List Value),K.In s.heap->(g us ws).length=ps.length->BindsTo s fd ⟨us,ks.zip ws⟩ (ps.zip (g us ws))
 rel: ∀{vs:List V} {us:List Value} {zs:List V} {ws:List Value},Q9 vs us->Q9 zs ws->Q9 (gV vs zs) (g us ws)
variable{g:List Value->List Value->List Value}{gV:List V->List V->List V}
end
structure w4(N P:List Str)(sc:Scope):Prop where
 kind:sc.kind= .function
 co:sc.isCoroutine=false
 gen:sc.isGenerator=false
 nd:N.Nodup
 pre:N.take P.length=P
 par: ∀x∈P,sc.names.lookup x=some .local\/sc.names.lookup x=some .cell
 nofree: ∀y∈sc.names,y.2≠ .free
theorem z3Z{kindOf:Str->Option NameKind}{x:Str}: ∀{binds:List (Str×Value)} {m:Str->Option Value},(∀v,(x,v)∉binds)->bindL kindOf binds m x=m x
 |[],_,_=>rfl
 |(n,v)::r,m,h=>by
  unfold bindL
  rw[z3Z fun w hw=>h w (b8 _ hw)]
  split
  ·have:x≠n:=by rintro rfl;exact h v i3
   simp[this]
  ·rfl
theorem z40{kindOf:Str->Option NameKind}{x:Str}: ∀{binds:List (Str×Value)} {m:Str->Option Value},(∀v,(x,v)∉binds)->bindC kindOf binds m x=m x
 |[],_,_=>rfl
 |(n,v)::r,m,h=>by
  unfold bindC
  rw[z40 fun w hw=>h w (b8 _ hw)]
  split
  ·rfl
  ·have:x≠n:=by rintro rfl;exact h v i3
   simp[this]
theorem z41{kindOf:Str->Option NameKind}{x:Str}{v:Value}: ∀{P:List Str} {vs:List Value} {i:Nat} {m:Str->Option Value},P.Nodup->P[i]? =some x->vs[i]? =some v->kindOf x=some .local->
 bindL kindOf (P.zip vs) m x=some v
 |[],_,_,_,_,h,_,_=>by simp at h
 |_::_,[],_,_,_,_,h,_=>by simp at h
 |p::P,w::vs,0,m,nd,h1,h2,hk=>by
  simp at h1 h2;subst h1;subst h2
  show bindL kindOf ((p,w)::P.zip vs) m p=_
  unfold bindL
  rw[z3Z fun v hv=>(B3.mp nd).1 (O6 hv).1,if_pos hk]
  simp
 |p::P,w::vs,i+1,m,nd,h1,h2,hk=>by
  show bindL kindOf ((p,w)::P.zip vs) m x=_
  unfold bindL
  exact z41 (i:=i) (B3.mp nd).2 (by simpa using h1) (by simpa using h2) hk
theorem z42{kindOf:Str->Option NameKind}{x:Str}{v:Value}: ∀{P:List Str} {vs:List Value} {i:Nat} {m:Str->Option Value},P.Nodup->P[i]? =some x->vs[i]? =some v->kindOf x≠some .local->
 bindC kindOf (P.zip vs) m x=some v
 |[],_,_,_,_,h,_,_=>by simp at h
 |_::_,[],_,_,_,_,h,_=>by simp at h
 |p::P,w::vs,0,m,nd,h1,h2,hk=>by
  simp at h1 h2;subst h1;subst h2
  show bindC kindOf ((p,w)::P.zip vs) m p=_
  unfold bindC
  rw[z40 fun v hv=>(B3.mp nd).1 (O6 hv).1,if_neg hk]
  simp
 |p::P,w::vs,i+1,m,nd,h1,h2,hk=>by
  show bindC kindOf ((p,w)::P.zip vs) m x=_
  unfold bindC
  exact z42 (i:=i) (B3.mp nd).2 (by simpa using h1) (by simpa using h2) hk
noncomputable def z43(N:List Str)(vs:List V):St:=vs.map some++i7 (N.length -vs.length) none
noncomputable def z9w(CX:CXT)(P:Program)(w:World)(K:W.Frag)(mg:Str->Option Value)(base:Heap)(N:List Str)(qual:Str)(scope:Scope)(f:Addr)(cd:Value)(A:Around)(outer:List Env)(s:Shared)(H:Hp)(E:XK):Cx where
 prog:=P
 w:=w
 K:=K
 mg:=mg
 base:=base
 A:=A.deeper (envOfC qual scope s.heap.objs.size f cd)
 N:=N
 s₀:=s
 H₀:=H
 env:=envOfC qual scope s.heap.objs.size f cd
 outer:=outer
 stack:=envOfC qual scope s.heap.objs.size f cd::outer
 ex:=[]
 calm:=true
 fn:=fun _=>true
 pn:=[]
 xe:=fun e s'=>wpAny (model P w) (A.deeper (envOfC qual scope s.heap.objs.size f cd)) (leaving (envOfC qual scope s.heap.objs.size f cd) e) (fun _ s''=>CX outer H s E e s'') (fun e' s''=>CX outer H s E e' s'') s'
theorem z5y{sc:Scope}{n:Nat}{x:Str}(h:sc.names.lookup x=some .cell): ∃c,(cellsFrom n sc.names []).lookup x=some c:=by
 have q:=W.cellsFrom_some sc.names n [] (.inl h)
 exact N3.mp q
theorem z7k{CX:CXT}{P:Program}{w:World}{K:W.Frag}{mg:Str->Option Value}{base:Heap}{N ps:List Str}{qual:Str}{scope:Scope}{f:Addr}{cd:Value}{A:Around}{outer:List Env}{s s1:Shared}{H:Hp}{E:XK}{us:List Value}{vs:List V}
 (S:w4 N ps scope) (hd:A.handled=none) (e0:zat P w K mg base A outer s H) (hl:vs.length=ps.length) (r:Q9 vs us)
 (x:InCallC s s.heap.objs.size (bindL (envOfC qual scope s.heap.objs.size f cd).kindOf (ps.zip us) fun _=>none) (cellsFrom (s.heap.objs.size+1) scope.names []) (bindC (envOfC qual scope s.heap.objs.size f cd).kindOf (ps.zip us) fun _=>none) s1):
 Inv (z9w CX P w K mg base N qual scope f cd A outer s H E) [] (z43 N vs) H s1:=by
 have hpl:ps.length<=N.length:=by have:=congrArg S2 S.pre;rw[D0] at this;lia
 obtain⟨h1,tk,rfl,hk⟩:=x.done
 have noA: ∀b:Addr,b∉(z9w CX P w K mg base N qual scope f cd A outer s H E).ex:=fun b z=>absurd (show b∈([]:List Addr) from z) (by simp)
 refine⟨⟨e0.mod,S.kind,rfl,rfl,c8 _,fun y z c h1 h2=> ?_,fun y hy=> ?_,fun y c _ h=> ?_,fun _=>hd,Around.frames_deeper e0.frames, .inr ⟨rfl,rfl⟩,fun b z=>absurd z (noA b),e0.bs,e0.bsz,fun b _ _=>noA b,fun b z=>absurd z (noA b),e0.funs,e0.frf⟩,
  rfl,e0.bare,Un.kept hk,⟨_,x.toInCall.ns,fun i y v h1 h2 h3=> ?_⟩,fun y c h=>⟨_,x.cell y c h⟩,e0.hok.fresh (c8 _),fun y c h=> ?_,fun p hp=>absurd (show p∈([]:List (Addr×Obj)) from hp) (by simp),e0.hok.kept hk, ?_⟩
 ·exact name_of_addr x.apart (PySem.mem_of_lookup h1) (PySem.mem_of_lookup h2)
 ·have hy:scope.names.lookup y=some .cell\/scope.names.lookup y=some .free:=hy
  rcases hy with hy|hy
  ·exact z5y hy
  ·exact absurd rfl (S.nofree _ (PySem.mem_of_lookup hy))
 ·exact P8 (x.above y c (PySem.mem_of_lookup h))
 ·have hi:i<vs.length:=by
   unfold z43 at h2
   by_cases hi:i<vs.length
   ·exact hi
   ·rw[List.getElem?_append_right (by simpa using hi)] at h2
    rw[List.getElem?_replicate] at h2
    split at h2<;>cases h2
  have ha:vs[i]? =some v:=by
   unfold z43 at h2
   rw[List.getElem?_append_left (by simpa using hi),List.getElem?_map] at h2
   cases e:vs[i]? with
   |none=>rw[e] at h2;cases h2
   |some a=>rw[e] at h2;cases h2;rfl
  obtain⟨u,hu,rv⟩:=r.get ha
  have hp:ps[i]? =some y:=by
   rw[<-S.pre,List.getElem?_take_of_lt (by lia)];exact h1
  have ndP:ps.Nodup:=by rw[<-S.pre];exact S.nd.sublist (List.take_sublist _ _)
  refine⟨u,rv, ?_⟩
  rcases S.par y (List.mem_of_getElem? hp) with k|k
  ·exact .inl ⟨k,z41 ndP hp hu k⟩
  ·obtain⟨c,e⟩:=z5y (n:=s.heap.objs.size+1) k
   refine .inr ⟨.inl k,c,e, ?_⟩
   have q:=x.cell y c e
   rw[z42 ndP hp hu (by show scope.names.lookup y≠_;rw[k];decide)] at q
   exact q
 ·exact e0.hok.fresh (P8 (x.above y c (PySem.mem_of_lookup h)))
 ·unfold z43
  show _=N.length
  rw[m8,n9,O8]
  lia
theorem zgB{CX:CXT}{P:Program}{w:World}{K:W.Frag}{mg:Str->Option Value}{base:Heap}{k:Nat}{f:Addr}{name qual:Str}{params:Arguments}{body:List Stmt}{scope:Scope}{dV kV doc pm cdv ct oc:Value}{an od:Option Addr}
 {osl:Array (Option Value)} {N ps:List Str} {sp:Sp} (lk:K.lookup f=some ⟨oc,od, .func (W.fnOf name qual params body scope dV kV doc pm an cdv ct),osl⟩) (hcd:W.codeIn K cdv qual=true) (S:w4 N ps scope)
 (len: ∀vs H Q E,sp vs H Q E->vs.length=ps.length)
 (hbody: ∀(A:Around) (outer:List Env) (s:Shared) (H:Hp) (vs:List V) (Q:VK) (E:XK),z0n k (A.deeper (envOfC qual scope s.heap.objs.size f cdv))->sp vs H Q E->
  ∃t,PSs (z9w CX P w K mg base N qual scope f cdv A outer s H E) body t/\t {nx:=fun _ H'=>Q .non H',rt:=Q} (z43 N vs) H):
 U3 P w K mg base CX (k+1) f (W.fnOf name qual params body scope dV kV doc pm an cdv ct) ps sp:=by
 refine⟨len,fun A outer s H args us vs Q E hr e0 hb r hsp=> ?_⟩
 have hl:=len _ _ _ _ hsp
 have KX:K.In s.heap:=e0.mod.kin.keeps fun b o e=>(e0.bs b o e).1
 have lim:s.heap.NoLimit:=e0.mod.nolimit.keeps fun b o e=>(e0.bs b o e).1
 have hkind: ∀y∈ps.zip us,scope.names.lookup y.1=some .local\/(scope.names.lookup y.1=some .cell/\((cellsFrom (s.heap.objs.size+1) scope.names []).lookup y.1).isSome=true):=fun⟨n,v⟩ hy=>by
  rcases S.par n (O6 hy).1 with q|q
  ·exact .inl q
  ·exact .inr ⟨q,W.cellsFrom_some _ _ _ (.inl q)⟩
 refine codeAny_call_function hr.depth (KX _ _ lk) rfl S.co S.gen rfl (W.codeRec_of KX hcd) (hb _ _ _ _ ?_)
 refine wpAny_newFunctionEnv_cells S.kind hkind fun env he s1 x=> ?_
 subst he
 refine⟨lim.keeps x.toInCall.keep,codeAny_func ?_⟩
 obtain⟨t,ht,hq⟩:=hbody A outer s H vs Q E (hr.deeper _) hsp
 have I:Inv (z9w CX P w K mg base N qual scope f cdv A outer s H E) [] (z43 N vs) H s1:=z7k S hr.hd e0 hl r x
 refine wpAny_mono (ht [] s1 (z43 N vs) H _ I hq) (fun fl s' hs=> ?_) fun e s' hs=>hs
 have fin: ∀{σ':St} {H':Hp} {v:V} {u:Value},Inv (z9w CX P w K mg base N qual scope f cdv A outer s H E) [] σ' H' s'->RelV v u->Q v H'->CE outer P w H s Q u s':=
  fun{σ' H' v u} J rv q=>⟨v,H',J.os,J.bare,J.base,J.hok,rv,q⟩
 cases fl with
 |ret u=>
  obtain⟨v,σ',H',J,rv,q⟩:=hs
  exact fin J rv q
 |next=>
  obtain⟨σ',H',J,q⟩:=hs
  exact fin (v:=V.non) (u:=Value.none) J rfl q
 |brk=>
  obtain⟨_,_,_,q⟩:=hs
  exact False.elim q
 |cont=>
  obtain⟨_,_,_,q⟩:=hs
  exact False.elim q
section
variable{X:Cx}{x:Str}{p pos:Pos}{e:Expr}{es:List Expr}{t:TA}{id T:String}{r:List V->Hp->VK->Prop}
noncomputable def tCB(r:List V->Hp->VK->Prop)(t:TA):TE:=fun σ H Q=>t σ H fun vs H1=>r vs H1 Q
theorem z5z(hc:CallR X (.builtin id) r)(hg:Gl X x)(hm:X.mg x=none)(hv:bootBuiltins x=some (.builtin id))(ha:PA X (e::es) t)(hn:x≠ "__name__" :=by decide)(hdb:(x==("__debug__" :Str))=false:=by decide)
 (he:starEach (e::es) X.env=(false,eval e X.env)::starEach es X.env:=by rfl) (hpl:(backTo pos (starEach es X.env)).any (·.1)=false:=by rfl):PE X (.Call (.Name x p) (e::es) [] pos) (tCB r t):=by
 intro pins s σ H Q I h
 refine wpAny_Call_Name_kw (z3X I hg hm hv ?_ hn hdb)
 exact PyProof.Rows.callWith_builtin1 (thn (ha pos pins s σ H _ I h) fun us s1 ⟨vs,H1,I1,r1,q1⟩=>hc pins s1 σ H1 vs us Q I1 r1 q1) he hpl
theorem z7l(hc:CallR X (.type T) r)(hg:Gl X x)(hm:X.mg x=none)(hv:bootBuiltins x=some (.type T))(ha:PA X (e::es) t)(hn:x≠ "__name__" :=by decide)(hdb:(x==("__debug__" :Str))=false:=by decide)
 (he:starEach (e::es) X.env=(false,eval e X.env)::starEach es X.env:=by rfl) (hpl:(backTo pos (starEach es X.env)).any (·.1)=false:=by rfl):PE X (.Call (.Name x p) (e::es) [] pos) (tCB r t):=by
 intro pins s σ H Q I h
 refine wpAny_Call_Name_kw (z3X I hg hm hv ?_ hn hdb)
 exact PyProof.Rows.callWith_type1 (thn (ha pos pins s σ H _ I h) fun us s1 ⟨vs,H1,I1,r1,q1⟩=>hc pins s1 σ H1 vs us Q I1 r1 q1) he hpl
end
end L2
namespace HT
open PySem PyProof.Rows
section
open PySem.SeqAt
open PySem.AutoSeq1 (wpAny_loadPart')
open PySem.MeetsSeq PySem.MeetsSeq2 PySem.MeetsSeq3
end
section
variable{prog:Program}{w:World}{A:Around}{E:Value->Shared->Prop}{s:Shared}
theorem cat_tup{t b:Addr}{vs ws:List Value}{Q:Value->Shared->Prop}(ht:IsTup s.heap t vs.toArray)(hb:IsTup s.heap b ws.toArray)(hv:vs≠[])
 (h1:ws=[]->Q (.ref t) s) (h2:ws≠[]->Q (.ref s.heap.objs.size) {s with heap:=s.heap.push {cls:= .type "tuple",data:= .seq (vs++ws).toArray}})
 (hsz:vs.length+ws.length<=sizeLine):wpAny (model prog w) A (binaryOp .Add (.ref t) (.ref b)) Q E s:=by
 obtain⟨⟨cls,dd,data,sl⟩,ho,hc,n,hd⟩:=id ht
 obtain⟨⟨cls2,dd2,data2,sl2⟩,ho2,hc2,n2,hd2⟩:=id hb
 simp only at hc hd hc2 hd2
 subst hc hd hc2 hd2
 have e:vs.toArray++ws.toArray=(vs++ws).toArray:=by simp
 by_cases hw:ws=[]
 ·exact concat_meets ⟨_,ho,rfl⟩ ⟨_,ho2,rfl⟩ noFill_tuple_add seq_tuple_add PySem.F.slot_tuple_add PySem.F.entry_tuple_add (PySem.F.args_tuple_add_2 _ _)
   (tuple_addW1 t b vs.toArray ws.toArray n n2 dd dd2 sl sl2 (by simpa using hv) (by simp[hw])) ⟨ho,ho2,h1 hw⟩
 ·refine concat_meets ⟨_,ho,rfl⟩ ⟨_,ho2,rfl⟩ noFill_tuple_add seq_tuple_add PySem.F.slot_tuple_add PySem.F.entry_tuple_add (PySem.F.args_tuple_add_2 _ _)
   (tuple_addW2 t b vs.toArray ws.toArray n n2 dd dd2 sl sl2 (by simpa using hv) (by simpa using hw) (by rw[i8,i8];exact hsz)) ⟨ho,ho2, ?_⟩
  rw[e]
  exact h2 hw
noncomputable def sIx(n d:Nat):Option Int->Nat
 |none=>d
 |some v=>if v<0 then(v+(n:Int)).toNat else min v.toNat n
theorem sIx_none(n d:Nat):sIx n d none=d:=rfl
theorem sIx_nat(n d k:Nat):sIx n d (some (k:Int))=min k n:=by
 show(if(k:Int)<0 then((k:Int)+(n:Int)).toNat else min (k:Int).toNat n)=min k n
 rw[if_neg (by lia),B9]
theorem zdO(n d:Nat)(hd:d<=n)(o:Option Int):sIx n d o<=n:=by
 cases o with
 |none=>exact hd
 |some v=>
  show(if v<0 then(v+(n:Int)).toNat else min v.toNat n)<=n
  by_cases hv:v<0
  ·rw[if_pos hv];lia
  ·rw[if_neg hv];exact Nat.min_le_right _ _
theorem z7m(v:Int)(n d:Nat):(if v<0 then max (v+(n:Int)) 0 else min v (n:Int))=((sIx n d (some v):Nat):Int):=by
 show(if v<0 then max (v+(n:Int)) 0 else min v (n:Int))=(((if v<0 then(v+(n:Int)).toNat else min v.toNat n):Nat):Int)
 by_cases hv:v<0
 ·erw[if_pos hv];lia
 ·erw[if_neg hv];lia
theorem z6n(lo hi:Option Int)(n:Nat):Builtin.Slice.sliceAdjust lo hi 1 (n:Int)=(((sIx n 0 lo:Nat):Int),((sIx n n hi:Nat):Int)):=by
 have h1: ¬((1:Int)<0):=by lia
 unfold Builtin.Slice.sliceAdjust
 erw[h1,if_false]
 refine Prod.ext ?_ ?_
 ·cases lo with
  |none=>rfl
  |some v=>exact z7m v n 0
 ·cases hi with
  |none=>rfl
  |some v=>exact z7m v n n
theorem z6o(i j:Nat):Builtin.Slice.slicePlaces (i:Int) (j:Int) 1=j -i:=by
 unfold Builtin.Slice.slicePlaces
 have h1:(1:Int)>0:=by lia
 erw[h1,if_true,Int.ediv_one]
 split<;>lia
theorem z36{v:Value}{o:Option Int}{Q:Option Int->Shared->Prop}(p:IsPart v o)(h:Q o s):wpAny (model prog w) A (Builtin.Slice.slicePartIndex v) Q E s:=by
 cases p with
 |none=>exact slicePart_none h
 |int i t=>exact slicePart_int h
theorem z0j{sl:Addr}{vl vu:Value}{lo hi:Option Int}{n:Nat}{Q:Int×Int×Nat->Shared->Prop}(hs:s.heap.IsSliceOf sl vl vu .none)(pl:IsPart vl lo)(pu:IsPart vu hi)
 (h:Q (((sIx n 0 lo:Nat):Int),1,sIx n n hi -sIx n 0 lo) s):wpAny (model prog w) A (Builtin.Slice.sliceApplied (.ref sl) (pure (n:Int))) Q E s:=by
 obtain⟨os,hos,hcs,hds⟩:=id hs
 unfold Builtin.Slice.sliceApplied Builtin.Slice.sliceFields
 refine wpAny_bind (wpAny_bind (wpAny_field hos hds (x:=vl) rfl (wpAny_bind (wpAny_field hos hds (x:=vu) rfl (wpAny_bind (wpAny_field hos hds (x:= .none) rfl (wpAny_pure ?_)))))))
 refine wpAny_bind (slicePart_none ?_)
 show wpAny _ _ (if((1:Int)==0)=true then _ else _) _ _ s
 rw[if_neg (by decide)]
 refine wpAny_bind (z36 pl (wpAny_bind (z36 pu (wpAny_bind (wpAny_pure ?_)))))
 show wpAny _ _ (match Builtin.Slice.sliceAdjust lo hi 1 (n:Int) with|(lo,hi)=>pure (lo,(1:Int),Builtin.Slice.slicePlaces lo hi 1)) _ _ s
 rw[z6n lo hi n]
 show wpAny _ _ (pure (((sIx n 0 lo:Nat):Int),(1:Int),Builtin.Slice.slicePlaces ((sIx n 0 lo:Nat):Int) ((sIx n n hi:Nat):Int) 1)) _ _ s
 rw[z6o]
 exact wpAny_pure h
theorem z9x(xs:Array Value)(i k:Nat):((A5 k).filterMap fun(m:Nat)=>xs[((i:Int)+(m:Int)*1).toNat]?).toArray=((xs.toList.drop i).take k).toArray:=by
 have e:(fun(m:Nat)=>xs[((i:Int)+(m:Int)*1).toNat]?)=fun m=>xs[i+m]? :=by
  funext m
  have:((i:Int)+(m:Int)*1).toNat=i+m:=by lia
  rw[this]
 rw[e]
 have:=pick_run xs i k
 rw[List.filterMap_map] at this
 have e2:((fun x=>xs[x]?)∘fun x=>i+x)=fun m=>xs[i+m]? :=rfl
 rw[e2] at this
 rw[this]
theorem getItem_tuple_cut{t sl:Addr}{items:Array Value}{vl vu:Value}{lo hi:Option Int}{Q:Value->Shared->Prop}(ht:IsTup s.heap t items)(hs:s.heap.IsSliceOf sl vl vu .none)(pl:IsPart vl lo)(pu:IsPart vu hi)
 (hw: ¬(sIx items.size 0 lo=0/\sIx items.size items.size hi=items.size))
 (h:Q (.ref s.heap.objs.size) {s with heap:=s.heap.push {cls:= .type "tuple",data:= .seq ((items.toList.drop (sIx items.size 0 lo)).take (sIx items.size items.size hi -sIx items.size 0 lo)).toArray}})
 (hsz:items.size<=sizeLine):wpAny (model prog w) A (getItem (.ref t) (.ref sl)) Q E s:=by
 have htake:sizeOk (.seq ((items.toList.drop (sIx items.size 0 lo)).take (sIx items.size items.size hi -sIx items.size 0 lo)).toArray):=by
  show((items.toList.drop (sIx items.size 0 lo)).take (sIx items.size items.size hi -sIx items.size 0 lo)).toArray.size<=sizeLine
  rw[i8,D0,R5,Array.length_toList]
  lia
 have hj:sIx items.size items.size hi<=items.size:=zdO _ _ (c8 _) hi
 obtain⟨os,hos,hcs,hds⟩:=id hs
 have hTs:s.TypeIs (.ref sl) "slice" :=⟨os,hos,hcs⟩
 unfold getItem
 try with_reducible refine wpAny_holding ?_
 first|refine wpAny_bind (wpAny_pure ?_)|skip
 refine wpAny_bind (wpAny_sequenceKey ht.typeIs (by decide) ?_)
 refine wpAny_bind (wpAny_callSpecial?_slot (name:=Str.ofString "__getitem__") ht.typeIs PyProof.Rows.slot_tuple_getitem
  (wpAny_call_entry PyProof.Rows.slot_tuple_getitem ht.typeIs entry_tuple_getitem ?_ (args_tuple_getitem _ _)))
 show wpAny _ _ (Builtin.Tuple.tupleItemsOf (.ref t)>>=_) _ _ s
 refine wpAny_bind (tupleItemsOf_ ht ?_)
 refine wpAny_bind (wpAny_typeOf hTs ?_)
 rw[if_pos (by decide)]
 refine wpAny_bind (z0j hs pl pu ?_)
 have hno: ¬((((sIx items.size 0 lo:Nat):Int)==0&&(1:Int)==1&&(sIx items.size items.size hi -sIx items.size 0 lo)==items.size)=true):=by
  intro q
  rw[i6,i6] at q
  have q1:((sIx items.size 0 lo:Nat):Int)=0:=eq_of_beq q.1.1
  have q2:sIx items.size items.size hi -sIx items.size 0 lo=items.size:=eq_of_beq q.2
  exact hw ⟨by lia,by lia⟩
 show wpAny _ _ (if(((sIx items.size 0 lo:Nat):Int)==0&&(1:Int)==1&&(sIx items.size items.size hi -sIx items.size 0 lo)==items.size)=true then _ else _) _ _ s
 rw[if_neg hno,z9x]
 first
  |exact wpAny_bind (m:=Builtin.Tuple.tupleExact _) (wpAny_newObj_type (wpAny_pure ⟨_,rfl,wpAny_pure h⟩) htake)
  |exact wpAny_bind (m:=Builtin.Tuple.tupleExact _) (wpAny_newObj_type (wpAny_bind (wpAny_pure (wpAny_pure ⟨_,rfl,wpAny_pure h⟩))) htake)
  |exact wpAny_bind (wpAny_bind (m:=Builtin.Tuple.tupleExact _) (wpAny_newObj_type (wpAny_pure (wpAny_pure ⟨_,rfl,wpAny_pure h⟩)) htake))
  |exact wpAny_bind (wpAny_bind (m:=Builtin.Tuple.tupleExact _) (wpAny_newObj_type (wpAny_pure ⟨_,rfl,wpAny_pure h⟩) htake))
end
end HT
namespace L2
open PySem PySem.Spec PyProof.Rows
noncomputable abbrev TO:=St->Hp->(Option Int->Hp->Prop)->Prop
noncomputable def PO(X:Cx)(e:Option Expr)(t:TO):Prop:=
 ∀(pins:List (Addr×Obj)) (s:Shared) (σ:St) (H:Hp) (Q:Option Int->Hp->Prop),Inv X pins σ H s->t σ H Q->
  wpAny (model X.prog X.w) X.A (evalPart e X.env) (fun u s'=> ∃o H',Inv X pins σ H' s'/\IsPart u o/\Q o H') X.xe s
noncomputable def zbx:TO:=fun _ H Q=>Q none H
noncomputable def zgC(t:TE):TO:=fun σ H Q=>t σ H fun x H1=> ∃i,x= .int i/\Q (some i) H1
section
variable{X:Cx}{e:Expr}{te:TE}{lo hi:Option Expr}{tl th:TO}{pos p2:Pos}
theorem zby:PO X none zbx:=by
 intro pins s σ H Q I h
 rw[evalPart_none]
 exact wpAny_pure ⟨none,H,I, .none,h⟩
theorem zbz(h:PE X e te):PO X (some e) (zgC te):=by
 intro pins s σ H Q I hw
 rw[evalPart_some]
 refine thn (h pins s σ H _ I hw) fun u s1 ⟨x,H1,I1,r1,q1⟩=> ?_
 obtain⟨i,rfl,q⟩:=q1
 obtain⟨t,rfl⟩:=r1
 exact⟨some i,H1,I1, .int i t,q⟩
noncomputable def SlR(X:Cx)(r:V->Option Int->Option Int->Hp->VK->Prop):Prop:=
 ∀(pins:List (Addr×Obj)) (s:Shared) (σ:St) (H:Hp) (x:V) (v vl vu:Value) (lo hi:Option Int) (sl:Addr) (Q:VK),Inv X pins σ H s->RelV x v->s.heap.IsSliceOf sl vl vu .none->IsPart vl lo->IsPart vu hi->r x lo hi H Q->
  ∃T id,typeLookup (.type T) "__getitem__" =pure (some (.builtin id))/\s.TypeIs v T/\wpAny (model X.prog X.w) X.A (getItem v (.ref sl)) (EP X pins σ Q) X.xe s
theorem SlR.or{r r':V->Option Int->Option Int->Hp->VK->Prop}(h:SlR X r)(h':SlR X r'):SlR X (fun x lo hi H Q=>r x lo hi H Q\/r' x lo hi H Q):=by
 intro pins s σ H x v vl vu lo hi sl Q I rx hs pl pu q
 rcases q with q|q
 ·exact h pins s σ H x v vl vu lo hi sl Q I rx hs pl pu q
 ·exact h' pins s σ H x v vl vu lo hi sl Q I rx hs pl pu q
noncomputable def tSl(r:V->Option Int->Option Int->Hp->VK->Prop)(te:TE)(tl th:TO):TE:=fun σ H Q=>te σ H fun x H1=>tl σ H1 fun l H2=>th σ H2 fun u H3=>r x l u H3 Q
theorem z9y{r:V->Option Int->Option Int->Hp->VK->Prop}(hr:SlR X r)(he:PE X e te)(hl:PO X lo tl)(hu:PO X hi th):PE X (.Subscript e (.Slice lo hi none p2) pos) (tSl r te tl th):=by
 intro pins s σ H Q I h
 refine Subscript_ (thn (he pins s σ H _ I h) fun v s1 ⟨x,H1,I1,r1,q1⟩=> ?_)
 refine wpAny_Slice (thn (hl pins s1 σ H1 _ I1 q1) fun vl s2 ⟨l,H2,I2,pl,q2⟩=>thn (hu pins s2 σ H2 _ I2 q2) fun vu s3 ⟨u,H3,I3,pu,q3⟩=> ?_)
 rw[evalPart_none]
 refine wpAny_pure ?_
 have I4:Inv X pins σ H3 {s3 with heap:=s3.heap.push {cls:= .type "slice",data:= .fields #[vl,vu, .none]}}:=I3.kept (t':=s3.toks) fun b ob q=>Heap.get?_push_of_some _ q
 obtain⟨T,id,hT,ht,hg⟩:=hr pins {s3 with heap:=s3.heap.push {cls:= .type "slice",data:= .fields #[vl,vu, .none]}} σ H3 x v vl vu l u s3.heap.objs.size Q I4 r1 (Heap.IsSliceOf.new ..) pl pu q3
 show wpAny (model X.prog X.w) X.A (subscriptTail e (.Slice lo hi none p2) v (.ref s3.heap.objs.size)) (EP X pins σ Q) X.xe {s3 with heap:=s3.heap.push {cls:= .type "slice",data:= .fields #[vl,vu, .none]}}
 exact tail_any (ops:=[.ref s3.heap.objs.size,v]) ht hT hg (by with_unfolding_all rfl)
noncomputable def z7n(xs:List V)(lo hi:Option Int):List V:=(xs.drop (HT.sIx xs.length 0 lo)).take (HT.sIx xs.length xs.length hi -HT.sIx xs.length 0 lo)
theorem z25(xs:List V)(lo hi:Option Int):(z7n xs lo hi).length<=xs.length:=by
 unfold z7n
 rw[D0,R5]
 lia
noncomputable def ziJ(K:W.Frag):V->Option Int->Option Int->Hp->VK->Prop:=fun x lo hi H Q=> ∃a xs,x= .ref a/\SqT K H a xs/\
 ¬(HT.sIx xs.length 0 lo=0/\HT.sIx xs.length xs.length hi=xs.length)/\∀p,H p=none->Q (.ref p) (upd H p (.tup (z7n xs lo hi)))
theorem zdP:SlR X (ziJ X.K):=by
 intro pins s σ H x v vl vu lo hi sl Q I rx hs pl pu h
 obtain⟨a,xs,rfl,hx,hw,q⟩:=h
 cases rx
 obtain⟨its,r,ht,hz⟩:=I.tuple hx
 have hlen:its.toArray.size=xs.length:=by rw[i8];exact r.length.symm
 refine⟨"tuple",_,PyProof.Rows.slot_tuple_getitem.lookup,ht.typeIs, ?_⟩
 refine HT.getItem_tuple_cut ht hs pl pu (by rw[hlen];exact hw) ?_ (by rw[hlen];exact hz)
 rw[hlen]
 refine⟨.ref s.heap.objs.size,_,I.laid (t':=s.toks) (o:= .tup (z7n xs lo hi)) (fun b ob q=>Heap.get?_push_of_some _ q) (c8 _) ?_,rfl,q _ (I.hok.fresh (c8 _))⟩
 exact⟨B0 (z25 xs lo hi) hz,_,(r.drop (HT.sIx xs.length 0 lo)).take (HT.sIx xs.length xs.length hi -HT.sIx xs.length 0 lo),IsTup.new _ _⟩
noncomputable def zgD(K:W.Frag):R2:=fun x y H Q=> ∃a b xs ys,x= .ref a/\y= .ref b/\SqT K H a xs/\SqT K H b ys/\xs≠[]/\xs.length+ys.length<=sizeLine/\
 (ys=[]->Q (.ref a) H)/\(ys≠[]->∀p,H p=none->Q (.ref p) (upd H p (.tup (xs++ys))))
theorem Q9.nil_iff{xs:List V}{us:List Value}(r:Q9 xs us):us=[]↔xs=[]:=by
 cases r with
 |nil=>simp
 |cons _ _=>simp
theorem zbA:OpR X (binaryOp .Add) (zgD X.K):=by
 intro pins s σ H x y v u Q I rx ry h
 obtain⟨a,b,xs,ys,rfl,rfl,ha,hb,hx,hz,q1,q2⟩:=h
 cases rx
 cases ry
 obtain⟨its,r1,p1,_⟩:=I.tuple ha
 obtain⟨its2,r2,p2,_⟩:=I.tuple hb
 refine HT.cat_tup p1 p2 (fun z=>hx (r1.nil_iff.mp z)) (fun z=>⟨.ref a,H,I,rfl,q1 (r2.nil_iff.mp z)⟩) (fun z=> ?_) (by rw[<-r1.length,<-r2.length];exact hz)
 refine⟨.ref s.heap.objs.size,_,I.laid (t':=s.toks) (o:= .tup (xs++ys)) (fun b ob q=>Heap.get?_push_of_some _ q) (c8 _) ?_,rfl,q2 (fun w=>z (r2.nil_iff.mpr w)) _ (I.hok.fresh (c8 _))⟩
 exact⟨by rw[m8];exact hz,_,r1.append r2,IsTup.new _ _⟩
end
noncomputable def ixN(n:Nat)(i:Int):Option Nat:=if 0<=i then(if i<n then some i.toNat else none) else if -(n:Int)<=i then some (i+n).toNat else none
noncomputable def atI{α:Type}(xs:List α)(i:Int):Option α:=(ixN xs.length i).bind fun j=>xs[j]?
theorem z7o{n:Nat}{i:Int}{j:Nat}(h:ixN n i=some j):seqIndex? i n=some j/\j<n/\-(n:Int)<=i/\i<n:=by
 unfold ixN at h
 by_cases h0:0<=i
 ·rw[if_pos h0] at h
  by_cases h1:i<n
  ·rw[if_pos h1] at h
   have e:i.toNat=j:=Option.some.inj h
   exact⟨by rw[seqIndex_of h0 h1,e],by lia,by lia,h1⟩
  ·rw[if_neg h1] at h;cases h
 ·rw[if_neg h0] at h
  by_cases h1: -(n:Int)<=i
  ·rw[if_pos h1] at h
   have e:(i+n).toNat=j:=Option.some.inj h
   exact⟨by rw[seqIndex_neg (by lia) h1,e],by lia,h1,by lia⟩
  ·rw[if_neg h1] at h;cases h
theorem z7p{α:Type}{xs:List α}{i:Int}{v:α}(h:atI xs i=some v): ∃j,seqIndex? i xs.length=some j/\xs[j]? =some v/\j<xs.length/\-(xs.length:Int)<=i/\i<xs.length:=by
 unfold atI at h
 cases e:ixN xs.length i with
 |none=>rw[e] at h;cases h
 |some j=>
  rw[e] at h
  obtain⟨h1,h2,h3,h4⟩:=z7o e
  exact⟨j,h1,h,h2,h3,h4⟩
theorem zbB{α:Type}{xs:List α}{j:Nat}{v:α}(h:xs[j]? =some v):atI xs (j:Int)=some v:=by
 have hj:j<xs.length:=(List.getElem?_eq_some_iff.mp h).1
 have e:ixN xs.length (j:Int)=some j:=by
  unfold ixN
  rw[if_pos (by lia),if_pos (by lia)];simp
 unfold atI;rw[e];exact h
noncomputable def z1u(b:Expr):Prop:= ∀o i,subscripted b false o i=operate [o,i] (getItem o i)
noncomputable def IxR(X:Cx)(r:R2):Prop:=
 ∀(value slice:Expr) (pins:List (Addr×Obj)) (s:Shared) (σ:St) (H:Hp) (x y:V) (v u:Value) (Q:VK),Inv X pins σ H s->RelV x v->RelV y u->r x y H Q->
  subscripted slice false v u=operate [v,u] (getItem v u)->wpAny (model X.prog X.w) X.A (subscriptTail value slice v u) (EP X pins σ Q) X.xe s
noncomputable def MtR(X:Cx)(id:String)(r:V->List V->Hp->VK->Prop):Prop:=
 ∀(pins:List (Addr×Obj)) (s:Shared) (σ:St) (H:Hp) (x:V) (xs:List V) (v:Value) (us:List Value) (Q:VK),Inv X pins σ H s->RelV x v->Q9 xs us->r x xs H Q->
  wpAny (model X.prog X.w) X.A (call (.builtin id) (v::us)) (EP X pins σ Q) X.xe s
section
variable{X:Cx}{a b:Expr}{ta tb:TE}{pos:Pos}
theorem IxR.or{r r':R2}(h:IxR X r)(h':IxR X r'):IxR X (fun x y H Q=>r x y H Q\/r' x y H Q):=by
 intro value slice pins s σ H x y v u Q I rx ry q hs
 rcases q with q|q
 ·exact h value slice pins s σ H x y v u Q I rx ry q hs
 ·exact h' value slice pins s σ H x y v u Q I rx ry q hs
theorem zgE{r:R2}(hr:IxR X r)(ha:PE X a ta)(hb:PE X b tb)(hs:z1u b):PE X (.Subscript a b pos) (tOp r ta tb):=by
 intro pins s σ H Q I h
 exact Subscript_ (zgs ha hb I h fun v u s2 x y H2 I2 rx ry q=>hr a b pins s2 σ H2 x y v u Q I2 rx ry q (hs _ _))
noncomputable def zig(K:W.Frag):R2:=fun x y H Q=> ∃p xs i v,x= .ref p/\y= .int i/\SqL K H p xs/\atI xs i=some v/\Q v H
noncomputable def zih(K:W.Frag):R2:=fun x y H Q=> ∃p xs i v,x= .ref p/\y= .int i/\SqT K H p xs/\atI xs i=some v/\Q v H
theorem zbC:IxR X (zig X.K):=by
 intro value slice pins s σ H x y v u Q I rx ry h hs
 obtain⟨p,xs,i,z,rfl,rfl,hq,he,q⟩:=h
 cases rx
 obtain⟨t,rfl⟩:=ry
 obtain⟨its,r,pl,hz⟩:=I.list hq
 obtain⟨j,h1,h2,h3,h4,h5⟩:=z7p he
 obtain⟨w,ew,rw'⟩:=r.get h2
 have hl:=r.length
 have hn:=z3Y
 have fin:EP X pins σ Q w s:=⟨z,H,I,rw',q⟩
 by_cases h0:0<=i
 ·have hj:i.toNat=j:=by
   rw[seqIndex_of h0 h5] at h1
   exact Option.some.inj h1
  exact item_listR pl.isList h0 (by lia) (by rw[hj];simpa using ew) fin hs
 ·have hj:(i+(its.toArray.size:Int)).toNat=j:=by
   rw[seqIndex_neg (by lia) h4] at h1
   rw[i8,<-hl]
   exact Option.some.inj h1
  exact subscriptTail_builtinR (x:=w) pl.isList.typeIs slot_list_getitem.lookup
   (wpAny_getItem_list_neg (Q:=fun r s'=>r=w/\EP X pins σ Q r s') pl.isList (by lia) (by rw[i8]<;>lia) (by lia) (by rw[hj];simpa using ew) ⟨rfl,fin⟩) hs
theorem zdQ:IxR X (zih X.K):=by
 intro value slice pins s σ H x y v u Q I rx ry h hs
 obtain⟨p,xs,i,z,rfl,rfl,hq,he,q⟩:=h
 cases rx
 obtain⟨t,rfl⟩:=ry
 obtain⟨its,r,pl,hz⟩:=I.tuple hq
 obtain⟨j,h1,h2,h3,h4,h5⟩:=z7p he
 obtain⟨w,ew,rw'⟩:=r.get h2
 have hl:=r.length
 have hn:=z3Y
 have fin:EP X pins σ Q w s:=⟨z,H,I,rw',q⟩
 exact subscriptTail_builtinR (x:=w) pl.typeIs slot_tuple_getitem.lookup
  (getItem_tuple (j:=j) (Q:=fun r s'=>r=w/\EP X pins σ Q r s') pl (by lia) (by lia) (by rw[i8,<-hl];exact h1) (by simpa using ew) ⟨rfl,fin⟩) hs
theorem z6p(its:List Value)(n j:Nat)(u:Value):Obj.mapSeq (·.setIfInBounds j u) {cls:= .type "list",data:= .seq its.toArray n}={cls:= .type "list",data:= .seq (its.set j u).toArray n}:=by
 simp[Obj.mapSeq]
theorem Inv.lst{pins:List (Addr×Obj)}{σ:St}{H:Hp}{s:Shared}{p:Addr}{xs:List V}(I:Inv X pins σ H s)(h:H p=some (.lst xs)):
 ∃(its:List Value) (n:Nat),Q9 xs its/\s.heap.get? p=some {cls:= .type "list",data:= .seq its.toArray n}/\xs.length<=sizeLine:=by
 obtain⟨z,its,n,r,e⟩:=I.hok p _ h
 exact⟨its,n,r,e,z⟩
theorem Inv.lstUpd{pins:List (Addr×Obj)}{σ:St}{H:Hp}{s:Shared}{p:Addr}{xs ys:List V}{its its':List Value}{n n':Nat}{f:Obj->Obj}(I:Inv X pins σ H s)(h:H p=some (.lst xs))
 (ho:s.heap.get? p=some {cls:= .type "list",data:= .seq its.toArray n}) (hf:f {cls:= .type "list",data:= .seq its.toArray n}={cls:= .type "list",data:= .seq its'.toArray n'}) (r:Q9 ys its') (hz:ys.length<=sizeLine) (t:Nat):
 Inv X pins σ (upd H p (.lst ys)) {s with heap:=s.heap.update p f,toks:=t}:=by
 have e:(s.heap.update p f).get? p=some {cls:= .type "list",data:= .seq its'.toArray n'}:=by
  rw[Heap.get?_update_self f ho (by rw[hf]<;>rfl),hf]
 refine I.write (x:=p) (e:=p) (by rw[h];trivial) (.inl rfl) (fun b u hb q=>(Heap.get?_update_other _ _ (Ne.symm hb)).trans q) ⟨_,e⟩ ?_
 exact⟨hz,its',n',r,e⟩
noncomputable def z9z:V->V->V->Hp->(Hp->Prop)->Prop:=fun o i v H Q=> ∃p xs k j,o= .ref p/\i= .int k/\H p=some (.lst xs)/\ixN xs.length k=some j/\Q (upd H p (.lst (xs.set j v)))
theorem z5A:zie X z9z:=by
 intro pins s σ H o i v ov iv u Q I ro ri rv h
 obtain⟨p,xs,k,j,rfl,rfl,hp,hj,q⟩:=h
 cases ro
 obtain⟨t,rfl⟩:=ri
 obtain⟨its,n,r,ho,hz⟩:=I.lst hp
 obtain⟨h1,h2,h3,h4⟩:=z7o hj
 have hl:=r.length
 have hn:=z3Y
 have I':Inv X pins σ (upd H p (.lst (xs.set j v))) {s with heap:=s.heap.update p (Obj.mapSeq (·.setIfInBounds j u))}:=
  I.lstUpd hp ho (z6p its n j u) (r.set rv j) (by rw[List.length_set];exact hz) s.toks
 by_cases h0:0<=k
 ·have hk:k.toNat=j:=by
   rw[seqIndex_of h0 h4] at h1
   exact Option.some.inj h1
  exact W.ki_setAt ho h0 (by lia) (by rw[i8,<-hl];exact h4) (by rw[hk];exact⟨_,I',q⟩)
 ·have hk:(k+(its.toArray.size:Int)).toNat=j:=by
   rw[seqIndex_neg (by lia) h3] at h1
   rw[i8,<-hl]
   exact Option.some.inj h1
  exact W.ki_setBack ho (by lia) (by rw[i8,<-hl];exact h3) (by lia) (by rw[hk];exact⟨_,I',q⟩)
theorem z44(lo hi:Option Int)(n:Nat):(sliceBounds lo hi none n).1=((HT.sIx n 0 lo:Nat):Int)/\(sliceBounds lo hi none n).2.1=((HT.sIx n n hi:Nat):Int)/\(sliceBounds lo hi none n).2.2=1:=by
 refine⟨?_, ?_,rfl⟩
 ·cases lo with
  |none=>simp[sliceBounds,HT.sIx]
  |some i=>
   erw[sliceBounds,HT.sIx,E6,show(1:Int)>0 by decide,if_true]
   by_cases h:i<0
   ·erw[h,if_true]<;>lia
   ·erw[h,if_false]<;>lia
 ·cases hi with
  |none=>simp[sliceBounds,HT.sIx]
  |some i=>
   erw[sliceBounds,HT.sIx,E6,show(1:Int)>0 by decide,if_true]
   by_cases h:i<0
   ·erw[h,if_true]<;>lia
   ·erw[h,if_false]<;>lia
theorem z3p(its:List Value)(lo hi:Option Int):slicePick its.toArray lo hi none=((its.drop (HT.sIx its.length 0 lo)).take (HT.sIx its.length its.length hi -HT.sIx its.length 0 lo)).toArray:=by
 obtain⟨h1,h2,h3⟩:=z44 lo hi its.toArray.size
 unfold slicePick
 rw[h1,h2,h3]
 erw[sliceRange_one,pick_run,i8]<;>rfl
noncomputable def zgF(K:W.Frag):V->Option Int->Option Int->Hp->VK->Prop:=fun x lo hi H Q=> ∃a xs,x= .ref a/\SqL K H a xs/\∀p,H p=none->Q (.ref p) (upd H p (.lst (z7n xs lo hi)))
theorem zbD:SlR X (zgF X.K):=by
 intro pins s σ H x v vl vu lo hi sl Q I rx hs pl pu h
 obtain⟨a,xs,rfl,hx,q⟩:=h
 cases rx
 obtain⟨its,r,ht,hz⟩:=I.list hx
 have hlen:=r.length
 refine⟨"list",_,slot_list_getitem.lookup,ht.isList.typeIs, ?_⟩
 refine wpAny_getItem_list_slice ht.isList hs pl pu .none (by simp) ?_ (by rw[i8]<;>lia)
 rw[z3p,<-hlen]
 refine⟨.ref s.heap.objs.size,_,I.laid (t':=s.toks) (o:= .lst (z7n xs lo hi)) (fun b ob q=>Heap.get?_push_of_some _ q) (c8 _) ?_,rfl,q _ (I.hok.fresh (c8 _))⟩
 exact⟨B0 (z25 xs lo hi) hz,_,0,(r.drop (HT.sIx xs.length 0 lo)).take (HT.sIx xs.length xs.length hi -HT.sIx xs.length 0 lo),Heap.get?_push_size _ rfl⟩
theorem z45:CallR X (.builtin "len") (fun xs H Q=> ∃p ys,xs=[.ref p]/\(SqL X.K H p ys\/SqT X.K H p ys)/\Q (.int ys.length) H):=by
 intro pins s σ H xs us Q I r h
 obtain⟨p,ys,rfl,hq,q⟩:=h
 obtain⟨u,rfl,rx⟩:=z3o r
 cases rx
 have hn:=z3Y
 rcases hq with hq|hq
 ·obtain⟨its,r',pl,hz⟩:=I.list hq
  have hlen:=r'.length
  exact Calls.call_len_list pl.isList (by erw[i8]<;>lia) ⟨.int ys.length,H,I.tok _,⟨s.toks+1,by rw[i8,hlen]⟩,q⟩
 ·obtain⟨its,r',pl,hz⟩:=I.tuple hq
  have hlen:=r'.length
  exact len_tuple pl (by erw[i8]<;>lia) ⟨.int ys.length,H,I.tok _,⟨s.toks+1,by rw[i8,hlen]⟩,q⟩
theorem z3q:CallR X (.type "tuple") (fun xs H Q=> ∃p ys,xs=[.ref p]/\((SqL X.K H p ys/\∀l,H l=none->Q (.ref l) (upd H l (.tup ys)))\/(SqT X.K H p ys/\Q (.ref p) H))):=by
 intro pins s σ H xs us Q I r h
 obtain⟨p,ys,rfl,h⟩:=h
 obtain⟨u,rfl,rx⟩:=z3o r
 cases rx
 rcases h with⟨hq,q⟩|⟨hq,q⟩
 ·obtain⟨its,r',pl,hz⟩:=I.list hq
  have hlen:=r'.length
  refine call_tuple_list pl.isList (fun h' kp=> ?_) (by erw[i8]<;>lia)
  have I1:Inv X pins σ H {s with heap:=h'}:=I.kept (t':=s.toks) kp
  have I2:Inv X pins σ (upd H h'.objs.size (.tup ys)) {s with heap:=h'.push {cls:= .type "tuple",data:= .seq its.toArray}}:=
   I1.laid (t':=s.toks) (fun b o e=>Heap.get?_push_of_some _ e) (c8 _) (show v4 X.prog X.w _ _ _ (.tup ys) from⟨hz,its,r',IsTup.new _ _⟩)
  exact⟨.ref h'.objs.size,_,I2,rfl,q _ (I1.hok.fresh (c8 _))⟩
 ·obtain⟨its,r',pl,hz⟩:=I.tuple hq
  exact call_tuple_same pl ⟨.ref p,H,I,rfl,q⟩
noncomputable def tyV(K:W.Frag)(T:String)(x:V)(H:Hp):Prop:=match x with
 | .str _=>T= "str"
 | .int _=>T= "int"
 | .ref p=>(T= "list" /\∃xs,SqL K H p xs)\/(T= "tuple" /\∃o,K.lookup p=some o/\o.cls= .type "tuple" /\o.dict=none)\/
  (T= "dict" /\((∃kvs,H p=some (.dK kvs))\/∃kvs,H p=some (.dT kvs)))\/(T= "set" /\∃S n,H p=some (.set S n))
 |_=>False
theorem zdR{pins:List (Addr×Obj)}{σ:St}{H:Hp}{s:Shared}{T:String}{x:V}{v:Value}(I:Inv X pins σ H s)(r:RelV x v)(ty:tyV X.K T x H):
 s.TypeIs v T/\∀a,v= .ref a->∃ob,s.heap.get? a=some ob/\ob.dict=none:=by
 cases x with
 |str z=>
  obtain⟨t,rfl⟩:=r
  cases(show T= "str" from ty)
  exact⟨typeIs_str s z t,fun _ e=>nomatch e⟩
 |int i=>
  obtain⟨t,rfl⟩:=r
  cases(show T= "int" from ty)
  exact⟨typeIs_int s i t,fun _ e=>nomatch e⟩
 |ref p=>
  cases r
  rcases ty with⟨rfl,xs,hq⟩|⟨rfl,o,hk,hc,hd⟩|⟨rfl,hk⟩|⟨rfl,S,n,hk⟩
  ·obtain⟨its,_,pl,_⟩:=I.list hq
   refine⟨pl.isList.typeIs,fun a e=> ?_⟩
   cases e
   obtain⟨o,n,e,c,hd,_⟩:=pl
   exact⟨o,e,hd⟩
  ·refine⟨⟨o,I.kIn p o hk,hc⟩,fun a e=> ?_⟩
   cases e
   exact⟨o,I.kIn _ o hk,hd⟩
  ·have z: ∃o,s.heap.get? p=some o/\o.ExactDict:=by
    rcases hk with⟨kvs,hk⟩|⟨kvs,hk⟩
    ·obtain⟨_,_,_,_,o,_,_,e,ex,_⟩:=I.hok p _ hk
     exact⟨o,e,ex⟩
    ·obtain⟨_,_,_,_,o,_,_,e,ex,_⟩:=I.hok p _ hk
     exact⟨o,e,ex⟩
   obtain⟨o,e,ex⟩:=z
   refine⟨⟨o,e,ex.1⟩,fun a e2=> ?_⟩
   cases e2
   exact⟨o,e,ex.2.1⟩
  ·obtain⟨o,_,_,_,e,ex,_⟩:=I.hok p _ hk
   refine⟨⟨o,e,ex.1⟩,fun a e2=> ?_⟩
   cases e2
   exact⟨o,e,ex.2.1⟩
 |_=>exact False.elim ty
noncomputable def tBM(K:W.Frag)(T:String)(r:V->List V->Hp->VK->Prop)(to:TE)(t:TA):TE:=fun σ H Q=>to σ H fun x H1=>tyV K T x H1/\t σ H1 fun xs H2=>r x xs H2 Q
variable{o e:Expr}{es:List Expr}{to:TE}{t:TA}{name:Str}{apos cpos:Pos}{T id:String}{r:V->List V->Hp->VK->Prop}
theorem zgG(pa:PlainAttrs T)(slot:Slot T name id)(hty:typeOf (.builtin id)=pure (.type "method_descriptor"))(hm:MtR X id r)(ho:PE X o to)(ha:PA X (e::es) t)
 (hbase:attributeBase o name X.env (eval o X.env)=eval o X.env:=by rfl)
 (hfew:((backTo cpos (starEach (e::es) X.env)).all (fun x=> !x.1)&&(backToKw cpos (keywordEach [] X.env)).all (fun x=>x.1.isSome)
  &&decide ((e::es).length+([]:List Keyword).length+(if([]:List Keyword).isEmpty then 0 else 1)<30))=true:=by rfl)
 (hline:(apos.endLine==cpos.line)=true:=by rfl) (hs:starEach (e::es) X.env=(false,eval e X.env)::starEach es X.env:=by rfl) (hplain:(backTo cpos (starEach es X.env)).any (·.1)=false:=by rfl):
 PE X (.Call (.Attribute o name apos) (e::es) [] cpos) (tBM X.K T r to t):=by
 intro pins s σ H Q I h
 refine wpAny_Call_method_late hbase hfew hline rfl (thn (ho pins s σ H _ I h) fun v s1 ⟨x,H1,I1,r1,ty,q1⟩=> ?_)
 obtain⟨h1,h2⟩:=zdR I1 r1 ty
 refine⟨T,id,pa,slot,hty,h1,h2, ?_⟩
 have hA:=ha cpos pins s1 σ H1 _ I1 q1
 rw[hs] at hA⊢
 refine Calls.callWith_builtin (by show(false||(backTo cpos (starEach es X.env)).any (·.1))=false;rw[hplain]<;>rfl) (Calls.evalArgs_plain ?_)
 exact thn hA fun us s2 ⟨vs,H2,I2,r2,q2⟩=>hm pins s2 σ H2 x vs v us Q I2 r1 r2 q2
end
noncomputable def MtM(X:Cx)(id:String)(r:V->List V->Hp->VK->Prop):Prop:=
 ∀(pins:List (Addr×Obj)) (s:Shared) (σ:St) (H:Hp) (x:V) (xs:List V) (v:Value) (us:List Value) (Q:VK),Inv X pins σ H s->RelV x v->Q9 xs us->r x xs H Q->
  wpAny (model X.prog X.w) X.A (call (.builtin id) (v::us)) (EP X pins σ Q) X.xe s
theorem Q9.one: ∀{x:V} {us:List Value},Q9 [x] us->∃u,us=[u]/\RelV x u
 |_,_, .cons r .nil=>⟨_,rfl,r⟩
theorem Q9.rep{xs:List V}{us:List Value}(h:Q9 xs us): ∀k:Nat,Q9 (i7 k xs).flatten (i7 k us).flatten
 |0=> .nil
 |k+1=>by
  rw[A8,A8,C5,C5]
  exact Q9.append h (Q9.rep h k)
theorem z26(its:List Value): ∀(k:Nat) (acc:List Value),
 M7 (fun x1 x2=>x1++x2) acc.toArray (i7 k its.toArray)=(acc++(i7 k its).flatten).toArray
 |0,acc=>by simp
 |k+1,acc=>by
  have e:acc.toArray++its.toArray=(acc++its).toArray:=by simp
  have e2:(acc++its)++(i7 k its).flatten=acc++(i7 (k+1) its).flatten:=by
   rw[A8,C5,m9]
  rw[<-e2,<-z26 its k (acc++its),<-e,A8,L5]
section
variable{X:Cx}{pins:List (Addr×Obj)}{σ:St}{H:Hp}{s:Shared}{l b:Addr}{xs ys zs:List V}
theorem Inv.lset{its its':List Value}{n:Nat}{f:Array Value->Array Value}{t':Nat}(I:Inv X pins σ H s)(hH:H l=some (.lst xs))
 (e:s.heap.get? l=some {cls:= .type "list",data:= .seq its.toArray n}) (hf:f its.toArray=its'.toArray) (hv:Q9 ys its') (hz:ys.length<=sizeLine):
 Inv X pins σ (upd H l (.lst ys)) {s with heap:=s.heap.update l (Obj.mapSeq f),toks:=t'}:=by
 have q:=PySem.IsL.update e f
 rw[hf] at q
 refine I.write (x:=l) (e:=l) (by rw[hH];exact trivial) (.inl rfl) (fun b' u hb hu=>(Heap.get?_update_other s.heap (Obj.mapSeq f) (Ne.symm hb)).trans hu) ⟨_,q⟩ ?_
 exact⟨hz,its',_,hv,q⟩
theorem Inv.lnew{its:List Value}{t':Nat}(I:Inv X pins σ H s)(hv:Q9 ys its)(hz:ys.length<=sizeLine):
 Inv X pins σ (upd H s.heap.objs.size (.lst ys)) {s with heap:=s.heap.push {cls:= .type "list",data:= .seq its.toArray},toks:=t'}:=
 I.laid (fun _ _ q=>Heap.get?_push_of_some _ q) (c8 _) ⟨hz,its,0,hv,Heap.get?_push_size _ rfl⟩
theorem Inv.fresh(I:Inv X pins σ H s):H s.heap.objs.size=none:=I.hok.fresh (c8 _)
theorem Inv.lstM(I:Inv X pins σ H s)(hH:H l=some (.lst xs)):xs.length<=sizeLine/\∃(its:List Value) (n:Nat),Q9 xs its/\xs.length=its.length/\s.heap.get? l=some {cls:= .type "list",data:= .seq its.toArray n}:=by
 obtain⟨z,its,n,r,e⟩:=I.hok l _ hH
 exact⟨z,its,n,r,r.length,e⟩
theorem z5B{n:Nat}(h:n<=sizeLine):Builtin.List.listTooLong n=false:=by
 unfold Builtin.List.listTooLong
 exact decide_eq_false (by lia)
end
section
variable{X:Cx}
noncomputable def z7q:V->List V->Hp->VK->Prop:=fun x vs H Q=> ∃l xs y,x= .ref l/\vs=[y]/\H l=some (.lst xs)/\xs.length<sizeLine/\Q .non (upd H l (.lst (xs++[y])))
theorem z27:MtM X "list.append" z7q:=by
 intro pins s σ H x vs v us Q I rx rv h
 obtain⟨l,xs,y,rfl,rfl,hH,hz,q⟩:=h
 cases rx
 obtain⟨u,rfl,ru⟩:=rv.one
 obtain⟨z,its,n,r,hl,e⟩:=I.lstM hH
 refine call_meets F.slot_list_append ⟨_,e,rfl⟩ F.entry_list_append (F.args_list_append_2 _ _) (PySem.list_append l its.toArray n u (by rw[i8];lia)) ⟨e, ?_⟩
 refine⟨.non,_,I.lset (its':=its++[u]) hH e (by simp) (r.append (.cons ru .nil)) ?_,rfl,q⟩
 rw[m8,List.length_singleton]
 lia
noncomputable def zgH:R2:=fun x y H Q=> ∃l b xs zs,x= .ref l/\y= .ref b/\H l=some (.lst xs)/\H b=some (.lst zs)/\xs.length+zs.length<=sizeLine/\∀p,H p=none->Q (.ref p) (upd H p (.lst (xs++zs)))
theorem zdS:OpR X (binaryOp .Add) zgH:=by
 intro pins s σ H x y v u Q I rx ry h
 obtain⟨l,b,xs,zs,rfl,rfl,hH,hB,hz,q⟩:=h
 cases rx
 cases ry
 obtain⟨z,its,n,r,hl,e⟩:=I.lstM hH
 obtain⟨z2,its2,n2,r2,hl2,e2⟩:=I.lstM hB
 refine PySem.P.add_list e e2 ?_ (by rw[i8,i8];lia)
 have ea:its.toArray++its2.toArray=(its++its2).toArray:=by simp
 rw[ea]
 exact⟨.ref _,_,I.lnew (t':=s.toks) (r.append r2) (by rw[m8];lia),rfl,q _ I.fresh⟩
noncomputable def zgI:R2:=fun x y H Q=> ∃l k xs,x= .ref l/\y= .int k/\H l=some (.lst xs)/\-(2^63)<=k/\k<2^63/\xs.length*k.toNat<=sizeLine/\
 ∀p,H p=none->Q (.ref p) (upd H p (.lst (i7 k.toNat xs).flatten))
theorem z4R{α:Type}(xs:List α)(k:Nat):(i7 k xs).flatten.length=k*xs.length:=by
 induction k with
 |zero=>simp
 |succ k ih=>rw[A8,C5,m8,ih,Nat.succ_mul,Nat.add_comm]
theorem zdT:OpR X (binaryOp .Mult) zgI:=by
 intro pins s σ H x y v u Q I rx ry h
 obtain⟨l,k,xs,rfl,rfl,hH,h1,h2,hz,q⟩:=h
 cases rx
 obtain⟨t,rfl⟩:=ry
 obtain⟨z,its,n,r,hl,e⟩:=I.lstM hH
 have hlen:its.toArray.size*k.toNat<=sizeLine:=by rw[i8,<-hl];exact hz
 have hcap: ¬its.toArray.size*k.toNat>(2^63 - 1)/8:=by
  have:(sizeLine:Nat)<=(2^63 - 1)/8:=by decide
  lia
 have hfit: ¬(!Builtin.List.listFitsIndex k)=true:=by
  rw[fitsIndex_both h1 h2]
  exact l5
 have hlong: ¬Builtin.List.listTooLong (its.toArray.size*k.toNat)=true:=by
  rw[z5B hlen]
  exact l5
 have hnew:M7 (fun x1 x2=>x1++x2) #[] (i7 (if its.toArray.isEmpty=true then 0 else k.toNat) its.toArray)=(i7 k.toNat its).flatten.toArray:=by
  have f0: ∀m:Nat,M7 (fun x1 x2=>x1++x2) #[] (i7 m its.toArray)=(i7 m its).flatten.toArray:=fun m=>by
   have:=z26 its m []
   rw[m5] at this
   exact this
  rw[f0]
  cases its with
  |nil=>simp
  |cons a r'=>rw[if_neg (by simp)]
 refine wpAny_binaryOp_repeat_ref (T:= "list") (U:= "int") (by decide) ⟨_,e,rfl⟩ (fun s'=>typeIs_int s' k t) noFill_list_mul F.fills_int_mul F.slot_int_rmul repeat_list F.slot_int_index.lookup
  (call_meets F.slot_int_rmul (typeIs_int s k t) F.entry_int_rmul (F.args_int_rmul_2 _ _) (int___rmul___int_list k t l its.toArray n)
   ⟨e,rfl,⟨_,e,rfl⟩,call_meets F.slot_list_mul ⟨_,e,rfl⟩ F.entry_list_mul (F.args_list_mul_2 _ _) (AutoListH.list___mul___list_int_3 l its.toArray n k t hfit hcap hlong) ⟨e, ?_⟩⟩)
 rw[hnew]
 exact⟨.ref _,_,I.lnew (t':=s.toks) (r.rep k.toNat) (by rw[z4R,P9];exact hz),rfl,q _ I.fresh⟩
end
section
variable{prog:Program}{w:World}{A:Around}{E:Value->Shared->Prop}{s:Shared}
set_option maxRecDepth 100000 in
end
section
variable{κ:Type}[DecidableEq κ]
noncomputable def valV(kvs:List (κ×V))(k:κ):Option V:=(kvs.find? fun kv=>decide (kv.1=k)).map (·.2)
noncomputable def z4L(kvs:List (κ×V))(k:κ)(v:V):List (κ×V):=
 if(kvs.any fun kv=>decide (kv.1=k))=true then kvs.map (fun kv=>if kv.1=k then(kv.1,v) else kv) else kvs++[(k,v)]
noncomputable def z1T(kvs:List (κ×V))(k:κ):List (κ×V):=kvs.filter fun kv=>decide (kv.1≠k)
theorem z1d{p:κ×V}{r:List (κ×V)}{k:κ}(e:p.1=k):valV (p::r) k=some p.2:=by simp[valV,List.find?_cons,e]
theorem z0F{p:κ×V}{r:List (κ×V)}{k:κ}(e: ¬p.1=k):valV (p::r) k=valV r k:=by simp[valV,List.find?_cons,e]
theorem z5C(k:κ): ∀kvs:List (κ×V),(kvs.any fun kv=>decide (kv.1=k))=(valV kvs k).isSome
 |[]=>rfl
 |p::r=>by
  rw[N4]
  by_cases e:p.1=k
  ·erw[z1d e,decide_eq_true e,T3,Option.isSome_some]
  ·rw[z0F e,decide_eq_false e,S9];exact z5C k r
theorem z28(kvs:List (κ×V))(k:κ)(v:V):(z4L kvs k v).length<=kvs.length+1:=by
 unfold z4L
 split
 ·rw[n9];lia
 ·rw[m8,i9,t9];lia
theorem RelO.isSome_eq{o:Option V}{u:Option Value}(r:RelO o u):o.isSome=u.isSome:=by
 cases o with
 |none=>cases u with
  |none=>rfl
  |some _=>exact(show False from r).elim
 |some _=>cases u with
  |none=>exact(show False from r).elim
  |some _=>rfl
theorem KV.val{kvs:List (κ×V)}{vs:List (κ×Value)}(r:KV kvs vs)(k:κ):RelO (valV kvs k) (valueAt vs k):=by
 unfold KV at r
 induction r with
 |nil=>exact True.intro
 | @cons p q ps qs h t ih=>
  obtain⟨h1,h2⟩:=h
  by_cases e:p.1=k
  ·have e':q.1=k:=h1.symm.trans e
   have b:valueAt (q::qs) k=some q.2:=by simp[valueAt,List.find?_cons,e']
   rw[z1d e,b];exact h2
  ·have e': ¬q.1=k:=fun z=>e (h1.trans z)
   have b:valueAt (q::qs) k=valueAt qs k:=by simp[valueAt,List.find?_cons,e']
   rw[z0F e,b];exact ih
theorem KV.any{kvs:List (κ×V)}{vs:List (κ×Value)}(r:KV kvs vs)(k:κ):(kvs.any fun kv=>decide (kv.1=k))=vs.any fun kv=>decide (kv.1=k):=by
 unfold KV at r
 induction r with
 |nil=>rfl
 |cons h t ih=>rw[N4,N4,ih,h.1]
theorem KV.repl{kvs:List (κ×V)}{vs:List (κ×Value)}(r:KV kvs vs)(k:κ){y:V}{u:Value}(ry:RelV y u):
 KV (kvs.map fun kv=>if kv.1=k then(kv.1,y) else kv) (vs.map fun kv=>if kv.1=k then(kv.1,u) else kv):=by
 unfold KV at r⊢
 induction r with
 |nil=>exact .nil
 | @cons p q ps qs h t ih=>
  rw[b7,b7]
  refine .cons ?_ ih
  obtain⟨h1,h2⟩:=h
  by_cases e:p.1=k
  ·rw[if_pos e,if_pos (h1.symm.trans e)];exact⟨h1,ry⟩
  ·rw[if_neg e,if_neg (fun z=>e (h1.trans z))];exact⟨h1,h2⟩
theorem KV.put{kvs:List (κ×V)}{vs:List (κ×Value)}(r:KV kvs vs)(k:κ){y:V}{u:Value}(ry:RelV y u):KV (z4L kvs k y) (stored vs k u):=by
 unfold z4L stored
 rw[r.any k]
 by_cases e:(vs.any fun kv=>decide (kv.1=k))=true
 ·rw[if_pos e,if_pos e];exact r.repl k ry
 ·rw[if_neg e,if_neg e];exact Paired.snoc r ⟨rfl,ry⟩
theorem KV.length{kvs:List (κ×V)}{vs:List (κ×Value)}(r:KV kvs vs):kvs.length=vs.length:=Paired.length r
theorem z9A(kvs:List (κ×V))(k:κ):(z1T kvs k).length<=kvs.length:=List.length_filter_le _ _
end
theorem z6q{P:Program}{w:World}{k:Key}{u:Value}(r:RelV (kV k) u):(Y9 P w).is k u=true:=by
 cases k with
 |inl i=>obtain⟨t,e⟩:=(show ∃t,u=Value.int i t from r);subst e;exact z4M P w i t
 |inr x=>obtain⟨t,e⟩:=(show ∃t,u=Value.str x t from r);subst e;exact z4N P w x t
theorem z46{P:Program}{w:World}: ∀{ks:List Key} {us:List Value},Q9 (ks.map kV) us->ItemsAre (Y9 P w) ks us
 |[],_,r=>by rw[l3] at r;cases r;exact .nil
 |k::ks,_,r=>by
  rw[b7] at r
  cases r with
  |cons h t=>exact .cons (z6q h) (z46 t)
noncomputable abbrev KT(H:Hp):List (NK×V)->List (NK×Addr×Value)->Prop:=Paired fun p q=>p.1=q.1/\TK H p.1 q.2.1/\RelV p.2 q.2.2
theorem KT.val{H:Hp}{kvs:List (NK×V)}{xs:List (NK×Addr×Value)}(r:KT H kvs xs)(k:NK):RelO (valV kvs k) ((atKey xs k).map (·.2)):=by
 induction r with
 |nil=>exact True.intro
 | @cons p q ps qs h t ih=>
  obtain⟨h1,_,h2⟩:=h
  by_cases e:p.1=k
  ·have e':q.1=k:=h1.symm.trans e
   have b:atKey (q::qs) k=some q.2:=by simp[atKey,List.find?_cons,e']
   rw[z1d e,b];exact h2
  ·have e': ¬q.1=k:=fun z=>e (h1.trans z)
   have b:atKey (q::qs) k=atKey qs k:=by simp[atKey,List.find?_cons,e']
   rw[z0F e,b];exact ih
theorem KT.repl{H:Hp}{kvs:List (NK×V)}{xs:List (NK×Addr×Value)}(r:KT H kvs xs)(k:NK){y:V}{u:Value}(ry:RelV y u):
 KT H (kvs.map fun kv=>if kv.1=k then(kv.1,y) else kv) (xs.map (putAt k u)):=by
 induction r with
 |nil=>exact .nil
 | @cons p q ps qs h t ih=>
  rw[b7,b7]
  refine .cons ?_ ih
  obtain⟨h1,h2,h3⟩:=h
  unfold putAt
  by_cases e:p.1=k
  ·rw[if_pos e,if_pos (h1.symm.trans e)];exact⟨h1,h2,ry⟩
  ·rw[if_neg e,if_neg (fun z=>e (h1.trans z))];exact⟨h1,h2,h3⟩
theorem KT.put{H:Hp}{kvs:List (NK×V)}{xs:List (NK×Addr×Value)}(r:KT H kvs xs)(k:NK){b:Addr}{y:V}{u:Value}(hb:TK H k b)(ry:RelV y u):
 KT H (z4L kvs k y) (storedH xs k b u):=by
 have e:(kvs.any fun kv=>decide (kv.1=k))=(atKey xs k).isSome:=by
  rw[z5C,(r.val k).isSome_eq,E4]
 unfold z4L storedH
 rw[e]
 by_cases q:(atKey xs k).isSome=true
 ·rw[if_pos q,if_pos q];exact r.repl k ry
 ·rw[if_neg q,if_neg q];exact Paired.snoc r ⟨rfl,hb,ry⟩
theorem KT.keeps{H H':Hp}{kvs:List (NK×V)}{xs:List (NK×Addr×Value)}(r:KT H kvs xs)(ht: ∀b ys,H b=some (.tup ys)->H' b=some (.tup ys)):KT H' kvs xs:=
 Paired.mapP r fun _ _ z=>⟨z.1,z.2.1.stay ht,z.2.2⟩
section
variable{P:Program}{w:World}{H:Hp}{h:Heap}{a:Addr}
theorem zdU{u:HO}(ok:HOk P w H h)(e:Rd H a u):v4 P w H h a u:=e.ok ok
theorem z6r{kvs:List (Key×V)}(ok:HOk P w H h)(e:Rd H a (.dK kvs)):kvs.length<=sizeLine/\(a==sysModules)=false/\∃vs,KV kvs vs/\h.DictOf (Y9 P w) a vs:=
 show v4 P w H h a (.dK kvs) from zdU ok e
theorem zgJ{kvs:List (Key×V)}(ok:HOk P w H h)(e:H a=some (.dK kvs)):kvs.length<=sizeLine/\(a==sysModules)=false/\∃vs,KV kvs vs/\h.DictOf (Y9 P w) a vs:=z6r ok (.inl e)
theorem zbE{ks:List Key}(ok:HOk P w H h)(e:H a=some (.tup (ks.map kV))):IsTupleKey (Y9 P w) h ks a:=by
 obtain⟨_,its,r,o,h1,h2,n,h3⟩:=(show v4 P w H h a (.tup (ks.map kV)) from ok a _ e)
 exact⟨o,its.toArray,n,h1,h2,h3,by simpa using z46 r⟩
theorem z4S(ok:HOk P w H h): ∀{k:NK} {xs:List V} {us:List Value},Paired (TKi H) k xs->Q9 xs us->Paired (ItN P w h) k us
 |_,_,_, .nil, .nil=> .nil
 | .inl k::_,_,_, .cons a b, .cons c d=>by
  have e:=(show _=kV k from a)
  subst e
  exact .cons (z6q c) (z4S ok b d)
 | .inr ks::_,_,_, .cons a b, .cons c d=>by
  obtain⟨x,rfl,hx⟩:=a
  cases c
  exact .cons ⟨x,rfl,zbE ok hx⟩ (z4S ok b d)
theorem z37{k:NK}(ok:HOk P w H h)(e:TK H k a):(K8 P w).is h k a:=by
 obtain⟨xs,e,p⟩:=e
 obtain⟨_,its,r,o,h1,h2,n,h3⟩:=(show v4 P w H h a (.tup xs) from ok a _ e)
 exact⟨o,its.toArray,n,h1,h2,h3,by simpa using z4S ok p r⟩
theorem z6s{kvs:List (NK×V)}(ok:HOk P w H h)(e:Rd H a (.dT kvs)):kvs.length<=sizeLine/\(a==sysModules)=false/\
 ∃xs,KT H kvs xs/\h.DictOfH (K8 P w) a xs:=by
 obtain⟨z,y,xs,r,o,es,ep,h1,h2,h3,h4,h5⟩:=(show v4 P w H h a (.dT kvs) from zdU ok e)
 refine⟨z,y,xs,r,o,es,ep,h1,h2,h3,h4,fun x hx=> ?_,h5⟩
 have all: ∀{l:List (NK×V)} {m:List (NK×Addr×Value)},KT H l m->∀x∈m,(K8 P w).is h x.1 x.2.1:=by
  intro l m q
  induction q with
  |nil=>intro x hx;exact nomatch hx
  | @cons p q ps qs hq t ih=>
   intro x hx
   rcases i5.mp hx with e|hx
   ·subst e
    exact z37 ok (by rw[<-hq.1];exact hq.2.1)
   ·exact ih x hx
 exact all r x hx
theorem zdV{kvs:List (NK×V)}(ok:HOk P w H h)(e:H a=some (.dT kvs)):kvs.length<=sizeLine/\(a==sysModules)=false/\
 ∃xs,KT H kvs xs/\h.DictOfH (K8 P w) a xs:=z6s ok (.inl e)
end
noncomputable def z9B(H:Hp)(a:Addr)(y:V)(r:Option V):Prop:=
 (∃kvs k,Rd H a (.dK kvs)/\y=kV k/\r=valV kvs k)\/∃kvs k b,Rd H a (.dT kvs)/\y= .ref b/\TK H k b/\r=valV kvs k
noncomputable def zd5(H:Hp)(a:Addr)(y v:V)(H':Hp):Prop:=
 (∃kvs k,H a=some (.dK kvs)/\y=kV k/\kvs.length<sizeLine/\H'=upd H a (.dK (z4L kvs k v)))\/
 ∃kvs k b,H a=some (.dT kvs)/\y= .ref b/\TK H k b/\kvs.length<sizeLine/\H'=upd H a (.dT (z4L kvs k v))
theorem zd5.t{H:Hp}{a b:Addr}{kvs:List (NK×V)}{k:NK}{v:V}(e:H a=some (.dT kvs))(eb:TK H k b)(hl:kvs.length<sizeLine):
 zd5 H a (.ref b) v (upd H a (.dT (z4L kvs k v))):= .inr ⟨kvs,k,b,e,rfl,eb,hl,rfl⟩
section
variable{X:Cx}{pins:List (Addr×Obj)}{σ:St}{H:Hp}{s:Shared}{a:Addr}{y v:V}{u r:Value}{o:Option V}{A:Around}{E:Value->Shared->Prop}
theorem Inv.big(I:Inv X pins σ H s):sysModules<s.heap.objs.size:=by
 have h:mainGlobals<s.heap.objs.size:=(I.mod.glob.keeps I.bk).lt
 exact R0 (by decide) h
theorem z7r{Q:Value->Shared->Prop}(hu:A.units+2<cLine)(I:Inv X pins σ H s)(g:z9B H a y (some v))(ry:RelV y u)(h: ∀w' s',Inv X pins σ H s'->RelV v w'->Q w' s'):
 wpAny (model X.prog X.w) A (getItem (.ref a) u) Q E s:=by
 rcases g with⟨kvs,k,e,ey,l⟩|⟨kvs,k,b,e,ey,eb,l⟩
 ·subst ey
  obtain⟨z,hd,vs,rel,dd⟩:=z6r I.hok e
  obtain⟨w',hw,rw'⟩:=RelO.some_of (v:=v) (o:=valueAt vs k) (by rw[l];exact rel.val k)
  exact wpAny_getItem_of (z6q ry) dd.mapOf hw (h w' _ (I.tok _) rw')
 ·subst ey
  cases(show u=Value.ref b from ry)
  obtain⟨z,hd,xs,rel,dd⟩:=z6s I.hok e
  obtain⟨w',hw,rw'⟩:=RelO.some_of (v:=v) (o:=(atKey xs k).map (·.2)) (by rw[l];exact rel.val k)
  obtain⟨p,hp,hp2⟩:=Option.map_eq_some_iff.mp hw
  refine wpAny_getItem_heap (z0p hu) (z37 I.hok eb) dd hp ?_
  rw[hp2]
  exact h w' _ (I.tok _) rw'
theorem ziK{Q:Value->Shared->Prop}(hu:A.units+2<cLine)(I:Inv X pins σ H s)(g:z9B H a y o)(ry:RelV y u)(h: ∀s',Inv X pins σ H s'->Q (.bool o.isSome) s'):
 wpAny (model X.prog X.w) A (compareOp .In u (.ref a)) Q E s:=by
 rcases g with⟨kvs,k,e,ey,l⟩|⟨kvs,k,b,e,ey,eb,l⟩
 ·subst ey
  obtain⟨z,hd,vs,rel,dd⟩:=z6r I.hok e
  refine wpAny_in_of (z6q ry) hd dd.mapOf ?_
  rw[<-(rel.val k).isSome_eq,<-l]
  exact h _ (I.tok _)
 ·subst ey
  cases(show u=Value.ref b from ry)
  obtain⟨z,hd,xs,rel,dd⟩:=z6s I.hok e
  refine wpAny_in_heap (z0p hu) (z37 I.hok eb) hd dd ?_
  have q:=(rel.val k).isSome_eq
  rw[E4] at q
  rw[<-q,<-l]
  exact h _ (I.tok _)
theorem zbF{Q:Value->Shared->Prop}(hu:A.units+2<cLine)(I:Inv X pins σ H s)(g:z9B H a y o)(ry:RelV y u)(h: ∀s',Inv X pins σ H s'->Q (.bool (!o.isSome)) s'):
 wpAny (model X.prog X.w) A (compareOp .NotIn u (.ref a)) Q E s:=by
 rcases g with⟨kvs,k,e,ey,l⟩|⟨kvs,k,b,e,ey,eb,l⟩
 ·subst ey
  obtain⟨z,hd,vs,rel,dd⟩:=z6r I.hok e
  refine wpAny_notIn_of (z6q ry) hd dd.mapOf ?_
  rw[<-(rel.val k).isSome_eq,<-l]
  exact h _ (I.tok _)
 ·subst ey
  cases(show u=Value.ref b from ry)
  obtain⟨z,hd,xs,rel,dd⟩:=z6s I.hok e
  refine wpAny_notIn_heap (z0p hu) (z37 I.hok eb) hd dd ?_
  have q:=(rel.val k).isSome_eq
  rw[E4] at q
  rw[<-q,<-l]
  exact h _ (I.tok _)
theorem z4T{h':Heap}{t':Nat}{ob:HO}(I:Inv X pins σ H s)(mu:Mut (H a))(hs:Heap.SameBut a s.heap h')(he: ∃q,h'.get? a=some q)(new:v4 X.prog X.w (upd H a ob) h' a ob):
 Inv X pins σ (upd H a ob) {s with heap:=h',toks:=t'}:=
 I.write (x:=a) (e:=a) mu (.inl rfl) (fun b q hb z=>(hs.2 b hb).trans z) he new
theorem zdW{P:Program}{w:World}{H':Hp}{h':Heap}{kvs:List (Key×V)}{vs:List (Key×Value)}(z:kvs.length<=sizeLine)(hd:(a==sysModules)=false)(rel:KV kvs vs)(dd:h'.DictOf (Y9 P w) a vs):
 v4 P w H' h' a (.dK kvs):=⟨z,hd,vs,rel,dd⟩
theorem z7s{H':Hp}{Q:Unit->Shared->Prop}(hu:A.units+2<cLine)(I:Inv X pins σ H s)(g:zd5 H a y v H')(ry:RelV y u)(rv:RelV v r)(h: ∀s',Inv X pins σ H' s'->Q () s'):
 wpAny (model X.prog X.w) A (setItem (.ref a) u r) Q E s:=by
 rcases g with⟨kvs,k,e,ey,l,eH⟩|⟨kvs,k,b,e,ey,eb,l,eH⟩
 ·subst ey eH
  obtain⟨z,hd,vs,rel,dd⟩:=zgJ I.hok e
  have hz:vs.length<=sizeLine:=by rw[<-rel.length];exact z
  have hl:(z4L kvs k v).length<=sizeLine:=by have:=z28 kvs k v;lia
  refine wpAny_setItem_pairs (hsz:=hz) (z6q ry) dd fun h' dd' hs=>h _ ?_
  have he: ∃q,h'.get? a=some q:=let⟨q,_,_,hq,_⟩:=dd';⟨q,hq⟩
  exact z4T I (by rw[e];exact True.intro) hs he (zdW hl hd (rel.put k rv) dd')
 ·subst ey eH
  cases(show u=Value.ref b from ry)
  obtain⟨z,hd,xs,rel,dd⟩:=zdV I.hok e
  have hz:xs.length<=sizeLine:=by rw[<-Paired.length rel];exact z
  have hl:(z4L kvs k v).length<=sizeLine:=by have:=z28 kvs k v;lia
  refine wpAny_setItem_heap (hsz:=hz) (z0p hu) (z37 I.hok eb) dd fun h' dd' hs=>h _ ?_
  obtain⟨q,es,ep,hq,h2,h3,h4,_,h5⟩:=dd'
  refine z4T I (by rw[e];exact True.intro) hs ⟨q,hq⟩ ⟨hl,hd,_,(rel.put k eb rv).keeps fun c ys ec=> ?_,q,es,ep,hq,h2,h3,h4,h5⟩
  rw[y6 (z0L ec e (fun z=>nomatch z))]
  exact ec
end
noncomputable def zii(i:Expr):Prop:= ∀ov iv,subscripted i false ov iv=operate [ov,iv] (getItem ov iv)
theorem zbG{prog:Program}{w:World}{A:Around}{E:Value->Shared->Prop}{s:Shared}{env:Env}{value slice:Expr}{pos:Pos}{T id:String}{Q:Value->Shared->Prop}
 (hl:typeLookup (.type T) "__getitem__" =pure (some (.builtin id))) (hs:zii slice)
 (h:wpAny (model prog w) A (eval value env) (fun o s₁=>wpAny (model prog w) A (eval slice env) (fun i s₂=>s₂.TypeIs o T/\wpAny (model prog w) A (getItem o i) Q E s₂) E s₁) E s):
 wpAny (model prog w) A (eval (.Subscript value slice pos) env) Q E s:=by
 refine Subscript_ (wpAny_mono h (fun o s₁ h₁=>wpAny_mono h₁ (fun i s₂ h₂=> ?_) fun _ _ x=>x) fun _ _ x=>x)
 obtain⟨hT,h₂⟩:=h₂
 unfold subscriptTail
 refine wpAny_bind ?_
 rw[getitemInPython_of_ne hT.not_modules]
 refine wpAny_bind (wpAny_specialOf hT hl ?_)
 have fin:wpAny (model prog w) A (subscripted slice false o i) (fun r s₃=>wpAny (model prog w) A (letTemporaryGo value o r>>=fun _=>pure r) Q E s₃) E s₂:=by
  rw[hs o i]
  exact wpAny_operating (wpAny_mono h₂ (fun r s₃ h₃=>wpAny_bind (wpAny_letTemporaryGo (wpAny_pure h₃))) fun _ _ x=>x)
 first
  |exact wpAny_pure (wpAny_bind fin)
  |exact wpAny_bind (wpAny_pure (wpAny_bind fin))
  |exact wpAny_bind fin
theorem z4U{X:Cx}{pins:List (Addr×Obj)}{σ:St}{H:Hp}{s:Shared}{a:Addr}{y:V}{o:Option V}(I:Inv X pins σ H s)(g:z9B H a y o):s.TypeIs (.ref a) "dict" :=by
 rcases g with⟨kvs,k,e,_,_⟩|⟨kvs,k,b,e,_,_,_⟩
 ·obtain⟨_,_,vs,_,dd⟩:=z6r I.hok e
  exact dd.typeIs
 ·obtain⟨_,_,xs,_,dd⟩:=z6s I.hok e
  exact dd.typeIs
noncomputable def zdX(td ty:TE):TE:=fun σ H Q=>td σ H fun x H1=>ty σ H1 fun y H2=> ∃a v,x= .ref a/\z9B H2 a y (some v)/\Q v H2
noncomputable def zgK(td ty tv:TE):TS:=fun D σ H=>tv σ H fun v H1=>td σ H1 fun x H2=>ty σ H2 fun y H3=> ∃a H4,x= .ref a/\zd5 H3 a y v H4/\D.nx σ H4
section
variable{X:Cx}{o i e value:Expr}{pos pos' tpos:Pos}{td ty tv:TE}
theorem zbH(hu:X.A.units+2<cLine)(ho:PE X o td)(hi:PE X i ty)(hs:zii i):PE X (.Subscript o i pos) (zdX td ty):=by
 intro pins s σ H Q I h
 refine zbG PySem.F.slot_dict_getitem.lookup hs (thn (ho pins s σ H _ I h) fun u s1 ⟨x,H1,I1,rx,q1⟩=>thn (hi pins s1 σ H1 _ I1 q1) fun iv s2 ⟨y,H2,I2,ry,a,v,ex,g,q2⟩=> ?_)
 subst ex
 obtain rfl:u=Value.ref a:=rx
 exact⟨z4U I2 g,z7r hu I2 g ry fun w' s3 I3 rw'=>⟨v,H2,I3,rw',q2⟩⟩
theorem zbI(hu:X.A.units+2<cLine)(ho:PE X o td)(hi:PE X i ty)(hv:PE X value tv)(hs:swapsWith value (some (.Subscript o i pos')) pos.line X.env=pure false):
 PS X (.Assign [.Subscript o i pos'] value pos) (zgK td ty tv):=by
 intro pins s σ H D I h
 refine wpAny_Assign_Subscript (thn (hv pins s σ H _ I h) fun r s1 ⟨v,H1,I1,rv,q1⟩=>thn (ho pins s1 σ H1 _ I1 q1) fun u s2 ⟨x,H2,I2,rx,q2⟩=>thn (hi pins s2 σ H2 _ I2 q2) fun iv s3 ⟨y,H3,I3,ry,a,H4,ex,g,q3⟩=> ?_) hs
 subst ex
 obtain rfl:u=Value.ref a:=rx
 exact z7s hu I3 g ry rv fun s4 I4=>⟨σ,H4,I4,q3⟩
end
theorem z9C{P:Program}{w:World}{H:Hp}(h:Heap)(hb:sysModules<h.objs.size):v4 P w H (h.push {cls:= .type "dict",data:= .dict #[]}) h.objs.size (.dT []):=
 ⟨C4 _,beq_eq_false_iff_ne.mpr (Ne.symm (l9 hb)),[], .nil,_, #[],0,Heap.get?_push_size _ rfl,⟨rfl,rfl,rfl⟩,rfl,rfl,P0⟩
noncomputable def zdY:TE:=fun _ H Q=> ∀p,H p=none->Q (.ref p) (upd H p (.dT []))
section
variable{X:Cx}{pos:Pos}
theorem z9D:PE X (.Dict [] [] pos) zdY:=fun pins s σ H Q I h=>
 wpAny_Dict_empty ⟨.ref s.heap.objs.size,_,I.laid (a:=s.heap.objs.size) (o:= .dT []) (t':=s.toks) (fun _ _ q=>Heap.get?_push_of_some _ q) (c8 _) (z9C s.heap I.big),rfl,h _ (I.hok.fresh (c8 _))⟩
end
structure M1(X:Cx)(o:Expr)(m:Str)(apos:Pos)(e:Expr)(cpos:Pos):Prop where
 base:attributeBase o m X.env (eval o X.env)=eval o X.env
 few:((backTo cpos (starEach [e] X.env)).all (fun x=> !x.1)&&(backToKw cpos (keywordEach [] X.env)).all (fun x=>x.1.isSome)
  &&decide (([e]:List Expr).length+([]:List Keyword).length+(if([]:List Keyword).isEmpty then 0 else 1)<30))=true
 line:(apos.endLine==cpos.line)=true
 trees:backTo cpos (starEach [e] X.env)=[(false,eval e X.env)]
structure M2(X:Cx)(o:Expr)(m:Str)(apos:Pos)(e f:Expr)(cpos:Pos):Prop where
 base:attributeBase o m X.env (eval o X.env)=eval o X.env
 few:((backTo cpos (starEach [e,f] X.env)).all (fun x=> !x.1)&&(backToKw cpos (keywordEach [] X.env)).all (fun x=>x.1.isSome)
  &&decide (([e,f]:List Expr).length+([]:List Keyword).length+(if([]:List Keyword).isEmpty then 0 else 1)<30))=true
 line:(apos.endLine==cpos.line)=true
 trees:backTo cpos (starEach [e,f] X.env)=[(false,eval e X.env),(false,eval f X.env)]
noncomputable def IsD(H:Hp)(a:Addr):Prop:=(∃kvs,Rd H a (.dK kvs))\/∃kvs,Rd H a (.dT kvs)
theorem zau{X:Cx}{pins:List (Addr×Obj)}{σ:St}{H:Hp}{s:Shared}{a:Addr}(I:Inv X pins σ H s)(d:IsD H a):
 s.TypeIs (.ref a) "dict" /\(∀b,Value.ref a= .ref b->∃ob,s.heap.get? b=some ob/\ob.dict=none)/\(a==sysModules)=false:=by
 rcases d with⟨kvs,e⟩|⟨kvs,e⟩
 ·obtain⟨_,hd,vs,_,dd⟩:=z6r I.hok e
  refine⟨dd.typeIs,fun b q=> ?_,hd⟩
  cases q
  obtain⟨ob,_,_,h1,h2,_⟩:=dd
  exact⟨ob,h1,h2.2.1⟩
 ·obtain⟨_,hd,xs,_,dd⟩:=z6s I.hok e
  refine⟨dd.typeIs,fun b q=> ?_,hd⟩
  cases q
  obtain⟨ob,_,_,h1,h2,_⟩:=dd
  exact⟨ob,h1,h2.2.1⟩
end L2
namespace Att
open PySem PySem.W PySem.Calls PyProof.Rows
theorem z29{P:Params}{h:Heap}: ∀(ns:List Int) (vs:List Value),WellAll P h vs (ns.map WData.int)->IntsAre vs ns:=by
 intro ns
 induction ns with
 |nil=>
  intro vs w
  rw[l3] at w
  cases w
  exact .nil
 |cons n ns ih=>
  intro vs w
  rw[b7] at w
  cases w with
  |cons a b=>
   cases a
   exact .cons _ _ (ih _ b)
theorem z7t{l:OpenLaw}{n:Nat}(hn:l.most=some n){P:Params}{h:Heap}{args:List WData}{vals:List Value}
 (hpre:l.row.toRowW.claim.pre args=true) (hwl:WellAll P h vals args):
 ∃a vs ns,vals=[Value.ref a]/\args=[WData.list (ns.map WData.int)]/\h.get? a=some {cls:= .type "list",data:= .seq vs.toArray}/\IntsAre vs ns/\ns.length<=n:=by
 have hsh:WShape.hasAll [] args [.list .int]=true:=(pre_splitW hpre).1
 have hc:l.pre.holds [] {args:=args}=true:=(pre_splitW hpre).2
 obtain⟨d,r,rfl,h1,h2⟩:=hasAllW_cons hsh
 obtain rfl:=hasAllW_nil h2
 obtain⟨xs,rfl,h3⟩:=hasW_list h1
 obtain⟨ns,rfl⟩:=items_int h3
 have hlen:ns.length<=n:=by
  unfold OpenLaw.pre at hc
  have h4:(WTm.not (.lt (.lit (.int (n:Int))) (.len (.arg 0)))).holds [] {args:=[.list (ns.map .int)]}=true:=by
   have h4:=(holds_andW hc).1
   rw[hn] at h4
   exact h4
  have h5:=condW_of h4 (w_not (w_lt w_lit (w_len_list (w_arg rfl))))
  rw[n9] at h5
  refine R6 fun q=> ?_
  have q':(n:Int)<((ns.length:Nat):Int):=by lia
  first
   |(rw[decide_eq_true q'] at h5;exact absurd h5 (by decide))
   |(simp at h5;lia)
 cases hwl with
 |cons w1 w2=>
  cases w2
  cases w1 with
  |list ho hall=>exact⟨_,_,ns,rfl,rfl,ho,z29 ns _ hall,hlen⟩
theorem z7u(l:OpenLaw)(args:List WData):l.row.toRowW.claim.post args (.bool true) args=true:=
 postW_of (r:=l.row.toRowW) (X:=(true==true))
  (show WShape.has [] (.bool true) .bool=true by first|rfl|decide|simp[WShape.has,WShape.arms,WShape.armsAll])
  (show(WTm.eq .res (.lit (.bool true))).value [] {args:=args,res:=some (.bool true),after:=args}=some (.bool (true==true)) from w_eq_bool (w_res rfl) w_lit) rfl
theorem attach_call{l:OpenLaw}{n:Nat}{q:Program}{loose:List Str}{XP:(Str->Option Value)->Heap->Prop}{YP:World->Heap->Prop}{d:DefRec}
 (hn:l.most=some n) (hdf:d.params.defaults=[])
 (call: ∀(w:World) (s₀ s₁:Shared) (mg mb:Str->Option Value) (fa:Addr) (o:Obj) (pm cd doc:Value) (a:Addr) (vs:List Value) (ns:List Int),
  Ground q loose [] XP w s₀ mg mb s₁.heap->YP w s₁.heap->
  s₁.heap.get? fa=some o->o.data= .func (docDef d.name d.params d.body d.scope pm cd doc)->s₁.heap.CodeRec cd d.name->mg d.name=some (.ref fa)->
  s₁.heap.get? a=some {cls:= .type "list",data:= .seq vs.toArray}->IntsAre vs ns->ns.length<=n->s₁.gens= #[]->
  codeAny (model l.prog w) callerA (.call (.ref fa) ⟨[.ref a],[]⟩) (fun r s'=>r= .ok (.ret (.bool true))/\OldK s₁.heap s'.heap/\s'.os=s₁.os/\AllBare s'.gens) s₁):
 WalkO q loose XP YP l.row.toRowW d [] (fun f vs=>PySem.call f vs):=by
 intro w s₀ s₁ mg mb G Y fa o pm cd doc dV kV ho hd hcd hD hmg hg args vals as hpre hlay hrd hwl hlo
 obtain rfl:dV= .none:=Dflts.none hD hdf
 obtain rfl:kV= .none:=Dflts.noKw hD
 obtain⟨a,vs,ns,rfl,rfl,hobj,hints,hlen⟩:=z7t hn hpre hwl
 refine enter_call (codeAny_mono (call w s₀ s₁ mg mb fa o pm cd doc a vs ns G Y ho (fd_plain hd) hcd hmg hobj hints hlen hg) fun r s' hq=> ?_)
 obtain⟨rfl,h2,h3,h4⟩:=hq
 exact⟨.inl ⟨.bool true, .bool true,[],rfl,fun _=>rfl, .bool true,z7u l _,fun _=>⟨List.Pairwise.nil,fun _ hm=>(nomatch hm)⟩⟩,h2,h3,h4⟩
end Att
namespace L2
open PySem PySem.Spec PyProof.Rows
theorem z47: ∀{vs:List Value} {ns:List Int},IntsAre vs ns->Q9 (ns.map V.int) vs
 |_,_, .nil=> .nil
 |_,_, .cons n t h=> .cons ⟨t,rfl⟩ (z47 h)
noncomputable def zgc(H:Hp):Prop:= ∀b,H b=none\/∃o xs,H b=some (.frz o (.lst xs))
theorem z9E{P:Program}{w:World}{K:W.Frag}{mg mb:Str->Option Value}{CX:CXT}{k:Nat}{fa a:Addr}{fd:FuncData}{x:Str}{sp:Sp}{s₁:Shared}{vs:List Value}{ns:List Int}
 (KX:K.In s₁.heap) (hns:s₁.heap.Ns mainGlobals mg) (hb:s₁.heap.Ns builtinsNs mb) (hbb: ∀x:Str,x≠ "__name__" ->mb x=bootBuiltins x) (hlim:s₁.heap.NoLimit) (hg:s₁.gens= #[])
 (ha:s₁.heap.get? a=some {cls:= .type "list",data:= .seq vs.toArray}) (hi:IntsAre vs ns) (hl:ns.length<=sizeLine) (hr:z0n k callerA)
 (F: ∀base:Heap,K.In base->base.Ns mainGlobals mg->U3 P w K mg base CX k fa fd [x] sp) (hbind: ∀(s:Shared) (u:Value),BindsTo s fd ⟨[u],[]⟩ [(x,u)])
 (hsp: ∀H:Hp,zgc H->SqL K H a (ns.map V.int)->sp [.ref a] H (fun v _=>v= .bl true) fun _ _ _=>False)
 (hCX: ∀H e s',CX [] H s₁ (fun _ _ _=>False) e s'->False):
 codeAny (model P w) callerA (.call (.ref fa) ⟨[.ref a],[]⟩) (fun r s'=>r= .ok (.ret (.bool true))/\OldK s₁.heap s'.heap/\s'.os=s₁.os/\AllBare s'.gens) s₁:=by
 have rv:=z47 hi
 have lenV:=hi.length
 have core: ∀H:Hp,zgc H->SqL K H a (ns.map V.int)->HOk P w H s₁.heap->(∀b,H b≠none->b=a)->(H a≠none->K.lookup a=none)->
  codeAny (model P w) callerA (.call (.ref fa) ⟨[.ref a],[]⟩) (fun r s'=>r= .ok (.ret (.bool true))/\OldK s₁.heap s'.heap/\s'.os=s₁.os/\AllBare s'.gens) s₁:=by
  intro H hO hS hok hA hK
  have base_of: ∀{b:Addr} {o:Obj},s₁.heap.get? b=some o->H b=none->(z9f s₁.heap H).get? b=some o:=fun e n=>z9g e n
  have noA: ∀{b:Addr} {o:Obj} {es:Array DictEntry} {ep:Nat},s₁.heap.get? b=some o->o.data= .dict es ep->H b=none:=fun{b o es ep} e d=>by
   cases q:H b with
   |none=>rfl
   |some u=>
    have e':b=a:=hA b (by rw[q];simp)
    subst e'
    rw[ha] at e;cases e
    have d':Data.seq vs.toArray _=Data.dict es ep:=d
    cases d'
  have nsK: ∀{b:Addr} {m:Str->Option Value},s₁.heap.Ns b m->(z9f s₁.heap H).Ns b m:=fun{b m} ⟨o,es,ep,e,d,r⟩=>⟨o,es,ep,base_of e (noA e d),d,r⟩
  have hKb:K.In (z9f s₁.heap H):=fun b o e=>base_of (KX b o e) (by
   cases q:H b with
   |none=>rfl
   |some u=>
    have e':b=a:=hA b (by rw[q];simp)
    subst e'
    rw[hK (by rw[q];simp)] at e;cases e)
  have hM:Mod K mg (z9f s₁.heap H):=⟨hKb,nsK hns,⟨mb,nsK hb,hbb⟩,let⟨mc,h1,h2⟩:=hlim;⟨mc,nsK h1,h2⟩⟩
  have e0:zat P w K mg (z9f s₁.heap H) callerA [] s₁ H:=⟨rfl,hM,fun b o e=>zbd e,N9 (z74 _ _),trivial,fun b hb=>absurd (show b∈([]:List Addr) from hb) (by simp),hok, .of_eq hg⟩
  refine codeAny_mono ((F _ hKb (nsK hns)).run callerA [] s₁ H ⟨[.ref a],[]⟩ [.ref a] [.ref a] _ _ hr e0 (hbind s₁ (.ref a)) (.cons rfl .nil) (hsp H hO hS)) fun r s' h=> ?_
  cases r with
  |error e=>exact(hCX H e s' h).elim
  |ok fl=>
   cases fl with
   |next=>exact False.elim h
   |brk=>exact False.elim h
   |cont=>exact False.elim h
   |ret u=>
    obtain⟨v,H',os,bare,un,hok',r',q⟩:=h
    have q':v= .bl true:=q
    subst q'
    obtain rfl:u=Value.bool true:=r'
    refine⟨rfl,OldK.of_keep fun b o e=> ?_,os,bare⟩
    cases q:H b with
    |none=>exact un.keep b o e q (by intro z;exact absurd (show b∈([]:List Addr) from z) (by simp)) (by simp)
    |some u=>
     rcases hO b with z|⟨ob,xs,z⟩
     ·rw[q] at z;cases z
     ·have z2:=un.frzs b ob _ z
      obtain⟨e1,_⟩:=hok b _ z
      obtain⟨e2,_⟩:=hok' b _ z2
      rw[e] at e1;cases e1
      exact e2
 cases hk:K.lookup a with
 |some o=>
  have e:=KX a o hk
  rw[ha] at e
  cases e
  refine core (fun _=>none) (fun _=> .inl rfl) (.inr ⟨_,vs.toArray,_,hk,rfl,rfl,rfl,by rw[i8,lenV];exact hl,by simpa using rv⟩) (fun b u z=>by have z':(none:Option HO)=some u:=z;cases z') (fun b z=>absurd rfl z) fun z=>absurd rfl z
 |none=>
  refine core (fun b=>if b=a then some (.frz {cls:= .type "list",data:= .seq vs.toArray} (.lst (ns.map V.int))) else none) (fun b=> ?_) (.inl (.inr ⟨{cls:= .type "list",data:= .seq vs.toArray},if_pos rfl⟩)) (fun b u z=> ?_) (fun b z=> ?_) fun _=>hk
  ·by_cases hb:b=a
   ·exact .inr ⟨_,_,if_pos hb⟩
   ·exact .inl (if_neg hb)
  ·by_cases hb:b=a
   ·have z':=(if_pos hb).symm.trans z
    cases z'
    subst hb
    exact⟨ha,by rw[n9];exact hl,vs,_,rv,ha⟩
   ·have z':=(if_neg hb).symm.trans z
    cases z'
  ·by_cases hb:b=a
   ·exact hb
   ·exact absurd (if_neg hb) z
theorem zbJ{l:W.OpenLaw}{n k:Nat}{q:Program}{loose:List Str}{XP:(Str->Option Value)->Heap->Prop}{YP:World->Heap->Prop}{d:DefRec}{K:Params->W.Frag}{CX:World->CXT}{sp:World->Sp}{x:Str}
 (hn:l.most=some n) (hn2:n<=sizeLine) (hdf:d.params.defaults=[]) (hr:z0n k callerA)
 (hY: ∀(w:World) (h:Heap),YP w h->(K w.params).In h)
 (F: ∀(w:World) (mg:Str->Option Value) (fa:Addr) (h:Heap),(K w.params).In h->h.Ns mainGlobals mg->mg d.name=some (.ref fa)->
  ∃fd:FuncData,(∀(s:Shared) (u:Value),BindsTo s fd ⟨[u],[]⟩ [(x,u)])/\
   ∀base:Heap,(K w.params).In base->base.Ns mainGlobals mg->U3 l.prog w (K w.params) mg base (CX w) k fa fd [x] (sp w))
 (hsp: ∀(w:World) (H:Hp) (a:Addr) (ns:List Int),ns.length<=n->zgc H->SqL (K w.params) H a (ns.map V.int)->sp w [.ref a] H (fun v _=>v= .bl true) fun _ _ _=>False)
 (hCX: ∀(w:World) (H:Hp) (s:Shared) (e:Value) (s':Shared),CX w [] H s (fun _ _ _=>False) e s'->False):
 W.WalkO q loose XP YP l.row.toRowW d [] (fun f vs=>PySem.call f vs):=by
 refine Att.attach_call hn hdf fun w s₀ s₁ mg mb fa o pm cd doc a vs ns G Y ho hd hcd hmg hobj hints hlen hg=> ?_
 have KX:=hY w _ Y
 obtain⟨fd,hb,hF⟩:=F w mg fa _ KX G.T.g hmg
 exact z9E KX G.T.g G.T.b G.T.builtins G.T.nolimit hg hobj hints (B0 hlen hn2) hr hF hb (fun H hO hS=>hsp w H a ns hlen hO hS) fun H e s'=>hCX w H s₁ e s'
noncomputable def x9(s:Stmt):Arguments:=match s with
 | .FunctionDef _ a _ _ _ _ _ _ _ _=>a
 |_=>{posonlyargs:=[],args:=[],vararg:=none,kwonlyargs:=[],kw_defaults:=[],kwarg:=none,defaults:=[]}
noncomputable def J8(s:Stmt):List Stmt:=match s with
 | .FunctionDef _ _ b _ _ _ _ _ _ _=>b
 |_=>[]
noncomputable def y8(s:Stmt):Scope:=match s with
 | .FunctionDef _ _ _ _ _ _ sc _ _ _=>sc
 |_=>{kind:= .function,names:=[],isGenerator:=false,isCoroutine:=false}
noncomputable abbrev CX0:CXT:=fun _ _ _ _ _ _=>False
noncomputable abbrev E0:XK:=fun _ _ _=>False
theorem z3r{X:Cx}:U4 CX0 X E0:=fun _ _ _ _ _ _ _ h=>h.elim
structure Fun(K:W.Frag)(x qual:Str)(st:Stmt)(f:Addr)(fd:FuncData):Prop where
 ex: ∃(oc:Value) (od:Option Addr) (kV doc pm:Value) (an:Option Addr) (cdv ct:Value) (osl:Array (Option Value)),
  fd=W.fnOf x qual (x9 st) (J8 st) (y8 st) .none kV doc pm an cdv ct/\K.lookup f=some ⟨oc,od, .func fd,osl⟩/\W.codeIn K cdv qual=true
 kp:W.keepIn K (.ref f)=true
section
variable{P:Program}{w:World}{K:W.Frag}{mg:Str->Option Value}{base:Heap}
theorem Fun.ok{x qual:Str}{st:Stmt}{f:Addr}{fd:FuncData}{N ps:List Str}{k:Nat}{sp:Sp}(F:Fun K x qual st f fd)(S:w4 N ps (y8 st))(len: ∀vs H Q E,sp vs H Q E->vs.length=ps.length)
 (hbody: ∀(cdv:Value) (A:Around) (outer:List Env) (s:Shared) (H:Hp) (vs:List V) (Q:VK) (E:XK),z0n k (A.deeper (envOfC qual (y8 st) s.heap.objs.size f cdv))->sp vs H Q E->
  ∃t,PSs (z9w CX0 P w K mg base N qual (y8 st) f cdv A outer s H E).nox (J8 st) t/\t {nx:=fun _ H'=>Q .non H',rt:=Q} (z43 N vs) H):U3 P w K mg base CX0 (k+1) f fd ps sp:=by
 obtain⟨oc,od,kV,doc,pm,an,cdv,ct,osl,rfl,lk,hcd⟩:=F.ex
 refine zgB lk hcd S len fun A outer s H vs Q E hr hsp=> ?_
 obtain⟨t,h,q⟩:=hbody cdv A outer s H vs Q E hr hsp
 exact⟨t,h.nox,q⟩
theorem Fun.binds{x qual:Str}{st:Stmt}{f:Addr}{fd:FuncData}{ps:List Str}(F:Fun K x qual st f fd)
 (h: ∀(kV doc pm:Value) (an:Option Addr) (cdv ct:Value) (us:List Value),us.length=ps.length->bindArgs (W.fnOf x qual (x9 st) (J8 st) (y8 st) .none kV doc pm an cdv ct) ⟨us,[]⟩=pure (ps.zip us)):X9 K fd ps []:=by
 obtain⟨oc,od,kV,doc,pm,an,cdv,ct,osl,rfl,lk,hcd⟩:=F.ex
 exact .all (h kV doc pm an cdv ct)
theorem zav{x qual:Str}{st:Stmt}{f:Addr}{oc:Value}{od an:Option Addr}{osl:Array (Option Value)}{kV doc pm cdv ct:Value}(l:K.lookup f=some ⟨oc,od, .func (W.fnOf x qual (x9 st) (J8 st) (y8 st) .none kV doc pm an cdv ct),osl⟩)
 (c:W.codeIn K cdv qual=true) (k:W.keepIn K (.ref f)=true):Fun K x qual st f (W.fnOf x qual (x9 st) (J8 st) (y8 st) .none kV doc pm an cdv ct):=⟨⟨oc,od,kV,doc,pm,an,cdv,ct,osl,rfl,l,c⟩,k⟩
end
section
variable{X:Cx}
theorem pv(i:Nat){x:Str}{pos:Pos}(hN:X.N[i]? =some x:=by rfl)(hv:Vis X.env.scope x:=by first|exact Or.inl rfl|exact Or.inr (Or.inl rfl)|exact Or.inr (Or.inr rfl))(hd:(x==("__debug__" :Str))=false:=by decide)
 (hcd:(x==("__classdict__" :Str))=false:=by decide):PE X (.Name x pos) (z76 i):=zdt hN hv hd hcd
end
noncomputable def k9(H H':Hp):Prop:= ∀b o,H b=some o->H' b=some o
theorem k9.refl(H:Hp):k9 H H:=fun _ _ h=>h
theorem k9.trans{H H1 H2:Hp}(a:k9 H H1)(b:k9 H1 H2):k9 H H2:=fun c o h=>b c o (a c o h)
end L2
namespace So
open PySem PySem.W PyProof.Rows
noncomputable abbrev En:=SortKind×Array Keyed
noncomputable def im(i:Nat)(e:En):Keyed:=kas_item e.2 (i %e.2.size)
noncomputable def ar(q:Array Nat)(e:En):Array Keyed:=q.map fun i=>im i e
noncomputable def sst(q:Array Nat)(p:Array (Nat×Nat×Nat))(g:Nat)(e:En):SortSt:=SortSt.mk' e.1 (ar q e) p g none
noncomputable def Cmp(prog:Program)(w:World)(A:Around)(cmp:Nat->Nat->Bool)(G:Shared->Prop)(e:En):Prop:=
 ∀i j C s,G s->(∀s',G s'->C (cmp i j) s')->kas_cmp prog w A e.1 e.2 (i %e.2.size) (j %e.2.size) C s
noncomputable def Det(cmp:Nat->Nat->Bool){α:Type}(m:En->StateT SortSt Sem α)(st:En->SortSt)(P:(En->α)->(En->SortSt)->Prop):Prop:=
 ∃v st',P v st'/\∀(prog:Program) (w:World) (A:Around) (E:Value->Shared->Prop) (e:En) (G:Shared->Prop) (Q:α->SortSt->Shared->Prop) (s:Shared),Cmp prog w A cmp G e->G s->(∀s',G s'->Q (v e) (st' e) s')->kasC (model prog w) A E (m e) Q (st e) s
variable{cmp:Nat->Nat->Bool}{α β:Type}{st:En->SortSt}
theorem J9{a:En->α}{P:(En->α)->(En->SortSt)->Prop}(h:P a st):Det cmp (fun e=>pure (a e)) st P:=
 ⟨a,st,h,fun _ _ _ _ _ _ _ s _ hg hq=>kasC_pure (hq s hg)⟩
theorem y2{m:En->StateT SortSt Sem α}{f:En->α->StateT SortSt Sem β}{P:(En->β)->(En->SortSt)->Prop}(h:Det cmp m st fun v st'=>Det cmp (fun e=>f e (v e)) st' P):Det cmp (fun e=>m e>>=f e) st P:=by
 obtain⟨v,st1,⟨u,st2,hp,h2⟩,h1⟩:=h
 exact⟨u,st2,hp,fun prog w A E e G Q s hc hg hq=>kasC_bind (h1 prog w A E e G _ s hc hg fun s' hg'=>h2 prog w A E e G Q s' hc hg' hq)⟩
theorem J5{m:En->StateT SortSt Sem α}{P P':(En->α)->(En->SortSt)->Prop}(h:Det cmp m st P)(hp: ∀v s,P v s->P' v s):Det cmp m st P':=by
 obtain⟨v,st',p,h⟩:=h
 exact⟨v,st',hp _ _ p,h⟩
theorem z2a{P:(En->SortSt)->(En->SortSt)->Prop}(h:P st st):Det cmp (fun _=>get) st P:=
 ⟨st,st,h,fun _ _ _ _ _ _ _ s _ hg hq=>kasC_get (hq s hg)⟩
theorem zgL{a:En->SortSt}{P:(En->PUnit)->(En->SortSt)->Prop}(h:P (fun _=>⟨⟩) a):Det cmp (fun e=>set (a e)) st P:=
 ⟨_,a,h,fun _ _ _ _ _ _ _ s _ hg hq=>by
  unfold kasC;rw[StateT.run_set];exact wpAny_pure (hq s hg)⟩
theorem K9{f:En->SortSt->SortSt}{P:(En->PUnit)->(En->SortSt)->Prop}(h:P (fun _=>⟨⟩) (fun e=>f e (st e))):Det cmp (fun e=>modify (f e)) st P:=
 ⟨_,_,h,fun _ _ _ _ _ _ _ s _ hg hq=>kasC_modify (hq s hg)⟩
theorem z2b{x:String}{P:(En->Unit)->(En->SortSt)->Prop}(h:P (fun _=>()) st):Det cmp (fun _=>liftM (rule x)) st P:=
 ⟨_,st,h,fun _ _ _ _ _ _ _ s _ hg hq=>kasC_lift (wpAny_rule (hq s hg))⟩
theorem Y4{c:Prop}{i:En->Decidable c}{m m':En->StateT SortSt Sem α}{P:(En->α)->(En->SortSt)->Prop}(h1:c->Det cmp m st P)(h2: ¬c->Det cmp m' st P):Det cmp (fun e=> @ite _ c (i e) (m e) (m' e)) st P:=by
 by_cases h:c
 ·erw[if_pos h];exact h1 h
 ·erw[if_neg h];exact h2 h
theorem j7{q:Array Nat}{i:Nat}{P:(En->Keyed)->(En->SortSt)->Prop}(hi:i<q.size)(h:P (im q[i]) st):Det cmp (fun e=>elem' (ar q e) i) st P:=
 ⟨_,st,h,fun _ _ _ _ e _ _ s _ hg hq=>by
  have e1:(ar q e)[i]? =some (im q[i] e):=by simp[ar,hi]
  erw[elem'_eq,e1]
  exact kasC_pure (hq s hg)⟩
theorem zdZ{q:Array Nat}{p:Array (Nat×Nat×Nat)}{g i j:Nat}{P:(En->Option Bool)->(En->SortSt)->Prop}(h:P (fun _=>some (cmp i j)) (sst q p g)):Det cmp (fun e=>lt' (im i e) (im j e)) (sst q p g) P:=
 ⟨_,_,h,fun prog w A E e G Q s hc hg hq=>by
  erw[lt'_eq]
  refine kasC_bind (kasC_get ?_)
  refine kasC_bind (kasC_lift (wpAny_attempt (wpAny_mono (hc i j (fun b s'=>b=cmp i j/\G s') s hg fun s' h=>⟨rfl,h⟩) (fun c s' hc'=> ?_) fun _ _ hF=>hF.elim)))
  obtain⟨rfl,hg'⟩:=hc'
  exact kasC_pure (hq s' hg')⟩
theorem z1N{q:Array Nat}{p:Array (Nat×Nat×Nat)}{g i j:Nat}{P:(En->Option Bool)->(En->SortSt)->Prop}(hi:i<q.size)(hj:j<q.size)(h:P (fun _=>some (cmp q[i] q[j])) (sst q p g)):Det cmp (fun _=>ltAt' i j) (sst q p g) P:=by
 erw[ltAt'_eq]
 exact y2 (z2a (y2 (j7 hi (y2 (j7 hj (zdZ h))))))
theorem z5D(u v:Nat->Nat)(l:List Nat)(q:Array Nat)(e:En):l.foldl (fun a k=>a.swapIfInBounds (u k) (v k)) (ar q e)=ar (l.foldl (fun a k=>a.swapIfInBounds (u k) (v k)) q) e:=kas_swaps_map _ u v l q
theorem z3s{q:Array Nat}{p:Array (Nat×Nat×Nat)}{g i j:Nat}{P:(En->Unit)->(En->SortSt)->Prop}(h:P (fun _=>()) (sst (mirror q i j ((j -i)/2)) p g)):Det cmp (fun _=>reverseSlice' i j) (sst q p g) P:=by
 erw[reverseSlice'_eq]
 refine K9 ?_
 have e:(fun e=>setArr (sst q p g e) (mirror (arrOf (sst q p g e)) i j ((j -i)/2)))=sst (mirror q i j ((j -i)/2)) p g:=by
  funext e
  show SortSt.mk' e.1 (mirror (ar q e) i j ((j -i)/2)) p g none=SortSt.mk' e.1 (ar (mirror q i j ((j -i)/2)) e) p g none
  rw[show mirror (ar q e) i j ((j -i)/2)=ar (mirror q i j ((j -i)/2)) e from z5D (fun k=>i+k) (fun k=>j - 1 -k) _ q e]
 rw[e];exact h
theorem ze0{q:Array Nat}{p:Array (Nat×Nat×Nat)}{g k l:Nat}{P:(En->Unit)->(En->SortSt)->Prop}(h:P (fun _=>()) (sst (bubble q k (k -l)) p g)):Det cmp (fun _=>moveDown' k l) (sst q p g) P:=by
 erw[moveDown'_eq]
 refine K9 ?_
 have e:(fun e=>setArr (sst q p g e) (bubble (arrOf (sst q p g e)) k (k -l)))=sst (bubble q k (k -l)) p g:=by
  funext e
  show SortSt.mk' e.1 (bubble (ar q e) k (k -l)) p g none=SortSt.mk' e.1 (ar (bubble q k (k -l)) e) p g none
  rw[show bubble (ar q e) k (k -l)=ar (bubble q k (k -l)) e from z5D (fun i=>k -i) (fun i=>k -i - 1) _ q e]
 rw[e];exact h
theorem zaw{f:En->Nat->β->StateT SortSt Sem (ForInStep β)}{I:Nat->(En->β)->(En->SortSt)->Prop}{Q:(En->β)->(En->SortSt)->Prop}(hb: ∀(x:Nat) (k:Nat) (b:En->β) (st:En->SortSt),I (k+1) b st->Det cmp (fun e=>f e x (b e)) st fun v st'=>(∃c,v=(fun e=> .done (c e))/\Q c st')\/∃c,v=(fun e=> .yield (c e))/\I k c st')(hf: ∀b st,I 0 b st->Q b st):
 ∀(l:List Nat) (b:En->β) (st:En->SortSt),I l.length b st->Det cmp (fun e=>forIn l (b e) (f e)) st Q
 |[],b,st,h=>⟨b,st,hf b st h,fun _ _ _ _ _ _ _ s _ hg hq=>kasC_nil (hq s hg)⟩
 |x::l,b,st,h=>by
  obtain⟨v,st1,hp,h1⟩:=hb x l.length b st h
  rcases hp with⟨c,rfl,hp⟩|⟨c,rfl,hp⟩
  ·exact⟨c,st1,hp,fun prog w A E e G Q s hc hg hq=>kasC_cons (h1 prog w A E e G _ s hc hg fun s' hg'=>hq s' hg')⟩
  ·obtain⟨c2,st2,hp2,h2⟩:=zaw hb hf l c st1 hp
   exact⟨c2,st2,hp2,fun prog w A E e G Q s hc hg hq=>kasC_cons (h1 prog w A E e G _ s hc hg fun s' hg'=>h2 prog w A E e G Q s' hc hg' hq)⟩
theorem z00{lo hi:Nat}{f:En->Nat->β->StateT SortSt Sem (ForInStep β)}{b:En->β}(I:Nat->(En->β)->(En->SortSt)->Prop){Q:(En->β)->(En->SortSt)->Prop}(h0:I (hi -lo) b st)(hb: ∀(x:Nat) (k:Nat) (b:En->β) (st:En->SortSt),I (k+1) b st->Det cmp (fun e=>f e x (b e)) st fun v st'=>(∃c,v=(fun e=> .done (c e))/\Q c st')\/∃c,v=(fun e=> .yield (c e))/\I k c st')(hf: ∀b st,I 0 b st->Q b st):
 Det cmp (fun e=>forIn [lo:hi] (b e) (f e)) st Q:=by
 obtain⟨v,st',hp,h⟩:=zaw (cmp:=cmp) (f:=f) (I:=I) (Q:=Q) hb hf (T9 lo (hi -lo)) b st (by rw[List.length_range'];exact h0)
 exact⟨v,st',hp,fun prog w A E e G Q s hc hg hq=>kasC_range (h prog w A E e G Q s hc hg hq)⟩
theorem Y3{c:En->β}{I:(En->β)->(En->SortSt)->Prop}{Q:(En->β)->(En->SortSt)->Prop}(h:Q c st):Det cmp (fun e=>pure (ForInStep.done (c e))) st fun v st'=>(∃c,v=(fun e=> .done (c e))/\Q c st')\/∃c,v=(fun e=> .yield (c e))/\I c st':=
 J9 (.inl ⟨c,rfl,h⟩)
theorem Y5{c:En->β}{I:(En->β)->(En->SortSt)->Prop}{Q:(En->β)->(En->SortSt)->Prop}(h:I c st):Det cmp (fun e=>pure (ForInStep.yield (c e))) st fun v st'=>(∃c,v=(fun e=> .done (c e))/\Q c st')\/∃c,v=(fun e=> .yield (c e))/\I c st':=
 J9 (.inr ⟨c,rfl,h⟩)
theorem zax{c:Prop}{i:En->Decidable c}{v:En->β}{I Q:(En->β)->(En->SortSt)->Prop}(h:I v st):Det cmp (fun e=> @ite _ c (i e) (pure (ForInStep.done (v e))) (pure (ForInStep.yield (v e)))) st fun u st'=>(∃c,u=(fun e=> .done (c e))/\(Q c st'\/I c st'))\/∃c,u=(fun e=> .yield (c e))/\I c st':=
 Y4 (fun _=>Y3 (.inr h)) fun _=>Y5 h
theorem ze1{Q:Nat->Array Nat->Prop}(R:Nat->Array Nat->Prop){G:Prop}(h:(∀a o,R a o->Q a o)->G)(k: ∀a o,R a o->Q a o):G:=h k
theorem ze2{Q:Nat->Prop}{G:Prop}(h:(∀mm,Q mm)->G)(k: ∀mm,Q mm):G:=h k
end So
namespace So
open PySem PySem.W PyProof.Rows
noncomputable def gal:Bool->Keyed->Array Keyed->Nat->Nat->Nat->StateT SortSt Sem (Option Nat):=sortPriv%PySem.Builtin.gallop
variable{cmp:Nat->Nat->Bool}{α β:Type}{q:Array Nat}{p:Array (Nat×Nat×Nat)}{g:Nat}
theorem z48{left:Bool}{r:Array Nat}{i x:Nat}{P:(En->Option Bool)->(En->SortSt)->Prop}(hi:i<r.size)(h: ∀b,P (fun _=>some b) (sst q p g)):
 Det cmp (fun e=>elem' (ar r e) i>>=fun y=>if left=true then lt' y (im x e) else lt' (im x e) y>>=fun o=>pure (o.map fun b=> !b)) (sst q p g) P:=by
 refine y2 (j7 hi ?_)
 cases left with
 |true=>exact zdZ (h _)
 |false=>exact y2 (zdZ (J9 (h _)))
theorem z0G{left:Bool}{r:Array Nat}{x base n hint:Nat}{P:(En->Option Nat)->(En->SortSt)->Prop}(hn:base+n<=r.size)(hh:hint<n)(h: ∀k,k<=n->P (fun _=>some k) (sst q p g)):
 Det cmp (fun e=>gal left (im x e) (ar r e) base n hint) (sst q p g) P:=by
 refine y2 (z48 (left:=left) (r:=r) (i:=base+hint) (x:=x) (by lia) fun b=> ?_)
 cases b with
 |true=>
  refine y2 (J5 (P:=fun v st'=>st'=sst q p g/\∃lo hi:Nat,v=(fun _=>(none,lo,hi))) (z00 (I:=fun _ v st'=>st'=sst q p g/\∃lo hi:Nat,v=(fun _=>(none,lo,hi))) ⟨rfl,0,1,rfl⟩ ?_ fun _ _ h=>h) ?_)
  ·rintro _ k b st ⟨rfl,lo,hi,rfl⟩
   dsimp only
   refine Y4 (fun _=>Y3 ⟨rfl,lo,hi,rfl⟩) fun hlt=> ?_
   refine y2 (z48 (left:=left) (r:=r) (i:=base+(hint+hi)) (x:=x) (by lia) fun b=> ?_)
   cases b with
   |true=>exact Y5 ⟨rfl,_,_,rfl⟩
   |false=>exact Y3 ⟨rfl,lo,hi,rfl⟩
  ·rintro v st ⟨rfl,lo,hi,rfl⟩
   dsimp only
   refine y2 (J5 (P:=fun v st'=>st'=sst q p g/\∃lo hi:Nat,v=(fun _=>(none,lo,hi))/\hi<=n) (z00 (I:=fun _ v st'=>st'=sst q p g/\∃lo hi:Nat,v=(fun _=>(none,lo,hi))/\hi<=n) ⟨rfl,_,_,rfl,by lia⟩ ?_ fun _ _ h=>h) ?_)
   ·rintro _ k b st ⟨rfl,lo,hi,rfl,hl⟩
    dsimp only
    refine Y4 (fun _=>Y3 ⟨rfl,lo,hi,rfl,hl⟩) fun hlt=> ?_
    refine y2 (z48 (left:=left) (r:=r) (x:=x) (by lia) fun b=> ?_)
    cases b with
    |true=>exact Y5 ⟨rfl,_,hi,rfl,hl⟩
    |false=>exact Y5 ⟨rfl,lo,_,rfl,by lia⟩
   ·rintro v st ⟨rfl,lo,hi,rfl,hl⟩
    exact J9 (h hi hl)
 |false=>
  refine y2 (J5 (P:=fun v st'=>st'=sst q p g/\∃lo hi:Nat,v=(fun _=>(none,lo,hi))) (z00 (I:=fun _ v st'=>st'=sst q p g/\∃lo hi:Nat,v=(fun _=>(none,lo,hi))) ⟨rfl,0,1,rfl⟩ ?_ fun _ _ h=>h) ?_)
  ·rintro _ k b st ⟨rfl,lo,hi,rfl⟩
   dsimp only
   refine Y4 (fun _=>Y3 ⟨rfl,lo,hi,rfl⟩) fun hlt=> ?_
   refine y2 (z48 (left:=left) (r:=r) (i:=base+(hint -hi)) (x:=x) (by lia) fun b=> ?_)
   cases b with
   |true=>exact Y3 ⟨rfl,lo,hi,rfl⟩
   |false=>exact Y5 ⟨rfl,_,_,rfl⟩
  ·rintro v st ⟨rfl,lo,hi,rfl⟩
   dsimp only
   refine y2 (J5 (P:=fun v st'=>st'=sst q p g/\∃lo hi:Nat,v=(fun _=>(none,lo,hi))/\hi<=n) (z00 (I:=fun _ v st'=>st'=sst q p g/\∃lo hi:Nat,v=(fun _=>(none,lo,hi))/\hi<=n) ⟨rfl,_,_,rfl,by lia⟩ ?_ fun _ _ h=>h) ?_)
   ·rintro _ k b st ⟨rfl,lo,hi,rfl,hl⟩
    dsimp only
    refine Y4 (fun _=>Y3 ⟨rfl,lo,hi,rfl,hl⟩) fun hlt=> ?_
    refine y2 (z48 (left:=left) (r:=r) (x:=x) (by lia) fun b=> ?_)
    cases b with
    |true=>exact Y5 ⟨rfl,_,hi,rfl,hl⟩
    |false=>exact Y5 ⟨rfl,lo,_,rfl,by lia⟩
   ·rintro v st ⟨rfl,lo,hi,rfl,hl⟩
    exact J9 (h hi hl)
end So
set_option linter.unusedSimpArgs false
namespace So
open PySem PySem.W PyProof.Rows
noncomputable def mlo:Array Keyed->Array Keyed->StateT SortSt Sem (Array Keyed):=sortPriv%PySem.Builtin.mergeLo
theorem z1v{q:Array Nat}{e:En}:(ar q e).size=q.size:=by simp[ar]
theorem z0q{q:Array Nat}{i:Nat}{e:En}:(ar q e).push (im i e)=ar (q.push i) e:=by simp[ar]
theorem V8{q r:Array Nat}{e:En}:ar q e++ar r e=ar (q++r) e:=by simp[ar]
theorem U5{q:Array Nat}{i j:Nat}{e:En}:(ar q e).extract i j=ar (q.extract i j) e:=by simp[ar]
theorem z2c{q:Array Nat}{e:En}:(ar q e).reverse=ar q.reverse e:=by simp[ar]
theorem zay{i:Nat}{e:En}: #[im i e]=ar #[i] e:=by simp[ar]
noncomputable def Al(T:Nat->Prop)(q:Array Nat):Prop:= ∀i∈q,T i
section
variable{T:Nat->Prop}{q r:Array Nat}
theorem w6{i:Nat}(h:Al T q)(hi:T i):Al T (q.push i):=fun j hj=>by
 rcases Array.mem_push.mp hj with hj|rfl
 ·exact h j hj
 ·exact hi
theorem W9(h:Al T q)(h':Al T r):Al T (q++r):=fun j hj=>by
 rcases Array.mem_append.mp hj with hj|hj
 ·exact h j hj
 ·exact h' j hj
theorem w8{i j:Nat}(h:Al T q):Al T (q.extract i j):=fun k hk=>h k (by
 obtain⟨n,hn,rfl⟩:=Array.mem_iff_getElem.mp hk
 rw[Array.getElem_extract]
 exact Array.getElem_mem _)
theorem z0r(h:Al T q):Al T q.reverse:=fun k hk=>h k (Array.mem_reverse.mp hk)
theorem Y0{i:Nat}(h:Al T q)(hi:i<q.size):T q[i]:=h _ (Array.getElem_mem hi)
theorem z38{i:Nat}(h:T i):Al T #[i]:=fun j hj=>by
 rw[Array.mem_singleton.mp hj];exact h
end
variable{cmp:Nat->Nat->Bool}{α β:Type}{q:Array Nat}{p:Array (Nat×Nat×Nat)}{g:Nat}
theorem z5E{g':Nat}{P:(En->Unit)->(En->SortSt)->Prop}(h:P (fun _=>()) (sst q p g')):Det cmp (fun _=>(sortPriv%PySem.Builtin.setMinGallop) g') (sst q p g) P:=K9 h
noncomputable def Rt(T:Nat->Prop)(q:Array Nat)(p:Array (Nat×Nat×Nat)){β:Type}(v:En->Option (Array Keyed)×β)(st:En->SortSt):Prop:= ∃(mq:Array Nat) (b:En->β) (g:Nat),v=(fun e=>(some (ar mq e),b e))/\Al T mq/\st=sst q p g
theorem zgM{T:Nat->Prop}{qa qb:Array Nat}{P:(En->Array Keyed)->(En->SortSt)->Prop}(ha:Al T qa)(hb:Al T qb)(a1:1<=qa.size)(b1:1<=qb.size)(h: ∀mq g',Al T mq->P (ar mq) (sst q p g')):
 Det cmp (fun e=>mlo (ar qa e) (ar qb e)) (sst q p g) P:=by
 refine y2 (z2b ?_)
 refine y2 (j7 (by lia) ?_)
 erw[z1v,zay,V8,U5]
 refine Y4 (fun _=>J9 (h _ _ ?_)) fun c1=>Y4 (fun _=>J9 (h _ _ ?_)) fun c2=> ?_
 ·exact W9 (W9 (z38 (Y0 hb _)) (w8 ha)) (w8 hb)
 ·exact W9 (W9 (z38 (Y0 hb _)) (w8 hb)) (w8 ha)
 erw[beq_iff_eq] at c1 c2
 refine y2 (z2a ?_)
 try dsimp only
 refine y2 (J5 (P:=fun v st'=>Rt T q p v st') (z00 (I:=fun k v st'=> ∃(out:Array Nat) (ia ib mg g':Nat),v=(fun e=>(none,ar out e,ia,ib,mg))/\st'=sst q p g'/\Al T out/\ia+1<qa.size/\ib<qb.size/\qa.size+qb.size+1<=ia+ib+k) ⟨_,0,1,g,g,rfl,rfl,z38 (Y0 hb (by lia)),by lia,by lia,by lia⟩ ?_ ?_) ?_)
 ·rintro _ k b st ⟨out,ia,ib,mg,g',rfl,rfl,ho,hia,hib,hk⟩
  try dsimp only
  refine y2 (J5 (P:=fun v st'=>Rt T q p v st'\/∃(out:Array Nat) (ja jb ac bc:Nat),v=(fun e=>(none,ar out e,ja,jb,ac,bc))/\st'=sst q p g'/\Al T out/\ja+1<qa.size/\jb<qb.size/\ia+ib+1<=ja+jb)
   (z00 (I:=fun k v st'=> ∃(out:Array Nat) (ja jb ac bc:Nat),v=(fun e=>(none,ar out e,ja,jb,ac,bc))/\st'=sst q p g'/\Al T out/\ja+1<qa.size/\jb<qb.size/\ia+ib+(qa.size+qb.size)<=ja+jb+k/\k<=qa.size+qb.size) ⟨out,ia,ib,0,0,rfl,rfl,ho,hia,hib,by lia,by lia⟩ ?_ ?_) ?_)
  ·rintro _ k b st ⟨out,ja,jb,ac,bc,rfl,rfl,ho,hja,hjb,hp,hk2⟩
   try dsimp only
   refine y2 (j7 hjb (y2 (j7 (by lia) (y2 (zdZ ?_)))))
   try dsimp only
   cases cmp qb[jb] qa[ja] with
   |true=>
    refine y2 (j7 hjb ?_)
    try dsimp only
    erw[z0q,V8,U5]
    refine Y4 (fun _=>Y3 (.inl ⟨_,_,_,rfl,W9 (W9 (w6 ho (Y0 hb _)) (w8 ha)) (w8 hb),rfl⟩)) fun c=> ?_
    erw[beq_iff_eq] at c
    refine Y4 (fun _=>Y3 (.inr ⟨_,_,_,_,_,rfl,rfl,w6 ho (Y0 hb _),hja,by lia,by lia⟩)) fun _=>Y5 ⟨_,_,_,_,_,rfl,rfl,w6 ho (Y0 hb _),hja,by lia,by lia,by lia⟩
   |false=>
    refine y2 (j7 (by lia) ?_)
    try dsimp only
    erw[z0q,V8,U5]
    refine Y4 (fun _=>Y3 (.inl ⟨_,_,_,rfl,W9 (W9 (w6 ho (Y0 ha _)) (w8 hb)) (w8 ha),rfl⟩)) fun c=> ?_
    erw[beq_iff_eq] at c
    refine Y4 (fun _=>Y3 (.inr ⟨_,_,_,_,_,rfl,rfl,w6 ho (Y0 ha _),by lia,hjb,by lia⟩)) fun _=>Y5 ⟨_,_,_,_,_,rfl,rfl,w6 ho (Y0 ha _),by lia,hjb,by lia,by lia⟩
  ·rintro b st ⟨out,ja,jb,ac,bc,rfl,rfl,ho,hja,hjb,hp,hk2⟩
   exact .inr ⟨_,_,_,_,_,rfl,rfl,ho,hja,hjb,by lia⟩
  ·rintro v st (⟨mq,b,g2,rfl,hm,rfl⟩|⟨out,ja,jb,ac,bc,rfl,rfl,ho,hja,hjb,hp⟩)
   ·exact Y3 ⟨_,_,_,rfl,hm,rfl⟩
   try dsimp only
   refine y2 (z2b ?_)
   refine y2 (J5 (P:=fun v st'=>Rt T q p v st'\/∃(out:Array Nat) (ka kb mg ac bc g':Nat),v=(fun e=>(none,ar out e,ka,kb,mg,ac,bc))/\st'=sst q p g'/\Al T out/\ka+1<qa.size/\kb<qb.size/\ja+jb<=ka+kb)
    (z00 (I:=fun k v st'=> ∃(out:Array Nat) (ka kb mg ac bc g':Nat),v=(fun e=>(none,ar out e,ka,kb,mg,ac,bc))/\st'=sst q p g'/\Al T out/\ka+1<qa.size/\kb<qb.size/\ja+jb<=ka+kb) ⟨out,ja,jb,_,ac,bc,_,rfl,rfl,ho,hja,hjb,by lia⟩ ?_ fun b st h=> .inr h) ?_)
   ·rintro _ k b st ⟨out,ka,kb,mg,ac,bc,g2,rfl,rfl,ho,hka,hkb,hp2⟩
    try dsimp only
    try erw[z1v]
    apply ze2
    ·intro key
     refine Y4 (c:=mg>1) (fun _=> ?_) (fun _=> ?_)
     rotate_left
     ·generalize mg=z
      exact key z
     ·exact key _
    ·intro mm
     try dsimp only
     refine y2 (z5E (y2 (j7 hkb (y2 (z0G (by lia) (by lia) fun k hk=> ?_)))))
     try dsimp only
     try erw[V8,U5]
     refine Y4 (fun k0=>Y4 (fun _=>Y3 (.inl ⟨_,_,_,rfl, ?_,rfl⟩)) fun c1=>Y4 (fun _=>Y3 (.inl ⟨_,_,_,rfl, ?_,rfl⟩)) fun c2=> ?_) (fun k0=> ?_)
     ·(repeat' first|with_reducible assumption|with_reducible exact Y0 ha _|with_reducible exact Y0 hb _|with_reducible apply w6|with_reducible apply W9|with_reducible apply w8)
     ·(repeat' first|with_reducible assumption|with_reducible exact Y0 ha _|with_reducible exact Y0 hb _|with_reducible apply w6|with_reducible apply W9|with_reducible apply w8)
     all_goals
      try erw[beq_iff_eq] at c1 c2
      refine y2 (j7 hkb ?_)
      try dsimp only
      try erw[z0q,V8,U5]
      refine Y4 (fun _=>Y3 (.inl ⟨_,_,_,rfl, ?_,rfl⟩)) fun c3=> ?_
      ·(repeat' first|with_reducible assumption|with_reducible exact Y0 ha _|with_reducible exact Y0 hb _|with_reducible apply w6|with_reducible apply W9|with_reducible apply w8)
      erw[beq_iff_eq] at c3
      refine y2 (j7 (by lia) (y2 (z0G (by lia) (by lia) fun k' hk'=> ?_)))
      try dsimp only
      try erw[V8,U5]
      refine Y4 (fun k1=>Y4 (fun _=>Y3 (.inl ⟨_,_,_,rfl, ?_,rfl⟩)) fun c4=> ?_) (fun k1=> ?_)
      ·(repeat' first|with_reducible assumption|with_reducible exact Y0 ha _|with_reducible exact Y0 hb _|with_reducible apply w6|with_reducible apply W9|with_reducible apply w8)
      all_goals
       try erw[beq_iff_eq] at c4
       refine y2 (j7 (by lia) ?_)
       try dsimp only
       try erw[z0q,V8,U5]
       refine Y4 (fun _=>Y3 (.inl ⟨_,_,_,rfl, ?_,rfl⟩)) fun c5=> ?_
       ·(repeat' first|with_reducible assumption|with_reducible exact Y0 ha _|with_reducible exact Y0 hb _|with_reducible apply w6|with_reducible apply W9|with_reducible apply w8)
       erw[beq_iff_eq] at c5
       refine zax ⟨_,_,_,_,_,_,_,rfl,rfl, ?_,by lia,by lia,by lia⟩
       (repeat' first|with_reducible assumption|with_reducible exact Y0 ha _|with_reducible exact Y0 hb _|with_reducible apply w6|with_reducible apply W9|with_reducible apply w8)
   ·rintro v st (⟨mq,b,g2,rfl,hm,rfl⟩|⟨out,ka,kb,mg,ac,bc,g2,rfl,rfl,ho,hka,hkb,hp2⟩)
    ·exact Y3 ⟨_,_,_,rfl,hm,rfl⟩
    ·try dsimp only
     exact y2 (z5E (Y5 ⟨_,_,_,_,_,rfl,rfl,ho,hka,hkb,by lia⟩))
 ·rintro b st ⟨out,ia,ib,mg,g',rfl,rfl,ho,hia,hib,hk⟩
  lia
 ·rintro v st ⟨mq,b,g',rfl,hm,rfl⟩
  exact J9 (h _ _ hm)
end So
namespace So
open PySem PySem.W PyProof.Rows
noncomputable def mhi:Array Keyed->Array Keyed->StateT SortSt Sem (Array Keyed):=sortPriv%PySem.Builtin.mergeHi
variable{cmp:Nat->Nat->Bool}{α β:Type}{q:Array Nat}{p:Array (Nat×Nat×Nat)}{g:Nat}
theorem zgN{T:Nat->Prop}{qa qb:Array Nat}{P:(En->Array Keyed)->(En->SortSt)->Prop}(ha:Al T qa)(hb:Al T qb)(a1:1<=qa.size)(b1:1<=qb.size)(h: ∀mq g',Al T mq->P (ar mq) (sst q p g')):
 Det cmp (fun e=>mhi (ar qa e) (ar qb e)) (sst q p g) P:=by
 refine y2 (z2b ?_)
 try dsimp only
 try erw[z1v]
 refine y2 (j7 (by lia) ?_)
 erw[z1v,zay,V8,U5,z2c]
 refine Y4 (fun _=>J9 (h _ _ ?_)) fun c1=>Y4 (fun _=>J9 (h _ _ ?_)) fun c2=> ?_
 ·exact W9 (W9 (w8 ha) (w8 hb)) (z0r (z38 (Y0 ha _)))
 ·exact W9 (W9 (w8 hb) (w8 ha)) (z0r (z38 (Y0 ha _)))
 erw[beq_iff_eq] at c1 c2
 refine y2 (z2a ?_)
 try dsimp only
 refine y2 (J5 (P:=fun v st'=>Rt T q p v st') (z00 (I:=fun k v st'=> ∃(na nb:Nat) (out:Array Nat) (mg g':Nat),v=(fun e=>(none,na,nb,ar out e,mg))/\st'=sst q p g'/\Al T out/\1<=na/\na<=qa.size/\2<=nb/\nb<=qb.size/\na+nb+1<=k) ⟨qa.size - 1,qb.size,_,g,g,rfl,rfl,z38 (Y0 ha (by lia)),by lia,by lia,by lia,by lia,by lia⟩ ?_ ?_) ?_)
 ·rintro _ k b st ⟨na,nb,out,mg,g',rfl,rfl,ho,na1,na2,nb1,nb2,hk⟩
  try dsimp only
  refine y2 (J5 (P:=fun v st'=>Rt T q p v st'\/∃(ja jb:Nat) (out:Array Nat) (ac bc:Nat),v=(fun e=>(none,ja,jb,ar out e,ac,bc))/\st'=sst q p g'/\Al T out/\1<=ja/\ja<=qa.size/\2<=jb/\jb<=qb.size/\ja+jb+1<=na+nb)
   (z00 (I:=fun k v st'=> ∃(ja jb:Nat) (out:Array Nat) (ac bc:Nat),v=(fun e=>(none,ja,jb,ar out e,ac,bc))/\st'=sst q p g'/\Al T out/\1<=ja/\ja<=qa.size/\2<=jb/\jb<=qb.size/\ja+jb+(qa.size+qb.size)<=na+nb+k/\k<=qa.size+qb.size) ⟨na,nb,out,0,0,rfl,rfl,ho,na1,na2,nb1,nb2,by lia,by lia⟩ ?_ ?_) ?_)
  ·rintro _ k b st ⟨ja,jb,out,ac,bc,rfl,rfl,ho,ja1,ja2,jb1,jb2,hp,hk2⟩
   try dsimp only
   refine y2 (j7 (by lia) (y2 (j7 (by lia) (y2 (zdZ ?_)))))
   try dsimp only
   cases cmp qb[jb - 1] qa[ja - 1] with
   |true=>
    refine y2 (j7 (by lia) ?_)
    try dsimp only
    try erw[z0q,V8,U5,z2c]
    refine Y4 (fun _=>Y3 (.inl ⟨_,_,_,rfl,W9 (W9 (w8 ha) (w8 hb)) (z0r (w6 ho (Y0 ha _))),rfl⟩)) fun c=> ?_
    erw[beq_iff_eq] at c
    refine Y4 (fun _=>Y3 (.inr ⟨_,_,_,_,_,rfl,rfl,w6 ho (Y0 ha _),by lia,by lia,by lia,by lia,by lia⟩)) fun _=>Y5 ⟨_,_,_,_,_,rfl,rfl,w6 ho (Y0 ha _),by lia,by lia,by lia,by lia,by lia,by lia⟩
   |false=>
    refine y2 (j7 (by lia) ?_)
    try dsimp only
    try erw[z0q,V8,U5,z2c]
    refine Y4 (fun _=>Y3 (.inl ⟨_,_,_,rfl,W9 (W9 (w8 hb) (w8 ha)) (z0r (w6 ho (Y0 hb _))),rfl⟩)) fun c=> ?_
    erw[beq_iff_eq] at c
    refine Y4 (fun _=>Y3 (.inr ⟨_,_,_,_,_,rfl,rfl,w6 ho (Y0 hb _),by lia,by lia,by lia,by lia,by lia⟩)) fun _=>Y5 ⟨_,_,_,_,_,rfl,rfl,w6 ho (Y0 hb _),by lia,by lia,by lia,by lia,by lia,by lia⟩
  ·rintro b st ⟨ja,jb,out,ac,bc,rfl,rfl,ho,ja1,ja2,jb1,jb2,hp,hk2⟩
   exact .inr ⟨_,_,_,_,_,rfl,rfl,ho,ja1,ja2,jb1,jb2,by lia⟩
  ·rintro v st (⟨mq,b,g2,rfl,hm,rfl⟩|⟨ja,jb,out,ac,bc,rfl,rfl,ho,ja1,ja2,jb1,jb2,hp⟩)
   ·exact Y3 ⟨_,_,_,rfl,hm,rfl⟩
   try dsimp only
   refine y2 (z2b ?_)
   refine y2 (J5 (P:=fun v st'=>Rt T q p v st'\/∃(ka kb:Nat) (out:Array Nat) (mg ac bc g':Nat),v=(fun e=>(none,ka,kb,ar out e,mg,ac,bc))/\st'=sst q p g'/\Al T out/\1<=ka/\ka<=qa.size/\2<=kb/\kb<=qb.size/\ka+kb<=ja+jb)
    (z00 (I:=fun k v st'=> ∃(ka kb:Nat) (out:Array Nat) (mg ac bc g':Nat),v=(fun e=>(none,ka,kb,ar out e,mg,ac,bc))/\st'=sst q p g'/\Al T out/\1<=ka/\ka<=qa.size/\2<=kb/\kb<=qb.size/\ka+kb<=ja+jb) ⟨ja,jb,out,_,ac,bc,_,rfl,rfl,ho,ja1,ja2,jb1,jb2,by lia⟩ ?_ fun b st h=> .inr h) ?_)
   ·rintro _ k b st ⟨ka,kb,out,mg,ac,bc,g2,rfl,rfl,ho,ka1,ka2,kb1,kb2,hp2⟩
    try dsimp only
    try erw[z1v]
    apply ze2
    ·intro key
     refine Y4 (c:=mg>1) (fun _=> ?_) (fun _=> ?_)
     rotate_left
     ·generalize mg=z
      exact key z
     ·exact key _
    ·intro mm
     try dsimp only
     refine y2 (z5E (y2 (j7 (by lia) (y2 (z0G (by lia) (by lia) fun k hk=> ?_)))))
     try dsimp only
     try erw[V8,U5,z2c]
     obtain⟨W,hW⟩: ∃W,ka -k=W:=⟨_,rfl⟩
     erw[hW]
     obtain⟨KA,hKA⟩: ∃KA,KA=ka:=⟨_,rfl⟩
     apply ze1 (fun a o=>Al T o/\1<=a/\a<=KA)
     ·intro key
      refine Y4 (fun k0=>Y4 (fun _=>Y3 (.inl ⟨_,_,_,rfl, ?_,rfl⟩)) fun c1=> ?_) (fun k0=> ?_)
      ·(repeat' first|with_reducible assumption|with_reducible exact Y0 ha _|with_reducible exact Y0 hb _|with_reducible apply w6|with_reducible apply W9|with_reducible apply w8|with_reducible apply z0r)
      rotate_left
      ·have r:Al T out/\1<=ka/\ka<=KA:=⟨ho,ka1,by lia⟩
       revert r
       generalize out=z2
       generalize ka=z1
       intro r
       exact key z1 z2 r
      ·erw[beq_iff_eq] at c1
       refine key _ _ ⟨?_,by lia,by lia⟩
       (repeat' first|with_reducible assumption|with_reducible exact Y0 ha _|with_reducible exact Y0 hb _|with_reducible apply w6|with_reducible apply W9|with_reducible apply w8|with_reducible apply z0r)
     ·intro ka0 out0 r0
      obtain⟨ho0,ka01,ka02⟩:=r0
      try dsimp only
      refine y2 (j7 (by lia) ?_)
      try dsimp only
      try erw[z0q,V8,U5,z2c]
      refine Y4 (fun _=>Y3 (.inl ⟨_,_,_,rfl, ?_,rfl⟩)) fun c3=> ?_
      ·(repeat' first|with_reducible assumption|with_reducible exact Y0 ha _|with_reducible exact Y0 hb _|with_reducible apply w6|with_reducible apply W9|with_reducible apply w8|with_reducible apply z0r)
      erw[beq_iff_eq] at c3
      refine y2 (j7 (by lia) (y2 (z0G (by lia) (by lia) fun k' hk'=> ?_)))
      try dsimp only
      try erw[V8,U5,z2c]
      refine Y4 (fun k1=>Y4 (fun _=>Y3 (.inl ⟨_,_,_,rfl, ?_,rfl⟩)) fun c4=>Y4 (fun _=>Y3 (.inl ⟨_,_,_,rfl, ?_,rfl⟩)) fun c6=> ?_) (fun k1=> ?_)
      ·(repeat' first|with_reducible assumption|with_reducible exact Y0 ha _|with_reducible exact Y0 hb _|with_reducible apply w6|with_reducible apply W9|with_reducible apply w8|with_reducible apply z0r)
      ·(repeat' first|with_reducible assumption|with_reducible exact Y0 ha _|with_reducible exact Y0 hb _|with_reducible apply w6|with_reducible apply W9|with_reducible apply w8|with_reducible apply z0r)
      all_goals
       try erw[beq_iff_eq] at c4 c6
       refine y2 (j7 (by lia) ?_)
       try dsimp only
       try erw[z0q,V8,U5,z2c]
       refine Y4 (fun _=>Y3 (.inl ⟨_,_,_,rfl, ?_,rfl⟩)) fun c5=> ?_
       ·(repeat' first|with_reducible assumption|with_reducible exact Y0 ha _|with_reducible exact Y0 hb _|with_reducible apply w6|with_reducible apply W9|with_reducible apply w8|with_reducible apply z0r)
       erw[beq_iff_eq] at c5
       erw[i6,decide_eq_true_eq]
       refine zax ⟨_,_,_,_,_,_,_,rfl,rfl, ?_,by lia,by lia,by lia,by lia,by lia⟩
       (repeat' first|with_reducible assumption|with_reducible exact Y0 ha _|with_reducible exact Y0 hb _|with_reducible apply w6|with_reducible apply W9|with_reducible apply w8|with_reducible apply z0r)
   ·rintro v st (⟨mq,b,g2,rfl,hm,rfl⟩|⟨ka,kb,out,mg,ac,bc,g2,rfl,rfl,ho,ka1,ka2,kb1,kb2,hp2⟩)
    ·exact Y3 ⟨_,_,_,rfl,hm,rfl⟩
    ·try dsimp only
     exact y2 (z5E (Y5 ⟨_,_,_,_,_,rfl,rfl,ho,ka1,ka2,kb1,kb2,by lia⟩))
 ·rintro b st ⟨na,nb,out,mg,g',rfl,rfl,ho,na1,na2,nb1,nb2,hk⟩
  lia
 ·rintro v st ⟨mq,b,g',rfl,hm,rfl⟩
  exact J9 (h _ _ hm)
end So
namespace So
open PySem PySem.W PyProof.Rows
variable{cmp:Nat->Nat->Bool}{α β:Type}{q:Array Nat}{p:Array (Nat×Nat×Nat)}{g:Nat}{T:Nat->Prop}{st:En->SortSt}
theorem zbK{i j:Nat}(h:Al T q):Al T (q.swapIfInBounds i j):=by
 rw[Array.swapIfInBounds_def]
 split
 ·split
  ·exact fun k hk=>h k ((Array.Perm.mem_iff (Array.swap_perm _ _)).mp hk)
  ·exact h
 ·exact h
theorem z3t(u v:Nat->Nat): ∀(l:List Nat) (q:Array Nat),Al T q->Al T (l.foldl (fun a k=>a.swapIfInBounds (u k) (v k)) q)
 |[],_,h=>h
 |k::l,q,h=>z3t u v l _ (zbK h)
theorem z3u(u v:Nat->Nat): ∀(l:List Nat) (q:Array Nat),(l.foldl (fun a k=>a.swapIfInBounds (u k) (v k)) q).size=q.size
 |[],_=>rfl
 |k::l,q=>by
  show(l.foldl _ (q.swapIfInBounds (u k) (v k))).size=_
  rw[z3u u v l,Array.size_swapIfInBounds]
theorem z1e{i j k:Nat}(h:Al T q):Al T (mirror q i j k):=z3t (fun k=>i+k) (fun k=>j - 1 -k) _ q h
theorem V1{i j k:Nat}:(mirror q i j k).size=q.size:=z3u (fun k=>i+k) (fun k=>j - 1 -k) _ q
theorem ze3{i k:Nat}(h:Al T q):Al T (bubble q i k):=z3t (fun k=>i -k) (fun k=>i -k - 1) _ q h
theorem ze4{i k:Nat}:(bubble q i k).size=q.size:=z3u (fun k=>i -k) (fun k=>i -k - 1) _ q
theorem zaz{f:En->Nat->β->StateT SortSt Sem (ForInStep β)}{I:Nat->(En->β)->(En->SortSt)->Prop}{Q:(En->β)->(En->SortSt)->Prop}{hi:Nat}(hb: ∀(x:Nat) (b:En->β) (st:En->SortSt),x<hi->I x b st->Det cmp (fun e=>f e x (b e)) st fun v st'=>(∃c,v=(fun e=> .done (c e))/\Q c st')\/∃c,v=(fun e=> .yield (c e))/\I (x+1) c st')(hf: ∀x b st,I x b st->Q b st):
 ∀(n lo:Nat) (b:En->β) (st:En->SortSt),lo+n<=hi->I lo b st->Det cmp (fun e=>forIn (T9 lo n) (b e) (f e)) st Q
 |0,lo,b,st,_,h=>⟨b,st,hf lo b st h,fun _ _ _ _ _ _ _ s _ hg hq=>kasC_nil (hq s hg)⟩
 |n+1,lo,b,st,hl,h=>by
  obtain⟨v,st1,hp,h1⟩:=hb lo b st (by lia) h
  rcases hp with⟨c,rfl,hp⟩|⟨c,rfl,hp⟩
  ·exact⟨c,st1,hp,fun prog w A E e G Q s hc hg hq=>kasC_cons (h1 prog w A E e G _ s hc hg fun s' hg'=>hq s' hg')⟩
  ·obtain⟨c2,st2,hp2,h2⟩:=zaz hb hf n (lo+1) c st1 (by lia) hp
   exact⟨c2,st2,hp2,fun prog w A E e G Q s hc hg hq=>kasC_cons (h1 prog w A E e G _ s hc hg fun s' hg'=>h2 prog w A E e G Q s' hc hg' hq)⟩
theorem ze5{lo hi:Nat}{f:En->Nat->β->StateT SortSt Sem (ForInStep β)}{b:En->β}(I:Nat->(En->β)->(En->SortSt)->Prop){Q:(En->β)->(En->SortSt)->Prop}(h0:I lo b st)(hb: ∀(x:Nat) (b:En->β) (st:En->SortSt),x<hi->I x b st->Det cmp (fun e=>f e x (b e)) st fun v st'=>(∃c,v=(fun e=> .done (c e))/\Q c st')\/∃c,v=(fun e=> .yield (c e))/\I (x+1) c st')(hf: ∀x b st,I x b st->Q b st):
 Det cmp (fun e=>forIn [lo:hi] (b e) (f e)) st Q:=by
 by_cases hl:lo<=hi
 ·obtain⟨v,st',hp,h⟩:=zaz (cmp:=cmp) (f:=f) (I:=I) (Q:=Q) hb hf (hi -lo) lo b st (by lia) h0
  exact⟨v,st',hp,fun prog w A E e G Q s hc hg hq=>kasC_range (h prog w A E e G Q s hc hg hq)⟩
 ·refine⟨b,st,hf lo b st h0,fun prog w A E e G Q s hc hg hq=>kasC_range ?_⟩
  rw[show hi -lo=0 by lia]
  exact kasC_nil (hq s hg)
theorem z5F{lo nrem n m:Nat}{P:(En->Option Nat)->(En->SortSt)->Prop}{f:Nat->Option (Option Nat)×Nat->StateT SortSt Sem (ForInStep (Option (Option Nat)×Nat))}{k:Option (Option Nat)×Nat->StateT SortSt Sem (Option Nat)}(hf: ∀x m,f x (none,m)=ltAt' (lo+m) (lo+m - 1)>>=fun o=>match o with|some b=>if b=true then pure (.done (none,m)) else pure (.yield (none,m+1))|_=>pure (.done (some none,m)))(hk: ∀m,k (none,m)=pure (some m))(hs:q.size=n)(hl:lo+nrem<=n)(m1:1<=m)(m2:m<=nrem)(h: ∀k,1<=k->k<=nrem->P (fun _=>some k) (sst q p g)):
 Det cmp (fun _=>forIn [m:nrem] ((none,m):Option (Option Nat)×Nat) f>>=k) (sst q p g) P:=by
 refine y2 (J5 (P:=fun v st'=> ∃m:Nat,v=(fun _=>(none,m))/\st'=sst q p g/\1<=m/\m<=nrem) (z00 (I:=fun k v st'=> ∃m:Nat,v=(fun _=>(none,m))/\st'=sst q p g/\1<=m/\m+k=nrem) ⟨m,rfl,rfl,m1,by lia⟩ ?_ ?_) ?_)
 ·rintro _ k b st ⟨m,rfl,rfl,m1,hm⟩
  erw[hf]
  refine y2 (z1N (by lia) (by lia) ?_)
  try dsimp only
  exact Y4 (fun _=>Y3 ⟨m,rfl,rfl,m1,by lia⟩) fun _=>Y5 ⟨m+1,rfl,rfl,by lia,by lia⟩
 ·rintro b st ⟨m,rfl,rfl,m1,hm⟩
  exact⟨m,rfl,rfl,m1,by lia⟩
 ·rintro v st ⟨m,rfl,rfl,m1,m2⟩
  erw[hk]
  exact J9 (h m m1 m2)
theorem zgO{lo nrem n:Nat}{P:(En->Option Nat)->(En->SortSt)->Prop}(ha:Al T q)(hs:q.size=n)(hl:lo+nrem<=n)(h1:1<=nrem)(h: ∀k q',1<=k->k<=nrem->Al T q'->q'.size=n->P (fun _=>some k) (sst q' p g)):
 Det cmp (fun _=>countRun' lo nrem) (sst q p g) P:=by
 refine y2 (J5 (P:=fun v st'=> ∃m:Nat,v=(fun _=>(none,m))/\st'=sst q p g/\1<=m/\m<=nrem) (z00 (I:=fun k v st'=> ∃m:Nat,v=(fun _=>(none,m))/\st'=sst q p g/\1<=m/\m+k=nrem) ⟨1,rfl,rfl,c8 _,by lia⟩ ?_ ?_) ?_)
 ·rintro _ k b st ⟨m,rfl,rfl,m1,hm⟩
  refine y2 (z1N (by lia) (by lia) ?_)
  try dsimp only
  exact Y4 (fun _=>Y3 ⟨m,rfl,rfl,m1,by lia⟩) fun _=>Y5 ⟨m+1,rfl,rfl,by lia,by lia⟩
 ·rintro b st ⟨m,rfl,rfl,m1,hm⟩
  exact⟨m,rfl,rfl,m1,by lia⟩
 rintro v st ⟨m,rfl,rfl,m1,m2⟩
 try dsimp only
 refine Y4 (fun _=>J9 (h m q m1 m2 ha hs)) fun c1=> ?_
 erw[beq_iff_eq] at c1
 have m3:m<nrem:=by lia
 clear c1 m2
 refine Y4 (fun c2=> ?_) fun c2=> ?_
 ·refine y2 (z1N (by lia) (by lia) ?_)
  try dsimp only
  refine Y4 (fun _=>J9 (h m q m1 (by lia) ha hs)) fun c3=> ?_
  refine y2 (z3s ?_)
  have ha:=z1e (i:=lo) (j:=lo+m) (k:=(lo+m -lo)/2) ha
  have hs:=(V1 (i:=lo) (j:=lo+m) (k:=(lo+m -lo)/2)).trans hs
  generalize mirror q lo (lo+m) ((lo+m -lo)/2)=q at ha hs⊢
  refine y2 (z2b ?_)
  refine y2 (J5 (P:=fun v st'=> ∃(m z:Nat) (q:Array Nat),v=(fun _=>(none,m,z))/\st'=sst q p g/\1<=m/\m<=nrem/\Al T q/\q.size=n) (z00 (I:=fun k v st'=> ∃(m z:Nat) (q:Array Nat),v=(fun _=>(none,m,z))/\st'=sst q p g/\1<=m/\m+k=nrem/\Al T q/\q.size=n) ⟨m+1,0,q,rfl,rfl,by lia,by lia,ha,hs⟩ ?_ ?_) ?_)
  ·rintro _ k b st ⟨m,z,q,rfl,rfl,m1,hm,ha,hs⟩
   try dsimp only
   refine y2 (z1N (by lia) (by lia) ?_)
   try dsimp only
   refine Y4 (fun _=> ?_) fun _=> ?_
   ·refine Y4 (fun _=>y2 (z3s (Y5 ⟨m+1,0,_,rfl,rfl,by lia,by lia,z1e ha,V1.trans hs⟩))) fun _=>Y5 ⟨m+1,0,_,rfl,rfl,by lia,by lia,ha,hs⟩
   ·refine y2 (z1N (by lia) (by lia) ?_)
    try dsimp only
    exact Y4 (fun _=>Y3 ⟨m,z,_,rfl,rfl,m1,by lia,ha,hs⟩) fun _=>Y5 ⟨m+1,_,_,rfl,rfl,by lia,by lia,ha,hs⟩
  ·rintro b st ⟨m,z,q,rfl,rfl,m1,hm,ha,hs⟩
   exact⟨m,z,q,rfl,rfl,m1,by lia,ha,hs⟩
  rintro v st ⟨m,z,q,rfl,rfl,m1,m2,ha,hs⟩
  try dsimp only
  refine Y4 (fun _=>y2 (z3s ?_)) fun _=> ?_
  ·refine y2 (z3s ?_)
   exact z5F (fun _ _=>rfl) (fun _=>rfl) (V1.trans (V1.trans hs)) hl m1 m2 fun k k1 k2=>h k _ k1 k2 (z1e (z1e ha)) (V1.trans (V1.trans hs))
  ·refine y2 (z3s ?_)
   exact z5F (fun _ _=>rfl) (fun _=>rfl) (V1.trans hs) hl m1 m2 fun k k1 k2=>h k _ k1 k2 (z1e ha) (V1.trans hs)
 ·refine y2 (z2b ?_)
  refine y2 (J5 (P:=fun v st'=> ∃(m z:Nat) (q:Array Nat),v=(fun _=>(none,m,z))/\st'=sst q p g/\1<=m/\m<=nrem/\Al T q/\q.size=n) (z00 (I:=fun k v st'=> ∃(m z:Nat) (q:Array Nat),v=(fun _=>(none,m,z))/\st'=sst q p g/\1<=m/\m+k=nrem/\Al T q/\q.size=n) ⟨m+1,0,q,rfl,rfl,by lia,by lia,ha,hs⟩ ?_ ?_) ?_)
  ·rintro _ k b st ⟨m,z,q,rfl,rfl,m1,hm,ha,hs⟩
   try dsimp only
   refine y2 (z1N (by lia) (by lia) ?_)
   try dsimp only
   refine Y4 (fun _=> ?_) fun _=> ?_
   ·refine Y4 (fun _=>y2 (z3s (Y5 ⟨m+1,0,_,rfl,rfl,by lia,by lia,z1e ha,V1.trans hs⟩))) fun _=>Y5 ⟨m+1,0,_,rfl,rfl,by lia,by lia,ha,hs⟩
   ·refine y2 (z1N (by lia) (by lia) ?_)
    try dsimp only
    exact Y4 (fun _=>Y3 ⟨m,z,_,rfl,rfl,m1,by lia,ha,hs⟩) fun _=>Y5 ⟨m+1,_,_,rfl,rfl,by lia,by lia,ha,hs⟩
  ·rintro b st ⟨m,z,q,rfl,rfl,m1,hm,ha,hs⟩
   exact⟨m,z,q,rfl,rfl,m1,by lia,ha,hs⟩
  rintro v st ⟨m,z,q,rfl,rfl,m1,m2,ha,hs⟩
  try dsimp only
  refine Y4 (fun _=>y2 (z3s ?_)) fun _=> ?_
  ·refine y2 (z3s ?_)
   exact z5F (fun _ _=>rfl) (fun _=>rfl) (V1.trans (V1.trans hs)) hl m1 m2 fun k k1 k2=>h k _ k1 k2 (z1e (z1e ha)) (V1.trans (V1.trans hs))
  ·refine y2 (z3s ?_)
   exact z5F (fun _ _=>rfl) (fun _=>rfl) (V1.trans hs) hl m1 m2 fun k k1 k2=>h k _ k1 k2 (z1e ha) (V1.trans hs)
end So
set_option linter.unusedVariables false
namespace So
open PySem PySem.W PyProof.Rows
variable{cmp:Nat->Nat->Bool}{α β:Type}{q:Array Nat}{p:Array (Nat×Nat×Nat)}{g:Nat}{T:Nat->Prop}{st:En->SortSt}
theorem zgP{lo n ok N:Nat}{P:(En->Bool)->(En->SortSt)->Prop}(ha:Al T q)(hs:q.size=N)(hl:lo+n<=N)(h: ∀q',Al T q'->q'.size=N->P (fun _=>true) (sst q' p g)):
 Det cmp (fun _=>binarySort' lo n ok) (sst q p g) P:=by
 refine y2 (J5 (P:=fun v st'=> ∃q:Array Nat,v=(fun _=>(none,()))/\st'=sst q p g/\Al T q/\q.size=N) (ze5 (I:=fun k v st'=> ∃q:Array Nat,v=(fun _=>(none,()))/\st'=sst q p g/\Al T q/\q.size=N) ⟨q,rfl,rfl,ha,hs⟩ ?_ fun _ _ _ h=>h) ?_)
 ·rintro k b st hk ⟨q,rfl,rfl,ha,hs⟩
  try dsimp only
  refine y2 (J5 (P:=fun v st'=> ∃l r:Nat,v=(fun _=>(none,l,r))/\st'=sst q p g) (z00 (I:=fun _ v st'=> ∃l r:Nat,v=(fun _=>(none,l,r))/\st'=sst q p g/\r<=k) ⟨0,k,rfl,rfl,c8 _⟩ ?_ ?_) ?_)
  ·rintro _ _ b st ⟨l,r,rfl,rfl,hr⟩
   try dsimp only
   refine Y4 (fun _=>Y3 ⟨l,r,rfl,rfl⟩) fun c=>y2 (z1N (by lia) (by lia) ?_)
   try dsimp only
   exact Y4 (fun _=>Y5 ⟨_,_,rfl,rfl,by lia⟩) fun _=>Y5 ⟨_,_,rfl,rfl,hr⟩
  ·rintro b st ⟨l,r,rfl,rfl,_⟩
   exact⟨l,r,rfl,rfl⟩
  ·rintro v st ⟨l,r,rfl,rfl⟩
   try dsimp only
   exact y2 (ze0 (Y5 ⟨_,rfl,rfl,ze3 ha,ze4.trans hs⟩))
 ·rintro v st ⟨q,rfl,rfl,ha,hs⟩
  exact J9 (h q ha hs)
noncomputable def Ch:Nat->List (Nat×Nat×Nat)->Nat->Prop
 |a,[],b=>a=b
 |a,r::l,b=>r.1=a/\1<=r.2.1/\Ch (a+r.2.1) l b
theorem ze6: ∀{l:List (Nat×Nat×Nat)} {a b:Nat},Ch a l b->a<=b
 |[],_,_,h=>N9 h
 |r::l,a,b,h=>B0 (R7 _ _) (ze6 h.2.2)
theorem z7v: ∀{l:List (Nat×Nat×Nat)} {a b n w:Nat},Ch a l b->1<=n->Ch a (l++[(b,n,w)]) (b+n)
 |[],a,b,n,w,h,hn=>by cases(show a=b from h);exact⟨rfl,hn,rfl⟩
 |r::l,a,b,n,w,h,hn=>⟨h.1,h.2.1,z7v h.2.2 hn⟩
theorem zaA: ∀{l:List (Nat×Nat×Nat)} {a b i:Nat} {x y:Nat×Nat×Nat},Ch a l b->l[i]? =some x->l[i+1]? =some y->y.1=x.1+x.2.1/\1<=x.2.1/\1<=y.2.1/\y.1+y.2.1<=b/\∀w,Ch a ((l.set i (x.1,x.2.1+y.2.1,w)).eraseIdx (i+1)) b
 |[],_,_,_,_,_,_,h,_=>by simp at h
 |[_],_,_,0,_,_,_,_,h=>by simp at h
 |[_],_,_,_+1,_,_,_,h,_=>by simp at h
 |u::v::l,a,b,0,x,y,hc,hx,hy=>by
  erw[List.getElem?_cons_zero,Option.some.injEq] at hx
  erw[E7,List.getElem?_cons_succ,List.getElem?_cons_zero,Option.some.injEq] at hy
  subst hx hy
  obtain⟨h1,h2,h3,h4,h5⟩:=hc
  refine⟨by lia,h2,h4,by have:=ze6 h5;lia,fun w=> ?_⟩
  erw[A6,E7,F5,N7]
  refine⟨h1,by show 1<=_+_;lia, ?_⟩
  show Ch (a+(u.2.1+v.2.1)) l b
  rw[<-L1];exact h5
 |u::v::l,a,b,i+1,x,y,hc,hx,hy=>by
  erw[List.getElem?_cons_succ] at hx hy
  obtain⟨q1,q2,q3,q4,q5⟩:=zaA hc.2.2 hx hy
  refine⟨q1,q2,q3,q4,fun w=> ?_⟩
  rw[C3,F5]
  exact⟨hc.1,hc.2.1,q5 w⟩
theorem z7w{f:Nat×Nat×Nat->Nat×Nat×Nat}(hf: ∀x,(f x).1=x.1/\(f x).2.1=x.2.1): ∀{l:List (Nat×Nat×Nat)} {a b:Nat} (i:Nat),Ch a l b->Ch a (l.modify i f) b
 |[],_,_,i,h=>by rw[List.modify_nil];exact h
 |r::l,a,b,0,h=>by
  rw[List.modify_zero_cons]
  exact⟨(hf r).1.trans h.1,by rw[(hf r).2];exact h.2.1,by rw[(hf r).2];exact h.2.2⟩
 |r::l,a,b,i+1,h=>by
  rw[List.modify_succ_cons]
  exact⟨h.1,h.2.1,z7w hf i h.2.2⟩
theorem z7x(sa:Nat)(e:En): ∀(m:List Nat) (j:Nat) (q:Array Nat),((m.map fun i=>im i e).zipIdx j).foldl (fun a x=>match x with|(p,j)=>a.setIfInBounds (sa+j) p) (ar q e)=ar ((m.zipIdx j).foldl (fun a x=>match x with|(p,j)=>a.setIfInBounds (sa+j) p) q) e
 |[],_,_=>rfl
 |i::m,j,q=>by
  rw[b7,E8,E8,L5,L5]
  have:(ar q e).setIfInBounds (sa+j) (im i e)=ar (q.setIfInBounds (sa+j) i) e:=by simp[ar,Array.map_setIfInBounds]
  dsimp only
  rw[this]
  exact z7x sa e m (j+1) _
theorem ze7{i x:Nat}(h:Al T q)(hx:T x):Al T (q.setIfInBounds i x):=fun k hk=>by
 rcases Array.mem_or_eq_of_mem_setIfInBounds hk with hk|rfl
 ·exact h k hk
 ·exact hx
theorem z7y(sa:Nat): ∀(m:List Nat) (j:Nat) (q:Array Nat),(∀i∈m,T i)->Al T q->Al T ((m.zipIdx j).foldl (fun a x=>match x with|(p,j)=>a.setIfInBounds (sa+j) p) q)/\((m.zipIdx j).foldl (fun a x=>match x with|(p,j)=>a.setIfInBounds (sa+j) p) q).size=q.size
 |[],_,_,_,h=>⟨h,rfl⟩
 |i::m,j,q,hm,h=>by
  rw[E8,L5]
  obtain⟨h1,h2⟩:=z7y sa m (j+1) (q.setIfInBounds (sa+j) i) (fun k hk=>hm k (b8 _ hk)) (ze7 h (hm i i3))
  exact⟨h1,h2.trans Array.size_setIfInBounds⟩
end So
namespace So
open PySem PySem.W PyProof.Rows
variable{cmp:Nat->Nat->Bool}{α β:Type}{q:Array Nat}{p:Array (Nat×Nat×Nat)}{g:Nat}{T:Nat->Prop}{st:En->SortSt}
theorem z1f{e:En}:pendingOf (sst q p g e)=p:=rfl
theorem zbL{i lo N:Nat}{P:(En->Bool)->(En->SortSt)->Prop}(ha:Al T q)(hs:q.size=N)(hc:Ch 0 p.toList lo)(hl:lo<=N)(hi:i+1<p.size)(h: ∀q' p' g',Al T q'->q'.size=N->Ch 0 p'.toList lo->P (fun _=>true) (sst q' p' g')):
 Det cmp (fun _=>mergeAt' i) (sst q p g) P:=by
 refine y2 (z2a ?_)
 obtain⟨x,hx⟩: ∃x,p[i]? =some x:=⟨p[i],Array.getElem?_eq_getElem (by lia)⟩
 obtain⟨y,hy⟩: ∃y,p[i+1]? =some y:=⟨p[i+1],Array.getElem?_eq_getElem hi⟩
 obtain⟨sa,na,pw⟩:=x
 obtain⟨sb,nb,pw'⟩:=y
 obtain⟨c1,c2,c3,c4,c5⟩:=zaA hc (by rw[Array.getElem?_toList];exact hx) (by rw[Array.getElem?_toList];exact hy)
 dsimp only at c1 c2 c3 c4 c5
 have hp':Ch 0 ((p.setIfInBounds i (sa,na+nb,pw)).eraseIdxIfInBounds (i+1)).toList lo:=by
  have e:((p.setIfInBounds i (sa,na+nb,pw)).eraseIdxIfInBounds (i+1)).toList=(p.toList.set i (sa,na+nb,pw)).eraseIdx (i+1):=by simp
  rw[e];exact c5 pw
 have e1: ∀e,(pendingOf (sst q p g e))[i]? =some (sa,na,pw):=fun _=>hx
 have e2: ∀e,(pendingOf (sst q p g e))[i+1]? =some (sb,nb,pw'):=fun _=>hy
 erw[e1,e2]
 refine y2 (zgL (a:=sst q ((p.setIfInBounds i (sa,na+nb,pw)).eraseIdxIfInBounds (i+1)) g) ?_)
 generalize (p.setIfInBounds i (sa,na+nb,pw)).eraseIdxIfInBounds (i+1)=p' at hp'⊢
 refine y2 (j7 (q:=q) (by lia) ?_)
 refine y2 (z0G (r:=q) (by lia) (by lia) fun k hk=> ?_)
 try dsimp only
 refine Y4 (fun _=>J9 (h _ _ _ ha hs hp')) fun c6=> ?_
 erw[beq_iff_eq] at c6
 refine y2 (j7 (q:=q) (by lia) ?_)
 refine y2 (z0G (r:=q) (by lia) (by lia) fun k2 hk2=> ?_)
 try dsimp only
 refine Y4 (fun _=>J9 (h _ _ _ ha hs hp')) fun c7=> ?_
 erw[beq_iff_eq] at c7
 have sx:(q.extract (sa+k) sb).size=na -k:=by rw[Array.size_extract];lia
 have sy:(q.extract sb (sb+k2)).size=k2:=by rw[Array.size_extract];lia
 have ex: ∀e,(arrOf (sst q p g e)).extract (sa+k) sb=ar (q.extract (sa+k) sb) e:=fun e=>U5
 have ey: ∀e,(arrOf (sst q p g e)).extract sb (sb+k2)=ar (q.extract sb (sb+k2)) e:=fun e=>U5
 erw[ex,ey]
 have fin: ∀(mq:Array Nat) (g':Nat),Al T mq->∀(f:En->SortSt->SortSt),(∀e,f e (sst q p' g' e)=SortSt.mk' e.1 ((ar mq e).toList.zipIdx.foldl (fun a x=>match x with|(p,j)=>a.setIfInBounds (sa+k+j) p) (ar q e)) p' g' none)->Det cmp (fun e=>(modify (f e):StateT SortSt Sem PUnit)>>=fun _=>get>>=fun s=>pure (failedOf s).isNone) (sst q p' g') P:=by
  intro mq g' hm f hf
  obtain⟨h1,h2⟩:=z7y (T:=T) (sa+k) mq.toList 0 q (fun i hi=>hm i (by simpa using hi)) ha
  refine y2 (K9 ?_)
  have e3:(fun e=>f e (sst q p' g' e))=sst ((mq.toList.zipIdx 0).foldl (fun a x=>match x with|(p,j)=>a.setIfInBounds (sa+k+j) p) q) p' g':=by
   funext e
   rw[hf]
   unfold sst
   have:(ar mq e).toList=mq.toList.map fun i=>im i e:=by simp[ar]
   rw[this,z7x]
  rw[e3]
  exact y2 (z2a (J9 (h _ _ _ h1 (h2.trans hs) hp')))
 refine Y4 (fun _=> ?_) fun _=> ?_
 ·refine y2 (zgM (T:=T) (w8 ha) (w8 ha) (by lia) (by lia) fun mq g' hm=> ?_)
  exact fin mq g' hm _ fun e=>rfl
 ·refine y2 (zgN (T:=T) (w8 ha) (w8 ha) (by lia) (by lia) fun mq g' hm=> ?_)
  exact fin mq g' hm _ fun e=>rfl
end So
namespace So
open PySem PySem.W PyProof.Rows
variable{cmp:Nat->Nat->Bool}{α β:Type}{q:Array Nat}{p:Array (Nat×Nat×Nat)}{g:Nat}{T:Nat->Prop}{st:En->SortSt}
theorem ze8{c:Prop}{i:Decidable c}{n:Nat}(h:2<=n): @ite Nat c i (n - 2 - 1) (n - 2)+1<n:=by
 by_cases hc:c
 ·rw[if_pos hc];lia
 ·rw[if_neg hc];lia
theorem ze9{i:En->Nat}{lo N:Nat}{P:(En->Bool)->(En->SortSt)->Prop}(hE: ∀e e',i e=i e')(ha:Al T q)(hs:q.size=N)(hc:Ch 0 p.toList lo)(hl:lo<=N)(hi: ∀e,i e+1<p.size)(h: ∀q' p' g',Al T q'->q'.size=N->Ch 0 p'.toList lo->P (fun _=>true) (sst q' p' g')):
 Det cmp (fun e=>mergeAt' (i e)) (sst q p g) P:=by
 have e0:i=fun _=>i (general', #[]):=funext fun e=>hE e _
 rw[e0]
 exact zbL ha hs hc hl (hi _) h
theorem zea{N:Nat}{P:(En->Unit)->(En->SortSt)->Prop}(ha:Al T q)(hs:q.size=N)(h: ∀q' p' g',Al T q'->q'.size=N->P (fun _=>()) (sst q' p' g')):
 Det cmp (fun _=>sortRuns') (sst q #[] g) P:=by
 refine y2 (z2a ?_)
 have e0: ∀e,(arrOf (sst q #[] g e)).size=N:=fun e=>z1v.trans hs
 erw[e0]
 refine y2 (J5 (P:=fun v st'=> ∃(lo:Nat) (q:Array Nat) (p:Array (Nat×Nat×Nat)) (g:Nat),v=(fun _=>(none,lo))/\st'=sst q p g/\Al T q/\q.size=N/\Ch 0 p.toList lo/\lo<=N) (z00 (I:=fun _ v st'=> ∃(lo:Nat) (q:Array Nat) (p:Array (Nat×Nat×Nat)) (g:Nat),v=(fun _=>(none,lo))/\st'=sst q p g/\Al T q/\q.size=N/\Ch 0 p.toList lo/\lo<=N) ⟨0,q, #[],g,rfl,rfl,ha,hs,rfl,C4 _⟩ ?_ fun _ _ h=>h) ?_)
 ·rintro _ _ b st ⟨lo,q,p,g,rfl,rfl,ha,hs,hc,hl⟩
  try dsimp only
  refine Y4 (fun _=>Y3 ⟨lo,q,p,g,rfl,rfl,ha,hs,hc,hl⟩) fun c1=> ?_
  refine y2 (zgO (T:=T) (n:=N) ha hs (by lia) (by lia) fun k q k1 k2 ha hs=> ?_)
  try dsimp only
  have tail: ∀(n:Nat) (q:Array Nat) (p:Array (Nat×Nat×Nat)) (g:Nat),1<=n->lo+n<=N->Al T q->q.size=N->Ch 0 p.toList lo->∀(f:SortSt->SortSt),(∀e,f (sst q p g e)=SortSt.mk' e.1 (ar q e) (p.push (lo,n,0)) g none)->Det cmp (fun _=>(modify f:StateT SortSt Sem PUnit)>>=fun _=>pure (ForInStep.yield ((none,lo+n):Option Unit×Nat))) (sst q p g) fun v st'=>(∃c,v=(fun e=> .done (c e))/\∃(lo:Nat) (q:Array Nat) (p:Array (Nat×Nat×Nat)) (g:Nat),c=(fun _=>(none,lo))/\st'=sst q p g/\Al T q/\q.size=N/\Ch 0 p.toList lo/\lo<=N)\/∃c,v=(fun e=> .yield (c e))/\∃(lo:Nat) (q:Array Nat) (p:Array (Nat×Nat×Nat)) (g:Nat),c=(fun _=>(none,lo))/\st'=sst q p g/\Al T q/\q.size=N/\Ch 0 p.toList lo/\lo<=N:=by
   intro n q p g n1 n2 ha hs hc f hf
   refine y2 (K9 ?_)
   erw[hf]
   exact Y5 ⟨lo+n,q,p.push (lo,n,0),g,rfl,rfl,ha,hs,by rw[Array.toList_push];exact z7v hc n1,n2⟩
  refine Y4 (fun c2=> ?_) fun c2=> ?_
  ·refine y2 (z2b ?_)
   refine y2 (zgP (T:=T) (N:=N) ha hs (by lia) fun q ha hs=> ?_)
   try dsimp only
   refine Y4 (fun c=>by cases c) fun _=> ?_
   refine y2 (z2a ?_)
   try dsimp only
   erw[z1f]
   cases hb:p.back? with
   |none=>exact tail _ q p g (by lia) (by lia) ha hs hc _ fun e=>rfl
   |some x=>
    obtain⟨s1,n1,w⟩:=x
    try dsimp only
    refine y2 (J5 (P:=fun v st'=> ∃(q:Array Nat) (p:Array (Nat×Nat×Nat)) (g:Nat),v=(fun _=>(none,()))/\st'=sst q p g/\Al T q/\q.size=N/\Ch 0 p.toList lo) (z00 (I:=fun _ v st'=> ∃(q:Array Nat) (p:Array (Nat×Nat×Nat)) (g:Nat),v=(fun _=>(none,()))/\st'=sst q p g/\Al T q/\q.size=N/\Ch 0 p.toList lo) ⟨q,p,g,rfl,rfl,ha,hs,hc⟩ ?_ fun _ _ h=>h) ?_)
    ·rintro _ _ b st ⟨q,p,g,rfl,rfl,ha,hs,hc⟩
     refine y2 (z2a ?_)
     try dsimp only
     erw[z1f]
     by_cases hp:p.size>1
     ·have hp':(p.size>1)=True:=eq_true hp
      erw[hp',if_true]
      obtain⟨x,hx⟩: ∃x,p[p.size - 2]? =some x:=⟨p[p.size - 2],Array.getElem?_eq_getElem (by lia)⟩
      obtain⟨s1,n1,w⟩:=x
      erw[hx]
      refine Y4 (fun _=>Y3 ⟨q,p,g,rfl,rfl,ha,hs,hc⟩) fun _=> ?_
      refine y2 (zbL (T:=T) (N:=N) ha hs hc hl (by lia) fun q p g ha hs hc=> ?_)
      try dsimp only
      exact Y4 (fun c=>by cases c) fun _=>Y5 ⟨q,p,g,rfl,rfl,ha,hs,hc⟩
     ·have hp':(p.size>1)=False:=eq_false hp
      erw[hp',if_false]
      exact Y3 ⟨q,p,g,rfl,rfl,ha,hs,hc⟩
    ·rintro v st ⟨q,p,g,rfl,rfl,ha,hs,hc⟩
     try dsimp only
     refine y2 (K9 ?_)
     exact tail _ q (p.modify (p.size - 1) fun x=>(x.1,x.2.1,_)) g (by lia) (by lia) ha hs (by rw[Array.toList_modify];refine z7w ?_ _ hc;exact fun x=>⟨rfl,rfl⟩) _ fun e=>rfl
  ·refine y2 (z2a ?_)
   try dsimp only
   erw[z1f]
   cases hb:p.back? with
   |none=>exact tail _ q p g (by lia) (by lia) ha hs hc _ fun e=>rfl
   |some x=>
    obtain⟨s1,n1,w⟩:=x
    try dsimp only
    refine y2 (J5 (P:=fun v st'=> ∃(q:Array Nat) (p:Array (Nat×Nat×Nat)) (g:Nat),v=(fun _=>(none,()))/\st'=sst q p g/\Al T q/\q.size=N/\Ch 0 p.toList lo) (z00 (I:=fun _ v st'=> ∃(q:Array Nat) (p:Array (Nat×Nat×Nat)) (g:Nat),v=(fun _=>(none,()))/\st'=sst q p g/\Al T q/\q.size=N/\Ch 0 p.toList lo) ⟨q,p,g,rfl,rfl,ha,hs,hc⟩ ?_ fun _ _ h=>h) ?_)
    ·rintro _ _ b st ⟨q,p,g,rfl,rfl,ha,hs,hc⟩
     refine y2 (z2a ?_)
     try dsimp only
     erw[z1f]
     by_cases hp:p.size>1
     ·have hp':(p.size>1)=True:=eq_true hp
      erw[hp',if_true]
      obtain⟨x,hx⟩: ∃x,p[p.size - 2]? =some x:=⟨p[p.size - 2],Array.getElem?_eq_getElem (by lia)⟩
      obtain⟨s1,n1,w⟩:=x
      erw[hx]
      refine Y4 (fun _=>Y3 ⟨q,p,g,rfl,rfl,ha,hs,hc⟩) fun _=> ?_
      refine y2 (zbL (T:=T) (N:=N) ha hs hc hl (by lia) fun q p g ha hs hc=> ?_)
      try dsimp only
      exact Y4 (fun c=>by cases c) fun _=>Y5 ⟨q,p,g,rfl,rfl,ha,hs,hc⟩
     ·have hp':(p.size>1)=False:=eq_false hp
      erw[hp',if_false]
      exact Y3 ⟨q,p,g,rfl,rfl,ha,hs,hc⟩
    ·rintro v st ⟨q,p,g,rfl,rfl,ha,hs,hc⟩
     try dsimp only
     refine y2 (K9 ?_)
     exact tail _ q (p.modify (p.size - 1) fun x=>(x.1,x.2.1,_)) g (by lia) (by lia) ha hs (by rw[Array.toList_modify];refine z7w ?_ _ hc;exact fun x=>⟨rfl,rfl⟩) _ fun e=>rfl
 ·rintro v st ⟨lo,q,p,g,rfl,rfl,ha,hs,hc,hl⟩
  try dsimp only
  refine y2 (J5 (P:=fun v st'=> ∃(q:Array Nat) (p:Array (Nat×Nat×Nat)) (g:Nat),v=(fun _=>(none,()))/\st'=sst q p g/\Al T q/\q.size=N/\Ch 0 p.toList lo) (z00 (I:=fun _ v st'=> ∃(q:Array Nat) (p:Array (Nat×Nat×Nat)) (g:Nat),v=(fun _=>(none,()))/\st'=sst q p g/\Al T q/\q.size=N/\Ch 0 p.toList lo) ⟨q,p,g,rfl,rfl,ha,hs,hc⟩ ?_ fun _ _ h=>h) ?_)
  ·rintro _ _ b st ⟨q,p,g,rfl,rfl,ha,hs,hc⟩
   refine y2 (z2a ?_)
   try dsimp only
   erw[z1f]
   refine Y4 (fun _=>Y3 ⟨q,p,g,rfl,rfl,ha,hs,hc⟩) fun c1=> ?_
   refine y2 (ze9 (T:=T) (N:=N) (fun _ _=>rfl) ha hs hc hl (fun e=> ?_) fun q p g ha hs hc=> ?_)
   ·exact ze8 (by lia)
   try dsimp only
   exact Y4 (fun c=>by cases c) fun _=>Y5 ⟨q,p,g,rfl,rfl,ha,hs,hc⟩
  ·rintro v st ⟨q,p,g,rfl,rfl,ha,hs,hc⟩
   exact J9 (h q p g ha hs)
end So
namespace So
open PySem PySem.W PyProof.Rows PySem.SeqAt
open AutoSeq1 (wpAny_loadPart')
noncomputable def zaB(A:Around)(s:Shared)(y x:Value)(b:Bool):Prop:=
 ∀(prog:Program) (w:World) (E:Value->Shared->Prop) (Q:Value->Shared->Prop),Q (.bool b) s->wpAny (model prog w) A (richCompare .Lt y x) Q E s
noncomputable def z4V(A:Around)(s:Shared):List Value->List Value->Bool->Prop
 |v::vs,u::us,r=> ∃e,EqAt A s v u e/\if e=true then z4V A s vs us r else zaB A s v u r
 |[],us,r=>r=decide (0<us.length)
 |_::_,[],r=>r=false
theorem zbM{A:Around}{s:Shared}: ∀{vs us:List Value} {r:Bool},vs.zip us=[]->z4V A s vs us r->r=decide (vs.length<us.length)
 |[],us,r,_,h=>h
 |v::vs,[],r,_,h=>by rw[show r=false from h];simp
theorem z6t(l b:Addr)(items items2:Array Value)(n n2:Nat)(dd dd2:Option Addr)(sl sl2:Array (Option Value))(r:Bool):
 Meets (Builtin.«tuple.__lt__» ⟨[.ref l, .ref b],[]⟩)
  (fun A R s=>s.heap.get? l=some {cls:= .type "tuple",dict:=dd,data:= .seq items n,slots:=sl}/\s.heap.get? b=some {cls:= .type "tuple",dict:=dd2,data:= .seq items2 n2,slots:=sl2}/\
   z4V A.in1 s items.toList items2.toList r/\R (.ok (.ret (.bool r))) s):=
 .of_wp fun prog w A R s h=>by
  obtain⟨hp,g,d,tk,os⟩:=s;obtain⟨hl,hb,he,h⟩:=h
  have f2:=AutoSeq1.sub_tuple_tuple
  wp_walk using wpAny_loadPart' hl,wpAny_loadPart' hb,wpAny_forIn_list _ (fun rest b s'=>b.1=none/\s'=⟨hp,g,d,tk,os⟩/\∃vs us,rest=vs.zip us/\z4V A.in1 ⟨hp,g,d,tk,os⟩ vs us r/\(vs.length<us.length↔items.size<items2.size)) _
  case turn=>
   rintro ⟨y,x⟩ rest b s' ⟨hb',rfl,vs,us,hz,hR,hs⟩
   match vs,us,hz,hR with
   |v::vs,u::us,hz,hR=>
    rw[F4] at hz
    injection hz with h1 h2
    injection h1 with h3 h4
    subst h2 h3 h4
    obtain⟨e,q1,q2⟩:=hR
    refine wpAny_bind (q1 prog w _ _ ?_)
    cases e with
    |true=>
     wp_walk
     exact⟨rfl,rfl,vs,us,rfl,q2,by simpa using hs⟩
    |false=>
     erw[s0,if_false] at q2
     erw[S6,if_true]
     refine wpAny_bind (wpAny_rule (wpAny_bind (q2 prog w _ _ ?_)))
     exact wpAny_bind (wpAny_pure (wpAny_pure (wpAny_pure ⟨_,rfl,h⟩)))
   |[],_,hz,_=>simp at hz
   |_::_,[],hz,_=>simp at hz
  case fin=>
   rintro ⟨b1,b2⟩ s' ⟨hb',rfl,vs,us,hz,hR,hs⟩
   simp only at hb'
   subst hb'
   have:=zbM hz.symm hR
   wp_walk
   refine⟨_,rfl, ?_⟩
   have e:r=decide (items.size<items2.size):=by rw[this];exact decide_eq_decide.mpr hs
   rw[e] at h
   exact h
  case h=>
   exact⟨rfl,rfl,_,_,rfl,he,by simp⟩
theorem zaB.int{A:Around}{s:Shared}(a b:Int)(t u:Tok):zaB A s (.int a t) (.int b u) (decide (a<b)):=fun prog w E Q h=>wpAny_lt_int h
theorem zaB.tuples{A:Around}{s:Shared}{l b:Addr}{items items2:Array Value}{r:Bool}(hl:s.heap.IsTuple l items)(hb:s.heap.IsTuple b items2)(hu:A.units<cLine)(he:z4V A.in1 s items.toList items2.toList r):zaB A s (.ref l) (.ref b) r:=fun prog w E Q h=>by
 obtain⟨⟨cls,dd,data,sl⟩,ho,hc,n,hd⟩:=id hl
 obtain⟨⟨cls2,dd2,data2,sl2⟩,ho2,hc2,n2,hd2⟩:=id hb
 simp only at hc hd hc2 hd2
 subst hc hd hc2 hd2
 exact richCompare_meets_room (op:= .Lt) ⟨_,ho,rfl⟩ ⟨_,ho2,rfl⟩ F.slot_tuple_lt F.entry_tuple_lt (F.args_tuple_lt_2 _ _) (z6t l b items items2 n n2 dd dd2 sl sl2 r)
  ⟨ho,ho2,he,show Value.bool r≠Value.notImplemented/\Q (.bool r) s from⟨(fun x=>nomatch x),h⟩⟩ hu
mutual
noncomputable def ltD:PyData->PyData->Option Bool
 | .int a, .int b=>some (decide (a<b))
 | .tuple xs, .tuple ys=>ltL xs ys
 |_,_=>none
noncomputable def ltL:List PyData->List PyData->Option Bool
 |x::xs,y::ys=>if PyData.eqv x y=true then ltL xs ys else ltD x y
 |[],ys=>some (decide (0<ys.length))
 |_::_,[]=>some false
end
end So
namespace So
open PySem PySem.W PyProof.Rows PySem.SeqAt
mutual
theorem z9F: ∀(da db:PyData) (A:Around) (s:Shared) (a b:Value) (as bs:List Addr) (r:Bool),Reads s.heap a da as->Reads s.heap b db bs->da.canLay0=true->db.canLay0=true->A.units+min da.depth db.depth<cLine->ltD da db=some r->zaB A s a b r
 | .int x,_,A,s,_,_,_,_,r,ra,rb,_,_,_,h=>by
  cases ra with
  |int _ t=>
   cases rb with
   |int y u=>
    erw[ltD,Option.some.injEq] at h
    subst h
    exact zaB.int _ _ _ _
   |_=>simp[ltD] at h
 | .tuple xs,_,A,s,_,_,_,_,r,ra,rb,ha,hb,hu,h=>by
  cases ra with
  | @tuple l o vs n _ as₁ h1 h2 h3 h4=>
   cases rb with
   | @tuple l' o' vs' n' ys as' k1 k2 k3 k4=>
    have ha:PyData.canLayAll0 xs=true:=by simpa[PyData.canLay0] using ha
    have hb:PyData.canLayAll0 ys=true:=by simpa[PyData.canLay0] using hb
    erw[ltD] at h
    exact zaB.tuples ⟨_,h1,h2,_,h3⟩ ⟨_,k1,k2,_,k3⟩ (room_here hu) (lex_reads xs ys A.in1 s _ _ _ _ r h4 k4 ha hb (room_in hu) h)
   |_=>simp[ltD] at h
 | .none,_,A,s,_,_,_,_,r,ra,rb,ha,hb,hu,h=>by simp[ltD] at h
 | .bool _,_,A,s,_,_,_,_,r,ra,rb,ha,hb,hu,h=>by simp[ltD] at h
 | .str _,_,A,s,_,_,_,_,r,ra,rb,ha,hb,hu,h=>by simp[ltD] at h
 | .list _,_,A,s,_,_,_,_,r,ra,rb,ha,hb,hu,h=>by simp[ltD] at h
 | .dict _,_,A,s,_,_,_,_,r,ra,rb,ha,hb,hu,h=>by simp[ltD] at h
theorem lex_reads: ∀(xs ys:List PyData) (A:Around) (s:Shared) (vs ws:List Value) (as bs:List Addr) (r:Bool),ReadsAll s.heap vs xs as->ReadsAll s.heap ws ys bs->PyData.canLayAll0 xs=true->PyData.canLayAll0 ys=true->
 A.units+min (PyData.depthAll xs) (PyData.depthAll ys)<cLine->ltL xs ys=some r->z4V A s vs ws r
 |[],ys,A,s,vs,ws,_,_,r,ra,rb,_,_,_,h=>by
  cases ra
  erw[ltL,Option.some.injEq] at h
  subst h
  show _=decide (0<ws.length)
  have e: ∀{ws:List Value} {ys:List PyData} {bs:List Addr},ReadsAll s.heap ws ys bs->ws.length=ys.length:=fun{ws}=>by
   induction ws with
   |nil=>intro ys bs q;cases q;rfl
   |cons v vs ih=>intro ys bs q;cases q with|cons q1 q2=>rw[i9,i9,ih q2]
  rw[e rb]
 |_::_,[],A,s,vs,ws,_,_,r,ra,rb,_,_,_,h=>by
  cases rb
  cases ra
  erw[ltL,Option.some.injEq] at h
  exact h.symm
 |x::xs,y::ys,A,s,_,_,_,_,r,ra,rb,ha,hb,hu,h=>by
  have ha':x.canLay0=true/\PyData.canLayAll0 xs=true:=by simpa[PyData.canLayAll0] using ha
  have hb':y.canLay0=true/\PyData.canLayAll0 ys=true:=by simpa[PyData.canLayAll0] using hb
  cases ra with
  |cons r1 rs=>
  cases rb with
  |cons r1' rs'=>
   refine⟨PyData.eqv x y,eqAt_reads x y A s _ _ _ _ r1 r1' ha'.1 hb'.1 (room_head hu), ?_⟩
   rw[ltL] at h
   split
   ·rename_i e
    rw[if_pos e] at h
    exact lex_reads xs ys A s _ _ _ _ r rs rs' ha'.2 hb'.2 (room_tail hu) h
   ·rename_i e
    rw[if_neg e] at h
    exact z9F x y A s _ _ _ _ r r1 r1' ha'.1 hb'.1 (room_head hu) h
end
end So
namespace So
open PySem PySem.W PyProof.Rows
variable{cmp:Nat->Nat->Bool}{n:Nat}{α β:Type}
noncomputable def ev(cmp:Nat->Nat->Bool):KasT α->α
 | .ret a=>a
 | .ask i j k=>ev cmp (k (cmp i j))
noncomputable def KW(cmp:Nat->Nat->Bool)(n:Nat):KasT α->(α->Prop)->Prop
 | .ret a,P=>P a
 | .ask i j k,P=>i<n/\j<n/\KW cmp n (k (cmp i j)) P
theorem KW.ev{P:α->Prop}: ∀{t:KasT α},KW cmp n t P->P (So.ev cmp t)
 | .ret _,h=>h
 | .ask i j k,h=>KW.ev (t:=k (cmp i j)) h.2.2
theorem KW.bind{f:α->KasT β}{P:β->Prop}: ∀{t:KasT α},KW cmp n t (fun a=>KW cmp n (f a) P)->KW cmp n (t.bind f) P
 | .ret _,h=>h
 | .ask i j k,h=>⟨h.1,h.2.1,KW.bind (t:=k (cmp i j)) h.2.2⟩
theorem KW.mono{P P':α->Prop}(hp: ∀a,P a->P' a): ∀{t:KasT α},KW cmp n t P->KW cmp n t P'
 | .ret _,h=>hp _ h
 | .ask i j k,h=>⟨h.1,h.2.1,KW.mono hp (t:=k (cmp i j)) h.2.2⟩
noncomputable def Pm(n:Nat)(p:Array Nat):Prop:=p.Perm (A5 n).toArray
theorem Pm.size{p:Array Nat}(h:Pm n p):p.size=n:=by have:=h.size_eq;simpa using this
theorem Pm.lt{p:Array Nat}(h:Pm n p){i:Nat}(hi:i<n):p.getD i 0<n:=by
 have hs:=h.size
 have hi':i<p.size:=by lia
 have e:p.getD i 0=p[i]:=by simp[Array.getD,hi']
 rw[e]
 have:=(h.mem_iff (a:=p[i])).mp (Array.getElem_mem hi')
 simpa using this
theorem Pm.rev{p:Array Nat}(h:Pm n p)(i j:Nat):Pm n (kas_rev p i j):=(mirror_perm _ _ _ _).trans h
theorem Pm.bub{p:Array Nat}(h:Pm n p)(i j:Nat):Pm n (bubble p i j):=(bubble_perm _ _ _).trans h
theorem gd{p:Array Nat}{i:Nat}:p.getD i 0=(p[i]?).getD 0:=by simp[Array.getD_eq_getD_getElem?]
theorem z49{p:Array Nat}{i j k:Nat}(hj:j<=p.size):(kas_rev p i j).getD k 0=if i<=k/\k<j then p.getD (i+j - 1 -k) 0 else p.getD k 0:=by
 rw[gd,kas_rev,getElem?_mirror_all hj]
 split<;>exact gd.symm
theorem zgQ{p:Array Nat}{s d k:Nat}(hs:s<p.size)(hd:d<=s):(bubble p s d).getD k 0=if k=s -d then p.getD s 0 else if s -d<k/\k<=s then p.getD (k - 1) 0 else p.getD k 0:=by
 rw[gd,getElem?_bubble hs d hd]
 by_cases h1:k=s -d
 ·rw[if_pos h1,if_pos h1,gd]
 ·rw[if_neg h1,if_neg h1]
  split<;>exact gd.symm
structure Od(cmp:Nat->Nat->Bool)(n:Nat):Prop where
 a: ∀i j,i<n->j<n->cmp i j=true->cmp j i=false
 t: ∀i j k,i<n->j<n->k<n->cmp i j=false->cmp j k=false->cmp i k=false
theorem Od.r(h:Od cmp n){i:Nat}(hi:i<n):cmp i i=false:=by
 cases e:cmp i i with
 |false=>rfl
 |true=>rw[<-e];exact h.a i i hi hi e
noncomputable def Srt(cmp:Nat->Nat->Bool)(p:Array Nat)(m:Nat):Prop:= ∀i j,i<=j->j<m->cmp (p.getD j 0) (p.getD i 0)=false
noncomputable def Dsc(cmp:Nat->Nat->Bool)(p:Array Nat)(m:Nat):Prop:= ∀i j,i<=j->j<m->cmp (p.getD i 0) (p.getD j 0)=false
noncomputable def Eqt(cmp:Nat->Nat->Bool)(p:Array Nat)(m q:Nat):Prop:= ∀i,m -(q+1)<=i->i<m->cmp (p.getD i 0) (p.getD (m - 1) 0)=false/\cmp (p.getD (m - 1) 0) (p.getD i 0)=false
theorem Srt.up{p:Array Nat}{m:Nat}(o:Od cmp n)(hp:Pm n p)(h:Srt cmp p m)(h1:1<=m)(hm:m<n)(e:cmp (p.getD m 0) (p.getD (m - 1) 0)=false):Srt cmp p (m+1):=by
 intro i j hij hj
 by_cases hjm:j<m
 ·exact h i j hij hjm
 ·obtain rfl:j=m:=by lia
  by_cases hi:i=j
  ·subst hi;exact o.r (hp.lt hm)
  ·exact o.t _ _ _ (hp.lt hm) (hp.lt (show j - 1<n by lia)) (hp.lt (show i<n by lia)) e (h i (j - 1) (by lia) (by lia))
theorem zbN{p:Array Nat}(hp:Pm n p): ∀(f m:Nat),1<=m->m+f<=n->KW cmp n (kas_asc p f m) fun r=>m<=r/\r<=m+f/\(Od cmp n->Srt cmp p m->Srt cmp p r)/\(r<m+f->cmp (p.getD r 0) (p.getD (r - 1) 0)=true)
 |0,m,_,_=>⟨c8 _,c8 _,fun _ h=>h,fun h=>absurd h (by lia)⟩
 |f+1,m,h1,h2=>by
  refine⟨hp.lt (by lia),hp.lt (by lia), ?_⟩
  cases e:cmp (p.getD m 0) (p.getD (m - 1) 0) with
  |true=>exact⟨c8 _,by lia,fun _ h=>h,fun _=>e⟩
  |false=>
   refine KW.mono (fun r hr=> ?_) (zbN hp f (m+1) (by lia) (by lia))
   obtain⟨a,b,c,d⟩:=hr
   exact⟨by lia,by lia,fun o h=>c o (h.up o hp h1 (by lia) e),fun h=>d (by lia)⟩
theorem Dsc.eqrev{p:Array Nat}{m q:Nat}(o:Od cmp n)(hp:Pm n p)(h:Dsc cmp p m)(he:Eqt cmp p m q)(hq:q+1<=m)(hm:m<=n):Dsc cmp (kas_rev p (m -(q+1)) m) m/\∀i,i<m->cmp ((kas_rev p (m -(q+1)) m).getD i 0) (p.getD (m - 1) 0)=false:=by
 have hz:m<=p.size:=by rw[hp.size];exact hm
 have le: ∀i,i<m->p.getD i 0<n:=fun i hi=>hp.lt (by lia)
 refine⟨fun i j hij hj=> ?_,fun i hi=> ?_⟩
 ·rw[z49 hz,z49 hz]
  by_cases hi:m -(q+1)<=i/\i<m
  ·rw[if_pos hi,if_pos (by lia)]
   exact o.t _ _ _ (le _ (by lia)) (le (m - 1) (by lia)) (le _ (by lia)) (he _ (by lia) (by lia)).1 (he _ (by lia) (by lia)).2
  ·rw[if_neg hi]
   split
   ·exact h _ _ (by lia) (by lia)
   ·exact h _ _ hij hj
 ·rw[z49 hz]
  split
  ·exact(he _ (by lia) (by lia)).1
  ·exact h _ _ (by lia) (by lia)
theorem z5G: ∀(f:Nat) (p:Array Nat) (m q:Nat),Pm n p->q+1<=m->m+f<=n->(Od cmp n->Dsc cmp p m/\Eqt cmp p m q)->
 KW cmp n (kas_desc f p m q) fun r=>Pm n r.1/\m<=r.2.1/\r.2.1<=m+f/\r.2.2+1<=r.2.1/\(Od cmp n->Dsc cmp r.1 r.2.1/\Eqt cmp r.1 r.2.1 r.2.2)
 |0,p,m,q,hp,hq,hm,h=>⟨hp,c8 _,c8 _,hq,h⟩
 |f+1,p,m,q,hp,hq,hm,h=>by
  have hz:m<=p.size:=by rw[hp.size];lia
  refine⟨hp.lt (by lia),hp.lt (by lia), ?_⟩
  have e1: ∀(p':Array Nat),Od cmp n->(Eqt cmp p' (m+1) 0↔cmp (p'.getD m 0) (p'.getD m 0)=false):=fun p' o=>by
   constructor
   ·intro z;exact(z m (by lia) (by lia)).1
   ·intro z i hi hi'
    obtain rfl:i=m:=by lia
    exact⟨z,z⟩
  cases e:cmp (p.getD m 0) (p.getD (m - 1) 0) with
  |true=>
   erw[if_true]
   by_cases h0:q>0
   ·erw[if_pos h0]
    refine KW.mono (fun r hr=>⟨hr.1,by lia,by lia,hr.2.2.2⟩) (z5G f (kas_rev p (m -(q+1)) m) (m+1) 0 (hp.rev _ _) (by lia) (by lia) fun o=> ?_)
    obtain⟨d,t⟩:=h o
    obtain⟨d',u⟩:=d.eqrev o hp t hq (by lia)
    have gm:(kas_rev p (m -(q+1)) m).getD m 0=p.getD m 0:=by rw[z49 hz,if_neg (by lia)]
    have lt: ∀i,i<n->(kas_rev p (m -(q+1)) m).getD i 0<n:=fun i hi=>(hp.rev _ _).lt hi
    refine⟨fun i j hij hj=> ?_,(e1 _ o).mpr (o.r (lt m (by lia)))⟩
    by_cases hjm:j<m
    ·exact d' i j hij hjm
    ·obtain rfl:j=m:=by lia
     by_cases hi:i=j
     ·subst hi;exact o.r (lt _ (by lia))
     ·rw[gm]
      exact o.t _ _ _ (lt _ (by lia)) (hp.lt (show j - 1<n by lia)) (hp.lt (by lia)) (u i (by lia)) (o.a _ _ (hp.lt (by lia)) (hp.lt (by lia)) e)
   ·erw[if_neg h0]
    refine KW.mono (fun r hr=>⟨hr.1,by lia,by lia,hr.2.2.2⟩) (z5G f p (m+1) 0 hp (by lia) (by lia) fun o=> ?_)
    obtain⟨d,t⟩:=h o
    refine⟨fun i j hij hj=> ?_,(e1 _ o).mpr (o.r (hp.lt (by lia)))⟩
    by_cases hjm:j<m
    ·exact d i j hij hjm
    ·obtain rfl:j=m:=by lia
     by_cases hi:i=j
     ·subst hi;exact o.r (hp.lt (by lia))
     ·exact o.t _ _ _ (hp.lt (by lia)) (hp.lt (show j - 1<n by lia)) (hp.lt (by lia)) (d i (j - 1) (by lia) (by lia)) (o.a _ _ (hp.lt (by lia)) (hp.lt (by lia)) e)
  |false=>
   erw[s0,if_false]
   refine⟨hp.lt (by lia),hp.lt (by lia), ?_⟩
   cases e':cmp (p.getD (m - 1) 0) (p.getD m 0) with
   |true=>exact⟨hp,c8 _,R7 _ _,hq,h⟩
   |false=>
    erw[s0,if_false]
    refine KW.mono (fun r hr=>⟨hr.1,by lia,by lia,hr.2.2.2⟩) (z5G f p (m+1) (q+1) hp (by lia) (by lia) fun o=> ?_)
    obtain⟨d,t⟩:=h o
    refine⟨fun i j hij hj=> ?_,fun i hi hi'=> ?_⟩
    ·by_cases hjm:j<m
     ·exact d i j hij hjm
     ·obtain rfl:j=m:=by lia
      by_cases hi:i=j
      ·subst hi;exact o.r (hp.lt (by lia))
      ·exact o.t _ _ _ (hp.lt (by lia)) (hp.lt (show j - 1<n by lia)) (hp.lt (by lia)) (d i (j - 1) (by lia) (by lia)) e'
    ·rw[Nat.add_sub_cancel]
     by_cases him:i=m
     ·subst him;exact⟨o.r (hp.lt (by lia)),o.r (hp.lt (by lia))⟩
     ·obtain⟨t1,t2⟩:=t i (by lia) (by lia)
      exact⟨o.t _ _ _ (hp.lt (by lia)) (hp.lt (show m - 1<n by lia)) (hp.lt (by lia)) t1 e',o.t _ _ _ (hp.lt (by lia)) (hp.lt (show m - 1<n by lia)) (hp.lt (by lia)) e t2⟩
noncomputable def Cnt(cmp:Nat->Nat->Bool)(n:Nat)(r:Nat×Array Nat):Prop:=Pm n r.2/\1<=r.1/\r.1<=n/\(Od cmp n->Srt cmp r.2 r.1)
theorem zaC{p:Array Nat}{m:Nat}(hp:Pm n p)(h1:1<=m)(hm:m<=n)(h:Od cmp n->Dsc cmp p m):KW cmp n (kas_tail3 m n p) (Cnt cmp n):=by
 have hz:m<=p.size:=by rw[hp.size];exact hm
 refine KW.bind (KW.mono (fun r hr=> ?_) (zbN (hp.rev 0 m) (n -m) m h1 (by lia)))
 obtain⟨a,b,c,_⟩:=hr
 refine⟨hp.rev _ _,by show 1<=r;lia,by show r<=n;lia,fun o=>c o fun i j hij hj=> ?_⟩
 rw[z49 hz,z49 hz,if_pos (by lia),if_pos (by lia)]
 exact h o _ _ (by lia) (by lia)
theorem z7z{p:Array Nat}{m:Nat}(hp:Pm n p)(h1:1<=m)(hm:m+1<=n)(h:Od cmp n->Dsc cmp p (m+1)):KW cmp n (kas_descPart m n p) (Cnt cmp n):=by
 refine KW.bind (KW.mono (fun r hr=> ?_) (z5G (n -(m+1)) p (m+1) 0 hp (by lia) (by lia) fun o=>⟨h o,fun i hi hi'=> ?_⟩))
 ·obtain⟨a,b,c,d,e⟩:=hr
  split
  ·exact zaC (a.rev _ _) (by lia) (by lia) fun o=>((e o).1.eqrev o a (e o).2 d (by lia)).1
  ·exact zaC a (by lia) (by lia) fun o=>(e o).1
 ·obtain rfl:i=m:=by lia
  exact⟨h o i i (c8 _) (by lia),h o i i (c8 _) (by lia)⟩
theorem zbO{p:Array Nat}(hp:Pm n p)(h1:1<=n):KW cmp n (kas_count n p) (Cnt cmp n):=by
 refine KW.bind (KW.mono (fun r hr=> ?_) (zbN hp (n - 1) 1 (c8 _) (by lia)))
 obtain⟨a,b,c,d⟩:=hr
 have s1:Od cmp n->Srt cmp p r:=fun o=>c o fun i j hij hj=>by
  obtain rfl:j=0:=by lia
  obtain rfl:i=0:=by lia
  exact o.r (hp.lt (by lia))
 have hz:r<=p.size:=by rw[hp.size];lia
 by_cases hn:r=n
 ·rw[if_pos (by simpa using hn)]
  exact⟨hp,a,by lia,s1⟩
 ·rw[if_neg (by simpa using hn)]
  have hd:cmp (p.getD r 0) (p.getD (r - 1) 0)=true:=d (by lia)
  by_cases h2:r>1
  ·rw[if_pos h2]
   refine⟨hp.lt (by lia),hp.lt (by lia), ?_⟩
   cases e:cmp (p.getD 0 0) (p.getD (r - 1) 0) with
   |true=>exact⟨hp,a,by lia,s1⟩
   |false=>
    refine z7z (hp.rev _ _) a (by lia) fun o i j hij hj=> ?_
    have s:=s1 o
    have all: ∀i j,i<r->j<r->cmp (p.getD i 0) (p.getD j 0)=false:=fun i j hi hj=>by
     have q1:cmp (p.getD i 0) (p.getD 0 0)=false:=s 0 i (C4 _) hi
     have q2:cmp (p.getD (r - 1) 0) (p.getD j 0)=false:=s j (r - 1) (by lia) (by lia)
     exact o.t _ _ _ (hp.lt (by lia)) (hp.lt (show 0<n by lia)) (hp.lt (by lia)) q1 (o.t _ _ _ (hp.lt (by lia)) (hp.lt (show r - 1<n by lia)) (hp.lt (by lia)) e q2)
    have al: ∀i,i<r->(kas_rev p 0 r).getD i 0=p.getD (r - 1 -i) 0:=fun i hi=>by rw[z49 hz,if_pos (by lia)];congr 1;lia
    by_cases hjr:j<r
    ·rw[al i (by lia),al j hjr];exact all _ _ (by lia) (by lia)
    ·obtain rfl:j=r:=by lia
     have er:(kas_rev p 0 j).getD j 0=p.getD j 0:=by rw[z49 hz,if_neg (by lia)]
     by_cases hi:i=j
     ·subst hi;exact o.r ((hp.rev _ _).lt (by lia))
     ·rw[al i (by lia),er]
      exact o.t _ _ _ (hp.lt (by lia)) (hp.lt (show j - 1<n by lia)) (hp.lt (by lia)) (all _ _ (by lia) (by lia)) (o.a _ _ (hp.lt (by lia)) (hp.lt (by lia)) hd)
  ·rw[if_neg h2]
   refine z7z hp a (by lia) fun o i j hij hj=> ?_
   obtain rfl:r=1:=by lia
   by_cases hi:i=j
   ·subst hi;exact o.r (hp.lt (by lia))
   ·obtain rfl:i=0:=by lia
    obtain rfl:j=1:=by lia
    exact o.a _ _ (hp.lt (by lia)) (hp.lt (by lia)) hd
theorem z4W{p:Array Nat}{k:Nat}(hp:Pm n p)(hk:k<n): ∀(f l r:Nat),r -l<=f->l<=r->r<=k->KW cmp n (kas_place p k f l r) fun x=>l<=x/\x<=r/\(Od cmp n->Srt cmp p k->
 (∀i,i<l->cmp (p.getD k 0) (p.getD i 0)=false)->(∀i,r<=i->i<k->cmp (p.getD i 0) (p.getD k 0)=false)->(∀i,i<x->cmp (p.getD k 0) (p.getD i 0)=false)/\∀i,x<=i->i<k->cmp (p.getD i 0) (p.getD k 0)=false)
 |0,l,r,hf,hlr,hrk=>⟨c8 _,hlr,fun _ _ h1 h2=>⟨h1,fun i hi hi'=>h2 i (by lia) hi'⟩⟩
 |f+1,l,r,hf,hlr,hrk=>by
  unfold kas_place
  by_cases h:l≥r
  ·rw[if_pos h]
   exact⟨c8 _,hlr,fun _ _ h1 h2=>⟨h1,fun i hi hi'=>h2 i (by lia) hi'⟩⟩
  ·rw[if_neg h]
   refine⟨hp.lt hk,hp.lt (by lia), ?_⟩
   cases e:cmp (p.getD k 0) (p.getD ((l+r)/2) 0) with
   |true=>
    erw[if_true]
    refine KW.mono (fun x hx=> ?_) (z4W hp hk f l ((l+r)/2) (by lia) (by lia) (by lia))
    obtain⟨a,b,c⟩:=hx
    refine⟨a,by lia,fun o s h1 h2=>c o s h1 fun i hi hi'=> ?_⟩
    exact o.t _ _ _ (hp.lt (by lia)) (hp.lt (show(l+r)/2<n by lia)) (hp.lt hk) (s _ _ hi hi') (o.a _ _ (hp.lt hk) (hp.lt (by lia)) e)
   |false=>
    erw[s0,if_false]
    refine KW.mono (fun x hx=> ?_) (z4W hp hk f ((l+r)/2+1) r (by lia) (by lia) hrk)
    obtain⟨a,b,c⟩:=hx
    refine⟨by lia,b,fun o s h1 h2=>c o s (fun i hi=> ?_) h2⟩
    exact o.t _ _ _ (hp.lt hk) (hp.lt (show(l+r)/2<n by lia)) (hp.lt (by lia)) e (s _ _ (by lia) (by lia))
theorem zeb: ∀(f:Nat) (p:Array Nat) (k:Nat),Pm n p->k+f<=n->(Od cmp n->Srt cmp p k)->KW cmp n (kas_bin f p k) fun q=>Pm n q/\(Od cmp n->Srt cmp q (k+f))
 |0,p,k,hp,_,h=>⟨hp,h⟩
 |f+1,p,k,hp,hk,h=>by
  have hz:k<p.size:=by rw[hp.size];lia
  refine KW.bind (KW.mono (fun x hx=> ?_) (z4W hp (by lia) k 0 k (by lia) (C4 _) (c8 _)))
  obtain⟨_,b,c⟩:=hx
  refine KW.mono (fun q hq=>⟨hq.1,fun o=>by have:=hq.2 o;rw[show k+(f+1)=k+1+f by lia];exact this⟩) (zeb f (bubble p k (k -x)) (k+1) (hp.bub _ _) (by lia) fun o=> ?_)
  have s:=h o
  obtain⟨c1,c2⟩:=c o s (fun i hi=>absurd hi (by lia)) fun i hi hi'=>absurd hi' (by lia)
  have g: ∀i,(bubble p k (k -x)).getD i 0=if i=x then p.getD k 0 else if x<i/\i<=k then p.getD (i - 1) 0 else p.getD i 0:=fun i=>by
   rw[zgQ hz (by lia),show k -(k -x)=x by lia]
  intro i j hij hj
  by_cases hi:i=j
  ·subst hi;exact o.r ((hp.bub _ _).lt (by lia))
  ·rw[g,g]
   by_cases hjx:j=x
   ·rw[if_pos hjx,if_neg (by lia),if_neg (by lia)]
    exact c1 i (by lia)
   ·rw[if_neg hjx]
    by_cases hjk:x<j/\j<=k
    ·rw[if_pos hjk]
     by_cases hix:i=x
     ·rw[if_pos hix];exact c2 _ (by lia) (by lia)
     ·rw[if_neg hix]
      split
      ·exact s _ _ (by lia) (by lia)
      ·exact s _ _ (by lia) (by lia)
    ·rw[if_neg hjk]
     rw[if_neg (by lia),if_neg (by lia)]
     exact s _ _ hij (by lia)
theorem z7A(h:1<=n):KW cmp n (kas_sort n) fun q=>Pm n q/\(Od cmp n->Srt cmp q n):=by
 refine KW.bind (KW.mono (fun r hr=> ?_) (zbO (Array.Perm.refl _) h))
 obtain⟨a,b,c,d⟩:=hr
 by_cases hl:r.1<n
 ·rw[if_pos hl]
  have e:max r.1 1=r.1:=by lia
  rw[e]
  refine KW.mono (fun q hq=>⟨hq.1,fun o=>by have:=hq.2 o;rw[show r.1+(n -r.1)=n by lia] at this;exact this⟩) (zeb (n -r.1) r.2 r.1 a (by lia) d)
 ·rw[if_neg hl]
  obtain e:r.1=n:=by lia
  rw[e] at d
  exact⟨a,d⟩
end So
namespace So
open PySem PySem.W PyProof.Rows PySem.SeqAt
theorem zec{α:Type}{prog:Program}{w:World}{A:Around}{κ:SortKind}{it:Array Keyed}{cmp:Nat->Nat->Bool}{n:Nat}{G:Shared->Prop}{P:α->Prop}(hc: ∀i j C s,i<n->j<n->G s->(∀s',G s'->C (cmp i j) s')->kas_cmp prog w A κ it i j C s): ∀{t:KasT α} {s:Shared},KW cmp n t P->G s->t.kasWp (kas_cmp prog w A κ it) (fun a s'=>a=ev cmp t/\G s') s
 | .ret _,_,_,hs=>⟨rfl,hs⟩
 | .ask i j k,s,hw,hs=>hc i j _ s hw.1 hw.2.1 hs fun s' h'=>zec hc (t:=k (cmp i j)) hw.2.2 h'
theorem zed{q:Array Nat}{e:En}(h: ∀i∈q,i<e.2.size):q.map (kas_item e.2)=ar q e:=by
 unfold ar im
 apply Array.ext_getElem?
 intro i
 rw[Array.getElem?_map,Array.getElem?_map]
 by_cases hi:i<q.size
 ·rw[Array.getElem?_eq_getElem hi]
  erw[r6]
  rw[B2 (h _ (Array.getElem_mem hi))]
 ·rw[Array.getElem?_eq_none (by lia)];rfl
theorem z0s(n:Nat)(cmp:Nat->Nat->Bool): ∃q:Array Nat,(q.size=n/\Al (· <n) q/\(2<=n->n<64->q=ev cmp (kas_sort n)))/\∀(prog:Program) (w:World) (A:Around) (E:Value->Shared->Prop) (e:En) (G:Shared->Prop) (Q:Unit->SortSt->Shared->Prop) (s:Shared),e.2.size=n->Cmp prog w A cmp G e->G s->(∀st' s',arrOf st'=ar q e->failedOf st'=none->G s'->Q () st' s')->kasC (model prog w) A E sortRuns' Q (sst (A5 n).toArray #[] 7 e) s:=by
 by_cases h:2<=n/\n<64
 ·have hw:=z7A (cmp:=cmp) (n:=n) (by lia)
  have hp:=hw.ev.1
  refine⟨ev cmp (kas_sort n),⟨hp.size,fun i hi=> ?_,fun _ _=>rfl⟩,fun prog w A E e G Q s he hc hs hQ=> ?_⟩
  ·have:=(hp.mem_iff (a:=i)).mp hi
   simpa using this
  ·have e0:sst (A5 n).toArray #[] 7 e=kas_st e.1 e.2 (A5 n).toArray:=by
    unfold sst kas_st
    rw[zed fun i hi=>by rw[he];simpa using hi]
   rw[e0]
   refine kas_runs h.1 h.2 (G:=fun p' s'=>p'=ev cmp (kas_sort n)/\G s') (fun p' st' s' h1 h2 h3 h4=> ?_) (zec (n:=n) (fun i j C s hi hj hg hC=> ?_) hw hs)
   ·obtain⟨rfl,h4⟩:=h4
    refine hQ st' s' ?_ h3 h4
    rw[h2,zed fun i hi=> ?_]
    have:=(hp.mem_iff (a:=i)).mp hi
    rw[he];simpa using this
   ·have:=hc i j C s hg hC
    rw[he,B2 hi,B2 hj] at this
    exact this
 ·obtain⟨v,st',⟨q,p,g,rfl,h1,h2⟩,hr⟩:=zea (cmp:=cmp) (T:=(· <n)) (q:=(A5 n).toArray) (g:=7) (N:=n) (P:=fun _ st'=> ∃q p g,st'=sst q p g/\q.size=n/\Al (· <n) q) (fun i hi=>by simpa using hi) (by simp) fun q' p' g' a b=>⟨q',p',g',rfl,b,a⟩
  exact⟨q,⟨h1,h2,fun a b=>absurd ⟨a,b⟩ h⟩,fun prog w A E e G Q s _ hc hs hQ=>hr prog w A E e G Q s hc hs fun s' hg=>hQ _ s' rfl rfl hg⟩
open Classical in
noncomputable def perm(n:Nat)(cmp:Nat->Nat->Bool):List Nat:=if n<2 then A5 n else(z0s n fun i j=>cmp (i %n) (j %n)).choose.toList
theorem perm_len{n:Nat}{cmp:Nat->Nat->Bool}:(perm n cmp).length=n:=by
 unfold perm
 split
 ·simp
 ·rw[Array.length_toList];exact(z0s n fun i j=>cmp (i %n) (j %n)).choose_spec.1.1
theorem perm_lt{n:Nat}{cmp:Nat->Nat->Bool}: ∀i∈perm n cmp,i<n:=by
 unfold perm
 split
 ·intro i hi;simpa using hi
 ·intro i hi;exact(z0s n fun i j=>cmp (i %n) (j %n)).choose_spec.1.2.1 i (by simpa using hi)
theorem zbP{vs:List Value}:(vs.toArray.zip vs.toArray).map (·.2)=vs.toArray:=by
 apply Array.ext_getElem?
 intro i
 by_cases hi:i<vs.length<;>simp[hi]
theorem z6u{vs:List Value}:(A5 vs.length).map (fun i=>vs.getD i Value.none)=vs:=by
 apply List.ext_getElem?
 intro i
 by_cases hi:i<vs.length<;>simp[hi]
section
variable{prog:Program}{w:World}{A:Around}{E:Value->Shared->Prop}{s:Shared}
theorem z3v{a:Addr}{vs:List Value}{n:Nat}{cmp:Nat->Nat->Bool}{P:PySem.Fin->Shared->Prop}(ho:s.heap.get? a=some (seqObj "list" vs.toArray n))(hz:vs.length<=sizeLine)
 (hk: ∀h',(∀b o,b≠a->s.heap.get? b=some o->h'.get? b=some o)->2<=vs.length->∃κ,(∀(Q:SortKind->Shared->Prop) E,Q κ {s with heap:=h'}->wpAny (model prog w) A (keyKind' vs.toArray) Q E {s with heap:=h'})/\
  ∀i j (hi:i<vs.length) (hj:j<vs.length) (C:Bool->Shared->Prop),C (cmp i j) {s with heap:=h'}->wpAny (model prog w) A (keyLt' κ vs[i] vs[j]) C (fun _ _=>False) {s with heap:=h'})
 (h: ∀h' e1,(∀b o,b≠a->s.heap.get? b=some o->h'.get? b=some o)->h'.get? a=some (seqObj "list" ((perm vs.length cmp).map fun i=>vs.getD i Value.none).toArray e1)->P (.done (.ret .none)) {s with heap:=h'}):
 wpAny (model prog w) A (Builtin.«list.sort» ⟨[.ref a],[]⟩) P E s:=by
 have ha:a<s.heap.objs.size:=Heap.lt_size ho
 obtain⟨e1,ho1⟩: ∃e1,(s.heap.update a (Obj.mapSeq fun _=>(#[]:Array Value))).get? a=some (seqObj "list" #[] e1):=⟨_,get?_update_seq ho fun _=> #[]⟩
 have ho3:(((s.heap.update a (Obj.mapSeq fun _=>(#[]:Array Value))).push (seqObj "tuple" vs.toArray 0)).push (seqObj "list" #[] 0)).get? a=some (seqObj "list" #[] e1):=Heap.get?_push_of_some _ (Heap.get?_push_of_some _ ho1)
 have kept: ∀b o,b≠a->s.heap.get? b=some o->(((s.heap.update a (Obj.mapSeq fun _=>(#[]:Array Value))).push (seqObj "tuple" vs.toArray 0)).push (seqObj "list" #[] 0)).get? b=some o:=fun b o hb q=>
  Heap.get?_push_of_some _ (Heap.get?_push_of_some _ ((Heap.get?_update_ne _ _ _ _ hb).trans q))
 rw[list_sort_plain]
 refine wpAny_bind (listItems_at ho rfl ?_)
 refine wpAny_bind (listUpdate_at ho rfl ?_ (by rw[i8];exact hz) (C4 _))
 refine wpAny_bind (seqEpoch_at ho1 rfl ?_)
 refine wpAny_bind (wpAny_newTuple ?_ (by show vs.length<=_;exact hz))
 refine wpAny_bind (wpAny_newList ?_ (C4 _))
 refine wpAny_holding ?_
 show wpAny (model prog w) A _ P E {s with heap:=((s.heap.update a (Obj.mapSeq fun _=>(#[]:Array Value))).push (seqObj "tuple" vs.toArray 0)).push (seqObj "list" #[] 0)}
 dsimp only
 generalize ((s.heap.update a (Obj.mapSeq fun _=>(#[]:Array Value))).push (seqObj "tuple" vs.toArray 0)).push (seqObj "list" #[] 0)=h1 at ho3 kept⊢
 have fin: ∀st':SortSt,(arrOf st').map (·.2)=((perm vs.length cmp).map fun i=>vs.getD i Value.none).toArray->failedOf st'=none->wpAny (model prog w) A (do
  let touched<-seqEpoch a
  Builtin.List.listUpdate (.ref a) fun _=>(arrOf st').map (·.2)
  if let some e:=failedOf st' then rule "list.sort.comparison-raised";throw e
  if(touched !=e1)=true then rule "list.sort.modified";raiseError "ValueError" "list modified during sort"
  ret .none) P E {s with heap:=h1}:=by
  intro st' har hf
  refine wpAny_bind (seqEpoch_at ho3 rfl ?_)
  rw[har]
  have hsz:((perm vs.length cmp).map fun i=>vs.getD i Value.none).toArray.size=vs.length:=by rw[i8,n9,perm_len]
  refine wpAny_bind (listUpdate_at ho3 rfl ?_ (C4 _) (B0 (N9 hsz) (by lia)))
  rw[hf]
  erw[bne_self_eq_false,s0,if_false]
  obtain⟨c2,hc2⟩: ∃c2,(h1.update a (Obj.mapSeq fun _=>((perm vs.length cmp).map fun i=>vs.getD i Value.none).toArray)).get? a=some (seqObj "list" ((perm vs.length cmp).map fun i=>vs.getD i Value.none).toArray c2):=⟨_,get?_update_seq ho3 fun _=>_⟩
  exact wpAny_pure (h _ c2 (fun b o hb q=>(Heap.get?_update_ne _ _ _ _ hb).trans (kept b o hb q)) hc2)
 by_cases h2:vs.length<2
 ·have h2':vs.toArray.size<2:=by simpa using h2
  rw[if_pos h2',if_pos h2']
  refine wpAny_bind (wpAny_pure ?_)
  rw[StateT.run_pure]
  refine wpAny_bind (wpAny_pure ?_)
  refine fin _ ?_ rfl
  show(vs.toArray.zip vs.toArray).map (·.2)=_
  unfold perm
  rw[if_pos h2,zbP,z6u]
 ·have h2': ¬vs.toArray.size<2:=by simpa using h2
  rw[if_neg h2',if_neg h2']
  obtain⟨κ,k1,k2⟩:=hk h1 kept (by lia)
  refine wpAny_bind (k1 _ _ ?_)
  have sz:(vs.toArray.zip vs.toArray).size=vs.length:=by simp
  have im_eq: ∀i,i<vs.length->im i (κ,vs.toArray.zip vs.toArray)=(vs.getD i Value.none,vs.getD i Value.none):=fun i hi=>by
   unfold im
   rw[sz,B2 hi,kat_item rfl]
  have est:SortSt.mk' κ (vs.toArray.zip vs.toArray) #[] 7 none=sst (A5 vs.length).toArray #[] 7 (κ,vs.toArray.zip vs.toArray):=by
   unfold sst ar
   have e:(A5 vs.length).toArray.map (fun i=>im i (κ,vs.toArray.zip vs.toArray))=vs.toArray.zip vs.toArray:=by
    apply Array.ext_getElem?
    intro i
    by_cases hi:i<vs.length
    ·rw[Array.getElem?_map]
     have:=im_eq i hi
     erw[List.getElem?_toArray,List.getElem?_range hi,r6,this]
     simp[hi]
    ·simp[hi]
   rw[e]
  have run:=(z0s vs.length fun i j=>cmp (i %vs.length) (j %vs.length)).choose_spec.2
  have hpe:perm vs.length cmp=(z0s vs.length fun i j=>cmp (i %vs.length) (j %vs.length)).choose.toList:=by unfold perm;rw[if_neg h2]
  have hlt:=(z0s vs.length fun i j=>cmp (i %vs.length) (j %vs.length)).choose_spec.1.2.1
  generalize (z0s vs.length fun i j=>cmp (i %vs.length) (j %vs.length)).choose=q at run hpe hlt
  rw[est]
  have go:=run prog w A E (κ,vs.toArray.zip vs.toArray) (fun s'=>s'={s with heap:=h1}) (fun _ st' s'=>arrOf st'=ar q (κ,vs.toArray.zip vs.toArray)/\failedOf st'=none/\s'={s with heap:=h1}) {s with heap:=h1} sz (fun i j C s' hs hc=>by
   subst hs
   have l1:i %vs.length<vs.length:=Nat.mod_lt _ (by lia)
   have l2:j %vs.length<vs.length:=Nat.mod_lt _ (by lia)
   have hq:=k2 (i %vs.length) (j %vs.length) l1 l2 C (hc _ rfl)
   unfold kas_cmp
   erw[sz,kat_item rfl]
   rw[show vs.getD (i %vs.length) Value.none=vs[i %vs.length] by simp[l1],show vs.getD (j %vs.length) Value.none=vs[j %vs.length] by simp[l2]]
   exact hq) rfl fun st' s' ha hf hs=>⟨ha,hf,hs⟩
  refine wpAny_bind (wpAny_mono go ?_ fun _ _ e=>e)
  rintro ⟨⟨⟩,st'⟩ s' ⟨hst,hfa,hs⟩
  dsimp only at hst hfa⊢
  subst hs
  refine fin _ ?_ hfa
  rw[hpe,hst]
  apply Array.toList_inj.mp
  show((ar q (κ,vs.toArray.zip vs.toArray)).map (·.2)).toList=_
  unfold ar
  rw[Array.map_map,Array.toList_map]
  exact C7 fun i hi=>by show(im i (κ,vs.toArray.zip vs.toArray)).2=_;rw[im_eq i (hlt i (by simpa using hi))]
theorem call_sorted{l:Addr}{vs:List Value}{cmp:Nat->Nat->Bool}{Q:Value->Shared->Prop}(hl:s.heap.IsList l vs.toArray)(hz:vs.length<=sizeLine)
 (hk: ∀h',(∀b o,s.heap.get? b=some o->h'.get? b=some o)->2<=vs.length->∃κ,(∀(Q:SortKind->Shared->Prop) E,Q κ {s with heap:=h'}->wpAny (model prog w) A.in1.in1 (keyKind' vs.toArray) Q E {s with heap:=h'})/\
  ∀i j (hi:i<vs.length) (hj:j<vs.length) (C:Bool->Shared->Prop),C (cmp i j) {s with heap:=h'}->wpAny (model prog w) A.in1.in1 (keyLt' κ vs[i] vs[j]) C (fun _ _=>False) {s with heap:=h'})
 (h: ∀h' D e1,(∀b o,s.heap.get? b=some o->h'.get? b=some o)->s.heap.objs.size<=D->h'.get? D=some (seqObj "list" ((perm vs.length cmp).map fun i=>vs.getD i Value.none).toArray e1)->Q (.ref D) {s with heap:=h'}):
 wpAny (model prog w) A (call (.builtin "sorted") [.ref l]) Q E s:=by
 refine Calls.call_function_entry kind_sorted plain_sorted entry_sorted (args_sorted1 _) ?_
 unfold Builtin.«sorted»
 refine wpAny_bind (m:=checkCount "sorted" 1 1 _) (wpAny_pure ?_)
 refine wpAny_bind (collect_list hl ?_ hz)
 refine wpAny_bind (wpAny_newList ?_ hz)
 have hsz:((s.heap.push (seqObj "list" #[] 0)).update s.heap.objs.size (Obj.mapSeq (· ++vs.toArray))).objs.size=s.heap.objs.size+1:=by
  rw[Heap.size_update,size_push']
 have hoL:(((s.heap.push (seqObj "list" #[] 0)).update s.heap.objs.size (Obj.mapSeq (· ++vs.toArray))).push (seqObj "list" vs.toArray 0)).get? (s.heap.objs.size+1)=some (seqObj "list" vs.toArray 0):=by
  rw[<-hsz];exact Heap.get?_push_size _ rfl
 have keep: ∀b o,s.heap.get? b=some o->(((s.heap.push (seqObj "list" #[] 0)).update s.heap.objs.size (Obj.mapSeq (· ++vs.toArray))).push (seqObj "list" vs.toArray 0)).get? b=some o:=fun b o q=>by
  have hlt:b<s.heap.objs.size:=Heap.lt_size q
  rw[Heap.get?_push_ne _ _ _ (by rw[hsz];exact l9 (C6 hlt)),Heap.get?_update_ne _ _ _ _ (l9 hlt),Heap.get?_push_ne _ _ _ (l9 hlt)]
  exact q
 show wpAny _ _ _ _ _ {s with heap:=((s.heap.push (seqObj "list" #[] 0)).update s.heap.objs.size (Obj.mapSeq (· ++vs.toArray))).push (seqObj "list" vs.toArray 0)}
 rw[hsz]
 have ne: ∀{b o},s.heap.get? b=some o->b≠s.heap.objs.size+1:=fun q=>l9 (C6 (Heap.lt_size q))
 refine wpAny_bind (wpAny_holding (wpAny_call_entry slot_list_sort ⟨_,hoL,rfl⟩ entry_list_sort ?body (args_list_sort _)))
 case body=>
  refine z3v (s:={s with heap:=((s.heap.push (seqObj "list" #[] 0)).update s.heap.objs.size (Obj.mapSeq (· ++vs.toArray))).push (seqObj "list" vs.toArray 0)}) (cmp:=cmp) hoL hz (fun h' kp h2=> ?_) fun h' e1 kp hD=> ?_
  ·exact hk h' (fun b o q=>kp b o (ne q) (keep b o q)) h2
  ·exact⟨_,rfl,wpAny_pure ⟨_,rfl,h h' _ e1 (fun b o q=>kp b o (ne q) (keep b o q)) (Nat.le_succ _) hD⟩⟩
end
end So
namespace L2
open PySem PySem.Spec PyProof.Rows
mutual
noncomputable def Dp(K:W.Frag)(H:Hp):PyData->V->Prop
 | .none,v=>v= .non
 | .bool b,v=>v= .bl b
 | .int i,v=>v= .int i
 | .str x,v=>v= .str x
 | .list ds,v=> ∃a xs,v= .ref a/\SqL K H a xs/\DpAll K H ds xs
 | .tuple ds,v=> ∃a xs,v= .ref a/\SqT K H a xs/\DpAll K H ds xs
 | .dict _,_=>False
noncomputable def DpAll(K:W.Frag)(H:Hp):List PyData->List V->Prop
 |[],xs=>xs=[]
 |d::ds,xs=> ∃x r,xs=x::r/\Dp K H d x/\DpAll K H ds r
end
section
variable{X:Cx}{pins:List (Addr×Obj)}{σ:St}{H:Hp}{s:Shared}
mutual
theorem Dp.reads(I:Inv X pins σ H s): ∀(d:PyData) (v:V) (u:Value),Dp X.K H d v->RelV v u->∃as,Reads s.heap u d as
 | .none,v,u,h,r=>by
  erw[Dp] at h;subst h;cases r;exact⟨_, .none⟩
 | .bool b,v,u,h,r=>by
  erw[Dp] at h;subst h;cases r;exact⟨_, .bool b⟩
 | .int i,v,u,h,r=>by
  erw[Dp] at h;subst h;obtain⟨t,rfl⟩:=r;exact⟨_, .int i t⟩
 | .str x,v,u,h,r=>by
  erw[Dp] at h;subst h;obtain⟨t,rfl⟩:=r;exact⟨_, .str x t⟩
 | .list ds,v,u,h,r=>by
  erw[Dp] at h
  obtain⟨a,xs,rfl,hs,hd⟩:=h
  cases r
  obtain⟨its,rv,⟨o,n,e,c,_,dd⟩,_⟩:=I.list hs
  obtain⟨as,ra⟩:=DpAll.reads I ds xs its hd rv
  exact⟨_, .list e c dd (by simpa using ra)⟩
 | .tuple ds,v,u,h,r=>by
  erw[Dp] at h
  obtain⟨a,xs,rfl,hs,hd⟩:=h
  cases r
  obtain⟨its,rv,⟨o,e,c,n,dd⟩,_⟩:=I.tuple hs
  obtain⟨as,ra⟩:=DpAll.reads I ds xs its hd rv
  exact⟨_, .tuple e c dd (by simpa using ra)⟩
 | .dict _,v,u,h,r=>by
  erw[Dp] at h
theorem DpAll.reads(I:Inv X pins σ H s): ∀(ds:List PyData) (vs:List V) (us:List Value),DpAll X.K H ds vs->Q9 vs us->∃as,ReadsAll s.heap us ds as
 |[],vs,us,h,r=>by
  erw[DpAll] at h;subst h
  cases r
  exact⟨_, .nil⟩
 |d::ds,vs,us,h,r=>by
  erw[DpAll] at h
  obtain⟨x,q,rfl,h1,h2⟩:=h
  cases r with
  |cons r1 r2=>
   obtain⟨as,ra⟩:=Dp.reads I d _ _ h1 r1
   obtain⟨bs,rb⟩:=DpAll.reads I ds _ _ h2 r2
   exact⟨_, .cons ra rb⟩
end
noncomputable def zgd(K:W.Frag)(neg:Bool):R2:=fun x y H Q=> ∃d e,Dp K H d x/\Dp K H e y/\d.canLay0=true/\e.canLay0=true/\min d.depth e.depth<=60/\
 Q (.bl (if neg then !PyData.eqv d e else PyData.eqv d e)) H
theorem zee(hu:X.A.units+64<cLine):OpR X (compareOp .Eq) (zgd X.K false):=by
 intro pins s σ H x y v u Q I rx ry h
 obtain⟨d,e,hx,hy,c1,c2,hd,q⟩:=h
 obtain⟨as,ra⟩:=hx.reads I _ _ _ rx
 obtain⟨bs,rb⟩:=hy.reads I _ _ _ ry
 exact SeqAt.compareEq_reads ra rb c1 c2 (by lia) ⟨.bl _,H,I,rfl,q⟩
theorem zef(hu:X.A.units+64<cLine):OpR X (compareOp .NotEq) (zgd X.K true):=by
 intro pins s σ H x y v u Q I rx ry h
 obtain⟨d,e,hx,hy,c1,c2,hd,q⟩:=h
 obtain⟨as,ra⟩:=hx.reads I _ _ _ rx
 obtain⟨bs,rb⟩:=hy.reads I _ _ _ ry
 exact SeqAt.compareNe_reads ra rb c1 c2 (by lia) ⟨.bl _,H,I,rfl,q⟩
noncomputable def zij(K:W.Frag)(H:Hp)(T:String)(r:Bool):V->Prop
 | .non=>r=false
 | .bl _=>r=(T== "int" ||T== "bool")
 | .int _=>r=(T== "int")
 | .str _=>r=(T== "str")
 | .ref a=>(∃xs,SqT K H a xs/\r=(T== "tuple"))\/(∃xs,SqL K H a xs/\r=(T== "list"))
 |_=>False
noncomputable def ziL(K:W.Frag):List V->Hp->VK->Prop:=fun xs H Q=> ∃x T r,xs=[x, .ty T]/\(T= "int" \/T= "bool" \/T= "tuple" \/T= "list" \/T= "str")/\zij K H T r x/\Q (.bl r) H
theorem z9G:CallR X (.builtin "isinstance") (ziL X.K):=by
 intro pins s σ H xs us Q I r h
 obtain⟨x,T,b,rfl,hT,hx,q⟩:=h
 obtain⟨u,u',rfl,ru,ru'⟩:=zbp r
 cases ru'
 have fin: ∀t,EP X pins σ Q (.bool b) {s with toks:=t}:=fun t=>⟨.bl b,H,I.tok t,rfl,q⟩
 have fin0:EP X pins σ Q (.bool b) s:=⟨.bl b,H,I,rfl,q⟩
 cases x with
 |non=>
  cases ru
  have hx:b=false:=hx
  subst hx
  rcases hT with rfl|rfl|rfl|rfl|rfl
  ·exact IsiPair.NoneType_int (fin _)
  ·exact IsiPair.NoneType_bool (fin _)
  ·exact IsiPair.NoneType_tuple (fin _)
  ·exact IsiPair.NoneType_list (fin _)
  ·exact IsiPair.NoneType_str (fin _)
 |bl k=>
  cases ru
  rcases hT with rfl|rfl|rfl|rfl|rfl
  ·have hx:b=true:=hx
   subst hx;exact IsiPair.bool_int fin0
  ·have hx:b=true:=hx
   subst hx;exact IsiPair.bool_bool fin0
  ·have hx:b=false:=hx
   subst hx;exact IsiPair.bool_tuple (fin _)
  ·have hx:b=false:=hx
   subst hx;exact IsiPair.bool_list (fin _)
  ·have hx:b=false:=hx
   subst hx;exact IsiPair.bool_str (fin _)
 |int k=>
  obtain⟨t,rfl⟩:=ru
  rcases hT with rfl|rfl|rfl|rfl|rfl
  ·have hx:b=true:=hx
   subst hx;exact IsiPair.int_int fin0
  ·have hx:b=false:=hx
   subst hx;exact IsiPair.int_bool (fin _)
  ·have hx:b=false:=hx
   subst hx;exact IsiPair.int_tuple (fin _)
  ·have hx:b=false:=hx
   subst hx;exact IsiPair.int_list (fin _)
  ·have hx:b=false:=hx
   subst hx;exact IsiPair.int_str (fin _)
 |str k=>
  obtain⟨t,rfl⟩:=ru
  rcases hT with rfl|rfl|rfl|rfl|rfl
  ·have hx:b=false:=hx
   subst hx;exact IsiPair.str_int (fin _)
  ·have hx:b=false:=hx
   subst hx;exact IsiPair.str_bool (fin _)
  ·have hx:b=false:=hx
   subst hx;exact IsiPair.str_tuple (fin _)
  ·have hx:b=false:=hx
   subst hx;exact IsiPair.str_list (fin _)
  ·have hx:b=true:=hx
   subst hx;exact IsiPair.str_str fin0
 |ref a=>
  cases ru
  rcases hx with⟨ys,hs,hb⟩|⟨ys,hs,hb⟩
  ·obtain⟨its,rv,⟨o,e,c,n,dd⟩,_⟩:=I.tuple hs
   rcases hT with rfl|rfl|rfl|rfl|rfl
   ·have hx:b=false:=hb
    subst hx;exact IsiPair.tuple_int e c (fin _)
   ·have hx:b=false:=hb
    subst hx;exact IsiPair.tuple_bool e c (fin _)
   ·have hx:b=true:=hb
    subst hx;exact IsiPair.tuple_tuple e c fin0
   ·have hx:b=false:=hb
    subst hx;exact IsiPair.tuple_list e c (fin _)
   ·have hx:b=false:=hb
    subst hx;exact IsiPair.tuple_str e c (fin _)
  ·obtain⟨its,rv,⟨o,n,e,c,_,dd⟩,_⟩:=I.list hs
   rcases hT with rfl|rfl|rfl|rfl|rfl
   ·have hx:b=false:=hb
    subst hx;exact IsiPair.list_int e c (fin _)
   ·have hx:b=false:=hb
    subst hx;exact IsiPair.list_bool e c (fin _)
   ·have hx:b=false:=hb
    subst hx;exact IsiPair.list_tuple e c (fin _)
   ·have hx:b=true:=hb
    subst hx;exact IsiPair.list_list e c fin0
   ·have hx:b=false:=hb
    subst hx;exact IsiPair.list_str e c (fin _)
 |byt _=>exact hx.elim
 |flt _=>exact hx.elim
 |ty _=>exact hx.elim
theorem z2d: ∀{bs:List Bool} {us:List Value},Q9 (bs.map V.bl) us->LSm.BoolsAre us bs
 |[],_, .nil=> .nil
 |b::bs,_, .cons r t=>by
  cases r
  exact .cons b (z2d t)
theorem z7B(hc:X.A.handled=none):CallR X (.builtin "all") (fun xs H Q=> ∃(p:Addr) (bs:List Bool),xs=[.ref p]/\SqL X.K H p (bs.map V.bl)/\Q (.bl (bs.all id)) H):=by
 intro pins s σ H xs us Q I r h
 obtain⟨p,bs,rfl,hs,q⟩:=h
 obtain⟨u,rfl,ru⟩:=z3o r
 cases ru
 obtain⟨its,rv,pl,_⟩:=I.list hs
 have hb:=z2d rv
 have hl:=pl.isList
 have hlt:p<s.heap.objs.size:=by obtain⟨_,e,_⟩:=hl;exact Heap.lt_size e
 refine call_all_walk (wpAny_pyIter_list hl ?_)
 refine⟨s.heap.objs.size,[s.heap.objs.size,p],[s.heap.objs.size],its.toArray.size,_,_,fun i=>(bs[i]?).getD true,rfl,Walks.list (A:=X.A.in1) hc _ p (l9 hlt) its.toArray,
  ⟨⟨_,Heap.get?_push_size _ rfl,rfl,rfl⟩,hl.push _⟩,fun i v s' Q' E' hP hQ=> ?_,fun h' tk hk=> ?_⟩
 ·obtain⟨b,e,rfl⟩:=hb.get i v (by simpa using hP)
  erw[e,r8] at hQ
  exact wpAny_truthy_bool hQ
 ·have e:((A5 its.toArray.size).all fun i=>(bs[i]?).getD true)=bs.all id:=by
   rw[i8,hb.length];exact LSm.range_all bs
  rw[e]
  exact⟨.bl _,H,I.kept (LSm.kept_iter hk),rfl,q⟩
end
end L2
namespace HT
open PySem PyProof.Rows
section
variable{prog:Program}{w:World}{A:Around}{E:Value->Shared->Prop}{s:Shared}
theorem getItem_tuple_whole{t sl:Addr}{items:Array Value}{vl vu:Value}{lo hi:Option Int}{Q:Value->Shared->Prop}(ht:IsTup s.heap t items)(hs:s.heap.IsSliceOf sl vl vu .none)(pl:IsPart vl lo)(pu:IsPart vu hi)
 (hw:sIx items.size 0 lo=0/\sIx items.size items.size hi=items.size) (h:Q (.ref t) s):wpAny (model prog w) A (getItem (.ref t) (.ref sl)) Q E s:=by
 obtain⟨os,hos,hcs,hds⟩:=id hs
 have hTs:s.TypeIs (.ref sl) "slice" :=⟨os,hos,hcs⟩
 unfold getItem
 try with_reducible refine wpAny_holding ?_
 first|refine wpAny_bind (wpAny_pure ?_)|skip
 refine wpAny_bind (wpAny_sequenceKey ht.typeIs (by decide) ?_)
 refine wpAny_bind (wpAny_callSpecial?_slot (name:=Str.ofString "__getitem__") ht.typeIs PyProof.Rows.slot_tuple_getitem
  (wpAny_call_entry PyProof.Rows.slot_tuple_getitem ht.typeIs entry_tuple_getitem ?_ (args_tuple_getitem _ _)))
 show wpAny _ _ (Builtin.Tuple.tupleItemsOf (.ref t)>>=_) _ _ s
 refine wpAny_bind (tupleItemsOf_ ht ?_)
 refine wpAny_bind (wpAny_typeOf hTs ?_)
 rw[if_pos (by decide)]
 refine wpAny_bind (z0j hs pl pu ?_)
 have hyes:((((sIx items.size 0 lo:Nat):Int)==0&&(1:Int)==1&&(sIx items.size items.size hi -sIx items.size 0 lo)==items.size)=true):=by
  rw[hw.1,hw.2]
  simp
 show wpAny _ _ (if(((sIx items.size 0 lo:Nat):Int)==0&&(1:Int)==1&&(sIx items.size items.size hi -sIx items.size 0 lo)==items.size)=true then _ else _) _ _ s
 rw[if_pos hyes]
 obtain⟨o,ho,hc,n,hd⟩:=id ht
 have ex:Builtin.Tuple.tupleIsExact (.ref t)=(typeOf (.ref t)>>=fun T=>pure (T== .type "tuple")):=rfl
 refine wpAny_bind (m:=Builtin.Tuple.tupleIsExact (.ref t)) ?_
 rw[ex]
 refine wpAny_bind (wpAny_typeOf ht.typeIs (wpAny_pure ?_))
 rw[if_pos (by decide)]
 exact wpAny_bind (wpAny_rule (wpAny_pure ⟨_,rfl,wpAny_pure h⟩))
end
end HT
namespace L2
open PySem PySem.Spec PyProof.Rows
section
variable{X:Cx}
theorem z6v{xs:List V}{lo hi:Option Int}(h:HT.sIx xs.length 0 lo=0/\HT.sIx xs.length xs.length hi=xs.length):z7n xs lo hi=xs:=by
 unfold z7n
 rw[h.1,h.2]
 simp
noncomputable def zeg(K:W.Frag):V->List V->Hp->VK->Prop:=fun x vs H Q=> ∃l b xs zs,x= .ref l/\vs=[.ref b]/\H l=some (.lst xs)/\(SqT K H b zs\/SqL K H b zs)/\xs.length+zs.length<=sizeLine/\Q .non (upd H l (.lst (xs++zs)))
theorem z7C(l:Addr)(items:Array Value)(n:Nat)(b:Addr)(items2:Array Value)(n2:Nat)(dd2:Option Addr)(sl2:Array (Option Value))(hs0: ¬(!items.isEmpty&&Builtin.List.listTooLong (items.size+items2.size))=true)(hs1:items.size<=sizeLine)(hs2:items.size+items2.size<=sizeLine+1):
 Meets (Builtin.«list.extend» ⟨[.ref l, .ref b],[]⟩) (fun _ R s=>s.heap.get? l=some {cls:= .type "list",dict:=none,data:= .seq items n,slots:= #[]}/\s.heap.get? b=some {cls:= .type "tuple",dict:=dd2,data:= .seq items2 n2,slots:=sl2}/\R (.ok (.ret Value.none)) {s with heap:=s.heap.update l (Obj.mapSeq fun x=>x++items2),toks:=s.toks}):=
 .of_wp fun prog w A R s h=>by
  obtain⟨hp,g,d,tk,os⟩:=s;obtain⟨hl,hb,h⟩:=h;have f1:=AutoSeq1.idx_int;have f2:=AutoSeq1.sub_tuple_tuple;have f3:=AutoSeq1.sub_list_list;have f4:=AutoSeq1.sub_tuple_list;have f5:=AutoSeq1.sub_list_tuple
  have hz':(items++items2).size<=sizeLine+1:=by rw[Array.size_append];exact hs2
  wp_walk using(wpAny_updateSeq hl rfl (hz:=hs1) (_hz':=hz')),AutoSeq1.wpAny_loadPart' hl,AutoSeq1.wpAny_loadPart' hb;exact⟨_,rfl,h⟩
theorem z7D(l:Addr)(items:Array Value)(n:Nat)(b:Addr)(items2:Array Value)(n2:Nat)(dd2:Option Addr)(sl2:Array (Option Value))(hs0: ¬(!items.isEmpty&&Builtin.List.listTooLong (items.size+items2.size))=true)(hs1:items.size<=sizeLine)(hs2:items.size+items2.size<=sizeLine+1):
 Meets (Builtin.«list.extend» ⟨[.ref l, .ref b],[]⟩) (fun _ R s=>s.heap.get? l=some {cls:= .type "list",dict:=none,data:= .seq items n,slots:= #[]}/\s.heap.get? b=some {cls:= .type "list",dict:=dd2,data:= .seq items2 n2,slots:=sl2}/\R (.ok (.ret Value.none)) {s with heap:=s.heap.update l (Obj.mapSeq fun x=>x++items2),toks:=s.toks}):=
 .of_wp fun prog w A R s h=>by
  obtain⟨hp,g,d,tk,os⟩:=s;obtain⟨hl,hb,h⟩:=h;have f1:=AutoSeq1.idx_int;have f2:=AutoSeq1.sub_tuple_tuple;have f3:=AutoSeq1.sub_list_list;have f4:=AutoSeq1.sub_tuple_list;have f5:=AutoSeq1.sub_list_tuple
  have hz':(items++items2).size<=sizeLine+1:=by rw[Array.size_append];exact hs2
  wp_walk using(wpAny_updateSeq hl rfl (hz:=hs1) (_hz':=hz')),AutoSeq1.wpAny_loadPart' hl,AutoSeq1.wpAny_loadPart' hb;exact⟨_,rfl,h⟩
theorem zbQ:MtM X "list.extend" (zeg X.K):=by
 intro pins s σ H x vs v us Q I rx rv h
 obtain⟨l,b,xs,zs,rfl,rfl,hH,hB,hz,q⟩:=h
 cases rx
 obtain⟨u,rfl,ru⟩:=rv.one
 cases ru
 obtain⟨z,its,n,r,hl,e⟩:=I.lstM hH
 have key: ∃its2:List Value,Q9 zs its2/\((∃dd2 n2 sl2,s.heap.get? b=some {cls:= .type "tuple",dict:=dd2,data:= .seq its2.toArray n2,slots:=sl2})\/(∃dd2 n2 sl2,s.heap.get? b=some {cls:= .type "list",dict:=dd2,data:= .seq its2.toArray n2,slots:=sl2})):=by
  rcases hB with hB|hB
  ·obtain⟨its2,r2,⟨⟨cls,dd,data,sl⟩,e2,c,n2,d2⟩,_⟩:=I.tuple hB
   simp only at c d2
   subst c d2
   exact⟨its2,r2, .inl ⟨_,_,_,e2⟩⟩
  ·obtain⟨its2,r2,⟨⟨cls,dd,data,sl⟩,n2,e2,c,_,d2⟩,_⟩:=I.list hB
   simp only at c d2
   subst c d2
   exact⟨its2,r2, .inr ⟨_,_,_,e2⟩⟩
 obtain⟨its2,r2,k⟩:=key
 have hl2:=r2.length
 have hsz:its.toArray.size+its2.toArray.size<=sizeLine:=by rw[i8,i8];lia
 have hlong: ¬(!its.toArray.isEmpty&&Builtin.List.listTooLong (its.toArray.size+its2.toArray.size))=true:=by
  rw[z5B hsz,S7]
  exact l5
 have fin:EP X pins σ Q .none {s with heap:=s.heap.update l (Obj.mapSeq fun x=>x++its2.toArray),toks:=s.toks}:=by
  refine⟨.non,_,I.lset (its':=its++its2) hH e (by simp) (r.append r2) ?_,rfl,q⟩
  rw[m8]
  lia
 rcases k with⟨dd2,n2,sl2,e2⟩|⟨dd2,n2,sl2,e2⟩
 ·exact call_meets F.slot_list_extend ⟨_,e,rfl⟩ F.entry_list_extend (F.args_list_extend_2 _ _) (z7C l its.toArray n b its2.toArray n2 dd2 sl2 hlong (by rw[i8];lia) (by lia)) ⟨e,e2,fin⟩
 ·exact call_meets F.slot_list_extend ⟨_,e,rfl⟩ F.entry_list_extend (F.args_list_extend_2 _ _) (z7D l its.toArray n b its2.toArray n2 dd2 sl2 hlong (by rw[i8];lia) (by lia)) ⟨e,e2,fin⟩
end
noncomputable def K0(env:Env):List (Str×NameKind)->List (Str×Addr)->List (Str×Addr)
 |[],cs=>cs
 |(n,k)::r,cs=>K0 env r (if k== .free then(match env.cells.lookup n with|some a=>(n,a)::cs|none=>cs) else cs)
theorem z5H{env:Env}: ∀(names:List (Str×NameKind)) (cs:List (Str×Addr)),(∀y∈names,y.2= .free->∃a,env.cells.lookup y.1=some a)->
 (forIn names cs fun(x:Str×NameKind) (r:List (Str×Addr))=>if(x.2==NameKind.free)=true then cellOf env x.1>>=fun a=>pure (ForInStep.yield ((x.1,a)::r)) else pure (ForInStep.yield r))=(pure (K0 env names cs):Sem _)
 |[],cs,_=>rfl
 |(n,k)::r,cs,h=>by
  have ih:=fun cs=>z5H (env:=env) r cs fun y hy=>h y (b8 _ hy)
  rw[O7]
  show((if(k==NameKind.free)=true then cellOf env n>>=fun a=>pure (ForInStep.yield ((n,a)::cs)) else pure (ForInStep.yield cs))>>=_)=pure (K0 env r (if k== .free then(match env.cells.lookup n with|some a=>(n,a)::cs|none=>cs) else cs))
  by_cases hk:(k==NameKind.free)=true
  ·obtain⟨a,e⟩:=h (n,k) i3 (by simpa using hk)
   have e:env.cells.lookup n=some a:=e
   rw[if_pos hk,if_pos hk,e]
   have e2:cellOf env n=pure a:=by unfold cellOf;rw[e]
   rw[e2]
   exact ih _
  ·rw[if_neg hk,if_neg hk]
   exact ih _
theorem z1g{env:Env}{scope:Scope}(h: ∀y∈scope.names,y.2= .free->∃a,env.cells.lookup y.1=some a):closureFor scope env=pure (K0 env scope.names []):=by
 have e:=z5H (env:=env) scope.names [] h
 exact congrArg (fun(m:Sem (List (Str×Addr)))=>m>>=fun cs=>pure cs) e
theorem z1X{env:Env}{x:Str}{c:Addr}: ∀(names:List (Str×NameKind)) (cs:List (Str×Addr)),(K0 env names cs).lookup x=some c->
 cs.lookup x=some c\/(env.cells.lookup x=some c/\(x,NameKind.free)∈names)
 |[],cs,h=> .inl h
 |(n,k)::r,cs,h=>by
  rcases z1X r _ h with q|⟨q,m⟩
  ·by_cases hk:(k==NameKind.free)=true
   ·rw[if_pos hk] at q
    cases e:env.cells.lookup n with
    |none=>rw[e] at q;exact .inl q
    |some a=>
     rw[e] at q
     have q:((n,a)::cs).lookup x=some c:=q
     rw[p4] at q
     by_cases hx:(x==n)=true
     ·rw[hx] at q
      have q:some a=some c:=q
      cases q
      have hx:x=n:=eq_of_beq hx
      subst hx
      have hk:k= .free:=eq_of_beq hk
      subst hk
      exact .inr ⟨e,i3⟩
     ·have hx:(x==n)=false:=by simpa using hx
      rw[hx] at q
      exact .inl q
   ·rw[if_neg hk] at q
    exact .inl q
  ·exact .inr ⟨q,b8 _ m⟩
theorem z2e{env:Env}{x:Str}: ∀(names:List (Str×NameKind)) (cs:List (Str×Addr)),(((∃c,cs.lookup x=some c))\/((x,NameKind.free)∈names/\∃c,env.cells.lookup x=some c))->
 ∃c,(K0 env names cs).lookup x=some c
 |[],cs,h=>by
  rcases h with h|⟨m,_⟩
  ·exact h
  ·cases m
 |(n,k)::r,cs,h=>by
  refine z2e r _ ?_
  rcases h with⟨c,hc⟩|⟨m,c,hc⟩
  ·left
   by_cases hk:(k==NameKind.free)=true
   ·rw[if_pos hk]
    cases e:env.cells.lookup n with
    |none=>exact⟨c,hc⟩
    |some a=>
     by_cases hx:(x==n)=true
     ·exact⟨a,by show((n,a)::cs).lookup x=some a;rw[p4,hx]⟩
     ·have hx:(x==n)=false:=by simpa using hx
      exact⟨c,by show((n,a)::cs).lookup x=some c;rw[p4,hx];exact hc⟩
   ·rw[if_neg hk]
    exact⟨c,hc⟩
  ·rcases i5.mp m with e|m
   ·left
    cases e
    rw[if_pos (by decide),hc]
    exact⟨c,by show((x,c)::cs).lookup x=some c;rw[p4,beq_self_eq_true]⟩
   ·exact .inr ⟨m,c,hc⟩
theorem V2{env:Env}: ∀{names:List (Str×NameKind)} {x:Str},names.lookup x=some .free->
 (names.map fun(n,k)=>if(k==NameKind.free&&env.scope.kind== .function&&env.kindOf n==some .cell) then(n,NameKind.cell) else(n,k)).lookup x=some .cell\/
 (names.map fun(n,k)=>if(k==NameKind.free&&env.scope.kind== .function&&env.kindOf n==some .cell) then(n,NameKind.cell) else(n,k)).lookup x=some .free
 |[],_,h=>by simp at h
 |(n,k)::r,x,h=>by
  have ih:= @V2 env r x
  rw[b7]
  show B7 x ((if(k==NameKind.free&&env.scope.kind== .function&&env.kindOf n==some .cell)=true then(n,NameKind.cell) else(n,k))::_)=_\/B7 x ((if(k==NameKind.free&&env.scope.kind== .function&&env.kindOf n==some .cell)=true then(n,NameKind.cell) else(n,k))::_)=_
  cases hx:x==n with
  |true=>
   erw[p4,hx] at h
   cases h
   by_cases hc:(NameKind.free==NameKind.free&&env.scope.kind== .function&&env.kindOf n==some .cell)=true
   ·rw[if_pos hc];left;erw[p4,hx]
   ·rw[if_neg hc];right;erw[p4,hx]
  |false=>
   erw[p4,hx] at h
   by_cases hc:(k==NameKind.free&&env.scope.kind== .function&&env.kindOf n==some .cell)=true
   ·rw[if_pos hc];erw[p4,hx];exact ih h
   ·rw[if_neg hc];erw[p4,hx];exact ih h
theorem K1{env:Env}: ∀{names:List (Str×NameKind)} {x:Str},((names.map fun(n,k)=>if(k==NameKind.free&&env.scope.kind== .function&&env.kindOf n==some .cell) then(n,NameKind.cell) else(n,k)).lookup x=some .cell\/
 (names.map fun(n,k)=>if(k==NameKind.free&&env.scope.kind== .function&&env.kindOf n==some .cell) then(n,NameKind.cell) else(n,k)).lookup x=some .free)->names.lookup x=some .free\/names.lookup x=some .cell
 |[],_,h=>by simp at h
 |(n,k)::r,x,h=>by
  have ih:= @K1 env r x
  rw[b7] at h
  have h:B7 x ((if(k==NameKind.free&&env.scope.kind== .function&&env.kindOf n==some .cell)=true then(n,NameKind.cell) else(n,k))::_)=_\/B7 x ((if(k==NameKind.free&&env.scope.kind== .function&&env.kindOf n==some .cell)=true then(n,NameKind.cell) else(n,k))::_)=_:=h
  cases hx:x==n with
  |true=>
   erw[p4,hx]
   by_cases hc:(k==NameKind.free&&env.scope.kind== .function&&env.kindOf n==some .cell)=true
   ·have:k= .free:=by
     erw[i6,beq_iff_eq] at hc
     exact hc.1.1
    subst this
    exact .inl rfl
   ·rw[if_neg hc] at h
    erw[p4,hx] at h
    exact h.symm
  |false=>
   erw[p4,hx]
   refine ih ?_
   by_cases hc:(k==NameKind.free&&env.scope.kind== .function&&env.kindOf n==some .cell)=true
   ·rw[if_pos hc] at h;erw[p4,hx] at h;exact h
   ·rw[if_neg hc] at h;erw[p4,hx] at h;exact h
structure j4(osc sc:Scope)(own frees N:List Str)(ix:List Nat):Prop where
 kind:sc.kind= .function
 nocell: ∀y∈sc.names,y.2≠ .cell
 names: ∀y∈sc.names,y.2= .local->sc.names.lookup y.1=some .local
 fr: ∀y∈sc.names,y.2= .free->osc.names.lookup y.1=some .cell\/osc.names.lookup y.1=some .free
 nd:(own++frees).Nodup
 frl: ∀x∈frees,sc.names.lookup x=some .free
 ixs:ix.map (fun i=>N[i]?)=frees.map some
noncomputable def W5(X:Cx)(scope:Scope)(own frees:List Str)(cl:List (Str×Addr))(C:Addr)(s₀:Shared)(H₀:Hp)(fp:List Addr)(pn:List (Addr×Obj)):Cx:=
 {X with N:=own++frees,s₀:=s₀,H₀:=H₀,env:=compEnvC scope cl C X.env,outer:=X.stack,stack:=X.stack,ex:=fp,fn:=fun _=>false,pn:=pn,xe:=fun _ _=>False}
noncomputable def z0k(k:Nat)(ix:List Nat)(σ:St):St:=i7 k none++ix.map fun i=>(σ[i]?).getD none
section
variable{X:Cx}{tg iter elt:Expr}{pos:Pos}{scope:Scope}{own frees:List Str}{ix:List Nat}{wi:TI}{g:TG}{te:TE}
theorem z6w(k:Nat)(ix:List Nat)(σ:St):(z0k k ix σ).length=k+ix.length:=by
 unfold z0k
 simp
theorem z39{pins:List (Addr×Obj)}{σ:St}{H:Hp}{s s1:Shared}{fp:List Addr}(S:j4 X.env.scope scope own frees X.N ix)(I:Inv X pins σ H s)(hf: ∀b∈fp,z4K X pins H b)(hb: ∀b∈fp,b<s.heap.objs.size)
 (ho:s1.os=s.os) (hg:s1.gens=s.gens) (hk: ∀b o,s.heap.get? b=some o->s1.heap.get? b=some o) (hn:s1.heap.Ns s.heap.objs.size (fun _=>none)):
 Inv (W5 X scope own frees (K0 X.env scope.names []) s.heap.objs.size s H fp (X.pn++pins)) [] (z0k own.length ix σ) H s1:=by
 have clos: ∀x c,(K0 X.env scope.names []).lookup x=some c->X.env.cells.lookup x=some c/\(x,NameKind.free)∈scope.names:=fun x c h=>by
  rcases z1X _ _ h with q|q
  ·exact nomatch q
  ·exact q
 have hlen:ix.length=frees.length:=by
  have:=congrArg S2 S.ixs
  simpa using this
 have cne: ∀x c,X.env.cells.lookup x=some c->c<s.heap.objs.size:=fun x c e=>by
  obtain⟨v,o,q,_⟩:=I.cell x c e
  exact Heap.lt_size q
 refine⟨⟨I.ok.mod,S.kind,I.ok.glob,I.ok.blt,c8 _,fun x y c h1 h2=>I.ok.inj x y c (clos x c h1).1 (clos y c h2).1,fun x hx=> ?_,fun x c z=>R8 z,I.ok.hd,I.ok.frames, .inl rfl,fun b z=>⟨l9 (hb b z),fun x c e=>(hf b z).2.2.2.2.1 x c (clos x c e).1⟩,I.bs,
  B0 I.ok.bsz I.sz,fun b o e z=> ?_,fun b z=> ?_,I.stack,I.stkFree⟩,ho, ?_,Un.kept hk,⟨_,hn,fun i x v h1 h2 h3=> ?_⟩,fun x c e=> ?_,I.fresh,fun x c e=>I.freeC x c (clos x c e).1,fun p hp=> ?_,I.hok.kept hk, ?_⟩
 ·have hx:(relabel scope X.env).names.lookup x=some .cell\/(relabel scope X.env).names.lookup x=some .free:=hx
  rcases K1 hx with q|q
  ·have m:(x,NameKind.free)∈scope.names:=PySem.mem_of_lookup q
   obtain⟨c,hc⟩:=I.ok.has x (S.fr _ m rfl)
   exact z2e _ _ (.inr ⟨m,c,hc⟩)
  ·exact absurd rfl (S.nocell _ (PySem.mem_of_lookup q))
 ·rcases(hf b z).2.2.2.1 with q|q
  ·exact I.ok.noex b o e q
  ·exact absurd (Heap.lt_size (I.ok.bs b o e).1) (M8.mpr q)
 ·intro q
  rcases i5.mp (I.stkSub b q) with r|r
  ·exact(hf b z).2.1 r
  ·exact(hf b z).2.2.1 r
 ·rw[hg];exact I.bare
 ·have h2:(z0k own.length ix σ)[i]? =some (some v):=h2
  have h1:(own++frees)[i]? =some x:=h1
  unfold z0k at h2
  by_cases hi:i<own.length
  ·rw[List.getElem?_append_left (by simpa using hi),List.getElem?_replicate] at h2
   rw[if_pos hi] at h2
   cases h2
  ·have hi:own.length<=i:=M8.mp hi
   rw[List.getElem?_append_right (by simpa using hi),O8,List.getElem?_map] at h2
   rw[List.getElem?_append_right hi] at h1
   cases e:ix[i -own.length]? with
   |none=>rw[e] at h2;cases h2
   |some j=>
    rw[e] at h2
    have h2:some ((σ[j]?).getD none)=some (some v):=h2
    have hσ:σ[j]? =some (some v):=by
     cases q:σ[j]? with
     |none=>rw[q] at h2;cases h2
     |some z=>rw[q] at h2;exact h2
    have hN:X.N[j]? =some x:=by
     have:=congrArg (fun l:List (Option Str)=>l[i -own.length]?) S.ixs
     erw[List.getElem?_map,e,h1,r6] at this
     exact Option.some.inj this
    have mf:x∈frees:=List.mem_of_getElem? h1
    have lf:=S.frl x mf
    have m:(x,NameKind.free)∈scope.names:=PySem.mem_of_lookup lf
    have hos:=S.fr _ m rfl
    obtain⟨mm,hns,hl⟩:=I.loc
    obtain⟨u,ru,look⟩:=hl j x v hN hσ (hos.elim (fun q=> .inr (.inl q)) fun q=> .inr (.inr q))
    refine⟨u,ru, ?_⟩
    rcases look with⟨kk,_⟩|⟨kk,c,hc,ic⟩
    ·have kk:X.env.scope.names.lookup x=some .local:=kk
     have hos:X.env.scope.names.lookup x=some .cell\/X.env.scope.names.lookup x=some .free:=hos
     rw[kk] at hos
     rcases hos with q|q<;>cases q
    ·obtain⟨c',hc'⟩:=z2e (env:=X.env) scope.names [] (.inr ⟨m,c,hc⟩)
     have e2:=(clos x c' hc').1
     rw[hc] at e2
     cases e2
     refine .inr ⟨V2 lf,c,hc', ?_⟩
     obtain⟨o,q1,q2⟩:=ic
     exact⟨o,hk _ _ q1,q2⟩
 ·obtain⟨v,o,q1,q2⟩:=I.cell x c (clos x c e).1
  exact⟨v,o,hk _ _ q1,q2⟩
 ·have hp:p∈(X.pn++pins)++[]:=hp
  rw[h9] at hp
  obtain⟨e,n,ne,nf,d⟩:=I.pin p hp
  refine⟨hk _ _ e,n,l9 (Heap.lt_size e),fun q=> ?_,d⟩
  rcases i5.mp (I.stkSub p.1 q) with r|r
  ·exact ne r
  ·exact nf r
 ·show(z0k own.length ix σ).length=(own++frees).length
  rw[z6w,hlen,m8]
theorem z5I{pins pins':List (Addr×Obj)}{σ σ':St}{H H':Hp}{s s':Shared}{h':Heap}{fp:List Addr}{cl:List (Str×Addr)}{C:Addr}(I:Inv X pins σ H s)(hf: ∀b∈fp,z4K X pins H b)(hC:s.heap.objs.size<=C)
 (J:Inv (W5 X scope own frees cl C s H fp (X.pn++pins)) pins' σ' H' s') (hs:Heap.SameBut C s'.heap h'):Inv X pins σ H' {s' with heap:=h'}:=by
 have nC: ∀b,b<s.heap.objs.size->b≠C:=fun b q e=>by subst e;exact absurd q (M8.mpr hC)
 refine I.call' (ch:=fp) J.os ⟨fun b o e n hb hx=> ?_,fun b o e n hb hx=> ?_,J.base.free,fun b o e hx=> ?_,J.base.tups,J.base.frzs,J.base.tbls⟩ ?_ J.bare fun b z=>⟨(hf b z).2.2.2.1,(hf b z).2.1,(hf b z).2.2.2.2.1,(hf b z).2.2.2.2.2⟩
 ·exact(hs.2 b (nC b (Heap.lt_size e))).trans (J.base.keep b o e n hb hx)
 ·obtain⟨sl,q⟩:=J.base.slot b o e n hb hx
  exact⟨sl,(hs.2 b (nC b (Heap.lt_size e))).trans q⟩
 ·obtain⟨o',q⟩:=J.base.there b o e hx
  exact⟨o',(hs.2 b (nC b (Heap.lt_size e))).trans q⟩
 ·intro a o e
  refine(J.hok a o e).stay (fun b u hbu q=> ?_) (fun _ q=>q) fun _ _ q=>q
  refine(hs.2 b ?_).trans q
  intro eb
  subst eb
  have hfree:H' b=none:=J.free
  rcases hbu with rfl|z
  ·rw[e] at hfree;cases hfree
  ·rw[z] at hfree;cases hfree
end
end L2
namespace PySem
section
variable{prog:Program}{w:World}{A:Around}{E:Value->Shared->Prop}{s:Shared}
theorem z2f{d:Addr}{o:Obj}{es:Array DictEntry}{ep:Nat}{Q:Value->Shared->Prop}(hd:(d==sysModules)=false)(ho:s.heap.get? d=some o)(hc:o.ExactDict)(hdat:o.data= .dict es ep)
 (hQ:Q (.ref s.heap.objs.size) {s with heap:=s.heap.push {cls:= .type "dict_keyiterator",data:= .fields #[.ref d, .int 0 0, .int es.size 0, .int ep 0]}}):
 wpAny (model prog w) A (pyIter (.ref d)) Q E s:=by
 have hT:s.TypeIs (.ref d) "dict" :=⟨o,ho,hc.1⟩
 refine wpAny_pyIter_slot hT F.slot_dict_iter (wpAny_call_entry F.slot_dict_iter hT F.entry_dict_iter ?_ (F.args_dict_iter_1 _))
 unfold Builtin.«dict.__iter__»
 refine wpAny_bind ?_
 unfold Builtin.Dict.dictSlotNone
 refine wpAny_bind (wpAny_notOrdered_dict hT ?_)
 show wpAny _ _ (pure (Value.ref d)) _ _ s
 refine wpAny_pure ?_
 show wpAny _ _ (Builtin.Dict.showsAll d>>=_) _ _ s
 unfold Builtin.Dict.showsAll
 rw[if_neg (by rw[hd];exact l5)]
 refine wpAny_bind (wpAny_pure ?_)
 refine wpAny_bind (wpAny_dictEntries ho hdat ?_)
 refine wpAny_bind (wpAny_dictEpoch ho hdat ?_)
 refine wpAny_bind (wpAny_newObj_type (wpAny_pure ⟨_,rfl, "dict_keyiterator",_,⟨_,Heap.get?_push_size _ rfl,rfl⟩,F.slot_dict_keyiterator_next.lookup, ?_⟩))
 simpa[rawInt] using hQ
theorem z2g{it d:Addr}{i ep:Nat}{od:Obj}{es:Array DictEntry}{en:DictEntry}{Q:Option Value->Shared->Prop}(hit:s.heap.IsKeyIter it d i es.size ep)
 (hod:s.heap.get? d=some od) (hdd:od.data= .dict es ep) (hx:es[i]? =some en)
 (hQ: ∀h',h'.IsKeyIter it d (i+1) es.size ep->Heap.SameBut it s.heap h'->Q (some en.key) {s with heap:=h'}):
 wpAny (model prog w) A (pyNext (.ref it)) Q E s:=by
 obtain⟨o,ho,hc,hd⟩:=id hit
 unfold pyNext
 refine wpAny_bind (wpAny_attempt (wpAny_callSpecial?_slot (name:=Str.ofString "__next__") hit.typeIs F.slot_dict_keyiterator_next
  (wpAny_call_entry F.slot_dict_keyiterator_next hit.typeIs F.entry_dict_keyiterator_next ?_ (F.args_dict_keyiterator_next_1 _))))
 refine wpAny_bind (wpAny_pure ?_)
 refine wpAny_bind ?_
 refine wpAny_bind ?_
 first|refine wpAny_bind (wpAny_typeNameOfWhole_keyiter hit.typeIs (wpAny_pure ?_))|refine wpAny_bind (wpAny_typeNameOf_keyiter hit.typeIs (wpAny_pure ?_))
 refine wpAny_bind (wpAny_fieldsOf ho hd ?_)
 have hown:Builtin.Dict_items.ownsTuple "dict_keyiterator" =false:=by decide
 erw[hown,s0,if_false]
 show wpAny _ _ (if(Value.ref d==Value.none)=true then _ else _) _ _ s
 rw[if_neg (show ¬((Value.ref d==Value.none)=true) from l5)]
 refine wpAny_bind (wpAny_pure ?_)
 refine wpAny_bind (wpAny_dictEntries hod hdd ?_)
 rw[if_neg (by simp)]
 refine wpAny_bind (wpAny_pure ?_)
 refine wpAny_bind (wpAny_dictEpoch hod hdd ?_)
 rw[if_neg (by simp)]
 refine wpAny_pure ?_
 have hlt':i<es.size:=by
  rcases T4 i es.size with h|h
  ·exact h
  ·simp[Array.getElem?_eq_none h] at hx
 have hkey:es[i]=en:=by
  rw[Array.getElem?_eq_getElem hlt'] at hx
  exact Option.some.inj hx
 erw[show ¬((i:Int)<0) from by lia,if_false,B9,Array.getElem?_eq_getElem hlt']
 refine wpAny_bind ?_
 first|refine wpAny_bind (wpAny_typeNameOfWhole_keyiter hit.typeIs (wpAny_pure ?_))|refine wpAny_bind (wpAny_typeNameOf_keyiter hit.typeIs (wpAny_pure ?_))
 refine wpAny_bind (wpAny_isOneOf_keyiter hit.typeIs ?_)
 show wpAny _ _ (setField (.ref it) 1 (rawInt ((i:Int)+1))>>=_) _ _ s
 refine wpAny_bind (wpAny_setField ho hd (by simp) ?_)
 have hit':(s.heap.update it (Obj.mapFields (·.setIfInBounds 1 (rawInt ((i:Int)+1))))).IsKeyIter it d (i+1) es.size ep:=
  ⟨_,Heap.get?_update_self _ ho (Obj.isFreed_of_fields (Obj.data_mapFields hd _)),(Obj.cls_mapFields ..).trans hc,by rw[Obj.data_mapFields hd];simp[rawInt]⟩
 refine wpAny_bind (wpAny_holding ?_)
 refine wpAny_bind (wpAny_isOneOf_keyiter (s:={s with heap:=s.heap.update it (Obj.mapFields (·.setIfInBounds 1 (rawInt ((i:Int)+1))))}) hit'.typeIs ?_)
 show wpAny _ _ (pure es[i].key) _ _ _
 rw[hkey]
 exact wpAny_pure (wpAny_pure ⟨_,rfl,wpAny_pure (hQ _ hit' (Heap.SameBut.update ..))⟩)
theorem z2S{it d:Addr}{i ep:Nat}{od:Obj}{es:Array DictEntry}{Q:Option Value->Shared->Prop}(hh:A.handled=none)(hit:s.heap.IsKeyIter it d i es.size ep)
 (hod:s.heap.get? d=some od) (hdd:od.data= .dict es ep) (hge:es.size<=i)
 (hQ: ∀h',Heap.ExtBut it s.heap h'->Q none {s with heap:=h'}):wpAny (model prog w) A (pyNext (.ref it)) Q E s:=by
 obtain⟨o,ho,hc,hd⟩:=id hit
 unfold pyNext
 refine wpAny_bind (wpAny_attempt (wpAny_callSpecial?_slot (name:=Str.ofString "__next__") hit.typeIs F.slot_dict_keyiterator_next
  (wpAny_call_entry F.slot_dict_keyiterator_next hit.typeIs F.entry_dict_keyiterator_next ?_ (F.args_dict_keyiterator_next_1 _))))
 refine wpAny_bind (wpAny_pure ?_)
 refine wpAny_bind ?_
 refine wpAny_bind ?_
 first|refine wpAny_bind (wpAny_typeNameOfWhole_keyiter hit.typeIs (wpAny_pure ?_))|refine wpAny_bind (wpAny_typeNameOf_keyiter hit.typeIs (wpAny_pure ?_))
 refine wpAny_bind (wpAny_fieldsOf ho hd ?_)
 have hown:Builtin.Dict_items.ownsTuple "dict_keyiterator" =false:=by decide
 erw[hown,s0,if_false]
 show wpAny _ _ (if(Value.ref d==Value.none)=true then _ else _) _ _ s
 rw[if_neg (show ¬((Value.ref d==Value.none)=true) from l5)]
 refine wpAny_bind (wpAny_pure ?_)
 refine wpAny_bind (wpAny_dictEntries hod hdd ?_)
 rw[if_neg (by simp)]
 refine wpAny_bind (wpAny_pure ?_)
 refine wpAny_bind (wpAny_dictEpoch hod hdd ?_)
 rw[if_neg (by simp)]
 refine wpAny_pure ?_
 erw[show ¬((i:Int)<0) from by lia,if_false,B9,Array.getElem?_eq_none hge]
 refine wpAny_bind ?_
 first|refine wpAny_bind (wpAny_typeNameOfWhole_keyiter hit.typeIs (wpAny_pure ?_))|refine wpAny_bind (wpAny_typeNameOf_keyiter hit.typeIs (wpAny_pure ?_))
 show wpAny _ _ (setField (.ref it) 0 .none>>=_) _ _ s
 refine wpAny_bind (wpAny_setField ho hd (by simp) ?_)
 show wpAny _ _ (newExc (.type "StopIteration") []>>=_) _ _ _
 refine wpAny_bind ?_
 erw[newExc,newTuple]
 refine wpAny_bind (wpAny_newObj_type ?_ (by size_fits))
 refine wpAny_bind (m:=firstArgMember _ _) (wpAny_of_eq (a:=Value.none) (by first|rfl|(erw[firstArgMember];rfl)) ?_)
 refine wpAny_newObj_type ?_ (by size_fits)
 erw[raiseNew]
 refine wpAny_bind (wpAny_handled ?_)
 rw[show A.in1.handled=none from hh]
 refine wpAny_bind (wpAny_pure (wpAny_throw ?_))
 refine wpAny_bind (wpAny_isInstance (T:= "StopIteration") (b:=true) ⟨_,Heap.get?_push_size _ rfl,rfl⟩ isSubtype_stop ?_)
 exact wpAny_pure (hQ _ (((Heap.SameBut.update ..).extBut.push _).push _))
end
end PySem
namespace L2
open PySem PySem.Spec PyProof.Rows
noncomputable def ItD(a:Addr)(o:Obj)(kvs:List (NK×V)):It:=
 ⟨fun i H=>i<kvs.length/\H a=some (.frz o (.dT kvs)),fun i H x H'=>H'=H/\∃b k v,x= .ref b/\kvs[i]? =some (k,v)/\TK H k b,fun i H=>kvs.length<=i/\H a=some (.frz o (.dT kvs))⟩
theorem zaD{P:Program}{w:World}{H:Hp}{h:Heap}{a:Addr}{o:Obj}{kvs:List (NK×V)}(ok:HOk P w H h)(e:H a=some (.frz o (.dT kvs))):
 h.get? a=some o/\(a==sysModules)=false/\o.ExactDict/\∃es ep,o.data= .dict es ep/\es.size=kvs.length/\
  ∀(i:Nat) (k:NK) (v:V),kvs[i]? =some (k,v)->∃en b,es[i]? =some en/\en.key= .ref b/\TK H k b:=by
 obtain⟨ho,z,y,xs,r,o',es,ep,e',c,d,l,nd⟩:=ok a _ e
 rw[ho] at e'
 cases e'
 have hl:kvs.length=xs.length:=Paired.length r
 have hs:es.size=xs.length:=size_of_entries l
 refine⟨ho,y,c,es,ep,d,by lia,fun i k v q=> ?_⟩
 have key: ∀{kvs:List (NK×V)} {xs:List (NK×Addr×Value)},Paired (fun(p:NK×V) (q:NK×Addr×Value)=>p.1=q.1/\TK H p.1 q.2.1/\RelV p.2 q.2.2) kvs xs->
  ∀(i:Nat),kvs[i]? =some (k,v)->∃b u,xs[i]? =some (k,b,u)/\TK H k b:=by
  intro kvs xs r
  induction r with
  |nil=>intro i q;simp at q
  | @cons p x l1 l2 h1 h2 ih=>
   intro i q
   cases i with
   |zero=>
    erw[List.getElem?_cons_zero,Option.some.injEq] at q
    subst q
    obtain⟨e1,e2,_⟩:=h1
    obtain⟨x1,x2,x3⟩:=x
    have e1:k=x1:=e1
    subst e1
    exact⟨x2,x3,rfl,e2⟩
   |succ j=>
    erw[List.getElem?_cons_succ] at q
    obtain⟨b,u,q1,q2⟩:=ih j q
    exact⟨b,u,by simpa using q1,q2⟩
 obtain⟨b,u,q1,q2⟩:=key r i q
 have hi:=entry_at l i
 rw[q1] at hi
 exact⟨_,b,hi,rfl,q2⟩
theorem z7E{P:Program}{w:World}{K:W.Frag}{tg:Expr}(a it:Addr)(o:Obj)(es:Array DictEntry)(ep:Nat)(hd:o.data= .dict es ep)(kvs:List (NK×V)):
 zbi P w K tg (ItD a o kvs) [it] it (fun i h=>h.IsKeyIter it a i es.size ep) where
 mem:=by simp
 obj:=fun i h st b hb=>by
  have e:b=it:=by simpa using hb
  subst e
  obtain⟨o,e,c,d⟩:=st
  exact⟨o,e,fun v z=>by rw[d] at z;cases z⟩
 keep:=fun i h h' st k=>st.at fun o e=>k it (by simp) o e
 item:=by
  intro X hP hw hK hc i pins s σ H E I hf st hg
  subst hP hw hK
  obtain⟨hi,hq⟩:=hg
  obtain⟨ho,_,_,es',ep',hd',hsz,hat⟩:=zaD I.hok hq
  rw[hd] at hd'
  cases hd'
  obtain⟨f0,f1,f2,f3,f4,f5⟩:=hf it (by simp)
  obtain⟨⟨k,v⟩,hk⟩: ∃p,kvs[i]? =some p:=⟨kvs[i],by simp[hi]⟩
  obtain⟨en,b,he,hb,hB⟩:=hat i k v hk
  refine z2g st ho hd he fun h' st' sb=> ?_
  have I1:Inv X pins σ H {s with heap:=h'}:=I.turned (t':=s.toks) (fun b o hb e=>(sb.2 b hb).trans e) f0 f1 f3 f4 f5
  obtain⟨o2,e2,c2,d2⟩:=id st'
  exact⟨_,rfl,z9i (s:={s with heap:=h'}) e2 c2 d2 (by decide) ⟨.ref b,H,I1,hb,⟨rfl,b,k,v,rfl,hk,hB⟩,st',fun b hb=>(hf b hb).1⟩⟩
 done:=by
  intro X hP hw hK hc i pins s σ H E I hf st hg
  subst hP hw hK
  obtain⟨hi,hq⟩:=hg
  obtain⟨ho,_,_,es',ep',hd',hsz,hat⟩:=zaD I.hok hq
  rw[hd] at hd'
  cases hd'
  obtain⟨f0,f1,f2,f3,f4,f5⟩:=hf it (by simp)
  exact z2S (I.ok.hd hc) st ho hd (by lia) fun h' eb=>⟨rfl,I.turned (t':=s.toks) (fun b o hb e=>eb b o hb e) f0 f1 f3 f4 f5⟩
 self:=fun _ _ _ _ _ st h=>wpAny_pyIter_keyiter st h
section
variable{X:Cx}{tg:Expr}
theorem Inv.freeze{pins:List (Addr×Obj)}{σ:St}{H:Hp}{s:Shared}{a:Addr}{kvs:List (NK×V)}(I:Inv X pins σ H s)(h:H a=some (.dT kvs)):
 ∃o es ep,s.heap.get? a=some o/\o.ExactDict/\o.data= .dict es ep/\(a==sysModules)=false/\es.size=kvs.length/\Inv X pins σ (upd H a (.frz o (.dT kvs))) s:=by
 obtain⟨z,y,xs,r,o,es,ep,e,c,d,l,nd⟩:=I.hok a _ h
 have hs:es.size=xs.length:=size_of_entries l
 have hl:kvs.length=xs.length:=Paired.length r
 refine⟨o,es,ep,e,c,d,y,by lia, ?_⟩
 have tn: ∀b xs,H b=some (.tup xs)->(upd H a (.frz o (.dT kvs))) b=some (.tup xs):=fun b xs q=>by
  rw[y6 (z0L q h (by intro z;cases z))];exact q
 have hw:=I.write (x:=a) (e:=a) (o:= .frz o (.dT kvs)) (h':=s.heap) (t':=s.toks) (by rw[h];trivial) (.inl rfl) (fun b u _ q=>q) ⟨o,e⟩
  ⟨e,z,y,xs,Paired.mapP r fun p q z=>⟨z.1,z.2.1.stay tn,z.2.2⟩,o,es,ep,e,c,d,l,nd⟩
 exact hw
end
noncomputable def U6(osc sc:Scope)(own frees N:List Str)(ix:List Nat):Bool:=
 decide (sc.kind= .function)&&sc.names.all (fun y=>decide (y.2≠ .cell))&&sc.names.all (fun y=>decide (y.2= .local->sc.names.lookup y.1=some .local))&&
  sc.names.all (fun y=>decide (y.2= .free->osc.names.lookup y.1=some .cell\/osc.names.lookup y.1=some .free))&&decide (own++frees).Nodup&&frees.all (fun x=>decide (sc.names.lookup x=some .free))&&
  decide (ix.map (fun i=>N[i]?)=frees.map some)
theorem U6.sc{osc sc:Scope}{own frees N:List Str}{ix:List Nat}(h:U6 osc sc own frees N ix=true):j4 osc sc own frees N ix:=by
 unfold U6 at h
 erw[i6,C2,decide_eq_true_eq] at h
 obtain⟨⟨⟨⟨⟨⟨h1,h2⟩,h3⟩,h4⟩,h5⟩,h6⟩,h7⟩:=h
 exact⟨h1,h2,h3,h4,h5,h6,h7⟩
theorem k9.new{H:Hp}{p:Addr}(o:HO)(h:H p=none):k9 H (upd H p o):=fun x u e=>by rw[y6 (J0 e h)];exact e
noncomputable def dT(ns:List Int):PyData:= .tuple (ns.map PyData.int)
theorem Paired.get{α β:Type}{F:α->β->Prop}: ∀{l₁:List α} {l₂:List β},Paired F l₁ l₂->∀(i:Nat) (a:α),l₁[i]? =some a->∃b,l₂[i]? =some b/\F a b
 |_,_, .nil,i,a,e=>by simp at e
 |_,_, .cons r t,0,a,e=>by simp at e;subst e;exact⟨_,rfl,r⟩
 |_,_, .cons r t,i+1,a,e=>by
  obtain⟨b,h1,h2⟩:=Paired.get t i a (by simpa using e)
  exact⟨b,by simpa using h1,h2⟩
theorem Paired.snoc{α β:Type}{F:α->β->Prop}: ∀{l₁:List α} {l₂:List β} {a:α} {b:β},Paired F l₁ l₂->F a b->Paired F (l₁++[a]) (l₂++[b])
 |_,_,_,_, .nil,h=> .cons h .nil
 |_,_,_,_, .cons r t,h=> .cons r (Paired.snoc t h)
noncomputable def z7F(K:W.Frag)(H:Hp)(xs:List V)(Q:VK):Prop:= ∀p H',(H'=H/\H p=some (.tup xs))\/(H p=none/\H'=upd H p (.tup xs))->Q (.ref p) H'
theorem z7F.intro{K:W.Frag}{H:Hp}{xs:List V}{Q:VK}(h: ∀p H',H' p=some (.tup xs)->k9 H H'->Q (.ref p) H'):z7F K H xs Q:=by
 intro p H' e
 rcases e with⟨rfl,s⟩|⟨n,rfl⟩
 ·exact h p H' s (k9.refl _)
 ·exact h p _ y9 (k9.new _ n)
section
variable{X:Cx}
noncomputable def zgR(K:W.Frag):V->Option Int->Option Int->Hp->VK->Prop:=fun x lo hi H Q=> ∃a xs,x= .ref a/\H a=some (.tup xs)/\z7F K H (z7n xs lo hi) Q
theorem zbR:SlR X (zgR X.K):=by
 intro pins s σ H x v vl vu lo hi sl Q I rx hs pl pu h
 obtain⟨a,xs,rfl,hx0,q⟩:=h
 have hx:SqT X.K H a xs:=SqT.of hx0
 by_cases hw:HT.sIx xs.length 0 lo=0/\HT.sIx xs.length xs.length hi=xs.length
 ·cases rx
  obtain⟨its,r,ht,hz⟩:=I.tuple hx
  have hlen:its.toArray.size=xs.length:=by rw[i8];exact r.length.symm
  refine⟨"tuple",_,PyProof.Rows.slot_tuple_getitem.lookup,ht.typeIs, ?_⟩
  refine HT.getItem_tuple_whole ht hs pl pu (by rw[hlen];exact hw) ⟨.ref a,H,I,rfl,q a H (.inl ⟨rfl, ?_⟩)⟩
  rw[z6v hw]
  exact hx0
 ·exact zdP pins s σ H _ v vl vu lo hi sl Q I rx hs pl pu ⟨a,xs,rfl,hx,hw,fun p hp=>q p _ (.inr ⟨hp,rfl⟩)⟩
noncomputable def z7G(K:W.Frag):R2:=fun x y H Q=> ∃a b xs ys,x= .ref a/\y= .ref b/\H a=some (.tup xs)/\H b=some (.tup ys)/\xs.length+ys.length<=sizeLine/\z7F K H (xs++ys) Q
theorem z4X:OpR X (binaryOp .Add) (z7G X.K):=by
 intro pins s σ H x y v u Q I rx ry h
 obtain⟨a,b,xs,ys,rfl,rfl,ha0,hb0,hz,q⟩:=h
 have ha:SqT X.K H a xs:=SqT.of ha0
 have hb:SqT X.K H b ys:=SqT.of hb0
 by_cases hx:xs=[]
 ·subst hx
  cases rx
  cases ry
  obtain⟨its,r1,p1,_⟩:=I.tuple ha
  obtain⟨its2,r2,p2,_⟩:=I.tuple hb
  have e0:its=[]:=(Q9.nil_iff r1).mpr rfl
  subst e0
  obtain⟨⟨cls,dd,data,sl⟩,ho,hc,n,hd⟩:=id p1
  obtain⟨⟨cls2,dd2,data2,sl2⟩,ho2,hc2,n2,hd2⟩:=id p2
  simp only at hc hd hc2 hd2
  subst hc hd hc2 hd2
  exact concat_meets ⟨_,ho,rfl⟩ ⟨_,ho2,rfl⟩ noFill_tuple_add seq_tuple_add PySem.F.slot_tuple_add PySem.F.entry_tuple_add (PySem.F.args_tuple_add_2 _ _)
   (tuple_addW0 a b _ _ n n2 dd dd2 sl sl2 (by simp)) ⟨ho,ho2, .ref b,H,I,rfl,q b H (.inl ⟨rfl,hb0⟩)⟩
 ·refine zbA pins s σ H _ _ v u Q I rx ry ⟨a,b,xs,ys,rfl,rfl,ha,hb,hx,hz,fun e=> ?_,fun _ p hp=>q p _ (.inr ⟨hp,rfl⟩)⟩
  refine q a H (.inl ⟨rfl, ?_⟩)
  rw[e,h9]
  exact ha0
theorem z7H:CallR X (.type "tuple") (fun xs H Q=> ∃(p:Addr) (ys:List V),xs=[.ref p]/\(SqL X.K H p ys\/H p=some (.tup ys))/\z7F X.K H ys Q):=by
 intro pins s σ H xs us Q I r h
 obtain⟨p,ys,rfl,hs,q⟩:=h
 refine z3q pins s σ H _ us Q I r ⟨p,ys,rfl, ?_⟩
 rcases hs with hs|hs
 ·exact .inl ⟨hs,fun l hl=>q l _ (.inr ⟨hl,rfl⟩)⟩
 ·exact .inr ⟨SqT.of hs,q p H (.inl ⟨rfl,hs⟩)⟩
end
end L2
namespace PyProof.Rows
open PySem
section
variable{prog:Program}{w:World}{A:Around}{E:Value->Shared->Prop}{s:Shared}
theorem z2h{h h':Heap}{t:Addr}{items:Array Value}(hl:h.IsList t items)(k: ∀o,h.get? t=some o->h'.get? t=some o):h'.IsList t items:=by
 obtain⟨o,ho,hc,n,hd⟩:=hl
 exact⟨o,k o ho,hc,n,hd⟩
theorem z4a{it t:Addr}{items:Array Value}(hne:t≠it): ∀(n i:Nat) (s:Shared) (Q:List Value->Shared->Prop),s.heap.IsListIter it t i->s.heap.IsList t items->i+n<=items.size->
 (∀h',h'.IsListIter it t (i+n)->Heap.SameBut it s.heap h'->Q ((items.toList.drop i).take n) {s with heap:=h'})->wpAny (model prog w) A (draw (.ref it) n) Q E s
 |0,i,s,Q,hit,_,_,hQ=>by
  show wpAny _ _ (pure []) Q E s
  exact wpAny_pure (by simpa using hQ s.heap hit (Heap.SameBut.refl ..))
 |n+1,i,s,Q,hit,ht,hle,hQ=>by
  have hlt:i<items.size:=by lia
  show wpAny _ _ (pyNext (.ref it)>>=_) Q E s
  refine wpAny_bind (wpAny_pyNext_list_item hit ht (x:=items[i]) (by simp[hlt]) fun h₁ hit₁ hs₁=> ?_)
  refine wpAny_bind (wpAny_holding (z4a hne n (i+1) _ _ hit₁ (z2h ht fun o e=>(hs₁.2 t hne).trans e) (by lia) fun h₂ hit₂ hs₂=>wpAny_pure ?_))
  have hd:items.toList.drop i=items[i]::items.toList.drop (i+1):=by simp[E9,hlt]
  have:=hQ h₂ (by rw[show i+(n+1)=i+1+n by lia];exact hit₂) (hs₁.trans hs₂)
  rw[hd,D8] at this
  exact this
theorem z1U{t:Addr}{items:Array Value}{Q:List Value->Shared->Prop}(hh:A.handled=none)(ht:s.heap.IsList t items)
 (hQ: ∀h',Heap.ExtBut s.heap.objs.size s.heap h'->Q items.toList {s with heap:=h'}):wpAny (model prog w) A (unpackItems (.ref t) items.size none) Q E s:=by
 have hlt:t≠s.heap.objs.size:=by obtain⟨o,ho,_⟩:=ht;exact l9 (Heap.lt_size ho)
 have hT:s.TypeIs (.ref t) "list" :=by obtain⟨o,ho,hc,_⟩:=ht;exact⟨o,ho,hc⟩
 unfold unpackItems
 refine wpAny_bind ?_
 ·unfold notIterableAtAll
  refine wpAny_bind (wpAny_specialOf hT PySem.F.slot_list_iter.lookup ?_)
  refine wpAny_pure ?_
  erw[s0,if_false]
  refine wpAny_bind (wpAny_holding (wpAny_pyIter_list ht ?_))
  refine wpAny_bind (wpAny_holding (z4a hlt items.size 0 _ _ ⟨_,Heap.get?_push_size _ rfl,rfl,rfl⟩ (z2h ht fun o e=>Heap.get?_push_of_some _ e) (by lia) fun h₁ hit₁ hs₁=> ?_))
  have hall:List.take items.size (List.drop 0 items.toList)=items.toList:=by
   rw[F7];exact F8 (by simp)
  rw[hall]
  rw[if_neg (by simp)]
  have ht₁:h₁.IsList t items:=z2h ht fun o e=>(hs₁.2 t hlt).trans (Heap.get?_push_of_some _ e)
  refine wpAny_bind (wpAny_holding (wpAny_pyNext_list_end hh hit₁ ht₁ (by simp) fun h₂ he₂=> ?_))
  erw[Option.isSome_none,s0,if_false]
  refine wpAny_pure (hQ h₂ fun b o hb e=>he₂ b o hb (hs₁.extBut b o hb (Heap.get?_push_of_some _ e)))
theorem z1w{env:Env}{elts:List Expr}{x1}{pos:Pos}{t:Addr}{items:Array Value}{Q:Unit->Shared->Prop}(hh:A.handled=none)(ht:s.heap.IsList t items)
 (hn:(assignEach elts env).length=items.size) (hstar:(assignEach elts env).findIdx? (·.1)=none)
 (h: ∀h',Heap.ExtBut s.heap.objs.size s.heap h'->wpAny (model prog w) A (assignInOrder ((assignEach elts env).map (·.2)) items.toList) Q E {s with heap:=h'}):
 wpAny (model prog w) A (assign (.Tuple elts x1 pos) env (.ref t)) Q E s:=by
 rw[assign_Tuple]
 refine wpAny_bind (wpAny_standAt ?_)
 unfold unpack
 rw[hn,hstar]
 exact wpAny_bind (wpAny_holding (z1U hh ht h))
end
end PyProof.Rows
namespace L2
open PySem PySem.Spec PyProof.Rows
section
variable{X:Cx}{pos:Pos}
noncomputable def ziM(K:W.Frag)(n:Nat)(t:TGs):TG:=fun v σ H Q=> ∃a xs,v= .ref a/\(SqT K H a xs\/SqL K H a xs)/\xs.length=n/\t xs σ H Q
theorem zeh{es:List Expr}{k:Nat}{t:TGs}{n:Nat}(hc:X.calm=true)(h:PGs X es t)
 (hn:(assignEach es X.env).length=n:=by rfl) (hst:(assignEach es X.env).findIdx? (·.1)=none:=by rfl):PG X (.Tuple es k pos) (ziM X.K n t):=by
 intro pins s σ H v u Q I r hw
 obtain⟨a,xs,e1,hq|hq,hl,hw⟩:=hw
 ·exact zaq hc h hn hst pins s σ H v u Q I r ⟨a,xs,e1,hq,hl,hw⟩
 ·subst e1
  cases r
  obtain⟨its,rv,ht,hz⟩:=I.list hq
  refine z1w (I.ok.hd hc) ht.isList (by simp[hn,<-hl,rv.length]) hst fun h' hx=> ?_
  have I1:Inv X pins σ H {s with heap:=h'}:=I.kept (t':=s.toks) fun b o e=>hx b o (l9 (Heap.lt_size e)) e
  exact h pins _ σ H xs _ Q I1 (by simpa using rv) hw
end
theorem z1V:fillsNumberSlot (.type "tuple") "mul" =pure false:=
 PySem.fillsNumberSlot_seq (id:= "tuple.__mul__") (r:=some (.builtin "tuple.__rmul__")) F.slot_tuple_mul.lookup (by decide+kernel) F.slot_tuple_rmul.lookup (by decide+kernel)
theorem z4b:seqRepeat? (.type "tuple")=pure (some (.builtin "tuple.__mul__")):=by
 unfold seqRepeat?
 rw[PySem.seqSlot_of (T:= "tuple") (name:= "__mul__") (id:= "tuple.__mul__") F.slot_tuple_mul.lookup (by decide+kernel),PySem.seqSlot_of (T:= "tuple") (name:= "__rmul__") (id:= "tuple.__rmul__") F.slot_tuple_rmul.lookup (by decide+kernel)]
 rfl
theorem z2T(a:Int)(t:Tok)(l:Addr)(items:Array Value)(n:Nat)(dd:Option Addr)(sl:Array (Option Value)):
 Meets (Builtin.«int.__rmul__» ⟨[.int a t, .ref l],[]⟩) (fun _ R s=>s.heap.get? l=some {cls:= .type "tuple",dict:=dd,data:= .seq items n,slots:=sl}/\R (.ok (.ret Value.notImplemented)) s):=
 .of_wp fun prog w A R s h=>by obtain⟨hp,g,d,tk,os⟩:=s;obtain⟨hl,h⟩:=h;wp_walk;exact⟨_,rfl,h⟩
theorem z6x(l:Addr)(items:Array Value)(n:Nat)(dd:Option Addr)(sl:Array (Option Value))(x:Int)(u:Tok)(hc0: ¬(decide (x< -(2^63))||decide (x≥2^63))=true)(hc1: ¬(items.isEmpty||x==1)=true)(hc2: ¬(decide (x<=0)||items.isEmpty)=true)(hc3: ¬((items.size:Int)*x>(2^63 - 1)/8))(hc4: ¬Builtin.Tuple.tupleTooMany ((items.size:Int)*x)=true)(hsz:(M7 (fun x1 x2=>x1++x2) #[] (i7 x.toNat items)).size<=sizeLine):
 Meets (Builtin.«tuple.__mul__» ⟨[.ref l, .int x u],[]⟩) (fun _ R s=>s.heap.get? l=some {cls:= .type "tuple",dict:=dd,data:= .seq items n,slots:=sl}/\R (.ok (.ret (Value.ref s.heap.objs.size))) {s with heap:=s.heap.push {cls:=Value.type "tuple",data:=Data.seq (M7 (fun x1 x2=>x1++x2) #[] (i7 x.toNat items))},toks:=s.toks}):=
 .of_wp fun prog w A R s h=>by
  obtain⟨hp,g,d,tk,os⟩:=s;obtain⟨hl,h⟩:=h
  have f1:=AutoSeq1.idx_int;have f2:=AutoSeq1.sub_tuple_tuple
  wp_walk using AutoSeq1.wpAny_loadPart' hl
  rw[if_neg hc0]
  wp_walk using AutoSeq1.wpAny_loadPart' hl
  rw[if_neg hc3]
  wp_walk using AutoSeq1.wpAny_loadPart' hl
  exact⟨_,rfl,h⟩
section
variable{X:Cx}
noncomputable def zbS(K:W.Frag):R2:=fun x y H Q=> ∃a k xs,x= .ref a/\y= .int k/\SqT K H a xs/\0<xs.length/\2<=k/\k<2^63/\xs.length*k.toNat<=sizeLine/\
 ∀p,H p=none->Q (.ref p) (upd H p (.tup (i7 k.toNat xs).flatten))
theorem zbT:OpR X (binaryOp .Mult) (zbS X.K):=by
 intro pins s σ H x y v u Q I rx ry h
 obtain⟨a,k,xs,rfl,rfl,ha,h0,h1,h2,hz,q⟩:=h
 cases rx
 obtain⟨t,rfl⟩:=ry
 obtain⟨its,r,p1,_⟩:=I.tuple ha
 obtain⟨⟨cls,dd,data,sl⟩,e,hc,n,hd⟩:=id p1
 simp only at hc hd
 subst hc hd
 have hlen:its.length=xs.length:=r.length.symm
 have hne:its.toArray.isEmpty=false:=by
  cases its with
  |nil=>simp at hlen;lia
  |cons a r=>simp
 have hnew:M7 (fun x1 x2=>x1++x2) #[] (i7 k.toNat its.toArray)=(i7 k.toNat its).flatten.toArray:=by
  have:=z26 its k.toNat []
  rw[m5] at this
  exact this
 have hl2:((its.toArray.size:Nat):Int)*k=((xs.length*k.toNat:Nat):Int):=by
  rw[i8,hlen,Int.natCast_mul,Int.toNat_of_nonneg (by lia)]
 have hs:(sizeLine:Nat)=16777216:=rfl
 refine wpAny_binaryOp_repeat_ref (T:= "tuple") (U:= "int") (by decide) ⟨_,e,rfl⟩ (fun s'=>typeIs_int s' k t) z1V F.fills_int_mul F.slot_int_rmul z4b F.slot_int_index.lookup
  (call_meets F.slot_int_rmul (typeIs_int s k t) F.entry_int_rmul (F.args_int_rmul_2 _ _) (z2T k t a its.toArray n dd sl)
   ⟨e,rfl,⟨_,e,rfl⟩,call_meets F.slot_tuple_mul ⟨_,e,rfl⟩ F.entry_tuple_mul (F.args_tuple_mul_2 _ _) (z6x a its.toArray n dd sl k t (by simp;lia) (by rw[hne];simp;lia) (by rw[hne];simp;lia) (by rw[hl2];clear hl2;generalize xs.length*k.toNat=m at hz⊢;lia) (by rw[hl2];clear hl2;generalize xs.length*k.toNat=m at hz⊢;unfold Builtin.Tuple.tupleTooMany;rw[decide_eq_true_eq];lia) (by rw[hnew,i8,z4R,hlen,P9];exact hz)) ⟨e, ?_⟩⟩)
 rw[hnew]
 refine⟨.ref s.heap.objs.size,_,I.laid (t':=s.toks) (o:= .tup (i7 k.toNat xs).flatten) (fun b ob q=>Heap.get?_push_of_some _ q) (c8 _) ?_,rfl,q _ (I.hok.fresh (c8 _))⟩
 exact⟨by rw[z4R,P9];exact hz,_,r.rep k.toNat,IsTup.new _ _⟩
end
end L2
namespace Mi
open PySem L2
inductive D where
 |non|bool (b:Bool)|int (i:Int)|str (x:Str)
 |tup (ds:List D)|ro (ds:List D)|lst (l:Nat) (ds:List D)
 |dct (l:Nat) (ks vs:List D)|obj (l:Nat) (c:Str) (ns:List Str) (vs:List D)
 |exc (c:Str)|fn (c:Str)|fdc (ks vs:List D)
deriving Inhabited
mutual
noncomputable def y3:D->List Nat
 | .tup ds=>labsL ds
 | .ro ds=>labsL ds
 | .fdc _ vs=>labsL vs
 | .lst l ds=>l::labsL ds
 | .dct l ks vs=>l::(labsL ks++labsL vs)
 | .obj l _ _ vs=>l::labsL vs
 | .non=>[]| .bool _=>[]| .int _=>[]| .str _=>[]| .exc _=>[]| .fn _=>[]
noncomputable def labsL:List D->List Nat
 |[]=>[]
 |d::ds=>y3 d++labsL ds
end
noncomputable def Z9:List (Option D)->List Nat
 |[]=>[]
 |none::r=>Z9 r
 |some d::r=>y3 d++Z9 r
structure Gx where
 K:W.Frag
 cl:Str->Option Addr
 ci: ∀c c' a,cl c=some a->cl c'=some a->c=c'
 ck: ∀c a,cl c=some a->∃o,K.lookup a=some o/\∀its n,o.data≠ .seq its n
noncomputable def z3T:Key->D
 | .inl i=> .int i
 | .inr x=> .str x
noncomputable def nkD:Key⊕List Key->D
 | .inl k=>z3T k
 | .inr ks=> .tup (ks.map z3T)
noncomputable def dkD(k:NK):D:= .tup (k.map nkD)
noncomputable def RoL(K:W.Frag)(H:Hp)(a:Addr)(xs:List V):Prop:=
 (∃o,H a=some (.frz o (.lst xs)))\/∃(o:Obj) (its:Array Value) (n:Nat),K.lookup a=some o/\o.cls= .type "list" /\o.dict=none/\o.data= .seq its n/\its.size<=sizeLine/\Q9 xs its.toList
theorem RoL.sq{K:W.Frag}{H:Hp}{a:Addr}{xs:List V}(h:RoL K H a xs):SqL K H a xs:=by
 rcases h with⟨o,h⟩|h
 ·exact .inl (.inr ⟨o,h⟩)
 ·exact .inr h
mutual
noncomputable def RD(G:Gx)(ρ:Nat->Addr)(H:Hp):D->V->Prop
 | .non,v=>v= .non
 | .bool b,v=>v= .bl b
 | .int i,v=>v= .int i
 | .str x,v=>v= .str x
 | .exc c,v=> ∃a o C,v= .ref a/\G.cl c=some C/\o.cls= .ref C/\(∃vs,o.data= .fields vs)/\H a=some (.frz o (.ext fun _=>True))
 | .fn c,v=> ∃a,v= .ref a/\G.cl c=some a
 | .tup ds,v=> ∃a xs,v= .ref a/\H a=some (.tup xs)/\RDs G ρ H ds xs
 | .ro ds,v=> ∃a xs,v= .ref a/\RoL G.K H a xs/\RDs G ρ H ds xs
 | .fdc ks vs,v=> ∃(a:Addr) (o:Obj) (kvs:List (NK×V)),v= .ref a/\H a=some (.frz o (.dT kvs))/\ks=kvs.map (fun p=>dkD p.1)/\RDs G ρ H vs (kvs.map (·.2))
 | .lst l ds,v=>v= .ref (ρ l)/\∃xs,H (ρ l)=some (.lst xs)/\RDs G ρ H ds xs
 | .dct l ks vs,v=>v= .ref (ρ l)/\((∃kvs:List (Key×V),H (ρ l)=some (.dK kvs)/\ks=D.non::kvs.map (fun p=>z3T p.1)/\RDs G ρ H vs (kvs.map (·.2)))\/
  (∃kvs:List (NK×V),H (ρ l)=some (.dT kvs)/\ks=kvs.map (fun p=>dkD p.1)/\RDs G ρ H vs (kvs.map (·.2))))
 | .obj l c ns vs,v=>v= .ref (ρ l)/\∃C dx fs,G.cl c=some C/\H (ρ l)=some (.ins C dx fs)/\ns=fs.map (·.1)/\RDs G ρ H vs (fs.map (·.2))
noncomputable def RDs(G:Gx)(ρ:Nat->Addr)(H:Hp):List D->List V->Prop
 |[],xs=>xs=[]
 |d::ds,xs=> ∃x r,xs=x::r/\RD G ρ H d x/\RDs G ρ H ds r
end
structure G2(H H':Hp):Prop where
 t: ∀b xs,H b=some (.tup xs)->H' b=some (.tup xs)
 f: ∀b o u,H b=some (.frz o u)->H' b=some (.frz o u)
theorem G2.refl(H:Hp):G2 H H:=⟨fun _ _ h=>h,fun _ _ _ h=>h⟩
theorem G2.of{H H':Hp}(h:k9 H H'):G2 H H':=⟨fun _ _ e=>h _ _ e,fun _ _ _ e=>h _ _ e⟩
theorem G2.ro{K:W.Frag}{H H':Hp}(t:G2 H H'){a:Addr}{xs:List V}(h:RoL K H a xs):RoL K H' a xs:=by
 rcases h with⟨o,h⟩|h
 ·exact .inl ⟨o,t.f _ _ _ h⟩
 ·exact .inr h
section
variable{G:Gx}{ρ ρ':Nat->Addr}{H H':Hp}
mutual
theorem RD.stay(ts:G2 H H'): ∀(t:D) (v:V),RD G ρ H t v->(∀l∈y3 t,ρ' l=ρ l/\∀o,H (ρ l)=some o->H' (ρ l)=some o)->RD G ρ' H' t v
 | .non,v,h,_=>by erw[RD] at h⊢;exact h
 | .bool b,v,h,_=>by erw[RD] at h⊢;exact h
 | .int b,v,h,_=>by erw[RD] at h⊢;exact h
 | .str b,v,h,_=>by erw[RD] at h⊢;exact h
 | .exc b,v,h,_=>by
  erw[RD] at h⊢
  obtain⟨a,o,C,e,h1,h2,h3,h5⟩:=h
  exact⟨a,o,C,e,h1,h2,h3,ts.f _ _ _ h5⟩
 | .fn b,v,h,_=>by erw[RD] at h⊢;exact h
 | .tup ds,v,h,hl=>by
  erw[RD,y3] at h hl⊢
  obtain⟨a,xs,e,s,r⟩:=h
  exact⟨a,xs,e,ts.t _ _ s,RDs.stay ts ds xs r hl⟩
 | .ro ds,v,h,hl=>by
  erw[RD,y3] at h hl⊢
  obtain⟨a,xs,e,s,r⟩:=h
  exact⟨a,xs,e,ts.ro s,RDs.stay ts ds xs r hl⟩
 | .fdc ks vs,v,h,hl=>by
  erw[RD,y3] at h hl⊢
  obtain⟨a,o,kvs,e,s,s2,r⟩:=h
  exact⟨a,o,kvs,e,ts.f _ _ _ s,s2,RDs.stay ts vs _ r hl⟩
 | .lst l ds,v,h,hl=>by
  erw[RD,y3] at h hl⊢
  obtain⟨e,xs,s,r⟩:=h
  obtain⟨e1,e2⟩:=hl l (i3 ..)
  rw[e1]
  exact⟨e,xs,e2 _ s,RDs.stay ts ds xs r fun k hk=>hl k (b8 _ hk)⟩
 | .dct l ks vs,v,h,hl=>by
  erw[RD,y3] at h hl⊢
  obtain⟨e,s⟩:=h
  obtain⟨e1,e2⟩:=hl l (i3 ..)
  rw[e1]
  refine⟨e, ?_⟩
  rcases s with⟨kvs,s,s2,r⟩|⟨kvs,s,s2,r⟩
  ·exact .inl ⟨kvs,e2 _ s,s2,RDs.stay ts vs _ r fun k hk=>hl k (b8 _ (b6 _ hk))⟩
  ·exact .inr ⟨kvs,e2 _ s,s2,RDs.stay ts vs _ r fun k hk=>hl k (b8 _ (b6 _ hk))⟩
 | .obj l c ns vs,v,h,hl=>by
  erw[RD,y3] at h hl⊢
  obtain⟨e,C,dx,fs,hC,s,s2,r⟩:=h
  obtain⟨e1,e2⟩:=hl l (i3 ..)
  rw[e1]
  exact⟨e,C,dx,fs,hC,e2 _ s,s2,RDs.stay ts vs _ r fun k hk=>hl k (b8 _ hk)⟩
theorem RDs.stay(ts:G2 H H'): ∀(t:List D) (v:List V),RDs G ρ H t v->(∀l∈labsL t,ρ' l=ρ l/\∀o,H (ρ l)=some o->H' (ρ l)=some o)->RDs G ρ' H' t v
 |[],v,h,_=>by erw[RDs] at h⊢;exact h
 |d::ds,v,h,hl=>by
  erw[RDs,labsL] at h hl⊢
  obtain⟨x,r,e,h1,h2⟩:=h
  exact⟨x,r,e,RD.stay ts d x h1 fun l hk=>hl l (b9 _ hk),RDs.stay ts ds r h2 fun l hk=>hl l (b6 _ hk)⟩
end
end
mutual
noncomputable def rp(f:Nat->Option D):D->D
 | .tup ds=> .tup (rpL f ds)
 | .ro ds=> .ro (rpL f ds)
 | .fdc ks vs=> .fdc ks (rpL f vs)
 | .lst l ds=>match f l with|some d=>d|none=> .lst l (rpL f ds)
 | .dct l ks vs=>match f l with|some d=>d|none=> .dct l ks (rpL f vs)
 | .obj l c ns vs=>match f l with|some d=>d|none=> .obj l c ns (rpL f vs)
 | .non=> .non| .bool b=> .bool b| .int i=> .int i| .str x=> .str x| .exc x=> .exc x| .fn x=> .fn x
noncomputable def rpL(f:Nat->Option D):List D->List D
 |[]=>[]
 |d::ds=>rp f d::rpL f ds
end
noncomputable def rpO(f:Nat->Option D):List (Option D)->List (Option D)
 |[]=>[]
 |none::r=>none::rpO f r
 |some d::r=>some (rp f d)::rpO f r
section
variable{f:Nat->Option D}
mutual
theorem z7I: ∀t:D,(∀l∈y3 t,f l=none)->rp f t=t
 | .non,_=>rfl
 | .bool b,_=>rfl
 | .int b,_=>rfl
 | .str b,_=>rfl
 | .exc b,_=>rfl
 | .fn b,_=>rfl
 | .tup ds,h=>by erw[rp,y3] at h⊢;rw[rpL_id ds h]
 | .ro ds,h=>by erw[rp,y3] at h⊢;rw[rpL_id ds h]
 | .fdc ks vs,h=>by erw[rp,y3] at h⊢;rw[rpL_id vs h]
 | .lst l ds,h=>by
  erw[rp,y3] at h⊢
  rw[h l (i3 ..),rpL_id ds fun k hk=>h k (b8 _ hk)]
 | .dct l ks vs,h=>by
  erw[rp,y3] at h⊢
  rw[h l (i3 ..),rpL_id vs fun k hk=>h k (b8 _ (b6 _ hk))]
 | .obj l c ns vs,h=>by
  erw[rp,y3] at h⊢
  rw[h l (i3 ..),rpL_id vs fun k hk=>h k (b8 _ hk)]
theorem rpL_id: ∀t:List D,(∀l∈labsL t,f l=none)->rpL f t=t
 |[],_=>rfl
 |d::ds,h=>by
  erw[rpL,labsL] at h⊢
  rw[z7I d fun l hk=>h l (b9 _ hk),rpL_id ds fun l hk=>h l (b6 _ hk)]
end
theorem z7J: ∀t:List (Option D),(∀l∈Z9 t,f l=none)->rpO f t=t
 |[],_=>rfl
 |none::r,h=>by erw[rpO,Z9] at h⊢;rw[z7J r h]
 |some d::r,h=>by
  erw[rpO,Z9] at h⊢
  rw[z7I d fun l hk=>h l (b9 _ hk),z7J r fun l hk=>h l (b6 _ hk)]
end
section
variable{G:Gx}{ρ ρ':Nat->Addr}{H H':Hp}{f:Nat->Option D}
mutual
theorem RD.rp(ts:G2 H H'): ∀(t:D) (v:V),RD G ρ H t v->(∀l∈y3 t,ρ' l=ρ l/\(match f l with|some d=>RD G ρ' H' d (.ref (ρ l))|none=> ∀o,H (ρ l)=some o->H' (ρ l)=some o))->RD G ρ' H' (rp f t) v
 | .non,v,h,_=>by erw[Mi.rp,RD] at h⊢;exact h
 | .bool b,v,h,_=>by erw[Mi.rp,RD] at h⊢;exact h
 | .int b,v,h,_=>by erw[Mi.rp,RD] at h⊢;exact h
 | .str b,v,h,_=>by erw[Mi.rp,RD] at h⊢;exact h
 | .exc b,v,h,_=>by
  erw[Mi.rp,RD] at h⊢
  obtain⟨a,o,C,e,h1,h2,h3,h5⟩:=h
  exact⟨a,o,C,e,h1,h2,h3,ts.f _ _ _ h5⟩
 | .fn b,v,h,_=>by erw[Mi.rp,RD] at h⊢;exact h
 | .tup ds,v,h,hl=>by
  erw[Mi.rp,RD,y3] at h hl⊢
  obtain⟨a,xs,e,s,r⟩:=h
  exact⟨a,xs,e,ts.t _ _ s,RDs.rp ts ds xs r hl⟩
 | .ro ds,v,h,hl=>by
  erw[Mi.rp,RD,y3] at h hl⊢
  obtain⟨a,xs,e,s,r⟩:=h
  exact⟨a,xs,e,ts.ro s,RDs.rp ts ds xs r hl⟩
 | .fdc ks vs,v,h,hl=>by
  erw[Mi.rp,RD,y3] at h hl⊢
  obtain⟨a,o,kvs,e,s,s2,r⟩:=h
  exact⟨a,o,kvs,e,ts.f _ _ _ s,s2,RDs.rp ts vs _ r hl⟩
 | .lst l ds,v,h,hl=>by
  erw[Mi.rp,RD,y3] at h hl⊢
  obtain⟨e,xs,s,r⟩:=h
  obtain⟨e1,e2⟩:=hl l (i3 ..)
  cases ef:f l with
  |some d=>rw[ef] at e2;subst e;exact e2
  |none=>
   rw[ef] at e2
   erw[RD]
   rw[e1]
   exact⟨e,xs,e2 _ s,RDs.rp ts ds xs r fun k hk=>hl k (b8 _ hk)⟩
 | .dct l ks vs,v,h,hl=>by
  erw[Mi.rp,RD,y3] at h hl⊢
  obtain⟨e,s⟩:=h
  obtain⟨e1,e2⟩:=hl l (i3 ..)
  cases ef:f l with
  |some d=>rw[ef] at e2;subst e;exact e2
  |none=>
   rw[ef] at e2
   erw[RD]
   rw[e1]
   refine⟨e, ?_⟩
   rcases s with⟨kvs,s,s2,r⟩|⟨kvs,s,s2,r⟩
   ·exact .inl ⟨kvs,e2 _ s,s2,RDs.rp ts vs _ r fun k hk=>hl k (b8 _ (b6 _ hk))⟩
   ·exact .inr ⟨kvs,e2 _ s,s2,RDs.rp ts vs _ r fun k hk=>hl k (b8 _ (b6 _ hk))⟩
 | .obj l c ns vs,v,h,hl=>by
  erw[Mi.rp,RD,y3] at h hl⊢
  obtain⟨e,C,dx,fs,hC,s,s2,r⟩:=h
  obtain⟨e1,e2⟩:=hl l (i3 ..)
  cases ef:f l with
  |some d=>rw[ef] at e2;subst e;exact e2
  |none=>
   rw[ef] at e2
   erw[RD]
   rw[e1]
   exact⟨e,C,dx,fs,hC,e2 _ s,s2,RDs.rp ts vs _ r fun k hk=>hl k (b8 _ hk)⟩
theorem RDs.rp(ts:G2 H H'): ∀(t:List D) (v:List V),RDs G ρ H t v->(∀l∈labsL t,ρ' l=ρ l/\(match f l with|some d=>RD G ρ' H' d (.ref (ρ l))|none=> ∀o,H (ρ l)=some o->H' (ρ l)=some o))->RDs G ρ' H' (rpL f t) v
 |[],v,h,_=>by erw[rpL,RDs] at h⊢;exact h
 |d::ds,v,h,hl=>by
  erw[rpL,RDs,labsL] at h hl⊢
  obtain⟨x,r,e,h1,h2⟩:=h
  exact⟨x,r,e,RD.rp ts d x h1 fun l hk=>hl l (b9 _ hk),RDs.rp ts ds r h2 fun l hk=>hl l (b6 _ hk)⟩
end
end
section
variable{f:Nat->Option D}
mutual
theorem z7K(l:Nat): ∀t:D,l∈y3 (rp f t)->l∈y3 t\/∃k d,k∈y3 t/\f k=some d/\l∈y3 d
 | .non,h=>by erw[rp,y3] at h;cases h
 | .bool b,h=>by erw[rp,y3] at h;cases h
 | .int b,h=>by erw[rp,y3] at h;cases h
 | .str b,h=>by erw[rp,y3] at h;cases h
 | .exc b,h=>by erw[rp,y3] at h;cases h
 | .fn b,h=>by erw[rp,y3] at h;cases h
 | .tup ds,h=>by
  erw[rp,y3] at h⊢
  exact labsL_rp l ds h
 | .ro ds,h=>by
  erw[rp,y3] at h⊢
  exact labsL_rp l ds h
 | .fdc ks vs,h=>by
  erw[rp,y3] at h⊢
  exact labsL_rp l vs h
 | .lst k ds,h=>by
  erw[rp] at h
  cases e:f k with
  |some d=>rw[e] at h;exact .inr ⟨k,d,by erw[y3];exact i3 ..,e,h⟩
  |none=>
   rw[e] at h
   erw[y3] at h⊢
   rcases i5.mp h with h|h
   ·exact .inl (i5.mpr (.inl h))
   ·rcases labsL_rp l ds h with q|⟨k',d,q1,q2,q3⟩
    ·exact .inl (b8 _ q)
    ·exact .inr ⟨k',d,b8 _ q1,q2,q3⟩
 | .dct k ks vs,h=>by
  erw[rp] at h
  cases e:f k with
  |some d=>rw[e] at h;exact .inr ⟨k,d,by erw[y3];exact i3 ..,e,h⟩
  |none=>
   rw[e] at h
   erw[y3] at h⊢
   rcases i5.mp h with h|h
   ·exact .inl (i5.mpr (.inl h))
   ·rcases c9.mp h with h|h
    ·exact .inl (b8 _ (b9 _ h))
    ·rcases labsL_rp l vs h with q|⟨k',d,q1,q2,q3⟩
     ·exact .inl (b8 _ (b6 _ q))
     ·exact .inr ⟨k',d,b8 _ (b6 _ q1),q2,q3⟩
 | .obj k c ns vs,h=>by
  erw[rp] at h
  cases e:f k with
  |some d=>rw[e] at h;exact .inr ⟨k,d,by erw[y3];exact i3 ..,e,h⟩
  |none=>
   rw[e] at h
   erw[y3] at h⊢
   rcases i5.mp h with h|h
   ·exact .inl (i5.mpr (.inl h))
   ·rcases labsL_rp l vs h with q|⟨k',d,q1,q2,q3⟩
    ·exact .inl (b8 _ q)
    ·exact .inr ⟨k',d,b8 _ q1,q2,q3⟩
theorem labsL_rp(l:Nat): ∀t:List D,l∈labsL (rpL f t)->l∈labsL t\/∃k d,k∈labsL t/\f k=some d/\l∈y3 d
 |[],h=>by erw[rpL,labsL] at h;cases h
 |d::ds,h=>by
  erw[rpL,labsL] at h⊢
  rcases c9.mp h with h|h
  ·rcases z7K l d h with q|⟨k',d,q1,q2,q3⟩
   ·exact .inl (b9 _ q)
   ·exact .inr ⟨k',d,b9 _ q1,q2,q3⟩
  ·rcases labsL_rp l ds h with q|⟨k',d,q1,q2,q3⟩
   ·exact .inl (b6 _ q)
   ·exact .inr ⟨k',d,b6 _ q1,q2,q3⟩
end
theorem z1Y(l:Nat): ∀t:List (Option D),l∈Z9 (rpO f t)->l∈Z9 t\/∃k d,k∈Z9 t/\f k=some d/\l∈y3 d
 |[],h=>by erw[rpO,Z9] at h;cases h
 |none::r,h=>by erw[rpO,Z9] at h⊢;exact z1Y l r h
 |some d::ds,h=>by
  erw[rpO,Z9] at h⊢
  rcases c9.mp h with h|h
  ·rcases z7K l d h with q|⟨k',d,q1,q2,q3⟩
   ·exact .inl (b9 _ q)
   ·exact .inr ⟨k',d,b9 _ q1,q2,q3⟩
  ·rcases z1Y l ds h with q|⟨k',d,q1,q2,q3⟩
   ·exact .inl (b6 _ q)
   ·exact .inr ⟨k',d,b6 _ q1,q2,q3⟩
end
structure Stt where
 σ:List (Option D)
 tm:List (Option D)
 n:Nat
structure Fx where
 A0:Addr->Prop
 H0:Hp
 Z:Addr->Prop
 zA: ∀a,Z a->(∃o,H0 a=some o)/\¬A0 a
 aH: ∀a,A0 a->∃o,H0 a=some o
 n0:Nat
 ρ0:Nat->Addr
noncomputable def KD(K:W.Frag)(H:Hp):Prop:= ∀a o,K.lookup a=some o->H a=none
section
variable(G:Gx)(ρ:Nat->Addr)(H:Hp)
noncomputable def Sl:List (Option D)->List (Option V)->Prop
 |[],vs=>vs=[]
 |none::r,vs=> ∃o q,vs=o::q/\Sl r q
 |some d::r,vs=> ∃v q,vs=some v::q/\RD G ρ H d v/\Sl r q
end
noncomputable def J7(s:Stt):List Nat:=Z9 s.σ++Z9 s.tm
structure MR(G:Gx)(F:Fx)(ρ:Nat->Addr)(H:Hp)(σv tv:List (Option V))(s:Stt):Prop where
 sl:Sl G ρ H s.σ σv
 tm:Sl G ρ H s.tm tv
 inj: ∀i j,i<s.n->j<s.n->ρ i=ρ j->i=j
 dom: ∀l,l<s.n->∃o,H (ρ l)=some o
 lab: ∀l∈J7 s,l<s.n
 own: ∀l∈J7 s,F.A0 (ρ l)\/F.H0 (ρ l)=none
 frm: ∀a o,F.H0 a=some o->(∃o',H a=some o')/\(¬F.A0 a->H a=some o)
 kd:KD G.K H
 frb: ∀l,l<s.n->¬F.Z (ρ l)
 bas:F.n0<=s.n/\∀l,l<F.n0->ρ l=F.ρ0 l
noncomputable def Stt.psh(s:Stt)(t:D):Stt:={s with tm:=some t::s.tm}
noncomputable def Stt.nxt(s:Stt):Stt:={s with n:=s.n+1}
section
variable{G:Gx}{F:Fx}{ρ ρ':Nat->Addr}{H H':Hp}{σv tv:List (Option V)}{s:Stt}{t:D}{v:V}
theorem Sl.stay(ts:G2 H H'): ∀{σ:List (Option D)} {σv:List (Option V)},Sl G ρ H σ σv->(∀l∈Z9 σ,ρ' l=ρ l/\∀o,H (ρ l)=some o->H' (ρ l)=some o)->Sl G ρ' H' σ σv
 |[],_,h,_=>h
 |none::r,_,h,hl=>by
  erw[Sl,Z9] at h hl⊢
  obtain⟨o,q,e,h⟩:=h
  exact⟨o,q,e,Sl.stay ts h hl⟩
 |some d::r,_,h,hl=>by
  erw[Sl,Z9] at h hl⊢
  obtain⟨o,q,e,h1,h⟩:=h
  exact⟨o,q,e,RD.stay ts d o h1 fun l hk=>hl l (b9 _ hk),Sl.stay ts h fun l hk=>hl l (b6 _ hk)⟩
theorem Sl.rp{f:Nat->Option D}(ts:G2 H H'): ∀{σ:List (Option D)} {σv:List (Option V)},Sl G ρ H σ σv->
 (∀l∈Z9 σ,ρ' l=ρ l/\(match f l with|some d=>RD G ρ' H' d (.ref (ρ l))|none=> ∀o,H (ρ l)=some o->H' (ρ l)=some o))->Sl G ρ' H' (rpO f σ) σv
 |[],_,h,_=>h
 |none::r,_,h,hl=>by
  erw[Sl,Z9,rpO] at h hl⊢
  obtain⟨o,q,e,h⟩:=h
  exact⟨o,q,e,Sl.rp ts h hl⟩
 |some d::r,_,h,hl=>by
  erw[Sl,Z9,rpO] at h hl⊢
  obtain⟨o,q,e,h1,h⟩:=h
  exact⟨o,q,e,RD.rp ts d o h1 fun l hk=>hl l (b9 _ hk),Sl.rp ts h fun l hk=>hl l (b6 _ hk)⟩
theorem Sl.get: ∀{σ:List (Option D)} {σv:List (Option V)},Sl G ρ H σ σv->∀(i:Nat) (d:D),σ[i]? =some (some d)->∃v,σv[i]? =some (some v)/\RD G ρ H d v
 |[],_,_,i,d,e=>by simp at e
 |none::r,_,h,i,d,e=>by
  erw[Sl] at h
  obtain⟨o,q,rfl,h⟩:=h
  cases i with
  |zero=>simp at e
  |succ i=>simpa using Sl.get h i d (by simpa using e)
 |some d'::r,_,h,i,d,e=>by
  erw[Sl] at h
  obtain⟨v,q,rfl,h1,h⟩:=h
  cases i with
  |zero=>simp at e;subst e;exact⟨v,rfl,h1⟩
  |succ i=>simpa using Sl.get h i d (by simpa using e)
theorem Sl.length: ∀{σ:List (Option D)} {σv:List (Option V)},Sl G ρ H σ σv->σ.length=σv.length
 |[],_,h=>by erw[Sl] at h;subst h;rfl
 |none::r,_,h=>by
  erw[Sl] at h
  obtain⟨o,q,rfl,h⟩:=h
  simp[Sl.length h]
 |some d'::r,_,h=>by
  erw[Sl] at h
  obtain⟨v,q,rfl,h1,h⟩:=h
  simp[Sl.length h]
theorem Sl.set: ∀{σ:List (Option D)} {σv:List (Option V)} (i:Nat),Sl G ρ H σ σv->RD G ρ H t v->Sl G ρ H (σ.set i (some t)) (σv.set i (some v))
 |[],_,i,h,_=>by erw[Sl] at h;subst h;simp[Sl]
 |none::r,_,i,h,ht=>by
  erw[Sl] at h
  obtain⟨o,q,rfl,h⟩:=h
  cases i with
  |zero=>erw[A6,Sl];exact⟨_,_,rfl,ht,h⟩
  |succ i=>erw[C3,Sl];exact⟨_,_,rfl,Sl.set i h ht⟩
 |some d'::r,_,i,h,ht=>by
  erw[Sl] at h
  obtain⟨v',q,rfl,h1,h⟩:=h
  cases i with
  |zero=>erw[A6,Sl];exact⟨_,_,rfl,ht,h⟩
  |succ i=>erw[C3,Sl];exact⟨_,_,rfl,h1,Sl.set i h ht⟩
theorem Sl.append: ∀{σ σ':List (Option D)} {σv σv':List (Option V)},Sl G ρ H σ σv->Sl G ρ H σ' σv'->Sl G ρ H (σ++σ') (σv++σv')
 |[],_,_,_,h,h'=>by erw[Sl] at h;subst h;exact h'
 |none::r,_,_,_,h,h'=>by
  erw[Sl] at h
  obtain⟨o,q,rfl,h⟩:=h
  erw[o0,Sl];exact⟨_,_,rfl,Sl.append h h'⟩
 |some d'::r,_,_,_,h,h'=>by
  erw[Sl] at h
  obtain⟨v,q,rfl,h1,h⟩:=h
  erw[o0,Sl];exact⟨_,_,rfl,h1,Sl.append h h'⟩
theorem Sl.split: ∀(σv:List (Option V)) {σ:List (Option D)} {tv:List (Option V)},Sl G ρ H σ (σv++tv)->Sl G ρ H (σ.take σv.length) σv/\Sl G ρ H (σ.drop σv.length) tv
 |[],σ,tv,h=>⟨by simp[Sl],by simpa using h⟩
 |o::σv,[],tv,h=>by simp[Sl] at h
 |o::σv,none::r,tv,h=>by
  erw[o0,Sl] at h
  obtain⟨o',q,e,h⟩:=h
  cases e
  obtain⟨h1,h2⟩:=Sl.split σv h
  erw[i9,D8,L8,Sl]
  exact⟨⟨_,_,rfl,h1⟩,h2⟩
 |o::σv,some d::r,tv,h=>by
  erw[o0,Sl] at h
  obtain⟨o',q,e,h0,h⟩:=h
  cases e
  obtain⟨h1,h2⟩:=Sl.split σv h
  erw[i9,D8,L8,Sl]
  exact⟨⟨_,_,rfl,h0,h1⟩,h2⟩
theorem z1h: ∀{σ:List (Option D)} {i:Nat} {d:D},σ[i]? =some (some d)->∀l∈y3 d,l∈Z9 σ
 |[],i,d,e,l,h=>by simp at e
 |none::r,i,d,e,l,h=>by
  erw[Z9]
  cases i with
  |zero=>simp at e
  |succ i=>exact z1h (i:=i) (by simpa using e) l h
 |some d'::r,i,d,e,l,h=>by
  erw[Z9]
  cases i with
  |zero=>simp at e;subst e;exact b9 _ h
  |succ i=>exact b6 _ (z1h (i:=i) (by simpa using e) l h)
theorem z2i: ∀{σ:List (Option D)} {i:Nat} {d:D} (l:Nat),l∈Z9 (σ.set i (some d))->l∈Z9 σ\/l∈y3 d
 |[],i,d,l,h=>by simp[Z9] at h
 |none::r,i,d,l,h=>by
  cases i with
  |zero=>
   erw[A6,Z9] at h⊢
   rcases c9.mp h with h|h
   ·exact .inr h
   ·exact .inl h
  |succ i=>
   erw[C3,Z9] at h⊢
   exact z2i l h
 |some d'::r,i,d,l,h=>by
  cases i with
  |zero=>
   erw[A6,Z9] at h⊢
   rcases c9.mp h with h|h
   ·exact .inr h
   ·exact .inl (b6 _ h)
  |succ i=>
   erw[C3,Z9] at h⊢
   rcases c9.mp h with h|h
   ·exact .inl (b9 _ h)
   ·rcases z2i l h with q|q
    ·exact .inl (b6 _ q)
    ·exact .inr q
theorem Y8: ∀(σ σ':List (Option D)),Z9 (σ++σ')=Z9 σ++Z9 σ'
 |[],_=>rfl
 |none::r,σ'=>by erw[o0,Z9,Y8 r σ']
 |some d::r,σ'=>by erw[o0,Z9,Y8 r σ',m9]
theorem Q0: ∀(σ σ':List D),labsL (σ++σ')=labsL σ++labsL σ'
 |[],_=>rfl
 |d::r,σ'=>by erw[o0,labsL,Q0 r σ',m9]
theorem labsL_mem: ∀{ds:List D} {d:D},d∈ds->∀l∈y3 d,l∈labsL ds
 |_::ds,d,h,l,hl=>by
  erw[labsL]
  rcases i5.mp h with rfl|h
  ·exact b9 _ hl
  ·exact b6 _ (labsL_mem h l hl)
theorem G8: ∀{ds:List D} {l:Nat},l∈labsL ds->∃d∈ds,l∈y3 d
 |d::ds,l,h=>by
  erw[labsL] at h
  rcases c9.mp h with h|h
  ·exact⟨d,i3 ..,h⟩
  ·obtain⟨x,h1,h2⟩:=G8 h
   exact⟨x,b8 _ h1,h2⟩
theorem RDs.get: ∀{ds:List D} {xs:List V},RDs G ρ H ds xs->∀(i:Nat) (d:D),ds[i]? =some d->∃x,xs[i]? =some x/\RD G ρ H d x
 |[],_,_,i,d,e=>by simp at e
 |d'::r,_,h,i,d,e=>by
  erw[RDs] at h
  obtain⟨x,q,rfl,h1,h2⟩:=h
  cases i with
  |zero=>simp at e;subst e;exact⟨x,rfl,h1⟩
  |succ i=>simpa using RDs.get h2 i d (by simpa using e)
theorem RDs.length: ∀{ds:List D} {xs:List V},RDs G ρ H ds xs->ds.length=xs.length
 |[],_,h=>by erw[RDs] at h;subst h;rfl
 |d'::r,_,h=>by
  erw[RDs] at h
  obtain⟨x,q,rfl,h1,h2⟩:=h
  simp[RDs.length h2]
theorem RDs.append: ∀{ds es:List D} {xs ys:List V},RDs G ρ H ds xs->RDs G ρ H es ys->RDs G ρ H (ds++es) (xs++ys)
 |[],_,_,_,h,h'=>by erw[RDs] at h;subst h;exact h'
 |d'::r,_,_,_,h,h'=>by
  erw[RDs] at h
  obtain⟨x,q,rfl,h1,h2⟩:=h
  erw[o0,RDs]
  exact⟨_,_,rfl,h1,RDs.append h2 h'⟩
theorem RDs.one{d:D}{x:V}(h:RD G ρ H d x):RDs G ρ H [d] [x]:=by erw[RDs];exact⟨_,_,rfl,h,rfl⟩
theorem RDs.take: ∀{ds:List D} {xs:List V} (k:Nat),RDs G ρ H ds xs->RDs G ρ H (ds.take k) (xs.take k)
 |_,_,0,_=>by simp[RDs]
 |[],_,k+1,h=>by erw[RDs] at h;subst h;simp[RDs]
 |d'::r,_,k+1,h=>by
  erw[RDs] at h
  obtain⟨x,q,rfl,h1,h2⟩:=h
  erw[D8,RDs]
  exact⟨_,_,rfl,h1,RDs.take k h2⟩
theorem RDs.drop: ∀{ds:List D} {xs:List V} (k:Nat),RDs G ρ H ds xs->RDs G ρ H (ds.drop k) (xs.drop k)
 |_,_,0,h=>h
 |[],_,k+1,h=>by erw[RDs] at h;subst h;simp[RDs]
 |d'::r,_,k+1,h=>by
  erw[RDs] at h
  obtain⟨x,q,rfl,h1,h2⟩:=h
  erw[L8]
  exact RDs.drop k h2
theorem RDs.set: ∀{ds:List D} {xs:List V} (k:Nat),RDs G ρ H ds xs->RD G ρ H t v->RDs G ρ H (ds.set k t) (xs.set k v)
 |[],_,k,h,_=>by erw[RDs] at h;subst h;simp[RDs]
 |d'::r,_,0,h,ht=>by
  erw[RDs] at h
  obtain⟨x,q,rfl,h1,h2⟩:=h
  erw[A6,RDs];exact⟨_,_,rfl,ht,h2⟩
 |d'::r,_,k+1,h,ht=>by
  erw[RDs] at h
  obtain⟨x,q,rfl,h1,h2⟩:=h
  erw[C3,RDs];exact⟨_,_,rfl,h1,RDs.set k h2 ht⟩
theorem MR.pop{o:Option V}{r:Option D}(M:MR G F ρ H σv (o::tv) {s with tm:=r::s.tm}):MR G F ρ H σv tv s where
 sl:=M.sl
 tm:=by
  have h:=M.tm
  cases r with
  |none=>erw[Sl] at h;obtain⟨_,_,e,h⟩:=h;cases e;exact h
  |some t=>erw[Sl] at h;obtain⟨_,_,e,_,h⟩:=h;cases e;exact h
 inj:=M.inj
 dom:=M.dom
 lab:=fun l h=>M.lab l (by
  rcases c9.mp h with h|h
  ·exact b9 _ h
  ·refine b6 _ ?_
   cases r with
   |none=>exact h
   |some t=>exact b6 _ h)
 own:=fun l h=>M.own l (by
  rcases c9.mp h with h|h
  ·exact b9 _ h
  ·refine b6 _ ?_
   cases r with
   |none=>exact h
   |some t=>exact b6 _ h)
 frm:=M.frm
 kd:=M.kd
 frb:=M.frb
 bas:=M.bas
theorem MR.top(M:MR G F ρ H σv (some v::tv) (s.psh t)):RD G ρ H t v:=by
 have h:=M.tm
 have h:Sl G ρ H (some t::s.tm) (some v::tv):=h
 erw[Sl] at h
 obtain⟨_,_,e,h,_⟩:=h
 cases e
 exact h
theorem MR.topl(M:MR G F ρ H σv tv (s.psh t)): ∀l∈y3 t,l<s.n/\(F.A0 (ρ l)\/F.H0 (ρ l)=none):=fun l h=>
 have m:l∈J7 (s.psh t):=b6 _ (b9 _ h)
 ⟨M.lab l m,M.own l m⟩
theorem MR.same(M:MR G F ρ H σv tv s)(h:k9 H H')(k:KD G.K H'):MR G F ρ H' σv tv s where
 sl:=Sl.stay (G2.of h) M.sl fun l _=>⟨rfl,fun o e=>h _ _ e⟩
 tm:=Sl.stay (G2.of h) M.tm fun l _=>⟨rfl,fun o e=>h _ _ e⟩
 inj:=M.inj
 dom:=fun l hl=>let⟨o,e⟩:=M.dom l hl;⟨o,h _ _ e⟩
 lab:=M.lab
 own:=M.own
 frm:=fun a o e=>let⟨⟨o',e1⟩,e2⟩:=M.frm a o e;⟨⟨o',h _ _ e1⟩,fun n=>h _ _ (e2 n)⟩
 kd:=k
 frb:=M.frb
 bas:=M.bas
theorem RDs.same{ts:List D}{vs:List V}(h:k9 H H')(r:RDs G ρ H ts vs):RDs G ρ H' ts vs:=RDs.stay (G2.of h) ts vs r fun l _=>⟨rfl,fun o e=>h _ _ e⟩
noncomputable def ext(ρ:Nat->Addr)(n:Nat)(p:Addr):Nat->Addr:=fun l=>if l=n then p else ρ l
theorem W3{n l:Nat}{p:Addr}(h:l<n):ext ρ n p l=ρ l:=by unfold ext;rw[if_neg (by lia)]
theorem j5{n:Nat}{p:Addr}:ext ρ n p n=p:=by unfold ext;rw[if_pos rfl]
theorem MR.new{p:Addr}{o:HO}(M:MR G F ρ H σv tv s)(hp:H p=none)(k:KD G.K (upd H p o)):MR G F (ext ρ s.n p) (upd H p o) σv tv s.nxt where
 sl:=Sl.stay (G2.of (k9.new o hp)) M.sl fun l hl=>⟨W3 (M.lab l (b9 _ hl)),fun o e=>k9.new _ hp _ _ e⟩
 tm:=Sl.stay (G2.of (k9.new o hp)) M.tm fun l hl=>⟨W3 (M.lab l (b6 _ hl)),fun o e=>k9.new _ hp _ _ e⟩
 inj:=fun i j hi hj e=>by
  have hi:i<s.n+1:=hi
  have hj:j<s.n+1:=hj
  have nn: ∀i,i<s.n->ρ i≠p:=fun i h e=>by
   obtain⟨o,q⟩:=M.dom i h
   rw[e,hp] at q;cases q
  by_cases h1:i=s.n
  ·by_cases h2:j=s.n
   ·lia
   ·rw[h1,j5,W3 (by lia)] at e
    exact absurd e.symm (nn j (by lia))
  ·by_cases h2:j=s.n
   ·rw[h2,j5,W3 (by lia)] at e
    exact absurd e (nn i (by lia))
   ·rw[W3 (by lia),W3 (by lia)] at e
    exact M.inj i j (by lia) (by lia) e
 dom:=fun l hl=>by
  have hl:l<s.n+1:=hl
  by_cases h1:l=s.n
  ·subst h1;rw[j5];exact⟨o,y9⟩
  ·rw[W3 (by lia)]
   obtain⟨o',e⟩:=M.dom l (by lia)
   exact⟨o',k9.new _ hp _ _ e⟩
 lab:=fun l h=>C6 (M.lab l h)
 own:=fun l h=>by rw[W3 (M.lab l h)];exact M.own l h
 frm:=fun a o e=>let⟨⟨o',e1⟩,e2⟩:=M.frm a o e;⟨⟨o',k9.new _ hp _ _ e1⟩,fun n=>k9.new _ hp _ _ (e2 n)⟩
 kd:=k
 frb:=fun l hl=>by
  have hl:l<s.n+1:=hl
  by_cases h1:l=s.n
  ·subst h1;rw[j5]
   intro z
   obtain⟨⟨o,e⟩,_⟩:=F.zA p z
   obtain⟨⟨o',e'⟩,_⟩:=M.frm p o e
   rw[hp] at e';cases e'
  ·rw[W3 (by lia)]
   exact M.frb l (by lia)
 bas:=⟨R1 M.bas.1,fun l hl=>by rw[W3 (l8 hl M.bas.1)];exact M.bas.2 l hl⟩
theorem MR.fresh0{p:Addr}(M:MR G F ρ H σv tv s)(hp:H p=none):F.H0 p=none:=by
 cases q:F.H0 p with
 |none=>rfl
 |some o=>
  obtain⟨⟨o',e⟩,_⟩:=M.frm p o q
  rw[hp] at e;cases e
theorem MR.newPush{p:Addr}{o:HO}(M:MR G F ρ H σv tv s)(hp:H p=none)(k:KD G.K (upd H p o))(h:RD G (ext ρ s.n p) (upd H p o) t (.ref p))(hl: ∀l∈y3 t,l∈J7 s\/l=s.n):
 MR G F (ext ρ s.n p) (upd H p o) σv (some (.ref p)::tv) (s.nxt.psh t):=by
 have M2:=M.new hp k
 refine⟨M2.sl, ?_,M2.inj,M2.dom,fun l h=> ?_,fun l h=> ?_,M2.frm,M2.kd,M2.frb,M2.bas⟩
 ·show Sl G _ _ (some t::s.tm) _
  erw[Sl]
  exact⟨_,tv,rfl,h,M2.tm⟩
 ·have h:l∈Z9 s.σ++(y3 t++Z9 s.tm):=h
  show l<s.n+1
  rcases c9.mp h with h|h
  ·exact M2.lab l (b9 _ h)
  ·rcases c9.mp h with h|h
   ·rcases hl l h with q|q
    ·exact M2.lab l q
    ·lia
   ·exact M2.lab l (b6 _ h)
 ·have h:l∈Z9 s.σ++(y3 t++Z9 s.tm):=h
  rcases c9.mp h with h|h
  ·exact M2.own l (b9 _ h)
  ·rcases c9.mp h with h|h
   ·rcases hl l h with q|q
    ·exact M2.own l q
    ·rw[q,j5];exact .inr (M.fresh0 hp)
   ·exact M2.own l (b6 _ h)
noncomputable def Stt.put(s:Stt)(l:Nat)(d:D):Stt:={s with σ:=rpO (fun k=>if k=l then some d else none) s.σ,tm:=rpO (fun k=>if k=l then some d else none) s.tm}
end
inductive Res(α:Type) where
 |ok (a:α) (s:Stt)|ex (d:D) (s:Stt)|no
noncomputable abbrev M(α:Type):=Stt->Res α
noncomputable def bd{α β:Type}(m:M α)(f:α->M β):M β:=fun s=>match m s with
 | .ok a s'=>f a s'
 | .ex d s'=> .ex d s'
 | .no=> .no
noncomputable def rt{α:Type}(a:α):M α:=fun s=> .ok a s
noncomputable def fl{α:Type}:M α:=fun _=> .no
noncomputable def psh(t:D):M Unit:=fun s=> .ok () (s.psh t)
noncomputable def pop:M D:=fun s=>match s.tm with
 |some t::r=> .ok t {s with tm:=r}
 |_=> .no
structure Fy extends Fx where
 tv0:List (Option V)
 xw:D->Stt->Prop
structure MRL(G:Gx)(F:Fx)(ρ:Nat->Addr)(H:Hp)(σv tv:List (Option V))(s:Stt)(ts:List D)(vs:List V):Prop where
 m:MR G F ρ H σv tv s
 rd:RDs G ρ H ts vs
 lb: ∀l∈labsL ts,l<s.n/\(F.A0 (ρ l)\/F.H0 (ρ l)=none)
section
variable{G:Gx}{F:Fy}{ρ ρ':Nat->Addr}{H H':Hp}{σv tv:List (Option V)}{s:Stt}{t t':D}{v u:V}{ts:List D}{vs:List V}{Q:VK}
theorem MRL.rd1(M:MRL G F.toFx ρ H σv tv s [t] [v]):RD G ρ H t v:=by
 have h:=M.rd
 erw[RDs] at h
 obtain⟨_,_,e,h,_⟩:=h
 cases e;exact h
theorem MRL.rd2(M:MRL G F.toFx ρ H σv tv s [t,t'] [v,u]):RD G ρ H t v/\RD G ρ H t' u:=by
 have h:=M.rd
 erw[RDs] at h
 obtain⟨_,_,e,h,_,_,e',h',_⟩:=h
 cases e;cases e';exact⟨h,h'⟩
theorem MRL.push(M:MRL G F.toFx ρ H σv tv s [t] [v]):MR G F.toFx ρ H σv (some v::tv) (s.psh t):=by
 have hl: ∀l∈y3 t,l<s.n/\(F.A0 (ρ l)\/F.H0 (ρ l)=none):=fun l h=>M.lb l (by erw[labsL,h9];exact h)
 refine⟨M.m.sl, ?_,M.m.inj,M.m.dom,fun l h=> ?_,fun l h=> ?_,M.m.frm,M.m.kd,M.m.frb,M.m.bas⟩
 ·show Sl G ρ H (some t::s.tm) _
  erw[Sl]
  exact⟨v,tv,rfl,M.rd1,M.m.tm⟩
 ·have h:l∈Z9 s.σ++(y3 t++Z9 s.tm):=h
  rcases c9.mp h with h|h
  ·exact M.m.lab l (b9 _ h)
  ·rcases c9.mp h with h|h
   ·exact(hl l h).1
   ·exact M.m.lab l (b6 _ h)
 ·have h:l∈Z9 s.σ++(y3 t++Z9 s.tm):=h
  rcases c9.mp h with h|h
  ·exact M.m.own l (b9 _ h)
  ·rcases c9.mp h with h|h
   ·exact(hl l h).2
   ·exact M.m.own l (b6 _ h)
theorem MRL.down{s':Stt}{r:List (Option D)}(M:MRL G F.toFx ρ H σv (some v::tv) s' ts vs)(e:s'.tm=some t::r):MRL G F.toFx ρ H σv tv {s' with tm:=r} (t::ts) (v::vs):=by
 obtain⟨σ,tm,n⟩:=s'
 have e:tm=some t::r:=e
 subst e
 refine⟨MR.pop (s:=⟨σ,r,n⟩) M.m, ?_,fun l h=> ?_⟩
 ·erw[RDs]
  exact⟨v,vs,rfl,MR.top (s:=⟨σ,r,n⟩) M.m,M.rd⟩
 ·erw[labsL] at h
  rcases c9.mp h with h|h
  ·exact MR.topl (s:=⟨σ,r,n⟩) M.m l h
  ·exact M.lb l h
noncomputable def wM(G:Gx)(F:Fy)(σv tv:List (Option V))(r:Res D)(Q:VK):Prop:=match r with
 | .ok t s'=> ∀ρ' v H',MRL G F.toFx ρ' H' σv tv s' [t] [v]->Q v H'
 | .ex d s'=>F.xw d s'
 | .no=>False
noncomputable def wL(G:Gx)(F:Fy)(σv tv:List (Option V))(r:Res (List D))(Q:List V->Hp->Prop):Prop:=match r with
 | .ok ts s'=> ∀ρ' vs H',MRL G F.toFx ρ' H' σv tv s' ts vs->Q vs H'
 | .ex d s'=>F.xw d s'
 | .no=>False
noncomputable def wB(G:Gx)(F:Fy)(σv tv:List (Option V))(r:Res Bool)(Q:Bool->Hp->Prop):Prop:=match r with
 | .ok b s'=> ∀ρ' H',MR G F.toFx ρ' H' σv tv s'->Q b H'
 | .ex d s'=>F.xw d s'
 | .no=>False
noncomputable def tMv(G:Gx)(F:Fy)(m:M D)(σv tv:List (Option V))(H:Hp)(Q:VK):Prop:=F.tv0<:+tv/\∃ρ s,MR G F.toFx ρ H σv tv s/\wM G F σv tv (m s) Q
noncomputable def tLv(G:Gx)(F:Fy)(m:M (List D))(σv tv:List (Option V))(H:Hp)(Q:List V->Hp->Prop):Prop:=F.tv0<:+tv/\∃ρ s,MR G F.toFx ρ H σv tv s/\wL G F σv tv (m s) Q
noncomputable def tBv(G:Gx)(F:Fy)(m:M Bool)(σv tv:List (Option V))(H:Hp)(Q:Bool->Hp->Prop):Prop:=F.tv0<:+tv/\∃ρ s,MR G F.toFx ρ H σv tv s/\wB G F σv tv (m s) Q
noncomputable def tM(G:Gx)(F:Fy)(m:M D):TE:=fun σv H Q=> ∃tv,tMv G F m σv tv H Q
noncomputable def tML(G:Gx)(F:Fy)(m:M (List D)):TA:=fun σv H Q=> ∃tv,tLv G F m σv tv H Q
noncomputable def tMB(G:Gx)(F:Fy)(m:M Bool):TT:=fun σv H Q=> ∃tv,tBv G F m σv tv H Q
noncomputable def SE(X:Cx)(G:Gx)(F:Fy)(e:Expr)(m:M D):Prop:=PE X e (tM G F m)
noncomputable def SA(X:Cx)(G:Gx)(F:Fy)(es:List Expr)(m:M (List D)):Prop:=PA X es (tML G F m)
noncomputable def SB(X:Cx)(G:Gx)(F:Fy)(e:Expr)(m:M Bool):Prop:=PT X e (tMB G F m)
theorem z7L{o:Option V}(h:F.tv0<:+tv):F.tv0<:+o::tv:=h.trans (List.suffix_cons _ _)
theorem z4Y{m:M D}{f:D->M D}(h:tMv G F (bd m f) σv tv H Q):tMv G F m σv tv H (fun v H1=> ∃ρ1 s1 t,MRL G F.toFx ρ1 H1 σv tv s1 [t] [v]/\wM G F σv tv (f t s1) Q):=by
 obtain⟨hs,ρ,s,M,W⟩:=h
 refine⟨hs,ρ,s,M, ?_⟩
 unfold bd at W
 cases e:m s with
 |ok t s1=>rw[e] at W;exact fun ρ1 v H1 M1=>⟨ρ1,s1,t,M1,W⟩
 |ex d s1=>rw[e] at W;exact W
 |no=>rw[e] at W;exact W
noncomputable def Z0(ma mb:M D)(g:D->D->M D):M D:=bd ma fun x=>bd (psh x) fun _=>bd mb fun y=>bd pop fun x'=>g x' y
theorem z5J{ma mb:M D}{g:D->D->M D}(h:tMv G F (Z0 ma mb g) σv tv H Q):
 tMv G F ma σv tv H (fun v H1=>tMv G F mb σv (some v::tv) H1 (fun u H2=> ∃ρ2 s2 t t',MRL G F.toFx ρ2 H2 σv tv s2 [t,t'] [v,u]/\wM G F σv tv (g t t' s2) Q)):=by
 have h':=z4Y h
 obtain⟨hs,ρ,s,M,W⟩:=h'
 refine⟨hs,ρ,s,M, ?_⟩
 cases e:ma s with
 |ok t s1=>
  rw[e] at W
  intro ρ1 v H1 M1
  obtain⟨ρ1,s1,t,M1,W⟩:=W ρ1 v H1 M1
  refine⟨z7L hs,ρ1,s1.psh t,M1.push, ?_⟩
  erw[bd,psh] at W
  cases e2:mb (s1.psh t) with
  |ok y s2=>
   rw[e2] at W
   intro ρ2 u H2 M2
   erw[pop] at W
   cases e3:s2.tm with
   |nil=>rw[e3] at W;exact W.elim
   |cons o r=>
    cases o with
    |none=>rw[e3] at W;exact W.elim
    |some t'=>
     rw[e3] at W
     exact⟨ρ2,{s2 with tm:=r},t',y,M2.down e3,W⟩
  |ex d s2=>rw[e2] at W;exact W
  |no=>rw[e2] at W;exact W
 |ex d s1=>rw[e] at W;exact W
 |no=>rw[e] at W;exact W
noncomputable def Z6:List (M D)->M (List D)
 |[]=>rt []
 |m::ms=>bd m fun x=>bd (psh x) fun _=>bd (Z6 ms) fun ys=>bd pop fun x'=>rt (x'::ys)
end
section
variable{X:Cx}{G:Gx}{F:Fy}{e a b c:Expr}{pos:Pos}
theorem Inv.kd{pins:List (Addr×Obj)}{σ:St}{H:Hp}{s:Shared}(I:Inv X pins σ H s):KD X.K H:=fun a o e=>(I.bs a o (I.ok.mod.kin a o e)).2
theorem PE.imp{t t':TE}(hk:X.K=G.K)(h:PE X e t)(hi: ∀σ H Q,t' σ H Q->t σ H (fun v H'=>KD G.K H'->Q v H')):PE X e t':=fun pins s σ H Q I q=>
 thn (h pins s σ H _ I (hi σ H Q q)) fun u s' ⟨v,H',I',r,k⟩=>⟨v,H',I',r,k (hk▸Inv.kd I')⟩
theorem PT.imp{t t':TT}(hk:X.K=G.K)(h:PT X e t)(hi: ∀σ H Q,t' σ H Q->t σ H (fun v H'=>KD G.K H'->Q v H')):PT X e t':=fun pins s σ H Q I q=>
 thn (h pins s σ H _ I (hi σ H Q q)) fun u s' ⟨H',I',k⟩=>⟨H',I',k (hk▸Inv.kd I')⟩
theorem PA.imp{es:List Expr}{t t':TA}(hk:X.K=G.K)(h:PA X es t)(hi: ∀σ H Q,t' σ H Q->t σ H (fun v H'=>KD G.K H'->Q v H')):PA X es t':=fun pos pins s σ H Q I q=>
 thn (h pos pins s σ H _ I (hi σ H Q q)) fun u s' ⟨v,H',I',r,k⟩=>⟨v,H',I',r,k (hk▸Inv.kd I')⟩
noncomputable def z9H(G:Gx)(F:Fy)(r:R2)(g:D->D->M D):Prop:= ∀ρ s t t' v u H σv tv Q,MRL G F.toFx ρ H σv tv s [t,t'] [v,u]->wM G F σv tv (g t t' s) Q->r v u H (fun w H'=>KD G.K H'->Q w H')
noncomputable def z01(G:Gx)(F:Fy)(r:R2)(g:D->D->M D):Prop:= ∀ρ s t t' v u H σv tv Q,MRL G F.toFx ρ H σv tv s [t,t'] [v,u]->wM G F σv tv (g t t' s) Q->r v u H Q
noncomputable def u1(G:Gx)(F:Fy)(r:List V->Hp->VK->Prop)(g:List D->M D):Prop:= ∀ρ s ts vs H σv tv Q,MRL G F.toFx ρ H σv tv s ts vs->wM G F σv tv (g ts s) Q->r vs H (fun w H'=>KD G.K H'->Q w H')
theorem z7M{op:Operator}{r:R2}{ma mb:M D}{g:D->D->M D}(hk:X.K=G.K)(ho:OpR X (binaryOp op) r)(hg:z9H G F r g)(ha:SE X G F a ma)(hb:SE X G F b mb):SE X G F (.BinOp a op b pos) (Z0 ma mb g):=by
 refine PE.imp hk (zbj ho ha hb) fun σ H Q ⟨tv,h⟩=>⟨tv, ?_⟩
 obtain⟨hs,ρ,s,M,W⟩:=z5J h
 refine⟨hs,ρ,s,M, ?_⟩
 cases e:ma s with
 |ok t s1=>
  rw[e] at W
  intro ρ1 v H1 M1
  refine⟨some v::tv, ?_⟩
  obtain⟨hs2,ρ2,s2,M2,W2⟩:=W ρ1 v H1 M1
  refine⟨hs2,ρ2,s2,M2, ?_⟩
  cases e2:mb s2 with
  |ok t2 s3=>
   rw[e2] at W2
   intro ρ3 u H3 M3
   obtain⟨ρ4,s4,x,y,M4,W4⟩:=W2 ρ3 u H3 M3
   exact hg _ _ _ _ _ _ _ _ _ _ M4 W4
  |ex d s3=>rw[e2] at W2;exact W2
  |no=>rw[e2] at W2;exact W2
 |ex d s1=>rw[e] at W;exact W
 |no=>rw[e] at W;exact W
theorem wM.mono{σv tv:List (Option V)}{r:Res D}{Q Q':VK}(h:wM G F σv tv r Q)(k: ∀v H,Q v H->Q' v H):wM G F σv tv r Q':=by
 cases r with
 |ok t s=>exact fun ρ v H M=>k _ _ (h ρ v H M)
 |ex d s=>exact h
 |no=>exact h
theorem tMv.mono{m:M D}{σv tv:List (Option V)}{H:Hp}{Q Q':VK}(h:tMv G F m σv tv H Q)(k: ∀v H,Q v H->Q' v H):tMv G F m σv tv H Q':=by
 obtain⟨hs,ρ,s,M,W⟩:=h
 exact⟨hs,ρ,s,M,W.mono k⟩
theorem zbU{ma mb:M D}{g:D->D->M D}{R:V->V->Hp->VK->Prop}{σv:St}{H:Hp}{Q:VK}(hg:z9H G F R g)(h:tM G F (Z0 ma mb g) σv H Q):
 tM G F ma σv H fun x H1=>tM G F mb σv H1 fun y H2=>R x y H2 fun w H'=>KD G.K H'->Q w H':=by
 obtain⟨tv,h⟩:=h
 exact⟨tv,(z5J h).mono fun v H1 h1=>⟨_,h1.mono fun u H2 ⟨ρ,s,t,t',M,W⟩=>hg _ _ _ _ _ _ _ _ _ _ M W⟩⟩
theorem z5K{ma mb:M D}{g:D->D->M D}{R:V->V->Hp->VK->Prop}{σv:St}{H:Hp}{Q:VK}(hg:z01 G F R g)(h:tM G F (Z0 ma mb g) σv H Q):
 tM G F ma σv H fun x H1=>tM G F mb σv H1 fun y H2=>R x y H2 Q:=by
 obtain⟨tv,h⟩:=h
 exact⟨tv,(z5J h).mono fun v H1 h1=>⟨_,h1.mono fun u H2 ⟨ρ,s,t,t',M,W⟩=>hg _ _ _ _ _ _ _ _ _ _ M W⟩⟩
theorem PE.imp0{t t':TE}(h:PE X e t)(hi: ∀σ H Q,t' σ H Q->t σ H Q):PE X e t':=fun pins s σ H Q I q=>h pins s σ H _ I (hi σ H Q q)
theorem PT.imp0{t t':TT}(h:PT X e t)(hi: ∀σ H Q,t' σ H Q->t σ H Q):PT X e t':=fun pins s σ H Q I q=>h pins s σ H _ I (hi σ H Q q)
theorem zbV{op:CmpOp}{r:R2}{ma mb:M D}{g:D->D->M D}(ho:OpR X (compareOp op) r)(hg:z01 G F r g)(ha:SE X G F a ma)(hb:SE X G F b mb)(hm:behindInMarks op b=false):SE X G F (.Compare a [op] [b] pos) (Z0 ma mb g):=
 PE.imp0 (zbn ho ha hb hm) fun _ _ _ h=>z5K hg h
theorem zgS{r:R2}{ma mb:M D}{g:D->D->M D}(hk:X.K=G.K)(ho:IxR X r)(hg:z9H G F r g)(ha:SE X G F a ma)(hb:SE X G F b mb)(hs:z1u b):SE X G F (.Subscript a b pos) (Z0 ma mb g):=
 PE.imp hk (zgE ho ha hb hs) fun _ _ _ h=>zbU hg h
theorem zei(hk:X.K=G.K):SA X G F [] (Z6 []):=by
 refine PA.imp hk z5x fun σ H Q ⟨tv,hs,ρ,s,M,W⟩ _=>W ρ [] H ⟨M,rfl,fun l h=>by simp[labsL] at h⟩
noncomputable def nst:Expr->Bool
 | .Starred _ _=>false
 |_=>true
theorem z7N{es:List Expr}{env:Env}(h:nst e=true):starEach (e::es) env=(false,eval e env)::starEach es env:=by
 cases e<;>first|rfl|exact R8 h
theorem zbW{es:List Expr}{m:M D}{ms:List (M D)}(hk:X.K=G.K)(ha:SE X G F e m)(hr:SA X G F es (Z6 ms))(hs:nst e=true:=by rfl):SA X G F (e::es) (Z6 (m::ms)):=by
 refine PA.imp hk (z24 ha hr (z7N hs)) fun σ H Q ⟨tv,hs,ρ,s,M,W⟩=>⟨tv,hs,ρ,s,M, ?_⟩
 unfold Z6 at W
 erw[bd,psh] at W
 cases e:m s with
 |ok t s1=>
  rw[e] at W
  intro ρ1 v H1 M1
  refine⟨some v::tv,z7L hs,ρ1,s1.psh t,M1.push, ?_⟩
  dsimp only at W
  cases e2:Z6 ms (s1.psh t) with
  |ok ys s2=>
   rw[e2] at W
   intro ρ2 us H2 M2 _
   erw[pop,rt] at W
   cases e3:s2.tm with
   |nil=>rw[e3] at W;exact W.elim
   |cons o r=>
    cases o with
    |none=>rw[e3] at W;exact W.elim
    |some t'=>
     rw[e3] at W
     exact W ρ2 (v::us) H2 (M2.down e3)
  |ex d s2=>rw[e2] at W;exact W
  |no=>rw[e2] at W;exact W
 |ex d s1=>rw[e] at W;exact W
 |no=>rw[e] at W;exact W
noncomputable def mCB(ms:List (M D))(g:List D->M D):M D:=bd (Z6 ms) g
theorem z1Z{ma:M (List D)}{g:List D->M D}{R:List V->Hp->VK->Prop}{σv:St}{H:Hp}{Q:VK}(hg:u1 G F R g)(h:tM G F (bd ma g) σv H Q):
 tML G F ma σv H fun xs H1=>R xs H1 fun w H'=>KD G.K H'->Q w H':=by
 obtain⟨tv,hs,ρ,s,M,W⟩:=h
 refine⟨tv,hs,ρ,s,M, ?_⟩
 unfold bd at W
 cases e:ma s with
 |ok ts s1=>rw[e] at W;exact fun ρ1 vs H1 M1=>hg _ _ _ _ _ _ _ _ M1 W
 |ex d s1=>rw[e] at W;exact W
 |no=>rw[e] at W;exact W
theorem z9I{x:Str}{p:Pos}{es:List Expr}{ms:List (M D)}{g:List D->M D}{id:String}{r:List V->Hp->VK->Prop}(hk:X.K=G.K)(hc:CallR X (.builtin id) r)(hg:u1 G F r g)(hgl:Gl X x)(hm:X.mg x=none)(hv:bootBuiltins x=some (.builtin id))(ha:SA X G F (e::es) (Z6 ms))(hn:x≠ "__name__" :=by decide)(hdb:(x==("__debug__" :Str))=false:=by decide)
 (he:starEach (e::es) X.env=(false,eval e X.env)::starEach es X.env:=by rfl) (hpl:(backTo pos (starEach es X.env)).any (·.1)=false:=by rfl):SE X G F (.Call (.Name x p) (e::es) [] pos) (mCB ms g):=
 PE.imp hk (z5z hc hgl hm hv ha hn hdb he hpl) fun _ _ _ h=>z1Z hg h
theorem z7O{x:Str}{p:Pos}{es:List Expr}{ms:List (M D)}{g:List D->M D}{T:String}{r:List V->Hp->VK->Prop}(hk:X.K=G.K)(hc:CallR X (.type T) r)(hg:u1 G F r g)(hgl:Gl X x)(hm:X.mg x=none)(hv:bootBuiltins x=some (.type T))(ha:SA X G F (e::es) (Z6 ms))(hn:x≠ "__name__" :=by decide)(hdb:(x==("__debug__" :Str))=false:=by decide)
 (he:starEach (e::es) X.env=(false,eval e X.env)::starEach es X.env:=by rfl) (hpl:(backTo pos (starEach es X.env)).any (·.1)=false:=by rfl):SE X G F (.Call (.Name x p) (e::es) [] pos) (mCB ms g):=
 PE.imp hk (z7l hc hgl hm hv ha hn hdb he hpl) fun _ _ _ h=>z1Z hg h
noncomputable def y0(i:Nat):M D:=fun s=>match s.σ[i]? with
 |some (some t)=> .ok t s
 |_=> .no
theorem se_var(i:Nat){x:Str}(hk:X.K=G.K)(h:PE X (.Name x pos) (z76 i)):SE X G F (.Name x pos) (y0 i):=by
 refine PE.imp hk h fun σ H Q ⟨tv,hs,ρ,s,M,W⟩=> ?_
 unfold y0 at W
 cases e:s.σ[i]? with
 |none=>rw[e] at W;exact W.elim
 |some o=>
  cases o with
  |none=>rw[e] at W;exact W.elim
  |some t=>
   rw[e] at W
   obtain⟨v,h1,h2⟩:=M.sl.get i t e
   refine⟨v,h1,fun _=>W ρ v H ⟨M,RDs.one h2,fun l hl=> ?_⟩⟩
   erw[labsL,h9] at hl
   have:=z1h e l hl
   exact⟨M.lab l (b9 _ this),M.own l (b9 _ this)⟩
noncomputable def cV:D->Option V
 | .non=>some .non| .bool b=>some (.bl b)| .int i=>some (.int i)| .str x=>some (.str x)|_=>none
theorem z6y{d:D}{v:V}{ρ:Nat->Addr}{H:Hp}(h:cV d=some v):RD G ρ H d v/\y3 d=[]:=by
 cases d<;>erw[cV,Option.some.injEq] at h<;>first|(subst h;exact⟨by erw[RD],by erw[y3]⟩)|cases h
noncomputable def mC(d:D):M D:=rt d
theorem se_c{d:D}{v:V}(hk:X.K=G.K)(h:PE X e (tC v))(hd:cV d=some v:=by rfl):SE X G F e (mC d):=by
 refine PE.imp hk h fun σ H Q ⟨tv,hs,ρ,s,M,W⟩ _=>W ρ v H ⟨M,RDs.one (z6y hd).1,fun l hl=> ?_⟩
 erw[labsL,(z6y (G:=G) (ρ:=ρ) (H:=H) hd).2] at hl
 cases hl
theorem wM.out{σv tv:List (Option V)}{s:Stt}{t:D}{v:V}{ρ:Nat->Addr}{H:Hp}{Q:VK}(W:wM G F σv tv (.ok t s) Q)(M:MR G F.toFx ρ H σv tv s)(h:RD G ρ H t v)(hl: ∀l∈y3 t,l<s.n/\(F.A0 (ρ l)\/F.H0 (ρ l)=none)):Q v H:=
 W ρ v H ⟨M,RDs.one h,fun l q=>hl l (by simpa only[labsL,h9] using q)⟩
theorem wM.flat{σv tv:List (Option V)}{s:Stt}{t:D}{v:V}{ρ:Nat->Addr}{H:Hp}{Q:VK}(W:wM G F σv tv (.ok t s) Q)(M:MR G F.toFx ρ H σv tv s)(h:cV t=some v):Q v H:=
 W.out M (z6y h).1 fun l q=>by rw[(z6y (G:=G) (ρ:=ρ) (H:=H) h).2] at q;cases q
end
mutual
noncomputable def er:D->PyData
 | .non=> .none| .bool b=> .bool b| .int i=> .int i| .str x=> .str x
 | .tup ds=> .tuple (erL ds)
 | .ro ds=> .list (erL ds)
 | .lst _ ds=> .list (erL ds)
 | .dct _ _ _=> .none
 | .obj _ _ _ _=> .none
 | .exc _=> .none| .fn _=> .none| .fdc _ _=> .none
noncomputable def erL:List D->List PyData
 |[]=>[]
 |d::ds=>er d::erL ds
end
mutual
noncomputable def plain:D->Bool
 | .non=>true| .bool _=>true| .int _=>true| .str _=>true
 | .tup ds=>plainL ds
 | .ro ds=>plainL ds
 | .lst _ ds=>plainL ds
 | .dct _ _ _=>false
 | .obj _ _ _ _=>false
 | .exc _=>false| .fn _=>false| .fdc _ _=>false
noncomputable def plainL:List D->Bool
 |[]=>true
 |d::ds=>plain d&&plainL ds
end
noncomputable def z97:D->Option (List D)
 | .tup ds=>some ds| .ro ds=>some ds| .lst _ ds=>some ds|_=>none
noncomputable def zd6:D->Option (List D)
 | .ro ds=>some ds| .lst _ ds=>some ds|_=>none
section
variable{G:Gx}{F:Fy}{ρ:Nat->Addr}{H H':Hp}{σv tv:List (Option V)}{s:Stt}{t t':D}{v u:V}{ts ds:List D}{vs xs:List V}{Q:VK}
mutual
theorem RD.dp: ∀(t:D) (v:V),RD G ρ H t v->plain t=true->Dp G.K H (er t) v
 | .non,v,h,_=>by erw[RD,er,Dp] at h⊢;exact h
 | .bool b,v,h,_=>by erw[RD,er,Dp] at h⊢;exact h
 | .int b,v,h,_=>by erw[RD,er,Dp] at h⊢;exact h
 | .str b,v,h,_=>by erw[RD,er,Dp] at h⊢;exact h
 | .tup ds,v,h,p=>by
  erw[RD,er,Dp,plain] at h p⊢
  obtain⟨a,xs,e,s,r⟩:=h
  exact⟨a,xs,e,SqT.of s,RDs.dp ds xs r p⟩
 | .ro ds,v,h,p=>by
  erw[RD,er,Dp,plain] at h p⊢
  obtain⟨a,xs,e,s,r⟩:=h
  exact⟨a,xs,e,s.sq,RDs.dp ds xs r p⟩
 | .lst l ds,v,h,p=>by
  erw[RD,er,Dp,plain] at h p⊢
  obtain⟨e,xs,s,r⟩:=h
  exact⟨_,xs,e,SqL.of s,RDs.dp ds xs r p⟩
 | .dct l ks vs,v,h,p=>by erw[plain] at p;cases p
 | .fdc ks vs,v,h,p=>by erw[plain] at p;cases p
 | .obj l c ns vs,v,h,p=>by erw[plain] at p;cases p
 | .exc c,v,h,p=>by erw[plain] at p;cases p
 | .fn c,v,h,p=>by erw[plain] at p;cases p
theorem RDs.dp: ∀(t:List D) (v:List V),RDs G ρ H t v->plainL t=true->DpAll G.K H (erL t) v
 |[],v,h,_=>by erw[RDs,erL,DpAll] at h⊢;exact h
 |d::ds,v,h,p=>by
  erw[RDs,erL,DpAll,plainL,i6] at h p⊢
  obtain⟨x,r,e,h1,h2⟩:=h
  exact⟨x,r,e,RD.dp d x h1 p.1,RDs.dp ds r h2 p.2⟩
end
theorem RD.seq(h:RD G ρ H t v)(e:z97 t=some ds): ∃a xs,v= .ref a/\(SqL G.K H a xs\/SqT G.K H a xs)/\RDs G ρ H ds xs/\∀l∈labsL ds,l∈y3 t:=by
 cases t<;>erw[z97,Option.some.injEq] at e<;>try cases e
 ·erw[RD] at h
  obtain⟨a,xs,e,s,r⟩:=h
  exact⟨a,xs,e, .inr (SqT.of s),r,fun l hl=>by erw[y3];exact hl⟩
 ·erw[RD] at h
  obtain⟨a,xs,e,s,r⟩:=h
  exact⟨a,xs,e, .inl s.sq,r,fun l hl=>by erw[y3];exact hl⟩
 ·erw[RD] at h
  obtain⟨e,xs,s,r⟩:=h
  exact⟨_,xs,e, .inl (SqL.of s),r,fun l hl=>by erw[y3];exact b8 _ hl⟩
theorem RD.lstq(h:RD G ρ H t v)(e:zd6 t=some ds): ∃a xs,v= .ref a/\SqL G.K H a xs/\RDs G ρ H ds xs/\∀l∈labsL ds,l∈y3 t:=by
 cases t<;>erw[zd6,Option.some.injEq] at e<;>try cases e
 ·erw[RD] at h
  obtain⟨a,xs,e,s,r⟩:=h
  exact⟨a,xs,e,s.sq,r,fun l hl=>by erw[y3];exact hl⟩
 ·erw[RD] at h
  obtain⟨e,xs,s,r⟩:=h
  exact⟨_,xs,e,SqL.of s,r,fun l hl=>by erw[y3];exact b8 _ hl⟩
theorem RD.tupx(h:RD G ρ H (.tup ds) v): ∃a xs,v= .ref a/\H a=some (.tup xs)/\RDs G ρ H ds xs:=by
 erw[RD] at h;exact h
theorem RD.tupq(h:RD G ρ H (.tup ds) v): ∃a xs,v= .ref a/\SqT G.K H a xs/\RDs G ρ H ds xs:=by
 obtain⟨a,xs,e,s,r⟩:=h.tupx
 exact⟨a,xs,e,SqT.of s,r⟩
theorem RD.seqx(h:RD G ρ H t v)(e:z97 t=some ds): ∃a xs,v= .ref a/\(SqL G.K H a xs\/H a=some (.tup xs))/\RDs G ρ H ds xs/\∀l∈labsL ds,l∈y3 t:=by
 cases t<;>erw[z97,Option.some.injEq] at e<;>try cases e
 ·erw[RD] at h
  obtain⟨a,xs,e,s,r⟩:=h
  exact⟨a,xs,e, .inr s,r,fun l hl=>by erw[y3];exact hl⟩
 ·erw[RD] at h
  obtain⟨a,xs,e,s,r⟩:=h
  exact⟨a,xs,e, .inl s.sq,r,fun l hl=>by erw[y3];exact hl⟩
 ·erw[RD] at h
  obtain⟨e,xs,s,r⟩:=h
  exact⟨_,xs,e, .inl (SqL.of s),r,fun l hl=>by erw[y3];exact b8 _ hl⟩
theorem MRL.lb1(M:MRL G F.toFx ρ H σv tv s [t] [v]): ∀l∈y3 t,l<s.n/\(F.A0 (ρ l)\/F.H0 (ρ l)=none):=fun l h=>M.lb l (by erw[labsL,h9];exact h)
theorem MRL.lb2(M:MRL G F.toFx ρ H σv tv s [t,t'] [v,u]):(∀l∈y3 t,l<s.n/\(F.A0 (ρ l)\/F.H0 (ρ l)=none))/\(∀l∈y3 t',l<s.n/\(F.A0 (ρ l)\/F.H0 (ρ l)=none)):=
 ⟨fun l h=>M.lb l (by erw[labsL,h9];exact b9 _ h),fun l h=>M.lb l (by erw[labsL,h9];exact b6 _ h)⟩
noncomputable abbrev LB(F:Fx)(ρ:Nat->Addr)(n:Nat)(ls:List Nat):Prop:= ∀l∈ls,l<n/\(F.A0 (ρ l)\/F.H0 (ρ l)=none)
theorem z3w(W:wM G F σv tv (.ok (.tup ds) s) Q)(M:MR G F.toFx ρ H σv tv s)(r:RDs G ρ H ds xs)(lb:LB F.toFx ρ s.n (labsL ds)):z7F G.K H xs (fun w H'=>KD G.K H'->Q w H'):=by
 refine z7F.intro fun p H' sq sm k=> ?_
 exact W.out (M.same sm k) (by erw[RD];exact⟨p,xs,rfl,sq,r.same sm⟩) (by erw[y3];exact lb)
theorem z7P{p:Addr}(W:wM G F σv tv (.ok (.tup ds) s) Q)(M:MR G F.toFx ρ H σv tv s)(r:RDs G ρ H ds xs)(lb:LB F.toFx ρ s.n (labsL ds))(hp:H p=none)(k:KD G.K (upd H p (.tup xs))):Q (.ref p) (upd H p (.tup xs)):=by
 have sm:=k9.new (.tup xs) hp
 exact W.out (M.same sm k) (by erw[RD];exact⟨p,xs,rfl,y9,r.same sm⟩) (by erw[y3];exact lb)
theorem RDs.ext{p:Addr}{o:HO}(M:MR G F.toFx ρ H σv tv s)(r:RDs G ρ H ds xs)(lb:LB F.toFx ρ s.n (labsL ds))(hp:H p=none):RDs G (ext ρ s.n p) (upd H p o) ds xs:=
 RDs.stay (G2.of (k9.new o hp)) ds xs r fun l hl=>⟨W3 (lb l hl).1,fun o e=>k9.new _ hp _ _ e⟩
theorem z0V{p:Addr}(W:wM G F σv tv (.ok (.lst s.n ds) s.nxt) Q)(M:MR G F.toFx ρ H σv tv s)(r:RDs G ρ H ds xs)(lb:LB F.toFx ρ s.n (labsL ds))(hp:H p=none)(k:KD G.K (upd H p (.lst xs))):Q (.ref p) (upd H p (.lst xs)):=by
 refine W.out (M.new hp k) ?_ fun l hl=> ?_
 ·erw[RD]
  rw[j5]
  exact⟨rfl,xs,y9,RDs.ext M r lb hp⟩
 ·erw[y3] at hl
  rcases i5.mp hl with q|q
  ·rw[q]
   exact⟨B1 _,by rw[j5];exact .inr (M.fresh0 hp)⟩
  ·obtain⟨h1,h2⟩:=lb l q
   exact⟨C6 h1,by rw[W3 h1];exact h2⟩
end
noncomputable def zej(ds:List D):M D:=fun s=> .ok (.lst s.n ds) s.nxt
noncomputable def X7:D->D->M D
 | .int i, .int j=>rt (.int (i+j))
 | .tup a, .tup b=>if a.length+b.length<=sizeLine then rt (.tup (a++b)) else fl
 | .lst _ a, .lst _ b=>if a.length+b.length<=sizeLine then zej (a++b) else fl
 | .str a, .str b=>if a.length+b.length<=sizeLine then rt (.str (a++b)) else fl
 |_,_=>fl
instance(i j:Int):Decidable (z9l i j):=by unfold z9l;infer_instance
instance(i j:Int):Decidable (z9k i j):=by unfold z9k;infer_instance
instance(i j:Int):Decidable (zd4 i j):=by unfold zd4;infer_instance
noncomputable def z6z:D->D->M D
 | .int i, .int j=>if z9l i j then rt (.int (i*j)) else fl
 | .lst _ a, .int k=>if -(2^63)<=k/\k<2^63/\a.length*k.toNat<=sizeLine then zej (T5 (i7 k.toNat a)) else fl
 | .tup a, .int k=>if 0<a.length/\2<=k/\k<2^63/\a.length*k.toNat<=sizeLine then rt (.tup (T5 (i7 k.toNat a))) else fl
 |_,_=>fl
noncomputable def z2U:D->D->M D
 | .int i, .int j=>if z9k i j then rt (.int (i/j)) else fl
 |_,_=>fl
noncomputable def z4c:D->D->M D
 | .int i, .int j=>if 0<j then rt (.int (i %j)) else fl
 |_,_=>fl
noncomputable def z9J:D->D->M D
 | .int i, .int j=>if zd4 i j then rt (.int (i^j.toNat)) else fl
 |_,_=>fl
noncomputable def ltD:D->D->M D
 | .int i, .int j=>rt (.bool (decide (i<j)))
 |_,_=>fl
noncomputable def leD:D->D->M D
 | .int i, .int j=>rt (.bool (decide (i<=j)))
 |_,_=>fl
noncomputable def gtD:D->D->M D
 | .int i, .int j=>rt (.bool (decide (j<i)))
 |_,_=>fl
noncomputable def geD:D->D->M D
 | .int i, .int j=>rt (.bool (decide (j<=i)))
 |_,_=>fl
noncomputable def eqC(t t':D):Bool:=plain t&&plain t'&&(er t).canLay0&&(er t').canLay0&&decide (min (er t).depth (er t').depth<=60)
noncomputable def eqD(t t':D):M D:=if eqC t t'=true then rt (.bool (PyData.eqv (er t) (er t'))) else fl
noncomputable def neD(t t':D):M D:=if eqC t t'=true then rt (.bool (!PyData.eqv (er t) (er t'))) else fl
noncomputable def zd7:Option D->M D
 |some d=>rt d
 |none=>fl
noncomputable def ixG:Option (List D)->D->M D
 |some ds, .int i=>zd7 (atI ds i)
 |_,_=>fl
noncomputable def ixD(t t':D):M D:=ixG (z97 t) t'
section
variable{G:Gx}{F:Fy}
theorem wfl{σv tv:List (Option V)}{s:Stt}{Q:VK}{A:Prop}(h:wM G F σv tv ((fl:M D) s) Q):A:=False.elim h
theorem z3x{ρ:Nat->Addr}{H:Hp}{σv tv:List (Option V)}{s:Stt}{i j:Int}{v u:V}(M:MRL G F.toFx ρ H σv tv s [.int i, .int j] [v,u]):v= .int i/\u= .int j:=by
 obtain⟨h1,h2⟩:=M.rd2
 erw[RD] at h1 h2
 exact⟨h1,h2⟩
theorem zek:z9H G F (fun x y H Q=>rI0 (fun i j=> .int (i+j)) x y H Q\/z7G G.K x y H Q\/zgH x y H Q\/∃i j,x= .str i/\y= .str j/\i.length+j.length<=sizeLine/\Q (.str (i++j)) H) X7:=by
 intro ρ s t t' v u H σv tv Q M W
 unfold X7 at W
 split at W
 ·obtain⟨rfl,rfl⟩:=z3x M
  exact .inl ⟨_,_,rfl,rfl,fun _=>W.flat M.m rfl⟩
 ·split at W
  ·rename_i a b hz
   obtain⟨h1,h2⟩:=M.rd2
   obtain⟨l1,l2⟩:=M.lb2
   obtain⟨p,xs,rfl,s1,r1⟩:=h1.tupx
   obtain⟨q,ys,rfl,s2,r2⟩:=h2.tupx
   refine .inr (.inl ⟨p,q,xs,ys,rfl,rfl,s1,s2,by rw[<-r1.length,<-r2.length];exact hz,z3w W M.m (r1.append r2) ?_⟩)
   rw[Q0]
   intro l hl
   rcases c9.mp hl with q|q
   ·exact l1 l (by simpa only[y3] using q)
   ·exact l2 l (by simpa only[y3] using q)
  ·exact wfl W
 ·split at W
  ·rename_i la a lb b hz
   obtain⟨h1,h2⟩:=M.rd2
   obtain⟨l1,l2⟩:=M.lb2
   erw[RD] at h1 h2
   obtain⟨rfl,xs,s1,r1⟩:=h1
   obtain⟨rfl,ys,s2,r2⟩:=h2
   refine .inr (.inr (.inl ⟨_,_,xs,ys,rfl,rfl,s1,s2,by rw[<-r1.length,<-r2.length];exact hz,fun p hp k=>z0V W M.m (r1.append r2) ?_ hp k⟩))
   rw[Q0]
   intro l hl
   rcases c9.mp hl with q|q
   ·exact l1 l (by erw[y3];exact b8 _ q)
   ·exact l2 l (by erw[y3];exact b8 _ q)
  ·exact wfl W
 ·split at W
  ·rename_i a b hz
   obtain⟨h1,h2⟩:=M.rd2
   erw[RD] at h1 h2
   subst h1 h2
   exact .inr (.inr (.inr ⟨_,_,rfl,rfl,hz,fun _=>W.flat M.m rfl⟩))
  ·exact wfl W
 ·exact wfl W
theorem zbX:z9H G F (rI z9k fun i j=> .int (i/j)) z2U:=by
 intro ρ s t t' v u H σv tv Q M W
 unfold z2U at W
 split at W
 ·split at W
  ·rename_i hc
   obtain⟨rfl,rfl⟩:=z3x M
   exact⟨_,_,rfl,rfl,hc,fun _=>W.flat M.m rfl⟩
  ·exact wfl W
 ·exact wfl W
theorem zel:z9H G F (rI (fun _ j=>0<j) fun i j=> .int (i %j)) z4c:=by
 intro ρ s t t' v u H σv tv Q M W
 unfold z4c at W
 split at W
 ·split at W
  ·rename_i hc
   obtain⟨rfl,rfl⟩:=z3x M
   exact⟨_,_,rfl,rfl,hc,fun _=>W.flat M.m rfl⟩
  ·exact wfl W
 ·exact wfl W
theorem zem:z9H G F (rI zd4 fun i j=> .int (i^j.toNat)) z9J:=by
 intro ρ s t t' v u H σv tv Q M W
 unfold z9J at W
 split at W
 ·split at W
  ·rename_i hc
   obtain⟨rfl,rfl⟩:=z3x M
   exact⟨_,_,rfl,rfl,hc,fun _=>W.flat M.m rfl⟩
  ·exact wfl W
 ·exact wfl W
theorem zgT:z01 G F (rI0 fun i j=> .bl (decide (i<j))) ltD:=by
 intro ρ s t t' v u H σv tv Q M W
 unfold ltD at W
 split at W
 ·obtain⟨rfl,rfl⟩:=z3x M
  exact⟨_,_,rfl,rfl,W.flat M.m rfl⟩
 ·exact wfl W
theorem zgU:z01 G F (rI0 fun i j=> .bl (decide (i<=j))) leD:=by
 intro ρ s t t' v u H σv tv Q M W
 unfold leD at W
 split at W
 ·obtain⟨rfl,rfl⟩:=z3x M
  exact⟨_,_,rfl,rfl,W.flat M.m rfl⟩
 ·exact wfl W
theorem zgV:z01 G F (rI0 fun i j=> .bl (decide (j<i))) gtD:=by
 intro ρ s t t' v u H σv tv Q M W
 unfold gtD at W
 split at W
 ·obtain⟨rfl,rfl⟩:=z3x M
  exact⟨_,_,rfl,rfl,W.flat M.m rfl⟩
 ·exact wfl W
theorem zgW:z01 G F (rI0 fun i j=> .bl (decide (j<=i))) geD:=by
 intro ρ s t t' v u H σv tv Q M W
 unfold geD at W
 split at W
 ·obtain⟨rfl,rfl⟩:=z3x M
  exact⟨_,_,rfl,rfl,W.flat M.m rfl⟩
 ·exact wfl W
theorem zgX:z01 G F (zgd G.K false) eqD:=by
 intro ρ s t t' v u H σv tv Q M W
 unfold eqD at W
 split at W
 ·rename_i hc
  erw[eqC,i6,decide_eq_true_eq] at hc
  obtain⟨⟨⟨⟨c1,c2⟩,c3⟩,c4⟩,c5⟩:=hc
  obtain⟨h1,h2⟩:=M.rd2
  exact⟨er t,er t',RD.dp _ _ h1 c1,RD.dp _ _ h2 c2,c3,c4,c5,W.flat M.m rfl⟩
 ·exact wfl W
theorem zgY:z01 G F (zgd G.K true) neD:=by
 intro ρ s t t' v u H σv tv Q M W
 unfold neD at W
 split at W
 ·rename_i hc
  erw[eqC,i6,decide_eq_true_eq] at hc
  obtain⟨⟨⟨⟨c1,c2⟩,c3⟩,c4⟩,c5⟩:=hc
  obtain⟨h1,h2⟩:=M.rd2
  exact⟨er t,er t',RD.dp _ _ h1 c1,RD.dp _ _ h2 c2,c3,c4,c5,W.flat M.m rfl⟩
 ·exact wfl W
theorem zen{ρ:Nat->Addr}{H:Hp}{ds:List D}{xs:List V}{i:Int}{d:D}(r:RDs G ρ H ds xs)(e:atI ds i=some d): ∃x,atI xs i=some x/\RD G ρ H d x:=by
 unfold atI at e⊢
 rw[<-r.length]
 cases e1:ixN ds.length i with
 |none=>rw[e1] at e;cases e
 |some j=>
  rw[e1] at e
  exact r.get j d e
theorem zbY{α:Type}{ds:List α}{i:Int}{d:α}(e:atI ds i=some d):d∈ds:=by
 unfold atI at e
 cases e1:ixN ds.length i with
 |none=>rw[e1] at e;cases e
 |some j=>
  rw[e1] at e
  exact List.mem_of_getElem? e
theorem zgZ:z9H G F (fun x y H Q=>zig G.K x y H Q\/zih G.K x y H Q) ixD:=by
 intro ρ s t t' v u H σv tv Q M W
 obtain⟨h1,h2⟩:=M.rd2
 unfold ixD at W
 cases e:z97 t with
 |none=>rw[e] at W;exact False.elim W
 |some ds=>
  rw[e] at W
  cases t' with
  |int i=>
   have W:wM G F σv tv (zd7 (atI ds i) s) Q:=W
   cases ea:atI ds i with
   |some d=>
    rw[ea] at W
    obtain⟨a,xs,rfl,sq,r,sub⟩:=h1.seq e
    obtain⟨x,ex,rx⟩:=zen r ea
    erw[RD] at h2
    subst h2
    have fin:KD G.K H->Q x H:=fun _=>W.out M.m rx fun l hl=>M.lb2.1 l (sub l (labsL_mem (zbY ea) l hl))
    rcases sq with sq|sq
    ·exact .inl ⟨a,xs,i,x,rfl,rfl,sq,ex,fin⟩
    ·exact .inr ⟨a,xs,i,x,rfl,rfl,sq,ex,fin⟩
   |none=>rw[ea] at W;exact False.elim W
  |_=>exact False.elim W
end
section
variable{X:Cx}{G:Gx}{F:Fy}{e a b c:Expr}{pos:Pos}
theorem RDs.flat{ρ:Nat->Addr}{H:Hp}{ds:List D}{xs:List V}(r:RDs G ρ H ds xs): ∀k:Nat,RDs G ρ H (i7 k ds).flatten (i7 k xs).flatten
 |0=>by simp[RDs]
 |k+1=>by
  rw[A8,A8,C5,C5]
  exact r.append (RDs.flat r k)
theorem z1x{ds:List D}{l:Nat}: ∀k:Nat,l∈labsL (i7 k ds).flatten->l∈labsL ds
 |0,h=>by simp[labsL] at h
 |k+1,h=>by
  rw[A8,C5,Q0] at h
  rcases c9.mp h with h|h
  ·exact h
  ·exact z1x k h
theorem zeo:z9H G F (fun x y H Q=>rI z9l (fun i j=> .int (i*j)) x y H Q\/(zgI x y H Q\/zbS G.K x y H Q)) z6z:=by
 intro ρ s t t' v u H σv tv Q M W
 unfold z6z at W
 split at W
 ·split at W
  ·rename_i hc
   obtain⟨rfl,rfl⟩:=z3x M
   exact .inl ⟨_,_,rfl,rfl,hc,fun _=>W.flat M.m rfl⟩
  ·exact wfl W
 ·split at W
  ·rename_i la a k hc
   obtain⟨h1,h2⟩:=M.rd2
   obtain⟨l1,l2⟩:=M.lb2
   erw[RD] at h1 h2
   obtain⟨rfl,xs,s1,r1⟩:=h1
   subst h2
   refine .inr (.inl ⟨_,k,xs,rfl,rfl,s1,hc.1,hc.2.1,by rw[<-r1.length];exact hc.2.2,fun p hp kd=>z0V W M.m (r1.flat _) (fun l hl=> ?_) hp kd⟩)
   exact l1 l (by erw[y3];exact b8 _ (z1x _ hl))
  ·exact wfl W
 ·split at W
  ·rename_i a k hc
   obtain⟨h1,h2⟩:=M.rd2
   obtain⟨l1,l2⟩:=M.lb2
   erw[RD] at h1 h2
   obtain⟨a',xs,rfl,s1,r1⟩:=h1
   subst h2
   refine .inr (.inr ⟨_,k,xs,rfl,rfl,SqT.of s1,by rw[<-r1.length];exact hc.1,hc.2.1,hc.2.2.1,by rw[<-r1.length];exact hc.2.2.2,fun p hp kd=>z7P W M.m (r1.flat _) (fun l hl=> ?_) hp kd⟩)
   exact l1 l (by erw[y3];exact z1x _ hl)
  ·exact wfl W
 ·exact wfl W
noncomputable def z6Y{α:Type}(xs:List α)(lo hi:Option Int):List α:=(xs.drop (HT.sIx xs.length 0 lo)).take (HT.sIx xs.length xs.length hi -HT.sIx xs.length 0 lo)
noncomputable def slD:D->Option Int->Option Int->M D
 | .tup ds,lo,hi=>rt (.tup (z6Y ds lo hi))
 | .lst _ ds,lo,hi=>zej (z6Y ds lo hi)
 | .ro ds,lo,hi=>zej (z6Y ds lo hi)
 |_,_,_=>fl
theorem RDs.cut{ρ:Nat->Addr}{H:Hp}{ds:List D}{xs:List V}(r:RDs G ρ H ds xs)(lo hi:Option Int):RDs G ρ H (z6Y ds lo hi) (z7n xs lo hi):=by
 unfold z6Y z7n
 rw[r.length]
 exact(r.drop _).take _
theorem z2j{ds:List D}{lo hi:Option Int}{l:Nat}(h:l∈labsL (z6Y ds lo hi)):l∈labsL ds:=by
 obtain⟨d,h1,h2⟩:=G8 h
 exact labsL_mem (List.mem_of_mem_drop (List.mem_of_mem_take h1)) l h2
noncomputable def mInt(d:D):Option Int:=match d with| .int i=>some i|_=>none
noncomputable def z2V:Option (M D)->M (Option Int)
 |none=>rt none
 |some m=>bd m fun d=>match mInt d with|some i=>rt (some i)|none=>fl
noncomputable def tP(G:Gx)(F:Fy)(m:M (Option Int)):TO:=fun σv H Q=> ∃tv,F.tv0<:+tv/\∃ρ s,MR G F.toFx ρ H σv tv s/\(match m s with
 | .ok o s'=> ∀ρ' H',MR G F.toFx ρ' H' σv tv s'->Q o H'
 | .ex d s'=>F.xw d s'
 | .no=>False)
noncomputable def SO(X:Cx)(G:Gx)(F:Fy)(e:Option Expr)(m:Option (M D)):Prop:=PO X e (tP G F (z2V m))
theorem so_none:SO X G F none none:=by
 intro pins s σ H Q I ⟨tv,hs,ρ,ms,M,W⟩
 exact zby pins s σ H Q I (W ρ H M)
theorem so_some{m:M D}(h:SE X G F e m):SO X G F (some e) (some m):=by
 intro pins s σ H Q I ⟨tv,hs,ρ,ms,M,W⟩
 refine zbz h pins s σ H Q I ⟨tv,hs,ρ,ms,M, ?_⟩
 erw[z2V,bd] at W
 cases e1:m ms with
 |ok d s1=>
  rw[e1] at W
  intro ρ' v H' M'
  cases d with
  |int i=>
   have h:=M'.rd1
   erw[RD] at h
   exact⟨i,h,W ρ' H' M'.m⟩
  |_=>exact False.elim W
 |ex d s1=>rw[e1] at W;exact W
 |no=>rw[e1] at W;exact W
noncomputable def mSl(m:M D)(lo hi:Option (M D)):M D:=bd m fun x=>bd (psh x) fun _=>bd (z2V lo) fun l=>bd (z2V hi) fun h=>bd pop fun x'=>slD x' l h
theorem zh0{ρ:Nat->Addr}{s:Stt}{t:D}{v:V}{H:Hp}{σv tv:List (Option V)}{lo hi:Option Int}{Q:VK}(M:MRL G F.toFx ρ H σv tv s [t] [v])(W:wM G F σv tv (slD t lo hi s) Q):
 zgR G.K v lo hi H (fun w H'=>KD G.K H'->Q w H')\/zgF G.K v lo hi H (fun w H'=>KD G.K H'->Q w H'):=by
 have h:=M.rd1
 cases t with
 |tup ds=>
  obtain⟨p,xs,rfl,s1,r1⟩:=h.tupx
  exact .inl ⟨p,xs,rfl,s1,z3w W M.m (r1.cut lo hi) fun l hl=>M.lb1 l (by erw[y3];exact z2j hl)⟩
 |lst n ds=>
  obtain⟨p,xs,rfl,s1,r1,_⟩:=h.lstq (ds:=ds) rfl
  exact .inr ⟨p,xs,rfl,s1,fun q hq k=>z0V W M.m (r1.cut lo hi) (fun l hl=>M.lb1 l (by erw[y3];exact b8 _ (z2j hl))) hq k⟩
 |ro ds=>
  obtain⟨p,xs,rfl,s1,r1,_⟩:=h.lstq (ds:=ds) rfl
  exact .inr ⟨p,xs,rfl,s1,fun q hq k=>z0V W M.m (r1.cut lo hi) (fun l hl=>M.lb1 l (by erw[y3];exact z2j hl)) hq k⟩
 |_=>exact False.elim W
theorem se_slice{lo hi:Option Expr}{p2:Pos}{m:M D}{ml mh:Option (M D)}(hk:X.K=G.K)(he:SE X G F e m)(hl:SO X G F lo ml)(hh:SO X G F hi mh):SE X G F (.Subscript e (.Slice lo hi none p2) pos) (mSl m ml mh):=by
 refine PE.imp hk (z9y (r:=fun x lo hi H Q=>zgR X.K x lo hi H Q\/zgF X.K x lo hi H Q) (SlR.or zbR zbD) he hl hh) fun σ H Q ⟨tv,h⟩=>⟨tv, ?_⟩
 obtain⟨hs,ρ,s,M,W⟩:=z4Y h
 refine⟨hs,ρ,s,M,W.mono fun v H1 ⟨ρ1,s1,t,M1,W1⟩=>⟨some v::tv,z7L hs,ρ1,s1.psh t,M1.push, ?_⟩⟩
 erw[bd,psh] at W1
 cases e1:z2V ml (s1.psh t) with
 |ex d s2=>rw[e1] at W1;exact W1
 |no=>rw[e1] at W1;exact W1
 |ok l s2=>
  rw[e1] at W1
  intro ρ2 H2 M2
  refine⟨some v::tv,z7L hs,ρ2,s2,M2, ?_⟩
  dsimp only at W1
  cases e2:z2V mh s2 with
  |ex d s3=>rw[e2] at W1;exact W1
  |no=>rw[e2] at W1;exact W1
  |ok h s3=>
   rw[e2] at W1
   intro ρ3 H3 M3
   erw[pop] at W1
   cases e3:s3.tm with
   |nil=>rw[e3] at W1;exact W1.elim
   |cons o r=>
    cases o with
    |none=>rw[e3] at W1;exact W1.elim
    |some t'=>
     rw[e3] at W1
     have M4:MRL G F.toFx ρ3 H3 σ tv {s3 with tm:=r} [t'] [v]:=MRL.down (ts:=[]) (vs:=[]) ⟨M3,rfl,fun l h=>by simp[labsL] at h⟩ e3
     rw[hk]
     exact zh0 M4 W1
noncomputable def z2R(ts:List D):M D:=if ts.length<=sizeLine then rt (.tup ts) else fl
noncomputable def lstM(ts:List D):M D:=if ts.length<=sizeLine then zej ts else fl
theorem zep:u1 G F (fun xs H1 Q=>xs.length<=sizeLine/\∀p,H1 p=none->Q (.ref p) (upd H1 p (.tup xs))) z2R:=by
 intro ρ s ts vs H σv tv Q M W
 unfold z2R at W
 split at W
 ·rename_i hz
  exact⟨by rw[<-M.rd.length];exact hz,fun p hp k=>z7P W M.m M.rd M.lb hp k⟩
 ·exact wfl W
theorem zeq:u1 G F (fun xs H1 Q=>xs.length<=sizeLine/\∀p,H1 p=none->Q (.ref p) (upd H1 p (.lst xs))) lstM:=by
 intro ρ s ts vs H σv tv Q M W
 unfold lstM at W
 split at W
 ·rename_i hz
  exact⟨by rw[<-M.rd.length];exact hz,fun p hp k=>z0V W M.m M.rd M.lb hp k⟩
 ·exact wfl W
theorem se_tup{es:List Expr}{ms:List (M D)}{x1}(hk:X.K=G.K)(h:SA X G F es (Z6 ms)):SE X G F (.Tuple es x1 pos) (mCB ms z2R):=
 PE.imp hk (z7i h) fun _ _ _ h=>z1Z zep h
theorem se_lst{es:List Expr}{ms:List (M D)}(hk:X.K=G.K)(h:SA X G F es (Z6 ms)):SE X G F (.List es pos) (mCB ms lstM):=
 PE.imp hk (zdM h) fun _ _ _ h=>z1Z zeq h
noncomputable def zer:D->M Bool
 | .non=>rt false
 | .bool b=>rt b
 | .int i=>rt (i !=0)
 | .str x=>if x.length<=sizeLine then rt ((x.length:Int) !=0) else fl
 | .tup ds=>rt (!ds.isEmpty)
 | .ro ds=>rt (!ds.isEmpty)
 | .lst _ ds=>rt (!ds.isEmpty)
 |_=>fl
noncomputable def J4(m:M D):M Bool:=bd m zer
theorem z1y{ρ:Nat->Addr}{H:Hp}{ds:List D}{xs:List V}(r:RDs G ρ H ds xs):(!ds.isEmpty)= !xs.isEmpty:=by
 have:=r.length
 cases ds<;>cases xs<;>simp at this⊢
theorem zes{ρ:Nat->Addr}{s:Stt}{t:D}{v:V}{H:Hp}{σv tv:List (Option V)}{Q:Bool->Hp->Prop}(M:MRL G F.toFx ρ H σv tv s [t] [v])(W:wB G F σv tv (zer t s) Q): ∃k,TruV G.K v H k/\Q k H:=by
 have h:=M.rd1
 cases t with
 |non=>erw[RD] at h;subst h;exact⟨false,rfl,W ρ H M.m⟩
 |bool b=>erw[RD] at h;subst h;exact⟨b,rfl,W ρ H M.m⟩
 |int i=>erw[RD] at h;subst h;exact⟨_,rfl,W ρ H M.m⟩
 |str x=>
  erw[RD] at h;subst h
  unfold zer at W
  by_cases hz:x.length<=sizeLine
  ·erw[if_pos hz] at W;exact⟨_,⟨hz,rfl⟩,W ρ H M.m⟩
  ·erw[if_neg hz] at W;exact False.elim W
 |tup ds=>
  obtain⟨p,xs,rfl,s1,r1⟩:=h.tupq
  exact⟨_, .inr (.inl ⟨xs,s1,z1y r1⟩),W ρ H M.m⟩
 |ro ds=>
  obtain⟨p,xs,rfl,s1,r1,_⟩:=h.lstq (ds:=ds) rfl
  exact⟨_, .inl ⟨xs,s1,z1y r1⟩,W ρ H M.m⟩
 |lst n ds=>
  obtain⟨p,xs,rfl,s1,r1,_⟩:=h.lstq (ds:=ds) rfl
  exact⟨_, .inl ⟨xs,s1,z1y r1⟩,W ρ H M.m⟩
 |dct _ _ _=>exact False.elim W
 |fdc _ _=>exact False.elim W
 |obj _ _ _ _=>exact False.elim W
 |exc _=>exact False.elim W
 |fn _=>exact False.elim W
theorem z9K{m:M D}{σ:St}{H:Hp}{Q:Bool->Hp->Prop}(h:tMB G F (J4 m) σ H Q):tM G F m σ H fun x H'=> ∃k,TruV G.K x H' k/\Q k H':=by
 obtain⟨tv,hs,ρ,s,M,W⟩:=h
 refine⟨tv,hs,ρ,s,M, ?_⟩
 unfold J4 bd at W
 cases e:m s with
 |ok t s1=>rw[e] at W;exact fun ρ1 v H1 M1=>zes M1 W
 |ex d s1=>rw[e] at W;exact W
 |no=>rw[e] at W;exact W
theorem sb_truth{m:M D}(hk:X.K=G.K)(ha:SE X G F a m)(he: ∀whole,isTrue a X.env whole=(do let v<-whole;standAt a.pos;holding [v] (truthy v)):=by intro _;rfl):SB X G F a (J4 m):=by
 refine PT.imp hk (z9o ha he) fun σ H Q h=> ?_
 rw[hk]
 obtain⟨tv,h'⟩:=z9K h
 exact⟨tv,h'.mono fun v H1 ⟨k,q1,q2⟩=>⟨k,q1,fun _=>q2⟩⟩
noncomputable def zet:D->M Bool
 | .bool b=>rt b
 |_=>fl
noncomputable def X0(m:M D):M Bool:=bd m zet
theorem z7Q{m:M D}{σ:St}{H:Hp}{Q:Bool->Hp->Prop}(h:tMB G F (X0 m) σ H Q):tM G F m σ H fun x H'=> ∃k,x= .bl k/\Q k H':=by
 obtain⟨tv,hs,ρ,s,M,W⟩:=h
 refine⟨tv,hs,ρ,s,M, ?_⟩
 unfold X0 bd at W
 cases e:m s with
 |ok t s1=>
  rw[e] at W
  intro ρ1 v H1 M1
  have h:=M1.rd1
  cases t with
  |bool b=>erw[RD] at h;exact⟨b,h,W ρ1 H1 M1.m⟩
  |_=>exact False.elim W
 |ex d s1=>rw[e] at W;exact W
 |no=>rw[e] at W;exact W
theorem zbZ{op:CmpOp}{r:R2}{ma mb:M D}{g:D->D->M D}(ho:OpR X (compareOp op) r)(hg:z01 G F r g)(ha:SE X G F a ma)(hb:SE X G F b mb)(hm:behindInMarks op b=false):SB X G F (.Compare a [op] [b] pos) (X0 (Z0 ma mb g)):=
 PT.imp0 (zbo ho ha hb hm) fun _ _ _ h=>z5K hg (z7Q h)
theorem zeu{m:M Bool}{f:Bool->M Bool}{σ:St}{tv:List (Option V)}{H:Hp}{Q:Bool->Hp->Prop}(h:tBv G F (bd m f) σ tv H Q):tBv G F m σ tv H fun b H1=> ∃ρ1 s1,MR G F.toFx ρ1 H1 σ tv s1/\wB G F σ tv (f b s1) Q:=by
 obtain⟨hs,ρ,s,M,W⟩:=h
 refine⟨hs,ρ,s,M, ?_⟩
 unfold bd at W
 cases e:m s with
 |ok b s1=>rw[e] at W;exact fun ρ1 H1 M1=>⟨ρ1,s1,M1,W⟩
 |ex d s1=>rw[e] at W;exact W
 |no=>rw[e] at W;exact W
theorem wB.mono{σv tv:List (Option V)}{r:Res Bool}{Q Q':Bool->Hp->Prop}(h:wB G F σv tv r Q)(k: ∀v H,Q v H->Q' v H):wB G F σv tv r Q':=by
 cases r with
 |ok t s=>exact fun ρ H M=>k _ _ (h ρ H M)
 |ex d s=>exact h
 |no=>exact h
theorem tBv.mono{m:M Bool}{σv tv:List (Option V)}{H:Hp}{Q Q':Bool->Hp->Prop}(h:tBv G F m σv tv H Q)(k: ∀v H,Q v H->Q' v H):tBv G F m σv tv H Q':=by
 obtain⟨hs,ρ,s,M,W⟩:=h
 exact⟨hs,ρ,s,M,W.mono k⟩
noncomputable def z7R{α:Type}(b:Bool)(m m':M α):M α:=match b with|true=>m|false=>m'
noncomputable def mOr(m m':M Bool):M Bool:=bd m fun b=>z7R b (rt true) m'
noncomputable def z1z(m:M Bool):M Bool:=bd m fun b=>rt (!b)
noncomputable def SW(X:Cx)(G:Gx)(F:Fy)(e:Expr)(m:M Bool):Prop:=PW X e (tMB G F m)
theorem SW.sb{m:M Bool}(h:SW X G F e m):SB X G F e m:=PW.pt h
theorem PW.imp0{t t':TT}(h:PW X e t)(hi: ∀σ H Q,t' σ H Q->t σ H Q):PW X e t':=fun wh pins s σ H Q I q=>h wh pins s σ H _ I (hi σ H Q q)
theorem sw_or1{m:M Bool}(h:SB X G F a m):SW X G F (.BoolOp .Or [a] pos) m:=zdv h
theorem sw_or{rest:List Expr}{m m':M Bool}(ha:SB X G F a m)(hb:SW X G F (.BoolOp .Or (b::rest) pos) m'):SW X G F (.BoolOp .Or (a::b::rest) pos) (mOr m m'):=by
 refine PW.imp0 (zgj ha hb) fun σ H Q ⟨tv,h⟩=>⟨tv,(zeu h).mono fun b H1 ⟨ρ1,s1,M1,W⟩=> ?_⟩
 cases b with
 |true=>rw[if_pos rfl];exact W ρ1 H1 M1
 |false=>rw[if_neg l5];exact⟨tv,h.1,ρ1,s1,M1,W⟩
theorem sb_not{m:M Bool}(ha:SB X G F a m):SB X G F (.UnaryOp .Not a pos) (z1z m):=by
 refine PT.imp0 (zdw ha) fun σ H Q ⟨tv,h⟩=>⟨tv,(zeu h).mono fun b H1 ⟨ρ1,s1,M1,W⟩=>W ρ1 H1 M1⟩
noncomputable def z4d(m m':M D):M D:=bd (X0 m) fun b=>z7R b m' (rt (.bool false))
noncomputable def z6A(m:M D):M D:=bd (X0 m) fun b=>rt (.bool (!b))
theorem zaE{m:M D}{f:Bool->M D}{σ:St}{H:Hp}{Q:VK}(h:tM G F (bd (X0 m) f) σ H Q):tM G F m σ H fun x H1=> ∃k,x= .bl k/\∃ρ1 s1 tv,F.tv0<:+tv/\MR G F.toFx ρ1 H1 σ tv s1/\wM G F σ tv (f k s1) Q:=by
 obtain⟨tv,hs,ρ,s,M,W⟩:=h
 refine⟨tv,hs,ρ,s,M, ?_⟩
 unfold X0 bd at W
 cases e:m s with
 |ok t s1=>
  rw[e] at W
  intro ρ1 v H1 M1
  have h:=M1.rd1
  cases t with
  |bool b=>erw[RD] at h;exact⟨b,h,ρ1,s1,tv,hs,M1.m,W⟩
  |_=>exact False.elim W
 |ex d s1=>rw[e] at W;exact W
 |no=>rw[e] at W;exact W
theorem tM.mono{m:M D}{σ:St}{H:Hp}{Q Q':VK}(h:tM G F m σ H Q)(k: ∀v H,Q v H->Q' v H):tM G F m σ H Q':=by
 obtain⟨tv,h⟩:=h
 exact⟨tv,h.mono k⟩
theorem se_one{op}{m:M D}(h:SE X G F a m):SE X G F (.BoolOp op [a] pos) m:=zdx h
theorem se_and{rest:List Expr}{m m':M D}(ha:SE X G F a m)(hb:SE X G F (.BoolOp .And (b::rest) pos) m'):SE X G F (.BoolOp .And (a::b::rest) pos) (z4d m m'):=by
 refine PE.imp0 (zdy ha hb) fun σ H Q h=>(zaE h).mono fun x H1 ⟨k,e,ρ1,s1,tv,hs,M1,W⟩=>⟨k,e, ?_⟩
 cases k with
 |true=>rw[if_pos rfl];exact⟨tv,hs,ρ1,s1,M1,W⟩
 |false=>rw[if_neg l5];exact W.flat M1 rfl
theorem se_not{m:M D}(ha:SE X G F a m):SE X G F (.UnaryOp .Not a pos) (z6A m):=by
 refine PE.imp0 (zdz ha) fun σ H Q h=>(zaE h).mono fun x H1 ⟨k,e,ρ1,s1,tv,hs,M1,W⟩=>⟨k,e,W.flat M1 rfl⟩
noncomputable def z7S(y:D)(m:M D):M D:=match cV y with|some _=>m|none=>fl
noncomputable def z0O(ma mb mc:M D)(g g':D->D->M D):M D:=bd ma fun x=>bd (psh x) fun _=>bd mb fun y=>bd pop fun x'=>z7S y (bd (X0 (g x' y)) fun k=>z7R k (bd mc fun z=>g' y z) (rt (.bool false)))
theorem z4e{ma mb mc:M D}{g g':D->D->M D}{r r':R2}{σ:St}{H:Hp}{Q:VK}(hg:z01 G F r g)(hg':z01 G F r' g')(h:tM G F (z0O ma mb mc g g') σ H Q):z7c r r' (tM G F ma) (tM G F mb) (tM G F mc) σ H Q:=by
 obtain⟨tv,h⟩:=h
 have hs:=h.1
 refine⟨tv,(z5J (g:=fun x' y=>z7S y (bd (X0 (g x' y)) fun k=>z7R k (bd mc fun z=>g' y z) (rt (.bool false)))) h).mono fun v H1 h1=>⟨_,h1.mono fun u H2 ⟨ρ,s,t,t',M,W⟩=> ?_⟩⟩
 unfold z7S at W
 cases e:cV t' with
 |none=>rw[e] at W;exact False.elim W
 |some u'=>
  rw[e] at W
  have hu:u=u':=by
   have h2:=M.rd2.2
   cases t'<;>erw[cV,Option.some.injEq] at e<;>erw[RD] at h2<;>first|(rw[h2,e])|cases e
  subst hu
  unfold bd X0 at W
  dsimp only at W
  refine hg ρ s t t' v u H2 σ tv _ M ?_
  unfold bd at W
  cases e2:g t t' s with
  |ok z s1=>
   rw[e2] at W
   intro ρ1 w H3 M3
   have h3:=M3.rd1
   cases z with
   |bool k=>
    erw[RD] at h3
    refine⟨k,h3, ?_⟩
    have W:wM G F σ tv (z7R k (bd mc fun z=>g' t' z) (rt (.bool false)) s1) Q:=W
    cases k with
    |false=>rw[if_neg l5];exact W.flat M3.m rfl
    |true=>
     rw[if_pos rfl]
     have h5:tMv G F (bd mc fun z=>g' t' z) σ tv H3 Q:=⟨hs,ρ1,s1,M3.m,W⟩
     refine⟨tv,(z4Y h5).mono fun w' H4 ⟨ρ4,s4,t4,M4,W4⟩=>hg' ρ4 s4 t' t4 u w' H4 σ tv Q ⟨M4.m, ?_,fun l hl=> ?_⟩ W4⟩
     ·erw[RDs];exact⟨_,_,rfl,(z6y e).1,_,_,rfl,M4.rd1,rfl⟩
     ·erw[labsL,(z6y (G:=G) (ρ:=ρ4) (H:=H4) e).2,m5,h9] at hl
      exact M4.lb1 l hl
   |_=>exact False.elim W
  |ex d s1=>rw[e2] at W;exact W
  |no=>rw[e2] at W;exact W
theorem z9L{op op':CmpOp}{r r':R2}{ma mb mc:M D}{g g':D->D->M D}(ho:OpR X (compareOp op) r)(hg:z01 G F r g)(ho':OpR X (compareOp op') r')(hg':z01 G F r' g')(ha:SE X G F a ma)(hb:SE X G F b mb)(hc:SE X G F c mc)
 (hm:lastMarks [op,op'] [b,c]=false:=by with_unfolding_all rfl):SE X G F (.Compare a [op,op'] [b,c] pos) (z0O ma mb mc g g'):=
 PE.imp0 (z9m ho ho' ha hb hc hm) fun _ _ _ h=>z4e hg hg' h
theorem z9M{op op':CmpOp}{r r':R2}{ma mb mc:M D}{g g':D->D->M D}(ho:OpR X (compareOp op) r)(hg:z01 G F r g)(ho':OpR X (compareOp op') r')(hg':z01 G F r' g')(ha:SE X G F a ma)(hb:SE X G F b mb)(hc:SE X G F c mc)
 (hm:lastMarks [op,op'] [b,c]=false:=by with_unfolding_all rfl):SB X G F (.Compare a [op,op'] [b,c] pos) (X0 (z0O ma mb mc g g')):=
 PT.imp0 (z9n ho ho' ha hb hc hm) fun _ _ _ h=>z4e hg hg' (z7Q h)
end
noncomputable def z1A:List D->M D
 |[.tup ds]=>rt (.int ds.length)
 |[.ro ds]=>rt (.int ds.length)
 |[.lst _ ds]=>rt (.int ds.length)
 |_=>fl
noncomputable def zd8:List D->M D
 |[.int i]=>rt (.int (if i<0 then -i else i))
 |_=>fl
noncomputable def zc0:List D->M D
 |[.int i, .int j]=>rt (.int (if j<i then j else i))
 |_=>fl
noncomputable def zd9:List D->M D
 |[.int i, .int j]=>rt (.int (if j>i then j else i))
 |_=>fl
noncomputable def V3:List D->Option (List Bool)
 |[]=>some []
 | .bool b::r=>(V3 r).map (b:: ·)
 |_=>none
noncomputable def z98:List D->M D
 |[.lst _ ds]=>match V3 ds with|some bs=>rt (.bool (bs.all id))|none=>fl
 |_=>fl
noncomputable def zda:List D->M D
 |[.int i]=>rt (.int i)
 |[.bool b]=>rt (.int (if b then 1 else 0))
 |_=>fl
noncomputable def z99:List D->M D
 |[.tup ds]=>rt (.tup ds)
 |[.ro ds]=>rt (.tup ds)
 |[.lst _ ds]=>rt (.tup ds)
 |_=>fl
section
variable{X:Cx}{G:Gx}{F:Fy}{e a b c:Expr}{pos:Pos}
theorem MRL.one{ρ:Nat->Addr}{H:Hp}{σv tv:List (Option V)}{s:Stt}{t:D}{vs:List V}(M:MRL G F.toFx ρ H σv tv s [t] vs): ∃v,vs=[v]/\RD G ρ H t v/\LB F.toFx ρ s.n (y3 t):=by
 have h:=M.rd
 erw[RDs] at h
 obtain⟨v,r,rfl,h,rfl⟩:=h
 exact⟨v,rfl,h,M.lb1⟩
theorem MRL.two{ρ:Nat->Addr}{H:Hp}{σv tv:List (Option V)}{s:Stt}{t t':D}{vs:List V}(M:MRL G F.toFx ρ H σv tv s [t,t'] vs): ∃v u,vs=[v,u]/\RD G ρ H t v/\RD G ρ H t' u:=by
 have h:=M.rd
 erw[RDs] at h
 obtain⟨v,r,rfl,h,u,q,rfl,h',rfl⟩:=h
 exact⟨v,u,rfl,h,h'⟩
theorem zev:u1 G F (fun xs H Q=> ∃p ys,xs=[.ref p]/\(SqL G.K H p ys\/SqT G.K H p ys)/\Q (.int ys.length) H) z1A:=by
 intro ρ s ts vs H σv tv Q M W
 unfold z1A at W
 split at W
 ·obtain⟨v,rfl,h,_⟩:=M.one
  obtain⟨p,xs,rfl,s1,r1,_⟩:=h.seq rfl
  exact⟨p,xs,rfl,s1,fun _=>by rw[<-r1.length];exact W.flat M.m rfl⟩
 ·obtain⟨v,rfl,h,_⟩:=M.one
  obtain⟨p,xs,rfl,s1,r1,_⟩:=h.seq rfl
  exact⟨p,xs,rfl,s1,fun _=>by rw[<-r1.length];exact W.flat M.m rfl⟩
 ·obtain⟨v,rfl,h,_⟩:=M.one
  obtain⟨p,xs,rfl,s1,r1,_⟩:=h.seq rfl
  exact⟨p,xs,rfl,s1,fun _=>by rw[<-r1.length];exact W.flat M.m rfl⟩
 ·exact wfl W
theorem zew:u1 G F (fun xs H Q=> ∃i,xs=[.int i]/\Q (.int (if i<0 then -i else i)) H) zd8:=by
 intro ρ s ts vs H σv tv Q M W
 unfold zd8 at W
 split at W
 ·obtain⟨v,rfl,h,_⟩:=M.one
  erw[RD] at h
  subst h
  exact⟨_,rfl,fun _=>W.flat M.m rfl⟩
 ·exact wfl W
theorem zex:u1 G F (fun xs H Q=> ∃i j,xs=[.int i, .int j]/\Q (.int (if j<i then j else i)) H) zc0:=by
 intro ρ s ts vs H σv tv Q M W
 unfold zc0 at W
 split at W
 ·obtain⟨v,u,rfl,h,h'⟩:=M.two
  erw[RD] at h h'
  subst h h'
  exact⟨_,_,rfl,fun _=>W.flat M.m rfl⟩
 ·exact wfl W
theorem zey:u1 G F (fun xs H Q=> ∃i j,xs=[.int i, .int j]/\Q (.int (if j>i then j else i)) H) zd9:=by
 intro ρ s ts vs H σv tv Q M W
 unfold zd9 at W
 split at W
 ·obtain⟨v,u,rfl,h,h'⟩:=M.two
  erw[RD] at h h'
  subst h h'
  exact⟨_,_,rfl,fun _=>W.flat M.m rfl⟩
 ·exact wfl W
theorem z5L{ρ:Nat->Addr}{H:Hp}: ∀{ds:List D} {xs:List V} {bs:List Bool},RDs G ρ H ds xs->V3 ds=some bs->xs=bs.map V.bl
 |[],xs,bs,r,e=>by erw[RDs] at r;erw[V3,Option.some.injEq] at e;subst r e;rfl
 |d::ds,xs,bs,r,e=>by
  erw[RDs] at r
  obtain⟨x,q,rfl,h1,h2⟩:=r
  cases d with
  |bool b=>
   erw[V3] at e
   cases e1:V3 ds with
   |none=>rw[e1] at e;cases e
   |some cs=>
    rw[e1] at e
    cases e
    erw[RD] at h1
    rw[h1,z5L h2 e1];rfl
  |_=>erw[V3] at e;cases e
theorem zez:u1 G F (fun xs H Q=> ∃(p:Addr) (bs:List Bool),xs=[.ref p]/\SqL G.K H p (bs.map V.bl)/\Q (.bl (bs.all id)) H) z98:=by
 intro ρ s ts vs H σv tv Q M W
 unfold z98 at W
 split at W
 ·rename_i l ds
  cases e1:V3 ds with
  |none=>rw[e1] at W;exact False.elim W
  |some bs=>
   rw[e1] at W
   obtain⟨v,rfl,h,_⟩:=M.one
   obtain⟨p,xs,rfl,s1,r1,_⟩:=h.lstq (ds:=ds) rfl
   rw[z5L r1 e1] at s1
   exact⟨p,bs,rfl,s1,fun _=>W.flat M.m rfl⟩
 ·exact wfl W
theorem zeA:u1 G F (fun xs H Q=>(∃i,xs=[.int i]/\Q (.int i) H)\/∃k,xs=[.bl k]/\Q (.int (if k then 1 else 0)) H) zda:=by
 intro ρ s ts vs H σv tv Q M W
 unfold zda at W
 split at W
 ·obtain⟨v,rfl,h,_⟩:=M.one
  erw[RD] at h
  subst h
  exact .inl ⟨_,rfl,fun _=>W.flat M.m rfl⟩
 ·obtain⟨v,rfl,h,_⟩:=M.one
  erw[RD] at h
  subst h
  exact .inr ⟨_,rfl,fun _=>W.flat M.m rfl⟩
 ·exact wfl W
theorem zc1:u1 G F (fun xs H Q=> ∃(p:Addr) (ys:List V),xs=[.ref p]/\(SqL G.K H p ys\/H p=some (.tup ys))/\z7F G.K H ys Q) z99:=by
 intro ρ s ts vs H σv tv Q M W
 have fin: ∀(t:D) (ds:List D),ts=[t]->z97 t=some ds->wM G F σv tv (.ok (.tup ds) s) Q->∃(p:Addr) (ys:List V),vs=[.ref p]/\(SqL G.K H p ys\/H p=some (.tup ys))/\z7F G.K H ys (fun w H'=>KD G.K H'->Q w H'):=fun t ds et es W'=>by
  subst et
  obtain⟨v,rfl,h,lb⟩:=M.one
  obtain⟨p,xs,rfl,s1,r1,sub⟩:=h.seqx es
  exact⟨p,xs,rfl,s1,z3w W' M.m r1 fun l hl=>lb l (sub l hl)⟩
 unfold z99 at W
 split at W
 ·exact fin _ _ rfl rfl W
 ·exact fin _ _ rfl rfl W
 ·exact fin _ _ rfl rfl W
 ·exact wfl W
noncomputable def isiD(T:String):D->Option Bool
 | .non=>some false
 | .bool _=>some (T== "int" ||T== "bool")
 | .int _=>some (T== "int")
 | .str _=>some (T== "str")
 | .tup _=>some (T== "tuple")
 | .ro _=>some (T== "list")
 | .lst _ _=>some (T== "list")
 |_=>none
noncomputable def z3U(T:String)(m:M D):M D:=bd m fun d=>match isiD T d with|some b=>rt (.bool b)|none=>fl
theorem zeB{ρ:Nat->Addr}{H:Hp}{t:D}{v:V}{T:String}{b:Bool}(h:RD G ρ H t v)(e:isiD T t=some b):zij G.K H T b v:=by
 cases t<;>erw[isiD,Option.some.injEq] at e<;>try cases e
 ·erw[RD] at h;subst h;exact rfl
 ·erw[RD] at h;subst h;exact rfl
 ·erw[RD] at h;subst h;exact rfl
 ·erw[RD] at h;subst h;exact rfl
 ·obtain⟨p,xs,rfl,s1,r1⟩:=h.tupq
  exact .inl ⟨xs,s1,rfl⟩
 ·obtain⟨p,xs,rfl,s1,r1,_⟩:=h.lstq rfl
  exact .inr ⟨xs,s1,rfl⟩
 ·obtain⟨p,xs,rfl,s1,r1,_⟩:=h.lstq rfl
  exact .inr ⟨xs,s1,rfl⟩
theorem se_isi{p:Pos}{x y:Expr}{T:String}{m:M D}(hk:X.K=G.K)(hT:T= "int" \/T= "bool" \/T= "tuple" \/T= "list" \/T= "str")(hgl:Gl X "isinstance")(hm:X.mg "isinstance" =none)(ha:SE X G F x m)(hy:PE X y (tC (.ty T)))
 (he:starEach [x,y] X.env=(false,eval x X.env)::starEach [y] X.env:=by rfl) (he2:starEach [y] X.env=(false,eval y X.env)::starEach [] X.env:=by rfl) (hpl:(backTo pos (starEach [y] X.env)).any (·.1)=false:=by rfl):SE X G F (.Call (.Name "isinstance" p) [x,y] [] pos) (z3U T m):=by
 refine PE.imp hk (z5z z9G hgl hm PyProof.Rows.Boot.«isinstance» (z24 ha (z24 hy z5x he2) he) (by decide) (by decide) he hpl) fun σ H Q ⟨tv,h⟩=>⟨tv,(z4Y h).mono fun v H1 ⟨ρ1,s1,t,M1,W⟩=> ?_⟩
 cases e:isiD T t with
 |none=>erw[e] at W;exact False.elim W
 |some b=>
  erw[e] at W
  rw[hk]
  exact⟨v,T,b,rfl,hT,zeB M1.rd1 e,fun _=>W.flat M1.m rfl⟩
end
inductive RS where
 |nx (s:Stt)|rt (d:D) (s:Stt)|bk (s:Stt)|ct (s:Stt)|ex (d:D) (s:Stt)|no
noncomputable abbrev MS:=Stt->RS
noncomputable def z0W{α:Type}(m:M α)(f:α->MS):MS:=fun s=>match m s with
 | .ok a s'=>f a s'
 | .ex d s'=> .ex d s'
 | .no=> .no
noncomputable def Q6(m m':MS):MS:=fun s=>match m s with
 | .nx s'=>m' s'
 |r=>r
noncomputable def sNx:MS:=fun s=> .nx s
noncomputable def z0o(m:M D):MS:=z0W m fun _=>sNx
noncomputable def X8(m:M D):MS:=z0W m fun d s=> .rt d s
noncomputable def zeC(b:Bool)(m m':MS):MS:=match b with|true=>m|false=>m'
noncomputable def sIf(c:M Bool)(m m':MS):MS:=z0W c fun b=>zeC b m m'
inductive Tg where
 |nm (i:Nat)|tp (ts:List Tg)
mutual
noncomputable def asg:Tg->D->List (Option D)->Option (List (Option D))
 | .nm i,t,σ=>some (σ.set i (some t))
 | .tp ts, .tup ds,σ=>asgL ts ds σ
 | .tp ts, .lst _ ds,σ=>asgL ts ds σ
 | .tp _,_,_=>none
noncomputable def asgL:List Tg->List D->List (Option D)->Option (List (Option D))
 |[],[],σ=>some σ
 |t::ts,d::ds,σ=>match asg t d σ with|some σ'=>asgL ts ds σ'|none=>none
 |_,_,_=>none
end
noncomputable def U0(g:Tg)(m:M D):MS:=z0W m fun d s=>match asg g d s.σ with
 |some σ'=> .nx {s with σ:=σ'}
 |none=> .no
section
variable{X:Cx}{G:Gx}{F:Fy}{e a b c:Expr}{st:Stmt}{sts rest:List Stmt}{pos:Pos}
noncomputable def wS(G:Gx)(F:Fy)(tv:List (Option V))(r:RS)(D:z5v):Prop:=match r with
 | .nx s'=> ∀ρ' σv' H',MR G F.toFx ρ' H' σv' tv s'->D.nx σv' H'
 | .rt t s'=> ∀ρ' σv' v H',MRL G F.toFx ρ' H' σv' tv s' [t] [v]->D.rt v H'
 | .bk s'=> ∀ρ' σv' H',MR G F.toFx ρ' H' σv' tv s'->D.bk σv' H'
 | .ct s'=> ∀ρ' σv' H',MR G F.toFx ρ' H' σv' tv s'->D.ct σv' H'
 | .ex d s'=>F.xw d s'
 | .no=>False
noncomputable def tSv(G:Gx)(F:Fy)(m:MS)(tv:List (Option V))(D:z5v)(σv:St)(H:Hp):Prop:=F.tv0<:+tv/\∃ρ s,MR G F.toFx ρ H σv tv s/\wS G F tv (m s) D
noncomputable def tS(G:Gx)(F:Fy)(m:MS):TS:=fun D σv H=> ∃tv,tSv G F m tv D σv H
noncomputable def SS(X:Cx)(G:Gx)(F:Fy)(st:Stmt)(m:MS):Prop:=PS X st (tS G F m)
noncomputable def SSs(X:Cx)(G:Gx)(F:Fy)(sts:List Stmt)(m:MS):Prop:=PSs X sts (tS G F m)
theorem PS.imp0{t t':TS}(h:PS X st t)(hi: ∀D σ H,t' D σ H->t D σ H):PS X st t':=fun pins s σ H D I q=>h pins s σ H D I (hi D σ H q)
theorem PSs.imp0{t t':TS}(h:PSs X sts t)(hi: ∀D σ H,t' D σ H->t D σ H):PSs X sts t':=fun pins s σ H D I q=>h pins s σ H D I (hi D σ H q)
theorem ss_nil:SSs X G F [] sNx:=PSs.imp0 zbf fun D σ H ⟨tv,hs,ρ,s,M,W⟩=>W ρ σ H M
theorem ss_cons{m m':MS}(h1:SS X G F st m)(h2:SSs X G F rest m'):SSs X G F (st::rest) (Q6 m m'):=by
 refine PSs.imp0 (z9h h1 h2) fun D σ H ⟨tv,hs,ρ,s,M,W⟩=>⟨tv,hs,ρ,s,M, ?_⟩
 unfold Q6 at W
 cases e:m s with
 |nx s'=>rw[e] at W;exact fun ρ' σv' H' M'=>⟨tv,hs,ρ',s',M',W⟩
 |rt d s'=>rw[e] at W;exact W
 |bk s'=>rw[e] at W;exact W
 |ct s'=>rw[e] at W;exact W
 |ex d s'=>rw[e] at W;exact W
 |no=>rw[e] at W;exact W
theorem ss_one{m:MS}(h1:SS X G F st m):SSs X G F [st] m:=zbg h1
theorem z02{m:M D}{f:D->MS}{tv:List (Option V)}{D:z5v}{σ:St}{H:Hp}(h:tSv G F (z0W m f) tv D σ H):tMv G F m σ tv H fun v H1=> ∃ρ1 s1 t,MRL G F.toFx ρ1 H1 σ tv s1 [t] [v]/\wS G F tv (f t s1) D:=by
 obtain⟨hs,ρ,s,M,W⟩:=h
 refine⟨hs,ρ,s,M, ?_⟩
 unfold z0W at W
 cases e:m s with
 |ok t s1=>rw[e] at W;exact fun ρ1 v H1 M1=>⟨ρ1,s1,t,M1,W⟩
 |ex d s1=>rw[e] at W;exact W
 |no=>rw[e] at W;exact W
theorem z7T{m:M Bool}{f:Bool->MS}{tv:List (Option V)}{D:z5v}{σ:St}{H:Hp}(h:tSv G F (z0W m f) tv D σ H):tBv G F m σ tv H fun b H1=> ∃ρ1 s1,MR G F.toFx ρ1 H1 σ tv s1/\wS G F tv (f b s1) D:=by
 obtain⟨hs,ρ,s,M,W⟩:=h
 refine⟨hs,ρ,s,M, ?_⟩
 unfold z0W at W
 cases e:m s with
 |ok t s1=>rw[e] at W;exact fun ρ1 H1 M1=>⟨ρ1,s1,M1,W⟩
 |ex d s1=>rw[e] at W;exact W
 |no=>rw[e] at W;exact W
theorem ss_expr{m:M D}(he:SE X G F e m)(hs:swapsWith e none pos.line X.env=pure false:=by rfl):SS X G F (.Expr e pos) (z0o m):=
 PS.imp0 (zbh he hs) fun D σ H ⟨tv,h⟩=>⟨tv,(z02 h).mono fun v H1 ⟨ρ1,s1,t,M1,W⟩=>W ρ1 σ H1 M1.m⟩
theorem ss_ret{m:M D}(he:SE X G F e m):SS X G F (.Return (some e) pos) (X8 m):=
 PS.imp0 (zdA he) fun D σ H ⟨tv,h⟩=>⟨tv,(z02 h).mono fun v H1 ⟨ρ1,s1,t,M1,W⟩=>W ρ1 σ v H1 M1⟩
theorem ss_if{x y:List Stmt}{mc:M Bool}{m m':MS}(hc:SB X G F c mc)(ha:SSs X G F x m)(hb:SSs X G F y m'):SS X G F (.If c x y pos) (sIf mc m m'):=by
 refine PS.imp0 (zgo hc ha hb) fun D σ H ⟨tv,h⟩=>⟨tv,(z7T h).mono fun k H1 ⟨ρ1,s1,M1,W⟩=> ?_⟩
 cases k with
 |true=>rw[if_pos rfl];exact⟨tv,h.1,ρ1,s1,M1,W⟩
 |false=>rw[if_neg l5];exact⟨tv,h.1,ρ1,s1,M1,W⟩
noncomputable def tGn(G:Gx)(F:Fy)(g:Tg):TG:=fun v σv H Q=> ∃tv ρ s t,MRL G F.toFx ρ H σv tv s [t] [v]/\∃σ',asg g t s.σ=some σ'/\∀σv',MR G F.toFx ρ H σv' tv {s with σ:=σ'}->Q σv' H
noncomputable def tGs(G:Gx)(F:Fy)(g:List Tg):TGs:=fun vs σv H Q=> ∃tv ρ s ts,MRL G F.toFx ρ H σv tv s ts vs/\∃σ',asgL g ts s.σ=some σ'/\∀σv',MR G F.toFx ρ H σv' tv {s with σ:=σ'}->Q σv' H
noncomputable def SG(X:Cx)(G:Gx)(F:Fy)(tg:Expr)(g:Tg):Prop:=PG X tg (tGn G F g)
noncomputable def SGs(X:Cx)(G:Gx)(F:Fy)(tgs:List Expr)(g:List Tg):Prop:=PGs X tgs (tGs G F g)
theorem MRL.setS{ρ:Nat->Addr}{H:Hp}{σv tv:List (Option V)}{s:Stt}{t:D}{v:V}{ts:List D}{vs:List V}(i:Nat)(M:MRL G F.toFx ρ H σv tv s (t::ts) (v::vs)):MRL G F.toFx ρ H (σv.set i (some v)) tv {s with σ:=s.σ.set i (some t)} ts vs:=by
 have h:=M.rd
 erw[RDs] at h
 obtain⟨_,_,e,h1,h2⟩:=h
 cases e
 have lb1: ∀l∈y3 t,l<s.n/\(F.A0 (ρ l)\/F.H0 (ρ l)=none):=fun l h=>M.lb l (by erw[labsL];exact b9 _ h)
 have all: ∀l∈J7 {s with σ:=s.σ.set i (some t)},l<s.n/\(F.A0 (ρ l)\/F.H0 (ρ l)=none):=fun l h=>by
  rcases c9.mp h with h|h
  ·rcases z2i l h with q|q
   ·exact⟨M.m.lab l (b9 _ q),M.m.own l (b9 _ q)⟩
   ·exact lb1 l q
  ·exact⟨M.m.lab l (b6 _ h),M.m.own l (b6 _ h)⟩
 exact⟨⟨M.m.sl.set i h1,M.m.tm,M.m.inj,M.m.dom,fun l h=>(all l h).1,fun l h=>(all l h).2,M.m.frm,M.m.kd,M.m.frb,M.m.bas⟩,h2,fun l h=>M.lb l (by erw[labsL];exact b6 _ h)⟩
theorem sg_name{i:Nat}{x:Str}{p:Pos}(h:PG X (.Name x p) (z0M i)):SG X G F (.Name x p) (.nm i):=by
 intro pins s σ H v u Q I r ⟨tv,ρ,ms,t,M,σ',e,k⟩
 erw[asg,Option.some.injEq] at e
 subst e
 exact h pins s σ H v u Q I r (k _ (M.setS i).m)
theorem sgs_nil:SGs X G F [] []:=by
 intro pins s σ H vs us Q I r ⟨tv,ρ,ms,ts,M,σ',e,k⟩
 cases ts with
 |nil=>
  erw[asgL,Option.some.injEq] at e
  subst e
  have h:=M.rd
  erw[RDs] at h
  exact z77 pins s σ H vs us Q I r ⟨h,k _ M.m⟩
 |cons d ds=>erw[asgL] at e;cases e
theorem MRL.cons_inv{ρ:Nat->Addr}{H:Hp}{σv tv:List (Option V)}{s:Stt}{t:D}{ts:List D}{vs:List V}(M:MRL G F.toFx ρ H σv tv s (t::ts) vs): ∃v r,vs=v::r/\MRL G F.toFx ρ H σv tv s [t] [v]/\RDs G ρ H ts r/\LB F.toFx ρ s.n (labsL ts):=by
 have h:=M.rd
 erw[RDs] at h
 obtain⟨v,r,rfl,h1,h2⟩:=h
 exact⟨v,r,rfl,⟨M.m,RDs.one h1,fun l h=>M.lb l (by erw[labsL,h9] at h⊢;exact b9 _ h)⟩,h2,fun l h=>M.lb l (by erw[labsL];exact b6 _ h)⟩
theorem PGs.imp0{es:List Expr}{t t':TGs}(h:PGs X es t)(hi: ∀vs σ H Q,t' vs σ H Q->t vs σ H Q):PGs X es t':=fun pins s σ H vs us Q I r q=>h pins s σ H vs us Q I r (hi vs σ H Q q)
theorem PG.imp0{t t':TG}(h:PG X e t)(hi: ∀v σ H Q,t' v σ H Q->t v σ H Q):PG X e t':=fun pins s σ H v u Q I r q=>h pins s σ H v u Q I r (hi v σ H Q q)
theorem sgs_cons{es:List Expr}{g:Tg}{gs:List Tg}(h1:SG X G F e g)(h2:SGs X G F es gs)(hs:(assignEach (e::es) X.env).map (·.2)=assign e X.env::(assignEach es X.env).map (·.2):=by rfl):SGs X G F (e::es) (g::gs):=by
 refine PGs.imp0 (z3n h1 h2 hs) fun vs σv H Q ⟨tv,ρ,s,ts,M,σ',e,k⟩=> ?_
 cases ts with
 |nil=>erw[asgL] at e;cases e
 |cons d ds=>
  erw[asgL] at e
  cases e1:asg g d s.σ with
  |none=>rw[e1] at e;cases e
  |some σ1=>
   rw[e1] at e
   obtain⟨v,r,rfl,M1,h2,lb⟩:=M.cons_inv
   exact⟨v,r,rfl,tv,ρ,s,d,M1,σ1,e1,fun σv1 M2=>⟨tv,ρ,{s with σ:=σ1},ds,⟨M2,h2,lb⟩,σ',e,k⟩⟩
theorem sg_tup{es:List Expr}{k:Nat}{gs:List Tg}(hk:X.K=G.K)(hc:X.calm=true)(h:SGs X G F es gs)(hn:(assignEach es X.env).length=gs.length:=by rfl)(hst:(assignEach es X.env).findIdx? (·.1)=none:=by rfl):SG X G F (.Tuple es k pos) (.tp gs):=by
 refine PG.imp0 (zeh hc h hn hst) fun v σv H Q ⟨tv,ρ,s,t,M,σ',e,kk⟩=> ?_
 have len: ∀{gs:List Tg} {ds:List D} {σ σ':List (Option D)},asgL gs ds σ=some σ'->ds.length=gs.length:=by
  intro gs
  induction gs with
  |nil=>intro ds σ σ' e;cases ds with
   |nil=>rfl
   |cons _ _=>erw[asgL] at e;cases e
  |cons g gs ih=>intro ds σ σ' e;cases ds with
   |nil=>erw[asgL] at e;cases e
   |cons d ds=>
    erw[asgL] at e
    cases e1:asg g d σ with
    |none=>rw[e1] at e;cases e
    |some σ1=>rw[e1] at e;rw[i9,i9,ih e]
 cases t with
 |tup ds=>
  erw[asg] at e
  obtain⟨a,xs,rfl,sq,r⟩:=M.rd1.tupq
  refine⟨a,xs,rfl, .inl (hk▸sq),by rw[<-r.length];exact len e,tv,ρ,s,ds,⟨M.m,r,fun l h=>M.lb1 l (by erw[y3];exact h)⟩,σ',e,kk⟩
 |lst l ds=>
  erw[asg] at e
  obtain⟨a,xs,rfl,sq,r,sub⟩:=M.rd1.lstq (ds:=ds) rfl
  refine⟨a,xs,rfl, .inr (hk▸sq),by rw[<-r.length];exact len e,tv,ρ,s,ds,⟨M.m,r,fun l h=>M.lb1 l (sub l h)⟩,σ',e,kk⟩
 |_=>erw[asg] at e;cases e
theorem ss_asg{tg:Expr}{g:Tg}{m:M D}(he:SE X G F e m)(hg:SG X G F tg g)(hs:swapsWithSole [tg] e pos.line X.env=pure false:=by rfl)(hw:swappedStores [tg] e X.env=pure none:=by rfl)
 (h1:(assignEach [tg] X.env).map (·.2)=[assign tg X.env]:=by rfl):SS X G F (.Assign [tg] e pos) (U0 g m):=by
 refine PS.imp0 (zas he hg hs hw h1) fun D σ H ⟨tv,h⟩=>⟨tv,(z02 h).mono fun v H1 ⟨ρ1,s1,t,M1,W⟩=> ?_⟩
 cases e:asg g t s1.σ with
 |none=>erw[e] at W;exact False.elim W
 |some σ'=>
  erw[e] at W
  exact⟨tv,ρ1,s1,t,M1,σ',e,fun σv' M2=>W ρ1 σv' H1 M2⟩
theorem ss_set{i:Nat}{x:Str}{p:Pos}{m:M D}(h: ∀{te:TE},PE X e te->PS X (.Assign [.Name x p] e pos) (zga te (z0M i)))(he:SE X G F e m):SS X G F (.Assign [.Name x p] e pos) (U0 (.nm i) m):=by
 refine PS.imp0 (h he) fun D σ H ⟨tv,h⟩=>⟨tv,(z02 h).mono fun v H1 ⟨ρ1,s1,t,M1,W⟩=> ?_⟩
 erw[asg] at W
 exact W ρ1 _ H1 (M1.setS i).m
end
end Mi
namespace L2
open PySem PySem.Spec PyProof.Rows
noncomputable abbrev z7U(ifs:List Expr)(env:Env):Sem Bool:=forIn ifs true fun c r=>if r=true then do let ok<-isTrue c env (eval c env);pure (ForInStep.yield ok) else pure (ForInStep.yield r)
theorem U7{prog:Program}{w:World}{A:Around}{R:Result->Shared->Prop}{s:Shared}{elt target iter:Expr}{ifs:List Expr}{scope:Scope}{pos:Pos}{it acc:Value}{env:Env}(I:Nat->Shared->Prop)
 (turn: ∀n s,I n s->wpAny (model prog w) A (pyNext it) (fun r s₁=>match r with
  |none=>R (.ok .next) s₁
  |some v=>wpAny (model prog w) A (letOwnedTupleGo target it v) (fun _ s₁=>wpAny (model prog w) A (assign target env v) (fun _ s₂=>wpAny (model prog w) A (z7U ifs env) (fun ok s₃=>
   if ok=true then wpAny (model prog w) A (eval elt env) (fun x s₃=>
   wpAny (model prog w) A (call (.builtin "list.append") [acc,x]) (fun _ s₄=> ∃m,m<n/\I m s₄) (fun _ _=>False) s₃)
   (fun _ _=>False) s₃ else ∃m,m<n/\I m s₃) (fun _ _=>False) s₂) (fun _ _=>False) s₁) (fun _ _=>False) s₁) (fun _ _=>False) s)
 (n:Nat) (h:I n s):
 codeAny (model prog w) A (.compLoop (.ListComp elt [⟨target,iter,ifs,0⟩] scope pos) 0 it acc env) R s:=by
 refine codeAny_loop rfl I (fun n s hI=> ?_) n h
 show wpAny _ _ ((compTurn (.ListComp elt [⟨target,iter,ifs,0⟩] scope pos) 0 it acc env).onRaise (fun x=>do noteFrame x env;theTreesLotGoes x)) _ _ s
 refine wpAny_noted ?_
 rw[compTurn_list]
 refine wpAny_bind (wpAny_standAt (wpAny_bind (wpAny_mono (turn n s hI) (fun r s₁ h₁=> ?_) fun _ _ h'=>h'.elim)))
 cases r with
 |none=>exact wpAny_pure h₁
 |some v=>
  refine wpAny_bind (wpAny_mono h₁ (fun _ s₁ h₁=> ?_) fun _ _ h'=>h'.elim)
  refine wpAny_bind (wpAny_mono h₁ (fun _ s₂ h₂=>wpAny_bind (wpAny_mono h₂ (fun ok s₃ h₃=> ?_) fun _ _ h'=>h'.elim)) fun _ _ h'=>h'.elim)
  cases ok with
  |false=>exact wpAny_pure ⟨rfl,h₃⟩
  |true=>
   exact wpAny_bind (wpAny_bind (wpAny_mono h₃ (fun x s₄ h₄=>wpAny_bind (wpAny_mono h₄ (fun _ s₅ h₅=>wpAny_pure (wpAny_pure ⟨rfl,h₅⟩)) fun _ _ h'=>h'.elim)) fun _ _ h'=>h'.elim))
noncomputable def PTs(X:Cx)(ifs:List Expr)(t:TT):Prop:=
 ∀(pins:List (Addr×Obj)) (s:Shared) (σ:St) (H:Hp) (Q:Bool->Hp->Prop),Inv X pins σ H s->t σ H Q->wpAny (model X.prog X.w) X.A (z7U ifs X.env) (TP X pins σ Q) X.xe s
theorem z4Z{X:Cx}:PTs X [] (fun _ H Q=>Q true H):=fun pins s σ H Q I h=>wpAny_tests_nil ⟨H,I,h⟩
theorem zc2{X:Cx}{c:Expr}{t:TT}(h:PT X c t):PTs X [c] t:=fun pins s σ H Q I q=>wpAny_tests_one (h pins s σ H Q I q)
section
variable{X:Cx}{tg iter elt:Expr}{ifs:List Expr}{pos:Pos}{scope:Scope}{own frees:List Str}{ix:List Nat}{wi:TI}{g:TG}{tt:TT}{te:TE}
noncomputable def z7V(K:W.Frag)(wi:TI)(g:TG)(tt:TT)(te:TE)(k:Nat)(ix:List Nat):TE:=fun σ H Q=>wi σ H fun J H1=> ∀D,H1 D=none->(∀a o,K.lookup a=some o->upd H1 D (.lst []) a=none)->
 ∃W:Nat->Nat->List V->St->Hp->Prop,(∃m,W 0 m [] (z0k k ix σ) (upd H1 D (.lst [])))/\
  ∀i m ys σ' H',W i m ys σ' H'->H' D=some (.lst ys)/\((J.stop i H'/\Q (.ref D) H')\/
   (J.go i H'/\∀x H2,J.yld i H' x H2->g x σ' H2 fun σ2 H3=>tt σ2 H3 fun ok H3=>if ok=true then te σ2 H3 fun y H4=>H4 D=some (.lst ys)/\ys.length<sizeLine/\∃m',m'<m/\W (i+1) m' (ys++[y]) σ2 (upd H4 D (.lst (ys++[y])))
    else ∃m',m'<m/\W (i+1) m' ys σ2 H3))
theorem z2k(hc:X.calm=true)(S:j4 X.env.scope scope own frees X.N ix)(hi:PI X tg iter wi)
 (hg: ∀cl C s₀ H₀ fp pn,PG (W5 X scope own frees cl C s₀ H₀ fp pn) tg g) (ht: ∀cl C s₀ H₀ fp pn,PTs (W5 X scope own frees cl C s₀ H₀ fp pn) ifs tt) (he: ∀cl C s₀ H₀ fp pn,PE (W5 X scope own frees cl C s₀ H₀ fp pn) elt te)
 (hs: ∀x,foldedSetIterable iter X.env x=pure x:=by intro _;rfl):
 PE X (.ListComp elt [⟨tg,iter,ifs,0⟩] scope pos) (z7V X.K wi g tt te own.length ix):=by
 intro pins s σ H Q I h
 have hclos:closureFor scope X.env=pure (K0 X.env scope.names []):=z1g fun y hy e=>I.ok.has y.1 (S.fr y hy e)
 rw[eval_ListComp]
 refine wpAny_comprehension_free (use:=none) rfl hs hclos S.kind S.names (thn (hi pins s σ H _ I h) fun v s1 h1=>thn h1 fun itv s2 h2=> ?_)
 obtain⟨it,fp,tn,J,H2,e,I2,T,st2,f2,hD⟩:=h2
 subst e
 refine wpAny_newObj_type ?_
 have I3:Inv X pins σ (upd H2 s2.heap.objs.size (.lst [])) {s2 with heap:=s2.heap.push {cls:= .type "list",data:= .seq ([]:List Value).toArray}}:=I2.lnew (t':=s2.toks) .nil (C4 _)
 have nD:H2 s2.heap.objs.size=none:=I2.fresh
 obtain⟨W,⟨m0,w0⟩,turn⟩:=hD _ nD fun a o e=>(I3.bs a o (I3.ok.mod.kin a o e)).2
 have fpl: ∀b∈fp,b<s2.heap.objs.size:=fun b z=>by
  obtain⟨o,q,_⟩:=T.obj _ _ st2 b z
  exact Heap.lt_size q
 generalize hs3:({s2 with heap:=s2.heap.push {cls:= .type "list",data:= .seq ([]:List Value).toArray}}:Shared)=s3 at I3
 have hpush: ∀b o,s2.heap.get? b=some o->s3.heap.get? b=some o:=fun b o q=>by rw[<-hs3];exact Heap.get?_push_of_some _ q
 have hsz3:s2.heap.objs.size<s3.heap.objs.size:=by rw[<-hs3];show _<(s2.heap.push _).objs.size;rw[Heap.size_push];exact B1 _
 have f3: ∀b∈fp,z4K X pins (upd H2 s2.heap.objs.size (.lst [])) b:=fun b z=>⟨by rw[y6 (l9 (fpl b z))];exact(f2 b z).1,(f2 b z).2⟩
 have st3:tn 0 s3.heap:=T.keep _ _ _ st2 fun b _ o q=>hpush b o q
 generalize hDd:s2.heap.objs.size=D at*
 generalize hH3:upd H2 D (.lst [])=H3 at*
 have goal:wpAny (model X.prog X.w) X.A (newFunctionEnv scope X.env.globals (K0 X.env scope.names []) [] X.env.qual none .none (some X.env)) (fun cenv s₄=>
  codeAny (model X.prog X.w) X.A (.compStart (.ListComp elt [⟨tg,iter,ifs,0⟩] scope pos) 0 (.ref it) (.ref D) {cenv with scope:=relabel scope X.env}) (compPost (model X.prog X.w) X.A X.xe none (EP X pins σ Q) (.ref D) cenv.locals) s₄) X.xe s3:=by
  refine wpAny_newFunctionEnv S.nocell (by intro y hy;simp at hy) (fun h1 hns hsb=> ?_) S.kind
  have hns:h1.Ns s3.heap.objs.size (fun _=>none):=hns
  have keep4: ∀b o,s3.heap.get? b=some o->h1.get? b=some o:=fun b o q=>hsb.extBut b o (l9 (Heap.lt_size q)) (Heap.get?_push_of_some _ q)
  have fpl3: ∀b∈fp,b<s3.heap.objs.size:=fun b z=>R0 (fpl b z) hsz3
  generalize hs4:({s3 with heap:=h1,toks:=s3.toks+([]:List (Str×Value)).length}:Shared)=s4
  have I4:Inv (W5 X scope own frees (K0 X.env scope.names []) s3.heap.objs.size s3 H3 fp (X.pn++pins)) [] (z0k own.length ix σ) H3 s4:=
   z39 S I3 f3 fpl3 (by rw[<-hs4]) (by rw[<-hs4]) (fun b o q=>by rw[<-hs4];exact keep4 b o q) (by rw[<-hs4];exact hns)
  have st4:tn 0 s4.heap:=T.keep _ _ _ st3 fun b _ o q=>by rw[<-hs4];exact keep4 b o q
  generalize hXc:W5 X scope own frees (K0 X.env scope.names []) s3.heap.objs.size s3 H3 fp (X.pn++pins)=Y at I4
  have eP:Y.prog=X.prog:=by rw[<-hXc];rfl
  have eW:Y.w=X.w:=by rw[<-hXc];rfl
  have eK:Y.K=X.K:=by rw[<-hXc];rfl
  have eA:Y.A=X.A:=by rw[<-hXc];rfl
  have eC:Y.calm=true:=by rw[<-hXc];exact hc
  have eE:Y.env=compEnvC scope (K0 X.env scope.names []) s3.heap.objs.size X.env:=by rw[<-hXc];rfl
  have eX:Y.xe=fun _ _=>False:=by rw[<-hXc];rfl
  have eF: ∀{H':Hp},(∀b∈fp,H' b=none)->∀b∈fp,z4K Y [] H' b:=fun{H'} hn b hb=>by
   rw[<-hXc]
   obtain⟨g1,g2,g3,g4,g5,g6⟩:=f3 b hb
   refine⟨hn b hb,l9 (fpl3 b hb),fun q=> ?_, .inl hb,fun x c e=> ?_,fun p hp=> ?_⟩
   ·rcases i5.mp (I3.stkSub b q) with r|r
    ·exact g2 r
    ·exact g3 r
   ·rcases z1X _ _ e with q|q
    ·exact nomatch q
    ·exact g5 x c q.1
   ·have hp:p∈(X.pn++pins)++[]:=hp
    rw[h9] at hp
    exact g6 p hp
  have gY:PG Y tg g:=by rw[<-hXc];exact hg _ _ _ _ _ _
  have tY:PE Y elt te:=by rw[<-hXc];exact he _ _ _ _ _ _
  have sY:PTs Y ifs tt:=by rw[<-hXc];exact ht _ _ _ _ _ _
  have loop:codeAny (model X.prog X.w) X.A (.compLoop (.ListComp elt [⟨tg,iter,ifs,0⟩] scope pos) 0 (.ref it) (.ref D) (compEnvC scope (K0 X.env scope.names []) s3.heap.objs.size X.env))
   (compPost (model X.prog X.w) X.A X.xe none (EP X pins σ Q) (.ref D) s3.heap.objs.size) s4:=by
   refine U7 (fun n s'=> ∃i ys σ' H',Inv Y [] σ' H' s'/\tn i s'.heap/\(∀b∈fp,H' b=none)/\W i n ys σ' H') ?_ m0 ⟨0,[],_,_,I4,st4,fun b hb=>(f3 b hb).1,w0⟩
   rintro n s5 ⟨i,ys,σ5,H5,I5,st5,fr5,w5⟩
   obtain⟨hD5,alt⟩:=turn i n ys σ5 H5 w5
   rcases alt with⟨stop,qn⟩|⟨go,step⟩
   ·have d:=T.done Y eP eW eK eC i [] s5 σ5 H5 (fun _ _=>False) I5 (eF fr5) st5 stop
    rw[eA] at d
    refine thn d fun r s6 ⟨hr,I6⟩=> ?_
    subst hr
    subst hXc
    obtain⟨m6,n6,_⟩:=I6.loc
    exact⟨m6,n6,fun h'' hs''=>⟨.ref D,H5,z5I I3 f3 (c8 _) I6 hs'',rfl,qn⟩⟩
   ·have d:=T.item Y eP eW eK eC i [] s5 σ5 H5 (fun _ _=>False) I5 (eF fr5) st5 go
    rw[eA] at d
    refine thn d fun r s6 ⟨u,hr,h6⟩=> ?_
    subst hr
    refine thn h6 fun _ s7 ⟨x,H7,I7,r7,y7,st7,fr7⟩=> ?_
    have I7':=I7.pinned (eF fr7) (T.obj _ _ st7)
    have e1:=gY _ s7 σ5 H7 x u _ I7' r7 (step x H7 y7)
    rw[eP,eW,eA,eE,eX] at e1
    refine thn e1 fun _ s8 ⟨σ8,H8,I8,q8⟩=> ?_
    have e1':=sY _ s8 σ8 H8 _ I8 q8
    rw[eP,eW,eA,eE,eX] at e1'
    refine thn e1' fun ok s8 ⟨H8,I8,q8⟩=> ?_
    cases ok with
    |false=>
     rw[if_neg l5] at q8⊢
     obtain⟨m',hm',w9⟩:=q8
     refine⟨m',hm',i+1,_,σ8,_,I8.unpinned,T.keep _ _ _ st7 fun b hb o e=> ?_,fun b hb=> ?_,w9⟩
     ·exact(I8.pin (b,o) (b6 _ (b6 _ (Q7 hb e)))).1
     ·obtain⟨o,e,d⟩:=T.obj _ _ st7 b hb
      exact(I8.pin (b,o) (b6 _ (b6 _ (Q7 hb e)))).2.1
    |true=>
    rw[if_pos rfl] at q8⊢
    have e2:=tY _ s8 σ8 H8 _ I8 q8
    rw[eP,eW,eA,eE,eX] at e2
    refine thn e2 fun yv s9 ⟨y,H9,I9,r9,hD9,hz9,m',hm',w9⟩=> ?_
    have e3:=z27 (X:=Y) _ s9 σ8 H9 (.ref D) [y] (.ref D) [yv] (fun v H'=>v= .non/\H'=upd H9 D (.lst (ys++[y]))) I9 rfl (.cons r9 .nil) ⟨D,ys,y,rfl,rfl,hD9,hz9,rfl,rfl⟩
    rw[eP,eW,eA,eX] at e3
    refine thn e3 fun _ s10 ⟨v10,H10,I10,r10,_,e10⟩=> ?_
    subst e10
    refine⟨m',hm',i+1,_,σ8,_,I10.unpinned,T.keep _ _ _ st7 fun b hb o e=> ?_,fun b hb=> ?_,w9⟩
    ·exact(I10.pin (b,o) (b6 _ (b6 _ (Q7 hb e)))).1
    ·obtain⟨o,e,d⟩:=T.obj _ _ st7 b hb
     exact(I10.pin (b,o) (b6 _ (b6 _ (Q7 hb e)))).2.1
  exact codeAny_compStart_list loop (T.self _ 0 _ _ _ st4 loop)
 exact goal
theorem z7W{y:Str}{py spos:Pos}{i:Nat}(hN:X.N.Nodup)(hy:X.N[i]? =some y)(hx:Loc X.env.scope y)(hfn:X.fn y=true\/X.env.scope.names.lookup y=some .local)(hsw:swapsWith (.ListComp elt [⟨tg,iter,ifs,0⟩] scope pos) (some (.Name y py)) spos.line X.env=pure true)(hc:X.calm=true)(S:j4 X.env.scope scope own frees X.N ix)(hi:PI X tg iter wi)
 (hg: ∀cl C s₀ H₀ fp pn,PG (W5 X scope own frees cl C s₀ H₀ fp pn) tg g) (ht: ∀cl C s₀ H₀ fp pn,PTs (W5 X scope own frees cl C s₀ H₀ fp pn) ifs tt) (he: ∀cl C s₀ H₀ fp pn,PE (W5 X scope own frees cl C s₀ H₀ fp pn) elt te)
 (hs: ∀x,foldedSetIterable iter X.env x=pure x:=by intro _;rfl):
 PS X (.Assign [.Name y py] (.ListComp elt [⟨tg,iter,ifs,0⟩] scope pos) spos) (fun Dd σ H=>z7V X.K wi g tt te own.length ix σ H fun v H'=>Dd.nx (σ.set i (some v)) H'):=by
 intro pins s σ H Dd I h
 have hclos:closureFor scope X.env=pure (K0 X.env scope.names []):=z1g fun y hy e=>I.ok.has y.1 (S.fr y hy e)
 rw[exec_Assign_Name_used _ _ _ _ hsw]
 refine wpAny_bind (wpAny_standAt (wpAny_bind ?_))
 show wpAny _ X.A (do let _<-comprehension (.ListComp elt [⟨tg,iter,ifs,0⟩] scope pos) scope X.env _ (newList []) false (eval iter X.env) (some (assign (.Name y py) X.env))) _ _ s
 refine wpAny_bind (wpAny_mono (wpAny_comprehension_free (use:=some (assign (.Name y py) X.env)) (Q:=fun _ s'=>SP X pins Dd .next s') rfl hs hclos S.kind S.names (thn (hi pins s σ H _ I h) fun v s1 h1=>thn h1 fun itv s2 h2=> ?_)) (fun _ s' hq=>wpAny_pure (wpAny_pure hq)) fun _ _ e=>e)
 obtain⟨it,fp,tn,J,H2,e,I2,T,st2,f2,hD⟩:=h2
 subst e
 refine wpAny_newObj_type ?_
 have I3:Inv X pins σ (upd H2 s2.heap.objs.size (.lst [])) {s2 with heap:=s2.heap.push {cls:= .type "list",data:= .seq ([]:List Value).toArray}}:=I2.lnew (t':=s2.toks) .nil (C4 _)
 have nD:H2 s2.heap.objs.size=none:=I2.fresh
 obtain⟨W,⟨m0,w0⟩,turn⟩:=hD _ nD fun a o e=>(I3.bs a o (I3.ok.mod.kin a o e)).2
 have fpl: ∀b∈fp,b<s2.heap.objs.size:=fun b z=>by
  obtain⟨o,q,_⟩:=T.obj _ _ st2 b z
  exact Heap.lt_size q
 generalize hs3:({s2 with heap:=s2.heap.push {cls:= .type "list",data:= .seq ([]:List Value).toArray}}:Shared)=s3 at I3
 have hpush: ∀b o,s2.heap.get? b=some o->s3.heap.get? b=some o:=fun b o q=>by rw[<-hs3];exact Heap.get?_push_of_some _ q
 have hsz3:s2.heap.objs.size<s3.heap.objs.size:=by rw[<-hs3];show _<(s2.heap.push _).objs.size;rw[Heap.size_push];exact B1 _
 have f3: ∀b∈fp,z4K X pins (upd H2 s2.heap.objs.size (.lst [])) b:=fun b z=>⟨by rw[y6 (l9 (fpl b z))];exact(f2 b z).1,(f2 b z).2⟩
 have st3:tn 0 s3.heap:=T.keep _ _ _ st2 fun b _ o q=>hpush b o q
 generalize hDd:s2.heap.objs.size=D at*
 generalize hH3:upd H2 D (.lst [])=H3 at*
 have goal:wpAny (model X.prog X.w) X.A (newFunctionEnv scope X.env.globals (K0 X.env scope.names []) [] X.env.qual none .none (some X.env)) (fun cenv s₄=>
  codeAny (model X.prog X.w) X.A (.compStart (.ListComp elt [⟨tg,iter,ifs,0⟩] scope pos) 0 (.ref it) (.ref D) {cenv with scope:=relabel scope X.env}) (compPost (model X.prog X.w) X.A X.xe (some (assign (.Name y py) X.env)) (fun _ s'=>SP X pins Dd .next s') (.ref D) cenv.locals) s₄) X.xe s3:=by
  refine wpAny_newFunctionEnv S.nocell (by intro y hy;simp at hy) (fun h1 hns hsb=> ?_) S.kind
  have hns:h1.Ns s3.heap.objs.size (fun _=>none):=hns
  have keep4: ∀b o,s3.heap.get? b=some o->h1.get? b=some o:=fun b o q=>hsb.extBut b o (l9 (Heap.lt_size q)) (Heap.get?_push_of_some _ q)
  have fpl3: ∀b∈fp,b<s3.heap.objs.size:=fun b z=>R0 (fpl b z) hsz3
  generalize hs4:({s3 with heap:=h1,toks:=s3.toks+([]:List (Str×Value)).length}:Shared)=s4
  have I4:Inv (W5 X scope own frees (K0 X.env scope.names []) s3.heap.objs.size s3 H3 fp (X.pn++pins)) [] (z0k own.length ix σ) H3 s4:=
   z39 S I3 f3 fpl3 (by rw[<-hs4]) (by rw[<-hs4]) (fun b o q=>by rw[<-hs4];exact keep4 b o q) (by rw[<-hs4];exact hns)
  have st4:tn 0 s4.heap:=T.keep _ _ _ st3 fun b _ o q=>by rw[<-hs4];exact keep4 b o q
  generalize hXc:W5 X scope own frees (K0 X.env scope.names []) s3.heap.objs.size s3 H3 fp (X.pn++pins)=Y at I4
  have eP:Y.prog=X.prog:=by rw[<-hXc];rfl
  have eW:Y.w=X.w:=by rw[<-hXc];rfl
  have eK:Y.K=X.K:=by rw[<-hXc];rfl
  have eA:Y.A=X.A:=by rw[<-hXc];rfl
  have eC:Y.calm=true:=by rw[<-hXc];exact hc
  have eE:Y.env=compEnvC scope (K0 X.env scope.names []) s3.heap.objs.size X.env:=by rw[<-hXc];rfl
  have eX:Y.xe=fun _ _=>False:=by rw[<-hXc];rfl
  have eF: ∀{H':Hp},(∀b∈fp,H' b=none)->∀b∈fp,z4K Y [] H' b:=fun{H'} hn b hb=>by
   rw[<-hXc]
   obtain⟨g1,g2,g3,g4,g5,g6⟩:=f3 b hb
   refine⟨hn b hb,l9 (fpl3 b hb),fun q=> ?_, .inl hb,fun x c e=> ?_,fun p hp=> ?_⟩
   ·rcases i5.mp (I3.stkSub b q) with r|r
    ·exact g2 r
    ·exact g3 r
   ·rcases z1X _ _ e with q|q
    ·exact nomatch q
    ·exact g5 x c q.1
   ·have hp:p∈(X.pn++pins)++[]:=hp
    rw[h9] at hp
    exact g6 p hp
  have gY:PG Y tg g:=by rw[<-hXc];exact hg _ _ _ _ _ _
  have tY:PE Y elt te:=by rw[<-hXc];exact he _ _ _ _ _ _
  have sY:PTs Y ifs tt:=by rw[<-hXc];exact ht _ _ _ _ _ _
  have loop:codeAny (model X.prog X.w) X.A (.compLoop (.ListComp elt [⟨tg,iter,ifs,0⟩] scope pos) 0 (.ref it) (.ref D) (compEnvC scope (K0 X.env scope.names []) s3.heap.objs.size X.env))
   (compPost (model X.prog X.w) X.A X.xe (some (assign (.Name y py) X.env)) (fun _ s'=>SP X pins Dd .next s') (.ref D) s3.heap.objs.size) s4:=by
   refine U7 (fun n s'=> ∃i ys σ' H',Inv Y [] σ' H' s'/\tn i s'.heap/\(∀b∈fp,H' b=none)/\W i n ys σ' H') ?_ m0 ⟨0,[],_,_,I4,st4,fun b hb=>(f3 b hb).1,w0⟩
   rintro n s5 ⟨i,ys,σ5,H5,I5,st5,fr5,w5⟩
   obtain⟨hD5,alt⟩:=turn i n ys σ5 H5 w5
   rcases alt with⟨stop,qn⟩|⟨go,step⟩
   ·have d:=T.done Y eP eW eK eC i [] s5 σ5 H5 (fun _ _=>False) I5 (eF fr5) st5 stop
    rw[eA] at d
    refine thn d fun r s6 ⟨hr,I6⟩=> ?_
    subst hr
    subst hXc
    obtain⟨m6,n6,_⟩:=I6.loc
    have n6:s6.heap.Ns s3.heap.objs.size m6:=n6
    have I7:Inv X pins σ H5 s6:=z5I (h':=s6.heap) I3 f3 (c8 _) I6 (Heap.SameBut.refl _ _)
    have fC:z4K X pins H5 s3.heap.objs.size:=I3.fpOk (c8 _) I6.free
    obtain⟨oC,eC,dC⟩: ∃o,s6.heap.get? s3.heap.objs.size=some o/\∀v,o.data≠ .cell v:=by
     obtain⟨o,es,ep,e1,e2,e3⟩:=n6
     exact⟨o,e1,fun v z=>by simp_all⟩
    have I8:=I7.pinned (fp:=[s3.heap.objs.size]) (fun b hb=>by
     have e:b=s3.heap.objs.size:=by simpa using hb
     rw[e];exact fC) (fun b hb=>by
     have e:b=s3.heap.objs.size:=by simpa using hb
     rw[e];exact⟨oC,eC,dC⟩)
    show wpAny _ _ (assign (.Name y py) X.env (.ref D)) _ _ s6
    refine wpAny_assign_Name (z3m (v:= .ref D) I8 hN hy hx rfl (fun s7 I9=> ?_) hfn)
    have e7:s7.heap.get? s3.heap.objs.size=some oC:=(I9.pin (s3.heap.objs.size,oC) (b6 _ (b6 _ (Q7 (by simp) eC)))).1
    refine⟨m6,n6.at' fun o e=>by rw[eC] at e;cases e;exact e7,fun h3 hs3=>⟨_,H5, ?_,qn⟩⟩
    exact I9.unpinned.turned (t':=s7.toks) (fun b o hb e=>(hs3.2 b hb).trans e) fC.1 fC.2.1 fC.2.2.2.1 fC.2.2.2.2.1 fC.2.2.2.2.2
   ·have d:=T.item Y eP eW eK eC i [] s5 σ5 H5 (fun _ _=>False) I5 (eF fr5) st5 go
    rw[eA] at d
    refine thn d fun r s6 ⟨u,hr,h6⟩=> ?_
    subst hr
    refine thn h6 fun _ s7 ⟨x,H7,I7,r7,y7,st7,fr7⟩=> ?_
    have I7':=I7.pinned (eF fr7) (T.obj _ _ st7)
    have e1:=gY _ s7 σ5 H7 x u _ I7' r7 (step x H7 y7)
    rw[eP,eW,eA,eE,eX] at e1
    refine thn e1 fun _ s8 ⟨σ8,H8,I8,q8⟩=> ?_
    have e1':=sY _ s8 σ8 H8 _ I8 q8
    rw[eP,eW,eA,eE,eX] at e1'
    refine thn e1' fun ok s8 ⟨H8,I8,q8⟩=> ?_
    cases ok with
    |false=>
     rw[if_neg l5] at q8⊢
     obtain⟨m',hm',w9⟩:=q8
     refine⟨m',hm',i+1,_,σ8,_,I8.unpinned,T.keep _ _ _ st7 fun b hb o e=> ?_,fun b hb=> ?_,w9⟩
     ·exact(I8.pin (b,o) (b6 _ (b6 _ (Q7 hb e)))).1
     ·obtain⟨o,e,d⟩:=T.obj _ _ st7 b hb
      exact(I8.pin (b,o) (b6 _ (b6 _ (Q7 hb e)))).2.1
    |true=>
    rw[if_pos rfl] at q8⊢
    have e2:=tY _ s8 σ8 H8 _ I8 q8
    rw[eP,eW,eA,eE,eX] at e2
    refine thn e2 fun yv s9 ⟨y,H9,I9,r9,hD9,hz9,m',hm',w9⟩=> ?_
    have e3:=z27 (X:=Y) _ s9 σ8 H9 (.ref D) [y] (.ref D) [yv] (fun v H'=>v= .non/\H'=upd H9 D (.lst (ys++[y]))) I9 rfl (.cons r9 .nil) ⟨D,ys,y,rfl,rfl,hD9,hz9,rfl,rfl⟩
    rw[eP,eW,eA,eX] at e3
    refine thn e3 fun _ s10 ⟨v10,H10,I10,r10,_,e10⟩=> ?_
    subst e10
    refine⟨m',hm',i+1,_,σ8,_,I10.unpinned,T.keep _ _ _ st7 fun b hb o e=> ?_,fun b hb=> ?_,w9⟩
    ·exact(I10.pin (b,o) (b6 _ (b6 _ (Q7 hb e)))).1
    ·obtain⟨o,e,d⟩:=T.obj _ _ st7 b hb
     exact(I10.pin (b,o) (b6 _ (b6 _ (Q7 hb e)))).2.1
  exact codeAny_compStart_list loop (T.self _ 0 _ _ _ st4 loop)
 exact goal
end
structure zdb(osc sc:Scope)(own frees N:List Str)(ix:List Nat):Prop where
 kind:sc.kind= .function
 names: ∀y∈sc.names,y.2= .local->sc.names.lookup y.1=some .local
 fr: ∀y∈sc.names,y.2= .free->osc.names.lookup y.1=some .cell\/osc.names.lookup y.1=some .free
 nd:(own++frees).Nodup
 frl: ∀x∈frees,sc.names.lookup x=some .free
 ixs:ix.map (fun i=>N[i]?)=frees.map some
 frc: ∀y∈sc.names,y.2= .cell->y.1∉frees
 owf: ∀y∈sc.names,y.2= .free->y.1∉own
theorem Inv.turnedL{X:Cx}{pins:List (Addr×Obj)}{σ:List (Option V)}{H:Hp}{s:Shared}{h':Heap}{t':Nat}{fp:List Addr}(I:Inv X pins σ H s)(k: ∀b o,b∉fp->s.heap.get? b=some o->h'.get? b=some o)(hf: ∀b∈fp,z4K X pins H b):Inv X pins σ H {s with heap:=h',toks:=t'}:=by
 have nit: ∀b u,H b=some u->b∉fp:=fun b u e z=>by rw[(hf b z).1] at e;cases e
 refine I.step (g':=s.gens) (d':=s.drawn) (ch:=fp) (fun b hb=> ?_) (fun b o _ _ hc e _=>k b o hc e) (fun b o _ _ hc e _=>⟨o.slots,k b o hc e⟩) (fun _ _ _ _ n=>n)
  (fun b o hc e=>⟨o,k b o hc e⟩) (fun _ _ e=>e) (fun _ _ _ e=>e) (fun b ps e=>⟨#[],by rw[e];simp⟩) (fun m hm=> ?_) (fun b u e=> ?_) I.bare
 ·obtain⟨f0,f1,f2,f3,f4,f5⟩:=hf b hb
  exact⟨f3,f1,f4,f5⟩
 ·obtain⟨o,es,ep,ho,r⟩:=hm
  exact⟨o,es,ep,k _ o (fun z=>(hf _ z).2.1 rfl) ho,r⟩
 ·refine(I.hok b u e).stay (fun c v hc q=>k c v ?_ q) (fun _ q=>q) fun _ _ q=>q
  rcases hc with z|z
  ·rw[z];exact nit b u e
  ·exact nit c _ z
section
variable{prog:Program}{w:World}{A:Around}{E:Value->Shared->Prop}{s:Shared}
theorem G3{it t:Addr}{i:Nat}{items}{x:Value}{Q:Value->Shared->Prop}(hit:s.heap.IsTupleIter it t i)
 (hl:s.heap.IsTuple t items) (hx:items[i]? =some x)
 (hQ: ∀h',h'.IsTupleIter it t (i+1)->Heap.SameBut it s.heap h'->Q x {s with heap:=h'}):
 wpAny (model prog w) A (Builtin.SmallTypes.nextOf (.ref it)) Q E s:=by
 obtain⟨o,ho,hc,hd⟩:=id hit
 obtain⟨ol,hol,_,nl,hdl⟩:=hl
 unfold Builtin.SmallTypes.nextOf
 refine wpAny_bind (wpAny_callSpecial?_slot (name:=Str.ofString "__next__") hit.typeIs F.slot_tuple_iterator_next
  (wpAny_call_entry F.slot_tuple_iterator_next hit.typeIs F.entry_tuple_iterator_next ?_ (F.args_tuple_iterator_next_1 _)))
 show wpAny _ _ (field (.ref it) 0>>=_) _ _ s
 refine wpAny_bind (wpAny_field ho hd (x:= .ref t) rfl ?_)
 show wpAny _ _ (if(Value.ref t==Value.none)=true then _ else _) _ _ s
 rw[if_neg (show ¬((Value.ref t==Value.none)=true) from l5)]
 show wpAny _ _ (field (.ref it) 1>>=_) _ _ s
 refine wpAny_bind (wpAny_field ho hd (x:= .int i 0) rfl ?_)
 show wpAny _ _ (seqItems? (.ref t)>>=_) _ _ s
 refine wpAny_bind (wpAny_seqItems hol hdl ?_)
 erw[B9,hx]
 refine wpAny_bind (wpAny_setField ho hd (by simp) (wpAny_pure ⟨x,rfl,wpAny_pure (hQ _ ?_ (Heap.SameBut.update ..))⟩))
 exact⟨_,Heap.get?_update_self _ ho (Obj.isFreed_of_fields (Obj.data_mapFields hd _)),(Obj.cls_mapFields ..).trans hc,by
  rw[Obj.data_mapFields hd];simp[rawInt]⟩
theorem z0l{it t:Addr}{i:Nat}{items}{Q:Value->Shared->Prop}(hh:A.handled=none)
 (hit:s.heap.IsTupleIter it t i) (hl:s.heap.IsTuple t items) (hx:items[i]? =none)
 (hE: ∀h' e,Heap.ExtBut it s.heap h'->(∃o,h'.get? e=some o/\o.cls= .type "StopIteration")->E (.ref e) {s with heap:=h'}):
 wpAny (model prog w) A (Builtin.SmallTypes.nextOf (.ref it)) Q E s:=by
 obtain⟨o,ho,hc,hd⟩:=id hit
 obtain⟨ol,hol,_,nl,hdl⟩:=hl
 unfold Builtin.SmallTypes.nextOf
 refine wpAny_bind (wpAny_callSpecial?_slot (name:=Str.ofString "__next__") hit.typeIs F.slot_tuple_iterator_next
  (wpAny_call_entry F.slot_tuple_iterator_next hit.typeIs F.entry_tuple_iterator_next ?_ (F.args_tuple_iterator_next_1 _)))
 show wpAny _ _ (field (.ref it) 0>>=_) _ _ s
 refine wpAny_bind (wpAny_field ho hd (x:= .ref t) rfl ?_)
 show wpAny _ _ (if(Value.ref t==Value.none)=true then _ else _) _ _ s
 rw[if_neg (show ¬((Value.ref t==Value.none)=true) from l5)]
 show wpAny _ _ (field (.ref it) 1>>=_) _ _ s
 refine wpAny_bind (wpAny_field ho hd (x:= .int i 0) rfl ?_)
 show wpAny _ _ (seqItems? (.ref t)>>=_) _ _ s
 refine wpAny_bind (wpAny_seqItems hol hdl ?_)
 erw[B9,hx]
 refine wpAny_bind (wpAny_rule (wpAny_bind (wpAny_setField ho hd (by simp) ?_)))
 show wpAny _ _ (newExc (.type "StopIteration") []>>=_) _ _ _
 refine wpAny_bind ?_
 erw[newExc,newTuple]
 refine wpAny_bind (wpAny_newObj_type ?_ (by size_fits))
 refine wpAny_bind (m:=firstArgMember _ _) (wpAny_of_eq (a:=Value.none) (by first|rfl|(erw[firstArgMember];rfl)) ?_)
 refine wpAny_newObj_type ?_ (by size_fits)
 erw[raiseNew]
 refine wpAny_bind (wpAny_handled ?_)
 first|rw[show A.in1.handled=none from hh]|rw[hh]
 refine wpAny_bind (wpAny_pure (wpAny_throw ?_))
 exact hE _ _ (((Heap.SameBut.update ..).extBut.push _).push _) ⟨_,Heap.get?_push_size _ rfl,rfl⟩
end
section
variable{X:Cx}{a b:Expr}{rest:List Expr}{pos:Pos}{ta tb:TE}
noncomputable def zh1(K:W.Frag)(xs:List V)(H:Hp)(Q:VK):Prop:= ∃p d,xs=[.ref p]/\Dp K H d (.ref p)/\d.hasDict=false/\d.showable=true/\d.depth<=60/\d.shown.length<=sizeLine/\Q (.str d.shown) H
theorem z6B(hg:X.A.guards=some [])(hu:X.A.units+64<cLine):CallR X (.builtin "repr") (zh1 X.K):=by
 intro pins s σ H xs us Q I r h
 obtain⟨p,d,rfl,hd,h1,h2,h3,h4,q⟩:=h
 obtain⟨u,rfl,r1⟩:=z3o r
 cases r1
 obtain⟨as,ra⟩:=hd.reads I _ _ _ rfl
 exact repr_of_reads' ra h2 (fun e=>by rw[h1] at e;cases e) hg (by lia) (fun _ _ h=>h) (fun h' u tk k=>⟨.str d.shown,H,I.kept k,⟨_,rfl⟩,q⟩) h4
end
section
variable{X:Cx}{tg:Expr}
noncomputable def Rg3(i j c:Int):Prop:=c≠0/\c.natAbs<1073741824/\Builtin.Range.small i j c=true/\0<=Builtin.Range.rangeSize i j c
instance(i j c:Int):Decidable (Rg3 i j c):=by unfold Rg3;infer_instance
end
end L2
namespace Mi
open PySem L2
structure ItK where
 k:Nat
 at':Nat->List (Option D)->Option (Option D)
 len:List (Option D)->Nat
noncomputable def zeD(i:Nat):List (Option D)->Option (Option D)
 |some c::_=>(zd6 c).map fun ds=>ds[i]?
 |_=>none
noncomputable def z9N(i:Nat):List (Option D)->Option (Option D)
 |some (.tup ds)::_=>some ds[i]?
 |_=>none
noncomputable def z7X:List (Option D)->Nat
 |some (.tup ds)::_=>ds.length
 |some (.lst _ ds)::_=>ds.length
 |some (.ro ds)::_=>ds.length
 |_=>0
noncomputable def z3a:ItK:=⟨1,zeD,z7X⟩
noncomputable def zaF:ItK:=⟨1,z9N,z7X⟩
noncomputable def z6C(lo:Int)(n:Nat):ItK:=⟨0,fun i _=>some (if i<n then some (.int (lo+i)) else none),fun _=>n⟩
noncomputable def Stt.popn(s:Stt)(k:Nat):Stt:={s with tm:=s.tm.drop k}
section
variable{X:Cx}{G:Gx}{F:Fy}{e a b c tg iter:Expr}{pos:Pos}
theorem MR.popn{F:Fx}{ρ:Nat->Addr}{H:Hp}{σv tvs tv:List (Option V)}{s:Stt}(M:MR G F ρ H σv (tvs++tv) s):MR G F ρ H σv tv (s.popn tvs.length):=by
 have sub: ∀l∈J7 (s.popn tvs.length),l∈J7 s:=fun l h=>by
  rcases c9.mp h with h|h
  ·exact b9 _ h
  ·refine b6 _ ?_
   have e:=Y8 (s.tm.take tvs.length) (s.tm.drop tvs.length)
   rw[E3] at e
   rw[e]
   exact b6 _ h
 exact⟨M.sl,(Sl.split tvs M.tm).2,M.inj,M.dom,fun l h=>M.lab l (sub l h),fun l h=>M.own l (sub l h),M.frm,M.kd,M.frb,M.bas⟩
noncomputable def zdc(G:Gx)(J:It)(K:ItK)(tvs:List (Option V)):Prop:= ∀(F:Fx) ρ H σv tvp tv s i,MR G F ρ H σv (tvp++(tvs++tv)) s->match K.at' i (s.tm.drop tvp.length) with
 |none=>True
 |some none=>J.stop i H
 |some (some d)=>J.go i H/\∀x H',J.yld i H x H'->MRL G F ρ H' σv (tvp++(tvs++tv)) s [d] [x]
noncomputable def tI(G:Gx)(F:Fy)(m:M ItK):TI:=fun σv H R=> ∃tv,F.tv0<:+tv/\∃ρ s,MR G F.toFx ρ H σv tv s/\match m s with
 | .ok K s'=> ∀ρ' H' tvs J,tvs.length=K.k->MR G F.toFx ρ' H' σv (tvs++tv) s'->zdc G J K tvs->R J H'
 | .ex d s'=>F.xw d s'
 | .no=>False
noncomputable def SI(X:Cx)(G:Gx)(F:Fy)(tg iter:Expr)(m:M ItK):Prop:=PI X tg iter (tI G F m)
theorem PI.imp0{w w':TI}(h:PI X tg iter w)(hi: ∀σ H R,w' σ H R->w σ H R):PI X tg iter w':=fun pins s σ H R I q=>h pins s σ H R I (hi σ H R q)
noncomputable def ziN(K:W.Frag)(tl:TE):TI:=fun σ H R=>tl σ H fun x H1=> ∃a,x= .ref a/\(((∃xs,SqL K H1 a xs)/\R (Itl K a) H1)\/((∃xs,SqT K H1 a xs)/\R (Itt K a) H1))
theorem zeE{l:Expr}{tl:TE}(hl:PE X l tl):PI X tg l (ziN X.K tl):=by
 intro pins s σ H R I h
 refine thn (hl pins s σ H _ I h) fun v s1 ⟨x,H1,I1,r1,q1⟩=> ?_
 obtain⟨a,e,q|q⟩:=q1
 ·subst e
  cases r1
  obtain⟨⟨xs,hq⟩,q⟩:=q
  obtain⟨its,rv,p,hz⟩:=I1.list hq
  refine wpAny_pyIter_list p.isList ?_
  refine⟨s1.heap.objs.size,[s1.heap.objs.size],_,_,H1,rfl,I1.kept (t':=s1.toks) fun b o e=>Heap.get?_push_of_some _ e,z78 a _,⟨_,Heap.get?_push_size _ rfl,rfl,rfl⟩,fun b hb=> ?_,q⟩
  have e:b=s1.heap.objs.size:=by simpa using hb
  subst e
  exact I1.fpOk (c8 _) (I1.hok.fresh (c8 _))
 ·subst e
  cases r1
  obtain⟨⟨xs,hq⟩,q⟩:=q
  obtain⟨its,rv,p,hz⟩:=I1.tuple hq
  refine wpAny_pyIter_tuple (show s1.heap.IsTuple a its.toArray from p) ?_
  refine⟨s1.heap.objs.size,[s1.heap.objs.size],_,_,H1,rfl,I1.kept (t':=s1.toks) fun b o e=>Heap.get?_push_of_some _ e,z6f a _,⟨_,Heap.get?_push_size _ rfl,rfl,rfl⟩,fun b hb=> ?_,q⟩
  have e:b=s1.heap.objs.size:=by simpa using hb
  subst e
  exact I1.fpOk (c8 _) (I1.hok.fresh (c8 _))
noncomputable def J2(m:M D):M ItK:=bd m fun d s=>match d with
 | .tup _=> .ok zaF (s.psh d)
 | .lst _ _=> .ok z3a (s.psh d)
 | .ro _=> .ok z3a (s.psh d)
 |_=> .no
theorem SqT.two{K:W.Frag}{H:Hp}{a:Addr}{xs ys:List V}(k:KD K H)(h:SqT K H a xs)(h':SqT K H a ys):xs=ys:=by
 rcases h with(h|⟨o,h⟩)|⟨o,its,n,h,_,hd,_,r⟩<;>rcases h' with(h'|⟨o',h'⟩)|⟨o',its',n',h',_,hd',_,r'⟩
 ·rw[h] at h';cases h';rfl
 ·rw[h] at h';cases h'
 ·rw[k _ _ h'] at h;cases h
 ·rw[h] at h';cases h'
 ·rw[h] at h';cases h';rfl
 ·rw[k _ _ h'] at h;cases h
 ·rw[k _ _ h] at h';cases h'
 ·rw[k _ _ h] at h';cases h'
 ·rw[h] at h';cases h';rw[hd] at hd';cases hd';exact r.inj r'
theorem SqL.two{K:W.Frag}{H:Hp}{a:Addr}{xs ys:List V}(k:KD K H)(h:SqL K H a xs)(h':SqL K H a ys):xs=ys:=by
 rcases h with(h|⟨o,h⟩)|⟨o,its,n,h,_,_,hd,_,r⟩<;>rcases h' with(h'|⟨o',h'⟩)|⟨o',its',n',h',_,_,hd',_,r'⟩
 ·rw[h] at h';cases h';rfl
 ·rw[h] at h';cases h'
 ·rw[k _ _ h'] at h;cases h
 ·rw[h] at h';cases h'
 ·rw[h] at h';cases h';rfl
 ·rw[k _ _ h'] at h;cases h
 ·rw[k _ _ h] at h';cases h'
 ·rw[k _ _ h] at h';cases h'
 ·rw[h] at h';cases h';rw[hd] at hd';cases hd';exact r.inj r'
theorem MR.head{F:Fx}{ρ:Nat->Addr}{H:Hp}{σv tv:List (Option V)}{s:Stt}{v:V}{c:D}{r:List (Option D)}(M:MR G F ρ H σv (some v::tv) s)(e:s.tm=some c::r):RD G ρ H c v/\LB F ρ s.n (y3 c):=by
 obtain⟨σ,tm,n⟩:=s
 have e:tm=some c::r:=e
 subst e
 exact⟨MR.top (s:=⟨σ,r,n⟩) M,MR.topl (s:=⟨σ,r,n⟩) M⟩
theorem z5M{a:Addr}:zdc G (Itl G.K a) z3a [some (.ref a)]:=by
 intro F ρ H σv tvp tv s i M
 dsimp only[z3a]
 cases e:s.tm.drop tvp.length with
 |nil=>trivial
 |cons o r=>
  cases o with
  |none=>trivial
  |some c=>
   erw[zeD]
   obtain⟨h,lb⟩:=MR.head (s:=s.popn tvp.length) M.popn e
   cases e1:zd6 c with
   |none=>trivial
   |some ds=>
    erw[r6]
    obtain⟨a',xs,ea,sq,rr,sub⟩:=h.lstq e1
    cases ea
    cases e2:ds[i]? with
    |none=>
     refine⟨xs,sq, ?_⟩
     rw[<-rr.length]
     exact List.getElem?_eq_none_iff.mp e2
    |some d=>
     obtain⟨x,ex,rx⟩:=rr.get i d e2
     refine⟨⟨xs,x,sq,ex⟩, ?_⟩
     rintro x' H' ⟨rfl,hx⟩
     rw[hx xs sq] at ex
     cases ex
     exact⟨M,RDs.one rx,fun l hl=>lb l (sub l (labsL_mem (List.mem_of_getElem? e2) l (by simpa only[labsL,h9] using hl)))⟩
theorem z9O{a:Addr}:zdc G (Itt G.K a) zaF [some (.ref a)]:=by
 intro F ρ H σv tvp tv s i M
 dsimp only[zaF]
 cases e:s.tm.drop tvp.length with
 |nil=>trivial
 |cons o r=>
  cases o with
  |none=>trivial
  |some c=>
   obtain⟨h,lb⟩:=MR.head (s:=s.popn tvp.length) M.popn e
   cases c with
   |tup ds=>
    erw[z9N]
    obtain⟨a',xs,ea,sq,rr⟩:=h.tupq
    cases ea
    cases e2:ds[i]? with
    |none=>
     refine⟨xs,sq, ?_⟩
     rw[<-rr.length]
     exact List.getElem?_eq_none_iff.mp e2
    |some d=>
     obtain⟨x,ex,rx⟩:=rr.get i d e2
     refine⟨⟨xs,x,sq,ex⟩, ?_⟩
     rintro x' H' ⟨rfl,hx⟩
     rw[hx xs sq] at ex
     cases ex
     exact⟨M,RDs.one rx,fun l hl=>lb l (by erw[y3];exact labsL_mem (List.mem_of_getElem? e2) l (by simpa only[labsL,h9] using hl))⟩
   |_=>trivial
theorem si_seq{m:M D}(hk:X.K=G.K)(h:SE X G F e m):SI X G F tg e (J2 m):=by
 refine PI.imp0 (zeE h) fun σ H R ⟨tv,hs,ρ,s,M,W⟩=>⟨tv,hs,ρ,s,M, ?_⟩
 unfold J2 bd at W
 cases e:m s with
 |ex d s1=>rw[e] at W;exact W
 |no=>rw[e] at W;exact W
 |ok t s1=>
  rw[e] at W
  intro ρ1 v H1 M1
  rw[hk]
  cases t with
  |tup ds=>
   obtain⟨a,xs,rfl,sq,r⟩:=M1.rd1.tupq
   exact⟨a,rfl, .inr ⟨⟨xs,sq⟩,W ρ1 H1 [some (.ref a)] _ rfl M1.push z9O⟩⟩
  |lst n ds=>
   obtain⟨a,xs,rfl,sq,r,_⟩:=M1.rd1.lstq (ds:=ds) rfl
   exact⟨a,rfl, .inl ⟨⟨xs,sq⟩,W ρ1 H1 [some (.ref a)] _ rfl M1.push z5M⟩⟩
  |ro ds=>
   obtain⟨a,xs,rfl,sq,r,_⟩:=M1.rd1.lstq (ds:=ds) rfl
   exact⟨a,rfl, .inl ⟨⟨xs,sq⟩,W ρ1 H1 [some (.ref a)] _ rfl M1.push z5M⟩⟩
  |_=>exact False.elim W
noncomputable def zeF(ts:List D):M ItK:=match ts with
 |[.int j]=>if -(2^62)<=j/\j<2^62 then rt (z6C 0 j.toNat) else fl
 |_=>fl
noncomputable def V4(ms:List (M D)):M ItK:=bd (Z6 ms) zeF
theorem z9P{lo:Int}{n:Nat}:zdc G (Itr lo n) (z6C lo n) []:=by
 intro F ρ H σv tvp tv s i M
 erw[z6C]
 by_cases h:i<n
 ·rw[if_pos h]
  refine⟨h, ?_⟩
  rintro x H' ⟨rfl,rfl⟩
  exact⟨M,RDs.one (by erw[RD]),fun l hl=>by simp[labsL,y3] at hl⟩
 ·rw[if_neg h]
  exact M8.mp h
theorem si_rng1{p:Pos}{ms:List (M D)}(hg:Gl X "range")(hm:X.mg "range" =none)(ha:SA X G F [a] (Z6 ms))(hs:starEach [a] X.env=[(false,eval a X.env)]:=by rfl):SI X G F tg (.Call (.Name "range" p) [a] [] pos) (V4 ms):=by
 refine PI.imp0 (z79 hg hm ha hs) fun σ H R ⟨tv,hs,ρ,s,M,W⟩=>⟨tv,hs,ρ,s,M, ?_⟩
 unfold V4 bd at W
 cases e:Z6 ms s with
 |ex d s1=>rw[e] at W;exact W
 |no=>rw[e] at W;exact W
 |ok ts s1=>
  rw[e] at W
  intro ρ1 vs H1 M1
  unfold zeF at W
  dsimp only at W
  split at W
  ·rename_i ts' j K s' hh
   split at hh
   ·split at hh
    ·rename_i j' hc
     cases hh
     obtain⟨v,rfl,h,_⟩:=M1.one
     erw[RD] at h
     subst h
     exact⟨j',rfl,hc.1,hc.2,W ρ1 H1 [] _ rfl M1.m z9P⟩
    ·cases hh
   ·cases hh
  ·rename_i hh
   split at hh
   ·split at hh<;>cases hh
   ·cases hh
  ·exact False.elim W
noncomputable def forGo(K:ItK)(g:Tg)(b:MS):Nat->Nat->MS
 |f,i=>fun s=>match K.at' i s.tm with
  |none=> .no
  |some none=> .nx (s.popn K.k)
  |some (some d)=>match f with
   |0=> .no
   |f+1=>match asg g d s.σ with
    |none=> .no
    |some σ'=>match b {s with σ:=σ'} with
     | .nx s'=>forGo K g b f (i+1) s'
     | .ct s'=>forGo K g b f (i+1) s'
     | .bk s'=> .nx (s'.popn K.k)
     | .rt t s'=> .rt t (s'.popn K.k)
     | .ex d s'=> .ex d s'
     | .no=> .no
noncomputable def z3b(mi:M ItK)(g:Tg)(b:MS):MS:=z0W mi fun K s=>forGo K g b (K.len s.tm) 0 s
theorem MRL.popn{ρ:Nat->Addr}{H:Hp}{σv tvs tv:List (Option V)}{s:Stt}{ts:List D}{vs:List V}(M:MRL G F.toFx ρ H σv (tvs++tv) s ts vs):MRL G F.toFx ρ H σv tv (s.popn tvs.length) ts vs:=⟨M.m.popn,M.rd,M.lb⟩
theorem ziO{tvs tv:List (Option V)}(h:F.tv0<:+tv):F.tv0<:+tvs++tv:=h.trans (List.suffix_append _ _)
theorem z7Y{m:M ItK}{f:ItK->MS}{tv:List (Option V)}{D:z5v}{σ:St}{H:Hp}{R:It->Hp->Prop}(h:tSv G F (z0W m f) tv D σ H)
 (k: ∀K ρ' H' tvs J s',tvs.length=K.k->MR G F.toFx ρ' H' σ (tvs++tv) s'->zdc G J K tvs->wS G F tv (f K s') D->R J H'):tI G F m σ H R:=by
 obtain⟨hs,ρ,s,M,W⟩:=h
 refine⟨tv,hs,ρ,s,M, ?_⟩
 unfold z0W at W
 cases e:m s with
 |ok K s1=>rw[e] at W;exact fun ρ' H' tvs J hl M' hok=>k K ρ' H' tvs J s1 hl M' hok W
 |ex d s1=>rw[e] at W;exact W
 |no=>rw[e] at W;exact W
theorem ss_for{body:List Stmt}{mi:M ItK}{g:Tg}{mb:MS}(hp:PassesOwn (model X.prog X.w) X.A X.env X.xe)(hc:X.calm=true)(hi:SI X G F tg iter mi)(hg:SG X G F tg g)(hb:SSs X G F body mb)(hst: ∀x,foldedSetIterable iter X.env x=pure x:=by intro _;rfl):SS X G F (.For tg iter body [] pos) (z3b mi g mb):=by
 refine PS.imp0 (zdB hp hc hi hg hb hst) fun D σ H ⟨tv,h⟩=>z7Y h fun K ρ' H' tvs J s' hl M' hok W=> ?_
 have hs:=h.1
 refine⟨fun i m σ H=> ∃ρ s,MR G F.toFx ρ H σ (tvs++tv) s/\wS G F tv (forGo K g mb m i s) D,⟨_,ρ',s',M',W⟩, ?_⟩
 rintro i m σ H ⟨ρ,s,M,W⟩
 have ok:=hok F.toFx ρ H σ [] tv s i M
 erw[t9,F7,m5] at ok
 unfold forGo at W
 cases e:K.at' i s.tm with
 |none=>erw[e] at W;exact False.elim W
 |some o=>
  cases o with
  |none=>
   erw[e] at W ok
   refine .inl ⟨ok,W ρ σ H ?_⟩
   rw[<-hl]
   exact M.popn
  |some d=>
   erw[e] at W ok
   cases m with
   |zero=>exact False.elim W
   |succ f=>
    dsimp only at W
    cases e2:asg g d s.σ with
    |none=>erw[e2] at W;exact False.elim W
    |some σ'=>
     erw[e2] at W
     refine .inr ⟨ok.1,fun σ H=> ∃ρ s,MR G F.toFx ρ H σ (tvs++tv) s/\wS G F tv (forGo K g mb f (i+1) s) D,fun σ' H' q=>⟨f,B1 _,q⟩,fun x H2 y=> ?_⟩
     refine⟨tvs++tv,ρ,s,d,ok.2 x H2 y,σ',e2,fun σv' M2=>⟨tvs++tv,ziO hs,ρ,_,M2, ?_⟩⟩
     cases e3:mb {s with σ:=σ'} with
     |nx s2=>erw[e3] at W;exact fun ρ3 σ3 H3 M3=>⟨ρ3,s2,M3,W⟩
     |ct s2=>erw[e3] at W;exact fun ρ3 σ3 H3 M3=>⟨ρ3,s2,M3,W⟩
     |bk s2=>erw[e3] at W;exact fun ρ3 σ3 H3 M3=>W ρ3 σ3 H3 (by rw[<-hl];exact M3.popn)
     |rt t s2=>erw[e3] at W;exact fun ρ3 σ3 v H3 M3=>W ρ3 σ3 v H3 (by rw[<-hl];exact M3.popn)
     |ex d s2=>erw[e3] at W;exact W
     |no=>erw[e3] at W;exact W
end
noncomputable def Y2:List (Option D)->Option (List D)
 |[]=>some []
 |some d::r=>(Y2 r).map (d:: ·)
 |none::_=>none
noncomputable def J6(K:ItK)(g:Tg)(mt:M Bool)(me:M D)(ol:Nat):Nat->Nat->Nat->M D
 |f,i,k=>fun s=>match K.at' i (s.tm.drop (k+ol)) with
  |none=> .no
  |some none=>match Y2 (s.tm.take k).reverse with
   |some ds=> .ok (.lst s.n ds) {σ:=(s.tm.drop k).take ol,tm:=s.tm.drop (k+ol+K.k),n:=s.n+1}
   |none=> .no
  |some (some d)=>match f with
   |0=> .no
   |f+1=>match asg g d s.σ with
    |none=> .no
    |some σ'=>match mt {s with σ:=σ'} with
     | .ok false s1=>J6 K g mt me ol f (i+1) k s1
     | .ok true s1=>if k<sizeLine then match me s1 with
      | .ok y s2=>J6 K g mt me ol f (i+1) (k+1) (s2.psh y)
      |_=> .no
      else .no
     |_=> .no
noncomputable def z5N(own:Nat)(ix:List Nat)(s:Stt):Stt:={σ:=i7 own none++ix.map (fun i=>(s.σ[i]?).getD none),tm:=s.σ++s.tm,n:=s.n}
noncomputable def j3(mi:M ItK)(g:Tg)(mt:M Bool)(me:M D)(own:Nat)(ix:List Nat):M D:=bd mi fun K s=>J6 K g mt me s.σ.length (K.len s.tm) 0 0 (z5N own ix s)
section
variable{X:Cx}{G:Gx}{F:Fy}{e a b c tg iter elt:Expr}{pos:Pos}
noncomputable def Fy.prot(F:Fy)(D:Addr)(ys:List V)(h:F.H0 D=none):Fy where
 A0:=F.A0
 H0:=upd F.H0 D (.lst ys)
 Z:=fun a=>a=D\/F.Z a
 zA:=fun a z=>by
  rcases z with rfl|z
  ·exact⟨⟨_,y9⟩,fun q=>by obtain⟨o,e⟩:=F.aH _ q;rw[h] at e;cases e⟩
  ·obtain⟨⟨o,e⟩,n⟩:=F.zA a z
   exact⟨⟨o,by rw[y6 (J0 e h)];exact e⟩,n⟩
 aH:=fun a q=>by
  obtain⟨o,e⟩:=F.aH a q
  exact⟨o,by rw[y6 (J0 e h)];exact e⟩
 n0:=F.n0
 ρ0:=F.ρ0
 tv0:=[]
 xw:=fun _ _=>False
theorem Sl.none_map{ρ:Nat->Addr}{H:Hp}: ∀k:Nat,Sl G ρ H (i7 k none) (i7 k none)
 |0=>by simp[Sl]
 |k+1=>by erw[A8,Sl];exact⟨_,_,rfl,Sl.none_map k⟩
theorem Sl.pick{ρ:Nat->Addr}{H:Hp}{σ:List (Option D)}{σv:List (Option V)}(h:Sl G ρ H σ σv): ∀ix:List Nat,Sl G ρ H (ix.map fun i=>(σ[i]?).getD none) (ix.map fun i=>(σv[i]?).getD none)
 |[]=>by simp[Sl]
 |i::ix=>by
  erw[b7]
  cases e:σ[i]? with
  |none=>erw[E6,Sl];exact⟨_,_,rfl,Sl.pick h ix⟩
  |some o=>
   cases o with
   |none=>erw[r8,Sl];exact⟨_,_,rfl,Sl.pick h ix⟩
   |some d=>
    obtain⟨v,e1,r⟩:=h.get i d e
    erw[r8,Sl,e1]
    exact⟨_,_,rfl,r,Sl.pick h ix⟩
theorem z1i{σ:List (Option D)}{l:Nat}: ∀{ix:List Nat},l∈Z9 (ix.map fun i=>(σ[i]?).getD none)->l∈Z9 σ
 |[],h=>by simp[Z9] at h
 |i::ix,h=>by
  erw[b7] at h
  cases e:σ[i]? with
  |none=>rw[e] at h;erw[E6,Z9] at h;exact z1i h
  |some o=>
   rw[e] at h
   cases o with
   |none=>erw[r8,Z9] at h;exact z1i h
   |some d=>
    erw[r8,Z9] at h
    rcases c9.mp h with h|h
    ·exact z1h e l h
    ·exact z1i h
theorem z2l{l:Nat}: ∀k:Nat,¬l∈Z9 (i7 k (none:Option D))
 |0,h=>by simp[Z9] at h
 |k+1,h=>by erw[A8,Z9] at h;exact z2l k h
theorem MR.enter{ρ:Nat->Addr}{H:Hp}{σv tv:List (Option V)}{s:Stt}{D:Addr}(M:MR G F.toFx ρ H σv tv s)(hD:H D=none)(k:KD G.K (upd H D (.lst [])))(own:Nat)(ix:List Nat):
 MR G (F.prot D [] (M.fresh0 hD)).toFx ρ (upd H D (.lst [])) (z0k own ix σv) (σv++tv) (z5N own ix s):=by
 have sm:=k9.new (.lst []) hD
 have M1:=M.same sm k
 have nD: ∀l,l<s.n->ρ l≠D:=fun l hl e=>by
  obtain⟨o,q⟩:=M.dom l hl
  rw[e,hD] at q;cases q
 have sub: ∀l∈J7 (z5N own ix s),l∈J7 s:=fun l h=>by
  rcases c9.mp h with h|h
  ·have h:l∈Z9 (i7 own none++ix.map (fun i=>(s.σ[i]?).getD none)):=h
   rw[Y8] at h
   rcases c9.mp h with h|h
   ·exact absurd h (z2l own)
   ·exact b9 _ (z1i h)
  ·have h:l∈Z9 (s.σ++s.tm):=h
   rw[Y8] at h
   exact h
 refine⟨?_,M1.sl.append M1.tm,M1.inj,M1.dom,fun l h=>M.lab l (sub l h),fun l h=> ?_,fun a o e=> ?_,k,fun l hl z=> ?_,M.bas⟩
 ·exact(Sl.none_map own).append (M1.sl.pick ix)
 ·rcases M.own l (sub l h) with q|q
  ·exact .inl q
  ·refine .inr ?_
   show upd F.H0 D (.lst []) (ρ l)=none
   rw[y6 (nD l (M.lab l (sub l h)))];exact q
 ·have e:upd F.H0 D (.lst []) a=some o:=e
  by_cases ha:a=D
  ·subst ha
   rw[y9] at e;cases e
   exact⟨⟨_,y9⟩,fun _=>y9⟩
  ·rw[y6 ha] at e
   exact M1.frm a o e
 ·rcases z with z|z
  ·exact nD l hl z
  ·exact M.frb l hl z
theorem MR.turnD{ρ:Nat->Addr}{H:Hp}{σv tv:List (Option V)}{s:Stt}{D:Addr}{ys ys':List V}{hf:F.H0 D=none}(M:MR G (F.prot D ys hf).toFx ρ H σv tv s):
 H D=some (.lst ys)/\MR G (F.prot D ys' hf).toFx ρ (upd H D (.lst ys')) σv tv s:=by
 have hD:H D=some (.lst ys):=(M.frm D (.lst ys) y9).2 ((F.prot D ys hf).zA D (.inl rfl)).2
 have nD: ∀l,l<s.n->ρ l≠D:=fun l hl e=>M.frb l hl (.inl e)
 have st:G2 H (upd H D (.lst ys')):=⟨fun b xs e=>by rw[y6 (z0L e hD (by intro z;cases z))];exact e,fun b o u e=>by rw[y6 (z0L e hD (by intro z;cases z))];exact e⟩
 refine⟨hD,⟨Sl.stay st M.sl fun l hl=>⟨rfl,fun o e=> ?_⟩,Sl.stay st M.tm fun l hl=>⟨rfl,fun o e=> ?_⟩,M.inj,fun l hl=> ?_,M.lab,fun l h=> ?_,fun a o e=> ?_,fun a o e=> ?_,fun l hl=>M.frb l hl,M.bas⟩⟩
 ·rw[y6 (nD l (M.lab l (b9 _ hl)))];exact e
 ·rw[y6 (nD l (M.lab l (b6 _ hl)))];exact e
 ·rw[y6 (nD l hl)];exact M.dom l hl
 ·rcases M.own l h with q|q
  ·exact .inl q
  ·refine .inr ?_
   have q:upd F.H0 D (.lst ys) (ρ l)=none:=q
   show upd F.H0 D (.lst ys') (ρ l)=none
   rw[y6 (nD l (M.lab l h))] at q⊢;exact q
 ·have e:upd F.H0 D (.lst ys') a=some o:=e
  by_cases ha:a=D
  ·subst ha
   rw[y9] at e;cases e
   exact⟨⟨_,y9⟩,fun _=>y9⟩
  ·rw[y6 ha] at e⊢
   exact M.frm a o (by show upd F.H0 D (.lst ys) a=some o;rw[y6 ha];exact e)
 ·by_cases ha:a=D
  ·subst ha
   rw[M.kd a o e] at hD;cases hD
  ·rw[y6 ha];exact M.kd a o e
theorem Sl.all{ρ:Nat->Addr}{H:Hp}: ∀{tm:List (Option D)} {ys:List V} {ds:List D},Sl G ρ H tm (ys.map some)->Y2 tm=some ds->RDs G ρ H ds ys/\labsL ds=Z9 tm
 |[],ys,ds,h,e=>by
  erw[Sl] at h
  erw[Y2,Option.some.injEq] at e
  subst e
  have:ys=[]:=by simpa using h
  subst this
  simp[RDs,labsL,Z9]
 |none::r,ys,ds,h,e=>by erw[Y2] at e;cases e
 |some d::r,ys,ds,h,e=>by
  erw[Sl] at h
  obtain⟨v,q,e1,h1,h2⟩:=h
  cases ys with
  |nil=>cases e1
  |cons y ys=>
   erw[b7,List.cons.injEq,Option.some.injEq] at e1
   obtain⟨rfl,rfl⟩:=e1
   erw[Y2] at e
   cases e2:Y2 r with
   |none=>rw[e2] at e;cases e
   |some es=>
    rw[e2] at e
    cases e
    obtain⟨r1,r2⟩:=Sl.all h2 e2
    refine⟨?_,by erw[labsL,Z9,r2]⟩
    erw[RDs]
    exact⟨_,_,rfl,h1,r1⟩
theorem Sl.reverse{ρ:Nat->Addr}{H:Hp}: ∀{tm:List (Option D)} {ys:List (Option V)},Sl G ρ H tm ys->Sl G ρ H tm.reverse ys.reverse
 |[],ys,h=>by erw[Sl] at h;subst h;simp[Sl]
 |none::r,ys,h=>by
  erw[Sl] at h
  obtain⟨o,q,rfl,h⟩:=h
  rw[A2,A2]
  exact(Sl.reverse h).append (by erw[Sl];exact⟨_,_,rfl,rfl⟩)
 |some d::r,ys,h=>by
  erw[Sl] at h
  obtain⟨o,q,rfl,h1,h⟩:=h
  rw[A2,A2]
  exact(Sl.reverse h).append (by erw[Sl];exact⟨_,_,rfl,h1,rfl⟩)
theorem z2m{l:Nat}: ∀{tm:List (Option D)},l∈Z9 tm.reverse↔l∈Z9 tm
 |[]=>by simp
 |none::r=>by
  rw[A2,Y8]
  erw[Z9,h9]
  exact z2m
 |some d::r=>by
  rw[A2,Y8]
  erw[Z9,h9,c9]
  rw[z2m]
  exact Or.comm
theorem MR.leave{ρ:Nat->Addr}{H:Hp}{σi σv tvs tv:List (Option V)}{s:Stt}{A1:Addr}{ys:List V}{hf:F.H0 A1=none}{ds:List D}{kk:Nat}
 (M:MR G (F.prot A1 ys hf).toFx ρ H σi ((ys.reverse.map some)++(σv++(tvs++tv))) s) (hk:tvs.length=kk) (ol:Nat) (ho:σv.length=ol) (e:Y2 (s.tm.take ys.length).reverse=some ds):
 MRL G F.toFx (ext ρ s.n A1) H σv tv {σ:=(s.tm.drop ys.length).take ol,tm:=s.tm.drop (ys.length+ol+kk),n:=s.n+1} [.lst s.n ds] [.ref A1]:=by
 subst hk ho
 have hD:=(MR.turnD (ys':=ys) M).1
 have nD: ∀l,l<s.n->ρ l≠A1:=fun l hl e=>M.frb l hl (.inl e)
 have t0:=Sl.split (ys.reverse.map some) M.tm
 erw[n9,P1] at t0
 obtain⟨t1,t2⟩:=t0
 obtain⟨t3,t4⟩:=Sl.split σv t2
 obtain⟨_,t6⟩:=Sl.split tvs t4
 rw[D2] at t4
 rw[D2,D2] at t6
 have t6':Sl G ρ H (s.tm.drop (ys.length+σv.length+tvs.length)) tv:=by rw[L1];exact t6
 have t1':=t1.reverse
 rw[<-List.map_reverse,List.reverse_reverse] at t1'
 obtain⟨r1,r2⟩:=Sl.all t1' e
 have lt: ∀l,l∈Z9 (s.tm.take ys.length)->l∈J7 s:=fun l h=>b6 _ (by
  have e:=Y8 (s.tm.take ys.length) (s.tm.drop ys.length)
  rw[E3] at e
  rw[e];exact b9 _ h)
 have ld: ∀l k,l∈Z9 (s.tm.drop k)->l∈J7 s:=fun l k h=>b6 _ (by
  have e:=Y8 (s.tm.take k) (s.tm.drop k)
  rw[E3] at e
  rw[e];exact b6 _ h)
 have ldt: ∀l k j,l∈Z9 ((s.tm.drop k).take j)->l∈J7 s:=fun l k j h=>ld l k (by
  have e:=Y8 ((s.tm.drop k).take j) ((s.tm.drop k).drop j)
  rw[E3] at e
  rw[e];exact b9 _ h)
 have own: ∀l∈J7 s,F.A0 (ρ l)\/F.H0 (ρ l)=none:=fun l h=>by
  rcases M.own l h with q|q
  ·exact .inl q
  ·refine .inr ?_
   have q:upd F.H0 A1 (.lst ys) (ρ l)=none:=q
   rw[y6 (nD l (M.lab l h))] at q;exact q
 have st:=G2.refl H
 have stay: ∀l,l<s.n->ext ρ s.n A1 l=ρ l/\∀o,H (ρ l)=some o->H (ρ l)=some o:=fun l hl=>⟨W3 hl,fun o e=>e⟩
 have all: ∀l∈J7 {σ:=(s.tm.drop ys.length).take σv.length,tm:=s.tm.drop (ys.length+σv.length+tvs.length),n:=s.n+1},l∈J7 s:=fun l h=>by
  rcases c9.mp h with h|h
  ·exact ldt l _ _ h
  ·exact ld l _ h
 have dsl: ∀l∈labsL ds,l∈J7 s:=fun l h=>lt l (by rw[r2] at h;exact z2m.mp h)
 refine⟨⟨Sl.stay st t3 fun l hl=>stay l (M.lab l (ldt l _ _ hl)),Sl.stay st t6' fun l hl=>stay l (M.lab l (ld l _ hl)),fun i j hi hj eq=> ?_,fun l hl=> ?_,fun l h=>C6 (M.lab l (all l h)),fun l h=> ?_,fun a o e=> ?_,M.kd,fun l hl z=> ?_,⟨R1 M.bas.1,fun l hl=>by rw[W3 (l8 hl M.bas.1)];exact M.bas.2 l hl⟩⟩, ?_,fun l h=> ?_⟩
 ·have hi:i<s.n+1:=hi
  have hj:j<s.n+1:=hj
  by_cases h1:i=s.n
  ·by_cases h2:j=s.n
   ·lia
   ·rw[h1,j5,W3 (by lia)] at eq
    exact absurd eq.symm (nD j (by lia))
  ·by_cases h2:j=s.n
   ·rw[h2,j5,W3 (by lia)] at eq
    exact absurd eq (nD i (by lia))
   ·rw[W3 (by lia),W3 (by lia)] at eq
    exact M.inj i j (by lia) (by lia) eq
 ·have hl:l<s.n+1:=hl
  by_cases h1:l=s.n
  ·subst h1;rw[j5];exact⟨_,hD⟩
  ·rw[W3 (by lia)];exact M.dom l (by lia)
 ·rw[W3 (M.lab l (all l h))];exact own l (all l h)
 ·exact M.frm a o (by show upd F.H0 A1 (.lst ys) a=some o;rw[y6 (J0 e hf)];exact e)
 ·have hl:l<s.n+1:=hl
  by_cases h1:l=s.n
  ·subst h1;rw[j5] at z
   obtain⟨⟨o,e⟩,_⟩:=F.zA A1 z
   rw[hf] at e;cases e
  ·rw[W3 (by lia)] at z
   exact M.frb l (by lia) (.inr z)
 ·refine RDs.one ?_
  erw[RD]
  rw[j5]
  exact⟨rfl,ys,hD,RDs.stay st ds ys r1 fun l hl=>stay l (M.lab l (dsl l hl))⟩
 ·erw[labsL,y3,h9] at h
  rcases i5.mp h with q|q
  ·rw[q,j5];exact⟨B1 _, .inr hf⟩
  ·have q2:=dsl l q
   exact⟨C6 (M.lab l q2),by rw[W3 (M.lab l q2)];exact own l q2⟩
noncomputable def tMx(G:Gx)(m:M D):TE:=fun σ H Q=> ∃F:Fy,tM G F m σ H Q
noncomputable def tBx(G:Gx)(m:M Bool):TT:=fun σ H Q=> ∃F:Fy,tMB G F m σ H Q
noncomputable def tGx(G:Gx)(g:Tg):TG:=fun v σ H Q=> ∃F:Fy,tGn G F g v σ H Q
noncomputable def STs(X:Cx)(G:Gx)(F:Fy)(ifs:List Expr)(m:M Bool):Prop:=PTs X ifs (tMB G F m)
theorem sts_nil:STs X G F [] (rt true):=fun pins s σ H Q I ⟨tv,hs,ρ,ms,M,W⟩=>z4Z pins s σ H Q I (W ρ H M)
theorem sts_one{m:M Bool}(h:SB X G F c m):STs X G F [c] m:=zc2 h
theorem z5O{K:W.Frag}{k:Nat}{ix:List Nat}{mi:M ItK}{g:Tg}{mt:M Bool}{me:M D}{σ:St}{H:Hp}{Q:VK}(hk:K=G.K)(h:tM G F (j3 mi g mt me k ix) σ H Q):z7V K (tI G F mi) (tGx G g) (tBx G mt) (tMx G me) k ix σ H Q:=by
 obtain⟨tv,hsf,ρ,s,M,W⟩:=h
 refine⟨tv,hsf,ρ,s,M, ?_⟩
 unfold j3 bd at W
 cases em:mi s with
 |ex d s1=>rw[em] at W;exact W
 |no=>rw[em] at W;exact W
 |ok K s1=>
  rw[em] at W
  intro ρ1 H1 tvs J hl M1 hok A1 hA1 kd
  subst hk
  have kd:KD G.K (upd H1 A1 (.lst [])):=kd
  have hf:=M1.fresh0 hA1
  refine⟨fun i m ys σ' H'=> ∃ρ s,MR G (F.prot A1 ys hf).toFx ρ H' σ' ((ys.reverse.map some)++(σ++(tvs++tv))) s/\wM G F σ tv (J6 K g mt me s1.σ.length m i ys.length s) Q,⟨_,ρ1,_,M1.enter hA1 kd k ix,W⟩, ?_⟩
  rintro i m ys σ' H' ⟨ρ2,s2,M2,W2⟩
  have hD:=(MR.turnD (ys':=ys) M2).1
  refine⟨hD, ?_⟩
  have ol:s1.σ.length=σ.length:=M1.sl.length
  have ok:=hok (F.prot A1 ys hf).toFx ρ2 H' σ' ((ys.reverse.map some)++σ) tv s2 i (by rw[m9];exact M2)
  erw[m8,n9,P1,<-ol,m9] at ok
  unfold J6 at W2
  cases e:K.at' i (s2.tm.drop (ys.length+s1.σ.length)) with
  |none=>erw[e] at W2;exact False.elim W2
  |some o=>
   rw[e] at ok
   cases o with
   |none=>
    erw[e] at W2 ok
    refine .inl ⟨ok, ?_⟩
    cases ea:Y2 (s2.tm.take ys.length).reverse with
    |none=>erw[ea] at W2;exact False.elim W2
    |some ds=>
     erw[ea] at W2
     exact W2 _ _ _ (MR.leave M2 hl _ ol.symm ea)
   |some d=>
    erw[e] at W2 ok
    cases m with
    |zero=>exact False.elim W2
    |succ f=>
     dsimp only at W2
     cases e2:asg g d s2.σ with
     |none=>erw[e2] at W2;exact False.elim W2
     |some σ3=>
      erw[e2] at W2
      refine .inr ⟨ok.1,fun x H2 y=> ?_⟩
      have hx:=ok.2 x H2 y
      refine⟨F.prot A1 ys hf,_,ρ2,s2,d,hx,σ3,e2,fun σv' M3=>⟨F.prot A1 ys hf,_,S3,ρ2,_,M3, ?_⟩⟩
      cases e3:mt {s2 with σ:=σ3} with
      |ex d s4=>erw[e3] at W2;exact False.elim W2
      |no=>erw[e3] at W2;exact False.elim W2
      |ok b s4=>
       intro ρ4 H4 M4
       cases b with
       |false=>
        erw[e3] at W2
        rw[if_neg l5]
        exact⟨f,B1 _,ρ4,s4,M4,W2⟩
       |true=>
        erw[e3] at W2
        rw[if_pos rfl]
        by_cases hz:ys.length<sizeLine
        ·rw[if_pos hz] at W2
         refine⟨F.prot A1 ys hf,_,S3,ρ4,s4,M4, ?_⟩
         cases e5:me s4 with
         |ex d s5=>erw[e5] at W2;exact False.elim W2
         |no=>erw[e5] at W2;exact False.elim W2
         |ok y s5=>
          erw[e5] at W2
          intro ρ5 v H5 M5
          obtain⟨hD5,M6⟩:=MR.turnD (ys':=ys++[v]) M5.push
          refine⟨hD5,hz,f,B1 _,ρ5,s5.psh y, ?_, ?_⟩
          ·rw[C8,A2,B4,m5,B6]
           exact M6
          ·rw[m8];exact W2
        ·rw[if_neg hz] at W2;exact False.elim W2
theorem se_comp{scope:Scope}{own frees:List Str}{ix:List Nat}{ifs:List Expr}{mi:M ItK}{g:Tg}{mt:M Bool}{me:M D}(hk:X.K=G.K)(hc:X.calm=true)(S:j4 X.env.scope scope own frees X.N ix)(hi:SI X G F tg iter mi)
 (hg: ∀(F:Fy) cl C s₀ H₀ fp pn,SG (W5 X scope own frees cl C s₀ H₀ fp pn) G F tg g) (ht: ∀(F:Fy) cl C s₀ H₀ fp pn,STs (W5 X scope own frees cl C s₀ H₀ fp pn) G F ifs mt) (he: ∀(F:Fy) cl C s₀ H₀ fp pn,SE (W5 X scope own frees cl C s₀ H₀ fp pn) G F elt me)
 (hs: ∀x,foldedSetIterable iter X.env x=pure x:=by intro _;rfl):SE X G F (.ListComp elt [⟨tg,iter,ifs,0⟩] scope pos) (j3 mi g mt me own.length ix):=
 PE.imp0 (z2k (g:=tGx G g) (tt:=tBx G mt) (te:=tMx G me) hc S hi (fun cl C s₀ H₀ fp pn pins s σ H v u Q I r ⟨F',q⟩=>hg F' cl C s₀ H₀ fp pn pins s σ H v u Q I r q)
  (fun cl C s₀ H₀ fp pn pins s σ H Q I ⟨F',q⟩=>ht F' cl C s₀ H₀ fp pn pins s σ H Q I q) (fun cl C s₀ H₀ fp pn pins s σ H Q I ⟨F',q⟩=>he F' cl C s₀ H₀ fp pn pins s σ H Q I q) hs) fun σ H Q h=>z5O hk h
theorem ss_comp{y:Str}{py spos:Pos}{i:Nat}{scope:Scope}{own frees:List Str}{ix:List Nat}{ifs:List Expr}{mi:M ItK}{g:Tg}{mt:M Bool}{me:M D}(hk:X.K=G.K)(hN:X.N.Nodup)(hy:X.N[i]? =some y)(hx:Loc X.env.scope y)(hfn:X.fn y=true\/X.env.scope.names.lookup y=some .local)(hsw:swapsWith (.ListComp elt [⟨tg,iter,ifs,0⟩] scope pos) (some (.Name y py)) spos.line X.env=pure true)
 (hc:X.calm=true) (S:j4 X.env.scope scope own frees X.N ix) (hi:SI X G F tg iter mi)
 (hg: ∀(F:Fy) cl C s₀ H₀ fp pn,SG (W5 X scope own frees cl C s₀ H₀ fp pn) G F tg g) (ht: ∀(F:Fy) cl C s₀ H₀ fp pn,STs (W5 X scope own frees cl C s₀ H₀ fp pn) G F ifs mt) (he: ∀(F:Fy) cl C s₀ H₀ fp pn,SE (W5 X scope own frees cl C s₀ H₀ fp pn) G F elt me)
 (hs: ∀x,foldedSetIterable iter X.env x=pure x:=by intro _;rfl):SS X G F (.Assign [.Name y py] (.ListComp elt [⟨tg,iter,ifs,0⟩] scope pos) spos) (U0 (.nm i) (j3 mi g mt me own.length ix)):=by
 refine PS.imp0 (z7W (i:=i) (g:=tGx G g) (tt:=tBx G mt) (te:=tMx G me) hN hy hx hfn hsw hc S hi (fun cl C s₀ H₀ fp pn pins s σ H v u Q I r ⟨F',q⟩=>hg F' cl C s₀ H₀ fp pn pins s σ H v u Q I r q)
  (fun cl C s₀ H₀ fp pn pins s σ H Q I ⟨F',q⟩=>ht F' cl C s₀ H₀ fp pn pins s σ H Q I q) (fun cl C s₀ H₀ fp pn pins s σ H Q I ⟨F',q⟩=>he F' cl C s₀ H₀ fp pn pins s σ H Q I q) hs) fun Dd σ H ⟨tv,h⟩=> ?_
 refine z5O hk ⟨tv,(z02 h).mono fun v H1 ⟨ρ1,s1,t,M1,W⟩=> ?_⟩
 erw[asg] at W
 exact W ρ1 _ H1 (M1.setS i).m
end
mutual
noncomputable def W0(l:Nat):D->Option D
 | .tup ds=>findL l ds
 | .ro ds=>findL l ds
 | .fdc _ vs=>findL l vs
 | .lst k ds=>if k=l then some (.lst k ds) else findL l ds
 | .dct k ks vs=>if k=l then some (.dct k ks vs) else findL l vs
 | .obj k c ns vs=>if k=l then some (.obj k c ns vs) else findL l vs
 | .non=>none| .bool _=>none| .int _=>none| .str _=>none| .exc _=>none| .fn _=>none
noncomputable def findL(l:Nat):List D->Option D
 |[]=>none
 |d::ds=>match W0 l d with
  |some x=>some x
  |none=>findL l ds
end
section
variable{G:Gx}{ρ:Nat->Addr}{H:Hp}
mutual
theorem z9Q(l:Nat): ∀(t:D) (v:V) (d:D),RD G ρ H t v->W0 l t=some d->RD G ρ H d (.ref (ρ l))/\∀k∈y3 d,k∈y3 t
 | .non,v,d,h,e=>by erw[W0] at e;cases e
 | .bool b,v,d,h,e=>by erw[W0] at e;cases e
 | .int b,v,d,h,e=>by erw[W0] at e;cases e
 | .str b,v,d,h,e=>by erw[W0] at e;cases e
 | .exc b,v,d,h,e=>by erw[W0] at e;cases e
 | .fn b,v,d,h,e=>by erw[W0] at e;cases e
 | .tup ds,v,d,h,e=>by
  erw[W0,RD,y3] at h e⊢
  obtain⟨a,xs,_,_,r⟩:=h
  exact findL_rd l ds xs d r e
 | .ro ds,v,d,h,e=>by
  erw[W0,RD,y3] at h e⊢
  obtain⟨a,xs,_,_,r⟩:=h
  exact findL_rd l ds xs d r e
 | .fdc ks vs,v,d,h,e=>by
  erw[W0,RD,y3] at h e⊢
  obtain⟨a,o,kvs,_,_,_,r⟩:=h
  exact findL_rd l vs _ d r e
 | .lst k ds,v,d,h,e=>by
  erw[W0] at e
  by_cases hk:k=l
  ·rw[if_pos hk] at e;cases e
   subst hk
   have h':=h
   erw[RD] at h'
   obtain⟨rfl,_⟩:=h'
   exact⟨h,fun _ q=>q⟩
  ·rw[if_neg hk] at e
   erw[RD] at h
   obtain⟨_,xs,_,r⟩:=h
   obtain⟨q1,q2⟩:=findL_rd l ds xs d r e
   exact⟨q1,fun j hj=>by erw[y3];exact b8 _ (q2 j hj)⟩
 | .dct k ks vs,v,d,h,e=>by
  erw[W0] at e
  by_cases hk:k=l
  ·rw[if_pos hk] at e;cases e
   subst hk
   have h':=h
   erw[RD] at h'
   obtain⟨rfl,_⟩:=h'
   exact⟨h,fun _ q=>q⟩
  ·rw[if_neg hk] at e
   erw[RD] at h
   obtain⟨_,⟨kvs,_,_,r⟩|⟨kvs,_,_,r⟩⟩:=h
   ·obtain⟨q1,q2⟩:=findL_rd l vs _ d r e
    exact⟨q1,fun j hj=>by erw[y3];exact b8 _ (b6 _ (q2 j hj))⟩
   ·obtain⟨q1,q2⟩:=findL_rd l vs _ d r e
    exact⟨q1,fun j hj=>by erw[y3];exact b8 _ (b6 _ (q2 j hj))⟩
 | .obj k c ns vs,v,d,h,e=>by
  erw[W0] at e
  by_cases hk:k=l
  ·rw[if_pos hk] at e;cases e
   subst hk
   have h':=h
   erw[RD] at h'
   obtain⟨rfl,_⟩:=h'
   exact⟨h,fun _ q=>q⟩
  ·rw[if_neg hk] at e
   erw[RD] at h
   obtain⟨_,C,dx,fs,_,_,_,r⟩:=h
   obtain⟨q1,q2⟩:=findL_rd l vs _ d r e
   exact⟨q1,fun j hj=>by erw[y3];exact b8 _ (q2 j hj)⟩
theorem findL_rd(l:Nat): ∀(t:List D) (v:List V) (d:D),RDs G ρ H t v->findL l t=some d->RD G ρ H d (.ref (ρ l))/\∀k∈y3 d,k∈labsL t
 |[],v,d,h,e=>by erw[findL] at e;cases e
 |t::ts,v,d,h,e=>by
  erw[findL,RDs,labsL] at h e⊢
  obtain⟨x,r,_,h1,h2⟩:=h
  cases e1:W0 l t with
  |some y=>
   rw[e1] at e;cases e
   obtain⟨q1,q2⟩:=z9Q l t x _ h1 e1
   exact⟨q1,fun j hj=>b9 _ (q2 j hj)⟩
  |none=>
   rw[e1] at e
   obtain⟨q1,q2⟩:=findL_rd l ts r d h2 e
   exact⟨q1,fun j hj=>b6 _ (q2 j hj)⟩
end
theorem roL_two{K:W.Frag}{a:Addr}{xs ys:List V}(k:KD K H)(h:RoL K H a xs)(h':RoL K H a ys):xs=ys:=SqL.two k h.sq h'.sq
noncomputable def z5P(G:Gx)(H:Hp)(a:Addr):Nat->Prop
 |0=> ∃xs,SqT G.K H a xs
 |1=> ∃xs,RoL G.K H a xs
 |2=> ∃xs,H a=some (.lst xs)
 |3=>(∃kvs,H a=some (.dK kvs))\/∃kvs,H a=some (.dT kvs)
 |4=> ∃C dx fs,H a=some (.ins C dx fs)
 |5=> ∃o φ,H a=some (.frz o (.ext φ))
 |6=> ∃c,G.cl c=some a
 |_=> ∃o kvs,H a=some (.frz o (.dT kvs))
open Classical in
noncomputable def kd(K:W.Frag)(H:Hp)(a:Addr):Nat:=match H a with
 |some (.tup _)=>0|some (.frz _ (.tup _))=>0|some (.frz _ (.lst _))=>1|some (.lst _)=>2|some (.dK _)=>3|some (.dT _)=>3|some (.ins _ _ _)=>4|some (.frz _ (.ext _))=>5|some (.frz _ (.dT _))=>7
 |some _=>9
 |none=>match K.lookup a with
  |some o=>if(∃its n,o.data= .seq its n) then(if o.cls= .type "tuple" then 0 else 1) else 6
  |none=>8
theorem zeG{a:Addr}(k:KD G.K H): ∀{i:Nat},z5P G H a i->i<=7->kd G.K H a=i:=by
 have tl: ¬((.type "list" :Value)= .type "tuple"):=by intro h;injection h with h;exact absurd h (by decide)
 intro i hi li
 match i,hi,li with
 |0,⟨xs,h⟩,_=>
  rcases h with(h|⟨o,h⟩)|⟨o,its,n,h,hc,hd,_⟩
  ·unfold kd;rw[h]
  ·unfold kd;rw[h]
  ·unfold kd;rw[k _ _ h];dsimp only;rw[h];dsimp only;rw[if_pos ⟨its,n,hd⟩,if_pos hc]
 |1,⟨xs,h⟩,_=>
  rcases h with⟨o,h⟩|⟨o,its,n,h,hc,_,hd,_⟩
  ·unfold kd;rw[h]
  ·unfold kd;rw[k _ _ h];dsimp only;rw[h];dsimp only;rw[if_pos ⟨its,n,hd⟩,if_neg (by rw[hc];exact tl)]
 |2,⟨xs,h⟩,_=>unfold kd;rw[h]
 |3,h,_=>rcases h with⟨_,h⟩|⟨_,h⟩<;>(unfold kd;rw[h])
 |4,⟨_,_,_,h⟩,_=>unfold kd;rw[h]
 |5,⟨_,_,h⟩,_=>unfold kd;rw[h]
 |6,⟨c,h⟩,_=>
  obtain⟨o,h1,h2⟩:=G.ck c a h
  unfold kd;rw[k _ _ h1];dsimp only;rw[h1];dsimp only;rw[if_neg (fun⟨its,n,q⟩=>h2 its n q)]
 |7,⟨_,_,h⟩,_=>unfold kd;rw[h]
 |n+8,_,li=>lia
theorem z9R{a:Addr}(k:KD G.K H){i j:Nat}(hi:z5P G H a i)(hj:z5P G H a j)(li:i<=7)(lj:j<=7):i=j:=(zeG k hi li).symm.trans (zeG k hj lj)
noncomputable def ix:D->Nat
 | .tup _=>0| .ro _=>1| .lst _ _=>2| .dct _ _ _=>3| .obj _ _ _ _=>4| .exc _=>5| .fn _=>6| .fdc _ _=>7|_=>8
noncomputable def flD:V->D
 | .bl b=> .bool b| .int b=> .int b| .str b=> .str b|_=> .non
theorem RD.kind{t:D}{v:V}(h:RD G ρ H t v):(t=flD v/\∀a,v≠ .ref a)\/∃a,v= .ref a/\ix t<=7/\z5P G H a (ix t):=by
 cases t<;>erw[RD] at h
 ·exact .inl (by rw[h];exact⟨rfl,nofun⟩)
 ·exact .inl (by rw[h];exact⟨rfl,nofun⟩)
 ·exact .inl (by rw[h];exact⟨rfl,nofun⟩)
 ·exact .inl (by rw[h];exact⟨rfl,nofun⟩)
 ·obtain⟨a',xs,e,s,r⟩:=h;exact .inr ⟨a',e,A7 rfl,xs,SqT.of s⟩
 ·obtain⟨a',xs,e,s,r⟩:=h;exact .inr ⟨a',e,A7 rfl,xs,s⟩
 ·obtain⟨e,xs,s,r⟩:=h;exact .inr ⟨_,e,A7 rfl,xs,s⟩
 ·obtain⟨e,⟨kvs,s,_⟩|⟨kvs,s,_⟩⟩:=h
  ·exact .inr ⟨_,e,A7 rfl, .inl ⟨kvs,s⟩⟩
  ·exact .inr ⟨_,e,A7 rfl, .inr ⟨kvs,s⟩⟩
 ·obtain⟨e,C,dx,fs,_,s,_⟩:=h;exact .inr ⟨_,e,A7 rfl,C,dx,fs,s⟩
 ·obtain⟨a',o,C,e,_,_,_,s⟩:=h;exact .inr ⟨a',e,A7 rfl,o,_,s⟩
 ·obtain⟨a',e,s⟩:=h;exact .inr ⟨a',e,A7 rfl,_,s⟩
 ·obtain⟨a',o,kvs,e,s,_⟩:=h;exact .inr ⟨a',e,A7 rfl,o,kvs,s⟩
theorem ix0{t:D}(h:ix t=0): ∃ds,t= .tup ds:=by cases t<;>first|exact⟨_,rfl⟩|cases h
theorem ix1{t:D}(h:ix t=1): ∃ds,t= .ro ds:=by cases t<;>first|exact⟨_,rfl⟩|cases h
theorem ix2{t:D}(h:ix t=2): ∃l ds,t= .lst l ds:=by cases t<;>first|exact⟨_,_,rfl⟩|cases h
theorem ix3{t:D}(h:ix t=3): ∃l ks vs,t= .dct l ks vs:=by cases t<;>first|exact⟨_,_,_,rfl⟩|cases h
theorem ix4{t:D}(h:ix t=4): ∃l c ns vs,t= .obj l c ns vs:=by cases t<;>first|exact⟨_,_,_,_,rfl⟩|cases h
theorem ix5{t:D}(h:ix t=5): ∃c,t= .exc c:=by cases t<;>first|exact⟨_,rfl⟩|cases h
theorem ix6{t:D}(h:ix t=6): ∃c,t= .fn c:=by cases t<;>first|exact⟨_,rfl⟩|cases h
theorem ix7{t:D}(h:ix t=7): ∃ks vs,t= .fdc ks vs:=by cases t<;>first|exact⟨_,_,rfl⟩|cases h
theorem RD.ixE{t t':D}{v:V}(k:KD G.K H)(h:RD G ρ H t v)(h':RD G ρ H t' v):t=t'\/ix t=ix t':=by
 rcases RD.kind h with⟨e,n⟩|⟨a,e,l,q⟩<;>rcases RD.kind h' with⟨e',n'⟩|⟨a',e',l',q'⟩
 ·exact .inl (e.trans e'.symm)
 ·exact absurd e' (n _)
 ·exact absurd e (n' _)
 ·cases e.symm.trans e';exact .inr (z9R k q q' l l')
section
variable(k:KD G.K H){n:Nat}(inj: ∀i j,i<n->j<n->ρ i=ρ j->i=j)
include k inj
mutual
theorem RD.uniq: ∀(t t':D) (v:V),RD G ρ H t v->RD G ρ H t' v->(∀l∈y3 t,l<n)->(∀l∈y3 t',l<n)->t=t'
 | .non,t',v,h,h',_,_=>(RD.kind h').elim (fun e=>by erw[RD] at h;subst h;exact e.1.symm) fun⟨_,e,_⟩=>by erw[RD] at h;subst h;cases e
 | .bool b,t',v,h,h',_,_=>(RD.kind h').elim (fun e=>by erw[RD] at h;subst h;exact e.1.symm) fun⟨_,e,_⟩=>by erw[RD] at h;subst h;cases e
 | .int b,t',v,h,h',_,_=>(RD.kind h').elim (fun e=>by erw[RD] at h;subst h;exact e.1.symm) fun⟨_,e,_⟩=>by erw[RD] at h;subst h;cases e
 | .str b,t',v,h,h',_,_=>(RD.kind h').elim (fun e=>by erw[RD] at h;subst h;exact e.1.symm) fun⟨_,e,_⟩=>by erw[RD] at h;subst h;cases e
 | .exc c,t',v,h,h',lb,lb'=>by
  rcases RD.ixE k h h' with e|e
  ·exact e
  obtain⟨c',rfl⟩:=ix5 e.symm
  erw[RD] at h h'
  obtain⟨a,o,C,rfl,h1,h2,_,s⟩:=h
  obtain⟨a',o',C',e,h1',h2',_,s'⟩:=h'
  cases e
  rw[s] at s';cases s'
  rw[h2] at h2';cases h2'
  rw[G.ci c c' C h1 h1']
 | .fn c,t',v,h,h',lb,lb'=>by
  rcases RD.ixE k h h' with e|e
  ·exact e
  obtain⟨c',rfl⟩:=ix6 e.symm
  erw[RD] at h h'
  obtain⟨a,rfl,h1⟩:=h
  obtain⟨a',e,h1'⟩:=h'
  cases e
  rw[G.ci c c' a h1 h1']
 | .tup ds,t',v,h,h',lb,lb'=>by
  rcases RD.ixE k h h' with e|e
  ·exact e
  obtain⟨es,rfl⟩:=ix0 e.symm
  obtain⟨a,xs,rfl,s,r⟩:=h.tupq
  obtain⟨a',ys,e,s',r'⟩:=h'.tupq
  cases e
  cases SqT.two k s s'
  rw[RDs.uniq ds es xs r r' lb lb']
 | .fdc ks vs,t',v,h,h',lb,lb'=>by
  rcases RD.ixE k h h' with e|e
  ·exact e
  obtain⟨ks',vs',rfl⟩:=ix7 e.symm
  erw[RD] at h h'
  obtain⟨a,o,kvs,rfl,s,s2,r⟩:=h
  obtain⟨a',o',kvs',e,s',s2',r'⟩:=h'
  cases e
  rw[s] at s';cases s'
  rw[s2,s2',RDs.uniq vs vs' _ r r' lb lb']
 | .ro ds,t',v,h,h',lb,lb'=>by
  rcases RD.ixE k h h' with e|e
  ·exact e
  obtain⟨es,rfl⟩:=ix1 e.symm
  erw[RD] at h h'
  obtain⟨a,xs,rfl,s,r⟩:=h
  obtain⟨a',ys,e,s',r'⟩:=h'
  cases e
  cases roL_two k s s'
  rw[RDs.uniq ds es xs r r' lb lb']
 | .lst l ds,t',v,h,h',lb,lb'=>by
  rcases RD.ixE k h h' with e|e
  ·exact e
  obtain⟨l',es,rfl⟩:=ix2 e.symm
  erw[RD] at h h'
  obtain⟨rfl,xs,s,r⟩:=h
  obtain⟨e,ys,s',r'⟩:=h'
  cases inj l l' (lb l (.head _)) (lb' l' (.head _)) (V.ref.inj e)
  rw[s] at s';cases s'
  rw[RDs.uniq ds es xs r r' (fun j hj=>lb j (.tail _ hj)) fun j hj=>lb' j (.tail _ hj)]
 | .dct l ks vs,t',v,h,h',lb,lb'=>by
  rcases RD.ixE k h h' with e|e
  ·exact e
  obtain⟨l',ks',vs',rfl⟩:=ix3 e.symm
  erw[RD] at h h'
  obtain⟨rfl,q⟩:=h
  obtain⟨e,q'⟩:=h'
  cases inj l l' (lb l (.head _)) (lb' l' (.head _)) (V.ref.inj e)
  have b1: ∀j∈labsL vs,j<n:=fun j hj=>lb j (.tail _ (b6 _ hj))
  have b2: ∀j∈labsL vs',j<n:=fun j hj=>lb' j (.tail _ (b6 _ hj))
  rcases q with⟨kvs,s,s2,r⟩|⟨kvs,s,s2,r⟩<;>rcases q' with⟨kvs',s',s2',r'⟩|⟨kvs',s',s2',r'⟩<;>rw[s] at s'<;>cases s'
  ·rw[s2,s2',RDs.uniq vs vs' _ r r' b1 b2]
  ·rw[s2,s2',RDs.uniq vs vs' _ r r' b1 b2]
 | .obj l c ns vs,t',v,h,h',lb,lb'=>by
  rcases RD.ixE k h h' with e|e
  ·exact e
  obtain⟨l',c',ns',vs',rfl⟩:=ix4 e.symm
  erw[RD] at h h'
  obtain⟨rfl,C,dx,fs,hC,s,s2,r⟩:=h
  obtain⟨e,C',dx',fs',hC',s',s2',r'⟩:=h'
  cases inj l l' (lb l (.head _)) (lb' l' (.head _)) (V.ref.inj e)
  rw[s] at s';cases s'
  rw[s2,s2',G.ci c c' C hC hC',RDs.uniq vs vs' _ r r' (fun j hj=>lb j (.tail _ hj)) fun j hj=>lb' j (.tail _ hj)]
theorem RDs.uniq: ∀(t t':List D) (v:List V),RDs G ρ H t v->RDs G ρ H t' v->(∀l∈labsL t,l<n)->(∀l∈labsL t',l<n)->t=t'
 |[],t',v,h,h',_,_=>by
  erw[RDs] at h;subst h
  cases t' with
  |nil=>rfl
  |cons d ds=>erw[RDs] at h';obtain⟨_,_,e,_⟩:=h';cases e
 |d::ds,t',v,h,h',lb,lb'=>by
  erw[RDs] at h
  obtain⟨x,q,rfl,h1,h2⟩:=h
  cases t' with
  |nil=>erw[RDs] at h';cases h'
  |cons d' ds'=>
   erw[RDs] at h'
   obtain⟨_,_,e,h1',h2'⟩:=h'
   cases e
   rw[RD.uniq d d' x h1 h1' (fun l hl=>lb l (by erw[labsL];exact b9 _ hl)) fun l hl=>lb' l (by erw[labsL];exact b9 _ hl),
    RDs.uniq ds ds' q h2 h2' (fun l hl=>lb l (by erw[labsL];exact b6 _ hl)) fun l hl=>lb' l (by erw[labsL];exact b6 _ hl)]
end
end
end
end Mi
namespace Mi
open PySem L2 PySem.Spec PyProof.Rows
inductive RF where
 |ok (t:D) (ts:List D) (n:Nat)|ex (d:D) (ts:List D) (n:Nat)|no
noncomputable abbrev FM:=List D->Nat->RF
structure z4f(G:Gx)(ρ:Nat->Addr)(n:Nat)(ts:List D)(vs:List V)(H:Hp)(ρ':Nat->Addr)(n':Nat)(ts':List D)(H':Hp):Prop where
 old: ∀l,l<n->ρ' l=ρ l
 le:n<=n'
 inj: ∀i j,i<n'->j<n'->ρ' i=ρ' j->i=j
 dom: ∀l,l<n'->∃o,H' (ρ' l)=some o
 rd:RDs G ρ' H' ts' vs
 lb: ∀l∈labsL ts',l<n'/\(l<n->l∈labsL ts)
 fr: ∀a o,H a=some o->(∃o',H' a=some o')/\((∀l∈labsL ts,a≠ρ l)->H' a=some o)
 new: ∀l,n<=l->l<n'->H (ρ' l)=none
 kd:KD G.K H'
section
variable{G:Gx}{ρ ρ':Nat->Addr}{H H':Hp}
theorem z7Z(k:Key):y3 (z3T k)=[]:=by cases k<;>erw[z3T,y3]
theorem z80: ∀ks:List Key,labsL (ks.map z3T)=[]
 |[]=>by erw[l3,labsL]
 |k::ks=>by erw[b7,labsL,z7Z,z80 ks,h9]
theorem z50(z:Key⊕List Key):y3 (nkD z)=[]:=by
 cases z with
 |inl k=>exact z7Z k
 |inr ks=>erw[nkD,y3,z80]
mutual
theorem zc3: ∀(t:D) (v:V),RD G ρ H t v->∀l∈y3 t,∃o,H (ρ l)=some o/\(∀xs,o≠ .tup xs)/\∀u w,o≠ .frz u w
 | .non,v,h,l,hl=>by erw[y3] at hl;cases hl
 | .bool b,v,h,l,hl=>by erw[y3] at hl;cases hl
 | .int b,v,h,l,hl=>by erw[y3] at hl;cases hl
 | .str b,v,h,l,hl=>by erw[y3] at hl;cases hl
 | .exc b,v,h,l,hl=>by erw[y3] at hl;cases hl
 | .fn b,v,h,l,hl=>by erw[y3] at hl;cases hl
 | .tup ds,v,h,l,hl=>by
  erw[y3,RD] at h hl
  obtain⟨a,xs,_,_,r⟩:=h
  exact labL_mut ds xs r l hl
 | .fdc ks vs,v,h,l,hl=>by
  erw[y3,RD] at h hl
  obtain⟨a,o,kvs,_,_,_,r⟩:=h
  exact labL_mut vs _ r l hl
 | .ro ds,v,h,l,hl=>by
  erw[y3,RD] at h hl
  obtain⟨a,xs,_,_,r⟩:=h
  exact labL_mut ds xs r l hl
 | .lst k ds,v,h,l,hl=>by
  erw[y3,RD] at h hl
  obtain⟨_,xs,s,r⟩:=h
  rcases i5.mp hl with rfl|hl
  ·exact⟨_,s,(fun _ q=>nomatch q),(fun _ _ q=>nomatch q)⟩
  ·exact labL_mut ds xs r l hl
 | .dct k ks vs,v,h,l,hl=>by
  erw[y3,RD] at h hl
  obtain⟨_,⟨kvs,s,s2,r⟩|⟨kvs,s,s2,r⟩⟩:=h
  ·rcases i5.mp hl with rfl|hl
   ·exact⟨_,s,(fun _ q=>nomatch q),(fun _ _ q=>nomatch q)⟩
   ·rcases c9.mp hl with hl|hl
    ·rw[s2] at hl
     obtain⟨d,hd,hl⟩:=G8 hl
     rcases i5.mp hd with rfl|hd
     ·erw[y3] at hl;cases hl
     obtain⟨p,_,rfl⟩:=l7.mp hd
     obtain⟨kk,_⟩:=p
     cases kk<;>erw[z3T,y3] at hl<;>cases hl
    ·exact labL_mut vs _ r l hl
  ·rcases i5.mp hl with rfl|hl
   ·exact⟨_,s,(fun _ q=>nomatch q),(fun _ _ q=>nomatch q)⟩
   ·rcases c9.mp hl with hl|hl
    ·rw[s2] at hl
     obtain⟨d,hd,hl⟩:=G8 hl
     obtain⟨p,_,rfl⟩:=l7.mp hd
     erw[dkD,y3] at hl
     obtain⟨d,hd,hl⟩:=G8 hl
     obtain⟨kk,_,rfl⟩:=l7.mp hd
     rw[z50] at hl;cases hl
    ·exact labL_mut vs _ r l hl
 | .obj k c ns vs,v,h,l,hl=>by
  erw[y3,RD] at h hl
  obtain⟨_,C,dx,fs,_,s,_,r⟩:=h
  rcases i5.mp hl with rfl|hl
  ·exact⟨_,s,(fun _ q=>nomatch q),(fun _ _ q=>nomatch q)⟩
  ·exact labL_mut vs _ r l hl
theorem labL_mut: ∀(t:List D) (v:List V),RDs G ρ H t v->∀l∈labsL t,∃o,H (ρ l)=some o/\(∀xs,o≠ .tup xs)/\∀u w,o≠ .frz u w
 |[],v,h,l,hl=>by erw[labsL] at hl;cases hl
 |d::ds,v,h,l,hl=>by
  erw[labsL,RDs] at h hl
  obtain⟨x,r,_,h1,h2⟩:=h
  rcases c9.mp hl with hl|hl
  ·exact zc3 d x h1 l hl
  ·exact labL_mut ds r h2 l hl
end
theorem z6D{kvs:List (Key×V)}{l:Nat}(hl:l∈labsL (kvs.map fun p=>z3T p.1)):False:=by
 obtain⟨d,hd,hl⟩:=G8 hl
 obtain⟨p,_,rfl⟩:=l7.mp hd
 obtain⟨kk,_⟩:=p
 cases kk<;>erw[z3T,y3] at hl<;>cases hl
theorem z51{kvs:List (NK×V)}{l:Nat}(hl:l∈labsL (kvs.map fun p=>dkD p.1)):False:=by
 obtain⟨d,hd,hl⟩:=G8 hl
 obtain⟨p,_,rfl⟩:=l7.mp hd
 erw[dkD,y3] at hl
 obtain⟨d,hd,hl⟩:=G8 hl
 obtain⟨kk,_,rfl⟩:=l7.mp hd
 rw[z50] at hl;cases hl
mutual
theorem z6E(l:Nat): ∀(t:D) (v:V),RD G ρ H t v->l∈y3 t->(W0 l t).isSome=true
 | .non,v,h,hl=>by erw[y3] at hl;cases hl
 | .bool b,v,h,hl=>by erw[y3] at hl;cases hl
 | .int b,v,h,hl=>by erw[y3] at hl;cases hl
 | .str b,v,h,hl=>by erw[y3] at hl;cases hl
 | .exc b,v,h,hl=>by erw[y3] at hl;cases hl
 | .fn b,v,h,hl=>by erw[y3] at hl;cases hl
 | .tup ds,v,h,hl=>by
  erw[y3,RD,W0] at h hl⊢
  obtain⟨a,xs,_,_,r⟩:=h
  exact findL_some l ds xs r hl
 | .fdc ks vs,v,h,hl=>by
  erw[y3,RD,W0] at h hl⊢
  obtain⟨a,o,kvs,_,_,_,r⟩:=h
  exact findL_some l vs _ r hl
 | .ro ds,v,h,hl=>by
  erw[y3,RD,W0] at h hl⊢
  obtain⟨a,xs,_,_,r⟩:=h
  exact findL_some l ds xs r hl
 | .lst k ds,v,h,hl=>by
  erw[y3,RD,W0] at h hl⊢
  obtain⟨_,xs,s,r⟩:=h
  by_cases e:k=l
  ·rw[if_pos e];rfl
  ·rw[if_neg e]
   rcases i5.mp hl with q|q
   ·exact absurd q.symm e
   ·exact findL_some l ds xs r q
 | .dct k ks vs,v,h,hl=>by
  erw[y3,RD,W0] at h hl⊢
  obtain⟨_,⟨kvs,s,s2,r⟩|⟨kvs,s,s2,r⟩⟩:=h
  ·by_cases e:k=l
   ·rw[if_pos e];rfl
   ·rw[if_neg e]
    rcases i5.mp hl with q|q
    ·exact absurd q.symm e
    ·rcases c9.mp q with q|q
     ·rw[s2] at q;exact(z6D q).elim
     ·exact findL_some l vs _ r q
  ·by_cases e:k=l
   ·rw[if_pos e];rfl
   ·rw[if_neg e]
    rcases i5.mp hl with q|q
    ·exact absurd q.symm e
    ·rcases c9.mp q with q|q
     ·rw[s2] at q;exact(z51 q).elim
     ·exact findL_some l vs _ r q
 | .obj k c ns vs,v,h,hl=>by
  erw[y3,RD,W0] at h hl⊢
  obtain⟨_,C,dx,fs,_,s,_,r⟩:=h
  by_cases e:k=l
  ·rw[if_pos e];rfl
  ·rw[if_neg e]
   rcases i5.mp hl with q|q
   ·exact absurd q.symm e
   ·exact findL_some l vs _ r q
theorem findL_some(l:Nat): ∀(t:List D) (v:List V),RDs G ρ H t v->l∈labsL t->(findL l t).isSome=true
 |[],v,h,hl=>by erw[labsL] at hl;cases hl
 |d::ds,v,h,hl=>by
  erw[labsL,RDs,findL] at h hl⊢
  obtain⟨x,r,_,h1,h2⟩:=h
  cases e:W0 l d with
  |some y=>rfl
  |none=>
   rcases c9.mp hl with q|q
   ·have:=z6E l d x h1 q
    rw[e] at this;cases this
   ·exact findL_some l ds r h2 q
end
theorem z4f.stays{n n':Nat}{ts ts':List D}{vs:List V}(P:z4f G ρ n ts vs H ρ' n' ts' H')(r:RDs G ρ H ts vs):G2 H H':=by
 refine⟨fun b xs e=>(P.fr b _ e).2 fun l hl z=> ?_,fun b o u e=>(P.fr b _ e).2 fun l hl z=> ?_⟩
 ·obtain⟨o,q,q1,_⟩:=labL_mut ts vs r l hl
  rw[<-z,e] at q;cases q;exact q1 _ rfl
 ·obtain⟨o,q,_,q1⟩:=labL_mut ts vs r l hl
  rw[<-z,e] at q;cases q;exact q1 _ _ rfl
section
variable(k:KD G.K H){n:Nat}(inj: ∀i j,i<n->j<n->ρ i=ρ j->i=j){ts:List D}{vs:List V}(r:RDs G ρ H ts vs)(lb: ∀l∈labsL ts,l<n)
include k inj r lb
mutual
theorem z3c: ∀(t:D) (v:V),RD G ρ H t v->(∀l∈y3 t,l<n)->rp (fun l=>findL l ts) t=t
 | .non,v,h,hl=>rfl
 | .bool b,v,h,hl=>rfl
 | .int b,v,h,hl=>rfl
 | .str b,v,h,hl=>rfl
 | .exc b,v,h,hl=>rfl
 | .fn b,v,h,hl=>rfl
 | .tup ds,v,h,hl=>by
  erw[y3,RD,rp] at h hl⊢
  obtain⟨a,xs,_,_,r1⟩:=h
  rw[rpL_find_id ds xs r1 hl]
 | .fdc ks vs,v,h,hl=>by
  erw[y3,RD,rp] at h hl⊢
  obtain⟨a,o,kvs,_,_,_,r1⟩:=h
  rw[rpL_find_id vs _ r1 hl]
 | .ro ds,v,h,hl=>by
  erw[y3,RD,rp] at h hl⊢
  obtain⟨a,xs,_,_,r1⟩:=h
  rw[rpL_find_id ds xs r1 hl]
 | .lst l ds,v,h,hl=>by
  erw[rp]
  cases e:findL l ts with
  |some d=>
   dsimp only
   obtain⟨q1,q2⟩:=findL_rd l ts vs d r e
   have h':=h
   erw[RD] at h'
   obtain⟨rfl,_⟩:=h'
   exact RD.uniq k inj _ _ _ q1 h (fun j hj=>lb j (q2 j hj)) hl
  |none=>
   dsimp only
   erw[y3,RD] at h hl
   obtain⟨_,xs,s,r1⟩:=h
   rw[rpL_find_id ds xs r1 fun j hj=>hl j (b8 _ hj)]
 | .dct l ks vs',v,h,hl=>by
  erw[rp]
  cases e:findL l ts with
  |some d=>
   dsimp only
   obtain⟨q1,q2⟩:=findL_rd l ts vs d r e
   have h':=h
   erw[RD] at h'
   obtain⟨rfl,_⟩:=h'
   exact RD.uniq k inj _ _ _ q1 h (fun j hj=>lb j (q2 j hj)) hl
  |none=>
   dsimp only
   erw[y3,RD] at h hl
   obtain⟨_,⟨kvs,s,s2,r1⟩|⟨kvs,s,s2,r1⟩⟩:=h
   ·rw[rpL_find_id vs' _ r1 fun j hj=>hl j (b8 _ (b6 _ hj))]
   ·rw[rpL_find_id vs' _ r1 fun j hj=>hl j (b8 _ (b6 _ hj))]
 | .obj l c ns vs',v,h,hl=>by
  erw[rp]
  cases e:findL l ts with
  |some d=>
   dsimp only
   obtain⟨q1,q2⟩:=findL_rd l ts vs d r e
   have h':=h
   erw[RD] at h'
   obtain⟨rfl,_⟩:=h'
   exact RD.uniq k inj _ _ _ q1 h (fun j hj=>lb j (q2 j hj)) hl
  |none=>
   dsimp only
   erw[y3,RD] at h hl
   obtain⟨_,C,dx,fs,_,s,_,r1⟩:=h
   rw[rpL_find_id vs' _ r1 fun j hj=>hl j (b8 _ hj)]
theorem rpL_find_id: ∀(t:List D) (v:List V),RDs G ρ H t v->(∀l∈labsL t,l<n)->rpL (fun l=>findL l ts) t=t
 |[],v,h,hl=>rfl
 |d::ds,v,h,hl=>by
  erw[labsL,RDs,rpL] at h hl⊢
  obtain⟨x,q,_,h1,h2⟩:=h
  rw[z3c d x h1 fun j hj=>hl j (b9 _ hj),rpL_find_id ds q h2 fun j hj=>hl j (b6 _ hj)]
end
theorem z03: ∀(t:List (Option D)) (v:List (Option V)),Sl G ρ H t v->(∀l∈Z9 t,l<n)->rpO (fun l=>findL l ts) t=t
 |[],v,h,hl=>rfl
 |none::r',v,h,hl=>by
  erw[Z9,Sl,rpO] at h hl⊢
  obtain⟨o,q,_,h⟩:=h
  rw[z03 r' q h hl]
 |some d::ds,v,h,hl=>by
  erw[Z9,Sl,rpO] at h hl⊢
  obtain⟨x,q,_,h1,h2⟩:=h
  rw[z3c k inj r lb d x h1 fun j hj=>hl j (b9 _ hj),z03 ds q h2 fun j hj=>hl j (b6 _ hj)]
end
variable{F:Fy}{σv tv:List (Option V)}{s:Stt}{np:Nat}
theorem MR.call{ts ts':List D}{vs:List V}{n':Nat}(M:MR G F.toFx ρ H σv tv s)(r:RDs G ρ H ts vs)(lb:LB F.toFx ρ s.n (labsL ts))(P:z4f G ρ s.n ts vs H ρ' n' ts' H')
 (hc: ∀l∈J7 s,l∈labsL ts->(findL l ts').isSome=true):MR G F.toFx ρ' H' σv tv {σ:=rpO (fun l=>findL l ts') s.σ,tm:=rpO (fun l=>findL l ts') s.tm,n:=n'}:=by
 have st:=P.stays r
 have step: ∀l∈J7 s,ρ' l=ρ l/\(match findL l ts' with|some d=>RD G ρ' H' d (.ref (ρ l))|none=> ∀o,H (ρ l)=some o->H' (ρ l)=some o):=fun l hl=>by
  have ol:=P.old l (M.lab l hl)
  refine⟨ol, ?_⟩
  cases e:findL l ts' with
  |some d=>
   have q:=(findL_rd l ts' vs d P.rd e).1
   rw[ol] at q;exact q
  |none=>
   intro o e1
   refine(P.fr _ _ e1).2 fun j hj z=> ?_
   have:l=j:=M.inj l j (M.lab l hl) (lb j hj).1 z
   subst this
   have:=hc l hl hj
   rw[e] at this;cases this
 have hn: ∀l,l<n'->l<s.n\/H (ρ' l)=none:=fun l hl=>by
  by_cases h:l<s.n
  ·exact .inl h
  ·exact .inr (P.new l (M8.mp h) hl)
 have hlab: ∀(xs:List (Option D)),(∀l∈Z9 xs,l∈J7 s)->∀l∈Z9 (rpO (fun l=>findL l ts') xs),l<n'/\(l<s.n->l∈J7 s\/l∈labsL ts):=fun xs hx l h=>by
  rcases z1Y l xs h with q|⟨k,d,q1,q2,q3⟩
  ·exact⟨l8 (M.lab l (hx l q)) P.le,fun _=> .inl (hx l q)⟩
  ·obtain⟨b1,b2⟩:=P.lb l ((findL_rd k ts' vs d P.rd q2).2 l q3)
   exact⟨b1,fun z=> .inr (b2 z)⟩
 have all: ∀l∈J7 {σ:=rpO (fun l=>findL l ts') s.σ,tm:=rpO (fun l=>findL l ts') s.tm,n:=n'},l<n'/\(l<s.n->l∈J7 s\/l∈labsL ts):=fun l h=>by
  rcases c9.mp h with h|h
  ·exact hlab s.σ (fun l q=>b9 _ q) l h
  ·exact hlab s.tm (fun l q=>b6 _ q) l h
 refine⟨Sl.rp st M.sl fun l hl=>step l (b9 _ hl),Sl.rp st M.tm fun l hl=>step l (b6 _ hl),P.inj,P.dom,fun l h=>(all l h).1,fun l h=> ?_,fun a o e=> ?_,P.kd,fun l hl z=> ?_,⟨B0 M.bas.1 P.le,fun l hl=> ?_⟩⟩
 ·rcases hn l (all l h).1 with q|q
  ·rw[P.old l q]
   rcases(all l h).2 q with z|z
   ·exact M.own l z
   ·exact(lb l z).2
  ·exact .inr (M.fresh0 q)
 ·obtain⟨⟨o1,e1⟩,e2⟩:=M.frm a o e
  obtain⟨e3,e4⟩:=P.fr a o1 e1
  refine⟨e3,fun nA=> ?_⟩
  have e5:=e2 nA
  rw[e1] at e5;cases e5
  refine e4 fun l hl z=> ?_
  rcases(lb l hl).2 with q|q
  ·exact nA (z▸q)
  ·rw[<-z,e] at q;cases q
 ·rcases hn l hl with q|q
  ·rw[P.old l q] at z;exact M.frb l q z
  ·obtain⟨⟨o,e⟩,_⟩:=F.zA _ z
   obtain⟨⟨o',e'⟩,_⟩:=M.frm _ o e
   rw[q] at e';cases e'
 ·rw[P.old l (l8 hl M.bas.1)];exact M.bas.2 l hl
theorem MR.call0{ts:List D}{vs:List V}{n':Nat}(M:MR G F.toFx ρ H σv tv s)(r:RDs G ρ H ts vs)(lb:LB F.toFx ρ s.n (labsL ts))(P:z4f G ρ s.n ts vs H ρ' n' ts H'):MR G F.toFx ρ' H' σv tv {s with n:=n'}:=by
 have hf: ∀l∈labsL ts,(findL l ts).isSome=true:=fun l hl=>findL_some l ts vs r hl
 have M2:=M.call r lb P fun l _ hl=>hf l hl
 rw[z03 M.kd M.inj r (fun l hl=>(lb l hl).1) s.σ σv M.sl fun l hl=>M.lab l (b9 _ hl),z03 M.kd M.inj r (fun l hl=>(lb l hl).1) s.tm tv M.tm fun l hl=>M.lab l (b6 _ hl)] at M2
 exact M2
open Classical in
noncomputable def z0N(r:RF)(ts:List D):M D:=fun s=>match r with
 | .ok t ts' n'=>if ts'=ts then .ok t {s with n:=n'} else
  if ∀l∈J7 s,l∈labsL ts->(findL l ts').isSome=true then .ok t {σ:=rpO (fun l=>findL l ts') s.σ,tm:=rpO (fun l=>findL l ts') s.tm,n:=n'} else .no
 |_=> .no
noncomputable def Y1(f:FM)(ms:List (M D)):M D:=bd (Z6 ms) fun ts s=>z0N (f ts s.n) ts s
noncomputable def spM(G:Gx)(np:Nat)(f:FM):Sp:=fun vs H Q _=>vs.length=np/\∃ρ n ts,RDs G ρ H ts vs/\(∀i j,i<n->j<n->ρ i=ρ j->i=j)/\(∀l,l<n->∃o,H (ρ l)=some o)/\(∀l∈labsL ts,l<n)/\KD G.K H/\match f ts n with
 | .ok t ts' n'=> ∀ρ' v H',z4f G ρ n ts vs H ρ' n' ts' H'->RD G ρ' H' t v->(∀l∈y3 t,l<n'/\(l<n->l∈labsL ts))->Q v H'
 |_=>False
theorem z2n{ts:List D}{vs:List V}{f:FM}{Q:VK}{E:XK}(hl:vs.length=np)(M:MRL G F.toFx ρ H σv tv s ts vs)(W:wM G F σv tv (z0N (f ts s.n) ts s) Q):spM G np f vs H Q E:=by
 refine⟨hl,ρ,s.n,ts,M.rd,M.m.inj,M.m.dom,fun l h=>(M.lb l h).1,M.m.kd, ?_⟩
 cases e:f ts s.n with
 |no=>rw[e] at W;exact W
 |ex d ts' n'=>rw[e] at W;exact W
 |ok t ts' n'=>
  rw[e] at W
  intro ρ' v H' P rd lbt
  have own: ∀l∈y3 t,F.A0 (ρ' l)\/F.H0 (ρ' l)=none:=fun l h=>by
   obtain⟨b1,b2⟩:=lbt l h
   by_cases hn:l<s.n
   ·rw[P.old l hn];exact(M.lb l (b2 hn)).2
   ·exact .inr (M.m.fresh0 (P.new l (M8.mp hn) b1))
  unfold z0N at W
  dsimp only at W
  split at W
  ·rename_i et
   subst et
   exact W.out (M.m.call0 M.rd M.lb P) rd fun l h=>⟨(lbt l h).1,own l h⟩
  ·split at W
   ·rename_i hc
    exact W.out (M.m.call M.rd M.lb P hc) rd fun l h=>⟨(lbt l h).1,own l h⟩
   ·exact False.elim W
theorem z2o: ∀(ms:List (M D)) (s:Stt) (ts:List D) (s':Stt),Z6 ms s= .ok ts s'->ts.length=ms.length:=by
 intro ms
 induction ms with
 |nil=>intro s ts s' e;erw[Z6,rt,Res.ok.injEq] at e;rw[<-e.1];rfl
 |cons m ms ih=>
  intro s ts s' e
  erw[Z6,bd,psh] at e
  cases e1:m s with
  |ok t s1=>
   erw[e1] at e
   cases e2:Z6 ms (s1.psh t) with
   |ok ys s2=>
    erw[e2,pop] at e
    cases e3:s2.tm with
    |nil=>erw[e3] at e;cases e
    |cons o r=>
     cases o with
     |none=>erw[e3] at e;cases e
     |some t'=>
      erw[e3,rt,Res.ok.injEq] at e
      rw[<-e.1,i9,i9,ih _ _ _ e2]
   |ex d s2=>erw[e2] at e;cases e
   |no=>erw[e2] at e;cases e
  |ex d s1=>erw[e1] at e;cases e
  |no=>erw[e1] at e;cases e
theorem se_call{X:Cx}{e:Expr}{es:List Expr}{pos p:Pos}{CX:CXT}{k:Nat}{fa:Addr}{fd:FuncData}{ps:List Str}{x:Str}{E:XK}{f:FM}{ms:List (M D)}(hk:X.K=G.K)(Fn:U3 X.prog X.w X.K X.mg X.base CX k fa fd ps (spM G ps.length f))(hr:z0n k X.A)(hg:Gl X x)(hm:X.mg x=some (.ref fa))(hkp:W.keepIn X.K (.ref fa)=true)(hb:X9 X.K fd ps [])(hx:U4 CX X E)
 (ha:SA X G F (e::es) (Z6 ms)) (hln:ms.length=ps.length) (hdb:(x==("__debug__" :Str))=false:=by decide) (he:starEach (e::es) X.env=(false,eval e X.env)::starEach es X.env:=by rfl) (hpl:(backTo pos (starEach es X.env)).any (·.1)=false:=by rfl):
 SE X G F (.Call (.Name x p) (e::es) [] pos) (Y1 f ms):=by
 refine PE.imp0 (zbv Fn hr hg hm hkp hb .nil hx ha hdb he hpl) fun σ H Q ⟨tv,hs,ρ,s,M,W⟩=>⟨tv,hs,ρ,s,M, ?_⟩
 unfold Y1 bd at W
 cases e1:Z6 ms s with
 |ex d s1=>rw[e1] at W;exact W
 |no=>rw[e1] at W;exact W
 |ok ts s1=>
  rw[e1] at W
  intro ρ1 vs H1 M1
  rw[h9]
  exact z2n (by rw[<-M1.rd.length,z2o ms s ts s1 e1,hln]) M1 W
noncomputable def z2p(nl:Nat)(mb:MS):FM:=fun ts n=>match mb {σ:=ts.map some++i7 (nl -ts.length) none,tm:=ts.map some,n:=n} with
 | .nx s'=>match Y2 s'.tm with|some ts'=> .ok .non ts' s'.n|none=> .no
 | .rt t s'=>match Y2 s'.tm with|some ts'=> .ok t ts' s'.n|none=> .no
 | .ex d s'=>match Y2 s'.tm with|some ts'=> .ex d ts' s'.n|none=> .no
 |_=> .no
noncomputable def z9S(G:Gx)(ρ:Nat->Addr)(n:Nat)(ts:List D)(vs:List V)(H:Hp)(lb: ∀l∈labsL ts,l<n)(dom: ∀l,l<n->∃o,H (ρ l)=some o):Fy where
 A0:=fun a=> ∃l∈labsL ts,a=ρ l
 H0:=H
 Z:=fun a=>(∃o,H a=some o)/\∀l,l<n->a≠ρ l
 zA:=fun a z=>⟨z.1,fun⟨l,hl,e⟩=>z.2 l (lb l hl) e⟩
 aH:=fun a ⟨l,hl,e⟩=>e▸dom l (lb l hl)
 n0:=n
 ρ0:=ρ
 tv0:=vs.map some
 xw:=fun _ _=>False
theorem RDs.sl: ∀{ts:List D} {vs:List V},RDs G ρ H ts vs->Sl G ρ H (ts.map some) (vs.map some)/\Z9 (ts.map some)=labsL ts
 |[],vs,h=>by erw[RDs] at h;subst h;simp[Sl,Z9,labsL]
 |d::ds,vs,h=>by
  erw[RDs] at h
  obtain⟨x,q,rfl,h1,h2⟩:=h
  obtain⟨q1,q2⟩:=RDs.sl h2
  refine⟨?_,by erw[b7,Z9,labsL,q2]⟩
  erw[b7,Sl]
  exact⟨_,_,rfl,h1,q1⟩
theorem z5Q{ts ts':List D}{vs:List V}{n:Nat}{lb: ∀l∈labsL ts,l<n}{dom: ∀l,l<n->∃o,H (ρ l)=some o}(inj: ∀i j,i<n->j<n->ρ i=ρ j->i=j)(M:MR G (z9S G ρ n ts vs H lb dom).toFx ρ' H' σv (vs.map some) s)(e:Y2 s.tm=some ts'):
 z4f G ρ n ts vs H ρ' s.n ts' H'/\∀l,l<s.n->((z9S G ρ n ts vs H lb dom).A0 (ρ' l)\/H (ρ' l)=none)->l<n->l∈labsL ts:=by
 have own: ∀l,l<s.n->((z9S G ρ n ts vs H lb dom).A0 (ρ' l)\/H (ρ' l)=none)->l<n->l∈labsL ts:=fun l hl q hn=>by
  have ol:=M.bas.2 l hn
  have ol:ρ' l=ρ l:=ol
  rcases q with⟨j,hj,q⟩|q
  ·rw[ol] at q
   rw[inj l j hn (lb j hj) q];exact hj
  ·rw[ol] at q
   obtain⟨o,z⟩:=dom l hn
   rw[z] at q;cases q
 obtain⟨r1,r2⟩:=Sl.all M.tm e
 refine⟨⟨M.bas.2,M.bas.1,M.inj,M.dom,r1,fun l hl=> ?_,fun a o e1=> ?_,fun l h1 h2=> ?_,M.kd⟩,own⟩
 ·rw[r2] at hl
  have m:l∈J7 s:=b6 _ hl
  exact⟨M.lab l m,own l (M.lab l m) (M.own l m)⟩
 ·obtain⟨q1,q2⟩:=M.frm a o e1
  exact⟨q1,fun z=>q2 fun⟨l,hl,e⟩=>z l hl e⟩
 ·cases q:H (ρ' l) with
  |none=>rfl
  |some o=>
   refine absurd ⟨⟨o,q⟩,fun j hj e=> ?_⟩ (M.frb l h2)
   have oj:ρ' j=ρ j:=M.bas.2 j hj
   have:=M.inj l j h2 (l8 hj M.bas.1) (e.trans oj.symm)
   lia
theorem fn_M{P:Program}{w:World}{K:W.Frag}{mg:Str->Option Value}{base:Heap}{x qual:Str}{st:Stmt}{fa:Addr}{fd:FuncData}{N ps:List Str}{k:Nat}{mb:MS}(Fn:Fun K x qual st fa fd)(S:w4 N ps (y8 st))(hG:G.K=K)
 (hb: ∀(cdv:Value) (A:Around) (outer:List Env) (s:Shared) (H:Hp) (E:XK) (F:Fy),z0n k (A.deeper (envOfC qual (y8 st) s.heap.objs.size fa cdv))->SSs (z9w CX0 P w K mg base N qual (y8 st) fa cdv A outer s H E).nox G F (J8 st) mb):
 U3 P w K mg base CX0 (k+1) fa fd ps (spM G ps.length (z2p N.length mb)):=by
 refine Fn.ok S (fun vs H Q E h=>h.1) fun cdv A outer s H vs Q E hr h=> ?_
 obtain⟨hl,ρ,n,ts,r,inj,dom,lb,kd,W⟩:=h
 refine⟨_,hb cdv A outer s H E (z9S G ρ n ts vs H lb dom) hr,vs.map some,List.suffix_refl _,ρ,{σ:=ts.map some++i7 (N.length -ts.length) none,tm:=ts.map some,n:=n}, ?_, ?_⟩
 ·obtain⟨r1,r2⟩:=RDs.sl r
  have hlen:=r.length
  have sub: ∀l∈J7 {σ:=ts.map some++i7 (N.length -ts.length) none,tm:=ts.map some,n:=n},l∈labsL ts:=fun l h=>by
   rcases c9.mp h with h|h
   ·have h:l∈Z9 (ts.map some++i7 (N.length -ts.length) none):=h
    rw[Y8] at h
    rcases c9.mp h with h|h
    ·rw[<-r2];exact h
    ·exact absurd h (z2l _)
   ·rw[<-r2];exact h
  refine⟨?_,r1,inj,dom,fun l h=>lb l (sub l h),fun l h=> .inl ⟨l,sub l h,rfl⟩,fun a o e=>⟨⟨o,e⟩,fun _=>e⟩,kd,fun l hl z=>z.2 l hl rfl,⟨c8 _,fun l _=>rfl⟩⟩
  show Sl G ρ H _ (vs.map some++i7 (N.length -vs.length) none)
  rw[<-hlen]
  exact r1.append (Sl.none_map _)
 ·unfold z2p at W
  cases e:mb {σ:=ts.map some++i7 (N.length -ts.length) none,tm:=ts.map some,n:=n} with
  |nx s'=>
   erw[e] at W
   cases ea:Y2 s'.tm with
   |none=>erw[ea] at W
   |some ts'=>
    erw[ea] at W
    intro ρ' σv' H' M
    obtain⟨P,_⟩:=z5Q inj M ea
    exact W ρ' .non H' P (by erw[RD]) fun l h=>by simp[y3] at h
  |rt t s'=>
   erw[e] at W
   cases ea:Y2 s'.tm with
   |none=>erw[ea] at W
   |some ts'=>
    erw[ea] at W
    intro ρ' σv' v H' M
    obtain⟨P,own⟩:=z5Q inj M.m ea
    exact W ρ' v H' P M.rd1 fun l h=>⟨(M.lb1 l h).1,own l (M.lb1 l h).1 (M.lb1 l h).2⟩
  |bk s'=>erw[e] at W
  |ct s'=>erw[e] at W
  |ex d s'=>
   erw[e] at W
   cases ea:Y2 s'.tm with
   |none=>erw[ea] at W
   |some ts'=>erw[ea] at W
  |no=>erw[e] at W
end
mutual
noncomputable def sz:D->Nat
 | .tup ds=>szL ds+1
 | .ro ds=>szL ds+1
 | .fdc _ vs=>szL vs+1
 | .lst _ ds=>szL ds+1
 | .dct _ _ vs=>szL vs+1
 | .obj _ _ _ vs=>szL vs+1
 | .non=>1| .bool _=>1| .int _=>1| .str _=>1| .exc _=>1| .fn _=>1
noncomputable def szL:List D->Nat
 |[]=>0
 |d::ds=>sz d+szL ds
end
mutual
theorem z9T(l:Nat): ∀(t d:D),W0 l t=some d->sz d<=sz t
 | .non,d,e=>by erw[W0] at e;cases e
 | .bool b,d,e=>by erw[W0] at e;cases e
 | .int b,d,e=>by erw[W0] at e;cases e
 | .str b,d,e=>by erw[W0] at e;cases e
 | .exc b,d,e=>by erw[W0] at e;cases e
 | .fn b,d,e=>by erw[W0] at e;cases e
 | .tup ds,d,e=>by erw[W0,sz] at e⊢;have:=findL_sz l ds d e;lia
 | .ro ds,d,e=>by erw[W0,sz] at e⊢;have:=findL_sz l ds d e;lia
 | .fdc ks vs,d,e=>by erw[W0,sz] at e⊢;have:=findL_sz l vs d e;lia
 | .lst k ds,d,e=>by
  erw[W0] at e
  by_cases h:k=l
  ·rw[if_pos h] at e;cases e;exact c8 _
  ·rw[if_neg h] at e;erw[sz];have:=findL_sz l ds d e;lia
 | .dct k ks vs,d,e=>by
  erw[W0] at e
  by_cases h:k=l
  ·rw[if_pos h] at e;cases e;exact c8 _
  ·rw[if_neg h] at e;erw[sz];have:=findL_sz l vs d e;lia
 | .obj k c ns vs,d,e=>by
  erw[W0] at e
  by_cases h:k=l
  ·rw[if_pos h] at e;cases e;exact c8 _
  ·rw[if_neg h] at e;erw[sz];have:=findL_sz l vs d e;lia
theorem findL_sz(l:Nat): ∀(t:List D) (d:D),findL l t=some d->sz d<=szL t
 |[],d,e=>by erw[findL] at e;cases e
 |t::ts,d,e=>by
  erw[findL] at e
  erw[szL]
  cases e1:W0 l t with
  |some y=>rw[e1] at e;cases e;have:=z9T l t _ e1;lia
  |none=>rw[e1] at e;have:=findL_sz l ts d e;lia
end
section
variable{G:Gx}{F:Fy}{ρ:Nat->Addr}{H:Hp}{σv tv:List (Option V)}{s:Stt}{t:D}{ts ds es:List D}{v:V}{vs xs ys:List V}{l:Nat}{Q:VK}
theorem z52(M:MR G F.toFx ρ H σv tv s)(h:RD G ρ H (.lst l ds) v)(lb: ∀j∈y3 (.lst l ds),j<s.n):l∉labsL ds:=fun hl=>by
 have h0:=h
 erw[RD] at h0
 obtain⟨rfl,xs,q,r⟩:=h0
 have:=findL_some l ds xs r hl
 cases e:findL l ds with
 |none=>rw[e] at this;cases this
 |some d=>
  obtain⟨q1,q2⟩:=findL_rd l ds xs d r e
  have e2:=RD.uniq M.kd M.inj _ _ _ q1 h (fun j hj=>lb j (by erw[y3];exact b8 _ (q2 j hj))) lb
  have e3:=findL_sz l ds d e
  rw[e2] at e3
  erw[sz] at e3
  lia
theorem MR.put2{o:HO}{d:D}(M:MR G F.toFx ρ H σv tv s)(ln:l<s.n)(ow:F.A0 (ρ l)\/F.H0 (ρ l)=none)(ts:G2 H (upd H (ρ l) o))(k:KD G.K (upd H (ρ l) o))(hd:RD G ρ (upd H (ρ l) o) d (.ref (ρ l)))(hb:LB F.toFx ρ s.n (y3 d)):
 MR G F.toFx ρ (upd H (ρ l) o) σv tv (s.put l d):=by
 have step: ∀k,k∈J7 s->ρ k=ρ k/\(match (if k=l then some d else none:Option D) with|some d=>RD G ρ (upd H (ρ l) o) d (.ref (ρ k))|none=> ∀o',H (ρ k)=some o'->upd H (ρ l) o (ρ k)=some o'):=fun k hk=>by
  refine⟨rfl, ?_⟩
  by_cases e:k=l
  ·rw[if_pos e];subst e;exact hd
  ·rw[if_neg e]
   intro o' q
   rw[y6 (fun z=>e (M.inj k l (M.lab k hk) ln z))]
   exact q
 have sub: ∀(xs:List (Option D)) (j:Nat),j∈Z9 (rpO (fun k=>if k=l then some d else none) xs)->(∀i∈Z9 xs,i∈J7 s)->j<s.n/\(F.A0 (ρ j)\/F.H0 (ρ j)=none):=fun xs j h hx=>by
  rcases z1Y j xs h with q|⟨k,d',q1,q2,q3⟩
  ·exact⟨M.lab j (hx j q),M.own j (hx j q)⟩
  ·by_cases e:k=l
   ·rw[if_pos e] at q2;cases q2;exact hb j q3
   ·rw[if_neg e] at q2;cases q2
 have all: ∀j∈J7 (s.put l d),j<s.n/\(F.A0 (ρ j)\/F.H0 (ρ j)=none):=fun j h=>by
  rcases c9.mp h with h|h
  ·exact sub s.σ j h fun i hi=>b9 _ hi
  ·exact sub s.tm j h fun i hi=>b6 _ hi
 refine⟨Sl.rp ts M.sl fun k hk=>step k (b9 _ hk),Sl.rp ts M.tm fun k hk=>step k (b6 _ hk),M.inj,fun k hk=> ?_,fun j h=>(all j h).1,fun j h=>(all j h).2,fun a o' e=> ?_,k,M.frb,M.bas⟩
 ·by_cases e:ρ k=ρ l
  ·rw[e];exact⟨o,y9⟩
  ·rw[y6 e];exact M.dom k hk
 ·obtain⟨⟨o1,e1⟩,e2⟩:=M.frm a o' e
  by_cases ea:a=ρ l
  ·subst ea
   refine⟨⟨o,y9⟩,fun n=> ?_⟩
   rcases ow with q|q
   ·exact absurd q n
   ·rw[e] at q;cases q
  ·rw[y6 ea]
   exact⟨⟨o1,e1⟩,e2⟩
theorem z5R{o o':HO}{a:Addr}(k:KD G.K H)(e:H a=some o):KD G.K (upd H a o'):=fun b ob q=>by
 by_cases h:b=a
 ·subst h;rw[k _ _ q] at e;cases e
 ·rw[y6 h];exact k _ _ q
theorem z4g{o':HO}{a:Addr}{xs:List V}(e:H a=some (.lst xs)):G2 H (upd H a o'):=
 ⟨fun b ys q=>by rw[y6 (z0L q e (by intro z;cases z))];exact q,fun b o u q=>by rw[y6 (z0L q e (by intro z;cases z))];exact q⟩
theorem RDs.upd{o:HO}{a:Addr}(st:G2 H (upd H (ρ l) o))(inj: ∀i j,i<s.n->j<s.n->ρ i=ρ j->i=j)(ln:l<s.n)(r:RDs G ρ H ds xs)(lb: ∀j∈labsL ds,j<s.n/\j≠l):RDs G ρ (L2.upd H (ρ l) o) ds xs:=
 RDs.stay st ds xs r fun j hj=>⟨rfl,fun o' e=>by rw[y6 (fun z=>(lb j hj).2 (inj j l (lb j hj).1 ln z))];exact e⟩
theorem MR.putL(M:MR G F.toFx ρ H σv tv s)(hl:H (ρ l)=some (.lst xs))(ln:l<s.n)(ow:F.A0 (ρ l)\/F.H0 (ρ l)=none)(r:RDs G ρ H es ys)(lb:LB F.toFx ρ s.n (labsL es))(ne:l∉labsL es):
 MR G F.toFx ρ (upd H (ρ l) (.lst ys)) σv tv (s.put l (.lst l es)):=by
 refine M.put2 ln ow (z4g hl) (z5R M.kd hl) ?_ fun j hj=> ?_
 ·erw[RD]
  exact⟨trivial,ys,y9,RDs.upd (a:=0) (z4g hl) M.inj ln r fun j hj=>⟨(lb j hj).1,fun z=>ne (z▸hj)⟩⟩
 ·erw[y3] at hj
  rcases i5.mp hj with q|q
  ·rw[q];exact⟨ln,ow⟩
  ·exact lb j q
end
noncomputable def z81:D->List D->M D
 | .lst l ds,[y]=>fun s=>if ds.length<sizeLine/\l∉y3 y then .ok .non (s.put l (.lst l (ds++[y]))) else .no
 |_,_=>fl
noncomputable def zc4:D->List D->M D
 | .lst l ds,[y]=>fun s=>match z97 y with
  |some es=>if ds.length+es.length<=sizeLine/\l∉labsL es then .ok .non (s.put l (.lst l (ds++es))) else .no
  |none=> .no
 |_,_=>fl
noncomputable def isL(x:D):M Unit:=fun s=>match zd6 x with|some _=> .ok () s|none=> .no
noncomputable def z1B(mo:M D)(ms:List (M D))(g:D->List D->M D):M D:=bd mo fun x=>bd (isL x) fun _=>bd (psh x) fun _=>bd (Z6 ms) fun ys=>bd pop fun x'=>g x' ys
section
variable{X:Cx}{G:Gx}{F:Fy}{e o:Expr}{es:List Expr}{apos cpos:Pos}
noncomputable def zeH(G:Gx)(F:Fy)(r:V->List V->Hp->VK->Prop)(g:D->List D->M D):Prop:= ∀ρ s t ts v vs H σv tv Q,MRL G F.toFx ρ H σv tv s (t::ts) (v::vs)->wM G F σv tv (g t ts s) Q->r v vs H (fun w H'=>KD G.K H'->Q w H')
theorem MRL.hd{ρ:Nat->Addr}{H:Hp}{σv tv:List (Option V)}{s:Stt}{t:D}{ts:List D}{v:V}{vs:List V}(M:MRL G F.toFx ρ H σv tv s (t::ts) (v::vs)):RD G ρ H t v/\RDs G ρ H ts vs/\LB F.toFx ρ s.n (y3 t)/\LB F.toFx ρ s.n (labsL ts):=by
 have h:=M.rd
 erw[RDs] at h
 obtain⟨_,_,e,h1,h2⟩:=h
 cases e
 exact⟨h1,h2,fun l h=>M.lb l (by erw[labsL];exact b9 _ h),fun l h=>M.lb l (by erw[labsL];exact b6 _ h)⟩
theorem zeI:zeH G F z7q z81:=by
 intro ρ s t ts v vs H σv tv Q M W
 obtain⟨h1,h2,b1,b2⟩:=M.hd
 unfold z81 at W
 split at W
 ·rename_i l ds y
  split at W
  ·rename_i hc
   have h1':=h1
   erw[RD] at h1
   obtain⟨rfl,xs,hx,r⟩:=h1
   erw[RDs] at h2
   obtain⟨u,q,rfl,h2,rfl⟩:=h2
   have ns:=z52 M.m h1' fun j hj=>(b1 j hj).1
   have bl:=b1 l (by erw[y3];exact i3 ..)
   refine⟨_,xs,u,rfl,rfl,hx,by rw[<-r.length];exact hc.1,fun _=>W.out (M.m.putL hx bl.1 bl.2 (r.append (RDs.one h2)) ?_ ?_) (by erw[RD]) fun l h=>by simp[y3] at h⟩
   ·intro j hj
    rw[Q0] at hj
    rcases c9.mp hj with q|q
    ·exact b1 j (by erw[y3];exact b8 _ q)
    ·exact b2 j q
   ·intro hj
    rw[Q0] at hj
    rcases c9.mp hj with q|q
    ·exact ns q
    ·erw[labsL,h9] at q;exact hc.2 q
  ·exact False.elim W
 ·exact wfl W
theorem zeJ:zeH G F (zeg G.K) zc4:=by
 intro ρ s t ts v vs H σv tv Q M W
 obtain⟨h1,h2,b1,b2⟩:=M.hd
 unfold zc4 at W
 split at W
 ·rename_i l ds y
  cases ey:z97 y with
  |none=>erw[ey] at W;exact False.elim W
  |some es=>
   erw[ey] at W
   split at W
   ·rename_i hc
    have h1':=h1
    erw[RD] at h1
    obtain⟨rfl,xs,hx,r⟩:=h1
    erw[RDs] at h2
    obtain⟨u,q,rfl,h2,rfl⟩:=h2
    obtain⟨a,ys,rfl,sq,r2,sub⟩:=h2.seq ey
    have ns:=z52 M.m h1' fun j hj=>(b1 j hj).1
    have bl:=b1 l (by erw[y3];exact i3 ..)
    refine⟨_,a,xs,ys,rfl,rfl,hx,sq.symm,by rw[<-r.length,<-r2.length];exact hc.1,fun _=>W.out (M.m.putL hx bl.1 bl.2 (r.append r2) ?_ ?_) (by erw[RD]) fun l h=>by simp[y3] at h⟩
    ·intro j hj
     rw[Q0] at hj
     rcases c9.mp hj with q|q
     ·exact b1 j (by erw[y3];exact b8 _ q)
     ·exact b2 j (by erw[labsL,h9];exact sub j q)
    ·intro hj
     rw[Q0] at hj
     rcases c9.mp hj with q|q
     ·exact ns q
     ·exact hc.2 q
   ·exact False.elim W
 ·exact wfl W
theorem z9U{T:String}{mo:M D}{ms:List (M D)}{g:D->List D->M D}{r:V->List V->Hp->VK->Prop}{σ:L2.St}{H:Hp}{Q:VK}(hT:T= "list")(hg:zeH G F r g)(h:tM G F (z1B mo ms g) σ H Q):
 tM G F mo σ H fun x H1=>tyV G.K T x H1/\tML G F (Z6 ms) σ H1 fun xs H2=>r x xs H2 fun w H'=>KD G.K H'->Q w H':=by
 obtain⟨tv,h⟩:=h
 have hs:=h.1
 refine⟨tv,(z4Y h).mono fun v H1 ⟨ρ1,s1,t,M1,W⟩=> ?_⟩
 erw[bd,isL] at W
 cases e1:zd6 t with
 |none=>erw[e1] at W;exact False.elim W
 |some ds=>
  erw[e1,psh] at W
  obtain⟨a,xs,rfl,sq,_⟩:=M1.rd1.lstq e1
  refine⟨.inl ⟨hT,xs,sq⟩,some (.ref a)::tv,z7L hs,ρ1,s1.psh t,M1.push, ?_⟩
  cases e2:Z6 ms (s1.psh t) with
  |ex d s2=>erw[e2] at W;exact W
  |no=>erw[e2] at W;exact W
  |ok ys s2=>
   erw[e2,pop] at W
   intro ρ2 us H2 M2
   cases e3:s2.tm with
   |nil=>erw[e3] at W;exact False.elim W
   |cons o r=>
    cases o with
    |none=>erw[e3] at W;exact False.elim W
    |some t'=>
     erw[e3] at W
     exact hg _ _ _ _ _ _ _ _ _ _ (M2.down e3) W
theorem zc5{name:Str}{id:String}{r:V->List V->Hp->VK->Prop}{mo:M D}{ms:List (M D)}{g:D->List D->M D}(hk:X.K=G.K)(slot:Slot "list" name id)(hty:typeOf (.builtin id)=pure (.type "method_descriptor"))(hm:MtR X id r)(hg:zeH G F r g)(ho:SE X G F o mo)(ha:SA X G F (e::es) (Z6 ms))
 (hbase:attributeBase o name X.env (eval o X.env)=eval o X.env:=by rfl)
 (hfew:((backTo cpos (starEach (e::es) X.env)).all (fun x=> !x.1)&&(backToKw cpos (keywordEach [] X.env)).all (fun x=>x.1.isSome)
  &&decide ((e::es).length+([]:List Keyword).length+(if([]:List Keyword).isEmpty then 0 else 1)<30))=true:=by rfl)
 (hline:(apos.endLine==cpos.line)=true:=by rfl) (hs:starEach (e::es) X.env=(false,eval e X.env)::starEach es X.env:=by rfl) (hplain:(backTo cpos (starEach es X.env)).any (·.1)=false:=by rfl):SE X G F (.Call (.Attribute o name apos) (e::es) [] cpos) (z1B mo ms g):=by
 refine PE.imp hk (zgG PySem.F.plainAttrs_list slot hty hm ho ha hbase hfew hline hs hplain) fun σ H Q h=> ?_
 rw[hk]
 exact z9U rfl hg h
noncomputable def zaG(o i v:D):MS:=fun s=>match o,i with
 | .lst l ds, .int k=>match ixN ds.length k with
  |some j=>if l∉y3 v then .nx (s.put l (.lst l (ds.set j v))) else .no
  |none=> .no
 |_,_=> .no
noncomputable def z82(me mo mi:M D)(g:D->D->D->MS):MS:=z0W me fun v=>z0W (psh v) fun _=>z0W mo fun o=>z0W (psh o) fun _=>z0W mi fun i=>z0W pop fun o'=>z0W pop fun v'=>g o' i v'
theorem z9V{mo mi:M D}{g:D->D->D->MS}{tv:List (Option V)}{Dd:z5v}{σ:L2.St}{H1:Hp}{ρ1:Nat->Addr}{s1:Stt}{t:D}{v:V}(hs:F.tv0<:+tv)(M1:MRL G F.toFx ρ1 H1 σ tv s1 [t] [v])
 (W:wS G F tv ((z0W (psh t) fun _=>z0W mo fun o=>z0W (psh o) fun _=>z0W mi fun i=>z0W pop fun o'=>z0W pop fun v'=>g o' i v') s1) Dd):
 tM G F mo σ H1 fun o H2=>tM G F mi σ H2 fun i H3=> ∃ρ s t1 t2 t3,MRL G F.toFx ρ H3 σ tv s [t1,t2,t3] [v,o,i]/\wS G F tv (g t2 t3 t1 s) Dd:=by
 refine⟨some v::tv,z7L hs,ρ1,s1.psh t,M1.push, ?_⟩
 erw[z0W,psh] at W
 cases e1:mo (s1.psh t) with
 |ex d s2=>erw[e1] at W;exact W
 |no=>erw[e1] at W;exact W
 |ok o s2=>
  erw[e1] at W
  intro ρ2 u H2 M2
  refine⟨some u::some v::tv,z7L (z7L hs),ρ2,s2.psh o,M2.push, ?_⟩
  cases e2:mi (s2.psh o) with
  |ex d s3=>erw[e2] at W;exact W
  |no=>erw[e2] at W;exact W
  |ok i s3=>
   erw[e2,pop] at W
   intro ρ3 w H3 M3
   cases e3:s3.tm with
   |nil=>erw[e3] at W;exact False.elim W
   |cons o3 r3=>
    cases o3 with
    |none=>erw[e3] at W;exact False.elim W
    |some x3=>
     erw[e3] at W
     cases r3 with
     |nil=>exact False.elim W
     |cons o4 r4=>
      cases o4 with
      |none=>exact False.elim W
      |some x4=>
       have M4:=M3.down e3
       have M5:=M4.down (s':={s3 with tm:=some x4::r4}) rfl
       exact⟨ρ3,_,x4,x3,i,M5,W⟩
theorem z83{me mo mi:M D}{g:D->D->D->MS}{tv:List (Option V)}{Dd:z5v}{σ:L2.St}{H:Hp}(h:tSv G F (z82 me mo mi g) tv Dd σ H):
 tM G F me σ H fun v H1=>tM G F mo σ H1 fun o H2=>tM G F mi σ H2 fun i H3=> ∃ρ s t1 t2 t3,MRL G F.toFx ρ H3 σ tv s [t1,t2,t3] [v,o,i]/\wS G F tv (g t2 t3 t1 s) Dd:=
 ⟨tv,(z02 h).mono fun v H1 ⟨ρ1,s1,t,M1,W⟩=>z9V h.1 M1 W⟩
theorem zeK{ρ:Nat->Addr}{s:Stt}{t1 t2 t3:D}{v o i:V}{H:Hp}{σv tv:List (Option V)}{Dd:z5v}(M:MRL G F.toFx ρ H σv tv s [t1,t2,t3] [v,o,i])(W:wS G F tv (zaG t2 t3 t1 s) Dd):z9z o i v H fun H'=>Dd.nx σv H':=by
 have h:=M.rd
 erw[RDs] at h
 obtain⟨_,_,e,h1,_,_,e2,h2,_,_,e3,h3,_⟩:=h
 cases e;cases e2;cases e3
 have b1:LB F.toFx ρ s.n (y3 t1):=fun l h=>M.lb l (by erw[labsL];exact b9 _ h)
 have b2:LB F.toFx ρ s.n (y3 t2):=fun l h=>M.lb l (by erw[labsL];exact b6 _ (b9 _ h))
 cases t2 with
 |lst l ds=>
  cases t3 with
  |int k=>
   erw[zaG] at W
   cases ek:ixN ds.length k with
   |none=>erw[ek] at W;exact False.elim W
   |some j=>
    erw[ek] at W
    by_cases hc:l∉y3 t1
    ·rw[if_pos hc] at W
     have h2':=h2
     erw[RD] at h2 h3
     obtain⟨rfl,xs,hx,r⟩:=h2
     subst h3
     have ns:=z52 M.m h2' fun j hj=>(b2 j hj).1
     have bl:=b2 l (by erw[y3];exact i3 ..)
     have mm: ∀q,q∈labsL (ds.set j t1)->q∈labsL ds\/q∈y3 t1:=fun q hq=>by
      obtain⟨d,h1,h2⟩:=G8 hq
      rcases List.mem_or_eq_of_mem_set h1 with z|z
      ·exact .inl (labsL_mem z q h2)
      ·subst z;exact .inr h2
     refine⟨_,xs,k,j,rfl,rfl,hx,by rw[<-r.length];exact ek,W ρ σv _ (M.m.putL hx bl.1 bl.2 (r.set j h1) (fun q hq=> ?_) fun hq=> ?_)⟩
     ·rcases mm q hq with z|z
      ·exact b2 q (by erw[y3];exact b8 _ z)
      ·exact b1 q z
     ·rcases mm l hq with z|z
      ·exact ns z
      ·exact hc z
    ·rw[if_neg hc] at W;exact False.elim W
  |_=>exact False.elim W
 |_=>exact False.elim W
theorem ss_setI{ob ix:Expr}{pos tpos:Pos}{mo mi me:M D}(he:SE X G F e me)(ho:SE X G F ob mo)(hi:SE X G F ix mi)(hg: ∀{to ti:TE},PE X ob to->PE X ix ti->PG X (.Subscript ob ix tpos) (zgq to ti z9z))(hs:swapsWithSole [.Subscript ob ix tpos] e pos.line X.env=pure false:=by rfl)(hw:swappedStores [.Subscript ob ix tpos] e X.env=pure none:=by rfl)
 (h1:(assignEach [.Subscript ob ix tpos] X.env).map (·.2)=[assign (.Subscript ob ix tpos) X.env]:=by rfl):SS X G F (.Assign [.Subscript ob ix tpos] e pos) (z82 me mo mi zaG):=by
 refine PS.imp0 (zas he (hg ho hi) hs hw h1) fun Dd σ H ⟨tv,h⟩=> ?_
 exact(z83 h).mono fun v H1 h1=>h1.mono fun o H2 h2=>h2.mono fun i H3 ⟨ρ,s,t1,t2,t3,M,W⟩=>zeK M W
end
end Mi
namespace Mi
open PySem L2
section
variable{X:Cx}{G:Gx}{F:Fy}{e a b c:Expr}{pos:Pos}{ma mb mc m:M D}
theorem se_add(hk:X.K=G.K)(ha:SE X G F a ma)(hb:SE X G F b mb):SE X G F (.BinOp a .Add b pos) (Z0 ma mb X7):=
 z7M hk (r:=fun x y H Q=>rI0 (fun i j=> .int (i+j)) x y H Q\/z7G G.K x y H Q\/zgH x y H Q\/∃i j,x= .str i/\y= .str j/\i.length+j.length<=sizeLine/\Q (.str (i++j)) H) (hk▸OpR.or zdC (OpR.or z4X (OpR.or zdS z6i))) zek ha hb
theorem se_mul(hk:X.K=G.K)(ha:SE X G F a ma)(hb:SE X G F b mb):SE X G F (.BinOp a .Mult b pos) (Z0 ma mb z6z):=z7M hk (r:=fun x y H Q=>rI z9l (fun i j=> .int (i*j)) x y H Q\/(zgI x y H Q\/zbS G.K x y H Q)) (OpR.or zdD (OpR.or zdT (hk▸zbT))) zeo ha hb
theorem se_fdiv(hk:X.K=G.K)(ha:SE X G F a ma)(hb:SE X G F b mb):SE X G F (.BinOp a .FloorDiv b pos) (Z0 ma mb z2U):=z7M hk zbk zbX ha hb
theorem se_mod(hk:X.K=G.K)(ha:SE X G F a ma)(hb:SE X G F b mb):SE X G F (.BinOp a .Mod b pos) (Z0 ma mb z4c):=z7M hk zdE zel ha hb
theorem se_pow(hk:X.K=G.K)(ha:SE X G F a ma)(hb:SE X G F b mb):SE X G F (.BinOp a .Pow b pos) (Z0 ma mb z9J):=z7M hk zdF zem ha hb
structure Cm(X:Cx)(G:Gx)(F:Fy)(op:CmpOp)(g:D->D->M D):Prop where
 h: ∃r,OpR X (compareOp op) r/\z01 G F r g
theorem zc6:Cm X G F .Lt ltD:=⟨_,zgv,zgT⟩
theorem z9W:Cm X G F .LtE leD:=⟨_,zgw,zgU⟩
theorem zh2:Cm X G F .Gt gtD:=⟨_,zgx,zgV⟩
theorem zh3:Cm X G F .GtE geD:=⟨_,zgy,zgW⟩
theorem zc7(hk:X.K=G.K)(hu:X.A.units+64<cLine):Cm X G F .Eq eqD:=⟨_,hk▸zee hu,zgX⟩
theorem z84(hk:X.K=G.K)(hu:X.A.units+64<cLine):Cm X G F .NotEq neD:=⟨_,hk▸zef hu,zgY⟩
theorem se_cmp{op:CmpOp}{g:D->D->M D}(hc:Cm X G F op g)(ha:SE X G F a ma)(hb:SE X G F b mb)(hm:behindInMarks op b=false):SE X G F (.Compare a [op] [b] pos) (Z0 ma mb g):=by
 obtain⟨r,h1,h2⟩:=hc.h
 exact zbV h1 h2 ha hb hm
theorem sb_cmp{op:CmpOp}{g:D->D->M D}(hc:Cm X G F op g)(ha:SE X G F a ma)(hb:SE X G F b mb)(hm:behindInMarks op b=false):SB X G F (.Compare a [op] [b] pos) (X0 (Z0 ma mb g)):=by
 obtain⟨r,h1,h2⟩:=hc.h
 exact zbZ h1 h2 ha hb hm
theorem se_cmp2{op op':CmpOp}{g g':D->D->M D}(hc:Cm X G F op g)(hc':Cm X G F op' g')(ha:SE X G F a ma)(hb:SE X G F b mb)(hcc:SE X G F c mc)(hm:lastMarks [op,op'] [b,c]=false:=by with_unfolding_all rfl):SE X G F (.Compare a [op,op'] [b,c] pos) (z0O ma mb mc g g'):=by
 obtain⟨r,h1,h2⟩:=hc.h
 obtain⟨r',h1',h2'⟩:=hc'.h
 exact z9L h1 h2 h1' h2' ha hb hcc hm
theorem sb_cmp2{op op':CmpOp}{g g':D->D->M D}(hc:Cm X G F op g)(hc':Cm X G F op' g')(ha:SE X G F a ma)(hb:SE X G F b mb)(hcc:SE X G F c mc)(hm:lastMarks [op,op'] [b,c]=false:=by with_unfolding_all rfl):SB X G F (.Compare a [op,op'] [b,c] pos) (X0 (z0O ma mb mc g g')):=by
 obtain⟨r,h1,h2⟩:=hc.h
 obtain⟨r',h1',h2'⟩:=hc'.h
 exact z9M h1 h2 h1' h2' ha hb hcc hm
theorem se_idx(hk:X.K=G.K)(ha:SE X G F a ma)(hb:SE X G F b mb)(hs:z1u b):SE X G F (.Subscript a b pos) (Z0 ma mb ixD):=zgS hk (hk▸IxR.or zbC zdQ) zgZ ha hb hs
structure Cb(X:Cx)(G:Gx)(F:Fy)(f:Value)(g:List D->M D):Prop where
 h: ∃r,CallR X f r/\u1 G F r g
theorem zeL(hk:X.K=G.K):Cb X G F (.builtin "len") z1A:=⟨_,hk▸z45,zev⟩
theorem zeM:Cb X G F (.builtin "abs") zd8:=⟨_,z9p,zew⟩
theorem zaH(hc:X.calm=true):Cb X G F (.builtin "min") zc0:=⟨_,z7e hc,zex⟩
theorem zeN(hc:X.calm=true):Cb X G F (.builtin "max") zd9:=⟨_,z7d hc,zey⟩
theorem z85(hk:X.K=G.K)(hd:X.A.handled=none):Cb X G F (.builtin "all") z98:=⟨_,hk▸z7B hd,zez⟩
theorem zeO:Cb X G F (.type "int") zda:=⟨_,z7f,zeA⟩
theorem z3y(hk:X.K=G.K):Cb X G F (.type "tuple") z99:=⟨_,hk▸z7H,zc1⟩
theorem se_cb{x:Str}{p:Pos}{es:List Expr}{ms:List (M D)}{g:List D->M D}{id:String}(hk:X.K=G.K)(hc:Cb X G F (.builtin id) g)(hgl:Gl X x)(hm:X.mg x=none)(hv:bootBuiltins x=some (.builtin id))(ha:SA X G F (e::es) (Z6 ms))(hn:x≠ "__name__" :=by decide)(hdb:(x==("__debug__" :Str))=false:=by decide)
 (he:starEach (e::es) X.env=(false,eval e X.env)::starEach es X.env:=by rfl) (hpl:(backTo pos (starEach es X.env)).any (·.1)=false:=by rfl):SE X G F (.Call (.Name x p) (e::es) [] pos) (mCB ms g):=by
 obtain⟨r,h1,h2⟩:=hc.h
 exact z9I hk h1 h2 hgl hm hv ha hn hdb he hpl
theorem se_ct{x:Str}{p:Pos}{es:List Expr}{ms:List (M D)}{g:List D->M D}{T:String}(hk:X.K=G.K)(hc:Cb X G F (.type T) g)(hgl:Gl X x)(hm:X.mg x=none)(hv:bootBuiltins x=some (.type T))(ha:SA X G F (e::es) (Z6 ms))(hn:x≠ "__name__" :=by decide)(hdb:(x==("__debug__" :Str))=false:=by decide)
 (he:starEach (e::es) X.env=(false,eval e X.env)::starEach es X.env:=by rfl) (hpl:(backTo pos (starEach es X.env)).any (·.1)=false:=by rfl):SE X G F (.Call (.Name x p) (e::es) [] pos) (mCB ms g):=by
 obtain⟨r,h1,h2⟩:=hc.h
 exact z7O hk h1 h2 hgl hm hv ha hn hdb he hpl
structure Cl(X:Cx)(G:Gx)(F:Fy)(id:String)(g:D->List D->M D):Prop where
 h: ∃r,MtR X id r/\zeH G F r g
theorem z2q:Cl X G F "list.append" z81:=⟨_,z27,zeI⟩
theorem z86(hk:X.K=G.K):Cl X G F "list.extend" zc4:=⟨_,hk▸zbQ,zeJ⟩
end
end Mi
namespace Mi
open PySem L2 PySem.Spec PyProof.Rows
end Mi
namespace Mi
open PySem L2
section
variable{X:Cx}{G:Gx}{F:Fy}{e o:Expr}{es:List Expr}{apos cpos:Pos}
theorem se_cl{name:Str}{id:String}{mo:M D}{ms:List (M D)}{g:D->List D->M D}(hk:X.K=G.K)(slot:Slot "list" name id)(hty:typeOf (.builtin id)=pure (.type "method_descriptor"))(hm:Cl X G F id g)(ho:SE X G F o mo)(ha:SA X G F (e::es) (Z6 ms))
 (hbase:attributeBase o name X.env (eval o X.env)=eval o X.env:=by rfl)
 (hfew:((backTo cpos (starEach (e::es) X.env)).all (fun x=> !x.1)&&(backToKw cpos (keywordEach [] X.env)).all (fun x=>x.1.isSome)
  &&decide ((e::es).length+([]:List Keyword).length+(if([]:List Keyword).isEmpty then 0 else 1)<30))=true:=by rfl)
 (hline:(apos.endLine==cpos.line)=true:=by rfl) (hs:starEach (e::es) X.env=(false,eval e X.env)::starEach es X.env:=by rfl) (hplain:(backTo cpos (starEach es X.env)).any (·.1)=false:=by rfl):SE X G F (.Call (.Attribute o name apos) (e::es) [] cpos) (z1B mo ms g):=by
 obtain⟨r,h1,h2⟩:=hm.h
 exact zc5 hk slot hty h1 h2 ho ha hbase hfew hline hs hplain
end
inductive SEs(X:Cx)(G:Gx)(F:Fy):List Expr->List (M D)->Prop
 |nil:SEs X G F [] []
 |cons {e:Expr} {m:M D} {es:List Expr} {ms:List (M D)}:SE X G F e m->nst e=true->SEs X G F es ms->SEs X G F (e::es) (m::ms)
theorem sa_of{X:Cx}{G:Gx}{F:Fy}{es:List Expr}{ms:List (M D)}(hk:X.K=G.K)(h:SEs X G F es ms):SA X G F es (Z6 ms):=by
 induction h with
 |nil=>exact zei hk
 |cons h1 h2 _ ih=>exact zbW hk h1 ih h2
section
variable{X:Cx}{G:Gx}{F:Fy}{a b tg:Expr}{pos:Pos}
noncomputable def z2W(lo:Int)(n:Nat):List D:=(A5 n).map fun(k:Nat)=>D.int (lo+(k:Int))
mutual
theorem z2r: ∀t:D,(er t).hasDict=false
 | .non| .bool _| .int _| .str _| .dct _ _ _| .obj _ _ _ _| .exc _| .fn _| .fdc _ _=>by erw[er,PyData.hasDict]
 | .tup ds=>by erw[er,PyData.hasDict];exact erL_noDict ds
 | .ro ds=>by erw[er,PyData.hasDict];exact erL_noDict ds
 | .lst _ ds=>by erw[er,PyData.hasDict];exact erL_noDict ds
theorem erL_noDict: ∀ts:List D,PyData.hasDictAll (erL ts)=false
 |[]=>by erw[erL,PyData.hasDictAll]
 |t::ts=>by erw[erL,PyData.hasDictAll,z2r t,erL_noDict ts,Bool.or_self]
end
noncomputable def zh4(ds:List D):Bool:=plainL ds&&(er (.tup ds)).showable&&decide ((er (.tup ds)).depth<=60)&&decide ((er (.tup ds)).shown.length<=sizeLine)
noncomputable def zik:List D->M D
 |[.tup ds]=>if zh4 ds=true then rt (.str (er (.tup ds)).shown) else fl
 |_=>fl
theorem zeP:u1 G F (zh1 G.K) zik:=by
 intro ρ s ts vs H σv tv Q M W
 unfold zik at W
 split at W
 ·rename_i ds
  split at W
  ·rename_i hc
   erw[zh4,i6,decide_eq_true_eq] at hc
   obtain⟨⟨⟨c1,c2⟩,c3⟩,c4⟩:=hc
   obtain⟨v,rfl,h,_⟩:=M.one
   obtain⟨p,xs,rfl,s1,r1⟩:=id h.tupq
   exact⟨p,er (.tup ds),rfl,RD.dp _ _ h (by erw[plain];exact c1),z2r _,c2,c3,c4,fun _=>W.flat M.m rfl⟩
  ·exact wfl W
 ·exact wfl W
end
end Mi
namespace L2
open PySem PySem.Spec PyProof.Rows
structure Fly(P:Program)(w:World)(outer:List Env)(H:Hp)(s:Shared)(H':Hp)(C:Value)(e:Addr)(s':Shared):Prop where
 os:s'.os=s.os
 bare:AllBare s'.gens
 un:Un (frs outer) [] H H' s.heap s'.heap
 hok:HOk P w H' s'.heap
 he:H' e=none
 se:s.heap.get? e=none
 tr: ∃oe vs a0 T oT ts,s'.heap.get? e=some oe/\(oe.cls=C/\vs[0]? =some a0)/\oe.data= .fields vs/\vs[1]? =some (.ref T)/\T≠e/\s'.heap.get? T=some oT/\oT.data= .fields ts/\ts[3]? =some .none/\H' T=none/\s.heap.get? T=none
noncomputable def CX1(P:Program)(w:World):CXT:=fun outer H s E e s'=> ∃a C H',e= .ref a/\Fly P w outer H s H' C a s'/\E C none H'
noncomputable def bmV:List Value:=[.type "ValueError", .type "Exception", .type "BaseException", .type "object"]
noncomputable def zh5(X:Cx)(E:St->XK):Prop:= ∀(pins:List (Addr×Obj)) (σ:St) (H:Hp) (s:Shared) (e:Value) (s':Shared),Inv X pins σ H s->CX1 X.prog X.w X.stack H s (E σ) e s'->X.xe e s'
end L2
namespace L2
open PySem PySem.Spec PySem.Calls PyProof.Rows Builtin Builtin.ObjectAttr Builtin.Getset_descriptor
structure zjl(K:W.Frag)(C:Addr):Prop where
 ob:W.mroIn K C (.type "object")=some true
 ba:W.mroIn K C (.type "BaseException")=some true
 f1:W.findIn K (.ref C) "__getattribute__" =some (some (.builtin "BaseException.__getattribute__"))
 f2:W.findIn K (.ref C) "__getattr__" =some none
 f3:W.findIn K (.ref C) "__class__" =some (some (.builtin "object.__class__"))
end L2
namespace L2
open PySem PySem.Spec PySem.Calls PyProof.Rows
end L2
namespace L2
open PySem PySem.Spec PySem.SeqAt PySem.Calls PyProof.Rows
end L2
namespace L2
open PySem PySem.Spec PySem.Calls PyProof.Rows
structure zh6(k:Nat)(A:Around):Prop where
 dp:A.depth+3*k+5<recursionLimit
 un:A.units+16*k+200<cLine
 gd:A.guards=some []
structure FnOkH(P:Program)(w:World)(K:W.Frag)(mg:Str->Option Value)(base:Heap)(CX:CXT)(k:Nat)(f:Addr)(fd:FuncData)(ps:List Str)(sp:Sp):Prop where
 len: ∀vs H Q E,sp vs H Q E->vs.length=ps.length
 run: ∀(A:Around) (outer:List Env) (s:Shared) (H:Hp) (args:Args) (us:List Value) (vs:List V) (Q:VK) (E:XK),zh6 k A->zat P w K mg base A outer s H->BindsTo s fd args (ps.zip us)->Q9 vs us->sp vs H Q E->
  codeAny (model P w) A (.call (.ref f) args) (CR CX outer P w H s Q E) s
end L2
namespace L2
open PySem PySem.Spec PyProof.Rows
end L2
namespace Mi
open PySem L2 PySem.Spec
open PyProof.Rows (envOfC)
structure XP(X:Cx)(G:Gx)(F:Fy)(E:L2.St->XK):Prop where
 ps:zh5 X E
 xw: ∀c s',F.xw (.exc c) s'->∀ρ σv tv H C,F.tv0<:+tv->MR G F.toFx ρ H σv tv s'->G.cl c=some C->E σv (.ref C) none H
 no: ∀d s',F.xw d s'->∃c,d= .exc c
open Classical in
noncomputable def zil(r:RF)(ts:List D):M D:=fun s=>match r with
 | .ok t ts' n'=>if ts'=ts then .ok t {s with n:=n'} else
  if ∀l∈J7 s,l∈labsL ts->(findL l ts').isSome=true then .ok t {σ:=rpO (fun l=>findL l ts') s.σ,tm:=rpO (fun l=>findL l ts') s.tm,n:=n'} else .no
 | .ex d ts' n'=>if ts'=ts then .ex d {s with n:=n'} else
  if ∀l∈J7 s,l∈labsL ts->(findL l ts').isSome=true then .ex d {σ:=rpO (fun l=>findL l ts') s.σ,tm:=rpO (fun l=>findL l ts') s.tm,n:=n'} else .no
 | .no=> .no
noncomputable def spX(G:Gx)(np:Nat)(f:FM):Sp:=fun vs H Q E=>vs.length=np/\∃ρ n ts,RDs G ρ H ts vs/\(∀i j,i<n->j<n->ρ i=ρ j->i=j)/\(∀l,l<n->∃o,H (ρ l)=some o)/\(∀l∈labsL ts,l<n)/\KD G.K H/\match f ts n with
 | .ok t ts' n'=> ∀ρ' v H',z4f G ρ n ts vs H ρ' n' ts' H'->RD G ρ' H' t v->(∀l∈y3 t,l<n'/\(l<n->l∈labsL ts))->Q v H'
 | .ex d ts' n'=> ∃c,d= .exc c/\∀ρ' H' C,z4f G ρ n ts vs H ρ' n' ts' H'->G.cl c=some C->E (.ref C) none H'
 | .no=>False
noncomputable def zh7(k:Nat)(tm:List (Option D)):List (Option D):=tm.drop (tm.length -k)
end Mi
namespace Mi
open PySem L2 PySem.Spec
inductive Al(Φ:Addr->Prop):List (Str×Addr)->Prop
 |nil:Al Φ []
 |cons {c:Str} {a:Addr} {l:List (Str×Addr)}:Φ a->Al Φ l->Al Φ ((c,a)::l)
theorem Al.at{Φ:Addr->Prop}{l:List (Str×Addr)}(h:Al Φ l){c:Str}{a:Addr}(e:l.lookup c=some a):Φ a:=by
 induction h with
 |nil=>cases e
 | @cons c' a' l h _ ih=>
  rw[p4] at e
  cases q:c==c' with
  |true=>rw[q] at e;cases e;exact h
  |false=>rw[q] at e;exact ih e
inductive Al2{β:Type}(Φ:Addr->β->Prop):List (Str×Addr)->List (Str×β)->Prop
 |nil:Al2 Φ [] []
 |cons {c:Str} {a:Addr} {b:β} {l:List (Str×Addr)} {r:List (Str×β)}:Φ a b->Al2 Φ l r->Al2 Φ ((c,a)::l) ((c,b)::r)
 |skip {c:Str} {a:Addr} {l:List (Str×Addr)} {r:List (Str×β)}:r.lookup c=none->Al2 Φ l r->Al2 Φ ((c,a)::l) r
theorem Al2.at{β:Type}{Φ:Addr->β->Prop}{l:List (Str×Addr)}{r:List (Str×β)}(h:Al2 Φ l r): ∀{c:Str} {a:Addr} {b:β},l.lookup c=some a->r.lookup c=some b->Φ a b:=by
 induction h with
 |nil=>intro c a b e;cases e
 | @cons c' a' b' l r h _ ih=>
  intro c a b e e2
  rw[p4] at e e2
  cases q:c==c' with
  |true=>rw[q] at e e2;cases e;cases e2;exact h
  |false=>rw[q] at e e2;exact ih e e2
 | @skip c' a' l r hn _ ih=>
  intro c a b e e2
  rw[p4] at e
  cases q:c==c' with
  |true=>rw[beq_iff_eq] at q;subst q;rw[hn] at e2;cases e2
  |false=>rw[q] at e;exact ih e e2
theorem z1C: ∀{l:List (Str×Addr)} {c:Str} {a:Addr},l.lookup c=some a->a∈l.map (·.2)
 |(c',a')::l,c,a,e=>by
  rw[p4] at e
  cases q:c==c' with
  |true=>rw[q] at e;cases e;exact i3 ..
  |false=>rw[q] at e;exact b8 _ (z1C e)
theorem z3d: ∀{l:List (Str×Addr)},(l.map (·.2)).Nodup->∀{c c':Str} {a:Addr},l.lookup c=some a->l.lookup c'=some a->c=c'
 |(k,v)::l,nd,c,c',a,e,e'=>by
  rw[b7,B3] at nd
  rw[p4] at e e'
  cases q:c==k with
  |true=>
   rw[q] at e;cases e
   cases q':c'==k with
   |true=>rw[beq_iff_eq] at q q';rw[q,q']
   |false=>rw[q'] at e';exact absurd (z1C e') nd.1
  |false=>
   rw[q] at e
   cases q':c'==k with
   |true=>rw[q'] at e';cases e';exact absurd (z1C e) nd.1
   |false=>rw[q'] at e';exact z3d nd.2 e e'
noncomputable def NSq(K:W.Frag)(a:Addr):Prop:= ∃o,K.lookup a=some o/\∀its n,o.data≠ .seq its n
theorem z3z{K:W.Frag}{C:Addr}{bm:List Value}{i:String}(q:W.excIn K C bm i=true):NSq K C:=by
 unfold W.excIn at q
 split at q
 ·rename_i dd cd sl ho
  exact⟨_,ho,fun its n z=>by cases z⟩
 ·cases q
noncomputable def mkG(K:W.Frag)(l:List (Str×Addr))(nd:(l.map (·.2)).Nodup)(ok:Al (NSq K) l):Gx:=⟨K,fun c=>l.lookup c,fun _ _ _ h h'=>z3d nd h h',fun _ _ h=>ok.at h⟩
section
variable{X:Cx}{G:Gx}{F:Fy}{E:L2.St->XK}
structure FnV(X:Cx)(G:Gx)(np:Nat)(a:Addr)(f:FM):Prop where
 ex: ∃k fd ps,ps.length=np/\U3 X.prog X.w X.K X.mg X.base (CX1 X.prog X.w) k a fd ps (spX G np f)/\z0n k X.A/\W.keepIn X.K (.ref a)=true/\X9 X.K fd ps []
end
end Mi
namespace Mi
open PySem L2 PySem.Spec
open PyProof.Rows (envOfC)
end Mi
namespace Mi
open PySem L2 PySem.Spec
noncomputable def z4h:D->Option Key
 | .int i=>some (.inl i)
 | .str x=>some (.inr x)
 |_=>none
noncomputable def z1j:List D->Option (List Key)
 |[]=>some []
 |d::ds=>match z4h d with
  |some k=>match z1j ds with
   |some ks=>some (k::ks)
   |none=>none
  |none=>none
noncomputable def zdd:D->Option (Key⊕List Key)
 | .tup ds=>match z1j ds with|some ks=>some (.inr ks)|none=>none
 |d=>match z4h d with|some k=>some (.inl k)|none=>none
noncomputable def z4i:List D->Option NK
 |[]=>some []
 |d::ds=>match zdd d with
  |some k=>match z4i ds with
   |some ks=>some (k::ks)
   |none=>none
  |none=>none
noncomputable def tkey:D->Option NK
 | .tup ds=>z4i ds
 |_=>none
noncomputable def isT:List D->Bool
 | .non::_=>false
 |_=>true
section
variable{G:Gx}{ρ:Nat->Addr}{H:Hp}
theorem z5S{d:D}{v:V}{k:Key}(h:RD G ρ H d v)(e:z4h d=some k):v=kV k/\d=z3T k:=by
 cases d<;>erw[z4h] at e<;>cases e<;>(erw[RD] at h;exact⟨h,rfl⟩)
theorem z4j: ∀{ds:List D} {xs:List V} {ks:List Key},RDs G ρ H ds xs->z1j ds=some ks->xs=ks.map kV/\ds=ks.map z3T
 |[],xs,ks,h,e=>by erw[RDs] at h;erw[z1j] at e;cases e;exact⟨h,rfl⟩
 |d::ds,xs,ks,h,e=>by
  erw[RDs] at h
  obtain⟨x,r,rfl,h1,h2⟩:=h
  erw[z1j] at e
  cases e1:z4h d with
  |none=>rw[e1] at e;cases e
  |some k=>
   rw[e1] at e
   cases e2:z1j ds with
   |none=>erw[e2] at e;cases e
   |some ks'=>
    erw[e2] at e
    cases e
    obtain⟨a1,a2⟩:=z5S h1 e1
    obtain⟨b1,b2⟩:=z4j h2 e2
    rw[a1,b1,a2,b2]
    exact⟨rfl,rfl⟩
theorem zc8{d:D}{v:V}{k:Key⊕List Key}(h:RD G ρ H d v)(e:zdd d=some k):TKi H k v/\d=nkD k:=by
 have flat: ∀{d:D} {v:V},RD G ρ H d v->(match z4h d with|some k=>some (Sum.inl k:Key⊕List Key)|none=>none)=some k->TKi H k v/\d=nkD k:=by
  intro d v h e
  cases e1:z4h d with
  |none=>rw[e1] at e;cases e
  |some k'=>
   rw[e1] at e
   cases e
   obtain⟨a1,a2⟩:=z5S h e1
   exact⟨a1,a2⟩
 cases d with
 |tup ds=>
  erw[zdd] at e
  cases e1:z1j ds with
  |none=>rw[e1] at e;cases e
  |some ks=>
   rw[e1] at e
   cases e
   erw[RD] at h
   obtain⟨a,xs,e2,s,r⟩:=h
   obtain⟨b1,b2⟩:=z4j r e1
   exact⟨⟨a,e2,b1▸s⟩,by rw[b2];rfl⟩
 |_=>exact flat h e
theorem z5T: ∀{ds:List D} {xs:List V} {ks:NK},RDs G ρ H ds xs->z4i ds=some ks->Paired (TKi H) ks xs/\ds=ks.map nkD
 |[],xs,ks,h,e=>by erw[RDs] at h;erw[z4i] at e;cases e;subst h;exact⟨.nil,rfl⟩
 |d::ds,xs,ks,h,e=>by
  erw[RDs] at h
  obtain⟨x,r,rfl,h1,h2⟩:=h
  erw[z4i] at e
  cases e1:zdd d with
  |none=>rw[e1] at e;cases e
  |some k=>
   rw[e1] at e
   cases e2:z4i ds with
   |none=>erw[e2] at e;cases e
   |some ks'=>
    erw[e2] at e
    cases e
    obtain⟨a1,a2⟩:=zc8 h1 e1
    obtain⟨b1,b2⟩:=z5T h2 e2
    rw[a2,b2]
    exact⟨.cons a1 b1,rfl⟩
theorem z3A{t:D}{v:V}{k:NK}(h:RD G ρ H t v)(e:tkey t=some k): ∃b,v= .ref b/\TK H k b/\t=dkD k:=by
 cases t<;>erw[tkey] at e<;>try cases e
 erw[RD] at h
 obtain⟨a,xs,e1,s,r⟩:=h
 obtain⟨b1,b2⟩:=z5T r e
 exact⟨a,e1,⟨xs,s,b1⟩,by rw[b2];rfl⟩
theorem z3e: ∀k:List Key,z1j (k.map z3T)=some k
 |[]=>rfl
 |k::ks=>by
  erw[b7,z1j]
  have:z4h (z3T k)=some k:=by cases k<;>rfl
  rw[this,z3e ks]
theorem zc9(z:Key⊕List Key):zdd (nkD z)=some z:=by
 cases z with
 |inl k=>cases k<;>rfl
 |inr ks=>erw[nkD,zdd,z3e]
theorem z4k: ∀k:NK,z4i (k.map nkD)=some k
 |[]=>rfl
 |k::ks=>by erw[b7,z4i,zc9,z4k ks]
theorem Q8(k:NK):tkey (dkD k)=some k:=z4k k
theorem z53{ρ:Nat->Addr}: ∀k:List Key,RDs G ρ H (k.map z3T) (k.map kV)
 |[]=>by erw[l3,RDs]
 | .inl i::k=>by erw[b7,RDs];exact⟨_,_,rfl,by erw[z3T,RD];rfl,z53 k⟩
 | .inr i::k=>by erw[b7,RDs];exact⟨_,_,rfl,by erw[z3T,RD];rfl,z53 k⟩
theorem z87{ρ:Nat->Addr}: ∀{k:NK} {xs:List V},Paired (TKi H) k xs->RDs G ρ H (k.map nkD) xs
 |_,_, .nil=>by erw[l3,RDs]
 | .inl i::k,_, .cons a b=>by
  have e:=(show _=kV i from a)
  erw[b7,RDs]
  refine⟨_,_,rfl, ?_,z87 b⟩
  rw[e]
  cases i<;>(erw[nkD,z3T,RD];rfl)
 | .inr ks::k,_, .cons a b=>by
  obtain⟨c,e,hc⟩:=a
  erw[b7,RDs]
  refine⟨_,_,rfl, ?_,z87 b⟩
  erw[nkD,RD]
  exact⟨c,_,e,hc,z53 ks⟩
noncomputable def rdD:D->Option (List D×List D)
 | .dct _ ks vs=>if isT ks=true then some (ks,vs) else none
 | .fdc ks vs=>some (ks,vs)
 |_=>none
theorem RD.rdq{t:D}{ks vs:List D}{v:V}(h:RD G ρ H t v)(e:rdD t=some (ks,vs)): ∃a kvs,v= .ref a/\Rd H a (.dT kvs)/\ks=kvs.map (fun p:NK×V=>dkD p.1)/\RDs G ρ H vs (kvs.map (·.2))/\∀l∈labsL vs,l∈y3 t:=by
 cases t<;>erw[rdD] at e<;>try cases e
 ·rename_i l ks' vs'
  by_cases hT:isT ks'=true
  ·rw[if_pos hT] at e;cases e
   erw[RD] at h
   obtain⟨e,⟨kvs,s,s2,r⟩|⟨kvs,s,s2,r⟩⟩:=h
   ·rw[s2] at hT;cases hT
   ·exact⟨ρ l,kvs,e, .inl s,s2,r,fun j hj=>by erw[y3];exact b8 _ (b6 _ hj)⟩
  ·rw[if_neg hT] at e;cases e
 ·erw[RD] at h
  obtain⟨a,o,kvs,e,s,s2,r⟩:=h
  exact⟨a,kvs,e, .inr ⟨o,s⟩,s2,r,fun j hj=>by erw[y3];exact hj⟩
theorem RD.dctq{l:Nat}{ks vs:List D}{v:V}(h:RD G ρ H (.dct l ks vs) v)(hn:isT ks=true):v= .ref (ρ l)/\∃kvs:List (NK×V),H (ρ l)=some (.dT kvs)/\ks=kvs.map (fun p=>dkD p.1)/\RDs G ρ H vs (kvs.map (·.2)):=by
 erw[RD] at h
 obtain⟨e,⟨kvs,s,s2,r⟩|h⟩:=h
 ·rw[s2] at hn;cases hn
 ·exact⟨e,h⟩
noncomputable def findK:List D->List D->NK->Option D
 |d::ks,v::vs,k=>if tkey d=some k then some v else findK ks vs k
 |_,_,_=>none
theorem z0H{k:NK}: ∀(kvs:List (NK×V)) (vs:List D) (t:D),RDs G ρ H vs (kvs.map (·.2))->findK (kvs.map fun p=>dkD p.1) vs k=some t->∃v,valV kvs k=some v/\RD G ρ H t v/\t∈vs
 |[],_,_,_,e=>by erw[l3,findK] at e;cases e
 |p::kvs,[],_,_,e=>by erw[b7,findK] at e;cases e
 |p::kvs,w::vs,t,h,e=>by
  erw[b7,RDs] at h
  obtain⟨x,r,e1,h1,h2⟩:=h
  cases e1
  erw[b7,findK,Q8,Option.some.injEq] at e
  by_cases hk:p.1=k
  ·rw[if_pos hk] at e;cases e
   exact⟨_,z1d hk,h1,i3 ..⟩
  ·rw[if_neg hk] at e
   obtain⟨v,a,b,c⟩:=z0H kvs vs t h2 e
   exact⟨v,by rw[z0F hk];exact a,b,b8 _ c⟩
theorem z1D{k:NK}: ∀(kvs:List (NK×V)) (vs:List D),RDs G ρ H vs (kvs.map (·.2))->findK (kvs.map fun p=>dkD p.1) vs k=none->valV kvs k=none
 |[],_,_,_=>rfl
 |p::kvs,[],h,_=>by erw[b7,RDs] at h;cases h
 |p::kvs,w::vs,h,e=>by
  erw[b7,RDs] at h
  obtain⟨x,r,e1,h1,h2⟩:=h
  cases e1
  erw[b7,findK,Q8,Option.some.injEq] at e
  by_cases hk:p.1=k
  ·rw[if_pos hk] at e;cases e
  ·rw[if_neg hk] at e
   rw[z0F hk];exact z1D kvs vs h2 e
noncomputable def z88(ks:List D)(k:NK):List D:=if(ks.any fun d=>decide (tkey d=some k))=true then ks else ks++[dkD k]
noncomputable def z54(ks vs:List D)(k:NK)(v:D):List D:=if(ks.any fun d=>decide (tkey d=some k))=true then C9 (fun d w=>if tkey d=some k then v else w) ks vs else vs++[v]
theorem zeQ{k:NK}(kvs:List (NK×V)):((kvs.map fun p=>dkD p.1).any fun d=>decide (tkey d=some k))=kvs.any fun kv=>decide (kv.1=k):=by
 rw[T6]
 congr 1
 funext p
 erw[Function.comp,Q8,Option.some.injEq]
theorem z55{k:NK}{t:D}{v:V}(h:RD G ρ H t v): ∀(kvs:List (NK×V)) (vs:List D),RDs G ρ H vs (kvs.map (·.2))->
 RDs G ρ H (C9 (fun d w=>if tkey d=some k then t else w) (kvs.map fun p=>dkD p.1) vs) ((kvs.map (fun kv=>if kv.1=k then(kv.1,v) else kv)).map (·.2))
 |[],[],_=>by simp[RDs]
 |[],_::_,h=>by erw[l3,RDs] at h;obtain⟨_,_,e,_⟩:=h;cases e
 |p::kvs,[],h=>by erw[b7,RDs] at h;cases h
 |p::kvs,w::vs,h'=>by
  erw[b7,RDs] at h'
  obtain⟨x,r,e1,h1,h2⟩:=h'
  cases e1
  erw[b7,C0,RDs,Q8,Option.some.injEq]
  by_cases hk:p.1=k
  ·rw[if_pos hk,if_pos hk];exact⟨_,_,rfl,h,z55 h kvs vs h2⟩
  ·rw[if_neg hk,if_neg hk];exact⟨_,_,rfl,h1,z55 h kvs vs h2⟩
theorem zeR{k:NK}{t:D}{v:V}{kvs:List (NK×V)}{vs:List D}(h:RD G ρ H t v)(r:RDs G ρ H vs (kvs.map (·.2))):
 z88 (kvs.map fun p=>dkD p.1) k=(z4L kvs k v).map (fun p=>dkD p.1)/\RDs G ρ H (z54 (kvs.map fun p=>dkD p.1) vs k t) ((z4L kvs k v).map (·.2)):=by
 unfold z88 z54 z4L
 rw[zeQ]
 cases e:kvs.any fun kv=>decide (kv.1=k) with
 |true=>
  erw[if_true]
  refine⟨?_,z55 h kvs vs r⟩
  rw[F9]
  refine C7 fun p _=> ?_
  erw[Function.comp]
  split<;>rfl
 |false=>
  erw[s0,if_false,B6,b7,l3]
  exact⟨trivial,r.append (RDs.one h)⟩
end
section
variable{X:Cx}{G:Gx}{F:Fy}{a b e:Expr}{ma mb:M D}{pos:Pos}
noncomputable def zde(t o:D):M D:=match rdD o with
 |some (ks,vs)=>match tkey t with
  |some k=>rt (.bool (findK ks vs k).isSome)
  |none=>fl
 |none=>fl
noncomputable def z6F(t o:D):M D:=match rdD o with
 |some (ks,vs)=>match tkey t with
  |some k=>rt (.bool (!(findK ks vs k).isSome))
  |none=>fl
 |none=>fl
theorem zeS{ρ:Nat->Addr}{H:Hp}{k:NK}{kvs:List (NK×V)}{vs:List D}(r:RDs G ρ H vs (kvs.map (·.2))):(findK (kvs.map fun p=>dkD p.1) vs k).isSome=(valV kvs k).isSome:=by
 cases ef:findK (kvs.map fun p=>dkD p.1) vs k with
 |none=>rw[z1D kvs vs r ef];rfl
 |some d=>obtain⟨w,hv,_⟩:=z0H kvs vs d r ef;rw[hv];rfl
theorem zeT:z01 G F (fun y x H Q=> ∃a o,x= .ref a/\z9B H a y o/\Q (.bl o.isSome) H) zde:=by
 intro ρ s t t' v u H σv tv Q M W
 obtain⟨h1,h2⟩:=M.rd2
 unfold zde at W
 cases er:rdD t' with
 |none=>rw[er] at W;exact False.elim W
 |some p=>
  obtain⟨ks,vs⟩:=p
  rw[er] at W
  dsimp only at W
  cases ek:tkey t with
  |none=>rw[ek] at W;exact False.elim W
  |some k=>
   rw[ek] at W
   dsimp only at W
   obtain⟨a,kvs,rfl,hx,rfl,r,sub⟩:=h2.rdq er
   obtain⟨b,rfl,hb,_⟩:=z3A h1 ek
   refine⟨a,_,rfl, .inr ⟨kvs,k,b,hx,rfl,hb,rfl⟩, ?_⟩
   rw[<-zeS r]
   exact W.flat M.m rfl
theorem zca:z01 G F (fun y x H Q=> ∃a o,x= .ref a/\z9B H a y o/\Q (.bl (!o.isSome)) H) z6F:=by
 intro ρ s t t' v u H σv tv Q M W
 obtain⟨h1,h2⟩:=M.rd2
 unfold z6F at W
 cases er:rdD t' with
 |none=>rw[er] at W;exact False.elim W
 |some p=>
  obtain⟨ks,vs⟩:=p
  rw[er] at W
  dsimp only at W
  cases ek:tkey t with
  |none=>rw[ek] at W;exact False.elim W
  |some k=>
   rw[ek] at W
   dsimp only at W
   obtain⟨a,kvs,rfl,hx,rfl,r,sub⟩:=h2.rdq er
   obtain⟨b,rfl,hb,_⟩:=z3A h1 ek
   refine⟨a,_,rfl, .inr ⟨kvs,k,b,hx,rfl,hb,rfl⟩, ?_⟩
   rw[<-zeS r]
   exact W.flat M.m rfl
theorem zeU(hu:X.A.units+64<cLine):OpR X (compareOp .In) (fun y x H Q=> ∃a o,x= .ref a/\z9B H a y o/\Q (.bl o.isSome) H):=by
 intro pins s σ H y x iv u Q I ry rx h
 obtain⟨a,o,rfl,g,q⟩:=h
 obtain rfl:u=Value.ref a:=rx
 exact ziK (show X.A.units+2<cLine by lia) I g ry fun s3 I3=>⟨.bl o.isSome,H,I3,rfl,q⟩
theorem zcb(hu:X.A.units+64<cLine):OpR X (compareOp .NotIn) (fun y x H Q=> ∃a o,x= .ref a/\z9B H a y o/\Q (.bl (!o.isSome)) H):=by
 intro pins s σ H y x iv u Q I ry rx h
 obtain⟨a,o,rfl,g,q⟩:=h
 obtain rfl:u=Value.ref a:=rx
 exact zbF (show X.A.units+2<cLine by lia) I g ry fun s3 I3=>⟨.bl (!o.isSome),H,I3,rfl,q⟩
theorem zeV(hu:X.A.units+64<cLine):Cm X G F .In zde:=⟨_,zeU hu,zeT⟩
theorem zcc(hu:X.A.units+64<cLine):Cm X G F .NotIn z6F:=⟨_,zcb hu,zca⟩
noncomputable def z56:M D:=fun s=> .ok (.dct s.n [] []) s.nxt
theorem se_dnew(hk:X.K=G.K):SE X G F (.Dict [] [] pos) z56:=
 PE.imp hk z9D fun σ H Q ⟨tv,hs,ρ,s,M,W⟩ p hp k=>by
  refine wM.out (ρ:=ext ρ s.n p) W (M.new hp k) ?_ fun l hl=> ?_
  ·erw[RD]
   rw[j5]
   exact⟨rfl, .inr ⟨[],y9,rfl,by simp[RDs]⟩⟩
  ·erw[y3,labsL,h9,i4] at hl
   rw[hl]
   exact⟨B1 _,by rw[j5];exact .inr (M.fresh0 hp)⟩
noncomputable def z2s(o i v:D):MS:=fun s=>match o with
 | .dct l ks vs=>match tkey i with
  |some k=>if isT ks=true/\ks.length<sizeLine/\y3 v=[]/\labsL vs=[] then .nx (s.put l (.dct l (z88 ks k) (z54 ks vs k v))) else .no
  |none=> .no
 |_=> .no
theorem z57(k:NK):y3 (dkD k)=[]:=by
 have h: ∀k:NK,labsL (k.map nkD)=[]:=fun k=>by
  induction k with
  |nil=>rfl
  |cons z k ih=>erw[b7,labsL,z50,ih,h9]
 erw[dkD,y3,h]
theorem z3B: ∀kvs:List (NK×V),labsL (kvs.map fun p=>dkD p.1)=[]
 |[]=>rfl
 |p::kvs=>by
  have e:y3 (dkD p.1)=[]:=z57 p.1
  erw[b7,labsL,e,z3B kvs];rfl
theorem z2t: ∀{ds:List D},(∀d∈ds,y3 d=[])->labsL ds=[]
 |[],_=>rfl
 |d::ds,h=>by erw[labsL,h d (i3 ..),z2t fun x hx=>h x (b8 _ hx)];rfl
theorem z4l{ds:List D}(h:labsL ds=[]): ∀d∈ds,y3 d=[]:=fun d hd=>by
 cases e:y3 d with
 |nil=>rfl
 |cons l r=>exact absurd (labsL_mem hd l (by rw[e];exact i3 ..)) (by rw[h];exact A4)
theorem z5U{ks vs:List D}{k:NK}{v:D}(hv:y3 v=[])(h:labsL vs=[]):labsL (z54 ks vs k v)=[]:=by
 have h':=z4l h
 unfold z54
 split
 ·refine z2t fun d hd=> ?_
  obtain⟨i,hi,e⟩:=List.getElem_of_mem hd
  rw[List.getElem_zipWith] at e
  subst e
  split
  ·exact hv
  ·exact h' _ (p9 _)
 ·refine z2t fun d hd=> ?_
  rcases c9.mp hd with q|q
  ·exact h' d q
  ·rw[i4.mp q];exact hv
theorem zcd{ρ:Nat->Addr}{s:Stt}{t1 t2 t3:D}{v o i:V}{H:Hp}{σv tv:List (Option V)}{Dd:z5v}(M:MRL G F.toFx ρ H σv tv s [t1,t2,t3] [v,o,i])(W:wS G F tv (z2s t2 t3 t1 s) Dd): ∃a H4,o= .ref a/\zd5 H a i v H4/\Dd.nx σv H4:=by
 have h:=M.rd
 erw[RDs] at h
 obtain⟨_,_,e,h1,_,_,e2,h2,_,_,e3,h3,_⟩:=h
 cases e;cases e2;cases e3
 have b2:LB F.toFx ρ s.n (y3 t2):=fun l h=>M.lb l (by erw[labsL];exact b6 _ (b9 _ h))
 unfold z2s at W
 cases t2 with
 |dct l ks vs=>
  dsimp only at W
  cases ek:tkey t3 with
  |none=>rw[ek] at W;exact False.elim W
  |some k=>
   rw[ek] at W
   dsimp only at W
   by_cases hc:isT ks=true/\ks.length<sizeLine/\y3 t1=[]/\labsL vs=[]
   ·rw[if_pos hc] at W
    obtain⟨hT,hz,hv,hvs⟩:=hc
    obtain⟨rfl,kvs,hx,rfl,r⟩:=h2.dctq hT
    obtain⟨b,rfl,hb,_⟩:=z3A h3 ek
    have bl:=b2 l (by erw[y3];exact i3 ..)
    have st:G2 H (upd H (ρ l) (.dT (z4L kvs k v))):=
     ⟨fun b ys q=>by rw[y6 (z0L q hx (by intro z;cases z))];exact q,fun b o u q=>by rw[y6 (z0L q hx (by intro z;cases z))];exact q⟩
    have pr:=zeR (k:=k) h1 r
    refine⟨ρ l,_,rfl,zd5.t hx hb (by simpa using hz),W ρ σv _ (M.m.put2 bl.1 bl.2 st (z5R M.m.kd hx) ?_ fun j hj=> ?_)⟩
    ·erw[RD]
     refine⟨trivial, .inr ⟨z4L kvs k v,y9,pr.1, ?_⟩⟩
     exact RDs.stay st _ _ pr.2 fun j hj=>by rw[z5U hv hvs] at hj;cases hj
    ·erw[y3,pr.1,z3B,z5U hv hvs,h9,i4] at hj
     rw[hj];exact bl
   ·rw[if_neg hc] at W;exact False.elim W
 |_=>exact False.elim W
theorem ss_dput{ob ix:Expr}{pos tpos:Pos}{mo mi me:M D}(hu:X.A.units+64<cLine)(he:SE X G F e me)(ho:SE X G F ob mo)(hi:SE X G F ix mi)(hs:swapsWith e (some (.Subscript ob ix tpos)) pos.line X.env=pure false:=by rfl):
 SS X G F (.Assign [.Subscript ob ix tpos] e pos) (z82 me mo mi z2s):=by
 refine PS.imp0 (zbI (show X.A.units+2<cLine by lia) ho hi he hs) fun Dd σ H ⟨tv,h⟩=> ?_
 exact(z83 h).mono fun v H1 h1=>h1.mono fun o H2 h2=>h2.mono fun i H3 ⟨ρ,s,t1,t2,t3,M,W⟩=>zcd M W
end
end Mi
namespace Mi
open PySem L2
end Mi
namespace PySem
end PySem
namespace L2
open PySem PySem.Spec PyProof.Rows
end L2
namespace Mi
open PySem L2 PySem.Spec
section
variable{X:Cx}{G:Gx}{F:Fy}{a b e:Expr}{ma mb:M D}{pos:Pos}
theorem ss_setN{i:Nat}{x:Str}{p:Pos}{m:M D}(hN:X.N.Nodup)(hi:X.N[i]? =some x)(hx:Loc X.env.scope x)(hf:X.fn x=true\/X.env.scope.names.lookup x=some .local)(he:SE X G F e m)(hs:swapsWith e (some (.Name x p)) pos.line X.env=pure false:=by rfl):SS X G F (.Assign [.Name x p] e pos) (U0 (.nm i) m):=
 ss_set (fun{te} h=>z1M hN hi hx h hs hf) he
end
section
variable{G:Gx}{ρ:Nat->Addr}{H:Hp}
noncomputable def zaI:List Str->List D->Str->Option D
 |n::ns,v::vs,f=>if n=f then some v else zaI ns vs f
 |_,_,_=>none
theorem z89{f:Str}: ∀{fs:List (Str×V)} {vs:List D} {d:D},RDs G ρ H vs (fs.map (·.2))->zaI (fs.map (·.1)) vs f=some d->∃v,fs.lookup f=some v/\RD G ρ H d v/\d∈vs
 |[],vs,d,_,e=>by cases vs<;>simp[zaI] at e
 |(g,x)::fs,[],d,_,e=>by simp[zaI] at e
 |(g,x)::fs,w::vs,d,r,e=>by
  erw[b7,RDs] at r
  obtain⟨y,q,e1,h1,h2⟩:=r
  cases e1
  erw[b7,zaI] at e
  by_cases hg:g=f
  ·rw[if_pos hg] at e;cases e
   exact⟨x,by simp[B7,hg],h1,i3 ..⟩
  ·rw[if_neg hg] at e
   obtain⟨v,a,b,c⟩:=z89 h2 e
   refine⟨v, ?_,b,b8 _ c⟩
   have:(f==g)=false:=by simpa using fun z:f=g=>hg z.symm
   simp[B7,this,a]
noncomputable def z58:List Str->List D->Str->D->List Str×List D
 |n::ns,v::vs,f,d=>if n=f then(n::ns,d::vs) else((n::(z58 ns vs f d).1),(v::(z58 ns vs f d).2))
 |_,_,f,d=>([f],[d])
theorem z8a{f:Str}{d:D}{v:V}(hd:RD G ρ H d v): ∀{fs:List (Str×V)} {vs:List D},RDs G ρ H vs (fs.map (·.2))->(z58 (fs.map (·.1)) vs f d).1=(z34 f v fs).map (·.1)/\RDs G ρ H (z58 (fs.map (·.1)) vs f d).2 ((z34 f v fs).map (·.2))
 |[],vs,r=>by
  erw[l3,z58,z34,b7,true_and]
  exact RDs.one hd
 |(g,x)::fs,[],r=>by erw[b7,RDs] at r;cases r
 |(g,x)::fs,w::vs,r=>by
  erw[b7,RDs] at r
  obtain⟨y,q,e1,h1,h2⟩:=r
  cases e1
  erw[b7,z58,z34]
  by_cases hg:g=f
  ·rw[if_pos hg,if_pos hg]
   exact⟨rfl,by erw[b7,RDs];exact⟨_,_,rfl,hd,h2⟩⟩
  ·rw[if_neg hg,if_neg hg]
   obtain⟨a,b⟩:=z8a (f:=f) hd h2
   exact⟨by erw[b7,a],by erw[b7,RDs];exact⟨_,_,rfl,h1,b⟩⟩
theorem z5V{f:Str}{d:D}: ∀{ns:List Str} {vs:List D} {e:D},e∈(z58 ns vs f d).2->e∈vs\/e=d
 |[],vs,e,h=>by erw[z58,i4] at h;exact .inr h
 |n::ns,[],e,h=>by erw[z58,i4] at h;exact .inr h
 |n::ns,v::vs,e,h=>by
  erw[z58] at h
  split at h
  ·rcases i5.mp h with z|z
   ·exact .inr z
   ·exact .inl (b8 _ z)
  ·rcases i5.mp h with z|z
   ·exact .inl (z▸i3 ..)
   ·rcases z5V z with z|z
    ·exact .inl (b8 _ z)
    ·exact .inr z
end
noncomputable def zdf(f:Str)(ok:Str->Bool):D->M D
 | .obj _ c ns vs=>fun s=>if ok c then(match zaI ns vs f with|some d=> .ok d s|none=> .no) else .no
 |_=>fl
noncomputable def z9a(m:M D)(f:Str)(ok:Str->Bool):M D:=bd m (zdf f ok)
section
variable{X:Cx}{G:Gx}{F:Fy}{e o value:Expr}{pos:Pos}
theorem se_fld{f:Str}{ok:Str->Bool}{m:M D}(he:SE X G F e m)(hc: ∀c C,G.cl c=some C->ok c=true->Cls X.K C/\V7 X.K C f)(hb:attributeBase e f X.env (eval e X.env)=eval e X.env:=by rfl):SE X G F (.Attribute e f pos) (z9a m f ok):=by
 refine PE.imp0 (zdJ he hb) fun σ H Q ⟨tv,h⟩=>⟨tv,(z4Y h).mono fun v H1 ⟨ρ1,s1,t,M1,W⟩=> ?_⟩
 have hr:=M1.rd1
 cases t with
 |obj l c ns vs=>
  erw[zdf] at W
  split at W
  ·rename_i hok
   erw[RD] at hr
   obtain⟨rfl,C,dx,fs,hC,hH,rfl,r⟩:=hr
   cases ef:zaI (fs.map (·.1)) vs f with
   |none=>erw[ef] at W;exact False.elim W
   |some d=>
    erw[ef] at W
    obtain⟨v,lk,rd,mem⟩:=z89 r ef
    refine⟨_,C,dx,fs,v,rfl,hH,(hc c C hC hok).1,(hc c C hC hok).2,lk,W.out M1.m rd fun j hj=>M1.lb j ?_⟩
    erw[labsL,y3,h9]
    exact b8 _ (labsL_mem mem j hj)
  ·exact False.elim W
 |_=>exact False.elim W
end
section
variable{G:Gx}{F:Fy}{ρ:Nat->Addr}{H:Hp}{σv tv:List (Option V)}{s:Stt}{es:List D}{v:V}{l:Nat}{c:Str}{ns:List Str}{C dx:Addr}{fs fs':List (Str×V)}
theorem z9X{ds:List D}(M:MR G F.toFx ρ H σv tv s)(h:RD G ρ H (.obj l c ns ds) v)(lb: ∀j∈y3 (.obj l c ns ds),j<s.n):l∉labsL ds:=fun hl=>by
 have h0:=h
 erw[RD] at h0
 obtain⟨rfl,C,dx,fs,_,_,_,r⟩:=h0
 have:=findL_some l ds _ r hl
 cases e:findL l ds with
 |none=>rw[e] at this;cases this
 |some d=>
  obtain⟨q1,q2⟩:=findL_rd l ds _ d r e
  have e2:=RD.uniq M.kd M.inj _ _ _ q1 h (fun j hj=>lb j (by erw[y3];exact b8 _ (q2 j hj))) lb
  have e3:=findL_sz l ds d e
  rw[e2] at e3
  erw[sz] at e3
  lia
theorem z3f{o':HO}{a:Addr}(e:H a=some (.ins C dx fs)):G2 H (upd H a o'):=
 ⟨fun b ys q=>by rw[y6 (z0L q e (by intro z;cases z))];exact q,fun b o u q=>by rw[y6 (z0L q e (by intro z;cases z))];exact q⟩
theorem MR.putO(M:MR G F.toFx ρ H σv tv s)(hl:H (ρ l)=some (.ins C dx fs))(hC:G.cl c=some C)(ln:l<s.n)(ow:F.A0 (ρ l)\/F.H0 (ρ l)=none)(en:ns=fs'.map (·.1))(r:RDs G ρ H es (fs'.map (·.2)))(lb:LB F.toFx ρ s.n (labsL es))(ne:l∉labsL es):
 MR G F.toFx ρ (upd H (ρ l) (.ins C dx fs')) σv tv (s.put l (.obj l c ns es)):=by
 refine M.put2 ln ow (z3f hl) (z5R M.kd hl) ?_ fun j hj=> ?_
 ·erw[RD]
  exact⟨trivial,C,dx,fs',hC,y9,en,RDs.upd (a:=0) (z3f hl) M.inj ln r fun j hj=>⟨(lb j hj).1,fun z=>ne (z▸hj)⟩⟩
 ·erw[y3] at hj
  rcases i5.mp hj with q|q
  ·rw[q];exact⟨ln,ow⟩
  ·exact lb j q
end
noncomputable def z6G(f:Str)(ok:Str->Bool)(o v:D):MS:=fun s=>match o with
 | .obj l c ns vs=>if ok c=true/\ns.length<1000/\l∉y3 v then .nx (s.put l (.obj l c (z58 ns vs f v).1 (z58 ns vs f v).2)) else .no
 |_=> .no
noncomputable def z9Y(me mo:M D)(f:Str)(ok:Str->Bool):MS:=z0W me fun v=>z0W (psh v) fun _=>z0W mo fun o=>z0W pop fun v'=>z6G f ok o v'
section
variable{X:Cx}{G:Gx}{F:Fy}{e o value:Expr}{pos pos':Pos}
theorem ss_fld{f:Str}{ok:Str->Bool}{me mo:M D}(ho:SE X G F o mo)(he:SE X G F value me)(hc: ∀c C,G.cl c=some C->ok c=true->Cls X.K C/\V7 X.K C f)(hs:swapsWith value (some (.Attribute o f pos')) pos.line X.env=pure false:=by rfl):SS X G F (.Assign [.Attribute o f pos'] value pos) (z9Y me mo f ok):=by
 refine PS.imp0 (zdK ho he hs) fun Dd σ H ⟨tv,h⟩=>⟨tv,(z02 h).mono fun v H1 ⟨ρ1,s1,t,M1,W⟩=> ?_⟩
 refine⟨some v::tv,z7L h.1,ρ1,s1.psh t,M1.push, ?_⟩
 erw[z0W,psh] at W
 cases e1:mo (s1.psh t) with
 |ex d s2=>erw[e1] at W;exact W
 |no=>erw[e1] at W;exact W
 |ok ob s2=>
  erw[e1,pop] at W
  intro ρ2 u H2 M2
  cases e3:s2.tm with
  |nil=>erw[e3] at W;exact False.elim W
  |cons o3 r3=>
   cases o3 with
   |none=>erw[e3] at W;exact False.elim W
   |some x3=>
    erw[e3] at W
    have M4:=M2.down e3
    have h:=M4.rd
    erw[RDs] at h
    obtain⟨_,_,e,h1,_,_,e2,h2,_⟩:=h
    cases e;cases e2
    have b1:LB F.toFx ρ2 s2.n (y3 x3):=fun l h=>M4.lb l (by erw[labsL];exact b9 _ h)
    have b2:LB F.toFx ρ2 s2.n (y3 ob):=fun l h=>M4.lb l (by erw[labsL,h9];exact b6 _ h)
    cases ob with
    |obj l c ns vs=>
     erw[z6G] at W
     split at W
     ·rename_i hq
      have h2':=h2
      erw[RD] at h2
      obtain⟨rfl,C,dx,fs,hC,hH,rfl,r⟩:=h2
      have ns:=z9X M4.m h2' fun j hj=>(b2 j hj).1
      have bl:=b2 l (by erw[y3];exact i3 ..)
      obtain⟨p1,p2⟩:=z8a (f:=f) h1 r
      have mm: ∀q,q∈labsL (z58 (fs.map (·.1)) vs f x3).2->q∈labsL vs\/q∈y3 x3:=fun q hq=>by
       obtain⟨d,h1,h2⟩:=G8 hq
       rcases z5V h1 with z|z
       ·exact .inl (labsL_mem z q h2)
       ·subst z;exact .inr h2
      refine⟨_,C,dx,fs,rfl,hH,(hc c C hC hq.1).1,(hc c C hC hq.1).2,by simpa using hq.2.1,W ρ2 σ _ (M4.m.putO hH hC bl.1 bl.2 p1 p2 (fun q hq=> ?_) fun z=> ?_)⟩
      ·rcases mm q hq with z|z
       ·exact b2 q (by erw[y3];exact b8 _ z)
       ·exact b1 q z
      ·rcases mm l z with z|z
       ·exact ns z
       ·exact hq.2.2 z
     ·exact False.elim W
    |_=>exact False.elim W
end
noncomputable def objC(cn m:Str):D->Bool
 | .obj _ c ns _=>c==cn&& !(ns.contains m)
 |_=>false
noncomputable def z9Z(f:FM)(ms:List (M D))(x:D):M D:=bd (psh x) fun _=>bd (Z6 ms) fun ys=>bd pop fun x' s=>z0N (f (x'::ys) s.n) (x'::ys) s
noncomputable def z2u(cn m:Str)(f:FM)(mo:M D)(ms:List (M D)):M D:=bd mo fun x=>if objC cn m x then z9Z f ms x else fl
theorem z4m{m:Str}: ∀{fs:List (Str×V)},(fs.map (·.1)).contains m=false->fs.lookup m=none
 |[],_=>rfl
 |(g,x)::fs,h=>by
  erw[b7,P6,Bool.or_eq_false_iff] at h
  erw[B7,h.1]
  exact z4m h.2
section
variable{X:Cx}{G:Gx}{F:Fy}{CX:CXT}{k:Nat}{fa C:Addr}{fd:FuncData}{ps:List Str}{E:XK}{f:FM}{cn m:Str}{mo:M D}{ms:List (M D)}{o e:Expr}{es:List Expr}{pos apos:Pos}{pl:Sem Bool}
theorem z8b{σ:L2.St}{H:Hp}{Q:VK}(hC:G.cl cn=some C)(hln:ms.length+1=ps.length)(h:tM G F (z2u cn m f mo ms) σ H Q):
 zbu C m (spM G ps.length f) [] E (tM G F mo) (tML G F (Z6 ms)) σ H Q:=by
 obtain⟨tv,h⟩:=h
 refine⟨tv,(z4Y h).mono fun v H1 ⟨ρ1,s1,t,M1,W⟩=> ?_⟩
 have hr:=M1.rd1
 cases t with
 |obj l c ns vs=>
  split at W
  ·rename_i hq
   erw[objC,i6,beq_iff_eq,E5] at hq
   erw[RD] at hr
   obtain⟨rfl,C',dx,fs,hC',hH,rfl,r⟩:=hr
   have eC:C'=C:=by rw[hq.1,hC] at hC';exact(Option.some.inj hC').symm
   subst eC
   refine⟨_,dx,fs,rfl,hH,z4m hq.2,some (.ref (ρ1 l))::tv,z7L h.1,ρ1,s1.psh _,M1.push, ?_⟩
   erw[z9Z,bd,psh] at W
   cases e2:Z6 ms (s1.psh (.obj l c (fs.map (·.1)) vs)) with
   |ex d s2=>erw[e2] at W;exact W
   |no=>erw[e2] at W;exact W
   |ok ys s2=>
    erw[e2,pop] at W
    intro ρ2 us H2 M2
    cases e3:s2.tm with
    |nil=>erw[e3] at W;exact False.elim W
    |cons o3 r3=>
     cases o3 with
     |none=>erw[e3] at W;exact False.elim W
     |some x3=>
      erw[e3] at W
      rw[h9]
      refine z2n ?_ (M2.down e3) W
      rw[i9,<-M2.rd.length,z2o ms _ ys s2 e2,hln]
  ·exact wfl W
 |_=>exact False.elim W
theorem se_mth(hC:G.cl cn=some C)(c:Cls X.K C)(hm:z9s X.K C m fa)(Fn:U3 X.prog X.w X.K X.mg X.base CX k fa fd ps (spM G ps.length f))(hr:z0n k X.A)(hb:X9 X.K fd ps [])(hx:U4 CX X E)(ho:SE X G F o mo)(ha:SA X G F (e::es) (Z6 ms))(hln:ms.length+1=ps.length)
 (hst:starEach (e::es) X.env=(false,eval e X.env)::starEach es X.env:=by rfl) (hpl:(backTo pos (starEach es X.env)).any (·.1)=false:=by rfl)
 (ht:eval (.Call (.Attribute o m apos) (e::es) [] pos) X.env=(do
  let ov<-eval o X.env
  standAt apos.atName
  let(f,first)<-holding [ov] (getMethod ov m pl)
  callWith pos f first (backTo pos (starEach (e::es) X.env)) (backToKw pos (keywordEach [] X.env))):=by rfl):SE X G F (.Call (.Attribute o m apos) (e::es) [] pos) (z2u cn m f mo ms):=
 PE.imp0 (zbw ho c hm Fn hr hb .nil hx ha hst hpl ht) fun σ H Q h=>z8b hC hln h
theorem se_mth0(hC:G.cl cn=some C)(c:Cls X.K C)(hm:z9s X.K C m fa)(Fn:U3 X.prog X.w X.K X.mg X.base CX k fa fd ps (spM G ps.length f))(hr:z0n k X.A)(hb:X9 X.K fd ps [])(hx:U4 CX X E)(ho:SE X G F o mo)(hln:1=ps.length)
 (ht:eval (.Call (.Attribute o m apos) [] [] pos) X.env=(do
  let ov<-eval o X.env
  standAt apos.atName
  let(f,first)<-holding [ov] (getMethod ov m pl)
  callWith pos f first (backTo pos (starEach [] X.env)) (backToKw pos (keywordEach [] X.env))):=by rfl):SE X G F (.Call (.Attribute o m apos) [] [] pos) (z2u cn m f mo []):=
 PE.imp0 (z9t ho c hm Fn hr hb .nil hx ht) fun σ H Q h=>by
  obtain⟨tv,h⟩:=z8b (ps:=ps) (E:=E) hC (by simpa using hln) h
  refine⟨tv,h.mono fun v H1 ⟨a,dx,fs,e1,e2,e3,tv1,hs,ρ1,s1,M1,W⟩=>⟨a,dx,fs,e1,e2,e3, ?_⟩⟩
  exact W ρ1 [] H1 ⟨M1,rfl,fun l h=>by simp[labsL] at h⟩
end
noncomputable def zim(K:W.Frag)(np:Nat)(sp:Sp):Sp:=fun vs H Q E=>vs.length=np/\(KD K H->sp vs H Q E)
theorem zh8{P:Program}{w:World}{K:W.Frag}{mg:Str->Option Value}{base:Heap}{CX:CXT}{k:Nat}{fa:Addr}{fd:FuncData}{ps:List Str}{sp:Sp}(F:U3 P w K mg base CX k fa fd ps sp):U3 P w K mg base CX k fa fd ps (zim K ps.length sp):=
 ⟨fun _ _ _ _ h=>h.1,fun A outer s H args us vs Q E hr e0 hb hv h=>F.run A outer s H args us vs Q E hr e0 hb hv (h.2 fun a o e=>(e0.bs a o (e0.mod.kin a o e)).2)⟩
noncomputable def mkK(cn:Str)(f:FM)(ys:List D):M D:=fun s=>bd (fun s'=>z0N (f (.obj s.n cn [] []::ys) s'.n) (.obj s.n cn [] []::ys) s') (fun t=>match t with| .non=>pop|_=>fl) (s.nxt.psh (.obj s.n cn [] []))
noncomputable def z59(cn:Str)(f:FM)(ms:List (M D)):M D:=bd (Z6 ms) (mkK cn f)
section
variable{X:Cx}{G:Gx}{F:Fy}{CX:CXT}{k:Nat}{fa C:Addr}{fd:FuncData}{ps:List Str}{E:XK}{f:FM}{cn x:Str}{ms:List (M D)}{e:Expr}{es:List Expr}{pos p:Pos}
theorem za0{σ:L2.St}{H:Hp}{Q:VK}(hC:G.cl cn=some C)(hln:ms.length+1=ps.length)(h:tM G F (z59 cn f ms) σ H Q):
 zdN C (zim G.K ps.length (spM G ps.length f)) [] E (tML G F (Z6 ms)) σ H Q:=by
 obtain⟨tv,hs,ρ,s,M,W⟩:=h
 refine⟨tv,hs,ρ,s,M, ?_⟩
 unfold z59 bd at W
 cases e1:Z6 ms s with
 |ex d s1=>rw[e1] at W;exact W
 |no=>rw[e1] at W;exact W
 |ok ys s1=>
  rw[e1] at W
  intro ρ1 vs H1 M1 a dx ha hdx hne
  rw[h9]
  have hl:(V.ref a::vs).length=ps.length:=by rw[i9,<-M1.rd.length,z2o ms s ys s1 e1,hln]
  refine⟨hl,fun kd=> ?_⟩
  have sm:k9 H1 (upd H1 dx (.own a)):=k9.new _ hdx
  have ha':upd H1 dx (.own a) a=none:=by rw[y6 (fun z=>hne z.symm)];exact ha
  have sm2:k9 (upd H1 dx (.own a)) (upd (upd H1 dx (.own a)) a (.ins C dx [])):=k9.new _ ha'
  have kd1:KD G.K (upd H1 dx (.own a)):=fun b ob q=>by
   have:=kd b ob q
   by_cases z:b=a
   ·subst z;rw[y9] at this;cases this
   ·rw[y6 z] at this;exact this
  have ho:RD G (ext ρ1 s1.n a) (upd (upd H1 dx (.own a)) a (.ins C dx [])) (.obj s1.n cn [] []) (.ref a):=by
   erw[RD]
   exact⟨by rw[j5],C,dx,[],hC,by rw[j5];exact y9,rfl,by erw[l3,RDs]⟩
  have M2:=(M1.m.same sm kd1).newPush (t:= .obj s1.n cn [] []) ha' kd ho fun l hl=>by erw[y3,labsL,i4] at hl;exact .inr hl
  have ML:MRL G F.toFx (ext ρ1 s1.n a) (upd (upd H1 dx (.own a)) a (.ins C dx [])) σ (some (.ref a)::tv) (s1.nxt.psh (.obj s1.n cn [] [])) (.obj s1.n cn [] []::ys) (.ref a::vs):=by
   refine⟨M2, ?_,fun l hl=> ?_⟩
   ·erw[RDs]
    exact⟨_,_,rfl,ho,RDs.stay (G2.of fun b o q=>sm2 b o (sm b o q)) ys vs M1.rd fun l hl=>⟨W3 (M1.lb l hl).1,fun o q=>sm2 _ o (sm _ o q)⟩⟩
   ·erw[labsL,y3,o0,m5,i5] at hl
    rcases hl with rfl|hl
    ·exact⟨B1 _,by rw[j5];exact .inr (M1.m.fresh0 ha)⟩
    ·refine⟨C6 (M1.lb l hl).1, ?_⟩
     rw[W3 (M1.lb l hl).1];exact(M1.lb l hl).2
  refine z2n hl ML ?_
  have W:wM G F σ tv (mkK cn f ys s1) Q:=W
  unfold mkK bd at W
  dsimp only at W
  cases e2:z0N (f (.obj s1.n cn [] []::ys) (s1.nxt.psh (.obj s1.n cn [] [])).n) (.obj s1.n cn [] []::ys) (s1.nxt.psh (.obj s1.n cn [] [])) with
  |ex d s3=>rw[e2] at W;exact W
  |no=>rw[e2] at W;exact W
  |ok t s3=>
   rw[e2] at W
   intro ρ3 v H3 M3
   cases t with
   |non=>
    have hv:=M3.rd1
    erw[RD] at hv
    refine⟨hv, ?_⟩
    dsimp only[pop] at W
    cases e3:s3.tm with
    |nil=>erw[e3] at W;exact False.elim W
    |cons o3 r3=>
     cases o3 with
     |none=>erw[e3] at W;exact False.elim W
     |some x3=>
      erw[e3] at W
      have M4:=M3.down e3
      have h:=M4.rd
      erw[RDs] at h
      obtain⟨_,_,e,h1,_⟩:=h
      cases e
      exact W.out M4.m h1 fun l hl=>M4.lb l (by erw[labsL];exact b9 _ hl)
   |_=>exact False.elim W
theorem se_make0(hk:X.K=G.K)(hC:G.cl cn=some C)(Mk:Mk X.K C fa)(Fn:U3 X.prog X.w X.K X.mg X.base CX k fa fd ps (spM G ps.length f))(hr:z0n (k+1) X.A)(hg:Gl X x)(hm:X.mg x=some (.ref C))(hb:X9 X.K fd ps [])(hx:U4 CX X E)
 (hln:1=ps.length) (hdb:(x==("__debug__" :Str))=false:=by decide):SE X G F (.Call (.Name x p) [] [] pos) (z59 cn f []):=
 PE.imp0 (z9v Mk (zh8 Fn) hr hg hm hb .nil hx hdb) fun σ H Q h=>by
  rw[hk]
  obtain⟨tv,hs,ρ,s,M,W⟩:=za0 (ps:=ps) (E:=E) hC (by simpa using hln) h
  exact W ρ [] H ⟨M,rfl,fun l h=>by simp[labsL] at h⟩
end
theorem zce{K:W.Frag}{C:Addr}(c:Cls K C):NSq K C:=by
 have h:=c.hd
 unfold W.hasDictIn W.clsIn at h
 split at h
 ·rename_i ho
  exact⟨_,ho,fun its n z=>by cases z⟩
 ·cases h
noncomputable def stC(s:Stmt)(j:Nat):Stmt:=match s with
 | .ClassDef _ _ _ b .. =>b.getD j (.Pass ⟨0,0,0,0⟩)
 |s=>s
structure Dm(K:W.Frag)(C:Addr)(x qual:Str)(st:Stmt)(ps:List Str) where
 f:Addr
 d:FuncData
 F:Fun K x qual st f d
 b:X9 K d ps []
 h:z9s K C x f
end Mi
namespace Mi
open PySem L2 PySem.Spec PyProof.Rows
end Mi
namespace Mi
open PySem L2 PySem.Spec PySem.SeqAt PySem.Calls PyProof.Rows
end Mi
namespace Mi
open PySem L2 PySem.Spec PyProof.Rows
section
variable{X:Cx}{G:Gx}{F:Fy}
theorem RDs.at'{ρ:Nat->Addr}{H:Hp}: ∀{ds:List D} {xs:List V} {i:Nat} {d:D},RDs G ρ H ds xs->ds[i]? =some d->∃x,xs[i]? =some x/\RD G ρ H d x
 |[],xs,i,d,h,e=>by simp at e
 |d::ds,xs,0,d',h,e=>by erw[RDs] at h;obtain⟨x,q,rfl,h1,_⟩:=h;simp at e;subst e;exact⟨x,rfl,h1⟩
 |d::ds,xs,i+1,d',h,e=>by
  erw[RDs] at h
  obtain⟨x,q,rfl,h1,h2⟩:=h
  erw[List.getElem?_cons_succ] at e⊢
  exact RDs.at' h2 e
noncomputable def z8c:List D->M D
 |[.tup ds]=>if zh4 ds=true then rt (.str (er (.tup ds)).shown) else fl
 |[.lst l ds]=>if(plainL ds&&(er (.lst l ds)).showable&&decide ((er (.lst l ds)).depth<=60)&&decide ((er (.lst l ds)).shown.length<=sizeLine))=true then rt (.str (er (.lst l ds)).shown) else fl
 |_=>fl
theorem zeW:u1 G F (zh1 G.K) z8c:=by
 intro ρ s ts vs H σv tv Q M W
 unfold z8c at W
 split at W
 ·rename_i ds
  exact zeP ρ s [.tup ds] vs H σv tv Q M W
 ·rename_i l ds
  split at W
  ·rename_i hc
   erw[i6,decide_eq_true_eq] at hc
   obtain⟨⟨⟨c1,c2⟩,c3⟩,c4⟩:=hc
   obtain⟨v,rfl,h,_⟩:=M.one
   obtain⟨p,xs,rfl,s1,r1,_⟩:=id (h.lstq (ds:=ds) rfl)
   exact⟨p,er (.lst l ds),rfl,RD.dp _ _ h (by erw[plain];exact c1),z2r _,c2,c3,c4,fun _=>W.flat M.m rfl⟩
  ·exact wfl W
 ·exact wfl W
theorem z8d(hk:X.K=G.K)(hg:X.A.guards=some [])(hu:X.A.units+64<cLine):Cb X G F (.builtin "repr") z8c:=⟨_,hk▸z6B hg hu,zeW⟩
end
end Mi
namespace L2
open PySem PySem.Spec PyProof.Rows
end L2
namespace Mi
open PySem L2
noncomputable def sNo:MS:=fun _=> .no
section
variable{X:Cx}{G:Gx}{F:Fy}{st:Stmt}
theorem ss_no:SS X G F st sNo:=fun pins s σ H D I h=>by
 obtain⟨tv,hs,ρ,s,M,W⟩:=h
 exact False.elim W
end
end Mi
namespace Mi
open PySem L2 PySem.Spec PyProof.Rows PySem F P
section
variable{X:Cx}{G:Gx}{F:Fy}
theorem zeX:OpR X (compareOp .NotEq) (fun x y H Q=> ∃i j,x= .str i/\y= .str j/\Q (.bl (!(i==j))) H):=by
 intro pins s σ H x y v u Q I rx ry h
 obtain⟨i,j,rfl,rfl,q⟩:=h
 exact zgu pins s σ H _ _ v u Q I rx ry ⟨rfl,by rw[z7b];exact q⟩
noncomputable def neS:D->D->M D
 | .str i, .str j=>rt (.bool (!(i==j)))
 |_,_=>fl
theorem zeY:z01 G F (fun x y H Q=> ∃i j,x= .str i/\y= .str j/\Q (.bl (!(i==j))) H) neS:=by
 intro ρ s t t' v u H σv tv Q M W
 unfold neS at W
 split at W
 ·obtain⟨h1,h2⟩:=M.rd2
  erw[RD] at h1 h2
  exact⟨_,_,h1,h2,W.flat M.m rfl⟩
 ·exact wfl W
theorem zaJ:Cm X G F .NotEq neS:=⟨_,zeX,zeY⟩
end
end Mi
namespace L2
open PySem PySem.Spec PyProof.Rows
section
variable{X:Cx}
noncomputable def z5W(ds:List PyData)(i j:Nat):Bool:=(So.ltD (ds.getD i .none) (ds.getD j .none)).getD false
theorem z0t{h:Heap}: ∀{its:List Value} {ds:List PyData} {as:List Addr},ReadsAll h its ds as->∀i (hi:i<its.length),∃bs,Reads h its[i] (ds.getD i .none) bs/\ds.getD i .none∈ds
 |v::its,d::ds,_, .cons r rs,0,_=>⟨_,r,by simp⟩
 |v::its,d::ds,_, .cons r rs,i+1,hi=>by
  obtain⟨bs,h1,h2⟩:=z0t rs i (by simpa using hi)
  exact⟨bs,by simpa using h1,by simpa using Or.inr h2⟩
theorem z4n{ys:List V}{its:List Value}(h:Q9 ys its): ∀(q:List Nat),(∀i∈q,i<its.length)->Q9 (q.map fun i=>ys.getD i .non) (q.map fun i=>its.getD i Value.none)
 |[],_=> .nil
 |i::q,hq=>by
  refine .cons ?_ (z4n h q fun j hj=>hq j (b8 _ hj))
  have hi:=hq i i3
  clear hq
  induction h generalizing i with
  |nil=>simp at hi
  |cons r t ih=>
   cases i with
   |zero=>simpa using r
   |succ i=>simpa using ih i (by simpa using hi)
end
end L2
namespace Mi
open PySem L2 PySem.Spec PyProof.Rows
section
variable{X:Cx}{G:Gx}{F:Fy}
noncomputable def za1(ds:List D):List D:=(So.perm ds.length (z5W (erL ds))).map fun i=>ds.getD i .non
theorem RDs.len2{ρ:Nat->Addr}{H:Hp}: ∀{ds:List D} {xs:List V},RDs G ρ H ds xs->ds.length=xs.length
 |[],xs,h=>by erw[RDs] at h;subst h;rfl
 |d::ds,xs,h=>by erw[RDs] at h;obtain⟨x,q,rfl,_,h2⟩:=h;rw[i9,i9,RDs.len2 h2]
theorem RDs.perm{ρ:Nat->Addr}{H:Hp}{ds:List D}{xs:List V}(h:RDs G ρ H ds xs): ∀q:List Nat,(∀i∈q,i<ds.length)->RDs G ρ H (q.map fun i=>ds.getD i .non) (q.map fun i=>xs.getD i .non)
 |[],_=>by erw[l3,RDs]
 |i::q,hq=>by
  erw[b7,RDs]
  refine⟨_,_,rfl, ?_,RDs.perm h q fun j hj=>hq j (b8 _ hj)⟩
  have hi:=hq i i3
  obtain⟨x,ex,rx⟩:=RDs.at' (i:=i) (d:=ds.getD i .non) h (by simp[hi])
  rw[show xs.getD i .non=x by rw[List.getD_eq_getElem?_getD,ex];rfl]
  exact rx
theorem z4o{ds:List D}(h:labsL ds=[]): ∀q:List Nat,labsL (q.map fun i=>ds.getD i .non)=[]
 |[]=>by erw[l3,labsL]
 |i::q=>by
  erw[b7,labsL]
  rw[z4o h q,h9]
  have gen: ∀(ds:List D) (i:Nat),labsL ds=[]->y3 (ds.getD i .non)=[]:=by
   intro ds
   induction ds with
   |nil=>intro i _;simp[y3]
   |cons d ds ih=>
    intro i h
    erw[labsL,E1] at h
    cases i with
    |zero=>simpa using h.1
    |succ i=>simpa using ih i h.2
  exact gen ds i h
end
end Mi
namespace So
open PySem PySem.W PyProof.Rows
variable{n:Nat}{cmp:Nat->Nat->Bool}
theorem z8e(h2: ¬n<2)(h:n<64):perm n cmp=(ev (fun i j=>cmp (i %n) (j %n)) (kas_sort n)).toList:=by
 unfold perm
 rw[if_neg h2]
 have:=(z0s n fun i j=>cmp (i %n) (j %n)).choose_spec.1.2.2 (by lia) h
 exact congrArg Array.toList this
theorem perm_pm(h:n<64):(perm n cmp).Perm (A5 n):=by
 by_cases h2:n<2
 ·unfold perm;rw[if_pos h2]
 ·rw[z8e h2 h]
  have:=(z7A (cmp:=fun i j=>cmp (i %n) (j %n)) (n:=n) (by lia)).ev.1
  have:=this.toList
  simpa using this
theorem perm_srt(h:n<64)(o:Od cmp n): ∀i j,i<=j->j<n->cmp ((perm n cmp).getD j 0) ((perm n cmp).getD i 0)=false:=by
 intro i j hij hj
 have lt: ∀i,i<n->(perm n cmp).getD i 0<n:=fun i hi=>by
  have hl:i<(perm n cmp).length:=by rw[perm_len];exact hi
  have:(perm n cmp).getD i 0=(perm n cmp)[i]:=by simp[hl]
  rw[this]
  exact perm_lt _ (p9 hl)
 by_cases h2:n<2
 ·obtain rfl:i=j:=by lia
  exact o.r (lt _ hj)
 ·have o':Od (fun i j=>cmp (i %n) (j %n)) n:=⟨fun i j hi hj=>by
   rw[B2 hi,B2 hj];exact o.a i j hi hj,fun i j k hi hj hk=>by
   rw[B2 hi,B2 hj,B2 hk];exact o.t i j k hi hj hk⟩
  have s:=(z7A (cmp:=fun i j=>cmp (i %n) (j %n)) (n:=n) (by lia)).ev.2 o' i j hij hj
  have e: ∀i,(perm n cmp).getD i 0=(ev (fun i j=>cmp (i %n) (j %n)) (kas_sort n)).getD i 0:=fun i=>by
   rw[z8e h2 h,gd];simp
  dsimp only at s
  rw[<-e,<-e,B2 (lt j hj),B2 (lt i (by lia))] at s
  exact s
end So
namespace Mi
open PySem L2 PySem.Spec PyProof.Rows
theorem zcf(ds:List D):erL ds=ds.map er:=by
 induction ds with
 |nil=>rfl
 |cons d ds ih=>erw[erL,b7,ih]
theorem zcg{α κ:Type}[Ord κ][Std.TransOrd κ](f:α->D)(key:α->κ)(xs:List α)(h:xs.length<64)(hk: ∀a∈xs,∀b∈xs,So.ltD (er (f a)) (er (f b))=some ((compare (key a) (key b)).isLT)):
 ∃ys:List α,za1 (xs.map f)=ys.map f/\ys.Perm xs/\ys.Pairwise fun a b=>(compare (key a) (key b)).isLE=true:=by
 cases hx:xs with
 |nil=>exact⟨[],by simp[za1,So.perm], .refl _, .nil⟩
 |cons x0 r=>
  rw[<-hx]
  have h0:0<xs.length:=by rw[hx];simp
  have hc: ∀i j,i<xs.length->j<xs.length->z5W (erL (xs.map f)) i j=(compare (key (xs.getD i x0)) (key (xs.getD j x0))).isLT:=fun i j hi hj=>by
   have ei:xs.getD i x0=xs[i]:=by simp[hi]
   have ej:xs.getD j x0=xs[j]:=by simp[hj]
   rw[zcf,F9,ei,ej]
   unfold z5W
   erw[List.getD_eq_getElem?_getD,List.getElem?_map,List.getElem?_eq_getElem hi,List.getElem?_eq_getElem hj,r6,r8,Function.comp]
   rw[hk _ (p9 hi) _ (p9 hj)]
   rfl
  have o:So.Od (z5W (erL (xs.map f))) xs.length:=⟨fun i j hi hj e=>by
   rw[hc i j hi hj] at e
   rw[hc j i hj hi,Std.OrientedCmp.eq_swap (cmp:=compare)]
   revert e
   cases compare (key (xs.getD i x0)) (key (xs.getD j x0))<;>simp[Ordering.swap],fun i j k hi hj hk' e1 e2=>by
   rw[hc _ _ hi hj] at e1
   rw[hc _ _ hj hk'] at e2
   rw[hc _ _ hi hk']
   have nl: ∀a b:α,(compare (key a) (key b)).isLT=false↔(compare (key b) (key a)).isLE=true:=fun a b=>by
    rw[Std.OrientedCmp.eq_swap (cmp:=compare) (a:=key b)]
    cases compare (key a) (key b)<;>simp[Ordering.swap]
   rw[nl] at e1 e2⊢
   exact Std.TransCmp.isLE_trans e2 e1⟩
  have pl:(So.perm xs.length (z5W (erL (xs.map f)))).length=xs.length:=So.perm_len
  have pt:=So.perm_lt (n:=xs.length) (cmp:=z5W (erL (xs.map f)))
  have pp:=So.perm_pm (n:=xs.length) (cmp:=z5W (erL (xs.map f))) h
  have ps:=So.perm_srt (n:=xs.length) (cmp:=z5W (erL (xs.map f))) h o
  have en:(xs.map f).length=xs.length:=by simp
  unfold za1
  rw[en]
  generalize So.perm xs.length (z5W (erL (xs.map f)))=P at pl pt pp ps
  refine⟨P.map fun i=>xs.getD i x0, ?_, ?_, ?_⟩
  ·rw[F9]
   refine C7 fun i hi=> ?_
   have:=pt i hi
   simp[this]
  ·have e:(A5 xs.length).map (fun i=>xs.getD i x0)=xs:=by
    apply List.ext_getElem?
    intro i
    by_cases hi:i<xs.length
    ·simp[hi]
    ·simp[hi]
   have:=pp.map fun i=>xs.getD i x0
   rw[e] at this
   exact this
  ·rw[F0]
   intro i j hi hj hij
   erw[n9] at hi hj
   have q:=ps i j (by lia) (by lia)
   have gi:P.getD i 0=P[i]:=by simp[hi]
   have gj:P.getD j 0=P[j]:=by simp[hj]
   rw[gi,gj,hc _ _ (pt _ (p9 hj)) (pt _ (p9 hi))] at q
   erw[D1]
   rw[Std.OrientedCmp.eq_swap (cmp:=compare)]
   revert q
   cases compare (key (xs.getD P[j] x0)) (key (xs.getD P[i] x0))<;>simp[Ordering.swap]
end Mi
namespace L2
open PySem PySem.Spec PyProof.Rows
end L2
namespace Mi
open PySem L2 PySem.Spec PyProof.Rows
end Mi
namespace L2
open PySem PySem.Spec PyProof.Rows
end L2
namespace Mi
open PySem L2
section
variable{X:Cx}{G:Gx}{F:Fy}{a b tg:Expr}{pos:Pos}
noncomputable def zch(i:Nat)(ds es:List D):Option D:=match ds[i]?,es[i]? with
 |some d,some e=>some (.tup [d,e])
 |_,_=>none
theorem MRL.push2{ρ:Nat->Addr}{H:Hp}{σv tv:List (Option V)}{s:Stt}{t t':D}{v u:V}(M:MRL G F.toFx ρ H σv tv s [t,t'] [v,u]):MR G F.toFx ρ H σv (some u::some v::tv) ((s.psh t).psh t'):=by
 have M1:MRL G F.toFx ρ H σv tv s [t] [v]:=⟨M.m,RDs.one M.rd2.1,fun l h=>M.lb2.1 l (by simpa only[labsL,h9] using h)⟩
 exact MRL.push ⟨M1.push,RDs.one M.rd2.2,fun l h=>M.lb2.2 l (by simpa only[labsL,h9] using h)⟩
end
end Mi
namespace So
open PySem PySem.W PyProof.Rows PySem.SeqAt
end So
namespace L2
open PySem PySem.Spec PyProof.Rows
end L2
namespace Mi
open PySem L2 PySem.Spec PyProof.Rows
end Mi
namespace PySem
section
variable{prog:Program}{w:World}{A:Around}{E:Value->Shared->Prop}{s:Shared}
theorem z8f{d:Addr}{Q:Value->Shared->Prop}(hd:(d==sysModules)=false)(hT:s.TypeIs (.ref d) "dict")(hQ: ∀h',h'.IsItemsView s.heap.objs.size d->(∀b o,s.heap.get? b=some o->h'.get? b=some o)->Q (.ref s.heap.objs.size) {s with heap:=h'}):wpAny (model prog w) A (call (.builtin "dict.items") [.ref d]) Q E s:=by
 refine wpAny_call_entry F.slot_dict_items hT F.entry_dict_items ?_ (F.args_dict_items_1 _)
 unfold Builtin.«dict.items» Builtin.Dict.noArgs
 refine wpAny_bind (wpAny_bind (wpAny_notOrdered_dict hT (show wpAny _ _ (pure d) _ _ s from wpAny_pure ?_)))
 unfold Builtin.Dict.showsAll
 rw[if_neg (by rw[hd];exact l5)]
 exact wpAny_bind (wpAny_pure (wpAny_bind (wpAny_newObj_type (wpAny_pure ⟨_,rfl,hQ _ ⟨_,Heap.get?_push_size _ rfl,rfl,rfl⟩ fun _ _ q=>Heap.get?_push_of_some _ q⟩))))
theorem z8g{v d:Addr}{o:Obj}{es:Array DictEntry}{ep:Nat}{Q:Value->Shared->Prop}(hv:s.heap.IsItemsView v d)(ho:s.heap.get? d=some o)(hdat:o.data= .dict es ep)
 (hQ: ∀h',IsItemIter h' s.heap.objs.size d 0 es.size ep .none .none->(∀b o,s.heap.get? b=some o->h'.get? b=some o)->Q (.ref s.heap.objs.size) {s with heap:=h'}):wpAny (model prog w) A (pyIter (.ref v)) Q E s:=by
 obtain⟨ov,hov,hcv,hdv⟩:=id hv
 have hown:Builtin.Dict_items.ownsTuple "dict_itemiterator" =true:=by decide
 refine wpAny_pyIter_slot hv.typeIs F.slot_dict_items_iter (wpAny_call_entry F.slot_dict_items_iter hv.typeIs F.entry_dict_items_iter ?_ (F.args_dict_items_iter_1 _))
 unfold Builtin.«dict_items.__iter__» Builtin.Dict_items.dictOf Builtin.Dict_items.newIterator
 refine wpAny_bind (wpAny_pure (wpAny_bind (wpAny_bind (wpAny_field hov hdv (x:= .ref d) rfl ?_))))
 refine wpAny_pure (wpAny_bind (wpAny_bind (wpAny_dictEntries ho hdat (wpAny_bind (wpAny_dictEpoch ho hdat ?_)))))
 erw[hown,if_true]
 refine wpAny_newObj_type (wpAny_pure ?_) (by erw[sizeOk,Builtin.Dict_items.ownedTupleFields,i8,m8,i9,t9,sizeLine_eq];lia)
 refine⟨_,rfl, "dict_itemiterator",_,⟨_,Heap.get?_push_size _ rfl,rfl⟩,F.slot_dict_itemiterator_next.lookup,hQ _ ?_ fun _ _ q=>Heap.get?_push_of_some _ q⟩
 have:=Heap.get?_push_size s.heap (o:={cls:= .type "dict_itemiterator",data:= .fields #[.none, .bool false, .ref d, .int 0 0, .int es.size 0, .int ep 0, .none, .none]}) rfl
 unfold IsItemIter
 simpa[rawInt,Builtin.Dict_items.ownedTupleFields] using this
theorem z8h{it d:Addr}{i ep:Nat}{od:Obj}{es:Array DictEntry}{en:DictEntry}{ok ov:Value}{Q:Option Value->Shared->Prop}(hit:IsItemIter s.heap it d i es.size ep ok ov)(hod:s.heap.get? d=some od)(hdd:od.data= .dict es ep)(hx:es[i]? =some en)
 (hQ: ∀h',IsItemIterOut h' it d (i+1) es.size ep en.key en.val s.heap.objs.size->h'.get? s.heap.objs.size=some {cls:= .type "tuple",data:= .seq #[en.key,en.val]}->(∀b o,b≠it->s.heap.get? b=some o->h'.get? b=some o)->Q (some (.ref s.heap.objs.size)) {s with heap:=h'}):
 wpAny (model prog w) A (pyNext (.ref it)) Q E s:=by
 obtain⟨hp,g,dr,tk,os⟩:=s
 have hT:Shared.TypeIs ⟨hp,g,dr,tk,os⟩ (.ref it) "dict_itemiterator" :=⟨_,hit,rfl⟩
 have hown:Builtin.Dict_items.ownsTuple "dict_itemiterator" =true:=by decide
 have hlt:i<es.size:=by
  rcases T4 i es.size with h|h
  ·exact h
  ·simp[Array.getElem?_eq_none h] at hx
 have hen:es[i]=en:=by rw[Array.getElem?_eq_getElem hlt] at hx;exact Option.some.inj hx
 unfold pyNext
 refine wpAny_bind (wpAny_attempt (wpAny_callSpecial?_slot (name:=Str.ofString "__next__") hT F.slot_dict_itemiterator_next (wpAny_call_entry F.slot_dict_itemiterator_next hT F.entry_dict_itemiterator_next ?_ (F.args_dict_itemiterator_next_1 _))))
 refine wpAny_bind (wpAny_pure (wpAny_bind (wpAny_bind ?_)))
 first|refine wpAny_bind (wpAny_typeNameOfWhole_itemiter hT (wpAny_pure (wpAny_bind (wpAny_fieldsOf hit rfl ?_))))|refine wpAny_bind (wpAny_typeNameOf_itemiter hT (wpAny_pure (wpAny_bind (wpAny_fieldsOf hit rfl ?_))))
 erw[hown,if_true]
 show wpAny _ _ (if(Value.ref d==Value.none)=true then _ else _) _ _ _
 rw[if_neg (show ¬((Value.ref d==Value.none)=true) from l5)]
 refine wpAny_bind (wpAny_pure (wpAny_bind (wpAny_dictEntries hod hdd ?_)))
 rw[if_neg (by simp)]
 refine wpAny_bind (wpAny_pure (wpAny_bind (wpAny_dictEpoch hod hdd ?_)))
 rw[if_neg (by simp)]
 refine wpAny_pure ?_
 erw[show ¬((i:Int)<0) from by lia,if_false,B9,Array.getElem?_eq_getElem hlt,hen]
 refine wpAny_bind ?_
 first|refine wpAny_bind (wpAny_typeNameOfWhole_itemiter hT (wpAny_pure (wpAny_bind (wpAny_isOneOf_itemiter hT ?_))))|refine wpAny_bind (wpAny_typeNameOf_itemiter hT (wpAny_pure (wpAny_bind (wpAny_isOneOf_itemiter hT ?_))))
 show wpAny _ _ (setField (.ref it) 3 (rawInt ((i:Int)+1))>>=_) _ _ ⟨hp,g,dr,tk,os⟩
 refine wpAny_bind (wpAny_setField_rec hit (by simp) fun k1 f1 t1=> ?_)
 have t1:Heap.SameBut it hp k1:=t1
 have f1:IsItemIter k1 it d (i+1) es.size ep ok ov:=by
  have e:((i+1:Nat):Int)=(i:Int)+1:=by lia
  unfold IsItemIter;rw[e];simpa[rawInt] using f1
 have hT1:Shared.TypeIs ⟨k1,g,dr,tk,os⟩ (.ref it) "dict_itemiterator" :=⟨_,f1,rfl⟩
 refine wpAny_bind (wpAny_holding (wpAny_bind (wpAny_isOneOf_itemiter hT1 (wpAny_bind (wpAny_isOneOf_itemiter hT1 ?_)))))
 show wpAny _ _ (Builtin.Dict_items.pairFromOwner (.ref it) 6 en.key en.val) _ _ ⟨k1,g,dr,tk,os⟩
 unfold Builtin.Dict_items.pairFromOwner
 refine wpAny_bind (wpAny_newTuple ?_)
 have z1:k1.objs.size=hp.objs.size:=t1.1
 have hil:it<hp.objs.size:=Heap.lt_size hit
 have f2:IsItemIter (k1.push {cls:= .type "tuple",data:= .seq #[en.key,en.val]}) it d (i+1) es.size ep ok ov:=Heap.get?_push_of_some _ f1
 generalize hk2:k1.push {cls:= .type "tuple",data:= .seq #[en.key,en.val]}=k2 at f2
 have p2:k2.get? hp.objs.size=some {cls:= .type "tuple",data:= .seq #[en.key,en.val]}:=by rw[<-hk2,<-z1];exact Heap.get?_push_size _ rfl
 have o2: ∀b o,b≠it->hp.get? b=some o->k2.get? b=some o:=fun b o hb e=>by rw[<-hk2];exact Heap.get?_push_of_some _ (t1.extBut b o hb e)
 show wpAny _ _ (Builtin.Dict_items.ownedTupleIsFree (.ref it)>>=_) _ _ ⟨k2,g,dr,tk,os⟩
 rw[z1]
 unfold Builtin.Dict_items.ownedTupleIsFree
 refine wpAny_bind (wpAny_bind (wpAny_field f2 rfl (x:= .none) rfl (wpAny_pure ?_)))
 erw[if_true]
 refine wpAny_bind (wpAny_field f2 rfl (x:=ok) rfl (wpAny_bind (wpAny_field f2 rfl (x:=ov) rfl (wpAny_bind (wpAny_setField_rec f2 (by simp) fun k3 f3 t3=> ?_)))))
 have t3:Heap.SameBut it k2 k3:=t3
 have f3:IsItemIter k3 it d (i+1) es.size ep en.key ov:=f3
 refine wpAny_bind (wpAny_setField_rec f3 (by simp) fun k4 f4 t4=> ?_)
 have t4:Heap.SameBut it k3 k4:=t4
 have f4:IsItemIter k4 it d (i+1) es.size ep en.key en.val:=f4
 refine wpAny_bind (wpAny_setField_rec f4 (by simp) fun k5 f5 t5=> ?_)
 have t5:Heap.SameBut it k4 k5:=t5
 have f5:IsItemIterOut k5 it d (i+1) es.size ep en.key en.val hp.objs.size:=f5
 refine wpAny_bind (wpAny_setField_rec f5 (by simp) fun k6 f6 t6=> ?_)
 have t6:Heap.SameBut it k5 k6:=t6
 have f6:IsItemIterOut k6 it d (i+1) es.size ep en.key en.val hp.objs.size:=f6
 have on: ∀b o,b≠it->k2.get? b=some o->k6.get? b=some o:=fun b o hb e=>t6.extBut b o hb (t5.extBut b o hb (t4.extBut b o hb (t3.extBut b o hb e)))
 exact wpAny_bind (wpAny_letGo (wpAny_pure (wpAny_pure ⟨_,rfl,wpAny_pure (hQ k6 f6 (on _ _ (L9 hil) p2) fun b o hb e=>on b o hb (o2 b o hb e))⟩)))
theorem za2{it d:Addr}{i ep:Nat}{od:Obj}{es:Array DictEntry}{ok ov:Value}{Q:Option Value->Shared->Prop}(hh:A.handled=none)(hit:IsItemIter s.heap it d i es.size ep ok ov)(hod:s.heap.get? d=some od)(hdd:od.data= .dict es ep)(hge:es.size<=i)
 (hQ: ∀h',Heap.ExtBut it s.heap h'->Q none {s with heap:=h'}):wpAny (model prog w) A (pyNext (.ref it)) Q E s:=by
 have hT:s.TypeIs (.ref it) "dict_itemiterator" :=⟨_,hit,rfl⟩
 have hown:Builtin.Dict_items.ownsTuple "dict_itemiterator" =true:=by decide
 unfold pyNext
 refine wpAny_bind (wpAny_attempt (wpAny_callSpecial?_slot (name:=Str.ofString "__next__") hT F.slot_dict_itemiterator_next (wpAny_call_entry F.slot_dict_itemiterator_next hT F.entry_dict_itemiterator_next ?_ (F.args_dict_itemiterator_next_1 _))))
 refine wpAny_bind (wpAny_pure (wpAny_bind (wpAny_bind ?_)))
 first|refine wpAny_bind (wpAny_typeNameOfWhole_itemiter hT (wpAny_pure (wpAny_bind (wpAny_fieldsOf hit rfl ?_))))|refine wpAny_bind (wpAny_typeNameOf_itemiter hT (wpAny_pure (wpAny_bind (wpAny_fieldsOf hit rfl ?_))))
 erw[hown,if_true]
 show wpAny _ _ (if(Value.ref d==Value.none)=true then _ else _) _ _ s
 rw[if_neg (show ¬((Value.ref d==Value.none)=true) from l5)]
 refine wpAny_bind (wpAny_pure (wpAny_bind (wpAny_dictEntries hod hdd ?_)))
 rw[if_neg (by simp)]
 refine wpAny_bind (wpAny_pure (wpAny_bind (wpAny_dictEpoch hod hdd ?_)))
 rw[if_neg (by simp)]
 refine wpAny_pure ?_
 erw[show ¬((i:Int)<0) from by lia,if_false,B9,Array.getElem?_eq_none hge]
 refine wpAny_bind ?_
 first|refine wpAny_bind (wpAny_typeNameOfWhole_itemiter hT (wpAny_pure ?_))|refine wpAny_bind (wpAny_typeNameOf_itemiter hT (wpAny_pure ?_))
 show wpAny _ _ (setField (.ref it) 2 .none>>=_) _ _ s
 refine wpAny_bind (wpAny_setField hit rfl (by simp) ?_)
 show wpAny _ _ (newExc (.type "StopIteration") []>>=_) _ _ _
 erw[newExc,newTuple]
 refine wpAny_bind (wpAny_bind (wpAny_newObj_type (wpAny_bind (m:=firstArgMember _ _) (wpAny_of_eq (a:=Value.none) (by first|rfl|(erw[firstArgMember];rfl)) (wpAny_newObj_type ?_ (by size_fits)))) (by size_fits)))
 erw[raiseNew]
 refine wpAny_bind (wpAny_handled ?_)
 rw[show A.in1.handled=none from hh]
 refine wpAny_bind (wpAny_pure (wpAny_throw ?_))
 refine wpAny_bind (wpAny_isInstance (T:= "StopIteration") (b:=true) ⟨_,Heap.get?_push_size _ rfl,rfl⟩ isSubtype_stop (wpAny_pure (hQ _ ?_)))
 exact((Heap.SameBut.update ..).extBut.push _).push _
end
end PySem
namespace L2
open PySem PySem.Spec PyProof.Rows
noncomputable def zge(K:W.Frag)(a:Addr)(o:Obj)(kvs:List (NK×V)):It:=
 ⟨fun i H=>i<kvs.length/\H a=some (.frz o (.dT kvs)),fun i H x H'=> ∃p b k v,H p=none/\x= .ref p/\H'=upd H p (.tup [.ref b,v])/\kvs[i]? =some (k,v)/\TK H k b/\∀c ob,K.lookup c=some ob->H' c=none,fun i H=>kvs.length<=i/\H a=some (.frz o (.dT kvs))⟩
theorem z8i{P:Program}{w:World}{H:Hp}{h:Heap}{a:Addr}{o:Obj}{kvs:List (NK×V)}(ok:HOk P w H h)(e:H a=some (.frz o (.dT kvs))):
 h.get? a=some o/\∃es ep,o.data= .dict es ep/\es.size=kvs.length/\
  ∀(i:Nat) (k:NK) (v:V),kvs[i]? =some (k,v)->∃en b,es[i]? =some en/\en.key= .ref b/\TK H k b/\RelV v en.val:=by
 obtain⟨ho,z,y,xs,r,o',es,ep,e',c,d,l,nd⟩:=ok a _ e
 rw[ho] at e'
 cases e'
 have hl:kvs.length=xs.length:=Paired.length r
 have hs:es.size=xs.length:=size_of_entries l
 refine⟨ho,es,ep,d,by lia,fun i k v q=> ?_⟩
 obtain⟨⟨k',b,u⟩,q1,q2,q3,q4⟩:=Paired.get r i _ q
 have q2:k=k':=q2
 subst q2
 have hi:=entry_at l i
 rw[q1] at hi
 exact⟨_,b,hi,rfl,q3,q4⟩
theorem z8j{P:Program}{w:World}{K:W.Frag}{elts:List Expr}{x1:Nat}{tpos:Pos}(a it:Addr)(o:Obj)(es:Array DictEntry)(ep:Nat)(hd:o.data= .dict es ep)(kvs:List (NK×V)):
 zbi P w K (.Tuple elts x1 tpos) (zge K a o kvs) [it] it (fun i h=> ∃ok ov,IsItemIter h it a i es.size ep ok ov) where
 mem:=by simp
 obj:=fun i h st b hb=>by
  have e:b=it:=by simpa using hb
  subst e
  obtain⟨_,_,st⟩:=st
  exact⟨_,st,fun v z=>by
   have z':Data.fields _=Data.cell v:=z
   cases z'⟩
 keep:=fun i h h' st k=>by
  obtain⟨ok,ov,st⟩:=st
  exact⟨ok,ov,k it (by simp) _ st⟩
 item:=by
  intro X hP hw hK hc i pins s σ H E I hf st hg
  subst hP hw hK
  obtain⟨hi,hq⟩:=hg
  obtain⟨ok,ov,st⟩:=st
  obtain⟨ho,es',ep',hd',hsz,hat⟩:=z8i I.hok hq
  rw[hd] at hd'
  cases hd'
  obtain⟨⟨k,v⟩,hk⟩: ∃p,kvs[i]? =some p:=⟨kvs[i],by simp[hi]⟩
  obtain⟨en,b,he,hb,hB,hv⟩:=hat i k v hk
  refine z8h st ho hd he fun h1 f1 p1 k1=>⟨_,rfl,wpAny_letOwnedTupleGo_items f1 fun h2 f2 t2=> ?_⟩
  have t2:Heap.SameBut it h1 h2:=t2
  have hil:it<s.heap.objs.size:=Heap.lt_size st
  have p2:h2.get? s.heap.objs.size=some {cls:= .type "tuple",data:= .seq #[en.key,en.val]}:=(t2.2 _ (L9 hil)).trans p1
  have fr: ∀c∈[it],c≠s.heap.objs.size:=fun c hc=>by
   have hc:c=it:=by simpa using hc
   subst hc;exact l9 hil
  have I1:Inv X pins σ (upd H s.heap.objs.size (.tup [.ref b,v])) {s with heap:=s.heap.push {cls:= .type "tuple",data:= .seq #[en.key,en.val]},toks:=s.toks}:=I.laid (t':=s.toks) (o:= .tup [.ref b,v]) (fun b ob q=>Heap.get?_push_of_some _ q) (c8 _) ⟨by show 2<=sizeLine;decide,[en.key,en.val], .cons hb (.cons hv .nil),IsTup.new _ _⟩
  have f3: ∀c∈[it],z4K X pins (upd H s.heap.objs.size (.tup [.ref b,v])) c:=fun c hc=>⟨by rw[y6 (fr c hc)];exact(hf c hc).1,(hf c hc).2⟩
  have I2:=I1.turnedL (h':=h2) (t':=s.toks) (fun c ob hc q=>by
   have hc:c≠it:=by simpa using hc
   rcases Heap.get?_push_cases (show(s.heap.push {cls:= .type "tuple",data:= .seq #[en.key,en.val]}).get? c=some ob from q) with⟨rfl,rfl⟩|q'
   ·exact p2
   ·exact(t2.2 c hc).trans (k1 c ob hc q')) f3
  exact⟨.ref s.heap.objs.size,_,I2,rfl,⟨_,b,k,v,I.hok.fresh (c8 _),rfl,rfl,hk,hB,fun c ob q=>(I2.bs c ob (I2.ok.mod.kin c ob q)).2⟩,⟨_,_,f2⟩,fun c hc=>(f3 c hc).1⟩
 done:=by
  intro X hP hw hK hc i pins s σ H E I hf st hg
  subst hP hw hK
  obtain⟨hi,hq⟩:=hg
  obtain⟨ok,ov,st⟩:=st
  obtain⟨ho,es',ep',hd',hsz,hat⟩:=z8i I.hok hq
  rw[hd] at hd'
  cases hd'
  exact za2 (I.ok.hd hc) st ho hd (by lia) fun h' eb=>⟨rfl,I.turnedL (t':=s.toks) (fun c ob hb q=>eb c ob (by simpa using hb) q) hf⟩
 self:=fun A i s Q E st h=>by
  obtain⟨_,_,st⟩:=st
  exact W.kcp_self st h
end L2
namespace Mi
open PySem L2
end Mi
namespace So
open PySem PySem.W PyProof.Rows PySem.SeqAt
noncomputable def hdT:PyData->Bool
 | .tuple (.tuple _::_)=>true
 |_=>false
theorem hd_tup{d:PyData}(h:hdT d=true): ∃zs xs,d= .tuple (.tuple zs::xs):=by
 cases d with
 |tuple xs=>
  cases xs with
  |nil=>simp[hdT] at h
  |cons x xs=>cases x<;>first|exact⟨_,_,rfl⟩|simp[hdT] at h
 |_=>simp[hdT] at h
theorem z8k{prog:Program}{w:World}{A:Around}{fin:Bool}{Q:Bool->Shared->Prop}{s:Shared}: ∀(vs us:List Value) (i:Nat) (r:Bool),z4V A s vs us r->fin=decide (vs.length<us.length)->Q r s->KatLex prog w A false fin Q (vs.zip us) i s
 |[],us,i,r,h,hf,q=>by
  have:r=decide (0<us.length):=h
  subst hf
  rw[List.zip_nil_left]
  exact kat_nil (by rw[this] at q;exact q)
 |_::_,[],i,r,h,hf,q=>by
  have:r=false:=h
  subst hf
  rw[P7]
  exact kat_nil (by rw[this] at q;simpa using q)
 |v::vs,u::us,i,r,h,hf,q=>by
  rw[F4]
  obtain⟨e,h1,h2⟩:=h
  refine kat_cons (h1 prog w _ _ ?_)
  cases e with
  |true=>exact kat_yes (z8k vs us (i+1) r h2 (by simpa using hf) q)
  |false=>exact kat_no (by rw[F6];exact kat_one v u (h2 prog w _ _ q))
theorem key_ltF{prog:Program}{w:World}{A:Around}{E:Value->Shared->Prop}{Q:Bool->Shared->Prop}{s:Shared}{x y:Value}{dx dy:PyData}{as bs:List Addr}{r:Bool}(rx:Reads s.heap x dx as)(ry:Reads s.heap y dy bs)(hx:dx.canLay0=true)(hy:dy.canLay0=true)(ix:hdT dx=true)(iy:hdT dy=true)(hu:A.units+min dx.depth dy.depth<cLine)(hr:ltD dx dy=some r)(q:Q r s):
 wpAny (model prog w) A (keyLt' (tuples' false) x y) Q E s:=by
 obtain⟨i,xs,rfl⟩:=hd_tup ix
 obtain⟨j,ys,rfl⟩:=hd_tup iy
 cases rx with
 | @tuple l o vs n _ as₁ h1 h2 h3 h4=>
  cases ry with
  | @tuple l' o' vs' n' _ as' k1 k2 k3 k4=>
   refine kat_lt h1 h3 k1 k3 ?_
   have sz:decide (vs.size<vs'.size)=decide (vs.toList.length<vs'.toList.length):=by simp
   rw[sz]
   erw[ltD] at hr
   exact z8k _ _ 0 r (lex_reads (.tuple i::xs) (.tuple j::ys) A s _ _ _ _ r h4 k4 (by simpa[PyData.canLay0] using hx) (by simpa[PyData.canLay0] using hy) (by erw[PyData.depth] at hu;lia) hr) rfl q
end So
namespace L2
open PySem PySem.Spec PyProof.Rows
section
variable{X:Cx}
noncomputable def z4p(ds:List PyData):Bool:=ds.all (fun d=>So.hdT d&&d.canLay0&&decide (d.depth<=60))&&ds.all fun d=>ds.all fun e=>(So.ltD d e).isSome
theorem z5X{h:Heap}{M:Model}: ∀{its:List Value} {ds:List PyData} {as:List Addr},ReadsAll h its ds as->(∀d∈ds,So.hdT d=true)->∃fs:List Value,W.KatTups h its fs/\fs.length=ds.length/\∀f∈fs,W.Looks M h (typeOf f) (.type "tuple")
 |[],_,_, .nil,_=>⟨[], .nil,rfl,by simp⟩
 |v::its,d::ds,_, .cons r rs,hd=>by
  obtain⟨fs,t,hl,hf⟩:=z5X (M:=M) rs fun d hd'=>hd d (b8 _ hd')
  obtain⟨i,xs,rfl⟩:=So.hd_tup (hd _ i3)
  cases r with
  | @tuple l o vs n _ as₁ h1 h2 h3 h4=>
   generalize hv:vs.toList=us at h4
   cases h4 with
   |cons r1 r2=>
    cases r1 with
    | @tuple l2 o2 vs2 n2 _ as2 k1 k2 k3 k4=>
     refine⟨.ref l2::fs, .cons h1 h2 h3 ?_ t,by simp[hl],fun f hf'=> ?_⟩
     ·rw[<-Array.getElem?_toList,hv];rfl
     ·rcases i5.mp hf' with rfl|hf'
      ·show W.Looks M h (loadPart l2 (some headPart)>>=fun o=>pure o.cls) (.type "tuple")
       rw[<-k2]
       exact W.Looks.andThen (W.Looks.ld k1) W.Looks.now
      ·exact hf f hf'
noncomputable def zaK(K:W.Frag):List V->Hp->VK->Prop:=fun xs H Q=> ∃p ys ds,xs=[.ref p]/\SqL K H p ys/\DpAll K H ds ys/\z4p ds=true/\∀l,H l=none->Q (.ref l) (upd H l (.lst ((So.perm ys.length (z5W ds)).map fun i=>ys.getD i .non)))
theorem z8l(hu:X.A.units+64<cLine):CallR X (.builtin "sorted") (zaK X.K):=by
 intro pins s σ H xs us Q I r h
 obtain⟨p,ys,ds,rfl,hs,hd,ok,q⟩:=h
 obtain⟨u,rfl,ru⟩:=z3o r
 cases ru
 obtain⟨its,rv,pl,hz⟩:=I.list hs
 have hl:its.length=ys.length:=(Paired.length rv).symm
 unfold z4p at ok
 erw[i6,C2,decide_eq_true_eq] at ok
 obtain⟨ok1,ok2⟩:=ok
 refine So.call_sorted (cmp:=z5W ds) pl.isList (by lia) (fun h' kp h2=> ?_) fun h' D e1 kp hD hget=> ?_
 ·have I':Inv X pins σ H {s with heap:=h'}:=I.kept (t':=s.toks) kp
  obtain⟨as,ra⟩:=DpAll.reads I' ds ys its hd rv
  refine⟨tuples' false,fun Q E hq=> ?_,fun i j hi hj C hC=> ?_⟩
  ·obtain⟨fs,t,hfl,hf⟩:=z5X ra fun d hd'=>(ok1 d hd').1.1
   have hdl:=SeqAt.ReadsAll.length _ _ _ ra
   exact W.kat_kind (T:= .type "tuple") t (by lia) hf rfl hq
  ·obtain⟨bs,r1,m1⟩:=z0t ra i hi
   obtain⟨cs,r2,m2⟩:=z0t ra j hj
   obtain⟨b,hb⟩:=N3.mp (ok2 _ m1 _ m2)
   have o1:=ok1 _ m1
   have o2:=ok1 _ m2
   refine So.key_ltF r1 r2 o1.1.2 o2.1.2 o1.1.1 o2.1.1 ?_ hb ?_
   ·show X.A.units+1+1+_<_
    have:=Nat.min_le_left (ds.getD i .none).depth (ds.getD j .none).depth
    lia
   ·have:z5W ds i j=b:=by unfold z5W;rw[hb];rfl
    rw[<-this];exact hC
 ·refine⟨.ref D,_,I.laid (t':=s.toks) (o:= .lst ((So.perm ys.length (z5W ds)).map fun i=>ys.getD i .non)) kp hD ⟨by rw[n9,So.perm_len];exact hz,_,e1,z4n rv _ fun i hi=> ?_, ?_⟩,rfl,q _ (I.hok.fresh hD)⟩
  ·rw[hl];exact So.perm_lt i hi
  ·rw[hl] at hget;exact hget
end
end L2
namespace L2
open PySem PySem.Spec PyProof.Rows
open Sem (wp)
open AutoSeq1 (wpAny_loadPart')
end L2
namespace L2
open PySem PySem.Spec PyProof.Rows
open Sem (wp)
end L2
namespace Mi
open PySem L2 PySem.Spec PyProof.Rows
section
variable{X:Cx}{G:Gx}{F:Fy}{a b tg e o:Expr}{pos apos cpos:Pos}{mo mi mx:M D}
noncomputable def zgf(o:D):M Unit:=fun s=>match o with
 | .dct l ks vs=>if isT ks=true then .ok () (s.psh (.dct l ks vs)) else .no
 |_=> .no
noncomputable def zaL:List D->M D
 |[.lst l ds]=>fun s=>if(plainL ds&&z4p (erL ds)&&(labsL ds).isEmpty)=true then .ok (.lst s.n (za1 ds)) s.nxt else .no
 |_=>fl
theorem zci:u1 G F (zaK G.K) zaL:=by
 intro ρ s ts vs H σv tv Q M W
 unfold zaL at W
 split at W
 ·rename_i l ds
  split at W
  ·rename_i hc
   erw[i6,R9] at hc
   obtain⟨⟨c1,c2⟩,c3⟩:=hc
   obtain⟨v,rfl,h,_⟩:=M.one
   obtain⟨p,xs,rfl,s1,r1,_⟩:=id (h.lstq (ds:=ds) rfl)
   refine⟨p,xs,erL ds,rfl,s1,RDs.dp _ _ r1 c1,c2,fun l hl k=> ?_⟩
   have e:=RDs.len2 r1
   rw[<-e] at k⊢
   exact z0V W M.m (RDs.perm r1 _ So.perm_lt) (fun j hj=>by unfold za1 at hj;rw[z4o c3] at hj;cases hj) hl k
  ·exact False.elim W
 ·exact wfl W
theorem z8m(hk:X.K=G.K)(hu:X.A.units+64<cLine):Cb X G F (.builtin "sorted") zaL:=⟨_,hk▸z8l hu,zci⟩
end
end Mi
namespace L2
open PySem PySem.Spec PyProof.Rows
section
variable{X:Cx}
noncomputable def NF(X:Cx)(a:Addr):Prop:= ∀o u,X.H₀ a≠some (.frz o u)
theorem NF.of{pins:List (Addr×Obj)}{σ:St}{H:Hp}{s:Shared}{a:Addr}{kvs:List (NK×V)}(I:Inv X pins σ H s)(h:H a=some (.dT kvs)):NF X a:=fun o u e=>by
 have:=I.base.frzs a o u e
 rw[h] at this;cases this
theorem Inv.thaw{pins:List (Addr×Obj)}{σ:St}{H:Hp}{s:Shared}{a:Addr}{o:Obj}{kvs:List (NK×V)}(I:Inv X pins σ H s)(n:NF X a)(h:H a=some (.frz o (.dT kvs))):Inv X pins σ (upd H a (.dT kvs)) s:=by
 have na: ∀{b},H b=none->b≠a:=fun q z=>by rw[z,h] at q;cases q
 have ne: ∀{b u},H b=some u->u≠ .frz o (.dT kvs)->b≠a:=fun q w z=>by rw[z,h] at q;cases q;exact w rfl
 have none': ∀{b},H b=none->(upd H a (.dT kvs)) b=none:=fun q=>by rw[y6 (na q)];exact q
 refine⟨I.ok,I.os,I.bare,⟨I.base.keep,I.base.slot,fun b o' e q hx=>none' (I.base.free b o' e q hx),I.base.there,fun b xs e=> ?_,fun b o' u e=> ?_,fun b ps e=> ?_⟩,I.loc,I.cell,none' I.free,fun x c e=>none' (I.freeC x c e),fun p hp=> ?_, ?_,I.len⟩
 ·have q:=I.base.tups b xs e
  rw[y6 (ne q (by intro z;cases z))];exact q
 ·have q:=I.base.frzs b o' u e
  have hb:b≠a:=fun z=>by subst z;exact n _ _ e
  rw[y6 hb];exact q
 ·obtain⟨m,q⟩:=I.base.tbls b ps e
  exact⟨m,by rw[y6 (ne q (by intro z;cases z))];exact q⟩
 ·obtain⟨e,q,r⟩:=I.pin p hp
  exact⟨e,none' q,r⟩
 ·intro b u e
  by_cases hb:b=a
  ·subst hb
   rw[y9] at e
   cases e
   have q:=(I.hok b _ h).2
   exact v4.stay q (fun _ _ _ z=>z) (fun c z=>by rw[y6 (ne z (by intro z;cases z))];exact z) fun c xs z=>by rw[y6 (ne z (by intro z;cases z))];exact z
  ·rw[y6 hb] at e
   exact(I.hok b u e).stay (fun _ _ _ z=>z) (fun c z=>by rw[y6 (ne z (by intro z;cases z))];exact z) fun c xs z=>by rw[y6 (ne z (by intro z;cases z))];exact z
theorem PE.thaw{e:Expr}{t:TE}(h:PE X e t):PE X e (fun σ H Q=>t σ H fun v H'=> ∃a o kvs,NF X a/\H' a=some (.frz o (.dT kvs))/\Q v (upd H' a (.dT kvs))):=fun pins s σ H Q I q=>
 thn (h pins s σ H _ I q) fun u s' ⟨v,H',I',r,a,o,kvs,n,e1,k⟩=>⟨v,_,I'.thaw n e1,r,k⟩
noncomputable def zh9(N:Addr->Prop)(K:W.Frag)(td:TE):TI:=fun σ H R=>td σ H fun x H1=> ∃a kvs,x= .ref a/\H1 a=some (.dT kvs)/\∀o,N a->R (zge K a o kvs) (upd H1 a (.frz o (.dT kvs)))
theorem zcj{l:Expr}{tl:TE}{elts:List Expr}{x1:Nat}{tpos apos cpos:Pos}(hl:PE X l tl)(hbase:attributeBase l "items" X.env (eval l X.env)=eval l X.env:=by rfl)
 (hfew:((backTo cpos (starEach [] X.env)).all (fun x=> !x.1)&&(backToKw cpos (keywordEach [] X.env)).all (fun x=>x.1.isSome)&&decide (([]:List Expr).length+([]:List Keyword).length+(if([]:List Keyword).isEmpty then 0 else 1)<30))=true:=by rfl)
 (hline:(apos.endLine==cpos.line)=true:=by rfl):PI X (.Tuple elts x1 tpos) (.Call (.Attribute l "items" apos) [] [] cpos) (zh9 (NF X) X.K tl):=by
 intro pins s σ H R I h
 refine wpAny_Call_method hbase hfew hline PySem.F.plainAttrs_dict PySem.F.slot_dict_items PySem.F.type_dict_items (thn (hl pins s σ H _ I h) fun u s1 ⟨x,H1,I1,rx,a,kvs,ex,ha,q⟩=> ?_)
 subst ex
 obtain rfl:u=Value.ref a:=rx
 obtain⟨t1,t2,_⟩:=zau I1 (.inr ⟨kvs, .inl ha⟩)
 refine⟨t1,t2,PyProof.Rows.callWith_method0 ?_⟩
 obtain⟨o,es,ep,ho,hc,hd,hy,hsz,I2⟩:=I1.freeze ha
 refine z8f hy t1 fun h1 hv k1=> ?_
 refine z8g hv (k1 _ _ ho) hd fun h2 f2 k2=> ?_
 have I3:Inv X pins σ (upd H1 a (.frz o (.dT kvs))) {s1 with heap:=h1}:=I2.kept (t':=s1.toks) k1
 have I4:Inv X pins σ (upd H1 a (.frz o (.dT kvs))) {s1 with heap:=h2}:=I3.kept (t':=s1.toks) k2
 refine⟨h1.objs.size,[h1.objs.size],_,zge X.K a o kvs,_,rfl,I4,z8j a _ o es ep hd kvs,⟨_,_,f2⟩,fun b hb=> ?_,q o (NF.of I1 ha)⟩
 have e:b=h1.objs.size:=by simpa using hb
 subst e
 exact I3.fpOk (c8 _) I3.fresh
noncomputable def zha(N:Addr->Prop)(td:TE):TI:=fun σ H R=>td σ H fun x H1=> ∃a kvs,x= .ref a/\H1 a=some (.dT kvs)/\∀o,N a->R (ItD a o kvs) (upd H1 a (.frz o (.dT kvs)))
theorem zck{l tg:Expr}{tl:TE}(hl:PE X l tl):PI X tg l (zha (NF X) tl):=by
 intro pins s σ H R I h
 refine thn (hl pins s σ H _ I h) fun v s1 ⟨x,H1,I1,r1,a,kvs,e,ha,q⟩=> ?_
 subst e
 cases r1
 obtain⟨o,es,ep,ho,hc,hd,hy,hsz,I2⟩:=I1.freeze ha
 refine z2f hy ho hc hd ?_
 have I3:Inv X pins σ (upd H1 a (.frz o (.dT kvs))) {s1 with heap:=s1.heap.push {cls:= .type "dict_keyiterator",data:= .fields #[.ref a, .int 0 0, .int es.size 0, .int ep 0]}}:=
  I2.kept (t':=s1.toks) fun b u q=>Heap.get?_push_of_some _ q
 refine⟨s1.heap.objs.size,[s1.heap.objs.size],_,ItD a o kvs,_,rfl,I3,z7E a _ o es ep hd kvs,⟨_,Heap.get?_push_size _ rfl,rfl,rfl⟩,fun b hb=> ?_,q o (NF.of I1 ha)⟩
 have e:b=s1.heap.objs.size:=by simpa using hb
 subst e
 exact I2.fpOk (c8 _) I2.fresh
noncomputable def z5Y(H:Hp)(kvs:List (NK×V))(vs:List V)(ps:List Addr):Prop:=ps.length=kvs.length/\∀(j:Nat) b q v,ps[j]? =some b->kvs[j]? =some q->vs[j]? =some v->∃xs,Paired (TKi H) q.1 xs/\H b=some (.tup (xs++[v]))
theorem z0I{α β:Type}{F:α->β->Prop}: ∀{l:List α} {r:List β},Paired F l r->l.length=r.length
 |_,_, .nil=>rfl
 |_,_, .cons _ h=>by rw[i9,i9,z0I h]
theorem TKi.same{H H':Hp}(h:k9 H H'){k:NK}{xs:List V}(p:Paired (TKi H) k xs):Paired (TKi H') k xs:=Paired.mapP p fun z x q=>by
 cases z with
 |inl k=>exact q
 |inr ks=>obtain⟨c,e1,e2⟩:=q;exact⟨c,e1,h _ _ e2⟩
noncomputable def zhb(D:Addr)(H H':Hp):Prop:= ∀b o,b≠D->H b=some o->H' b=some o
end
theorem TKi.tups{H H':Hp}(h: ∀b xs,H b=some (.tup xs)->H' b=some (.tup xs)){k:NK}{xs:List V}(p:Paired (TKi H) k xs):Paired (TKi H') k xs:=Paired.mapP p fun z x q=>by
 cases z with
 |inl k=>exact q
 |inr ks=>obtain⟨c,e1,e2⟩:=q;exact⟨c,e1,h _ _ e2⟩
noncomputable def RwW(D:Addr)(Hf:Hp)(kvs:List (NK×V))(vs:List V)(sh:St->Prop)(i m:Nat)(ys:List V)(σ':St)(H':Hp):Prop:=
 ∃ps:List Addr,ys=ps.map V.ref/\ps.length=i/\i+m=kvs.length/\sh σ'/\zhb D Hf H'/\H' D=some (.lst ys)/\∀(j:Nat) b q v,ps[j]? =some b->kvs[j]? =some q->vs[j]? =some v->∃xs,Paired (TKi H') q.1 xs/\H' b=some (.tup (xs++[v]))
theorem RwW.next{D:Addr}{Hf:Hp}{kvs:List (NK×V)}{vs:List V}{sh:St->Prop}{i m:Nat}{ys:List V}{σ' σ2:St}{H' H4:Hp}{k:NK}{v w:V}{p:Addr}{xs:List V}(h:RwW D Hf kvs vs sh i m ys σ' H')(hi:i<kvs.length)(hk:kvs[i]? =some (k,v))(hw:vs[i]? =some w)(hx:Paired (TKi H4) k xs)(e:H4 p=some (.tup (xs++[w])))(sm:k9 H' H4)(s2:sh σ2):
 H4 D=some (.lst ys)/\ys.length=i/\∃m',m'<m/\RwW D Hf kvs vs sh (i+1) m' (ys++[.ref p]) σ2 (upd H4 D (.lst (ys++[.ref p]))):=by
 obtain⟨ps,e1,e2,e3,s1,sx,hD,rw'⟩:=h
 have hD4:=sm _ _ hD
 have tn: ∀b xs,H4 b=some (.tup xs)->(upd H4 D (.lst (ys++[.ref p]))) b=some (.tup xs):=fun b xs q=>by
  rw[y6 (z0L q hD4 (by intro z;cases z))];exact q
 refine⟨hD4,by rw[e1,n9,e2],m - 1,by lia,ps++[p],by rw[e1];simp,by simp[e2],by lia,s2,fun b o hb q=> ?_,y9,fun j b q u h1 h2 h3=> ?_⟩
 ·rw[y6 hb];exact sm _ _ (sx b o hb q)
 ·by_cases hj:j<ps.length
  ·rw[List.getElem?_append_left hj] at h1
   obtain⟨zs,z1,z2⟩:=rw' j b q u h1 h2 h3
   exact⟨zs,TKi.tups (fun c zs q=>tn _ _ (sm _ _ q)) z1,tn _ _ (sm _ _ z2)⟩
  ·have hj':j=i:=by
    have:=(List.getElem?_eq_some_iff.mp h1).1
    erw[m8,i9,t9] at this
    lia
   subst hj'
   rw[<-e2] at h1
   erw[List.getElem?_append_right (c8 _),T7,List.getElem?_cons_zero,Option.some.injEq] at h1
   subst h1
   rw[hk] at h2;cases h2
   rw[hw] at h3;cases h3
   exact⟨xs,TKi.tups tn hx,tn _ _ e⟩
theorem RwW.fin{D a:Addr}{o:Obj}{H1:Hp}{kvs:List (NK×V)}{vs:List V}{sh:St->Prop}{i m:Nat}{ys:List V}{σ':St}{H':Hp}(ha:H1 a=some (.dT kvs))(hD:upd H1 a (.frz o (.dT kvs)) D=none)(h:RwW D (upd H1 a (.frz o (.dT kvs))) kvs vs sh i m ys σ' H')(hi:kvs.length<=i):
 H1 D=none/\H' a=some (.frz o (.dT kvs))/\∃ps:List Addr,(upd H' a (.dT kvs)) D=some (.lst (ps.map V.ref))/\k9 H1 (upd H' a (.dT kvs))/\z5Y (upd H' a (.dT kvs)) kvs vs ps:=by
 obtain⟨ps,e1,e2,e3,s1,sx,hD',rw'⟩:=h
 have na:D≠a:=fun z=>by rw[z,y9] at hD;cases hD
 have hf:H' a=some (.frz o (.dT kvs)):=sx a _ na.symm y9
 have tn: ∀b xs,H' b=some (.tup xs)->(upd H' a (.dT kvs)) b=some (.tup xs):=fun b xs q=>by
  rw[y6 (z0L q hf (by intro z;cases z))];exact q
 refine⟨by rw[y6 na] at hD;exact hD,hf,ps,by rw[y6 na,hD',e1],fun b u q=> ?_,by lia,fun j b q v h1 h2 h3=> ?_⟩
 ·by_cases hb:b=a
  ·subst hb;rw[ha] at q;cases q;exact y9
  ·rw[y6 hb]
   refine sx b u (fun z=> ?_) (by rw[y6 hb];exact q)
   rw[z] at q hb
   rw[y6 hb,q] at hD;cases hD
 ·obtain⟨zs,z1,z2⟩:=rw' j b q v h1 h2 h3
  exact⟨zs,TKi.tups tn z1,tn _ _ z2⟩
section
variable{X:Cx}{iter:Expr}{td:TE}{pos:Pos}{scope:Scope}{own frees:List Str}{ix:List Nat}
noncomputable def zeZ(K:W.Frag)(g:TG)(tt:TT)(te:TE)(k:Nat)(ix:List Nat)(σ:St)(Q:VK):It->Hp->Prop:=fun J H1=> ∀D,H1 D=none->(∀a o,K.lookup a=some o->upd H1 D (.lst []) a=none)->
 ∃W:Nat->Nat->List V->St->Hp->Prop,(∃m,W 0 m [] (z0k k ix σ) (upd H1 D (.lst [])))/\
  ∀i m ys σ' H',W i m ys σ' H'->H' D=some (.lst ys)/\((J.stop i H'/\Q (.ref D) H')\/
   (J.go i H'/\∀x H2,J.yld i H' x H2->g x σ' H2 fun σ2 H3=>tt σ2 H3 fun ok H3=>if ok=true then te σ2 H3 fun y H4=>H4 D=some (.lst ys)/\ys.length<sizeLine/\∃m',m'<m/\W (i+1) m' (ys++[y]) σ2 (upd H4 D (.lst (ys++[y])))
    else ∃m',m'<m/\W (i+1) m' ys σ2 H3))
noncomputable def zf0(vs:List (NK×V)->List V)(Q:VK)(x:V)(H1:Hp):Prop:= ∃a kvs,x= .ref a/\H1 a=some (.dT kvs)/\(∀q∈kvs,q.1.length<1000)/\kvs.length<sizeLine/\(vs kvs).length=kvs.length/\
 ∀D H2 ps,H1 D=none->H2 D=some (.lst (ps.map V.ref))->k9 H1 H2->z5Y H2 kvs (vs kvs) ps->Q (.ref D) H2
noncomputable def Thd(N:Addr->Prop)(Q:VK):VK:=fun v H'=> ∃a o kvs,N a/\H' a=some (.frz o (.dT kvs))/\Q v (upd H' a (.dT kvs))
theorem zaM{D:Addr}{Hf:Hp}{kvs:List (NK×V)}{vs:List V}{sh:St->Prop}{σ':St}(hD:Hf D=none)(h:sh σ'):RwW D Hf kvs vs sh 0 kvs.length [] σ' (upd Hf D (.lst [])):=
 ⟨[],rfl,rfl,by lia,h,fun b o hb q=>by rw[y6 hb];exact q,y9,fun j b q v h1=>by simp at h1⟩
noncomputable def za3(K:W.Frag):TE:=tOp (z7G K) (z76 0) (zgz (zbt (z76 1) zdL))
theorem z8n{N:Addr->Prop}{K:W.Frag}{σ:St}{H1:Hp}{Q:VK}{x:V}(h:zf0 (fun kvs=>kvs.map (·.2)) Q x H1):
 ∃a kvs,x= .ref a/\H1 a=some (.dT kvs)/\∀o,N a->zeZ K (zg9 K 2 (z4P (z0M 0) (z4P (z0M 1) zg8))) (fun _ H Q=>Q true H) (za3 K) 2 [] σ (Thd N Q) (zge K a o kvs) (upd H1 a (.frz o (.dT kvs))):=by
 obtain⟨a,kvs,rfl,ha,hk,hz,hl,q⟩:=h
 refine⟨a,kvs,rfl,ha,fun o n D hD kd=>⟨RwW D (upd H1 a (.frz o (.dT kvs))) kvs (kvs.map (·.2)) (fun σ=>σ.length=2),⟨_,zaM hD rfl⟩,fun i m ys σ' H' w=> ?_⟩⟩
 have w0:=w
 obtain⟨ps,e1,e2,e3,s1,sx,hD',rw'⟩:=w
 have na:D≠a:=fun z=>by rw[z,y9] at hD;cases hD
 have hf:H' a=some (.frz o (.dT kvs)):=sx a _ na.symm y9
 refine⟨hD', ?_⟩
 by_cases hi:i<kvs.length
 ·refine .inr ⟨⟨hi,hf⟩, ?_⟩
  rintro x H2 ⟨p,b,k,v,hp,rfl,rfl,hk',hb,kd'⟩
  have m1:=k9.new (.tup [.ref b,v]) hp
  refine⟨p,[.ref b,v],rfl,SqT.of y9,rfl, .ref b,[v],rfl,v,[],rfl,rfl, ?_⟩
  show if true=true then _ else _
  rw[if_pos rfl]
  refine⟨.ref b,by simp[s1],v,by simp[s1], ?_⟩
  refine⟨by show 1<=sizeLine;decide,fun p2 hp2=> ?_⟩
  have m2:=k9.new (.tup [v]) hp2
  obtain⟨xs,t1,t2⟩:=hb
  have hxl:=z0I t2
  have hkl:k.length<1000:=hk _ (List.mem_of_getElem? hk')
  have zl:sizeLine=16777216:=rfl
  refine⟨b,p2,xs,[v],rfl,rfl,m2 _ _ (m1 _ _ t1),y9,by erw[i9,t9];lia,z7F.intro fun p3 H4 h4 m3=> ?_⟩
  have m4:k9 H' H4:=(m1.trans m2).trans m3
  obtain⟨g1,g2,g3⟩:=w0.next (σ2:=(σ'.set 0 (some (.ref b))).set 1 (some v)) hi hk' (w:=v) (by rw[List.getElem?_map,hk'];rfl) (TKi.same m4 t2) h4 m4 (by simpa using s1)
  exact⟨g1,by lia,g3⟩
 ·obtain⟨d1,d2,ps',d3,d4,d5⟩:=w0.fin ha hD (by lia)
  exact .inl ⟨⟨by lia,hf⟩,a,o,kvs,n,hf,q D _ ps' d1 d3 d4 d5⟩
noncomputable def za4(K:W.Frag):TE:=tOp (z7G K) (z76 0) (zgz (zbt (zdX (z76 1) (z76 0)) zdL))
theorem z8o{N:Addr->Prop}{K:W.Frag}{σ:St}{H1:Hp}{Q:VK}{x:V}{ix:Nat}(h:zf0 (fun kvs=>kvs.map fun q=>(valV kvs q.1).getD .non) Q x H1)(hσ:σ[ix]? =some (some x)):
 ∃a kvs,x= .ref a/\H1 a=some (.dT kvs)/\∀o,N a->zeZ K (z0M 0) (fun _ H Q=>Q true H) (za4 K) 1 [ix] σ (Thd N Q) (ItD a o kvs) (upd H1 a (.frz o (.dT kvs))):=by
 obtain⟨a,kvs,rfl,ha,hk,hz,hl,q⟩:=h
 have valv: ∀(l:List (NK×V)) (k:NK) (v:V),(k,v)∈l->∃w,valV l k=some w:=fun l=>by
  induction l with
  |nil=>intro k v h;cases h
  |cons p l ih=>
   intro k v h
   by_cases hp:p.1=k
   ·exact⟨_,z1d hp⟩
   ·rw[z0F hp]
    rcases i5.mp h with e|h
    ·exact absurd (by rw[<-e]) hp
    ·exact ih k v h
 refine⟨a,kvs,rfl,ha,fun o n D hD kd=>⟨RwW D (upd H1 a (.frz o (.dT kvs))) kvs (kvs.map fun q=>(valV kvs q.1).getD .non) (fun σ:St=>σ.length=2/\σ[1]? =some (some (.ref a))),⟨_,zaM hD ⟨rfl,by simp[z0k,hσ]⟩⟩,fun i m ys σ' H' w=> ?_⟩⟩
 have w0:=w
 obtain⟨ps,e1,e2,e3,⟨s1,s2⟩,sx,hD',rw'⟩:=w
 have na:D≠a:=fun z=>by rw[z,y9] at hD;cases hD
 have hf:H' a=some (.frz o (.dT kvs)):=sx a _ na.symm y9
 refine⟨hD', ?_⟩
 by_cases hi:i<kvs.length
 ·refine .inr ⟨⟨hi,hf⟩, ?_⟩
  rintro x H2 ⟨rfl,b,k,v,rfl,hk',hb⟩
  obtain⟨w,hw⟩:=valv kvs k v (List.mem_of_getElem? hk')
  unfold z0M
  dsimp only
  rw[if_pos rfl]
  have z0:(List.set σ' 0 (some (V.ref b)))[0]? =some (some (V.ref b)):=by simp[s1]
  have z1:(List.set σ' 0 (some (V.ref b)))[1]? =some (some (V.ref a)):=by simp[s2]
  refine⟨.ref b,z0, .ref a,z1, .ref b,z0,a,w,rfl, .inr ⟨kvs,k,b, .inr ⟨o,hf⟩,rfl,hb,hw.symm⟩, ?_⟩
  refine⟨by show 1<=sizeLine;decide,fun p2 hp2=> ?_⟩
  have m2:=k9.new (.tup [w]) hp2
  obtain⟨xs,t1,t2⟩:=hb
  have hxl:=z0I t2
  have hkl:k.length<1000:=hk _ (List.mem_of_getElem? hk')
  have zl:sizeLine=16777216:=rfl
  refine⟨b,p2,xs,[w],rfl,rfl,m2 _ _ t1,y9,by erw[i9,t9];lia,z7F.intro fun p3 H4 h4 m3=> ?_⟩
  have m4:k9 H2 H4:=m2.trans m3
  obtain⟨g1,g2,g3⟩:=w0.next (σ2:=σ'.set 0 (some (.ref b))) hi hk' (w:=w) (by rw[List.getElem?_map,hk'];simp[hw]) (TKi.same m4 t2) h4 m4 ⟨by simpa using s1,z1⟩
  exact⟨g1,by lia,g3⟩
 ·obtain⟨d1,d2,ps',d3,d4,d5⟩:=w0.fin ha hD (by lia)
  exact .inl ⟨⟨by lia,hf⟩,a,o,kvs,n,hf,q D _ ps' d1 d3 d4 d5⟩
end
section
variable{X:Cx}
theorem zcl{prog:Program}{w:World}{A:Around}{E:Value->Shared->Prop}{s:Shared}{d:Addr}{o:Obj}{es:Array DictEntry}{ep:Nat}{Q:Value->Shared->Prop}(hd:(d==sysModules)=false)(ho:s.heap.get? d=some o)(hc:o.ExactDict)(hdat:o.data= .dict es ep)(hfit:(es.size:Int)<2^63)
 (h:Q (.int es.size (s.toks+1)) {s with toks:=s.toks+1+1}):wpAny (model prog w) A (call (.builtin "len") [.ref d]) Q E s:=by
 have ht:s.TypeIs (.ref d) "dict" :=⟨o,ho,hc.1⟩
 refine Calls.call_function_entry kind_len plain_len entry_len (args_len1 _) ?_
 unfold Builtin.«len»
 refine wpAny_bind (m:=oneArg "len" _) (wpAny_pure ?_)
 refine wpAny_bind (m:=callSpecial? (.ref d) (Str.ofString "__len__")) (wpAny_callSpecial?_slot (name:=Str.ofString "__len__") ht F.slot_dict_len
  (wpAny_call_entry F.slot_dict_len ht F.entry_dict_len ?_ (F.args_dict_len_1 _)))
 show wpAny _ _ (dictSize d>>=_) _ _ s
 unfold dictSize
 refine wpAny_bind (wpAny_bind (wpAny_dictEntries ho hdat (wpAny_pure ?_)))
 show wpAny _ _ (Builtin.Dict.pendingCount d>>=_) _ _ s
 refine wpAny_bind (wpAny_pendingCount_other hd ?_)
 refine wpAny_ret_mkInt ?_
 have e0:((es.size:Int)+((0:Nat):Int))=es.size:=by simp
 rw[e0]
 show wpAny _ _ _ _ _ {s with toks:=s.toks+1}
 refine wpAny_bind (wpAny_holding (wpAny_pure ?_))
 refine wpAny_bind (wpAny_letGo ?_)
 show wpAny _ _ (if((es.size:Nat):Int)<0 then _ else _) _ _ _
 rw[if_neg (by lia)]
 show wpAny _ _ (if((es.size:Nat):Int)≥2^63 then _ else _) _ _ _
 rw[if_neg (by lia)]
 exact wpAny_bind (wpAny_mkInt (wpAny_pure ⟨_,rfl,h⟩))
noncomputable def zf1:List V->Hp->VK->Prop:=fun xs H Q=> ∃p kvs,xs=[.ref p]/\H p=some (.dT kvs)/\Q (.int kvs.length) H
theorem z8p:CallR X (.builtin "len") zf1:=by
 intro pins s σ H xs us Q I r h
 obtain⟨p,kvs,rfl,hx,q⟩:=h
 obtain⟨u,rfl,rx⟩:=z3o r
 cases rx
 obtain⟨z,y,zs,rel,o,es,ep,e,c,d,l,nd⟩:=I.hok p _ hx
 have hs:es.size=zs.length:=size_of_entries l
 have hl:kvs.length=zs.length:=z0I rel
 have hz:sizeLine=16777216:=sizeLine_eq
 refine zcl y e c d (by lia) ⟨.int kvs.length,H,I.tok _,⟨s.toks+1,by rw[hs,hl]⟩,q⟩
end
end L2
namespace Mi
open PySem L2 PySem.Spec PyProof.Rows
section
variable{X:Cx}{G:Gx}{F:Fy}{a b e o iter:Expr}{pos apos cpos:Pos}{mo mi:M D}
noncomputable def zdg:List D->M D
 |[.dct _ ks _]=>if isT ks=true then rt (.int ks.length) else fl
 |_=>fl
theorem zcm:u1 G F zf1 zdg:=by
 intro ρ s ts vs H σv tv Q M W
 unfold zdg at W
 split at W
 ·split at W
  ·rename_i hT
   obtain⟨v,rfl,h,_⟩:=M.one
   obtain⟨rfl,kvs,hx,rfl,r⟩:=h.dctq hT
   exact⟨_,kvs,rfl,hx,fun _=>by rw[n9] at W;exact W.flat M.m rfl⟩
  ·exact wfl W
 ·exact wfl W
theorem zcn:Cb X G F (.builtin "len") zdg:=⟨_,z8p,zcm⟩
noncomputable def z9b:D->D->D
 | .tup xs,v=> .tup (xs++[v])
 |_,_=> .non
noncomputable def zdh:D->Bool
 | .tup xs=>decide (xs.length<1000)
 |_=>false
noncomputable def z2X(ks vs:List D):Bool:=isT ks&&(labsL vs).isEmpty&&ks.all zdh&&decide (ks.length<sizeLine)
noncomputable def zco(o:D):M D:=fun s=>match o with
 | .dct _ ks vs=>if z2X ks vs=true then .ok (.lst s.n (C9 z9b ks vs)) s.nxt else .no
 |_=> .no
noncomputable def fdK(ks vs:List D)(d:D):D:=((tkey d).bind (findK ks vs)).getD .non
noncomputable def zaN(o:D):M D:=fun s=>match o with
 | .dct _ ks vs=>if z2X ks vs=true then .ok (.lst s.n (ks.map fun d=>z9b d (fdK ks vs d))) s.nxt else .no
 |_=> .no
theorem z8q{ρ:Nat->Addr}{H2:Hp}: ∀{ps:List Addr} {kvs:List (NK×V)} {ds:List D} {vs:List V},RDs G ρ H2 ds vs->z5Y H2 kvs vs ps->vs.length=kvs.length->RDs G ρ H2 (C9 z9b (kvs.map fun p=>dkD p.1) ds) (ps.map V.ref)
 |[],[],ds,vs,_,_,_=>by simp[RDs]
 |[],k::kvs,_,_,_,h,_=>by have:=h.1;simp at this
 |p::ps,[],_,_,_,h,_=>by have:=h.1;simp at this
 |p::ps,k::kvs,ds,[],_,_,hv=>by simp at hv
 |p::ps,k::kvs,[],v::vs,r,_,_=>by erw[RDs] at r;cases r
 |p::ps,k::kvs,d::ds,v::vs,r,h,hv=>by
  erw[RDs] at r
  obtain⟨_,_,e1,r1,r2⟩:=r
  cases e1
  obtain⟨xs,p1,p2⟩:=h.2 0 p k v rfl rfl rfl
  have ih:=z8q (ps:=ps) (kvs:=kvs) (vs:=vs) r2 ⟨by have:=h.1;simpa using this,fun j b q v h1 h2 h3=>h.2 (j+1) b q v (by simpa using h1) (by simpa using h2) (by simpa using h3)⟩ (by simpa using hv)
  erw[b7,C0,RDs]
  refine⟨_,_,rfl, ?_,ih⟩
  show RD G ρ H2 (.tup (k.1.map nkD++[d])) (.ref p)
  erw[RD]
  exact⟨p,_,rfl,p2,(z87 p1).append (RDs.one r1)⟩
theorem z4q: ∀(kvs:List (NK×V)) (ds:List D),labsL ds=[]->labsL (C9 z9b (kvs.map fun p=>dkD p.1) ds)=[]
 |[],ds,_=>by simp[labsL]
 |k::kvs,[],_=>by simp[labsL]
 |k::kvs,d::ds,h=>by
  erw[labsL,E1] at h
  have e:=z57 k.1
  erw[dkD,y3] at e
  erw[b7,C0,labsL,z4q kvs ds h.2,h9]
  show y3 (.tup (k.1.map nkD++[d]))=[]
  erw[y3,Q0,e,labsL,h.1,h9]
theorem zcp(ks vs:List D):C9 z9b ks (ks.map (fdK ks vs))=ks.map fun d=>z9b d (fdK ks vs d):=by
 rw[List.zipWith_map_right]
 generalize fdK ks vs=f
 induction ks with
 |nil=>rfl
 |cons k ks ih=>erw[C0,b7,ih]
theorem z5Z{ρ:Nat->Addr}{H1 H2:Hp}{D:Addr}{s:Stt}{σv tv:List (Option V)}{Q:VK}{ps:List Addr}{kvs:List (NK×V)}{ds:List Mi.D}{vs:List V}(W:wM G F σv tv (.ok (.lst s.n (C9 z9b (kvs.map fun p=>dkD p.1) ds)) s.nxt) Q)(M:MR G F.toFx ρ H1 σv tv s)
 (r:RDs G ρ H1 ds vs) (hl:labsL ds=[]) (hD:H1 D=none) (h2:H2 D=some (.lst (ps.map V.ref))) (sm:k9 H1 H2) (rw':z5Y H2 kvs vs ps) (hv:vs.length=kvs.length) (kd:KD G.K H2):Q (.ref D) H2:=by
 have e:H2=upd (fun b=>if b=D then none else H2 b) D (.lst (ps.map V.ref)):=by
  funext b
  by_cases hb:b=D
  ·rw[hb,y9,h2]
  ·rw[y6 hb,if_neg hb]
 have sm':k9 H1 (fun b=>if b=D then none else H2 b):=fun b o q=>by
  have hb:b≠D:=fun z=>by rw[z,hD] at q;cases q
  show(if b=D then none else H2 b)=some o
  rw[if_neg hb];exact sm b o q
 have tn: ∀b xs,H2 b=some (.tup xs)->(fun b=>if b=D then none else H2 b) b=some (.tup xs):=fun b xs q=>by
  have hb:b≠D:=z0L q h2 (by intro z;cases z)
  show(if b=D then none else H2 b)=some _
  rw[if_neg hb];exact q
 have kd':KD G.K (fun b=>if b=D then none else H2 b):=fun b o' q=>by
  by_cases hb:b=D
  ·show(if b=D then none else H2 b)=none
   rw[if_pos hb]
  ·show(if b=D then none else H2 b)=none
   rw[if_neg hb];exact kd b o' q
 have rr:RDs G ρ (fun b=>if b=D then none else H2 b) (C9 z9b (kvs.map fun p=>dkD p.1) ds) (ps.map V.ref):=z8q (r.same sm') ⟨rw'.1,fun j b q v h1 h2' h3=>by
  obtain⟨xs,z1,z2⟩:=rw'.2 j b q v h1 h2' h3
  exact⟨xs,TKi.tups tn z1,tn _ _ z2⟩⟩ hv
 rw[e] at kd⊢
 exact z0V W (M.same sm' kd') rr (fun j hj=>by rw[z4q kvs ds hl] at hj;cases hj) (by show(if D=D then none else H2 D)=none;rw[if_pos rfl]) kd
end
theorem zaO{G:Gx}{ρ:Nat->Addr}{H:Hp}{kvs:List (NK×V)}{vs:List D}(r:RDs G ρ H vs (kvs.map (·.2))): ∀l:List (NK×V),RDs G ρ H ((l.map fun p=>dkD p.1).map (fdK (kvs.map fun p=>dkD p.1) vs)) (l.map fun q=>(valV kvs q.1).getD .non)
 |[]=>by simp[RDs]
 |q::l=>by
  erw[b7,RDs]
  refine⟨_,_,rfl, ?_,zaO r l⟩
  unfold fdK
  rw[Q8,N8]
  cases ef:findK (kvs.map fun p=>dkD p.1) vs q.1 with
  |none=>rw[z1D kvs vs r ef];erw[RD,E6]
  |some d=>
   obtain⟨w,hv,hd,_⟩:=z0H kvs vs d r ef
   rw[hv];exact hd
theorem z60{ks vs:List D}(h:labsL vs=[]): ∀l:List D,labsL (l.map (fdK ks vs))=[]
 |[]=>rfl
 |d::l=>by
  erw[b7,labsL,z60 h l,h9]
  unfold fdK
  cases tkey d with
  |none=>rfl
  |some k=>
   have gen: ∀(ks vs:List D),labsL vs=[]->∀d,findK ks vs k=some d->y3 d=[]:=fun ks=>by
    induction ks with
    |nil=>intro vs _ d e;cases vs<;>simp[findK] at e
    |cons a ks ih=>
     intro vs hv d e
     cases vs with
     |nil=>simp[findK] at e
     |cons v vs=>
      erw[labsL,E1] at hv
      erw[findK] at e
      split at e
      ·cases e;exact hv.1
      ·exact ih vs hv.2 d e
   erw[N8]
   cases ef:findK ks vs k with
   |none=>rfl
   |some d=>exact gen ks vs h d ef
theorem z61{ks vs:List D}(h:z2X ks vs=true):isT ks=true/\labsL vs=[]/\(∀d∈ks,zdh d=true)/\ks.length<sizeLine:=by
 erw[z2X,i6,R9,C2,decide_eq_true_eq] at h
 exact⟨h.1.1.1,h.1.1.2,h.1.2,h.2⟩
theorem zaP{kvs:List (NK×V)}(h: ∀d∈kvs.map (fun p=>dkD p.1),zdh d=true): ∀q∈kvs,q.1.length<1000:=fun q hq=>by
 have:=h _ (l7.mpr ⟨q,hq,rfl⟩)
 simpa[dkD,zdh] using this
section
variable{X:Cx}{G:Gx}{F:Fy}{iter elt tg:Expr}{pos apos cpos:Pos}{m0:M D}{scope:Scope}{own frees:List Str}
theorem se_rowI{elts:List Expr}{x1:Nat}{tpos:Pos}(hk:X.K=G.K)(hc:X.calm=true)(S:j4 X.env.scope scope own [] X.N [])(hi:SE X G F iter m0)(ho:own.length=2)
 (hg: ∀cl C s₀ H₀ fp pn,PG (W5 X scope own [] cl C s₀ H₀ fp pn) (.Tuple elts x1 tpos) (zg9 X.K 2 (z4P (z0M 0) (z4P (z0M 1) zg8)))) (he: ∀cl C s₀ H₀ fp pn,PE (W5 X scope own [] cl C s₀ H₀ fp pn) elt (za3 X.K))
 (hs: ∀x,foldedSetIterable (.Call (.Attribute iter "items" apos) [] [] cpos) X.env x=pure x:=by intro _;rfl) (hbase:attributeBase iter "items" X.env (eval iter X.env)=eval iter X.env:=by rfl)
 (hfew:((backTo cpos (starEach [] X.env)).all (fun x=> !x.1)&&(backToKw cpos (keywordEach [] X.env)).all (fun x=>x.1.isSome)&&decide (([]:List Expr).length+([]:List Keyword).length+(if([]:List Keyword).isEmpty then 0 else 1)<30))=true:=by rfl)
 (hline:(apos.endLine==cpos.line)=true:=by rfl):SE X G F (.ListComp elt [⟨.Tuple elts x1 tpos, .Call (.Attribute iter "items" apos) [] [] cpos,[],0⟩] scope pos) (bd m0 zco):=by
 have base:=PE.thaw (z2k (pos:=pos) (te:=za3 X.K) hc S (zcj hi hbase hfew hline) hg (fun _ _ _ _ _ _=>z4Z) he hs)
 rw[ho] at base
 refine PE.imp hk base fun σ H Q ⟨tv,hsf,ρ,s,M,W⟩=> ?_
 refine⟨tv,hsf,ρ,s,M, ?_⟩
 unfold bd at W
 cases e0:m0 s with
 |ex d s1=>rw[e0] at W;exact W
 |no=>rw[e0] at W;exact W
 |ok o s1=>
  rw[e0] at W
  intro ρ1 v H1 M1
  cases o with
  |dct l ks vs=>
   by_cases hr:z2X ks vs=true
   ·obtain⟨hT,hvs,hsm,hz⟩:=z61 hr
    erw[zco,if_pos hr] at W
    have h1:=M1.rd1
    obtain⟨rfl,kvs,hx,rfl,r⟩:=h1.dctq hT
    refine z8n (Q:=fun v H'=>KD G.K H'->Q v H') ⟨ρ1 l,kvs,rfl,hx,zaP hsm,by simpa using hz,by simp,fun D H2 ps hD h2 sm rw' kd=> ?_⟩
    exact z5Z W M1.m r hvs hD h2 sm rw' (by simp) kd
   ·erw[zco,if_neg hr] at W;exact False.elim W
  |_=>exact False.elim W
theorem se_rowK{i:Nat}{x:Str}{np:Pos}(hk:X.K=G.K)(hc:X.calm=true)(S:j4 X.env.scope scope own frees X.N [i])(hi:PE X (.Name x np) (z76 i))(ho:own.length=1)
 (hg: ∀cl C s₀ H₀ fp pn,PG (W5 X scope own frees cl C s₀ H₀ fp pn) tg (z0M 0)) (he: ∀cl C s₀ H₀ fp pn,PE (W5 X scope own frees cl C s₀ H₀ fp pn) elt (za4 X.K))
 (hs: ∀y,foldedSetIterable (.Name x np) X.env y=pure y:=by intro _;rfl):SE X G F (.ListComp elt [⟨tg, .Name x np,[],0⟩] scope pos) (bd (y0 i) zaN):=by
 have base:=PE.thaw (z2k (pos:=pos) (te:=za4 X.K) hc S (zck hi) hg (fun _ _ _ _ _ _=>z4Z) he hs)
 rw[ho] at base
 refine PE.imp hk base fun σ H Q ⟨tv,hsf,ρ,s,M,W⟩=> ?_
 unfold bd y0 at W
 cases e0:s.σ[i]? with
 |none=>rw[e0] at W;exact W.elim
 |some o=>
  cases o with
  |none=>rw[e0] at W;exact W.elim
  |some t=>
   rw[e0] at W
   obtain⟨v,h1,h2⟩:=M.sl.get i t e0
   refine⟨v,h1, ?_⟩
   cases t with
   |dct l ks vs=>
    by_cases hr:z2X ks vs=true
    ·obtain⟨hT,hvs,hsm,hz⟩:=z61 hr
     erw[zaN,if_pos hr] at W
     obtain⟨rfl,kvs,hx,rfl,r⟩:=h2.dctq hT
     refine z8o (Q:=fun v H'=>KD G.K H'->Q v H') ⟨ρ l,kvs,rfl,hx,zaP hsm,by simpa using hz,by simp,fun D H2 ps hD h2 sm rw' kd=> ?_⟩ h1
     rw[<-zcp] at W
     exact z5Z W M (zaO r kvs) (z60 hvs _) hD h2 sm rw' (by simp) kd
    ·erw[zaN,if_neg hr] at W;exact False.elim W
   |_=>exact False.elim W
end
end Mi
namespace L2
open PySem PySem.Spec PyProof.Rows
section
variable{prog:Program}{w:World}{A:Around}{E:Value->Shared->Prop}{s:Shared}{K:Type}[DecidableEq K]{knd:HeapKind prog w K}
noncomputable def z4r(xs:List (K×Addr×Value))(k:K):List (K×Addr×Value):=xs.filter fun x=>decide (x.1≠k)
theorem z62{k:K}{p:Addr×Value}: ∀{xs:List (K×Addr×Value)} {j:Nat},(xs.map (·.1)).Nodup->xs[j]? =some (k,p)->xs.eraseIdx j=z4r xs k
 |x::xs,0,hn,h=>by
  have e:x=(k,p):=by simpa using h
  have hn:=B3.mp (show(x.1::xs.map (·.1)).Nodup from hn)
  subst e
  rw[N7,z4r,A3 (by simp)]
  refine(F1.mpr fun y hy=> ?_).symm
  erw[ne_eq,decide_not,E5,decide_eq_false_iff_not]
  exact fun z=>hn.1 (by rw[<-z];exact l7.mpr ⟨y,hy,rfl⟩)
 |x::xs,j+1,hn,h=>by
  have h':xs[j]? =some (k,p):=by simpa using h
  have hn':=B3.mp (show(x.1::xs.map (·.1)).Nodup from hn)
  have hx:x.1≠k:=fun z=>hn'.1 (by rw[z];exact l7.mpr ⟨(k,p),List.mem_of_getElem? h',rfl⟩)
  rw[F5,z62 hn'.2 h',z4r,z4r,A9 (by simpa using hx)]
theorem z4s{α β:Type}(f:α->β): ∀(xs:List α) (j:Nat),(xs.map f).eraseIdx j=(xs.eraseIdx j).map f
 |[],_=>by simp
 |x::xs,0=>by simp
 |x::xs,j+1=>by simp[z4s f xs j]
theorem z4t{d a:Addr}{xs:List (K×Addr×Value)}{k:K}{p:Addr×Value}{Q:Option DictEntry->Shared->Prop}(hu:knd.room A)(hkey:knd.is s.heap k a)(hm:s.heap.DictOfH knd d xs)(hp:atKey xs k=some p)
 (hQ: ∀e h',e.val=p.2->h'.DictOfH knd d (z4r xs k)->Heap.SameBut d s.heap h'->Q (some e) {s with heap:=h',toks:=s.toks+knd.draws k}) (hsz:xs.length<=sizeLine):
 wpAny (model prog w) A (Builtin.Dict.takeOut d (.ref a)) Q E s:=by
 obtain⟨o,es,ep,ho,hc,hd,he,his,hn⟩:=hm
 unfold Builtin.Dict.takeOut
 try with_reducible refine wpAny_holding ?_
 refine wpAny_bind (knd.pyHash hu hkey (wpAny_bind (wpAny_dictFind_heap (s:={s with toks:=s.toks+knd.draws k}) hu hkey ho hd he his hn ?_ ?_)))
 ·intro hno
  rw[atKey_none_of_get hno] at hp
  cases hp
 ·intro j q hj
  rw[atKey_of_get hn hj] at hp
  injection hp with hp
  subst hp
  refine wpAny_bind (wpAny_dictEntries (s:={s with toks:=s.toks+knd.draws k}) ho hd ?_)
  rw[entry_at he j,hj]
  refine wpAny_bind (wpAny_updateDictKeys (hz:=by have e:=size_of_entries he;lia) (s:={s with toks:=s.toks+knd.draws k}) ho hd (wpAny_pure (hQ _ _ rfl ⟨_,_,ep+1,Heap.get?_update_self _ ho (Obj.isFreed_of_dict (Obj.data_mapDictKeys hd _)),
   hc.mapDictKeys _,Obj.data_mapDictKeys hd _, ?_, ?_, ?_⟩ (Heap.SameBut.update ..))))
  ·rw[<-z62 hn hj]
   obtain⟨l⟩:=es
   have he:l=xs.map (entryOfKey knd):=by simpa using he
   rw[he]
   simpa using z4s _ xs j
  ·intro x hx
   exact knd.keeps (his x ((L4.mp hx).1)) ho hd (Heap.SameBut.update ..)
  ·exact List.Nodup.sublist (List.Sublist.map _ D9) hn
theorem z2v(d a:Addr):
 MeetsIn prog w (Builtin.«dict.pop» ⟨[.ref d, .ref a],[]⟩) (fun A R s=>knd.room A.in1/\∃k xs p,knd.is s.heap k a/\s.heap.DictOfH knd d xs/\xs.length<=sizeLine/\atKey xs k=some p/\
  ∀h',h'.DictOfH knd d (z4r xs k)->Heap.SameBut d s.heap h'->R (.ok (.ret p.2)) {s with heap:=h',toks:=s.toks+knd.draws k}):=
 .of_wp fun A R s ⟨hu,k,xs,p,hkey,hm,hsz,hp,h⟩=>by
  have hm0:=hm
  obtain⟨o,es,ep,ho,hc,hd,he,his,hn⟩:=hm0
  unfold Builtin.«dict.pop»
  refine wpAny_bind ?_
  unfold Builtin.Dict.keyAndDefault
  refine wpAny_bind (wpAny_notOrdered_dict hm.typeIs ?_)
  show wpAny _ _ (pure (d,Value.ref a,none)) _ _ s
  refine wpAny_pure ?_
  erw[show(keyPart (Value.ref a)).isSome=false from rfl,s0,if_false]
  refine wpAny_bind (wpAny_dictEntries ho hd (wpAny_bind (wpAny_pure ?_)))
  have hne:es.isEmpty=false:=by
   cases xs with
   |nil=>simp[atKey] at hp
   |cons x xs=>have:=size_of_entries he;simp at this;simp[Array.isEmpty,this]
  erw[hne,s0,if_false]
  refine wpAny_bind (z4t hu hkey hm hp (fun e h' he' hm' hs'=> ?_) hsz)
  erw[Option.isNone_some,s0,if_false]
  exact wpAny_bind (wpAny_letGo (wpAny_pure ⟨e.val,rfl,by rw[he'];exact h h' hm' hs'⟩))
end
section
variable{X:Cx}{pins:List (Addr×Obj)}{σ:St}{H:Hp}{s:Shared}{a b:Addr}{kvs:List (NK×V)}{k:NK}{A:Around}{E:Value->Shared->Prop}
theorem KT.less{H:Hp}{k:NK}: ∀{kvs:List (NK×V)} {xs:List (NK×Addr×Value)},KT H kvs xs->KT H (z1T kvs k) (z4r xs k)
 |_,_, .nil=> .nil
 |_,_, .cons (a:=p) (b:=q) h r=>by
  unfold z1T z4r
  by_cases e:p.1=k
  ·rw[A3 (by simpa using e),A3 (by rw[<-h.1];simpa using e)]
   exact KT.less r
  ·rw[A9 (by simpa using e),A9 (by rw[<-h.1];simpa using e)]
   exact .cons h (KT.less r)
theorem zf2{v:V}{Q:Value->Shared->Prop}(hu:A.units+2<cLine)(I:Inv X pins σ H s)(e:H a=some (.dT kvs))(eb:TK H k b)(l:valV kvs k=some v)
 (h: ∀w' s',Inv X pins σ (upd H a (.dT (z1T kvs k))) s'->RelV v w'->Q w' s'):wpAny (model X.prog X.w) A (call (.builtin "dict.pop") [.ref a, .ref b]) Q E s:=by
 obtain⟨z,hd,xs,rel,dd⟩:=zdV I.hok e
 have hz:xs.length<=sizeLine:=by rw[<-Paired.length rel];exact z
 have hl:(z1T kvs k).length<=sizeLine:=B0 (z9A kvs k) z
 obtain⟨w',hw,rw'⟩:=RelO.some_of (v:=v) (o:=(atKey xs k).map (·.2)) (by rw[<-l];exact rel.val k)
 cases hp:atKey xs k with
 |none=>rw[hp] at hw;cases hw
 |some p=>
  rw[hp] at hw
  injection hw with hw
  refine call_meetsIn PySem.F.slot_dict_pop dd.typeIs PySem.F.entry_dict_pop (PySem.F.args_dict_pop_2 _ _) (z2v (knd:=K8 X.prog X.w) a b)
   ⟨z0p hu,k,xs,p,z37 I.hok eb,dd,hz,hp,fun h' dd' hs=>h _ _ ?_ (by rw[show p.2=w' from hw];exact rw')⟩
  obtain⟨q,es,ep,hq,h2,h3,h4,_,h5⟩:=dd'
  refine z4T I (by rw[e];exact True.intro) hs ⟨q,hq⟩ ⟨hl,hd,_,(KT.less (k:=k) rel).keeps fun c ys ec=> ?_,q,es,ep,hq,h2,h3,h4,h5⟩
  rw[y6 (z0L ec e (fun z=>nomatch z))]
  exact ec
variable{o e:Expr}{apos cpos:Pos}{td ty:TE}
noncomputable def zaQ(td ty:TE):TE:=fun σ H Q=>td σ H fun x H1=> ∃a,x= .ref a/\IsD H1 a/\ty σ H1 fun y H2=> ∃kvs k b v,H2 a=some (.dT kvs)/\y= .ref b/\TK H2 k b/\valV kvs k=some v/\Q v (upd H2 a (.dT (z1T kvs k)))
theorem za5(hu:X.A.units+2<cLine)(ho:PE X o td)(he:PE X e ty)(m:M1 X o "pop" apos e cpos):PE X (.Call (.Attribute o "pop" apos) [e] [] cpos) (zaQ td ty):=by
 intro pins s σ H Q I h
 refine wpAny_Call_method m.base m.few m.line PySem.F.plainAttrs_dict PySem.F.slot_dict_pop PySem.F.type_dict_pop (thn (ho pins s σ H _ I h) fun u s1 ⟨x,H1,I1,rx,a,ex,d,q1⟩=> ?_)
 subst ex
 obtain rfl:u=Value.ref a:=rx
 obtain⟨t1,t2,_⟩:=zau I1 d
 refine⟨t1,t2, ?_⟩
 rw[m.trees]
 refine Calls.callWith_builtin rfl (Calls.evalArgs_plain (Calls.spliced_cons (thn (he pins s1 σ H1 _ I1 q1) fun iv s2 ⟨y,H2,I2,ry,kvs,k,b,v,ea,ey,eb,l,q2⟩=>Calls.spliced_nil ?_)))
 subst ey
 obtain rfl:iv=Value.ref b:=ry
 exact zf2 hu I2 ea eb l fun w' s3 I3 rw'=>⟨v,_,I3,rw',q2⟩
end
end L2
namespace Mi
open PySem L2 PySem.Spec PyProof.Rows
section
variable{ρ:Nat->Addr}{H:Hp}{G:Gx}
noncomputable def z3g(ks:List D)(k:NK):List D:=ks.filter fun d=>decide (tkey d≠some k)
noncomputable def K2:List D->List D->NK->List D
 |d::ks,v::vs,k=>if tkey d=some k then K2 ks vs k else v::K2 ks vs k
 |_,_,_=>[]
theorem z8r{k:NK}: ∀{kvs:List (NK×V)} {vs:List D},RDs G ρ H vs (kvs.map (·.2))->
 z3g (kvs.map fun p=>dkD p.1) k=(z1T kvs k).map (fun p=>dkD p.1)/\RDs G ρ H (K2 (kvs.map fun p=>dkD p.1) vs k) ((z1T kvs k).map (·.2))
 |[],[],_=>⟨rfl,by simp[K2,z1T,RDs]⟩
 |[],_::_,h=>by erw[l3,RDs] at h;obtain⟨_,_,e,_⟩:=h;cases e
 |p::kvs,[],h=>by erw[b7,RDs] at h;cases h
 |p::kvs,w::vs,h'=>by
  erw[b7,RDs] at h'
  obtain⟨x,r,e1,h1,h2⟩:=h'
  cases e1
  obtain⟨i1,i2⟩:=z8r (k:=k) h2
  erw[b7,z3g,K2,z1T,Q8,Option.some.injEq] at i1 i2⊢
  by_cases hk:p.1=k
  ·rw[if_pos hk,A3 (by simp[Q8,hk]),A3 (by simpa using hk)]
   exact⟨i1,i2⟩
  ·rw[if_neg hk,A9 (by simp[Q8,hk]),A9 (by simpa using hk)]
   erw[b7,RDs]
   exact⟨by rw[i1],_,_,rfl,h1,i2⟩
theorem z1k{k:NK}: ∀{ks vs:List D},labsL vs=[]->labsL (K2 ks vs k)=[]
 |[],vs,_=>by simp[K2,labsL]
 |_::_,[],_=>by simp[K2,labsL]
 |d::ks,v::vs,h=>by
  erw[labsL,E1] at h
  erw[K2]
  split
  ·exact z1k h.2
  ·erw[labsL,h.1,z1k h.2,h9]
end
section
variable{X:Cx}{G:Gx}{F:Fy}{a o:Expr}{apos cpos:Pos}{mo mi:M D}
noncomputable def zaR(o i:D):M D:=fun s=>match o with
 | .dct l ks vs=>match tkey i with
  |some k=>(match findK ks vs k with
   |some d=>if isT ks=true/\labsL vs=[] then .ok d (s.put l (.dct l (z3g ks k) (K2 ks vs k))) else .no
   |none=> .no)
  |none=> .no
 |_=> .no
noncomputable def z5a(mo mi:M D):M D:=bd mo fun o=>bd (zgf o) fun _=>bd mi fun i=>bd pop fun o'=>zaR o' i
theorem za6{σ:L2.St}{H:Hp}{Q:VK}(h:tM G F (z5a mo mi) σ H Q):zaQ (tM G F mo) (tM G F mi) σ H (fun v H'=>KD G.K H'->Q v H'):=by
 obtain⟨tv,hs,ρ,s,M,W⟩:=h
 refine⟨tv,hs,ρ,s,M, ?_⟩
 unfold z5a at W
 erw[bd] at W
 cases e0:mo s with
 |ex d s1=>erw[e0] at W;exact W
 |no=>erw[e0] at W;exact W
 |ok o s1=>
  erw[e0] at W
  intro ρ1 v H1 M1
  cases o with
  |dct l ks vs=>
   by_cases hT:isT ks=true
   ·erw[zgf,if_pos hT] at W
    have h1:=M1.rd1
    obtain⟨rfl,kvs,hx,rfl,r⟩:=h1.dctq hT
    refine⟨ρ1 l,rfl, .inr ⟨kvs, .inl hx⟩, ?_⟩
    refine⟨some (.ref (ρ1 l))::tv,z7L hs,ρ1,_,M1.push, ?_⟩
    cases e2:mi (s1.psh (.dct l (kvs.map fun p=>dkD p.1) vs)) with
    |ex d s3=>erw[e2] at W;exact W
    |no=>erw[e2] at W;exact W
    |ok i s2=>
     erw[e2,pop] at W
     intro ρ3 z H3 M3
     cases e4:s2.tm with
     |nil=>erw[e4] at W;exact False.elim W
     |cons o3 r3=>
      cases o3 with
      |none=>erw[e4] at W;exact False.elim W
      |some x4=>
       erw[e4] at W
       have M5:=M3.down e4
       have h:=M5.rd
       erw[RDs] at h
       obtain⟨_,_,e,g1,_,_,e2,g2,_⟩:=h
       cases e;cases e2
       have b1:LB F.toFx ρ3 s2.n (y3 x4):=fun l h=>M5.lb l (by erw[labsL];exact b9 _ h)
       cases x4 with
       |dct l' ks' vs'=>
        cases ek:tkey i with
        |none=>erw[zaR,ek] at W;exact False.elim W
        |some k=>
         cases ef:findK ks' vs' k with
         |none=>erw[zaR,ek,ef] at W;exact False.elim W
         |some d=>
          by_cases hc:isT ks'=true/\labsL vs'=[]
          ·erw[zaR,ek,ef,if_pos hc] at W
           obtain⟨hT',hvs⟩:=hc
           obtain⟨el,kvs',hx',rfl,r'⟩:=g1.dctq hT'
           injection el with el
           obtain⟨b,rfl,hb,_⟩:=z3A g2 ek
           obtain⟨w,hv,hd,hm⟩:=z0H kvs' vs' d r' ef
           have bl:=b1 l' (by erw[y3];exact i3 ..)
           have ld:y3 d=[]:=by
            cases hl:y3 d with
            |nil=>rfl
            |cons j js=>exact absurd (labsL_mem hm j (by rw[hl];exact i3 ..)) (by rw[hvs];exact A4)
           have st:G2 H3 (upd H3 (ρ3 l') (.dT (z1T kvs' k))):=
            ⟨fun b ys q=>by rw[y6 (z0L q hx' (by intro z;cases z))];exact q,fun b o u q=>by rw[y6 (z0L q hx' (by intro z;cases z))];exact q⟩
           have pr:=z8r (k:=k) r'
           refine⟨kvs',k,b,w,by rw[el];exact hx',rfl,hb,hv,fun _=> ?_⟩
           rw[el]
           refine wM.out (s:=Stt.put {s2 with tm:=r3} l' (.dct l' (z3g (kvs'.map fun p=>dkD p.1) k) (K2 (kvs'.map fun p=>dkD p.1) vs' k))) W (M5.m.put2 bl.1 bl.2 st (z5R M5.m.kd hx') ?_ fun j hj=> ?_) (RD.stay st _ _ hd fun j hj=>by rw[ld] at hj;cases hj) fun j hj=>by rw[ld] at hj;cases hj
           ·erw[RD]
            refine⟨trivial, .inr ⟨z1T kvs' k,y9,pr.1, ?_⟩⟩
            exact RDs.stay st _ _ pr.2 fun j hj=>by rw[z1k hvs] at hj;cases hj
           ·erw[y3,pr.1,z3B,z1k hvs,h9,i4] at hj
            rw[hj];exact bl
          ·erw[zaR,ek,ef,if_neg hc] at W;exact False.elim W
       |_=>exact False.elim W
   ·erw[zgf,if_neg hT] at W;exact False.elim W
  |_=>exact False.elim W
theorem se_pop1(hk:X.K=G.K)(hu:X.A.units+64<cLine)(ho:SE X G F o mo)(ha:SE X G F a mi)(m:M1 X o "pop" apos a cpos):SE X G F (.Call (.Attribute o "pop" apos) [a] [] cpos) (z5a mo mi):=
 PE.imp hk (za5 (show X.A.units+2<cLine by lia) ho ha m) fun _ _ _ h=>za6 h
end
end Mi
namespace L2
open PySem PySem.Spec PyProof.Rows
section
variable{prog:Program}{w:World}{A:Around}{E:Value->Shared->Prop}{s:Shared}{z TI TO p q t u:Addr}{i j:Nat}{xs ys:Array Value}{a b:Value}
structure ZT(h:Heap)(z TI TO p q t u:Addr)(i j:Nat)(xs ys:Array Value)(a b:Value):Prop where
 z:IsZip h z TI TO .none
 ti:IsPair h TI (.ref p) (.ref q)
 to:IsPair h TO a b
 p:h.IsTupleIter p t i
 q:h.IsTupleIter q u j
 t:h.IsTuple t xs
 u:h.IsTuple u ys
noncomputable def Bt(z TO p q:Addr)(h h':Heap):Prop:= ∀c o,c≠z->c≠TO->c≠p->c≠q->h.get? c=some o->h'.get? c=some o
theorem zcq{x y:Value}{Q:Value->Shared->Prop}(D:ZipApart z TI TO p q t u)(S:ZT s.heap z TI TO p q t u i j xs ys a b)(hx:xs[i]? =some x)(hy:ys[j]? =some y)
 (hQ: ∀g,IsZip g z TI TO (rawInt s.heap.objs.size)->IsPair g TO x y->g.IsTupleIter p t (i+1)->g.IsTupleIter q u (j+1)->IsPair g s.heap.objs.size x y->Bt z TO p q s.heap g->Q (.ref s.heap.objs.size) {s with heap:=g}):
 wpAny (model prog w) A (Builtin.«zip.__next__» ⟨[.ref z],[]⟩) (fun fin s'=> ∃v,fin= .done (.ret v)/\Q v s') E s:=by
 have Z:=S.z
 refine wpAny_bind (m:=field (.ref z) 2) (wpAny_field Z rfl (x:= .bool false) rfl (wpAny_bind (m:=field (.ref z) 3) (wpAny_field Z rfl (x:= .ref TI) rfl (wpAny_bind (wpAny_seqItems S.ti rfl (wpAny_bind (m:=Builtin.SmallTypes.ownedTupleIsFree (.ref z)) ?_))))))
 unfold Builtin.SmallTypes.ownedTupleIsFree
 refine wpAny_bind (wpAny_field Z rfl (x:= .none) rfl (wpAny_pure ?_))
 erw[if_true]
 refine wpAny_bind (wpAny_rule (wpAny_bind (wpAny_field Z rfl (x:= .ref TO) rfl (wpAny_bind (wpAny_setField_rec Z (by simp) fun g1 Z1 k1=>wpAny_bind ?_)))))
 have Z1:IsZip g1 z TI TO .ellipsis:=Z1
 erw[E8,S4,O7,S8]
 refine wpAny_bind (wpAny_bind (wpAny_onRaise (wpAny_bind (m:=Builtin.SmallTypes.nextOf (.ref p)) (G3 (S.p.extBut k1.extBut D.i1z) (S.t.extBut k1.extBut D.l1z) hx fun g2 P2 k2=>wpAny_pure ?_))))
 have O2:IsPair g2 TO a b:=k2.extBut _ _ D.TOi1 (k1.extBut _ _ D.TOz S.to)
 refine wpAny_bind (wpAny_seqItems O2 rfl (wpAny_bind (wpAny_updateSeq_pair O2 fun g3 O3 k3=>wpAny_bind (wpAny_letGo (wpAny_pure ?_)))))
 have O3:IsPair g3 TO x b:=O3
 have q3:g3.IsTupleIter q u j:=((S.q.extBut k1.extBut D.i2z).extBut k2.extBut D.i12.symm).extBut k3.extBut D.TOi2.symm
 have u3:g3.IsTuple u ys:=((S.u.extBut k1.extBut D.l2z).extBut k2.extBut D.l2i1).extBut k3.extBut D.l2TO
 refine wpAny_bind (wpAny_bind (wpAny_onRaise (wpAny_bind (m:=Builtin.SmallTypes.nextOf (.ref q)) (G3 q3 u3 hy fun g4 Q4 k4=>wpAny_pure ?_))))
 have O4:IsPair g4 TO x b:=k4.extBut _ _ D.TOi2 O3
 refine wpAny_bind (wpAny_seqItems O4 rfl (wpAny_bind (wpAny_updateSeq_pair O4 fun g5 O5 k5=>wpAny_bind (wpAny_letGo (wpAny_pure (wpAny_pure ?_))))))
 have O5:IsPair g5 TO x y:=O5
 refine wpAny_bind (wpAny_seqItems O5 rfl (wpAny_bind (wpAny_newTuple ?_)))
 have n5:g5.objs.size=s.heap.objs.size:=by rw[k5.1,k4.1,k3.1,k2.1,k1.1]
 have Z5:IsZip g5 z TI TO .ellipsis:=k5.extBut _ _ D.TOz.symm (k4.extBut _ _ D.i2z.symm (k3.extBut _ _ D.TOz.symm (k2.extBut _ _ D.i1z.symm Z1)))
 have B5:Bt z TO p q s.heap g5:=fun c o c1 c2 c3 c4 e=>k5.extBut _ _ c2 (k4.extBut _ _ c4 (k3.extBut _ _ c2 (k2.extBut _ _ c3 (k1.extBut _ _ c1 e))))
 have P5:g5.IsTupleIter p t (i+1):=((P2.extBut k3.extBut D.TOi1.symm).extBut k4.extBut D.i12).extBut k5.extBut D.TOi1.symm
 have Q5:g5.IsTupleIter q u (j+1):=Q4.extBut k5.extBut D.TOi2.symm
 have lz:z<g5.objs.size:=Heap.lt_size Z5
 refine wpAny_bind (m:=Builtin.SmallTypes.ownedTupleHandOut (.ref z) (.ref g5.objs.size)) ?_
 unfold Builtin.SmallTypes.ownedTupleHandOut
 refine wpAny_bind (wpAny_setField_rec (Heap.get?_push_of_some _ Z5) (by simp) fun g7 Z7 k7=> ?_)
 have Z7:IsZip g7 z TI TO (rawInt g5.objs.size):=Z7
 refine wpAny_setField_rec Z7 (by simp) fun g8 Z8 k8=> ?_
 have Z8:IsZip g8 z TI TO (rawInt g5.objs.size):=Z8
 have up: ∀c o,c≠z->g5.get? c=some o->g8.get? c=some o:=fun c o c1 e=>k8.extBut _ _ c1 (k7.extBut _ _ c1 (Heap.get?_push_of_some _ e))
 have T8:IsPair g8 g5.objs.size x y:=k8.extBut _ _ (L9 lz) (k7.extBut _ _ (L9 lz) (Heap.get?_push_size _ rfl))
 rw[n5] at Z8 T8
 refine wpAny_pure ⟨_,rfl, ?_⟩
 have fin:=hQ g8 Z8 (up _ _ D.TOz O5) (let⟨o,e,r⟩:=P5;⟨o,up _ o D.i1z e,r⟩) (let⟨o,e,r⟩:=Q5;⟨o,up _ o D.i2z e,r⟩) T8 fun c o c1 c2 c3 c4 e=>up c o c1 (B5 c o c1 c2 c3 c4 e)
 rw[<-n5] at fin
 exact fin
theorem zcr{Q:PySem.Fin->Shared->Prop}(hh:A.handled=none)(D:ZipApart z TI TO p q t u)(S:ZT s.heap z TI TO p q t u i j xs ys a b)(he:xs[i]? =none\/ys[j]? =none)
 (hE: ∀g e,Bt z TO p q s.heap g->(∃o,g.get? e=some o/\o.cls= .type "StopIteration")->E (.ref e) {s with heap:=g}):
 wpAny (model prog w) A (Builtin.«zip.__next__» ⟨[.ref z],[]⟩) Q E s:=by
 have Z:=S.z
 refine wpAny_bind (m:=field (.ref z) 2) (wpAny_field Z rfl (x:= .bool false) rfl (wpAny_bind (m:=field (.ref z) 3) (wpAny_field Z rfl (x:= .ref TI) rfl (wpAny_bind (wpAny_seqItems S.ti rfl (wpAny_bind (m:=Builtin.SmallTypes.ownedTupleIsFree (.ref z)) ?_))))))
 unfold Builtin.SmallTypes.ownedTupleIsFree
 refine wpAny_bind (wpAny_field Z rfl (x:= .none) rfl (wpAny_pure ?_))
 erw[if_true]
 refine wpAny_bind (wpAny_rule (wpAny_bind (wpAny_field Z rfl (x:= .ref TO) rfl (wpAny_bind (wpAny_setField_rec Z (by simp) fun g1 Z1 k1=>wpAny_bind ?_)))))
 have Z1:IsZip g1 z TI TO .ellipsis:=Z1
 erw[E8,S4,O7,S8]
 have end': ∀(g g':Heap) (e:Addr),IsZip g z TI TO .ellipsis->(∃o,g.get? e=some o/\o.cls= .type "StopIteration")->Bt z TO p q s.heap g->Heap.SameBut z g g'->E (.ref e) {s with heap:=g'}:=fun g g' e Zg ⟨o,ho,hc⟩ B k=>by
  have ne:e≠z:=fun x=>by subst x;rw[Zg] at ho;cases ho;simp at hc
  exact hE g' e (fun c o c1 c2 c3 c4 x=>k.extBut _ _ c1 (B c o c1 c2 c3 c4 x)) ⟨o,k.extBut _ _ ne ho,hc⟩
 cases hx:xs[i]? with
 |none=>
  refine wpAny_bind (wpAny_bind (wpAny_onRaise (wpAny_bind (m:=Builtin.SmallTypes.nextOf (.ref p)) (z0l hh (S.p.extBut k1.extBut D.i1z) (S.t.extBut k1.extBut D.l1z) hx fun g2 e k2 he'=> ?_))))
  have Z2:IsZip g2 z TI TO .ellipsis:=k2 _ _ D.i1z.symm Z1
  exact wpAny_setField_rec Z2 (by simp) fun g3 _ k3=>end' g2 g3 e Z2 he' (fun c o c1 _ c3 _ x=>k2 _ _ c3 (k1.extBut _ _ c1 x)) k3
 |some x=>
  have hy:ys[j]? =none:=he.resolve_left (by rw[hx];simp)
  refine wpAny_bind (wpAny_bind (wpAny_onRaise (wpAny_bind (m:=Builtin.SmallTypes.nextOf (.ref p)) (G3 (S.p.extBut k1.extBut D.i1z) (S.t.extBut k1.extBut D.l1z) hx fun g2 P2 k2=>wpAny_pure ?_))))
  have O2:IsPair g2 TO a b:=k2.extBut _ _ D.TOi1 (k1.extBut _ _ D.TOz S.to)
  refine wpAny_bind (wpAny_seqItems O2 rfl (wpAny_bind (wpAny_updateSeq_pair O2 fun g3 O3 k3=>wpAny_bind (wpAny_letGo (wpAny_pure ?_)))))
  have q3:g3.IsTupleIter q u j:=((S.q.extBut k1.extBut D.i2z).extBut k2.extBut D.i12.symm).extBut k3.extBut D.TOi2.symm
  have u3:g3.IsTuple u ys:=((S.u.extBut k1.extBut D.l2z).extBut k2.extBut D.l2i1).extBut k3.extBut D.l2TO
  refine wpAny_bind (wpAny_bind (wpAny_onRaise (wpAny_bind (m:=Builtin.SmallTypes.nextOf (.ref q)) (z0l hh q3 u3 hy fun g4 e k4 he'=> ?_))))
  have Z4:IsZip g4 z TI TO .ellipsis:=k4 _ _ D.i2z.symm (k3.extBut _ _ D.TOz.symm (k2.extBut _ _ D.i1z.symm Z1))
  exact wpAny_setField_rec Z4 (by simp) fun g5 _ k5=>end' g4 g5 e Z4 he' (fun c o c1 c2 c3 c4 x=>k4 _ _ c4 (k3.extBut _ _ c2 (k2.extBut _ _ c3 (k1.extBut _ _ c1 x)))) k5
theorem z4u{x y:Value}{Q:Option Value->Shared->Prop}(D:ZipApart z TI TO p q t u)(S:ZT s.heap z TI TO p q t u i j xs ys a b)(hx:xs[i]? =some x)(hy:ys[j]? =some y)
 (hQ: ∀g,IsZip g z TI TO (rawInt s.heap.objs.size)->IsPair g TO x y->g.IsTupleIter p t (i+1)->g.IsTupleIter q u (j+1)->IsPair g s.heap.objs.size x y->Bt z TO p q s.heap g->Q (some (.ref s.heap.objs.size)) {s with heap:=g}):
 wpAny (model prog w) A (pyNext (.ref z)) Q E s:=by
 have ty:s.TypeIs (.ref z) "zip" :=⟨_,S.z,rfl⟩
 have go:=zcq (prog:=prog) (w:=w) (A:=A.in1) (E:=fun e s'=>False) (Q:=fun v s'=>Q (some v) s') D S hx hy hQ
 unfold pyNext
 exact wpAny_bind (wpAny_attempt (wpAny_callSpecial?_slot (name:=Str.ofString "__next__") ty F.slot_zip_next (wpAny_call_entry F.slot_zip_next ty F.entry_zip_next (wpAny_mono go (fun f s' ⟨v,e,h⟩=>⟨v,e,wpAny_pure h⟩) fun _ _ e=>e.elim) (F.args_zip_next_1 _))))
theorem z4v{Q:Option Value->Shared->Prop}(hh:A.handled=none)(D:ZipApart z TI TO p q t u)(S:ZT s.heap z TI TO p q t u i j xs ys a b)(he:xs[i]? =none\/ys[j]? =none)
 (hQ: ∀g,Bt z TO p q s.heap g->Q none {s with heap:=g}):wpAny (model prog w) A (pyNext (.ref z)) Q E s:=by
 have ty:s.TypeIs (.ref z) "zip" :=⟨_,S.z,rfl⟩
 unfold pyNext
 refine wpAny_bind (wpAny_attempt (wpAny_callSpecial?_slot (name:=Str.ofString "__next__") ty F.slot_zip_next (wpAny_call_entry F.slot_zip_next ty F.entry_zip_next (zcr hh D S he fun g e B ⟨o,ho,hc⟩=> ?_) (F.args_zip_next_1 _))))
 exact wpAny_bind (wpAny_isInstance (T:= "StopIteration") (b:=true) ⟨o,ho,hc⟩ isSubtype_stop (wpAny_pure (hQ _ B)))
end
section
noncomputable abbrev tIt(t:Addr):Obj:={cls:= .type "tuple_iterator",data:= .fields #[.ref t, .int 0 0]}
noncomputable abbrev zt2(h:Heap)(t u:Addr):Heap:=(h.push (tIt t)).push (tIt u)
noncomputable abbrev zt4(h:Heap)(t u:Addr):Heap:=((zt2 h t u).push {cls:= .type "tuple",data:= .seq #[.ref h.objs.size, .ref (h.push (tIt t)).objs.size]}).push {cls:= .type "tuple",data:= .seq #[.none, .none]}
noncomputable abbrev zt3(h:Heap)(t u:Addr):Heap:=(zt2 h t u).push {cls:= .type "tuple",data:= .seq #[.ref h.objs.size, .ref (h.push (tIt t)).objs.size]}
noncomputable abbrev zt5(h:Heap)(t u:Addr):Heap:=(zt4 h t u).push {cls:= .type "zip",data:= .fields #[.none, .bool false, .bool false, .ref (zt2 h t u).objs.size, .ref (zt3 h t u).objs.size]}
theorem zf3(t u:Addr)(xs ys:Array Value):Meets (Builtin.«zip.__new__» ⟨[.type "zip", .ref t, .ref u],[]⟩) (fun _ R s=>s.heap.IsTuple t xs/\s.heap.IsTuple u ys/\R (.ok (.ret (.ref (zt4 s.heap t u).objs.size))) {s with heap:=zt5 s.heap t u}):=
 .of_wp fun prog w A R s ⟨ht,hu,h⟩=>by
  obtain⟨hp,gn,dr,tk,os⟩:=s
  have sub:=sub_zip
  have T:Heap.IsTuple (Shared.heap ⟨hp,gn,dr,tk,os⟩) t xs:=ht
  have U:Heap.IsTuple (Shared.heap ⟨hp.push (tIt t),gn,dr,tk,os⟩) u ys:=Heap.IsTuple.push hu _
  wp_walk using wpAny_pyIter_tuple T,wpAny_pyIter_tuple U
  exact⟨_,rfl,h⟩
variable{prog:Program}{w:World}{A:Around}{E:Value->Shared->Prop}{s:Shared}{t u:Addr}{xs ys:Array Value}
theorem z8s{Q:Value->Shared->Prop}(ht:s.heap.IsTuple t xs)(hu:s.heap.IsTuple u ys)
 (h: ∀g,ZT g (s.heap.objs.size+4) (s.heap.objs.size+2) (s.heap.objs.size+3) s.heap.objs.size (s.heap.objs.size+1) t u 0 0 xs ys .none .none->(∀c o,s.heap.get? c=some o->g.get? c=some o)->Q (.ref (s.heap.objs.size+4)) {s with heap:=g}):
 wpAny (model prog w) A (call (.type "zip") [.ref t, .ref u]) Q E s:=by
 refine callType_new F.called_zip (by decide) (F.typeCall_zip_2 _ _) (F.newCall_zip_2 _ _) (fun obj=>F.args_object_init_3 obj _ _) F.entry_zip_new (zf3 t u xs ys) ⟨ht,hu, ?_⟩
 have n1:(s.heap.push (tIt t)).objs.size=s.heap.objs.size+1:=Heap.size_push ..
 have n2:(zt2 s.heap t u).objs.size=s.heap.objs.size+2:=by rw[Heap.size_push,n1]
 have n3:(zt3 s.heap t u).objs.size=s.heap.objs.size+3:=by rw[Heap.size_push,n2]
 have n4:(zt4 s.heap t u).objs.size=s.heap.objs.size+4:=by rw[Heap.size_push,n3]
 have up2: ∀c o,(zt2 s.heap t u).get? c=some o->(zt5 s.heap t u).get? c=some o:=fun c o e=>Heap.get?_push_of_some _ (Heap.get?_push_of_some _ (Heap.get?_push_of_some _ e))
 have all: ∀c o,s.heap.get? c=some o->(zt5 s.heap t u).get? c=some o:=fun c o e=>up2 c o (Heap.get?_push_of_some _ (Heap.get?_push_of_some _ e))
 have e5:(zt5 s.heap t u).get? (zt4 s.heap t u).objs.size=some _:=Heap.get?_push_size _ rfl
 have e4:(zt5 s.heap t u).get? (zt3 s.heap t u).objs.size=some _:=Heap.get?_push_of_some _ (Heap.get?_push_size _ rfl)
 have e3:(zt5 s.heap t u).get? (zt2 s.heap t u).objs.size=some _:=Heap.get?_push_of_some _ (Heap.get?_push_of_some _ (Heap.get?_push_size _ rfl))
 have e2:(zt5 s.heap t u).get? (s.heap.push (tIt t)).objs.size=some _:=up2 _ _ (Heap.get?_push_size _ rfl)
 have e1:(zt5 s.heap t u).get? s.heap.objs.size=some _:=up2 _ _ (Heap.get?_push_of_some _ (Heap.get?_push_size _ rfl))
 rw[n2,n3,n4] at e5
 rw[n1,n2] at e3
 rw[n3] at e4
 rw[n1] at e2
 rw[n4]
 exact⟨⟨_,e5,rfl⟩,h _ ⟨e5,e3,e4,⟨_,e1,rfl,rfl⟩,⟨_,e2,rfl,rfl⟩,let⟨o,e,r⟩:=ht;⟨o,all _ _ e,r⟩,let⟨o,e,r⟩:=hu;⟨o,all _ _ e,r⟩⟩ all⟩
end
theorem ist{h:Heap}{a:Addr}{its:Array Value}(p:IsTup h a its):h.IsTuple a its:=p
theorem tit{h h':Heap}{a t:Addr}{i:Nat}(x:h.IsTupleIter a t i)(k: ∀o,h.get? a=some o->h'.get? a=some o):h'.IsTupleIter a t i:=let⟨o,e,r⟩:=x;⟨o,k o e,r⟩
noncomputable def zhc(K:W.Frag)(a b:Addr):It:=
 ⟨fun i H=> ∃xs ys x y,SqT K H a xs/\SqT K H b ys/\xs[i]? =some x/\ys[i]? =some y,
  fun i H v H'=> ∃p x y,H p=none/\v= .ref p/\H'=upd H p (.tup [x,y])/\(∀xs,SqT K H a xs->xs[i]? =some x)/\(∀ys,SqT K H b ys->ys[i]? =some y)/\∀b o,K.lookup b=some o->H' b=none,
  fun i H=> ∃xs ys,SqT K H a xs/\SqT K H b ys/\(xs.length<=i\/ys.length<=i)⟩
theorem z8t{P:Program}{w:World}{K:W.Frag}{elts:List Expr}{x1:Nat}{tpos:Pos}{a b z TI TO i1 i2:Addr}(D:ZipApart z TI TO i1 i2 a b):zbi P w K (.Tuple elts x1 tpos) (zhc K a b) [z,TI,TO,i1,i2] z
 (fun i h=>IsZip h z TI TO .none/\IsPair h TI (.ref i1) (.ref i2)/\(∃u v,IsPair h TO u v)/\h.IsTupleIter i1 a i/\h.IsTupleIter i2 b i) where
 mem:=by simp
 obj:=fun i h st c hc=>by
  obtain⟨h1,h2,⟨u,v,h3⟩,h4,h5⟩:=st
  have hc:c=z\/c=TI\/c=TO\/c=i1\/c=i2:=by simpa using hc
  rcases hc with rfl|rfl|rfl|rfl|rfl
  ·exact⟨_,h1,fun v z=>by
    have z':Data.fields _=Data.cell v:=z
    cases z'⟩
  ·exact⟨_,h2,fun v z=>by
    have z':Data.seq _ _=Data.cell v:=z
    cases z'⟩
  ·exact⟨_,h3,fun v z=>by
    have z':Data.seq _ _=Data.cell v:=z
    cases z'⟩
  ·obtain⟨o,e,c,d⟩:=h4
   exact⟨o,e,fun v z=>by rw[d] at z;cases z⟩
  ·obtain⟨o,e,c,d⟩:=h5
   exact⟨o,e,fun v z=>by rw[d] at z;cases z⟩
 keep:=fun i h h' st k=>by
  obtain⟨h1,h2,⟨u,v,h3⟩,h4,h5⟩:=st
  exact⟨k z (by simp) _ h1,k TI (by simp) _ h2,⟨u,v,k TO (by simp) _ h3⟩,tit h4 fun o q=>k i1 (by simp) o q,tit h5 fun o q=>k i2 (by simp) o q⟩
 item:=by
  intro X hP hw hK hc i pins s σ H E I hf st hg
  subst hP hw hK
  obtain⟨h1,h2,⟨u0,v0,h3⟩,h4,h5⟩:=st
  obtain⟨xs,ys,x,y,hq,hr,hx,hy⟩:=hg
  obtain⟨its,rv,p,hz⟩:=I.tuple hq
  obtain⟨jts,rw',p',hz'⟩:=I.tuple hr
  obtain⟨u,hu,ru⟩:=rv.get hx
  obtain⟨v,hv,rv'⟩:=rw'.get hy
  refine z4u D ⟨h1,h2,h3,h4,h5,ist p,ist p'⟩ (x:=u) (y:=v) (by simpa using hu) (by simpa using hv) fun g1 z1 t1 l1 l2 t2 hk=> ?_
  refine⟨_,rfl,wpAny_letOwnedTupleGo_zip z1 fun g2 z2 hs2=> ?_⟩
  have hs2:Heap.SameBut z g1 g2:=hs2
  have fr: ∀c∈[z,TI,TO,i1,i2],c≠s.heap.objs.size:=fun c hc=>by
   have hc:c=z\/c=TI\/c=TO\/c=i1\/c=i2:=by simpa using hc
   rcases hc with rfl|rfl|rfl|rfl|rfl
   ·exact l9 (Heap.lt_size h1)
   ·exact l9 (Heap.lt_size h2)
   ·exact l9 (Heap.lt_size h3)
   ·obtain⟨o,q,_⟩:=h4
    exact l9 (Heap.lt_size q)
   ·obtain⟨o,q,_⟩:=h5
    exact l9 (Heap.lt_size q)
  have t3:g2.get? s.heap.objs.size=some {cls:= .type "tuple",data:= .seq #[u,v]}:=(hs2.2 _ (Ne.symm (fr z (by simp)))).trans t2
  have I1:Inv X pins σ (upd H s.heap.objs.size (.tup [x,y])) {s with heap:=s.heap.push {cls:= .type "tuple",data:= .seq #[u,v]},toks:=s.toks}:=I.laid (t':=s.toks) (o:= .tup [x,y]) (fun b ob q=>Heap.get?_push_of_some _ q) (c8 _) ⟨by show 2<=sizeLine;decide,[u,v], .cons ru (.cons rv' .nil),IsTup.new _ _⟩
  have f1: ∀c∈[z,TI,TO,i1,i2],z4K X pins (upd H s.heap.objs.size (.tup [x,y])) c:=fun c hc=>⟨by rw[y6 (fr c hc)];exact(hf c hc).1,(hf c hc).2⟩
  have I2:=I1.turnedL (h':=g2) (t':=s.toks) (fun c o hc q=>by
   have hc:c≠z/\c≠TI/\c≠TO/\c≠i1/\c≠i2:=by simpa using hc
   rcases Heap.get?_push_cases (show(s.heap.push {cls:= .type "tuple",data:= .seq #[u,v]}).get? c=some o from q) with⟨rfl,rfl⟩|q'
   ·exact t3
   ·exact(hs2.2 c hc.1).trans (hk c o hc.1 hc.2.2.1 hc.2.2.2.1 hc.2.2.2.2 q')) f1
  refine⟨.ref s.heap.objs.size,_,I2,rfl,⟨_,x,y,I.hok.fresh (c8 _),rfl,rfl,fun ws hw=>by rw[I.tuple_inj hw hq];exact hx,fun ws hw=>by rw[I.tuple_inj hw hr];exact hy,fun b o q=>(I2.bs b o (I2.ok.mod.kin b o q)).2⟩,⟨z2, ?_,⟨u,v, ?_⟩, ?_, ?_⟩,fun b hb=>(f1 b hb).1⟩
  ·exact(hs2.2 TI D.TIz).trans (hk TI _ D.TIz D.TITO D.TIi1 D.TIi2 h2)
  ·exact(hs2.2 TO D.TOz).trans t1
  ·obtain⟨o,q,r⟩:=l1
   exact⟨o,(hs2.2 i1 D.i1z).trans q,r⟩
  ·obtain⟨o,q,r⟩:=l2
   exact⟨o,(hs2.2 i2 D.i2z).trans q,r⟩
 done:=by
  intro X hP hw hK hc i pins s σ H E I hf st hg
  subst hP hw hK
  obtain⟨h1,h2,⟨u0,v0,h3⟩,h4,h5⟩:=st
  obtain⟨xs,ys,hq,hr,hx⟩:=hg
  obtain⟨its,rv,p,hz⟩:=I.tuple hq
  obtain⟨jts,rw',p',hz'⟩:=I.tuple hr
  have e1:=rv.length
  have e2:=rw'.length
  refine z4v (I.ok.hd hc) D ⟨h1,h2,h3,h4,h5,ist p,ist p'⟩ ?_ fun h' eb=>⟨rfl,I.turnedL (t':=s.toks) (fun c o hb q=> ?_) hf⟩
  ·rcases hx with hx|hx
   ·exact .inl (by simp;lia)
   ·exact .inr (by simp;lia)
  ·have hc:c≠z/\c≠TI/\c≠TO/\c≠i1/\c≠i2:=by simpa using hb
   exact eb c o hc.1 hc.2.2.1 hc.2.2.2.1 hc.2.2.2.2 q
 self:=fun A i s Q E st h=>wpAny_pyIter_zip st.1 h
section
variable{X:Cx}
noncomputable def zhd(K:W.Frag)(ta:TA):TI:=fun σ H R=>ta σ H fun vs H1=> ∃a b,vs=[.ref a, .ref b]/\(∃xs,SqT K H1 a xs)/\(∃ys,SqT K H1 b ys)/\R (zhc K a b) H1
theorem zcs{a b:Expr}{ta:TA}{p pos tpos:Pos}{elts:List Expr}{x1:Nat}(hg:Gl X "zip")(hm:X.mg "zip" =none)(ha:PA X [a,b] ta)(hs:starEach [a,b] X.env=[(false,eval a X.env),(false,eval b X.env)]:=by rfl)(hs2:starEach [b] X.env=[(false,eval b X.env)]:=by rfl):PI X (.Tuple elts x1 tpos) (.Call (.Name "zip" p) [a,b] [] pos) (zhd X.K ta):=by
 intro pins s σ H R I h
 refine Call_ (z3X I hg hm PyProof.Rows.Boot.«zip» (PyProof.Rows.callWith_type1 (thn (ha pos pins s σ H _ I h) fun us s1 ⟨vs,H1,I1,r1,q1⟩=> ?_) (by rw[hs,hs2]) (by rw[hs2];rfl)))
 obtain⟨l,m,e,⟨xs,hq⟩,⟨ys,hr⟩,q⟩:=q1
 subst e
 cases r1 with
 |cons r rr=>
  cases rr with
  |cons r' rr=>
   cases rr
   cases r
   cases r'
   obtain⟨its,rv,p,hz⟩:=I1.tuple hq
   obtain⟨jts,rw',p',hz'⟩:=I1.tuple hr
   refine z8s (ist p) (ist p') fun h' ⟨g1,g2,g3,g4,g5,_,_⟩ hk=> ?_
   refine wpAny_pyIter_zip g1 ?_
   have I2:Inv X pins σ H1 {s1 with heap:=h'}:=I1.kept (t':=s1.toks) hk
   have a1:l<s1.heap.objs.size:=by obtain⟨o,e,_⟩:=ist p;exact Heap.lt_size e
   have a2:m<s1.heap.objs.size:=by obtain⟨o,e,_⟩:=ist p';exact Heap.lt_size e
   refine⟨s1.heap.objs.size+4,[s1.heap.objs.size+4,s1.heap.objs.size+2,s1.heap.objs.size+3,s1.heap.objs.size,s1.heap.objs.size+1],_,_,H1,rfl,I2,z8t (zipApart_new a1 a2),⟨g1,g2,⟨_,_,g3⟩,g4,g5⟩,fun c hc=> ?_,q⟩
   have hc:s1.heap.objs.size<=c:=by
    have hc:c=s1.heap.objs.size+4\/c=s1.heap.objs.size+2\/c=s1.heap.objs.size+3\/c=s1.heap.objs.size\/c=s1.heap.objs.size+1:=by simpa using hc
    rcases hc with rfl|rfl|rfl|rfl|rfl<;>simp
   exact I1.fpOk hc (I1.hok.fresh hc)
end
end L2
namespace Mi
open PySem L2
section
variable{X:Cx}{G:Gx}{F:Fy}{a b tg:Expr}{pos:Pos}
noncomputable def tpD:D->Option (List D)
 | .tup ds=>some ds
 |_=>none
theorem RD.tpq{ρ:Nat->Addr}{H:Hp}{t:D}{v:V}{ds:List D}(h:RD G ρ H t v)(e:tpD t=some ds): ∃a xs,v= .ref a/\SqT G.K H a xs/\RDs G ρ H ds xs/\∀l∈labsL ds,l∈y3 t:=by
 cases t<;>erw[tpD,Option.some.injEq] at e<;>try cases e
 obtain⟨a,xs,e,s,r⟩:=h.tupq
 exact⟨a,xs,e,s,r,fun l hl=>by erw[y3];exact hl⟩
noncomputable def zf4(i:Nat):List (Option D)->Option (Option D)
 |some c2::some c1::_=>match tpD c1,tpD c2 with
  |some ds,some es=>some (zch i ds es)
  |_,_=>none
 |_=>none
noncomputable def zf5:List (Option D)->Nat
 |some c2::some c1::_=>match tpD c1,tpD c2 with
  |some ds,some es=>min ds.length es.length
  |_,_=>0
 |_=>0
noncomputable def zgg:ItK:=⟨2,zf4,zf5⟩
theorem za7{a b:Addr}:zdc G (zhc G.K a b) zgg [some (.ref b),some (.ref a)]:=by
 intro F ρ H σv tvp tv s i M
 dsimp only[zgg]
 cases e:s.tm.drop tvp.length with
 |nil=>trivial
 |cons o r=>
  cases o with
  |none=>trivial
  |some c2=>
   cases r with
   |nil=>trivial
   |cons o r=>
    cases o with
    |none=>trivial
    |some c1=>
     have M0:MR G F ρ H σv (some (.ref b)::some (.ref a)::tv) (s.popn tvp.length):=M.popn
     obtain⟨h2,lb2⟩:=MR.head (s:=s.popn tvp.length) M0 e
     have e':s.tm.drop (tvp++[some (V.ref b)]).length=some c1::r:=by
      rw[m8,<-D2,e];rfl
     have M1:MR G F ρ H σv ((tvp++[some (.ref b)])++(some (.ref a)::tv)) s:=by simpa using M
     have M1':MR G F ρ H σv (some (.ref a)::tv) (s.popn (tvp++[some (V.ref b)]).length):=M1.popn
     obtain⟨h1,lb1⟩:=MR.head (s:=s.popn (tvp++[some (V.ref b)]).length) M1' e'
     erw[zf4]
     cases e1:tpD c1 with
     |none=>trivial
     |some ds=>
      cases e2:tpD c2 with
      |none=>trivial
      |some es=>
       obtain⟨a',xs,ea,sq,rr,sub⟩:=h1.tpq e1
       cases ea
       obtain⟨b',ys,ea,sq',rr',sub'⟩:=h2.tpq e2
       cases ea
       erw[zch]
       cases e3:ds[i]? with
       |none=>exact⟨xs,ys,sq,sq', .inl (by rw[<-rr.length];exact List.getElem?_eq_none_iff.mp e3)⟩
       |some d=>
        cases e4:es[i]? with
        |none=>exact⟨xs,ys,sq,sq', .inr (by rw[<-rr'.length];exact List.getElem?_eq_none_iff.mp e4)⟩
        |some d'=>
         obtain⟨x,ex,rx⟩:=rr.get i d e3
         obtain⟨y,ey,ry⟩:=rr'.get i d' e4
         refine⟨⟨xs,ys,x,y,sq,sq',ex,ey⟩, ?_⟩
         rintro x' H' ⟨p,x1,y1,hp,rfl,rfl,hx,hy,kd⟩
         rw[hx xs sq] at ex
         cases ex
         rw[hy ys sq'] at ey
         cases ey
         have sm:=k9.new (.tup [x,y]) hp
         refine⟨M.same sm kd,RDs.one ?_,fun l hl=> ?_⟩
         ·erw[RD]
          refine⟨p,_,rfl,y9, ?_⟩
          have r1:=(RDs.one rx).same sm
          have r2:=(RDs.one ry).same sm
          erw[RDs] at r1 r2⊢
          obtain⟨x,r,e,h1,h2⟩:=r1
          cases e
          obtain⟨y,r,e,h1',h2'⟩:=r2
          cases e
          exact⟨_,_,rfl,h1,_,_,rfl,h1',rfl⟩
         ·erw[labsL,y3,h9] at hl
          rcases c9.mp hl with q|q
          ·exact lb1 l (sub l (labsL_mem (List.mem_of_getElem? e3) l q))
          ·exact lb2 l (sub' l (labsL_mem (List.mem_of_getElem? e4) l q))
noncomputable def zin(ts:List D):M ItK:=fun s=>match ts with
 |[c1,c2]=>match tpD c1,tpD c2 with
  |some _,some _=> .ok zgg ((s.psh c1).psh c2)
  |_,_=> .no
 |_=> .no
noncomputable def zf6(ms:List (M D)):M ItK:=bd (Z6 ms) zin
theorem si_zpt{p tpos:Pos}{elts:List Expr}{x1:Nat}{ms:List (M D)}(hk:X.K=G.K)(hg:Gl X "zip")(hm:X.mg "zip" =none)(ha:SA X G F [a,b] (Z6 ms))(hs:starEach [a,b] X.env=[(false,eval a X.env),(false,eval b X.env)]:=by rfl)(hs2:starEach [b] X.env=[(false,eval b X.env)]:=by rfl):SI X G F (.Tuple elts x1 tpos) (.Call (.Name "zip" p) [a,b] [] pos) (zf6 ms):=by
 refine PI.imp0 (zcs hg hm ha hs hs2) fun σ H R ⟨tv,hs,ρ,s,M,W⟩=>⟨tv,hs,ρ,s,M, ?_⟩
 unfold zf6 bd at W
 cases e:Z6 ms s with
 |ex d s1=>rw[e] at W;exact W
 |no=>rw[e] at W;exact W
 |ok ts s1=>
  rw[e] at W
  intro ρ1 vs H1 M1
  rw[hk]
  unfold zin at W
  dsimp only at W
  split at W
  ·rename_i ts' K s' hh
   split at hh
   ·split at hh
    ·cases hh
     obtain⟨v,u,rfl,h1,h2⟩:=M1.two
     rename_i ds es q1 q2
     obtain⟨a,xs,rfl,sq,r,_⟩:=h1.tpq q1
     obtain⟨b,ys,rfl,sq',r',_⟩:=h2.tpq q2
     exact⟨a,b,rfl,⟨xs,sq⟩,⟨ys,sq'⟩,W ρ1 H1 [some (.ref b),some (.ref a)] _ rfl M1.push2 za7⟩
    ·cases hh
   ·cases hh
  ·rename_i hh
   split at hh
   ·split at hh<;>cases hh
   ·cases hh
  ·exact False.elim W
end
end Mi
namespace My
open PySem L2 PySem.Spec PyProof.Rows Mi
@[irreducible] noncomputable def SE(X:Cx)(G:Gx)(F:Fy)(e:Expr)(m:M D):Prop:=Mi.SE X G F e m
theorem eSE(X:Cx)(G:Gx)(F:Fy)(e:Expr)(m:M D):SE X G F e m=Mi.SE X G F e m:=by unfold SE;rfl
@[irreducible] noncomputable def SA(X:Cx)(G:Gx)(F:Fy)(e:List Expr)(m:M (List D)):Prop:=Mi.SA X G F e m
theorem eSA(X:Cx)(G:Gx)(F:Fy)(e:List Expr)(m:M (List D)):SA X G F e m=Mi.SA X G F e m:=by unfold SA;rfl
@[irreducible] noncomputable def SB(X:Cx)(G:Gx)(F:Fy)(e:Expr)(m:M Bool):Prop:=Mi.SB X G F e m
theorem eSB(X:Cx)(G:Gx)(F:Fy)(e:Expr)(m:M Bool):SB X G F e m=Mi.SB X G F e m:=by unfold SB;rfl
@[irreducible] noncomputable def SW(X:Cx)(G:Gx)(F:Fy)(e:Expr)(m:M Bool):Prop:=Mi.SW X G F e m
theorem eSW(X:Cx)(G:Gx)(F:Fy)(e:Expr)(m:M Bool):SW X G F e m=Mi.SW X G F e m:=by unfold SW;rfl
@[irreducible] noncomputable def SS(X:Cx)(G:Gx)(F:Fy)(e:Stmt)(m:MS):Prop:=Mi.SS X G F e m
theorem eSS(X:Cx)(G:Gx)(F:Fy)(e:Stmt)(m:MS):SS X G F e m=Mi.SS X G F e m:=by unfold SS;rfl
@[irreducible] noncomputable def SSs(X:Cx)(G:Gx)(F:Fy)(e:List Stmt)(m:MS):Prop:=Mi.SSs X G F e m
theorem ziP(X:Cx)(G:Gx)(F:Fy)(e:List Stmt)(m:MS):SSs X G F e m=Mi.SSs X G F e m:=by unfold SSs;rfl
@[irreducible] noncomputable def SG(X:Cx)(G:Gx)(F:Fy)(e:Expr)(m:Tg):Prop:=Mi.SG X G F e m
theorem eSG(X:Cx)(G:Gx)(F:Fy)(e:Expr)(m:Tg):SG X G F e m=Mi.SG X G F e m:=by unfold SG;rfl
@[irreducible] noncomputable def SGs(X:Cx)(G:Gx)(F:Fy)(e:List Expr)(m:List Tg):Prop:=Mi.SGs X G F e m
theorem ziQ(X:Cx)(G:Gx)(F:Fy)(e:List Expr)(m:List Tg):SGs X G F e m=Mi.SGs X G F e m:=by unfold SGs;rfl
@[irreducible] noncomputable def SI(X:Cx)(G:Gx)(F:Fy)(tg e:Expr)(m:M ItK):Prop:=Mi.SI X G F tg e m
theorem eSI(X:Cx)(G:Gx)(F:Fy)(tg e:Expr)(m:M ItK):SI X G F tg e m=Mi.SI X G F tg e m:=by unfold SI;rfl
@[irreducible] noncomputable def SO(X:Cx)(G:Gx)(F:Fy)(e:Option Expr)(m:Option (M D)):Prop:=Mi.SO X G F e m
theorem eSO(X:Cx)(G:Gx)(F:Fy)(e:Option Expr)(m:Option (M D)):SO X G F e m=Mi.SO X G F e m:=by unfold SO;rfl
@[irreducible] noncomputable def STs(X:Cx)(G:Gx)(F:Fy)(e:List Expr)(m:M Bool):Prop:=Mi.STs X G F e m
theorem ziR(X:Cx)(G:Gx)(F:Fy)(e:List Expr)(m:M Bool):STs X G F e m=Mi.STs X G F e m:=by unfold STs;rfl
local macro_rules | `(tactic| walk_at "go") => `(tactic| (simp only [eSE, eSA, eSB, eSW, eSS, ziP, eSG, ziQ, eSI, eSO, ziR] at *))
section
variable{X:Cx}{G:Gx}{F:Fy}{e a b c:Expr}{pos:Pos}
theorem se_var(i:Nat){x:Str}(hk:X.K=G.K)(h:PE X (.Name x pos) (z76 i)):SE X G F (.Name x pos) (y0 i):=by
 walk_at "go"
 exact Mi.se_var i hk h
theorem se_c{d:D}{v:V}(hk:X.K=G.K)(h:PE X e (tC v))(hd:cV d=some v:=by rfl):SE X G F e (mC d):=by
 walk_at "go"
 exact Mi.se_c hk h hd
theorem so_none:SO X G F none none:=by
 walk_at "go"
 exact Mi.so_none
theorem so_some{m:M D}(h:SE X G F e m):SO X G F (some e) (some m):=by
 walk_at "go"
 exact Mi.so_some h
theorem se_slice{lo hi:Option Expr}{p2:Pos}{m:M D}{ml mh:Option (M D)}(hk:X.K=G.K)(he:SE X G F e m)(hl:SO X G F lo ml)(hh:SO X G F hi mh):SE X G F (.Subscript e (.Slice lo hi none p2) pos) (mSl m ml mh):=by
 walk_at "go"
 exact Mi.se_slice hk he hl hh
theorem se_tup{es:List Expr}{ms:List (M D)}{x1}(hk:X.K=G.K)(h:SA X G F es (Z6 ms)):SE X G F (.Tuple es x1 pos) (mCB ms z2R):=by
 walk_at "go"
 exact Mi.se_tup hk h
theorem se_lst{es:List Expr}{ms:List (M D)}(hk:X.K=G.K)(h:SA X G F es (Z6 ms)):SE X G F (.List es pos) (mCB ms lstM):=by
 walk_at "go"
 exact Mi.se_lst hk h
theorem sb_truth{m:M D}(hk:X.K=G.K)(ha:SE X G F a m)(he: ∀whole,isTrue a X.env whole=(do let v<-whole;standAt a.pos;holding [v] (truthy v)):=by intro _;rfl):SB X G F a (J4 m):=by
 walk_at "go"
 exact Mi.sb_truth hk ha he
theorem SW.sb{m:M Bool}(h:SW X G F e m):SB X G F e m:=by
 walk_at "go"
 exact Mi.SW.sb h
theorem sw_or1{m:M Bool}(h:SB X G F a m):SW X G F (.BoolOp .Or [a] pos) m:=by
 walk_at "go"
 exact Mi.sw_or1 h
theorem sw_or{rest:List Expr}{m m':M Bool}(ha:SB X G F a m)(hb:SW X G F (.BoolOp .Or (b::rest) pos) m'):SW X G F (.BoolOp .Or (a::b::rest) pos) (mOr m m'):=by
 walk_at "go"
 exact Mi.sw_or ha hb
theorem sb_not{m:M Bool}(ha:SB X G F a m):SB X G F (.UnaryOp .Not a pos) (z1z m):=by
 walk_at "go"
 exact Mi.sb_not ha
theorem se_one{op}{m:M D}(h:SE X G F a m):SE X G F (.BoolOp op [a] pos) m:=by
 walk_at "go"
 exact Mi.se_one h
theorem se_and{rest:List Expr}{m m':M D}(ha:SE X G F a m)(hb:SE X G F (.BoolOp .And (b::rest) pos) m'):SE X G F (.BoolOp .And (a::b::rest) pos) (z4d m m'):=by
 walk_at "go"
 exact Mi.se_and ha hb
theorem se_not{m:M D}(ha:SE X G F a m):SE X G F (.UnaryOp .Not a pos) (z6A m):=by
 walk_at "go"
 exact Mi.se_not ha
theorem se_isi{p:Pos}{x y:Expr}{T:String}{m:M D}(hk:X.K=G.K)(hT:T= "int" \/T= "bool" \/T= "tuple" \/T= "list" \/T= "str")(hgl:Gl X "isinstance")(hm:X.mg "isinstance" =none)(ha:SE X G F x m)(hy:PE X y (tC (.ty T)))
 (he:starEach [x,y] X.env=(false,eval x X.env)::starEach [y] X.env:=by rfl) (he2:starEach [y] X.env=(false,eval y X.env)::starEach [] X.env:=by rfl) (hpl:(backTo pos (starEach [y] X.env)).any (·.1)=false:=by rfl):SE X G F (.Call (.Name "isinstance" p) [x,y] [] pos) (z3U T m):=by
 walk_at "go"
 exact Mi.se_isi hk hT hgl hm ha hy he he2 hpl
end
section
variable{X:Cx}{G:Gx}{F:Fy}{e a b c:Expr}{st:Stmt}{sts rest:List Stmt}{pos:Pos}
theorem ss_nil:SSs X G F [] sNx:=by
 walk_at "go"
 exact Mi.ss_nil
theorem ss_cons{m m':MS}(h1:SS X G F st m)(h2:SSs X G F rest m'):SSs X G F (st::rest) (Q6 m m'):=by
 walk_at "go"
 exact Mi.ss_cons h1 h2
theorem ss_one{m:MS}(h1:SS X G F st m):SSs X G F [st] m:=by
 walk_at "go"
 exact Mi.ss_one h1
theorem ss_expr{m:M D}(he:SE X G F e m)(hs:swapsWith e none pos.line X.env=pure false:=by rfl):SS X G F (.Expr e pos) (z0o m):=by
 walk_at "go"
 exact Mi.ss_expr he hs
theorem ss_ret{m:M D}(he:SE X G F e m):SS X G F (.Return (some e) pos) (X8 m):=by
 walk_at "go"
 exact Mi.ss_ret he
theorem ss_if{x y:List Stmt}{mc:M Bool}{m m':MS}(hc:SB X G F c mc)(ha:SSs X G F x m)(hb:SSs X G F y m'):SS X G F (.If c x y pos) (sIf mc m m'):=by
 walk_at "go"
 exact Mi.ss_if hc ha hb
theorem sg_name{i:Nat}{x:Str}{p:Pos}(h:PG X (.Name x p) (z0M i)):SG X G F (.Name x p) (.nm i):=by
 walk_at "go"
 exact Mi.sg_name h
theorem sgs_nil:SGs X G F [] []:=by
 walk_at "go"
 exact Mi.sgs_nil
theorem sgs_cons{es:List Expr}{g:Tg}{gs:List Tg}(h1:SG X G F e g)(h2:SGs X G F es gs)(hs:(assignEach (e::es) X.env).map (·.2)=assign e X.env::(assignEach es X.env).map (·.2):=by rfl):SGs X G F (e::es) (g::gs):=by
 walk_at "go"
 exact Mi.sgs_cons h1 h2 hs
theorem sg_tup{es:List Expr}{k:Nat}{gs:List Tg}(hk:X.K=G.K)(hc:X.calm=true)(h:SGs X G F es gs)(hn:(assignEach es X.env).length=gs.length:=by rfl)(hst:(assignEach es X.env).findIdx? (·.1)=none:=by rfl):SG X G F (.Tuple es k pos) (.tp gs):=by
 walk_at "go"
 exact Mi.sg_tup hk hc h hn hst
theorem ss_asg{tg:Expr}{g:Tg}{m:M D}(he:SE X G F e m)(hg:SG X G F tg g)(hs:swapsWithSole [tg] e pos.line X.env=pure false:=by rfl)(hw:swappedStores [tg] e X.env=pure none:=by rfl)
 (h1:(assignEach [tg] X.env).map (·.2)=[assign tg X.env]:=by rfl):SS X G F (.Assign [tg] e pos) (U0 g m):=by
 walk_at "go"
 exact Mi.ss_asg he hg hs hw h1
theorem ss_set{i:Nat}{x:Str}{p:Pos}{m:M D}(h: ∀{te:TE},PE X e te->PS X (.Assign [.Name x p] e pos) (zga te (z0M i)))(he:SE X G F e m):SS X G F (.Assign [.Name x p] e pos) (U0 (.nm i) m):=by
 walk_at "go"
 exact Mi.ss_set h he
end
section
variable{X:Cx}{G:Gx}{F:Fy}{e a b c tg iter:Expr}{pos:Pos}
theorem si_seq{m:M D}(hk:X.K=G.K)(h:SE X G F e m):SI X G F tg e (J2 m):=by
 walk_at "go"
 exact Mi.si_seq hk h
theorem si_rng1{p:Pos}{ms:List (M D)}(hg:Gl X "range")(hm:X.mg "range" =none)(ha:SA X G F [a] (Z6 ms))(hs:starEach [a] X.env=[(false,eval a X.env)]:=by rfl):SI X G F tg (.Call (.Name "range" p) [a] [] pos) (V4 ms):=by
 walk_at "go"
 exact Mi.si_rng1 hg hm ha hs
theorem ss_for{body:List Stmt}{mi:M ItK}{g:Tg}{mb:MS}(hp:PassesOwn (model X.prog X.w) X.A X.env X.xe)(hc:X.calm=true)(hi:SI X G F tg iter mi)(hg:SG X G F tg g)(hb:SSs X G F body mb)(hst: ∀x,foldedSetIterable iter X.env x=pure x:=by intro _;rfl):SS X G F (.For tg iter body [] pos) (z3b mi g mb):=by
 walk_at "go"
 exact Mi.ss_for hp hc hi hg hb hst
end
section
variable{X:Cx}{G:Gx}{F:Fy}{e a b c tg iter elt:Expr}{pos:Pos}
theorem sts_nil:STs X G F [] (rt true):=by
 walk_at "go"
 exact Mi.sts_nil
theorem sts_one{m:M Bool}(h:SB X G F c m):STs X G F [c] m:=by
 walk_at "go"
 exact Mi.sts_one h
theorem se_comp{scope:Scope}{own frees:List Str}{ix:List Nat}{ifs:List Expr}{mi:M ItK}{g:Tg}{mt:M Bool}{me:M D}(hk:X.K=G.K)(hc:X.calm=true)(S:j4 X.env.scope scope own frees X.N ix)(hi:SI X G F tg iter mi)
 (hg: ∀(F:Fy) cl C s₀ H₀ fp pn,SG (W5 X scope own frees cl C s₀ H₀ fp pn) G F tg g) (ht: ∀(F:Fy) cl C s₀ H₀ fp pn,STs (W5 X scope own frees cl C s₀ H₀ fp pn) G F ifs mt) (he: ∀(F:Fy) cl C s₀ H₀ fp pn,SE (W5 X scope own frees cl C s₀ H₀ fp pn) G F elt me)
 (hs: ∀x,foldedSetIterable iter X.env x=pure x:=by intro _;rfl):SE X G F (.ListComp elt [⟨tg,iter,ifs,0⟩] scope pos) (j3 mi g mt me own.length ix):=by
 walk_at "go"
 exact Mi.se_comp hk hc S hi hg ht he hs
theorem ss_comp{y:Str}{py spos:Pos}{i:Nat}{scope:Scope}{own frees:List Str}{ix:List Nat}{ifs:List Expr}{mi:M ItK}{g:Tg}{mt:M Bool}{me:M D}(hk:X.K=G.K)(hN:X.N.Nodup)(hy:X.N[i]? =some y)(hx:Loc X.env.scope y)(hfn:X.fn y=true\/X.env.scope.names.lookup y=some .local)(hsw:swapsWith (.ListComp elt [⟨tg,iter,ifs,0⟩] scope pos) (some (.Name y py)) spos.line X.env=pure true)
 (hc:X.calm=true) (S:j4 X.env.scope scope own frees X.N ix) (hi:SI X G F tg iter mi)
 (hg: ∀(F:Fy) cl C s₀ H₀ fp pn,SG (W5 X scope own frees cl C s₀ H₀ fp pn) G F tg g) (ht: ∀(F:Fy) cl C s₀ H₀ fp pn,STs (W5 X scope own frees cl C s₀ H₀ fp pn) G F ifs mt) (he: ∀(F:Fy) cl C s₀ H₀ fp pn,SE (W5 X scope own frees cl C s₀ H₀ fp pn) G F elt me)
 (hs: ∀x,foldedSetIterable iter X.env x=pure x:=by intro _;rfl):SS X G F (.Assign [.Name y py] (.ListComp elt [⟨tg,iter,ifs,0⟩] scope pos) spos) (U0 (.nm i) (j3 mi g mt me own.length ix)):=by
 walk_at "go"
 exact Mi.ss_comp hk hN hy hx hfn hsw hc S hi hg ht he hs
end
section
variable{G:Gx}{ρ:Nat->Addr}{H:Hp}
section
variable(k:KD G.K H){n:Nat}(inj: ∀i j,i<n->j<n->ρ i=ρ j->i=j)
include k inj
end
end
section
variable{G:Gx}{ρ ρ':Nat->Addr}{H H':Hp}
section
variable(k:KD G.K H){n:Nat}(inj: ∀i j,i<n->j<n->ρ i=ρ j->i=j){ts:List D}{vs:List V}(r:RDs G ρ H ts vs)(lb: ∀l∈labsL ts,l<n)
include k inj r lb
end
variable{F:Fy}{σv tv:List (Option V)}{s:Stt}{np:Nat}
theorem se_call{X:Cx}{e:Expr}{es:List Expr}{pos p:Pos}{CX:CXT}{k:Nat}{fa:Addr}{fd:FuncData}{ps:List Str}{x:Str}{E:XK}{f:FM}{ms:List (M D)}(hk:X.K=G.K)(Fn:U3 X.prog X.w X.K X.mg X.base CX k fa fd ps (spM G ps.length f))(hr:z0n k X.A)(hg:Gl X x)(hm:X.mg x=some (.ref fa))(hkp:W.keepIn X.K (.ref fa)=true)(hb:X9 X.K fd ps [])(hx:U4 CX X E)
 (ha:SA X G F (e::es) (Z6 ms)) (hln:ms.length=ps.length) (hdb:(x==("__debug__" :Str))=false:=by decide) (he:starEach (e::es) X.env=(false,eval e X.env)::starEach es X.env:=by rfl) (hpl:(backTo pos (starEach es X.env)).any (·.1)=false:=by rfl):
 SE X G F (.Call (.Name x p) (e::es) [] pos) (Y1 f ms):=by
 walk_at "go"
 exact Mi.se_call hk Fn hr hg hm hkp hb hx ha hln hdb he hpl
theorem fn_M{P:Program}{w:World}{K:W.Frag}{mg:Str->Option Value}{base:Heap}{x qual:Str}{st:Stmt}{fa:Addr}{fd:FuncData}{N ps:List Str}{k:Nat}{mb:MS}(Fn:Fun K x qual st fa fd)(S:w4 N ps (y8 st))(hG:G.K=K)
 (hb: ∀(cdv:Value) (A:Around) (outer:List Env) (s:Shared) (H:Hp) (E:XK) (F:Fy),z0n k (A.deeper (envOfC qual (y8 st) s.heap.objs.size fa cdv))->SSs (z9w CX0 P w K mg base N qual (y8 st) fa cdv A outer s H E).nox G F (J8 st) mb):
 U3 P w K mg base CX0 (k+1) fa fd ps (spM G ps.length (z2p N.length mb)):=by
 walk_at "go"
 exact Mi.fn_M Fn S hG hb
end
section
variable{X:Cx}{G:Gx}{F:Fy}{e o:Expr}{es:List Expr}{apos cpos:Pos}
theorem ss_setI{ob ix:Expr}{pos tpos:Pos}{mo mi me:M D}(he:SE X G F e me)(ho:SE X G F ob mo)(hi:SE X G F ix mi)(hg: ∀{to ti:TE},PE X ob to->PE X ix ti->PG X (.Subscript ob ix tpos) (zgq to ti z9z))(hs:swapsWithSole [.Subscript ob ix tpos] e pos.line X.env=pure false:=by rfl)(hw:swappedStores [.Subscript ob ix tpos] e X.env=pure none:=by rfl)
 (h1:(assignEach [.Subscript ob ix tpos] X.env).map (·.2)=[assign (.Subscript ob ix tpos) X.env]:=by rfl):SS X G F (.Assign [.Subscript ob ix tpos] e pos) (z82 me mo mi zaG):=by
 walk_at "go"
 exact Mi.ss_setI he ho hi hg hs hw h1
end
section
variable{X:Cx}{G:Gx}{F:Fy}{e a b c:Expr}{pos:Pos}{ma mb mc m:M D}
theorem se_add(hk:X.K=G.K)(ha:SE X G F a ma)(hb:SE X G F b mb):SE X G F (.BinOp a .Add b pos) (Z0 ma mb X7):=by
 walk_at "go"
 exact Mi.se_add hk ha hb
theorem se_mul(hk:X.K=G.K)(ha:SE X G F a ma)(hb:SE X G F b mb):SE X G F (.BinOp a .Mult b pos) (Z0 ma mb z6z):=by
 walk_at "go"
 exact Mi.se_mul hk ha hb
theorem se_fdiv(hk:X.K=G.K)(ha:SE X G F a ma)(hb:SE X G F b mb):SE X G F (.BinOp a .FloorDiv b pos) (Z0 ma mb z2U):=by
 walk_at "go"
 exact Mi.se_fdiv hk ha hb
theorem se_mod(hk:X.K=G.K)(ha:SE X G F a ma)(hb:SE X G F b mb):SE X G F (.BinOp a .Mod b pos) (Z0 ma mb z4c):=by
 walk_at "go"
 exact Mi.se_mod hk ha hb
theorem se_pow(hk:X.K=G.K)(ha:SE X G F a ma)(hb:SE X G F b mb):SE X G F (.BinOp a .Pow b pos) (Z0 ma mb z9J):=by
 walk_at "go"
 exact Mi.se_pow hk ha hb
theorem se_cmp{op:CmpOp}{g:D->D->M D}(hc:Cm X G F op g)(ha:SE X G F a ma)(hb:SE X G F b mb)(hm:behindInMarks op b=false):SE X G F (.Compare a [op] [b] pos) (Z0 ma mb g):=by
 walk_at "go"
 exact Mi.se_cmp hc ha hb hm
theorem sb_cmp{op:CmpOp}{g:D->D->M D}(hc:Cm X G F op g)(ha:SE X G F a ma)(hb:SE X G F b mb)(hm:behindInMarks op b=false):SB X G F (.Compare a [op] [b] pos) (X0 (Z0 ma mb g)):=by
 walk_at "go"
 exact Mi.sb_cmp hc ha hb hm
theorem se_cmp2{op op':CmpOp}{g g':D->D->M D}(hc:Cm X G F op g)(hc':Cm X G F op' g')(ha:SE X G F a ma)(hb:SE X G F b mb)(hcc:SE X G F c mc)(hm:lastMarks [op,op'] [b,c]=false:=by with_unfolding_all rfl):SE X G F (.Compare a [op,op'] [b,c] pos) (z0O ma mb mc g g'):=by
 walk_at "go"
 exact Mi.se_cmp2 hc hc' ha hb hcc hm
theorem sb_cmp2{op op':CmpOp}{g g':D->D->M D}(hc:Cm X G F op g)(hc':Cm X G F op' g')(ha:SE X G F a ma)(hb:SE X G F b mb)(hcc:SE X G F c mc)(hm:lastMarks [op,op'] [b,c]=false:=by with_unfolding_all rfl):SB X G F (.Compare a [op,op'] [b,c] pos) (X0 (z0O ma mb mc g g')):=by
 walk_at "go"
 exact Mi.sb_cmp2 hc hc' ha hb hcc hm
theorem se_idx(hk:X.K=G.K)(ha:SE X G F a ma)(hb:SE X G F b mb)(hs:z1u b):SE X G F (.Subscript a b pos) (Z0 ma mb ixD):=by
 walk_at "go"
 exact Mi.se_idx hk ha hb hs
theorem se_cb{x:Str}{p:Pos}{es:List Expr}{ms:List (M D)}{g:List D->M D}{id:String}(hk:X.K=G.K)(hc:Cb X G F (.builtin id) g)(hgl:Gl X x)(hm:X.mg x=none)(hv:bootBuiltins x=some (.builtin id))(ha:SA X G F (e::es) (Z6 ms))(hn:x≠ "__name__" :=by decide)(hdb:(x==("__debug__" :Str))=false:=by decide)
 (he:starEach (e::es) X.env=(false,eval e X.env)::starEach es X.env:=by rfl) (hpl:(backTo pos (starEach es X.env)).any (·.1)=false:=by rfl):SE X G F (.Call (.Name x p) (e::es) [] pos) (mCB ms g):=by
 walk_at "go"
 exact Mi.se_cb hk hc hgl hm hv ha hn hdb he hpl
theorem se_ct{x:Str}{p:Pos}{es:List Expr}{ms:List (M D)}{g:List D->M D}{T:String}(hk:X.K=G.K)(hc:Cb X G F (.type T) g)(hgl:Gl X x)(hm:X.mg x=none)(hv:bootBuiltins x=some (.type T))(ha:SA X G F (e::es) (Z6 ms))(hn:x≠ "__name__" :=by decide)(hdb:(x==("__debug__" :Str))=false:=by decide)
 (he:starEach (e::es) X.env=(false,eval e X.env)::starEach es X.env:=by rfl) (hpl:(backTo pos (starEach es X.env)).any (·.1)=false:=by rfl):SE X G F (.Call (.Name x p) (e::es) [] pos) (mCB ms g):=by
 walk_at "go"
 exact Mi.se_ct hk hc hgl hm hv ha hn hdb he hpl
end
section
variable{X:Cx}{G:Gx}{F:Fy}{e o:Expr}{es:List Expr}{apos cpos:Pos}
theorem se_cl{name:Str}{id:String}{mo:M D}{ms:List (M D)}{g:D->List D->M D}(hk:X.K=G.K)(slot:Slot "list" name id)(hty:typeOf (.builtin id)=pure (.type "method_descriptor"))(hm:Cl X G F id g)(ho:SE X G F o mo)(ha:SA X G F (e::es) (Z6 ms))
 (hbase:attributeBase o name X.env (eval o X.env)=eval o X.env:=by rfl)
 (hfew:((backTo cpos (starEach (e::es) X.env)).all (fun x=> !x.1)&&(backToKw cpos (keywordEach [] X.env)).all (fun x=>x.1.isSome)
  &&decide ((e::es).length+([]:List Keyword).length+(if([]:List Keyword).isEmpty then 0 else 1)<30))=true:=by rfl)
 (hline:(apos.endLine==cpos.line)=true:=by rfl) (hs:starEach (e::es) X.env=(false,eval e X.env)::starEach es X.env:=by rfl) (hplain:(backTo cpos (starEach es X.env)).any (·.1)=false:=by rfl):SE X G F (.Call (.Attribute o name apos) (e::es) [] cpos) (z1B mo ms g):=by
 walk_at "go"
 exact Mi.se_cl hk slot hty hm ho ha hbase hfew hline hs hplain
end
section
variable{X:Cx}{G:Gx}{F:Fy}{a b e:Expr}{ma mb:M D}{pos:Pos}
theorem se_dnew(hk:X.K=G.K):SE X G F (.Dict [] [] pos) z56:=by
 walk_at "go"
 exact Mi.se_dnew hk
theorem ss_dput{ob ix:Expr}{pos tpos:Pos}{mo mi me:M D}(hu:X.A.units+64<cLine)(he:SE X G F e me)(ho:SE X G F ob mo)(hi:SE X G F ix mi)(hs:swapsWith e (some (.Subscript ob ix tpos)) pos.line X.env=pure false:=by rfl):
 SS X G F (.Assign [.Subscript ob ix tpos] e pos) (z82 me mo mi z2s):=by
 walk_at "go"
 exact Mi.ss_dput hu he ho hi hs
theorem ss_setN{i:Nat}{x:Str}{p:Pos}{m:M D}(hN:X.N.Nodup)(hi:X.N[i]? =some x)(hx:Loc X.env.scope x)(hf:X.fn x=true\/X.env.scope.names.lookup x=some .local)(he:SE X G F e m)(hs:swapsWith e (some (.Name x p)) pos.line X.env=pure false:=by rfl):SS X G F (.Assign [.Name x p] e pos) (U0 (.nm i) m):=by
 walk_at "go"
 exact Mi.ss_setN hN hi hx hf he hs
end
section
variable{X:Cx}{G:Gx}{F:Fy}{e o value:Expr}{pos:Pos}
theorem se_fld{f:Str}{ok:Str->Bool}{m:M D}(he:SE X G F e m)(hc: ∀c C,G.cl c=some C->ok c=true->Cls X.K C/\V7 X.K C f)(hb:attributeBase e f X.env (eval e X.env)=eval e X.env:=by rfl):SE X G F (.Attribute e f pos) (z9a m f ok):=by
 walk_at "go"
 exact Mi.se_fld he hc hb
end
section
variable{X:Cx}{G:Gx}{F:Fy}{e o value:Expr}{pos pos':Pos}
theorem ss_fld{f:Str}{ok:Str->Bool}{me mo:M D}(ho:SE X G F o mo)(he:SE X G F value me)(hc: ∀c C,G.cl c=some C->ok c=true->Cls X.K C/\V7 X.K C f)(hs:swapsWith value (some (.Attribute o f pos')) pos.line X.env=pure false:=by rfl):SS X G F (.Assign [.Attribute o f pos'] value pos) (z9Y me mo f ok):=by
 walk_at "go"
 exact Mi.ss_fld ho he hc hs
end
section
variable{X:Cx}{G:Gx}{F:Fy}{CX:CXT}{k:Nat}{fa C:Addr}{fd:FuncData}{ps:List Str}{E:XK}{f:FM}{cn m:Str}{mo:M D}{ms:List (M D)}{o e:Expr}{es:List Expr}{pos apos:Pos}{pl:Sem Bool}
theorem se_mth(hC:G.cl cn=some C)(c:Cls X.K C)(hm:z9s X.K C m fa)(Fn:U3 X.prog X.w X.K X.mg X.base CX k fa fd ps (spM G ps.length f))(hr:z0n k X.A)(hb:X9 X.K fd ps [])(hx:U4 CX X E)(ho:SE X G F o mo)(ha:SA X G F (e::es) (Z6 ms))(hln:ms.length+1=ps.length)
 (hst:starEach (e::es) X.env=(false,eval e X.env)::starEach es X.env:=by rfl) (hpl:(backTo pos (starEach es X.env)).any (·.1)=false:=by rfl)
 (ht:eval (.Call (.Attribute o m apos) (e::es) [] pos) X.env=(do
  let ov<-eval o X.env
  standAt apos.atName
  let(f,first)<-holding [ov] (getMethod ov m pl)
  callWith pos f first (backTo pos (starEach (e::es) X.env)) (backToKw pos (keywordEach [] X.env))):=by rfl):SE X G F (.Call (.Attribute o m apos) (e::es) [] pos) (z2u cn m f mo ms):=by
 walk_at "go"
 exact Mi.se_mth hC c hm Fn hr hb hx ho ha hln hst hpl ht
theorem se_mth0(hC:G.cl cn=some C)(c:Cls X.K C)(hm:z9s X.K C m fa)(Fn:U3 X.prog X.w X.K X.mg X.base CX k fa fd ps (spM G ps.length f))(hr:z0n k X.A)(hb:X9 X.K fd ps [])(hx:U4 CX X E)(ho:SE X G F o mo)(hln:1=ps.length)
 (ht:eval (.Call (.Attribute o m apos) [] [] pos) X.env=(do
  let ov<-eval o X.env
  standAt apos.atName
  let(f,first)<-holding [ov] (getMethod ov m pl)
  callWith pos f first (backTo pos (starEach [] X.env)) (backToKw pos (keywordEach [] X.env))):=by rfl):SE X G F (.Call (.Attribute o m apos) [] [] pos) (z2u cn m f mo []):=by
 walk_at "go"
 exact Mi.se_mth0 hC c hm Fn hr hb hx ho hln ht
end
section
variable{X:Cx}{G:Gx}{F:Fy}{CX:CXT}{k:Nat}{fa C:Addr}{fd:FuncData}{ps:List Str}{E:XK}{f:FM}{cn x:Str}{ms:List (M D)}{e:Expr}{es:List Expr}{pos p:Pos}
theorem se_make0(hk:X.K=G.K)(hC:G.cl cn=some C)(Mk:Mk X.K C fa)(Fn:U3 X.prog X.w X.K X.mg X.base CX k fa fd ps (spM G ps.length f))(hr:z0n (k+1) X.A)(hg:Gl X x)(hm:X.mg x=some (.ref C))(hb:X9 X.K fd ps [])(hx:U4 CX X E)
 (hln:1=ps.length) (hdb:(x==("__debug__" :Str))=false:=by decide):SE X G F (.Call (.Name x p) [] [] pos) (z59 cn f []):=by
 walk_at "go"
 exact Mi.se_make0 hk hC Mk Fn hr hg hm hb hx hln hdb
end
section
variable{X:Cx}{G:Gx}{F:Fy}{st:Stmt}
theorem ss_no:SS X G F st sNo:=by
 walk_at "go"
 exact Mi.ss_no
end
inductive SEs(X:Cx)(G:Gx)(F:Fy):List Expr->List (M D)->Prop
 |nil:SEs X G F [] []
 |cons {e:Expr} {m:M D} {es:List Expr} {ms:List (M D)}:SE X G F e m->nst e=true->SEs X G F es ms->SEs X G F (e::es) (m::ms)
theorem ziS{X:Cx}{G:Gx}{F:Fy}{es:List Expr}{ms:List (M D)}(h:SEs X G F es ms):Mi.SEs X G F es ms:=by
 induction h with
 |nil=>exact .nil
 |cons h n _ ih=>rw[eSE] at h;exact .cons h n ih
theorem sa_of{X:Cx}{G:Gx}{F:Fy}{es:List Expr}{ms:List (M D)}(hk:X.K=G.K)(h:SEs X G F es ms):SA X G F es (Z6 ms):=by
 rw[eSA];exact Mi.sa_of hk (ziS h)
section
variable{X:Cx}{G:Gx}{F:Fy}{e a b c d:Expr}{pos p:Pos}{m ma mb mc md:M D}
theorem sv(i:Nat){x:Str}(hk:X.K=G.K:=by rfl)(hN:X.N[i]? =some x:=by rfl)(hv:Vis X.env.scope x:=by first|exact Or.inl rfl|exact Or.inr (Or.inl rfl)|exact Or.inr (Or.inr rfl))(hd:(x==("__debug__" :Str))=false:=by decide)(hcd:(x==("__classdict__" :Str))=false:=by decide):SE X G F (.Name x pos) (y0 i):=se_var i hk (pv i hN hv hd hcd)
theorem s1(h:SE X G F a ma)(n:nst a=true:=by rfl)(hk:X.K=G.K:=by rfl):SA X G F [a] (Z6 [ma]):=sa_of hk (.cons h n .nil)
theorem s2(h:SE X G F a ma)(h2:SE X G F b mb)(n:nst a=true:=by rfl)(n2:nst b=true:=by rfl)(hk:X.K=G.K:=by rfl):SA X G F [a,b] (Z6 [ma,mb]):=sa_of hk (.cons h n (.cons h2 n2 .nil))
theorem s3(h:SE X G F a ma)(h2:SE X G F b mb)(h3:SE X G F c mc)(n:nst a=true:=by rfl)(n2:nst b=true:=by rfl)(n3:nst c=true:=by rfl)(hk:X.K=G.K:=by rfl):SA X G F [a,b,c] (Z6 [ma,mb,mc]):=sa_of hk (.cons h n (.cons h2 n2 (.cons h3 n3 .nil)))
theorem s4(h:SE X G F a ma)(h2:SE X G F b mb)(h3:SE X G F c mc)(h4:SE X G F d md)(n:nst a=true:=by rfl)(n2:nst b=true:=by rfl)(n3:nst c=true:=by rfl)(n4:nst d=true:=by rfl)(hk:X.K=G.K:=by rfl):SA X G F [a,b,c,d] (Z6 [ma,mb,mc,md]):=sa_of hk (.cons h n (.cons h2 n2 (.cons h3 n3 (.cons h4 n4 .nil))))
theorem sst(i:Nat){x:Str}(hN:X.N.Nodup)(he:SE X G F e m)(hi:X.N[i]? =some x:=by rfl)(hx:Loc X.env.scope x:=by exact Or.inl rfl)(hs:swapsWith e (some (.Name x p)) pos.line X.env=pure false:=by rfl)(hf:X.fn x=true\/X.env.scope.names.lookup x=some .local:=by first|exact .inl rfl|exact .inr rfl|assumption):SS X G F (.Assign [.Name x p] e pos) (U0 (.nm i) m):=
 ss_set (fun{te} h=>z1M hN hi hx h hs hf) he
theorem sgn(i:Nat){x:Str}(hN:X.N.Nodup)(hi:X.N[i]? =some x:=by rfl)(hx:Loc X.env.scope x:=by exact Or.inl rfl)(hf:X.fn x=true\/X.env.scope.names.lookup x=some .local:=by first|exact .inl rfl|exact .inr rfl|assumption):SG X G F (.Name x pos) (.nm i):=sg_name (j6 hN hi hx hf)
theorem sln{es:List Expr}{ms:List (M D)}(hm:X.mg "len" =none)(ha:SA X G F (e::es) (Z6 ms))(hgl:Gl X "len" :=by rfl)(he:starEach (e::es) X.env=(false,eval e X.env)::starEach es X.env:=by rfl)(hpl:(backTo pos (starEach es X.env)).any (·.1)=false:=by rfl)(hk:X.K=G.K:=by rfl):SE X G F (.Call (.Name "len" p) (e::es) [] pos) (mCB ms z1A):=
 se_cb hk (zeL hk) hgl hm PyProof.Rows.Boot.«len» ha (by decide) (by decide) he hpl
theorem sc0{v:V}{d:D}(h:PE X e (tC v))(hd:cV d=some v:=by rfl)(hk:X.K=G.K:=by rfl):SE X G F e (mC d):=se_c hk h hd
theorem sxc{v:V}{q:D}(ha:SE X G F a ma)(h:PE X b (tC v))(hd:cV q=some v:=by rfl)(hs:z1u b:=by exact fun _ _=>rfl)(hk:X.K=G.K:=by rfl):SE X G F (.Subscript a b pos) (Z0 ma (mC q) ixD):=se_idx hk ha (se_c hk h hd) hs
theorem sxx(ha:SE X G F a ma)(hb:SE X G F b mb)(hs:z1u b:=by exact fun _ _=>rfl)(hk:X.K=G.K:=by rfl):SE X G F (.Subscript a b pos) (Z0 ma mb ixD):=se_idx hk ha hb hs
end
section
variable{G:Gx}{P:Program}{w:World}{K:W.Frag}{mg:Str->Option Value}{base:Heap}{x qual:Str}{st:Stmt}{fa:Addr}{fd:FuncData}{N ps:List Str}{k np:Nat}{f:FM}
theorem okM(mb:MS)(Fn:Fun K x qual st fa fd)(S:w4 N ps (y8 st))(hb: ∀(cdv:Value) (A:Around) (outer:List Env) (s:Shared) (H:Hp) (E:XK) (F:Fy),z0n k (A.deeper (envOfC qual (y8 st) s.heap.objs.size fa cdv))->SSs (z9w CX0 P w K mg base N qual (y8 st) fa cdv A outer s H E).nox G F (J8 st) mb)(hG:G.K=K:=by rfl)(hf:f=z2p N.length mb:=by rfl)(hn:np=ps.length:=by rfl):
 U3 P w K mg base CX0 (k+1) fa fd ps (spM G np f):=by
 subst hf hn;exact fn_M Fn S hG hb
end
section
variable{X:Cx}{G:Gx}{F:Fy}{a o iter elt tg:Expr}{pos apos cpos:Pos}{mo mi m0:M D}{scope:Scope}{own frees:List Str}
theorem se_rowI{elts:List Expr}{x1:Nat}{tpos:Pos}(hk:X.K=G.K)(hc:X.calm=true)(S:j4 X.env.scope scope own [] X.N [])(hi:SE X G F iter m0)(ho:own.length=2)
 (hg: ∀cl C s₀ H₀ fp pn,PG (W5 X scope own [] cl C s₀ H₀ fp pn) (.Tuple elts x1 tpos) (zg9 X.K 2 (z4P (z0M 0) (z4P (z0M 1) zg8)))) (he: ∀cl C s₀ H₀ fp pn,PE (W5 X scope own [] cl C s₀ H₀ fp pn) elt (za3 X.K))
 (hs: ∀x,foldedSetIterable (.Call (.Attribute iter "items" apos) [] [] cpos) X.env x=pure x:=by intro _;rfl) (hbase:attributeBase iter "items" X.env (eval iter X.env)=eval iter X.env:=by rfl)
 (hfew:((backTo cpos (starEach [] X.env)).all (fun x=> !x.1)&&(backToKw cpos (keywordEach [] X.env)).all (fun x=>x.1.isSome)&&decide (([]:List Expr).length+([]:List Keyword).length+(if([]:List Keyword).isEmpty then 0 else 1)<30))=true:=by rfl)
 (hline:(apos.endLine==cpos.line)=true:=by rfl):SE X G F (.ListComp elt [⟨.Tuple elts x1 tpos, .Call (.Attribute iter "items" apos) [] [] cpos,[],0⟩] scope pos) (bd m0 zco):=by
 rw[eSE];rw[eSE] at hi
 exact Mi.se_rowI hk hc S hi ho hg he hs hbase hfew hline
theorem se_rowK{i:Nat}{x:Str}{np:Pos}(hk:X.K=G.K)(hc:X.calm=true)(S:j4 X.env.scope scope own frees X.N [i])(hi:PE X (.Name x np) (z76 i))(ho:own.length=1)
 (hg: ∀cl C s₀ H₀ fp pn,PG (W5 X scope own frees cl C s₀ H₀ fp pn) tg (z0M 0)) (he: ∀cl C s₀ H₀ fp pn,PE (W5 X scope own frees cl C s₀ H₀ fp pn) elt (za4 X.K))
 (hs: ∀y,foldedSetIterable (.Name x np) X.env y=pure y:=by intro _;rfl):SE X G F (.ListComp elt [⟨tg, .Name x np,[],0⟩] scope pos) (bd (y0 i) zaN):=by
 rw[eSE]
 exact Mi.se_rowK hk hc S hi ho hg he hs
end
section
variable{X:Cx}{G:Gx}{F:Fy}{a b o:Expr}{pos apos cpos:Pos}{mo mi:M D}
theorem se_pop1(hk:X.K=G.K)(hu:X.A.units+64<cLine)(ho:SE X G F o mo)(ha:SE X G F a mi)(m:M1 X o "pop" apos a cpos):SE X G F (.Call (.Attribute o "pop" apos) [a] [] cpos) (z5a mo mi):=by
 rw[eSE];rw[eSE] at ho ha
 exact Mi.se_pop1 hk hu ho ha m
theorem si_zpt{p tpos:Pos}{elts:List Expr}{x1:Nat}{ms:List (M D)}(hk:X.K=G.K)(hg:Gl X "zip")(hm:X.mg "zip" =none)(ha:SA X G F [a,b] (Z6 ms))(hs:starEach [a,b] X.env=[(false,eval a X.env),(false,eval b X.env)]:=by rfl)(hs2:starEach [b] X.env=[(false,eval b X.env)]:=by rfl):SI X G F (.Tuple elts x1 tpos) (.Call (.Name "zip" p) [a,b] [] pos) (zf6 ms):=by
 rw[eSI];rw[eSA] at ha
 exact Mi.si_zpt hk hg hm ha hs hs2
end
end My
namespace My
open PySem L2 Mi
noncomputable def top(i:Nat):Stmt:=PySem.Challenge.pw_signbench_k11_words_begun.main.body.getD i (.Pass ⟨0,0,0,0⟩)
noncomputable abbrev z2w:Stmt:=top 0
noncomputable abbrev z04:Stmt:=top 9
noncomputable abbrev z0u:Stmt:=top 10
noncomputable abbrev z1E:Stmt:=top 11
noncomputable abbrev z0X:Stmt:=top 19
noncomputable abbrev z5b:Stmt:=top 22
noncomputable abbrev z3C:Stmt:=top 23
noncomputable abbrev z2x:Stmt:=top 24
noncomputable abbrev z3D:Stmt:=top 25
noncomputable abbrev z05:Stmt:=top 26
noncomputable abbrev z2y:Stmt:=top 27
noncomputable abbrev z1F:Stmt:=top 28
noncomputable abbrev z2z:Stmt:=top 29
noncomputable abbrev zct:Stmt:=top 30
noncomputable abbrev G4:Stmt:=stC (top 20) 0
noncomputable abbrev z0v:Stmt:=stC (top 20) 1
noncomputable abbrev z06:Stmt:=stC (top 20) 2
noncomputable abbrev X1:Stmt:=stC (top 20) 3
noncomputable abbrev X2:Stmt:=stC (top 20) 6
noncomputable abbrev z4w:List Str:=["k"]
noncomputable abbrev z4x:List Str:=z4w
noncomputable abbrev z1l:List Str:=["thing"]
noncomputable abbrev z07:List Str:=z1l
noncomputable abbrev z1O:List Str:=["thing", "low", "high"]
noncomputable abbrev z0w:List Str:=z1O
noncomputable abbrev z3h:List Str:=["thing", "fewest", "most", "high"]
noncomputable abbrev z1G:List Str:=z3h
noncomputable abbrev z5c:List Str:=["thing", "sounds", "signs", "kind", "cost"]
noncomputable abbrev z0Y:List Str:=["thing"]
noncomputable abbrev zcu:List Str:=["_law_script", "_law_at", "_law_cell", "_law_mix", "_law_k"]
noncomputable abbrev z5d:List Str:=["_law_script", "_law_at"]
noncomputable abbrev za8:List Str:=["_law_bag_here", "_law_many", "_law_digit"]
noncomputable abbrev z3E:List Str:=["_law_bag_here", "_law_many"]
noncomputable abbrev z4y:List Str:=["_law_thing"]
noncomputable abbrev z2A:List Str:=z4y
noncomputable abbrev za9:List Str:=["_law_bag_here", "_law_wide", "_law_sounds", "_law_signs"]
noncomputable abbrev z3F:List Str:=["_law_bag_here"]
noncomputable abbrev z3G:List Str:=["_law_told", "_law_word_here"]
noncomputable abbrev z08:List Str:=["_law_told"]
noncomputable abbrev z8u:List Str:=["_law_bag_here", "_law_found", "_law_turn", "_law_word_here"]
noncomputable abbrev z2B:List Str:=["_law_bag_here"]
noncomputable abbrev z3i:List Str:=["_law_sounds", "_law_begun"]
noncomputable abbrev z1H:List Str:=z3i
noncomputable abbrev z8v:List Str:=["_law_book", "_law_words_here", "_law_some", "_law_begun", "_law_due", "_law_turn", "_law_told"]
noncomputable abbrev z2C:List Str:=["_law_book", "_law_words_here", "_law_some"]
noncomputable abbrev zhe:List Str:=["_law_script", "_law_at", "_law_bag_here", "_law_words_here", "_law_book", "_law_word_here", "_law_some", "_law_turn", "_law_sounds", "_law_held", "_law_told", "_law_kept", "_law_gone", "_law_left"]
noncomputable abbrev zcv:List Str:=["_law_script"]
noncomputable abbrev K3:List Str:=["self"]
noncomputable abbrev K4:List Str:=K3
noncomputable abbrev z1P:List Str:=["self", "word"]
noncomputable abbrev z1Q:List Str:=z1P
noncomputable abbrev z1m:List Str:=["self", "sounds", "signs", "kind"]
noncomputable abbrev z1n:List Str:=z1m
noncomputable abbrev z0P:List Str:=["self"]
noncomputable abbrev z0Q:List Str:=z0P
noncomputable abbrev z0R:List Str:=["self", "sounds"]
noncomputable abbrev z0S:List Str:=z0R
local macro_rules | `(tactic| walk_at "sc") => `(tactic| exact ⟨rfl, rfl, rfl, by decide +kernel, rfl, by decide +kernel, by decide +kernel⟩)
theorem zdi:w4 z4w z4x (y8 z2w):=by walk_at "sc"
theorem z2Y:w4 z1l z07 (y8 z04):=by walk_at "sc"
theorem z3H:w4 z1O z0w (y8 z0u):=by walk_at "sc"
theorem z5e:w4 z3h z1G (y8 z1E):=by walk_at "sc"
theorem U1:w4 z5c z0Y (y8 z0X):=by walk_at "sc"
theorem z09:w4 zcu z5d (y8 z5b):=by walk_at "sc"
theorem z4z:w4 za8 z3E (y8 z3C):=by walk_at "sc"
theorem z6H:w4 z4y z2A (y8 z2x):=by walk_at "sc"
theorem z1o:w4 za9 z3F (y8 z3D):=by walk_at "sc"
theorem z0T:w4 z3G z08 (y8 z05):=by walk_at "sc"
theorem z0J:w4 z8u z2B (y8 z2y):=by walk_at "sc"
theorem z5f:w4 z3i z1H (y8 z1F):=by walk_at "sc"
theorem K5:w4 z8v z2C (y8 z2z):=by walk_at "sc"
theorem V9:w4 zhe zcv (y8 zct):=by walk_at "sc"
theorem z1p:w4 K3 K4 (y8 G4):=by walk_at "sc"
theorem z3I:w4 z1P z1Q (y8 z0v):=by walk_at "sc"
theorem z2Z:w4 z1m z1n (y8 z06):=by walk_at "sc"
theorem z2D:w4 z0P z0Q (y8 X1):=by walk_at "sc"
theorem z2E:w4 z0R z0S (y8 X2):=by walk_at "sc"
structure Dx(K:W.Frag)(mg:Str->Option Value)(x:Str)(st:Stmt)(ps:List Str) where
 f:Addr
 d:FuncData
 F:Fun K x x st f d
 b:X9 K d ps []
 m:mg x=some (.ref f)
theorem scl{X:Cx}{G:Gx}{F:Fy}{e:Expr}{es:List Expr}{pos p:Pos}{CX:CXT}{k j:Nat}{x:Str}{st:Stmt}{ps:List Str}{E:XK}{f:FM}{ms:List (M D)}(d:Dx X.K X.mg x st ps)(Fn:U3 X.prog X.w X.K X.mg X.base CX j d.f d.d ps (spM G ps.length f))(hr:z0n k X.A)(ha:SA X G F (e::es) (Z6 ms))(hg:Gl X x:=by rfl)(hx:U4 CX X E:=by exact z3r)(hln:ms.length=ps.length:=by rfl)(hk:X.K=G.K:=by rfl)(hj:j<=k:=by lia)(hdb:(x==("__debug__" :Str))=false:=by decide)(he:starEach (e::es) X.env=(false,eval e X.env)::starEach es X.env:=by rfl)(hpl:(backTo pos (starEach es X.env)).any (·.1)=false:=by rfl):SE X G F (.Call (.Name x p) (e::es) [] pos) (Y1 f ms):=se_call hk (Fn.mono hj) hr hg d.m d.F.kp d.b hx ha hln hdb he hpl
noncomputable abbrev kF(K:W.Frag)(a b:Addr)(r:Bool):Prop:=W.kitOne K (.ref a) (.ref b)=some r
noncomputable abbrev kN(K:W.Frag)(a:Addr)(l:List Addr):Prop:=W.kitAny K (.ref a) (l.map .ref)=some false
noncomputable abbrev kV(K:W.Frag)(a:Addr):Prop:=W.kitOne K (.ref a) (.type "ValueError")=some true
noncomputable abbrev fA(K:W.Frag)(a:Addr):Prop:=W.findIn K (.ref a) "__getattribute__" =some (some (.builtin "BaseException.__getattribute__"))
noncomputable abbrev fB(K:W.Frag)(a:Addr):Prop:=W.findIn K (.ref a) "__getattr__" =some none
noncomputable abbrev fC(K:W.Frag)(a:Addr):Prop:=W.findIn K (.ref a) "__class__" =some (some (.builtin "object.__class__"))
noncomputable abbrev xA(K:W.Frag)(a:Addr):Prop:=W.excIn K a bmV "ValueError.__new__" =true
noncomputable abbrev mO(K:W.Frag)(a:Addr)(s:String):Prop:=W.mroIn K a (.type s)=some true
noncomputable abbrev eB(K:W.Frag)(a b:Addr):Prop:=W.exmOne K (.ref a) (.ref b)=some true
noncomputable abbrev nI(K:W.Frag)(s:Str)(a:Addr):Prop:=W.nsIn K mainGlobals s=some (some (.ref a))
set_option genInjectivity false in
set_option genSizeOf false in
set_option genSizeOfSpec false in
structure Wd(K:W.Frag)(mg:Str->Option Value) where
 kaF:Addr
 kaC:mg "Book" =some (.ref kaF)
 cc_Book:Cls K kaF
 kar:Dx K mg "_wall" z2w z4x
 kaf:Dx K mg "is_number" z04 z07
 kah:Dx K mg "is_whole" z0u z0w
 kal:Dx K mg "is_row" z1E z1G
 kai:Dx K mg "is_word" z0X z0Y
 kaE:Dx K mg "_law_bag" z5b z5d
 kaA:Dx K mg "_law_take" z3C z3E
 kat:Dx K mg "_law_whole" z2x z2A
 kaz:Dx K mg "_law_word" z3D z3F
 kad:Dx K mg "_law_are_words" z05 z08
 kas:Dx K mg "_law_words" z2y z2B
 kak:Dx K mg "_law_begins" z1F z1H
 kap:Dx K mg "_law_right" z2z z2C
 x_law:Dx K mg "law" zct zcv
 kaa:Dm K kaF "__init__" "Book.__init__" G4 ["self"]
 kag:Dm K kaF "put" "Book.put" z0v ["self", "word"]
 kae:Dm K kaF "take" "Book.take" z06 ["self", "sounds", "signs", "kind"]
 kab:Dm K kaF "words" "Book.words" X1 ["self"]
 kac:Dm K kaF "begun" "Book.begun" X2 ["self", "sounds"]
 n_abs:mg "abs" =none
 n_all:mg "all" =none
 n_bool:mg "bool" =none
 c_LAST_SOUND: ∃t,mg "LAST_SOUND" =some (.int 39 t)
 c_LAST_WORD_COST: ∃t,mg "LAST_WORD_COST" =some (.int 9999 t)
 c_LAST_WORD_KIND: ∃t,mg "LAST_WORD_KIND" =some (.int 7 t)
 c_LAST_WORD_SIGN: ∃t,mg "LAST_WORD_SIGN" =some (.int 999 t)
 c_MOST_WORDS: ∃t,mg "MOST_WORDS" =some (.int 60 t)
 c_MOST_WORD_SIGNS: ∃t,mg "MOST_WORD_SIGNS" =some (.int 4 t)
 c_MOST_WORD_SOUNDS: ∃t,mg "MOST_WORD_SOUNDS" =some (.int 6 t)
 n_int:mg "int" =none
 n_isinstance:mg "isinstance" =none
 n_len:mg "len" =none
 n_list:mg "list" =none
 n_max:mg "max" =none
 n_min:mg "min" =none
 n_range:mg "range" =none
 n_repr:mg "repr" =none
 n_sorted:mg "sorted" =none
 n_tuple:mg "tuple" =none
 n_zip:mg "zip" =none
 kaw:Addr
 kaj:mg "Missing" =some (.ref kaw)
 kay:Addr
 kau:mg "NoWord" =some (.ref kay)
 kav:Addr
 kan:mg "TooMany" =some (.ref kav)
 kaD:Addr
 kaB:mg "Twice" =some (.ref kaD)
 kao:xA K kaw
 cxob_Missing:mO K kaw "object"
 cxba_Missing:mO K kaw "BaseException"
 cxf1_Missing:fA K kaw
 cxf2_Missing:fB K kaw
 cxf3_Missing:fC K kaw
 kaq:xA K kay
 cxob_NoWord:mO K kay "object"
 cxba_NoWord:mO K kay "BaseException"
 cxf1_NoWord:fA K kay
 cxf2_NoWord:fB K kay
 cxf3_NoWord:fC K kay
 kam:xA K kav
 cxob_TooMany:mO K kav "object"
 cxba_TooMany:mO K kav "BaseException"
 cxf1_TooMany:fA K kav
 cxf2_TooMany:fB K kav
 cxf3_TooMany:fC K kav
 kax:xA K kaD
 cxob_Twice:mO K kaD "object"
 cxba_Twice:mO K kaD "BaseException"
 cxf1_Twice:fA K kaD
 cxf2_Twice:fB K kaD
 cxf3_Twice:fC K kaD
 na_Book_costs:V7 K kaF "costs"
 mk_Book:Mk K kaF kaa.f
 cnd:[kaw,kay,kav,kaD,kaF].Nodup
section
variable{K:W.Frag}{mg:Str->Option Value}
noncomputable abbrev GT(T:Wd K mg):Gx:=mkG K [("Missing",T.kaw),("NoWord",T.kay),("TooMany",T.kav),("Twice",T.kaD),("Book",T.kaF)] T.cnd (.cons (z3z T.kao) (.cons (z3z T.kaq) (.cons (z3z T.kam) (.cons (z3z T.kax) (.cons (zce T.cc_Book) .nil)))))
theorem zdj(T:Wd K mg):(GT T).cl "Missing" =some T.kaw:=rfl
theorem zf7(T:Wd K mg):(GT T).cl "NoWord" =some T.kay:=rfl
theorem zdk(T:Wd K mg):(GT T).cl "TooMany" =some T.kav:=rfl
theorem zgh(T:Wd K mg):(GT T).cl "Twice" =some T.kaD:=rfl
theorem z0x(T:Wd K mg):(GT T).cl "Book" =some T.kaF:=rfl
noncomputable def J3(c:Str):Bool:=[("Book" :Str)].contains c
theorem z0a(T:Wd K mg): ∀c C,(GT T).cl c=some C->J3 c=true->Cls K C/\V7 K C "costs" :=fun c C h1 h2=>by
 have h3:([("Book",())]:List (Str×Unit)).lookup c=some ():=by
  unfold J3 at h2;erw[P6,List.contains_nil,Bool.or_eq_true,T1,beq_iff_eq] at h2
  subst h2;rfl
 exact Al2.at (Φ:=fun C (_:Unit)=>Cls K C/\V7 K C "costs") (.skip rfl (.skip rfl (.skip rfl (.skip rfl (.cons (b:=()) ⟨T.cc_Book,T.na_Book_costs⟩ .nil))))) h1 h3
end
section
variable{P:Program}{w:World}{K:W.Frag}{mg:Str->Option Value}{base:Heap}
noncomputable def z0b:MS:=(X8 (z4d (z3U "int" (y0 0)) (z6A (z3U "bool" (y0 0)))))
noncomputable def U8:FM:=z2p 1 z0b
theorem z30(T:Wd K mg):U3 P w K mg base CX0 1 T.kaf.f T.kaf.d z07 (spM (GT T) 1 U8):=okM z0b T.kaf.F z2Y fun cdv A outer s H E F hr=>(ss_one (ss_ret (se_and (se_isi rfl (by decide) rfl T.n_isinstance (sv 0) (x8 (v:= .ty "int") rfl T.n_int PyProof.Rows.Boot.«int» rfl)) (se_one (se_not (se_isi rfl (by decide) rfl T.n_isinstance (sv 0) (x8 (v:= .ty "bool") rfl T.n_bool PyProof.Rows.Boot.«bool» rfl)))))))
noncomputable def z0y:MS:=(X8 (z4d (Y1 U8 [(y0 0)]) (z0O (y0 1) (y0 0) (y0 2) leD leD)))
noncomputable def j8:FM:=z2p 3 z0y
theorem z0c(T:Wd K mg):U3 P w K mg base CX0 2 T.kah.f T.kah.d z0w (spM (GT T) 3 j8):=okM z0y T.kah.F z3H fun cdv A outer s H E F hr=>(ss_one (ss_ret (se_and (scl T.kaf (z30 T) hr (s1 (sv 0))) (se_one (se_cmp2 z9W z9W (sv 1) (sv 0) (sv 2))))))
noncomputable def z1I:MS:=(Q6 (sIf (mOr (z1z (J4 (z3U "tuple" (y0 0)))) (z1z (X0 (z0O (y0 1) (mCB [(y0 0)] z1A) (y0 2) leD leD)))) (X8 (mC (.bool false))) sNx)
 (X8 (mCB [(j3 (J2 (y0 0)) (.nm 0) (rt true) (Y1 j8 [(y0 0),(mC (.int 0)),(y0 1)]) 1 [3])] z98)))
noncomputable def K6:FM:=z2p 4 z1I
theorem z2F(T:Wd K mg):U3 P w K mg base CX0 3 T.kal.f T.kal.d z1G (spM (GT T) 4 K6):=okM z1I T.kal.F z5e fun cdv A outer s H E F hr=>(ss_cons (ss_if (SW.sb (sw_or (sb_not (sb_truth rfl (se_isi rfl (by decide) rfl T.n_isinstance (sv 0) (x8 (v:= .ty "tuple") rfl T.n_tuple PyProof.Rows.Boot.«tuple» rfl)))) (sw_or1 (sb_not (sb_cmp2 z9W z9W (sv 1) (sln T.n_len (s1 (sv 0))) (sv 2)))))) (ss_one (ss_ret (sc0 z1c))) ss_nil)
 (ss_one (ss_ret (se_cb rfl (z85 rfl hr.hd) rfl T.n_all PyProof.Rows.Boot.«all» (s1 (se_comp (own:=["part"]) (frees:=["high"]) (ix:=[3]) rfl rfl (U6.sc (by kernel_rfl)) (si_seq rfl (sv 0)) (fun _ _ _ _ _ _ _=>(sg_name (j6 (i:=0) (show C1 (["part", "high"]:List Str) by decide+kernel) rfl (Or.inl rfl)))) (fun _ _ _ _ _ _ _=>sts_nil) (fun _ _ _ _ _ _ _=>(scl T.kah (z0c T) hr (s3 (sv 0) (sc0 y4) (sv 1))))))))))
noncomputable def z0Z:MS:=(Q6 (sIf (mOr (z1z (J4 (z3U "tuple" (y0 0)))) (X0 (Z0 (mCB [(y0 0)] z1A) (mC (.int 4)) neD))) (X8 (mC (.bool false))) sNx)
 (Q6 (U0 (.tp [(.nm 1),(.nm 2),(.nm 3),(.nm 4)]) (y0 0))
 (Q6 (sIf (mOr (z1z (J4 (Y1 K6 [(y0 1),(mC (.int 1)),(mC (.int 6)),(mC (.int 39))]))) (z1z (J4 (Y1 K6 [(y0 2),(mC (.int 1)),(mC (.int 4)),(mC (.int 999))])))) (X8 (mC (.bool false))) sNx)
 (X8 (z4d (Y1 j8 [(y0 3),(mC (.int 0)),(mC (.int 7))]) (Y1 j8 [(y0 4),(mC (.int 0)),(mC (.int 9999))]))))))
noncomputable def z0d:FM:=z2p 5 z0Z
theorem z4A(T:Wd K mg):U3 P w K mg base CX0 4 T.kai.f T.kai.d z0Y (spM (GT T) 1 z0d):=okM z0Z T.kai.F U1 fun cdv A outer s H E F hr=>by
 have h64:=hr.units
 exact(ss_cons (ss_if (SW.sb (sw_or (sb_not (sb_truth rfl (se_isi rfl (by decide) rfl T.n_isinstance (sv 0) (x8 (v:= .ty "tuple") rfl T.n_tuple PyProof.Rows.Boot.«tuple» rfl)))) (sw_or1 (sb_cmp (z84 rfl h64) (sln T.n_len (s1 (sv 0))) (sc0 y4) (V0 _))))) (ss_one (ss_ret (sc0 z1c))) ss_nil)
 (ss_cons (ss_asg (sv 0) (sg_tup rfl rfl (sgs_cons (sgn 1 U1.nd) (sgs_cons (sgn 2 U1.nd) (sgs_cons (sgn 3 U1.nd) (sgs_cons (sgn 4 U1.nd) sgs_nil))))))
 (ss_cons (ss_if (SW.sb (sw_or (sb_not (sb_truth rfl (scl T.kal (z2F T) hr (s4 (sv 1) (sc0 y4) (se_c rfl (z0U (v:= .int 6) rfl T.c_MOST_WORD_SOUNDS.choose_spec ⟨_,rfl⟩)) (se_c rfl (z0U (v:= .int 39) rfl T.c_LAST_SOUND.choose_spec ⟨_,rfl⟩)))))) (sw_or1 (sb_not (sb_truth rfl (scl T.kal (z2F T) hr (s4 (sv 2) (sc0 y4) (se_c rfl (z0U (v:= .int 4) rfl T.c_MOST_WORD_SIGNS.choose_spec ⟨_,rfl⟩)) (se_c rfl (z0U (v:= .int 999) rfl T.c_LAST_WORD_SIGN.choose_spec ⟨_,rfl⟩))))))))) (ss_one (ss_ret (sc0 z1c))) ss_nil)
 (ss_one (ss_ret (se_and (scl T.kah (z0c T) hr (s3 (sv 3) (sc0 y4) (se_c rfl (z0U (v:= .int 7) rfl T.c_LAST_WORD_KIND.choose_spec ⟨_,rfl⟩)))) (se_one (scl T.kah (z0c T) hr (s3 (sv 4) (sc0 y4) (se_c rfl (z0U (v:= .int 9999) rfl T.c_LAST_WORD_COST.choose_spec ⟨_,rfl⟩)))))))))))
noncomputable def z5g:MS:=(Q6 (U0 (.nm 2) (mC (.int 0)))
 (Q6 (sIf (X0 (Z0 (y0 1) (mCB [(y0 0)] z1A) ltD)) (U0 (.nm 2) (mCB [(Z0 (y0 0) (y0 1) ixD)] zd8)) sNx)
 (Q6 (U0 (.nm 3) (Z0 (Z0 (Z0 (Z0 (Z0 (y0 2) (mC (.int 2147483629)) z4c) (Z0 (mC (.int 104729)) (y0 1) z6z) X7) (mC (.int 17)) X7) (mC (.int 5)) z9J) (mC (.int 2147483647)) z4c))
 (Q6 (z3b (V4 [(mCB [(mCB [(y0 0)] z1A),(mC (.int 60))] zc0)]) (.nm 4) (U0 (.nm 3) (Z0 (Z0 (Z0 (Z0 (y0 3) (mC (.int 48271)) z6z) (Z0 (Z0 (Z0 (y0 0) (y0 4) ixD) (mC (.int 2147483587)) z4c) (Z0 (y0 4) (mC (.int 3)) X7) z6z) X7) (y0 4) X7) (mC (.int 2147483629)) z4c)))
 (Q6 (sIf (X0 (Z0 (y0 2) (Z0 (mC (.int 10)) (mC (.int 18)) z9J) ltD)) (U0 (.nm 2) (mC (.int 0))) sNx)
 (X8 (mCB [(y0 2),(y0 3)] lstM)))))))
noncomputable def z2G:FM:=z2p 5 z5g
theorem zaa(T:Wd K mg):U3 P w K mg base CX0 1 T.kaE.f T.kaE.d z5d (spM (GT T) 2 z2G):=okM z5g T.kaE.F z09 fun cdv A outer s H E F hr=>(ss_cons (sst 2 z09.nd (sc0 y4))
 (ss_cons (ss_if (sb_cmp zc6 (sv 1) (sln T.n_len (s1 (sv 0))) (V0 _)) (ss_one (sst 2 z09.nd (se_cb rfl zeM rfl T.n_abs PyProof.Rows.Boot.«abs» (s1 (sxx (sv 0) (sv 1)))))) ss_nil)
 (ss_cons (sst 3 z09.nd (se_mod rfl (se_pow rfl (se_add rfl (se_add rfl (se_mod rfl (sv 2) (sc0 y4)) (se_mul rfl (sc0 y4) (sv 1))) (sc0 y4)) (sc0 y4)) (sc0 y4)))
 (ss_cons (ss_for PassesOwn.never rfl (si_rng1 rfl T.n_range (s1 (se_cb rfl (zaH rfl) rfl T.n_min PyProof.Rows.Boot.«min» (s2 (sln T.n_len (s1 (sv 0))) (sc0 y4))))) (sgn 4 z09.nd) (ss_one (sst 3 z09.nd (se_mod rfl (se_add rfl (se_add rfl (se_mul rfl (sv 3) (sc0 y4)) (se_mul rfl (se_mod rfl (sxx (sv 0) (sv 4)) (sc0 y4)) (se_add rfl (sv 4) (sc0 y4)))) (sv 4)) (sc0 y4)))))
 (ss_cons (ss_if (sb_cmp zc6 (sv 2) (se_pow rfl (sc0 y4) (sc0 y4)) (V0 _)) (ss_one (sst 2 z09.nd (sc0 y4))) ss_nil)
 (ss_one (ss_ret (se_lst rfl (s2 (sv 2) (sv 3))))))))))
noncomputable def z3J:MS:=(Q6 (sIf (X0 (Z0 (Z0 (y0 0) (mC (.int 0)) ixD) (mC (.int 0)) gtD)) (Q6 (U0 (.nm 2) (Z0 (Z0 (y0 0) (mC (.int 0)) ixD) (y0 1) z4c))
 (Q6 (z82 (Z0 (Z0 (y0 0) (mC (.int 0)) ixD) (y0 1) z2U) (y0 0) (mC (.int 0)) zaG)
 (X8 (y0 2)))) sNx)
 (Q6 (z82 (Z0 (Z0 (Z0 (Z0 (y0 0) (mC (.int 1)) ixD) (mC (.int 48271)) z6z) (mC (.int 7919)) X7) (mC (.int 2147483647)) z4c) (y0 0) (mC (.int 1)) zaG)
 (X8 (Z0 (Z0 (Z0 (Z0 (Z0 (Z0 (Z0 (y0 0) (mC (.int 1)) ixD) (mC (.int 3)) z9J) (mC (.int 2147483587)) z4c) (mC (.int 7)) z2U) (mC (.int 69621)) z6z) (mC (.int 1073741789)) z4c) (y0 1) z4c))))
noncomputable def Z3:FM:=z2p 3 z3J
theorem Q1(T:Wd K mg):U3 P w K mg base CX0 1 T.kaA.f T.kaA.d z3E (spM (GT T) 2 Z3):=okM z3J T.kaA.F z4z fun cdv A outer s H E F hr=>(ss_cons (ss_if (sb_cmp zh2 (sxc (sv 0) y4) (sc0 y4) (V0 _)) (ss_cons (sst 2 z4z.nd (se_mod rfl (sxc (sv 0) y4) (sv 1)))
 (ss_cons (ss_setI (se_fdiv rfl (sxc (sv 0) y4) (sv 1)) (sv 0) (sc0 y4) (fun{to ti} h1 h2=>zar h1 h2 z5A))
 (ss_one (ss_ret (sv 2))))) ss_nil)
 (ss_cons (ss_setI (se_mod rfl (se_add rfl (se_mul rfl (sxc (sv 0) y4) (sc0 y4)) (sc0 y4)) (sc0 y4)) (sv 0) (sc0 y4) (fun{to ti} h1 h2=>zar h1 h2 z5A))
 (ss_one (ss_ret (se_mod rfl (se_mod rfl (se_mul rfl (se_fdiv rfl (se_mod rfl (se_pow rfl (sxc (sv 0) y4) (sc0 y4)) (sc0 y4)) (sc0 y4)) (sc0 y4)) (sc0 y4)) (sv 1))))))
noncomputable def z2H:MS:=(X8 (z4d (z3U "int" (y0 0)) (z6A (z3U "bool" (y0 0)))))
noncomputable def K7:FM:=z2p 1 z2H
theorem z6I(T:Wd K mg):U3 P w K mg base CX0 1 T.kat.f T.kat.d z2A (spM (GT T) 1 K7):=okM z2H T.kat.F z6H fun cdv A outer s H E F hr=>(ss_one (ss_ret (se_and (se_isi rfl (by decide) rfl T.n_isinstance (sv 0) (x8 (v:= .ty "int") rfl T.n_int PyProof.Rows.Boot.«int» rfl)) (se_one (se_not (se_isi rfl (by decide) rfl T.n_isinstance (sv 0) (x8 (v:= .ty "bool") rfl T.n_bool PyProof.Rows.Boot.«bool» rfl)))))))
noncomputable def z3K:MS:=(Q6 (U0 (.nm 1) (Z0 (Y1 Z3 [(y0 0),(mC (.int 3))]) (mC (.int 2)) z2U))
 (Q6 (U0 (.nm 2) (mCB [(j3 (V4 [(Z0 (mC (.int 1)) (Y1 Z3 [(y0 0),(Z0 (mCB [(mC (.int 2)),(mC (.int 6))] lstM) (y0 1) ixD)]) X7)]) (.nm 0) (rt true) (Y1 Z3 [(y0 1),(Z0 (mCB [(mC (.int 2)),(mC (.int 40))] lstM) (y0 2) ixD)]) 1 [0,1])] z99))
 (Q6 (U0 (.nm 3) (mCB [(j3 (V4 [(Z0 (mC (.int 1)) (Y1 Z3 [(y0 0),(Z0 (mCB [(mC (.int 2)),(mC (.int 4))] lstM) (y0 1) ixD)]) X7)]) (.nm 0) (rt true) (Y1 Z3 [(y0 1),(Z0 (mCB [(mC (.int 3)),(mC (.int 1000))] lstM) (y0 2) ixD)]) 1 [0,1])] z99))
 (X8 (mCB [(y0 2),(y0 3),(Y1 Z3 [(y0 0),(Z0 (mCB [(mC (.int 2)),(mC (.int 8))] lstM) (y0 1) ixD)]),(Y1 Z3 [(y0 0),(Z0 (mCB [(mC (.int 4)),(mC (.int 10000))] lstM) (y0 1) ixD)])] z2R)))))
noncomputable def z0e:FM:=z2p 4 z3K
theorem z4B(T:Wd K mg):U3 P w K mg base CX0 2 T.kaz.f T.kaz.d z3F (spM (GT T) 1 z0e):=okM z3K T.kaz.F z1o fun cdv A outer s H E F hr=>(ss_cons (ss_set (fun{te} h=>z1M (i:=1) z1o.nd rfl (Or.inr rfl) h) (se_fdiv rfl (scl T.kaA (Q1 T) hr (s2 (sv 0) (sc0 y4))) (sc0 y4)))
 (ss_cons (sst 2 z1o.nd (se_ct rfl (z3y rfl) rfl T.n_tuple PyProof.Rows.Boot.«tuple» (s1 (se_comp (own:=["_law_k"]) (frees:=["_law_bag_here", "_law_wide"]) (ix:=[0,1]) rfl rfl (U6.sc (by kernel_rfl)) (si_rng1 rfl T.n_range (s1 (se_add rfl (sc0 y4) (scl T.kaA (Q1 T) hr (s2 (sv 0) (sxx (se_lst rfl (s2 (sc0 y4) (sc0 y4))) (sv 1))))))) (fun _ _ _ _ _ _ _=>(sg_name (j6 (i:=0) (show C1 (["_law_k", "_law_bag_here", "_law_wide"]:List Str) by decide+kernel) rfl (Or.inl rfl)))) (fun _ _ _ _ _ _ _=>sts_nil) (fun _ _ _ _ _ _ _=>(scl T.kaA (Q1 T) hr (s2 (sv 1) (sxx (se_lst rfl (s2 (sc0 y4) (sc0 y4))) (sv 2)))))))))
 (ss_cons (sst 3 z1o.nd (se_ct rfl (z3y rfl) rfl T.n_tuple PyProof.Rows.Boot.«tuple» (s1 (se_comp (own:=["_law_k"]) (frees:=["_law_bag_here", "_law_wide"]) (ix:=[0,1]) rfl rfl (U6.sc (by kernel_rfl)) (si_rng1 rfl T.n_range (s1 (se_add rfl (sc0 y4) (scl T.kaA (Q1 T) hr (s2 (sv 0) (sxx (se_lst rfl (s2 (sc0 y4) (sc0 y4))) (sv 1))))))) (fun _ _ _ _ _ _ _=>(sg_name (j6 (i:=0) (show C1 (["_law_k", "_law_bag_here", "_law_wide"]:List Str) by decide+kernel) rfl (Or.inl rfl)))) (fun _ _ _ _ _ _ _=>sts_nil) (fun _ _ _ _ _ _ _=>(scl T.kaA (Q1 T) hr (s2 (sv 1) (sxx (se_lst rfl (s2 (sc0 y4) (sc0 y4))) (sv 2)))))))))
 (ss_one (ss_ret (se_tup rfl (s4 (sv 2) (sv 3) (scl T.kaA (Q1 T) hr (s2 (sv 0) (sxx (se_lst rfl (s2 (sc0 y4) (sc0 y4))) (sv 1)))) (scl T.kaA (Q1 T) hr (s2 (sv 0) (sxx (se_lst rfl (s2 (sc0 y4) (sc0 y4))) (sv 1)))))))))))
noncomputable def z0f:MS:=(Q6 (sIf (z1z (J4 (z3U "list" (y0 0)))) (X8 (mC (.bool false))) sNx)
 (Q6 (z3b (J2 (y0 0)) (.nm 1) (Q6 (sIf (mOr (z1z (J4 (z3U "tuple" (y0 1)))) (mOr (z1z (J4 (z3U "tuple" (Z0 (y0 1) (mC (.int 0)) ixD)))) (z1z (J4 (z3U "tuple" (Z0 (y0 1) (mC (.int 1)) ixD)))))) (X8 (mC (.bool false))) sNx)
 (sIf (z1z (J4 (mCB [(j3 (J2 (Z0 (Z0 (Z0 (y0 1) (mC (.int 0)) ixD) (Z0 (y0 1) (mC (.int 1)) ixD) X7) (mSl (y0 1) (some (mC (.int 2))) none) X7)) (.nm 0) (rt true) (Y1 K7 [(y0 0)]) 1 [])] z98))) (X8 (mC (.bool false))) sNx)))
 (X8 (mC (.bool true)))))
noncomputable def G0:FM:=z2p 2 z0f
theorem z31(T:Wd K mg):U3 P w K mg base CX0 2 T.kad.f T.kad.d z08 (spM (GT T) 1 G0):=okM z0f T.kad.F z0T fun cdv A outer s H E F hr=>(ss_cons (ss_if (sb_not (sb_truth rfl (se_isi rfl (by decide) rfl T.n_isinstance (sv 0) (x8 (v:= .ty "list") rfl T.n_list PyProof.Rows.Boot.«list» rfl)))) (ss_one (ss_ret (sc0 z1c))) ss_nil)
 (ss_cons (ss_for PassesOwn.never rfl (si_seq rfl (sv 0)) (sgn 1 z0T.nd) (ss_cons (ss_if (SW.sb (sw_or (sb_not (sb_truth rfl (se_isi rfl (by decide) rfl T.n_isinstance (sv 1) (x8 (v:= .ty "tuple") rfl T.n_tuple PyProof.Rows.Boot.«tuple» rfl)))) (sw_or (sb_not (sb_truth rfl (se_isi rfl (by decide) rfl T.n_isinstance (sxc (sv 1) y4) (x8 (v:= .ty "tuple") rfl T.n_tuple PyProof.Rows.Boot.«tuple» rfl)))) (sw_or1 (sb_not (sb_truth rfl (se_isi rfl (by decide) rfl T.n_isinstance (sxc (sv 1) y4) (x8 (v:= .ty "tuple") rfl T.n_tuple PyProof.Rows.Boot.«tuple» rfl)))))))) (ss_one (ss_ret (sc0 z1c))) ss_nil)
 (ss_one (ss_if (sb_not (sb_truth rfl (se_cb rfl (z85 rfl hr.hd) rfl T.n_all PyProof.Rows.Boot.«all» (s1 (se_comp (own:=["_law_one"]) (frees:=[]) (ix:=[]) rfl rfl (U6.sc (by kernel_rfl)) (si_seq rfl (se_add rfl (se_add rfl (sxc (sv 1) y4) (sxc (sv 1) y4)) (se_slice rfl (sv 1) (so_some (sc0 y4)) so_none))) (fun _ _ _ _ _ _ _=>(sg_name (j6 (i:=0) (show C1 (["_law_one"]:List Str) by decide+kernel) rfl (Or.inl rfl)))) (fun _ _ _ _ _ _ _=>sts_nil) (fun _ _ _ _ _ _ _=>(scl T.kat (z6I T) hr (s1 (sv 0))))))))) (ss_one (ss_ret (sc0 z1c))) ss_nil))))
 (ss_one (ss_ret (sc0 z1c)))))
noncomputable def z2I:MS:=(Q6 (U0 (.nm 1) z56)
 (Q6 (z3b (V4 [(Z0 (mCB [(Y1 Z3 [(y0 0),(mC (.int 13))]),(mC (.int 60))] lstM) (mCB [(Z0 (Y1 Z3 [(y0 0),(mC (.int 8))]) (mC (.int 5)) eqD)] zda) ixD)]) (.nm 2) (Q6 (U0 (.nm 3) (Y1 z0e [(y0 0)]))
 (z82 (Z0 (y0 3) (mC (.int 3)) ixD) (y0 1) (mSl (y0 3) none (some (mC (.int 3)))) z2s)))
 (X8 (mCB [(bd (y0 1) zaN)] zaL))))
noncomputable def z0z:FM:=z2p 4 z2I
theorem z6J(T:Wd K mg):U3 P w K mg base CX0 3 T.kas.f T.kas.d z2B (spM (GT T) 1 z0z):=okM z2I T.kas.F z0J fun cdv A outer s H E F hr=>by
 have h64:=hr.units
 exact(ss_cons (ss_set (fun{te} h=>z1M (i:=1) z0J.nd rfl (Or.inr rfl) h) (se_dnew rfl))
 (ss_cons (ss_for PassesOwn.never rfl (si_rng1 rfl T.n_range (s1 (sxx (se_lst rfl (s2 (scl T.kaA (Q1 T) hr (s2 (sv 0) (sc0 y4))) (sc0 y4))) (se_ct rfl zeO rfl T.n_int PyProof.Rows.Boot.«int» (s1 (se_cmp (zc7 rfl h64) (scl T.kaA (Q1 T) hr (s2 (sv 0) (sc0 y4))) (sc0 y4) (V0 _))))))) (sgn 2 z0J.nd) (ss_cons (sst 3 z0J.nd (scl T.kaz (z4B T) hr (s1 (sv 0))))
 (ss_one (ss_dput h64 (sxc (sv 3) y4) (sv 1) (se_slice rfl (sv 3) so_none (so_some (sc0 y4)))))))
 (ss_one (ss_ret (se_cb rfl (z8m rfl h64) rfl T.n_sorted PyProof.Rows.Boot.«sorted» (s1 (se_rowK (i:=1) (own:=["_law_key"]) (frees:=["_law_found"]) rfl rfl (U6.sc (by kernel_rfl)) (pv 1) rfl (fun _ _ _ _ _ _=>j6 (i:=0) (show C1 (["_law_key", "_law_found"]:List Str) by decide+kernel) rfl (Or.inl rfl)) (fun _ _ _ _ _ _=>zbj z4X (pv 0) (z7i (z24 (zbH (D3 (Nat.add_le_add_left (by decide:2<=64) _) h64) (pv 1) (pv 0) (fun _ _=>rfl)) z5x))))))))))
noncomputable def z0K:MS:=(Q6 (sIf (X0 (Z0 (mCB [(y0 0)] z1A) (mCB [(y0 1)] z1A) ltD)) (X8 (mC (.bool false))) sNx)
 (X8 (mCB [(j3 (zf6 [(y0 0),(y0 1)]) (.tp [(.nm 0),(.nm 1)]) (rt true) (Z0 (y0 0) (y0 1) eqD) 2 [])] z98)))
noncomputable def G5:FM:=z2p 2 z0K
theorem z5h(T:Wd K mg):U3 P w K mg base CX0 1 T.kak.f T.kak.d z1H (spM (GT T) 2 G5):=okM z0K T.kak.F z5f fun cdv A outer s H E F hr=>by
 have h64:=hr.units
 exact(ss_cons (ss_if (sb_cmp zc6 (sln T.n_len (s1 (sv 0))) (sln T.n_len (s1 (sv 1))) (V0 _)) (ss_one (ss_ret (sc0 z1c))) ss_nil)
 (ss_one (ss_ret (se_cb rfl (z85 rfl hr.hd) rfl T.n_all PyProof.Rows.Boot.«all» (s1 (se_comp (own:=["_law_one", "_law_other"]) (frees:=[]) (ix:=[]) rfl rfl (U6.sc (by kernel_rfl)) (si_zpt rfl rfl T.n_zip (s2 (sv 0) (sv 1))) (fun _ _ _ _ _ _ _=>(sg_tup rfl rfl (sgs_cons (sg_name (j6 (i:=0) (show C1 (["_law_one", "_law_other"]:List Str) by decide+kernel) rfl (Or.inl rfl))) (sgs_cons (sg_name (j6 (i:=1) (show C1 (["_law_one", "_law_other"]:List Str) by decide+kernel) rfl (Or.inl rfl))) sgs_nil)))) (fun _ _ _ _ _ _ _=>sts_nil) (fun _ _ _ _ _ _ _=>(se_cmp (zc7 rfl h64) (sv 0) (sv 1) (V0 _)))))))))
noncomputable def X3:MS:=(X8 (mCB [(bd (z9a (y0 0) "costs" J3) zco)] zaL))
noncomputable def W6:FM:=z2p 1 X3
theorem z0A(T:Wd K mg):U3 P w K mg base CX0 1 T.kab.f T.kab.d z0Q (spM (GT T) 1 W6):=okM X3 T.kab.F z2D fun cdv A outer s H E F hr=>by
 have h64:=hr.units
 exact(ss_one (ss_ret (se_cb rfl (z8m rfl h64) rfl T.n_sorted PyProof.Rows.Boot.«sorted» (s1 (se_rowI (own:=["name", "cost"]) rfl rfl (U6.sc (by kernel_rfl)) (se_fld (sv 0) (z0a T)) rfl (fun _ _ _ _ _ _=>zaq rfl (z3n (j6 (i:=0) (show C1 (["name", "cost"]:List Str) by decide+kernel) rfl (Or.inl rfl)) (z3n (j6 (i:=1) (show C1 (["name", "cost"]:List Str) by decide+kernel) rfl (Or.inl rfl)) z77))) (fun _ _ _ _ _ _=>zbj z4X (pv 0) (z7i (z24 (pv 1) z5x))))))))
noncomputable def X4:MS:=(X8 (j3 (J2 (z2u "Book" "words" W6 (y0 0) [])) (.nm 0) (X0 (Z0 (mSl (Z0 (y0 0) (mC (.int 0)) ixD) none (some (mCB [(y0 1)] z1A))) (y0 1) eqD)) (y0 0) 1 [1]))
noncomputable def Y7:FM:=z2p 2 X4
theorem z0B(T:Wd K mg):U3 P w K mg base CX0 2 T.kac.f T.kac.d z0S (spM (GT T) 2 Y7):=okM X4 T.kac.F z2E fun cdv A outer s H E F hr=>by
 have h64:=hr.units
 exact(ss_one (ss_ret (se_comp (own:=["word"]) (frees:=["sounds"]) (ix:=[1]) rfl rfl (U6.sc (by kernel_rfl)) (si_seq rfl (se_mth0 (z0x T) T.cc_Book T.kab.h ((z0A T).mono (by lia)) hr T.kab.b z3r (sv 0) rfl)) (fun _ _ _ _ _ _ _=>(sg_name (j6 (i:=0) (show C1 (["word", "sounds"]:List Str) by decide+kernel) rfl (Or.inl rfl)))) (fun _ _ _ _ _ _ _=>(sts_one (sb_cmp (zc7 rfl h64) (se_slice rfl (sxc (sv 0) y4) so_none (so_some (sln T.n_len (s1 (sv 1))))) (sv 1) (V0 _)))) (fun _ _ _ _ _ _ _=>(sv 0)))))
noncomputable def z2J:MS:=(Q6 (z3b (J2 (y0 2)) (.nm 3) (Q6 (U0 (.nm 4) (j3 (J2 (y0 1)) (.nm 0) (J4 (Y1 G5 [(Z0 (y0 0) (mC (.int 0)) ixD),(y0 1)])) (y0 0) 1 [3]))
 (z3b (V4 [(mC (.int 2))]) (.nm 5) (Q6 (U0 (.nm 6) (z2u "Book" "begun" Y7 (y0 0) [(y0 3)]))
 (Q6 (sIf (mOr (z1z (J4 (Y1 G0 [(y0 6)]))) (X0 (Z0 (y0 6) (y0 4) neD))) (X8 (mC (.bool false))) sNx)
 (z0o (z1B (y0 6) [(mC .non)] z81)))))))
 (X8 (mC (.bool true))))
noncomputable def G1:FM:=z2p 7 z2J
theorem z1J(T:Wd K mg):U3 P w K mg base CX0 3 T.kap.f T.kap.d z2C (spM (GT T) 3 G1):=okM z2J T.kap.F K5 fun cdv A outer s H E F hr=>by
 have h64:=hr.units
 exact(ss_cons (ss_for PassesOwn.never rfl (si_seq rfl (sv 2)) (sg_name (j6 (i:=3) K5.nd rfl (Or.inr rfl))) (ss_cons (ss_comp (i:=4) (own:=["_law_word_here"]) (frees:=["_law_begun"]) (ix:=[3]) rfl K5.nd rfl (Or.inl rfl) (Or.inl rfl) rfl rfl (U6.sc (by kernel_rfl)) (si_seq rfl (sv 1)) (fun _ _ _ _ _ _ _=>(sg_name (j6 (i:=0) (show C1 (["_law_word_here", "_law_begun"]:List Str) by decide+kernel) rfl (Or.inl rfl)))) (fun _ _ _ _ _ _ _=>(sts_one (sb_truth rfl (scl T.kak (z5h T) hr (s2 (sxc (sv 0) y4) (sv 1)))))) (fun _ _ _ _ _ _ _=>(sv 0)))
 (ss_one (ss_for PassesOwn.never rfl (si_rng1 rfl T.n_range (s1 (sc0 y4))) (sgn 5 K5.nd) (ss_cons (sst 6 K5.nd (se_mth (z0x T) T.cc_Book T.kac.h ((z0B T).mono (by lia)) hr T.kac.b z3r (sv 0) (s1 (sv 3)) rfl))
 (ss_cons (ss_if (SW.sb (sw_or (sb_not (sb_truth rfl (scl T.kad (z31 T) hr (s1 (sv 6))))) (sw_or1 (sb_cmp (z84 rfl h64) (sv 6) (sv 4) (V0 _))))) (ss_one (ss_ret (sc0 z1c))) ss_nil)
 (ss_one (ss_expr (se_cl rfl PySem.F.slot_list_append PySem.F.type_list_append z2q (sv 6) (s1 (sc0 zdu)))))))))))
 (ss_one (ss_ret (sc0 z1c))))
noncomputable def G6:MS:=(z9Y z56 (y0 0) "costs" J3)
noncomputable def Y6:FM:=z2p 1 G6
theorem z1q(T:Wd K mg):U3 P w K mg base CX0 1 T.kaa.f T.kaa.d K4 (spM (GT T) 1 Y6):=okM G6 T.kaa.F z1p fun cdv A outer s H E F hr=>(ss_one (ss_fld (sv 0) (se_dnew rfl) (z0a T)))
noncomputable def X5:MS:=(Q6 (sIf (z1z (J4 (Y1 z0d [(y0 1)]))) sNo sNx)
 (Q6 (sIf (X0 (Z0 (mSl (y0 1) none (some (mC (.int 3)))) (z9a (y0 0) "costs" J3) zde)) sNo sNx)
 (Q6 (sIf (X0 (Z0 (mCB [(z9a (y0 0) "costs" J3)] zdg) (mC (.int 60)) geD)) sNo sNx)
 (z82 (Z0 (y0 1) (mC (.int 3)) ixD) (z9a (y0 0) "costs" J3) (mSl (y0 1) none (some (mC (.int 3)))) z2s))))
noncomputable def Q3:FM:=z2p 2 X5
theorem z0C(T:Wd K mg):U3 P w K mg base CX0 5 T.kag.f T.kag.d z1Q (spM (GT T) 2 Q3):=okM X5 T.kag.F z3I fun cdv A outer s H E F hr=>by
 have h64:=hr.units
 exact(ss_cons (ss_if (sb_not (sb_truth rfl (scl T.kai (z4A T) hr (s1 (sv 1))))) (ss_one ss_no) ss_nil)
 (ss_cons (ss_if (sb_cmp (zeV h64) (se_slice rfl (sv 1) so_none (so_some (sc0 y4))) (se_fld (sv 0) (z0a T)) (by with_unfolding_all rfl)) (ss_one ss_no) ss_nil)
 (ss_cons (ss_if (sb_cmp zh3 (se_cb rfl zcn rfl T.n_len PyProof.Rows.Boot.«len» (s1 (se_fld (sv 0) (z0a T)))) (se_c rfl (z0U (v:= .int 60) rfl T.c_MOST_WORDS.choose_spec ⟨_,rfl⟩)) (V0 _)) (ss_one ss_no) ss_nil)
 (ss_one (ss_dput h64 (sxc (sv 1) y4) (se_fld (sv 0) (z0a T)) (se_slice rfl (sv 1) so_none (so_some (sc0 y4))))))))
noncomputable def V5:MS:=(Q6 (sIf (X0 (Z0 (mCB [(y0 1),(y0 2),(y0 3)] z2R) (z9a (y0 0) "costs" J3) z6F)) sNo sNx)
 (z0o (z5a (z9a (y0 0) "costs" J3) (mCB [(y0 1),(y0 2),(y0 3)] z2R))))
noncomputable def j9:FM:=z2p 4 V5
theorem z1W(T:Wd K mg):U3 P w K mg base CX0 1 T.kae.f T.kae.d z1n (spM (GT T) 4 j9):=okM V5 T.kae.F z2Z fun cdv A outer s H E F hr=>by
 have h64:=hr.units
 exact(ss_cons (ss_if (sb_cmp (zcc h64) (se_tup rfl (s3 (sv 1) (sv 2) (sv 3))) (se_fld (sv 0) (z0a T)) (by with_unfolding_all rfl)) (ss_one ss_no) ss_nil)
 (ss_one (ss_expr (se_pop1 rfl h64 (se_fld (sv 0) (z0a T)) (se_tup rfl (s3 (sv 1) (sv 2) (sv 3))) ⟨rfl,rfl,rfl,rfl⟩))))
noncomputable def zcw:MS:=(Q6 (z3b (V4 [(mCB [(mC (.int 1)),(mCB [(mC (.int 3)),(mCB [(y0 0)] z1A)] zc0)] zd9)]) (.nm 1) (Q6 (U0 (.nm 2) (Y1 z2G [(y0 0),(y0 1)]))
 (Q6 (U0 (.nm 3) (Y1 z0z [(y0 2)]))
 (Q6 (U0 (.nm 4) (z59 "Book" Y6 []))
 (Q6 (z3b (J2 (y0 3)) (.nm 5) (z0o (z2u "Book" "put" Q3 (y0 4) [(y0 5)])))
 (Q6 (U0 (.nm 6) (mCB [(mCB [] z2R),(mCB [(Y1 Z3 [(y0 2),(mC (.int 40))])] z2R),(mCB [(j3 (V4 [(mC (.int 24))]) (.nm 0) (rt true) (Y1 Z3 [(y0 1),(mC (.int 40))]) 1 [2])] z99)] lstM))
 (Q6 (z3b (V4 [(mC (.int 3))]) (.nm 7) (Q6 (U0 (.nm 8) (Z0 (Z0 (Z0 (y0 3) (mCB [(Y1 z0e [(y0 2)])] lstM) X7) (Y1 Z3 [(y0 2),(Z0 (mCB [(y0 3)] z1A) (mC (.int 1)) X7)]) ixD) (mC (.int 0)) ixD))
 (Q6 (z0o (z1B (y0 6) [(j3 (V4 [(Z0 (mCB [(y0 8)] z1A) (mC (.int 1)) X7)]) (.nm 0) (rt true) (mSl (y0 1) none (some (y0 0))) 1 [8])] zc4))
 (z0o (z1B (y0 6) [(Z0 (y0 8) (mCB [(Y1 Z3 [(y0 2),(mC (.int 3))])] z2R) X7)] z81)))))
 (Q6 (U0 (.nm 9) (j3 (J2 (y0 6)) (.nm 0) (rt true) (z2u "Book" "begun" Y7 (y0 1) [(y0 0)]) 1 [4]))
 (Q6 (z3b (J2 (y0 9)) (.nm 10) (z0o (z1B (y0 10) [(mC (.int 7))] z81)))
 (Q6 (U0 (.nm 11) (mCB [(y0 9)] z8c))
 (Q6 (sIf (z1z (J4 (Y1 G1 [(y0 4),(y0 3),(y0 6)]))) (X8 (mC (.bool false))) sNx)
 (Q6 (sIf (X0 (Z0 (y0 3) (mCB [] lstM) neD)) (Q6 (U0 (.nm 12) (Z0 (y0 3) (Y1 Z3 [(y0 2),(mCB [(y0 3)] z1A)]) ixD))
 (Q6 (z0o (z2u "Book" "take" j9 (y0 4) [(Z0 (y0 12) (mC (.int 0)) ixD),(Z0 (y0 12) (mC (.int 1)) ixD),(Z0 (y0 12) (mC (.int 2)) ixD)]))
 (Q6 (U0 (.nm 13) (j3 (J2 (y0 3)) (.nm 0) (X0 (Z0 (y0 0) (y0 1) neD)) (y0 0) 1 [12]))
 (Q6 (sIf (mOr (z1z (J4 (Y1 G1 [(y0 4),(y0 13),(y0 6)]))) (X0 (Z0 (mCB [(y0 9)] z8c) (y0 11) neS))) (X8 (mC (.bool false))) sNx)
 (z0o (z2u "Book" "put" Q3 (y0 4) [(y0 12)])))))) sNx)
 (sIf (mOr (z1z (J4 (Y1 G1 [(y0 4),(y0 3),(y0 6)]))) (mOr (X0 (Z0 (z2u "Book" "words" W6 (y0 4) []) (y0 3) neD)) (X0 (Z0 (mCB [(y0 9)] z8c) (y0 11) neS)))) (X8 (mC (.bool false))) sNx)))))))))))))
 (X8 (mC (.bool true))))
noncomputable def f_law:FM:=z2p 14 zcw
theorem zf8(T:Wd K mg):U3 P w K mg base CX0 6 T.x_law.f T.x_law.d zcv (spM (GT T) 1 f_law):=okM zcw T.x_law.F V9 fun cdv A outer s H E F hr=>by
 have h64:=hr.units
 exact(ss_cons (ss_for PassesOwn.never rfl (si_rng1 rfl T.n_range (s1 (se_cb rfl (zeN rfl) rfl T.n_max PyProof.Rows.Boot.«max» (s2 (sc0 y4) (se_cb rfl (zaH rfl) rfl T.n_min PyProof.Rows.Boot.«min» (s2 (sc0 y4) (sln T.n_len (s1 (sv 0))))))))) (sgn 1 V9.nd) (ss_cons (ss_set (fun{te} h=>z1M (i:=2) V9.nd rfl (Or.inr rfl) h) (scl T.kaE (zaa T) hr (s2 (sv 0) (sv 1))))
 (ss_cons (sst 3 V9.nd (scl T.kas (z6J T) hr (s1 (sv 2))))
 (ss_cons (ss_set (fun{te} h=>z1M (i:=4) V9.nd rfl (Or.inr rfl) h) (se_make0 rfl (z0x T) T.mk_Book ((z1q T).mono (by lia)) hr rfl T.kaC T.kaa.b z3r rfl))
 (ss_cons (ss_for PassesOwn.never rfl (si_seq rfl (sv 3)) (sgn 5 V9.nd) (ss_one (ss_expr (se_mth (z0x T) T.cc_Book T.kag.h ((z0C T).mono (by lia)) hr T.kag.b z3r (sv 4) (s1 (sv 5)) rfl))))
 (ss_cons (ss_setN (i:=6) V9.nd rfl (Or.inl rfl) (Or.inl rfl) (se_lst rfl (s3 (se_tup rfl (sa_of rfl .nil)) (se_tup rfl (s1 (scl T.kaA (Q1 T) hr (s2 (sv 2) (sc0 y4))))) (se_ct rfl (z3y rfl) rfl T.n_tuple PyProof.Rows.Boot.«tuple» (s1 (se_comp (own:=["_law_k"]) (frees:=["_law_bag_here"]) (ix:=[2]) rfl rfl (U6.sc (by kernel_rfl)) (si_rng1 rfl T.n_range (s1 (sc0 y4))) (fun _ _ _ _ _ _ _=>(sg_name (j6 (i:=0) (show C1 (["_law_k", "_law_bag_here"]:List Str) by decide+kernel) rfl (Or.inl rfl)))) (fun _ _ _ _ _ _ _=>sts_nil) (fun _ _ _ _ _ _ _=>(scl T.kaA (Q1 T) hr (s2 (sv 1) (sc0 y4))))))))))
 (ss_cons (ss_for PassesOwn.never rfl (si_rng1 rfl T.n_range (s1 (sc0 y4))) (sgn 7 V9.nd) (ss_cons (ss_set (fun{te} h=>z1M (i:=8) V9.nd rfl (Or.inr rfl) h) (sxc (sxx (se_add rfl (sv 3) (se_lst rfl (s1 (scl T.kaz (z4B T) hr (s1 (sv 2)))))) (scl T.kaA (Q1 T) hr (s2 (sv 2) (se_add rfl (sln T.n_len (s1 (sv 3))) (sc0 y4))))) y4))
 (ss_cons (ss_expr (se_cl rfl PySem.F.slot_list_extend PySem.F.type_list_extend (z86 rfl) (sv 6) (s1 (se_comp (own:=["_law_length"]) (frees:=["_law_sounds"]) (ix:=[8]) rfl rfl (U6.sc (by kernel_rfl)) (si_rng1 rfl T.n_range (s1 (se_add rfl (sln T.n_len (s1 (sv 8))) (sc0 y4)))) (fun _ _ _ _ _ _ _=>(sg_name (j6 (i:=0) (show C1 (["_law_length", "_law_sounds"]:List Str) by decide+kernel) rfl (Or.inl rfl)))) (fun _ _ _ _ _ _ _=>sts_nil) (fun _ _ _ _ _ _ _=>(se_slice rfl (sv 1) so_none (so_some (sv 0))))))))
 (ss_one (ss_expr (se_cl rfl PySem.F.slot_list_append PySem.F.type_list_append z2q (sv 6) (s1 (se_add rfl (sv 8) (se_tup rfl (s1 (scl T.kaA (Q1 T) hr (s2 (sv 2) (sc0 y4)))))))))))))
 (ss_cons (ss_comp (i:=9) (own:=["_law_begun"]) (frees:=["_law_book"]) (ix:=[4]) rfl V9.nd rfl (Or.inl rfl) (Or.inl rfl) rfl rfl (U6.sc (by kernel_rfl)) (si_seq rfl (sv 6)) (fun _ _ _ _ _ _ _=>(sg_name (j6 (i:=0) (show C1 (["_law_begun", "_law_book"]:List Str) by decide+kernel) rfl (Or.inl rfl)))) (fun _ _ _ _ _ _ _=>sts_nil) (fun _ _ _ _ _ _ _=>(se_mth (z0x T) T.cc_Book T.kac.h ((z0B T).mono (by lia)) hr T.kac.b z3r (sv 1) (s1 (sv 0)) rfl)))
 (ss_cons (ss_for PassesOwn.never rfl (si_seq rfl (sv 9)) (sgn 10 V9.nd) (ss_one (ss_expr (se_cl rfl PySem.F.slot_list_append PySem.F.type_list_append z2q (sv 10) (s1 (sc0 y4))))))
 (ss_cons (sst 11 V9.nd (se_cb rfl (z8d rfl hr.gd h64) rfl T.n_repr PyProof.Rows.Boot.«repr» (s1 (sv 9))))
 (ss_cons (ss_if (sb_not (sb_truth rfl (scl T.kap (z1J T) hr (s3 (sv 4) (sv 3) (sv 6))))) (ss_one (ss_ret (sc0 z1c))) ss_nil)
 (ss_cons (ss_if (sb_cmp (z84 rfl h64) (sv 3) (se_lst rfl (sa_of rfl .nil)) (V0 _)) (ss_cons (ss_set (fun{te} h=>z1M (i:=12) V9.nd rfl (Or.inr rfl) h) (sxx (sv 3) (scl T.kaA (Q1 T) hr (s2 (sv 2) (sln T.n_len (s1 (sv 3)))))))
 (ss_cons (ss_expr (se_mth (z0x T) T.cc_Book T.kae.h ((z1W T).mono (by lia)) hr T.kae.b z3r (sv 4) (s3 (sxc (sv 12) y4) (sxc (sv 12) y4) (sxc (sv 12) y4)) rfl))
 (ss_cons (ss_comp (i:=13) (own:=["_law_word_here"]) (frees:=["_law_gone"]) (ix:=[12]) rfl V9.nd rfl (Or.inl rfl) (Or.inl rfl) rfl rfl (U6.sc (by kernel_rfl)) (si_seq rfl (sv 3)) (fun _ _ _ _ _ _ _=>(sg_name (j6 (i:=0) (show C1 (["_law_word_here", "_law_gone"]:List Str) by decide+kernel) rfl (Or.inl rfl)))) (fun _ _ _ _ _ _ _=>(sts_one (sb_cmp (z84 rfl h64) (sv 0) (sv 1) (V0 _)))) (fun _ _ _ _ _ _ _=>(sv 0)))
 (ss_cons (ss_if (SW.sb (sw_or (sb_not (sb_truth rfl (scl T.kap (z1J T) hr (s3 (sv 4) (sv 13) (sv 6))))) (sw_or1 (sb_cmp zaJ (se_cb rfl (z8d rfl hr.gd h64) rfl T.n_repr PyProof.Rows.Boot.«repr» (s1 (sv 9))) (sv 11) (V0 _))))) (ss_one (ss_ret (sc0 z1c))) ss_nil)
 (ss_one (ss_expr (se_mth (z0x T) T.cc_Book T.kag.h ((z0C T).mono (by lia)) hr T.kag.b z3r (sv 4) (s1 (sv 12)) rfl))))))) ss_nil)
 (ss_one (ss_if (SW.sb (sw_or (sb_not (sb_truth rfl (scl T.kap (z1J T) hr (s3 (sv 4) (sv 3) (sv 6))))) (sw_or (sb_cmp (z84 rfl h64) (se_mth0 (z0x T) T.cc_Book T.kab.h ((z0A T).mono (by lia)) hr T.kab.b z3r (sv 4) rfl) (sv 3) (V0 _)) (sw_or1 (sb_cmp zaJ (se_cb rfl (z8d rfl hr.gd h64) rfl T.n_repr PyProof.Rows.Boot.«repr» (s1 (sv 9))) (sv 11) (V0 _)))))) (ss_one (ss_ret (sc0 z1c))) ss_nil))))))))))))))
 (ss_one (ss_ret (sc0 z1c))))
end
end My
namespace Mi
open PySem L2
theorem W8{α:Type}(xs ys:List α)(k:Nat)(h:xs.length=k):(xs++ys).drop k=ys:=by subst h;simp
theorem G9{α:Type}(xs ys:List α)(k:Nat)(h:xs.length=k):(xs++ys).take k=xs:=by subst h;simp
theorem G7: ∀ds:List D,Y2 (ds.map some)=some ds
 |[]=>rfl
 |d::ds=>by simp[Y2,G7 ds]
theorem z6K{me:M D}{g:D->D}{ds:List D}{fr σ0 tm0:List (Option D)}{ol:Nat}(hol:σ0.length=ol)(hz:ds.length<sizeLine)
 (hme: ∀d∈ds,∀tm n,∃n',n<=n'/\me ⟨some d::fr,tm,n⟩= .ok (g d) ⟨some d::fr,tm,n'⟩):
 ∀(f i:Nat) (o:Option D) (n:Nat),i+f=ds.length->∃n',n<=n'/\J6 zaF (.nm 0) (rt true) me ol f i i ⟨o::fr,(((ds.take i).map g).reverse.map some)++(σ0++(some (.tup ds)::tm0)),n⟩= .ok (.lst n' (ds.map g)) ⟨σ0,tm0,n'+1⟩:=by
 intro f
 induction f with
 |zero=>
  intro i o n hi
  have hi:i=ds.length:=by lia
  subst hi
  refine⟨n,c8 _, ?_⟩
  have l1:(((ds.take ds.length).map g).reverse.map some).length=ds.length:=by simp
  unfold J6
  have e1:(((((ds.take ds.length).map g).reverse.map some)++(σ0++(some (D.tup ds)::tm0))).drop (ds.length+ol))=some (D.tup ds)::tm0:=by
   rw[<-m9];exact W8 _ _ _ (by simp[hol])
  erw[e1,zaF,z9N,List.getElem?_eq_none (c8 ds.length)]
  rw[G9 _ _ _ l1]
  have e2:(((ds.take ds.length).map g).reverse.map some).reverse=(ds.map g).map some:=by simp
  rw[e2,G7]
  erw[Res.ok.injEq,true_and,Stt.mk.injEq,and_true]
  constructor
  ·rw[W8 _ _ _ l1,G9 _ _ _ hol]
  ·rw[<-m9]
   have:(((((ds.take ds.length).map g).reverse.map some)++σ0)++(some (D.tup ds)::tm0)).drop (ds.length+ol+1)=((((((ds.take ds.length).map g).reverse.map some)++σ0)++(some (D.tup ds)::tm0)).drop (ds.length+ol)).drop 1:=by rw[D2]
   rw[this,W8 _ _ _ (by simp[hol])]
   rfl
 |succ f ih=>
  intro i o n hi
  have hlt:i<ds.length:=by lia
  have l1:(((ds.take i).map g).reverse.map some).length=i:=by simp;lia
  unfold J6
  have e1:(((((ds.take i).map g).reverse.map some)++(σ0++(some (D.tup ds)::tm0))).drop (i+ol))=some (D.tup ds)::tm0:=by
   rw[<-m9];exact W8 _ _ _ (by simp[hol];lia)
  erw[e1,zaF,z9N,List.getElem?_eq_getElem hlt,asg,A6,rt]
  rw[if_pos (by lia)]
  obtain⟨n1,hn1,h1⟩:=hme ds[i] (p9 hlt) ((((ds.take i).map g).reverse.map some)++(σ0++(some (D.tup ds)::tm0))) n
  rw[h1]
  obtain⟨n2,hn2,h2⟩:=ih (i+1) (some ds[i]) n1 (by lia)
  refine⟨n2,by lia, ?_⟩
  rw[<-h2]
  erw[Stt.psh]
  have e3:ds.take (i+1)=ds.take i++[ds[i]]:=by rw[List.take_add_one,List.getElem?_eq_getElem hlt];rfl
  rw[e3]
  erw[B6,b7,l3,C8,A2,B4,m5,o0]
  rfl
theorem z8w{mc me:M D}{g:D->D}{ds:List D}{ix:List Nat}{s s1:Stt}(hc:mc s= .ok (.tup ds) s1)(hz:ds.length<sizeLine)
 (hme: ∀d∈ds,∀tm n,∃n',n<=n'/\me ⟨some d::(ix.map fun i=>(s1.σ[i]?).getD none),tm,n⟩= .ok (g d) ⟨some d::(ix.map fun i=>(s1.σ[i]?).getD none),tm,n'⟩):
 ∃n',s1.n<=n'/\j3 (J2 mc) (.nm 0) (rt true) me 1 ix s= .ok (.lst n' (ds.map g)) {s1 with n:=n'+1}:=by
 obtain⟨n',h1,h2⟩:=z6K (me:=me) (g:=g) (ds:=ds) (σ0:=s1.σ) (tm0:=s1.tm) rfl hz hme ds.length 0 none s1.n (by lia)
 refine⟨n',h1, ?_⟩
 unfold j3 J2
 erw[bd,hc,Stt.psh]
 erw[List.take_zero,l3,B4,m5] at h2
 erw[zaF,z7X,z5N,i7] at h2⊢
 exact h2
theorem z8x(ds:List D)(g:D->Bool):V3 (ds.map fun d=> .bool (g d))=some (ds.map g):=by
 induction ds with
 |nil=>rfl
 |cons d ds ih=>simp[V3,ih]
theorem z6L{t:D}{ts:List D}{n':Nat}{s:Stt}:z0N (.ok t ts n') ts s= .ok t {s with n:=n'}:=by
 unfold z0N;simp
end Mi
set_option maxHeartbeats 40000
namespace Mi
open PySem L2
class Kq{α:Type}(f:α):Type where
instance kq{α:Type}(f:α):Kq f:=⟨⟩
noncomputable def Res.bnd{α β:Type}(f:α->Stt->Res β)[Kq f](r:Res α):Res β:=match r with
 | .ok a s=>f a s
 | .ex d s=> .ex d s
 | .no=> .no
theorem z1R{α β:Type}{a:α}{s:Stt}{f:α->Stt->Res β}:((Res.ok a s).bnd f:Res β)=f a s:=(rfl)
noncomputable def Res.lf{α:Type}(f:α->MS)[Kq f](r:Res α):RS:=match r with
 | .ok a s=>f a s
 | .ex d s=> .ex d s
 | .no=> .no
theorem zhf{α:Type}{a:α}{s:Stt}{f:α->MS}:((Res.ok a s).lf f:RS)=f a s:=(rfl)
noncomputable def RS.sq(m:MS)[Kq m](r:RS):RS:=match r with
 | .nx s=>m s
 |r=>r
theorem zhg{s:Stt}{m:MS}:((RS.nx s).sq m:RS)=m s:=(rfl)
theorem zhh{d:D}{s:Stt}{m:MS}:((RS.rt d s).sq m:RS)= .rt d s:=(rfl)
noncomputable def RS.fin(r:RS):RF:=match r with
 | .nx s'=>match Y2 s'.tm with|some ts'=> .ok .non ts' s'.n|none=> .no
 | .rt t s'=>match Y2 s'.tm with|some ts'=> .ok t ts' s'.n|none=> .no
 | .ex d s'=>match Y2 s'.tm with|some ts'=> .ex d ts' s'.n|none=> .no
 |_=> .no
noncomputable def zf9(o:Option (List D))(t:D)(n:Nat):RF:=match o with|some ts=> .ok t ts n|none=> .no
theorem z8y{ts:List D}{t:D}{n:Nat}:zf9 (some ts) t n= .ok t ts n:=(rfl)
theorem zhi{t:D}{σ tm:List (Option D)}{n:Nat}:(RS.rt t ⟨σ,tm,n⟩).fin=zf9 (Y2 tm) t n:=(rfl)
theorem zhj{σ tm:List (Option D)}{n:Nat}:(RS.nx ⟨σ,tm,n⟩).fin=zf9 (Y2 tm) .non n:=(rfl)
theorem zhk{nl:Nat}{mb:MS}{ts:List D}{n:Nat}:z2p nl mb ts n=(mb ⟨ts.map some++i7 (nl -ts.length) none,ts.map some,n⟩).fin:=(rfl)
section
variable{α β:Type}{m ma mb mc:M D}{s:Stt}{ms:List (M D)}{σ tm:List (Option D)}{n:Nat}
theorem zgi{m:M α}{f:α->M β}:bd m f s=(m s).bnd f:=(rfl)
theorem ziT{a:α}:rt a s= .ok a s:=(rfl)
theorem zfa{t:D}:Stt.psh ⟨σ,tm,n⟩ t=⟨σ,some t::tm,n⟩:=(rfl)
theorem zhl:Stt.nxt ⟨σ,tm,n⟩=⟨σ,tm,n+1⟩:=(rfl)
theorem zhm{t:D}{r:List (Option D)}:pop ⟨σ,some t::r,n⟩= .ok t ⟨σ,r,n⟩:=(rfl)
noncomputable def vOf(o:Option (Option D))(s:Stt):Res D:=match o with
 |some (some t)=> .ok t s
 |_=> .no
theorem zab{t:D}:vOf (some (some t)) s= .ok t s:=(rfl)
theorem zhn{i:Nat}:y0 i ⟨σ,tm,n⟩=vOf (σ[i]?) ⟨σ,tm,n⟩:=by
 unfold y0 vOf
 cases σ[i]? with
 |none=>rfl
 |some o=>cases o<;>rfl
theorem x_C{d:D}:mC d s= .ok d s:=(rfl)
theorem zcx{g:D->D->M D}:Z0 ma mb g s=(ma s).bnd fun x s1=>(mb (s1.psh x)).bnd fun y s2=>(pop s2).bnd fun x' s3=>g x' y s3:=(rfl)
theorem zho:X0 m s=(m s).bnd zet:=(rfl)
theorem zfb{b:Bool}:zet (.bool b) s= .ok b s:=(rfl)
theorem zfc:J4 m s=(m s).bnd zer:=(rfl)
theorem ziU{b:Bool}:zer (.bool b) s= .ok b s:=(rfl)
theorem ziV{m m':M Bool}:mOr m m' s=(m s).bnd fun b=>z7R b (rt true) m':=(rfl)
theorem zhp{m:M Bool}:z1z m s=(m s).bnd fun b s1=> .ok (!b) s1:=(rfl)
theorem zfd{m m':M D}:z4d m m' s=(m s).bnd fun d s1=>(zet d s1).bnd fun b=>z7R b m' (rt (.bool false)):=by
 unfold z4d X0 bd Res.bnd
 cases m s<;>rfl
theorem zfe{m:M D}:z6A m s=(m s).bnd fun d s1=>(zet d s1).bnd fun b=>rt (.bool (!b)):=by
 unfold z6A X0 bd Res.bnd
 cases m s<;>rfl
theorem ziW{m m':M α}:z7R true m m' s=m s:=(rfl)
theorem ziX{m m':M α}:z7R false m m' s=m' s:=(rfl)
theorem zcy:Z6 [] s= .ok [] s:=(rfl)
theorem z1K:Z6 (m::ms) s=(m s).bnd fun x s1=>(Z6 ms (s1.psh x)).bnd fun ys s2=>(pop s2).bnd fun x' s3=> .ok (x'::ys) s3:=(rfl)
theorem zio{g:List D->M D}:mCB ms g s=(Z6 ms s).bnd g:=(rfl)
theorem zff{f:FM}:Y1 f ms s=(Z6 ms s).bnd fun ts s1=>z0N (f ts s1.n) ts s1:=(rfl)
noncomputable def zhq(o:Option Bool)(s:Stt):Res D:=match o with
 |some b=> .ok (.bool b) s
 |none=> .no
theorem z8z{b:Bool}:zhq (some b) s= .ok (.bool b) s:=(rfl)
theorem zhr{T:String}:z3U T m s=(m s).bnd fun d s1=>zhq (isiD T d) s1:=by
 unfold z3U bd Res.bnd zhq
 cases m s with
 |ok d s1=>dsimp only;cases isiD T d<;>rfl
 |ex d s1=>rfl
 |no=>rfl
theorem zcz{g g':D->D->M D}:z0O ma mb mc g g' s=(ma s).bnd fun x s1=>(mb (s1.psh x)).bnd fun y s2=>(pop s2).bnd fun x' s3=>z7S y (bd (X0 (g x' y)) fun k=>z7R k (bd mc fun z=>g' y z) (rt (.bool false))) s3:=(rfl)
theorem zhs{i:Int}{m:M D}:z7S (.int i) m s=m s:=(rfl)
noncomputable def zht(o:Option Int)(s:Stt):Res (Option Int):=match o with
 |some i=> .ok (some i) s
 |none=> .no
theorem z8A{i:Int}:zht (some i) s= .ok (some i) s:=(rfl)
theorem zcA:z2V none s= .ok none s:=(rfl)
theorem zcB:z2V (some m) s=(m s).bnd fun d s1=>zht (mInt d) s1:=by
 show bd m (fun d=>match mInt d with|some i=>rt (some i)|none=>fl) s=_
 unfold bd Res.bnd
 cases m s with
 |ok d s1=>show(match mInt d with|some i=>rt (some i)|none=>fl:M (Option Int)) s1=zht (mInt d) s1;cases mInt d<;>rfl
 |ex d s1=>rfl
 |no=>rfl
theorem zfg{i:Int}:mInt (.int i)=some i:=(rfl)
theorem ziY{lo hi:Option (M D)}:mSl m lo hi s=(m s).bnd fun x s1=>(z2V lo (s1.psh x)).bnd fun l s2=>(z2V hi s2).bnd fun h s3=>(pop s3).bnd fun x' s4=>slD x' l h s4:=(rfl)
theorem zfh{i j:Int}:X7 (.int i) (.int j) s= .ok (.int (i+j)) s:=(rfl)
theorem zaS{a b:List D}(h:a.length+b.length<=sizeLine):X7 (.tup a) (.tup b) s= .ok (.tup (a++b)) s:=by erw[X7,if_pos h];rfl
theorem zfi{k l:Nat}{a b:List D}(h:a.length+b.length<=sizeLine):X7 (.lst k a) (.lst l b) s= .ok (.lst s.n (a++b)) s.nxt:=by erw[X7,if_pos h];rfl
theorem z8B{i j:Int}(h:z9l i j):z6z (.int i) (.int j) s= .ok (.int (i*j)) s:=by erw[z6z,if_pos h];rfl
theorem z8C{i j:Int}(h:z9k i j):z2U (.int i) (.int j) s= .ok (.int (i/j)) s:=by erw[z2U,if_pos h];rfl
theorem z3L{i j:Int}(h:0<j):z4c (.int i) (.int j) s= .ok (.int (i %j)) s:=by erw[z4c,if_pos h];rfl
theorem zcC{i j:Int}(h:zd4 i j):z9J (.int i) (.int j) s= .ok (.int (i^j.toNat)) s:=by erw[z9J,if_pos h];rfl
theorem ziZ{i j:Int}:ltD (.int i) (.int j) s= .ok (.bool (decide (i<j))) s:=(rfl)
theorem zj0{i j:Int}:leD (.int i) (.int j) s= .ok (.bool (decide (i<=j))) s:=(rfl)
theorem zj1{i j:Int}:gtD (.int i) (.int j) s= .ok (.bool (decide (j<i))) s:=(rfl)
theorem zj2{i j:Int}:geD (.int i) (.int j) s= .ok (.bool (decide (j<=i))) s:=(rfl)
theorem ziq{t t':D}(h:eqC t t'=true):eqD t t' s= .ok (.bool (PyData.eqv (er t) (er t'))) s:=by erw[eqD,if_pos h];rfl
theorem zfj{t t':D}(h:eqC t t'=true):neD t t' s= .ok (.bool (!PyData.eqv (er t) (er t'))) s:=by erw[neD,if_pos h];rfl
theorem zhu{ds:List D}{i:Int}:ixD (.tup ds) (.int i) s=zd7 (atI ds i) s:=(rfl)
theorem zhv{l:Nat}{ds:List D}{i:Int}:ixD (.lst l ds) (.int i) s=zd7 (atI ds i) s:=(rfl)
theorem zhw{ds:List D}{i:Int}:ixD (.ro ds) (.int i) s=zd7 (atI ds i) s:=(rfl)
theorem zhx{d:D}:zd7 (some d) s= .ok d s:=(rfl)
theorem zhy{ds:List D}{lo hi:Option Int}:slD (.tup ds) lo hi s= .ok (.tup (z6Y ds lo hi)) s:=(rfl)
theorem z8D{ts:List D}(h:ts.length<=sizeLine):z2R ts s= .ok (.tup ts) s:=by erw[z2R,if_pos h];rfl
theorem z5i{ts:List D}(h:ts.length<=sizeLine):lstM ts s= .ok (.lst s.n ts) s.nxt:=by erw[lstM,if_pos h];rfl
theorem zfk{ds:List D}:z1A [.tup ds] s= .ok (.int ds.length) s:=(rfl)
theorem zfl{l:Nat}{ds:List D}:z1A [.lst l ds] s= .ok (.int ds.length) s:=(rfl)
theorem zfm{ds:List D}:z1A [.ro ds] s= .ok (.int ds.length) s:=(rfl)
theorem zhz{i:Int}:zd8 [.int i] s= .ok (.int (if i<0 then -i else i)) s:=(rfl)
theorem zhA{i j:Int}:zc0 [.int i, .int j] s= .ok (.int (if j<i then j else i)) s:=(rfl)
theorem zhB{i j:Int}:zd9 [.int i, .int j] s= .ok (.int (if j>i then j else i)) s:=(rfl)
theorem zfn{b:Bool}:zda [.bool b] s= .ok (.int (if b then 1 else 0)) s:=(rfl)
theorem zfo{l:Nat}{ds:List D}:z99 [.lst l ds] s= .ok (.tup ds) s:=(rfl)
theorem zcD{l:Nat}{ds:List D}{bs:List Bool}(h:V3 ds=some bs):z98 [.lst l ds] s= .ok (.bool (bs.all id)) s:=by erw[z98,h];rfl
theorem zhC{a b:MS}:Q6 a b s=(a s).sq b:=by
 unfold Q6 RS.sq
 cases a s<;>rfl
theorem zhD:sNx s= .nx s:=(rfl)
theorem zfp:X8 m s=(m s).lf fun d s1=> .rt d s1:=(rfl)
theorem zcE:z0o m s=(m s).lf fun _ s1=> .nx s1:=(rfl)
theorem zhE{c:M Bool}{a b:MS}:sIf c a b s=(c s).lf fun k=>zeC k a b:=(rfl)
theorem zj3{a b:MS}:zeC true a b s=a s:=(rfl)
theorem zj4{a b:MS}:zeC false a b s=b s:=(rfl)
noncomputable def zhF(o:Option (List (Option D)))(s:Stt):RS:=match o with
 |some σ'=> .nx {s with σ:=σ'}
 |none=> .no
theorem z8E{σ':List (Option D)}:zhF (some σ') ⟨σ,tm,n⟩= .nx ⟨σ',tm,n⟩:=(rfl)
theorem zfq{g:Tg}:U0 g m s=(m s).lf fun d s1=>zhF (asg g d s1.σ) s1:=by
 unfold U0 z0W Res.lf zhF
 cases m s with
 |ok d s1=>first|(dsimp only;cases asg g d s1.σ<;>rfl)|(dsimp only;done)|rfl
 |ex d s1=>rfl
 |no=>rfl
theorem zhG{me mo mi:M D}{g:D->D->D->MS}:z82 me mo mi g s=(me s).lf fun v s1=>(mo (s1.psh v)).lf fun o s2=>(mi (s2.psh o)).lf fun i s3=>(pop s3).lf fun o' s4=>(pop s4).lf fun v' s5=>g o' i v' s5:=(rfl)
theorem zfr{l:Nat}{ds:List D}{k:Int}{v:D}{j:Nat}(e:ixN ds.length k=some j)(h:l∉y3 v):zaG (.lst l ds) (.int k) v s= .nx (s.put l (.lst l (ds.set j v))):=by erw[zaG,e,if_pos h]
theorem zfs{mo:M D}{g:D->List D->M D}:z1B mo ms g s=(mo s).bnd fun x s1=>(isL x s1).bnd fun _ s2=>(Z6 ms (s2.psh x)).bnd fun ys s3=>(pop s3).bnd fun x' s4=>g x' ys s4:=(rfl)
theorem zhH{l:Nat}{ds:List D}:isL (.lst l ds) s= .ok () s:=(rfl)
theorem zcF{l:Nat}{ds:List D}{y:D}(h:ds.length<sizeLine/\l∉y3 y):z81 (.lst l ds) [y] s= .ok .non (s.put l (.lst l (ds++[y]))):=by erw[z81,if_pos h]
end
theorem z63{α:Type}{xs:List α}{i:Int}{d:α}(h0:0<=i)(h:xs[i.toNat]? =some d):atI xs i=some d:=by
 obtain⟨j,rfl⟩:=Int.eq_ofNat_of_zero_le h0
 exact zbB (by simpa using h)
end Mi
set_option maxHeartbeats 400000
namespace Mi
open PySem L2
noncomputable def pl(l:Nat)(d:D):Nat->Option D:=fun k=>if k=l then some d else none
theorem zft{σ tm:List (Option D)}{n l:Nat}{d:D}:Stt.put ⟨σ,tm,n⟩ l d=⟨rpO (pl l d) σ,rpO (pl l d) tm,n⟩:=(rfl)
theorem U9{l:Nat}{d t:D}(h:l∉y3 t):rp (pl l d) t=t:=z7I t fun k hk=>by
 unfold pl;rw[if_neg];intro e;subst e;exact h hk
theorem z3M{f:Nat->Option D}:rpO f []=[]:=(rfl)
theorem zac{f:Nat->Option D}{r:List (Option D)}:rpO f (none::r)=none::rpO f r:=(rfl)
theorem z64{f:Nat->Option D}{d:D}{r:List (Option D)}:rpO f (some d::r)=some (rp f d)::rpO f r:=(rfl)
theorem zfu{l:Nat}{d:D}{b:List D}:rp (pl l d) (.lst l b)=d:=by erw[rp,pl,if_true]
theorem z2K{f:Nat->Option D}{i:Int}:rp f (.int i)= .int i:=(rfl)
theorem zfv{f:Nat->Option D}{i:Str}:rp f (.str i)= .str i:=(rfl)
theorem z65{f:Nat->Option D}{ds:List D}:rp f (.tup ds)= .tup (rpL f ds):=(rfl)
theorem z8F{f:Nat->Option D}:rpL f []=[]:=(rfl)
theorem z0g{f:Nat->Option D}{d:D}{ds:List D}:rpL f (d::ds)=rp f d::rpL f ds:=(rfl)
mutual
theorem z6M{l:Nat}: ∀t:D,l∉y3 t->W0 l t=none
 | .non,_=>rfl
 | .bool _,_=>rfl
 | .int _,_=>rfl
 | .str _,_=>rfl
 | .exc _,_=>rfl
 | .fn _,_=>rfl
 | .tup ds,h=>by erw[y3] at h;erw[W0];exact findL_none ds h
 | .ro ds,h=>by erw[y3] at h;erw[W0];exact findL_none ds h
 | .fdc ks ds,h=>by erw[y3] at h;erw[W0];exact findL_none ds h
 | .lst k ds,h=>by
  erw[y3,i5,not_or] at h;erw[W0];rw[if_neg fun e=>h.1 e.symm];exact findL_none ds h.2
 | .dct k ks ds,h=>by
  erw[y3,i5,c9,not_or] at h;erw[W0];rw[if_neg fun e=>h.1 e.symm];exact findL_none ds h.2.2
 | .obj k c ks ds,h=>by
  erw[y3,i5,not_or] at h;erw[W0];rw[if_neg fun e=>h.1 e.symm];exact findL_none ds h.2
theorem findL_none{l:Nat}: ∀t:List D,l∉labsL t->findL l t=none
 |[],_=>rfl
 |d::ds,h=>by
  erw[labsL,c9,not_or] at h
  erw[findL,z6M d h.1,findL_none ds h.2]
end
theorem V6{t:D}{l n' n:Nat}{b b' r:List D}{σ tm:List (Option D)}(hb:labsL b=[])(hb':labsL b'=[])(hr:labsL r=[])(f1:rpO (pl l (.lst l b)) σ=σ)(f2:rpO (pl l (.lst l b)) tm=tm):
 z0N (.ok t (.lst l b'::r) n') (.lst l b::r) ⟨σ,tm,n⟩= .ok t ⟨rpO (pl l (.lst l b')) σ,rpO (pl l (.lst l b')) tm,n'⟩:=by
 have e:(fun k=>findL k (.lst l b'::r))=pl l (.lst l b'):=by
  funext k
  erw[findL,W0,pl]
  by_cases h:l=k
  ·subst h;rw[if_pos rfl,if_pos rfl]
  ·rw[if_neg h,if_neg fun q=>h q.symm,findL_none b' (by rw[hb'];exact A4),findL_none r (by rw[hr];exact A4)]
 unfold z0N
 by_cases h:(D.lst l b'::r)=(D.lst l b::r)
 ·have hh:b'=b:=by injection h with h _;injection h
  subst hh
  erw[if_true]
  rw[f1,f2]
 ·erw[if_neg h]
  rw[if_pos,e]
  intro k _ hk
  erw[labsL,y3,hb,hr,h9,i4] at hk
  subst hk
  have:=congrFun e k
  rw[show findL k (D.lst k b'::r)=pl k (D.lst k b') k from this];simp[pl]
theorem zhI{mi:M ItK}{g:Tg}{b:MS}{s:Stt}:z3b mi g b s=(mi s).lf fun K s=>forGo K g b (K.len s.tm) 0 s:=(rfl)
theorem z8G{ms:List (M D)}{s:Stt}:V4 ms s=(Z6 ms s).bnd zeF:=(rfl)
theorem z2L{j:Int}{s:Stt}(h: -(2^62)<=j/\j<2^62):zeF [.int j] s= .ok (z6C 0 j.toNat) s:=by erw[zeF,if_pos h];rfl
theorem zfw{lo:Int}{N:Nat}{tm:List (Option D)}:(z6C lo N).len tm=N:=(rfl)
theorem z2M{P:Nat->Stt->Prop}{lo:Int}{N:Nat}{g:Tg}{b:MS}
 (body: ∀i,i<N->∀s,P i s->∃σ',asg g (.int (lo+i)) s.σ=some σ'/\∃s',b {s with σ:=σ'}= .nx s'/\P (i+1) s'):
 ∀(f i:Nat) (s:Stt),i+f=N->P i s->∃s',forGo (z6C lo N) g b f i s= .nx s'/\P N s':=by
 intro f
 induction f with
 |zero=>
  intro i s hi h
  have e:i=N:=by lia
  subst e
  refine⟨s, ?_,h⟩
  unfold forGo
  erw[z6C,D7,if_false]
  rfl
 |succ f ih=>
  intro i s hi h
  have hl:i<N:=by lia
  obtain⟨σ',e1,s',e2,h'⟩:=body i hl s h
  obtain⟨s2,e3,h2⟩:=ih (i+1) s' (by lia) h'
  refine⟨s2, ?_,h2⟩
  unfold forGo
  erw[z6C,if_pos hl,e1,e2]
  exact e3
mutual
theorem zfx{l:Nat}{b:List D}{d:D}: ∀t:D,rp (pl l d) (rp (pl l (.lst l b)) t)=rp (pl l d) t
 | .non=>rfl
 | .bool _=>rfl
 | .int _=>rfl
 | .str _=>rfl
 | .exc _=>rfl
 | .fn _=>rfl
 | .tup ds=>by erw[rp];rw[rpL_rp ds]
 | .ro ds=>by erw[rp];rw[rpL_rp ds]
 | .fdc ks ds=>by erw[rp];rw[rpL_rp ds]
 | .lst k ds=>by
  by_cases h:k=l
  ·subst h;erw[rp,pl,if_true]
  ·have e: ∀x,pl l x k=none:=fun x=>by erw[pl,if_neg h]
   erw[rp,e];rw[rpL_rp ds]
 | .dct k ks ds=>by
  by_cases h:k=l
  ·subst h;erw[rp,pl,if_true]
  ·have e: ∀x,pl l x k=none:=fun x=>by erw[pl,if_neg h]
   erw[rp,e];rw[rpL_rp ds]
 | .obj k c ks ds=>by
  by_cases h:k=l
  ·subst h;erw[rp,pl,if_true]
  ·have e: ∀x,pl l x k=none:=fun x=>by erw[pl,if_neg h]
   erw[rp,e];rw[rpL_rp ds]
theorem rpL_rp{l:Nat}{b:List D}{d:D}: ∀t:List D,rpL (pl l d) (rpL (pl l (.lst l b)) t)=rpL (pl l d) t
 |[]=>rfl
 |t::ts=>by erw[rpL];rw[zfx t,rpL_rp ts]
end
theorem z4C{l:Nat}{b:List D}{d:D}: ∀t:List (Option D),rpO (pl l d) (rpO (pl l (.lst l b)) t)=rpO (pl l d) t
 |[]=>rfl
 |none::ts=>by erw[rpO];rw[z4C ts]
 |some t::ts=>by erw[rpO];rw[zfx t,z4C ts]
theorem z2N{f:Nat->Option D}: ∀(a b:List (Option D)),rpO f (a++b)=rpO f a++rpO f b
 |[],b=>rfl
 |none::a,b=>by erw[o0,rpO,z2N a b]
 |some d::a,b=>by erw[o0,rpO,z2N a b]
theorem z3N{f:Nat->Option D}: ∀(a:List (Option D)),(rpO f a).length=a.length
 |[]=>rfl
 |none::a=>by erw[rpO,i9,z3N a]
 |some d::a=>by erw[rpO,i9,z3N a]
theorem z4D: ∀ds:List D,Z9 (ds.map some)=labsL ds
 |[]=>rfl
 |d::ds=>by erw[b7,Z9,labsL,z4D ds]
theorem z1r: ∀a b:List D,labsL (a++b)=labsL a++labsL b
 |[],b=>rfl
 |d::ds,b=>by erw[o0,labsL,z1r ds b,m9]
theorem z8H{l:Nat}: ∀ds:List D,l∈labsL ds.reverse↔l∈labsL ds
 |[]=>Iff.rfl
 |d::ds=>by erw[A2,z1r,labsL,c9,z8H ds,h9];exact Or.comm
theorem z4E{l:Nat}{d:D}{ds:List D}(h:l∉labsL ds):rpO (pl l d) (ds.reverse.map some)=ds.reverse.map some:=z7J _ fun k hk=>by
 rw[z4D,z8H] at hk
 unfold pl;rw[if_neg];intro e;subst e;exact h hk
theorem z6N{me:M D}{N:Nat}{cap σ0 tm0:List (Option D)}{l ol:Nat}{Bg:List D->Prop}{Q:Nat->D->Prop}(mono: ∀a b,a<=b->∀y,Q a y->Q b y)(hol:σ0.length=ol)(hz:N<sizeLine)
 (hme: ∀i,i<N->∀b tm n,Bg b->l<n->rpO (pl l (.lst l b)) tm=tm->∃y b' n',Bg b'/\Q n' y/\n<=n'/\l∉y3 y/\me ⟨some (.int (0+(i:Nat)))::rpO (pl l (.lst l b)) cap,tm,n⟩= .ok y ⟨some (.int (0+(i:Nat)))::rpO (pl l (.lst l b')) cap,rpO (pl l (.lst l b')) tm,n'⟩):
 ∀(f:Nat) (acc:List D) (o:Option D) (b:List D) (n:Nat),acc.length+f=N->Bg b->l<n->(∀y∈acc,Q n y)->l∉labsL acc->
  ∃ys b' n',ys.length=N/\(∀y∈ys,Q n' y)/\l∉labsL ys/\Bg b'/\n<=n'/\
   J6 (z6C 0 N) (.nm 0) (rt true) me ol f acc.length acc.length ⟨o::rpO (pl l (.lst l b)) cap,(acc.reverse.map some)++(rpO (pl l (.lst l b)) σ0++rpO (pl l (.lst l b)) tm0),n⟩= .ok (.lst n' ys) ⟨rpO (pl l (.lst l b')) σ0,rpO (pl l (.lst l b')) tm0,n'+1⟩:=by
 intro f
 induction f with
 |zero=>
  intro acc o b n hi hb hn hq hf
  have hi:acc.length=N:=by lia
  refine⟨acc,b,n,hi,hq,hf,hb,c8 _, ?_⟩
  have l1:(acc.reverse.map some).length=acc.length:=by simp
  unfold J6
  erw[z6C,hi,D7,if_false]
  rw[<-hi,G9 _ _ _ l1]
  have e2:(acc.reverse.map some).reverse=acc.map some:=by simp
  rw[e2,G7]
  erw[Res.ok.injEq,true_and,Stt.mk.injEq,and_true]
  constructor
  ·rw[W8 _ _ _ l1,G9 _ _ _ (by rw[z3N];exact hol)]
  ·rw[<-m9,Nat.add_zero]
   exact W8 _ _ _ (by simp[z3N,hol])
 |succ f ih=>
  intro acc o b n hi hb hn hq hf
  have hlt:acc.length<N:=by lia
  unfold J6
  erw[z6C,if_pos hlt,asg,A6,rt]
  rw[if_pos (by lia)]
  obtain⟨y,b',n',h1,h2,h3,h4,h5⟩:=hme acc.length hlt b ((acc.reverse.map some)++(rpO (pl l (.lst l b)) σ0++rpO (pl l (.lst l b)) tm0)) n hb hn (by rw[z2N,z2N,z4C,z4C,z4E hf])
  rw[h5]
  obtain⟨ys,b2,n2,g1,g2,g3,g4,g5,g6⟩:=ih (acc++[y]) (some (.int (0+(acc.length:Nat)))) b' n' (by simp;lia) h1 (by lia) (by
   intro z hz
   rcases c9.mp hz with hz|hz
   ·exact mono _ _ h3 z (hq z hz)
   ·rw[i4.mp hz];exact h2) (by
   rw[z1r]
   erw[labsL,h9,c9,not_or]
   exact⟨hf,h4⟩)
  refine⟨ys,b2,n2,g1,g2,g3,g4,by lia, ?_⟩
  rw[<-g6]
  erw[Stt.psh,z2N,z4C,z4E hf,m8,i9,t9,E7,C8,A2,B4,m5,B6,b7,l3,o0]
  rfl
theorem z4F{ms:List (M D)}{me:M D}{N:Nat}{ix:List Nat}{s:Stt}{l n:Nat}{j:Int}{σ0 tm0:List (Option D)}{b:List D}{Bg:List D->Prop}{Q:Nat->D->Prop}(mono: ∀a b,a<=b->∀y,Q a y->Q b y)(hms:Z6 ms s= .ok [.int j] ⟨σ0,tm0,n⟩)(hj:j.toNat=N)(hj': -(2^62)<=j/\j<2^62)(hz:N<sizeLine)
 (hb:Bg b) (hn:l<n) (f1:rpO (pl l (.lst l b)) σ0=σ0) (f2:rpO (pl l (.lst l b)) tm0=tm0) (f3:rpO (pl l (.lst l b)) (ix.map fun i=>(σ0[i]?).getD none)=ix.map fun i=>(σ0[i]?).getD none)
 (hme: ∀i,i<N->∀b tm n,Bg b->l<n->rpO (pl l (.lst l b)) tm=tm->∃y b' n',Bg b'/\Q n' y/\n<=n'/\l∉y3 y/\me ⟨some (.int (0+(i:Nat)))::rpO (pl l (.lst l b)) (ix.map fun i=>(σ0[i]?).getD none),tm,n⟩= .ok y ⟨some (.int (0+(i:Nat)))::rpO (pl l (.lst l b')) (ix.map fun i=>(σ0[i]?).getD none),rpO (pl l (.lst l b')) tm,n'⟩):
 ∃ys b' n',ys.length=N/\(∀y∈ys,Q n' y)/\l∉labsL ys/\Bg b'/\n<=n'/\j3 (V4 ms) (.nm 0) (rt true) me 1 ix s= .ok (.lst n' ys) ⟨rpO (pl l (.lst l b')) σ0,rpO (pl l (.lst l b')) tm0,n'+1⟩:=by
 obtain⟨ys,b',n',h1,h2,h3,h4,h5,h6⟩:=z6N (me:=me) (N:=N) (cap:=ix.map fun i=>(σ0[i]?).getD none) (σ0:=σ0) (tm0:=tm0) (l:=l) (Bg:=Bg) (Q:=Q) mono rfl hz hme N [] none b n (by simp) hb hn (by intro y h;cases h) (by simp[labsL])
 refine⟨ys,b',n',h1,h2,h3,h4,h5, ?_⟩
 unfold j3
 rw[zgi,z8G,hms,z1R,z2L hj',z1R,hj]
 rw[f1,f2,f3] at h6
 exact h6
inductive All2(Q:D->D->Prop):List D->List D->Prop
 |nil:All2 Q [] []
 |cons {a b:D} {as bs:List D}:Q a b->All2 Q as bs->All2 Q (a::as) (b::bs)
theorem z66{m:M D}{s:Stt}{l:Nat}{ds:List D}{σ tm:List (Option D)}{n:Nat}(h:m s= .ok (.lst l ds) ⟨σ,tm,n⟩):J2 m s= .ok z3a ⟨σ,some (.lst l ds)::tm,n⟩:=by
 unfold J2;rw[zgi,h];rfl
theorem z6O{K:ItK}{mt:M Bool}{me:M D}{p:D->Bool}{g:D->D}{items:List D}{its fr σ0 tm0:List (Option D)}{ol:Nat}(hk:its.length=K.k)(hol:σ0.length=ol)(hz:items.length<sizeLine)(hat: ∀i rest,K.at' i (its++rest)=some items[i]?)
 (hmt: ∀d∈items,∀tm n,∃n',n<=n'/\mt ⟨some d::fr,tm,n⟩= .ok (p d) ⟨some d::fr,tm,n'⟩)
 (hme: ∀d∈items,p d=true->∀tm n,∃n',n<=n'/\me ⟨some d::fr,tm,n⟩= .ok (g d) ⟨some d::fr,tm,n'⟩):
 ∀(f i:Nat) (acc:List D) (o:Option D) (n:Nat),i+f=items.length->acc.length<=i->∃n',n<=n'/\J6 K (.nm 0) mt me ol f i acc.length ⟨o::fr,(acc.reverse.map some)++(σ0++(its++tm0)),n⟩= .ok (.lst n' (acc++((items.drop i).filter p).map g)) ⟨σ0,tm0,n'+1⟩:=by
 intro f
 induction f with
 |zero=>
  intro i acc o n hi ha
  have hi:i=items.length:=by lia
  refine⟨n,c8 _, ?_⟩
  have l1:(acc.reverse.map some).length=acc.length:=by simp
  have e1:((acc.reverse.map some)++(σ0++(its++tm0))).drop (acc.length+ol)=its++tm0:=by
   rw[<-m9];exact W8 _ _ _ (by simp[hol])
  unfold J6
  erw[e1,hat,List.getElem?_eq_none (show items.length<=i by lia)]
  rw[G9 _ _ _ l1]
  have e2:(acc.reverse.map some).reverse=acc.map some:=by simp
  rw[e2,G7]
  erw[Res.ok.injEq,Stt.mk.injEq,and_true,O0 (show items.length<=i by lia),List.filter_nil,l3,h9,true_and]
  constructor
  ·rw[W8 _ _ _ l1,G9 _ _ _ hol]
  ·have:((acc.reverse.map some)++(σ0++(its++tm0))).drop (acc.length+ol+K.k)=(((acc.reverse.map some)++(σ0++(its++tm0))).drop (acc.length+ol)).drop K.k:=by rw[D2]
   rw[this,e1]
   exact W8 _ _ _ hk
 |succ f ih=>
  intro i acc o n hi ha
  have hlt:i<items.length:=by lia
  have e1:((acc.reverse.map some)++(σ0++(its++tm0))).drop (acc.length+ol)=its++tm0:=by
   rw[<-m9];exact W8 _ _ _ (by simp[hol])
  obtain⟨n1,hn1,h1⟩:=hmt items[i] (p9 hlt) ((acc.reverse.map some)++(σ0++(its++tm0))) n
  rw[E9 hlt,List.filter_cons]
  unfold J6
  erw[e1,hat,List.getElem?_eq_getElem hlt,asg,A6,h1]
  cases hp:p items[i] with
  |false=>
   obtain⟨n2,hn2,h2⟩:=ih (i+1) acc (some items[i]) n1 (by lia) (by lia)
   exact⟨n2,by lia,h2⟩
  |true=>
   obtain⟨n2,hn2,h2⟩:=hme items[i] (p9 hlt) hp ((acc.reverse.map some)++(σ0++(its++tm0))) n1
   obtain⟨n3,hn3,h3⟩:=ih (i+1) (acc++[g items[i]]) (some items[i]) n2 (by lia) (by simp;lia)
   refine⟨n3,by lia, ?_⟩
   erw[if_pos (show acc.length<sizeLine by lia),h2]
   erw[m8,i9,t9,E7,C8,A2,B4,m5,B6,b7,l3,o0,m9] at h3⊢
   exact h3
theorem z4G{mi:M ItK}{K:ItK}{mt:M Bool}{me:M D}{p:D->Bool}{g:D->D}{items:List D}{its:List (Option D)}{ix:List Nat}{s:Stt}{σ tm:List (Option D)}{n:Nat}(hc:mi s= .ok K ⟨σ,its++tm,n⟩)(hk:its.length=K.k)(hz:items.length<sizeLine)(hat: ∀i rest,K.at' i (its++rest)=some items[i]?)(hlen:K.len (its++tm)=items.length)
 (hmt: ∀d∈items,∀tm n,∃n',n<=n'/\mt ⟨some d::(ix.map fun i=>(σ[i]?).getD none),tm,n⟩= .ok (p d) ⟨some d::(ix.map fun i=>(σ[i]?).getD none),tm,n'⟩)
 (hme: ∀d∈items,p d=true->∀tm n,∃n',n<=n'/\me ⟨some d::(ix.map fun i=>(σ[i]?).getD none),tm,n⟩= .ok (g d) ⟨some d::(ix.map fun i=>(σ[i]?).getD none),tm,n'⟩):
 ∃n',n<=n'/\j3 mi (.nm 0) mt me 1 ix s= .ok (.lst n' ((items.filter p).map g)) ⟨σ,tm,n'+1⟩:=by
 obtain⟨n',h2,h3⟩:=z6O (K:=K) (mt:=mt) (me:=me) (σ0:=σ) (tm0:=tm) hk rfl hz hat hmt hme items.length 0 [] none n (by simp) (by simp)
 refine⟨n',h2, ?_⟩
 unfold j3
 erw[bd,hc,hlen]
 erw[l3,B4,m5,t9,F7] at h3
 exact h3
theorem z6P{mc:M D}{mt:M Bool}{me:M D}{p:D->Bool}{g:D->D}{l:Nat}{ds:List D}{ix:List Nat}{s:Stt}{σ tm:List (Option D)}{n:Nat}(hc:mc s= .ok (.lst l ds) ⟨σ,tm,n⟩)(hz:ds.length<sizeLine)
 (hmt: ∀d∈ds,∀tm n,∃n',n<=n'/\mt ⟨some d::(ix.map fun i=>(σ[i]?).getD none),tm,n⟩= .ok (p d) ⟨some d::(ix.map fun i=>(σ[i]?).getD none),tm,n'⟩)
 (hme: ∀d∈ds,p d=true->∀tm n,∃n',n<=n'/\me ⟨some d::(ix.map fun i=>(σ[i]?).getD none),tm,n⟩= .ok (g d) ⟨some d::(ix.map fun i=>(σ[i]?).getD none),tm,n'⟩):
 ∃n',n<=n'/\j3 (J2 mc) (.nm 0) mt me 1 ix s= .ok (.lst n' ((ds.filter p).map g)) ⟨σ,tm,n'+1⟩:=
 z4G (K:=z3a) (its:=[some (.lst l ds)]) (items:=ds) (by unfold J2;rw[zgi,hc];rfl) rfl hz (fun i rest=>rfl) rfl hmt hme
theorem z6Q{ms:List (M D)}{mt:M Bool}{me:M D}{p:D->Bool}{g:D->D}{N:Nat}{ix:List Nat}{s:Stt}{σ tm:List (Option D)}{n:Nat}(hc:Z6 ms s= .ok [.int (N:Int)] ⟨σ,tm,n⟩)(hz:N<sizeLine)
 (hmt: ∀d∈z2W 0 N,∀tm n,∃n',n<=n'/\mt ⟨some d::(ix.map fun i=>(σ[i]?).getD none),tm,n⟩= .ok (p d) ⟨some d::(ix.map fun i=>(σ[i]?).getD none),tm,n'⟩)
 (hme: ∀d∈z2W 0 N,p d=true->∀tm n,∃n',n<=n'/\me ⟨some d::(ix.map fun i=>(σ[i]?).getD none),tm,n⟩= .ok (g d) ⟨some d::(ix.map fun i=>(σ[i]?).getD none),tm,n'⟩):
 ∃n',n<=n'/\j3 (V4 ms) (.nm 0) mt me 1 ix s= .ok (.lst n' (((z2W 0 N).filter p).map g)) ⟨σ,tm,n'+1⟩:=by
 have hsz:(sizeLine:Nat)=16777216:=rfl
 refine z4G (K:=z6C 0 N) (its:=[]) (items:=z2W 0 N) ?_ rfl (by erw[z2W,n9,R3];exact hz) (fun i rest=> ?_) (by erw[z2W,n9,R3];rfl) hmt hme
 ·rw[z8G,hc,z1R,z2L ⟨by lia,by lia⟩];rfl
 ·erw[z6C,z2W,List.getElem?_map]
  by_cases h:i<N
  ·rw[if_pos h,List.getElem?_range h];rfl
  ·rw[if_neg h,List.getElem?_eq_none (by simp;lia)];rfl
end Mi
set_option maxHeartbeats 1000000
namespace Mi
open PySem L2
noncomputable def zhJ(o:Option (List D))(t:D)(n:Nat):RF:=match o with|some ts=> .ex t ts n|none=> .no
noncomputable def _root_.Mi.RS.finX(k:Nat):RS->RF
 | .nx s'=>zf9 (Y2 s'.tm) .non s'.n
 | .rt t s'=>zf9 (Y2 s'.tm) t s'.n
 | .ex d s'=>zhJ (Y2 (zh7 k s'.tm)) d s'.n
 |_=> .no
end Mi
set_option maxHeartbeats 4000000
namespace Mi
open PySem L2
end Mi
set_option maxHeartbeats 40000
namespace Mi
open PySem L2
section
variable{α β:Type}{m ma mb mc:M D}{s:Stt}{ms:List (M D)}{σ tm l:List (Option D)}{n i j k p:Nat}{x y z u d:D}{g g2:D->D->M D}{h:List D->M D}
variable{a0 a1 a2 a3 a4 a5 a6 a7 a8 a9 a10 a11 a12 a13 a14 a15 v:Option D}
theorem qg1:(a0::a1::l)[1]? =some a1:=(rfl)
theorem qg2:(a0::a1::a2::l)[2]? =some a2:=(rfl)
theorem qg3:(a0::a1::a2::a3::l)[3]? =some a3:=(rfl)
theorem qg4:(a0::a1::a2::a3::a4::l)[4]? =some a4:=(rfl)
theorem qg5:(a0::a1::a2::a3::a4::a5::l)[5]? =some a5:=(rfl)
theorem qg6:(a0::a1::a2::a3::a4::a5::a6::l)[6]? =some a6:=(rfl)
theorem qg8:(a0::a1::a2::a3::a4::a5::a6::a7::a8::l)[8]? =some a8:=(rfl)
theorem qg9:(a0::a1::a2::a3::a4::a5::a6::a7::a8::a9::l)[9]? =some a9:=(rfl)
theorem zj5:(a0::a1::a2::a3::a4::a5::a6::a7::a8::a9::a10::l)[10]? =some a10:=(rfl)
theorem zj6:(a0::a1::a2::a3::a4::a5::a6::a7::a8::a9::a10::a11::a12::l)[12]? =some a12:=(rfl)
theorem zj7:(a0::a1::a2::a3::a4::a5::a6::a7::a8::a9::a10::a11::a12::a13::l)[13]? =some a13:=(rfl)
theorem qh1:(a0::a1::l).set 1 v=a0::v::l:=(rfl)
theorem qh2:(a0::a1::a2::l).set 2 v=a0::a1::v::l:=(rfl)
theorem qh3:(a0::a1::a2::a3::l).set 3 v=a0::a1::a2::v::l:=(rfl)
theorem qh4:(a0::a1::a2::a3::a4::l).set 4 v=a0::a1::a2::a3::v::l:=(rfl)
theorem qh5:(a0::a1::a2::a3::a4::a5::l).set 5 v=a0::a1::a2::a3::a4::v::l:=(rfl)
theorem qh7:(a0::a1::a2::a3::a4::a5::a6::a7::l).set 7 v=a0::a1::a2::a3::a4::a5::a6::v::l:=(rfl)
theorem qh8:(a0::a1::a2::a3::a4::a5::a6::a7::a8::l).set 8 v=a0::a1::a2::a3::a4::a5::a6::a7::v::l:=(rfl)
theorem qh9:(a0::a1::a2::a3::a4::a5::a6::a7::a8::a9::l).set 9 v=a0::a1::a2::a3::a4::a5::a6::a7::a8::v::l:=(rfl)
theorem zj8:(a0::a1::a2::a3::a4::a5::a6::a7::a8::a9::a10::l).set 10 v=a0::a1::a2::a3::a4::a5::a6::a7::a8::a9::v::l:=(rfl)
theorem zj9:(a0::a1::a2::a3::a4::a5::a6::a7::a8::a9::a10::a11::l).set 11 v=a0::a1::a2::a3::a4::a5::a6::a7::a8::a9::a10::v::l:=(rfl)
theorem zja:(a0::a1::a2::a3::a4::a5::a6::a7::a8::a9::a10::a11::a12::l).set 12 v=a0::a1::a2::a3::a4::a5::a6::a7::a8::a9::a10::a11::v::l:=(rfl)
theorem ov:y0 i s=match s.σ[i]? with|some (some t)=> .ok t s|_=> .no:=rfl
noncomputable def cv(g:D->D->M D)(a:D)(b:Option (Option D))(s:Stt):Res D:=match b with
 |some (some b)=>g a b s
 |_=> .no
theorem zcG:cv g x (some (some y)) s=g x y s:=(rfl)
theorem zjb:Z0 m (mC y) g s=(m s).bnd fun x s1=>g x y s1:=by
 rw[zcx];cases m s<;>rfl
theorem zjc:Z0 m (y0 j) g s=(m s).bnd fun x s1=>cv g x s1.σ[j]? s1:=by
 rw[zcx];cases m s with
 |ok x s1=>rw[z1R,z1R];unfold y0 cv;dsimp only[Stt.psh];cases s1.σ[j]? with
  |none=>rfl
  |some o=>cases o<;>rfl
 |ex d s1=>rfl
 |no=>rfl
noncomputable def qc1(h:List D->M D)(a:Option (Option D))(s:Stt):Res D:=match a with
 |some (some a)=>h [a] s
 |_=> .no
theorem zad:qc1 h (some (some x)) s=h [x] s:=(rfl)
theorem zjd:mCB [y0 i] h ⟨σ,tm,n⟩=qc1 h σ[i]? ⟨σ,tm,n⟩:=by
 rw[zio];unfold y0 qc1 Z6 bd;dsimp only
 cases σ[i]? with
 |none=>rfl
 |some o=>cases o<;>rfl
theorem zaT:Z6 [m] s=(m s).bnd fun x s1=> .ok [x] s1:=by
 rw[z1K];cases m s<;>rfl
noncomputable def qa1(a:Option (Option D))(s:Stt):Res (List D):=match a with
 |some (some a)=> .ok [a] s
 |_=> .no
theorem zir:Z6 [y0 i] ⟨σ,tm,n⟩=qa1 σ[i]? ⟨σ,tm,n⟩:=by
 rw[zaT];unfold y0 qa1;dsimp only
 cases σ[i]? with
 |none=>rfl
 |some o=>cases o<;>rfl
noncomputable def qa2(a b:Option (Option D))(s:Stt):Res (List D):=match a,b with
 |some (some a),some (some b)=> .ok [a,b] s
 |_,_=> .no
theorem zae:qa2 (some (some x)) (some (some y)) s= .ok [x,y] s:=(rfl)
theorem zis:Z6 [y0 i,y0 j] ⟨σ,tm,n⟩=qa2 σ[i]? σ[j]? ⟨σ,tm,n⟩:=by
 rw[z1K];unfold y0 qa2;dsimp only
 cases σ[i]? with
 |none=>rfl
 |some o=>cases o with
  |none=>rfl
  |some a=>rw[z1R];show Res.bnd _ (Z6 [y0 j] ⟨σ,_,_⟩)=_;rw[zir];unfold qa1;cases σ[j]? with
   |none=>rfl
   |some o=>cases o<;>rfl
noncomputable def qa3(a b c:Option (Option D))(s:Stt):Res (List D):=match a,b,c with
 |some (some a),some (some b),some (some c)=> .ok [a,b,c] s
 |_,_,_=> .no
theorem zaf:qa3 (some (some x)) (some (some y)) (some (some z)) s= .ok [x,y,z] s:=(rfl)
theorem zje:Z6 [y0 i,y0 j,y0 k] ⟨σ,tm,n⟩=qa3 σ[i]? σ[j]? σ[k]? ⟨σ,tm,n⟩:=by
 rw[z1K];unfold y0 qa3;dsimp only
 cases σ[i]? with
 |none=>rfl
 |some o=>cases o with
  |none=>rfl
  |some a=>rw[z1R];show Res.bnd _ (Z6 [y0 j,y0 k] ⟨σ,_,_⟩)=_;rw[zis];unfold qa2;cases σ[j]? with
   |none=>rfl
   |some o=>cases o with
    |none=>rfl
    |some b=>cases σ[k]? with
     |none=>rfl
     |some o=>cases o<;>rfl
theorem zhK:Z6 [y0 i,mC y] ⟨σ,tm,n⟩=qa2 σ[i]? (some (some y)) ⟨σ,tm,n⟩:=by
 rw[z1K];unfold y0 qa2;dsimp only
 cases σ[i]? with
 |none=>rfl
 |some o=>cases o<;>rfl
theorem zfy:Z6 [y0 i,mC y,mC z] ⟨σ,tm,n⟩=qa3 σ[i]? (some (some y)) (some (some z)) ⟨σ,tm,n⟩:=by
 rw[z1K];unfold y0 qa3;dsimp only
 cases σ[i]? with
 |none=>rfl
 |some o=>cases o<;>rfl
theorem zhL:U0 (.nm i) m s=(m s).lf fun d s1=> .nx ⟨s1.σ.set i (some d),s1.tm,s1.n⟩:=by
 rw[zfq];cases m s<;>rfl
end
theorem J1{t:D}{l n' n:Nat}{b b' r:List D}{σ tm:List (Option D)}{σ1 tm1:D->List (Option D)}(hb:labsL b=[])(hb':labsL b'=[])(hr:labsL r=[])(f1: ∀q,rpO (pl l q) σ=σ1 q)(f2: ∀q,rpO (pl l q) tm=tm1 q)(e1:σ1 (.lst l b)=σ:=by rfl)(e2:tm1 (.lst l b)=tm:=by rfl):
 z0N (.ok t (.lst l b'::r) n') (.lst l b::r) ⟨σ,tm,n⟩= .ok t ⟨σ1 (.lst l b'),tm1 (.lst l b'),n'⟩:=by
 rw[V6 hb hb' hr ((f1 _).trans e1) ((f2 _).trans e2),f1,f2]
end Mi
set_option maxHeartbeats 1000000
namespace Mi
open PySem L2
section
variable{m mo me:M D}{ms:List (M D)}{f:FM}{a cn mn:Str}{ok:Str->Bool}{s:Stt}
theorem zhM:z9a m a ok s=(m s).bnd (zdf a ok):=(rfl)
theorem zhN{l:Nat}{c:Str}{ns:List Str}{vs:List D}{d:D}(h1:ok c=true)(h2:zaI ns vs a=some d):zdf a ok (.obj l c ns vs) s= .ok d s:=by erw[zdf,h1,h2,if_true]
theorem zfz:z9Y me mo a ok s=(me s).lf fun v s1=>(mo (s1.psh v)).lf fun o s2=>(pop s2).lf fun v' s3=>z6G a ok o v' s3:=(rfl)
theorem zfA{l:Nat}{c:Str}{ns:List Str}{vs:List D}{v:D}(h:ok c=true/\ns.length<1000/\l∉y3 v):z6G a ok (.obj l c ns vs) v s= .nx (s.put l (.obj l c (z58 ns vs a v).1 (z58 ns vs a v).2)):=by erw[z6G,if_pos h]
theorem zhO:z2u cn mn f mo ms s=(mo s).bnd fun x=>z7R (objC cn mn x) (z9Z f ms x) fl:=by
 unfold z2u bd Res.bnd
 cases mo s with
 |ok x s1=>dsimp only;cases objC cn mn x<;>rfl
 |ex d s1=>rfl
 |no=>rfl
theorem zfB{x:D}:z9Z f ms x s=(Z6 ms (s.psh x)).bnd fun ys s1=>(pop s1).bnd fun x' s2=>z0N (f (x'::ys) s2.n) (x'::ys) s2:=(rfl)
theorem zfC:z59 cn f ms s=(Z6 ms s).bnd (mkK cn f):=(rfl)
end
theorem z1s{t:D}{ts ts':List D}{n' n:Nat}{σ tm:List (Option D)}(hs: ∀k∈labsL ts,(findL k ts').isSome=true)(h0:ts'=ts->rpO (fun k=>findL k ts') σ=σ/\rpO (fun k=>findL k ts') tm=tm):
 z0N (.ok t ts' n') ts ⟨σ,tm,n⟩= .ok t ⟨rpO (fun k=>findL k ts') σ,rpO (fun k=>findL k ts') tm,n'⟩:=by
 unfold z0N
 by_cases h:ts'=ts
 ·erw[if_pos h,(h0 h).1,(h0 h).2]
 ·erw[if_neg h]
  rw[if_pos fun k _ hk=>hs k hk]
theorem zag{K:ItK}{g:Tg}{b:MS}{f i:Nat}{s s':Stt}{d:D}{σ':List (Option D)}(h1:K.at' i s.tm=some (some d))(h2:asg g d s.σ=some σ')(h3:b {s with σ:=σ'}= .nx s'):forGo K g b (f+1) i s=forGo K g b f (i+1) s':=by
 conv=>lhs;unfold forGo
 erw[h1,h2,h3]
theorem zcH{K:ItK}{g:Tg}{b:MS}{f i:Nat}{s:Stt}(h1:K.at' i s.tm=some none):forGo K g b f i s= .nx (s.popn K.k):=by
 unfold forGo
 erw[h1]
end Mi
namespace My
open PySem L2 Mi
theorem BA{a b:Prop}(h:a)(k:b):a/\b:=⟨h,k⟩
noncomputable def B_0:=BA (BA (BA (BA (BA (BA @zhk @zgi) (BA @z1R (BA @zhf @zhg))) (BA (BA @zhh (BA @ziT @zfa)) (BA @zhl (BA @zhm @zab)))) (BA (BA (BA @zhn @x_C) (BA @zcx (BA @zho @zfb))) (BA (BA @zfc (BA @ziU @ziV)) (BA @zhp (BA @zfd @zfe))))) (BA (BA (BA (BA @ziW @ziX) (BA @zcy (BA @z1K @zio))) (BA (BA @zff (BA @z8z @zhr)) (BA @zcz (BA @zhs @z8A)))) (BA (BA (BA @zcA (BA @zcB @zfg)) (BA @ziY (BA @zfh @ziZ))) (BA (BA @zj0 (BA @zj1 @zj2)) (BA @zhu (BA @zhv @zhw)))))) (BA (BA (BA (BA (BA @zhx @zhy) (BA @zfk (BA @zfl @zfm))) (BA (BA @zhz (BA @zhA @zhB)) (BA @zfn (BA @zfo @zhC)))) (BA (BA (BA @zhD @zfp) (BA @zcE (BA @zhE @zj3))) (BA (BA @zj4 (BA @z8E @zfq)) (BA @zhG (BA @zfs @zhH))))) (BA (BA (BA (BA @z6L @zhi) (BA @zhj (BA @z8y @b7.{0,0}))) (BA (BA @l3.{0,0} (BA @m5.{0} @o0.{0})) (BA @h9.{0} (BA @List.getElem?_cons_zero.{0} @List.getElem?_cons_succ.{0})))) (BA (BA (BA @List.getElem?_nil.{0} (BA @A6.{0} @C3.{0})) (BA @i9.{0} (BA @t9.{0} @r6.{0,0}))) (BA (BA @L6.{0,0} (BA @Bool.not_true @S6)) (BA @beq_self_eq_true.{0} (BA @E7 @T7))))))
local macro_rules | `(tactic| left) => `(tactic| (simp (config := { dsimp := false }) only [B_0, isiD, Y2, asg, asgL, i7, N5, N6, String.reduceBEq]))
noncomputable def isInt:D->Bool
 | .int _=>true
 |_=>false
noncomputable def inR(lo hi:Int):D->Bool
 | .int i=>decide (lo<=i)&&decide (i<=hi)
 |_=>false
theorem zfD(t:D)(n:Nat)(h:plain t=true):U8 [t] n= .ok (.bool (isInt t)) [t] n:=by
 unfold U8 z0b
 cases t<;>first|(simp[Mi.plain] at h;done)|(left;first|done|rfl)
theorem zah(t:D)(n:Nat)(h:plain t=true):K7 [t] n= .ok (.bool (isInt t)) [t] n:=by
 unfold K7 z2H
 cases t<;>first|(simp[Mi.plain] at h;done)|(left;first|done|rfl)
theorem z8I(t:D)(lo hi:Int)(n:Nat)(h:plain t=true):j8 [t, .int lo, .int hi] n= .ok (.bool (inR lo hi t)) [t, .int lo, .int hi] n:=by
 unfold j8 z0y
 left
 rw[zfD t n h]
 cases t<;>(try erw[isInt,inR])<;>left <;>try rfl
 rename_i i
 by_cases h1:lo<=i
 ·erw[h1,decide_true];left;simp
 ·erw[h1,decide_false];left;simp
noncomputable def zdl(lo hi top:Int):D->Bool
 | .tup ds=>decide (lo<=(ds.length:Int))&&decide ((ds.length:Int)<=hi)&&ds.all (inR 0 top)
 |_=>false
theorem z3j: ∀{ds:List D} {d:D},plainL ds=true->d∈ds->plain d=true
 |x::ds,d,h,m=>by
  erw[plainL,i6] at h
  rcases i5.mp m with rfl|m
  ·exact h.1
  ·exact z3j h.2 m
theorem zaU(t:D)(lo hi top:Int)(n:Nat)(h:plain t=true)(hh:hi<1000000): ∃n',n<=n'/\K6 [t, .int lo, .int hi, .int top] n= .ok (.bool (zdl lo hi top t)) [t, .int lo, .int hi, .int top] n':=by
 unfold K6 z1I
 left
 cases t with
 |tup ds=>
  left
  by_cases h1:lo<=(ds.length:Int)
  ·by_cases h2:(ds.length:Int)<=hi
   ·erw[h1,h2,decide_true,zdl,B8]
    left
    erw[h2,decide_true]
    left
    have hz:ds.length<sizeLine:=by have:sizeLine=16777216:=rfl;lia
    obtain⟨n',hn,hc⟩:=z8w (mc:=y0 0) (me:=Y1 j8 [y0 0,mC (D.int 0),y0 1]) (g:=fun d=> .bool (inR 0 top d)) (ds:=ds) (ix:=[3]) (s:=⟨[some (.tup ds),some (.int lo),some (.int hi),some (.int top)],[some (.tup ds),some (.int lo),some (.int hi),some (.int top)],n⟩) (s1:=⟨[some (.tup ds),some (.int lo),some (.int hi),some (.int top)],[some (.tup ds),some (.int lo),some (.int hi),some (.int top)],n⟩) (by left) hz (by
     intro d hd tm m
     refine⟨m,c8 _, ?_⟩
     show Y1 _ _ ⟨[some d,some (.int top)],tm,m⟩=_
     left
     rw[z8I d 0 top m (z3j (by simpa[Mi.plain] using h) hd)]
     left
     rfl)
    refine⟨n'+1,by simp only at hn;lia, ?_⟩
    rw[hc]
    left
    rw[zcD (z8x ds (inR 0 top))]
    left
    erw[List.all_map]
    rfl
   ·refine⟨n,c8 _, ?_⟩
    erw[h1,h2,decide_true,decide_false,zdl,B8,F6]
    left
    erw[h2,decide_false]
    left
  ·refine⟨n,c8 _, ?_⟩
   erw[h1,decide_false,zdl,F6]
   left
 |dct _ _ _=>simp[Mi.plain] at h
 |obj _ _ _ _=>simp[Mi.plain] at h
 |exc _=>simp[Mi.plain] at h
 |fn _=>simp[Mi.plain] at h
 |fdc _ _=>simp[Mi.plain] at h
 |_=>refine⟨n,c8 _, ?_⟩;left;rfl
theorem at0{a:D}{l:List D}:atI (a::l) 0=some a:=z63 (by decide) rfl
theorem at1{a b:D}{l:List D}:atI (a::b::l) 1=some b:=z63 (by decide) rfl
theorem zhP{i j:Int}{s:Stt}:eqD (.int i) (.int j) s= .ok (.bool (i==j)) s:=by
 rw[ziq (by simp[eqC,Mi.plain,er,PyData.canLay0,PyData.depth])];erw[er,PyData.eqv]
theorem c0:((0:Nat):Int)=0:=rfl
theorem c1:((1:Nat):Int)=1:=rfl
theorem c2:((2:Nat):Int)=2:=rfl
theorem c3:((3:Nat):Int)=3:=rfl
theorem c4:((4:Nat):Int)=4:=rfl
noncomputable def Gd(t:D):Prop:=plain t=true/\(er t).canLay0=true
noncomputable def GdL(ds:List D):Prop:=plainL ds=true/\PyData.canLayAll0 (erL ds)=true
theorem Gd.tup{ds:List D}:Gd (.tup ds)↔GdL ds:=by erw[Gd,GdL,Mi.plain,er,PyData.canLay0]
theorem Gd.lst{l:Nat}{ds:List D}:Gd (.lst l ds)↔GdL ds:=by erw[Gd,GdL,Mi.plain,er,PyData.canLay0]
theorem GdL.cons{d:D}{ds:List D}:GdL (d::ds)↔Gd d/\GdL ds:=by
 erw[Gd,GdL,plainL,erL,PyData.canLayAll0,i6]
 constructor
 ·rintro ⟨⟨a,b⟩,c,d⟩;exact⟨⟨a,c⟩,b,d⟩
 ·rintro ⟨⟨a,c⟩,b,d⟩;exact⟨⟨a,b⟩,c,d⟩
theorem zl:sizeLine=16777216:=rfl
section
variable{a b c d:D}{s:Stt}
theorem t0:z2R [] s= .ok (.tup []) s:=z8D (by decide)
theorem t1:z2R [a] s= .ok (.tup [a]) s:=z8D (by rw[zl];simp)
theorem t2:z2R [a,b] s= .ok (.tup [a,b]) s:=z8D (by rw[zl];simp)
theorem t3:z2R [a,b,c] s= .ok (.tup [a,b,c]) s:=z8D (by rw[zl];simp)
theorem t4:z2R [a,b,c,d] s= .ok (.tup [a,b,c,d]) s:=z8D (by rw[zl];simp)
theorem k0{σ tm:List (Option D)}{n:Nat}:lstM [] ⟨σ,tm,n⟩= .ok (.lst n []) ⟨σ,tm,n+1⟩:=z5i (by rw[zl];simp)
theorem k1{σ tm:List (Option D)}{n:Nat}:lstM [a] ⟨σ,tm,n⟩= .ok (.lst n [a]) ⟨σ,tm,n+1⟩:=z5i (by rw[zl];simp)
theorem k2{σ tm:List (Option D)}{n:Nat}:lstM [a,b] ⟨σ,tm,n⟩= .ok (.lst n [a,b]) ⟨σ,tm,n+1⟩:=z5i (by rw[zl];simp)
theorem k3{σ tm:List (Option D)}{n:Nat}:lstM [a,b,c] ⟨σ,tm,n⟩= .ok (.lst n [a,b,c]) ⟨σ,tm,n+1⟩:=z5i (by rw[zl];simp)
theorem k4{σ tm:List (Option D)}{n:Nat}:lstM [a,b,c,d] ⟨σ,tm,n⟩= .ok (.lst n [a,b,c,d]) ⟨σ,tm,n+1⟩:=z5i (by rw[zl];simp)
end
noncomputable def B_1:=BA (BA (BA (BA @t0 (BA @t1 @t3)) (BA @t4 (BA @k0 @k1))) (BA (BA @k2 (BA @k3 @T1)) (BA (BA @S9 @T3) (BA @Bool.or_true @F2)))) (BA (BA (BA @B8 (BA @S7 @F6)) (BA (BA @at0 @at1) (BA @zhP @zft))) (BA (BA @z3M (BA @zfu @z2K)) (BA (BA @zfv @z65) (BA @z8F @z0g))))
noncomputable def B_2:=BA @zac @z64
local macro_rules | `(tactic| left) => `(tactic| (simp (config := { dsimp := false }) only [B_0, B_1, B_2, isiD, Y2, asg, asgL, i7, N5, N6, String.reduceBEq, P3]))
noncomputable def Bg(c x:Int):Prop:=0<=c/\0<=x/\x<2147483647
theorem U2(l:Nat)(c x top:Int)(n:Nat)(h:Bg c x)(ht:0<top)(ht':top<1000000): ∃r c' x',0<=r/\r<top/\Bg c' x'/\Z3 [.lst l [.int c, .int x], .int top] n= .ok (.int r) [.lst l [.int c', .int x'], .int top] n:=by
 unfold Z3 z3J
 obtain⟨h0,h1,h2⟩:=h
 by_cases hc:0<c
 ·refine⟨c %top,c/top,x,E2 _ (by lia),D4 _ ht,⟨Int.ediv_nonneg h0 (by lia),h1,h2⟩, ?_⟩
  left
  erw[hc,decide_true]
  left
  rw[z3L ht]
  left
  rw[z8C ⟨ht,by lia⟩]
  left
  rw[zfr (j:=0) rfl (by simp[y3])]
  left
 ·have hx0:=E2 (x*48271+7919) (show(2147483647:Int)≠0 by decide)
  have hx1:=D4 (x*48271+7919) (show(0:Int)<2147483647 by decide)
  generalize hy:(x*48271+7919) %2147483647=y at hx0 hx1
  refine⟨(y^(3:Int).toNat %2147483587/7*69621 %1073741789) %top,c,y,E2 _ (by lia),D4 _ ht,⟨h0,hx0,hx1⟩, ?_⟩
  left
  erw[hc,decide_false]
  left
  rw[z8B (.inl ⟨by lia,by lia⟩)]
  left
  rw[z3L (by decide),hy]
  left
  rw[zfr (j:=1) rfl (by simp[y3])]
  left
  rw[zcC ⟨by decide,by decide,by lia⟩]
  left
  rw[z3L (by decide)]
  left
  rw[z8C ⟨by decide,by decide⟩]
  left
  rw[z8B (.inr ⟨by decide,by decide⟩)]
  left
  rw[z3L (by decide)]
  left
  rw[z3L ht]
  left
noncomputable def B_3:=BA (BA @zhI @z8G) (BA @zfw @I0)
local macro_rules | `(tactic| left) => `(tactic| (simp (config := { dsimp := false }) only [B_0, B_1, B_2, B_3, isiD, Y2, asg, asgL, i7, N5, N6, String.reduceBEq, P3]))
theorem zaV{ns:List Int}{a:Nat}(h:a<ns.length):atI (ns.map D.int) (a:Int)=some (.int ns[a]):=z63 (by lia) (by simp[h])
theorem zfE(ns:List Int)(a n:Nat)(ha:a<1000)(hl:ns.length<1000): ∃c x,Bg c x/\z2G [.ro (ns.map .int), .int a] n= .ok (.lst n [.int c, .int x]) [.ro (ns.map .int), .int a] (n+1):=by
 unfold z2G z5g
 left
 have key: ∃c:Int,0<=c/\zeC (decide ((a:Int)<((ns.map D.int).length:Int))) (U0 (Tg.nm 2) (mCB [Z0 (y0 0) (y0 1) ixD] zd8)) sNx ⟨[some (.ro (ns.map .int)),some (.int a),some (.int 0),none,none],[some (.ro (ns.map .int)),some (.int a)],n⟩= .nx ⟨[some (.ro (ns.map .int)),some (.int a),some (.int c),none,none],[some (.ro (ns.map .int)),some (.int a)],n⟩:=by
  by_cases h:a<ns.length
  ·refine⟨if ns[a]<0 then -ns[a] else ns[a], ?_, ?_⟩
   rotate_left
   ·rw[show decide ((a:Int)<((ns.map D.int).length:Int))=true by simp[h]]
    left
    rw[zaV h]
    left
   ·split<;>lia
  ·refine⟨0,by decide, ?_⟩
   rw[show decide ((a:Int)<((ns.map D.int).length:Int))=false by simp;lia]
   left
 obtain⟨c,hc,e1⟩:=key
 rw[e1]
 left
 rw[z3L (by decide)]
 left
 rw[z8B (.inl ⟨by decide,by decide⟩)]
 left
 have q0:=E2 c (show(2147483629:Int)≠0 by decide)
 have q1:=D4 c (show(0:Int)<2147483629 by decide)
 rw[zcC ⟨by decide,by decide,by lia⟩]
 left
 rw[z3L (by decide)]
 left
 have w0:((ns.map D.int).length:Int)=ns.length:=by simp
 rw[w0]
 generalize hk:(if(60:Int)<(ns.length:Int) then(60:Int) else(ns.length:Int))=k
 have hk0:0<=k/\k<=60/\k<=ns.length:=by split at hk<;>lia
 rw[z2L ⟨by lia,by lia⟩]
 left
 have p0:=E2 ((c %2147483629+104729*(a:Int)+17)^(5:Int).toNat) (show(2147483647:Int)≠0 by decide)
 have p1:=D4 ((c %2147483629+104729*(a:Int)+17)^(5:Int).toNat) (show(0:Int)<2147483647 by decide)
 generalize (c %2147483629+104729*(a:Int)+17)^(5:Int).toNat %2147483647=x0 at p0 p1
 obtain⟨s',e2,x,o,hx0,hx1,rfl⟩:=z2M (P:=fun i s=> ∃(x:Int) (o:Option D),0<=x/\x<2147483647/\s=⟨[some (.ro (ns.map .int)),some (.int a),some (.int c),some (.int x),o],[some (.ro (ns.map .int)),some (.int a)],n⟩) (lo:=0) (N:=k.toNat) (g:= .nm 4) (b:=U0 (.nm 3) (Z0 (Z0 (Z0 (Z0 (y0 3) (mC (.int 48271)) z6z) (Z0 (Z0 (Z0 (y0 0) (y0 4) ixD) (mC (.int 2147483587)) z4c) (Z0 (y0 4) (mC (.int 3)) X7) z6z) X7) (y0 4) X7) (mC (.int 2147483629)) z4c)) (by
  rintro i hi s ⟨x,o,h0,h1,rfl⟩
  have hi':i<ns.length:=by lia
  refine⟨[some (.ro (ns.map .int)),some (.int a),some (.int c),some (.int x),some (.int i)],by erw[I0];rfl, ?_⟩
  refine⟨⟨[some (.ro (ns.map .int)),some (.int a),some (.int c),some (.int ((x*48271+ns[i] %2147483587*(i+3)+i) %2147483629)),some (.int i)],[some (.ro (ns.map .int)),some (.int a)],n⟩, ?_, ?_⟩
  ·left
   rw[z8B (.inl ⟨by lia,by lia⟩)]
   left
   rw[zaV hi']
   left
   rw[z3L (by decide)]
   left
   rw[z8B (.inr ⟨by lia,by lia⟩)]
   left
   rw[z3L (by decide)]
   left
  ·have r0:=E2 (x*48271+ns[i] %2147483587*(i+3)+i) (show(2147483629:Int)≠0 by decide)
   have r1:=D4 (x*48271+ns[i] %2147483587*(i+3)+i) (show(0:Int)<2147483629 by decide)
   exact⟨_,_,r0,by lia,rfl⟩) k.toNat 0 ⟨[some (.ro (ns.map .int)),some (.int a),some (.int c),some (.int x0),none],[some (.ro (ns.map .int)),some (.int a)],n⟩ (by lia) ⟨x0,none,p0,p1,rfl⟩
 rw[e2]
 left
 rw[zcC ⟨by decide,by decide,by decide⟩]
 left
 by_cases h:c<10^(18:Int).toNat
 ·refine⟨0,x,⟨by decide,hx0,hx1⟩, ?_⟩
  erw[h,decide_true]
  left
 ·refine⟨c,x,⟨hc,hx0,hx1⟩, ?_⟩
  erw[h,decide_false]
  left
theorem zcI{l k:Nat}{d:D}{ds:List D}(h:k≠l):rp (pl l d) (.lst k ds)= .lst k (rpL (pl l d) ds):=by erw[rp,pl,if_neg h]
mutual
noncomputable def Rs(n:Nat):D->Bool
 | .non=>true| .bool _=>true| .int _=>true| .str x=>PyData.strOk x
 | .tup ds=>decide (ds.length<=2000)&&RsL n ds
 | .lst l ds=>decide (n<=l)&&(decide (ds.length<=2000)&&RsL n ds)
 | .ro _=>false| .dct _ _ _=>false| .obj _ _ _ _=>false| .exc _=>false| .fn _=>false| .fdc _ _=>false
noncomputable def RsL(n:Nat):List D->Bool
 |[]=>true
 |d::ds=>Rs n d&&RsL n ds
end
noncomputable def Up(m:Nat)(t:D):Prop:= ∀k∈y3 t,k<m
theorem ok1:PyData.strOk ("1" :Str)=true:=by decide+kernel
mutual
noncomputable def Tr:D->Bool
 | .non=>true| .bool _=>true| .int _=>true| .str x=>PyData.strOk x
 | .tup ds=>decide (ds.length<=900)&&TrL ds
 | .lst _ _=>false| .ro _=>false| .dct _ _ _=>false| .obj _ _ _ _=>false| .exc _=>false| .fn _=>false| .fdc _ _=>false
noncomputable def TrL:List D->Bool
 |[]=>true
 |d::ds=>Tr d&&TrL ds
end
theorem z5j: ∀{ds:List D},TrL ds=true↔∀d∈ds,Tr d=true
 |[]=>by simp[TrL]
 |d::ds=>by erw[TrL,i6,z5j (ds:=ds),m7]
theorem z5k{n:Nat}: ∀{ds:List D},RsL n ds=true↔∀d∈ds,Rs n d=true
 |[]=>by simp[RsL]
 |d::ds=>by erw[RsL,i6,z5k (ds:=ds),m7]
theorem z5l{k:Nat}: ∀{ds:List D},PyData.depthAll (erL ds)<=k↔∀d∈ds,(er d).depth<=k
 |[]=>by simp[erL,PyData.depthAll]
 |d::ds=>by erw[erL,PyData.depthAll,m7,<-z5l (ds:=ds)];lia
mutual
theorem zcJ: ∀t:D,Tr t=true->y3 t=[]
 | .non,_=>rfl
 | .bool _,_=>rfl
 | .int _,_=>rfl
 | .str _,_=>rfl
 | .tup ds,h=>by erw[Tr,i6] at h;erw[y3];exact TrL_labs ds h.2
 | .lst _ _,h=>by simp[Tr] at h
 | .ro _,h=>by simp[Tr] at h
 | .dct _ _ _,h=>by simp[Tr] at h
 | .obj _ _ _ _,h=>by simp[Tr] at h
 | .exc _,h=>by simp[Tr] at h
 | .fn _,h=>by simp[Tr] at h
 | .fdc _ _,h=>by simp[Tr] at h
theorem TrL_labs: ∀t:List D,TrL t=true->labsL t=[]
 |[],_=>rfl
 |d::ds,h=>by erw[TrL,i6] at h;erw[labsL,zcJ d h.1,TrL_labs ds h.2,h9]
end
mutual
theorem z5m{n:Nat}: ∀t:D,Tr t=true->Rs n t=true
 | .non,_=>rfl
 | .bool _,_=>rfl
 | .int _,_=>rfl
 | .str _,h=>by simpa[Tr,Rs] using h
 | .tup ds,h=>by
  erw[Tr,i6,decide_eq_true_eq] at h;erw[Rs,i6,decide_eq_true_eq];exact⟨by lia,TrL_rs ds h.2⟩
 | .lst _ _,h=>by simp[Tr] at h
 | .ro _,h=>by simp[Tr] at h
 | .dct _ _ _,h=>by simp[Tr] at h
 | .obj _ _ _ _,h=>by simp[Tr] at h
 | .exc _,h=>by simp[Tr] at h
 | .fn _,h=>by simp[Tr] at h
 | .fdc _ _,h=>by simp[Tr] at h
theorem TrL_rs{n:Nat}: ∀t:List D,TrL t=true->RsL n t=true
 |[],_=>rfl
 |d::ds,h=>by erw[TrL,i6] at h;erw[RsL,z5m d h.1,TrL_rs ds h.2,F2]
end
mutual
theorem z6R{n:Nat}: ∀t:D,Rs n t=true->Gd t
 | .non,_=>⟨rfl,rfl⟩
 | .bool _,_=>⟨rfl,rfl⟩
 | .int _,_=>⟨rfl,rfl⟩
 | .str _,h=>⟨rfl,by simpa[Rs,er,PyData.canLay0] using h⟩
 | .tup ds,h=>by erw[Rs,i6] at h;exact Gd.tup.mpr (RsL_gd ds h.2)
 | .lst _ ds,h=>by erw[Rs,i6] at h;exact Gd.lst.mpr (RsL_gd ds h.2.2)
 | .ro _,h=>by simp[Rs] at h
 | .dct _ _ _,h=>by simp[Rs] at h
 | .obj _ _ _ _,h=>by simp[Rs] at h
 | .exc _,h=>by simp[Rs] at h
 | .fn _,h=>by simp[Rs] at h
 | .fdc _ _,h=>by simp[Rs] at h
theorem RsL_gd{n:Nat}: ∀t:List D,RsL n t=true->GdL t
 |[],_=>⟨rfl,rfl⟩
 |d::ds,h=>by erw[RsL,i6] at h;exact GdL.cons.mpr ⟨z6R d h.1,RsL_gd ds h.2⟩
end
mutual
theorem zfF{n k:Nat}: ∀t:D,Rs n t=true->k∈y3 t->n<=k
 | .non,_,h=>by simp[y3] at h
 | .bool _,_,h=>by simp[y3] at h
 | .int _,_,h=>by simp[y3] at h
 | .str _,_,h=>by simp[y3] at h
 | .tup ds,h,m=>by erw[Rs,i6] at h;erw[y3] at m;exact RsL_low ds h.2 m
 | .lst _ ds,h,m=>by
  erw[Rs,i6,decide_eq_true_eq] at h
  erw[y3,i5] at m
  rcases m with rfl|m
  ·exact h.1
  ·exact RsL_low ds h.2.2 m
 | .ro _,h,_=>by simp[Rs] at h
 | .dct _ _ _,h,_=>by simp[Rs] at h
 | .obj _ _ _ _,h,_=>by simp[Rs] at h
 | .exc _,h,_=>by simp[Rs] at h
 | .fn _,h,_=>by simp[Rs] at h
 | .fdc _ _,h,_=>by simp[Rs] at h
theorem RsL_low{n k:Nat}: ∀t:List D,RsL n t=true->k∈labsL t->n<=k
 |[],_,h=>by simp[labsL] at h
 |d::ds,h,m=>by
  erw[RsL,i6] at h
  erw[labsL,c9] at m
  rcases m with m|m
  ·exact zfF d h.1 m
  ·exact RsL_low ds h.2 m
end
theorem zfG{n k l:Nat}{es:List D}(hn:n<=l)(hl:es.length<=2000)(h: ∀e∈es,Rs n e=true/\(er e).depth<=k):Rs n (.lst l es)=true/\(er (.lst l es)).depth<=k+1:=by
 refine⟨?_, ?_⟩
 ·erw[Rs,i6,decide_eq_true_eq];exact⟨hn,hl,z5k.mpr fun d m=>(h d m).1⟩
 ·erw[er,PyData.depth];exact S0 (z5l.mpr fun d m=>(h d m).2)
theorem labsL_mem{k:Nat}: ∀{es:List D},k∈labsL es->∃e∈es,k∈y3 e
 |e::es,h=>by
  erw[labsL,c9] at h
  rcases h with h|h
  ·exact⟨e,i3,h⟩
  ·obtain⟨e',h1,h2⟩:=labsL_mem h
   exact⟨e',b8 _ h1,h2⟩
theorem ne_bool{b:Bool}{s:Stt}:neD (.bool b) (.bool b) s= .ok (.bool false) s:=by
 rw[zfj (by simp[eqC,Mi.plain,er,PyData.canLay0,PyData.depth])];simp[er,PyData.eqv]
theorem z8J{y d:D}{s:Stt}(gy:Gd y)(gd:Gd d)(e:er y=er d)(hd:(er d).depth<=60):neD y d s= .ok (.bool false) s:=by
 rw[zfj (by erw[eqC,gy.1,gd.1,gy.2,gd.2,e,B8,decide_eq_true_eq];lia),e,PySem.SeqAt.eqv_refl _ gd.2];rfl
theorem z0h{f:Nat->Option D}{o:Option D}{r:List (Option D)}:rpO f (o::r)=o.map (rp f)::rpO f r:=by cases o<;>rfl
noncomputable def UpO(n:Nat)(o:Option D):Prop:= ∀d,o=some d->Up n d
theorem UpO.fixk{n k:Nat}{o:Option D}(h:UpO n o)(hk:n<=k)(d:D):Option.map (rp (pl k d)) o=o:=by
 cases o with
 |none=>rfl
 |some t=>erw[r6];rw[U9 fun m=>by have:=h t rfl k m;lia]
theorem k5{a b c d e:D}{σ tm:List (Option D)}{n:Nat}:lstM [a,b,c,d,e] ⟨σ,tm,n⟩= .ok (.lst n [a,b,c,d,e]) ⟨σ,tm,n+1⟩:=z5i (by rw[zl];simp)
theorem k6{a b c d e f:D}{σ tm:List (Option D)}{n:Nat}:lstM [a,b,c,d,e,f] ⟨σ,tm,n⟩= .ok (.lst n [a,b,c,d,e,f]) ⟨σ,tm,n+1⟩:=z5i (by rw[zl];simp)
theorem zaW{k:Nat}{es:List D}(hl:es.length<=900)(h: ∀e∈es,Tr e=true/\(er e).depth<=k):Tr (.tup es)=true/\(er (.tup es)).depth<=k+1:=by
 refine⟨?_, ?_⟩
 ·erw[Tr,i6,decide_eq_true_eq];exact⟨hl,z5j.mpr fun d m=>(h d m).1⟩
 ·erw[er,PyData.depth];exact S0 (z5l.mpr fun d m=>(h d m).2)
theorem z8K{k:Nat}{i:Int}:Tr (.int i)=true/\(er (.int i)).depth<=k:=⟨rfl,by simp[er,PyData.depth]⟩
theorem zhQ{i j:Int}{s:Stt}:neD (.int i) (.int j) s= .ok (.bool (!(i==j))) s:=by
 rw[zfj (by simp[eqC,Mi.plain,er,PyData.canLay0,PyData.depth])];erw[er,PyData.eqv]
noncomputable def iL(bs:List Int):List D:=bs.map D.int
structure Wo where
 s:List Int
 g:List Int
 k:Int
 c:Int
noncomputable def Wo.d(w:Wo):D:= .tup [.tup (iL w.s), .tup (iL w.g), .int w.k, .int w.c]
noncomputable def kD(s g:List Int)(k:Int):D:= .tup [.tup (iL s), .tup (iL g), .int k]
noncomputable def nk3(s g:List Int)(k:Int):NK:=[.inr (s.map .inl), .inr (g.map .inl), .inl (.inl k)]
noncomputable def Wo.key(w:Wo):NK:=nk3 w.s w.g w.k
theorem dk3(s g:List Int)(k:Int):kD s g k=dkD (nk3 s g k):=by
 simp[dkD,nk3,nkD,z3T,iL,kD,Function.comp_def]
structure Wo.ok(w:Wo):Prop where
 s1:1<=w.s.length
 s6:w.s.length<=6
 sb: ∀i∈w.s,0<=i/\i<=39
 g1:1<=w.g.length
 g4:w.g.length<=4
 gb: ∀i∈w.g,0<=i/\i<=999
 kb:0<=w.k/\w.k<=7
 cb:0<=w.c/\w.c<=9999
noncomputable def ksW(ws:List Wo):List D:=ws.map fun w=>dkD w.key
noncomputable def vsW(ws:List Wo):List D:=ws.map fun w=> .int w.c
noncomputable def wsD(ws:List Wo):List D:=ws.map Wo.d
structure Bks(ws:List Wo):Prop where
 nd:(ws.map Wo.key).Nodup
 ok: ∀w∈ws,w.ok
 few:ws.length<=60
theorem Bks.nil:Bks []:=⟨P0,(fun _ h=>nomatch h),by simp⟩
noncomputable def has(ws:List Wo)(k:NK):Bool:=ws.any fun w=>decide (w.key=k)
theorem Bks.snoc{ws:List Wo}{w:Wo}(h:Bks ws)(hw:w.ok)(hh:has ws w.key=false)(hl:ws.length<60):Bks (ws++[w]):=by
 refine⟨?_,fun v hv=> ?_,by simp;lia⟩
 ·rw[B6]
  refine N1.mpr ⟨h.nd,by simp,fun a ha b hb e=> ?_⟩
  obtain⟨p,hp,rfl⟩:=l7.mp ha
  rw[b7,l3,i4] at hb
  rw[hb] at e
  have:has ws w.key=true:=L0.mpr ⟨p,hp,by simpa using e⟩
  rw[hh] at this;cases this
 ·rcases c9.mp hv with hv|hv
  ·exact h.ok v hv
  ·rw[i4.mp hv];exact hw
noncomputable abbrev Dw(m:Nat)(ws:List Wo):D:= .dct m (ksW ws) (vsW ws)
noncomputable abbrev Bk(l m:Nat)(ws:List Wo):D:= .obj l "Book" ["costs"] [Dw m ws]
theorem zcK{l m:Nat}{ws:List Wo}{s:Stt}:zdf "costs" J3 (Bk l m ws) s= .ok (Dw m ws) s:=zhN (by decide) (by rfl)
theorem z3O(ws:List Wo):isT (ksW ws)=true:=by cases ws<;>rfl
theorem x6(ws:List Wo):labsL (vsW ws)=[]:=by
 induction ws with
 |nil=>rfl
 |cons w ws ih=>erw[vsW,b7,labsL,y3,m5] at ih⊢;exact ih
noncomputable def fnd:List Wo->NK->Option Int
 |[],_=>none
 |w::ws,k=>if w.key=k then some w.c else fnd ws k
theorem z4H{k:NK}: ∀{ws:List Wo},findK (ksW ws) (vsW ws) k=(fnd ws k).map D.int
 |[]=>rfl
 |w::ws=>by
  have ih:=z4H (k:=k) (ws:=ws)
  erw[ksW,vsW,b7,findK,Q8,Option.some.injEq,fnd] at ih⊢
  split
  ·rfl
  ·exact ih
theorem z3P{k:NK}: ∀{ws:List Wo},(fnd ws k).isSome=has ws k
 |[]=>rfl
 |w::ws=>by
  have ih:=z3P (k:=k) (ws:=ws)
  erw[fnd,has,N4] at ih⊢
  by_cases h:w.key=k
  ·simp[h]
  ·simp[h,ih]
theorem z8L: ∀{ws:List Wo},(ws.map Wo.key).Nodup->∀w∈ws,fnd ws w.key=some w.c
 |q::ws,hn,w,hw=>by
  have hn':=B3.mp (show(q.key::ws.map Wo.key).Nodup from hn)
  rcases i5.mp hw with rfl|hw
  ·erw[fnd,if_true]
  ·rw[fnd,if_neg fun e:q.key=w.key=>hn'.1 (e▸l7.mpr ⟨w,hw,rfl⟩)]
   exact z8L hn'.2 w hw
theorem zfH{k:NK}(ws:List Wo):((ksW ws).any fun d=>decide (tkey d=some k))=has ws k:=by
 unfold ksW has
 rw[T6]
 congr 1
 funext p
 erw[Function.comp,Q8,Option.some.injEq]
section
variable{m:Nat}{ws:List Wo}{s g:List Int}{k:Int}{st:Stt}
theorem zfI:zde (kD s g k) (Dw m ws) st= .ok (.bool (has ws (nk3 s g k))) st:=by
 rw[dk3]
 unfold zde
 erw[rdD,if_pos (z3O ws),Q8,z4H,E4,z3P]
 rfl
theorem zfJ:zdg [Dw m ws] st= .ok (.int ws.length) st:=by
 erw[zdg,if_pos (z3O ws)]
 rw[show(ksW ws).length=ws.length by simp[ksW]]
 rfl
theorem z8M{w:Wo}(h:has ws w.key=false)(hl:ws.length<=100):z2s (Dw m ws) (kD w.s w.g w.k) (.int w.c) st= .nx (st.put m (Dw m (ws++[w]))):=by
 rw[dk3]
 unfold z2s
 erw[Q8]
 rw[if_pos ⟨z3O ws,by rw[zl];erw[ksW,n9];lia,rfl,x6 ws⟩]
 unfold z88 z54
 have h':has ws (nk3 w.s w.g w.k)=false:=h
 rw[zfH,h']
 erw[s0,if_false]
 rw[show Dw m (ws++[w])= .dct m (ksW ws++[dkD (nk3 w.s w.g w.k)]) (vsW ws++[.int w.c]) by simp[Dw,ksW,vsW,Wo.key]]
end
theorem zcL{ws:List Wo}{m n:Nat}{σ tm:List (Option D)}(h:Bks ws):zco (Dw m ws) ⟨σ,tm,n⟩= .ok (.lst n (wsD ws)) ⟨σ,tm,n+1⟩:=by
 have e:z2X (ksW ws) (vsW ws)=true:=by
  erw[z2X,z3O,x6,S1,F2,B8,i6,C2,decide_eq_true_eq]
  refine⟨fun d hd=> ?_,by rw[zl];erw[ksW,n9];have:=h.few;lia⟩
  obtain⟨w,_,rfl⟩:=l7.mp hd
  simp[Wo.key,dkD,nk3,zdh]
 erw[zco,if_pos e]
 have z:C9 z9b (ksW ws) (vsW ws)=wsD ws:=by
  clear e h
  induction ws with
  |nil=>rfl
  |cons w ws ih=>
   erw[ksW,vsW,wsD,b7,C0] at ih⊢
   rw[ih]
   congr 1
   rw[Wo.key,<-dk3];rfl
 rw[z]
 rfl
theorem zcM{ws:List Wo}{m n:Nat}{σ tm:List (Option D)}(h:Bks ws):zaN (Dw m ws) ⟨σ,tm,n⟩= .ok (.lst n (wsD ws)) ⟨σ,tm,n+1⟩:=by
 have e:z2X (ksW ws) (vsW ws)=true:=by
  erw[z2X,z3O,x6,S1,F2,B8,i6,C2,decide_eq_true_eq]
  refine⟨fun d hd=> ?_,by rw[zl];erw[ksW,n9];have:=h.few;lia⟩
  obtain⟨w,_,rfl⟩:=l7.mp hd
  simp[Wo.key,dkD,nk3,zdh]
 erw[zaN,if_pos e]
 have z:(ksW ws).map (fun d=>z9b d (fdK (ksW ws) (vsW ws) d))=wsD ws:=by
  unfold ksW wsD
  rw[F9]
  refine C7 fun w hw=> ?_
  erw[Function.comp,fdK,Q8,N8]
  rw[show(List.map (fun w=>dkD w.key) ws)=ksW ws from rfl,z4H,z8L h.nd w hw,Wo.key,<-dk3]
  rfl
 rw[z]
 rfl
noncomputable def B_4:=BA (BA (BA (BA (BA @qg1 @qg2) (BA @qg3 @qg4)) (BA (BA @qg5 @qg6) (BA @qg8 @qg9))) (BA (BA (BA @zj5 @zj6) (BA @zj7 @qh1)) (BA (BA @qh2 @qh3) (BA @qh4 @qh5)))) (BA (BA (BA (BA @qh7 @qh8) (BA @qh9 @zj8)) (BA (BA @zj9 @zja) (BA @zjb @zjc))) (BA (BA (BA @zjd @zir) (BA @zis @zje)) (BA (BA @zhK @zfy) (BA @zaT @zhL))))
noncomputable def B_5:=BA (BA (BA @zcG (BA @zad @zae)) (BA @zaf (BA @zhQ @z0h))) (BA (BA @zhM (BA @zfz @zhO)) (BA (BA @zfB @zfC) (BA @zcK @c1)))
local macro_rules | `(tactic| left) => `(tactic| (simp (config := { dsimp := false }) only [B_0, B_1, B_3, ↓B_4, B_5, isiD, Y2, asg, asgL, i7, N5, N6, String.reduceBEq, P3]))
theorem zcN{k:Nat}{s:List Int}(h:s.length<=24):Tr (.tup (iL s))=true/\(er (.tup (iL s))).depth<=k+1:=zaW (by simp[iL];lia) fun e he=>by
 obtain⟨i,_,rfl⟩:=l7.mp he;exact z8K
theorem z6S{w:Wo}(h:w.ok):Tr w.d=true/\(er w.d).depth<=2:=zaW (by simp) (m7.mpr ⟨zcN (by have:=h.s6;lia),m7.mpr ⟨zcN (by have:=h.g4;lia),m7.mpr ⟨z8K,m7.mpr ⟨z8K,fun _ h=>nomatch h⟩⟩⟩⟩)
theorem zcO: ∀a b:List Int,(So.ltL (erL (iL a)) (erL (iL b))).isSome=true
 |[],b=>by simp[iL,erL,So.ltL]
 |x::a,[]=>by simp[iL,erL,So.ltL]
 |x::a,y::b=>by
  have ih:=zcO a b
  erw[iL,b7,erL,er,So.ltL] at ih⊢
  split
  ·exact ih
  ·simp[So.ltD]
theorem zhR{v w:Wo}:(So.ltD (er v.d) (er w.d)).isSome=true:=by
 erw[Wo.d,er,erL,So.ltD,So.ltL]
 split
 ·split
  ·split
   ·split
    ·simp
    ·simp
   ·simp
  ·exact zcO v.g w.g
 ·exact zcO v.s w.s
theorem z1a{P:PyData->Prop}: ∀{ds:List D},(∀d∈ds,P (er d))->∀e∈erL ds,P e
 |[],_,e,h=>nomatch h
 |d::ds,hd,e,h=>by
  rcases i5.mp (show e∈er d::erL ds from h) with rfl|h
  ·exact hd d (by simp)
  ·exact z1a (fun d' h'=>hd d' (by simp[h'])) e h
theorem z0D{ws:List Wo}(h:Bks ws){d:D}(hd:d∈wsD ws): ∃w:Wo,w.ok/\d=w.d:=by
 obtain⟨w,hw,rfl⟩:=l7.mp hd
 exact⟨w,h.ok w hw,rfl⟩
theorem zfK{ws:List Wo}(h:Bks ws):plainL (wsD ws)=true/\z4p (erL (wsD ws))=true/\labsL (wsD ws)=[]:=by
 have tr: ∀d∈wsD ws,Tr d=true/\(er d).depth<=2:=fun d hd=>by
  obtain⟨w,hw,rfl⟩:=z0D h hd
  exact z6S hw
 have gd:GdL (wsD ws):=RsL_gd (n:=0) _ (z5k.mpr fun d hd=>z5m d (tr d hd).1)
 refine⟨gd.1, ?_,TrL_labs _ (z5j.mpr fun d hd=>(tr d hd).1)⟩
 unfold z4p
 erw[i6,C2,decide_eq_true_eq]
 refine⟨z1a fun d hd=> ?_,z1a fun d hd=>z1a fun d' hd'=> ?_⟩
 ·have t:=tr d hd
  have g':Gd d:=z6R (n:=0) d (z5m d t.1)
  obtain⟨w,hw,rfl⟩:=z0D h hd
  exact⟨⟨rfl,g'.2⟩,by lia⟩
 ·obtain⟨w,_,rfl⟩:=z0D h hd
  obtain⟨w',_,rfl⟩:=z0D h hd'
  exact zhR
theorem zaX{l n:Nat}{ws:List Wo}{σ tm:List (Option D)}(h:Bks ws):zaL [.lst l (wsD ws)] ⟨σ,tm,n⟩= .ok (.lst n (za1 (wsD ws))) ⟨σ,tm,n+1⟩:=by
 obtain⟨h1,h2,h3⟩:=zfK h
 erw[zaL]
 rw[if_pos (by rw[h1,h2,h3];rfl)]
 rfl
theorem z5n(f:Nat->Option D)(s:List Int):rpL f (iL s)=iL s:=by
 induction s with
 |nil=>rfl
 |cons i s ih=>erw[iL,b7,z0g,z2K] at ih⊢;rw[ih]
theorem z9c(f:Nat->Option D)(w:Wo):rp f w.d=w.d:=by erw[Wo.d,z65,z0g,z5n,z2K,z8F]
theorem z67(l m:Nat)(ws:List Wo)(h:Bks ws)(n:Nat):W6 [Bk l m ws] n= .ok (.lst (n+1) (za1 (wsD ws))) [Bk l m ws] (n+1+1):=by
 unfold W6 X3
 left
 rw[zcL h]
 left
 rw[zaX h]
 left
theorem zaY{s:List Int}{lo hi top:Int}(h1:lo<=s.length)(h2:s.length<=hi)(hb: ∀i∈s,0<=i/\i<=top):zdl lo hi top (.tup (iL s))=true:=by
 erw[zdl,iL,n9,h1,h2,decide_true,B8,C2]
 intro d hd
 obtain⟨i,hi',rfl⟩:=l7.mp hd
 have:=hb i hi'
 simp[inR,this.1,this.2]
theorem z68(s:List Int):Mi.plain (.tup (iL s))=true:=by
 erw[Mi.plain]
 induction s with
 |nil=>rfl
 |cons i s ih=>erw[iL,b7,plainL,Mi.plain,B8] at ih⊢;exact ih
theorem zaZ{l m:Nat}{ws ws':List Wo}(h:l≠m):rp (pl m (Dw m ws')) (Bk l m ws)=Bk l m ws':=by
 erw[rp,rpL,pl,if_neg h,if_true]
noncomputable def zdm(ws:List Wo)(w:Wo):Option Str:=if has ws w.key=true then some "Twice" else if 60<=ws.length then some "TooMany" else none
theorem zcP(w:Wo)(h:w.ok)(n:Nat): ∃n',n<=n'/\z0d [w.d] n= .ok (.bool true) [w.d] n':=by
 obtain⟨n1,h1,e1⟩:=zaU (.tup (iL w.s)) 1 6 39 n (z68 _) (by decide)
 obtain⟨n2,h2,e2⟩:=zaU (.tup (iL w.g)) 1 4 999 n1 (z68 _) (by decide)
 rw[zaY (by have:=h.s1;lia) (by have:=h.s6;lia) h.sb] at e1
 rw[zaY (by have:=h.g1;lia) (by have:=h.g4;lia) h.gb] at e2
 refine⟨n2,by lia, ?_⟩
 unfold z0d z0Z Wo.d
 left
 rw[show(((4:Nat):Int)==4)=true from rfl]
 left
 rw[e1]
 left
 rw[e2]
 left
 have i1:inR 0 7 (.int w.k)=true:=by simp[inR,h.kb.1,h.kb.2]
 have i2:inR 0 9999 (.int w.c)=true:=by simp[inR,h.cb.1,h.cb.2]
 rw[z8I _ _ _ _ rfl,i1]
 left
 rw[z8I _ _ _ _ rfl,i2]
 left
theorem x3W(w:Wo)(s:Stt):ixD w.d (.int 3) s= .ok (.int w.c) s:=(rfl)
theorem slW(w:Wo)(s:Stt):slD w.d none (some 3) s= .ok (kD w.s w.g w.k) s:=(rfl)
theorem z8N(l m:Nat)(hlm:l≠m)(ws:List Wo)(w:Wo)(hw:w.ok)(hp:zdm ws w=none)(n:Nat): ∃n',n<=n'/\Q3 [Bk l m ws,w.d] n= .ok .non [Bk l m (ws++[w]),w.d] n':=by
 obtain⟨n1,h1,e1⟩:=zcP w hw n
 refine⟨n1,h1, ?_⟩
 unfold zdm at hp
 have hh: ¬has ws w.key=true:=fun z=>by rw[if_pos z] at hp;cases hp
 rw[if_neg hh] at hp
 have hl: ¬60<=ws.length:=fun z=>by rw[if_pos z] at hp;cases hp
 have hh':has ws (nk3 w.s w.g w.k)=false:=D6.mpr hh
 have hd:decide ((ws.length:Int)≥60)=false:=by simp;lia
 unfold Q3 X5
 left
 rw[e1]
 left
 rw[slW]
 left
 rw[zfI,hh']
 left
 rw[zfJ]
 left
 rw[hd]
 left
 rw[x3W]
 left
 rw[slW]
 left
 rw[z8M hh' (by lia)]
 left
 erw[zaZ hlm,z9c]
theorem z69(ws:List Wo):labsL (ksW ws)=[]:=by
 induction ws with
 |nil=>rfl
 |cons w ws ih=>erw[ksW,b7,labsL,z57,m5] at ih⊢;exact ih
theorem z5o{l m:Nat}{ws:List Wo}:y3 (Bk l m ws)=[l,m]:=by erw[y3,labsL,z69,x6,h9]
theorem zcQ{l m:Nat}{ws:List Wo}{r:List D}(hr:labsL r=[])(k:Nat):findL k (Bk l m ws::r)=if l=k then some (Bk l m ws) else if m=k then some (Dw m ws) else none:=by
 have e0:findL k r=none:=findL_none r (by rw[hr];exact A4)
 have e1:findL k (vsW ws)=none:=findL_none _ (by rw[x6];exact A4)
 by_cases h1:l=k
 ·erw[findL,W0,if_pos h1]
 ·by_cases h2:m=k
  ·erw[findL,W0,if_neg h1,if_pos h2]
  ·erw[findL,W0,if_neg h1,if_neg h2,e1,e0]
theorem z6T{l m:Nat}{ws ws':List Wo}{r:List D}(hr:labsL r=[]):rp (fun k=>findL k (Bk l m ws'::r)) (Bk l m ws)=Bk l m ws':=by
 erw[rp,zcQ hr,if_true]
theorem z1L{l m:Nat}{ws':List Wo}{r:List D}(hr:labsL r=[]){t:D}(h1:l∉y3 t)(h2:m∉y3 t):rp (fun k=>findL k (Bk l m ws'::r)) t=t:=z7I t fun k hk=>by
 rw[zcQ hr,if_neg fun z:l=k=>h1 (by rw[z];exact hk),if_neg fun z:m=k=>h2 (by rw[z];exact hk)]
theorem z3Q{f:Nat->Option D}: ∀{o:List (Option D)},(∀t,some t∈o->rp f t=t)->rpO f o=o
 |[],_=>rfl
 |none::o,h=>by rw[z0h,z3Q fun t ht=>h t (b8 _ ht)];rfl
 |some d::o,h=>by rw[z0h,z3Q fun t ht=>h t (b8 _ ht),r6,h d (i3 ..)]
theorem z8O{l m:Nat}{ws ws':List Wo}{r:List D}(hr:labsL r=[]): ∀k∈labsL (Bk l m ws::r),(findL k (Bk l m ws'::r)).isSome=true:=fun k hk=>by
 rw[zcQ hr]
 erw[labsL,z5o,hr,h9,i5,A4,or_false] at hk
 rcases hk with rfl|rfl
 ·simp
 ·split<;>simp
theorem zfL{l m:Nat}{ws:List Wo}:objC "Book" "words" (Bk l m ws)=true:=by erw[objC];decide
theorem z6U{l m k:Nat}{d:D}{ws:List Wo}(h1:l≠k)(h2:m≠k):rp (pl k d) (Bk l m ws)=Bk l m ws:=U9 (by rw[z5o];erw[i5,A4,or_false,not_or];exact⟨fun z=>h1 z.symm,fun z=>h2 z.symm⟩)
theorem zcR{m:Nat}{ws:List Wo}:y3 (Dw m ws)=[m]:=by erw[y3,z69,x6,h9]
theorem zhS{m k:Nat}{d:D}{ws:List Wo}(h2:m≠k):rp (pl k d) (Dw m ws)=Dw m ws:=U9 (by rw[zcR];erw[i5,A4,or_false];exact fun z=>h2 z.symm)
theorem z2O{K:ItK}{g:Tg}{b:MS}{P:Nat->Stt->Prop}{item:Nat->D}{N:Nat}(hat: ∀i s,P i s->K.at' i s.tm=some (if i<N then some (item i) else none))
 (body: ∀i,i<N->∀s,P i s->∃σ',asg g (item i) s.σ=some σ'/\∃s',b {s with σ:=σ'}= .nx s'/\P (i+1) s'):
 ∀(f i:Nat) (s:Stt),i+f=N->P i s->∃s',forGo K g b f i s= .nx (s'.popn K.k)/\P N s'
 |0,i,s,hi,h=>by
  have e:i=N:=by lia
  subst e
  exact⟨s,zcH (by rw[hat i s h,if_neg (D7 _)]),h⟩
 |f+1,i,s,hi,h=>by
  obtain⟨σ',h1,s1,h2,h3⟩:=body i (by lia) s h
  obtain⟨s2,h4,h5⟩:=z2O hat body f (i+1) s1 (by lia) h3
  exact⟨s2,by rw[zag (by rw[hat i s h,if_pos (by lia)]) h1 h2,h4],h5⟩
theorem zai{o:Option D}{σ tm:List (Option D)}{n:Nat}:Stt.popn ⟨σ,o::tm,n⟩ 1=⟨σ,tm,n⟩:=rfl
theorem zaj:z3a.k=1:=rfl
theorem z6a{l:Nat}{ds:List D}{i:Nat}{tm:List (Option D)}:z3a.at' i (some (.lst l ds)::tm)=some (if i<ds.length then some (ds.getD i .non) else none):=by
 show some (ds[i]?)=_
 by_cases h:i<ds.length
 ·rw[if_pos h];simp[h]
 ·rw[if_neg h];simp[R6 h]
theorem z8P{K:ItK}{tg:Tg}{me:M D}{g:D->D}{sl:D->List (Option D)}{k:Nat}{items:List D}{its fr σ0 tm0:List (Option D)}{ol:Nat}(hk:its.length=K.k)(hol:σ0.length=ol)(hz:items.length<sizeLine)(hat: ∀i rest,K.at' i (its++rest)=some items[i]?)
 (has: ∀d∈items,(sl d).length=k/\∀os:List (Option D),os.length=k->asg tg d (os++fr)=some (sl d++fr))
 (hme: ∀d∈items,∀tm n,∃n',n<=n'/\me ⟨sl d++fr,tm,n⟩= .ok (g d) ⟨sl d++fr,tm,n'⟩):
 ∀(f i:Nat) (acc:List D) (os:List (Option D)) (n:Nat),os.length=k->i+f=items.length->acc.length<=i->∃n',n<=n'/\J6 K tg (rt true) me ol f i acc.length ⟨os++fr,(acc.reverse.map some)++(σ0++(its++tm0)),n⟩= .ok (.lst n' (acc++(items.drop i).map g)) ⟨σ0,tm0,n'+1⟩:=by
 intro f
 induction f with
 |zero=>
  intro i acc os n ho hi ha
  have hi:i=items.length:=by lia
  refine⟨n,c8 _, ?_⟩
  have l1:(acc.reverse.map some).length=acc.length:=by simp
  have e1:((acc.reverse.map some)++(σ0++(its++tm0))).drop (acc.length+ol)=its++tm0:=by
   rw[<-m9];exact W8 _ _ _ (by simp[hol])
  have e0:K.at' i (its++tm0)=some none:=by
   rw[hat,List.getElem?_eq_none (show items.length<=i by lia)]
  unfold J6
  erw[e1,e0]
  rw[G9 _ _ _ l1]
  have e2:(acc.reverse.map some).reverse=acc.map some:=by simp
  rw[e2,G7]
  erw[Res.ok.injEq,Stt.mk.injEq,and_true,O0 (show items.length<=i by lia),l3,h9,true_and]
  constructor
  ·rw[W8 _ _ _ l1,G9 _ _ _ hol]
  ·have:((acc.reverse.map some)++(σ0++(its++tm0))).drop (acc.length+ol+K.k)=(((acc.reverse.map some)++(σ0++(its++tm0))).drop (acc.length+ol)).drop K.k:=by rw[D2]
   rw[this,e1]
   exact W8 _ _ _ hk
 |succ f ih=>
  intro i acc os n ho hi ha
  have hlt:i<items.length:=by lia
  have e1:((acc.reverse.map some)++(σ0++(its++tm0))).drop (acc.length+ol)=its++tm0:=by
   rw[<-m9];exact W8 _ _ _ (by simp[hol])
  have e0:K.at' i (its++tm0)=some (some items[i]):=by
   rw[hat,List.getElem?_eq_getElem hlt]
  obtain⟨a1,a2⟩:=has items[i] (p9 hlt)
  rw[E9 hlt]
  obtain⟨n2,hn2,h2⟩:=hme items[i] (p9 hlt) ((acc.reverse.map some)++(σ0++(its++tm0))) n
  obtain⟨n3,hn3,h3⟩:=ih (i+1) (acc++[g items[i]]) (sl items[i]) n2 a1 (by lia) (by simp;lia)
  refine⟨n3,by lia, ?_⟩
  unfold J6
  erw[e1,e0,a2 os ho,rt]
  erw[if_pos (show acc.length<sizeLine by lia),h2]
  erw[m8,i9,t9,E7,C8,A2,B4,m5,B6,b7,l3,o0,m9] at h3⊢
  exact h3
theorem z6b{mi:M ItK}{K:ItK}{tg:Tg}{me:M D}{g:D->D}{sl:D->List (Option D)}{k:Nat}{items:List D}{its:List (Option D)}{ix:List Nat}{s:Stt}{σ tm:List (Option D)}{n:Nat}(hc:mi s= .ok K ⟨σ,its++tm,n⟩)(hk:its.length=K.k)(hz:items.length<sizeLine)(hat: ∀i rest,K.at' i (its++rest)=some items[i]?)(hlen:K.len (its++tm)=items.length)
 (has: ∀d∈items,(sl d).length=k/\∀os:List (Option D),os.length=k->asg tg d (os++(ix.map fun i=>(σ[i]?).getD none))=some (sl d++(ix.map fun i=>(σ[i]?).getD none)))
 (hme: ∀d∈items,∀tm n,∃n',n<=n'/\me ⟨sl d++(ix.map fun i=>(σ[i]?).getD none),tm,n⟩= .ok (g d) ⟨sl d++(ix.map fun i=>(σ[i]?).getD none),tm,n'⟩):
 ∃n',n<=n'/\j3 mi tg (rt true) me k ix s= .ok (.lst n' (items.map g)) ⟨σ,tm,n'+1⟩:=by
 obtain⟨n',h2,h3⟩:=z8P (K:=K) (tg:=tg) (me:=me) (g:=g) (sl:=sl) (σ0:=σ) (tm0:=tm) hk rfl hz hat has hme items.length 0 [] (i7 k none) n (by simp) (by simp) (by simp)
 refine⟨n',h2, ?_⟩
 unfold j3
 erw[bd,hc,hlen]
 erw[l3,B4,m5,t9,F7] at h3
 exact h3
theorem zak{α:Type}(xs:List α):V3 (xs.map fun _=>D.bool true)=some (xs.map fun _=>true):=by
 induction xs with
 |nil=>rfl
 |cons x xs ih=>erw[b7,V3,ih];rfl
theorem zcS{α:Type}{l:Nat}{xs:List α}{s:Stt}:z98 [.lst l (xs.map fun _=>D.bool true)] s= .ok (.bool true) s:=by
 rw[zcD (zak xs)]
 congr 2
 simp
theorem zb0{S:List Int}{lo hi:Option Int}:z6Y (iL S) lo hi=iL (z6Y S lo hi):=by
 unfold z6Y iL
 simp
noncomputable def awM:MS:=(Q6 (sIf (mOr (z1z (J4 (z3U "tuple" (y0 1)))) (mOr (z1z (J4 (z3U "tuple" (Z0 (y0 1) (mC (.int 0)) ixD)))) (z1z (J4 (z3U "tuple" (Z0 (y0 1) (mC (.int 1)) ixD)))))) (X8 (mC (.bool false))) sNx)
 (sIf (z1z (J4 (mCB [(j3 (J2 (Z0 (Z0 (Z0 (y0 1) (mC (.int 0)) ixD) (Z0 (y0 1) (mC (.int 1)) ixD) X7) (mSl (y0 1) (some (mC (.int 2))) none) X7)) (.nm 0) (rt true) (Y1 K7 [(y0 0)]) 1 [])] z98))) (X8 (mC (.bool false))) sNx))
theorem zhT(a0:Option D)(tm:List (Option D))(w:Wo)(h:w.ok)(n:Nat): ∃n',n<=n'/\awM ⟨[a0,some w.d],tm,n⟩= .nx ⟨[a0,some w.d],tm,n'⟩:=by
 have x0: ∀s:Stt,ixD w.d (.int 0) s= .ok (.tup (iL w.s)) s:=fun _=>rfl
 have x1: ∀s:Stt,ixD w.d (.int 1) s= .ok (.tup (iL w.g)) s:=fun _=>rfl
 have x2: ∀s:Stt,slD w.d (some 2) none s= .ok (.tup (iL [w.k,w.c])) s:=fun _=>rfl
 have i0:isiD "tuple" w.d=some true:=rfl
 have cat: ∀(a b:List Int) (s:Stt),a.length+b.length<=100->X7 (.tup (iL a)) (.tup (iL b)) s= .ok (.tup (iL (a++b))) s:=fun a b s hh=>by
  rw[zaS (by rw[zl];simp[iL];lia)];simp[iL]
 have l6:=h.s6
 have l4:=h.g4
 obtain⟨n1,h1,e1⟩:=z6b (mi:=J2 (Z0 (Z0 (Z0 (y0 1) (mC (.int 0)) ixD) (Z0 (y0 1) (mC (.int 1)) ixD) X7) (mSl (y0 1) (some (mC (.int 2))) none) X7)) (K:=zaF) (tg:= .nm 0) (me:=Y1 K7 [(y0 0)]) (g:=fun _=> .bool true) (sl:=fun d=>[some d]) (k:=1) (items:=iL (w.s++w.g++[w.k,w.c])) (its:=[some (.tup (iL (w.s++w.g++[w.k,w.c])))]) (ix:=[]) (s:=⟨[a0,some w.d],tm,n⟩) (σ:=[a0,some w.d]) (tm:=tm) (n:=n) (by
  have q:Z0 (Z0 (Z0 (y0 1) (mC (.int 0)) ixD) (Z0 (y0 1) (mC (.int 1)) ixD) X7) (mSl (y0 1) (some (mC (.int 2))) none) X7 ⟨[a0,some w.d],tm,n⟩= .ok (.tup (iL (w.s++w.g++[w.k,w.c]))) ⟨[a0,some w.d],tm,n⟩:=by
   left
   rw[x0]
   left
   rw[x1]
   left
   rw[cat _ _ _ (by lia)]
   left
   rw[x2]
   left
   rw[cat _ _ _ (by simp;lia)]
  unfold J2 bd
  rw[q]
  rfl) rfl (by rw[zl];simp[iL];lia) (fun i rest=>rfl) rfl (fun d hd=>⟨rfl,fun os ho=>by
   match os,ho with
   |[a0],_=>rfl⟩) (fun d hd tm n=>by
   obtain⟨i,_,rfl⟩:=l7.mp hd
   refine⟨n,c8 _, ?_⟩
   erw[l3,h9]
   left
   rw[zah _ _ rfl]
   left
   erw[isInt])
 refine⟨n1+1,by lia, ?_⟩
 have ew:w.d= .tup [.tup (iL w.s), .tup (iL w.g), .int w.k, .int w.c]:=rfl
 unfold awM
 rw[ew] at e1⊢
 left
 rw[e1]
 left
 rw[zcS]
 left
theorem zfM(lt:Nat)(ds:List D)(hd: ∀d∈ds,∃w:Wo,w.ok/\d=w.d)(n:Nat): ∃n',n<=n'/\G0 [.lst lt ds] n= .ok (.bool true) [.lst lt ds] n':=by
 obtain⟨s',e,o1,n1,h1,rfl⟩:=z2O (K:=z3a) (g:= .nm 1) (b:=awM) (item:=fun i=>ds.getD i .non) (N:=ds.length) (P:=fun i s=> ∃(o1:Option D) (n1:Nat),n<=n1/\s=⟨[some (.lst lt ds),o1],[some (.lst lt ds),some (.lst lt ds)],n1⟩)
  (by rintro i s ⟨_,_,_,rfl⟩;rw[z6a])
  (by
   rintro i hi s ⟨o1,n1,h1,rfl⟩
   refine⟨_,rfl, ?_⟩
   obtain⟨w,hw,e⟩:=hd _ (p9 hi)
   have e':ds.getD i .non=w.d:=by rw[<-e];simp[hi]
   rw[e']
   obtain⟨n2,h2,e2⟩:=zhT (some (.lst lt ds)) [some (.lst lt ds),some (.lst lt ds)] w hw n1
   exact⟨_,e2,_,n2,by lia,rfl⟩)
  ds.length 0 ⟨[some (.lst lt ds),none],[some (.lst lt ds),some (.lst lt ds)],n⟩ (by lia) ⟨none,n,c8 _,rfl⟩
 rw[zaj,zai] at e
 refine⟨n1,h1, ?_⟩
 unfold G0
 have e0:z0f=(Q6 (sIf (z1z (J4 (z3U "list" (y0 0)))) (X8 (mC (.bool false))) sNx) (Q6 (z3b (J2 (y0 0)) (.nm 1) awM) (X8 (mC (.bool true))))):=rfl
 have em: ∀σ tm n,J2 (y0 0) ⟨some (.lst lt ds)::σ,tm,n⟩= .ok z3a ⟨some (.lst lt ds)::σ,some (.lst lt ds)::tm,n⟩:=fun σ tm n=>rfl
 rw[e0]
 left
 rw[em]
 left
 rw[show z3a.len [some (.lst lt ds),some (.lst lt ds)]=ds.length from rfl,e]
 left
theorem z9k.two{r:Int}:z9k r 2:=⟨by decide,by decide⟩
theorem z0m(s:List Int):(iL s).length=s.length:=by simp[iL]
theorem zcT{v:Int}: ∀{ys:List D},(∀y∈ys,∃i:Int,y= .int i/\0<=i/\i<v)->∃bs,ys=iL bs/\∀i∈bs,0<=i/\i<v
 |[],_=>⟨[],rfl,fun _ h=>nomatch h⟩
 |d::ds,h=>by
  obtain⟨i,rfl,hi⟩:=h d (by simp)
  obtain⟨bs,rfl,hb⟩:=zcT (ys:=ds) fun d hd=>h d (by simp[hd])
  exact⟨i::bs,rfl,m7.mpr ⟨hi,hb⟩⟩
noncomputable def drM(a b a' b':Int):M D:=j3 (V4 [(Z0 (mC (.int 1)) (Y1 Z3 [(y0 0),(Z0 (mCB [(mC (.int a')),(mC (.int b'))] lstM) (y0 1) ixD)]) X7)]) (.nm 0) (rt true) (Y1 Z3 [(y0 1),(Z0 (mCB [(mC (.int a)),(mC (.int b))] lstM) (y0 2) ixD)]) 1 [0,1]
theorem z8Q{a b a' b' v v' wide c x:Int}{l n:Nat}{r:List (Option D)}(h:Bg c x)(hn:l<n)(hv:atI [D.int a,D.int b] wide=some (.int v))(hv':atI [D.int a',D.int b'] wide=some (.int v'))(h0:0<v)(h1:v<1000000)(h2:0<v')(h3:v'<100)(hr: ∀d,rpO (pl l d) r=r):
 ∃(s:List Int) (c' x':Int) (n':Nat),1<=s.length/\s.length<=v'/\(∀i∈s,0<=i/\i<v)/\Bg c' x'/\n<=n'/\drM a b a' b' ⟨some (.lst l [.int c, .int x])::some (.int wide)::r,[some (.lst l [.int c, .int x])],n⟩= .ok (.lst n' (iL s)) ⟨some (.lst l [.int c', .int x'])::some (.int wide)::r,[some (.lst l [.int c', .int x'])],n'+1⟩:=by
 obtain⟨k,c1,x1,hk0,hk1,b1,e1⟩:=U2 l c x v' (n+1) h h2 (by lia)
 obtain⟨ys,b',n',g1,g2,g3,⟨c3,x3,rfl,hb3⟩,g5,g6⟩:=z4F (ms:=[(Z0 (mC (.int 1)) (Y1 Z3 [(y0 0),(Z0 (mCB [(mC (.int a')),(mC (.int b'))] lstM) (y0 1) ixD)]) X7)]) (me:=(Y1 Z3 [(y0 1),(Z0 (mCB [(mC (.int a)),(mC (.int b))] lstM) (y0 2) ixD)])) (N:=(1+k).toNat) (ix:=[0,1]) (s:=⟨some (.lst l [.int c, .int x])::some (.int wide)::r,[some (.lst l [.int c, .int x])],n⟩) (l:=l) (n:=n+1) (j:=1+k) (σ0:=some (.lst l [.int c1, .int x1])::some (.int wide)::r) (tm0:=[some (.lst l [.int c1, .int x1])]) (b:=[.int c1, .int x1]) (Bg:=fun b=> ∃c x,b=[.int c, .int x]/\Bg c x) (Q:=fun _ d=> ∃i:Int,d= .int i/\0<=i/\i<v) (fun _ _ _ _ h=>h)
  (by
   left
   rw[hv']
   left
   rw[e1,V6 rfl rfl rfl (by left;erw[hr]) (by left)]
   left
   erw[hr]) rfl ⟨by lia,by lia⟩ (by rw[zl];lia) ⟨c1,x1,rfl,b1⟩ (by lia) (by left;erw[hr]) (by left) (by erw[b7,l3,List.getElem?_cons_zero,List.getElem?_cons_succ,r8];left) (by
   rintro i hi b tm m ⟨c,x,rfl,hb⟩ hm hf
   obtain⟨r',c',x',hs0,hs1,h',e'⟩:=U2 l c x v (m+1) hb h0 h1
   refine⟨.int r',[.int c', .int x'],m+1,⟨c',x',rfl,h'⟩,⟨r',rfl,hs0,hs1⟩,by lia,by simp[y3], ?_⟩
   erw[b7,l3,List.getElem?_cons_zero,List.getElem?_cons_succ,r8]
   left
   rw[hv]
   left
   rw[e',V6 rfl rfl rfl (by left) hf]
   left)
 obtain⟨bs,rfl,hbs⟩:=zcT g2
 rw[z0m] at g1
 refine⟨bs,c3,x3,n',by lia,by lia,hbs,hb3,by lia, ?_⟩
 unfold drM
 rw[g6]
 left
 erw[hr]
theorem z8R(l:Nat)(c x:Int)(n:Nat)(h:Bg c x)(hn:l<n): ∃(w:Wo) (c' x':Int) (n':Nat),w.ok/\Bg c' x'/\n<=n'/\z0e [.lst l [.int c, .int x]] n= .ok w.d [.lst l [.int c', .int x']] n':=by
 obtain⟨r,c1,x1,hr0,hr1,b1,e1⟩:=U2 l c x 3 n h (by decide) (by decide)
 have hw: ∃(wide a b d e f g:Int),r/2=wide/\atI [D.int 2,D.int 40] wide=some (.int a)/\atI [D.int 2,D.int 6] wide=some (.int b)/\atI [D.int 3,D.int 1000] wide=some (.int d)/\atI [D.int 2,D.int 4] wide=some (.int e)/\atI [D.int 2,D.int 8] wide=some (.int f)/\atI [D.int 4,D.int 10000] wide=some (.int g)/\(0<a/\a<=40)/\(0<b/\b<=6)/\(0<d/\d<=1000)/\(0<e/\e<=4)/\(0<f/\f<=8)/\(0<g/\g<=10000):=by
  have:r/2=0\/r/2=1:=by lia
  rcases this with q|q
  ·exact⟨0,2,2,3,2,2,4,q,at0,at0,at0,at0,at0,at0,by decide⟩
  ·exact⟨1,40,6,1000,4,8,10000,q,at1,at1,at1,at1,at1,at1,by decide⟩
 obtain⟨wide,va,vb,vd,ve,vf,vg,hw,qa,qb,qd,qe,qf,qg,ha,hb,hd,he,hf,hg⟩:=hw
 obtain⟨s,c2,x2,n2,s1,s2,s3,b2,g2,e2⟩:=z8Q (a:=2) (b:=40) (a':=2) (b':=6) (wide:=wide) (l:=l) (n:=n) (r:=[none,none]) b1 hn qa qb ha.1 (by lia) hb.1 (by lia) (fun _=>rfl)
 obtain⟨g,c3,x3,n3,t1,t2,t3,b3,g3,e3⟩:=z8Q (a:=3) (b:=1000) (a':=2) (b':=4) (wide:=wide) (l:=l) (n:=n2+1) (r:=[some (.tup (iL s)),none]) b2 (by lia) qd qe hd.1 (by lia) he.1 (by lia) (fun _=>by erw[z0h,z3M,r6,L6,z65,z5n])
 obtain⟨k,c4,x4,hk0,hk1,b4,e4⟩:=U2 l c3 x3 vf (n3+1+1) b3 hf.1 (by lia)
 obtain⟨co,c5,x5,hc0,hc1,b5,e5⟩:=U2 l c4 x4 vg (n3+1+1+1) b4 hg.1 (by lia)
 refine⟨⟨s,g,k,co⟩,c5,x5,n3+1+1+1,⟨s1,by show s.length<=6;lia,fun i hi=>by have:=s3 i hi;lia,t1,by show g.length<=4;lia,fun i hi=>by have:=t3 i hi;lia,⟨hk0,by show k<=7;lia⟩,⟨hc0,by show co<=9999;lia⟩⟩,b5,by lia, ?_⟩
 unfold z0e
 have e0:z3K=(Q6 (U0 (.nm 1) (Z0 (Y1 Z3 [(y0 0),(mC (.int 3))]) (mC (.int 2)) z2U))
  (Q6 (U0 (.nm 2) (mCB [drM 2 40 2 6] z99))
  (Q6 (U0 (.nm 3) (mCB [drM 3 1000 2 4] z99))
  (X8 (mCB [(y0 2),(y0 3),(Y1 Z3 [(y0 0),(Z0 (mCB [(mC (.int 2)),(mC (.int 8))] lstM) (y0 1) ixD)]),(Y1 Z3 [(y0 0),(Z0 (mCB [(mC (.int 4)),(mC (.int 10000))] lstM) (y0 1) ixD)])] z2R))))):=rfl
 rw[e0]
 left
 rw[e1,V6 rfl rfl rfl (by left) (by left)]
 left
 rw[z8C z9k.two,hw]
 left
 rw[e2]
 left
 rw[e3]
 left
 rw[qf]
 left
 rw[e4,V6 rfl rfl rfl (by left;erw[z5n]) (by left;erw[z5n])]
 left
 erw[z5n]
 try (left)
 rw[qg]
 left
 rw[e5,V6 rfl rfl rfl (by left;erw[z5n]) (by left;erw[z5n])]
 left
 erw[z5n]
 rfl
structure Sm(E:PyData):Prop where
 a:PyData.leavesShort 64 E=true
 b:E.showable=true
 c:E.bulk<=40
 d:E.depth<=6
structure SmL(k:Nat)(xs:List PyData):Prop where
 a:PyData.leavesShortAll 64 xs=true
 b:PyData.showableAll xs=true
 c:PyData.bulkAll xs<=k*xs.length
 d:PyData.depthAll xs<=6
theorem smL{k:Nat}: ∀{es:List PyData},(∀e∈es,PyData.leavesShort 64 e=true/\e.showable=true/\e.bulk+1<=k/\e.depth<=6)->SmL k es
 |[],_=>⟨rfl,rfl,c8 _,C4 _⟩
 |e::es,h=>by
  have r:=smL (es:=es) fun x hx=>h x (by simp[hx])
  obtain⟨q1,q2,q3,q4⟩:=h e (by simp)
  have r3:=r.c
  have r4:=r.d
  refine⟨?_, ?_, ?_, ?_⟩
  ·erw[PyData.leavesShortAll,i6];exact⟨q1,r.a⟩
  ·erw[PyData.showableAll,i6];exact⟨q2,r.b⟩
  ·erw[PyData.bulkAll,i9];rw[Nat.mul_add,Nat.mul_one];lia
  ·erw[PyData.depthAll];lia
theorem z3k{i:Int}(h:i.natAbs<10^61):Sm (.int i):=by
 have e:(PyData.int i).shown.length<=64/\(PyData.int i).showable=true:=by
  constructor
  ·erw[PyData.shown]
   have:= @PySem.int_text_length_le10 i 61 (by decide) h
   rw[PySem.ofString_length];lia
  ·erw[PyData.showable,decide_eq_true_eq]
   by_cases h0:i.natAbs=0
   ·rw[h0];decide
   ·rw[Nat.log2_lt h0]
    exact l8 h (B0 (show 10^61<=2^203 by decide) (Nat.pow_le_pow_right (by decide) (by decide)))
 exact⟨by erw[PyData.leavesShort,decide_eq_true_eq];exact e.1,e.2,by simp[PyData.bulk],by simp[PyData.depth]⟩
theorem z8S(ds:List D):(erL ds).length=ds.length:=by
 induction ds with
 |nil=>rfl
 |cons d ds ih=>erw[erL,i9,ih]
theorem z2P(s:List Int):erL (iL s)=s.map .int:=by
 induction s with
 |nil=>rfl
 |cons i s ih=>erw[iL,b7,erL,er] at ih⊢;rw[ih]
theorem zb1{s:List Int}(h: ∀i∈s,0<=i/\i<=9999)(hl:s.length<=6):Sm (er (.tup (iL s))):=by
 rw[er,z2P]
 have q:=smL (k:=1) (es:=s.map .int) fun e he=>by
  obtain⟨i,hi,rfl⟩:=l7.mp he
  have b:=h i hi
  have z:=z3k (i:=i) (D3 (show i.natAbs<=9999 by lia) (by decide))
  exact⟨z.a,z.b,by simp[PyData.bulk],z.d⟩
 have d0:PyData.depthAll (s.map .int)=0:=by
  clear h hl q
  induction s with
  |nil=>rfl
  |cons i s ih=>erw[b7,PyData.depthAll,PyData.depth,ih];rfl
 refine⟨by erw[PyData.leavesShort];exact q.a,by erw[PyData.showable];exact q.b,by erw[PyData.bulk];have:=q.c;rw[n9] at this;lia,by erw[PyData.depth,d0];lia⟩
theorem zjf{w:Wo}(h:w.ok):Sm (er w.d):=by
 have l6:=h.s6
 have l4:=h.g4
 have a:=zb1 (s:=w.s) (fun i hi=>by have:=h.sb i hi;lia) (by lia)
 have b:=zb1 (s:=w.g) (fun i hi=>by have:=h.gb i hi;lia) (by lia)
 have c:=z3k (i:=w.k) (D3 (show w.k.natAbs<=9999 by have:=h.kb;lia) (by decide))
 have d:=z3k (i:=w.c) (D3 (show w.c.natAbs<=9999 by have:=h.cb;lia) (by decide))
 have ba:(er (.tup (iL w.s))).bulk<=6:=by
  rw[er,z2P]
  have q:=smL (k:=1) (es:=w.s.map .int) fun e he=>by
   obtain⟨i,hi,rfl⟩:=l7.mp he
   have b:=h.sb i hi
   have z:=z3k (i:=i) (D3 (show i.natAbs<=9999 by lia) (by decide))
   exact⟨z.a,z.b,by simp[PyData.bulk],z.d⟩
  erw[PyData.bulk];have:=q.c;rw[n9] at this;lia
 have bb:(er (.tup (iL w.g))).bulk<=4:=by
  rw[er,z2P]
  have q:=smL (k:=1) (es:=w.g.map .int) fun e he=>by
   obtain⟨i,hi,rfl⟩:=l7.mp he
   have b:=h.gb i hi
   have z:=z3k (i:=i) (D3 (show i.natAbs<=9999 by lia) (by decide))
   exact⟨z.a,z.b,by simp[PyData.bulk],z.d⟩
  erw[PyData.bulk];have:=q.c;rw[n9] at this;lia
 have dp:=(z6S h).2
 rw[show er w.d= .tuple [er (.tup (iL w.s)),er (.tup (iL w.g)), .int w.k, .int w.c] from rfl] at dp⊢
 have kc:(PyData.int w.k).bulk=0:=by simp[PyData.bulk]
 have kd:(PyData.int w.c).bulk=0:=by simp[PyData.bulk]
 generalize PyData.int w.k=K at*
 generalize PyData.int w.c=C at*
 exact⟨by erw[PyData.leavesShort,PyData.leavesShortAll,a.a,b.a,c.a,d.a,T2],by erw[PyData.showable,PyData.showableAll,a.b,b.b,c.b,d.b,T2],by erw[PyData.bulk,PyData.bulkAll];lia,by lia⟩
theorem z6V(a b:List D):plainL (a++b)=(plainL a&&plainL b):=by
 induction a with
 |nil=>rfl
 |cons d a ih=>erw[o0,plainL,ih,Bool.and_assoc]
theorem zfN{a:Str}{s:Stt}:neS (.str a) (.str a) s= .ok (.bool false) s:=by
 unfold neS rt
 simp
theorem z8T{N0 k:Nat}{r:List (Option D)}(h: ∀o∈r,UpO N0 o)(hk:N0<=k)(d:D):rpO (pl k d) r=r:=z3Q fun t ht=>U9 fun z=>by
 have:=h _ ht t rfl _ z;lia
theorem z5p{N0 l m:Nat}{ws:List Wo}{q:List D}{r:List (Option D)}(h: ∀o∈r,UpO N0 o)(hl:N0<=l)(hm:N0<=m)(hq:labsL q=[]):rpO (fun k=>findL k (Bk l m ws::q)) r=r:=z3Q fun t ht=>z1L hq (fun z=>by have:=h _ ht t rfl _ z;lia) (fun z=>by have:=h _ ht t rfl _ z;lia)
theorem zcU{l:Nat}{d:D}{s:Stt}(h:l∉y3 d):z6G "costs" J3 (.obj l "Book" [] []) d s= .nx (s.put l (.obj l "Book" ["costs"] [d])):=zfA ⟨by decide,by decide,h⟩
theorem zfO{l:Nat}{c:Str}{ks:List Str}{vs:List D}{d:D}:rp (pl l d) (.obj l c ks vs)=d:=by erw[rp,pl,if_true]
theorem zcV{l:Nat}:Y6 [.obj l "Book" [] []] (l+1)= .ok .non [Bk l (l+1) []] (l+2):=by
 unfold Y6 G6
 left
 have e: ∀s:Stt,z56 s= .ok (.dct s.n [] []) s.nxt:=fun _=>rfl
 rw[e]
 left
 rw[zcU (by simp[y3,labsL])]
 left
 erw[zfO]
 rfl
theorem zcW{σ tm:List (Option D)}{n:Nat}(h1:rpO (fun j=>findL j [Bk n (n+1) []]) σ=σ)(h2:rpO (fun j=>findL j [Bk n (n+1) []]) tm=tm):mkK "Book" Y6 [] ⟨σ,tm,n⟩= .ok (Bk n (n+1) []) ⟨σ,tm,n+2⟩:=by
 have e:z0N (Y6 [.obj n "Book" [] []] (n+1)) [.obj n "Book" [] []] ⟨σ,some (.obj n "Book" [] [])::tm,n+1⟩= .ok .non ⟨σ,some (Bk n (n+1) [])::tm,n+2⟩:=by
  rw[zcV,z1s]
  ·rw[h1,z64,h2,rp,show findL n [Bk n (n+1) []]=some (Bk n (n+1) []) by rw[findL,W0,if_pos rfl]]
  ·intro j hj
   erw[labsL,y3,h9,i4] at hj
   subst hj
   rw[findL,W0,if_pos rfl];rfl
  ·intro q
   injection q with q _
   injection q with _ _ q _
   cases q
 unfold mkK bd
 dsimp only[Stt.nxt,Stt.psh]
 rw[e]
 rfl
theorem zhU{a b:Int}(h:a<b):compare a b= .lt:=by simp[compare,compareOfLessAndEq,h]
theorem zhV{a:Int}:compare a a= .eq:=by simp[compare,compareOfLessAndEq]
theorem zhW{a b:Int}(h:b<a):compare a b= .gt:=by
 have h1: ¬a<b:=by lia
 have h2: ¬a=b:=by lia
 simp[compare,compareOfLessAndEq,h1,h2]
theorem z1b{α:Type}[Ord α]{x y:α}{xs ys:List α}:compare (x::xs) (y::ys)=(compare x y).then (compare xs ys):=List.compareLex_cons_cons
theorem z32(x y:Int):PyData.eqv (.int x) (.int y)=decide (x=y):=by
 erw[PyData.eqv];by_cases h:x=y<;>simp[h]
theorem z5q: ∀a b:List Int,So.ltL (a.map .int) (b.map .int)=some ((compare a b).isLT)
 |[],[]=>rfl
 |[],_::_=>rfl
 |_::_,[]=>rfl
 |x::a,y::b=>by
  have ih:=z5q a b
  erw[b7,So.ltL,z1b]
  rcases N2 x y with h|h|h
  ·rw[zhU h,if_neg (by rw[z32];simp;lia)];simp[So.ltD,h]
  ·subst h;rw[zhV,if_pos (by rw[z32];simp),ih];rfl
  ·rw[zhW h,if_neg (by rw[z32];simp;lia)];erw[So.ltD,Ordering.then]
   have: ¬x<y:=by lia
   simp[this]
theorem z0i: ∀a b:List Int,PyData.eqv (.tuple (a.map .int)) (.tuple (b.map .int))=decide (a=b):=by
 intro a
 erw[PyData.eqv]
 induction a with
 |nil=>intro b;cases b<;>rfl
 |cons x a ih=>
  intro b
  cases b with
  |nil=>rfl
  |cons y b=>erw[b7,PyData.eqvAll,PyData.eqv,ih b];by_cases h:x=y<;>simp[h]
noncomputable def Wo.ky(w:Wo):List (List Int):=[w.s,w.g,[w.k],[w.c]]
theorem Wo.ky_inj{v w:Wo}(h:v.ky=w.ky):v=w:=by
 cases v;cases w
 erw[Wo.ky,List.cons.injEq,and_true] at h
 erw[Wo.mk.injEq]
 exact h
theorem zit{α:Type}[Ord α][Std.LawfulEqOrd α]{x y:α}{o:Ordering}(h:x≠y):((compare x y).then o).isLT=(compare x y).isLT:=by
 cases e:compare x y with
 |lt=>rfl
 |gt=>rfl
 |eq=>exact absurd (Std.LawfulEqCmp.eq_of_compare e) h
theorem ziu{α:Type}[Ord α][Std.ReflOrd α]{x:α}{o:Ordering}:((compare x x).then o)=o:=by
 rw[Std.ReflCmp.compare_self (cmp:=compare)];rfl
theorem zhX(v w:Wo):So.ltD (er v.d) (er w.d)=some ((compare v.ky w.ky).isLT):=by
 rw[show er v.d= .tuple [.tuple (erL (iL v.s)), .tuple (erL (iL v.g)), .int v.k, .int v.c] from rfl,show er w.d= .tuple [.tuple (erL (iL w.s)), .tuple (erL (iL w.g)), .int w.k, .int w.c] from rfl]
 erw[z2P,So.ltD,So.ltL,Wo.ky]
 rw[z1b]
 by_cases h1:v.s=w.s
 ·rw[if_pos (by rw[z0i];simpa using h1),h1,ziu,z1b]
  by_cases h2:v.g=w.g
  ·rw[if_pos (by rw[z0i];simpa using h2),h2,ziu,z1b,z1b,z1b,z1b]
   have e0:compare ([]:List Int) []= .eq:=rfl
   have e1:compare ([]:List (List Int)) []= .eq:=rfl
   rw[e0,e1]
   rcases N2 v.k w.k with h|h|h
   ·rw[zhU h,if_neg (by rw[z32];simp;lia)];simp[h]
   ·rw[h,zhV,if_pos (by rw[z32];simp)]
    rcases N2 v.c w.c with h|h|h
    ·rw[zhU h,if_neg (by rw[z32];simp;lia)];simp[h]
    ·rw[h,zhV,if_pos (by rw[z32];simp)];rfl
    ·rw[zhW h,if_neg (by rw[z32];simp;lia)]
     have: ¬v.c<w.c:=by lia
     simp[this,Ordering.then]
   ·rw[zhW h,if_neg (by rw[z32];simp;lia)]
    have: ¬v.k<w.k:=by lia
    simp[this,Ordering.then]
  ·rw[if_neg (by rw[z0i];simpa using h2),zit h2,z5q]
 ·rw[if_neg (by rw[z0i];simpa using h1),zit h1,z5q]
noncomputable abbrev LeW(v w:Wo):Prop:=(compare v.ky w.ky).isLE=true
theorem LeW.anti{v w:Wo}(h1:LeW v w)(h2:LeW w v):v=w:=by
 apply Wo.ky_inj
 apply Std.LawfulEqCmp.eq_of_compare (cmp:=compare)
 unfold LeW at h1 h2
 rw[Std.OrientedCmp.eq_swap (cmp:=compare)] at h2
 revert h1 h2
 cases compare v.ky w.ky<;>simp[Ordering.swap]
theorem zal{as bs:List Wo}(h1:as.Pairwise LeW)(h2:bs.Pairwise LeW)(h:as.Perm bs):as=bs:=List.Perm.eq_of_pairwise (le:=LeW) (fun a b _ _ p q=>p.anti q) h1 h2 h
theorem zb2(ws:List Wo)(h:ws.length<64): ∃vs:List Wo,za1 (wsD ws)=wsD vs/\vs.Perm ws/\vs.Pairwise LeW:=zcg Wo.d Wo.ky ws h fun v _ w _=>zhX v w
theorem zb3{ws vs:List Wo}(h:Bks ws)(hp:vs.Perm ws)(ho:vs.Pairwise LeW):za1 (wsD ws)=wsD vs:=by
 obtain⟨us,e,p,o⟩:=zb2 ws (by have:=h.few;lia)
 rw[e,zal o ho (p.trans hp.symm)]
theorem Bks.perm{ws vs:List Wo}(h:Bks ws)(hp:vs.Perm ws):Bks vs:=⟨(hp.map Wo.key).nodup_iff.mpr h.nd,fun w hw=>h.ok w (hp.mem_iff.mp hw),by rw[hp.length_eq];exact h.few⟩
noncomputable def stC(w v:Wo):Wo:=if v.key=w.key then{v with c:=w.c} else v
theorem z8U{w v:Wo}:(stC w v).key=v.key:=by unfold stC;split<;>rfl
noncomputable def pw(ws:List Wo)(w:Wo):List Wo:=if has ws w.key=true then ws.map (stC w) else ws++[w]
theorem zcX{ws:List Wo}{w:Wo}(h:has ws w.key=true):(pw ws w).map Wo.key=ws.map Wo.key:=by
 unfold pw
 rw[if_pos h,F9]
 exact C7 fun v _=>z8U
theorem zhY{ws:List Wo}{w:Wo}(h:Bks ws)(hw:w.ok)(hl:ws.length<60):Bks (pw ws w):=by
 by_cases hh:has ws w.key=true
 ·refine⟨by rw[zcX hh];exact h.nd,fun v hv=> ?_, ?_⟩
  ·unfold pw at hv
   rw[if_pos hh] at hv
   obtain⟨u,hu,rfl⟩:=l7.mp hv
   have o:=h.ok u hu
   unfold stC
   split
   ·exact⟨o.s1,o.s6,o.sb,o.g1,o.g4,o.gb,o.kb,hw.cb⟩
   ·exact o
  ·unfold pw;rw[if_pos hh,n9];exact h.few
 ·unfold pw;rw[if_neg hh];exact h.snoc hw (D6.mpr hh) hl
theorem zfP{ws:List Wo}{w:Wo}:(pw ws w).length<=ws.length+1:=by
 unfold pw
 split
 ·simp
 ·simp
theorem zcY(ws:List Wo)(f:Wo->Wo)(hf: ∀v,(f v).key=v.key):ksW (ws.map f)=ksW ws:=by
 unfold ksW
 rw[F9]
 exact C7 fun v _=>by erw[Function.comp,hf]
theorem zb4(w:Wo): ∀ws:List Wo,vsW (ws.map (stC w))=C9 (fun d u=>if tkey d=some w.key then D.int w.c else u) (ksW ws) (vsW ws)
 |[]=>rfl
 |v::ws=>by
  have ih:=zb4 w ws
  erw[vsW,ksW,b7,C0,Q8,Option.some.injEq] at ih⊢
  rw[ih]
  congr 1
  unfold stC
  split<;>rfl
theorem zcZ{m:Nat}{ws:List Wo}{st:Stt}{w:Wo}(hl:ws.length<=100):z2s (Dw m ws) (kD w.s w.g w.k) (.int w.c) st= .nx (st.put m (Dw m (pw ws w))):=by
 by_cases h:has ws w.key=true
 ·rw[dk3]
  unfold z2s
  erw[Q8]
  rw[if_pos ⟨z3O ws,by rw[zl];erw[ksW,n9];lia,rfl,x6 ws⟩]
  unfold z88 z54 pw
  have h':has ws (nk3 w.s w.g w.k)=true:=h
  rw[zfH,h',if_pos h]
  erw[if_true]
  rw[Dw,zb4,zcY ws _ fun v=>z8U]
  rfl
 ·have e:pw ws w=ws++[w]:=by unfold pw;rw[if_neg h]
  rw[z8M (D6.mpr h) hl,e]
theorem zfQ{σ tm:List (Option D)}{n:Nat}:z56 ⟨σ,tm,n⟩= .ok (Dw n []) ⟨σ,tm,n+1⟩:=rfl
theorem zjg{a b c:Int}: ∃v:Int,(v=a\/v=b)/\atI [D.int a,D.int b] (if(c==5)=true then 1 else 0)=some (.int v):=by
 split
 ·exact⟨b, .inr rfl,at1⟩
 ·exact⟨a, .inl rfl,at0⟩
noncomputable def wdM:MS:=(Q6 (U0 (.nm 3) (Y1 z0e [(y0 0)])) (z82 (Z0 (y0 3) (mC (.int 3)) ixD) (y0 1) (mSl (y0 3) none (some (mC (.int 3)))) z2s))
theorem zfR(l:Nat)(c x:Int)(n:Nat)(h:Bg c x)(hn:l<n): ∃(vs:List Wo) (c' x':Int) (L n':Nat),Bks vs/\vs.Pairwise LeW/\Bg c' x'/\n<=L/\L<n'/\z0z [.lst l [.int c, .int x]] n= .ok (.lst L (wsD vs)) [.lst l [.int c', .int x']] n':=by
 obtain⟨k,c1,x1,k0,k1,b1,e1⟩:=U2 l c x 13 (n+1) h (by decide) (by decide)
 obtain⟨j,c2,x2,j0,j1,b2,e2⟩:=U2 l c1 x1 8 (n+1+1) b1 (by decide) (by decide)
 obtain⟨v,hv,ev⟩:=zjg (a:=k) (b:=60) (c:=j)
 have hv0:0<=v/\v<=60:=by lia
 have sD: ∀ws d,rp (pl l d) (Dw n ws)=Dw n ws:=fun ws d=>zhS (by lia)
 have sl: ∀d,rp (pl l d) (.lst (n+1) [.int k, .int 60])= .lst (n+1) [.int k, .int 60]:=fun d=>U9 (by simp[y3,labsL];lia)
 obtain⟨s',e3,c3,x3,ws,p2,p3,n3,rfl,b3,k3,hlen,g3,q3⟩:=z2M (P:=fun i s=> ∃(c x:Int) (ws:List Wo) (p2 p3:Option D) (n3:Nat),s=⟨[some (.lst l [.int c, .int x]),some (Dw n ws),p2,p3],[some (.lst l [.int c, .int x])],n3⟩/\Bg c x/\Bks ws/\ws.length<=i/\n<n3/\∀k d,p3.map (rp (pl k d))=p3) (lo:=0) (N:=v.toNat) (g:= .nm 2) (b:=wdM) (by
  rintro i hi s ⟨c,x,ws,p2,p3,n3,rfl,hb,hk,hl,g3,q3⟩
  refine⟨[some (.lst l [.int c, .int x]),some (Dw n ws),some (.int i),p3],by erw[I0];rfl, ?_⟩
  obtain⟨w,c',x',n',hw,hb',hn',e⟩:=z8R l c x n3 hb (by lia)
  have pD: ∀d,rp (pl n d) (Dw n ws)=d:=fun d=>by erw[rp,pl,if_true]
  have pb: ∀d (u v:Int),rp (pl n d) (.lst l [.int u, .int v])= .lst l [.int u, .int v]:=fun d u v=>U9 (by simp[y3,labsL];lia)
  refine⟨⟨[some (.lst l [.int c', .int x']),some (Dw n (pw ws w)),some (.int i),some w.d],[some (.lst l [.int c', .int x'])],n'⟩, ?_,c',x',pw ws w,some (.int i),some w.d,n',rfl,hb',zhY hk hw (by lia),by have:=zfP (ws:=ws) (w:=w);lia,by lia,fun k d=>by rw[r6,z9c]⟩
  unfold wdM
  left
  rw[e,J1 rfl rfl rfl (fun q=>by left;erw[sD,q3];rfl) (fun q=>by left;rfl)]
  left
  rw[x3W]
  left
  rw[slW]
  left
  rw[zcZ (by lia)]
  left
  erw[pD,pb,z9c]) v.toNat 0 ⟨[some (.lst l [.int c2, .int x2]),some (Dw n []),none,none],[some (.lst l [.int c2, .int x2])],n+1+1⟩ (by lia) ⟨c2,x2,[],none,none,n+1+1,rfl,b2,Bks.nil,by simp,by lia,fun _ _=>rfl⟩
 obtain⟨vs,ev',pv,ov⟩:=zb2 ws (by have:=k3.few;lia)
 refine⟨vs,c3,x3,n3+1,n3+1+1,k3.perm pv,ov,b3,by lia,by lia, ?_⟩
 unfold z0z
 have e0:z2I=(Q6 (U0 (.nm 1) z56)
  (Q6 (z3b (V4 [(Z0 (mCB [(Y1 Z3 [(y0 0),(mC (.int 13))]),(mC (.int 60))] lstM) (mCB [(Z0 (Y1 Z3 [(y0 0),(mC (.int 8))]) (mC (.int 5)) eqD)] zda) ixD)]) (.nm 2) wdM)
  (X8 (mCB [(bd (y0 1) zaN)] zaL)))):=rfl
 rw[e0]
 left
 rw[zfQ]
 left
 rw[e1,J1 rfl rfl rfl (fun q=>by left;erw[sD];rfl) (fun q=>by left;rfl)]
 left
 rw[e2,J1 rfl rfl rfl (fun q=>by left;erw[sD];rfl) (fun q=>by left;erw[sl];rfl)]
 left
 rw[ev]
 left
 rw[z2L ⟨by lia,by lia⟩]
 left
 rw[e3]
 left
 rw[zcM k3]
 left
 rw[zaX k3,ev']
 left
theorem UpO.of{k:Nat}{d:D}(h:Up k d):UpO k (some d):=fun x hx=>by cases hx;exact h
theorem UpO.mono{k m:Nat}{o:Option D}(h:UpO k o)(hk:k<=m):UpO m o:=fun d hd j hj=>l8 (h d hd j hj) hk
theorem z2Q(bs:List Int):labsL (iL bs)=[]:=by
 induction bs with
 |nil=>rfl
 |cons b bs ih=>erw[iL,b7,labsL,y3,m5] at ih⊢;exact ih
theorem z4I{w:Wo}:y3 w.d=[]:=by erw[Wo.d,y3,labsL,h9,z2Q]
theorem zjh{k:Nat}{w:Wo}:UpO k (some w.d):=UpO.of fun j hj=>by rw[z4I] at hj;cases hj
noncomputable def tD(T:List (List Int)):List D:=T.map fun s=>D.tup (iL s)
theorem zji(f:Nat->Option D)(T:List (List Int)):rpL f (tD T)=tD T:=by
 induction T with
 |nil=>rfl
 |cons s T ih=>erw[tD,b7,z0g,z65,z5n] at ih⊢;rw[ih]
theorem z0E(T:List (List Int)):labsL (tD T)=[]:=by
 induction T with
 |nil=>rfl
 |cons s T ih=>erw[tD,b7,labsL,y3,z2Q,m5] at ih⊢;exact ih
theorem x0W(w:Wo)(s:Stt):ixD w.d (.int 0) s= .ok (.tup (iL w.s)) s:=(rfl)
theorem x1W(w:Wo)(s:Stt):ixD w.d (.int 1) s= .ok (.tup (iL w.g)) s:=(rfl)
theorem x2W(w:Wo)(s:Stt):ixD w.d (.int 2) s= .ok (.int w.k) s:=(rfl)
theorem z1S(T:List (List Int)):(tD T).length=T.length:=by simp[tD]
theorem X6(vs:List Wo):(wsD vs).length=vs.length:=by simp[wsD]
theorem Q2(vs:List Wo):labsL (wsD vs)=[]:=by
 induction vs with
 |nil=>rfl
 |cons w vs ih=>erw[wsD,b7,labsL,z4I,m5] at ih⊢;exact ih
theorem zhZ(f:Nat->Option D)(vs:List Wo):rpL f (wsD vs)=wsD vs:=by
 induction vs with
 |nil=>rfl
 |cons w vs ih=>erw[wsD,b7,z0g,z9c] at ih⊢;rw[ih]
theorem z8V: ∀{a b:List Int},iL a=iL b->a=b
 |[],[],_=>rfl
 |[],_::_,h=>by simp[iL] at h
 |_::_,[],h=>by simp[iL] at h
 |x::a,y::b,h=>by
  erw[iL,b7,List.cons.injEq,D.int.injEq] at h
  rw[h.1,z8V h.2]
theorem Wo.d_inj{v w:Wo}(h:v.d=w.d):v=w:=by
 cases v;cases w
 erw[Wo.d,D.tup.injEq,List.cons.injEq,D.int.injEq,and_true] at h
 erw[Wo.mk.injEq]
 exact⟨z8V h.1,z8V h.2.1,h.2.2⟩
theorem Bks.sub{ws vs:List Wo}(h:Bks ws)(hs:vs.Sublist ws):Bks vs:=⟨h.nd.sublist (hs.map _),fun w hw=>h.ok w (hs.subset hw),B0 hs.length_le h.few⟩
theorem z6W{ws:List Wo}(h:Bks ws){l:Nat}:Gd (.lst l (wsD ws))/\(er (.lst l (wsD ws))).depth<=60:=by
 have tr: ∀d∈wsD ws,Tr d=true/\(er d).depth<=2:=fun d hd=>by
  obtain⟨w,hw,rfl⟩:=z0D h hd
  exact z6S hw
 have r:=zfG (n:=0) (k:=2) (l:=l) (C4 _) (show(wsD ws).length<=2000 by rw[X6];have:=h.few;lia) fun d hd=>⟨z5m d (tr d hd).1,(tr d hd).2⟩
 exact⟨z6R _ r.1,by have:=r.2;lia⟩
theorem zfS{S:List Int}(h:S.length<=24):Gd (.tup (iL S))/\(er (.tup (iL S))).depth<=60:=by
 have t:=zcN (k:=0) h
 exact⟨z6R (n:=0) _ (z5m _ t.1),by have:=t.2;lia⟩
theorem zjj{a b:List Int}(ha:a.length<=24)(hb:b.length<=24){s:Stt}:eqD (.tup (iL a)) (.tup (iL b)) s= .ok (.bool (decide (a=b))) s:=by
 have ga:=zfS ha
 have gb:=zfS hb
 rw[ziq (by erw[eqC,ga.1.1,gb.1.1,ga.1.2,gb.1.2,B8,decide_eq_true_eq];have:=ga.2;lia),er,er,z2P,z2P,z0i]
theorem z5r{mc:M D}{mt:M Bool}{b:Wo->Bool}{L:Nat}{vs:List Wo}{ix:List Nat}{s:Stt}{σ tm:List (Option D)}{n:Nat}(hc:mc s= .ok (.lst L (wsD vs)) ⟨σ,tm,n⟩)(hv:vs.length<=60)
 (hmt: ∀w∈vs,∀tm n,∃n',n<=n'/\mt ⟨some w.d::(ix.map fun i=>(σ[i]?).getD none),tm,n⟩= .ok (b w) ⟨some w.d::(ix.map fun i=>(σ[i]?).getD none),tm,n'⟩):
 ∃n',n<=n'/\j3 (J2 mc) (.nm 0) mt (y0 0) 1 ix s= .ok (.lst n' (wsD (vs.filter b))) ⟨σ,tm,n'+1⟩:=by
 classical
 have hp: ∀w∈vs,decide (∃v∈vs,w.d=v.d/\b v=true)=b w:=fun w hw=>by
  cases e:b w with
  |true=>exact decide_eq_true ⟨w,hw,rfl,e⟩
  |false=>
   refine decide_eq_false fun⟨v,_,hd,hb⟩=> ?_
   rw[<-Wo.d_inj hd,e] at hb;cases hb
 obtain⟨n',h1,e⟩:=z6P (mc:=mc) (mt:=mt) (me:=y0 0) (p:=fun d=>decide (∃v∈vs,d=v.d/\b v=true)) (g:=id) (l:=L) (ds:=wsD vs) (ix:=ix) hc (by rw[zl,X6];lia) (fun d hd tm n=>by
  obtain⟨w,hw,rfl⟩:=l7.mp hd
  rw[hp w hw]
  exact hmt w hw tm n) (fun d hd _ tm n=>⟨n,c8 _,rfl⟩)
 refine⟨n',h1, ?_⟩
 rw[e,List.map_id]
 congr 2
 unfold wsD
 rw[List.filter_map]
 congr 1
 refine R4 fun w hw=> ?_
 exact hp w hw
theorem zb5{S:List Int}{l:Nat}:z6Y S none (some (l:Int))=S.take l:=by
 unfold z6Y
 rw[HT.sIx_nat,HT.sIx_none,F7,Nat.sub_zero]
 rcases Nat.le_total l S.length with h|h
 ·rw[Nat.min_eq_left h]
 ·rw[Nat.min_eq_right h,F8 h,F8 (c8 _)]
noncomputable def bgB(B:List Int)(w:Wo):Bool:=decide (w.s.take B.length=B)
noncomputable def pr2(p:Int×Int):D:= .tup [.int p.1, .int p.2]
noncomputable def eq2:D->D
 | .tup [.int a, .int b]=> .bool (a==b)
 |_=> .non
noncomputable def sl2:D->List (Option D)
 | .tup [a,b]=>[some a,some b]
 |_=>[]
theorem zb6: ∀(a b:List Int) (i:Nat),zch i (iL a) (iL b)=((a.zip b).map pr2)[i]?
 |[],b,i=>by simp[zch,iL]
 |x::a,[],i=>by erw[zch,iL,l3,List.getElem?_nil,P7];split<;>simp_all
 |x::a,y::b,0=>rfl
 |x::a,y::b,i+1=>by
  have ih:=zb6 a b i
  erw[zch,iL,b7,List.getElem?_cons_succ,F4] at ih⊢
  exact ih
theorem z8W(a b:List Int):V3 (((a.zip b).map pr2).map eq2)=some ((a.zip b).map fun p=>p.1==p.2):=by
 generalize a.zip b=l
 induction l with
 |nil=>rfl
 |cons p l ih=>erw[b7,V3,pr2,eq2] at ih⊢;rw[ih];rfl
theorem z8X: ∀{a b:List Int},b.length<=a.length->((a.zip b).map fun p=>p.1==p.2).all id=decide (a.take b.length=b)
 |a,[],_=>by simp
 |[],y::b,h=>by simp at h
 |x::a,y::b,h=>by
  have ih:=z8X (a:=a) (b:=b) (by simpa using h)
  erw[F4,b7,List.all_cons,ih,i9,D8,List.cons.injEq,id]
  by_cases e:x=y<;>simp[e]
theorem zfT(s B:List Int)(hs:s.length<=24)(hB:B.length<=24)(n:Nat): ∃n',n<=n'/\G5 [.tup (iL s), .tup (iL B)] n= .ok (.bool (decide (s.take B.length=B))) [.tup (iL s), .tup (iL B)] n':=by
 by_cases hl:s.length<B.length
 ·refine⟨n,c8 _, ?_⟩
  have e:decide (s.take B.length=B)=false:=decide_eq_false fun z=>by
   have:=congrArg S2 z
   rw[D0] at this
   lia
  rw[e]
  unfold G5 z0K
  left
  rw[z0m,z0m,show decide ((s.length:Int)<(B.length:Int))=true by simp;lia]
  left
 ·obtain⟨n',h1,e⟩:=z6b (mi:=zf6 [(y0 0),(y0 1)]) (K:=zgg) (tg:= .tp [(.nm 0),(.nm 1)]) (me:=Z0 (y0 0) (y0 1) eqD) (g:=eq2) (sl:=sl2) (k:=2) (items:=(s.zip B).map pr2) (its:=[some (.tup (iL B)),some (.tup (iL s))]) (ix:=[]) (s:=⟨[some (.tup (iL s)),some (.tup (iL B))],[some (.tup (iL s)),some (.tup (iL B))],n⟩) (σ:=[some (.tup (iL s)),some (.tup (iL B))]) (tm:=[some (.tup (iL s)),some (.tup (iL B))]) (n:=n) rfl rfl (by rw[zl];simp;lia) (fun i rest=>by
   show some (zch i (iL s) (iL B))=_
   rw[zb6]) (by
   show min (iL s).length (iL B).length=_
   rw[z0m,z0m];simp) (fun d hd=>by
   obtain⟨p,_,rfl⟩:=l7.mp hd
   refine⟨rfl,fun os ho=> ?_⟩
   match os,ho with
   |[a0,a1],_=>rfl) (fun d hd tm n=>by
   obtain⟨p,_,rfl⟩:=l7.mp hd
   refine⟨n,c8 _, ?_⟩
   erw[l3,h9,pr2,sl2,eq2]
   left)
  refine⟨n'+1,by lia, ?_⟩
  unfold G5 z0K
  left
  rw[z0m,z0m,show decide ((s.length:Int)<(B.length:Int))=false by simp;lia]
  left
  rw[e]
  left
  rw[zcD (z8W s B),z8X (by lia)]
  left
theorem zb7(l m:Nat)(ws vs:List Wo)(h:Bks ws)(hp:vs.Perm ws)(ho:vs.Pairwise LeW)(B:List Int)(hB:B.length<=24)(n:Nat): ∃N n',n<=N/\N<n'/\Y7 [Bk l m ws, .tup (iL B)] n= .ok (.lst N (wsD (vs.filter (bgB B)))) [Bk l m ws, .tup (iL B)] n':=by
 have hv:=h.perm hp
 obtain⟨N,h1,e⟩:=z5r (mc:=z2u "Book" "words" W6 (y0 0) []) (mt:=X0 (Z0 (mSl (Z0 (y0 0) (mC (.int 0)) ixD) none (some (mCB [(y0 1)] z1A))) (y0 1) eqD)) (b:=bgB B) (L:=n+1) (vs:=vs) (ix:=[1]) (s:=⟨[some (Bk l m ws),some (.tup (iL B))],[some (Bk l m ws),some (.tup (iL B))],n⟩) (σ:=[some (Bk l m ws),some (.tup (iL B))]) (tm:=[some (Bk l m ws),some (.tup (iL B))]) (n:=n+1+1) (by
  left
  rw[zfL]
  left
  rw[z67 l m ws h,zb3 h hp ho]
  left) hv.few (fun w hw tm n=>by
  refine⟨n,c8 _, ?_⟩
  erw[b7,l3,List.getElem?_cons_zero,List.getElem?_cons_succ,r8]
  have l6:=(hv.ok w hw).s6
  left
  rw[x0W]
  left
  rw[z0m,zb0,zb5,zjj (by simp;lia) (by lia)]
  left
  rfl)
 refine⟨N,N+1,by lia,by lia, ?_⟩
 unfold Y7 X4
 left
 rw[e]
 left
theorem zfU{l m:Nat}{ws:List Wo}:objC "Book" "begun" (Bk l m ws)=true:=by erw[objC];decide
noncomputable def inM:MS:=(Q6 (U0 (.nm 6) (z2u "Book" "begun" Y7 (y0 0) [(y0 3)]))
 (Q6 (sIf (mOr (z1z (J4 (Y1 G0 [(y0 6)]))) (X0 (Z0 (y0 6) (y0 4) neD))) (X8 (mC (.bool false))) sNx)
 (z0o (z1B (y0 6) [(mC .non)] z81))))
noncomputable def plM:MS:=(Q6 (U0 (.nm 4) (j3 (J2 (y0 1)) (.nm 0) (J4 (Y1 G5 [(Z0 (y0 0) (mC (.int 0)) ixD),(y0 1)])) (y0 0) 1 [3]))
 (z3b (V4 [(mC (.int 2))]) (.nm 5) inM))
theorem zi0(l m L Z n:Nat)(ws vs:List Wo)(h:Bks ws)(hp:vs.Perm ws)(ho:vs.Pairwise LeW)(T:List (List Int))(B:List Int)(hB:B.length<=24)(D5:Nat)(a6:Int)(o7:Option D)(hl:l<n)(hm:m<n)(hL:L<n)(hZ:Z<n)(h5:D5<n):
 ∃p7 n',n<=n'/\inM ⟨[some (Bk l m ws),some (.lst L (wsD vs)),some (.lst Z (tD T)),some (.tup (iL B)),some (.lst D5 (wsD (vs.filter (bgB B)))),some (.int a6),o7],[some (.lst Z (tD T)),some (Bk l m ws),some (.lst L (wsD vs)),some (.lst Z (tD T))],n⟩= .nx ⟨[some (Bk l m ws),some (.lst L (wsD vs)),some (.lst Z (tD T)),some (.tup (iL B)),some (.lst D5 (wsD (vs.filter (bgB B)))),some (.int a6),p7],[some (.lst Z (tD T)),some (Bk l m ws),some (.lst L (wsD vs)),some (.lst Z (tD T))],n'⟩:=by
 have hf:Bks (vs.filter (bgB B)):=(h.perm hp).sub D9
 obtain⟨N,n1,g1,g2,e1⟩:=zb7 l m ws vs h hp ho B hB n
 obtain⟨n2,g3,e2⟩:=zfM N (wsD (vs.filter (bgB B))) (fun d hd=>z0D hf hd) n1
 have gd:=fun l=>z6W (l:=l) hf
 have ne1: ∀s:Stt,neD (.lst N (wsD (vs.filter (bgB B)))) (.lst D5 (wsD (vs.filter (bgB B)))) s= .ok (.bool false) s:=fun s=>z8J (gd N).1 (gd D5).1 rfl (gd D5).2
 have fB: ∀d,rp (pl N d) (Bk l m ws)=Bk l m ws:=fun d=>z6U (by lia) (by lia)
 have fw: ∀d k us,k≠N->rp (pl N d) (.lst k (wsD us))= .lst k (wsD us):=fun d k us hk=>by rw[zcI hk,zhZ]
 have x1:=fun d=>fw d L vs (by lia)
 have x5:=fun d=>fw d D5 (vs.filter (bgB B)) (by lia)
 have x2: ∀d,rp (pl N d) (.lst Z (tD T))= .lst Z (tD T):=fun d=>by rw[zcI (by lia),zji]
 refine⟨some (.lst N (wsD (vs.filter (bgB B))++[D.non])),n2,by lia, ?_⟩
 unfold inM
 left
 rw[zfU]
 left
 rw[e1]
 left
 rw[e2]
 left
 rw[ne1]
 left
 rw[zcF ⟨by rw[zl,X6];have:=hf.few;lia,by simp[y3]⟩]
 left
 erw[fB,x1,x2,x5,z5n]
theorem z8Y(l m L Z n:Nat)(ws vs:List Wo)(h:Bks ws)(hp:vs.Perm ws)(ho:vs.Pairwise LeW)(T:List (List Int))(hT: ∀B∈T,B.length<=24)(hl:l<n)(hm:m<n)(hL:L<n)(hZ:Z<n): ∃n',n<=n'/\G1 [Bk l m ws, .lst L (wsD vs), .lst Z (tD T)] n= .ok (.bool true) [Bk l m ws, .lst L (wsD vs), .lst Z (tD T)] n':=by
 obtain⟨s',e3,o3,o4,o5,o6,n3,rfl,g3⟩:=z2O (K:=z3a) (g:= .nm 3) (b:=plM) (item:=fun i=>(tD T).getD i .non) (N:=T.length) (P:=fun _ s=> ∃(o3 o4 o5 o6:Option D) (n3:Nat),s=⟨[some (Bk l m ws),some (.lst L (wsD vs)),some (.lst Z (tD T)),o3,o4,o5,o6],[some (.lst Z (tD T)),some (Bk l m ws),some (.lst L (wsD vs)),some (.lst Z (tD T))],n3⟩/\n<=n3)
  (by rintro i s ⟨_,_,_,_,_,rfl,_⟩;rw[z6a,z1S])
  (by
   rintro p hpl s ⟨o3,o4,o5,o6,n3,rfl,g3⟩
   have hB:=hT T[p] (p9 hpl)
   rw[show(tD T).getD p .non= .tup (iL T[p]) by simp[tD,hpl]]
   generalize T[p]=B at hB
   refine⟨[some (Bk l m ws),some (.lst L (wsD vs)),some (.lst Z (tD T)),some (.tup (iL B)),o4,o5,o6],rfl, ?_⟩
   have hv:=h.perm hp
   obtain⟨N,h1,e⟩:=z5r (mc:=y0 1) (mt:=J4 (Y1 G5 [(Z0 (y0 0) (mC (.int 0)) ixD),(y0 1)])) (b:=bgB B) (L:=L) (vs:=vs) (ix:=[3]) (s:=⟨[some (Bk l m ws),some (.lst L (wsD vs)),some (.lst Z (tD T)),some (.tup (iL B)),o4,o5,o6],[some (.lst Z (tD T)),some (Bk l m ws),some (.lst L (wsD vs)),some (.lst Z (tD T))],n3⟩) (σ:=[some (Bk l m ws),some (.lst L (wsD vs)),some (.lst Z (tD T)),some (.tup (iL B)),o4,o5,o6]) (tm:=[some (.lst Z (tD T)),some (Bk l m ws),some (.lst L (wsD vs)),some (.lst Z (tD T))]) (n:=n3) rfl hv.few (fun w hw tm n=>by
    have l6:=(hv.ok w hw).s6
    obtain⟨n',g,eb⟩:=zfT w.s B (by lia) hB n
    refine⟨n',g, ?_⟩
    erw[b7,l3,List.getElem?_cons_zero,List.getElem?_cons_succ,r8]
    left
    rw[x0W]
    left
    rw[eb]
    left
    rfl)
   obtain⟨s',e4,p6,p7,n4,rfl,g4⟩:=z2M (P:=fun _ s=> ∃(p6 p7:Option D) (n4:Nat),s=⟨[some (Bk l m ws),some (.lst L (wsD vs)),some (.lst Z (tD T)),some (.tup (iL B)),some (.lst N (wsD (vs.filter (bgB B)))),p6,p7],[some (.lst Z (tD T)),some (Bk l m ws),some (.lst L (wsD vs)),some (.lst Z (tD T))],n4⟩/\N<n4) (lo:=0) (N:=2) (g:= .nm 5) (b:=inM) (by
    rintro i hi s ⟨p6,p7,n4,rfl,g4⟩
    refine⟨_,rfl, ?_⟩
    obtain⟨z7,n5,g5,e5⟩:=zi0 l m L Z n4 ws vs h hp ho T B hB N (0+(i:Int)) p7 (by lia) (by lia) (by lia) (by lia) (by lia)
    exact⟨_,e5,_,z7,n5,rfl,by lia⟩) 2 0 ⟨[some (Bk l m ws),some (.lst L (wsD vs)),some (.lst Z (tD T)),some (.tup (iL B)),some (.lst N (wsD (vs.filter (bgB B)))),o5,o6],[some (.lst Z (tD T)),some (Bk l m ws),some (.lst L (wsD vs)),some (.lst Z (tD T))],N+1⟩ (by lia) ⟨o5,o6,N+1,rfl,by lia⟩
   refine⟨_, ?_,some (.tup (iL B)),some (.lst N (wsD (vs.filter (bgB B)))),p6,p7,n4,rfl,by lia⟩
   unfold plM
   left
   rw[e]
   left
   rw[z2L ⟨by decide,by decide⟩]
   left
   rw[show Int.toNat 2=2 from rfl,e4])
  T.length 0 ⟨[some (Bk l m ws),some (.lst L (wsD vs)),some (.lst Z (tD T)),none,none,none,none],[some (.lst Z (tD T)),some (Bk l m ws),some (.lst L (wsD vs)),some (.lst Z (tD T))],n⟩ (by lia) ⟨none,none,none,none,n,rfl,c8 _⟩
 rw[zaj,zai] at e3
 refine⟨n3,by lia, ?_⟩
 unfold G1
 have e0:z2J=(Q6 (z3b (J2 (y0 2)) (.nm 3) plM) (X8 (mC (.bool true)))):=rfl
 rw[e0]
 left
 rw[z66 (show y0 2 ⟨[some (Bk l m ws),some (.lst L (wsD vs)),some (.lst Z (tD T)),none,none,none,none],[some (Bk l m ws),some (.lst L (wsD vs)),some (.lst Z (tD T))],n⟩= .ok (.lst Z (tD T)) ⟨[some (Bk l m ws),some (.lst L (wsD vs)),some (.lst Z (tD T)),none,none,none,none],[some (Bk l m ws),some (.lst L (wsD vs)),some (.lst Z (tD T))],n⟩ from rfl)]
 left
 rw[show z3a.len [some (.lst Z (tD T)),some (Bk l m ws),some (.lst L (wsD vs)),some (.lst Z (tD T))]=T.length by show(tD T).length=_;rw[z1S],e3]
 left
theorem z6X{K:ItK}{me:M D}{PL:Nat->List D->Prop}{items:List D}{its fr σ0 tm0:List (Option D)}{ol:Nat}(hk:its.length=K.k)(hol:σ0.length=ol)(hz:items.length<sizeLine)(hat: ∀i rest,K.at' i (its++rest)=some items[i]?)
 (hme: ∀(acc:List D) (hi:acc.length<items.length) tm n,PL n acc->∃y n',PL n' (acc++[y])/\me ⟨some items[acc.length]::fr,tm,n⟩= .ok y ⟨some items[acc.length]::fr,tm,n'⟩):
 ∀(f:Nat) (acc:List D) (o:Option D) (n:Nat),acc.length+f=items.length->PL n acc->∃ys n',ys.length=items.length/\PL n' ys/\J6 K (.nm 0) (rt true) me ol f acc.length acc.length ⟨o::fr,(acc.reverse.map some)++(σ0++(its++tm0)),n⟩= .ok (.lst n' ys) ⟨σ0,tm0,n'+1⟩:=by
 intro f
 induction f with
 |zero=>
  intro acc o n hi hq
  have hi:acc.length=items.length:=by lia
  have l1:(acc.reverse.map some).length=acc.length:=by simp
  have e1:((acc.reverse.map some)++(σ0++(its++tm0))).drop (acc.length+ol)=its++tm0:=by
   rw[<-m9];exact W8 _ _ _ (by simp[hol])
  refine⟨acc,n,by lia,hq, ?_⟩
  unfold J6
  erw[e1,hat,List.getElem?_eq_none (show items.length<=acc.length by lia)]
  rw[G9 _ _ _ l1]
  have e2:(acc.reverse.map some).reverse=acc.map some:=by simp
  rw[e2,G7]
  erw[Res.ok.injEq,Stt.mk.injEq,and_true,true_and]
  constructor
  ·rw[W8 _ _ _ l1,G9 _ _ _ hol]
  ·have:((acc.reverse.map some)++(σ0++(its++tm0))).drop (acc.length+ol+K.k)=(((acc.reverse.map some)++(σ0++(its++tm0))).drop (acc.length+ol)).drop K.k:=by rw[D2]
   rw[this,e1]
   exact W8 _ _ _ hk
 |succ f ih=>
  intro acc o n hi hq
  have hlt:acc.length<items.length:=by lia
  have e1:((acc.reverse.map some)++(σ0++(its++tm0))).drop (acc.length+ol)=its++tm0:=by
   rw[<-m9];exact W8 _ _ _ (by simp[hol])
  obtain⟨y,n1,q1,h2⟩:=hme acc hlt ((acc.reverse.map some)++(σ0++(its++tm0))) n hq
  obtain⟨ys,n2,g0,g1,h3⟩:=ih (acc++[y]) (some items[acc.length]) n1 (by simp;lia) q1
  refine⟨ys,n2,g0,g1, ?_⟩
  unfold J6
  erw[e1,hat,List.getElem?_eq_getElem hlt,asg,A6,rt,if_pos (show acc.length<sizeLine by lia),h2]
  erw[m8,i9,t9,E7,C8,A2,B4,m5,B6,b7,l3,o0,m9] at h3
  erw[Stt.psh]
  exact h3
theorem z8Z{mi:M ItK}{K:ItK}{me:M D}{PL:Nat->List D->Prop}{items:List D}{its:List (Option D)}{ix:List Nat}{s:Stt}{σ tm:List (Option D)}{n:Nat}(hc:mi s= .ok K ⟨σ,its++tm,n⟩)(hk:its.length=K.k)(hz:items.length<sizeLine)(hat: ∀i rest,K.at' i (its++rest)=some items[i]?)(hlen:K.len (its++tm)=items.length)(h0:PL n [])
 (hme: ∀(acc:List D) (hi:acc.length<items.length) tm m,PL m acc->∃y n',PL n' (acc++[y])/\me ⟨some items[acc.length]::(ix.map fun i=>(σ[i]?).getD none),tm,m⟩= .ok y ⟨some items[acc.length]::(ix.map fun i=>(σ[i]?).getD none),tm,n'⟩):
 ∃ys n',ys.length=items.length/\PL n' ys/\j3 mi (.nm 0) (rt true) me 1 ix s= .ok (.lst n' ys) ⟨σ,tm,n'+1⟩:=by
 obtain⟨ys,n',g0,g1,h3⟩:=z6X (K:=K) (me:=me) (PL:=PL) (σ0:=σ) (tm0:=tm) hk rfl hz hat hme items.length [] none n (by simp) h0
 refine⟨ys,n',g0,g1, ?_⟩
 unfold j3
 erw[bd,hc,hlen]
 erw[l3,B4,m5,t9] at h3
 exact h3
noncomputable def rmW(ws:List Wo)(k:NK):List Wo:=ws.filter fun w=>decide (w.key≠k)
theorem z6c(k:NK): ∀ws:List Wo,z3g (ksW ws) k=ksW (rmW ws k)
 |[]=>rfl
 |w::ws=>by
  have ih:=z6c k ws
  erw[z3g,ksW,rmW,b7] at ih⊢
  by_cases h:w.key=k
  ·rw[A3 (by simp[Q8,h]),A3 (by simp[h]),ih]
  ·rw[A9 (by simp[Q8,h]),A9 (by simp[h]),ih,b7]
theorem z6d(k:NK): ∀ws:List Wo,K2 (ksW ws) (vsW ws) k=vsW (rmW ws k)
 |[]=>rfl
 |w::ws=>by
  have ih:=z6d k ws
  erw[ksW,vsW,rmW,b7,K2,Q8,Option.some.injEq] at ih⊢
  by_cases h:w.key=k
  ·rw[if_pos h,A3 (by simp[h]),ih]
  ·rw[if_neg h,A9 (by simp[h]),ih,b7]
theorem zd0{m:Nat}{ws:List Wo}{s g:List Int}{k:Int}{st:Stt}:z6F (kD s g k) (Dw m ws) st= .ok (.bool (!has ws (nk3 s g k))) st:=by
 rw[dk3]
 unfold z6F
 erw[rdD,if_pos (z3O ws),Q8,z4H,E4,z3P]
 rfl
theorem zfV{m:Nat}{ws:List Wo}{s g:List Int}{k:Int}{st:Stt}(h:has ws (nk3 s g k)=true): ∃c:Int,zaR (Dw m ws) (kD s g k) st= .ok (.int c) (st.put m (Dw m (rmW ws (nk3 s g k)))):=by
 rw[<-z3P] at h
 cases e:fnd ws (nk3 s g k) with
 |none=>rw[e] at h;cases h
 |some c=>
  refine⟨c, ?_⟩
  rw[dk3]
  erw[zaR,Q8,z4H,e,r6]
  rw[if_pos ⟨z3O ws,x6 ws⟩,z6c,z6d]
theorem zd1{ws:List Wo}{w:Wo}(h:w∈ws):has ws w.key=true:=L0.mpr ⟨w,h,by simp⟩
theorem zam{us:List Wo}(hn:(us.map Wo.key).Nodup){i:Nat}(hi:i<us.length):has (us.take i) us[i].key=false:=by
 apply D6.mpr
 intro z
 obtain⟨v,hv,ev⟩:=L0.mp z
 have ev:=of_decide_eq_true ev
 obtain⟨j,hj,rfl⟩:=L3.mp hv
 rw[D0] at hj
 rw[List.getElem_take] at ev
 have q:=(M9.mp hn)
 rw[F0] at q
 have:=q j i (by simp;lia) (by simpa using hi) (by lia)
 rw[D1,D1] at this
 exact this ev
theorem z5s{ws:List Wo}{w:Wo}(h:Bks ws)(hw:w∈ws):(rmW ws w.key++[w]).Perm ws:=by
 obtain⟨a,b,rfl⟩:=List.append_of_mem hw
 have hn:=h.nd
 rw[B6,b7] at hn
 obtain⟨_,n2,n3⟩:=N1.mp hn
 have n2:=B3.mp n2
 have ea:rmW a w.key=a:=F1.mpr fun v hv=>by
  erw[ne_eq,decide_not,E5,decide_eq_false_iff_not]
  exact fun z=>n3 _ (l7.mpr ⟨v,hv,rfl⟩) _ (by rw[z];exact i3 ..) rfl
 have eb:rmW b w.key=b:=F1.mpr fun v hv=>by
  erw[ne_eq,decide_not,E5,decide_eq_false_iff_not]
  exact fun z=>n2.1 (by rw[<-z];exact l7.mpr ⟨v,hv,rfl⟩)
 have e:rmW (a++w::b) w.key=a++b:=by
  unfold rmW at ea eb⊢
  rw[List.filter_append,A3 (by simp),ea,eb]
 rw[e,m9]
 exact List.Perm.append_left a List.perm_append_comm
theorem zfW{l m:Nat}{ws:List Wo}:objC "Book" "put" (Bk l m ws)=true:=by erw[objC];decide
theorem zi1{l m:Nat}{ws:List Wo}:objC "Book" "take" (Bk l m ws)=true:=by erw[objC];decide
noncomputable def hD(ps:List (Nat×List Wo)):List D:=ps.map fun p=>D.lst p.1 (wsD p.2)
noncomputable def h7(ps:List (Nat×List Wo)):List D:=ps.map fun p=>D.lst p.1 (wsD p.2++[.int 7])
noncomputable def mix:Nat->List (Nat×List Wo)->List D
 |0,ps=>hD ps
 |_+1,[]=>[]
 |i+1,p::ps=>D.lst p.1 (wsD p.2++[.int 7])::mix i ps
theorem z90: ∀(i:Nat) (ps:List (Nat×List Wo)),(mix i ps).length=ps.length
 |0,ps=>by simp[mix,hD]
 |i+1,[]=>rfl
 |i+1,p::ps=>by simp[mix,z90 i ps]
theorem z3R: ∀(ps:List (Nat×List Wo)),mix ps.length ps=h7 ps
 |[]=>rfl
 |p::ps=>by erw[i9,mix,z3R ps,h7,b7]
theorem zb8: ∀(i:Nat) (ps:List (Nat×List Wo)) (h:i<ps.length),(mix i ps).getD i .non=D.lst ps[i].1 (wsD ps[i].2)
 |0,p::ps,_=>by simp[mix,hD]
 |i+1,p::ps,h=>by
  have:=zb8 i ps (by simpa using h)
  erw[mix,List.getD_cons_succ,this,O1]
theorem z3S{k N:Nat}{d:D}{xs:List D}(h:k≠N)(hx:labsL xs=[]):rp (pl N d) (.lst k xs)= .lst k xs:=U9 (by erw[y3,hx,i4];exact fun z=>h z.symm)
theorem zfX{N:Nat}{d:D}{xs:List D}:rp (pl N d) (.lst N xs)=d:=by erw[rp,pl,if_true]
theorem z5t(us:List Wo):labsL (wsD us++[.int 7])=[]:=by rw[show labsL (wsD us++[.int 7])=labsL (wsD us)++labsL [.int 7] from z1r _ _,Q2];rfl
theorem z1t: ∀(i:Nat) (ps:List (Nat×List Wo)),labsL (mix i ps)=ps.map (·.1)
 |0,[]=>rfl
 |0,p::ps=>by
  have ih:=z1t 0 ps
  erw[mix,hD,b7,labsL,y3,Q2,o0,m5] at ih⊢
  rw[ih]
 |i+1,[]=>rfl
 |i+1,p::ps=>by erw[mix,labsL,y3,z5t,z1t i ps,b7,o0,m5]
theorem zb9: ∀(i:Nat) (ps:List (Nat×List Wo)) (h:i<ps.length),(ps.map (·.1)).Nodup->rpL (pl ps[i].1 (.lst ps[i].1 (wsD ps[i].2++[.int 7]))) (mix i ps)=mix (i+1) ps
 |0,p::ps,_,hn=>by
  have hn:=B3.mp (show(p.1::ps.map (·.1)).Nodup from hn)
  have e:mix 0 (p::ps)= .lst p.1 (wsD p.2)::mix 0 ps:=rfl
  have e':mix (0+1) (p::ps)= .lst p.1 (wsD p.2++[.int 7])::mix 0 ps:=rfl
  rw[e,e',z0g]
  erw[List.getElem_cons_zero]
  rw[zfX,rpL_id _ fun j hj=>by
   rw[z1t] at hj
   erw[pl]
   rw[if_neg]
   rintro rfl
   exact hn.1 hj]
 |i+1,p::ps,h,hn=>by
  have hn:=B3.mp (show(p.1::ps.map (·.1)).Nodup from hn)
  have ih:=zb9 i ps (by simpa using h) hn.2
  have e:mix (i+1+1) (p::ps)= .lst p.1 (wsD p.2++[.int 7])::mix (i+1) ps:=rfl
  rw[e]
  erw[mix,z0g,O1]
  rw[ih,z3S (fun z=>hn.1 (by rw[z];exact l7.mpr ⟨_,p9 _,rfl⟩)) (z5t _)]
structure Hk(lo hi:Nat)(ps:List (Nat×List Wo)):Prop where
 nd:(ps.map (·.1)).Nodup
 lb: ∀p∈ps,lo<=p.1/\p.1<hi
 ok: ∀p∈ps,Bks p.2
theorem zan(l m:Nat)(hlm:l≠m)(ws:List Wo)(s g:List Int)(k:Int)(hh:has ws (nk3 s g k)=true)(n:Nat):j9 [Bk l m ws, .tup (iL s), .tup (iL g), .int k] n= .ok .non [Bk l m (rmW ws (nk3 s g k)), .tup (iL s), .tup (iL g), .int k] n:=by
 unfold j9 V5
 left
 rw[show D.tup [.tup (iL s), .tup (iL g), .int k]=kD s g k from rfl,zd0,hh]
 left
 have e: ∀(tm:List (Option D)),z5a (z9a (y0 0) "costs" J3) (mCB [(y0 1),(y0 2),(y0 3)] z2R) ⟨[some (Bk l m ws),some (.tup (iL s)),some (.tup (iL g)),some (.int k)],tm,n⟩=zaR (Dw m ws) (kD s g k) ⟨[some (Bk l m ws),some (.tup (iL s)),some (.tup (iL g)),some (.int k)],tm,n⟩:=fun tm=>by
  unfold z5a
  left
  erw[zgf,if_pos (z3O ws)]
  left
  rfl
 obtain⟨c,ep⟩:=zfV (m:=m) (ws:=ws) (s:=s) (g:=g) (k:=k) (st:=⟨[some (Bk l m ws),some (.tup (iL s)),some (.tup (iL g)),some (.int k)],[some (Bk l m ws),some (.tup (iL s)),some (.tup (iL g)),some (.int k)],n⟩) hh
 rw[e,ep]
 left
 erw[zaZ hlm,z5n]
theorem UpO.fixB{l m:Nat}{o:Option D}(h:UpO l o)(hm:l<=m){ws:List Wo}{q:List D}(hq:labsL q=[]):o.map (rp (fun k=>findL k (Bk l m ws::q)))=o:=by
 cases o with
 |none=>rfl
 |some t=>rw[r6,z1L hq (fun z=>by have:=h t rfl _ z;lia) (fun z=>by have:=h t rfl _ z;lia)]
theorem zi2{ps:List (Nat×List Wo)}{lo hi:Nat}(h:Hk lo hi ps): ∀e∈erL (h7 ps),PyData.leavesShort 64 e=true/\e.showable=true/\e.bulk+1<=2502/\e.depth<=6:=z1a fun d hd=>by
 obtain⟨p,hp,rfl⟩:=l7.mp hd
 have hb:=h.ok p hp
 have q:=smL (k:=41) (es:=erL (wsD p.2++[.int 7])) (z1a fun d hd=>by
  rcases c9.mp hd with hd|hd
  ·obtain⟨w,hw,rfl⟩:=z0D hb hd
   have z:=zjf hw
   exact⟨z.a,z.b,by have:=z.c;lia,z.d⟩
  ·rw[i4.mp hd,er]
   have z:=z3k (i:=7) (by decide)
   exact⟨z.a,z.b,by have:=z.c;lia,z.d⟩)
 have q2:PyData.depthAll (erL (wsD p.2++[.int 7]))<=5:=by
  have gd: ∀e∈erL (wsD p.2++[.int 7]),e.depth<=2:=z1a fun d hd=>by
   rcases c9.mp hd with hd|hd
   ·obtain⟨w,hw,rfl⟩:=z0D hb hd
    exact(z6S hw).2
   ·rw[i4.mp hd];simp[er,PyData.depth]
  clear q
  generalize erL (wsD p.2++[.int 7])=es at gd
  induction es with
  |nil=>simp[PyData.depthAll]
  |cons e es ih=>erw[PyData.depthAll];have:=gd e (by simp);have:=ih fun x hx=>gd x (by simp[hx]);lia
 have c:=q.c
 rw[z8S,m8,X6] at c
 erw[i9,t9] at c
 have fw:=hb.few
 erw[er]
 exact⟨by erw[PyData.leavesShort];exact q.a,by erw[PyData.showable];exact q.b,by erw[PyData.bulk];lia,by erw[PyData.depth];lia⟩
noncomputable def shH(ps:List (Nat×List Wo)):Str:=(er (.lst 0 (h7 ps))).shown
theorem z91(ws:List Wo)(h:Bks ws):plainL (wsD ws)=true:=(z6W (l:=0) h).1.1
theorem z92{l lo hi:Nat}{ps:List (Nat×List Wo)}(h:Hk lo hi ps)(hl:ps.length<=27){s:Stt}:z8c [.lst l (h7 ps)] s= .ok (.str (shH ps)) s:=by
 have q:=smL (zi2 h)
 have b:=PyData.shown_le_bulk 64 (by decide) (er (.lst l (h7 ps))) (by erw[er,PyData.leavesShort];exact q.a)
 have p1:plainL (h7 ps)=true:=by
  have: ∀p∈ps,plainL (wsD p.2)=true:=fun p hp=>z91 _ (h.ok p hp)
  clear q b hl h
  induction ps with
  |nil=>rfl
  |cons p ps ih=>
   erw[h7,b7,plainL,Mi.plain,i6] at ih⊢
   refine⟨by rw[z6V,this p (by simp)];rfl,ih fun p hp=>this p (by simp[hp])⟩
 have hc:(plainL (h7 ps)&&(er (.lst l (h7 ps))).showable&&decide ((er (.lst l (h7 ps))).depth<=60)&&decide ((er (.lst l (h7 ps))).shown.length<=sizeLine))=true:=by
  erw[i6,decide_eq_true_eq]
  refine⟨⟨⟨p1,by erw[er,PyData.showable];exact q.b⟩,by erw[er,PyData.depth];have:=q.d;lia⟩, ?_⟩
  rw[zl]
  have e:(er (.lst l (h7 ps))).bulk=PyData.bulkAll (erL (h7 ps)):=by erw[er,PyData.bulk]
  have c:=q.c
  rw[z8S,show(h7 ps).length=ps.length by simp[h7]] at c
  rw[e] at b
  lia
 erw[z8c,if_pos hc]
 rfl
noncomputable def ptM:MS:=z0o (z2u "Book" "put" Q3 (y0 4) [(y0 5)])
theorem zi3{l m:Nat}(hlm:l<m){a0 a1 a2 a3:Option D}{r tm:List (Option D)}(v0:UpO l a0)(v1:UpO l a1)(v2:UpO l a2)(v3:UpO l a3)(vr: ∀o∈r,UpO l o)(vt: ∀o∈tm,UpO l o)
 (us:List Wo) (h:Bks us) (Rl:Nat) (h1:Rl≠l) (h2:Rl≠m) (o6:Option D) (k6:Nat) (v6:UpO k6 o6) (n:Nat):
 ∃(p6:Option D) (n':Nat),UpO k6 p6/\n<=n'/\forGo z3a (.nm 5) ptM us.length 0 ⟨a0::a1::a2::a3::some (Bk l m [])::o6::r,some (.lst Rl (wsD us))::tm,n⟩= .nx ⟨a0::a1::a2::a3::some (Bk l m us)::p6::r,tm,n'⟩:=by
 obtain⟨s',e,p6,n1,rfl,q6,g1⟩:=z2O (K:=z3a) (g:= .nm 5) (b:=ptM) (item:=fun i=>(wsD us).getD i .non) (N:=us.length) (P:=fun i s=> ∃(p6:Option D) (n1:Nat),s=⟨a0::a1::a2::a3::some (Bk l m (us.take i))::p6::r,some (.lst Rl (wsD us))::tm,n1⟩/\UpO k6 p6/\n<=n1)
  (by rintro i s ⟨_,_,rfl,_⟩;rw[z6a,X6])
  (by
   rintro i hi s ⟨p6,n1,rfl,q6,g1⟩
   have hw:=h.ok us[i] (p9 hi)
   have few:=h.few
   rw[show(wsD us).getD i .non=us[i].d by simp[wsD,hi]]
   refine⟨_,rfl, ?_⟩
   have hh:=zam h.nd hi
   have hp:zdm (us.take i) us[i]=none:=by unfold zdm;rw[if_neg (by rw[hh];decide),if_neg (by rw[D0];lia)]
   obtain⟨n2,g2,e2⟩:=z8N l m (by lia) (us.take i) us[i] hw hp n1
   have hq:labsL [us[i].d]=[]:=by erw[labsL,z4I,h9]
   have f0:=fun ws'=>v0.fixB (m:=m) (by lia) (ws:=ws') hq
   have f1:=fun ws'=>v1.fixB (m:=m) (by lia) (ws:=ws') hq
   have f2:=fun ws'=>v2.fixB (m:=m) (by lia) (ws:=ws') hq
   have f3:=fun ws'=>v3.fixB (m:=m) (by lia) (ws:=ws') hq
   have fr:=fun ws'=>z5p (l:=l) (m:=m) (ws:=ws') vr (c8 _) (by lia) hq
   have ft:=fun ws'=>z5p (l:=l) (m:=m) (ws:=ws') vt (c8 _) (by lia) hq
   have fR: ∀ws',rp (fun k=>findL k [Bk l m ws',us[i].d]) (.lst Rl (wsD us))= .lst Rl (wsD us):=fun ws'=>z1L hq (by erw[y3,Q2,i4];lia) (by erw[y3,Q2,i4];lia)
   have et:us.take i++[us[i]]=us.take (i+1):=by rw[List.take_succ,List.getElem?_eq_getElem hi];rfl
   refine⟨⟨a0::a1::a2::a3::some (Bk l m (us.take (i+1)))::some us[i].d::r,some (.lst Rl (wsD us))::tm,n2⟩, ?_,_,n2,rfl,zjh,by lia⟩
   unfold ptM
   left
   rw[zfW]
   left
   rw[e2,z1s (z8O hq) (fun e=>by
    injection e with e _
    erw[z0h,r6,z6T hq,f0,f1,f2,f3,fr,ft,fR,z9c,e,and_self])]
   left
   erw[z6T hq,f0,f1,f2,f3,fr,ft,fR,z9c,et])
  us.length 0 ⟨a0::a1::a2::a3::some (Bk l m [])::o6::r,some (.lst Rl (wsD us))::tm,n⟩ (by lia) ⟨o6,n,rfl,v6,c8 _⟩
 rw[zaj,zai,List.take_length] at e
 exact⟨p6,n1,q6,g1,e⟩
theorem zfY(l m Z:Nat)(ws vs:List Wo)(h:Bks ws)(hp:vs.Perm ws)(ho:vs.Pairwise LeW)(T:List (List Int))(hT: ∀B∈T,B.length<=24)(hz:T.length<=100){a0 a1 a2 a3 a5:Option D}{r tm:List (Option D)}(n:Nat):
 ∃(ps:List (Nat×List Wo)) (H:Nat),Hk n H ps/\ps.length=T.length/\n<=H/\j3 (J2 (y0 6)) (.nm 0) (rt true) (z2u "Book" "begun" Y7 (y0 1) [(y0 0)]) 1 [4] ⟨a0::a1::a2::a3::some (Bk l m ws)::a5::some (.lst Z (tD T))::r,tm,n⟩= .ok (.lst H (hD ps)) ⟨a0::a1::a2::a3::some (Bk l m ws)::a5::some (.lst Z (tD T))::r,tm,H+1⟩:=by
 have hv:=h.perm hp
 obtain⟨ys,H,hl,⟨ps,rfl,hk,hn⟩,e⟩:=z8Z (mi:=J2 (y0 6)) (K:=z3a) (me:=z2u "Book" "begun" Y7 (y0 1) [(y0 0)]) (PL:=fun n' acc=> ∃ps,acc=hD ps/\Hk n n' ps/\n<=n') (items:=tD T) (its:=[some (.lst Z (tD T))]) (ix:=[4]) (s:=⟨a0::a1::a2::a3::some (Bk l m ws)::a5::some (.lst Z (tD T))::r,tm,n⟩) (σ:=a0::a1::a2::a3::some (Bk l m ws)::a5::some (.lst Z (tD T))::r) (tm:=tm) (n:=n) (z66 rfl) rfl (by rw[zl,z1S];lia) (fun i rest=>rfl) rfl ⟨[],rfl,⟨P0,(fun _ h=>nomatch h),(fun _ h=>nomatch h)⟩,c8 _⟩ (by
  rintro acc hi tm n1 ⟨ps,rfl,hk,hn⟩
  have hi':(hD ps).length<T.length:=by rw[z1S] at hi;exact hi
  have et:(tD T)[(hD ps).length]= .tup (iL T[(hD ps).length]):=by simp[tD]
  rw[et]
  have hB:=hT _ (p9 hi')
  generalize T[(hD ps).length]=B at hB
  obtain⟨N,n2,g1,g2,e⟩:=zb7 l m ws vs h hp ho B hB n1
  refine⟨.lst N (wsD (vs.filter (bgB B))),n2,⟨ps++[(N,vs.filter (bgB B))],by simp[hD],⟨?_,fun p hp=> ?_,fun p hp=> ?_⟩,by lia⟩, ?_⟩
  ·rw[B6]
   refine N1.mpr ⟨hk.nd,by simp,fun a ha b hb e=> ?_⟩
   obtain⟨p,hp,rfl⟩:=l7.mp ha
   rw[b7,l3,i4] at hb
   have:=hk.lb p hp
   lia
  ·rcases c9.mp hp with hp|hp
   ·have:=hk.lb p hp;lia
   ·rw[i4.mp hp];exact⟨by show n<=N;lia,g2⟩
  ·rcases c9.mp hp with hp|hp
   ·exact hk.ok p hp
   ·rw[i4.mp hp];exact hv.sub D9
  ·erw[b7,l3,List.getElem?_cons_zero,List.getElem?_cons_succ,r8]
   left
   rw[zfU]
   left
   rw[e]
   left)
 refine⟨ps,H,hk, ?_,hn,e⟩
 rw[z1S] at hl
 simpa[hD] using hl
noncomputable def apM:MS:=z0o (z1B (y0 10) [(mC (.int 7))] z81)
theorem zi4{lo H l m:Nat}{ps:List (Nat×List Wo)}(hk:Hk lo H ps)(hlo:l<lo)(hmo:m<lo){a0 a1 a2 a3 a5 a6 a7 a8:Option D}{r tm:List (Option D)}(v0:UpO lo a0)(v1:UpO lo a1)(v2:UpO lo a2)(v3:UpO lo a3)(v5:UpO lo a5)(v6:UpO lo a6)(v7:UpO lo a7)(v8:UpO lo a8)(vr: ∀o∈r,UpO lo o)(vt: ∀o∈tm,UpO lo o)(ws:List Wo)(o8:Option D)(n:Nat):
 ∃p8:Option D,(p8=o8\/∃N us,lo<=N/\N<H/\p8=some (.lst N (wsD us++[.int 7])))/\forGo z3a (.nm 10) apM ps.length 0 ⟨a0::a1::a2::a3::some (Bk l m ws)::a5::a6::a7::a8::some (.lst H (hD ps))::o8::r,some (.lst H (hD ps))::tm,n⟩= .nx ⟨a0::a1::a2::a3::some (Bk l m ws)::a5::a6::a7::a8::some (.lst H (h7 ps))::p8::r,tm,n⟩:=by
 obtain⟨s',e,p8,rfl,q8⟩:=z2O (K:=z3a) (g:= .nm 10) (b:=apM) (item:=fun i=>(mix i ps).getD i .non) (N:=ps.length) (P:=fun i s=> ∃(p8:Option D),s=⟨a0::a1::a2::a3::some (Bk l m ws)::a5::a6::a7::a8::some (.lst H (mix i ps))::p8::r,some (.lst H (mix i ps))::tm,n⟩/\(p8=o8\/∃N us,lo<=N/\N<H/\p8=some (.lst N (wsD us++[.int 7]))))
  (by rintro i s ⟨_,rfl,_⟩;rw[z6a,z90])
  (by
   rintro i hi s ⟨p8,rfl,q8⟩
   rw[zb8 i ps hi]
   refine⟨_,rfl, ?_⟩
   have hb:=hk.lb ps[i] (p9 hi)
   have hf:=(hk.ok ps[i] (p9 hi)).few
   have eu:=zb9 i ps hi hk.nd
   generalize hN:ps[i].1=N at hb eu
   generalize hU:ps[i].2=us at hf eu
   have f0:=fun d=>v0.fixk hb.1 d
   have f1:=fun d=>v1.fixk hb.1 d
   have f2:=fun d=>v2.fixk hb.1 d
   have f3:=fun d=>v3.fixk hb.1 d
   have f5:=fun d=>v5.fixk hb.1 d
   have f6:=fun d=>v6.fixk hb.1 d
   have f7:=fun d=>v7.fixk hb.1 d
   have f8:=fun d=>v8.fixk hb.1 d
   have fr:=fun(d:D)=>z8T vr hb.1 d
   have ft:=fun(d:D)=>z8T vt hb.1 d
   have fB: ∀d,rp (pl N d) (Bk l m ws)=Bk l m ws:=fun d=>z6U (by lia) (by lia)
   have fH:rp (pl N (.lst N (wsD us++[.int 7]))) (.lst H (mix i ps))= .lst H (mix (i+1) ps):=by rw[zcI (by lia),eu]
   refine⟨_, ?_,some (.lst N (wsD us++[.int 7])),rfl, .inr ⟨N,us,hb.1,hb.2,rfl⟩⟩
   unfold apM
   left
   rw[zcF ⟨by rw[zl,X6];lia,by simp[y3]⟩]
   left
   erw[f0,f1,f2,f3,f5,f6,f7,f8,fr,ft,fB,fH])
  ps.length 0 ⟨a0::a1::a2::a3::some (Bk l m ws)::a5::a6::a7::a8::some (.lst H (hD ps))::o8::r,some (.lst H (hD ps))::tm,n⟩ (by lia) ⟨o8,rfl, .inl rfl⟩
 rw[zaj,zai,z3R] at e
 exact⟨p8,q8,e⟩
theorem Wo.ext4{v w:Wo}:(v.s=w.s/\v.g=w.g/\v.k=w.k/\v.c=w.c)↔v=w:=by
 cases v;cases w;erw[Wo.mk.injEq]
instance Wo.deq:DecidableEq Wo:=fun v w=>decidable_of_iff (v.s=w.s/\v.g=w.g/\v.k=w.k/\v.c=w.c) Wo.ext4
noncomputable def Av3(lb l m n:Nat)(o:Option D):Prop:= ∀d,o=some d->∀j∈y3 d,j<n/\j≠lb/\j≠l/\j≠m
section
variable{lb l m n:Nat}{o:Option D}
theorem Av3.non(h: ∀d,o=some d->y3 d=[]):Av3 lb l m n o:=fun d e j hj=>by rw[h d e] at hj;cases hj
theorem Av3.mono{n':Nat}(h:Av3 lb l m n o)(hn:n<=n'):Av3 lb l m n' o:=fun d e j hj=>by have:=h d e j hj;lia
theorem Av3.fix(h:Av3 lb l m n o)(d:D):o.map (rp (pl lb d))=o:=by
 cases o with
 |none=>rfl
 |some t=>rw[r6,U9 fun z=>by have:=h t rfl _ z;lia]
theorem Av3.fixB(h:Av3 lb l m n o){ws:List Wo}{q:List D}(hq:labsL q=[]):o.map (rp (fun k=>findL k (Bk l m ws::q)))=o:=by
 cases o with
 |none=>rfl
 |some t=>rw[r6,z1L hq (fun z=>by have:=h t rfl _ z;lia) (fun z=>by have:=h t rfl _ z;lia)]
theorem Av3.up(h:Av3 lb l m n o):UpO n o:=fun d e j hj=>(h d e j hj).1
end
theorem zi5(v w:Wo):PyData.eqv (er v.d) (er w.d)=decide (v=w):=by
 rw[show er v.d= .tuple [.tuple (erL (iL v.s)), .tuple (erL (iL v.g)), .int v.k, .int v.c] from rfl,show er w.d= .tuple [.tuple (erL (iL w.s)), .tuple (erL (iL w.g)), .int w.k, .int w.c] from rfl]
 have e:=z0i v.s w.s
 have e':=z0i v.g w.g
 rw[PyData.eqv]
 erw[z2P,PyData.eqvAll,e,e',z32,F2]
 have hi:v=w↔v.s=w.s/\v.g=w.g/\v.k=w.k/\v.c=w.c:=by
  cases v;cases w;erw[Wo.mk.injEq]
 by_cases h:v=w
 ·subst h;simp
 ·have: ¬(v.s=w.s/\v.g=w.g/\v.k=w.k/\v.c=w.c):=fun z=>h (hi.mpr z)
  rw[decide_eq_false h,D6]
  intro z
  erw[i6,decide_eq_true_eq] at z
  exact this z
theorem zi6{v w:Wo}(hv:v.ok)(hw:w.ok){s:Stt}:neD v.d w.d s= .ok (.bool (!decide (v=w))) s:=by
 have t1:=z6S hv
 have t2:=z6S hw
 have g1:Gd v.d:=z6R (n:=0) _ (z5m _ t1.1)
 have g2:Gd w.d:=z6R (n:=0) _ (z5m _ t2.1)
 rw[zfj (by erw[eqC,g1.1,g1.2,g2.1,g2.2,B8,decide_eq_true_eq];have:=t1.2;lia),zi5]
theorem z93{L k:Nat}{vs:List Wo}(h:Bks vs){s:Stt}:neD (.lst L (wsD vs)) (.lst k []) s= .ok (.bool (!vs.isEmpty)) s:=by
 have g:=z6W (l:=L) h
 have g0:(er (.lst k [])).canLay0=true/\Mi.plain (.lst k [])=true:=⟨rfl,rfl⟩
 rw[zfj (by
  erw[eqC,g.1.1,g.1.2,g0.1,g0.2,F2,B8,decide_eq_true_eq]
  have:=g.2
  lia)]
 congr 2
 cases vs with
 |nil=>rfl
 |cons c cs=>rfl
theorem zd2{ws:List Wo}(h:Bks ws){v w:Wo}(hv:v∈ws)(hw:w∈ws)(e:v.key=w.key):v=w:=by
 obtain⟨i,hi,rfl⟩:=L3.mp hv
 obtain⟨j,hj,rfl⟩:=L3.mp hw
 have q:=M9.mp h.nd
 rw[F0] at q
 rcases Nat.lt_trichotomy i j with z|z|z
 ·have:=q i j (by simpa using hi) (by simpa using hj) z
  rw[D1,D1] at this
  exact absurd e this
 ·subst z;rfl
 ·have:=q j i (by simpa using hj) (by simpa using hi) z
  rw[D1,D1] at this
  exact absurd e.symm this
theorem z94{ws vs:List Wo}(h:Bks ws)(hp:vs.Perm ws){w:Wo}(hw:w∈vs):(vs.filter fun v=> !decide (v=w)).Perm (rmW ws w.key):=by
 have e:rmW ws w.key=ws.filter fun v=> !decide (v=w):=R4 fun v hv=>by
  by_cases z:v=w
  ·subst z;simp
  ·have:v.key≠w.key:=fun q=>z (zd2 h hv (hp.mem_iff.mp hw) q)
   simp[z,this]
 rw[e]
 exact hp.filter _
theorem zfZ{ws:List Wo}{k:NK}:has (rmW ws k) k=false:=by
 apply D6.mpr
 intro z
 obtain⟨v,hv,ev⟩:=L0.mp z
 have:=(L4.mp hv).2
 erw[ne_eq,decide_not,E5,decide_eq_false_iff_not] at this
 exact this (of_decide_eq_true ev)
theorem zg0{vs:List Wo}{r:Int}(h0:0<=r)(h1:r.toNat<vs.length):atI (wsD vs) r=some vs[r.toNat].d:=z63 h0 (by simp[wsD,h1])
theorem zi7{l k:Nat}{ds es:List D}{s:Stt}(h:ds.length+es.length<=sizeLine/\l∉labsL es):zc4 (.lst l ds) [.lst k es] s= .ok .non (s.put l (.lst l (ds++es))):=by erw[zc4,z97,if_pos h]
theorem zg1(a b:List (List Int)):tD a++tD b=tD (a++b):=by simp[tD]
noncomputable def tkD(s:List Int):D->D
 | .int k=> .tup (iL (s.take k.toNat))
 |_=> .non
theorem zg2(s:List Int)(N:Nat):((z2W 0 N).filter fun _=>true).map (tkD s)=tD ((A5 N).map fun k=>s.take k):=by
 rw[F1.mpr fun _ _=>rfl]
 simp[z2W,tD,tkD,Function.comp_def]
theorem zg3(vs:List Wo)(w:Wo):wsD vs++[w.d]=wsD (vs++[w]):=by simp[wsD]
noncomputable def Av1(lb:Nat)(o:Option D):Prop:= ∀d:D,o.map (rp (pl lb d))=o
theorem zao(s:List Int)(hs:s.length<=24){σ tm:List (Option D)}(hσ:σ[8]? =some (some (.tup (iL s))))(n:Nat): ∃n',n<=n'/\j3 (V4 [(Z0 (mCB [(y0 8)] z1A) (mC (.int 1)) X7)]) (.nm 0) (rt true) (mSl (y0 1) none (some (y0 0))) 1 [8] ⟨σ,tm,n⟩= .ok (.lst n' (tD ((A5 (s.length+1)).map fun k=>s.take k))) ⟨σ,tm,n'+1⟩:=by
 obtain⟨n',h1,e⟩:=z6Q (ms:=[(Z0 (mCB [(y0 8)] z1A) (mC (.int 1)) X7)]) (mt:=rt true) (me:=mSl (y0 1) none (some (y0 0))) (p:=fun _=>true) (g:=tkD s) (N:=s.length+1) (ix:=[8]) (s:=⟨σ,tm,n⟩) (σ:=σ) (tm:=tm) (n:=n) (by
  have ev:y0 8 ⟨σ,tm,n⟩= .ok (.tup (iL s)) ⟨σ,tm,n⟩:=by erw[y0,hσ]
  have el:mCB [(y0 8)] z1A ⟨σ,tm,n⟩= .ok (.int s.length) ⟨σ,tm,n⟩:=by
   erw[mCB,Z6,bd,ev,psh,Stt.psh,pop,rt,z1A]
   first|rfl|(rw[z0m];rfl)|simp[z0m]
  erw[Z6,Z0,bd,el,psh,Stt.psh,mC,rt,pop,X7]
  rfl) (by rw[zl];lia) (fun d hd tm n=>⟨n,c8 _,rfl⟩) (fun d hd _ tm n=>by
  refine⟨n,c8 _, ?_⟩
  erw[z2W,l7,O9] at hd
  obtain⟨k,hk,rfl⟩:=hd
  erw[b7,l3,hσ,r8,I0,tkD,B9]
  left
  rw[zb0,zb5])
 rw[zg2] at e
 exact⟨n',h1,e⟩
noncomputable def smM:MS:=(Q6 (U0 (.nm 8) (Z0 (Z0 (Z0 (y0 3) (mCB [(Y1 z0e [(y0 2)])] lstM) X7) (Y1 Z3 [(y0 2),(Z0 (mCB [(y0 3)] z1A) (mC (.int 1)) X7)]) ixD) (mC (.int 0)) ixD))
 (Q6 (z0o (z1B (y0 6) [(j3 (V4 [(Z0 (mCB [(y0 8)] z1A) (mC (.int 1)) X7)]) (.nm 0) (rt true) (mSl (y0 1) none (some (y0 0))) 1 [8])] zc4))
 (z0o (z1B (y0 6) [(Z0 (y0 8) (mCB [(Y1 Z3 [(y0 2),(mC (.int 3))])] z2R) X7)] z81))))
theorem zi8(R:D)(hR: ∀f,rp f R=R)(a1 a7:Int)(lb L l m Z n:Nat)(c x:Int)(hb:Bg c x)(vs ws:List Wo)(hv:Bks vs)(T:List (List Int))(hz:T.length<=100)(o5 o8:Option D)(r:List (Option D))(v5: ∀k d,n<=k\/k=lb\/k=Z->o5.map (rp (pl k d))=o5)(v8: ∀d,o8.map (rp (pl lb d))=o8)(vr: ∀k d,n<=k\/k=lb\/k=Z->rpO (pl k d) r=r)
 (h1:lb<L) (h2:L<l) (h3:l<m) (h4:m<Z) (h5:Z<n):
 ∃(T':List (List Int)) (c' x':Int) (n':Nat) (s:List Int),(∀B∈T',B.length<=24)/\T'.length<=8/\Bg c' x'/\n<=n'/\
  smM ⟨some R::some (.int a1)::some (.lst lb [.int c, .int x])::some (.lst L (wsD vs))::some (Bk l m ws)::o5::some (.lst Z (tD T))::some (.int a7)::o8::r,[some R],n⟩= .nx ⟨some R::some (.int a1)::some (.lst lb [.int c', .int x'])::some (.lst L (wsD vs))::some (Bk l m ws)::o5::some (.lst Z (tD (T++T')))::some (.int a7)::some (.tup (iL s))::r,[some R],n'⟩:=by
 have fw:=hv.few
 obtain⟨w,c1,x1,n1,hw,b1,g1,e1⟩:=z8R lb c x n hb (by lia)
 obtain⟨k,c2,x2,k0,k1,b2,e2⟩:=U2 lb c1 x1 ((vs.length:Int)+1) (n1+1+1) b1 (by lia) (by lia)
 have hk:k.toNat<(vs++[w]).length:=by simp;lia
 have ek:=zg0 (vs:=vs++[w]) k0 hk
 have hu:(vs++[w])[k.toNat].ok:=by
  rcases c9.mp (p9 hk) with q|q
  ·exact hv.ok _ q
  ·rw[i4.mp q];exact hw
 generalize (vs++[w])[k.toNat]=u at ek hu
 have l6:=hu.s6
 have sB: ∀d,rp (pl lb d) (Bk l m ws)=Bk l m ws:=fun d=>z6U (by lia) (by lia)
 have sL: ∀d,rp (pl lb d) (.lst L (wsD vs))= .lst L (wsD vs):=fun d=>z3S (by lia) (Q2 _)
 have sZ: ∀d T,rp (pl lb d) (.lst Z (tD T))= .lst Z (tD T):=fun d T=>z3S (by lia) (z0E _)
 have sA: ∀d,rp (pl lb d) (.lst (n1+1) (wsD (vs++[w])))= .lst (n1+1) (wsD (vs++[w])):=fun d=>z3S (by lia) (Q2 _)
 have s5:=fun d=>v5 lb d (.inr (.inl rfl))
 have sr:=fun d=>vr lb d (.inr (.inl rfl))
 have zB: ∀d,rp (pl Z d) (Bk l m ws)=Bk l m ws:=fun d=>z6U (by lia) (by lia)
 have zL: ∀d,rp (pl Z d) (.lst L (wsD vs))= .lst L (wsD vs):=fun d=>z3S (by lia) (Q2 _)
 have zb: ∀d (u v:Int),rp (pl Z d) (.lst lb [.int u, .int v])= .lst lb [.int u, .int v]:=fun d u v=>z3S (by lia) rfl
 have zZ: ∀d T,rp (pl Z d) (.lst Z (tD T))=d:=fun d T=>zfX
 have z5:=fun d=>v5 Z d (.inr (.inr rfl))
 have zr:=fun d=>vr Z d (.inr (.inr rfl))
 obtain⟨n2,g2,e3⟩:=zao u.s (by lia) (σ:=some R::some (.int a1)::some (.lst lb [.int c2, .int x2])::some (.lst L (wsD vs))::some (Bk l m ws)::o5::some (.lst Z (tD T))::some (.int a7)::some (.tup (iL u.s))::r) (tm:=[some (.lst Z (tD T)),some R]) rfl (n1+1+1)
 obtain⟨a,c3,x3,a0,a1',b3,e4⟩:=U2 lb c2 x2 3 (n2+1) b2 (by decide) (by decide)
 refine⟨((A5 (u.s.length+1)).map fun k=>u.s.take k)++[u.s++[a]],c3,x3,n2+1,u.s,fun B hB=> ?_,by simp;lia,b3,by lia, ?_⟩
 ·rcases c9.mp hB with hB|hB
  ·obtain⟨k,_,rfl⟩:=l7.mp hB
   rw[D0];lia
  ·rw[i4.mp hB];simp;lia
 unfold smM
 left
 rw[e1,J1 rfl rfl rfl (fun q=>by left;erw[hR,s5,v8,sr,sB,sL,sZ];rfl) (fun q=>by left;erw[hR,sL];rfl)]
 left
 rw[zfi (by rw[zl,X6];simp;lia),zg3]
 left
 rw[X6,e2,J1 rfl rfl rfl (fun q=>by left;erw[hR,s5,v8,sr,sB,sL,sZ];rfl) (fun q=>by left;erw[hR,sA];rfl)]
 left
 rw[ek]
 left
 rw[x0W]
 left
 rw[e3]
 left
 rw[zi7 ⟨by rw[zl,z1S,z1S];simp;lia,by rw[z0E];exact A4⟩,zg1]
 left
 erw[hR,zB,zL,zb,zZ,z5,zr,z5n]
 try (left)
 rw[e4,J1 rfl rfl rfl (fun q=>by left;erw[hR,s5,sr,sB,sL,sZ,z5n];rfl) (fun q=>by left;erw[hR,sZ,z5n];rfl)]
 left
 rw[zaS (by rw[zl,z0m];simp;lia),show iL u.s++[.int a]=iL (u.s++[a]) by simp[iL]]
 left
 rw[zcF ⟨by rw[zl,z1S];simp;lia,by simp[y3,z2Q]⟩,show tD (T++(A5 (u.s.length+1)).map fun k=>u.s.take k)++[.tup (iL (u.s++[a]))]=tD (T++(((A5 (u.s.length+1)).map fun k=>u.s.take k)++[u.s++[a]])) by simp[tD]]
 left
 erw[hR,zB,zL,zb,zZ,z5,zr,z5n]
noncomputable def fsM:M D:=(mCB [(mCB [] z2R),(mCB [(Y1 Z3 [(y0 2),(mC (.int 40))])] z2R),(mCB [(j3 (V4 [(mC (.int 24))]) (.nm 0) (rt true) (Y1 Z3 [(y0 1),(mC (.int 40))]) 1 [2])] z99)] lstM)
theorem zi9(lb:Nat)(c x:Int)(n:Nat)(hb:Bg c x)(hl:lb<n){a0 a1:Option D}{r tm:List (Option D)}(w0:Av1 lb a0)(w1:Av1 lb a1)(wr: ∀d,rpO (pl lb d) r=r)(wt: ∀d,rpO (pl lb d) tm=tm):
 ∃(T:List (List Int)) (c' x':Int) (Z:Nat),T.length=3/\(∀B∈T,B.length<=24)/\Bg c' x'/\n<=Z/\fsM ⟨a0::a1::some (.lst lb [.int c, .int x])::r,tm,n⟩= .ok (.lst Z (tD T)) ⟨a0::a1::some (.lst lb [.int c', .int x'])::r,tm,Z+1⟩:=by
 unfold Av1 at w0 w1
 obtain⟨a,c1,x1,a0',a1',b1,e1⟩:=U2 lb c x 40 n hb (by decide) (by decide)
 obtain⟨ys,b',n',g1,g2,g3,⟨c3,x3,rfl,hb3⟩,g5,g6⟩:=z4F (ms:=[(mC (.int 24))]) (me:=Y1 Z3 [(y0 1),(mC (.int 40))]) (N:=24) (ix:=[2]) (s:=⟨a0::a1::some (.lst lb [.int c1, .int x1])::r,some (.tup [.int a])::some (.tup [])::tm,n⟩) (l:=lb) (n:=n) (j:=24) (σ0:=a0::a1::some (.lst lb [.int c1, .int x1])::r) (tm0:=some (.tup [.int a])::some (.tup [])::tm) (b:=[.int c1, .int x1]) (Bg:=fun b=> ∃c x,b=[.int c, .int x]/\Bg c x) (Q:=fun _ d=> ∃i:Int,d= .int i/\0<=i/\i<40) (fun _ _ _ _ h=>h)
  (by left) rfl ⟨by decide,by decide⟩ (by rw[zl];decide) ⟨c1,x1,rfl,b1⟩ hl (by left;erw[w0,w1,wr]) (by left;erw[wt]) (by erw[b7,l3,List.getElem?_cons_zero,List.getElem?_cons_succ,r8];left) (by
   rintro i hi b tm m ⟨c,x,rfl,hb⟩ hm hf
   obtain⟨r',c',x',hs0,hs1,h',e'⟩:=U2 lb c x 40 m hb (by decide) (by decide)
   refine⟨.int r',[.int c', .int x'],m,⟨c',x',rfl,h'⟩,⟨r',rfl,hs0,hs1⟩,by lia,by simp[y3], ?_⟩
   erw[b7,l3,List.getElem?_cons_zero,List.getElem?_cons_succ,r8]
   left
   rw[e',V6 rfl rfl rfl (by left) hf]
   left)
 obtain⟨bs,rfl,hbs⟩:=zcT g2
 rw[z0m] at g1
 refine⟨[[],[a],bs],c3,x3,n'+1,rfl,fun B hB=> ?_,hb3,by lia, ?_⟩
 ·erw[i5,A4,or_false] at hB
  rcases hB with rfl|rfl|rfl
  ·simp
  ·simp
  ·lia
 unfold fsM
 left
 rw[e1,J1 rfl rfl rfl (fun q=>by left;erw[w0,w1,wr];rfl) (fun q=>by left;erw[wt];rfl)]
 left
 rw[g6]
 left
 erw[w0,w1,wr,wt]
 rfl
noncomputable def ifM:MS:=(sIf (X0 (Z0 (y0 3) (mCB [] lstM) neD)) (Q6 (U0 (.nm 12) (Z0 (y0 3) (Y1 Z3 [(y0 2),(mCB [(y0 3)] z1A)]) ixD))
 (Q6 (z0o (z2u "Book" "take" j9 (y0 4) [(Z0 (y0 12) (mC (.int 0)) ixD),(Z0 (y0 12) (mC (.int 1)) ixD),(Z0 (y0 12) (mC (.int 2)) ixD)]))
 (Q6 (U0 (.nm 13) (j3 (J2 (y0 3)) (.nm 0) (X0 (Z0 (y0 0) (y0 1) neD)) (y0 0) 1 [12]))
 (Q6 (sIf (mOr (z1z (J4 (Y1 G1 [(y0 4),(y0 13),(y0 6)]))) (X0 (Z0 (mCB [(y0 9)] z8c) (y0 11) neS))) (X8 (mC (.bool false))) sNx)
 (z0o (z2u "Book" "put" Q3 (y0 4) [(y0 12)])))))) sNx)
theorem zia(R:D)(hR: ∀f,rp f R=R)(a1:Int)(lb L Q l m H lo hi n:Nat)(c x:Int)(hb:Bg c x)(vs ws:List Wo)(h:Bks ws)(hp:vs.Perm ws)(ho:vs.Pairwise LeW)(T:List (List Int))(hT: ∀B∈T,B.length<=24)(ps:List (Nat×List Wo))(hk:Hk lo hi ps)(hps:ps.length<=27)
 (o5 o7 o8 o10 o12 o13:Option D) (v5:Av3 lb l m n o5) (v7:Av3 lb l m n o7) (v8:Av3 lb l m n o8) (v10:Av3 lb l m n o10) (v12:Av3 lb l m n o12) (v13:Av3 lb l m n o13) (h1:lb<L) (h2:L<l) (h3:l<m) (h4:m<Q) (h5:Q<lo) (h6:lo<=hi) (h7':hi<=H) (h8:H<n):
 ∃(ws':List Wo) (c' x':Int) (n':Nat) (p12 p13:Option D),Bks ws'/\vs.Perm ws'/\Bg c' x'/\n<=n'/\Av3 lb l m n' p12/\Av3 lb l m n' p13/\
  ifM ⟨[some R,some (.int a1),some (.lst lb [.int c, .int x]),some (.lst L (wsD vs)),some (Bk l m ws),o5,some (.lst Q (tD T)),o7,o8,some (.lst H (h7 ps)),o10,some (.str (shH ps)),o12,o13],[some R],n⟩= .nx ⟨[some R,some (.int a1),some (.lst lb [.int c', .int x']),some (.lst L (wsD vs)),some (Bk l m ws'),o5,some (.lst Q (tD T)),o7,o8,some (.lst H (h7 ps)),o10,some (.str (shH ps)),p12,p13],[some R],n'⟩:=by
 have hv:=h.perm hp
 have hlp:labsL (h7 ps)=ps.map (·.1):=by rw[<-z3R,z1t]
 have hH: ∀j∈y3 (.lst H (h7 ps)),j≠lb/\j≠l/\j≠m:=fun j hj=>by
  erw[y3,hlp,i5] at hj
  rcases hj with rfl|hj
  ·lia
  ·obtain⟨p,hp',rfl⟩:=l7.mp hj
   have:=hk.lb p hp'
   lia
 cases he:vs.isEmpty with
 |true=>
  refine⟨ws,c,x,n+1,o12,o13,h,hp,hb,by lia,v12.mono (by lia),v13.mono (by lia), ?_⟩
  unfold ifM
  left
  rw[z93 hv,he]
  left
 |false=>
  have l0:0<vs.length:=by cases vs with
   |nil=>cases he
   |cons v vs=>simp
  obtain⟨r,c1,x1,r0,r1,b1,e1⟩:=U2 lb c x vs.length (n+1) hb (by lia) (by have:=hv.few;lia)
  have hr:r.toNat<vs.length:=by lia
  have ew:=zg0 r0 hr
  have mw:vs[r.toNat]∈vs:=p9 hr
  generalize vs[r.toNat]=w at ew mw
  have hw:=hv.ok w mw
  have mw':=hp.mem_iff.mp mw
  have hh:has ws (nk3 w.s w.g w.k)=true:=zd1 mw'
  have e2:=zan l m (by lia) ws w.s w.g w.k hh (n+1)
  have hrm:Bks (rmW ws w.key):=h.sub D9
  have hle:=z94 h hp mw
  have hlo:(vs.filter fun v=> !decide (v=w)).Pairwise LeW:=ho.sublist D9
  have hq3:labsL [D.tup (iL w.s),D.tup (iL w.g),D.int w.k]=[]:=by erw[labsL,y3,z2Q,h9]
  have hq1:labsL [w.d]=[]:=by erw[labsL,z4I,h9]
  have s5:=fun d=>v5.fix d
  have s7:=fun d=>v7.fix d
  have s8:=fun d=>v8.fix d
  have s10:=fun d=>v10.fix d
  have s12:=fun d=>v12.fix d
  have s13:=fun d=>v13.fix d
  have sB: ∀d,rp (pl lb d) (Bk l m ws)=Bk l m ws:=fun d=>z6U (by lia) (by lia)
  have sL: ∀d,rp (pl lb d) (.lst L (wsD vs))= .lst L (wsD vs):=fun d=>z3S (by lia) (Q2 _)
  have sQ: ∀d,rp (pl lb d) (.lst Q (tD T))= .lst Q (tD T):=fun d=>z3S (by lia) (z0E _)
  have sH: ∀d,rp (pl lb d) (.lst H (h7 ps))= .lst H (h7 ps):=fun d=>U9 fun z=>(hH _ z).1 rfl
  have ss: ∀f (t:Str),rp f (.str t)= .str t:=fun _ _=>rfl
  have t5:=fun ws'=>v5.fixB (ws:=ws') hq3
  have t7:=fun ws'=>v7.fixB (ws:=ws') hq3
  have t8:=fun ws'=>v8.fixB (ws:=ws') hq3
  have t10:=fun ws'=>v10.fixB (ws:=ws') hq3
  have t13:=fun ws'=>v13.fixB (ws:=ws') hq3
  have tb: ∀ws' (u v:Int),rp (fun k=>findL k (Bk l m ws'::[.tup (iL w.s), .tup (iL w.g), .int w.k])) (.lst lb [.int u, .int v])= .lst lb [.int u, .int v]:=fun ws' u v=>z1L hq3 (by simp[y3,labsL];lia) (by simp[y3,labsL];lia)
  have tL: ∀ws',rp (fun k=>findL k (Bk l m ws'::[.tup (iL w.s), .tup (iL w.g), .int w.k])) (.lst L (wsD vs))= .lst L (wsD vs):=fun ws'=>z1L hq3 (by erw[y3,Q2,i4];lia) (by erw[y3,Q2,i4];lia)
  have tQ: ∀ws',rp (fun k=>findL k (Bk l m ws'::[.tup (iL w.s), .tup (iL w.g), .int w.k])) (.lst Q (tD T))= .lst Q (tD T):=fun ws'=>z1L hq3 (by erw[y3,z0E,i4];lia) (by erw[y3,z0E,i4];lia)
  have tH: ∀ws',rp (fun k=>findL k (Bk l m ws'::[.tup (iL w.s), .tup (iL w.g), .int w.k])) (.lst H (h7 ps))= .lst H (h7 ps):=fun ws'=>z1L hq3 (fun z=>(hH _ z).2.1 rfl) (fun z=>(hH _ z).2.2 rfl)
  obtain⟨N,g1,e3⟩:=z5r (mc:=y0 3) (mt:=X0 (Z0 (y0 0) (y0 1) neD)) (b:=fun v=> !decide (v=w)) (L:=L) (vs:=vs) (ix:=[12]) (s:=⟨[some R,some (.int a1),some (.lst lb [.int c1, .int x1]),some (.lst L (wsD vs)),some (Bk l m (rmW ws w.key)),o5,some (.lst Q (tD T)),o7,o8,some (.lst H (h7 ps)),o10,some (.str (shH ps)),some w.d,o13],[some R],n+1⟩) (σ:=[some R,some (.int a1),some (.lst lb [.int c1, .int x1]),some (.lst L (wsD vs)),some (Bk l m (rmW ws w.key)),o5,some (.lst Q (tD T)),o7,o8,some (.lst H (h7 ps)),o10,some (.str (shH ps)),some w.d,o13]) (tm:=[some R]) (n:=n+1) rfl hv.few (fun v hv' tm n=>by
   refine⟨n,c8 _, ?_⟩
   erw[b7,l3,List.getElem?_cons_zero,List.getElem?_cons_succ,r8]
   left
   rw[zi6 (hv.ok v hv') hw]
   left)
  obtain⟨n4,g4,e4⟩:=z8Y l m N Q (N+1) (rmW ws w.key) (vs.filter fun v=> !decide (v=w)) hrm hle hlo T hT (by lia) (by lia) (by lia) (by lia)
  have hp':zdm (rmW ws w.key) w=none:=by
   have l1:=(z5s h mw').length_eq
   have:=h.few
   erw[m8,i9,t9] at l1
   unfold zdm;rw[if_neg (by rw[zfZ];decide),if_neg (by lia)]
  obtain⟨n5,g5,e5⟩:=z8N l m (by lia) (rmW ws w.key) w hw hp' n4
  have lv:labsL (wsD (vs.filter fun v=> !decide (v=w)))=[]:=Q2 _
  have z5:=fun ws'=>v5.fixB (ws:=ws') hq1
  have z7:=fun ws'=>v7.fixB (ws:=ws') hq1
  have z8:=fun ws'=>v8.fixB (ws:=ws') hq1
  have z10:=fun ws'=>v10.fixB (ws:=ws') hq1
  have zb: ∀ws' (u v:Int),rp (fun k=>findL k (Bk l m ws'::[w.d])) (.lst lb [.int u, .int v])= .lst lb [.int u, .int v]:=fun ws' u v=>z1L hq1 (by simp[y3,labsL];lia) (by simp[y3,labsL];lia)
  have zL: ∀ws',rp (fun k=>findL k (Bk l m ws'::[w.d])) (.lst L (wsD vs))= .lst L (wsD vs):=fun ws'=>z1L hq1 (by erw[y3,Q2,i4];lia) (by erw[y3,Q2,i4];lia)
  have zN: ∀ws',rp (fun k=>findL k (Bk l m ws'::[w.d])) (.lst N (wsD (vs.filter fun v=> !decide (v=w))))= .lst N (wsD (vs.filter fun v=> !decide (v=w))):=fun ws'=>z1L hq1 (by erw[y3,Q2,i4];lia) (by erw[y3,Q2,i4];lia)
  have zQ: ∀ws',rp (fun k=>findL k (Bk l m ws'::[w.d])) (.lst Q (tD T))= .lst Q (tD T):=fun ws'=>z1L hq1 (by erw[y3,z0E,i4];lia) (by erw[y3,z0E,i4];lia)
  have zH: ∀ws',rp (fun k=>findL k (Bk l m ws'::[w.d])) (.lst H (h7 ps))= .lst H (h7 ps):=fun ws'=>z1L hq1 (fun z=>(hH _ z).2.1 rfl) (fun z=>(hH _ z).2.2 rfl)
  refine⟨rmW ws w.key++[w],c1,x1,n5,some w.d,some (.lst N (wsD (vs.filter fun v=> !decide (v=w)))),h.perm (z5s h mw'),hp.trans (z5s h mw').symm,b1,by lia, .non fun d e=>by cases e;exact z4I,fun d e j hj=>by
   cases e
   erw[y3,lv,i4] at hj
   lia, ?_⟩
  unfold ifM
  left
  rw[z93 hv,he]
  left
  rw[X6,e1,J1 rfl rfl rfl (fun q=>by left;erw[hR,s5,s7,s8,s10,s12,s13,sB,sL,sQ,sH,ss];rfl) (fun q=>by left;erw[hR,sL];rfl)]
  left
  rw[ew]
  left
  rw[zi1]
  left
  rw[x0W]
  left
  rw[x1W]
  left
  rw[x2W]
  left
  rw[e2,z1s (z8O hq3) (fun e=>by
   injection e with e _
   erw[z0h,z3M,r6,L6,z6T hq3,hR,z2K,t5,t7,t8,t10,t13,tb,tL,tQ,tH,ss,z9c,e,and_self])]
  left
  erw[z6T hq3,hR,z2K,t5,t7,t8,t10,t13,tb,tL,tQ,tH,ss,z9c]
  rw[show rmW ws (nk3 w.s w.g w.k)=rmW ws w.key from rfl]
  try (left)
  rw[e3]
  left
  rw[e4]
  left
  rw[z92 hk hps]
  left
  rw[zfN]
  left
  rw[zfW]
  left
  rw[e5,z1s (z8O hq1) (fun e=>by
   injection e with e _
   erw[z0h,z3M,r6,L6,z6T hq1,hR,z2K,z5,z7,z8,z10,zb,zL,zN,zQ,zH,ss,z9c,e,and_self])]
  left
  erw[z6T hq1,hR,z2K,z5,z7,z8,z10,zb,zL,zN,zQ,zH,ss,z9c]
theorem zib(ns:List Int): ∀f,rp f (.ro (ns.map .int))= .ro (ns.map .int):=fun f=>z7I _ fun k hk=>by
 erw[y3] at hk;obtain⟨e,he,hk⟩:=labsL_mem hk;obtain⟨j,_,rfl⟩:=l7.mp he;simp[y3] at hk
theorem iu(k:Nat)(u:Int):UpO k (some (.int u)):=UpO.of fun j hj=>by erw[y3] at hj;cases hj
theorem zba{N0 n:Nat}{r:List (Option D)}(h: ∀o∈r,UpO N0 o)(hn:N0<=n):rpO (fun j=>findL j [Bk n (n+1) []]) r=r:=z5p (q:=[]) h hn (by lia) rfl
theorem wu{k L:Nat}{vs:List Wo}(h:L<k):UpO k (some (.lst L (wsD vs))):=UpO.of fun j hj=>by erw[y3,Q2,i4] at hj;lia
theorem tu{k L:Nat}{T:List (List Int)}(h:L<k):UpO k (some (.lst L (tD T))):=UpO.of fun j hj=>by erw[y3,z0E,i4] at hj;lia
theorem iuT{k:Nat}{s:List Int}:UpO k (some (.tup (iL s))):=UpO.of fun j hj=>by erw[y3,z2Q] at hj;cases hj
theorem bu{k n:Nat}{u w:Int}(h:n<k):UpO k (some (.lst n [.int u, .int w])):=UpO.of fun j hj=>by erw[y3,labsL,h9,i5,A4,or_false] at hj;lia
theorem Av3.of{N0 lb l m n:Nat}{o:Option D}(h:UpO N0 o)(h0:N0<=lb)(h1:N0<=l)(h2:N0<=m)(h3:N0<=n):Av3 lb l m n o:=fun d e j hj=>by have:=h d e j hj;lia
theorem z95(l m:Nat)(ws vs:List Wo)(h:Bks ws)(hp:vs.Perm ws)(ho:vs.Pairwise LeW)(n:Nat):W6 [Bk l m ws] n= .ok (.lst (n+1) (wsD vs)) [Bk l m ws] (n+1+1):=by rw[z67 l m ws h,zb3 h hp ho]
noncomputable def lsM:MS:=(sIf (mOr (z1z (J4 (Y1 G1 [(y0 4),(y0 3),(y0 6)]))) (mOr (X0 (Z0 (z2u "Book" "words" W6 (y0 4) []) (y0 3) neD)) (X0 (Z0 (mCB [(y0 9)] z8c) (y0 11) neS)))) (X8 (mC (.bool false))) sNx)
noncomputable def zap:MS:=(Q6 (U0 (.nm 2) (Y1 z2G [(y0 0),(y0 1)]))
 (Q6 (U0 (.nm 3) (Y1 z0z [(y0 2)]))
 (Q6 (U0 (.nm 4) (z59 "Book" Y6 []))
 (Q6 (z3b (J2 (y0 3)) (.nm 5) ptM)
 (Q6 (U0 (.nm 6) fsM)
 (Q6 (z3b (V4 [(mC (.int 3))]) (.nm 7) smM)
 (Q6 (U0 (.nm 9) (j3 (J2 (y0 6)) (.nm 0) (rt true) (z2u "Book" "begun" Y7 (y0 1) [(y0 0)]) 1 [4]))
 (Q6 (z3b (J2 (y0 9)) (.nm 10) apM)
 (Q6 (U0 (.nm 11) (mCB [(y0 9)] z8c))
 (Q6 (sIf (z1z (J4 (Y1 G1 [(y0 4),(y0 3),(y0 6)]))) (X8 (mC (.bool false))) sNx)
 (Q6 ifM lsM)))))))))))
theorem zd3(ns:List Int)(hl:ns.length<1000)(i:Nat)(hi:i<4)(n:Nat)(r:List (Option D))(hr: ∀o∈r,UpO n o)(lr:r.length=12):
 ∃(n':Nat) (r':List (Option D)),zap ⟨some (.ro (ns.map .int))::some (.int i)::r,[some (.ro (ns.map .int))],n⟩= .nx ⟨some (.ro (ns.map .int))::some (.int i)::r',[some (.ro (ns.map .int))],n'⟩/\(∀o∈r',UpO n' o)/\r'.length=12:=by
 match r,lr with
 |[o2,o3,o4,o5,o6,o7,o8,o9,o10,o11,o12,o13],_=>
 have sR:=zib ns
 have uR: ∀k,UpO k (some (D.ro (ns.map .int))):=fun k=>UpO.of fun j hj=>by erw[y3] at hj;obtain⟨e,he,hk⟩:=labsL_mem hj;obtain⟨j,_,rfl⟩:=l7.mp he;simp[y3] at hk
 generalize hR:D.ro (ns.map .int)=R at sR uR⊢
 obtain⟨c,x,b0,e0⟩:=zfE ns i n (by lia) hl
 rw[hR] at e0
 erw[m7] at hr
 obtain⟨u2,u3,u4,u5,u6,u7,u8,u9,u10,u11,u12,u13,_⟩:=hr
 have s3:=fun d=>u3.fixk (c8 n) d
 have s4:=fun d=>u4.fixk (c8 n) d
 have s5:=fun d=>u5.fixk (c8 n) d
 have s6:=fun d=>u6.fixk (c8 n) d
 have s7:=fun d=>u7.fixk (c8 n) d
 have s8:=fun d=>u8.fixk (c8 n) d
 have s9:=fun d=>u9.fixk (c8 n) d
 have s10:=fun d=>u10.fixk (c8 n) d
 have s11:=fun d=>u11.fixk (c8 n) d
 have s12:=fun d=>u12.fixk (c8 n) d
 have s13:=fun d=>u13.fixk (c8 n) d
 obtain⟨vs,c1,x1,L,n1,hv,ho,b1,g1,g2,e1⟩:=zfR n c x (n+1) b0 (by lia)
 have us: ∀o:Option D,UpO n o->UpO n1 o:=fun o h=>h.mono (by lia)
 unfold zap
 left
 rw[e0]
 left
 rw[e1,J1 rfl rfl rfl (fun q=>by left;erw[sR,s3,s4,s5,s6,s7,s8,s9,s10,s11,s12,s13];rfl) (fun q=>by left;erw[sR];rfl)]
 left
 rw[zcW (zba (N0:=n1) (by
  erw[m7]
  exact⟨uR _,iu _ _,bu (by lia),wu (by lia),us _ u4,us _ u5,us _ u6,us _ u7,us _ u8,us _ u9,us _ u10,us _ u11,us _ u12,us _ u13,fun _ h=>nomatch h⟩) (c8 _)) (zba (N0:=n1) (by
  erw[m7]
  exact⟨uR _,fun _ h=>nomatch h⟩) (c8 _))]
 left
 rw[z66 (show y0 3 ⟨[some R,some (.int i),some (.lst n [.int c1, .int x1]),some (.lst L (wsD vs)),some (Bk n1 (n1+1) []),o5,o6,o7,o8,o9,o10,o11,o12,o13],[some R],n1+2⟩= .ok (.lst L (wsD vs)) ⟨[some R,some (.int i),some (.lst n [.int c1, .int x1]),some (.lst L (wsD vs)),some (Bk n1 (n1+1) []),o5,o6,o7,o8,o9,o10,o11,o12,o13],[some R],n1+2⟩ from rfl)]
 left
 obtain⟨p5,n3,q5,g5,e3⟩:=zi3 (l:=n1) (m:=n1+1) (by lia) (a0:=some R) (a1:=some (.int i)) (a2:=some (.lst n [.int c1, .int x1])) (a3:=some (.lst L (wsD vs))) (r:=[o6,o7,o8,o9,o10,o11,o12,o13]) (tm:=[some R]) (uR _) (iu _ _) (bu (by lia)) (wu (by lia)) (by
  erw[m7]
  exact⟨us _ u6,us _ u7,us _ u8,us _ u9,us _ u10,us _ u11,us _ u12,us _ u13,fun _ h=>nomatch h⟩) (by
  erw[m7]
  exact⟨uR _,fun _ h=>nomatch h⟩) vs hv L (by lia) (by lia) o5 n u5 (n1+2)
 rw[show z3a.len [some (.lst L (wsD vs)),some R]=vs.length by show(wsD vs).length=_;rw[X6],e3]
 left
 have w5:=fun d=>q5.fixk (c8 n) d
 have sB: ∀d,rp (pl n d) (Bk n1 (n1+1) vs)=Bk n1 (n1+1) vs:=fun d=>z6U (by lia) (by lia)
 have sL: ∀d,rp (pl n d) (.lst L (wsD vs))= .lst L (wsD vs):=fun d=>z3S (by lia) (Q2 _)
 obtain⟨T0,c2,x2,Z,lT,hT0,b2,g6,e4⟩:=zi9 n c1 x1 n3 b1 (by lia) (a0:=some R) (a1:=some (.int i)) (r:=[some (.lst L (wsD vs)),some (Bk n1 (n1+1) vs),p5,o6,o7,o8,o9,o10,o11,o12,o13]) (tm:=[some R]) (fun d=>by rw[r6,sR]) (fun d=>rfl) (fun d=>by left;erw[sB,sL,w5,s6,s7,s8,s9,s10,s11,s12,s13]) (fun d=>by left;erw[sR])
 rw[e4]
 left
 rw[z2L ⟨by decide,by decide⟩]
 left
 have hr9: ∀o∈[o9,o10,o11,o12,o13],UpO n o:=by
  erw[m7]
  exact⟨u9,u10,u11,u12,u13,fun _ h=>nomatch h⟩
 obtain⟨s',e5,c3,x3,T,p7,p8,n5,rfl,b3,hT,lT',q7,q8,g7⟩:=z2M (P:=fun j s=> ∃(c x:Int) (T:List (List Int)) (p7 p8:Option D) (n5:Nat),s=⟨[some R,some (.int i),some (.lst n [.int c, .int x]),some (.lst L (wsD vs)),some (Bk n1 (n1+1) vs),p5,some (.lst Z (tD T)),p7,p8,o9,o10,o11,o12,o13],[some R],n5⟩/\Bg c x/\(∀B∈T,B.length<=24)/\T.length<=3+8*j/\UpO n p7/\UpO n p8/\Z<n5) (lo:=0) (N:=3) (g:= .nm 7) (b:=smM) (by
  rintro j hj s ⟨c,x,T,p7,p8,n5,rfl,hb,hT,lT,q7,q8,g7⟩
  refine⟨[some R,some (.int i),some (.lst n [.int c, .int x]),some (.lst L (wsD vs)),some (Bk n1 (n1+1) vs),p5,some (.lst Z (tD T)),some (.int j),p8,o9,o10,o11,o12,o13],by erw[I0];rfl, ?_⟩
  obtain⟨T',c',x',n',s,hT',lT',hb',hn',e⟩:=zi8 R sR i j n L n1 (n1+1) Z n5 c x hb vs vs hv T (by lia) p5 p8 [o9,o10,o11,o12,o13] (fun k d hk=>q5.fixk (by lia) d) (fun d=>q8.fixk (c8 n) d) (fun k d hk=>z8T hr9 (by lia) d) (by lia) (by lia) (by lia) (by lia) g7
  refine⟨_,e,c',x',T++T',some (.int j),some (.tup (iL s)),n',rfl,hb',fun B hB=> ?_,by simp;lia,iu _ _,iuT,by lia⟩
  rcases c9.mp hB with hB|hB
  ·exact hT B hB
  ·exact hT' B hB) 3 0 ⟨[some R,some (.int i),some (.lst n [.int c2, .int x2]),some (.lst L (wsD vs)),some (Bk n1 (n1+1) vs),p5,some (.lst Z (tD T0)),o7,o8,o9,o10,o11,o12,o13],[some R],Z+1⟩ (by lia) ⟨c2,x2,T0,o7,o8,Z+1,rfl,b2,hT0,by lia,u7,u8,by lia⟩
 rw[show Int.toNat 3=3 from rfl,e5]
 left
 obtain⟨ps,H,hk,lp,g8,e6⟩:=zfY n1 (n1+1) Z vs vs hv (List.Perm.refl _) ho T hT (by lia) (a0:=some R) (a1:=some (.int i)) (a2:=some (.lst n [.int c3, .int x3])) (a3:=some (.lst L (wsD vs))) (a5:=p5) (r:=[p7,p8,o9,o10,o11,o12,o13]) (tm:=[some R]) n5
 rw[e6]
 left
 have u': ∀o:Option D,UpO n o->UpO n5 o:=fun o h=>h.mono (by lia)
 obtain⟨p10,q10,e7⟩:=zi4 (lo:=n5) (H:=H) (l:=n1) (m:=n1+1) hk (by lia) (by lia) (a0:=some R) (a1:=some (.int i)) (a2:=some (.lst n [.int c3, .int x3])) (a3:=some (.lst L (wsD vs))) (a5:=p5) (a6:=some (.lst Z (tD T))) (a7:=p7) (a8:=p8) (r:=[o11,o12,o13]) (tm:=[some R]) (uR _) (iu _ _) (bu (by lia)) (wu (by lia)) (u' _ q5) (tu (by lia)) (u' _ q7) (u' _ q8) (by
  erw[m7]
  exact⟨u' _ u11,u' _ u12,u' _ u13,fun _ h=>nomatch h⟩) (by
  erw[m7]
  exact⟨uR _,fun _ h=>nomatch h⟩) vs o10 (H+1)
 rw[z66 (show y0 9 ⟨[some R,some (.int i),some (.lst n [.int c3, .int x3]),some (.lst L (wsD vs)),some (Bk n1 (n1+1) vs),p5,some (.lst Z (tD T)),p7,p8,some (.lst H (hD ps)),o10,o11,o12,o13],[some R],H+1⟩= .ok (.lst H (hD ps)) ⟨[some R,some (.int i),some (.lst n [.int c3, .int x3]),some (.lst L (wsD vs)),some (Bk n1 (n1+1) vs),p5,some (.lst Z (tD T)),p7,p8,some (.lst H (hD ps)),o10,o11,o12,o13],[some R],H+1⟩ from rfl)]
 left
 rw[show z3a.len [some (.lst H (hD ps)),some R]=ps.length by show(hD ps).length=_;simp[hD],e7]
 left
 rw[z92 hk (by lia)]
 left
 obtain⟨n6,g9,e8⟩:=z8Y n1 (n1+1) L Z (H+1) vs vs hv (List.Perm.refl _) ho T hT (by lia) (by lia) (by lia) (by lia)
 rw[e8]
 left
 have av: ∀{o:Option D},UpO n o->Av3 n n1 (n1+1) n6 o:=fun h=>Av3.of h (by lia) (by lia) (by lia) (by lia)
 have a10:Av3 n n1 (n1+1) n6 p10:=by
  rcases q10 with rfl|⟨N,us,k1,k2,rfl⟩
  ·exact av u10
  ·intro d e j hj
   cases e
   erw[y3,z5t,i4] at hj
   lia
 obtain⟨ws',c4,x4,n7,p12,p13,hw',hp',b4,g10,a12,a13,e9⟩:=zia R sR i n L Z n1 (n1+1) H n5 H n6 c3 x3 b3 vs vs hv (List.Perm.refl _) ho T hT ps hk (by lia) p5 p7 p8 p10 o12 o13 (av q5) (av q7) (av q8) a10 (av u12) (av u13) (by lia) (by lia) (by lia) (by lia) (by lia) g8 (c8 _) (by lia)
 rw[e9]
 left
 obtain⟨n8,g11,e10⟩:=z8Y n1 (n1+1) L Z n7 ws' vs hw' hp' ho T hT (by lia) (by lia) (by lia) (by lia)
 unfold lsM
 left
 rw[e10]
 left
 rw[zfL]
 left
 rw[z95 n1 (n1+1) ws' vs hw' hp' ho]
 left
 rw[z8J (z6W (l:=n8+1) hv).1 (z6W (l:=L) hv).1 rfl (z6W (l:=L) hv).2]
 left
 rw[z92 hk (by lia)]
 left
 rw[zfN]
 left
 refine⟨_,[some (.lst n [.int c4, .int x4]),some (.lst L (wsD vs)),some (Bk n1 (n1+1) ws'),p5,some (.lst Z (tD T)),p7,p8,some (.lst H (h7 ps)),p10,some (.str (shH ps)),p12,p13],rfl, ?_,rfl⟩
 erw[m7]
 refine⟨bu (by lia),wu (by lia),UpO.of fun j hj=>by rw[z5o] at hj;erw[i5,A4,or_false] at hj;lia,q5.mono (by lia),tu (by lia),q7.mono (by lia),q8.mono (by lia),UpO.of fun j hj=> ?_,a10.up.mono (by lia),UpO.of fun j hj=>(by erw[y3] at hj;cases hj),a12.up.mono (by lia),a13.up.mono (by lia),fun _ h=>nomatch h⟩
 have hlp:labsL (h7 ps)=ps.map (·.1):=by rw[<-z3R,z1t]
 erw[y3,hlp,i5] at hj
 rcases hj with rfl|hj
 ·lia
 ·obtain⟨p,hp,rfl⟩:=l7.mp hj
  have:=hk.lb p hp
  lia
theorem zg4(ns:List Int)(hl:ns.length<1000)(n:Nat): ∃n',f_law [.ro (ns.map .int)] n= .ok (.bool true) [.ro (ns.map .int)] n':=by
 unfold f_law
 have e0:zcw=Q6 (z3b (V4 [mCB [mC (.int 1),mCB [mC (.int 3),mCB [y0 0] z1A] zc0] zd9]) (.nm 1) zap) (X8 (mC (.bool true))):=rfl
 rw[e0]
 left
 have w0:((ns.map D.int).length:Int)=ns.length:=by simp
 rw[w0]
 generalize hk:(if(if(ns.length:Int)<3 then(ns.length:Int) else 3)>1 then(if(ns.length:Int)<3 then(ns.length:Int) else 3) else(1:Int))=k
 have hk0:0<=k/\k<=3:=by split at hk<;>(try split at hk)<;>lia
 rw[z2L ⟨by lia,by lia⟩]
 left
 obtain⟨s',e2,o1,r,m,rfl,ur,lr⟩:=z2M (P:=fun i s=> ∃(o1:Option D) (r:List (Option D)) (n:Nat),s=⟨some (.ro (ns.map .int))::o1::r,[some (.ro (ns.map .int))],n⟩/\(∀o∈r,UpO n o)/\r.length=12) (lo:=0) (N:=k.toNat) (g:= .nm 1) (b:=zap) (by
  rintro i hi s ⟨o1,r,n,rfl,ur,lr⟩
  refine⟨some (.ro (ns.map .int))::some (.int i)::r,by erw[I0];rfl, ?_⟩
  obtain⟨n',r',e,h1,h2⟩:=zd3 ns hl i (by lia) n r ur lr
  exact⟨_,e,_,r',n',rfl,h1,h2⟩) k.toNat 0 ⟨[some (.ro (ns.map .int)),none,none,none,none,none,none,none,none,none,none,none,none,none],[some (.ro (ns.map .int))],n⟩ (by lia) ⟨none,i7 12 none,n,rfl,fun o ho=>by rw[List.eq_of_mem_replicate ho];nofun,rfl⟩
 rw[e2]
 left
 exact⟨m,rfl⟩
end My
set_option maxHeartbeats 4000000
namespace Mi
open PySem L2 PySem.Spec PyProof.Rows
noncomputable def z96(K:W.Frag)(np:Nat)(f:FM):Sp:=fun vs H Q E=>vs.length=np/\∀G:Gx,G.K=K->KD K H->spM G np f vs H Q E
theorem zg5{P:Program}{w:World}{K:W.Frag}{mg:Str->Option Value}{base:Heap}{CX:CXT}{k:Nat}{fa:Addr}{fd:FuncData}{x:Str}{f:FM}{G:Gx}(hG:G.K=K)(F:U3 P w K mg base CX k fa fd [x] (spM G 1 f)):U3 P w K mg base CX k fa fd [x] (z96 K 1 f):=
 ⟨fun _ _ _ _ h=>h.1,fun A outer s H args us vs Q E hr e0 hb hv h=>F.run A outer s H args us vs Q E hr e0 hb hv (h.2 G hG fun a o e=>(e0.bs a o (e0.mod.kin a o e)).2)⟩
theorem RDs.ints{G:Gx}{ρ:Nat->Addr}{H:Hp}: ∀ns:List Int,RDs G ρ H (ns.map D.int) (ns.map V.int)
 |[]=>by erw[l3,RDs]
 |n::ns=>by
  erw[b7,RDs]
  exact⟨_,_,rfl,by erw[RD],RDs.ints ns⟩
theorem z4J: ∀ns:List Int,labsL (ns.map D.int)=[]
 |[]=>by erw[l3,labsL]
 |n::ns=>by erw[b7,labsL,y3,z4J ns,m5]
theorem zg6{K:W.Frag}{H:Hp}{a:Addr}{ns:List Int}{f:FM}{E:XK}(e: ∀n,∃n',f [.ro (ns.map D.int)] n= .ok (.bool true) [.ro (ns.map D.int)] n')(hO:zgc H)(hS:SqL K H a (ns.map V.int)):z96 K 1 f [.ref a] H (fun v _=>v= .bl true) E:=by
 refine⟨rfl,fun G hG kd=> ?_⟩
 subst hG
 refine⟨rfl,fun _=>a,0,[.ro (ns.map D.int)], ?_,fun i j hi=>absurd hi (S5 _),fun l hl=>absurd hl (S5 _),fun l hl=> ?_,kd, ?_⟩
 ·erw[RDs,RD]
  refine⟨_,_,rfl,⟨a,ns.map V.int,rfl, ?_,RDs.ints ns⟩,rfl⟩
  rcases hS with(h|h)|h
  ·rcases hO a with z|⟨o,xs,z⟩<;>rw[h] at z<;>cases z
  ·exact .inl h
  ·exact .inr h
 ·erw[labsL,y3,z4J,h9] at hl
  cases hl
 ·obtain⟨n',e⟩:=e 0
  rw[e]
  intro ρ' v H' _ rd _
  erw[RD] at rd
  exact rd
end Mi
namespace My
open PySem L2 Mi
structure DA(K:W.Frag)(x:Str)(st:Stmt)(f:Addr)(d:FuncData):Prop where
 a:W.nsIn K mainGlobals x=some (some (.ref f))
 F:Fun K x x st f d
theorem zic{K:W.Frag}{x:Str}{st:Stmt}{f:Addr}{oc:Value}{od an:Option Addr}{sl:Array (Option Value)}{kV dc pm cd ct:Value}(a:W.nsIn K mainGlobals x=some (some (.ref f)))
 (l:K.lookup f=some ⟨oc,od, .func (W.fnOf x x (x9 st) (J8 st) (y8 st) .none kV dc pm an cd ct),sl⟩) (c:W.codeIn K cd x=true) (k:W.keepIn K (.ref f)=true):
 DA K x st f (W.fnOf x x (x9 st) (J8 st) (y8 st) .none kV dc pm an cd ct):=⟨a,zav l c k⟩
noncomputable def dx{K:W.Frag}{h:Heap}{mg:Str->Option Value}{x:Str}{st:Stmt}{f:Addr}{d:FuncData}{ps:List Str}(X:K.In h)(G:h.Ns mainGlobals mg)(a:DA K x st f d)
 (b: ∀(kV dc pm:Value) (an:Option Addr) (cd ct:Value) (us:List Value),us.length=ps.length->bindArgs (W.fnOf x x (x9 st) (J8 st) (y8 st) .none kV dc pm an cd ct) ⟨us,[]⟩=pure (ps.zip us)):Dx K mg x st ps:=
 ⟨f,d,a.F,a.F.binds b,W.mg_of X G a.a⟩
structure DM(K:W.Frag)(C:Addr)(x q:Str)(st:Stmt)(f:Addr)(d:FuncData):Prop where
 h:z9s K C x f
 F:Fun K x q st f d
theorem zid{K:W.Frag}{C:Addr}{x q:Str}{st:Stmt}{f:Addr}{oc:Value}{od an:Option Addr}{sl:Array (Option Value)}{kV dc pm cd ct:Value}(a:W.findIn K (.ref C) x=some (some (.ref f)))
 (l:K.lookup f=some ⟨oc,od, .func (W.fnOf x q (x9 st) (J8 st) (y8 st) .none kV dc pm an cd ct),sl⟩) (c:W.codeIn K cd q=true) (i:W.isFn K (.ref f)=true) (k:W.keepIn K (.ref f)=true):
 DM K C x q st f (W.fnOf x q (x9 st) (J8 st) (y8 st) .none kV dc pm an cd ct):=⟨⟨a,i,k⟩,zav l c k⟩
noncomputable def dmx{K:W.Frag}{C:Addr}{x q:Str}{st:Stmt}{f:Addr}{d:FuncData}{ps:List Str}(a:DM K C x q st f d)
 (b: ∀(kV dc pm:Value) (an:Option Addr) (cd ct:Value) (us:List Value),us.length=ps.length->bindArgs (W.fnOf x q (x9 st) (J8 st) (y8 st) .none kV dc pm an cd ct) ⟨us,[]⟩=pure (ps.zip us)):Dm K C x q st ps:=
 ⟨f,d,a.F,a.F.binds b,a.h⟩
theorem zg7{l:W.OpenLaw}{w:World}{K:W.Frag}{h:Heap}{mg:Str->Option Value}{fa f0 f1 f2 f3 f4 f5 f6 f7 f8 f9 f10 f11 f12 f13 f14 f15 f16 f17 f18:Addr}{d0 d1 d2 d3 d4 d5 d6 d7 d8 d9 d10 d11 d12 d13 d14 d15 d16 d17 d18:FuncData}(X:K.In h)(G:h.Ns mainGlobals mg)(hfa:mg "law" =some (.ref fa))
 {kaF:Addr} (kaC:nI K "Book" kaF) (cc_Book:Cls K kaF)
 (a0:DA K "_wall" z2w f0 d0)
 (a1:DA K "is_number" z04 f1 d1)
 (a2:DA K "is_whole" z0u f2 d2)
 (a3:DA K "is_row" z1E f3 d3)
 (a4:DA K "is_word" z0X f4 d4)
 (a5:DA K "_law_bag" z5b f5 d5)
 (a6:DA K "_law_take" z3C f6 d6)
 (a7:DA K "_law_whole" z2x f7 d7)
 (a8:DA K "_law_word" z3D f8 d8)
 (a9:DA K "_law_are_words" z05 f9 d9)
 (a10:DA K "_law_words" z2y f10 d10)
 (a11:DA K "_law_begins" z1F f11 d11)
 (a12:DA K "_law_right" z2z f12 d12)
 (a13:DA K "law" zct f13 d13)
 (a14:DM K kaF "__init__" "Book.__init__" G4 f14 d14)
 (a15:DM K kaF "put" "Book.put" z0v f15 d15)
 (a16:DM K kaF "take" "Book.take" z06 f16 d16)
 (a17:DM K kaF "words" "Book.words" X1 f17 d17)
 (a18:DM K kaF "begun" "Book.begun" X2 f18 d18)
 (z0:W.nsIn K mainGlobals "abs" =some none)
 (z1:W.nsIn K mainGlobals "all" =some none)
 (z2:W.nsIn K mainGlobals "bool" =some none)
 {tk3:Nat} (z3:W.nsIn K mainGlobals "LAST_SOUND" =some (some (.int 39 tk3)))
 {tk4:Nat} (z4:W.nsIn K mainGlobals "LAST_WORD_COST" =some (some (.int 9999 tk4)))
 {tk5:Nat} (z5:W.nsIn K mainGlobals "LAST_WORD_KIND" =some (some (.int 7 tk5)))
 {tk6:Nat} (z6:W.nsIn K mainGlobals "LAST_WORD_SIGN" =some (some (.int 999 tk6)))
 {tk7:Nat} (z7:W.nsIn K mainGlobals "MOST_WORDS" =some (some (.int 60 tk7)))
 {tk8:Nat} (z8:W.nsIn K mainGlobals "MOST_WORD_SIGNS" =some (some (.int 4 tk8)))
 {tk9:Nat} (z9:W.nsIn K mainGlobals "MOST_WORD_SOUNDS" =some (some (.int 6 tk9)))
 (z10:W.nsIn K mainGlobals "int" =some none)
 (z11:W.nsIn K mainGlobals "isinstance" =some none)
 (z12:W.nsIn K mainGlobals "len" =some none)
 (z13:W.nsIn K mainGlobals "list" =some none)
 (z14:W.nsIn K mainGlobals "max" =some none)
 (z15:W.nsIn K mainGlobals "min" =some none)
 (z16:W.nsIn K mainGlobals "range" =some none)
 (z17:W.nsIn K mainGlobals "repr" =some none)
 (z18:W.nsIn K mainGlobals "sorted" =some none)
 (z19:W.nsIn K mainGlobals "tuple" =some none)
 (z20:W.nsIn K mainGlobals "zip" =some none)
 {kaw:Addr}
 (q1:nI K "Missing" kaw)
 {kay:Addr}
 (q3:nI K "NoWord" kay)
 {kav:Addr}
 (q5:nI K "TooMany" kav)
 {kaD:Addr}
 (q7:nI K "Twice" kaD)
 (q8:xA K kaw)
 (q9:mO K kaw "object")
 (q10:mO K kaw "BaseException")
 (q11:fA K kaw)
 (q12:fB K kaw)
 (q13:fC K kaw)
 (q14:xA K kay)
 (q15:mO K kay "object")
 (q16:mO K kay "BaseException")
 (q17:fA K kay)
 (q18:fB K kay)
 (q19:fC K kay)
 (q20:xA K kav)
 (q21:mO K kav "object")
 (q22:mO K kav "BaseException")
 (q23:fA K kav)
 (q24:fB K kav)
 (q25:fC K kav)
 (q26:xA K kaD)
 (q27:mO K kaD "object")
 (q28:mO K kaD "BaseException")
 (q29:fA K kaD)
 (q30:fB K kaD)
 (q31:fC K kaD)
 (q32:V7 K kaF "costs")
 (q33:Mk K kaF f14)
 (q34:[kaw,kay,kav,kaD,kaF].Nodup)
 : ∃fd:FuncData,(∀(s:Shared) (v:Value),BindsTo s fd ⟨[v],[]⟩ [("_law_script",v)])/\∀base:Heap,K.In base->base.Ns mainGlobals mg->U3 l.prog w K mg base CX0 6 fa fd ["_law_script"] (z96 K 1 f_law):=by
 have e:=hfa.symm.trans (W.mg_of X G a13.a)
 cases e
 obtain⟨oc,od,kV,doc,pm,an,cdv,ct,osl,rfl,lk,hcd⟩:=a13.F.ex
 exact⟨_,fun s v=> .of_eq rfl,fun base _ _=>zg5 rfl (zf8 ⟨kaF,W.mg_of X G kaC,cc_Book,dx X G a0 fun _ _ _ _ _ _ us hl=>match us,hl with|[_],_=>rfl,dx X G a1 fun _ _ _ _ _ _ us hl=>match us,hl with|[_],_=>rfl,dx X G a2 fun _ _ _ _ _ _ us hl=>match us,hl with|[_,_,_],_=>rfl,dx X G a3 fun _ _ _ _ _ _ us hl=>match us,hl with|[_,_,_,_],_=>rfl,dx X G a4 fun _ _ _ _ _ _ us hl=>match us,hl with|[_],_=>rfl,dx X G a5 fun _ _ _ _ _ _ us hl=>match us,hl with|[_,_],_=>rfl,dx X G a6 fun _ _ _ _ _ _ us hl=>match us,hl with|[_,_],_=>rfl,dx X G a7 fun _ _ _ _ _ _ us hl=>match us,hl with|[_],_=>rfl,dx X G a8 fun _ _ _ _ _ _ us hl=>match us,hl with|[_],_=>rfl,dx X G a9 fun _ _ _ _ _ _ us hl=>match us,hl with|[_],_=>rfl,dx X G a10 fun _ _ _ _ _ _ us hl=>match us,hl with|[_],_=>rfl,dx X G a11 fun _ _ _ _ _ _ us hl=>match us,hl with|[_,_],_=>rfl,dx X G a12 fun _ _ _ _ _ _ us hl=>match us,hl with|[_,_,_],_=>rfl,dx X G a13 fun _ _ _ _ _ _ us hl=>match us,hl with|[_],_=>rfl,dmx a14 fun _ _ _ _ _ _ us hl=>match us,hl with|[_],_=>rfl,dmx a15 fun _ _ _ _ _ _ us hl=>match us,hl with|[_,_],_=>rfl,dmx a16 fun _ _ _ _ _ _ us hl=>match us,hl with|[_,_,_,_],_=>rfl,dmx a17 fun _ _ _ _ _ _ us hl=>match us,hl with|[_],_=>rfl,dmx a18 fun _ _ _ _ _ _ us hl=>match us,hl with|[_,_],_=>rfl,W.mg_none_of X G z0,W.mg_none_of X G z1,W.mg_none_of X G z2,⟨_,W.mg_of X G z3⟩,⟨_,W.mg_of X G z4⟩,⟨_,W.mg_of X G z5⟩,⟨_,W.mg_of X G z6⟩,⟨_,W.mg_of X G z7⟩,⟨_,W.mg_of X G z8⟩,⟨_,W.mg_of X G z9⟩,W.mg_none_of X G z10,W.mg_none_of X G z11,W.mg_none_of X G z12,W.mg_none_of X G z13,W.mg_none_of X G z14,W.mg_none_of X G z15,W.mg_none_of X G z16,W.mg_none_of X G z17,W.mg_none_of X G z18,W.mg_none_of X G z19,W.mg_none_of X G z20,kaw,W.mg_of X G q1,kay,W.mg_of X G q3,kav,W.mg_of X G q5,kaD,W.mg_of X G q7,q8,q9,q10,q11,q12,q13,q14,q15,q16,q17,q18,q19,q20,q21,q22,q23,q24,q25,q26,q27,q28,q29,q30,q31,q32,q33,q34⟩)⟩
theorem zjk{l:W.OpenLaw}{q:Program}{loose:List Str}{XP:(Str->Option Value)->Heap->Prop}{YP:World->Heap->Prop}{d:DefRec}{K:Params->W.Frag}(hn:l.most=some 63)(hdf:d.params.defaults=[])
 (hY: ∀(w:World) (h:Heap),YP w h->(K w.params).In h)
 (F: ∀(w:World) (mg:Str->Option Value) (fa:Addr) (h:Heap),(K w.params).In h->h.Ns mainGlobals mg->mg d.name=some (.ref fa)->
  ∃fd:FuncData,(∀(s:Shared) (u:Value),BindsTo s fd ⟨[u],[]⟩ [("_law_script",u)])/\∀base:Heap,(K w.params).In base->base.Ns mainGlobals mg->U3 l.prog w (K w.params) mg base CX0 6 fa fd ["_law_script"] (z96 (K w.params) 1 f_law)):
 W.WalkO q loose XP YP l.row.toRowW d [] (fun f vs=>PySem.call f vs):=
 L2.zbJ (n:=63) (k:=6) (x:= "_law_script") (CX:=fun _=>CX0) (sp:=fun w=>z96 (K w.params) 1 f_law) hn (by decide) hdf ⟨rfl,by decide,by decide,rfl⟩ hY F (fun _ _ a ns hl hO hS=>zg6 (fun n=>zg4 ns (by lia) n) hO hS) fun _ _ _ _ _ h=>h.elim
end My
inductive PySem.W.Fast:Prop|tw12260789969650445760|tw5580581664411726147|tw143791944963649857|tw1921304465602910837|tw6072602752607299351|tw5989356703675138023|tw16400422053721145883|tw9120552273351691639|tw5782921128322193709|tw8656507295614787139|tw11034852460119012428|tw8086277050328332959|tw9387923812427290668|tw3478887399241938076|tw9463339056837746609|tw12388281833952247285|tw12408476693909836587|tw9289594912847270881|tw13135258240134960307|tw11139694241218686616|tw8085829229405340891|tw14605052122615828224|tw14780679241893635342|tw2866493364580904806|tw5337337235908519063|tw2319462487892166546|tw17935282144666460560|tw10408952491738293850|tw10582118190033118836|tw6830917679675521699|tw9807943415005797432|tw13103028901863455827|tw14176418552608227911|tw12613790115303309874|tw11871590039842762602|tw11109355101267992299|tw15520826944318838952|tw2047649390707515961|tw17657272331926487623|tw2481758563610961642|tw7477403073616654613|tw4523975248533333428|tw2934602009748868014|tw11443665146288811897|tw1282750358624130552|tw18113476805879220618|tw16717910073800696926|tw17692620593780208510|tw7138898694580048010|tw16129864717746758552|tw7635065330593595365|tw12383061129680838706|tw1859122220763040332|tw9399608669142133711|tw4656671396970804297
open PySem PySem.W PyProof.Rows
set_option maxRecDepth 100000 in
set_option maxHeartbeats 0 in
theorem PySem.Challenge.cw_signbench_k11_words_begun_holds : PySem.Challenge.rw_signbench_k11_words_begun.Holds := by
 w_on;o_law;k_head;(case hw=>w_witness2)
 k_fill
 refine My.zjk (l:=PySem.Challenge.rw_signbench_k11_words_begun) rfl rfl (fun w h Y=>PySem.W.kIn_of Y) ?F
 case F=>
  intro w mg fa h KX G hmg
  apply My.zg7 KX G hmg<;>(try delta My.nI My.kF My.kN My.kV My.fA My.fB My.fC My.xA My.mO My.eB)<;>first|(apply My.zic<;>k_is)|(apply My.zid<;>k_is)|(apply L2.Cls.mk<;>k_is)|(apply L2.Mk.mk<;>k_is)|k_is|kernel_rfl|rfl|decide
