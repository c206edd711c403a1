import PyProof.Rows.All
import Wide.All
import OpenK.AllK
import Wide.FinOn
import Lean
import PyProof.EqAt
import PyProof.EqKinds
import PyProof.TupleCall
import PyProof.CallStr
import PyProof.DictTruth
import PyProof.Draws
import PyProof.EnumMake
import PyProof.ListRange
import PyProof.P3Eq
import PyProof.Rows.CallKw2
import PyProof.Rows.CountFlat
import PyProof.Rows.Range3
import PyProof.Rows.ZipGen
import PyProof.SumAny
import PyProof.ZipIter
import PySem.Challenge.RW_signbench_k08_words_put_in
local macro_rules|`(tactic|erw[$[$e:term],*]$[$l:location]?)=>`(tactic|simp only[$[$e:term],*]$[$l:location]?)
open List renaming mem_append_right→b6,mem_cons_of_mem→b7,mem_append_left→b8,map_cons→b9,mem_append→c8,append_nil→c9,replicate→e6,mem_cons→e7,mem_cons_self→e9,size_toArray→i4,length_cons→i5,lookup_cons→i8,length_map→i9,map_nil→l3,length_append→l5,cons_append→l7,forall_mem_cons→l8,reverse_cons→l9,mem_singleton→m5,mem_map→m7,nil_append→m8,append_assoc→m9,not_mem_nil→n9,replicate_succ→o0,set_cons_zero→r6,length_nil→r8,all_eq_true→t9,lookup→A2,set_cons_succ→A4,flatten_cons→A5,zipWith_cons_cons→A8,take_append_drop→B3,zipWith→B4,range→B5,eraseIdx_cons_succ→B7,reverse_nil→B8,nodup_cons→C0,map_append→C1,getElem_mem→C4,take_succ_cons→C5,reverse_append→C6,drop_drop→D2,append_eq_nil_iff→D3,suffix_refl→D5,Nodup→D6,of_mem_zip→D8,foldl_cons→D9,filterMap_cons→E3,length_reverse→E4,map_congr_left→E5,drop_succ_cons→E6,mem_filterMap→E9,foldl→F0,contains_cons→F2,drop_eq_getElem_cons→F3,any_cons→F6,length_take→I0,zipIdx_cons→L5,length_replicate→L9,drop_zero→M0,zip_cons_cons→M9,contains_nil→N5,length_drop→N6,isEmpty_iff→N8,any_eq_true→N9,isEmpty_nil→O0,mem_filter→O2,nil_suffix→O3,mem_range→O6,nodup_nil→O7,flatten→P4,any_map→P5,map_map→P6,length→P8,range'→P9
open Nat renaming le_refl→e8,lt_of_lt_of_le→i7,ne_of_lt→l0,le_of_ble_eq_true→n8,le_trans→s0,lt_succ_self→t7,lt_succ_of_lt→A6,lt_of_le_of_lt→B1,lt_irrefl→B6,zero_le→B9,not_lt→C9,add_assoc→D7,zero_add→E7,reduceAdd→F7,reduceSub→F8,succ_le_succ→L4,le_of_eq→L8,le_of_lt→N1,ne_of_gt→N2,mul_comm→N3,le_succ_of_le→N4,le_of_not_lt→N7,le_succ→O1,not_lt_zero→O5,lt_trans→P2,lt_or_ge→P3,sub_self→P7
open Bool renaming and_eq_true→i3,false_ne_true→i6,false_eq_true→t8,eq_false_iff→A7,true_and→A9,eq_iff_iff→C7,false_and→D0,noConfusion→D4,not_eq_true'→F4,and_true→F9,or_false→M7,or_eq_true→O4,not_false→O8,false_or→O9,and_self→P0,true_or→P1
open Option renaming map_some→p4,getD_some→A3,getD_none→B0,map_none→C8,isSome_map→D1,isSome_iff_exists→F5,bind_eq_some_iff→L6,bind_some→L7
open Int renaming emod_lt_of_pos→B2,emod_nonneg→C2,toNat_natCast→C3,zero_add→E8,reduceBEq→M8
set_option Elab.async false
set_option linter.all false
set_option maxRecDepth 100000
set_option maxHeartbeats 4000000
namespace L2
open PySem PySem.Spec PyProof.Rows
noncomputable abbrev Key:=Sum Int Str
noncomputable def z5Y:Key->Value->Bool
 | .inl k,v=>Value.isInt k v
 | .inr x,v=>Value.isStrOf x v
noncomputable def ziR(w:World):Key->Int
 | .inl k=>hashInt k
 | .inr x=>hashStr w x
theorem w8: ∀{k:Key} {v:Value},z5Y k v=true->(∃i t,k=Sum.inl i/\v=Value.int i t)\/(∃x t,k=Sum.inr x/\v=Value.str x t)
 | .inl i,v,h=>by
  obtain⟨t,e⟩:=Value.isInt_shape (k:=i) (v:=v) h
  exact .inl ⟨i,t,rfl,e⟩
 | .inr x,v,h=>by
  obtain⟨t,e⟩:=Value.isStrOf_shape (x:=x) (v:=v) h
  exact .inr ⟨x,t,rfl,e⟩
theorem z6K(i:Int)(t:Tok):z5Y (.inl i) (.int i t)=true:=by simp[z5Y,Value.isInt]
theorem z6L(x:Str)(t:Tok):z5Y (.inr x) (.str x t)=true:=by simp[z5Y,Value.isStrOf]
theorem zdg(a b:Int):decide ((Sum.inl a:Key)=Sum.inl b)=(a==b):=by
 by_cases e:a=b
 ·subst e;simp
 ·have h: ¬(Sum.inl a:Key)=Sum.inl b:=fun q=>e (Sum.inl.inj q)
  rw[decide_eq_false h]
  exact(beq_eq_false_iff_ne.mpr e).symm
theorem zdh(a b:Str):decide ((Sum.inr a:Key)=Sum.inr b)=decide (a=b):=by
 by_cases e:a=b
 ·subst e;simp
 ·have h: ¬(Sum.inr a:Key)=Sum.inr b:=fun q=>e (Sum.inr.inj q)
  rw[decide_eq_false h,decide_eq_false e]
theorem zdi(a:Int)(b:Str):decide ((Sum.inl a:Key)=Sum.inr b)=false:=decide_eq_false (fun q=>nomatch q)
theorem zdj(a:Str)(b:Int):decide ((Sum.inr a:Key)=Sum.inl b)=false:=decide_eq_false (fun q=>nomatch q)
noncomputable def Y4(prog:Program)(w:World):PySem.KeyKind prog w Key where
 is:=z5Y
 hash:=ziR w
 inj:=fun v a b ha hb=>by
  rcases w8 ha with⟨i,t,rfl,rfl⟩|⟨x,t,rfl,rfl⟩
  ·rcases w8 hb with⟨j,u,rfl,e⟩|⟨y,u,rfl,e⟩
   ·injection e with e1 _;rw[e1]
   ·exact nomatch e
  ·rcases w8 hb with⟨j,u,rfl,e⟩|⟨y,u,rfl,e⟩
   ·exact nomatch e
   ·injection e with e1 _;rw[e1]
 byValue:=fun k v h=>by
  rcases w8 h with⟨i,t,rfl,rfl⟩|⟨x,t,rfl,rfl⟩<;>rfl
 pyHash:=fun hv h=>by
  rcases w8 hv with⟨i,t,rfl,rfl⟩|⟨x,t,rfl,rfl⟩
  ·exact wpAny_pyHash_int h
  ·exact wpAny_pyHash_str h
 eqBool:=fun hu hv h=>by
  rcases w8 hu with⟨i,t,rfl,rfl⟩|⟨x,t,rfl,rfl⟩
  ·rcases w8 hv with⟨j,u,rfl,rfl⟩|⟨y,u,rfl,rfl⟩
   ·rw[zdg] at h;exact wpAny_eqBool_int h
   ·rw[zdi] at h;exact SeqAt.EqAt.int_str i t y u _ _ _ _ h
  ·rcases w8 hv with⟨j,u,rfl,rfl⟩|⟨y,u,rfl,rfl⟩
   ·rw[zdj] at h;exact SeqAt.EqAt.str_int x t j u _ _ _ _ h
   ·rw[zdh] at h;exact wpAny_eqBool_str h
 «strs» :=fun k x t v h=>by
  rcases w8 h with⟨i,u,rfl,e⟩|⟨y,u,rfl,e⟩
  ·exact nomatch e
  ·injection e with e1 _
   subst e1
   cases v<;>rfl
theorem z4w(prog:Program)(w:World)(i:Int)(t:Tok):(Y4 prog w).is (.inl i) (.int i t)=true:=z6K i t
theorem z4x(prog:Program)(w:World)(x:Str)(t:Tok):(Y4 prog w).is (.inr x) (.str x t)=true:=z6L x t
inductive V where
 |non|bl (b:Bool)|int (i:Int)|str (x:Str)|byt (b:Array UInt8)|flt (b:UInt64)|ref (a:Addr)|ty (n:String)
 deriving DecidableEq
noncomputable def RelV:V->Value->Prop
 | .non,u=>u=Value.none
 | .bl b,u=>u=Value.bool b
 | .int i,u=> ∃t,u=Value.int i t
 | .str x,u=> ∃t,u=Value.str x t
 | .byt b,u=> ∃t,u=Value.bytes b t
 | .flt b,u=> ∃t,u=Value.float b t
 | .ref a,u=>u=Value.ref a
 | .ty n,u=>u=Value.type n
noncomputable abbrev w4:List V->List Value->Prop:=Paired RelV
theorem w4.length{xs:List V}{us:List Value}(r:w4 xs us):xs.length=us.length:=Paired.length r
theorem w4.get: ∀{xs:List V} {us:List Value} {i:Nat} {x:V},w4 xs us->xs[i]? =some x->∃u,us[i]? =some u/\RelV x u
 |_,_,_,_, .nil,e=>by simp at e
 |_,_,0,_, .cons r _,e=>by simp at e;subst e;exact⟨_,rfl,r⟩
 |_,_,i+1,x, .cons _ t,e=>by
  obtain⟨u,h1,h2⟩:=w4.get (i:=i) (x:=x) t (by simpa using e)
  exact⟨u,by simpa using h1,h2⟩
theorem w4.set{x:V}{u:Value}(r:RelV x u): ∀{xs:List V} {us:List Value} (i:Nat),w4 xs us->w4 (xs.set i x) (us.set i u)
 |_,_,_, .nil=> .nil
 |_,_,0, .cons _ t=> .cons r t
 |_,_,i+1, .cons q t=> .cons q (w4.set r i t)
theorem w4.append: ∀{xs ys:List V} {us ws:List Value},w4 xs us->w4 ys ws->w4 (xs++ys) (us++ws)
 |_,_,_,_, .nil,s=>s
 |_,_,_,_, .cons r t,s=> .cons r (w4.append t s)
theorem w4.take: ∀{xs:List V} {us:List Value} (n:Nat),w4 xs us->w4 (xs.take n) (us.take n)
 |_,_,0,_=> .nil
 |_,_,_+1, .nil=> .nil
 |_,_,n+1, .cons r t=> .cons r (w4.take n t)
theorem w4.drop: ∀{xs:List V} {us:List Value} (n:Nat),w4 xs us->w4 (xs.drop n) (us.drop n)
 |_,_,0,r=>r
 |_,_,_+1, .nil=> .nil
 |_,_,n+1, .cons _ t=>w4.drop n t
noncomputable def RelO:Option V->Option Value->Prop
 |some v,some u=>RelV v u
 |none,none=>True
 |_,_=>False
noncomputable def KV{κ:Type}:List (κ×V)->List (κ×Value)->Prop:=Paired fun(p:κ×V) (q:κ×Value)=>p.1=q.1/\RelV p.2 q.2
noncomputable def kV:Key->V
 | .inl i=> .int i
 | .inr x=> .str x
theorem Paired.mapP{α β:Type}{F G:α->β->Prop}: ∀{l₁:List α} {l₂:List β},Paired F l₁ l₂->(∀a b,F a b->G a b)->Paired G l₁ l₂
 |_,_, .nil,_=> .nil
 |_,_, .cons r t,f=> .cons (f _ _ r) (Paired.mapP t f)
noncomputable abbrev NK:=List (Key⊕List Key)
section
variable(P:Program)(w:World)
noncomputable def ItN(h:Heap):Key⊕List Key->Value->Prop
 | .inl k,v=>(Y4 P w).is k v=true
 | .inr ks,v=> ∃c,v= .ref c/\IsTupleKey (Y4 P w) h ks c
noncomputable def IsN(h:Heap)(k:NK)(a:Addr):Prop:= ∃o items n,h.get? a=some o/\o.cls= .type "tuple" /\o.data= .seq items n/\Paired (ItN P w h) k items.toList
noncomputable def hsN:Key⊕List Key->Int
 | .inl k=>(Y4 P w).hash k
 | .inr ks=>tupleKeyHash (Y4 P w) ks
noncomputable def drN:Key⊕List Key->Nat
 | .inl _=>1
 | .inr ks=>ks.length+1
end
section
variable{P:Program}{w:World}{h:Heap}
theorem zb5{x y:Key⊕List Key}{v:Value}(hx:ItN P w h x v)(hy:ItN P w h y v):x=y:=by
 cases x with
 |inl k=>
  cases y with
  |inl k'=>rw[(Y4 P w).inj v k k' hx hy]
  |inr ks=>obtain⟨c,rfl,_⟩:=hy;have:=(Y4 P w).byValue _ _ hx;simp[carriedByValue] at this
 |inr ks=>
  obtain⟨c,rfl,hc⟩:=hx
  cases y with
  |inl k'=>have:=(Y4 P w).byValue _ _ hy;simp[carriedByValue] at this
  |inr ks'=>obtain⟨c',e,hc'⟩:=hy;cases e;rw[hc.inj hc']
theorem z34: ∀{x y:NK} {vs:List Value},Paired (ItN P w h) x vs->Paired (ItN P w h) y vs->x=y
 |_,_,_, .nil, .nil=>rfl
 |_,_,_, .cons a b, .cons c d=>by rw[zb5 a c,z34 b d]
variable{A:Around}{E:Value->Shared->Prop}{s:Shared}
theorem z3H{M:Model}{a:Addr}{o:Obj}{items:Array Value}{n m:Nat}{Q:Bool->Shared->Prop}(ho:s.heap.get? a=some o)(hc:o.cls= .type "tuple")(hd:o.data= .seq items n)(hi: ∀v∈items.toList,∀(R:Bool->Shared->Prop) E,R true s->wpAny M A (eqIsQuiet m v) R E s)(q:Q true s):wpAny M A (eqIsQuiet (m+1) (.ref a)) Q E s:=by
 have hT:s.TypeIs (.ref a) "tuple" :=⟨o,ho,hc⟩
 rw[eqIsQuiet]
 refine wpAny_bind (wpAny_specialOf hT PySem.F.slot_tuple_eq.lookup ?_)
 dsimp only
 refine wpAny_bind (wpAny_isInstance hT isSubtype_tuple_tuple ?_)
 rw[if_neg (by decide)]
 refine wpAny_bind (wpAny_seqItems ho hd ?_)
 refine wpAny_bind ?_
 dsimp only[A3]
 rw[<-Array.forIn_toList]
 refine wpAny_forIn_list _ (fun r b s'=>b.1=none/\s'=s/\∀v∈r,v∈items.toList) _ ?_ ?_ _ _ ⟨rfl,rfl,fun v hv=>hv⟩
 ·rintro v r b s' ⟨_,rfl,hm⟩
  refine wpAny_bind (hi v (hm v e9) _ _ ?_)
  rw[if_neg (by decide)]
  exact wpAny_pure ⟨rfl,rfl,fun u hu=>hm u (b7 _ hu)⟩
 ·rintro ⟨b1,b2⟩ s' ⟨hb,rfl,_⟩
  dsimp only at hb
  subst hb
  exact wpAny_pure q
theorem z3I{P':Program}{w':World}: ∀{ks:List Key} {vs:List Value},ItemsAre (Y4 P w) ks vs->ItemsAre (Y4 P' w') ks vs
 |_,_, .nil=> .nil
 |_,_, .cons a b=> .cons a (z3I b)
theorem z6M{P':Program}{w':World}{ks:List Key}{c:Addr}(hk:IsTupleKey (Y4 P w) h ks c):IsTupleKey (Y4 P' w') h ks c:=by
 obtain⟨o,items,n,h1,h2,h3,h4⟩:=hk
 exact⟨o,items,n,h1,h2,h3,z3I h4⟩
theorem zdk{x y:Key⊕List Key}{u v:Value}(hu:A.units<cLine)(hx:ItN P w s.heap x u)(hy:ItN P w s.heap y v):SeqAt.EqAt A s u v (decide (x=y)):=fun prog w' E Q q=>by
 cases x with
 |inl k=>
  cases y with
  |inl k'=>exact(Y4 prog w').eqBool (a:=k) (b:=k') hx hy (by rw[show decide (k=k')=decide ((Sum.inl k:Key⊕List Key)=Sum.inl k') by by_cases e:k=k'<;>simp[e]];exact q)
  |inr ks=>
   obtain⟨c,rfl,o,items,n,h1,h2,h3,_⟩:=hy
   rw[decide_eq_false (fun e=>nomatch e)] at q
   rcases w8 hx with⟨i,t,rfl,rfl⟩|⟨z,t,rfl,rfl⟩
   ·exact SeqAt.EqAt.int_tuple i t ⟨o,h1,h2,n,h3⟩ hu prog w' E Q q
   ·exact SeqAt.EqAt.str_tuple z t ⟨o,h1,h2,n,h3⟩ hu prog w' E Q q
 |inr ks=>
  obtain⟨c,rfl,hc⟩:=hx
  cases y with
  |inl k'=>
   obtain⟨o,items,n,h1,h2,h3,_⟩:=hc
   rw[decide_eq_false (fun e=>nomatch e)] at q
   rcases w8 hy with⟨i,t,rfl,rfl⟩|⟨z,t,rfl,rfl⟩
   ·exact SeqAt.EqAt.tuple_int i t ⟨o,h1,h2,n,h3⟩ hu prog w' E Q q
   ·exact SeqAt.EqAt.tuple_str z t ⟨o,h1,h2,n,h3⟩ hu prog w' E Q q
  |inr ks'=>
   obtain⟨c',rfl,hc'⟩:=hy
   refine wpAny_eqBool_tuple (knd:=Y4 prog w') hu (z6M hc) (z6M hc') ?_
   rw[show decide (ks=ks')=decide ((Sum.inr ks:Key⊕List Key)=Sum.inr ks') by by_cases e:ks=ks'<;>simp[e]];exact q
theorem zb6{α:Type}[DecidableEq α](x y:List α):((B5 (min x.length y.length)).all (fun j=>decide (x[j]? =y[j]?))&&x.length==y.length)=decide (x=y):=by
 rw[C7]
 erw[i3,t9,O6,decide_eq_true_eq,beq_iff_eq]
 constructor
 ·rintro ⟨h1,h2⟩
  apply List.ext_getElem?
  intro j
  by_cases hj:j<x.length
  ·exact h1 j (by lia)
  ·rw[List.getElem?_eq_none (by lia),List.getElem?_eq_none (by lia)]
 ·rintro rfl;exact⟨fun _ _=>rfl,rfl⟩
theorem Paired.get2{α β:Type}{F:α->β->Prop}: ∀{l:List α} {m:List β},Paired F l m->∀j (h1:j<l.length) (h2:j<m.length),F l[j] m[j]
 |_,_, .cons a b,0,_,_=>a
 |_,_, .cons a b,j+1,h1,h2=>Paired.get2 b j (by simpa using h1) (by simpa using h2)
theorem zdl{x y:NK}{a b:Addr}{Q:Bool->Shared->Prop}(hu:A.units+1<cLine)(hx:IsN P w s.heap x a)(hy:IsN P w s.heap y b)(q:Q (decide (x=y)) s):wpAny (model P w) A (eqBool (.ref a) (.ref b)) Q E s:=by
 by_cases e:a=b
 ·subst e
  obtain⟨o,items,n,h1,h2,h3,h4⟩:=hx
  obtain⟨o',items',n',k1,k2,k3,k4⟩:=hy
  obtain rfl:o=o':=Option.some.inj (h1.symm.trans k1)
  rw[h3] at k3
  injection k3 with k3 _
  subst k3
  obtain rfl:=z34 h4 k4
  exact SeqAt.EqAt.same _ P w E Q (by simpa using q)
 ·obtain⟨o,items,n,h1,h2,h3,h4⟩:=hx
  obtain⟨o',items',n',k1,k2,k3,k4⟩:=hy
  have l1:x.length=items.size:=by have:=Paired.length h4;simpa using this
  have l2:y.length=items'.size:=by have:=Paired.length k4;simpa using this
  refine SeqAt.EqAt.of_refs e (SeqAt.RcAt.tuples (e:=fun j=>decide (x[j]? =y[j]?)) ⟨o,h1,h2,n,h3⟩ ⟨o',k1,k2,n',k3⟩ (by lia) fun j j1 j2=> ?_) P w E Q ?_
  ·have:=zdk (A:=A.in1) (show A.units+1<cLine from hu) (Paired.get2 h4 j (by lia) (by simpa using j1)) (Paired.get2 k4 j (by lia) (by simpa using j2))
   rw[List.getElem?_eq_getElem (by lia),List.getElem?_eq_getElem (by lia)]
   simpa using this
  ·rw[<-l1,<-l2,zb6];exact q
theorem z8H{k:Key⊕List Key}{v:Value}{Q:Int->Shared->Prop}(hu:A.units<cLine)(hk:ItN P w s.heap k v)(q:Q (hsN P w k) {s with toks:=s.toks+drN k}):wpAny (model P w) A (pyHash v) Q E s:=by
 cases k with
 |inl k=>exact(Y4 P w).pyHash hk q
 |inr ks=>obtain⟨c,rfl,hc⟩:=hk;exact wpAny_pyHash_tuple hu hc q
theorem z8I{k:NK}{a:Addr}{Q:Int->Shared->Prop}(hu:A.units+1<cLine)(hk:IsN P w s.heap k a)(q:Q (reduceHash (Builtin.Tuple.tupleHashOf (k.map (hsN P w)))) {s with toks:=s.toks+((k.map drN).sum+1)}):wpAny (model P w) A (pyHash (.ref a)) Q E s:=by
 obtain⟨o,items,n,ho,hc,hd,hi⟩:=hk
 have hT:s.TypeIs (.ref a) "tuple" :=⟨o,ho,hc⟩
 unfold pyHash
 unfold pyHashByItsType
 refine wpAny_bind (wpAny_cRoomFor_or (.inr (by lia)) ?_)
 refine wpAny_bind (wpAny_specialOf hT PySem.F.slot_tuple_hash.lookup ?_)
 rw[if_neg (show ¬(some (Value.builtin "tuple.__hash__")==some Value.none)=true by rw[beq_builtin_none];decide)]
 refine wpAny_bind (wpAny_specialOf hT PySem.F.slot_tuple_hash.lookup ?_)
 refine wpAny_bind (wpAny_callSpecialIfBoundUnlessNone?_slot hT PySem.F.slot_tuple_hash (wpAny_call_entry PySem.F.slot_tuple_hash hT PySem.F.entry_tuple_hash ?_ (PySem.F.args_tuple_hash_1 _)))
 change wpAny _ A.in1 (Builtin.Tuple.tupleItemsOf (Value.ref a)>>=_) _ _ s
 refine wpAny_bind (wpAny_tupleItemsOf ho hd (wpAny_bind ?_))
 rw[<-Array.forIn_toList]
 refine wpAny_forIn_list _ (fun r (b:Array Int) s'=> ∃d l,k=d++l/\Paired (ItN P w s.heap) l r/\b.toList=d.map (hsN P w)/\s'={s with toks:=s.toks+(d.map drN).sum}) _ ?_ ?_ _ _ ⟨[],k,rfl,hi,rfl,rfl⟩
 ·rintro x r b s' ⟨d,l,rfl,hl,hb,rfl⟩
  cases hl with
  | @cons z _ l' _ h1 hl'=>
   refine wpAny_bind (z8H (A:=A.in1) (s:={s with toks:=s.toks+(d.map drN).sum}) (show A.units+1<cLine from hu) h1 ?_)
   have fin: ∃d' l2,d++z::l'=d'++l2/\Paired (ItN P w s.heap) l2 r/\(b.push (hsN P w z)).toList=d'.map (hsN P w)/\({s with toks:=s.toks+(d.map drN).sum+drN z}:Shared)={s with toks:=s.toks+(d'.map drN).sum}:=⟨d++[z],l',by simp,hl',by simp[hb],by simp[D7]⟩
   exact wpAny_pure fin
 ·rintro b s' ⟨d,l,rfl,hl,hb,rfl⟩
  cases hl
  rw[c9] at q
  change wpAny _ A.in1 (retInt (Builtin.Tuple.tupleHashOf b.toList)) _ _ _
  rw[hb]
  refine wpAny_ret_mkInt ?_
  unfold reduceHash at q
  show wpAny _ _ (if(decide (-(2:Int)^63<=Builtin.Tuple.tupleHashOf (d.map (hsN P w)))&&decide (Builtin.Tuple.tupleHashOf (d.map (hsN P w))<2^63))=true then _ else _) Q E _
  split
  ·rename_i hr
   rw[if_pos hr] at q
   exact wpAny_pure (by simpa[D7] using q)
  ·rename_i hr
   rw[if_neg hr] at q
   exact wpAny_bind (wpAny_rule (wpAny_pure (by simpa[D7] using q)))
theorem z6N{k:NK}{a:Addr}{Q:Bool->Shared->Prop}(hk:IsN P w s.heap k a)(q:Q true s):wpAny (model P w) A (eqIsQuiet 8 (.ref a)) Q E s:=by
 obtain⟨o,items,n,h1,h2,h3,h4⟩:=hk
 refine z3H h1 h2 h3 (fun v hv R E' r=> ?_) q
 have all: ∀{k:NK} {vs:List Value},Paired (ItN P w s.heap) k vs->∀v∈vs,∃z,ItN P w s.heap z v:=by
  intro k vs p
  induction p with
  |nil=>intro v hv;cases hv
  |cons a b ih=>
   intro v hv
   rcases e7.mp hv with rfl|hv
   ·exact⟨_,a⟩
   ·exact ih v hv
 obtain⟨z,hz⟩:=all h4 v hv
 cases z with
 |inl k=>rw[eqIsQuiet_byValue _ ((Y4 P w).byValue _ _ hz)];exact wpAny_pure r
 |inr ks=>
  obtain⟨c,rfl,o,items,n,h1,h2,h3,h4⟩:=hz
  exact z3H h1 h2 h3 (fun v hv R E' r=>by rw[eqIsQuiet_byValue _ (h4.byValue v hv)];exact wpAny_pure r) r
theorem z6O{h':Heap}{d:Addr}{o:Obj}{es:Array DictEntry}{ep:Nat}(ho:h.get? d=some o)(hd:o.data= .dict es ep)(hs:Heap.SameBut d h h'): ∀{k:NK} {vs:List Value},Paired (ItN P w h) k vs->Paired (ItN P w h') k vs:=fun p=>Paired.mapP p fun z v q=>by
 cases z with
 |inl k=>exact q
 |inr ks=>obtain⟨c,rfl,hc⟩:=q;exact⟨c,rfl,hc.keeps ho hd hs⟩
end
noncomputable def U6(P:Program)(w:World):HeapKind P w NK where
 is:=IsN P w
 hash:=fun k=>reduceHash (Builtin.Tuple.tupleHashOf (k.map (hsN P w)))
 draws:=fun k=>(k.map drN).sum+1
 room:=fun A=>A.units+1<cLine
 inj:=fun⟨o,items,n,h1,_,h3,h4⟩ ⟨o',items',n',k1,_,k3,k4⟩=>by
  obtain rfl:o=o':=Option.some.inj (h1.symm.trans k1)
  rw[h3] at k3
  injection k3 with k3 _
  subst k3
  exact z34 h4 k4
 keeps:=fun{h h' k a d o es ep} ⟨o',items,n,h1,h2,h3,h4⟩ ho hd hs=>by
  have hne:a≠d:=by
   rintro rfl
   obtain rfl:o'=o:=Option.some.inj (h1.symm.trans ho)
   rw[hd] at h3;cases h3
  exact⟨o',items,n,(hs.2 a hne).trans h1,h2,h3,z6O ho hd hs h4⟩
 pyHash:=fun hu hk q=>z8I hu hk q
 eqBool:=fun hu hx hy q=>zdl hu hx hy q
 quiet:=fun hk q=>z6N hk q
theorem V3{P:Program}{w:World}{A:Around}(hu:A.units+2<cLine):(U6 P w).room A.in1:=hu
inductive HO where
 |lst (xs:List V)
 |tup (xs:List V)
 |dK (kvs:List (Key×V))|dT (kvs:List (NK×V))
 |set (S:Int->Bool) (n:Nat)
 |ins (C dx:Addr) (fs:List (Str×V))
 |own (x:Addr)
 |xd (fs:List (Str×V))
 |met (f x:Addr)
 |rng (lo hi:Int)
 |frz (o:Obj) (u:HO)
 |tbl (ps:Array Value)
 |ext (φ:Heap->Prop)
noncomputable abbrev Hp:=Addr->Option HO
noncomputable def upd(H:Hp)(a:Addr)(o:HO):Hp:=fun b=>if b=a then some o else H b
theorem y8{H:Hp}{a:Addr}{o:HO}:upd H a o a=some o:=by unfold upd;rw[if_pos rfl]
theorem y6{H:Hp}{a b:Addr}{o:HO}(h:b≠a):upd H a o b=H b:=by unfold upd;rw[if_neg h]
theorem z1e{H:Hp}{a b:Addr}{o u:HO}(h:H a=some o)(h':H b=some u)(d:o≠u):a≠b:=by
 intro e;subst e;rw[h] at h';exact d (Option.some.inj h')
theorem Q4{H:Hp}{a b:Addr}{o:HO}(h:H a=some o)(h':H b=none):a≠b:=by
 intro e;subst e;rw[h] at h';cases h'
noncomputable def TKi(H:Hp):Key⊕List Key->V->Prop
 | .inl k,x=>x=kV k
 | .inr ks,x=> ∃c,x= .ref c/\H c=some (.tup (ks.map kV))
noncomputable def TK(H:Hp)(k:NK)(b:Addr):Prop:= ∃xs,H b=some (.tup xs)/\Paired (TKi H) k xs
theorem TK.stay{H H':Hp}{k:NK}{b:Addr}(ht: ∀b xs,H b=some (.tup xs)->H' b=some (.tup xs))(h:TK H k b):TK H' k b:=by
 obtain⟨xs,h1,h2⟩:=h
 refine⟨xs,ht _ _ h1,Paired.mapP h2 fun z x q=> ?_⟩
 cases z with
 |inl k=>exact q
 |inr ks=>obtain⟨c,e,q⟩:=q;exact⟨c,e,ht _ _ q⟩
section
variable(P:Program)(w:World)
noncomputable def g0(H:Hp)(h:Heap)(a:Addr):HO->Prop
 | .lst xs=>xs.length<=sizeLine/\∃(its:List Value) (n:Nat),w4 xs its/\h.get? a=some {cls:= .type "list",data:= .seq its.toArray n}
 | .tup xs=>xs.length<=sizeLine/\∃its:List Value,w4 xs its/\IsTup h a its.toArray
 | .dK kvs=>kvs.length<=sizeLine/\(a==sysModules)=false/\∃vs,KV kvs vs/\h.DictOf (Y4 P w) a vs
 | .dT kvs=>kvs.length<=sizeLine/\(a==sysModules)=false/\∃xs:List (NK×Addr×Value),
  Paired (fun(p:NK×V) (q:NK×Addr×Value)=>p.1=q.1/\TK H p.1 q.2.1/\RelV p.2 q.2.2) kvs xs/\
  ∃o es ep,h.get? a=some o/\o.ExactDict/\o.data= .dict es ep/\es.toList=xs.map (entryOfKey (U6 P w))/\(xs.map (·.1)).Nodup
 | .set S n=>h.SetOf (intKind P w) a S n
 | .ins C dx fs=>H dx=some (.own a)/\fs.length<=1000/\dx≠a/\h.get? a=some (W.instObj C dx)/\
  ∃mA,h.Ns1 dx mA/\(∀f,RelO (fs.lookup f) (mA f))/\PySem.Within mA (fs.map (·.1))
 | .own _=> ∃o,h.get? a=some o
 | .xd fs=> ∃mA,h.Ns1 a mA/\∀f,RelO (fs.lookup f) (mA f)
 | .rng lo hi=> ∃t u v,h.get? a=some {cls:= .type "range",data:= .fields #[.int lo t, .int hi u, .int 1 v]}
 | .frz o u=>h.get? a=some o/\g0 H h a u
 | .tbl ps=>h.get? a=some {cls:= .none,data:= .fields ps}
 | .met f x=>h.get? a=some (W.methodObj (.ref f) (.ref x))
 | .ext φ=>φ h/\(∃o,h.get? a=some o)/\∀h1 h2:Heap,φ h1->(∀o,h1.get? a=some o->h2.get? a=some o)->φ h2
noncomputable def HOk(H:Hp)(h:Heap):Prop:= ∀a o,H a=some o->g0 P w H h a o
end
section
variable{P:Program}{w:World}{H H':Hp}{h h':Heap}{a:Addr}{o:HO}
theorem g0.lt(x:g0 P w H h a o):a<h.objs.size:=by
 cases o with
 |lst xs=>obtain⟨_,_,_,_,e⟩:=x;exact Heap.lt_size e
 |tup xs=>obtain⟨_,_,_,p⟩:=x;exact p.lt
 |dK kvs=>obtain⟨_,_,_,_,o,_,_,e,_⟩:=x;exact Heap.lt_size e
 |dT kvs=>obtain⟨_,_,_,_,o,_,_,e,_⟩:=x;exact Heap.lt_size e
 |set S n=>obtain⟨o,_,_,_,e,_⟩:=x;exact Heap.lt_size e
 |ins C dx fs=>obtain⟨_,_,_,e,_⟩:=x;exact Heap.lt_size e
 |own y=>obtain⟨_,e⟩:=x;exact Heap.lt_size e
 |xd fs=>obtain⟨_,⟨_,_,_,e,_⟩,_⟩:=x;exact Heap.lt_size e
 |rng lo hi=>obtain⟨_,_,_,e⟩:=x;exact Heap.lt_size e
 |frz ob u=>obtain⟨e,_⟩:=x;exact Heap.lt_size e
 |tbl ps=>exact Heap.lt_size (show h.get? a=some _ from x)
 |met f y=>exact Heap.lt_size (show h.get? a=some _ from x)
 |ext φ=>obtain⟨_,⟨_,e⟩,_⟩:=x;exact Heap.lt_size e
theorem g0.stay(x:g0 P w H h a o)(k: ∀b u,(b=a\/H b=some (.own a))->h.get? b=some u->h'.get? b=some u)
 (ho: ∀b,H b=some (.own a)->H' b=some (.own a)) (ht: ∀b xs,H b=some (.tup xs)->H' b=some (.tup xs)):g0 P w H' h' a o:=by
 induction o with
 |lst xs=>obtain⟨z,its,n,r,e⟩:=x;exact⟨z,its,n,r,k _ _ (.inl rfl) e⟩
 |tup xs=>obtain⟨z,its,r,ob,e,c⟩:=x;exact⟨z,its,r,ob,k _ _ (.inl rfl) e,c⟩
 |dK kvs=>obtain⟨z,y,vs,r,ob,es,ep,e,c⟩:=x;exact⟨z,y,vs,r,ob,es,ep,k _ _ (.inl rfl) e,c⟩
 |dT kvs=>
  obtain⟨z,y,xs,r,ob,es,ep,e,c⟩:=x
  exact⟨z,y,xs,Paired.mapP r fun p q z=>⟨z.1,z.2.1.stay ht,z.2.2⟩,ob,es,ep,k _ _ (.inl rfl) e,c⟩
 |set S n=>obtain⟨ob,es,ep,t,e,c⟩:=x;exact⟨ob,es,ep,t,k _ _ (.inl rfl) e,c⟩
 |ins C dx fs=>
  obtain⟨d,z,ne,e,mA,⟨od,es,ep,e2,c⟩,r⟩:=x
  exact⟨ho _ d,z,ne,k _ _ (.inl rfl) e,mA,⟨od,es,ep,k _ _ (.inr d) e2,c⟩,r⟩
 |own y=>obtain⟨ob,e⟩:=x;exact⟨ob,k _ _ (.inl rfl) e⟩
 |xd fs=>obtain⟨mA,⟨od,es,ep,e,c⟩,r⟩:=x;exact⟨mA,⟨od,es,ep,k _ _ (.inl rfl) e,c⟩,r⟩
 |rng lo hi=>obtain⟨t,u,v,e⟩:=x;exact⟨t,u,v,k _ _ (.inl rfl) e⟩
 |frz ob u ih=>obtain⟨e,q⟩:=x;exact⟨k _ _ (.inl rfl) e,ih q⟩
 |tbl ps=>
  have e:h.get? a=some {cls:= .none,data:= .fields ps}:=x
  show h'.get? a=some {cls:= .none,data:= .fields ps}
  exact k a _ (.inl rfl) e
 |met f y=>
  have e:h.get? a=some (W.methodObj (.ref f) (.ref y)):=x
  show h'.get? a=some (W.methodObj (.ref f) (.ref y))
  exact k a _ (.inl rfl) e
 |ext φ=>obtain⟨p,⟨o,e⟩,st⟩:=x;exact⟨st _ _ p fun o q=>k _ _ (.inl rfl) q,⟨o,k _ _ (.inl rfl) e⟩,st⟩
theorem HOk.lt(x:HOk P w H h)(e:H a=some o):a<h.objs.size:=(x a o e).lt
theorem HOk.fresh(x:HOk P w H h)(e:h.objs.size<=a):H a=none:=by
 cases q:H a with
 |none=>rfl
 |some u=>exact absurd (i7 (x.lt q) e) (B6 _)
theorem HOk.kept(x:HOk P w H h)(k: ∀b u,h.get? b=some u->h'.get? b=some u):HOk P w H h':=fun a o e=>
 (x a o e).stay (fun b u _ q=>k b u q) (fun _ q=>q) fun _ _ q=>q
theorem HOk.laid(x:HOk P w H h)(k: ∀b u,h.get? b=some u->h'.get? b=some u)(hp:h.objs.size<=a)(new:g0 P w (upd H a o) h' a o):HOk P w (upd H a o) h':=fun b u e=>by
 have hn:=x.fresh hp
 by_cases hb:b=a
 ·subst hb;rw[y8] at e;cases e;exact new
 ·rw[y6 hb] at e
  exact(x b u e).stay (fun c v _ q=>k c v q) (fun c q=>by rw[y6 (Q4 q hn)];exact q) fun c xs q=>by rw[y6 (Q4 q hn)];exact q
end
noncomputable def Rd(H:Hp)(a:Addr)(u:HO):Prop:=H a=some u\/∃o,H a=some (.frz o u)
theorem Rd.ok{P:Program}{w:World}{H:Hp}{h:Heap}{a:Addr}{u:HO}(r:Rd H a u)(x:HOk P w H h):g0 P w H h a u:=by
 rcases r with r|⟨o,r⟩
 ·exact x a u r
 ·obtain⟨_,q⟩:=x a _ r
  exact q
noncomputable def Mut:Option HO->Prop
 |some (.lst _)=>True
 |some (.dK _)=>True
 |some (.dT _)=>True
 |some (.set _ _)=>True
 |some (.ins _ _ _)=>True
 |some (.ext _)=>True
 |_=>False
section
variable{P:Program}{w:World}{H:Hp}{h h':Heap}{x e:Addr}{o':HO}
theorem HOk.write(ok:HOk P w H h)(mu:Mut (H x))(he:e=x\/H e=some (.own x))(k: ∀b u,b≠e->h.get? b=some u->h'.get? b=some u)(heo: ∃u,h'.get? e=some u)
 (new:g0 P w (upd H x o') h' x o'):HOk P w (upd H x o') h':=fun b u q=>by
 have nown: ∀c y,H c=some (.own y)->c≠x:=fun c y r z=>by subst z;rw[r] at mu;exact mu
 have ntup: ∀c xs,H c=some (.tup xs)->c≠x:=fun c xs r z=>by subst z;rw[r] at mu;exact mu
 by_cases hb:b=x
 ·subst hb;rw[y8] at q;cases q;exact new
 ·rw[y6 hb] at q
  by_cases hbe:b=e
  ·have q':H b=some (.own x):=by
    rcases he with z|z
    ·exact absurd (hbe.trans z) hb
    ·rw[hbe];exact z
   rw[q] at q';cases q'
   obtain⟨v,hv⟩:=heo
   exact⟨v,by rw[hbe];exact hv⟩
  ·refine(ok b u q).stay (fun c v hc r=>k c v ?_ r) (fun c r=>by rw[y6 (nown c b r)];exact r) fun c xs r=>by rw[y6 (ntup c xs r)];exact r
   rcases hc with rfl|hc
   ·exact hbe
   ·rintro rfl
    rcases he with z|z
    ·exact nown c b hc z
    ·rw[hc] at z;cases z;exact hb rfl
end
structure Un(fs ex:List Addr)(H H':Hp)(h h':Heap):Prop where
 keep: ∀b o,h.get? b=some o->H b=none->b∉fs->b∉ex->h'.get? b=some o
 slot: ∀b o,h.get? b=some o->H b=none->b∈fs->b∉ex->∃sl,h'.get? b=some {o with slots:=sl}
 free: ∀b o,h.get? b=some o->H b=none->b∉ex->H' b=none
 there: ∀b o,h.get? b=some o->b∉ex->∃o',h'.get? b=some o'
 tups: ∀b xs,H b=some (.tup xs)->H' b=some (.tup xs)
 frzs: ∀b o u,H b=some (.frz o u)->H' b=some (.frz o u)
 tbls: ∀b ps,H b=some (.tbl ps)->∃more,H' b=some (.tbl (ps++more))
section
variable{fs fs' ex ex':List Addr}{H H1 H2:Hp}{h h1 h2 h':Heap}{a x e:Addr}{o:HO}
theorem Un.any(u:Un fs ex H H1 h h1){b:Addr}{ob:Obj}(q:h.get? b=some ob)(n:H b=none)(hx:b∉ex): ∃sl,h1.get? b=some {ob with slots:=sl}:=by
 by_cases hb:b∈fs
 ·exact u.slot b ob q n hb hx
 ·exact⟨ob.slots,u.keep b ob q n hb hx⟩
theorem Un.kept(k: ∀b u,h.get? b=some u->h'.get? b=some u):Un fs ex H H h h':=
 ⟨fun b ob q _ _ _=>k b ob q,fun b ob q _ _ _=>⟨ob.slots,k b ob q⟩,fun _ _ _ n _=>n,fun b ob q _=>⟨ob,k b ob q⟩,fun _ _ q=>q,fun _ _ _ q=>q,fun _ ps q=>⟨#[],by rw[q];simp⟩⟩
theorem Un.refl:Un fs ex H H h h:=Un.kept fun _ _ q=>q
theorem Un.laid(k: ∀b u,h.get? b=some u->h'.get? b=some u)(hp:h.objs.size<=a)(hn:H a=none):Un fs ex H (upd H a o) h h' where
 keep:=fun b u q _ _ _=>k b u q
 slot:=fun b u q _ _ _=>⟨u.slots,k b u q⟩
 free:=fun b u q n _=>by rw[y6 (l0 (i7 (Heap.lt_size q) hp))];exact n
 there:=fun b u q _=>⟨u,k b u q⟩
 tups:=fun b xs q=>by rw[y6 (Q4 q hn)];exact q
 frzs:=fun b u xs q=>by rw[y6 (Q4 q hn)];exact q
 tbls:=fun b ps q=>⟨#[],by rw[y6 (Q4 q hn),q];simp⟩
theorem Un.write(mu:Mut (H x))(he:e=x\/H e=some (.own x))(k: ∀b u,b≠e->h.get? b=some u->h'.get? b=some u)(heo: ∃u,h'.get? e=some u):Un fs ex H (upd H x o) h h':=by
 have hx: ∀b,H b=none->b≠x:=fun b n z=>by subst z;rw[n] at mu;exact mu
 have hb: ∀b,H b=none->b≠e:=fun b n z=>by
  subst z
  rcases he with r|r
  ·exact hx b n r
  ·rw[n] at r;cases r
 have hm: ∀b u,H b=some u->¬Mut (some u)->b≠x:=fun b u q nm z=>by subst z;rw[q] at mu;exact nm mu
 refine⟨fun b u q n _ _=>k b u (hb b n) q,fun b u q n _ _=>⟨u.slots,k b u (hb b n) q⟩,fun b u q n _=>by rw[y6 (hx b n)];exact n,fun b u q _=> ?_,
  fun b xs q=>by rw[y6 (hm b _ q fun z=>z)];exact q,fun b u xs q=>by rw[y6 (hm b _ q fun z=>z)];exact q,fun b ps q=>⟨#[],by rw[y6 (hm b _ q fun z=>z),q];simp⟩⟩
 by_cases hbe:b=e
 ·subst hbe;exact heo
 ·exact⟨u,k b u hbe q⟩
end
noncomputable def trk(h:Heap)(H:Hp):List Addr:=(B5 h.objs.size).filter fun a=>(H a).isSome
noncomputable def z8J(h:Heap)(H:Hp):Heap:=W.hideAll h (trk h H)
theorem z6P(h:Heap)(H:Hp):(z8J h H).objs.size=h.objs.size:=W.hideAll_size _ _
theorem z8K{h:Heap}{H:Hp}{b:Addr}{o:Obj}(e:h.get? b=some o)(n:H b=none):(z8J h H).get? b=some o:=
 W.hideAll_get _ e fun hm=>by
  have q:(H b).isSome=true:=(O2.mp hm).2
  rw[n] at q;simp at q
theorem zb7{h:Heap}{H:Hp}{b:Addr}{o:Obj}(e:(z8J h H).get? b=some o):h.get? b=some o/\H b=none:=by
 have e':h.get? b=some o:=W.of_hideAll (trk h H) e
 refine⟨e', ?_⟩
 cases q:H b with
 |none=>rfl
 |some x=>
  have hm:b∈trk h H:=O2.mpr ⟨O6.mpr (Heap.lt_size e'),by simp[q]⟩
  have z:(z8J h H).get? b=none:=W.hideAll_none (trk h H) hm
  rw[z] at e;cases e
noncomputable def zb8(g h:Heap)(L:Addr):List (Addr×Obj):=(B5 h.objs.size).filterMap fun a=>if a=L\/(g.get? a).isSome=true then none else(h.get? a).map fun o=>(a,o)
noncomputable def rest(g h:Heap)(L d:Addr):List (Addr×Obj):=(zb8 g h L).filter fun p=>decide (p.1≠d)
structure Mod(K:W.Frag)(mg:Str->Option Value)(base:Heap):Prop where
 kin:K.In base
 glob:base.Ns mainGlobals mg
 blt: ∃mb,base.Ns builtinsNs mb/\∀x:Str,x≠ "__name__" ->mb x=bootBuiltins x
 nolimit:base.NoLimit
structure Cx where
 prog:Program
 w:World
 K:W.Frag
 mg:Str->Option Value
 base:Heap
 A:Around
 N:List Str
 s₀:Shared
 H₀:Hp
 env:Env
 outer:List Env
 stack:List Env
 ex:List Addr
 fn:Str->Bool
 calm:Bool
 pn:List (Addr×Obj)
 xe:Value->Shared->Prop
noncomputable def frs(l:List Env):List Addr:=l.filterMap (·.frame)
noncomputable abbrev Cx.fs(X:Cx):List Addr:=frs X.outer
noncomputable def Vis(sc:Scope)(x:Str):Prop:=sc.names.lookup x=some .local\/sc.names.lookup x=some .cell\/sc.names.lookup x=some .free
noncomputable def Loc(sc:Scope)(x:Str):Prop:=sc.names.lookup x=some .local\/sc.names.lookup x=some .cell
noncomputable def ziS(env:Env)(h:Heap)(m:Str->Option Value)(x:Str)(u:Value):Prop:=
 (env.kindOf x=some .local/\m x=some u)\/((env.kindOf x=some .cell\/env.kindOf x=some .free)/\∃c,env.cells.lookup x=some c/\h.IsCell c (some u))
structure Cx.Ok(X:Cx):Prop where
 mod:Mod X.K X.mg X.base
 kind:X.env.scope.kind= .function
 glob:X.env.globals=mainGlobals
 blt:X.env.builtins=builtinsNs
 above:X.s₀.heap.objs.size<=X.env.locals
 inj: ∀x y c,X.env.cells.lookup x=some c->X.env.cells.lookup y=some c->x=y
 has: ∀x,(X.env.kindOf x=some .cell\/X.env.kindOf x=some .free)->∃c,X.env.cells.lookup x=some c
 cab: ∀x c,X.fn x=true->X.env.cells.lookup x=some c->X.s₀.heap.objs.size<=c
 hd:X.calm=true->X.A.handled=none
 frames:X.A.frames=some X.stack
 stk:X.stack=X.outer\/(X.stack=X.env::X.outer/\X.env.frame=some X.env.locals)
 exf: ∀b∈X.ex,b≠X.env.locals/\∀x c,X.env.cells.lookup x=some c->c≠b
 bs: ∀b o,X.base.get? b=some o->X.s₀.heap.get? b=some o/\X.H₀ b=none
 bsz:X.base.objs.size<=X.s₀.heap.objs.size
 noex: ∀b o,X.base.get? b=some o->b∉X.ex
 exfs: ∀b∈X.ex,b∉X.fs
 funs:X.s₀.heap.FunFrames X.base X.outer
 frf: ∀b∈X.fs,X.H₀ b=none
structure Inv(X:Cx)(pins:List (Addr×Obj))(σ:List (Option V))(H:Hp)(s:Shared):Prop where
 ok:X.Ok
 os:s.os=X.s₀.os
 bare:AllBare s.gens
 base:Un X.fs X.ex X.H₀ H X.s₀.heap s.heap
 loc: ∃m,s.heap.Ns X.env.locals m/\∀(i:Nat) (x:Str) (v:V),X.N[i]? =some x->σ[i]? =some (some v)->Vis X.env.scope x->∃u,RelV v u/\ziS X.env s.heap m x u
 cell: ∀x c,X.env.cells.lookup x=some c->∃v,s.heap.IsCell c v
 free:H X.env.locals=none
 freeC: ∀x c,X.env.cells.lookup x=some c->H c=none
 pin: ∀p∈X.pn++pins,s.heap.get? p.1=some p.2/\H p.1=none/\p.1≠X.env.locals/\p.1∉X.fs/\∀v,p.2.data≠ .cell v
 hok:HOk X.prog X.w H s.heap
 len:σ.length=X.N.length
section
variable{X:Cx}{pins:List (Addr×Obj)}{σ:List (Option V)}{H H':Hp}{s:Shared}{h':Heap}
theorem Cx.Ok.nofr(ok:X.Ok){b:Addr}{o:Obj}(e:X.base.get? b=some o):b∉X.fs:=fun hb=>by
 have:=(ok.funs.mem hb).1
 rw[e] at this;cases this
theorem Inv.bs(I:Inv X pins σ H s): ∀b o,X.base.get? b=some o->s.heap.get? b=some o/\H b=none:=fun b o e=>
 ⟨I.base.keep b o (I.ok.bs b o e).1 (I.ok.bs b o e).2 (I.ok.nofr e) (I.ok.noex b o e),I.base.free b o (I.ok.bs b o e).1 (I.ok.bs b o e).2 (I.ok.noex b o e)⟩
theorem Inv.bk(I:Inv X pins σ H s): ∀b o,X.base.get? b=some o->s.heap.get? b=some o:=fun b o e=>(I.bs b o e).1
theorem Inv.mod(I:Inv X pins σ H s):Mod X.K X.mg X.base:=I.ok.mod
theorem Inv.kIn(I:Inv X pins σ H s):X.K.In s.heap:=I.ok.mod.kin.keeps I.bk
theorem Inv.lt(I:Inv X pins σ H s):X.env.locals<s.heap.objs.size:=let⟨_,hn,_⟩:=I.loc;hn.lt
theorem Inv.sz(I:Inv X pins σ H s):X.s₀.heap.objs.size<=s.heap.objs.size:=s0 I.ok.above (N1 I.lt)
theorem Inv.nofs(I:Inv X pins σ H s){a:Addr}(h:s.heap.objs.size<=a):a∉X.fs:=fun hb=>by
 obtain⟨_,o,ho,_⟩:=I.ok.funs.mem hb
 exact absurd (i7 (Heap.lt_size ho) (s0 I.sz h)) (B6 _)
theorem Inv.cne(I:Inv X pins σ H s): ∀x c,X.env.cells.lookup x=some c->c≠X.env.locals:=fun x c e z=>by
 obtain⟨v,o,ho,hd⟩:=I.cell x c e
 obtain⟨m,⟨o',es,ep,ho',hd',_⟩,_⟩:=I.loc
 rw[z,ho'] at ho;cases ho;rw[hd'] at hd;cases hd
theorem Inv.funs(I:Inv X pins σ H s):s.heap.FunFrames X.base X.outer:=by
 have all: ∀(l:List Env),(∀b∈frs l,b∈X.fs)->X.s₀.heap.FunFrames X.base l->s.heap.FunFrames X.base l:=by
  intro l
  induction l with
  |nil=>intro _ _;trivial
  |cons env r ih=>
   intro hs hl
   obtain⟨hk,⟨L,o,hf,hn,ho,hd⟩,hr⟩:=hl
   have hL:L∈X.fs:=hs L (by unfold frs;rw[E3,hf];exact e9)
   obtain⟨sl,e⟩:=I.base.slot L o ho (I.ok.frf L hL) hL fun z=>I.ok.exfs L z hL
   exact⟨hk,⟨L,_,hf,hn,e,hd⟩,ih (fun b hb=>hs b (by unfold frs;rw[E3,hf];exact b7 _ hb)) hr⟩
 exact all X.outer (fun _ hb=>hb) I.ok.funs
theorem Inv.stack(I:Inv X pins σ H s):s.heap.FunFrames X.base X.stack:=by
 rcases I.ok.stk with e|⟨e,hf⟩
 ·rw[e];exact I.funs
 ·rw[e]
  obtain⟨m,hn,_⟩:=I.loc
  refine .cons (by rw[I.ok.kind];decide) hf hn ?_ I.funs
  exact Heap.get?_none_of_le (s0 I.ok.bsz I.ok.above)
theorem Inv.stkSub(I:Inv X pins σ H s): ∀b∈frs X.stack,b∈X.env.locals::X.fs:=fun b hb=>by
 rcases I.ok.stk with e|⟨e,hf⟩
 ·rw[e] at hb;exact b7 _ hb
 ·rw[e] at hb
  unfold frs at hb
  rw[E3,hf] at hb
  exact hb
theorem Inv.stkFree(I:Inv X pins σ H s): ∀b∈frs X.stack,H b=none:=fun b hb=>by
 rcases e7.mp (I.stkSub b hb) with e|hb
 ·rw[e];exact I.free
 ·obtain⟨_,o,ho,_⟩:=I.ok.funs.mem hb
  exact I.base.free b o ho (I.ok.frf b hb) fun z=>I.ok.exfs b z hb
theorem Inv.step{g':Array GenState}{t':Nat}{d':Drawn}{ch:List Addr}(I:Inv X pins σ H s)
 (hch: ∀b∈ch,(b∈X.ex\/X.s₀.heap.objs.size<=b)/\b≠X.env.locals/\(∀x c,X.env.cells.lookup x=some c->c≠b)/\∀p∈X.pn++pins,p.1≠b)
 (keep: ∀b o,b≠X.env.locals->b∉X.fs->b∉ch->s.heap.get? b=some o->H b=none->h'.get? b=some o)
 (slot: ∀b o,b≠X.env.locals->b∈X.fs->b∉ch->s.heap.get? b=some o->H b=none->∃sl,h'.get? b=some {o with slots:=sl}) (free: ∀b o,b∉ch->s.heap.get? b=some o->H b=none->H' b=none)
 (there: ∀b o,b∉ch->s.heap.get? b=some o->∃o',h'.get? b=some o')
 (tups: ∀b xs,H b=some (.tup xs)->H' b=some (.tup xs)) (frzs: ∀b o u,H b=some (.frz o u)->H' b=some (.frz o u)) (tbls: ∀b ps,H b=some (.tbl ps)->∃more,H' b=some (.tbl (ps++more)))
 (ns: ∀m,s.heap.Ns X.env.locals m->h'.Ns X.env.locals m) (hok:HOk X.prog X.w H' h') (hg:AllBare g'):
 Inv X pins σ H' {s with heap:=h',gens:=g',drawn:=d',toks:=t'}:=by
 have neL: ∀b o,X.s₀.heap.get? b=some o->b≠X.env.locals:=fun b o e=>l0 (i7 (Heap.lt_size e) I.ok.above)
 have neC: ∀b o,X.s₀.heap.get? b=some o->b∉X.ex->b∉ch:=fun b o e hx hb=>by
  rcases(hch b hb).1 with z|z
  ·exact hx z
  ·exact absurd (i7 (Heap.lt_size e) z) (B6 _)
 have cellK: ∀x c,X.env.cells.lookup x=some c->∀v,s.heap.IsCell c v->h'.IsCell c v:=fun x c e v ⟨o,ho,hd⟩=>by
  have nch:c∉ch:=fun z=>(hch c z).2.2.1 x c e rfl
  by_cases hc:c∈X.fs
  ·obtain⟨sl,q⟩:=slot c o (I.cne x c e) hc nch ho (I.freeC x c e)
   exact⟨_,q,hd⟩
  ·exact⟨o,keep c o (I.cne x c e) hc nch ho (I.freeC x c e),hd⟩
 refine⟨I.ok,I.os,hg,⟨fun b o e n hb hx=> ?_,fun b o e n hb hx=> ?_,fun b o e n hx=> ?_,fun b o e hx=> ?_,fun b xs e=>tups b xs (I.base.tups b xs e),fun b o xs e=>frzs b o xs (I.base.frzs b o xs e),fun b ps e=> ?_⟩, ?_,fun x c e=> ?_, ?_,fun x c e=> ?_,fun p hp=> ?_,hok,I.len⟩
 ·exact keep b o (neL b o e) hb (neC b o e hx) (I.base.keep b o e n hb hx) (I.base.free b o e n hx)
 ·obtain⟨sl,e1⟩:=I.base.slot b o e n hb hx
  obtain⟨sl',e2⟩:=slot b _ (neL b o e) hb (neC b o e hx) e1 (I.base.free b o e n hx)
  exact⟨sl',e2⟩
 ·obtain⟨o',e1⟩:=I.base.there b o e hx
  exact free b o' (neC b o e hx) e1 (I.base.free b o e n hx)
 ·obtain⟨o',e1⟩:=I.base.there b o e hx
  exact there b o' (neC b o e hx) e1
 ·obtain⟨m1,e1⟩:=I.base.tbls b ps e
  obtain⟨m2,e2⟩:=tbls b _ e1
  exact⟨m1++m2,by rw[e2,Array.append_assoc]⟩
 ·obtain⟨m,hn,hl⟩:=I.loc
  refine⟨m,ns m hn,fun i x v e1 e2 e3=> ?_⟩
  obtain⟨u,r,l⟩:=hl i x v e1 e2 e3
  refine⟨u,r, ?_⟩
  rcases l with l|⟨k,c,e,z⟩
  ·exact .inl l
  ·exact .inr ⟨k,c,e,cellK x c e _ z⟩
 ·obtain⟨v,z⟩:=I.cell x c e
  exact⟨v,cellK x c e v z⟩
 ·obtain⟨m,⟨o,_,_,ho,_⟩,_⟩:=I.loc
  exact free _ o (fun z=>(hch _ z).2.1 rfl) ho I.free
 ·obtain⟨v,o,ho,hd⟩:=I.cell x c e
  exact free c o (fun z=>(hch c z).2.2.1 x c e rfl) ho (I.freeC x c e)
 ·obtain⟨e,n,ne,nf,d⟩:=I.pin p hp
  have nch:p.1∉ch:=fun z=>(hch p.1 z).2.2.2 p hp rfl
  exact⟨keep p.1 p.2 ne nf nch e n,free p.1 p.2 nch e n,ne,nf,d⟩
theorem Inv.un{t':Nat}(I:Inv X pins σ H s)(u:Un X.fs [] H H' s.heap h')(hok:HOk X.prog X.w H' h'):Inv X pins σ H' {s with heap:=h',toks:=t'}:=by
 obtain⟨m,⟨o,es,ep,ho,r⟩,_⟩:=id I.loc
 obtain⟨sl,hL⟩:=u.any ho I.free (by simp)
 exact I.step (g':=s.gens) (d':=s.drawn) (ch:=[]) (fun _ z=>nomatch z) (fun b o _ hb _ e n=>u.keep b o e n hb (by simp)) (fun b o _ hb _ e n=>u.slot b o e n hb (by simp)) (fun b o _ e n=>u.free b o e n (by simp)) (fun b o _ e=>u.there b o e (by simp)) u.tups u.frzs u.tbls (fun m' hm=>by
  obtain⟨o',es',ep',ho',r'⟩:=hm
  rw[ho] at ho';cases ho'
  exact⟨_,es',ep',hL,r'⟩) hok I.bare
theorem Inv.call{g':Array GenState}{t':Nat}{d':Drawn}{ch:List Addr}(I:Inv X pins σ H s)(u:Un (frs X.stack) ch H H' s.heap h')(hok:HOk X.prog X.w H' h')(hg:AllBare g')
 (hch: ∀b∈ch,(b∈X.ex\/X.s₀.heap.objs.size<=b)/\b≠X.env.locals/\(∀x c,X.env.cells.lookup x=some c->c≠b)/\∀p∈X.pn++pins,p.1≠b):
 Inv X pins σ H' {s with heap:=h',gens:=g',drawn:=d',toks:=t'}:=by
 obtain⟨m,⟨o,es,ep,ho,r⟩,_⟩:=id I.loc
 obtain⟨sl,hL⟩:=u.any ho I.free fun z=>(hch _ z).2.1 rfl
 exact I.step (ch:=ch) hch (fun b o hL hb hc e n=>u.keep b o e n (fun z=>(e7.mp (I.stkSub b z)).elim hL hb) hc) (fun b o _ _ hc e n=>u.any e n hc) (fun b o hc e n=>u.free b o e n hc) (fun b o hc e=>u.there b o e hc) u.tups u.frzs u.tbls (fun m' hm=>by
  obtain⟨o',es',ep',ho',r'⟩:=hm
  rw[ho] at ho';cases ho'
  exact⟨_,es',ep',hL,r'⟩) hok hg
theorem Inv.turned{t':Nat}{it:Addr}(I:Inv X pins σ H s)(k: ∀b o,b≠it->s.heap.get? b=some o->h'.get? b=some o)(hn:H it=none)(hL:it≠X.env.locals)
 (h1:it∈X.ex\/X.s₀.heap.objs.size<=it) (h2: ∀x c,X.env.cells.lookup x=some c->c≠it) (h3: ∀p∈X.pn++pins,p.1≠it):Inv X pins σ H {s with heap:=h',toks:=t'}:=by
 have nit: ∀b u,H b=some u->b≠it:=fun b u e z=>by rw[z,hn] at e;cases e
 refine I.step (g':=s.gens) (d':=s.drawn) (ch:=[it]) (fun b hb=> ?_) (fun b o _ _ hc e _=>k b o (fun z=>hc (by simp[z])) e) (fun b o _ _ hc e _=>⟨o.slots,k b o (fun z=>hc (by simp[z])) e⟩) (fun _ _ _ _ n=>n)
  (fun b o hc e=>⟨o,k b o (fun z=>hc (by simp[z])) e⟩) (fun _ _ e=>e) (fun _ _ _ e=>e) (fun b ps e=>⟨#[],by rw[e];simp⟩) (fun m hm=> ?_) (fun b u e=> ?_) I.bare
 ·have e:b=it:=by simpa using hb
  subst e
  exact⟨h1,hL,h2,h3⟩
 ·obtain⟨o,es,ep,ho,r⟩:=hm
  exact⟨o,es,ep,k _ o (Ne.symm hL) ho,r⟩
 ·refine(I.hok b u e).stay (fun c v hc q=>k c v ?_ q) (fun _ q=>q) fun _ _ q=>q
  rcases hc with z|z
  ·rw[z];exact nit b u e
  ·exact nit c _ z
theorem Inv.tok(I:Inv X pins σ H s)(t:Nat):Inv X pins σ H {s with toks:=t}:=I.un (h':=s.heap) (t':=t) Un.refl I.hok
theorem Inv.kept{t':Nat}(I:Inv X pins σ H s)(k: ∀b u,s.heap.get? b=some u->h'.get? b=some u):Inv X pins σ H {s with heap:=h',toks:=t'}:=I.un (Un.kept k) (I.hok.kept k)
theorem Inv.laid{a:Addr}{o:HO}{t':Nat}(I:Inv X pins σ H s)(k: ∀b u,s.heap.get? b=some u->h'.get? b=some u)(hp:s.heap.objs.size<=a)(new:g0 X.prog X.w (upd H a o) h' a o):
 Inv X pins σ (upd H a o) {s with heap:=h',toks:=t'}:=I.un (Un.laid k hp (I.hok.fresh hp)) (I.hok.laid k hp new)
theorem Inv.write{x e:Addr}{o:HO}{t':Nat}(I:Inv X pins σ H s)(mu:Mut (H x))(he:e=x\/H e=some (.own x))(k: ∀b u,b≠e->s.heap.get? b=some u->h'.get? b=some u)(heo: ∃u,h'.get? e=some u)
 (new:g0 X.prog X.w (upd H x o) h' x o):Inv X pins σ (upd H x o) {s with heap:=h',toks:=t'}:=I.un (Un.write mu he k heo) (I.hok.write mu he k heo new)
theorem Inv.pins_of{pins':List (Addr×Obj)}(I:Inv X pins σ H s)(h: ∀p∈pins',s.heap.get? p.1=some p.2/\H p.1=none/\p.1≠X.env.locals/\p.1∉X.fs/\∀v,p.2.data≠ .cell v):Inv X pins' σ H s:=
 ⟨I.ok,I.os,I.bare,I.base,I.loc,I.cell,I.free,I.freeC,fun p hp=>(c8.mp hp).elim (fun z=>I.pin p (b8 _ z)) (h p),I.hok,I.len⟩
theorem z5i{N:List Str}(hN:N.Nodup){i j:Nat}{x:Str}(a:N[i]? =some x)(b:N[j]? =some x):i=j:=by
 obtain⟨h1,e1⟩:=List.getElem?_eq_some_iff.mp a
 obtain⟨h2,e2⟩:=List.getElem?_eq_some_iff.mp b
 exact(List.getElem_inj hN).mp (e1.trans e2.symm)
theorem z6Q{M:Model}{A:Around}{E:Value->Shared->Prop}{i:Nat}{x:Str}{v:V}{u:Value}{Q:Unit->Shared->Prop}(I:Inv X pins σ H s)(hN:X.N.Nodup)(hi:X.N[i]? =some x)(hx:Loc X.env.scope x)(r:RelV v u)
 (h: ∀s',Inv X pins (σ.set i (some v)) H s'->(∃a,Heap.SameBut a s.heap s'.heap/\(a=X.env.locals\/X.env.cells.lookup x=some a))->Q () s') (hf:X.fn x=true\/X.env.scope.names.lookup x=some .local:=by first|exact .inl rfl|exact .inr rfl|assumption):wpAny M A (storeName X.env x u) Q E s:=by
 obtain⟨m,hn,hl⟩:=id I.loc
 have hcls:(X.env.scope.kind== .class||(X.env.scope.kind== .module&&X.env.locals !=X.env.globals))=false:=by rw[I.ok.kind];rfl
 have hiσ:i<σ.length:=by rw[I.len];exact(List.getElem?_eq_some_iff.mp hi).1
 have cne:=I.cne
 have tracked: ∀{a:Addr} {h':Heap},(∃o,s.heap.get? a=some o/\H a=none)->Heap.SameBut a s.heap h'->HOk X.prog X.w H h':=fun{a h'} ha hs b ob e=>by
  obtain⟨_,_,hfree⟩:=ha
  refine(I.hok b ob e).stay (fun c w' hc q=>(hs.2 c ?_).trans q) (fun _ q=>q) fun _ _ q=>q
  rintro rfl
  rcases hc with rfl|hc
  ·rw[hfree] at e;cases e
  ·rw[hfree] at hc;cases hc
 rcases hx with hk|hk
 ·refine wpAny_storeName_local hk hn (fun h' hn' hs=> ?_) hcls
  obtain⟨oL,_,_,hoL,_⟩:=id hn
  refine h _ ⟨I.ok,I.os,I.bare,⟨fun b o e n hb hx=> ?_,fun b o e n hb hx=> ?_,I.base.free,fun b o e hx=> ?_,I.base.tups,I.base.frzs,I.base.tbls⟩,⟨_,hn',fun j y v' e1 e2 e3=> ?_⟩,fun y c e=> ?_,I.free,I.freeC,fun p hp=> ?_,tracked ⟨oL,hoL,I.free⟩ hs,by simpa using I.len⟩ ⟨_,hs, .inl rfl⟩
  ·exact(hs.2 b (l0 (i7 (Heap.lt_size e) I.ok.above))).trans (I.base.keep b o e n hb hx)
  ·obtain⟨sl,e1⟩:=I.base.slot b o e n hb hx
   exact⟨sl,(hs.2 b (l0 (i7 (Heap.lt_size e) I.ok.above))).trans e1⟩
  ·obtain⟨o',e1⟩:=I.base.there b o e hx
   exact⟨o',(hs.2 b (l0 (i7 (Heap.lt_size e) I.ok.above))).trans e1⟩
  ·by_cases hj:j=i
   ·subst hj
    rw[hi] at e1;cases e1
    rw[List.getElem?_set_self hiσ] at e2
    cases e2
    exact⟨u,r, .inl ⟨hk,by simp⟩⟩
   ·rw[List.getElem?_set_ne (Ne.symm hj)] at e2
    obtain⟨u',r',q⟩:=hl j y v' e1 e2 e3
    refine⟨u',r', ?_⟩
    rcases q with⟨k,e⟩|⟨k,c,e,z⟩
    ·refine .inl ⟨k, ?_⟩
     have:y≠x:=fun e=>hj (z5i hN e1 (e▸hi))
     simp[this,e]
    ·exact .inr ⟨k,c,e,z.sameBut hs (cne y c e)⟩
  ·obtain⟨w',z⟩:=I.cell y c e
   exact⟨w',z.sameBut hs (cne y c e)⟩
  ·obtain⟨e,n,ne,nf,d⟩:=I.pin p hp
   exact⟨(hs.2 p.1 ne).trans e,n,ne,nf,d⟩
 ·have hfn:X.fn x=true:=by
   rcases hf with z|z
   ·exact z
   ·rw[z] at hk;cases hk
  obtain⟨c,hc⟩:=I.ok.has x (.inl hk)
  obtain⟨w',z⟩:=I.cell x c hc
  refine wpAny_storeName_cell I.ok.kind hk hc z (fun h' hc' hs=> ?_)
  obtain⟨oc,hoc,hocd⟩:=id z
  refine h {s with heap:=h'} ⟨I.ok,I.os,I.bare,⟨fun b o e n hb hx=> ?_,fun b o e n hb hx=> ?_,I.base.free,fun b o e hx=> ?_,I.base.tups,I.base.frzs,I.base.tbls⟩,⟨m,hn.sameBut hs (Ne.symm (cne x c hc)),fun j y v' e1 e2 e3=> ?_⟩,fun y c' e=> ?_,I.free,I.freeC,fun p hp=> ?_,tracked ⟨oc,hoc,I.freeC x c hc⟩ hs,by simpa using I.len⟩ ⟨c,hs, .inr hc⟩
  ·exact(hs.2 b (l0 (i7 (Heap.lt_size e) (I.ok.cab x c hfn hc)))).trans (I.base.keep b o e n hb hx)
  ·obtain⟨sl,e1⟩:=I.base.slot b o e n hb hx
   exact⟨sl,(hs.2 b (l0 (i7 (Heap.lt_size e) (I.ok.cab x c hfn hc)))).trans e1⟩
  ·obtain⟨o',e1⟩:=I.base.there b o e hx
   exact⟨o',(hs.2 b (l0 (i7 (Heap.lt_size e) (I.ok.cab x c hfn hc)))).trans e1⟩
  ·by_cases hj:j=i
   ·subst hj
    rw[hi] at e1;cases e1
    rw[List.getElem?_set_self hiσ] at e2
    cases e2
    exact⟨u,r, .inr ⟨.inl hk,c,hc,hc'⟩⟩
   ·rw[List.getElem?_set_ne (Ne.symm hj)] at e2
    obtain⟨u',r',q⟩:=hl j y v' e1 e2 e3
    refine⟨u',r', ?_⟩
    rcases q with q|⟨k,c',e,z'⟩
    ·exact .inl q
    ·refine .inr ⟨k,c',e,z'.sameBut hs ?_⟩
     rintro rfl
     exact hj (z5i hN e1 (I.ok.inj _ _ _ e hc▸hi))
  ·by_cases hcc:c'=c
   ·subst hcc;exact⟨_,hc'⟩
   ·obtain⟨w2,z2⟩:=I.cell y c' e
    exact⟨w2,z2.sameBut hs hcc⟩
  ·obtain⟨e,n,ne,nf,d⟩:=I.pin p hp
   refine⟨(hs.2 p.1 ?_).trans e,n,ne,nf,d⟩
   intro q
   rw[q,hoc] at e
   have q':oc=p.2:=Option.some.inj e
   exact d w' (by rw[<-q'];exact hocd)
theorem z35{M:Model}{A:Around}{E:Value->Shared->Prop}{i:Nat}{x:Str}{v:V}{u:Value}{Q:Unit->Shared->Prop}(I:Inv X pins σ H s)(hN:X.N.Nodup)(hi:X.N[i]? =some x)(hx:Loc X.env.scope x)(r:RelV v u)
 (h: ∀s',Inv X pins (σ.set i (some v)) H s'->Q () s') (hf:X.fn x=true\/X.env.scope.names.lookup x=some .local:=by first|exact .inl rfl|exact .inr rfl|assumption):wpAny M A (storeName X.env x u) Q E s:=
 z6Q I hN hi hx r (fun s' I' _=>h s' I') hf
theorem Inv.call'{s':Shared}{ch:List Addr}(I:Inv X pins σ H s)(ho:s'.os=s.os)(u:Un (frs X.stack) ch H H' s.heap s'.heap)(hok:HOk X.prog X.w H' s'.heap)(hg:AllBare s'.gens)
 (hch: ∀b∈ch,(b∈X.ex\/X.s₀.heap.objs.size<=b)/\b≠X.env.locals/\(∀x c,X.env.cells.lookup x=some c->c≠b)/\∀p∈X.pn++pins,p.1≠b):Inv X pins σ H' s':=by
 obtain⟨h',g',d',t',o'⟩:=s'
 have e:o'=s.os:=ho
 subst e
 exact I.call (g':=g') (t':=t') (d':=d') u hok hg hch
end
noncomputable abbrev XK:=Value->Option Addr->Hp->Prop
noncomputable abbrev St:=List (Option V)
noncomputable abbrev VK:=V->Hp->Prop
noncomputable abbrev TE:=St->Hp->VK->Prop
noncomputable abbrev TT:=St->Hp->(Bool->Hp->Prop)->Prop
noncomputable abbrev TA:=St->Hp->(List V->Hp->Prop)->Prop
structure z3J where
 nx:St->Hp->Prop
 rt:VK
 bk:St->Hp->Prop:=fun _ _=>False
 ct:St->Hp->Prop:=fun _ _=>False
noncomputable abbrev TS:=z3J->St->Hp->Prop
noncomputable def EP(X:Cx)(pins:List (Addr×Obj))(σ:St)(Q:VK)(u:Value)(s':Shared):Prop:= ∃v H',Inv X pins σ H' s'/\RelV v u/\Q v H'
noncomputable def TP(X:Cx)(pins:List (Addr×Obj))(σ:St)(Q:Bool->Hp->Prop)(b:Bool)(s':Shared):Prop:= ∃H',Inv X pins σ H' s'/\Q b H'
noncomputable def AP(X:Cx)(pins:List (Addr×Obj))(σ:St)(Q:List V->Hp->Prop)(us:List Value)(s':Shared):Prop:= ∃vs H',Inv X pins σ H' s'/\w4 vs us/\Q vs H'
noncomputable def SP(X:Cx)(pins:List (Addr×Obj))(D:z3J)(f:Flow)(s':Shared):Prop:=
 match f with
 | .next=> ∃σ' H',Inv X pins σ' H' s'/\D.nx σ' H'
 | .brk=> ∃σ' H',Inv X pins σ' H' s'/\D.bk σ' H'
 | .cont=> ∃σ' H',Inv X pins σ' H' s'/\D.ct σ' H'
 | .ret u=> ∃v σ' H',Inv X pins σ' H' s'/\RelV v u/\D.rt v H'
noncomputable def PE(X:Cx)(e:Expr)(t:TE):Prop:=
 ∀(pins:List (Addr×Obj)) (s:Shared) (σ:St) (H:Hp) (Q:VK),Inv X pins σ H s->t σ H Q->wpAny (model X.prog X.w) X.A (eval e X.env) (EP X pins σ Q) X.xe s
noncomputable def PT(X:Cx)(e:Expr)(t:TT):Prop:=
 ∀(pins:List (Addr×Obj)) (s:Shared) (σ:St) (H:Hp) (Q:Bool->Hp->Prop),Inv X pins σ H s->t σ H Q->wpAny (model X.prog X.w) X.A (isTrue e X.env (eval e X.env)) (TP X pins σ Q) X.xe s
noncomputable def PW(X:Cx)(e:Expr)(t:TT):Prop:=
 ∀(whole:Sem Value) (pins:List (Addr×Obj)) (s:Shared) (σ:St) (H:Hp) (Q:Bool->Hp->Prop),Inv X pins σ H s->t σ H Q->wpAny (model X.prog X.w) X.A (isTrue e X.env whole) (TP X pins σ Q) X.xe s
theorem PW.pt{X:Cx}{e:Expr}{t:TT}(h:PW X e t):PT X e t:=h _
noncomputable def PA(X:Cx)(es:List Expr)(t:TA):Prop:=
 ∀(pos:Pos) (pins:List (Addr×Obj)) (s:Shared) (σ:St) (H:Hp) (Q:List V->Hp->Prop),Inv X pins σ H s->t σ H Q->wpAny (model X.prog X.w) X.A (spliced (backTo pos (starEach es X.env))) (AP X pins σ Q) X.xe s
noncomputable def PS(X:Cx)(st:Stmt)(t:TS):Prop:=
 ∀(pins:List (Addr×Obj)) (s:Shared) (σ:St) (H:Hp) (D:z3J),Inv X pins σ H s->t D σ H->wpAny (model X.prog X.w) X.A (exec st X.env) (SP X pins D) X.xe s
noncomputable def PSs(X:Cx)(st:List Stmt)(t:TS):Prop:=
 ∀(pins:List (Addr×Obj)) (s:Shared) (σ:St) (H:Hp) (D:z3J),Inv X pins σ H s->t D σ H->wpAny (model X.prog X.w) X.A (execs st X.env) (SP X pins D) X.xe s
theorem thn{α:Type}{t:Sem α}{Q Q':α->Shared->Prop}{M:Model}{A:Around}{E:Value->Shared->Prop}{s:Shared}(h:wpAny M A t Q E s)(hQ: ∀a s,Q a s->Q' a s):wpAny M A t Q' E s:=wpAny_mono h hQ fun _ _ x=>x
section
variable{X:Cx}
noncomputable def z6R(i:Nat):TE:=fun σ H Q=> ∃v,σ[i]? =some (some v)/\Q v H
noncomputable def tC(v:V):TE:=fun _ H Q=>Q v H
theorem zdm{i:Nat}{x:Str}{pos:Pos}(hN:X.N[i]? =some x)(hv:Vis X.env.scope x)(hd:(x==("__debug__" :Str))=false:=by decide)(hcd:(x==("__classdict__" :Str))=false:=by decide):PE X (.Name x pos) (z6R i):=by
 intro pins s σ H Q I h
 obtain⟨v,e,h⟩:=h
 obtain⟨m,hn,hl⟩:=I.loc
 obtain⟨u,r,l⟩:=hl i x v hN e hv
 have fin:EP X pins σ Q u s:=⟨v,H,I,r,h⟩
 rcases l with⟨hk,hm⟩|⟨hk,c,hc,hcell⟩
 ·exact wpAny_Name (wpAny_loadName_local I.ok.kind hk hn hm fin) hd
 ·rcases hk with hk|hk
  ·exact wpAny_Name (wpAny_loadName_cell I.ok.kind hk hc hcell fin) hd
  ·exact wpAny_Name (wpAny_loadName_free I.ok.kind hk hc hcell fin hcd) hd
theorem y2{i j pos}:PE X (.Constant (.int i) j pos) (tC (.int i)):=fun _ _ _ H _ I h=>wpAny_Constant_int ⟨.int i,H,I.tok _,⟨_,rfl⟩,h⟩
theorem z0n{b j pos}:PE X (.Constant (.bool b) j pos) (tC (.bl b)):=fun _ _ _ H _ I h=>Constant_bool ⟨.bl b,H,I,rfl,h⟩
theorem z2O{j pos}:PE X (.Constant .none j pos) (tC .non):=fun _ _ _ H _ I h=>Constant_none ⟨.non,H,I,rfl,h⟩
theorem z6S{x j pos}:PE X (.Constant (.str x) j pos) (tC (.str x)):=fun _ _ _ H _ I h=>Calls.Constant_str ⟨.str x,H,I.tok _,⟨_,rfl⟩,h⟩
noncomputable def Gl(X:Cx)(x:Str):Prop:=X.env.kindOf x=some .globalImplicit
theorem z1f{E:Value->Shared->Prop}{pins:List (Addr×Obj)}{s:Shared}{σ:St}{H:Hp}{x:Str}{u:Value}{pos:Pos}{Q:Value->Shared->Prop}(I:Inv X pins σ H s)(hg:Gl X x)(hm:X.mg x=some u)(h:Q u s)
 (hd:(x==("__debug__" :Str))=false:=by decide):wpAny (model X.prog X.w) X.A (eval (.Name x pos) X.env) Q E s:=
 Calls.Name_function_global I.ok.kind hg (Calls.loadGlobal_global (by rw[I.ok.glob];exact I.mod.glob.keeps I.bk) hm h) hd
theorem z5j{E:Value->Shared->Prop}{pins:List (Addr×Obj)}{s:Shared}{σ:St}{H:Hp}{x:Str}{u:Value}{pos:Pos}{Q:Value->Shared->Prop}(I:Inv X pins σ H s)(hg:Gl X x)(hm:X.mg x=none)(hv:bootBuiltins x=some u)(h:Q u s)
 (hn:x≠ "__name__" :=by decide) (hd:(x==("__debug__" :Str))=false:=by decide):wpAny (model X.prog X.w) X.A (eval (.Name x pos) X.env) Q E s:=by
 obtain⟨mb,h1,h2⟩:=I.mod.blt
 exact Calls.Name_function_global I.ok.kind hg (Calls.loadGlobal_builtin (by rw[I.ok.glob];exact I.mod.glob.keeps I.bk) hm (by rw[I.ok.blt];exact h1.keeps I.bk) ((h2 x hn).trans hv) h) hd
theorem Z8{x:Str}{v:V}{u:Value}{pos:Pos}(hg:Gl X x)(hm:X.mg x=some u)(r:RelV v u)(hd:(x==("__debug__" :Str))=false:=by decide):PE X (.Name x pos) (tC v):=
 fun _ _ _ H _ I h=>z1f I hg hm ⟨v,H,I,r,h⟩ hd
theorem U0{x:Str}{v:V}{u:Value}{pos:Pos}(hg:Gl X x)(hm:X.mg x=none)(hv:bootBuiltins x=some u)(r:RelV v u)(hn:x≠ "__name__" :=by decide)(hd:(x==("__debug__" :Str))=false:=by decide):PE X (.Name x pos) (tC v):=
 fun _ _ _ H _ I h=>z5j I hg hm hv ⟨v,H,I,r,h⟩ hn hd
variable{a b:Expr}{ta tb:TE}{pos:Pos}
noncomputable def tB(t:TE):TT:=fun σ H Q=>t σ H fun x H1=> ∃c,x= .bl c/\Q c H1
variable{tA tB':TT}{rest:List Expr}
noncomputable def ziT(t u:TT):TT:=fun σ H Q=>t σ H fun c H1=>if c=true then u σ H1 Q else Q false H1
noncomputable def tOr(t u:TT):TT:=fun σ H Q=>t σ H fun c H1=>if c=true then Q true H1 else u σ H1 Q
noncomputable def ziU(t:TT):TT:=fun σ H Q=>t σ H fun c H1=>Q (!c) H1
theorem zb9(ha:PT X a tA):PW X (.BoolOp .And [a] pos) tA:=by
 intro wh pins s σ H Q I h
 refine isTrue_and (thn (ha pins s σ H Q I h) fun c s1 e=> ?_)
 cases c with
 |true=>exact isTrue_and_nil e
 |false=>exact e
theorem zdn(ha:PT X a tA):PW X (.BoolOp .Or [a] pos) tA:=by
 intro wh pins s σ H Q I h
 refine isTrue_or (thn (ha pins s σ H Q I h) fun c s1 e=> ?_)
 cases c with
 |false=>exact isTrue_or_nil e
 |true=>exact e
theorem zdo(ha:PT X a tA)(hb:PW X (.BoolOp .And (b::rest) pos) tB'):PW X (.BoolOp .And (a::b::rest) pos) (ziT tA tB'):=by
 intro wh pins s σ H Q I h
 refine isTrue_and (thn (ha pins s σ H _ I h) fun c s1 ⟨H1,I1,q1⟩=> ?_)
 cases c with
 |true=>exact hb wh pins s1 σ H1 Q I1 q1
 |false=>exact⟨H1,I1,q1⟩
theorem zgq(ha:PT X a tA)(hb:PW X (.BoolOp .Or (b::rest) pos) tB'):PW X (.BoolOp .Or (a::b::rest) pos) (tOr tA tB'):=by
 intro wh pins s σ H Q I h
 refine isTrue_or (thn (ha pins s σ H _ I h) fun c s1 ⟨H1,I1,q1⟩=> ?_)
 cases c with
 |true=>exact⟨H1,I1,q1⟩
 |false=>exact hb wh pins s1 σ H1 Q I1 q1
theorem zdp(ha:PT X a tA):PT X (.UnaryOp .Not a pos) (ziU tA):=by
 intro pins s σ H Q I h
 exact isTrue_not (ha pins s σ H (fun c H1=>Q (!c) H1) I h)
noncomputable def zgr(ta tb:TE):TE:=fun σ H Q=>ta σ H fun x H1=> ∃c,x= .bl c/\if c=true then tb σ H1 Q else Q (.bl false) H1
noncomputable def ziV(ta tb:TE):TE:=fun σ H Q=>ta σ H fun x H1=> ∃c,x= .bl c/\if c=true then Q (.bl true) H1 else tb σ H1 Q
noncomputable def zgs(ta:TE):TE:=fun σ H Q=>ta σ H fun x H1=> ∃c,x= .bl c/\Q (.bl (!c)) H1
theorem zdq{op}{t:TE}(h:PE X a t):PE X (.BoolOp op [a] pos) t:=fun pins s σ H Q I hw=>BoolOp_one (h pins s σ H Q I hw)
theorem zdr(ha:PE X a ta)(hb:PE X (.BoolOp .And (b::rest) pos) tb):PE X (.BoolOp .And (a::b::rest) pos) (zgr ta tb):=by
 intro pins s σ H Q I h
 refine BoolOp_and (thn (ha pins s σ H _ I h) fun v s1 ⟨x,H1,I1,r1,q1⟩=> ?_)
 obtain⟨c,rfl,q1⟩:=q1
 cases r1
 refine wpAny_truthy_bool ?_
 cases c with
 |true=>exact hb pins s1 σ H1 Q I1 q1
 |false=>exact⟨.bl false,H1,I1,rfl,q1⟩
theorem zgt(ha:PE X a ta)(hb:PE X (.BoolOp .Or (b::rest) pos) tb):PE X (.BoolOp .Or (a::b::rest) pos) (ziV ta tb):=by
 intro pins s σ H Q I h
 refine BoolOp_or (thn (ha pins s σ H _ I h) fun v s1 ⟨x,H1,I1,r1,q1⟩=> ?_)
 obtain⟨c,rfl,q1⟩:=q1
 cases r1
 refine wpAny_truthy_bool ?_
 cases c with
 |false=>exact hb pins s1 σ H1 Q I1 q1
 |true=>exact⟨.bl true,H1,I1,rfl,q1⟩
theorem zds(ha:PE X a ta):PE X (.UnaryOp .Not a pos) (zgs ta):=by
 intro pins s σ H Q I h
 refine UnaryOp_ (thn (ha pins s σ H _ I h) fun v s1 ⟨x,H1,I1,r1,q1⟩=> ?_)
 obtain⟨c,rfl,q1⟩:=q1
 cases r1
 exact not_of (wpAny_truthy_bool ⟨.bl (!c),H1,I1,rfl,q1⟩)
end
noncomputable def SqL(K:W.Frag)(H:Hp)(a:Addr)(xs:List V):Prop:=
 Rd H a (.lst xs)\/
  ∃(o:Obj) (its:Array Value) (n:Nat),K.lookup a=some o/\o.cls= .type "list" /\o.dict=none/\o.data= .seq its n/\its.size<=sizeLine/\w4 xs its.toList
noncomputable def SqT(K:W.Frag)(H:Hp)(a:Addr)(xs:List V):Prop:=
 Rd H a (.tup xs)\/
  ∃(o:Obj) (its:Array Value) (n:Nat),K.lookup a=some o/\o.cls= .type "tuple" /\o.data= .seq its n/\its.size<=sizeLine/\w4 xs its.toList
noncomputable def ziW:Value->Option V
 | .none=>some .non
 | .bool b=>some (.bl b)
 | .int i _=>some (.int i)
 | .str x _=>some (.str x)
 | .bytes b _=>some (.byt b)
 | .float b _=>some (.flt b)
 | .ref a=>some (.ref a)
 | .type n=>some (.ty n)
 |_=>none
theorem RelV.abs{x:V}{u:Value}(r:RelV x u):ziW u=some x:=by
 cases x with
 |non=>cases r;rfl
 |bl _=>cases r;rfl
 |int _=>obtain⟨t,rfl⟩:=r;rfl
 |str _=>obtain⟨t,rfl⟩:=r;rfl
 |byt _=>obtain⟨t,rfl⟩:=r;rfl
 |flt _=>obtain⟨t,rfl⟩:=r;rfl
 |ref _=>cases r;rfl
 |ty _=>cases r;rfl
theorem RelV.inj{x y:V}{u:Value}(r:RelV x u)(q:RelV y u):x=y:=Option.some.inj (r.abs.symm.trans q.abs)
theorem w4.inj: ∀{xs ys:List V} {us:List Value},w4 xs us->w4 ys us->xs=ys
 |_,_,_, .nil, .nil=>rfl
 |_,_,_, .cons r t, .cons r' t'=>by rw[r.inj r',w4.inj t t']
section
variable{X:Cx}{pins:List (Addr×Obj)}{σ:St}{H:Hp}{s:Shared}{a:Addr}{xs ys:List V}
theorem SqL.of{K:W.Frag}(h:H a=some (.lst xs)):SqL K H a xs:= .inl (.inl h)
theorem SqT.of{K:W.Frag}(h:H a=some (.tup xs)):SqT K H a xs:= .inl (.inl h)
theorem Inv.list(I:Inv X pins σ H s)(h:SqL X.K H a xs): ∃its:List Value,w4 xs its/\PlainL s.heap a its.toArray/\xs.length<=sizeLine:=by
 rcases h with h|⟨o,its,n,hk,hc,hd,hs,hz,r⟩
 ·obtain⟨z,its,n,r,e⟩:=h.ok I.hok
  exact⟨its,r,⟨_,n,e,rfl,rfl,rfl⟩,z⟩
 ·refine⟨its.toList,r,⟨o,n,I.kIn a o hk,hc,hd,by simpa using hs⟩, ?_⟩
  have e:=r.length
  erw[Array.length_toList] at e
  lia
theorem Inv.tuple(I:Inv X pins σ H s)(h:SqT X.K H a xs): ∃its:List Value,w4 xs its/\IsTup s.heap a its.toArray/\xs.length<=sizeLine:=by
 rcases h with h|⟨o,its,n,hk,hc,hs,hz,r⟩
 ·obtain⟨z,its,r,p⟩:=h.ok I.hok
  exact⟨its,r,p,z⟩
 ·refine⟨its.toList,r,⟨o,I.kIn a o hk,hc,n,by simpa using hs⟩, ?_⟩
  have e:=r.length
  erw[Array.length_toList] at e
  lia
theorem Inv.list_inj(I:Inv X pins σ H s)(h:SqL X.K H a xs)(h':SqL X.K H a ys):xs=ys:=by
 obtain⟨its,r,⟨o,n,e,_,_,d⟩,_⟩:=I.list h
 obtain⟨its',r',⟨o',n',e',_,_,d'⟩,_⟩:=I.list h'
 rw[e] at e';cases e'
 rw[d] at d'
 injection d' with d1 _
 have:its=its':=by simpa using congrArg Array.toList d1
 subst this
 exact r.inj r'
theorem Inv.tuple_inj(I:Inv X pins σ H s)(h:SqT X.K H a xs)(h':SqT X.K H a ys):xs=ys:=by
 obtain⟨its,r,⟨o,e,_,n,d⟩,_⟩:=I.tuple h
 obtain⟨its',r',⟨o',e',_,n',d'⟩,_⟩:=I.tuple h'
 rw[e] at e';cases e'
 rw[d] at d'
 injection d' with d1 _
 have:its=its':=by simpa using congrArg Array.toList d1
 subst this
 exact r.inj r'
end
noncomputable abbrev Cx.wish(X:Cx)(E:Value->Shared->Prop):Cx:={X with xe:=E}
noncomputable abbrev Cx.nox(X:Cx):Cx:=X.wish fun _ _=>False
theorem Cx.Ok.wish{X:Cx}(ok:X.Ok)(E:Value->Shared->Prop):(X.wish E).Ok:=
 ⟨ok.mod,ok.kind,ok.glob,ok.blt,ok.above,ok.inj,ok.has,ok.cab,ok.hd,ok.frames,ok.stk,ok.exf,ok.bs,ok.bsz,ok.noex,ok.exfs,ok.funs,ok.frf⟩
theorem Cx.Ok.unwish{X:Cx}{E:Value->Shared->Prop}(ok:(X.wish E).Ok):X.Ok:=
 ⟨ok.mod,ok.kind,ok.glob,ok.blt,ok.above,ok.inj,ok.has,ok.cab,ok.hd,ok.frames,ok.stk,ok.exf,ok.bs,ok.bsz,ok.noex,ok.exfs,ok.funs,ok.frf⟩
section
variable{X:Cx}{pins:List (Addr×Obj)}{σ:St}{H:Hp}{s:Shared}{E:Value->Shared->Prop}
theorem Inv.wish(I:Inv X pins σ H s)(E:Value->Shared->Prop):Inv (X.wish E) pins σ H s:=⟨I.ok.wish E,I.os,I.bare,I.base,I.loc,I.cell,I.free,I.freeC,I.pin,I.hok,I.len⟩
theorem Inv.unwish(I:Inv (X.wish E) pins σ H s):Inv X pins σ H s:=⟨I.ok.unwish,I.os,I.bare,I.base,I.loc,I.cell,I.free,I.freeC,I.pin,I.hok,I.len⟩
theorem SP.unwish{D:z3J}{f:Flow}{s':Shared}(h:SP (X.wish E) pins D f s'):SP X pins D f s':=by
 cases f with
 |next=>obtain⟨σ',H',I,q⟩:=h;exact⟨σ',H',I.unwish,q⟩
 |brk=>obtain⟨σ',H',I,q⟩:=h;exact⟨σ',H',I.unwish,q⟩
 |cont=>obtain⟨σ',H',I,q⟩:=h;exact⟨σ',H',I.unwish,q⟩
 |ret u=>obtain⟨v,σ',H',I,r,q⟩:=h;exact⟨v,σ',H',I.unwish,r,q⟩
theorem PSs.nox{st:List Stmt}{t:TS}(h:PSs X.nox st t):PSs X st t:=fun pins s σ H D I hw=>
 wpAny_mono (h pins s σ H D (I.wish _) hw) (fun _ _ q=>q.unwish) fun _ _ z=>False.elim z
end
section
variable{X:Cx}{st:Stmt}{rest:List Stmt}{t u:TS}{e:Expr}{te:TE}{pos:Pos}
noncomputable def zgu:TS:=fun D σ H=>D.nx σ H
noncomputable def ziX(t u:TS):TS:=fun D σ H=>t {D with nx:=u D} σ H
theorem zba:PSs X [] zgu:=fun _ _ σ H _ I h=>wpAny_execs_nil ⟨σ,H,I,h⟩
theorem z8L(h1:PS X st t)(h2:PSs X rest u):PSs X (st::rest) (ziX t u):=by
 intro pins s σ H D I h
 refine wpAny_execs_cons (thn (h1 pins s σ H {D with nx:=u D} I h) fun f s1 q=> ?_)
 cases f with
 |next=>
  obtain⟨σ',H',I',q⟩:=q
  exact h2 pins s1 σ' H' D I' q
 |ret v=>exact q
 |brk=>exact q
 |cont=>exact q
theorem zbb(h1:PS X st t):PSs X [st] t:=by
 intro pins s σ H D I h
 refine wpAny_execs_cons (thn (h1 pins s σ H D I h) fun f s1 q=> ?_)
 cases f with
 |next=>exact wpAny_execs_nil q
 |ret v=>exact q
 |brk=>exact q
 |cont=>exact q
theorem Inv.quiet{pins:List (Addr×Obj)}{σ:St}{H:Hp}{s:Shared}(I:Inv X pins σ H s):interactive X.env=false:=by simp[interactive,I.ok.kind]
noncomputable def zgv(te:TE):TS:=fun D σ H=>te σ H fun _ H1=>D.nx σ H1
theorem zbc(he:PE X e te)(hs:swapsWith e none pos.line X.env=pure false:=by rfl):PS X (.Expr e pos) (zgv te):=by
 intro pins s σ H D I h
 exact wpAny_Expr_any (thn (he pins s σ H _ I h) fun v s1 ⟨x,H1,I1,r1,q1⟩=>⟨σ,H1,I1,q1⟩) I.quiet hs
noncomputable def ziY(te:TE):TS:=fun D σ H=>te σ H D.rt
theorem zdt(he:PE X e te):PS X (.Return (some e) pos) (ziY te):=by
 intro pins s σ H D I h
 exact wpAny_Return_some (thn (he pins s σ H _ I h) fun v s1 ⟨x,H1,I1,r1,q1⟩=>⟨x,σ,H1,I1,r1,q1⟩)
noncomputable def ziZ(c:TT)(t u:TS):TS:=fun D σ H=>c σ H fun b H1=>if b=true then t D σ H1 else u D σ H1
theorem zgw{c:Expr}{a b:List Stmt}{tc:TT}(hc:PT X c tc)(ha:PSs X a t)(hb:PSs X b u):PS X (.If c a b pos) (ziZ tc t u):=by
 intro pins s σ H D I h
 refine wpAny_If (thn (hc pins s σ H _ I h) fun d s1 ⟨H1,I1,q1⟩=> ?_)
 cases d with
 |true=>exact ha pins s1 σ H1 D I1 q1
 |false=>exact hb pins s1 σ H1 D I1 q1
end
noncomputable abbrev TG:=V->St->Hp->(St->Hp->Prop)->Prop
noncomputable abbrev TGs:=List V->St->Hp->(St->Hp->Prop)->Prop
noncomputable def PG(X:Cx)(target:Expr)(t:TG):Prop:=
 ∀(pins:List (Addr×Obj)) (s:Shared) (σ:St) (H:Hp) (v:V) (u:Value) (Q:St->Hp->Prop),Inv X pins σ H s->RelV v u->t v σ H Q->
  wpAny (model X.prog X.w) X.A (assign target X.env u) (fun _ s'=> ∃σ' H',Inv X pins σ' H' s'/\Q σ' H') X.xe s
noncomputable def PGs(X:Cx)(ts:List Expr)(t:TGs):Prop:=
 ∀(pins:List (Addr×Obj)) (s:Shared) (σ:St) (H:Hp) (vs:List V) (us:List Value) (Q:St->Hp->Prop),Inv X pins σ H s->w4 vs us->t vs σ H Q->
  wpAny (model X.prog X.w) X.A (assignInOrder ((assignEach ts X.env).map (·.2)) us) (fun _ s'=> ∃σ' H',Inv X pins σ' H' s'/\Q σ' H') X.xe s
noncomputable abbrev zgx:=V->V->V->Hp->(Hp->Prop)->Prop
noncomputable def ziE(X:Cx)(t:zgx):Prop:=
 ∀(pins:List (Addr×Obj)) (s:Shared) (σ:St) (H:Hp) (o i v:V) (ov iv u:Value) (Q:Hp->Prop),Inv X pins σ H s->RelV o ov->RelV i iv->RelV v u->t o i v H Q->
  wpAny (model X.prog X.w) X.A (setItem ov iv u) (fun _ s'=> ∃H',Inv X pins σ H' s'/\Q H') X.xe s
section
variable{X:Cx}{pos:Pos}
noncomputable def z0o(i:Nat):TG:=fun v σ H Q=>Q (σ.set i (some v)) H
theorem K8{i:Nat}{x:Str}(hN:X.N.Nodup)(hi:X.N[i]? =some x)(hx:Loc X.env.scope x)(hf:X.fn x=true\/X.env.scope.names.lookup x=some .local:=by first|exact .inl rfl|exact .inr rfl|assumption):PG X (.Name x pos) (z0o i):=by
 intro pins s σ H v u Q I r h
 exact wpAny_assign_Name (z35 I hN hi hx r (fun s' I'=>⟨_,H,I',h⟩) hf)
noncomputable def zgf:TGs:=fun vs σ H Q=>vs=[]/\Q σ H
noncomputable def z4y(t:TG)(u:TGs):TGs:=fun vs σ H Q=> ∃v r,vs=v::r/\t v σ H fun σ' H'=>u r σ' H' Q
theorem z6T:PGs X [] zgf:=by
 intro pins s σ H vs us Q I r h
 obtain⟨e,h⟩:=h
 subst e
 cases r
 exact assignInOrder_nil ⟨σ,H,I,h⟩
theorem z36{e:Expr}{es:List Expr}{t:TG}{u:TGs}(h1:PG X e t)(h2:PGs X es u)
 (hs:(assignEach (e::es) X.env).map (·.2)=assign e X.env::(assignEach es X.env).map (·.2):=by rfl):PGs X (e::es) (z4y t u):=by
 intro pins s σ H vs us Q I r h
 obtain⟨v,vr,e1,h⟩:=h
 subst e1
 cases r with
 |cons r rr=>
  rw[hs]
  refine assignInOrder_cons (thn (h1 pins s σ H _ _ _ I r h) fun _ s1 ⟨σ1,H1,I1,q1⟩=> ?_)
  exact h2 pins s1 σ1 H1 _ _ Q I1 rr q1
noncomputable def zgg(K:W.Frag)(n:Nat)(t:TGs):TG:=fun v σ H Q=> ∃a xs,v= .ref a/\SqT K H a xs/\xs.length=n/\t xs σ H Q
theorem zae{es:List Expr}{k:Nat}{t:TGs}{n:Nat}(hc:X.calm=true)(h:PGs X es t)
 (hn:(assignEach es X.env).length=n:=by rfl) (hst:(assignEach es X.env).findIdx? (·.1)=none:=by rfl):PG X (.Tuple es k pos) (zgg X.K n t):=by
 intro pins s σ H v u Q I r hw
 obtain⟨a,xs,e1,hq,hl,hw⟩:=hw
 subst e1
 cases r
 obtain⟨its,rv,ht,hz⟩:=I.tuple hq
 refine assign_Tuple_tuple (I.ok.hd hc) ht (by simp[hn,<-hl,rv.length]) hst fun h' hx=> ?_
 have I1:Inv X pins σ H {s with heap:=h'}:=I.kept (t':=s.toks) fun b o e=>hx b o (l0 (Heap.lt_size e)) e
 exact h pins _ σ H xs _ Q I1 (by simpa using rv) hw
noncomputable def zgy(to ti:TE)(t:zgx):TG:=fun v σ H Q=>to σ H fun o H1=>ti σ H1 fun i H2=>t o i v H2 fun H3=>Q σ H3
theorem zaf{o i:Expr}{to ti:TE}{t:zgx}(ho:PE X o to)(hi:PE X i ti)(hs:ziE X t)
 (ha: ∀v,assign (.Subscript o i pos) X.env v=(do
  let ov<-holding [v] (eval o X.env)
  let iv<-holding [v,ov] (eval i X.env)
  standAt pos
  holding [v,ov,iv] (setItem ov iv v)
  release [v,ov,iv] []):=by intro _;rfl):PG X (.Subscript o i pos) (zgy to ti t):=by
 intro pins s σ H v u Q I r h
 rw[ha]
 refine wpAny_bind (wpAny_holding (thn (ho pins s σ H _ I h) fun ov s1 ⟨x,H1,I1,r1,q1⟩=> ?_))
 refine wpAny_bind (wpAny_holding (thn (hi pins s1 σ H1 _ I1 q1) fun iv s2 ⟨y,H2,I2,r2,q2⟩=> ?_))
 refine wpAny_bind (wpAny_standAt (wpAny_bind (wpAny_holding (thn (hs pins s2 σ H2 x y v ov iv u _ I2 r1 r2 r q2) fun _ s3 ⟨H3,I3,q3⟩=> ?_))))
 exact wpAny_release ⟨σ,H3,I3,q3⟩
noncomputable def zgh(te:TE)(g:TG):TS:=fun D σ H=>te σ H fun x H1=>g x σ H1 D.nx
theorem zag{tg e:Expr}{te:TE}{g:TG}(he:PE X e te)(hg:PG X tg g)(hs:swapsWithSole [tg] e pos.line X.env=pure false:=by rfl)(hw:swappedStores [tg] e X.env=pure none:=by rfl)
 (h1:(assignEach [tg] X.env).map (·.2)=[assign tg X.env]:=by rfl):PS X (.Assign [tg] e pos) (zgh te g):=by
 intro pins s σ H D I h
 refine wpAny_Assign_stores (thn (he pins s σ H _ I h) fun v s1 ⟨x,H1,I1,r1,q1⟩=> ?_) hs hw
 rw[h1]
 exact thn (hg pins s1 σ H1 x v _ I1 r1 q1) fun _ s2 q=>q
theorem zah{i:Nat}{x:Str}{e:Expr}{te:TE}{pos':Pos}(hN:X.N.Nodup)(hi:X.N[i]? =some x)(hx:Loc X.env.scope x)(he:PE X e te)(hs:swapsWith e (some (.Name x pos')) pos.line X.env=pure false:=by rfl)(hf:X.fn x=true\/X.env.scope.names.lookup x=some .local:=by first|exact .inl rfl|exact .inr rfl|assumption):
 PS X (.Assign [.Name x pos'] e pos) (zgh te (z0o i)):=by
 intro pins s σ H D I h
 refine wpAny_Assign_Name (thn (he pins s σ H _ I h) fun v s1 ⟨y,H1,I1,r1,q1⟩=> ?_) hs
 exact z35 I1 hN hi hx r1 (fun s2 I2=>⟨_,H1,I2,q1⟩) hf
end
structure It where
 go:Nat->Hp->Prop
 yld:Nat->Hp->V->Hp->Prop
 stop:Nat->Hp->Prop
noncomputable def z6F(X:Cx)(pins:List (Addr×Obj))(H:Hp)(b:Addr):Prop:=
 H b=none/\b≠X.env.locals/\b∉X.fs/\(b∈X.ex\/X.s₀.heap.objs.size<=b)/\(∀x c,X.env.cells.lookup x=some c->c≠b)/\∀p∈X.pn++pins,p.1≠b
theorem Inv.fpOk{X:Cx}{pins:List (Addr×Obj)}{σ:St}{H H':Hp}{s:Shared}{b:Addr}(I:Inv X pins σ H s)(hb:s.heap.objs.size<=b)(hn:H' b=none):z6F X pins H' b:=by
 refine⟨hn,N2 (i7 I.lt hb),I.nofs hb, .inr (s0 I.sz hb),fun x c e z=> ?_,fun p hp z=> ?_⟩
 ·obtain⟨v,q⟩:=I.cell x c e
  exact absurd (i7 q.lt (by rw[z];exact hb)) (B6 _)
 ·exact absurd (i7 (Heap.lt_size (I.pin p hp).1) (by rw[z];exact hb)) (B6 _)
structure zcW(P:Program)(w:World)(K:W.Frag)(tg:Expr)(J:It)(fp:List Addr)(it:Addr)(tn:Nat->Heap->Prop):Prop where
 mem:it∈fp
 obj: ∀i h,tn i h->∀b∈fp,∃o,h.get? b=some o/\∀v,o.data≠ .cell v
 keep: ∀i h h',tn i h->(∀b∈fp,∀o,h.get? b=some o->h'.get? b=some o)->tn i h'
 item: ∀(X:Cx),X.prog=P->X.w=w->X.K=K->X.calm=true->∀(i:Nat) (pins:List (Addr×Obj)) (s:Shared) (σ:St) (H:Hp) (E:Value->Shared->Prop),Inv X pins σ H s->(∀b∈fp,z6F X pins H b)->tn i s.heap->J.go i H->
  wpAny (model P w) X.A (pyNext (.ref it)) (fun r s1=> ∃u,r=some u/\
   wpAny (model P w) X.A (letOwnedTupleGo tg (.ref it) u) (fun _ s2=> ∃x H',Inv X pins σ H' s2/\RelV x u/\J.yld i H x H'/\tn (i+1) s2.heap/\∀b∈fp,H' b=none) E s1) E s
 done: ∀(X:Cx),X.prog=P->X.w=w->X.K=K->X.calm=true->∀(i:Nat) (pins:List (Addr×Obj)) (s:Shared) (σ:St) (H:Hp) (E:Value->Shared->Prop),Inv X pins σ H s->(∀b∈fp,z6F X pins H b)->tn i s.heap->J.stop i H->
  wpAny (model P w) X.A (pyNext (.ref it)) (fun r s1=>r=none/\Inv X pins σ H s1) E s
 self: ∀(A:Around) (i:Nat) (s:Shared) (Q:Value->Shared->Prop) (E:Value->Shared->Prop),tn i s.heap->Q (.ref it) s->wpAny (model P w) A (pyIter (.ref it)) Q E s
noncomputable abbrev TI:=St->Hp->(It->Hp->Prop)->Prop
noncomputable def PIE(X:Cx)(pins:List (Addr×Obj))(σ:St)(tg:Expr)(R:It->Hp->Prop)(itv:Value)(s2:Shared):Prop:=
 ∃(it:Addr) (fp:List Addr) (tn:Nat->Heap->Prop) (J:It) (H':Hp),itv= .ref it/\Inv X pins σ H' s2/\zcW X.prog X.w X.K tg J fp it tn/\tn 0 s2.heap/\(∀b∈fp,z6F X pins H' b)/\R J H'
noncomputable def PI(X:Cx)(tg iter:Expr)(wi:TI):Prop:=
 ∀(pins:List (Addr×Obj)) (s:Shared) (σ:St) (H:Hp) (R:It->Hp->Prop),Inv X pins σ H s->wi σ H R->
  wpAny (model X.prog X.w) X.A (eval iter X.env) (fun v s1=>wpAny (model X.prog X.w) X.A (pyIter v) (PIE X pins σ tg R) X.xe s1) X.xe s
theorem z8M{M:Model}{A:Around}{E:Value->Shared->Prop}{s:Shared}{tg:Expr}{it:Addr}{u:Value}{o:Obj}{n:String}{vs:Array Value}{Q:Unit->Shared->Prop}(ho:s.heap.get? it=some o)(hc:o.cls= .type n)(hd:o.data= .fields vs)
 (hn:["enumerate", "zip", "dict_itemiterator", "dict_reverseitemiterator", "odict_iterator", "itertools.zip_longest", "itertools.pairwise"].contains n=false) (hQ:Q () s):wpAny M A (letOwnedTupleGo tg (.ref it) u) Q E s:=by
 unfold letOwnedTupleGo
 cases tg<;>first
  |exact wpAny_pure hQ
  |(cases u<;>first
   |exact wpAny_pure hQ
   |(refine wpAny_bind (wpAny_load ho ?_)
     rw[hc,hd]
     show wpAny M A (if(["enumerate", "zip", "dict_itemiterator", "dict_reverseitemiterator", "odict_iterator", "itertools.zip_longest", "itertools.pairwise"].contains n&&vs[0]? ==some (rawInt _))=true then _ else _) Q E s
     rw[if_neg (by intro h;rw[hn,D0] at h;cases h)]
     exact wpAny_pure hQ))
noncomputable def Itl(K:W.Frag)(a:Addr):It:=
 ⟨fun i H=> ∃xs x,SqL K H a xs/\xs[i]? =some x,fun i H x H'=>H'=H/\∀xs,SqL K H a xs->xs[i]? =some x,fun i H=> ∃xs,SqL K H a xs/\xs.length<=i⟩
noncomputable def Itt(K:W.Frag)(a:Addr):It:=
 ⟨fun i H=> ∃xs x,SqT K H a xs/\xs[i]? =some x,fun i H x H'=>H'=H/\∀xs,SqT K H a xs->xs[i]? =some x,fun i H=> ∃xs,SqT K H a xs/\xs.length<=i⟩
noncomputable def Itr(lo:Int)(n:Nat):It:=⟨fun i _=>i<n,fun i H x H'=>H'=H/\x= .int (lo+i),fun i _=>n<=i⟩
theorem z6U{P:Program}{w:World}{K:W.Frag}{tg:Expr}(a it:Addr):zcW P w K tg (Itl K a) [it] it (fun i h=>h.IsListIter it a i) where
 mem:=by simp
 obj:=fun i h st b hb=>by
  have e:b=it:=by simpa using hb
  subst e
  obtain⟨o,e,c,d⟩:=st
  exact⟨o,e,fun v z=>by rw[d] at z;cases z⟩
 keep:=fun i h h' st k=>st.at fun o e=>k it (by simp) o e
 item:=by
  intro X hP hw hK hc i pins s σ H E I hf st hg
  subst hP hw hK
  obtain⟨xs,x,hq,hx⟩:=hg
  obtain⟨its,rv,p,hz⟩:=I.list hq
  obtain⟨u,hu,ru⟩:=rv.get hx
  obtain⟨f0,f1,f2,f3,f4,f5⟩:=hf it (by simp)
  refine wpAny_pyNext_list_item st p.isList (x:=u) (by simpa using hu) fun h' st' sb=> ?_
  have I1:Inv X pins σ H {s with heap:=h'}:=I.turned (t':=s.toks) (fun b o hb e=>(sb.2 b hb).trans e) f0 f1 f3 f4 f5
  obtain⟨o,e,c,d⟩:=id st'
  exact⟨u,rfl,z8M (s:={s with heap:=h'}) e c d (by decide) ⟨x,H,I1,ru,⟨rfl,fun ys hy=>by rw[I.list_inj hy hq];exact hx⟩,st',fun b hb=>(hf b hb).1⟩⟩
 done:=by
  intro X hP hw hK hc i pins s σ H E I hf st hg
  subst hP hw hK
  obtain⟨xs,hq,hx⟩:=hg
  obtain⟨its,rv,p,hz⟩:=I.list hq
  obtain⟨f0,f1,f2,f3,f4,f5⟩:=hf it (by simp)
  have hl:=rv.length
  exact wpAny_pyNext_list_end (I.ok.hd hc) st p.isList (by simp;lia) fun h' eb=>⟨rfl,I.turned (t':=s.toks) (fun b o hb e=>eb b o hb e) f0 f1 f3 f4 f5⟩
 self:=fun _ _ _ _ _ st h=>wpAny_pyIter_listiter st h
theorem z5Z{P:Program}{w:World}{K:W.Frag}{tg:Expr}(a it:Addr):zcW P w K tg (Itt K a) [it] it (fun i h=>h.IsTupleIter it a i) where
 mem:=by simp
 obj:=fun i h st b hb=>by
  have e:b=it:=by simpa using hb
  subst e
  obtain⟨o,e,c,d⟩:=st
  exact⟨o,e,fun v z=>by rw[d] at z;cases z⟩
 keep:=fun i h h' st k=>st.at fun o e=>k it (by simp) o e
 item:=by
  intro X hP hw hK hc i pins s σ H E I hf st hg
  subst hP hw hK
  obtain⟨xs,x,hq,hx⟩:=hg
  obtain⟨its,rv,p,hz⟩:=I.tuple hq
  obtain⟨u,hu,ru⟩:=rv.get hx
  obtain⟨f0,f1,f2,f3,f4,f5⟩:=hf it (by simp)
  refine wpAny_pyNext_tuple_item st (show s.heap.IsTuple a its.toArray from p) (x:=u) (by simpa using hu) fun h' st' sb=> ?_
  have I1:Inv X pins σ H {s with heap:=h'}:=I.turned (t':=s.toks) (fun b o hb e=>(sb.2 b hb).trans e) f0 f1 f3 f4 f5
  obtain⟨o,e,c,d⟩:=id st'
  exact⟨u,rfl,z8M (s:={s with heap:=h'}) e c d (by decide) ⟨x,H,I1,ru,⟨rfl,fun ys hy=>by rw[I.tuple_inj hy hq];exact hx⟩,st',fun b hb=>(hf b hb).1⟩⟩
 done:=by
  intro X hP hw hK hc i pins s σ H E I hf st hg
  subst hP hw hK
  obtain⟨xs,hq,hx⟩:=hg
  obtain⟨its,rv,p,hz⟩:=I.tuple hq
  obtain⟨f0,f1,f2,f3,f4,f5⟩:=hf it (by simp)
  have hl:=rv.length
  exact wpAny_pyNext_tuple_end (I.ok.hd hc) st (show s.heap.IsTuple a its.toArray from p) (by simp;lia) fun h' eb=>⟨rfl,I.turned (t':=s.toks) (fun b o hb e=>eb b o hb e) f0 f1 f3 f4 f5⟩
 self:=fun _ _ _ _ _ st h=>wpAny_pyIter_tupleiter st h
theorem z60{P:Program}{w:World}{K:W.Frag}{tg:Expr}(it:Addr)(lo:Int)(n:Nat):zcW P w K tg (Itr lo n) [it] it (fun i h=>IsRangeIter h it (lo+(i:Nat)*1) ((n:Int) -(i:Nat)) 1) where
 mem:=by simp
 obj:=fun i h st b hb=>by
  have e:b=it:=by simpa using hb
  subst e
  exact⟨_,st,fun v z=>by
   have z':Data.fields _=Data.cell v:=z
   cases z'⟩
 keep:=fun i h h' st k=>k it (by simp) _ st
 item:=by
  intro X hP hw hK hc i pins s σ H E I hf st hg
  subst hP hw hK
  obtain⟨f0,f1,f2,f3,f4,f5⟩:=hf it (by simp)
  have W:=Walks.range (prog:=X.prog) (w:=X.w) (I.ok.hd hc) it lo 1 n
  refine W.item i s _ _ hg st fun v h' tk hv st' kk=> ?_
  obtain⟨t,rfl⟩:=hv
  have I1:Inv X pins σ H {s with heap:=h',toks:=tk}:=I.turned (fun b o hb e=>kk b o (by simpa using hb) e) f0 f1 f3 f4 f5
  refine⟨_,rfl,z8M (s:={s with heap:=h',toks:=tk}) (n:= "range_iterator") st' rfl rfl (by decide) ⟨.int (lo+i),H,I1,⟨t, ?_⟩,⟨rfl,rfl⟩,st',fun b hb=>(hf b hb).1⟩⟩
  rw[Int.mul_one]
 done:=by
  intro X hP hw hK hc i pins s σ H E I hf st hg
  subst hP hw hK
  obtain⟨f0,f1,f2,f3,f4,f5⟩:=hf it (by simp)
  exact wpAny_pyNext_range_end (I.ok.hd hc) st (by have:n<=i:=hg;lia) fun h' eb=>⟨rfl,I.turned (t':=s.toks) (fun b o hb e=>eb b o hb e) f0 f1 f3 f4 f5⟩
 self:=fun _ _ _ _ _ st h=>wpAny_pyIter_rangeiter st h
section
variable{X:Cx}{tg:Expr}
theorem z8N{pins:List (Addr×Obj)}{σ:St}{H:Hp}{s:Shared}{R:It->Hp->Prop}{E:Value->Shared->Prop}{lo hi:Int}{t u v:Tok}{tk:Nat}(I:Inv X pins σ H s)(h1: -(2^62)<=lo)(h2:lo<2^62)(h3: -(2^62)<=hi)(h4:hi<2^62)
 (q:R (Itr lo (hi -lo).toNat) H):wpAny (model X.prog X.w) X.A (pyIter (.ref s.heap.objs.size)) (PIE X pins σ tg R) E {s with heap:=s.heap.push {cls:= .type "range",data:= .fields #[.int lo t, .int hi u, .int 1 v]},toks:=tk}:=by
 refine wpAny_pyIter_range (IsRange.new ..) (small_one h1 h2 h3 h4) ?_
 have I1:Inv X pins σ H {s with heap:=s.heap.push {cls:= .type "range",data:= .fields #[.int lo t, .int hi u, .int 1 v]},toks:=tk}:=I.kept fun b o e=>Heap.get?_push_of_some _ e
 refine⟨(s.heap.push {cls:= .type "range",data:= .fields #[.int lo t, .int hi u, .int 1 v]}).objs.size,[(s.heap.push {cls:= .type "range",data:= .fields #[.int lo t, .int hi u, .int 1 v]}).objs.size],_,_,H,rfl,
  I1.kept (t':=tk) fun b o e=>Heap.get?_push_of_some _ e,z60 _ lo (hi -lo).toNat, ?_,fun b hb=> ?_,q⟩
 ·have e1:lo+((0:Nat):Int)*1=lo:=by simp
  have e2:(((hi -lo).toNat:Nat):Int) -((0:Nat):Int)=Builtin.Range.rangeSize lo hi 1:=by rw[rangeSize_one];split<;>lia
  show IsRangeIter _ _ (lo+((0:Nat):Int)*1) ((((hi -lo).toNat:Nat):Int) -((0:Nat):Int)) 1
  rw[e1,e2]
  exact Heap.get?_push_size _ rfl
 ·have e:b=(s.heap.push {cls:= .type "range",data:= .fields #[.int lo t, .int hi u, .int 1 v]}).objs.size:=by simpa using hb
  subst e
  exact I1.fpOk (e8 _) (I1.hok.fresh (e8 _))
noncomputable def zgz(ta:TA):TI:=fun σ H R=>ta σ H fun vs H1=> ∃j:Int,vs=[.int j]/\-(2^62)<=j/\j<2^62/\R (Itr 0 j.toNat) H1
theorem z6V{a:Expr}{ta:TA}{p pos:Pos}(hg:Gl X "range")(hm:X.mg "range" =none)(ha:PA X [a] ta)(hs:starEach [a] X.env=[(false,eval a X.env)]:=by rfl):PI X tg (.Call (.Name "range" p) [a] [] pos) (zgz ta):=by
 intro pins s σ H R I h
 refine Call_ (z5j I hg hm boot_range (PyProof.Rows.callWith_type1 (thn (ha pos pins s σ H _ I h) fun us s1 ⟨vs,H1,I1,r1,q1⟩=> ?_) hs rfl))
 obtain⟨j,e,q1,q2,q⟩:=q1
 subst e
 cases r1 with
 |cons r rr=>
  cases rr
  obtain⟨t,rfl⟩:=r
  exact call_range_1 (z8N I1 (by lia) (by lia) q1 q2 (by simpa using q))
noncomputable def zj0(wi:TI)(g:TG)(tb:TS):TS:=fun D σ H=>wi σ H fun J H1=> ∃W:Nat->Nat->St->Hp->Prop,(∃m,W 0 m σ H1)/\∀i m σ H,W i m σ H->
 (J.stop i H/\D.nx σ H)\/(J.go i H/\∃N:St->Hp->Prop,(∀σ' H',N σ' H'->∃m',m'<m/\W (i+1) m' σ' H')/\∀x H',J.yld i H x H'->g x σ H' fun σ2 H2=>tb {D with nx:=N,ct:=N,bk:=D.nx} σ2 H2)
noncomputable def z5k(fp:List Addr)(h:Heap):List (Addr×Obj):=fp.filterMap fun b=>(h.get? b).map fun o=>(b,o)
theorem G9{fp:List Addr}{h:Heap}{b:Addr}{o:Obj}(hb:b∈fp)(e:h.get? b=some o):(b,o)∈z5k fp h:=E9.mpr ⟨b,hb,by rw[e];rfl⟩
theorem z6W{fp:List Addr}{h:Heap}{p:Addr×Obj}(hp:p∈z5k fp h):p.1∈fp/\h.get? p.1=some p.2:=by
 obtain⟨b,hb,e⟩:=E9.mp hp
 cases q:h.get? b with
 |none=>rw[q] at e;cases e
 |some o=>
  rw[q] at e
  have e':(b,o)=p:=Option.some.inj e
  subst e'
  exact⟨hb,q⟩
theorem Inv.pinned{pins:List (Addr×Obj)}{σ:St}{H:Hp}{s:Shared}{fp:List Addr}(I:Inv X pins σ H s)(hf: ∀b∈fp,z6F X pins H b)(ho: ∀b∈fp,∃o,s.heap.get? b=some o/\∀v,o.data≠ .cell v):Inv X (pins++z5k fp s.heap) σ H s:=
 I.pins_of fun p hp=>(c8.mp hp).elim (fun z=>I.pin p (b6 _ z)) fun z=>by
  obtain⟨hb,e⟩:=z6W z
  obtain⟨f0,f1,f2,_⟩:=hf p.1 hb
  obtain⟨o,e',d⟩:=ho p.1 hb
  rw[e] at e';cases e'
  exact⟨e,f0,f1,f2,d⟩
theorem Inv.unpinned{pins pl:List (Addr×Obj)}{σ:St}{H:Hp}{s:Shared}(I:Inv X (pins++pl) σ H s):Inv X pins σ H s:=I.pins_of fun p hp=>I.pin p (b6 _ (b8 _ hp))
theorem zdu{iter:Expr}{body:List Stmt}{wi:TI}{g:TG}{tb:TS}{pos:Pos}(hp:PassesOwn (model X.prog X.w) X.A X.env X.xe)(hc:X.calm=true)(hi:PI X tg iter wi)(hg:PG X tg g)(hb:PSs X body tb)
 (hs: ∀x,foldedSetIterable iter X.env x=pure x:=by intro _;rfl):PS X (.For tg iter body [] pos) (zj0 wi g tb):=by
 intro pins s σ H D I h
 refine wpAny_For (thn (hi pins s σ H _ I h) fun v s1 h1=>thn h1 fun itv s2 h2=> ?_) hs
 obtain⟨it,fp,tn,J,H2,e,I2,T,st2,f2,W,⟨m0,w0⟩,turn⟩:=h2
 subst e
 have stat: ∀{H':Hp},(∀b∈fp,H' b=none)->∀b∈fp,z6F X pins H' b:=fun hn b hb=>⟨hn b hb,(f2 b hb).2⟩
 refine codeAny_forLoop_any (fun n s'=> ∃i σ' H',Inv X pins σ' H' s'/\tn i s'.heap/\(∀b∈fp,H' b=none)/\W i n σ' H') ?_ m0 ⟨0,σ,H2,I2,st2,fun b hb=>(f2 b hb).1,w0⟩
 rintro n s3 ⟨i,σ3,H3,I3,st3,fr3,w3⟩
 rcases turn i n σ3 H3 w3 with⟨stop,qn⟩|⟨go,N,hN,step⟩
 ·refine wpAny_passesOwn hp (thn (T.done X rfl rfl rfl hc i pins s3 σ3 H3 X.xe I3 (stat fr3) st3 stop) fun r s4 ⟨hr,I4⟩=> ?_)
  subst hr
  exact wpAny_execs_nil ⟨σ3,H3,I4,qn⟩
 ·refine wpAny_passesOwn hp (thn (T.item X rfl rfl rfl hc i pins s3 σ3 H3 X.xe I3 (stat fr3) st3 go) fun r s4 ⟨u,hr,h4⟩=> ?_)
  subst hr
  refine wpAny_passesOwn hp (thn h4 fun _ s5 ⟨x,H5,I5,r5,y5,st5,fr5⟩=> ?_)
  have I5':=I5.pinned (stat fr5) (T.obj _ _ st5)
  refine wpAny_passesOwn hp (thn (hg _ s5 σ3 H5 x u _ I5' r5 (step x H5 y5)) fun _ s6 ⟨σ6,H6,I6,q6⟩=> ?_)
  refine wpAny_passesOwn hp (thn (hb _ s6 σ6 H6 _ I6 q6) fun f s7 q7=> ?_)
  have again: ∀{σ7:St} {H7:Hp},Inv X (pins++z5k fp s5.heap) σ7 H7 s7->N σ7 H7->∃m,m<n/\∃i σ' H',Inv X pins σ' H' s7/\tn i s7.heap/\(∀b∈fp,H' b=none)/\W i m σ' H':=fun{σ7 H7} I7 n7=>by
   obtain⟨m',hm,w7⟩:=hN σ7 H7 n7
   refine⟨m',hm,i+1,σ7,H7,I7.unpinned,T.keep _ _ _ st5 fun b hb o e=>(I7.pin (b,o) (b6 _ (b6 _ (G9 hb e)))).1,fun b hb=> ?_,w7⟩
   obtain⟨o,e,d⟩:=T.obj _ _ st5 b hb
   exact(I7.pin (b,o) (b6 _ (b6 _ (G9 hb e)))).2.1
  cases f with
  |next=>obtain⟨σ7,H7,I7,n7⟩:=q7;exact again I7 n7
  |cont=>obtain⟨σ7,H7,I7,n7⟩:=q7;exact again I7 n7
  |brk=>obtain⟨σ7,H7,I7,q7⟩:=q7;exact⟨σ7,H7,I7.unpinned,q7⟩
  |ret v=>obtain⟨x7,σ7,H7,I7,r7,q7⟩:=q7;exact⟨x7,σ7,H7,I7.unpinned,r7,q7⟩
end
noncomputable abbrev R2:=V->V->Hp->VK->Prop
noncomputable def OpR(X:Cx)(f:Value->Value->Sem Value)(r:R2):Prop:=
 ∀(pins:List (Addr×Obj)) (s:Shared) (σ:St) (H:Hp) (x y:V) (v u:Value) (Q:VK),Inv X pins σ H s->RelV x v->RelV y u->r x y H Q->
  wpAny (model X.prog X.w) X.A (f v u) (EP X pins σ Q) X.xe s
noncomputable def UnR(X:Cx)(f:Value->Sem Value)(r:V->Hp->VK->Prop):Prop:=
 ∀(pins:List (Addr×Obj)) (s:Shared) (σ:St) (H:Hp) (x:V) (v:Value) (Q:VK),Inv X pins σ H s->RelV x v->r x H Q->
  wpAny (model X.prog X.w) X.A (f v) (EP X pins σ Q) X.xe s
noncomputable def CallR(X:Cx)(f:Value)(r:List V->Hp->VK->Prop):Prop:=
 ∀(pins:List (Addr×Obj)) (s:Shared) (σ:St) (H:Hp) (xs:List V) (us:List Value) (Q:VK),Inv X pins σ H s->w4 xs us->r xs H Q->
  wpAny (model X.prog X.w) X.A (call f us) (EP X pins σ Q) X.xe s
noncomputable def zj1(X:Cx)(r:V->Hp->(Bool->Hp->Prop)->Prop):Prop:=
 ∀(pins:List (Addr×Obj)) (s:Shared) (σ:St) (H:Hp) (x:V) (v:Value) (Q:Bool->Hp->Prop),Inv X pins σ H s->RelV x v->r x H Q->
  wpAny (model X.prog X.w) X.A (truthy v) (TP X pins σ Q) X.xe s
noncomputable def tOp(r:R2)(ta tb:TE):TE:=fun σ H Q=>ta σ H fun x H1=>tb σ H1 fun y H2=>r x y H2 Q
noncomputable def tUn(r:V->Hp->VK->Prop)(ta:TE):TE:=fun σ H Q=>ta σ H fun x H1=>r x H1 Q
noncomputable def rI(C:Int->Int->Prop)(g:Int->Int->V):R2:=fun x y H Q=> ∃i j,x= .int i/\y= .int j/\C i j/\Q (g i j) H
noncomputable def rI0(g:Int->Int->V):R2:=fun x y H Q=> ∃i j,x= .int i/\y= .int j/\Q (g i j) H
noncomputable def rU(g:Int->V):V->Hp->VK->Prop:=fun x H Q=> ∃i,x= .int i/\Q (g i) H
section
variable{X:Cx}{a b c:Expr}{ta tb tc:TE}{pos:Pos}
theorem ziF(ha:PE X a ta)(hb:PE X b tb){pins:List (Addr×Obj)}{s:Shared}{σ:St}{H:Hp}{R:V->V->Hp->Prop}(I:Inv X pins σ H s)
 (h:ta σ H fun x H1=>tb σ H1 fun y H2=>R x y H2) {Q:Value->Shared->Prop} {f:Value->Value->Sem Value}
 (hf: ∀v u s2 x y H2,Inv X pins σ H2 s2->RelV x v->RelV y u->R x y H2->wpAny (model X.prog X.w) X.A (f v u) Q X.xe s2):
 wpAny (model X.prog X.w) X.A (eval a X.env) (fun v s₁=>wpAny (model X.prog X.w) X.A (eval b X.env) (fun u s₂=>wpAny (model X.prog X.w) X.A (f v u) Q X.xe s₂) X.xe s₁) X.xe s:=by
 refine thn (ha pins s σ H _ I h) fun v s1 ⟨x,H1,I1,r1,q1⟩=> ?_
 refine thn (hb pins s1 σ H1 _ I1 q1) fun u s2 ⟨y,H2,I2,r2,q2⟩=> ?_
 exact hf v u s2 x y H2 I2 r1 r2 q2
theorem zbd{op:Operator}{r:R2}(ho:OpR X (binaryOp op) r)(ha:PE X a ta)(hb:PE X b tb):PE X (.BinOp a op b pos) (tOp r ta tb):=by
 intro pins s σ H Q I h
 exact wpAny_BinOp (ziF ha hb I h fun v u s2 x y H2 I2 rx ry q=>ho pins s2 σ H2 x y v u Q I2 rx ry q)
theorem zgA{op:UnaryOp}{r:V->Hp->VK->Prop}(ho:UnR X (unaryOp op) r)(ha:PE X a ta):PE X (.UnaryOp op a pos) (tUn r ta):=by
 intro pins s σ H Q I h
 exact UnaryOp_ (thn (ha pins s σ H _ I h) fun v s1 ⟨x,H1,I1,r1,q1⟩=>ho pins s1 σ H1 x v Q I1 r1 q1)
theorem opI{f:Value->Value->Sem Value}{C:Int->Int->Prop}{g:Int->Int->Int}
 (rule: ∀(i j:Int) (t u:Tok) (s:Shared) (Q:Value->Shared->Prop) (E:Value->Shared->Prop),C i j->Q (.int (g i j) s.toks) {s with toks:=s.toks+1}->wpAny (model X.prog X.w) X.A (f (.int i t) (.int j u)) Q E s):
 OpR X f (rI C fun i j=> .int (g i j)):=by
 intro pins s σ H x y v u Q I rx ry h
 obtain⟨i,j,rfl,rfl,hc,q⟩:=h
 obtain⟨t,rfl⟩:=rx
 obtain⟨t',rfl⟩:=ry
 exact rule i j t t' s _ _ hc ⟨.int (g i j),H,I.tok _,⟨_,rfl⟩,q⟩
theorem ziG{f:Value->Value->Sem Value}{g:Int->Int->Int}
 (rule: ∀(i j:Int) (t u:Tok) (s:Shared) (Q:Value->Shared->Prop) (E:Value->Shared->Prop),Q (.int (g i j) s.toks) {s with toks:=s.toks+1}->wpAny (model X.prog X.w) X.A (f (.int i t) (.int j u)) Q E s):
 OpR X f (rI0 fun i j=> .int (g i j)):=by
 intro pins s σ H x y v u Q I rx ry h
 obtain⟨i,j,rfl,rfl,q⟩:=h
 obtain⟨t,rfl⟩:=rx
 obtain⟨t',rfl⟩:=ry
 exact rule i j t t' s _ _ ⟨.int (g i j),H,I.tok _,⟨_,rfl⟩,q⟩
theorem zgi{f:Value->Value->Sem Value}{g:Int->Int->Bool}
 (rule: ∀(i j:Int) (t u:Tok) (s:Shared) (Q:Value->Shared->Prop) (E:Value->Shared->Prop),Q (.bool (g i j)) s->wpAny (model X.prog X.w) X.A (f (.int i t) (.int j u)) Q E s):
 OpR X f (rI0 fun i j=> .bl (g i j)):=by
 intro pins s σ H x y v u Q I rx ry h
 obtain⟨i,j,rfl,rfl,q⟩:=h
 obtain⟨t,rfl⟩:=rx
 obtain⟨t',rfl⟩:=ry
 exact rule i j t t' s _ _ ⟨.bl (g i j),H,I,rfl,q⟩
noncomputable def z8O(i j:Int):Prop:=0<j/\j<2^200
theorem zgB{x j:Int}(h1:0<j)(h2:j<2^200):Builtin.divisionGoesByPylong x j=false:=by
 refine PyProof.noPylong_of_log2 ?_
 have h3:j.natAbs.log2<200:=(Nat.log2_lt (by lia)).mpr (by lia)
 lia
noncomputable def zcX(i j:Int):Prop:=0<=j/\j<=1000000/\i.natAbs<2^64
noncomputable def z8P(i j:Int):Prop:=(-(2^64)<i/\i<2^64)\/(-(2^64)<j/\j<2^64)
theorem z8P.ok{i j:Int}(h:z8P i j):IntMulOk i j:=by
 rcases h with⟨h1,h2⟩|⟨h1,h2⟩
 ·exact .of_left (intBits_le_64 h1 h2)
 ·exact .of_right (intBits_le_64 h1 h2)
theorem zdv:OpR X (binaryOp .Add) (rI0 fun i j=> .int (i+j)):=ziG fun _ _ _ _ _ _ _ q=>add_int q
theorem zdw:OpR X (binaryOp .Sub) (rI0 fun i j=> .int (i -j)):=ziG fun _ _ _ _ _ _ _ q=>sub_int q
theorem zdx:OpR X (binaryOp .Mult) (rI z8P fun i j=> .int (i*j)):=opI fun _ _ _ _ _ _ _ hc q=>mul_int q hc.ok
theorem zbe:OpR X (binaryOp .FloorDiv) (rI z8O fun i j=> .int (i/j)):=opI fun i j _ _ _ _ _ hc q=>by
 have h1:(0:Int)<j:=hc.1
 have h2:j<2^200:=hc.2
 exact floordiv_int (by lia) (by rw[Int.fdiv_eq_ediv_of_nonneg i (by lia)];exact q) (.inl (zgB h1 h2))
theorem zdy:OpR X (binaryOp .Mod) (rI (fun _ j=>0<j) fun i j=> .int (i %j)):=opI fun i j _ _ _ _ _ hc q=>by
 have h1:(0:Int)<j:=hc
 exact mod_int' (by lia) (by rw[Int.fmod_eq_emod_of_nonneg i (by lia)];exact q)
theorem zdz:OpR X (binaryOp .Pow) (rI zcX fun i j=> .int (i^j.toNat)):=opI fun _ _ _ _ _ _ _ hc q=>pow_int_small hc.1 hc.2.1 hc.2.2 q
theorem unI{f:Value->Sem Value}{g:Int->Int}
 (rule: ∀(i:Int) (t:Tok) (s:Shared) (Q:Value->Shared->Prop) (E:Value->Shared->Prop),Q (.int (g i) s.toks) {s with toks:=s.toks+1}->wpAny (model X.prog X.w) X.A (f (.int i t)) Q E s):
 UnR X f (rU fun i=> .int (g i)):=by
 intro pins s σ H x v Q I rx h
 obtain⟨i,rfl,q⟩:=h
 obtain⟨t,rfl⟩:=rx
 exact rule i t s _ _ ⟨.int (g i),H,I.tok _,⟨_,rfl⟩,q⟩
theorem zdA:UnR X (unaryOp .USub) (rU fun i=> .int (-i)):=unI fun _ _ _ _ _ q=>neg_int q
end
noncomputable def zj2:V->V->Bool
 | .non, .non=>true| .non, .int _=>true| .int _, .non=>true| .non, .bl _=>true| .bl _, .non=>true| .non, .str _=>true| .str _, .non=>true
 | .int _, .int _=>true| .bl _, .bl _=>true| .str _, .str _=>true| .byt _, .byt _=>true
 | .int _, .str _=>true| .str _, .int _=>true| .bl _, .str _=>true| .str _, .bl _=>true
 |_,_=>false
noncomputable def rNe:R2:=fun x y H Q=>zj2 x y=true/\Q (.bl (!decide (x=y))) H
theorem zbf{i j:Int}:decide (V.int i=V.int j)=(i==j):=by
 rw[C7]
 simp
theorem zdB{i j:Bool}:decide (V.bl i=V.bl j)=(i==j):=by
 rw[C7]
 simp
theorem z6X{i j:Str}:decide (V.str i=V.str j)=(i==j):=by
 rw[C7]
 simp
theorem zbg{i j:Array UInt8}:decide (V.byt i=V.byt j)=(i.toList==j.toList):=by
 rw[C7]
 cases i
 cases j
 simp
section
variable{X:Cx}{a b c:Expr}{ta tb tc:TE}{pos:Pos}
theorem g7{pins:List (Addr×Obj)}{σ:St}{H:Hp}{s:Shared}{Q:VK}{k k':Bool}(I:Inv X pins σ H s)(q:Q (.bl k) H)(e:k=k'):EP X pins σ Q (.bool k') s:=by
 subst e
 exact⟨.bl k,H,I,rfl,q⟩
theorem zgC:OpR X (compareOp .NotEq) rNe:=by
 intro pins s σ H x y v u Q I rx ry h
 obtain⟨hs,q⟩:=h
 cases x with
 |non=>
  cases rx
  cases y with
  |non=>cases ry;exact PySem.EqNone.ne_none_none (g7 I q (by simp))
  |bl j=>cases ry;exact PySem.EqNone.ne_none_bool (g7 I q (by simp))
  |int j=>obtain⟨t',rfl⟩:=ry;exact PySem.EqNone.ne_none_int (g7 I q (by simp))
  |str j=>obtain⟨t',rfl⟩:=ry;exact PySem.EqNone.ne_none_str (g7 I q (by simp))
  |_=>exact absurd (show false=true from hs) i6
 |bl i=>
  cases rx
  cases y with
  |non=>cases ry;exact PySem.EqNone.ne_bool_none (g7 I q (by simp))
  |bl j=>cases ry;exact ne_bool (g7 I q (congrArg not zdB))
  |str j=>obtain⟨t',rfl⟩:=ry;exact PySem.EqMixed.ne_bool_str (g7 I q (by simp))
  |_=>exact absurd (show false=true from hs) i6
 |int i=>
  obtain⟨t,rfl⟩:=rx
  cases y with
  |non=>cases ry;exact PySem.EqNone.ne_int_none (g7 I q (by simp))
  |int j=>obtain⟨t',rfl⟩:=ry;exact ne_int (g7 I q (congrArg not zbf))
  |str j=>obtain⟨t',rfl⟩:=ry;exact PySem.EqMixed.ne_int_str (g7 I q (by simp))
  |_=>exact absurd (show false=true from hs) i6
 |str i=>
  obtain⟨t,rfl⟩:=rx
  cases y with
  |non=>cases ry;exact PySem.EqNone.ne_str_none (g7 I q (by simp))
  |bl j=>cases ry;exact PySem.EqMixed.ne_str_bool (g7 I q (by simp))
  |int j=>obtain⟨t',rfl⟩:=ry;exact PySem.EqMixed.ne_str_int (g7 I q (by simp))
  |str j=>obtain⟨t',rfl⟩:=ry;exact ne_str (g7 I q (congrArg not z6X))
  |_=>exact absurd (show false=true from hs) i6
 |byt i=>
  obtain⟨t,rfl⟩:=rx
  cases y with
  |byt j=>obtain⟨t',rfl⟩:=ry;exact W.ne_bytes (g7 I q (congrArg not zbg))
  |_=>exact absurd (show false=true from hs) i6
 |_=>cases y<;>exact absurd (show false=true from hs) i6
theorem zgD:OpR X (compareOp .Lt) (rI0 fun i j=> .bl (decide (i<j))):=zgi fun _ _ _ _ _ _ _ q=>lt_int q
theorem zgE:OpR X (compareOp .LtE) (rI0 fun i j=> .bl (decide (i<=j))):=zgi fun _ _ _ _ _ _ _ q=>le_int q
theorem zgF:OpR X (compareOp .Gt) (rI0 fun i j=> .bl (decide (j<i))):=zgi fun _ _ _ _ _ _ _ q=>gt_int q
theorem zgG:OpR X (compareOp .GtE) (rI0 fun i j=> .bl (decide (j<=i))):=zgi fun _ _ _ _ _ _ _ q=>ge_int q
theorem zdC:OpR X (compareOp .Is) (fun x y H Q=>y= .non/\Q (.bl (decide (x= .non))) H):=by
 intro pins s σ H x y v u Q I rx ry h
 obtain⟨rfl,q⟩:=h
 cases ry
 refine is_none_gen (g7 I q ?_)
 cases x<;>first
  |(cases rx;rfl)
  |(obtain⟨t,rfl⟩:=rx;rfl)
theorem zbh:OpR X (compareOp .IsNot) (fun x y H Q=>y= .non/\Q (.bl (!decide (x= .non))) H):=by
 intro pins s σ H x y v u Q I rx ry h
 obtain⟨rfl,q⟩:=h
 cases ry
 refine isnot_none_gen (g7 I q ?_)
 cases x<;>first
  |(cases rx;rfl)
  |(obtain⟨t,rfl⟩:=rx;rfl)
theorem OpR.or{f:Value->Value->Sem Value}{r r':R2}(h:OpR X f r)(h':OpR X f r'):OpR X f (fun x y H Q=>r x y H Q\/r' x y H Q):=by
 intro pins s σ H x y v u Q I rx ry q
 rcases q with q|q
 ·exact h pins s σ H x y v u Q I rx ry q
 ·exact h' pins s σ H x y v u Q I rx ry q
theorem G2(b:Expr){op:CmpOp}(h:op≠ .In:=by decide)(h2:op≠ .NotIn:=by decide):behindInMarks op b=false:=by
 have e1:(op==CmpOp.In)=false:=by cases op<;>first|rfl|exact absurd rfl h
 have e2:(op==CmpOp.NotIn)=false:=by cases op<;>first|rfl|exact absurd rfl h2
 cases b<;>simp[behindInMarks,e1,e2]
noncomputable def zdD(t:TE):TT:=fun σ H Q=>t σ H fun x H'=> ∃k,x= .bl k/\Q k H'
theorem zbi{op:CmpOp}{r:R2}(ho:OpR X (compareOp op) r)(ha:PE X a ta)(hb:PE X b tb)(hm:behindInMarks op b=false):PT X (.Compare a [op] [b] pos) (zdD (tOp r ta tb)):=by
 intro pins s σ H Q I h
 refine wpAny_isTrue_Compare1 (thn (ha pins s σ H _ I h) fun v s1 ⟨x,H1,I1,r1,q1⟩=>thn (hb pins s1 σ H1 _ I1 q1) fun u s2 ⟨y,H2,I2,r2,q2⟩=>
  thn (ho pins s2 σ H2 x y v u _ I2 r1 r2 q2) fun c s3 ⟨z,H3,I3,r3,k,e,q3⟩=> ?_) hm
 subst e
 cases r3
 exact wpAny_truthy_bool ⟨H3,I3,q3⟩
noncomputable def z6Y(r r':R2)(ta tb tc:TE):TE:=fun σ H Q=>ta σ H fun x H1=>tb σ H1 fun y H2=>r x y H2 fun z H3=> ∃k,z= .bl k/\
 (if k=true then tc σ H3 fun w' H4=>r' y w' H4 Q else Q (.bl false) H3)
theorem z8Q{op op':CmpOp}{r r':R2}(ho:OpR X (compareOp op) r)(ho':OpR X (compareOp op') r')(ha:PE X a ta)(hb:PE X b tb)(hc:PE X c tc)
 (hm:lastMarks [op,op'] [b,c]=false:=by with_unfolding_all rfl):PE X (.Compare a [op,op'] [b,c] pos) (z6Y r r' ta tb tc):=by
 intro pins s σ H Q I h
 refine Compare_chain (thn (ha pins s σ H _ I h) fun v s1 ⟨x,H1,I1,r1,q1⟩=>chain_link (thn (hb pins s1 σ H1 _ I1 q1) fun u s2 ⟨y,H2,I2,r2,q2⟩=>
  thn (ho pins s2 σ H2 x y v u _ I2 r1 r2 q2) fun d s3 ⟨z,H3,I3,r3,k,e,q3⟩=> ?_)) hm
 subst e
 cases r3
 refine wpAny_truthy_bool ?_
 cases k with
 |false=>exact ite_ff ⟨.bl false,H3,I3,rfl,q3⟩
 |true=>exact ite_tt (chain_last (thn (hc pins s3 σ H3 _ I3 q3) fun w' s4 ⟨z',H4,I4,r4,q4⟩=>ho' pins s4 σ H4 y z' u w' Q I4 r2 r4 q4))
theorem z8R{op op':CmpOp}{r r':R2}(ho:OpR X (compareOp op) r)(ho':OpR X (compareOp op') r')(ha:PE X a ta)(hb:PE X b tb)(hc:PE X c tc)
 (hm:lastMarks [op,op'] [b,c]=false:=by with_unfolding_all rfl):PT X (.Compare a [op,op'] [b,c] pos) (zdD (z6Y r r' ta tb tc)):=by
 intro pins s σ H Q I h
 refine isTrue_chain (thn (ha pins s σ H _ I h) fun v s1 ⟨x,H1,I1,r1,q1⟩=>test_link (thn (hb pins s1 σ H1 _ I1 q1) fun u s2 ⟨y,H2,I2,r2,q2⟩=>
  thn (ho pins s2 σ H2 x y v u _ I2 r1 r2 q2) fun d s3 ⟨z,H3,I3,r3,k,e,q3⟩=> ?_)) hm
 subst e
 cases r3
 refine wpAny_truthy_bool ?_
 cases k with
 |false=>
  obtain⟨k',e',q'⟩:=q3
  cases e'
  exact ite_ff ⟨H3,I3,q'⟩
 |true=>
  refine ite_tt (test_last (thn (hc pins s3 σ H3 _ I3 q3) fun w' s4 ⟨z',H4,I4,r4,q4⟩=>thn (ho' pins s4 σ H4 y z' u w' _ I4 r2 r4 q4) fun d' s5 ⟨z2,H5,I5,r5,k2,e2,q5⟩=> ?_))
  subst e2
  cases r5
  exact wpAny_truthy_bool ⟨H5,I5,q5⟩
noncomputable def TruV(K:W.Frag)(x:V)(H:Hp)(k:Bool):Prop:=
 match x with
 | .non=>k=false
 | .bl b=>k=b
 | .int i=>k=(i !=0)
 | .str y=>y.length<=sizeLine/\k=((y.length:Int) !=0)
 | .byt y=>y.size<=sizeLine/\k=((y.size:Int) !=0)
 | .ref p=>(∃xs,SqL K H p xs/\k= !xs.isEmpty)\/(∃xs,SqT K H p xs/\k= !xs.isEmpty)\/∃kvs,H p=some (.dK kvs)/\k= !kvs.isEmpty
 |_=>False
theorem z61{κ:Type}{kvs:List (κ×V)}{vs:List (κ×Value)}(r:KV kvs vs):(!vs.isEmpty)= !kvs.isEmpty:=by
 cases r<;>rfl
theorem z2P{xs:List V}{its:List Value}(r:w4 xs its):(!its.toArray.isEmpty)= !xs.isEmpty:=by
 cases r<;>simp
theorem z2Q:(sizeLine:Nat)<2^63:=by rw[sizeLine_eq];decide
theorem zdE:zj1 X (fun x H Q=> ∃k,TruV X.K x H k/\Q k H):=by
 intro pins s σ H x v Q I rx h
 obtain⟨k,e,q⟩:=h
 have hl:=z2Q
 have hs:sizeLine=16777216:=sizeLine_eq
 cases x with
 |non=>
  cases rx
  have e':k=false:=e
  subst e'
  exact truthy_none ⟨H,I,q⟩
 |bl b=>
  cases rx
  have e':k=b:=e
  subst e'
  exact wpAny_truthy_bool ⟨H,I,q⟩
 |int i=>
  obtain⟨t,rfl⟩:=rx
  have e':k=(i !=0):=e
  subst e'
  exact PySem.P.truthy_int ⟨H,I,q⟩
 |str y=>
  obtain⟨t,rfl⟩:=rx
  obtain⟨hy,e'⟩:y.length<=sizeLine/\k=((y.length:Int) !=0):=e
  subst e'
  exact PySem.P.truthy_str (by lia) ⟨H,I.tok _,q⟩
 |byt y=>
  obtain⟨t,rfl⟩:=rx
  obtain⟨hy,e'⟩:y.size<=sizeLine/\k=((y.size:Int) !=0):=e
  subst e'
  exact W.truthy_bytes (by lia) ⟨H,I.tok _,q⟩
 |ref p=>
  cases rx
  have e':(∃xs,SqL X.K H p xs/\k= !xs.isEmpty)\/(∃xs,SqT X.K H p xs/\k= !xs.isEmpty)\/∃kvs,H p=some (.dK kvs)/\k= !kvs.isEmpty:=e
  rcases e' with⟨xs,hx,e'⟩|⟨xs,hx,e'⟩|⟨kvs,hx,e'⟩
  ·subst e'
   obtain⟨its,r,pl,hz⟩:=I.list hx
   have hlen:=r.length
   exact wpAny_truthy_list pl.isList (by erw[i4];lia) ⟨H,I.tok _,by rw[z2P r];exact q⟩
  ·subst e'
   obtain⟨its,r,pl,hz⟩:=I.tuple hx
   have hlen:=r.length
   exact truthy_tuple pl (by erw[i4];lia) ⟨H,I.tok _,by rw[z2P r];exact q⟩
  ·subst e'
   obtain⟨hz,hS,vs,r,m⟩:kvs.length<=sizeLine/\(p==sysModules)=false/\∃vs,KV kvs vs/\s.heap.DictOf (Y4 X.prog X.w) p vs:=I.hok p _ hx
   have hlen:kvs.length=vs.length:=Paired.length r
   exact wpAny_truthy_dict hS m (by lia) ⟨H,I.tok _,by rw[z61 r];exact q⟩
 |_=>exact(show False from e).elim
theorem z8S(ha:PE X a ta)(he: ∀whole,isTrue a X.env whole=(do let v<-whole;standAt a.pos;holding [v] (truthy v))):
 PT X a (fun σ H Q=>ta σ H fun x H'=> ∃k,TruV X.K x H' k/\Q k H'):=by
 intro pins s σ H Q I h
 exact isTrue_plain (thn (ha pins s σ H _ I h) fun v s1 ⟨x,H1,I1,r1,q1⟩=>zdE pins s1 σ H1 x v Q I1 r1 q1) (he _)
theorem z62:OpR X (binaryOp .Add) (fun x y H Q=> ∃i j,x= .str i/\y= .str j/\i.length+j.length<=sizeLine/\Q (.str (i++j)) H):=by
 intro pins s σ H x y v u Q I rx ry h
 obtain⟨i,j,rfl,rfl,hz,q⟩:=h
 obtain⟨t,rfl⟩:=rx
 obtain⟨t',rfl⟩:=ry
 exact add_str (fun t' tk=>⟨.str (i++j),H,I.tok _,⟨_,rfl⟩,q⟩) hz
theorem z4z{x:V}{us:List Value}(r:w4 [x] us): ∃u,us=[u]/\RelV x u:=by
 cases r with
 |cons r1 r2=>cases r2;exact⟨_,rfl,r1⟩
theorem zbj{x y:V}{us:List Value}(r:w4 [x,y] us): ∃u w',us=[u,w']/\RelV x u/\RelV y w':=by
 cases r with
 |cons r1 r2=>
  cases r2 with
  |cons r3 r4=>cases r4;exact⟨_,_,rfl,r1,r3⟩
theorem z8T:CallR X (.builtin "abs") (fun xs H Q=> ∃i,xs=[.int i]/\Q (.int (if i<0 then -i else i)) H):=by
 intro pins s σ H xs us Q I r h
 obtain⟨i,rfl,q⟩:=h
 obtain⟨u,rfl,t,rfl⟩:=z4z r
 exact call_abs_int fun u tk=>⟨.int (if i<0 then -i else i),H,I.tok _,⟨_,rfl⟩,q⟩
theorem z6Z(hc:X.calm=true):CallR X (.builtin "max") (fun xs H Q=> ∃i j,xs=[.int i, .int j]/\Q (.int (if j>i then j else i)) H):=by
 intro pins s σ H xs us Q I r h
 obtain⟨i,j,rfl,q⟩:=h
 obtain⟨u,w',rfl,⟨t,rfl⟩,⟨t',rfl⟩⟩:=zbj r
 refine max_two_ints (I.ok.hd hc) fun h' tk k=>⟨_,H,I.kept k, ?_,q⟩
 by_cases hj:j>i
 ·rw[if_pos hj,if_pos hj];exact⟨_,rfl⟩
 ·rw[if_neg hj,if_neg hj];exact⟨_,rfl⟩
theorem z70(hc:X.calm=true):CallR X (.builtin "min") (fun xs H Q=> ∃i j,xs=[.int i, .int j]/\Q (.int (if j<i then j else i)) H):=by
 intro pins s σ H xs us Q I r h
 obtain⟨i,j,rfl,q⟩:=h
 obtain⟨u,w',rfl,⟨t,rfl⟩,⟨t',rfl⟩⟩:=zbj r
 refine min_two_ints (I.ok.hd hc) fun h' tk k=>⟨_,H,I.kept k, ?_,q⟩
 by_cases hj:j<i
 ·rw[if_pos hj,if_pos hj];exact⟨_,rfl⟩
 ·rw[if_neg hj,if_neg hj];exact⟨_,rfl⟩
end
structure ObjM(h:Heap)(x dx C:Addr)(mA:Str->Option Value):Prop where
 obj:h.get? x=some (W.instObj C dx)
 ns:h.Ns1 dx mA
 ne:dx≠x
theorem z71{h:Heap}{dx:Addr}{mA:Str->Option Value}(n:h.Ns1 dx mA): ∃od,h.get? dx=some od/\∀name,W.lookIn name od=some (mA name):=by
 obtain⟨o,es,ep,ho,hd,hk,_,hm⟩:=n
 refine⟨o,ho,fun name=> ?_⟩
 have e:=hm name
 unfold nsFind findBy at e
 rw[<-Array.find?_toList] at e
 unfold W.lookIn
 rw[hd]
 dsimp only
 split
 ·rename_i y q
  rw[q] at e
  exact congrArg some e
 ·rename_i q
  rw[q] at e
  have a:es.toList.any (·.refKey)=false:=by
   rw[List.any_eq_false]
   intro y hy
   obtain⟨z,t,hkey⟩:=hk y (Array.mem_toList_iff.mp hy)
   simp[DictEntry.refKey,hkey]
  have a': ¬es.toList.any (·.refKey)=true:=by rw[a];exact i6
  rw[if_neg a']
  exact congrArg some e
theorem ObjM.look{h:Heap}{x dx C:Addr}{mA:Str->Option Value}(I:ObjM h x dx C mA): ∃od,W.InstAt h x (W.instObj C dx) C (some od)/\∀name,W.lookIn name od=some (mA name):=
 let⟨od,ho,hl⟩:=z71 I.ns
 ⟨od,⟨I.obj,rfl,rfl,ho⟩,hl⟩
section
variable{prog:Program}{w:World}{A:Around}{E:Value->Shared->Prop}{s:Shared}{K:W.Frag}{x dx C f:Addr}{mA:Str->Option Value}{name:Str}{v:Value}
theorem zbk{expr:Bool}{Q:Value->Shared->Prop}(X:K.In s.heap)(I:ObjM s.heap x dx C mA)(hg:W.plainGet K C name=true)(hh:W.hasDictIn K C=true)
 (ha:W.findIn K (.ref C) name=some none) (hv:mA name=some v) (hv':W.handedIn v=true) (h:Q v {s with toks:=s.toks+1}):
 wpAny (model prog w) A (getAttr (.ref x) name expr) Q E s:=by
 obtain⟨od,J,hl⟩:=I.look
 exact W.get_value X J (W.plainGet_of hg).1 (W.findObj_own hh ha rfl (by rw[hl,hv])) hv' h
theorem z8U{pl:Sem Bool}{Q:Value×List Value->Shared->Prop}(X:K.In s.heap)(I:ObjM s.heap x dx C mA)(hg:W.plainGet K C name=true)
 (hf:W.findIn K (.ref C) name=some (some (.ref f))) (ht:W.isFn K (.ref f)=true) (hv:mA name=none) (h:Q (.ref f,[.ref x]) s):
 wpAny (model prog w) A (getMethod (.ref x) name pl) Q E s:=by
 obtain⟨od,J,hl⟩:=I.look
 exact W.method_fn X J (W.plainGet_of hg).1 (W.plainGet_of hg).2 hf (beq_iff_eq.mp ht) (by show(W.lookIn name od).map (·.isSome)=some false;rw[hl,hv];rfl) h
theorem zbl{ns:List Str}{Q:Unit->Shared->Prop}(X:K.In s.heap)(I:ObjM s.heap x dx C mA)
 (hs:W.findIn K (.ref C) "__setattr__" =some (some (.builtin "object.__setattr__"))) (hp:W.plainOver K C=true) (ht:W.takerIn K C name=some none) (hh:W.hasDictIn K C=true)
 (hw:PySem.Within mA ns) (hsz:ns.length<=sizeLine)
 (h: ∀h',ObjM h' x dx C (fun y=>if y=name then some v else mA y)->Heap.SameBut dx s.heap h'->Q () {s with heap:=h',toks:=s.toks+2}):
 wpAny (model prog w) A (setAttr (.ref x) name v) Q E s:=by
 obtain⟨od,J,hl⟩:=I.look
 refine W.set_plain X J hs (W.osa_open (s:={s with toks:=s.toks+1}) (r:=none) X J hp ht fun b=> ?_)
 obtain⟨cd,hc,hd'⟩:=W.any_some hh
 have hx:s.heap.get? x=some ⟨.ref C,some dx, .plain, #[]⟩:=I.obj
 refine wpAny_bind (wpAny_pure (wpAny_bind (wpAny_bind (wpAny_loadPart hx (wpAny_bind (W.Looks.here (s:={s with toks:=s.toks+1}) (W.looks_clsIn X hc) ?_))))))
 rw[hd']
 refine wpAny_pure (a:=some dx) (wpAny_bind (wpAny_pure (wpAny_bind ?_)))
 refine wpAny_nsSet1 (s:={s with toks:=s.toks+1}) I.ns fun h' hn2 hs2=> ?_
 obtain⟨oD,esD,epD,hoD,hdD,hcD⟩:=hn2.count (PySem.Within.cons name v hw)
 refine wpAny_bind (wpAny_lookBehind hoD (by rw[hdD];exact pastItsLine_dict (s0 hcD (by rw[i5];lia))) ?_)
 exact wpAny_pure (h _ ⟨(hs2.2 _ (Ne.symm I.ne)).trans I.obj,hn2,I.ne⟩ hs2)
theorem z8V{R:Result->Shared->Prop}{vs:List Value}{kw:List (Str×Value)}(X:K.In s.heap)(hm:W.makesIn K C=true)
 (hi:W.findIn K (.ref C) "__init__" =some (some (.ref f))) (hf:W.typeIn K (.ref f)=some (.type "function"))
 (h:codeAny (model prog w) (A.under (.builtin "type.__call__" ⟨.ref C::vs,kw⟩)) (.call (.ref f) ⟨.ref (s.heap.objs.size+1)::vs,kw⟩) (W.InitBack (s.heap.objs.size+1) R)
  {s with heap:=(s.heap.push W.emptyDict).push (W.instObj C s.heap.objs.size)}):
 codeAny (model prog w) A (.call (.ref C) ⟨vs,kw⟩) R s:=by
 obtain⟨hh,g,d,t,os⟩:=s
 exact W.make_core (W.makes_of X hm) (W.looks_findIn X hi) (fun self=>W.bind_fn X self hf) (.inl rfl) h
end
noncomputable def z2R(f:Str)(v:V):List (Str×V)->List (Str×V)
 |[]=>[(f,v)]
 |(g,x)::r=>if g=f then(g,v)::r else(g,x)::z2R f v r
theorem z1P(f g:Str)(v:V): ∀fs:List (Str×V),(z2R f v fs).lookup g=if g=f then some v else fs.lookup g
 |[]=>by
  show A2 g [(f,v)]=_
  by_cases h:g=f
  ·have hb:(g==f)=true:=beq_iff_eq.mpr h
   erw[A2,hb,if_pos h]
  ·have hb:(g==f)=false:=beq_eq_false_iff_ne.mpr h
   erw[A2,hb,if_neg h]
 |(k,x)::r=>by
  have ih:=z1P f g v r
  rw[show z2R f v ((k,x)::r)=(if k=f then(k,v)::r else(k,x)::z2R f v r) from rfl]
  by_cases hk:k=f
  ·rw[if_pos hk]
   by_cases h:g=k
   ·have hb:(g==k)=true:=beq_iff_eq.mpr h
    erw[A2,hb,if_pos (h.trans hk)]
   ·have hb:(g==k)=false:=beq_eq_false_iff_ne.mpr h
    erw[A2,hb,if_neg (fun e:g=f=>h (e.trans hk.symm))]
  ·rw[if_neg hk]
   by_cases h:g=k
   ·have hb:(g==k)=true:=beq_iff_eq.mpr h
    erw[A2,hb,if_neg (fun e:g=f=>hk (h.symm.trans e))]
   ·have hb:(g==k)=false:=beq_eq_false_iff_ne.mpr h
    erw[A2,hb]
    exact ih
theorem z1Q(f:Str)(v:V): ∀fs:List (Str×V),f∈(z2R f v fs).map (·.1)/\∀g,g∈fs.map (·.1)->g∈(z2R f v fs).map (·.1)
 |[]=>⟨by simp[z2R],fun g h=>by simp at h⟩
 |(k,x)::r=>by
  obtain⟨i1,i2⟩:=z1Q f v r
  rw[show z2R f v ((k,x)::r)=(if k=f then(k,v)::r else(k,x)::z2R f v r) from rfl]
  by_cases hk:k=f
  ·rw[if_pos hk]
   subst hk
   exact⟨by simp,fun g h=>by simpa using h⟩
  ·rw[if_neg hk]
   refine⟨?_,fun g h=> ?_⟩
   ·rw[b9]
    exact b7 _ i1
   ·rw[b9] at h⊢
    rcases e7.mp h with e|e
    ·exact e7.mpr (.inl e)
    ·exact b7 _ (i2 g e)
theorem z1R(f:Str)(v:V): ∀fs:List (Str×V),(z2R f v fs).length<=fs.length+1
 |[]=>by simp[z2R]
 |(k,x)::r=>by
  have ih:=z1R f v r
  rw[show z2R f v ((k,x)::r)=(if k=f then(k,v)::r else(k,x)::z2R f v r) from rfl]
  by_cases hk:k=f
  ·rw[if_pos hk,i5,i5];lia
  ·rw[if_neg hk,i5,i5];lia
theorem RelO.some_of{v:V}{o:Option Value}(r:RelO (some v) o): ∃u,o=some u/\RelV v u:=by
 cases o with
 |none=>exact(show False from r).elim
 |some u=>exact⟨u,rfl,r⟩
theorem RelO.none_of{o:Option Value}(r:RelO none o):o=none:=by
 cases o with
 |none=>rfl
 |some u=>exact(show False from r).elim
theorem z72{v:V}{u:Value}(r:RelV v u):W.handedIn u=true:=by
 cases v with
 |non=>cases(show u=Value.none from r);rfl
 |bl b=>cases(show u=Value.bool b from r);rfl
 |int i=>obtain⟨t,e⟩:=(show ∃t,u=Value.int i t from r);cases e;rfl
 |str x=>obtain⟨t,e⟩:=(show ∃t,u=Value.str x t from r);cases e;rfl
 |byt b=>obtain⟨t,e⟩:=(show ∃t,u=Value.bytes b t from r);cases e;rfl
 |flt b=>obtain⟨t,e⟩:=(show ∃t,u=Value.float b t from r);cases e;rfl
 |ref a=>cases(show u=Value.ref a from r);rfl
 |ty n=>cases(show u=Value.type n from r);rfl
section
variable{P:Program}{w:World}{H H':Hp}{h h':Heap}{a C dx:Addr}{fs fs':List (Str×V)}
theorem z4A(hok:HOk P w H h)(e:H a=some (.ins C dx fs)): ∃mA,ObjM h a dx C mA/\(∀f,RelO (fs.lookup f) (mA f))/\PySem.Within mA (fs.map (·.1))/\fs.length<=1000/\H dx=some (.own a):=by
 obtain⟨d,z,ne,ob,mA,n,r,q⟩:=(show g0 P w H h a (.ins C dx fs) from hok a _ e)
 exact⟨mA,⟨ob,n,ne⟩,r,q,z,d⟩
end
structure Cls(K:W.Frag)(C:Addr):Prop where
 pg:W.plainGet K C Str.empty=true
 hd:W.hasDictIn K C=true
 po:W.plainOver K C=true
 sa:W.findIn K (.ref C) "__setattr__" =some (some (.builtin "object.__setattr__"))
theorem Cls.get{K:W.Frag}{C:Addr}(c:Cls K C)(f:Str):W.plainGet K C f=true:=c.pg
noncomputable def U7(K:W.Frag)(C:Addr)(f:Str):Prop:=W.findIn K (.ref C) f=some none
theorem U7.taker{K:W.Frag}{C:Addr}{f:Str}(n:U7 K C f):W.takerIn K C f=some none:=by
 unfold W.takerIn
 rw[show W.findIn K (.ref C) f=some none from n]
 rfl
structure Con(K:W.Frag)(C:Addr)(f:Str)(v:V)(u:Value):Prop where
 at_:W.findIn K (.ref C) f=some (some u)
 rel:RelV v u
 get:W.specialIn K u "__get__" =some none
 cp:W.copiedNames.contains f=false
structure z6G(K:W.Frag)(C:Addr)(m:Str)(f:Addr):Prop where
 at_:W.findIn K (.ref C) m=some (some (.ref f))
 fn:W.isFn K (.ref f)=true
 kp:W.keepIn K (.ref f)=true
section
variable{X:Cx}{pins:List (Addr×Obj)}{σ:St}{H:Hp}{s:Shared}{a C dx:Addr}{fs:List (Str×V)}{f:Str}{v:V}{A:Around}{E:Value->Shared->Prop}
theorem z63{b:Bool}{Q:Value->Shared->Prop}(I:Inv X pins σ H s)(e:H a=some (.ins C dx fs))(c:Cls X.K C)(n:U7 X.K C f)(l:fs.lookup f=some v)
 (h: ∀u s',Inv X pins σ H s'->RelV v u->Q u s'):wpAny (model X.prog X.w) A (getAttr (.ref a) f b) Q E s:=by
 obtain⟨mA,O,r,_,_,_⟩:=z4A I.hok e
 obtain⟨u,hu,ru⟩:=RelO.some_of (v:=v) (o:=mA f) (by rw[<-l];exact r f)
 exact zbk I.kIn O (c.get f) c.hd n hu (z72 ru) (h u _ (I.tok _) ru)
theorem z1g{m:Str}{g:Addr}{pl:Sem Bool}{Q:Value×List Value->Shared->Prop}(I:Inv X pins σ H s)(e:H a=some (.ins C dx fs))(c:Cls X.K C)(k:z6G X.K C m g)(l:fs.lookup m=none)
 (h:Q (.ref g,[.ref a]) s):wpAny (model X.prog X.w) A (getMethod (.ref a) m pl) Q E s:=by
 obtain⟨mA,O,r,_,_,_⟩:=z4A I.hok e
 have hn:mA m=none:=RelO.none_of (by rw[<-l];exact r m)
 exact z8U I.kIn O (c.get m) k.at_ k.fn hn h
theorem z64{y:V}{u:Value}{Q:Unit->Shared->Prop}(I:Inv X pins σ H s)(e:H a=some (.ins C dx fs))(c:Cls X.K C)(n:U7 X.K C f)(hl:fs.length<1000)(ry:RelV y u)
 (h: ∀s',Inv X pins σ (upd H a (.ins C dx (z2R f y fs))) s'->Q () s'):wpAny (model X.prog X.w) A (setAttr (.ref a) f u) Q E s:=by
 obtain⟨mA,O,r,wi,_,ho⟩:=z4A I.hok e
 have hz:(fs.map (·.1)).length<=sizeLine:=by rw[i9,sizeLine_eq];lia
 refine zbl I.kIn O c.sa c.po n.taker c.hd wi hz fun h' O' sb=>h _ ?_
 have hd: ∃o,h'.get? dx=some o:=let⟨o,_,_,e',_⟩:=O'.ns;⟨o,e'⟩
 refine I.write (x:=a) (e:=dx) (by rw[e];exact True.intro) (.inr ho) (fun b q hb z=>(sb.2 b hb).trans z) hd ?_
 refine⟨by rw[y6 O.ne];exact ho, ?_,O.ne,O'.obj,_,O'.ns,fun g=> ?_,fun g hg=> ?_⟩
 ·have:=z1R f y fs;lia
 ·show RelO ((z2R f y fs).lookup g) (if g=f then some u else mA g)
  rw[z1P]
  by_cases q:g=f
  ·rw[if_pos q,if_pos q];exact ry
  ·rw[if_neg q,if_neg q];exact r g
 ·by_cases q:g=f
  ·rw[q];exact(z1Q f y fs).1
  ·refine(z1Q f y fs).2 g (wi g fun z=>hg ?_)
   show(if g=f then some u else mA g)=none
   rw[if_neg q];exact z
theorem Inv.made(I:Inv X pins σ H s):Inv X pins σ (upd (upd H s.heap.objs.size (.own (s.heap.objs.size+1))) (s.heap.objs.size+1) (.ins C s.heap.objs.size []))
 {s with heap:=(s.heap.push W.emptyDict).push (W.instObj C s.heap.objs.size)}:=by
 have e1:(s.heap.push W.emptyDict).get? s.heap.objs.size=some W.emptyDict:=Heap.get?_push_size s.heap rfl
 have e2:((s.heap.push W.emptyDict).push (W.instObj C s.heap.objs.size)).get? (s.heap.objs.size+1)=some (W.instObj C s.heap.objs.size):=by
  have:=Heap.get?_push_size (s.heap.push W.emptyDict) (o:=W.instObj C s.heap.objs.size) rfl
  rwa [Heap.size_push] at this
 have e3:(s.heap.push W.emptyDict).Ns s.heap.objs.size (fun _=>none):=⟨W.emptyDict, #[],_,e1,rfl,(fun e he=>absurd he (by simp)),fun _=>rfl⟩
 have I1:=I.laid (a:=s.heap.objs.size) (o:= .own (s.heap.objs.size+1)) (h':=s.heap.push W.emptyDict) (t':=s.toks) (fun b u q=>Heap.get?_push_of_some _ q) (e8 _) ⟨_,e1⟩
 refine I1.laid (a:=s.heap.objs.size+1) (o:= .ins C s.heap.objs.size []) (t':=s.toks) (fun b u q=>Heap.get?_push_of_some _ q) (L8 (Heap.size_push _ _)) ?_
 have ne:s.heap.objs.size≠s.heap.objs.size+1:=l0 (t7 _)
 refine⟨by rw[y6 ne,y8],B9 _,ne,e2,fun _=>none,(Heap.Ns1.of_empty e3).at fun o q=>Heap.get?_push_of_some _ q,fun _=>True.intro,fun y hy=>absurd rfl hy⟩
theorem zbm{prog:Program}{w:World}{env:Env}{e:Expr}{f:Str}{pos:Pos}{s:Shared}{Q:Value->Shared->Prop}(hb:attributeBase e f env (eval e env)=eval e env)
 (h:wpAny (model prog w) A (eval e env) (fun o s₁=>wpAny (model prog w) A (getAttr o f true) Q E s₁) E s):wpAny (model prog w) A (eval (.Attribute e f pos) env) Q E s:=
 Attribute_any_ h (by rw[arm_eval_Attribute,hb])
end
noncomputable def zj3(K:W.Frag)(ta:TE)(f:Str):TE:=fun σ H Q=>ta σ H fun x H1=> ∃a C dx fs v,x= .ref a/\H1 a=some (.ins C dx fs)/\Cls K C/\U7 K C f/\fs.lookup f=some v/\Q v H1
noncomputable def zj4(K:W.Frag)(ta tv:TE)(f:Str):TS:=fun D σ H=>tv σ H fun y H1=>ta σ H1 fun x H2=> ∃a C dx fs,x= .ref a/\H2 a=some (.ins C dx fs)/\Cls K C/\U7 K C f/\fs.length<1000/\
 D.nx σ (upd H2 a (.ins C dx (z2R f y fs)))
section
variable{X:Cx}{o e value:Expr}{f:Str}{pos pos' tpos:Pos}{ta tv:TE}
theorem zdF(he:PE X e ta)(hb:attributeBase e f X.env (eval e X.env)=eval e X.env):PE X (.Attribute e f pos) (zj3 X.K ta f):=by
 intro pins s σ H Q I h
 refine zbm hb (thn (he pins s σ H _ I h) fun u s1 ⟨x,H1,I1,rx,a,C,dx,fs,v,ex,ea,c,n,l,q⟩=> ?_)
 subst ex
 obtain rfl:u=Value.ref a:=rx
 exact z63 I1 ea c n l fun u' s2 I2 ru=>⟨v,H1,I2,ru,q⟩
theorem zdG(ha:PE X o ta)(hv:PE X value tv)(hs:swapsWith value (some (.Attribute o f pos')) pos.line X.env=pure false):PS X (.Assign [.Attribute o f pos'] value pos) (zj4 X.K ta tv f):=by
 intro pins s σ H D I h
 refine plainObj_wpAny_Assign_Attribute (thn (hv pins s σ H _ I h) fun u s1 ⟨y,H1,I1,ry,q⟩=>thn (ha pins s1 σ H1 _ I1 q) fun ov s2 ⟨x,H2,I2,rx,a,C,dx,fs,ex,ea,c,n,l,q2⟩=> ?_) hs
 subst ex
 obtain rfl:ov=Value.ref a:=rx
 exact z64 I2 ea c n l ry fun s3 I3=>⟨σ,_,I3,q2⟩
end
section
variable{X:Cx}{pins:List (Addr×Obj)}{σ:St}{H:Hp}{s:Shared}{A:Around}{E:Value->Shared->Prop}{Q:Value->Shared->Prop}{c:Value}{b:Bool}
inductive TyOf(K:W.Frag)(H:Hp):V->Value->Prop where
 |non:TyOf K H .non (.type "NoneType")
 |bl (x:Bool):TyOf K H (.bl x) (.type "bool")
 |int (i:Int):TyOf K H (.int i) (.type "int")
 |str (x:Str):TyOf K H (.str x) (.type "str")
 |flt (x:UInt64):TyOf K H (.flt x) (.type "float")
 |lst {a:Addr} {xs:List V} (e:H a=some (.lst xs)):TyOf K H (.ref a) (.type "list")
 |frz {a:Addr} {o:Obj} {xs:List V} (e:H a=some (.frz o (.lst xs))):TyOf K H (.ref a) (.type "list")
 |tup {a:Addr} {xs:List V} (e:H a=some (.tup xs)):TyOf K H (.ref a) (.type "tuple")
 |dK {a:Addr} {kvs:List (Key×V)} (e:H a=some (.dK kvs)):TyOf K H (.ref a) (.type "dict")
 |dT {a:Addr} {kvs:List (NK×V)} (e:H a=some (.dT kvs)):TyOf K H (.ref a) (.type "dict")
 |ins {a C dx:Addr} {fs:List (Str×V)} (e:H a=some (.ins C dx fs)) (cl:Cls K C) (ha:W.findIn K (.ref C) "__class__" =some (some (.builtin "object.__class__")))
  (hn:W.specialIn K (.builtin "object.__class__") "__get__" =some (some (.builtin "getset_descriptor.__get__"))) (htk:W.takesIn K (.builtin "object.__class__")=some true)
  (hm:W.mroIn K C (.type "object")=some true):TyOf K H (.ref a) (.ref C)
end
structure U5(k:Nat)(A:Around):Prop where
 hd:A.handled=none
 dp:A.depth+3*k+5<recursionLimit
 un:A.units+16*k+200<cLine
 gd:A.guards=some []
theorem U5.mono{j k:Nat}{A:Around}(r:U5 k A)(h:j<=k):U5 j A:=⟨r.hd,by have:=r.dp;lia,by have:=r.un;lia,r.gd⟩
theorem U5.deeper{k:Nat}{A:Around}(r:U5 (k+1) A)(env:Env):U5 k (A.deeper env):=
 ⟨r.hd,by have:=r.dp;show A.depth+1+3*k+5<_;lia,by have:=r.un;show A.units+3+16*k+200<_;lia,r.gd⟩
theorem z65{A:Around}{C:Addr}{us:List Value}{kw:List (Str×Value)}:(A.under (.builtin "type.__call__" ⟨.ref C::us,kw⟩)).depth=A.depth+1:=by
 first|rfl|simp[Around.under,Code.weight,Code.isCreation,Code.isGuard,Code.isCaller,Code.frames,Code.isFrame,guardIds]
theorem z66{A:Around}{C:Addr}{us:List Value}{kw:List (Str×Value)}:(A.under (.builtin "type.__call__" ⟨.ref C::us,kw⟩)).units=A.units+1:=by
 first|rfl|simp[Around.under,Code.cUnits,Code.frames,Code.isFrame]
theorem U5.make{k:Nat}{A:Around}(r:U5 (k+1) A)(C:Addr)(us:List Value)(kw:List (Str×Value)):U5 k (A.under (.builtin "type.__call__" ⟨.ref C::us,kw⟩)):=
 ⟨r.hd,by have:=r.dp;rw[z65];lia,by have:=r.un;rw[z66];lia,by first|exact r.gd|simpa[Around.under] using r.gd⟩
theorem U5.depth{k:Nat}{A:Around}(r:U5 k A):A.depth<recursionLimit:=by have:=r.dp;lia
theorem U5.units{k:Nat}{A:Around}(r:U5 k A):A.units+64<cLine:=by have:=r.un;lia
noncomputable def zdH:TA:=fun _ H Q=>Q [] H
noncomputable def zbn(ta:TE)(tr:TA):TA:=fun σ H Q=>ta σ H fun x H1=>tr σ H1 fun xs H2=>Q (x::xs) H2
section
variable{X:Cx}{e:Expr}{es:List Expr}{te:TE}{t:TA}{pos:Pos}
theorem z0E:PA X [] zdH:=fun _ _ _ _ H Q I h=>Calls.spliced_nil ⟨[],H,I, .nil,h⟩
theorem Y2(ha:PE X e te)(hr:PA X es t)(hs:starEach (e::es) X.env=(false,eval e X.env)::starEach es X.env:=by rfl):PA X (e::es) (zbn te t):=by
 intro pos pins s σ H Q I h
 rw[hs]
 show wpAny _ _ (spliced ((false,eval e X.env)::backTo pos (starEach es X.env))) _ _ s
 refine Calls.spliced_cons (thn (ha pins s σ H _ I h) fun u s1 ⟨x,H1,I1,r1,q1⟩=> ?_)
 exact thn (hr pos pins s1 σ H1 _ I1 q1) fun us s2 ⟨xs,H2,I2,r2,q2⟩=>⟨x::xs,H2,I2, .cons r1 r2,q2⟩
noncomputable def zgH(t:TA):TE:=fun σ H Q=>t σ H fun xs H1=>xs.length<=sizeLine/\∀p,H1 p=none->Q (.ref p) (upd H1 p (.tup xs))
noncomputable def zj5(t:TA):TE:=fun σ H Q=>t σ H fun xs H1=>xs.length<=sizeLine/\∀p,H1 p=none->Q (.ref p) (upd H1 p (.lst xs))
theorem z73{x1}(h:PA X es t):PE X (.Tuple es x1 pos) (zgH t):=by
 intro pins s σ H Q I hq
 refine wpAny_Tuple_spliced (thn (h pos pins s σ H _ I hq) fun us s1 ⟨xs,H1,I1,r,z,q⟩=>⟨by rw[<-r.length];exact z, ?_⟩)
 have hf:H1 s1.heap.objs.size=none:=I1.hok.fresh (e8 _)
 refine⟨.ref s1.heap.objs.size,upd H1 s1.heap.objs.size (.tup xs),I1.laid (t':=s1.toks) (fun b u e=>Heap.get?_push_of_some _ e) (e8 _) ?_,rfl,q _ hf⟩
 exact⟨z,us,r,⟨_,Heap.get?_push_size _ rfl,rfl,_,rfl⟩⟩
theorem zdI(h:PA X es t):PE X (.List es pos) (zj5 t):=by
 intro pins s σ H Q I hq
 refine wpAny_List_spliced (thn (h pos pins s σ H _ I hq) fun us s1 ⟨xs,H1,I1,r,z,q⟩=>⟨by rw[<-r.length];exact z, ?_⟩)
 have hf:H1 s1.heap.objs.size=none:=I1.hok.fresh (e8 _)
 refine⟨.ref s1.heap.objs.size,upd H1 s1.heap.objs.size (.lst xs),I1.laid (t':=s1.toks) (fun b u e=>Heap.get?_push_of_some _ e) (e8 _) ?_,rfl,q _ hf⟩
 exact⟨z,us,0,r,Heap.get?_push_size _ rfl⟩
end
noncomputable abbrev Sp:=List V->Hp->VK->XK->Prop
noncomputable abbrev CXT:=List Env->Hp->Shared->XK->Value->Shared->Prop
structure z6H(P:Program)(w:World)(K:W.Frag)(mg:Str->Option Value)(base:Heap)(A:Around)(outer:List Env)(s:Shared)(H:Hp):Prop where
 frames:A.frames=some outer
 mod:Mod K mg base
 bs: ∀b o,base.get? b=some o->s.heap.get? b=some o/\H b=none
 bsz:base.objs.size<=s.heap.objs.size
 funs:s.heap.FunFrames base outer
 frf: ∀b∈frs outer,H b=none
 hok:HOk P w H s.heap
 bare:AllBare s.gens
noncomputable def CE(outer:List Env)(P:Program)(w:World)(H:Hp)(s:Shared)(Q:VK)(u:Value)(s':Shared):Prop:=
 ∃v H',s'.os=s.os/\AllBare s'.gens/\Un (frs outer) [] H H' s.heap s'.heap/\HOk P w H' s'.heap/\RelV v u/\Q v H'
noncomputable def CR(CX:CXT)(outer:List Env)(P:Program)(w:World)(H:Hp)(s:Shared)(Q:VK)(E:XK)(r:Result)(s':Shared):Prop:=
 match r with
 | .ok (.ret u)=>CE outer P w H s Q u s'
 | .ok _=>False
 | .error e=>CX outer H s E e s'
structure J1(P:Program)(w:World)(K:W.Frag)(mg:Str->Option Value)(base:Heap)(CX:CXT)(k:Nat)(f:Addr)(fd:FuncData)(ps:List Str)(sp:Sp):Prop where
 len: ∀vs H Q E,sp vs H Q E->vs.length=ps.length
 run: ∀(A:Around) (outer:List Env) (s:Shared) (H:Hp) (args:Args) (us:List Value) (vs:List V) (Q:VK) (E:XK),U5 k A->z6H P w K mg base A outer s H->BindsTo s fd args (ps.zip us)->w4 vs us->sp vs H Q E->
  codeAny (model P w) A (.call (.ref f) args) (CR CX outer P w H s Q E) s
theorem J1.mono{P:Program}{w:World}{K:W.Frag}{mg:Str->Option Value}{base:Heap}{CX:CXT}{j k:Nat}{f:Addr}{fd:FuncData}{ps:List Str}{sp:Sp}(F:J1 P w K mg base CX j f fd ps sp)(h:j<=k):
 J1 P w K mg base CX k f fd ps sp:=⟨F.len,fun A outer s H args us vs Q E hr=>F.run A outer s H args us vs Q E (hr.mono h)⟩
theorem z6H.make{P:Program}{w:World}{K:W.Frag}{mg:Str->Option Value}{base:Heap}{A:Around}{outer:List Env}{s:Shared}{H:Hp}(e:z6H P w K mg base A outer s H)(C:Addr)(us:List Value)(kw:List (Str×Value)):
 z6H P w K mg base (A.under (.builtin "type.__call__" ⟨.ref C::us,kw⟩)) outer s H:=⟨by first|exact e.frames|(simpa[Around.under,Code.envs,Code.isFrame,pushEnvs] using e.frames),e.mod,e.bs,e.bsz,e.funs,e.frf,e.hok,e.bare⟩
section
variable{X:Cx}{pins:List (Addr×Obj)}{σ:St}{H:Hp}{s s':Shared}
theorem Inv.env0(I:Inv X pins σ H s):z6H X.prog X.w X.K X.mg X.base X.A X.stack s H:=
 ⟨I.ok.frames,I.ok.mod,I.bs,s0 I.ok.bsz I.sz,I.stack,I.stkFree,I.hok,I.bare⟩
theorem Inv.after{Q:VK}{u:Value}(I:Inv X pins σ H s)(h:CE X.stack X.prog X.w H s Q u s'):EP X pins σ Q u s':=by
 obtain⟨v,H',os,bare,un,hok,r,q⟩:=h
 obtain⟨hh,g,d,t,os'⟩:=s'
 obtain rfl:os'=s.os:=os
 exact⟨v,H',I.call (h':=hh) (g':=g) (d':=d) (t':=t) (ch:=[]) un hok bare (fun b z=>absurd z (by simp)),r,q⟩
end
noncomputable def zdJ(sp:Sp)(dvs:List V)(E:XK)(t:TA):TE:=fun σ H Q=>t σ H fun vs H1=>sp (vs++dvs) H1 Q E
noncomputable def zbo(C:Addr)(m:Str)(sp:Sp)(dvs:List V)(E:XK)(ta:TE)(t:TA):TE:=fun σ H Q=>ta σ H fun x H1=> ∃a dx fs,x= .ref a/\H1 a=some (.ins C dx fs)/\fs.lookup m=none/\
 t σ H1 fun vs H2=>sp (x::(vs++dvs)) H2 Q E
noncomputable def zdK(C:Addr)(sp:Sp)(dvs:List V)(E:XK)(t:TA):TE:=fun σ H Q=>t σ H fun vs H1=> ∀x dx,H1 x=none->H1 dx=none->dx≠x->
 sp (.ref x::(vs++dvs)) (upd (upd H1 dx (.own x)) x (.ins C dx [])) (fun v H2=>v= .non/\Q (.ref x) H2) E
noncomputable def J2(K:W.Frag)(fd:FuncData)(ps:List Str)(ds:List Value):Prop:=
 ∀(s:Shared) (us:List Value),K.In s.heap->(us++ds).length=ps.length->BindsTo s fd ⟨us,[]⟩ (ps.zip (us++ds))
theorem J2.all{K:W.Frag}{fd:FuncData}{ps:List Str}(h: ∀us:List Value,us.length=ps.length->bindArgs fd ⟨us,[]⟩=pure (ps.zip us)):J2 K fd ps []:=fun s us _ hl=>by
 rw[c9] at hl⊢
 exact .of_eq (h us hl)
noncomputable def Q5(CX:CXT)(X:Cx)(E:XK):Prop:= ∀(pins:List (Addr×Obj)) (σ:St) (H:Hp) (s:Shared) (e:Value) (s':Shared),Inv X pins σ H s->CX X.stack H s E e s'->X.xe e s'
section
variable{X:Cx}{CX:CXT}{k:Nat}{f C:Addr}{fd:FuncData}{ps:List Str}{sp:Sp}{dvs:List V}{ds:List Value}{E:XK}{x m:Str}{p pos apos:Pos}{e o:Expr}{es:List Expr}{ta:TE}{t:TA}
theorem z74{pins:List (Addr×Obj)}{σ:St}{H:Hp}{s:Shared}{Q:VK}{us:List Value}{vs:List V}(F:J1 X.prog X.w X.K X.mg X.base CX k f fd ps sp)(hr:U5 k X.A)(hb:J2 X.K fd ps ds)(hd:w4 dvs ds)(hx:Q5 CX X E)
 (I:Inv X pins σ H s) (r:w4 vs us) (h:sp (vs++dvs) H Q E):wpAny (model X.prog X.w) X.A (call (.ref f) us) (EP X pins σ Q) X.xe s:=by
 have r2:w4 (vs++dvs) (us++ds):=r.append hd
 have hl:(us++ds).length=ps.length:=by rw[<-r2.length];exact F.len _ _ _ _ h
 refine wpAny_call (codeAny_mono (F.run X.A X.stack s H ⟨us,[]⟩ (us++ds) (vs++dvs) Q E hr I.env0 (hb s us I.kIn hl) r2 h) fun r s' hq=> ?_)
 cases r with
 |error e=>exact hx pins σ H s e s' I hq
 |ok fl=>
  cases fl with
  |ret u=>exact I.after hq
  |next=>exact False.elim hq
  |brk=>exact False.elim hq
  |cont=>exact False.elim hq
theorem zbp(F:J1 X.prog X.w X.K X.mg X.base CX k f fd ps sp)(hr:U5 k X.A)(hg:Gl X x)(hm:X.mg x=some (.ref f))(hk:W.keepIn X.K (.ref f)=true)(hb:J2 X.K fd ps ds)(hd:w4 dvs ds)(hx:Q5 CX X E)
 (ha:PA X (e::es) t) (hdb:(x==("__debug__" :Str))=false:=by decide) (he:starEach (e::es) X.env=(false,eval e X.env)::starEach es X.env:=by rfl) (hpl:(backTo pos (starEach es X.env)).any (·.1)=false:=by rfl):
 PE X (.Call (.Name x p) (e::es) [] pos) (zdJ sp dvs E t):=by
 intro pins s σ H Q I h
 refine wpAny_Call_Name_kw (z1f I hg hm ?_ hdb)
 refine W.callWith_K (h₀:=X.base) I.ok.mod.kin hk (thn (ha pos pins s σ H _ I h) fun us s1 ⟨vs,H1,I1,r,q⟩=>⟨I1.kIn, ?_⟩) he hpl
 exact z74 F hr hb hd hx I1 r q
theorem zbq{pl:Sem Bool}(he:PE X o ta)(c:Cls X.K C)(hm:z6G X.K C m f)(F:J1 X.prog X.w X.K X.mg X.base CX k f fd ps sp)(hr:U5 k X.A)(hb:J2 X.K fd ps ds)(hd:w4 dvs ds)(hx:Q5 CX X E)(ha:PA X (e::es) t)
 (hst:starEach (e::es) X.env=(false,eval e X.env)::starEach es X.env:=by rfl) (hpl:(backTo pos (starEach es X.env)).any (·.1)=false:=by rfl)
 (ht:eval (.Call (.Attribute o m apos) (e::es) [] pos) X.env=(do
  let ov<-eval o X.env
  standAt apos.atName
  let(f,first)<-holding [ov] (getMethod ov m pl)
  callWith pos f first (backTo pos (starEach (e::es) X.env)) (backToKw pos (keywordEach [] X.env))):=by rfl):
 PE X (.Call (.Attribute o m apos) (e::es) [] pos) (zbo C m sp dvs E ta t):=by
 intro pins s σ H Q I h
 refine W.methodCall_KW (pl:=pl) (thn (he pins s σ H _ I h) fun u s1 ⟨x,H1,I1,rx,a,dx,fs,ex,ea,l,q⟩=> ?_) ht
 subst ex
 obtain rfl:u=Value.ref a:=rx
 refine z1g I1 ea c hm l ?_
 refine W.callWith_K (first:=[.ref a]) (h₀:=X.base) I.ok.mod.kin hm.kp (thn (ha pos pins s1 σ H1 _ I1 q) fun us s2 ⟨vs,H2,I2,r,q2⟩=>⟨I2.kIn, ?_⟩) hst hpl
 exact z74 (us:= .ref a::us) (vs:= .ref a::vs) F hr hb hd hx I2 (.cons rfl r) q2
theorem z8W{pl:Sem Bool}(he:PE X o ta)(c:Cls X.K C)(hm:z6G X.K C m f)(F:J1 X.prog X.w X.K X.mg X.base CX k f fd ps sp)(hr:U5 k X.A)(hb:J2 X.K fd ps ds)(hd:w4 dvs ds)(hx:Q5 CX X E)
 (ht:eval (.Call (.Attribute o m apos) [] [] pos) X.env=(do
  let ov<-eval o X.env
  standAt apos.atName
  let(f,first)<-holding [ov] (getMethod ov m pl)
  callWith pos f first (backTo pos (starEach [] X.env)) (backToKw pos (keywordEach [] X.env))):=by rfl):
 PE X (.Call (.Attribute o m apos) [] [] pos) (zbo C m sp dvs E ta zdH):=by
 intro pins s σ H Q I h
 refine W.methodCall_KW (pl:=pl) (thn (he pins s σ H _ I h) fun u s1 ⟨x,H1,I1,rx,a,dx,fs,ex,ea,l,q⟩=> ?_) ht
 subst ex
 obtain rfl:u=Value.ref a:=rx
 refine z1g I1 ea c hm l ?_
 exact W.callWith_K0 (first:=[.ref a]) I1.kIn hm.kp (z74 (us:=[.ref a]) (vs:=[.ref a]) F hr hb hd hx I1 (.cons rfl .nil) q)
structure Mk(K:W.Frag)(C f:Addr):Prop where
 makes:W.makesIn K C=true
 init:W.findIn K (.ref C) "__init__" =some (some (.ref f))
 fn:W.isFn K (.ref f)=true
 kp:W.keepIn K (.ref C)=true
theorem z8X{pins:List (Addr×Obj)}{σ:St}{H:Hp}{s:Shared}{Q:VK}{us:List Value}{vs:List V}(M:Mk X.K C f)(F:J1 X.prog X.w X.K X.mg X.base CX k f fd ps sp)(hr:U5 (k+1) X.A)(hb:J2 X.K fd ps ds)(hd:w4 dvs ds)
 (hx:Q5 CX X E) (I:Inv X pins σ H s) (r:w4 vs us)
 (h: ∀x dx,H x=none->H dx=none->dx≠x->sp (.ref x::(vs++dvs)) (upd (upd H dx (.own x)) x (.ins C dx [])) (fun v H2=>v= .non/\Q (.ref x) H2) E):
 wpAny (model X.prog X.w) X.A (call (.ref C) us) (EP X pins σ Q) X.xe s:=by
 have hq:=h (s.heap.objs.size+1) s.heap.objs.size (I.hok.fresh (O1 _)) (I.hok.fresh (e8 _)) (l0 (t7 _))
 have I2:=Inv.made (C:=C) I
 have r2:w4 (V.ref (s.heap.objs.size+1)::(vs++dvs)) (Value.ref (s.heap.objs.size+1)::(us++ds)):= .cons rfl (r.append hd)
 have hl:(Value.ref (s.heap.objs.size+1)::us++ds).length=ps.length:=by
  have e:=r2.length
  rw[F.len _ _ _ _ hq] at e
  exact e.symm
 refine wpAny_call (z8V (f:=f) I.kIn M.makes M.init (beq_iff_eq.mp M.fn) (codeAny_mono (F.run _ X.stack _ _ ⟨Value.ref (s.heap.objs.size+1)::us,[]⟩ (Value.ref (s.heap.objs.size+1)::(us++ds)) _ _ E (hr.make C us [])
  (I2.env0.make C us []) (hb _ (Value.ref (s.heap.objs.size+1)::us) I2.kIn hl) r2 hq) fun r s' hq'=> ?_))
 cases r with
 |error e=>exact hx pins σ _ _ e s' I2 hq'
 |ok fl=>
  cases fl with
  |ret u=>
   obtain⟨v,H',I3,rv,ev,q3⟩:=I2.after hq'
   subst ev
   exact⟨rv,⟨V.ref (s.heap.objs.size+1),H',I3,rfl,q3⟩⟩
  |next=>exact False.elim hq'
  |brk=>exact False.elim hq'
  |cont=>exact False.elim hq'
theorem z8Y(M:Mk X.K C f)(F:J1 X.prog X.w X.K X.mg X.base CX k f fd ps sp)(hr:U5 (k+1) X.A)(hg:Gl X x)(hm:X.mg x=some (.ref C))(hb:J2 X.K fd ps ds)(hd:w4 dvs ds)(hx:Q5 CX X E)
 (hdb:(x==("__debug__" :Str))=false:=by decide):PE X (.Call (.Name x p) [] [] pos) (zdK C sp dvs E zdH):=by
 intro pins s σ H Q I h
 refine wpAny_Call_Name_kw (z1f I hg hm ?_ hdb)
 exact W.callWith_K0 I.kIn M.kp (z8X (us:=[]) M F hr hb hd hx I .nil h)
end
section
variable{X:Cx}{CX:CXT}{k:Nat}{f C:Addr}{fd:FuncData}{ps ks:List Str}{sp:Sp}{E:XK}{x m:Str}{p pos apos kpos:Pos}{e o:Expr}{es:List Expr}{kws:List Keyword}{te ta:TE}{t tk:TA}{nm:Option Str}
structure ziH(K:W.Frag)(fd:FuncData)(ps ks:List Str)(g:List Value->List Value->List Value)(gV:List V->List V->List V):Prop where
 to: ∀(s:Shared) (us ws:List Value),K.In s.heap->(g us ws).length=ps.length->BindsTo s fd ⟨us,ks.zip ws⟩ (ps.zip (g us ws))
 rel: ∀{vs:List V} {us:List Value} {zs:List V} {ws:List Value},w4 vs us->w4 zs ws->w4 (gV vs zs) (g us ws)
variable{g:List Value->List Value->List Value}{gV:List V->List V->List V}
end
structure Z4(N P:List Str)(sc:Scope):Prop where
 kind:sc.kind= .function
 co:sc.isCoroutine=false
 gen:sc.isGenerator=false
 nd:N.Nodup
 pre:N.take P.length=P
 par: ∀x∈P,sc.names.lookup x=some .local\/sc.names.lookup x=some .cell
 nofree: ∀y∈sc.names,y.2≠ .free
theorem z3K{kindOf:Str->Option NameKind}{x:Str}: ∀{binds:List (Str×Value)} {m:Str->Option Value},(∀v,(x,v)∉binds)->bindL kindOf binds m x=m x
 |[],_,_=>rfl
 |(n,v)::r,m,h=>by
  unfold bindL
  rw[z3K fun w hw=>h w (b7 _ hw)]
  split
  ·have:x≠n:=by rintro rfl;exact h v e9
   simp[this]
  ·rfl
theorem z3L{kindOf:Str->Option NameKind}{x:Str}: ∀{binds:List (Str×Value)} {m:Str->Option Value},(∀v,(x,v)∉binds)->bindC kindOf binds m x=m x
 |[],_,_=>rfl
 |(n,v)::r,m,h=>by
  unfold bindC
  rw[z3L fun w hw=>h w (b7 _ hw)]
  split
  ·rfl
  ·have:x≠n:=by rintro rfl;exact h v e9
   simp[this]
theorem z3M{kindOf:Str->Option NameKind}{x:Str}{v:Value}: ∀{P:List Str} {vs:List Value} {i:Nat} {m:Str->Option Value},P.Nodup->P[i]? =some x->vs[i]? =some v->kindOf x=some .local->
 bindL kindOf (P.zip vs) m x=some v
 |[],_,_,_,_,h,_,_=>by simp at h
 |_::_,[],_,_,_,_,h,_=>by simp at h
 |p::P,w::vs,0,m,nd,h1,h2,hk=>by
  simp at h1 h2;subst h1;subst h2
  show bindL kindOf ((p,w)::P.zip vs) m p=_
  unfold bindL
  rw[z3K fun v hv=>(C0.mp nd).1 (D8 hv).1,if_pos hk]
  simp
 |p::P,w::vs,i+1,m,nd,h1,h2,hk=>by
  show bindL kindOf ((p,w)::P.zip vs) m x=_
  unfold bindL
  exact z3M (i:=i) (C0.mp nd).2 (by simpa using h1) (by simpa using h2) hk
theorem z3N{kindOf:Str->Option NameKind}{x:Str}{v:Value}: ∀{P:List Str} {vs:List Value} {i:Nat} {m:Str->Option Value},P.Nodup->P[i]? =some x->vs[i]? =some v->kindOf x≠some .local->
 bindC kindOf (P.zip vs) m x=some v
 |[],_,_,_,_,h,_,_=>by simp at h
 |_::_,[],_,_,_,_,h,_=>by simp at h
 |p::P,w::vs,0,m,nd,h1,h2,hk=>by
  simp at h1 h2;subst h1;subst h2
  show bindC kindOf ((p,w)::P.zip vs) m p=_
  unfold bindC
  rw[z3L fun v hv=>(C0.mp nd).1 (D8 hv).1,if_neg hk]
  simp
 |p::P,w::vs,i+1,m,nd,h1,h2,hk=>by
  show bindC kindOf ((p,w)::P.zip vs) m x=_
  unfold bindC
  exact z3N (i:=i) (C0.mp nd).2 (by simpa using h1) (by simpa using h2) hk
noncomputable def z1h(N:List Str)(vs:List V):St:=vs.map some++e6 (N.length -vs.length) none
noncomputable def cxOf(CX:CXT)(P:Program)(w:World)(K:W.Frag)(mg:Str->Option Value)(base:Heap)(N:List Str)(qual:Str)(scope:Scope)(f:Addr)(cd:Value)(A:Around)(outer:List Env)(s:Shared)(H:Hp)(E:XK):Cx where
 prog:=P
 w:=w
 K:=K
 mg:=mg
 base:=base
 A:=A.deeper (envOfC qual scope s.heap.objs.size f cd)
 N:=N
 s₀:=s
 H₀:=H
 env:=envOfC qual scope s.heap.objs.size f cd
 outer:=outer
 stack:=envOfC qual scope s.heap.objs.size f cd::outer
 ex:=[]
 calm:=true
 fn:=fun _=>true
 pn:=[]
 xe:=fun e s'=>wpAny (model P w) (A.deeper (envOfC qual scope s.heap.objs.size f cd)) (leaving (envOfC qual scope s.heap.objs.size f cd) e) (fun _ s''=>CX outer H s E e s'') (fun e' s''=>CX outer H s E e' s'') s'
theorem z5l{sc:Scope}{n:Nat}{x:Str}(h:sc.names.lookup x=some .cell): ∃c,(cellsFrom n sc.names []).lookup x=some c:=by
 have q:=W.cellsFrom_some sc.names n [] (.inl h)
 exact F5.mp q
theorem z3O{CX:CXT}{P:Program}{w:World}{K:W.Frag}{mg:Str->Option Value}{base:Heap}{N ps:List Str}{qual:Str}{scope:Scope}{f:Addr}{cd:Value}{A:Around}{outer:List Env}{s s1:Shared}{H:Hp}{E:XK}{us:List Value}{vs:List V}
 (S:Z4 N ps scope) (hd:A.handled=none) (e0:z6H P w K mg base A outer s H) (hl:vs.length=ps.length) (r:w4 vs us)
 (x:InCallC s s.heap.objs.size (bindL (envOfC qual scope s.heap.objs.size f cd).kindOf (ps.zip us) fun _=>none) (cellsFrom (s.heap.objs.size+1) scope.names []) (bindC (envOfC qual scope s.heap.objs.size f cd).kindOf (ps.zip us) fun _=>none) s1):
 Inv (cxOf CX P w K mg base N qual scope f cd A outer s H E) [] (z1h N vs) H s1:=by
 have hpl:ps.length<=N.length:=by have:=congrArg P8 S.pre;rw[I0] at this;lia
 obtain⟨h1,tk,rfl,hk⟩:=x.done
 have noA: ∀b:Addr,b∉(cxOf CX P w K mg base N qual scope f cd A outer s H E).ex:=fun b z=>absurd (show b∈([]:List Addr) from z) (by simp)
 refine⟨⟨e0.mod,S.kind,rfl,rfl,e8 _,fun y z c h1 h2=> ?_,fun y hy=> ?_,fun y c _ h=> ?_,fun _=>hd,Around.frames_deeper e0.frames, .inr ⟨rfl,rfl⟩,fun b z=>absurd z (noA b),e0.bs,e0.bsz,fun b _ _=>noA b,fun b z=>absurd z (noA b),e0.funs,e0.frf⟩,
  rfl,e0.bare,Un.kept hk,⟨_,x.toInCall.ns,fun i y v h1 h2 h3=> ?_⟩,fun y c h=>⟨_,x.cell y c h⟩,e0.hok.fresh (e8 _),fun y c h=> ?_,fun p hp=>absurd (show p∈([]:List (Addr×Obj)) from hp) (by simp),e0.hok.kept hk, ?_⟩
 ·exact name_of_addr x.apart (PySem.mem_of_lookup h1) (PySem.mem_of_lookup h2)
 ·have hy:scope.names.lookup y=some .cell\/scope.names.lookup y=some .free:=hy
  rcases hy with hy|hy
  ·exact z5l hy
  ·exact absurd rfl (S.nofree _ (PySem.mem_of_lookup hy))
 ·exact N1 (x.above y c (PySem.mem_of_lookup h))
 ·have hi:i<vs.length:=by
   unfold z1h at h2
   by_cases hi:i<vs.length
   ·exact hi
   ·rw[List.getElem?_append_right (by simpa using hi)] at h2
    rw[List.getElem?_replicate] at h2
    split at h2<;>cases h2
  have ha:vs[i]? =some v:=by
   unfold z1h at h2
   rw[List.getElem?_append_left (by simpa using hi),List.getElem?_map] at h2
   cases e:vs[i]? with
   |none=>rw[e] at h2;cases h2
   |some a=>rw[e] at h2;cases h2;rfl
  obtain⟨u,hu,rv⟩:=r.get ha
  have hp:ps[i]? =some y:=by
   rw[<-S.pre,List.getElem?_take_of_lt (by lia)];exact h1
  have ndP:ps.Nodup:=by rw[<-S.pre];exact S.nd.sublist (List.take_sublist _ _)
  refine⟨u,rv, ?_⟩
  rcases S.par y (List.mem_of_getElem? hp) with k|k
  ·exact .inl ⟨k,z3M ndP hp hu k⟩
  ·obtain⟨c,e⟩:=z5l (n:=s.heap.objs.size+1) k
   refine .inr ⟨.inl k,c,e, ?_⟩
   have q:=x.cell y c e
   rw[z3N ndP hp hu (by show scope.names.lookup y≠_;rw[k];decide)] at q
   exact q
 ·exact e0.hok.fresh (N1 (x.above y c (PySem.mem_of_lookup h)))
 ·unfold z1h
  show _=N.length
  rw[l5,i9,L9]
  lia
theorem zdL{CX:CXT}{P:Program}{w:World}{K:W.Frag}{mg:Str->Option Value}{base:Heap}{k:Nat}{f:Addr}{name qual:Str}{params:Arguments}{body:List Stmt}{scope:Scope}{dV kV doc pm cdv ct oc:Value}{an od:Option Addr}
 {osl:Array (Option Value)} {N ps:List Str} {sp:Sp} (lk:K.lookup f=some ⟨oc,od, .func (W.fnOf name qual params body scope dV kV doc pm an cdv ct),osl⟩) (hcd:W.codeIn K cdv qual=true) (S:Z4 N ps scope)
 (len: ∀vs H Q E,sp vs H Q E->vs.length=ps.length)
 (hbody: ∀(A:Around) (outer:List Env) (s:Shared) (H:Hp) (vs:List V) (Q:VK) (E:XK),U5 k (A.deeper (envOfC qual scope s.heap.objs.size f cdv))->sp vs H Q E->
  ∃t,PSs (cxOf CX P w K mg base N qual scope f cdv A outer s H E) body t/\t {nx:=fun _ H'=>Q .non H',rt:=Q} (z1h N vs) H):
 J1 P w K mg base CX (k+1) f (W.fnOf name qual params body scope dV kV doc pm an cdv ct) ps sp:=by
 refine⟨len,fun A outer s H args us vs Q E hr e0 hb r hsp=> ?_⟩
 have hl:=len _ _ _ _ hsp
 have KX:K.In s.heap:=e0.mod.kin.keeps fun b o e=>(e0.bs b o e).1
 have lim:s.heap.NoLimit:=e0.mod.nolimit.keeps fun b o e=>(e0.bs b o e).1
 have hkind: ∀y∈ps.zip us,scope.names.lookup y.1=some .local\/(scope.names.lookup y.1=some .cell/\((cellsFrom (s.heap.objs.size+1) scope.names []).lookup y.1).isSome=true):=fun⟨n,v⟩ hy=>by
  rcases S.par n (D8 hy).1 with q|q
  ·exact .inl q
  ·exact .inr ⟨q,W.cellsFrom_some _ _ _ (.inl q)⟩
 refine codeAny_call_function hr.depth (KX _ _ lk) rfl S.co S.gen rfl (W.codeRec_of KX hcd) (hb _ _ _ _ ?_)
 refine wpAny_newFunctionEnv_cells S.kind hkind fun env he s1 x=> ?_
 subst he
 refine⟨lim.keeps x.toInCall.keep,codeAny_func ?_⟩
 obtain⟨t,ht,hq⟩:=hbody A outer s H vs Q E (hr.deeper _) hsp
 have I:Inv (cxOf CX P w K mg base N qual scope f cdv A outer s H E) [] (z1h N vs) H s1:=z3O S hr.hd e0 hl r x
 refine wpAny_mono (ht [] s1 (z1h N vs) H _ I hq) (fun fl s' hs=> ?_) fun e s' hs=>hs
 have fin: ∀{σ':St} {H':Hp} {v:V} {u:Value},Inv (cxOf CX P w K mg base N qual scope f cdv A outer s H E) [] σ' H' s'->RelV v u->Q v H'->CE outer P w H s Q u s':=
  fun{σ' H' v u} J rv q=>⟨v,H',J.os,J.bare,J.base,J.hok,rv,q⟩
 cases fl with
 |ret u=>
  obtain⟨v,σ',H',J,rv,q⟩:=hs
  exact fin J rv q
 |next=>
  obtain⟨σ',H',J,q⟩:=hs
  exact fin (v:=V.non) (u:=Value.none) J rfl q
 |brk=>
  obtain⟨_,_,_,q⟩:=hs
  exact False.elim q
 |cont=>
  obtain⟨_,_,_,q⟩:=hs
  exact False.elim q
section
variable{X:Cx}{x:Str}{p pos:Pos}{e:Expr}{es:List Expr}{t:TA}{id T:String}{r:List V->Hp->VK->Prop}
noncomputable def tCB(r:List V->Hp->VK->Prop)(t:TA):TE:=fun σ H Q=>t σ H fun vs H1=>r vs H1 Q
theorem z1K(hc:CallR X (.builtin id) r)(hg:Gl X x)(hm:X.mg x=none)(hv:bootBuiltins x=some (.builtin id))(ha:PA X (e::es) t)(hn:x≠ "__name__" :=by decide)(hdb:(x==("__debug__" :Str))=false:=by decide)
 (he:starEach (e::es) X.env=(false,eval e X.env)::starEach es X.env:=by rfl) (hpl:(backTo pos (starEach es X.env)).any (·.1)=false:=by rfl):PE X (.Call (.Name x p) (e::es) [] pos) (tCB r t):=by
 intro pins s σ H Q I h
 refine wpAny_Call_Name_kw (z5j I hg hm hv ?_ hn hdb)
 exact PyProof.Rows.callWith_builtin1 (thn (ha pos pins s σ H _ I h) fun us s1 ⟨vs,H1,I1,r1,q1⟩=>hc pins s1 σ H1 vs us Q I1 r1 q1) he hpl
theorem z75(hc:CallR X (.type T) r)(hg:Gl X x)(hm:X.mg x=none)(hv:bootBuiltins x=some (.type T))(ha:PA X (e::es) t)(hn:x≠ "__name__" :=by decide)(hdb:(x==("__debug__" :Str))=false:=by decide)
 (he:starEach (e::es) X.env=(false,eval e X.env)::starEach es X.env:=by rfl) (hpl:(backTo pos (starEach es X.env)).any (·.1)=false:=by rfl):PE X (.Call (.Name x p) (e::es) [] pos) (tCB r t):=by
 intro pins s σ H Q I h
 refine wpAny_Call_Name_kw (z5j I hg hm hv ?_ hn hdb)
 exact PyProof.Rows.callWith_type1 (thn (ha pos pins s σ H _ I h) fun us s1 ⟨vs,H1,I1,r1,q1⟩=>hc pins s1 σ H1 vs us Q I1 r1 q1) he hpl
end
end L2
namespace HT
open PySem PyProof.Rows
section
open PySem.SeqAt
open PySem.AutoSeq1 (wpAny_loadPart')
open PySem.MeetsSeq PySem.MeetsSeq2 PySem.MeetsSeq3
end
section
variable{prog:Program}{w:World}{A:Around}{E:Value->Shared->Prop}{s:Shared}
theorem cat_tup{t b:Addr}{vs ws:List Value}{Q:Value->Shared->Prop}(ht:IsTup s.heap t vs.toArray)(hb:IsTup s.heap b ws.toArray)(hv:vs≠[])
 (h1:ws=[]->Q (.ref t) s) (h2:ws≠[]->Q (.ref s.heap.objs.size) {s with heap:=s.heap.push {cls:= .type "tuple",data:= .seq (vs++ws).toArray}})
 (hsz:vs.length+ws.length<=sizeLine):wpAny (model prog w) A (binaryOp .Add (.ref t) (.ref b)) Q E s:=by
 obtain⟨⟨cls,dd,data,sl⟩,ho,hc,n,hd⟩:=id ht
 obtain⟨⟨cls2,dd2,data2,sl2⟩,ho2,hc2,n2,hd2⟩:=id hb
 simp only at hc hd hc2 hd2
 subst hc hd hc2 hd2
 have e:vs.toArray++ws.toArray=(vs++ws).toArray:=by simp
 by_cases hw:ws=[]
 ·exact concat_meets ⟨_,ho,rfl⟩ ⟨_,ho2,rfl⟩ noFill_tuple_add seq_tuple_add PySem.F.slot_tuple_add PySem.F.entry_tuple_add (PySem.F.args_tuple_add_2 _ _)
   (tuple_addW1 t b vs.toArray ws.toArray n n2 dd dd2 sl sl2 (by simpa using hv) (by simp[hw])) ⟨ho,ho2,h1 hw⟩
 ·refine concat_meets ⟨_,ho,rfl⟩ ⟨_,ho2,rfl⟩ noFill_tuple_add seq_tuple_add PySem.F.slot_tuple_add PySem.F.entry_tuple_add (PySem.F.args_tuple_add_2 _ _)
   (tuple_addW2 t b vs.toArray ws.toArray n n2 dd dd2 sl sl2 (by simpa using hv) (by simpa using hw) (by rw[i4,i4];exact hsz)) ⟨ho,ho2, ?_⟩
  rw[e]
  exact h2 hw
noncomputable def sIx(n d:Nat):Option Int->Nat
 |none=>d
 |some v=>if v<0 then(v+(n:Int)).toNat else min v.toNat n
theorem sIx_none(n d:Nat):sIx n d none=d:=rfl
theorem sIx_nat(n d k:Nat):sIx n d (some (k:Int))=min k n:=by
 show(if(k:Int)<0 then((k:Int)+(n:Int)).toNat else min (k:Int).toNat n)=min k n
 rw[if_neg (by lia),C3]
theorem zdM(n d:Nat)(hd:d<=n)(o:Option Int):sIx n d o<=n:=by
 cases o with
 |none=>exact hd
 |some v=>
  show(if v<0 then(v+(n:Int)).toNat else min v.toNat n)<=n
  by_cases hv:v<0
  ·rw[if_pos hv];lia
  ·rw[if_neg hv];exact Nat.min_le_right _ _
theorem z76(v:Int)(n d:Nat):(if v<0 then max (v+(n:Int)) 0 else min v (n:Int))=((sIx n d (some v):Nat):Int):=by
 show(if v<0 then max (v+(n:Int)) 0 else min v (n:Int))=(((if v<0 then(v+(n:Int)).toNat else min v.toNat n):Nat):Int)
 by_cases hv:v<0
 ·erw[if_pos hv];lia
 ·erw[if_neg hv];lia
theorem z67(lo hi:Option Int)(n:Nat):Builtin.Slice.sliceAdjust lo hi 1 (n:Int)=(((sIx n 0 lo:Nat):Int),((sIx n n hi:Nat):Int)):=by
 have h1: ¬((1:Int)<0):=by lia
 unfold Builtin.Slice.sliceAdjust
 erw[h1,if_false]
 refine Prod.ext ?_ ?_
 ·cases lo with
  |none=>rfl
  |some v=>exact z76 v n 0
 ·cases hi with
  |none=>rfl
  |some v=>exact z76 v n n
theorem z68(i j:Nat):Builtin.Slice.slicePlaces (i:Int) (j:Int) 1=j -i:=by
 unfold Builtin.Slice.slicePlaces
 have h1:(1:Int)>0:=by lia
 erw[h1,if_true,Int.ediv_one]
 split<;>lia
theorem z2S{v:Value}{o:Option Int}{Q:Option Int->Shared->Prop}(p:IsPart v o)(h:Q o s):wpAny (model prog w) A (Builtin.Slice.slicePartIndex v) Q E s:=by
 cases p with
 |none=>exact slicePart_none h
 |int i t=>exact slicePart_int h
theorem K4{sl:Addr}{vl vu:Value}{lo hi:Option Int}{n:Nat}{Q:Int×Int×Nat->Shared->Prop}(hs:s.heap.IsSliceOf sl vl vu .none)(pl:IsPart vl lo)(pu:IsPart vu hi)
 (h:Q (((sIx n 0 lo:Nat):Int),1,sIx n n hi -sIx n 0 lo) s):wpAny (model prog w) A (Builtin.Slice.sliceApplied (.ref sl) (pure (n:Int))) Q E s:=by
 obtain⟨os,hos,hcs,hds⟩:=id hs
 unfold Builtin.Slice.sliceApplied Builtin.Slice.sliceFields
 refine wpAny_bind (wpAny_bind (wpAny_field hos hds (x:=vl) rfl (wpAny_bind (wpAny_field hos hds (x:=vu) rfl (wpAny_bind (wpAny_field hos hds (x:= .none) rfl (wpAny_pure ?_)))))))
 refine wpAny_bind (slicePart_none ?_)
 show wpAny _ _ (if((1:Int)==0)=true then _ else _) _ _ s
 rw[if_neg (by decide)]
 refine wpAny_bind (z2S pl (wpAny_bind (z2S pu (wpAny_bind (wpAny_pure ?_)))))
 show wpAny _ _ (match Builtin.Slice.sliceAdjust lo hi 1 (n:Int) with|(lo,hi)=>pure (lo,(1:Int),Builtin.Slice.slicePlaces lo hi 1)) _ _ s
 rw[z67 lo hi n]
 show wpAny _ _ (pure (((sIx n 0 lo:Nat):Int),(1:Int),Builtin.Slice.slicePlaces ((sIx n 0 lo:Nat):Int) ((sIx n n hi:Nat):Int) 1)) _ _ s
 rw[z68]
 exact wpAny_pure h
theorem z8Z(xs:Array Value)(i k:Nat):((B5 k).filterMap fun(m:Nat)=>xs[((i:Int)+(m:Int)*1).toNat]?).toArray=((xs.toList.drop i).take k).toArray:=by
 have e:(fun(m:Nat)=>xs[((i:Int)+(m:Int)*1).toNat]?)=fun m=>xs[i+m]? :=by
  funext m
  have:((i:Int)+(m:Int)*1).toNat=i+m:=by lia
  rw[this]
 rw[e]
 have:=pick_run xs i k
 rw[List.filterMap_map] at this
 have e2:((fun x=>xs[x]?)∘fun x=>i+x)=fun m=>xs[i+m]? :=rfl
 rw[e2] at this
 rw[this]
theorem getItem_tuple_cut{t sl:Addr}{items:Array Value}{vl vu:Value}{lo hi:Option Int}{Q:Value->Shared->Prop}(ht:IsTup s.heap t items)(hs:s.heap.IsSliceOf sl vl vu .none)(pl:IsPart vl lo)(pu:IsPart vu hi)
 (hw: ¬(sIx items.size 0 lo=0/\sIx items.size items.size hi=items.size))
 (h:Q (.ref s.heap.objs.size) {s with heap:=s.heap.push {cls:= .type "tuple",data:= .seq ((items.toList.drop (sIx items.size 0 lo)).take (sIx items.size items.size hi -sIx items.size 0 lo)).toArray}})
 (hsz:items.size<=sizeLine):wpAny (model prog w) A (getItem (.ref t) (.ref sl)) Q E s:=by
 have htake:sizeOk (.seq ((items.toList.drop (sIx items.size 0 lo)).take (sIx items.size items.size hi -sIx items.size 0 lo)).toArray):=by
  show((items.toList.drop (sIx items.size 0 lo)).take (sIx items.size items.size hi -sIx items.size 0 lo)).toArray.size<=sizeLine
  rw[i4,I0,N6,Array.length_toList]
  lia
 have hj:sIx items.size items.size hi<=items.size:=zdM _ _ (e8 _) hi
 obtain⟨os,hos,hcs,hds⟩:=id hs
 have hTs:s.TypeIs (.ref sl) "slice" :=⟨os,hos,hcs⟩
 unfold getItem
 try with_reducible refine wpAny_holding ?_
 first|refine wpAny_bind (wpAny_pure ?_)|skip
 refine wpAny_bind (wpAny_sequenceKey ht.typeIs (by decide) ?_)
 refine wpAny_bind (wpAny_callSpecial?_slot (name:=Str.ofString "__getitem__") ht.typeIs PyProof.Rows.slot_tuple_getitem
  (wpAny_call_entry PyProof.Rows.slot_tuple_getitem ht.typeIs entry_tuple_getitem ?_ (args_tuple_getitem _ _)))
 show wpAny _ _ (Builtin.Tuple.tupleItemsOf (.ref t)>>=_) _ _ s
 refine wpAny_bind (tupleItemsOf_ ht ?_)
 refine wpAny_bind (wpAny_typeOf hTs ?_)
 rw[if_pos (by decide)]
 refine wpAny_bind (K4 hs pl pu ?_)
 have hno: ¬((((sIx items.size 0 lo:Nat):Int)==0&&(1:Int)==1&&(sIx items.size items.size hi -sIx items.size 0 lo)==items.size)=true):=by
  intro q
  rw[i3,i3] at q
  have q1:((sIx items.size 0 lo:Nat):Int)=0:=eq_of_beq q.1.1
  have q2:sIx items.size items.size hi -sIx items.size 0 lo=items.size:=eq_of_beq q.2
  exact hw ⟨by lia,by lia⟩
 show wpAny _ _ (if(((sIx items.size 0 lo:Nat):Int)==0&&(1:Int)==1&&(sIx items.size items.size hi -sIx items.size 0 lo)==items.size)=true then _ else _) _ _ s
 rw[if_neg hno,z8Z]
 first
  |exact wpAny_bind (m:=Builtin.Tuple.tupleExact _) (wpAny_newObj_type (wpAny_pure ⟨_,rfl,wpAny_pure h⟩) htake)
  |exact wpAny_bind (m:=Builtin.Tuple.tupleExact _) (wpAny_newObj_type (wpAny_bind (wpAny_pure (wpAny_pure ⟨_,rfl,wpAny_pure h⟩))) htake)
  |exact wpAny_bind (wpAny_bind (m:=Builtin.Tuple.tupleExact _) (wpAny_newObj_type (wpAny_pure (wpAny_pure ⟨_,rfl,wpAny_pure h⟩)) htake))
  |exact wpAny_bind (wpAny_bind (m:=Builtin.Tuple.tupleExact _) (wpAny_newObj_type (wpAny_pure ⟨_,rfl,wpAny_pure h⟩) htake))
end
end HT
namespace L2
open PySem PySem.Spec PyProof.Rows
noncomputable abbrev TO:=St->Hp->(Option Int->Hp->Prop)->Prop
noncomputable def PO(X:Cx)(e:Option Expr)(t:TO):Prop:=
 ∀(pins:List (Addr×Obj)) (s:Shared) (σ:St) (H:Hp) (Q:Option Int->Hp->Prop),Inv X pins σ H s->t σ H Q->
  wpAny (model X.prog X.w) X.A (evalPart e X.env) (fun u s'=> ∃o H',Inv X pins σ H' s'/\IsPart u o/\Q o H') X.xe s
noncomputable def zbr:TO:=fun _ H Q=>Q none H
noncomputable def zgI(t:TE):TO:=fun σ H Q=>t σ H fun x H1=> ∃i,x= .int i/\Q (some i) H1
section
variable{X:Cx}{e:Expr}{te:TE}{lo hi:Option Expr}{tl th:TO}{pos p2:Pos}
theorem zbs:PO X none zbr:=by
 intro pins s σ H Q I h
 rw[evalPart_none]
 exact wpAny_pure ⟨none,H,I, .none,h⟩
theorem zbt(h:PE X e te):PO X (some e) (zgI te):=by
 intro pins s σ H Q I hw
 rw[evalPart_some]
 refine thn (h pins s σ H _ I hw) fun u s1 ⟨x,H1,I1,r1,q1⟩=> ?_
 obtain⟨i,rfl,q⟩:=q1
 obtain⟨t,rfl⟩:=r1
 exact⟨some i,H1,I1, .int i t,q⟩
noncomputable def SlR(X:Cx)(r:V->Option Int->Option Int->Hp->VK->Prop):Prop:=
 ∀(pins:List (Addr×Obj)) (s:Shared) (σ:St) (H:Hp) (x:V) (v vl vu:Value) (lo hi:Option Int) (sl:Addr) (Q:VK),Inv X pins σ H s->RelV x v->s.heap.IsSliceOf sl vl vu .none->IsPart vl lo->IsPart vu hi->r x lo hi H Q->
  ∃T id,typeLookup (.type T) "__getitem__" =pure (some (.builtin id))/\s.TypeIs v T/\wpAny (model X.prog X.w) X.A (getItem v (.ref sl)) (EP X pins σ Q) X.xe s
theorem SlR.or{r r':V->Option Int->Option Int->Hp->VK->Prop}(h:SlR X r)(h':SlR X r'):SlR X (fun x lo hi H Q=>r x lo hi H Q\/r' x lo hi H Q):=by
 intro pins s σ H x v vl vu lo hi sl Q I rx hs pl pu q
 rcases q with q|q
 ·exact h pins s σ H x v vl vu lo hi sl Q I rx hs pl pu q
 ·exact h' pins s σ H x v vl vu lo hi sl Q I rx hs pl pu q
noncomputable def tSl(r:V->Option Int->Option Int->Hp->VK->Prop)(te:TE)(tl th:TO):TE:=fun σ H Q=>te σ H fun x H1=>tl σ H1 fun l H2=>th σ H2 fun u H3=>r x l u H3 Q
theorem z90{r:V->Option Int->Option Int->Hp->VK->Prop}(hr:SlR X r)(he:PE X e te)(hl:PO X lo tl)(hu:PO X hi th):PE X (.Subscript e (.Slice lo hi none p2) pos) (tSl r te tl th):=by
 intro pins s σ H Q I h
 refine Subscript_ (thn (he pins s σ H _ I h) fun v s1 ⟨x,H1,I1,r1,q1⟩=> ?_)
 refine wpAny_Slice (thn (hl pins s1 σ H1 _ I1 q1) fun vl s2 ⟨l,H2,I2,pl,q2⟩=>thn (hu pins s2 σ H2 _ I2 q2) fun vu s3 ⟨u,H3,I3,pu,q3⟩=> ?_)
 rw[evalPart_none]
 refine wpAny_pure ?_
 have I4:Inv X pins σ H3 {s3 with heap:=s3.heap.push {cls:= .type "slice",data:= .fields #[vl,vu, .none]}}:=I3.kept (t':=s3.toks) fun b ob q=>Heap.get?_push_of_some _ q
 obtain⟨T,id,hT,ht,hg⟩:=hr pins {s3 with heap:=s3.heap.push {cls:= .type "slice",data:= .fields #[vl,vu, .none]}} σ H3 x v vl vu l u s3.heap.objs.size Q I4 r1 (Heap.IsSliceOf.new ..) pl pu q3
 show wpAny (model X.prog X.w) X.A (subscriptTail e (.Slice lo hi none p2) v (.ref s3.heap.objs.size)) (EP X pins σ Q) X.xe {s3 with heap:=s3.heap.push {cls:= .type "slice",data:= .fields #[vl,vu, .none]}}
 exact tail_any (ops:=[.ref s3.heap.objs.size,v]) ht hT hg (by with_unfolding_all rfl)
noncomputable def z77(xs:List V)(lo hi:Option Int):List V:=(xs.drop (HT.sIx xs.length 0 lo)).take (HT.sIx xs.length xs.length hi -HT.sIx xs.length 0 lo)
theorem z1S(xs:List V)(lo hi:Option Int):(z77 xs lo hi).length<=xs.length:=by
 unfold z77
 rw[I0,N6]
 lia
noncomputable def zj6(K:W.Frag):V->Option Int->Option Int->Hp->VK->Prop:=fun x lo hi H Q=> ∃a xs,x= .ref a/\SqT K H a xs/\
 ¬(HT.sIx xs.length 0 lo=0/\HT.sIx xs.length xs.length hi=xs.length)/\∀p,H p=none->Q (.ref p) (upd H p (.tup (z77 xs lo hi)))
theorem zdN:SlR X (zj6 X.K):=by
 intro pins s σ H x v vl vu lo hi sl Q I rx hs pl pu h
 obtain⟨a,xs,rfl,hx,hw,q⟩:=h
 cases rx
 obtain⟨its,r,ht,hz⟩:=I.tuple hx
 have hlen:its.toArray.size=xs.length:=by rw[i4];exact r.length.symm
 refine⟨"tuple",_,PyProof.Rows.slot_tuple_getitem.lookup,ht.typeIs, ?_⟩
 refine HT.getItem_tuple_cut ht hs pl pu (by rw[hlen];exact hw) ?_ (by rw[hlen];exact hz)
 rw[hlen]
 refine⟨.ref s.heap.objs.size,_,I.laid (t':=s.toks) (o:= .tup (z77 xs lo hi)) (fun b ob q=>Heap.get?_push_of_some _ q) (e8 _) ?_,rfl,q _ (I.hok.fresh (e8 _))⟩
 exact⟨s0 (z1S xs lo hi) hz,_,(r.drop (HT.sIx xs.length 0 lo)).take (HT.sIx xs.length xs.length hi -HT.sIx xs.length 0 lo),IsTup.new _ _⟩
noncomputable def zgJ(K:W.Frag):R2:=fun x y H Q=> ∃a b xs ys,x= .ref a/\y= .ref b/\SqT K H a xs/\SqT K H b ys/\xs≠[]/\xs.length+ys.length<=sizeLine/\
 (ys=[]->Q (.ref a) H)/\(ys≠[]->∀p,H p=none->Q (.ref p) (upd H p (.tup (xs++ys))))
theorem w4.nil_iff{xs:List V}{us:List Value}(r:w4 xs us):us=[]↔xs=[]:=by
 cases r with
 |nil=>simp
 |cons _ _=>simp
theorem zbu:OpR X (binaryOp .Add) (zgJ X.K):=by
 intro pins s σ H x y v u Q I rx ry h
 obtain⟨a,b,xs,ys,rfl,rfl,ha,hb,hx,hz,q1,q2⟩:=h
 cases rx
 cases ry
 obtain⟨its,r1,p1,_⟩:=I.tuple ha
 obtain⟨its2,r2,p2,_⟩:=I.tuple hb
 refine HT.cat_tup p1 p2 (fun z=>hx (r1.nil_iff.mp z)) (fun z=>⟨.ref a,H,I,rfl,q1 (r2.nil_iff.mp z)⟩) (fun z=> ?_) (by rw[<-r1.length,<-r2.length];exact hz)
 refine⟨.ref s.heap.objs.size,_,I.laid (t':=s.toks) (o:= .tup (xs++ys)) (fun b ob q=>Heap.get?_push_of_some _ q) (e8 _) ?_,rfl,q2 (fun w=>z (r2.nil_iff.mpr w)) _ (I.hok.fresh (e8 _))⟩
 exact⟨by rw[l5];exact hz,_,r1.append r2,IsTup.new _ _⟩
end
noncomputable def ixN(n:Nat)(i:Int):Option Nat:=if 0<=i then(if i<n then some i.toNat else none) else if -(n:Int)<=i then some (i+n).toNat else none
noncomputable def atI{α:Type}(xs:List α)(i:Int):Option α:=(ixN xs.length i).bind fun j=>xs[j]?
theorem z78{n:Nat}{i:Int}{j:Nat}(h:ixN n i=some j):seqIndex? i n=some j/\j<n/\-(n:Int)<=i/\i<n:=by
 unfold ixN at h
 by_cases h0:0<=i
 ·rw[if_pos h0] at h
  by_cases h1:i<n
  ·rw[if_pos h1] at h
   have e:i.toNat=j:=Option.some.inj h
   exact⟨by rw[seqIndex_of h0 h1,e],by lia,by lia,h1⟩
  ·rw[if_neg h1] at h;cases h
 ·rw[if_neg h0] at h
  by_cases h1: -(n:Int)<=i
  ·rw[if_pos h1] at h
   have e:(i+n).toNat=j:=Option.some.inj h
   exact⟨by rw[seqIndex_neg (by lia) h1,e],by lia,h1,by lia⟩
  ·rw[if_neg h1] at h;cases h
theorem z79{α:Type}{xs:List α}{i:Int}{v:α}(h:atI xs i=some v): ∃j,seqIndex? i xs.length=some j/\xs[j]? =some v/\j<xs.length/\-(xs.length:Int)<=i/\i<xs.length:=by
 unfold atI at h
 cases e:ixN xs.length i with
 |none=>rw[e] at h;cases h
 |some j=>
  rw[e] at h
  obtain⟨h1,h2,h3,h4⟩:=z78 e
  exact⟨j,h1,h,h2,h3,h4⟩
theorem zbv{α:Type}{xs:List α}{j:Nat}{v:α}(h:xs[j]? =some v):atI xs (j:Int)=some v:=by
 have hj:j<xs.length:=(List.getElem?_eq_some_iff.mp h).1
 have e:ixN xs.length (j:Int)=some j:=by
  unfold ixN
  rw[if_pos (by lia),if_pos (by lia)];simp
 unfold atI;rw[e];exact h
noncomputable def z1i(b:Expr):Prop:= ∀o i,subscripted b false o i=operate [o,i] (getItem o i)
noncomputable def IxR(X:Cx)(r:R2):Prop:=
 ∀(value slice:Expr) (pins:List (Addr×Obj)) (s:Shared) (σ:St) (H:Hp) (x y:V) (v u:Value) (Q:VK),Inv X pins σ H s->RelV x v->RelV y u->r x y H Q->
  subscripted slice false v u=operate [v,u] (getItem v u)->wpAny (model X.prog X.w) X.A (subscriptTail value slice v u) (EP X pins σ Q) X.xe s
noncomputable def MtR(X:Cx)(id:String)(r:V->List V->Hp->VK->Prop):Prop:=
 ∀(pins:List (Addr×Obj)) (s:Shared) (σ:St) (H:Hp) (x:V) (xs:List V) (v:Value) (us:List Value) (Q:VK),Inv X pins σ H s->RelV x v->w4 xs us->r x xs H Q->
  wpAny (model X.prog X.w) X.A (call (.builtin id) (v::us)) (EP X pins σ Q) X.xe s
section
variable{X:Cx}{a b:Expr}{ta tb:TE}{pos:Pos}
theorem IxR.or{r r':R2}(h:IxR X r)(h':IxR X r'):IxR X (fun x y H Q=>r x y H Q\/r' x y H Q):=by
 intro value slice pins s σ H x y v u Q I rx ry q hs
 rcases q with q|q
 ·exact h value slice pins s σ H x y v u Q I rx ry q hs
 ·exact h' value slice pins s σ H x y v u Q I rx ry q hs
theorem zgK{r:R2}(hr:IxR X r)(ha:PE X a ta)(hb:PE X b tb)(hs:z1i b):PE X (.Subscript a b pos) (tOp r ta tb):=by
 intro pins s σ H Q I h
 exact Subscript_ (ziF ha hb I h fun v u s2 x y H2 I2 rx ry q=>hr a b pins s2 σ H2 x y v u Q I2 rx ry q (hs _ _))
noncomputable def ziI(K:W.Frag):R2:=fun x y H Q=> ∃p xs i v,x= .ref p/\y= .int i/\SqL K H p xs/\atI xs i=some v/\Q v H
noncomputable def ziJ(K:W.Frag):R2:=fun x y H Q=> ∃p xs i v,x= .ref p/\y= .int i/\SqT K H p xs/\atI xs i=some v/\Q v H
theorem zbw:IxR X (ziI X.K):=by
 intro value slice pins s σ H x y v u Q I rx ry h hs
 obtain⟨p,xs,i,z,rfl,rfl,hq,he,q⟩:=h
 cases rx
 obtain⟨t,rfl⟩:=ry
 obtain⟨its,r,pl,hz⟩:=I.list hq
 obtain⟨j,h1,h2,h3,h4,h5⟩:=z79 he
 obtain⟨w,ew,rw'⟩:=r.get h2
 have hl:=r.length
 have hn:=z2Q
 have fin:EP X pins σ Q w s:=⟨z,H,I,rw',q⟩
 by_cases h0:0<=i
 ·have hj:i.toNat=j:=by
   rw[seqIndex_of h0 h5] at h1
   exact Option.some.inj h1
  exact item_listR pl.isList h0 (by lia) (by rw[hj];simpa using ew) fin hs
 ·have hj:(i+(its.toArray.size:Int)).toNat=j:=by
   rw[seqIndex_neg (by lia) h4] at h1
   rw[i4,<-hl]
   exact Option.some.inj h1
  exact subscriptTail_builtinR (x:=w) pl.isList.typeIs slot_list_getitem.lookup
   (wpAny_getItem_list_neg (Q:=fun r s'=>r=w/\EP X pins σ Q r s') pl.isList (by lia) (by rw[i4]<;>lia) (by lia) (by rw[hj];simpa using ew) ⟨rfl,fin⟩) hs
theorem zdO:IxR X (ziJ X.K):=by
 intro value slice pins s σ H x y v u Q I rx ry h hs
 obtain⟨p,xs,i,z,rfl,rfl,hq,he,q⟩:=h
 cases rx
 obtain⟨t,rfl⟩:=ry
 obtain⟨its,r,pl,hz⟩:=I.tuple hq
 obtain⟨j,h1,h2,h3,h4,h5⟩:=z79 he
 obtain⟨w,ew,rw'⟩:=r.get h2
 have hl:=r.length
 have hn:=z2Q
 have fin:EP X pins σ Q w s:=⟨z,H,I,rw',q⟩
 exact subscriptTail_builtinR (x:=w) pl.typeIs slot_tuple_getitem.lookup
  (getItem_tuple (j:=j) (Q:=fun r s'=>r=w/\EP X pins σ Q r s') pl (by lia) (by lia) (by rw[i4,<-hl];exact h1) (by simpa using ew) ⟨rfl,fin⟩) hs
theorem z69(its:List Value)(n j:Nat)(u:Value):Obj.mapSeq (·.setIfInBounds j u) {cls:= .type "list",data:= .seq its.toArray n}={cls:= .type "list",data:= .seq (its.set j u).toArray n}:=by
 simp[Obj.mapSeq]
theorem Inv.lst{pins:List (Addr×Obj)}{σ:St}{H:Hp}{s:Shared}{p:Addr}{xs:List V}(I:Inv X pins σ H s)(h:H p=some (.lst xs)):
 ∃(its:List Value) (n:Nat),w4 xs its/\s.heap.get? p=some {cls:= .type "list",data:= .seq its.toArray n}/\xs.length<=sizeLine:=by
 obtain⟨z,its,n,r,e⟩:=I.hok p _ h
 exact⟨its,n,r,e,z⟩
theorem Inv.lstUpd{pins:List (Addr×Obj)}{σ:St}{H:Hp}{s:Shared}{p:Addr}{xs ys:List V}{its its':List Value}{n n':Nat}{f:Obj->Obj}(I:Inv X pins σ H s)(h:H p=some (.lst xs))
 (ho:s.heap.get? p=some {cls:= .type "list",data:= .seq its.toArray n}) (hf:f {cls:= .type "list",data:= .seq its.toArray n}={cls:= .type "list",data:= .seq its'.toArray n'}) (r:w4 ys its') (hz:ys.length<=sizeLine) (t:Nat):
 Inv X pins σ (upd H p (.lst ys)) {s with heap:=s.heap.update p f,toks:=t}:=by
 have e:(s.heap.update p f).get? p=some {cls:= .type "list",data:= .seq its'.toArray n'}:=by
  rw[Heap.get?_update_self f ho (by rw[hf]<;>rfl),hf]
 refine I.write (x:=p) (e:=p) (by rw[h];trivial) (.inl rfl) (fun b u hb q=>(Heap.get?_update_other _ _ (Ne.symm hb)).trans q) ⟨_,e⟩ ?_
 exact⟨hz,its',n',r,e⟩
noncomputable def z91:V->V->V->Hp->(Hp->Prop)->Prop:=fun o i v H Q=> ∃p xs k j,o= .ref p/\i= .int k/\H p=some (.lst xs)/\ixN xs.length k=some j/\Q (upd H p (.lst (xs.set j v)))
theorem z5m:ziE X z91:=by
 intro pins s σ H o i v ov iv u Q I ro ri rv h
 obtain⟨p,xs,k,j,rfl,rfl,hp,hj,q⟩:=h
 cases ro
 obtain⟨t,rfl⟩:=ri
 obtain⟨its,n,r,ho,hz⟩:=I.lst hp
 obtain⟨h1,h2,h3,h4⟩:=z78 hj
 have hl:=r.length
 have hn:=z2Q
 have I':Inv X pins σ (upd H p (.lst (xs.set j v))) {s with heap:=s.heap.update p (Obj.mapSeq (·.setIfInBounds j u))}:=
  I.lstUpd hp ho (z69 its n j u) (r.set rv j) (by rw[List.length_set];exact hz) s.toks
 by_cases h0:0<=k
 ·have hk:k.toNat=j:=by
   rw[seqIndex_of h0 h4] at h1
   exact Option.some.inj h1
  exact W.ki_setAt ho h0 (by lia) (by rw[i4,<-hl];exact h4) (by rw[hk];exact⟨_,I',q⟩)
 ·have hk:(k+(its.toArray.size:Int)).toNat=j:=by
   rw[seqIndex_neg (by lia) h3] at h1
   rw[i4,<-hl]
   exact Option.some.inj h1
  exact W.ki_setBack ho (by lia) (by rw[i4,<-hl];exact h3) (by lia) (by rw[hk];exact⟨_,I',q⟩)
theorem z3P(lo hi:Option Int)(n:Nat):(sliceBounds lo hi none n).1=((HT.sIx n 0 lo:Nat):Int)/\(sliceBounds lo hi none n).2.1=((HT.sIx n n hi:Nat):Int)/\(sliceBounds lo hi none n).2.2=1:=by
 refine⟨?_, ?_,rfl⟩
 ·cases lo with
  |none=>simp[sliceBounds,HT.sIx]
  |some i=>
   erw[sliceBounds,HT.sIx,B0,show(1:Int)>0 by decide,if_true]
   by_cases h:i<0
   ·erw[h,if_true]<;>lia
   ·erw[h,if_false]<;>lia
 ·cases hi with
  |none=>simp[sliceBounds,HT.sIx]
  |some i=>
   erw[sliceBounds,HT.sIx,B0,show(1:Int)>0 by decide,if_true]
   by_cases h:i<0
   ·erw[h,if_true]<;>lia
   ·erw[h,if_false]<;>lia
theorem z37(its:List Value)(lo hi:Option Int):slicePick its.toArray lo hi none=((its.drop (HT.sIx its.length 0 lo)).take (HT.sIx its.length its.length hi -HT.sIx its.length 0 lo)).toArray:=by
 obtain⟨h1,h2,h3⟩:=z3P lo hi its.toArray.size
 unfold slicePick
 rw[h1,h2,h3]
 erw[sliceRange_one,pick_run,i4]<;>rfl
noncomputable def zgL(K:W.Frag):V->Option Int->Option Int->Hp->VK->Prop:=fun x lo hi H Q=> ∃a xs,x= .ref a/\SqL K H a xs/\∀p,H p=none->Q (.ref p) (upd H p (.lst (z77 xs lo hi)))
theorem zbx:SlR X (zgL X.K):=by
 intro pins s σ H x v vl vu lo hi sl Q I rx hs pl pu h
 obtain⟨a,xs,rfl,hx,q⟩:=h
 cases rx
 obtain⟨its,r,ht,hz⟩:=I.list hx
 have hlen:=r.length
 refine⟨"list",_,slot_list_getitem.lookup,ht.isList.typeIs, ?_⟩
 refine wpAny_getItem_list_slice ht.isList hs pl pu .none (by simp) ?_ (by rw[i4]<;>lia)
 rw[z37,<-hlen]
 refine⟨.ref s.heap.objs.size,_,I.laid (t':=s.toks) (o:= .lst (z77 xs lo hi)) (fun b ob q=>Heap.get?_push_of_some _ q) (e8 _) ?_,rfl,q _ (I.hok.fresh (e8 _))⟩
 exact⟨s0 (z1S xs lo hi) hz,_,0,(r.drop (HT.sIx xs.length 0 lo)).take (HT.sIx xs.length xs.length hi -HT.sIx xs.length 0 lo),Heap.get?_push_size _ rfl⟩
theorem z3Q:CallR X (.builtin "len") (fun xs H Q=> ∃p ys,xs=[.ref p]/\(SqL X.K H p ys\/SqT X.K H p ys)/\Q (.int ys.length) H):=by
 intro pins s σ H xs us Q I r h
 obtain⟨p,ys,rfl,hq,q⟩:=h
 obtain⟨u,rfl,rx⟩:=z4z r
 cases rx
 have hn:=z2Q
 rcases hq with hq|hq
 ·obtain⟨its,r',pl,hz⟩:=I.list hq
  have hlen:=r'.length
  exact Calls.call_len_list pl.isList (by erw[i4]<;>lia) ⟨.int ys.length,H,I.tok _,⟨s.toks+1,by rw[i4,hlen]⟩,q⟩
 ·obtain⟨its,r',pl,hz⟩:=I.tuple hq
  have hlen:=r'.length
  exact len_tuple pl (by erw[i4]<;>lia) ⟨.int ys.length,H,I.tok _,⟨s.toks+1,by rw[i4,hlen]⟩,q⟩
theorem z38:CallR X (.type "tuple") (fun xs H Q=> ∃p ys,xs=[.ref p]/\((SqL X.K H p ys/\∀l,H l=none->Q (.ref l) (upd H l (.tup ys)))\/(SqT X.K H p ys/\Q (.ref p) H))):=by
 intro pins s σ H xs us Q I r h
 obtain⟨p,ys,rfl,h⟩:=h
 obtain⟨u,rfl,rx⟩:=z4z r
 cases rx
 rcases h with⟨hq,q⟩|⟨hq,q⟩
 ·obtain⟨its,r',pl,hz⟩:=I.list hq
  have hlen:=r'.length
  refine call_tuple_list pl.isList (fun h' kp=> ?_) (by erw[i4]<;>lia)
  have I1:Inv X pins σ H {s with heap:=h'}:=I.kept (t':=s.toks) kp
  have I2:Inv X pins σ (upd H h'.objs.size (.tup ys)) {s with heap:=h'.push {cls:= .type "tuple",data:= .seq its.toArray}}:=
   I1.laid (t':=s.toks) (fun b o e=>Heap.get?_push_of_some _ e) (e8 _) (show g0 X.prog X.w _ _ _ (.tup ys) from⟨hz,its,r',IsTup.new _ _⟩)
  exact⟨.ref h'.objs.size,_,I2,rfl,q _ (I1.hok.fresh (e8 _))⟩
 ·obtain⟨its,r',pl,hz⟩:=I.tuple hq
  exact call_tuple_same pl ⟨.ref p,H,I,rfl,q⟩
noncomputable def tyV(K:W.Frag)(T:String)(x:V)(H:Hp):Prop:=match x with
 | .str _=>T= "str"
 | .int _=>T= "int"
 | .ref p=>(T= "list" /\∃xs,SqL K H p xs)\/(T= "tuple" /\∃o,K.lookup p=some o/\o.cls= .type "tuple" /\o.dict=none)\/
  (T= "dict" /\((∃kvs,H p=some (.dK kvs))\/∃kvs,H p=some (.dT kvs)))\/(T= "set" /\∃S n,H p=some (.set S n))
 |_=>False
theorem zai{pins:List (Addr×Obj)}{σ:St}{H:Hp}{s:Shared}{T:String}{x:V}{v:Value}(I:Inv X pins σ H s)(r:RelV x v)(ty:tyV X.K T x H):
 s.TypeIs v T/\∀a,v= .ref a->∃ob,s.heap.get? a=some ob/\ob.dict=none:=by
 cases x with
 |str z=>
  obtain⟨t,rfl⟩:=r
  cases(show T= "str" from ty)
  exact⟨typeIs_str s z t,fun _ e=>nomatch e⟩
 |int i=>
  obtain⟨t,rfl⟩:=r
  cases(show T= "int" from ty)
  exact⟨typeIs_int s i t,fun _ e=>nomatch e⟩
 |ref p=>
  cases r
  rcases ty with⟨rfl,xs,hq⟩|⟨rfl,o,hk,hc,hd⟩|⟨rfl,hk⟩|⟨rfl,S,n,hk⟩
  ·obtain⟨its,_,pl,_⟩:=I.list hq
   refine⟨pl.isList.typeIs,fun a e=> ?_⟩
   cases e
   obtain⟨o,n,e,c,hd,_⟩:=pl
   exact⟨o,e,hd⟩
  ·refine⟨⟨o,I.kIn p o hk,hc⟩,fun a e=> ?_⟩
   cases e
   exact⟨o,I.kIn _ o hk,hd⟩
  ·have z: ∃o,s.heap.get? p=some o/\o.ExactDict:=by
    rcases hk with⟨kvs,hk⟩|⟨kvs,hk⟩
    ·obtain⟨_,_,_,_,o,_,_,e,ex,_⟩:=I.hok p _ hk
     exact⟨o,e,ex⟩
    ·obtain⟨_,_,_,_,o,_,_,e,ex,_⟩:=I.hok p _ hk
     exact⟨o,e,ex⟩
   obtain⟨o,e,ex⟩:=z
   refine⟨⟨o,e,ex.1⟩,fun a e2=> ?_⟩
   cases e2
   exact⟨o,e,ex.2.1⟩
  ·obtain⟨o,_,_,_,e,ex,_⟩:=I.hok p _ hk
   refine⟨⟨o,e,ex.1⟩,fun a e2=> ?_⟩
   cases e2
   exact⟨o,e,ex.2.1⟩
 |_=>exact False.elim ty
noncomputable def zj7(K:W.Frag)(T:String)(r:V->List V->Hp->VK->Prop)(to:TE):TE:=fun σ H Q=>to σ H fun x H1=>tyV K T x H1/\r x [] H1 Q
noncomputable def tBM(K:W.Frag)(T:String)(r:V->List V->Hp->VK->Prop)(to:TE)(t:TA):TE:=fun σ H Q=>to σ H fun x H1=>tyV K T x H1/\t σ H1 fun xs H2=>r x xs H2 Q
variable{o e:Expr}{es:List Expr}{to:TE}{t:TA}{name:Str}{apos cpos:Pos}{T id:String}{r:V->List V->Hp->VK->Prop}
theorem zdP(pa:PlainAttrs T)(slot:Slot T name id)(hty:typeOf (.builtin id)=pure (.type "method_descriptor"))(hm:MtR X id r)(ho:PE X o to)
 (hbase:attributeBase o name X.env (eval o X.env)=eval o X.env:=by rfl) (hline:(apos.endLine==cpos.line)=true:=by rfl):PE X (.Call (.Attribute o name apos) [] [] cpos) (zj7 X.K T r to):=by
 intro pins s σ H Q I h
 refine wpAny_Call_method0_late hbase hline (thn (ho pins s σ H _ I h) fun v s1 ⟨x,H1,I1,r1,ty,q1⟩=> ?_)
 obtain⟨h1,h2⟩:=zai I1 r1 ty
 exact⟨T,id,pa,slot,hty,h1,h2,Calls.callWith_builtin rfl (PySem.evalArgs_none (hm pins s1 σ H1 x [] v [] Q I1 r1 .nil q1))⟩
theorem zgM(pa:PlainAttrs T)(slot:Slot T name id)(hty:typeOf (.builtin id)=pure (.type "method_descriptor"))(hm:MtR X id r)(ho:PE X o to)(ha:PA X (e::es) t)
 (hbase:attributeBase o name X.env (eval o X.env)=eval o X.env:=by rfl)
 (hfew:((backTo cpos (starEach (e::es) X.env)).all (fun x=> !x.1)&&(backToKw cpos (keywordEach [] X.env)).all (fun x=>x.1.isSome)
  &&decide ((e::es).length+([]:List Keyword).length+(if([]:List Keyword).isEmpty then 0 else 1)<30))=true:=by rfl)
 (hline:(apos.endLine==cpos.line)=true:=by rfl) (hs:starEach (e::es) X.env=(false,eval e X.env)::starEach es X.env:=by rfl) (hplain:(backTo cpos (starEach es X.env)).any (·.1)=false:=by rfl):
 PE X (.Call (.Attribute o name apos) (e::es) [] cpos) (tBM X.K T r to t):=by
 intro pins s σ H Q I h
 refine wpAny_Call_method_late hbase hfew hline rfl (thn (ho pins s σ H _ I h) fun v s1 ⟨x,H1,I1,r1,ty,q1⟩=> ?_)
 obtain⟨h1,h2⟩:=zai I1 r1 ty
 refine⟨T,id,pa,slot,hty,h1,h2, ?_⟩
 have hA:=ha cpos pins s1 σ H1 _ I1 q1
 rw[hs] at hA⊢
 refine Calls.callWith_builtin (by show(false||(backTo cpos (starEach es X.env)).any (·.1))=false;rw[hplain]<;>rfl) (Calls.evalArgs_plain ?_)
 exact thn hA fun us s2 ⟨vs,H2,I2,r2,q2⟩=>hm pins s2 σ H2 x vs v us Q I2 r1 r2 q2
end
noncomputable def MtM(X:Cx)(id:String)(r:V->List V->Hp->VK->Prop):Prop:=
 ∀(pins:List (Addr×Obj)) (s:Shared) (σ:St) (H:Hp) (x:V) (xs:List V) (v:Value) (us:List Value) (Q:VK),Inv X pins σ H s->RelV x v->w4 xs us->r x xs H Q->
  wpAny (model X.prog X.w) X.A (call (.builtin id) (v::us)) (EP X pins σ Q) X.xe s
theorem w4.one: ∀{x:V} {us:List Value},w4 [x] us->∃u,us=[u]/\RelV x u
 |_,_, .cons r .nil=>⟨_,rfl,r⟩
theorem w4.zero: ∀{us:List Value},w4 [] us->us=[]
 |_, .nil=>rfl
theorem w4.eraseIdx: ∀{xs:List V} {us:List Value} (i:Nat),w4 xs us->w4 (xs.eraseIdx i) (us.eraseIdx i)
 |_,_,_, .nil=> .nil
 |_,_,0, .cons _ t=>t
 |_,_,i+1, .cons r t=> .cons r (w4.eraseIdx i t)
theorem w4.reverse{xs:List V}{us:List Value}(h:w4 xs us):w4 xs.reverse us.reverse:=by
 induction h with
 |nil=>exact .nil
 |cons r t ih=>rw[l9,l9];exact w4.append ih (.cons r .nil)
theorem w4.rep{xs:List V}{us:List Value}(h:w4 xs us): ∀k:Nat,w4 (e6 k xs).flatten (e6 k us).flatten
 |0=> .nil
 |k+1=>by
  rw[o0,o0,A5,A5]
  exact w4.append h (w4.rep h k)
theorem z3R{α:Type}: ∀(l:List α) (i:Nat),(l.eraseIdx i).length<=l.length
 |[],_=>e8 _
 |_::_,0=>O1 _
 |_::r,i+1=>L4 (z3R r i)
theorem z1T(its:List Value): ∀(k:Nat) (acc:List Value),
 F0 (fun x1 x2=>x1++x2) acc.toArray (e6 k its.toArray)=(acc++(e6 k its).flatten).toArray
 |0,acc=>by simp
 |k+1,acc=>by
  have e:acc.toArray++its.toArray=(acc++its).toArray:=by simp
  have e2:(acc++its)++(e6 k its).flatten=acc++(e6 (k+1) its).flatten:=by
   rw[o0,A5,m9]
  rw[<-e2,<-z1T its k (acc++its),<-e,o0,D9]
section
variable{X:Cx}{pins:List (Addr×Obj)}{σ:St}{H:Hp}{s:Shared}{l b:Addr}{xs ys zs:List V}
theorem Inv.lset{its its':List Value}{n:Nat}{f:Array Value->Array Value}{t':Nat}(I:Inv X pins σ H s)(hH:H l=some (.lst xs))
 (e:s.heap.get? l=some {cls:= .type "list",data:= .seq its.toArray n}) (hf:f its.toArray=its'.toArray) (hv:w4 ys its') (hz:ys.length<=sizeLine):
 Inv X pins σ (upd H l (.lst ys)) {s with heap:=s.heap.update l (Obj.mapSeq f),toks:=t'}:=by
 have q:=PySem.IsL.update e f
 rw[hf] at q
 refine I.write (x:=l) (e:=l) (by rw[hH];exact trivial) (.inl rfl) (fun b' u hb hu=>(Heap.get?_update_other s.heap (Obj.mapSeq f) (Ne.symm hb)).trans hu) ⟨_,q⟩ ?_
 exact⟨hz,its',_,hv,q⟩
theorem Inv.lnew{its:List Value}{t':Nat}(I:Inv X pins σ H s)(hv:w4 ys its)(hz:ys.length<=sizeLine):
 Inv X pins σ (upd H s.heap.objs.size (.lst ys)) {s with heap:=s.heap.push {cls:= .type "list",data:= .seq its.toArray},toks:=t'}:=
 I.laid (fun _ _ q=>Heap.get?_push_of_some _ q) (e8 _) ⟨hz,its,0,hv,Heap.get?_push_size _ rfl⟩
theorem Inv.fresh(I:Inv X pins σ H s):H s.heap.objs.size=none:=I.hok.fresh (e8 _)
theorem Inv.lstM(I:Inv X pins σ H s)(hH:H l=some (.lst xs)):xs.length<=sizeLine/\∃(its:List Value) (n:Nat),w4 xs its/\xs.length=its.length/\s.heap.get? l=some {cls:= .type "list",data:= .seq its.toArray n}:=by
 obtain⟨z,its,n,r,e⟩:=I.hok l _ hH
 exact⟨z,its,n,r,r.length,e⟩
theorem z92{n:Nat}(h:n<=sizeLine):Builtin.List.listTooLong n=false:=by
 unfold Builtin.List.listTooLong
 exact decide_eq_false (by lia)
end
section
variable{X:Cx}
noncomputable def z7a:V->List V->Hp->VK->Prop:=fun x vs H Q=> ∃l xs y,x= .ref l/\vs=[y]/\H l=some (.lst xs)/\xs.length<sizeLine/\Q .non (upd H l (.lst (xs++[y])))
theorem z3S:MtM X "list.append" z7a:=by
 intro pins s σ H x vs v us Q I rx rv h
 obtain⟨l,xs,y,rfl,rfl,hH,hz,q⟩:=h
 cases rx
 obtain⟨u,rfl,ru⟩:=rv.one
 obtain⟨z,its,n,r,hl,e⟩:=I.lstM hH
 refine call_meets F.slot_list_append ⟨_,e,rfl⟩ F.entry_list_append (F.args_list_append_2 _ _) (PySem.list_append l its.toArray n u (by rw[i4];lia)) ⟨e, ?_⟩
 refine⟨.non,_,I.lset (its':=its++[u]) hH e (by simp) (r.append (.cons ru .nil)) ?_,rfl,q⟩
 rw[l5,List.length_singleton]
 lia
noncomputable def zaj:V->List V->Hp->VK->Prop:=fun x vs H Q=> ∃l xs i k y,x= .ref l/\vs=[.int i]/\H l=some (.lst xs)/\-(2^63)<=i/\i<2^63/\seqIndex? i xs.length=some k/\xs[k]? =some y/\Q y (upd H l (.lst (xs.eraseIdx k)))
theorem z93:MtM X "list.pop" zaj:=by
 intro pins s σ H x vs v us Q I rx rv h
 obtain⟨l,xs,i,k,y,rfl,rfl,hH,h1,h2,hk,hy,q⟩:=h
 cases rx
 obtain⟨u,rfl,ru⟩:=rv.one
 obtain⟨t,rfl⟩:=ru
 obtain⟨z,its,n,r,hl,e⟩:=I.lstM hH
 obtain⟨w,hw,rw'⟩:=r.get hy
 refine call_meets F.slot_list_pop ⟨_,e,rfl⟩ F.entry_list_pop (F.args_list_pop_2 _ _)
  (MeetsSeq.list_pop_at l its.toArray n i t k w (fitsIndex_both h1 h2) (by rw[i4,<-hl];exact hk) (by rw[<-Array.getElem?_toList];exact hw) (by rw[i4];lia)) ⟨e, ?_⟩
 refine⟨y,_,I.lset (its':=its.eraseIdx k) hH e ?_ (r.eraseIdx k) ?_,rw',q⟩
 ·show its.toArray.eraseIdxIfInBounds k=(its.eraseIdx k).toArray
  rw[List.eraseIdxIfInBounds_toArray]
 ·have:=z3R xs k
  lia
noncomputable def z5n:V->List V->Hp->VK->Prop:=fun x vs H Q=> ∃l xs,x= .ref l/\vs=[]/\H l=some (.lst xs)/\Q .non (upd H l (.lst xs.reverse))
theorem z6a:MtM X "list.reverse" z5n:=by
 intro pins s σ H x vs v us Q I rx rv h
 obtain⟨l,xs,rfl,rfl,hH,q⟩:=h
 cases rx
 have hus:=rv.zero
 subst hus
 obtain⟨z,its,n,r,hl,e⟩:=I.lstM hH
 refine call_meets F.slot_list_reverse ⟨_,e,rfl⟩ F.entry_list_reverse (F.args_list_reverse_1 _) (AutoSeq1.list_reverse_list_0 l its.toArray n (by rw[i4];lia)) ⟨e, ?_⟩
 refine⟨.non,_,I.lset (its':=its.reverse) hH e (by simp) r.reverse ?_,rfl,q⟩
 rw[E4]
 lia
noncomputable def zgN:R2:=fun x y H Q=> ∃l b xs zs,x= .ref l/\y= .ref b/\H l=some (.lst xs)/\H b=some (.lst zs)/\xs.length+zs.length<=sizeLine/\∀p,H p=none->Q (.ref p) (upd H p (.lst (xs++zs)))
theorem zdQ:OpR X (binaryOp .Add) zgN:=by
 intro pins s σ H x y v u Q I rx ry h
 obtain⟨l,b,xs,zs,rfl,rfl,hH,hB,hz,q⟩:=h
 cases rx
 cases ry
 obtain⟨z,its,n,r,hl,e⟩:=I.lstM hH
 obtain⟨z2,its2,n2,r2,hl2,e2⟩:=I.lstM hB
 refine PySem.P.add_list e e2 ?_ (by rw[i4,i4];lia)
 have ea:its.toArray++its2.toArray=(its++its2).toArray:=by simp
 rw[ea]
 exact⟨.ref _,_,I.lnew (t':=s.toks) (r.append r2) (by rw[l5];lia),rfl,q _ I.fresh⟩
noncomputable def zgO:R2:=fun x y H Q=> ∃l k xs,x= .ref l/\y= .int k/\H l=some (.lst xs)/\-(2^63)<=k/\k<2^63/\xs.length*k.toNat<=sizeLine/\
 ∀p,H p=none->Q (.ref p) (upd H p (.lst (e6 k.toNat xs).flatten))
theorem z4B{α:Type}(xs:List α)(k:Nat):(e6 k xs).flatten.length=k*xs.length:=by
 induction k with
 |zero=>simp
 |succ k ih=>rw[o0,A5,l5,ih,Nat.succ_mul,Nat.add_comm]
theorem zdR:OpR X (binaryOp .Mult) zgO:=by
 intro pins s σ H x y v u Q I rx ry h
 obtain⟨l,k,xs,rfl,rfl,hH,h1,h2,hz,q⟩:=h
 cases rx
 obtain⟨t,rfl⟩:=ry
 obtain⟨z,its,n,r,hl,e⟩:=I.lstM hH
 have hlen:its.toArray.size*k.toNat<=sizeLine:=by rw[i4,<-hl];exact hz
 have hcap: ¬its.toArray.size*k.toNat>(2^63 - 1)/8:=by
  have:(sizeLine:Nat)<=(2^63 - 1)/8:=by decide
  lia
 have hfit: ¬(!Builtin.List.listFitsIndex k)=true:=by
  rw[fitsIndex_both h1 h2]
  exact i6
 have hlong: ¬Builtin.List.listTooLong (its.toArray.size*k.toNat)=true:=by
  rw[z92 hlen]
  exact i6
 have hnew:F0 (fun x1 x2=>x1++x2) #[] (e6 (if its.toArray.isEmpty=true then 0 else k.toNat) its.toArray)=(e6 k.toNat its).flatten.toArray:=by
  have f0: ∀m:Nat,F0 (fun x1 x2=>x1++x2) #[] (e6 m its.toArray)=(e6 m its).flatten.toArray:=fun m=>by
   have:=z1T its m []
   rw[m8] at this
   exact this
  rw[f0]
  cases its with
  |nil=>simp
  |cons a r'=>rw[if_neg (by simp)]
 refine wpAny_binaryOp_repeat_ref (T:= "list") (U:= "int") (by decide) ⟨_,e,rfl⟩ (fun s'=>typeIs_int s' k t) noFill_list_mul F.fills_int_mul F.slot_int_rmul repeat_list F.slot_int_index.lookup
  (call_meets F.slot_int_rmul (typeIs_int s k t) F.entry_int_rmul (F.args_int_rmul_2 _ _) (int___rmul___int_list k t l its.toArray n)
   ⟨e,rfl,⟨_,e,rfl⟩,call_meets F.slot_list_mul ⟨_,e,rfl⟩ F.entry_list_mul (F.args_list_mul_2 _ _) (AutoListH.list___mul___list_int_3 l its.toArray n k t hfit hcap hlong) ⟨e, ?_⟩⟩)
 rw[hnew]
 exact⟨.ref _,_,I.lnew (t':=s.toks) (r.rep k.toNat) (by rw[z4B,N3];exact hz),rfl,q _ I.fresh⟩
end
section
variable{prog:Program}{w:World}{A:Around}{E:Value->Shared->Prop}{s:Shared}
set_option maxRecDepth 100000 in
end
section
variable{κ:Type}[DecidableEq κ]
noncomputable def valV(kvs:List (κ×V))(k:κ):Option V:=(kvs.find? fun kv=>decide (kv.1=k)).map (·.2)
noncomputable def z4t(kvs:List (κ×V))(k:κ)(v:V):List (κ×V):=
 if(kvs.any fun kv=>decide (kv.1=k))=true then kvs.map (fun kv=>if kv.1=k then(kv.1,v) else kv) else kvs++[(k,v)]
theorem z0F{p:κ×V}{r:List (κ×V)}{k:κ}(e:p.1=k):valV (p::r) k=some p.2:=by simp[valV,List.find?_cons,e]
theorem z0g{p:κ×V}{r:List (κ×V)}{k:κ}(e: ¬p.1=k):valV (p::r) k=valV r k:=by simp[valV,List.find?_cons,e]
theorem z5o(k:κ): ∀kvs:List (κ×V),(kvs.any fun kv=>decide (kv.1=k))=(valV kvs k).isSome
 |[]=>rfl
 |p::r=>by
  rw[F6]
  by_cases e:p.1=k
  ·erw[z0F e,decide_eq_true e,P1,Option.isSome_some]
  ·rw[z0g e,decide_eq_false e,O9];exact z5o k r
theorem z1U(kvs:List (κ×V))(k:κ)(v:V):(z4t kvs k v).length<=kvs.length+1:=by
 unfold z4t
 split
 ·rw[i9];lia
 ·rw[l5,i5,r8];lia
theorem RelO.isSome_eq{o:Option V}{u:Option Value}(r:RelO o u):o.isSome=u.isSome:=by
 cases o with
 |none=>cases u with
  |none=>rfl
  |some _=>exact(show False from r).elim
 |some _=>cases u with
  |none=>exact(show False from r).elim
  |some _=>rfl
theorem RelO.getD{o:Option V}{u:Option Value}{d:V}{d':Value}(r:RelO o u)(rd:RelV d d'):RelV (o.getD d) (u.getD d'):=by
 cases o with
 |none=>cases u with
  |none=>exact rd
  |some _=>exact(show False from r).elim
 |some _=>cases u with
  |none=>exact(show False from r).elim
  |some _=>exact r
theorem KV.val{kvs:List (κ×V)}{vs:List (κ×Value)}(r:KV kvs vs)(k:κ):RelO (valV kvs k) (valueAt vs k):=by
 unfold KV at r
 induction r with
 |nil=>exact True.intro
 | @cons p q ps qs h t ih=>
  obtain⟨h1,h2⟩:=h
  by_cases e:p.1=k
  ·have e':q.1=k:=h1.symm.trans e
   have b:valueAt (q::qs) k=some q.2:=by simp[valueAt,List.find?_cons,e']
   rw[z0F e,b];exact h2
  ·have e': ¬q.1=k:=fun z=>e (h1.trans z)
   have b:valueAt (q::qs) k=valueAt qs k:=by simp[valueAt,List.find?_cons,e']
   rw[z0g e,b];exact ih
theorem KV.any{kvs:List (κ×V)}{vs:List (κ×Value)}(r:KV kvs vs)(k:κ):(kvs.any fun kv=>decide (kv.1=k))=vs.any fun kv=>decide (kv.1=k):=by
 unfold KV at r
 induction r with
 |nil=>rfl
 |cons h t ih=>rw[F6,F6,ih,h.1]
theorem KV.repl{kvs:List (κ×V)}{vs:List (κ×Value)}(r:KV kvs vs)(k:κ){y:V}{u:Value}(ry:RelV y u):
 KV (kvs.map fun kv=>if kv.1=k then(kv.1,y) else kv) (vs.map fun kv=>if kv.1=k then(kv.1,u) else kv):=by
 unfold KV at r⊢
 induction r with
 |nil=>exact .nil
 | @cons p q ps qs h t ih=>
  rw[b9,b9]
  refine .cons ?_ ih
  obtain⟨h1,h2⟩:=h
  by_cases e:p.1=k
  ·rw[if_pos e,if_pos (h1.symm.trans e)];exact⟨h1,ry⟩
  ·rw[if_neg e,if_neg (fun z=>e (h1.trans z))];exact⟨h1,h2⟩
theorem KV.put{kvs:List (κ×V)}{vs:List (κ×Value)}(r:KV kvs vs)(k:κ){y:V}{u:Value}(ry:RelV y u):KV (z4t kvs k y) (stored vs k u):=by
 unfold z4t stored
 rw[r.any k]
 by_cases e:(vs.any fun kv=>decide (kv.1=k))=true
 ·rw[if_pos e,if_pos e];exact r.repl k ry
 ·rw[if_neg e,if_neg e];exact Paired.snoc r ⟨rfl,ry⟩
theorem KV.length{kvs:List (κ×V)}{vs:List (κ×Value)}(r:KV kvs vs):kvs.length=vs.length:=Paired.length r
end
theorem z3T{P:Program}{w:World}{k:Key}{u:Value}(r:RelV (kV k) u):(Y4 P w).is k u=true:=by
 cases k with
 |inl i=>obtain⟨t,e⟩:=(show ∃t,u=Value.int i t from r);subst e;exact z4w P w i t
 |inr x=>obtain⟨t,e⟩:=(show ∃t,u=Value.str x t from r);subst e;exact z4x P w x t
theorem z3U{P:Program}{w:World}: ∀{ks:List Key} {us:List Value},w4 (ks.map kV) us->ItemsAre (Y4 P w) ks us
 |[],_,r=>by rw[l3] at r;cases r;exact .nil
 |k::ks,_,r=>by
  rw[b9] at r
  cases r with
  |cons h t=>exact .cons (z3T h) (z3U t)
noncomputable abbrev KT(H:Hp):List (NK×V)->List (NK×Addr×Value)->Prop:=Paired fun p q=>p.1=q.1/\TK H p.1 q.2.1/\RelV p.2 q.2.2
theorem KT.val{H:Hp}{kvs:List (NK×V)}{xs:List (NK×Addr×Value)}(r:KT H kvs xs)(k:NK):RelO (valV kvs k) ((atKey xs k).map (·.2)):=by
 induction r with
 |nil=>exact True.intro
 | @cons p q ps qs h t ih=>
  obtain⟨h1,_,h2⟩:=h
  by_cases e:p.1=k
  ·have e':q.1=k:=h1.symm.trans e
   have b:atKey (q::qs) k=some q.2:=by simp[atKey,List.find?_cons,e']
   rw[z0F e,b];exact h2
  ·have e': ¬q.1=k:=fun z=>e (h1.trans z)
   have b:atKey (q::qs) k=atKey qs k:=by simp[atKey,List.find?_cons,e']
   rw[z0g e,b];exact ih
theorem KT.repl{H:Hp}{kvs:List (NK×V)}{xs:List (NK×Addr×Value)}(r:KT H kvs xs)(k:NK){y:V}{u:Value}(ry:RelV y u):
 KT H (kvs.map fun kv=>if kv.1=k then(kv.1,y) else kv) (xs.map (putAt k u)):=by
 induction r with
 |nil=>exact .nil
 | @cons p q ps qs h t ih=>
  rw[b9,b9]
  refine .cons ?_ ih
  obtain⟨h1,h2,h3⟩:=h
  unfold putAt
  by_cases e:p.1=k
  ·rw[if_pos e,if_pos (h1.symm.trans e)];exact⟨h1,h2,ry⟩
  ·rw[if_neg e,if_neg (fun z=>e (h1.trans z))];exact⟨h1,h2,h3⟩
theorem KT.put{H:Hp}{kvs:List (NK×V)}{xs:List (NK×Addr×Value)}(r:KT H kvs xs)(k:NK){b:Addr}{y:V}{u:Value}(hb:TK H k b)(ry:RelV y u):
 KT H (z4t kvs k y) (storedH xs k b u):=by
 have e:(kvs.any fun kv=>decide (kv.1=k))=(atKey xs k).isSome:=by
  rw[z5o,(r.val k).isSome_eq,D1]
 unfold z4t storedH
 rw[e]
 by_cases q:(atKey xs k).isSome=true
 ·rw[if_pos q,if_pos q];exact r.repl k ry
 ·rw[if_neg q,if_neg q];exact Paired.snoc r ⟨rfl,hb,ry⟩
theorem KT.keeps{H H':Hp}{kvs:List (NK×V)}{xs:List (NK×Addr×Value)}(r:KT H kvs xs)(ht: ∀b ys,H b=some (.tup ys)->H' b=some (.tup ys)):KT H' kvs xs:=
 Paired.mapP r fun _ _ z=>⟨z.1,z.2.1.stay ht,z.2.2⟩
section
variable{P:Program}{w:World}{H:Hp}{h:Heap}{a:Addr}
theorem zdS{u:HO}(ok:HOk P w H h)(e:Rd H a u):g0 P w H h a u:=e.ok ok
theorem z3V{kvs:List (Key×V)}(ok:HOk P w H h)(e:Rd H a (.dK kvs)):kvs.length<=sizeLine/\(a==sysModules)=false/\∃vs,KV kvs vs/\h.DictOf (Y4 P w) a vs:=
 show g0 P w H h a (.dK kvs) from zdS ok e
theorem zgP{kvs:List (Key×V)}(ok:HOk P w H h)(e:H a=some (.dK kvs)):kvs.length<=sizeLine/\(a==sysModules)=false/\∃vs,KV kvs vs/\h.DictOf (Y4 P w) a vs:=z3V ok (.inl e)
theorem zby{ks:List Key}(ok:HOk P w H h)(e:H a=some (.tup (ks.map kV))):IsTupleKey (Y4 P w) h ks a:=by
 obtain⟨_,its,r,o,h1,h2,n,h3⟩:=(show g0 P w H h a (.tup (ks.map kV)) from ok a _ e)
 exact⟨o,its.toArray,n,h1,h2,h3,by simpa using z3U r⟩
theorem z4C(ok:HOk P w H h): ∀{k:NK} {xs:List V} {us:List Value},Paired (TKi H) k xs->w4 xs us->Paired (ItN P w h) k us
 |_,_,_, .nil, .nil=> .nil
 | .inl k::_,_,_, .cons a b, .cons c d=>by
  have e:=(show _=kV k from a)
  subst e
  exact .cons (z3T c) (z4C ok b d)
 | .inr ks::_,_,_, .cons a b, .cons c d=>by
  obtain⟨x,rfl,hx⟩:=a
  cases c
  exact .cons ⟨x,rfl,zby ok hx⟩ (z4C ok b d)
theorem z1V{k:NK}(ok:HOk P w H h)(e:TK H k a):(U6 P w).is h k a:=by
 obtain⟨xs,e,p⟩:=e
 obtain⟨_,its,r,o,h1,h2,n,h3⟩:=(show g0 P w H h a (.tup xs) from ok a _ e)
 exact⟨o,its.toArray,n,h1,h2,h3,by simpa using z4C ok p r⟩
theorem z3W{kvs:List (NK×V)}(ok:HOk P w H h)(e:Rd H a (.dT kvs)):kvs.length<=sizeLine/\(a==sysModules)=false/\
 ∃xs,KT H kvs xs/\h.DictOfH (U6 P w) a xs:=by
 obtain⟨z,y,xs,r,o,es,ep,h1,h2,h3,h4,h5⟩:=(show g0 P w H h a (.dT kvs) from zdS ok e)
 refine⟨z,y,xs,r,o,es,ep,h1,h2,h3,h4,fun x hx=> ?_,h5⟩
 have all: ∀{l:List (NK×V)} {m:List (NK×Addr×Value)},KT H l m->∀x∈m,(U6 P w).is h x.1 x.2.1:=by
  intro l m q
  induction q with
  |nil=>intro x hx;exact nomatch hx
  | @cons p q ps qs hq t ih=>
   intro x hx
   rcases e7.mp hx with e|hx
   ·subst e
    exact z1V ok (by rw[<-hq.1];exact hq.2.1)
   ·exact ih x hx
 exact all r x hx
theorem zgQ{kvs:List (NK×V)}(ok:HOk P w H h)(e:H a=some (.dT kvs)):kvs.length<=sizeLine/\(a==sysModules)=false/\
 ∃xs,KT H kvs xs/\h.DictOfH (U6 P w) a xs:=z3W ok (.inl e)
end
noncomputable def DGet(H:Hp)(a:Addr)(y:V)(r:Option V):Prop:=
 (∃kvs k,Rd H a (.dK kvs)/\y=kV k/\r=valV kvs k)\/∃kvs k b,Rd H a (.dT kvs)/\y= .ref b/\TK H k b/\r=valV kvs k
noncomputable def zcY(H:Hp)(a:Addr)(y v:V)(H':Hp):Prop:=
 (∃kvs k,H a=some (.dK kvs)/\y=kV k/\kvs.length<sizeLine/\H'=upd H a (.dK (z4t kvs k v)))\/
 ∃kvs k b,H a=some (.dT kvs)/\y= .ref b/\TK H k b/\kvs.length<sizeLine/\H'=upd H a (.dT (z4t kvs k v))
theorem zcY.t{H:Hp}{a b:Addr}{kvs:List (NK×V)}{k:NK}{v:V}(e:H a=some (.dT kvs))(eb:TK H k b)(hl:kvs.length<sizeLine):
 zcY H a (.ref b) v (upd H a (.dT (z4t kvs k v))):= .inr ⟨kvs,k,b,e,rfl,eb,hl,rfl⟩
section
variable{X:Cx}{pins:List (Addr×Obj)}{σ:St}{H:Hp}{s:Shared}{a:Addr}{y v:V}{u r:Value}{o:Option V}{A:Around}{E:Value->Shared->Prop}
theorem Inv.big(I:Inv X pins σ H s):sysModules<s.heap.objs.size:=by
 have h:mainGlobals<s.heap.objs.size:=(I.mod.glob.keeps I.bk).lt
 exact P2 (by decide) h
theorem z7b{Q:Value->Shared->Prop}(hu:A.units+2<cLine)(I:Inv X pins σ H s)(g:DGet H a y (some v))(ry:RelV y u)(h: ∀w' s',Inv X pins σ H s'->RelV v w'->Q w' s'):
 wpAny (model X.prog X.w) A (getItem (.ref a) u) Q E s:=by
 rcases g with⟨kvs,k,e,ey,l⟩|⟨kvs,k,b,e,ey,eb,l⟩
 ·subst ey
  obtain⟨z,hd,vs,rel,dd⟩:=z3V I.hok e
  obtain⟨w',hw,rw'⟩:=RelO.some_of (v:=v) (o:=valueAt vs k) (by rw[l];exact rel.val k)
  exact wpAny_getItem_of (z3T ry) dd.mapOf hw (h w' _ (I.tok _) rw')
 ·subst ey
  cases(show u=Value.ref b from ry)
  obtain⟨z,hd,xs,rel,dd⟩:=z3W I.hok e
  obtain⟨w',hw,rw'⟩:=RelO.some_of (v:=v) (o:=(atKey xs k).map (·.2)) (by rw[l];exact rel.val k)
  obtain⟨p,hp,hp2⟩:=Option.map_eq_some_iff.mp hw
  refine wpAny_getItem_heap (V3 hu) (z1V I.hok eb) dd hp ?_
  rw[hp2]
  exact h w' _ (I.tok _) rw'
theorem zj8{Q:Value->Shared->Prop}(hu:A.units+2<cLine)(I:Inv X pins σ H s)(g:DGet H a y o)(ry:RelV y u)(h: ∀s',Inv X pins σ H s'->Q (.bool o.isSome) s'):
 wpAny (model X.prog X.w) A (compareOp .In u (.ref a)) Q E s:=by
 rcases g with⟨kvs,k,e,ey,l⟩|⟨kvs,k,b,e,ey,eb,l⟩
 ·subst ey
  obtain⟨z,hd,vs,rel,dd⟩:=z3V I.hok e
  refine wpAny_in_of (z3T ry) hd dd.mapOf ?_
  rw[<-(rel.val k).isSome_eq,<-l]
  exact h _ (I.tok _)
 ·subst ey
  cases(show u=Value.ref b from ry)
  obtain⟨z,hd,xs,rel,dd⟩:=z3W I.hok e
  refine wpAny_in_heap (V3 hu) (z1V I.hok eb) hd dd ?_
  have q:=(rel.val k).isSome_eq
  rw[D1] at q
  rw[<-q,<-l]
  exact h _ (I.tok _)
theorem zbz{Q:Value->Shared->Prop}(hu:A.units+2<cLine)(I:Inv X pins σ H s)(g:DGet H a y o)(ry:RelV y u)(h: ∀s',Inv X pins σ H s'->Q (.bool (!o.isSome)) s'):
 wpAny (model X.prog X.w) A (compareOp .NotIn u (.ref a)) Q E s:=by
 rcases g with⟨kvs,k,e,ey,l⟩|⟨kvs,k,b,e,ey,eb,l⟩
 ·subst ey
  obtain⟨z,hd,vs,rel,dd⟩:=z3V I.hok e
  refine wpAny_notIn_of (z3T ry) hd dd.mapOf ?_
  rw[<-(rel.val k).isSome_eq,<-l]
  exact h _ (I.tok _)
 ·subst ey
  cases(show u=Value.ref b from ry)
  obtain⟨z,hd,xs,rel,dd⟩:=z3W I.hok e
  refine wpAny_notIn_heap (V3 hu) (z1V I.hok eb) hd dd ?_
  have q:=(rel.val k).isSome_eq
  rw[D1] at q
  rw[<-q,<-l]
  exact h _ (I.tok _)
theorem z7c{h':Heap}{t':Nat}{ob:HO}(I:Inv X pins σ H s)(mu:Mut (H a))(hs:Heap.SameBut a s.heap h')(he: ∃q,h'.get? a=some q)(new:g0 X.prog X.w (upd H a ob) h' a ob):
 Inv X pins σ (upd H a ob) {s with heap:=h',toks:=t'}:=
 I.write (x:=a) (e:=a) mu (.inl rfl) (fun b q hb z=>(hs.2 b hb).trans z) he new
theorem zdT{P:Program}{w:World}{H':Hp}{h':Heap}{kvs:List (Key×V)}{vs:List (Key×Value)}(z:kvs.length<=sizeLine)(hd:(a==sysModules)=false)(rel:KV kvs vs)(dd:h'.DictOf (Y4 P w) a vs):
 g0 P w H' h' a (.dK kvs):=⟨z,hd,vs,rel,dd⟩
theorem z7d{H':Hp}{Q:Unit->Shared->Prop}(hu:A.units+2<cLine)(I:Inv X pins σ H s)(g:zcY H a y v H')(ry:RelV y u)(rv:RelV v r)(h: ∀s',Inv X pins σ H' s'->Q () s'):
 wpAny (model X.prog X.w) A (setItem (.ref a) u r) Q E s:=by
 rcases g with⟨kvs,k,e,ey,l,eH⟩|⟨kvs,k,b,e,ey,eb,l,eH⟩
 ·subst ey eH
  obtain⟨z,hd,vs,rel,dd⟩:=zgP I.hok e
  have hz:vs.length<=sizeLine:=by rw[<-rel.length];exact z
  have hl:(z4t kvs k v).length<=sizeLine:=by have:=z1U kvs k v;lia
  refine wpAny_setItem_pairs (hsz:=hz) (z3T ry) dd fun h' dd' hs=>h _ ?_
  have he: ∃q,h'.get? a=some q:=let⟨q,_,_,hq,_⟩:=dd';⟨q,hq⟩
  exact z7c I (by rw[e];exact True.intro) hs he (zdT hl hd (rel.put k rv) dd')
 ·subst ey eH
  cases(show u=Value.ref b from ry)
  obtain⟨z,hd,xs,rel,dd⟩:=zgQ I.hok e
  have hz:xs.length<=sizeLine:=by rw[<-Paired.length rel];exact z
  have hl:(z4t kvs k v).length<=sizeLine:=by have:=z1U kvs k v;lia
  refine wpAny_setItem_heap (hsz:=hz) (V3 hu) (z1V I.hok eb) dd fun h' dd' hs=>h _ ?_
  obtain⟨q,es,ep,hq,h2,h3,h4,_,h5⟩:=dd'
  refine z7c I (by rw[e];exact True.intro) hs ⟨q,hq⟩ ⟨hl,hd,_,(rel.put k eb rv).keeps fun c ys ec=> ?_,q,es,ep,hq,h2,h3,h4,h5⟩
  rw[y6 (z1e ec e (fun z=>nomatch z))]
  exact ec
end
noncomputable def ziK(i:Expr):Prop:= ∀ov iv,subscripted i false ov iv=operate [ov,iv] (getItem ov iv)
theorem zbA{prog:Program}{w:World}{A:Around}{E:Value->Shared->Prop}{s:Shared}{env:Env}{value slice:Expr}{pos:Pos}{T id:String}{Q:Value->Shared->Prop}
 (hl:typeLookup (.type T) "__getitem__" =pure (some (.builtin id))) (hs:ziK slice)
 (h:wpAny (model prog w) A (eval value env) (fun o s₁=>wpAny (model prog w) A (eval slice env) (fun i s₂=>s₂.TypeIs o T/\wpAny (model prog w) A (getItem o i) Q E s₂) E s₁) E s):
 wpAny (model prog w) A (eval (.Subscript value slice pos) env) Q E s:=by
 refine Subscript_ (wpAny_mono h (fun o s₁ h₁=>wpAny_mono h₁ (fun i s₂ h₂=> ?_) fun _ _ x=>x) fun _ _ x=>x)
 obtain⟨hT,h₂⟩:=h₂
 unfold subscriptTail
 refine wpAny_bind ?_
 rw[getitemInPython_of_ne hT.not_modules]
 refine wpAny_bind (wpAny_specialOf hT hl ?_)
 have fin:wpAny (model prog w) A (subscripted slice false o i) (fun r s₃=>wpAny (model prog w) A (letTemporaryGo value o r>>=fun _=>pure r) Q E s₃) E s₂:=by
  rw[hs o i]
  exact wpAny_operating (wpAny_mono h₂ (fun r s₃ h₃=>wpAny_bind (wpAny_letTemporaryGo (wpAny_pure h₃))) fun _ _ x=>x)
 first
  |exact wpAny_pure (wpAny_bind fin)
  |exact wpAny_bind (wpAny_pure (wpAny_bind fin))
  |exact wpAny_bind fin
theorem z4D{X:Cx}{pins:List (Addr×Obj)}{σ:St}{H:Hp}{s:Shared}{a:Addr}{y:V}{o:Option V}(I:Inv X pins σ H s)(g:DGet H a y o):s.TypeIs (.ref a) "dict" :=by
 rcases g with⟨kvs,k,e,_,_⟩|⟨kvs,k,b,e,_,_,_⟩
 ·obtain⟨_,_,vs,_,dd⟩:=z3V I.hok e
  exact dd.typeIs
 ·obtain⟨_,_,xs,_,dd⟩:=z3W I.hok e
  exact dd.typeIs
noncomputable def zdU(td ty:TE):TE:=fun σ H Q=>td σ H fun x H1=>ty σ H1 fun y H2=> ∃a v,x= .ref a/\DGet H2 a y (some v)/\Q v H2
noncomputable def zgR(td ty tv:TE):TS:=fun D σ H=>tv σ H fun v H1=>td σ H1 fun x H2=>ty σ H2 fun y H3=> ∃a H4,x= .ref a/\zcY H3 a y v H4/\D.nx σ H4
section
variable{X:Cx}{o i e value:Expr}{pos pos' tpos:Pos}{td ty tv:TE}
theorem zbB(hu:X.A.units+2<cLine)(ho:PE X o td)(hi:PE X i ty)(hs:ziK i):PE X (.Subscript o i pos) (zdU td ty):=by
 intro pins s σ H Q I h
 refine zbA PySem.F.slot_dict_getitem.lookup hs (thn (ho pins s σ H _ I h) fun u s1 ⟨x,H1,I1,rx,q1⟩=>thn (hi pins s1 σ H1 _ I1 q1) fun iv s2 ⟨y,H2,I2,ry,a,v,ex,g,q2⟩=> ?_)
 subst ex
 obtain rfl:u=Value.ref a:=rx
 exact⟨z4D I2 g,z7b hu I2 g ry fun w' s3 I3 rw'=>⟨v,H2,I3,rw',q2⟩⟩
theorem zbC(hu:X.A.units+2<cLine)(ho:PE X o td)(hi:PE X i ty)(hv:PE X value tv)(hs:swapsWith value (some (.Subscript o i pos')) pos.line X.env=pure false):
 PS X (.Assign [.Subscript o i pos'] value pos) (zgR td ty tv):=by
 intro pins s σ H D I h
 refine wpAny_Assign_Subscript (thn (hv pins s σ H _ I h) fun r s1 ⟨v,H1,I1,rv,q1⟩=>thn (ho pins s1 σ H1 _ I1 q1) fun u s2 ⟨x,H2,I2,rx,q2⟩=>thn (hi pins s2 σ H2 _ I2 q2) fun iv s3 ⟨y,H3,I3,ry,a,H4,ex,g,q3⟩=> ?_) hs
 subst ex
 obtain rfl:u=Value.ref a:=rx
 exact z7d hu I3 g ry rv fun s4 I4=>⟨σ,H4,I4,q3⟩
end
theorem z94{P:Program}{w:World}{H:Hp}(h:Heap)(hb:sysModules<h.objs.size):g0 P w H (h.push {cls:= .type "dict",data:= .dict #[]}) h.objs.size (.dT []):=
 ⟨B9 _,beq_eq_false_iff_ne.mpr (Ne.symm (l0 hb)),[], .nil,_, #[],0,Heap.get?_push_size _ rfl,⟨rfl,rfl,rfl⟩,rfl,rfl,O7⟩
noncomputable def zdV:TE:=fun _ H Q=> ∀p,H p=none->Q (.ref p) (upd H p (.dT []))
section
variable{X:Cx}{pos:Pos}
theorem z95:PE X (.Dict [] [] pos) zdV:=fun pins s σ H Q I h=>
 wpAny_Dict_empty ⟨.ref s.heap.objs.size,_,I.laid (a:=s.heap.objs.size) (o:= .dT []) (t':=s.toks) (fun _ _ q=>Heap.get?_push_of_some _ q) (e8 _) (z94 s.heap I.big),rfl,h _ (I.hok.fresh (e8 _))⟩
end
structure M1(X:Cx)(o:Expr)(m:Str)(apos:Pos)(e:Expr)(cpos:Pos):Prop where
 base:attributeBase o m X.env (eval o X.env)=eval o X.env
 few:((backTo cpos (starEach [e] X.env)).all (fun x=> !x.1)&&(backToKw cpos (keywordEach [] X.env)).all (fun x=>x.1.isSome)
  &&decide (([e]:List Expr).length+([]:List Keyword).length+(if([]:List Keyword).isEmpty then 0 else 1)<30))=true
 line:(apos.endLine==cpos.line)=true
 trees:backTo cpos (starEach [e] X.env)=[(false,eval e X.env)]
structure M2(X:Cx)(o:Expr)(m:Str)(apos:Pos)(e f:Expr)(cpos:Pos):Prop where
 base:attributeBase o m X.env (eval o X.env)=eval o X.env
 few:((backTo cpos (starEach [e,f] X.env)).all (fun x=> !x.1)&&(backToKw cpos (keywordEach [] X.env)).all (fun x=>x.1.isSome)
  &&decide (([e,f]:List Expr).length+([]:List Keyword).length+(if([]:List Keyword).isEmpty then 0 else 1)<30))=true
 line:(apos.endLine==cpos.line)=true
 trees:backTo cpos (starEach [e,f] X.env)=[(false,eval e X.env),(false,eval f X.env)]
noncomputable def IsD(H:Hp)(a:Addr):Prop:=(∃kvs,Rd H a (.dK kvs))\/∃kvs,Rd H a (.dT kvs)
theorem z7e{X:Cx}{pins:List (Addr×Obj)}{σ:St}{H:Hp}{s:Shared}{a:Addr}(I:Inv X pins σ H s)(d:IsD H a):
 s.TypeIs (.ref a) "dict" /\(∀b,Value.ref a= .ref b->∃ob,s.heap.get? b=some ob/\ob.dict=none)/\(a==sysModules)=false:=by
 rcases d with⟨kvs,e⟩|⟨kvs,e⟩
 ·obtain⟨_,hd,vs,_,dd⟩:=z3V I.hok e
  refine⟨dd.typeIs,fun b q=> ?_,hd⟩
  cases q
  obtain⟨ob,_,_,h1,h2,_⟩:=dd
  exact⟨ob,h1,h2.2.1⟩
 ·obtain⟨_,hd,xs,_,dd⟩:=z3W I.hok e
  refine⟨dd.typeIs,fun b q=> ?_,hd⟩
  cases q
  obtain⟨ob,_,_,h1,h2,_⟩:=dd
  exact⟨ob,h1,h2.2.1⟩
section
variable{X:Cx}{pins:List (Addr×Obj)}{σ:St}{H:Hp}{s:Shared}{a:Addr}{y d:V}{u r:Value}{o:Option V}{A:Around}{E:Value->Shared->Prop}
theorem zdW{Q:Value->Shared->Prop}(hu:A.units+2<cLine)(I:Inv X pins σ H s)(g:DGet H a y o)(ry:RelV y u)(h: ∀w' s',Inv X pins σ H s'->RelV (o.getD .non) w'->Q w' s'):
 wpAny (model X.prog X.w) A (call (.builtin "dict.get") [.ref a,u]) Q E s:=by
 rcases g with⟨kvs,k,e,ey,l⟩|⟨kvs,k,b,e,ey,eb,l⟩
 ·subst ey
  obtain⟨z,hd,vs,rel,dd⟩:=z3V I.hok e
  refine call_meetsIn PySem.F.slot_dict_get dd.typeIs PySem.F.entry_dict_get (PySem.F.args_dict_get_2 _ _) (meets_dict_get (Y4 X.prog X.w) a (z3T ry) hd) ⟨_,dd.mapOf,h _ _ (I.tok _) ?_⟩
  rw[l]
  exact(rel.val k).getD rfl
 ·subst ey
  cases(show u=Value.ref b from ry)
  obtain⟨z,hd,xs,rel,dd⟩:=z3W I.hok e
  refine call_meetsIn PySem.F.slot_dict_get dd.typeIs PySem.F.entry_dict_get (PySem.F.args_dict_get_2 _ _) (meetsH_dict_get (U6 X.prog X.w) a b hd) ⟨V3 hu,k,xs,z1V I.hok eb,dd,h _ _ (I.tok _) ?_⟩
  rw[l]
  exact(rel.val k).getD rfl
theorem zdX{Q:Value->Shared->Prop}(hu:A.units+2<cLine)(I:Inv X pins σ H s)(g:DGet H a y o)(ry:RelV y u)(rd:RelV d r)(h: ∀w' s',Inv X pins σ H s'->RelV (o.getD d) w'->Q w' s'):
 wpAny (model X.prog X.w) A (call (.builtin "dict.get") [.ref a,u,r]) Q E s:=by
 rcases g with⟨kvs,k,e,ey,l⟩|⟨kvs,k,b,e,ey,eb,l⟩
 ·subst ey
  obtain⟨z,hd,vs,rel,dd⟩:=z3V I.hok e
  refine call_meetsIn PySem.F.slot_dict_get dd.typeIs PySem.F.entry_dict_get (PySem.F.args_dict_get_3 _ _ _) (meets_dict_get_default (Y4 X.prog X.w) a (z3T ry) hd r) ⟨_,dd.mapOf,h _ _ (I.tok _) ?_⟩
  rw[l]
  exact(rel.val k).getD rd
 ·subst ey
  cases(show u=Value.ref b from ry)
  obtain⟨z,hd,xs,rel,dd⟩:=z3W I.hok e
  refine call_meetsIn PySem.F.slot_dict_get dd.typeIs PySem.F.entry_dict_get (PySem.F.args_dict_get_3 _ _ _) (meetsH_dict_get_default (U6 X.prog X.w) a b hd r) ⟨V3 hu,k,xs,z1V I.hok eb,dd,h _ _ (I.tok _) ?_⟩
  rw[l]
  exact(rel.val k).getD rd
end
noncomputable def zak(td ty:TE):TE:=fun σ H Q=>td σ H fun x H1=> ∃a,x= .ref a/\IsD H1 a/\ty σ H1 fun y H2=> ∃o,DGet H2 a y o/\Q (o.getD .non) H2
noncomputable def zal(td ty tx:TE):TE:=fun σ H Q=>td σ H fun x H1=> ∃a,x= .ref a/\IsD H1 a/\ty σ H1 fun y H2=>tx σ H2 fun z H3=> ∃o,DGet H3 a y o/\Q (o.getD z) H3
section
variable{X:Cx}{o e f:Expr}{apos cpos:Pos}{td ty tx:TE}
theorem z96(hu:X.A.units+2<cLine)(ho:PE X o td)(he:PE X e ty)(m:M1 X o "get" apos e cpos):PE X (.Call (.Attribute o "get" apos) [e] [] cpos) (zak td ty):=by
 intro pins s σ H Q I h
 refine wpAny_Call_method m.base m.few m.line PySem.F.plainAttrs_dict PySem.F.slot_dict_get PySem.F.type_dict_get (thn (ho pins s σ H _ I h) fun u s1 ⟨x,H1,I1,rx,a,ex,d,q1⟩=> ?_)
 subst ex
 obtain rfl:u=Value.ref a:=rx
 obtain⟨t1,t2,_⟩:=z7e I1 d
 refine⟨t1,t2, ?_⟩
 rw[m.trees]
 refine Calls.callWith_builtin rfl (Calls.evalArgs_plain (Calls.spliced_cons (thn (he pins s1 σ H1 _ I1 q1) fun iv s2 ⟨y,H2,I2,ry,ov,g,q2⟩=>Calls.spliced_nil ?_)))
 exact zdW hu I2 g ry fun w' s3 I3 rw'=>⟨_,H2,I3,rw',q2⟩
theorem z97(hu:X.A.units+2<cLine)(ho:PE X o td)(he:PE X e ty)(hf:PE X f tx)(m:M2 X o "get" apos e f cpos):PE X (.Call (.Attribute o "get" apos) [e,f] [] cpos) (zal td ty tx):=by
 intro pins s σ H Q I h
 refine wpAny_Call_method m.base m.few m.line PySem.F.plainAttrs_dict PySem.F.slot_dict_get PySem.F.type_dict_get (thn (ho pins s σ H _ I h) fun u s1 ⟨x,H1,I1,rx,a,ex,d,q1⟩=> ?_)
 subst ex
 obtain rfl:u=Value.ref a:=rx
 obtain⟨t1,t2,_⟩:=z7e I1 d
 refine⟨t1,t2, ?_⟩
 rw[m.trees]
 refine Calls.callWith_builtin rfl (Calls.evalArgs_plain (Calls.spliced_cons (thn (he pins s1 σ H1 _ I1 q1) fun iv s2 ⟨y,H2,I2,ry,q2⟩=>
  Calls.spliced_cons (thn (hf pins s2 σ H2 _ I2 q2) fun fv s3 ⟨z,H3,I3,rz,ov,g,q3⟩=>Calls.spliced_nil ?_))))
 exact zdX hu I3 g ry rz fun w' s4 I4 rw'=>⟨_,H3,I4,rw',q3⟩
end
end L2
namespace Att
open PySem PySem.W PySem.Calls PyProof.Rows
theorem z1W{P:Params}{h:Heap}: ∀(ns:List Int) (vs:List Value),WellAll P h vs (ns.map WData.int)->IntsAre vs ns:=by
 intro ns
 induction ns with
 |nil=>
  intro vs w
  rw[l3] at w
  cases w
  exact .nil
 |cons n ns ih=>
  intro vs w
  rw[b9] at w
  cases w with
  |cons a b=>
   cases a
   exact .cons _ _ (ih _ b)
theorem z7f{l:OpenLaw}{n:Nat}(hn:l.most=some n){P:Params}{h:Heap}{args:List WData}{vals:List Value}
 (hpre:l.row.toRowW.claim.pre args=true) (hwl:WellAll P h vals args):
 ∃a vs ns,vals=[Value.ref a]/\args=[WData.list (ns.map WData.int)]/\h.get? a=some {cls:= .type "list",data:= .seq vs.toArray}/\IntsAre vs ns/\ns.length<=n:=by
 have hsh:WShape.hasAll [] args [.list .int]=true:=(pre_splitW hpre).1
 have hc:l.pre.holds [] {args:=args}=true:=(pre_splitW hpre).2
 obtain⟨d,r,rfl,h1,h2⟩:=hasAllW_cons hsh
 obtain rfl:=hasAllW_nil h2
 obtain⟨xs,rfl,h3⟩:=hasW_list h1
 obtain⟨ns,rfl⟩:=items_int h3
 have hlen:ns.length<=n:=by
  unfold OpenLaw.pre at hc
  have h4:(WTm.not (.lt (.lit (.int (n:Int))) (.len (.arg 0)))).holds [] {args:=[.list (ns.map .int)]}=true:=by
   have h4:=(holds_andW hc).1
   rw[hn] at h4
   exact h4
  have h5:=condW_of h4 (w_not (w_lt w_lit (w_len_list (w_arg rfl))))
  rw[i9] at h5
  refine N7 fun q=> ?_
  have q':(n:Int)<((ns.length:Nat):Int):=by lia
  first
   |(rw[decide_eq_true q'] at h5;exact absurd h5 (by decide))
   |(simp at h5;lia)
 cases hwl with
 |cons w1 w2=>
  cases w2
  cases w1 with
  |list ho hall=>exact⟨_,_,ns,rfl,rfl,ho,z1W ns _ hall,hlen⟩
theorem z7g(l:OpenLaw)(args:List WData):l.row.toRowW.claim.post args (.bool true) args=true:=
 postW_of (r:=l.row.toRowW) (X:=(true==true))
  (show WShape.has [] (.bool true) .bool=true by first|rfl|decide|simp[WShape.has,WShape.arms,WShape.armsAll])
  (show(WTm.eq .res (.lit (.bool true))).value [] {args:=args,res:=some (.bool true),after:=args}=some (.bool (true==true)) from w_eq_bool (w_res rfl) w_lit) rfl
theorem attach_call{l:OpenLaw}{n:Nat}{q:Program}{loose:List Str}{XP:(Str->Option Value)->Heap->Prop}{YP:World->Heap->Prop}{d:DefRec}
 (hn:l.most=some n) (hdf:d.params.defaults=[])
 (call: ∀(w:World) (s₀ s₁:Shared) (mg mb:Str->Option Value) (fa:Addr) (o:Obj) (pm cd doc:Value) (a:Addr) (vs:List Value) (ns:List Int),
  Ground q loose [] XP w s₀ mg mb s₁.heap->YP w s₁.heap->
  s₁.heap.get? fa=some o->o.data= .func (docDef d.name d.params d.body d.scope pm cd doc)->s₁.heap.CodeRec cd d.name->mg d.name=some (.ref fa)->
  s₁.heap.get? a=some {cls:= .type "list",data:= .seq vs.toArray}->IntsAre vs ns->ns.length<=n->s₁.gens= #[]->
  codeAny (model l.prog w) callerA (.call (.ref fa) ⟨[.ref a],[]⟩) (fun r s'=>r= .ok (.ret (.bool true))/\OldK s₁.heap s'.heap/\s'.os=s₁.os/\AllBare s'.gens) s₁):
 WalkO q loose XP YP l.row.toRowW d [] (fun f vs=>PySem.call f vs):=by
 intro w s₀ s₁ mg mb G Y fa o pm cd doc dV kV ho hd hcd hD hmg hg args vals as hpre hlay hrd hwl hlo
 obtain rfl:dV= .none:=Dflts.none hD hdf
 obtain rfl:kV= .none:=Dflts.noKw hD
 obtain⟨a,vs,ns,rfl,rfl,hobj,hints,hlen⟩:=z7f hn hpre hwl
 refine enter_call (codeAny_mono (call w s₀ s₁ mg mb fa o pm cd doc a vs ns G Y ho (fd_plain hd) hcd hmg hobj hints hlen hg) fun r s' hq=> ?_)
 obtain⟨rfl,h2,h3,h4⟩:=hq
 exact⟨.inl ⟨.bool true, .bool true,[],rfl,fun _=>rfl, .bool true,z7g l _,fun _=>⟨List.Pairwise.nil,fun _ hm=>(nomatch hm)⟩⟩,h2,h3,h4⟩
end Att
namespace L2
open PySem PySem.Spec PyProof.Rows
theorem z3X: ∀{vs:List Value} {ns:List Int},IntsAre vs ns->w4 (ns.map V.int) vs
 |_,_, .nil=> .nil
 |_,_, .cons n t h=> .cons ⟨t,rfl⟩ (z3X h)
noncomputable def zgj(H:Hp):Prop:= ∀b,H b=none\/∃o xs,H b=some (.frz o (.lst xs))
theorem z98{P:Program}{w:World}{K:W.Frag}{mg mb:Str->Option Value}{CX:CXT}{k:Nat}{fa a:Addr}{fd:FuncData}{x:Str}{sp:Sp}{s₁:Shared}{vs:List Value}{ns:List Int}
 (KX:K.In s₁.heap) (hns:s₁.heap.Ns mainGlobals mg) (hb:s₁.heap.Ns builtinsNs mb) (hbb: ∀x:Str,x≠ "__name__" ->mb x=bootBuiltins x) (hlim:s₁.heap.NoLimit) (hg:s₁.gens= #[])
 (ha:s₁.heap.get? a=some {cls:= .type "list",data:= .seq vs.toArray}) (hi:IntsAre vs ns) (hl:ns.length<=sizeLine) (hr:U5 k callerA)
 (F: ∀base:Heap,K.In base->base.Ns mainGlobals mg->J1 P w K mg base CX k fa fd [x] sp) (hbind: ∀(s:Shared) (u:Value),BindsTo s fd ⟨[u],[]⟩ [(x,u)])
 (hsp: ∀H:Hp,zgj H->SqL K H a (ns.map V.int)->sp [.ref a] H (fun v _=>v= .bl true) fun _ _ _=>False)
 (hCX: ∀H e s',CX [] H s₁ (fun _ _ _=>False) e s'->False):
 codeAny (model P w) callerA (.call (.ref fa) ⟨[.ref a],[]⟩) (fun r s'=>r= .ok (.ret (.bool true))/\OldK s₁.heap s'.heap/\s'.os=s₁.os/\AllBare s'.gens) s₁:=by
 have rv:=z3X hi
 have lenV:=hi.length
 have core: ∀H:Hp,zgj H->SqL K H a (ns.map V.int)->HOk P w H s₁.heap->(∀b,H b≠none->b=a)->(H a≠none->K.lookup a=none)->
  codeAny (model P w) callerA (.call (.ref fa) ⟨[.ref a],[]⟩) (fun r s'=>r= .ok (.ret (.bool true))/\OldK s₁.heap s'.heap/\s'.os=s₁.os/\AllBare s'.gens) s₁:=by
  intro H hO hS hok hA hK
  have base_of: ∀{b:Addr} {o:Obj},s₁.heap.get? b=some o->H b=none->(z8J s₁.heap H).get? b=some o:=fun e n=>z8K e n
  have noA: ∀{b:Addr} {o:Obj} {es:Array DictEntry} {ep:Nat},s₁.heap.get? b=some o->o.data= .dict es ep->H b=none:=fun{b o es ep} e d=>by
   cases q:H b with
   |none=>rfl
   |some u=>
    have e':b=a:=hA b (by rw[q];simp)
    subst e'
    rw[ha] at e;cases e
    have d':Data.seq vs.toArray _=Data.dict es ep:=d
    cases d'
  have nsK: ∀{b:Addr} {m:Str->Option Value},s₁.heap.Ns b m->(z8J s₁.heap H).Ns b m:=fun{b m} ⟨o,es,ep,e,d,r⟩=>⟨o,es,ep,base_of e (noA e d),d,r⟩
  have hKb:K.In (z8J s₁.heap H):=fun b o e=>base_of (KX b o e) (by
   cases q:H b with
   |none=>rfl
   |some u=>
    have e':b=a:=hA b (by rw[q];simp)
    subst e'
    rw[hK (by rw[q];simp)] at e;cases e)
  have hM:Mod K mg (z8J s₁.heap H):=⟨hKb,nsK hns,⟨mb,nsK hb,hbb⟩,let⟨mc,h1,h2⟩:=hlim;⟨mc,nsK h1,h2⟩⟩
  have e0:z6H P w K mg (z8J s₁.heap H) callerA [] s₁ H:=⟨rfl,hM,fun b o e=>zb7 e,L8 (z6P _ _),trivial,fun b hb=>absurd (show b∈([]:List Addr) from hb) (by simp),hok, .of_eq hg⟩
  refine codeAny_mono ((F _ hKb (nsK hns)).run callerA [] s₁ H ⟨[.ref a],[]⟩ [.ref a] [.ref a] _ _ hr e0 (hbind s₁ (.ref a)) (.cons rfl .nil) (hsp H hO hS)) fun r s' h=> ?_
  cases r with
  |error e=>exact(hCX H e s' h).elim
  |ok fl=>
   cases fl with
   |next=>exact False.elim h
   |brk=>exact False.elim h
   |cont=>exact False.elim h
   |ret u=>
    obtain⟨v,H',os,bare,un,hok',r',q⟩:=h
    have q':v= .bl true:=q
    subst q'
    obtain rfl:u=Value.bool true:=r'
    refine⟨rfl,OldK.of_keep fun b o e=> ?_,os,bare⟩
    cases q:H b with
    |none=>exact un.keep b o e q (by intro z;exact absurd (show b∈([]:List Addr) from z) (by simp)) (by simp)
    |some u=>
     rcases hO b with z|⟨ob,xs,z⟩
     ·rw[q] at z;cases z
     ·have z2:=un.frzs b ob _ z
      obtain⟨e1,_⟩:=hok b _ z
      obtain⟨e2,_⟩:=hok' b _ z2
      rw[e] at e1;cases e1
      exact e2
 cases hk:K.lookup a with
 |some o=>
  have e:=KX a o hk
  rw[ha] at e
  cases e
  refine core (fun _=>none) (fun _=> .inl rfl) (.inr ⟨_,vs.toArray,_,hk,rfl,rfl,rfl,by rw[i4,lenV];exact hl,by simpa using rv⟩) (fun b u z=>by have z':(none:Option HO)=some u:=z;cases z') (fun b z=>absurd rfl z) fun z=>absurd rfl z
 |none=>
  refine core (fun b=>if b=a then some (.frz {cls:= .type "list",data:= .seq vs.toArray} (.lst (ns.map V.int))) else none) (fun b=> ?_) (.inl (.inr ⟨{cls:= .type "list",data:= .seq vs.toArray},if_pos rfl⟩)) (fun b u z=> ?_) (fun b z=> ?_) fun _=>hk
  ·by_cases hb:b=a
   ·exact .inr ⟨_,_,if_pos hb⟩
   ·exact .inl (if_neg hb)
  ·by_cases hb:b=a
   ·have z':=(if_pos hb).symm.trans z
    cases z'
    subst hb
    exact⟨ha,by rw[i9];exact hl,vs,_,rv,ha⟩
   ·have z':=(if_neg hb).symm.trans z
    cases z'
  ·by_cases hb:b=a
   ·exact hb
   ·exact absurd (if_neg hb) z
theorem zbD{l:W.OpenLaw}{n k:Nat}{q:Program}{loose:List Str}{XP:(Str->Option Value)->Heap->Prop}{YP:World->Heap->Prop}{d:DefRec}{K:Params->W.Frag}{CX:World->CXT}{sp:World->Sp}{x:Str}
 (hn:l.most=some n) (hn2:n<=sizeLine) (hdf:d.params.defaults=[]) (hr:U5 k callerA)
 (hY: ∀(w:World) (h:Heap),YP w h->(K w.params).In h)
 (F: ∀(w:World) (mg:Str->Option Value) (fa:Addr) (h:Heap),(K w.params).In h->h.Ns mainGlobals mg->mg d.name=some (.ref fa)->
  ∃fd:FuncData,(∀(s:Shared) (u:Value),BindsTo s fd ⟨[u],[]⟩ [(x,u)])/\
   ∀base:Heap,(K w.params).In base->base.Ns mainGlobals mg->J1 l.prog w (K w.params) mg base (CX w) k fa fd [x] (sp w))
 (hsp: ∀(w:World) (H:Hp) (a:Addr) (ns:List Int),ns.length<=n->zgj H->SqL (K w.params) H a (ns.map V.int)->sp w [.ref a] H (fun v _=>v= .bl true) fun _ _ _=>False)
 (hCX: ∀(w:World) (H:Hp) (s:Shared) (e:Value) (s':Shared),CX w [] H s (fun _ _ _=>False) e s'->False):
 W.WalkO q loose XP YP l.row.toRowW d [] (fun f vs=>PySem.call f vs):=by
 refine Att.attach_call hn hdf fun w s₀ s₁ mg mb fa o pm cd doc a vs ns G Y ho hd hcd hmg hobj hints hlen hg=> ?_
 have KX:=hY w _ Y
 obtain⟨fd,hb,hF⟩:=F w mg fa _ KX G.T.g hmg
 exact z98 KX G.T.g G.T.b G.T.builtins G.T.nolimit hg hobj hints (s0 hlen hn2) hr hF hb (fun H hO hS=>hsp w H a ns hlen hO hS) fun H e s'=>hCX w H s₁ e s'
noncomputable def v3(s:Stmt):Arguments:=match s with
 | .FunctionDef _ a _ _ _ _ _ _ _ _=>a
 |_=>{posonlyargs:=[],args:=[],vararg:=none,kwonlyargs:=[],kw_defaults:=[],kwarg:=none,defaults:=[]}
noncomputable def W5(s:Stmt):List Stmt:=match s with
 | .FunctionDef _ _ b _ _ _ _ _ _ _=>b
 |_=>[]
noncomputable def y0(s:Stmt):Scope:=match s with
 | .FunctionDef _ _ _ _ _ _ sc _ _ _=>sc
 |_=>{kind:= .function,names:=[],isGenerator:=false,isCoroutine:=false}
noncomputable abbrev CX0:CXT:=fun _ _ _ _ _ _=>False
noncomputable abbrev E0:XK:=fun _ _ _=>False
theorem z4E{X:Cx}:Q5 CX0 X E0:=fun _ _ _ _ _ _ _ h=>h.elim
structure Fun(K:W.Frag)(x qual:Str)(st:Stmt)(f:Addr)(fd:FuncData):Prop where
 ex: ∃(oc:Value) (od:Option Addr) (kV doc pm:Value) (an:Option Addr) (cdv ct:Value) (osl:Array (Option Value)),
  fd=W.fnOf x qual (v3 st) (W5 st) (y0 st) .none kV doc pm an cdv ct/\K.lookup f=some ⟨oc,od, .func fd,osl⟩/\W.codeIn K cdv qual=true
 kp:W.keepIn K (.ref f)=true
section
variable{P:Program}{w:World}{K:W.Frag}{mg:Str->Option Value}{base:Heap}
theorem Fun.ok{x qual:Str}{st:Stmt}{f:Addr}{fd:FuncData}{N ps:List Str}{k:Nat}{sp:Sp}(F:Fun K x qual st f fd)(S:Z4 N ps (y0 st))(len: ∀vs H Q E,sp vs H Q E->vs.length=ps.length)
 (hbody: ∀(cdv:Value) (A:Around) (outer:List Env) (s:Shared) (H:Hp) (vs:List V) (Q:VK) (E:XK),U5 k (A.deeper (envOfC qual (y0 st) s.heap.objs.size f cdv))->sp vs H Q E->
  ∃t,PSs (cxOf CX0 P w K mg base N qual (y0 st) f cdv A outer s H E).nox (W5 st) t/\t {nx:=fun _ H'=>Q .non H',rt:=Q} (z1h N vs) H):J1 P w K mg base CX0 (k+1) f fd ps sp:=by
 obtain⟨oc,od,kV,doc,pm,an,cdv,ct,osl,rfl,lk,hcd⟩:=F.ex
 refine zdL lk hcd S len fun A outer s H vs Q E hr hsp=> ?_
 obtain⟨t,h,q⟩:=hbody cdv A outer s H vs Q E hr hsp
 exact⟨t,h.nox,q⟩
theorem Fun.binds{x qual:Str}{st:Stmt}{f:Addr}{fd:FuncData}{ps:List Str}(F:Fun K x qual st f fd)
 (h: ∀(kV doc pm:Value) (an:Option Addr) (cdv ct:Value) (us:List Value),us.length=ps.length->bindArgs (W.fnOf x qual (v3 st) (W5 st) (y0 st) .none kV doc pm an cdv ct) ⟨us,[]⟩=pure (ps.zip us)):J2 K fd ps []:=by
 obtain⟨oc,od,kV,doc,pm,an,cdv,ct,osl,rfl,lk,hcd⟩:=F.ex
 exact .all (h kV doc pm an cdv ct)
theorem zam{x qual:Str}{st:Stmt}{f:Addr}{oc:Value}{od an:Option Addr}{osl:Array (Option Value)}{kV doc pm cdv ct:Value}(l:K.lookup f=some ⟨oc,od, .func (W.fnOf x qual (v3 st) (W5 st) (y0 st) .none kV doc pm an cdv ct),osl⟩)
 (c:W.codeIn K cdv qual=true) (k:W.keepIn K (.ref f)=true):Fun K x qual st f (W.fnOf x qual (v3 st) (W5 st) (y0 st) .none kV doc pm an cdv ct):=⟨⟨oc,od,kV,doc,pm,an,cdv,ct,osl,rfl,l,c⟩,k⟩
end
section
variable{X:Cx}
theorem pv(i:Nat){x:Str}{pos:Pos}(hN:X.N[i]? =some x:=by rfl)(hv:Vis X.env.scope x:=by first|exact Or.inl rfl|exact Or.inr (Or.inl rfl)|exact Or.inr (Or.inr rfl))(hd:(x==("__debug__" :Str))=false:=by decide)
 (hcd:(x==("__classdict__" :Str))=false:=by decide):PE X (.Name x pos) (z6R i):=zdm hN hv hd hcd
end
noncomputable def V2(H H':Hp):Prop:= ∀b o,H b=some o->H' b=some o
theorem V2.refl(H:Hp):V2 H H:=fun _ _ h=>h
theorem V2.trans{H H1 H2:Hp}(a:V2 H H1)(b:V2 H1 H2):V2 H H2:=fun c o h=>b c o (a c o h)
end L2
namespace So
open PySem PySem.W PyProof.Rows
noncomputable abbrev En:=SortKind×Array Keyed
noncomputable def im(i:Nat)(e:En):Keyed:=kas_item e.2 (i %e.2.size)
noncomputable def ar(q:Array Nat)(e:En):Array Keyed:=q.map fun i=>im i e
noncomputable def sst(q:Array Nat)(p:Array (Nat×Nat×Nat))(g:Nat)(e:En):SortSt:=SortSt.mk' e.1 (ar q e) p g none
noncomputable def Cmp(prog:Program)(w:World)(A:Around)(cmp:Nat->Nat->Bool)(G:Shared->Prop)(e:En):Prop:=
 ∀i j C s,G s->(∀s',G s'->C (cmp i j) s')->kas_cmp prog w A e.1 e.2 (i %e.2.size) (j %e.2.size) C s
noncomputable def Det(cmp:Nat->Nat->Bool){α:Type}(m:En->StateT SortSt Sem α)(st:En->SortSt)(P:(En->α)->(En->SortSt)->Prop):Prop:=
 ∃v st',P v st'/\∀(prog:Program) (w:World) (A:Around) (E:Value->Shared->Prop) (e:En) (G:Shared->Prop) (Q:α->SortSt->Shared->Prop) (s:Shared),Cmp prog w A cmp G e->G s->(∀s',G s'->Q (v e) (st' e) s')->kasC (model prog w) A E (m e) Q (st e) s
variable{cmp:Nat->Nat->Bool}{α β:Type}{st:En->SortSt}
theorem j4{a:En->α}{P:(En->α)->(En->SortSt)->Prop}(h:P a st):Det cmp (fun e=>pure (a e)) st P:=
 ⟨a,st,h,fun _ _ _ _ _ _ _ s _ hg hq=>kasC_pure (hq s hg)⟩
theorem y1{m:En->StateT SortSt Sem α}{f:En->α->StateT SortSt Sem β}{P:(En->β)->(En->SortSt)->Prop}(h:Det cmp m st fun v st'=>Det cmp (fun e=>f e (v e)) st' P):Det cmp (fun e=>m e>>=f e) st P:=by
 obtain⟨v,st1,⟨u,st2,hp,h2⟩,h1⟩:=h
 exact⟨u,st2,hp,fun prog w A E e G Q s hc hg hq=>kasC_bind (h1 prog w A E e G _ s hc hg fun s' hg'=>h2 prog w A E e G Q s' hc hg' hq)⟩
theorem Q9{m:En->StateT SortSt Sem α}{P P':(En->α)->(En->SortSt)->Prop}(h:Det cmp m st P)(hp: ∀v s,P v s->P' v s):Det cmp m st P':=by
 obtain⟨v,st',p,h⟩:=h
 exact⟨v,st',hp _ _ p,h⟩
theorem z1X{P:(En->SortSt)->(En->SortSt)->Prop}(h:P st st):Det cmp (fun _=>get) st P:=
 ⟨st,st,h,fun _ _ _ _ _ _ _ s _ hg hq=>kasC_get (hq s hg)⟩
theorem zgS{a:En->SortSt}{P:(En->PUnit)->(En->SortSt)->Prop}(h:P (fun _=>⟨⟩) a):Det cmp (fun e=>set (a e)) st P:=
 ⟨_,a,h,fun _ _ _ _ _ _ _ s _ hg hq=>by
  unfold kasC;rw[StateT.run_set];exact wpAny_pure (hq s hg)⟩
theorem X2{f:En->SortSt->SortSt}{P:(En->PUnit)->(En->SortSt)->Prop}(h:P (fun _=>⟨⟩) (fun e=>f e (st e))):Det cmp (fun e=>modify (f e)) st P:=
 ⟨_,_,h,fun _ _ _ _ _ _ _ s _ hg hq=>kasC_modify (hq s hg)⟩
theorem z1Y{x:String}{P:(En->Unit)->(En->SortSt)->Prop}(h:P (fun _=>()) st):Det cmp (fun _=>liftM (rule x)) st P:=
 ⟨_,st,h,fun _ _ _ _ _ _ _ s _ hg hq=>kasC_lift (wpAny_rule (hq s hg))⟩
theorem Y0{c:Prop}{i:En->Decidable c}{m m':En->StateT SortSt Sem α}{P:(En->α)->(En->SortSt)->Prop}(h1:c->Det cmp m st P)(h2: ¬c->Det cmp m' st P):Det cmp (fun e=> @ite _ c (i e) (m e) (m' e)) st P:=by
 by_cases h:c
 ·erw[if_pos h];exact h1 h
 ·erw[if_neg h];exact h2 h
theorem Q1{q:Array Nat}{i:Nat}{P:(En->Keyed)->(En->SortSt)->Prop}(hi:i<q.size)(h:P (im q[i]) st):Det cmp (fun e=>elem' (ar q e) i) st P:=
 ⟨_,st,h,fun _ _ _ _ e _ _ s _ hg hq=>by
  have e1:(ar q e)[i]? =some (im q[i] e):=by simp[ar,hi]
  erw[elem'_eq,e1]
  exact kasC_pure (hq s hg)⟩
theorem zdY{q:Array Nat}{p:Array (Nat×Nat×Nat)}{g i j:Nat}{P:(En->Option Bool)->(En->SortSt)->Prop}(h:P (fun _=>some (cmp i j)) (sst q p g)):Det cmp (fun e=>lt' (im i e) (im j e)) (sst q p g) P:=
 ⟨_,_,h,fun prog w A E e G Q s hc hg hq=>by
  erw[lt'_eq]
  refine kasC_bind (kasC_get ?_)
  refine kasC_bind (kasC_lift (wpAny_attempt (wpAny_mono (hc i j (fun b s'=>b=cmp i j/\G s') s hg fun s' h=>⟨rfl,h⟩) (fun c s' hc'=> ?_) fun _ _ hF=>hF.elim)))
  obtain⟨rfl,hg'⟩:=hc'
  exact kasC_pure (hq s' hg')⟩
theorem z1C{q:Array Nat}{p:Array (Nat×Nat×Nat)}{g i j:Nat}{P:(En->Option Bool)->(En->SortSt)->Prop}(hi:i<q.size)(hj:j<q.size)(h:P (fun _=>some (cmp q[i] q[j])) (sst q p g)):Det cmp (fun _=>ltAt' i j) (sst q p g) P:=by
 erw[ltAt'_eq]
 exact y1 (z1X (y1 (Q1 hi (y1 (Q1 hj (zdY h))))))
theorem z5p(u v:Nat->Nat)(l:List Nat)(q:Array Nat)(e:En):l.foldl (fun a k=>a.swapIfInBounds (u k) (v k)) (ar q e)=ar (l.foldl (fun a k=>a.swapIfInBounds (u k) (v k)) q) e:=kas_swaps_map _ u v l q
theorem z39{q:Array Nat}{p:Array (Nat×Nat×Nat)}{g i j:Nat}{P:(En->Unit)->(En->SortSt)->Prop}(h:P (fun _=>()) (sst (mirror q i j ((j -i)/2)) p g)):Det cmp (fun _=>reverseSlice' i j) (sst q p g) P:=by
 erw[reverseSlice'_eq]
 refine X2 ?_
 have e:(fun e=>setArr (sst q p g e) (mirror (arrOf (sst q p g e)) i j ((j -i)/2)))=sst (mirror q i j ((j -i)/2)) p g:=by
  funext e
  show SortSt.mk' e.1 (mirror (ar q e) i j ((j -i)/2)) p g none=SortSt.mk' e.1 (ar (mirror q i j ((j -i)/2)) e) p g none
  rw[show mirror (ar q e) i j ((j -i)/2)=ar (mirror q i j ((j -i)/2)) e from z5p (fun k=>i+k) (fun k=>j - 1 -k) _ q e]
 rw[e];exact h
theorem zdZ{q:Array Nat}{p:Array (Nat×Nat×Nat)}{g k l:Nat}{P:(En->Unit)->(En->SortSt)->Prop}(h:P (fun _=>()) (sst (bubble q k (k -l)) p g)):Det cmp (fun _=>moveDown' k l) (sst q p g) P:=by
 erw[moveDown'_eq]
 refine X2 ?_
 have e:(fun e=>setArr (sst q p g e) (bubble (arrOf (sst q p g e)) k (k -l)))=sst (bubble q k (k -l)) p g:=by
  funext e
  show SortSt.mk' e.1 (bubble (ar q e) k (k -l)) p g none=SortSt.mk' e.1 (ar (bubble q k (k -l)) e) p g none
  rw[show bubble (ar q e) k (k -l)=ar (bubble q k (k -l)) e from z5p (fun i=>k -i) (fun i=>k -i - 1) _ q e]
 rw[e];exact h
theorem zan{f:En->Nat->β->StateT SortSt Sem (ForInStep β)}{I:Nat->(En->β)->(En->SortSt)->Prop}{Q:(En->β)->(En->SortSt)->Prop}(hb: ∀(x:Nat) (k:Nat) (b:En->β) (st:En->SortSt),I (k+1) b st->Det cmp (fun e=>f e x (b e)) st fun v st'=>(∃c,v=(fun e=> .done (c e))/\Q c st')\/∃c,v=(fun e=> .yield (c e))/\I k c st')(hf: ∀b st,I 0 b st->Q b st):
 ∀(l:List Nat) (b:En->β) (st:En->SortSt),I l.length b st->Det cmp (fun e=>forIn l (b e) (f e)) st Q
 |[],b,st,h=>⟨b,st,hf b st h,fun _ _ _ _ _ _ _ s _ hg hq=>kasC_nil (hq s hg)⟩
 |x::l,b,st,h=>by
  obtain⟨v,st1,hp,h1⟩:=hb x l.length b st h
  rcases hp with⟨c,rfl,hp⟩|⟨c,rfl,hp⟩
  ·exact⟨c,st1,hp,fun prog w A E e G Q s hc hg hq=>kasC_cons (h1 prog w A E e G _ s hc hg fun s' hg'=>hq s' hg')⟩
  ·obtain⟨c2,st2,hp2,h2⟩:=zan hb hf l c st1 hp
   exact⟨c2,st2,hp2,fun prog w A E e G Q s hc hg hq=>kasC_cons (h1 prog w A E e G _ s hc hg fun s' hg'=>h2 prog w A E e G Q s' hc hg' hq)⟩
theorem X3{lo hi:Nat}{f:En->Nat->β->StateT SortSt Sem (ForInStep β)}{b:En->β}(I:Nat->(En->β)->(En->SortSt)->Prop){Q:(En->β)->(En->SortSt)->Prop}(h0:I (hi -lo) b st)(hb: ∀(x:Nat) (k:Nat) (b:En->β) (st:En->SortSt),I (k+1) b st->Det cmp (fun e=>f e x (b e)) st fun v st'=>(∃c,v=(fun e=> .done (c e))/\Q c st')\/∃c,v=(fun e=> .yield (c e))/\I k c st')(hf: ∀b st,I 0 b st->Q b st):
 Det cmp (fun e=>forIn [lo:hi] (b e) (f e)) st Q:=by
 obtain⟨v,st',hp,h⟩:=zan (cmp:=cmp) (f:=f) (I:=I) (Q:=Q) hb hf (P9 lo (hi -lo)) b st (by rw[List.length_range'];exact h0)
 exact⟨v,st',hp,fun prog w A E e G Q s hc hg hq=>kasC_range (h prog w A E e G Q s hc hg hq)⟩
theorem Z9{c:En->β}{I:(En->β)->(En->SortSt)->Prop}{Q:(En->β)->(En->SortSt)->Prop}(h:Q c st):Det cmp (fun e=>pure (ForInStep.done (c e))) st fun v st'=>(∃c,v=(fun e=> .done (c e))/\Q c st')\/∃c,v=(fun e=> .yield (c e))/\I c st':=
 j4 (.inl ⟨c,rfl,h⟩)
theorem Y3{c:En->β}{I:(En->β)->(En->SortSt)->Prop}{Q:(En->β)->(En->SortSt)->Prop}(h:I c st):Det cmp (fun e=>pure (ForInStep.yield (c e))) st fun v st'=>(∃c,v=(fun e=> .done (c e))/\Q c st')\/∃c,v=(fun e=> .yield (c e))/\I c st':=
 j4 (.inr ⟨c,rfl,h⟩)
theorem zao{c:Prop}{i:En->Decidable c}{v:En->β}{I Q:(En->β)->(En->SortSt)->Prop}(h:I v st):Det cmp (fun e=> @ite _ c (i e) (pure (ForInStep.done (v e))) (pure (ForInStep.yield (v e)))) st fun u st'=>(∃c,u=(fun e=> .done (c e))/\(Q c st'\/I c st'))\/∃c,u=(fun e=> .yield (c e))/\I c st':=
 Y0 (fun _=>Z9 (.inr h)) fun _=>Y3 h
theorem ze0{Q:Nat->Array Nat->Prop}(R:Nat->Array Nat->Prop){G:Prop}(h:(∀a o,R a o->Q a o)->G)(k: ∀a o,R a o->Q a o):G:=h k
theorem ze1{Q:Nat->Prop}{G:Prop}(h:(∀mm,Q mm)->G)(k: ∀mm,Q mm):G:=h k
end So
namespace So
open PySem PySem.W PyProof.Rows
noncomputable def gal:Bool->Keyed->Array Keyed->Nat->Nat->Nat->StateT SortSt Sem (Option Nat):=sortPriv%PySem.Builtin.gallop
variable{cmp:Nat->Nat->Bool}{α β:Type}{q:Array Nat}{p:Array (Nat×Nat×Nat)}{g:Nat}
theorem z3Y{left:Bool}{r:Array Nat}{i x:Nat}{P:(En->Option Bool)->(En->SortSt)->Prop}(hi:i<r.size)(h: ∀b,P (fun _=>some b) (sst q p g)):
 Det cmp (fun e=>elem' (ar r e) i>>=fun y=>if left=true then lt' y (im x e) else lt' (im x e) y>>=fun o=>pure (o.map fun b=> !b)) (sst q p g) P:=by
 refine y1 (Q1 hi ?_)
 cases left with
 |true=>exact zdY (h _)
 |false=>exact y1 (zdY (j4 (h _)))
theorem z0h{left:Bool}{r:Array Nat}{x base n hint:Nat}{P:(En->Option Nat)->(En->SortSt)->Prop}(hn:base+n<=r.size)(hh:hint<n)(h: ∀k,k<=n->P (fun _=>some k) (sst q p g)):
 Det cmp (fun e=>gal left (im x e) (ar r e) base n hint) (sst q p g) P:=by
 refine y1 (z3Y (left:=left) (r:=r) (i:=base+hint) (x:=x) (by lia) fun b=> ?_)
 cases b with
 |true=>
  refine y1 (Q9 (P:=fun v st'=>st'=sst q p g/\∃lo hi:Nat,v=(fun _=>(none,lo,hi))) (X3 (I:=fun _ v st'=>st'=sst q p g/\∃lo hi:Nat,v=(fun _=>(none,lo,hi))) ⟨rfl,0,1,rfl⟩ ?_ fun _ _ h=>h) ?_)
  ·rintro _ k b st ⟨rfl,lo,hi,rfl⟩
   dsimp only
   refine Y0 (fun _=>Z9 ⟨rfl,lo,hi,rfl⟩) fun hlt=> ?_
   refine y1 (z3Y (left:=left) (r:=r) (i:=base+(hint+hi)) (x:=x) (by lia) fun b=> ?_)
   cases b with
   |true=>exact Y3 ⟨rfl,_,_,rfl⟩
   |false=>exact Z9 ⟨rfl,lo,hi,rfl⟩
  ·rintro v st ⟨rfl,lo,hi,rfl⟩
   dsimp only
   refine y1 (Q9 (P:=fun v st'=>st'=sst q p g/\∃lo hi:Nat,v=(fun _=>(none,lo,hi))/\hi<=n) (X3 (I:=fun _ v st'=>st'=sst q p g/\∃lo hi:Nat,v=(fun _=>(none,lo,hi))/\hi<=n) ⟨rfl,_,_,rfl,by lia⟩ ?_ fun _ _ h=>h) ?_)
   ·rintro _ k b st ⟨rfl,lo,hi,rfl,hl⟩
    dsimp only
    refine Y0 (fun _=>Z9 ⟨rfl,lo,hi,rfl,hl⟩) fun hlt=> ?_
    refine y1 (z3Y (left:=left) (r:=r) (x:=x) (by lia) fun b=> ?_)
    cases b with
    |true=>exact Y3 ⟨rfl,_,hi,rfl,hl⟩
    |false=>exact Y3 ⟨rfl,lo,_,rfl,by lia⟩
   ·rintro v st ⟨rfl,lo,hi,rfl,hl⟩
    exact j4 (h hi hl)
 |false=>
  refine y1 (Q9 (P:=fun v st'=>st'=sst q p g/\∃lo hi:Nat,v=(fun _=>(none,lo,hi))) (X3 (I:=fun _ v st'=>st'=sst q p g/\∃lo hi:Nat,v=(fun _=>(none,lo,hi))) ⟨rfl,0,1,rfl⟩ ?_ fun _ _ h=>h) ?_)
  ·rintro _ k b st ⟨rfl,lo,hi,rfl⟩
   dsimp only
   refine Y0 (fun _=>Z9 ⟨rfl,lo,hi,rfl⟩) fun hlt=> ?_
   refine y1 (z3Y (left:=left) (r:=r) (i:=base+(hint -hi)) (x:=x) (by lia) fun b=> ?_)
   cases b with
   |true=>exact Z9 ⟨rfl,lo,hi,rfl⟩
   |false=>exact Y3 ⟨rfl,_,_,rfl⟩
  ·rintro v st ⟨rfl,lo,hi,rfl⟩
   dsimp only
   refine y1 (Q9 (P:=fun v st'=>st'=sst q p g/\∃lo hi:Nat,v=(fun _=>(none,lo,hi))/\hi<=n) (X3 (I:=fun _ v st'=>st'=sst q p g/\∃lo hi:Nat,v=(fun _=>(none,lo,hi))/\hi<=n) ⟨rfl,_,_,rfl,by lia⟩ ?_ fun _ _ h=>h) ?_)
   ·rintro _ k b st ⟨rfl,lo,hi,rfl,hl⟩
    dsimp only
    refine Y0 (fun _=>Z9 ⟨rfl,lo,hi,rfl,hl⟩) fun hlt=> ?_
    refine y1 (z3Y (left:=left) (r:=r) (x:=x) (by lia) fun b=> ?_)
    cases b with
    |true=>exact Y3 ⟨rfl,_,hi,rfl,hl⟩
    |false=>exact Y3 ⟨rfl,lo,_,rfl,by lia⟩
   ·rintro v st ⟨rfl,lo,hi,rfl,hl⟩
    exact j4 (h hi hl)
end So
set_option linter.unusedSimpArgs false
namespace So
open PySem PySem.W PyProof.Rows
noncomputable def mlo:Array Keyed->Array Keyed->StateT SortSt Sem (Array Keyed):=sortPriv%PySem.Builtin.mergeLo
theorem z1j{q:Array Nat}{e:En}:(ar q e).size=q.size:=by simp[ar]
theorem K9{q:Array Nat}{i:Nat}{e:En}:(ar q e).push (im i e)=ar (q.push i) e:=by simp[ar]
theorem U8{q r:Array Nat}{e:En}:ar q e++ar r e=ar (q++r) e:=by simp[ar]
theorem G3{q:Array Nat}{i j:Nat}{e:En}:(ar q e).extract i j=ar (q.extract i j) e:=by simp[ar]
theorem z1Z{q:Array Nat}{e:En}:(ar q e).reverse=ar q.reverse e:=by simp[ar]
theorem zap{i:Nat}{e:En}: #[im i e]=ar #[i] e:=by simp[ar]
noncomputable def Al(T:Nat->Prop)(q:Array Nat):Prop:= ∀i∈q,T i
section
variable{T:Nat->Prop}{q r:Array Nat}
theorem Y6{i:Nat}(h:Al T q)(hi:T i):Al T (q.push i):=fun j hj=>by
 rcases Array.mem_push.mp hj with hj|rfl
 ·exact h j hj
 ·exact hi
theorem W0(h:Al T q)(h':Al T r):Al T (q++r):=fun j hj=>by
 rcases Array.mem_append.mp hj with hj|hj
 ·exact h j hj
 ·exact h' j hj
theorem Y8{i j:Nat}(h:Al T q):Al T (q.extract i j):=fun k hk=>h k (by
 obtain⟨n,hn,rfl⟩:=Array.mem_iff_getElem.mp hk
 rw[Array.getElem_extract]
 exact Array.getElem_mem _)
theorem z00(h:Al T q):Al T q.reverse:=fun k hk=>h k (Array.mem_reverse.mp hk)
theorem Z6{i:Nat}(h:Al T q)(hi:i<q.size):T q[i]:=h _ (Array.getElem_mem hi)
theorem z2T{i:Nat}(h:T i):Al T #[i]:=fun j hj=>by
 rw[Array.mem_singleton.mp hj];exact h
end
variable{cmp:Nat->Nat->Bool}{α β:Type}{q:Array Nat}{p:Array (Nat×Nat×Nat)}{g:Nat}
theorem z5q{g':Nat}{P:(En->Unit)->(En->SortSt)->Prop}(h:P (fun _=>()) (sst q p g')):Det cmp (fun _=>(sortPriv%PySem.Builtin.setMinGallop) g') (sst q p g) P:=X2 h
noncomputable def Rt(T:Nat->Prop)(q:Array Nat)(p:Array (Nat×Nat×Nat)){β:Type}(v:En->Option (Array Keyed)×β)(st:En->SortSt):Prop:= ∃(mq:Array Nat) (b:En->β) (g:Nat),v=(fun e=>(some (ar mq e),b e))/\Al T mq/\st=sst q p g
theorem zgT{T:Nat->Prop}{qa qb:Array Nat}{P:(En->Array Keyed)->(En->SortSt)->Prop}(ha:Al T qa)(hb:Al T qb)(a1:1<=qa.size)(b1:1<=qb.size)(h: ∀mq g',Al T mq->P (ar mq) (sst q p g')):
 Det cmp (fun e=>mlo (ar qa e) (ar qb e)) (sst q p g) P:=by
 refine y1 (z1Y ?_)
 refine y1 (Q1 (by lia) ?_)
 erw[z1j,zap,U8,G3]
 refine Y0 (fun _=>j4 (h _ _ ?_)) fun c1=>Y0 (fun _=>j4 (h _ _ ?_)) fun c2=> ?_
 ·exact W0 (W0 (z2T (Z6 hb _)) (Y8 ha)) (Y8 hb)
 ·exact W0 (W0 (z2T (Z6 hb _)) (Y8 hb)) (Y8 ha)
 erw[beq_iff_eq] at c1 c2
 refine y1 (z1X ?_)
 try dsimp only
 refine y1 (Q9 (P:=fun v st'=>Rt T q p v st') (X3 (I:=fun k v st'=> ∃(out:Array Nat) (ia ib mg g':Nat),v=(fun e=>(none,ar out e,ia,ib,mg))/\st'=sst q p g'/\Al T out/\ia+1<qa.size/\ib<qb.size/\qa.size+qb.size+1<=ia+ib+k) ⟨_,0,1,g,g,rfl,rfl,z2T (Z6 hb (by lia)),by lia,by lia,by lia⟩ ?_ ?_) ?_)
 ·rintro _ k b st ⟨out,ia,ib,mg,g',rfl,rfl,ho,hia,hib,hk⟩
  try dsimp only
  refine y1 (Q9 (P:=fun v st'=>Rt T q p v st'\/∃(out:Array Nat) (ja jb ac bc:Nat),v=(fun e=>(none,ar out e,ja,jb,ac,bc))/\st'=sst q p g'/\Al T out/\ja+1<qa.size/\jb<qb.size/\ia+ib+1<=ja+jb)
   (X3 (I:=fun k v st'=> ∃(out:Array Nat) (ja jb ac bc:Nat),v=(fun e=>(none,ar out e,ja,jb,ac,bc))/\st'=sst q p g'/\Al T out/\ja+1<qa.size/\jb<qb.size/\ia+ib+(qa.size+qb.size)<=ja+jb+k/\k<=qa.size+qb.size) ⟨out,ia,ib,0,0,rfl,rfl,ho,hia,hib,by lia,by lia⟩ ?_ ?_) ?_)
  ·rintro _ k b st ⟨out,ja,jb,ac,bc,rfl,rfl,ho,hja,hjb,hp,hk2⟩
   try dsimp only
   refine y1 (Q1 hjb (y1 (Q1 (by lia) (y1 (zdY ?_)))))
   try dsimp only
   cases cmp qb[jb] qa[ja] with
   |true=>
    refine y1 (Q1 hjb ?_)
    try dsimp only
    erw[K9,U8,G3]
    refine Y0 (fun _=>Z9 (.inl ⟨_,_,_,rfl,W0 (W0 (Y6 ho (Z6 hb _)) (Y8 ha)) (Y8 hb),rfl⟩)) fun c=> ?_
    erw[beq_iff_eq] at c
    refine Y0 (fun _=>Z9 (.inr ⟨_,_,_,_,_,rfl,rfl,Y6 ho (Z6 hb _),hja,by lia,by lia⟩)) fun _=>Y3 ⟨_,_,_,_,_,rfl,rfl,Y6 ho (Z6 hb _),hja,by lia,by lia,by lia⟩
   |false=>
    refine y1 (Q1 (by lia) ?_)
    try dsimp only
    erw[K9,U8,G3]
    refine Y0 (fun _=>Z9 (.inl ⟨_,_,_,rfl,W0 (W0 (Y6 ho (Z6 ha _)) (Y8 hb)) (Y8 ha),rfl⟩)) fun c=> ?_
    erw[beq_iff_eq] at c
    refine Y0 (fun _=>Z9 (.inr ⟨_,_,_,_,_,rfl,rfl,Y6 ho (Z6 ha _),by lia,hjb,by lia⟩)) fun _=>Y3 ⟨_,_,_,_,_,rfl,rfl,Y6 ho (Z6 ha _),by lia,hjb,by lia,by lia⟩
  ·rintro b st ⟨out,ja,jb,ac,bc,rfl,rfl,ho,hja,hjb,hp,hk2⟩
   exact .inr ⟨_,_,_,_,_,rfl,rfl,ho,hja,hjb,by lia⟩
  ·rintro v st (⟨mq,b,g2,rfl,hm,rfl⟩|⟨out,ja,jb,ac,bc,rfl,rfl,ho,hja,hjb,hp⟩)
   ·exact Z9 ⟨_,_,_,rfl,hm,rfl⟩
   try dsimp only
   refine y1 (z1Y ?_)
   refine y1 (Q9 (P:=fun v st'=>Rt T q p v st'\/∃(out:Array Nat) (ka kb mg ac bc g':Nat),v=(fun e=>(none,ar out e,ka,kb,mg,ac,bc))/\st'=sst q p g'/\Al T out/\ka+1<qa.size/\kb<qb.size/\ja+jb<=ka+kb)
    (X3 (I:=fun k v st'=> ∃(out:Array Nat) (ka kb mg ac bc g':Nat),v=(fun e=>(none,ar out e,ka,kb,mg,ac,bc))/\st'=sst q p g'/\Al T out/\ka+1<qa.size/\kb<qb.size/\ja+jb<=ka+kb) ⟨out,ja,jb,_,ac,bc,_,rfl,rfl,ho,hja,hjb,by lia⟩ ?_ fun b st h=> .inr h) ?_)
   ·rintro _ k b st ⟨out,ka,kb,mg,ac,bc,g2,rfl,rfl,ho,hka,hkb,hp2⟩
    try dsimp only
    try erw[z1j]
    apply ze1
    ·intro key
     refine Y0 (c:=mg>1) (fun _=> ?_) (fun _=> ?_)
     rotate_left
     ·generalize mg=z
      exact key z
     ·exact key _
    ·intro mm
     try dsimp only
     refine y1 (z5q (y1 (Q1 hkb (y1 (z0h (by lia) (by lia) fun k hk=> ?_)))))
     try dsimp only
     try erw[U8,G3]
     refine Y0 (fun k0=>Y0 (fun _=>Z9 (.inl ⟨_,_,_,rfl, ?_,rfl⟩)) fun c1=>Y0 (fun _=>Z9 (.inl ⟨_,_,_,rfl, ?_,rfl⟩)) fun c2=> ?_) (fun k0=> ?_)
     ·(repeat' first|with_reducible assumption|with_reducible exact Z6 ha _|with_reducible exact Z6 hb _|with_reducible apply Y6|with_reducible apply W0|with_reducible apply Y8)
     ·(repeat' first|with_reducible assumption|with_reducible exact Z6 ha _|with_reducible exact Z6 hb _|with_reducible apply Y6|with_reducible apply W0|with_reducible apply Y8)
     all_goals
      try erw[beq_iff_eq] at c1 c2
      refine y1 (Q1 hkb ?_)
      try dsimp only
      try erw[K9,U8,G3]
      refine Y0 (fun _=>Z9 (.inl ⟨_,_,_,rfl, ?_,rfl⟩)) fun c3=> ?_
      ·(repeat' first|with_reducible assumption|with_reducible exact Z6 ha _|with_reducible exact Z6 hb _|with_reducible apply Y6|with_reducible apply W0|with_reducible apply Y8)
      erw[beq_iff_eq] at c3
      refine y1 (Q1 (by lia) (y1 (z0h (by lia) (by lia) fun k' hk'=> ?_)))
      try dsimp only
      try erw[U8,G3]
      refine Y0 (fun k1=>Y0 (fun _=>Z9 (.inl ⟨_,_,_,rfl, ?_,rfl⟩)) fun c4=> ?_) (fun k1=> ?_)
      ·(repeat' first|with_reducible assumption|with_reducible exact Z6 ha _|with_reducible exact Z6 hb _|with_reducible apply Y6|with_reducible apply W0|with_reducible apply Y8)
      all_goals
       try erw[beq_iff_eq] at c4
       refine y1 (Q1 (by lia) ?_)
       try dsimp only
       try erw[K9,U8,G3]
       refine Y0 (fun _=>Z9 (.inl ⟨_,_,_,rfl, ?_,rfl⟩)) fun c5=> ?_
       ·(repeat' first|with_reducible assumption|with_reducible exact Z6 ha _|with_reducible exact Z6 hb _|with_reducible apply Y6|with_reducible apply W0|with_reducible apply Y8)
       erw[beq_iff_eq] at c5
       refine zao ⟨_,_,_,_,_,_,_,rfl,rfl, ?_,by lia,by lia,by lia⟩
       (repeat' first|with_reducible assumption|with_reducible exact Z6 ha _|with_reducible exact Z6 hb _|with_reducible apply Y6|with_reducible apply W0|with_reducible apply Y8)
   ·rintro v st (⟨mq,b,g2,rfl,hm,rfl⟩|⟨out,ka,kb,mg,ac,bc,g2,rfl,rfl,ho,hka,hkb,hp2⟩)
    ·exact Z9 ⟨_,_,_,rfl,hm,rfl⟩
    ·try dsimp only
     exact y1 (z5q (Y3 ⟨_,_,_,_,_,rfl,rfl,ho,hka,hkb,by lia⟩))
 ·rintro b st ⟨out,ia,ib,mg,g',rfl,rfl,ho,hia,hib,hk⟩
  lia
 ·rintro v st ⟨mq,b,g',rfl,hm,rfl⟩
  exact j4 (h _ _ hm)
end So
namespace So
open PySem PySem.W PyProof.Rows
noncomputable def mhi:Array Keyed->Array Keyed->StateT SortSt Sem (Array Keyed):=sortPriv%PySem.Builtin.mergeHi
variable{cmp:Nat->Nat->Bool}{α β:Type}{q:Array Nat}{p:Array (Nat×Nat×Nat)}{g:Nat}
theorem zgU{T:Nat->Prop}{qa qb:Array Nat}{P:(En->Array Keyed)->(En->SortSt)->Prop}(ha:Al T qa)(hb:Al T qb)(a1:1<=qa.size)(b1:1<=qb.size)(h: ∀mq g',Al T mq->P (ar mq) (sst q p g')):
 Det cmp (fun e=>mhi (ar qa e) (ar qb e)) (sst q p g) P:=by
 refine y1 (z1Y ?_)
 try dsimp only
 try erw[z1j]
 refine y1 (Q1 (by lia) ?_)
 erw[z1j,zap,U8,G3,z1Z]
 refine Y0 (fun _=>j4 (h _ _ ?_)) fun c1=>Y0 (fun _=>j4 (h _ _ ?_)) fun c2=> ?_
 ·exact W0 (W0 (Y8 ha) (Y8 hb)) (z00 (z2T (Z6 ha _)))
 ·exact W0 (W0 (Y8 hb) (Y8 ha)) (z00 (z2T (Z6 ha _)))
 erw[beq_iff_eq] at c1 c2
 refine y1 (z1X ?_)
 try dsimp only
 refine y1 (Q9 (P:=fun v st'=>Rt T q p v st') (X3 (I:=fun k v st'=> ∃(na nb:Nat) (out:Array Nat) (mg g':Nat),v=(fun e=>(none,na,nb,ar out e,mg))/\st'=sst q p g'/\Al T out/\1<=na/\na<=qa.size/\2<=nb/\nb<=qb.size/\na+nb+1<=k) ⟨qa.size - 1,qb.size,_,g,g,rfl,rfl,z2T (Z6 ha (by lia)),by lia,by lia,by lia,by lia,by lia⟩ ?_ ?_) ?_)
 ·rintro _ k b st ⟨na,nb,out,mg,g',rfl,rfl,ho,na1,na2,nb1,nb2,hk⟩
  try dsimp only
  refine y1 (Q9 (P:=fun v st'=>Rt T q p v st'\/∃(ja jb:Nat) (out:Array Nat) (ac bc:Nat),v=(fun e=>(none,ja,jb,ar out e,ac,bc))/\st'=sst q p g'/\Al T out/\1<=ja/\ja<=qa.size/\2<=jb/\jb<=qb.size/\ja+jb+1<=na+nb)
   (X3 (I:=fun k v st'=> ∃(ja jb:Nat) (out:Array Nat) (ac bc:Nat),v=(fun e=>(none,ja,jb,ar out e,ac,bc))/\st'=sst q p g'/\Al T out/\1<=ja/\ja<=qa.size/\2<=jb/\jb<=qb.size/\ja+jb+(qa.size+qb.size)<=na+nb+k/\k<=qa.size+qb.size) ⟨na,nb,out,0,0,rfl,rfl,ho,na1,na2,nb1,nb2,by lia,by lia⟩ ?_ ?_) ?_)
  ·rintro _ k b st ⟨ja,jb,out,ac,bc,rfl,rfl,ho,ja1,ja2,jb1,jb2,hp,hk2⟩
   try dsimp only
   refine y1 (Q1 (by lia) (y1 (Q1 (by lia) (y1 (zdY ?_)))))
   try dsimp only
   cases cmp qb[jb - 1] qa[ja - 1] with
   |true=>
    refine y1 (Q1 (by lia) ?_)
    try dsimp only
    try erw[K9,U8,G3,z1Z]
    refine Y0 (fun _=>Z9 (.inl ⟨_,_,_,rfl,W0 (W0 (Y8 ha) (Y8 hb)) (z00 (Y6 ho (Z6 ha _))),rfl⟩)) fun c=> ?_
    erw[beq_iff_eq] at c
    refine Y0 (fun _=>Z9 (.inr ⟨_,_,_,_,_,rfl,rfl,Y6 ho (Z6 ha _),by lia,by lia,by lia,by lia,by lia⟩)) fun _=>Y3 ⟨_,_,_,_,_,rfl,rfl,Y6 ho (Z6 ha _),by lia,by lia,by lia,by lia,by lia,by lia⟩
   |false=>
    refine y1 (Q1 (by lia) ?_)
    try dsimp only
    try erw[K9,U8,G3,z1Z]
    refine Y0 (fun _=>Z9 (.inl ⟨_,_,_,rfl,W0 (W0 (Y8 hb) (Y8 ha)) (z00 (Y6 ho (Z6 hb _))),rfl⟩)) fun c=> ?_
    erw[beq_iff_eq] at c
    refine Y0 (fun _=>Z9 (.inr ⟨_,_,_,_,_,rfl,rfl,Y6 ho (Z6 hb _),by lia,by lia,by lia,by lia,by lia⟩)) fun _=>Y3 ⟨_,_,_,_,_,rfl,rfl,Y6 ho (Z6 hb _),by lia,by lia,by lia,by lia,by lia,by lia⟩
  ·rintro b st ⟨ja,jb,out,ac,bc,rfl,rfl,ho,ja1,ja2,jb1,jb2,hp,hk2⟩
   exact .inr ⟨_,_,_,_,_,rfl,rfl,ho,ja1,ja2,jb1,jb2,by lia⟩
  ·rintro v st (⟨mq,b,g2,rfl,hm,rfl⟩|⟨ja,jb,out,ac,bc,rfl,rfl,ho,ja1,ja2,jb1,jb2,hp⟩)
   ·exact Z9 ⟨_,_,_,rfl,hm,rfl⟩
   try dsimp only
   refine y1 (z1Y ?_)
   refine y1 (Q9 (P:=fun v st'=>Rt T q p v st'\/∃(ka kb:Nat) (out:Array Nat) (mg ac bc g':Nat),v=(fun e=>(none,ka,kb,ar out e,mg,ac,bc))/\st'=sst q p g'/\Al T out/\1<=ka/\ka<=qa.size/\2<=kb/\kb<=qb.size/\ka+kb<=ja+jb)
    (X3 (I:=fun k v st'=> ∃(ka kb:Nat) (out:Array Nat) (mg ac bc g':Nat),v=(fun e=>(none,ka,kb,ar out e,mg,ac,bc))/\st'=sst q p g'/\Al T out/\1<=ka/\ka<=qa.size/\2<=kb/\kb<=qb.size/\ka+kb<=ja+jb) ⟨ja,jb,out,_,ac,bc,_,rfl,rfl,ho,ja1,ja2,jb1,jb2,by lia⟩ ?_ fun b st h=> .inr h) ?_)
   ·rintro _ k b st ⟨ka,kb,out,mg,ac,bc,g2,rfl,rfl,ho,ka1,ka2,kb1,kb2,hp2⟩
    try dsimp only
    try erw[z1j]
    apply ze1
    ·intro key
     refine Y0 (c:=mg>1) (fun _=> ?_) (fun _=> ?_)
     rotate_left
     ·generalize mg=z
      exact key z
     ·exact key _
    ·intro mm
     try dsimp only
     refine y1 (z5q (y1 (Q1 (by lia) (y1 (z0h (by lia) (by lia) fun k hk=> ?_)))))
     try dsimp only
     try erw[U8,G3,z1Z]
     obtain⟨W,hW⟩: ∃W,ka -k=W:=⟨_,rfl⟩
     erw[hW]
     obtain⟨KA,hKA⟩: ∃KA,KA=ka:=⟨_,rfl⟩
     apply ze0 (fun a o=>Al T o/\1<=a/\a<=KA)
     ·intro key
      refine Y0 (fun k0=>Y0 (fun _=>Z9 (.inl ⟨_,_,_,rfl, ?_,rfl⟩)) fun c1=> ?_) (fun k0=> ?_)
      ·(repeat' first|with_reducible assumption|with_reducible exact Z6 ha _|with_reducible exact Z6 hb _|with_reducible apply Y6|with_reducible apply W0|with_reducible apply Y8|with_reducible apply z00)
      rotate_left
      ·have r:Al T out/\1<=ka/\ka<=KA:=⟨ho,ka1,by lia⟩
       revert r
       generalize out=z2
       generalize ka=z1
       intro r
       exact key z1 z2 r
      ·erw[beq_iff_eq] at c1
       refine key _ _ ⟨?_,by lia,by lia⟩
       (repeat' first|with_reducible assumption|with_reducible exact Z6 ha _|with_reducible exact Z6 hb _|with_reducible apply Y6|with_reducible apply W0|with_reducible apply Y8|with_reducible apply z00)
     ·intro ka0 out0 r0
      obtain⟨ho0,ka01,ka02⟩:=r0
      try dsimp only
      refine y1 (Q1 (by lia) ?_)
      try dsimp only
      try erw[K9,U8,G3,z1Z]
      refine Y0 (fun _=>Z9 (.inl ⟨_,_,_,rfl, ?_,rfl⟩)) fun c3=> ?_
      ·(repeat' first|with_reducible assumption|with_reducible exact Z6 ha _|with_reducible exact Z6 hb _|with_reducible apply Y6|with_reducible apply W0|with_reducible apply Y8|with_reducible apply z00)
      erw[beq_iff_eq] at c3
      refine y1 (Q1 (by lia) (y1 (z0h (by lia) (by lia) fun k' hk'=> ?_)))
      try dsimp only
      try erw[U8,G3,z1Z]
      refine Y0 (fun k1=>Y0 (fun _=>Z9 (.inl ⟨_,_,_,rfl, ?_,rfl⟩)) fun c4=>Y0 (fun _=>Z9 (.inl ⟨_,_,_,rfl, ?_,rfl⟩)) fun c6=> ?_) (fun k1=> ?_)
      ·(repeat' first|with_reducible assumption|with_reducible exact Z6 ha _|with_reducible exact Z6 hb _|with_reducible apply Y6|with_reducible apply W0|with_reducible apply Y8|with_reducible apply z00)
      ·(repeat' first|with_reducible assumption|with_reducible exact Z6 ha _|with_reducible exact Z6 hb _|with_reducible apply Y6|with_reducible apply W0|with_reducible apply Y8|with_reducible apply z00)
      all_goals
       try erw[beq_iff_eq] at c4 c6
       refine y1 (Q1 (by lia) ?_)
       try dsimp only
       try erw[K9,U8,G3,z1Z]
       refine Y0 (fun _=>Z9 (.inl ⟨_,_,_,rfl, ?_,rfl⟩)) fun c5=> ?_
       ·(repeat' first|with_reducible assumption|with_reducible exact Z6 ha _|with_reducible exact Z6 hb _|with_reducible apply Y6|with_reducible apply W0|with_reducible apply Y8|with_reducible apply z00)
       erw[beq_iff_eq] at c5
       erw[i3,decide_eq_true_eq]
       refine zao ⟨_,_,_,_,_,_,_,rfl,rfl, ?_,by lia,by lia,by lia,by lia,by lia⟩
       (repeat' first|with_reducible assumption|with_reducible exact Z6 ha _|with_reducible exact Z6 hb _|with_reducible apply Y6|with_reducible apply W0|with_reducible apply Y8|with_reducible apply z00)
   ·rintro v st (⟨mq,b,g2,rfl,hm,rfl⟩|⟨ka,kb,out,mg,ac,bc,g2,rfl,rfl,ho,ka1,ka2,kb1,kb2,hp2⟩)
    ·exact Z9 ⟨_,_,_,rfl,hm,rfl⟩
    ·try dsimp only
     exact y1 (z5q (Y3 ⟨_,_,_,_,_,rfl,rfl,ho,ka1,ka2,kb1,kb2,by lia⟩))
 ·rintro b st ⟨na,nb,out,mg,g',rfl,rfl,ho,na1,na2,nb1,nb2,hk⟩
  lia
 ·rintro v st ⟨mq,b,g',rfl,hm,rfl⟩
  exact j4 (h _ _ hm)
end So
namespace So
open PySem PySem.W PyProof.Rows
variable{cmp:Nat->Nat->Bool}{α β:Type}{q:Array Nat}{p:Array (Nat×Nat×Nat)}{g:Nat}{T:Nat->Prop}{st:En->SortSt}
theorem zbE{i j:Nat}(h:Al T q):Al T (q.swapIfInBounds i j):=by
 rw[Array.swapIfInBounds_def]
 split
 ·split
  ·exact fun k hk=>h k ((Array.Perm.mem_iff (Array.swap_perm _ _)).mp hk)
  ·exact h
 ·exact h
theorem z3a(u v:Nat->Nat): ∀(l:List Nat) (q:Array Nat),Al T q->Al T (l.foldl (fun a k=>a.swapIfInBounds (u k) (v k)) q)
 |[],_,h=>h
 |k::l,q,h=>z3a u v l _ (zbE h)
theorem z3b(u v:Nat->Nat): ∀(l:List Nat) (q:Array Nat),(l.foldl (fun a k=>a.swapIfInBounds (u k) (v k)) q).size=q.size
 |[],_=>rfl
 |k::l,q=>by
  show(l.foldl _ (q.swapIfInBounds (u k) (v k))).size=_
  rw[z3b u v l,Array.size_swapIfInBounds]
theorem z0G{i j k:Nat}(h:Al T q):Al T (mirror q i j k):=z3a (fun k=>i+k) (fun k=>j - 1 -k) _ q h
theorem U1{i j k:Nat}:(mirror q i j k).size=q.size:=z3b (fun k=>i+k) (fun k=>j - 1 -k) _ q
theorem ze2{i k:Nat}(h:Al T q):Al T (bubble q i k):=z3a (fun k=>i -k) (fun k=>i -k - 1) _ q h
theorem ze3{i k:Nat}:(bubble q i k).size=q.size:=z3b (fun k=>i -k) (fun k=>i -k - 1) _ q
theorem zaq{f:En->Nat->β->StateT SortSt Sem (ForInStep β)}{I:Nat->(En->β)->(En->SortSt)->Prop}{Q:(En->β)->(En->SortSt)->Prop}{hi:Nat}(hb: ∀(x:Nat) (b:En->β) (st:En->SortSt),x<hi->I x b st->Det cmp (fun e=>f e x (b e)) st fun v st'=>(∃c,v=(fun e=> .done (c e))/\Q c st')\/∃c,v=(fun e=> .yield (c e))/\I (x+1) c st')(hf: ∀x b st,I x b st->Q b st):
 ∀(n lo:Nat) (b:En->β) (st:En->SortSt),lo+n<=hi->I lo b st->Det cmp (fun e=>forIn (P9 lo n) (b e) (f e)) st Q
 |0,lo,b,st,_,h=>⟨b,st,hf lo b st h,fun _ _ _ _ _ _ _ s _ hg hq=>kasC_nil (hq s hg)⟩
 |n+1,lo,b,st,hl,h=>by
  obtain⟨v,st1,hp,h1⟩:=hb lo b st (by lia) h
  rcases hp with⟨c,rfl,hp⟩|⟨c,rfl,hp⟩
  ·exact⟨c,st1,hp,fun prog w A E e G Q s hc hg hq=>kasC_cons (h1 prog w A E e G _ s hc hg fun s' hg'=>hq s' hg')⟩
  ·obtain⟨c2,st2,hp2,h2⟩:=zaq hb hf n (lo+1) c st1 (by lia) hp
   exact⟨c2,st2,hp2,fun prog w A E e G Q s hc hg hq=>kasC_cons (h1 prog w A E e G _ s hc hg fun s' hg'=>h2 prog w A E e G Q s' hc hg' hq)⟩
theorem ze4{lo hi:Nat}{f:En->Nat->β->StateT SortSt Sem (ForInStep β)}{b:En->β}(I:Nat->(En->β)->(En->SortSt)->Prop){Q:(En->β)->(En->SortSt)->Prop}(h0:I lo b st)(hb: ∀(x:Nat) (b:En->β) (st:En->SortSt),x<hi->I x b st->Det cmp (fun e=>f e x (b e)) st fun v st'=>(∃c,v=(fun e=> .done (c e))/\Q c st')\/∃c,v=(fun e=> .yield (c e))/\I (x+1) c st')(hf: ∀x b st,I x b st->Q b st):
 Det cmp (fun e=>forIn [lo:hi] (b e) (f e)) st Q:=by
 by_cases hl:lo<=hi
 ·obtain⟨v,st',hp,h⟩:=zaq (cmp:=cmp) (f:=f) (I:=I) (Q:=Q) hb hf (hi -lo) lo b st (by lia) h0
  exact⟨v,st',hp,fun prog w A E e G Q s hc hg hq=>kasC_range (h prog w A E e G Q s hc hg hq)⟩
 ·refine⟨b,st,hf lo b st h0,fun prog w A E e G Q s hc hg hq=>kasC_range ?_⟩
  rw[show hi -lo=0 by lia]
  exact kasC_nil (hq s hg)
theorem z5r{lo nrem n m:Nat}{P:(En->Option Nat)->(En->SortSt)->Prop}{f:Nat->Option (Option Nat)×Nat->StateT SortSt Sem (ForInStep (Option (Option Nat)×Nat))}{k:Option (Option Nat)×Nat->StateT SortSt Sem (Option Nat)}(hf: ∀x m,f x (none,m)=ltAt' (lo+m) (lo+m - 1)>>=fun o=>match o with|some b=>if b=true then pure (.done (none,m)) else pure (.yield (none,m+1))|_=>pure (.done (some none,m)))(hk: ∀m,k (none,m)=pure (some m))(hs:q.size=n)(hl:lo+nrem<=n)(m1:1<=m)(m2:m<=nrem)(h: ∀k,1<=k->k<=nrem->P (fun _=>some k) (sst q p g)):
 Det cmp (fun _=>forIn [m:nrem] ((none,m):Option (Option Nat)×Nat) f>>=k) (sst q p g) P:=by
 refine y1 (Q9 (P:=fun v st'=> ∃m:Nat,v=(fun _=>(none,m))/\st'=sst q p g/\1<=m/\m<=nrem) (X3 (I:=fun k v st'=> ∃m:Nat,v=(fun _=>(none,m))/\st'=sst q p g/\1<=m/\m+k=nrem) ⟨m,rfl,rfl,m1,by lia⟩ ?_ ?_) ?_)
 ·rintro _ k b st ⟨m,rfl,rfl,m1,hm⟩
  erw[hf]
  refine y1 (z1C (by lia) (by lia) ?_)
  try dsimp only
  exact Y0 (fun _=>Z9 ⟨m,rfl,rfl,m1,by lia⟩) fun _=>Y3 ⟨m+1,rfl,rfl,by lia,by lia⟩
 ·rintro b st ⟨m,rfl,rfl,m1,hm⟩
  exact⟨m,rfl,rfl,m1,by lia⟩
 ·rintro v st ⟨m,rfl,rfl,m1,m2⟩
  erw[hk]
  exact j4 (h m m1 m2)
theorem zgV{lo nrem n:Nat}{P:(En->Option Nat)->(En->SortSt)->Prop}(ha:Al T q)(hs:q.size=n)(hl:lo+nrem<=n)(h1:1<=nrem)(h: ∀k q',1<=k->k<=nrem->Al T q'->q'.size=n->P (fun _=>some k) (sst q' p g)):
 Det cmp (fun _=>countRun' lo nrem) (sst q p g) P:=by
 refine y1 (Q9 (P:=fun v st'=> ∃m:Nat,v=(fun _=>(none,m))/\st'=sst q p g/\1<=m/\m<=nrem) (X3 (I:=fun k v st'=> ∃m:Nat,v=(fun _=>(none,m))/\st'=sst q p g/\1<=m/\m+k=nrem) ⟨1,rfl,rfl,e8 _,by lia⟩ ?_ ?_) ?_)
 ·rintro _ k b st ⟨m,rfl,rfl,m1,hm⟩
  refine y1 (z1C (by lia) (by lia) ?_)
  try dsimp only
  exact Y0 (fun _=>Z9 ⟨m,rfl,rfl,m1,by lia⟩) fun _=>Y3 ⟨m+1,rfl,rfl,by lia,by lia⟩
 ·rintro b st ⟨m,rfl,rfl,m1,hm⟩
  exact⟨m,rfl,rfl,m1,by lia⟩
 rintro v st ⟨m,rfl,rfl,m1,m2⟩
 try dsimp only
 refine Y0 (fun _=>j4 (h m q m1 m2 ha hs)) fun c1=> ?_
 erw[beq_iff_eq] at c1
 have m3:m<nrem:=by lia
 clear c1 m2
 refine Y0 (fun c2=> ?_) fun c2=> ?_
 ·refine y1 (z1C (by lia) (by lia) ?_)
  try dsimp only
  refine Y0 (fun _=>j4 (h m q m1 (by lia) ha hs)) fun c3=> ?_
  refine y1 (z39 ?_)
  have ha:=z0G (i:=lo) (j:=lo+m) (k:=(lo+m -lo)/2) ha
  have hs:=(U1 (i:=lo) (j:=lo+m) (k:=(lo+m -lo)/2)).trans hs
  generalize mirror q lo (lo+m) ((lo+m -lo)/2)=q at ha hs⊢
  refine y1 (z1Y ?_)
  refine y1 (Q9 (P:=fun v st'=> ∃(m z:Nat) (q:Array Nat),v=(fun _=>(none,m,z))/\st'=sst q p g/\1<=m/\m<=nrem/\Al T q/\q.size=n) (X3 (I:=fun k v st'=> ∃(m z:Nat) (q:Array Nat),v=(fun _=>(none,m,z))/\st'=sst q p g/\1<=m/\m+k=nrem/\Al T q/\q.size=n) ⟨m+1,0,q,rfl,rfl,by lia,by lia,ha,hs⟩ ?_ ?_) ?_)
  ·rintro _ k b st ⟨m,z,q,rfl,rfl,m1,hm,ha,hs⟩
   try dsimp only
   refine y1 (z1C (by lia) (by lia) ?_)
   try dsimp only
   refine Y0 (fun _=> ?_) fun _=> ?_
   ·refine Y0 (fun _=>y1 (z39 (Y3 ⟨m+1,0,_,rfl,rfl,by lia,by lia,z0G ha,U1.trans hs⟩))) fun _=>Y3 ⟨m+1,0,_,rfl,rfl,by lia,by lia,ha,hs⟩
   ·refine y1 (z1C (by lia) (by lia) ?_)
    try dsimp only
    exact Y0 (fun _=>Z9 ⟨m,z,_,rfl,rfl,m1,by lia,ha,hs⟩) fun _=>Y3 ⟨m+1,_,_,rfl,rfl,by lia,by lia,ha,hs⟩
  ·rintro b st ⟨m,z,q,rfl,rfl,m1,hm,ha,hs⟩
   exact⟨m,z,q,rfl,rfl,m1,by lia,ha,hs⟩
  rintro v st ⟨m,z,q,rfl,rfl,m1,m2,ha,hs⟩
  try dsimp only
  refine Y0 (fun _=>y1 (z39 ?_)) fun _=> ?_
  ·refine y1 (z39 ?_)
   exact z5r (fun _ _=>rfl) (fun _=>rfl) (U1.trans (U1.trans hs)) hl m1 m2 fun k k1 k2=>h k _ k1 k2 (z0G (z0G ha)) (U1.trans (U1.trans hs))
  ·refine y1 (z39 ?_)
   exact z5r (fun _ _=>rfl) (fun _=>rfl) (U1.trans hs) hl m1 m2 fun k k1 k2=>h k _ k1 k2 (z0G ha) (U1.trans hs)
 ·refine y1 (z1Y ?_)
  refine y1 (Q9 (P:=fun v st'=> ∃(m z:Nat) (q:Array Nat),v=(fun _=>(none,m,z))/\st'=sst q p g/\1<=m/\m<=nrem/\Al T q/\q.size=n) (X3 (I:=fun k v st'=> ∃(m z:Nat) (q:Array Nat),v=(fun _=>(none,m,z))/\st'=sst q p g/\1<=m/\m+k=nrem/\Al T q/\q.size=n) ⟨m+1,0,q,rfl,rfl,by lia,by lia,ha,hs⟩ ?_ ?_) ?_)
  ·rintro _ k b st ⟨m,z,q,rfl,rfl,m1,hm,ha,hs⟩
   try dsimp only
   refine y1 (z1C (by lia) (by lia) ?_)
   try dsimp only
   refine Y0 (fun _=> ?_) fun _=> ?_
   ·refine Y0 (fun _=>y1 (z39 (Y3 ⟨m+1,0,_,rfl,rfl,by lia,by lia,z0G ha,U1.trans hs⟩))) fun _=>Y3 ⟨m+1,0,_,rfl,rfl,by lia,by lia,ha,hs⟩
   ·refine y1 (z1C (by lia) (by lia) ?_)
    try dsimp only
    exact Y0 (fun _=>Z9 ⟨m,z,_,rfl,rfl,m1,by lia,ha,hs⟩) fun _=>Y3 ⟨m+1,_,_,rfl,rfl,by lia,by lia,ha,hs⟩
  ·rintro b st ⟨m,z,q,rfl,rfl,m1,hm,ha,hs⟩
   exact⟨m,z,q,rfl,rfl,m1,by lia,ha,hs⟩
  rintro v st ⟨m,z,q,rfl,rfl,m1,m2,ha,hs⟩
  try dsimp only
  refine Y0 (fun _=>y1 (z39 ?_)) fun _=> ?_
  ·refine y1 (z39 ?_)
   exact z5r (fun _ _=>rfl) (fun _=>rfl) (U1.trans (U1.trans hs)) hl m1 m2 fun k k1 k2=>h k _ k1 k2 (z0G (z0G ha)) (U1.trans (U1.trans hs))
  ·refine y1 (z39 ?_)
   exact z5r (fun _ _=>rfl) (fun _=>rfl) (U1.trans hs) hl m1 m2 fun k k1 k2=>h k _ k1 k2 (z0G ha) (U1.trans hs)
end So
set_option linter.unusedVariables false
namespace So
open PySem PySem.W PyProof.Rows
variable{cmp:Nat->Nat->Bool}{α β:Type}{q:Array Nat}{p:Array (Nat×Nat×Nat)}{g:Nat}{T:Nat->Prop}{st:En->SortSt}
theorem zgW{lo n ok N:Nat}{P:(En->Bool)->(En->SortSt)->Prop}(ha:Al T q)(hs:q.size=N)(hl:lo+n<=N)(h: ∀q',Al T q'->q'.size=N->P (fun _=>true) (sst q' p g)):
 Det cmp (fun _=>binarySort' lo n ok) (sst q p g) P:=by
 refine y1 (Q9 (P:=fun v st'=> ∃q:Array Nat,v=(fun _=>(none,()))/\st'=sst q p g/\Al T q/\q.size=N) (ze4 (I:=fun k v st'=> ∃q:Array Nat,v=(fun _=>(none,()))/\st'=sst q p g/\Al T q/\q.size=N) ⟨q,rfl,rfl,ha,hs⟩ ?_ fun _ _ _ h=>h) ?_)
 ·rintro k b st hk ⟨q,rfl,rfl,ha,hs⟩
  try dsimp only
  refine y1 (Q9 (P:=fun v st'=> ∃l r:Nat,v=(fun _=>(none,l,r))/\st'=sst q p g) (X3 (I:=fun _ v st'=> ∃l r:Nat,v=(fun _=>(none,l,r))/\st'=sst q p g/\r<=k) ⟨0,k,rfl,rfl,e8 _⟩ ?_ ?_) ?_)
  ·rintro _ _ b st ⟨l,r,rfl,rfl,hr⟩
   try dsimp only
   refine Y0 (fun _=>Z9 ⟨l,r,rfl,rfl⟩) fun c=>y1 (z1C (by lia) (by lia) ?_)
   try dsimp only
   exact Y0 (fun _=>Y3 ⟨_,_,rfl,rfl,by lia⟩) fun _=>Y3 ⟨_,_,rfl,rfl,hr⟩
  ·rintro b st ⟨l,r,rfl,rfl,_⟩
   exact⟨l,r,rfl,rfl⟩
  ·rintro v st ⟨l,r,rfl,rfl⟩
   try dsimp only
   exact y1 (zdZ (Y3 ⟨_,rfl,rfl,ze2 ha,ze3.trans hs⟩))
 ·rintro v st ⟨q,rfl,rfl,ha,hs⟩
  exact j4 (h q ha hs)
noncomputable def Ch:Nat->List (Nat×Nat×Nat)->Nat->Prop
 |a,[],b=>a=b
 |a,r::l,b=>r.1=a/\1<=r.2.1/\Ch (a+r.2.1) l b
theorem ze5: ∀{l:List (Nat×Nat×Nat)} {a b:Nat},Ch a l b->a<=b
 |[],_,_,h=>L8 h
 |r::l,a,b,h=>s0 (Nat.le_add_right _ _) (ze5 h.2.2)
theorem z7h: ∀{l:List (Nat×Nat×Nat)} {a b n w:Nat},Ch a l b->1<=n->Ch a (l++[(b,n,w)]) (b+n)
 |[],a,b,n,w,h,hn=>by cases(show a=b from h);exact⟨rfl,hn,rfl⟩
 |r::l,a,b,n,w,h,hn=>⟨h.1,h.2.1,z7h h.2.2 hn⟩
theorem zar: ∀{l:List (Nat×Nat×Nat)} {a b i:Nat} {x y:Nat×Nat×Nat},Ch a l b->l[i]? =some x->l[i+1]? =some y->y.1=x.1+x.2.1/\1<=x.2.1/\1<=y.2.1/\y.1+y.2.1<=b/\∀w,Ch a ((l.set i (x.1,x.2.1+y.2.1,w)).eraseIdx (i+1)) b
 |[],_,_,_,_,_,_,h,_=>by simp at h
 |[_],_,_,0,_,_,_,_,h=>by simp at h
 |[_],_,_,_+1,_,_,_,h,_=>by simp at h
 |u::v::l,a,b,0,x,y,hc,hx,hy=>by
  erw[List.getElem?_cons_zero,Option.some.injEq] at hx
  erw[E7,List.getElem?_cons_succ,List.getElem?_cons_zero,Option.some.injEq] at hy
  subst hx hy
  obtain⟨h1,h2,h3,h4,h5⟩:=hc
  refine⟨by lia,h2,h4,by have:=ze5 h5;lia,fun w=> ?_⟩
  erw[r6,E7,B7,List.eraseIdx_cons_zero]
  refine⟨h1,by show 1<=_+_;lia, ?_⟩
  show Ch (a+(u.2.1+v.2.1)) l b
  rw[<-D7];exact h5
 |u::v::l,a,b,i+1,x,y,hc,hx,hy=>by
  erw[List.getElem?_cons_succ] at hx hy
  obtain⟨q1,q2,q3,q4,q5⟩:=zar hc.2.2 hx hy
  refine⟨q1,q2,q3,q4,fun w=> ?_⟩
  rw[A4,B7]
  exact⟨hc.1,hc.2.1,q5 w⟩
theorem z7i{f:Nat×Nat×Nat->Nat×Nat×Nat}(hf: ∀x,(f x).1=x.1/\(f x).2.1=x.2.1): ∀{l:List (Nat×Nat×Nat)} {a b:Nat} (i:Nat),Ch a l b->Ch a (l.modify i f) b
 |[],_,_,i,h=>by rw[List.modify_nil];exact h
 |r::l,a,b,0,h=>by
  rw[List.modify_zero_cons]
  exact⟨(hf r).1.trans h.1,by rw[(hf r).2];exact h.2.1,by rw[(hf r).2];exact h.2.2⟩
 |r::l,a,b,i+1,h=>by
  rw[List.modify_succ_cons]
  exact⟨h.1,h.2.1,z7i hf i h.2.2⟩
theorem z7j(sa:Nat)(e:En): ∀(m:List Nat) (j:Nat) (q:Array Nat),((m.map fun i=>im i e).zipIdx j).foldl (fun a x=>match x with|(p,j)=>a.setIfInBounds (sa+j) p) (ar q e)=ar ((m.zipIdx j).foldl (fun a x=>match x with|(p,j)=>a.setIfInBounds (sa+j) p) q) e
 |[],_,_=>rfl
 |i::m,j,q=>by
  rw[b9,L5,L5,D9,D9]
  have:(ar q e).setIfInBounds (sa+j) (im i e)=ar (q.setIfInBounds (sa+j) i) e:=by simp[ar,Array.map_setIfInBounds]
  dsimp only
  rw[this]
  exact z7j sa e m (j+1) _
theorem ze6{i x:Nat}(h:Al T q)(hx:T x):Al T (q.setIfInBounds i x):=fun k hk=>by
 rcases Array.mem_or_eq_of_mem_setIfInBounds hk with hk|rfl
 ·exact h k hk
 ·exact hx
theorem z7k(sa:Nat): ∀(m:List Nat) (j:Nat) (q:Array Nat),(∀i∈m,T i)->Al T q->Al T ((m.zipIdx j).foldl (fun a x=>match x with|(p,j)=>a.setIfInBounds (sa+j) p) q)/\((m.zipIdx j).foldl (fun a x=>match x with|(p,j)=>a.setIfInBounds (sa+j) p) q).size=q.size
 |[],_,_,_,h=>⟨h,rfl⟩
 |i::m,j,q,hm,h=>by
  rw[L5,D9]
  obtain⟨h1,h2⟩:=z7k sa m (j+1) (q.setIfInBounds (sa+j) i) (fun k hk=>hm k (b7 _ hk)) (ze6 h (hm i e9))
  exact⟨h1,h2.trans Array.size_setIfInBounds⟩
end So
namespace So
open PySem PySem.W PyProof.Rows
variable{cmp:Nat->Nat->Bool}{α β:Type}{q:Array Nat}{p:Array (Nat×Nat×Nat)}{g:Nat}{T:Nat->Prop}{st:En->SortSt}
theorem z0H{e:En}:pendingOf (sst q p g e)=p:=rfl
theorem zbF{i lo N:Nat}{P:(En->Bool)->(En->SortSt)->Prop}(ha:Al T q)(hs:q.size=N)(hc:Ch 0 p.toList lo)(hl:lo<=N)(hi:i+1<p.size)(h: ∀q' p' g',Al T q'->q'.size=N->Ch 0 p'.toList lo->P (fun _=>true) (sst q' p' g')):
 Det cmp (fun _=>mergeAt' i) (sst q p g) P:=by
 refine y1 (z1X ?_)
 obtain⟨x,hx⟩: ∃x,p[i]? =some x:=⟨p[i],Array.getElem?_eq_getElem (by lia)⟩
 obtain⟨y,hy⟩: ∃y,p[i+1]? =some y:=⟨p[i+1],Array.getElem?_eq_getElem hi⟩
 obtain⟨sa,na,pw⟩:=x
 obtain⟨sb,nb,pw'⟩:=y
 obtain⟨c1,c2,c3,c4,c5⟩:=zar hc (by rw[Array.getElem?_toList];exact hx) (by rw[Array.getElem?_toList];exact hy)
 dsimp only at c1 c2 c3 c4 c5
 have hp':Ch 0 ((p.setIfInBounds i (sa,na+nb,pw)).eraseIdxIfInBounds (i+1)).toList lo:=by
  have e:((p.setIfInBounds i (sa,na+nb,pw)).eraseIdxIfInBounds (i+1)).toList=(p.toList.set i (sa,na+nb,pw)).eraseIdx (i+1):=by simp
  rw[e];exact c5 pw
 have e1: ∀e,(pendingOf (sst q p g e))[i]? =some (sa,na,pw):=fun _=>hx
 have e2: ∀e,(pendingOf (sst q p g e))[i+1]? =some (sb,nb,pw'):=fun _=>hy
 erw[e1,e2]
 refine y1 (zgS (a:=sst q ((p.setIfInBounds i (sa,na+nb,pw)).eraseIdxIfInBounds (i+1)) g) ?_)
 generalize (p.setIfInBounds i (sa,na+nb,pw)).eraseIdxIfInBounds (i+1)=p' at hp'⊢
 refine y1 (Q1 (q:=q) (by lia) ?_)
 refine y1 (z0h (r:=q) (by lia) (by lia) fun k hk=> ?_)
 try dsimp only
 refine Y0 (fun _=>j4 (h _ _ _ ha hs hp')) fun c6=> ?_
 erw[beq_iff_eq] at c6
 refine y1 (Q1 (q:=q) (by lia) ?_)
 refine y1 (z0h (r:=q) (by lia) (by lia) fun k2 hk2=> ?_)
 try dsimp only
 refine Y0 (fun _=>j4 (h _ _ _ ha hs hp')) fun c7=> ?_
 erw[beq_iff_eq] at c7
 have sx:(q.extract (sa+k) sb).size=na -k:=by rw[Array.size_extract];lia
 have sy:(q.extract sb (sb+k2)).size=k2:=by rw[Array.size_extract];lia
 have ex: ∀e,(arrOf (sst q p g e)).extract (sa+k) sb=ar (q.extract (sa+k) sb) e:=fun e=>G3
 have ey: ∀e,(arrOf (sst q p g e)).extract sb (sb+k2)=ar (q.extract sb (sb+k2)) e:=fun e=>G3
 erw[ex,ey]
 have fin: ∀(mq:Array Nat) (g':Nat),Al T mq->∀(f:En->SortSt->SortSt),(∀e,f e (sst q p' g' e)=SortSt.mk' e.1 ((ar mq e).toList.zipIdx.foldl (fun a x=>match x with|(p,j)=>a.setIfInBounds (sa+k+j) p) (ar q e)) p' g' none)->Det cmp (fun e=>(modify (f e):StateT SortSt Sem PUnit)>>=fun _=>get>>=fun s=>pure (failedOf s).isNone) (sst q p' g') P:=by
  intro mq g' hm f hf
  obtain⟨h1,h2⟩:=z7k (T:=T) (sa+k) mq.toList 0 q (fun i hi=>hm i (by simpa using hi)) ha
  refine y1 (X2 ?_)
  have e3:(fun e=>f e (sst q p' g' e))=sst ((mq.toList.zipIdx 0).foldl (fun a x=>match x with|(p,j)=>a.setIfInBounds (sa+k+j) p) q) p' g':=by
   funext e
   rw[hf]
   unfold sst
   have:(ar mq e).toList=mq.toList.map fun i=>im i e:=by simp[ar]
   rw[this,z7j]
  rw[e3]
  exact y1 (z1X (j4 (h _ _ _ h1 (h2.trans hs) hp')))
 refine Y0 (fun _=> ?_) fun _=> ?_
 ·refine y1 (zgT (T:=T) (Y8 ha) (Y8 ha) (by lia) (by lia) fun mq g' hm=> ?_)
  exact fin mq g' hm _ fun e=>rfl
 ·refine y1 (zgU (T:=T) (Y8 ha) (Y8 ha) (by lia) (by lia) fun mq g' hm=> ?_)
  exact fin mq g' hm _ fun e=>rfl
end So
namespace So
open PySem PySem.W PyProof.Rows
variable{cmp:Nat->Nat->Bool}{α β:Type}{q:Array Nat}{p:Array (Nat×Nat×Nat)}{g:Nat}{T:Nat->Prop}{st:En->SortSt}
theorem ze7{c:Prop}{i:Decidable c}{n:Nat}(h:2<=n): @ite Nat c i (n - 2 - 1) (n - 2)+1<n:=by
 by_cases hc:c
 ·rw[if_pos hc];lia
 ·rw[if_neg hc];lia
theorem ze8{i:En->Nat}{lo N:Nat}{P:(En->Bool)->(En->SortSt)->Prop}(hE: ∀e e',i e=i e')(ha:Al T q)(hs:q.size=N)(hc:Ch 0 p.toList lo)(hl:lo<=N)(hi: ∀e,i e+1<p.size)(h: ∀q' p' g',Al T q'->q'.size=N->Ch 0 p'.toList lo->P (fun _=>true) (sst q' p' g')):
 Det cmp (fun e=>mergeAt' (i e)) (sst q p g) P:=by
 have e0:i=fun _=>i (general', #[]):=funext fun e=>hE e _
 rw[e0]
 exact zbF ha hs hc hl (hi _) h
theorem ze9{N:Nat}{P:(En->Unit)->(En->SortSt)->Prop}(ha:Al T q)(hs:q.size=N)(h: ∀q' p' g',Al T q'->q'.size=N->P (fun _=>()) (sst q' p' g')):
 Det cmp (fun _=>sortRuns') (sst q #[] g) P:=by
 refine y1 (z1X ?_)
 have e0: ∀e,(arrOf (sst q #[] g e)).size=N:=fun e=>z1j.trans hs
 erw[e0]
 refine y1 (Q9 (P:=fun v st'=> ∃(lo:Nat) (q:Array Nat) (p:Array (Nat×Nat×Nat)) (g:Nat),v=(fun _=>(none,lo))/\st'=sst q p g/\Al T q/\q.size=N/\Ch 0 p.toList lo/\lo<=N) (X3 (I:=fun _ v st'=> ∃(lo:Nat) (q:Array Nat) (p:Array (Nat×Nat×Nat)) (g:Nat),v=(fun _=>(none,lo))/\st'=sst q p g/\Al T q/\q.size=N/\Ch 0 p.toList lo/\lo<=N) ⟨0,q, #[],g,rfl,rfl,ha,hs,rfl,B9 _⟩ ?_ fun _ _ h=>h) ?_)
 ·rintro _ _ b st ⟨lo,q,p,g,rfl,rfl,ha,hs,hc,hl⟩
  try dsimp only
  refine Y0 (fun _=>Z9 ⟨lo,q,p,g,rfl,rfl,ha,hs,hc,hl⟩) fun c1=> ?_
  refine y1 (zgV (T:=T) (n:=N) ha hs (by lia) (by lia) fun k q k1 k2 ha hs=> ?_)
  try dsimp only
  have tail: ∀(n:Nat) (q:Array Nat) (p:Array (Nat×Nat×Nat)) (g:Nat),1<=n->lo+n<=N->Al T q->q.size=N->Ch 0 p.toList lo->∀(f:SortSt->SortSt),(∀e,f (sst q p g e)=SortSt.mk' e.1 (ar q e) (p.push (lo,n,0)) g none)->Det cmp (fun _=>(modify f:StateT SortSt Sem PUnit)>>=fun _=>pure (ForInStep.yield ((none,lo+n):Option Unit×Nat))) (sst q p g) fun v st'=>(∃c,v=(fun e=> .done (c e))/\∃(lo:Nat) (q:Array Nat) (p:Array (Nat×Nat×Nat)) (g:Nat),c=(fun _=>(none,lo))/\st'=sst q p g/\Al T q/\q.size=N/\Ch 0 p.toList lo/\lo<=N)\/∃c,v=(fun e=> .yield (c e))/\∃(lo:Nat) (q:Array Nat) (p:Array (Nat×Nat×Nat)) (g:Nat),c=(fun _=>(none,lo))/\st'=sst q p g/\Al T q/\q.size=N/\Ch 0 p.toList lo/\lo<=N:=by
   intro n q p g n1 n2 ha hs hc f hf
   refine y1 (X2 ?_)
   erw[hf]
   exact Y3 ⟨lo+n,q,p.push (lo,n,0),g,rfl,rfl,ha,hs,by rw[Array.toList_push];exact z7h hc n1,n2⟩
  refine Y0 (fun c2=> ?_) fun c2=> ?_
  ·refine y1 (z1Y ?_)
   refine y1 (zgW (T:=T) (N:=N) ha hs (by lia) fun q ha hs=> ?_)
   try dsimp only
   refine Y0 (fun c=>by cases c) fun _=> ?_
   refine y1 (z1X ?_)
   try dsimp only
   erw[z0H]
   cases hb:p.back? with
   |none=>exact tail _ q p g (by lia) (by lia) ha hs hc _ fun e=>rfl
   |some x=>
    obtain⟨s1,n1,w⟩:=x
    try dsimp only
    refine y1 (Q9 (P:=fun v st'=> ∃(q:Array Nat) (p:Array (Nat×Nat×Nat)) (g:Nat),v=(fun _=>(none,()))/\st'=sst q p g/\Al T q/\q.size=N/\Ch 0 p.toList lo) (X3 (I:=fun _ v st'=> ∃(q:Array Nat) (p:Array (Nat×Nat×Nat)) (g:Nat),v=(fun _=>(none,()))/\st'=sst q p g/\Al T q/\q.size=N/\Ch 0 p.toList lo) ⟨q,p,g,rfl,rfl,ha,hs,hc⟩ ?_ fun _ _ h=>h) ?_)
    ·rintro _ _ b st ⟨q,p,g,rfl,rfl,ha,hs,hc⟩
     refine y1 (z1X ?_)
     try dsimp only
     erw[z0H]
     by_cases hp:p.size>1
     ·have hp':(p.size>1)=True:=eq_true hp
      erw[hp',if_true]
      obtain⟨x,hx⟩: ∃x,p[p.size - 2]? =some x:=⟨p[p.size - 2],Array.getElem?_eq_getElem (by lia)⟩
      obtain⟨s1,n1,w⟩:=x
      erw[hx]
      refine Y0 (fun _=>Z9 ⟨q,p,g,rfl,rfl,ha,hs,hc⟩) fun _=> ?_
      refine y1 (zbF (T:=T) (N:=N) ha hs hc hl (by lia) fun q p g ha hs hc=> ?_)
      try dsimp only
      exact Y0 (fun c=>by cases c) fun _=>Y3 ⟨q,p,g,rfl,rfl,ha,hs,hc⟩
     ·have hp':(p.size>1)=False:=eq_false hp
      erw[hp',if_false]
      exact Z9 ⟨q,p,g,rfl,rfl,ha,hs,hc⟩
    ·rintro v st ⟨q,p,g,rfl,rfl,ha,hs,hc⟩
     try dsimp only
     refine y1 (X2 ?_)
     exact tail _ q (p.modify (p.size - 1) fun x=>(x.1,x.2.1,_)) g (by lia) (by lia) ha hs (by rw[Array.toList_modify];refine z7i ?_ _ hc;exact fun x=>⟨rfl,rfl⟩) _ fun e=>rfl
  ·refine y1 (z1X ?_)
   try dsimp only
   erw[z0H]
   cases hb:p.back? with
   |none=>exact tail _ q p g (by lia) (by lia) ha hs hc _ fun e=>rfl
   |some x=>
    obtain⟨s1,n1,w⟩:=x
    try dsimp only
    refine y1 (Q9 (P:=fun v st'=> ∃(q:Array Nat) (p:Array (Nat×Nat×Nat)) (g:Nat),v=(fun _=>(none,()))/\st'=sst q p g/\Al T q/\q.size=N/\Ch 0 p.toList lo) (X3 (I:=fun _ v st'=> ∃(q:Array Nat) (p:Array (Nat×Nat×Nat)) (g:Nat),v=(fun _=>(none,()))/\st'=sst q p g/\Al T q/\q.size=N/\Ch 0 p.toList lo) ⟨q,p,g,rfl,rfl,ha,hs,hc⟩ ?_ fun _ _ h=>h) ?_)
    ·rintro _ _ b st ⟨q,p,g,rfl,rfl,ha,hs,hc⟩
     refine y1 (z1X ?_)
     try dsimp only
     erw[z0H]
     by_cases hp:p.size>1
     ·have hp':(p.size>1)=True:=eq_true hp
      erw[hp',if_true]
      obtain⟨x,hx⟩: ∃x,p[p.size - 2]? =some x:=⟨p[p.size - 2],Array.getElem?_eq_getElem (by lia)⟩
      obtain⟨s1,n1,w⟩:=x
      erw[hx]
      refine Y0 (fun _=>Z9 ⟨q,p,g,rfl,rfl,ha,hs,hc⟩) fun _=> ?_
      refine y1 (zbF (T:=T) (N:=N) ha hs hc hl (by lia) fun q p g ha hs hc=> ?_)
      try dsimp only
      exact Y0 (fun c=>by cases c) fun _=>Y3 ⟨q,p,g,rfl,rfl,ha,hs,hc⟩
     ·have hp':(p.size>1)=False:=eq_false hp
      erw[hp',if_false]
      exact Z9 ⟨q,p,g,rfl,rfl,ha,hs,hc⟩
    ·rintro v st ⟨q,p,g,rfl,rfl,ha,hs,hc⟩
     try dsimp only
     refine y1 (X2 ?_)
     exact tail _ q (p.modify (p.size - 1) fun x=>(x.1,x.2.1,_)) g (by lia) (by lia) ha hs (by rw[Array.toList_modify];refine z7i ?_ _ hc;exact fun x=>⟨rfl,rfl⟩) _ fun e=>rfl
 ·rintro v st ⟨lo,q,p,g,rfl,rfl,ha,hs,hc,hl⟩
  try dsimp only
  refine y1 (Q9 (P:=fun v st'=> ∃(q:Array Nat) (p:Array (Nat×Nat×Nat)) (g:Nat),v=(fun _=>(none,()))/\st'=sst q p g/\Al T q/\q.size=N/\Ch 0 p.toList lo) (X3 (I:=fun _ v st'=> ∃(q:Array Nat) (p:Array (Nat×Nat×Nat)) (g:Nat),v=(fun _=>(none,()))/\st'=sst q p g/\Al T q/\q.size=N/\Ch 0 p.toList lo) ⟨q,p,g,rfl,rfl,ha,hs,hc⟩ ?_ fun _ _ h=>h) ?_)
  ·rintro _ _ b st ⟨q,p,g,rfl,rfl,ha,hs,hc⟩
   refine y1 (z1X ?_)
   try dsimp only
   erw[z0H]
   refine Y0 (fun _=>Z9 ⟨q,p,g,rfl,rfl,ha,hs,hc⟩) fun c1=> ?_
   refine y1 (ze8 (T:=T) (N:=N) (fun _ _=>rfl) ha hs hc hl (fun e=> ?_) fun q p g ha hs hc=> ?_)
   ·exact ze7 (by lia)
   try dsimp only
   exact Y0 (fun c=>by cases c) fun _=>Y3 ⟨q,p,g,rfl,rfl,ha,hs,hc⟩
  ·rintro v st ⟨q,p,g,rfl,rfl,ha,hs,hc⟩
   exact j4 (h q p g ha hs)
end So
namespace So
open PySem PySem.W PyProof.Rows PySem.SeqAt
open AutoSeq1 (wpAny_loadPart')
noncomputable def zas(A:Around)(s:Shared)(y x:Value)(b:Bool):Prop:=
 ∀(prog:Program) (w:World) (E:Value->Shared->Prop) (Q:Value->Shared->Prop),Q (.bool b) s->wpAny (model prog w) A (richCompare .Lt y x) Q E s
noncomputable def z4F(A:Around)(s:Shared):List Value->List Value->Bool->Prop
 |v::vs,u::us,r=> ∃e,EqAt A s v u e/\if e=true then z4F A s vs us r else zas A s v u r
 |[],us,r=>r=decide (0<us.length)
 |_::_,[],r=>r=false
theorem zbG{A:Around}{s:Shared}: ∀{vs us:List Value} {r:Bool},vs.zip us=[]->z4F A s vs us r->r=decide (vs.length<us.length)
 |[],us,r,_,h=>h
 |v::vs,[],r,_,h=>by rw[show r=false from h];simp
theorem z6b(l b:Addr)(items items2:Array Value)(n n2:Nat)(dd dd2:Option Addr)(sl sl2:Array (Option Value))(r:Bool):
 Meets (Builtin.«tuple.__lt__» ⟨[.ref l, .ref b],[]⟩)
  (fun A R s=>s.heap.get? l=some {cls:= .type "tuple",dict:=dd,data:= .seq items n,slots:=sl}/\s.heap.get? b=some {cls:= .type "tuple",dict:=dd2,data:= .seq items2 n2,slots:=sl2}/\
   z4F A.in1 s items.toList items2.toList r/\R (.ok (.ret (.bool r))) s):=
 .of_wp fun prog w A R s h=>by
  obtain⟨hp,g,d,tk,os⟩:=s;obtain⟨hl,hb,he,h⟩:=h
  have f2:=AutoSeq1.sub_tuple_tuple
  wp_walk using wpAny_loadPart' hl,wpAny_loadPart' hb,wpAny_forIn_list _ (fun rest b s'=>b.1=none/\s'=⟨hp,g,d,tk,os⟩/\∃vs us,rest=vs.zip us/\z4F A.in1 ⟨hp,g,d,tk,os⟩ vs us r/\(vs.length<us.length↔items.size<items2.size)) _
  case turn=>
   rintro ⟨y,x⟩ rest b s' ⟨hb',rfl,vs,us,hz,hR,hs⟩
   match vs,us,hz,hR with
   |v::vs,u::us,hz,hR=>
    rw[M9] at hz
    injection hz with h1 h2
    injection h1 with h3 h4
    subst h2 h3 h4
    obtain⟨e,q1,q2⟩:=hR
    refine wpAny_bind (q1 prog w _ _ ?_)
    cases e with
    |true=>
     wp_walk
     exact⟨rfl,rfl,vs,us,rfl,q2,by simpa using hs⟩
    |false=>
     erw[t8,if_false] at q2
     erw[O8,if_true]
     refine wpAny_bind (wpAny_rule (wpAny_bind (q2 prog w _ _ ?_)))
     exact wpAny_bind (wpAny_pure (wpAny_pure (wpAny_pure ⟨_,rfl,h⟩)))
   |[],_,hz,_=>simp at hz
   |_::_,[],hz,_=>simp at hz
  case fin=>
   rintro ⟨b1,b2⟩ s' ⟨hb',rfl,vs,us,hz,hR,hs⟩
   simp only at hb'
   subst hb'
   have:=zbG hz.symm hR
   wp_walk
   refine⟨_,rfl, ?_⟩
   have e:r=decide (items.size<items2.size):=by rw[this];exact decide_eq_decide.mpr hs
   rw[e] at h
   exact h
  case h=>
   exact⟨rfl,rfl,_,_,rfl,he,by simp⟩
theorem zas.int{A:Around}{s:Shared}(a b:Int)(t u:Tok):zas A s (.int a t) (.int b u) (decide (a<b)):=fun prog w E Q h=>wpAny_lt_int h
theorem zas.tuples{A:Around}{s:Shared}{l b:Addr}{items items2:Array Value}{r:Bool}(hl:s.heap.IsTuple l items)(hb:s.heap.IsTuple b items2)(hu:A.units<cLine)(he:z4F A.in1 s items.toList items2.toList r):zas A s (.ref l) (.ref b) r:=fun prog w E Q h=>by
 obtain⟨⟨cls,dd,data,sl⟩,ho,hc,n,hd⟩:=id hl
 obtain⟨⟨cls2,dd2,data2,sl2⟩,ho2,hc2,n2,hd2⟩:=id hb
 simp only at hc hd hc2 hd2
 subst hc hd hc2 hd2
 exact richCompare_meets_room (op:= .Lt) ⟨_,ho,rfl⟩ ⟨_,ho2,rfl⟩ F.slot_tuple_lt F.entry_tuple_lt (F.args_tuple_lt_2 _ _) (z6b l b items items2 n n2 dd dd2 sl sl2 r)
  ⟨ho,ho2,he,show Value.bool r≠Value.notImplemented/\Q (.bool r) s from⟨(fun x=>nomatch x),h⟩⟩ hu
mutual
noncomputable def ltD:PyData->PyData->Option Bool
 | .int a, .int b=>some (decide (a<b))
 | .tuple xs, .tuple ys=>ltL xs ys
 |_,_=>none
noncomputable def ltL:List PyData->List PyData->Option Bool
 |x::xs,y::ys=>if PyData.eqv x y=true then ltL xs ys else ltD x y
 |[],ys=>some (decide (0<ys.length))
 |_::_,[]=>some false
end
end So
namespace So
open PySem PySem.W PyProof.Rows PySem.SeqAt
mutual
theorem z99: ∀(da db:PyData) (A:Around) (s:Shared) (a b:Value) (as bs:List Addr) (r:Bool),Reads s.heap a da as->Reads s.heap b db bs->da.canLay0=true->db.canLay0=true->A.units+min da.depth db.depth<cLine->ltD da db=some r->zas A s a b r
 | .int x,_,A,s,_,_,_,_,r,ra,rb,_,_,_,h=>by
  cases ra with
  |int _ t=>
   cases rb with
   |int y u=>
    erw[ltD,Option.some.injEq] at h
    subst h
    exact zas.int _ _ _ _
   |_=>simp[ltD] at h
 | .tuple xs,_,A,s,_,_,_,_,r,ra,rb,ha,hb,hu,h=>by
  cases ra with
  | @tuple l o vs n _ as₁ h1 h2 h3 h4=>
   cases rb with
   | @tuple l' o' vs' n' ys as' k1 k2 k3 k4=>
    have ha:PyData.canLayAll0 xs=true:=by simpa[PyData.canLay0] using ha
    have hb:PyData.canLayAll0 ys=true:=by simpa[PyData.canLay0] using hb
    erw[ltD] at h
    exact zas.tuples ⟨_,h1,h2,_,h3⟩ ⟨_,k1,k2,_,k3⟩ (room_here hu) (lex_reads xs ys A.in1 s _ _ _ _ r h4 k4 ha hb (room_in hu) h)
   |_=>simp[ltD] at h
 | .none,_,A,s,_,_,_,_,r,ra,rb,ha,hb,hu,h=>by simp[ltD] at h
 | .bool _,_,A,s,_,_,_,_,r,ra,rb,ha,hb,hu,h=>by simp[ltD] at h
 | .str _,_,A,s,_,_,_,_,r,ra,rb,ha,hb,hu,h=>by simp[ltD] at h
 | .list _,_,A,s,_,_,_,_,r,ra,rb,ha,hb,hu,h=>by simp[ltD] at h
 | .dict _,_,A,s,_,_,_,_,r,ra,rb,ha,hb,hu,h=>by simp[ltD] at h
theorem lex_reads: ∀(xs ys:List PyData) (A:Around) (s:Shared) (vs ws:List Value) (as bs:List Addr) (r:Bool),ReadsAll s.heap vs xs as->ReadsAll s.heap ws ys bs->PyData.canLayAll0 xs=true->PyData.canLayAll0 ys=true->
 A.units+min (PyData.depthAll xs) (PyData.depthAll ys)<cLine->ltL xs ys=some r->z4F A s vs ws r
 |[],ys,A,s,vs,ws,_,_,r,ra,rb,_,_,_,h=>by
  cases ra
  erw[ltL,Option.some.injEq] at h
  subst h
  show _=decide (0<ws.length)
  have e: ∀{ws:List Value} {ys:List PyData} {bs:List Addr},ReadsAll s.heap ws ys bs->ws.length=ys.length:=fun{ws}=>by
   induction ws with
   |nil=>intro ys bs q;cases q;rfl
   |cons v vs ih=>intro ys bs q;cases q with|cons q1 q2=>rw[i5,i5,ih q2]
  rw[e rb]
 |_::_,[],A,s,vs,ws,_,_,r,ra,rb,_,_,_,h=>by
  cases rb
  cases ra
  erw[ltL,Option.some.injEq] at h
  exact h.symm
 |x::xs,y::ys,A,s,_,_,_,_,r,ra,rb,ha,hb,hu,h=>by
  have ha':x.canLay0=true/\PyData.canLayAll0 xs=true:=by simpa[PyData.canLayAll0] using ha
  have hb':y.canLay0=true/\PyData.canLayAll0 ys=true:=by simpa[PyData.canLayAll0] using hb
  cases ra with
  |cons r1 rs=>
  cases rb with
  |cons r1' rs'=>
   refine⟨PyData.eqv x y,eqAt_reads x y A s _ _ _ _ r1 r1' ha'.1 hb'.1 (room_head hu), ?_⟩
   rw[ltL] at h
   split
   ·rename_i e
    rw[if_pos e] at h
    exact lex_reads xs ys A s _ _ _ _ r rs rs' ha'.2 hb'.2 (room_tail hu) h
   ·rename_i e
    rw[if_neg e] at h
    exact z99 x y A s _ _ _ _ r r1 r1' ha'.1 hb'.1 (room_head hu) h
end
theorem z0w(n:Nat)(cmp:Nat->Nat->Bool): ∃q:Array Nat,(q.size=n/\Al (· <n) q)/\∃p g,∀(prog:Program) (w:World) (A:Around) (E:Value->Shared->Prop) (e:En) (G:Shared->Prop) (Q:Unit->SortSt->Shared->Prop) (s:Shared),Cmp prog w A cmp G e->G s->(∀s',G s'->Q () (sst q p g e) s')->kasC (model prog w) A E sortRuns' Q (sst (B5 n).toArray #[] 7 e) s:=by
 obtain⟨v,st',⟨q,p,g,rfl,h1,h2⟩,h⟩:=ze9 (cmp:=cmp) (T:=(· <n)) (q:=(B5 n).toArray) (g:=7) (N:=n) (P:=fun _ st'=> ∃q p g,st'=sst q p g/\q.size=n/\Al (· <n) q) (fun i hi=>by simpa using hi) (by simp) fun q' p' g' a b=>⟨q',p',g',rfl,b,a⟩
 exact⟨q,⟨h1,h2⟩,p,g,h⟩
open Classical in
noncomputable def perm(n:Nat)(cmp:Nat->Nat->Bool):List Nat:=if n<2 then B5 n else(z0w n fun i j=>cmp (i %n) (j %n)).choose.toList
theorem perm_len{n:Nat}{cmp:Nat->Nat->Bool}:(perm n cmp).length=n:=by
 unfold perm
 split
 ·simp
 ·rw[Array.length_toList];exact(z0w n fun i j=>cmp (i %n) (j %n)).choose_spec.1.1
theorem perm_lt{n:Nat}{cmp:Nat->Nat->Bool}: ∀i∈perm n cmp,i<n:=by
 unfold perm
 split
 ·intro i hi;simpa using hi
 ·intro i hi;exact(z0w n fun i j=>cmp (i %n) (j %n)).choose_spec.1.2 i (by simpa using hi)
theorem zbH{vs:List Value}:(vs.toArray.zip vs.toArray).map (·.2)=vs.toArray:=by
 apply Array.ext_getElem?
 intro i
 by_cases hi:i<vs.length<;>simp[hi]
theorem z6c{vs:List Value}:(B5 vs.length).map (fun i=>vs.getD i Value.none)=vs:=by
 apply List.ext_getElem?
 intro i
 by_cases hi:i<vs.length<;>simp[hi]
section
variable{prog:Program}{w:World}{A:Around}{E:Value->Shared->Prop}{s:Shared}
theorem z3c{a:Addr}{vs:List Value}{n:Nat}{cmp:Nat->Nat->Bool}{P:PySem.Fin->Shared->Prop}(ho:s.heap.get? a=some (seqObj "list" vs.toArray n))(hz:vs.length<=sizeLine)
 (hk: ∀h',(∀b o,b≠a->s.heap.get? b=some o->h'.get? b=some o)->2<=vs.length->∃κ,(∀(Q:SortKind->Shared->Prop) E,Q κ {s with heap:=h'}->wpAny (model prog w) A (keyKind' vs.toArray) Q E {s with heap:=h'})/\
  ∀i j (hi:i<vs.length) (hj:j<vs.length) (C:Bool->Shared->Prop),C (cmp i j) {s with heap:=h'}->wpAny (model prog w) A (keyLt' κ vs[i] vs[j]) C (fun _ _=>False) {s with heap:=h'})
 (h: ∀h' e1,(∀b o,b≠a->s.heap.get? b=some o->h'.get? b=some o)->h'.get? a=some (seqObj "list" ((perm vs.length cmp).map fun i=>vs.getD i Value.none).toArray e1)->P (.done (.ret .none)) {s with heap:=h'}):
 wpAny (model prog w) A (Builtin.«list.sort» ⟨[.ref a],[]⟩) P E s:=by
 have ha:a<s.heap.objs.size:=Heap.lt_size ho
 obtain⟨e1,ho1⟩: ∃e1,(s.heap.update a (Obj.mapSeq fun _=>(#[]:Array Value))).get? a=some (seqObj "list" #[] e1):=⟨_,get?_update_seq ho fun _=> #[]⟩
 have ho3:(((s.heap.update a (Obj.mapSeq fun _=>(#[]:Array Value))).push (seqObj "tuple" vs.toArray 0)).push (seqObj "list" #[] 0)).get? a=some (seqObj "list" #[] e1):=Heap.get?_push_of_some _ (Heap.get?_push_of_some _ ho1)
 have kept: ∀b o,b≠a->s.heap.get? b=some o->(((s.heap.update a (Obj.mapSeq fun _=>(#[]:Array Value))).push (seqObj "tuple" vs.toArray 0)).push (seqObj "list" #[] 0)).get? b=some o:=fun b o hb q=>
  Heap.get?_push_of_some _ (Heap.get?_push_of_some _ ((Heap.get?_update_ne _ _ _ _ hb).trans q))
 rw[list_sort_plain]
 refine wpAny_bind (listItems_at ho rfl ?_)
 refine wpAny_bind (listUpdate_at ho rfl ?_ (by rw[i4];exact hz) (B9 _))
 refine wpAny_bind (seqEpoch_at ho1 rfl ?_)
 refine wpAny_bind (wpAny_newTuple ?_ (by show vs.length<=_;exact hz))
 refine wpAny_bind (wpAny_newList ?_ (B9 _))
 refine wpAny_holding ?_
 show wpAny (model prog w) A _ P E {s with heap:=((s.heap.update a (Obj.mapSeq fun _=>(#[]:Array Value))).push (seqObj "tuple" vs.toArray 0)).push (seqObj "list" #[] 0)}
 dsimp only
 generalize ((s.heap.update a (Obj.mapSeq fun _=>(#[]:Array Value))).push (seqObj "tuple" vs.toArray 0)).push (seqObj "list" #[] 0)=h1 at ho3 kept⊢
 have fin: ∀st':SortSt,(arrOf st').map (·.2)=((perm vs.length cmp).map fun i=>vs.getD i Value.none).toArray->failedOf st'=none->wpAny (model prog w) A (do
  let touched<-seqEpoch a
  Builtin.List.listUpdate (.ref a) fun _=>(arrOf st').map (·.2)
  if let some e:=failedOf st' then rule "list.sort.comparison-raised";throw e
  if(touched !=e1)=true then rule "list.sort.modified";raiseError "ValueError" "list modified during sort"
  ret .none) P E {s with heap:=h1}:=by
  intro st' har hf
  refine wpAny_bind (seqEpoch_at ho3 rfl ?_)
  rw[har]
  have hsz:((perm vs.length cmp).map fun i=>vs.getD i Value.none).toArray.size=vs.length:=by rw[i4,i9,perm_len]
  refine wpAny_bind (listUpdate_at ho3 rfl ?_ (B9 _) (s0 (L8 hsz) (by lia)))
  rw[hf]
  erw[bne_self_eq_false,t8,if_false]
  obtain⟨c2,hc2⟩: ∃c2,(h1.update a (Obj.mapSeq fun _=>((perm vs.length cmp).map fun i=>vs.getD i Value.none).toArray)).get? a=some (seqObj "list" ((perm vs.length cmp).map fun i=>vs.getD i Value.none).toArray c2):=⟨_,get?_update_seq ho3 fun _=>_⟩
  exact wpAny_pure (h _ c2 (fun b o hb q=>(Heap.get?_update_ne _ _ _ _ hb).trans (kept b o hb q)) hc2)
 by_cases h2:vs.length<2
 ·have h2':vs.toArray.size<2:=by simpa using h2
  rw[if_pos h2',if_pos h2']
  refine wpAny_bind (wpAny_pure ?_)
  rw[StateT.run_pure]
  refine wpAny_bind (wpAny_pure ?_)
  refine fin _ ?_ rfl
  show(vs.toArray.zip vs.toArray).map (·.2)=_
  unfold perm
  rw[if_pos h2,zbH,z6c]
 ·have h2': ¬vs.toArray.size<2:=by simpa using h2
  rw[if_neg h2',if_neg h2']
  obtain⟨κ,k1,k2⟩:=hk h1 kept (by lia)
  refine wpAny_bind (k1 _ _ ?_)
  have sz:(vs.toArray.zip vs.toArray).size=vs.length:=by simp
  have im_eq: ∀i,i<vs.length->im i (κ,vs.toArray.zip vs.toArray)=(vs.getD i Value.none,vs.getD i Value.none):=fun i hi=>by
   unfold im
   rw[sz,Nat.mod_eq_of_lt hi,kat_item rfl]
  have est:SortSt.mk' κ (vs.toArray.zip vs.toArray) #[] 7 none=sst (B5 vs.length).toArray #[] 7 (κ,vs.toArray.zip vs.toArray):=by
   unfold sst ar
   have e:(B5 vs.length).toArray.map (fun i=>im i (κ,vs.toArray.zip vs.toArray))=vs.toArray.zip vs.toArray:=by
    apply Array.ext_getElem?
    intro i
    by_cases hi:i<vs.length
    ·rw[Array.getElem?_map]
     have:=im_eq i hi
     erw[List.getElem?_toArray,List.getElem?_range hi,p4,this]
     simp[hi]
    ·simp[hi]
   rw[e]
  obtain⟨p,g,run⟩:=(z0w vs.length fun i j=>cmp (i %vs.length) (j %vs.length)).choose_spec.2
  have hpe:perm vs.length cmp=(z0w vs.length fun i j=>cmp (i %vs.length) (j %vs.length)).choose.toList:=by unfold perm;rw[if_neg h2]
  have hlt:=(z0w vs.length fun i j=>cmp (i %vs.length) (j %vs.length)).choose_spec.1.2
  generalize (z0w vs.length fun i j=>cmp (i %vs.length) (j %vs.length)).choose=q at run hpe hlt
  rw[est]
  have go:=run prog w A E (κ,vs.toArray.zip vs.toArray) (fun s'=>s'={s with heap:=h1}) (fun _ st' s'=>st'=sst q p g (κ,vs.toArray.zip vs.toArray)/\s'={s with heap:=h1}) {s with heap:=h1} (fun i j C s' hs hc=>by
   subst hs
   have l1:i %vs.length<vs.length:=Nat.mod_lt _ (by lia)
   have l2:j %vs.length<vs.length:=Nat.mod_lt _ (by lia)
   have hq:=k2 (i %vs.length) (j %vs.length) l1 l2 C (hc _ rfl)
   unfold kas_cmp
   erw[sz,kat_item rfl]
   rw[show vs.getD (i %vs.length) Value.none=vs[i %vs.length] by simp[l1],show vs.getD (j %vs.length) Value.none=vs[j %vs.length] by simp[l2]]
   exact hq) rfl fun s' hs=>⟨rfl,hs⟩
  refine wpAny_bind (wpAny_mono go ?_ fun _ _ e=>e)
  rintro ⟨⟨⟩,st'⟩ s' ⟨hst,hs⟩
  dsimp only at hst⊢
  subst hst hs
  refine fin _ ?_ rfl
  rw[hpe]
  apply Array.toList_inj.mp
  show((ar q (κ,vs.toArray.zip vs.toArray)).map (·.2)).toList=_
  unfold ar
  rw[Array.map_map,Array.toList_map]
  exact E5 fun i hi=>by show(im i (κ,vs.toArray.zip vs.toArray)).2=_;rw[im_eq i (hlt i (by simpa using hi))]
theorem call_sorted{l:Addr}{vs:List Value}{cmp:Nat->Nat->Bool}{Q:Value->Shared->Prop}(hl:s.heap.IsList l vs.toArray)(hz:vs.length<=sizeLine)
 (hk: ∀h',(∀b o,s.heap.get? b=some o->h'.get? b=some o)->2<=vs.length->∃κ,(∀(Q:SortKind->Shared->Prop) E,Q κ {s with heap:=h'}->wpAny (model prog w) A.in1.in1 (keyKind' vs.toArray) Q E {s with heap:=h'})/\
  ∀i j (hi:i<vs.length) (hj:j<vs.length) (C:Bool->Shared->Prop),C (cmp i j) {s with heap:=h'}->wpAny (model prog w) A.in1.in1 (keyLt' κ vs[i] vs[j]) C (fun _ _=>False) {s with heap:=h'})
 (h: ∀h' D e1,(∀b o,s.heap.get? b=some o->h'.get? b=some o)->s.heap.objs.size<=D->h'.get? D=some (seqObj "list" ((perm vs.length cmp).map fun i=>vs.getD i Value.none).toArray e1)->Q (.ref D) {s with heap:=h'}):
 wpAny (model prog w) A (call (.builtin "sorted") [.ref l]) Q E s:=by
 refine Calls.call_function_entry kind_sorted plain_sorted entry_sorted (args_sorted1 _) ?_
 unfold Builtin.«sorted»
 refine wpAny_bind (m:=checkCount "sorted" 1 1 _) (wpAny_pure ?_)
 refine wpAny_bind (collect_list hl ?_ hz)
 refine wpAny_bind (wpAny_newList ?_ hz)
 have hsz:((s.heap.push (seqObj "list" #[] 0)).update s.heap.objs.size (Obj.mapSeq (· ++vs.toArray))).objs.size=s.heap.objs.size+1:=by
  rw[Heap.size_update,size_push']
 have hoL:(((s.heap.push (seqObj "list" #[] 0)).update s.heap.objs.size (Obj.mapSeq (· ++vs.toArray))).push (seqObj "list" vs.toArray 0)).get? (s.heap.objs.size+1)=some (seqObj "list" vs.toArray 0):=by
  rw[<-hsz];exact Heap.get?_push_size _ rfl
 have keep: ∀b o,s.heap.get? b=some o->(((s.heap.push (seqObj "list" #[] 0)).update s.heap.objs.size (Obj.mapSeq (· ++vs.toArray))).push (seqObj "list" vs.toArray 0)).get? b=some o:=fun b o q=>by
  have hlt:b<s.heap.objs.size:=Heap.lt_size q
  rw[Heap.get?_push_ne _ _ _ (by rw[hsz];exact l0 (A6 hlt)),Heap.get?_update_ne _ _ _ _ (l0 hlt),Heap.get?_push_ne _ _ _ (l0 hlt)]
  exact q
 show wpAny _ _ _ _ _ {s with heap:=((s.heap.push (seqObj "list" #[] 0)).update s.heap.objs.size (Obj.mapSeq (· ++vs.toArray))).push (seqObj "list" vs.toArray 0)}
 rw[hsz]
 have ne: ∀{b o},s.heap.get? b=some o->b≠s.heap.objs.size+1:=fun q=>l0 (A6 (Heap.lt_size q))
 refine wpAny_bind (wpAny_holding (wpAny_call_entry slot_list_sort ⟨_,hoL,rfl⟩ entry_list_sort ?body (args_list_sort _)))
 case body=>
  refine z3c (s:={s with heap:=((s.heap.push (seqObj "list" #[] 0)).update s.heap.objs.size (Obj.mapSeq (· ++vs.toArray))).push (seqObj "list" vs.toArray 0)}) (cmp:=cmp) hoL hz (fun h' kp h2=> ?_) fun h' e1 kp hD=> ?_
  ·exact hk h' (fun b o q=>kp b o (ne q) (keep b o q)) h2
  ·exact⟨_,rfl,wpAny_pure ⟨_,rfl,h h' _ e1 (fun b o q=>kp b o (ne q) (keep b o q)) (O1 _) hD⟩⟩
end
end So
namespace L2
open PySem PySem.Spec PyProof.Rows
mutual
noncomputable def Dp(K:W.Frag)(H:Hp):PyData->V->Prop
 | .none,v=>v= .non
 | .bool b,v=>v= .bl b
 | .int i,v=>v= .int i
 | .str x,v=>v= .str x
 | .list ds,v=> ∃a xs,v= .ref a/\SqL K H a xs/\DpAll K H ds xs
 | .tuple ds,v=> ∃a xs,v= .ref a/\SqT K H a xs/\DpAll K H ds xs
 | .dict _,_=>False
noncomputable def DpAll(K:W.Frag)(H:Hp):List PyData->List V->Prop
 |[],xs=>xs=[]
 |d::ds,xs=> ∃x r,xs=x::r/\Dp K H d x/\DpAll K H ds r
end
section
variable{X:Cx}{pins:List (Addr×Obj)}{σ:St}{H:Hp}{s:Shared}
mutual
theorem Dp.reads(I:Inv X pins σ H s): ∀(d:PyData) (v:V) (u:Value),Dp X.K H d v->RelV v u->∃as,Reads s.heap u d as
 | .none,v,u,h,r=>by
  erw[Dp] at h;subst h;cases r;exact⟨_, .none⟩
 | .bool b,v,u,h,r=>by
  erw[Dp] at h;subst h;cases r;exact⟨_, .bool b⟩
 | .int i,v,u,h,r=>by
  erw[Dp] at h;subst h;obtain⟨t,rfl⟩:=r;exact⟨_, .int i t⟩
 | .str x,v,u,h,r=>by
  erw[Dp] at h;subst h;obtain⟨t,rfl⟩:=r;exact⟨_, .str x t⟩
 | .list ds,v,u,h,r=>by
  erw[Dp] at h
  obtain⟨a,xs,rfl,hs,hd⟩:=h
  cases r
  obtain⟨its,rv,⟨o,n,e,c,_,dd⟩,_⟩:=I.list hs
  obtain⟨as,ra⟩:=DpAll.reads I ds xs its hd rv
  exact⟨_, .list e c dd (by simpa using ra)⟩
 | .tuple ds,v,u,h,r=>by
  erw[Dp] at h
  obtain⟨a,xs,rfl,hs,hd⟩:=h
  cases r
  obtain⟨its,rv,⟨o,e,c,n,dd⟩,_⟩:=I.tuple hs
  obtain⟨as,ra⟩:=DpAll.reads I ds xs its hd rv
  exact⟨_, .tuple e c dd (by simpa using ra)⟩
 | .dict _,v,u,h,r=>by
  erw[Dp] at h
theorem DpAll.reads(I:Inv X pins σ H s): ∀(ds:List PyData) (vs:List V) (us:List Value),DpAll X.K H ds vs->w4 vs us->∃as,ReadsAll s.heap us ds as
 |[],vs,us,h,r=>by
  erw[DpAll] at h;subst h
  cases r
  exact⟨_, .nil⟩
 |d::ds,vs,us,h,r=>by
  erw[DpAll] at h
  obtain⟨x,q,rfl,h1,h2⟩:=h
  cases r with
  |cons r1 r2=>
   obtain⟨as,ra⟩:=Dp.reads I d _ _ h1 r1
   obtain⟨bs,rb⟩:=DpAll.reads I ds _ _ h2 r2
   exact⟨_, .cons ra rb⟩
end
noncomputable def zgk(K:W.Frag)(neg:Bool):R2:=fun x y H Q=> ∃d e,Dp K H d x/\Dp K H e y/\d.canLay0=true/\e.canLay0=true/\min d.depth e.depth<=60/\
 Q (.bl (if neg then !PyData.eqv d e else PyData.eqv d e)) H
theorem zea(hu:X.A.units+64<cLine):OpR X (compareOp .Eq) (zgk X.K false):=by
 intro pins s σ H x y v u Q I rx ry h
 obtain⟨d,e,hx,hy,c1,c2,hd,q⟩:=h
 obtain⟨as,ra⟩:=hx.reads I _ _ _ rx
 obtain⟨bs,rb⟩:=hy.reads I _ _ _ ry
 exact SeqAt.compareEq_reads ra rb c1 c2 (by lia) ⟨.bl _,H,I,rfl,q⟩
theorem zeb(hu:X.A.units+64<cLine):OpR X (compareOp .NotEq) (zgk X.K true):=by
 intro pins s σ H x y v u Q I rx ry h
 obtain⟨d,e,hx,hy,c1,c2,hd,q⟩:=h
 obtain⟨as,ra⟩:=hx.reads I _ _ _ rx
 obtain⟨bs,rb⟩:=hy.reads I _ _ _ ry
 exact SeqAt.compareNe_reads ra rb c1 c2 (by lia) ⟨.bl _,H,I,rfl,q⟩
noncomputable def ziL(K:W.Frag)(H:Hp)(T:String)(r:Bool):V->Prop
 | .non=>r=false
 | .bl _=>r=(T== "int" ||T== "bool")
 | .int _=>r=(T== "int")
 | .str _=>r=(T== "str")
 | .ref a=>(∃xs,SqT K H a xs/\r=(T== "tuple"))\/(∃xs,SqL K H a xs/\r=(T== "list"))
 |_=>False
noncomputable def zj9(K:W.Frag):List V->Hp->VK->Prop:=fun xs H Q=> ∃x T r,xs=[x, .ty T]/\(T= "int" \/T= "bool" \/T= "tuple" \/T= "list" \/T= "str")/\ziL K H T r x/\Q (.bl r) H
theorem z9a:CallR X (.builtin "isinstance") (zj9 X.K):=by
 intro pins s σ H xs us Q I r h
 obtain⟨x,T,b,rfl,hT,hx,q⟩:=h
 obtain⟨u,u',rfl,ru,ru'⟩:=zbj r
 cases ru'
 have fin: ∀t,EP X pins σ Q (.bool b) {s with toks:=t}:=fun t=>⟨.bl b,H,I.tok t,rfl,q⟩
 have fin0:EP X pins σ Q (.bool b) s:=⟨.bl b,H,I,rfl,q⟩
 cases x with
 |non=>
  cases ru
  have hx:b=false:=hx
  subst hx
  rcases hT with rfl|rfl|rfl|rfl|rfl
  ·exact IsiPair.NoneType_int (fin _)
  ·exact IsiPair.NoneType_bool (fin _)
  ·exact IsiPair.NoneType_tuple (fin _)
  ·exact IsiPair.NoneType_list (fin _)
  ·exact IsiPair.NoneType_str (fin _)
 |bl k=>
  cases ru
  rcases hT with rfl|rfl|rfl|rfl|rfl
  ·have hx:b=true:=hx
   subst hx;exact IsiPair.bool_int fin0
  ·have hx:b=true:=hx
   subst hx;exact IsiPair.bool_bool fin0
  ·have hx:b=false:=hx
   subst hx;exact IsiPair.bool_tuple (fin _)
  ·have hx:b=false:=hx
   subst hx;exact IsiPair.bool_list (fin _)
  ·have hx:b=false:=hx
   subst hx;exact IsiPair.bool_str (fin _)
 |int k=>
  obtain⟨t,rfl⟩:=ru
  rcases hT with rfl|rfl|rfl|rfl|rfl
  ·have hx:b=true:=hx
   subst hx;exact IsiPair.int_int fin0
  ·have hx:b=false:=hx
   subst hx;exact IsiPair.int_bool (fin _)
  ·have hx:b=false:=hx
   subst hx;exact IsiPair.int_tuple (fin _)
  ·have hx:b=false:=hx
   subst hx;exact IsiPair.int_list (fin _)
  ·have hx:b=false:=hx
   subst hx;exact IsiPair.int_str (fin _)
 |str k=>
  obtain⟨t,rfl⟩:=ru
  rcases hT with rfl|rfl|rfl|rfl|rfl
  ·have hx:b=false:=hx
   subst hx;exact IsiPair.str_int (fin _)
  ·have hx:b=false:=hx
   subst hx;exact IsiPair.str_bool (fin _)
  ·have hx:b=false:=hx
   subst hx;exact IsiPair.str_tuple (fin _)
  ·have hx:b=false:=hx
   subst hx;exact IsiPair.str_list (fin _)
  ·have hx:b=true:=hx
   subst hx;exact IsiPair.str_str fin0
 |ref a=>
  cases ru
  rcases hx with⟨ys,hs,hb⟩|⟨ys,hs,hb⟩
  ·obtain⟨its,rv,⟨o,e,c,n,dd⟩,_⟩:=I.tuple hs
   rcases hT with rfl|rfl|rfl|rfl|rfl
   ·have hx:b=false:=hb
    subst hx;exact IsiPair.tuple_int e c (fin _)
   ·have hx:b=false:=hb
    subst hx;exact IsiPair.tuple_bool e c (fin _)
   ·have hx:b=true:=hb
    subst hx;exact IsiPair.tuple_tuple e c fin0
   ·have hx:b=false:=hb
    subst hx;exact IsiPair.tuple_list e c (fin _)
   ·have hx:b=false:=hb
    subst hx;exact IsiPair.tuple_str e c (fin _)
  ·obtain⟨its,rv,⟨o,n,e,c,_,dd⟩,_⟩:=I.list hs
   rcases hT with rfl|rfl|rfl|rfl|rfl
   ·have hx:b=false:=hb
    subst hx;exact IsiPair.list_int e c (fin _)
   ·have hx:b=false:=hb
    subst hx;exact IsiPair.list_bool e c (fin _)
   ·have hx:b=false:=hb
    subst hx;exact IsiPair.list_tuple e c (fin _)
   ·have hx:b=true:=hb
    subst hx;exact IsiPair.list_list e c fin0
   ·have hx:b=false:=hb
    subst hx;exact IsiPair.list_str e c (fin _)
 |byt _=>exact hx.elim
 |flt _=>exact hx.elim
 |ty _=>exact hx.elim
theorem z21: ∀{bs:List Bool} {us:List Value},w4 (bs.map V.bl) us->LSm.BoolsAre us bs
 |[],_, .nil=> .nil
 |b::bs,_, .cons r t=>by
  cases r
  exact .cons b (z21 t)
theorem z7l(hc:X.A.handled=none):CallR X (.builtin "all") (fun xs H Q=> ∃(p:Addr) (bs:List Bool),xs=[.ref p]/\SqL X.K H p (bs.map V.bl)/\Q (.bl (bs.all id)) H):=by
 intro pins s σ H xs us Q I r h
 obtain⟨p,bs,rfl,hs,q⟩:=h
 obtain⟨u,rfl,ru⟩:=z4z r
 cases ru
 obtain⟨its,rv,pl,_⟩:=I.list hs
 have hb:=z21 rv
 have hl:=pl.isList
 have hlt:p<s.heap.objs.size:=by obtain⟨_,e,_⟩:=hl;exact Heap.lt_size e
 refine call_all_walk (wpAny_pyIter_list hl ?_)
 refine⟨s.heap.objs.size,[s.heap.objs.size,p],[s.heap.objs.size],its.toArray.size,_,_,fun i=>(bs[i]?).getD true,rfl,Walks.list (A:=X.A.in1) hc _ p (l0 hlt) its.toArray,
  ⟨⟨_,Heap.get?_push_size _ rfl,rfl,rfl⟩,hl.push _⟩,fun i v s' Q' E' hP hQ=> ?_,fun h' tk hk=> ?_⟩
 ·obtain⟨b,e,rfl⟩:=hb.get i v (by simpa using hP)
  erw[e,A3] at hQ
  exact wpAny_truthy_bool hQ
 ·have e:((B5 its.toArray.size).all fun i=>(bs[i]?).getD true)=bs.all id:=by
   rw[i4,hb.length];exact LSm.range_all bs
  rw[e]
  exact⟨.bl _,H,I.kept (LSm.kept_iter hk),rfl,q⟩
end
end L2
namespace HT
open PySem PyProof.Rows
section
variable{prog:Program}{w:World}{A:Around}{E:Value->Shared->Prop}{s:Shared}
theorem getItem_tuple_whole{t sl:Addr}{items:Array Value}{vl vu:Value}{lo hi:Option Int}{Q:Value->Shared->Prop}(ht:IsTup s.heap t items)(hs:s.heap.IsSliceOf sl vl vu .none)(pl:IsPart vl lo)(pu:IsPart vu hi)
 (hw:sIx items.size 0 lo=0/\sIx items.size items.size hi=items.size) (h:Q (.ref t) s):wpAny (model prog w) A (getItem (.ref t) (.ref sl)) Q E s:=by
 obtain⟨os,hos,hcs,hds⟩:=id hs
 have hTs:s.TypeIs (.ref sl) "slice" :=⟨os,hos,hcs⟩
 unfold getItem
 try with_reducible refine wpAny_holding ?_
 first|refine wpAny_bind (wpAny_pure ?_)|skip
 refine wpAny_bind (wpAny_sequenceKey ht.typeIs (by decide) ?_)
 refine wpAny_bind (wpAny_callSpecial?_slot (name:=Str.ofString "__getitem__") ht.typeIs PyProof.Rows.slot_tuple_getitem
  (wpAny_call_entry PyProof.Rows.slot_tuple_getitem ht.typeIs entry_tuple_getitem ?_ (args_tuple_getitem _ _)))
 show wpAny _ _ (Builtin.Tuple.tupleItemsOf (.ref t)>>=_) _ _ s
 refine wpAny_bind (tupleItemsOf_ ht ?_)
 refine wpAny_bind (wpAny_typeOf hTs ?_)
 rw[if_pos (by decide)]
 refine wpAny_bind (K4 hs pl pu ?_)
 have hyes:((((sIx items.size 0 lo:Nat):Int)==0&&(1:Int)==1&&(sIx items.size items.size hi -sIx items.size 0 lo)==items.size)=true):=by
  rw[hw.1,hw.2]
  simp
 show wpAny _ _ (if(((sIx items.size 0 lo:Nat):Int)==0&&(1:Int)==1&&(sIx items.size items.size hi -sIx items.size 0 lo)==items.size)=true then _ else _) _ _ s
 rw[if_pos hyes]
 obtain⟨o,ho,hc,n,hd⟩:=id ht
 have ex:Builtin.Tuple.tupleIsExact (.ref t)=(typeOf (.ref t)>>=fun T=>pure (T== .type "tuple")):=rfl
 refine wpAny_bind (m:=Builtin.Tuple.tupleIsExact (.ref t)) ?_
 rw[ex]
 refine wpAny_bind (wpAny_typeOf ht.typeIs (wpAny_pure ?_))
 rw[if_pos (by decide)]
 exact wpAny_bind (wpAny_rule (wpAny_pure ⟨_,rfl,wpAny_pure h⟩))
end
end HT
namespace L2
open PySem PySem.Spec PyProof.Rows
section
variable{X:Cx}
theorem z6d{xs:List V}{lo hi:Option Int}(h:HT.sIx xs.length 0 lo=0/\HT.sIx xs.length xs.length hi=xs.length):z77 xs lo hi=xs:=by
 unfold z77
 rw[h.1,h.2]
 simp
end
noncomputable def z0I(env:Env):List (Str×NameKind)->List (Str×Addr)->List (Str×Addr)
 |[],cs=>cs
 |(n,k)::r,cs=>z0I env r (if k== .free then(match env.cells.lookup n with|some a=>(n,a)::cs|none=>cs) else cs)
theorem z5s{env:Env}: ∀(names:List (Str×NameKind)) (cs:List (Str×Addr)),(∀y∈names,y.2= .free->∃a,env.cells.lookup y.1=some a)->
 (forIn names cs fun(x:Str×NameKind) (r:List (Str×Addr))=>if(x.2==NameKind.free)=true then cellOf env x.1>>=fun a=>pure (ForInStep.yield ((x.1,a)::r)) else pure (ForInStep.yield r))=(pure (z0I env names cs):Sem _)
 |[],cs,_=>rfl
 |(n,k)::r,cs,h=>by
  have ih:=fun cs=>z5s (env:=env) r cs fun y hy=>h y (b7 _ hy)
  rw[List.forIn_cons]
  show((if(k==NameKind.free)=true then cellOf env n>>=fun a=>pure (ForInStep.yield ((n,a)::cs)) else pure (ForInStep.yield cs))>>=_)=pure (z0I env r (if k== .free then(match env.cells.lookup n with|some a=>(n,a)::cs|none=>cs) else cs))
  by_cases hk:(k==NameKind.free)=true
  ·obtain⟨a,e⟩:=h (n,k) e9 (by simpa using hk)
   have e:env.cells.lookup n=some a:=e
   rw[if_pos hk,if_pos hk,e]
   have e2:cellOf env n=pure a:=by unfold cellOf;rw[e]
   rw[e2]
   exact ih _
  ·rw[if_neg hk,if_neg hk]
   exact ih _
theorem z3d{env:Env}{scope:Scope}(h: ∀y∈scope.names,y.2= .free->∃a,env.cells.lookup y.1=some a):closureFor scope env=pure (z0I env scope.names []):=by
 have e:=z5s (env:=env) scope.names [] h
 exact congrArg (fun(m:Sem (List (Str×Addr)))=>m>>=fun cs=>pure cs) e
theorem z3e{env:Env}{x:Str}{c:Addr}: ∀(names:List (Str×NameKind)) (cs:List (Str×Addr)),(z0I env names cs).lookup x=some c->
 cs.lookup x=some c\/(env.cells.lookup x=some c/\(x,NameKind.free)∈names)
 |[],cs,h=> .inl h
 |(n,k)::r,cs,h=>by
  rcases z3e r _ h with q|⟨q,m⟩
  ·by_cases hk:(k==NameKind.free)=true
   ·rw[if_pos hk] at q
    cases e:env.cells.lookup n with
    |none=>rw[e] at q;exact .inl q
    |some a=>
     rw[e] at q
     have q:((n,a)::cs).lookup x=some c:=q
     rw[i8] at q
     by_cases hx:(x==n)=true
     ·rw[hx] at q
      have q:some a=some c:=q
      cases q
      have hx:x=n:=eq_of_beq hx
      subst hx
      have hk:k= .free:=eq_of_beq hk
      subst hk
      exact .inr ⟨e,e9⟩
     ·have hx:(x==n)=false:=by simpa using hx
      rw[hx] at q
      exact .inl q
   ·rw[if_neg hk] at q
    exact .inl q
  ·exact .inr ⟨q,b7 _ m⟩
theorem z22{env:Env}{x:Str}: ∀(names:List (Str×NameKind)) (cs:List (Str×Addr)),(((∃c,cs.lookup x=some c))\/((x,NameKind.free)∈names/\∃c,env.cells.lookup x=some c))->
 ∃c,(z0I env names cs).lookup x=some c
 |[],cs,h=>by
  rcases h with h|⟨m,_⟩
  ·exact h
  ·cases m
 |(n,k)::r,cs,h=>by
  refine z22 r _ ?_
  rcases h with⟨c,hc⟩|⟨m,c,hc⟩
  ·left
   by_cases hk:(k==NameKind.free)=true
   ·rw[if_pos hk]
    cases e:env.cells.lookup n with
    |none=>exact⟨c,hc⟩
    |some a=>
     by_cases hx:(x==n)=true
     ·exact⟨a,by show((n,a)::cs).lookup x=some a;rw[i8,hx]⟩
     ·have hx:(x==n)=false:=by simpa using hx
      exact⟨c,by show((n,a)::cs).lookup x=some c;rw[i8,hx];exact hc⟩
   ·rw[if_neg hk]
    exact⟨c,hc⟩
  ·rcases e7.mp m with e|m
   ·left
    cases e
    rw[if_pos (by decide),hc]
    exact⟨c,by show((x,c)::cs).lookup x=some c;rw[i8,beq_self_eq_true]⟩
   ·exact .inr ⟨m,c,hc⟩
theorem U2{env:Env}: ∀{names:List (Str×NameKind)} {x:Str},names.lookup x=some .free->
 (names.map fun(n,k)=>if(k==NameKind.free&&env.scope.kind== .function&&env.kindOf n==some .cell) then(n,NameKind.cell) else(n,k)).lookup x=some .cell\/
 (names.map fun(n,k)=>if(k==NameKind.free&&env.scope.kind== .function&&env.kindOf n==some .cell) then(n,NameKind.cell) else(n,k)).lookup x=some .free
 |[],_,h=>by simp at h
 |(n,k)::r,x,h=>by
  have ih:= @U2 env r x
  rw[b9]
  show A2 x ((if(k==NameKind.free&&env.scope.kind== .function&&env.kindOf n==some .cell)=true then(n,NameKind.cell) else(n,k))::_)=_\/A2 x ((if(k==NameKind.free&&env.scope.kind== .function&&env.kindOf n==some .cell)=true then(n,NameKind.cell) else(n,k))::_)=_
  cases hx:x==n with
  |true=>
   erw[i8,hx] at h
   cases h
   by_cases hc:(NameKind.free==NameKind.free&&env.scope.kind== .function&&env.kindOf n==some .cell)=true
   ·rw[if_pos hc];left;erw[i8,hx]
   ·rw[if_neg hc];right;erw[i8,hx]
  |false=>
   erw[i8,hx] at h
   by_cases hc:(k==NameKind.free&&env.scope.kind== .function&&env.kindOf n==some .cell)=true
   ·rw[if_pos hc];erw[i8,hx];exact ih h
   ·rw[if_neg hc];erw[i8,hx];exact ih h
theorem V4{env:Env}: ∀{names:List (Str×NameKind)} {x:Str},((names.map fun(n,k)=>if(k==NameKind.free&&env.scope.kind== .function&&env.kindOf n==some .cell) then(n,NameKind.cell) else(n,k)).lookup x=some .cell\/
 (names.map fun(n,k)=>if(k==NameKind.free&&env.scope.kind== .function&&env.kindOf n==some .cell) then(n,NameKind.cell) else(n,k)).lookup x=some .free)->names.lookup x=some .free\/names.lookup x=some .cell
 |[],_,h=>by simp at h
 |(n,k)::r,x,h=>by
  have ih:= @V4 env r x
  rw[b9] at h
  have h:A2 x ((if(k==NameKind.free&&env.scope.kind== .function&&env.kindOf n==some .cell)=true then(n,NameKind.cell) else(n,k))::_)=_\/A2 x ((if(k==NameKind.free&&env.scope.kind== .function&&env.kindOf n==some .cell)=true then(n,NameKind.cell) else(n,k))::_)=_:=h
  cases hx:x==n with
  |true=>
   erw[i8,hx]
   by_cases hc:(k==NameKind.free&&env.scope.kind== .function&&env.kindOf n==some .cell)=true
   ·have:k= .free:=by
     erw[i3,beq_iff_eq] at hc
     exact hc.1.1
    subst this
    exact .inl rfl
   ·rw[if_neg hc] at h
    erw[i8,hx] at h
    exact h.symm
  |false=>
   erw[i8,hx]
   refine ih ?_
   by_cases hc:(k==NameKind.free&&env.scope.kind== .function&&env.kindOf n==some .cell)=true
   ·rw[if_pos hc] at h;erw[i8,hx] at h;exact h
   ·rw[if_neg hc] at h;erw[i8,hx] at h;exact h
structure j5(osc sc:Scope)(own frees N:List Str)(ix:List Nat):Prop where
 kind:sc.kind= .function
 nocell: ∀y∈sc.names,y.2≠ .cell
 names: ∀y∈sc.names,y.2= .local->sc.names.lookup y.1=some .local
 fr: ∀y∈sc.names,y.2= .free->osc.names.lookup y.1=some .cell\/osc.names.lookup y.1=some .free
 nd:(own++frees).Nodup
 frl: ∀x∈frees,sc.names.lookup x=some .free
 ixs:ix.map (fun i=>N[i]?)=frees.map some
noncomputable def Q6(X:Cx)(scope:Scope)(own frees:List Str)(cl:List (Str×Addr))(C:Addr)(s₀:Shared)(H₀:Hp)(fp:List Addr)(pn:List (Addr×Obj)):Cx:=
 {X with N:=own++frees,s₀:=s₀,H₀:=H₀,env:=compEnvC scope cl C X.env,outer:=X.stack,stack:=X.stack,ex:=fp,fn:=fun _=>false,pn:=pn,xe:=fun _ _=>False}
noncomputable def z01(k:Nat)(ix:List Nat)(σ:St):St:=e6 k none++ix.map fun i=>(σ[i]?).getD none
section
variable{X:Cx}{tg iter elt:Expr}{pos:Pos}{scope:Scope}{own frees:List Str}{ix:List Nat}{wi:TI}{g:TG}{te:TE}
theorem z6e(k:Nat)(ix:List Nat)(σ:St):(z01 k ix σ).length=k+ix.length:=by
 unfold z01
 simp
theorem z6f{pins:List (Addr×Obj)}{σ:St}{H:Hp}{s s1:Shared}{fp:List Addr}(S:j5 X.env.scope scope own frees X.N ix)(I:Inv X pins σ H s)(hf: ∀b∈fp,z6F X pins H b)(hb: ∀b∈fp,b<s.heap.objs.size)
 (ho:s1.os=s.os) (hg:s1.gens=s.gens) (hk: ∀b o,s.heap.get? b=some o->s1.heap.get? b=some o) (hn:s1.heap.Ns s.heap.objs.size (fun _=>none)):
 Inv (Q6 X scope own frees (z0I X.env scope.names []) s.heap.objs.size s H fp (X.pn++pins)) [] (z01 own.length ix σ) H s1:=by
 have clos: ∀x c,(z0I X.env scope.names []).lookup x=some c->X.env.cells.lookup x=some c/\(x,NameKind.free)∈scope.names:=fun x c h=>by
  rcases z3e _ _ h with q|q
  ·exact nomatch q
  ·exact q
 have hlen:ix.length=frees.length:=by
  have:=congrArg P8 S.ixs
  simpa using this
 have cne: ∀x c,X.env.cells.lookup x=some c->c<s.heap.objs.size:=fun x c e=>by
  obtain⟨v,o,q,_⟩:=I.cell x c e
  exact Heap.lt_size q
 refine⟨⟨I.ok.mod,S.kind,I.ok.glob,I.ok.blt,e8 _,fun x y c h1 h2=>I.ok.inj x y c (clos x c h1).1 (clos y c h2).1,fun x hx=> ?_,fun x c z=>D4 z,I.ok.hd,I.ok.frames, .inl rfl,fun b z=>⟨l0 (hb b z),fun x c e=>(hf b z).2.2.2.2.1 x c (clos x c e).1⟩,I.bs,
  s0 I.ok.bsz I.sz,fun b o e z=> ?_,fun b z=> ?_,I.stack,I.stkFree⟩,ho, ?_,Un.kept hk,⟨_,hn,fun i x v h1 h2 h3=> ?_⟩,fun x c e=> ?_,I.fresh,fun x c e=>I.freeC x c (clos x c e).1,fun p hp=> ?_,I.hok.kept hk, ?_⟩
 ·have hx:(relabel scope X.env).names.lookup x=some .cell\/(relabel scope X.env).names.lookup x=some .free:=hx
  rcases V4 hx with q|q
  ·have m:(x,NameKind.free)∈scope.names:=PySem.mem_of_lookup q
   obtain⟨c,hc⟩:=I.ok.has x (S.fr _ m rfl)
   exact z22 _ _ (.inr ⟨m,c,hc⟩)
  ·exact absurd rfl (S.nocell _ (PySem.mem_of_lookup q))
 ·rcases(hf b z).2.2.2.1 with q|q
  ·exact I.ok.noex b o e q
  ·exact absurd (Heap.lt_size (I.ok.bs b o e).1) (C9.mpr q)
 ·intro q
  rcases e7.mp (I.stkSub b q) with r|r
  ·exact(hf b z).2.1 r
  ·exact(hf b z).2.2.1 r
 ·rw[hg];exact I.bare
 ·have h2:(z01 own.length ix σ)[i]? =some (some v):=h2
  have h1:(own++frees)[i]? =some x:=h1
  unfold z01 at h2
  by_cases hi:i<own.length
  ·rw[List.getElem?_append_left (by simpa using hi),List.getElem?_replicate] at h2
   rw[if_pos hi] at h2
   cases h2
  ·have hi:own.length<=i:=C9.mp hi
   rw[List.getElem?_append_right (by simpa using hi),L9,List.getElem?_map] at h2
   rw[List.getElem?_append_right hi] at h1
   cases e:ix[i -own.length]? with
   |none=>rw[e] at h2;cases h2
   |some j=>
    rw[e] at h2
    have h2:some ((σ[j]?).getD none)=some (some v):=h2
    have hσ:σ[j]? =some (some v):=by
     cases q:σ[j]? with
     |none=>rw[q] at h2;cases h2
     |some z=>rw[q] at h2;exact h2
    have hN:X.N[j]? =some x:=by
     have:=congrArg (fun l:List (Option Str)=>l[i -own.length]?) S.ixs
     erw[List.getElem?_map,e,h1,p4] at this
     exact Option.some.inj this
    have mf:x∈frees:=List.mem_of_getElem? h1
    have lf:=S.frl x mf
    have m:(x,NameKind.free)∈scope.names:=PySem.mem_of_lookup lf
    have hos:=S.fr _ m rfl
    obtain⟨mm,hns,hl⟩:=I.loc
    obtain⟨u,ru,look⟩:=hl j x v hN hσ (hos.elim (fun q=> .inr (.inl q)) fun q=> .inr (.inr q))
    refine⟨u,ru, ?_⟩
    rcases look with⟨kk,_⟩|⟨kk,c,hc,ic⟩
    ·have kk:X.env.scope.names.lookup x=some .local:=kk
     have hos:X.env.scope.names.lookup x=some .cell\/X.env.scope.names.lookup x=some .free:=hos
     rw[kk] at hos
     rcases hos with q|q<;>cases q
    ·obtain⟨c',hc'⟩:=z22 (env:=X.env) scope.names [] (.inr ⟨m,c,hc⟩)
     have e2:=(clos x c' hc').1
     rw[hc] at e2
     cases e2
     refine .inr ⟨U2 lf,c,hc', ?_⟩
     obtain⟨o,q1,q2⟩:=ic
     exact⟨o,hk _ _ q1,q2⟩
 ·obtain⟨v,o,q1,q2⟩:=I.cell x c (clos x c e).1
  exact⟨v,o,hk _ _ q1,q2⟩
 ·have hp:p∈(X.pn++pins)++[]:=hp
  rw[c9] at hp
  obtain⟨e,n,ne,nf,d⟩:=I.pin p hp
  refine⟨hk _ _ e,n,l0 (Heap.lt_size e),fun q=> ?_,d⟩
  rcases e7.mp (I.stkSub p.1 q) with r|r
  ·exact ne r
  ·exact nf r
 ·show(z01 own.length ix σ).length=(own++frees).length
  rw[z6e,hlen,l5]
theorem z9b{pins pins':List (Addr×Obj)}{σ σ':St}{H H':Hp}{s s':Shared}{h':Heap}{fp:List Addr}{cl:List (Str×Addr)}{C:Addr}(I:Inv X pins σ H s)(hf: ∀b∈fp,z6F X pins H b)(hC:s.heap.objs.size<=C)
 (J:Inv (Q6 X scope own frees cl C s H fp (X.pn++pins)) pins' σ' H' s') (hs:Heap.SameBut C s'.heap h'):Inv X pins σ H' {s' with heap:=h'}:=by
 have nC: ∀b,b<s.heap.objs.size->b≠C:=fun b q e=>by subst e;exact absurd q (C9.mpr hC)
 refine I.call' (ch:=fp) J.os ⟨fun b o e n hb hx=> ?_,fun b o e n hb hx=> ?_,J.base.free,fun b o e hx=> ?_,J.base.tups,J.base.frzs,J.base.tbls⟩ ?_ J.bare fun b z=>⟨(hf b z).2.2.2.1,(hf b z).2.1,(hf b z).2.2.2.2.1,(hf b z).2.2.2.2.2⟩
 ·exact(hs.2 b (nC b (Heap.lt_size e))).trans (J.base.keep b o e n hb hx)
 ·obtain⟨sl,q⟩:=J.base.slot b o e n hb hx
  exact⟨sl,(hs.2 b (nC b (Heap.lt_size e))).trans q⟩
 ·obtain⟨o',q⟩:=J.base.there b o e hx
  exact⟨o',(hs.2 b (nC b (Heap.lt_size e))).trans q⟩
 ·intro a o e
  refine(J.hok a o e).stay (fun b u hbu q=> ?_) (fun _ q=>q) fun _ _ q=>q
  refine(hs.2 b ?_).trans q
  intro eb
  subst eb
  have hfree:H' b=none:=J.free
  rcases hbu with rfl|z
  ·rw[e] at hfree;cases hfree
  ·rw[z] at hfree;cases hfree
end
end L2
namespace PySem
section
variable{prog:Program}{w:World}{A:Around}{E:Value->Shared->Prop}{s:Shared}
theorem z23{d:Addr}{o:Obj}{es:Array DictEntry}{ep:Nat}{Q:Value->Shared->Prop}(hd:(d==sysModules)=false)(ho:s.heap.get? d=some o)(hc:o.ExactDict)(hdat:o.data= .dict es ep)
 (hQ:Q (.ref s.heap.objs.size) {s with heap:=s.heap.push {cls:= .type "dict_keyiterator",data:= .fields #[.ref d, .int 0 0, .int es.size 0, .int ep 0]}}):
 wpAny (model prog w) A (pyIter (.ref d)) Q E s:=by
 have hT:s.TypeIs (.ref d) "dict" :=⟨o,ho,hc.1⟩
 refine wpAny_pyIter_slot hT F.slot_dict_iter (wpAny_call_entry F.slot_dict_iter hT F.entry_dict_iter ?_ (F.args_dict_iter_1 _))
 unfold Builtin.«dict.__iter__»
 refine wpAny_bind ?_
 unfold Builtin.Dict.dictSlotNone
 refine wpAny_bind (wpAny_notOrdered_dict hT ?_)
 show wpAny _ _ (pure (Value.ref d)) _ _ s
 refine wpAny_pure ?_
 show wpAny _ _ (Builtin.Dict.showsAll d>>=_) _ _ s
 unfold Builtin.Dict.showsAll
 rw[if_neg (by rw[hd];exact i6)]
 refine wpAny_bind (wpAny_pure ?_)
 refine wpAny_bind (wpAny_dictEntries ho hdat ?_)
 refine wpAny_bind (wpAny_dictEpoch ho hdat ?_)
 refine wpAny_bind (wpAny_newObj_type (wpAny_pure ⟨_,rfl, "dict_keyiterator",_,⟨_,Heap.get?_push_size _ rfl,rfl⟩,F.slot_dict_keyiterator_next.lookup, ?_⟩))
 simpa[rawInt] using hQ
theorem z24{it d:Addr}{i ep:Nat}{od:Obj}{es:Array DictEntry}{en:DictEntry}{Q:Option Value->Shared->Prop}(hit:s.heap.IsKeyIter it d i es.size ep)
 (hod:s.heap.get? d=some od) (hdd:od.data= .dict es ep) (hx:es[i]? =some en)
 (hQ: ∀h',h'.IsKeyIter it d (i+1) es.size ep->Heap.SameBut it s.heap h'->Q (some en.key) {s with heap:=h'}):
 wpAny (model prog w) A (pyNext (.ref it)) Q E s:=by
 obtain⟨o,ho,hc,hd⟩:=id hit
 unfold pyNext
 refine wpAny_bind (wpAny_attempt (wpAny_callSpecial?_slot (name:=Str.ofString "__next__") hit.typeIs F.slot_dict_keyiterator_next
  (wpAny_call_entry F.slot_dict_keyiterator_next hit.typeIs F.entry_dict_keyiterator_next ?_ (F.args_dict_keyiterator_next_1 _))))
 refine wpAny_bind (wpAny_pure ?_)
 refine wpAny_bind ?_
 refine wpAny_bind ?_
 first|refine wpAny_bind (wpAny_typeNameOfWhole_keyiter hit.typeIs (wpAny_pure ?_))|refine wpAny_bind (wpAny_typeNameOf_keyiter hit.typeIs (wpAny_pure ?_))
 refine wpAny_bind (wpAny_fieldsOf ho hd ?_)
 have hown:Builtin.Dict_items.ownsTuple "dict_keyiterator" =false:=by decide
 erw[hown,t8,if_false]
 show wpAny _ _ (if(Value.ref d==Value.none)=true then _ else _) _ _ s
 rw[if_neg (show ¬((Value.ref d==Value.none)=true) from i6)]
 refine wpAny_bind (wpAny_pure ?_)
 refine wpAny_bind (wpAny_dictEntries hod hdd ?_)
 rw[if_neg (by simp)]
 refine wpAny_bind (wpAny_pure ?_)
 refine wpAny_bind (wpAny_dictEpoch hod hdd ?_)
 rw[if_neg (by simp)]
 refine wpAny_pure ?_
 have hlt':i<es.size:=by
  rcases P3 i es.size with h|h
  ·exact h
  ·simp[Array.getElem?_eq_none h] at hx
 have hkey:es[i]=en:=by
  rw[Array.getElem?_eq_getElem hlt'] at hx
  exact Option.some.inj hx
 erw[show ¬((i:Int)<0) from by lia,if_false,C3,Array.getElem?_eq_getElem hlt']
 refine wpAny_bind ?_
 first|refine wpAny_bind (wpAny_typeNameOfWhole_keyiter hit.typeIs (wpAny_pure ?_))|refine wpAny_bind (wpAny_typeNameOf_keyiter hit.typeIs (wpAny_pure ?_))
 refine wpAny_bind (wpAny_isOneOf_keyiter hit.typeIs ?_)
 show wpAny _ _ (setField (.ref it) 1 (rawInt ((i:Int)+1))>>=_) _ _ s
 refine wpAny_bind (wpAny_setField ho hd (by simp) ?_)
 have hit':(s.heap.update it (Obj.mapFields (·.setIfInBounds 1 (rawInt ((i:Int)+1))))).IsKeyIter it d (i+1) es.size ep:=
  ⟨_,Heap.get?_update_self _ ho (Obj.isFreed_of_fields (Obj.data_mapFields hd _)),(Obj.cls_mapFields ..).trans hc,by rw[Obj.data_mapFields hd];simp[rawInt]⟩
 refine wpAny_bind (wpAny_holding ?_)
 refine wpAny_bind (wpAny_isOneOf_keyiter (s:={s with heap:=s.heap.update it (Obj.mapFields (·.setIfInBounds 1 (rawInt ((i:Int)+1))))}) hit'.typeIs ?_)
 show wpAny _ _ (pure es[i].key) _ _ _
 rw[hkey]
 exact wpAny_pure (wpAny_pure ⟨_,rfl,wpAny_pure (hQ _ hit' (Heap.SameBut.update ..))⟩)
theorem z2B{it d:Addr}{i ep:Nat}{od:Obj}{es:Array DictEntry}{Q:Option Value->Shared->Prop}(hh:A.handled=none)(hit:s.heap.IsKeyIter it d i es.size ep)
 (hod:s.heap.get? d=some od) (hdd:od.data= .dict es ep) (hge:es.size<=i)
 (hQ: ∀h',Heap.ExtBut it s.heap h'->Q none {s with heap:=h'}):wpAny (model prog w) A (pyNext (.ref it)) Q E s:=by
 obtain⟨o,ho,hc,hd⟩:=id hit
 unfold pyNext
 refine wpAny_bind (wpAny_attempt (wpAny_callSpecial?_slot (name:=Str.ofString "__next__") hit.typeIs F.slot_dict_keyiterator_next
  (wpAny_call_entry F.slot_dict_keyiterator_next hit.typeIs F.entry_dict_keyiterator_next ?_ (F.args_dict_keyiterator_next_1 _))))
 refine wpAny_bind (wpAny_pure ?_)
 refine wpAny_bind ?_
 refine wpAny_bind ?_
 first|refine wpAny_bind (wpAny_typeNameOfWhole_keyiter hit.typeIs (wpAny_pure ?_))|refine wpAny_bind (wpAny_typeNameOf_keyiter hit.typeIs (wpAny_pure ?_))
 refine wpAny_bind (wpAny_fieldsOf ho hd ?_)
 have hown:Builtin.Dict_items.ownsTuple "dict_keyiterator" =false:=by decide
 erw[hown,t8,if_false]
 show wpAny _ _ (if(Value.ref d==Value.none)=true then _ else _) _ _ s
 rw[if_neg (show ¬((Value.ref d==Value.none)=true) from i6)]
 refine wpAny_bind (wpAny_pure ?_)
 refine wpAny_bind (wpAny_dictEntries hod hdd ?_)
 rw[if_neg (by simp)]
 refine wpAny_bind (wpAny_pure ?_)
 refine wpAny_bind (wpAny_dictEpoch hod hdd ?_)
 rw[if_neg (by simp)]
 refine wpAny_pure ?_
 erw[show ¬((i:Int)<0) from by lia,if_false,C3,Array.getElem?_eq_none hge]
 refine wpAny_bind ?_
 first|refine wpAny_bind (wpAny_typeNameOfWhole_keyiter hit.typeIs (wpAny_pure ?_))|refine wpAny_bind (wpAny_typeNameOf_keyiter hit.typeIs (wpAny_pure ?_))
 show wpAny _ _ (setField (.ref it) 0 .none>>=_) _ _ s
 refine wpAny_bind (wpAny_setField ho hd (by simp) ?_)
 show wpAny _ _ (newExc (.type "StopIteration") []>>=_) _ _ _
 refine wpAny_bind ?_
 erw[newExc,newTuple]
 refine wpAny_bind (wpAny_newObj_type ?_ (by size_fits))
 refine wpAny_bind (m:=firstArgMember _ _) (wpAny_of_eq (a:=Value.none) (by first|rfl|(erw[firstArgMember];rfl)) ?_)
 refine wpAny_newObj_type ?_ (by size_fits)
 erw[raiseNew]
 refine wpAny_bind (wpAny_handled ?_)
 rw[show A.in1.handled=none from hh]
 refine wpAny_bind (wpAny_pure (wpAny_throw ?_))
 refine wpAny_bind (wpAny_isInstance (T:= "StopIteration") (b:=true) ⟨_,Heap.get?_push_size _ rfl,rfl⟩ isSubtype_stop ?_)
 exact wpAny_pure (hQ _ (((Heap.SameBut.update ..).extBut.push _).push _))
end
end PySem
namespace L2
open PySem PySem.Spec PyProof.Rows
noncomputable def ItD(a:Addr)(o:Obj)(kvs:List (NK×V)):It:=
 ⟨fun i H=>i<kvs.length/\H a=some (.frz o (.dT kvs)),fun i H x H'=>H'=H/\∃b k v,x= .ref b/\kvs[i]? =some (k,v)/\TK H k b,fun i H=>kvs.length<=i/\H a=some (.frz o (.dT kvs))⟩
theorem zat{P:Program}{w:World}{H:Hp}{h:Heap}{a:Addr}{o:Obj}{kvs:List (NK×V)}(ok:HOk P w H h)(e:H a=some (.frz o (.dT kvs))):
 h.get? a=some o/\(a==sysModules)=false/\o.ExactDict/\∃es ep,o.data= .dict es ep/\es.size=kvs.length/\
  ∀(i:Nat) (k:NK) (v:V),kvs[i]? =some (k,v)->∃en b,es[i]? =some en/\en.key= .ref b/\TK H k b:=by
 obtain⟨ho,z,y,xs,r,o',es,ep,e',c,d,l,nd⟩:=ok a _ e
 rw[ho] at e'
 cases e'
 have hl:kvs.length=xs.length:=Paired.length r
 have hs:es.size=xs.length:=size_of_entries l
 refine⟨ho,y,c,es,ep,d,by lia,fun i k v q=> ?_⟩
 have key: ∀{kvs:List (NK×V)} {xs:List (NK×Addr×Value)},Paired (fun(p:NK×V) (q:NK×Addr×Value)=>p.1=q.1/\TK H p.1 q.2.1/\RelV p.2 q.2.2) kvs xs->
  ∀(i:Nat),kvs[i]? =some (k,v)->∃b u,xs[i]? =some (k,b,u)/\TK H k b:=by
  intro kvs xs r
  induction r with
  |nil=>intro i q;simp at q
  | @cons p x l1 l2 h1 h2 ih=>
   intro i q
   cases i with
   |zero=>
    erw[List.getElem?_cons_zero,Option.some.injEq] at q
    subst q
    obtain⟨e1,e2,_⟩:=h1
    obtain⟨x1,x2,x3⟩:=x
    have e1:k=x1:=e1
    subst e1
    exact⟨x2,x3,rfl,e2⟩
   |succ j=>
    erw[List.getElem?_cons_succ] at q
    obtain⟨b,u,q1,q2⟩:=ih j q
    exact⟨b,u,by simpa using q1,q2⟩
 obtain⟨b,u,q1,q2⟩:=key r i q
 have hi:=entry_at l i
 rw[q1] at hi
 exact⟨_,b,hi,rfl,q2⟩
theorem z7m{P:Program}{w:World}{K:W.Frag}{tg:Expr}(a it:Addr)(o:Obj)(es:Array DictEntry)(ep:Nat)(hd:o.data= .dict es ep)(kvs:List (NK×V)):
 zcW P w K tg (ItD a o kvs) [it] it (fun i h=>h.IsKeyIter it a i es.size ep) where
 mem:=by simp
 obj:=fun i h st b hb=>by
  have e:b=it:=by simpa using hb
  subst e
  obtain⟨o,e,c,d⟩:=st
  exact⟨o,e,fun v z=>by rw[d] at z;cases z⟩
 keep:=fun i h h' st k=>st.at fun o e=>k it (by simp) o e
 item:=by
  intro X hP hw hK hc i pins s σ H E I hf st hg
  subst hP hw hK
  obtain⟨hi,hq⟩:=hg
  obtain⟨ho,_,_,es',ep',hd',hsz,hat⟩:=zat I.hok hq
  rw[hd] at hd'
  cases hd'
  obtain⟨f0,f1,f2,f3,f4,f5⟩:=hf it (by simp)
  obtain⟨⟨k,v⟩,hk⟩: ∃p,kvs[i]? =some p:=⟨kvs[i],by simp[hi]⟩
  obtain⟨en,b,he,hb,hB⟩:=hat i k v hk
  refine z24 st ho hd he fun h' st' sb=> ?_
  have I1:Inv X pins σ H {s with heap:=h'}:=I.turned (t':=s.toks) (fun b o hb e=>(sb.2 b hb).trans e) f0 f1 f3 f4 f5
  obtain⟨o2,e2,c2,d2⟩:=id st'
  exact⟨_,rfl,z8M (s:={s with heap:=h'}) e2 c2 d2 (by decide) ⟨.ref b,H,I1,hb,⟨rfl,b,k,v,rfl,hk,hB⟩,st',fun b hb=>(hf b hb).1⟩⟩
 done:=by
  intro X hP hw hK hc i pins s σ H E I hf st hg
  subst hP hw hK
  obtain⟨hi,hq⟩:=hg
  obtain⟨ho,_,_,es',ep',hd',hsz,hat⟩:=zat I.hok hq
  rw[hd] at hd'
  cases hd'
  obtain⟨f0,f1,f2,f3,f4,f5⟩:=hf it (by simp)
  exact z2B (I.ok.hd hc) st ho hd (by lia) fun h' eb=>⟨rfl,I.turned (t':=s.toks) (fun b o hb e=>eb b o hb e) f0 f1 f3 f4 f5⟩
 self:=fun _ _ _ _ _ st h=>wpAny_pyIter_keyiter st h
section
variable{X:Cx}{tg:Expr}
theorem Inv.freeze{pins:List (Addr×Obj)}{σ:St}{H:Hp}{s:Shared}{a:Addr}{kvs:List (NK×V)}(I:Inv X pins σ H s)(h:H a=some (.dT kvs)):
 ∃o es ep,s.heap.get? a=some o/\o.ExactDict/\o.data= .dict es ep/\(a==sysModules)=false/\es.size=kvs.length/\Inv X pins σ (upd H a (.frz o (.dT kvs))) s:=by
 obtain⟨z,y,xs,r,o,es,ep,e,c,d,l,nd⟩:=I.hok a _ h
 have hs:es.size=xs.length:=size_of_entries l
 have hl:kvs.length=xs.length:=Paired.length r
 refine⟨o,es,ep,e,c,d,y,by lia, ?_⟩
 have tn: ∀b xs,H b=some (.tup xs)->(upd H a (.frz o (.dT kvs))) b=some (.tup xs):=fun b xs q=>by
  rw[y6 (z1e q h (by intro z;cases z))];exact q
 have hw:=I.write (x:=a) (e:=a) (o:= .frz o (.dT kvs)) (h':=s.heap) (t':=s.toks) (by rw[h];trivial) (.inl rfl) (fun b u _ q=>q) ⟨o,e⟩
  ⟨e,z,y,xs,Paired.mapP r fun p q z=>⟨z.1,z.2.1.stay tn,z.2.2⟩,o,es,ep,e,c,d,l,nd⟩
 exact hw
end
noncomputable def z0J(osc sc:Scope)(own frees N:List Str)(ix:List Nat):Bool:=
 decide (sc.kind= .function)&&sc.names.all (fun y=>decide (y.2≠ .cell))&&sc.names.all (fun y=>decide (y.2= .local->sc.names.lookup y.1=some .local))&&
  sc.names.all (fun y=>decide (y.2= .free->osc.names.lookup y.1=some .cell\/osc.names.lookup y.1=some .free))&&decide (own++frees).Nodup&&frees.all (fun x=>decide (sc.names.lookup x=some .free))&&
  decide (ix.map (fun i=>N[i]?)=frees.map some)
theorem z0J.sc{osc sc:Scope}{own frees N:List Str}{ix:List Nat}(h:z0J osc sc own frees N ix=true):j5 osc sc own frees N ix:=by
 unfold z0J at h
 erw[i3,t9,decide_eq_true_eq] at h
 obtain⟨⟨⟨⟨⟨⟨h1,h2⟩,h3⟩,h4⟩,h5⟩,h6⟩,h7⟩:=h
 exact⟨h1,h2,h3,h4,h5,h6,h7⟩
theorem V2.new{H:Hp}{p:Addr}(o:HO)(h:H p=none):V2 H (upd H p o):=fun x u e=>by rw[y6 (Q4 e h)];exact e
noncomputable def dT(ns:List Int):PyData:= .tuple (ns.map PyData.int)
theorem Paired.get{α β:Type}{F:α->β->Prop}: ∀{l₁:List α} {l₂:List β},Paired F l₁ l₂->∀(i:Nat) (a:α),l₁[i]? =some a->∃b,l₂[i]? =some b/\F a b
 |_,_, .nil,i,a,e=>by simp at e
 |_,_, .cons r t,0,a,e=>by simp at e;subst e;exact⟨_,rfl,r⟩
 |_,_, .cons r t,i+1,a,e=>by
  obtain⟨b,h1,h2⟩:=Paired.get t i a (by simpa using e)
  exact⟨b,by simpa using h1,h2⟩
theorem Paired.snoc{α β:Type}{F:α->β->Prop}: ∀{l₁:List α} {l₂:List β} {a:α} {b:β},Paired F l₁ l₂->F a b->Paired F (l₁++[a]) (l₂++[b])
 |_,_,_,_, .nil,h=> .cons h .nil
 |_,_,_,_, .cons r t,h=> .cons r (Paired.snoc t h)
noncomputable def z7n(K:W.Frag)(H:Hp)(xs:List V)(Q:VK):Prop:= ∀p H',(H'=H/\H p=some (.tup xs))\/(H p=none/\H'=upd H p (.tup xs))->Q (.ref p) H'
theorem z7n.intro{K:W.Frag}{H:Hp}{xs:List V}{Q:VK}(h: ∀p H',H' p=some (.tup xs)->V2 H H'->Q (.ref p) H'):z7n K H xs Q:=by
 intro p H' e
 rcases e with⟨rfl,s⟩|⟨n,rfl⟩
 ·exact h p H' s (V2.refl _)
 ·exact h p _ y8 (V2.new _ n)
section
variable{X:Cx}
noncomputable def zgX(K:W.Frag):V->Option Int->Option Int->Hp->VK->Prop:=fun x lo hi H Q=> ∃a xs,x= .ref a/\H a=some (.tup xs)/\z7n K H (z77 xs lo hi) Q
theorem zbI:SlR X (zgX X.K):=by
 intro pins s σ H x v vl vu lo hi sl Q I rx hs pl pu h
 obtain⟨a,xs,rfl,hx0,q⟩:=h
 have hx:SqT X.K H a xs:=SqT.of hx0
 by_cases hw:HT.sIx xs.length 0 lo=0/\HT.sIx xs.length xs.length hi=xs.length
 ·cases rx
  obtain⟨its,r,ht,hz⟩:=I.tuple hx
  have hlen:its.toArray.size=xs.length:=by rw[i4];exact r.length.symm
  refine⟨"tuple",_,PyProof.Rows.slot_tuple_getitem.lookup,ht.typeIs, ?_⟩
  refine HT.getItem_tuple_whole ht hs pl pu (by rw[hlen];exact hw) ⟨.ref a,H,I,rfl,q a H (.inl ⟨rfl, ?_⟩)⟩
  rw[z6d hw]
  exact hx0
 ·exact zdN pins s σ H _ v vl vu lo hi sl Q I rx hs pl pu ⟨a,xs,rfl,hx,hw,fun p hp=>q p _ (.inr ⟨hp,rfl⟩)⟩
noncomputable def z7o(K:W.Frag):R2:=fun x y H Q=> ∃a b xs ys,x= .ref a/\y= .ref b/\H a=some (.tup xs)/\H b=some (.tup ys)/\xs.length+ys.length<=sizeLine/\z7n K H (xs++ys) Q
theorem z4G:OpR X (binaryOp .Add) (z7o X.K):=by
 intro pins s σ H x y v u Q I rx ry h
 obtain⟨a,b,xs,ys,rfl,rfl,ha0,hb0,hz,q⟩:=h
 have ha:SqT X.K H a xs:=SqT.of ha0
 have hb:SqT X.K H b ys:=SqT.of hb0
 by_cases hx:xs=[]
 ·subst hx
  cases rx
  cases ry
  obtain⟨its,r1,p1,_⟩:=I.tuple ha
  obtain⟨its2,r2,p2,_⟩:=I.tuple hb
  have e0:its=[]:=(w4.nil_iff r1).mpr rfl
  subst e0
  obtain⟨⟨cls,dd,data,sl⟩,ho,hc,n,hd⟩:=id p1
  obtain⟨⟨cls2,dd2,data2,sl2⟩,ho2,hc2,n2,hd2⟩:=id p2
  simp only at hc hd hc2 hd2
  subst hc hd hc2 hd2
  exact concat_meets ⟨_,ho,rfl⟩ ⟨_,ho2,rfl⟩ noFill_tuple_add seq_tuple_add PySem.F.slot_tuple_add PySem.F.entry_tuple_add (PySem.F.args_tuple_add_2 _ _)
   (tuple_addW0 a b _ _ n n2 dd dd2 sl sl2 (by simp)) ⟨ho,ho2, .ref b,H,I,rfl,q b H (.inl ⟨rfl,hb0⟩)⟩
 ·refine zbu pins s σ H _ _ v u Q I rx ry ⟨a,b,xs,ys,rfl,rfl,ha,hb,hx,hz,fun e=> ?_,fun _ p hp=>q p _ (.inr ⟨hp,rfl⟩)⟩
  refine q a H (.inl ⟨rfl, ?_⟩)
  rw[e,c9]
  exact ha0
theorem z7p:CallR X (.type "tuple") (fun xs H Q=> ∃(p:Addr) (ys:List V),xs=[.ref p]/\(SqL X.K H p ys\/H p=some (.tup ys))/\z7n X.K H ys Q):=by
 intro pins s σ H xs us Q I r h
 obtain⟨p,ys,rfl,hs,q⟩:=h
 refine z38 pins s σ H _ us Q I r ⟨p,ys,rfl, ?_⟩
 rcases hs with hs|hs
 ·exact .inl ⟨hs,fun l hl=>q l _ (.inr ⟨hl,rfl⟩)⟩
 ·exact .inr ⟨SqT.of hs,q p H (.inl ⟨rfl,hs⟩)⟩
end
end L2
namespace PyProof.Rows
open PySem
section
variable{prog:Program}{w:World}{A:Around}{E:Value->Shared->Prop}{s:Shared}
theorem z25{h h':Heap}{t:Addr}{items:Array Value}(hl:h.IsList t items)(k: ∀o,h.get? t=some o->h'.get? t=some o):h'.IsList t items:=by
 obtain⟨o,ho,hc,n,hd⟩:=hl
 exact⟨o,k o ho,hc,n,hd⟩
theorem z3Z{it t:Addr}{items:Array Value}(hne:t≠it): ∀(n i:Nat) (s:Shared) (Q:List Value->Shared->Prop),s.heap.IsListIter it t i->s.heap.IsList t items->i+n<=items.size->
 (∀h',h'.IsListIter it t (i+n)->Heap.SameBut it s.heap h'->Q ((items.toList.drop i).take n) {s with heap:=h'})->wpAny (model prog w) A (draw (.ref it) n) Q E s
 |0,i,s,Q,hit,_,_,hQ=>by
  show wpAny _ _ (pure []) Q E s
  exact wpAny_pure (by simpa using hQ s.heap hit (Heap.SameBut.refl ..))
 |n+1,i,s,Q,hit,ht,hle,hQ=>by
  have hlt:i<items.size:=by lia
  show wpAny _ _ (pyNext (.ref it)>>=_) Q E s
  refine wpAny_bind (wpAny_pyNext_list_item hit ht (x:=items[i]) (by simp[hlt]) fun h₁ hit₁ hs₁=> ?_)
  refine wpAny_bind (wpAny_holding (z3Z hne n (i+1) _ _ hit₁ (z25 ht fun o e=>(hs₁.2 t hne).trans e) (by lia) fun h₂ hit₂ hs₂=>wpAny_pure ?_))
  have hd:items.toList.drop i=items[i]::items.toList.drop (i+1):=by simp[F3,hlt]
  have:=hQ h₂ (by rw[show i+(n+1)=i+1+n by lia];exact hit₂) (hs₁.trans hs₂)
  rw[hd,C5] at this
  exact this
theorem z1H{t:Addr}{items:Array Value}{Q:List Value->Shared->Prop}(hh:A.handled=none)(ht:s.heap.IsList t items)
 (hQ: ∀h',Heap.ExtBut s.heap.objs.size s.heap h'->Q items.toList {s with heap:=h'}):wpAny (model prog w) A (unpackItems (.ref t) items.size none) Q E s:=by
 have hlt:t≠s.heap.objs.size:=by obtain⟨o,ho,_⟩:=ht;exact l0 (Heap.lt_size ho)
 have hT:s.TypeIs (.ref t) "list" :=by obtain⟨o,ho,hc,_⟩:=ht;exact⟨o,ho,hc⟩
 unfold unpackItems
 refine wpAny_bind ?_
 ·unfold notIterableAtAll
  refine wpAny_bind (wpAny_specialOf hT PySem.F.slot_list_iter.lookup ?_)
  refine wpAny_pure ?_
  erw[t8,if_false]
  refine wpAny_bind (wpAny_holding (wpAny_pyIter_list ht ?_))
  refine wpAny_bind (wpAny_holding (z3Z hlt items.size 0 _ _ ⟨_,Heap.get?_push_size _ rfl,rfl,rfl⟩ (z25 ht fun o e=>Heap.get?_push_of_some _ e) (by lia) fun h₁ hit₁ hs₁=> ?_))
  have hall:List.take items.size (List.drop 0 items.toList)=items.toList:=by
   rw[M0];exact List.take_of_length_le (by simp)
  rw[hall]
  rw[if_neg (by simp)]
  have ht₁:h₁.IsList t items:=z25 ht fun o e=>(hs₁.2 t hlt).trans (Heap.get?_push_of_some _ e)
  refine wpAny_bind (wpAny_holding (wpAny_pyNext_list_end hh hit₁ ht₁ (by simp) fun h₂ he₂=> ?_))
  erw[Option.isSome_none,t8,if_false]
  refine wpAny_pure (hQ h₂ fun b o hb e=>he₂ b o hb (hs₁.extBut b o hb (Heap.get?_push_of_some _ e)))
theorem z1k{env:Env}{elts:List Expr}{x1}{pos:Pos}{t:Addr}{items:Array Value}{Q:Unit->Shared->Prop}(hh:A.handled=none)(ht:s.heap.IsList t items)
 (hn:(assignEach elts env).length=items.size) (hstar:(assignEach elts env).findIdx? (·.1)=none)
 (h: ∀h',Heap.ExtBut s.heap.objs.size s.heap h'->wpAny (model prog w) A (assignInOrder ((assignEach elts env).map (·.2)) items.toList) Q E {s with heap:=h'}):
 wpAny (model prog w) A (assign (.Tuple elts x1 pos) env (.ref t)) Q E s:=by
 rw[assign_Tuple]
 refine wpAny_bind (wpAny_standAt ?_)
 unfold unpack
 rw[hn,hstar]
 exact wpAny_bind (wpAny_holding (z1H hh ht h))
end
end PyProof.Rows
namespace L2
open PySem PySem.Spec PyProof.Rows
section
variable{X:Cx}{pos:Pos}
noncomputable def zja(K:W.Frag)(n:Nat)(t:TGs):TG:=fun v σ H Q=> ∃a xs,v= .ref a/\(SqT K H a xs\/SqL K H a xs)/\xs.length=n/\t xs σ H Q
theorem zec{es:List Expr}{k:Nat}{t:TGs}{n:Nat}(hc:X.calm=true)(h:PGs X es t)
 (hn:(assignEach es X.env).length=n:=by rfl) (hst:(assignEach es X.env).findIdx? (·.1)=none:=by rfl):PG X (.Tuple es k pos) (zja X.K n t):=by
 intro pins s σ H v u Q I r hw
 obtain⟨a,xs,e1,hq|hq,hl,hw⟩:=hw
 ·exact zae hc h hn hst pins s σ H v u Q I r ⟨a,xs,e1,hq,hl,hw⟩
 ·subst e1
  cases r
  obtain⟨its,rv,ht,hz⟩:=I.list hq
  refine z1k (I.ok.hd hc) ht.isList (by simp[hn,<-hl,rv.length]) hst fun h' hx=> ?_
  have I1:Inv X pins σ H {s with heap:=h'}:=I.kept (t':=s.toks) fun b o e=>hx b o (l0 (Heap.lt_size e)) e
  exact h pins _ σ H xs _ Q I1 (by simpa using rv) hw
end
theorem z1I:fillsNumberSlot (.type "tuple") "mul" =pure false:=
 PySem.fillsNumberSlot_seq (id:= "tuple.__mul__") (r:=some (.builtin "tuple.__rmul__")) F.slot_tuple_mul.lookup (by decide+kernel) F.slot_tuple_rmul.lookup (by decide+kernel)
theorem z40:seqRepeat? (.type "tuple")=pure (some (.builtin "tuple.__mul__")):=by
 unfold seqRepeat?
 rw[PySem.seqSlot_of (T:= "tuple") (name:= "__mul__") (id:= "tuple.__mul__") F.slot_tuple_mul.lookup (by decide+kernel),PySem.seqSlot_of (T:= "tuple") (name:= "__rmul__") (id:= "tuple.__rmul__") F.slot_tuple_rmul.lookup (by decide+kernel)]
 rfl
theorem z2C(a:Int)(t:Tok)(l:Addr)(items:Array Value)(n:Nat)(dd:Option Addr)(sl:Array (Option Value)):
 Meets (Builtin.«int.__rmul__» ⟨[.int a t, .ref l],[]⟩) (fun _ R s=>s.heap.get? l=some {cls:= .type "tuple",dict:=dd,data:= .seq items n,slots:=sl}/\R (.ok (.ret Value.notImplemented)) s):=
 .of_wp fun prog w A R s h=>by obtain⟨hp,g,d,tk,os⟩:=s;obtain⟨hl,h⟩:=h;wp_walk;exact⟨_,rfl,h⟩
theorem z6g(l:Addr)(items:Array Value)(n:Nat)(dd:Option Addr)(sl:Array (Option Value))(x:Int)(u:Tok)(hc0: ¬(decide (x< -(2^63))||decide (x≥2^63))=true)(hc1: ¬(items.isEmpty||x==1)=true)(hc2: ¬(decide (x<=0)||items.isEmpty)=true)(hc3: ¬((items.size:Int)*x>(2^63 - 1)/8))(hc4: ¬Builtin.Tuple.tupleTooMany ((items.size:Int)*x)=true)(hsz:(F0 (fun x1 x2=>x1++x2) #[] (e6 x.toNat items)).size<=sizeLine):
 Meets (Builtin.«tuple.__mul__» ⟨[.ref l, .int x u],[]⟩) (fun _ R s=>s.heap.get? l=some {cls:= .type "tuple",dict:=dd,data:= .seq items n,slots:=sl}/\R (.ok (.ret (Value.ref s.heap.objs.size))) {s with heap:=s.heap.push {cls:=Value.type "tuple",data:=Data.seq (F0 (fun x1 x2=>x1++x2) #[] (e6 x.toNat items))},toks:=s.toks}):=
 .of_wp fun prog w A R s h=>by
  obtain⟨hp,g,d,tk,os⟩:=s;obtain⟨hl,h⟩:=h
  have f1:=AutoSeq1.idx_int;have f2:=AutoSeq1.sub_tuple_tuple
  wp_walk using AutoSeq1.wpAny_loadPart' hl
  rw[if_neg hc0]
  wp_walk using AutoSeq1.wpAny_loadPart' hl
  rw[if_neg hc3]
  wp_walk using AutoSeq1.wpAny_loadPart' hl
  exact⟨_,rfl,h⟩
section
variable{X:Cx}
noncomputable def zbJ(K:W.Frag):R2:=fun x y H Q=> ∃a k xs,x= .ref a/\y= .int k/\SqT K H a xs/\0<xs.length/\2<=k/\k<2^63/\xs.length*k.toNat<=sizeLine/\
 ∀p,H p=none->Q (.ref p) (upd H p (.tup (e6 k.toNat xs).flatten))
theorem zbK:OpR X (binaryOp .Mult) (zbJ X.K):=by
 intro pins s σ H x y v u Q I rx ry h
 obtain⟨a,k,xs,rfl,rfl,ha,h0,h1,h2,hz,q⟩:=h
 cases rx
 obtain⟨t,rfl⟩:=ry
 obtain⟨its,r,p1,_⟩:=I.tuple ha
 obtain⟨⟨cls,dd,data,sl⟩,e,hc,n,hd⟩:=id p1
 simp only at hc hd
 subst hc hd
 have hlen:its.length=xs.length:=r.length.symm
 have hne:its.toArray.isEmpty=false:=by
  cases its with
  |nil=>simp at hlen;lia
  |cons a r=>simp
 have hnew:F0 (fun x1 x2=>x1++x2) #[] (e6 k.toNat its.toArray)=(e6 k.toNat its).flatten.toArray:=by
  have:=z1T its k.toNat []
  rw[m8] at this
  exact this
 have hl2:((its.toArray.size:Nat):Int)*k=((xs.length*k.toNat:Nat):Int):=by
  rw[i4,hlen,Int.natCast_mul,Int.toNat_of_nonneg (by lia)]
 have hs:(sizeLine:Nat)=16777216:=rfl
 refine wpAny_binaryOp_repeat_ref (T:= "tuple") (U:= "int") (by decide) ⟨_,e,rfl⟩ (fun s'=>typeIs_int s' k t) z1I F.fills_int_mul F.slot_int_rmul z40 F.slot_int_index.lookup
  (call_meets F.slot_int_rmul (typeIs_int s k t) F.entry_int_rmul (F.args_int_rmul_2 _ _) (z2C k t a its.toArray n dd sl)
   ⟨e,rfl,⟨_,e,rfl⟩,call_meets F.slot_tuple_mul ⟨_,e,rfl⟩ F.entry_tuple_mul (F.args_tuple_mul_2 _ _) (z6g a its.toArray n dd sl k t (by simp;lia) (by rw[hne];simp;lia) (by rw[hne];simp;lia) (by rw[hl2];clear hl2;generalize xs.length*k.toNat=m at hz⊢;lia) (by rw[hl2];clear hl2;generalize xs.length*k.toNat=m at hz⊢;unfold Builtin.Tuple.tupleTooMany;rw[decide_eq_true_eq];lia) (by rw[hnew,i4,z4B,hlen,N3];exact hz)) ⟨e, ?_⟩⟩)
 rw[hnew]
 refine⟨.ref s.heap.objs.size,_,I.laid (t':=s.toks) (o:= .tup (e6 k.toNat xs).flatten) (fun b ob q=>Heap.get?_push_of_some _ q) (e8 _) ?_,rfl,q _ (I.hok.fresh (e8 _))⟩
 exact⟨by rw[z4B,N3];exact hz,_,r.rep k.toNat,IsTup.new _ _⟩
end
end L2
namespace Mi
open PySem L2
inductive D where
 |non|bool (b:Bool)|int (i:Int)|str (x:Str)
 |tup (ds:List D)|ro (ds:List D)|lst (l:Nat) (ds:List D)
 |dct (l:Nat) (ks vs:List D)|obj (l:Nat) (c:Str) (ns:List Str) (vs:List D)
 |exc (c:Str)|fn (c:Str)|fdc (ks vs:List D)
deriving Inhabited
mutual
noncomputable def y4:D->List Nat
 | .tup ds=>labsL ds
 | .ro ds=>labsL ds
 | .fdc _ vs=>labsL vs
 | .lst l ds=>l::labsL ds
 | .dct l ks vs=>l::(labsL ks++labsL vs)
 | .obj l _ _ vs=>l::labsL vs
 | .non=>[]| .bool _=>[]| .int _=>[]| .str _=>[]| .exc _=>[]| .fn _=>[]
noncomputable def labsL:List D->List Nat
 |[]=>[]
 |d::ds=>y4 d++labsL ds
end
noncomputable def Z2:List (Option D)->List Nat
 |[]=>[]
 |none::r=>Z2 r
 |some d::r=>y4 d++Z2 r
structure Gx where
 K:W.Frag
 cl:Str->Option Addr
 ci: ∀c c' a,cl c=some a->cl c'=some a->c=c'
 ck: ∀c a,cl c=some a->∃o,K.lookup a=some o/\∀its n,o.data≠ .seq its n
noncomputable def z3F:Key->D
 | .inl i=> .int i
 | .inr x=> .str x
noncomputable def nkD:Key⊕List Key->D
 | .inl k=>z3F k
 | .inr ks=> .tup (ks.map z3F)
noncomputable def dkD(k:NK):D:= .tup (k.map nkD)
noncomputable def RoL(K:W.Frag)(H:Hp)(a:Addr)(xs:List V):Prop:=
 (∃o,H a=some (.frz o (.lst xs)))\/∃(o:Obj) (its:Array Value) (n:Nat),K.lookup a=some o/\o.cls= .type "list" /\o.dict=none/\o.data= .seq its n/\its.size<=sizeLine/\w4 xs its.toList
theorem RoL.sq{K:W.Frag}{H:Hp}{a:Addr}{xs:List V}(h:RoL K H a xs):SqL K H a xs:=by
 rcases h with⟨o,h⟩|h
 ·exact .inl (.inr ⟨o,h⟩)
 ·exact .inr h
mutual
noncomputable def RD(G:Gx)(ρ:Nat->Addr)(H:Hp):D->V->Prop
 | .non,v=>v= .non
 | .bool b,v=>v= .bl b
 | .int i,v=>v= .int i
 | .str x,v=>v= .str x
 | .exc c,v=> ∃a o C,v= .ref a/\G.cl c=some C/\o.cls= .ref C/\(∃vs,o.data= .fields vs)/\H a=some (.frz o (.ext fun _=>True))
 | .fn c,v=> ∃a,v= .ref a/\G.cl c=some a
 | .tup ds,v=> ∃a xs,v= .ref a/\H a=some (.tup xs)/\RDs G ρ H ds xs
 | .ro ds,v=> ∃a xs,v= .ref a/\RoL G.K H a xs/\RDs G ρ H ds xs
 | .fdc ks vs,v=> ∃(a:Addr) (o:Obj) (kvs:List (NK×V)),v= .ref a/\H a=some (.frz o (.dT kvs))/\ks=kvs.map (fun p=>dkD p.1)/\RDs G ρ H vs (kvs.map (·.2))
 | .lst l ds,v=>v= .ref (ρ l)/\∃xs,H (ρ l)=some (.lst xs)/\RDs G ρ H ds xs
 | .dct l ks vs,v=>v= .ref (ρ l)/\((∃kvs:List (Key×V),H (ρ l)=some (.dK kvs)/\ks=D.non::kvs.map (fun p=>z3F p.1)/\RDs G ρ H vs (kvs.map (·.2)))\/
  (∃kvs:List (NK×V),H (ρ l)=some (.dT kvs)/\ks=kvs.map (fun p=>dkD p.1)/\RDs G ρ H vs (kvs.map (·.2))))
 | .obj l c ns vs,v=>v= .ref (ρ l)/\∃C dx fs,G.cl c=some C/\H (ρ l)=some (.ins C dx fs)/\ns=fs.map (·.1)/\RDs G ρ H vs (fs.map (·.2))
noncomputable def RDs(G:Gx)(ρ:Nat->Addr)(H:Hp):List D->List V->Prop
 |[],xs=>xs=[]
 |d::ds,xs=> ∃x r,xs=x::r/\RD G ρ H d x/\RDs G ρ H ds r
end
structure J3(H H':Hp):Prop where
 t: ∀b xs,H b=some (.tup xs)->H' b=some (.tup xs)
 f: ∀b o u,H b=some (.frz o u)->H' b=some (.frz o u)
theorem J3.refl(H:Hp):J3 H H:=⟨fun _ _ h=>h,fun _ _ _ h=>h⟩
theorem J3.of{H H':Hp}(h:V2 H H'):J3 H H':=⟨fun _ _ e=>h _ _ e,fun _ _ _ e=>h _ _ e⟩
theorem J3.ro{K:W.Frag}{H H':Hp}(t:J3 H H'){a:Addr}{xs:List V}(h:RoL K H a xs):RoL K H' a xs:=by
 rcases h with⟨o,h⟩|h
 ·exact .inl ⟨o,t.f _ _ _ h⟩
 ·exact .inr h
section
variable{G:Gx}{ρ ρ':Nat->Addr}{H H':Hp}
mutual
theorem RD.stay(ts:J3 H H'): ∀(t:D) (v:V),RD G ρ H t v->(∀l∈y4 t,ρ' l=ρ l/\∀o,H (ρ l)=some o->H' (ρ l)=some o)->RD G ρ' H' t v
 | .non,v,h,_=>by erw[RD] at h⊢;exact h
 | .bool b,v,h,_=>by erw[RD] at h⊢;exact h
 | .int b,v,h,_=>by erw[RD] at h⊢;exact h
 | .str b,v,h,_=>by erw[RD] at h⊢;exact h
 | .exc b,v,h,_=>by
  erw[RD] at h⊢
  obtain⟨a,o,C,e,h1,h2,h3,h5⟩:=h
  exact⟨a,o,C,e,h1,h2,h3,ts.f _ _ _ h5⟩
 | .fn b,v,h,_=>by erw[RD] at h⊢;exact h
 | .tup ds,v,h,hl=>by
  erw[RD,y4] at h hl⊢
  obtain⟨a,xs,e,s,r⟩:=h
  exact⟨a,xs,e,ts.t _ _ s,RDs.stay ts ds xs r hl⟩
 | .ro ds,v,h,hl=>by
  erw[RD,y4] at h hl⊢
  obtain⟨a,xs,e,s,r⟩:=h
  exact⟨a,xs,e,ts.ro s,RDs.stay ts ds xs r hl⟩
 | .fdc ks vs,v,h,hl=>by
  erw[RD,y4] at h hl⊢
  obtain⟨a,o,kvs,e,s,s2,r⟩:=h
  exact⟨a,o,kvs,e,ts.f _ _ _ s,s2,RDs.stay ts vs _ r hl⟩
 | .lst l ds,v,h,hl=>by
  erw[RD,y4] at h hl⊢
  obtain⟨e,xs,s,r⟩:=h
  obtain⟨e1,e2⟩:=hl l (e9 ..)
  rw[e1]
  exact⟨e,xs,e2 _ s,RDs.stay ts ds xs r fun k hk=>hl k (b7 _ hk)⟩
 | .dct l ks vs,v,h,hl=>by
  erw[RD,y4] at h hl⊢
  obtain⟨e,s⟩:=h
  obtain⟨e1,e2⟩:=hl l (e9 ..)
  rw[e1]
  refine⟨e, ?_⟩
  rcases s with⟨kvs,s,s2,r⟩|⟨kvs,s,s2,r⟩
  ·exact .inl ⟨kvs,e2 _ s,s2,RDs.stay ts vs _ r fun k hk=>hl k (b7 _ (b6 _ hk))⟩
  ·exact .inr ⟨kvs,e2 _ s,s2,RDs.stay ts vs _ r fun k hk=>hl k (b7 _ (b6 _ hk))⟩
 | .obj l c ns vs,v,h,hl=>by
  erw[RD,y4] at h hl⊢
  obtain⟨e,C,dx,fs,hC,s,s2,r⟩:=h
  obtain⟨e1,e2⟩:=hl l (e9 ..)
  rw[e1]
  exact⟨e,C,dx,fs,hC,e2 _ s,s2,RDs.stay ts vs _ r fun k hk=>hl k (b7 _ hk)⟩
theorem RDs.stay(ts:J3 H H'): ∀(t:List D) (v:List V),RDs G ρ H t v->(∀l∈labsL t,ρ' l=ρ l/\∀o,H (ρ l)=some o->H' (ρ l)=some o)->RDs G ρ' H' t v
 |[],v,h,_=>by erw[RDs] at h⊢;exact h
 |d::ds,v,h,hl=>by
  erw[RDs,labsL] at h hl⊢
  obtain⟨x,r,e,h1,h2⟩:=h
  exact⟨x,r,e,RD.stay ts d x h1 fun l hk=>hl l (b8 _ hk),RDs.stay ts ds r h2 fun l hk=>hl l (b6 _ hk)⟩
end
end
mutual
noncomputable def rp(f:Nat->Option D):D->D
 | .tup ds=> .tup (rpL f ds)
 | .ro ds=> .ro (rpL f ds)
 | .fdc ks vs=> .fdc ks (rpL f vs)
 | .lst l ds=>match f l with|some d=>d|none=> .lst l (rpL f ds)
 | .dct l ks vs=>match f l with|some d=>d|none=> .dct l ks (rpL f vs)
 | .obj l c ns vs=>match f l with|some d=>d|none=> .obj l c ns (rpL f vs)
 | .non=> .non| .bool b=> .bool b| .int i=> .int i| .str x=> .str x| .exc x=> .exc x| .fn x=> .fn x
noncomputable def rpL(f:Nat->Option D):List D->List D
 |[]=>[]
 |d::ds=>rp f d::rpL f ds
end
noncomputable def rpO(f:Nat->Option D):List (Option D)->List (Option D)
 |[]=>[]
 |none::r=>none::rpO f r
 |some d::r=>some (rp f d)::rpO f r
section
variable{f:Nat->Option D}
mutual
theorem z7q: ∀t:D,(∀l∈y4 t,f l=none)->rp f t=t
 | .non,_=>rfl
 | .bool b,_=>rfl
 | .int b,_=>rfl
 | .str b,_=>rfl
 | .exc b,_=>rfl
 | .fn b,_=>rfl
 | .tup ds,h=>by erw[rp,y4] at h⊢;rw[rpL_id ds h]
 | .ro ds,h=>by erw[rp,y4] at h⊢;rw[rpL_id ds h]
 | .fdc ks vs,h=>by erw[rp,y4] at h⊢;rw[rpL_id vs h]
 | .lst l ds,h=>by
  erw[rp,y4] at h⊢
  rw[h l (e9 ..),rpL_id ds fun k hk=>h k (b7 _ hk)]
 | .dct l ks vs,h=>by
  erw[rp,y4] at h⊢
  rw[h l (e9 ..),rpL_id vs fun k hk=>h k (b7 _ (b6 _ hk))]
 | .obj l c ns vs,h=>by
  erw[rp,y4] at h⊢
  rw[h l (e9 ..),rpL_id vs fun k hk=>h k (b7 _ hk)]
theorem rpL_id: ∀t:List D,(∀l∈labsL t,f l=none)->rpL f t=t
 |[],_=>rfl
 |d::ds,h=>by
  erw[rpL,labsL] at h⊢
  rw[z7q d fun l hk=>h l (b8 _ hk),rpL_id ds fun l hk=>h l (b6 _ hk)]
end
theorem z7r: ∀t:List (Option D),(∀l∈Z2 t,f l=none)->rpO f t=t
 |[],_=>rfl
 |none::r,h=>by erw[rpO,Z2] at h⊢;rw[z7r r h]
 |some d::r,h=>by
  erw[rpO,Z2] at h⊢
  rw[z7q d fun l hk=>h l (b8 _ hk),z7r r fun l hk=>h l (b6 _ hk)]
end
section
variable{G:Gx}{ρ ρ':Nat->Addr}{H H':Hp}{f:Nat->Option D}
mutual
theorem RD.rp(ts:J3 H H'): ∀(t:D) (v:V),RD G ρ H t v->(∀l∈y4 t,ρ' l=ρ l/\(match f l with|some d=>RD G ρ' H' d (.ref (ρ l))|none=> ∀o,H (ρ l)=some o->H' (ρ l)=some o))->RD G ρ' H' (rp f t) v
 | .non,v,h,_=>by erw[Mi.rp,RD] at h⊢;exact h
 | .bool b,v,h,_=>by erw[Mi.rp,RD] at h⊢;exact h
 | .int b,v,h,_=>by erw[Mi.rp,RD] at h⊢;exact h
 | .str b,v,h,_=>by erw[Mi.rp,RD] at h⊢;exact h
 | .exc b,v,h,_=>by
  erw[Mi.rp,RD] at h⊢
  obtain⟨a,o,C,e,h1,h2,h3,h5⟩:=h
  exact⟨a,o,C,e,h1,h2,h3,ts.f _ _ _ h5⟩
 | .fn b,v,h,_=>by erw[Mi.rp,RD] at h⊢;exact h
 | .tup ds,v,h,hl=>by
  erw[Mi.rp,RD,y4] at h hl⊢
  obtain⟨a,xs,e,s,r⟩:=h
  exact⟨a,xs,e,ts.t _ _ s,RDs.rp ts ds xs r hl⟩
 | .ro ds,v,h,hl=>by
  erw[Mi.rp,RD,y4] at h hl⊢
  obtain⟨a,xs,e,s,r⟩:=h
  exact⟨a,xs,e,ts.ro s,RDs.rp ts ds xs r hl⟩
 | .fdc ks vs,v,h,hl=>by
  erw[Mi.rp,RD,y4] at h hl⊢
  obtain⟨a,o,kvs,e,s,s2,r⟩:=h
  exact⟨a,o,kvs,e,ts.f _ _ _ s,s2,RDs.rp ts vs _ r hl⟩
 | .lst l ds,v,h,hl=>by
  erw[Mi.rp,RD,y4] at h hl⊢
  obtain⟨e,xs,s,r⟩:=h
  obtain⟨e1,e2⟩:=hl l (e9 ..)
  cases ef:f l with
  |some d=>rw[ef] at e2;subst e;exact e2
  |none=>
   rw[ef] at e2
   erw[RD]
   rw[e1]
   exact⟨e,xs,e2 _ s,RDs.rp ts ds xs r fun k hk=>hl k (b7 _ hk)⟩
 | .dct l ks vs,v,h,hl=>by
  erw[Mi.rp,RD,y4] at h hl⊢
  obtain⟨e,s⟩:=h
  obtain⟨e1,e2⟩:=hl l (e9 ..)
  cases ef:f l with
  |some d=>rw[ef] at e2;subst e;exact e2
  |none=>
   rw[ef] at e2
   erw[RD]
   rw[e1]
   refine⟨e, ?_⟩
   rcases s with⟨kvs,s,s2,r⟩|⟨kvs,s,s2,r⟩
   ·exact .inl ⟨kvs,e2 _ s,s2,RDs.rp ts vs _ r fun k hk=>hl k (b7 _ (b6 _ hk))⟩
   ·exact .inr ⟨kvs,e2 _ s,s2,RDs.rp ts vs _ r fun k hk=>hl k (b7 _ (b6 _ hk))⟩
 | .obj l c ns vs,v,h,hl=>by
  erw[Mi.rp,RD,y4] at h hl⊢
  obtain⟨e,C,dx,fs,hC,s,s2,r⟩:=h
  obtain⟨e1,e2⟩:=hl l (e9 ..)
  cases ef:f l with
  |some d=>rw[ef] at e2;subst e;exact e2
  |none=>
   rw[ef] at e2
   erw[RD]
   rw[e1]
   exact⟨e,C,dx,fs,hC,e2 _ s,s2,RDs.rp ts vs _ r fun k hk=>hl k (b7 _ hk)⟩
theorem RDs.rp(ts:J3 H H'): ∀(t:List D) (v:List V),RDs G ρ H t v->(∀l∈labsL t,ρ' l=ρ l/\(match f l with|some d=>RD G ρ' H' d (.ref (ρ l))|none=> ∀o,H (ρ l)=some o->H' (ρ l)=some o))->RDs G ρ' H' (rpL f t) v
 |[],v,h,_=>by erw[rpL,RDs] at h⊢;exact h
 |d::ds,v,h,hl=>by
  erw[rpL,RDs,labsL] at h hl⊢
  obtain⟨x,r,e,h1,h2⟩:=h
  exact⟨x,r,e,RD.rp ts d x h1 fun l hk=>hl l (b8 _ hk),RDs.rp ts ds r h2 fun l hk=>hl l (b6 _ hk)⟩
end
end
section
variable{f:Nat->Option D}
mutual
theorem z7s(l:Nat): ∀t:D,l∈y4 (rp f t)->l∈y4 t\/∃k d,k∈y4 t/\f k=some d/\l∈y4 d
 | .non,h=>by erw[rp,y4] at h;cases h
 | .bool b,h=>by erw[rp,y4] at h;cases h
 | .int b,h=>by erw[rp,y4] at h;cases h
 | .str b,h=>by erw[rp,y4] at h;cases h
 | .exc b,h=>by erw[rp,y4] at h;cases h
 | .fn b,h=>by erw[rp,y4] at h;cases h
 | .tup ds,h=>by
  erw[rp,y4] at h⊢
  exact labsL_rp l ds h
 | .ro ds,h=>by
  erw[rp,y4] at h⊢
  exact labsL_rp l ds h
 | .fdc ks vs,h=>by
  erw[rp,y4] at h⊢
  exact labsL_rp l vs h
 | .lst k ds,h=>by
  erw[rp] at h
  cases e:f k with
  |some d=>rw[e] at h;exact .inr ⟨k,d,by erw[y4];exact e9 ..,e,h⟩
  |none=>
   rw[e] at h
   erw[y4] at h⊢
   rcases e7.mp h with h|h
   ·exact .inl (e7.mpr (.inl h))
   ·rcases labsL_rp l ds h with q|⟨k',d,q1,q2,q3⟩
    ·exact .inl (b7 _ q)
    ·exact .inr ⟨k',d,b7 _ q1,q2,q3⟩
 | .dct k ks vs,h=>by
  erw[rp] at h
  cases e:f k with
  |some d=>rw[e] at h;exact .inr ⟨k,d,by erw[y4];exact e9 ..,e,h⟩
  |none=>
   rw[e] at h
   erw[y4] at h⊢
   rcases e7.mp h with h|h
   ·exact .inl (e7.mpr (.inl h))
   ·rcases c8.mp h with h|h
    ·exact .inl (b7 _ (b8 _ h))
    ·rcases labsL_rp l vs h with q|⟨k',d,q1,q2,q3⟩
     ·exact .inl (b7 _ (b6 _ q))
     ·exact .inr ⟨k',d,b7 _ (b6 _ q1),q2,q3⟩
 | .obj k c ns vs,h=>by
  erw[rp] at h
  cases e:f k with
  |some d=>rw[e] at h;exact .inr ⟨k,d,by erw[y4];exact e9 ..,e,h⟩
  |none=>
   rw[e] at h
   erw[y4] at h⊢
   rcases e7.mp h with h|h
   ·exact .inl (e7.mpr (.inl h))
   ·rcases labsL_rp l vs h with q|⟨k',d,q1,q2,q3⟩
    ·exact .inl (b7 _ q)
    ·exact .inr ⟨k',d,b7 _ q1,q2,q3⟩
theorem labsL_rp(l:Nat): ∀t:List D,l∈labsL (rpL f t)->l∈labsL t\/∃k d,k∈labsL t/\f k=some d/\l∈y4 d
 |[],h=>by erw[rpL,labsL] at h;cases h
 |d::ds,h=>by
  erw[rpL,labsL] at h⊢
  rcases c8.mp h with h|h
  ·rcases z7s l d h with q|⟨k',d,q1,q2,q3⟩
   ·exact .inl (b8 _ q)
   ·exact .inr ⟨k',d,b8 _ q1,q2,q3⟩
  ·rcases labsL_rp l ds h with q|⟨k',d,q1,q2,q3⟩
   ·exact .inl (b6 _ q)
   ·exact .inr ⟨k',d,b6 _ q1,q2,q3⟩
end
theorem z1L(l:Nat): ∀t:List (Option D),l∈Z2 (rpO f t)->l∈Z2 t\/∃k d,k∈Z2 t/\f k=some d/\l∈y4 d
 |[],h=>by erw[rpO,Z2] at h;cases h
 |none::r,h=>by erw[rpO,Z2] at h⊢;exact z1L l r h
 |some d::ds,h=>by
  erw[rpO,Z2] at h⊢
  rcases c8.mp h with h|h
  ·rcases z7s l d h with q|⟨k',d,q1,q2,q3⟩
   ·exact .inl (b8 _ q)
   ·exact .inr ⟨k',d,b8 _ q1,q2,q3⟩
  ·rcases z1L l ds h with q|⟨k',d,q1,q2,q3⟩
   ·exact .inl (b6 _ q)
   ·exact .inr ⟨k',d,b6 _ q1,q2,q3⟩
end
structure Stt where
 σ:List (Option D)
 tm:List (Option D)
 n:Nat
structure Fx where
 A0:Addr->Prop
 H0:Hp
 Z:Addr->Prop
 zA: ∀a,Z a->(∃o,H0 a=some o)/\¬A0 a
 aH: ∀a,A0 a->∃o,H0 a=some o
 n0:Nat
 ρ0:Nat->Addr
noncomputable def KD(K:W.Frag)(H:Hp):Prop:= ∀a o,K.lookup a=some o->H a=none
section
variable(G:Gx)(ρ:Nat->Addr)(H:Hp)
noncomputable def Sl:List (Option D)->List (Option V)->Prop
 |[],vs=>vs=[]
 |none::r,vs=> ∃o q,vs=o::q/\Sl r q
 |some d::r,vs=> ∃v q,vs=some v::q/\RD G ρ H d v/\Sl r q
end
noncomputable def Q7(s:Stt):List Nat:=Z2 s.σ++Z2 s.tm
structure MR(G:Gx)(F:Fx)(ρ:Nat->Addr)(H:Hp)(σv tv:List (Option V))(s:Stt):Prop where
 sl:Sl G ρ H s.σ σv
 tm:Sl G ρ H s.tm tv
 inj: ∀i j,i<s.n->j<s.n->ρ i=ρ j->i=j
 dom: ∀l,l<s.n->∃o,H (ρ l)=some o
 lab: ∀l∈Q7 s,l<s.n
 own: ∀l∈Q7 s,F.A0 (ρ l)\/F.H0 (ρ l)=none
 frm: ∀a o,F.H0 a=some o->(∃o',H a=some o')/\(¬F.A0 a->H a=some o)
 kd:KD G.K H
 frb: ∀l,l<s.n->¬F.Z (ρ l)
 bas:F.n0<=s.n/\∀l,l<F.n0->ρ l=F.ρ0 l
noncomputable def Stt.psh(s:Stt)(t:D):Stt:={s with tm:=some t::s.tm}
noncomputable def Stt.nxt(s:Stt):Stt:={s with n:=s.n+1}
section
variable{G:Gx}{F:Fx}{ρ ρ':Nat->Addr}{H H':Hp}{σv tv:List (Option V)}{s:Stt}{t:D}{v:V}
theorem Sl.stay(ts:J3 H H'): ∀{σ:List (Option D)} {σv:List (Option V)},Sl G ρ H σ σv->(∀l∈Z2 σ,ρ' l=ρ l/\∀o,H (ρ l)=some o->H' (ρ l)=some o)->Sl G ρ' H' σ σv
 |[],_,h,_=>h
 |none::r,_,h,hl=>by
  erw[Sl,Z2] at h hl⊢
  obtain⟨o,q,e,h⟩:=h
  exact⟨o,q,e,Sl.stay ts h hl⟩
 |some d::r,_,h,hl=>by
  erw[Sl,Z2] at h hl⊢
  obtain⟨o,q,e,h1,h⟩:=h
  exact⟨o,q,e,RD.stay ts d o h1 fun l hk=>hl l (b8 _ hk),Sl.stay ts h fun l hk=>hl l (b6 _ hk)⟩
theorem Sl.rp{f:Nat->Option D}(ts:J3 H H'): ∀{σ:List (Option D)} {σv:List (Option V)},Sl G ρ H σ σv->
 (∀l∈Z2 σ,ρ' l=ρ l/\(match f l with|some d=>RD G ρ' H' d (.ref (ρ l))|none=> ∀o,H (ρ l)=some o->H' (ρ l)=some o))->Sl G ρ' H' (rpO f σ) σv
 |[],_,h,_=>h
 |none::r,_,h,hl=>by
  erw[Sl,Z2,rpO] at h hl⊢
  obtain⟨o,q,e,h⟩:=h
  exact⟨o,q,e,Sl.rp ts h hl⟩
 |some d::r,_,h,hl=>by
  erw[Sl,Z2,rpO] at h hl⊢
  obtain⟨o,q,e,h1,h⟩:=h
  exact⟨o,q,e,RD.rp ts d o h1 fun l hk=>hl l (b8 _ hk),Sl.rp ts h fun l hk=>hl l (b6 _ hk)⟩
theorem Sl.get: ∀{σ:List (Option D)} {σv:List (Option V)},Sl G ρ H σ σv->∀(i:Nat) (d:D),σ[i]? =some (some d)->∃v,σv[i]? =some (some v)/\RD G ρ H d v
 |[],_,_,i,d,e=>by simp at e
 |none::r,_,h,i,d,e=>by
  erw[Sl] at h
  obtain⟨o,q,rfl,h⟩:=h
  cases i with
  |zero=>simp at e
  |succ i=>simpa using Sl.get h i d (by simpa using e)
 |some d'::r,_,h,i,d,e=>by
  erw[Sl] at h
  obtain⟨v,q,rfl,h1,h⟩:=h
  cases i with
  |zero=>simp at e;subst e;exact⟨v,rfl,h1⟩
  |succ i=>simpa using Sl.get h i d (by simpa using e)
theorem Sl.length: ∀{σ:List (Option D)} {σv:List (Option V)},Sl G ρ H σ σv->σ.length=σv.length
 |[],_,h=>by erw[Sl] at h;subst h;rfl
 |none::r,_,h=>by
  erw[Sl] at h
  obtain⟨o,q,rfl,h⟩:=h
  simp[Sl.length h]
 |some d'::r,_,h=>by
  erw[Sl] at h
  obtain⟨v,q,rfl,h1,h⟩:=h
  simp[Sl.length h]
theorem Sl.set: ∀{σ:List (Option D)} {σv:List (Option V)} (i:Nat),Sl G ρ H σ σv->RD G ρ H t v->Sl G ρ H (σ.set i (some t)) (σv.set i (some v))
 |[],_,i,h,_=>by erw[Sl] at h;subst h;simp[Sl]
 |none::r,_,i,h,ht=>by
  erw[Sl] at h
  obtain⟨o,q,rfl,h⟩:=h
  cases i with
  |zero=>erw[r6,Sl];exact⟨_,_,rfl,ht,h⟩
  |succ i=>erw[A4,Sl];exact⟨_,_,rfl,Sl.set i h ht⟩
 |some d'::r,_,i,h,ht=>by
  erw[Sl] at h
  obtain⟨v',q,rfl,h1,h⟩:=h
  cases i with
  |zero=>erw[r6,Sl];exact⟨_,_,rfl,ht,h⟩
  |succ i=>erw[A4,Sl];exact⟨_,_,rfl,h1,Sl.set i h ht⟩
theorem Sl.append: ∀{σ σ':List (Option D)} {σv σv':List (Option V)},Sl G ρ H σ σv->Sl G ρ H σ' σv'->Sl G ρ H (σ++σ') (σv++σv')
 |[],_,_,_,h,h'=>by erw[Sl] at h;subst h;exact h'
 |none::r,_,_,_,h,h'=>by
  erw[Sl] at h
  obtain⟨o,q,rfl,h⟩:=h
  erw[l7,Sl];exact⟨_,_,rfl,Sl.append h h'⟩
 |some d'::r,_,_,_,h,h'=>by
  erw[Sl] at h
  obtain⟨v,q,rfl,h1,h⟩:=h
  erw[l7,Sl];exact⟨_,_,rfl,h1,Sl.append h h'⟩
theorem Sl.split: ∀(σv:List (Option V)) {σ:List (Option D)} {tv:List (Option V)},Sl G ρ H σ (σv++tv)->Sl G ρ H (σ.take σv.length) σv/\Sl G ρ H (σ.drop σv.length) tv
 |[],σ,tv,h=>⟨by simp[Sl],by simpa using h⟩
 |o::σv,[],tv,h=>by simp[Sl] at h
 |o::σv,none::r,tv,h=>by
  erw[l7,Sl] at h
  obtain⟨o',q,e,h⟩:=h
  cases e
  obtain⟨h1,h2⟩:=Sl.split σv h
  erw[i5,C5,E6,Sl]
  exact⟨⟨_,_,rfl,h1⟩,h2⟩
 |o::σv,some d::r,tv,h=>by
  erw[l7,Sl] at h
  obtain⟨o',q,e,h0,h⟩:=h
  cases e
  obtain⟨h1,h2⟩:=Sl.split σv h
  erw[i5,C5,E6,Sl]
  exact⟨⟨_,_,rfl,h0,h1⟩,h2⟩
theorem z0K: ∀{σ:List (Option D)} {i:Nat} {d:D},σ[i]? =some (some d)->∀l∈y4 d,l∈Z2 σ
 |[],i,d,e,l,h=>by simp at e
 |none::r,i,d,e,l,h=>by
  erw[Z2]
  cases i with
  |zero=>simp at e
  |succ i=>exact z0K (i:=i) (by simpa using e) l h
 |some d'::r,i,d,e,l,h=>by
  erw[Z2]
  cases i with
  |zero=>simp at e;subst e;exact b8 _ h
  |succ i=>exact b6 _ (z0K (i:=i) (by simpa using e) l h)
theorem z26: ∀{σ:List (Option D)} {i:Nat} {d:D} (l:Nat),l∈Z2 (σ.set i (some d))->l∈Z2 σ\/l∈y4 d
 |[],i,d,l,h=>by simp[Z2] at h
 |none::r,i,d,l,h=>by
  cases i with
  |zero=>
   erw[r6,Z2] at h⊢
   rcases c8.mp h with h|h
   ·exact .inr h
   ·exact .inl h
  |succ i=>
   erw[A4,Z2] at h⊢
   exact z26 l h
 |some d'::r,i,d,l,h=>by
  cases i with
  |zero=>
   erw[r6,Z2] at h⊢
   rcases c8.mp h with h|h
   ·exact .inr h
   ·exact .inl (b6 _ h)
  |succ i=>
   erw[A4,Z2] at h⊢
   rcases c8.mp h with h|h
   ·exact .inl (b8 _ h)
   ·rcases z26 l h with q|q
    ·exact .inl (b6 _ q)
    ·exact .inr q
theorem Z7: ∀(σ σ':List (Option D)),Z2 (σ++σ')=Z2 σ++Z2 σ'
 |[],_=>rfl
 |none::r,σ'=>by erw[l7,Z2,Z7 r σ']
 |some d::r,σ'=>by erw[l7,Z2,Z7 r σ',m9]
theorem Q2: ∀(σ σ':List D),labsL (σ++σ')=labsL σ++labsL σ'
 |[],_=>rfl
 |d::r,σ'=>by erw[l7,labsL,Q2 r σ',m9]
theorem labsL_mem: ∀{ds:List D} {d:D},d∈ds->∀l∈y4 d,l∈labsL ds
 |_::ds,d,h,l,hl=>by
  erw[labsL]
  rcases e7.mp h with rfl|h
  ·exact b8 _ hl
  ·exact b6 _ (labsL_mem h l hl)
theorem j6: ∀{ds:List D} {l:Nat},l∈labsL ds->∃d∈ds,l∈y4 d
 |d::ds,l,h=>by
  erw[labsL] at h
  rcases c8.mp h with h|h
  ·exact⟨d,e9 ..,h⟩
  ·obtain⟨x,h1,h2⟩:=j6 h
   exact⟨x,b7 _ h1,h2⟩
theorem RDs.get: ∀{ds:List D} {xs:List V},RDs G ρ H ds xs->∀(i:Nat) (d:D),ds[i]? =some d->∃x,xs[i]? =some x/\RD G ρ H d x
 |[],_,_,i,d,e=>by simp at e
 |d'::r,_,h,i,d,e=>by
  erw[RDs] at h
  obtain⟨x,q,rfl,h1,h2⟩:=h
  cases i with
  |zero=>simp at e;subst e;exact⟨x,rfl,h1⟩
  |succ i=>simpa using RDs.get h2 i d (by simpa using e)
theorem RDs.length: ∀{ds:List D} {xs:List V},RDs G ρ H ds xs->ds.length=xs.length
 |[],_,h=>by erw[RDs] at h;subst h;rfl
 |d'::r,_,h=>by
  erw[RDs] at h
  obtain⟨x,q,rfl,h1,h2⟩:=h
  simp[RDs.length h2]
theorem RDs.append: ∀{ds es:List D} {xs ys:List V},RDs G ρ H ds xs->RDs G ρ H es ys->RDs G ρ H (ds++es) (xs++ys)
 |[],_,_,_,h,h'=>by erw[RDs] at h;subst h;exact h'
 |d'::r,_,_,_,h,h'=>by
  erw[RDs] at h
  obtain⟨x,q,rfl,h1,h2⟩:=h
  erw[l7,RDs]
  exact⟨_,_,rfl,h1,RDs.append h2 h'⟩
theorem RDs.one{d:D}{x:V}(h:RD G ρ H d x):RDs G ρ H [d] [x]:=by erw[RDs];exact⟨_,_,rfl,h,rfl⟩
theorem RDs.take: ∀{ds:List D} {xs:List V} (k:Nat),RDs G ρ H ds xs->RDs G ρ H (ds.take k) (xs.take k)
 |_,_,0,_=>by simp[RDs]
 |[],_,k+1,h=>by erw[RDs] at h;subst h;simp[RDs]
 |d'::r,_,k+1,h=>by
  erw[RDs] at h
  obtain⟨x,q,rfl,h1,h2⟩:=h
  erw[C5,RDs]
  exact⟨_,_,rfl,h1,RDs.take k h2⟩
theorem RDs.drop: ∀{ds:List D} {xs:List V} (k:Nat),RDs G ρ H ds xs->RDs G ρ H (ds.drop k) (xs.drop k)
 |_,_,0,h=>h
 |[],_,k+1,h=>by erw[RDs] at h;subst h;simp[RDs]
 |d'::r,_,k+1,h=>by
  erw[RDs] at h
  obtain⟨x,q,rfl,h1,h2⟩:=h
  erw[E6]
  exact RDs.drop k h2
theorem RDs.reverse: ∀{ds:List D} {xs:List V},RDs G ρ H ds xs->RDs G ρ H ds.reverse xs.reverse
 |[],_,h=>by erw[RDs] at h;subst h;simp[RDs]
 |d'::r,_,h=>by
  erw[RDs] at h
  obtain⟨x,q,rfl,h1,h2⟩:=h
  rw[l9,l9]
  exact RDs.append (RDs.reverse h2) (RDs.one h1)
theorem RDs.set: ∀{ds:List D} {xs:List V} (k:Nat),RDs G ρ H ds xs->RD G ρ H t v->RDs G ρ H (ds.set k t) (xs.set k v)
 |[],_,k,h,_=>by erw[RDs] at h;subst h;simp[RDs]
 |d'::r,_,0,h,ht=>by
  erw[RDs] at h
  obtain⟨x,q,rfl,h1,h2⟩:=h
  erw[r6,RDs];exact⟨_,_,rfl,ht,h2⟩
 |d'::r,_,k+1,h,ht=>by
  erw[RDs] at h
  obtain⟨x,q,rfl,h1,h2⟩:=h
  erw[A4,RDs];exact⟨_,_,rfl,h1,RDs.set k h2 ht⟩
theorem MR.pop{o:Option V}{r:Option D}(M:MR G F ρ H σv (o::tv) {s with tm:=r::s.tm}):MR G F ρ H σv tv s where
 sl:=M.sl
 tm:=by
  have h:=M.tm
  cases r with
  |none=>erw[Sl] at h;obtain⟨_,_,e,h⟩:=h;cases e;exact h
  |some t=>erw[Sl] at h;obtain⟨_,_,e,_,h⟩:=h;cases e;exact h
 inj:=M.inj
 dom:=M.dom
 lab:=fun l h=>M.lab l (by
  rcases c8.mp h with h|h
  ·exact b8 _ h
  ·refine b6 _ ?_
   cases r with
   |none=>exact h
   |some t=>exact b6 _ h)
 own:=fun l h=>M.own l (by
  rcases c8.mp h with h|h
  ·exact b8 _ h
  ·refine b6 _ ?_
   cases r with
   |none=>exact h
   |some t=>exact b6 _ h)
 frm:=M.frm
 kd:=M.kd
 frb:=M.frb
 bas:=M.bas
theorem MR.top(M:MR G F ρ H σv (some v::tv) (s.psh t)):RD G ρ H t v:=by
 have h:=M.tm
 have h:Sl G ρ H (some t::s.tm) (some v::tv):=h
 erw[Sl] at h
 obtain⟨_,_,e,h,_⟩:=h
 cases e
 exact h
theorem MR.topl(M:MR G F ρ H σv tv (s.psh t)): ∀l∈y4 t,l<s.n/\(F.A0 (ρ l)\/F.H0 (ρ l)=none):=fun l h=>
 have m:l∈Q7 (s.psh t):=b6 _ (b8 _ h)
 ⟨M.lab l m,M.own l m⟩
theorem MR.same(M:MR G F ρ H σv tv s)(h:V2 H H')(k:KD G.K H'):MR G F ρ H' σv tv s where
 sl:=Sl.stay (J3.of h) M.sl fun l _=>⟨rfl,fun o e=>h _ _ e⟩
 tm:=Sl.stay (J3.of h) M.tm fun l _=>⟨rfl,fun o e=>h _ _ e⟩
 inj:=M.inj
 dom:=fun l hl=>let⟨o,e⟩:=M.dom l hl;⟨o,h _ _ e⟩
 lab:=M.lab
 own:=M.own
 frm:=fun a o e=>let⟨⟨o',e1⟩,e2⟩:=M.frm a o e;⟨⟨o',h _ _ e1⟩,fun n=>h _ _ (e2 n)⟩
 kd:=k
 frb:=M.frb
 bas:=M.bas
theorem RDs.same{ts:List D}{vs:List V}(h:V2 H H')(r:RDs G ρ H ts vs):RDs G ρ H' ts vs:=RDs.stay (J3.of h) ts vs r fun l _=>⟨rfl,fun o e=>h _ _ e⟩
noncomputable def ext(ρ:Nat->Addr)(n:Nat)(p:Addr):Nat->Addr:=fun l=>if l=n then p else ρ l
theorem Y9{n l:Nat}{p:Addr}(h:l<n):ext ρ n p l=ρ l:=by unfold ext;rw[if_neg (by lia)]
theorem Q0{n:Nat}{p:Addr}:ext ρ n p n=p:=by unfold ext;rw[if_pos rfl]
theorem MR.new{p:Addr}{o:HO}(M:MR G F ρ H σv tv s)(hp:H p=none)(k:KD G.K (upd H p o)):MR G F (ext ρ s.n p) (upd H p o) σv tv s.nxt where
 sl:=Sl.stay (J3.of (V2.new o hp)) M.sl fun l hl=>⟨Y9 (M.lab l (b8 _ hl)),fun o e=>V2.new _ hp _ _ e⟩
 tm:=Sl.stay (J3.of (V2.new o hp)) M.tm fun l hl=>⟨Y9 (M.lab l (b6 _ hl)),fun o e=>V2.new _ hp _ _ e⟩
 inj:=fun i j hi hj e=>by
  have hi:i<s.n+1:=hi
  have hj:j<s.n+1:=hj
  have nn: ∀i,i<s.n->ρ i≠p:=fun i h e=>by
   obtain⟨o,q⟩:=M.dom i h
   rw[e,hp] at q;cases q
  by_cases h1:i=s.n
  ·by_cases h2:j=s.n
   ·lia
   ·rw[h1,Q0,Y9 (by lia)] at e
    exact absurd e.symm (nn j (by lia))
  ·by_cases h2:j=s.n
   ·rw[h2,Q0,Y9 (by lia)] at e
    exact absurd e (nn i (by lia))
   ·rw[Y9 (by lia),Y9 (by lia)] at e
    exact M.inj i j (by lia) (by lia) e
 dom:=fun l hl=>by
  have hl:l<s.n+1:=hl
  by_cases h1:l=s.n
  ·subst h1;rw[Q0];exact⟨o,y8⟩
  ·rw[Y9 (by lia)]
   obtain⟨o',e⟩:=M.dom l (by lia)
   exact⟨o',V2.new _ hp _ _ e⟩
 lab:=fun l h=>A6 (M.lab l h)
 own:=fun l h=>by rw[Y9 (M.lab l h)];exact M.own l h
 frm:=fun a o e=>let⟨⟨o',e1⟩,e2⟩:=M.frm a o e;⟨⟨o',V2.new _ hp _ _ e1⟩,fun n=>V2.new _ hp _ _ (e2 n)⟩
 kd:=k
 frb:=fun l hl=>by
  have hl:l<s.n+1:=hl
  by_cases h1:l=s.n
  ·subst h1;rw[Q0]
   intro z
   obtain⟨⟨o,e⟩,_⟩:=F.zA p z
   obtain⟨⟨o',e'⟩,_⟩:=M.frm p o e
   rw[hp] at e';cases e'
  ·rw[Y9 (by lia)]
   exact M.frb l (by lia)
 bas:=⟨N4 M.bas.1,fun l hl=>by rw[Y9 (i7 hl M.bas.1)];exact M.bas.2 l hl⟩
theorem MR.fresh0{p:Addr}(M:MR G F ρ H σv tv s)(hp:H p=none):F.H0 p=none:=by
 cases q:F.H0 p with
 |none=>rfl
 |some o=>
  obtain⟨⟨o',e⟩,_⟩:=M.frm p o q
  rw[hp] at e;cases e
theorem MR.newPush{p:Addr}{o:HO}(M:MR G F ρ H σv tv s)(hp:H p=none)(k:KD G.K (upd H p o))(h:RD G (ext ρ s.n p) (upd H p o) t (.ref p))(hl: ∀l∈y4 t,l∈Q7 s\/l=s.n):
 MR G F (ext ρ s.n p) (upd H p o) σv (some (.ref p)::tv) (s.nxt.psh t):=by
 have M2:=M.new hp k
 refine⟨M2.sl, ?_,M2.inj,M2.dom,fun l h=> ?_,fun l h=> ?_,M2.frm,M2.kd,M2.frb,M2.bas⟩
 ·show Sl G _ _ (some t::s.tm) _
  erw[Sl]
  exact⟨_,tv,rfl,h,M2.tm⟩
 ·have h:l∈Z2 s.σ++(y4 t++Z2 s.tm):=h
  show l<s.n+1
  rcases c8.mp h with h|h
  ·exact M2.lab l (b8 _ h)
  ·rcases c8.mp h with h|h
   ·rcases hl l h with q|q
    ·exact M2.lab l q
    ·lia
   ·exact M2.lab l (b6 _ h)
 ·have h:l∈Z2 s.σ++(y4 t++Z2 s.tm):=h
  rcases c8.mp h with h|h
  ·exact M2.own l (b8 _ h)
  ·rcases c8.mp h with h|h
   ·rcases hl l h with q|q
    ·exact M2.own l q
    ·rw[q,Q0];exact .inr (M.fresh0 hp)
   ·exact M2.own l (b6 _ h)
noncomputable def Stt.put(s:Stt)(l:Nat)(d:D):Stt:={s with σ:=rpO (fun k=>if k=l then some d else none) s.σ,tm:=rpO (fun k=>if k=l then some d else none) s.tm}
end
inductive Res(α:Type) where
 |ok (a:α) (s:Stt)|ex (d:D) (s:Stt)|no
noncomputable abbrev M(α:Type):=Stt->Res α
noncomputable def bd{α β:Type}(m:M α)(f:α->M β):M β:=fun s=>match m s with
 | .ok a s'=>f a s'
 | .ex d s'=> .ex d s'
 | .no=> .no
noncomputable def rt{α:Type}(a:α):M α:=fun s=> .ok a s
noncomputable def fl{α:Type}:M α:=fun _=> .no
noncomputable def psh(t:D):M Unit:=fun s=> .ok () (s.psh t)
noncomputable def pop:M D:=fun s=>match s.tm with
 |some t::r=> .ok t {s with tm:=r}
 |_=> .no
structure Fy extends Fx where
 tv0:List (Option V)
 xw:D->Stt->Prop
structure MRL(G:Gx)(F:Fx)(ρ:Nat->Addr)(H:Hp)(σv tv:List (Option V))(s:Stt)(ts:List D)(vs:List V):Prop where
 m:MR G F ρ H σv tv s
 rd:RDs G ρ H ts vs
 lb: ∀l∈labsL ts,l<s.n/\(F.A0 (ρ l)\/F.H0 (ρ l)=none)
section
variable{G:Gx}{F:Fy}{ρ ρ':Nat->Addr}{H H':Hp}{σv tv:List (Option V)}{s:Stt}{t t':D}{v u:V}{ts:List D}{vs:List V}{Q:VK}
theorem MRL.rd1(M:MRL G F.toFx ρ H σv tv s [t] [v]):RD G ρ H t v:=by
 have h:=M.rd
 erw[RDs] at h
 obtain⟨_,_,e,h,_⟩:=h
 cases e;exact h
theorem MRL.rd2(M:MRL G F.toFx ρ H σv tv s [t,t'] [v,u]):RD G ρ H t v/\RD G ρ H t' u:=by
 have h:=M.rd
 erw[RDs] at h
 obtain⟨_,_,e,h,_,_,e',h',_⟩:=h
 cases e;cases e';exact⟨h,h'⟩
theorem MRL.push(M:MRL G F.toFx ρ H σv tv s [t] [v]):MR G F.toFx ρ H σv (some v::tv) (s.psh t):=by
 have hl: ∀l∈y4 t,l<s.n/\(F.A0 (ρ l)\/F.H0 (ρ l)=none):=fun l h=>M.lb l (by erw[labsL,c9];exact h)
 refine⟨M.m.sl, ?_,M.m.inj,M.m.dom,fun l h=> ?_,fun l h=> ?_,M.m.frm,M.m.kd,M.m.frb,M.m.bas⟩
 ·show Sl G ρ H (some t::s.tm) _
  erw[Sl]
  exact⟨v,tv,rfl,M.rd1,M.m.tm⟩
 ·have h:l∈Z2 s.σ++(y4 t++Z2 s.tm):=h
  rcases c8.mp h with h|h
  ·exact M.m.lab l (b8 _ h)
  ·rcases c8.mp h with h|h
   ·exact(hl l h).1
   ·exact M.m.lab l (b6 _ h)
 ·have h:l∈Z2 s.σ++(y4 t++Z2 s.tm):=h
  rcases c8.mp h with h|h
  ·exact M.m.own l (b8 _ h)
  ·rcases c8.mp h with h|h
   ·exact(hl l h).2
   ·exact M.m.own l (b6 _ h)
theorem MRL.down{s':Stt}{r:List (Option D)}(M:MRL G F.toFx ρ H σv (some v::tv) s' ts vs)(e:s'.tm=some t::r):MRL G F.toFx ρ H σv tv {s' with tm:=r} (t::ts) (v::vs):=by
 obtain⟨σ,tm,n⟩:=s'
 have e:tm=some t::r:=e
 subst e
 refine⟨MR.pop (s:=⟨σ,r,n⟩) M.m, ?_,fun l h=> ?_⟩
 ·erw[RDs]
  exact⟨v,vs,rfl,MR.top (s:=⟨σ,r,n⟩) M.m,M.rd⟩
 ·erw[labsL] at h
  rcases c8.mp h with h|h
  ·exact MR.topl (s:=⟨σ,r,n⟩) M.m l h
  ·exact M.lb l h
noncomputable def wM(G:Gx)(F:Fy)(σv tv:List (Option V))(r:Res D)(Q:VK):Prop:=match r with
 | .ok t s'=> ∀ρ' v H',MRL G F.toFx ρ' H' σv tv s' [t] [v]->Q v H'
 | .ex d s'=>F.xw d s'
 | .no=>False
noncomputable def wL(G:Gx)(F:Fy)(σv tv:List (Option V))(r:Res (List D))(Q:List V->Hp->Prop):Prop:=match r with
 | .ok ts s'=> ∀ρ' vs H',MRL G F.toFx ρ' H' σv tv s' ts vs->Q vs H'
 | .ex d s'=>F.xw d s'
 | .no=>False
noncomputable def wB(G:Gx)(F:Fy)(σv tv:List (Option V))(r:Res Bool)(Q:Bool->Hp->Prop):Prop:=match r with
 | .ok b s'=> ∀ρ' H',MR G F.toFx ρ' H' σv tv s'->Q b H'
 | .ex d s'=>F.xw d s'
 | .no=>False
noncomputable def tMv(G:Gx)(F:Fy)(m:M D)(σv tv:List (Option V))(H:Hp)(Q:VK):Prop:=F.tv0<:+tv/\∃ρ s,MR G F.toFx ρ H σv tv s/\wM G F σv tv (m s) Q
noncomputable def tLv(G:Gx)(F:Fy)(m:M (List D))(σv tv:List (Option V))(H:Hp)(Q:List V->Hp->Prop):Prop:=F.tv0<:+tv/\∃ρ s,MR G F.toFx ρ H σv tv s/\wL G F σv tv (m s) Q
noncomputable def tBv(G:Gx)(F:Fy)(m:M Bool)(σv tv:List (Option V))(H:Hp)(Q:Bool->Hp->Prop):Prop:=F.tv0<:+tv/\∃ρ s,MR G F.toFx ρ H σv tv s/\wB G F σv tv (m s) Q
noncomputable def tM(G:Gx)(F:Fy)(m:M D):TE:=fun σv H Q=> ∃tv,tMv G F m σv tv H Q
noncomputable def tML(G:Gx)(F:Fy)(m:M (List D)):TA:=fun σv H Q=> ∃tv,tLv G F m σv tv H Q
noncomputable def tMB(G:Gx)(F:Fy)(m:M Bool):TT:=fun σv H Q=> ∃tv,tBv G F m σv tv H Q
noncomputable def SE(X:Cx)(G:Gx)(F:Fy)(e:Expr)(m:M D):Prop:=PE X e (tM G F m)
noncomputable def SA(X:Cx)(G:Gx)(F:Fy)(es:List Expr)(m:M (List D)):Prop:=PA X es (tML G F m)
noncomputable def SB(X:Cx)(G:Gx)(F:Fy)(e:Expr)(m:M Bool):Prop:=PT X e (tMB G F m)
theorem z4H{o:Option V}(h:F.tv0<:+tv):F.tv0<:+o::tv:=h.trans (List.suffix_cons _ _)
theorem z27{m:M D}{f:D->M D}(h:tMv G F (bd m f) σv tv H Q):tMv G F m σv tv H (fun v H1=> ∃ρ1 s1 t,MRL G F.toFx ρ1 H1 σv tv s1 [t] [v]/\wM G F σv tv (f t s1) Q):=by
 obtain⟨hs,ρ,s,M,W⟩:=h
 refine⟨hs,ρ,s,M, ?_⟩
 unfold bd at W
 cases e:m s with
 |ok t s1=>rw[e] at W;exact fun ρ1 v H1 M1=>⟨ρ1,s1,t,M1,W⟩
 |ex d s1=>rw[e] at W;exact W
 |no=>rw[e] at W;exact W
noncomputable def Z0(ma mb:M D)(g:D->D->M D):M D:=bd ma fun x=>bd (psh x) fun _=>bd mb fun y=>bd pop fun x'=>g x' y
theorem z5t{ma mb:M D}{g:D->D->M D}(h:tMv G F (Z0 ma mb g) σv tv H Q):
 tMv G F ma σv tv H (fun v H1=>tMv G F mb σv (some v::tv) H1 (fun u H2=> ∃ρ2 s2 t t',MRL G F.toFx ρ2 H2 σv tv s2 [t,t'] [v,u]/\wM G F σv tv (g t t' s2) Q)):=by
 have h':=z27 h
 obtain⟨hs,ρ,s,M,W⟩:=h'
 refine⟨hs,ρ,s,M, ?_⟩
 cases e:ma s with
 |ok t s1=>
  rw[e] at W
  intro ρ1 v H1 M1
  obtain⟨ρ1,s1,t,M1,W⟩:=W ρ1 v H1 M1
  refine⟨z4H hs,ρ1,s1.psh t,M1.push, ?_⟩
  erw[bd,psh] at W
  cases e2:mb (s1.psh t) with
  |ok y s2=>
   rw[e2] at W
   intro ρ2 u H2 M2
   erw[pop] at W
   cases e3:s2.tm with
   |nil=>rw[e3] at W;exact W.elim
   |cons o r=>
    cases o with
    |none=>rw[e3] at W;exact W.elim
    |some t'=>
     rw[e3] at W
     exact⟨ρ2,{s2 with tm:=r},t',y,M2.down e3,W⟩
  |ex d s2=>rw[e2] at W;exact W
  |no=>rw[e2] at W;exact W
 |ex d s1=>rw[e] at W;exact W
 |no=>rw[e] at W;exact W
noncomputable def Z3:List (M D)->M (List D)
 |[]=>rt []
 |m::ms=>bd m fun x=>bd (psh x) fun _=>bd (Z3 ms) fun ys=>bd pop fun x'=>rt (x'::ys)
end
section
variable{X:Cx}{G:Gx}{F:Fy}{e a b c:Expr}{pos:Pos}
theorem Inv.kd{pins:List (Addr×Obj)}{σ:St}{H:Hp}{s:Shared}(I:Inv X pins σ H s):KD X.K H:=fun a o e=>(I.bs a o (I.ok.mod.kin a o e)).2
theorem PE.imp{t t':TE}(hk:X.K=G.K)(h:PE X e t)(hi: ∀σ H Q,t' σ H Q->t σ H (fun v H'=>KD G.K H'->Q v H')):PE X e t':=fun pins s σ H Q I q=>
 thn (h pins s σ H _ I (hi σ H Q q)) fun u s' ⟨v,H',I',r,k⟩=>⟨v,H',I',r,k (hk▸Inv.kd I')⟩
theorem PT.imp{t t':TT}(hk:X.K=G.K)(h:PT X e t)(hi: ∀σ H Q,t' σ H Q->t σ H (fun v H'=>KD G.K H'->Q v H')):PT X e t':=fun pins s σ H Q I q=>
 thn (h pins s σ H _ I (hi σ H Q q)) fun u s' ⟨H',I',k⟩=>⟨H',I',k (hk▸Inv.kd I')⟩
theorem PA.imp{es:List Expr}{t t':TA}(hk:X.K=G.K)(h:PA X es t)(hi: ∀σ H Q,t' σ H Q->t σ H (fun v H'=>KD G.K H'->Q v H')):PA X es t':=fun pos pins s σ H Q I q=>
 thn (h pos pins s σ H _ I (hi σ H Q q)) fun u s' ⟨v,H',I',r,k⟩=>⟨v,H',I',r,k (hk▸Inv.kd I')⟩
noncomputable def z8F(G:Gx)(F:Fy)(r:R2)(g:D->D->M D):Prop:= ∀ρ s t t' v u H σv tv Q,MRL G F.toFx ρ H σv tv s [t,t'] [v,u]->wM G F σv tv (g t t' s) Q->r v u H (fun w H'=>KD G.K H'->Q w H')
noncomputable def V5(G:Gx)(F:Fy)(r:R2)(g:D->D->M D):Prop:= ∀ρ s t t' v u H σv tv Q,MRL G F.toFx ρ H σv tv s [t,t'] [v,u]->wM G F σv tv (g t t' s) Q->r v u H Q
noncomputable def zgY(G:Gx)(F:Fy)(r:V->Hp->VK->Prop)(g:D->M D):Prop:= ∀ρ s t v H σv tv Q,MRL G F.toFx ρ H σv tv s [t] [v]->wM G F σv tv (g t s) Q->r v H (fun w H'=>KD G.K H'->Q w H')
noncomputable def G4(G:Gx)(F:Fy)(r:List V->Hp->VK->Prop)(g:List D->M D):Prop:= ∀ρ s ts vs H σv tv Q,MRL G F.toFx ρ H σv tv s ts vs->wM G F σv tv (g ts s) Q->r vs H (fun w H'=>KD G.K H'->Q w H')
theorem z6h{op:Operator}{r:R2}{ma mb:M D}{g:D->D->M D}(hk:X.K=G.K)(ho:OpR X (binaryOp op) r)(hg:z8F G F r g)(ha:SE X G F a ma)(hb:SE X G F b mb):SE X G F (.BinOp a op b pos) (Z0 ma mb g):=by
 refine PE.imp hk (zbd ho ha hb) fun σ H Q ⟨tv,h⟩=>⟨tv, ?_⟩
 obtain⟨hs,ρ,s,M,W⟩:=z5t h
 refine⟨hs,ρ,s,M, ?_⟩
 cases e:ma s with
 |ok t s1=>
  rw[e] at W
  intro ρ1 v H1 M1
  refine⟨some v::tv, ?_⟩
  obtain⟨hs2,ρ2,s2,M2,W2⟩:=W ρ1 v H1 M1
  refine⟨hs2,ρ2,s2,M2, ?_⟩
  cases e2:mb s2 with
  |ok t2 s3=>
   rw[e2] at W2
   intro ρ3 u H3 M3
   obtain⟨ρ4,s4,x,y,M4,W4⟩:=W2 ρ3 u H3 M3
   exact hg _ _ _ _ _ _ _ _ _ _ M4 W4
  |ex d s3=>rw[e2] at W2;exact W2
  |no=>rw[e2] at W2;exact W2
 |ex d s1=>rw[e] at W;exact W
 |no=>rw[e] at W;exact W
theorem wM.mono{σv tv:List (Option V)}{r:Res D}{Q Q':VK}(h:wM G F σv tv r Q)(k: ∀v H,Q v H->Q' v H):wM G F σv tv r Q':=by
 cases r with
 |ok t s=>exact fun ρ v H M=>k _ _ (h ρ v H M)
 |ex d s=>exact h
 |no=>exact h
theorem tMv.mono{m:M D}{σv tv:List (Option V)}{H:Hp}{Q Q':VK}(h:tMv G F m σv tv H Q)(k: ∀v H,Q v H->Q' v H):tMv G F m σv tv H Q':=by
 obtain⟨hs,ρ,s,M,W⟩:=h
 exact⟨hs,ρ,s,M,W.mono k⟩
theorem zbL{ma mb:M D}{g:D->D->M D}{R:V->V->Hp->VK->Prop}{σv:St}{H:Hp}{Q:VK}(hg:z8F G F R g)(h:tM G F (Z0 ma mb g) σv H Q):
 tM G F ma σv H fun x H1=>tM G F mb σv H1 fun y H2=>R x y H2 fun w H'=>KD G.K H'->Q w H':=by
 obtain⟨tv,h⟩:=h
 exact⟨tv,(z5t h).mono fun v H1 h1=>⟨_,h1.mono fun u H2 ⟨ρ,s,t,t',M,W⟩=>hg _ _ _ _ _ _ _ _ _ _ M W⟩⟩
theorem zed{ma:M D}{g:D->M D}{R:V->Hp->VK->Prop}{σv:St}{H:Hp}{Q:VK}(hg:zgY G F R g)(h:tM G F (bd ma g) σv H Q):
 tM G F ma σv H fun x H1=>R x H1 fun w H'=>KD G.K H'->Q w H':=by
 obtain⟨tv,h⟩:=h
 exact⟨tv,(z27 h).mono fun v H1 ⟨ρ,s,t,M,W⟩=>hg _ _ _ _ _ _ _ _ M W⟩
theorem zgZ{op:UnaryOp}{r:V->Hp->VK->Prop}{ma:M D}{g:D->M D}(hk:X.K=G.K)(ho:UnR X (unaryOp op) r)(hg:zgY G F r g)(ha:SE X G F a ma):SE X G F (.UnaryOp op a pos) (bd ma g):=
 PE.imp hk (zgA ho ha) fun _ _ _ h=>zed hg h
theorem z9c{ma mb:M D}{g:D->D->M D}{R:V->V->Hp->VK->Prop}{σv:St}{H:Hp}{Q:VK}(hg:V5 G F R g)(h:tM G F (Z0 ma mb g) σv H Q):
 tM G F ma σv H fun x H1=>tM G F mb σv H1 fun y H2=>R x y H2 Q:=by
 obtain⟨tv,h⟩:=h
 exact⟨tv,(z5t h).mono fun v H1 h1=>⟨_,h1.mono fun u H2 ⟨ρ,s,t,t',M,W⟩=>hg _ _ _ _ _ _ _ _ _ _ M W⟩⟩
theorem PE.imp0{t t':TE}(h:PE X e t)(hi: ∀σ H Q,t' σ H Q->t σ H Q):PE X e t':=fun pins s σ H Q I q=>h pins s σ H _ I (hi σ H Q q)
theorem PT.imp0{t t':TT}(h:PT X e t)(hi: ∀σ H Q,t' σ H Q->t σ H Q):PT X e t':=fun pins s σ H Q I q=>h pins s σ H _ I (hi σ H Q q)
theorem zh0{r:R2}{ma mb:M D}{g:D->D->M D}(hk:X.K=G.K)(ho:IxR X r)(hg:z8F G F r g)(ha:SE X G F a ma)(hb:SE X G F b mb)(hs:z1i b):SE X G F (.Subscript a b pos) (Z0 ma mb g):=
 PE.imp hk (zgK ho ha hb hs) fun _ _ _ h=>zbL hg h
theorem zee(hk:X.K=G.K):SA X G F [] (Z3 []):=by
 refine PA.imp hk z0E fun σ H Q ⟨tv,hs,ρ,s,M,W⟩ _=>W ρ [] H ⟨M,rfl,fun l h=>by simp[labsL] at h⟩
noncomputable def nst:Expr->Bool
 | .Starred _ _=>false
 |_=>true
theorem z7t{es:List Expr}{env:Env}(h:nst e=true):starEach (e::es) env=(false,eval e env)::starEach es env:=by
 cases e<;>first|rfl|exact D4 h
theorem zbM{es:List Expr}{m:M D}{ms:List (M D)}(hk:X.K=G.K)(ha:SE X G F e m)(hr:SA X G F es (Z3 ms))(hs:nst e=true:=by rfl):SA X G F (e::es) (Z3 (m::ms)):=by
 refine PA.imp hk (Y2 ha hr (z7t hs)) fun σ H Q ⟨tv,hs,ρ,s,M,W⟩=>⟨tv,hs,ρ,s,M, ?_⟩
 unfold Z3 at W
 erw[bd,psh] at W
 cases e:m s with
 |ok t s1=>
  rw[e] at W
  intro ρ1 v H1 M1
  refine⟨some v::tv,z4H hs,ρ1,s1.psh t,M1.push, ?_⟩
  dsimp only at W
  cases e2:Z3 ms (s1.psh t) with
  |ok ys s2=>
   rw[e2] at W
   intro ρ2 us H2 M2 _
   erw[pop,rt] at W
   cases e3:s2.tm with
   |nil=>rw[e3] at W;exact W.elim
   |cons o r=>
    cases o with
    |none=>rw[e3] at W;exact W.elim
    |some t'=>
     rw[e3] at W
     exact W ρ2 (v::us) H2 (M2.down e3)
  |ex d s2=>rw[e2] at W;exact W
  |no=>rw[e2] at W;exact W
 |ex d s1=>rw[e] at W;exact W
 |no=>rw[e] at W;exact W
noncomputable def mCB(ms:List (M D))(g:List D->M D):M D:=bd (Z3 ms) g
theorem z1M{ma:M (List D)}{g:List D->M D}{R:List V->Hp->VK->Prop}{σv:St}{H:Hp}{Q:VK}(hg:G4 G F R g)(h:tM G F (bd ma g) σv H Q):
 tML G F ma σv H fun xs H1=>R xs H1 fun w H'=>KD G.K H'->Q w H':=by
 obtain⟨tv,hs,ρ,s,M,W⟩:=h
 refine⟨tv,hs,ρ,s,M, ?_⟩
 unfold bd at W
 cases e:ma s with
 |ok ts s1=>rw[e] at W;exact fun ρ1 vs H1 M1=>hg _ _ _ _ _ _ _ _ M1 W
 |ex d s1=>rw[e] at W;exact W
 |no=>rw[e] at W;exact W
theorem z9d{x:Str}{p:Pos}{es:List Expr}{ms:List (M D)}{g:List D->M D}{id:String}{r:List V->Hp->VK->Prop}(hk:X.K=G.K)(hc:CallR X (.builtin id) r)(hg:G4 G F r g)(hgl:Gl X x)(hm:X.mg x=none)(hv:bootBuiltins x=some (.builtin id))(ha:SA X G F (e::es) (Z3 ms))(hn:x≠ "__name__" :=by decide)(hdb:(x==("__debug__" :Str))=false:=by decide)
 (he:starEach (e::es) X.env=(false,eval e X.env)::starEach es X.env:=by rfl) (hpl:(backTo pos (starEach es X.env)).any (·.1)=false:=by rfl):SE X G F (.Call (.Name x p) (e::es) [] pos) (mCB ms g):=
 PE.imp hk (z1K hc hgl hm hv ha hn hdb he hpl) fun _ _ _ h=>z1M hg h
theorem z7u{x:Str}{p:Pos}{es:List Expr}{ms:List (M D)}{g:List D->M D}{T:String}{r:List V->Hp->VK->Prop}(hk:X.K=G.K)(hc:CallR X (.type T) r)(hg:G4 G F r g)(hgl:Gl X x)(hm:X.mg x=none)(hv:bootBuiltins x=some (.type T))(ha:SA X G F (e::es) (Z3 ms))(hn:x≠ "__name__" :=by decide)(hdb:(x==("__debug__" :Str))=false:=by decide)
 (he:starEach (e::es) X.env=(false,eval e X.env)::starEach es X.env:=by rfl) (hpl:(backTo pos (starEach es X.env)).any (·.1)=false:=by rfl):SE X G F (.Call (.Name x p) (e::es) [] pos) (mCB ms g):=
 PE.imp hk (z75 hc hgl hm hv ha hn hdb he hpl) fun _ _ _ h=>z1M hg h
noncomputable def y3(i:Nat):M D:=fun s=>match s.σ[i]? with
 |some (some t)=> .ok t s
 |_=> .no
theorem se_var(i:Nat){x:Str}(hk:X.K=G.K)(h:PE X (.Name x pos) (z6R i)):SE X G F (.Name x pos) (y3 i):=by
 refine PE.imp hk h fun σ H Q ⟨tv,hs,ρ,s,M,W⟩=> ?_
 unfold y3 at W
 cases e:s.σ[i]? with
 |none=>rw[e] at W;exact W.elim
 |some o=>
  cases o with
  |none=>rw[e] at W;exact W.elim
  |some t=>
   rw[e] at W
   obtain⟨v,h1,h2⟩:=M.sl.get i t e
   refine⟨v,h1,fun _=>W ρ v H ⟨M,RDs.one h2,fun l hl=> ?_⟩⟩
   erw[labsL,c9] at hl
   have:=z0K e l hl
   exact⟨M.lab l (b8 _ this),M.own l (b8 _ this)⟩
noncomputable def cV:D->Option V
 | .non=>some .non| .bool b=>some (.bl b)| .int i=>some (.int i)| .str x=>some (.str x)|_=>none
theorem z6i{d:D}{v:V}{ρ:Nat->Addr}{H:Hp}(h:cV d=some v):RD G ρ H d v/\y4 d=[]:=by
 cases d<;>erw[cV,Option.some.injEq] at h<;>first|(subst h;exact⟨by erw[RD],by erw[y4]⟩)|cases h
noncomputable def mC(d:D):M D:=rt d
theorem se_c{d:D}{v:V}(hk:X.K=G.K)(h:PE X e (tC v))(hd:cV d=some v:=by rfl):SE X G F e (mC d):=by
 refine PE.imp hk h fun σ H Q ⟨tv,hs,ρ,s,M,W⟩ _=>W ρ v H ⟨M,RDs.one (z6i hd).1,fun l hl=> ?_⟩
 erw[labsL,(z6i (G:=G) (ρ:=ρ) (H:=H) hd).2] at hl
 cases hl
theorem wM.out{σv tv:List (Option V)}{s:Stt}{t:D}{v:V}{ρ:Nat->Addr}{H:Hp}{Q:VK}(W:wM G F σv tv (.ok t s) Q)(M:MR G F.toFx ρ H σv tv s)(h:RD G ρ H t v)(hl: ∀l∈y4 t,l<s.n/\(F.A0 (ρ l)\/F.H0 (ρ l)=none)):Q v H:=
 W ρ v H ⟨M,RDs.one h,fun l q=>hl l (by simpa only[labsL,c9] using q)⟩
theorem wM.flat{σv tv:List (Option V)}{s:Stt}{t:D}{v:V}{ρ:Nat->Addr}{H:Hp}{Q:VK}(W:wM G F σv tv (.ok t s) Q)(M:MR G F.toFx ρ H σv tv s)(h:cV t=some v):Q v H:=
 W.out M (z6i h).1 fun l q=>by rw[(z6i (G:=G) (ρ:=ρ) (H:=H) h).2] at q;cases q
end
mutual
noncomputable def er:D->PyData
 | .non=> .none| .bool b=> .bool b| .int i=> .int i| .str x=> .str x
 | .tup ds=> .tuple (erL ds)
 | .ro ds=> .list (erL ds)
 | .lst _ ds=> .list (erL ds)
 | .dct _ _ _=> .none
 | .obj _ _ _ _=> .none
 | .exc _=> .none| .fn _=> .none| .fdc _ _=> .none
noncomputable def erL:List D->List PyData
 |[]=>[]
 |d::ds=>er d::erL ds
end
mutual
noncomputable def plain:D->Bool
 | .non=>true| .bool _=>true| .int _=>true| .str _=>true
 | .tup ds=>plainL ds
 | .ro ds=>plainL ds
 | .lst _ ds=>plainL ds
 | .dct _ _ _=>false
 | .obj _ _ _ _=>false
 | .exc _=>false| .fn _=>false| .fdc _ _=>false
noncomputable def plainL:List D->Bool
 |[]=>true
 |d::ds=>plain d&&plainL ds
end
noncomputable def zbN:D->Option (List D)
 | .tup ds=>some ds| .ro ds=>some ds| .lst _ ds=>some ds|_=>none
noncomputable def zcZ:D->Option (List D)
 | .ro ds=>some ds| .lst _ ds=>some ds|_=>none
section
variable{G:Gx}{F:Fy}{ρ:Nat->Addr}{H H':Hp}{σv tv:List (Option V)}{s:Stt}{t t':D}{v u:V}{ts ds:List D}{vs xs:List V}{Q:VK}
mutual
theorem RD.dp: ∀(t:D) (v:V),RD G ρ H t v->plain t=true->Dp G.K H (er t) v
 | .non,v,h,_=>by erw[RD,er,Dp] at h⊢;exact h
 | .bool b,v,h,_=>by erw[RD,er,Dp] at h⊢;exact h
 | .int b,v,h,_=>by erw[RD,er,Dp] at h⊢;exact h
 | .str b,v,h,_=>by erw[RD,er,Dp] at h⊢;exact h
 | .tup ds,v,h,p=>by
  erw[RD,er,Dp,plain] at h p⊢
  obtain⟨a,xs,e,s,r⟩:=h
  exact⟨a,xs,e,SqT.of s,RDs.dp ds xs r p⟩
 | .ro ds,v,h,p=>by
  erw[RD,er,Dp,plain] at h p⊢
  obtain⟨a,xs,e,s,r⟩:=h
  exact⟨a,xs,e,s.sq,RDs.dp ds xs r p⟩
 | .lst l ds,v,h,p=>by
  erw[RD,er,Dp,plain] at h p⊢
  obtain⟨e,xs,s,r⟩:=h
  exact⟨_,xs,e,SqL.of s,RDs.dp ds xs r p⟩
 | .dct l ks vs,v,h,p=>by erw[plain] at p;cases p
 | .fdc ks vs,v,h,p=>by erw[plain] at p;cases p
 | .obj l c ns vs,v,h,p=>by erw[plain] at p;cases p
 | .exc c,v,h,p=>by erw[plain] at p;cases p
 | .fn c,v,h,p=>by erw[plain] at p;cases p
theorem RDs.dp: ∀(t:List D) (v:List V),RDs G ρ H t v->plainL t=true->DpAll G.K H (erL t) v
 |[],v,h,_=>by erw[RDs,erL,DpAll] at h⊢;exact h
 |d::ds,v,h,p=>by
  erw[RDs,erL,DpAll,plainL,i3] at h p⊢
  obtain⟨x,r,e,h1,h2⟩:=h
  exact⟨x,r,e,RD.dp d x h1 p.1,RDs.dp ds r h2 p.2⟩
end
theorem RD.seq(h:RD G ρ H t v)(e:zbN t=some ds): ∃a xs,v= .ref a/\(SqL G.K H a xs\/SqT G.K H a xs)/\RDs G ρ H ds xs/\∀l∈labsL ds,l∈y4 t:=by
 cases t<;>erw[zbN,Option.some.injEq] at e<;>try cases e
 ·erw[RD] at h
  obtain⟨a,xs,e,s,r⟩:=h
  exact⟨a,xs,e, .inr (SqT.of s),r,fun l hl=>by erw[y4];exact hl⟩
 ·erw[RD] at h
  obtain⟨a,xs,e,s,r⟩:=h
  exact⟨a,xs,e, .inl s.sq,r,fun l hl=>by erw[y4];exact hl⟩
 ·erw[RD] at h
  obtain⟨e,xs,s,r⟩:=h
  exact⟨_,xs,e, .inl (SqL.of s),r,fun l hl=>by erw[y4];exact b7 _ hl⟩
theorem RD.lstq(h:RD G ρ H t v)(e:zcZ t=some ds): ∃a xs,v= .ref a/\SqL G.K H a xs/\RDs G ρ H ds xs/\∀l∈labsL ds,l∈y4 t:=by
 cases t<;>erw[zcZ,Option.some.injEq] at e<;>try cases e
 ·erw[RD] at h
  obtain⟨a,xs,e,s,r⟩:=h
  exact⟨a,xs,e,s.sq,r,fun l hl=>by erw[y4];exact hl⟩
 ·erw[RD] at h
  obtain⟨e,xs,s,r⟩:=h
  exact⟨_,xs,e,SqL.of s,r,fun l hl=>by erw[y4];exact b7 _ hl⟩
theorem RD.tupx(h:RD G ρ H (.tup ds) v): ∃a xs,v= .ref a/\H a=some (.tup xs)/\RDs G ρ H ds xs:=by
 erw[RD] at h;exact h
theorem RD.tupq(h:RD G ρ H (.tup ds) v): ∃a xs,v= .ref a/\SqT G.K H a xs/\RDs G ρ H ds xs:=by
 obtain⟨a,xs,e,s,r⟩:=h.tupx
 exact⟨a,xs,e,SqT.of s,r⟩
theorem RD.seqx(h:RD G ρ H t v)(e:zbN t=some ds): ∃a xs,v= .ref a/\(SqL G.K H a xs\/H a=some (.tup xs))/\RDs G ρ H ds xs/\∀l∈labsL ds,l∈y4 t:=by
 cases t<;>erw[zbN,Option.some.injEq] at e<;>try cases e
 ·erw[RD] at h
  obtain⟨a,xs,e,s,r⟩:=h
  exact⟨a,xs,e, .inr s,r,fun l hl=>by erw[y4];exact hl⟩
 ·erw[RD] at h
  obtain⟨a,xs,e,s,r⟩:=h
  exact⟨a,xs,e, .inl s.sq,r,fun l hl=>by erw[y4];exact hl⟩
 ·erw[RD] at h
  obtain⟨e,xs,s,r⟩:=h
  exact⟨_,xs,e, .inl (SqL.of s),r,fun l hl=>by erw[y4];exact b7 _ hl⟩
theorem MRL.lb1(M:MRL G F.toFx ρ H σv tv s [t] [v]): ∀l∈y4 t,l<s.n/\(F.A0 (ρ l)\/F.H0 (ρ l)=none):=fun l h=>M.lb l (by erw[labsL,c9];exact h)
theorem MRL.lb2(M:MRL G F.toFx ρ H σv tv s [t,t'] [v,u]):(∀l∈y4 t,l<s.n/\(F.A0 (ρ l)\/F.H0 (ρ l)=none))/\(∀l∈y4 t',l<s.n/\(F.A0 (ρ l)\/F.H0 (ρ l)=none)):=
 ⟨fun l h=>M.lb l (by erw[labsL,c9];exact b8 _ h),fun l h=>M.lb l (by erw[labsL,c9];exact b6 _ h)⟩
noncomputable abbrev LB(F:Fx)(ρ:Nat->Addr)(n:Nat)(ls:List Nat):Prop:= ∀l∈ls,l<n/\(F.A0 (ρ l)\/F.H0 (ρ l)=none)
theorem z3f(W:wM G F σv tv (.ok (.tup ds) s) Q)(M:MR G F.toFx ρ H σv tv s)(r:RDs G ρ H ds xs)(lb:LB F.toFx ρ s.n (labsL ds)):z7n G.K H xs (fun w H'=>KD G.K H'->Q w H'):=by
 refine z7n.intro fun p H' sq sm k=> ?_
 exact W.out (M.same sm k) (by erw[RD];exact⟨p,xs,rfl,sq,r.same sm⟩) (by erw[y4];exact lb)
theorem z7v{p:Addr}(W:wM G F σv tv (.ok (.tup ds) s) Q)(M:MR G F.toFx ρ H σv tv s)(r:RDs G ρ H ds xs)(lb:LB F.toFx ρ s.n (labsL ds))(hp:H p=none)(k:KD G.K (upd H p (.tup xs))):Q (.ref p) (upd H p (.tup xs)):=by
 have sm:=V2.new (.tup xs) hp
 exact W.out (M.same sm k) (by erw[RD];exact⟨p,xs,rfl,y8,r.same sm⟩) (by erw[y4];exact lb)
theorem RDs.ext{p:Addr}{o:HO}(M:MR G F.toFx ρ H σv tv s)(r:RDs G ρ H ds xs)(lb:LB F.toFx ρ s.n (labsL ds))(hp:H p=none):RDs G (ext ρ s.n p) (upd H p o) ds xs:=
 RDs.stay (J3.of (V2.new o hp)) ds xs r fun l hl=>⟨Y9 (lb l hl).1,fun o e=>V2.new _ hp _ _ e⟩
theorem z0x{p:Addr}(W:wM G F σv tv (.ok (.lst s.n ds) s.nxt) Q)(M:MR G F.toFx ρ H σv tv s)(r:RDs G ρ H ds xs)(lb:LB F.toFx ρ s.n (labsL ds))(hp:H p=none)(k:KD G.K (upd H p (.lst xs))):Q (.ref p) (upd H p (.lst xs)):=by
 refine W.out (M.new hp k) ?_ fun l hl=> ?_
 ·erw[RD]
  rw[Q0]
  exact⟨rfl,xs,y8,RDs.ext M r lb hp⟩
 ·erw[y4] at hl
  rcases e7.mp hl with q|q
  ·rw[q]
   exact⟨t7 _,by rw[Q0];exact .inr (M.fresh0 hp)⟩
  ·obtain⟨h1,h2⟩:=lb l q
   exact⟨A6 h1,by rw[Y9 h1];exact h2⟩
end
noncomputable def zef(ds:List D):M D:=fun s=> .ok (.lst s.n ds) s.nxt
noncomputable def z02:D->D->M D
 | .int i, .int j=>rt (.int (i+j))
 | .tup a, .tup b=>if a.length+b.length<=sizeLine then rt (.tup (a++b)) else fl
 | .lst _ a, .lst _ b=>if a.length+b.length<=sizeLine then zef (a++b) else fl
 | .str a, .str b=>if a.length+b.length<=sizeLine then rt (.str (a++b)) else fl
 |_,_=>fl
noncomputable def z9e:D->D->M D
 | .int i, .int j=>rt (.int (i -j))
 |_,_=>fl
instance(i j:Int):Decidable (z8P i j):=by unfold z8P;infer_instance
instance(i j:Int):Decidable (z8O i j):=by unfold z8O;infer_instance
instance(i j:Int):Decidable (zcX i j):=by unfold zcX;infer_instance
noncomputable def z6j:D->D->M D
 | .int i, .int j=>if z8P i j then rt (.int (i*j)) else fl
 | .lst _ a, .int k=>if -(2^63)<=k/\k<2^63/\a.length*k.toNat<=sizeLine then zef (P4 (e6 k.toNat a)) else fl
 | .tup a, .int k=>if 0<a.length/\2<=k/\k<2^63/\a.length*k.toNat<=sizeLine then rt (.tup (P4 (e6 k.toNat a))) else fl
 |_,_=>fl
noncomputable def z2D:D->D->M D
 | .int i, .int j=>if z8O i j then rt (.int (i/j)) else fl
 |_,_=>fl
noncomputable def z2E:D->D->M D
 | .int i, .int j=>if 0<j then rt (.int (i %j)) else fl
 |_,_=>fl
noncomputable def z9f:D->D->M D
 | .int i, .int j=>if zcX i j then rt (.int (i^j.toNat)) else fl
 |_,_=>fl
noncomputable def ltD:D->D->M D
 | .int i, .int j=>rt (.bool (decide (i<j)))
 |_,_=>fl
noncomputable def leD:D->D->M D
 | .int i, .int j=>rt (.bool (decide (i<=j)))
 |_,_=>fl
noncomputable def gtD:D->D->M D
 | .int i, .int j=>rt (.bool (decide (j<i)))
 |_,_=>fl
noncomputable def geD:D->D->M D
 | .int i, .int j=>rt (.bool (decide (j<=i)))
 |_,_=>fl
noncomputable def eqC(t t':D):Bool:=plain t&&plain t'&&(er t).canLay0&&(er t').canLay0&&decide (min (er t).depth (er t').depth<=60)
noncomputable def eqD(t t':D):M D:=if eqC t t'=true then rt (.bool (PyData.eqv (er t) (er t'))) else fl
noncomputable def neD(t t':D):M D:=if eqC t t'=true then rt (.bool (!PyData.eqv (er t) (er t'))) else fl
noncomputable def isN:D->D->M D
 | .non, .non=>rt (.bool true)
 |_, .non=>rt (.bool false)
 |_,_=>fl
noncomputable def zau:D->D->M D
 | .non, .non=>rt (.bool false)
 |_, .non=>rt (.bool true)
 |_,_=>fl
noncomputable def zd0:Option D->M D
 |some d=>rt d
 |none=>fl
noncomputable def ixG:Option (List D)->D->M D
 |some ds, .int i=>zd0 (atI ds i)
 |_,_=>fl
noncomputable def ixD(t t':D):M D:=ixG (zbN t) t'
noncomputable def zeg:D->M D
 | .int i=>rt (.int (-i))
 |_=>fl
section
variable{G:Gx}{F:Fy}
theorem wfl{σv tv:List (Option V)}{s:Stt}{Q:VK}{A:Prop}(h:wM G F σv tv ((fl:M D) s) Q):A:=False.elim h
theorem z2F{ρ:Nat->Addr}{H:Hp}{σv tv:List (Option V)}{s:Stt}{i j:Int}{v u:V}(M:MRL G F.toFx ρ H σv tv s [.int i, .int j] [v,u]):v= .int i/\u= .int j:=by
 obtain⟨h1,h2⟩:=M.rd2
 erw[RD] at h1 h2
 exact⟨h1,h2⟩
theorem zeh:z8F G F (fun x y H Q=>rI0 (fun i j=> .int (i+j)) x y H Q\/z7o G.K x y H Q\/zgN x y H Q\/∃i j,x= .str i/\y= .str j/\i.length+j.length<=sizeLine/\Q (.str (i++j)) H) z02:=by
 intro ρ s t t' v u H σv tv Q M W
 unfold z02 at W
 split at W
 ·obtain⟨rfl,rfl⟩:=z2F M
  exact .inl ⟨_,_,rfl,rfl,fun _=>W.flat M.m rfl⟩
 ·split at W
  ·rename_i a b hz
   obtain⟨h1,h2⟩:=M.rd2
   obtain⟨l1,l2⟩:=M.lb2
   obtain⟨p,xs,rfl,s1,r1⟩:=h1.tupx
   obtain⟨q,ys,rfl,s2,r2⟩:=h2.tupx
   refine .inr (.inl ⟨p,q,xs,ys,rfl,rfl,s1,s2,by rw[<-r1.length,<-r2.length];exact hz,z3f W M.m (r1.append r2) ?_⟩)
   rw[Q2]
   intro l hl
   rcases c8.mp hl with q|q
   ·exact l1 l (by simpa only[y4] using q)
   ·exact l2 l (by simpa only[y4] using q)
  ·exact wfl W
 ·split at W
  ·rename_i la a lb b hz
   obtain⟨h1,h2⟩:=M.rd2
   obtain⟨l1,l2⟩:=M.lb2
   erw[RD] at h1 h2
   obtain⟨rfl,xs,s1,r1⟩:=h1
   obtain⟨rfl,ys,s2,r2⟩:=h2
   refine .inr (.inr (.inl ⟨_,_,xs,ys,rfl,rfl,s1,s2,by rw[<-r1.length,<-r2.length];exact hz,fun p hp k=>z0x W M.m (r1.append r2) ?_ hp k⟩))
   rw[Q2]
   intro l hl
   rcases c8.mp hl with q|q
   ·exact l1 l (by erw[y4];exact b7 _ q)
   ·exact l2 l (by erw[y4];exact b7 _ q)
  ·exact wfl W
 ·split at W
  ·rename_i a b hz
   obtain⟨h1,h2⟩:=M.rd2
   erw[RD] at h1 h2
   subst h1 h2
   exact .inr (.inr (.inr ⟨_,_,rfl,rfl,hz,fun _=>W.flat M.m rfl⟩))
  ·exact wfl W
 ·exact wfl W
theorem zei:z8F G F (rI0 fun i j=> .int (i -j)) z9e:=by
 intro ρ s t t' v u H σv tv Q M W
 unfold z9e at W
 split at W
 ·obtain⟨rfl,rfl⟩:=z2F M
  exact⟨_,_,rfl,rfl,fun _=>W.flat M.m rfl⟩
 ·exact wfl W
theorem zbO:z8F G F (rI z8O fun i j=> .int (i/j)) z2D:=by
 intro ρ s t t' v u H σv tv Q M W
 unfold z2D at W
 split at W
 ·split at W
  ·rename_i hc
   obtain⟨rfl,rfl⟩:=z2F M
   exact⟨_,_,rfl,rfl,hc,fun _=>W.flat M.m rfl⟩
  ·exact wfl W
 ·exact wfl W
theorem zej:z8F G F (rI (fun _ j=>0<j) fun i j=> .int (i %j)) z2E:=by
 intro ρ s t t' v u H σv tv Q M W
 unfold z2E at W
 split at W
 ·split at W
  ·rename_i hc
   obtain⟨rfl,rfl⟩:=z2F M
   exact⟨_,_,rfl,rfl,hc,fun _=>W.flat M.m rfl⟩
  ·exact wfl W
 ·exact wfl W
theorem zek:z8F G F (rI zcX fun i j=> .int (i^j.toNat)) z9f:=by
 intro ρ s t t' v u H σv tv Q M W
 unfold z9f at W
 split at W
 ·split at W
  ·rename_i hc
   obtain⟨rfl,rfl⟩:=z2F M
   exact⟨_,_,rfl,rfl,hc,fun _=>W.flat M.m rfl⟩
  ·exact wfl W
 ·exact wfl W
theorem zh1:V5 G F (rI0 fun i j=> .bl (decide (i<j))) ltD:=by
 intro ρ s t t' v u H σv tv Q M W
 unfold ltD at W
 split at W
 ·obtain⟨rfl,rfl⟩:=z2F M
  exact⟨_,_,rfl,rfl,W.flat M.m rfl⟩
 ·exact wfl W
theorem zh2:V5 G F (rI0 fun i j=> .bl (decide (i<=j))) leD:=by
 intro ρ s t t' v u H σv tv Q M W
 unfold leD at W
 split at W
 ·obtain⟨rfl,rfl⟩:=z2F M
  exact⟨_,_,rfl,rfl,W.flat M.m rfl⟩
 ·exact wfl W
theorem zh3:V5 G F (rI0 fun i j=> .bl (decide (j<i))) gtD:=by
 intro ρ s t t' v u H σv tv Q M W
 unfold gtD at W
 split at W
 ·obtain⟨rfl,rfl⟩:=z2F M
  exact⟨_,_,rfl,rfl,W.flat M.m rfl⟩
 ·exact wfl W
theorem zh4:V5 G F (rI0 fun i j=> .bl (decide (j<=i))) geD:=by
 intro ρ s t t' v u H σv tv Q M W
 unfold geD at W
 split at W
 ·obtain⟨rfl,rfl⟩:=z2F M
  exact⟨_,_,rfl,rfl,W.flat M.m rfl⟩
 ·exact wfl W
theorem zh5:V5 G F (zgk G.K false) eqD:=by
 intro ρ s t t' v u H σv tv Q M W
 unfold eqD at W
 split at W
 ·rename_i hc
  erw[eqC,i3,decide_eq_true_eq] at hc
  obtain⟨⟨⟨⟨c1,c2⟩,c3⟩,c4⟩,c5⟩:=hc
  obtain⟨h1,h2⟩:=M.rd2
  exact⟨er t,er t',RD.dp _ _ h1 c1,RD.dp _ _ h2 c2,c3,c4,c5,W.flat M.m rfl⟩
 ·exact wfl W
theorem zh6:V5 G F (zgk G.K true) neD:=by
 intro ρ s t t' v u H σv tv Q M W
 unfold neD at W
 split at W
 ·rename_i hc
  erw[eqC,i3,decide_eq_true_eq] at hc
  obtain⟨⟨⟨⟨c1,c2⟩,c3⟩,c4⟩,c5⟩:=hc
  obtain⟨h1,h2⟩:=M.rd2
  exact⟨er t,er t',RD.dp _ _ h1 c1,RD.dp _ _ h2 c2,c3,c4,c5,W.flat M.m rfl⟩
 ·exact wfl W
theorem RD.non_iff{ρ:Nat->Addr}{H:Hp}{t:D}{v:V}(h:RD G ρ H t v):v= .non↔t= .non:=by
 cases t<;>erw[RD] at h<;>(try (subst h;simp))<;>(try (obtain⟨a,xs,rfl,_⟩:=h;simp))<;>(try (obtain⟨rfl,_⟩:=h;simp))<;>(try (obtain⟨a,o,C,rfl,_⟩:=h;simp))<;>(try (obtain⟨a,rfl,_⟩:=h;simp))
theorem zel:V5 G F (fun x y H Q=>y= .non/\Q (.bl (decide (x= .non))) H) isN:=by
 intro ρ s t t' v u H σv tv Q M W
 obtain⟨h1,h2⟩:=M.rd2
 have e1:=h1.non_iff
 unfold isN at W
 split at W
 ·erw[RD] at h2
  exact⟨h2,by rw[decide_eq_true (e1.mpr rfl)];exact W.flat M.m rfl⟩
 ·rename_i ne
  erw[RD] at h2
  exact⟨h2,by rw[decide_eq_false (fun z=>ne (e1.mp z))];exact W.flat M.m rfl⟩
 ·exact wfl W
theorem zbP:V5 G F (fun x y H Q=>y= .non/\Q (.bl (!decide (x= .non))) H) zau:=by
 intro ρ s t t' v u H σv tv Q M W
 obtain⟨h1,h2⟩:=M.rd2
 have e1:=h1.non_iff
 unfold zau at W
 split at W
 ·erw[RD] at h2
  exact⟨h2,by rw[decide_eq_true (e1.mpr rfl)];exact W.flat M.m rfl⟩
 ·rename_i ne
  erw[RD] at h2
  exact⟨h2,by rw[decide_eq_false (fun z=>ne (e1.mp z))];exact W.flat M.m rfl⟩
 ·exact wfl W
theorem zem{ρ:Nat->Addr}{H:Hp}{ds:List D}{xs:List V}{i:Int}{d:D}(r:RDs G ρ H ds xs)(e:atI ds i=some d): ∃x,atI xs i=some x/\RD G ρ H d x:=by
 unfold atI at e⊢
 rw[<-r.length]
 cases e1:ixN ds.length i with
 |none=>rw[e1] at e;cases e
 |some j=>
  rw[e1] at e
  exact r.get j d e
theorem zbQ{α:Type}{ds:List α}{i:Int}{d:α}(e:atI ds i=some d):d∈ds:=by
 unfold atI at e
 cases e1:ixN ds.length i with
 |none=>rw[e1] at e;cases e
 |some j=>
  rw[e1] at e
  exact List.mem_of_getElem? e
theorem zh7:z8F G F (fun x y H Q=>ziI G.K x y H Q\/ziJ G.K x y H Q) ixD:=by
 intro ρ s t t' v u H σv tv Q M W
 obtain⟨h1,h2⟩:=M.rd2
 unfold ixD at W
 cases e:zbN t with
 |none=>rw[e] at W;exact False.elim W
 |some ds=>
  rw[e] at W
  cases t' with
  |int i=>
   have W:wM G F σv tv (zd0 (atI ds i) s) Q:=W
   cases ea:atI ds i with
   |some d=>
    rw[ea] at W
    obtain⟨a,xs,rfl,sq,r,sub⟩:=h1.seq e
    obtain⟨x,ex,rx⟩:=zem r ea
    erw[RD] at h2
    subst h2
    have fin:KD G.K H->Q x H:=fun _=>W.out M.m rx fun l hl=>M.lb2.1 l (sub l (labsL_mem (zbQ ea) l hl))
    rcases sq with sq|sq
    ·exact .inl ⟨a,xs,i,x,rfl,rfl,sq,ex,fin⟩
    ·exact .inr ⟨a,xs,i,x,rfl,rfl,sq,ex,fin⟩
   |none=>rw[ea] at W;exact False.elim W
  |_=>exact False.elim W
theorem zen:zgY G F (rU fun i=> .int (-i)) zeg:=by
 intro ρ s t v H σv tv Q M W
 unfold zeg at W
 split at W
 ·have h:=M.rd1
  erw[RD] at h
  exact⟨_,h,fun _=>W.flat M.m rfl⟩
 ·exact wfl W
end
section
variable{X:Cx}{G:Gx}{F:Fy}{e a b c:Expr}{pos:Pos}
theorem RDs.flat{ρ:Nat->Addr}{H:Hp}{ds:List D}{xs:List V}(r:RDs G ρ H ds xs): ∀k:Nat,RDs G ρ H (e6 k ds).flatten (e6 k xs).flatten
 |0=>by simp[RDs]
 |k+1=>by
  rw[o0,o0,A5,A5]
  exact r.append (RDs.flat r k)
theorem z1l{ds:List D}{l:Nat}: ∀k:Nat,l∈labsL (e6 k ds).flatten->l∈labsL ds
 |0,h=>by simp[labsL] at h
 |k+1,h=>by
  rw[o0,A5,Q2] at h
  rcases c8.mp h with h|h
  ·exact h
  ·exact z1l k h
theorem zeo:z8F G F (fun x y H Q=>rI z8P (fun i j=> .int (i*j)) x y H Q\/(zgO x y H Q\/zbJ G.K x y H Q)) z6j:=by
 intro ρ s t t' v u H σv tv Q M W
 unfold z6j at W
 split at W
 ·split at W
  ·rename_i hc
   obtain⟨rfl,rfl⟩:=z2F M
   exact .inl ⟨_,_,rfl,rfl,hc,fun _=>W.flat M.m rfl⟩
  ·exact wfl W
 ·split at W
  ·rename_i la a k hc
   obtain⟨h1,h2⟩:=M.rd2
   obtain⟨l1,l2⟩:=M.lb2
   erw[RD] at h1 h2
   obtain⟨rfl,xs,s1,r1⟩:=h1
   subst h2
   refine .inr (.inl ⟨_,k,xs,rfl,rfl,s1,hc.1,hc.2.1,by rw[<-r1.length];exact hc.2.2,fun p hp kd=>z0x W M.m (r1.flat _) (fun l hl=> ?_) hp kd⟩)
   exact l1 l (by erw[y4];exact b7 _ (z1l _ hl))
  ·exact wfl W
 ·split at W
  ·rename_i a k hc
   obtain⟨h1,h2⟩:=M.rd2
   obtain⟨l1,l2⟩:=M.lb2
   erw[RD] at h1 h2
   obtain⟨a',xs,rfl,s1,r1⟩:=h1
   subst h2
   refine .inr (.inr ⟨_,k,xs,rfl,rfl,SqT.of s1,by rw[<-r1.length];exact hc.1,hc.2.1,hc.2.2.1,by rw[<-r1.length];exact hc.2.2.2,fun p hp kd=>z7v W M.m (r1.flat _) (fun l hl=> ?_) hp kd⟩)
   exact l1 l (by erw[y4];exact z1l _ hl)
  ·exact wfl W
 ·exact wfl W
noncomputable def z9g{α:Type}(xs:List α)(lo hi:Option Int):List α:=(xs.drop (HT.sIx xs.length 0 lo)).take (HT.sIx xs.length xs.length hi -HT.sIx xs.length 0 lo)
noncomputable def slD:D->Option Int->Option Int->M D
 | .tup ds,lo,hi=>rt (.tup (z9g ds lo hi))
 | .lst _ ds,lo,hi=>zef (z9g ds lo hi)
 | .ro ds,lo,hi=>zef (z9g ds lo hi)
 |_,_,_=>fl
theorem RDs.cut{ρ:Nat->Addr}{H:Hp}{ds:List D}{xs:List V}(r:RDs G ρ H ds xs)(lo hi:Option Int):RDs G ρ H (z9g ds lo hi) (z77 xs lo hi):=by
 unfold z9g z77
 rw[r.length]
 exact(r.drop _).take _
theorem z28{ds:List D}{lo hi:Option Int}{l:Nat}(h:l∈labsL (z9g ds lo hi)):l∈labsL ds:=by
 obtain⟨d,h1,h2⟩:=j6 h
 exact labsL_mem (List.mem_of_mem_drop (List.mem_of_mem_take h1)) l h2
noncomputable def mInt(d:D):Option Int:=match d with| .int i=>some i|_=>none
noncomputable def z2G:Option (M D)->M (Option Int)
 |none=>rt none
 |some m=>bd m fun d=>match mInt d with|some i=>rt (some i)|none=>fl
noncomputable def tP(G:Gx)(F:Fy)(m:M (Option Int)):TO:=fun σv H Q=> ∃tv,F.tv0<:+tv/\∃ρ s,MR G F.toFx ρ H σv tv s/\(match m s with
 | .ok o s'=> ∀ρ' H',MR G F.toFx ρ' H' σv tv s'->Q o H'
 | .ex d s'=>F.xw d s'
 | .no=>False)
noncomputable def SO(X:Cx)(G:Gx)(F:Fy)(e:Option Expr)(m:Option (M D)):Prop:=PO X e (tP G F (z2G m))
theorem so_none:SO X G F none none:=by
 intro pins s σ H Q I ⟨tv,hs,ρ,ms,M,W⟩
 exact zbs pins s σ H Q I (W ρ H M)
theorem so_some{m:M D}(h:SE X G F e m):SO X G F (some e) (some m):=by
 intro pins s σ H Q I ⟨tv,hs,ρ,ms,M,W⟩
 refine zbt h pins s σ H Q I ⟨tv,hs,ρ,ms,M, ?_⟩
 erw[z2G,bd] at W
 cases e1:m ms with
 |ok d s1=>
  rw[e1] at W
  intro ρ' v H' M'
  cases d with
  |int i=>
   have h:=M'.rd1
   erw[RD] at h
   exact⟨i,h,W ρ' H' M'.m⟩
  |_=>exact False.elim W
 |ex d s1=>rw[e1] at W;exact W
 |no=>rw[e1] at W;exact W
noncomputable def mSl(m:M D)(lo hi:Option (M D)):M D:=bd m fun x=>bd (psh x) fun _=>bd (z2G lo) fun l=>bd (z2G hi) fun h=>bd pop fun x'=>slD x' l h
theorem zh8{ρ:Nat->Addr}{s:Stt}{t:D}{v:V}{H:Hp}{σv tv:List (Option V)}{lo hi:Option Int}{Q:VK}(M:MRL G F.toFx ρ H σv tv s [t] [v])(W:wM G F σv tv (slD t lo hi s) Q):
 zgX G.K v lo hi H (fun w H'=>KD G.K H'->Q w H')\/zgL G.K v lo hi H (fun w H'=>KD G.K H'->Q w H'):=by
 have h:=M.rd1
 cases t with
 |tup ds=>
  obtain⟨p,xs,rfl,s1,r1⟩:=h.tupx
  exact .inl ⟨p,xs,rfl,s1,z3f W M.m (r1.cut lo hi) fun l hl=>M.lb1 l (by erw[y4];exact z28 hl)⟩
 |lst n ds=>
  obtain⟨p,xs,rfl,s1,r1,_⟩:=h.lstq (ds:=ds) rfl
  exact .inr ⟨p,xs,rfl,s1,fun q hq k=>z0x W M.m (r1.cut lo hi) (fun l hl=>M.lb1 l (by erw[y4];exact b7 _ (z28 hl))) hq k⟩
 |ro ds=>
  obtain⟨p,xs,rfl,s1,r1,_⟩:=h.lstq (ds:=ds) rfl
  exact .inr ⟨p,xs,rfl,s1,fun q hq k=>z0x W M.m (r1.cut lo hi) (fun l hl=>M.lb1 l (by erw[y4];exact z28 hl)) hq k⟩
 |_=>exact False.elim W
theorem se_slice{lo hi:Option Expr}{p2:Pos}{m:M D}{ml mh:Option (M D)}(hk:X.K=G.K)(he:SE X G F e m)(hl:SO X G F lo ml)(hh:SO X G F hi mh):SE X G F (.Subscript e (.Slice lo hi none p2) pos) (mSl m ml mh):=by
 refine PE.imp hk (z90 (r:=fun x lo hi H Q=>zgX X.K x lo hi H Q\/zgL X.K x lo hi H Q) (SlR.or zbI zbx) he hl hh) fun σ H Q ⟨tv,h⟩=>⟨tv, ?_⟩
 obtain⟨hs,ρ,s,M,W⟩:=z27 h
 refine⟨hs,ρ,s,M,W.mono fun v H1 ⟨ρ1,s1,t,M1,W1⟩=>⟨some v::tv,z4H hs,ρ1,s1.psh t,M1.push, ?_⟩⟩
 erw[bd,psh] at W1
 cases e1:z2G ml (s1.psh t) with
 |ex d s2=>rw[e1] at W1;exact W1
 |no=>rw[e1] at W1;exact W1
 |ok l s2=>
  rw[e1] at W1
  intro ρ2 H2 M2
  refine⟨some v::tv,z4H hs,ρ2,s2,M2, ?_⟩
  dsimp only at W1
  cases e2:z2G mh s2 with
  |ex d s3=>rw[e2] at W1;exact W1
  |no=>rw[e2] at W1;exact W1
  |ok h s3=>
   rw[e2] at W1
   intro ρ3 H3 M3
   erw[pop] at W1
   cases e3:s3.tm with
   |nil=>rw[e3] at W1;exact W1.elim
   |cons o r=>
    cases o with
    |none=>rw[e3] at W1;exact W1.elim
    |some t'=>
     rw[e3] at W1
     have M4:MRL G F.toFx ρ3 H3 σ tv {s3 with tm:=r} [t'] [v]:=MRL.down (ts:=[]) (vs:=[]) ⟨M3,rfl,fun l h=>by simp[labsL] at h⟩ e3
     rw[hk]
     exact zh8 M4 W1
noncomputable def z0L(ts:List D):M D:=if ts.length<=sizeLine then rt (.tup ts) else fl
noncomputable def lstM(ts:List D):M D:=if ts.length<=sizeLine then zef ts else fl
theorem zep:G4 G F (fun xs H1 Q=>xs.length<=sizeLine/\∀p,H1 p=none->Q (.ref p) (upd H1 p (.tup xs))) z0L:=by
 intro ρ s ts vs H σv tv Q M W
 unfold z0L at W
 split at W
 ·rename_i hz
  exact⟨by rw[<-M.rd.length];exact hz,fun p hp k=>z7v W M.m M.rd M.lb hp k⟩
 ·exact wfl W
theorem zeq:G4 G F (fun xs H1 Q=>xs.length<=sizeLine/\∀p,H1 p=none->Q (.ref p) (upd H1 p (.lst xs))) lstM:=by
 intro ρ s ts vs H σv tv Q M W
 unfold lstM at W
 split at W
 ·rename_i hz
  exact⟨by rw[<-M.rd.length];exact hz,fun p hp k=>z0x W M.m M.rd M.lb hp k⟩
 ·exact wfl W
theorem se_tup{es:List Expr}{ms:List (M D)}{x1}(hk:X.K=G.K)(h:SA X G F es (Z3 ms)):SE X G F (.Tuple es x1 pos) (mCB ms z0L):=
 PE.imp hk (z73 h) fun _ _ _ h=>z1M zep h
theorem se_lst{es:List Expr}{ms:List (M D)}(hk:X.K=G.K)(h:SA X G F es (Z3 ms)):SE X G F (.List es pos) (mCB ms lstM):=
 PE.imp hk (zdI h) fun _ _ _ h=>z1M zeq h
noncomputable def zer:D->M Bool
 | .non=>rt false
 | .bool b=>rt b
 | .int i=>rt (i !=0)
 | .str x=>if x.length<=sizeLine then rt ((x.length:Int) !=0) else fl
 | .tup ds=>rt (!ds.isEmpty)
 | .ro ds=>rt (!ds.isEmpty)
 | .lst _ ds=>rt (!ds.isEmpty)
 |_=>fl
noncomputable def j3(m:M D):M Bool:=bd m zer
theorem z1m{ρ:Nat->Addr}{H:Hp}{ds:List D}{xs:List V}(r:RDs G ρ H ds xs):(!ds.isEmpty)= !xs.isEmpty:=by
 have:=r.length
 cases ds<;>cases xs<;>simp at this⊢
theorem zes{ρ:Nat->Addr}{s:Stt}{t:D}{v:V}{H:Hp}{σv tv:List (Option V)}{Q:Bool->Hp->Prop}(M:MRL G F.toFx ρ H σv tv s [t] [v])(W:wB G F σv tv (zer t s) Q): ∃k,TruV G.K v H k/\Q k H:=by
 have h:=M.rd1
 cases t with
 |non=>erw[RD] at h;subst h;exact⟨false,rfl,W ρ H M.m⟩
 |bool b=>erw[RD] at h;subst h;exact⟨b,rfl,W ρ H M.m⟩
 |int i=>erw[RD] at h;subst h;exact⟨_,rfl,W ρ H M.m⟩
 |str x=>
  erw[RD] at h;subst h
  unfold zer at W
  by_cases hz:x.length<=sizeLine
  ·erw[if_pos hz] at W;exact⟨_,⟨hz,rfl⟩,W ρ H M.m⟩
  ·erw[if_neg hz] at W;exact False.elim W
 |tup ds=>
  obtain⟨p,xs,rfl,s1,r1⟩:=h.tupq
  exact⟨_, .inr (.inl ⟨xs,s1,z1m r1⟩),W ρ H M.m⟩
 |ro ds=>
  obtain⟨p,xs,rfl,s1,r1,_⟩:=h.lstq (ds:=ds) rfl
  exact⟨_, .inl ⟨xs,s1,z1m r1⟩,W ρ H M.m⟩
 |lst n ds=>
  obtain⟨p,xs,rfl,s1,r1,_⟩:=h.lstq (ds:=ds) rfl
  exact⟨_, .inl ⟨xs,s1,z1m r1⟩,W ρ H M.m⟩
 |dct _ _ _=>exact False.elim W
 |fdc _ _=>exact False.elim W
 |obj _ _ _ _=>exact False.elim W
 |exc _=>exact False.elim W
 |fn _=>exact False.elim W
theorem z9h{m:M D}{σ:St}{H:Hp}{Q:Bool->Hp->Prop}(h:tMB G F (j3 m) σ H Q):tM G F m σ H fun x H'=> ∃k,TruV G.K x H' k/\Q k H':=by
 obtain⟨tv,hs,ρ,s,M,W⟩:=h
 refine⟨tv,hs,ρ,s,M, ?_⟩
 unfold j3 bd at W
 cases e:m s with
 |ok t s1=>rw[e] at W;exact fun ρ1 v H1 M1=>zes M1 W
 |ex d s1=>rw[e] at W;exact W
 |no=>rw[e] at W;exact W
theorem sb_truth{m:M D}(hk:X.K=G.K)(ha:SE X G F a m)(he: ∀whole,isTrue a X.env whole=(do let v<-whole;standAt a.pos;holding [v] (truthy v)):=by intro _;rfl):SB X G F a (j3 m):=by
 refine PT.imp hk (z8S ha he) fun σ H Q h=> ?_
 rw[hk]
 obtain⟨tv,h'⟩:=z9h h
 exact⟨tv,h'.mono fun v H1 ⟨k,q1,q2⟩=>⟨k,q1,fun _=>q2⟩⟩
noncomputable def zd1:D->M Bool
 | .bool b=>rt b
 |_=>fl
noncomputable def G6(m:M D):M Bool:=bd m zd1
theorem z7w{m:M D}{σ:St}{H:Hp}{Q:Bool->Hp->Prop}(h:tMB G F (G6 m) σ H Q):tM G F m σ H fun x H'=> ∃k,x= .bl k/\Q k H':=by
 obtain⟨tv,hs,ρ,s,M,W⟩:=h
 refine⟨tv,hs,ρ,s,M, ?_⟩
 unfold G6 bd at W
 cases e:m s with
 |ok t s1=>
  rw[e] at W
  intro ρ1 v H1 M1
  have h:=M1.rd1
  cases t with
  |bool b=>erw[RD] at h;exact⟨b,h,W ρ1 H1 M1.m⟩
  |_=>exact False.elim W
 |ex d s1=>rw[e] at W;exact W
 |no=>rw[e] at W;exact W
theorem zbR{op:CmpOp}{r:R2}{ma mb:M D}{g:D->D->M D}(ho:OpR X (compareOp op) r)(hg:V5 G F r g)(ha:SE X G F a ma)(hb:SE X G F b mb)(hm:behindInMarks op b=false):SB X G F (.Compare a [op] [b] pos) (G6 (Z0 ma mb g)):=
 PT.imp0 (zbi ho ha hb hm) fun _ _ _ h=>z9c hg (z7w h)
theorem zbS{m:M Bool}{f:Bool->M Bool}{σ:St}{tv:List (Option V)}{H:Hp}{Q:Bool->Hp->Prop}(h:tBv G F (bd m f) σ tv H Q):tBv G F m σ tv H fun b H1=> ∃ρ1 s1,MR G F.toFx ρ1 H1 σ tv s1/\wB G F σ tv (f b s1) Q:=by
 obtain⟨hs,ρ,s,M,W⟩:=h
 refine⟨hs,ρ,s,M, ?_⟩
 unfold bd at W
 cases e:m s with
 |ok b s1=>rw[e] at W;exact fun ρ1 H1 M1=>⟨ρ1,s1,M1,W⟩
 |ex d s1=>rw[e] at W;exact W
 |no=>rw[e] at W;exact W
theorem wB.mono{σv tv:List (Option V)}{r:Res Bool}{Q Q':Bool->Hp->Prop}(h:wB G F σv tv r Q)(k: ∀v H,Q v H->Q' v H):wB G F σv tv r Q':=by
 cases r with
 |ok t s=>exact fun ρ H M=>k _ _ (h ρ H M)
 |ex d s=>exact h
 |no=>exact h
theorem tBv.mono{m:M Bool}{σv tv:List (Option V)}{H:Hp}{Q Q':Bool->Hp->Prop}(h:tBv G F m σv tv H Q)(k: ∀v H,Q v H->Q' v H):tBv G F m σv tv H Q':=by
 obtain⟨hs,ρ,s,M,W⟩:=h
 exact⟨hs,ρ,s,M,W.mono k⟩
noncomputable def z4u{α:Type}(b:Bool)(m m':M α):M α:=match b with|true=>m|false=>m'
noncomputable def zet(m m':M Bool):M Bool:=bd m fun b=>z4u b m' (rt false)
noncomputable def mOr(m m':M Bool):M Bool:=bd m fun b=>z4u b (rt true) m'
noncomputable def z1d(m:M Bool):M Bool:=bd m fun b=>rt (!b)
noncomputable def SW(X:Cx)(G:Gx)(F:Fy)(e:Expr)(m:M Bool):Prop:=PW X e (tMB G F m)
theorem SW.sb{m:M Bool}(h:SW X G F e m):SB X G F e m:=PW.pt h
theorem PW.imp0{t t':TT}(h:PW X e t)(hi: ∀σ H Q,t' σ H Q->t σ H Q):PW X e t':=fun wh pins s σ H Q I q=>h wh pins s σ H _ I (hi σ H Q q)
theorem sw_and1{m:M Bool}(h:SB X G F a m):SW X G F (.BoolOp .And [a] pos) m:=zb9 h
theorem sw_or1{m:M Bool}(h:SB X G F a m):SW X G F (.BoolOp .Or [a] pos) m:=zdn h
theorem sw_and{rest:List Expr}{m m':M Bool}(ha:SB X G F a m)(hb:SW X G F (.BoolOp .And (b::rest) pos) m'):SW X G F (.BoolOp .And (a::b::rest) pos) (zet m m'):=by
 refine PW.imp0 (zdo ha hb) fun σ H Q ⟨tv,h⟩=>⟨tv,(zbS h).mono fun b H1 ⟨ρ1,s1,M1,W⟩=> ?_⟩
 cases b with
 |true=>rw[if_pos rfl];exact⟨tv,h.1,ρ1,s1,M1,W⟩
 |false=>rw[if_neg i6];exact W ρ1 H1 M1
theorem sw_or{rest:List Expr}{m m':M Bool}(ha:SB X G F a m)(hb:SW X G F (.BoolOp .Or (b::rest) pos) m'):SW X G F (.BoolOp .Or (a::b::rest) pos) (mOr m m'):=by
 refine PW.imp0 (zgq ha hb) fun σ H Q ⟨tv,h⟩=>⟨tv,(zbS h).mono fun b H1 ⟨ρ1,s1,M1,W⟩=> ?_⟩
 cases b with
 |true=>rw[if_pos rfl];exact W ρ1 H1 M1
 |false=>rw[if_neg i6];exact⟨tv,h.1,ρ1,s1,M1,W⟩
theorem sb_not{m:M Bool}(ha:SB X G F a m):SB X G F (.UnaryOp .Not a pos) (z1d m):=by
 refine PT.imp0 (zdp ha) fun σ H Q ⟨tv,h⟩=>⟨tv,(zbS h).mono fun b H1 ⟨ρ1,s1,M1,W⟩=>W ρ1 H1 M1⟩
noncomputable def z41(m m':M D):M D:=bd (G6 m) fun b=>z4u b m' (rt (.bool false))
noncomputable def zeu(m m':M D):M D:=bd (G6 m) fun b=>z4u b (rt (.bool true)) m'
noncomputable def z6k(m:M D):M D:=bd (G6 m) fun b=>rt (.bool (!b))
theorem z7x{m:M D}{f:Bool->M D}{σ:St}{H:Hp}{Q:VK}(h:tM G F (bd (G6 m) f) σ H Q):tM G F m σ H fun x H1=> ∃k,x= .bl k/\∃ρ1 s1 tv,F.tv0<:+tv/\MR G F.toFx ρ1 H1 σ tv s1/\wM G F σ tv (f k s1) Q:=by
 obtain⟨tv,hs,ρ,s,M,W⟩:=h
 refine⟨tv,hs,ρ,s,M, ?_⟩
 unfold G6 bd at W
 cases e:m s with
 |ok t s1=>
  rw[e] at W
  intro ρ1 v H1 M1
  have h:=M1.rd1
  cases t with
  |bool b=>erw[RD] at h;exact⟨b,h,ρ1,s1,tv,hs,M1.m,W⟩
  |_=>exact False.elim W
 |ex d s1=>rw[e] at W;exact W
 |no=>rw[e] at W;exact W
theorem tM.mono{m:M D}{σ:St}{H:Hp}{Q Q':VK}(h:tM G F m σ H Q)(k: ∀v H,Q v H->Q' v H):tM G F m σ H Q':=by
 obtain⟨tv,h⟩:=h
 exact⟨tv,h.mono k⟩
theorem se_one{op}{m:M D}(h:SE X G F a m):SE X G F (.BoolOp op [a] pos) m:=zdq h
theorem se_and{rest:List Expr}{m m':M D}(ha:SE X G F a m)(hb:SE X G F (.BoolOp .And (b::rest) pos) m'):SE X G F (.BoolOp .And (a::b::rest) pos) (z41 m m'):=by
 refine PE.imp0 (zdr ha hb) fun σ H Q h=>(z7x h).mono fun x H1 ⟨k,e,ρ1,s1,tv,hs,M1,W⟩=>⟨k,e, ?_⟩
 cases k with
 |true=>rw[if_pos rfl];exact⟨tv,hs,ρ1,s1,M1,W⟩
 |false=>rw[if_neg i6];exact W.flat M1 rfl
theorem se_or{rest:List Expr}{m m':M D}(ha:SE X G F a m)(hb:SE X G F (.BoolOp .Or (b::rest) pos) m'):SE X G F (.BoolOp .Or (a::b::rest) pos) (zeu m m'):=by
 refine PE.imp0 (zgt ha hb) fun σ H Q h=>(z7x h).mono fun x H1 ⟨k,e,ρ1,s1,tv,hs,M1,W⟩=>⟨k,e, ?_⟩
 cases k with
 |true=>rw[if_pos rfl];exact W.flat M1 rfl
 |false=>rw[if_neg i6];exact⟨tv,hs,ρ1,s1,M1,W⟩
theorem se_not{m:M D}(ha:SE X G F a m):SE X G F (.UnaryOp .Not a pos) (z6k m):=by
 refine PE.imp0 (zds ha) fun σ H Q h=>(z7x h).mono fun x H1 ⟨k,e,ρ1,s1,tv,hs,M1,W⟩=>⟨k,e,W.flat M1 rfl⟩
noncomputable def z7y(y:D)(m:M D):M D:=match cV y with|some _=>m|none=>fl
noncomputable def z0s(ma mb mc:M D)(g g':D->D->M D):M D:=bd ma fun x=>bd (psh x) fun _=>bd mb fun y=>bd pop fun x'=>z7y y (bd (G6 (g x' y)) fun k=>z4u k (bd mc fun z=>g' y z) (rt (.bool false)))
theorem z42{ma mb mc:M D}{g g':D->D->M D}{r r':R2}{σ:St}{H:Hp}{Q:VK}(hg:V5 G F r g)(hg':V5 G F r' g')(h:tM G F (z0s ma mb mc g g') σ H Q):z6Y r r' (tM G F ma) (tM G F mb) (tM G F mc) σ H Q:=by
 obtain⟨tv,h⟩:=h
 have hs:=h.1
 refine⟨tv,(z5t (g:=fun x' y=>z7y y (bd (G6 (g x' y)) fun k=>z4u k (bd mc fun z=>g' y z) (rt (.bool false)))) h).mono fun v H1 h1=>⟨_,h1.mono fun u H2 ⟨ρ,s,t,t',M,W⟩=> ?_⟩⟩
 unfold z7y at W
 cases e:cV t' with
 |none=>rw[e] at W;exact False.elim W
 |some u'=>
  rw[e] at W
  have hu:u=u':=by
   have h2:=M.rd2.2
   cases t'<;>erw[cV,Option.some.injEq] at e<;>erw[RD] at h2<;>first|(rw[h2,e])|cases e
  subst hu
  unfold bd G6 at W
  dsimp only at W
  refine hg ρ s t t' v u H2 σ tv _ M ?_
  unfold bd at W
  cases e2:g t t' s with
  |ok z s1=>
   rw[e2] at W
   intro ρ1 w H3 M3
   have h3:=M3.rd1
   cases z with
   |bool k=>
    erw[RD] at h3
    refine⟨k,h3, ?_⟩
    have W:wM G F σ tv (z4u k (bd mc fun z=>g' t' z) (rt (.bool false)) s1) Q:=W
    cases k with
    |false=>rw[if_neg i6];exact W.flat M3.m rfl
    |true=>
     rw[if_pos rfl]
     have h5:tMv G F (bd mc fun z=>g' t' z) σ tv H3 Q:=⟨hs,ρ1,s1,M3.m,W⟩
     refine⟨tv,(z27 h5).mono fun w' H4 ⟨ρ4,s4,t4,M4,W4⟩=>hg' ρ4 s4 t' t4 u w' H4 σ tv Q ⟨M4.m, ?_,fun l hl=> ?_⟩ W4⟩
     ·erw[RDs];exact⟨_,_,rfl,(z6i e).1,_,_,rfl,M4.rd1,rfl⟩
     ·erw[labsL,(z6i (G:=G) (ρ:=ρ4) (H:=H4) e).2,m8,c9] at hl
      exact M4.lb1 l hl
   |_=>exact False.elim W
  |ex d s1=>rw[e2] at W;exact W
  |no=>rw[e2] at W;exact W
theorem z9i{op op':CmpOp}{r r':R2}{ma mb mc:M D}{g g':D->D->M D}(ho:OpR X (compareOp op) r)(hg:V5 G F r g)(ho':OpR X (compareOp op') r')(hg':V5 G F r' g')(ha:SE X G F a ma)(hb:SE X G F b mb)(hc:SE X G F c mc)
 (hm:lastMarks [op,op'] [b,c]=false:=by with_unfolding_all rfl):SE X G F (.Compare a [op,op'] [b,c] pos) (z0s ma mb mc g g'):=
 PE.imp0 (z8Q ho ho' ha hb hc hm) fun _ _ _ h=>z42 hg hg' h
theorem z9j{op op':CmpOp}{r r':R2}{ma mb mc:M D}{g g':D->D->M D}(ho:OpR X (compareOp op) r)(hg:V5 G F r g)(ho':OpR X (compareOp op') r')(hg':V5 G F r' g')(ha:SE X G F a ma)(hb:SE X G F b mb)(hc:SE X G F c mc)
 (hm:lastMarks [op,op'] [b,c]=false:=by with_unfolding_all rfl):SB X G F (.Compare a [op,op'] [b,c] pos) (G6 (z0s ma mb mc g g')):=
 PT.imp0 (z8R ho ho' ha hb hc hm) fun _ _ _ h=>z42 hg hg' (z7w h)
end
noncomputable def z6I:List D->M D
 |[.tup ds]=>rt (.int ds.length)
 |[.ro ds]=>rt (.int ds.length)
 |[.lst _ ds]=>rt (.int ds.length)
 |_=>fl
noncomputable def zd2:List D->M D
 |[.int i]=>rt (.int (if i<0 then -i else i))
 |_=>fl
noncomputable def zbT:List D->M D
 |[.int i, .int j]=>rt (.int (if j<i then j else i))
 |_=>fl
noncomputable def zd3:List D->M D
 |[.int i, .int j]=>rt (.int (if j>i then j else i))
 |_=>fl
noncomputable def j7:List D->Option (List Bool)
 |[]=>some []
 | .bool b::r=>(j7 r).map (b:: ·)
 |_=>none
noncomputable def z9k:List D->M D
 |[.lst _ ds]=>match j7 ds with|some bs=>rt (.bool (bs.all id))|none=>fl
 |_=>fl
noncomputable def zav:List D->M D
 |[.tup ds]=>rt (.tup ds)
 |[.ro ds]=>rt (.tup ds)
 |[.lst _ ds]=>rt (.tup ds)
 |_=>fl
section
variable{X:Cx}{G:Gx}{F:Fy}{e a b c:Expr}{pos:Pos}
theorem MRL.one{ρ:Nat->Addr}{H:Hp}{σv tv:List (Option V)}{s:Stt}{t:D}{vs:List V}(M:MRL G F.toFx ρ H σv tv s [t] vs): ∃v,vs=[v]/\RD G ρ H t v/\LB F.toFx ρ s.n (y4 t):=by
 have h:=M.rd
 erw[RDs] at h
 obtain⟨v,r,rfl,h,rfl⟩:=h
 exact⟨v,rfl,h,M.lb1⟩
theorem MRL.two{ρ:Nat->Addr}{H:Hp}{σv tv:List (Option V)}{s:Stt}{t t':D}{vs:List V}(M:MRL G F.toFx ρ H σv tv s [t,t'] vs): ∃v u,vs=[v,u]/\RD G ρ H t v/\RD G ρ H t' u:=by
 have h:=M.rd
 erw[RDs] at h
 obtain⟨v,r,rfl,h,u,q,rfl,h',rfl⟩:=h
 exact⟨v,u,rfl,h,h'⟩
theorem zev:G4 G F (fun xs H Q=> ∃p ys,xs=[.ref p]/\(SqL G.K H p ys\/SqT G.K H p ys)/\Q (.int ys.length) H) z6I:=by
 intro ρ s ts vs H σv tv Q M W
 unfold z6I at W
 split at W
 ·obtain⟨v,rfl,h,_⟩:=M.one
  obtain⟨p,xs,rfl,s1,r1,_⟩:=h.seq rfl
  exact⟨p,xs,rfl,s1,fun _=>by rw[<-r1.length];exact W.flat M.m rfl⟩
 ·obtain⟨v,rfl,h,_⟩:=M.one
  obtain⟨p,xs,rfl,s1,r1,_⟩:=h.seq rfl
  exact⟨p,xs,rfl,s1,fun _=>by rw[<-r1.length];exact W.flat M.m rfl⟩
 ·obtain⟨v,rfl,h,_⟩:=M.one
  obtain⟨p,xs,rfl,s1,r1,_⟩:=h.seq rfl
  exact⟨p,xs,rfl,s1,fun _=>by rw[<-r1.length];exact W.flat M.m rfl⟩
 ·exact wfl W
theorem zew:G4 G F (fun xs H Q=> ∃i,xs=[.int i]/\Q (.int (if i<0 then -i else i)) H) zd2:=by
 intro ρ s ts vs H σv tv Q M W
 unfold zd2 at W
 split at W
 ·obtain⟨v,rfl,h,_⟩:=M.one
  erw[RD] at h
  subst h
  exact⟨_,rfl,fun _=>W.flat M.m rfl⟩
 ·exact wfl W
theorem zex:G4 G F (fun xs H Q=> ∃i j,xs=[.int i, .int j]/\Q (.int (if j<i then j else i)) H) zbT:=by
 intro ρ s ts vs H σv tv Q M W
 unfold zbT at W
 split at W
 ·obtain⟨v,u,rfl,h,h'⟩:=M.two
  erw[RD] at h h'
  subst h h'
  exact⟨_,_,rfl,fun _=>W.flat M.m rfl⟩
 ·exact wfl W
theorem zey:G4 G F (fun xs H Q=> ∃i j,xs=[.int i, .int j]/\Q (.int (if j>i then j else i)) H) zd3:=by
 intro ρ s ts vs H σv tv Q M W
 unfold zd3 at W
 split at W
 ·obtain⟨v,u,rfl,h,h'⟩:=M.two
  erw[RD] at h h'
  subst h h'
  exact⟨_,_,rfl,fun _=>W.flat M.m rfl⟩
 ·exact wfl W
theorem z1N{ρ:Nat->Addr}{H:Hp}: ∀{ds:List D} {xs:List V} {bs:List Bool},RDs G ρ H ds xs->j7 ds=some bs->xs=bs.map V.bl
 |[],xs,bs,r,e=>by erw[RDs] at r;erw[j7,Option.some.injEq] at e;subst r e;rfl
 |d::ds,xs,bs,r,e=>by
  erw[RDs] at r
  obtain⟨x,q,rfl,h1,h2⟩:=r
  cases d with
  |bool b=>
   erw[j7] at e
   cases e1:j7 ds with
   |none=>rw[e1] at e;cases e
   |some cs=>
    rw[e1] at e
    cases e
    erw[RD] at h1
    rw[h1,z1N h2 e1];rfl
  |_=>erw[j7] at e;cases e
theorem zez:G4 G F (fun xs H Q=> ∃(p:Addr) (bs:List Bool),xs=[.ref p]/\SqL G.K H p (bs.map V.bl)/\Q (.bl (bs.all id)) H) z9k:=by
 intro ρ s ts vs H σv tv Q M W
 unfold z9k at W
 split at W
 ·rename_i l ds
  cases e1:j7 ds with
  |none=>rw[e1] at W;exact False.elim W
  |some bs=>
   rw[e1] at W
   obtain⟨v,rfl,h,_⟩:=M.one
   obtain⟨p,xs,rfl,s1,r1,_⟩:=h.lstq (ds:=ds) rfl
   rw[z1N r1 e1] at s1
   exact⟨p,bs,rfl,s1,fun _=>W.flat M.m rfl⟩
 ·exact wfl W
theorem zbU:G4 G F (fun xs H Q=> ∃(p:Addr) (ys:List V),xs=[.ref p]/\(SqL G.K H p ys\/H p=some (.tup ys))/\z7n G.K H ys Q) zav:=by
 intro ρ s ts vs H σv tv Q M W
 have fin: ∀(t:D) (ds:List D),ts=[t]->zbN t=some ds->wM G F σv tv (.ok (.tup ds) s) Q->∃(p:Addr) (ys:List V),vs=[.ref p]/\(SqL G.K H p ys\/H p=some (.tup ys))/\z7n G.K H ys (fun w H'=>KD G.K H'->Q w H'):=fun t ds et es W'=>by
  subst et
  obtain⟨v,rfl,h,lb⟩:=M.one
  obtain⟨p,xs,rfl,s1,r1,sub⟩:=h.seqx es
  exact⟨p,xs,rfl,s1,z3f W' M.m r1 fun l hl=>lb l (sub l hl)⟩
 unfold zav at W
 split at W
 ·exact fin _ _ rfl rfl W
 ·exact fin _ _ rfl rfl W
 ·exact fin _ _ rfl rfl W
 ·exact wfl W
noncomputable def isiD(T:String):D->Option Bool
 | .non=>some false
 | .bool _=>some (T== "int" ||T== "bool")
 | .int _=>some (T== "int")
 | .str _=>some (T== "str")
 | .tup _=>some (T== "tuple")
 | .ro _=>some (T== "list")
 | .lst _ _=>some (T== "list")
 |_=>none
noncomputable def z3G(T:String)(m:M D):M D:=bd m fun d=>match isiD T d with|some b=>rt (.bool b)|none=>fl
theorem zeA{ρ:Nat->Addr}{H:Hp}{t:D}{v:V}{T:String}{b:Bool}(h:RD G ρ H t v)(e:isiD T t=some b):ziL G.K H T b v:=by
 cases t<;>erw[isiD,Option.some.injEq] at e<;>try cases e
 ·erw[RD] at h;subst h;exact rfl
 ·erw[RD] at h;subst h;exact rfl
 ·erw[RD] at h;subst h;exact rfl
 ·erw[RD] at h;subst h;exact rfl
 ·obtain⟨p,xs,rfl,s1,r1⟩:=h.tupq
  exact .inl ⟨xs,s1,rfl⟩
 ·obtain⟨p,xs,rfl,s1,r1,_⟩:=h.lstq rfl
  exact .inr ⟨xs,s1,rfl⟩
 ·obtain⟨p,xs,rfl,s1,r1,_⟩:=h.lstq rfl
  exact .inr ⟨xs,s1,rfl⟩
theorem se_isi{p:Pos}{x y:Expr}{T:String}{m:M D}(hk:X.K=G.K)(hT:T= "int" \/T= "bool" \/T= "tuple" \/T= "list" \/T= "str")(hgl:Gl X "isinstance")(hm:X.mg "isinstance" =none)(ha:SE X G F x m)(hy:PE X y (tC (.ty T)))
 (he:starEach [x,y] X.env=(false,eval x X.env)::starEach [y] X.env:=by rfl) (he2:starEach [y] X.env=(false,eval y X.env)::starEach [] X.env:=by rfl) (hpl:(backTo pos (starEach [y] X.env)).any (·.1)=false:=by rfl):SE X G F (.Call (.Name "isinstance" p) [x,y] [] pos) (z3G T m):=by
 refine PE.imp hk (z1K z9a hgl hm PyProof.Rows.Boot.«isinstance» (Y2 ha (Y2 hy z0E he2) he) (by decide) (by decide) he hpl) fun σ H Q ⟨tv,h⟩=>⟨tv,(z27 h).mono fun v H1 ⟨ρ1,s1,t,M1,W⟩=> ?_⟩
 cases e:isiD T t with
 |none=>erw[e] at W;exact False.elim W
 |some b=>
  erw[e] at W
  rw[hk]
  exact⟨v,T,b,rfl,hT,zeA M1.rd1 e,fun _=>W.flat M1.m rfl⟩
end
inductive RS where
 |nx (s:Stt)|rt (d:D) (s:Stt)|bk (s:Stt)|ct (s:Stt)|ex (d:D) (s:Stt)|no
noncomputable abbrev MS:=Stt->RS
noncomputable def z0y{α:Type}(m:M α)(f:α->MS):MS:=fun s=>match m s with
 | .ok a s'=>f a s'
 | .ex d s'=> .ex d s'
 | .no=> .no
noncomputable def W3(m m':MS):MS:=fun s=>match m s with
 | .nx s'=>m' s'
 |r=>r
noncomputable def sNx:MS:=fun s=> .nx s
noncomputable def z2H(m:M D):MS:=z0y m fun _=>sNx
noncomputable def u0(m:M D):MS:=z0y m fun d s=> .rt d s
noncomputable def zeB(b:Bool)(m m':MS):MS:=match b with|true=>m|false=>m'
noncomputable def sIf(c:M Bool)(m m':MS):MS:=z0y c fun b=>zeB b m m'
inductive Tg where
 |nm (i:Nat)|tp (ts:List Tg)
mutual
noncomputable def asg:Tg->D->List (Option D)->Option (List (Option D))
 | .nm i,t,σ=>some (σ.set i (some t))
 | .tp ts, .tup ds,σ=>asgL ts ds σ
 | .tp ts, .lst _ ds,σ=>asgL ts ds σ
 | .tp _,_,_=>none
noncomputable def asgL:List Tg->List D->List (Option D)->Option (List (Option D))
 |[],[],σ=>some σ
 |t::ts,d::ds,σ=>match asg t d σ with|some σ'=>asgL ts ds σ'|none=>none
 |_,_,_=>none
end
noncomputable def G5(g:Tg)(m:M D):MS:=z0y m fun d s=>match asg g d s.σ with
 |some σ'=> .nx {s with σ:=σ'}
 |none=> .no
section
variable{X:Cx}{G:Gx}{F:Fy}{e a b c:Expr}{st:Stmt}{sts rest:List Stmt}{pos:Pos}
noncomputable def wS(G:Gx)(F:Fy)(tv:List (Option V))(r:RS)(D:z3J):Prop:=match r with
 | .nx s'=> ∀ρ' σv' H',MR G F.toFx ρ' H' σv' tv s'->D.nx σv' H'
 | .rt t s'=> ∀ρ' σv' v H',MRL G F.toFx ρ' H' σv' tv s' [t] [v]->D.rt v H'
 | .bk s'=> ∀ρ' σv' H',MR G F.toFx ρ' H' σv' tv s'->D.bk σv' H'
 | .ct s'=> ∀ρ' σv' H',MR G F.toFx ρ' H' σv' tv s'->D.ct σv' H'
 | .ex d s'=>F.xw d s'
 | .no=>False
noncomputable def tSv(G:Gx)(F:Fy)(m:MS)(tv:List (Option V))(D:z3J)(σv:St)(H:Hp):Prop:=F.tv0<:+tv/\∃ρ s,MR G F.toFx ρ H σv tv s/\wS G F tv (m s) D
noncomputable def tS(G:Gx)(F:Fy)(m:MS):TS:=fun D σv H=> ∃tv,tSv G F m tv D σv H
noncomputable def SS(X:Cx)(G:Gx)(F:Fy)(st:Stmt)(m:MS):Prop:=PS X st (tS G F m)
noncomputable def SSs(X:Cx)(G:Gx)(F:Fy)(sts:List Stmt)(m:MS):Prop:=PSs X sts (tS G F m)
theorem PS.imp0{t t':TS}(h:PS X st t)(hi: ∀D σ H,t' D σ H->t D σ H):PS X st t':=fun pins s σ H D I q=>h pins s σ H D I (hi D σ H q)
theorem PSs.imp0{t t':TS}(h:PSs X sts t)(hi: ∀D σ H,t' D σ H->t D σ H):PSs X sts t':=fun pins s σ H D I q=>h pins s σ H D I (hi D σ H q)
theorem ss_nil:SSs X G F [] sNx:=PSs.imp0 zba fun D σ H ⟨tv,hs,ρ,s,M,W⟩=>W ρ σ H M
theorem ss_cons{m m':MS}(h1:SS X G F st m)(h2:SSs X G F rest m'):SSs X G F (st::rest) (W3 m m'):=by
 refine PSs.imp0 (z8L h1 h2) fun D σ H ⟨tv,hs,ρ,s,M,W⟩=>⟨tv,hs,ρ,s,M, ?_⟩
 unfold W3 at W
 cases e:m s with
 |nx s'=>rw[e] at W;exact fun ρ' σv' H' M'=>⟨tv,hs,ρ',s',M',W⟩
 |rt d s'=>rw[e] at W;exact W
 |bk s'=>rw[e] at W;exact W
 |ct s'=>rw[e] at W;exact W
 |ex d s'=>rw[e] at W;exact W
 |no=>rw[e] at W;exact W
theorem ss_one{m:MS}(h1:SS X G F st m):SSs X G F [st] m:=zbb h1
theorem z0i{m:M D}{f:D->MS}{tv:List (Option V)}{D:z3J}{σ:St}{H:Hp}(h:tSv G F (z0y m f) tv D σ H):tMv G F m σ tv H fun v H1=> ∃ρ1 s1 t,MRL G F.toFx ρ1 H1 σ tv s1 [t] [v]/\wS G F tv (f t s1) D:=by
 obtain⟨hs,ρ,s,M,W⟩:=h
 refine⟨hs,ρ,s,M, ?_⟩
 unfold z0y at W
 cases e:m s with
 |ok t s1=>rw[e] at W;exact fun ρ1 v H1 M1=>⟨ρ1,s1,t,M1,W⟩
 |ex d s1=>rw[e] at W;exact W
 |no=>rw[e] at W;exact W
theorem z7z{m:M Bool}{f:Bool->MS}{tv:List (Option V)}{D:z3J}{σ:St}{H:Hp}(h:tSv G F (z0y m f) tv D σ H):tBv G F m σ tv H fun b H1=> ∃ρ1 s1,MR G F.toFx ρ1 H1 σ tv s1/\wS G F tv (f b s1) D:=by
 obtain⟨hs,ρ,s,M,W⟩:=h
 refine⟨hs,ρ,s,M, ?_⟩
 unfold z0y at W
 cases e:m s with
 |ok t s1=>rw[e] at W;exact fun ρ1 H1 M1=>⟨ρ1,s1,M1,W⟩
 |ex d s1=>rw[e] at W;exact W
 |no=>rw[e] at W;exact W
theorem ss_expr{m:M D}(he:SE X G F e m)(hs:swapsWith e none pos.line X.env=pure false:=by rfl):SS X G F (.Expr e pos) (z2H m):=
 PS.imp0 (zbc he hs) fun D σ H ⟨tv,h⟩=>⟨tv,(z0i h).mono fun v H1 ⟨ρ1,s1,t,M1,W⟩=>W ρ1 σ H1 M1.m⟩
theorem ss_ret{m:M D}(he:SE X G F e m):SS X G F (.Return (some e) pos) (u0 m):=
 PS.imp0 (zdt he) fun D σ H ⟨tv,h⟩=>⟨tv,(z0i h).mono fun v H1 ⟨ρ1,s1,t,M1,W⟩=>W ρ1 σ v H1 M1⟩
theorem ss_if{x y:List Stmt}{mc:M Bool}{m m':MS}(hc:SB X G F c mc)(ha:SSs X G F x m)(hb:SSs X G F y m'):SS X G F (.If c x y pos) (sIf mc m m'):=by
 refine PS.imp0 (zgw hc ha hb) fun D σ H ⟨tv,h⟩=>⟨tv,(z7z h).mono fun k H1 ⟨ρ1,s1,M1,W⟩=> ?_⟩
 cases k with
 |true=>rw[if_pos rfl];exact⟨tv,h.1,ρ1,s1,M1,W⟩
 |false=>rw[if_neg i6];exact⟨tv,h.1,ρ1,s1,M1,W⟩
noncomputable def tGn(G:Gx)(F:Fy)(g:Tg):TG:=fun v σv H Q=> ∃tv ρ s t,MRL G F.toFx ρ H σv tv s [t] [v]/\∃σ',asg g t s.σ=some σ'/\∀σv',MR G F.toFx ρ H σv' tv {s with σ:=σ'}->Q σv' H
noncomputable def tGs(G:Gx)(F:Fy)(g:List Tg):TGs:=fun vs σv H Q=> ∃tv ρ s ts,MRL G F.toFx ρ H σv tv s ts vs/\∃σ',asgL g ts s.σ=some σ'/\∀σv',MR G F.toFx ρ H σv' tv {s with σ:=σ'}->Q σv' H
noncomputable def SG(X:Cx)(G:Gx)(F:Fy)(tg:Expr)(g:Tg):Prop:=PG X tg (tGn G F g)
noncomputable def SGs(X:Cx)(G:Gx)(F:Fy)(tgs:List Expr)(g:List Tg):Prop:=PGs X tgs (tGs G F g)
theorem MRL.setS{ρ:Nat->Addr}{H:Hp}{σv tv:List (Option V)}{s:Stt}{t:D}{v:V}{ts:List D}{vs:List V}(i:Nat)(M:MRL G F.toFx ρ H σv tv s (t::ts) (v::vs)):MRL G F.toFx ρ H (σv.set i (some v)) tv {s with σ:=s.σ.set i (some t)} ts vs:=by
 have h:=M.rd
 erw[RDs] at h
 obtain⟨_,_,e,h1,h2⟩:=h
 cases e
 have lb1: ∀l∈y4 t,l<s.n/\(F.A0 (ρ l)\/F.H0 (ρ l)=none):=fun l h=>M.lb l (by erw[labsL];exact b8 _ h)
 have all: ∀l∈Q7 {s with σ:=s.σ.set i (some t)},l<s.n/\(F.A0 (ρ l)\/F.H0 (ρ l)=none):=fun l h=>by
  rcases c8.mp h with h|h
  ·rcases z26 l h with q|q
   ·exact⟨M.m.lab l (b8 _ q),M.m.own l (b8 _ q)⟩
   ·exact lb1 l q
  ·exact⟨M.m.lab l (b6 _ h),M.m.own l (b6 _ h)⟩
 exact⟨⟨M.m.sl.set i h1,M.m.tm,M.m.inj,M.m.dom,fun l h=>(all l h).1,fun l h=>(all l h).2,M.m.frm,M.m.kd,M.m.frb,M.m.bas⟩,h2,fun l h=>M.lb l (by erw[labsL];exact b6 _ h)⟩
theorem sg_name{i:Nat}{x:Str}{p:Pos}(h:PG X (.Name x p) (z0o i)):SG X G F (.Name x p) (.nm i):=by
 intro pins s σ H v u Q I r ⟨tv,ρ,ms,t,M,σ',e,k⟩
 erw[asg,Option.some.injEq] at e
 subst e
 exact h pins s σ H v u Q I r (k _ (M.setS i).m)
theorem sgs_nil:SGs X G F [] []:=by
 intro pins s σ H vs us Q I r ⟨tv,ρ,ms,ts,M,σ',e,k⟩
 cases ts with
 |nil=>
  erw[asgL,Option.some.injEq] at e
  subst e
  have h:=M.rd
  erw[RDs] at h
  exact z6T pins s σ H vs us Q I r ⟨h,k _ M.m⟩
 |cons d ds=>erw[asgL] at e;cases e
theorem MRL.cons_inv{ρ:Nat->Addr}{H:Hp}{σv tv:List (Option V)}{s:Stt}{t:D}{ts:List D}{vs:List V}(M:MRL G F.toFx ρ H σv tv s (t::ts) vs): ∃v r,vs=v::r/\MRL G F.toFx ρ H σv tv s [t] [v]/\RDs G ρ H ts r/\LB F.toFx ρ s.n (labsL ts):=by
 have h:=M.rd
 erw[RDs] at h
 obtain⟨v,r,rfl,h1,h2⟩:=h
 exact⟨v,r,rfl,⟨M.m,RDs.one h1,fun l h=>M.lb l (by erw[labsL,c9] at h⊢;exact b8 _ h)⟩,h2,fun l h=>M.lb l (by erw[labsL];exact b6 _ h)⟩
theorem PGs.imp0{es:List Expr}{t t':TGs}(h:PGs X es t)(hi: ∀vs σ H Q,t' vs σ H Q->t vs σ H Q):PGs X es t':=fun pins s σ H vs us Q I r q=>h pins s σ H vs us Q I r (hi vs σ H Q q)
theorem PG.imp0{t t':TG}(h:PG X e t)(hi: ∀v σ H Q,t' v σ H Q->t v σ H Q):PG X e t':=fun pins s σ H v u Q I r q=>h pins s σ H v u Q I r (hi v σ H Q q)
theorem sgs_cons{es:List Expr}{g:Tg}{gs:List Tg}(h1:SG X G F e g)(h2:SGs X G F es gs)(hs:(assignEach (e::es) X.env).map (·.2)=assign e X.env::(assignEach es X.env).map (·.2):=by rfl):SGs X G F (e::es) (g::gs):=by
 refine PGs.imp0 (z36 h1 h2 hs) fun vs σv H Q ⟨tv,ρ,s,ts,M,σ',e,k⟩=> ?_
 cases ts with
 |nil=>erw[asgL] at e;cases e
 |cons d ds=>
  erw[asgL] at e
  cases e1:asg g d s.σ with
  |none=>rw[e1] at e;cases e
  |some σ1=>
   rw[e1] at e
   obtain⟨v,r,rfl,M1,h2,lb⟩:=M.cons_inv
   exact⟨v,r,rfl,tv,ρ,s,d,M1,σ1,e1,fun σv1 M2=>⟨tv,ρ,{s with σ:=σ1},ds,⟨M2,h2,lb⟩,σ',e,k⟩⟩
theorem sg_tup{es:List Expr}{k:Nat}{gs:List Tg}(hk:X.K=G.K)(hc:X.calm=true)(h:SGs X G F es gs)(hn:(assignEach es X.env).length=gs.length:=by rfl)(hst:(assignEach es X.env).findIdx? (·.1)=none:=by rfl):SG X G F (.Tuple es k pos) (.tp gs):=by
 refine PG.imp0 (zec hc h hn hst) fun v σv H Q ⟨tv,ρ,s,t,M,σ',e,kk⟩=> ?_
 have len: ∀{gs:List Tg} {ds:List D} {σ σ':List (Option D)},asgL gs ds σ=some σ'->ds.length=gs.length:=by
  intro gs
  induction gs with
  |nil=>intro ds σ σ' e;cases ds with
   |nil=>rfl
   |cons _ _=>erw[asgL] at e;cases e
  |cons g gs ih=>intro ds σ σ' e;cases ds with
   |nil=>erw[asgL] at e;cases e
   |cons d ds=>
    erw[asgL] at e
    cases e1:asg g d σ with
    |none=>rw[e1] at e;cases e
    |some σ1=>rw[e1] at e;rw[i5,i5,ih e]
 cases t with
 |tup ds=>
  erw[asg] at e
  obtain⟨a,xs,rfl,sq,r⟩:=M.rd1.tupq
  refine⟨a,xs,rfl, .inl (hk▸sq),by rw[<-r.length];exact len e,tv,ρ,s,ds,⟨M.m,r,fun l h=>M.lb1 l (by erw[y4];exact h)⟩,σ',e,kk⟩
 |lst l ds=>
  erw[asg] at e
  obtain⟨a,xs,rfl,sq,r,sub⟩:=M.rd1.lstq (ds:=ds) rfl
  refine⟨a,xs,rfl, .inr (hk▸sq),by rw[<-r.length];exact len e,tv,ρ,s,ds,⟨M.m,r,fun l h=>M.lb1 l (sub l h)⟩,σ',e,kk⟩
 |_=>erw[asg] at e;cases e
theorem ss_asg{tg:Expr}{g:Tg}{m:M D}(he:SE X G F e m)(hg:SG X G F tg g)(hs:swapsWithSole [tg] e pos.line X.env=pure false:=by rfl)(hw:swappedStores [tg] e X.env=pure none:=by rfl)
 (h1:(assignEach [tg] X.env).map (·.2)=[assign tg X.env]:=by rfl):SS X G F (.Assign [tg] e pos) (G5 g m):=by
 refine PS.imp0 (zag he hg hs hw h1) fun D σ H ⟨tv,h⟩=>⟨tv,(z0i h).mono fun v H1 ⟨ρ1,s1,t,M1,W⟩=> ?_⟩
 cases e:asg g t s1.σ with
 |none=>erw[e] at W;exact False.elim W
 |some σ'=>
  erw[e] at W
  exact⟨tv,ρ1,s1,t,M1,σ',e,fun σv' M2=>W ρ1 σv' H1 M2⟩
theorem ss_set{i:Nat}{x:Str}{p:Pos}{m:M D}(h: ∀{te:TE},PE X e te->PS X (.Assign [.Name x p] e pos) (zgh te (z0o i)))(he:SE X G F e m):SS X G F (.Assign [.Name x p] e pos) (G5 (.nm i) m):=by
 refine PS.imp0 (h he) fun D σ H ⟨tv,h⟩=>⟨tv,(z0i h).mono fun v H1 ⟨ρ1,s1,t,M1,W⟩=> ?_⟩
 erw[asg] at W
 exact W ρ1 _ H1 (M1.setS i).m
end
end Mi
namespace L2
open PySem PySem.Spec PyProof.Rows
noncomputable abbrev z7A(ifs:List Expr)(env:Env):Sem Bool:=forIn ifs true fun c r=>if r=true then do let ok<-isTrue c env (eval c env);pure (ForInStep.yield ok) else pure (ForInStep.yield r)
theorem z0p{prog:Program}{w:World}{A:Around}{R:Result->Shared->Prop}{s:Shared}{elt target iter:Expr}{ifs:List Expr}{scope:Scope}{pos:Pos}{it acc:Value}{env:Env}(I:Nat->Shared->Prop)
 (turn: ∀n s,I n s->wpAny (model prog w) A (pyNext it) (fun r s₁=>match r with
  |none=>R (.ok .next) s₁
  |some v=>wpAny (model prog w) A (letOwnedTupleGo target it v) (fun _ s₁=>wpAny (model prog w) A (assign target env v) (fun _ s₂=>wpAny (model prog w) A (z7A ifs env) (fun ok s₃=>
   if ok=true then wpAny (model prog w) A (eval elt env) (fun x s₃=>
   wpAny (model prog w) A (call (.builtin "list.append") [acc,x]) (fun _ s₄=> ∃m,m<n/\I m s₄) (fun _ _=>False) s₃)
   (fun _ _=>False) s₃ else ∃m,m<n/\I m s₃) (fun _ _=>False) s₂) (fun _ _=>False) s₁) (fun _ _=>False) s₁) (fun _ _=>False) s)
 (n:Nat) (h:I n s):
 codeAny (model prog w) A (.compLoop (.ListComp elt [⟨target,iter,ifs,0⟩] scope pos) 0 it acc env) R s:=by
 refine codeAny_loop rfl I (fun n s hI=> ?_) n h
 show wpAny _ _ ((compTurn (.ListComp elt [⟨target,iter,ifs,0⟩] scope pos) 0 it acc env).onRaise (fun x=>do noteFrame x env;theTreesLotGoes x)) _ _ s
 refine wpAny_noted ?_
 rw[compTurn_list]
 refine wpAny_bind (wpAny_standAt (wpAny_bind (wpAny_mono (turn n s hI) (fun r s₁ h₁=> ?_) fun _ _ h'=>h'.elim)))
 cases r with
 |none=>exact wpAny_pure h₁
 |some v=>
  refine wpAny_bind (wpAny_mono h₁ (fun _ s₁ h₁=> ?_) fun _ _ h'=>h'.elim)
  refine wpAny_bind (wpAny_mono h₁ (fun _ s₂ h₂=>wpAny_bind (wpAny_mono h₂ (fun ok s₃ h₃=> ?_) fun _ _ h'=>h'.elim)) fun _ _ h'=>h'.elim)
  cases ok with
  |false=>exact wpAny_pure ⟨rfl,h₃⟩
  |true=>
   exact wpAny_bind (wpAny_bind (wpAny_mono h₃ (fun x s₄ h₄=>wpAny_bind (wpAny_mono h₄ (fun _ s₅ h₅=>wpAny_pure (wpAny_pure ⟨rfl,h₅⟩)) fun _ _ h'=>h'.elim)) fun _ _ h'=>h'.elim))
noncomputable def PTs(X:Cx)(ifs:List Expr)(t:TT):Prop:=
 ∀(pins:List (Addr×Obj)) (s:Shared) (σ:St) (H:Hp) (Q:Bool->Hp->Prop),Inv X pins σ H s->t σ H Q->wpAny (model X.prog X.w) X.A (z7A ifs X.env) (TP X pins σ Q) X.xe s
theorem z4I{X:Cx}:PTs X [] (fun _ H Q=>Q true H):=fun pins s σ H Q I h=>wpAny_tests_nil ⟨H,I,h⟩
section
variable{X:Cx}{tg iter elt:Expr}{ifs:List Expr}{pos:Pos}{scope:Scope}{own frees:List Str}{ix:List Nat}{wi:TI}{g:TG}{tt:TT}{te:TE}
noncomputable def zaw(K:W.Frag)(wi:TI)(g:TG)(tt:TT)(te:TE)(k:Nat)(ix:List Nat):TE:=fun σ H Q=>wi σ H fun J H1=> ∀D,H1 D=none->(∀a o,K.lookup a=some o->upd H1 D (.lst []) a=none)->
 ∃W:Nat->Nat->List V->St->Hp->Prop,(∃m,W 0 m [] (z01 k ix σ) (upd H1 D (.lst [])))/\
  ∀i m ys σ' H',W i m ys σ' H'->H' D=some (.lst ys)/\((J.stop i H'/\Q (.ref D) H')\/
   (J.go i H'/\∀x H2,J.yld i H' x H2->g x σ' H2 fun σ2 H3=>tt σ2 H3 fun ok H3=>if ok=true then te σ2 H3 fun y H4=>H4 D=some (.lst ys)/\ys.length<sizeLine/\∃m',m'<m/\W (i+1) m' (ys++[y]) σ2 (upd H4 D (.lst (ys++[y])))
    else ∃m',m'<m/\W (i+1) m' ys σ2 H3))
theorem z29(hc:X.calm=true)(S:j5 X.env.scope scope own frees X.N ix)(hi:PI X tg iter wi)
 (hg: ∀cl C s₀ H₀ fp pn,PG (Q6 X scope own frees cl C s₀ H₀ fp pn) tg g) (ht: ∀cl C s₀ H₀ fp pn,PTs (Q6 X scope own frees cl C s₀ H₀ fp pn) ifs tt) (he: ∀cl C s₀ H₀ fp pn,PE (Q6 X scope own frees cl C s₀ H₀ fp pn) elt te)
 (hs: ∀x,foldedSetIterable iter X.env x=pure x:=by intro _;rfl):
 PE X (.ListComp elt [⟨tg,iter,ifs,0⟩] scope pos) (zaw X.K wi g tt te own.length ix):=by
 intro pins s σ H Q I h
 have hclos:closureFor scope X.env=pure (z0I X.env scope.names []):=z3d fun y hy e=>I.ok.has y.1 (S.fr y hy e)
 rw[eval_ListComp]
 refine wpAny_comprehension_free (use:=none) rfl hs hclos S.kind S.names (thn (hi pins s σ H _ I h) fun v s1 h1=>thn h1 fun itv s2 h2=> ?_)
 obtain⟨it,fp,tn,J,H2,e,I2,T,st2,f2,hD⟩:=h2
 subst e
 refine wpAny_newObj_type ?_
 have I3:Inv X pins σ (upd H2 s2.heap.objs.size (.lst [])) {s2 with heap:=s2.heap.push {cls:= .type "list",data:= .seq ([]:List Value).toArray}}:=I2.lnew (t':=s2.toks) .nil (B9 _)
 have nD:H2 s2.heap.objs.size=none:=I2.fresh
 obtain⟨W,⟨m0,w0⟩,turn⟩:=hD _ nD fun a o e=>(I3.bs a o (I3.ok.mod.kin a o e)).2
 have fpl: ∀b∈fp,b<s2.heap.objs.size:=fun b z=>by
  obtain⟨o,q,_⟩:=T.obj _ _ st2 b z
  exact Heap.lt_size q
 generalize hs3:({s2 with heap:=s2.heap.push {cls:= .type "list",data:= .seq ([]:List Value).toArray}}:Shared)=s3 at I3
 have hpush: ∀b o,s2.heap.get? b=some o->s3.heap.get? b=some o:=fun b o q=>by rw[<-hs3];exact Heap.get?_push_of_some _ q
 have hsz3:s2.heap.objs.size<s3.heap.objs.size:=by rw[<-hs3];show _<(s2.heap.push _).objs.size;rw[Heap.size_push];exact t7 _
 have f3: ∀b∈fp,z6F X pins (upd H2 s2.heap.objs.size (.lst [])) b:=fun b z=>⟨by rw[y6 (l0 (fpl b z))];exact(f2 b z).1,(f2 b z).2⟩
 have st3:tn 0 s3.heap:=T.keep _ _ _ st2 fun b _ o q=>hpush b o q
 generalize hDd:s2.heap.objs.size=D at*
 generalize hH3:upd H2 D (.lst [])=H3 at*
 have goal:wpAny (model X.prog X.w) X.A (newFunctionEnv scope X.env.globals (z0I X.env scope.names []) [] X.env.qual none .none (some X.env)) (fun cenv s₄=>
  codeAny (model X.prog X.w) X.A (.compStart (.ListComp elt [⟨tg,iter,ifs,0⟩] scope pos) 0 (.ref it) (.ref D) {cenv with scope:=relabel scope X.env}) (compPost (model X.prog X.w) X.A X.xe none (EP X pins σ Q) (.ref D) cenv.locals) s₄) X.xe s3:=by
  refine wpAny_newFunctionEnv S.nocell (by intro y hy;simp at hy) (fun h1 hns hsb=> ?_) S.kind
  have hns:h1.Ns s3.heap.objs.size (fun _=>none):=hns
  have keep4: ∀b o,s3.heap.get? b=some o->h1.get? b=some o:=fun b o q=>hsb.extBut b o (l0 (Heap.lt_size q)) (Heap.get?_push_of_some _ q)
  have fpl3: ∀b∈fp,b<s3.heap.objs.size:=fun b z=>P2 (fpl b z) hsz3
  generalize hs4:({s3 with heap:=h1,toks:=s3.toks+([]:List (Str×Value)).length}:Shared)=s4
  have I4:Inv (Q6 X scope own frees (z0I X.env scope.names []) s3.heap.objs.size s3 H3 fp (X.pn++pins)) [] (z01 own.length ix σ) H3 s4:=
   z6f S I3 f3 fpl3 (by rw[<-hs4]) (by rw[<-hs4]) (fun b o q=>by rw[<-hs4];exact keep4 b o q) (by rw[<-hs4];exact hns)
  have st4:tn 0 s4.heap:=T.keep _ _ _ st3 fun b _ o q=>by rw[<-hs4];exact keep4 b o q
  generalize hXc:Q6 X scope own frees (z0I X.env scope.names []) s3.heap.objs.size s3 H3 fp (X.pn++pins)=Y at I4
  have eP:Y.prog=X.prog:=by rw[<-hXc];rfl
  have eW:Y.w=X.w:=by rw[<-hXc];rfl
  have eK:Y.K=X.K:=by rw[<-hXc];rfl
  have eA:Y.A=X.A:=by rw[<-hXc];rfl
  have eC:Y.calm=true:=by rw[<-hXc];exact hc
  have eE:Y.env=compEnvC scope (z0I X.env scope.names []) s3.heap.objs.size X.env:=by rw[<-hXc];rfl
  have eX:Y.xe=fun _ _=>False:=by rw[<-hXc];rfl
  have eF: ∀{H':Hp},(∀b∈fp,H' b=none)->∀b∈fp,z6F Y [] H' b:=fun{H'} hn b hb=>by
   rw[<-hXc]
   obtain⟨g1,g2,g3,g4,g5,g6⟩:=f3 b hb
   refine⟨hn b hb,l0 (fpl3 b hb),fun q=> ?_, .inl hb,fun x c e=> ?_,fun p hp=> ?_⟩
   ·rcases e7.mp (I3.stkSub b q) with r|r
    ·exact g2 r
    ·exact g3 r
   ·rcases z3e _ _ e with q|q
    ·exact nomatch q
    ·exact g5 x c q.1
   ·have hp:p∈(X.pn++pins)++[]:=hp
    rw[c9] at hp
    exact g6 p hp
  have gY:PG Y tg g:=by rw[<-hXc];exact hg _ _ _ _ _ _
  have tY:PE Y elt te:=by rw[<-hXc];exact he _ _ _ _ _ _
  have sY:PTs Y ifs tt:=by rw[<-hXc];exact ht _ _ _ _ _ _
  have loop:codeAny (model X.prog X.w) X.A (.compLoop (.ListComp elt [⟨tg,iter,ifs,0⟩] scope pos) 0 (.ref it) (.ref D) (compEnvC scope (z0I X.env scope.names []) s3.heap.objs.size X.env))
   (compPost (model X.prog X.w) X.A X.xe none (EP X pins σ Q) (.ref D) s3.heap.objs.size) s4:=by
   refine z0p (fun n s'=> ∃i ys σ' H',Inv Y [] σ' H' s'/\tn i s'.heap/\(∀b∈fp,H' b=none)/\W i n ys σ' H') ?_ m0 ⟨0,[],_,_,I4,st4,fun b hb=>(f3 b hb).1,w0⟩
   rintro n s5 ⟨i,ys,σ5,H5,I5,st5,fr5,w5⟩
   obtain⟨hD5,alt⟩:=turn i n ys σ5 H5 w5
   rcases alt with⟨stop,qn⟩|⟨go,step⟩
   ·have d:=T.done Y eP eW eK eC i [] s5 σ5 H5 (fun _ _=>False) I5 (eF fr5) st5 stop
    rw[eA] at d
    refine thn d fun r s6 ⟨hr,I6⟩=> ?_
    subst hr
    subst hXc
    obtain⟨m6,n6,_⟩:=I6.loc
    exact⟨m6,n6,fun h'' hs''=>⟨.ref D,H5,z9b I3 f3 (e8 _) I6 hs'',rfl,qn⟩⟩
   ·have d:=T.item Y eP eW eK eC i [] s5 σ5 H5 (fun _ _=>False) I5 (eF fr5) st5 go
    rw[eA] at d
    refine thn d fun r s6 ⟨u,hr,h6⟩=> ?_
    subst hr
    refine thn h6 fun _ s7 ⟨x,H7,I7,r7,y7,st7,fr7⟩=> ?_
    have I7':=I7.pinned (eF fr7) (T.obj _ _ st7)
    have e1:=gY _ s7 σ5 H7 x u _ I7' r7 (step x H7 y7)
    rw[eP,eW,eA,eE,eX] at e1
    refine thn e1 fun _ s8 ⟨σ8,H8,I8,q8⟩=> ?_
    have e1':=sY _ s8 σ8 H8 _ I8 q8
    rw[eP,eW,eA,eE,eX] at e1'
    refine thn e1' fun ok s8 ⟨H8,I8,q8⟩=> ?_
    cases ok with
    |false=>
     rw[if_neg i6] at q8⊢
     obtain⟨m',hm',w9⟩:=q8
     refine⟨m',hm',i+1,_,σ8,_,I8.unpinned,T.keep _ _ _ st7 fun b hb o e=> ?_,fun b hb=> ?_,w9⟩
     ·exact(I8.pin (b,o) (b6 _ (b6 _ (G9 hb e)))).1
     ·obtain⟨o,e,d⟩:=T.obj _ _ st7 b hb
      exact(I8.pin (b,o) (b6 _ (b6 _ (G9 hb e)))).2.1
    |true=>
    rw[if_pos rfl] at q8⊢
    have e2:=tY _ s8 σ8 H8 _ I8 q8
    rw[eP,eW,eA,eE,eX] at e2
    refine thn e2 fun yv s9 ⟨y,H9,I9,r9,hD9,hz9,m',hm',w9⟩=> ?_
    have e3:=z3S (X:=Y) _ s9 σ8 H9 (.ref D) [y] (.ref D) [yv] (fun v H'=>v= .non/\H'=upd H9 D (.lst (ys++[y]))) I9 rfl (.cons r9 .nil) ⟨D,ys,y,rfl,rfl,hD9,hz9,rfl,rfl⟩
    rw[eP,eW,eA,eX] at e3
    refine thn e3 fun _ s10 ⟨v10,H10,I10,r10,_,e10⟩=> ?_
    subst e10
    refine⟨m',hm',i+1,_,σ8,_,I10.unpinned,T.keep _ _ _ st7 fun b hb o e=> ?_,fun b hb=> ?_,w9⟩
    ·exact(I10.pin (b,o) (b6 _ (b6 _ (G9 hb e)))).1
    ·obtain⟨o,e,d⟩:=T.obj _ _ st7 b hb
     exact(I10.pin (b,o) (b6 _ (b6 _ (G9 hb e)))).2.1
  exact codeAny_compStart_list loop (T.self _ 0 _ _ _ st4 loop)
 exact goal
end
structure zd4(osc sc:Scope)(own frees N:List Str)(ix:List Nat):Prop where
 kind:sc.kind= .function
 names: ∀y∈sc.names,y.2= .local->sc.names.lookup y.1=some .local
 fr: ∀y∈sc.names,y.2= .free->osc.names.lookup y.1=some .cell\/osc.names.lookup y.1=some .free
 nd:(own++frees).Nodup
 frl: ∀x∈frees,sc.names.lookup x=some .free
 ixs:ix.map (fun i=>N[i]?)=frees.map some
 frc: ∀y∈sc.names,y.2= .cell->y.1∉frees
 owf: ∀y∈sc.names,y.2= .free->y.1∉own
theorem Inv.turnedL{X:Cx}{pins:List (Addr×Obj)}{σ:List (Option V)}{H:Hp}{s:Shared}{h':Heap}{t':Nat}{fp:List Addr}(I:Inv X pins σ H s)(k: ∀b o,b∉fp->s.heap.get? b=some o->h'.get? b=some o)(hf: ∀b∈fp,z6F X pins H b):Inv X pins σ H {s with heap:=h',toks:=t'}:=by
 have nit: ∀b u,H b=some u->b∉fp:=fun b u e z=>by rw[(hf b z).1] at e;cases e
 refine I.step (g':=s.gens) (d':=s.drawn) (ch:=fp) (fun b hb=> ?_) (fun b o _ _ hc e _=>k b o hc e) (fun b o _ _ hc e _=>⟨o.slots,k b o hc e⟩) (fun _ _ _ _ n=>n)
  (fun b o hc e=>⟨o,k b o hc e⟩) (fun _ _ e=>e) (fun _ _ _ e=>e) (fun b ps e=>⟨#[],by rw[e];simp⟩) (fun m hm=> ?_) (fun b u e=> ?_) I.bare
 ·obtain⟨f0,f1,f2,f3,f4,f5⟩:=hf b hb
  exact⟨f3,f1,f4,f5⟩
 ·obtain⟨o,es,ep,ho,r⟩:=hm
  exact⟨o,es,ep,k _ o (fun z=>(hf _ z).2.1 rfl) ho,r⟩
 ·refine(I.hok b u e).stay (fun c v hc q=>k c v ?_ q) (fun _ q=>q) fun _ _ q=>q
  rcases hc with z|z
  ·rw[z];exact nit b u e
  ·exact nit c _ z
section
variable{X:Cx}{a b:Expr}{rest:List Expr}{pos:Pos}{ta tb:TE}
noncomputable def zh9(K:W.Frag)(xs:List V)(H:Hp)(Q:VK):Prop:= ∃p d,xs=[.ref p]/\Dp K H d (.ref p)/\d.hasDict=false/\d.showable=true/\d.depth<=60/\d.shown.length<=sizeLine/\Q (.str d.shown) H
theorem z6l(hg:X.A.guards=some [])(hu:X.A.units+64<cLine):CallR X (.builtin "repr") (zh9 X.K):=by
 intro pins s σ H xs us Q I r h
 obtain⟨p,d,rfl,hd,h1,h2,h3,h4,q⟩:=h
 obtain⟨u,rfl,r1⟩:=z4z r
 cases r1
 obtain⟨as,ra⟩:=hd.reads I _ _ _ rfl
 exact repr_of_reads' ra h2 (fun e=>by rw[h1] at e;cases e) hg (by lia) (fun _ _ h=>h) (fun h' u tk k=>⟨.str d.shown,H,I.kept k,⟨_,rfl⟩,q⟩) h4
end
section
variable{X:Cx}{tg:Expr}
noncomputable def Rg3(i j c:Int):Prop:=c≠0/\c.natAbs<1073741824/\Builtin.Range.small i j c=true/\0<=Builtin.Range.rangeSize i j c
instance(i j c:Int):Decidable (Rg3 i j c):=by unfold Rg3;infer_instance
end
end L2
namespace Mi
open PySem L2
structure ItK where
 k:Nat
 at':Nat->List (Option D)->Option (Option D)
 len:List (Option D)->Nat
noncomputable def zeC(i:Nat):List (Option D)->Option (Option D)
 |some c::_=>(zcZ c).map fun ds=>ds[i]?
 |_=>none
noncomputable def z9l(i:Nat):List (Option D)->Option (Option D)
 |some (.tup ds)::_=>some ds[i]?
 |_=>none
noncomputable def z7B:List (Option D)->Nat
 |some (.tup ds)::_=>ds.length
 |some (.lst _ ds)::_=>ds.length
 |some (.ro ds)::_=>ds.length
 |_=>0
noncomputable def z6J:ItK:=⟨1,zeC,z7B⟩
noncomputable def zax:ItK:=⟨1,z9l,z7B⟩
noncomputable def z7C(lo:Int)(n:Nat):ItK:=⟨0,fun i _=>some (if i<n then some (.int (lo+i)) else none),fun _=>n⟩
noncomputable def Stt.popn(s:Stt)(k:Nat):Stt:={s with tm:=s.tm.drop k}
section
variable{X:Cx}{G:Gx}{F:Fy}{e a b c tg iter:Expr}{pos:Pos}
theorem MR.popn{F:Fx}{ρ:Nat->Addr}{H:Hp}{σv tvs tv:List (Option V)}{s:Stt}(M:MR G F ρ H σv (tvs++tv) s):MR G F ρ H σv tv (s.popn tvs.length):=by
 have sub: ∀l∈Q7 (s.popn tvs.length),l∈Q7 s:=fun l h=>by
  rcases c8.mp h with h|h
  ·exact b8 _ h
  ·refine b6 _ ?_
   have e:=Z7 (s.tm.take tvs.length) (s.tm.drop tvs.length)
   rw[B3] at e
   rw[e]
   exact b6 _ h
 exact⟨M.sl,(Sl.split tvs M.tm).2,M.inj,M.dom,fun l h=>M.lab l (sub l h),fun l h=>M.own l (sub l h),M.frm,M.kd,M.frb,M.bas⟩
noncomputable def zeD(G:Gx)(J:It)(K:ItK)(tvs:List (Option V)):Prop:= ∀(F:Fx) ρ H σv tvp tv s i,MR G F ρ H σv (tvp++(tvs++tv)) s->match K.at' i (s.tm.drop tvp.length) with
 |none=>True
 |some none=>J.stop i H
 |some (some d)=>J.go i H/\∀x H',J.yld i H x H'->MRL G F ρ H' σv (tvp++(tvs++tv)) s [d] [x]
noncomputable def tI(G:Gx)(F:Fy)(m:M ItK):TI:=fun σv H R=> ∃tv,F.tv0<:+tv/\∃ρ s,MR G F.toFx ρ H σv tv s/\match m s with
 | .ok K s'=> ∀ρ' H' tvs J,tvs.length=K.k->MR G F.toFx ρ' H' σv (tvs++tv) s'->zeD G J K tvs->R J H'
 | .ex d s'=>F.xw d s'
 | .no=>False
noncomputable def SI(X:Cx)(G:Gx)(F:Fy)(tg iter:Expr)(m:M ItK):Prop:=PI X tg iter (tI G F m)
theorem PI.imp0{w w':TI}(h:PI X tg iter w)(hi: ∀σ H R,w' σ H R->w σ H R):PI X tg iter w':=fun pins s σ H R I q=>h pins s σ H R I (hi σ H R q)
noncomputable def zjb(K:W.Frag)(tl:TE):TI:=fun σ H R=>tl σ H fun x H1=> ∃a,x= .ref a/\(((∃xs,SqL K H1 a xs)/\R (Itl K a) H1)\/((∃xs,SqT K H1 a xs)/\R (Itt K a) H1))
theorem zeE{l:Expr}{tl:TE}(hl:PE X l tl):PI X tg l (zjb X.K tl):=by
 intro pins s σ H R I h
 refine thn (hl pins s σ H _ I h) fun v s1 ⟨x,H1,I1,r1,q1⟩=> ?_
 obtain⟨a,e,q|q⟩:=q1
 ·subst e
  cases r1
  obtain⟨⟨xs,hq⟩,q⟩:=q
  obtain⟨its,rv,p,hz⟩:=I1.list hq
  refine wpAny_pyIter_list p.isList ?_
  refine⟨s1.heap.objs.size,[s1.heap.objs.size],_,_,H1,rfl,I1.kept (t':=s1.toks) fun b o e=>Heap.get?_push_of_some _ e,z6U a _,⟨_,Heap.get?_push_size _ rfl,rfl,rfl⟩,fun b hb=> ?_,q⟩
  have e:b=s1.heap.objs.size:=by simpa using hb
  subst e
  exact I1.fpOk (e8 _) (I1.hok.fresh (e8 _))
 ·subst e
  cases r1
  obtain⟨⟨xs,hq⟩,q⟩:=q
  obtain⟨its,rv,p,hz⟩:=I1.tuple hq
  refine wpAny_pyIter_tuple (show s1.heap.IsTuple a its.toArray from p) ?_
  refine⟨s1.heap.objs.size,[s1.heap.objs.size],_,_,H1,rfl,I1.kept (t':=s1.toks) fun b o e=>Heap.get?_push_of_some _ e,z5Z a _,⟨_,Heap.get?_push_size _ rfl,rfl,rfl⟩,fun b hb=> ?_,q⟩
  have e:b=s1.heap.objs.size:=by simpa using hb
  subst e
  exact I1.fpOk (e8 _) (I1.hok.fresh (e8 _))
noncomputable def z03(m:M D):M ItK:=bd m fun d s=>match d with
 | .tup _=> .ok zax (s.psh d)
 | .lst _ _=> .ok z6J (s.psh d)
 | .ro _=> .ok z6J (s.psh d)
 |_=> .no
theorem SqT.two{K:W.Frag}{H:Hp}{a:Addr}{xs ys:List V}(k:KD K H)(h:SqT K H a xs)(h':SqT K H a ys):xs=ys:=by
 rcases h with(h|⟨o,h⟩)|⟨o,its,n,h,_,hd,_,r⟩<;>rcases h' with(h'|⟨o',h'⟩)|⟨o',its',n',h',_,hd',_,r'⟩
 ·rw[h] at h';cases h';rfl
 ·rw[h] at h';cases h'
 ·rw[k _ _ h'] at h;cases h
 ·rw[h] at h';cases h'
 ·rw[h] at h';cases h';rfl
 ·rw[k _ _ h'] at h;cases h
 ·rw[k _ _ h] at h';cases h'
 ·rw[k _ _ h] at h';cases h'
 ·rw[h] at h';cases h';rw[hd] at hd';cases hd';exact r.inj r'
theorem SqL.two{K:W.Frag}{H:Hp}{a:Addr}{xs ys:List V}(k:KD K H)(h:SqL K H a xs)(h':SqL K H a ys):xs=ys:=by
 rcases h with(h|⟨o,h⟩)|⟨o,its,n,h,_,_,hd,_,r⟩<;>rcases h' with(h'|⟨o',h'⟩)|⟨o',its',n',h',_,_,hd',_,r'⟩
 ·rw[h] at h';cases h';rfl
 ·rw[h] at h';cases h'
 ·rw[k _ _ h'] at h;cases h
 ·rw[h] at h';cases h'
 ·rw[h] at h';cases h';rfl
 ·rw[k _ _ h'] at h;cases h
 ·rw[k _ _ h] at h';cases h'
 ·rw[k _ _ h] at h';cases h'
 ·rw[h] at h';cases h';rw[hd] at hd';cases hd';exact r.inj r'
theorem MR.head{F:Fx}{ρ:Nat->Addr}{H:Hp}{σv tv:List (Option V)}{s:Stt}{v:V}{c:D}{r:List (Option D)}(M:MR G F ρ H σv (some v::tv) s)(e:s.tm=some c::r):RD G ρ H c v/\LB F ρ s.n (y4 c):=by
 obtain⟨σ,tm,n⟩:=s
 have e:tm=some c::r:=e
 subst e
 exact⟨MR.top (s:=⟨σ,r,n⟩) M,MR.topl (s:=⟨σ,r,n⟩) M⟩
theorem z5u{a:Addr}:zeD G (Itl G.K a) z6J [some (.ref a)]:=by
 intro F ρ H σv tvp tv s i M
 dsimp only[z6J]
 cases e:s.tm.drop tvp.length with
 |nil=>trivial
 |cons o r=>
  cases o with
  |none=>trivial
  |some c=>
   erw[zeC]
   obtain⟨h,lb⟩:=MR.head (s:=s.popn tvp.length) M.popn e
   cases e1:zcZ c with
   |none=>trivial
   |some ds=>
    erw[p4]
    obtain⟨a',xs,ea,sq,rr,sub⟩:=h.lstq e1
    cases ea
    cases e2:ds[i]? with
    |none=>
     refine⟨xs,sq, ?_⟩
     rw[<-rr.length]
     exact List.getElem?_eq_none_iff.mp e2
    |some d=>
     obtain⟨x,ex,rx⟩:=rr.get i d e2
     refine⟨⟨xs,x,sq,ex⟩, ?_⟩
     rintro x' H' ⟨rfl,hx⟩
     rw[hx xs sq] at ex
     cases ex
     exact⟨M,RDs.one rx,fun l hl=>lb l (sub l (labsL_mem (List.mem_of_getElem? e2) l (by simpa only[labsL,c9] using hl)))⟩
theorem z9m{a:Addr}:zeD G (Itt G.K a) zax [some (.ref a)]:=by
 intro F ρ H σv tvp tv s i M
 dsimp only[zax]
 cases e:s.tm.drop tvp.length with
 |nil=>trivial
 |cons o r=>
  cases o with
  |none=>trivial
  |some c=>
   obtain⟨h,lb⟩:=MR.head (s:=s.popn tvp.length) M.popn e
   cases c with
   |tup ds=>
    erw[z9l]
    obtain⟨a',xs,ea,sq,rr⟩:=h.tupq
    cases ea
    cases e2:ds[i]? with
    |none=>
     refine⟨xs,sq, ?_⟩
     rw[<-rr.length]
     exact List.getElem?_eq_none_iff.mp e2
    |some d=>
     obtain⟨x,ex,rx⟩:=rr.get i d e2
     refine⟨⟨xs,x,sq,ex⟩, ?_⟩
     rintro x' H' ⟨rfl,hx⟩
     rw[hx xs sq] at ex
     cases ex
     exact⟨M,RDs.one rx,fun l hl=>lb l (by erw[y4];exact labsL_mem (List.mem_of_getElem? e2) l (by simpa only[labsL,c9] using hl))⟩
   |_=>trivial
theorem si_seq{m:M D}(hk:X.K=G.K)(h:SE X G F e m):SI X G F tg e (z03 m):=by
 refine PI.imp0 (zeE h) fun σ H R ⟨tv,hs,ρ,s,M,W⟩=>⟨tv,hs,ρ,s,M, ?_⟩
 unfold z03 bd at W
 cases e:m s with
 |ex d s1=>rw[e] at W;exact W
 |no=>rw[e] at W;exact W
 |ok t s1=>
  rw[e] at W
  intro ρ1 v H1 M1
  rw[hk]
  cases t with
  |tup ds=>
   obtain⟨a,xs,rfl,sq,r⟩:=M1.rd1.tupq
   exact⟨a,rfl, .inr ⟨⟨xs,sq⟩,W ρ1 H1 [some (.ref a)] _ rfl M1.push z9m⟩⟩
  |lst n ds=>
   obtain⟨a,xs,rfl,sq,r,_⟩:=M1.rd1.lstq (ds:=ds) rfl
   exact⟨a,rfl, .inl ⟨⟨xs,sq⟩,W ρ1 H1 [some (.ref a)] _ rfl M1.push z5u⟩⟩
  |ro ds=>
   obtain⟨a,xs,rfl,sq,r,_⟩:=M1.rd1.lstq (ds:=ds) rfl
   exact⟨a,rfl, .inl ⟨⟨xs,sq⟩,W ρ1 H1 [some (.ref a)] _ rfl M1.push z5u⟩⟩
  |_=>exact False.elim W
noncomputable def zeF(ts:List D):M ItK:=match ts with
 |[.int j]=>if -(2^62)<=j/\j<2^62 then rt (z7C 0 j.toNat) else fl
 |_=>fl
noncomputable def z04(ms:List (M D)):M ItK:=bd (Z3 ms) zeF
theorem z9n{lo:Int}{n:Nat}:zeD G (Itr lo n) (z7C lo n) []:=by
 intro F ρ H σv tvp tv s i M
 erw[z7C]
 by_cases h:i<n
 ·rw[if_pos h]
  refine⟨h, ?_⟩
  rintro x H' ⟨rfl,rfl⟩
  exact⟨M,RDs.one (by erw[RD]),fun l hl=>by simp[labsL,y4] at hl⟩
 ·rw[if_neg h]
  exact C9.mp h
theorem si_rng1{p:Pos}{ms:List (M D)}(hg:Gl X "range")(hm:X.mg "range" =none)(ha:SA X G F [a] (Z3 ms))(hs:starEach [a] X.env=[(false,eval a X.env)]:=by rfl):SI X G F tg (.Call (.Name "range" p) [a] [] pos) (z04 ms):=by
 refine PI.imp0 (z6V hg hm ha hs) fun σ H R ⟨tv,hs,ρ,s,M,W⟩=>⟨tv,hs,ρ,s,M, ?_⟩
 unfold z04 bd at W
 cases e:Z3 ms s with
 |ex d s1=>rw[e] at W;exact W
 |no=>rw[e] at W;exact W
 |ok ts s1=>
  rw[e] at W
  intro ρ1 vs H1 M1
  unfold zeF at W
  dsimp only at W
  split at W
  ·rename_i ts' j K s' hh
   split at hh
   ·split at hh
    ·rename_i j' hc
     cases hh
     obtain⟨v,rfl,h,_⟩:=M1.one
     erw[RD] at h
     subst h
     exact⟨j',rfl,hc.1,hc.2,W ρ1 H1 [] _ rfl M1.m z9n⟩
    ·cases hh
   ·cases hh
  ·rename_i hh
   split at hh
   ·split at hh<;>cases hh
   ·cases hh
  ·exact False.elim W
noncomputable def forGo(K:ItK)(g:Tg)(b:MS):Nat->Nat->MS
 |f,i=>fun s=>match K.at' i s.tm with
  |none=> .no
  |some none=> .nx (s.popn K.k)
  |some (some d)=>match f with
   |0=> .no
   |f+1=>match asg g d s.σ with
    |none=> .no
    |some σ'=>match b {s with σ:=σ'} with
     | .nx s'=>forGo K g b f (i+1) s'
     | .ct s'=>forGo K g b f (i+1) s'
     | .bk s'=> .nx (s'.popn K.k)
     | .rt t s'=> .rt t (s'.popn K.k)
     | .ex d s'=> .ex d s'
     | .no=> .no
noncomputable def z4v(mi:M ItK)(g:Tg)(b:MS):MS:=z0y mi fun K s=>forGo K g b (K.len s.tm) 0 s
theorem MRL.popn{ρ:Nat->Addr}{H:Hp}{σv tvs tv:List (Option V)}{s:Stt}{ts:List D}{vs:List V}(M:MRL G F.toFx ρ H σv (tvs++tv) s ts vs):MRL G F.toFx ρ H σv tv (s.popn tvs.length) ts vs:=⟨M.m.popn,M.rd,M.lb⟩
theorem zjc{tvs tv:List (Option V)}(h:F.tv0<:+tv):F.tv0<:+tvs++tv:=h.trans (List.suffix_append _ _)
theorem z7D{m:M ItK}{f:ItK->MS}{tv:List (Option V)}{D:z3J}{σ:St}{H:Hp}{R:It->Hp->Prop}(h:tSv G F (z0y m f) tv D σ H)
 (k: ∀K ρ' H' tvs J s',tvs.length=K.k->MR G F.toFx ρ' H' σ (tvs++tv) s'->zeD G J K tvs->wS G F tv (f K s') D->R J H'):tI G F m σ H R:=by
 obtain⟨hs,ρ,s,M,W⟩:=h
 refine⟨tv,hs,ρ,s,M, ?_⟩
 unfold z0y at W
 cases e:m s with
 |ok K s1=>rw[e] at W;exact fun ρ' H' tvs J hl M' hok=>k K ρ' H' tvs J s1 hl M' hok W
 |ex d s1=>rw[e] at W;exact W
 |no=>rw[e] at W;exact W
theorem ss_for{body:List Stmt}{mi:M ItK}{g:Tg}{mb:MS}(hp:PassesOwn (model X.prog X.w) X.A X.env X.xe)(hc:X.calm=true)(hi:SI X G F tg iter mi)(hg:SG X G F tg g)(hb:SSs X G F body mb)(hst: ∀x,foldedSetIterable iter X.env x=pure x:=by intro _;rfl):SS X G F (.For tg iter body [] pos) (z4v mi g mb):=by
 refine PS.imp0 (zdu hp hc hi hg hb hst) fun D σ H ⟨tv,h⟩=>z7D h fun K ρ' H' tvs J s' hl M' hok W=> ?_
 have hs:=h.1
 refine⟨fun i m σ H=> ∃ρ s,MR G F.toFx ρ H σ (tvs++tv) s/\wS G F tv (forGo K g mb m i s) D,⟨_,ρ',s',M',W⟩, ?_⟩
 rintro i m σ H ⟨ρ,s,M,W⟩
 have ok:=hok F.toFx ρ H σ [] tv s i M
 erw[r8,M0,m8] at ok
 unfold forGo at W
 cases e:K.at' i s.tm with
 |none=>erw[e] at W;exact False.elim W
 |some o=>
  cases o with
  |none=>
   erw[e] at W ok
   refine .inl ⟨ok,W ρ σ H ?_⟩
   rw[<-hl]
   exact M.popn
  |some d=>
   erw[e] at W ok
   cases m with
   |zero=>exact False.elim W
   |succ f=>
    dsimp only at W
    cases e2:asg g d s.σ with
    |none=>erw[e2] at W;exact False.elim W
    |some σ'=>
     erw[e2] at W
     refine .inr ⟨ok.1,fun σ H=> ∃ρ s,MR G F.toFx ρ H σ (tvs++tv) s/\wS G F tv (forGo K g mb f (i+1) s) D,fun σ' H' q=>⟨f,t7 _,q⟩,fun x H2 y=> ?_⟩
     refine⟨tvs++tv,ρ,s,d,ok.2 x H2 y,σ',e2,fun σv' M2=>⟨tvs++tv,zjc hs,ρ,_,M2, ?_⟩⟩
     cases e3:mb {s with σ:=σ'} with
     |nx s2=>erw[e3] at W;exact fun ρ3 σ3 H3 M3=>⟨ρ3,s2,M3,W⟩
     |ct s2=>erw[e3] at W;exact fun ρ3 σ3 H3 M3=>⟨ρ3,s2,M3,W⟩
     |bk s2=>erw[e3] at W;exact fun ρ3 σ3 H3 M3=>W ρ3 σ3 H3 (by rw[<-hl];exact M3.popn)
     |rt t s2=>erw[e3] at W;exact fun ρ3 σ3 v H3 M3=>W ρ3 σ3 v H3 (by rw[<-hl];exact M3.popn)
     |ex d s2=>erw[e3] at W;exact W
     |no=>erw[e3] at W;exact W
end
noncomputable def Z1:List (Option D)->Option (List D)
 |[]=>some []
 |some d::r=>(Z1 r).map (d:: ·)
 |none::_=>none
noncomputable def U9(K:ItK)(g:Tg)(mt:M Bool)(me:M D)(ol:Nat):Nat->Nat->Nat->M D
 |f,i,k=>fun s=>match K.at' i (s.tm.drop (k+ol)) with
  |none=> .no
  |some none=>match Z1 (s.tm.take k).reverse with
   |some ds=> .ok (.lst s.n ds) {σ:=(s.tm.drop k).take ol,tm:=s.tm.drop (k+ol+K.k),n:=s.n+1}
   |none=> .no
  |some (some d)=>match f with
   |0=> .no
   |f+1=>match asg g d s.σ with
    |none=> .no
    |some σ'=>match mt {s with σ:=σ'} with
     | .ok false s1=>U9 K g mt me ol f (i+1) k s1
     | .ok true s1=>if k<sizeLine then match me s1 with
      | .ok y s2=>U9 K g mt me ol f (i+1) (k+1) (s2.psh y)
      |_=> .no
      else .no
     |_=> .no
noncomputable def z5v(own:Nat)(ix:List Nat)(s:Stt):Stt:={σ:=e6 own none++ix.map (fun i=>(s.σ[i]?).getD none),tm:=s.σ++s.tm,n:=s.n}
noncomputable def z0q(mi:M ItK)(g:Tg)(mt:M Bool)(me:M D)(own:Nat)(ix:List Nat):M D:=bd mi fun K s=>U9 K g mt me s.σ.length (K.len s.tm) 0 0 (z5v own ix s)
section
variable{X:Cx}{G:Gx}{F:Fy}{e a b c tg iter elt:Expr}{pos:Pos}
noncomputable def Fy.prot(F:Fy)(D:Addr)(ys:List V)(h:F.H0 D=none):Fy where
 A0:=F.A0
 H0:=upd F.H0 D (.lst ys)
 Z:=fun a=>a=D\/F.Z a
 zA:=fun a z=>by
  rcases z with rfl|z
  ·exact⟨⟨_,y8⟩,fun q=>by obtain⟨o,e⟩:=F.aH _ q;rw[h] at e;cases e⟩
  ·obtain⟨⟨o,e⟩,n⟩:=F.zA a z
   exact⟨⟨o,by rw[y6 (Q4 e h)];exact e⟩,n⟩
 aH:=fun a q=>by
  obtain⟨o,e⟩:=F.aH a q
  exact⟨o,by rw[y6 (Q4 e h)];exact e⟩
 n0:=F.n0
 ρ0:=F.ρ0
 tv0:=[]
 xw:=fun _ _=>False
theorem Sl.none_map{ρ:Nat->Addr}{H:Hp}: ∀k:Nat,Sl G ρ H (e6 k none) (e6 k none)
 |0=>by simp[Sl]
 |k+1=>by erw[o0,Sl];exact⟨_,_,rfl,Sl.none_map k⟩
theorem Sl.pick{ρ:Nat->Addr}{H:Hp}{σ:List (Option D)}{σv:List (Option V)}(h:Sl G ρ H σ σv): ∀ix:List Nat,Sl G ρ H (ix.map fun i=>(σ[i]?).getD none) (ix.map fun i=>(σv[i]?).getD none)
 |[]=>by simp[Sl]
 |i::ix=>by
  erw[b9]
  cases e:σ[i]? with
  |none=>erw[B0,Sl];exact⟨_,_,rfl,Sl.pick h ix⟩
  |some o=>
   cases o with
   |none=>erw[A3,Sl];exact⟨_,_,rfl,Sl.pick h ix⟩
   |some d=>
    obtain⟨v,e1,r⟩:=h.get i d e
    erw[A3,Sl,e1]
    exact⟨_,_,rfl,r,Sl.pick h ix⟩
theorem z0M{σ:List (Option D)}{l:Nat}: ∀{ix:List Nat},l∈Z2 (ix.map fun i=>(σ[i]?).getD none)->l∈Z2 σ
 |[],h=>by simp[Z2] at h
 |i::ix,h=>by
  erw[b9] at h
  cases e:σ[i]? with
  |none=>rw[e] at h;erw[B0,Z2] at h;exact z0M h
  |some o=>
   rw[e] at h
   cases o with
   |none=>erw[A3,Z2] at h;exact z0M h
   |some d=>
    erw[A3,Z2] at h
    rcases c8.mp h with h|h
    ·exact z0K e l h
    ·exact z0M h
theorem z05{l:Nat}: ∀k:Nat,¬l∈Z2 (e6 k (none:Option D))
 |0,h=>by simp[Z2] at h
 |k+1,h=>by erw[o0,Z2] at h;exact z05 k h
theorem MR.enter{ρ:Nat->Addr}{H:Hp}{σv tv:List (Option V)}{s:Stt}{D:Addr}(M:MR G F.toFx ρ H σv tv s)(hD:H D=none)(k:KD G.K (upd H D (.lst [])))(own:Nat)(ix:List Nat):
 MR G (F.prot D [] (M.fresh0 hD)).toFx ρ (upd H D (.lst [])) (z01 own ix σv) (σv++tv) (z5v own ix s):=by
 have sm:=V2.new (.lst []) hD
 have M1:=M.same sm k
 have nD: ∀l,l<s.n->ρ l≠D:=fun l hl e=>by
  obtain⟨o,q⟩:=M.dom l hl
  rw[e,hD] at q;cases q
 have sub: ∀l∈Q7 (z5v own ix s),l∈Q7 s:=fun l h=>by
  rcases c8.mp h with h|h
  ·have h:l∈Z2 (e6 own none++ix.map (fun i=>(s.σ[i]?).getD none)):=h
   rw[Z7] at h
   rcases c8.mp h with h|h
   ·exact absurd h (z05 own)
   ·exact b8 _ (z0M h)
  ·have h:l∈Z2 (s.σ++s.tm):=h
   rw[Z7] at h
   exact h
 refine⟨?_,M1.sl.append M1.tm,M1.inj,M1.dom,fun l h=>M.lab l (sub l h),fun l h=> ?_,fun a o e=> ?_,k,fun l hl z=> ?_,M.bas⟩
 ·exact(Sl.none_map own).append (M1.sl.pick ix)
 ·rcases M.own l (sub l h) with q|q
  ·exact .inl q
  ·refine .inr ?_
   show upd F.H0 D (.lst []) (ρ l)=none
   rw[y6 (nD l (M.lab l (sub l h)))];exact q
 ·have e:upd F.H0 D (.lst []) a=some o:=e
  by_cases ha:a=D
  ·subst ha
   rw[y8] at e;cases e
   exact⟨⟨_,y8⟩,fun _=>y8⟩
  ·rw[y6 ha] at e
   exact M1.frm a o e
 ·rcases z with z|z
  ·exact nD l hl z
  ·exact M.frb l hl z
theorem MR.turnD{ρ:Nat->Addr}{H:Hp}{σv tv:List (Option V)}{s:Stt}{D:Addr}{ys ys':List V}{hf:F.H0 D=none}(M:MR G (F.prot D ys hf).toFx ρ H σv tv s):
 H D=some (.lst ys)/\MR G (F.prot D ys' hf).toFx ρ (upd H D (.lst ys')) σv tv s:=by
 have hD:H D=some (.lst ys):=(M.frm D (.lst ys) y8).2 ((F.prot D ys hf).zA D (.inl rfl)).2
 have nD: ∀l,l<s.n->ρ l≠D:=fun l hl e=>M.frb l hl (.inl e)
 have st:J3 H (upd H D (.lst ys')):=⟨fun b xs e=>by rw[y6 (z1e e hD (by intro z;cases z))];exact e,fun b o u e=>by rw[y6 (z1e e hD (by intro z;cases z))];exact e⟩
 refine⟨hD,⟨Sl.stay st M.sl fun l hl=>⟨rfl,fun o e=> ?_⟩,Sl.stay st M.tm fun l hl=>⟨rfl,fun o e=> ?_⟩,M.inj,fun l hl=> ?_,M.lab,fun l h=> ?_,fun a o e=> ?_,fun a o e=> ?_,fun l hl=>M.frb l hl,M.bas⟩⟩
 ·rw[y6 (nD l (M.lab l (b8 _ hl)))];exact e
 ·rw[y6 (nD l (M.lab l (b6 _ hl)))];exact e
 ·rw[y6 (nD l hl)];exact M.dom l hl
 ·rcases M.own l h with q|q
  ·exact .inl q
  ·refine .inr ?_
   have q:upd F.H0 D (.lst ys) (ρ l)=none:=q
   show upd F.H0 D (.lst ys') (ρ l)=none
   rw[y6 (nD l (M.lab l h))] at q⊢;exact q
 ·have e:upd F.H0 D (.lst ys') a=some o:=e
  by_cases ha:a=D
  ·subst ha
   rw[y8] at e;cases e
   exact⟨⟨_,y8⟩,fun _=>y8⟩
  ·rw[y6 ha] at e⊢
   exact M.frm a o (by show upd F.H0 D (.lst ys) a=some o;rw[y6 ha];exact e)
 ·by_cases ha:a=D
  ·subst ha
   rw[M.kd a o e] at hD;cases hD
  ·rw[y6 ha];exact M.kd a o e
theorem Sl.all{ρ:Nat->Addr}{H:Hp}: ∀{tm:List (Option D)} {ys:List V} {ds:List D},Sl G ρ H tm (ys.map some)->Z1 tm=some ds->RDs G ρ H ds ys/\labsL ds=Z2 tm
 |[],ys,ds,h,e=>by
  erw[Sl] at h
  erw[Z1,Option.some.injEq] at e
  subst e
  have:ys=[]:=by simpa using h
  subst this
  simp[RDs,labsL,Z2]
 |none::r,ys,ds,h,e=>by erw[Z1] at e;cases e
 |some d::r,ys,ds,h,e=>by
  erw[Sl] at h
  obtain⟨v,q,e1,h1,h2⟩:=h
  cases ys with
  |nil=>cases e1
  |cons y ys=>
   erw[b9,List.cons.injEq,Option.some.injEq] at e1
   obtain⟨rfl,rfl⟩:=e1
   erw[Z1] at e
   cases e2:Z1 r with
   |none=>rw[e2] at e;cases e
   |some es=>
    rw[e2] at e
    cases e
    obtain⟨r1,r2⟩:=Sl.all h2 e2
    refine⟨?_,by erw[labsL,Z2,r2]⟩
    erw[RDs]
    exact⟨_,_,rfl,h1,r1⟩
theorem Sl.reverse{ρ:Nat->Addr}{H:Hp}: ∀{tm:List (Option D)} {ys:List (Option V)},Sl G ρ H tm ys->Sl G ρ H tm.reverse ys.reverse
 |[],ys,h=>by erw[Sl] at h;subst h;simp[Sl]
 |none::r,ys,h=>by
  erw[Sl] at h
  obtain⟨o,q,rfl,h⟩:=h
  rw[l9,l9]
  exact(Sl.reverse h).append (by erw[Sl];exact⟨_,_,rfl,rfl⟩)
 |some d::r,ys,h=>by
  erw[Sl] at h
  obtain⟨o,q,rfl,h1,h⟩:=h
  rw[l9,l9]
  exact(Sl.reverse h).append (by erw[Sl];exact⟨_,_,rfl,h1,rfl⟩)
theorem z2a{l:Nat}: ∀{tm:List (Option D)},l∈Z2 tm.reverse↔l∈Z2 tm
 |[]=>by simp
 |none::r=>by
  rw[l9,Z7]
  erw[Z2,c9]
  exact z2a
 |some d::r=>by
  rw[l9,Z7]
  erw[Z2,c9,c8]
  rw[z2a]
  exact Or.comm
theorem MR.leave{ρ:Nat->Addr}{H:Hp}{σi σv tvs tv:List (Option V)}{s:Stt}{A1:Addr}{ys:List V}{hf:F.H0 A1=none}{ds:List D}{kk:Nat}
 (M:MR G (F.prot A1 ys hf).toFx ρ H σi ((ys.reverse.map some)++(σv++(tvs++tv))) s) (hk:tvs.length=kk) (ol:Nat) (ho:σv.length=ol) (e:Z1 (s.tm.take ys.length).reverse=some ds):
 MRL G F.toFx (ext ρ s.n A1) H σv tv {σ:=(s.tm.drop ys.length).take ol,tm:=s.tm.drop (ys.length+ol+kk),n:=s.n+1} [.lst s.n ds] [.ref A1]:=by
 subst hk ho
 have hD:=(MR.turnD (ys':=ys) M).1
 have nD: ∀l,l<s.n->ρ l≠A1:=fun l hl e=>M.frb l hl (.inl e)
 have t0:=Sl.split (ys.reverse.map some) M.tm
 erw[i9,E4] at t0
 obtain⟨t1,t2⟩:=t0
 obtain⟨t3,t4⟩:=Sl.split σv t2
 obtain⟨_,t6⟩:=Sl.split tvs t4
 rw[D2] at t4
 rw[D2,D2] at t6
 have t6':Sl G ρ H (s.tm.drop (ys.length+σv.length+tvs.length)) tv:=by rw[D7];exact t6
 have t1':=t1.reverse
 rw[<-List.map_reverse,List.reverse_reverse] at t1'
 obtain⟨r1,r2⟩:=Sl.all t1' e
 have lt: ∀l,l∈Z2 (s.tm.take ys.length)->l∈Q7 s:=fun l h=>b6 _ (by
  have e:=Z7 (s.tm.take ys.length) (s.tm.drop ys.length)
  rw[B3] at e
  rw[e];exact b8 _ h)
 have ld: ∀l k,l∈Z2 (s.tm.drop k)->l∈Q7 s:=fun l k h=>b6 _ (by
  have e:=Z7 (s.tm.take k) (s.tm.drop k)
  rw[B3] at e
  rw[e];exact b6 _ h)
 have ldt: ∀l k j,l∈Z2 ((s.tm.drop k).take j)->l∈Q7 s:=fun l k j h=>ld l k (by
  have e:=Z7 ((s.tm.drop k).take j) ((s.tm.drop k).drop j)
  rw[B3] at e
  rw[e];exact b8 _ h)
 have own: ∀l∈Q7 s,F.A0 (ρ l)\/F.H0 (ρ l)=none:=fun l h=>by
  rcases M.own l h with q|q
  ·exact .inl q
  ·refine .inr ?_
   have q:upd F.H0 A1 (.lst ys) (ρ l)=none:=q
   rw[y6 (nD l (M.lab l h))] at q;exact q
 have st:=J3.refl H
 have stay: ∀l,l<s.n->ext ρ s.n A1 l=ρ l/\∀o,H (ρ l)=some o->H (ρ l)=some o:=fun l hl=>⟨Y9 hl,fun o e=>e⟩
 have all: ∀l∈Q7 {σ:=(s.tm.drop ys.length).take σv.length,tm:=s.tm.drop (ys.length+σv.length+tvs.length),n:=s.n+1},l∈Q7 s:=fun l h=>by
  rcases c8.mp h with h|h
  ·exact ldt l _ _ h
  ·exact ld l _ h
 have dsl: ∀l∈labsL ds,l∈Q7 s:=fun l h=>lt l (by rw[r2] at h;exact z2a.mp h)
 refine⟨⟨Sl.stay st t3 fun l hl=>stay l (M.lab l (ldt l _ _ hl)),Sl.stay st t6' fun l hl=>stay l (M.lab l (ld l _ hl)),fun i j hi hj eq=> ?_,fun l hl=> ?_,fun l h=>A6 (M.lab l (all l h)),fun l h=> ?_,fun a o e=> ?_,M.kd,fun l hl z=> ?_,⟨N4 M.bas.1,fun l hl=>by rw[Y9 (i7 hl M.bas.1)];exact M.bas.2 l hl⟩⟩, ?_,fun l h=> ?_⟩
 ·have hi:i<s.n+1:=hi
  have hj:j<s.n+1:=hj
  by_cases h1:i=s.n
  ·by_cases h2:j=s.n
   ·lia
   ·rw[h1,Q0,Y9 (by lia)] at eq
    exact absurd eq.symm (nD j (by lia))
  ·by_cases h2:j=s.n
   ·rw[h2,Q0,Y9 (by lia)] at eq
    exact absurd eq (nD i (by lia))
   ·rw[Y9 (by lia),Y9 (by lia)] at eq
    exact M.inj i j (by lia) (by lia) eq
 ·have hl:l<s.n+1:=hl
  by_cases h1:l=s.n
  ·subst h1;rw[Q0];exact⟨_,hD⟩
  ·rw[Y9 (by lia)];exact M.dom l (by lia)
 ·rw[Y9 (M.lab l (all l h))];exact own l (all l h)
 ·exact M.frm a o (by show upd F.H0 A1 (.lst ys) a=some o;rw[y6 (Q4 e hf)];exact e)
 ·have hl:l<s.n+1:=hl
  by_cases h1:l=s.n
  ·subst h1;rw[Q0] at z
   obtain⟨⟨o,e⟩,_⟩:=F.zA A1 z
   rw[hf] at e;cases e
  ·rw[Y9 (by lia)] at z
   exact M.frb l (by lia) (.inr z)
 ·refine RDs.one ?_
  erw[RD]
  rw[Q0]
  exact⟨rfl,ys,hD,RDs.stay st ds ys r1 fun l hl=>stay l (M.lab l (dsl l hl))⟩
 ·erw[labsL,y4,c9] at h
  rcases e7.mp h with q|q
  ·rw[q,Q0];exact⟨t7 _, .inr hf⟩
  ·have q2:=dsl l q
   exact⟨A6 (M.lab l q2),by rw[Y9 (M.lab l q2)];exact own l q2⟩
noncomputable def tMx(G:Gx)(m:M D):TE:=fun σ H Q=> ∃F:Fy,tM G F m σ H Q
noncomputable def tBx(G:Gx)(m:M Bool):TT:=fun σ H Q=> ∃F:Fy,tMB G F m σ H Q
noncomputable def tGx(G:Gx)(g:Tg):TG:=fun v σ H Q=> ∃F:Fy,tGn G F g v σ H Q
noncomputable def STs(X:Cx)(G:Gx)(F:Fy)(ifs:List Expr)(m:M Bool):Prop:=PTs X ifs (tMB G F m)
theorem sts_nil:STs X G F [] (rt true):=fun pins s σ H Q I ⟨tv,hs,ρ,ms,M,W⟩=>z4I pins s σ H Q I (W ρ H M)
theorem z9o{K:W.Frag}{k:Nat}{ix:List Nat}{mi:M ItK}{g:Tg}{mt:M Bool}{me:M D}{σ:St}{H:Hp}{Q:VK}(hk:K=G.K)(h:tM G F (z0q mi g mt me k ix) σ H Q):zaw K (tI G F mi) (tGx G g) (tBx G mt) (tMx G me) k ix σ H Q:=by
 obtain⟨tv,hsf,ρ,s,M,W⟩:=h
 refine⟨tv,hsf,ρ,s,M, ?_⟩
 unfold z0q bd at W
 cases em:mi s with
 |ex d s1=>rw[em] at W;exact W
 |no=>rw[em] at W;exact W
 |ok K s1=>
  rw[em] at W
  intro ρ1 H1 tvs J hl M1 hok A1 hA1 kd
  subst hk
  have kd:KD G.K (upd H1 A1 (.lst [])):=kd
  have hf:=M1.fresh0 hA1
  refine⟨fun i m ys σ' H'=> ∃ρ s,MR G (F.prot A1 ys hf).toFx ρ H' σ' ((ys.reverse.map some)++(σ++(tvs++tv))) s/\wM G F σ tv (U9 K g mt me s1.σ.length m i ys.length s) Q,⟨_,ρ1,_,M1.enter hA1 kd k ix,W⟩, ?_⟩
  rintro i m ys σ' H' ⟨ρ2,s2,M2,W2⟩
  have hD:=(MR.turnD (ys':=ys) M2).1
  refine⟨hD, ?_⟩
  have ol:s1.σ.length=σ.length:=M1.sl.length
  have ok:=hok (F.prot A1 ys hf).toFx ρ2 H' σ' ((ys.reverse.map some)++σ) tv s2 i (by rw[m9];exact M2)
  erw[l5,i9,E4,<-ol,m9] at ok
  unfold U9 at W2
  cases e:K.at' i (s2.tm.drop (ys.length+s1.σ.length)) with
  |none=>erw[e] at W2;exact False.elim W2
  |some o=>
   rw[e] at ok
   cases o with
   |none=>
    erw[e] at W2 ok
    refine .inl ⟨ok, ?_⟩
    cases ea:Z1 (s2.tm.take ys.length).reverse with
    |none=>erw[ea] at W2;exact False.elim W2
    |some ds=>
     erw[ea] at W2
     exact W2 _ _ _ (MR.leave M2 hl _ ol.symm ea)
   |some d=>
    erw[e] at W2 ok
    cases m with
    |zero=>exact False.elim W2
    |succ f=>
     dsimp only at W2
     cases e2:asg g d s2.σ with
     |none=>erw[e2] at W2;exact False.elim W2
     |some σ3=>
      erw[e2] at W2
      refine .inr ⟨ok.1,fun x H2 y=> ?_⟩
      have hx:=ok.2 x H2 y
      refine⟨F.prot A1 ys hf,_,ρ2,s2,d,hx,σ3,e2,fun σv' M3=>⟨F.prot A1 ys hf,_,O3,ρ2,_,M3, ?_⟩⟩
      cases e3:mt {s2 with σ:=σ3} with
      |ex d s4=>erw[e3] at W2;exact False.elim W2
      |no=>erw[e3] at W2;exact False.elim W2
      |ok b s4=>
       intro ρ4 H4 M4
       cases b with
       |false=>
        erw[e3] at W2
        rw[if_neg i6]
        exact⟨f,t7 _,ρ4,s4,M4,W2⟩
       |true=>
        erw[e3] at W2
        rw[if_pos rfl]
        by_cases hz:ys.length<sizeLine
        ·rw[if_pos hz] at W2
         refine⟨F.prot A1 ys hf,_,O3,ρ4,s4,M4, ?_⟩
         cases e5:me s4 with
         |ex d s5=>erw[e5] at W2;exact False.elim W2
         |no=>erw[e5] at W2;exact False.elim W2
         |ok y s5=>
          erw[e5] at W2
          intro ρ5 v H5 M5
          obtain⟨hD5,M6⟩:=MR.turnD (ys':=ys++[v]) M5.push
          refine⟨hD5,hz,f,t7 _,ρ5,s5.psh y, ?_, ?_⟩
          ·rw[C6,l9,B8,m8,C1]
           exact M6
          ·rw[l5];exact W2
        ·rw[if_neg hz] at W2;exact False.elim W2
theorem se_comp{scope:Scope}{own frees:List Str}{ix:List Nat}{ifs:List Expr}{mi:M ItK}{g:Tg}{mt:M Bool}{me:M D}(hk:X.K=G.K)(hc:X.calm=true)(S:j5 X.env.scope scope own frees X.N ix)(hi:SI X G F tg iter mi)
 (hg: ∀(F:Fy) cl C s₀ H₀ fp pn,SG (Q6 X scope own frees cl C s₀ H₀ fp pn) G F tg g) (ht: ∀(F:Fy) cl C s₀ H₀ fp pn,STs (Q6 X scope own frees cl C s₀ H₀ fp pn) G F ifs mt) (he: ∀(F:Fy) cl C s₀ H₀ fp pn,SE (Q6 X scope own frees cl C s₀ H₀ fp pn) G F elt me)
 (hs: ∀x,foldedSetIterable iter X.env x=pure x:=by intro _;rfl):SE X G F (.ListComp elt [⟨tg,iter,ifs,0⟩] scope pos) (z0q mi g mt me own.length ix):=
 PE.imp0 (z29 (g:=tGx G g) (tt:=tBx G mt) (te:=tMx G me) hc S hi (fun cl C s₀ H₀ fp pn pins s σ H v u Q I r ⟨F',q⟩=>hg F' cl C s₀ H₀ fp pn pins s σ H v u Q I r q)
  (fun cl C s₀ H₀ fp pn pins s σ H Q I ⟨F',q⟩=>ht F' cl C s₀ H₀ fp pn pins s σ H Q I q) (fun cl C s₀ H₀ fp pn pins s σ H Q I ⟨F',q⟩=>he F' cl C s₀ H₀ fp pn pins s σ H Q I q) hs) fun σ H Q h=>z9o hk h
end
mutual
noncomputable def Y7(l:Nat):D->Option D
 | .tup ds=>findL l ds
 | .ro ds=>findL l ds
 | .fdc _ vs=>findL l vs
 | .lst k ds=>if k=l then some (.lst k ds) else findL l ds
 | .dct k ks vs=>if k=l then some (.dct k ks vs) else findL l vs
 | .obj k c ns vs=>if k=l then some (.obj k c ns vs) else findL l vs
 | .non=>none| .bool _=>none| .int _=>none| .str _=>none| .exc _=>none| .fn _=>none
noncomputable def findL(l:Nat):List D->Option D
 |[]=>none
 |d::ds=>match Y7 l d with
  |some x=>some x
  |none=>findL l ds
end
section
variable{G:Gx}{ρ:Nat->Addr}{H:Hp}
mutual
theorem z9p(l:Nat): ∀(t:D) (v:V) (d:D),RD G ρ H t v->Y7 l t=some d->RD G ρ H d (.ref (ρ l))/\∀k∈y4 d,k∈y4 t
 | .non,v,d,h,e=>by erw[Y7] at e;cases e
 | .bool b,v,d,h,e=>by erw[Y7] at e;cases e
 | .int b,v,d,h,e=>by erw[Y7] at e;cases e
 | .str b,v,d,h,e=>by erw[Y7] at e;cases e
 | .exc b,v,d,h,e=>by erw[Y7] at e;cases e
 | .fn b,v,d,h,e=>by erw[Y7] at e;cases e
 | .tup ds,v,d,h,e=>by
  erw[Y7,RD,y4] at h e⊢
  obtain⟨a,xs,_,_,r⟩:=h
  exact findL_rd l ds xs d r e
 | .ro ds,v,d,h,e=>by
  erw[Y7,RD,y4] at h e⊢
  obtain⟨a,xs,_,_,r⟩:=h
  exact findL_rd l ds xs d r e
 | .fdc ks vs,v,d,h,e=>by
  erw[Y7,RD,y4] at h e⊢
  obtain⟨a,o,kvs,_,_,_,r⟩:=h
  exact findL_rd l vs _ d r e
 | .lst k ds,v,d,h,e=>by
  erw[Y7] at e
  by_cases hk:k=l
  ·rw[if_pos hk] at e;cases e
   subst hk
   have h':=h
   erw[RD] at h'
   obtain⟨rfl,_⟩:=h'
   exact⟨h,fun _ q=>q⟩
  ·rw[if_neg hk] at e
   erw[RD] at h
   obtain⟨_,xs,_,r⟩:=h
   obtain⟨q1,q2⟩:=findL_rd l ds xs d r e
   exact⟨q1,fun j hj=>by erw[y4];exact b7 _ (q2 j hj)⟩
 | .dct k ks vs,v,d,h,e=>by
  erw[Y7] at e
  by_cases hk:k=l
  ·rw[if_pos hk] at e;cases e
   subst hk
   have h':=h
   erw[RD] at h'
   obtain⟨rfl,_⟩:=h'
   exact⟨h,fun _ q=>q⟩
  ·rw[if_neg hk] at e
   erw[RD] at h
   obtain⟨_,⟨kvs,_,_,r⟩|⟨kvs,_,_,r⟩⟩:=h
   ·obtain⟨q1,q2⟩:=findL_rd l vs _ d r e
    exact⟨q1,fun j hj=>by erw[y4];exact b7 _ (b6 _ (q2 j hj))⟩
   ·obtain⟨q1,q2⟩:=findL_rd l vs _ d r e
    exact⟨q1,fun j hj=>by erw[y4];exact b7 _ (b6 _ (q2 j hj))⟩
 | .obj k c ns vs,v,d,h,e=>by
  erw[Y7] at e
  by_cases hk:k=l
  ·rw[if_pos hk] at e;cases e
   subst hk
   have h':=h
   erw[RD] at h'
   obtain⟨rfl,_⟩:=h'
   exact⟨h,fun _ q=>q⟩
  ·rw[if_neg hk] at e
   erw[RD] at h
   obtain⟨_,C,dx,fs,_,_,_,r⟩:=h
   obtain⟨q1,q2⟩:=findL_rd l vs _ d r e
   exact⟨q1,fun j hj=>by erw[y4];exact b7 _ (q2 j hj)⟩
theorem findL_rd(l:Nat): ∀(t:List D) (v:List V) (d:D),RDs G ρ H t v->findL l t=some d->RD G ρ H d (.ref (ρ l))/\∀k∈y4 d,k∈labsL t
 |[],v,d,h,e=>by erw[findL] at e;cases e
 |t::ts,v,d,h,e=>by
  erw[findL,RDs,labsL] at h e⊢
  obtain⟨x,r,_,h1,h2⟩:=h
  cases e1:Y7 l t with
  |some y=>
   rw[e1] at e;cases e
   obtain⟨q1,q2⟩:=z9p l t x _ h1 e1
   exact⟨q1,fun j hj=>b8 _ (q2 j hj)⟩
  |none=>
   rw[e1] at e
   obtain⟨q1,q2⟩:=findL_rd l ts r d h2 e
   exact⟨q1,fun j hj=>b6 _ (q2 j hj)⟩
end
theorem roL_two{K:W.Frag}{a:Addr}{xs ys:List V}(k:KD K H)(h:RoL K H a xs)(h':RoL K H a ys):xs=ys:=SqL.two k h.sq h'.sq
noncomputable def z5w(G:Gx)(H:Hp)(a:Addr):Nat->Prop
 |0=> ∃xs,SqT G.K H a xs
 |1=> ∃xs,RoL G.K H a xs
 |2=> ∃xs,H a=some (.lst xs)
 |3=>(∃kvs,H a=some (.dK kvs))\/∃kvs,H a=some (.dT kvs)
 |4=> ∃C dx fs,H a=some (.ins C dx fs)
 |5=> ∃o φ,H a=some (.frz o (.ext φ))
 |6=> ∃c,G.cl c=some a
 |_=> ∃o kvs,H a=some (.frz o (.dT kvs))
open Classical in
noncomputable def kd(K:W.Frag)(H:Hp)(a:Addr):Nat:=match H a with
 |some (.tup _)=>0|some (.frz _ (.tup _))=>0|some (.frz _ (.lst _))=>1|some (.lst _)=>2|some (.dK _)=>3|some (.dT _)=>3|some (.ins _ _ _)=>4|some (.frz _ (.ext _))=>5|some (.frz _ (.dT _))=>7
 |some _=>9
 |none=>match K.lookup a with
  |some o=>if(∃its n,o.data= .seq its n) then(if o.cls= .type "tuple" then 0 else 1) else 6
  |none=>8
theorem zeG{a:Addr}(k:KD G.K H): ∀{i:Nat},z5w G H a i->i<=7->kd G.K H a=i:=by
 have tl: ¬((.type "list" :Value)= .type "tuple"):=by intro h;injection h with h;exact absurd h (by decide)
 intro i hi li
 match i,hi,li with
 |0,⟨xs,h⟩,_=>
  rcases h with(h|⟨o,h⟩)|⟨o,its,n,h,hc,hd,_⟩
  ·unfold kd;rw[h]
  ·unfold kd;rw[h]
  ·unfold kd;rw[k _ _ h];dsimp only;rw[h];dsimp only;rw[if_pos ⟨its,n,hd⟩,if_pos hc]
 |1,⟨xs,h⟩,_=>
  rcases h with⟨o,h⟩|⟨o,its,n,h,hc,_,hd,_⟩
  ·unfold kd;rw[h]
  ·unfold kd;rw[k _ _ h];dsimp only;rw[h];dsimp only;rw[if_pos ⟨its,n,hd⟩,if_neg (by rw[hc];exact tl)]
 |2,⟨xs,h⟩,_=>unfold kd;rw[h]
 |3,h,_=>rcases h with⟨_,h⟩|⟨_,h⟩<;>(unfold kd;rw[h])
 |4,⟨_,_,_,h⟩,_=>unfold kd;rw[h]
 |5,⟨_,_,h⟩,_=>unfold kd;rw[h]
 |6,⟨c,h⟩,_=>
  obtain⟨o,h1,h2⟩:=G.ck c a h
  unfold kd;rw[k _ _ h1];dsimp only;rw[h1];dsimp only;rw[if_neg (fun⟨its,n,q⟩=>h2 its n q)]
 |7,⟨_,_,h⟩,_=>unfold kd;rw[h]
 |n+8,_,li=>lia
theorem z9q{a:Addr}(k:KD G.K H){i j:Nat}(hi:z5w G H a i)(hj:z5w G H a j)(li:i<=7)(lj:j<=7):i=j:=(zeG k hi li).symm.trans (zeG k hj lj)
noncomputable def ix:D->Nat
 | .tup _=>0| .ro _=>1| .lst _ _=>2| .dct _ _ _=>3| .obj _ _ _ _=>4| .exc _=>5| .fn _=>6| .fdc _ _=>7|_=>8
noncomputable def flD:V->D
 | .bl b=> .bool b| .int b=> .int b| .str b=> .str b|_=> .non
theorem RD.kind{t:D}{v:V}(h:RD G ρ H t v):(t=flD v/\∀a,v≠ .ref a)\/∃a,v= .ref a/\ix t<=7/\z5w G H a (ix t):=by
 cases t<;>erw[RD] at h
 ·exact .inl (by rw[h];exact⟨rfl,nofun⟩)
 ·exact .inl (by rw[h];exact⟨rfl,nofun⟩)
 ·exact .inl (by rw[h];exact⟨rfl,nofun⟩)
 ·exact .inl (by rw[h];exact⟨rfl,nofun⟩)
 ·obtain⟨a',xs,e,s,r⟩:=h;exact .inr ⟨a',e,n8 rfl,xs,SqT.of s⟩
 ·obtain⟨a',xs,e,s,r⟩:=h;exact .inr ⟨a',e,n8 rfl,xs,s⟩
 ·obtain⟨e,xs,s,r⟩:=h;exact .inr ⟨_,e,n8 rfl,xs,s⟩
 ·obtain⟨e,⟨kvs,s,_⟩|⟨kvs,s,_⟩⟩:=h
  ·exact .inr ⟨_,e,n8 rfl, .inl ⟨kvs,s⟩⟩
  ·exact .inr ⟨_,e,n8 rfl, .inr ⟨kvs,s⟩⟩
 ·obtain⟨e,C,dx,fs,_,s,_⟩:=h;exact .inr ⟨_,e,n8 rfl,C,dx,fs,s⟩
 ·obtain⟨a',o,C,e,_,_,_,s⟩:=h;exact .inr ⟨a',e,n8 rfl,o,_,s⟩
 ·obtain⟨a',e,s⟩:=h;exact .inr ⟨a',e,n8 rfl,_,s⟩
 ·obtain⟨a',o,kvs,e,s,_⟩:=h;exact .inr ⟨a',e,n8 rfl,o,kvs,s⟩
theorem ix0{t:D}(h:ix t=0): ∃ds,t= .tup ds:=by cases t<;>first|exact⟨_,rfl⟩|cases h
theorem ix1{t:D}(h:ix t=1): ∃ds,t= .ro ds:=by cases t<;>first|exact⟨_,rfl⟩|cases h
theorem ix2{t:D}(h:ix t=2): ∃l ds,t= .lst l ds:=by cases t<;>first|exact⟨_,_,rfl⟩|cases h
theorem ix3{t:D}(h:ix t=3): ∃l ks vs,t= .dct l ks vs:=by cases t<;>first|exact⟨_,_,_,rfl⟩|cases h
theorem ix4{t:D}(h:ix t=4): ∃l c ns vs,t= .obj l c ns vs:=by cases t<;>first|exact⟨_,_,_,_,rfl⟩|cases h
theorem ix5{t:D}(h:ix t=5): ∃c,t= .exc c:=by cases t<;>first|exact⟨_,rfl⟩|cases h
theorem ix6{t:D}(h:ix t=6): ∃c,t= .fn c:=by cases t<;>first|exact⟨_,rfl⟩|cases h
theorem ix7{t:D}(h:ix t=7): ∃ks vs,t= .fdc ks vs:=by cases t<;>first|exact⟨_,_,rfl⟩|cases h
theorem RD.ixE{t t':D}{v:V}(k:KD G.K H)(h:RD G ρ H t v)(h':RD G ρ H t' v):t=t'\/ix t=ix t':=by
 rcases RD.kind h with⟨e,n⟩|⟨a,e,l,q⟩<;>rcases RD.kind h' with⟨e',n'⟩|⟨a',e',l',q'⟩
 ·exact .inl (e.trans e'.symm)
 ·exact absurd e' (n _)
 ·exact absurd e (n' _)
 ·cases e.symm.trans e';exact .inr (z9q k q q' l l')
section
variable(k:KD G.K H){n:Nat}(inj: ∀i j,i<n->j<n->ρ i=ρ j->i=j)
include k inj
mutual
theorem RD.uniq: ∀(t t':D) (v:V),RD G ρ H t v->RD G ρ H t' v->(∀l∈y4 t,l<n)->(∀l∈y4 t',l<n)->t=t'
 | .non,t',v,h,h',_,_=>(RD.kind h').elim (fun e=>by erw[RD] at h;subst h;exact e.1.symm) fun⟨_,e,_⟩=>by erw[RD] at h;subst h;cases e
 | .bool b,t',v,h,h',_,_=>(RD.kind h').elim (fun e=>by erw[RD] at h;subst h;exact e.1.symm) fun⟨_,e,_⟩=>by erw[RD] at h;subst h;cases e
 | .int b,t',v,h,h',_,_=>(RD.kind h').elim (fun e=>by erw[RD] at h;subst h;exact e.1.symm) fun⟨_,e,_⟩=>by erw[RD] at h;subst h;cases e
 | .str b,t',v,h,h',_,_=>(RD.kind h').elim (fun e=>by erw[RD] at h;subst h;exact e.1.symm) fun⟨_,e,_⟩=>by erw[RD] at h;subst h;cases e
 | .exc c,t',v,h,h',lb,lb'=>by
  rcases RD.ixE k h h' with e|e
  ·exact e
  obtain⟨c',rfl⟩:=ix5 e.symm
  erw[RD] at h h'
  obtain⟨a,o,C,rfl,h1,h2,_,s⟩:=h
  obtain⟨a',o',C',e,h1',h2',_,s'⟩:=h'
  cases e
  rw[s] at s';cases s'
  rw[h2] at h2';cases h2'
  rw[G.ci c c' C h1 h1']
 | .fn c,t',v,h,h',lb,lb'=>by
  rcases RD.ixE k h h' with e|e
  ·exact e
  obtain⟨c',rfl⟩:=ix6 e.symm
  erw[RD] at h h'
  obtain⟨a,rfl,h1⟩:=h
  obtain⟨a',e,h1'⟩:=h'
  cases e
  rw[G.ci c c' a h1 h1']
 | .tup ds,t',v,h,h',lb,lb'=>by
  rcases RD.ixE k h h' with e|e
  ·exact e
  obtain⟨es,rfl⟩:=ix0 e.symm
  obtain⟨a,xs,rfl,s,r⟩:=h.tupq
  obtain⟨a',ys,e,s',r'⟩:=h'.tupq
  cases e
  cases SqT.two k s s'
  rw[RDs.uniq ds es xs r r' lb lb']
 | .fdc ks vs,t',v,h,h',lb,lb'=>by
  rcases RD.ixE k h h' with e|e
  ·exact e
  obtain⟨ks',vs',rfl⟩:=ix7 e.symm
  erw[RD] at h h'
  obtain⟨a,o,kvs,rfl,s,s2,r⟩:=h
  obtain⟨a',o',kvs',e,s',s2',r'⟩:=h'
  cases e
  rw[s] at s';cases s'
  rw[s2,s2',RDs.uniq vs vs' _ r r' lb lb']
 | .ro ds,t',v,h,h',lb,lb'=>by
  rcases RD.ixE k h h' with e|e
  ·exact e
  obtain⟨es,rfl⟩:=ix1 e.symm
  erw[RD] at h h'
  obtain⟨a,xs,rfl,s,r⟩:=h
  obtain⟨a',ys,e,s',r'⟩:=h'
  cases e
  cases roL_two k s s'
  rw[RDs.uniq ds es xs r r' lb lb']
 | .lst l ds,t',v,h,h',lb,lb'=>by
  rcases RD.ixE k h h' with e|e
  ·exact e
  obtain⟨l',es,rfl⟩:=ix2 e.symm
  erw[RD] at h h'
  obtain⟨rfl,xs,s,r⟩:=h
  obtain⟨e,ys,s',r'⟩:=h'
  cases inj l l' (lb l (.head _)) (lb' l' (.head _)) (V.ref.inj e)
  rw[s] at s';cases s'
  rw[RDs.uniq ds es xs r r' (fun j hj=>lb j (.tail _ hj)) fun j hj=>lb' j (.tail _ hj)]
 | .dct l ks vs,t',v,h,h',lb,lb'=>by
  rcases RD.ixE k h h' with e|e
  ·exact e
  obtain⟨l',ks',vs',rfl⟩:=ix3 e.symm
  erw[RD] at h h'
  obtain⟨rfl,q⟩:=h
  obtain⟨e,q'⟩:=h'
  cases inj l l' (lb l (.head _)) (lb' l' (.head _)) (V.ref.inj e)
  have b1: ∀j∈labsL vs,j<n:=fun j hj=>lb j (.tail _ (b6 _ hj))
  have b2: ∀j∈labsL vs',j<n:=fun j hj=>lb' j (.tail _ (b6 _ hj))
  rcases q with⟨kvs,s,s2,r⟩|⟨kvs,s,s2,r⟩<;>rcases q' with⟨kvs',s',s2',r'⟩|⟨kvs',s',s2',r'⟩<;>rw[s] at s'<;>cases s'
  ·rw[s2,s2',RDs.uniq vs vs' _ r r' b1 b2]
  ·rw[s2,s2',RDs.uniq vs vs' _ r r' b1 b2]
 | .obj l c ns vs,t',v,h,h',lb,lb'=>by
  rcases RD.ixE k h h' with e|e
  ·exact e
  obtain⟨l',c',ns',vs',rfl⟩:=ix4 e.symm
  erw[RD] at h h'
  obtain⟨rfl,C,dx,fs,hC,s,s2,r⟩:=h
  obtain⟨e,C',dx',fs',hC',s',s2',r'⟩:=h'
  cases inj l l' (lb l (.head _)) (lb' l' (.head _)) (V.ref.inj e)
  rw[s] at s';cases s'
  rw[s2,s2',G.ci c c' C hC hC',RDs.uniq vs vs' _ r r' (fun j hj=>lb j (.tail _ hj)) fun j hj=>lb' j (.tail _ hj)]
theorem RDs.uniq: ∀(t t':List D) (v:List V),RDs G ρ H t v->RDs G ρ H t' v->(∀l∈labsL t,l<n)->(∀l∈labsL t',l<n)->t=t'
 |[],t',v,h,h',_,_=>by
  erw[RDs] at h;subst h
  cases t' with
  |nil=>rfl
  |cons d ds=>erw[RDs] at h';obtain⟨_,_,e,_⟩:=h';cases e
 |d::ds,t',v,h,h',lb,lb'=>by
  erw[RDs] at h
  obtain⟨x,q,rfl,h1,h2⟩:=h
  cases t' with
  |nil=>erw[RDs] at h';cases h'
  |cons d' ds'=>
   erw[RDs] at h'
   obtain⟨_,_,e,h1',h2'⟩:=h'
   cases e
   rw[RD.uniq d d' x h1 h1' (fun l hl=>lb l (by erw[labsL];exact b8 _ hl)) fun l hl=>lb' l (by erw[labsL];exact b8 _ hl),
    RDs.uniq ds ds' q h2 h2' (fun l hl=>lb l (by erw[labsL];exact b6 _ hl)) fun l hl=>lb' l (by erw[labsL];exact b6 _ hl)]
end
end
end
end Mi
namespace Mi
open PySem L2 PySem.Spec PyProof.Rows
inductive RF where
 |ok (t:D) (ts:List D) (n:Nat)|ex (d:D) (ts:List D) (n:Nat)|no
noncomputable abbrev FM:=List D->Nat->RF
structure z3g(G:Gx)(ρ:Nat->Addr)(n:Nat)(ts:List D)(vs:List V)(H:Hp)(ρ':Nat->Addr)(n':Nat)(ts':List D)(H':Hp):Prop where
 old: ∀l,l<n->ρ' l=ρ l
 le:n<=n'
 inj: ∀i j,i<n'->j<n'->ρ' i=ρ' j->i=j
 dom: ∀l,l<n'->∃o,H' (ρ' l)=some o
 rd:RDs G ρ' H' ts' vs
 lb: ∀l∈labsL ts',l<n'/\(l<n->l∈labsL ts)
 fr: ∀a o,H a=some o->(∃o',H' a=some o')/\((∀l∈labsL ts,a≠ρ l)->H' a=some o)
 new: ∀l,n<=l->l<n'->H (ρ' l)=none
 kd:KD G.K H'
section
variable{G:Gx}{ρ ρ':Nat->Addr}{H H':Hp}
theorem z7E(k:Key):y4 (z3F k)=[]:=by cases k<;>erw[z3F,y4]
theorem z7F: ∀ks:List Key,labsL (ks.map z3F)=[]
 |[]=>by erw[l3,labsL]
 |k::ks=>by erw[b9,labsL,z7E,z7F ks,c9]
theorem z4J(z:Key⊕List Key):y4 (nkD z)=[]:=by
 cases z with
 |inl k=>exact z7E k
 |inr ks=>erw[nkD,y4,z7F]
mutual
theorem zbV: ∀(t:D) (v:V),RD G ρ H t v->∀l∈y4 t,∃o,H (ρ l)=some o/\(∀xs,o≠ .tup xs)/\∀u w,o≠ .frz u w
 | .non,v,h,l,hl=>by erw[y4] at hl;cases hl
 | .bool b,v,h,l,hl=>by erw[y4] at hl;cases hl
 | .int b,v,h,l,hl=>by erw[y4] at hl;cases hl
 | .str b,v,h,l,hl=>by erw[y4] at hl;cases hl
 | .exc b,v,h,l,hl=>by erw[y4] at hl;cases hl
 | .fn b,v,h,l,hl=>by erw[y4] at hl;cases hl
 | .tup ds,v,h,l,hl=>by
  erw[y4,RD] at h hl
  obtain⟨a,xs,_,_,r⟩:=h
  exact labL_mut ds xs r l hl
 | .fdc ks vs,v,h,l,hl=>by
  erw[y4,RD] at h hl
  obtain⟨a,o,kvs,_,_,_,r⟩:=h
  exact labL_mut vs _ r l hl
 | .ro ds,v,h,l,hl=>by
  erw[y4,RD] at h hl
  obtain⟨a,xs,_,_,r⟩:=h
  exact labL_mut ds xs r l hl
 | .lst k ds,v,h,l,hl=>by
  erw[y4,RD] at h hl
  obtain⟨_,xs,s,r⟩:=h
  rcases e7.mp hl with rfl|hl
  ·exact⟨_,s,(fun _ q=>nomatch q),(fun _ _ q=>nomatch q)⟩
  ·exact labL_mut ds xs r l hl
 | .dct k ks vs,v,h,l,hl=>by
  erw[y4,RD] at h hl
  obtain⟨_,⟨kvs,s,s2,r⟩|⟨kvs,s,s2,r⟩⟩:=h
  ·rcases e7.mp hl with rfl|hl
   ·exact⟨_,s,(fun _ q=>nomatch q),(fun _ _ q=>nomatch q)⟩
   ·rcases c8.mp hl with hl|hl
    ·rw[s2] at hl
     obtain⟨d,hd,hl⟩:=j6 hl
     rcases e7.mp hd with rfl|hd
     ·erw[y4] at hl;cases hl
     obtain⟨p,_,rfl⟩:=m7.mp hd
     obtain⟨kk,_⟩:=p
     cases kk<;>erw[z3F,y4] at hl<;>cases hl
    ·exact labL_mut vs _ r l hl
  ·rcases e7.mp hl with rfl|hl
   ·exact⟨_,s,(fun _ q=>nomatch q),(fun _ _ q=>nomatch q)⟩
   ·rcases c8.mp hl with hl|hl
    ·rw[s2] at hl
     obtain⟨d,hd,hl⟩:=j6 hl
     obtain⟨p,_,rfl⟩:=m7.mp hd
     erw[dkD,y4] at hl
     obtain⟨d,hd,hl⟩:=j6 hl
     obtain⟨kk,_,rfl⟩:=m7.mp hd
     rw[z4J] at hl;cases hl
    ·exact labL_mut vs _ r l hl
 | .obj k c ns vs,v,h,l,hl=>by
  erw[y4,RD] at h hl
  obtain⟨_,C,dx,fs,_,s,_,r⟩:=h
  rcases e7.mp hl with rfl|hl
  ·exact⟨_,s,(fun _ q=>nomatch q),(fun _ _ q=>nomatch q)⟩
  ·exact labL_mut vs _ r l hl
theorem labL_mut: ∀(t:List D) (v:List V),RDs G ρ H t v->∀l∈labsL t,∃o,H (ρ l)=some o/\(∀xs,o≠ .tup xs)/\∀u w,o≠ .frz u w
 |[],v,h,l,hl=>by erw[labsL] at hl;cases hl
 |d::ds,v,h,l,hl=>by
  erw[labsL,RDs] at h hl
  obtain⟨x,r,_,h1,h2⟩:=h
  rcases c8.mp hl with hl|hl
  ·exact zbV d x h1 l hl
  ·exact labL_mut ds r h2 l hl
end
theorem z6m{kvs:List (Key×V)}{l:Nat}(hl:l∈labsL (kvs.map fun p=>z3F p.1)):False:=by
 obtain⟨d,hd,hl⟩:=j6 hl
 obtain⟨p,_,rfl⟩:=m7.mp hd
 obtain⟨kk,_⟩:=p
 cases kk<;>erw[z3F,y4] at hl<;>cases hl
theorem z4K{kvs:List (NK×V)}{l:Nat}(hl:l∈labsL (kvs.map fun p=>dkD p.1)):False:=by
 obtain⟨d,hd,hl⟩:=j6 hl
 obtain⟨p,_,rfl⟩:=m7.mp hd
 erw[dkD,y4] at hl
 obtain⟨d,hd,hl⟩:=j6 hl
 obtain⟨kk,_,rfl⟩:=m7.mp hd
 rw[z4J] at hl;cases hl
mutual
theorem z6n(l:Nat): ∀(t:D) (v:V),RD G ρ H t v->l∈y4 t->(Y7 l t).isSome=true
 | .non,v,h,hl=>by erw[y4] at hl;cases hl
 | .bool b,v,h,hl=>by erw[y4] at hl;cases hl
 | .int b,v,h,hl=>by erw[y4] at hl;cases hl
 | .str b,v,h,hl=>by erw[y4] at hl;cases hl
 | .exc b,v,h,hl=>by erw[y4] at hl;cases hl
 | .fn b,v,h,hl=>by erw[y4] at hl;cases hl
 | .tup ds,v,h,hl=>by
  erw[y4,RD,Y7] at h hl⊢
  obtain⟨a,xs,_,_,r⟩:=h
  exact findL_some l ds xs r hl
 | .fdc ks vs,v,h,hl=>by
  erw[y4,RD,Y7] at h hl⊢
  obtain⟨a,o,kvs,_,_,_,r⟩:=h
  exact findL_some l vs _ r hl
 | .ro ds,v,h,hl=>by
  erw[y4,RD,Y7] at h hl⊢
  obtain⟨a,xs,_,_,r⟩:=h
  exact findL_some l ds xs r hl
 | .lst k ds,v,h,hl=>by
  erw[y4,RD,Y7] at h hl⊢
  obtain⟨_,xs,s,r⟩:=h
  by_cases e:k=l
  ·rw[if_pos e];rfl
  ·rw[if_neg e]
   rcases e7.mp hl with q|q
   ·exact absurd q.symm e
   ·exact findL_some l ds xs r q
 | .dct k ks vs,v,h,hl=>by
  erw[y4,RD,Y7] at h hl⊢
  obtain⟨_,⟨kvs,s,s2,r⟩|⟨kvs,s,s2,r⟩⟩:=h
  ·by_cases e:k=l
   ·rw[if_pos e];rfl
   ·rw[if_neg e]
    rcases e7.mp hl with q|q
    ·exact absurd q.symm e
    ·rcases c8.mp q with q|q
     ·rw[s2] at q;exact(z6m q).elim
     ·exact findL_some l vs _ r q
  ·by_cases e:k=l
   ·rw[if_pos e];rfl
   ·rw[if_neg e]
    rcases e7.mp hl with q|q
    ·exact absurd q.symm e
    ·rcases c8.mp q with q|q
     ·rw[s2] at q;exact(z4K q).elim
     ·exact findL_some l vs _ r q
 | .obj k c ns vs,v,h,hl=>by
  erw[y4,RD,Y7] at h hl⊢
  obtain⟨_,C,dx,fs,_,s,_,r⟩:=h
  by_cases e:k=l
  ·rw[if_pos e];rfl
  ·rw[if_neg e]
   rcases e7.mp hl with q|q
   ·exact absurd q.symm e
   ·exact findL_some l vs _ r q
theorem findL_some(l:Nat): ∀(t:List D) (v:List V),RDs G ρ H t v->l∈labsL t->(findL l t).isSome=true
 |[],v,h,hl=>by erw[labsL] at hl;cases hl
 |d::ds,v,h,hl=>by
  erw[labsL,RDs,findL] at h hl⊢
  obtain⟨x,r,_,h1,h2⟩:=h
  cases e:Y7 l d with
  |some y=>rfl
  |none=>
   rcases c8.mp hl with q|q
   ·have:=z6n l d x h1 q
    rw[e] at this;cases this
   ·exact findL_some l ds r h2 q
end
theorem z3g.stays{n n':Nat}{ts ts':List D}{vs:List V}(P:z3g G ρ n ts vs H ρ' n' ts' H')(r:RDs G ρ H ts vs):J3 H H':=by
 refine⟨fun b xs e=>(P.fr b _ e).2 fun l hl z=> ?_,fun b o u e=>(P.fr b _ e).2 fun l hl z=> ?_⟩
 ·obtain⟨o,q,q1,_⟩:=labL_mut ts vs r l hl
  rw[<-z,e] at q;cases q;exact q1 _ rfl
 ·obtain⟨o,q,_,q1⟩:=labL_mut ts vs r l hl
  rw[<-z,e] at q;cases q;exact q1 _ _ rfl
section
variable(k:KD G.K H){n:Nat}(inj: ∀i j,i<n->j<n->ρ i=ρ j->i=j){ts:List D}{vs:List V}(r:RDs G ρ H ts vs)(lb: ∀l∈labsL ts,l<n)
include k inj r lb
mutual
theorem z2U: ∀(t:D) (v:V),RD G ρ H t v->(∀l∈y4 t,l<n)->rp (fun l=>findL l ts) t=t
 | .non,v,h,hl=>rfl
 | .bool b,v,h,hl=>rfl
 | .int b,v,h,hl=>rfl
 | .str b,v,h,hl=>rfl
 | .exc b,v,h,hl=>rfl
 | .fn b,v,h,hl=>rfl
 | .tup ds,v,h,hl=>by
  erw[y4,RD,rp] at h hl⊢
  obtain⟨a,xs,_,_,r1⟩:=h
  rw[rpL_find_id ds xs r1 hl]
 | .fdc ks vs,v,h,hl=>by
  erw[y4,RD,rp] at h hl⊢
  obtain⟨a,o,kvs,_,_,_,r1⟩:=h
  rw[rpL_find_id vs _ r1 hl]
 | .ro ds,v,h,hl=>by
  erw[y4,RD,rp] at h hl⊢
  obtain⟨a,xs,_,_,r1⟩:=h
  rw[rpL_find_id ds xs r1 hl]
 | .lst l ds,v,h,hl=>by
  erw[rp]
  cases e:findL l ts with
  |some d=>
   dsimp only
   obtain⟨q1,q2⟩:=findL_rd l ts vs d r e
   have h':=h
   erw[RD] at h'
   obtain⟨rfl,_⟩:=h'
   exact RD.uniq k inj _ _ _ q1 h (fun j hj=>lb j (q2 j hj)) hl
  |none=>
   dsimp only
   erw[y4,RD] at h hl
   obtain⟨_,xs,s,r1⟩:=h
   rw[rpL_find_id ds xs r1 fun j hj=>hl j (b7 _ hj)]
 | .dct l ks vs',v,h,hl=>by
  erw[rp]
  cases e:findL l ts with
  |some d=>
   dsimp only
   obtain⟨q1,q2⟩:=findL_rd l ts vs d r e
   have h':=h
   erw[RD] at h'
   obtain⟨rfl,_⟩:=h'
   exact RD.uniq k inj _ _ _ q1 h (fun j hj=>lb j (q2 j hj)) hl
  |none=>
   dsimp only
   erw[y4,RD] at h hl
   obtain⟨_,⟨kvs,s,s2,r1⟩|⟨kvs,s,s2,r1⟩⟩:=h
   ·rw[rpL_find_id vs' _ r1 fun j hj=>hl j (b7 _ (b6 _ hj))]
   ·rw[rpL_find_id vs' _ r1 fun j hj=>hl j (b7 _ (b6 _ hj))]
 | .obj l c ns vs',v,h,hl=>by
  erw[rp]
  cases e:findL l ts with
  |some d=>
   dsimp only
   obtain⟨q1,q2⟩:=findL_rd l ts vs d r e
   have h':=h
   erw[RD] at h'
   obtain⟨rfl,_⟩:=h'
   exact RD.uniq k inj _ _ _ q1 h (fun j hj=>lb j (q2 j hj)) hl
  |none=>
   dsimp only
   erw[y4,RD] at h hl
   obtain⟨_,C,dx,fs,_,s,_,r1⟩:=h
   rw[rpL_find_id vs' _ r1 fun j hj=>hl j (b7 _ hj)]
theorem rpL_find_id: ∀(t:List D) (v:List V),RDs G ρ H t v->(∀l∈labsL t,l<n)->rpL (fun l=>findL l ts) t=t
 |[],v,h,hl=>rfl
 |d::ds,v,h,hl=>by
  erw[labsL,RDs,rpL] at h hl⊢
  obtain⟨x,q,_,h1,h2⟩:=h
  rw[z2U d x h1 fun j hj=>hl j (b8 _ hj),rpL_find_id ds q h2 fun j hj=>hl j (b6 _ hj)]
end
theorem X4: ∀(t:List (Option D)) (v:List (Option V)),Sl G ρ H t v->(∀l∈Z2 t,l<n)->rpO (fun l=>findL l ts) t=t
 |[],v,h,hl=>rfl
 |none::r',v,h,hl=>by
  erw[Z2,Sl,rpO] at h hl⊢
  obtain⟨o,q,_,h⟩:=h
  rw[X4 r' q h hl]
 |some d::ds,v,h,hl=>by
  erw[Z2,Sl,rpO] at h hl⊢
  obtain⟨x,q,_,h1,h2⟩:=h
  rw[z2U k inj r lb d x h1 fun j hj=>hl j (b8 _ hj),X4 ds q h2 fun j hj=>hl j (b6 _ hj)]
end
variable{F:Fy}{σv tv:List (Option V)}{s:Stt}{np:Nat}
theorem MR.call{ts ts':List D}{vs:List V}{n':Nat}(M:MR G F.toFx ρ H σv tv s)(r:RDs G ρ H ts vs)(lb:LB F.toFx ρ s.n (labsL ts))(P:z3g G ρ s.n ts vs H ρ' n' ts' H')
 (hc: ∀l∈Q7 s,l∈labsL ts->(findL l ts').isSome=true):MR G F.toFx ρ' H' σv tv {σ:=rpO (fun l=>findL l ts') s.σ,tm:=rpO (fun l=>findL l ts') s.tm,n:=n'}:=by
 have st:=P.stays r
 have step: ∀l∈Q7 s,ρ' l=ρ l/\(match findL l ts' with|some d=>RD G ρ' H' d (.ref (ρ l))|none=> ∀o,H (ρ l)=some o->H' (ρ l)=some o):=fun l hl=>by
  have ol:=P.old l (M.lab l hl)
  refine⟨ol, ?_⟩
  cases e:findL l ts' with
  |some d=>
   have q:=(findL_rd l ts' vs d P.rd e).1
   rw[ol] at q;exact q
  |none=>
   intro o e1
   refine(P.fr _ _ e1).2 fun j hj z=> ?_
   have:l=j:=M.inj l j (M.lab l hl) (lb j hj).1 z
   subst this
   have:=hc l hl hj
   rw[e] at this;cases this
 have hn: ∀l,l<n'->l<s.n\/H (ρ' l)=none:=fun l hl=>by
  by_cases h:l<s.n
  ·exact .inl h
  ·exact .inr (P.new l (C9.mp h) hl)
 have hlab: ∀(xs:List (Option D)),(∀l∈Z2 xs,l∈Q7 s)->∀l∈Z2 (rpO (fun l=>findL l ts') xs),l<n'/\(l<s.n->l∈Q7 s\/l∈labsL ts):=fun xs hx l h=>by
  rcases z1L l xs h with q|⟨k,d,q1,q2,q3⟩
  ·exact⟨i7 (M.lab l (hx l q)) P.le,fun _=> .inl (hx l q)⟩
  ·obtain⟨b1,b2⟩:=P.lb l ((findL_rd k ts' vs d P.rd q2).2 l q3)
   exact⟨b1,fun z=> .inr (b2 z)⟩
 have all: ∀l∈Q7 {σ:=rpO (fun l=>findL l ts') s.σ,tm:=rpO (fun l=>findL l ts') s.tm,n:=n'},l<n'/\(l<s.n->l∈Q7 s\/l∈labsL ts):=fun l h=>by
  rcases c8.mp h with h|h
  ·exact hlab s.σ (fun l q=>b8 _ q) l h
  ·exact hlab s.tm (fun l q=>b6 _ q) l h
 refine⟨Sl.rp st M.sl fun l hl=>step l (b8 _ hl),Sl.rp st M.tm fun l hl=>step l (b6 _ hl),P.inj,P.dom,fun l h=>(all l h).1,fun l h=> ?_,fun a o e=> ?_,P.kd,fun l hl z=> ?_,⟨s0 M.bas.1 P.le,fun l hl=> ?_⟩⟩
 ·rcases hn l (all l h).1 with q|q
  ·rw[P.old l q]
   rcases(all l h).2 q with z|z
   ·exact M.own l z
   ·exact(lb l z).2
  ·exact .inr (M.fresh0 q)
 ·obtain⟨⟨o1,e1⟩,e2⟩:=M.frm a o e
  obtain⟨e3,e4⟩:=P.fr a o1 e1
  refine⟨e3,fun nA=> ?_⟩
  have e5:=e2 nA
  rw[e1] at e5;cases e5
  refine e4 fun l hl z=> ?_
  rcases(lb l hl).2 with q|q
  ·exact nA (z▸q)
  ·rw[<-z,e] at q;cases q
 ·rcases hn l hl with q|q
  ·rw[P.old l q] at z;exact M.frb l q z
  ·obtain⟨⟨o,e⟩,_⟩:=F.zA _ z
   obtain⟨⟨o',e'⟩,_⟩:=M.frm _ o e
   rw[q] at e';cases e'
 ·rw[P.old l (i7 hl M.bas.1)];exact M.bas.2 l hl
theorem MR.call0{ts:List D}{vs:List V}{n':Nat}(M:MR G F.toFx ρ H σv tv s)(r:RDs G ρ H ts vs)(lb:LB F.toFx ρ s.n (labsL ts))(P:z3g G ρ s.n ts vs H ρ' n' ts H'):MR G F.toFx ρ' H' σv tv {s with n:=n'}:=by
 have hf: ∀l∈labsL ts,(findL l ts).isSome=true:=fun l hl=>findL_some l ts vs r hl
 have M2:=M.call r lb P fun l _ hl=>hf l hl
 rw[X4 M.kd M.inj r (fun l hl=>(lb l hl).1) s.σ σv M.sl fun l hl=>M.lab l (b8 _ hl),X4 M.kd M.inj r (fun l hl=>(lb l hl).1) s.tm tv M.tm fun l hl=>M.lab l (b6 _ hl)] at M2
 exact M2
open Classical in
noncomputable def z0r(r:RF)(ts:List D):M D:=fun s=>match r with
 | .ok t ts' n'=>if ts'=ts then .ok t {s with n:=n'} else
  if ∀l∈Q7 s,l∈labsL ts->(findL l ts').isSome=true then .ok t {σ:=rpO (fun l=>findL l ts') s.σ,tm:=rpO (fun l=>findL l ts') s.tm,n:=n'} else .no
 |_=> .no
noncomputable def Y1(f:FM)(ms:List (M D)):M D:=bd (Z3 ms) fun ts s=>z0r (f ts s.n) ts s
noncomputable def spM(G:Gx)(np:Nat)(f:FM):Sp:=fun vs H Q _=>vs.length=np/\∃ρ n ts,RDs G ρ H ts vs/\(∀i j,i<n->j<n->ρ i=ρ j->i=j)/\(∀l,l<n->∃o,H (ρ l)=some o)/\(∀l∈labsL ts,l<n)/\KD G.K H/\match f ts n with
 | .ok t ts' n'=> ∀ρ' v H',z3g G ρ n ts vs H ρ' n' ts' H'->RD G ρ' H' t v->(∀l∈y4 t,l<n'/\(l<n->l∈labsL ts))->Q v H'
 |_=>False
theorem z0N{ts:List D}{vs:List V}{f:FM}{Q:VK}{E:XK}(hl:vs.length=np)(M:MRL G F.toFx ρ H σv tv s ts vs)(W:wM G F σv tv (z0r (f ts s.n) ts s) Q):spM G np f vs H Q E:=by
 refine⟨hl,ρ,s.n,ts,M.rd,M.m.inj,M.m.dom,fun l h=>(M.lb l h).1,M.m.kd, ?_⟩
 cases e:f ts s.n with
 |no=>rw[e] at W;exact W
 |ex d ts' n'=>rw[e] at W;exact W
 |ok t ts' n'=>
  rw[e] at W
  intro ρ' v H' P rd lbt
  have own: ∀l∈y4 t,F.A0 (ρ' l)\/F.H0 (ρ' l)=none:=fun l h=>by
   obtain⟨b1,b2⟩:=lbt l h
   by_cases hn:l<s.n
   ·rw[P.old l hn];exact(M.lb l (b2 hn)).2
   ·exact .inr (M.m.fresh0 (P.new l (C9.mp hn) b1))
  unfold z0r at W
  dsimp only at W
  split at W
  ·rename_i et
   subst et
   exact W.out (M.m.call0 M.rd M.lb P) rd fun l h=>⟨(lbt l h).1,own l h⟩
  ·split at W
   ·rename_i hc
    exact W.out (M.m.call M.rd M.lb P hc) rd fun l h=>⟨(lbt l h).1,own l h⟩
   ·exact False.elim W
theorem z06: ∀(ms:List (M D)) (s:Stt) (ts:List D) (s':Stt),Z3 ms s= .ok ts s'->ts.length=ms.length:=by
 intro ms
 induction ms with
 |nil=>intro s ts s' e;erw[Z3,rt,Res.ok.injEq] at e;rw[<-e.1];rfl
 |cons m ms ih=>
  intro s ts s' e
  erw[Z3,bd,psh] at e
  cases e1:m s with
  |ok t s1=>
   erw[e1] at e
   cases e2:Z3 ms (s1.psh t) with
   |ok ys s2=>
    erw[e2,pop] at e
    cases e3:s2.tm with
    |nil=>erw[e3] at e;cases e
    |cons o r=>
     cases o with
     |none=>erw[e3] at e;cases e
     |some t'=>
      erw[e3,rt,Res.ok.injEq] at e
      rw[<-e.1,i5,i5,ih _ _ _ e2]
   |ex d s2=>erw[e2] at e;cases e
   |no=>erw[e2] at e;cases e
  |ex d s1=>erw[e1] at e;cases e
  |no=>erw[e1] at e;cases e
theorem se_call{X:Cx}{e:Expr}{es:List Expr}{pos p:Pos}{CX:CXT}{k:Nat}{fa:Addr}{fd:FuncData}{ps:List Str}{x:Str}{E:XK}{f:FM}{ms:List (M D)}(hk:X.K=G.K)(Fn:J1 X.prog X.w X.K X.mg X.base CX k fa fd ps (spM G ps.length f))(hr:U5 k X.A)(hg:Gl X x)(hm:X.mg x=some (.ref fa))(hkp:W.keepIn X.K (.ref fa)=true)(hb:J2 X.K fd ps [])(hx:Q5 CX X E)
 (ha:SA X G F (e::es) (Z3 ms)) (hln:ms.length=ps.length) (hdb:(x==("__debug__" :Str))=false:=by decide) (he:starEach (e::es) X.env=(false,eval e X.env)::starEach es X.env:=by rfl) (hpl:(backTo pos (starEach es X.env)).any (·.1)=false:=by rfl):
 SE X G F (.Call (.Name x p) (e::es) [] pos) (Y1 f ms):=by
 refine PE.imp0 (zbp Fn hr hg hm hkp hb .nil hx ha hdb he hpl) fun σ H Q ⟨tv,hs,ρ,s,M,W⟩=>⟨tv,hs,ρ,s,M, ?_⟩
 unfold Y1 bd at W
 cases e1:Z3 ms s with
 |ex d s1=>rw[e1] at W;exact W
 |no=>rw[e1] at W;exact W
 |ok ts s1=>
  rw[e1] at W
  intro ρ1 vs H1 M1
  rw[c9]
  exact z0N (by rw[<-M1.rd.length,z06 ms s ts s1 e1,hln]) M1 W
noncomputable def z1n(nl:Nat)(mb:MS):FM:=fun ts n=>match mb {σ:=ts.map some++e6 (nl -ts.length) none,tm:=ts.map some,n:=n} with
 | .nx s'=>match Z1 s'.tm with|some ts'=> .ok .non ts' s'.n|none=> .no
 | .rt t s'=>match Z1 s'.tm with|some ts'=> .ok t ts' s'.n|none=> .no
 | .ex d s'=>match Z1 s'.tm with|some ts'=> .ex d ts' s'.n|none=> .no
 |_=> .no
noncomputable def z4L(G:Gx)(ρ:Nat->Addr)(n:Nat)(ts:List D)(vs:List V)(H:Hp)(lb: ∀l∈labsL ts,l<n)(dom: ∀l,l<n->∃o,H (ρ l)=some o):Fy where
 A0:=fun a=> ∃l∈labsL ts,a=ρ l
 H0:=H
 Z:=fun a=>(∃o,H a=some o)/\∀l,l<n->a≠ρ l
 zA:=fun a z=>⟨z.1,fun⟨l,hl,e⟩=>z.2 l (lb l hl) e⟩
 aH:=fun a ⟨l,hl,e⟩=>e▸dom l (lb l hl)
 n0:=n
 ρ0:=ρ
 tv0:=vs.map some
 xw:=fun _ _=>False
theorem RDs.sl: ∀{ts:List D} {vs:List V},RDs G ρ H ts vs->Sl G ρ H (ts.map some) (vs.map some)/\Z2 (ts.map some)=labsL ts
 |[],vs,h=>by erw[RDs] at h;subst h;simp[Sl,Z2,labsL]
 |d::ds,vs,h=>by
  erw[RDs] at h
  obtain⟨x,q,rfl,h1,h2⟩:=h
  obtain⟨q1,q2⟩:=RDs.sl h2
  refine⟨?_,by erw[b9,Z2,labsL,q2]⟩
  erw[b9,Sl]
  exact⟨_,_,rfl,h1,q1⟩
theorem X5{ts ts':List D}{vs:List V}{n:Nat}{lb: ∀l∈labsL ts,l<n}{dom: ∀l,l<n->∃o,H (ρ l)=some o}(inj: ∀i j,i<n->j<n->ρ i=ρ j->i=j)(M:MR G (z4L G ρ n ts vs H lb dom).toFx ρ' H' σv (vs.map some) s)(e:Z1 s.tm=some ts'):
 z3g G ρ n ts vs H ρ' s.n ts' H'/\∀l,l<s.n->((z4L G ρ n ts vs H lb dom).A0 (ρ' l)\/H (ρ' l)=none)->l<n->l∈labsL ts:=by
 have own: ∀l,l<s.n->((z4L G ρ n ts vs H lb dom).A0 (ρ' l)\/H (ρ' l)=none)->l<n->l∈labsL ts:=fun l hl q hn=>by
  have ol:=M.bas.2 l hn
  have ol:ρ' l=ρ l:=ol
  rcases q with⟨j,hj,q⟩|q
  ·rw[ol] at q
   rw[inj l j hn (lb j hj) q];exact hj
  ·rw[ol] at q
   obtain⟨o,z⟩:=dom l hn
   rw[z] at q;cases q
 obtain⟨r1,r2⟩:=Sl.all M.tm e
 refine⟨⟨M.bas.2,M.bas.1,M.inj,M.dom,r1,fun l hl=> ?_,fun a o e1=> ?_,fun l h1 h2=> ?_,M.kd⟩,own⟩
 ·rw[r2] at hl
  have m:l∈Q7 s:=b6 _ hl
  exact⟨M.lab l m,own l (M.lab l m) (M.own l m)⟩
 ·obtain⟨q1,q2⟩:=M.frm a o e1
  exact⟨q1,fun z=>q2 fun⟨l,hl,e⟩=>z l hl e⟩
 ·cases q:H (ρ' l) with
  |none=>rfl
  |some o=>
   refine absurd ⟨⟨o,q⟩,fun j hj e=> ?_⟩ (M.frb l h2)
   have oj:ρ' j=ρ j:=M.bas.2 j hj
   have:=M.inj l j h2 (i7 hj M.bas.1) (e.trans oj.symm)
   lia
theorem fn_M{P:Program}{w:World}{K:W.Frag}{mg:Str->Option Value}{base:Heap}{x qual:Str}{st:Stmt}{fa:Addr}{fd:FuncData}{N ps:List Str}{k:Nat}{mb:MS}(Fn:Fun K x qual st fa fd)(S:Z4 N ps (y0 st))(hG:G.K=K)
 (hb: ∀(cdv:Value) (A:Around) (outer:List Env) (s:Shared) (H:Hp) (E:XK) (F:Fy),U5 k (A.deeper (envOfC qual (y0 st) s.heap.objs.size fa cdv))->SSs (cxOf CX0 P w K mg base N qual (y0 st) fa cdv A outer s H E).nox G F (W5 st) mb):
 J1 P w K mg base CX0 (k+1) fa fd ps (spM G ps.length (z1n N.length mb)):=by
 refine Fn.ok S (fun vs H Q E h=>h.1) fun cdv A outer s H vs Q E hr h=> ?_
 obtain⟨hl,ρ,n,ts,r,inj,dom,lb,kd,W⟩:=h
 refine⟨_,hb cdv A outer s H E (z4L G ρ n ts vs H lb dom) hr,vs.map some,D5 _,ρ,{σ:=ts.map some++e6 (N.length -ts.length) none,tm:=ts.map some,n:=n}, ?_, ?_⟩
 ·obtain⟨r1,r2⟩:=RDs.sl r
  have hlen:=r.length
  have sub: ∀l∈Q7 {σ:=ts.map some++e6 (N.length -ts.length) none,tm:=ts.map some,n:=n},l∈labsL ts:=fun l h=>by
   rcases c8.mp h with h|h
   ·have h:l∈Z2 (ts.map some++e6 (N.length -ts.length) none):=h
    rw[Z7] at h
    rcases c8.mp h with h|h
    ·rw[<-r2];exact h
    ·exact absurd h (z05 _)
   ·rw[<-r2];exact h
  refine⟨?_,r1,inj,dom,fun l h=>lb l (sub l h),fun l h=> .inl ⟨l,sub l h,rfl⟩,fun a o e=>⟨⟨o,e⟩,fun _=>e⟩,kd,fun l hl z=>z.2 l hl rfl,⟨e8 _,fun l _=>rfl⟩⟩
  show Sl G ρ H _ (vs.map some++e6 (N.length -vs.length) none)
  rw[<-hlen]
  exact r1.append (Sl.none_map _)
 ·unfold z1n at W
  cases e:mb {σ:=ts.map some++e6 (N.length -ts.length) none,tm:=ts.map some,n:=n} with
  |nx s'=>
   erw[e] at W
   cases ea:Z1 s'.tm with
   |none=>erw[ea] at W
   |some ts'=>
    erw[ea] at W
    intro ρ' σv' H' M
    obtain⟨P,_⟩:=X5 inj M ea
    exact W ρ' .non H' P (by erw[RD]) fun l h=>by simp[y4] at h
  |rt t s'=>
   erw[e] at W
   cases ea:Z1 s'.tm with
   |none=>erw[ea] at W
   |some ts'=>
    erw[ea] at W
    intro ρ' σv' v H' M
    obtain⟨P,own⟩:=X5 inj M.m ea
    exact W ρ' v H' P M.rd1 fun l h=>⟨(M.lb1 l h).1,own l (M.lb1 l h).1 (M.lb1 l h).2⟩
  |bk s'=>erw[e] at W
  |ct s'=>erw[e] at W
  |ex d s'=>
   erw[e] at W
   cases ea:Z1 s'.tm with
   |none=>erw[ea] at W
   |some ts'=>erw[ea] at W
  |no=>erw[e] at W
end
mutual
noncomputable def sz:D->Nat
 | .tup ds=>szL ds+1
 | .ro ds=>szL ds+1
 | .fdc _ vs=>szL vs+1
 | .lst _ ds=>szL ds+1
 | .dct _ _ vs=>szL vs+1
 | .obj _ _ _ vs=>szL vs+1
 | .non=>1| .bool _=>1| .int _=>1| .str _=>1| .exc _=>1| .fn _=>1
noncomputable def szL:List D->Nat
 |[]=>0
 |d::ds=>sz d+szL ds
end
mutual
theorem z9r(l:Nat): ∀(t d:D),Y7 l t=some d->sz d<=sz t
 | .non,d,e=>by erw[Y7] at e;cases e
 | .bool b,d,e=>by erw[Y7] at e;cases e
 | .int b,d,e=>by erw[Y7] at e;cases e
 | .str b,d,e=>by erw[Y7] at e;cases e
 | .exc b,d,e=>by erw[Y7] at e;cases e
 | .fn b,d,e=>by erw[Y7] at e;cases e
 | .tup ds,d,e=>by erw[Y7,sz] at e⊢;have:=findL_sz l ds d e;lia
 | .ro ds,d,e=>by erw[Y7,sz] at e⊢;have:=findL_sz l ds d e;lia
 | .fdc ks vs,d,e=>by erw[Y7,sz] at e⊢;have:=findL_sz l vs d e;lia
 | .lst k ds,d,e=>by
  erw[Y7] at e
  by_cases h:k=l
  ·rw[if_pos h] at e;cases e;exact e8 _
  ·rw[if_neg h] at e;erw[sz];have:=findL_sz l ds d e;lia
 | .dct k ks vs,d,e=>by
  erw[Y7] at e
  by_cases h:k=l
  ·rw[if_pos h] at e;cases e;exact e8 _
  ·rw[if_neg h] at e;erw[sz];have:=findL_sz l vs d e;lia
 | .obj k c ns vs,d,e=>by
  erw[Y7] at e
  by_cases h:k=l
  ·rw[if_pos h] at e;cases e;exact e8 _
  ·rw[if_neg h] at e;erw[sz];have:=findL_sz l vs d e;lia
theorem findL_sz(l:Nat): ∀(t:List D) (d:D),findL l t=some d->sz d<=szL t
 |[],d,e=>by erw[findL] at e;cases e
 |t::ts,d,e=>by
  erw[findL] at e
  erw[szL]
  cases e1:Y7 l t with
  |some y=>rw[e1] at e;cases e;have:=z9r l t _ e1;lia
  |none=>rw[e1] at e;have:=findL_sz l ts d e;lia
end
section
variable{G:Gx}{F:Fy}{ρ:Nat->Addr}{H:Hp}{σv tv:List (Option V)}{s:Stt}{t:D}{ts ds es:List D}{v:V}{vs xs ys:List V}{l:Nat}{Q:VK}
theorem z3h(M:MR G F.toFx ρ H σv tv s)(h:RD G ρ H (.lst l ds) v)(lb: ∀j∈y4 (.lst l ds),j<s.n):l∉labsL ds:=fun hl=>by
 have h0:=h
 erw[RD] at h0
 obtain⟨rfl,xs,q,r⟩:=h0
 have:=findL_some l ds xs r hl
 cases e:findL l ds with
 |none=>rw[e] at this;cases this
 |some d=>
  obtain⟨q1,q2⟩:=findL_rd l ds xs d r e
  have e2:=RD.uniq M.kd M.inj _ _ _ q1 h (fun j hj=>lb j (by erw[y4];exact b7 _ (q2 j hj))) lb
  have e3:=findL_sz l ds d e
  rw[e2] at e3
  erw[sz] at e3
  lia
theorem MR.put2{o:HO}{d:D}(M:MR G F.toFx ρ H σv tv s)(ln:l<s.n)(ow:F.A0 (ρ l)\/F.H0 (ρ l)=none)(ts:J3 H (upd H (ρ l) o))(k:KD G.K (upd H (ρ l) o))(hd:RD G ρ (upd H (ρ l) o) d (.ref (ρ l)))(hb:LB F.toFx ρ s.n (y4 d)):
 MR G F.toFx ρ (upd H (ρ l) o) σv tv (s.put l d):=by
 have step: ∀k,k∈Q7 s->ρ k=ρ k/\(match (if k=l then some d else none:Option D) with|some d=>RD G ρ (upd H (ρ l) o) d (.ref (ρ k))|none=> ∀o',H (ρ k)=some o'->upd H (ρ l) o (ρ k)=some o'):=fun k hk=>by
  refine⟨rfl, ?_⟩
  by_cases e:k=l
  ·rw[if_pos e];subst e;exact hd
  ·rw[if_neg e]
   intro o' q
   rw[y6 (fun z=>e (M.inj k l (M.lab k hk) ln z))]
   exact q
 have sub: ∀(xs:List (Option D)) (j:Nat),j∈Z2 (rpO (fun k=>if k=l then some d else none) xs)->(∀i∈Z2 xs,i∈Q7 s)->j<s.n/\(F.A0 (ρ j)\/F.H0 (ρ j)=none):=fun xs j h hx=>by
  rcases z1L j xs h with q|⟨k,d',q1,q2,q3⟩
  ·exact⟨M.lab j (hx j q),M.own j (hx j q)⟩
  ·by_cases e:k=l
   ·rw[if_pos e] at q2;cases q2;exact hb j q3
   ·rw[if_neg e] at q2;cases q2
 have all: ∀j∈Q7 (s.put l d),j<s.n/\(F.A0 (ρ j)\/F.H0 (ρ j)=none):=fun j h=>by
  rcases c8.mp h with h|h
  ·exact sub s.σ j h fun i hi=>b8 _ hi
  ·exact sub s.tm j h fun i hi=>b6 _ hi
 refine⟨Sl.rp ts M.sl fun k hk=>step k (b8 _ hk),Sl.rp ts M.tm fun k hk=>step k (b6 _ hk),M.inj,fun k hk=> ?_,fun j h=>(all j h).1,fun j h=>(all j h).2,fun a o' e=> ?_,k,M.frb,M.bas⟩
 ·by_cases e:ρ k=ρ l
  ·rw[e];exact⟨o,y8⟩
  ·rw[y6 e];exact M.dom k hk
 ·obtain⟨⟨o1,e1⟩,e2⟩:=M.frm a o' e
  by_cases ea:a=ρ l
  ·subst ea
   refine⟨⟨o,y8⟩,fun n=> ?_⟩
   rcases ow with q|q
   ·exact absurd q n
   ·rw[e] at q;cases q
  ·rw[y6 ea]
   exact⟨⟨o1,e1⟩,e2⟩
theorem z7G{o o':HO}{a:Addr}(k:KD G.K H)(e:H a=some o):KD G.K (upd H a o'):=fun b ob q=>by
 by_cases h:b=a
 ·subst h;rw[k _ _ q] at e;cases e
 ·rw[y6 h];exact k _ _ q
theorem z43{o':HO}{a:Addr}{xs:List V}(e:H a=some (.lst xs)):J3 H (upd H a o'):=
 ⟨fun b ys q=>by rw[y6 (z1e q e (by intro z;cases z))];exact q,fun b o u q=>by rw[y6 (z1e q e (by intro z;cases z))];exact q⟩
theorem RDs.upd{o:HO}{a:Addr}(st:J3 H (upd H (ρ l) o))(inj: ∀i j,i<s.n->j<s.n->ρ i=ρ j->i=j)(ln:l<s.n)(r:RDs G ρ H ds xs)(lb: ∀j∈labsL ds,j<s.n/\j≠l):RDs G ρ (L2.upd H (ρ l) o) ds xs:=
 RDs.stay st ds xs r fun j hj=>⟨rfl,fun o' e=>by rw[y6 (fun z=>(lb j hj).2 (inj j l (lb j hj).1 ln z))];exact e⟩
theorem MR.putL(M:MR G F.toFx ρ H σv tv s)(hl:H (ρ l)=some (.lst xs))(ln:l<s.n)(ow:F.A0 (ρ l)\/F.H0 (ρ l)=none)(r:RDs G ρ H es ys)(lb:LB F.toFx ρ s.n (labsL es))(ne:l∉labsL es):
 MR G F.toFx ρ (upd H (ρ l) (.lst ys)) σv tv (s.put l (.lst l es)):=by
 refine M.put2 ln ow (z43 hl) (z7G M.kd hl) ?_ fun j hj=> ?_
 ·erw[RD]
  exact⟨trivial,ys,y8,RDs.upd (a:=0) (z43 hl) M.inj ln r fun j hj=>⟨(lb j hj).1,fun z=>ne (z▸hj)⟩⟩
 ·erw[y4] at hj
  rcases e7.mp hj with q|q
  ·rw[q];exact⟨ln,ow⟩
  ·exact lb j q
end
noncomputable def z9s:D->List D->M D
 | .lst l ds,[y]=>fun s=>if ds.length<sizeLine/\l∉y4 y then .ok .non (s.put l (.lst l (ds++[y]))) else .no
 |_,_=>fl
noncomputable def zd5:D->List D->M D
 | .lst l ds,[]=>fun s=> .ok .non (s.put l (.lst l ds.reverse))
 |_,_=>fl
noncomputable def isL(x:D):M Unit:=fun s=>match zcZ x with|some _=> .ok () s|none=> .no
noncomputable def z07(mo:M D)(ms:List (M D))(g:D->List D->M D):M D:=bd mo fun x=>bd (isL x) fun _=>bd (psh x) fun _=>bd (Z3 ms) fun ys=>bd pop fun x'=>g x' ys
section
variable{X:Cx}{G:Gx}{F:Fy}{e o:Expr}{es:List Expr}{apos cpos:Pos}
noncomputable def z9t(G:Gx)(F:Fy)(r:V->List V->Hp->VK->Prop)(g:D->List D->M D):Prop:= ∀ρ s t ts v vs H σv tv Q,MRL G F.toFx ρ H σv tv s (t::ts) (v::vs)->wM G F σv tv (g t ts s) Q->r v vs H (fun w H'=>KD G.K H'->Q w H')
theorem MRL.hd{ρ:Nat->Addr}{H:Hp}{σv tv:List (Option V)}{s:Stt}{t:D}{ts:List D}{v:V}{vs:List V}(M:MRL G F.toFx ρ H σv tv s (t::ts) (v::vs)):RD G ρ H t v/\RDs G ρ H ts vs/\LB F.toFx ρ s.n (y4 t)/\LB F.toFx ρ s.n (labsL ts):=by
 have h:=M.rd
 erw[RDs] at h
 obtain⟨_,_,e,h1,h2⟩:=h
 cases e
 exact⟨h1,h2,fun l h=>M.lb l (by erw[labsL];exact b8 _ h),fun l h=>M.lb l (by erw[labsL];exact b6 _ h)⟩
theorem zeH:z9t G F z7a z9s:=by
 intro ρ s t ts v vs H σv tv Q M W
 obtain⟨h1,h2,b1,b2⟩:=M.hd
 unfold z9s at W
 split at W
 ·rename_i l ds y
  split at W
  ·rename_i hc
   have h1':=h1
   erw[RD] at h1
   obtain⟨rfl,xs,hx,r⟩:=h1
   erw[RDs] at h2
   obtain⟨u,q,rfl,h2,rfl⟩:=h2
   have ns:=z3h M.m h1' fun j hj=>(b1 j hj).1
   have bl:=b1 l (by erw[y4];exact e9 ..)
   refine⟨_,xs,u,rfl,rfl,hx,by rw[<-r.length];exact hc.1,fun _=>W.out (M.m.putL hx bl.1 bl.2 (r.append (RDs.one h2)) ?_ ?_) (by erw[RD]) fun l h=>by simp[y4] at h⟩
   ·intro j hj
    rw[Q2] at hj
    rcases c8.mp hj with q|q
    ·exact b1 j (by erw[y4];exact b7 _ q)
    ·exact b2 j q
   ·intro hj
    rw[Q2] at hj
    rcases c8.mp hj with q|q
    ·exact ns q
    ·erw[labsL,c9] at q;exact hc.2 q
  ·exact False.elim W
 ·exact wfl W
theorem zeI:z9t G F z5n zd5:=by
 intro ρ s t ts v vs H σv tv Q M W
 obtain⟨h1,h2,b1,b2⟩:=M.hd
 unfold zd5 at W
 split at W
 ·rename_i l ds
  have h1':=h1
  erw[RD] at h1
  obtain⟨rfl,xs,hx,r⟩:=h1
  erw[RDs] at h2
  subst h2
  have ns:=z3h M.m h1' fun j hj=>(b1 j hj).1
  have bl:=b1 l (by erw[y4];exact e9 ..)
  have mm: ∀j,j∈labsL ds.reverse->j∈labsL ds:=fun j hj=>by
   obtain⟨d,h1,h2⟩:=j6 hj
   exact labsL_mem (List.mem_reverse.mp h1) j h2
  exact⟨_,xs,rfl,rfl,hx,fun _=>W.out (M.m.putL hx bl.1 bl.2 r.reverse (fun j hj=>b1 j (by erw[y4];exact b7 _ (mm j hj))) fun hj=>ns (mm l hj)) (by erw[RD]) fun l h=>by simp[y4] at h⟩
 ·exact wfl W
theorem z5x{T:String}{mo:M D}{ms:List (M D)}{g:D->List D->M D}{r:V->List V->Hp->VK->Prop}{σ:L2.St}{H:Hp}{Q:VK}(hT:T= "list")(hg:z9t G F r g)(h:tM G F (z07 mo ms g) σ H Q):
 tM G F mo σ H fun x H1=>tyV G.K T x H1/\tML G F (Z3 ms) σ H1 fun xs H2=>r x xs H2 fun w H'=>KD G.K H'->Q w H':=by
 obtain⟨tv,h⟩:=h
 have hs:=h.1
 refine⟨tv,(z27 h).mono fun v H1 ⟨ρ1,s1,t,M1,W⟩=> ?_⟩
 erw[bd,isL] at W
 cases e1:zcZ t with
 |none=>erw[e1] at W;exact False.elim W
 |some ds=>
  erw[e1,psh] at W
  obtain⟨a,xs,rfl,sq,_⟩:=M1.rd1.lstq e1
  refine⟨.inl ⟨hT,xs,sq⟩,some (.ref a)::tv,z4H hs,ρ1,s1.psh t,M1.push, ?_⟩
  cases e2:Z3 ms (s1.psh t) with
  |ex d s2=>erw[e2] at W;exact W
  |no=>erw[e2] at W;exact W
  |ok ys s2=>
   erw[e2,pop] at W
   intro ρ2 us H2 M2
   cases e3:s2.tm with
   |nil=>erw[e3] at W;exact False.elim W
   |cons o r=>
    cases o with
    |none=>erw[e3] at W;exact False.elim W
    |some t'=>
     erw[e3] at W
     exact hg _ _ _ _ _ _ _ _ _ _ (M2.down e3) W
theorem zbW{name:Str}{id:String}{r:V->List V->Hp->VK->Prop}{mo:M D}{ms:List (M D)}{g:D->List D->M D}(hk:X.K=G.K)(slot:Slot "list" name id)(hty:typeOf (.builtin id)=pure (.type "method_descriptor"))(hm:MtR X id r)(hg:z9t G F r g)(ho:SE X G F o mo)(ha:SA X G F (e::es) (Z3 ms))
 (hbase:attributeBase o name X.env (eval o X.env)=eval o X.env:=by rfl)
 (hfew:((backTo cpos (starEach (e::es) X.env)).all (fun x=> !x.1)&&(backToKw cpos (keywordEach [] X.env)).all (fun x=>x.1.isSome)
  &&decide ((e::es).length+([]:List Keyword).length+(if([]:List Keyword).isEmpty then 0 else 1)<30))=true:=by rfl)
 (hline:(apos.endLine==cpos.line)=true:=by rfl) (hs:starEach (e::es) X.env=(false,eval e X.env)::starEach es X.env:=by rfl) (hplain:(backTo cpos (starEach es X.env)).any (·.1)=false:=by rfl):SE X G F (.Call (.Attribute o name apos) (e::es) [] cpos) (z07 mo ms g):=by
 refine PE.imp hk (zgM PySem.F.plainAttrs_list slot hty hm ho ha hbase hfew hline hs hplain) fun σ H Q h=> ?_
 rw[hk]
 exact z5x rfl hg h
theorem z9u{name:Str}{id:String}{r:V->List V->Hp->VK->Prop}{mo:M D}{g:D->List D->M D}(hk:X.K=G.K)(slot:Slot "list" name id)(hty:typeOf (.builtin id)=pure (.type "method_descriptor"))(hm:MtR X id r)(hg:z9t G F r g)(ho:SE X G F o mo)
 (hbase:attributeBase o name X.env (eval o X.env)=eval o X.env:=by rfl) (hline:(apos.endLine==cpos.line)=true:=by rfl):SE X G F (.Call (.Attribute o name apos) [] [] cpos) (z07 mo [] g):=by
 refine PE.imp hk (zdP PySem.F.plainAttrs_list slot hty hm ho hbase hline) fun σ H Q h=> ?_
 rw[hk]
 obtain⟨tv,h2⟩:=z5x rfl hg h
 refine⟨tv,h2.mono fun v H1 ⟨q1,tv1,hs,ρ1,s1,M1,W⟩=>⟨q1, ?_⟩⟩
 exact W ρ1 [] H1 ⟨M1,rfl,fun l h=>by simp[labsL] at h⟩
noncomputable def zay(o i v:D):MS:=fun s=>match o,i with
 | .lst l ds, .int k=>match ixN ds.length k with
  |some j=>if l∉y4 v then .nx (s.put l (.lst l (ds.set j v))) else .no
  |none=> .no
 |_,_=> .no
noncomputable def z5y(me mo mi:M D)(g:D->D->D->MS):MS:=z0y me fun v=>z0y (psh v) fun _=>z0y mo fun o=>z0y (psh o) fun _=>z0y mi fun i=>z0y pop fun o'=>z0y pop fun v'=>g o' i v'
theorem z9v{mo mi:M D}{g:D->D->D->MS}{tv:List (Option V)}{Dd:z3J}{σ:L2.St}{H1:Hp}{ρ1:Nat->Addr}{s1:Stt}{t:D}{v:V}(hs:F.tv0<:+tv)(M1:MRL G F.toFx ρ1 H1 σ tv s1 [t] [v])
 (W:wS G F tv ((z0y (psh t) fun _=>z0y mo fun o=>z0y (psh o) fun _=>z0y mi fun i=>z0y pop fun o'=>z0y pop fun v'=>g o' i v') s1) Dd):
 tM G F mo σ H1 fun o H2=>tM G F mi σ H2 fun i H3=> ∃ρ s t1 t2 t3,MRL G F.toFx ρ H3 σ tv s [t1,t2,t3] [v,o,i]/\wS G F tv (g t2 t3 t1 s) Dd:=by
 refine⟨some v::tv,z4H hs,ρ1,s1.psh t,M1.push, ?_⟩
 erw[z0y,psh] at W
 cases e1:mo (s1.psh t) with
 |ex d s2=>erw[e1] at W;exact W
 |no=>erw[e1] at W;exact W
 |ok o s2=>
  erw[e1] at W
  intro ρ2 u H2 M2
  refine⟨some u::some v::tv,z4H (z4H hs),ρ2,s2.psh o,M2.push, ?_⟩
  cases e2:mi (s2.psh o) with
  |ex d s3=>erw[e2] at W;exact W
  |no=>erw[e2] at W;exact W
  |ok i s3=>
   erw[e2,pop] at W
   intro ρ3 w H3 M3
   cases e3:s3.tm with
   |nil=>erw[e3] at W;exact False.elim W
   |cons o3 r3=>
    cases o3 with
    |none=>erw[e3] at W;exact False.elim W
    |some x3=>
     erw[e3] at W
     cases r3 with
     |nil=>exact False.elim W
     |cons o4 r4=>
      cases o4 with
      |none=>exact False.elim W
      |some x4=>
       have M4:=M3.down e3
       have M5:=M4.down (s':={s3 with tm:=some x4::r4}) rfl
       exact⟨ρ3,_,x4,x3,i,M5,W⟩
theorem z7H{me mo mi:M D}{g:D->D->D->MS}{tv:List (Option V)}{Dd:z3J}{σ:L2.St}{H:Hp}(h:tSv G F (z5y me mo mi g) tv Dd σ H):
 tM G F me σ H fun v H1=>tM G F mo σ H1 fun o H2=>tM G F mi σ H2 fun i H3=> ∃ρ s t1 t2 t3,MRL G F.toFx ρ H3 σ tv s [t1,t2,t3] [v,o,i]/\wS G F tv (g t2 t3 t1 s) Dd:=
 ⟨tv,(z0i h).mono fun v H1 ⟨ρ1,s1,t,M1,W⟩=>z9v h.1 M1 W⟩
theorem zeJ{ρ:Nat->Addr}{s:Stt}{t1 t2 t3:D}{v o i:V}{H:Hp}{σv tv:List (Option V)}{Dd:z3J}(M:MRL G F.toFx ρ H σv tv s [t1,t2,t3] [v,o,i])(W:wS G F tv (zay t2 t3 t1 s) Dd):z91 o i v H fun H'=>Dd.nx σv H':=by
 have h:=M.rd
 erw[RDs] at h
 obtain⟨_,_,e,h1,_,_,e2,h2,_,_,e3,h3,_⟩:=h
 cases e;cases e2;cases e3
 have b1:LB F.toFx ρ s.n (y4 t1):=fun l h=>M.lb l (by erw[labsL];exact b8 _ h)
 have b2:LB F.toFx ρ s.n (y4 t2):=fun l h=>M.lb l (by erw[labsL];exact b6 _ (b8 _ h))
 cases t2 with
 |lst l ds=>
  cases t3 with
  |int k=>
   erw[zay] at W
   cases ek:ixN ds.length k with
   |none=>erw[ek] at W;exact False.elim W
   |some j=>
    erw[ek] at W
    by_cases hc:l∉y4 t1
    ·rw[if_pos hc] at W
     have h2':=h2
     erw[RD] at h2 h3
     obtain⟨rfl,xs,hx,r⟩:=h2
     subst h3
     have ns:=z3h M.m h2' fun j hj=>(b2 j hj).1
     have bl:=b2 l (by erw[y4];exact e9 ..)
     have mm: ∀q,q∈labsL (ds.set j t1)->q∈labsL ds\/q∈y4 t1:=fun q hq=>by
      obtain⟨d,h1,h2⟩:=j6 hq
      rcases List.mem_or_eq_of_mem_set h1 with z|z
      ·exact .inl (labsL_mem z q h2)
      ·subst z;exact .inr h2
     refine⟨_,xs,k,j,rfl,rfl,hx,by rw[<-r.length];exact ek,W ρ σv _ (M.m.putL hx bl.1 bl.2 (r.set j h1) (fun q hq=> ?_) fun hq=> ?_)⟩
     ·rcases mm q hq with z|z
      ·exact b2 q (by erw[y4];exact b7 _ z)
      ·exact b1 q z
     ·rcases mm l hq with z|z
      ·exact ns z
      ·exact hc z
    ·rw[if_neg hc] at W;exact False.elim W
  |_=>exact False.elim W
 |_=>exact False.elim W
theorem ss_setI{ob ix:Expr}{pos tpos:Pos}{mo mi me:M D}(he:SE X G F e me)(ho:SE X G F ob mo)(hi:SE X G F ix mi)(hg: ∀{to ti:TE},PE X ob to->PE X ix ti->PG X (.Subscript ob ix tpos) (zgy to ti z91))(hs:swapsWithSole [.Subscript ob ix tpos] e pos.line X.env=pure false:=by rfl)(hw:swappedStores [.Subscript ob ix tpos] e X.env=pure none:=by rfl)
 (h1:(assignEach [.Subscript ob ix tpos] X.env).map (·.2)=[assign (.Subscript ob ix tpos) X.env]:=by rfl):SS X G F (.Assign [.Subscript ob ix tpos] e pos) (z5y me mo mi zay):=by
 refine PS.imp0 (zag he (hg ho hi) hs hw h1) fun Dd σ H ⟨tv,h⟩=> ?_
 exact(z7H h).mono fun v H1 h1=>h1.mono fun o H2 h2=>h2.mono fun i H3 ⟨ρ,s,t1,t2,t3,M,W⟩=>zeJ M W
end
end Mi
namespace Mi
open PySem L2
section
variable{X:Cx}{G:Gx}{F:Fy}{e a b c:Expr}{pos:Pos}{ma mb mc m:M D}
theorem se_add(hk:X.K=G.K)(ha:SE X G F a ma)(hb:SE X G F b mb):SE X G F (.BinOp a .Add b pos) (Z0 ma mb z02):=
 z6h hk (r:=fun x y H Q=>rI0 (fun i j=> .int (i+j)) x y H Q\/z7o G.K x y H Q\/zgN x y H Q\/∃i j,x= .str i/\y= .str j/\i.length+j.length<=sizeLine/\Q (.str (i++j)) H) (hk▸OpR.or zdv (OpR.or z4G (OpR.or zdQ z62))) zeh ha hb
theorem se_sub(hk:X.K=G.K)(ha:SE X G F a ma)(hb:SE X G F b mb):SE X G F (.BinOp a .Sub b pos) (Z0 ma mb z9e):=z6h hk zdw zei ha hb
theorem se_mul(hk:X.K=G.K)(ha:SE X G F a ma)(hb:SE X G F b mb):SE X G F (.BinOp a .Mult b pos) (Z0 ma mb z6j):=z6h hk (r:=fun x y H Q=>rI z8P (fun i j=> .int (i*j)) x y H Q\/(zgO x y H Q\/zbJ G.K x y H Q)) (OpR.or zdx (OpR.or zdR (hk▸zbK))) zeo ha hb
theorem se_fdiv(hk:X.K=G.K)(ha:SE X G F a ma)(hb:SE X G F b mb):SE X G F (.BinOp a .FloorDiv b pos) (Z0 ma mb z2D):=z6h hk zbe zbO ha hb
theorem se_mod(hk:X.K=G.K)(ha:SE X G F a ma)(hb:SE X G F b mb):SE X G F (.BinOp a .Mod b pos) (Z0 ma mb z2E):=z6h hk zdy zej ha hb
theorem se_pow(hk:X.K=G.K)(ha:SE X G F a ma)(hb:SE X G F b mb):SE X G F (.BinOp a .Pow b pos) (Z0 ma mb z9f):=z6h hk zdz zek ha hb
theorem se_neg(hk:X.K=G.K)(ha:SE X G F a ma):SE X G F (.UnaryOp .USub a pos) (bd ma zeg):=zgZ hk zdA zen ha
structure Cm(X:Cx)(G:Gx)(F:Fy)(op:CmpOp)(g:D->D->M D):Prop where
 h: ∃r,OpR X (compareOp op) r/\V5 G F r g
theorem zeK:Cm X G F .Lt ltD:=⟨_,zgD,zh1⟩
theorem z9w:Cm X G F .LtE leD:=⟨_,zgE,zh2⟩
theorem zha:Cm X G F .Gt gtD:=⟨_,zgF,zh3⟩
theorem zbX:Cm X G F .GtE geD:=⟨_,zgG,zh4⟩
theorem zhb(hk:X.K=G.K)(hu:X.A.units+64<cLine):Cm X G F .Eq eqD:=⟨_,hk▸zea hu,zh5⟩
theorem z7I(hk:X.K=G.K)(hu:X.A.units+64<cLine):Cm X G F .NotEq neD:=⟨_,hk▸zeb hu,zh6⟩
theorem zeL:Cm X G F .Is isN:=⟨_,zdC,zel⟩
theorem z7J:Cm X G F .IsNot zau:=⟨_,zbh,zbP⟩
theorem sb_cmp{op:CmpOp}{g:D->D->M D}(hc:Cm X G F op g)(ha:SE X G F a ma)(hb:SE X G F b mb)(hm:behindInMarks op b=false):SB X G F (.Compare a [op] [b] pos) (G6 (Z0 ma mb g)):=by
 obtain⟨r,h1,h2⟩:=hc.h
 exact zbR h1 h2 ha hb hm
theorem se_cmp2{op op':CmpOp}{g g':D->D->M D}(hc:Cm X G F op g)(hc':Cm X G F op' g')(ha:SE X G F a ma)(hb:SE X G F b mb)(hcc:SE X G F c mc)(hm:lastMarks [op,op'] [b,c]=false:=by with_unfolding_all rfl):SE X G F (.Compare a [op,op'] [b,c] pos) (z0s ma mb mc g g'):=by
 obtain⟨r,h1,h2⟩:=hc.h
 obtain⟨r',h1',h2'⟩:=hc'.h
 exact z9i h1 h2 h1' h2' ha hb hcc hm
theorem sb_cmp2{op op':CmpOp}{g g':D->D->M D}(hc:Cm X G F op g)(hc':Cm X G F op' g')(ha:SE X G F a ma)(hb:SE X G F b mb)(hcc:SE X G F c mc)(hm:lastMarks [op,op'] [b,c]=false:=by with_unfolding_all rfl):SB X G F (.Compare a [op,op'] [b,c] pos) (G6 (z0s ma mb mc g g')):=by
 obtain⟨r,h1,h2⟩:=hc.h
 obtain⟨r',h1',h2'⟩:=hc'.h
 exact z9j h1 h2 h1' h2' ha hb hcc hm
theorem se_idx(hk:X.K=G.K)(ha:SE X G F a ma)(hb:SE X G F b mb)(hs:z1i b):SE X G F (.Subscript a b pos) (Z0 ma mb ixD):=zh0 hk (hk▸IxR.or zbw zdO) zh7 ha hb hs
structure Cb(X:Cx)(G:Gx)(F:Fy)(f:Value)(g:List D->M D):Prop where
 h: ∃r,CallR X f r/\G4 G F r g
theorem zeM(hk:X.K=G.K):Cb X G F (.builtin "len") z6I:=⟨_,hk▸z3Q,zev⟩
theorem zeN:Cb X G F (.builtin "abs") zd2:=⟨_,z8T,zew⟩
theorem zaz(hc:X.calm=true):Cb X G F (.builtin "min") zbT:=⟨_,z70 hc,zex⟩
theorem zeO(hc:X.calm=true):Cb X G F (.builtin "max") zd3:=⟨_,z6Z hc,zey⟩
theorem zaA(hk:X.K=G.K)(hd:X.A.handled=none):Cb X G F (.builtin "all") z9k:=⟨_,hk▸z7l hd,zez⟩
theorem z5z(hk:X.K=G.K):Cb X G F (.type "tuple") zav:=⟨_,hk▸z7p,zbU⟩
theorem se_cb{x:Str}{p:Pos}{es:List Expr}{ms:List (M D)}{g:List D->M D}{id:String}(hk:X.K=G.K)(hc:Cb X G F (.builtin id) g)(hgl:Gl X x)(hm:X.mg x=none)(hv:bootBuiltins x=some (.builtin id))(ha:SA X G F (e::es) (Z3 ms))(hn:x≠ "__name__" :=by decide)(hdb:(x==("__debug__" :Str))=false:=by decide)
 (he:starEach (e::es) X.env=(false,eval e X.env)::starEach es X.env:=by rfl) (hpl:(backTo pos (starEach es X.env)).any (·.1)=false:=by rfl):SE X G F (.Call (.Name x p) (e::es) [] pos) (mCB ms g):=by
 obtain⟨r,h1,h2⟩:=hc.h
 exact z9d hk h1 h2 hgl hm hv ha hn hdb he hpl
theorem se_ct{x:Str}{p:Pos}{es:List Expr}{ms:List (M D)}{g:List D->M D}{T:String}(hk:X.K=G.K)(hc:Cb X G F (.type T) g)(hgl:Gl X x)(hm:X.mg x=none)(hv:bootBuiltins x=some (.type T))(ha:SA X G F (e::es) (Z3 ms))(hn:x≠ "__name__" :=by decide)(hdb:(x==("__debug__" :Str))=false:=by decide)
 (he:starEach (e::es) X.env=(false,eval e X.env)::starEach es X.env:=by rfl) (hpl:(backTo pos (starEach es X.env)).any (·.1)=false:=by rfl):SE X G F (.Call (.Name x p) (e::es) [] pos) (mCB ms g):=by
 obtain⟨r,h1,h2⟩:=hc.h
 exact z7u hk h1 h2 hgl hm hv ha hn hdb he hpl
structure Cl(X:Cx)(G:Gx)(F:Fy)(id:String)(g:D->List D->M D):Prop where
 h: ∃r,MtR X id r/\z9t G F r g
theorem z44:Cl X G F "list.append" z9s:=⟨_,z3S,zeH⟩
theorem z6o:Cl X G F "list.reverse" zd5:=⟨_,z6a,zeI⟩
end
end Mi
namespace Mi
open PySem L2 PySem.Spec PyProof.Rows
end Mi
namespace Mi
open PySem L2
section
variable{X:Cx}{G:Gx}{F:Fy}{e o:Expr}{es:List Expr}{apos cpos:Pos}
theorem se_cl{name:Str}{id:String}{mo:M D}{ms:List (M D)}{g:D->List D->M D}(hk:X.K=G.K)(slot:Slot "list" name id)(hty:typeOf (.builtin id)=pure (.type "method_descriptor"))(hm:Cl X G F id g)(ho:SE X G F o mo)(ha:SA X G F (e::es) (Z3 ms))
 (hbase:attributeBase o name X.env (eval o X.env)=eval o X.env:=by rfl)
 (hfew:((backTo cpos (starEach (e::es) X.env)).all (fun x=> !x.1)&&(backToKw cpos (keywordEach [] X.env)).all (fun x=>x.1.isSome)
  &&decide ((e::es).length+([]:List Keyword).length+(if([]:List Keyword).isEmpty then 0 else 1)<30))=true:=by rfl)
 (hline:(apos.endLine==cpos.line)=true:=by rfl) (hs:starEach (e::es) X.env=(false,eval e X.env)::starEach es X.env:=by rfl) (hplain:(backTo cpos (starEach es X.env)).any (·.1)=false:=by rfl):SE X G F (.Call (.Attribute o name apos) (e::es) [] cpos) (z07 mo ms g):=by
 obtain⟨r,h1,h2⟩:=hm.h
 exact zbW hk slot hty h1 h2 ho ha hbase hfew hline hs hplain
theorem se_cl0{name:Str}{id:String}{mo:M D}{g:D->List D->M D}(hk:X.K=G.K)(slot:Slot "list" name id)(hty:typeOf (.builtin id)=pure (.type "method_descriptor"))(hm:Cl X G F id g)(ho:SE X G F o mo)
 (hbase:attributeBase o name X.env (eval o X.env)=eval o X.env:=by rfl) (hline:(apos.endLine==cpos.line)=true:=by rfl):SE X G F (.Call (.Attribute o name apos) [] [] cpos) (z07 mo [] g):=by
 obtain⟨r,h1,h2⟩:=hm.h
 exact z9u hk slot hty h1 h2 ho hbase hline
end
inductive SEs(X:Cx)(G:Gx)(F:Fy):List Expr->List (M D)->Prop
 |nil:SEs X G F [] []
 |cons {e:Expr} {m:M D} {es:List Expr} {ms:List (M D)}:SE X G F e m->nst e=true->SEs X G F es ms->SEs X G F (e::es) (m::ms)
theorem sa_of{X:Cx}{G:Gx}{F:Fy}{es:List Expr}{ms:List (M D)}(hk:X.K=G.K)(h:SEs X G F es ms):SA X G F es (Z3 ms):=by
 induction h with
 |nil=>exact zee hk
 |cons h1 h2 _ ih=>exact zbM hk h1 ih h2
section
variable{X:Cx}{G:Gx}{F:Fy}{a b tg:Expr}{pos:Pos}
mutual
theorem z2b: ∀t:D,(er t).hasDict=false
 | .non| .bool _| .int _| .str _| .dct _ _ _| .obj _ _ _ _| .exc _| .fn _| .fdc _ _=>by erw[er,PyData.hasDict]
 | .tup ds=>by erw[er,PyData.hasDict];exact erL_noDict ds
 | .ro ds=>by erw[er,PyData.hasDict];exact erL_noDict ds
 | .lst _ ds=>by erw[er,PyData.hasDict];exact erL_noDict ds
theorem erL_noDict: ∀ts:List D,PyData.hasDictAll (erL ts)=false
 |[]=>by erw[erL,PyData.hasDictAll]
 |t::ts=>by erw[erL,PyData.hasDictAll,z2b t,erL_noDict ts,Bool.or_self]
end
noncomputable def zhc(ds:List D):Bool:=plainL ds&&(er (.tup ds)).showable&&decide ((er (.tup ds)).depth<=60)&&decide ((er (.tup ds)).shown.length<=sizeLine)
noncomputable def ziM:List D->M D
 |[.tup ds]=>if zhc ds=true then rt (.str (er (.tup ds)).shown) else fl
 |_=>fl
theorem zeP:G4 G F (zh9 G.K) ziM:=by
 intro ρ s ts vs H σv tv Q M W
 unfold ziM at W
 split at W
 ·rename_i ds
  split at W
  ·rename_i hc
   erw[zhc,i3,decide_eq_true_eq] at hc
   obtain⟨⟨⟨c1,c2⟩,c3⟩,c4⟩:=hc
   obtain⟨v,rfl,h,_⟩:=M.one
   obtain⟨p,xs,rfl,s1,r1⟩:=id h.tupq
   exact⟨p,er (.tup ds),rfl,RD.dp _ _ h (by erw[plain];exact c1),z2b _,c2,c3,c4,fun _=>W.flat M.m rfl⟩
  ·exact wfl W
 ·exact wfl W
end
end Mi
namespace L2
open PySem PySem.Spec PyProof.Rows
section
variable{P:Program}{w:World}{H H':Hp}{h h':Heap}{a:Addr}{o:HO}
theorem g0.here(x:g0 P w H h a o): ∃u,h.get? a=some u:=by
 cases o with
 |lst xs=>obtain⟨_,_,_,_,e⟩:=x;exact⟨_,e⟩
 |tup xs=>obtain⟨_,_,_,ob,e,_⟩:=x;exact⟨_,e⟩
 |dK kvs=>obtain⟨_,_,_,_,o,_,_,e,_⟩:=x;exact⟨_,e⟩
 |dT kvs=>obtain⟨_,_,_,_,o,_,_,e,_⟩:=x;exact⟨_,e⟩
 |set S n=>obtain⟨o,_,_,_,e,_⟩:=x;exact⟨_,e⟩
 |ins C dx fs=>obtain⟨_,_,_,e,_⟩:=x;exact⟨_,e⟩
 |own y=>obtain⟨_,e⟩:=x;exact⟨_,e⟩
 |xd fs=>obtain⟨_,⟨_,_,_,e,_⟩,_⟩:=x;exact⟨_,e⟩
 |rng lo hi=>obtain⟨_,_,_,e⟩:=x;exact⟨_,e⟩
 |frz o u=>exact⟨_,x.1⟩
 |tbl ps=>exact⟨_,x⟩
 |met f y=>exact⟨_,x⟩
 |ext φ=>obtain⟨_,⟨_,e⟩,_⟩:=x;exact⟨_,e⟩
theorem HOk.none_of(x:HOk P w H h)(e:h.get? a=none):H a=none:=by
 cases q:H a with
 |none=>rfl
 |some u=>obtain⟨v,z⟩:=(x a u q).here;rw[e] at z;cases z
end
structure Fly(P:Program)(w:World)(outer:List Env)(H:Hp)(s:Shared)(H':Hp)(C:Value)(e:Addr)(s':Shared):Prop where
 os:s'.os=s.os
 bare:AllBare s'.gens
 un:Un (frs outer) [] H H' s.heap s'.heap
 hok:HOk P w H' s'.heap
 he:H' e=none
 se:s.heap.get? e=none
 tr: ∃oe vs a0 T oT ts,s'.heap.get? e=some oe/\(oe.cls=C/\vs[0]? =some a0)/\oe.data= .fields vs/\vs[1]? =some (.ref T)/\T≠e/\s'.heap.get? T=some oT/\oT.data= .fields ts/\ts[3]? =some .none/\H' T=none/\s.heap.get? T=none
noncomputable def CX1(P:Program)(w:World):CXT:=fun outer H s E e s'=> ∃a C H',e= .ref a/\Fly P w outer H s H' C a s'/\E C none H'
section
variable{X:Cx}{pins:List (Addr×Obj)}{σ:St}{H:Hp}{s:Shared}{h':Heap}
theorem Inv.frmem(I:Inv X pins σ H s): ∀env∈X.stack,∀a,env.frame=some a->a∈frs X.stack:=fun env he a e=>E9.mpr ⟨env,he,e⟩
theorem z5A{ex:List Addr}(I:Inv X pins σ H s)(hx: ∀x∈ex,H x=none)(st:(W.hideAll s.heap (frs X.stack++ex)).StaysIn h'): ∀b u o,H b=some u->s.heap.get? b=some o->h'.get? b=some o:=fun b u o e q=>
 st b o (W.hideAll_get _ q fun hm=>by
  rcases c8.mp hm with z|z
  ·rw[I.stkFree b z] at e;cases e
  ·rw[hx b z] at e;cases e)
theorem z4M{ex:List Addr}(I:Inv X pins σ H s)(hx: ∀x∈ex,H x=none)(st:(W.hideAll s.heap (frs X.stack++ex)).StaysIn h'):HOk X.prog X.w H h':=fun a o e=>
 (I.hok a o e).stay (fun b u hb q=>by
  rcases hb with rfl|hb
  ·exact z5A I hx st _ _ _ e q
  ·exact z5A I hx st _ _ _ hb q) (fun _ q=>q) fun _ _ q=>q
theorem z4N{ex:List Addr}(I:Inv X pins σ H s)(hex:X.ex=[])(hx: ∀x∈ex,H x=none)(hx0: ∀x∈ex,X.s₀.heap.get? x=none)(st:(W.hideAll s.heap (frs X.stack++ex)).StaysIn h')(up:s.heap.UpToSlots h'):Un (frs X.outer) [] X.H₀ H X.s₀.heap h':=by
 have nx: ∀b:Addr,b∉X.ex:=fun b z=>by rw[hex] at z;cases z
 have nst: ∀b o,X.s₀.heap.get? b=some o->b∉frs X.outer->b∉frs X.stack++ex:=fun b o q hb hm=>by
  rcases c8.mp hm with z|z
  ·rcases e7.mp (I.stkSub b z) with z|z
   ·subst z;exact absurd (Heap.lt_size q) (C9.mpr I.ok.above)
   ·exact hb z
  ·rw[hx0 b z] at q;cases q
 have sl: ∀b o,X.s₀.heap.get? b=some o->b∈frs X.outer->∃sl,h'.get? b=some {o with slots:=sl}:=fun b o q hb=>by
  obtain⟨sl,z⟩:=I.base.slot b o q (I.ok.frf b hb) hb (nx b)
  obtain⟨_,o',ho',hd⟩:=I.ok.funs.mem hb
  rw[q] at ho';cases ho'
  obtain⟨sl2,z2⟩:=up b {o with slots:=sl} z hd
  exact⟨sl2,z2⟩
 refine⟨fun b o q n hb _=> ?_,fun b o q n hb _=>sl b o q hb,fun b o q n _=>I.base.free b o q n (nx b),fun b o q _=> ?_,I.base.tups,I.base.frzs,I.base.tbls⟩
 ·exact st b o (W.hideAll_get _ (I.base.keep b o q n hb (nx b)) (nst b o q hb))
 ·by_cases hb:b∈frs X.outer
  ·obtain⟨sl,z⟩:=sl b o q hb;exact⟨_,z⟩
  ·obtain⟨o',z⟩:=I.base.there b o q (nx b)
   exact⟨o',st b o' (W.hideAll_get _ z (nst b o q hb))⟩
theorem z2c(I:Inv X pins σ H s)(hex:X.ex=[]){b:Addr}(e:s.heap.get? b=none):X.s₀.heap.get? b=none:=by
 cases q:X.s₀.heap.get? b with
 |none=>rfl
 |some o=>obtain⟨o',z⟩:=I.base.there b o q (by rw[hex];simp);rw[e] at z;cases z
theorem z5B{ex:List Addr}{e:Addr}{cls a0:Value}(I:Inv X pins σ H s)(hex:X.ex=[])(hx: ∀x∈ex,H x=none)(hx0: ∀x∈ex,X.s₀.heap.get? x=none)(up:s.heap.UpToSlots h')(tr:h'.TracedW (W.hideAll s.heap (frs X.stack++ex)) e cls a0):
 ∃oe vs a0 T oT ts,h'.get? e=some oe/\(oe.cls=cls/\vs[0]? =some a0)/\oe.data= .fields vs/\vs[1]? =some (.ref T)/\T≠e/\h'.get? T=some oT/\oT.data= .fields ts/\ts[3]? =some .none/\H T=none/\X.s₀.heap.get? T=none:=by
 obtain⟨oe,vs,T,oT,ts,h1,h2,h3,h4,h5,h6,h7,h8,h9⟩:=tr
 have nm: ∀o,s.heap.get? T=some o->T∈ex:=fun o q=>by
  by_cases hm:T∈frs X.stack++ex
  ·rcases c8.mp hm with z|z
   ·obtain⟨_,o',ho',hd⟩:=I.stack.mem z
    obtain⟨sl,z'⟩:=up T o' ho' hd
    rw[h7] at z';cases z'
    exact absurd h8 (hd ts)
   ·exact z
  ·rw[W.hideAll_get _ q hm] at h5;cases h5
 have hT:H T=none:=by
  cases q:s.heap.get? T with
  |none=>exact I.hok.none_of q
  |some o=>exact hx T (nm o q)
 have hS:X.s₀.heap.get? T=none:=by
  cases q:s.heap.get? T with
  |none=>exact z2c I hex q
  |some o=>exact hx0 T (nm o q)
 exact⟨oe,vs,a0,T,oT,ts,h1,h2,h3,h4,h6,h7,h8,h9,hT,hS⟩
end
section
variable{P:Program}{w:World}{K:W.Frag}{mg:Str->Option Value}{base:Heap}{N:List Str}{qual:Str}{scope:Scope}{f:Addr}{cd:Value}{A:Around}{outer:List Env}{s:Shared}{H:Hp}{E:XK}
theorem z4O:Q5 (CX1 P w) (cxOf (CX1 P w) P w K mg base N qual scope f cd A outer s H E) E:=by
 intro pins σ H1 s1 e s2 I ⟨a,C,H2,e1,F,hE⟩
 subst e1
 have I2:Inv (cxOf (CX1 P w) P w K mg base N qual scope f cd A outer s H E) pins σ H2 s2:=I.call' (ch:=[]) F.os F.un F.hok F.bare (fun b z=>absurd z (by simp))
 obtain⟨oe,vs,a0,T,oT,ts,h1,h2,h3,h4,h5,h6,h7,h8,h9,h10⟩:=F.tr
 have hx: ∀x∈[a,T],H2 x=none:=fun x hx=>by
  rcases e7.mp hx with rfl|hx
  ·exact F.he
  ·rcases e7.mp hx with rfl|hx
   ·exact h9
   ·cases hx
 have hx0: ∀x∈[a,T],s.heap.get? x=none:=fun x hx=>by
  rcases e7.mp hx with rfl|hx
  ·exact z2c I rfl F.se
  ·rcases e7.mp hx with rfl|hx
   ·exact z2c I rfl h10
   ·cases hx
 refine wpAny_leaves_onW (base:=W.hideAll s2.heap (frs (cxOf (CX1 P w) P w K mg base N qual scope f cd A outer s H E).stack++[a,T])) (L:=s.heap.objs.size) (cls:=C) (a0:=a0) I2.ok.frames rfl ⟨fun b o q=>W.of_hideAll _ q,W.hideAll_none _ (by simp),W.funFrames_hide I2.stack fun env he b hb=>b8 _ (I2.frmem env he b hb),oe,vs,T,oT,ts,h1,h2,h3,h4,W.hideAll_none _ (by simp),h5,h6,h7,h8⟩ fun h' fl up=> ?_
 obtain⟨k1,k2,k3,k4⟩:=fl
 exact⟨a,C,H2,rfl,⟨F.os.trans I.os,F.bare,z4N I2 rfl hx hx0 k1 up,z4M I2 hx k1,F.he,hx0 a (by simp),z5B I2 rfl hx hx0 up k4⟩,hE⟩
theorem zeQ{pins:List (Addr×Obj)}{σ:St}{H1:Hp}{s1:Shared}{h':Heap}{e:Addr}{C:Value}{args:List Value}(I:Inv (cxOf (CX1 P w) P w K mg base N qual scope f cd A outer s H E) pins σ H1 s1)(hx:Heap.MadeExcOf s1.heap h' e C args)(hE:E C none H1):
 (cxOf (CX1 P w) P w K mg base N qual scope f cd A outer s H E).xe (.ref e) {s1 with heap:=h'}:=by
 have nn: ∀x∈([]:List Addr),H1 x=none:=fun x z=>absurd z (by simp)
 have nn0: ∀x∈([]:List Addr),s.heap.get? x=none:=fun x z=>absurd z (by simp)
 refine wpAny_leaves_madeW (base:=W.hideAll s1.heap (frs (cxOf (CX1 P w) P w K mg base N qual scope f cd A outer s H E).stack++[])) (h:=s1.heap) (L:=s.heap.objs.size) I.ok.frames rfl (fun b o q=>W.of_hideAll _ q) (W.funFrames_hide I.stack fun env he b hb=>b8 _ (I.frmem env he b hb)) hx fun h2 t fl tp bt up=> ?_
 obtain⟨k1,k2,k3,k4⟩:=fl
 have up2:s1.heap.UpToSlots h2:=(Heap.UpToSlots.of_keeps hx.keeps).trans up
 exact⟨e,C,H1,rfl,⟨I.os,I.bare,z4N I rfl nn nn0 k1 up2,z4M I nn k1,I.hok.none_of hx.new,z2c I rfl hx.new,z5B I rfl nn nn0 up2 k4⟩,hE⟩
end
section
variable{X:Cx}{pins:List (Addr×Obj)}{σ:St}{H:Hp}{s:Shared}{h':Heap}
theorem z7K{ex:List Addr}{t':Nat}(I:Inv X pins σ H s)(hex:X.ex=[])(hx: ∀x∈ex,H x=none)(hx0: ∀x∈ex,X.s₀.heap.get? x=none)(hxp: ∀p∈X.pn++pins,p.1∉ex)(st:(W.hideAll s.heap (frs X.stack++ex)).StaysIn h')(up:s.heap.UpToSlots h'):Inv X pins σ H {s with heap:=h',toks:=t'}:=by
 have cellK: ∀c v,s.heap.IsCell c v->h'.IsCell c v:=fun c v ⟨o,ho,hd⟩=>by
  obtain⟨sl,q⟩:=up c o ho (fun vs z=>by rw[hd] at z;cases z)
  exact⟨_,q,hd⟩
 have un:=z4N I hex hx hx0 st up
 refine⟨I.ok,I.os,I.bare,by rw[hex];exact un, ?_,fun y c e=> ?_,I.free,I.freeC,fun p hp=> ?_,z4M I hx st,I.len⟩
 ·obtain⟨m,hn,hl⟩:=I.loc
  refine⟨m,up.ns hn,fun i x v e1 e2 e3=> ?_⟩
  obtain⟨u,r,l⟩:=hl i x v e1 e2 e3
  refine⟨u,r, ?_⟩
  rcases l with l|⟨k,c,e,z⟩
  ·exact .inl l
  ·exact .inr ⟨k,c,e,cellK c _ z⟩
 ·obtain⟨v,z⟩:=I.cell y c e
  exact⟨v,cellK c v z⟩
 ·obtain⟨e,n,ne,nf,d⟩:=I.pin p hp
  refine⟨st p.1 p.2 (W.hideAll_get _ e fun hm=> ?_),n,ne,nf,d⟩
  rcases c8.mp hm with z|z
  ·rcases e7.mp (I.stkSub p.1 z) with z|z
   ·exact ne z
   ·exact nf z
  ·exact hxp p hp z
theorem Inv.track{a:Addr}{o:HO}(I:Inv X pins σ H s)(hn:H a=none)(h0:X.s₀.heap.get? a=none)(hL:a≠X.env.locals)(hC: ∀x c,X.env.cells.lookup x=some c->c≠a)(hp: ∀p∈X.pn++pins,p.1≠a)(ok:g0 X.prog X.w (upd H a o) s.heap a o):Inv X pins σ (upd H a o) s:=by
 have ne: ∀b u,H b=some u->upd H a o b=some u:=fun b u e=>by
  by_cases hb:b=a
  ·subst hb;rw[hn] at e;cases e
  ·rw[y6 hb];exact e
 refine⟨I.ok,I.os,I.bare,⟨I.base.keep,I.base.slot,fun b ob q n hx=> ?_,I.base.there,fun b xs e=>ne _ _ (I.base.tups b xs e),fun b u xs e=>ne _ _ (I.base.frzs b u xs e),fun b ps e=> ?_⟩,I.loc,I.cell, ?_,fun x c e=> ?_,fun p q=> ?_,fun b u e=> ?_,I.len⟩
 ·rw[y6 (fun z=>by rw[z,h0] at q;cases q)];exact I.base.free b ob q n hx
 ·obtain⟨m,z⟩:=I.base.tbls b ps e
  exact⟨m,ne _ _ z⟩
 ·rw[y6 (Ne.symm hL)];exact I.free
 ·rw[y6 (hC x c e)];exact I.freeC x c e
 ·obtain⟨e,n,r⟩:=I.pin p q
  exact⟨e,by rw[y6 (hp p q)];exact n,r⟩
 ·by_cases hb:b=a
  ·subst hb;rw[y8] at e;cases e;exact ok
  ·rw[y6 hb] at e
   exact(I.hok b u e).stay (fun _ _ _ q=>q) (fun c q=>ne _ _ q) fun c xs q=>ne _ _ q
noncomputable def zbY(N:List Str):St:=e6 N.length none
theorem Inv.forget{m':Str->Option Value}{t':Nat}(I:Inv X pins σ H s)(hn:h'.Ns X.env.locals m')(hs:Heap.SameBut X.env.locals s.heap h'):Inv X pins (zbY X.N) H {s with heap:=h',toks:=t'}:=by
 have neL: ∀b o,X.s₀.heap.get? b=some o->b≠X.env.locals:=fun b o e=>l0 (i7 (Heap.lt_size e) I.ok.above)
 refine⟨I.ok,I.os,I.bare,⟨fun b o e n hb hx=> ?_,fun b o e n hb hx=> ?_,I.base.free,fun b o e hx=> ?_,I.base.tups,I.base.frzs,I.base.tbls⟩,⟨m',hn,fun i x v _ e=> ?_⟩,fun y c e=> ?_,I.free,I.freeC,fun p hp=> ?_,fun b ob e=> ?_,by simp[zbY]⟩
 ·exact(hs.2 b (neL b o e)).trans (I.base.keep b o e n hb hx)
 ·obtain⟨sl,e1⟩:=I.base.slot b o e n hb hx
  exact⟨sl,(hs.2 b (neL b o e)).trans e1⟩
 ·obtain⟨o',e1⟩:=I.base.there b o e hx
  exact⟨o',(hs.2 b (neL b o e)).trans e1⟩
 ·unfold zbY at e
  rw[List.getElem?_replicate] at e
  split at e<;>cases e
 ·obtain⟨w',z⟩:=I.cell y c e
  exact⟨w',z.sameBut hs (I.cne y c e)⟩
 ·obtain⟨e,n,ne,nf,d⟩:=I.pin p hp
  exact⟨(hs.2 p.1 ne).trans e,n,ne,nf,d⟩
 ·refine(I.hok b ob e).stay (fun c w' hc q=>(hs.2 c ?_).trans q) (fun _ q=>q) fun _ _ q=>q
  rintro rfl
  rcases hc with rfl|hc
  ·rw[I.free] at e;cases e
  ·rw[I.free] at hc;cases hc
end
noncomputable def bmV:List Value:=[.type "ValueError", .type "Exception", .type "BaseException", .type "object"]
theorem zeR{K:W.Frag}{h:Heap}{C:Addr}{bmB:List Value}{newId:String}(X:K.In h)(q:W.excIn K C bmB newId=true):
 ∃bm N nm qn bs hd sn sub ab col dd k0 k1 k2 k3 k5 mN,h.get? C=some (excClassObj nm qn C N bs bm hd sn sub ab col dd k0 k1 k2 k3 k5 newId)/\h.Ns N mN/\mN "__init__" =none/\OwnTail h bmB bm:=by
 unfold W.excIn at q
 split at q
 ·rename_i dd cd sl ho
  split at q
  ·rename_i C' bm k0 k1 k2 k3 n k5 hm hs
   erw[i3,beq_iff_eq,F4] at q
   obtain⟨⟨⟨⟨⟨rfl,rfl⟩,hdel⟩,ht⟩,hok⟩,hni⟩:=q
   obtain⟨nm,bs,mro,ns,qn,hd,sn,sub,ab,col,del⟩:=cd
   dsimp only at hm hdel hok hni
   subst hm hdel
   have hsl:sl= #[k0,k1,k2,k3,some (.builtin n),k5]:=by
    obtain⟨l⟩:=sl
    simp only at hs
    rw[hs]
   subst hsl
   exact⟨bm,ns,nm,qn,bs,hd,sn,sub,ab,col,dd,k0,k1,k2,k3,k5,_,X _ _ ho, .of_isNs (W.isNs_of_in X hok),W.nsMap_none_of_in X hok hni,W.tail_of_in X ht⟩
  ·cases q
 ·cases q
noncomputable def z2d(X:Cx)(E:St->XK):Prop:= ∀(pins:List (Addr×Obj)) (σ:St) (H:Hp) (s:Shared) (h':Heap) (e:Addr) (C:Value) (args:List Value),Inv X pins σ H s->Heap.MadeExcOf s.heap h' e C args->E σ C none H->X.xe (.ref e) {s with heap:=h'}
noncomputable def zbZ(X:Cx)(E:St->XK):Prop:= ∀(pins:List (Addr×Obj)) (σ:St) (H:Hp) (s:Shared) (e:Value) (s':Shared),Inv X pins σ H s->CX1 X.prog X.w X.stack H s (E σ) e s'->X.xe e s'
section
variable{X:Cx}{C:Addr}{x y:Str}{np cpos pos p:Pos}{j:Nat}{E:St->XK}
noncomputable def zeS(C:Addr)(E:St->XK):TS:=fun _ σ H=>E σ (.ref C) none H
theorem z9x(hh:X.A.handled=none)(hx:z2d X E)(hg:Gl X x)(hm:X.mg x=some (.ref C))(hq:W.excIn X.K C bmV "ValueError.__new__" =true)(hd:(x==("__debug__" :Str))=false:=by decide):
 PS X (.Raise (some (.Call (.Name x np) [.Constant (.str y) j p] [] cpos)) none pos) (zeS C E):=by
 intro pins s σ H D I h
 obtain⟨bm,N,nm,qn,bs,hdc,sn,sub,ab,col,dd,k0,k1,k2,k3,k5,mN,hC,hN,hni,T⟩:=zeR I.ok.mod.kin hq
 refine wpAny_Raise_call_subU (C:=C) (nm:=nm) (q:=qn) (N:=N) (bs:=bs) (bm:=bm) (hdct:=hdc) (sn:=sn) (sub:=sub) (ab:=ab) (col:=col) (dd:=dd) (k0:=k0) (k1:=k1) (k2:=k2) (k3:=k3) (k5:=k5)
  F.excBase_ValueError (by decide+kernel) F.excBase_ValueError (mN:=mN) (T.hasType (by decide+kernel)) hh rfl hni (z1f I hg hm ⟨rfl, ?_⟩ hd)
 have he:starEach [Expr.Constant (.str y) j p] X.env=(false,eval (.Constant (.str y) j p) X.env)::starEach [] X.env:=by rfl
 rw[he]
 refine Calls.evalArgs_plain ?_
 have ha:PA X [Expr.Constant (.str y) j p] _:=Y2 z6S z0E he
 have hp:=ha cpos pins s σ H (fun vs H1=>vs.length<=sizeLine/\H1=H) I ⟨by show 1<=sizeLine;decide,rfl⟩
 rw[he] at hp
 refine wpAny_mono hp (fun us s2 ⟨vs,H1,I1,r,hl,e1⟩=> ?_) fun _ _ z=>z
 subst e1
 exact⟨rfl,by rw[<-r.length];exact hl,I1.bk _ _ hC,hN.keeps I1.bk,T.keeps I1.bk,fun h' e hm=>hx pins σ H1 s2 h' e (.ref C) us I1 hm h⟩
end
noncomputable abbrev Xt(X:Cx)(pl:List (Addr×Obj))(E:Value->Shared->Prop):Cx:={X with pn:=pl,xe:=E}
theorem Cx.Ok.xt{X:Cx}(ok:X.Ok)(pl:List (Addr×Obj))(E:Value->Shared->Prop):(Xt X pl E).Ok:=
 ⟨ok.mod,ok.kind,ok.glob,ok.blt,ok.above,ok.inj,ok.has,ok.cab,ok.hd,ok.frames,ok.stk,ok.exf,ok.bs,ok.bsz,ok.noex,ok.exfs,ok.funs,ok.frf⟩
theorem Cx.Ok.unxt{X:Cx}{pl:List (Addr×Obj)}{E:Value->Shared->Prop}(ok:(Xt X pl E).Ok):X.Ok:=
 ⟨ok.mod,ok.kind,ok.glob,ok.blt,ok.above,ok.inj,ok.has,ok.cab,ok.hd,ok.frames,ok.stk,ok.exf,ok.bs,ok.bsz,ok.noex,ok.exfs,ok.funs,ok.frf⟩
theorem Inv.xt{X:Cx}{pins:List (Addr×Obj)}{σ:St}{H:Hp}{s:Shared}{E:Value->Shared->Prop}(I:Inv X pins σ H s):Inv (Xt X (X.pn++pins) E) [] σ H s:=⟨I.ok.xt _ _,I.os,I.bare,I.base,I.loc,I.cell,I.free,I.freeC,fun p hp=>I.pin p (by rw[c9] at hp;exact hp),I.hok,I.len⟩
theorem Inv.unxt{X:Cx}{pins pins':List (Addr×Obj)}{σ:St}{H:Hp}{s:Shared}{E:Value->Shared->Prop}(I:Inv (Xt X (X.pn++pins) E) pins' σ H s):Inv X pins σ H s:=⟨I.ok.unxt,I.os,I.bare,I.base,I.loc,I.cell,I.free,I.freeC,fun p hp=>I.pin p (b8 _ hp),I.hok,I.len⟩
noncomputable abbrev Xm(X:Cx)(a:Addr):Cx:={X with A:=X.A.mark (some (.ref a)),calm:=false,xe:=fun _ _=>False}
theorem Cx.Ok.xm{X:Cx}(ok:X.Ok)(a:Addr):(Xm X a).Ok:=
 ⟨ok.mod,ok.kind,ok.glob,ok.blt,ok.above,ok.inj,ok.has,ok.cab,fun z=>D4 z,ok.frames,ok.stk,ok.exf,ok.bs,ok.bsz,ok.noex,ok.exfs,ok.funs,ok.frf⟩
section
variable{X:Cx}{pins:List (Addr×Obj)}{σ:St}{H:Hp}{s s':Shared}
theorem Inv.xm(I:Inv X pins σ H s)(a:Addr):Inv (Xm X a) pins σ H s:=⟨I.ok.xm a,I.os,I.bare,I.base,I.loc,I.cell,I.free,I.freeC,I.pin,I.hok,I.len⟩
theorem Inv.unxm{a:Addr}(ok:X.Ok)(I:Inv (Xm X a) pins σ H s):Inv X pins σ H s:=⟨ok,I.os,I.bare,I.base,I.loc,I.cell,I.free,I.freeC,I.pin,I.hok,I.len⟩
noncomputable def z45(o:Obj):HO:= .frz o (.ext fun _=>True)
noncomputable def zeT(K:W.Frag)(CB:Addr)(ie:Nat)(th:TS)(D:z3J):St->XK:=fun σ C _ H=>W.exmOne K C (.ref CB)=some true/\∀a o,H a=none->K.lookup a=none->o.cls=C->(∃vs,o.data= .fields vs)->th {nx:=fun _ _=>False,rt:=D.rt} (σ.set ie (some (.ref a))) (upd H a (z45 o))
noncomputable def z9y(X:Cx)(hs:List ExceptHandler)(Q:Flow->Shared->Prop):Value->Shared->Prop:=fun e s₁=>
 wpAny (model X.prog X.w) X.A (noteFrame e X.env) (fun _ s₂=>wpAny (model X.prog X.w) X.A (setFlight e none) (fun _ s₃=>wpAny (model X.prog X.w) X.A (handleBy e X.env hs) Q X.xe s₃) X.xe s₂) X.xe s₁
theorem z9z{CB:Addr}{x n:Str}{ie:Nat}{np hpos:Pos}{b₀:Stmt}{suite:List Stmt}{th:TS}{D:z3J}(hst:X.stack=X.env::X.outer)(hfr:X.env.frame=some X.env.locals)(hex:X.ex=[])(hg:Gl X x)(hm:X.mg x=some (.ref CB))(hN:X.N.Nodup)(hi:X.N[ie]? =some n)(hloc:X.env.scope.names.lookup n=some .local)
 (hb: ∀a,PSs (Xm X a) (b₀::suite) th) (hd:(x==("__debug__" :Str))=false:=by decide) {e:Value} (I:Inv X pins σ H s) (hc:CX1 X.prog X.w X.stack H s (zeT X.K CB ie th D σ) e s'):
 z9y X [.ExceptHandler (some (.Name x np)) (some n) (b₀::suite) hpos] (SP X pins D) e s':=by
 obtain⟨a,C,H2,e1,F,hE⟩:=hc
 subst e1
 have I2:Inv X pins σ H2 s':=I.call' (ch:=[]) F.os F.un F.hok F.bare (fun b z=>absurd z (by simp))
 obtain⟨oe,vs,a0,T,oT,ts,h1,h2,h3,h4,h5,h6,h7,h8,h9,h10⟩:=F.tr
 have hx: ∀x∈[a,T],H2 x=none:=fun x hx=>by
  rcases e7.mp hx with rfl|hx
  ·exact F.he
  ·rcases e7.mp hx with rfl|hx
   ·exact h9
   ·cases hx
 have hs0: ∀x∈[a,T],s.heap.get? x=none:=fun x hx=>by
  rcases e7.mp hx with rfl|hx
  ·exact F.se
  ·rcases e7.mp hx with rfl|hx
   ·exact h10
   ·cases hx
 have hx0: ∀x∈[a,T],X.s₀.heap.get? x=none:=fun x hx=>z2c I hex (hs0 x hx)
 have hxp: ∀p∈X.pn++pins,p.1∉[a,T]:=fun p hp z=>by
  have:=(I.pin p hp).1
  rw[hs0 _ z] at this;cases this
 have aL:a≠X.env.locals:=fun z=>by
  obtain⟨m,⟨o,_,_,ho,_⟩,_⟩:=I.loc
  have:=F.se
  rw[z,ho] at this;cases this
 have aC: ∀x c,X.env.cells.lookup x=some c->c≠a:=fun x c e z=>by
  obtain⟨v,o,ho,_⟩:=I.cell x c e
  have:=F.se
  rw[<-z,ho] at this;cases this
 have fl0:Heap.FlyingW (W.hideAll s'.heap (frs X.stack++[a,T])) (X.env::X.outer) a C a0 s'.heap:=⟨fun b o q=>W.of_hideAll _ q,W.hideAll_none _ (by simp),by rw[<-hst];exact W.funFrames_hide I2.stack fun env he b hb=>b8 _ (I2.frmem env he b hb),oe,vs,T,oT,ts,h1,h2,h3,h4,W.hideAll_none _ (by simp),h5,h6,h7,h8⟩
 unfold z9y
 refine wpAny_looks_onW (by rw[<-hst];exact I2.ok.frames) hfr fl0 fun h4' held up4=> ?_
 refine wpAny_landsW held fun h5' fl5 up5=> ?_
 have up:=up4.trans up5
 have I5:Inv X pins σ H2 {s' with heap:=h5'}:=z7K (t':=s'.toks) I2 hex hx hx0 hxp fl5.1 up
 obtain⟨ob,hob,hobc⟩:=fl5.there
 refine wpAny_handleBy_cons (codeAny_handlers_test (z1f (X:=Xm X a) (I5.xm a) hg hm ?_ hd)) (by intro q;cases q)
 have LT:W.Looks (model X.prog X.w) h5' (typeOf (.ref a)) C:=hobc▸(W.Looks.ld hob).andThen .now
 refine(W.exm_one I5.kIn LT hE.1).here ?_
 refine codeAny_handlers_suite_as ?_
 refine lands_againW fl5 fun h6' fl6 up6=> ?_
 have I6:Inv X pins σ H2 {s' with heap:=h6'}:=z7K (t':=s'.toks) I2 hex hx hx0 hxp fl6.1 (up.trans up6)
 obtain⟨oe6,vs6,hoe6,hoec6,hoed6,_⟩:=fl6.first
 have I7:Inv X pins σ (upd H2 a (z45 oe6)) {s' with heap:=h6'}:=I6.track F.he (hx0 a (by simp)) aL aC (fun p hp z=>hxp p hp (by rw[z];simp)) ⟨hoe6,trivial,⟨_,hoe6⟩,fun _ _ _ _=>trivial⟩
 refine z35 (X:=Xm X a) (I7.xm a) hN hi (.inl hloc) (v:= .ref a) rfl (fun s8 I8=> ?_) (.inr hloc)
 refine wpAny_mono (hb a pins s8 _ _ _ I8 (hE.2 a oe6 F.he (by cases q:X.K.lookup a with|none=>rfl|some u=>have z:=I.kIn _ _ q;rw[F.se] at z;cases z) hoec6 ⟨_,hoed6⟩)) (fun fl s9 hq=> ?_) fun _ _ z=>z.elim
 have hkn:X.env.kindOf n=some .local:=hloc
 cases fl with
 |ret u=>
  obtain⟨v,σ',H',I9,r,q⟩:=hq
  have J:=I9.unxm I.ok
  obtain⟨m,hn,_⟩:=id J.loc
  refine wpAny_nameGoes hkn hn (by rw[I.ok.kind];rfl) fun h10 m' hn' hs=> ?_
  exact⟨v,_,H',J.forget (t':=s9.toks+1) hn' hs,r,q⟩
 |next=>obtain⟨_,_,_,q⟩:=hq;exact q.elim
 |brk=>obtain⟨_,_,_,q⟩:=hq;exact q.elim
 |cont=>obtain⟨_,_,_,q⟩:=hq;exact q.elim
end
end L2
namespace L2
open PySem PySem.Spec PySem.Calls PyProof.Rows Builtin Builtin.ObjectAttr Builtin.Getset_descriptor
section
variable{prog:Program}{w:World}{A:Around}{E:Value->Shared->Prop}{h:Heap}{g:Array GenState}{d:Drawn}{t:Nat}{os:OsState}{a C:Addr}{K:W.Frag}
theorem zeU{R:Result->Shared->Prop}{tp:Value}(X:K.In h)(L0:W.Looks (model prog w) h (typeOf (.ref a)) (.ref C))(hm:W.mroIn K C (.type "object")=some true)(hq:R (.ok (.ret (.ref C))) ⟨h,g,d,t,os⟩):
 codeAny (model prog w) A (.call (.builtin "getset_descriptor.__get__") ⟨[.builtin "object.__class__", .ref a,tp],[]⟩) R ⟨h,g,d,t,os⟩:=by
 have L1:=W.looks_mroIn (M:=model prog w) X hm
 refine codeAny_call_builtin W.KF.slot_gs.plain W.KF.entry_gs (W.KF.slot_gs.check _ _ _ _ _ _ _ _ W.KF.type_class (W.KF.args_gs _ _ _) ?_)
 unfold Builtin.«getset_descriptor.__get__» descrGet
 rw[W.dga_obj]
 refine wpAny_bind (wpAny_pure ?_)
 unfold descrGetter descrCheckInstance descrNameAndClass isInstance
 erw[W.KF.owner_class]
 repeat lk
 refine⟨Code.quiet_builtin _ (by decide+kernel),codeAny_builtin W.KF.entry_class ?_⟩
 unfold Builtin.«object.__class__» shownTypeOf
 repeat lk
 exact hq
theorem z9A{tk:Tok}{Q:Fin->Shared->Prop}(X:K.In h)(L0:W.Looks (model prog w) h (typeOf (.ref a)) (.ref C))(hm:W.mroIn K C (.type "object")=some true)(f3:W.findIn K (.ref C) "__class__" =some (some (.builtin "object.__class__")))(hq:Q (.done (.ret (.ref C))) ⟨h,g,d,t,os⟩):
 wpAny (model prog w) A (Builtin.«object.__getattribute__» ⟨[.ref a, .str "__class__" tk],[]⟩) Q E ⟨h,g,d,t,os⟩:=by
 have L3:=W.looks_findIn (M:=model prog w) X f3
 have hT5:(⟨h,g,d,t,os⟩:Shared).TypeIs (.builtin "object.__class__") "getset_descriptor" :=F.typeOf_object_class
 have f5:=F.typeOf_object_class
 have f6:=F.slot_gs_get.lookup
 have f7:=F.slot_gs_set.lookup
 repeat (any_goals (first|assumption|with_reducible refine L0.at ?_|with_reducible refine L3.at ?_|wp_step))
 refine zeU X L0 hm ?_
 repeat (any_goals (first|assumption|wp_step))
theorem z9B{M:Model}{nameV:Value}{Q:Unit->Shared->Prop}(X:K.In h)(L0:W.Looks M h (typeOf (.ref a)) (.ref C))(hm:W.mroIn K C (.type "BaseException")=some true)(hq:Q () ⟨h,g,d,t,os⟩):
 wpAny M A (checkBuiltinCall "BaseException.__getattribute__" ⟨[.ref a,nameV],[]⟩) Q E ⟨h,g,d,t,os⟩:=by
 have hk:builtinKind "BaseException.__getattribute__" =some .slot:=by decide+kernel
 have hsplit:splitId "BaseException.__getattribute__" =some ("BaseException", "__getattribute__"):=by decide+kernel
 have ha:=F.args_bexc_ga (.ref a) nameV
 have L1:=W.looks_mroIn (M:=M) X hm
 erw[checkBuiltinCall,hk,hsplit]
 refine wpAny_bind ?_
 ·unfold isInstance
  repeat (first|with_reducible refine L0.at ?_|with_reducible refine L1.at ?_|wp_step)
  exact hq
theorem zc0{tk:Tok}{R:Result->Shared->Prop}(X:K.In h)(L0:W.Looks (model prog w) h (typeOf (.ref a)) (.ref C))(hm:W.mroIn K C (.type "object")=some true)(hb:W.mroIn K C (.type "BaseException")=some true)(f3:W.findIn K (.ref C) "__class__" =some (some (.builtin "object.__class__")))(hq:R (.ok (.ret (.ref C))) ⟨h,g,d,t,os⟩):
 codeAny (model prog w) A (.call (.builtin "BaseException.__getattribute__") ⟨[.ref a, .str "__class__" tk],[]⟩) R ⟨h,g,d,t,os⟩:=
 codeAny_call_builtin F.excAttr_ValueError.ga.plain F.entry_bexc_ga (z9B X L0 hb (z9A X L0 hm f3 hq))
theorem zhd{tk:Tok}{fill expr:Bool}{Q:Value->Shared->Prop}(X:K.In h)(L0:W.Looks (model prog w) h (typeOf (.ref a)) (.ref C))(hm:W.mroIn K C (.type "object")=some true)(hb:W.mroIn K C (.type "BaseException")=some true)(f1:W.findIn K (.ref C) "__getattribute__" =some (some (.builtin "BaseException.__getattribute__")))(f2:W.findIn K (.ref C) "__getattr__" =some none)(f3:W.findIn K (.ref C) "__class__" =some (some (.builtin "object.__class__")))(hq:Q (.ref C) ⟨h,g,d,t,os⟩):
 wpAny (model prog w) A (getAttrBy (.ref a) (.str "__class__" tk) fill expr) Q E ⟨h,g,d,t,os⟩:=by
 have L1:=W.looks_findIn (M:=model prog w) X f1
 have L2:=W.looks_findIn (M:=model prog w) X f2
 have f3':=F.excAttr_ValueError.ga.bind (.ref a)
 have hx0:(expr&&onTheHeap (Value.builtin "BaseException.__getattribute__"))=false:=by cases expr<;>rfl
 have hx2:(Value.builtin "BaseException.__getattribute__" ==Value.builtin "object.__getattribute__")=false:=by decide+kernel
 have hx1:(onTheHeap (Value.ref C)&&Value.builtin "BaseException.__getattribute__" ==Value.builtin "object.__getattribute__")=false:=by rw[hx2];rfl
 repeat (any_goals (first|assumption|with_reducible refine L0.at ?_|with_reducible refine L1.at ?_|with_reducible refine L2.at ?_|wp_step))
 refine zc0 X L0 hm hb f3 ?_
 repeat (any_goals (first|assumption|wp_step))
theorem zc1{Q:Option Value->Shared->Prop}(X:K.In h)(L0:W.Looks (model prog w) h (typeOf (.ref a)) (.ref C))(hm:W.mroIn K C (.type "object")=some true)(hb:W.mroIn K C (.type "BaseException")=some true)(f1:W.findIn K (.ref C) "__getattribute__" =some (some (.builtin "BaseException.__getattribute__")))(f2:W.findIn K (.ref C) "__getattr__" =some none)(f3:W.findIn K (.ref C) "__class__" =some (some (.builtin "object.__class__")))(hq:Q (some (.ref C)) ⟨h,g,d,t+1,os⟩):
 wpAny (model prog w) A (getAttr? (.ref a) "__class__") Q E ⟨h,g,d,t,os⟩:=by
 unfold getAttr? getAttrBy?
 repeat (any_goals (first|assumption|with_reducible apply zhd X L0 hm hb f1 f2 f3|wp_step))
end
structure z2e(K:W.Frag)(C:Addr):Prop where
 ob:W.mroIn K C (.type "object")=some true
 ba:W.mroIn K C (.type "BaseException")=some true
 f1:W.findIn K (.ref C) "__getattribute__" =some (some (.builtin "BaseException.__getattribute__"))
 f2:W.findIn K (.ref C) "__getattr__" =some none
 f3:W.findIn K (.ref C) "__class__" =some (some (.builtin "object.__class__"))
theorem z5C{K:W.Frag}{a C:Addr}(Z:z2e K C):W.KitX K (.ref a) (.ref C) (fun h=> ∃o,h.get? a=some o/\o.cls= .ref C) where
 ty:=fun M h _ ⟨o,e,c⟩=>c▸(W.Looks.ld e).andThen .now
 it:=fun M h X _=>by
  obtain⟨cd,hc,_⟩:=L6.mp Z.ob
  unfold W.clsIn at hc
  split at hc
  ·rename_i c' d' cd' sl' ho
   intro A' Q' E' s' k q
   unfold isType loadHead
   exact wpAny_bind (wpAny_loadPart (k _ _ (X _ _ ho)) (wpAny_pure q))
  ·cases hc
 ne:=fun h tp dd its n sl X htp=>by
  obtain⟨cd,hc,_⟩:=L6.mp Z.ob
  refine A7.mpr fun q=> ?_
  have e:C=tp:=Value.ref.inj (beq_iff_eq.mp q)
  subst e
  unfold W.clsIn at hc
  split at hc
  ·rename_i c' d' cd' sl' ho
   have z:=(X _ _ ho).symm.trans htp
   cases z
  ·cases hc
 ca:=fun{prog w A E Q s} X ⟨o,e,c⟩ k=>by
  obtain⟨hh,g,d,t,os⟩:=s
  exact zc1 X (c▸(W.Looks.ld e).andThen .now) Z.ob Z.ba Z.f1 Z.f2 Z.f3 k
end L2
namespace L2
open PySem PySem.Spec PySem.Calls PyProof.Rows
noncomputable def cvV:V->Value
 | .ref a=> .ref a| .ty n=> .type n|_=> .none
noncomputable def zd6:V->Bool
 | .ref _=>true| .ty _=>true|_=>false
theorem z3i: ∀{cs:List V} {us:List Value},(∀c∈cs,zd6 c=true)->w4 cs us->us=cs.map cvV
 |[],_,_, .nil=>rfl
 |c::cs,_,h, .cons r rs=>by
  rw[b9,<-z3i (fun x hx=>h x (b7 _ hx)) rs]
  have hc:=h c (e9 ..)
  cases c<;>first|(cases hc;done)|(have r:_=_:=r;rw[r];rfl)
noncomputable def clO(p:Addr)(us:List Value):HO:= .ext fun h=>h.get? p=some {cls:= .type "tuple",data:= .seq us.toArray}
section
variable{X:Cx}{pos:Pos}
noncomputable def zhe(us:List Value):TE:=fun _ H Q=> ∀p,H p=none->Q (.ref p) (upd H p (clO p us))
theorem z5D{es:List Expr}{k}{cs:List V}{t:TA}(h:PA X es t)(ht: ∀σ H Q,Q cs H->t σ H Q)(hca:cs.all zd6=true)(hl:Nat.ble cs.length 40=true):PE X (.Tuple es k pos) (zhe (cs.map cvV)):=by
 have hc: ∀c∈cs,zd6 c=true:=t9.mp hca
 have hl:cs.length<=40:=n8 hl
 intro pins s σ H Q I hq
 refine wpAny_Tuple_spliced (thn (h pos pins s σ H (fun vs H1=>vs=cs/\H1=H) I (ht _ _ _ ⟨rfl,rfl⟩)) fun us s1 ⟨xs,H1,I1,r,e1,e2⟩=>⟨?_, ?_⟩)
 ·rw[<-r.length,e1,sizeLine_eq];lia
 ·subst e1 e2
  have hu:=z3i hc r
  subst hu
  have hf:H1 s1.heap.objs.size=none:=I1.hok.fresh (e8 _)
  refine⟨.ref s1.heap.objs.size,upd H1 s1.heap.objs.size (clO s1.heap.objs.size (xs.map cvV)),I1.laid (t':=s1.toks) (fun b u e=>Heap.get?_push_of_some _ e) (e8 _) ?_,rfl,hq _ hf⟩
  exact⟨Heap.get?_push_size _ rfl,⟨_,Heap.get?_push_size _ rfl⟩,fun h1 h2 q k=>k _ q⟩
noncomputable def zhf(K:W.Frag)(c:V):List V->Hp->VK->Prop:=fun xs H Q=> ∃a o C b,xs=[.ref a,c]/\H a=some (z45 o)/\o.cls= .ref C/\z2e K C/\W.kitOne K (.ref C) (cvV c)=some b/\Q (.bl b) H
theorem z7L{c:V}(hc:zd6 c=true):CallR X (.builtin "isinstance") (zhf X.K c):=by
 intro pins s σ H xs us Q I r ⟨a,o,C,b,e,hx,ho,Z,hk,q⟩
 subst e
 cases r with
 |cons r1 r2=>
  cases r2 with
  |cons r2 r3=>
   cases r3
   have e1:_=Value.ref a:=r1
   subst e1
   have e2:=z3i (cs:=[c]) (fun x hx=>by cases hx with|head=>exact hc|tail _ h=>cases h) (.cons r2 .nil)
   cases e2
   have hob:s.heap.get? a=some o:=(I.hok a _ hx).1
   exact W.kia_one (z5C Z) I.kIn ⟨o,hob,ho⟩ hk (by intro z;cases z) fun tk=>⟨.bl b,H,I.tok tk,rfl,q⟩
noncomputable def zhg(K:W.Frag)(us:List Value):List V->Hp->VK->Prop:=fun xs H Q=> ∃a o C p b,xs=[.ref a, .ref p]/\H a=some (z45 o)/\o.cls= .ref C/\z2e K C/\H p=some (clO p us)/\W.kitAny K (.ref C) us=some b/\Q (.bl b) H
theorem z7M{us:List Value}:CallR X (.builtin "isinstance") (zhg X.K us):=by
 intro pins s σ H xs vs Q I r ⟨a,o,C,p,b,e,hx,ho,Z,hp,hk,q⟩
 subst e
 cases r with
 |cons r1 r2=>
  cases r2 with
  |cons r2 r3=>
   cases r3
   have e1:_=Value.ref a:=r1
   subst e1
   have e2:_=Value.ref p:=r2
   subst e2
   have hob:s.heap.get? a=some o:=(I.hok a _ hx).1
   have htp:s.heap.get? p=some {cls:= .type "tuple",data:= .seq us.toArray}:=(I.hok p _ hp).1
   exact W.kia_tup (z5C Z) I.kIn ⟨o,hob,ho⟩ htp hk (by intro z;cases z) fun tk=>⟨.bl b,H,I.tok tk,rfl,q⟩
end
end L2
namespace L2
open PySem PySem.Spec PySem.SeqAt PySem.Calls PyProof.Rows
theorem z4P: ∀{bs:List Bool} {us:List Value},w4 (bs.map V.bl) us->us=bs.map Value.bool
 |[],_, .nil=>rfl
 |b::bs,_, .cons r rs=>by
  have r:_=_:=r
  rw[b9,<-z4P rs,r]
theorem zeV(k:Bool)(bs:List Bool)(A:Around)(s:Shared): ∀y,y∈(bs.map Value.bool).toArray->EqAt A s y (.bool k) (isBoolOf k y):=fun y hy=>by
 erw[List.mem_toArray,m7] at hy
 obtain⟨b,_,rfl⟩:=hy
 exact EqAt.bool_bool b k
theorem z46(k:Bool): ∀bs:List Bool,(bs.map Value.bool).countP (isBoolOf k)=bs.count k
 |[]=>rfl
 |b::bs=>by rw[b9,List.countP_cons,z46 k bs,List.count_cons];rfl
section
variable{X:Cx}
noncomputable def zaB(K:W.Frag):V->List V->Hp->VK->Prop:=fun x vs H Q=> ∃(p:Addr) (bs:List Bool) (k:Bool),x= .ref p/\vs=[.bl k]/\SqL K H p (bs.map V.bl)/\Q (.int (bs.count k:Nat)) H
theorem z9C:MtM X "list.count" (zaB X.K):=by
 intro pins s σ H x vs v us Q I rx rv h
 obtain⟨p,bs,k,rfl,rfl,hs,q⟩:=h
 cases rx
 obtain⟨u,rfl,ru⟩:=rv.one
 have ru:_=_:=ru
 subst ru
 obtain⟨its,r,pl,_⟩:=I.list hs
 have e:=z4P r
 subst e
 obtain⟨⟨cls,dd,data,sl⟩,ho,hc,n,hd⟩:=pl.isList
 simp only at hc hd
 subst hc hd
 refine call_meets PySem.F.slot_list_count ⟨_,ho,rfl⟩ PySem.F.entry_list_count (PySem.F.args_list_count_2 _ _) (list_countAt p _ n dd sl (.bool k) (isBoolOf k)) ⟨ho,zeV k bs _ _, ?_⟩
 exact⟨.int (bs.count k:Nat),H,I.tok _,⟨s.toks,by rw[<-z46]⟩,q⟩
noncomputable def zaC(K:W.Frag):V->List V->Hp->VK->Prop:=fun x vs H Q=> ∃(p:Addr) (bs:List Bool) (k:Bool),x= .ref p/\vs=[.bl k]/\SqL K H p (bs.map V.bl)/\k∈bs/\Q (.int (bs.idxOf k:Nat)) H
theorem z9D:MtM X "list.index" (zaC X.K):=by
 intro pins s σ H x vs v us Q I rx rv h
 obtain⟨p,bs,k,rfl,rfl,hs,hk,q⟩:=h
 cases rx
 obtain⟨u,rfl,ru⟩:=rv.one
 have ru:_=_:=ru
 subst ru
 obtain⟨its,r,pl,hz⟩:=I.list hs
 have e:=z4P r
 subst e
 obtain⟨⟨cls,dd,data,sl⟩,ho,hc,n,hd⟩:=pl.isList
 simp only at hc hd
 subst hc hd
 have hj:bs.idxOf k<bs.length:=List.idxOf_lt_length_iff.mpr hk
 have hn:=z2Q
 have hz':bs.length<=sizeLine:=by simpa using hz
 refine call_meets PySem.F.slot_list_index ⟨_,ho,rfl⟩ PySem.F.entry_list_index (PySem.F.args_list_index_2 _ _)
  (list_indexAt p _ n dd sl (.bool k) (isBoolOf k) (bs.idxOf k) (by simpa using hj) (by lia) ?_ ?_) ⟨ho,zeV k bs _ _,⟨.int (bs.idxOf k:Nat),H,I.tok _,⟨s.toks,rfl⟩,q⟩⟩
 ·simp[isBoolOf]
 ·intro j hjs hlt
  have:bs[j]'(by simpa using hjs)≠k:=fun h=>by
   have:=List.not_of_lt_findIdx (p:=(· ==k)) (xs:=bs) hlt
   simp[h] at this
  simp[isBoolOf,this]
end
end L2
namespace L2
open PySem PySem.Spec PySem.Calls PyProof.Rows
structure v4(k:Nat)(A:Around):Prop where
 dp:A.depth+3*k+5<recursionLimit
 un:A.units+16*k+200<cLine
 gd:A.guards=some []
theorem v4.mono{j k:Nat}{A:Around}(r:v4 k A)(h:j<=k):v4 j A:=⟨by have:=r.dp;lia,by have:=r.un;lia,r.gd⟩
theorem v4.deeper{k:Nat}{A:Around}(r:v4 (k+1) A)(env:Env):v4 k (A.deeper env):=
 ⟨by have:=r.dp;show A.depth+1+3*k+5<_;lia,by have:=r.un;show A.units+3+16*k+200<_;lia,r.gd⟩
theorem U5.h{k:Nat}{A:Around}(r:U5 k A)(o:Option Value):v4 k (A.mark o):=⟨r.dp,r.un,r.gd⟩
theorem v4.units{k:Nat}{A:Around}(r:v4 k A):A.units+64<cLine:=by have:=r.un;lia
theorem v4.depth{k:Nat}{A:Around}(r:v4 k A):A.depth<recursionLimit:=by have:=r.dp;lia
noncomputable abbrev cxH(CX:CXT)(P:Program)(w:World)(K:W.Frag)(mg:Str->Option Value)(base:Heap)(N:List Str)(qual:Str)(scope:Scope)(f:Addr)(cd:Value)(A:Around)(outer:List Env)(s:Shared)(H:Hp)(E:XK):Cx:=
 {cxOf CX P w K mg base N qual scope f cd A outer s H E with calm:=false}
structure z1o(P:Program)(w:World)(K:W.Frag)(mg:Str->Option Value)(base:Heap)(CX:CXT)(k:Nat)(f:Addr)(fd:FuncData)(ps:List Str)(sp:Sp):Prop where
 len: ∀vs H Q E,sp vs H Q E->vs.length=ps.length
 run: ∀(A:Around) (outer:List Env) (s:Shared) (H:Hp) (args:Args) (us:List Value) (vs:List V) (Q:VK) (E:XK),v4 k A->z6H P w K mg base A outer s H->BindsTo s fd args (ps.zip us)->w4 vs us->sp vs H Q E->
  codeAny (model P w) A (.call (.ref f) args) (CR CX outer P w H s Q E) s
theorem z1o.mono{P:Program}{w:World}{K:W.Frag}{mg:Str->Option Value}{base:Heap}{CX:CXT}{j k:Nat}{f:Addr}{fd:FuncData}{ps:List Str}{sp:Sp}(F:z1o P w K mg base CX j f fd ps sp)(h:j<=k):
 z1o P w K mg base CX k f fd ps sp:=⟨F.len,fun A outer s H args us vs Q E hr=>F.run A outer s H args us vs Q E (hr.mono h)⟩
theorem z6H.nohd{P:Program}{w:World}{K:W.Frag}{mg:Str->Option Value}{base:Heap}{A:Around}{outer:List Env}{s:Shared}{H:Hp}(e:z6H P w K mg base A outer s H):
 z6H P w K mg base {A with handled:=none} outer s H:=⟨e.frames,e.mod,e.bs,e.bsz,e.funs,e.frf,e.hok,e.bare⟩
theorem z6p{CX:CXT}{P:Program}{w:World}{K:W.Frag}{mg:Str->Option Value}{base:Heap}{N ps:List Str}{qual:Str}{scope:Scope}{f:Addr}{cd:Value}{A:Around}{outer:List Env}{s s1:Shared}{H:Hp}{E:XK}{us:List Value}{vs:List V}
 (S:Z4 N ps scope) (e0:z6H P w K mg base A outer s H) (hl:vs.length=ps.length) (r:w4 vs us)
 (x:InCallC s s.heap.objs.size (bindL (envOfC qual scope s.heap.objs.size f cd).kindOf (ps.zip us) fun _=>none) (cellsFrom (s.heap.objs.size+1) scope.names []) (bindC (envOfC qual scope s.heap.objs.size f cd).kindOf (ps.zip us) fun _=>none) s1):
 Inv (cxH CX P w K mg base N qual scope f cd A outer s H E) [] (z1h N vs) H s1:=by
 have I:=z3O (A:={A with handled:=none}) (CX:=CX) (E:=E) S rfl e0.nohd hl r x
 have ok:=I.ok
 exact⟨⟨ok.mod,ok.kind,ok.glob,ok.blt,ok.above,ok.inj,ok.has,ok.cab,fun z=>D4 z,Around.frames_deeper e0.frames,ok.stk,ok.exf,ok.bs,ok.bsz,ok.noex,ok.exfs,ok.funs,ok.frf⟩,I.os,I.bare,I.base,I.loc,I.cell,I.free,I.freeC,I.pin,I.hok,I.len⟩
theorem zeW{CX:CXT}{P:Program}{w:World}{K:W.Frag}{mg:Str->Option Value}{base:Heap}{k:Nat}{f:Addr}{name qual:Str}{params:Arguments}{body:List Stmt}{scope:Scope}{dV kV doc pm cdv ct oc:Value}{an od:Option Addr}
 {osl:Array (Option Value)} {N ps:List Str} {sp:Sp} (lk:K.lookup f=some ⟨oc,od, .func (W.fnOf name qual params body scope dV kV doc pm an cdv ct),osl⟩) (hcd:W.codeIn K cdv qual=true) (S:Z4 N ps scope)
 (len: ∀vs H Q E,sp vs H Q E->vs.length=ps.length)
 (hbody: ∀(A:Around) (outer:List Env) (s:Shared) (H:Hp) (vs:List V) (Q:VK) (E:XK),v4 k (A.deeper (envOfC qual scope s.heap.objs.size f cdv))->sp vs H Q E->
  ∃t,PSs (cxH CX P w K mg base N qual scope f cdv A outer s H E) body t/\t {nx:=fun _ H'=>Q .non H',rt:=Q} (z1h N vs) H):
 z1o P w K mg base CX (k+1) f (W.fnOf name qual params body scope dV kV doc pm an cdv ct) ps sp:=by
 refine⟨len,fun A outer s H args us vs Q E hr e0 hb r hsp=> ?_⟩
 have hl:=len _ _ _ _ hsp
 have KX:K.In s.heap:=e0.mod.kin.keeps fun b o e=>(e0.bs b o e).1
 have lim:s.heap.NoLimit:=e0.mod.nolimit.keeps fun b o e=>(e0.bs b o e).1
 have hkind: ∀y∈ps.zip us,scope.names.lookup y.1=some .local\/(scope.names.lookup y.1=some .cell/\((cellsFrom (s.heap.objs.size+1) scope.names []).lookup y.1).isSome=true):=fun⟨n,v⟩ hy=>by
  rcases S.par n (D8 hy).1 with q|q
  ·exact .inl q
  ·exact .inr ⟨q,W.cellsFrom_some _ _ _ (.inl q)⟩
 refine codeAny_call_function hr.depth (KX _ _ lk) rfl S.co S.gen rfl (W.codeRec_of KX hcd) (hb _ _ _ _ ?_)
 refine wpAny_newFunctionEnv_cells S.kind hkind fun env he s1 x=> ?_
 subst he
 refine⟨lim.keeps x.toInCall.keep,codeAny_func ?_⟩
 obtain⟨t,ht,hq⟩:=hbody A outer s H vs Q E (hr.deeper _) hsp
 have I:Inv (cxH CX P w K mg base N qual scope f cdv A outer s H E) [] (z1h N vs) H s1:=z6p S e0 hl r x
 refine wpAny_mono (ht [] s1 (z1h N vs) H _ I hq) (fun fl s' hs=> ?_) fun e s' hs=>hs
 have fin: ∀{σ':St} {H':Hp} {v:V} {u:Value},Inv (cxH CX P w K mg base N qual scope f cdv A outer s H E) [] σ' H' s'->RelV v u->Q v H'->CE outer P w H s Q u s':=
  fun{σ' H' v u} J rv q=>⟨v,H',J.os,J.bare,J.base,J.hok,rv,q⟩
 cases fl with
 |ret u=>
  obtain⟨v,σ',H',J,rv,q⟩:=hs
  exact fin J rv q
 |next=>
  obtain⟨σ',H',J,q⟩:=hs
  exact fin (v:=V.non) (u:=Value.none) J rfl q
 |brk=>
  obtain⟨_,_,_,q⟩:=hs
  exact False.elim q
 |cont=>
  obtain⟨_,_,_,q⟩:=hs
  exact False.elim q
section
variable{P:Program}{w:World}{K:W.Frag}{mg:Str->Option Value}{base:Heap}
theorem Fun.okH{x qual:Str}{st:Stmt}{f:Addr}{fd:FuncData}{N ps:List Str}{k:Nat}{sp:Sp}(F:Fun K x qual st f fd)(S:Z4 N ps (y0 st))(len: ∀vs H Q E,sp vs H Q E->vs.length=ps.length)
 (hbody: ∀(cdv:Value) (A:Around) (outer:List Env) (s:Shared) (H:Hp) (vs:List V) (Q:VK) (E:XK),v4 k (A.deeper (envOfC qual (y0 st) s.heap.objs.size f cdv))->sp vs H Q E->
  ∃t,PSs (cxH CX0 P w K mg base N qual (y0 st) f cdv A outer s H E).nox (W5 st) t/\t {nx:=fun _ H'=>Q .non H',rt:=Q} (z1h N vs) H):z1o P w K mg base CX0 (k+1) f fd ps sp:=by
 obtain⟨oc,od,kV,doc,pm,an,cdv,ct,osl,rfl,lk,hcd⟩:=F.ex
 refine zeW lk hcd S len fun A outer s H vs Q E hr hsp=> ?_
 obtain⟨t,h,q⟩:=hbody cdv A outer s H vs Q E hr hsp
 exact⟨t,h.nox,q⟩
end
section
variable{X:Cx}{CX:CXT}{k:Nat}{f C:Addr}{fd:FuncData}{ps:List Str}{sp:Sp}{dvs:List V}{ds:List Value}{E:XK}{x m:Str}{p pos apos:Pos}{e o:Expr}{es:List Expr}{ta:TE}{t:TA}
theorem zc2{pins:List (Addr×Obj)}{σ:St}{H:Hp}{s:Shared}{Q:VK}{us:List Value}{vs:List V}(F:z1o X.prog X.w X.K X.mg X.base CX k f fd ps sp)(hr:v4 k X.A)(hb:J2 X.K fd ps ds)(hd:w4 dvs ds)(hx:Q5 CX X E)
 (I:Inv X pins σ H s) (r:w4 vs us) (h:sp (vs++dvs) H Q E):wpAny (model X.prog X.w) X.A (call (.ref f) us) (EP X pins σ Q) X.xe s:=by
 have r2:w4 (vs++dvs) (us++ds):=r.append hd
 have hl:(us++ds).length=ps.length:=by rw[<-r2.length];exact F.len _ _ _ _ h
 refine wpAny_call (codeAny_mono (F.run X.A X.stack s H ⟨us,[]⟩ (us++ds) (vs++dvs) Q E hr I.env0 (hb s us I.kIn hl) r2 h) fun r s' hq=> ?_)
 cases r with
 |error e=>exact hx pins σ H s e s' I hq
 |ok fl=>
  cases fl with
  |ret u=>exact I.after hq
  |next=>exact False.elim hq
  |brk=>exact False.elim hq
  |cont=>exact False.elim hq
theorem z9E(F:z1o X.prog X.w X.K X.mg X.base CX k f fd ps sp)(hr:v4 k X.A)(hg:Gl X x)(hm:X.mg x=some (.ref f))(hk:W.keepIn X.K (.ref f)=true)(hb:J2 X.K fd ps ds)(hd:w4 dvs ds)(hx:Q5 CX X E)
 (ha:PA X (e::es) t) (hdb:(x==("__debug__" :Str))=false:=by decide) (he:starEach (e::es) X.env=(false,eval e X.env)::starEach es X.env:=by rfl) (hpl:(backTo pos (starEach es X.env)).any (·.1)=false:=by rfl):
 PE X (.Call (.Name x p) (e::es) [] pos) (zdJ sp dvs E t):=by
 intro pins s σ H Q I h
 refine wpAny_Call_Name_kw (z1f I hg hm ?_ hdb)
 refine W.callWith_K (h₀:=X.base) I.ok.mod.kin hk (thn (ha pos pins s σ H _ I h) fun us s1 ⟨vs,H1,I1,r,q⟩=>⟨I1.kIn, ?_⟩) he hpl
 exact zc2 F hr hb hd hx I1 r q
end
end L2
namespace L2
open PySem PySem.Spec PyProof.Rows
end L2
namespace Mi
open PySem L2 PySem.Spec
open PyProof.Rows (envOfC)
structure XP(X:Cx)(G:Gx)(F:Fy)(E:L2.St->XK):Prop where
 ps:zbZ X E
 xw: ∀c s',F.xw (.exc c) s'->∀ρ σv tv H C,F.tv0<:+tv->MR G F.toFx ρ H σv tv s'->G.cl c=some C->E σv (.ref C) none H
 no: ∀d s',F.xw d s'->∃c,d= .exc c
noncomputable def z2f(c:Str):MS:=fun s=> .ex (.exc c) s
section
variable{X:Cx}{G:Gx}{F:Fy}{E:L2.St->XK}{C:Addr}{x y:Str}{np cpos pos p:Pos}{j:Nat}
theorem ss_raise(hh:X.A.handled=none)(hx:XP X G F E)(hr:z2d X E)(hcl:G.cl x=some C)(hg:Gl X x)(hm:X.mg x=some (.ref C))(hq:W.excIn X.K C bmV "ValueError.__new__" =true)(hd:(x==("__debug__" :Str))=false:=by decide):
 SS X G F (.Raise (some (.Call (.Name x np) [.Constant (.str y) j p] [] cpos)) none pos) (z2f x):=
 PS.imp0 (z9x hh hr hg hm hq hd) fun D σ H ⟨tv,hs,ρ,s,M,W⟩=>hx.xw x s W ρ σ tv H C hs M hcl
end
open Classical in
noncomputable def z0O(r:RF)(ts:List D):M D:=fun s=>match r with
 | .ok t ts' n'=>if ts'=ts then .ok t {s with n:=n'} else
  if ∀l∈Q7 s,l∈labsL ts->(findL l ts').isSome=true then .ok t {σ:=rpO (fun l=>findL l ts') s.σ,tm:=rpO (fun l=>findL l ts') s.tm,n:=n'} else .no
 | .ex d ts' n'=>if ts'=ts then .ex d {s with n:=n'} else
  if ∀l∈Q7 s,l∈labsL ts->(findL l ts').isSome=true then .ex d {σ:=rpO (fun l=>findL l ts') s.σ,tm:=rpO (fun l=>findL l ts') s.tm,n:=n'} else .no
 | .no=> .no
noncomputable def spX(G:Gx)(np:Nat)(f:FM):Sp:=fun vs H Q E=>vs.length=np/\∃ρ n ts,RDs G ρ H ts vs/\(∀i j,i<n->j<n->ρ i=ρ j->i=j)/\(∀l,l<n->∃o,H (ρ l)=some o)/\(∀l∈labsL ts,l<n)/\KD G.K H/\match f ts n with
 | .ok t ts' n'=> ∀ρ' v H',z3g G ρ n ts vs H ρ' n' ts' H'->RD G ρ' H' t v->(∀l∈y4 t,l<n'/\(l<n->l∈labsL ts))->Q v H'
 | .ex d ts' n'=> ∃c,d= .exc c/\∀ρ' H' C,z3g G ρ n ts vs H ρ' n' ts' H'->G.cl c=some C->E (.ref C) none H'
 | .no=>False
section
variable{X:Cx}{G:Gx}{F:Fy}{E:L2.St->XK}{ρ:Nat->Addr}{H:Hp}{σv tv:List (Option V)}{s:Stt}{np:Nat}
theorem z6q{ts:List D}{vs:List V}{f:FM}{Q:VK}(hx:XP X G F E)(hs:F.tv0<:+tv)(hl:vs.length=np)(M:MRL G F.toFx ρ H σv tv s ts vs)(W:wM G F σv tv (z0O (f ts s.n) ts s) Q):spX G np f vs H Q (E σv):=by
 refine⟨hl,ρ,s.n,ts,M.rd,M.m.inj,M.m.dom,fun l h=>(M.lb l h).1,M.m.kd, ?_⟩
 cases e:f ts s.n with
 |no=>rw[e] at W;exact W
 |ex d ts' n'=>
  rw[e] at W
  unfold z0O at W
  dsimp only at W
  split at W
  ·rename_i et
   subst et
   obtain⟨c,rfl⟩:=hx.no _ _ W
   exact⟨c,rfl,fun ρ' H' C P hc=>hx.xw c _ W ρ' σv tv H' C hs (M.m.call0 M.rd M.lb P) hc⟩
  ·split at W
   ·rename_i hc
    obtain⟨c,rfl⟩:=hx.no _ _ W
    exact⟨c,rfl,fun ρ' H' C P hcl=>hx.xw c _ W ρ' σv tv H' C hs (M.m.call M.rd M.lb P hc) hcl⟩
   ·exact False.elim W
 |ok t ts' n'=>
  rw[e] at W
  intro ρ' v H' P rd lbt
  have own: ∀l∈y4 t,F.A0 (ρ' l)\/F.H0 (ρ' l)=none:=fun l h=>by
   obtain⟨b1,b2⟩:=lbt l h
   by_cases hn:l<s.n
   ·rw[P.old l hn];exact(M.lb l (b2 hn)).2
   ·exact .inr (M.m.fresh0 (P.new l (C9.mp hn) b1))
  unfold z0O at W
  dsimp only at W
  split at W
  ·rename_i et
   subst et
   exact W.out (M.m.call0 M.rd M.lb P) rd fun l h=>⟨(lbt l h).1,own l h⟩
  ·split at W
   ·rename_i hc
    exact W.out (M.m.call M.rd M.lb P hc) rd fun l h=>⟨(lbt l h).1,own l h⟩
   ·exact False.elim W
end
noncomputable def K7(k:Nat)(tm:List (Option D)):List (Option D):=tm.drop (tm.length -k)
noncomputable def zaD(nl:Nat)(mb:MS):FM:=fun ts n=>match mb {σ:=ts.map some++e6 (nl -ts.length) none,tm:=ts.map some,n:=n} with
 | .nx s'=>match Z1 s'.tm with|some ts'=> .ok .non ts' s'.n|none=> .no
 | .rt t s'=>match Z1 s'.tm with|some ts'=> .ok t ts' s'.n|none=> .no
 | .ex d s'=>match Z1 (K7 ts.length s'.tm) with|some ts'=> .ex d ts' s'.n|none=> .no
 |_=> .no
noncomputable def zeX(G:Gx)(ρ:Nat->Addr)(n:Nat)(ts:List D)(vs:List V)(H:Hp)(lb: ∀l∈labsL ts,l<n)(dom: ∀l,l<n->∃o,H (ρ l)=some o)(E:XK):Fy:=
 {(z4L G ρ n ts vs H lb dom) with xw:=fun d s'=> ∃c ts',d= .exc c/\Z1 (K7 ts.length s'.tm)=some ts'/\∀ρ' H' C,z3g G ρ n ts vs H ρ' s'.n ts' H'->G.cl c=some C->E (.ref C) none H'}
theorem MR.last{G:Gx}{F:Fx}{ρ:Nat->Addr}{H:Hp}{σv tv t0:List (Option V)}{s:Stt}(M:MR G F ρ H σv tv s)(h:t0<:+tv):MR G F ρ H σv t0 {s with tm:=K7 t0.length s.tm}:=by
 obtain⟨t1,rfl⟩:=h
 have hl:=M.tm.length
 have e:K7 t0.length s.tm=s.tm.drop t1.length:=by
  unfold K7
  rw[hl,l5]
  congr 1
  lia
 have sub: ∀l∈Z2 (s.tm.drop t1.length),l∈Z2 s.tm:=fun l hm=>by
  rw[<-B3 t1.length s.tm,Z7]
  exact b6 _ hm
 rw[e]
 refine⟨M.sl,(Sl.split t1 M.tm).2,M.inj,M.dom,fun l h=>M.lab l ?_,fun l h=>M.own l ?_,M.frm,M.kd,M.frb,M.bas⟩
 ·rcases c8.mp h with h|h
  ·exact b8 _ h
  ·exact b6 _ (sub l h)
 ·rcases c8.mp h with h|h
  ·exact b8 _ h
  ·exact b6 _ (sub l h)
theorem fn_X{G:Gx}{P:Program}{w:World}{K:W.Frag}{mg:Str->Option Value}{base:Heap}{x qual:Str}{st:Stmt}{fa:Addr}{fd:FuncData}{N ps:List Str}{k:Nat}{mb:MS}(Fn:Fun K x qual st fa fd)(S:Z4 N ps (y0 st))(hG:G.K=K)
 (hb: ∀(cdv:Value) (A:Around) (outer:List Env) (s:Shared) (H:Hp) (E:XK) (F:Fy),U5 k (A.deeper (envOfC qual (y0 st) s.heap.objs.size fa cdv))->XP (cxOf (CX1 P w) P w K mg base N qual (y0 st) fa cdv A outer s H E) G F (fun _=>E)->z2d (cxOf (CX1 P w) P w K mg base N qual (y0 st) fa cdv A outer s H E) (fun _=>E)->SSs (cxOf (CX1 P w) P w K mg base N qual (y0 st) fa cdv A outer s H E) G F (W5 st) mb):
 J1 P w K mg base (CX1 P w) (k+1) fa fd ps (spX G ps.length (zaD N.length mb)):=by
 obtain⟨oc,od,kV,doc,pm,an,cdv,ct,osl,rfl,lk,hcd⟩:=Fn.ex
 refine zdL lk hcd S (fun vs H Q E h=>h.1) fun A outer s H vs Q E hr h=> ?_
 obtain⟨hl,ρ,n,ts,r,inj,dom,lb,kd,W⟩:=h
 have hlen:=r.length
 have hX:XP (cxOf (CX1 P w) P w K mg base N qual (y0 st) fa cdv A outer s H E) G (zeX G ρ n ts vs H lb dom E) (fun _=>E):=by
  refine⟨fun pins σ H1 s1 e s2 I h=>z4O pins σ H1 s1 e s2 I h,fun c s' ⟨c',ts',e1,e2,q⟩ ρ' σv tv H' C hs M hc=> ?_,fun d s' ⟨c,ts',e1,_⟩=>⟨c,e1⟩⟩
  cases e1
  have M2:MR G (z4L G ρ n ts vs H lb dom).toFx ρ' H' σv (vs.map some) {s' with tm:=K7 ts.length s'.tm}:=by
   have:=MR.last (t0:=vs.map some) M hs
   rw[i9,<-hlen] at this
   exact this
  obtain⟨P,_⟩:=X5 inj M2 e2
  exact q ρ' H' C P hc
 have hR:z2d (cxOf (CX1 P w) P w K mg base N qual (y0 st) fa cdv A outer s H E) (fun _=>E):=fun pins σ H1 s1 h' e C args I hm hE=>zeQ I hm hE
 refine⟨_,hb cdv A outer s H E (zeX G ρ n ts vs H lb dom E) hr hX hR,vs.map some,D5 _,ρ,{σ:=ts.map some++e6 (N.length -ts.length) none,tm:=ts.map some,n:=n}, ?_, ?_⟩
 ·obtain⟨r1,r2⟩:=RDs.sl r
  have sub: ∀l∈Q7 {σ:=ts.map some++e6 (N.length -ts.length) none,tm:=ts.map some,n:=n},l∈labsL ts:=fun l h=>by
   rcases c8.mp h with h|h
   ·have h:l∈Z2 (ts.map some++e6 (N.length -ts.length) none):=h
    rw[Z7] at h
    rcases c8.mp h with h|h
    ·rw[<-r2];exact h
    ·exact absurd h (z05 _)
   ·rw[<-r2];exact h
  refine⟨?_,r1,inj,dom,fun l h=>lb l (sub l h),fun l h=> .inl ⟨l,sub l h,rfl⟩,fun a o e=>⟨⟨o,e⟩,fun _=>e⟩,kd,fun l hl z=>z.2 l hl rfl,⟨e8 _,fun l _=>rfl⟩⟩
  show Sl G ρ H _ (vs.map some++e6 (N.length -vs.length) none)
  rw[<-hlen]
  exact r1.append (Sl.none_map _)
 ·unfold zaD at W
  cases e:mb {σ:=ts.map some++e6 (N.length -ts.length) none,tm:=ts.map some,n:=n} with
  |nx s'=>
   erw[e] at W
   cases ea:Z1 s'.tm with
   |none=>erw[ea] at W
   |some ts'=>
    erw[ea] at W
    intro ρ' σv' H' M
    obtain⟨P,_⟩:=X5 (lb:=lb) (dom:=dom) inj M ea
    exact W ρ' .non H' P (by erw[RD]) fun l h=>by simp[y4] at h
  |rt t s'=>
   erw[e] at W
   cases ea:Z1 s'.tm with
   |none=>erw[ea] at W
   |some ts'=>
    erw[ea] at W
    intro ρ' σv' v H' M
    obtain⟨P,own⟩:=X5 (lb:=lb) (dom:=dom) inj M.m ea
    exact W ρ' v H' P M.rd1 fun l h=>⟨(M.lb1 l h).1,own l (M.lb1 l h).1 (M.lb1 l h).2⟩
  |bk s'=>erw[e] at W
  |ct s'=>erw[e] at W
  |ex d s'=>
   erw[e] at W
   cases ea:Z1 (K7 ts.length s'.tm) with
   |none=>erw[ea] at W
   |some ts'=>
    erw[ea] at W
    obtain⟨c,e1,q⟩:=W
    exact⟨c,ts',e1,ea,q⟩
  |no=>erw[e] at W
noncomputable def zd7(k:Str->Bool)(ie:Nat)(mb mh:MS):MS:=fun s=>match mb s with
 | .ex (.exc c) s'=>if k c then(match mh {σ:=s'.σ.set ie (some (.exc c)),tm:=K7 s.tm.length s'.tm,n:=s'.n} with
  | .rt d s''=> .rt d s''
  |_=> .no) else .no
 | .ex _ _=> .no
 |r=>r
noncomputable def zhh(G:Gx)(F:Fy)(k:Str->Bool)(ie:Nat)(mh:MS)(tv:List (Option V))(D:z3J):Fy:=
 {F with tv0:=tv,xw:=fun d s'=> ∃c,d= .exc c/\k c=true/\wS G F tv (match mh {σ:=s'.σ.set ie (some (.exc c)),tm:=K7 tv.length s'.tm,n:=s'.n} with| .rt d s''=> .rt d s''|_=> .no) D}
section
variable{X:Cx}{G:Gx}{F:Fy}{np hpos pos:Pos}{b₀:Stmt}{suite body:List Stmt}{x n:Str}{ie:Nat}{CB:Addr}{mb mh:MS}{k:Str->Bool}
theorem ss_try(hst:X.stack=X.env::X.outer)(hfr:X.env.frame=some X.env.locals)(hex:X.ex=[])(hK:X.K=G.K)(hg:Gl X x)(hm:X.mg x=some (.ref CB))(hN:X.N.Nodup)(hi:X.N[ie]? =some n)(hloc:X.env.scope.names.lookup n=some .local)
 (hk: ∀c C,G.cl c=some C->k c=true->W.exmOne X.K (.ref C) (.ref CB)=some true)
 (hb: ∀(pl:List (Addr×Obj)) (E':Value->Shared->Prop) (F':Fy) (E:L2.St->XK),XP (Xt X pl E') G F' E->SSs (Xt X pl E') G F' body mb) (hh: ∀a,SSs (Xm X a) G F (b₀::suite) mh) (hd:(x==("__debug__" :Str))=false:=by decide):
 SS X G F (.Try body [.ExceptHandler (some (.Name x np)) (some n) (b₀::suite) hpos] [] [] pos) (zd7 k ie mb mh):=by
 intro pins s σ H D I ⟨tv,hs,ρ,ms,M,W⟩
 refine wpAny_Try_except ?_
 have hlt:ms.tm.length=tv.length:=M.tm.length
 have hX:XP (Xt X (X.pn++pins) (z9y X [.ExceptHandler (some (.Name x np)) (some n) (b₀::suite) hpos] (SP X pins D))) G (zhh G F k ie mh tv D) (zeT X.K CB ie (tS G F mh) D):=by
  refine⟨fun pins' σ' H' s' e s2 I' h=> ?_,fun c s' ⟨c',e1,hkc,q⟩ ρ' σv tv' H' C hs' M' hc=> ?_,fun d s' ⟨c,e1,_⟩=>⟨c,e1⟩⟩
  ·exact z9z hst hfr hex hg hm hN hi hloc hh hd I'.unxt h
  ·cases e1
   refine⟨hk c C hc hkc,fun a o hn hKn ho hf=>⟨tv,hs,ρ',{σ:=s'.σ.set ie (some (.exc c)),tm:=K7 tv.length s'.tm,n:=s'.n}, ?_, ?_⟩⟩
   ·have M1:MR G F.toFx ρ' H' σv tv {s' with tm:=K7 tv.length s'.tm}:=MR.last (t0:=tv) M' hs'
    have kd:KD G.K (upd H' a (z45 o)):=fun b ob q=>by
     by_cases hb:b=a
     ·subst hb;rw[<-hK,hKn] at q;cases q
     ·rw[y6 hb];exact M1.kd b ob q
    have M2:=M1.same (V2.new (z45 o) hn) kd
    have rd:RD G ρ' (upd H' a (z45 o)) (.exc c) (.ref a):=by
     erw[RD]
     exact⟨a,o,C,rfl,hc,ho,hf,y8⟩
    have M3:=MRL.setS ie (⟨M2,RDs.one rd,fun l hl=>by simp[labsL,y4] at hl⟩:MRL G F.toFx ρ' (upd H' a (z45 o)) σv tv {s' with tm:=K7 tv.length s'.tm} [.exc c] [.ref a])
    exact M3.m
   ·revert q
    cases mh {σ:=s'.σ.set ie (some (.exc c)),tm:=K7 tv.length s'.tm,n:=s'.n} with
    |rt d s''=>exact fun q=>q
    |nx s''=>exact fun q=>q.elim
    |bk s''=>exact fun q=>q.elim
    |ct s''=>exact fun q=>q.elim
    |ex d s''=>exact fun q=>q.elim
    |no=>exact fun q=>q.elim
 have W':wS G (zhh G F k ie mh tv D) tv (mb ms) D:=by
  unfold zd7 at W
  cases e:mb ms with
  |nx s'=>rw[e] at W;exact W
  |rt d s'=>rw[e] at W;exact W
  |bk s'=>rw[e] at W;exact W
  |ct s'=>rw[e] at W;exact W
  |no=>rw[e] at W;exact W
  |ex d s'=>
   rw[e] at W
   cases d with
   |exc c=>
    dsimp only at W
    by_cases hkc:k c=true
    ·rw[if_pos hkc,hlt] at W;exact⟨c,rfl,hkc,W⟩
    ·rw[if_neg hkc] at W;exact False.elim W
   |_=>exact False.elim W
 refine wpAny_mono (hb (X.pn++pins) (z9y X [.ExceptHandler (some (.Name x np)) (some n) (b₀::suite) hpos] (SP X pins D)) (zhh G F k ie mh tv D) _ hX [] s σ H D I.xt ⟨tv,D5 _,ρ,ms,M,W'⟩) (fun f s1 q=> ?_) fun _ _ z=>z
 cases f with
 |next=>obtain⟨σ',H',I',q⟩:=q;exact wpAny_execs_nil ⟨σ',H',I'.unxt,q⟩
 |brk=>obtain⟨σ',H',I',q⟩:=q;exact⟨σ',H',I'.unxt,q⟩
 |cont=>obtain⟨σ',H',I',q⟩:=q;exact⟨σ',H',I'.unxt,q⟩
 |ret u=>obtain⟨v,σ',H',I',r,q⟩:=q;exact⟨v,σ',H',I'.unxt,r,q⟩
noncomputable def z5E(tb:Str->Option Bool)(m:M D):M D:=bd m fun d=>match d with
 | .exc c=>(match tb c with|some b=>rt (.bool b)|none=>fl)
 |_=>fl
theorem se_isX1{p:Pos}{x y:Expr}{m:M D}{c:V}{tb:Str->Option Bool}(hK:X.K=G.K)(hc:zd6 c=true)(ht: ∀r C b,G.cl r=some C->tb r=some b->z2e X.K C/\W.kitOne X.K (.ref C) (cvV c)=some b)(hgl:Gl X "isinstance")(hm:X.mg "isinstance" =none)(ha:SE X G F x m)(hy:PE X y (tC c))
 (he:starEach [x,y] X.env=(false,eval x X.env)::starEach [y] X.env:=by rfl) (he2:starEach [y] X.env=(false,eval y X.env)::starEach [] X.env:=by rfl) (hpl:(backTo pos (starEach [y] X.env)).any (·.1)=false:=by rfl):SE X G F (.Call (.Name "isinstance" p) [x,y] [] pos) (z5E tb m):=by
 refine PE.imp hK (z1K (z7L (c:=c) hc) hgl hm PyProof.Rows.Boot.«isinstance» (Y2 ha (Y2 hy z0E he2) he) (by decide) (by decide) he hpl) fun σ H Q ⟨tv,h⟩=>⟨tv,(z27 h).mono fun v H1 ⟨ρ1,s1,t,M1,W⟩=> ?_⟩
 cases t with
 |exc r=>
  have h1:=M1.rd1
  erw[RD] at h1
  obtain⟨a,o,C,e,hcl,ho,hf,hH⟩:=h1
  cases e
  cases eb:tb r with
  |none=>erw[eb] at W;exact False.elim W
  |some b=>
   erw[eb] at W
   obtain⟨z1,z2⟩:=ht r C b hcl eb
   exact⟨a,o,C,b,rfl,hH,ho,z1,z2,fun _=>W.flat M1.m rfl⟩
 |_=>exact False.elim W
theorem se_isXT{p:Pos}{x y:Expr}{m:M D}{us:List Value}{tb:Str->Option Bool}(hK:X.K=G.K)(ht: ∀r C b,G.cl r=some C->tb r=some b->z2e X.K C/\W.kitAny X.K (.ref C) us=some b)(hgl:Gl X "isinstance")(hm:X.mg "isinstance" =none)(ha:SE X G F x m)(hy:PE X y (zhe us))
 (he:starEach [x,y] X.env=(false,eval x X.env)::starEach [y] X.env:=by rfl) (he2:starEach [y] X.env=(false,eval y X.env)::starEach [] X.env:=by rfl) (hpl:(backTo pos (starEach [y] X.env)).any (·.1)=false:=by rfl):SE X G F (.Call (.Name "isinstance" p) [x,y] [] pos) (z5E tb m):=by
 refine PE.imp hK (z1K (z7M (us:=us)) hgl hm PyProof.Rows.Boot.«isinstance» (Y2 ha (Y2 hy z0E he2) he) (by decide) (by decide) he hpl) fun σ H Q ⟨tv,h⟩=>⟨tv,(z27 h).mono fun v H1 ⟨ρ1,s1,t,M1,W⟩=> ?_⟩
 cases t with
 |exc r=>
  have h1:=M1.rd1
  erw[RD] at h1
  obtain⟨a,o,C,e,hcl,ho,hf,hH⟩:=h1
  cases e
  cases eb:tb r with
  |none=>erw[eb] at W;exact False.elim W
  |some b=>
   erw[eb] at W
   obtain⟨z1,z2⟩:=ht r C b hcl eb
   intro q hq
   have sm:=V2.new (clO q us) hq
   exact⟨a,o,C,q,b,rfl,sm _ _ hH,ho,z1,y8,z2,fun k=>W.flat (M1.m.same sm k) rfl⟩
 |_=>exact False.elim W
end
end Mi
namespace Mi
open PySem L2 PySem.Spec
inductive Al(Φ:Addr->Prop):List (Str×Addr)->Prop
 |nil:Al Φ []
 |cons {c:Str} {a:Addr} {l:List (Str×Addr)}:Φ a->Al Φ l->Al Φ ((c,a)::l)
theorem Al.at{Φ:Addr->Prop}{l:List (Str×Addr)}(h:Al Φ l){c:Str}{a:Addr}(e:l.lookup c=some a):Φ a:=by
 induction h with
 |nil=>cases e
 | @cons c' a' l h _ ih=>
  rw[i8] at e
  cases q:c==c' with
  |true=>rw[q] at e;cases e;exact h
  |false=>rw[q] at e;exact ih e
inductive Al2{β:Type}(Φ:Addr->β->Prop):List (Str×Addr)->List (Str×β)->Prop
 |nil:Al2 Φ [] []
 |cons {c:Str} {a:Addr} {b:β} {l:List (Str×Addr)} {r:List (Str×β)}:Φ a b->Al2 Φ l r->Al2 Φ ((c,a)::l) ((c,b)::r)
 |skip {c:Str} {a:Addr} {l:List (Str×Addr)} {r:List (Str×β)}:r.lookup c=none->Al2 Φ l r->Al2 Φ ((c,a)::l) r
theorem Al2.at{β:Type}{Φ:Addr->β->Prop}{l:List (Str×Addr)}{r:List (Str×β)}(h:Al2 Φ l r): ∀{c:Str} {a:Addr} {b:β},l.lookup c=some a->r.lookup c=some b->Φ a b:=by
 induction h with
 |nil=>intro c a b e;cases e
 | @cons c' a' b' l r h _ ih=>
  intro c a b e e2
  rw[i8] at e e2
  cases q:c==c' with
  |true=>rw[q] at e e2;cases e;cases e2;exact h
  |false=>rw[q] at e e2;exact ih e e2
 | @skip c' a' l r hn _ ih=>
  intro c a b e e2
  rw[i8] at e
  cases q:c==c' with
  |true=>rw[beq_iff_eq] at q;subst q;rw[hn] at e2;cases e2
  |false=>rw[q] at e;exact ih e e2
theorem z1p: ∀{l:List (Str×Addr)} {c:Str} {a:Addr},l.lookup c=some a->a∈l.map (·.2)
 |(c',a')::l,c,a,e=>by
  rw[i8] at e
  cases q:c==c' with
  |true=>rw[q] at e;cases e;exact e9 ..
  |false=>rw[q] at e;exact b7 _ (z1p e)
theorem z2V: ∀{l:List (Str×Addr)},(l.map (·.2)).Nodup->∀{c c':Str} {a:Addr},l.lookup c=some a->l.lookup c'=some a->c=c'
 |(k,v)::l,nd,c,c',a,e,e'=>by
  rw[b9,C0] at nd
  rw[i8] at e e'
  cases q:c==k with
  |true=>
   rw[q] at e;cases e
   cases q':c'==k with
   |true=>rw[beq_iff_eq] at q q';rw[q,q']
   |false=>rw[q'] at e';exact absurd (z1p e') nd.1
  |false=>
   rw[q] at e
   cases q':c'==k with
   |true=>rw[q'] at e';cases e';exact absurd (z1p e) nd.1
   |false=>rw[q'] at e';exact z2V nd.2 e e'
noncomputable def NSq(K:W.Frag)(a:Addr):Prop:= ∃o,K.lookup a=some o/\∀its n,o.data≠ .seq its n
theorem z3j{K:W.Frag}{C:Addr}{bm:List Value}{i:String}(q:W.excIn K C bm i=true):NSq K C:=by
 unfold W.excIn at q
 split at q
 ·rename_i dd cd sl ho
  exact⟨_,ho,fun its n z=>by cases z⟩
 ·cases q
noncomputable def mkG(K:W.Frag)(l:List (Str×Addr))(nd:(l.map (·.2)).Nodup)(ok:Al (NSq K) l):Gx:=⟨K,fun c=>l.lookup c,fun _ _ _ h h'=>z2V nd h h',fun _ _ h=>ok.at h⟩
section
variable{X:Cx}{G:Gx}{F:Fy}{E:L2.St->XK}
structure FnV(X:Cx)(G:Gx)(np:Nat)(a:Addr)(f:FM):Prop where
 ex: ∃k fd ps,ps.length=np/\J1 X.prog X.w X.K X.mg X.base (CX1 X.prog X.w) k a fd ps (spX G np f)/\U5 k X.A/\W.keepIn X.K (.ref a)=true/\J2 X.K fd ps []
end
end Mi
namespace Mi
open PySem L2 PySem.Spec
open PyProof.Rows (envOfC)
section
variable{G:Gx}{ρ ρ':Nat->Addr}{H H':Hp}
variable{F:Fy}{σv tv:List (Option V)}{s:Stt}{np:Nat}
theorem se_callH{X:Cx}{e:Expr}{es:List Expr}{pos p:Pos}{CX:CXT}{k:Nat}{fa:Addr}{fd:FuncData}{ps:List Str}{x:Str}{E:XK}{f:FM}{ms:List (M D)}(hk:X.K=G.K)(Fn:z1o X.prog X.w X.K X.mg X.base CX k fa fd ps (spM G ps.length f))(hr:v4 k X.A)(hg:Gl X x)(hm:X.mg x=some (.ref fa))(hkp:W.keepIn X.K (.ref fa)=true)(hb:J2 X.K fd ps [])(hx:Q5 CX X E)
 (ha:SA X G F (e::es) (Z3 ms)) (hln:ms.length=ps.length) (hdb:(x==("__debug__" :Str))=false:=by decide) (he:starEach (e::es) X.env=(false,eval e X.env)::starEach es X.env:=by rfl) (hpl:(backTo pos (starEach es X.env)).any (·.1)=false:=by rfl):
 SE X G F (.Call (.Name x p) (e::es) [] pos) (Y1 f ms):=by
 refine PE.imp0 (z9E Fn hr hg hm hkp hb .nil hx ha hdb he hpl) fun σ H Q ⟨tv,hs,ρ,s,M,W⟩=>⟨tv,hs,ρ,s,M, ?_⟩
 unfold Y1 bd at W
 cases e1:Z3 ms s with
 |ex d s1=>rw[e1] at W;exact W
 |no=>rw[e1] at W;exact W
 |ok ts s1=>
  rw[e1] at W
  intro ρ1 vs H1 M1
  rw[c9]
  exact z0N (by rw[<-M1.rd.length,z06 ms s ts s1 e1,hln]) M1 W
theorem fn_H{P:Program}{w:World}{K:W.Frag}{mg:Str->Option Value}{base:Heap}{x qual:Str}{st:Stmt}{fa:Addr}{fd:FuncData}{N ps:List Str}{k:Nat}{mb:MS}(Fn:Fun K x qual st fa fd)(S:Z4 N ps (y0 st))(hG:G.K=K)
 (hb: ∀(cdv:Value) (A:Around) (outer:List Env) (s:Shared) (H:Hp) (E:XK) (F:Fy),v4 k (A.deeper (envOfC qual (y0 st) s.heap.objs.size fa cdv))->SSs (cxH CX0 P w K mg base N qual (y0 st) fa cdv A outer s H E).nox G F (W5 st) mb):
 z1o P w K mg base CX0 (k+1) fa fd ps (spM G ps.length (z1n N.length mb)):=by
 refine Fn.okH S (fun vs H Q E h=>h.1) fun cdv A outer s H vs Q E hr h=> ?_
 obtain⟨hl,ρ,n,ts,r,inj,dom,lb,kd,W⟩:=h
 refine⟨_,hb cdv A outer s H E (z4L G ρ n ts vs H lb dom) hr,vs.map some,D5 _,ρ,{σ:=ts.map some++e6 (N.length -ts.length) none,tm:=ts.map some,n:=n}, ?_, ?_⟩
 ·obtain⟨r1,r2⟩:=RDs.sl r
  have hlen:=r.length
  have sub: ∀l∈Q7 {σ:=ts.map some++e6 (N.length -ts.length) none,tm:=ts.map some,n:=n},l∈labsL ts:=fun l h=>by
   rcases c8.mp h with h|h
   ·have h:l∈Z2 (ts.map some++e6 (N.length -ts.length) none):=h
    rw[Z7] at h
    rcases c8.mp h with h|h
    ·rw[<-r2];exact h
    ·exact absurd h (z05 _)
   ·rw[<-r2];exact h
  refine⟨?_,r1,inj,dom,fun l h=>lb l (sub l h),fun l h=> .inl ⟨l,sub l h,rfl⟩,fun a o e=>⟨⟨o,e⟩,fun _=>e⟩,kd,fun l hl z=>z.2 l hl rfl,⟨e8 _,fun l _=>rfl⟩⟩
  show Sl G ρ H _ (vs.map some++e6 (N.length -vs.length) none)
  rw[<-hlen]
  exact r1.append (Sl.none_map _)
 ·unfold z1n at W
  cases e:mb {σ:=ts.map some++e6 (N.length -ts.length) none,tm:=ts.map some,n:=n} with
  |nx s'=>
   erw[e] at W
   cases ea:Z1 s'.tm with
   |none=>erw[ea] at W
   |some ts'=>
    erw[ea] at W
    intro ρ' σv' H' M
    obtain⟨P,_⟩:=X5 inj M ea
    exact W ρ' .non H' P (by erw[RD]) fun l h=>by simp[y4] at h
  |rt t s'=>
   erw[e] at W
   cases ea:Z1 s'.tm with
   |none=>erw[ea] at W
   |some ts'=>
    erw[ea] at W
    intro ρ' σv' v H' M
    obtain⟨P,own⟩:=X5 inj M.m ea
    exact W ρ' v H' P M.rd1 fun l h=>⟨(M.lb1 l h).1,own l (M.lb1 l h).1 (M.lb1 l h).2⟩
  |bk s'=>erw[e] at W
  |ct s'=>erw[e] at W
  |ex d s'=>
   erw[e] at W
   cases ea:Z1 s'.tm with
   |none=>erw[ea] at W
   |some ts'=>erw[ea] at W
  |no=>erw[e] at W
end
section
variable{X:Cx}{G:Gx}{F:Fy}
noncomputable def zd8:D->List D->M D
 | .lst _ ds,[.bool k]=>match j7 ds with|some bs=>rt (.int (bs.count k:Nat))|none=>fl
 |_,_=>fl
noncomputable def zd9:D->List D->M D
 | .lst _ ds,[.bool k]=>match j7 ds with|some bs=>if k∈bs then rt (.int (bs.idxOf k:Nat)) else fl|none=>fl
 |_,_=>fl
theorem zeY:z9t G F (zaB G.K) zd8:=by
 intro ρ s t ts v vs H σv tv Q M W
 obtain⟨h1,h2,b1,b2⟩:=M.hd
 unfold zd8 at W
 split at W
 ·rename_i l ds k
  cases e1:j7 ds with
  |none=>rw[e1] at W;exact False.elim W
  |some bs=>
   rw[e1] at W
   obtain⟨p,xs,rfl,s1,r1,_⟩:=h1.lstq (ds:=ds) rfl
   rw[z1N r1 e1] at s1
   erw[RDs,RD] at h2
   obtain⟨u,q,rfl,rfl,rfl⟩:=h2
   exact⟨p,bs,k,rfl,rfl,s1,fun _=>W.flat M.m rfl⟩
 ·exact wfl W
theorem zeZ:z9t G F (zaC G.K) zd9:=by
 intro ρ s t ts v vs H σv tv Q M W
 obtain⟨h1,h2,b1,b2⟩:=M.hd
 unfold zd9 at W
 split at W
 ·rename_i l ds k
  cases e1:j7 ds with
  |none=>rw[e1] at W;exact False.elim W
  |some bs=>
   rw[e1] at W
   by_cases hk:k∈bs
   ·erw[if_pos hk] at W
    obtain⟨p,xs,rfl,s1,r1,_⟩:=h1.lstq (ds:=ds) rfl
    rw[z1N r1 e1] at s1
    erw[RDs,RD] at h2
    obtain⟨u,q,rfl,rfl,rfl⟩:=h2
    exact⟨p,bs,k,rfl,rfl,s1,hk,fun _=>W.flat M.m rfl⟩
   ·erw[if_neg hk] at W;exact False.elim W
 ·exact wfl W
theorem z9F(hk:X.K=G.K):Cl X G F "list.count" zd8:=⟨_,hk▸z9C,zeY⟩
theorem z9G(hk:X.K=G.K):Cl X G F "list.index" zd9:=⟨_,hk▸z9D,zeZ⟩
end
end Mi
namespace Mi
open PySem L2 PySem.Spec
noncomputable def z47:D->Option Key
 | .int i=>some (.inl i)
 | .str x=>some (.inr x)
 |_=>none
noncomputable def z0P:List D->Option (List Key)
 |[]=>some []
 |d::ds=>match z47 d with
  |some k=>match z0P ds with
   |some ks=>some (k::ks)
   |none=>none
  |none=>none
noncomputable def zda:D->Option (Key⊕List Key)
 | .tup ds=>match z0P ds with|some ks=>some (.inr ks)|none=>none
 |d=>match z47 d with|some k=>some (.inl k)|none=>none
noncomputable def z48:List D->Option NK
 |[]=>some []
 |d::ds=>match zda d with
  |some k=>match z48 ds with
   |some ks=>some (k::ks)
   |none=>none
  |none=>none
noncomputable def tkey:D->Option NK
 | .tup ds=>z48 ds
 |_=>none
noncomputable def isT:List D->Bool
 | .non::_=>false
 |_=>true
section
variable{G:Gx}{ρ:Nat->Addr}{H:Hp}
theorem z5F{d:D}{v:V}{k:Key}(h:RD G ρ H d v)(e:z47 d=some k):v=kV k/\d=z3F k:=by
 cases d<;>erw[z47] at e<;>cases e<;>(erw[RD] at h;exact⟨h,rfl⟩)
theorem z49: ∀{ds:List D} {xs:List V} {ks:List Key},RDs G ρ H ds xs->z0P ds=some ks->xs=ks.map kV/\ds=ks.map z3F
 |[],xs,ks,h,e=>by erw[RDs] at h;erw[z0P] at e;cases e;exact⟨h,rfl⟩
 |d::ds,xs,ks,h,e=>by
  erw[RDs] at h
  obtain⟨x,r,rfl,h1,h2⟩:=h
  erw[z0P] at e
  cases e1:z47 d with
  |none=>rw[e1] at e;cases e
  |some k=>
   rw[e1] at e
   cases e2:z0P ds with
   |none=>erw[e2] at e;cases e
   |some ks'=>
    erw[e2] at e
    cases e
    obtain⟨a1,a2⟩:=z5F h1 e1
    obtain⟨b1,b2⟩:=z49 h2 e2
    rw[a1,b1,a2,b2]
    exact⟨rfl,rfl⟩
theorem zc3{d:D}{v:V}{k:Key⊕List Key}(h:RD G ρ H d v)(e:zda d=some k):TKi H k v/\d=nkD k:=by
 have flat: ∀{d:D} {v:V},RD G ρ H d v->(match z47 d with|some k=>some (Sum.inl k:Key⊕List Key)|none=>none)=some k->TKi H k v/\d=nkD k:=by
  intro d v h e
  cases e1:z47 d with
  |none=>rw[e1] at e;cases e
  |some k'=>
   rw[e1] at e
   cases e
   obtain⟨a1,a2⟩:=z5F h e1
   exact⟨a1,a2⟩
 cases d with
 |tup ds=>
  erw[zda] at e
  cases e1:z0P ds with
  |none=>rw[e1] at e;cases e
  |some ks=>
   rw[e1] at e
   cases e
   erw[RD] at h
   obtain⟨a,xs,e2,s,r⟩:=h
   obtain⟨b1,b2⟩:=z49 r e1
   exact⟨⟨a,e2,b1▸s⟩,by rw[b2];rfl⟩
 |_=>exact flat h e
theorem z5G: ∀{ds:List D} {xs:List V} {ks:NK},RDs G ρ H ds xs->z48 ds=some ks->Paired (TKi H) ks xs/\ds=ks.map nkD
 |[],xs,ks,h,e=>by erw[RDs] at h;erw[z48] at e;cases e;subst h;exact⟨.nil,rfl⟩
 |d::ds,xs,ks,h,e=>by
  erw[RDs] at h
  obtain⟨x,r,rfl,h1,h2⟩:=h
  erw[z48] at e
  cases e1:zda d with
  |none=>rw[e1] at e;cases e
  |some k=>
   rw[e1] at e
   cases e2:z48 ds with
   |none=>erw[e2] at e;cases e
   |some ks'=>
    erw[e2] at e
    cases e
    obtain⟨a1,a2⟩:=zc3 h1 e1
    obtain⟨b1,b2⟩:=z5G h2 e2
    rw[a2,b2]
    exact⟨.cons a1 b1,rfl⟩
theorem z2g{t:D}{v:V}{k:NK}(h:RD G ρ H t v)(e:tkey t=some k): ∃b,v= .ref b/\TK H k b/\t=dkD k:=by
 cases t<;>erw[tkey] at e<;>try cases e
 erw[RD] at h
 obtain⟨a,xs,e1,s,r⟩:=h
 obtain⟨b1,b2⟩:=z5G r e
 exact⟨a,e1,⟨xs,s,b1⟩,by rw[b2];rfl⟩
theorem z2W: ∀k:List Key,z0P (k.map z3F)=some k
 |[]=>rfl
 |k::ks=>by
  erw[b9,z0P]
  have:z47 (z3F k)=some k:=by cases k<;>rfl
  rw[this,z2W ks]
theorem zc4(z:Key⊕List Key):zda (nkD z)=some z:=by
 cases z with
 |inl k=>cases k<;>rfl
 |inr ks=>erw[nkD,zda,z2W]
theorem z4a: ∀k:NK,z48 (k.map nkD)=some k
 |[]=>rfl
 |k::ks=>by erw[b9,z48,zc4,z4a ks]
theorem g9(k:NK):tkey (dkD k)=some k:=z4a k
theorem z4Q{ρ:Nat->Addr}: ∀k:List Key,RDs G ρ H (k.map z3F) (k.map kV)
 |[]=>by erw[l3,RDs]
 | .inl i::k=>by erw[b9,RDs];exact⟨_,_,rfl,by erw[z3F,RD];rfl,z4Q k⟩
 | .inr i::k=>by erw[b9,RDs];exact⟨_,_,rfl,by erw[z3F,RD];rfl,z4Q k⟩
theorem z7N{ρ:Nat->Addr}: ∀{k:NK} {xs:List V},Paired (TKi H) k xs->RDs G ρ H (k.map nkD) xs
 |_,_, .nil=>by erw[l3,RDs]
 | .inl i::k,_, .cons a b=>by
  have e:=(show _=kV i from a)
  erw[b9,RDs]
  refine⟨_,_,rfl, ?_,z7N b⟩
  rw[e]
  cases i<;>(erw[nkD,z3F,RD];rfl)
 | .inr ks::k,_, .cons a b=>by
  obtain⟨c,e,hc⟩:=a
  erw[b9,RDs]
  refine⟨_,_,rfl, ?_,z7N b⟩
  erw[nkD,RD]
  exact⟨c,_,e,hc,z4Q ks⟩
noncomputable def rdD:D->Option (List D×List D)
 | .dct _ ks vs=>if isT ks=true then some (ks,vs) else none
 | .fdc ks vs=>some (ks,vs)
 |_=>none
theorem RD.rdq{t:D}{ks vs:List D}{v:V}(h:RD G ρ H t v)(e:rdD t=some (ks,vs)): ∃a kvs,v= .ref a/\Rd H a (.dT kvs)/\ks=kvs.map (fun p:NK×V=>dkD p.1)/\RDs G ρ H vs (kvs.map (·.2))/\∀l∈labsL vs,l∈y4 t:=by
 cases t<;>erw[rdD] at e<;>try cases e
 ·rename_i l ks' vs'
  by_cases hT:isT ks'=true
  ·rw[if_pos hT] at e;cases e
   erw[RD] at h
   obtain⟨e,⟨kvs,s,s2,r⟩|⟨kvs,s,s2,r⟩⟩:=h
   ·rw[s2] at hT;cases hT
   ·exact⟨ρ l,kvs,e, .inl s,s2,r,fun j hj=>by erw[y4];exact b7 _ (b6 _ hj)⟩
  ·rw[if_neg hT] at e;cases e
 ·erw[RD] at h
  obtain⟨a,o,kvs,e,s,s2,r⟩:=h
  exact⟨a,kvs,e, .inr ⟨o,s⟩,s2,r,fun j hj=>by erw[y4];exact hj⟩
theorem RD.dctq{l:Nat}{ks vs:List D}{v:V}(h:RD G ρ H (.dct l ks vs) v)(hn:isT ks=true):v= .ref (ρ l)/\∃kvs:List (NK×V),H (ρ l)=some (.dT kvs)/\ks=kvs.map (fun p=>dkD p.1)/\RDs G ρ H vs (kvs.map (·.2)):=by
 erw[RD] at h
 obtain⟨e,⟨kvs,s,s2,r⟩|h⟩:=h
 ·rw[s2] at hn;cases hn
 ·exact⟨e,h⟩
noncomputable def findK:List D->List D->NK->Option D
 |d::ks,v::vs,k=>if tkey d=some k then some v else findK ks vs k
 |_,_,_=>none
theorem V6{k:NK}: ∀(kvs:List (NK×V)) (vs:List D) (t:D),RDs G ρ H vs (kvs.map (·.2))->findK (kvs.map fun p=>dkD p.1) vs k=some t->∃v,valV kvs k=some v/\RD G ρ H t v/\t∈vs
 |[],_,_,_,e=>by erw[l3,findK] at e;cases e
 |p::kvs,[],_,_,e=>by erw[b9,findK] at e;cases e
 |p::kvs,w::vs,t,h,e=>by
  erw[b9,RDs] at h
  obtain⟨x,r,e1,h1,h2⟩:=h
  cases e1
  erw[b9,findK,g9,Option.some.injEq] at e
  by_cases hk:p.1=k
  ·rw[if_pos hk] at e;cases e
   exact⟨_,z0F hk,h1,e9 ..⟩
  ·rw[if_neg hk] at e
   obtain⟨v,a,b,c⟩:=V6 kvs vs t h2 e
   exact⟨v,by rw[z0g hk];exact a,b,b7 _ c⟩
theorem V7{k:NK}: ∀(kvs:List (NK×V)) (vs:List D),RDs G ρ H vs (kvs.map (·.2))->findK (kvs.map fun p=>dkD p.1) vs k=none->valV kvs k=none
 |[],_,_,_=>rfl
 |p::kvs,[],h,_=>by erw[b9,RDs] at h;cases h
 |p::kvs,w::vs,h,e=>by
  erw[b9,RDs] at h
  obtain⟨x,r,e1,h1,h2⟩:=h
  cases e1
  erw[b9,findK,g9,Option.some.injEq] at e
  by_cases hk:p.1=k
  ·rw[if_pos hk] at e;cases e
  ·rw[if_neg hk] at e
   rw[z0g hk];exact V7 kvs vs h2 e
noncomputable def z9H(ks:List D)(k:NK):List D:=if(ks.any fun d=>decide (tkey d=some k))=true then ks else ks++[dkD k]
noncomputable def z6r(ks vs:List D)(k:NK)(v:D):List D:=if(ks.any fun d=>decide (tkey d=some k))=true then B4 (fun d w=>if tkey d=some k then v else w) ks vs else vs++[v]
theorem zf0{k:NK}(kvs:List (NK×V)):((kvs.map fun p=>dkD p.1).any fun d=>decide (tkey d=some k))=kvs.any fun kv=>decide (kv.1=k):=by
 rw[P5]
 congr 1
 funext p
 erw[Function.comp,g9,Option.some.injEq]
theorem z4R{k:NK}{t:D}{v:V}(h:RD G ρ H t v): ∀(kvs:List (NK×V)) (vs:List D),RDs G ρ H vs (kvs.map (·.2))->
 RDs G ρ H (B4 (fun d w=>if tkey d=some k then t else w) (kvs.map fun p=>dkD p.1) vs) ((kvs.map (fun kv=>if kv.1=k then(kv.1,v) else kv)).map (·.2))
 |[],[],_=>by simp[RDs]
 |[],_::_,h=>by erw[l3,RDs] at h;obtain⟨_,_,e,_⟩:=h;cases e
 |p::kvs,[],h=>by erw[b9,RDs] at h;cases h
 |p::kvs,w::vs,h'=>by
  erw[b9,RDs] at h'
  obtain⟨x,r,e1,h1,h2⟩:=h'
  cases e1
  erw[b9,A8,RDs,g9,Option.some.injEq]
  by_cases hk:p.1=k
  ·rw[if_pos hk,if_pos hk];exact⟨_,_,rfl,h,z4R h kvs vs h2⟩
  ·rw[if_neg hk,if_neg hk];exact⟨_,_,rfl,h1,z4R h kvs vs h2⟩
theorem zf1{k:NK}{t:D}{v:V}{kvs:List (NK×V)}{vs:List D}(h:RD G ρ H t v)(r:RDs G ρ H vs (kvs.map (·.2))):
 z9H (kvs.map fun p=>dkD p.1) k=(z4t kvs k v).map (fun p=>dkD p.1)/\RDs G ρ H (z6r (kvs.map fun p=>dkD p.1) vs k t) ((z4t kvs k v).map (·.2)):=by
 unfold z9H z6r z4t
 rw[zf0]
 cases e:kvs.any fun kv=>decide (kv.1=k) with
 |true=>
  erw[if_true]
  refine⟨?_,z4R h kvs vs r⟩
  rw[P6]
  refine E5 fun p _=> ?_
  erw[Function.comp]
  split<;>rfl
 |false=>
  erw[t8,if_false,C1,b9,l3]
  exact⟨trivial,r.append (RDs.one h)⟩
end
section
variable{X:Cx}{G:Gx}{F:Fy}{a b e:Expr}{ma mb:M D}{pos:Pos}
noncomputable def zaE(t o:D):M D:=match rdD o with
 |some (ks,vs)=>match tkey t with
  |some k=>rt (.bool (findK ks vs k).isSome)
  |none=>fl
 |none=>fl
noncomputable def z9I(t o:D):M D:=match rdD o with
 |some (ks,vs)=>match tkey t with
  |some k=>rt (.bool (!(findK ks vs k).isSome))
  |none=>fl
 |none=>fl
theorem zf2{ρ:Nat->Addr}{H:Hp}{k:NK}{kvs:List (NK×V)}{vs:List D}(r:RDs G ρ H vs (kvs.map (·.2))):(findK (kvs.map fun p=>dkD p.1) vs k).isSome=(valV kvs k).isSome:=by
 cases ef:findK (kvs.map fun p=>dkD p.1) vs k with
 |none=>rw[V7 kvs vs r ef];rfl
 |some d=>obtain⟨w,hv,_⟩:=V6 kvs vs d r ef;rw[hv];rfl
theorem zf3:V5 G F (fun y x H Q=> ∃a o,x= .ref a/\DGet H a y o/\Q (.bl o.isSome) H) zaE:=by
 intro ρ s t t' v u H σv tv Q M W
 obtain⟨h1,h2⟩:=M.rd2
 unfold zaE at W
 cases er:rdD t' with
 |none=>rw[er] at W;exact False.elim W
 |some p=>
  obtain⟨ks,vs⟩:=p
  rw[er] at W
  dsimp only at W
  cases ek:tkey t with
  |none=>rw[ek] at W;exact False.elim W
  |some k=>
   rw[ek] at W
   dsimp only at W
   obtain⟨a,kvs,rfl,hx,rfl,r,sub⟩:=h2.rdq er
   obtain⟨b,rfl,hb,_⟩:=z2g h1 ek
   refine⟨a,_,rfl, .inr ⟨kvs,k,b,hx,rfl,hb,rfl⟩, ?_⟩
   rw[<-zf2 r]
   exact W.flat M.m rfl
theorem zc5:V5 G F (fun y x H Q=> ∃a o,x= .ref a/\DGet H a y o/\Q (.bl (!o.isSome)) H) z9I:=by
 intro ρ s t t' v u H σv tv Q M W
 obtain⟨h1,h2⟩:=M.rd2
 unfold z9I at W
 cases er:rdD t' with
 |none=>rw[er] at W;exact False.elim W
 |some p=>
  obtain⟨ks,vs⟩:=p
  rw[er] at W
  dsimp only at W
  cases ek:tkey t with
  |none=>rw[ek] at W;exact False.elim W
  |some k=>
   rw[ek] at W
   dsimp only at W
   obtain⟨a,kvs,rfl,hx,rfl,r,sub⟩:=h2.rdq er
   obtain⟨b,rfl,hb,_⟩:=z2g h1 ek
   refine⟨a,_,rfl, .inr ⟨kvs,k,b,hx,rfl,hb,rfl⟩, ?_⟩
   rw[<-zf2 r]
   exact W.flat M.m rfl
theorem zf4(hu:X.A.units+64<cLine):OpR X (compareOp .In) (fun y x H Q=> ∃a o,x= .ref a/\DGet H a y o/\Q (.bl o.isSome) H):=by
 intro pins s σ H y x iv u Q I ry rx h
 obtain⟨a,o,rfl,g,q⟩:=h
 obtain rfl:u=Value.ref a:=rx
 exact zj8 (show X.A.units+2<cLine by lia) I g ry fun s3 I3=>⟨.bl o.isSome,H,I3,rfl,q⟩
theorem zc6(hu:X.A.units+64<cLine):OpR X (compareOp .NotIn) (fun y x H Q=> ∃a o,x= .ref a/\DGet H a y o/\Q (.bl (!o.isSome)) H):=by
 intro pins s σ H y x iv u Q I ry rx h
 obtain⟨a,o,rfl,g,q⟩:=h
 obtain rfl:u=Value.ref a:=rx
 exact zbz (show X.A.units+2<cLine by lia) I g ry fun s3 I3=>⟨.bl (!o.isSome),H,I3,rfl,q⟩
theorem z7O(hu:X.A.units+64<cLine):Cm X G F .In zaE:=⟨_,zf4 hu,zf3⟩
theorem zc7(hu:X.A.units+64<cLine):Cm X G F .NotIn z9I:=⟨_,zc6 hu,zc5⟩
noncomputable def z4S:M D:=fun s=> .ok (.dct s.n [] []) s.nxt
theorem se_dnew(hk:X.K=G.K):SE X G F (.Dict [] [] pos) z4S:=
 PE.imp hk z95 fun σ H Q ⟨tv,hs,ρ,s,M,W⟩ p hp k=>by
  refine wM.out (ρ:=ext ρ s.n p) W (M.new hp k) ?_ fun l hl=> ?_
  ·erw[RD]
   rw[Q0]
   exact⟨rfl, .inr ⟨[],y8,rfl,by simp[RDs]⟩⟩
  ·erw[y4,labsL,c9,m5] at hl
   rw[hl]
   exact⟨t7 _,by rw[Q0];exact .inr (M.fresh0 hp)⟩
noncomputable def z1J(o i v:D):MS:=fun s=>match o with
 | .dct l ks vs=>match tkey i with
  |some k=>if isT ks=true/\ks.length<sizeLine/\y4 v=[]/\labsL vs=[] then .nx (s.put l (.dct l (z9H ks k) (z6r ks vs k v))) else .no
  |none=> .no
 |_=> .no
theorem z4T(k:NK):y4 (dkD k)=[]:=by
 have h: ∀k:NK,labsL (k.map nkD)=[]:=fun k=>by
  induction k with
  |nil=>rfl
  |cons z k ih=>erw[b9,labsL,z4J,ih,c9]
 erw[dkD,y4,h]
theorem z5H: ∀kvs:List (NK×V),labsL (kvs.map fun p=>dkD p.1)=[]
 |[]=>rfl
 |p::kvs=>by
  have e:y4 (dkD p.1)=[]:=z4T p.1
  erw[b9,labsL,e,z5H kvs];rfl
theorem z2h: ∀{ds:List D},(∀d∈ds,y4 d=[])->labsL ds=[]
 |[],_=>rfl
 |d::ds,h=>by erw[labsL,h d (e9 ..),z2h fun x hx=>h x (b7 _ hx)];rfl
theorem z4b{ds:List D}(h:labsL ds=[]): ∀d∈ds,y4 d=[]:=fun d hd=>by
 cases e:y4 d with
 |nil=>rfl
 |cons l r=>exact absurd (labsL_mem hd l (by rw[e];exact e9 ..)) (by rw[h];exact n9)
theorem z5I{ks vs:List D}{k:NK}{v:D}(hv:y4 v=[])(h:labsL vs=[]):labsL (z6r ks vs k v)=[]:=by
 have h':=z4b h
 unfold z6r
 split
 ·refine z2h fun d hd=> ?_
  obtain⟨i,hi,e⟩:=List.getElem_of_mem hd
  rw[List.getElem_zipWith] at e
  subst e
  split
  ·exact hv
  ·exact h' _ (C4 _)
 ·refine z2h fun d hd=> ?_
  rcases c8.mp hd with q|q
  ·exact h' d q
  ·rw[m5.mp q];exact hv
theorem zc8{ρ:Nat->Addr}{s:Stt}{t1 t2 t3:D}{v o i:V}{H:Hp}{σv tv:List (Option V)}{Dd:z3J}(M:MRL G F.toFx ρ H σv tv s [t1,t2,t3] [v,o,i])(W:wS G F tv (z1J t2 t3 t1 s) Dd): ∃a H4,o= .ref a/\zcY H a i v H4/\Dd.nx σv H4:=by
 have h:=M.rd
 erw[RDs] at h
 obtain⟨_,_,e,h1,_,_,e2,h2,_,_,e3,h3,_⟩:=h
 cases e;cases e2;cases e3
 have b2:LB F.toFx ρ s.n (y4 t2):=fun l h=>M.lb l (by erw[labsL];exact b6 _ (b8 _ h))
 unfold z1J at W
 cases t2 with
 |dct l ks vs=>
  dsimp only at W
  cases ek:tkey t3 with
  |none=>rw[ek] at W;exact False.elim W
  |some k=>
   rw[ek] at W
   dsimp only at W
   by_cases hc:isT ks=true/\ks.length<sizeLine/\y4 t1=[]/\labsL vs=[]
   ·rw[if_pos hc] at W
    obtain⟨hT,hz,hv,hvs⟩:=hc
    obtain⟨rfl,kvs,hx,rfl,r⟩:=h2.dctq hT
    obtain⟨b,rfl,hb,_⟩:=z2g h3 ek
    have bl:=b2 l (by erw[y4];exact e9 ..)
    have st:J3 H (upd H (ρ l) (.dT (z4t kvs k v))):=
     ⟨fun b ys q=>by rw[y6 (z1e q hx (by intro z;cases z))];exact q,fun b o u q=>by rw[y6 (z1e q hx (by intro z;cases z))];exact q⟩
    have pr:=zf1 (k:=k) h1 r
    refine⟨ρ l,_,rfl,zcY.t hx hb (by simpa using hz),W ρ σv _ (M.m.put2 bl.1 bl.2 st (z7G M.m.kd hx) ?_ fun j hj=> ?_)⟩
    ·erw[RD]
     refine⟨trivial, .inr ⟨z4t kvs k v,y8,pr.1, ?_⟩⟩
     exact RDs.stay st _ _ pr.2 fun j hj=>by rw[z5I hv hvs] at hj;cases hj
    ·erw[y4,pr.1,z5H,z5I hv hvs,c9,m5] at hj
     rw[hj];exact bl
   ·rw[if_neg hc] at W;exact False.elim W
 |_=>exact False.elim W
theorem ss_dput{ob ix:Expr}{pos tpos:Pos}{mo mi me:M D}(hu:X.A.units+64<cLine)(he:SE X G F e me)(ho:SE X G F ob mo)(hi:SE X G F ix mi)(hs:swapsWith e (some (.Subscript ob ix tpos)) pos.line X.env=pure false:=by rfl):
 SS X G F (.Assign [.Subscript ob ix tpos] e pos) (z5y me mo mi z1J):=by
 refine PS.imp0 (zbC (show X.A.units+2<cLine by lia) ho hi he hs) fun Dd σ H ⟨tv,h⟩=> ?_
 exact(z7H h).mono fun v H1 h1=>h1.mono fun o H2 h2=>h2.mono fun i H3 ⟨ρ,s,t1,t2,t3,M,W⟩=>zc8 M W
end
end Mi
namespace Mi
open PySem L2
end Mi
namespace PySem
end PySem
namespace L2
open PySem PySem.Spec PyProof.Rows
end L2
namespace Mi
open PySem L2 PySem.Spec
section
variable{G:Gx}{ρ:Nat->Addr}{H:Hp}
noncomputable def zaF:List Str->List D->Str->Option D
 |n::ns,v::vs,f=>if n=f then some v else zaF ns vs f
 |_,_,_=>none
theorem z7P{f:Str}: ∀{fs:List (Str×V)} {vs:List D} {d:D},RDs G ρ H vs (fs.map (·.2))->zaF (fs.map (·.1)) vs f=some d->∃v,fs.lookup f=some v/\RD G ρ H d v/\d∈vs
 |[],vs,d,_,e=>by cases vs<;>simp[zaF] at e
 |(g,x)::fs,[],d,_,e=>by simp[zaF] at e
 |(g,x)::fs,w::vs,d,r,e=>by
  erw[b9,RDs] at r
  obtain⟨y,q,e1,h1,h2⟩:=r
  cases e1
  erw[b9,zaF] at e
  by_cases hg:g=f
  ·rw[if_pos hg] at e;cases e
   exact⟨x,by simp[A2,hg],h1,e9 ..⟩
  ·rw[if_neg hg] at e
   obtain⟨v,a,b,c⟩:=z7P h2 e
   refine⟨v, ?_,b,b7 _ c⟩
   have:(f==g)=false:=by simpa using fun z:f=g=>hg z.symm
   simp[A2,this,a]
noncomputable def z4U:List Str->List D->Str->D->List Str×List D
 |n::ns,v::vs,f,d=>if n=f then(n::ns,d::vs) else((n::(z4U ns vs f d).1),(v::(z4U ns vs f d).2))
 |_,_,f,d=>([f],[d])
theorem z7Q{f:Str}{d:D}{v:V}(hd:RD G ρ H d v): ∀{fs:List (Str×V)} {vs:List D},RDs G ρ H vs (fs.map (·.2))->(z4U (fs.map (·.1)) vs f d).1=(z2R f v fs).map (·.1)/\RDs G ρ H (z4U (fs.map (·.1)) vs f d).2 ((z2R f v fs).map (·.2))
 |[],vs,r=>by
  erw[l3,z4U,z2R,b9,true_and]
  exact RDs.one hd
 |(g,x)::fs,[],r=>by erw[b9,RDs] at r;cases r
 |(g,x)::fs,w::vs,r=>by
  erw[b9,RDs] at r
  obtain⟨y,q,e1,h1,h2⟩:=r
  cases e1
  erw[b9,z4U,z2R]
  by_cases hg:g=f
  ·rw[if_pos hg,if_pos hg]
   exact⟨rfl,by erw[b9,RDs];exact⟨_,_,rfl,hd,h2⟩⟩
  ·rw[if_neg hg,if_neg hg]
   obtain⟨a,b⟩:=z7Q (f:=f) hd h2
   exact⟨by erw[b9,a],by erw[b9,RDs];exact⟨_,_,rfl,h1,b⟩⟩
theorem z5J{f:Str}{d:D}: ∀{ns:List Str} {vs:List D} {e:D},e∈(z4U ns vs f d).2->e∈vs\/e=d
 |[],vs,e,h=>by erw[z4U,m5] at h;exact .inr h
 |n::ns,[],e,h=>by erw[z4U,m5] at h;exact .inr h
 |n::ns,v::vs,e,h=>by
  erw[z4U] at h
  split at h
  ·rcases e7.mp h with z|z
   ·exact .inr z
   ·exact .inl (b7 _ z)
  ·rcases e7.mp h with z|z
   ·exact .inl (z▸e9 ..)
   ·rcases z5J z with z|z
    ·exact .inl (b7 _ z)
    ·exact .inr z
end
noncomputable def zdb(f:Str)(ok:Str->Bool):D->M D
 | .obj _ c ns vs=>fun s=>if ok c then(match zaF ns vs f with|some d=> .ok d s|none=> .no) else .no
 |_=>fl
noncomputable def z5K(m:M D)(f:Str)(ok:Str->Bool):M D:=bd m (zdb f ok)
section
variable{X:Cx}{G:Gx}{F:Fy}{e o value:Expr}{pos:Pos}
theorem se_fld{f:Str}{ok:Str->Bool}{m:M D}(he:SE X G F e m)(hc: ∀c C,G.cl c=some C->ok c=true->Cls X.K C/\U7 X.K C f)(hb:attributeBase e f X.env (eval e X.env)=eval e X.env:=by rfl):SE X G F (.Attribute e f pos) (z5K m f ok):=by
 refine PE.imp0 (zdF he hb) fun σ H Q ⟨tv,h⟩=>⟨tv,(z27 h).mono fun v H1 ⟨ρ1,s1,t,M1,W⟩=> ?_⟩
 have hr:=M1.rd1
 cases t with
 |obj l c ns vs=>
  erw[zdb] at W
  split at W
  ·rename_i hok
   erw[RD] at hr
   obtain⟨rfl,C,dx,fs,hC,hH,rfl,r⟩:=hr
   cases ef:zaF (fs.map (·.1)) vs f with
   |none=>erw[ef] at W;exact False.elim W
   |some d=>
    erw[ef] at W
    obtain⟨v,lk,rd,mem⟩:=z7P r ef
    refine⟨_,C,dx,fs,v,rfl,hH,(hc c C hC hok).1,(hc c C hC hok).2,lk,W.out M1.m rd fun j hj=>M1.lb j ?_⟩
    erw[labsL,y4,c9]
    exact b7 _ (labsL_mem mem j hj)
  ·exact False.elim W
 |_=>exact False.elim W
end
section
variable{G:Gx}{F:Fy}{ρ:Nat->Addr}{H:Hp}{σv tv:List (Option V)}{s:Stt}{es:List D}{v:V}{l:Nat}{c:Str}{ns:List Str}{C dx:Addr}{fs fs':List (Str×V)}
theorem z9J{ds:List D}(M:MR G F.toFx ρ H σv tv s)(h:RD G ρ H (.obj l c ns ds) v)(lb: ∀j∈y4 (.obj l c ns ds),j<s.n):l∉labsL ds:=fun hl=>by
 have h0:=h
 erw[RD] at h0
 obtain⟨rfl,C,dx,fs,_,_,_,r⟩:=h0
 have:=findL_some l ds _ r hl
 cases e:findL l ds with
 |none=>rw[e] at this;cases this
 |some d=>
  obtain⟨q1,q2⟩:=findL_rd l ds _ d r e
  have e2:=RD.uniq M.kd M.inj _ _ _ q1 h (fun j hj=>lb j (by erw[y4];exact b7 _ (q2 j hj))) lb
  have e3:=findL_sz l ds d e
  rw[e2] at e3
  erw[sz] at e3
  lia
theorem z2X{o':HO}{a:Addr}(e:H a=some (.ins C dx fs)):J3 H (upd H a o'):=
 ⟨fun b ys q=>by rw[y6 (z1e q e (by intro z;cases z))];exact q,fun b o u q=>by rw[y6 (z1e q e (by intro z;cases z))];exact q⟩
theorem MR.putO(M:MR G F.toFx ρ H σv tv s)(hl:H (ρ l)=some (.ins C dx fs))(hC:G.cl c=some C)(ln:l<s.n)(ow:F.A0 (ρ l)\/F.H0 (ρ l)=none)(en:ns=fs'.map (·.1))(r:RDs G ρ H es (fs'.map (·.2)))(lb:LB F.toFx ρ s.n (labsL es))(ne:l∉labsL es):
 MR G F.toFx ρ (upd H (ρ l) (.ins C dx fs')) σv tv (s.put l (.obj l c ns es)):=by
 refine M.put2 ln ow (z2X hl) (z7G M.kd hl) ?_ fun j hj=> ?_
 ·erw[RD]
  exact⟨trivial,C,dx,fs',hC,y8,en,RDs.upd (a:=0) (z2X hl) M.inj ln r fun j hj=>⟨(lb j hj).1,fun z=>ne (z▸hj)⟩⟩
 ·erw[y4] at hj
  rcases e7.mp hj with q|q
  ·rw[q];exact⟨ln,ow⟩
  ·exact lb j q
end
noncomputable def z6s(f:Str)(ok:Str->Bool)(o v:D):MS:=fun s=>match o with
 | .obj l c ns vs=>if ok c=true/\ns.length<1000/\l∉y4 v then .nx (s.put l (.obj l c (z4U ns vs f v).1 (z4U ns vs f v).2)) else .no
 |_=> .no
noncomputable def z9K(me mo:M D)(f:Str)(ok:Str->Bool):MS:=z0y me fun v=>z0y (psh v) fun _=>z0y mo fun o=>z0y pop fun v'=>z6s f ok o v'
section
variable{X:Cx}{G:Gx}{F:Fy}{e o value:Expr}{pos pos':Pos}
theorem ss_fld{f:Str}{ok:Str->Bool}{me mo:M D}(ho:SE X G F o mo)(he:SE X G F value me)(hc: ∀c C,G.cl c=some C->ok c=true->Cls X.K C/\U7 X.K C f)(hs:swapsWith value (some (.Attribute o f pos')) pos.line X.env=pure false:=by rfl):SS X G F (.Assign [.Attribute o f pos'] value pos) (z9K me mo f ok):=by
 refine PS.imp0 (zdG ho he hs) fun Dd σ H ⟨tv,h⟩=>⟨tv,(z0i h).mono fun v H1 ⟨ρ1,s1,t,M1,W⟩=> ?_⟩
 refine⟨some v::tv,z4H h.1,ρ1,s1.psh t,M1.push, ?_⟩
 erw[z0y,psh] at W
 cases e1:mo (s1.psh t) with
 |ex d s2=>erw[e1] at W;exact W
 |no=>erw[e1] at W;exact W
 |ok ob s2=>
  erw[e1,pop] at W
  intro ρ2 u H2 M2
  cases e3:s2.tm with
  |nil=>erw[e3] at W;exact False.elim W
  |cons o3 r3=>
   cases o3 with
   |none=>erw[e3] at W;exact False.elim W
   |some x3=>
    erw[e3] at W
    have M4:=M2.down e3
    have h:=M4.rd
    erw[RDs] at h
    obtain⟨_,_,e,h1,_,_,e2,h2,_⟩:=h
    cases e;cases e2
    have b1:LB F.toFx ρ2 s2.n (y4 x3):=fun l h=>M4.lb l (by erw[labsL];exact b8 _ h)
    have b2:LB F.toFx ρ2 s2.n (y4 ob):=fun l h=>M4.lb l (by erw[labsL,c9];exact b6 _ h)
    cases ob with
    |obj l c ns vs=>
     erw[z6s] at W
     split at W
     ·rename_i hq
      have h2':=h2
      erw[RD] at h2
      obtain⟨rfl,C,dx,fs,hC,hH,rfl,r⟩:=h2
      have ns:=z9J M4.m h2' fun j hj=>(b2 j hj).1
      have bl:=b2 l (by erw[y4];exact e9 ..)
      obtain⟨p1,p2⟩:=z7Q (f:=f) h1 r
      have mm: ∀q,q∈labsL (z4U (fs.map (·.1)) vs f x3).2->q∈labsL vs\/q∈y4 x3:=fun q hq=>by
       obtain⟨d,h1,h2⟩:=j6 hq
       rcases z5J h1 with z|z
       ·exact .inl (labsL_mem z q h2)
       ·subst z;exact .inr h2
      refine⟨_,C,dx,fs,rfl,hH,(hc c C hC hq.1).1,(hc c C hC hq.1).2,by simpa using hq.2.1,W ρ2 σ _ (M4.m.putO hH hC bl.1 bl.2 p1 p2 (fun q hq=> ?_) fun z=> ?_)⟩
      ·rcases mm q hq with z|z
       ·exact b2 q (by erw[y4];exact b7 _ z)
       ·exact b1 q z
      ·rcases mm l z with z|z
       ·exact ns z
       ·exact hq.2.2 z
     ·exact False.elim W
    |_=>exact False.elim W
end
noncomputable def objC(cn m:Str):D->Bool
 | .obj _ c ns _=>c==cn&& !(ns.contains m)
 |_=>false
noncomputable def z9L(f:FM)(ms:List (M D))(x:D):M D:=bd (psh x) fun _=>bd (Z3 ms) fun ys=>bd pop fun x' s=>z0r (f (x'::ys) s.n) (x'::ys) s
noncomputable def z4V(cn m:Str)(f:FM)(mo:M D)(ms:List (M D)):M D:=bd mo fun x=>if objC cn m x then z9L f ms x else fl
theorem z2i{m:Str}: ∀{fs:List (Str×V)},(fs.map (·.1)).contains m=false->fs.lookup m=none
 |[],_=>rfl
 |(g,x)::fs,h=>by
  erw[b9,F2,Bool.or_eq_false_iff] at h
  erw[A2,h.1]
  exact z2i h.2
section
variable{X:Cx}{G:Gx}{F:Fy}{CX:CXT}{k:Nat}{fa C:Addr}{fd:FuncData}{ps:List Str}{E:XK}{f:FM}{cn m:Str}{mo:M D}{ms:List (M D)}{o e:Expr}{es:List Expr}{pos apos:Pos}{pl:Sem Bool}
theorem z7R{σ:L2.St}{H:Hp}{Q:VK}(hC:G.cl cn=some C)(hln:ms.length+1=ps.length)(h:tM G F (z4V cn m f mo ms) σ H Q):
 zbo C m (spM G ps.length f) [] E (tM G F mo) (tML G F (Z3 ms)) σ H Q:=by
 obtain⟨tv,h⟩:=h
 refine⟨tv,(z27 h).mono fun v H1 ⟨ρ1,s1,t,M1,W⟩=> ?_⟩
 have hr:=M1.rd1
 cases t with
 |obj l c ns vs=>
  split at W
  ·rename_i hq
   erw[objC,i3,beq_iff_eq,F4] at hq
   erw[RD] at hr
   obtain⟨rfl,C',dx,fs,hC',hH,rfl,r⟩:=hr
   have eC:C'=C:=by rw[hq.1,hC] at hC';exact(Option.some.inj hC').symm
   subst eC
   refine⟨_,dx,fs,rfl,hH,z2i hq.2,some (.ref (ρ1 l))::tv,z4H h.1,ρ1,s1.psh _,M1.push, ?_⟩
   erw[z9L,bd,psh] at W
   cases e2:Z3 ms (s1.psh (.obj l c (fs.map (·.1)) vs)) with
   |ex d s2=>erw[e2] at W;exact W
   |no=>erw[e2] at W;exact W
   |ok ys s2=>
    erw[e2,pop] at W
    intro ρ2 us H2 M2
    cases e3:s2.tm with
    |nil=>erw[e3] at W;exact False.elim W
    |cons o3 r3=>
     cases o3 with
     |none=>erw[e3] at W;exact False.elim W
     |some x3=>
      erw[e3] at W
      rw[c9]
      refine z0N ?_ (M2.down e3) W
      rw[i5,<-M2.rd.length,z06 ms _ ys s2 e2,hln]
  ·exact wfl W
 |_=>exact False.elim W
theorem se_mth(hC:G.cl cn=some C)(c:Cls X.K C)(hm:z6G X.K C m fa)(Fn:J1 X.prog X.w X.K X.mg X.base CX k fa fd ps (spM G ps.length f))(hr:U5 k X.A)(hb:J2 X.K fd ps [])(hx:Q5 CX X E)(ho:SE X G F o mo)(ha:SA X G F (e::es) (Z3 ms))(hln:ms.length+1=ps.length)
 (hst:starEach (e::es) X.env=(false,eval e X.env)::starEach es X.env:=by rfl) (hpl:(backTo pos (starEach es X.env)).any (·.1)=false:=by rfl)
 (ht:eval (.Call (.Attribute o m apos) (e::es) [] pos) X.env=(do
  let ov<-eval o X.env
  standAt apos.atName
  let(f,first)<-holding [ov] (getMethod ov m pl)
  callWith pos f first (backTo pos (starEach (e::es) X.env)) (backToKw pos (keywordEach [] X.env))):=by rfl):SE X G F (.Call (.Attribute o m apos) (e::es) [] pos) (z4V cn m f mo ms):=
 PE.imp0 (zbq ho c hm Fn hr hb .nil hx ha hst hpl ht) fun σ H Q h=>z7R hC hln h
theorem se_mth0(hC:G.cl cn=some C)(c:Cls X.K C)(hm:z6G X.K C m fa)(Fn:J1 X.prog X.w X.K X.mg X.base CX k fa fd ps (spM G ps.length f))(hr:U5 k X.A)(hb:J2 X.K fd ps [])(hx:Q5 CX X E)(ho:SE X G F o mo)(hln:1=ps.length)
 (ht:eval (.Call (.Attribute o m apos) [] [] pos) X.env=(do
  let ov<-eval o X.env
  standAt apos.atName
  let(f,first)<-holding [ov] (getMethod ov m pl)
  callWith pos f first (backTo pos (starEach [] X.env)) (backToKw pos (keywordEach [] X.env))):=by rfl):SE X G F (.Call (.Attribute o m apos) [] [] pos) (z4V cn m f mo []):=
 PE.imp0 (z8W ho c hm Fn hr hb .nil hx ht) fun σ H Q h=>by
  obtain⟨tv,h⟩:=z7R (ps:=ps) (E:=E) hC (by simpa using hln) h
  refine⟨tv,h.mono fun v H1 ⟨a,dx,fs,e1,e2,e3,tv1,hs,ρ1,s1,M1,W⟩=>⟨a,dx,fs,e1,e2,e3, ?_⟩⟩
  exact W ρ1 [] H1 ⟨M1,rfl,fun l h=>by simp[labsL] at h⟩
end
noncomputable def ziN(K:W.Frag)(np:Nat)(sp:Sp):Sp:=fun vs H Q E=>vs.length=np/\(KD K H->sp vs H Q E)
theorem zhi{P:Program}{w:World}{K:W.Frag}{mg:Str->Option Value}{base:Heap}{CX:CXT}{k:Nat}{fa:Addr}{fd:FuncData}{ps:List Str}{sp:Sp}(F:J1 P w K mg base CX k fa fd ps sp):J1 P w K mg base CX k fa fd ps (ziN K ps.length sp):=
 ⟨fun _ _ _ _ h=>h.1,fun A outer s H args us vs Q E hr e0 hb hv h=>F.run A outer s H args us vs Q E hr e0 hb hv (h.2 fun a o e=>(e0.bs a o (e0.mod.kin a o e)).2)⟩
noncomputable def mkK(cn:Str)(f:FM)(ys:List D):M D:=fun s=>bd (fun s'=>z0r (f (.obj s.n cn [] []::ys) s'.n) (.obj s.n cn [] []::ys) s') (fun t=>match t with| .non=>pop|_=>fl) (s.nxt.psh (.obj s.n cn [] []))
noncomputable def z4W(cn:Str)(f:FM)(ms:List (M D)):M D:=bd (Z3 ms) (mkK cn f)
section
variable{X:Cx}{G:Gx}{F:Fy}{CX:CXT}{k:Nat}{fa C:Addr}{fd:FuncData}{ps:List Str}{E:XK}{f:FM}{cn x:Str}{ms:List (M D)}{e:Expr}{es:List Expr}{pos p:Pos}
theorem z9M{σ:L2.St}{H:Hp}{Q:VK}(hC:G.cl cn=some C)(hln:ms.length+1=ps.length)(h:tM G F (z4W cn f ms) σ H Q):
 zdK C (ziN G.K ps.length (spM G ps.length f)) [] E (tML G F (Z3 ms)) σ H Q:=by
 obtain⟨tv,hs,ρ,s,M,W⟩:=h
 refine⟨tv,hs,ρ,s,M, ?_⟩
 unfold z4W bd at W
 cases e1:Z3 ms s with
 |ex d s1=>rw[e1] at W;exact W
 |no=>rw[e1] at W;exact W
 |ok ys s1=>
  rw[e1] at W
  intro ρ1 vs H1 M1 a dx ha hdx hne
  rw[c9]
  have hl:(V.ref a::vs).length=ps.length:=by rw[i5,<-M1.rd.length,z06 ms s ys s1 e1,hln]
  refine⟨hl,fun kd=> ?_⟩
  have sm:V2 H1 (upd H1 dx (.own a)):=V2.new _ hdx
  have ha':upd H1 dx (.own a) a=none:=by rw[y6 (fun z=>hne z.symm)];exact ha
  have sm2:V2 (upd H1 dx (.own a)) (upd (upd H1 dx (.own a)) a (.ins C dx [])):=V2.new _ ha'
  have kd1:KD G.K (upd H1 dx (.own a)):=fun b ob q=>by
   have:=kd b ob q
   by_cases z:b=a
   ·subst z;rw[y8] at this;cases this
   ·rw[y6 z] at this;exact this
  have ho:RD G (ext ρ1 s1.n a) (upd (upd H1 dx (.own a)) a (.ins C dx [])) (.obj s1.n cn [] []) (.ref a):=by
   erw[RD]
   exact⟨by rw[Q0],C,dx,[],hC,by rw[Q0];exact y8,rfl,by erw[l3,RDs]⟩
  have M2:=(M1.m.same sm kd1).newPush (t:= .obj s1.n cn [] []) ha' kd ho fun l hl=>by erw[y4,labsL,m5] at hl;exact .inr hl
  have ML:MRL G F.toFx (ext ρ1 s1.n a) (upd (upd H1 dx (.own a)) a (.ins C dx [])) σ (some (.ref a)::tv) (s1.nxt.psh (.obj s1.n cn [] [])) (.obj s1.n cn [] []::ys) (.ref a::vs):=by
   refine⟨M2, ?_,fun l hl=> ?_⟩
   ·erw[RDs]
    exact⟨_,_,rfl,ho,RDs.stay (J3.of fun b o q=>sm2 b o (sm b o q)) ys vs M1.rd fun l hl=>⟨Y9 (M1.lb l hl).1,fun o q=>sm2 _ o (sm _ o q)⟩⟩
   ·erw[labsL,y4,l7,m8,e7] at hl
    rcases hl with rfl|hl
    ·exact⟨t7 _,by rw[Q0];exact .inr (M1.m.fresh0 ha)⟩
    ·refine⟨A6 (M1.lb l hl).1, ?_⟩
     rw[Y9 (M1.lb l hl).1];exact(M1.lb l hl).2
  refine z0N hl ML ?_
  have W:wM G F σ tv (mkK cn f ys s1) Q:=W
  unfold mkK bd at W
  dsimp only at W
  cases e2:z0r (f (.obj s1.n cn [] []::ys) (s1.nxt.psh (.obj s1.n cn [] [])).n) (.obj s1.n cn [] []::ys) (s1.nxt.psh (.obj s1.n cn [] [])) with
  |ex d s3=>rw[e2] at W;exact W
  |no=>rw[e2] at W;exact W
  |ok t s3=>
   rw[e2] at W
   intro ρ3 v H3 M3
   cases t with
   |non=>
    have hv:=M3.rd1
    erw[RD] at hv
    refine⟨hv, ?_⟩
    dsimp only[pop] at W
    cases e3:s3.tm with
    |nil=>erw[e3] at W;exact False.elim W
    |cons o3 r3=>
     cases o3 with
     |none=>erw[e3] at W;exact False.elim W
     |some x3=>
      erw[e3] at W
      have M4:=M3.down e3
      have h:=M4.rd
      erw[RDs] at h
      obtain⟨_,_,e,h1,_⟩:=h
      cases e
      exact W.out M4.m h1 fun l hl=>M4.lb l (by erw[labsL];exact b8 _ hl)
   |_=>exact False.elim W
theorem se_make0(hk:X.K=G.K)(hC:G.cl cn=some C)(Mk:Mk X.K C fa)(Fn:J1 X.prog X.w X.K X.mg X.base CX k fa fd ps (spM G ps.length f))(hr:U5 (k+1) X.A)(hg:Gl X x)(hm:X.mg x=some (.ref C))(hb:J2 X.K fd ps [])(hx:Q5 CX X E)
 (hln:1=ps.length) (hdb:(x==("__debug__" :Str))=false:=by decide):SE X G F (.Call (.Name x p) [] [] pos) (z4W cn f []):=
 PE.imp0 (z8Y Mk (zhi Fn) hr hg hm hb .nil hx hdb) fun σ H Q h=>by
  rw[hk]
  obtain⟨tv,hs,ρ,s,M,W⟩:=z9M (ps:=ps) (E:=E) hC (by simpa using hln) h
  exact W ρ [] H ⟨M,rfl,fun l h=>by simp[labsL] at h⟩
end
noncomputable def zaG(C:Addr)(m:Str)(sp:Sp)(E:L2.St->XK)(ta:TE)(t:TA):TE:=fun σ H Q=>ta σ H fun x H1=> ∃a dx fs,x= .ref a/\H1 a=some (.ins C dx fs)/\fs.lookup m=none/\
 t σ H1 fun vs H2=>sp (x::vs) H2 Q (E σ)
section
variable{X:Cx}{k:Nat}{f C:Addr}{fd:FuncData}{ps:List Str}{sp:Sp}{E:L2.St->XK}{m:Str}{pos apos:Pos}{e o:Expr}{es:List Expr}{ta:TE}{t:TA}{pl:Sem Bool}
theorem zc9{pins:List (Addr×Obj)}{σ:L2.St}{H:Hp}{s:Shared}{Q:VK}{us:List Value}{vs:List V}(F:J1 X.prog X.w X.K X.mg X.base (CX1 X.prog X.w) k f fd ps sp)(hr:U5 k X.A)(hb:J2 X.K fd ps [])(hx:zbZ X E)
 (I1:Inv X pins σ H s) (r:w4 vs us) (q:sp vs H Q (E σ)):wpAny (model X.prog X.w) X.A (call (.ref f) us) (EP X pins σ Q) X.xe s:=by
 have hl:us.length=ps.length:=by rw[<-r.length];exact F.len _ _ _ _ q
 have hb2:=hb s us I1.kIn (by rw[c9];exact hl)
 rw[c9] at hb2
 refine wpAny_call (codeAny_mono (F.run X.A X.stack s H ⟨us,[]⟩ us vs Q (E σ) hr I1.env0 hb2 r q) fun r s' hq=> ?_)
 cases r with
 |error e=>exact hx pins σ H s e s' I1 hq
 |ok fl=>
  cases fl with
  |ret u=>exact I1.after hq
  |next=>exact False.elim hq
  |brk=>exact False.elim hq
  |cont=>exact False.elim hq
theorem z9N(he:PE X o ta)(c:Cls X.K C)(hm:z6G X.K C m f)(F:J1 X.prog X.w X.K X.mg X.base (CX1 X.prog X.w) k f fd ps sp)(hr:U5 k X.A)(hb:J2 X.K fd ps [])(hx:zbZ X E)(ha:PA X (e::es) t)
 (hst:starEach (e::es) X.env=(false,eval e X.env)::starEach es X.env:=by rfl) (hpl:(backTo pos (starEach es X.env)).any (·.1)=false:=by rfl)
 (ht:eval (.Call (.Attribute o m apos) (e::es) [] pos) X.env=(do
  let ov<-eval o X.env
  standAt apos.atName
  let(f,first)<-holding [ov] (getMethod ov m pl)
  callWith pos f first (backTo pos (starEach (e::es) X.env)) (backToKw pos (keywordEach [] X.env))):=by rfl):
 PE X (.Call (.Attribute o m apos) (e::es) [] pos) (zaG C m sp E ta t):=by
 intro pins s σ H Q I h
 refine W.methodCall_KW (pl:=pl) (thn (he pins s σ H _ I h) fun u s1 ⟨x,H1,I1,rx,a,dx,fs,ex,ea,l,q⟩=> ?_) ht
 subst ex
 obtain rfl:u=Value.ref a:=rx
 refine z1g I1 ea c hm l ?_
 exact W.callWith_K (first:=[.ref a]) (h₀:=X.base) I.ok.mod.kin hm.kp (thn (ha pos pins s1 σ H1 _ I1 q) fun us s2 ⟨vs,H2,I2,r,q2⟩=>⟨I2.kIn,zc9 (us:= .ref a::us) (vs:= .ref a::vs) F hr hb hx I2 (.cons rfl r) q2⟩) hst hpl
end
noncomputable def z5L(f:FM)(ms:List (M D))(x:D):M D:=bd (psh x) fun _=>bd (Z3 ms) fun ys=>bd pop fun x' s=>z0O (f (x'::ys) s.n) (x'::ys) s
noncomputable def z4X(cn m:Str)(f:FM)(mo:M D)(ms:List (M D)):M D:=bd mo fun x=>if objC cn m x then z5L f ms x else fl
section
variable{X:Cx}{G:Gx}{F:Fy}{k:Nat}{fa C:Addr}{fd:FuncData}{ps:List Str}{E:L2.St->XK}{f:FM}{cn m:Str}{mo:M D}{ms:List (M D)}{o e:Expr}{es:List Expr}{pos apos:Pos}{pl:Sem Bool}
theorem z9O{σ:L2.St}{H:Hp}{Q:VK}(hx:XP X G F E)(hC:G.cl cn=some C)(hln:ms.length+1=ps.length)(h:tM G F (z4X cn m f mo ms) σ H Q):
 zaG C m (spX G ps.length f) E (tM G F mo) (tML G F (Z3 ms)) σ H Q:=by
 obtain⟨tv,h⟩:=h
 refine⟨tv,(z27 h).mono fun v H1 ⟨ρ1,s1,t,M1,W⟩=> ?_⟩
 have hr:=M1.rd1
 cases t with
 |obj l c ns vs=>
  split at W
  ·rename_i hq
   erw[objC,i3,beq_iff_eq,F4] at hq
   erw[RD] at hr
   obtain⟨rfl,C',dx,fs,hC',hH,rfl,r⟩:=hr
   have eC:C'=C:=by rw[hq.1,hC] at hC';exact(Option.some.inj hC').symm
   subst eC
   refine⟨_,dx,fs,rfl,hH,z2i hq.2,some (.ref (ρ1 l))::tv,z4H h.1,ρ1,s1.psh _,M1.push, ?_⟩
   erw[z5L,bd,psh] at W
   cases e2:Z3 ms (s1.psh (.obj l c (fs.map (·.1)) vs)) with
   |ex d s2=>erw[e2] at W;exact W
   |no=>erw[e2] at W;exact W
   |ok ys s2=>
    erw[e2,pop] at W
    intro ρ2 us H2 M2
    cases e3:s2.tm with
    |nil=>erw[e3] at W;exact False.elim W
    |cons o3 r3=>
     cases o3 with
     |none=>erw[e3] at W;exact False.elim W
     |some x3=>
      erw[e3] at W
      refine z6q hx h.1 ?_ (M2.down e3) W
      rw[i5,<-M2.rd.length,z06 ms _ ys s2 e2,hln]
  ·exact wfl W
 |_=>exact False.elim W
theorem se_mthX(hx:XP X G F E)(hC:G.cl cn=some C)(c:Cls X.K C)(hm:z6G X.K C m fa)(Fn:J1 X.prog X.w X.K X.mg X.base (CX1 X.prog X.w) k fa fd ps (spX G ps.length f))(hr:U5 k X.A)(hb:J2 X.K fd ps [])(ho:SE X G F o mo)(ha:SA X G F (e::es) (Z3 ms))(hln:ms.length+1=ps.length)
 (hst:starEach (e::es) X.env=(false,eval e X.env)::starEach es X.env:=by rfl) (hpl:(backTo pos (starEach es X.env)).any (·.1)=false:=by rfl)
 (ht:eval (.Call (.Attribute o m apos) (e::es) [] pos) X.env=(do
  let ov<-eval o X.env
  standAt apos.atName
  let(f,first)<-holding [ov] (getMethod ov m pl)
  callWith pos f first (backTo pos (starEach (e::es) X.env)) (backToKw pos (keywordEach [] X.env))):=by rfl):SE X G F (.Call (.Attribute o m apos) (e::es) [] pos) (z4X cn m f mo ms):=
 PE.imp0 (z9N ho c hm Fn hr hb hx.ps ha hst hpl ht) fun σ H Q h=>z9O hx hC hln h
end
theorem zca{K:W.Frag}{C:Addr}(c:Cls K C):NSq K C:=by
 have h:=c.hd
 unfold W.hasDictIn W.clsIn at h
 split at h
 ·rename_i ho
  exact⟨_,ho,fun its n z=>by cases z⟩
 ·cases h
noncomputable def stC(s:Stmt)(j:Nat):Stmt:=match s with
 | .ClassDef _ _ _ b .. =>b.getD j (.Pass ⟨0,0,0,0⟩)
 |s=>s
structure Dm(K:W.Frag)(C:Addr)(x qual:Str)(st:Stmt)(ps:List Str) where
 f:Addr
 d:FuncData
 F:Fun K x qual st f d
 b:J2 K d ps []
 h:z6G K C x f
end Mi
namespace Mi
open PySem L2 PySem.Spec PyProof.Rows
end Mi
namespace Mi
open PySem L2 PySem.Spec PySem.SeqAt PySem.Calls PyProof.Rows
end Mi
namespace Mi
open PySem L2 PySem.Spec PyProof.Rows
section
variable{X:Cx}{G:Gx}{F:Fy}
noncomputable def zgl:D->List D->M D
 | .lst l ds,[.int i]=>fun s=>if 0<=i/\i<2^63 then(match ds[i.toNat]? with|some (.int y)=> .ok (.int y) (s.put l (.lst l (ds.eraseIdx i.toNat)))|_=> .no) else .no
 |_,_=>fl
theorem z2j: ∀{ds:List D} {i:Nat} {j:Nat},j∈labsL (ds.eraseIdx i)->j∈labsL ds
 |[],i,j,h=>by simpa using h
 |d::ds,0,j,h=>by erw[labsL];exact b6 _ h
 |d::ds,i+1,j,h=>by
  erw[B7,labsL,c8] at h⊢
  exact h.imp id z2j
theorem RDs.erase{ρ:Nat->Addr}{H:Hp}: ∀{ds:List D} {xs:List V} (i:Nat),RDs G ρ H ds xs->RDs G ρ H (ds.eraseIdx i) (xs.eraseIdx i)
 |[],xs,i,h=>by erw[RDs] at h;subst h;simp[RDs]
 |d::ds,xs,0,h=>by erw[RDs] at h;obtain⟨x,q,rfl,_,h2⟩:=h;exact h2
 |d::ds,xs,i+1,h=>by
  erw[RDs] at h
  obtain⟨x,q,rfl,h1,h2⟩:=h
  erw[B7,RDs]
  exact⟨x,_,rfl,h1,RDs.erase i h2⟩
theorem RDs.at'{ρ:Nat->Addr}{H:Hp}: ∀{ds:List D} {xs:List V} {i:Nat} {d:D},RDs G ρ H ds xs->ds[i]? =some d->∃x,xs[i]? =some x/\RD G ρ H d x
 |[],xs,i,d,h,e=>by simp at e
 |d::ds,xs,0,d',h,e=>by erw[RDs] at h;obtain⟨x,q,rfl,h1,_⟩:=h;simp at e;subst e;exact⟨x,rfl,h1⟩
 |d::ds,xs,i+1,d',h,e=>by
  erw[RDs] at h
  obtain⟨x,q,rfl,h1,h2⟩:=h
  erw[List.getElem?_cons_succ] at e⊢
  exact RDs.at' h2 e
theorem zf5:z9t G F zaj zgl:=by
 intro ρ s t ts v vs H σv tv Q M W
 obtain⟨h1,h2,b1,b2⟩:=M.hd
 unfold zgl at W
 split at W
 ·rename_i l ds i
  split at W
  ·rename_i hi
   split at W
   ·rename_i y hy
    have h1':=h1
    erw[RD] at h1
    obtain⟨rfl,xs,hx,r⟩:=h1
    erw[RDs] at h2
    obtain⟨u,q,rfl,h2,rfl⟩:=h2
    erw[RD] at h2
    subst h2
    obtain⟨x,ex,rx⟩:=RDs.at' r hy
    erw[RD] at rx
    subst rx
    have ns:=z3h M.m h1' fun j hj=>(b1 j hj).1
    have bl:=b1 l (by erw[y4];exact e9 ..)
    have hlt:=(List.getElem?_eq_some_iff.1 ex).1
    refine⟨_,xs,i,i.toNat, .int y,rfl,rfl,hx,by lia,hi.2, ?_,ex,fun _=>W.out (M.m.putL hx bl.1 bl.2 (RDs.erase i.toNat r) (fun j hj=>b1 j (by erw[y4];exact b7 _ (z2j hj))) fun hj=>ns (z2j hj)) (by erw[RD]) fun l h=>by simp[y4] at h⟩
    unfold seqIndex?
    erw[show ¬i<0 by lia,if_false]
    rw[if_pos (by simp;lia)]
   ·exact False.elim W
  ·exact False.elim W
 ·exact wfl W
theorem zf6:Cl X G F "list.pop" zgl:=⟨_,z93,zf5⟩
noncomputable def z9P:List D->M D
 |[.tup ds]=>if zhc ds=true then rt (.str (er (.tup ds)).shown) else fl
 |[.lst l ds]=>if(plainL ds&&(er (.lst l ds)).showable&&decide ((er (.lst l ds)).depth<=60)&&decide ((er (.lst l ds)).shown.length<=sizeLine))=true then rt (.str (er (.lst l ds)).shown) else fl
 |_=>fl
theorem zf7:G4 G F (zh9 G.K) z9P:=by
 intro ρ s ts vs H σv tv Q M W
 unfold z9P at W
 split at W
 ·rename_i ds
  exact zeP ρ s [.tup ds] vs H σv tv Q M W
 ·rename_i l ds
  split at W
  ·rename_i hc
   erw[i3,decide_eq_true_eq] at hc
   obtain⟨⟨⟨c1,c2⟩,c3⟩,c4⟩:=hc
   obtain⟨v,rfl,h,_⟩:=M.one
   obtain⟨p,xs,rfl,s1,r1,_⟩:=id (h.lstq (ds:=ds) rfl)
   exact⟨p,er (.lst l ds),rfl,RD.dp _ _ h (by erw[plain];exact c1),z2b _,c2,c3,c4,fun _=>W.flat M.m rfl⟩
  ·exact wfl W
 ·exact wfl W
theorem zaH(hk:X.K=G.K)(hg:X.A.guards=some [])(hu:X.A.units+64<cLine):Cb X G F (.builtin "repr") z9P:=⟨_,hk▸z6l hg hu,zf7⟩
end
end Mi
namespace L2
open PySem PySem.Spec PyProof.Rows
end L2
namespace Mi
open PySem L2
noncomputable def sNo:MS:=fun _=> .no
section
variable{X:Cx}{G:Gx}{F:Fy}{st:Stmt}
theorem ss_no:SS X G F st sNo:=fun pins s σ H D I h=>by
 obtain⟨tv,hs,ρ,s,M,W⟩:=h
 exact False.elim W
end
end Mi
namespace Mi
open PySem L2 PySem.Spec PyProof.Rows PySem F P
section
variable{X:Cx}{G:Gx}{F:Fy}
theorem zf8:OpR X (compareOp .NotEq) (fun x y H Q=> ∃i j,x= .str i/\y= .str j/\Q (.bl (!(i==j))) H):=by
 intro pins s σ H x y v u Q I rx ry h
 obtain⟨i,j,rfl,rfl,q⟩:=h
 exact zgC pins s σ H _ _ v u Q I rx ry ⟨rfl,by rw[z6X];exact q⟩
noncomputable def neS:D->D->M D
 | .str i, .str j=>rt (.bool (!(i==j)))
 |_,_=>fl
theorem zf9:V5 G F (fun x y H Q=> ∃i j,x= .str i/\y= .str j/\Q (.bl (!(i==j))) H) neS:=by
 intro ρ s t t' v u H σv tv Q M W
 unfold neS at W
 split at W
 ·obtain⟨h1,h2⟩:=M.rd2
  erw[RD] at h1 h2
  exact⟨_,_,h1,h2,W.flat M.m rfl⟩
 ·exact wfl W
theorem zfa:Cm X G F .NotEq neS:=⟨_,zf8,zf9⟩
end
end Mi
namespace L2
open PySem PySem.Spec PyProof.Rows
section
variable{X:Cx}
noncomputable def zdc(ds:List PyData)(i j:Nat):Bool:=(So.ltD (ds.getD i .none) (ds.getD j .none)).getD false
theorem z08{h:Heap}: ∀{its:List Value} {ds:List PyData} {as:List Addr},ReadsAll h its ds as->∀i (hi:i<its.length),∃bs,Reads h its[i] (ds.getD i .none) bs/\ds.getD i .none∈ds
 |v::its,d::ds,_, .cons r rs,0,_=>⟨_,r,by simp⟩
 |v::its,d::ds,_, .cons r rs,i+1,hi=>by
  obtain⟨bs,h1,h2⟩:=z08 rs i (by simpa using hi)
  exact⟨bs,by simpa using h1,by simpa using Or.inr h2⟩
theorem z4c{ys:List V}{its:List Value}(h:w4 ys its): ∀(q:List Nat),(∀i∈q,i<its.length)->w4 (q.map fun i=>ys.getD i .non) (q.map fun i=>its.getD i Value.none)
 |[],_=> .nil
 |i::q,hq=>by
  refine .cons ?_ (z4c h q fun j hj=>hq j (b7 _ hj))
  have hi:=hq i e9
  clear hq
  induction h generalizing i with
  |nil=>simp at hi
  |cons r t ih=>
   cases i with
   |zero=>simpa using r
   |succ i=>simpa using ih i (by simpa using hi)
end
end L2
namespace Mi
open PySem L2 PySem.Spec PyProof.Rows
section
variable{X:Cx}{G:Gx}{F:Fy}
noncomputable def U3(ds:List D):List D:=(So.perm ds.length (zdc (erL ds))).map fun i=>ds.getD i .non
theorem RDs.len2{ρ:Nat->Addr}{H:Hp}: ∀{ds:List D} {xs:List V},RDs G ρ H ds xs->ds.length=xs.length
 |[],xs,h=>by erw[RDs] at h;subst h;rfl
 |d::ds,xs,h=>by erw[RDs] at h;obtain⟨x,q,rfl,_,h2⟩:=h;rw[i5,i5,RDs.len2 h2]
theorem RDs.perm{ρ:Nat->Addr}{H:Hp}{ds:List D}{xs:List V}(h:RDs G ρ H ds xs): ∀q:List Nat,(∀i∈q,i<ds.length)->RDs G ρ H (q.map fun i=>ds.getD i .non) (q.map fun i=>xs.getD i .non)
 |[],_=>by erw[l3,RDs]
 |i::q,hq=>by
  erw[b9,RDs]
  refine⟨_,_,rfl, ?_,RDs.perm h q fun j hj=>hq j (b7 _ hj)⟩
  have hi:=hq i e9
  obtain⟨x,ex,rx⟩:=RDs.at' (i:=i) (d:=ds.getD i .non) h (by simp[hi])
  rw[show xs.getD i .non=x by rw[List.getD_eq_getElem?_getD,ex];rfl]
  exact rx
theorem z4d{ds:List D}(h:labsL ds=[]): ∀q:List Nat,labsL (q.map fun i=>ds.getD i .non)=[]
 |[]=>by erw[l3,labsL]
 |i::q=>by
  erw[b9,labsL]
  rw[z4d h q,c9]
  have gen: ∀(ds:List D) (i:Nat),labsL ds=[]->y4 (ds.getD i .non)=[]:=by
   intro ds
   induction ds with
   |nil=>intro i _;simp[y4]
   |cons d ds ih=>
    intro i h
    erw[labsL,D3] at h
    cases i with
    |zero=>simpa using h.1
    |succ i=>simpa using ih i h.2
  exact gen ds i h
end
end Mi
namespace L2
open PySem PySem.Spec PyProof.Rows
end L2
namespace Mi
open PySem L2 PySem.Spec PyProof.Rows
end Mi
namespace L2
open PySem PySem.Spec PyProof.Rows
end L2
namespace Mi
open PySem L2
end Mi
namespace So
open PySem PySem.W PyProof.Rows PySem.SeqAt
end So
namespace L2
open PySem PySem.Spec PyProof.Rows
end L2
namespace Mi
open PySem L2 PySem.Spec PyProof.Rows
end Mi
namespace PySem
section
variable{prog:Program}{w:World}{A:Around}{E:Value->Shared->Prop}{s:Shared}
theorem z7S{d:Addr}{Q:Value->Shared->Prop}(hd:(d==sysModules)=false)(hT:s.TypeIs (.ref d) "dict")(hQ: ∀h',h'.IsItemsView s.heap.objs.size d->(∀b o,s.heap.get? b=some o->h'.get? b=some o)->Q (.ref s.heap.objs.size) {s with heap:=h'}):wpAny (model prog w) A (call (.builtin "dict.items") [.ref d]) Q E s:=by
 refine wpAny_call_entry F.slot_dict_items hT F.entry_dict_items ?_ (F.args_dict_items_1 _)
 unfold Builtin.«dict.items» Builtin.Dict.noArgs
 refine wpAny_bind (wpAny_bind (wpAny_notOrdered_dict hT (show wpAny _ _ (pure d) _ _ s from wpAny_pure ?_)))
 unfold Builtin.Dict.showsAll
 rw[if_neg (by rw[hd];exact i6)]
 exact wpAny_bind (wpAny_pure (wpAny_bind (wpAny_newObj_type (wpAny_pure ⟨_,rfl,hQ _ ⟨_,Heap.get?_push_size _ rfl,rfl,rfl⟩ fun _ _ q=>Heap.get?_push_of_some _ q⟩))))
theorem z7T{v d:Addr}{o:Obj}{es:Array DictEntry}{ep:Nat}{Q:Value->Shared->Prop}(hv:s.heap.IsItemsView v d)(ho:s.heap.get? d=some o)(hdat:o.data= .dict es ep)
 (hQ: ∀h',IsItemIter h' s.heap.objs.size d 0 es.size ep .none .none->(∀b o,s.heap.get? b=some o->h'.get? b=some o)->Q (.ref s.heap.objs.size) {s with heap:=h'}):wpAny (model prog w) A (pyIter (.ref v)) Q E s:=by
 obtain⟨ov,hov,hcv,hdv⟩:=id hv
 have hown:Builtin.Dict_items.ownsTuple "dict_itemiterator" =true:=by decide
 refine wpAny_pyIter_slot hv.typeIs F.slot_dict_items_iter (wpAny_call_entry F.slot_dict_items_iter hv.typeIs F.entry_dict_items_iter ?_ (F.args_dict_items_iter_1 _))
 unfold Builtin.«dict_items.__iter__» Builtin.Dict_items.dictOf Builtin.Dict_items.newIterator
 refine wpAny_bind (wpAny_pure (wpAny_bind (wpAny_bind (wpAny_field hov hdv (x:= .ref d) rfl ?_))))
 refine wpAny_pure (wpAny_bind (wpAny_bind (wpAny_dictEntries ho hdat (wpAny_bind (wpAny_dictEpoch ho hdat ?_)))))
 erw[hown,if_true]
 refine wpAny_newObj_type (wpAny_pure ?_) (by erw[sizeOk,Builtin.Dict_items.ownedTupleFields,i4,l5,i5,r8,sizeLine_eq];lia)
 refine⟨_,rfl, "dict_itemiterator",_,⟨_,Heap.get?_push_size _ rfl,rfl⟩,F.slot_dict_itemiterator_next.lookup,hQ _ ?_ fun _ _ q=>Heap.get?_push_of_some _ q⟩
 have:=Heap.get?_push_size s.heap (o:={cls:= .type "dict_itemiterator",data:= .fields #[.none, .bool false, .ref d, .int 0 0, .int es.size 0, .int ep 0, .none, .none]}) rfl
 unfold IsItemIter
 simpa[rawInt,Builtin.Dict_items.ownedTupleFields] using this
theorem z7U{it d:Addr}{i ep:Nat}{od:Obj}{es:Array DictEntry}{en:DictEntry}{ok ov:Value}{Q:Option Value->Shared->Prop}(hit:IsItemIter s.heap it d i es.size ep ok ov)(hod:s.heap.get? d=some od)(hdd:od.data= .dict es ep)(hx:es[i]? =some en)
 (hQ: ∀h',IsItemIterOut h' it d (i+1) es.size ep en.key en.val s.heap.objs.size->h'.get? s.heap.objs.size=some {cls:= .type "tuple",data:= .seq #[en.key,en.val]}->(∀b o,b≠it->s.heap.get? b=some o->h'.get? b=some o)->Q (some (.ref s.heap.objs.size)) {s with heap:=h'}):
 wpAny (model prog w) A (pyNext (.ref it)) Q E s:=by
 obtain⟨hp,g,dr,tk,os⟩:=s
 have hT:Shared.TypeIs ⟨hp,g,dr,tk,os⟩ (.ref it) "dict_itemiterator" :=⟨_,hit,rfl⟩
 have hown:Builtin.Dict_items.ownsTuple "dict_itemiterator" =true:=by decide
 have hlt:i<es.size:=by
  rcases P3 i es.size with h|h
  ·exact h
  ·simp[Array.getElem?_eq_none h] at hx
 have hen:es[i]=en:=by rw[Array.getElem?_eq_getElem hlt] at hx;exact Option.some.inj hx
 unfold pyNext
 refine wpAny_bind (wpAny_attempt (wpAny_callSpecial?_slot (name:=Str.ofString "__next__") hT F.slot_dict_itemiterator_next (wpAny_call_entry F.slot_dict_itemiterator_next hT F.entry_dict_itemiterator_next ?_ (F.args_dict_itemiterator_next_1 _))))
 refine wpAny_bind (wpAny_pure (wpAny_bind (wpAny_bind ?_)))
 first|refine wpAny_bind (wpAny_typeNameOfWhole_itemiter hT (wpAny_pure (wpAny_bind (wpAny_fieldsOf hit rfl ?_))))|refine wpAny_bind (wpAny_typeNameOf_itemiter hT (wpAny_pure (wpAny_bind (wpAny_fieldsOf hit rfl ?_))))
 erw[hown,if_true]
 show wpAny _ _ (if(Value.ref d==Value.none)=true then _ else _) _ _ _
 rw[if_neg (show ¬((Value.ref d==Value.none)=true) from i6)]
 refine wpAny_bind (wpAny_pure (wpAny_bind (wpAny_dictEntries hod hdd ?_)))
 rw[if_neg (by simp)]
 refine wpAny_bind (wpAny_pure (wpAny_bind (wpAny_dictEpoch hod hdd ?_)))
 rw[if_neg (by simp)]
 refine wpAny_pure ?_
 erw[show ¬((i:Int)<0) from by lia,if_false,C3,Array.getElem?_eq_getElem hlt,hen]
 refine wpAny_bind ?_
 first|refine wpAny_bind (wpAny_typeNameOfWhole_itemiter hT (wpAny_pure (wpAny_bind (wpAny_isOneOf_itemiter hT ?_))))|refine wpAny_bind (wpAny_typeNameOf_itemiter hT (wpAny_pure (wpAny_bind (wpAny_isOneOf_itemiter hT ?_))))
 show wpAny _ _ (setField (.ref it) 3 (rawInt ((i:Int)+1))>>=_) _ _ ⟨hp,g,dr,tk,os⟩
 refine wpAny_bind (wpAny_setField_rec hit (by simp) fun k1 f1 t1=> ?_)
 have t1:Heap.SameBut it hp k1:=t1
 have f1:IsItemIter k1 it d (i+1) es.size ep ok ov:=by
  have e:((i+1:Nat):Int)=(i:Int)+1:=by lia
  unfold IsItemIter;rw[e];simpa[rawInt] using f1
 have hT1:Shared.TypeIs ⟨k1,g,dr,tk,os⟩ (.ref it) "dict_itemiterator" :=⟨_,f1,rfl⟩
 refine wpAny_bind (wpAny_holding (wpAny_bind (wpAny_isOneOf_itemiter hT1 (wpAny_bind (wpAny_isOneOf_itemiter hT1 ?_)))))
 show wpAny _ _ (Builtin.Dict_items.pairFromOwner (.ref it) 6 en.key en.val) _ _ ⟨k1,g,dr,tk,os⟩
 unfold Builtin.Dict_items.pairFromOwner
 refine wpAny_bind (wpAny_newTuple ?_)
 have z1:k1.objs.size=hp.objs.size:=t1.1
 have hil:it<hp.objs.size:=Heap.lt_size hit
 have f2:IsItemIter (k1.push {cls:= .type "tuple",data:= .seq #[en.key,en.val]}) it d (i+1) es.size ep ok ov:=Heap.get?_push_of_some _ f1
 generalize hk2:k1.push {cls:= .type "tuple",data:= .seq #[en.key,en.val]}=k2 at f2
 have p2:k2.get? hp.objs.size=some {cls:= .type "tuple",data:= .seq #[en.key,en.val]}:=by rw[<-hk2,<-z1];exact Heap.get?_push_size _ rfl
 have o2: ∀b o,b≠it->hp.get? b=some o->k2.get? b=some o:=fun b o hb e=>by rw[<-hk2];exact Heap.get?_push_of_some _ (t1.extBut b o hb e)
 show wpAny _ _ (Builtin.Dict_items.ownedTupleIsFree (.ref it)>>=_) _ _ ⟨k2,g,dr,tk,os⟩
 rw[z1]
 unfold Builtin.Dict_items.ownedTupleIsFree
 refine wpAny_bind (wpAny_bind (wpAny_field f2 rfl (x:= .none) rfl (wpAny_pure ?_)))
 erw[if_true]
 refine wpAny_bind (wpAny_field f2 rfl (x:=ok) rfl (wpAny_bind (wpAny_field f2 rfl (x:=ov) rfl (wpAny_bind (wpAny_setField_rec f2 (by simp) fun k3 f3 t3=> ?_)))))
 have t3:Heap.SameBut it k2 k3:=t3
 have f3:IsItemIter k3 it d (i+1) es.size ep en.key ov:=f3
 refine wpAny_bind (wpAny_setField_rec f3 (by simp) fun k4 f4 t4=> ?_)
 have t4:Heap.SameBut it k3 k4:=t4
 have f4:IsItemIter k4 it d (i+1) es.size ep en.key en.val:=f4
 refine wpAny_bind (wpAny_setField_rec f4 (by simp) fun k5 f5 t5=> ?_)
 have t5:Heap.SameBut it k4 k5:=t5
 have f5:IsItemIterOut k5 it d (i+1) es.size ep en.key en.val hp.objs.size:=f5
 refine wpAny_bind (wpAny_setField_rec f5 (by simp) fun k6 f6 t6=> ?_)
 have t6:Heap.SameBut it k5 k6:=t6
 have f6:IsItemIterOut k6 it d (i+1) es.size ep en.key en.val hp.objs.size:=f6
 have on: ∀b o,b≠it->k2.get? b=some o->k6.get? b=some o:=fun b o hb e=>t6.extBut b o hb (t5.extBut b o hb (t4.extBut b o hb (t3.extBut b o hb e)))
 exact wpAny_bind (wpAny_letGo (wpAny_pure (wpAny_pure ⟨_,rfl,wpAny_pure (hQ k6 f6 (on _ _ (N2 hil) p2) fun b o hb e=>on b o hb (o2 b o hb e))⟩)))
theorem z9Q{it d:Addr}{i ep:Nat}{od:Obj}{es:Array DictEntry}{ok ov:Value}{Q:Option Value->Shared->Prop}(hh:A.handled=none)(hit:IsItemIter s.heap it d i es.size ep ok ov)(hod:s.heap.get? d=some od)(hdd:od.data= .dict es ep)(hge:es.size<=i)
 (hQ: ∀h',Heap.ExtBut it s.heap h'->Q none {s with heap:=h'}):wpAny (model prog w) A (pyNext (.ref it)) Q E s:=by
 have hT:s.TypeIs (.ref it) "dict_itemiterator" :=⟨_,hit,rfl⟩
 have hown:Builtin.Dict_items.ownsTuple "dict_itemiterator" =true:=by decide
 unfold pyNext
 refine wpAny_bind (wpAny_attempt (wpAny_callSpecial?_slot (name:=Str.ofString "__next__") hT F.slot_dict_itemiterator_next (wpAny_call_entry F.slot_dict_itemiterator_next hT F.entry_dict_itemiterator_next ?_ (F.args_dict_itemiterator_next_1 _))))
 refine wpAny_bind (wpAny_pure (wpAny_bind (wpAny_bind ?_)))
 first|refine wpAny_bind (wpAny_typeNameOfWhole_itemiter hT (wpAny_pure (wpAny_bind (wpAny_fieldsOf hit rfl ?_))))|refine wpAny_bind (wpAny_typeNameOf_itemiter hT (wpAny_pure (wpAny_bind (wpAny_fieldsOf hit rfl ?_))))
 erw[hown,if_true]
 show wpAny _ _ (if(Value.ref d==Value.none)=true then _ else _) _ _ s
 rw[if_neg (show ¬((Value.ref d==Value.none)=true) from i6)]
 refine wpAny_bind (wpAny_pure (wpAny_bind (wpAny_dictEntries hod hdd ?_)))
 rw[if_neg (by simp)]
 refine wpAny_bind (wpAny_pure (wpAny_bind (wpAny_dictEpoch hod hdd ?_)))
 rw[if_neg (by simp)]
 refine wpAny_pure ?_
 erw[show ¬((i:Int)<0) from by lia,if_false,C3,Array.getElem?_eq_none hge]
 refine wpAny_bind ?_
 first|refine wpAny_bind (wpAny_typeNameOfWhole_itemiter hT (wpAny_pure ?_))|refine wpAny_bind (wpAny_typeNameOf_itemiter hT (wpAny_pure ?_))
 show wpAny _ _ (setField (.ref it) 2 .none>>=_) _ _ s
 refine wpAny_bind (wpAny_setField hit rfl (by simp) ?_)
 show wpAny _ _ (newExc (.type "StopIteration") []>>=_) _ _ _
 erw[newExc,newTuple]
 refine wpAny_bind (wpAny_bind (wpAny_newObj_type (wpAny_bind (m:=firstArgMember _ _) (wpAny_of_eq (a:=Value.none) (by first|rfl|(erw[firstArgMember];rfl)) (wpAny_newObj_type ?_ (by size_fits)))) (by size_fits)))
 erw[raiseNew]
 refine wpAny_bind (wpAny_handled ?_)
 rw[show A.in1.handled=none from hh]
 refine wpAny_bind (wpAny_pure (wpAny_throw ?_))
 refine wpAny_bind (wpAny_isInstance (T:= "StopIteration") (b:=true) ⟨_,Heap.get?_push_size _ rfl,rfl⟩ isSubtype_stop (wpAny_pure (hQ _ ?_)))
 exact((Heap.SameBut.update ..).extBut.push _).push _
end
end PySem
namespace L2
open PySem PySem.Spec PyProof.Rows
noncomputable def zgm(K:W.Frag)(a:Addr)(o:Obj)(kvs:List (NK×V)):It:=
 ⟨fun i H=>i<kvs.length/\H a=some (.frz o (.dT kvs)),fun i H x H'=> ∃p b k v,H p=none/\x= .ref p/\H'=upd H p (.tup [.ref b,v])/\kvs[i]? =some (k,v)/\TK H k b/\∀c ob,K.lookup c=some ob->H' c=none,fun i H=>kvs.length<=i/\H a=some (.frz o (.dT kvs))⟩
theorem z7V{P:Program}{w:World}{H:Hp}{h:Heap}{a:Addr}{o:Obj}{kvs:List (NK×V)}(ok:HOk P w H h)(e:H a=some (.frz o (.dT kvs))):
 h.get? a=some o/\∃es ep,o.data= .dict es ep/\es.size=kvs.length/\
  ∀(i:Nat) (k:NK) (v:V),kvs[i]? =some (k,v)->∃en b,es[i]? =some en/\en.key= .ref b/\TK H k b/\RelV v en.val:=by
 obtain⟨ho,z,y,xs,r,o',es,ep,e',c,d,l,nd⟩:=ok a _ e
 rw[ho] at e'
 cases e'
 have hl:kvs.length=xs.length:=Paired.length r
 have hs:es.size=xs.length:=size_of_entries l
 refine⟨ho,es,ep,d,by lia,fun i k v q=> ?_⟩
 obtain⟨⟨k',b,u⟩,q1,q2,q3,q4⟩:=Paired.get r i _ q
 have q2:k=k':=q2
 subst q2
 have hi:=entry_at l i
 rw[q1] at hi
 exact⟨_,b,hi,rfl,q3,q4⟩
theorem z7W{P:Program}{w:World}{K:W.Frag}{elts:List Expr}{x1:Nat}{tpos:Pos}(a it:Addr)(o:Obj)(es:Array DictEntry)(ep:Nat)(hd:o.data= .dict es ep)(kvs:List (NK×V)):
 zcW P w K (.Tuple elts x1 tpos) (zgm K a o kvs) [it] it (fun i h=> ∃ok ov,IsItemIter h it a i es.size ep ok ov) where
 mem:=by simp
 obj:=fun i h st b hb=>by
  have e:b=it:=by simpa using hb
  subst e
  obtain⟨_,_,st⟩:=st
  exact⟨_,st,fun v z=>by
   have z':Data.fields _=Data.cell v:=z
   cases z'⟩
 keep:=fun i h h' st k=>by
  obtain⟨ok,ov,st⟩:=st
  exact⟨ok,ov,k it (by simp) _ st⟩
 item:=by
  intro X hP hw hK hc i pins s σ H E I hf st hg
  subst hP hw hK
  obtain⟨hi,hq⟩:=hg
  obtain⟨ok,ov,st⟩:=st
  obtain⟨ho,es',ep',hd',hsz,hat⟩:=z7V I.hok hq
  rw[hd] at hd'
  cases hd'
  obtain⟨⟨k,v⟩,hk⟩: ∃p,kvs[i]? =some p:=⟨kvs[i],by simp[hi]⟩
  obtain⟨en,b,he,hb,hB,hv⟩:=hat i k v hk
  refine z7U st ho hd he fun h1 f1 p1 k1=>⟨_,rfl,wpAny_letOwnedTupleGo_items f1 fun h2 f2 t2=> ?_⟩
  have t2:Heap.SameBut it h1 h2:=t2
  have hil:it<s.heap.objs.size:=Heap.lt_size st
  have p2:h2.get? s.heap.objs.size=some {cls:= .type "tuple",data:= .seq #[en.key,en.val]}:=(t2.2 _ (N2 hil)).trans p1
  have fr: ∀c∈[it],c≠s.heap.objs.size:=fun c hc=>by
   have hc:c=it:=by simpa using hc
   subst hc;exact l0 hil
  have I1:Inv X pins σ (upd H s.heap.objs.size (.tup [.ref b,v])) {s with heap:=s.heap.push {cls:= .type "tuple",data:= .seq #[en.key,en.val]},toks:=s.toks}:=I.laid (t':=s.toks) (o:= .tup [.ref b,v]) (fun b ob q=>Heap.get?_push_of_some _ q) (e8 _) ⟨by show 2<=sizeLine;decide,[en.key,en.val], .cons hb (.cons hv .nil),IsTup.new _ _⟩
  have f3: ∀c∈[it],z6F X pins (upd H s.heap.objs.size (.tup [.ref b,v])) c:=fun c hc=>⟨by rw[y6 (fr c hc)];exact(hf c hc).1,(hf c hc).2⟩
  have I2:=I1.turnedL (h':=h2) (t':=s.toks) (fun c ob hc q=>by
   have hc:c≠it:=by simpa using hc
   rcases Heap.get?_push_cases (show(s.heap.push {cls:= .type "tuple",data:= .seq #[en.key,en.val]}).get? c=some ob from q) with⟨rfl,rfl⟩|q'
   ·exact p2
   ·exact(t2.2 c hc).trans (k1 c ob hc q')) f3
  exact⟨.ref s.heap.objs.size,_,I2,rfl,⟨_,b,k,v,I.hok.fresh (e8 _),rfl,rfl,hk,hB,fun c ob q=>(I2.bs c ob (I2.ok.mod.kin c ob q)).2⟩,⟨_,_,f2⟩,fun c hc=>(f3 c hc).1⟩
 done:=by
  intro X hP hw hK hc i pins s σ H E I hf st hg
  subst hP hw hK
  obtain⟨hi,hq⟩:=hg
  obtain⟨ok,ov,st⟩:=st
  obtain⟨ho,es',ep',hd',hsz,hat⟩:=z7V I.hok hq
  rw[hd] at hd'
  cases hd'
  exact z9Q (I.ok.hd hc) st ho hd (by lia) fun h' eb=>⟨rfl,I.turnedL (t':=s.toks) (fun c ob hb q=>eb c ob (by simpa using hb) q) hf⟩
 self:=fun A i s Q E st h=>by
  obtain⟨_,_,st⟩:=st
  exact W.kcp_self st h
end L2
namespace Mi
open PySem L2
end Mi
namespace So
open PySem PySem.W PyProof.Rows PySem.SeqAt
noncomputable def hdT:PyData->Bool
 | .tuple (.tuple _::_)=>true
 |_=>false
theorem hd_tup{d:PyData}(h:hdT d=true): ∃zs xs,d= .tuple (.tuple zs::xs):=by
 cases d with
 |tuple xs=>
  cases xs with
  |nil=>simp[hdT] at h
  |cons x xs=>cases x<;>first|exact⟨_,_,rfl⟩|simp[hdT] at h
 |_=>simp[hdT] at h
theorem z7X{prog:Program}{w:World}{A:Around}{fin:Bool}{Q:Bool->Shared->Prop}{s:Shared}: ∀(vs us:List Value) (i:Nat) (r:Bool),z4F A s vs us r->fin=decide (vs.length<us.length)->Q r s->KatLex prog w A false fin Q (vs.zip us) i s
 |[],us,i,r,h,hf,q=>by
  have:r=decide (0<us.length):=h
  subst hf
  rw[List.zip_nil_left]
  exact kat_nil (by rw[this] at q;exact q)
 |_::_,[],i,r,h,hf,q=>by
  have:r=false:=h
  subst hf
  rw[List.zip_nil_right]
  exact kat_nil (by rw[this] at q;simpa using q)
 |v::vs,u::us,i,r,h,hf,q=>by
  rw[M9]
  obtain⟨e,h1,h2⟩:=h
  refine kat_cons (h1 prog w _ _ ?_)
  cases e with
  |true=>exact kat_yes (z7X vs us (i+1) r h2 (by simpa using hf) q)
  |false=>exact kat_no (by rw[D0];exact kat_one v u (h2 prog w _ _ q))
theorem key_ltF{prog:Program}{w:World}{A:Around}{E:Value->Shared->Prop}{Q:Bool->Shared->Prop}{s:Shared}{x y:Value}{dx dy:PyData}{as bs:List Addr}{r:Bool}(rx:Reads s.heap x dx as)(ry:Reads s.heap y dy bs)(hx:dx.canLay0=true)(hy:dy.canLay0=true)(ix:hdT dx=true)(iy:hdT dy=true)(hu:A.units+min dx.depth dy.depth<cLine)(hr:ltD dx dy=some r)(q:Q r s):
 wpAny (model prog w) A (keyLt' (tuples' false) x y) Q E s:=by
 obtain⟨i,xs,rfl⟩:=hd_tup ix
 obtain⟨j,ys,rfl⟩:=hd_tup iy
 cases rx with
 | @tuple l o vs n _ as₁ h1 h2 h3 h4=>
  cases ry with
  | @tuple l' o' vs' n' _ as' k1 k2 k3 k4=>
   refine kat_lt h1 h3 k1 k3 ?_
   have sz:decide (vs.size<vs'.size)=decide (vs.toList.length<vs'.toList.length):=by simp
   rw[sz]
   erw[ltD] at hr
   exact z7X _ _ 0 r (lex_reads (.tuple i::xs) (.tuple j::ys) A s _ _ _ _ r h4 k4 (by simpa[PyData.canLay0] using hx) (by simpa[PyData.canLay0] using hy) (by erw[PyData.depth] at hu;lia) hr) rfl q
end So
namespace L2
open PySem PySem.Spec PyProof.Rows
section
variable{X:Cx}
noncomputable def z4e(ds:List PyData):Bool:=ds.all (fun d=>So.hdT d&&d.canLay0&&decide (d.depth<=60))&&ds.all fun d=>ds.all fun e=>(So.ltD d e).isSome
theorem z5M{h:Heap}{M:Model}: ∀{its:List Value} {ds:List PyData} {as:List Addr},ReadsAll h its ds as->(∀d∈ds,So.hdT d=true)->∃fs:List Value,W.KatTups h its fs/\fs.length=ds.length/\∀f∈fs,W.Looks M h (typeOf f) (.type "tuple")
 |[],_,_, .nil,_=>⟨[], .nil,rfl,by simp⟩
 |v::its,d::ds,_, .cons r rs,hd=>by
  obtain⟨fs,t,hl,hf⟩:=z5M (M:=M) rs fun d hd'=>hd d (b7 _ hd')
  obtain⟨i,xs,rfl⟩:=So.hd_tup (hd _ e9)
  cases r with
  | @tuple l o vs n _ as₁ h1 h2 h3 h4=>
   generalize hv:vs.toList=us at h4
   cases h4 with
   |cons r1 r2=>
    cases r1 with
    | @tuple l2 o2 vs2 n2 _ as2 k1 k2 k3 k4=>
     refine⟨.ref l2::fs, .cons h1 h2 h3 ?_ t,by simp[hl],fun f hf'=> ?_⟩
     ·rw[<-Array.getElem?_toList,hv];rfl
     ·rcases e7.mp hf' with rfl|hf'
      ·show W.Looks M h (loadPart l2 (some headPart)>>=fun o=>pure o.cls) (.type "tuple")
       rw[<-k2]
       exact W.Looks.andThen (W.Looks.ld k1) W.Looks.now
      ·exact hf f hf'
noncomputable def zaI(K:W.Frag):List V->Hp->VK->Prop:=fun xs H Q=> ∃p ys ds,xs=[.ref p]/\SqL K H p ys/\DpAll K H ds ys/\z4e ds=true/\∀l,H l=none->Q (.ref l) (upd H l (.lst ((So.perm ys.length (zdc ds)).map fun i=>ys.getD i .non)))
theorem z7Y(hu:X.A.units+64<cLine):CallR X (.builtin "sorted") (zaI X.K):=by
 intro pins s σ H xs us Q I r h
 obtain⟨p,ys,ds,rfl,hs,hd,ok,q⟩:=h
 obtain⟨u,rfl,ru⟩:=z4z r
 cases ru
 obtain⟨its,rv,pl,hz⟩:=I.list hs
 have hl:its.length=ys.length:=(Paired.length rv).symm
 unfold z4e at ok
 erw[i3,t9,decide_eq_true_eq] at ok
 obtain⟨ok1,ok2⟩:=ok
 refine So.call_sorted (cmp:=zdc ds) pl.isList (by lia) (fun h' kp h2=> ?_) fun h' D e1 kp hD hget=> ?_
 ·have I':Inv X pins σ H {s with heap:=h'}:=I.kept (t':=s.toks) kp
  obtain⟨as,ra⟩:=DpAll.reads I' ds ys its hd rv
  refine⟨tuples' false,fun Q E hq=> ?_,fun i j hi hj C hC=> ?_⟩
  ·obtain⟨fs,t,hfl,hf⟩:=z5M ra fun d hd'=>(ok1 d hd').1.1
   have hdl:=SeqAt.ReadsAll.length _ _ _ ra
   exact W.kat_kind (T:= .type "tuple") t (by lia) hf rfl hq
  ·obtain⟨bs,r1,m1⟩:=z08 ra i hi
   obtain⟨cs,r2,m2⟩:=z08 ra j hj
   obtain⟨b,hb⟩:=F5.mp (ok2 _ m1 _ m2)
   have o1:=ok1 _ m1
   have o2:=ok1 _ m2
   refine So.key_ltF r1 r2 o1.1.2 o2.1.2 o1.1.1 o2.1.1 ?_ hb ?_
   ·show X.A.units+1+1+_<_
    have:=Nat.min_le_left (ds.getD i .none).depth (ds.getD j .none).depth
    lia
   ·have:zdc ds i j=b:=by unfold zdc;rw[hb];rfl
    rw[<-this];exact hC
 ·refine⟨.ref D,_,I.laid (t':=s.toks) (o:= .lst ((So.perm ys.length (zdc ds)).map fun i=>ys.getD i .non)) kp hD ⟨by rw[i9,So.perm_len];exact hz,_,e1,z4c rv _ fun i hi=> ?_, ?_⟩,rfl,q _ (I.hok.fresh hD)⟩
  ·rw[hl];exact So.perm_lt i hi
  ·rw[hl] at hget;exact hget
end
end L2
namespace L2
open PySem PySem.Spec PyProof.Rows
open Sem (wp)
open AutoSeq1 (wpAny_loadPart')
end L2
namespace L2
open PySem PySem.Spec PyProof.Rows
open Sem (wp)
end L2
namespace Mi
open PySem L2 PySem.Spec PyProof.Rows
section
variable{X:Cx}{G:Gx}{F:Fy}{a b tg e o:Expr}{pos apos cpos:Pos}{mo mi mx:M D}
noncomputable def zaJ(o:D):M Unit:=fun s=>match o with
 | .dct l ks vs=>if isT ks=true then .ok () (s.psh (.dct l ks vs)) else .no
 |_=> .no
noncomputable def zfb(o i x:D):M D:=match o with
 | .dct _ ks vs=>if isT ks=true then(match tkey i with
  |some k=>rt ((findK ks vs k).getD x)
  |none=>fl) else fl
 |_=>fl
noncomputable def z4f(mo mi mx:M D):M D:=bd mo fun o=>bd (zaJ o) fun _=>bd mi fun i=>bd (psh i) fun _=>bd mx fun x=>bd pop fun i'=>bd pop fun o'=>zfb o' i' x
theorem z9R{σ:L2.St}{H:Hp}{Q:VK}(h:tM G F (z4f mo mi mx) σ H Q):zal (tM G F mo) (tM G F mi) (tM G F mx) σ H (fun v H'=>KD G.K H'->Q v H'):=by
 obtain⟨tv,hs,ρ,s,M,W⟩:=h
 refine⟨tv,hs,ρ,s,M, ?_⟩
 unfold z4f at W
 erw[bd] at W
 cases e0:mo s with
 |ex d s1=>erw[e0] at W;exact W
 |no=>erw[e0] at W;exact W
 |ok o s1=>
  erw[e0] at W
  intro ρ1 v H1 M1
  cases o with
  |dct l ks vs=>
   by_cases hT:isT ks=true
   ·erw[zaJ,if_pos hT] at W
    have h1:=M1.rd1
    obtain⟨rfl,kvs,hx,rfl,r⟩:=h1.dctq hT
    refine⟨ρ1 l,rfl, .inr ⟨kvs, .inl hx⟩, ?_⟩
    refine⟨some (.ref (ρ1 l))::tv,z4H hs,ρ1,_,M1.push, ?_⟩
    cases e2:mi (s1.psh (.dct l (kvs.map fun p=>dkD p.1) vs)) with
    |ex d s3=>erw[e2] at W;exact W
    |no=>erw[e2] at W;exact W
    |ok i s2=>
     erw[e2,psh] at W
     intro ρ2 y H2 M2
     refine⟨some y::some (.ref (ρ1 l))::tv,z4H (z4H hs),ρ2,s2.psh i,M2.push, ?_⟩
     cases e3:mx (s2.psh i) with
     |ex d s4=>erw[e3] at W;exact W
     |no=>erw[e3] at W;exact W
     |ok x s3=>
      erw[e3,pop] at W
      intro ρ3 z H3 M3
      cases e4:s3.tm with
      |nil=>erw[e4] at W;exact False.elim W
      |cons o3 r3=>
       cases o3 with
       |none=>erw[e4] at W;exact False.elim W
       |some x3=>
        erw[e4] at W
        cases r3 with
        |nil=>exact False.elim W
        |cons o4 r4=>
         cases o4 with
         |none=>exact False.elim W
         |some x4=>
          have M4:=M3.down e4
          have M5:=M4.down (s':={s3 with tm:=some x4::r4}) rfl
          have h:=M5.rd
          erw[RDs] at h
          obtain⟨_,_,e,g1,_,_,e2,g2,_,_,e3,g3,_⟩:=h
          cases e;cases e2;cases e3
          have b1:LB F.toFx ρ3 s3.n (y4 x4):=fun l h=>M5.lb l (by erw[labsL];exact b8 _ h)
          have b3:LB F.toFx ρ3 s3.n (y4 x):=fun l h=>M5.lb l (by erw[labsL,c9];exact b6 _ (b6 _ h))
          cases x4 with
          |dct l' ks' vs'=>
           by_cases hT':isT ks'=true
           ·cases ek:tkey x3 with
            |none=>erw[zfb,if_pos hT',ek] at W;exact False.elim W
            |some k=>
             erw[zfb,if_pos hT',ek] at W
             obtain⟨el,kvs',hx',rfl,r'⟩:=g1.dctq hT'
             injection el with el
             obtain⟨b,rfl,hb,_⟩:=z2g g2 ek
             refine⟨valV kvs' k, .inr ⟨kvs',k,b, .inl (by rw[el];exact hx'),rfl,hb,rfl⟩,fun _=> ?_⟩
             cases ef:findK (kvs'.map fun p=>dkD p.1) vs' k with
             |none=>
              rw[ef] at W
              rw[V7 kvs' vs' r' ef]
              exact wM.out (s:={s3 with tm:=r4}) W M5.m g3 b3
             |some d=>
              rw[ef] at W
              obtain⟨w,hv,hd,hm⟩:=V6 kvs' vs' d r' ef
              rw[hv]
              exact wM.out (s:={s3 with tm:=r4}) W M5.m hd fun j hj=>b1 j (by erw[y4];exact b7 _ (b6 _ (labsL_mem hm j hj)))
           ·erw[zfb,if_neg hT'] at W;exact False.elim W
          |_=>exact False.elim W
   ·erw[zaJ,if_neg hT] at W;exact False.elim W
  |_=>exact False.elim W
theorem se_getT(hk:X.K=G.K)(hu:X.A.units+64<cLine)(ho:SE X G F o mo)(ha:SE X G F a mi)(hb:SE X G F b mx)(m:M2 X o "get" apos a b cpos):SE X G F (.Call (.Attribute o "get" apos) [a,b] [] cpos) (z4f mo mi mx):=
 PE.imp hk (z97 (show X.A.units+2<cLine by lia) ho ha hb m) fun _ _ _ h=>z9R h
noncomputable def zaK:List D->M D
 |[.lst l ds]=>fun s=>if(plainL ds&&z4e (erL ds)&&(labsL ds).isEmpty)=true then .ok (.lst s.n (U3 ds)) s.nxt else .no
 |_=>fl
theorem zcb:G4 G F (zaI G.K) zaK:=by
 intro ρ s ts vs H σv tv Q M W
 unfold zaK at W
 split at W
 ·rename_i l ds
  split at W
  ·rename_i hc
   erw[i3,N8] at hc
   obtain⟨⟨c1,c2⟩,c3⟩:=hc
   obtain⟨v,rfl,h,_⟩:=M.one
   obtain⟨p,xs,rfl,s1,r1,_⟩:=id (h.lstq (ds:=ds) rfl)
   refine⟨p,xs,erL ds,rfl,s1,RDs.dp _ _ r1 c1,c2,fun l hl k=> ?_⟩
   have e:=RDs.len2 r1
   rw[<-e] at k⊢
   exact z0x W M.m (RDs.perm r1 _ So.perm_lt) (fun j hj=>by unfold U3 at hj;rw[z4d c3] at hj;cases hj) hl k
  ·exact False.elim W
 ·exact wfl W
theorem z7Z(hk:X.K=G.K)(hu:X.A.units+64<cLine):Cb X G F (.builtin "sorted") zaK:=⟨_,hk▸z7Y hu,zcb⟩
end
end Mi
namespace L2
open PySem PySem.Spec PyProof.Rows
section
variable{X:Cx}
noncomputable def NF(X:Cx)(a:Addr):Prop:= ∀o u,X.H₀ a≠some (.frz o u)
theorem NF.of{pins:List (Addr×Obj)}{σ:St}{H:Hp}{s:Shared}{a:Addr}{kvs:List (NK×V)}(I:Inv X pins σ H s)(h:H a=some (.dT kvs)):NF X a:=fun o u e=>by
 have:=I.base.frzs a o u e
 rw[h] at this;cases this
theorem Inv.thaw{pins:List (Addr×Obj)}{σ:St}{H:Hp}{s:Shared}{a:Addr}{o:Obj}{kvs:List (NK×V)}(I:Inv X pins σ H s)(n:NF X a)(h:H a=some (.frz o (.dT kvs))):Inv X pins σ (upd H a (.dT kvs)) s:=by
 have na: ∀{b},H b=none->b≠a:=fun q z=>by rw[z,h] at q;cases q
 have ne: ∀{b u},H b=some u->u≠ .frz o (.dT kvs)->b≠a:=fun q w z=>by rw[z,h] at q;cases q;exact w rfl
 have none': ∀{b},H b=none->(upd H a (.dT kvs)) b=none:=fun q=>by rw[y6 (na q)];exact q
 refine⟨I.ok,I.os,I.bare,⟨I.base.keep,I.base.slot,fun b o' e q hx=>none' (I.base.free b o' e q hx),I.base.there,fun b xs e=> ?_,fun b o' u e=> ?_,fun b ps e=> ?_⟩,I.loc,I.cell,none' I.free,fun x c e=>none' (I.freeC x c e),fun p hp=> ?_, ?_,I.len⟩
 ·have q:=I.base.tups b xs e
  rw[y6 (ne q (by intro z;cases z))];exact q
 ·have q:=I.base.frzs b o' u e
  have hb:b≠a:=fun z=>by subst z;exact n _ _ e
  rw[y6 hb];exact q
 ·obtain⟨m,q⟩:=I.base.tbls b ps e
  exact⟨m,by rw[y6 (ne q (by intro z;cases z))];exact q⟩
 ·obtain⟨e,q,r⟩:=I.pin p hp
  exact⟨e,none' q,r⟩
 ·intro b u e
  by_cases hb:b=a
  ·subst hb
   rw[y8] at e
   cases e
   have q:=(I.hok b _ h).2
   exact g0.stay q (fun _ _ _ z=>z) (fun c z=>by rw[y6 (ne z (by intro z;cases z))];exact z) fun c xs z=>by rw[y6 (ne z (by intro z;cases z))];exact z
  ·rw[y6 hb] at e
   exact(I.hok b u e).stay (fun _ _ _ z=>z) (fun c z=>by rw[y6 (ne z (by intro z;cases z))];exact z) fun c xs z=>by rw[y6 (ne z (by intro z;cases z))];exact z
theorem PE.thaw{e:Expr}{t:TE}(h:PE X e t):PE X e (fun σ H Q=>t σ H fun v H'=> ∃a o kvs,NF X a/\H' a=some (.frz o (.dT kvs))/\Q v (upd H' a (.dT kvs))):=fun pins s σ H Q I q=>
 thn (h pins s σ H _ I q) fun u s' ⟨v,H',I',r,a,o,kvs,n,e1,k⟩=>⟨v,_,I'.thaw n e1,r,k⟩
noncomputable def zhj(N:Addr->Prop)(K:W.Frag)(td:TE):TI:=fun σ H R=>td σ H fun x H1=> ∃a kvs,x= .ref a/\H1 a=some (.dT kvs)/\∀o,N a->R (zgm K a o kvs) (upd H1 a (.frz o (.dT kvs)))
theorem zcc{l:Expr}{tl:TE}{elts:List Expr}{x1:Nat}{tpos apos cpos:Pos}(hl:PE X l tl)(hbase:attributeBase l "items" X.env (eval l X.env)=eval l X.env:=by rfl)
 (hfew:((backTo cpos (starEach [] X.env)).all (fun x=> !x.1)&&(backToKw cpos (keywordEach [] X.env)).all (fun x=>x.1.isSome)&&decide (([]:List Expr).length+([]:List Keyword).length+(if([]:List Keyword).isEmpty then 0 else 1)<30))=true:=by rfl)
 (hline:(apos.endLine==cpos.line)=true:=by rfl):PI X (.Tuple elts x1 tpos) (.Call (.Attribute l "items" apos) [] [] cpos) (zhj (NF X) X.K tl):=by
 intro pins s σ H R I h
 refine wpAny_Call_method hbase hfew hline PySem.F.plainAttrs_dict PySem.F.slot_dict_items PySem.F.type_dict_items (thn (hl pins s σ H _ I h) fun u s1 ⟨x,H1,I1,rx,a,kvs,ex,ha,q⟩=> ?_)
 subst ex
 obtain rfl:u=Value.ref a:=rx
 obtain⟨t1,t2,_⟩:=z7e I1 (.inr ⟨kvs, .inl ha⟩)
 refine⟨t1,t2,PyProof.Rows.callWith_method0 ?_⟩
 obtain⟨o,es,ep,ho,hc,hd,hy,hsz,I2⟩:=I1.freeze ha
 refine z7S hy t1 fun h1 hv k1=> ?_
 refine z7T hv (k1 _ _ ho) hd fun h2 f2 k2=> ?_
 have I3:Inv X pins σ (upd H1 a (.frz o (.dT kvs))) {s1 with heap:=h1}:=I2.kept (t':=s1.toks) k1
 have I4:Inv X pins σ (upd H1 a (.frz o (.dT kvs))) {s1 with heap:=h2}:=I3.kept (t':=s1.toks) k2
 refine⟨h1.objs.size,[h1.objs.size],_,zgm X.K a o kvs,_,rfl,I4,z7W a _ o es ep hd kvs,⟨_,_,f2⟩,fun b hb=> ?_,q o (NF.of I1 ha)⟩
 have e:b=h1.objs.size:=by simpa using hb
 subst e
 exact I3.fpOk (e8 _) I3.fresh
noncomputable def zhk(N:Addr->Prop)(td:TE):TI:=fun σ H R=>td σ H fun x H1=> ∃a kvs,x= .ref a/\H1 a=some (.dT kvs)/\∀o,N a->R (ItD a o kvs) (upd H1 a (.frz o (.dT kvs)))
theorem zcd{l tg:Expr}{tl:TE}(hl:PE X l tl):PI X tg l (zhk (NF X) tl):=by
 intro pins s σ H R I h
 refine thn (hl pins s σ H _ I h) fun v s1 ⟨x,H1,I1,r1,a,kvs,e,ha,q⟩=> ?_
 subst e
 cases r1
 obtain⟨o,es,ep,ho,hc,hd,hy,hsz,I2⟩:=I1.freeze ha
 refine z23 hy ho hc hd ?_
 have I3:Inv X pins σ (upd H1 a (.frz o (.dT kvs))) {s1 with heap:=s1.heap.push {cls:= .type "dict_keyiterator",data:= .fields #[.ref a, .int 0 0, .int es.size 0, .int ep 0]}}:=
  I2.kept (t':=s1.toks) fun b u q=>Heap.get?_push_of_some _ q
 refine⟨s1.heap.objs.size,[s1.heap.objs.size],_,ItD a o kvs,_,rfl,I3,z7m a _ o es ep hd kvs,⟨_,Heap.get?_push_size _ rfl,rfl,rfl⟩,fun b hb=> ?_,q o (NF.of I1 ha)⟩
 have e:b=s1.heap.objs.size:=by simpa using hb
 subst e
 exact I2.fpOk (e8 _) I2.fresh
noncomputable def z5N(H:Hp)(kvs:List (NK×V))(vs:List V)(ps:List Addr):Prop:=ps.length=kvs.length/\∀(j:Nat) b q v,ps[j]? =some b->kvs[j]? =some q->vs[j]? =some v->∃xs,Paired (TKi H) q.1 xs/\H b=some (.tup (xs++[v]))
theorem z0j{α β:Type}{F:α->β->Prop}: ∀{l:List α} {r:List β},Paired F l r->l.length=r.length
 |_,_, .nil=>rfl
 |_,_, .cons _ h=>by rw[i5,i5,z0j h]
theorem TKi.same{H H':Hp}(h:V2 H H'){k:NK}{xs:List V}(p:Paired (TKi H) k xs):Paired (TKi H') k xs:=Paired.mapP p fun z x q=>by
 cases z with
 |inl k=>exact q
 |inr ks=>obtain⟨c,e1,e2⟩:=q;exact⟨c,e1,h _ _ e2⟩
noncomputable def zhl(D:Addr)(H H':Hp):Prop:= ∀b o,b≠D->H b=some o->H' b=some o
end
theorem TKi.tups{H H':Hp}(h: ∀b xs,H b=some (.tup xs)->H' b=some (.tup xs)){k:NK}{xs:List V}(p:Paired (TKi H) k xs):Paired (TKi H') k xs:=Paired.mapP p fun z x q=>by
 cases z with
 |inl k=>exact q
 |inr ks=>obtain⟨c,e1,e2⟩:=q;exact⟨c,e1,h _ _ e2⟩
noncomputable def RwW(D:Addr)(Hf:Hp)(kvs:List (NK×V))(vs:List V)(sh:St->Prop)(i m:Nat)(ys:List V)(σ':St)(H':Hp):Prop:=
 ∃ps:List Addr,ys=ps.map V.ref/\ps.length=i/\i+m=kvs.length/\sh σ'/\zhl D Hf H'/\H' D=some (.lst ys)/\∀(j:Nat) b q v,ps[j]? =some b->kvs[j]? =some q->vs[j]? =some v->∃xs,Paired (TKi H') q.1 xs/\H' b=some (.tup (xs++[v]))
theorem RwW.next{D:Addr}{Hf:Hp}{kvs:List (NK×V)}{vs:List V}{sh:St->Prop}{i m:Nat}{ys:List V}{σ' σ2:St}{H' H4:Hp}{k:NK}{v w:V}{p:Addr}{xs:List V}(h:RwW D Hf kvs vs sh i m ys σ' H')(hi:i<kvs.length)(hk:kvs[i]? =some (k,v))(hw:vs[i]? =some w)(hx:Paired (TKi H4) k xs)(e:H4 p=some (.tup (xs++[w])))(sm:V2 H' H4)(s2:sh σ2):
 H4 D=some (.lst ys)/\ys.length=i/\∃m',m'<m/\RwW D Hf kvs vs sh (i+1) m' (ys++[.ref p]) σ2 (upd H4 D (.lst (ys++[.ref p]))):=by
 obtain⟨ps,e1,e2,e3,s1,sx,hD,rw'⟩:=h
 have hD4:=sm _ _ hD
 have tn: ∀b xs,H4 b=some (.tup xs)->(upd H4 D (.lst (ys++[.ref p]))) b=some (.tup xs):=fun b xs q=>by
  rw[y6 (z1e q hD4 (by intro z;cases z))];exact q
 refine⟨hD4,by rw[e1,i9,e2],m - 1,by lia,ps++[p],by rw[e1];simp,by simp[e2],by lia,s2,fun b o hb q=> ?_,y8,fun j b q u h1 h2 h3=> ?_⟩
 ·rw[y6 hb];exact sm _ _ (sx b o hb q)
 ·by_cases hj:j<ps.length
  ·rw[List.getElem?_append_left hj] at h1
   obtain⟨zs,z1,z2⟩:=rw' j b q u h1 h2 h3
   exact⟨zs,TKi.tups (fun c zs q=>tn _ _ (sm _ _ q)) z1,tn _ _ (sm _ _ z2)⟩
  ·have hj':j=i:=by
    have:=(List.getElem?_eq_some_iff.mp h1).1
    erw[l5,i5,r8] at this
    lia
   subst hj'
   rw[<-e2] at h1
   erw[List.getElem?_append_right (e8 _),P7,List.getElem?_cons_zero,Option.some.injEq] at h1
   subst h1
   rw[hk] at h2;cases h2
   rw[hw] at h3;cases h3
   exact⟨xs,TKi.tups tn hx,tn _ _ e⟩
theorem RwW.fin{D a:Addr}{o:Obj}{H1:Hp}{kvs:List (NK×V)}{vs:List V}{sh:St->Prop}{i m:Nat}{ys:List V}{σ':St}{H':Hp}(ha:H1 a=some (.dT kvs))(hD:upd H1 a (.frz o (.dT kvs)) D=none)(h:RwW D (upd H1 a (.frz o (.dT kvs))) kvs vs sh i m ys σ' H')(hi:kvs.length<=i):
 H1 D=none/\H' a=some (.frz o (.dT kvs))/\∃ps:List Addr,(upd H' a (.dT kvs)) D=some (.lst (ps.map V.ref))/\V2 H1 (upd H' a (.dT kvs))/\z5N (upd H' a (.dT kvs)) kvs vs ps:=by
 obtain⟨ps,e1,e2,e3,s1,sx,hD',rw'⟩:=h
 have na:D≠a:=fun z=>by rw[z,y8] at hD;cases hD
 have hf:H' a=some (.frz o (.dT kvs)):=sx a _ na.symm y8
 have tn: ∀b xs,H' b=some (.tup xs)->(upd H' a (.dT kvs)) b=some (.tup xs):=fun b xs q=>by
  rw[y6 (z1e q hf (by intro z;cases z))];exact q
 refine⟨by rw[y6 na] at hD;exact hD,hf,ps,by rw[y6 na,hD',e1],fun b u q=> ?_,by lia,fun j b q v h1 h2 h3=> ?_⟩
 ·by_cases hb:b=a
  ·subst hb;rw[ha] at q;cases q;exact y8
  ·rw[y6 hb]
   refine sx b u (fun z=> ?_) (by rw[y6 hb];exact q)
   rw[z] at q hb
   rw[y6 hb,q] at hD;cases hD
 ·obtain⟨zs,z1,z2⟩:=rw' j b q v h1 h2 h3
  exact⟨zs,TKi.tups tn z1,tn _ _ z2⟩
section
variable{X:Cx}{iter:Expr}{td:TE}{pos:Pos}{scope:Scope}{own frees:List Str}{ix:List Nat}
noncomputable def zfc(K:W.Frag)(g:TG)(tt:TT)(te:TE)(k:Nat)(ix:List Nat)(σ:St)(Q:VK):It->Hp->Prop:=fun J H1=> ∀D,H1 D=none->(∀a o,K.lookup a=some o->upd H1 D (.lst []) a=none)->
 ∃W:Nat->Nat->List V->St->Hp->Prop,(∃m,W 0 m [] (z01 k ix σ) (upd H1 D (.lst [])))/\
  ∀i m ys σ' H',W i m ys σ' H'->H' D=some (.lst ys)/\((J.stop i H'/\Q (.ref D) H')\/
   (J.go i H'/\∀x H2,J.yld i H' x H2->g x σ' H2 fun σ2 H3=>tt σ2 H3 fun ok H3=>if ok=true then te σ2 H3 fun y H4=>H4 D=some (.lst ys)/\ys.length<sizeLine/\∃m',m'<m/\W (i+1) m' (ys++[y]) σ2 (upd H4 D (.lst (ys++[y])))
    else ∃m',m'<m/\W (i+1) m' ys σ2 H3))
noncomputable def zfd(vs:List (NK×V)->List V)(Q:VK)(x:V)(H1:Hp):Prop:= ∃a kvs,x= .ref a/\H1 a=some (.dT kvs)/\(∀q∈kvs,q.1.length<1000)/\kvs.length<sizeLine/\(vs kvs).length=kvs.length/\
 ∀D H2 ps,H1 D=none->H2 D=some (.lst (ps.map V.ref))->V2 H1 H2->z5N H2 kvs (vs kvs) ps->Q (.ref D) H2
noncomputable def Thd(N:Addr->Prop)(Q:VK):VK:=fun v H'=> ∃a o kvs,N a/\H' a=some (.frz o (.dT kvs))/\Q v (upd H' a (.dT kvs))
theorem zaL{D:Addr}{Hf:Hp}{kvs:List (NK×V)}{vs:List V}{sh:St->Prop}{σ':St}(hD:Hf D=none)(h:sh σ'):RwW D Hf kvs vs sh 0 kvs.length [] σ' (upd Hf D (.lst [])):=
 ⟨[],rfl,rfl,by lia,h,fun b o hb q=>by rw[y6 hb];exact q,y8,fun j b q v h1=>by simp at h1⟩
noncomputable def z9S(K:W.Frag):TE:=tOp (z7o K) (z6R 0) (zgH (zbn (z6R 1) zdH))
theorem z80{N:Addr->Prop}{K:W.Frag}{σ:St}{H1:Hp}{Q:VK}{x:V}(h:zfd (fun kvs=>kvs.map (·.2)) Q x H1):
 ∃a kvs,x= .ref a/\H1 a=some (.dT kvs)/\∀o,N a->zfc K (zgg K 2 (z4y (z0o 0) (z4y (z0o 1) zgf))) (fun _ H Q=>Q true H) (z9S K) 2 [] σ (Thd N Q) (zgm K a o kvs) (upd H1 a (.frz o (.dT kvs))):=by
 obtain⟨a,kvs,rfl,ha,hk,hz,hl,q⟩:=h
 refine⟨a,kvs,rfl,ha,fun o n D hD kd=>⟨RwW D (upd H1 a (.frz o (.dT kvs))) kvs (kvs.map (·.2)) (fun σ=>σ.length=2),⟨_,zaL hD rfl⟩,fun i m ys σ' H' w=> ?_⟩⟩
 have w0:=w
 obtain⟨ps,e1,e2,e3,s1,sx,hD',rw'⟩:=w
 have na:D≠a:=fun z=>by rw[z,y8] at hD;cases hD
 have hf:H' a=some (.frz o (.dT kvs)):=sx a _ na.symm y8
 refine⟨hD', ?_⟩
 by_cases hi:i<kvs.length
 ·refine .inr ⟨⟨hi,hf⟩, ?_⟩
  rintro x H2 ⟨p,b,k,v,hp,rfl,rfl,hk',hb,kd'⟩
  have m1:=V2.new (.tup [.ref b,v]) hp
  refine⟨p,[.ref b,v],rfl,SqT.of y8,rfl, .ref b,[v],rfl,v,[],rfl,rfl, ?_⟩
  show if true=true then _ else _
  rw[if_pos rfl]
  refine⟨.ref b,by simp[s1],v,by simp[s1], ?_⟩
  refine⟨by show 1<=sizeLine;decide,fun p2 hp2=> ?_⟩
  have m2:=V2.new (.tup [v]) hp2
  obtain⟨xs,t1,t2⟩:=hb
  have hxl:=z0j t2
  have hkl:k.length<1000:=hk _ (List.mem_of_getElem? hk')
  have zl:sizeLine=16777216:=rfl
  refine⟨b,p2,xs,[v],rfl,rfl,m2 _ _ (m1 _ _ t1),y8,by erw[i5,r8];lia,z7n.intro fun p3 H4 h4 m3=> ?_⟩
  have m4:V2 H' H4:=(m1.trans m2).trans m3
  obtain⟨g1,g2,g3⟩:=w0.next (σ2:=(σ'.set 0 (some (.ref b))).set 1 (some v)) hi hk' (w:=v) (by rw[List.getElem?_map,hk'];rfl) (TKi.same m4 t2) h4 m4 (by simpa using s1)
  exact⟨g1,by lia,g3⟩
 ·obtain⟨d1,d2,ps',d3,d4,d5⟩:=w0.fin ha hD (by lia)
  exact .inl ⟨⟨by lia,hf⟩,a,o,kvs,n,hf,q D _ ps' d1 d3 d4 d5⟩
noncomputable def z9T(K:W.Frag):TE:=tOp (z7o K) (z6R 0) (zgH (zbn (zdU (z6R 1) (z6R 0)) zdH))
theorem z81{N:Addr->Prop}{K:W.Frag}{σ:St}{H1:Hp}{Q:VK}{x:V}{ix:Nat}(h:zfd (fun kvs=>kvs.map fun q=>(valV kvs q.1).getD .non) Q x H1)(hσ:σ[ix]? =some (some x)):
 ∃a kvs,x= .ref a/\H1 a=some (.dT kvs)/\∀o,N a->zfc K (z0o 0) (fun _ H Q=>Q true H) (z9T K) 1 [ix] σ (Thd N Q) (ItD a o kvs) (upd H1 a (.frz o (.dT kvs))):=by
 obtain⟨a,kvs,rfl,ha,hk,hz,hl,q⟩:=h
 have valv: ∀(l:List (NK×V)) (k:NK) (v:V),(k,v)∈l->∃w,valV l k=some w:=fun l=>by
  induction l with
  |nil=>intro k v h;cases h
  |cons p l ih=>
   intro k v h
   by_cases hp:p.1=k
   ·exact⟨_,z0F hp⟩
   ·rw[z0g hp]
    rcases e7.mp h with e|h
    ·exact absurd (by rw[<-e]) hp
    ·exact ih k v h
 refine⟨a,kvs,rfl,ha,fun o n D hD kd=>⟨RwW D (upd H1 a (.frz o (.dT kvs))) kvs (kvs.map fun q=>(valV kvs q.1).getD .non) (fun σ:St=>σ.length=2/\σ[1]? =some (some (.ref a))),⟨_,zaL hD ⟨rfl,by simp[z01,hσ]⟩⟩,fun i m ys σ' H' w=> ?_⟩⟩
 have w0:=w
 obtain⟨ps,e1,e2,e3,⟨s1,s2⟩,sx,hD',rw'⟩:=w
 have na:D≠a:=fun z=>by rw[z,y8] at hD;cases hD
 have hf:H' a=some (.frz o (.dT kvs)):=sx a _ na.symm y8
 refine⟨hD', ?_⟩
 by_cases hi:i<kvs.length
 ·refine .inr ⟨⟨hi,hf⟩, ?_⟩
  rintro x H2 ⟨rfl,b,k,v,rfl,hk',hb⟩
  obtain⟨w,hw⟩:=valv kvs k v (List.mem_of_getElem? hk')
  unfold z0o
  dsimp only
  rw[if_pos rfl]
  have z0:(List.set σ' 0 (some (V.ref b)))[0]? =some (some (V.ref b)):=by simp[s1]
  have z1:(List.set σ' 0 (some (V.ref b)))[1]? =some (some (V.ref a)):=by simp[s2]
  refine⟨.ref b,z0, .ref a,z1, .ref b,z0,a,w,rfl, .inr ⟨kvs,k,b, .inr ⟨o,hf⟩,rfl,hb,hw.symm⟩, ?_⟩
  refine⟨by show 1<=sizeLine;decide,fun p2 hp2=> ?_⟩
  have m2:=V2.new (.tup [w]) hp2
  obtain⟨xs,t1,t2⟩:=hb
  have hxl:=z0j t2
  have hkl:k.length<1000:=hk _ (List.mem_of_getElem? hk')
  have zl:sizeLine=16777216:=rfl
  refine⟨b,p2,xs,[w],rfl,rfl,m2 _ _ t1,y8,by erw[i5,r8];lia,z7n.intro fun p3 H4 h4 m3=> ?_⟩
  have m4:V2 H2 H4:=m2.trans m3
  obtain⟨g1,g2,g3⟩:=w0.next (σ2:=σ'.set 0 (some (.ref b))) hi hk' (w:=w) (by rw[List.getElem?_map,hk'];simp[hw]) (TKi.same m4 t2) h4 m4 ⟨by simpa using s1,z1⟩
  exact⟨g1,by lia,g3⟩
 ·obtain⟨d1,d2,ps',d3,d4,d5⟩:=w0.fin ha hD (by lia)
  exact .inl ⟨⟨by lia,hf⟩,a,o,kvs,n,hf,q D _ ps' d1 d3 d4 d5⟩
end
section
variable{X:Cx}
theorem zce{prog:Program}{w:World}{A:Around}{E:Value->Shared->Prop}{s:Shared}{d:Addr}{o:Obj}{es:Array DictEntry}{ep:Nat}{Q:Value->Shared->Prop}(hd:(d==sysModules)=false)(ho:s.heap.get? d=some o)(hc:o.ExactDict)(hdat:o.data= .dict es ep)(hfit:(es.size:Int)<2^63)
 (h:Q (.int es.size (s.toks+1)) {s with toks:=s.toks+1+1}):wpAny (model prog w) A (call (.builtin "len") [.ref d]) Q E s:=by
 have ht:s.TypeIs (.ref d) "dict" :=⟨o,ho,hc.1⟩
 refine Calls.call_function_entry kind_len plain_len entry_len (args_len1 _) ?_
 unfold Builtin.«len»
 refine wpAny_bind (m:=oneArg "len" _) (wpAny_pure ?_)
 refine wpAny_bind (m:=callSpecial? (.ref d) (Str.ofString "__len__")) (wpAny_callSpecial?_slot (name:=Str.ofString "__len__") ht F.slot_dict_len
  (wpAny_call_entry F.slot_dict_len ht F.entry_dict_len ?_ (F.args_dict_len_1 _)))
 show wpAny _ _ (dictSize d>>=_) _ _ s
 unfold dictSize
 refine wpAny_bind (wpAny_bind (wpAny_dictEntries ho hdat (wpAny_pure ?_)))
 show wpAny _ _ (Builtin.Dict.pendingCount d>>=_) _ _ s
 refine wpAny_bind (wpAny_pendingCount_other hd ?_)
 refine wpAny_ret_mkInt ?_
 have e0:((es.size:Int)+((0:Nat):Int))=es.size:=by simp
 rw[e0]
 show wpAny _ _ _ _ _ {s with toks:=s.toks+1}
 refine wpAny_bind (wpAny_holding (wpAny_pure ?_))
 refine wpAny_bind (wpAny_letGo ?_)
 show wpAny _ _ (if((es.size:Nat):Int)<0 then _ else _) _ _ _
 rw[if_neg (by lia)]
 show wpAny _ _ (if((es.size:Nat):Int)≥2^63 then _ else _) _ _ _
 rw[if_neg (by lia)]
 exact wpAny_bind (wpAny_mkInt (wpAny_pure ⟨_,rfl,h⟩))
noncomputable def zfe:List V->Hp->VK->Prop:=fun xs H Q=> ∃p kvs,xs=[.ref p]/\H p=some (.dT kvs)/\Q (.int kvs.length) H
theorem z82:CallR X (.builtin "len") zfe:=by
 intro pins s σ H xs us Q I r h
 obtain⟨p,kvs,rfl,hx,q⟩:=h
 obtain⟨u,rfl,rx⟩:=z4z r
 cases rx
 obtain⟨z,y,zs,rel,o,es,ep,e,c,d,l,nd⟩:=I.hok p _ hx
 have hs:es.size=zs.length:=size_of_entries l
 have hl:kvs.length=zs.length:=z0j rel
 have hz:sizeLine=16777216:=sizeLine_eq
 refine zce y e c d (by lia) ⟨.int kvs.length,H,I.tok _,⟨s.toks+1,by rw[hs,hl]⟩,q⟩
end
end L2
namespace Mi
open PySem L2 PySem.Spec PyProof.Rows
section
variable{X:Cx}{G:Gx}{F:Fy}{a b e o iter:Expr}{pos apos cpos:Pos}{mo mi:M D}
noncomputable def zaM:List D->M D
 |[.dct _ ks _]=>if isT ks=true then rt (.int ks.length) else fl
 |_=>fl
theorem zcf:G4 G F zfe zaM:=by
 intro ρ s ts vs H σv tv Q M W
 unfold zaM at W
 split at W
 ·split at W
  ·rename_i hT
   obtain⟨v,rfl,h,_⟩:=M.one
   obtain⟨rfl,kvs,hx,rfl,r⟩:=h.dctq hT
   exact⟨_,kvs,rfl,hx,fun _=>by rw[i9] at W;exact W.flat M.m rfl⟩
  ·exact wfl W
 ·exact wfl W
theorem z4Y:Cb X G F (.builtin "len") zaM:=⟨_,z82,zcf⟩
noncomputable def z83(o i:D):M D:=match o with
 | .dct _ ks vs=>if isT ks=true then(match tkey i with
  |some k=>rt ((findK ks vs k).getD .non)
  |none=>fl) else fl
 |_=>fl
noncomputable def z4Z(mo mi:M D):M D:=bd mo fun o=>bd (zaJ o) fun _=>bd mi fun i=>bd pop fun o'=>z83 o' i
theorem z9U{σ:L2.St}{H:Hp}{Q:VK}(h:tM G F (z4Z mo mi) σ H Q):zak (tM G F mo) (tM G F mi) σ H (fun v H'=>KD G.K H'->Q v H'):=by
 obtain⟨tv,hs,ρ,s,M,W⟩:=h
 refine⟨tv,hs,ρ,s,M, ?_⟩
 unfold z4Z at W
 erw[bd] at W
 cases e0:mo s with
 |ex d s1=>erw[e0] at W;exact W
 |no=>erw[e0] at W;exact W
 |ok o s1=>
  erw[e0] at W
  intro ρ1 v H1 M1
  cases o with
  |dct l ks vs=>
   by_cases hT:isT ks=true
   ·erw[zaJ,if_pos hT] at W
    have h1:=M1.rd1
    obtain⟨rfl,kvs,hx,rfl,r⟩:=h1.dctq hT
    refine⟨ρ1 l,rfl, .inr ⟨kvs, .inl hx⟩, ?_⟩
    refine⟨some (.ref (ρ1 l))::tv,z4H hs,ρ1,_,M1.push, ?_⟩
    cases e2:mi (s1.psh (.dct l (kvs.map fun p=>dkD p.1) vs)) with
    |ex d s3=>erw[e2] at W;exact W
    |no=>erw[e2] at W;exact W
    |ok i s2=>
     erw[e2,pop] at W
     intro ρ3 z H3 M3
     cases e4:s2.tm with
     |nil=>erw[e4] at W;exact False.elim W
     |cons o3 r3=>
      cases o3 with
      |none=>erw[e4] at W;exact False.elim W
      |some x4=>
       erw[e4] at W
       have M5:=M3.down e4
       have h:=M5.rd
       erw[RDs] at h
       obtain⟨_,_,e,g1,_,_,e2,g2,_⟩:=h
       cases e;cases e2
       have b1:LB F.toFx ρ3 s2.n (y4 x4):=fun l h=>M5.lb l (by erw[labsL];exact b8 _ h)
       cases x4 with
       |dct l' ks' vs'=>
        by_cases hT':isT ks'=true
        ·cases ek:tkey i with
         |none=>erw[z83,if_pos hT',ek] at W;exact False.elim W
         |some k=>
          erw[z83,if_pos hT',ek] at W
          obtain⟨el,kvs',hx',rfl,r'⟩:=g1.dctq hT'
          injection el with el
          obtain⟨b,rfl,hb,_⟩:=z2g g2 ek
          refine⟨valV kvs' k, .inr ⟨kvs',k,b, .inl (by rw[el];exact hx'),rfl,hb,rfl⟩,fun _=> ?_⟩
          cases ef:findK (kvs'.map fun p=>dkD p.1) vs' k with
          |none=>
           rw[ef] at W
           rw[V7 kvs' vs' r' ef]
           exact wM.out (s:={s2 with tm:=r3}) W M5.m (by erw[RD,B0]) fun j hj=>by erw[B0,y4] at hj;cases hj
          |some d=>
           rw[ef] at W
           obtain⟨w,hv,hd,hm⟩:=V6 kvs' vs' d r' ef
           rw[hv]
           exact wM.out (s:={s2 with tm:=r3}) W M5.m hd fun j hj=>b1 j (by erw[y4];exact b7 _ (b6 _ (labsL_mem hm j hj)))
        ·erw[z83,if_neg hT'] at W;exact False.elim W
       |_=>exact False.elim W
   ·erw[zaJ,if_neg hT] at W;exact False.elim W
  |_=>exact False.elim W
theorem se_get1(hk:X.K=G.K)(hu:X.A.units+64<cLine)(ho:SE X G F o mo)(ha:SE X G F a mi)(m:M1 X o "get" apos a cpos):SE X G F (.Call (.Attribute o "get" apos) [a] [] cpos) (z4Z mo mi):=
 PE.imp hk (z96 (show X.A.units+2<cLine by lia) ho ha m) fun _ _ _ h=>z9U h
noncomputable def z8G:D->D->D
 | .tup xs,v=> .tup (xs++[v])
 |_,_=> .non
noncomputable def zdd:D->Bool
 | .tup xs=>decide (xs.length<1000)
 |_=>false
noncomputable def z2I(ks vs:List D):Bool:=isT ks&&(labsL vs).isEmpty&&ks.all zdd&&decide (ks.length<sizeLine)
noncomputable def zcg(o:D):M D:=fun s=>match o with
 | .dct _ ks vs=>if z2I ks vs=true then .ok (.lst s.n (B4 z8G ks vs)) s.nxt else .no
 |_=> .no
noncomputable def fdK(ks vs:List D)(d:D):D:=((tkey d).bind (findK ks vs)).getD .non
noncomputable def zaN(o:D):M D:=fun s=>match o with
 | .dct _ ks vs=>if z2I ks vs=true then .ok (.lst s.n (ks.map fun d=>z8G d (fdK ks vs d))) s.nxt else .no
 |_=> .no
theorem z84{ρ:Nat->Addr}{H2:Hp}: ∀{ps:List Addr} {kvs:List (NK×V)} {ds:List D} {vs:List V},RDs G ρ H2 ds vs->z5N H2 kvs vs ps->vs.length=kvs.length->RDs G ρ H2 (B4 z8G (kvs.map fun p=>dkD p.1) ds) (ps.map V.ref)
 |[],[],ds,vs,_,_,_=>by simp[RDs]
 |[],k::kvs,_,_,_,h,_=>by have:=h.1;simp at this
 |p::ps,[],_,_,_,h,_=>by have:=h.1;simp at this
 |p::ps,k::kvs,ds,[],_,_,hv=>by simp at hv
 |p::ps,k::kvs,[],v::vs,r,_,_=>by erw[RDs] at r;cases r
 |p::ps,k::kvs,d::ds,v::vs,r,h,hv=>by
  erw[RDs] at r
  obtain⟨_,_,e1,r1,r2⟩:=r
  cases e1
  obtain⟨xs,p1,p2⟩:=h.2 0 p k v rfl rfl rfl
  have ih:=z84 (ps:=ps) (kvs:=kvs) (vs:=vs) r2 ⟨by have:=h.1;simpa using this,fun j b q v h1 h2 h3=>h.2 (j+1) b q v (by simpa using h1) (by simpa using h2) (by simpa using h3)⟩ (by simpa using hv)
  erw[b9,A8,RDs]
  refine⟨_,_,rfl, ?_,ih⟩
  show RD G ρ H2 (.tup (k.1.map nkD++[d])) (.ref p)
  erw[RD]
  exact⟨p,_,rfl,p2,(z7N p1).append (RDs.one r1)⟩
theorem z4g: ∀(kvs:List (NK×V)) (ds:List D),labsL ds=[]->labsL (B4 z8G (kvs.map fun p=>dkD p.1) ds)=[]
 |[],ds,_=>by simp[labsL]
 |k::kvs,[],_=>by simp[labsL]
 |k::kvs,d::ds,h=>by
  erw[labsL,D3] at h
  have e:=z4T k.1
  erw[dkD,y4] at e
  erw[b9,A8,labsL,z4g kvs ds h.2,c9]
  show y4 (.tup (k.1.map nkD++[d]))=[]
  erw[y4,Q2,e,labsL,h.1,c9]
theorem zch(ks vs:List D):B4 z8G ks (ks.map (fdK ks vs))=ks.map fun d=>z8G d (fdK ks vs d):=by
 rw[List.zipWith_map_right]
 generalize fdK ks vs=f
 induction ks with
 |nil=>rfl
 |cons k ks ih=>erw[A8,b9,ih]
theorem z5O{ρ:Nat->Addr}{H1 H2:Hp}{D:Addr}{s:Stt}{σv tv:List (Option V)}{Q:VK}{ps:List Addr}{kvs:List (NK×V)}{ds:List Mi.D}{vs:List V}(W:wM G F σv tv (.ok (.lst s.n (B4 z8G (kvs.map fun p=>dkD p.1) ds)) s.nxt) Q)(M:MR G F.toFx ρ H1 σv tv s)
 (r:RDs G ρ H1 ds vs) (hl:labsL ds=[]) (hD:H1 D=none) (h2:H2 D=some (.lst (ps.map V.ref))) (sm:V2 H1 H2) (rw':z5N H2 kvs vs ps) (hv:vs.length=kvs.length) (kd:KD G.K H2):Q (.ref D) H2:=by
 have e:H2=upd (fun b=>if b=D then none else H2 b) D (.lst (ps.map V.ref)):=by
  funext b
  by_cases hb:b=D
  ·rw[hb,y8,h2]
  ·rw[y6 hb,if_neg hb]
 have sm':V2 H1 (fun b=>if b=D then none else H2 b):=fun b o q=>by
  have hb:b≠D:=fun z=>by rw[z,hD] at q;cases q
  show(if b=D then none else H2 b)=some o
  rw[if_neg hb];exact sm b o q
 have tn: ∀b xs,H2 b=some (.tup xs)->(fun b=>if b=D then none else H2 b) b=some (.tup xs):=fun b xs q=>by
  have hb:b≠D:=z1e q h2 (by intro z;cases z)
  show(if b=D then none else H2 b)=some _
  rw[if_neg hb];exact q
 have kd':KD G.K (fun b=>if b=D then none else H2 b):=fun b o' q=>by
  by_cases hb:b=D
  ·show(if b=D then none else H2 b)=none
   rw[if_pos hb]
  ·show(if b=D then none else H2 b)=none
   rw[if_neg hb];exact kd b o' q
 have rr:RDs G ρ (fun b=>if b=D then none else H2 b) (B4 z8G (kvs.map fun p=>dkD p.1) ds) (ps.map V.ref):=z84 (r.same sm') ⟨rw'.1,fun j b q v h1 h2' h3=>by
  obtain⟨xs,z1,z2⟩:=rw'.2 j b q v h1 h2' h3
  exact⟨xs,TKi.tups tn z1,tn _ _ z2⟩⟩ hv
 rw[e] at kd⊢
 exact z0x W (M.same sm' kd') rr (fun j hj=>by rw[z4g kvs ds hl] at hj;cases hj) (by show(if D=D then none else H2 D)=none;rw[if_pos rfl]) kd
end
theorem zaO{G:Gx}{ρ:Nat->Addr}{H:Hp}{kvs:List (NK×V)}{vs:List D}(r:RDs G ρ H vs (kvs.map (·.2))): ∀l:List (NK×V),RDs G ρ H ((l.map fun p=>dkD p.1).map (fdK (kvs.map fun p=>dkD p.1) vs)) (l.map fun q=>(valV kvs q.1).getD .non)
 |[]=>by simp[RDs]
 |q::l=>by
  erw[b9,RDs]
  refine⟨_,_,rfl, ?_,zaO r l⟩
  unfold fdK
  rw[g9,L7]
  cases ef:findK (kvs.map fun p=>dkD p.1) vs q.1 with
  |none=>rw[V7 kvs vs r ef];erw[RD,B0]
  |some d=>
   obtain⟨w,hv,hd,_⟩:=V6 kvs vs d r ef
   rw[hv];exact hd
theorem z5P{ks vs:List D}(h:labsL vs=[]): ∀l:List D,labsL (l.map (fdK ks vs))=[]
 |[]=>rfl
 |d::l=>by
  erw[b9,labsL,z5P h l,c9]
  unfold fdK
  cases tkey d with
  |none=>rfl
  |some k=>
   have gen: ∀(ks vs:List D),labsL vs=[]->∀d,findK ks vs k=some d->y4 d=[]:=fun ks=>by
    induction ks with
    |nil=>intro vs _ d e;cases vs<;>simp[findK] at e
    |cons a ks ih=>
     intro vs hv d e
     cases vs with
     |nil=>simp[findK] at e
     |cons v vs=>
      erw[labsL,D3] at hv
      erw[findK] at e
      split at e
      ·cases e;exact hv.1
      ·exact ih vs hv.2 d e
   erw[L7]
   cases ef:findK ks vs k with
   |none=>rfl
   |some d=>exact gen ks vs h d ef
theorem z5Q{ks vs:List D}(h:z2I ks vs=true):isT ks=true/\labsL vs=[]/\(∀d∈ks,zdd d=true)/\ks.length<sizeLine:=by
 erw[z2I,i3,N8,t9,decide_eq_true_eq] at h
 exact⟨h.1.1.1,h.1.1.2,h.1.2,h.2⟩
theorem zaP{kvs:List (NK×V)}(h: ∀d∈kvs.map (fun p=>dkD p.1),zdd d=true): ∀q∈kvs,q.1.length<1000:=fun q hq=>by
 have:=h _ (m7.mpr ⟨q,hq,rfl⟩)
 simpa[dkD,zdd] using this
section
variable{X:Cx}{G:Gx}{F:Fy}{iter elt tg:Expr}{pos apos cpos:Pos}{m0:M D}{scope:Scope}{own frees:List Str}
theorem se_rowI{elts:List Expr}{x1:Nat}{tpos:Pos}(hk:X.K=G.K)(hc:X.calm=true)(S:j5 X.env.scope scope own [] X.N [])(hi:SE X G F iter m0)(ho:own.length=2)
 (hg: ∀cl C s₀ H₀ fp pn,PG (Q6 X scope own [] cl C s₀ H₀ fp pn) (.Tuple elts x1 tpos) (zgg X.K 2 (z4y (z0o 0) (z4y (z0o 1) zgf)))) (he: ∀cl C s₀ H₀ fp pn,PE (Q6 X scope own [] cl C s₀ H₀ fp pn) elt (z9S X.K))
 (hs: ∀x,foldedSetIterable (.Call (.Attribute iter "items" apos) [] [] cpos) X.env x=pure x:=by intro _;rfl) (hbase:attributeBase iter "items" X.env (eval iter X.env)=eval iter X.env:=by rfl)
 (hfew:((backTo cpos (starEach [] X.env)).all (fun x=> !x.1)&&(backToKw cpos (keywordEach [] X.env)).all (fun x=>x.1.isSome)&&decide (([]:List Expr).length+([]:List Keyword).length+(if([]:List Keyword).isEmpty then 0 else 1)<30))=true:=by rfl)
 (hline:(apos.endLine==cpos.line)=true:=by rfl):SE X G F (.ListComp elt [⟨.Tuple elts x1 tpos, .Call (.Attribute iter "items" apos) [] [] cpos,[],0⟩] scope pos) (bd m0 zcg):=by
 have base:=PE.thaw (z29 (pos:=pos) (te:=z9S X.K) hc S (zcc hi hbase hfew hline) hg (fun _ _ _ _ _ _=>z4I) he hs)
 rw[ho] at base
 refine PE.imp hk base fun σ H Q ⟨tv,hsf,ρ,s,M,W⟩=> ?_
 refine⟨tv,hsf,ρ,s,M, ?_⟩
 unfold bd at W
 cases e0:m0 s with
 |ex d s1=>rw[e0] at W;exact W
 |no=>rw[e0] at W;exact W
 |ok o s1=>
  rw[e0] at W
  intro ρ1 v H1 M1
  cases o with
  |dct l ks vs=>
   by_cases hr:z2I ks vs=true
   ·obtain⟨hT,hvs,hsm,hz⟩:=z5Q hr
    erw[zcg,if_pos hr] at W
    have h1:=M1.rd1
    obtain⟨rfl,kvs,hx,rfl,r⟩:=h1.dctq hT
    refine z80 (Q:=fun v H'=>KD G.K H'->Q v H') ⟨ρ1 l,kvs,rfl,hx,zaP hsm,by simpa using hz,by simp,fun D H2 ps hD h2 sm rw' kd=> ?_⟩
    exact z5O W M1.m r hvs hD h2 sm rw' (by simp) kd
   ·erw[zcg,if_neg hr] at W;exact False.elim W
  |_=>exact False.elim W
theorem se_rowK{i:Nat}{x:Str}{np:Pos}(hk:X.K=G.K)(hc:X.calm=true)(S:j5 X.env.scope scope own frees X.N [i])(hi:PE X (.Name x np) (z6R i))(ho:own.length=1)
 (hg: ∀cl C s₀ H₀ fp pn,PG (Q6 X scope own frees cl C s₀ H₀ fp pn) tg (z0o 0)) (he: ∀cl C s₀ H₀ fp pn,PE (Q6 X scope own frees cl C s₀ H₀ fp pn) elt (z9T X.K))
 (hs: ∀y,foldedSetIterable (.Name x np) X.env y=pure y:=by intro _;rfl):SE X G F (.ListComp elt [⟨tg, .Name x np,[],0⟩] scope pos) (bd (y3 i) zaN):=by
 have base:=PE.thaw (z29 (pos:=pos) (te:=z9T X.K) hc S (zcd hi) hg (fun _ _ _ _ _ _=>z4I) he hs)
 rw[ho] at base
 refine PE.imp hk base fun σ H Q ⟨tv,hsf,ρ,s,M,W⟩=> ?_
 unfold bd y3 at W
 cases e0:s.σ[i]? with
 |none=>rw[e0] at W;exact W.elim
 |some o=>
  cases o with
  |none=>rw[e0] at W;exact W.elim
  |some t=>
   rw[e0] at W
   obtain⟨v,h1,h2⟩:=M.sl.get i t e0
   refine⟨v,h1, ?_⟩
   cases t with
   |dct l ks vs=>
    by_cases hr:z2I ks vs=true
    ·obtain⟨hT,hvs,hsm,hz⟩:=z5Q hr
     erw[zaN,if_pos hr] at W
     obtain⟨rfl,kvs,hx,rfl,r⟩:=h2.dctq hT
     refine z81 (Q:=fun v H'=>KD G.K H'->Q v H') ⟨ρ l,kvs,rfl,hx,zaP hsm,by simpa using hz,by simp,fun D H2 ps hD h2 sm rw' kd=> ?_⟩ h1
     rw[<-zch] at W
     exact z5O W M (zaO r kvs) (z5P hvs _) hD h2 sm rw' (by simp) kd
    ·erw[zaN,if_neg hr] at W;exact False.elim W
   |_=>exact False.elim W
end
end Mi
namespace My
open PySem L2 PySem.Spec PyProof.Rows Mi
@[irreducible] noncomputable def SE(X:Cx)(G:Gx)(F:Fy)(e:Expr)(m:M D):Prop:=Mi.SE X G F e m
theorem eSE(X:Cx)(G:Gx)(F:Fy)(e:Expr)(m:M D):SE X G F e m=Mi.SE X G F e m:=by unfold SE;rfl
@[irreducible] noncomputable def SA(X:Cx)(G:Gx)(F:Fy)(e:List Expr)(m:M (List D)):Prop:=Mi.SA X G F e m
theorem eSA(X:Cx)(G:Gx)(F:Fy)(e:List Expr)(m:M (List D)):SA X G F e m=Mi.SA X G F e m:=by unfold SA;rfl
@[irreducible] noncomputable def SB(X:Cx)(G:Gx)(F:Fy)(e:Expr)(m:M Bool):Prop:=Mi.SB X G F e m
theorem eSB(X:Cx)(G:Gx)(F:Fy)(e:Expr)(m:M Bool):SB X G F e m=Mi.SB X G F e m:=by unfold SB;rfl
@[irreducible] noncomputable def SW(X:Cx)(G:Gx)(F:Fy)(e:Expr)(m:M Bool):Prop:=Mi.SW X G F e m
theorem eSW(X:Cx)(G:Gx)(F:Fy)(e:Expr)(m:M Bool):SW X G F e m=Mi.SW X G F e m:=by unfold SW;rfl
@[irreducible] noncomputable def SS(X:Cx)(G:Gx)(F:Fy)(e:Stmt)(m:MS):Prop:=Mi.SS X G F e m
theorem eSS(X:Cx)(G:Gx)(F:Fy)(e:Stmt)(m:MS):SS X G F e m=Mi.SS X G F e m:=by unfold SS;rfl
@[irreducible] noncomputable def SSs(X:Cx)(G:Gx)(F:Fy)(e:List Stmt)(m:MS):Prop:=Mi.SSs X G F e m
theorem zjd(X:Cx)(G:Gx)(F:Fy)(e:List Stmt)(m:MS):SSs X G F e m=Mi.SSs X G F e m:=by unfold SSs;rfl
@[irreducible] noncomputable def SG(X:Cx)(G:Gx)(F:Fy)(e:Expr)(m:Tg):Prop:=Mi.SG X G F e m
theorem eSG(X:Cx)(G:Gx)(F:Fy)(e:Expr)(m:Tg):SG X G F e m=Mi.SG X G F e m:=by unfold SG;rfl
@[irreducible] noncomputable def SGs(X:Cx)(G:Gx)(F:Fy)(e:List Expr)(m:List Tg):Prop:=Mi.SGs X G F e m
theorem zje(X:Cx)(G:Gx)(F:Fy)(e:List Expr)(m:List Tg):SGs X G F e m=Mi.SGs X G F e m:=by unfold SGs;rfl
@[irreducible] noncomputable def SI(X:Cx)(G:Gx)(F:Fy)(tg e:Expr)(m:M ItK):Prop:=Mi.SI X G F tg e m
theorem eSI(X:Cx)(G:Gx)(F:Fy)(tg e:Expr)(m:M ItK):SI X G F tg e m=Mi.SI X G F tg e m:=by unfold SI;rfl
@[irreducible] noncomputable def SO(X:Cx)(G:Gx)(F:Fy)(e:Option Expr)(m:Option (M D)):Prop:=Mi.SO X G F e m
theorem eSO(X:Cx)(G:Gx)(F:Fy)(e:Option Expr)(m:Option (M D)):SO X G F e m=Mi.SO X G F e m:=by unfold SO;rfl
@[irreducible] noncomputable def STs(X:Cx)(G:Gx)(F:Fy)(e:List Expr)(m:M Bool):Prop:=Mi.STs X G F e m
theorem zjf(X:Cx)(G:Gx)(F:Fy)(e:List Expr)(m:M Bool):STs X G F e m=Mi.STs X G F e m:=by unfold STs;rfl
local macro_rules | `(tactic| walk_at "go") => `(tactic| (simp only [eSE, eSA, eSB, eSW, eSS, zjd, eSG, zje, eSI, eSO, zjf] at *))
section
variable{X:Cx}{G:Gx}{F:Fy}{e a b c:Expr}{pos:Pos}
theorem se_var(i:Nat){x:Str}(hk:X.K=G.K)(h:PE X (.Name x pos) (z6R i)):SE X G F (.Name x pos) (y3 i):=by
 walk_at "go"
 exact Mi.se_var i hk h
theorem se_c{d:D}{v:V}(hk:X.K=G.K)(h:PE X e (tC v))(hd:cV d=some v:=by rfl):SE X G F e (mC d):=by
 walk_at "go"
 exact Mi.se_c hk h hd
theorem so_none:SO X G F none none:=by
 walk_at "go"
 exact Mi.so_none
theorem so_some{m:M D}(h:SE X G F e m):SO X G F (some e) (some m):=by
 walk_at "go"
 exact Mi.so_some h
theorem se_slice{lo hi:Option Expr}{p2:Pos}{m:M D}{ml mh:Option (M D)}(hk:X.K=G.K)(he:SE X G F e m)(hl:SO X G F lo ml)(hh:SO X G F hi mh):SE X G F (.Subscript e (.Slice lo hi none p2) pos) (mSl m ml mh):=by
 walk_at "go"
 exact Mi.se_slice hk he hl hh
theorem se_tup{es:List Expr}{ms:List (M D)}{x1}(hk:X.K=G.K)(h:SA X G F es (Z3 ms)):SE X G F (.Tuple es x1 pos) (mCB ms z0L):=by
 walk_at "go"
 exact Mi.se_tup hk h
theorem se_lst{es:List Expr}{ms:List (M D)}(hk:X.K=G.K)(h:SA X G F es (Z3 ms)):SE X G F (.List es pos) (mCB ms lstM):=by
 walk_at "go"
 exact Mi.se_lst hk h
theorem sb_truth{m:M D}(hk:X.K=G.K)(ha:SE X G F a m)(he: ∀whole,isTrue a X.env whole=(do let v<-whole;standAt a.pos;holding [v] (truthy v)):=by intro _;rfl):SB X G F a (j3 m):=by
 walk_at "go"
 exact Mi.sb_truth hk ha he
theorem SW.sb{m:M Bool}(h:SW X G F e m):SB X G F e m:=by
 walk_at "go"
 exact Mi.SW.sb h
theorem sw_and1{m:M Bool}(h:SB X G F a m):SW X G F (.BoolOp .And [a] pos) m:=by
 walk_at "go"
 exact Mi.sw_and1 h
theorem sw_or1{m:M Bool}(h:SB X G F a m):SW X G F (.BoolOp .Or [a] pos) m:=by
 walk_at "go"
 exact Mi.sw_or1 h
theorem sw_and{rest:List Expr}{m m':M Bool}(ha:SB X G F a m)(hb:SW X G F (.BoolOp .And (b::rest) pos) m'):SW X G F (.BoolOp .And (a::b::rest) pos) (zet m m'):=by
 walk_at "go"
 exact Mi.sw_and ha hb
theorem sw_or{rest:List Expr}{m m':M Bool}(ha:SB X G F a m)(hb:SW X G F (.BoolOp .Or (b::rest) pos) m'):SW X G F (.BoolOp .Or (a::b::rest) pos) (mOr m m'):=by
 walk_at "go"
 exact Mi.sw_or ha hb
theorem sb_not{m:M Bool}(ha:SB X G F a m):SB X G F (.UnaryOp .Not a pos) (z1d m):=by
 walk_at "go"
 exact Mi.sb_not ha
theorem se_one{op}{m:M D}(h:SE X G F a m):SE X G F (.BoolOp op [a] pos) m:=by
 walk_at "go"
 exact Mi.se_one h
theorem se_and{rest:List Expr}{m m':M D}(ha:SE X G F a m)(hb:SE X G F (.BoolOp .And (b::rest) pos) m'):SE X G F (.BoolOp .And (a::b::rest) pos) (z41 m m'):=by
 walk_at "go"
 exact Mi.se_and ha hb
theorem se_or{rest:List Expr}{m m':M D}(ha:SE X G F a m)(hb:SE X G F (.BoolOp .Or (b::rest) pos) m'):SE X G F (.BoolOp .Or (a::b::rest) pos) (zeu m m'):=by
 walk_at "go"
 exact Mi.se_or ha hb
theorem se_not{m:M D}(ha:SE X G F a m):SE X G F (.UnaryOp .Not a pos) (z6k m):=by
 walk_at "go"
 exact Mi.se_not ha
theorem se_isi{p:Pos}{x y:Expr}{T:String}{m:M D}(hk:X.K=G.K)(hT:T= "int" \/T= "bool" \/T= "tuple" \/T= "list" \/T= "str")(hgl:Gl X "isinstance")(hm:X.mg "isinstance" =none)(ha:SE X G F x m)(hy:PE X y (tC (.ty T)))
 (he:starEach [x,y] X.env=(false,eval x X.env)::starEach [y] X.env:=by rfl) (he2:starEach [y] X.env=(false,eval y X.env)::starEach [] X.env:=by rfl) (hpl:(backTo pos (starEach [y] X.env)).any (·.1)=false:=by rfl):SE X G F (.Call (.Name "isinstance" p) [x,y] [] pos) (z3G T m):=by
 walk_at "go"
 exact Mi.se_isi hk hT hgl hm ha hy he he2 hpl
end
section
variable{X:Cx}{G:Gx}{F:Fy}{e a b c:Expr}{st:Stmt}{sts rest:List Stmt}{pos:Pos}
theorem ss_nil:SSs X G F [] sNx:=by
 walk_at "go"
 exact Mi.ss_nil
theorem ss_cons{m m':MS}(h1:SS X G F st m)(h2:SSs X G F rest m'):SSs X G F (st::rest) (W3 m m'):=by
 walk_at "go"
 exact Mi.ss_cons h1 h2
theorem ss_one{m:MS}(h1:SS X G F st m):SSs X G F [st] m:=by
 walk_at "go"
 exact Mi.ss_one h1
theorem ss_expr{m:M D}(he:SE X G F e m)(hs:swapsWith e none pos.line X.env=pure false:=by rfl):SS X G F (.Expr e pos) (z2H m):=by
 walk_at "go"
 exact Mi.ss_expr he hs
theorem ss_ret{m:M D}(he:SE X G F e m):SS X G F (.Return (some e) pos) (u0 m):=by
 walk_at "go"
 exact Mi.ss_ret he
theorem ss_if{x y:List Stmt}{mc:M Bool}{m m':MS}(hc:SB X G F c mc)(ha:SSs X G F x m)(hb:SSs X G F y m'):SS X G F (.If c x y pos) (sIf mc m m'):=by
 walk_at "go"
 exact Mi.ss_if hc ha hb
theorem sg_name{i:Nat}{x:Str}{p:Pos}(h:PG X (.Name x p) (z0o i)):SG X G F (.Name x p) (.nm i):=by
 walk_at "go"
 exact Mi.sg_name h
theorem sgs_nil:SGs X G F [] []:=by
 walk_at "go"
 exact Mi.sgs_nil
theorem sgs_cons{es:List Expr}{g:Tg}{gs:List Tg}(h1:SG X G F e g)(h2:SGs X G F es gs)(hs:(assignEach (e::es) X.env).map (·.2)=assign e X.env::(assignEach es X.env).map (·.2):=by rfl):SGs X G F (e::es) (g::gs):=by
 walk_at "go"
 exact Mi.sgs_cons h1 h2 hs
theorem sg_tup{es:List Expr}{k:Nat}{gs:List Tg}(hk:X.K=G.K)(hc:X.calm=true)(h:SGs X G F es gs)(hn:(assignEach es X.env).length=gs.length:=by rfl)(hst:(assignEach es X.env).findIdx? (·.1)=none:=by rfl):SG X G F (.Tuple es k pos) (.tp gs):=by
 walk_at "go"
 exact Mi.sg_tup hk hc h hn hst
theorem ss_asg{tg:Expr}{g:Tg}{m:M D}(he:SE X G F e m)(hg:SG X G F tg g)(hs:swapsWithSole [tg] e pos.line X.env=pure false:=by rfl)(hw:swappedStores [tg] e X.env=pure none:=by rfl)
 (h1:(assignEach [tg] X.env).map (·.2)=[assign tg X.env]:=by rfl):SS X G F (.Assign [tg] e pos) (G5 g m):=by
 walk_at "go"
 exact Mi.ss_asg he hg hs hw h1
theorem ss_set{i:Nat}{x:Str}{p:Pos}{m:M D}(h: ∀{te:TE},PE X e te->PS X (.Assign [.Name x p] e pos) (zgh te (z0o i)))(he:SE X G F e m):SS X G F (.Assign [.Name x p] e pos) (G5 (.nm i) m):=by
 walk_at "go"
 exact Mi.ss_set h he
end
section
variable{X:Cx}{G:Gx}{F:Fy}{e a b c tg iter:Expr}{pos:Pos}
theorem si_seq{m:M D}(hk:X.K=G.K)(h:SE X G F e m):SI X G F tg e (z03 m):=by
 walk_at "go"
 exact Mi.si_seq hk h
theorem si_rng1{p:Pos}{ms:List (M D)}(hg:Gl X "range")(hm:X.mg "range" =none)(ha:SA X G F [a] (Z3 ms))(hs:starEach [a] X.env=[(false,eval a X.env)]:=by rfl):SI X G F tg (.Call (.Name "range" p) [a] [] pos) (z04 ms):=by
 walk_at "go"
 exact Mi.si_rng1 hg hm ha hs
theorem ss_for{body:List Stmt}{mi:M ItK}{g:Tg}{mb:MS}(hp:PassesOwn (model X.prog X.w) X.A X.env X.xe)(hc:X.calm=true)(hi:SI X G F tg iter mi)(hg:SG X G F tg g)(hb:SSs X G F body mb)(hst: ∀x,foldedSetIterable iter X.env x=pure x:=by intro _;rfl):SS X G F (.For tg iter body [] pos) (z4v mi g mb):=by
 walk_at "go"
 exact Mi.ss_for hp hc hi hg hb hst
end
section
variable{X:Cx}{G:Gx}{F:Fy}{e a b c tg iter elt:Expr}{pos:Pos}
theorem sts_nil:STs X G F [] (rt true):=by
 walk_at "go"
 exact Mi.sts_nil
theorem se_comp{scope:Scope}{own frees:List Str}{ix:List Nat}{ifs:List Expr}{mi:M ItK}{g:Tg}{mt:M Bool}{me:M D}(hk:X.K=G.K)(hc:X.calm=true)(S:j5 X.env.scope scope own frees X.N ix)(hi:SI X G F tg iter mi)
 (hg: ∀(F:Fy) cl C s₀ H₀ fp pn,SG (Q6 X scope own frees cl C s₀ H₀ fp pn) G F tg g) (ht: ∀(F:Fy) cl C s₀ H₀ fp pn,STs (Q6 X scope own frees cl C s₀ H₀ fp pn) G F ifs mt) (he: ∀(F:Fy) cl C s₀ H₀ fp pn,SE (Q6 X scope own frees cl C s₀ H₀ fp pn) G F elt me)
 (hs: ∀x,foldedSetIterable iter X.env x=pure x:=by intro _;rfl):SE X G F (.ListComp elt [⟨tg,iter,ifs,0⟩] scope pos) (z0q mi g mt me own.length ix):=by
 walk_at "go"
 exact Mi.se_comp hk hc S hi hg ht he hs
end
section
variable{G:Gx}{ρ:Nat->Addr}{H:Hp}
section
variable(k:KD G.K H){n:Nat}(inj: ∀i j,i<n->j<n->ρ i=ρ j->i=j)
include k inj
end
end
section
variable{G:Gx}{ρ ρ':Nat->Addr}{H H':Hp}
section
variable(k:KD G.K H){n:Nat}(inj: ∀i j,i<n->j<n->ρ i=ρ j->i=j){ts:List D}{vs:List V}(r:RDs G ρ H ts vs)(lb: ∀l∈labsL ts,l<n)
include k inj r lb
end
variable{F:Fy}{σv tv:List (Option V)}{s:Stt}{np:Nat}
theorem se_call{X:Cx}{e:Expr}{es:List Expr}{pos p:Pos}{CX:CXT}{k:Nat}{fa:Addr}{fd:FuncData}{ps:List Str}{x:Str}{E:XK}{f:FM}{ms:List (M D)}(hk:X.K=G.K)(Fn:J1 X.prog X.w X.K X.mg X.base CX k fa fd ps (spM G ps.length f))(hr:U5 k X.A)(hg:Gl X x)(hm:X.mg x=some (.ref fa))(hkp:W.keepIn X.K (.ref fa)=true)(hb:J2 X.K fd ps [])(hx:Q5 CX X E)
 (ha:SA X G F (e::es) (Z3 ms)) (hln:ms.length=ps.length) (hdb:(x==("__debug__" :Str))=false:=by decide) (he:starEach (e::es) X.env=(false,eval e X.env)::starEach es X.env:=by rfl) (hpl:(backTo pos (starEach es X.env)).any (·.1)=false:=by rfl):
 SE X G F (.Call (.Name x p) (e::es) [] pos) (Y1 f ms):=by
 walk_at "go"
 exact Mi.se_call hk Fn hr hg hm hkp hb hx ha hln hdb he hpl
theorem fn_M{P:Program}{w:World}{K:W.Frag}{mg:Str->Option Value}{base:Heap}{x qual:Str}{st:Stmt}{fa:Addr}{fd:FuncData}{N ps:List Str}{k:Nat}{mb:MS}(Fn:Fun K x qual st fa fd)(S:Z4 N ps (y0 st))(hG:G.K=K)
 (hb: ∀(cdv:Value) (A:Around) (outer:List Env) (s:Shared) (H:Hp) (E:XK) (F:Fy),U5 k (A.deeper (envOfC qual (y0 st) s.heap.objs.size fa cdv))->SSs (cxOf CX0 P w K mg base N qual (y0 st) fa cdv A outer s H E).nox G F (W5 st) mb):
 J1 P w K mg base CX0 (k+1) fa fd ps (spM G ps.length (z1n N.length mb)):=by
 walk_at "go"
 exact Mi.fn_M Fn S hG hb
end
section
variable{X:Cx}{G:Gx}{F:Fy}{e o:Expr}{es:List Expr}{apos cpos:Pos}
theorem ss_setI{ob ix:Expr}{pos tpos:Pos}{mo mi me:M D}(he:SE X G F e me)(ho:SE X G F ob mo)(hi:SE X G F ix mi)(hg: ∀{to ti:TE},PE X ob to->PE X ix ti->PG X (.Subscript ob ix tpos) (zgy to ti z91))(hs:swapsWithSole [.Subscript ob ix tpos] e pos.line X.env=pure false:=by rfl)(hw:swappedStores [.Subscript ob ix tpos] e X.env=pure none:=by rfl)
 (h1:(assignEach [.Subscript ob ix tpos] X.env).map (·.2)=[assign (.Subscript ob ix tpos) X.env]:=by rfl):SS X G F (.Assign [.Subscript ob ix tpos] e pos) (z5y me mo mi zay):=by
 walk_at "go"
 exact Mi.ss_setI he ho hi hg hs hw h1
end
section
variable{X:Cx}{G:Gx}{F:Fy}{e a b c:Expr}{pos:Pos}{ma mb mc m:M D}
theorem se_add(hk:X.K=G.K)(ha:SE X G F a ma)(hb:SE X G F b mb):SE X G F (.BinOp a .Add b pos) (Z0 ma mb z02):=by
 walk_at "go"
 exact Mi.se_add hk ha hb
theorem se_sub(hk:X.K=G.K)(ha:SE X G F a ma)(hb:SE X G F b mb):SE X G F (.BinOp a .Sub b pos) (Z0 ma mb z9e):=by
 walk_at "go"
 exact Mi.se_sub hk ha hb
theorem se_mul(hk:X.K=G.K)(ha:SE X G F a ma)(hb:SE X G F b mb):SE X G F (.BinOp a .Mult b pos) (Z0 ma mb z6j):=by
 walk_at "go"
 exact Mi.se_mul hk ha hb
theorem se_fdiv(hk:X.K=G.K)(ha:SE X G F a ma)(hb:SE X G F b mb):SE X G F (.BinOp a .FloorDiv b pos) (Z0 ma mb z2D):=by
 walk_at "go"
 exact Mi.se_fdiv hk ha hb
theorem se_mod(hk:X.K=G.K)(ha:SE X G F a ma)(hb:SE X G F b mb):SE X G F (.BinOp a .Mod b pos) (Z0 ma mb z2E):=by
 walk_at "go"
 exact Mi.se_mod hk ha hb
theorem se_pow(hk:X.K=G.K)(ha:SE X G F a ma)(hb:SE X G F b mb):SE X G F (.BinOp a .Pow b pos) (Z0 ma mb z9f):=by
 walk_at "go"
 exact Mi.se_pow hk ha hb
theorem se_neg(hk:X.K=G.K)(ha:SE X G F a ma):SE X G F (.UnaryOp .USub a pos) (bd ma zeg):=by
 walk_at "go"
 exact Mi.se_neg hk ha
theorem sb_cmp{op:CmpOp}{g:D->D->M D}(hc:Cm X G F op g)(ha:SE X G F a ma)(hb:SE X G F b mb)(hm:behindInMarks op b=false):SB X G F (.Compare a [op] [b] pos) (G6 (Z0 ma mb g)):=by
 walk_at "go"
 exact Mi.sb_cmp hc ha hb hm
theorem se_cmp2{op op':CmpOp}{g g':D->D->M D}(hc:Cm X G F op g)(hc':Cm X G F op' g')(ha:SE X G F a ma)(hb:SE X G F b mb)(hcc:SE X G F c mc)(hm:lastMarks [op,op'] [b,c]=false:=by with_unfolding_all rfl):SE X G F (.Compare a [op,op'] [b,c] pos) (z0s ma mb mc g g'):=by
 walk_at "go"
 exact Mi.se_cmp2 hc hc' ha hb hcc hm
theorem sb_cmp2{op op':CmpOp}{g g':D->D->M D}(hc:Cm X G F op g)(hc':Cm X G F op' g')(ha:SE X G F a ma)(hb:SE X G F b mb)(hcc:SE X G F c mc)(hm:lastMarks [op,op'] [b,c]=false:=by with_unfolding_all rfl):SB X G F (.Compare a [op,op'] [b,c] pos) (G6 (z0s ma mb mc g g')):=by
 walk_at "go"
 exact Mi.sb_cmp2 hc hc' ha hb hcc hm
theorem se_idx(hk:X.K=G.K)(ha:SE X G F a ma)(hb:SE X G F b mb)(hs:z1i b):SE X G F (.Subscript a b pos) (Z0 ma mb ixD):=by
 walk_at "go"
 exact Mi.se_idx hk ha hb hs
theorem se_cb{x:Str}{p:Pos}{es:List Expr}{ms:List (M D)}{g:List D->M D}{id:String}(hk:X.K=G.K)(hc:Cb X G F (.builtin id) g)(hgl:Gl X x)(hm:X.mg x=none)(hv:bootBuiltins x=some (.builtin id))(ha:SA X G F (e::es) (Z3 ms))(hn:x≠ "__name__" :=by decide)(hdb:(x==("__debug__" :Str))=false:=by decide)
 (he:starEach (e::es) X.env=(false,eval e X.env)::starEach es X.env:=by rfl) (hpl:(backTo pos (starEach es X.env)).any (·.1)=false:=by rfl):SE X G F (.Call (.Name x p) (e::es) [] pos) (mCB ms g):=by
 walk_at "go"
 exact Mi.se_cb hk hc hgl hm hv ha hn hdb he hpl
theorem se_ct{x:Str}{p:Pos}{es:List Expr}{ms:List (M D)}{g:List D->M D}{T:String}(hk:X.K=G.K)(hc:Cb X G F (.type T) g)(hgl:Gl X x)(hm:X.mg x=none)(hv:bootBuiltins x=some (.type T))(ha:SA X G F (e::es) (Z3 ms))(hn:x≠ "__name__" :=by decide)(hdb:(x==("__debug__" :Str))=false:=by decide)
 (he:starEach (e::es) X.env=(false,eval e X.env)::starEach es X.env:=by rfl) (hpl:(backTo pos (starEach es X.env)).any (·.1)=false:=by rfl):SE X G F (.Call (.Name x p) (e::es) [] pos) (mCB ms g):=by
 walk_at "go"
 exact Mi.se_ct hk hc hgl hm hv ha hn hdb he hpl
end
section
variable{X:Cx}{G:Gx}{F:Fy}{e o:Expr}{es:List Expr}{apos cpos:Pos}
theorem se_cl{name:Str}{id:String}{mo:M D}{ms:List (M D)}{g:D->List D->M D}(hk:X.K=G.K)(slot:Slot "list" name id)(hty:typeOf (.builtin id)=pure (.type "method_descriptor"))(hm:Cl X G F id g)(ho:SE X G F o mo)(ha:SA X G F (e::es) (Z3 ms))
 (hbase:attributeBase o name X.env (eval o X.env)=eval o X.env:=by rfl)
 (hfew:((backTo cpos (starEach (e::es) X.env)).all (fun x=> !x.1)&&(backToKw cpos (keywordEach [] X.env)).all (fun x=>x.1.isSome)
  &&decide ((e::es).length+([]:List Keyword).length+(if([]:List Keyword).isEmpty then 0 else 1)<30))=true:=by rfl)
 (hline:(apos.endLine==cpos.line)=true:=by rfl) (hs:starEach (e::es) X.env=(false,eval e X.env)::starEach es X.env:=by rfl) (hplain:(backTo cpos (starEach es X.env)).any (·.1)=false:=by rfl):SE X G F (.Call (.Attribute o name apos) (e::es) [] cpos) (z07 mo ms g):=by
 walk_at "go"
 exact Mi.se_cl hk slot hty hm ho ha hbase hfew hline hs hplain
theorem se_cl0{name:Str}{id:String}{mo:M D}{g:D->List D->M D}(hk:X.K=G.K)(slot:Slot "list" name id)(hty:typeOf (.builtin id)=pure (.type "method_descriptor"))(hm:Cl X G F id g)(ho:SE X G F o mo)
 (hbase:attributeBase o name X.env (eval o X.env)=eval o X.env:=by rfl) (hline:(apos.endLine==cpos.line)=true:=by rfl):SE X G F (.Call (.Attribute o name apos) [] [] cpos) (z07 mo [] g):=by
 walk_at "go"
 exact Mi.se_cl0 hk slot hty hm ho hbase hline
end
section
variable{X:Cx}{G:Gx}{F:Fy}{E:L2.St->XK}{C:Addr}{x y:Str}{np cpos pos p:Pos}{j:Nat}
theorem ss_raise(hh:X.A.handled=none)(hx:XP X G F E)(hr:z2d X E)(hcl:G.cl x=some C)(hg:Gl X x)(hm:X.mg x=some (.ref C))(hq:W.excIn X.K C bmV "ValueError.__new__" =true)(hd:(x==("__debug__" :Str))=false:=by decide):
 SS X G F (.Raise (some (.Call (.Name x np) [.Constant (.str y) j p] [] cpos)) none pos) (z2f x):=by
 walk_at "go"
 exact Mi.ss_raise hh hx hr hcl hg hm hq hd
end
theorem fn_X{G:Gx}{P:Program}{w:World}{K:W.Frag}{mg:Str->Option Value}{base:Heap}{x qual:Str}{st:Stmt}{fa:Addr}{fd:FuncData}{N ps:List Str}{k:Nat}{mb:MS}(Fn:Fun K x qual st fa fd)(S:Z4 N ps (y0 st))(hG:G.K=K)
 (hb: ∀(cdv:Value) (A:Around) (outer:List Env) (s:Shared) (H:Hp) (E:XK) (F:Fy),U5 k (A.deeper (envOfC qual (y0 st) s.heap.objs.size fa cdv))->XP (cxOf (CX1 P w) P w K mg base N qual (y0 st) fa cdv A outer s H E) G F (fun _=>E)->z2d (cxOf (CX1 P w) P w K mg base N qual (y0 st) fa cdv A outer s H E) (fun _=>E)->SSs (cxOf (CX1 P w) P w K mg base N qual (y0 st) fa cdv A outer s H E) G F (W5 st) mb):
 J1 P w K mg base (CX1 P w) (k+1) fa fd ps (spX G ps.length (zaD N.length mb)):=by
 walk_at "go"
 exact Mi.fn_X Fn S hG hb
section
variable{X:Cx}{G:Gx}{F:Fy}{np hpos pos:Pos}{b₀:Stmt}{suite body:List Stmt}{x n:Str}{ie:Nat}{CB:Addr}{mb mh:MS}{k:Str->Bool}
theorem ss_try(hst:X.stack=X.env::X.outer)(hfr:X.env.frame=some X.env.locals)(hex:X.ex=[])(hK:X.K=G.K)(hg:Gl X x)(hm:X.mg x=some (.ref CB))(hN:X.N.Nodup)(hi:X.N[ie]? =some n)(hloc:X.env.scope.names.lookup n=some .local)
 (hk: ∀c C,G.cl c=some C->k c=true->W.exmOne X.K (.ref C) (.ref CB)=some true)
 (hb: ∀(pl:List (Addr×Obj)) (E':Value->Shared->Prop) (F':Fy) (E:L2.St->XK),XP (Xt X pl E') G F' E->SSs (Xt X pl E') G F' body mb) (hh: ∀a,SSs (Xm X a) G F (b₀::suite) mh) (hd:(x==("__debug__" :Str))=false:=by decide):
 SS X G F (.Try body [.ExceptHandler (some (.Name x np)) (some n) (b₀::suite) hpos] [] [] pos) (zd7 k ie mb mh):=by
 walk_at "go"
 exact Mi.ss_try hst hfr hex hK hg hm hN hi hloc hk hb hh hd
theorem se_isX1{p:Pos}{x y:Expr}{m:M D}{c:V}{tb:Str->Option Bool}(hK:X.K=G.K)(hc:zd6 c=true)(ht: ∀r C b,G.cl r=some C->tb r=some b->z2e X.K C/\W.kitOne X.K (.ref C) (cvV c)=some b)(hgl:Gl X "isinstance")(hm:X.mg "isinstance" =none)(ha:SE X G F x m)(hy:PE X y (tC c))
 (he:starEach [x,y] X.env=(false,eval x X.env)::starEach [y] X.env:=by rfl) (he2:starEach [y] X.env=(false,eval y X.env)::starEach [] X.env:=by rfl) (hpl:(backTo pos (starEach [y] X.env)).any (·.1)=false:=by rfl):SE X G F (.Call (.Name "isinstance" p) [x,y] [] pos) (z5E tb m):=by
 walk_at "go"
 exact Mi.se_isX1 hK hc ht hgl hm ha hy he he2 hpl
theorem se_isXT{p:Pos}{x y:Expr}{m:M D}{us:List Value}{tb:Str->Option Bool}(hK:X.K=G.K)(ht: ∀r C b,G.cl r=some C->tb r=some b->z2e X.K C/\W.kitAny X.K (.ref C) us=some b)(hgl:Gl X "isinstance")(hm:X.mg "isinstance" =none)(ha:SE X G F x m)(hy:PE X y (zhe us))
 (he:starEach [x,y] X.env=(false,eval x X.env)::starEach [y] X.env:=by rfl) (he2:starEach [y] X.env=(false,eval y X.env)::starEach [] X.env:=by rfl) (hpl:(backTo pos (starEach [y] X.env)).any (·.1)=false:=by rfl):SE X G F (.Call (.Name "isinstance" p) [x,y] [] pos) (z5E tb m):=by
 walk_at "go"
 exact Mi.se_isXT hK ht hgl hm ha hy he he2 hpl
end
section
variable{G:Gx}{ρ ρ':Nat->Addr}{H H':Hp}
variable{F:Fy}{σv tv:List (Option V)}{s:Stt}{np:Nat}
theorem se_callH{X:Cx}{e:Expr}{es:List Expr}{pos p:Pos}{CX:CXT}{k:Nat}{fa:Addr}{fd:FuncData}{ps:List Str}{x:Str}{E:XK}{f:FM}{ms:List (M D)}(hk:X.K=G.K)(Fn:z1o X.prog X.w X.K X.mg X.base CX k fa fd ps (spM G ps.length f))(hr:v4 k X.A)(hg:Gl X x)(hm:X.mg x=some (.ref fa))(hkp:W.keepIn X.K (.ref fa)=true)(hb:J2 X.K fd ps [])(hx:Q5 CX X E)
 (ha:SA X G F (e::es) (Z3 ms)) (hln:ms.length=ps.length) (hdb:(x==("__debug__" :Str))=false:=by decide) (he:starEach (e::es) X.env=(false,eval e X.env)::starEach es X.env:=by rfl) (hpl:(backTo pos (starEach es X.env)).any (·.1)=false:=by rfl):
 SE X G F (.Call (.Name x p) (e::es) [] pos) (Y1 f ms):=by
 walk_at "go"
 exact Mi.se_callH hk Fn hr hg hm hkp hb hx ha hln hdb he hpl
theorem fn_H{P:Program}{w:World}{K:W.Frag}{mg:Str->Option Value}{base:Heap}{x qual:Str}{st:Stmt}{fa:Addr}{fd:FuncData}{N ps:List Str}{k:Nat}{mb:MS}(Fn:Fun K x qual st fa fd)(S:Z4 N ps (y0 st))(hG:G.K=K)
 (hb: ∀(cdv:Value) (A:Around) (outer:List Env) (s:Shared) (H:Hp) (E:XK) (F:Fy),v4 k (A.deeper (envOfC qual (y0 st) s.heap.objs.size fa cdv))->SSs (cxH CX0 P w K mg base N qual (y0 st) fa cdv A outer s H E).nox G F (W5 st) mb):
 z1o P w K mg base CX0 (k+1) fa fd ps (spM G ps.length (z1n N.length mb)):=by
 walk_at "go"
 exact Mi.fn_H Fn S hG hb
end
section
variable{X:Cx}{G:Gx}{F:Fy}{a b e:Expr}{ma mb:M D}{pos:Pos}
theorem se_dnew(hk:X.K=G.K):SE X G F (.Dict [] [] pos) z4S:=by
 walk_at "go"
 exact Mi.se_dnew hk
theorem ss_dput{ob ix:Expr}{pos tpos:Pos}{mo mi me:M D}(hu:X.A.units+64<cLine)(he:SE X G F e me)(ho:SE X G F ob mo)(hi:SE X G F ix mi)(hs:swapsWith e (some (.Subscript ob ix tpos)) pos.line X.env=pure false:=by rfl):
 SS X G F (.Assign [.Subscript ob ix tpos] e pos) (z5y me mo mi z1J):=by
 walk_at "go"
 exact Mi.ss_dput hu he ho hi hs
end
section
variable{X:Cx}{G:Gx}{F:Fy}{e o value:Expr}{pos:Pos}
theorem se_fld{f:Str}{ok:Str->Bool}{m:M D}(he:SE X G F e m)(hc: ∀c C,G.cl c=some C->ok c=true->Cls X.K C/\U7 X.K C f)(hb:attributeBase e f X.env (eval e X.env)=eval e X.env:=by rfl):SE X G F (.Attribute e f pos) (z5K m f ok):=by
 walk_at "go"
 exact Mi.se_fld he hc hb
end
section
variable{X:Cx}{G:Gx}{F:Fy}{e o value:Expr}{pos pos':Pos}
theorem ss_fld{f:Str}{ok:Str->Bool}{me mo:M D}(ho:SE X G F o mo)(he:SE X G F value me)(hc: ∀c C,G.cl c=some C->ok c=true->Cls X.K C/\U7 X.K C f)(hs:swapsWith value (some (.Attribute o f pos')) pos.line X.env=pure false:=by rfl):SS X G F (.Assign [.Attribute o f pos'] value pos) (z9K me mo f ok):=by
 walk_at "go"
 exact Mi.ss_fld ho he hc hs
end
section
variable{X:Cx}{G:Gx}{F:Fy}{CX:CXT}{k:Nat}{fa C:Addr}{fd:FuncData}{ps:List Str}{E:XK}{f:FM}{cn m:Str}{mo:M D}{ms:List (M D)}{o e:Expr}{es:List Expr}{pos apos:Pos}{pl:Sem Bool}
theorem se_mth(hC:G.cl cn=some C)(c:Cls X.K C)(hm:z6G X.K C m fa)(Fn:J1 X.prog X.w X.K X.mg X.base CX k fa fd ps (spM G ps.length f))(hr:U5 k X.A)(hb:J2 X.K fd ps [])(hx:Q5 CX X E)(ho:SE X G F o mo)(ha:SA X G F (e::es) (Z3 ms))(hln:ms.length+1=ps.length)
 (hst:starEach (e::es) X.env=(false,eval e X.env)::starEach es X.env:=by rfl) (hpl:(backTo pos (starEach es X.env)).any (·.1)=false:=by rfl)
 (ht:eval (.Call (.Attribute o m apos) (e::es) [] pos) X.env=(do
  let ov<-eval o X.env
  standAt apos.atName
  let(f,first)<-holding [ov] (getMethod ov m pl)
  callWith pos f first (backTo pos (starEach (e::es) X.env)) (backToKw pos (keywordEach [] X.env))):=by rfl):SE X G F (.Call (.Attribute o m apos) (e::es) [] pos) (z4V cn m f mo ms):=by
 walk_at "go"
 exact Mi.se_mth hC c hm Fn hr hb hx ho ha hln hst hpl ht
theorem se_mth0(hC:G.cl cn=some C)(c:Cls X.K C)(hm:z6G X.K C m fa)(Fn:J1 X.prog X.w X.K X.mg X.base CX k fa fd ps (spM G ps.length f))(hr:U5 k X.A)(hb:J2 X.K fd ps [])(hx:Q5 CX X E)(ho:SE X G F o mo)(hln:1=ps.length)
 (ht:eval (.Call (.Attribute o m apos) [] [] pos) X.env=(do
  let ov<-eval o X.env
  standAt apos.atName
  let(f,first)<-holding [ov] (getMethod ov m pl)
  callWith pos f first (backTo pos (starEach [] X.env)) (backToKw pos (keywordEach [] X.env))):=by rfl):SE X G F (.Call (.Attribute o m apos) [] [] pos) (z4V cn m f mo []):=by
 walk_at "go"
 exact Mi.se_mth0 hC c hm Fn hr hb hx ho hln ht
end
section
variable{X:Cx}{G:Gx}{F:Fy}{CX:CXT}{k:Nat}{fa C:Addr}{fd:FuncData}{ps:List Str}{E:XK}{f:FM}{cn x:Str}{ms:List (M D)}{e:Expr}{es:List Expr}{pos p:Pos}
theorem se_make0(hk:X.K=G.K)(hC:G.cl cn=some C)(Mk:Mk X.K C fa)(Fn:J1 X.prog X.w X.K X.mg X.base CX k fa fd ps (spM G ps.length f))(hr:U5 (k+1) X.A)(hg:Gl X x)(hm:X.mg x=some (.ref C))(hb:J2 X.K fd ps [])(hx:Q5 CX X E)
 (hln:1=ps.length) (hdb:(x==("__debug__" :Str))=false:=by decide):SE X G F (.Call (.Name x p) [] [] pos) (z4W cn f []):=by
 walk_at "go"
 exact Mi.se_make0 hk hC Mk Fn hr hg hm hb hx hln hdb
end
section
variable{X:Cx}{G:Gx}{F:Fy}{k:Nat}{fa C:Addr}{fd:FuncData}{ps:List Str}{E:L2.St->XK}{f:FM}{cn m:Str}{mo:M D}{ms:List (M D)}{o e:Expr}{es:List Expr}{pos apos:Pos}{pl:Sem Bool}
theorem se_mthX(hx:XP X G F E)(hC:G.cl cn=some C)(c:Cls X.K C)(hm:z6G X.K C m fa)(Fn:J1 X.prog X.w X.K X.mg X.base (CX1 X.prog X.w) k fa fd ps (spX G ps.length f))(hr:U5 k X.A)(hb:J2 X.K fd ps [])(ho:SE X G F o mo)(ha:SA X G F (e::es) (Z3 ms))(hln:ms.length+1=ps.length)
 (hst:starEach (e::es) X.env=(false,eval e X.env)::starEach es X.env:=by rfl) (hpl:(backTo pos (starEach es X.env)).any (·.1)=false:=by rfl)
 (ht:eval (.Call (.Attribute o m apos) (e::es) [] pos) X.env=(do
  let ov<-eval o X.env
  standAt apos.atName
  let(f,first)<-holding [ov] (getMethod ov m pl)
  callWith pos f first (backTo pos (starEach (e::es) X.env)) (backToKw pos (keywordEach [] X.env))):=by rfl):SE X G F (.Call (.Attribute o m apos) (e::es) [] pos) (z4X cn m f mo ms):=by
 walk_at "go"
 exact Mi.se_mthX hx hC c hm Fn hr hb ho ha hln hst hpl ht
end
section
variable{X:Cx}{G:Gx}{F:Fy}{st:Stmt}
theorem ss_no:SS X G F st sNo:=by
 walk_at "go"
 exact Mi.ss_no
end
inductive SEs(X:Cx)(G:Gx)(F:Fy):List Expr->List (M D)->Prop
 |nil:SEs X G F [] []
 |cons {e:Expr} {m:M D} {es:List Expr} {ms:List (M D)}:SE X G F e m->nst e=true->SEs X G F es ms->SEs X G F (e::es) (m::ms)
theorem zjg{X:Cx}{G:Gx}{F:Fy}{es:List Expr}{ms:List (M D)}(h:SEs X G F es ms):Mi.SEs X G F es ms:=by
 induction h with
 |nil=>exact .nil
 |cons h n _ ih=>rw[eSE] at h;exact .cons h n ih
theorem sa_of{X:Cx}{G:Gx}{F:Fy}{es:List Expr}{ms:List (M D)}(hk:X.K=G.K)(h:SEs X G F es ms):SA X G F es (Z3 ms):=by
 rw[eSA];exact Mi.sa_of hk (zjg h)
section
variable{X:Cx}{G:Gx}{F:Fy}{e a b c d:Expr}{pos p:Pos}{m ma mb mc md:M D}
theorem sv(i:Nat){x:Str}(hk:X.K=G.K:=by rfl)(hN:X.N[i]? =some x:=by rfl)(hv:Vis X.env.scope x:=by first|exact Or.inl rfl|exact Or.inr (Or.inl rfl)|exact Or.inr (Or.inr rfl))(hd:(x==("__debug__" :Str))=false:=by decide)(hcd:(x==("__classdict__" :Str))=false:=by decide):SE X G F (.Name x pos) (y3 i):=se_var i hk (pv i hN hv hd hcd)
theorem s1(h:SE X G F a ma)(n:nst a=true:=by rfl)(hk:X.K=G.K:=by rfl):SA X G F [a] (Z3 [ma]):=sa_of hk (.cons h n .nil)
theorem s2(h:SE X G F a ma)(h2:SE X G F b mb)(n:nst a=true:=by rfl)(n2:nst b=true:=by rfl)(hk:X.K=G.K:=by rfl):SA X G F [a,b] (Z3 [ma,mb]):=sa_of hk (.cons h n (.cons h2 n2 .nil))
theorem s3(h:SE X G F a ma)(h2:SE X G F b mb)(h3:SE X G F c mc)(n:nst a=true:=by rfl)(n2:nst b=true:=by rfl)(n3:nst c=true:=by rfl)(hk:X.K=G.K:=by rfl):SA X G F [a,b,c] (Z3 [ma,mb,mc]):=sa_of hk (.cons h n (.cons h2 n2 (.cons h3 n3 .nil)))
theorem s4(h:SE X G F a ma)(h2:SE X G F b mb)(h3:SE X G F c mc)(h4:SE X G F d md)(n:nst a=true:=by rfl)(n2:nst b=true:=by rfl)(n3:nst c=true:=by rfl)(n4:nst d=true:=by rfl)(hk:X.K=G.K:=by rfl):SA X G F [a,b,c,d] (Z3 [ma,mb,mc,md]):=sa_of hk (.cons h n (.cons h2 n2 (.cons h3 n3 (.cons h4 n4 .nil))))
theorem sst(i:Nat){x:Str}(hN:X.N.Nodup)(he:SE X G F e m)(hi:X.N[i]? =some x:=by rfl)(hx:Loc X.env.scope x:=by exact Or.inl rfl)(hs:swapsWith e (some (.Name x p)) pos.line X.env=pure false:=by rfl)(hf:X.fn x=true\/X.env.scope.names.lookup x=some .local:=by first|exact .inl rfl|exact .inr rfl|assumption):SS X G F (.Assign [.Name x p] e pos) (G5 (.nm i) m):=
 ss_set (fun{te} h=>zah hN hi hx h hs hf) he
theorem sgn(i:Nat){x:Str}(hN:X.N.Nodup)(hi:X.N[i]? =some x:=by rfl)(hx:Loc X.env.scope x:=by exact Or.inl rfl)(hf:X.fn x=true\/X.env.scope.names.lookup x=some .local:=by first|exact .inl rfl|exact .inr rfl|assumption):SG X G F (.Name x pos) (.nm i):=sg_name (K8 hN hi hx hf)
theorem sln{es:List Expr}{ms:List (M D)}(hm:X.mg "len" =none)(ha:SA X G F (e::es) (Z3 ms))(hgl:Gl X "len" :=by rfl)(he:starEach (e::es) X.env=(false,eval e X.env)::starEach es X.env:=by rfl)(hpl:(backTo pos (starEach es X.env)).any (·.1)=false:=by rfl)(hk:X.K=G.K:=by rfl):SE X G F (.Call (.Name "len" p) (e::es) [] pos) (mCB ms z6I):=
 se_cb hk (zeM hk) hgl hm PyProof.Rows.Boot.«len» ha (by decide) (by decide) he hpl
theorem sc0{v:V}{d:D}(h:PE X e (tC v))(hd:cV d=some v:=by rfl)(hk:X.K=G.K:=by rfl):SE X G F e (mC d):=se_c hk h hd
theorem sxc{v:V}{q:D}(ha:SE X G F a ma)(h:PE X b (tC v))(hd:cV q=some v:=by rfl)(hs:z1i b:=by exact fun _ _=>rfl)(hk:X.K=G.K:=by rfl):SE X G F (.Subscript a b pos) (Z0 ma (mC q) ixD):=se_idx hk ha (se_c hk h hd) hs
theorem sxx(ha:SE X G F a ma)(hb:SE X G F b mb)(hs:z1i b:=by exact fun _ _=>rfl)(hk:X.K=G.K:=by rfl):SE X G F (.Subscript a b pos) (Z0 ma mb ixD):=se_idx hk ha hb hs
end
section
variable{G:Gx}{P:Program}{w:World}{K:W.Frag}{mg:Str->Option Value}{base:Heap}{x qual:Str}{st:Stmt}{fa:Addr}{fd:FuncData}{N ps:List Str}{k np:Nat}{f:FM}
theorem okM(mb:MS)(Fn:Fun K x qual st fa fd)(S:Z4 N ps (y0 st))(hb: ∀(cdv:Value) (A:Around) (outer:List Env) (s:Shared) (H:Hp) (E:XK) (F:Fy),U5 k (A.deeper (envOfC qual (y0 st) s.heap.objs.size fa cdv))->SSs (cxOf CX0 P w K mg base N qual (y0 st) fa cdv A outer s H E).nox G F (W5 st) mb)(hG:G.K=K:=by rfl)(hf:f=z1n N.length mb:=by rfl)(hn:np=ps.length:=by rfl):
 J1 P w K mg base CX0 (k+1) fa fd ps (spM G np f):=by
 subst hf hn;exact fn_M Fn S hG hb
theorem okX(mb:MS)(Fn:Fun K x qual st fa fd)(S:Z4 N ps (y0 st))(hb: ∀(cdv:Value) (A:Around) (outer:List Env) (s:Shared) (H:Hp) (E:XK) (F:Fy),U5 k (A.deeper (envOfC qual (y0 st) s.heap.objs.size fa cdv))->XP (cxOf (CX1 P w) P w K mg base N qual (y0 st) fa cdv A outer s H E) G F (fun _=>E)->z2d (cxOf (CX1 P w) P w K mg base N qual (y0 st) fa cdv A outer s H E) (fun _=>E)->SSs (cxOf (CX1 P w) P w K mg base N qual (y0 st) fa cdv A outer s H E) G F (W5 st) mb)(hG:G.K=K:=by rfl)(hf:f=zaD N.length mb:=by rfl)(hn:np=ps.length:=by rfl):
 J1 P w K mg base (CX1 P w) (k+1) fa fd ps (spX G np f):=by
 subst hf hn;exact fn_X Fn S hG hb
theorem okH(mb:MS)(Fn:Fun K x qual st fa fd)(S:Z4 N ps (y0 st))(hb: ∀(cdv:Value) (A:Around) (outer:List Env) (s:Shared) (H:Hp) (E:XK) (F:Fy),v4 k (A.deeper (envOfC qual (y0 st) s.heap.objs.size fa cdv))->SSs (cxH CX0 P w K mg base N qual (y0 st) fa cdv A outer s H E).nox G F (W5 st) mb)(hG:G.K=K:=by rfl)(hf:f=z1n N.length mb:=by rfl)(hn:np=ps.length:=by rfl):
 z1o P w K mg base CX0 (k+1) fa fd ps (spM G np f):=by
 subst hf hn;exact fn_H Fn S hG hb
end
section
variable{X:Cx}{G:Gx}{F:Fy}{a b tg e o iter elt:Expr}{pos apos cpos:Pos}{mo mi mx:M D}
theorem se_getT(hk:X.K=G.K)(hu:X.A.units+64<cLine)(ho:SE X G F o mo)(ha:SE X G F a mi)(hb:SE X G F b mx)(m:M2 X o "get" apos a b cpos):SE X G F (.Call (.Attribute o "get" apos) [a,b] [] cpos) (z4f mo mi mx):=by
 rw[eSE];rw[eSE] at ho ha hb
 exact Mi.se_getT hk hu ho ha hb m
end
section
variable{X:Cx}{G:Gx}{F:Fy}{a o iter elt tg:Expr}{pos apos cpos:Pos}{mo mi m0:M D}{scope:Scope}{own frees:List Str}
theorem se_get1(hk:X.K=G.K)(hu:X.A.units+64<cLine)(ho:SE X G F o mo)(ha:SE X G F a mi)(m:M1 X o "get" apos a cpos):SE X G F (.Call (.Attribute o "get" apos) [a] [] cpos) (z4Z mo mi):=by
 rw[eSE];rw[eSE] at ho ha
 exact Mi.se_get1 hk hu ho ha m
theorem se_rowI{elts:List Expr}{x1:Nat}{tpos:Pos}(hk:X.K=G.K)(hc:X.calm=true)(S:j5 X.env.scope scope own [] X.N [])(hi:SE X G F iter m0)(ho:own.length=2)
 (hg: ∀cl C s₀ H₀ fp pn,PG (Q6 X scope own [] cl C s₀ H₀ fp pn) (.Tuple elts x1 tpos) (zgg X.K 2 (z4y (z0o 0) (z4y (z0o 1) zgf)))) (he: ∀cl C s₀ H₀ fp pn,PE (Q6 X scope own [] cl C s₀ H₀ fp pn) elt (z9S X.K))
 (hs: ∀x,foldedSetIterable (.Call (.Attribute iter "items" apos) [] [] cpos) X.env x=pure x:=by intro _;rfl) (hbase:attributeBase iter "items" X.env (eval iter X.env)=eval iter X.env:=by rfl)
 (hfew:((backTo cpos (starEach [] X.env)).all (fun x=> !x.1)&&(backToKw cpos (keywordEach [] X.env)).all (fun x=>x.1.isSome)&&decide (([]:List Expr).length+([]:List Keyword).length+(if([]:List Keyword).isEmpty then 0 else 1)<30))=true:=by rfl)
 (hline:(apos.endLine==cpos.line)=true:=by rfl):SE X G F (.ListComp elt [⟨.Tuple elts x1 tpos, .Call (.Attribute iter "items" apos) [] [] cpos,[],0⟩] scope pos) (bd m0 zcg):=by
 rw[eSE];rw[eSE] at hi
 exact Mi.se_rowI hk hc S hi ho hg he hs hbase hfew hline
theorem se_rowK{i:Nat}{x:Str}{np:Pos}(hk:X.K=G.K)(hc:X.calm=true)(S:j5 X.env.scope scope own frees X.N [i])(hi:PE X (.Name x np) (z6R i))(ho:own.length=1)
 (hg: ∀cl C s₀ H₀ fp pn,PG (Q6 X scope own frees cl C s₀ H₀ fp pn) tg (z0o 0)) (he: ∀cl C s₀ H₀ fp pn,PE (Q6 X scope own frees cl C s₀ H₀ fp pn) elt (z9T X.K))
 (hs: ∀y,foldedSetIterable (.Name x np) X.env y=pure y:=by intro _;rfl):SE X G F (.ListComp elt [⟨tg, .Name x np,[],0⟩] scope pos) (bd (y3 i) zaN):=by
 rw[eSE]
 exact Mi.se_rowK hk hc S hi ho hg he hs
end
end My
namespace My
open PySem L2 Mi
noncomputable def top(i:Nat):Stmt:=PySem.Challenge.pw_signbench_k08_words_put_in.main.body.getD i (.Pass ⟨0,0,0,0⟩)
noncomputable abbrev z2k:Stmt:=top 0
noncomputable abbrev X6:Stmt:=top 28
noncomputable abbrev z09:Stmt:=top 29
noncomputable abbrev z1q:Stmt:=top 30
noncomputable abbrev z0z:Stmt:=top 38
noncomputable abbrev z50:Stmt:=top 41
noncomputable abbrev z3k:Stmt:=top 42
noncomputable abbrev z2l:Stmt:=top 43
noncomputable abbrev z3l:Stmt:=top 44
noncomputable abbrev X7:Stmt:=top 45
noncomputable abbrev z3m:Stmt:=top 46
noncomputable abbrev z3n:Stmt:=top 47
noncomputable abbrev z51:Stmt:=top 48
noncomputable abbrev z1r:Stmt:=top 49
noncomputable abbrev zci:Stmt:=top 50
noncomputable abbrev J4:Stmt:=stC (top 39) 0
noncomputable abbrev z0a:Stmt:=stC (top 39) 1
noncomputable abbrev X8:Stmt:=stC (top 39) 2
noncomputable abbrev v5:Stmt:=stC (top 39) 3
noncomputable abbrev G0:Stmt:=stC (top 39) 4
noncomputable abbrev J5:Stmt:=stC (top 39) 5
noncomputable abbrev z4h:List Str:=["k"]
noncomputable abbrev z4i:List Str:=z4h
noncomputable abbrev z0Q:List Str:=["thing"]
noncomputable abbrev X9:List Str:=z0Q
noncomputable abbrev z1D:List Str:=["thing", "low", "high"]
noncomputable abbrev z0b:List Str:=z1D
noncomputable abbrev z2Y:List Str:=["thing", "fewest", "most", "high"]
noncomputable abbrev z1s:List Str:=z2Y
noncomputable abbrev z52:List Str:=["thing", "sounds", "signs", "kind", "cost"]
noncomputable abbrev z0A:List Str:=["thing"]
noncomputable abbrev zcj:List Str:=["_law_script", "_law_at", "_law_cell", "_law_mix", "_law_k"]
noncomputable abbrev z53:List Str:=["_law_script", "_law_at"]
noncomputable abbrev z9V:List Str:=["_law_bag_here", "_law_many", "_law_digit"]
noncomputable abbrev z3o:List Str:=["_law_bag_here", "_law_many"]
noncomputable abbrev z4j:List Str:=["_law_thing"]
noncomputable abbrev z2m:List Str:=z4j
noncomputable abbrev z9W:List Str:=["_law_bag_here", "_law_wide", "_law_sounds", "_law_signs"]
noncomputable abbrev z3p:List Str:=["_law_bag_here"]
noncomputable abbrev z3q:List Str:=["_law_told_here", "_law_word_here"]
noncomputable abbrev k7:List Str:=["_law_told_here"]
noncomputable abbrev z9X:List Str:=["_law_e", "_law_some", "_law_others"]
noncomputable abbrev z3r:List Str:=["_law_e"]
noncomputable abbrev z9Y:List Str:=["_law_deed", "_law_book", "_law_thing", "_law_e"]
noncomputable abbrev z3s:List Str:=["_law_deed", "_law_book", "_law_thing"]
noncomputable abbrev z85:List Str:=["_law_model", "_law_word_here"]
noncomputable abbrev z54:List Str:=z85
noncomputable abbrev z6t:List Str:=["_law_book", "_law_model", "_law_word_here", "_law_due_here", "_law_turn", "_law_told_here", "_law_key", "_law_cost"]
noncomputable abbrev z1t:List Str:=["_law_book", "_law_model", "_law_word_here"]
noncomputable abbrev zhm:List Str:=["_law_script", "_law_at", "_law_bag_here", "_law_many", "_law_book", "_law_model", "_law_k", "_law_word_here", "_law_turn", "_law_due_here", "_law_held", "_law_kept"]
noncomputable abbrev zck:List Str:=["_law_script"]
noncomputable abbrev V8:List Str:=["self"]
noncomputable abbrev V9:List Str:=V8
noncomputable abbrev z1E:List Str:=["self", "word"]
noncomputable abbrev z0c:List Str:=z1E
noncomputable abbrev z0R:List Str:=["self", "sounds", "signs", "kind"]
noncomputable abbrev z0S:List Str:=z0R
noncomputable abbrev z0t:List Str:=["self"]
noncomputable abbrev z0u:List Str:=z0t
noncomputable abbrev K5:List Str:=["self", "sounds", "signs", "kind"]
noncomputable abbrev K6:List Str:=K5
noncomputable abbrev z1u:List Str:=["self", "sounds", "place", "rest"]
noncomputable abbrev z1v:List Str:=["self", "sounds", "place"]
local macro_rules | `(tactic| walk_at "sc") => `(tactic| exact ⟨rfl, rfl, rfl, by decide +kernel, rfl, by decide +kernel, by decide +kernel⟩)
theorem zde:Z4 z4h z4i (y0 z2k):=by walk_at "sc"
theorem z2J:Z4 z0Q X9 (y0 X6):=by walk_at "sc"
theorem z3t:Z4 z1D z0b (y0 z09):=by walk_at "sc"
theorem z55:Z4 z2Y z1s (y0 z1q):=by walk_at "sc"
theorem g8:Z4 z52 z0A (y0 z0z):=by walk_at "sc"
theorem k8:Z4 zcj z53 (y0 z50):=by walk_at "sc"
theorem z4k:Z4 z9V z3o (y0 z3k):=by walk_at "sc"
theorem z6u:Z4 z4j z2m (y0 z2l):=by walk_at "sc"
theorem z0T:Z4 z9W z3p (y0 z3l):=by walk_at "sc"
theorem z0v:Z4 z3q k7 (y0 X7):=by walk_at "sc"
theorem z0U:Z4 z9X z3r (y0 z3m):=by walk_at "sc"
theorem z4l:Z4 z9Y z3s (y0 z3n):=by walk_at "sc"
theorem z9Z:Z4 z85 z54 (y0 z51):=by walk_at "sc"
theorem J6:Z4 z6t z1t (y0 z1r):=by walk_at "sc"
theorem x8:Z4 zhm zck (y0 zci):=by walk_at "sc"
theorem z0V:Z4 V8 V9 (y0 J4):=by walk_at "sc"
theorem z0W:Z4 z1E z0c (y0 z0a):=by walk_at "sc"
theorem z2K:Z4 z0R z0S (y0 X8):=by walk_at "sc"
theorem z2n:Z4 z0t z0u (y0 v5):=by walk_at "sc"
theorem z1w:Z4 K5 K6 (y0 G0):=by walk_at "sc"
theorem z5R:Z4 z1u z1v (y0 J5):=by walk_at "sc"
structure Dx(K:W.Frag)(mg:Str->Option Value)(x:Str)(st:Stmt)(ps:List Str) where
 f:Addr
 d:FuncData
 F:Fun K x x st f d
 b:J2 K d ps []
 m:mg x=some (.ref f)
theorem scl{X:Cx}{G:Gx}{F:Fy}{e:Expr}{es:List Expr}{pos p:Pos}{CX:CXT}{k j:Nat}{x:Str}{st:Stmt}{ps:List Str}{E:XK}{f:FM}{ms:List (M D)}(d:Dx X.K X.mg x st ps)(Fn:J1 X.prog X.w X.K X.mg X.base CX j d.f d.d ps (spM G ps.length f))(hr:U5 k X.A)(ha:SA X G F (e::es) (Z3 ms))(hg:Gl X x:=by rfl)(hx:Q5 CX X E:=by exact z4E)(hln:ms.length=ps.length:=by rfl)(hk:X.K=G.K:=by rfl)(hj:j<=k:=by lia)(hdb:(x==("__debug__" :Str))=false:=by decide)(he:starEach (e::es) X.env=(false,eval e X.env)::starEach es X.env:=by rfl)(hpl:(backTo pos (starEach es X.env)).any (·.1)=false:=by rfl):SE X G F (.Call (.Name x p) (e::es) [] pos) (Y1 f ms):=se_call hk (Fn.mono hj) hr hg d.m d.F.kp d.b hx ha hln hdb he hpl
noncomputable abbrev kF(K:W.Frag)(a b:Addr)(r:Bool):Prop:=W.kitOne K (.ref a) (.ref b)=some r
noncomputable abbrev kN(K:W.Frag)(a:Addr)(l:List Addr):Prop:=W.kitAny K (.ref a) (l.map .ref)=some false
noncomputable abbrev kV(K:W.Frag)(a:Addr):Prop:=W.kitOne K (.ref a) (.type "ValueError")=some true
noncomputable abbrev fA(K:W.Frag)(a:Addr):Prop:=W.findIn K (.ref a) "__getattribute__" =some (some (.builtin "BaseException.__getattribute__"))
noncomputable abbrev fB(K:W.Frag)(a:Addr):Prop:=W.findIn K (.ref a) "__getattr__" =some none
noncomputable abbrev fC(K:W.Frag)(a:Addr):Prop:=W.findIn K (.ref a) "__class__" =some (some (.builtin "object.__class__"))
noncomputable abbrev xA(K:W.Frag)(a:Addr):Prop:=W.excIn K a bmV "ValueError.__new__" =true
noncomputable abbrev mO(K:W.Frag)(a:Addr)(s:String):Prop:=W.mroIn K a (.type s)=some true
noncomputable abbrev eB(K:W.Frag)(a b:Addr):Prop:=W.exmOne K (.ref a) (.ref b)=some true
noncomputable abbrev nI(K:W.Frag)(s:Str)(a:Addr):Prop:=W.nsIn K mainGlobals s=some (some (.ref a))
set_option genInjectivity false in
set_option genSizeOf false in
set_option genSizeOfSpec false in
structure Wd(K:W.Frag)(mg:Str->Option Value) where
 kbn:Addr
 kbj:mg "Book" =some (.ref kbn)
 cc_Book:Cls K kbn
 kaE:Dx K mg "_wall" z2k z4i
 kaf:Dx K mg "is_number" X6 X9
 kaj:Dx K mg "is_whole" z09 z0b
 kaC:Dx K mg "is_row" z1q z1s
 kao:Dx K mg "is_word" z0z z0A
 kbk:Dx K mg "_law_bag" z50 z53
 kbc:Dx K mg "_law_take" z3k z3o
 kaJ:Dx K mg "_law_whole" z2l z2m
 kbd:Dx K mg "_law_word" z3l z3p
 kah:Dx K mg "_law_are_words" X7 k7
 kbf:Dx K mg "_law_kind" z3m z3r
 kba:Dx K mg "_law_told" z3n z3s
 kbi:Dx K mg "_law_due" z51 z54
 kat:Dx K mg "_law_stands" z1r z1t
 x_law:Dx K mg "law" zci zck
 kab:Dm K kbn "__init__" "Book.__init__" J4 ["self"]
 kal:Dm K kbn "put" "Book.put" z0a ["self", "word"]
 kae:Dm K kbn "take" "Book.take" X8 ["self", "sounds", "signs", "kind"]
 kad:Dm K kbn "words" "Book.words" v5 ["self"]
 kac:Dm K kbn "cost_of" "Book.cost_of" G0 ["self", "sounds", "signs", "kind"]
 kaa:Dm K kbn "standing" "Book.standing" J5 ["self", "sounds", "place"]
 n_ValueError:mg "ValueError" =none
 n_abs:mg "abs" =none
 n_all:mg "all" =none
 n_bool:mg "bool" =none
 c_LAST_SOUND: ∃t,mg "LAST_SOUND" =some (.int 39 t)
 c_LAST_WORD_COST: ∃t,mg "LAST_WORD_COST" =some (.int 9999 t)
 c_LAST_WORD_KIND: ∃t,mg "LAST_WORD_KIND" =some (.int 7 t)
 c_LAST_WORD_SIGN: ∃t,mg "LAST_WORD_SIGN" =some (.int 999 t)
 c_MOST_WORDS: ∃t,mg "MOST_WORDS" =some (.int 60 t)
 c_MOST_WORD_SIGNS: ∃t,mg "MOST_WORD_SIGNS" =some (.int 4 t)
 c_MOST_WORD_SOUNDS: ∃t,mg "MOST_WORD_SOUNDS" =some (.int 6 t)
 n_int:mg "int" =none
 n_isinstance:mg "isinstance" =none
 n_len:mg "len" =none
 n_list:mg "list" =none
 n_max:mg "max" =none
 n_min:mg "min" =none
 n_range:mg "range" =none
 n_repr:mg "repr" =none
 n_sorted:mg "sorted" =none
 n_tuple:mg "tuple" =none
 kbe:Addr
 kaV:mg "Barred" =some (.ref kbe)
 kam:Addr
 kai:mg "BenchError" =some (.ref kam)
 kbl:Addr
 kaZ:mg "Fight" =some (.ref kbl)
 kbo:Addr
 kbg:mg "Full" =some (.ref kbo)
 ka4:Addr
 kaT:mg "Marked" =some (.ref ka4)
 kaH:Addr
 kax:mg "Missing" =some (.ref kaH)
 kaz:Addr
 kaq:mg "NoChoice" =some (.ref kaz)
 kar:Addr
 kak:mg "NoCutting" =some (.ref kar)
 ka9:Addr
 kaK:mg "NoDeed" =some (.ref ka9)
 kaY:Addr
 kaF:mg "NoMark" =some (.ref kaY)
 kaX:Addr
 kaO:mg "NoNode" =some (.ref kaX)
 kaN:Addr
 kaw:mg "NoPlace" =some (.ref kaN)
 kaD:Addr
 kap:mg "NoSaying" =some (.ref kaD)
 kan:Addr
 kag:mg "NoStanding" =some (.ref kan)
 kaI:Addr
 kav:mg "NoTable" =some (.ref kaI)
 ka5:Addr
 kaQ:mg "NoText" =some (.ref ka5)
 kbb:Addr
 kaR:mg "NoTurn" =some (.ref kbb)
 ka6:Addr
 kaG:mg "NoWish" =some (.ref ka6)
 ka7:Addr
 kaL:mg "NoWord" =some (.ref ka7)
 kaU:Addr
 kaB:mg "Nothing" =some (.ref kaU)
 kaP:Addr
 kaA:mg "TooLong" =some (.ref kaP)
 kaS:Addr
 kau:mg "TooMany" =some (.ref kaS)
 kbh:Addr
 ka8:mg "Twice" =some (.ref kbh)
 kbm:Addr
 kaW:mg "Waits" =some (.ref kbm)
 kay:xA K kaH
 cxob_Missing:mO K kaH "object"
 cxba_Missing:mO K kaH "BaseException"
 cxf1_Missing:fA K kaH
 cxf2_Missing:fB K kaH
 cxf3_Missing:fC K kaH
 ch_Missing_BenchError:eB K kaH kam
 ck_0_Missing:kF K kaH ka7 false
 ck_1_Missing:kF K kaH kbh false
 ck_2_Missing:kF K kaH kaS false
 ck_3_Missing:kF K kaH kaH true
 ck_4_Missing:kN K kaH [kaN,kaz,kaY,ka4,kbe,kaP,kan,ka9,kbo,kaX]
 ck_5_Missing:kN K kaH [ka5,kaU,ka6,kbl,kar,kbm,kbb,kaI,kaD]
 ck_6_Missing:kF K kaH kam true
 ck_7_Missing:kV K kaH
 kaM:xA K ka7
 cxob_NoWord:mO K ka7 "object"
 cxba_NoWord:mO K ka7 "BaseException"
 cxf1_NoWord:fA K ka7
 cxf2_NoWord:fB K ka7
 cxf3_NoWord:fC K ka7
 ch_NoWord_BenchError:eB K ka7 kam
 ck_0_NoWord:kF K ka7 ka7 true
 ck_1_NoWord:kF K ka7 kbh false
 ck_2_NoWord:kF K ka7 kaS false
 ck_3_NoWord:kF K ka7 kaH false
 ck_4_NoWord:kN K ka7 [kaN,kaz,kaY,ka4,kbe,kaP,kan,ka9,kbo,kaX]
 ck_5_NoWord:kN K ka7 [ka5,kaU,ka6,kbl,kar,kbm,kbb,kaI,kaD]
 ck_6_NoWord:kF K ka7 kam true
 ck_7_NoWord:kV K ka7
 kas:xA K kaS
 cxob_TooMany:mO K kaS "object"
 cxba_TooMany:mO K kaS "BaseException"
 cxf1_TooMany:fA K kaS
 cxf2_TooMany:fB K kaS
 cxf3_TooMany:fC K kaS
 ch_TooMany_BenchError:eB K kaS kam
 ck_0_TooMany:kF K kaS ka7 false
 ck_1_TooMany:kF K kaS kbh false
 ck_2_TooMany:kF K kaS kaS true
 ck_3_TooMany:kF K kaS kaH false
 ck_4_TooMany:kN K kaS [kaN,kaz,kaY,ka4,kbe,kaP,kan,ka9,kbo,kaX]
 ck_5_TooMany:kN K kaS [ka5,kaU,ka6,kbl,kar,kbm,kbb,kaI,kaD]
 ck_6_TooMany:kF K kaS kam true
 ck_7_TooMany:kV K kaS
 ka3:xA K kbh
 cxob_Twice:mO K kbh "object"
 cxba_Twice:mO K kbh "BaseException"
 cxf1_Twice:fA K kbh
 cxf2_Twice:fB K kbh
 cxf3_Twice:fC K kbh
 ch_Twice_BenchError:eB K kbh kam
 ck_0_Twice:kF K kbh ka7 false
 ck_1_Twice:kF K kbh kbh true
 ck_2_Twice:kF K kbh kaS false
 ck_3_Twice:kF K kbh kaH false
 ck_4_Twice:kN K kbh [kaN,kaz,kaY,ka4,kbe,kaP,kan,ka9,kbo,kaX]
 ck_5_Twice:kN K kbh [ka5,kaU,ka6,kbl,kar,kbm,kbb,kaI,kaD]
 ck_6_Twice:kF K kbh kam true
 ck_7_Twice:kV K kbh
 na_Book_costs:U7 K kbn "costs"
 mk_Book:Mk K kbn kab.f
 cnd:[kaH,ka7,kaS,kbh,kbn].Nodup
section
variable{K:W.Frag}{mg:Str->Option Value}
noncomputable abbrev GT(T:Wd K mg):Gx:=mkG K [("Missing",T.kaH),("NoWord",T.ka7),("TooMany",T.kaS),("Twice",T.kbh),("Book",T.kbn)] T.cnd (.cons (z3j T.kay) (.cons (z3j T.kaM) (.cons (z3j T.kas) (.cons (z3j T.ka3) (.cons (zca T.cc_Book) .nil)))))
theorem z6v(T:Wd K mg):(GT T).cl "Missing" =some T.kaH:=rfl
theorem z86(T:Wd K mg):(GT T).cl "NoWord" =some T.ka7:=rfl
theorem z6w(T:Wd K mg):(GT T).cl "TooMany" =some T.kaS:=rfl
theorem za0(T:Wd K mg):(GT T).cl "Twice" =some T.kbh:=rfl
theorem z0B(T:Wd K mg):(GT T).cl "Book" =some T.kbn:=rfl
noncomputable def W7(c:Str):Bool:=[("Book" :Str)].contains c
theorem j8(T:Wd K mg): ∀c C,(GT T).cl c=some C->W7 c=true->Cls K C/\U7 K C "costs" :=fun c C h1 h2=>by
 have h3:([("Book",())]:List (Str×Unit)).lookup c=some ():=by
  unfold W7 at h2;erw[F2,N5,O4,M7,beq_iff_eq] at h2
  subst h2;rfl
 exact Al2.at (Φ:=fun C (_:Unit)=>Cls K C/\U7 K C "costs") (.skip rfl (.skip rfl (.skip rfl (.skip rfl (.cons (b:=()) ⟨T.cc_Book,T.na_Book_costs⟩ .nil))))) h1 h3
noncomputable def G7(c:Str):Bool:=[("Missing" :Str),("NoWord" :Str),("TooMany" :Str),("Twice" :Str)].contains c
theorem z3u(T:Wd K mg): ∀c C,(GT T).cl c=some C->G7 c=true->eB K C T.kam:=fun c C h1 h2=>by
 have h3:([("Missing",()),("NoWord",()),("TooMany",()),("Twice",())]:List (Str×Unit)).lookup c=some ():=by
  unfold G7 at h2;erw[F2,N5,O4,M7,beq_iff_eq] at h2
  rcases h2 with rfl|rfl|rfl|rfl<;>rfl
 exact Al2.at (Φ:=fun C (_:Unit)=>eB K C T.kam) (.cons (b:=()) T.ch_Missing_BenchError (.cons (b:=()) T.ch_NoWord_BenchError (.cons (b:=()) T.ch_TooMany_BenchError (.cons (b:=()) T.ch_Twice_BenchError (.skip rfl .nil))))) h1 h3
noncomputable def zhn(c:Str):Option Bool:=[(("Missing" :Str),false),(("NoWord" :Str),true),(("TooMany" :Str),false),(("Twice" :Str),false)].lookup c
theorem zjh(T:Wd K mg): ∀r C b,(GT T).cl r=some C->zhn r=some b->z2e K C/\W.kitOne K (.ref C) (cvV (.ref T.ka7))=some b:=fun r C b h1 h2=>Al2.at (Φ:=fun C b=>z2e K C/\W.kitOne K (.ref C) (cvV (.ref T.ka7))=some b) (.cons ⟨⟨T.cxob_Missing,T.cxba_Missing,T.cxf1_Missing,T.cxf2_Missing,T.cxf3_Missing⟩,T.ck_0_Missing⟩ (.cons ⟨⟨T.cxob_NoWord,T.cxba_NoWord,T.cxf1_NoWord,T.cxf2_NoWord,T.cxf3_NoWord⟩,T.ck_0_NoWord⟩ (.cons ⟨⟨T.cxob_TooMany,T.cxba_TooMany,T.cxf1_TooMany,T.cxf2_TooMany,T.cxf3_TooMany⟩,T.ck_0_TooMany⟩ (.cons ⟨⟨T.cxob_Twice,T.cxba_Twice,T.cxf1_Twice,T.cxf2_Twice,T.cxf3_Twice⟩,T.ck_0_Twice⟩ (.skip rfl .nil))))) h1 h2
noncomputable def zho(c:Str):Option Bool:=[(("Missing" :Str),false),(("NoWord" :Str),false),(("TooMany" :Str),false),(("Twice" :Str),true)].lookup c
theorem zji(T:Wd K mg): ∀r C b,(GT T).cl r=some C->zho r=some b->z2e K C/\W.kitOne K (.ref C) (cvV (.ref T.kbh))=some b:=fun r C b h1 h2=>Al2.at (Φ:=fun C b=>z2e K C/\W.kitOne K (.ref C) (cvV (.ref T.kbh))=some b) (.cons ⟨⟨T.cxob_Missing,T.cxba_Missing,T.cxf1_Missing,T.cxf2_Missing,T.cxf3_Missing⟩,T.ck_1_Missing⟩ (.cons ⟨⟨T.cxob_NoWord,T.cxba_NoWord,T.cxf1_NoWord,T.cxf2_NoWord,T.cxf3_NoWord⟩,T.ck_1_NoWord⟩ (.cons ⟨⟨T.cxob_TooMany,T.cxba_TooMany,T.cxf1_TooMany,T.cxf2_TooMany,T.cxf3_TooMany⟩,T.ck_1_TooMany⟩ (.cons ⟨⟨T.cxob_Twice,T.cxba_Twice,T.cxf1_Twice,T.cxf2_Twice,T.cxf3_Twice⟩,T.ck_1_Twice⟩ (.skip rfl .nil))))) h1 h2
noncomputable def zhp(c:Str):Option Bool:=[(("Missing" :Str),false),(("NoWord" :Str),false),(("TooMany" :Str),true),(("Twice" :Str),false)].lookup c
theorem zjj(T:Wd K mg): ∀r C b,(GT T).cl r=some C->zhp r=some b->z2e K C/\W.kitOne K (.ref C) (cvV (.ref T.kaS))=some b:=fun r C b h1 h2=>Al2.at (Φ:=fun C b=>z2e K C/\W.kitOne K (.ref C) (cvV (.ref T.kaS))=some b) (.cons ⟨⟨T.cxob_Missing,T.cxba_Missing,T.cxf1_Missing,T.cxf2_Missing,T.cxf3_Missing⟩,T.ck_2_Missing⟩ (.cons ⟨⟨T.cxob_NoWord,T.cxba_NoWord,T.cxf1_NoWord,T.cxf2_NoWord,T.cxf3_NoWord⟩,T.ck_2_NoWord⟩ (.cons ⟨⟨T.cxob_TooMany,T.cxba_TooMany,T.cxf1_TooMany,T.cxf2_TooMany,T.cxf3_TooMany⟩,T.ck_2_TooMany⟩ (.cons ⟨⟨T.cxob_Twice,T.cxba_Twice,T.cxf1_Twice,T.cxf2_Twice,T.cxf3_Twice⟩,T.ck_2_Twice⟩ (.skip rfl .nil))))) h1 h2
noncomputable def zhq(c:Str):Option Bool:=[(("Missing" :Str),true),(("NoWord" :Str),false),(("TooMany" :Str),false),(("Twice" :Str),false)].lookup c
theorem zjk(T:Wd K mg): ∀r C b,(GT T).cl r=some C->zhq r=some b->z2e K C/\W.kitOne K (.ref C) (cvV (.ref T.kaH))=some b:=fun r C b h1 h2=>Al2.at (Φ:=fun C b=>z2e K C/\W.kitOne K (.ref C) (cvV (.ref T.kaH))=some b) (.cons ⟨⟨T.cxob_Missing,T.cxba_Missing,T.cxf1_Missing,T.cxf2_Missing,T.cxf3_Missing⟩,T.ck_3_Missing⟩ (.cons ⟨⟨T.cxob_NoWord,T.cxba_NoWord,T.cxf1_NoWord,T.cxf2_NoWord,T.cxf3_NoWord⟩,T.ck_3_NoWord⟩ (.cons ⟨⟨T.cxob_TooMany,T.cxba_TooMany,T.cxf1_TooMany,T.cxf2_TooMany,T.cxf3_TooMany⟩,T.ck_3_TooMany⟩ (.cons ⟨⟨T.cxob_Twice,T.cxba_Twice,T.cxf1_Twice,T.cxf2_Twice,T.cxf3_Twice⟩,T.ck_3_Twice⟩ (.skip rfl .nil))))) h1 h2
noncomputable def zhr(c:Str):Option Bool:=[(("Missing" :Str),false),(("NoWord" :Str),false),(("TooMany" :Str),false),(("Twice" :Str),false)].lookup c
theorem zjl(T:Wd K mg): ∀r C b,(GT T).cl r=some C->zhr r=some b->z2e K C/\W.kitAny K (.ref C) ([V.ref T.kaN,V.ref T.kaz,V.ref T.kaY,V.ref T.ka4,V.ref T.kbe,V.ref T.kaP,V.ref T.kan,V.ref T.ka9,V.ref T.kbo,V.ref T.kaX].map cvV)=some b:=fun r C b h1 h2=>Al2.at (Φ:=fun C b=>z2e K C/\W.kitAny K (.ref C) ([V.ref T.kaN,V.ref T.kaz,V.ref T.kaY,V.ref T.ka4,V.ref T.kbe,V.ref T.kaP,V.ref T.kan,V.ref T.ka9,V.ref T.kbo,V.ref T.kaX].map cvV)=some b) (.cons ⟨⟨T.cxob_Missing,T.cxba_Missing,T.cxf1_Missing,T.cxf2_Missing,T.cxf3_Missing⟩,T.ck_4_Missing⟩ (.cons ⟨⟨T.cxob_NoWord,T.cxba_NoWord,T.cxf1_NoWord,T.cxf2_NoWord,T.cxf3_NoWord⟩,T.ck_4_NoWord⟩ (.cons ⟨⟨T.cxob_TooMany,T.cxba_TooMany,T.cxf1_TooMany,T.cxf2_TooMany,T.cxf3_TooMany⟩,T.ck_4_TooMany⟩ (.cons ⟨⟨T.cxob_Twice,T.cxba_Twice,T.cxf1_Twice,T.cxf2_Twice,T.cxf3_Twice⟩,T.ck_4_Twice⟩ (.skip rfl .nil))))) h1 h2
noncomputable def zhs(c:Str):Option Bool:=[(("Missing" :Str),false),(("NoWord" :Str),false),(("TooMany" :Str),false),(("Twice" :Str),false)].lookup c
theorem zjm(T:Wd K mg): ∀r C b,(GT T).cl r=some C->zhs r=some b->z2e K C/\W.kitAny K (.ref C) ([V.ref T.ka5,V.ref T.kaU,V.ref T.ka6,V.ref T.kbl,V.ref T.kar,V.ref T.kbm,V.ref T.kbb,V.ref T.kaI,V.ref T.kaD].map cvV)=some b:=fun r C b h1 h2=>Al2.at (Φ:=fun C b=>z2e K C/\W.kitAny K (.ref C) ([V.ref T.ka5,V.ref T.kaU,V.ref T.ka6,V.ref T.kbl,V.ref T.kar,V.ref T.kbm,V.ref T.kbb,V.ref T.kaI,V.ref T.kaD].map cvV)=some b) (.cons ⟨⟨T.cxob_Missing,T.cxba_Missing,T.cxf1_Missing,T.cxf2_Missing,T.cxf3_Missing⟩,T.ck_5_Missing⟩ (.cons ⟨⟨T.cxob_NoWord,T.cxba_NoWord,T.cxf1_NoWord,T.cxf2_NoWord,T.cxf3_NoWord⟩,T.ck_5_NoWord⟩ (.cons ⟨⟨T.cxob_TooMany,T.cxba_TooMany,T.cxf1_TooMany,T.cxf2_TooMany,T.cxf3_TooMany⟩,T.ck_5_TooMany⟩ (.cons ⟨⟨T.cxob_Twice,T.cxba_Twice,T.cxf1_Twice,T.cxf2_Twice,T.cxf3_Twice⟩,T.ck_5_Twice⟩ (.skip rfl .nil))))) h1 h2
noncomputable def zht(c:Str):Option Bool:=[(("Missing" :Str),true),(("NoWord" :Str),true),(("TooMany" :Str),true),(("Twice" :Str),true)].lookup c
theorem zjn(T:Wd K mg): ∀r C b,(GT T).cl r=some C->zht r=some b->z2e K C/\W.kitOne K (.ref C) (cvV (.ref T.kam))=some b:=fun r C b h1 h2=>Al2.at (Φ:=fun C b=>z2e K C/\W.kitOne K (.ref C) (cvV (.ref T.kam))=some b) (.cons ⟨⟨T.cxob_Missing,T.cxba_Missing,T.cxf1_Missing,T.cxf2_Missing,T.cxf3_Missing⟩,T.ck_6_Missing⟩ (.cons ⟨⟨T.cxob_NoWord,T.cxba_NoWord,T.cxf1_NoWord,T.cxf2_NoWord,T.cxf3_NoWord⟩,T.ck_6_NoWord⟩ (.cons ⟨⟨T.cxob_TooMany,T.cxba_TooMany,T.cxf1_TooMany,T.cxf2_TooMany,T.cxf3_TooMany⟩,T.ck_6_TooMany⟩ (.cons ⟨⟨T.cxob_Twice,T.cxba_Twice,T.cxf1_Twice,T.cxf2_Twice,T.cxf3_Twice⟩,T.ck_6_Twice⟩ (.skip rfl .nil))))) h1 h2
noncomputable def zhu(c:Str):Option Bool:=[(("Missing" :Str),true),(("NoWord" :Str),true),(("TooMany" :Str),true),(("Twice" :Str),true)].lookup c
theorem zjo(T:Wd K mg): ∀r C b,(GT T).cl r=some C->zhu r=some b->z2e K C/\W.kitOne K (.ref C) (cvV (.ty "ValueError"))=some b:=fun r C b h1 h2=>Al2.at (Φ:=fun C b=>z2e K C/\W.kitOne K (.ref C) (cvV (.ty "ValueError"))=some b) (.cons ⟨⟨T.cxob_Missing,T.cxba_Missing,T.cxf1_Missing,T.cxf2_Missing,T.cxf3_Missing⟩,T.ck_7_Missing⟩ (.cons ⟨⟨T.cxob_NoWord,T.cxba_NoWord,T.cxf1_NoWord,T.cxf2_NoWord,T.cxf3_NoWord⟩,T.ck_7_NoWord⟩ (.cons ⟨⟨T.cxob_TooMany,T.cxba_TooMany,T.cxf1_TooMany,T.cxf2_TooMany,T.cxf3_TooMany⟩,T.ck_7_TooMany⟩ (.cons ⟨⟨T.cxob_Twice,T.cxba_Twice,T.cxf1_Twice,T.cxf2_Twice,T.cxf3_Twice⟩,T.ck_7_Twice⟩ (.skip rfl .nil))))) h1 h2
end
section
variable{P:Program}{w:World}{K:W.Frag}{mg:Str->Option Value}{base:Heap}
noncomputable def k9:MS:=(u0 (z41 (z3G "int" (y3 0)) (z6k (z3G "bool" (y3 0)))))
noncomputable def G8:FM:=z1n 1 k9
theorem z2L(T:Wd K mg):J1 P w K mg base CX0 1 T.kaf.f T.kaf.d X9 (spM (GT T) 1 G8):=okM k9 T.kaf.F z2J fun cdv A outer s H E F hr=>(ss_one (ss_ret (se_and (se_isi rfl (by decide) rfl T.n_isinstance (sv 0) (U0 (v:= .ty "int") rfl T.n_int PyProof.Rows.Boot.«int» rfl)) (se_one (se_not (se_isi rfl (by decide) rfl T.n_isinstance (sv 0) (U0 (v:= .ty "bool") rfl T.n_bool PyProof.Rows.Boot.«bool» rfl)))))))
noncomputable def z0d:MS:=(u0 (z41 (Y1 G8 [(y3 0)]) (z0s (y3 1) (y3 0) (y3 2) leD leD)))
noncomputable def Q3:FM:=z1n 3 z0d
theorem K0(T:Wd K mg):J1 P w K mg base CX0 2 T.kaj.f T.kaj.d z0b (spM (GT T) 3 Q3):=okM z0d T.kaj.F z3t fun cdv A outer s H E F hr=>(ss_one (ss_ret (se_and (scl T.kaf (z2L T) hr (s1 (sv 0))) (se_one (se_cmp2 z9w z9w (sv 1) (sv 0) (sv 2))))))
noncomputable def z1x:MS:=(W3 (sIf (mOr (z1d (j3 (z3G "tuple" (y3 0)))) (z1d (G6 (z0s (y3 1) (mCB [(y3 0)] z6I) (y3 2) leD leD)))) (u0 (mC (.bool false))) sNx)
 (u0 (mCB [(z0q (z03 (y3 0)) (.nm 0) (rt true) (Y1 Q3 [(y3 0),(mC (.int 0)),(y3 1)]) 1 [3])] z9k)))
noncomputable def x9:FM:=z1n 4 z1x
theorem z2o(T:Wd K mg):J1 P w K mg base CX0 3 T.kaC.f T.kaC.d z1s (spM (GT T) 4 x9):=okM z1x T.kaC.F z55 fun cdv A outer s H E F hr=>(ss_cons (ss_if (SW.sb (sw_or (sb_not (sb_truth rfl (se_isi rfl (by decide) rfl T.n_isinstance (sv 0) (U0 (v:= .ty "tuple") rfl T.n_tuple PyProof.Rows.Boot.«tuple» rfl)))) (sw_or1 (sb_not (sb_cmp2 z9w z9w (sv 1) (sln T.n_len (s1 (sv 0))) (sv 2)))))) (ss_one (ss_ret (sc0 z0n))) ss_nil)
 (ss_one (ss_ret (se_cb rfl (zaA rfl hr.hd) rfl T.n_all PyProof.Rows.Boot.«all» (s1 (se_comp (own:=["part"]) (frees:=["high"]) (ix:=[3]) rfl rfl (z0J.sc (by kernel_rfl)) (si_seq rfl (sv 0)) (fun _ _ _ _ _ _ _=>(sg_name (K8 (i:=0) (show D6 (["part", "high"]:List Str) by decide+kernel) rfl (Or.inl rfl)))) (fun _ _ _ _ _ _ _=>sts_nil) (fun _ _ _ _ _ _ _=>(scl T.kaj (K0 T) hr (s3 (sv 0) (sc0 y2) (sv 1))))))))))
noncomputable def z0C:MS:=(W3 (sIf (mOr (z1d (j3 (z3G "tuple" (y3 0)))) (G6 (Z0 (mCB [(y3 0)] z6I) (mC (.int 4)) neD))) (u0 (mC (.bool false))) sNx)
 (W3 (G5 (.tp [(.nm 1),(.nm 2),(.nm 3),(.nm 4)]) (y3 0))
 (W3 (sIf (mOr (z1d (j3 (Y1 x9 [(y3 1),(mC (.int 1)),(mC (.int 6)),(mC (.int 39))]))) (z1d (j3 (Y1 x9 [(y3 2),(mC (.int 1)),(mC (.int 4)),(mC (.int 999))])))) (u0 (mC (.bool false))) sNx)
 (u0 (z41 (Y1 Q3 [(y3 3),(mC (.int 0)),(mC (.int 7))]) (Y1 Q3 [(y3 4),(mC (.int 0)),(mC (.int 9999))]))))))
noncomputable def U4:FM:=z1n 5 z0C
theorem z1F(T:Wd K mg):J1 P w K mg base CX0 4 T.kao.f T.kao.d z0A (spM (GT T) 1 U4):=okM z0C T.kao.F g8 fun cdv A outer s H E F hr=>by
 have h64:=hr.units
 exact(ss_cons (ss_if (SW.sb (sw_or (sb_not (sb_truth rfl (se_isi rfl (by decide) rfl T.n_isinstance (sv 0) (U0 (v:= .ty "tuple") rfl T.n_tuple PyProof.Rows.Boot.«tuple» rfl)))) (sw_or1 (sb_cmp (z7I rfl h64) (sln T.n_len (s1 (sv 0))) (sc0 y2) (G2 _))))) (ss_one (ss_ret (sc0 z0n))) ss_nil)
 (ss_cons (ss_asg (sv 0) (sg_tup rfl rfl (sgs_cons (sgn 1 g8.nd) (sgs_cons (sgn 2 g8.nd) (sgs_cons (sgn 3 g8.nd) (sgs_cons (sgn 4 g8.nd) sgs_nil))))))
 (ss_cons (ss_if (SW.sb (sw_or (sb_not (sb_truth rfl (scl T.kaC (z2o T) hr (s4 (sv 1) (sc0 y2) (se_c rfl (Z8 (v:= .int 6) rfl T.c_MOST_WORD_SOUNDS.choose_spec ⟨_,rfl⟩)) (se_c rfl (Z8 (v:= .int 39) rfl T.c_LAST_SOUND.choose_spec ⟨_,rfl⟩)))))) (sw_or1 (sb_not (sb_truth rfl (scl T.kaC (z2o T) hr (s4 (sv 2) (sc0 y2) (se_c rfl (Z8 (v:= .int 4) rfl T.c_MOST_WORD_SIGNS.choose_spec ⟨_,rfl⟩)) (se_c rfl (Z8 (v:= .int 999) rfl T.c_LAST_WORD_SIGN.choose_spec ⟨_,rfl⟩))))))))) (ss_one (ss_ret (sc0 z0n))) ss_nil)
 (ss_one (ss_ret (se_and (scl T.kaj (K0 T) hr (s3 (sv 3) (sc0 y2) (se_c rfl (Z8 (v:= .int 7) rfl T.c_LAST_WORD_KIND.choose_spec ⟨_,rfl⟩)))) (se_one (scl T.kaj (K0 T) hr (s3 (sv 4) (sc0 y2) (se_c rfl (Z8 (v:= .int 9999) rfl T.c_LAST_WORD_COST.choose_spec ⟨_,rfl⟩)))))))))))
noncomputable def z56:MS:=(W3 (G5 (.nm 2) (mC (.int 0)))
 (W3 (sIf (G6 (Z0 (y3 1) (mCB [(y3 0)] z6I) ltD)) (G5 (.nm 2) (mCB [(Z0 (y3 0) (y3 1) ixD)] zd2)) sNx)
 (W3 (G5 (.nm 3) (Z0 (Z0 (Z0 (Z0 (Z0 (y3 2) (mC (.int 2147483629)) z2E) (Z0 (mC (.int 104729)) (y3 1) z6j) z02) (mC (.int 17)) z02) (mC (.int 5)) z9f) (mC (.int 2147483647)) z2E))
 (W3 (z4v (z04 [(mCB [(mCB [(y3 0)] z6I),(mC (.int 60))] zbT)]) (.nm 4) (G5 (.nm 3) (Z0 (Z0 (Z0 (Z0 (y3 3) (mC (.int 48271)) z6j) (Z0 (Z0 (Z0 (y3 0) (y3 4) ixD) (mC (.int 2147483587)) z2E) (Z0 (y3 4) (mC (.int 3)) z02) z6j) z02) (y3 4) z02) (mC (.int 2147483629)) z2E)))
 (W3 (sIf (G6 (Z0 (y3 2) (Z0 (mC (.int 10)) (mC (.int 18)) z9f) ltD)) (G5 (.nm 2) (mC (.int 0))) sNx)
 (u0 (mCB [(y3 2),(y3 3)] lstM)))))))
noncomputable def z2p:FM:=z1n 5 z56
theorem za1(T:Wd K mg):J1 P w K mg base CX0 1 T.kbk.f T.kbk.d z53 (spM (GT T) 2 z2p):=okM z56 T.kbk.F k8 fun cdv A outer s H E F hr=>(ss_cons (sst 2 k8.nd (sc0 y2))
 (ss_cons (ss_if (sb_cmp zeK (sv 1) (sln T.n_len (s1 (sv 0))) (G2 _)) (ss_one (sst 2 k8.nd (se_cb rfl zeN rfl T.n_abs PyProof.Rows.Boot.«abs» (s1 (sxx (sv 0) (sv 1)))))) ss_nil)
 (ss_cons (sst 3 k8.nd (se_mod rfl (se_pow rfl (se_add rfl (se_add rfl (se_mod rfl (sv 2) (sc0 y2)) (se_mul rfl (sc0 y2) (sv 1))) (sc0 y2)) (sc0 y2)) (sc0 y2)))
 (ss_cons (ss_for PassesOwn.never rfl (si_rng1 rfl T.n_range (s1 (se_cb rfl (zaz rfl) rfl T.n_min PyProof.Rows.Boot.«min» (s2 (sln T.n_len (s1 (sv 0))) (sc0 y2))))) (sgn 4 k8.nd) (ss_one (sst 3 k8.nd (se_mod rfl (se_add rfl (se_add rfl (se_mul rfl (sv 3) (sc0 y2)) (se_mul rfl (se_mod rfl (sxx (sv 0) (sv 4)) (sc0 y2)) (se_add rfl (sv 4) (sc0 y2)))) (sv 4)) (sc0 y2)))))
 (ss_cons (ss_if (sb_cmp zeK (sv 2) (se_pow rfl (sc0 y2) (sc0 y2)) (G2 _)) (ss_one (sst 2 k8.nd (sc0 y2))) ss_nil)
 (ss_one (ss_ret (se_lst rfl (s2 (sv 2) (sv 3))))))))))
noncomputable def z3v:MS:=(W3 (sIf (G6 (Z0 (Z0 (y3 0) (mC (.int 0)) ixD) (mC (.int 0)) gtD)) (W3 (G5 (.nm 2) (Z0 (Z0 (y3 0) (mC (.int 0)) ixD) (y3 1) z2E))
 (W3 (z5y (Z0 (Z0 (y3 0) (mC (.int 0)) ixD) (y3 1) z2D) (y3 0) (mC (.int 0)) zay)
 (u0 (y3 2)))) sNx)
 (W3 (z5y (Z0 (Z0 (Z0 (Z0 (y3 0) (mC (.int 1)) ixD) (mC (.int 48271)) z6j) (mC (.int 7919)) z02) (mC (.int 2147483647)) z2E) (y3 0) (mC (.int 1)) zay)
 (u0 (Z0 (Z0 (Z0 (Z0 (Z0 (Z0 (Z0 (y3 0) (mC (.int 1)) ixD) (mC (.int 3)) z9f) (mC (.int 2147483587)) z2E) (mC (.int 7)) z2D) (mC (.int 69621)) z6j) (mC (.int 1073741789)) z2E) (y3 1) z2E))))
noncomputable def Z5:FM:=z1n 3 z3v
theorem W8(T:Wd K mg):J1 P w K mg base CX0 1 T.kbc.f T.kbc.d z3o (spM (GT T) 2 Z5):=okM z3v T.kbc.F z4k fun cdv A outer s H E F hr=>(ss_cons (ss_if (sb_cmp zha (sxc (sv 0) y2) (sc0 y2) (G2 _)) (ss_cons (sst 2 z4k.nd (se_mod rfl (sxc (sv 0) y2) (sv 1)))
 (ss_cons (ss_setI (se_fdiv rfl (sxc (sv 0) y2) (sv 1)) (sv 0) (sc0 y2) (fun{to ti} h1 h2=>zaf h1 h2 z5m))
 (ss_one (ss_ret (sv 2))))) ss_nil)
 (ss_cons (ss_setI (se_mod rfl (se_add rfl (se_mul rfl (sxc (sv 0) y2) (sc0 y2)) (sc0 y2)) (sc0 y2)) (sv 0) (sc0 y2) (fun{to ti} h1 h2=>zaf h1 h2 z5m))
 (ss_one (ss_ret (se_mod rfl (se_mod rfl (se_mul rfl (se_fdiv rfl (se_mod rfl (se_pow rfl (sxc (sv 0) y2) (sc0 y2)) (sc0 y2)) (sc0 y2)) (sc0 y2)) (sc0 y2)) (sv 1))))))
noncomputable def z2q:MS:=(u0 (z41 (z3G "int" (y3 0)) (z6k (z3G "bool" (y3 0)))))
noncomputable def j9:FM:=z1n 1 z2q
theorem z2Z(T:Wd K mg):J1 P w K mg base CX0 1 T.kaJ.f T.kaJ.d z2m (spM (GT T) 1 j9):=okM z2q T.kaJ.F z6u fun cdv A outer s H E F hr=>(ss_one (ss_ret (se_and (se_isi rfl (by decide) rfl T.n_isinstance (sv 0) (U0 (v:= .ty "int") rfl T.n_int PyProof.Rows.Boot.«int» rfl)) (se_one (se_not (se_isi rfl (by decide) rfl T.n_isinstance (sv 0) (U0 (v:= .ty "bool") rfl T.n_bool PyProof.Rows.Boot.«bool» rfl)))))))
noncomputable def z3w:MS:=(W3 (G5 (.nm 1) (Z0 (Y1 Z5 [(y3 0),(mC (.int 3))]) (mC (.int 2)) z2D))
 (W3 (G5 (.nm 2) (mCB [(z0q (z04 [(Z0 (mC (.int 1)) (Y1 Z5 [(y3 0),(Z0 (mCB [(mC (.int 2)),(mC (.int 6))] lstM) (y3 1) ixD)]) z02)]) (.nm 0) (rt true) (Y1 Z5 [(y3 1),(Z0 (mCB [(mC (.int 2)),(mC (.int 40))] lstM) (y3 2) ixD)]) 1 [0,1])] zav))
 (W3 (G5 (.nm 3) (mCB [(z0q (z04 [(Z0 (mC (.int 1)) (Y1 Z5 [(y3 0),(Z0 (mCB [(mC (.int 2)),(mC (.int 4))] lstM) (y3 1) ixD)]) z02)]) (.nm 0) (rt true) (Y1 Z5 [(y3 1),(Z0 (mCB [(mC (.int 3)),(mC (.int 1000))] lstM) (y3 2) ixD)]) 1 [0,1])] zav))
 (u0 (mCB [(y3 2),(y3 3),(Y1 Z5 [(y3 0),(Z0 (mCB [(mC (.int 2)),(mC (.int 8))] lstM) (y3 1) ixD)]),(Y1 Z5 [(y3 0),(Z0 (mCB [(mC (.int 4)),(mC (.int 10000))] lstM) (y3 1) ixD)])] z0L)))))
noncomputable def z0X:FM:=z1n 4 z3w
theorem z87(T:Wd K mg):J1 P w K mg base CX0 2 T.kbd.f T.kbd.d z3p (spM (GT T) 1 z0X):=okM z3w T.kbd.F z0T fun cdv A outer s H E F hr=>(ss_cons (ss_set (fun{te} h=>zah (i:=1) z0T.nd rfl (Or.inr rfl) h) (se_fdiv rfl (scl T.kbc (W8 T) hr (s2 (sv 0) (sc0 y2))) (sc0 y2)))
 (ss_cons (sst 2 z0T.nd (se_ct rfl (z5z rfl) rfl T.n_tuple PyProof.Rows.Boot.«tuple» (s1 (se_comp (own:=["_law_k"]) (frees:=["_law_bag_here", "_law_wide"]) (ix:=[0,1]) rfl rfl (z0J.sc (by kernel_rfl)) (si_rng1 rfl T.n_range (s1 (se_add rfl (sc0 y2) (scl T.kbc (W8 T) hr (s2 (sv 0) (sxx (se_lst rfl (s2 (sc0 y2) (sc0 y2))) (sv 1))))))) (fun _ _ _ _ _ _ _=>(sg_name (K8 (i:=0) (show D6 (["_law_k", "_law_bag_here", "_law_wide"]:List Str) by decide+kernel) rfl (Or.inl rfl)))) (fun _ _ _ _ _ _ _=>sts_nil) (fun _ _ _ _ _ _ _=>(scl T.kbc (W8 T) hr (s2 (sv 1) (sxx (se_lst rfl (s2 (sc0 y2) (sc0 y2))) (sv 2)))))))))
 (ss_cons (sst 3 z0T.nd (se_ct rfl (z5z rfl) rfl T.n_tuple PyProof.Rows.Boot.«tuple» (s1 (se_comp (own:=["_law_k"]) (frees:=["_law_bag_here", "_law_wide"]) (ix:=[0,1]) rfl rfl (z0J.sc (by kernel_rfl)) (si_rng1 rfl T.n_range (s1 (se_add rfl (sc0 y2) (scl T.kbc (W8 T) hr (s2 (sv 0) (sxx (se_lst rfl (s2 (sc0 y2) (sc0 y2))) (sv 1))))))) (fun _ _ _ _ _ _ _=>(sg_name (K8 (i:=0) (show D6 (["_law_k", "_law_bag_here", "_law_wide"]:List Str) by decide+kernel) rfl (Or.inl rfl)))) (fun _ _ _ _ _ _ _=>sts_nil) (fun _ _ _ _ _ _ _=>(scl T.kbc (W8 T) hr (s2 (sv 1) (sxx (se_lst rfl (s2 (sc0 y2) (sc0 y2))) (sv 2)))))))))
 (ss_one (ss_ret (se_tup rfl (s4 (sv 2) (sv 3) (scl T.kbc (W8 T) hr (s2 (sv 0) (sxx (se_lst rfl (s2 (sc0 y2) (sc0 y2))) (sv 1)))) (scl T.kbc (W8 T) hr (s2 (sv 0) (sxx (se_lst rfl (s2 (sc0 y2) (sc0 y2))) (sv 1)))))))))))
noncomputable def K1:MS:=(W3 (sIf (z1d (j3 (z3G "list" (y3 0)))) (u0 (mC (.bool false))) sNx)
 (W3 (z4v (z03 (y3 0)) (.nm 1) (W3 (sIf (mOr (z1d (j3 (z3G "tuple" (y3 1)))) (mOr (z1d (j3 (z3G "tuple" (Z0 (y3 1) (mC (.int 0)) ixD)))) (z1d (j3 (z3G "tuple" (Z0 (y3 1) (mC (.int 1)) ixD)))))) (u0 (mC (.bool false))) sNx)
 (sIf (z1d (j3 (mCB [(z0q (z03 (Z0 (Z0 (Z0 (y3 1) (mC (.int 0)) ixD) (Z0 (y3 1) (mC (.int 1)) ixD) z02) (mSl (y3 1) (some (mC (.int 2))) none) z02)) (.nm 0) (rt true) (Y1 j9 [(y3 0)]) 1 [])] z9k))) (u0 (mC (.bool false))) sNx)))
 (u0 (mC (.bool true)))))
noncomputable def J0:FM:=z1n 2 K1
theorem z2M(T:Wd K mg):J1 P w K mg base CX0 2 T.kah.f T.kah.d k7 (spM (GT T) 1 J0):=okM K1 T.kah.F z0v fun cdv A outer s H E F hr=>(ss_cons (ss_if (sb_not (sb_truth rfl (se_isi rfl (by decide) rfl T.n_isinstance (sv 0) (U0 (v:= .ty "list") rfl T.n_list PyProof.Rows.Boot.«list» rfl)))) (ss_one (ss_ret (sc0 z0n))) ss_nil)
 (ss_cons (ss_for PassesOwn.never rfl (si_seq rfl (sv 0)) (sgn 1 z0v.nd) (ss_cons (ss_if (SW.sb (sw_or (sb_not (sb_truth rfl (se_isi rfl (by decide) rfl T.n_isinstance (sv 1) (U0 (v:= .ty "tuple") rfl T.n_tuple PyProof.Rows.Boot.«tuple» rfl)))) (sw_or (sb_not (sb_truth rfl (se_isi rfl (by decide) rfl T.n_isinstance (sxc (sv 1) y2) (U0 (v:= .ty "tuple") rfl T.n_tuple PyProof.Rows.Boot.«tuple» rfl)))) (sw_or1 (sb_not (sb_truth rfl (se_isi rfl (by decide) rfl T.n_isinstance (sxc (sv 1) y2) (U0 (v:= .ty "tuple") rfl T.n_tuple PyProof.Rows.Boot.«tuple» rfl)))))))) (ss_one (ss_ret (sc0 z0n))) ss_nil)
 (ss_one (ss_if (sb_not (sb_truth rfl (se_cb rfl (zaA rfl hr.hd) rfl T.n_all PyProof.Rows.Boot.«all» (s1 (se_comp (own:=["_law_one"]) (frees:=[]) (ix:=[]) rfl rfl (z0J.sc (by kernel_rfl)) (si_seq rfl (se_add rfl (se_add rfl (sxc (sv 1) y2) (sxc (sv 1) y2)) (se_slice rfl (sv 1) (so_some (sc0 y2)) so_none))) (fun _ _ _ _ _ _ _=>(sg_name (K8 (i:=0) (show D6 (["_law_one"]:List Str) by decide+kernel) rfl (Or.inl rfl)))) (fun _ _ _ _ _ _ _=>sts_nil) (fun _ _ _ _ _ _ _=>(scl T.kaJ (z2Z T) hr (s1 (sv 0))))))))) (ss_one (ss_ret (sc0 z0n))) ss_nil))))
 (ss_one (ss_ret (sc0 z0n)))))
noncomputable def z3x:MS:=(W3 (G5 (.nm 1) (mCB [(z5E zhn (y3 0)),(z5E zho (y3 0)),(z5E zhp (y3 0)),(z5E zhq (y3 0))] lstM))
 (W3 (G5 (.nm 2) (z5E zhr (y3 0)))
 (W3 (G5 (.nm 2) (zeu (y3 2) (z5E zhs (y3 0))))
 (W3 (sIf (mOr (j3 (y3 2)) (mOr (G6 (Z0 (z07 (y3 1) [(mC (.bool true))] zd8) (mC (.int 1)) neD)) (mOr (z1d (j3 (z5E zht (y3 0)))) (z1d (j3 (z5E zhu (y3 0))))))) (u0 (bd (mC (.int 1)) zeg)) sNx)
 (u0 (z07 (y3 1) [(mC (.bool true))] zd9))))))
noncomputable def z0Y:FM:=z1n 3 z3x
theorem z88(T:Wd K mg):z1o P w K mg base CX0 1 T.kbf.f T.kbf.d z3r (spM (GT T) 1 z0Y):=okH z3x T.kbf.F z0U fun cdv A outer s H E F hr=>by
 have h64:=hr.units
 exact(ss_cons (sst 1 z0U.nd (se_lst rfl (s4 (se_isX1 (c:= .ref T.ka7) rfl rfl (zjh T) rfl T.n_isinstance (sv 0) (Z8 (v:= .ref T.ka7) rfl T.kaL rfl)) (se_isX1 (c:= .ref T.kbh) rfl rfl (zji T) rfl T.n_isinstance (sv 0) (Z8 (v:= .ref T.kbh) rfl T.ka8 rfl)) (se_isX1 (c:= .ref T.kaS) rfl rfl (zjj T) rfl T.n_isinstance (sv 0) (Z8 (v:= .ref T.kaS) rfl T.kau rfl)) (se_isX1 (c:= .ref T.kaH) rfl rfl (zjk T) rfl T.n_isinstance (sv 0) (Z8 (v:= .ref T.kaH) rfl T.kax rfl)))))
 (ss_cons (sst 2 z0U.nd (se_isXT rfl (zjl T) rfl T.n_isinstance (sv 0) (z5D (cs:=[.ref T.kaN, .ref T.kaz, .ref T.kaY, .ref T.ka4, .ref T.kbe, .ref T.kaP, .ref T.kan, .ref T.ka9, .ref T.kbo, .ref T.kaX]) (Y2 (Z8 (v:= .ref T.kaN) rfl T.kaw rfl) (Y2 (Z8 (v:= .ref T.kaz) rfl T.kaq rfl) (Y2 (Z8 (v:= .ref T.kaY) rfl T.kaF rfl) (Y2 (Z8 (v:= .ref T.ka4) rfl T.kaT rfl) (Y2 (Z8 (v:= .ref T.kbe) rfl T.kaV rfl) (Y2 (Z8 (v:= .ref T.kaP) rfl T.kaA rfl) (Y2 (Z8 (v:= .ref T.kan) rfl T.kag rfl) (Y2 (Z8 (v:= .ref T.ka9) rfl T.kaK rfl) (Y2 (Z8 (v:= .ref T.kbo) rfl T.kbg rfl) (Y2 (Z8 (v:= .ref T.kaX) rfl T.kaO rfl) z0E)))))))))) (fun _ _ _ q=>q) rfl rfl)))
 (ss_cons (sst 2 z0U.nd (se_or (sv 2) (se_one (se_isXT rfl (zjm T) rfl T.n_isinstance (sv 0) (z5D (cs:=[.ref T.ka5, .ref T.kaU, .ref T.ka6, .ref T.kbl, .ref T.kar, .ref T.kbm, .ref T.kbb, .ref T.kaI, .ref T.kaD]) (Y2 (Z8 (v:= .ref T.ka5) rfl T.kaQ rfl) (Y2 (Z8 (v:= .ref T.kaU) rfl T.kaB rfl) (Y2 (Z8 (v:= .ref T.ka6) rfl T.kaG rfl) (Y2 (Z8 (v:= .ref T.kbl) rfl T.kaZ rfl) (Y2 (Z8 (v:= .ref T.kar) rfl T.kak rfl) (Y2 (Z8 (v:= .ref T.kbm) rfl T.kaW rfl) (Y2 (Z8 (v:= .ref T.kbb) rfl T.kaR rfl) (Y2 (Z8 (v:= .ref T.kaI) rfl T.kav rfl) (Y2 (Z8 (v:= .ref T.kaD) rfl T.kap rfl) z0E))))))))) (fun _ _ _ q=>q) rfl rfl)))))
 (ss_cons (ss_if (SW.sb (sw_or (sb_truth rfl (sv 2)) (sw_or (sb_cmp (z7I rfl h64) (se_cl rfl PySem.F.slot_list_count PySem.F.type_list_count (z9F rfl) (sv 1) (s1 (sc0 z0n))) (sc0 y2) (G2 _)) (sw_or (sb_not (sb_truth rfl (se_isX1 (c:= .ref T.kam) rfl rfl (zjn T) rfl T.n_isinstance (sv 0) (Z8 (v:= .ref T.kam) rfl T.kai rfl)))) (sw_or1 (sb_not (sb_truth rfl (se_isX1 (c:= .ty "ValueError") rfl rfl (zjo T) rfl T.n_isinstance (sv 0) (U0 (v:= .ty "ValueError") rfl T.n_ValueError PyProof.Rows.Boot.«ValueError» rfl))))))))) (ss_one (ss_ret (se_neg rfl (sc0 y2)))) ss_nil)
 (ss_one (ss_ret (se_cl rfl PySem.F.slot_list_index PySem.F.type_list_index (z9G rfl) (sv 1) (s1 (sc0 z0n)))))))))
noncomputable def z0Z:MS:=(W3 (sIf (G6 (Z0 (mCB [(y3 1),(y3 2),(y3 3)] z0L) (z5K (y3 0) "costs" W7) z9I)) (z2f "Missing") sNx)
 (z2H (z07 (z5K (y3 0) "costs" W7) [(mCB [(y3 1),(y3 2),(y3 3)] z0L)] zgl)))
noncomputable def z1a:FM:=zaD 4 z0Z
theorem z2N(T:Wd K mg):J1 P w K mg base (CX1 P w) 1 T.kae.f T.kae.d z0S (spX (GT T) 4 z1a):=okX z0Z T.kae.F z2K fun cdv A outer s H E F hr hx hrx=>by
 have h64:=hr.units
 exact(ss_cons (ss_if (sb_cmp (zc7 h64) (se_tup rfl (s3 (sv 1) (sv 2) (sv 3))) (se_fld (sv 0) (j8 T)) (by with_unfolding_all rfl)) (ss_one (ss_raise hr.hd hx hrx (z6v T) rfl T.kax T.kay)) ss_nil)
 (ss_one (ss_expr (se_cl rfl PySem.F.slot_list_pop PySem.F.type_list_pop zf6 (se_fld (sv 0) (j8 T)) (s1 (se_tup rfl (s3 (sv 1) (sv 2) (sv 3))))))))
noncomputable def z0e:MS:=(W3 (sIf (z1d (j3 (Y1 U4 [(y3 1)]))) (z2f "NoWord") sNx)
 (W3 (sIf (G6 (Z0 (mSl (y3 1) none (some (mC (.int 3)))) (z5K (y3 0) "costs" W7) zaE)) (z2f "Twice") sNx)
 (W3 (sIf (G6 (Z0 (mCB [(z5K (y3 0) "costs" W7)] zaM) (mC (.int 60)) geD)) (z2f "TooMany") sNx)
 (z5y (Z0 (y3 1) (mC (.int 3)) ixD) (z5K (y3 0) "costs" W7) (mSl (y3 1) none (some (mC (.int 3)))) z1J))))
noncomputable def v2:FM:=zaD 2 z0e
theorem z3y(T:Wd K mg):J1 P w K mg base (CX1 P w) 5 T.kal.f T.kal.d z0c (spX (GT T) 2 v2):=okX z0e T.kal.F z0W fun cdv A outer s H E F hr hx hrx=>by
 have h64:=hr.units
 exact(ss_cons (ss_if (sb_not (sb_truth rfl (scl T.kao (z1F T) hr (s1 (sv 1))))) (ss_one (ss_raise hr.hd hx hrx (z86 T) rfl T.kaL T.kaM)) ss_nil)
 (ss_cons (ss_if (sb_cmp (z7O h64) (se_slice rfl (sv 1) so_none (so_some (sc0 y2))) (se_fld (sv 0) (j8 T)) (by with_unfolding_all rfl)) (ss_one (ss_raise hr.hd hx hrx (za0 T) rfl T.ka8 T.ka3)) ss_nil)
 (ss_cons (ss_if (sb_cmp zbX (se_cb rfl z4Y rfl T.n_len PyProof.Rows.Boot.«len» (s1 (se_fld (sv 0) (j8 T)))) (se_c rfl (Z8 (v:= .int 60) rfl T.c_MOST_WORDS.choose_spec ⟨_,rfl⟩)) (G2 _)) (ss_one (ss_raise hr.hd hx hrx (z6w T) rfl T.kau T.kas)) ss_nil)
 (ss_one (ss_dput h64 (sxc (sv 1) y2) (se_fld (sv 0) (j8 T)) (se_slice rfl (sv 1) so_none (so_some (sc0 y2))))))))
noncomputable def v8:MS:=(W3 (sIf (z1d (j3 (Y1 U4 [(y3 1)]))) sNo sNx)
 (W3 (sIf (G6 (Z0 (mSl (y3 1) none (some (mC (.int 3)))) (z5K (y3 0) "costs" W7) zaE)) sNo sNx)
 (W3 (sIf (G6 (Z0 (mCB [(z5K (y3 0) "costs" W7)] zaM) (mC (.int 60)) geD)) sNo sNx)
 (z5y (Z0 (y3 1) (mC (.int 3)) ixD) (z5K (y3 0) "costs" W7) (mSl (y3 1) none (some (mC (.int 3)))) z1J))))
noncomputable def Q8:FM:=z1n 2 v8
theorem z2r(T:Wd K mg):J1 P w K mg base CX0 5 T.kal.f T.kal.d z0c (spM (GT T) 2 Q8):=okM v8 T.kal.F z0W fun cdv A outer s H E F hr=>by
 have h64:=hr.units
 exact(ss_cons (ss_if (sb_not (sb_truth rfl (scl T.kao (z1F T) hr (s1 (sv 1))))) (ss_one ss_no) ss_nil)
 (ss_cons (ss_if (sb_cmp (z7O h64) (se_slice rfl (sv 1) so_none (so_some (sc0 y2))) (se_fld (sv 0) (j8 T)) (by with_unfolding_all rfl)) (ss_one ss_no) ss_nil)
 (ss_cons (ss_if (sb_cmp zbX (se_cb rfl z4Y rfl T.n_len PyProof.Rows.Boot.«len» (s1 (se_fld (sv 0) (j8 T)))) (se_c rfl (Z8 (v:= .int 60) rfl T.c_MOST_WORDS.choose_spec ⟨_,rfl⟩)) (G2 _)) (ss_one ss_no) ss_nil)
 (ss_one (ss_dput h64 (sxc (sv 1) y2) (se_fld (sv 0) (j8 T)) (se_slice rfl (sv 1) so_none (so_some (sc0 y2))))))))
noncomputable def z1O:MS:=(zd7 G7 3 (W3 (sIf (G6 (Z0 (y3 0) (mC (.str ("put" :Str))) eqD)) (u0 (z4X "Book" "put" v2 (y3 1) [(y3 2)])) sNx)
 (u0 (z4X "Book" "take" z1a (y3 1) [(Z0 (y3 2) (mC (.int 0)) ixD),(Z0 (y3 2) (mC (.int 1)) ixD),(Z0 (y3 2) (mC (.int 2)) ixD)]))) (u0 (Y1 z0Y [(y3 3)])))
noncomputable def z0k:FM:=z1n 4 z1O
theorem z89(T:Wd K mg):J1 P w K mg base CX0 6 T.kba.f T.kba.d z3s (spM (GT T) 3 z0k):=okM z1O T.kba.F z4l fun cdv A outer s H E F hr=>by
 have h64:=hr.units
 exact(ss_one (ss_try rfl rfl rfl rfl rfl T.kai z4l.nd rfl rfl (z3u T) (fun pl E1 F1 E2 hx=>(ss_cons (ss_if (sb_cmp (zhb rfl h64) (sv 0) (sc0 z6S) (G2 _)) (ss_one (ss_ret (se_mthX hx (z0B T) T.cc_Book T.kal.h ((z3y T).mono (by lia)) hr T.kal.b (sv 1) (s1 (sv 2)) rfl))) ss_nil)
 (ss_one (ss_ret (se_mthX hx (z0B T) T.cc_Book T.kae.h ((z2N T).mono (by lia)) hr T.kae.b (sv 1) (s3 (sxc (sv 2) y2) (sxc (sv 2) y2) (sxc (sv 2) y2)) rfl))))) (fun ax=>(ss_one (ss_ret (se_callH rfl ((z88 T).mono (by lia)) (hr.h _) rfl T.kbf.m T.kbf.F.kp T.kbf.b z4E (s1 (sv 3)) rfl))))))
noncomputable def z57:MS:=(W3 (sIf (G6 (Z0 (mSl (y3 1) none (some (mC (.int 3)))) (y3 0) zaE)) (u0 (mC (.int 1))) sNx)
 (W3 (sIf (G6 (Z0 (mCB [(y3 0)] zaM) (mC (.int 60)) geD)) (u0 (mC (.int 2))) sNx)
 (u0 (mC .non))))
noncomputable def z2s:FM:=z1n 2 z57
theorem za2(T:Wd K mg):J1 P w K mg base CX0 1 T.kbi.f T.kbi.d z54 (spM (GT T) 2 z2s):=okM z57 T.kbi.F z9Z fun cdv A outer s H E F hr=>by
 have h64:=hr.units
 exact(ss_cons (ss_if (sb_cmp (z7O h64) (se_slice rfl (sv 1) so_none (so_some (sc0 y2))) (sv 0) (by with_unfolding_all rfl)) (ss_one (ss_ret (sc0 y2))) ss_nil)
 (ss_cons (ss_if (sb_cmp zbX (se_cb rfl z4Y rfl T.n_len PyProof.Rows.Boot.«len» (s1 (sv 0))) (sc0 y2) (G2 _)) (ss_one (ss_ret (sc0 y2))) ss_nil)
 (ss_one (ss_ret (sc0 z2O)))))
noncomputable def V0:MS:=(u0 (mCB [(bd (z5K (y3 0) "costs" W7) zcg)] zaK))
noncomputable def W6:FM:=z1n 1 V0
theorem z0f(T:Wd K mg):J1 P w K mg base CX0 1 T.kad.f T.kad.d z0u (spM (GT T) 1 W6):=okM V0 T.kad.F z2n fun cdv A outer s H E F hr=>by
 have h64:=hr.units
 exact(ss_one (ss_ret (se_cb rfl (z7Z rfl h64) rfl T.n_sorted PyProof.Rows.Boot.«sorted» (s1 (se_rowI (own:=["name", "cost"]) rfl rfl (z0J.sc (by kernel_rfl)) (se_fld (sv 0) (j8 T)) rfl (fun _ _ _ _ _ _=>zae rfl (z36 (K8 (i:=0) (show D6 (["name", "cost"]:List Str) by decide+kernel) rfl (Or.inl rfl)) (z36 (K8 (i:=1) (show D6 (["name", "cost"]:List Str) by decide+kernel) rfl (Or.inl rfl)) z6T))) (fun _ _ _ _ _ _=>zbd z4G (pv 0) (z73 (Y2 (pv 1) z0E))))))))
noncomputable def G1:MS:=(u0 (z4Z (z5K (y3 0) "costs" W7) (mCB [(y3 1),(y3 2),(y3 3)] z0L)))
noncomputable def W9:FM:=z1n 4 G1
theorem z1y(T:Wd K mg):J1 P w K mg base CX0 1 T.kac.f T.kac.d K6 (spM (GT T) 4 W9):=okM G1 T.kac.F z1w fun cdv A outer s H E F hr=>by
 have h64:=hr.units
 exact(ss_one (ss_ret (se_get1 rfl h64 (se_fld (sv 0) (j8 T)) (se_tup rfl (s3 (sv 1) (sv 2) (sv 3))) ⟨rfl,rfl,rfl,rfl⟩)))
noncomputable def z1z:MS:=(W3 (G5 (.nm 3) (mCB [(bd (y3 1) zaN)] zaK))
 (W3 (z4v (z04 [(mC (.int 2))]) (.nm 4) (W3 (G5 (.nm 5) (z4V "Book" "words" W6 (y3 0) []))
 (W3 (sIf (mOr (z1d (j3 (Y1 J0 [(y3 5)]))) (G6 (Z0 (y3 5) (y3 3) neD))) (u0 (mC (.bool false))) sNx)
 (W3 (z2H (z07 (y3 5) [(mC .non)] z9s))
 (z2H (z07 (y3 5) [] zd5))))))
 (W3 (z4v (z03 (mCB [(mSl (y3 2) none (some (mC (.int 3)))),(mCB [(Z0 (mCB [(Z0 (mC (.int 39)) (Z0 (Z0 (y3 2) (mC (.int 0)) ixD) (mC (.int 0)) ixD) z9e)] z0L) (mSl (Z0 (y3 2) (mC (.int 0)) ixD) (some (mC (.int 1))) none) z02),(Z0 (y3 2) (mC (.int 1)) ixD),(Z0 (y3 2) (mC (.int 2)) ixD)] z0L),(mCB [(Z0 (y3 2) (mC (.int 0)) ixD),(Z0 (y3 2) (mC (.int 1)) ixD),(Z0 (mC (.int 7)) (Z0 (y3 2) (mC (.int 2)) ixD) z9e)] z0L)] lstM)) (.nm 6) (W3 (G5 (.nm 7) (z4V "Book" "cost_of" W9 (y3 0) [(Z0 (y3 6) (mC (.int 0)) ixD),(Z0 (y3 6) (mC (.int 1)) ixD),(Z0 (y3 6) (mC (.int 2)) ixD)]))
 (sIf (mOr (G6 (Z0 (y3 7) (z4f (y3 1) (y3 6) (mC .non)) neD)) (zet (G6 (Z0 (y3 7) (mC .non) zau)) (z1d (j3 (Y1 j9 [(y3 7)]))))) (u0 (mC (.bool false))) sNx)))
 (u0 (mC (.bool true))))))
noncomputable def X0:FM:=z1n 8 z1z
theorem z58(T:Wd K mg):J1 P w K mg base CX0 3 T.kat.f T.kat.d z1t (spM (GT T) 3 X0):=okM z1z T.kat.F J6 fun cdv A outer s H E F hr=>by
 have h64:=hr.units
 exact(ss_cons (sst 3 J6.nd (se_cb rfl (z7Z rfl h64) rfl T.n_sorted PyProof.Rows.Boot.«sorted» (s1 (se_rowK (i:=1) (own:=["_law_key"]) (frees:=["_law_model"]) rfl rfl (z0J.sc (by kernel_rfl)) (pv 1) rfl (fun _ _ _ _ _ _=>K8 (i:=0) (show D6 (["_law_key", "_law_model"]:List Str) by decide+kernel) rfl (Or.inl rfl)) (fun _ _ _ _ _ _=>zbd z4G (pv 0) (z73 (Y2 (zbB (B1 (Nat.add_le_add_left (by decide:2<=64) _) h64) (pv 1) (pv 0) (fun _ _=>rfl)) z0E)))))))
 (ss_cons (ss_for PassesOwn.never rfl (si_rng1 rfl T.n_range (s1 (sc0 y2))) (sgn 4 J6.nd) (ss_cons (sst 5 J6.nd (se_mth0 (z0B T) T.cc_Book T.kad.h ((z0f T).mono (by lia)) hr T.kad.b z4E (sv 0) rfl))
 (ss_cons (ss_if (SW.sb (sw_or (sb_not (sb_truth rfl (scl T.kah (z2M T) hr (s1 (sv 5))))) (sw_or1 (sb_cmp (z7I rfl h64) (sv 5) (sv 3) (G2 _))))) (ss_one (ss_ret (sc0 z0n))) ss_nil)
 (ss_cons (ss_expr (se_cl rfl PySem.F.slot_list_append PySem.F.type_list_append z44 (sv 5) (s1 (sc0 z2O))))
 (ss_one (ss_expr (se_cl0 rfl PySem.F.slot_list_reverse PySem.F.type_list_reverse z6o (sv 5))))))))
 (ss_cons (ss_for PassesOwn.never rfl (si_seq rfl (se_lst rfl (s3 (se_slice rfl (sv 2) so_none (so_some (sc0 y2))) (se_tup rfl (s3 (se_add rfl (se_tup rfl (s1 (se_sub rfl (sc0 y2) (sxc (sxc (sv 2) y2) y2)))) (se_slice rfl (sxc (sv 2) y2) (so_some (sc0 y2)) so_none)) (sxc (sv 2) y2) (sxc (sv 2) y2))) (se_tup rfl (s3 (sxc (sv 2) y2) (sxc (sv 2) y2) (se_sub rfl (sc0 y2) (sxc (sv 2) y2))))))) (sgn 6 J6.nd) (ss_cons (sst 7 J6.nd (se_mth (z0B T) T.cc_Book T.kac.h ((z1y T).mono (by lia)) hr T.kac.b z4E (sv 0) (s3 (sxc (sv 6) y2) (sxc (sv 6) y2) (sxc (sv 6) y2)) rfl))
 (ss_one (ss_if (SW.sb (sw_or (sb_cmp (z7I rfl h64) (sv 7) (se_getT rfl h64 (sv 1) (sv 6) (sc0 z2O) ⟨rfl,rfl,rfl,rfl⟩) (G2 _)) (sw_or1 (SW.sb (sw_and (sb_cmp z7J (sv 7) (sc0 z2O) (G2 _)) (sw_and1 (sb_not (sb_truth rfl (scl T.kaJ (z2Z T) hr (s1 (sv 7))))))))))) (ss_one (ss_ret (sc0 z0n))) ss_nil))))
 (ss_one (ss_ret (sc0 z0n))))))
noncomputable def J7:MS:=(z9K z4S (y3 0) "costs" W7)
noncomputable def Y5:FM:=z1n 1 J7
theorem z1b(T:Wd K mg):J1 P w K mg base CX0 1 T.kab.f T.kab.d V9 (spM (GT T) 1 Y5):=okM J7 T.kab.F z0V fun cdv A outer s H E F hr=>(ss_one (ss_fld (sv 0) (se_dnew rfl) (j8 T)))
noncomputable def zcl:MS:=(W3 (z4v (z04 [(mCB [(mC (.int 1)),(mCB [(mC (.int 2)),(mCB [(y3 0)] z6I)] zbT)] zd3)]) (.nm 1) (W3 (G5 (.nm 2) (Y1 z2p [(y3 0),(y3 1)]))
 (W3 (G5 (.nm 3) (Z0 (mCB [(mC (.int 0)),(mC (.int 0)),(mC (.int 0)),(Z0 (mC (.int 55)) (Y1 Z5 [(y3 2),(mC (.int 6))]) z02)] lstM) (Y1 Z5 [(y3 2),(mC (.int 4))]) ixD))
 (W3 (G5 (.nm 4) (z4W "Book" Y5 []))
 (W3 (G5 (.nm 5) z4S)
 (W3 (z4v (z04 [(y3 3)]) (.nm 6) (W3 (G5 (.nm 7) (mCB [(mCB [(Z0 (y3 6) (mC (.int 40)) z2E),(Y1 Z5 [(y3 2),(mC (.int 40))])] z0L),(mCB [(y3 6)] z0L),(Z0 (y3 6) (mC (.int 8)) z2E),(Y1 Z5 [(y3 2),(mC (.int 10000))])] z0L))
 (W3 (sIf (G6 (Z0 (z4V "Book" "put" Q8 (y3 4) [(y3 7)]) (mC .non) zau)) (u0 (mC (.bool false))) sNx)
 (z5y (Z0 (y3 7) (mC (.int 3)) ixD) (y3 5) (mSl (y3 7) none (some (mC (.int 3)))) z1J))))
 (z4v (z04 [(Z0 (mC (.int 4)) (Y1 Z5 [(y3 2),(mC (.int 9))]) z02)]) (.nm 8) (W3 (G5 (.nm 7) (Y1 z0X [(y3 2)]))
 (W3 (G5 (.nm 9) (Y1 z2s [(y3 5),(y3 7)]))
 (W3 (G5 (.nm 10) (z4V "Book" "words" W6 (y3 4) []))
 (W3 (z2H (z07 (y3 10) [(mC (.int 7))] z9s))
 (W3 (G5 (.nm 11) (mCB [(y3 10)] z9P))
 (W3 (sIf (G6 (Z0 (Y1 z0k [(mC (.str ("put" :Str))),(y3 4),(y3 7)]) (y3 9) neD)) (u0 (mC (.bool false))) sNx)
 (W3 (sIf (G6 (Z0 (y3 9) (mC .non) isN)) (z5y (Z0 (y3 7) (mC (.int 3)) ixD) (y3 5) (mSl (y3 7) none (some (mC (.int 3)))) z1J) sNx)
 (sIf (mOr (z1d (j3 (Y1 X0 [(y3 4),(y3 5),(y3 7)]))) (G6 (Z0 (mCB [(y3 10)] z9P) (y3 11) neS))) (u0 (mC (.bool false))) sNx)))))))))))))))
 (u0 (mC (.bool true))))
noncomputable def f_law:FM:=z1n 12 zcl
theorem zff(T:Wd K mg):J1 P w K mg base CX0 7 T.x_law.f T.x_law.d zck (spM (GT T) 1 f_law):=okM zcl T.x_law.F x8 fun cdv A outer s H E F hr=>by
 have h64:=hr.units
 exact(ss_cons (ss_for PassesOwn.never rfl (si_rng1 rfl T.n_range (s1 (se_cb rfl (zeO rfl) rfl T.n_max PyProof.Rows.Boot.«max» (s2 (sc0 y2) (se_cb rfl (zaz rfl) rfl T.n_min PyProof.Rows.Boot.«min» (s2 (sc0 y2) (sln T.n_len (s1 (sv 0))))))))) (sgn 1 x8.nd) (ss_cons (sst 2 x8.nd (scl T.kbk (za1 T) hr (s2 (sv 0) (sv 1))))
 (ss_cons (sst 3 x8.nd (sxx (se_lst rfl (s4 (sc0 y2) (sc0 y2) (sc0 y2) (se_add rfl (sc0 y2) (scl T.kbc (W8 T) hr (s2 (sv 2) (sc0 y2)))))) (scl T.kbc (W8 T) hr (s2 (sv 2) (sc0 y2)))))
 (ss_cons (sst 4 x8.nd (se_make0 rfl (z0B T) T.mk_Book ((z1b T).mono (by lia)) hr rfl T.kbj T.kab.b z4E rfl))
 (ss_cons (sst 5 x8.nd (se_dnew rfl))
 (ss_cons (ss_for PassesOwn.never rfl (si_rng1 rfl T.n_range (s1 (sv 3))) (sgn 6 x8.nd) (ss_cons (sst 7 x8.nd (se_tup rfl (s4 (se_tup rfl (s2 (se_mod rfl (sv 6) (sc0 y2)) (scl T.kbc (W8 T) hr (s2 (sv 2) (sc0 y2))))) (se_tup rfl (s1 (sv 6))) (se_mod rfl (sv 6) (sc0 y2)) (scl T.kbc (W8 T) hr (s2 (sv 2) (sc0 y2))))))
 (ss_cons (ss_if (sb_cmp z7J (se_mth (z0B T) T.cc_Book T.kal.h ((z2r T).mono (by lia)) hr T.kal.b z4E (sv 4) (s1 (sv 7)) rfl) (sc0 z2O) (G2 _)) (ss_one (ss_ret (sc0 z0n))) ss_nil)
 (ss_one (ss_dput h64 (sxc (sv 7) y2) (sv 5) (se_slice rfl (sv 7) so_none (so_some (sc0 y2))))))))
 (ss_one (ss_for PassesOwn.never rfl (si_rng1 rfl T.n_range (s1 (se_add rfl (sc0 y2) (scl T.kbc (W8 T) hr (s2 (sv 2) (sc0 y2)))))) (sgn 8 x8.nd) (ss_cons (sst 7 x8.nd (scl T.kbd (z87 T) hr (s1 (sv 2))))
 (ss_cons (sst 9 x8.nd (scl T.kbi (za2 T) hr (s2 (sv 5) (sv 7))))
 (ss_cons (sst 10 x8.nd (se_mth0 (z0B T) T.cc_Book T.kad.h ((z0f T).mono (by lia)) hr T.kad.b z4E (sv 4) rfl))
 (ss_cons (ss_expr (se_cl rfl PySem.F.slot_list_append PySem.F.type_list_append z44 (sv 10) (s1 (sc0 y2))))
 (ss_cons (sst 11 x8.nd (se_cb rfl (zaH rfl hr.gd h64) rfl T.n_repr PyProof.Rows.Boot.«repr» (s1 (sv 10))))
 (ss_cons (ss_if (sb_cmp (z7I rfl h64) (scl T.kba (z89 T) hr (s3 (sc0 z6S) (sv 4) (sv 7))) (sv 9) (G2 _)) (ss_one (ss_ret (sc0 z0n))) ss_nil)
 (ss_cons (ss_if (sb_cmp zeL (sv 9) (sc0 z2O) (G2 _)) (ss_one (ss_dput h64 (sxc (sv 7) y2) (sv 5) (se_slice rfl (sv 7) so_none (so_some (sc0 y2))))) ss_nil)
 (ss_one (ss_if (SW.sb (sw_or (sb_not (sb_truth rfl (scl T.kat (z58 T) hr (s3 (sv 4) (sv 5) (sv 7))))) (sw_or1 (sb_cmp zfa (se_cb rfl (zaH rfl hr.gd h64) rfl T.n_repr PyProof.Rows.Boot.«repr» (s1 (sv 10))) (sv 11) (G2 _))))) (ss_one (ss_ret (sc0 z0n))) ss_nil)))))))))))))))))
 (ss_one (ss_ret (sc0 z0n))))
end
end My
namespace Mi
open PySem L2
theorem J8{α:Type}(xs ys:List α)(k:Nat)(h:xs.length=k):(xs++ys).drop k=ys:=by subst h;simp
theorem z0l{α:Type}(xs ys:List α)(k:Nat)(h:xs.length=k):(xs++ys).take k=xs:=by subst h;simp
theorem K2: ∀ds:List D,Z1 (ds.map some)=some ds
 |[]=>rfl
 |d::ds=>by simp[Z1,K2 ds]
theorem z6x{me:M D}{g:D->D}{ds:List D}{fr σ0 tm0:List (Option D)}{ol:Nat}(hol:σ0.length=ol)(hz:ds.length<sizeLine)
 (hme: ∀d∈ds,∀tm n,∃n',n<=n'/\me ⟨some d::fr,tm,n⟩= .ok (g d) ⟨some d::fr,tm,n'⟩):
 ∀(f i:Nat) (o:Option D) (n:Nat),i+f=ds.length->∃n',n<=n'/\U9 zax (.nm 0) (rt true) me ol f i i ⟨o::fr,(((ds.take i).map g).reverse.map some)++(σ0++(some (.tup ds)::tm0)),n⟩= .ok (.lst n' (ds.map g)) ⟨σ0,tm0,n'+1⟩:=by
 intro f
 induction f with
 |zero=>
  intro i o n hi
  have hi:i=ds.length:=by lia
  subst hi
  refine⟨n,e8 _, ?_⟩
  have l1:(((ds.take ds.length).map g).reverse.map some).length=ds.length:=by simp
  unfold U9
  have e1:(((((ds.take ds.length).map g).reverse.map some)++(σ0++(some (D.tup ds)::tm0))).drop (ds.length+ol))=some (D.tup ds)::tm0:=by
   rw[<-m9];exact J8 _ _ _ (by simp[hol])
  erw[e1,zax,z9l,List.getElem?_eq_none (e8 ds.length)]
  rw[z0l _ _ _ l1]
  have e2:(((ds.take ds.length).map g).reverse.map some).reverse=(ds.map g).map some:=by simp
  rw[e2,K2]
  erw[Res.ok.injEq,true_and,Stt.mk.injEq,and_true]
  constructor
  ·rw[J8 _ _ _ l1,z0l _ _ _ hol]
  ·rw[<-m9]
   have:(((((ds.take ds.length).map g).reverse.map some)++σ0)++(some (D.tup ds)::tm0)).drop (ds.length+ol+1)=((((((ds.take ds.length).map g).reverse.map some)++σ0)++(some (D.tup ds)::tm0)).drop (ds.length+ol)).drop 1:=by rw[D2]
   rw[this,J8 _ _ _ (by simp[hol])]
   rfl
 |succ f ih=>
  intro i o n hi
  have hlt:i<ds.length:=by lia
  have l1:(((ds.take i).map g).reverse.map some).length=i:=by simp;lia
  unfold U9
  have e1:(((((ds.take i).map g).reverse.map some)++(σ0++(some (D.tup ds)::tm0))).drop (i+ol))=some (D.tup ds)::tm0:=by
   rw[<-m9];exact J8 _ _ _ (by simp[hol];lia)
  erw[e1,zax,z9l,List.getElem?_eq_getElem hlt,asg,r6,rt]
  rw[if_pos (by lia)]
  obtain⟨n1,hn1,h1⟩:=hme ds[i] (C4 hlt) ((((ds.take i).map g).reverse.map some)++(σ0++(some (D.tup ds)::tm0))) n
  rw[h1]
  obtain⟨n2,hn2,h2⟩:=ih (i+1) (some ds[i]) n1 (by lia)
  refine⟨n2,by lia, ?_⟩
  rw[<-h2]
  erw[Stt.psh]
  have e3:ds.take (i+1)=ds.take i++[ds[i]]:=by rw[List.take_add_one,List.getElem?_eq_getElem hlt];rfl
  rw[e3]
  erw[C1,b9,l3,C6,l9,B8,m8,l7]
  rfl
theorem z8a{mc me:M D}{g:D->D}{ds:List D}{ix:List Nat}{s s1:Stt}(hc:mc s= .ok (.tup ds) s1)(hz:ds.length<sizeLine)
 (hme: ∀d∈ds,∀tm n,∃n',n<=n'/\me ⟨some d::(ix.map fun i=>(s1.σ[i]?).getD none),tm,n⟩= .ok (g d) ⟨some d::(ix.map fun i=>(s1.σ[i]?).getD none),tm,n'⟩):
 ∃n',s1.n<=n'/\z0q (z03 mc) (.nm 0) (rt true) me 1 ix s= .ok (.lst n' (ds.map g)) {s1 with n:=n'+1}:=by
 obtain⟨n',h1,h2⟩:=z6x (me:=me) (g:=g) (ds:=ds) (σ0:=s1.σ) (tm0:=s1.tm) rfl hz hme ds.length 0 none s1.n (by lia)
 refine⟨n',h1, ?_⟩
 unfold z0q z03
 erw[bd,hc,Stt.psh]
 erw[List.take_zero,l3,B8,m8] at h2
 erw[zax,z7B,z5v,e6] at h2⊢
 exact h2
theorem z8b(ds:List D)(g:D->Bool):j7 (ds.map fun d=> .bool (g d))=some (ds.map g):=by
 induction ds with
 |nil=>rfl
 |cons d ds ih=>simp[j7,ih]
theorem z6y{t:D}{ts:List D}{n':Nat}{s:Stt}:z0r (.ok t ts n') ts s= .ok t {s with n:=n'}:=by
 unfold z0r;simp
end Mi
set_option maxHeartbeats 40000
namespace Mi
open PySem L2
class Kq{α:Type}(f:α):Type where
instance kq{α:Type}(f:α):Kq f:=⟨⟩
noncomputable def Res.bnd{α β:Type}(f:α->Stt->Res β)[Kq f](r:Res α):Res β:=match r with
 | .ok a s=>f a s
 | .ex d s=> .ex d s
 | .no=> .no
theorem z2t{α β:Type}{a:α}{s:Stt}{f:α->Stt->Res β}:((Res.ok a s).bnd f:Res β)=f a s:=(rfl)
noncomputable def Res.lf{α:Type}(f:α->MS)[Kq f](r:Res α):RS:=match r with
 | .ok a s=>f a s
 | .ex d s=> .ex d s
 | .no=> .no
theorem zhv{α:Type}{a:α}{s:Stt}{f:α->MS}:((Res.ok a s).lf f:RS)=f a s:=(rfl)
noncomputable def RS.sq(m:MS)[Kq m](r:RS):RS:=match r with
 | .nx s=>m s
 |r=>r
theorem zhw{s:Stt}{m:MS}:((RS.nx s).sq m:RS)=m s:=(rfl)
theorem zhx{d:D}{s:Stt}{m:MS}:((RS.rt d s).sq m:RS)= .rt d s:=(rfl)
noncomputable def RS.fin(r:RS):RF:=match r with
 | .nx s'=>match Z1 s'.tm with|some ts'=> .ok .non ts' s'.n|none=> .no
 | .rt t s'=>match Z1 s'.tm with|some ts'=> .ok t ts' s'.n|none=> .no
 | .ex d s'=>match Z1 s'.tm with|some ts'=> .ex d ts' s'.n|none=> .no
 |_=> .no
noncomputable def zcm(o:Option (List D))(t:D)(n:Nat):RF:=match o with|some ts=> .ok t ts n|none=> .no
theorem z8c{ts:List D}{t:D}{n:Nat}:zcm (some ts) t n= .ok t ts n:=(rfl)
theorem zhy{t:D}{σ tm:List (Option D)}{n:Nat}:(RS.rt t ⟨σ,tm,n⟩).fin=zcm (Z1 tm) t n:=(rfl)
theorem zhz{σ tm:List (Option D)}{n:Nat}:(RS.nx ⟨σ,tm,n⟩).fin=zcm (Z1 tm) .non n:=(rfl)
theorem zhA{nl:Nat}{mb:MS}{ts:List D}{n:Nat}:z1n nl mb ts n=(mb ⟨ts.map some++e6 (nl -ts.length) none,ts.map some,n⟩).fin:=(rfl)
section
variable{α β:Type}{m ma mb mc:M D}{s:Stt}{ms:List (M D)}{σ tm:List (Option D)}{n:Nat}
theorem zhB{m:M α}{f:α->M β}:bd m f s=(m s).bnd f:=(rfl)
theorem zjp{a:α}:rt a s= .ok a s:=(rfl)
theorem zfg{t:D}:Stt.psh ⟨σ,tm,n⟩ t=⟨σ,some t::tm,n⟩:=(rfl)
theorem zhC:Stt.nxt ⟨σ,tm,n⟩=⟨σ,tm,n+1⟩:=(rfl)
theorem zhD{t:D}{r:List (Option D)}:pop ⟨σ,some t::r,n⟩= .ok t ⟨σ,r,n⟩:=(rfl)
noncomputable def vOf(o:Option (Option D))(s:Stt):Res D:=match o with
 |some (some t)=> .ok t s
 |_=> .no
theorem za3{t:D}:vOf (some (some t)) s= .ok t s:=(rfl)
theorem zhE{i:Nat}:y3 i ⟨σ,tm,n⟩=vOf (σ[i]?) ⟨σ,tm,n⟩:=by
 unfold y3 vOf
 cases σ[i]? with
 |none=>rfl
 |some o=>cases o<;>rfl
theorem x_C{d:D}:mC d s= .ok d s:=(rfl)
theorem zcn{g:D->D->M D}:Z0 ma mb g s=(ma s).bnd fun x s1=>(mb (s1.psh x)).bnd fun y s2=>(pop s2).bnd fun x' s3=>g x' y s3:=(rfl)
theorem zhF:G6 m s=(m s).bnd zd1:=(rfl)
theorem zfh{b:Bool}:zd1 (.bool b) s= .ok b s:=(rfl)
theorem zfi:j3 m s=(m s).bnd zer:=(rfl)
theorem zjq{b:Bool}:zer (.bool b) s= .ok b s:=(rfl)
theorem zhG{m m':M Bool}:zet m m' s=(m s).bnd fun b=>z4u b m' (rt false):=(rfl)
theorem zjr{m m':M Bool}:mOr m m' s=(m s).bnd fun b=>z4u b (rt true) m':=(rfl)
theorem zhH{m:M Bool}:z1d m s=(m s).bnd fun b s1=> .ok (!b) s1:=(rfl)
theorem zfj{m m':M D}:z41 m m' s=(m s).bnd fun d s1=>(zd1 d s1).bnd fun b=>z4u b m' (rt (.bool false)):=by
 unfold z41 G6 bd Res.bnd
 cases m s<;>rfl
theorem zhI{m m':M D}:zeu m m' s=(m s).bnd fun d s1=>(zd1 d s1).bnd fun b=>z4u b (rt (.bool true)) m':=by
 unfold zeu G6 bd Res.bnd
 cases m s<;>rfl
theorem zfk{m:M D}:z6k m s=(m s).bnd fun d s1=>(zd1 d s1).bnd fun b=>rt (.bool (!b)):=by
 unfold z6k G6 bd Res.bnd
 cases m s<;>rfl
theorem zjs{m m':M α}:z4u true m m' s=m s:=(rfl)
theorem zjt{m m':M α}:z4u false m m' s=m' s:=(rfl)
theorem zco:Z3 [] s= .ok [] s:=(rfl)
theorem z1A:Z3 (m::ms) s=(m s).bnd fun x s1=>(Z3 ms (s1.psh x)).bnd fun ys s2=>(pop s2).bnd fun x' s3=> .ok (x'::ys) s3:=(rfl)
theorem ziO{g:List D->M D}:mCB ms g s=(Z3 ms s).bnd g:=(rfl)
theorem zfl{f:FM}:Y1 f ms s=(Z3 ms s).bnd fun ts s1=>z0r (f ts s1.n) ts s1:=(rfl)
noncomputable def zhJ(o:Option Bool)(s:Stt):Res D:=match o with
 |some b=> .ok (.bool b) s
 |none=> .no
theorem z8d{b:Bool}:zhJ (some b) s= .ok (.bool b) s:=(rfl)
theorem zhK{T:String}:z3G T m s=(m s).bnd fun d s1=>zhJ (isiD T d) s1:=by
 unfold z3G bd Res.bnd zhJ
 cases m s with
 |ok d s1=>dsimp only;cases isiD T d<;>rfl
 |ex d s1=>rfl
 |no=>rfl
theorem zcp{g g':D->D->M D}:z0s ma mb mc g g' s=(ma s).bnd fun x s1=>(mb (s1.psh x)).bnd fun y s2=>(pop s2).bnd fun x' s3=>z7y y (bd (G6 (g x' y)) fun k=>z4u k (bd mc fun z=>g' y z) (rt (.bool false))) s3:=(rfl)
theorem zhL{i:Int}{m:M D}:z7y (.int i) m s=m s:=(rfl)
noncomputable def zhM(o:Option Int)(s:Stt):Res (Option Int):=match o with
 |some i=> .ok (some i) s
 |none=> .no
theorem z8e{i:Int}:zhM (some i) s= .ok (some i) s:=(rfl)
theorem zcq:z2G none s= .ok none s:=(rfl)
theorem zcr:z2G (some m) s=(m s).bnd fun d s1=>zhM (mInt d) s1:=by
 show bd m (fun d=>match mInt d with|some i=>rt (some i)|none=>fl) s=_
 unfold bd Res.bnd
 cases m s with
 |ok d s1=>show(match mInt d with|some i=>rt (some i)|none=>fl:M (Option Int)) s1=zhM (mInt d) s1;cases mInt d<;>rfl
 |ex d s1=>rfl
 |no=>rfl
theorem zfm{i:Int}:mInt (.int i)=some i:=(rfl)
theorem zju{lo hi:Option (M D)}:mSl m lo hi s=(m s).bnd fun x s1=>(z2G lo (s1.psh x)).bnd fun l s2=>(z2G hi s2).bnd fun h s3=>(pop s3).bnd fun x' s4=>slD x' l h s4:=(rfl)
theorem zfn{i j:Int}:z02 (.int i) (.int j) s= .ok (.int (i+j)) s:=(rfl)
theorem zaQ{a b:List D}(h:a.length+b.length<=sizeLine):z02 (.tup a) (.tup b) s= .ok (.tup (a++b)) s:=by erw[z02,if_pos h];rfl
theorem zhN{i j:Int}:z9e (.int i) (.int j) s= .ok (.int (i -j)) s:=(rfl)
theorem z8f{i j:Int}(h:z8P i j):z6j (.int i) (.int j) s= .ok (.int (i*j)) s:=by erw[z6j,if_pos h];rfl
theorem z8g{i j:Int}(h:z8O i j):z2D (.int i) (.int j) s= .ok (.int (i/j)) s:=by erw[z2D,if_pos h];rfl
theorem z2u{i j:Int}(h:0<j):z2E (.int i) (.int j) s= .ok (.int (i %j)) s:=by erw[z2E,if_pos h];rfl
theorem zcs{i j:Int}(h:zcX i j):z9f (.int i) (.int j) s= .ok (.int (i^j.toNat)) s:=by erw[z9f,if_pos h];rfl
theorem zjv{i j:Int}:ltD (.int i) (.int j) s= .ok (.bool (decide (i<j))) s:=(rfl)
theorem zjw{i j:Int}:leD (.int i) (.int j) s= .ok (.bool (decide (i<=j))) s:=(rfl)
theorem zjx{i j:Int}:gtD (.int i) (.int j) s= .ok (.bool (decide (j<i))) s:=(rfl)
theorem zjy{i j:Int}:geD (.int i) (.int j) s= .ok (.bool (decide (j<=i))) s:=(rfl)
theorem zjz{t t':D}(h:eqC t t'=true):eqD t t' s= .ok (.bool (PyData.eqv (er t) (er t'))) s:=by erw[eqD,if_pos h];rfl
theorem zhO{t t':D}(h:eqC t t'=true):neD t t' s= .ok (.bool (!PyData.eqv (er t) (er t'))) s:=by erw[neD,if_pos h];rfl
theorem zhP{ds:List D}{i:Int}:ixD (.tup ds) (.int i) s=zd0 (atI ds i) s:=(rfl)
theorem zhQ{l:Nat}{ds:List D}{i:Int}:ixD (.lst l ds) (.int i) s=zd0 (atI ds i) s:=(rfl)
theorem zhR{ds:List D}{i:Int}:ixD (.ro ds) (.int i) s=zd0 (atI ds i) s:=(rfl)
theorem zhS{d:D}:zd0 (some d) s= .ok d s:=(rfl)
theorem zhT{ds:List D}{lo hi:Option Int}:slD (.tup ds) lo hi s= .ok (.tup (z9g ds lo hi)) s:=(rfl)
theorem z8h{ts:List D}(h:ts.length<=sizeLine):z0L ts s= .ok (.tup ts) s:=by erw[z0L,if_pos h];rfl
theorem z59{ts:List D}(h:ts.length<=sizeLine):lstM ts s= .ok (.lst s.n ts) s.nxt:=by erw[lstM,if_pos h];rfl
theorem zfo{ds:List D}:z6I [.tup ds] s= .ok (.int ds.length) s:=(rfl)
theorem zfp{ds:List D}:z6I [.ro ds] s= .ok (.int ds.length) s:=(rfl)
theorem zhU{i:Int}:zd2 [.int i] s= .ok (.int (if i<0 then -i else i)) s:=(rfl)
theorem zhV{i j:Int}:zbT [.int i, .int j] s= .ok (.int (if j<i then j else i)) s:=(rfl)
theorem zhW{i j:Int}:zd3 [.int i, .int j] s= .ok (.int (if j>i then j else i)) s:=(rfl)
theorem zfq{l:Nat}{ds:List D}:zav [.lst l ds] s= .ok (.tup ds) s:=(rfl)
theorem zfr{l:Nat}{ds:List D}{bs:List Bool}(h:j7 ds=some bs):z9k [.lst l ds] s= .ok (.bool (bs.all id)) s:=by erw[z9k,h];rfl
theorem zhX{a b:MS}:W3 a b s=(a s).sq b:=by
 unfold W3 RS.sq
 cases a s<;>rfl
theorem zhY:sNx s= .nx s:=(rfl)
theorem zfs:u0 m s=(m s).lf fun d s1=> .rt d s1:=(rfl)
theorem zct:z2H m s=(m s).lf fun _ s1=> .nx s1:=(rfl)
theorem zhZ{c:M Bool}{a b:MS}:sIf c a b s=(c s).lf fun k=>zeB k a b:=(rfl)
theorem zjA{a b:MS}:zeB true a b s=a s:=(rfl)
theorem zjB{a b:MS}:zeB false a b s=b s:=(rfl)
noncomputable def zi0(o:Option (List (Option D)))(s:Stt):RS:=match o with
 |some σ'=> .nx {s with σ:=σ'}
 |none=> .no
theorem z8i{σ':List (Option D)}:zi0 (some σ') ⟨σ,tm,n⟩= .nx ⟨σ',tm,n⟩:=(rfl)
theorem zft{g:Tg}:G5 g m s=(m s).lf fun d s1=>zi0 (asg g d s1.σ) s1:=by
 unfold G5 z0y Res.lf zi0
 cases m s with
 |ok d s1=>first|(dsimp only;cases asg g d s1.σ<;>rfl)|(dsimp only;done)|rfl
 |ex d s1=>rfl
 |no=>rfl
theorem zi1{me mo mi:M D}{g:D->D->D->MS}:z5y me mo mi g s=(me s).lf fun v s1=>(mo (s1.psh v)).lf fun o s2=>(mi (s2.psh o)).lf fun i s3=>(pop s3).lf fun o' s4=>(pop s4).lf fun v' s5=>g o' i v' s5:=(rfl)
theorem zfu{l:Nat}{ds:List D}{k:Int}{v:D}{j:Nat}(e:ixN ds.length k=some j)(h:l∉y4 v):zay (.lst l ds) (.int k) v s= .nx (s.put l (.lst l (ds.set j v))):=by erw[zay,e,if_pos h]
theorem zfv{mo:M D}{g:D->List D->M D}:z07 mo ms g s=(mo s).bnd fun x s1=>(isL x s1).bnd fun _ s2=>(Z3 ms (s2.psh x)).bnd fun ys s3=>(pop s3).bnd fun x' s4=>g x' ys s4:=(rfl)
theorem zi2{l:Nat}{ds:List D}:isL (.lst l ds) s= .ok () s:=(rfl)
theorem zfw{l:Nat}{ds:List D}{y:D}(h:ds.length<sizeLine/\l∉y4 y):z9s (.lst l ds) [y] s= .ok .non (s.put l (.lst l (ds++[y]))):=by erw[z9s,if_pos h]
end
theorem z4m{α:Type}{xs:List α}{i:Int}{d:α}(h0:0<=i)(h:xs[i.toNat]? =some d):atI xs i=some d:=by
 obtain⟨j,rfl⟩:=Int.eq_ofNat_of_zero_le h0
 exact zbv (by simpa using h)
end Mi
set_option maxHeartbeats 400000
namespace Mi
open PySem L2
noncomputable def pl(l:Nat)(d:D):Nat->Option D:=fun k=>if k=l then some d else none
theorem zfx{σ tm:List (Option D)}{n l:Nat}{d:D}:Stt.put ⟨σ,tm,n⟩ l d=⟨rpO (pl l d) σ,rpO (pl l d) tm,n⟩:=(rfl)
theorem J9{l:Nat}{d t:D}(h:l∉y4 t):rp (pl l d) t=t:=z7q t fun k hk=>by
 unfold pl;rw[if_neg];intro e;subst e;exact h hk
theorem z2v{f:Nat->Option D}:rpO f []=[]:=(rfl)
theorem za4{f:Nat->Option D}{r:List (Option D)}:rpO f (none::r)=none::rpO f r:=(rfl)
theorem z5S{f:Nat->Option D}{d:D}{r:List (Option D)}:rpO f (some d::r)=some (rp f d)::rpO f r:=(rfl)
theorem zfy{l:Nat}{d:D}{b:List D}:rp (pl l d) (.lst l b)=d:=by erw[rp,pl,if_true]
theorem z2w{f:Nat->Option D}{i:Int}:rp f (.int i)= .int i:=(rfl)
theorem zfz{f:Nat->Option D}{i:Str}:rp f (.str i)= .str i:=(rfl)
theorem z8j{f:Nat->Option D}{ds:List D}:rp f (.tup ds)= .tup (rpL f ds):=(rfl)
theorem z8k{f:Nat->Option D}:rpL f []=[]:=(rfl)
theorem z3z{f:Nat->Option D}{d:D}{ds:List D}:rpL f (d::ds)=rp f d::rpL f ds:=(rfl)
mutual
theorem z6z{l:Nat}: ∀t:D,l∉y4 t->Y7 l t=none
 | .non,_=>rfl
 | .bool _,_=>rfl
 | .int _,_=>rfl
 | .str _,_=>rfl
 | .exc _,_=>rfl
 | .fn _,_=>rfl
 | .tup ds,h=>by erw[y4] at h;erw[Y7];exact findL_none ds h
 | .ro ds,h=>by erw[y4] at h;erw[Y7];exact findL_none ds h
 | .fdc ks ds,h=>by erw[y4] at h;erw[Y7];exact findL_none ds h
 | .lst k ds,h=>by
  erw[y4,e7,not_or] at h;erw[Y7];rw[if_neg fun e=>h.1 e.symm];exact findL_none ds h.2
 | .dct k ks ds,h=>by
  erw[y4,e7,c8,not_or] at h;erw[Y7];rw[if_neg fun e=>h.1 e.symm];exact findL_none ds h.2.2
 | .obj k c ks ds,h=>by
  erw[y4,e7,not_or] at h;erw[Y7];rw[if_neg fun e=>h.1 e.symm];exact findL_none ds h.2
theorem findL_none{l:Nat}: ∀t:List D,l∉labsL t->findL l t=none
 |[],_=>rfl
 |d::ds,h=>by
  erw[labsL,c8,not_or] at h
  erw[findL,z6z d h.1,findL_none ds h.2]
end
theorem X1{t:D}{l n' n:Nat}{b b' r:List D}{σ tm:List (Option D)}(hb:labsL b=[])(hb':labsL b'=[])(hr:labsL r=[])(f1:rpO (pl l (.lst l b)) σ=σ)(f2:rpO (pl l (.lst l b)) tm=tm):
 z0r (.ok t (.lst l b'::r) n') (.lst l b::r) ⟨σ,tm,n⟩= .ok t ⟨rpO (pl l (.lst l b')) σ,rpO (pl l (.lst l b')) tm,n'⟩:=by
 have e:(fun k=>findL k (.lst l b'::r))=pl l (.lst l b'):=by
  funext k
  erw[findL,Y7,pl]
  by_cases h:l=k
  ·subst h;rw[if_pos rfl,if_pos rfl]
  ·rw[if_neg h,if_neg fun q=>h q.symm,findL_none b' (by rw[hb'];exact n9),findL_none r (by rw[hr];exact n9)]
 unfold z0r
 by_cases h:(D.lst l b'::r)=(D.lst l b::r)
 ·have hh:b'=b:=by injection h with h _;injection h
  subst hh
  erw[if_true]
  rw[f1,f2]
 ·erw[if_neg h]
  rw[if_pos,e]
  intro k _ hk
  erw[labsL,y4,hb,hr,c9,m5] at hk
  subst hk
  have:=congrFun e k
  rw[show findL k (D.lst k b'::r)=pl k (D.lst k b') k from this];simp[pl]
theorem zi3{mi:M ItK}{g:Tg}{b:MS}{s:Stt}:z4v mi g b s=(mi s).lf fun K s=>forGo K g b (K.len s.tm) 0 s:=(rfl)
theorem zaR{ms:List (M D)}{s:Stt}:z04 ms s=(Z3 ms s).bnd zeF:=(rfl)
theorem z30{j:Int}{s:Stt}(h: -(2^62)<=j/\j<2^62):zeF [.int j] s= .ok (z7C 0 j.toNat) s:=by erw[zeF,if_pos h];rfl
theorem zfA{lo:Int}{N:Nat}{tm:List (Option D)}:(z7C lo N).len tm=N:=(rfl)
theorem z2x{P:Nat->Stt->Prop}{lo:Int}{N:Nat}{g:Tg}{b:MS}
 (body: ∀i,i<N->∀s,P i s->∃σ',asg g (.int (lo+i)) s.σ=some σ'/\∃s',b {s with σ:=σ'}= .nx s'/\P (i+1) s'):
 ∀(f i:Nat) (s:Stt),i+f=N->P i s->∃s',forGo (z7C lo N) g b f i s= .nx s'/\P N s':=by
 intro f
 induction f with
 |zero=>
  intro i s hi h
  have e:i=N:=by lia
  subst e
  refine⟨s, ?_,h⟩
  unfold forGo
  erw[z7C,B6,if_false]
  rfl
 |succ f ih=>
  intro i s hi h
  have hl:i<N:=by lia
  obtain⟨σ',e1,s',e2,h'⟩:=body i hl s h
  obtain⟨s2,e3,h2⟩:=ih (i+1) s' (by lia) h'
  refine⟨s2, ?_,h2⟩
  unfold forGo
  erw[z7C,if_pos hl,e1,e2]
  exact e3
mutual
theorem zfB{l:Nat}{b:List D}{d:D}: ∀t:D,rp (pl l d) (rp (pl l (.lst l b)) t)=rp (pl l d) t
 | .non=>rfl
 | .bool _=>rfl
 | .int _=>rfl
 | .str _=>rfl
 | .exc _=>rfl
 | .fn _=>rfl
 | .tup ds=>by erw[rp];rw[rpL_rp ds]
 | .ro ds=>by erw[rp];rw[rpL_rp ds]
 | .fdc ks ds=>by erw[rp];rw[rpL_rp ds]
 | .lst k ds=>by
  by_cases h:k=l
  ·subst h;erw[rp,pl,if_true]
  ·have e: ∀x,pl l x k=none:=fun x=>by erw[pl,if_neg h]
   erw[rp,e];rw[rpL_rp ds]
 | .dct k ks ds=>by
  by_cases h:k=l
  ·subst h;erw[rp,pl,if_true]
  ·have e: ∀x,pl l x k=none:=fun x=>by erw[pl,if_neg h]
   erw[rp,e];rw[rpL_rp ds]
 | .obj k c ks ds=>by
  by_cases h:k=l
  ·subst h;erw[rp,pl,if_true]
  ·have e: ∀x,pl l x k=none:=fun x=>by erw[pl,if_neg h]
   erw[rp,e];rw[rpL_rp ds]
theorem rpL_rp{l:Nat}{b:List D}{d:D}: ∀t:List D,rpL (pl l d) (rpL (pl l (.lst l b)) t)=rpL (pl l d) t
 |[]=>rfl
 |t::ts=>by erw[rpL];rw[zfB t,rpL_rp ts]
end
theorem z4n{l:Nat}{b:List D}{d:D}: ∀t:List (Option D),rpO (pl l d) (rpO (pl l (.lst l b)) t)=rpO (pl l d) t
 |[]=>rfl
 |none::ts=>by erw[rpO];rw[z4n ts]
 |some t::ts=>by erw[rpO];rw[zfB t,z4n ts]
theorem z2y{f:Nat->Option D}: ∀(a b:List (Option D)),rpO f (a++b)=rpO f a++rpO f b
 |[],b=>rfl
 |none::a,b=>by erw[l7,rpO,z2y a b]
 |some d::a,b=>by erw[l7,rpO,z2y a b]
theorem z3A{f:Nat->Option D}: ∀(a:List (Option D)),(rpO f a).length=a.length
 |[]=>rfl
 |none::a=>by erw[rpO,i5,z3A a]
 |some d::a=>by erw[rpO,i5,z3A a]
theorem z4o: ∀ds:List D,Z2 (ds.map some)=labsL ds
 |[]=>rfl
 |d::ds=>by erw[b9,Z2,labsL,z4o ds]
theorem z1c: ∀a b:List D,labsL (a++b)=labsL a++labsL b
 |[],b=>rfl
 |d::ds,b=>by erw[l7,labsL,z1c ds b,m9]
theorem z8l{l:Nat}: ∀ds:List D,l∈labsL ds.reverse↔l∈labsL ds
 |[]=>Iff.rfl
 |d::ds=>by erw[l9,z1c,labsL,c8,z8l ds,c9];exact Or.comm
theorem z4p{l:Nat}{d:D}{ds:List D}(h:l∉labsL ds):rpO (pl l d) (ds.reverse.map some)=ds.reverse.map some:=z7r _ fun k hk=>by
 rw[z4o,z8l] at hk
 unfold pl;rw[if_neg];intro e;subst e;exact h hk
theorem z6A{me:M D}{N:Nat}{cap σ0 tm0:List (Option D)}{l ol:Nat}{Bg:List D->Prop}{Q:Nat->D->Prop}(mono: ∀a b,a<=b->∀y,Q a y->Q b y)(hol:σ0.length=ol)(hz:N<sizeLine)
 (hme: ∀i,i<N->∀b tm n,Bg b->l<n->rpO (pl l (.lst l b)) tm=tm->∃y b' n',Bg b'/\Q n' y/\n<=n'/\l∉y4 y/\me ⟨some (.int (0+(i:Nat)))::rpO (pl l (.lst l b)) cap,tm,n⟩= .ok y ⟨some (.int (0+(i:Nat)))::rpO (pl l (.lst l b')) cap,rpO (pl l (.lst l b')) tm,n'⟩):
 ∀(f:Nat) (acc:List D) (o:Option D) (b:List D) (n:Nat),acc.length+f=N->Bg b->l<n->(∀y∈acc,Q n y)->l∉labsL acc->
  ∃ys b' n',ys.length=N/\(∀y∈ys,Q n' y)/\l∉labsL ys/\Bg b'/\n<=n'/\
   U9 (z7C 0 N) (.nm 0) (rt true) me ol f acc.length acc.length ⟨o::rpO (pl l (.lst l b)) cap,(acc.reverse.map some)++(rpO (pl l (.lst l b)) σ0++rpO (pl l (.lst l b)) tm0),n⟩= .ok (.lst n' ys) ⟨rpO (pl l (.lst l b')) σ0,rpO (pl l (.lst l b')) tm0,n'+1⟩:=by
 intro f
 induction f with
 |zero=>
  intro acc o b n hi hb hn hq hf
  have hi:acc.length=N:=by lia
  refine⟨acc,b,n,hi,hq,hf,hb,e8 _, ?_⟩
  have l1:(acc.reverse.map some).length=acc.length:=by simp
  unfold U9
  erw[z7C,hi,B6,if_false]
  rw[<-hi,z0l _ _ _ l1]
  have e2:(acc.reverse.map some).reverse=acc.map some:=by simp
  rw[e2,K2]
  erw[Res.ok.injEq,true_and,Stt.mk.injEq,and_true]
  constructor
  ·rw[J8 _ _ _ l1,z0l _ _ _ (by rw[z3A];exact hol)]
  ·rw[<-m9,Nat.add_zero]
   exact J8 _ _ _ (by simp[z3A,hol])
 |succ f ih=>
  intro acc o b n hi hb hn hq hf
  have hlt:acc.length<N:=by lia
  unfold U9
  erw[z7C,if_pos hlt,asg,r6,rt]
  rw[if_pos (by lia)]
  obtain⟨y,b',n',h1,h2,h3,h4,h5⟩:=hme acc.length hlt b ((acc.reverse.map some)++(rpO (pl l (.lst l b)) σ0++rpO (pl l (.lst l b)) tm0)) n hb hn (by rw[z2y,z2y,z4n,z4n,z4p hf])
  rw[h5]
  obtain⟨ys,b2,n2,g1,g2,g3,g4,g5,g6⟩:=ih (acc++[y]) (some (.int (0+(acc.length:Nat)))) b' n' (by simp;lia) h1 (by lia) (by
   intro z hz
   rcases c8.mp hz with hz|hz
   ·exact mono _ _ h3 z (hq z hz)
   ·rw[m5.mp hz];exact h2) (by
   rw[z1c]
   erw[labsL,c9,c8,not_or]
   exact⟨hf,h4⟩)
  refine⟨ys,b2,n2,g1,g2,g3,g4,by lia, ?_⟩
  rw[<-g6]
  erw[Stt.psh,z2y,z4n,z4p hf,l5,i5,r8,E7,C6,l9,B8,m8,C1,b9,l3,l7]
  rfl
theorem z8m{ms:List (M D)}{me:M D}{N:Nat}{ix:List Nat}{s:Stt}{l n:Nat}{j:Int}{σ0 tm0:List (Option D)}{b:List D}{Bg:List D->Prop}{Q:Nat->D->Prop}(mono: ∀a b,a<=b->∀y,Q a y->Q b y)(hms:Z3 ms s= .ok [.int j] ⟨σ0,tm0,n⟩)(hj:j.toNat=N)(hj': -(2^62)<=j/\j<2^62)(hz:N<sizeLine)
 (hb:Bg b) (hn:l<n) (f1:rpO (pl l (.lst l b)) σ0=σ0) (f2:rpO (pl l (.lst l b)) tm0=tm0) (f3:rpO (pl l (.lst l b)) (ix.map fun i=>(σ0[i]?).getD none)=ix.map fun i=>(σ0[i]?).getD none)
 (hme: ∀i,i<N->∀b tm n,Bg b->l<n->rpO (pl l (.lst l b)) tm=tm->∃y b' n',Bg b'/\Q n' y/\n<=n'/\l∉y4 y/\me ⟨some (.int (0+(i:Nat)))::rpO (pl l (.lst l b)) (ix.map fun i=>(σ0[i]?).getD none),tm,n⟩= .ok y ⟨some (.int (0+(i:Nat)))::rpO (pl l (.lst l b')) (ix.map fun i=>(σ0[i]?).getD none),rpO (pl l (.lst l b')) tm,n'⟩):
 ∃ys b' n',ys.length=N/\(∀y∈ys,Q n' y)/\l∉labsL ys/\Bg b'/\n<=n'/\z0q (z04 ms) (.nm 0) (rt true) me 1 ix s= .ok (.lst n' ys) ⟨rpO (pl l (.lst l b')) σ0,rpO (pl l (.lst l b')) tm0,n'+1⟩:=by
 obtain⟨ys,b',n',h1,h2,h3,h4,h5,h6⟩:=z6A (me:=me) (N:=N) (cap:=ix.map fun i=>(σ0[i]?).getD none) (σ0:=σ0) (tm0:=tm0) (l:=l) (Bg:=Bg) (Q:=Q) mono rfl hz hme N [] none b n (by simp) hb hn (by intro y h;cases h) (by simp[labsL])
 refine⟨ys,b',n',h1,h2,h3,h4,h5, ?_⟩
 unfold z0q
 rw[zhB,zaR,hms,z2t,z30 hj',z2t,hj]
 rw[f1,f2,f3] at h6
 exact h6
inductive All2(Q:D->D->Prop):List D->List D->Prop
 |nil:All2 Q [] []
 |cons {a b:D} {as bs:List D}:Q a b->All2 Q as bs->All2 Q (a::as) (b::bs)
theorem zfC{m:M D}{s:Stt}{l:Nat}{ds:List D}{σ tm:List (Option D)}{n:Nat}(h:m s= .ok (.lst l ds) ⟨σ,tm,n⟩):z03 m s= .ok z6J ⟨σ,some (.lst l ds)::tm,n⟩:=by
 unfold z03;rw[zhB,h];rfl
end Mi
set_option maxHeartbeats 1000000
namespace Mi
open PySem L2
noncomputable def zcu(o:Option (List D))(t:D)(n:Nat):RF:=match o with|some ts=> .ex t ts n|none=> .no
noncomputable def _root_.Mi.RS.finX(k:Nat):RS->RF
 | .nx s'=>zcm (Z1 s'.tm) .non s'.n
 | .rt t s'=>zcm (Z1 s'.tm) t s'.n
 | .ex d s'=>zcu (Z1 (K7 k s'.tm)) d s'.n
 |_=> .no
theorem zi4{k:Nat}{σ tm:List (Option D)}{n:Nat}:(RS.nx ⟨σ,tm,n⟩).finX k=zcm (Z1 tm) .non n:=(rfl)
theorem zi5{k:Nat}{t:D}{σ tm:List (Option D)}{n:Nat}:(RS.ex t ⟨σ,tm,n⟩).finX k=zcu (Z1 (K7 k tm)) t n:=(rfl)
theorem zfD{nl:Nat}{mb:MS}{ts:List D}{n:Nat}:zaD nl mb ts n=(mb ⟨ts.map some++e6 (nl -ts.length) none,ts.map some,n⟩).finX ts.length:=by
 unfold zaD RS.finX zcm zcu
 cases mb ⟨ts.map some++e6 (nl -ts.length) none,ts.map some,n⟩<;>rfl
theorem zi6{t:D}{ts:List D}{n':Nat}{s:Stt}:z0O (.ex t ts n') ts s= .ex t {s with n:=n'}:=by
 unfold z0O;simp
noncomputable def iK(tb:Str->Option Bool):D->M D
 | .exc c=>(match tb c with|some b=>rt (.bool b)|none=>fl)
 |_=>fl
theorem zi7{tb:Str->Option Bool}{m:M D}{s:Stt}:z5E tb m s=(m s).bnd (iK tb):=by
 unfold z5E bd Res.bnd
 cases m s with
 |ok d s1=>cases d<;>rfl
 |ex d s1=>rfl
 |no=>rfl
theorem z1G{tb:Str->Option Bool}{c:Str}{b:Bool}{s:Stt}(h:tb c=some b):iK tb (.exc c) s= .ok (.bool b) s:=by
 show(match tb c with|some b=>rt (D.bool b)|none=>fl) s=_
 rw[h];rfl
theorem zcv{c:Str}{s:Stt}:z2f c s= .ex (.exc c) s:=(rfl)
noncomputable def tK(k:Str->Bool)(ie N:Nat)(mh:MS):RS->RS
 | .ex (.exc c) s'=>if k c then(match mh {σ:=s'.σ.set ie (some (.exc c)),tm:=K7 N s'.tm,n:=s'.n} with
  | .rt d s''=> .rt d s''
  |_=> .no) else .no
 | .ex _ _=> .no
 |r=>r
theorem zi8{k:Str->Bool}{ie:Nat}{mb mh:MS}{s:Stt}:zd7 k ie mb mh s=tK k ie s.tm.length mh (mb s):=by
 unfold zd7 tK
 cases mb s with
 |ex d s'=>cases d<;>rfl
 |_=>rfl
theorem zi9{k:Str->Bool}{ie N:Nat}{mh:MS}{d:D}{s:Stt}:tK k ie N mh (.rt d s)= .rt d s:=(rfl)
noncomputable def rtO:RS->RS
 | .rt d s''=> .rt d s''
 |_=> .no
theorem zfE{d:D}{s:Stt}:rtO (.rt d s)= .rt d s:=(rfl)
theorem zia{k:Str->Bool}{ie N:Nat}{mh:MS}{c:Str}{σ tm:List (Option D)}{n:Nat}(h:k c=true):tK k ie N mh (.ex (.exc c) ⟨σ,tm,n⟩)=rtO (mh ⟨σ.set ie (some (.exc c)),K7 N tm,n⟩):=by
 unfold tK rtO;erw[h,if_true]
theorem zib{α:Type}{d:D}{s:Stt}{f:α->MS}:((Res.ex d s:Res α).lf f:RS)= .ex d s:=(rfl)
theorem zic{d:D}{s:Stt}{m:MS}:((RS.ex d s).sq m:RS)= .ex d s:=(rfl)
end Mi
set_option maxHeartbeats 4000000
namespace Mi
open PySem L2
end Mi
set_option maxHeartbeats 40000
namespace Mi
open PySem L2
section
variable{α β:Type}{m ma mb mc:M D}{s:Stt}{ms:List (M D)}{σ tm l:List (Option D)}{n i j k p:Nat}{x y z u d:D}{g g2:D->D->M D}{h:List D->M D}
variable{a0 a1 a2 a3 a4 a5 a6 a7 a8 a9 a10 a11 a12 a13 a14 a15 v:Option D}
theorem qg1:(a0::a1::l)[1]? =some a1:=(rfl)
theorem qg2:(a0::a1::a2::l)[2]? =some a2:=(rfl)
theorem qg3:(a0::a1::a2::a3::l)[3]? =some a3:=(rfl)
theorem qg4:(a0::a1::a2::a3::a4::l)[4]? =some a4:=(rfl)
theorem qg5:(a0::a1::a2::a3::a4::a5::l)[5]? =some a5:=(rfl)
theorem qg6:(a0::a1::a2::a3::a4::a5::a6::l)[6]? =some a6:=(rfl)
theorem qg7:(a0::a1::a2::a3::a4::a5::a6::a7::l)[7]? =some a7:=(rfl)
theorem qg8:(a0::a1::a2::a3::a4::a5::a6::a7::a8::l)[8]? =some a8:=(rfl)
theorem qg9:(a0::a1::a2::a3::a4::a5::a6::a7::a8::a9::l)[9]? =some a9:=(rfl)
theorem zjC:(a0::a1::a2::a3::a4::a5::a6::a7::a8::a9::a10::l)[10]? =some a10:=(rfl)
theorem qh1:(a0::a1::l).set 1 v=a0::v::l:=(rfl)
theorem qh2:(a0::a1::a2::l).set 2 v=a0::a1::v::l:=(rfl)
theorem qh3:(a0::a1::a2::a3::l).set 3 v=a0::a1::a2::v::l:=(rfl)
theorem qh4:(a0::a1::a2::a3::a4::l).set 4 v=a0::a1::a2::a3::v::l:=(rfl)
theorem qh6:(a0::a1::a2::a3::a4::a5::a6::l).set 6 v=a0::a1::a2::a3::a4::a5::v::l:=(rfl)
theorem qh8:(a0::a1::a2::a3::a4::a5::a6::a7::a8::l).set 8 v=a0::a1::a2::a3::a4::a5::a6::a7::v::l:=(rfl)
theorem qh9:(a0::a1::a2::a3::a4::a5::a6::a7::a8::a9::l).set 9 v=a0::a1::a2::a3::a4::a5::a6::a7::a8::v::l:=(rfl)
theorem zjD:(a0::a1::a2::a3::a4::a5::a6::a7::a8::a9::a10::l).set 10 v=a0::a1::a2::a3::a4::a5::a6::a7::a8::a9::v::l:=(rfl)
theorem ov:y3 i s=match s.σ[i]? with|some (some t)=> .ok t s|_=> .no:=rfl
noncomputable def cv(g:D->D->M D)(a:D)(b:Option (Option D))(s:Stt):Res D:=match b with
 |some (some b)=>g a b s
 |_=> .no
theorem zcw:cv g x (some (some y)) s=g x y s:=(rfl)
theorem zjE:Z0 m (mC y) g s=(m s).bnd fun x s1=>g x y s1:=by
 rw[zcn];cases m s<;>rfl
theorem zjF:Z0 m (y3 j) g s=(m s).bnd fun x s1=>cv g x s1.σ[j]? s1:=by
 rw[zcn];cases m s with
 |ok x s1=>rw[z2t,z2t];unfold y3 cv;dsimp only[Stt.psh];cases s1.σ[j]? with
  |none=>rfl
  |some o=>cases o<;>rfl
 |ex d s1=>rfl
 |no=>rfl
noncomputable def qc1(h:List D->M D)(a:Option (Option D))(s:Stt):Res D:=match a with
 |some (some a)=>h [a] s
 |_=> .no
theorem za5:qc1 h (some (some x)) s=h [x] s:=(rfl)
theorem zjG:mCB [y3 i] h ⟨σ,tm,n⟩=qc1 h σ[i]? ⟨σ,tm,n⟩:=by
 rw[ziO];unfold y3 qc1 Z3 bd;dsimp only
 cases σ[i]? with
 |none=>rfl
 |some o=>cases o<;>rfl
theorem zaS:Z3 [m] s=(m s).bnd fun x s1=> .ok [x] s1:=by
 rw[z1A];cases m s<;>rfl
noncomputable def qa1(a:Option (Option D))(s:Stt):Res (List D):=match a with
 |some (some a)=> .ok [a] s
 |_=> .no
theorem ziP:Z3 [y3 i] ⟨σ,tm,n⟩=qa1 σ[i]? ⟨σ,tm,n⟩:=by
 rw[zaS];unfold y3 qa1;dsimp only
 cases σ[i]? with
 |none=>rfl
 |some o=>cases o<;>rfl
noncomputable def qa2(a b:Option (Option D))(s:Stt):Res (List D):=match a,b with
 |some (some a),some (some b)=> .ok [a,b] s
 |_,_=> .no
theorem za6:qa2 (some (some x)) (some (some y)) s= .ok [x,y] s:=(rfl)
theorem ziQ:Z3 [y3 i,y3 j] ⟨σ,tm,n⟩=qa2 σ[i]? σ[j]? ⟨σ,tm,n⟩:=by
 rw[z1A];unfold y3 qa2;dsimp only
 cases σ[i]? with
 |none=>rfl
 |some o=>cases o with
  |none=>rfl
  |some a=>rw[z2t];show Res.bnd _ (Z3 [y3 j] ⟨σ,_,_⟩)=_;rw[ziP];unfold qa1;cases σ[j]? with
   |none=>rfl
   |some o=>cases o<;>rfl
noncomputable def qa3(a b c:Option (Option D))(s:Stt):Res (List D):=match a,b,c with
 |some (some a),some (some b),some (some c)=> .ok [a,b,c] s
 |_,_,_=> .no
theorem za7:qa3 (some (some x)) (some (some y)) (some (some z)) s= .ok [x,y,z] s:=(rfl)
theorem zjH:Z3 [y3 i,y3 j,y3 k] ⟨σ,tm,n⟩=qa3 σ[i]? σ[j]? σ[k]? ⟨σ,tm,n⟩:=by
 rw[z1A];unfold y3 qa3;dsimp only
 cases σ[i]? with
 |none=>rfl
 |some o=>cases o with
  |none=>rfl
  |some a=>rw[z2t];show Res.bnd _ (Z3 [y3 j,y3 k] ⟨σ,_,_⟩)=_;rw[ziQ];unfold qa2;cases σ[j]? with
   |none=>rfl
   |some o=>cases o with
    |none=>rfl
    |some b=>cases σ[k]? with
     |none=>rfl
     |some o=>cases o<;>rfl
theorem zid:Z3 [y3 i,mC y] ⟨σ,tm,n⟩=qa2 σ[i]? (some (some y)) ⟨σ,tm,n⟩:=by
 rw[z1A];unfold y3 qa2;dsimp only
 cases σ[i]? with
 |none=>rfl
 |some o=>cases o<;>rfl
theorem zfF:Z3 [y3 i,mC y,mC z] ⟨σ,tm,n⟩=qa3 σ[i]? (some (some y)) (some (some z)) ⟨σ,tm,n⟩:=by
 rw[z1A];unfold y3 qa3;dsimp only
 cases σ[i]? with
 |none=>rfl
 |some o=>cases o<;>rfl
theorem zie:G5 (.nm i) m s=(m s).lf fun d s1=> .nx ⟨s1.σ.set i (some d),s1.tm,s1.n⟩:=by
 rw[zft];cases m s<;>rfl
end
theorem u1{t:D}{l n' n:Nat}{b b' r:List D}{σ tm:List (Option D)}{σ1 tm1:D->List (Option D)}(hb:labsL b=[])(hb':labsL b'=[])(hr:labsL r=[])(f1: ∀q,rpO (pl l q) σ=σ1 q)(f2: ∀q,rpO (pl l q) tm=tm1 q)(e1:σ1 (.lst l b)=σ:=by rfl)(e2:tm1 (.lst l b)=tm:=by rfl):
 z0r (.ok t (.lst l b'::r) n') (.lst l b::r) ⟨σ,tm,n⟩= .ok t ⟨σ1 (.lst l b'),tm1 (.lst l b'),n'⟩:=by
 rw[X1 hb hb' hr ((f1 _).trans e1) ((f2 _).trans e2),f1,f2]
end Mi
set_option maxHeartbeats 1000000
namespace Mi
open PySem L2
section
variable{m mo me:M D}{ms:List (M D)}{f:FM}{a cn mn:Str}{ok:Str->Bool}{s:Stt}
theorem zif:z5K m a ok s=(m s).bnd (zdb a ok):=(rfl)
theorem zig{l:Nat}{c:Str}{ns:List Str}{vs:List D}{d:D}(h1:ok c=true)(h2:zaF ns vs a=some d):zdb a ok (.obj l c ns vs) s= .ok d s:=by erw[zdb,h1,h2,if_true]
theorem zfG:z9K me mo a ok s=(me s).lf fun v s1=>(mo (s1.psh v)).lf fun o s2=>(pop s2).lf fun v' s3=>z6s a ok o v' s3:=(rfl)
theorem zfH{l:Nat}{c:Str}{ns:List Str}{vs:List D}{v:D}(h:ok c=true/\ns.length<1000/\l∉y4 v):z6s a ok (.obj l c ns vs) v s= .nx (s.put l (.obj l c (z4U ns vs a v).1 (z4U ns vs a v).2)):=by erw[z6s,if_pos h]
theorem zih:z4V cn mn f mo ms s=(mo s).bnd fun x=>z4u (objC cn mn x) (z9L f ms x) fl:=by
 unfold z4V bd Res.bnd
 cases mo s with
 |ok x s1=>dsimp only;cases objC cn mn x<;>rfl
 |ex d s1=>rfl
 |no=>rfl
theorem zfI{x:D}:z9L f ms x s=(Z3 ms (s.psh x)).bnd fun ys s1=>(pop s1).bnd fun x' s2=>z0r (f (x'::ys) s2.n) (x'::ys) s2:=(rfl)
theorem zfJ:z4W cn f ms s=(Z3 ms s).bnd (mkK cn f):=(rfl)
end
theorem z2z{t:D}{ts ts':List D}{n' n:Nat}{σ tm:List (Option D)}(hs: ∀k∈labsL ts,(findL k ts').isSome=true)(h0:ts'=ts->rpO (fun k=>findL k ts') σ=σ/\rpO (fun k=>findL k ts') tm=tm):
 z0r (.ok t ts' n') ts ⟨σ,tm,n⟩= .ok t ⟨rpO (fun k=>findL k ts') σ,rpO (fun k=>findL k ts') tm,n'⟩:=by
 unfold z0r
 by_cases h:ts'=ts
 ·erw[if_pos h,(h0 h).1,(h0 h).2]
 ·erw[if_neg h]
  rw[if_pos fun k _ hk=>hs k hk]
theorem za8{K:ItK}{g:Tg}{b:MS}{f i:Nat}{s s':Stt}{d:D}{σ':List (Option D)}(h1:K.at' i s.tm=some (some d))(h2:asg g d s.σ=some σ')(h3:b {s with σ:=σ'}= .nx s'):forGo K g b (f+1) i s=forGo K g b f (i+1) s':=by
 conv=>lhs;unfold forGo
 erw[h1,h2,h3]
theorem zcx{K:ItK}{g:Tg}{b:MS}{f i:Nat}{s:Stt}(h1:K.at' i s.tm=some none):forGo K g b f i s= .nx (s.popn K.k):=by
 unfold forGo
 erw[h1]
theorem z6B{t:D}{ts ts':List D}{n' n:Nat}{σ tm:List (Option D)}(hs: ∀k∈labsL ts,(findL k ts').isSome=true)(h0:ts'=ts->rpO (fun k=>findL k ts') σ=σ/\rpO (fun k=>findL k ts') tm=tm):
 z0O (.ok t ts' n') ts ⟨σ,tm,n⟩= .ok t ⟨rpO (fun k=>findL k ts') σ,rpO (fun k=>findL k ts') tm,n'⟩:=by
 unfold z0O
 by_cases h:ts'=ts
 ·erw[if_pos h,(h0 h).1,(h0 h).2]
 ·erw[if_neg h]
  rw[if_pos fun k _ hk=>hs k hk]
theorem zfK{mo:M D}{ms:List (M D)}{f:FM}{cn mn:Str}{s:Stt}:z4X cn mn f mo ms s=(mo s).bnd fun x=>z4u (objC cn mn x) (z5L f ms x) fl:=by
 unfold z4X bd Res.bnd
 cases mo s with
 |ok x s1=>dsimp only;cases objC cn mn x<;>rfl
 |ex d s1=>rfl
 |no=>rfl
theorem zcy{ms:List (M D)}{f:FM}{x:D}{s:Stt}:z5L f ms x s=(Z3 ms (s.psh x)).bnd fun ys s1=>(pop s1).bnd fun x' s2=>z0O (f (x'::ys) s2.n) (x'::ys) s2:=(rfl)
end Mi
namespace My
open PySem L2 Mi
theorem BA{a b:Prop}(h:a)(k:b):a/\b:=⟨h,k⟩
noncomputable def B_0:=BA (BA (BA (BA (BA (BA @zhA @zhB) (BA @z2t (BA @zhv @zhw))) (BA (BA @zhx (BA @zjp @zfg)) (BA @zhC (BA @zhD @za3)))) (BA (BA (BA @zhE @x_C) (BA @zcn (BA @zhF @zfh))) (BA (BA @zfi (BA @zjq @zhG)) (BA @zjr (BA @zhH @zfj))))) (BA (BA (BA (BA @zhI @zfk) (BA @zjs (BA @zjt @zco))) (BA (BA @z1A (BA @ziO @zfl)) (BA @z8d (BA @zhK @zcp)))) (BA (BA (BA @zhL (BA @z8e @zcq)) (BA @zcr (BA @zfm @zju))) (BA (BA @zfn (BA @zhN @zjv)) (BA @zjw (BA @zjx @zjy)))))) (BA (BA (BA (BA (BA @zhP @zhQ) (BA @zhR (BA @zhS @zhT))) (BA (BA @zfo (BA @zfp @zhU)) (BA @zhV (BA @zhW @zfq)))) (BA (BA (BA @zhX (BA @zhY @zfs)) (BA @zct (BA @zhZ @zjA))) (BA (BA @zjB (BA @z8i @zft)) (BA @zi1 (BA @zfv @zi2))))) (BA (BA (BA (BA @z6y @zhy) (BA @zhz (BA @z8c @b9.{0,0}))) (BA (BA @l3.{0,0} (BA @m8.{0} @l7.{0})) (BA @c9.{0} (BA @List.getElem?_cons_zero.{0} @List.getElem?_cons_succ.{0})))) (BA (BA (BA @List.getElem?_nil.{0} (BA @r6.{0} @A4.{0})) (BA @i5.{0} (BA @r8.{0} @p4.{0,0}))) (BA (BA @C8.{0,0} (BA @Bool.not_true @O8)) (BA @beq_self_eq_true.{0} (BA @E7 @P7))))))
local macro_rules | `(tactic| left) => `(tactic| (simp (config := { dsimp := false }) only [B_0, isiD, Z1, asg, asgL, e6, F7, F8, String.reduceBEq]))
noncomputable def isInt:D->Bool
 | .int _=>true
 |_=>false
noncomputable def inR(lo hi:Int):D->Bool
 | .int i=>decide (lo<=i)&&decide (i<=hi)
 |_=>false
theorem zfL(t:D)(n:Nat)(h:plain t=true):G8 [t] n= .ok (.bool (isInt t)) [t] n:=by
 unfold G8 k9
 cases t<;>first|(simp[Mi.plain] at h;done)|(left;first|done|rfl)
theorem z5T(t:D)(n:Nat)(h:plain t=true):j9 [t] n= .ok (.bool (isInt t)) [t] n:=by
 unfold j9 z2q
 cases t<;>first|(simp[Mi.plain] at h;done)|(left;first|done|rfl)
theorem z8n(t:D)(lo hi:Int)(n:Nat)(h:plain t=true):Q3 [t, .int lo, .int hi] n= .ok (.bool (inR lo hi t)) [t, .int lo, .int hi] n:=by
 unfold Q3 z0d
 left
 rw[zfL t n h]
 cases t<;>(try erw[isInt,inR])<;>left <;>try rfl
 rename_i i
 by_cases h1:lo<=i
 ·erw[h1,decide_true];left;simp
 ·erw[h1,decide_false];left;simp
noncomputable def zdf(lo hi top:Int):D->Bool
 | .tup ds=>decide (lo<=(ds.length:Int))&&decide ((ds.length:Int)<=hi)&&ds.all (inR 0 top)
 |_=>false
theorem z31: ∀{ds:List D} {d:D},plainL ds=true->d∈ds->plain d=true
 |x::ds,d,h,m=>by
  erw[plainL,i3] at h
  rcases e7.mp m with rfl|m
  ·exact h.1
  ·exact z31 h.2 m
theorem zaT(t:D)(lo hi top:Int)(n:Nat)(h:plain t=true)(hh:hi<1000000): ∃n',n<=n'/\x9 [t, .int lo, .int hi, .int top] n= .ok (.bool (zdf lo hi top t)) [t, .int lo, .int hi, .int top] n':=by
 unfold x9 z1x
 left
 cases t with
 |tup ds=>
  left
  by_cases h1:lo<=(ds.length:Int)
  ·by_cases h2:(ds.length:Int)<=hi
   ·erw[h1,h2,decide_true,zdf,A9]
    left
    erw[h2,decide_true]
    left
    have hz:ds.length<sizeLine:=by have:sizeLine=16777216:=rfl;lia
    obtain⟨n',hn,hc⟩:=z8a (mc:=y3 0) (me:=Y1 Q3 [y3 0,mC (D.int 0),y3 1]) (g:=fun d=> .bool (inR 0 top d)) (ds:=ds) (ix:=[3]) (s:=⟨[some (.tup ds),some (.int lo),some (.int hi),some (.int top)],[some (.tup ds),some (.int lo),some (.int hi),some (.int top)],n⟩) (s1:=⟨[some (.tup ds),some (.int lo),some (.int hi),some (.int top)],[some (.tup ds),some (.int lo),some (.int hi),some (.int top)],n⟩) (by left) hz (by
     intro d hd tm m
     refine⟨m,e8 _, ?_⟩
     show Y1 _ _ ⟨[some d,some (.int top)],tm,m⟩=_
     left
     rw[z8n d 0 top m (z31 (by simpa[Mi.plain] using h) hd)]
     left
     rfl)
    refine⟨n'+1,by simp only at hn;lia, ?_⟩
    rw[hc]
    left
    rw[zfr (z8b ds (inR 0 top))]
    left
    erw[List.all_map]
    rfl
   ·refine⟨n,e8 _, ?_⟩
    erw[h1,h2,decide_true,decide_false,zdf,A9,D0]
    left
    erw[h2,decide_false]
    left
  ·refine⟨n,e8 _, ?_⟩
   erw[h1,decide_false,zdf,D0]
   left
 |dct _ _ _=>simp[Mi.plain] at h
 |obj _ _ _ _=>simp[Mi.plain] at h
 |exc _=>simp[Mi.plain] at h
 |fn _=>simp[Mi.plain] at h
 |fdc _ _=>simp[Mi.plain] at h
 |_=>refine⟨n,e8 _, ?_⟩;left;rfl
theorem at0{a:D}{l:List D}:atI (a::l) 0=some a:=z4m (by decide) rfl
theorem at1{a b:D}{l:List D}:atI (a::b::l) 1=some b:=z4m (by decide) rfl
theorem at2{a b c:D}{l:List D}:atI (a::b::c::l) 2=some c:=z4m (by decide) rfl
theorem at3{a b c d:D}{l:List D}:atI (a::b::c::d::l) 3=some d:=z4m (by decide) rfl
theorem c0:((0:Nat):Int)=0:=rfl
theorem c1:((1:Nat):Int)=1:=rfl
theorem c2:((2:Nat):Int)=2:=rfl
theorem c3:((3:Nat):Int)=3:=rfl
theorem c4:((4:Nat):Int)=4:=rfl
noncomputable def Gd(t:D):Prop:=plain t=true/\(er t).canLay0=true
noncomputable def GdL(ds:List D):Prop:=plainL ds=true/\PyData.canLayAll0 (erL ds)=true
theorem Gd.tup{ds:List D}:Gd (.tup ds)↔GdL ds:=by erw[Gd,GdL,Mi.plain,er,PyData.canLay0]
theorem Gd.lst{l:Nat}{ds:List D}:Gd (.lst l ds)↔GdL ds:=by erw[Gd,GdL,Mi.plain,er,PyData.canLay0]
theorem GdL.cons{d:D}{ds:List D}:GdL (d::ds)↔Gd d/\GdL ds:=by
 erw[Gd,GdL,plainL,erL,PyData.canLayAll0,i3]
 constructor
 ·rintro ⟨⟨a,b⟩,c,d⟩;exact⟨⟨a,c⟩,b,d⟩
 ·rintro ⟨⟨a,c⟩,b,d⟩;exact⟨⟨a,b⟩,c,d⟩
noncomputable def zfM(x:Str):D->Bool
 | .str y=>y==x
 |_=>false
theorem zfN{t:D}{x:Str}{s:Stt}(g:Gd t)(h:PyData.strOk x=true):eqD t (.str x) s= .ok (.bool (zfM x t)) s:=by
 have e:eqC t (.str x)=true:=by
  erw[eqC,g.1,g.2,Mi.plain,er,PyData.canLay0,h,A9,decide_eq_true_eq]
  simp[PyData.depth]
 rw[zjz e]
 cases t<;>simp[er,PyData.eqv,zfM]
theorem zl:sizeLine=16777216:=rfl
section
variable{a b c d:D}{s:Stt}
theorem t0:z0L [] s= .ok (.tup []) s:=z8h (by decide)
theorem t1:z0L [a] s= .ok (.tup [a]) s:=z8h (by rw[zl];simp)
theorem t2:z0L [a,b] s= .ok (.tup [a,b]) s:=z8h (by rw[zl];simp)
theorem t3:z0L [a,b,c] s= .ok (.tup [a,b,c]) s:=z8h (by rw[zl];simp)
theorem t4:z0L [a,b,c,d] s= .ok (.tup [a,b,c,d]) s:=z8h (by rw[zl];simp)
theorem k0{σ tm:List (Option D)}{n:Nat}:lstM [] ⟨σ,tm,n⟩= .ok (.lst n []) ⟨σ,tm,n+1⟩:=z59 (by rw[zl];simp)
theorem k1{σ tm:List (Option D)}{n:Nat}:lstM [a] ⟨σ,tm,n⟩= .ok (.lst n [a]) ⟨σ,tm,n+1⟩:=z59 (by rw[zl];simp)
theorem k2{σ tm:List (Option D)}{n:Nat}:lstM [a,b] ⟨σ,tm,n⟩= .ok (.lst n [a,b]) ⟨σ,tm,n+1⟩:=z59 (by rw[zl];simp)
theorem k3{σ tm:List (Option D)}{n:Nat}:lstM [a,b,c] ⟨σ,tm,n⟩= .ok (.lst n [a,b,c]) ⟨σ,tm,n+1⟩:=z59 (by rw[zl];simp)
theorem k4{σ tm:List (Option D)}{n:Nat}:lstM [a,b,c,d] ⟨σ,tm,n⟩= .ok (.lst n [a,b,c,d]) ⟨σ,tm,n+1⟩:=z59 (by rw[zl];simp)
end
noncomputable def B_1:=BA (BA (BA (BA @t1 (BA @t2 @t3)) (BA @t4 (BA @k2 @k3))) (BA (BA @k4 (BA @M7 @O9)) (BA (BA @P1 @Bool.or_true) (BA @F9 @A9)))) (BA (BA (BA @Bool.and_false (BA @D0 @at0)) (BA (BA @at1 @at2) (BA @at3 @zfx))) (BA (BA @z2v (BA @zfy @z2w)) (BA (BA @zfz @z8j) (BA @z8k @z3z))))
noncomputable def B_2:=BA @za4 @z5S
local macro_rules | `(tactic| left) => `(tactic| (simp (config := { dsimp := false }) only [B_0, B_1, B_2, isiD, Z1, asg, asgL, e6, F7, F8, String.reduceBEq, M8]))
noncomputable def Bg(c x:Int):Prop:=0<=c/\0<=x/\x<2147483647
theorem V1(l:Nat)(c x top:Int)(n:Nat)(h:Bg c x)(ht:0<top)(ht':top<1000000): ∃r c' x',0<=r/\r<top/\Bg c' x'/\Z5 [.lst l [.int c, .int x], .int top] n= .ok (.int r) [.lst l [.int c', .int x'], .int top] n:=by
 unfold Z5 z3v
 obtain⟨h0,h1,h2⟩:=h
 by_cases hc:0<c
 ·refine⟨c %top,c/top,x,C2 _ (by lia),B2 _ ht,⟨Int.ediv_nonneg h0 (by lia),h1,h2⟩, ?_⟩
  left
  erw[hc,decide_true]
  left
  rw[z2u ht]
  left
  rw[z8g ⟨ht,by lia⟩]
  left
  rw[zfu (j:=0) rfl (by simp[y4])]
  left
 ·have hx0:=C2 (x*48271+7919) (show(2147483647:Int)≠0 by decide)
  have hx1:=B2 (x*48271+7919) (show(0:Int)<2147483647 by decide)
  generalize hy:(x*48271+7919) %2147483647=y at hx0 hx1
  refine⟨(y^(3:Int).toNat %2147483587/7*69621 %1073741789) %top,c,y,C2 _ (by lia),B2 _ ht,⟨h0,hx0,hx1⟩, ?_⟩
  left
  erw[hc,decide_false]
  left
  rw[z8f (.inl ⟨by lia,by lia⟩)]
  left
  rw[z2u (by decide),hy]
  left
  rw[zfu (j:=1) rfl (by simp[y4])]
  left
  rw[zcs ⟨by decide,by decide,by lia⟩]
  left
  rw[z2u (by decide)]
  left
  rw[z8g ⟨by decide,by decide⟩]
  left
  rw[z8f (.inr ⟨by decide,by decide⟩)]
  left
  rw[z2u (by decide)]
  left
  rw[z2u ht]
  left
noncomputable def B_3:=BA (BA @zi3 @zaR) (BA @zfA @E8)
local macro_rules | `(tactic| left) => `(tactic| (simp (config := { dsimp := false }) only [B_0, B_1, B_2, B_3, isiD, Z1, asg, asgL, e6, F7, F8, String.reduceBEq, M8]))
theorem zaU{ns:List Int}{a:Nat}(h:a<ns.length):atI (ns.map D.int) (a:Int)=some (.int ns[a]):=z4m (by lia) (by simp[h])
theorem zfO(ns:List Int)(a n:Nat)(ha:a<1000)(hl:ns.length<1000): ∃c x,Bg c x/\z2p [.ro (ns.map .int), .int a] n= .ok (.lst n [.int c, .int x]) [.ro (ns.map .int), .int a] (n+1):=by
 unfold z2p z56
 left
 have key: ∃c:Int,0<=c/\zeB (decide ((a:Int)<((ns.map D.int).length:Int))) (G5 (Tg.nm 2) (mCB [Z0 (y3 0) (y3 1) ixD] zd2)) sNx ⟨[some (.ro (ns.map .int)),some (.int a),some (.int 0),none,none],[some (.ro (ns.map .int)),some (.int a)],n⟩= .nx ⟨[some (.ro (ns.map .int)),some (.int a),some (.int c),none,none],[some (.ro (ns.map .int)),some (.int a)],n⟩:=by
  by_cases h:a<ns.length
  ·refine⟨if ns[a]<0 then -ns[a] else ns[a], ?_, ?_⟩
   rotate_left
   ·rw[show decide ((a:Int)<((ns.map D.int).length:Int))=true by simp[h]]
    left
    rw[zaU h]
    left
   ·split<;>lia
  ·refine⟨0,by decide, ?_⟩
   rw[show decide ((a:Int)<((ns.map D.int).length:Int))=false by simp;lia]
   left
 obtain⟨c,hc,e1⟩:=key
 rw[e1]
 left
 rw[z2u (by decide)]
 left
 rw[z8f (.inl ⟨by decide,by decide⟩)]
 left
 have q0:=C2 c (show(2147483629:Int)≠0 by decide)
 have q1:=B2 c (show(0:Int)<2147483629 by decide)
 rw[zcs ⟨by decide,by decide,by lia⟩]
 left
 rw[z2u (by decide)]
 left
 have w0:((ns.map D.int).length:Int)=ns.length:=by simp
 rw[w0]
 generalize hk:(if(60:Int)<(ns.length:Int) then(60:Int) else(ns.length:Int))=k
 have hk0:0<=k/\k<=60/\k<=ns.length:=by split at hk<;>lia
 rw[z30 ⟨by lia,by lia⟩]
 left
 have p0:=C2 ((c %2147483629+104729*(a:Int)+17)^(5:Int).toNat) (show(2147483647:Int)≠0 by decide)
 have p1:=B2 ((c %2147483629+104729*(a:Int)+17)^(5:Int).toNat) (show(0:Int)<2147483647 by decide)
 generalize (c %2147483629+104729*(a:Int)+17)^(5:Int).toNat %2147483647=x0 at p0 p1
 obtain⟨s',e2,x,o,hx0,hx1,rfl⟩:=z2x (P:=fun i s=> ∃(x:Int) (o:Option D),0<=x/\x<2147483647/\s=⟨[some (.ro (ns.map .int)),some (.int a),some (.int c),some (.int x),o],[some (.ro (ns.map .int)),some (.int a)],n⟩) (lo:=0) (N:=k.toNat) (g:= .nm 4) (b:=G5 (.nm 3) (Z0 (Z0 (Z0 (Z0 (y3 3) (mC (.int 48271)) z6j) (Z0 (Z0 (Z0 (y3 0) (y3 4) ixD) (mC (.int 2147483587)) z2E) (Z0 (y3 4) (mC (.int 3)) z02) z6j) z02) (y3 4) z02) (mC (.int 2147483629)) z2E)) (by
  rintro i hi s ⟨x,o,h0,h1,rfl⟩
  have hi':i<ns.length:=by lia
  refine⟨[some (.ro (ns.map .int)),some (.int a),some (.int c),some (.int x),some (.int i)],by erw[E8];rfl, ?_⟩
  refine⟨⟨[some (.ro (ns.map .int)),some (.int a),some (.int c),some (.int ((x*48271+ns[i] %2147483587*(i+3)+i) %2147483629)),some (.int i)],[some (.ro (ns.map .int)),some (.int a)],n⟩, ?_, ?_⟩
  ·left
   rw[z8f (.inl ⟨by lia,by lia⟩)]
   left
   rw[zaU hi']
   left
   rw[z2u (by decide)]
   left
   rw[z8f (.inr ⟨by lia,by lia⟩)]
   left
   rw[z2u (by decide)]
   left
  ·have r0:=C2 (x*48271+ns[i] %2147483587*(i+3)+i) (show(2147483629:Int)≠0 by decide)
   have r1:=B2 (x*48271+ns[i] %2147483587*(i+3)+i) (show(0:Int)<2147483629 by decide)
   exact⟨_,_,r0,by lia,rfl⟩) k.toNat 0 ⟨[some (.ro (ns.map .int)),some (.int a),some (.int c),some (.int x0),none],[some (.ro (ns.map .int)),some (.int a)],n⟩ (by lia) ⟨x0,none,p0,p1,rfl⟩
 rw[e2]
 left
 rw[zcs ⟨by decide,by decide,by decide⟩]
 left
 by_cases h:c<10^(18:Int).toNat
 ·refine⟨0,x,⟨by decide,hx0,hx1⟩, ?_⟩
  erw[h,decide_true]
  left
 ·refine⟨c,x,⟨hc,hx0,hx1⟩, ?_⟩
  erw[h,decide_false]
  left
theorem zii{l k:Nat}{d:D}{ds:List D}(h:k≠l):rp (pl l d) (.lst k ds)= .lst k (rpL (pl l d) ds):=by erw[rp,pl,if_neg h]
mutual
noncomputable def Rs(n:Nat):D->Bool
 | .non=>true| .bool _=>true| .int _=>true| .str x=>PyData.strOk x
 | .tup ds=>decide (ds.length<=2000)&&RsL n ds
 | .lst l ds=>decide (n<=l)&&(decide (ds.length<=2000)&&RsL n ds)
 | .ro _=>false| .dct _ _ _=>false| .obj _ _ _ _=>false| .exc _=>false| .fn _=>false| .fdc _ _=>false
noncomputable def RsL(n:Nat):List D->Bool
 |[]=>true
 |d::ds=>Rs n d&&RsL n ds
end
noncomputable def Up(m:Nat)(t:D):Prop:= ∀k∈y4 t,k<m
theorem ok1:PyData.strOk ("1" :Str)=true:=by decide+kernel
mutual
noncomputable def Tr:D->Bool
 | .non=>true| .bool _=>true| .int _=>true| .str x=>PyData.strOk x
 | .tup ds=>decide (ds.length<=900)&&TrL ds
 | .lst _ _=>false| .ro _=>false| .dct _ _ _=>false| .obj _ _ _ _=>false| .exc _=>false| .fn _=>false| .fdc _ _=>false
noncomputable def TrL:List D->Bool
 |[]=>true
 |d::ds=>Tr d&&TrL ds
end
theorem z3B: ∀{ds:List D},TrL ds=true↔∀d∈ds,Tr d=true
 |[]=>by simp[TrL]
 |d::ds=>by erw[TrL,i3,z3B (ds:=ds),l8]
theorem z5a{n:Nat}: ∀{ds:List D},RsL n ds=true↔∀d∈ds,Rs n d=true
 |[]=>by simp[RsL]
 |d::ds=>by erw[RsL,i3,z5a (ds:=ds),l8]
theorem z5b{k:Nat}: ∀{ds:List D},PyData.depthAll (erL ds)<=k↔∀d∈ds,(er d).depth<=k
 |[]=>by simp[erL,PyData.depthAll]
 |d::ds=>by erw[erL,PyData.depthAll,l8,<-z5b (ds:=ds)];lia
mutual
theorem z5c: ∀t:D,Tr t=true->y4 t=[]
 | .non,_=>rfl
 | .bool _,_=>rfl
 | .int _,_=>rfl
 | .str _,_=>rfl
 | .tup ds,h=>by erw[Tr,i3] at h;erw[y4];exact TrL_labs ds h.2
 | .lst _ _,h=>by simp[Tr] at h
 | .ro _,h=>by simp[Tr] at h
 | .dct _ _ _,h=>by simp[Tr] at h
 | .obj _ _ _ _,h=>by simp[Tr] at h
 | .exc _,h=>by simp[Tr] at h
 | .fn _,h=>by simp[Tr] at h
 | .fdc _ _,h=>by simp[Tr] at h
theorem TrL_labs: ∀t:List D,TrL t=true->labsL t=[]
 |[],_=>rfl
 |d::ds,h=>by erw[TrL,i3] at h;erw[labsL,z5c d h.1,TrL_labs ds h.2,c9]
end
mutual
theorem za9{n:Nat}: ∀t:D,Tr t=true->Rs n t=true
 | .non,_=>rfl
 | .bool _,_=>rfl
 | .int _,_=>rfl
 | .str _,h=>by simpa[Tr,Rs] using h
 | .tup ds,h=>by
  erw[Tr,i3,decide_eq_true_eq] at h;erw[Rs,i3,decide_eq_true_eq];exact⟨by lia,TrL_rs ds h.2⟩
 | .lst _ _,h=>by simp[Tr] at h
 | .ro _,h=>by simp[Tr] at h
 | .dct _ _ _,h=>by simp[Tr] at h
 | .obj _ _ _ _,h=>by simp[Tr] at h
 | .exc _,h=>by simp[Tr] at h
 | .fn _,h=>by simp[Tr] at h
 | .fdc _ _,h=>by simp[Tr] at h
theorem TrL_rs{n:Nat}: ∀t:List D,TrL t=true->RsL n t=true
 |[],_=>rfl
 |d::ds,h=>by erw[TrL,i3] at h;erw[RsL,za9 d h.1,TrL_rs ds h.2,F9]
end
mutual
theorem zcz{n:Nat}: ∀t:D,Rs n t=true->Gd t
 | .non,_=>⟨rfl,rfl⟩
 | .bool _,_=>⟨rfl,rfl⟩
 | .int _,_=>⟨rfl,rfl⟩
 | .str _,h=>⟨rfl,by simpa[Rs,er,PyData.canLay0] using h⟩
 | .tup ds,h=>by erw[Rs,i3] at h;exact Gd.tup.mpr (RsL_gd ds h.2)
 | .lst _ ds,h=>by erw[Rs,i3] at h;exact Gd.lst.mpr (RsL_gd ds h.2.2)
 | .ro _,h=>by simp[Rs] at h
 | .dct _ _ _,h=>by simp[Rs] at h
 | .obj _ _ _ _,h=>by simp[Rs] at h
 | .exc _,h=>by simp[Rs] at h
 | .fn _,h=>by simp[Rs] at h
 | .fdc _ _,h=>by simp[Rs] at h
theorem RsL_gd{n:Nat}: ∀t:List D,RsL n t=true->GdL t
 |[],_=>⟨rfl,rfl⟩
 |d::ds,h=>by erw[RsL,i3] at h;exact GdL.cons.mpr ⟨zcz d h.1,RsL_gd ds h.2⟩
end
mutual
theorem zfP{n k:Nat}: ∀t:D,Rs n t=true->k∈y4 t->n<=k
 | .non,_,h=>by simp[y4] at h
 | .bool _,_,h=>by simp[y4] at h
 | .int _,_,h=>by simp[y4] at h
 | .str _,_,h=>by simp[y4] at h
 | .tup ds,h,m=>by erw[Rs,i3] at h;erw[y4] at m;exact RsL_low ds h.2 m
 | .lst _ ds,h,m=>by
  erw[Rs,i3,decide_eq_true_eq] at h
  erw[y4,e7] at m
  rcases m with rfl|m
  ·exact h.1
  ·exact RsL_low ds h.2.2 m
 | .ro _,h,_=>by simp[Rs] at h
 | .dct _ _ _,h,_=>by simp[Rs] at h
 | .obj _ _ _ _,h,_=>by simp[Rs] at h
 | .exc _,h,_=>by simp[Rs] at h
 | .fn _,h,_=>by simp[Rs] at h
 | .fdc _ _,h,_=>by simp[Rs] at h
theorem RsL_low{n k:Nat}: ∀t:List D,RsL n t=true->k∈labsL t->n<=k
 |[],_,h=>by simp[labsL] at h
 |d::ds,h,m=>by
  erw[RsL,i3] at h
  erw[labsL,c8] at m
  rcases m with m|m
  ·exact zfP d h.1 m
  ·exact RsL_low ds h.2 m
end
theorem zfQ{n k l:Nat}{es:List D}(hn:n<=l)(hl:es.length<=2000)(h: ∀e∈es,Rs n e=true/\(er e).depth<=k):Rs n (.lst l es)=true/\(er (.lst l es)).depth<=k+1:=by
 refine⟨?_, ?_⟩
 ·erw[Rs,i3,decide_eq_true_eq];exact⟨hn,hl,z5a.mpr fun d m=>(h d m).1⟩
 ·erw[er,PyData.depth];exact L4 (z5b.mpr fun d m=>(h d m).2)
theorem labsL_mem{k:Nat}: ∀{es:List D},k∈labsL es->∃e∈es,k∈y4 e
 |e::es,h=>by
  erw[labsL,c8] at h
  rcases h with h|h
  ·exact⟨e,e9,h⟩
  ·obtain⟨e',h1,h2⟩:=labsL_mem h
   exact⟨e',b7 _ h1,h2⟩
theorem ne_bool{b:Bool}{s:Stt}:neD (.bool b) (.bool b) s= .ok (.bool false) s:=by
 rw[zhO (by simp[eqC,Mi.plain,er,PyData.canLay0,PyData.depth])];simp[er,PyData.eqv]
theorem z3C{y d:D}{s:Stt}(gy:Gd y)(gd:Gd d)(e:er y=er d)(hd:(er d).depth<=60):neD y d s= .ok (.bool false) s:=by
 rw[zhO (by erw[eqC,gy.1,gd.1,gy.2,gd.2,e,A9,decide_eq_true_eq];lia),e,PySem.SeqAt.eqv_refl _ gd.2];rfl
theorem K3{f:Nat->Option D}{o:Option D}{r:List (Option D)}:rpO f (o::r)=o.map (rp f)::rpO f r:=by cases o<;>rfl
noncomputable def UpO(n:Nat)(o:Option D):Prop:= ∀d,o=some d->Up n d
theorem UpO.fixk{n k:Nat}{o:Option D}(h:UpO n o)(hk:n<=k)(d:D):Option.map (rp (pl k d)) o=o:=by
 cases o with
 |none=>rfl
 |some t=>erw[p4];rw[J9 fun m=>by have:=h t rfl k m;lia]
theorem k5{a b c d e:D}{σ tm:List (Option D)}{n:Nat}:lstM [a,b,c,d,e] ⟨σ,tm,n⟩= .ok (.lst n [a,b,c,d,e]) ⟨σ,tm,n+1⟩:=z59 (by rw[zl];simp)
theorem k6{a b c d e f:D}{σ tm:List (Option D)}{n:Nat}:lstM [a,b,c,d,e,f] ⟨σ,tm,n⟩= .ok (.lst n [a,b,c,d,e,f]) ⟨σ,tm,n+1⟩:=z59 (by rw[zl];simp)
theorem zaV{k:Nat}{es:List D}(hl:es.length<=900)(h: ∀e∈es,Tr e=true/\(er e).depth<=k):Tr (.tup es)=true/\(er (.tup es)).depth<=k+1:=by
 refine⟨?_, ?_⟩
 ·erw[Tr,i3,decide_eq_true_eq];exact⟨hl,z3B.mpr fun d m=>(h d m).1⟩
 ·erw[er,PyData.depth];exact L4 (z5b.mpr fun d m=>(h d m).2)
theorem z8o{k:Nat}{i:Int}:Tr (.int i)=true/\(er (.int i)).depth<=k:=⟨rfl,by simp[er,PyData.depth]⟩
theorem zij{i j:Int}{s:Stt}:neD (.int i) (.int j) s= .ok (.bool (!(i==j))) s:=by
 rw[zhO (by simp[eqC,Mi.plain,er,PyData.canLay0,PyData.depth])];erw[er,PyData.eqv]
noncomputable def isNon:D->Bool
 | .non=>true
 |_=>false
theorem zik{d:D}{s:Stt}:isN d .non s= .ok (.bool (isNon d)) s:=by cases d<;>rfl
theorem zfR{d:D}{s:Stt}:zau d .non s= .ok (.bool (!isNon d)) s:=by cases d<;>rfl
noncomputable def iL(bs:List Int):List D:=bs.map D.int
structure Wo where
 s:List Int
 g:List Int
 k:Int
 c:Int
noncomputable def Wo.d(w:Wo):D:= .tup [.tup (iL w.s), .tup (iL w.g), .int w.k, .int w.c]
noncomputable def kD(s g:List Int)(k:Int):D:= .tup [.tup (iL s), .tup (iL g), .int k]
noncomputable def nk3(s g:List Int)(k:Int):NK:=[.inr (s.map .inl), .inr (g.map .inl), .inl (.inl k)]
noncomputable def Wo.key(w:Wo):NK:=nk3 w.s w.g w.k
theorem dk3(s g:List Int)(k:Int):kD s g k=dkD (nk3 s g k):=by
 simp[dkD,nk3,nkD,z3F,iL,kD,Function.comp_def]
structure Wo.ok(w:Wo):Prop where
 s1:1<=w.s.length
 s6:w.s.length<=6
 sb: ∀i∈w.s,0<=i/\i<=39
 g1:1<=w.g.length
 g4:w.g.length<=4
 gb: ∀i∈w.g,0<=i/\i<=999
 kb:0<=w.k/\w.k<=7
 cb:0<=w.c/\w.c<=9999
noncomputable def ksW(ws:List Wo):List D:=ws.map fun w=>dkD w.key
noncomputable def vsW(ws:List Wo):List D:=ws.map fun w=> .int w.c
noncomputable def wsD(ws:List Wo):List D:=ws.map Wo.d
structure Bks(ws:List Wo):Prop where
 nd:(ws.map Wo.key).Nodup
 ok: ∀w∈ws,w.ok
 few:ws.length<=60
theorem Bks.nil:Bks []:=⟨O7,(fun _ h=>nomatch h),by simp⟩
noncomputable def has(ws:List Wo)(k:NK):Bool:=ws.any fun w=>decide (w.key=k)
theorem Bks.snoc{ws:List Wo}{w:Wo}(h:Bks ws)(hw:w.ok)(hh:has ws w.key=false)(hl:ws.length<60):Bks (ws++[w]):=by
 refine⟨?_,fun v hv=> ?_,by simp;lia⟩
 ·rw[C1]
  refine List.nodup_append.mpr ⟨h.nd,by simp,fun a ha b hb e=> ?_⟩
  obtain⟨p,hp,rfl⟩:=m7.mp ha
  rw[b9,l3,m5] at hb
  rw[hb] at e
  have:has ws w.key=true:=N9.mpr ⟨p,hp,by simpa using e⟩
  rw[hh] at this;cases this
 ·rcases c8.mp hv with hv|hv
  ·exact h.ok v hv
  ·rw[m5.mp hv];exact hw
noncomputable abbrev Dw(m:Nat)(ws:List Wo):D:= .dct m (ksW ws) (vsW ws)
noncomputable abbrev Bk(l m:Nat)(ws:List Wo):D:= .obj l "Book" ["costs"] [Dw m ws]
theorem zcA{l m:Nat}{ws:List Wo}{s:Stt}:zdb "costs" W7 (Bk l m ws) s= .ok (Dw m ws) s:=zig (by decide) (by rfl)
theorem z4q(ws:List Wo):isT (ksW ws)=true:=by cases ws<;>rfl
theorem z0m(ws:List Wo):labsL (vsW ws)=[]:=by
 induction ws with
 |nil=>rfl
 |cons w ws ih=>erw[vsW,b9,labsL,y4,m8] at ih⊢;exact ih
noncomputable def fnd:List Wo->NK->Option Int
 |[],_=>none
 |w::ws,k=>if w.key=k then some w.c else fnd ws k
theorem z4r{k:NK}: ∀{ws:List Wo},findK (ksW ws) (vsW ws) k=(fnd ws k).map D.int
 |[]=>rfl
 |w::ws=>by
  have ih:=z4r (k:=k) (ws:=ws)
  erw[ksW,vsW,b9,findK,g9,Option.some.injEq,fnd] at ih⊢
  split
  ·rfl
  ·exact ih
theorem z8p{k:NK}: ∀{ws:List Wo},(fnd ws k).isSome=has ws k
 |[]=>rfl
 |w::ws=>by
  have ih:=z8p (k:=k) (ws:=ws)
  erw[fnd,has,F6] at ih⊢
  by_cases h:w.key=k
  ·simp[h]
  ·simp[h,ih]
theorem z8q: ∀{ws:List Wo},(ws.map Wo.key).Nodup->∀w∈ws,fnd ws w.key=some w.c
 |q::ws,hn,w,hw=>by
  have hn':=C0.mp (show(q.key::ws.map Wo.key).Nodup from hn)
  rcases e7.mp hw with rfl|hw
  ·erw[fnd,if_true]
  ·rw[fnd,if_neg fun e:q.key=w.key=>hn'.1 (e▸m7.mpr ⟨w,hw,rfl⟩)]
   exact z8q hn'.2 w hw
theorem zil{k:NK}(ws:List Wo):((ksW ws).any fun d=>decide (tkey d=some k))=has ws k:=by
 unfold ksW has
 rw[P5]
 congr 1
 funext p
 erw[Function.comp,g9,Option.some.injEq]
section
variable{m:Nat}{ws:List Wo}{s g:List Int}{k:Int}{st:Stt}
theorem z8r:zaE (kD s g k) (Dw m ws) st= .ok (.bool (has ws (nk3 s g k))) st:=by
 rw[dk3]
 unfold zaE
 erw[rdD,if_pos (z4q ws),g9,z4r,D1,z8p]
 rfl
theorem z8s:zaM [Dw m ws] st= .ok (.int ws.length) st:=by
 erw[zaM,if_pos (z4q ws)]
 rw[show(ksW ws).length=ws.length by simp[ksW]]
 rfl
theorem z3D{w:Wo}(h:has ws w.key=false)(hl:ws.length<=100):z1J (Dw m ws) (kD w.s w.g w.k) (.int w.c) st= .nx (st.put m (Dw m (ws++[w]))):=by
 rw[dk3]
 unfold z1J
 erw[g9]
 rw[if_pos ⟨z4q ws,by rw[zl];erw[ksW,i9];lia,rfl,z0m ws⟩]
 unfold z9H z6r
 have h':has ws (nk3 w.s w.g w.k)=false:=h
 rw[zil,h']
 erw[t8,if_false]
 rw[show Dw m (ws++[w])= .dct m (ksW ws++[dkD (nk3 w.s w.g w.k)]) (vsW ws++[.int w.c]) by simp[Dw,ksW,vsW,Wo.key]]
end
theorem zcB{ws:List Wo}{m n:Nat}{σ tm:List (Option D)}(h:Bks ws):zcg (Dw m ws) ⟨σ,tm,n⟩= .ok (.lst n (wsD ws)) ⟨σ,tm,n+1⟩:=by
 have e:z2I (ksW ws) (vsW ws)=true:=by
  erw[z2I,z4q,z0m,O0,F9,A9,i3,t9,decide_eq_true_eq]
  refine⟨fun d hd=> ?_,by rw[zl];erw[ksW,i9];have:=h.few;lia⟩
  obtain⟨w,_,rfl⟩:=m7.mp hd
  simp[Wo.key,dkD,nk3,zdd]
 erw[zcg,if_pos e]
 have z:B4 z8G (ksW ws) (vsW ws)=wsD ws:=by
  clear e h
  induction ws with
  |nil=>rfl
  |cons w ws ih=>
   erw[ksW,vsW,wsD,b9,A8] at ih⊢
   rw[ih]
   congr 1
   rw[Wo.key,<-dk3];rfl
 rw[z]
 rfl
theorem zcC{ws:List Wo}{m n:Nat}{σ tm:List (Option D)}(h:Bks ws):zaN (Dw m ws) ⟨σ,tm,n⟩= .ok (.lst n (wsD ws)) ⟨σ,tm,n+1⟩:=by
 have e:z2I (ksW ws) (vsW ws)=true:=by
  erw[z2I,z4q,z0m,O0,F9,A9,i3,t9,decide_eq_true_eq]
  refine⟨fun d hd=> ?_,by rw[zl];erw[ksW,i9];have:=h.few;lia⟩
  obtain⟨w,_,rfl⟩:=m7.mp hd
  simp[Wo.key,dkD,nk3,zdd]
 erw[zaN,if_pos e]
 have z:(ksW ws).map (fun d=>z8G d (fdK (ksW ws) (vsW ws) d))=wsD ws:=by
  unfold ksW wsD
  rw[P6]
  refine E5 fun w hw=> ?_
  erw[Function.comp,fdK,g9,L7]
  rw[show(List.map (fun w=>dkD w.key) ws)=ksW ws from rfl,z4r,z8q h.nd w hw,Wo.key,<-dk3]
  rfl
 rw[z]
 rfl
noncomputable def B_4:=BA (BA (BA (BA @qg1 (BA @qg2 @qg3)) (BA (BA @qg4 @qg5) (BA @qg6 @qg7))) (BA (BA @qg8 (BA @qg9 @zjC)) (BA (BA @qh1 @qh2) (BA @qh3 @qh4)))) (BA (BA (BA @qh6 (BA @qh8 @qh9)) (BA (BA @zjD @zjE) (BA @zjF @zjG))) (BA (BA @ziP (BA @ziQ @zjH)) (BA (BA @zid @zfF) (BA @zaS @zie))))
noncomputable def B_5:=BA (BA (BA (BA @zcw (BA @za5 @za6)) (BA (BA @za7 @zij) (BA @K3 @zfD))) (BA (BA @zi4 (BA @zi5 @zi6)) (BA (BA @zi7 @zcv) (BA @zi8 @zi9)))) (BA (BA (BA @zfE (BA @zib @zic)) (BA (BA @zik @zfR) (BA @zif @zfG))) (BA (BA @zih (BA @zfI @zfJ)) (BA (BA @zcA @zfK) (BA @zcy @c1))))
local macro_rules | `(tactic| left) => `(tactic| (simp (config := { dsimp := false }) only [B_0, B_1, B_3, ↓B_4, B_5, isiD, Z1, asg, asgL, e6, F7, F8, String.reduceBEq, M8]))
theorem zfS{k:Nat}{s:List Int}(h:s.length<=24):Tr (.tup (iL s))=true/\(er (.tup (iL s))).depth<=k+1:=zaV (by simp[iL];lia) fun e he=>by
 obtain⟨i,_,rfl⟩:=m7.mp he;exact z8o
theorem z8t{w:Wo}(h:w.ok):Tr w.d=true/\(er w.d).depth<=2:=zaV (by simp) (l8.mpr ⟨zfS (by have:=h.s6;lia),l8.mpr ⟨zfS (by have:=h.g4;lia),l8.mpr ⟨z8o,l8.mpr ⟨z8o,fun _ h=>nomatch h⟩⟩⟩⟩)
theorem zcD: ∀a b:List Int,(So.ltL (erL (iL a)) (erL (iL b))).isSome=true
 |[],b=>by simp[iL,erL,So.ltL]
 |x::a,[]=>by simp[iL,erL,So.ltL]
 |x::a,y::b=>by
  have ih:=zcD a b
  erw[iL,b9,erL,er,So.ltL] at ih⊢
  split
  ·exact ih
  ·simp[So.ltD]
theorem zim{v w:Wo}:(So.ltD (er v.d) (er w.d)).isSome=true:=by
 erw[Wo.d,er,erL,So.ltD,So.ltL]
 split
 ·split
  ·split
   ·split
    ·simp
    ·simp
   ·simp
  ·exact zcD v.g w.g
 ·exact zcD v.s w.s
theorem z2A{P:PyData->Prop}: ∀{ds:List D},(∀d∈ds,P (er d))->∀e∈erL ds,P e
 |[],_,e,h=>nomatch h
 |d::ds,hd,e,h=>by
  rcases e7.mp (show e∈er d::erL ds from h) with rfl|h
  ·exact hd d (by simp)
  ·exact z2A (fun d' h'=>hd d' (by simp[h'])) e h
theorem z0D{ws:List Wo}(h:Bks ws){d:D}(hd:d∈wsD ws): ∃w:Wo,w.ok/\d=w.d:=by
 obtain⟨w,hw,rfl⟩:=m7.mp hd
 exact⟨w,h.ok w hw,rfl⟩
theorem zfT{ws:List Wo}(h:Bks ws):plainL (wsD ws)=true/\z4e (erL (wsD ws))=true/\labsL (wsD ws)=[]:=by
 have tr: ∀d∈wsD ws,Tr d=true/\(er d).depth<=2:=fun d hd=>by
  obtain⟨w,hw,rfl⟩:=z0D h hd
  exact z8t hw
 have gd:GdL (wsD ws):=RsL_gd (n:=0) _ (z5a.mpr fun d hd=>za9 d (tr d hd).1)
 refine⟨gd.1, ?_,TrL_labs _ (z3B.mpr fun d hd=>(tr d hd).1)⟩
 unfold z4e
 erw[i3,t9,decide_eq_true_eq]
 refine⟨z2A fun d hd=> ?_,z2A fun d hd=>z2A fun d' hd'=> ?_⟩
 ·have t:=tr d hd
  have g':Gd d:=zcz (n:=0) d (za9 d t.1)
  obtain⟨w,hw,rfl⟩:=z0D h hd
  exact⟨⟨rfl,g'.2⟩,by lia⟩
 ·obtain⟨w,_,rfl⟩:=z0D h hd
  obtain⟨w',_,rfl⟩:=z0D h hd'
  exact zim
theorem zaW{l n:Nat}{ws:List Wo}{σ tm:List (Option D)}(h:Bks ws):zaK [.lst l (wsD ws)] ⟨σ,tm,n⟩= .ok (.lst n (U3 (wsD ws))) ⟨σ,tm,n+1⟩:=by
 obtain⟨h1,h2,h3⟩:=zfT h
 erw[zaK]
 rw[if_pos (by rw[h1,h2,h3];rfl)]
 rfl
theorem z5d{ds:List D}{d:D}(h:d∈U3 ds):d∈ds:=by
 unfold U3 at h
 obtain⟨i,hi,rfl⟩:=m7.mp h
 have:=So.perm_lt i hi
 simp[this]
theorem zcE{ds:List D}:(U3 ds).length=ds.length:=by
 unfold U3
 rw[i9,So.perm_len]
theorem z8u{ws:List Wo}(h:Bks ws){l:Nat}:Gd (.lst l (U3 (wsD ws)))/\(er (.lst l (U3 (wsD ws)))).depth<=60/\labsL (U3 (wsD ws))=[]/\(U3 (wsD ws)).length<=60:=by
 have tr: ∀d∈U3 (wsD ws),Tr d=true/\(er d).depth<=2:=fun d hd=>by
  obtain⟨w,hw,rfl⟩:=z0D h (z5d hd)
  exact z8t hw
 have hl:(U3 (wsD ws)).length<=60:=by rw[zcE];have:=h.few;simpa[wsD] using this
 have r:=zfQ (n:=0) (k:=2) (l:=l) (B9 _) (show(U3 (wsD ws)).length<=2000 by lia) fun d hd=>⟨za9 d (tr d hd).1,(tr d hd).2⟩
 exact⟨zcz _ r.1,by have:=r.2;lia,TrL_labs _ (z3B.mpr fun d hd=>(tr d hd).1),hl⟩
theorem zaX(f:Nat->Option D)(s:List Int):rpL f (iL s)=iL s:=by
 induction s with
 |nil=>rfl
 |cons i s ih=>erw[iL,b9,z3z,z2w] at ih⊢;rw[ih]
theorem z6C(f:Nat->Option D)(w:Wo):rp f w.d=w.d:=by erw[Wo.d,z8j,z3z,zaX,z2w,z8k]
theorem z5U(l m:Nat)(ws:List Wo)(h:Bks ws)(n:Nat):W6 [Bk l m ws] n= .ok (.lst (n+1) (U3 (wsD ws))) [Bk l m ws] (n+1+1):=by
 unfold W6 V0
 left
 rw[zcB h]
 left
 rw[zaW h]
 left
theorem zcF{l m:Nat}{ws:List Wo}{s g:List Int}{k:Int}{n:Nat}{σ tm:List (Option D)}:z4Z (z5K (y3 0) "costs" W7) (mCB [(y3 1),(y3 2),(y3 3)] z0L) ⟨[some (Bk l m ws),some (.tup (iL s)),some (.tup (iL g)),some (.int k)],tm,n⟩= .ok (((fnd ws (nk3 s g k)).map D.int).getD .non) ⟨[some (Bk l m ws),some (.tup (iL s)),some (.tup (iL g)),some (.int k)],tm,n⟩:=by
 unfold z4Z
 left
 erw[zaJ,if_pos (z4q ws)]
 left
 rw[show D.tup [.tup (iL s), .tup (iL g), .int k]=kD s g k from rfl,dk3]
 erw[z83,if_pos (z4q ws),g9,z4r]
 left
theorem zcG(l m:Nat)(ws:List Wo)(s g:List Int)(k:Int)(n:Nat):W9 [Bk l m ws, .tup (iL s), .tup (iL g), .int k] n= .ok (((fnd ws (nk3 s g k)).map D.int).getD .non) [Bk l m ws, .tup (iL s), .tup (iL g), .int k] n:=by
 unfold W9 G1
 left
 rw[zcF (σ:=[])]
 left
theorem zaY{s:List Int}{lo hi top:Int}(h1:lo<=s.length)(h2:s.length<=hi)(hb: ∀i∈s,0<=i/\i<=top):zdf lo hi top (.tup (iL s))=true:=by
 erw[zdf,iL,i9,h1,h2,decide_true,A9,t9]
 intro d hd
 obtain⟨i,hi',rfl⟩:=m7.mp hd
 have:=hb i hi'
 simp[inR,this.1,this.2]
theorem z5V(s:List Int):Mi.plain (.tup (iL s))=true:=by
 erw[Mi.plain]
 induction s with
 |nil=>rfl
 |cons i s ih=>erw[iL,b9,plainL,Mi.plain,A9] at ih⊢;exact ih
theorem zaZ{l m:Nat}{ws ws':List Wo}(h:l≠m):rp (pl m (Dw m ws')) (Bk l m ws)=Bk l m ws':=by
 erw[rp,rpL,pl,if_neg h,if_true]
noncomputable def z32(ws:List Wo)(w:Wo):Option Str:=if has ws w.key=true then some "Twice" else if 60<=ws.length then some "TooMany" else none
theorem z8v(w:Wo)(h:w.ok)(n:Nat): ∃n',n<=n'/\U4 [w.d] n= .ok (.bool true) [w.d] n':=by
 obtain⟨n1,h1,e1⟩:=zaT (.tup (iL w.s)) 1 6 39 n (z5V _) (by decide)
 obtain⟨n2,h2,e2⟩:=zaT (.tup (iL w.g)) 1 4 999 n1 (z5V _) (by decide)
 rw[zaY (by have:=h.s1;lia) (by have:=h.s6;lia) h.sb] at e1
 rw[zaY (by have:=h.g1;lia) (by have:=h.g4;lia) h.gb] at e2
 refine⟨n2,by lia, ?_⟩
 unfold U4 z0C Wo.d
 left
 rw[show(((4:Nat):Int)==4)=true from rfl]
 left
 rw[e1]
 left
 rw[e2]
 left
 have i1:inR 0 7 (.int w.k)=true:=by simp[inR,h.kb.1,h.kb.2]
 have i2:inR 0 9999 (.int w.c)=true:=by simp[inR,h.cb.1,h.cb.2]
 rw[z8n _ _ _ _ rfl,i1]
 left
 rw[z8n _ _ _ _ rfl,i2]
 left
theorem x3W(w:Wo)(s:Stt):ixD w.d (.int 3) s= .ok (.int w.c) s:=(rfl)
theorem slW(w:Wo)(s:Stt):slD w.d none (some 3) s= .ok (kD w.s w.g w.k) s:=(rfl)
theorem zfU(l m:Nat)(hlm:l≠m)(ws:List Wo)(h:Bks ws)(w:Wo)(hw:w.ok)(n:Nat): ∃n',n<=n'/\v2 [Bk l m ws,w.d] n=match z32 ws w with
 |some c=> .ex (.exc c) [Bk l m ws,w.d] n'
 |none=> .ok .non [Bk l m (ws++[w]),w.d] n':=by
 obtain⟨n1,h1,e1⟩:=z8v w hw n
 refine⟨n1,h1, ?_⟩
 unfold v2 z0e
 left
 rw[e1]
 left
 rw[slW]
 left
 rw[z8r]
 unfold z32
 by_cases hh:has ws w.key=true
 ·have hh':has ws (nk3 w.s w.g w.k)=true:=hh
  rw[hh',if_pos hh]
  left
  rfl
 ·have hh':has ws (nk3 w.s w.g w.k)=false:=A7.mpr hh
  rw[hh',if_neg hh]
  left
  rw[z8s]
  left
  by_cases hl:60<=ws.length
  ·have hd:decide ((ws.length:Int)≥60)=true:=by simp;lia
   rw[if_pos hl,hd]
   left
   rfl
  ·have hd:decide ((ws.length:Int)≥60)=false:=by simp;lia
   rw[if_neg hl,hd]
   left
   rw[x3W]
   left
   rw[slW]
   left
   rw[z3D hh' (by lia)]
   left
   erw[zaZ hlm,z6C]
theorem zcH(l m:Nat)(hlm:l≠m)(ws:List Wo)(w:Wo)(hw:w.ok)(hp:z32 ws w=none)(n:Nat): ∃n',n<=n'/\Q8 [Bk l m ws,w.d] n= .ok .non [Bk l m (ws++[w]),w.d] n':=by
 obtain⟨n1,h1,e1⟩:=z8v w hw n
 refine⟨n1,h1, ?_⟩
 unfold z32 at hp
 have hh: ¬has ws w.key=true:=fun z=>by rw[if_pos z] at hp;cases hp
 rw[if_neg hh] at hp
 have hl: ¬60<=ws.length:=fun z=>by rw[if_pos z] at hp;cases hp
 have hh':has ws (nk3 w.s w.g w.k)=false:=A7.mpr hh
 have hd:decide ((ws.length:Int)≥60)=false:=by simp;lia
 unfold Q8 v8
 left
 rw[e1]
 left
 rw[slW]
 left
 rw[z8r,hh']
 left
 rw[z8s]
 left
 rw[hd]
 left
 rw[x3W]
 left
 rw[slW]
 left
 rw[z3D hh' (by lia)]
 left
 erw[zaZ hlm,z6C]
theorem zin{l:Nat}{ds:List D}{k:Bool}{bs:List Bool}{s:Stt}(h:j7 ds=some bs):zd8 (.lst l ds) [.bool k] s= .ok (.int (bs.count k:Nat)) s:=by erw[zd8,h];rfl
theorem zio{l:Nat}{ds:List D}{k:Bool}{bs:List Bool}{s:Stt}(h:j7 ds=some bs)(hk:k∈bs):zd9 (.lst l ds) [.bool k] s= .ok (.int (bs.idxOf k:Nat)) s:=by erw[zd9,h,if_pos hk];rfl
noncomputable def kdI:Option Str->D
 |none=> .non
 |some c=>if c= "Twice" then .int 1 else .int 2
noncomputable def Nx(c:Str):Prop:=c= "Twice" \/c= "TooMany"
theorem kbN{c:Str}(h:Nx c):G7 c=true:=by
 rcases h with rfl|rfl<;>decide+kernel
theorem zcI{ws:List Wo}{w:Wo}{c:Str}(h:z32 ws w=some c):Nx c:=by
 unfold z32 at h
 split at h
 ·cases h;exact .inl rfl
 ·split at h
  ·cases h;exact .inr rfl
  ·cases h
theorem zfV{a b c:Option D}:K7 3 [a,b,c]=[a,b,c]:=rfl
theorem ziq{l m:Nat}{ws:List Wo}:objC "Book" "put" (Bk l m ws)=true:=by erw[objC];decide
theorem z5W(c:Str)(k:Nat)(h:zhn c=some (k==0)/\zho c=some (k==1)/\zhp c=some (k==2)/\zhq c=some (k==3)/\zhr c=some false/\zhs c=some false/\zht c=some true/\zhu c=some true)(hk:k<4)(n:Nat):z0Y [.exc c] n= .ok (.int k) [.exc c] (n+1):=by
 obtain⟨h0,h1,h2,h3,h4,h5,h6,h7⟩:=h
 have hc:(List.count true [k==0,k==1,k==2,k==3])=1:=by(rcases(show k=0\/k=1\/k=2\/k=3 by lia) with rfl|rfl|rfl|rfl)<;>decide
 have hi:(List.idxOf true [k==0,k==1,k==2,k==3])=k:=by(rcases(show k=0\/k=1\/k=2\/k=3 by lia) with rfl|rfl|rfl|rfl)<;>decide
 have hm:true∈[k==0,k==1,k==2,k==3]:=by(rcases(show k=0\/k=1\/k=2\/k=3 by lia) with rfl|rfl|rfl|rfl)<;>decide
 unfold z0Y z3x
 left
 rw[z1G h0]
 left
 rw[z1G h1]
 left
 rw[z1G h2]
 left
 rw[z1G h3]
 left
 rw[z1G h4]
 left
 rw[z1G h5]
 left
 rw[zin (bs:=[k==0,k==1,k==2,k==3]) rfl,hc]
 left
 rw[z1G h6]
 left
 rw[z1G h7]
 left
 rw[zio (bs:=[k==0,k==1,k==2,k==3]) rfl hm,hi]
 left
theorem zir{c:Str}(h:Nx c)(n:Nat):z0Y [.exc c] n= .ok (kdI (some c)) [.exc c] (n+1):=by
 rcases h with rfl|rfl
 ·exact z5W "Twice" 1 (by decide+kernel) (by decide) n
 ·exact z5W "TooMany" 2 (by decide+kernel) (by decide) n
theorem z5X(ws:List Wo):labsL (ksW ws)=[]:=by
 induction ws with
 |nil=>rfl
 |cons w ws ih=>erw[ksW,b9,labsL,z4T,m8] at ih⊢;exact ih
theorem z5e{l m:Nat}{ws:List Wo}:y4 (Bk l m ws)=[l,m]:=by erw[y4,labsL,z5X,z0m,c9]
theorem zcJ{l m:Nat}{ws:List Wo}{r:List D}(hr:labsL r=[])(k:Nat):findL k (Bk l m ws::r)=if l=k then some (Bk l m ws) else if m=k then some (Dw m ws) else none:=by
 have e0:findL k r=none:=findL_none r (by rw[hr];exact n9)
 have e1:findL k (vsW ws)=none:=findL_none _ (by rw[z0m];exact n9)
 by_cases h1:l=k
 ·erw[findL,Y7,if_pos h1]
 ·by_cases h2:m=k
  ·erw[findL,Y7,if_neg h1,if_pos h2]
  ·erw[findL,Y7,if_neg h1,if_neg h2,e1,e0]
theorem z6D{l m:Nat}{ws ws':List Wo}{r:List D}(hr:labsL r=[]):rp (fun k=>findL k (Bk l m ws'::r)) (Bk l m ws)=Bk l m ws':=by
 erw[rp,zcJ hr,if_true]
theorem z5f{l m:Nat}{ws':List Wo}{r:List D}(hr:labsL r=[]){t:D}(h1:l∉y4 t)(h2:m∉y4 t):rp (fun k=>findL k (Bk l m ws'::r)) t=t:=z7q t fun k hk=>by
 rw[zcJ hr,if_neg fun z:l=k=>h1 (by rw[z];exact hk),if_neg fun z:m=k=>h2 (by rw[z];exact hk)]
theorem z3E{f:Nat->Option D}: ∀{o:List (Option D)},(∀t,some t∈o->rp f t=t)->rpO f o=o
 |[],_=>rfl
 |none::o,h=>by rw[K3,z3E fun t ht=>h t (b7 _ ht)];rfl
 |some d::o,h=>by rw[K3,z3E fun t ht=>h t (b7 _ ht),p4,h d (e9 ..)]
theorem z8w{l m:Nat}{ws ws':List Wo}{r:List D}(hr:labsL r=[]): ∀k∈labsL (Bk l m ws::r),(findL k (Bk l m ws'::r)).isSome=true:=fun k hk=>by
 rw[zcJ hr]
 erw[labsL,z5e,hr,c9,e7,n9,or_false] at hk
 rcases hk with rfl|rfl
 ·simp
 ·split<;>simp
noncomputable def wsN(ws:List Wo)(w:Wo):List Wo:=if z32 ws w=none then ws++[w] else ws
theorem zfW:PyData.strOk ("put" :Str)=true:=by decide+kernel
theorem zcK(l m:Nat)(hlm:l≠m)(ws:List Wo)(h:Bks ws)(w:Wo)(hw:w.ok)(n:Nat): ∃n',n<=n'/\z0k [.str "put",Bk l m ws,w.d] n= .ok (kdI (z32 ws w)) [.str "put",Bk l m (wsN ws w),w.d] n':=by
 obtain⟨n1,h1,e1⟩:=zfU l m hlm ws h w hw n
 have hr:labsL [w.d]=[]:=by erw[labsL,z5c _ (z8t hw).1,c9]
 have sp: ∀s:Stt,eqD (.str "put") (.str "put") s= .ok (.bool true) s:=fun s=>by
  rw[zfN ⟨rfl,by show PyData.canLay0 (.str "put")=true;rw[PyData.canLay0];exact zfW⟩ zfW];rfl
 have rs: ∀f,rp f (.str "put")= .str "put" :=fun _=>rfl
 cases hp:z32 ws w with
 |none=>
  rw[hp] at e1
  refine⟨n1,h1, ?_⟩
  unfold z0k z1O
  left
  rw[sp]
  left
  rw[ziq]
  left
  rw[e1]
  dsimp only
  rw[z6B (z8w hr) (fun e=>by
   injection e with e _
   erw[K3,z2v,p4,C8,z6D hr,rs,z6C,e,and_self])]
  left
  erw[z6D hr,rs,z6C,wsN,hp,if_true,kdI]
 |some c=>
  rw[hp] at e1
  have nx:=zcI hp
  refine⟨n1+1,by lia, ?_⟩
  unfold z0k z1O
  left
  rw[sp]
  left
  rw[ziq]
  left
  rw[e1]
  dsimp only
  left
  rw[zia (kbN nx),zfV]
  left
  rw[zir nx]
  left
  erw[wsN,hp,reduceCtorEq,if_false]
theorem zfX(mm:Nat)(ws:List Wo)(w:Wo)(n:Nat):z2s [Dw mm ws,w.d] n= .ok (kdI (z32 ws w)) [Dw mm ws,w.d] n:=by
 unfold z2s z57
 left
 rw[slW]
 left
 rw[z8r]
 unfold z32
 by_cases hh:has ws w.key=true
 ·have hh':has ws (nk3 w.s w.g w.k)=true:=hh
  rw[hh',if_pos hh]
  left
  rfl
 ·have hh':has ws (nk3 w.s w.g w.k)=false:=A7.mpr hh
  rw[hh',if_neg hh]
  left
  rw[z8s]
  left
  by_cases hl:60<=ws.length
  ·have hd:decide ((ws.length:Int)≥60)=true:=by simp;lia
   rw[if_pos hl,hd]
   left
   rfl
  ·have hd:decide ((ws.length:Int)≥60)=false:=by simp;lia
   rw[if_neg hl,hd]
   left
   rfl
theorem z5g{K:ItK}{g:Tg}{b:MS}{P:Nat->Stt->Prop}{item:Nat->D}{N:Nat}(hat: ∀i s,P i s->K.at' i s.tm=some (if i<N then some (item i) else none))
 (body: ∀i,i<N->∀s,P i s->∃σ',asg g (item i) s.σ=some σ'/\∃s',b {s with σ:=σ'}= .nx s'/\P (i+1) s'):
 ∀(f i:Nat) (s:Stt),i+f=N->P i s->∃s',forGo K g b f i s= .nx (s'.popn K.k)/\P N s'
 |0,i,s,hi,h=>by
  have e:i=N:=by lia
  subst e
  exact⟨s,zcx (by rw[hat i s h,if_neg (B6 _)]),h⟩
 |f+1,i,s,hi,h=>by
  obtain⟨σ',h1,s1,h2,h3⟩:=body i (by lia) s h
  obtain⟨s2,h4,h5⟩:=z5g hat body f (i+1) s1 (by lia) h3
  exact⟨s2,by rw[za8 (by rw[hat i s h,if_pos (by lia)]) h1 h2,h4],h5⟩
theorem zfY{o:Option D}{σ tm:List (Option D)}{n:Nat}:Stt.popn ⟨σ,o::tm,n⟩ 1=⟨σ,tm,n⟩:=rfl
theorem zfZ:z6J.k=1:=rfl
theorem zb0{l:Nat}{ds:List D}{i:Nat}{tm:List (Option D)}:z6J.at' i (some (.lst l ds)::tm)=some (if i<ds.length then some (ds.getD i .non) else none):=by
 show some (ds[i]?)=_
 by_cases h:i<ds.length
 ·rw[if_pos h];simp[h]
 ·rw[if_neg h];simp[N7 h]
theorem z8x{K:ItK}{tg:Tg}{me:M D}{g:D->D}{sl:D->List (Option D)}{k:Nat}{items:List D}{its fr σ0 tm0:List (Option D)}{ol:Nat}(hk:its.length=K.k)(hol:σ0.length=ol)(hz:items.length<sizeLine)(hat: ∀i rest,K.at' i (its++rest)=some items[i]?)
 (has: ∀d∈items,(sl d).length=k/\∀os:List (Option D),os.length=k->asg tg d (os++fr)=some (sl d++fr))
 (hme: ∀d∈items,∀tm n,∃n',n<=n'/\me ⟨sl d++fr,tm,n⟩= .ok (g d) ⟨sl d++fr,tm,n'⟩):
 ∀(f i:Nat) (acc:List D) (os:List (Option D)) (n:Nat),os.length=k->i+f=items.length->acc.length<=i->∃n',n<=n'/\U9 K tg (rt true) me ol f i acc.length ⟨os++fr,(acc.reverse.map some)++(σ0++(its++tm0)),n⟩= .ok (.lst n' (acc++(items.drop i).map g)) ⟨σ0,tm0,n'+1⟩:=by
 intro f
 induction f with
 |zero=>
  intro i acc os n ho hi ha
  have hi:i=items.length:=by lia
  refine⟨n,e8 _, ?_⟩
  have l1:(acc.reverse.map some).length=acc.length:=by simp
  have e1:((acc.reverse.map some)++(σ0++(its++tm0))).drop (acc.length+ol)=its++tm0:=by
   rw[<-m9];exact J8 _ _ _ (by simp[hol])
  have e0:K.at' i (its++tm0)=some none:=by
   rw[hat,List.getElem?_eq_none (show items.length<=i by lia)]
  unfold U9
  erw[e1,e0]
  rw[z0l _ _ _ l1]
  have e2:(acc.reverse.map some).reverse=acc.map some:=by simp
  rw[e2,K2]
  erw[Res.ok.injEq,Stt.mk.injEq,and_true,List.drop_eq_nil_of_le (show items.length<=i by lia),l3,c9,true_and]
  constructor
  ·rw[J8 _ _ _ l1,z0l _ _ _ hol]
  ·have:((acc.reverse.map some)++(σ0++(its++tm0))).drop (acc.length+ol+K.k)=(((acc.reverse.map some)++(σ0++(its++tm0))).drop (acc.length+ol)).drop K.k:=by rw[D2]
   rw[this,e1]
   exact J8 _ _ _ hk
 |succ f ih=>
  intro i acc os n ho hi ha
  have hlt:i<items.length:=by lia
  have e1:((acc.reverse.map some)++(σ0++(its++tm0))).drop (acc.length+ol)=its++tm0:=by
   rw[<-m9];exact J8 _ _ _ (by simp[hol])
  have e0:K.at' i (its++tm0)=some (some items[i]):=by
   rw[hat,List.getElem?_eq_getElem hlt]
  obtain⟨a1,a2⟩:=has items[i] (C4 hlt)
  rw[F3 hlt]
  obtain⟨n2,hn2,h2⟩:=hme items[i] (C4 hlt) ((acc.reverse.map some)++(σ0++(its++tm0))) n
  obtain⟨n3,hn3,h3⟩:=ih (i+1) (acc++[g items[i]]) (sl items[i]) n2 a1 (by lia) (by simp;lia)
  refine⟨n3,by lia, ?_⟩
  unfold U9
  erw[e1,e0,a2 os ho,rt]
  erw[if_pos (show acc.length<sizeLine by lia),h2]
  erw[l5,i5,r8,E7,C6,l9,B8,m8,C1,b9,l3,l7,m9] at h3⊢
  exact h3
theorem zaa{mi:M ItK}{K:ItK}{tg:Tg}{me:M D}{g:D->D}{sl:D->List (Option D)}{k:Nat}{items:List D}{its:List (Option D)}{ix:List Nat}{s:Stt}{σ tm:List (Option D)}{n:Nat}(hc:mi s= .ok K ⟨σ,its++tm,n⟩)(hk:its.length=K.k)(hz:items.length<sizeLine)(hat: ∀i rest,K.at' i (its++rest)=some items[i]?)(hlen:K.len (its++tm)=items.length)
 (has: ∀d∈items,(sl d).length=k/\∀os:List (Option D),os.length=k->asg tg d (os++(ix.map fun i=>(σ[i]?).getD none))=some (sl d++(ix.map fun i=>(σ[i]?).getD none)))
 (hme: ∀d∈items,∀tm n,∃n',n<=n'/\me ⟨sl d++(ix.map fun i=>(σ[i]?).getD none),tm,n⟩= .ok (g d) ⟨sl d++(ix.map fun i=>(σ[i]?).getD none),tm,n'⟩):
 ∃n',n<=n'/\z0q mi tg (rt true) me k ix s= .ok (.lst n' (items.map g)) ⟨σ,tm,n'+1⟩:=by
 obtain⟨n',h2,h3⟩:=z8x (K:=K) (tg:=tg) (me:=me) (g:=g) (sl:=sl) (σ0:=σ) (tm0:=tm) hk rfl hz hat has hme items.length 0 [] (e6 k none) n (by simp) (by simp) (by simp)
 refine⟨n',h2, ?_⟩
 unfold z0q
 erw[bd,hc,hlen]
 erw[l3,B8,m8,r8,M0] at h3
 exact h3
theorem zab{α:Type}(xs:List α):j7 (xs.map fun _=>D.bool true)=some (xs.map fun _=>true):=by
 induction xs with
 |nil=>rfl
 |cons x xs ih=>erw[b9,j7,ih];rfl
theorem zcL{α:Type}{l:Nat}{xs:List α}{s:Stt}:z9k [.lst l (xs.map fun _=>D.bool true)] s= .ok (.bool true) s:=by
 rw[zfr (zab xs)]
 congr 2
 simp
theorem zg0{l:Nat}{ds:List D}{s:Stt}:zd5 (.lst l ds) [] s= .ok .non (s.put l (.lst l ds.reverse)):=rfl
noncomputable def awM:MS:=(W3 (sIf (mOr (z1d (j3 (z3G "tuple" (y3 1)))) (mOr (z1d (j3 (z3G "tuple" (Z0 (y3 1) (mC (.int 0)) ixD)))) (z1d (j3 (z3G "tuple" (Z0 (y3 1) (mC (.int 1)) ixD)))))) (u0 (mC (.bool false))) sNx)
 (sIf (z1d (j3 (mCB [(z0q (z03 (Z0 (Z0 (Z0 (y3 1) (mC (.int 0)) ixD) (Z0 (y3 1) (mC (.int 1)) ixD) z02) (mSl (y3 1) (some (mC (.int 2))) none) z02)) (.nm 0) (rt true) (Y1 j9 [(y3 0)]) 1 [])] z9k))) (u0 (mC (.bool false))) sNx))
theorem zis(a0:Option D)(tm:List (Option D))(w:Wo)(h:w.ok)(n:Nat): ∃n',n<=n'/\awM ⟨[a0,some w.d],tm,n⟩= .nx ⟨[a0,some w.d],tm,n'⟩:=by
 have x0: ∀s:Stt,ixD w.d (.int 0) s= .ok (.tup (iL w.s)) s:=fun _=>rfl
 have x1: ∀s:Stt,ixD w.d (.int 1) s= .ok (.tup (iL w.g)) s:=fun _=>rfl
 have x2: ∀s:Stt,slD w.d (some 2) none s= .ok (.tup (iL [w.k,w.c])) s:=fun _=>rfl
 have i0:isiD "tuple" w.d=some true:=rfl
 have cat: ∀(a b:List Int) (s:Stt),a.length+b.length<=100->z02 (.tup (iL a)) (.tup (iL b)) s= .ok (.tup (iL (a++b))) s:=fun a b s hh=>by
  rw[zaQ (by rw[zl];simp[iL];lia)];simp[iL]
 have l6:=h.s6
 have l4:=h.g4
 obtain⟨n1,h1,e1⟩:=zaa (mi:=z03 (Z0 (Z0 (Z0 (y3 1) (mC (.int 0)) ixD) (Z0 (y3 1) (mC (.int 1)) ixD) z02) (mSl (y3 1) (some (mC (.int 2))) none) z02)) (K:=zax) (tg:= .nm 0) (me:=Y1 j9 [(y3 0)]) (g:=fun _=> .bool true) (sl:=fun d=>[some d]) (k:=1) (items:=iL (w.s++w.g++[w.k,w.c])) (its:=[some (.tup (iL (w.s++w.g++[w.k,w.c])))]) (ix:=[]) (s:=⟨[a0,some w.d],tm,n⟩) (σ:=[a0,some w.d]) (tm:=tm) (n:=n) (by
  have q:Z0 (Z0 (Z0 (y3 1) (mC (.int 0)) ixD) (Z0 (y3 1) (mC (.int 1)) ixD) z02) (mSl (y3 1) (some (mC (.int 2))) none) z02 ⟨[a0,some w.d],tm,n⟩= .ok (.tup (iL (w.s++w.g++[w.k,w.c]))) ⟨[a0,some w.d],tm,n⟩:=by
   left
   rw[x0]
   left
   rw[x1]
   left
   rw[cat _ _ _ (by lia)]
   left
   rw[x2]
   left
   rw[cat _ _ _ (by simp;lia)]
  unfold z03 bd
  rw[q]
  rfl) rfl (by rw[zl];simp[iL];lia) (fun i rest=>rfl) rfl (fun d hd=>⟨rfl,fun os ho=>by
   match os,ho with
   |[a0],_=>rfl⟩) (fun d hd tm n=>by
   obtain⟨i,_,rfl⟩:=m7.mp hd
   refine⟨n,e8 _, ?_⟩
   erw[l3,c9]
   left
   rw[z5T _ _ rfl]
   left
   erw[isInt])
 refine⟨n1+1,by lia, ?_⟩
 have ew:w.d= .tup [.tup (iL w.s), .tup (iL w.g), .int w.k, .int w.c]:=rfl
 unfold awM
 rw[ew] at e1⊢
 left
 rw[e1]
 left
 rw[zcL]
 left
theorem zg1(lt:Nat)(ds:List D)(hd: ∀d∈ds,∃w:Wo,w.ok/\d=w.d)(n:Nat): ∃n',n<=n'/\J0 [.lst lt ds] n= .ok (.bool true) [.lst lt ds] n':=by
 obtain⟨s',e,o1,n1,h1,rfl⟩:=z5g (K:=z6J) (g:= .nm 1) (b:=awM) (item:=fun i=>ds.getD i .non) (N:=ds.length) (P:=fun i s=> ∃(o1:Option D) (n1:Nat),n<=n1/\s=⟨[some (.lst lt ds),o1],[some (.lst lt ds),some (.lst lt ds)],n1⟩)
  (by rintro i s ⟨_,_,_,rfl⟩;rw[zb0])
  (by
   rintro i hi s ⟨o1,n1,h1,rfl⟩
   refine⟨_,rfl, ?_⟩
   obtain⟨w,hw,e⟩:=hd _ (C4 hi)
   have e':ds.getD i .non=w.d:=by rw[<-e];simp[hi]
   rw[e']
   obtain⟨n2,h2,e2⟩:=zis (some (.lst lt ds)) [some (.lst lt ds),some (.lst lt ds)] w hw n1
   exact⟨_,e2,_,n2,by lia,rfl⟩)
  ds.length 0 ⟨[some (.lst lt ds),none],[some (.lst lt ds),some (.lst lt ds)],n⟩ (by lia) ⟨none,n,e8 _,rfl⟩
 rw[zfZ,zfY] at e
 refine⟨n1,h1, ?_⟩
 unfold J0
 have e0:K1=(W3 (sIf (z1d (j3 (z3G "list" (y3 0)))) (u0 (mC (.bool false))) sNx) (W3 (z4v (z03 (y3 0)) (.nm 1) awM) (u0 (mC (.bool true))))):=rfl
 have em: ∀σ tm n,z03 (y3 0) ⟨some (.lst lt ds)::σ,tm,n⟩= .ok z6J ⟨some (.lst lt ds)::σ,some (.lst lt ds)::tm,n⟩:=fun σ tm n=>rfl
 rw[e0]
 left
 rw[em]
 left
 rw[show z6J.len [some (.lst lt ds),some (.lst lt ds)]=ds.length from rfl,e]
 left
theorem zg2{l m:Nat}{ws:List Wo}:objC "Book" "words" (Bk l m ws)=true:=by erw[objC];decide
theorem zit{l m:Nat}{ws:List Wo}:objC "Book" "cost_of" (Bk l m ws)=true:=by erw[objC];decide
theorem z5h{l m k:Nat}{d:D}{ws:List Wo}(h1:l≠k)(h2:m≠k):rp (pl k d) (Bk l m ws)=Bk l m ws:=J9 (by rw[z5e];erw[e7,n9,or_false,not_or];exact⟨fun z=>h1 z.symm,fun z=>h2 z.symm⟩)
theorem z1B{m:Nat}{ws:List Wo}:y4 (Dw m ws)=[m]:=by erw[y4,z5X,z0m,c9]
theorem z8y{m k:Nat}{d:D}{ws:List Wo}(h2:m≠k):rp (pl k d) (Dw m ws)=Dw m ws:=J9 (by rw[z1B];erw[e7,n9,or_false];exact fun z=>h2 z.symm)
noncomputable def cO(ws:List Wo)(k:NK):D:=((fnd ws k).map D.int).getD .non
theorem ziu{ws:List Wo}{k:NK}{s:Stt}:neD (cO ws k) (cO ws k) s= .ok (.bool false) s:=by
 unfold cO
 cases fnd ws k with
 |none=>exact z3C ⟨rfl,rfl⟩ ⟨rfl,rfl⟩ rfl (by simp[er,PyData.depth])
 |some i=>exact z3C ⟨rfl,rfl⟩ ⟨rfl,rfl⟩ rfl (by simp[er,PyData.depth])
noncomputable def stM:MS:=(W3 (G5 (.nm 5) (z4V "Book" "words" W6 (y3 0) []))
 (W3 (sIf (mOr (z1d (j3 (Y1 J0 [(y3 5)]))) (G6 (Z0 (y3 5) (y3 3) neD))) (u0 (mC (.bool false))) sNx)
 (W3 (z2H (z07 (y3 5) [(mC .non)] z9s))
 (z2H (z07 (y3 5) [] zd5)))))
theorem ziv(l m mm ld n:Nat)(ws:List Wo)(h:Bks ws)(w:Wo)(hl:l<n)(hm:m<n)(hmm:mm<n)(hd:ld<n)(t:Int)(o5 o6 o7:Option D)(x6:UpO n o6)(x7:UpO n o7): ∃p5 n',n<=n'/\
 stM ⟨[some (Bk l m ws),some (Dw mm ws),some w.d,some (.lst ld (U3 (wsD ws))),some (.int t),o5,o6,o7],[some (Bk l m ws),some (Dw mm ws),some w.d],n⟩= .nx ⟨[some (Bk l m ws),some (Dw mm ws),some w.d,some (.lst ld (U3 (wsD ws))),some (.int t),p5,o6,o7],[some (Bk l m ws),some (Dw mm ws),some w.d],n'⟩:=by
 have so:=fun l=>z8u (l:=l) h
 obtain⟨n1,h1,e1⟩:=zg1 (n+1) (U3 (wsD ws)) (fun d hd=>z0D h (z5d hd)) (n+1+1)
 have ne1: ∀s:Stt,neD (.lst (n+1) (U3 (wsD ws))) (.lst ld (U3 (wsD ws))) s= .ok (.bool false) s:=fun s=>z3C (so (n+1)).1 (so ld).1 rfl (so ld).2.1
 have fB: ∀d,rp (pl (n+1) d) (Bk l m ws)=Bk l m ws:=fun d=>z5h (by lia) (by lia)
 have fD: ∀d,rp (pl (n+1) d) (Dw mm ws)=Dw mm ws:=fun d=>z8y (by lia)
 have fS: ∀d,rp (pl (n+1) d) (.lst ld (U3 (wsD ws)))= .lst ld (U3 (wsD ws)):=fun d=>by rw[zii (by lia),rpL_id _ fun j hj=>by rw[(so ld).2.2.1] at hj;cases hj]
 have s6:=fun d=>x6.fixk (show n<=n+1 by lia) d
 have s7:=fun d=>x7.fixk (show n<=n+1 by lia) d
 have ll:=(so ld).2.2.2
 refine⟨some (.lst (n+1) (U3 (wsD ws)++[D.non]).reverse),n1,by lia, ?_⟩
 unfold stM
 left
 rw[zg2]
 left
 rw[z5U l m ws h]
 left
 rw[e1]
 left
 rw[ne1]
 left
 rw[zfw ⟨by rw[zl];lia,by simp[y4]⟩]
 left
 erw[fB,fD,fS,s6,s7,z6C]
 try (left)
 rw[zg0]
 left
 erw[fB,fD,fS,s6,s7,z6C]
noncomputable def skM:MS:=(W3 (G5 (.nm 7) (z4V "Book" "cost_of" W9 (y3 0) [(Z0 (y3 6) (mC (.int 0)) ixD),(Z0 (y3 6) (mC (.int 1)) ixD),(Z0 (y3 6) (mC (.int 2)) ixD)]))
 (sIf (mOr (G6 (Z0 (y3 7) (z4f (y3 1) (y3 6) (mC .non)) neD)) (zet (G6 (Z0 (y3 7) (mC .non) zau)) (z1d (j3 (Y1 j9 [(y3 7)]))))) (u0 (mC (.bool false))) sNx))
theorem zcM{mm:Nat}{ws:List Wo}{s g:List Int}{k:Int}{σ tm:List (Option D)}{n i j:Nat}(h1:σ[i]? =some (some (Dw mm ws)))(h2:σ[j]? =some (some (kD s g k))):z4f (y3 i) (y3 j) (mC .non) ⟨σ,tm,n⟩= .ok (cO ws (nk3 s g k)) ⟨σ,tm,n⟩:=by
 rw[dk3] at h2
 unfold z4f
 erw[bd,y3,h1,h2,zaJ,if_pos (z4q ws),psh,Stt.psh,mC,rt,pop,zfb,g9,z4r]
 rfl
theorem ziw(l m mm n:Nat)(ws:List Wo)(a2 a3 a4 a5:Option D)(tm:List (Option D))(s g:List Int)(k:Int)(o7:Option D):
 skM ⟨[some (Bk l m ws),some (Dw mm ws),a2,a3,a4,a5,some (kD s g k),o7],tm,n⟩= .nx ⟨[some (Bk l m ws),some (Dw mm ws),a2,a3,a4,a5,some (kD s g k),some (cO ws (nk3 s g k))],tm,n⟩:=by
 have x0: ∀s':Stt,ixD (kD s g k) (.int 0) s'= .ok (.tup (iL s)) s':=fun _=>rfl
 have x1: ∀s':Stt,ixD (kD s g k) (.int 1) s'= .ok (.tup (iL g)) s':=fun _=>rfl
 have x2: ∀s':Stt,ixD (kD s g k) (.int 2) s'= .ok (.int k) s':=fun _=>rfl
 have wc: ∀n',isNon (cO ws (nk3 s g k))=false->j9 [cO ws (nk3 s g k)] n'= .ok (.bool true) [cO ws (nk3 s g k)] n':=fun n' hh=>by
  unfold cO at hh⊢
  cases hf:fnd ws (nk3 s g k) with
  |none=>rw[hf] at hh;cases hh
  |some i=>exact z5T (.int i) n' rfl
 unfold skM
 left
 rw[zit]
 left
 rw[x0]
 left
 rw[x1]
 left
 rw[x2]
 left
 rw[zcG,show((fnd ws (nk3 s g k)).map D.int).getD .non=cO ws (nk3 s g k) from rfl]
 left
 rw[zcM (mm:=mm) rfl rfl]
 left
 rw[ziu]
 left
 cases hn:isNon (cO ws (nk3 s g k)) with
 |true=>left
 |false=>
  left
  rw[wc _ hn]
  left
theorem UpO.of{k:Nat}{d:D}(h:Up k d):UpO k (some d):=fun x hx=>by cases hx;exact h
theorem UpO.mono{k m:Nat}{o:Option D}(h:UpO k o)(hk:k<=m):UpO m o:=fun d hd j hj=>i7 (h d hd j hj) hk
theorem c1T{a:D}{ws:List D}:z9g (a::ws) (some (1:Int)) none=ws:=by
 unfold z9g
 rw[show(some (1:Int))=some ((1:Nat):Int) from rfl,HT.sIx_nat,HT.sIx_none]
 simp
noncomputable def klM:M D:=(mCB [(mSl (y3 2) none (some (mC (.int 3)))),(mCB [(Z0 (mCB [(Z0 (mC (.int 39)) (Z0 (Z0 (y3 2) (mC (.int 0)) ixD) (mC (.int 0)) ixD) z9e)] z0L) (mSl (Z0 (y3 2) (mC (.int 0)) ixD) (some (mC (.int 1))) none) z02),(Z0 (y3 2) (mC (.int 1)) ixD),(Z0 (y3 2) (mC (.int 2)) ixD)] z0L),(mCB [(Z0 (y3 2) (mC (.int 0)) ixD),(Z0 (y3 2) (mC (.int 1)) ixD),(Z0 (mC (.int 7)) (Z0 (y3 2) (mC (.int 2)) ixD) z9e)] z0L)] lstM)
theorem zix(w:Wo)(hw:w.ok)(a0 a1:Option D)(r tm:List (Option D))(n:Nat): ∃ks:List (List Int×List Int×Int),ks.length=3/\klM ⟨a0::a1::some w.d::r,tm,n⟩= .ok (.lst n (ks.map fun q=>kD q.1 q.2.1 q.2.2)) ⟨a0::a1::some w.d::r,tm,n+1⟩:=by
 obtain⟨s,g,k,c⟩:=w
 cases s with
 |nil=>have:=hw.s1;simp at this
 |cons x s=>
  have l6:=hw.s6
  erw[i5] at l6
  refine⟨[(x::s,g,k),((39 -x)::s,g,k),(x::s,g,7 -k)],rfl, ?_⟩
  unfold klM
  rw[show Wo.d ⟨x::s,g,k,c⟩= .tup [.tup (.int x::iL s), .tup (iL g), .int k, .int c] from rfl]
  left
  rw[c1T,zaQ (by rw[zl];simp[iL];lia)]
  left
  rfl
theorem z8z(l m mm n:Nat)(ws:List Wo)(h:Bks ws)(w:Wo)(hw:w.ok)(hl:l<n)(hm:m<n)(hmm:mm<n): ∃n',n<=n'/\X0 [Bk l m ws,Dw mm ws,w.d] n= .ok (.bool true) [Bk l m ws,Dw mm ws,w.d] n':=by
 obtain⟨s',e2,o4,o5,n2,hn2,rfl⟩:=z2x (P:=fun k s=> ∃(o4 o5:Option D) (n2:Nat),n+1+1<=n2/\s=⟨[some (Bk l m ws),some (Dw mm ws),some w.d,some (.lst (n+1) (U3 (wsD ws))),o4,o5,none,none],[some (Bk l m ws),some (Dw mm ws),some w.d],n2⟩) (lo:=0) (N:=2) (g:= .nm 4) (b:=stM) (by
  rintro k hk s ⟨o4,o5,n2,hn2,rfl⟩
  refine⟨_,rfl, ?_⟩
  obtain⟨p5,n3,h3,e⟩:=ziv l m mm (n+1) n2 ws h w (by lia) (by lia) (by lia) (by lia) (0+(k:Int)) o5 none none nofun nofun
  exact⟨_,e,_,p5,n3,by lia,rfl⟩) 2 0 ⟨[some (Bk l m ws),some (Dw mm ws),some w.d,some (.lst (n+1) (U3 (wsD ws))),none,none,none,none],[some (Bk l m ws),some (Dw mm ws),some w.d],n+1+1⟩ (by lia) ⟨none,none,n+1+1,e8 _,rfl⟩
 obtain⟨ks,kl,ek⟩:=zix w hw (some (Bk l m ws)) (some (Dw mm ws)) [some (.lst (n+1) (U3 (wsD ws))),o4,o5,none,none] [some (Bk l m ws),some (Dw mm ws),some w.d] n2
 obtain⟨s',e3,o6,o7,rfl⟩:=z5g (K:=z6J) (g:= .nm 6) (b:=skM) (item:=fun i=>(ks.map fun q=>kD q.1 q.2.1 q.2.2).getD i .non) (N:=ks.length) (P:=fun i s=> ∃(o6 o7:Option D),s=⟨[some (Bk l m ws),some (Dw mm ws),some w.d,some (.lst (n+1) (U3 (wsD ws))),o4,o5,o6,o7],[some (.lst n2 (ks.map fun q=>kD q.1 q.2.1 q.2.2)),some (Bk l m ws),some (Dw mm ws),some w.d],n2+1⟩)
  (by rintro i s ⟨_,_,rfl⟩;rw[zb0,i9])
  (by
   rintro i hi s ⟨o6,o7,rfl⟩
   rw[show(ks.map fun q=>kD q.1 q.2.1 q.2.2).getD i .non=kD ks[i].1 ks[i].2.1 ks[i].2.2 by simp[hi]]
   refine⟨_,rfl, ?_⟩
   exact⟨_,ziw l m mm (n2+1) ws _ _ _ _ _ ks[i].1 ks[i].2.1 ks[i].2.2 o7,_,_,rfl⟩)
  ks.length 0 ⟨[some (Bk l m ws),some (Dw mm ws),some w.d,some (.lst (n+1) (U3 (wsD ws))),o4,o5,none,none],[some (.lst n2 (ks.map fun q=>kD q.1 q.2.1 q.2.2)),some (Bk l m ws),some (Dw mm ws),some w.d],n2+1⟩ (by lia) ⟨none,none,rfl⟩
 rw[zfZ,zfY] at e3
 refine⟨n2+1,by lia, ?_⟩
 unfold X0
 have e0:z1z=(W3 (G5 (.nm 3) (mCB [(bd (y3 1) zaN)] zaK)) (W3 (z4v (z04 [(mC (.int 2))]) (.nm 4) stM) (W3 (z4v (z03 klM) (.nm 6) skM) (u0 (mC (.bool true)))))):=rfl
 rw[e0]
 left
 rw[zcC h]
 left
 rw[zaW h]
 left
 rw[z30 ⟨by decide,by decide⟩]
 left
 rw[show Int.toNat 2=2 from rfl,e2]
 left
 rw[zfC ek]
 left
 rw[show z6J.len [some (.lst n2 (ks.map fun q=>kD q.1 q.2.1 q.2.2)),some (Bk l m ws),some (Dw mm ws),some w.d]=ks.length by show(ks.map fun q=>kD q.1 q.2.1 q.2.2).length=_;simp,e3]
 left
theorem z8O.two{r:Int}:z8O r 2:=⟨by decide,by decide⟩
theorem zg3(s:List Int):(iL s).length=s.length:=by simp[iL]
theorem zg4{v:Int}: ∀{ys:List D},(∀y∈ys,∃i:Int,y= .int i/\0<=i/\i<v)->∃bs,ys=iL bs/\∀i∈bs,0<=i/\i<v
 |[],_=>⟨[],rfl,fun _ h=>nomatch h⟩
 |d::ds,h=>by
  obtain⟨i,rfl,hi⟩:=h d (by simp)
  obtain⟨bs,rfl,hb⟩:=zg4 (ys:=ds) fun d hd=>h d (by simp[hd])
  exact⟨i::bs,rfl,l8.mpr ⟨hi,hb⟩⟩
noncomputable def drM(a b a' b':Int):M D:=z0q (z04 [(Z0 (mC (.int 1)) (Y1 Z5 [(y3 0),(Z0 (mCB [(mC (.int a')),(mC (.int b'))] lstM) (y3 1) ixD)]) z02)]) (.nm 0) (rt true) (Y1 Z5 [(y3 1),(Z0 (mCB [(mC (.int a)),(mC (.int b))] lstM) (y3 2) ixD)]) 1 [0,1]
theorem z8A{a b a' b' v v' wide c x:Int}{l n:Nat}{r:List (Option D)}(h:Bg c x)(hn:l<n)(hv:atI [D.int a,D.int b] wide=some (.int v))(hv':atI [D.int a',D.int b'] wide=some (.int v'))(h0:0<v)(h1:v<1000000)(h2:0<v')(h3:v'<100)(hr: ∀d,rpO (pl l d) r=r):
 ∃(s:List Int) (c' x':Int) (n':Nat),1<=s.length/\s.length<=v'/\(∀i∈s,0<=i/\i<v)/\Bg c' x'/\n<=n'/\drM a b a' b' ⟨some (.lst l [.int c, .int x])::some (.int wide)::r,[some (.lst l [.int c, .int x])],n⟩= .ok (.lst n' (iL s)) ⟨some (.lst l [.int c', .int x'])::some (.int wide)::r,[some (.lst l [.int c', .int x'])],n'+1⟩:=by
 obtain⟨k,c1,x1,hk0,hk1,b1,e1⟩:=V1 l c x v' (n+1) h h2 (by lia)
 obtain⟨ys,b',n',g1,g2,g3,⟨c3,x3,rfl,hb3⟩,g5,g6⟩:=z8m (ms:=[(Z0 (mC (.int 1)) (Y1 Z5 [(y3 0),(Z0 (mCB [(mC (.int a')),(mC (.int b'))] lstM) (y3 1) ixD)]) z02)]) (me:=(Y1 Z5 [(y3 1),(Z0 (mCB [(mC (.int a)),(mC (.int b))] lstM) (y3 2) ixD)])) (N:=(1+k).toNat) (ix:=[0,1]) (s:=⟨some (.lst l [.int c, .int x])::some (.int wide)::r,[some (.lst l [.int c, .int x])],n⟩) (l:=l) (n:=n+1) (j:=1+k) (σ0:=some (.lst l [.int c1, .int x1])::some (.int wide)::r) (tm0:=[some (.lst l [.int c1, .int x1])]) (b:=[.int c1, .int x1]) (Bg:=fun b=> ∃c x,b=[.int c, .int x]/\Bg c x) (Q:=fun _ d=> ∃i:Int,d= .int i/\0<=i/\i<v) (fun _ _ _ _ h=>h)
  (by
   left
   rw[hv']
   left
   rw[e1,X1 rfl rfl rfl (by left;erw[hr]) (by left)]
   left
   erw[hr]) rfl ⟨by lia,by lia⟩ (by rw[zl];lia) ⟨c1,x1,rfl,b1⟩ (by lia) (by left;erw[hr]) (by left) (by erw[b9,l3,List.getElem?_cons_zero,List.getElem?_cons_succ,A3];left) (by
   rintro i hi b tm m ⟨c,x,rfl,hb⟩ hm hf
   obtain⟨r',c',x',hs0,hs1,h',e'⟩:=V1 l c x v (m+1) hb h0 h1
   refine⟨.int r',[.int c', .int x'],m+1,⟨c',x',rfl,h'⟩,⟨r',rfl,hs0,hs1⟩,by lia,by simp[y4], ?_⟩
   erw[b9,l3,List.getElem?_cons_zero,List.getElem?_cons_succ,A3]
   left
   rw[hv]
   left
   rw[e',X1 rfl rfl rfl (by left) hf]
   left)
 obtain⟨bs,rfl,hbs⟩:=zg4 g2
 rw[zg3] at g1
 refine⟨bs,c3,x3,n',by lia,by lia,hbs,hb3,by lia, ?_⟩
 unfold drM
 rw[g6]
 left
 erw[hr]
theorem zcN(l:Nat)(c x:Int)(n:Nat)(h:Bg c x)(hn:l<n): ∃(w:Wo) (c' x':Int) (n':Nat),w.ok/\Bg c' x'/\n<=n'/\z0X [.lst l [.int c, .int x]] n= .ok w.d [.lst l [.int c', .int x']] n':=by
 obtain⟨r,c1,x1,hr0,hr1,b1,e1⟩:=V1 l c x 3 n h (by decide) (by decide)
 have hw: ∃(wide a b d e f g:Int),r/2=wide/\atI [D.int 2,D.int 40] wide=some (.int a)/\atI [D.int 2,D.int 6] wide=some (.int b)/\atI [D.int 3,D.int 1000] wide=some (.int d)/\atI [D.int 2,D.int 4] wide=some (.int e)/\atI [D.int 2,D.int 8] wide=some (.int f)/\atI [D.int 4,D.int 10000] wide=some (.int g)/\(0<a/\a<=40)/\(0<b/\b<=6)/\(0<d/\d<=1000)/\(0<e/\e<=4)/\(0<f/\f<=8)/\(0<g/\g<=10000):=by
  have:r/2=0\/r/2=1:=by lia
  rcases this with q|q
  ·exact⟨0,2,2,3,2,2,4,q,at0,at0,at0,at0,at0,at0,by decide⟩
  ·exact⟨1,40,6,1000,4,8,10000,q,at1,at1,at1,at1,at1,at1,by decide⟩
 obtain⟨wide,va,vb,vd,ve,vf,vg,hw,qa,qb,qd,qe,qf,qg,ha,hb,hd,he,hf,hg⟩:=hw
 obtain⟨s,c2,x2,n2,s1,s2,s3,b2,g2,e2⟩:=z8A (a:=2) (b:=40) (a':=2) (b':=6) (wide:=wide) (l:=l) (n:=n) (r:=[none,none]) b1 hn qa qb ha.1 (by lia) hb.1 (by lia) (fun _=>rfl)
 obtain⟨g,c3,x3,n3,t1,t2,t3,b3,g3,e3⟩:=z8A (a:=3) (b:=1000) (a':=2) (b':=4) (wide:=wide) (l:=l) (n:=n2+1) (r:=[some (.tup (iL s)),none]) b2 (by lia) qd qe hd.1 (by lia) he.1 (by lia) (fun _=>by erw[K3,z2v,p4,C8,z8j,zaX])
 obtain⟨k,c4,x4,hk0,hk1,b4,e4⟩:=V1 l c3 x3 vf (n3+1+1) b3 hf.1 (by lia)
 obtain⟨co,c5,x5,hc0,hc1,b5,e5⟩:=V1 l c4 x4 vg (n3+1+1+1) b4 hg.1 (by lia)
 refine⟨⟨s,g,k,co⟩,c5,x5,n3+1+1+1,⟨s1,by show s.length<=6;lia,fun i hi=>by have:=s3 i hi;lia,t1,by show g.length<=4;lia,fun i hi=>by have:=t3 i hi;lia,⟨hk0,by show k<=7;lia⟩,⟨hc0,by show co<=9999;lia⟩⟩,b5,by lia, ?_⟩
 unfold z0X
 have e0:z3w=(W3 (G5 (.nm 1) (Z0 (Y1 Z5 [(y3 0),(mC (.int 3))]) (mC (.int 2)) z2D))
  (W3 (G5 (.nm 2) (mCB [drM 2 40 2 6] zav))
  (W3 (G5 (.nm 3) (mCB [drM 3 1000 2 4] zav))
  (u0 (mCB [(y3 2),(y3 3),(Y1 Z5 [(y3 0),(Z0 (mCB [(mC (.int 2)),(mC (.int 8))] lstM) (y3 1) ixD)]),(Y1 Z5 [(y3 0),(Z0 (mCB [(mC (.int 4)),(mC (.int 10000))] lstM) (y3 1) ixD)])] z0L))))):=rfl
 rw[e0]
 left
 rw[e1,X1 rfl rfl rfl (by left) (by left)]
 left
 rw[z8g z8O.two,hw]
 left
 rw[e2]
 left
 rw[e3]
 left
 rw[qf]
 left
 rw[e4,X1 rfl rfl rfl (by left;erw[zaX]) (by left;erw[zaX])]
 left
 erw[zaX]
 try (left)
 rw[qg]
 left
 rw[e5,X1 rfl rfl rfl (by left;erw[zaX]) (by left;erw[zaX])]
 left
 erw[zaX]
 rfl
structure Sm(E:PyData):Prop where
 a:PyData.leavesShort 64 E=true
 b:E.showable=true
 c:E.bulk<=40
 d:E.depth<=6
structure SmL(k:Nat)(xs:List PyData):Prop where
 a:PyData.leavesShortAll 64 xs=true
 b:PyData.showableAll xs=true
 c:PyData.bulkAll xs<=k*xs.length
 d:PyData.depthAll xs<=6
theorem smL{k:Nat}: ∀{es:List PyData},(∀e∈es,PyData.leavesShort 64 e=true/\e.showable=true/\e.bulk+1<=k/\e.depth<=6)->SmL k es
 |[],_=>⟨rfl,rfl,e8 _,B9 _⟩
 |e::es,h=>by
  have r:=smL (es:=es) fun x hx=>h x (by simp[hx])
  obtain⟨q1,q2,q3,q4⟩:=h e (by simp)
  have r3:=r.c
  have r4:=r.d
  refine⟨?_, ?_, ?_, ?_⟩
  ·erw[PyData.leavesShortAll,i3];exact⟨q1,r.a⟩
  ·erw[PyData.showableAll,i3];exact⟨q2,r.b⟩
  ·erw[PyData.bulkAll,i5];rw[Nat.mul_add,Nat.mul_one];lia
  ·erw[PyData.depthAll];lia
theorem z33{i:Int}(h:i.natAbs<10^61):Sm (.int i):=by
 have e:(PyData.int i).shown.length<=64/\(PyData.int i).showable=true:=by
  constructor
  ·erw[PyData.shown]
   have:= @PySem.int_text_length_le10 i 61 (by decide) h
   rw[PySem.ofString_length];lia
  ·erw[PyData.showable,decide_eq_true_eq]
   by_cases h0:i.natAbs=0
   ·rw[h0];decide
   ·rw[Nat.log2_lt h0]
    exact i7 h (s0 (show 10^61<=2^203 by decide) (Nat.pow_le_pow_right (by decide) (by decide)))
 exact⟨by erw[PyData.leavesShort,decide_eq_true_eq];exact e.1,e.2,by simp[PyData.bulk],by simp[PyData.depth]⟩
theorem zcO(ds:List D):(erL ds).length=ds.length:=by
 induction ds with
 |nil=>rfl
 |cons d ds ih=>erw[erL,i5,ih]
theorem z8B(s:List Int):erL (iL s)=s.map .int:=by
 induction s with
 |nil=>rfl
 |cons i s ih=>erw[iL,b9,erL,er] at ih⊢;rw[ih]
theorem zb1{s:List Int}(h: ∀i∈s,0<=i/\i<=9999)(hl:s.length<=6):Sm (er (.tup (iL s))):=by
 rw[er,z8B]
 have q:=smL (k:=1) (es:=s.map .int) fun e he=>by
  obtain⟨i,hi,rfl⟩:=m7.mp he
  have b:=h i hi
  have z:=z33 (i:=i) (B1 (show i.natAbs<=9999 by lia) (by decide))
  exact⟨z.a,z.b,by simp[PyData.bulk],z.d⟩
 have d0:PyData.depthAll (s.map .int)=0:=by
  clear h hl q
  induction s with
  |nil=>rfl
  |cons i s ih=>erw[b9,PyData.depthAll,PyData.depth,ih];rfl
 refine⟨by erw[PyData.leavesShort];exact q.a,by erw[PyData.showable];exact q.b,by erw[PyData.bulk];have:=q.c;rw[i9] at this;lia,by erw[PyData.depth,d0];lia⟩
theorem zjI{w:Wo}(h:w.ok):Sm (er w.d):=by
 have l6:=h.s6
 have l4:=h.g4
 have a:=zb1 (s:=w.s) (fun i hi=>by have:=h.sb i hi;lia) (by lia)
 have b:=zb1 (s:=w.g) (fun i hi=>by have:=h.gb i hi;lia) (by lia)
 have c:=z33 (i:=w.k) (B1 (show w.k.natAbs<=9999 by have:=h.kb;lia) (by decide))
 have d:=z33 (i:=w.c) (B1 (show w.c.natAbs<=9999 by have:=h.cb;lia) (by decide))
 have ba:(er (.tup (iL w.s))).bulk<=6:=by
  rw[er,z8B]
  have q:=smL (k:=1) (es:=w.s.map .int) fun e he=>by
   obtain⟨i,hi,rfl⟩:=m7.mp he
   have b:=h.sb i hi
   have z:=z33 (i:=i) (B1 (show i.natAbs<=9999 by lia) (by decide))
   exact⟨z.a,z.b,by simp[PyData.bulk],z.d⟩
  erw[PyData.bulk];have:=q.c;rw[i9] at this;lia
 have bb:(er (.tup (iL w.g))).bulk<=4:=by
  rw[er,z8B]
  have q:=smL (k:=1) (es:=w.g.map .int) fun e he=>by
   obtain⟨i,hi,rfl⟩:=m7.mp he
   have b:=h.gb i hi
   have z:=z33 (i:=i) (B1 (show i.natAbs<=9999 by lia) (by decide))
   exact⟨z.a,z.b,by simp[PyData.bulk],z.d⟩
  erw[PyData.bulk];have:=q.c;rw[i9] at this;lia
 have dp:=(z8t h).2
 rw[show er w.d= .tuple [er (.tup (iL w.s)),er (.tup (iL w.g)), .int w.k, .int w.c] from rfl] at dp⊢
 have kc:(PyData.int w.k).bulk=0:=by simp[PyData.bulk]
 have kd:(PyData.int w.c).bulk=0:=by simp[PyData.bulk]
 generalize PyData.int w.k=K at*
 generalize PyData.int w.c=C at*
 exact⟨by erw[PyData.leavesShort,PyData.leavesShortAll,a.a,b.a,c.a,d.a,P0],by erw[PyData.showable,PyData.showableAll,a.b,b.b,c.b,d.b,P0],by erw[PyData.bulk,PyData.bulkAll];lia,by lia⟩
theorem z6E(a b:List D):plainL (a++b)=(plainL a&&plainL b):=by
 induction a with
 |nil=>rfl
 |cons d a ih=>erw[l7,plainL,ih,Bool.and_assoc]
noncomputable def shW(ws:List Wo):Str:=(er (.lst 0 (U3 (wsD ws)++[.int 7]))).shown
theorem zb2{l:Nat}{ws:List Wo}(h:Bks ws){s:Stt}:z9P [.lst l (U3 (wsD ws)++[.int 7])] s= .ok (.str (shW ws)) s:=by
 obtain⟨g1,_,_,ll⟩:=z8u (l:=l) h
 have q:=smL (k:=41) (es:=erL (U3 (wsD ws)++[.int 7])) (z2A fun d hd=>by
  rcases c8.mp hd with hd|hd
  ·obtain⟨w,hw,rfl⟩:=z0D h (z5d hd)
   have z:=zjI hw
   exact⟨z.a,z.b,by have:=z.c;lia,z.d⟩
  ·rw[m5.mp hd,er]
   have z:=z33 (i:=7) (by decide)
   exact⟨z.a,z.b,by have:=z.c;lia,z.d⟩)
 have b:=PyData.shown_le_bulk 64 (by decide) (er (.lst l (U3 (wsD ws)++[.int 7]))) (by erw[er,PyData.leavesShort];exact q.a)
 have p1:plainL (U3 (wsD ws))=true:=g1.1
 have hc:(plainL (U3 (wsD ws)++[.int 7])&&(er (.lst l (U3 (wsD ws)++[.int 7]))).showable&&decide ((er (.lst l (U3 (wsD ws)++[.int 7]))).depth<=60)&&decide ((er (.lst l (U3 (wsD ws)++[.int 7]))).shown.length<=sizeLine))=true:=by
  erw[i3,decide_eq_true_eq]
  refine⟨⟨⟨by rw[z6E,p1];rfl,by erw[er,PyData.showable];exact q.b⟩,by erw[er,PyData.depth];have:=q.d;lia⟩, ?_⟩
  rw[zl]
  have e:(er (.lst l (U3 (wsD ws)++[.int 7]))).bulk=PyData.bulkAll (erL (U3 (wsD ws)++[.int 7])):=by erw[er,PyData.bulk]
  have c:=q.c
  rw[zcO,l5] at c
  rw[e] at b
  erw[i5,r8] at c
  lia
 erw[z9P,if_pos hc]
 rfl
theorem ziy{a:Str}{s:Stt}:neS (.str a) (.str a) s= .ok (.bool false) s:=by
 unfold neS rt
 simp
theorem zb3{N0 k:Nat}{r:List (Option D)}(h: ∀o∈r,UpO N0 o)(hk:N0<=k)(d:D):rpO (pl k d) r=r:=z3E fun t ht=>J9 fun z=>by
 have:=h _ ht t rfl _ z;lia
theorem z8C{N0 l m:Nat}{ws:List Wo}{q:List D}{r:List (Option D)}(h: ∀o∈r,UpO N0 o)(hl:N0<=l)(hm:N0<=m)(hq:labsL q=[]):rpO (fun k=>findL k (Bk l m ws::q)) r=r:=z3E fun t ht=>z5f hq (fun z=>by have:=h _ ht t rfl _ z;lia) (fun z=>by have:=h _ ht t rfl _ z;lia)
theorem zcP{l:Nat}{d:D}{s:Stt}(h:l∉y4 d):z6s "costs" W7 (.obj l "Book" [] []) d s= .nx (s.put l (.obj l "Book" ["costs"] [d])):=zfH ⟨by decide,by decide,h⟩
theorem zg5{l:Nat}{c:Str}{ks:List Str}{vs:List D}{d:D}:rp (pl l d) (.obj l c ks vs)=d:=by erw[rp,pl,if_true]
theorem zcQ{l:Nat}:Y5 [.obj l "Book" [] []] (l+1)= .ok .non [Bk l (l+1) []] (l+2):=by
 unfold Y5 J7
 left
 have e: ∀s:Stt,z4S s= .ok (.dct s.n [] []) s.nxt:=fun _=>rfl
 rw[e]
 left
 rw[zcP (by simp[y4,labsL])]
 left
 erw[zg5]
 rfl
theorem zcR{σ tm:List (Option D)}{n:Nat}(h1:rpO (fun j=>findL j [Bk n (n+1) []]) σ=σ)(h2:rpO (fun j=>findL j [Bk n (n+1) []]) tm=tm):mkK "Book" Y5 [] ⟨σ,tm,n⟩= .ok (Bk n (n+1) []) ⟨σ,tm,n+2⟩:=by
 have e:z0r (Y5 [.obj n "Book" [] []] (n+1)) [.obj n "Book" [] []] ⟨σ,some (.obj n "Book" [] [])::tm,n+1⟩= .ok .non ⟨σ,some (Bk n (n+1) [])::tm,n+2⟩:=by
  rw[zcQ,z2z]
  ·rw[h1,z5S,h2,rp,show findL n [Bk n (n+1) []]=some (Bk n (n+1) []) by rw[findL,Y7,if_pos rfl]]
  ·intro j hj
   erw[labsL,y4,c9,m5] at hj
   subst hj
   rw[findL,Y7,if_pos rfl];rfl
  ·intro q
   injection q with q _
   injection q with _ _ q _
   cases q
 unfold mkK bd
 dsimp only[Stt.nxt,Stt.psh]
 rw[e]
 rfl
theorem zcS(bs:List Int):labsL (iL bs)=[]:=by
 induction bs with
 |nil=>rfl
 |cons b bs ih=>erw[iL,b9,labsL,y4,m8] at ih⊢;exact ih
theorem z8D{w:Wo}:y4 w.d=[]:=by erw[Wo.d,y4,labsL,c9,zcS]
theorem zjJ{k:Nat}{w:Wo}:UpO k (some w.d):=UpO.of fun j hj=>by rw[z8D] at hj;cases hj
noncomputable def zgn:MS:=(W3 (G5 (.nm 7) (mCB [(mCB [(Z0 (y3 6) (mC (.int 40)) z2E),(Y1 Z5 [(y3 2),(mC (.int 40))])] z0L),(mCB [(y3 6)] z0L),(Z0 (y3 6) (mC (.int 8)) z2E),(Y1 Z5 [(y3 2),(mC (.int 10000))])] z0L))
 (W3 (sIf (G6 (Z0 (z4V "Book" "put" Q8 (y3 4) [(y3 7)]) (mC .non) zau)) (u0 (mC (.bool false))) sNx)
 (z5y (Z0 (y3 7) (mC (.int 3)) ixD) (y3 5) (mSl (y3 7) none (some (mC (.int 3)))) z1J)))
noncomputable def Fst(ws:List Wo)(i:Nat):Prop:=ws.length=i/\∀w∈ws,∃j:Nat,j<i/\w.g=[(j:Int)]
theorem zg6(R:D)(hR: ∀f,rp f R=R)(at' many:Int)(lb l m mm N0 n:Nat)(c x:Int)(hb:Bg c x)(ws:List Wo)(i:Nat)(hi:i<60)(hf:Fst ws i)(h:Bks ws)(o7:Option D)(u7:UpO N0 o7)(r:List (Option D))(hr: ∀o∈r,UpO N0 o)
 (h0:N0<=lb) (h1:lb<l) (h2:l<m) (h3:m<mm) (h4:mm<n):
 ∃(w:Wo) (c' x':Int) (n':Nat),Fst (ws++[w]) (i+1)/\Bks (ws++[w])/\Bg c' x'/\n<=n'/\
  zgn ⟨some R::some (.int at')::some (.lst lb [.int c, .int x])::some (.int many)::some (Bk l m ws)::some (Dw mm ws)::some (.int i)::o7::r,[some R],n⟩= .nx ⟨some R::some (.int at')::some (.lst lb [.int c', .int x'])::some (.int many)::some (Bk l m (ws++[w]))::some (Dw mm (ws++[w]))::some (.int i)::some w.d::r,[some R],n'⟩:=by
 obtain⟨a,c1,x1,a0,a1,b1,e1⟩:=V1 lb c x 40 n hb (by decide) (by decide)
 obtain⟨b,c2,x2,d0,d1,b2,e2⟩:=V1 lb c1 x1 10000 n b1 (by decide) (by decide)
 have hw:(⟨[(i:Int) %40,a],[(i:Int)],(i:Int) %8,b⟩:Wo).ok:=⟨by simp,by simp,by
  intro j hj
  erw[e7,n9,or_false] at hj
  lia,by simp,by simp,by
  intro j hj
  erw[e7,n9,or_false] at hj
  lia,by show 0<=(i:Int) %8/\(i:Int) %8<=7;lia,by show 0<=b/\b<=9999;lia⟩
 generalize ew:(⟨[(i:Int) %40,a],[(i:Int)],(i:Int) %8,b⟩:Wo)=w at hw
 have hh:has ws w.key=false:=by
  apply A7.mpr
  intro z
  obtain⟨v,hv,ev⟩:=N9.mp z
  obtain⟨j,hj,gj⟩:=hf.2 v hv
  have ev:=of_decide_eq_true ev
  rw[<-ew] at ev
  erw[Wo.key,nk3,gj,b9,l3,List.cons.injEq,Sum.inr.injEq,Sum.inl.injEq] at ev
  lia
 have hl:=hf.1
 have hp:z32 ws w=none:=by unfold z32;rw[if_neg (by rw[hh];decide),if_neg (by lia)]
 obtain⟨n1,g1,e3⟩:=zcH l m (by lia) ws w hw hp n
 have hq:labsL [w.d]=[]:=by erw[labsL,z5c _ (z8t hw).1,c9]
 have s7:=fun d=>u7.fixk h0 d
 have sr:=fun(d:D)=>zb3 hr h0 d
 have sB: ∀d,rp (pl lb d) (Bk l m ws)=Bk l m ws:=fun d=>z5h (by lia) (by lia)
 have sD: ∀d,rp (pl lb d) (Dw mm ws)=Dw mm ws:=fun d=>z8y (by lia)
 have tr: ∀ws',rpO (fun k=>findL k [Bk l m ws',w.d]) r=r:=fun ws'=>z8C hr (by lia) (by lia) hq
 have tb: ∀ws' (u v:Int),rp (fun k=>findL k [Bk l m ws',w.d]) (.lst lb [.int u, .int v])= .lst lb [.int u, .int v]:=fun ws' u v=>z5f hq (by simp[y4,labsL];lia) (by simp[y4,labsL];lia)
 have tD: ∀ws',rp (fun k=>findL k [Bk l m ws',w.d]) (Dw mm ws)=Dw mm ws:=fun ws'=>z5f hq (by rw[z1B];simp;lia) (by rw[z1B];simp;lia)
 have pB: ∀d,rp (pl mm d) (Bk l m (ws++[w]))=Bk l m (ws++[w]):=fun d=>z5h (by lia) (by lia)
 have pb: ∀d (u v:Int),rp (pl mm d) (.lst lb [.int u, .int v])= .lst lb [.int u, .int v]:=fun d u v=>J9 (by simp[y4,labsL];lia)
 have pD: ∀d,rp (pl mm d) (Dw mm ws)=d:=fun d=>by erw[rp,pl,if_true]
 have pr:=fun(d:D)=>zb3 hr (show N0<=mm by lia) d
 refine⟨w,c2,x2,n1,⟨by simp;lia, ?_⟩,h.snoc hw hh (by lia),b2,g1, ?_⟩
 ·intro v hv
  rcases c8.mp hv with hv|hv
  ·obtain⟨j,hj,gj⟩:=hf.2 v hv
   exact⟨j,by lia,gj⟩
  ·rw[m5.mp hv,<-ew]
   exact⟨i,by lia,rfl⟩
 have ewd:D.tup [.tup [.int ((i:Int) %40), .int a], .tup [.int (i:Int)], .int ((i:Int) %8), .int b]=w.d:=by rw[<-ew];rfl
 unfold zgn
 left
 rw[z2u (by decide)]
 left
 rw[e1,u1 rfl rfl rfl (fun q=>by left;erw[hR,s7,sr,sB,sD];rfl) (fun q=>by left;erw[hR];rfl)]
 left
 rw[z2u (by decide)]
 left
 rw[e2,u1 rfl rfl rfl (fun q=>by left;erw[hR,s7,sr,sB,sD];rfl) (fun q=>by left;erw[hR];rfl)]
 left
 rw[ewd]
 rw[ziq]
 left
 rw[e3,z2z (z8w hq) (fun e=>by
  injection e with e _
  erw[K3,z2v,p4,C8,z6D hq,hR,z2w,tb,tD,tr,z6C,e,and_self])]
 left
 erw[hR,z6D hq,z2w,tb,tD,tr,z6C]
 rw[show(!isNon D.non)=false from rfl]
 left
 rw[x3W]
 left
 rw[slW]
 left
 rw[z3D hh (by lia)]
 left
 erw[hR,pB,pb,pr,pD,z6C]
noncomputable def Av(lb l m mm n:Nat)(o:Option D):Prop:= ∀d,o=some d->∀j∈y4 d,j<n/\j≠lb/\j≠l/\j≠m/\j≠mm
section
variable{lb l m mm n N0:Nat}{o:Option D}
theorem Av.of(h:UpO N0 o)(h0:N0<=lb)(h1:N0<=l)(h2:N0<=m)(h3:N0<=mm)(h4:N0<=n):Av lb l m mm n o:=fun d e j hj=>by have:=h d e j hj;lia
theorem Av.none(h: ∀d,o=some d->y4 d=[]):Av lb l m mm n o:=fun d e j hj=>by rw[h d e] at hj;cases hj
theorem Av.mono{n':Nat}(h:Av lb l m mm n o)(hn:n<=n'):Av lb l m mm n' o:=fun d e j hj=>by have:=h d e j hj;lia
theorem Av.fix(h:Av lb l m mm n o){k:Nat}(hk:k=lb\/k=mm\/n<=k)(d:D):o.map (rp (pl k d))=o:=by
 cases o with
 |none=>rfl
 |some t=>rw[p4,J9 fun z=>by have:=h t rfl _ z;lia]
theorem Av.fixB(h:Av lb l m mm n o){ws:List Wo}{q:List D}(hq:labsL q=[]):o.map (rp (fun k=>findL k (Bk l m ws::q)))=o:=by
 cases o with
 |none=>rfl
 |some t=>rw[p4,z5f hq (fun z=>by have:=h t rfl _ z;lia) (fun z=>by have:=h t rfl _ z;lia)]
theorem Av.up(h:Av lb l m mm n o):UpO n o:=fun d e j hj=>(h d e j hj).1
end
theorem zgo(x:Option Str):x=none/\kdI x= .non\/x.isNone=false/\∃i:Int,kdI x= .int i:=by
 cases x with
 |none=>exact .inl ⟨rfl,rfl⟩
 |some c=>
  refine .inr ⟨rfl, ?_⟩
  by_cases h:c= "Twice"
  ·exact⟨1,by erw[kdI,if_pos h]⟩
  ·exact⟨2,by erw[kdI,if_neg h]⟩
theorem zcT(x:Option Str):y4 (kdI x)=[]:=by
 rcases zgo x with⟨_,e⟩|⟨_,i,e⟩<;>rw[e]<;>rfl
theorem ziz(x:Option Str){s:Stt}:neD (kdI x) (kdI x) s= .ok (.bool false) s:=by
 rcases zgo x with⟨_,e⟩|⟨_,i,e⟩<;>rw[e]<;>exact z3C ⟨rfl,rfl⟩ ⟨rfl,rfl⟩ rfl (by simp[er,PyData.depth])
theorem zac(f:Nat->Option D)(x:Option Str):rp f (kdI x)=kdI x:=by
 rcases zgo x with⟨_,e⟩|⟨_,i,e⟩<;>rw[e]<;>rfl
theorem zg7(x:Option Str):isNon (kdI x)=x.isNone:=by
 rcases zgo x with⟨h,e⟩|⟨h,i,e⟩
 ·rw[e,h];rfl
 ·rw[e,h];rfl
theorem zg8{ws:List Wo}{w:Wo}(h:Bks ws)(hw:w.ok):Bks (wsN ws w):=by
 unfold wsN
 split
 ·rename_i hp
  unfold z32 at hp
  have hh: ¬has ws w.key=true:=fun z=>by rw[if_pos z] at hp;cases hp
  rw[if_neg hh] at hp
  have hl: ¬60<=ws.length:=fun z=>by rw[if_pos z] at hp;cases hp
  exact h.snoc hw (A7.mpr hh) (by lia)
 ·exact h
theorem zcU{p:Str}{q:List D}(k:Nat):findL k (.str p::q)=findL k q:=by erw[findL,Y7]
noncomputable def thM:MS:=(sIf (G6 (Z0 (y3 9) (mC .non) isN)) (z5y (Z0 (y3 7) (mC (.int 3)) ixD) (y3 5) (mSl (y3 7) none (some (mC (.int 3)))) z1J) sNx)
theorem ziA{R:D}(hR: ∀f,rp f R=R){a1 a3 a8:Int}{lb l m mm n:Nat}{c x:Int}{ws ws':List Wo}{w:Wo}{o6 o10:Option D}{t:Str}(f6:Av lb l m mm n o6)(v10: ∀d,o10.map (rp (pl mm d))=o10)(h1:lb<l)(h2:l<m)(h3:m<mm):
 thM ⟨[some R,some (.int a1),some (.lst lb [.int c, .int x]),some (.int a3),some (Bk l m ws'),some (Dw mm ws),o6,some w.d,some (.int a8),some (kdI (z32 ws w)),o10,some (.str t)],[some R],n⟩= .nx ⟨[some R,some (.int a1),some (.lst lb [.int c, .int x]),some (.int a3),some (Bk l m ws'),some (Dw mm (wsN ws w)),o6,some w.d,some (.int a8),some (kdI (z32 ws w)),o10,some (.str t)],[some R],n⟩:=by
 have pB: ∀d,rp (pl mm d) (Bk l m ws')=Bk l m ws':=fun d=>z5h (by lia) (by lia)
 have pb: ∀d (u v:Int),rp (pl mm d) (.lst lb [.int u, .int v])= .lst lb [.int u, .int v]:=fun d u v=>J9 (by simp[y4,labsL];lia)
 have pD: ∀d,rp (pl mm d) (Dw mm ws)=d:=fun d=>by erw[rp,pl,if_true]
 have p6:=fun d=>f6.fix (k:=mm) (.inr (.inl rfl)) d
 have ps: ∀d,rp (pl mm d) (.str t)= .str t:=fun _=>rfl
 unfold thM
 left
 rw[zg7]
 cases hp:z32 ws w with
 |none=>
  have hh: ¬has ws w.key=true:=fun z=>by unfold z32 at hp;rw[if_pos z] at hp;cases hp
  have hl: ¬60<=ws.length:=fun z=>by unfold z32 at hp;rw[if_neg hh,if_pos z] at hp;cases hp
  rw[show(none:Option Str).isNone=true from rfl]
  left
  rw[x3W]
  left
  rw[slW]
  left
  rw[z3D (A7.mpr hh) (by lia)]
  left
  erw[hR,pB,pb,pD,p6,v10,ps,z6C,zac,wsN,hp,if_true]
 |some e=>
  rw[show(some e).isNone=false from rfl]
  left
  erw[wsN,hp,reduceCtorEq,if_false]
noncomputable def zgp:MS:=(W3 (G5 (.nm 7) (Y1 z0X [(y3 2)]))
 (W3 (G5 (.nm 9) (Y1 z2s [(y3 5),(y3 7)]))
 (W3 (G5 (.nm 10) (z4V "Book" "words" W6 (y3 4) []))
 (W3 (z2H (z07 (y3 10) [(mC (.int 7))] z9s))
 (W3 (G5 (.nm 11) (mCB [(y3 10)] z9P))
 (W3 (sIf (G6 (Z0 (Y1 z0k [(mC (.str ("put" :Str))),(y3 4),(y3 7)]) (y3 9) neD)) (u0 (mC (.bool false))) sNx)
 (W3 thM
 (sIf (mOr (z1d (j3 (Y1 X0 [(y3 4),(y3 5),(y3 7)]))) (G6 (Z0 (mCB [(y3 10)] z9P) (y3 11) neS))) (u0 (mC (.bool false))) sNx))))))))
theorem zg9(R:D)(hR: ∀f,rp f R=R)(a1 a3 a8:Int)(lb l m mm n:Nat)(c x:Int)(hb:Bg c x)(ws:List Wo)(h:Bks ws)(o6 o7 o9 o10 o11:Option D)(v6:Av lb l m mm n o6)(v7:Av lb l m mm n o7)(v9:Av lb l m mm n o9)(v10:Av lb l m mm n o10)(v11:Av lb l m mm n o11)
 (h1:lb<l) (h2:l<m) (h3:m<mm) (h4:mm<n):
 ∃(w:Wo) (c' x':Int) (n':Nat) (p7 p9 p10 p11:Option D),Bks (wsN ws w)/\Bg c' x'/\n<=n'/\Av lb l m mm n' p7/\Av lb l m mm n' p9/\Av lb l m mm n' p10/\Av lb l m mm n' p11/\
  zgp ⟨[some R,some (.int a1),some (.lst lb [.int c, .int x]),some (.int a3),some (Bk l m ws),some (Dw mm ws),o6,o7,some (.int a8),o9,o10,o11],[some R],n⟩= .nx ⟨[some R,some (.int a1),some (.lst lb [.int c', .int x']),some (.int a3),some (Bk l m (wsN ws w)),some (Dw mm (wsN ws w)),o6,p7,some (.int a8),p9,p10,p11],[some R],n'⟩:=by
 obtain⟨w,c1,x1,n1,hw,b1,g1,e1⟩:=zcN lb c x n hb (by lia)
 obtain⟨n2,g2,e2⟩:=zcK l m (by lia) ws h w hw (n1+1+1)
 have hN:=zg8 h hw
 obtain⟨n3,g3,e3⟩:=z8z l m mm n2 (wsN ws w) hN w hw (by lia) (by lia) (by lia)
 obtain⟨_,_,ls,ll⟩:=z8u (l:=n1+1) h
 have hq:labsL [w.d]=[]:=by erw[labsL,z8D,c9]
 have lh:labsL (U3 (wsD ws)++[.int 7])=[]:=by rw[show labsL (U3 (wsD ws)++[.int 7])=labsL (U3 (wsD ws))++labsL [.int 7] from z1c _ _,ls];rfl
 have s6:=fun d=>v6.fix (k:=lb) (.inl rfl) d
 have s7:=fun d=>v7.fix (k:=lb) (.inl rfl) d
 have s9:=fun d=>v9.fix (k:=lb) (.inl rfl) d
 have s10:=fun d=>v10.fix (k:=lb) (.inl rfl) d
 have s11:=fun d=>v11.fix (k:=lb) (.inl rfl) d
 have sB: ∀d,rp (pl lb d) (Bk l m ws)=Bk l m ws:=fun d=>z5h (by lia) (by lia)
 have sD: ∀d,rp (pl lb d) (Dw mm ws)=Dw mm ws:=fun d=>z8y (by lia)
 have t6:=fun d=>v6.fix (k:=n1+1) (.inr (.inr (by lia))) d
 have t11:=fun d=>v11.fix (k:=n1+1) (.inr (.inr (by lia))) d
 have tB: ∀d,rp (pl (n1+1) d) (Bk l m ws)=Bk l m ws:=fun d=>z5h (by lia) (by lia)
 have tD: ∀d,rp (pl (n1+1) d) (Dw mm ws)=Dw mm ws:=fun d=>z8y (by lia)
 have tb: ∀d (u v:Int),rp (pl (n1+1) d) (.lst lb [.int u, .int v])= .lst lb [.int u, .int v]:=fun d u v=>J9 (by simp[y4,labsL];lia)
 have q6: ∀ws',o6.map (rp (fun k=>findL k [Bk l m ws',w.d]))=o6:=fun ws'=>v6.fixB hq
 have qb: ∀ws' (u v:Int),rp (fun k=>findL k [Bk l m ws',w.d]) (.lst lb [.int u, .int v])= .lst lb [.int u, .int v]:=fun ws' u v=>z5f hq (by simp[y4,labsL];lia) (by simp[y4,labsL];lia)
 have qD: ∀ws',rp (fun k=>findL k [Bk l m ws',w.d]) (Dw mm ws)=Dw mm ws:=fun ws'=>z5f hq (by rw[z1B];simp;lia) (by rw[z1B];simp;lia)
 have qh: ∀ws',rp (fun k=>findL k [Bk l m ws',w.d]) (.lst (n1+1) (U3 (wsD ws)++[.int 7]))= .lst (n1+1) (U3 (wsD ws)++[.int 7]):=fun ws'=>z5f hq (by erw[y4,lh];simp;lia) (by erw[y4,lh];simp;lia)
 have qs: ∀f (t:Str),rp f (.str t)= .str t:=fun _ _=>rfl
 have h10: ∀d,(some (D.lst (n1+1) (U3 (wsD ws)++[.int 7]))).map (rp (pl mm d))=some (.lst (n1+1) (U3 (wsD ws)++[.int 7])):=fun d=>by rw[p4,J9 (by erw[y4,lh];simp;lia)]
 refine⟨w,c1,x1,n3,some w.d,some (kdI (z32 ws w)),some (.lst (n1+1) (U3 (wsD ws)++[.int 7])),some (.str (shW ws)),hN,b1,by lia, .none fun d e=>by cases e;exact z8D, .none fun d e=>by cases e;exact zcT _,fun d e j hj=>by
  cases e
  erw[y4,lh,m5] at hj
  lia, .none fun d e=>by cases e;rfl, ?_⟩
 unfold zgp
 left
 rw[e1,u1 rfl rfl rfl (fun q=>by left;erw[hR,s6,s7,s9,s10,s11,sB,sD];rfl) (fun q=>by left;erw[hR];rfl)]
 left
 rw[zfX]
 left
 rw[zg2]
 left
 rw[z5U l m ws h]
 left
 rw[zfw ⟨by rw[zl];lia,by simp[y4]⟩]
 left
 erw[hR,tb,tB,tD,t6,t11,z6C,zac]
 try (left)
 rw[zb2 h]
 left
 rw[e2,z2z (fun k hk=>by rw[zcU];exact z8w (ws:=ws) hq k hk) (fun e=>by
  injection e with _ e
  injection e with e _
  erw[zcU,K3,z2v,p4,C8,z6D hq,hR,z2w,q6,qb,qD,qh,qs,z6C,zac,e,and_self])]
 left
 erw[zcU,hR,z6D hq,z2w,q6,qb,qD,qh,qs,z6C,zac]
 try (left)
 rw[ziz]
 left
 rw[ziA hR (v6.mono (by lia)) h10 h1 h2 h3]
 left
 rw[e3]
 left
 rw[zb2 h]
 left
 rw[ziy]
 left
theorem ziB(ns:List Int): ∀f,rp f (.ro (ns.map .int))= .ro (ns.map .int):=fun f=>z7q _ fun k hk=>by
 erw[y4] at hk;obtain⟨e,he,hk⟩:=labsL_mem hk;obtain⟨j,_,rfl⟩:=m7.mp he;simp[y4] at hk
theorem iu(k:Nat)(u:Int):UpO k (some (.int u)):=UpO.of fun j hj=>by erw[y4] at hj;cases hj
theorem zga{σ tm:List (Option D)}{n:Nat}:z4S ⟨σ,tm,n⟩= .ok (Dw n []) ⟨σ,tm,n+1⟩:=rfl
theorem zb4{N0 n:Nat}{r:List (Option D)}(h: ∀o∈r,UpO N0 o)(hn:N0<=n):rpO (fun j=>findL j [Bk n (n+1) []]) r=r:=z8C (q:=[]) h hn (by lia) rfl
noncomputable def zad:MS:=(W3 (G5 (.nm 2) (Y1 z2p [(y3 0),(y3 1)]))
 (W3 (G5 (.nm 3) (Z0 (mCB [(mC (.int 0)),(mC (.int 0)),(mC (.int 0)),(Z0 (mC (.int 55)) (Y1 Z5 [(y3 2),(mC (.int 6))]) z02)] lstM) (Y1 Z5 [(y3 2),(mC (.int 4))]) ixD))
 (W3 (G5 (.nm 4) (z4W "Book" Y5 []))
 (W3 (G5 (.nm 5) z4S)
 (W3 (z4v (z04 [(y3 3)]) (.nm 6) zgn)
 (z4v (z04 [(Z0 (mC (.int 4)) (Y1 Z5 [(y3 2),(mC (.int 9))]) z02)]) (.nm 8) zgp))))))
theorem zcV(ns:List Int)(hl:ns.length<1000)(i:Nat)(hi:i<4)(n:Nat)(r:List (Option D))(hr: ∀o∈r,UpO n o)(lr:r.length=10):
 ∃(n':Nat) (r':List (Option D)),zad ⟨some (.ro (ns.map .int))::some (.int i)::r,[some (.ro (ns.map .int))],n⟩= .nx ⟨some (.ro (ns.map .int))::some (.int i)::r',[some (.ro (ns.map .int))],n'⟩/\(∀o∈r',UpO n' o)/\r'.length=10:=by
 match r,lr with
 |[o2,o3,o4,o5,o6,o7,o8,o9,o10,o11],_=>
 have sR:=ziB ns
 generalize hR:D.ro (ns.map .int)=R at sR⊢
 obtain⟨c,x,b0,e0⟩:=zfO ns i n (by lia) hl
 rw[hR] at e0
 erw[l8] at hr
 obtain⟨u2,u3,u4,u5,u6,u7,u8,u9,u10,u11,_⟩:=hr
 have s3:=fun d=>u3.fixk (e8 n) d
 have s4:=fun d=>u4.fixk (e8 n) d
 have s5:=fun d=>u5.fixk (e8 n) d
 have s6:=fun d=>u6.fixk (e8 n) d
 have s7:=fun d=>u7.fixk (e8 n) d
 have s8:=fun d=>u8.fixk (e8 n) d
 have s9:=fun d=>u9.fixk (e8 n) d
 have s10:=fun d=>u10.fixk (e8 n) d
 have s11:=fun d=>u11.fixk (e8 n) d
 obtain⟨k,c1,x1,k0,k1,b1,e1⟩:=V1 n c x 6 (n+1) b0 (by decide) (by decide)
 obtain⟨j,c2,x2,j0,j1,b2,e2⟩:=V1 n c1 x1 4 (n+1+1) b1 (by decide) (by decide)
 have hv: ∃v:Int,0<=v/\v<=60/\atI [D.int 0,D.int 0,D.int 0,D.int (55+k)] j=some (.int v):=by
  have:j=0\/j=1\/j=2\/j=3:=by lia
  rcases this with rfl|rfl|rfl|rfl
  ·exact⟨_,by decide,by decide,at0⟩
  ·exact⟨_,by decide,by decide,at1⟩
  ·exact⟨_,by decide,by decide,at2⟩
  ·exact⟨_,by lia,by lia,at3⟩
 obtain⟨v,v0,v1,ev⟩:=hv
 have sl: ∀d (e:Int),rp (pl n d) (.lst (n+1) [.int 0, .int 0, .int 0, .int e])= .lst (n+1) [.int 0, .int 0, .int 0, .int e]:=fun d e=>J9 (by simp[y4,labsL])
 unfold zad
 left
 rw[e0]
 left
 rw[e1,u1 rfl rfl rfl (fun q=>by left;erw[sR,s3,s4,s5,s6,s7,s8,s9,s10,s11];rfl) (fun q=>by left;erw[sR];rfl)]
 left
 rw[e2,u1 rfl rfl rfl (fun q=>by left;erw[sR,s3,s4,s5,s6,s7,s8,s9,s10,s11];rfl) (fun q=>by left;erw[sR,sl];rfl)]
 left
 rw[ev]
 left
 have uR:UpO (n+1) (some R):=UpO.of fun j hj=>by rw[<-hR] at hj;erw[y4] at hj;obtain⟨e,he,hk⟩:=labsL_mem hj;obtain⟨j,_,rfl⟩:=m7.mp he;simp[y4] at hk
 have mn:n<=n+1:=by lia
 have bu: ∀(k:Nat) (u w:Int),n<k->UpO k (some (.lst n [.int u, .int w])):=fun k u w h=>UpO.of fun j hj=>by erw[y4,labsL,c9,e7,n9,or_false] at hj;lia
 rw[zcR (zb4 (N0:=n+1) (by
  erw[l8]
  exact⟨uR,iu _ _,bu _ _ _ (by lia),iu _ _,u4.mono mn,u5.mono mn,u6.mono mn,u7.mono mn,u8.mono mn,u9.mono mn,u10.mono mn,u11.mono mn,fun _ h=>nomatch h⟩) (by lia)) (zb4 (N0:=n+1) (by
  erw[l8]
  exact⟨uR,fun _ h=>nomatch h⟩) (by lia))]
 left
 rw[zga]
 left
 generalize hL:n+1+1=L
 generalize hM:L+1=M
 generalize hMM:L+2=MM
 rw[z30 ⟨by lia,by lia⟩]
 left
 obtain⟨s',e3,c3,x3,ws,p6,p7,n3,rfl,b3,f3,k3,q6,q7,g3⟩:=z2x (P:=fun i' s=> ∃(c x:Int) (ws:List Wo) (p6 p7:Option D) (n3:Nat),s=⟨[some R,some (.int i),some (.lst n [.int c, .int x]),some (.int v),some (Bk L M ws),some (Dw MM ws),p6,p7,o8,o9,o10,o11],[some R],n3⟩/\Bg c x/\Fst ws i'/\Bks ws/\UpO n p6/\UpO n p7/\MM<n3) (lo:=0) (N:=v.toNat) (g:= .nm 6) (b:=zgn) (by
  rintro i' hi' s ⟨c,x,ws,p6,p7,n3,rfl,hb,hf,hk,q6,q7,g3⟩
  refine⟨[some R,some (.int i),some (.lst n [.int c, .int x]),some (.int v),some (Bk L M ws),some (Dw MM ws),some (.int i'),p7,o8,o9,o10,o11],by erw[E8];rfl, ?_⟩
  obtain⟨w,c',x',n',hf',hk',hb',hn',e⟩:=zg6 R sR i v n L M MM n n3 c x hb ws i' (by lia) hf hk p7 q7 [o8,o9,o10,o11] (by
   erw[l8]
   exact⟨u8,u9,u10,u11,fun _ h=>nomatch h⟩) (e8 _) (by lia) (by lia) (by lia) g3
  exact⟨_,e,c',x',ws++[w],_,_,n',rfl,hb',hf',hk',iu _ _,zjJ,by lia⟩) v.toNat 0 ⟨[some R,some (.int i),some (.lst n [.int c2, .int x2]),some (.int v),some (Bk L M []),some (Dw MM []),o6,o7,o8,o9,o10,o11],[some R],MM+1⟩ (by lia) ⟨c2,x2,[],o6,o7,MM+1,rfl,b2,⟨rfl,fun _ h=>nomatch h⟩,Bks.nil,u6,u7,by lia⟩
 rw[e3]
 left
 obtain⟨t,c4,x4,t0,t1,b4,e4⟩:=V1 n c3 x3 9 n3 b3 (by decide) (by decide)
 have sB: ∀d,rp (pl n d) (Bk L M ws)=Bk L M ws:=fun d=>z5h (by lia) (by lia)
 have sD: ∀d,rp (pl n d) (Dw MM ws)=Dw MM ws:=fun d=>z8y (by lia)
 have w6:=fun d=>q6.fixk (e8 n) d
 have w7:=fun d=>q7.fixk (e8 n) d
 rw[e4,u1 rfl rfl rfl (fun q=>by left;erw[sR,sB,sD,w6,w7,s8,s9,s10,s11];rfl) (fun q=>by left;erw[sR];rfl)]
 left
 rw[z30 ⟨by lia,by lia⟩]
 left
 have av: ∀{o:Option D},UpO n o->Av n L M MM n3 o:=fun h=>Av.of h (by lia) (by lia) (by lia) (by lia) (by lia)
 obtain⟨s',e5,c5,x5,ws5,p6,p7,p8,p9,p10,p11,n5,rfl,b5,k5,q6,q7,q8,q9,q10,q11,g5⟩:=z2x (P:=fun _ s=> ∃(c x:Int) (ws:List Wo) (p6 p7 p8 p9 p10 p11:Option D) (n3:Nat),s=⟨[some R,some (.int i),some (.lst n [.int c, .int x]),some (.int v),some (Bk L M ws),some (Dw MM ws),p6,p7,p8,p9,p10,p11],[some R],n3⟩/\Bg c x/\Bks ws/\Av n L M MM n3 p6/\Av n L M MM n3 p7/\Av n L M MM n3 p8/\Av n L M MM n3 p9/\Av n L M MM n3 p10/\Av n L M MM n3 p11/\MM<n3) (lo:=0) (N:=(4+t).toNat) (g:= .nm 8) (b:=zgp) (by
  rintro i' hi' s ⟨c,x,ws,p6,p7,p8,p9,p10,p11,n3,rfl,hb,hk,q6,q7,q8,q9,q10,q11,g3⟩
  refine⟨[some R,some (.int i),some (.lst n [.int c, .int x]),some (.int v),some (Bk L M ws),some (Dw MM ws),p6,p7,some (.int i'),p9,p10,p11],by erw[E8];rfl, ?_⟩
  obtain⟨w,c',x',n',z7,z9,z10,z11,hk',hb',hn',y7,y9,y10,y11,e⟩:=zg9 R sR i v i' n L M MM n3 c x hb ws hk p6 p7 p9 p10 p11 q6 q7 q9 q10 q11 (by lia) (by lia) (by lia) g3
  exact⟨_,e,c',x',wsN ws w,_,_,_,_,_,_,n',rfl,hb',hk',q6.mono hn',y7,Av.none (fun d e=>by cases e;rfl),y9,y10,y11,by lia⟩) (4+t).toNat 0 ⟨[some R,some (.int i),some (.lst n [.int c4, .int x4]),some (.int v),some (Bk L M ws),some (Dw MM ws),p6,p7,o8,o9,o10,o11],[some R],n3⟩ (by lia) ⟨c4,x4,ws,p6,p7,o8,o9,o10,o11,n3,rfl,b4,k3,av q6,av q7,av u8,av u9,av u10,av u11,by lia⟩
 rw[e5]
 refine⟨n5,[some (.lst n [.int c5, .int x5]),some (.int v),some (Bk L M ws5),some (Dw MM ws5),p6,p7,p8,p9,p10,p11],rfl, ?_,rfl⟩
 erw[l8]
 exact⟨bu _ _ _ (by lia),iu _ _,UpO.of fun j hj=>by rw[z5e] at hj;erw[e7,n9,or_false] at hj;lia,UpO.of fun j hj=>by rw[z1B] at hj;erw[e7,n9,or_false] at hj;lia,q6.up,q7.up,q8.up,q9.up,q10.up,q11.up,fun _ h=>nomatch h⟩
theorem zgb(ns:List Int)(hl:ns.length<1000)(n:Nat): ∃n',f_law [.ro (ns.map .int)] n= .ok (.bool true) [.ro (ns.map .int)] n':=by
 unfold f_law
 have e0:zcl=W3 (z4v (z04 [mCB [mC (.int 1),mCB [mC (.int 2),mCB [y3 0] z6I] zbT] zd3]) (.nm 1) zad) (u0 (mC (.bool true))):=rfl
 rw[e0]
 left
 have w0:((ns.map D.int).length:Int)=ns.length:=by simp
 rw[w0]
 generalize hk:(if(if(ns.length:Int)<2 then(ns.length:Int) else 2)>1 then(if(ns.length:Int)<2 then(ns.length:Int) else 2) else(1:Int))=k
 have hk0:0<=k/\k<=2:=by split at hk<;>(try split at hk)<;>lia
 rw[z30 ⟨by lia,by lia⟩]
 left
 obtain⟨s',e2,o1,r,m,rfl,ur,lr⟩:=z2x (P:=fun i s=> ∃(o1:Option D) (r:List (Option D)) (n:Nat),s=⟨some (.ro (ns.map .int))::o1::r,[some (.ro (ns.map .int))],n⟩/\(∀o∈r,UpO n o)/\r.length=10) (lo:=0) (N:=k.toNat) (g:= .nm 1) (b:=zad) (by
  rintro i hi s ⟨o1,r,n,rfl,ur,lr⟩
  refine⟨some (.ro (ns.map .int))::some (.int i)::r,by erw[E8];rfl, ?_⟩
  obtain⟨n',r',e,h1,h2⟩:=zcV ns hl i (by lia) n r ur lr
  exact⟨_,e,_,r',n',rfl,h1,h2⟩) k.toNat 0 ⟨[some (.ro (ns.map .int)),none,none,none,none,none,none,none,none,none,none,none],[some (.ro (ns.map .int))],n⟩ (by lia) ⟨none,e6 10 none,n,rfl,fun o ho=>by rw[List.eq_of_mem_replicate ho];nofun,rfl⟩
 rw[e2]
 left
 exact⟨m,rfl⟩
end My
set_option maxHeartbeats 4000000
namespace Mi
open PySem L2 PySem.Spec PyProof.Rows
noncomputable def z8E(K:W.Frag)(np:Nat)(f:FM):Sp:=fun vs H Q E=>vs.length=np/\∀G:Gx,G.K=K->KD K H->spM G np f vs H Q E
theorem zgc{P:Program}{w:World}{K:W.Frag}{mg:Str->Option Value}{base:Heap}{CX:CXT}{k:Nat}{fa:Addr}{fd:FuncData}{x:Str}{f:FM}{G:Gx}(hG:G.K=K)(F:J1 P w K mg base CX k fa fd [x] (spM G 1 f)):J1 P w K mg base CX k fa fd [x] (z8E K 1 f):=
 ⟨fun _ _ _ _ h=>h.1,fun A outer s H args us vs Q E hr e0 hb hv h=>F.run A outer s H args us vs Q E hr e0 hb hv (h.2 G hG fun a o e=>(e0.bs a o (e0.mod.kin a o e)).2)⟩
theorem RDs.ints{G:Gx}{ρ:Nat->Addr}{H:Hp}: ∀ns:List Int,RDs G ρ H (ns.map D.int) (ns.map V.int)
 |[]=>by erw[l3,RDs]
 |n::ns=>by
  erw[b9,RDs]
  exact⟨_,_,rfl,by erw[RD],RDs.ints ns⟩
theorem z4s: ∀ns:List Int,labsL (ns.map D.int)=[]
 |[]=>by erw[l3,labsL]
 |n::ns=>by erw[b9,labsL,y4,z4s ns,m8]
theorem zgd{K:W.Frag}{H:Hp}{a:Addr}{ns:List Int}{f:FM}{E:XK}(e: ∀n,∃n',f [.ro (ns.map D.int)] n= .ok (.bool true) [.ro (ns.map D.int)] n')(hO:zgj H)(hS:SqL K H a (ns.map V.int)):z8E K 1 f [.ref a] H (fun v _=>v= .bl true) E:=by
 refine⟨rfl,fun G hG kd=> ?_⟩
 subst hG
 refine⟨rfl,fun _=>a,0,[.ro (ns.map D.int)], ?_,fun i j hi=>absurd hi (O5 _),fun l hl=>absurd hl (O5 _),fun l hl=> ?_,kd, ?_⟩
 ·erw[RDs,RD]
  refine⟨_,_,rfl,⟨a,ns.map V.int,rfl, ?_,RDs.ints ns⟩,rfl⟩
  rcases hS with(h|h)|h
  ·rcases hO a with z|⟨o,xs,z⟩<;>rw[h] at z<;>cases z
  ·exact .inl h
  ·exact .inr h
 ·erw[labsL,y4,z4s,c9] at hl
  cases hl
 ·obtain⟨n',e⟩:=e 0
  rw[e]
  intro ρ' v H' _ rd _
  erw[RD] at rd
  exact rd
end Mi
namespace My
open PySem L2 Mi
structure DA(K:W.Frag)(x:Str)(st:Stmt)(f:Addr)(d:FuncData):Prop where
 a:W.nsIn K mainGlobals x=some (some (.ref f))
 F:Fun K x x st f d
theorem ziC{K:W.Frag}{x:Str}{st:Stmt}{f:Addr}{oc:Value}{od an:Option Addr}{sl:Array (Option Value)}{kV dc pm cd ct:Value}(a:W.nsIn K mainGlobals x=some (some (.ref f)))
 (l:K.lookup f=some ⟨oc,od, .func (W.fnOf x x (v3 st) (W5 st) (y0 st) .none kV dc pm an cd ct),sl⟩) (c:W.codeIn K cd x=true) (k:W.keepIn K (.ref f)=true):
 DA K x st f (W.fnOf x x (v3 st) (W5 st) (y0 st) .none kV dc pm an cd ct):=⟨a,zam l c k⟩
noncomputable def dx{K:W.Frag}{h:Heap}{mg:Str->Option Value}{x:Str}{st:Stmt}{f:Addr}{d:FuncData}{ps:List Str}(X:K.In h)(G:h.Ns mainGlobals mg)(a:DA K x st f d)
 (b: ∀(kV dc pm:Value) (an:Option Addr) (cd ct:Value) (us:List Value),us.length=ps.length->bindArgs (W.fnOf x x (v3 st) (W5 st) (y0 st) .none kV dc pm an cd ct) ⟨us,[]⟩=pure (ps.zip us)):Dx K mg x st ps:=
 ⟨f,d,a.F,a.F.binds b,W.mg_of X G a.a⟩
structure DM(K:W.Frag)(C:Addr)(x q:Str)(st:Stmt)(f:Addr)(d:FuncData):Prop where
 h:z6G K C x f
 F:Fun K x q st f d
theorem ziD{K:W.Frag}{C:Addr}{x q:Str}{st:Stmt}{f:Addr}{oc:Value}{od an:Option Addr}{sl:Array (Option Value)}{kV dc pm cd ct:Value}(a:W.findIn K (.ref C) x=some (some (.ref f)))
 (l:K.lookup f=some ⟨oc,od, .func (W.fnOf x q (v3 st) (W5 st) (y0 st) .none kV dc pm an cd ct),sl⟩) (c:W.codeIn K cd q=true) (i:W.isFn K (.ref f)=true) (k:W.keepIn K (.ref f)=true):
 DM K C x q st f (W.fnOf x q (v3 st) (W5 st) (y0 st) .none kV dc pm an cd ct):=⟨⟨a,i,k⟩,zam l c k⟩
noncomputable def dmx{K:W.Frag}{C:Addr}{x q:Str}{st:Stmt}{f:Addr}{d:FuncData}{ps:List Str}(a:DM K C x q st f d)
 (b: ∀(kV dc pm:Value) (an:Option Addr) (cd ct:Value) (us:List Value),us.length=ps.length->bindArgs (W.fnOf x q (v3 st) (W5 st) (y0 st) .none kV dc pm an cd ct) ⟨us,[]⟩=pure (ps.zip us)):Dm K C x q st ps:=
 ⟨f,d,a.F,a.F.binds b,a.h⟩
theorem zge{l:W.OpenLaw}{w:World}{K:W.Frag}{h:Heap}{mg:Str->Option Value}{fa f0 f1 f2 f3 f4 f5 f6 f7 f8 f9 f10 f11 f12 f13 f14 f15 f16 f17 f18 f19 f20:Addr}{d0 d1 d2 d3 d4 d5 d6 d7 d8 d9 d10 d11 d12 d13 d14 d15 d16 d17 d18 d19 d20:FuncData}(X:K.In h)(G:h.Ns mainGlobals mg)(hfa:mg "law" =some (.ref fa))
 {kbn:Addr} (kbj:nI K "Book" kbn) (cc_Book:Cls K kbn)
 (a0:DA K "_wall" z2k f0 d0)
 (a1:DA K "is_number" X6 f1 d1)
 (a2:DA K "is_whole" z09 f2 d2)
 (a3:DA K "is_row" z1q f3 d3)
 (a4:DA K "is_word" z0z f4 d4)
 (a5:DA K "_law_bag" z50 f5 d5)
 (a6:DA K "_law_take" z3k f6 d6)
 (a7:DA K "_law_whole" z2l f7 d7)
 (a8:DA K "_law_word" z3l f8 d8)
 (a9:DA K "_law_are_words" X7 f9 d9)
 (a10:DA K "_law_kind" z3m f10 d10)
 (a11:DA K "_law_told" z3n f11 d11)
 (a12:DA K "_law_due" z51 f12 d12)
 (a13:DA K "_law_stands" z1r f13 d13)
 (a14:DA K "law" zci f14 d14)
 (a15:DM K kbn "__init__" "Book.__init__" J4 f15 d15)
 (a16:DM K kbn "put" "Book.put" z0a f16 d16)
 (a17:DM K kbn "take" "Book.take" X8 f17 d17)
 (a18:DM K kbn "words" "Book.words" v5 f18 d18)
 (a19:DM K kbn "cost_of" "Book.cost_of" G0 f19 d19)
 (a20:DM K kbn "standing" "Book.standing" J5 f20 d20)
 (z0:W.nsIn K mainGlobals "ValueError" =some none)
 (z1:W.nsIn K mainGlobals "abs" =some none)
 (z2:W.nsIn K mainGlobals "all" =some none)
 (z3:W.nsIn K mainGlobals "bool" =some none)
 {tk4:Nat} (z4:W.nsIn K mainGlobals "LAST_SOUND" =some (some (.int 39 tk4)))
 {tk5:Nat} (z5:W.nsIn K mainGlobals "LAST_WORD_COST" =some (some (.int 9999 tk5)))
 {tk6:Nat} (z6:W.nsIn K mainGlobals "LAST_WORD_KIND" =some (some (.int 7 tk6)))
 {tk7:Nat} (z7:W.nsIn K mainGlobals "LAST_WORD_SIGN" =some (some (.int 999 tk7)))
 {tk8:Nat} (z8:W.nsIn K mainGlobals "MOST_WORDS" =some (some (.int 60 tk8)))
 {tk9:Nat} (z9:W.nsIn K mainGlobals "MOST_WORD_SIGNS" =some (some (.int 4 tk9)))
 {tk10:Nat} (z10:W.nsIn K mainGlobals "MOST_WORD_SOUNDS" =some (some (.int 6 tk10)))
 (z11:W.nsIn K mainGlobals "int" =some none)
 (z12:W.nsIn K mainGlobals "isinstance" =some none)
 (z13:W.nsIn K mainGlobals "len" =some none)
 (z14:W.nsIn K mainGlobals "list" =some none)
 (z15:W.nsIn K mainGlobals "max" =some none)
 (z16:W.nsIn K mainGlobals "min" =some none)
 (z17:W.nsIn K mainGlobals "range" =some none)
 (z18:W.nsIn K mainGlobals "repr" =some none)
 (z19:W.nsIn K mainGlobals "sorted" =some none)
 (z20:W.nsIn K mainGlobals "tuple" =some none)
 {kbe:Addr}
 (q1:nI K "Barred" kbe)
 {kam:Addr}
 (q3:nI K "BenchError" kam)
 {kbl:Addr}
 (q5:nI K "Fight" kbl)
 {kbo:Addr}
 (q7:nI K "Full" kbo)
 {ka4:Addr}
 (q9:nI K "Marked" ka4)
 {kaH:Addr}
 (q11:nI K "Missing" kaH)
 {kaz:Addr}
 (q13:nI K "NoChoice" kaz)
 {kar:Addr}
 (q15:nI K "NoCutting" kar)
 {ka9:Addr}
 (q17:nI K "NoDeed" ka9)
 {kaY:Addr}
 (q19:nI K "NoMark" kaY)
 {kaX:Addr}
 (q21:nI K "NoNode" kaX)
 {kaN:Addr}
 (q23:nI K "NoPlace" kaN)
 {kaD:Addr}
 (q25:nI K "NoSaying" kaD)
 {kan:Addr}
 (q27:nI K "NoStanding" kan)
 {kaI:Addr}
 (q29:nI K "NoTable" kaI)
 {ka5:Addr}
 (q31:nI K "NoText" ka5)
 {kbb:Addr}
 (q33:nI K "NoTurn" kbb)
 {ka6:Addr}
 (q35:nI K "NoWish" ka6)
 {ka7:Addr}
 (q37:nI K "NoWord" ka7)
 {kaU:Addr}
 (q39:nI K "Nothing" kaU)
 {kaP:Addr}
 (q41:nI K "TooLong" kaP)
 {kaS:Addr}
 (q43:nI K "TooMany" kaS)
 {kbh:Addr}
 (q45:nI K "Twice" kbh)
 {kbm:Addr}
 (q47:nI K "Waits" kbm)
 (q48:xA K kaH)
 (q49:mO K kaH "object")
 (q50:mO K kaH "BaseException")
 (q51:fA K kaH)
 (q52:fB K kaH)
 (q53:fC K kaH)
 (q54:eB K kaH kam)
 (q55:kF K kaH ka7 false)
 (q56:kF K kaH kbh false)
 (q57:kF K kaH kaS false)
 (q58:kF K kaH kaH true)
 (q59:kN K kaH [kaN,kaz,kaY,ka4,kbe,kaP,kan,ka9,kbo,kaX])
 (q60:kN K kaH [ka5,kaU,ka6,kbl,kar,kbm,kbb,kaI,kaD])
 (q61:kF K kaH kam true)
 (q62:kV K kaH)
 (q63:xA K ka7)
 (q64:mO K ka7 "object")
 (q65:mO K ka7 "BaseException")
 (q66:fA K ka7)
 (q67:fB K ka7)
 (q68:fC K ka7)
 (q69:eB K ka7 kam)
 (q70:kF K ka7 ka7 true)
 (q71:kF K ka7 kbh false)
 (q72:kF K ka7 kaS false)
 (q73:kF K ka7 kaH false)
 (q74:kN K ka7 [kaN,kaz,kaY,ka4,kbe,kaP,kan,ka9,kbo,kaX])
 (q75:kN K ka7 [ka5,kaU,ka6,kbl,kar,kbm,kbb,kaI,kaD])
 (q76:kF K ka7 kam true)
 (q77:kV K ka7)
 (q78:xA K kaS)
 (q79:mO K kaS "object")
 (q80:mO K kaS "BaseException")
 (q81:fA K kaS)
 (q82:fB K kaS)
 (q83:fC K kaS)
 (q84:eB K kaS kam)
 (q85:kF K kaS ka7 false)
 (q86:kF K kaS kbh false)
 (q87:kF K kaS kaS true)
 (q88:kF K kaS kaH false)
 (q89:kN K kaS [kaN,kaz,kaY,ka4,kbe,kaP,kan,ka9,kbo,kaX])
 (q90:kN K kaS [ka5,kaU,ka6,kbl,kar,kbm,kbb,kaI,kaD])
 (q91:kF K kaS kam true)
 (q92:kV K kaS)
 (q93:xA K kbh)
 (q94:mO K kbh "object")
 (q95:mO K kbh "BaseException")
 (q96:fA K kbh)
 (q97:fB K kbh)
 (q98:fC K kbh)
 (q99:eB K kbh kam)
 (q100:kF K kbh ka7 false)
 (q101:kF K kbh kbh true)
 (q102:kF K kbh kaS false)
 (q103:kF K kbh kaH false)
 (q104:kN K kbh [kaN,kaz,kaY,ka4,kbe,kaP,kan,ka9,kbo,kaX])
 (q105:kN K kbh [ka5,kaU,ka6,kbl,kar,kbm,kbb,kaI,kaD])
 (q106:kF K kbh kam true)
 (q107:kV K kbh)
 (q108:U7 K kbn "costs")
 (q109:Mk K kbn f15)
 (q110:[kaH,ka7,kaS,kbh,kbn].Nodup)
 : ∃fd:FuncData,(∀(s:Shared) (v:Value),BindsTo s fd ⟨[v],[]⟩ [("_law_script",v)])/\∀base:Heap,K.In base->base.Ns mainGlobals mg->J1 l.prog w K mg base CX0 7 fa fd ["_law_script"] (z8E K 1 f_law):=by
 have e:=hfa.symm.trans (W.mg_of X G a14.a)
 cases e
 obtain⟨oc,od,kV,doc,pm,an,cdv,ct,osl,rfl,lk,hcd⟩:=a14.F.ex
 exact⟨_,fun s v=> .of_eq rfl,fun base _ _=>zgc rfl (zff ⟨kbn,W.mg_of X G kbj,cc_Book,dx X G a0 fun _ _ _ _ _ _ us hl=>match us,hl with|[_],_=>rfl,dx X G a1 fun _ _ _ _ _ _ us hl=>match us,hl with|[_],_=>rfl,dx X G a2 fun _ _ _ _ _ _ us hl=>match us,hl with|[_,_,_],_=>rfl,dx X G a3 fun _ _ _ _ _ _ us hl=>match us,hl with|[_,_,_,_],_=>rfl,dx X G a4 fun _ _ _ _ _ _ us hl=>match us,hl with|[_],_=>rfl,dx X G a5 fun _ _ _ _ _ _ us hl=>match us,hl with|[_,_],_=>rfl,dx X G a6 fun _ _ _ _ _ _ us hl=>match us,hl with|[_,_],_=>rfl,dx X G a7 fun _ _ _ _ _ _ us hl=>match us,hl with|[_],_=>rfl,dx X G a8 fun _ _ _ _ _ _ us hl=>match us,hl with|[_],_=>rfl,dx X G a9 fun _ _ _ _ _ _ us hl=>match us,hl with|[_],_=>rfl,dx X G a10 fun _ _ _ _ _ _ us hl=>match us,hl with|[_],_=>rfl,dx X G a11 fun _ _ _ _ _ _ us hl=>match us,hl with|[_,_,_],_=>rfl,dx X G a12 fun _ _ _ _ _ _ us hl=>match us,hl with|[_,_],_=>rfl,dx X G a13 fun _ _ _ _ _ _ us hl=>match us,hl with|[_,_,_],_=>rfl,dx X G a14 fun _ _ _ _ _ _ us hl=>match us,hl with|[_],_=>rfl,dmx a15 fun _ _ _ _ _ _ us hl=>match us,hl with|[_],_=>rfl,dmx a16 fun _ _ _ _ _ _ us hl=>match us,hl with|[_,_],_=>rfl,dmx a17 fun _ _ _ _ _ _ us hl=>match us,hl with|[_,_,_,_],_=>rfl,dmx a18 fun _ _ _ _ _ _ us hl=>match us,hl with|[_],_=>rfl,dmx a19 fun _ _ _ _ _ _ us hl=>match us,hl with|[_,_,_,_],_=>rfl,dmx a20 fun _ _ _ _ _ _ us hl=>match us,hl with|[_,_,_],_=>rfl,W.mg_none_of X G z0,W.mg_none_of X G z1,W.mg_none_of X G z2,W.mg_none_of X G z3,⟨_,W.mg_of X G z4⟩,⟨_,W.mg_of X G z5⟩,⟨_,W.mg_of X G z6⟩,⟨_,W.mg_of X G z7⟩,⟨_,W.mg_of X G z8⟩,⟨_,W.mg_of X G z9⟩,⟨_,W.mg_of X G z10⟩,W.mg_none_of X G z11,W.mg_none_of X G z12,W.mg_none_of X G z13,W.mg_none_of X G z14,W.mg_none_of X G z15,W.mg_none_of X G z16,W.mg_none_of X G z17,W.mg_none_of X G z18,W.mg_none_of X G z19,W.mg_none_of X G z20,kbe,W.mg_of X G q1,kam,W.mg_of X G q3,kbl,W.mg_of X G q5,kbo,W.mg_of X G q7,ka4,W.mg_of X G q9,kaH,W.mg_of X G q11,kaz,W.mg_of X G q13,kar,W.mg_of X G q15,ka9,W.mg_of X G q17,kaY,W.mg_of X G q19,kaX,W.mg_of X G q21,kaN,W.mg_of X G q23,kaD,W.mg_of X G q25,kan,W.mg_of X G q27,kaI,W.mg_of X G q29,ka5,W.mg_of X G q31,kbb,W.mg_of X G q33,ka6,W.mg_of X G q35,ka7,W.mg_of X G q37,kaU,W.mg_of X G q39,kaP,W.mg_of X G q41,kaS,W.mg_of X G q43,kbh,W.mg_of X G q45,kbm,W.mg_of X G q47,q48,q49,q50,q51,q52,q53,q54,q55,q56,q57,q58,q59,q60,q61,q62,q63,q64,q65,q66,q67,q68,q69,q70,q71,q72,q73,q74,q75,q76,q77,q78,q79,q80,q81,q82,q83,q84,q85,q86,q87,q88,q89,q90,q91,q92,q93,q94,q95,q96,q97,q98,q99,q100,q101,q102,q103,q104,q105,q106,q107,q108,q109,q110⟩)⟩
theorem zjK{l:W.OpenLaw}{q:Program}{loose:List Str}{XP:(Str->Option Value)->Heap->Prop}{YP:World->Heap->Prop}{d:DefRec}{K:Params->W.Frag}(hn:l.most=some 63)(hdf:d.params.defaults=[])
 (hY: ∀(w:World) (h:Heap),YP w h->(K w.params).In h)
 (F: ∀(w:World) (mg:Str->Option Value) (fa:Addr) (h:Heap),(K w.params).In h->h.Ns mainGlobals mg->mg d.name=some (.ref fa)->
  ∃fd:FuncData,(∀(s:Shared) (u:Value),BindsTo s fd ⟨[u],[]⟩ [("_law_script",u)])/\∀base:Heap,(K w.params).In base->base.Ns mainGlobals mg->J1 l.prog w (K w.params) mg base CX0 7 fa fd ["_law_script"] (z8E (K w.params) 1 f_law)):
 W.WalkO q loose XP YP l.row.toRowW d [] (fun f vs=>PySem.call f vs):=
 L2.zbD (n:=63) (k:=7) (x:= "_law_script") (CX:=fun _=>CX0) (sp:=fun w=>z8E (K w.params) 1 f_law) hn (by decide) hdf ⟨rfl,by decide,by decide,rfl⟩ hY F (fun _ _ a ns hl hO hS=>zgd (fun n=>zgb ns (by lia) n) hO hS) fun _ _ _ _ _ h=>h.elim
end My
inductive PySem.W.Fast:Prop|tw13374228363792411973|tw9191975872325237656|tw11466169209681211399|tw10626691678977912428|tw3971006314179232327|tw895383039862012591|tw10246034680736108165|tw11807825157591966210|tw12220573070289551346|tw14992681045190732842|tw3786943414536309714|tw9978096434652052972|tw937806382841645960|tw5432404585217633773|tw1126084843817764266|tw6099483841648371287|tw16468392901646735190|tw89811811145928511|tw14263426476054559917|tw11284028746710600657|tw9894887663793406490|tw818257819593921285|tw18208346453210039036|tw7471742962916995170|tw13044839324569684559|tw10970200352230691108|tw6314937133627470313|tw3811546561899134854|tw3620458380753618473|tw16527113563565522171|tw2962189578474509246|tw7384101412811779263|tw15777827067249516591|tw18364571059978193035|tw4297195693932941819|tw7990266217412398131|tw10022183398828205611|tw15935846009791131122|tw17832731297348780155|tw12317221703513030103|tw8671765331883942512|tw7223864024729608261|tw6519084261947743296|tw11035521522988297227|tw5366139863338934261|tw14195050512198130064|tw916833194344536300|tw6115297907978402238|tw11686867815883103139|tw7190294970521022289|tw12822796126639727389|tw863465339475510963|tw17800142797824772723|tw15337660429050467160|tw801665978503277370|tw10697436870325550428|tw7866160990895530539|tw960927070386925319|tw17665591089432616439|tw13341960287231145509|tw15067489777751460759|tw14307378538713076977|tw14525860319605745875|tw10453394921915359742|tw16767436221598944895|tw3820441060130158261|tw4312918950951068616|tw12184906066871078279|tw15999736256895046689|tw4829698092535781754|tw16630696989653140229|tw50404546575076046|tw16813334974353115143|tw12181595883348004835|tw10432187330566593802|tw12265564994992090947|tw10064639173683287201|tw7761781096426673710|tw17421303709440730524|tw9580596727367682666|tw8080007139231484864|tw7732524606525907480|tw5916593455008684342|tw5562397805009267229|tw6652935797069495331|tw8470439698697844194|tw18048729869417655608|tw4339221553545741514|tw11367347659628875889|tw64431621793476366|tw14165234953713970897|tw2477863152406512159|tw18197680389081580687
open PySem PySem.W PyProof.Rows
set_option maxRecDepth 100000 in
set_option maxHeartbeats 0 in
theorem PySem.Challenge.cw_signbench_k08_words_put_in_holds : PySem.Challenge.rw_signbench_k08_words_put_in.Holds := by
 w_on;o_law;k_head;(case hw=>w_witness2)
 k_fill
 refine My.zjK (l:=PySem.Challenge.rw_signbench_k08_words_put_in) rfl rfl (fun w h Y=>PySem.W.kIn_of Y) ?F
 case F=>
  intro w mg fa h KX G hmg
  apply My.zge KX G hmg<;>(try delta My.nI My.kF My.kN My.kV My.fA My.fB My.fC My.xA My.mO My.eB)<;>first|(apply My.ziC<;>k_is)|(apply My.ziD<;>k_is)|(apply L2.Cls.mk<;>k_is)|(apply L2.Mk.mk<;>k_is)|k_is|kernel_rfl|rfl|decide
