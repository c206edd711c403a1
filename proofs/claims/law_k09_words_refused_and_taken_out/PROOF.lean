import PyProof.Rows.All
import Wide.All
import OpenK.AllK
import Wide.FinOn
import Lean
import PyProof.EqAt
import PyProof.EqKinds
import PyProof.TupleCall
import PyProof.CallStr
import PyProof.DictTruth
import PyProof.Draws
import PyProof.EnumMake
import PyProof.ListRange
import PyProof.P3Eq
import PyProof.Rows.CallKw2
import PyProof.Rows.CountFlat
import PyProof.Rows.Range3
import PyProof.Rows.ZipGen
import PyProof.SumAny
import PyProof.ZipIter
import PySem.Challenge.RW_signbench_k09_words_refused_and_taken_ou
noncomputable section
local macro_rules|`(tactic|erw[$[$e:term],*]$[$l:location]?)=>`(tactic|simp only[$[$e:term],*]$[$l:location]?)
open List renaming mem_append_right→b6,mem_cons_of_mem→b7,mem_append_left→b8,mem_append→c7,map_cons→c8,mem_cons→c9,append_nil→e7,replicate→e8,mem_cons_self→e9,length_cons→i0,size_toArray→i3,forall_mem_cons→i6,not_mem_nil→i7,lookup_cons→i9,length_map→l0,length_append→l3,mem_singleton→l5,map_nil→l7,cons_append→l9,nil_append→m5,reverse_cons→m7,mem_map→m8,length_nil→n8,append_assoc→o0,replicate_succ→p5,filter_cons_of_neg→r6,filter_cons_of_pos→r8,set_cons_zero→t9,all_eq_true→A4,lookup→A5,length_take→A7,flatten_cons→A8,nodup_cons→B0,zipWith_cons_cons→B1,append_eq_nil_iff→B2,reverse_nil→B3,getElem_mem→B4,set_cons_succ→B6,take_append_drop→B8,zipWith→C0,range→C1,length_drop→C2,take_of_length_le→C3,Nodup→C4,map_append→C5,mem_or_eq_of_mem_set→D2,length_reverse→D3,take_succ_cons→D4,reverse_append→D5,drop_drop→D8,suffix_refl→E6,any_cons→E7,mem_of_mem_drop→E8,mem_of_mem_take→E9,mem_filter→F0,of_mem_zip→F2,filterMap_cons→F3,map_congr_left→F4,drop_succ_cons→F5,mem_filterMap→F7,foldl→F8,drop_zero→F9,contains_cons→I0,drop_eq_getElem_cons→L4,length_replicate→M9,length_filter_le→N1,length→N2,filter_sublist→N3,zip_cons_cons→N6,flatten→O2,contains_nil→O3,isEmpty_iff→O5,any_eq_true→O7,isEmpty_nil→O8,length_set→O9,nil_suffix→P0,mem_range→P4,nodup_nil→P5,any_map→R1,map_map→R3,all_map→R5
open Bool renaming and_eq_true→b9,false_ne_true→i5,false_eq_true→i8,eq_false_iff→t7,true_and→t8,false_and→B5,and_true→C8,eq_iff_iff→D6,not_eq_true'→D9,noConfusion→E5,or_false→L7,and_self→N5,or_eq_true→P1,not_false→P6,false_or→P7,true_or→P8
open Nat renaming le_refl→c6,lt_of_lt_of_le→i4,ne_of_lt→l8,le_trans→n9,le_of_ble_eq_true→p4,lt_succ_self→s0,lt_of_le_of_lt→A2,zero_le→A6,lt_succ_of_lt→A9,lt_irrefl→C7,not_lt→D7,le_of_not_lt→E4,add_le_add_left→F6,add_assoc→L5,reduceAdd→L8,reduceSub→L9,le_of_lt→N7,ne_of_gt→N8,le_of_eq→N9,mul_comm→O0,le_succ_of_le→O1,zero_add→O4,succ_le_succ→O6,min_eq_left→P2,not_lt_zero→P3,lt_trans→P9,lt_or_ge→R0,sub_self→R4
open Option renaming map_some→m9,getD_some→A3,map_none→B9,isSome_map→D0,getD_none→D1,isSome_iff_exists→L6,bind_eq_some_iff→M0,bind_some→M7
open Int renaming emod_lt_of_pos→B7,emod_nonneg→C6,toNat_natCast→C9,zero_add→E3,eq_ofNat_of_zero_le→M8,reduceBEq→N4
set_option Elab.async false
set_option linter.all false
set_option maxRecDepth 100000
set_option maxHeartbeats 4000000
namespace L2
open PySem PySem.Spec PyProof.Rows
abbrev Key:=Sum Int Str
def z6G:Key->Value->Bool
 | .inl k,v=>Value.isInt k v
 | .inr x,v=>Value.isStrOf x v
def zjN(w:World):Key->Int
 | .inl k=>hashInt k
 | .inr x=>hashStr w x
theorem w8: ∀{k:Key} {v:Value},z6G k v=true->(∃i t,k=Sum.inl i/\v=Value.int i t)\/(∃x t,k=Sum.inr x/\v=Value.str x t)
 | .inl i,v,h=>by
  obtain⟨t,e⟩:=Value.isInt_shape (k:=i) (v:=v) h
  exact .inl ⟨i,t,rfl,e⟩
 | .inr x,v,h=>by
  obtain⟨t,e⟩:=Value.isStrOf_shape (x:=x) (v:=v) h
  exact .inr ⟨x,t,rfl,e⟩
theorem z7B(i:Int)(t:Tok):z6G (.inl i) (.int i t)=true:=by simp[z6G,Value.isInt]
theorem z7C(x:Str)(t:Tok):z6G (.inr x) (.str x t)=true:=by simp[z6G,Value.isStrOf]
theorem zeh(a b:Int):decide ((Sum.inl a:Key)=Sum.inl b)=(a==b):=by
 by_cases e:a=b
 .subst e;simp
 .have h: ¬(Sum.inl a:Key)=Sum.inl b:=λq=>e (Sum.inl.inj q)
  rw[decide_eq_false h]
  exact(beq_eq_false_iff_ne.mpr e).symm
theorem zei(a b:Str):decide ((Sum.inr a:Key)=Sum.inr b)=decide (a=b):=by
 by_cases e:a=b
 .subst e;simp
 .have h: ¬(Sum.inr a:Key)=Sum.inr b:=λq=>e (Sum.inr.inj q)
  rw[decide_eq_false h,decide_eq_false e]
theorem zej(a:Int)(b:Str):decide ((Sum.inl a:Key)=Sum.inr b)=false:=decide_eq_false (λq=>nomatch q)
theorem zek(a:Str)(b:Int):decide ((Sum.inr a:Key)=Sum.inl b)=false:=decide_eq_false (λq=>nomatch q)
def Y6(prog:Program)(w:World):PySem.KeyKind prog w Key where
 is:=z6G
 hash:=zjN w
 inj:=λv a b ha hb=>by
  rcases w8 ha with⟨i,t,rfl,rfl⟩|⟨x,t,rfl,rfl⟩
  .rcases w8 hb with⟨j,u,rfl,e⟩|⟨y,u,rfl,e⟩
   .injection e with e1 _;rw[e1]
   .exact nomatch e
  .rcases w8 hb with⟨j,u,rfl,e⟩|⟨y,u,rfl,e⟩
   .exact nomatch e
   .injection e with e1 _;rw[e1]
 byValue:=λk v h=>by
  rcases w8 h with⟨i,t,rfl,rfl⟩|⟨x,t,rfl,rfl⟩<;>rfl
 pyHash:=λhv h=>by
  rcases w8 hv with⟨i,t,rfl,rfl⟩|⟨x,t,rfl,rfl⟩
  .exact wpAny_pyHash_int h
  .exact wpAny_pyHash_str h
 eqBool:=λhu hv h=>by
  rcases w8 hu with⟨i,t,rfl,rfl⟩|⟨x,t,rfl,rfl⟩
  .rcases w8 hv with⟨j,u,rfl,rfl⟩|⟨y,u,rfl,rfl⟩
   .rw[zeh] at h;exact wpAny_eqBool_int h
   .rw[zej] at h;exact SeqAt.EqAt.int_str i t y u _ _ _ _ h
  .rcases w8 hv with⟨j,u,rfl,rfl⟩|⟨y,u,rfl,rfl⟩
   .rw[zek] at h;exact SeqAt.EqAt.str_int x t j u _ _ _ _ h
   .rw[zei] at h;exact wpAny_eqBool_str h
 «strs» :=λk x t v h=>by
  rcases w8 h with⟨i,u,rfl,e⟩|⟨y,u,rfl,e⟩
  .exact nomatch e
  .injection e with e1 _
   subst e1
   cases v<;>rfl
theorem z56(prog:Program)(w:World)(i:Int)(t:Tok):(Y6 prog w).is (.inl i) (.int i t)=true:=z7B i t
theorem z57(prog:Program)(w:World)(x:Str)(t:Tok):(Y6 prog w).is (.inr x) (.str x t)=true:=z7C x t
inductive V where
 |non|bl (b:Bool)|int (i:Int)|str (x:Str)|byt (b:Array UInt8)|flt (b:UInt64)|ref (a:Addr)|ty (n:String)
 deriving DecidableEq
def RelV:V->Value->Prop
 | .non,u=>u=Value.none
 | .bl b,u=>u=Value.bool b
 | .int i,u=> ∃t,u=Value.int i t
 | .str x,u=> ∃t,u=Value.str x t
 | .byt b,u=> ∃t,u=Value.bytes b t
 | .flt b,u=> ∃t,u=Value.float b t
 | .ref a,u=>u=Value.ref a
 | .ty n,u=>u=Value.type n
abbrev W0:List V->List Value->Prop:=Paired RelV
theorem W0.length{xs:List V}{us:List Value}(r:W0 xs us):xs.length=us.length:=Paired.length r
theorem W0.get: ∀{xs:List V} {us:List Value} {i:Nat} {x:V},W0 xs us->xs[i]? =some x->∃u,us[i]? =some u/\RelV x u
 |_,_,_,_, .nil,e=>by simp at e
 |_,_,0,_, .cons r _,e=>by simp at e;subst e;exact⟨_,rfl,r⟩
 |_,_,i+1,x, .cons _ t,e=>by
  obtain⟨u,h1,h2⟩:=W0.get (i:=i) (x:=x) t (by simpa using e)
  exact⟨u,by simpa using h1,h2⟩
theorem W0.set{x:V}{u:Value}(r:RelV x u): ∀{xs:List V} {us:List Value} (i:Nat),W0 xs us->W0 (xs.set i x) (us.set i u)
 |_,_,_, .nil=> .nil
 |_,_,0, .cons _ t=> .cons r t
 |_,_,i+1, .cons q t=> .cons q (W0.set r i t)
theorem W0.append: ∀{xs ys:List V} {us ws:List Value},W0 xs us->W0 ys ws->W0 (xs++ys) (us++ws)
 |_,_,_,_, .nil,s=>s
 |_,_,_,_, .cons r t,s=> .cons r (W0.append t s)
theorem W0.take: ∀{xs:List V} {us:List Value} (n:Nat),W0 xs us->W0 (xs.take n) (us.take n)
 |_,_,0,_=> .nil
 |_,_,_+1, .nil=> .nil
 |_,_,n+1, .cons r t=> .cons r (W0.take n t)
theorem W0.drop: ∀{xs:List V} {us:List Value} (n:Nat),W0 xs us->W0 (xs.drop n) (us.drop n)
 |_,_,0,r=>r
 |_,_,_+1, .nil=> .nil
 |_,_,n+1, .cons _ t=>W0.drop n t
def RelO:Option V->Option Value->Prop
 |some v,some u=>RelV v u
 |none,none=>True
 |_,_=>False
def KV{κ:Type}:List (κ×V)->List (κ×Value)->Prop:=Paired λ(p:κ×V) (q:κ×Value)=>p.1=q.1/\RelV p.2 q.2
def kV:Key->V
 | .inl i=> .int i
 | .inr x=> .str x
theorem Paired.mapP{α β:Type}{F G:α->β->Prop}: ∀{l₁:List α} {l₂:List β},Paired F l₁ l₂->(∀a b,F a b->G a b)->Paired G l₁ l₂
 |_,_, .nil,_=> .nil
 |_,_, .cons r t,f=> .cons (f _ _ r) (Paired.mapP t f)
abbrev NK:=List (Key⊕List Key)
section
variable(P:Program)(w:World)
def ItN(h:Heap):Key⊕List Key->Value->Prop
 | .inl k,v=>(Y6 P w).is k v=true
 | .inr ks,v=> ∃c,v= .ref c/\IsTupleKey (Y6 P w) h ks c
def IsN(h:Heap)(k:NK)(a:Addr):Prop:= ∃o items n,h.get? a=some o/\o.cls= .type "tuple" /\o.data= .seq items n/\Paired (ItN P w h) k items.toList
def hsN:Key⊕List Key->Int
 | .inl k=>(Y6 P w).hash k
 | .inr ks=>tupleKeyHash (Y6 P w) ks
def drN:Key⊕List Key->Nat
 | .inl _=>1
 | .inr ks=>ks.length+1
end
section
variable{P:Program}{w:World}{h:Heap}
theorem zc3{x y:Key⊕List Key}{v:Value}(hx:ItN P w h x v)(hy:ItN P w h y v):x=y:=by
 cases x with
 |inl k=>
  cases y with
  |inl k'=>rw[(Y6 P w).inj v k k' hx hy]
  |inr ks=>obtain⟨c,rfl,_⟩:=hy;have:=(Y6 P w).byValue _ _ hx;simp[carriedByValue] at this
 |inr ks=>
  obtain⟨c,rfl,hc⟩:=hx
  cases y with
  |inl k'=>have:=(Y6 P w).byValue _ _ hy;simp[carriedByValue] at this
  |inr ks'=>obtain⟨c',e,hc'⟩:=hy;cases e;rw[hc.inj hc']
theorem z3g: ∀{x y:NK} {vs:List Value},Paired (ItN P w h) x vs->Paired (ItN P w h) y vs->x=y
 |_,_,_, .nil, .nil=>rfl
 |_,_,_, .cons a b, .cons c d=>by rw[zc3 a c,z3g b d]
variable{A:Around}{E:Value->Shared->Prop}{s:Shared}
theorem z43{M:Model}{a:Addr}{o:Obj}{items:Array Value}{n m:Nat}{Q:Bool->Shared->Prop}(ho:s.heap.get? a=some o)(hc:o.cls= .type "tuple")(hd:o.data= .seq items n)(hi: ∀v∈items.toList,∀(R:Bool->Shared->Prop) E,R true s->wpAny M A (eqIsQuiet m v) R E s)(q:Q true s):wpAny M A (eqIsQuiet (m+1) (.ref a)) Q E s:=by
 have hT:s.TypeIs (.ref a) "tuple" :=⟨o,ho,hc⟩
 rw[eqIsQuiet]
 refine wpAny_bind (wpAny_specialOf hT PySem.F.slot_tuple_eq.lookup ?_)
 dsimp only
 refine wpAny_bind (wpAny_isInstance hT isSubtype_tuple_tuple ?_)
 rw[if_neg (by decide)]
 refine wpAny_bind (wpAny_seqItems ho hd ?_)
 refine wpAny_bind ?_
 dsimp only[A3]
 rw[<-Array.forIn_toList]
 refine wpAny_forIn_list _ (λr b s'=>b.1=none/\s'=s/\∀v∈r,v∈items.toList) _ ?_ ?_ _ _ ⟨rfl,rfl,λv hv=>hv⟩
 .rintro v r b s' ⟨_,rfl,hm⟩
  refine wpAny_bind (hi v (hm v e9) _ _ ?_)
  rw[if_neg (by decide)]
  exact wpAny_pure ⟨rfl,rfl,λu hu=>hm u (b7 _ hu)⟩
 .rintro ⟨b1,b2⟩ s' ⟨hb,rfl,_⟩
  dsimp only at hb
  subst hb
  exact wpAny_pure q
theorem z44{P':Program}{w':World}: ∀{ks:List Key} {vs:List Value},ItemsAre (Y6 P w) ks vs->ItemsAre (Y6 P' w') ks vs
 |_,_, .nil=> .nil
 |_,_, .cons a b=> .cons a (z44 b)
theorem z7D{P':Program}{w':World}{ks:List Key}{c:Addr}(hk:IsTupleKey (Y6 P w) h ks c):IsTupleKey (Y6 P' w') h ks c:=by
 obtain⟨o,items,n,h1,h2,h3,h4⟩:=hk
 exact⟨o,items,n,h1,h2,h3,z44 h4⟩
theorem zel{x y:Key⊕List Key}{u v:Value}(hu:A.units<cLine)(hx:ItN P w s.heap x u)(hy:ItN P w s.heap y v):SeqAt.EqAt A s u v (decide (x=y)):=λprog w' E Q q=>by
 cases x with
 |inl k=>
  cases y with
  |inl k'=>exact(Y6 prog w').eqBool (a:=k) (b:=k') hx hy (by rw[show decide (k=k')=decide ((Sum.inl k:Key⊕List Key)=Sum.inl k') by by_cases e:k=k'<;>simp[e]];exact q)
  |inr ks=>
   obtain⟨c,rfl,o,items,n,h1,h2,h3,_⟩:=hy
   rw[decide_eq_false (λe=>nomatch e)] at q
   rcases w8 hx with⟨i,t,rfl,rfl⟩|⟨z,t,rfl,rfl⟩
   .exact SeqAt.EqAt.int_tuple i t ⟨o,h1,h2,n,h3⟩ hu prog w' E Q q
   .exact SeqAt.EqAt.str_tuple z t ⟨o,h1,h2,n,h3⟩ hu prog w' E Q q
 |inr ks=>
  obtain⟨c,rfl,hc⟩:=hx
  cases y with
  |inl k'=>
   obtain⟨o,items,n,h1,h2,h3,_⟩:=hc
   rw[decide_eq_false (λe=>nomatch e)] at q
   rcases w8 hy with⟨i,t,rfl,rfl⟩|⟨z,t,rfl,rfl⟩
   .exact SeqAt.EqAt.tuple_int i t ⟨o,h1,h2,n,h3⟩ hu prog w' E Q q
   .exact SeqAt.EqAt.tuple_str z t ⟨o,h1,h2,n,h3⟩ hu prog w' E Q q
  |inr ks'=>
   obtain⟨c',rfl,hc'⟩:=hy
   refine wpAny_eqBool_tuple (knd:=Y6 prog w') hu (z7D hc) (z7D hc') ?_
   rw[show decide (ks=ks')=decide ((Sum.inr ks:Key⊕List Key)=Sum.inr ks') by by_cases e:ks=ks'<;>simp[e]];exact q
theorem zc4{α:Type}[DecidableEq α](x y:List α):((C1 (min x.length y.length)).all (λj=>decide (x[j]? =y[j]?))&&x.length==y.length)=decide (x=y):=by
 rw[D6]
 erw[b9,A4,P4,decide_eq_true_eq,beq_iff_eq]
 constructor
 .rintro ⟨h1,h2⟩
  apply List.ext_getElem?
  intro j
  by_cases hj:j<x.length
  .exact h1 j (by lia)
  .rw[List.getElem?_eq_none (by lia),List.getElem?_eq_none (by lia)]
 .rintro rfl;exact⟨λ_ _=>rfl,rfl⟩
theorem Paired.get2{α β:Type}{F:α->β->Prop}: ∀{l:List α} {m:List β},Paired F l m->∀j (h1:j<l.length) (h2:j<m.length),F l[j] m[j]
 |_,_, .cons a b,0,_,_=>a
 |_,_, .cons a b,j+1,h1,h2=>Paired.get2 b j (by simpa using h1) (by simpa using h2)
theorem zem{x y:NK}{a b:Addr}{Q:Bool->Shared->Prop}(hu:A.units+1<cLine)(hx:IsN P w s.heap x a)(hy:IsN P w s.heap y b)(q:Q (decide (x=y)) s):wpAny (model P w) A (eqBool (.ref a) (.ref b)) Q E s:=by
 by_cases e:a=b
 .subst e
  obtain⟨o,items,n,h1,h2,h3,h4⟩:=hx
  obtain⟨o',items',n',k1,k2,k3,k4⟩:=hy
  obtain rfl:o=o':=Option.some.inj (h1.symm.trans k1)
  rw[h3] at k3
  injection k3 with k3 _
  subst k3
  obtain rfl:=z3g h4 k4
  exact SeqAt.EqAt.same _ P w E Q (by simpa using q)
 .obtain⟨o,items,n,h1,h2,h3,h4⟩:=hx
  obtain⟨o',items',n',k1,k2,k3,k4⟩:=hy
  have l1:x.length=items.size:=by have:=Paired.length h4;simpa using this
  have l2:y.length=items'.size:=by have:=Paired.length k4;simpa using this
  refine SeqAt.EqAt.of_refs e (SeqAt.RcAt.tuples (e:=λj=>decide (x[j]? =y[j]?)) ⟨o,h1,h2,n,h3⟩ ⟨o',k1,k2,n',k3⟩ (by lia) λj j1 j2=> ?_) P w E Q ?_
  .have:=zel (A:=A.in1) (show A.units+1<cLine from hu) (Paired.get2 h4 j (by lia) (by simpa using j1)) (Paired.get2 k4 j (by lia) (by simpa using j2))
   rw[List.getElem?_eq_getElem (by lia),List.getElem?_eq_getElem (by lia)]
   simpa using this
  .rw[<-l1,<-l2,zc4];exact q
theorem z9A{k:Key⊕List Key}{v:Value}{Q:Int->Shared->Prop}(hu:A.units<cLine)(hk:ItN P w s.heap k v)(q:Q (hsN P w k) {s with toks:=s.toks+drN k}):wpAny (model P w) A (pyHash v) Q E s:=by
 cases k with
 |inl k=>exact(Y6 P w).pyHash hk q
 |inr ks=>obtain⟨c,rfl,hc⟩:=hk;exact wpAny_pyHash_tuple hu hc q
theorem z9B{k:NK}{a:Addr}{Q:Int->Shared->Prop}(hu:A.units+1<cLine)(hk:IsN P w s.heap k a)(q:Q (reduceHash (Builtin.Tuple.tupleHashOf (k.map (hsN P w)))) {s with toks:=s.toks+((k.map drN).sum+1)}):wpAny (model P w) A (pyHash (.ref a)) Q E s:=by
 obtain⟨o,items,n,ho,hc,hd,hi⟩:=hk
 have hT:s.TypeIs (.ref a) "tuple" :=⟨o,ho,hc⟩
 unfold pyHash
 unfold pyHashByItsType
 refine wpAny_bind (wpAny_cRoomFor_or (.inr (by lia)) ?_)
 refine wpAny_bind (wpAny_specialOf hT PySem.F.slot_tuple_hash.lookup ?_)
 rw[if_neg (show ¬(some (Value.builtin "tuple.__hash__")==some Value.none)=true by rw[beq_builtin_none];decide)]
 refine wpAny_bind (wpAny_specialOf hT PySem.F.slot_tuple_hash.lookup ?_)
 refine wpAny_bind (wpAny_callSpecialIfBoundUnlessNone?_slot hT PySem.F.slot_tuple_hash (wpAny_call_entry PySem.F.slot_tuple_hash hT PySem.F.entry_tuple_hash ?_ (PySem.F.args_tuple_hash_1 _)))
 change wpAny _ A.in1 (Builtin.Tuple.tupleItemsOf (Value.ref a)>>=_) _ _ s
 refine wpAny_bind (wpAny_tupleItemsOf ho hd (wpAny_bind ?_))
 rw[<-Array.forIn_toList]
 refine wpAny_forIn_list _ (λr (b:Array Int) s'=> ∃d l,k=d++l/\Paired (ItN P w s.heap) l r/\b.toList=d.map (hsN P w)/\s'={s with toks:=s.toks+(d.map drN).sum}) _ ?_ ?_ _ _ ⟨[],k,rfl,hi,rfl,rfl⟩
 .rintro x r b s' ⟨d,l,rfl,hl,hb,rfl⟩
  cases hl with
  | @cons z _ l' _ h1 hl'=>
   refine wpAny_bind (z9A (A:=A.in1) (s:={s with toks:=s.toks+(d.map drN).sum}) (show A.units+1<cLine from hu) h1 ?_)
   have fin: ∃d' l2,d++z::l'=d'++l2/\Paired (ItN P w s.heap) l2 r/\(b.push (hsN P w z)).toList=d'.map (hsN P w)/\({s with toks:=s.toks+(d.map drN).sum+drN z}:Shared)={s with toks:=s.toks+(d'.map drN).sum}:=⟨d++[z],l',by simp,hl',by simp[hb],by simp[L5]⟩
   exact wpAny_pure fin
 .rintro b s' ⟨d,l,rfl,hl,hb,rfl⟩
  cases hl
  rw[e7] at q
  change wpAny _ A.in1 (retInt (Builtin.Tuple.tupleHashOf b.toList)) _ _ _
  rw[hb]
  refine wpAny_ret_mkInt ?_
  unfold reduceHash at q
  show wpAny _ _ (if(decide (-(2:Int)^63<=Builtin.Tuple.tupleHashOf (d.map (hsN P w)))&&decide (Builtin.Tuple.tupleHashOf (d.map (hsN P w))<2^63))=true then _ else _) Q E _
  split
  .rename_i hr
   rw[if_pos hr] at q
   exact wpAny_pure (by simpa[L5] using q)
  .rename_i hr
   rw[if_neg hr] at q
   exact wpAny_bind (wpAny_rule (wpAny_pure (by simpa[L5] using q)))
theorem z7E{k:NK}{a:Addr}{Q:Bool->Shared->Prop}(hk:IsN P w s.heap k a)(q:Q true s):wpAny (model P w) A (eqIsQuiet 8 (.ref a)) Q E s:=by
 obtain⟨o,items,n,h1,h2,h3,h4⟩:=hk
 refine z43 h1 h2 h3 (λv hv R E' r=> ?_) q
 have all: ∀{k:NK} {vs:List Value},Paired (ItN P w s.heap) k vs->∀v∈vs,∃z,ItN P w s.heap z v:=by
  intro k vs p
  induction p with
  |nil=>intro v hv;cases hv
  |cons a b ih=>
   intro v hv
   rcases c9.mp hv with rfl|hv
   .exact⟨_,a⟩
   .exact ih v hv
 obtain⟨z,hz⟩:=all h4 v hv
 cases z with
 |inl k=>rw[eqIsQuiet_byValue _ ((Y6 P w).byValue _ _ hz)];exact wpAny_pure r
 |inr ks=>
  obtain⟨c,rfl,o,items,n,h1,h2,h3,h4⟩:=hz
  exact z43 h1 h2 h3 (λv hv R E' r=>by rw[eqIsQuiet_byValue _ (h4.byValue v hv)];exact wpAny_pure r) r
theorem z7F{h':Heap}{d:Addr}{o:Obj}{es:Array DictEntry}{ep:Nat}(ho:h.get? d=some o)(hd:o.data= .dict es ep)(hs:Heap.SameBut d h h'): ∀{k:NK} {vs:List Value},Paired (ItN P w h) k vs->Paired (ItN P w h') k vs:=λp=>Paired.mapP p λz v q=>by
 cases z with
 |inl k=>exact q
 |inr ks=>obtain⟨c,rfl,hc⟩:=q;exact⟨c,rfl,hc.keeps ho hd hs⟩
end
def X1(P:Program)(w:World):HeapKind P w NK where
 is:=IsN P w
 hash:=λk=>reduceHash (Builtin.Tuple.tupleHashOf (k.map (hsN P w)))
 draws:=λk=>(k.map drN).sum+1
 room:=λA=>A.units+1<cLine
 inj:=λ⟨o,items,n,h1,_,h3,h4⟩ ⟨o',items',n',k1,_,k3,k4⟩=>by
  obtain rfl:o=o':=Option.some.inj (h1.symm.trans k1)
  rw[h3] at k3
  injection k3 with k3 _
  subst k3
  exact z3g h4 k4
 keeps:=λ{h h' k a d o es ep} ⟨o',items,n,h1,h2,h3,h4⟩ ho hd hs=>by
  have hne:a≠d:=by
   rintro rfl
   obtain rfl:o'=o:=Option.some.inj (h1.symm.trans ho)
   rw[hd] at h3;cases h3
  exact⟨o',items,n,(hs.2 a hne).trans h1,h2,h3,z7F ho hd hs h4⟩
 pyHash:=λhu hk q=>z9B hu hk q
 eqBool:=λhu hx hy q=>zem hu hx hy q
 quiet:=λhk q=>z7E hk q
theorem K9{P:Program}{w:World}{A:Around}(hu:A.units+2<cLine):(X1 P w).room A.in1:=hu
inductive HO where
 |lst (xs:List V)
 |tup (xs:List V)
 |dK (kvs:List (Key×V))|dT (kvs:List (NK×V))
 |set (S:Int->Bool) (n:Nat)
 |ins (C dx:Addr) (fs:List (Str×V))
 |own (x:Addr)
 |xd (fs:List (Str×V))
 |met (f x:Addr)
 |rng (lo hi:Int)
 |frz (o:Obj) (u:HO)
 |tbl (ps:Array Value)
 |ext (φ:Heap->Prop)
abbrev Hp:=Addr->Option HO
def upd(H:Hp)(a:Addr)(o:HO):Hp:=λb=>if b=a then some o else H b
theorem Z1{H:Hp}{a:Addr}{o:HO}:upd H a o a=some o:=by unfold upd;rw[if_pos rfl]
theorem y4{H:Hp}{a b:Addr}{o:HO}(h:b≠a):upd H a o b=H b:=by unfold upd;rw[if_neg h]
theorem z0q{H:Hp}{a b:Addr}{o u:HO}(h:H a=some o)(h':H b=some u)(d:o≠u):a≠b:=by
 intro e;subst e;rw[h] at h';exact d (Option.some.inj h')
theorem Q3{H:Hp}{a b:Addr}{o:HO}(h:H a=some o)(h':H b=none):a≠b:=by
 intro e;subst e;rw[h] at h';cases h'
def TKi(H:Hp):Key⊕List Key->V->Prop
 | .inl k,x=>x=kV k
 | .inr ks,x=> ∃c,x= .ref c/\H c=some (.tup (ks.map kV))
def TK(H:Hp)(k:NK)(b:Addr):Prop:= ∃xs,H b=some (.tup xs)/\Paired (TKi H) k xs
theorem TK.stay{H H':Hp}{k:NK}{b:Addr}(ht: ∀b xs,H b=some (.tup xs)->H' b=some (.tup xs))(h:TK H k b):TK H' k b:=by
 obtain⟨xs,h1,h2⟩:=h
 refine⟨xs,ht _ _ h1,Paired.mapP h2 λz x q=> ?_⟩
 cases z with
 |inl k=>exact q
 |inr ks=>obtain⟨c,e,q⟩:=q;exact⟨c,e,ht _ _ q⟩
section
variable(P:Program)(w:World)
def J7(H:Hp)(h:Heap)(a:Addr):HO->Prop
 | .lst xs=>xs.length<=sizeLine/\∃(its:List Value) (n:Nat),W0 xs its/\h.get? a=some {cls:= .type "list",data:= .seq its.toArray n}
 | .tup xs=>xs.length<=sizeLine/\∃its:List Value,W0 xs its/\IsTup h a its.toArray
 | .dK kvs=>kvs.length<=sizeLine/\(a==sysModules)=false/\∃vs,KV kvs vs/\h.DictOf (Y6 P w) a vs
 | .dT kvs=>kvs.length<=sizeLine/\(a==sysModules)=false/\∃xs:List (NK×Addr×Value),
  Paired (λ(p:NK×V) (q:NK×Addr×Value)=>p.1=q.1/\TK H p.1 q.2.1/\RelV p.2 q.2.2) kvs xs/\
  ∃o es ep,h.get? a=some o/\o.ExactDict/\o.data= .dict es ep/\es.toList=xs.map (entryOfKey (X1 P w))/\(xs.map (·.1)).Nodup
 | .set S n=>h.SetOf (intKind P w) a S n
 | .ins C dx fs=>H dx=some (.own a)/\fs.length<=1000/\dx≠a/\h.get? a=some (W.instObj C dx)/\
  ∃mA,h.Ns1 dx mA/\(∀f,RelO (fs.lookup f) (mA f))/\PySem.Within mA (fs.map (·.1))
 | .own _=> ∃o,h.get? a=some o
 | .xd fs=> ∃mA,h.Ns1 a mA/\∀f,RelO (fs.lookup f) (mA f)
 | .rng lo hi=> ∃t u v,h.get? a=some {cls:= .type "range",data:= .fields #[.int lo t, .int hi u, .int 1 v]}
 | .frz o u=>h.get? a=some o/\J7 H h a u
 | .tbl ps=>h.get? a=some {cls:= .none,data:= .fields ps}
 | .met f x=>h.get? a=some (W.methodObj (.ref f) (.ref x))
 | .ext φ=>φ h/\(∃o,h.get? a=some o)/\∀h1 h2:Heap,φ h1->(∀o,h1.get? a=some o->h2.get? a=some o)->φ h2
def HOk(H:Hp)(h:Heap):Prop:= ∀a o,H a=some o->J7 P w H h a o
end
section
variable{P:Program}{w:World}{H H':Hp}{h h':Heap}{a:Addr}{o:HO}
theorem J7.lt(x:J7 P w H h a o):a<h.objs.size:=by
 cases o with
 |lst xs=>obtain⟨_,_,_,_,e⟩:=x;exact Heap.lt_size e
 |tup xs=>obtain⟨_,_,_,p⟩:=x;exact p.lt
 |dK kvs=>obtain⟨_,_,_,_,o,_,_,e,_⟩:=x;exact Heap.lt_size e
 |dT kvs=>obtain⟨_,_,_,_,o,_,_,e,_⟩:=x;exact Heap.lt_size e
 |set S n=>obtain⟨o,_,_,_,e,_⟩:=x;exact Heap.lt_size e
 |ins C dx fs=>obtain⟨_,_,_,e,_⟩:=x;exact Heap.lt_size e
 |own y=>obtain⟨_,e⟩:=x;exact Heap.lt_size e
 |xd fs=>obtain⟨_,⟨_,_,_,e,_⟩,_⟩:=x;exact Heap.lt_size e
 |rng lo hi=>obtain⟨_,_,_,e⟩:=x;exact Heap.lt_size e
 |frz ob u=>obtain⟨e,_⟩:=x;exact Heap.lt_size e
 |tbl ps=>exact Heap.lt_size (show h.get? a=some _ from x)
 |met f y=>exact Heap.lt_size (show h.get? a=some _ from x)
 |ext φ=>obtain⟨_,⟨_,e⟩,_⟩:=x;exact Heap.lt_size e
theorem J7.stay(x:J7 P w H h a o)(k: ∀b u,(b=a\/H b=some (.own a))->h.get? b=some u->h'.get? b=some u)
 (ho: ∀b,H b=some (.own a)->H' b=some (.own a)) (ht: ∀b xs,H b=some (.tup xs)->H' b=some (.tup xs)):J7 P w H' h' a o:=by
 induction o with
 |lst xs=>obtain⟨z,its,n,r,e⟩:=x;exact⟨z,its,n,r,k _ _ (.inl rfl) e⟩
 |tup xs=>obtain⟨z,its,r,ob,e,c⟩:=x;exact⟨z,its,r,ob,k _ _ (.inl rfl) e,c⟩
 |dK kvs=>obtain⟨z,y,vs,r,ob,es,ep,e,c⟩:=x;exact⟨z,y,vs,r,ob,es,ep,k _ _ (.inl rfl) e,c⟩
 |dT kvs=>
  obtain⟨z,y,xs,r,ob,es,ep,e,c⟩:=x
  exact⟨z,y,xs,Paired.mapP r λp q z=>⟨z.1,z.2.1.stay ht,z.2.2⟩,ob,es,ep,k _ _ (.inl rfl) e,c⟩
 |set S n=>obtain⟨ob,es,ep,t,e,c⟩:=x;exact⟨ob,es,ep,t,k _ _ (.inl rfl) e,c⟩
 |ins C dx fs=>
  obtain⟨d,z,ne,e,mA,⟨od,es,ep,e2,c⟩,r⟩:=x
  exact⟨ho _ d,z,ne,k _ _ (.inl rfl) e,mA,⟨od,es,ep,k _ _ (.inr d) e2,c⟩,r⟩
 |own y=>obtain⟨ob,e⟩:=x;exact⟨ob,k _ _ (.inl rfl) e⟩
 |xd fs=>obtain⟨mA,⟨od,es,ep,e,c⟩,r⟩:=x;exact⟨mA,⟨od,es,ep,k _ _ (.inl rfl) e,c⟩,r⟩
 |rng lo hi=>obtain⟨t,u,v,e⟩:=x;exact⟨t,u,v,k _ _ (.inl rfl) e⟩
 |frz ob u ih=>obtain⟨e,q⟩:=x;exact⟨k _ _ (.inl rfl) e,ih q⟩
 |tbl ps=>
  have e:h.get? a=some {cls:= .none,data:= .fields ps}:=x
  show h'.get? a=some {cls:= .none,data:= .fields ps}
  exact k a _ (.inl rfl) e
 |met f y=>
  have e:h.get? a=some (W.methodObj (.ref f) (.ref y)):=x
  show h'.get? a=some (W.methodObj (.ref f) (.ref y))
  exact k a _ (.inl rfl) e
 |ext φ=>obtain⟨p,⟨o,e⟩,st⟩:=x;exact⟨st _ _ p λo q=>k _ _ (.inl rfl) q,⟨o,k _ _ (.inl rfl) e⟩,st⟩
theorem HOk.lt(x:HOk P w H h)(e:H a=some o):a<h.objs.size:=(x a o e).lt
theorem HOk.fresh(x:HOk P w H h)(e:h.objs.size<=a):H a=none:=by
 cases q:H a with
 |none=>rfl
 |some u=>exact absurd (i4 (x.lt q) e) (C7 _)
theorem HOk.kept(x:HOk P w H h)(k: ∀b u,h.get? b=some u->h'.get? b=some u):HOk P w H h':=λa o e=>
 (x a o e).stay (λb u _ q=>k b u q) (λ_ q=>q) λ_ _ q=>q
theorem HOk.laid(x:HOk P w H h)(k: ∀b u,h.get? b=some u->h'.get? b=some u)(hp:h.objs.size<=a)(new:J7 P w (upd H a o) h' a o):HOk P w (upd H a o) h':=λb u e=>by
 have hn:=x.fresh hp
 by_cases hb:b=a
 .subst hb;rw[Z1] at e;cases e;exact new
 .rw[y4 hb] at e
  exact(x b u e).stay (λc v _ q=>k c v q) (λc q=>by rw[y4 (Q3 q hn)];exact q) λc xs q=>by rw[y4 (Q3 q hn)];exact q
end
def Rd(H:Hp)(a:Addr)(u:HO):Prop:=H a=some u\/∃o,H a=some (.frz o u)
theorem Rd.ok{P:Program}{w:World}{H:Hp}{h:Heap}{a:Addr}{u:HO}(r:Rd H a u)(x:HOk P w H h):J7 P w H h a u:=by
 rcases r with r|⟨o,r⟩
 .exact x a u r
 .obtain⟨_,q⟩:=x a _ r
  exact q
def Mut:Option HO->Prop
 |some (.lst _)=>True
 |some (.dK _)=>True
 |some (.dT _)=>True
 |some (.set _ _)=>True
 |some (.ins _ _ _)=>True
 |some (.ext _)=>True
 |_=>False
section
variable{P:Program}{w:World}{H:Hp}{h h':Heap}{x e:Addr}{o':HO}
theorem HOk.write(ok:HOk P w H h)(mu:Mut (H x))(he:e=x\/H e=some (.own x))(k: ∀b u,b≠e->h.get? b=some u->h'.get? b=some u)(heo: ∃u,h'.get? e=some u)
 (new:J7 P w (upd H x o') h' x o'):HOk P w (upd H x o') h':=λb u q=>by
 have nown: ∀c y,H c=some (.own y)->c≠x:=λc y r z=>by subst z;rw[r] at mu;exact mu
 have ntup: ∀c xs,H c=some (.tup xs)->c≠x:=λc xs r z=>by subst z;rw[r] at mu;exact mu
 by_cases hb:b=x
 .subst hb;rw[Z1] at q;cases q;exact new
 .rw[y4 hb] at q
  by_cases hbe:b=e
  .have q':H b=some (.own x):=by
    rcases he with z|z
    .exact absurd (hbe.trans z) hb
    .rw[hbe];exact z
   rw[q] at q';cases q'
   obtain⟨v,hv⟩:=heo
   exact⟨v,by rw[hbe];exact hv⟩
  .refine(ok b u q).stay (λc v hc r=>k c v ?_ r) (λc r=>by rw[y4 (nown c b r)];exact r) λc xs r=>by rw[y4 (ntup c xs r)];exact r
   rcases hc with rfl|hc
   .exact hbe
   .rintro rfl
    rcases he with z|z
    .exact nown c b hc z
    .rw[hc] at z;cases z;exact hb rfl
end
structure Un(fs ex:List Addr)(H H':Hp)(h h':Heap):Prop where
 keep: ∀b o,h.get? b=some o->H b=none->b∉fs->b∉ex->h'.get? b=some o
 slot: ∀b o,h.get? b=some o->H b=none->b∈fs->b∉ex->∃sl,h'.get? b=some {o with slots:=sl}
 free: ∀b o,h.get? b=some o->H b=none->b∉ex->H' b=none
 there: ∀b o,h.get? b=some o->b∉ex->∃o',h'.get? b=some o'
 tups: ∀b xs,H b=some (.tup xs)->H' b=some (.tup xs)
 frzs: ∀b o u,H b=some (.frz o u)->H' b=some (.frz o u)
 tbls: ∀b ps,H b=some (.tbl ps)->∃more,H' b=some (.tbl (ps++more))
section
variable{fs fs' ex ex':List Addr}{H H1 H2:Hp}{h h1 h2 h':Heap}{a x e:Addr}{o:HO}
theorem Un.any(u:Un fs ex H H1 h h1){b:Addr}{ob:Obj}(q:h.get? b=some ob)(n:H b=none)(hx:b∉ex): ∃sl,h1.get? b=some {ob with slots:=sl}:=by
 by_cases hb:b∈fs
 .exact u.slot b ob q n hb hx
 .exact⟨ob.slots,u.keep b ob q n hb hx⟩
theorem Un.kept(k: ∀b u,h.get? b=some u->h'.get? b=some u):Un fs ex H H h h':=
 ⟨λb ob q _ _ _=>k b ob q,λb ob q _ _ _=>⟨ob.slots,k b ob q⟩,λ_ _ _ n _=>n,λb ob q _=>⟨ob,k b ob q⟩,λ_ _ q=>q,λ_ _ _ q=>q,λ_ ps q=>⟨#[],by rw[q];simp⟩⟩
theorem Un.refl:Un fs ex H H h h:=Un.kept λ_ _ q=>q
theorem Un.laid(k: ∀b u,h.get? b=some u->h'.get? b=some u)(hp:h.objs.size<=a)(hn:H a=none):Un fs ex H (upd H a o) h h' where
 keep:=λb u q _ _ _=>k b u q
 slot:=λb u q _ _ _=>⟨u.slots,k b u q⟩
 free:=λb u q n _=>by rw[y4 (l8 (i4 (Heap.lt_size q) hp))];exact n
 there:=λb u q _=>⟨u,k b u q⟩
 tups:=λb xs q=>by rw[y4 (Q3 q hn)];exact q
 frzs:=λb u xs q=>by rw[y4 (Q3 q hn)];exact q
 tbls:=λb ps q=>⟨#[],by rw[y4 (Q3 q hn),q];simp⟩
theorem Un.write(mu:Mut (H x))(he:e=x\/H e=some (.own x))(k: ∀b u,b≠e->h.get? b=some u->h'.get? b=some u)(heo: ∃u,h'.get? e=some u):Un fs ex H (upd H x o) h h':=by
 have hx: ∀b,H b=none->b≠x:=λb n z=>by subst z;rw[n] at mu;exact mu
 have hb: ∀b,H b=none->b≠e:=λb n z=>by
  subst z
  rcases he with r|r
  .exact hx b n r
  .rw[n] at r;cases r
 have hm: ∀b u,H b=some u->¬Mut (some u)->b≠x:=λb u q nm z=>by subst z;rw[q] at mu;exact nm mu
 refine⟨λb u q n _ _=>k b u (hb b n) q,λb u q n _ _=>⟨u.slots,k b u (hb b n) q⟩,λb u q n _=>by rw[y4 (hx b n)];exact n,λb u q _=> ?_,
  λb xs q=>by rw[y4 (hm b _ q λz=>z)];exact q,λb u xs q=>by rw[y4 (hm b _ q λz=>z)];exact q,λb ps q=>⟨#[],by rw[y4 (hm b _ q λz=>z),q];simp⟩⟩
 by_cases hbe:b=e
 .subst hbe;exact heo
 .exact⟨u,k b u hbe q⟩
end
def trk(h:Heap)(H:Hp):List Addr:=(C1 h.objs.size).filter λa=>(H a).isSome
def z9C(h:Heap)(H:Hp):Heap:=W.hideAll h (trk h H)
theorem z7G(h:Heap)(H:Hp):(z9C h H).objs.size=h.objs.size:=W.hideAll_size _ _
theorem z9D{h:Heap}{H:Hp}{b:Addr}{o:Obj}(e:h.get? b=some o)(n:H b=none):(z9C h H).get? b=some o:=
 W.hideAll_get _ e λhm=>by
  have q:(H b).isSome=true:=(F0.mp hm).2
  rw[n] at q;simp at q
theorem zc5{h:Heap}{H:Hp}{b:Addr}{o:Obj}(e:(z9C h H).get? b=some o):h.get? b=some o/\H b=none:=by
 have e':h.get? b=some o:=W.of_hideAll (trk h H) e
 refine⟨e', ?_⟩
 cases q:H b with
 |none=>rfl
 |some x=>
  have hm:b∈trk h H:=F0.mpr ⟨P4.mpr (Heap.lt_size e'),by simp[q]⟩
  have z:(z9C h H).get? b=none:=W.hideAll_none (trk h H) hm
  rw[z] at e;cases e
def zc6(g h:Heap)(L:Addr):List (Addr×Obj):=(C1 h.objs.size).filterMap λa=>if a=L\/(g.get? a).isSome=true then none else(h.get? a).map λo=>(a,o)
def rest(g h:Heap)(L d:Addr):List (Addr×Obj):=(zc6 g h L).filter λp=>decide (p.1≠d)
structure Mod(K:W.Frag)(mg:Str->Option Value)(base:Heap):Prop where
 kin:K.In base
 glob:base.Ns mainGlobals mg
 blt: ∃mb,base.Ns builtinsNs mb/\∀x:Str,x≠ "__name__" ->mb x=bootBuiltins x
 nolimit:base.NoLimit
structure Cx where
 prog:Program
 w:World
 K:W.Frag
 mg:Str->Option Value
 base:Heap
 A:Around
 N:List Str
 s₀:Shared
 H₀:Hp
 env:Env
 outer:List Env
 stack:List Env
 ex:List Addr
 fn:Str->Bool
 calm:Bool
 pn:List (Addr×Obj)
 xe:Value->Shared->Prop
def frs(l:List Env):List Addr:=l.filterMap (·.frame)
abbrev Cx.fs(X:Cx):List Addr:=frs X.outer
def Vis(sc:Scope)(x:Str):Prop:=sc.names.lookup x=some .local\/sc.names.lookup x=some .cell\/sc.names.lookup x=some .free
def Loc(sc:Scope)(x:Str):Prop:=sc.names.lookup x=some .local\/sc.names.lookup x=some .cell
def zjO(env:Env)(h:Heap)(m:Str->Option Value)(x:Str)(u:Value):Prop:=
 (env.kindOf x=some .local/\m x=some u)\/((env.kindOf x=some .cell\/env.kindOf x=some .free)/\∃c,env.cells.lookup x=some c/\h.IsCell c (some u))
structure Cx.Ok(X:Cx):Prop where
 mod:Mod X.K X.mg X.base
 kind:X.env.scope.kind= .function
 glob:X.env.globals=mainGlobals
 blt:X.env.builtins=builtinsNs
 above:X.s₀.heap.objs.size<=X.env.locals
 inj: ∀x y c,X.env.cells.lookup x=some c->X.env.cells.lookup y=some c->x=y
 has: ∀x,(X.env.kindOf x=some .cell\/X.env.kindOf x=some .free)->∃c,X.env.cells.lookup x=some c
 cab: ∀x c,X.fn x=true->X.env.cells.lookup x=some c->X.s₀.heap.objs.size<=c
 hd:X.calm=true->X.A.handled=none
 frames:X.A.frames=some X.stack
 stk:X.stack=X.outer\/(X.stack=X.env::X.outer/\X.env.frame=some X.env.locals)
 exf: ∀b∈X.ex,b≠X.env.locals/\∀x c,X.env.cells.lookup x=some c->c≠b
 bs: ∀b o,X.base.get? b=some o->X.s₀.heap.get? b=some o/\X.H₀ b=none
 bsz:X.base.objs.size<=X.s₀.heap.objs.size
 noex: ∀b o,X.base.get? b=some o->b∉X.ex
 exfs: ∀b∈X.ex,b∉X.fs
 funs:X.s₀.heap.FunFrames X.base X.outer
 frf: ∀b∈X.fs,X.H₀ b=none
structure Inv(X:Cx)(pins:List (Addr×Obj))(σ:List (Option V))(H:Hp)(s:Shared):Prop where
 ok:X.Ok
 os:s.os=X.s₀.os
 bare:AllBare s.gens
 base:Un X.fs X.ex X.H₀ H X.s₀.heap s.heap
 loc: ∃m,s.heap.Ns X.env.locals m/\∀(i:Nat) (x:Str) (v:V),X.N[i]? =some x->σ[i]? =some (some v)->Vis X.env.scope x->∃u,RelV v u/\zjO X.env s.heap m x u
 cell: ∀x c,X.env.cells.lookup x=some c->∃v,s.heap.IsCell c v
 free:H X.env.locals=none
 freeC: ∀x c,X.env.cells.lookup x=some c->H c=none
 pin: ∀p∈X.pn++pins,s.heap.get? p.1=some p.2/\H p.1=none/\p.1≠X.env.locals/\p.1∉X.fs/\∀v,p.2.data≠ .cell v
 hok:HOk X.prog X.w H s.heap
 len:σ.length=X.N.length
section
variable{X:Cx}{pins:List (Addr×Obj)}{σ:List (Option V)}{H H':Hp}{s:Shared}{h':Heap}
theorem Cx.Ok.nofr(ok:X.Ok){b:Addr}{o:Obj}(e:X.base.get? b=some o):b∉X.fs:=λhb=>by
 have:=(ok.funs.mem hb).1
 rw[e] at this;cases this
theorem Inv.bs(I:Inv X pins σ H s): ∀b o,X.base.get? b=some o->s.heap.get? b=some o/\H b=none:=λb o e=>
 ⟨I.base.keep b o (I.ok.bs b o e).1 (I.ok.bs b o e).2 (I.ok.nofr e) (I.ok.noex b o e),I.base.free b o (I.ok.bs b o e).1 (I.ok.bs b o e).2 (I.ok.noex b o e)⟩
theorem Inv.bk(I:Inv X pins σ H s): ∀b o,X.base.get? b=some o->s.heap.get? b=some o:=λb o e=>(I.bs b o e).1
theorem Inv.mod(I:Inv X pins σ H s):Mod X.K X.mg X.base:=I.ok.mod
theorem Inv.kIn(I:Inv X pins σ H s):X.K.In s.heap:=I.ok.mod.kin.keeps I.bk
theorem Inv.lt(I:Inv X pins σ H s):X.env.locals<s.heap.objs.size:=let⟨_,hn,_⟩:=I.loc;hn.lt
theorem Inv.sz(I:Inv X pins σ H s):X.s₀.heap.objs.size<=s.heap.objs.size:=n9 I.ok.above (N7 I.lt)
theorem Inv.nofs(I:Inv X pins σ H s){a:Addr}(h:s.heap.objs.size<=a):a∉X.fs:=λhb=>by
 obtain⟨_,o,ho,_⟩:=I.ok.funs.mem hb
 exact absurd (i4 (Heap.lt_size ho) (n9 I.sz h)) (C7 _)
theorem Inv.cne(I:Inv X pins σ H s): ∀x c,X.env.cells.lookup x=some c->c≠X.env.locals:=λx c e z=>by
 obtain⟨v,o,ho,hd⟩:=I.cell x c e
 obtain⟨m,⟨o',es,ep,ho',hd',_⟩,_⟩:=I.loc
 rw[z,ho'] at ho;cases ho;rw[hd'] at hd;cases hd
theorem Inv.funs(I:Inv X pins σ H s):s.heap.FunFrames X.base X.outer:=by
 have all: ∀(l:List Env),(∀b∈frs l,b∈X.fs)->X.s₀.heap.FunFrames X.base l->s.heap.FunFrames X.base l:=by
  intro l
  induction l with
  |nil=>intro _ _;trivial
  |cons env r ih=>
   intro hs hl
   obtain⟨hk,⟨L,o,hf,hn,ho,hd⟩,hr⟩:=hl
   have hL:L∈X.fs:=hs L (by unfold frs;rw[F3,hf];exact e9)
   obtain⟨sl,e⟩:=I.base.slot L o ho (I.ok.frf L hL) hL λz=>I.ok.exfs L z hL
   exact⟨hk,⟨L,_,hf,hn,e,hd⟩,ih (λb hb=>hs b (by unfold frs;rw[F3,hf];exact b7 _ hb)) hr⟩
 exact all X.outer (λ_ hb=>hb) I.ok.funs
theorem Inv.stack(I:Inv X pins σ H s):s.heap.FunFrames X.base X.stack:=by
 rcases I.ok.stk with e|⟨e,hf⟩
 .rw[e];exact I.funs
 .rw[e]
  obtain⟨m,hn,_⟩:=I.loc
  refine .cons (by rw[I.ok.kind];decide) hf hn ?_ I.funs
  exact Heap.get?_none_of_le (n9 I.ok.bsz I.ok.above)
theorem Inv.stkSub(I:Inv X pins σ H s): ∀b∈frs X.stack,b∈X.env.locals::X.fs:=λb hb=>by
 rcases I.ok.stk with e|⟨e,hf⟩
 .rw[e] at hb;exact b7 _ hb
 .rw[e] at hb
  unfold frs at hb
  rw[F3,hf] at hb
  exact hb
theorem Inv.stkFree(I:Inv X pins σ H s): ∀b∈frs X.stack,H b=none:=λb hb=>by
 rcases c9.mp (I.stkSub b hb) with e|hb
 .rw[e];exact I.free
 .obtain⟨_,o,ho,_⟩:=I.ok.funs.mem hb
  exact I.base.free b o ho (I.ok.frf b hb) λz=>I.ok.exfs b z hb
theorem Inv.step{g':Array GenState}{t':Nat}{d':Drawn}{ch:List Addr}(I:Inv X pins σ H s)
 (hch: ∀b∈ch,(b∈X.ex\/X.s₀.heap.objs.size<=b)/\b≠X.env.locals/\(∀x c,X.env.cells.lookup x=some c->c≠b)/\∀p∈X.pn++pins,p.1≠b)
 (keep: ∀b o,b≠X.env.locals->b∉X.fs->b∉ch->s.heap.get? b=some o->H b=none->h'.get? b=some o)
 (slot: ∀b o,b≠X.env.locals->b∈X.fs->b∉ch->s.heap.get? b=some o->H b=none->∃sl,h'.get? b=some {o with slots:=sl}) (free: ∀b o,b∉ch->s.heap.get? b=some o->H b=none->H' b=none)
 (there: ∀b o,b∉ch->s.heap.get? b=some o->∃o',h'.get? b=some o')
 (tups: ∀b xs,H b=some (.tup xs)->H' b=some (.tup xs)) (frzs: ∀b o u,H b=some (.frz o u)->H' b=some (.frz o u)) (tbls: ∀b ps,H b=some (.tbl ps)->∃more,H' b=some (.tbl (ps++more)))
 (ns: ∀m,s.heap.Ns X.env.locals m->h'.Ns X.env.locals m) (hok:HOk X.prog X.w H' h') (hg:AllBare g'):
 Inv X pins σ H' {s with heap:=h',gens:=g',drawn:=d',toks:=t'}:=by
 have neL: ∀b o,X.s₀.heap.get? b=some o->b≠X.env.locals:=λb o e=>l8 (i4 (Heap.lt_size e) I.ok.above)
 have neC: ∀b o,X.s₀.heap.get? b=some o->b∉X.ex->b∉ch:=λb o e hx hb=>by
  rcases(hch b hb).1 with z|z
  .exact hx z
  .exact absurd (i4 (Heap.lt_size e) z) (C7 _)
 have cellK: ∀x c,X.env.cells.lookup x=some c->∀v,s.heap.IsCell c v->h'.IsCell c v:=λx c e v ⟨o,ho,hd⟩=>by
  have nch:c∉ch:=λz=>(hch c z).2.2.1 x c e rfl
  by_cases hc:c∈X.fs
  .obtain⟨sl,q⟩:=slot c o (I.cne x c e) hc nch ho (I.freeC x c e)
   exact⟨_,q,hd⟩
  .exact⟨o,keep c o (I.cne x c e) hc nch ho (I.freeC x c e),hd⟩
 refine⟨I.ok,I.os,hg,⟨λb o e n hb hx=> ?_,λb o e n hb hx=> ?_,λb o e n hx=> ?_,λb o e hx=> ?_,λb xs e=>tups b xs (I.base.tups b xs e),λb o xs e=>frzs b o xs (I.base.frzs b o xs e),λb ps e=> ?_⟩, ?_,λx c e=> ?_, ?_,λx c e=> ?_,λp hp=> ?_,hok,I.len⟩
 .exact keep b o (neL b o e) hb (neC b o e hx) (I.base.keep b o e n hb hx) (I.base.free b o e n hx)
 .obtain⟨sl,e1⟩:=I.base.slot b o e n hb hx
  obtain⟨sl',e2⟩:=slot b _ (neL b o e) hb (neC b o e hx) e1 (I.base.free b o e n hx)
  exact⟨sl',e2⟩
 .obtain⟨o',e1⟩:=I.base.there b o e hx
  exact free b o' (neC b o e hx) e1 (I.base.free b o e n hx)
 .obtain⟨o',e1⟩:=I.base.there b o e hx
  exact there b o' (neC b o e hx) e1
 .obtain⟨m1,e1⟩:=I.base.tbls b ps e
  obtain⟨m2,e2⟩:=tbls b _ e1
  exact⟨m1++m2,by rw[e2,Array.append_assoc]⟩
 .obtain⟨m,hn,hl⟩:=I.loc
  refine⟨m,ns m hn,λi x v e1 e2 e3=> ?_⟩
  obtain⟨u,r,l⟩:=hl i x v e1 e2 e3
  refine⟨u,r, ?_⟩
  rcases l with l|⟨k,c,e,z⟩
  .exact .inl l
  .exact .inr ⟨k,c,e,cellK x c e _ z⟩
 .obtain⟨v,z⟩:=I.cell x c e
  exact⟨v,cellK x c e v z⟩
 .obtain⟨m,⟨o,_,_,ho,_⟩,_⟩:=I.loc
  exact free _ o (λz=>(hch _ z).2.1 rfl) ho I.free
 .obtain⟨v,o,ho,hd⟩:=I.cell x c e
  exact free c o (λz=>(hch c z).2.2.1 x c e rfl) ho (I.freeC x c e)
 .obtain⟨e,n,ne,nf,d⟩:=I.pin p hp
  have nch:p.1∉ch:=λz=>(hch p.1 z).2.2.2 p hp rfl
  exact⟨keep p.1 p.2 ne nf nch e n,free p.1 p.2 nch e n,ne,nf,d⟩
theorem Inv.un{t':Nat}(I:Inv X pins σ H s)(u:Un X.fs [] H H' s.heap h')(hok:HOk X.prog X.w H' h'):Inv X pins σ H' {s with heap:=h',toks:=t'}:=by
 obtain⟨m,⟨o,es,ep,ho,r⟩,_⟩:=id I.loc
 obtain⟨sl,hL⟩:=u.any ho I.free (by simp)
 exact I.step (g':=s.gens) (d':=s.drawn) (ch:=[]) (λ_ z=>nomatch z) (λb o _ hb _ e n=>u.keep b o e n hb (by simp)) (λb o _ hb _ e n=>u.slot b o e n hb (by simp)) (λb o _ e n=>u.free b o e n (by simp)) (λb o _ e=>u.there b o e (by simp)) u.tups u.frzs u.tbls (λm' hm=>by
  obtain⟨o',es',ep',ho',r'⟩:=hm
  rw[ho] at ho';cases ho'
  exact⟨_,es',ep',hL,r'⟩) hok I.bare
theorem Inv.call{g':Array GenState}{t':Nat}{d':Drawn}{ch:List Addr}(I:Inv X pins σ H s)(u:Un (frs X.stack) ch H H' s.heap h')(hok:HOk X.prog X.w H' h')(hg:AllBare g')
 (hch: ∀b∈ch,(b∈X.ex\/X.s₀.heap.objs.size<=b)/\b≠X.env.locals/\(∀x c,X.env.cells.lookup x=some c->c≠b)/\∀p∈X.pn++pins,p.1≠b):
 Inv X pins σ H' {s with heap:=h',gens:=g',drawn:=d',toks:=t'}:=by
 obtain⟨m,⟨o,es,ep,ho,r⟩,_⟩:=id I.loc
 obtain⟨sl,hL⟩:=u.any ho I.free λz=>(hch _ z).2.1 rfl
 exact I.step (ch:=ch) hch (λb o hL hb hc e n=>u.keep b o e n (λz=>(c9.mp (I.stkSub b z)).elim hL hb) hc) (λb o _ _ hc e n=>u.any e n hc) (λb o hc e n=>u.free b o e n hc) (λb o hc e=>u.there b o e hc) u.tups u.frzs u.tbls (λm' hm=>by
  obtain⟨o',es',ep',ho',r'⟩:=hm
  rw[ho] at ho';cases ho'
  exact⟨_,es',ep',hL,r'⟩) hok hg
theorem Inv.turned{t':Nat}{it:Addr}(I:Inv X pins σ H s)(k: ∀b o,b≠it->s.heap.get? b=some o->h'.get? b=some o)(hn:H it=none)(hL:it≠X.env.locals)
 (h1:it∈X.ex\/X.s₀.heap.objs.size<=it) (h2: ∀x c,X.env.cells.lookup x=some c->c≠it) (h3: ∀p∈X.pn++pins,p.1≠it):Inv X pins σ H {s with heap:=h',toks:=t'}:=by
 have nit: ∀b u,H b=some u->b≠it:=λb u e z=>by rw[z,hn] at e;cases e
 refine I.step (g':=s.gens) (d':=s.drawn) (ch:=[it]) (λb hb=> ?_) (λb o _ _ hc e _=>k b o (λz=>hc (by simp[z])) e) (λb o _ _ hc e _=>⟨o.slots,k b o (λz=>hc (by simp[z])) e⟩) (λ_ _ _ _ n=>n)
  (λb o hc e=>⟨o,k b o (λz=>hc (by simp[z])) e⟩) (λ_ _ e=>e) (λ_ _ _ e=>e) (λb ps e=>⟨#[],by rw[e];simp⟩) (λm hm=> ?_) (λb u e=> ?_) I.bare
 .have e:b=it:=by simpa using hb
  subst e
  exact⟨h1,hL,h2,h3⟩
 .obtain⟨o,es,ep,ho,r⟩:=hm
  exact⟨o,es,ep,k _ o (Ne.symm hL) ho,r⟩
 .refine(I.hok b u e).stay (λc v hc q=>k c v ?_ q) (λ_ q=>q) λ_ _ q=>q
  rcases hc with z|z
  .rw[z];exact nit b u e
  .exact nit c _ z
theorem Inv.tok(I:Inv X pins σ H s)(t:Nat):Inv X pins σ H {s with toks:=t}:=I.un (h':=s.heap) (t':=t) Un.refl I.hok
theorem Inv.kept{t':Nat}(I:Inv X pins σ H s)(k: ∀b u,s.heap.get? b=some u->h'.get? b=some u):Inv X pins σ H {s with heap:=h',toks:=t'}:=I.un (Un.kept k) (I.hok.kept k)
theorem Inv.laid{a:Addr}{o:HO}{t':Nat}(I:Inv X pins σ H s)(k: ∀b u,s.heap.get? b=some u->h'.get? b=some u)(hp:s.heap.objs.size<=a)(new:J7 X.prog X.w (upd H a o) h' a o):
 Inv X pins σ (upd H a o) {s with heap:=h',toks:=t'}:=I.un (Un.laid k hp (I.hok.fresh hp)) (I.hok.laid k hp new)
theorem Inv.write{x e:Addr}{o:HO}{t':Nat}(I:Inv X pins σ H s)(mu:Mut (H x))(he:e=x\/H e=some (.own x))(k: ∀b u,b≠e->s.heap.get? b=some u->h'.get? b=some u)(heo: ∃u,h'.get? e=some u)
 (new:J7 X.prog X.w (upd H x o) h' x o):Inv X pins σ (upd H x o) {s with heap:=h',toks:=t'}:=I.un (Un.write mu he k heo) (I.hok.write mu he k heo new)
theorem Inv.pins_of{pins':List (Addr×Obj)}(I:Inv X pins σ H s)(h: ∀p∈pins',s.heap.get? p.1=some p.2/\H p.1=none/\p.1≠X.env.locals/\p.1∉X.fs/\∀v,p.2.data≠ .cell v):Inv X pins' σ H s:=
 ⟨I.ok,I.os,I.bare,I.base,I.loc,I.cell,I.free,I.freeC,λp hp=>(c7.mp hp).elim (λz=>I.pin p (b8 _ z)) (h p),I.hok,I.len⟩
theorem z5X{N:List Str}(hN:N.Nodup){i j:Nat}{x:Str}(a:N[i]? =some x)(b:N[j]? =some x):i=j:=by
 obtain⟨h1,e1⟩:=List.getElem?_eq_some_iff.mp a
 obtain⟨h2,e2⟩:=List.getElem?_eq_some_iff.mp b
 exact(List.getElem_inj hN).mp (e1.trans e2.symm)
theorem z7H{M:Model}{A:Around}{E:Value->Shared->Prop}{i:Nat}{x:Str}{v:V}{u:Value}{Q:Unit->Shared->Prop}(I:Inv X pins σ H s)(hN:X.N.Nodup)(hi:X.N[i]? =some x)(hx:Loc X.env.scope x)(r:RelV v u)
 (h: ∀s',Inv X pins (σ.set i (some v)) H s'->(∃a,Heap.SameBut a s.heap s'.heap/\(a=X.env.locals\/X.env.cells.lookup x=some a))->Q () s') (hf:X.fn x=true\/X.env.scope.names.lookup x=some .local:=by first|exact .inl rfl|exact .inr rfl|assumption):wpAny M A (storeName X.env x u) Q E s:=by
 obtain⟨m,hn,hl⟩:=id I.loc
 have hcls:(X.env.scope.kind== .class||(X.env.scope.kind== .module&&X.env.locals !=X.env.globals))=false:=by rw[I.ok.kind];rfl
 have hiσ:i<σ.length:=by rw[I.len];exact(List.getElem?_eq_some_iff.mp hi).1
 have cne:=I.cne
 have tracked: ∀{a:Addr} {h':Heap},(∃o,s.heap.get? a=some o/\H a=none)->Heap.SameBut a s.heap h'->HOk X.prog X.w H h':=λ{a h'} ha hs b ob e=>by
  obtain⟨_,_,hfree⟩:=ha
  refine(I.hok b ob e).stay (λc w' hc q=>(hs.2 c ?_).trans q) (λ_ q=>q) λ_ _ q=>q
  rintro rfl
  rcases hc with rfl|hc
  .rw[hfree] at e;cases e
  .rw[hfree] at hc;cases hc
 rcases hx with hk|hk
 .refine wpAny_storeName_local hk hn (λh' hn' hs=> ?_) hcls
  obtain⟨oL,_,_,hoL,_⟩:=id hn
  refine h _ ⟨I.ok,I.os,I.bare,⟨λb o e n hb hx=> ?_,λb o e n hb hx=> ?_,I.base.free,λb o e hx=> ?_,I.base.tups,I.base.frzs,I.base.tbls⟩,⟨_,hn',λj y v' e1 e2 e3=> ?_⟩,λy c e=> ?_,I.free,I.freeC,λp hp=> ?_,tracked ⟨oL,hoL,I.free⟩ hs,by simpa using I.len⟩ ⟨_,hs, .inl rfl⟩
  .exact(hs.2 b (l8 (i4 (Heap.lt_size e) I.ok.above))).trans (I.base.keep b o e n hb hx)
  .obtain⟨sl,e1⟩:=I.base.slot b o e n hb hx
   exact⟨sl,(hs.2 b (l8 (i4 (Heap.lt_size e) I.ok.above))).trans e1⟩
  .obtain⟨o',e1⟩:=I.base.there b o e hx
   exact⟨o',(hs.2 b (l8 (i4 (Heap.lt_size e) I.ok.above))).trans e1⟩
  .by_cases hj:j=i
   .subst hj
    rw[hi] at e1;cases e1
    rw[List.getElem?_set_self hiσ] at e2
    cases e2
    exact⟨u,r, .inl ⟨hk,by simp⟩⟩
   .rw[List.getElem?_set_ne (Ne.symm hj)] at e2
    obtain⟨u',r',q⟩:=hl j y v' e1 e2 e3
    refine⟨u',r', ?_⟩
    rcases q with⟨k,e⟩|⟨k,c,e,z⟩
    .refine .inl ⟨k, ?_⟩
     have:y≠x:=λe=>hj (z5X hN e1 (e▸hi))
     simp[this,e]
    .exact .inr ⟨k,c,e,z.sameBut hs (cne y c e)⟩
  .obtain⟨w',z⟩:=I.cell y c e
   exact⟨w',z.sameBut hs (cne y c e)⟩
  .obtain⟨e,n,ne,nf,d⟩:=I.pin p hp
   exact⟨(hs.2 p.1 ne).trans e,n,ne,nf,d⟩
 .have hfn:X.fn x=true:=by
   rcases hf with z|z
   .exact z
   .rw[z] at hk;cases hk
  obtain⟨c,hc⟩:=I.ok.has x (.inl hk)
  obtain⟨w',z⟩:=I.cell x c hc
  refine wpAny_storeName_cell I.ok.kind hk hc z (λh' hc' hs=> ?_)
  obtain⟨oc,hoc,hocd⟩:=id z
  refine h {s with heap:=h'} ⟨I.ok,I.os,I.bare,⟨λb o e n hb hx=> ?_,λb o e n hb hx=> ?_,I.base.free,λb o e hx=> ?_,I.base.tups,I.base.frzs,I.base.tbls⟩,⟨m,hn.sameBut hs (Ne.symm (cne x c hc)),λj y v' e1 e2 e3=> ?_⟩,λy c' e=> ?_,I.free,I.freeC,λp hp=> ?_,tracked ⟨oc,hoc,I.freeC x c hc⟩ hs,by simpa using I.len⟩ ⟨c,hs, .inr hc⟩
  .exact(hs.2 b (l8 (i4 (Heap.lt_size e) (I.ok.cab x c hfn hc)))).trans (I.base.keep b o e n hb hx)
  .obtain⟨sl,e1⟩:=I.base.slot b o e n hb hx
   exact⟨sl,(hs.2 b (l8 (i4 (Heap.lt_size e) (I.ok.cab x c hfn hc)))).trans e1⟩
  .obtain⟨o',e1⟩:=I.base.there b o e hx
   exact⟨o',(hs.2 b (l8 (i4 (Heap.lt_size e) (I.ok.cab x c hfn hc)))).trans e1⟩
  .by_cases hj:j=i
   .subst hj
    rw[hi] at e1;cases e1
    rw[List.getElem?_set_self hiσ] at e2
    cases e2
    exact⟨u,r, .inr ⟨.inl hk,c,hc,hc'⟩⟩
   .rw[List.getElem?_set_ne (Ne.symm hj)] at e2
    obtain⟨u',r',q⟩:=hl j y v' e1 e2 e3
    refine⟨u',r', ?_⟩
    rcases q with q|⟨k,c',e,z'⟩
    .exact .inl q
    .refine .inr ⟨k,c',e,z'.sameBut hs ?_⟩
     rintro rfl
     exact hj (z5X hN e1 (I.ok.inj _ _ _ e hc▸hi))
  .by_cases hcc:c'=c
   .subst hcc;exact⟨_,hc'⟩
   .obtain⟨w2,z2⟩:=I.cell y c' e
    exact⟨w2,z2.sameBut hs hcc⟩
  .obtain⟨e,n,ne,nf,d⟩:=I.pin p hp
   refine⟨(hs.2 p.1 ?_).trans e,n,ne,nf,d⟩
   intro q
   rw[q,hoc] at e
   have q':oc=p.2:=Option.some.inj e
   exact d w' (by rw[<-q'];exact hocd)
theorem z3h{M:Model}{A:Around}{E:Value->Shared->Prop}{i:Nat}{x:Str}{v:V}{u:Value}{Q:Unit->Shared->Prop}(I:Inv X pins σ H s)(hN:X.N.Nodup)(hi:X.N[i]? =some x)(hx:Loc X.env.scope x)(r:RelV v u)
 (h: ∀s',Inv X pins (σ.set i (some v)) H s'->Q () s') (hf:X.fn x=true\/X.env.scope.names.lookup x=some .local:=by first|exact .inl rfl|exact .inr rfl|assumption):wpAny M A (storeName X.env x u) Q E s:=
 z7H I hN hi hx r (λs' I' _=>h s' I') hf
theorem Inv.call'{s':Shared}{ch:List Addr}(I:Inv X pins σ H s)(ho:s'.os=s.os)(u:Un (frs X.stack) ch H H' s.heap s'.heap)(hok:HOk X.prog X.w H' s'.heap)(hg:AllBare s'.gens)
 (hch: ∀b∈ch,(b∈X.ex\/X.s₀.heap.objs.size<=b)/\b≠X.env.locals/\(∀x c,X.env.cells.lookup x=some c->c≠b)/\∀p∈X.pn++pins,p.1≠b):Inv X pins σ H' s':=by
 obtain⟨h',g',d',t',o'⟩:=s'
 have e:o'=s.os:=ho
 subst e
 exact I.call (g':=g') (t':=t') (d':=d') u hok hg hch
end
abbrev XK:=Value->Option Addr->Hp->Prop
abbrev St:=List (Option V)
abbrev VK:=V->Hp->Prop
abbrev TE:=St->Hp->VK->Prop
abbrev TT:=St->Hp->(Bool->Hp->Prop)->Prop
abbrev TA:=St->Hp->(List V->Hp->Prop)->Prop
structure z45 where
 nx:St->Hp->Prop
 rt:VK
 bk:St->Hp->Prop:=λ_ _=>False
 ct:St->Hp->Prop:=λ_ _=>False
abbrev TS:=z45->St->Hp->Prop
def EP(X:Cx)(pins:List (Addr×Obj))(σ:St)(Q:VK)(u:Value)(s':Shared):Prop:= ∃v H',Inv X pins σ H' s'/\RelV v u/\Q v H'
def TP(X:Cx)(pins:List (Addr×Obj))(σ:St)(Q:Bool->Hp->Prop)(b:Bool)(s':Shared):Prop:= ∃H',Inv X pins σ H' s'/\Q b H'
def AP(X:Cx)(pins:List (Addr×Obj))(σ:St)(Q:List V->Hp->Prop)(us:List Value)(s':Shared):Prop:= ∃vs H',Inv X pins σ H' s'/\W0 vs us/\Q vs H'
def SP(X:Cx)(pins:List (Addr×Obj))(D:z45)(f:Flow)(s':Shared):Prop:=
 match f with
 | .next=> ∃σ' H',Inv X pins σ' H' s'/\D.nx σ' H'
 | .brk=> ∃σ' H',Inv X pins σ' H' s'/\D.bk σ' H'
 | .cont=> ∃σ' H',Inv X pins σ' H' s'/\D.ct σ' H'
 | .ret u=> ∃v σ' H',Inv X pins σ' H' s'/\RelV v u/\D.rt v H'
def PE(X:Cx)(e:Expr)(t:TE):Prop:=
 ∀(pins:List (Addr×Obj)) (s:Shared) (σ:St) (H:Hp) (Q:VK),Inv X pins σ H s->t σ H Q->wpAny (model X.prog X.w) X.A (eval e X.env) (EP X pins σ Q) X.xe s
def PT(X:Cx)(e:Expr)(t:TT):Prop:=
 ∀(pins:List (Addr×Obj)) (s:Shared) (σ:St) (H:Hp) (Q:Bool->Hp->Prop),Inv X pins σ H s->t σ H Q->wpAny (model X.prog X.w) X.A (isTrue e X.env (eval e X.env)) (TP X pins σ Q) X.xe s
def PW(X:Cx)(e:Expr)(t:TT):Prop:=
 ∀(whole:Sem Value) (pins:List (Addr×Obj)) (s:Shared) (σ:St) (H:Hp) (Q:Bool->Hp->Prop),Inv X pins σ H s->t σ H Q->wpAny (model X.prog X.w) X.A (isTrue e X.env whole) (TP X pins σ Q) X.xe s
theorem PW.pt{X:Cx}{e:Expr}{t:TT}(h:PW X e t):PT X e t:=h _
def PA(X:Cx)(es:List Expr)(t:TA):Prop:=
 ∀(pos:Pos) (pins:List (Addr×Obj)) (s:Shared) (σ:St) (H:Hp) (Q:List V->Hp->Prop),Inv X pins σ H s->t σ H Q->wpAny (model X.prog X.w) X.A (spliced (backTo pos (starEach es X.env))) (AP X pins σ Q) X.xe s
def PS(X:Cx)(st:Stmt)(t:TS):Prop:=
 ∀(pins:List (Addr×Obj)) (s:Shared) (σ:St) (H:Hp) (D:z45),Inv X pins σ H s->t D σ H->wpAny (model X.prog X.w) X.A (exec st X.env) (SP X pins D) X.xe s
def PSs(X:Cx)(st:List Stmt)(t:TS):Prop:=
 ∀(pins:List (Addr×Obj)) (s:Shared) (σ:St) (H:Hp) (D:z45),Inv X pins σ H s->t D σ H->wpAny (model X.prog X.w) X.A (execs st X.env) (SP X pins D) X.xe s
theorem thn{α:Type}{t:Sem α}{Q Q':α->Shared->Prop}{M:Model}{A:Around}{E:Value->Shared->Prop}{s:Shared}(h:wpAny M A t Q E s)(hQ: ∀a s,Q a s->Q' a s):wpAny M A t Q' E s:=wpAny_mono h hQ λ_ _ x=>x
section
variable{X:Cx}
def z7I(i:Nat):TE:=λ σ H Q=> ∃v,σ[i]? =some (some v)/\Q v H
def tC(v:V):TE:=λ_ H Q=>Q v H
theorem zen{i:Nat}{x:Str}{pos:Pos}(hN:X.N[i]? =some x)(hv:Vis X.env.scope x)(hd:(x==("__debug__" :Str))=false:=by decide)(hcd:(x==("__classdict__" :Str))=false:=by decide):PE X (.Name x pos) (z7I i):=by
 intro pins s σ H Q I h
 obtain⟨v,e,h⟩:=h
 obtain⟨m,hn,hl⟩:=I.loc
 obtain⟨u,r,l⟩:=hl i x v hN e hv
 have fin:EP X pins σ Q u s:=⟨v,H,I,r,h⟩
 rcases l with⟨hk,hm⟩|⟨hk,c,hc,hcell⟩
 .exact wpAny_Name (wpAny_loadName_local I.ok.kind hk hn hm fin) hd
 .rcases hk with hk|hk
  .exact wpAny_Name (wpAny_loadName_cell I.ok.kind hk hc hcell fin) hd
  .exact wpAny_Name (wpAny_loadName_free I.ok.kind hk hc hcell fin hcd) hd
theorem y0{i j pos}:PE X (.Constant (.int i) j pos) (tC (.int i)):=λ_ _ _ H _ I h=>wpAny_Constant_int ⟨.int i,H,I.tok _,⟨_,rfl⟩,h⟩
theorem V4{b j pos}:PE X (.Constant (.bool b) j pos) (tC (.bl b)):=λ_ _ _ H _ I h=>Constant_bool ⟨.bl b,H,I,rfl,h⟩
theorem z1W{j pos}:PE X (.Constant .none j pos) (tC .non):=λ_ _ _ H _ I h=>Constant_none ⟨.non,H,I,rfl,h⟩
theorem z00{x j pos}:PE X (.Constant (.str x) j pos) (tC (.str x)):=λ_ _ _ H _ I h=>Calls.Constant_str ⟨.str x,H,I.tok _,⟨_,rfl⟩,h⟩
def Gl(X:Cx)(x:Str):Prop:=X.env.kindOf x=some .globalImplicit
theorem z1f{E:Value->Shared->Prop}{pins:List (Addr×Obj)}{s:Shared}{σ:St}{H:Hp}{x:Str}{u:Value}{pos:Pos}{Q:Value->Shared->Prop}(I:Inv X pins σ H s)(hg:Gl X x)(hm:X.mg x=some u)(h:Q u s)
 (hd:(x==("__debug__" :Str))=false:=by decide):wpAny (model X.prog X.w) X.A (eval (.Name x pos) X.env) Q E s:=
 Calls.Name_function_global I.ok.kind hg (Calls.loadGlobal_global (by rw[I.ok.glob];exact I.mod.glob.keeps I.bk) hm h) hd
theorem z5Y{E:Value->Shared->Prop}{pins:List (Addr×Obj)}{s:Shared}{σ:St}{H:Hp}{x:Str}{u:Value}{pos:Pos}{Q:Value->Shared->Prop}(I:Inv X pins σ H s)(hg:Gl X x)(hm:X.mg x=none)(hv:bootBuiltins x=some u)(h:Q u s)
 (hn:x≠ "__name__" :=by decide) (hd:(x==("__debug__" :Str))=false:=by decide):wpAny (model X.prog X.w) X.A (eval (.Name x pos) X.env) Q E s:=by
 obtain⟨mb,h1,h2⟩:=I.mod.blt
 exact Calls.Name_function_global I.ok.kind hg (Calls.loadGlobal_builtin (by rw[I.ok.glob];exact I.mod.glob.keeps I.bk) hm (by rw[I.ok.blt];exact h1.keeps I.bk) ((h2 x hn).trans hv) h) hd
theorem Y1{x:Str}{v:V}{u:Value}{pos:Pos}(hg:Gl X x)(hm:X.mg x=some u)(r:RelV v u)(hd:(x==("__debug__" :Str))=false:=by decide):PE X (.Name x pos) (tC v):=
 λ_ _ _ H _ I h=>z1f I hg hm ⟨v,H,I,r,h⟩ hd
theorem U0{x:Str}{v:V}{u:Value}{pos:Pos}(hg:Gl X x)(hm:X.mg x=none)(hv:bootBuiltins x=some u)(r:RelV v u)(hn:x≠ "__name__" :=by decide)(hd:(x==("__debug__" :Str))=false:=by decide):PE X (.Name x pos) (tC v):=
 λ_ _ _ H _ I h=>z5Y I hg hm hv ⟨v,H,I,r,h⟩ hn hd
variable{a b:Expr}{ta tb:TE}{pos:Pos}
variable{tA tB':TT}{rest:List Expr}
def zjP(t u:TT):TT:=λ σ H Q=>t σ H λc H1=>if c=true then u σ H1 Q else Q false H1
def tOr(t u:TT):TT:=λ σ H Q=>t σ H λc H1=>if c=true then Q true H1 else u σ H1 Q
def zjQ(t:TT):TT:=λ σ H Q=>t σ H λc H1=>Q (!c) H1
theorem zc7(ha:PT X a tA):PW X (.BoolOp .And [a] pos) tA:=by
 intro wh pins s σ H Q I h
 refine isTrue_and (thn (ha pins s σ H Q I h) λc s1 e=> ?_)
 cases c with
 |true=>exact isTrue_and_nil e
 |false=>exact e
theorem zeo(ha:PT X a tA):PW X (.BoolOp .Or [a] pos) tA:=by
 intro wh pins s σ H Q I h
 refine isTrue_or (thn (ha pins s σ H Q I h) λc s1 e=> ?_)
 cases c with
 |false=>exact isTrue_or_nil e
 |true=>exact e
theorem zep(ha:PT X a tA)(hb:PW X (.BoolOp .And (b::rest) pos) tB'):PW X (.BoolOp .And (a::b::rest) pos) (zjP tA tB'):=by
 intro wh pins s σ H Q I h
 refine isTrue_and (thn (ha pins s σ H _ I h) λc s1 ⟨H1,I1,q1⟩=> ?_)
 cases c with
 |true=>exact hb wh pins s1 σ H1 Q I1 q1
 |false=>exact⟨H1,I1,q1⟩
theorem zhk(ha:PT X a tA)(hb:PW X (.BoolOp .Or (b::rest) pos) tB'):PW X (.BoolOp .Or (a::b::rest) pos) (tOr tA tB'):=by
 intro wh pins s σ H Q I h
 refine isTrue_or (thn (ha pins s σ H _ I h) λc s1 ⟨H1,I1,q1⟩=> ?_)
 cases c with
 |true=>exact⟨H1,I1,q1⟩
 |false=>exact hb wh pins s1 σ H1 Q I1 q1
theorem zeq(ha:PT X a tA):PT X (.UnaryOp .Not a pos) (zjQ tA):=by
 intro pins s σ H Q I h
 exact isTrue_not (ha pins s σ H (λc H1=>Q (!c) H1) I h)
def zhl(ta tb:TE):TE:=λ σ H Q=>ta σ H λx H1=> ∃c,x= .bl c/\if c=true then tb σ H1 Q else Q (.bl false) H1
def zjR(ta tb:TE):TE:=λ σ H Q=>ta σ H λx H1=> ∃c,x= .bl c/\if c=true then Q (.bl true) H1 else tb σ H1 Q
def zhm(ta:TE):TE:=λ σ H Q=>ta σ H λx H1=> ∃c,x= .bl c/\Q (.bl (!c)) H1
theorem zer{op}{t:TE}(h:PE X a t):PE X (.BoolOp op [a] pos) t:=λpins s σ H Q I hw=>BoolOp_one (h pins s σ H Q I hw)
theorem zes(ha:PE X a ta)(hb:PE X (.BoolOp .And (b::rest) pos) tb):PE X (.BoolOp .And (a::b::rest) pos) (zhl ta tb):=by
 intro pins s σ H Q I h
 refine BoolOp_and (thn (ha pins s σ H _ I h) λv s1 ⟨x,H1,I1,r1,q1⟩=> ?_)
 obtain⟨c,rfl,q1⟩:=q1
 cases r1
 refine wpAny_truthy_bool ?_
 cases c with
 |true=>exact hb pins s1 σ H1 Q I1 q1
 |false=>exact⟨.bl false,H1,I1,rfl,q1⟩
theorem zhn(ha:PE X a ta)(hb:PE X (.BoolOp .Or (b::rest) pos) tb):PE X (.BoolOp .Or (a::b::rest) pos) (zjR ta tb):=by
 intro pins s σ H Q I h
 refine BoolOp_or (thn (ha pins s σ H _ I h) λv s1 ⟨x,H1,I1,r1,q1⟩=> ?_)
 obtain⟨c,rfl,q1⟩:=q1
 cases r1
 refine wpAny_truthy_bool ?_
 cases c with
 |false=>exact hb pins s1 σ H1 Q I1 q1
 |true=>exact⟨.bl true,H1,I1,rfl,q1⟩
theorem zet(ha:PE X a ta):PE X (.UnaryOp .Not a pos) (zhm ta):=by
 intro pins s σ H Q I h
 refine UnaryOp_ (thn (ha pins s σ H _ I h) λv s1 ⟨x,H1,I1,r1,q1⟩=> ?_)
 obtain⟨c,rfl,q1⟩:=q1
 cases r1
 exact not_of (wpAny_truthy_bool ⟨.bl (!c),H1,I1,rfl,q1⟩)
end
def SqL(K:W.Frag)(H:Hp)(a:Addr)(xs:List V):Prop:=
 Rd H a (.lst xs)\/
  ∃(o:Obj) (its:Array Value) (n:Nat),K.lookup a=some o/\o.cls= .type "list" /\o.dict=none/\o.data= .seq its n/\its.size<=sizeLine/\W0 xs its.toList
def SqT(K:W.Frag)(H:Hp)(a:Addr)(xs:List V):Prop:=
 Rd H a (.tup xs)\/
  ∃(o:Obj) (its:Array Value) (n:Nat),K.lookup a=some o/\o.cls= .type "tuple" /\o.data= .seq its n/\its.size<=sizeLine/\W0 xs its.toList
def zjS:Value->Option V
 | .none=>some .non
 | .bool b=>some (.bl b)
 | .int i _=>some (.int i)
 | .str x _=>some (.str x)
 | .bytes b _=>some (.byt b)
 | .float b _=>some (.flt b)
 | .ref a=>some (.ref a)
 | .type n=>some (.ty n)
 |_=>none
theorem RelV.abs{x:V}{u:Value}(r:RelV x u):zjS u=some x:=by
 cases x with
 |non=>cases r;rfl
 |bl _=>cases r;rfl
 |int _=>obtain⟨t,rfl⟩:=r;rfl
 |str _=>obtain⟨t,rfl⟩:=r;rfl
 |byt _=>obtain⟨t,rfl⟩:=r;rfl
 |flt _=>obtain⟨t,rfl⟩:=r;rfl
 |ref _=>cases r;rfl
 |ty _=>cases r;rfl
theorem RelV.inj{x y:V}{u:Value}(r:RelV x u)(q:RelV y u):x=y:=Option.some.inj (r.abs.symm.trans q.abs)
theorem W0.inj: ∀{xs ys:List V} {us:List Value},W0 xs us->W0 ys us->xs=ys
 |_,_,_, .nil, .nil=>rfl
 |_,_,_, .cons r t, .cons r' t'=>by rw[r.inj r',W0.inj t t']
section
variable{X:Cx}{pins:List (Addr×Obj)}{σ:St}{H:Hp}{s:Shared}{a:Addr}{xs ys:List V}
theorem SqL.of{K:W.Frag}(h:H a=some (.lst xs)):SqL K H a xs:= .inl (.inl h)
theorem SqT.of{K:W.Frag}(h:H a=some (.tup xs)):SqT K H a xs:= .inl (.inl h)
theorem Inv.list(I:Inv X pins σ H s)(h:SqL X.K H a xs): ∃its:List Value,W0 xs its/\PlainL s.heap a its.toArray/\xs.length<=sizeLine:=by
 rcases h with h|⟨o,its,n,hk,hc,hd,hs,hz,r⟩
 .obtain⟨z,its,n,r,e⟩:=h.ok I.hok
  exact⟨its,r,⟨_,n,e,rfl,rfl,rfl⟩,z⟩
 .refine⟨its.toList,r,⟨o,n,I.kIn a o hk,hc,hd,by simpa using hs⟩, ?_⟩
  have e:=r.length
  erw[Array.length_toList] at e
  lia
theorem Inv.tuple(I:Inv X pins σ H s)(h:SqT X.K H a xs): ∃its:List Value,W0 xs its/\IsTup s.heap a its.toArray/\xs.length<=sizeLine:=by
 rcases h with h|⟨o,its,n,hk,hc,hs,hz,r⟩
 .obtain⟨z,its,r,p⟩:=h.ok I.hok
  exact⟨its,r,p,z⟩
 .refine⟨its.toList,r,⟨o,I.kIn a o hk,hc,n,by simpa using hs⟩, ?_⟩
  have e:=r.length
  erw[Array.length_toList] at e
  lia
theorem Inv.list_inj(I:Inv X pins σ H s)(h:SqL X.K H a xs)(h':SqL X.K H a ys):xs=ys:=by
 obtain⟨its,r,⟨o,n,e,_,_,d⟩,_⟩:=I.list h
 obtain⟨its',r',⟨o',n',e',_,_,d'⟩,_⟩:=I.list h'
 rw[e] at e';cases e'
 rw[d] at d'
 injection d' with d1 _
 have:its=its':=by simpa using congrArg Array.toList d1
 subst this
 exact r.inj r'
theorem Inv.tuple_inj(I:Inv X pins σ H s)(h:SqT X.K H a xs)(h':SqT X.K H a ys):xs=ys:=by
 obtain⟨its,r,⟨o,e,_,n,d⟩,_⟩:=I.tuple h
 obtain⟨its',r',⟨o',e',_,n',d'⟩,_⟩:=I.tuple h'
 rw[e] at e';cases e'
 rw[d] at d'
 injection d' with d1 _
 have:its=its':=by simpa using congrArg Array.toList d1
 subst this
 exact r.inj r'
end
abbrev Cx.wish(X:Cx)(E:Value->Shared->Prop):Cx:={X with xe:=E}
abbrev Cx.nox(X:Cx):Cx:=X.wish λ_ _=>False
theorem Cx.Ok.wish{X:Cx}(ok:X.Ok)(E:Value->Shared->Prop):(X.wish E).Ok:=
 ⟨ok.mod,ok.kind,ok.glob,ok.blt,ok.above,ok.inj,ok.has,ok.cab,ok.hd,ok.frames,ok.stk,ok.exf,ok.bs,ok.bsz,ok.noex,ok.exfs,ok.funs,ok.frf⟩
theorem Cx.Ok.unwish{X:Cx}{E:Value->Shared->Prop}(ok:(X.wish E).Ok):X.Ok:=
 ⟨ok.mod,ok.kind,ok.glob,ok.blt,ok.above,ok.inj,ok.has,ok.cab,ok.hd,ok.frames,ok.stk,ok.exf,ok.bs,ok.bsz,ok.noex,ok.exfs,ok.funs,ok.frf⟩
section
variable{X:Cx}{pins:List (Addr×Obj)}{σ:St}{H:Hp}{s:Shared}{E:Value->Shared->Prop}
theorem Inv.wish(I:Inv X pins σ H s)(E:Value->Shared->Prop):Inv (X.wish E) pins σ H s:=⟨I.ok.wish E,I.os,I.bare,I.base,I.loc,I.cell,I.free,I.freeC,I.pin,I.hok,I.len⟩
theorem Inv.unwish(I:Inv (X.wish E) pins σ H s):Inv X pins σ H s:=⟨I.ok.unwish,I.os,I.bare,I.base,I.loc,I.cell,I.free,I.freeC,I.pin,I.hok,I.len⟩
theorem SP.unwish{D:z45}{f:Flow}{s':Shared}(h:SP (X.wish E) pins D f s'):SP X pins D f s':=by
 cases f with
 |next=>obtain⟨σ',H',I,q⟩:=h;exact⟨σ',H',I.unwish,q⟩
 |brk=>obtain⟨σ',H',I,q⟩:=h;exact⟨σ',H',I.unwish,q⟩
 |cont=>obtain⟨σ',H',I,q⟩:=h;exact⟨σ',H',I.unwish,q⟩
 |ret u=>obtain⟨v,σ',H',I,r,q⟩:=h;exact⟨v,σ',H',I.unwish,r,q⟩
theorem PSs.nox{st:List Stmt}{t:TS}(h:PSs X.nox st t):PSs X st t:=λpins s σ H D I hw=>
 wpAny_mono (h pins s σ H D (I.wish _) hw) (λ_ _ q=>q.unwish) λ_ _ z=>False.elim z
end
section
variable{X:Cx}{st:Stmt}{rest:List Stmt}{t u:TS}{e:Expr}{te:TE}{pos:Pos}
def zho:TS:=λD σ H=>D.nx σ H
def zjT(t u:TS):TS:=λD σ H=>t {D with nx:=u D} σ H
theorem zc8:PSs X [] zho:=λ_ _ σ H _ I h=>wpAny_execs_nil ⟨σ,H,I,h⟩
theorem z9E(h1:PS X st t)(h2:PSs X rest u):PSs X (st::rest) (zjT t u):=by
 intro pins s σ H D I h
 refine wpAny_execs_cons (thn (h1 pins s σ H {D with nx:=u D} I h) λf s1 q=> ?_)
 cases f with
 |next=>
  obtain⟨σ',H',I',q⟩:=q
  exact h2 pins s1 σ' H' D I' q
 |ret v=>exact q
 |brk=>exact q
 |cont=>exact q
theorem zc9(h1:PS X st t):PSs X [st] t:=by
 intro pins s σ H D I h
 refine wpAny_execs_cons (thn (h1 pins s σ H D I h) λf s1 q=> ?_)
 cases f with
 |next=>exact wpAny_execs_nil q
 |ret v=>exact q
 |brk=>exact q
 |cont=>exact q
theorem Inv.quiet{pins:List (Addr×Obj)}{σ:St}{H:Hp}{s:Shared}(I:Inv X pins σ H s):interactive X.env=false:=by simp[interactive,I.ok.kind]
def zhp(te:TE):TS:=λD σ H=>te σ H λ_ H1=>D.nx σ H1
theorem zca(he:PE X e te)(hs:swapsWith e none pos.line X.env=pure false:=by rfl):PS X (.Expr e pos) (zhp te):=by
 intro pins s σ H D I h
 exact wpAny_Expr_any (thn (he pins s σ H _ I h) λv s1 ⟨x,H1,I1,r1,q1⟩=>⟨σ,H1,I1,q1⟩) I.quiet hs
def zjU(te:TE):TS:=λD σ H=>te σ H D.rt
theorem zeu(he:PE X e te):PS X (.Return (some e) pos) (zjU te):=by
 intro pins s σ H D I h
 exact wpAny_Return_some (thn (he pins s σ H _ I h) λv s1 ⟨x,H1,I1,r1,q1⟩=>⟨x,σ,H1,I1,r1,q1⟩)
def zjV(c:TT)(t u:TS):TS:=λD σ H=>c σ H λb H1=>if b=true then t D σ H1 else u D σ H1
theorem zhq{c:Expr}{a b:List Stmt}{tc:TT}(hc:PT X c tc)(ha:PSs X a t)(hb:PSs X b u):PS X (.If c a b pos) (zjV tc t u):=by
 intro pins s σ H D I h
 refine wpAny_If (thn (hc pins s σ H _ I h) λd s1 ⟨H1,I1,q1⟩=> ?_)
 cases d with
 |true=>exact ha pins s1 σ H1 D I1 q1
 |false=>exact hb pins s1 σ H1 D I1 q1
end
abbrev TG:=V->St->Hp->(St->Hp->Prop)->Prop
abbrev TGs:=List V->St->Hp->(St->Hp->Prop)->Prop
def PG(X:Cx)(target:Expr)(t:TG):Prop:=
 ∀(pins:List (Addr×Obj)) (s:Shared) (σ:St) (H:Hp) (v:V) (u:Value) (Q:St->Hp->Prop),Inv X pins σ H s->RelV v u->t v σ H Q->
  wpAny (model X.prog X.w) X.A (assign target X.env u) (λ_ s'=> ∃σ' H',Inv X pins σ' H' s'/\Q σ' H') X.xe s
def PGs(X:Cx)(ts:List Expr)(t:TGs):Prop:=
 ∀(pins:List (Addr×Obj)) (s:Shared) (σ:St) (H:Hp) (vs:List V) (us:List Value) (Q:St->Hp->Prop),Inv X pins σ H s->W0 vs us->t vs σ H Q->
  wpAny (model X.prog X.w) X.A (assignInOrder ((assignEach ts X.env).map (·.2)) us) (λ_ s'=> ∃σ' H',Inv X pins σ' H' s'/\Q σ' H') X.xe s
abbrev zhr:=V->V->V->Hp->(Hp->Prop)->Prop
def zjx(X:Cx)(t:zhr):Prop:=
 ∀(pins:List (Addr×Obj)) (s:Shared) (σ:St) (H:Hp) (o i v:V) (ov iv u:Value) (Q:Hp->Prop),Inv X pins σ H s->RelV o ov->RelV i iv->RelV v u->t o i v H Q->
  wpAny (model X.prog X.w) X.A (setItem ov iv u) (λ_ s'=> ∃H',Inv X pins σ H' s'/\Q H') X.xe s
section
variable{X:Cx}{pos:Pos}
def z0r(i:Nat):TG:=λv σ H Q=>Q (σ.set i (some v)) H
theorem U1{i:Nat}{x:Str}(hN:X.N.Nodup)(hi:X.N[i]? =some x)(hx:Loc X.env.scope x)(hf:X.fn x=true\/X.env.scope.names.lookup x=some .local:=by first|exact .inl rfl|exact .inr rfl|assumption):PG X (.Name x pos) (z0r i):=by
 intro pins s σ H v u Q I r h
 exact wpAny_assign_Name (z3h I hN hi hx r (λs' I'=>⟨_,H,I',h⟩) hf)
def zh7:TGs:=λvs σ H Q=>vs=[]/\Q σ H
def z58(t:TG)(u:TGs):TGs:=λvs σ H Q=> ∃v r,vs=v::r/\t v σ H λ σ' H'=>u r σ' H' Q
theorem z7J:PGs X [] zh7:=by
 intro pins s σ H vs us Q I r h
 obtain⟨e,h⟩:=h
 subst e
 cases r
 exact assignInOrder_nil ⟨σ,H,I,h⟩
theorem z3i{e:Expr}{es:List Expr}{t:TG}{u:TGs}(h1:PG X e t)(h2:PGs X es u)
 (hs:(assignEach (e::es) X.env).map (·.2)=assign e X.env::(assignEach es X.env).map (·.2):=by rfl):PGs X (e::es) (z58 t u):=by
 intro pins s σ H vs us Q I r h
 obtain⟨v,vr,e1,h⟩:=h
 subst e1
 cases r with
 |cons r rr=>
  rw[hs]
  refine assignInOrder_cons (thn (h1 pins s σ H _ _ _ I r h) λ_ s1 ⟨σ1,H1,I1,q1⟩=> ?_)
  exact h2 pins s1 σ1 H1 _ _ Q I1 rr q1
def zh8(K:W.Frag)(n:Nat)(t:TGs):TG:=λv σ H Q=> ∃a xs,v= .ref a/\SqT K H a xs/\xs.length=n/\t xs σ H Q
theorem zbf{es:List Expr}{k:Nat}{t:TGs}{n:Nat}(hc:X.calm=true)(h:PGs X es t)
 (hn:(assignEach es X.env).length=n:=by rfl) (hst:(assignEach es X.env).findIdx? (·.1)=none:=by rfl):PG X (.Tuple es k pos) (zh8 X.K n t):=by
 intro pins s σ H v u Q I r hw
 obtain⟨a,xs,e1,hq,hl,hw⟩:=hw
 subst e1
 cases r
 obtain⟨its,rv,ht,hz⟩:=I.tuple hq
 refine assign_Tuple_tuple (I.ok.hd hc) ht (by simp[hn,<-hl,rv.length]) hst λh' hx=> ?_
 have I1:Inv X pins σ H {s with heap:=h'}:=I.kept (t':=s.toks) λb o e=>hx b o (l8 (Heap.lt_size e)) e
 exact h pins _ σ H xs _ Q I1 (by simpa using rv) hw
def zhs(to ti:TE)(t:zhr):TG:=λv σ H Q=>to σ H λo H1=>ti σ H1 λi H2=>t o i v H2 λH3=>Q σ H3
theorem z7K{o i:Expr}{to ti:TE}{t:zhr}(ho:PE X o to)(hi:PE X i ti)(hs:zjx X t)
 (ha: ∀v,assign (.Subscript o i pos) X.env v=(do
  let ov<-holding [v] (eval o X.env)
  let iv<-holding [v,ov] (eval i X.env)
  standAt pos
  holding [v,ov,iv] (setItem ov iv v)
  release [v,ov,iv] []):=by intro _;rfl):PG X (.Subscript o i pos) (zhs to ti t):=by
 intro pins s σ H v u Q I r h
 rw[ha]
 refine wpAny_bind (wpAny_holding (thn (ho pins s σ H _ I h) λov s1 ⟨x,H1,I1,r1,q1⟩=> ?_))
 refine wpAny_bind (wpAny_holding (thn (hi pins s1 σ H1 _ I1 q1) λiv s2 ⟨y,H2,I2,r2,q2⟩=> ?_))
 refine wpAny_bind (wpAny_standAt (wpAny_bind (wpAny_holding (thn (hs pins s2 σ H2 x y v ov iv u _ I2 r1 r2 r q2) λ_ s3 ⟨H3,I3,q3⟩=> ?_))))
 exact wpAny_release ⟨σ,H3,I3,q3⟩
def zh9(te:TE)(g:TG):TS:=λD σ H=>te σ H λx H1=>g x σ H1 D.nx
theorem zbg{tg e:Expr}{te:TE}{g:TG}(he:PE X e te)(hg:PG X tg g)(hs:swapsWithSole [tg] e pos.line X.env=pure false:=by rfl)(hw:swappedStores [tg] e X.env=pure none:=by rfl)
 (h1:(assignEach [tg] X.env).map (·.2)=[assign tg X.env]:=by rfl):PS X (.Assign [tg] e pos) (zh9 te g):=by
 intro pins s σ H D I h
 refine wpAny_Assign_stores (thn (he pins s σ H _ I h) λv s1 ⟨x,H1,I1,r1,q1⟩=> ?_) hs hw
 rw[h1]
 exact thn (hg pins s1 σ H1 x v _ I1 r1 q1) λ_ s2 q=>q
theorem z5Z{i:Nat}{x:Str}{e:Expr}{te:TE}{pos':Pos}(hN:X.N.Nodup)(hi:X.N[i]? =some x)(hx:Loc X.env.scope x)(he:PE X e te)(hs:swapsWith e (some (.Name x pos')) pos.line X.env=pure false:=by rfl)(hf:X.fn x=true\/X.env.scope.names.lookup x=some .local:=by first|exact .inl rfl|exact .inr rfl|assumption):
 PS X (.Assign [.Name x pos'] e pos) (zh9 te (z0r i)):=by
 intro pins s σ H D I h
 refine wpAny_Assign_Name (thn (he pins s σ H _ I h) λv s1 ⟨y,H1,I1,r1,q1⟩=> ?_) hs
 exact z3h I1 hN hi hx r1 (λs2 I2=>⟨_,H1,I2,q1⟩) hf
end
structure It where
 go:Nat->Hp->Prop
 yld:Nat->Hp->V->Hp->Prop
 stop:Nat->Hp->Prop
def z7t(X:Cx)(pins:List (Addr×Obj))(H:Hp)(b:Addr):Prop:=
 H b=none/\b≠X.env.locals/\b∉X.fs/\(b∈X.ex\/X.s₀.heap.objs.size<=b)/\(∀x c,X.env.cells.lookup x=some c->c≠b)/\∀p∈X.pn++pins,p.1≠b
theorem Inv.fpOk{X:Cx}{pins:List (Addr×Obj)}{σ:St}{H H':Hp}{s:Shared}{b:Addr}(I:Inv X pins σ H s)(hb:s.heap.objs.size<=b)(hn:H' b=none):z7t X pins H' b:=by
 refine⟨hn,N8 (i4 I.lt hb),I.nofs hb, .inr (n9 I.sz hb),λx c e z=> ?_,λp hp z=> ?_⟩
 .obtain⟨v,q⟩:=I.cell x c e
  exact absurd (i4 q.lt (by rw[z];exact hb)) (C7 _)
 .exact absurd (i4 (Heap.lt_size (I.pin p hp).1) (by rw[z];exact hb)) (C7 _)
structure zdZ(P:Program)(w:World)(K:W.Frag)(tg:Expr)(J:It)(fp:List Addr)(it:Addr)(tn:Nat->Heap->Prop):Prop where
 mem:it∈fp
 obj: ∀i h,tn i h->∀b∈fp,∃o,h.get? b=some o/\∀v,o.data≠ .cell v
 keep: ∀i h h',tn i h->(∀b∈fp,∀o,h.get? b=some o->h'.get? b=some o)->tn i h'
 item: ∀(X:Cx),X.prog=P->X.w=w->X.K=K->X.calm=true->∀(i:Nat) (pins:List (Addr×Obj)) (s:Shared) (σ:St) (H:Hp) (E:Value->Shared->Prop),Inv X pins σ H s->(∀b∈fp,z7t X pins H b)->tn i s.heap->J.go i H->
  wpAny (model P w) X.A (pyNext (.ref it)) (λr s1=> ∃u,r=some u/\
   wpAny (model P w) X.A (letOwnedTupleGo tg (.ref it) u) (λ_ s2=> ∃x H',Inv X pins σ H' s2/\RelV x u/\J.yld i H x H'/\tn (i+1) s2.heap/\∀b∈fp,H' b=none) E s1) E s
 done: ∀(X:Cx),X.prog=P->X.w=w->X.K=K->X.calm=true->∀(i:Nat) (pins:List (Addr×Obj)) (s:Shared) (σ:St) (H:Hp) (E:Value->Shared->Prop),Inv X pins σ H s->(∀b∈fp,z7t X pins H b)->tn i s.heap->J.stop i H->
  wpAny (model P w) X.A (pyNext (.ref it)) (λr s1=>r=none/\Inv X pins σ H s1) E s
 self: ∀(A:Around) (i:Nat) (s:Shared) (Q:Value->Shared->Prop) (E:Value->Shared->Prop),tn i s.heap->Q (.ref it) s->wpAny (model P w) A (pyIter (.ref it)) Q E s
abbrev TI:=St->Hp->(It->Hp->Prop)->Prop
def PIE(X:Cx)(pins:List (Addr×Obj))(σ:St)(tg:Expr)(R:It->Hp->Prop)(itv:Value)(s2:Shared):Prop:=
 ∃(it:Addr) (fp:List Addr) (tn:Nat->Heap->Prop) (J:It) (H':Hp),itv= .ref it/\Inv X pins σ H' s2/\zdZ X.prog X.w X.K tg J fp it tn/\tn 0 s2.heap/\(∀b∈fp,z7t X pins H' b)/\R J H'
def PI(X:Cx)(tg iter:Expr)(wi:TI):Prop:=
 ∀(pins:List (Addr×Obj)) (s:Shared) (σ:St) (H:Hp) (R:It->Hp->Prop),Inv X pins σ H s->wi σ H R->
  wpAny (model X.prog X.w) X.A (eval iter X.env) (λv s1=>wpAny (model X.prog X.w) X.A (pyIter v) (PIE X pins σ tg R) X.xe s1) X.xe s
theorem z9F{M:Model}{A:Around}{E:Value->Shared->Prop}{s:Shared}{tg:Expr}{it:Addr}{u:Value}{o:Obj}{n:String}{vs:Array Value}{Q:Unit->Shared->Prop}(ho:s.heap.get? it=some o)(hc:o.cls= .type n)(hd:o.data= .fields vs)
 (hn:["enumerate", "zip", "dict_itemiterator", "dict_reverseitemiterator", "odict_iterator", "itertools.zip_longest", "itertools.pairwise"].contains n=false) (hQ:Q () s):wpAny M A (letOwnedTupleGo tg (.ref it) u) Q E s:=by
 unfold letOwnedTupleGo
 cases tg<;>first
  |exact wpAny_pure hQ
  |(cases u<;>first
   |exact wpAny_pure hQ
   |(refine wpAny_bind (wpAny_load ho ?_)
     rw[hc,hd]
     show wpAny M A (if(["enumerate", "zip", "dict_itemiterator", "dict_reverseitemiterator", "odict_iterator", "itertools.zip_longest", "itertools.pairwise"].contains n&&vs[0]? ==some (rawInt _))=true then _ else _) Q E s
     rw[if_neg (by intro h;rw[hn,B5] at h;cases h)]
     exact wpAny_pure hQ))
def Itl(K:W.Frag)(a:Addr):It:=
 ⟨λi H=> ∃xs x,SqL K H a xs/\xs[i]? =some x,λi H x H'=>H'=H/\∀xs,SqL K H a xs->xs[i]? =some x,λi H=> ∃xs,SqL K H a xs/\xs.length<=i⟩
def Itt(K:W.Frag)(a:Addr):It:=
 ⟨λi H=> ∃xs x,SqT K H a xs/\xs[i]? =some x,λi H x H'=>H'=H/\∀xs,SqT K H a xs->xs[i]? =some x,λi H=> ∃xs,SqT K H a xs/\xs.length<=i⟩
def Itr(lo:Int)(n:Nat):It:=⟨λi _=>i<n,λi H x H'=>H'=H/\x= .int (lo+i),λi _=>n<=i⟩
theorem z7L{P:Program}{w:World}{K:W.Frag}{tg:Expr}(a it:Addr):zdZ P w K tg (Itl K a) [it] it (λi h=>h.IsListIter it a i) where
 mem:=by simp
 obj:=λi h st b hb=>by
  have e:b=it:=by simpa using hb
  subst e
  obtain⟨o,e,c,d⟩:=st
  exact⟨o,e,λv z=>by rw[d] at z;cases z⟩
 keep:=λi h h' st k=>st.at λo e=>k it (by simp) o e
 item:=by
  intro X hP hw hK hc i pins s σ H E I hf st hg
  subst hP hw hK
  obtain⟨xs,x,hq,hx⟩:=hg
  obtain⟨its,rv,p,hz⟩:=I.list hq
  obtain⟨u,hu,ru⟩:=rv.get hx
  obtain⟨f0,f1,f2,f3,f4,f5⟩:=hf it (by simp)
  refine wpAny_pyNext_list_item st p.isList (x:=u) (by simpa using hu) λh' st' sb=> ?_
  have I1:Inv X pins σ H {s with heap:=h'}:=I.turned (t':=s.toks) (λb o hb e=>(sb.2 b hb).trans e) f0 f1 f3 f4 f5
  obtain⟨o,e,c,d⟩:=id st'
  exact⟨u,rfl,z9F (s:={s with heap:=h'}) e c d (by decide) ⟨x,H,I1,ru,⟨rfl,λys hy=>by rw[I.list_inj hy hq];exact hx⟩,st',λb hb=>(hf b hb).1⟩⟩
 done:=by
  intro X hP hw hK hc i pins s σ H E I hf st hg
  subst hP hw hK
  obtain⟨xs,hq,hx⟩:=hg
  obtain⟨its,rv,p,hz⟩:=I.list hq
  obtain⟨f0,f1,f2,f3,f4,f5⟩:=hf it (by simp)
  have hl:=rv.length
  exact wpAny_pyNext_list_end (I.ok.hd hc) st p.isList (by simp;lia) λh' eb=>⟨rfl,I.turned (t':=s.toks) (λb o hb e=>eb b o hb e) f0 f1 f3 f4 f5⟩
 self:=λ_ _ _ _ _ st h=>wpAny_pyIter_listiter st h
theorem z6H{P:Program}{w:World}{K:W.Frag}{tg:Expr}(a it:Addr):zdZ P w K tg (Itt K a) [it] it (λi h=>h.IsTupleIter it a i) where
 mem:=by simp
 obj:=λi h st b hb=>by
  have e:b=it:=by simpa using hb
  subst e
  obtain⟨o,e,c,d⟩:=st
  exact⟨o,e,λv z=>by rw[d] at z;cases z⟩
 keep:=λi h h' st k=>st.at λo e=>k it (by simp) o e
 item:=by
  intro X hP hw hK hc i pins s σ H E I hf st hg
  subst hP hw hK
  obtain⟨xs,x,hq,hx⟩:=hg
  obtain⟨its,rv,p,hz⟩:=I.tuple hq
  obtain⟨u,hu,ru⟩:=rv.get hx
  obtain⟨f0,f1,f2,f3,f4,f5⟩:=hf it (by simp)
  refine wpAny_pyNext_tuple_item st (show s.heap.IsTuple a its.toArray from p) (x:=u) (by simpa using hu) λh' st' sb=> ?_
  have I1:Inv X pins σ H {s with heap:=h'}:=I.turned (t':=s.toks) (λb o hb e=>(sb.2 b hb).trans e) f0 f1 f3 f4 f5
  obtain⟨o,e,c,d⟩:=id st'
  exact⟨u,rfl,z9F (s:={s with heap:=h'}) e c d (by decide) ⟨x,H,I1,ru,⟨rfl,λys hy=>by rw[I.tuple_inj hy hq];exact hx⟩,st',λb hb=>(hf b hb).1⟩⟩
 done:=by
  intro X hP hw hK hc i pins s σ H E I hf st hg
  subst hP hw hK
  obtain⟨xs,hq,hx⟩:=hg
  obtain⟨its,rv,p,hz⟩:=I.tuple hq
  obtain⟨f0,f1,f2,f3,f4,f5⟩:=hf it (by simp)
  have hl:=rv.length
  exact wpAny_pyNext_tuple_end (I.ok.hd hc) st (show s.heap.IsTuple a its.toArray from p) (by simp;lia) λh' eb=>⟨rfl,I.turned (t':=s.toks) (λb o hb e=>eb b o hb e) f0 f1 f3 f4 f5⟩
 self:=λ_ _ _ _ _ st h=>wpAny_pyIter_tupleiter st h
theorem z6I{P:Program}{w:World}{K:W.Frag}{tg:Expr}(it:Addr)(lo:Int)(n:Nat):zdZ P w K tg (Itr lo n) [it] it (λi h=>IsRangeIter h it (lo+(i:Nat)*1) ((n:Int) -(i:Nat)) 1) where
 mem:=by simp
 obj:=λi h st b hb=>by
  have e:b=it:=by simpa using hb
  subst e
  exact⟨_,st,λv z=>by
   have z':Data.fields _=Data.cell v:=z
   cases z'⟩
 keep:=λi h h' st k=>k it (by simp) _ st
 item:=by
  intro X hP hw hK hc i pins s σ H E I hf st hg
  subst hP hw hK
  obtain⟨f0,f1,f2,f3,f4,f5⟩:=hf it (by simp)
  have W:=Walks.range (prog:=X.prog) (w:=X.w) (I.ok.hd hc) it lo 1 n
  refine W.item i s _ _ hg st λv h' tk hv st' kk=> ?_
  obtain⟨t,rfl⟩:=hv
  have I1:Inv X pins σ H {s with heap:=h',toks:=tk}:=I.turned (λb o hb e=>kk b o (by simpa using hb) e) f0 f1 f3 f4 f5
  refine⟨_,rfl,z9F (s:={s with heap:=h',toks:=tk}) (n:= "range_iterator") st' rfl rfl (by decide) ⟨.int (lo+i),H,I1,⟨t, ?_⟩,⟨rfl,rfl⟩,st',λb hb=>(hf b hb).1⟩⟩
  rw[Int.mul_one]
 done:=by
  intro X hP hw hK hc i pins s σ H E I hf st hg
  subst hP hw hK
  obtain⟨f0,f1,f2,f3,f4,f5⟩:=hf it (by simp)
  exact wpAny_pyNext_range_end (I.ok.hd hc) st (by have:n<=i:=hg;lia) λh' eb=>⟨rfl,I.turned (t':=s.toks) (λb o hb e=>eb b o hb e) f0 f1 f3 f4 f5⟩
 self:=λ_ _ _ _ _ st h=>wpAny_pyIter_rangeiter st h
section
variable{X:Cx}{tg:Expr}
theorem z9G{pins:List (Addr×Obj)}{σ:St}{H:Hp}{s:Shared}{R:It->Hp->Prop}{E:Value->Shared->Prop}{lo hi:Int}{t u v:Tok}{tk:Nat}(I:Inv X pins σ H s)(h1: -(2^62)<=lo)(h2:lo<2^62)(h3: -(2^62)<=hi)(h4:hi<2^62)
 (q:R (Itr lo (hi -lo).toNat) H):wpAny (model X.prog X.w) X.A (pyIter (.ref s.heap.objs.size)) (PIE X pins σ tg R) E {s with heap:=s.heap.push {cls:= .type "range",data:= .fields #[.int lo t, .int hi u, .int 1 v]},toks:=tk}:=by
 refine wpAny_pyIter_range (IsRange.new ..) (small_one h1 h2 h3 h4) ?_
 have I1:Inv X pins σ H {s with heap:=s.heap.push {cls:= .type "range",data:= .fields #[.int lo t, .int hi u, .int 1 v]},toks:=tk}:=I.kept λb o e=>Heap.get?_push_of_some _ e
 refine⟨(s.heap.push {cls:= .type "range",data:= .fields #[.int lo t, .int hi u, .int 1 v]}).objs.size,[(s.heap.push {cls:= .type "range",data:= .fields #[.int lo t, .int hi u, .int 1 v]}).objs.size],_,_,H,rfl,
  I1.kept (t':=tk) λb o e=>Heap.get?_push_of_some _ e,z6I _ lo (hi -lo).toNat, ?_,λb hb=> ?_,q⟩
 .have e1:lo+((0:Nat):Int)*1=lo:=by simp
  have e2:(((hi -lo).toNat:Nat):Int) -((0:Nat):Int)=Builtin.Range.rangeSize lo hi 1:=by rw[rangeSize_one];split<;>lia
  show IsRangeIter _ _ (lo+((0:Nat):Int)*1) ((((hi -lo).toNat:Nat):Int) -((0:Nat):Int)) 1
  rw[e1,e2]
  exact Heap.get?_push_size _ rfl
 .have e:b=(s.heap.push {cls:= .type "range",data:= .fields #[.int lo t, .int hi u, .int 1 v]}).objs.size:=by simpa using hb
  subst e
  exact I1.fpOk (c6 _) (I1.hok.fresh (c6 _))
def zht(ta:TA):TI:=λ σ H R=>ta σ H λvs H1=> ∃j:Int,vs=[.int j]/\-(2^62)<=j/\j<2^62/\R (Itr 0 j.toNat) H1
theorem z7M{a:Expr}{ta:TA}{p pos:Pos}(hg:Gl X "range")(hm:X.mg "range" =none)(ha:PA X [a] ta)(hs:starEach [a] X.env=[(false,eval a X.env)]:=by rfl):PI X tg (.Call (.Name "range" p) [a] [] pos) (zht ta):=by
 intro pins s σ H R I h
 refine Call_ (z5Y I hg hm boot_range (PyProof.Rows.callWith_type1 (thn (ha pos pins s σ H _ I h) λus s1 ⟨vs,H1,I1,r1,q1⟩=> ?_) hs rfl))
 obtain⟨j,e,q1,q2,q⟩:=q1
 subst e
 cases r1 with
 |cons r rr=>
  cases rr
  obtain⟨t,rfl⟩:=r
  exact call_range_1 (z9G I1 (by lia) (by lia) q1 q2 (by simpa using q))
def zjW(wi:TI)(g:TG)(tb:TS):TS:=λD σ H=>wi σ H λJ H1=> ∃W:Nat->Nat->St->Hp->Prop,(∃m,W 0 m σ H1)/\∀i m σ H,W i m σ H->
 (J.stop i H/\D.nx σ H)\/(J.go i H/\∃N:St->Hp->Prop,(∀σ' H',N σ' H'->∃m',m'<m/\W (i+1) m' σ' H')/\∀x H',J.yld i H x H'->g x σ H' λ σ2 H2=>tb {D with nx:=N,ct:=N,bk:=D.nx} σ2 H2)
def z60(fp:List Addr)(h:Heap):List (Addr×Obj):=fp.filterMap λb=>(h.get? b).map λo=>(b,o)
theorem u0{fp:List Addr}{h:Heap}{b:Addr}{o:Obj}(hb:b∈fp)(e:h.get? b=some o):(b,o)∈z60 fp h:=F7.mpr ⟨b,hb,by rw[e];rfl⟩
theorem z7N{fp:List Addr}{h:Heap}{p:Addr×Obj}(hp:p∈z60 fp h):p.1∈fp/\h.get? p.1=some p.2:=by
 obtain⟨b,hb,e⟩:=F7.mp hp
 cases q:h.get? b with
 |none=>rw[q] at e;cases e
 |some o=>
  rw[q] at e
  have e':(b,o)=p:=Option.some.inj e
  subst e'
  exact⟨hb,q⟩
theorem Inv.pinned{pins:List (Addr×Obj)}{σ:St}{H:Hp}{s:Shared}{fp:List Addr}(I:Inv X pins σ H s)(hf: ∀b∈fp,z7t X pins H b)(ho: ∀b∈fp,∃o,s.heap.get? b=some o/\∀v,o.data≠ .cell v):Inv X (pins++z60 fp s.heap) σ H s:=
 I.pins_of λp hp=>(c7.mp hp).elim (λz=>I.pin p (b6 _ z)) λz=>by
  obtain⟨hb,e⟩:=z7N z
  obtain⟨f0,f1,f2,_⟩:=hf p.1 hb
  obtain⟨o,e',d⟩:=ho p.1 hb
  rw[e] at e';cases e'
  exact⟨e,f0,f1,f2,d⟩
theorem Inv.unpinned{pins pl:List (Addr×Obj)}{σ:St}{H:Hp}{s:Shared}(I:Inv X (pins++pl) σ H s):Inv X pins σ H s:=I.pins_of λp hp=>I.pin p (b6 _ (b8 _ hp))
theorem zev{iter:Expr}{body:List Stmt}{wi:TI}{g:TG}{tb:TS}{pos:Pos}(hp:PassesOwn (model X.prog X.w) X.A X.env X.xe)(hc:X.calm=true)(hi:PI X tg iter wi)(hg:PG X tg g)(hb:PSs X body tb)
 (hs: ∀x,foldedSetIterable iter X.env x=pure x:=by intro _;rfl):PS X (.For tg iter body [] pos) (zjW wi g tb):=by
 intro pins s σ H D I h
 refine wpAny_For (thn (hi pins s σ H _ I h) λv s1 h1=>thn h1 λitv s2 h2=> ?_) hs
 obtain⟨it,fp,tn,J,H2,e,I2,T,st2,f2,W,⟨m0,w0⟩,turn⟩:=h2
 subst e
 have stat: ∀{H':Hp},(∀b∈fp,H' b=none)->∀b∈fp,z7t X pins H' b:=λhn b hb=>⟨hn b hb,(f2 b hb).2⟩
 refine codeAny_forLoop_any (λn s'=> ∃i σ' H',Inv X pins σ' H' s'/\tn i s'.heap/\(∀b∈fp,H' b=none)/\W i n σ' H') ?_ m0 ⟨0,σ,H2,I2,st2,λb hb=>(f2 b hb).1,w0⟩
 rintro n s3 ⟨i,σ3,H3,I3,st3,fr3,w3⟩
 rcases turn i n σ3 H3 w3 with⟨stop,qn⟩|⟨go,N,hN,step⟩
 .refine wpAny_passesOwn hp (thn (T.done X rfl rfl rfl hc i pins s3 σ3 H3 X.xe I3 (stat fr3) st3 stop) λr s4 ⟨hr,I4⟩=> ?_)
  subst hr
  exact wpAny_execs_nil ⟨σ3,H3,I4,qn⟩
 .refine wpAny_passesOwn hp (thn (T.item X rfl rfl rfl hc i pins s3 σ3 H3 X.xe I3 (stat fr3) st3 go) λr s4 ⟨u,hr,h4⟩=> ?_)
  subst hr
  refine wpAny_passesOwn hp (thn h4 λ_ s5 ⟨x,H5,I5,r5,y5,st5,fr5⟩=> ?_)
  have I5':=I5.pinned (stat fr5) (T.obj _ _ st5)
  refine wpAny_passesOwn hp (thn (hg _ s5 σ3 H5 x u _ I5' r5 (step x H5 y5)) λ_ s6 ⟨σ6,H6,I6,q6⟩=> ?_)
  refine wpAny_passesOwn hp (thn (hb _ s6 σ6 H6 _ I6 q6) λf s7 q7=> ?_)
  have again: ∀{σ7:St} {H7:Hp},Inv X (pins++z60 fp s5.heap) σ7 H7 s7->N σ7 H7->∃m,m<n/\∃i σ' H',Inv X pins σ' H' s7/\tn i s7.heap/\(∀b∈fp,H' b=none)/\W i m σ' H':=λ{σ7 H7} I7 n7=>by
   obtain⟨m',hm,w7⟩:=hN σ7 H7 n7
   refine⟨m',hm,i+1,σ7,H7,I7.unpinned,T.keep _ _ _ st5 λb hb o e=>(I7.pin (b,o) (b6 _ (b6 _ (u0 hb e)))).1,λb hb=> ?_,w7⟩
   obtain⟨o,e,d⟩:=T.obj _ _ st5 b hb
   exact(I7.pin (b,o) (b6 _ (b6 _ (u0 hb e)))).2.1
  cases f with
  |next=>obtain⟨σ7,H7,I7,n7⟩:=q7;exact again I7 n7
  |cont=>obtain⟨σ7,H7,I7,n7⟩:=q7;exact again I7 n7
  |brk=>obtain⟨σ7,H7,I7,q7⟩:=q7;exact⟨σ7,H7,I7.unpinned,q7⟩
  |ret v=>obtain⟨x7,σ7,H7,I7,r7,q7⟩:=q7;exact⟨x7,σ7,H7,I7.unpinned,r7,q7⟩
end
abbrev R2:=V->V->Hp->VK->Prop
def OpR(X:Cx)(f:Value->Value->Sem Value)(r:R2):Prop:=
 ∀(pins:List (Addr×Obj)) (s:Shared) (σ:St) (H:Hp) (x y:V) (v u:Value) (Q:VK),Inv X pins σ H s->RelV x v->RelV y u->r x y H Q->
  wpAny (model X.prog X.w) X.A (f v u) (EP X pins σ Q) X.xe s
def UnR(X:Cx)(f:Value->Sem Value)(r:V->Hp->VK->Prop):Prop:=
 ∀(pins:List (Addr×Obj)) (s:Shared) (σ:St) (H:Hp) (x:V) (v:Value) (Q:VK),Inv X pins σ H s->RelV x v->r x H Q->
  wpAny (model X.prog X.w) X.A (f v) (EP X pins σ Q) X.xe s
def CallR(X:Cx)(f:Value)(r:List V->Hp->VK->Prop):Prop:=
 ∀(pins:List (Addr×Obj)) (s:Shared) (σ:St) (H:Hp) (xs:List V) (us:List Value) (Q:VK),Inv X pins σ H s->W0 xs us->r xs H Q->
  wpAny (model X.prog X.w) X.A (call f us) (EP X pins σ Q) X.xe s
def zjX(X:Cx)(r:V->Hp->(Bool->Hp->Prop)->Prop):Prop:=
 ∀(pins:List (Addr×Obj)) (s:Shared) (σ:St) (H:Hp) (x:V) (v:Value) (Q:Bool->Hp->Prop),Inv X pins σ H s->RelV x v->r x H Q->
  wpAny (model X.prog X.w) X.A (truthy v) (TP X pins σ Q) X.xe s
def tOp(r:R2)(ta tb:TE):TE:=λ σ H Q=>ta σ H λx H1=>tb σ H1 λy H2=>r x y H2 Q
def tUn(r:V->Hp->VK->Prop)(ta:TE):TE:=λ σ H Q=>ta σ H λx H1=>r x H1 Q
def rI(C:Int->Int->Prop)(g:Int->Int->V):R2:=λx y H Q=> ∃i j,x= .int i/\y= .int j/\C i j/\Q (g i j) H
def rI0(g:Int->Int->V):R2:=λx y H Q=> ∃i j,x= .int i/\y= .int j/\Q (g i j) H
def rU(g:Int->V):V->Hp->VK->Prop:=λx H Q=> ∃i,x= .int i/\Q (g i) H
section
variable{X:Cx}{a b c:Expr}{ta tb tc:TE}{pos:Pos}
theorem zhu(ha:PE X a ta)(hb:PE X b tb){pins:List (Addr×Obj)}{s:Shared}{σ:St}{H:Hp}{R:V->V->Hp->Prop}(I:Inv X pins σ H s)
 (h:ta σ H λx H1=>tb σ H1 λy H2=>R x y H2) {Q:Value->Shared->Prop} {f:Value->Value->Sem Value}
 (hf: ∀v u s2 x y H2,Inv X pins σ H2 s2->RelV x v->RelV y u->R x y H2->wpAny (model X.prog X.w) X.A (f v u) Q X.xe s2):
 wpAny (model X.prog X.w) X.A (eval a X.env) (λv s₁=>wpAny (model X.prog X.w) X.A (eval b X.env) (λu s₂=>wpAny (model X.prog X.w) X.A (f v u) Q X.xe s₂) X.xe s₁) X.xe s:=by
 refine thn (ha pins s σ H _ I h) λv s1 ⟨x,H1,I1,r1,q1⟩=> ?_
 refine thn (hb pins s1 σ H1 _ I1 q1) λu s2 ⟨y,H2,I2,r2,q2⟩=> ?_
 exact hf v u s2 x y H2 I2 r1 r2 q2
theorem z7O{op:Operator}{r:R2}(ho:OpR X (binaryOp op) r)(ha:PE X a ta)(hb:PE X b tb):PE X (.BinOp a op b pos) (tOp r ta tb):=by
 intro pins s σ H Q I h
 exact wpAny_BinOp (zhu ha hb I h λv u s2 x y H2 I2 rx ry q=>ho pins s2 σ H2 x y v u Q I2 rx ry q)
theorem zew{op:UnaryOp}{r:V->Hp->VK->Prop}(ho:UnR X (unaryOp op) r)(ha:PE X a ta):PE X (.UnaryOp op a pos) (tUn r ta):=by
 intro pins s σ H Q I h
 exact UnaryOp_ (thn (ha pins s σ H _ I h) λv s1 ⟨x,H1,I1,r1,q1⟩=>ho pins s1 σ H1 x v Q I1 r1 q1)
theorem opI{f:Value->Value->Sem Value}{C:Int->Int->Prop}{g:Int->Int->Int}
 (rule: ∀(i j:Int) (t u:Tok) (s:Shared) (Q:Value->Shared->Prop) (E:Value->Shared->Prop),C i j->Q (.int (g i j) s.toks) {s with toks:=s.toks+1}->wpAny (model X.prog X.w) X.A (f (.int i t) (.int j u)) Q E s):
 OpR X f (rI C λi j=> .int (g i j)):=by
 intro pins s σ H x y v u Q I rx ry h
 obtain⟨i,j,rfl,rfl,hc,q⟩:=h
 obtain⟨t,rfl⟩:=rx
 obtain⟨t',rfl⟩:=ry
 exact rule i j t t' s _ _ hc ⟨.int (g i j),H,I.tok _,⟨_,rfl⟩,q⟩
theorem zjy{f:Value->Value->Sem Value}{g:Int->Int->Int}
 (rule: ∀(i j:Int) (t u:Tok) (s:Shared) (Q:Value->Shared->Prop) (E:Value->Shared->Prop),Q (.int (g i j) s.toks) {s with toks:=s.toks+1}->wpAny (model X.prog X.w) X.A (f (.int i t) (.int j u)) Q E s):
 OpR X f (rI0 λi j=> .int (g i j)):=by
 intro pins s σ H x y v u Q I rx ry h
 obtain⟨i,j,rfl,rfl,q⟩:=h
 obtain⟨t,rfl⟩:=rx
 obtain⟨t',rfl⟩:=ry
 exact rule i j t t' s _ _ ⟨.int (g i j),H,I.tok _,⟨_,rfl⟩,q⟩
theorem zha{f:Value->Value->Sem Value}{g:Int->Int->Bool}
 (rule: ∀(i j:Int) (t u:Tok) (s:Shared) (Q:Value->Shared->Prop) (E:Value->Shared->Prop),Q (.bool (g i j)) s->wpAny (model X.prog X.w) X.A (f (.int i t) (.int j u)) Q E s):
 OpR X f (rI0 λi j=> .bl (g i j)):=by
 intro pins s σ H x y v u Q I rx ry h
 obtain⟨i,j,rfl,rfl,q⟩:=h
 obtain⟨t,rfl⟩:=rx
 obtain⟨t',rfl⟩:=ry
 exact rule i j t t' s _ _ ⟨.bl (g i j),H,I,rfl,q⟩
def z9H(i j:Int):Prop:=0<j/\j<2^200
theorem zhv{x j:Int}(h1:0<j)(h2:j<2^200):Builtin.divisionGoesByPylong x j=false:=by
 refine PyProof.noPylong_of_log2 ?_
 have h3:j.natAbs.log2<200:=(Nat.log2_lt (by lia)).mpr (by lia)
 lia
def ze0(i j:Int):Prop:=0<=j/\j<=1000000/\i.natAbs<2^64
def z9I(i j:Int):Prop:=(-(2^64)<i/\i<2^64)\/(-(2^64)<j/\j<2^64)
theorem z9I.ok{i j:Int}(h:z9I i j):IntMulOk i j:=by
 rcases h with⟨h1,h2⟩|⟨h1,h2⟩
 .exact .of_left (intBits_le_64 h1 h2)
 .exact .of_right (intBits_le_64 h1 h2)
theorem zex:OpR X (binaryOp .Add) (rI0 λi j=> .int (i+j)):=zjy λ_ _ _ _ _ _ _ q=>add_int q
theorem zey:OpR X (binaryOp .Sub) (rI0 λi j=> .int (i -j)):=zjy λ_ _ _ _ _ _ _ q=>sub_int q
theorem zez:OpR X (binaryOp .Mult) (rI z9I λi j=> .int (i*j)):=opI λ_ _ _ _ _ _ _ hc q=>mul_int q hc.ok
theorem zcb:OpR X (binaryOp .FloorDiv) (rI z9H λi j=> .int (i/j)):=opI λi j _ _ _ _ _ hc q=>by
 have h1:(0:Int)<j:=hc.1
 have h2:j<2^200:=hc.2
 exact floordiv_int (by lia) (by rw[Int.fdiv_eq_ediv_of_nonneg i (by lia)];exact q) (.inl (zhv h1 h2))
theorem zeA:OpR X (binaryOp .Mod) (rI (λ_ j=>0<j) λi j=> .int (i %j)):=opI λi j _ _ _ _ _ hc q=>by
 have h1:(0:Int)<j:=hc
 exact mod_int' (by lia) (by rw[Int.fmod_eq_emod_of_nonneg i (by lia)];exact q)
theorem zeB:OpR X (binaryOp .Pow) (rI ze0 λi j=> .int (i^j.toNat)):=opI λ_ _ _ _ _ _ _ hc q=>pow_int_small hc.1 hc.2.1 hc.2.2 q
theorem unI{f:Value->Sem Value}{g:Int->Int}
 (rule: ∀(i:Int) (t:Tok) (s:Shared) (Q:Value->Shared->Prop) (E:Value->Shared->Prop),Q (.int (g i) s.toks) {s with toks:=s.toks+1}->wpAny (model X.prog X.w) X.A (f (.int i t)) Q E s):
 UnR X f (rU λi=> .int (g i)):=by
 intro pins s σ H x v Q I rx h
 obtain⟨i,rfl,q⟩:=h
 obtain⟨t,rfl⟩:=rx
 exact rule i t s _ _ ⟨.int (g i),H,I.tok _,⟨_,rfl⟩,q⟩
theorem zbh:UnR X (unaryOp .USub) (rU λi=> .int (-i)):=unI λ_ _ _ _ _ q=>neg_int q
end
def zjY:V->V->Bool
 | .non, .non=>true| .non, .int _=>true| .int _, .non=>true| .non, .bl _=>true| .bl _, .non=>true| .non, .str _=>true| .str _, .non=>true
 | .int _, .int _=>true| .bl _, .bl _=>true| .str _, .str _=>true| .byt _, .byt _=>true
 | .int _, .str _=>true| .str _, .int _=>true| .bl _, .str _=>true| .str _, .bl _=>true
 |_,_=>false
def rEq:R2:=λx y H Q=>zjY x y=true/\Q (.bl (decide (x=y))) H
theorem zcc{i j:Int}:decide (V.int i=V.int j)=(i==j):=by
 rw[D6]
 simp
theorem zeC{i j:Bool}:decide (V.bl i=V.bl j)=(i==j):=by
 rw[D6]
 simp
theorem z7P{i j:Str}:decide (V.str i=V.str j)=(i==j):=by
 rw[D6]
 simp
theorem zcd{i j:Array UInt8}:decide (V.byt i=V.byt j)=(i.toList==j.toList):=by
 rw[D6]
 cases i
 cases j
 simp
section
variable{X:Cx}{a b c:Expr}{ta tb tc:TE}{pos:Pos}
theorem G0{pins:List (Addr×Obj)}{σ:St}{H:Hp}{s:Shared}{Q:VK}{k k':Bool}(I:Inv X pins σ H s)(q:Q (.bl k) H)(e:k=k'):EP X pins σ Q (.bool k') s:=by
 subst e
 exact⟨.bl k,H,I,rfl,q⟩
theorem zhw:OpR X (compareOp .Eq) rEq:=by
 intro pins s σ H x y v u Q I rx ry h
 obtain⟨hs,q⟩:=h
 cases x with
 |non=>
  cases rx
  cases y with
  |non=>cases ry;exact PySem.EqNone.eq_none_none (G0 I q (by simp))
  |bl j=>cases ry;exact PySem.EqNone.eq_none_bool (G0 I q (by simp))
  |int j=>obtain⟨t',rfl⟩:=ry;exact PySem.EqNone.eq_none_int (G0 I q (by simp))
  |str j=>obtain⟨t',rfl⟩:=ry;exact PySem.EqNone.eq_none_str (G0 I q (by simp))
  |_=>exact absurd (show false=true from hs) i5
 |bl i=>
  cases rx
  cases y with
  |non=>cases ry;exact PySem.EqNone.eq_bool_none (G0 I q (by simp))
  |bl j=>cases ry;exact eq_bool (G0 I q zeC)
  |str j=>obtain⟨t',rfl⟩:=ry;exact PySem.EqMixed.eq_bool_str (G0 I q (by simp))
  |_=>exact absurd (show false=true from hs) i5
 |int i=>
  obtain⟨t,rfl⟩:=rx
  cases y with
  |non=>cases ry;exact PySem.EqNone.eq_int_none (G0 I q (by simp))
  |int j=>obtain⟨t',rfl⟩:=ry;exact eq_int (G0 I q zcc)
  |str j=>obtain⟨t',rfl⟩:=ry;exact PySem.EqMixed.eq_int_str (G0 I q (by simp))
  |_=>exact absurd (show false=true from hs) i5
 |str i=>
  obtain⟨t,rfl⟩:=rx
  cases y with
  |non=>cases ry;exact PySem.EqNone.eq_str_none (G0 I q (by simp))
  |bl j=>cases ry;exact PySem.EqMixed.eq_str_bool (G0 I q (by simp))
  |int j=>obtain⟨t',rfl⟩:=ry;exact PySem.EqMixed.eq_str_int (G0 I q (by simp))
  |str j=>obtain⟨t',rfl⟩:=ry;exact eq_str (G0 I q z7P)
  |_=>exact absurd (show false=true from hs) i5
 |byt i=>
  obtain⟨t,rfl⟩:=rx
  cases y with
  |byt j=>obtain⟨t',rfl⟩:=ry;exact W.eq_bytes (G0 I q zcd)
  |_=>exact absurd (show false=true from hs) i5
 |_=>cases y<;>exact absurd (show false=true from hs) i5
theorem zhx:OpR X (compareOp .Lt) (rI0 λi j=> .bl (decide (i<j))):=zha λ_ _ _ _ _ _ _ q=>lt_int q
theorem zhy:OpR X (compareOp .LtE) (rI0 λi j=> .bl (decide (i<=j))):=zha λ_ _ _ _ _ _ _ q=>le_int q
theorem zhz:OpR X (compareOp .Gt) (rI0 λi j=> .bl (decide (j<i))):=zha λ_ _ _ _ _ _ _ q=>gt_int q
theorem zhA:OpR X (compareOp .GtE) (rI0 λi j=> .bl (decide (j<=i))):=zha λ_ _ _ _ _ _ _ q=>ge_int q
theorem zeD:OpR X (compareOp .Is) (λx y H Q=>y= .non/\Q (.bl (decide (x= .non))) H):=by
 intro pins s σ H x y v u Q I rx ry h
 obtain⟨rfl,q⟩:=h
 cases ry
 refine is_none_gen (G0 I q ?_)
 cases x<;>first
  |(cases rx;rfl)
  |(obtain⟨t,rfl⟩:=rx;rfl)
theorem zce:OpR X (compareOp .IsNot) (λx y H Q=>y= .non/\Q (.bl (!decide (x= .non))) H):=by
 intro pins s σ H x y v u Q I rx ry h
 obtain⟨rfl,q⟩:=h
 cases ry
 refine isnot_none_gen (G0 I q ?_)
 cases x<;>first
  |(cases rx;rfl)
  |(obtain⟨t,rfl⟩:=rx;rfl)
theorem OpR.or{f:Value->Value->Sem Value}{r r':R2}(h:OpR X f r)(h':OpR X f r'):OpR X f (λx y H Q=>r x y H Q\/r' x y H Q):=by
 intro pins s σ H x y v u Q I rx ry q
 rcases q with q|q
 .exact h pins s σ H x y v u Q I rx ry q
 .exact h' pins s σ H x y v u Q I rx ry q
theorem Y5(b:Expr){op:CmpOp}(h:op≠ .In:=by decide)(h2:op≠ .NotIn:=by decide):behindInMarks op b=false:=by
 have e1:(op==CmpOp.In)=false:=by cases op<;>first|rfl|exact absurd rfl h
 have e2:(op==CmpOp.NotIn)=false:=by cases op<;>first|rfl|exact absurd rfl h2
 cases b<;>simp[behindInMarks,e1,e2]
theorem zcf{op:CmpOp}{r:R2}(ho:OpR X (compareOp op) r)(ha:PE X a ta)(hb:PE X b tb)(hm:behindInMarks op b=false):PE X (.Compare a [op] [b] pos) (tOp r ta tb):=by
 intro pins s σ H Q I h
 exact wpAny_Compare1 (zhu ha hb I h λv u s2 x y H2 I2 rx ry q=>ho pins s2 σ H2 x y v u Q I2 rx ry q) hm
def zeE(t:TE):TT:=λ σ H Q=>t σ H λx H'=> ∃k,x= .bl k/\Q k H'
theorem zcg{op:CmpOp}{r:R2}(ho:OpR X (compareOp op) r)(ha:PE X a ta)(hb:PE X b tb)(hm:behindInMarks op b=false):PT X (.Compare a [op] [b] pos) (zeE (tOp r ta tb)):=by
 intro pins s σ H Q I h
 refine wpAny_isTrue_Compare1 (thn (ha pins s σ H _ I h) λv s1 ⟨x,H1,I1,r1,q1⟩=>thn (hb pins s1 σ H1 _ I1 q1) λu s2 ⟨y,H2,I2,r2,q2⟩=>
  thn (ho pins s2 σ H2 x y v u _ I2 r1 r2 q2) λc s3 ⟨z,H3,I3,r3,k,e,q3⟩=> ?_) hm
 subst e
 cases r3
 exact wpAny_truthy_bool ⟨H3,I3,q3⟩
def z7Q(r r':R2)(ta tb tc:TE):TE:=λ σ H Q=>ta σ H λx H1=>tb σ H1 λy H2=>r x y H2 λz H3=> ∃k,z= .bl k/\
 (if k=true then tc σ H3 λw' H4=>r' y w' H4 Q else Q (.bl false) H3)
theorem z9J{op op':CmpOp}{r r':R2}(ho:OpR X (compareOp op) r)(ho':OpR X (compareOp op') r')(ha:PE X a ta)(hb:PE X b tb)(hc:PE X c tc)
 (hm:lastMarks [op,op'] [b,c]=false:=by with_unfolding_all rfl):PE X (.Compare a [op,op'] [b,c] pos) (z7Q r r' ta tb tc):=by
 intro pins s σ H Q I h
 refine Compare_chain (thn (ha pins s σ H _ I h) λv s1 ⟨x,H1,I1,r1,q1⟩=>chain_link (thn (hb pins s1 σ H1 _ I1 q1) λu s2 ⟨y,H2,I2,r2,q2⟩=>
  thn (ho pins s2 σ H2 x y v u _ I2 r1 r2 q2) λd s3 ⟨z,H3,I3,r3,k,e,q3⟩=> ?_)) hm
 subst e
 cases r3
 refine wpAny_truthy_bool ?_
 cases k with
 |false=>exact ite_ff ⟨.bl false,H3,I3,rfl,q3⟩
 |true=>exact ite_tt (chain_last (thn (hc pins s3 σ H3 _ I3 q3) λw' s4 ⟨z',H4,I4,r4,q4⟩=>ho' pins s4 σ H4 y z' u w' Q I4 r2 r4 q4))
theorem z9K{op op':CmpOp}{r r':R2}(ho:OpR X (compareOp op) r)(ho':OpR X (compareOp op') r')(ha:PE X a ta)(hb:PE X b tb)(hc:PE X c tc)
 (hm:lastMarks [op,op'] [b,c]=false:=by with_unfolding_all rfl):PT X (.Compare a [op,op'] [b,c] pos) (zeE (z7Q r r' ta tb tc)):=by
 intro pins s σ H Q I h
 refine isTrue_chain (thn (ha pins s σ H _ I h) λv s1 ⟨x,H1,I1,r1,q1⟩=>test_link (thn (hb pins s1 σ H1 _ I1 q1) λu s2 ⟨y,H2,I2,r2,q2⟩=>
  thn (ho pins s2 σ H2 x y v u _ I2 r1 r2 q2) λd s3 ⟨z,H3,I3,r3,k,e,q3⟩=> ?_)) hm
 subst e
 cases r3
 refine wpAny_truthy_bool ?_
 cases k with
 |false=>
  obtain⟨k',e',q'⟩:=q3
  cases e'
  exact ite_ff ⟨H3,I3,q'⟩
 |true=>
  refine ite_tt (test_last (thn (hc pins s3 σ H3 _ I3 q3) λw' s4 ⟨z',H4,I4,r4,q4⟩=>thn (ho' pins s4 σ H4 y z' u w' _ I4 r2 r4 q4) λd' s5 ⟨z2,H5,I5,r5,k2,e2,q5⟩=> ?_))
  subst e2
  cases r5
  exact wpAny_truthy_bool ⟨H5,I5,q5⟩
def TruV(K:W.Frag)(x:V)(H:Hp)(k:Bool):Prop:=
 match x with
 | .non=>k=false
 | .bl b=>k=b
 | .int i=>k=(i !=0)
 | .str y=>y.length<=sizeLine/\k=((y.length:Int) !=0)
 | .byt y=>y.size<=sizeLine/\k=((y.size:Int) !=0)
 | .ref p=>(∃xs,SqL K H p xs/\k= !xs.isEmpty)\/(∃xs,SqT K H p xs/\k= !xs.isEmpty)\/∃kvs,H p=some (.dK kvs)/\k= !kvs.isEmpty
 |_=>False
theorem z6J{κ:Type}{kvs:List (κ×V)}{vs:List (κ×Value)}(r:KV kvs vs):(!vs.isEmpty)= !kvs.isEmpty:=by
 cases r<;>rfl
theorem z31{xs:List V}{its:List Value}(r:W0 xs its):(!its.toArray.isEmpty)= !xs.isEmpty:=by
 cases r<;>simp
theorem z32:(sizeLine:Nat)<2^63:=by rw[sizeLine_eq];decide
theorem zeF:zjX X (λx H Q=> ∃k,TruV X.K x H k/\Q k H):=by
 intro pins s σ H x v Q I rx h
 obtain⟨k,e,q⟩:=h
 have hl:=z32
 have hs:sizeLine=16777216:=sizeLine_eq
 cases x with
 |non=>
  cases rx
  have e':k=false:=e
  subst e'
  exact truthy_none ⟨H,I,q⟩
 |bl b=>
  cases rx
  have e':k=b:=e
  subst e'
  exact wpAny_truthy_bool ⟨H,I,q⟩
 |int i=>
  obtain⟨t,rfl⟩:=rx
  have e':k=(i !=0):=e
  subst e'
  exact PySem.P.truthy_int ⟨H,I,q⟩
 |str y=>
  obtain⟨t,rfl⟩:=rx
  obtain⟨hy,e'⟩:y.length<=sizeLine/\k=((y.length:Int) !=0):=e
  subst e'
  exact PySem.P.truthy_str (by lia) ⟨H,I.tok _,q⟩
 |byt y=>
  obtain⟨t,rfl⟩:=rx
  obtain⟨hy,e'⟩:y.size<=sizeLine/\k=((y.size:Int) !=0):=e
  subst e'
  exact W.truthy_bytes (by lia) ⟨H,I.tok _,q⟩
 |ref p=>
  cases rx
  have e':(∃xs,SqL X.K H p xs/\k= !xs.isEmpty)\/(∃xs,SqT X.K H p xs/\k= !xs.isEmpty)\/∃kvs,H p=some (.dK kvs)/\k= !kvs.isEmpty:=e
  rcases e' with⟨xs,hx,e'⟩|⟨xs,hx,e'⟩|⟨kvs,hx,e'⟩
  .subst e'
   obtain⟨its,r,pl,hz⟩:=I.list hx
   have hlen:=r.length
   exact wpAny_truthy_list pl.isList (by erw[i3];lia) ⟨H,I.tok _,by rw[z31 r];exact q⟩
  .subst e'
   obtain⟨its,r,pl,hz⟩:=I.tuple hx
   have hlen:=r.length
   exact truthy_tuple pl (by erw[i3];lia) ⟨H,I.tok _,by rw[z31 r];exact q⟩
  .subst e'
   obtain⟨hz,hS,vs,r,m⟩:kvs.length<=sizeLine/\(p==sysModules)=false/\∃vs,KV kvs vs/\s.heap.DictOf (Y6 X.prog X.w) p vs:=I.hok p _ hx
   have hlen:kvs.length=vs.length:=Paired.length r
   exact wpAny_truthy_dict hS m (by lia) ⟨H,I.tok _,by rw[z6J r];exact q⟩
 |_=>exact(show False from e).elim
theorem z9L(ha:PE X a ta)(he: ∀whole,isTrue a X.env whole=(do let v<-whole;standAt a.pos;holding [v] (truthy v))):
 PT X a (λ σ H Q=>ta σ H λx H'=> ∃k,TruV X.K x H' k/\Q k H'):=by
 intro pins s σ H Q I h
 exact isTrue_plain (thn (ha pins s σ H _ I h) λv s1 ⟨x,H1,I1,r1,q1⟩=>zeF pins s1 σ H1 x v Q I1 r1 q1) (he _)
theorem z6K:OpR X (binaryOp .Add) (λx y H Q=> ∃i j,x= .str i/\y= .str j/\i.length+j.length<=sizeLine/\Q (.str (i++j)) H):=by
 intro pins s σ H x y v u Q I rx ry h
 obtain⟨i,j,rfl,rfl,hz,q⟩:=h
 obtain⟨t,rfl⟩:=rx
 obtain⟨t',rfl⟩:=ry
 exact add_str (λt' tk=>⟨.str (i++j),H,I.tok _,⟨_,rfl⟩,q⟩) hz
theorem z2N{x:V}{us:List Value}(r:W0 [x] us): ∃u,us=[u]/\RelV x u:=by
 cases r with
 |cons r1 r2=>cases r2;exact⟨_,rfl,r1⟩
theorem z9M{x y:V}{us:List Value}(r:W0 [x,y] us): ∃u w',us=[u,w']/\RelV x u/\RelV y w':=by
 cases r with
 |cons r1 r2=>
  cases r2 with
  |cons r3 r4=>cases r4;exact⟨_,_,rfl,r1,r3⟩
theorem z9N:CallR X (.builtin "abs") (λxs H Q=> ∃i,xs=[.int i]/\Q (.int (if i<0 then -i else i)) H):=by
 intro pins s σ H xs us Q I r h
 obtain⟨i,rfl,q⟩:=h
 obtain⟨u,rfl,t,rfl⟩:=z2N r
 exact call_abs_int λu tk=>⟨.int (if i<0 then -i else i),H,I.tok _,⟨_,rfl⟩,q⟩
theorem z7R(hc:X.calm=true):CallR X (.builtin "max") (λxs H Q=> ∃i j,xs=[.int i, .int j]/\Q (.int (if j>i then j else i)) H):=by
 intro pins s σ H xs us Q I r h
 obtain⟨i,j,rfl,q⟩:=h
 obtain⟨u,w',rfl,⟨t,rfl⟩,⟨t',rfl⟩⟩:=z9M r
 refine max_two_ints (I.ok.hd hc) λh' tk k=>⟨_,H,I.kept k, ?_,q⟩
 by_cases hj:j>i
 .rw[if_pos hj,if_pos hj];exact⟨_,rfl⟩
 .rw[if_neg hj,if_neg hj];exact⟨_,rfl⟩
theorem z7S(hc:X.calm=true):CallR X (.builtin "min") (λxs H Q=> ∃i j,xs=[.int i, .int j]/\Q (.int (if j<i then j else i)) H):=by
 intro pins s σ H xs us Q I r h
 obtain⟨i,j,rfl,q⟩:=h
 obtain⟨u,w',rfl,⟨t,rfl⟩,⟨t',rfl⟩⟩:=z9M r
 refine min_two_ints (I.ok.hd hc) λh' tk k=>⟨_,H,I.kept k, ?_,q⟩
 by_cases hj:j<i
 .rw[if_pos hj,if_pos hj];exact⟨_,rfl⟩
 .rw[if_neg hj,if_neg hj];exact⟨_,rfl⟩
theorem z7T:CallR X (.type "int") (λxs H Q=>(∃i,xs=[.int i]/\Q (.int i) H)\/∃k,xs=[.bl k]/\Q (.int (if k then 1 else 0)) H):=by
 intro pins s σ H xs us Q I r h
 rcases h with⟨i,rfl,q⟩|⟨k,rfl,q⟩
 .obtain⟨u,rfl,t,rfl⟩:=z2N r
  exact call_int_int ⟨.int i,H,I,⟨_,rfl⟩,q⟩
 .obtain⟨u,rfl,r1⟩:=z2N r
  cases r1
  exact call_int_bool ⟨.int (if k then 1 else 0),H,I.tok _,⟨_,rfl⟩,q⟩
end
structure ObjM(h:Heap)(x dx C:Addr)(mA:Str->Option Value):Prop where
 obj:h.get? x=some (W.instObj C dx)
 ns:h.Ns1 dx mA
 ne:dx≠x
theorem z7U{h:Heap}{dx:Addr}{mA:Str->Option Value}(n:h.Ns1 dx mA): ∃od,h.get? dx=some od/\∀name,W.lookIn name od=some (mA name):=by
 obtain⟨o,es,ep,ho,hd,hk,_,hm⟩:=n
 refine⟨o,ho,λname=> ?_⟩
 have e:=hm name
 unfold nsFind findBy at e
 rw[<-Array.find?_toList] at e
 unfold W.lookIn
 rw[hd]
 dsimp only
 split
 .rename_i y q
  rw[q] at e
  exact congrArg some e
 .rename_i q
  rw[q] at e
  have a:es.toList.any (·.refKey)=false:=by
   rw[List.any_eq_false]
   intro y hy
   obtain⟨z,t,hkey⟩:=hk y (Array.mem_toList_iff.mp hy)
   simp[DictEntry.refKey,hkey]
  have a': ¬es.toList.any (·.refKey)=true:=by rw[a];exact i5
  rw[if_neg a']
  exact congrArg some e
theorem ObjM.look{h:Heap}{x dx C:Addr}{mA:Str->Option Value}(I:ObjM h x dx C mA): ∃od,W.InstAt h x (W.instObj C dx) C (some od)/\∀name,W.lookIn name od=some (mA name):=
 let⟨od,ho,hl⟩:=z7U I.ns
 ⟨od,⟨I.obj,rfl,rfl,ho⟩,hl⟩
section
variable{prog:Program}{w:World}{A:Around}{E:Value->Shared->Prop}{s:Shared}{K:W.Frag}{x dx C f:Addr}{mA:Str->Option Value}{name:Str}{v:Value}
theorem zch{expr:Bool}{Q:Value->Shared->Prop}(X:K.In s.heap)(I:ObjM s.heap x dx C mA)(hg:W.plainGet K C name=true)(hh:W.hasDictIn K C=true)
 (ha:W.findIn K (.ref C) name=some none) (hv:mA name=some v) (hv':W.handedIn v=true) (h:Q v {s with toks:=s.toks+1}):
 wpAny (model prog w) A (getAttr (.ref x) name expr) Q E s:=by
 obtain⟨od,J,hl⟩:=I.look
 exact W.get_value X J (W.plainGet_of hg).1 (W.findObj_own hh ha rfl (by rw[hl,hv])) hv' h
theorem z9O{pl:Sem Bool}{Q:Value×List Value->Shared->Prop}(X:K.In s.heap)(I:ObjM s.heap x dx C mA)(hg:W.plainGet K C name=true)
 (hf:W.findIn K (.ref C) name=some (some (.ref f))) (ht:W.isFn K (.ref f)=true) (hv:mA name=none) (h:Q (.ref f,[.ref x]) s):
 wpAny (model prog w) A (getMethod (.ref x) name pl) Q E s:=by
 obtain⟨od,J,hl⟩:=I.look
 exact W.method_fn X J (W.plainGet_of hg).1 (W.plainGet_of hg).2 hf (beq_iff_eq.mp ht) (by show(W.lookIn name od).map (·.isSome)=some false;rw[hl,hv];rfl) h
theorem zci{ns:List Str}{Q:Unit->Shared->Prop}(X:K.In s.heap)(I:ObjM s.heap x dx C mA)
 (hs:W.findIn K (.ref C) "__setattr__" =some (some (.builtin "object.__setattr__"))) (hp:W.plainOver K C=true) (ht:W.takerIn K C name=some none) (hh:W.hasDictIn K C=true)
 (hw:PySem.Within mA ns) (hsz:ns.length<=sizeLine)
 (h: ∀h',ObjM h' x dx C (λy=>if y=name then some v else mA y)->Heap.SameBut dx s.heap h'->Q () {s with heap:=h',toks:=s.toks+2}):
 wpAny (model prog w) A (setAttr (.ref x) name v) Q E s:=by
 obtain⟨od,J,hl⟩:=I.look
 refine W.set_plain X J hs (W.osa_open (s:={s with toks:=s.toks+1}) (r:=none) X J hp ht λb=> ?_)
 obtain⟨cd,hc,hd'⟩:=W.any_some hh
 have hx:s.heap.get? x=some ⟨.ref C,some dx, .plain, #[]⟩:=I.obj
 refine wpAny_bind (wpAny_pure (wpAny_bind (wpAny_bind (wpAny_loadPart hx (wpAny_bind (W.Looks.here (s:={s with toks:=s.toks+1}) (W.looks_clsIn X hc) ?_))))))
 rw[hd']
 refine wpAny_pure (a:=some dx) (wpAny_bind (wpAny_pure (wpAny_bind ?_)))
 refine wpAny_nsSet1 (s:={s with toks:=s.toks+1}) I.ns λh' hn2 hs2=> ?_
 obtain⟨oD,esD,epD,hoD,hdD,hcD⟩:=hn2.count (PySem.Within.cons name v hw)
 refine wpAny_bind (wpAny_lookBehind hoD (by rw[hdD];exact pastItsLine_dict (n9 hcD (by rw[i0];lia))) ?_)
 exact wpAny_pure (h _ ⟨(hs2.2 _ (Ne.symm I.ne)).trans I.obj,hn2,I.ne⟩ hs2)
theorem z9P{R:Result->Shared->Prop}{vs:List Value}{kw:List (Str×Value)}(X:K.In s.heap)(hm:W.makesIn K C=true)
 (hi:W.findIn K (.ref C) "__init__" =some (some (.ref f))) (hf:W.typeIn K (.ref f)=some (.type "function"))
 (h:codeAny (model prog w) (A.under (.builtin "type.__call__" ⟨.ref C::vs,kw⟩)) (.call (.ref f) ⟨.ref (s.heap.objs.size+1)::vs,kw⟩) (W.InitBack (s.heap.objs.size+1) R)
  {s with heap:=(s.heap.push W.emptyDict).push (W.instObj C s.heap.objs.size)}):
 codeAny (model prog w) A (.call (.ref C) ⟨vs,kw⟩) R s:=by
 obtain⟨hh,g,d,t,os⟩:=s
 exact W.make_core (W.makes_of X hm) (W.looks_findIn X hi) (λself=>W.bind_fn X self hf) (.inl rfl) h
end
def z33(f:Str)(v:V):List (Str×V)->List (Str×V)
 |[]=>[(f,v)]
 |(g,x)::r=>if g=f then(g,v)::r else(g,x)::z33 f v r
theorem z1X(f g:Str)(v:V): ∀fs:List (Str×V),(z33 f v fs).lookup g=if g=f then some v else fs.lookup g
 |[]=>by
  show A5 g [(f,v)]=_
  by_cases h:g=f
  .have hb:(g==f)=true:=beq_iff_eq.mpr h
   erw[A5,hb,if_pos h]
  .have hb:(g==f)=false:=beq_eq_false_iff_ne.mpr h
   erw[A5,hb,if_neg h]
 |(k,x)::r=>by
  have ih:=z1X f g v r
  rw[show z33 f v ((k,x)::r)=(if k=f then(k,v)::r else(k,x)::z33 f v r) from rfl]
  by_cases hk:k=f
  .rw[if_pos hk]
   by_cases h:g=k
   .have hb:(g==k)=true:=beq_iff_eq.mpr h
    erw[A5,hb,if_pos (h.trans hk)]
   .have hb:(g==k)=false:=beq_eq_false_iff_ne.mpr h
    erw[A5,hb,if_neg (λe:g=f=>h (e.trans hk.symm))]
  .rw[if_neg hk]
   by_cases h:g=k
   .have hb:(g==k)=true:=beq_iff_eq.mpr h
    erw[A5,hb,if_neg (λe:g=f=>hk (h.symm.trans e))]
   .have hb:(g==k)=false:=beq_eq_false_iff_ne.mpr h
    erw[A5,hb]
    exact ih
theorem z1Y(f:Str)(v:V): ∀fs:List (Str×V),f∈(z33 f v fs).map (·.1)/\∀g,g∈fs.map (·.1)->g∈(z33 f v fs).map (·.1)
 |[]=>⟨by simp[z33],λg h=>by simp at h⟩
 |(k,x)::r=>by
  obtain⟨i1,i2⟩:=z1Y f v r
  rw[show z33 f v ((k,x)::r)=(if k=f then(k,v)::r else(k,x)::z33 f v r) from rfl]
  by_cases hk:k=f
  .rw[if_pos hk]
   subst hk
   exact⟨by simp,λg h=>by simpa using h⟩
  .rw[if_neg hk]
   refine⟨?_,λg h=> ?_⟩
   .rw[c8]
    exact b7 _ i1
   .rw[c8] at h⊢
    rcases c9.mp h with e|e
    .exact c9.mpr (.inl e)
    .exact b7 _ (i2 g e)
theorem z1Z(f:Str)(v:V): ∀fs:List (Str×V),(z33 f v fs).length<=fs.length+1
 |[]=>by simp[z33]
 |(k,x)::r=>by
  have ih:=z1Z f v r
  rw[show z33 f v ((k,x)::r)=(if k=f then(k,v)::r else(k,x)::z33 f v r) from rfl]
  by_cases hk:k=f
  .rw[if_pos hk,i0,i0];lia
  .rw[if_neg hk,i0,i0];lia
theorem RelO.some_of{v:V}{o:Option Value}(r:RelO (some v) o): ∃u,o=some u/\RelV v u:=by
 cases o with
 |none=>exact(show False from r).elim
 |some u=>exact⟨u,rfl,r⟩
theorem RelO.none_of{o:Option Value}(r:RelO none o):o=none:=by
 cases o with
 |none=>rfl
 |some u=>exact(show False from r).elim
theorem z7V{v:V}{u:Value}(r:RelV v u):W.handedIn u=true:=by
 cases v with
 |non=>cases(show u=Value.none from r);rfl
 |bl b=>cases(show u=Value.bool b from r);rfl
 |int i=>obtain⟨t,e⟩:=(show ∃t,u=Value.int i t from r);cases e;rfl
 |str x=>obtain⟨t,e⟩:=(show ∃t,u=Value.str x t from r);cases e;rfl
 |byt b=>obtain⟨t,e⟩:=(show ∃t,u=Value.bytes b t from r);cases e;rfl
 |flt b=>obtain⟨t,e⟩:=(show ∃t,u=Value.float b t from r);cases e;rfl
 |ref a=>cases(show u=Value.ref a from r);rfl
 |ty n=>cases(show u=Value.type n from r);rfl
section
variable{P:Program}{w:World}{H H':Hp}{h h':Heap}{a C dx:Addr}{fs fs':List (Str×V)}
theorem z59(hok:HOk P w H h)(e:H a=some (.ins C dx fs)): ∃mA,ObjM h a dx C mA/\(∀f,RelO (fs.lookup f) (mA f))/\PySem.Within mA (fs.map (·.1))/\fs.length<=1000/\H dx=some (.own a):=by
 obtain⟨d,z,ne,ob,mA,n,r,q⟩:=(show J7 P w H h a (.ins C dx fs) from hok a _ e)
 exact⟨mA,⟨ob,n,ne⟩,r,q,z,d⟩
end
structure Cls(K:W.Frag)(C:Addr):Prop where
 pg:W.plainGet K C Str.empty=true
 hd:W.hasDictIn K C=true
 po:W.plainOver K C=true
 sa:W.findIn K (.ref C) "__setattr__" =some (some (.builtin "object.__setattr__"))
theorem Cls.get{K:W.Frag}{C:Addr}(c:Cls K C)(f:Str):W.plainGet K C f=true:=c.pg
def v2(K:W.Frag)(C:Addr)(f:Str):Prop:=W.findIn K (.ref C) f=some none
theorem v2.taker{K:W.Frag}{C:Addr}{f:Str}(n:v2 K C f):W.takerIn K C f=some none:=by
 unfold W.takerIn
 rw[show W.findIn K (.ref C) f=some none from n]
 rfl
structure Con(K:W.Frag)(C:Addr)(f:Str)(v:V)(u:Value):Prop where
 at_:W.findIn K (.ref C) f=some (some u)
 rel:RelV v u
 get:W.specialIn K u "__get__" =some none
 cp:W.copiedNames.contains f=false
structure z7u(K:W.Frag)(C:Addr)(m:Str)(f:Addr):Prop where
 at_:W.findIn K (.ref C) m=some (some (.ref f))
 fn:W.isFn K (.ref f)=true
 kp:W.keepIn K (.ref f)=true
section
variable{X:Cx}{pins:List (Addr×Obj)}{σ:St}{H:Hp}{s:Shared}{a C dx:Addr}{fs:List (Str×V)}{f:Str}{v:V}{A:Around}{E:Value->Shared->Prop}
theorem z6L{b:Bool}{Q:Value->Shared->Prop}(I:Inv X pins σ H s)(e:H a=some (.ins C dx fs))(c:Cls X.K C)(n:v2 X.K C f)(l:fs.lookup f=some v)
 (h: ∀u s',Inv X pins σ H s'->RelV v u->Q u s'):wpAny (model X.prog X.w) A (getAttr (.ref a) f b) Q E s:=by
 obtain⟨mA,O,r,_,_,_⟩:=z59 I.hok e
 obtain⟨u,hu,ru⟩:=RelO.some_of (v:=v) (o:=mA f) (by rw[<-l];exact r f)
 exact zch I.kIn O (c.get f) c.hd n hu (z7V ru) (h u _ (I.tok _) ru)
theorem z1g{m:Str}{g:Addr}{pl:Sem Bool}{Q:Value×List Value->Shared->Prop}(I:Inv X pins σ H s)(e:H a=some (.ins C dx fs))(c:Cls X.K C)(k:z7u X.K C m g)(l:fs.lookup m=none)
 (h:Q (.ref g,[.ref a]) s):wpAny (model X.prog X.w) A (getMethod (.ref a) m pl) Q E s:=by
 obtain⟨mA,O,r,_,_,_⟩:=z59 I.hok e
 have hn:mA m=none:=RelO.none_of (by rw[<-l];exact r m)
 exact z9O I.kIn O (c.get m) k.at_ k.fn hn h
theorem z6M{y:V}{u:Value}{Q:Unit->Shared->Prop}(I:Inv X pins σ H s)(e:H a=some (.ins C dx fs))(c:Cls X.K C)(n:v2 X.K C f)(hl:fs.length<1000)(ry:RelV y u)
 (h: ∀s',Inv X pins σ (upd H a (.ins C dx (z33 f y fs))) s'->Q () s'):wpAny (model X.prog X.w) A (setAttr (.ref a) f u) Q E s:=by
 obtain⟨mA,O,r,wi,_,ho⟩:=z59 I.hok e
 have hz:(fs.map (·.1)).length<=sizeLine:=by rw[l0,sizeLine_eq];lia
 refine zci I.kIn O c.sa c.po n.taker c.hd wi hz λh' O' sb=>h _ ?_
 have hd: ∃o,h'.get? dx=some o:=let⟨o,_,_,e',_⟩:=O'.ns;⟨o,e'⟩
 refine I.write (x:=a) (e:=dx) (by rw[e];exact True.intro) (.inr ho) (λb q hb z=>(sb.2 b hb).trans z) hd ?_
 refine⟨by rw[y4 O.ne];exact ho, ?_,O.ne,O'.obj,_,O'.ns,λg=> ?_,λg hg=> ?_⟩
 .have:=z1Z f y fs;lia
 .show RelO ((z33 f y fs).lookup g) (if g=f then some u else mA g)
  rw[z1X]
  by_cases q:g=f
  .rw[if_pos q,if_pos q];exact ry
  .rw[if_neg q,if_neg q];exact r g
 .by_cases q:g=f
  .rw[q];exact(z1Y f y fs).1
  .refine(z1Y f y fs).2 g (wi g λz=>hg ?_)
   show(if g=f then some u else mA g)=none
   rw[if_neg q];exact z
theorem Inv.made(I:Inv X pins σ H s):Inv X pins σ (upd (upd H s.heap.objs.size (.own (s.heap.objs.size+1))) (s.heap.objs.size+1) (.ins C s.heap.objs.size []))
 {s with heap:=(s.heap.push W.emptyDict).push (W.instObj C s.heap.objs.size)}:=by
 have e1:(s.heap.push W.emptyDict).get? s.heap.objs.size=some W.emptyDict:=Heap.get?_push_size s.heap rfl
 have e2:((s.heap.push W.emptyDict).push (W.instObj C s.heap.objs.size)).get? (s.heap.objs.size+1)=some (W.instObj C s.heap.objs.size):=by
  have:=Heap.get?_push_size (s.heap.push W.emptyDict) (o:=W.instObj C s.heap.objs.size) rfl
  rwa [Heap.size_push] at this
 have e3:(s.heap.push W.emptyDict).Ns s.heap.objs.size (λ_=>none):=⟨W.emptyDict, #[],_,e1,rfl,(λe he=>absurd he (by simp)),λ_=>rfl⟩
 have I1:=I.laid (a:=s.heap.objs.size) (o:= .own (s.heap.objs.size+1)) (h':=s.heap.push W.emptyDict) (t':=s.toks) (λb u q=>Heap.get?_push_of_some _ q) (c6 _) ⟨_,e1⟩
 refine I1.laid (a:=s.heap.objs.size+1) (o:= .ins C s.heap.objs.size []) (t':=s.toks) (λb u q=>Heap.get?_push_of_some _ q) (N9 (Heap.size_push _ _)) ?_
 have ne:s.heap.objs.size≠s.heap.objs.size+1:=l8 (s0 _)
 refine⟨by rw[y4 ne,Z1],A6 _,ne,e2,λ_=>none,(Heap.Ns1.of_empty e3).at λo q=>Heap.get?_push_of_some _ q,λ_=>True.intro,λy hy=>absurd rfl hy⟩
theorem zcj{prog:Program}{w:World}{env:Env}{e:Expr}{f:Str}{pos:Pos}{s:Shared}{Q:Value->Shared->Prop}(hb:attributeBase e f env (eval e env)=eval e env)
 (h:wpAny (model prog w) A (eval e env) (λo s₁=>wpAny (model prog w) A (getAttr o f true) Q E s₁) E s):wpAny (model prog w) A (eval (.Attribute e f pos) env) Q E s:=
 Attribute_any_ h (by rw[arm_eval_Attribute,hb])
end
def zjZ(K:W.Frag)(ta:TE)(f:Str):TE:=λ σ H Q=>ta σ H λx H1=> ∃a C dx fs v,x= .ref a/\H1 a=some (.ins C dx fs)/\Cls K C/\v2 K C f/\fs.lookup f=some v/\Q v H1
def zk0(K:W.Frag)(ta tv:TE)(f:Str):TS:=λD σ H=>tv σ H λy H1=>ta σ H1 λx H2=> ∃a C dx fs,x= .ref a/\H2 a=some (.ins C dx fs)/\Cls K C/\v2 K C f/\fs.length<1000/\
 D.nx σ (upd H2 a (.ins C dx (z33 f y fs)))
section
variable{X:Cx}{o e value:Expr}{f:Str}{pos pos' tpos:Pos}{ta tv:TE}
theorem zeG(he:PE X e ta)(hb:attributeBase e f X.env (eval e X.env)=eval e X.env):PE X (.Attribute e f pos) (zjZ X.K ta f):=by
 intro pins s σ H Q I h
 refine zcj hb (thn (he pins s σ H _ I h) λu s1 ⟨x,H1,I1,rx,a,C,dx,fs,v,ex,ea,c,n,l,q⟩=> ?_)
 subst ex
 obtain rfl:u=Value.ref a:=rx
 exact z6L I1 ea c n l λu' s2 I2 ru=>⟨v,H1,I2,ru,q⟩
theorem zeH(ha:PE X o ta)(hv:PE X value tv)(hs:swapsWith value (some (.Attribute o f pos')) pos.line X.env=pure false):PS X (.Assign [.Attribute o f pos'] value pos) (zk0 X.K ta tv f):=by
 intro pins s σ H D I h
 refine plainObj_wpAny_Assign_Attribute (thn (hv pins s σ H _ I h) λu s1 ⟨y,H1,I1,ry,q⟩=>thn (ha pins s1 σ H1 _ I1 q) λov s2 ⟨x,H2,I2,rx,a,C,dx,fs,ex,ea,c,n,l,q2⟩=> ?_) hs
 subst ex
 obtain rfl:ov=Value.ref a:=rx
 exact z6M I2 ea c n l ry λs3 I3=>⟨σ,_,I3,q2⟩
end
section
variable{X:Cx}{pins:List (Addr×Obj)}{σ:St}{H:Hp}{s:Shared}{A:Around}{E:Value->Shared->Prop}{Q:Value->Shared->Prop}{c:Value}{b:Bool}
inductive TyOf(K:W.Frag)(H:Hp):V->Value->Prop where
 |non:TyOf K H .non (.type "NoneType")
 |bl (x:Bool):TyOf K H (.bl x) (.type "bool")
 |int (i:Int):TyOf K H (.int i) (.type "int")
 |str (x:Str):TyOf K H (.str x) (.type "str")
 |flt (x:UInt64):TyOf K H (.flt x) (.type "float")
 |lst {a:Addr} {xs:List V} (e:H a=some (.lst xs)):TyOf K H (.ref a) (.type "list")
 |frz {a:Addr} {o:Obj} {xs:List V} (e:H a=some (.frz o (.lst xs))):TyOf K H (.ref a) (.type "list")
 |tup {a:Addr} {xs:List V} (e:H a=some (.tup xs)):TyOf K H (.ref a) (.type "tuple")
 |dK {a:Addr} {kvs:List (Key×V)} (e:H a=some (.dK kvs)):TyOf K H (.ref a) (.type "dict")
 |dT {a:Addr} {kvs:List (NK×V)} (e:H a=some (.dT kvs)):TyOf K H (.ref a) (.type "dict")
 |ins {a C dx:Addr} {fs:List (Str×V)} (e:H a=some (.ins C dx fs)) (cl:Cls K C) (ha:W.findIn K (.ref C) "__class__" =some (some (.builtin "object.__class__")))
  (hn:W.specialIn K (.builtin "object.__class__") "__get__" =some (some (.builtin "getset_descriptor.__get__"))) (htk:W.takesIn K (.builtin "object.__class__")=some true)
  (hm:W.mroIn K C (.type "object")=some true):TyOf K H (.ref a) (.ref C)
end
structure U9(k:Nat)(A:Around):Prop where
 hd:A.handled=none
 dp:A.depth+3*k+5<recursionLimit
 un:A.units+16*k+200<cLine
 gd:A.guards=some []
theorem U9.mono{j k:Nat}{A:Around}(r:U9 k A)(h:j<=k):U9 j A:=⟨r.hd,by have:=r.dp;lia,by have:=r.un;lia,r.gd⟩
theorem U9.deeper{k:Nat}{A:Around}(r:U9 (k+1) A)(env:Env):U9 k (A.deeper env):=
 ⟨r.hd,by have:=r.dp;show A.depth+1+3*k+5<_;lia,by have:=r.un;show A.units+3+16*k+200<_;lia,r.gd⟩
theorem z6N{A:Around}{C:Addr}{us:List Value}{kw:List (Str×Value)}:(A.under (.builtin "type.__call__" ⟨.ref C::us,kw⟩)).depth=A.depth+1:=by
 first|rfl|simp[Around.under,Code.weight,Code.isCreation,Code.isGuard,Code.isCaller,Code.frames,Code.isFrame,guardIds]
theorem z6O{A:Around}{C:Addr}{us:List Value}{kw:List (Str×Value)}:(A.under (.builtin "type.__call__" ⟨.ref C::us,kw⟩)).units=A.units+1:=by
 first|rfl|simp[Around.under,Code.cUnits,Code.frames,Code.isFrame]
theorem U9.make{k:Nat}{A:Around}(r:U9 (k+1) A)(C:Addr)(us:List Value)(kw:List (Str×Value)):U9 k (A.under (.builtin "type.__call__" ⟨.ref C::us,kw⟩)):=
 ⟨r.hd,by have:=r.dp;rw[z6N];lia,by have:=r.un;rw[z6O];lia,by first|exact r.gd|simpa[Around.under] using r.gd⟩
theorem U9.depth{k:Nat}{A:Around}(r:U9 k A):A.depth<recursionLimit:=by have:=r.dp;lia
theorem U9.units{k:Nat}{A:Around}(r:U9 k A):A.units+64<cLine:=by have:=r.un;lia
def zeI:TA:=λ_ H Q=>Q [] H
def zck(ta:TE)(tr:TA):TA:=λ σ H Q=>ta σ H λx H1=>tr σ H1 λxs H2=>Q (x::xs) H2
section
variable{X:Cx}{e:Expr}{es:List Expr}{te:TE}{t:TA}{pos:Pos}
theorem V5:PA X [] zeI:=λ_ _ _ _ H Q I h=>Calls.spliced_nil ⟨[],H,I, .nil,h⟩
theorem Z9(ha:PE X e te)(hr:PA X es t)(hs:starEach (e::es) X.env=(false,eval e X.env)::starEach es X.env:=by rfl):PA X (e::es) (zck te t):=by
 intro pos pins s σ H Q I h
 rw[hs]
 show wpAny _ _ (spliced ((false,eval e X.env)::backTo pos (starEach es X.env))) _ _ s
 refine Calls.spliced_cons (thn (ha pins s σ H _ I h) λu s1 ⟨x,H1,I1,r1,q1⟩=> ?_)
 exact thn (hr pos pins s1 σ H1 _ I1 q1) λus s2 ⟨xs,H2,I2,r2,q2⟩=>⟨x::xs,H2,I2, .cons r1 r2,q2⟩
def zhB(t:TA):TE:=λ σ H Q=>t σ H λxs H1=>xs.length<=sizeLine/\∀p,H1 p=none->Q (.ref p) (upd H1 p (.tup xs))
def zk1(t:TA):TE:=λ σ H Q=>t σ H λxs H1=>xs.length<=sizeLine/\∀p,H1 p=none->Q (.ref p) (upd H1 p (.lst xs))
theorem z46{x1}(h:PA X es t):PE X (.Tuple es x1 pos) (zhB t):=by
 intro pins s σ H Q I hq
 refine wpAny_Tuple_spliced (thn (h pos pins s σ H _ I hq) λus s1 ⟨xs,H1,I1,r,z,q⟩=>⟨by rw[<-r.length];exact z, ?_⟩)
 have hf:H1 s1.heap.objs.size=none:=I1.hok.fresh (c6 _)
 refine⟨.ref s1.heap.objs.size,upd H1 s1.heap.objs.size (.tup xs),I1.laid (t':=s1.toks) (λb u e=>Heap.get?_push_of_some _ e) (c6 _) ?_,rfl,q _ hf⟩
 exact⟨z,us,r,⟨_,Heap.get?_push_size _ rfl,rfl,_,rfl⟩⟩
theorem zeJ(h:PA X es t):PE X (.List es pos) (zk1 t):=by
 intro pins s σ H Q I hq
 refine wpAny_List_spliced (thn (h pos pins s σ H _ I hq) λus s1 ⟨xs,H1,I1,r,z,q⟩=>⟨by rw[<-r.length];exact z, ?_⟩)
 have hf:H1 s1.heap.objs.size=none:=I1.hok.fresh (c6 _)
 refine⟨.ref s1.heap.objs.size,upd H1 s1.heap.objs.size (.lst xs),I1.laid (t':=s1.toks) (λb u e=>Heap.get?_push_of_some _ e) (c6 _) ?_,rfl,q _ hf⟩
 exact⟨z,us,0,r,Heap.get?_push_size _ rfl⟩
end
abbrev Sp:=List V->Hp->VK->XK->Prop
abbrev CXT:=List Env->Hp->Shared->XK->Value->Shared->Prop
structure z7v(P:Program)(w:World)(K:W.Frag)(mg:Str->Option Value)(base:Heap)(A:Around)(outer:List Env)(s:Shared)(H:Hp):Prop where
 frames:A.frames=some outer
 mod:Mod K mg base
 bs: ∀b o,base.get? b=some o->s.heap.get? b=some o/\H b=none
 bsz:base.objs.size<=s.heap.objs.size
 funs:s.heap.FunFrames base outer
 frf: ∀b∈frs outer,H b=none
 hok:HOk P w H s.heap
 bare:AllBare s.gens
def CE(outer:List Env)(P:Program)(w:World)(H:Hp)(s:Shared)(Q:VK)(u:Value)(s':Shared):Prop:=
 ∃v H',s'.os=s.os/\AllBare s'.gens/\Un (frs outer) [] H H' s.heap s'.heap/\HOk P w H' s'.heap/\RelV v u/\Q v H'
def CR(CX:CXT)(outer:List Env)(P:Program)(w:World)(H:Hp)(s:Shared)(Q:VK)(E:XK)(r:Result)(s':Shared):Prop:=
 match r with
 | .ok (.ret u)=>CE outer P w H s Q u s'
 | .ok _=>False
 | .error e=>CX outer H s E e s'
structure FnOk(P:Program)(w:World)(K:W.Frag)(mg:Str->Option Value)(base:Heap)(CX:CXT)(k:Nat)(f:Addr)(fd:FuncData)(ps:List Str)(sp:Sp):Prop where
 len: ∀vs H Q E,sp vs H Q E->vs.length=ps.length
 run: ∀(A:Around) (outer:List Env) (s:Shared) (H:Hp) (args:Args) (us:List Value) (vs:List V) (Q:VK) (E:XK),U9 k A->z7v P w K mg base A outer s H->BindsTo s fd args (ps.zip us)->W0 vs us->sp vs H Q E->
  codeAny (model P w) A (.call (.ref f) args) (CR CX outer P w H s Q E) s
theorem FnOk.mono{P:Program}{w:World}{K:W.Frag}{mg:Str->Option Value}{base:Heap}{CX:CXT}{j k:Nat}{f:Addr}{fd:FuncData}{ps:List Str}{sp:Sp}(F:FnOk P w K mg base CX j f fd ps sp)(h:j<=k):
 FnOk P w K mg base CX k f fd ps sp:=⟨F.len,λA outer s H args us vs Q E hr=>F.run A outer s H args us vs Q E (hr.mono h)⟩
theorem z7v.make{P:Program}{w:World}{K:W.Frag}{mg:Str->Option Value}{base:Heap}{A:Around}{outer:List Env}{s:Shared}{H:Hp}(e:z7v P w K mg base A outer s H)(C:Addr)(us:List Value)(kw:List (Str×Value)):
 z7v P w K mg base (A.under (.builtin "type.__call__" ⟨.ref C::us,kw⟩)) outer s H:=⟨by first|exact e.frames|(simpa[Around.under,Code.envs,Code.isFrame,pushEnvs] using e.frames),e.mod,e.bs,e.bsz,e.funs,e.frf,e.hok,e.bare⟩
section
variable{X:Cx}{pins:List (Addr×Obj)}{σ:St}{H:Hp}{s s':Shared}
theorem Inv.env0(I:Inv X pins σ H s):z7v X.prog X.w X.K X.mg X.base X.A X.stack s H:=
 ⟨I.ok.frames,I.ok.mod,I.bs,n9 I.ok.bsz I.sz,I.stack,I.stkFree,I.hok,I.bare⟩
theorem Inv.after{Q:VK}{u:Value}(I:Inv X pins σ H s)(h:CE X.stack X.prog X.w H s Q u s'):EP X pins σ Q u s':=by
 obtain⟨v,H',os,bare,un,hok,r,q⟩:=h
 obtain⟨hh,g,d,t,os'⟩:=s'
 obtain rfl:os'=s.os:=os
 exact⟨v,H',I.call (h':=hh) (g':=g) (d':=d) (t':=t) (ch:=[]) un hok bare (λb z=>absurd z (by simp)),r,q⟩
end
def zeK(sp:Sp)(dvs:List V)(E:XK)(t:TA):TE:=λ σ H Q=>t σ H λvs H1=>sp (vs++dvs) H1 Q E
def zcl(C:Addr)(m:Str)(sp:Sp)(dvs:List V)(E:XK)(ta:TE)(t:TA):TE:=λ σ H Q=>ta σ H λx H1=> ∃a dx fs,x= .ref a/\H1 a=some (.ins C dx fs)/\fs.lookup m=none/\
 t σ H1 λvs H2=>sp (x::(vs++dvs)) H2 Q E
def zeL(C:Addr)(sp:Sp)(dvs:List V)(E:XK)(t:TA):TE:=λ σ H Q=>t σ H λvs H1=> ∀x dx,H1 x=none->H1 dx=none->dx≠x->
 sp (.ref x::(vs++dvs)) (upd (upd H1 dx (.own x)) x (.ins C dx [])) (λv H2=>v= .non/\Q (.ref x) H2) E
def J4(K:W.Frag)(fd:FuncData)(ps:List Str)(ds:List Value):Prop:=
 ∀(s:Shared) (us:List Value),K.In s.heap->(us++ds).length=ps.length->BindsTo s fd ⟨us,[]⟩ (ps.zip (us++ds))
theorem J4.all{K:W.Frag}{fd:FuncData}{ps:List Str}(h: ∀us:List Value,us.length=ps.length->bindArgs fd ⟨us,[]⟩=pure (ps.zip us)):J4 K fd ps []:=λs us _ hl=>by
 rw[e7] at hl⊢
 exact .of_eq (h us hl)
def Q6(CX:CXT)(X:Cx)(E:XK):Prop:= ∀(pins:List (Addr×Obj)) (σ:St) (H:Hp) (s:Shared) (e:Value) (s':Shared),Inv X pins σ H s->CX X.stack H s E e s'->X.xe e s'
section
variable{X:Cx}{CX:CXT}{k:Nat}{f C:Addr}{fd:FuncData}{ps:List Str}{sp:Sp}{dvs:List V}{ds:List Value}{E:XK}{x m:Str}{p pos apos:Pos}{e o:Expr}{es:List Expr}{ta:TE}{t:TA}
theorem z7W{pins:List (Addr×Obj)}{σ:St}{H:Hp}{s:Shared}{Q:VK}{us:List Value}{vs:List V}(F:FnOk X.prog X.w X.K X.mg X.base CX k f fd ps sp)(hr:U9 k X.A)(hb:J4 X.K fd ps ds)(hd:W0 dvs ds)(hx:Q6 CX X E)
 (I:Inv X pins σ H s) (r:W0 vs us) (h:sp (vs++dvs) H Q E):wpAny (model X.prog X.w) X.A (call (.ref f) us) (EP X pins σ Q) X.xe s:=by
 have r2:W0 (vs++dvs) (us++ds):=r.append hd
 have hl:(us++ds).length=ps.length:=by rw[<-r2.length];exact F.len _ _ _ _ h
 refine wpAny_call (codeAny_mono (F.run X.A X.stack s H ⟨us,[]⟩ (us++ds) (vs++dvs) Q E hr I.env0 (hb s us I.kIn hl) r2 h) λr s' hq=> ?_)
 cases r with
 |error e=>exact hx pins σ H s e s' I hq
 |ok fl=>
  cases fl with
  |ret u=>exact I.after hq
  |next=>exact False.elim hq
  |brk=>exact False.elim hq
  |cont=>exact False.elim hq
theorem zcm(F:FnOk X.prog X.w X.K X.mg X.base CX k f fd ps sp)(hr:U9 k X.A)(hg:Gl X x)(hm:X.mg x=some (.ref f))(hk:W.keepIn X.K (.ref f)=true)(hb:J4 X.K fd ps ds)(hd:W0 dvs ds)(hx:Q6 CX X E)
 (ha:PA X (e::es) t) (hdb:(x==("__debug__" :Str))=false:=by decide) (he:starEach (e::es) X.env=(false,eval e X.env)::starEach es X.env:=by rfl) (hpl:(backTo pos (starEach es X.env)).any (·.1)=false:=by rfl):
 PE X (.Call (.Name x p) (e::es) [] pos) (zeK sp dvs E t):=by
 intro pins s σ H Q I h
 refine wpAny_Call_Name_kw (z1f I hg hm ?_ hdb)
 refine W.callWith_K (h₀:=X.base) I.ok.mod.kin hk (thn (ha pos pins s σ H _ I h) λus s1 ⟨vs,H1,I1,r,q⟩=>⟨I1.kIn, ?_⟩) he hpl
 exact z7W F hr hb hd hx I1 r q
theorem zcn{pl:Sem Bool}(he:PE X o ta)(c:Cls X.K C)(hm:z7u X.K C m f)(F:FnOk X.prog X.w X.K X.mg X.base CX k f fd ps sp)(hr:U9 k X.A)(hb:J4 X.K fd ps ds)(hd:W0 dvs ds)(hx:Q6 CX X E)(ha:PA X (e::es) t)
 (hst:starEach (e::es) X.env=(false,eval e X.env)::starEach es X.env:=by rfl) (hpl:(backTo pos (starEach es X.env)).any (·.1)=false:=by rfl)
 (ht:eval (.Call (.Attribute o m apos) (e::es) [] pos) X.env=(do
  let ov<-eval o X.env
  standAt apos.atName
  let(f,first)<-holding [ov] (getMethod ov m pl)
  callWith pos f first (backTo pos (starEach (e::es) X.env)) (backToKw pos (keywordEach [] X.env))):=by rfl):
 PE X (.Call (.Attribute o m apos) (e::es) [] pos) (zcl C m sp dvs E ta t):=by
 intro pins s σ H Q I h
 refine W.methodCall_KW (pl:=pl) (thn (he pins s σ H _ I h) λu s1 ⟨x,H1,I1,rx,a,dx,fs,ex,ea,l,q⟩=> ?_) ht
 subst ex
 obtain rfl:u=Value.ref a:=rx
 refine z1g I1 ea c hm l ?_
 refine W.callWith_K (first:=[.ref a]) (h₀:=X.base) I.ok.mod.kin hm.kp (thn (ha pos pins s1 σ H1 _ I1 q) λus s2 ⟨vs,H2,I2,r,q2⟩=>⟨I2.kIn, ?_⟩) hst hpl
 exact z7W (us:= .ref a::us) (vs:= .ref a::vs) F hr hb hd hx I2 (.cons rfl r) q2
theorem z9Q{pl:Sem Bool}(he:PE X o ta)(c:Cls X.K C)(hm:z7u X.K C m f)(F:FnOk X.prog X.w X.K X.mg X.base CX k f fd ps sp)(hr:U9 k X.A)(hb:J4 X.K fd ps ds)(hd:W0 dvs ds)(hx:Q6 CX X E)
 (ht:eval (.Call (.Attribute o m apos) [] [] pos) X.env=(do
  let ov<-eval o X.env
  standAt apos.atName
  let(f,first)<-holding [ov] (getMethod ov m pl)
  callWith pos f first (backTo pos (starEach [] X.env)) (backToKw pos (keywordEach [] X.env))):=by rfl):
 PE X (.Call (.Attribute o m apos) [] [] pos) (zcl C m sp dvs E ta zeI):=by
 intro pins s σ H Q I h
 refine W.methodCall_KW (pl:=pl) (thn (he pins s σ H _ I h) λu s1 ⟨x,H1,I1,rx,a,dx,fs,ex,ea,l,q⟩=> ?_) ht
 subst ex
 obtain rfl:u=Value.ref a:=rx
 refine z1g I1 ea c hm l ?_
 exact W.callWith_K0 (first:=[.ref a]) I1.kIn hm.kp (z7W (us:=[.ref a]) (vs:=[.ref a]) F hr hb hd hx I1 (.cons rfl .nil) q)
structure Mk(K:W.Frag)(C f:Addr):Prop where
 makes:W.makesIn K C=true
 init:W.findIn K (.ref C) "__init__" =some (some (.ref f))
 fn:W.isFn K (.ref f)=true
 kp:W.keepIn K (.ref C)=true
theorem z9R{pins:List (Addr×Obj)}{σ:St}{H:Hp}{s:Shared}{Q:VK}{us:List Value}{vs:List V}(M:Mk X.K C f)(F:FnOk X.prog X.w X.K X.mg X.base CX k f fd ps sp)(hr:U9 (k+1) X.A)(hb:J4 X.K fd ps ds)(hd:W0 dvs ds)
 (hx:Q6 CX X E) (I:Inv X pins σ H s) (r:W0 vs us)
 (h: ∀x dx,H x=none->H dx=none->dx≠x->sp (.ref x::(vs++dvs)) (upd (upd H dx (.own x)) x (.ins C dx [])) (λv H2=>v= .non/\Q (.ref x) H2) E):
 wpAny (model X.prog X.w) X.A (call (.ref C) us) (EP X pins σ Q) X.xe s:=by
 have hq:=h (s.heap.objs.size+1) s.heap.objs.size (I.hok.fresh (Nat.le_succ _)) (I.hok.fresh (c6 _)) (l8 (s0 _))
 have I2:=Inv.made (C:=C) I
 have r2:W0 (V.ref (s.heap.objs.size+1)::(vs++dvs)) (Value.ref (s.heap.objs.size+1)::(us++ds)):= .cons rfl (r.append hd)
 have hl:(Value.ref (s.heap.objs.size+1)::us++ds).length=ps.length:=by
  have e:=r2.length
  rw[F.len _ _ _ _ hq] at e
  exact e.symm
 refine wpAny_call (z9P (f:=f) I.kIn M.makes M.init (beq_iff_eq.mp M.fn) (codeAny_mono (F.run _ X.stack _ _ ⟨Value.ref (s.heap.objs.size+1)::us,[]⟩ (Value.ref (s.heap.objs.size+1)::(us++ds)) _ _ E (hr.make C us [])
  (I2.env0.make C us []) (hb _ (Value.ref (s.heap.objs.size+1)::us) I2.kIn hl) r2 hq) λr s' hq'=> ?_))
 cases r with
 |error e=>exact hx pins σ _ _ e s' I2 hq'
 |ok fl=>
  cases fl with
  |ret u=>
   obtain⟨v,H',I3,rv,ev,q3⟩:=I2.after hq'
   subst ev
   exact⟨rv,⟨V.ref (s.heap.objs.size+1),H',I3,rfl,q3⟩⟩
  |next=>exact False.elim hq'
  |brk=>exact False.elim hq'
  |cont=>exact False.elim hq'
theorem z9S(M:Mk X.K C f)(F:FnOk X.prog X.w X.K X.mg X.base CX k f fd ps sp)(hr:U9 (k+1) X.A)(hg:Gl X x)(hm:X.mg x=some (.ref C))(hb:J4 X.K fd ps ds)(hd:W0 dvs ds)(hx:Q6 CX X E)
 (hdb:(x==("__debug__" :Str))=false:=by decide):PE X (.Call (.Name x p) [] [] pos) (zeL C sp dvs E zeI):=by
 intro pins s σ H Q I h
 refine wpAny_Call_Name_kw (z1f I hg hm ?_ hdb)
 exact W.callWith_K0 I.kIn M.kp (z9R (us:=[]) M F hr hb hd hx I .nil h)
end
section
variable{X:Cx}{CX:CXT}{k:Nat}{f C:Addr}{fd:FuncData}{ps ks:List Str}{sp:Sp}{E:XK}{x m:Str}{p pos apos kpos:Pos}{e o:Expr}{es:List Expr}{kws:List Keyword}{te ta:TE}{t tk:TA}{nm:Option Str}
structure zjz(K:W.Frag)(fd:FuncData)(ps ks:List Str)(g:List Value->List Value->List Value)(gV:List V->List V->List V):Prop where
 to: ∀(s:Shared) (us ws:List Value),K.In s.heap->(g us ws).length=ps.length->BindsTo s fd ⟨us,ks.zip ws⟩ (ps.zip (g us ws))
 rel: ∀{vs:List V} {us:List Value} {zs:List V} {ws:List Value},W0 vs us->W0 zs ws->W0 (gV vs zs) (g us ws)
variable{g:List Value->List Value->List Value}{gV:List V->List V->List V}
end
structure Z6(N P:List Str)(sc:Scope):Prop where
 kind:sc.kind= .function
 co:sc.isCoroutine=false
 gen:sc.isGenerator=false
 nd:N.Nodup
 pre:N.take P.length=P
 par: ∀x∈P,sc.names.lookup x=some .local\/sc.names.lookup x=some .cell
 nofree: ∀y∈sc.names,y.2≠ .free
theorem z47{kindOf:Str->Option NameKind}{x:Str}: ∀{binds:List (Str×Value)} {m:Str->Option Value},(∀v,(x,v)∉binds)->bindL kindOf binds m x=m x
 |[],_,_=>rfl
 |(n,v)::r,m,h=>by
  unfold bindL
  rw[z47 λw hw=>h w (b7 _ hw)]
  split
  .have:x≠n:=by rintro rfl;exact h v e9
   simp[this]
  .rfl
theorem z48{kindOf:Str->Option NameKind}{x:Str}: ∀{binds:List (Str×Value)} {m:Str->Option Value},(∀v,(x,v)∉binds)->bindC kindOf binds m x=m x
 |[],_,_=>rfl
 |(n,v)::r,m,h=>by
  unfold bindC
  rw[z48 λw hw=>h w (b7 _ hw)]
  split
  .rfl
  .have:x≠n:=by rintro rfl;exact h v e9
   simp[this]
theorem z49{kindOf:Str->Option NameKind}{x:Str}{v:Value}: ∀{P:List Str} {vs:List Value} {i:Nat} {m:Str->Option Value},P.Nodup->P[i]? =some x->vs[i]? =some v->kindOf x=some .local->
 bindL kindOf (P.zip vs) m x=some v
 |[],_,_,_,_,h,_,_=>by simp at h
 |_::_,[],_,_,_,_,h,_=>by simp at h
 |p::P,w::vs,0,m,nd,h1,h2,hk=>by
  simp at h1 h2;subst h1;subst h2
  show bindL kindOf ((p,w)::P.zip vs) m p=_
  unfold bindL
  rw[z47 λv hv=>(B0.mp nd).1 (F2 hv).1,if_pos hk]
  simp
 |p::P,w::vs,i+1,m,nd,h1,h2,hk=>by
  show bindL kindOf ((p,w)::P.zip vs) m x=_
  unfold bindL
  exact z49 (i:=i) (B0.mp nd).2 (by simpa using h1) (by simpa using h2) hk
theorem z4a{kindOf:Str->Option NameKind}{x:Str}{v:Value}: ∀{P:List Str} {vs:List Value} {i:Nat} {m:Str->Option Value},P.Nodup->P[i]? =some x->vs[i]? =some v->kindOf x≠some .local->
 bindC kindOf (P.zip vs) m x=some v
 |[],_,_,_,_,h,_,_=>by simp at h
 |_::_,[],_,_,_,_,h,_=>by simp at h
 |p::P,w::vs,0,m,nd,h1,h2,hk=>by
  simp at h1 h2;subst h1;subst h2
  show bindC kindOf ((p,w)::P.zip vs) m p=_
  unfold bindC
  rw[z48 λv hv=>(B0.mp nd).1 (F2 hv).1,if_neg hk]
  simp
 |p::P,w::vs,i+1,m,nd,h1,h2,hk=>by
  show bindC kindOf ((p,w)::P.zip vs) m x=_
  unfold bindC
  exact z4a (i:=i) (B0.mp nd).2 (by simpa using h1) (by simpa using h2) hk
def z1h(N:List Str)(vs:List V):St:=vs.map some++e8 (N.length -vs.length) none
def cxOf(CX:CXT)(P:Program)(w:World)(K:W.Frag)(mg:Str->Option Value)(base:Heap)(N:List Str)(qual:Str)(scope:Scope)(f:Addr)(cd:Value)(A:Around)(outer:List Env)(s:Shared)(H:Hp)(E:XK):Cx where
 prog:=P
 w:=w
 K:=K
 mg:=mg
 base:=base
 A:=A.deeper (envOfC qual scope s.heap.objs.size f cd)
 N:=N
 s₀:=s
 H₀:=H
 env:=envOfC qual scope s.heap.objs.size f cd
 outer:=outer
 stack:=envOfC qual scope s.heap.objs.size f cd::outer
 ex:=[]
 calm:=true
 fn:=λ_=>true
 pn:=[]
 xe:=λe s'=>wpAny (model P w) (A.deeper (envOfC qual scope s.heap.objs.size f cd)) (leaving (envOfC qual scope s.heap.objs.size f cd) e) (λ_ s''=>CX outer H s E e s'') (λe' s''=>CX outer H s E e' s'') s'
theorem z61{sc:Scope}{n:Nat}{x:Str}(h:sc.names.lookup x=some .cell): ∃c,(cellsFrom n sc.names []).lookup x=some c:=by
 have q:=W.cellsFrom_some sc.names n [] (.inl h)
 exact L6.mp q
theorem z4b{CX:CXT}{P:Program}{w:World}{K:W.Frag}{mg:Str->Option Value}{base:Heap}{N ps:List Str}{qual:Str}{scope:Scope}{f:Addr}{cd:Value}{A:Around}{outer:List Env}{s s1:Shared}{H:Hp}{E:XK}{us:List Value}{vs:List V}
 (S:Z6 N ps scope) (hd:A.handled=none) (e0:z7v P w K mg base A outer s H) (hl:vs.length=ps.length) (r:W0 vs us)
 (x:InCallC s s.heap.objs.size (bindL (envOfC qual scope s.heap.objs.size f cd).kindOf (ps.zip us) λ_=>none) (cellsFrom (s.heap.objs.size+1) scope.names []) (bindC (envOfC qual scope s.heap.objs.size f cd).kindOf (ps.zip us) λ_=>none) s1):
 Inv (cxOf CX P w K mg base N qual scope f cd A outer s H E) [] (z1h N vs) H s1:=by
 have hpl:ps.length<=N.length:=by have:=congrArg N2 S.pre;rw[A7] at this;lia
 obtain⟨h1,tk,rfl,hk⟩:=x.done
 have noA: ∀b:Addr,b∉(cxOf CX P w K mg base N qual scope f cd A outer s H E).ex:=λb z=>absurd (show b∈([]:List Addr) from z) (by simp)
 refine⟨⟨e0.mod,S.kind,rfl,rfl,c6 _,λy z c h1 h2=> ?_,λy hy=> ?_,λy c _ h=> ?_,λ_=>hd,Around.frames_deeper e0.frames, .inr ⟨rfl,rfl⟩,λb z=>absurd z (noA b),e0.bs,e0.bsz,λb _ _=>noA b,λb z=>absurd z (noA b),e0.funs,e0.frf⟩,
  rfl,e0.bare,Un.kept hk,⟨_,x.toInCall.ns,λi y v h1 h2 h3=> ?_⟩,λy c h=>⟨_,x.cell y c h⟩,e0.hok.fresh (c6 _),λy c h=> ?_,λp hp=>absurd (show p∈([]:List (Addr×Obj)) from hp) (by simp),e0.hok.kept hk, ?_⟩
 .exact name_of_addr x.apart (PySem.mem_of_lookup h1) (PySem.mem_of_lookup h2)
 .have hy:scope.names.lookup y=some .cell\/scope.names.lookup y=some .free:=hy
  rcases hy with hy|hy
  .exact z61 hy
  .exact absurd rfl (S.nofree _ (PySem.mem_of_lookup hy))
 .exact N7 (x.above y c (PySem.mem_of_lookup h))
 .have hi:i<vs.length:=by
   unfold z1h at h2
   by_cases hi:i<vs.length
   .exact hi
   .rw[List.getElem?_append_right (by simpa using hi)] at h2
    rw[List.getElem?_replicate] at h2
    split at h2<;>cases h2
  have ha:vs[i]? =some v:=by
   unfold z1h at h2
   rw[List.getElem?_append_left (by simpa using hi),List.getElem?_map] at h2
   cases e:vs[i]? with
   |none=>rw[e] at h2;cases h2
   |some a=>rw[e] at h2;cases h2;rfl
  obtain⟨u,hu,rv⟩:=r.get ha
  have hp:ps[i]? =some y:=by
   rw[<-S.pre,List.getElem?_take_of_lt (by lia)];exact h1
  have ndP:ps.Nodup:=by rw[<-S.pre];exact S.nd.sublist (List.take_sublist _ _)
  refine⟨u,rv, ?_⟩
  rcases S.par y (List.mem_of_getElem? hp) with k|k
  .exact .inl ⟨k,z49 ndP hp hu k⟩
  .obtain⟨c,e⟩:=z61 (n:=s.heap.objs.size+1) k
   refine .inr ⟨.inl k,c,e, ?_⟩
   have q:=x.cell y c e
   rw[z4a ndP hp hu (by show scope.names.lookup y≠_;rw[k];decide)] at q
   exact q
 .exact e0.hok.fresh (N7 (x.above y c (PySem.mem_of_lookup h)))
 .unfold z1h
  show _=N.length
  rw[l3,l0,M9]
  lia
theorem zeM{CX:CXT}{P:Program}{w:World}{K:W.Frag}{mg:Str->Option Value}{base:Heap}{k:Nat}{f:Addr}{name qual:Str}{params:Arguments}{body:List Stmt}{scope:Scope}{dV kV doc pm cdv ct oc:Value}{an od:Option Addr}
 {osl:Array (Option Value)} {N ps:List Str} {sp:Sp} (lk:K.lookup f=some ⟨oc,od, .func (W.fnOf name qual params body scope dV kV doc pm an cdv ct),osl⟩) (hcd:W.codeIn K cdv qual=true) (S:Z6 N ps scope)
 (len: ∀vs H Q E,sp vs H Q E->vs.length=ps.length)
 (hbody: ∀(A:Around) (outer:List Env) (s:Shared) (H:Hp) (vs:List V) (Q:VK) (E:XK),U9 k (A.deeper (envOfC qual scope s.heap.objs.size f cdv))->sp vs H Q E->
  ∃t,PSs (cxOf CX P w K mg base N qual scope f cdv A outer s H E) body t/\t {nx:=λ_ H'=>Q .non H',rt:=Q} (z1h N vs) H):
 FnOk P w K mg base CX (k+1) f (W.fnOf name qual params body scope dV kV doc pm an cdv ct) ps sp:=by
 refine⟨len,λA outer s H args us vs Q E hr e0 hb r hsp=> ?_⟩
 have hl:=len _ _ _ _ hsp
 have KX:K.In s.heap:=e0.mod.kin.keeps λb o e=>(e0.bs b o e).1
 have lim:s.heap.NoLimit:=e0.mod.nolimit.keeps λb o e=>(e0.bs b o e).1
 have hkind: ∀y∈ps.zip us,scope.names.lookup y.1=some .local\/(scope.names.lookup y.1=some .cell/\((cellsFrom (s.heap.objs.size+1) scope.names []).lookup y.1).isSome=true):=λ⟨n,v⟩ hy=>by
  rcases S.par n (F2 hy).1 with q|q
  .exact .inl q
  .exact .inr ⟨q,W.cellsFrom_some _ _ _ (.inl q)⟩
 refine codeAny_call_function hr.depth (KX _ _ lk) rfl S.co S.gen rfl (W.codeRec_of KX hcd) (hb _ _ _ _ ?_)
 refine wpAny_newFunctionEnv_cells S.kind hkind λenv he s1 x=> ?_
 subst he
 refine⟨lim.keeps x.toInCall.keep,codeAny_func ?_⟩
 obtain⟨t,ht,hq⟩:=hbody A outer s H vs Q E (hr.deeper _) hsp
 have I:Inv (cxOf CX P w K mg base N qual scope f cdv A outer s H E) [] (z1h N vs) H s1:=z4b S hr.hd e0 hl r x
 refine wpAny_mono (ht [] s1 (z1h N vs) H _ I hq) (λfl s' hs=> ?_) λe s' hs=>hs
 have fin: ∀{σ':St} {H':Hp} {v:V} {u:Value},Inv (cxOf CX P w K mg base N qual scope f cdv A outer s H E) [] σ' H' s'->RelV v u->Q v H'->CE outer P w H s Q u s':=
  λ{σ' H' v u} J rv q=>⟨v,H',J.os,J.bare,J.base,J.hok,rv,q⟩
 cases fl with
 |ret u=>
  obtain⟨v,σ',H',J,rv,q⟩:=hs
  exact fin J rv q
 |next=>
  obtain⟨σ',H',J,q⟩:=hs
  exact fin (v:=V.non) (u:=Value.none) J rfl q
 |brk=>
  obtain⟨_,_,_,q⟩:=hs
  exact False.elim q
 |cont=>
  obtain⟨_,_,_,q⟩:=hs
  exact False.elim q
section
variable{X:Cx}{x:Str}{p pos:Pos}{e:Expr}{es:List Expr}{t:TA}{id T:String}{r:List V->Hp->VK->Prop}
def tCB(r:List V->Hp->VK->Prop)(t:TA):TE:=λ σ H Q=>t σ H λvs H1=>r vs H1 Q
theorem z0F(hc:CallR X (.builtin id) r)(hg:Gl X x)(hm:X.mg x=none)(hv:bootBuiltins x=some (.builtin id))(ha:PA X (e::es) t)(hn:x≠ "__name__" :=by decide)(hdb:(x==("__debug__" :Str))=false:=by decide)
 (he:starEach (e::es) X.env=(false,eval e X.env)::starEach es X.env:=by rfl) (hpl:(backTo pos (starEach es X.env)).any (·.1)=false:=by rfl):PE X (.Call (.Name x p) (e::es) [] pos) (tCB r t):=by
 intro pins s σ H Q I h
 refine wpAny_Call_Name_kw (z5Y I hg hm hv ?_ hn hdb)
 exact PyProof.Rows.callWith_builtin1 (thn (ha pos pins s σ H _ I h) λus s1 ⟨vs,H1,I1,r1,q1⟩=>hc pins s1 σ H1 vs us Q I1 r1 q1) he hpl
theorem z7X(hc:CallR X (.type T) r)(hg:Gl X x)(hm:X.mg x=none)(hv:bootBuiltins x=some (.type T))(ha:PA X (e::es) t)(hn:x≠ "__name__" :=by decide)(hdb:(x==("__debug__" :Str))=false:=by decide)
 (he:starEach (e::es) X.env=(false,eval e X.env)::starEach es X.env:=by rfl) (hpl:(backTo pos (starEach es X.env)).any (·.1)=false:=by rfl):PE X (.Call (.Name x p) (e::es) [] pos) (tCB r t):=by
 intro pins s σ H Q I h
 refine wpAny_Call_Name_kw (z5Y I hg hm hv ?_ hn hdb)
 exact PyProof.Rows.callWith_type1 (thn (ha pos pins s σ H _ I h) λus s1 ⟨vs,H1,I1,r1,q1⟩=>hc pins s1 σ H1 vs us Q I1 r1 q1) he hpl
end
end L2
namespace HT
open PySem PyProof.Rows
section
open PySem.SeqAt
open PySem.AutoSeq1 (wpAny_loadPart')
open PySem.MeetsSeq PySem.MeetsSeq2 PySem.MeetsSeq3
end
section
variable{prog:Program}{w:World}{A:Around}{E:Value->Shared->Prop}{s:Shared}
theorem cat_tup{t b:Addr}{vs ws:List Value}{Q:Value->Shared->Prop}(ht:IsTup s.heap t vs.toArray)(hb:IsTup s.heap b ws.toArray)(hv:vs≠[])
 (h1:ws=[]->Q (.ref t) s) (h2:ws≠[]->Q (.ref s.heap.objs.size) {s with heap:=s.heap.push {cls:= .type "tuple",data:= .seq (vs++ws).toArray}})
 (hsz:vs.length+ws.length<=sizeLine):wpAny (model prog w) A (binaryOp .Add (.ref t) (.ref b)) Q E s:=by
 obtain⟨⟨cls,dd,data,sl⟩,ho,hc,n,hd⟩:=id ht
 obtain⟨⟨cls2,dd2,data2,sl2⟩,ho2,hc2,n2,hd2⟩:=id hb
 simp only at hc hd hc2 hd2
 subst hc hd hc2 hd2
 have e:vs.toArray++ws.toArray=(vs++ws).toArray:=by simp
 by_cases hw:ws=[]
 .exact concat_meets ⟨_,ho,rfl⟩ ⟨_,ho2,rfl⟩ noFill_tuple_add seq_tuple_add PySem.F.slot_tuple_add PySem.F.entry_tuple_add (PySem.F.args_tuple_add_2 _ _)
   (tuple_addW1 t b vs.toArray ws.toArray n n2 dd dd2 sl sl2 (by simpa using hv) (by simp[hw])) ⟨ho,ho2,h1 hw⟩
 .refine concat_meets ⟨_,ho,rfl⟩ ⟨_,ho2,rfl⟩ noFill_tuple_add seq_tuple_add PySem.F.slot_tuple_add PySem.F.entry_tuple_add (PySem.F.args_tuple_add_2 _ _)
   (tuple_addW2 t b vs.toArray ws.toArray n n2 dd dd2 sl sl2 (by simpa using hv) (by simpa using hw) (by rw[i3,i3];exact hsz)) ⟨ho,ho2, ?_⟩
  rw[e]
  exact h2 hw
def sIx(n d:Nat):Option Int->Nat
 |none=>d
 |some v=>if v<0 then(v+(n:Int)).toNat else min v.toNat n
theorem sIx_none(n d:Nat):sIx n d none=d:=rfl
theorem sIx_nat(n d k:Nat):sIx n d (some (k:Int))=min k n:=by
 show(if(k:Int)<0 then((k:Int)+(n:Int)).toNat else min (k:Int).toNat n)=min k n
 rw[if_neg (by lia),C9]
theorem zeN(n d:Nat)(hd:d<=n)(o:Option Int):sIx n d o<=n:=by
 cases o with
 |none=>exact hd
 |some v=>
  show(if v<0 then(v+(n:Int)).toNat else min v.toNat n)<=n
  by_cases hv:v<0
  .rw[if_pos hv];lia
  .rw[if_neg hv];exact Nat.min_le_right _ _
theorem z7Y(v:Int)(n d:Nat):(if v<0 then max (v+(n:Int)) 0 else min v (n:Int))=((sIx n d (some v):Nat):Int):=by
 show(if v<0 then max (v+(n:Int)) 0 else min v (n:Int))=(((if v<0 then(v+(n:Int)).toNat else min v.toNat n):Nat):Int)
 by_cases hv:v<0
 .erw[if_pos hv];lia
 .erw[if_neg hv];lia
theorem z6P(lo hi:Option Int)(n:Nat):Builtin.Slice.sliceAdjust lo hi 1 (n:Int)=(((sIx n 0 lo:Nat):Int),((sIx n n hi:Nat):Int)):=by
 have h1: ¬((1:Int)<0):=by lia
 unfold Builtin.Slice.sliceAdjust
 erw[h1,if_false]
 refine Prod.ext ?_ ?_
 .cases lo with
  |none=>rfl
  |some v=>exact z7Y v n 0
 .cases hi with
  |none=>rfl
  |some v=>exact z7Y v n n
theorem z6Q(i j:Nat):Builtin.Slice.slicePlaces (i:Int) (j:Int) 1=j -i:=by
 unfold Builtin.Slice.slicePlaces
 have h1:(1:Int)>0:=by lia
 erw[h1,if_true,Int.ediv_one]
 split<;>lia
theorem z34{v:Value}{o:Option Int}{Q:Option Int->Shared->Prop}(p:IsPart v o)(h:Q o s):wpAny (model prog w) A (Builtin.Slice.slicePartIndex v) Q E s:=by
 cases p with
 |none=>exact slicePart_none h
 |int i t=>exact slicePart_int h
theorem K4{sl:Addr}{vl vu:Value}{lo hi:Option Int}{n:Nat}{Q:Int×Int×Nat->Shared->Prop}(hs:s.heap.IsSliceOf sl vl vu .none)(pl:IsPart vl lo)(pu:IsPart vu hi)
 (h:Q (((sIx n 0 lo:Nat):Int),1,sIx n n hi -sIx n 0 lo) s):wpAny (model prog w) A (Builtin.Slice.sliceApplied (.ref sl) (pure (n:Int))) Q E s:=by
 obtain⟨os,hos,hcs,hds⟩:=id hs
 unfold Builtin.Slice.sliceApplied Builtin.Slice.sliceFields
 refine wpAny_bind (wpAny_bind (wpAny_field hos hds (x:=vl) rfl (wpAny_bind (wpAny_field hos hds (x:=vu) rfl (wpAny_bind (wpAny_field hos hds (x:= .none) rfl (wpAny_pure ?_)))))))
 refine wpAny_bind (slicePart_none ?_)
 show wpAny _ _ (if((1:Int)==0)=true then _ else _) _ _ s
 rw[if_neg (by decide)]
 refine wpAny_bind (z34 pl (wpAny_bind (z34 pu (wpAny_bind (wpAny_pure ?_)))))
 show wpAny _ _ (match Builtin.Slice.sliceAdjust lo hi 1 (n:Int) with|(lo,hi)=>pure (lo,(1:Int),Builtin.Slice.slicePlaces lo hi 1)) _ _ s
 rw[z6P lo hi n]
 show wpAny _ _ (pure (((sIx n 0 lo:Nat):Int),(1:Int),Builtin.Slice.slicePlaces ((sIx n 0 lo:Nat):Int) ((sIx n n hi:Nat):Int) 1)) _ _ s
 rw[z6Q]
 exact wpAny_pure h
theorem z9T(xs:Array Value)(i k:Nat):((C1 k).filterMap λ(m:Nat)=>xs[((i:Int)+(m:Int)*1).toNat]?).toArray=((xs.toList.drop i).take k).toArray:=by
 have e:(λ(m:Nat)=>xs[((i:Int)+(m:Int)*1).toNat]?)=λm=>xs[i+m]? :=by
  funext m
  have:((i:Int)+(m:Int)*1).toNat=i+m:=by lia
  rw[this]
 rw[e]
 have:=pick_run xs i k
 rw[List.filterMap_map] at this
 have e2:((λx=>xs[x]?)∘λx=>i+x)=λm=>xs[i+m]? :=rfl
 rw[e2] at this
 rw[this]
theorem getItem_tuple_cut{t sl:Addr}{items:Array Value}{vl vu:Value}{lo hi:Option Int}{Q:Value->Shared->Prop}(ht:IsTup s.heap t items)(hs:s.heap.IsSliceOf sl vl vu .none)(pl:IsPart vl lo)(pu:IsPart vu hi)
 (hw: ¬(sIx items.size 0 lo=0/\sIx items.size items.size hi=items.size))
 (h:Q (.ref s.heap.objs.size) {s with heap:=s.heap.push {cls:= .type "tuple",data:= .seq ((items.toList.drop (sIx items.size 0 lo)).take (sIx items.size items.size hi -sIx items.size 0 lo)).toArray}})
 (hsz:items.size<=sizeLine):wpAny (model prog w) A (getItem (.ref t) (.ref sl)) Q E s:=by
 have htake:sizeOk (.seq ((items.toList.drop (sIx items.size 0 lo)).take (sIx items.size items.size hi -sIx items.size 0 lo)).toArray):=by
  show((items.toList.drop (sIx items.size 0 lo)).take (sIx items.size items.size hi -sIx items.size 0 lo)).toArray.size<=sizeLine
  rw[i3,A7,C2,Array.length_toList]
  lia
 have hj:sIx items.size items.size hi<=items.size:=zeN _ _ (c6 _) hi
 obtain⟨os,hos,hcs,hds⟩:=id hs
 have hTs:s.TypeIs (.ref sl) "slice" :=⟨os,hos,hcs⟩
 unfold getItem
 try with_reducible refine wpAny_holding ?_
 first|refine wpAny_bind (wpAny_pure ?_)|skip
 refine wpAny_bind (wpAny_sequenceKey ht.typeIs (by decide) ?_)
 refine wpAny_bind (wpAny_callSpecial?_slot (name:=Str.ofString "__getitem__") ht.typeIs PyProof.Rows.slot_tuple_getitem
  (wpAny_call_entry PyProof.Rows.slot_tuple_getitem ht.typeIs entry_tuple_getitem ?_ (args_tuple_getitem _ _)))
 show wpAny _ _ (Builtin.Tuple.tupleItemsOf (.ref t)>>=_) _ _ s
 refine wpAny_bind (tupleItemsOf_ ht ?_)
 refine wpAny_bind (wpAny_typeOf hTs ?_)
 rw[if_pos (by decide)]
 refine wpAny_bind (K4 hs pl pu ?_)
 have hno: ¬((((sIx items.size 0 lo:Nat):Int)==0&&(1:Int)==1&&(sIx items.size items.size hi -sIx items.size 0 lo)==items.size)=true):=by
  intro q
  rw[b9,b9] at q
  have q1:((sIx items.size 0 lo:Nat):Int)=0:=eq_of_beq q.1.1
  have q2:sIx items.size items.size hi -sIx items.size 0 lo=items.size:=eq_of_beq q.2
  exact hw ⟨by lia,by lia⟩
 show wpAny _ _ (if(((sIx items.size 0 lo:Nat):Int)==0&&(1:Int)==1&&(sIx items.size items.size hi -sIx items.size 0 lo)==items.size)=true then _ else _) _ _ s
 rw[if_neg hno,z9T]
 first
  |exact wpAny_bind (m:=Builtin.Tuple.tupleExact _) (wpAny_newObj_type (wpAny_pure ⟨_,rfl,wpAny_pure h⟩) htake)
  |exact wpAny_bind (m:=Builtin.Tuple.tupleExact _) (wpAny_newObj_type (wpAny_bind (wpAny_pure (wpAny_pure ⟨_,rfl,wpAny_pure h⟩))) htake)
  |exact wpAny_bind (wpAny_bind (m:=Builtin.Tuple.tupleExact _) (wpAny_newObj_type (wpAny_pure (wpAny_pure ⟨_,rfl,wpAny_pure h⟩)) htake))
  |exact wpAny_bind (wpAny_bind (m:=Builtin.Tuple.tupleExact _) (wpAny_newObj_type (wpAny_pure ⟨_,rfl,wpAny_pure h⟩) htake))
end
end HT
namespace L2
open PySem PySem.Spec PyProof.Rows
abbrev TO:=St->Hp->(Option Int->Hp->Prop)->Prop
def PO(X:Cx)(e:Option Expr)(t:TO):Prop:=
 ∀(pins:List (Addr×Obj)) (s:Shared) (σ:St) (H:Hp) (Q:Option Int->Hp->Prop),Inv X pins σ H s->t σ H Q->
  wpAny (model X.prog X.w) X.A (evalPart e X.env) (λu s'=> ∃o H',Inv X pins σ H' s'/\IsPart u o/\Q o H') X.xe s
def zco:TO:=λ_ H Q=>Q none H
def z9U(t:TE):TO:=λ σ H Q=>t σ H λx H1=> ∃i,x= .int i/\Q (some i) H1
section
variable{X:Cx}{e:Expr}{te:TE}{lo hi:Option Expr}{tl th:TO}{pos p2:Pos}
theorem zcp:PO X none zco:=by
 intro pins s σ H Q I h
 rw[evalPart_none]
 exact wpAny_pure ⟨none,H,I, .none,h⟩
theorem z7Z(h:PE X e te):PO X (some e) (z9U te):=by
 intro pins s σ H Q I hw
 rw[evalPart_some]
 refine thn (h pins s σ H _ I hw) λu s1 ⟨x,H1,I1,r1,q1⟩=> ?_
 obtain⟨i,rfl,q⟩:=q1
 obtain⟨t,rfl⟩:=r1
 exact⟨some i,H1,I1, .int i t,q⟩
def SlR(X:Cx)(r:V->Option Int->Option Int->Hp->VK->Prop):Prop:=
 ∀(pins:List (Addr×Obj)) (s:Shared) (σ:St) (H:Hp) (x:V) (v vl vu:Value) (lo hi:Option Int) (sl:Addr) (Q:VK),Inv X pins σ H s->RelV x v->s.heap.IsSliceOf sl vl vu .none->IsPart vl lo->IsPart vu hi->r x lo hi H Q->
  ∃T id,typeLookup (.type T) "__getitem__" =pure (some (.builtin id))/\s.TypeIs v T/\wpAny (model X.prog X.w) X.A (getItem v (.ref sl)) (EP X pins σ Q) X.xe s
theorem SlR.or{r r':V->Option Int->Option Int->Hp->VK->Prop}(h:SlR X r)(h':SlR X r'):SlR X (λx lo hi H Q=>r x lo hi H Q\/r' x lo hi H Q):=by
 intro pins s σ H x v vl vu lo hi sl Q I rx hs pl pu q
 rcases q with q|q
 .exact h pins s σ H x v vl vu lo hi sl Q I rx hs pl pu q
 .exact h' pins s σ H x v vl vu lo hi sl Q I rx hs pl pu q
def tSl(r:V->Option Int->Option Int->Hp->VK->Prop)(te:TE)(tl th:TO):TE:=λ σ H Q=>te σ H λx H1=>tl σ H1 λl H2=>th σ H2 λu H3=>r x l u H3 Q
theorem z9V{r:V->Option Int->Option Int->Hp->VK->Prop}(hr:SlR X r)(he:PE X e te)(hl:PO X lo tl)(hu:PO X hi th):PE X (.Subscript e (.Slice lo hi none p2) pos) (tSl r te tl th):=by
 intro pins s σ H Q I h
 refine Subscript_ (thn (he pins s σ H _ I h) λv s1 ⟨x,H1,I1,r1,q1⟩=> ?_)
 refine wpAny_Slice (thn (hl pins s1 σ H1 _ I1 q1) λvl s2 ⟨l,H2,I2,pl,q2⟩=>thn (hu pins s2 σ H2 _ I2 q2) λvu s3 ⟨u,H3,I3,pu,q3⟩=> ?_)
 rw[evalPart_none]
 refine wpAny_pure ?_
 have I4:Inv X pins σ H3 {s3 with heap:=s3.heap.push {cls:= .type "slice",data:= .fields #[vl,vu, .none]}}:=I3.kept (t':=s3.toks) λb ob q=>Heap.get?_push_of_some _ q
 obtain⟨T,id,hT,ht,hg⟩:=hr pins {s3 with heap:=s3.heap.push {cls:= .type "slice",data:= .fields #[vl,vu, .none]}} σ H3 x v vl vu l u s3.heap.objs.size Q I4 r1 (Heap.IsSliceOf.new ..) pl pu q3
 show wpAny (model X.prog X.w) X.A (subscriptTail e (.Slice lo hi none p2) v (.ref s3.heap.objs.size)) (EP X pins σ Q) X.xe {s3 with heap:=s3.heap.push {cls:= .type "slice",data:= .fields #[vl,vu, .none]}}
 exact tail_any (ops:=[.ref s3.heap.objs.size,v]) ht hT hg (by with_unfolding_all rfl)
def z80(xs:List V)(lo hi:Option Int):List V:=(xs.drop (HT.sIx xs.length 0 lo)).take (HT.sIx xs.length xs.length hi -HT.sIx xs.length 0 lo)
theorem z21(xs:List V)(lo hi:Option Int):(z80 xs lo hi).length<=xs.length:=by
 unfold z80
 rw[A7,C2]
 lia
def zk2(K:W.Frag):V->Option Int->Option Int->Hp->VK->Prop:=λx lo hi H Q=> ∃a xs,x= .ref a/\SqT K H a xs/\
 ¬(HT.sIx xs.length 0 lo=0/\HT.sIx xs.length xs.length hi=xs.length)/\∀p,H p=none->Q (.ref p) (upd H p (.tup (z80 xs lo hi)))
theorem zeO:SlR X (zk2 X.K):=by
 intro pins s σ H x v vl vu lo hi sl Q I rx hs pl pu h
 obtain⟨a,xs,rfl,hx,hw,q⟩:=h
 cases rx
 obtain⟨its,r,ht,hz⟩:=I.tuple hx
 have hlen:its.toArray.size=xs.length:=by rw[i3];exact r.length.symm
 refine⟨"tuple",_,PyProof.Rows.slot_tuple_getitem.lookup,ht.typeIs, ?_⟩
 refine HT.getItem_tuple_cut ht hs pl pu (by rw[hlen];exact hw) ?_ (by rw[hlen];exact hz)
 rw[hlen]
 refine⟨.ref s.heap.objs.size,_,I.laid (t':=s.toks) (o:= .tup (z80 xs lo hi)) (λb ob q=>Heap.get?_push_of_some _ q) (c6 _) ?_,rfl,q _ (I.hok.fresh (c6 _))⟩
 exact⟨n9 (z21 xs lo hi) hz,_,(r.drop (HT.sIx xs.length 0 lo)).take (HT.sIx xs.length xs.length hi -HT.sIx xs.length 0 lo),IsTup.new _ _⟩
def zhC(K:W.Frag):R2:=λx y H Q=> ∃a b xs ys,x= .ref a/\y= .ref b/\SqT K H a xs/\SqT K H b ys/\xs≠[]/\xs.length+ys.length<=sizeLine/\
 (ys=[]->Q (.ref a) H)/\(ys≠[]->∀p,H p=none->Q (.ref p) (upd H p (.tup (xs++ys))))
theorem W0.nil_iff{xs:List V}{us:List Value}(r:W0 xs us):us=[]↔xs=[]:=by
 cases r with
 |nil=>simp
 |cons _ _=>simp
theorem zcq:OpR X (binaryOp .Add) (zhC X.K):=by
 intro pins s σ H x y v u Q I rx ry h
 obtain⟨a,b,xs,ys,rfl,rfl,ha,hb,hx,hz,q1,q2⟩:=h
 cases rx
 cases ry
 obtain⟨its,r1,p1,_⟩:=I.tuple ha
 obtain⟨its2,r2,p2,_⟩:=I.tuple hb
 refine HT.cat_tup p1 p2 (λz=>hx (r1.nil_iff.mp z)) (λz=>⟨.ref a,H,I,rfl,q1 (r2.nil_iff.mp z)⟩) (λz=> ?_) (by rw[<-r1.length,<-r2.length];exact hz)
 refine⟨.ref s.heap.objs.size,_,I.laid (t':=s.toks) (o:= .tup (xs++ys)) (λb ob q=>Heap.get?_push_of_some _ q) (c6 _) ?_,rfl,q2 (λw=>z (r2.nil_iff.mpr w)) _ (I.hok.fresh (c6 _))⟩
 exact⟨by rw[l3];exact hz,_,r1.append r2,IsTup.new _ _⟩
end
def ixN(n:Nat)(i:Int):Option Nat:=if 0<=i then(if i<n then some i.toNat else none) else if -(n:Int)<=i then some (i+n).toNat else none
def atI{α:Type}(xs:List α)(i:Int):Option α:=(ixN xs.length i).bind λj=>xs[j]?
theorem z81{n:Nat}{i:Int}{j:Nat}(h:ixN n i=some j):seqIndex? i n=some j/\j<n/\-(n:Int)<=i/\i<n:=by
 unfold ixN at h
 by_cases h0:0<=i
 .rw[if_pos h0] at h
  by_cases h1:i<n
  .rw[if_pos h1] at h
   have e:i.toNat=j:=Option.some.inj h
   exact⟨by rw[seqIndex_of h0 h1,e],by lia,by lia,h1⟩
  .rw[if_neg h1] at h;cases h
 .rw[if_neg h0] at h
  by_cases h1: -(n:Int)<=i
  .rw[if_pos h1] at h
   have e:(i+n).toNat=j:=Option.some.inj h
   exact⟨by rw[seqIndex_neg (by lia) h1,e],by lia,h1,by lia⟩
  .rw[if_neg h1] at h;cases h
theorem z82{α:Type}{xs:List α}{i:Int}{v:α}(h:atI xs i=some v): ∃j,seqIndex? i xs.length=some j/\xs[j]? =some v/\j<xs.length/\-(xs.length:Int)<=i/\i<xs.length:=by
 unfold atI at h
 cases e:ixN xs.length i with
 |none=>rw[e] at h;cases h
 |some j=>
  rw[e] at h
  obtain⟨h1,h2,h3,h4⟩:=z81 e
  exact⟨j,h1,h,h2,h3,h4⟩
theorem zcr{α:Type}{xs:List α}{j:Nat}{v:α}(h:xs[j]? =some v):atI xs (j:Int)=some v:=by
 have hj:j<xs.length:=(List.getElem?_eq_some_iff.mp h).1
 have e:ixN xs.length (j:Int)=some j:=by
  unfold ixN
  rw[if_pos (by lia),if_pos (by lia)];simp
 unfold atI;rw[e];exact h
def z1i(b:Expr):Prop:= ∀o i,subscripted b false o i=operate [o,i] (getItem o i)
def IxR(X:Cx)(r:R2):Prop:=
 ∀(value slice:Expr) (pins:List (Addr×Obj)) (s:Shared) (σ:St) (H:Hp) (x y:V) (v u:Value) (Q:VK),Inv X pins σ H s->RelV x v->RelV y u->r x y H Q->
  subscripted slice false v u=operate [v,u] (getItem v u)->wpAny (model X.prog X.w) X.A (subscriptTail value slice v u) (EP X pins σ Q) X.xe s
def MtR(X:Cx)(id:String)(r:V->List V->Hp->VK->Prop):Prop:=
 ∀(pins:List (Addr×Obj)) (s:Shared) (σ:St) (H:Hp) (x:V) (xs:List V) (v:Value) (us:List Value) (Q:VK),Inv X pins σ H s->RelV x v->W0 xs us->r x xs H Q->
  wpAny (model X.prog X.w) X.A (call (.builtin id) (v::us)) (EP X pins σ Q) X.xe s
section
variable{X:Cx}{a b:Expr}{ta tb:TE}{pos:Pos}
theorem IxR.or{r r':R2}(h:IxR X r)(h':IxR X r'):IxR X (λx y H Q=>r x y H Q\/r' x y H Q):=by
 intro value slice pins s σ H x y v u Q I rx ry q hs
 rcases q with q|q
 .exact h value slice pins s σ H x y v u Q I rx ry q hs
 .exact h' value slice pins s σ H x y v u Q I rx ry q hs
theorem zhD{r:R2}(hr:IxR X r)(ha:PE X a ta)(hb:PE X b tb)(hs:z1i b):PE X (.Subscript a b pos) (tOp r ta tb):=by
 intro pins s σ H Q I h
 exact Subscript_ (zhu ha hb I h λv u s2 x y H2 I2 rx ry q=>hr a b pins s2 σ H2 x y v u Q I2 rx ry q (hs _ _))
def zjA(K:W.Frag):R2:=λx y H Q=> ∃p xs i v,x= .ref p/\y= .int i/\SqL K H p xs/\atI xs i=some v/\Q v H
def zjB(K:W.Frag):R2:=λx y H Q=> ∃p xs i v,x= .ref p/\y= .int i/\SqT K H p xs/\atI xs i=some v/\Q v H
theorem zcs:IxR X (zjA X.K):=by
 intro value slice pins s σ H x y v u Q I rx ry h hs
 obtain⟨p,xs,i,z,rfl,rfl,hq,he,q⟩:=h
 cases rx
 obtain⟨t,rfl⟩:=ry
 obtain⟨its,r,pl,hz⟩:=I.list hq
 obtain⟨j,h1,h2,h3,h4,h5⟩:=z82 he
 obtain⟨w,ew,rw'⟩:=r.get h2
 have hl:=r.length
 have hn:=z32
 have fin:EP X pins σ Q w s:=⟨z,H,I,rw',q⟩
 by_cases h0:0<=i
 .have hj:i.toNat=j:=by
   rw[seqIndex_of h0 h5] at h1
   exact Option.some.inj h1
  exact item_listR pl.isList h0 (by lia) (by rw[hj];simpa using ew) fin hs
 .have hj:(i+(its.toArray.size:Int)).toNat=j:=by
   rw[seqIndex_neg (by lia) h4] at h1
   rw[i3,<-hl]
   exact Option.some.inj h1
  exact subscriptTail_builtinR (x:=w) pl.isList.typeIs slot_list_getitem.lookup
   (wpAny_getItem_list_neg (Q:=λr s'=>r=w/\EP X pins σ Q r s') pl.isList (by lia) (by rw[i3]<;>lia) (by lia) (by rw[hj];simpa using ew) ⟨rfl,fin⟩) hs
theorem zeP:IxR X (zjB X.K):=by
 intro value slice pins s σ H x y v u Q I rx ry h hs
 obtain⟨p,xs,i,z,rfl,rfl,hq,he,q⟩:=h
 cases rx
 obtain⟨t,rfl⟩:=ry
 obtain⟨its,r,pl,hz⟩:=I.tuple hq
 obtain⟨j,h1,h2,h3,h4,h5⟩:=z82 he
 obtain⟨w,ew,rw'⟩:=r.get h2
 have hl:=r.length
 have hn:=z32
 have fin:EP X pins σ Q w s:=⟨z,H,I,rw',q⟩
 exact subscriptTail_builtinR (x:=w) pl.typeIs slot_tuple_getitem.lookup
  (getItem_tuple (j:=j) (Q:=λr s'=>r=w/\EP X pins σ Q r s') pl (by lia) (by lia) (by rw[i3,<-hl];exact h1) (by simpa using ew) ⟨rfl,fin⟩) hs
theorem z6R(its:List Value)(n j:Nat)(u:Value):Obj.mapSeq (·.setIfInBounds j u) {cls:= .type "list",data:= .seq its.toArray n}={cls:= .type "list",data:= .seq (its.set j u).toArray n}:=by
 simp[Obj.mapSeq]
theorem Inv.lst{pins:List (Addr×Obj)}{σ:St}{H:Hp}{s:Shared}{p:Addr}{xs:List V}(I:Inv X pins σ H s)(h:H p=some (.lst xs)):
 ∃(its:List Value) (n:Nat),W0 xs its/\s.heap.get? p=some {cls:= .type "list",data:= .seq its.toArray n}/\xs.length<=sizeLine:=by
 obtain⟨z,its,n,r,e⟩:=I.hok p _ h
 exact⟨its,n,r,e,z⟩
theorem Inv.lstUpd{pins:List (Addr×Obj)}{σ:St}{H:Hp}{s:Shared}{p:Addr}{xs ys:List V}{its its':List Value}{n n':Nat}{f:Obj->Obj}(I:Inv X pins σ H s)(h:H p=some (.lst xs))
 (ho:s.heap.get? p=some {cls:= .type "list",data:= .seq its.toArray n}) (hf:f {cls:= .type "list",data:= .seq its.toArray n}={cls:= .type "list",data:= .seq its'.toArray n'}) (r:W0 ys its') (hz:ys.length<=sizeLine) (t:Nat):
 Inv X pins σ (upd H p (.lst ys)) {s with heap:=s.heap.update p f,toks:=t}:=by
 have e:(s.heap.update p f).get? p=some {cls:= .type "list",data:= .seq its'.toArray n'}:=by
  rw[Heap.get?_update_self f ho (by rw[hf]<;>rfl),hf]
 refine I.write (x:=p) (e:=p) (by rw[h];trivial) (.inl rfl) (λb u hb q=>(Heap.get?_update_other _ _ (Ne.symm hb)).trans q) ⟨_,e⟩ ?_
 exact⟨hz,its',n',r,e⟩
def z9W:V->V->V->Hp->(Hp->Prop)->Prop:=λo i v H Q=> ∃p xs k j,o= .ref p/\i= .int k/\H p=some (.lst xs)/\ixN xs.length k=some j/\Q (upd H p (.lst (xs.set j v)))
theorem z3j:zjx X z9W:=by
 intro pins s σ H o i v ov iv u Q I ro ri rv h
 obtain⟨p,xs,k,j,rfl,rfl,hp,hj,q⟩:=h
 cases ro
 obtain⟨t,rfl⟩:=ri
 obtain⟨its,n,r,ho,hz⟩:=I.lst hp
 obtain⟨h1,h2,h3,h4⟩:=z81 hj
 have hl:=r.length
 have hn:=z32
 have I':Inv X pins σ (upd H p (.lst (xs.set j v))) {s with heap:=s.heap.update p (Obj.mapSeq (·.setIfInBounds j u))}:=
  I.lstUpd hp ho (z6R its n j u) (r.set rv j) (by rw[O9];exact hz) s.toks
 by_cases h0:0<=k
 .have hk:k.toNat=j:=by
   rw[seqIndex_of h0 h4] at h1
   exact Option.some.inj h1
  exact W.ki_setAt ho h0 (by lia) (by rw[i3,<-hl];exact h4) (by rw[hk];exact⟨_,I',q⟩)
 .have hk:(k+(its.toArray.size:Int)).toNat=j:=by
   rw[seqIndex_neg (by lia) h3] at h1
   rw[i3,<-hl]
   exact Option.some.inj h1
  exact W.ki_setBack ho (by lia) (by rw[i3,<-hl];exact h3) (by lia) (by rw[hk];exact⟨_,I',q⟩)
theorem z4c(lo hi:Option Int)(n:Nat):(sliceBounds lo hi none n).1=((HT.sIx n 0 lo:Nat):Int)/\(sliceBounds lo hi none n).2.1=((HT.sIx n n hi:Nat):Int)/\(sliceBounds lo hi none n).2.2=1:=by
 refine⟨?_, ?_,rfl⟩
 .cases lo with
  |none=>simp[sliceBounds,HT.sIx]
  |some i=>
   erw[sliceBounds,HT.sIx,D1,show(1:Int)>0 by decide,if_true]
   by_cases h:i<0
   .erw[h,if_true]<;>lia
   .erw[h,if_false]<;>lia
 .cases hi with
  |none=>simp[sliceBounds,HT.sIx]
  |some i=>
   erw[sliceBounds,HT.sIx,D1,show(1:Int)>0 by decide,if_true]
   by_cases h:i<0
   .erw[h,if_true]<;>lia
   .erw[h,if_false]<;>lia
theorem z3k(its:List Value)(lo hi:Option Int):slicePick its.toArray lo hi none=((its.drop (HT.sIx its.length 0 lo)).take (HT.sIx its.length its.length hi -HT.sIx its.length 0 lo)).toArray:=by
 obtain⟨h1,h2,h3⟩:=z4c lo hi its.toArray.size
 unfold slicePick
 rw[h1,h2,h3]
 erw[sliceRange_one,pick_run,i3]<;>rfl
def zhE(K:W.Frag):V->Option Int->Option Int->Hp->VK->Prop:=λx lo hi H Q=> ∃a xs,x= .ref a/\SqL K H a xs/\∀p,H p=none->Q (.ref p) (upd H p (.lst (z80 xs lo hi)))
theorem zct:SlR X (zhE X.K):=by
 intro pins s σ H x v vl vu lo hi sl Q I rx hs pl pu h
 obtain⟨a,xs,rfl,hx,q⟩:=h
 cases rx
 obtain⟨its,r,ht,hz⟩:=I.list hx
 have hlen:=r.length
 refine⟨"list",_,slot_list_getitem.lookup,ht.isList.typeIs, ?_⟩
 refine wpAny_getItem_list_slice ht.isList hs pl pu .none (by simp) ?_ (by rw[i3]<;>lia)
 rw[z3k,<-hlen]
 refine⟨.ref s.heap.objs.size,_,I.laid (t':=s.toks) (o:= .lst (z80 xs lo hi)) (λb ob q=>Heap.get?_push_of_some _ q) (c6 _) ?_,rfl,q _ (I.hok.fresh (c6 _))⟩
 exact⟨n9 (z21 xs lo hi) hz,_,0,(r.drop (HT.sIx xs.length 0 lo)).take (HT.sIx xs.length xs.length hi -HT.sIx xs.length 0 lo),Heap.get?_push_size _ rfl⟩
theorem z4d:CallR X (.builtin "len") (λxs H Q=> ∃p ys,xs=[.ref p]/\(SqL X.K H p ys\/SqT X.K H p ys)/\Q (.int ys.length) H):=by
 intro pins s σ H xs us Q I r h
 obtain⟨p,ys,rfl,hq,q⟩:=h
 obtain⟨u,rfl,rx⟩:=z2N r
 cases rx
 have hn:=z32
 rcases hq with hq|hq
 .obtain⟨its,r',pl,hz⟩:=I.list hq
  have hlen:=r'.length
  exact Calls.call_len_list pl.isList (by erw[i3]<;>lia) ⟨.int ys.length,H,I.tok _,⟨s.toks+1,by rw[i3,hlen]⟩,q⟩
 .obtain⟨its,r',pl,hz⟩:=I.tuple hq
  have hlen:=r'.length
  exact len_tuple pl (by erw[i3]<;>lia) ⟨.int ys.length,H,I.tok _,⟨s.toks+1,by rw[i3,hlen]⟩,q⟩
theorem z4e:CallR X (.type "list") (λxs H Q=> ∃p ys,xs=[.ref p]/\(SqL X.K H p ys\/SqT X.K H p ys)/\∀l,H l=none->Q (.ref l) (upd H l (.lst ys))):=by
 intro pins s σ H xs us Q I r h
 obtain⟨p,ys,rfl,hq,q⟩:=h
 obtain⟨u,rfl,rx⟩:=z2N r
 cases rx
 have fin: ∀(its:List Value),W0 ys its->ys.length<=sizeLine->∀(h':Heap) (c':Nat),(∀b o',s.heap.get? b=some o'->h'.get? b=some o')->
  h'.get? s.heap.objs.size=some {cls:= .type "list",dict:=none,data:= .seq its.toArray c',slots:= #[]}->EP X pins σ Q (.ref s.heap.objs.size) {s with heap:=h'}:=λits r' hz h' c' kp e=>
  ⟨.ref s.heap.objs.size,_,I.laid (t':=s.toks) kp (c6 _) (show J7 X.prog X.w _ h' _ (.lst ys) from⟨hz,its,c',r',e⟩),rfl,q _ (I.hok.fresh (c6 _))⟩
 rcases hq with hq|hq
 .obtain⟨its,r',pl,hz⟩:=I.list hq
  have hlen:=r'.length
  obtain⟨o,ho,hc,n,hd⟩:=pl.isList
  exact call_list_seq p (.inl rfl) ho hc hd (λh' c' kp e=>fin its r' hz h' c' kp e) (by erw[i3]<;>lia)
 .obtain⟨its,r',pl,hz⟩:=I.tuple hq
  have hlen:=r'.length
  obtain⟨o,ho,hc,n,hd⟩:=pl
  exact call_list_seq p (.inr rfl) ho hc hd (λh' c' kp e=>fin its r' hz h' c' kp e) (by erw[i3]<;>lia)
theorem z3l:CallR X (.type "tuple") (λxs H Q=> ∃p ys,xs=[.ref p]/\((SqL X.K H p ys/\∀l,H l=none->Q (.ref l) (upd H l (.tup ys)))\/(SqT X.K H p ys/\Q (.ref p) H))):=by
 intro pins s σ H xs us Q I r h
 obtain⟨p,ys,rfl,h⟩:=h
 obtain⟨u,rfl,rx⟩:=z2N r
 cases rx
 rcases h with⟨hq,q⟩|⟨hq,q⟩
 .obtain⟨its,r',pl,hz⟩:=I.list hq
  have hlen:=r'.length
  refine call_tuple_list pl.isList (λh' kp=> ?_) (by erw[i3]<;>lia)
  have I1:Inv X pins σ H {s with heap:=h'}:=I.kept (t':=s.toks) kp
  have I2:Inv X pins σ (upd H h'.objs.size (.tup ys)) {s with heap:=h'.push {cls:= .type "tuple",data:= .seq its.toArray}}:=
   I1.laid (t':=s.toks) (λb o e=>Heap.get?_push_of_some _ e) (c6 _) (show J7 X.prog X.w _ _ _ (.tup ys) from⟨hz,its,r',IsTup.new _ _⟩)
  exact⟨.ref h'.objs.size,_,I2,rfl,q _ (I1.hok.fresh (c6 _))⟩
 .obtain⟨its,r',pl,hz⟩:=I.tuple hq
  exact call_tuple_same pl ⟨.ref p,H,I,rfl,q⟩
def tyV(K:W.Frag)(T:String)(x:V)(H:Hp):Prop:=match x with
 | .str _=>T= "str"
 | .int _=>T= "int"
 | .ref p=>(T= "list" /\∃xs,SqL K H p xs)\/(T= "tuple" /\∃o,K.lookup p=some o/\o.cls= .type "tuple" /\o.dict=none)\/
  (T= "dict" /\((∃kvs,H p=some (.dK kvs))\/∃kvs,H p=some (.dT kvs)))\/(T= "set" /\∃S n,H p=some (.set S n))
 |_=>False
theorem zeQ{pins:List (Addr×Obj)}{σ:St}{H:Hp}{s:Shared}{T:String}{x:V}{v:Value}(I:Inv X pins σ H s)(r:RelV x v)(ty:tyV X.K T x H):
 s.TypeIs v T/\∀a,v= .ref a->∃ob,s.heap.get? a=some ob/\ob.dict=none:=by
 cases x with
 |str z=>
  obtain⟨t,rfl⟩:=r
  cases(show T= "str" from ty)
  exact⟨typeIs_str s z t,λ_ e=>nomatch e⟩
 |int i=>
  obtain⟨t,rfl⟩:=r
  cases(show T= "int" from ty)
  exact⟨typeIs_int s i t,λ_ e=>nomatch e⟩
 |ref p=>
  cases r
  rcases ty with⟨rfl,xs,hq⟩|⟨rfl,o,hk,hc,hd⟩|⟨rfl,hk⟩|⟨rfl,S,n,hk⟩
  .obtain⟨its,_,pl,_⟩:=I.list hq
   refine⟨pl.isList.typeIs,λa e=> ?_⟩
   cases e
   obtain⟨o,n,e,c,hd,_⟩:=pl
   exact⟨o,e,hd⟩
  .refine⟨⟨o,I.kIn p o hk,hc⟩,λa e=> ?_⟩
   cases e
   exact⟨o,I.kIn _ o hk,hd⟩
  .have z: ∃o,s.heap.get? p=some o/\o.ExactDict:=by
    rcases hk with⟨kvs,hk⟩|⟨kvs,hk⟩
    .obtain⟨_,_,_,_,o,_,_,e,ex,_⟩:=I.hok p _ hk
     exact⟨o,e,ex⟩
    .obtain⟨_,_,_,_,o,_,_,e,ex,_⟩:=I.hok p _ hk
     exact⟨o,e,ex⟩
   obtain⟨o,e,ex⟩:=z
   refine⟨⟨o,e,ex.1⟩,λa e2=> ?_⟩
   cases e2
   exact⟨o,e,ex.2.1⟩
  .obtain⟨o,_,_,_,e,ex,_⟩:=I.hok p _ hk
   refine⟨⟨o,e,ex.1⟩,λa e2=> ?_⟩
   cases e2
   exact⟨o,e,ex.2.1⟩
 |_=>exact False.elim ty
def tBM(K:W.Frag)(T:String)(r:V->List V->Hp->VK->Prop)(to:TE)(t:TA):TE:=λ σ H Q=>to σ H λx H1=>tyV K T x H1/\t σ H1 λxs H2=>r x xs H2 Q
variable{o e:Expr}{es:List Expr}{to:TE}{t:TA}{name:Str}{apos cpos:Pos}{T id:String}{r:V->List V->Hp->VK->Prop}
theorem zhF(pa:PlainAttrs T)(slot:Slot T name id)(hty:typeOf (.builtin id)=pure (.type "method_descriptor"))(hm:MtR X id r)(ho:PE X o to)(ha:PA X (e::es) t)
 (hbase:attributeBase o name X.env (eval o X.env)=eval o X.env:=by rfl)
 (hfew:((backTo cpos (starEach (e::es) X.env)).all (λx=> !x.1)&&(backToKw cpos (keywordEach [] X.env)).all (λx=>x.1.isSome)
  &&decide ((e::es).length+([]:List Keyword).length+(if([]:List Keyword).isEmpty then 0 else 1)<30))=true:=by rfl)
 (hline:(apos.endLine==cpos.line)=true:=by rfl) (hs:starEach (e::es) X.env=(false,eval e X.env)::starEach es X.env:=by rfl) (hplain:(backTo cpos (starEach es X.env)).any (·.1)=false:=by rfl):
 PE X (.Call (.Attribute o name apos) (e::es) [] cpos) (tBM X.K T r to t):=by
 intro pins s σ H Q I h
 refine wpAny_Call_method_late hbase hfew hline rfl (thn (ho pins s σ H _ I h) λv s1 ⟨x,H1,I1,r1,ty,q1⟩=> ?_)
 obtain⟨h1,h2⟩:=zeQ I1 r1 ty
 refine⟨T,id,pa,slot,hty,h1,h2, ?_⟩
 have hA:=ha cpos pins s1 σ H1 _ I1 q1
 rw[hs] at hA⊢
 refine Calls.callWith_builtin (by show(false||(backTo cpos (starEach es X.env)).any (·.1))=false;rw[hplain]<;>rfl) (Calls.evalArgs_plain ?_)
 exact thn hA λus s2 ⟨vs,H2,I2,r2,q2⟩=>hm pins s2 σ H2 x vs v us Q I2 r1 r2 q2
end
def MtM(X:Cx)(id:String)(r:V->List V->Hp->VK->Prop):Prop:=
 ∀(pins:List (Addr×Obj)) (s:Shared) (σ:St) (H:Hp) (x:V) (xs:List V) (v:Value) (us:List Value) (Q:VK),Inv X pins σ H s->RelV x v->W0 xs us->r x xs H Q->
  wpAny (model X.prog X.w) X.A (call (.builtin id) (v::us)) (EP X pins σ Q) X.xe s
theorem W0.one: ∀{x:V} {us:List Value},W0 [x] us->∃u,us=[u]/\RelV x u
 |_,_, .cons r .nil=>⟨_,rfl,r⟩
theorem W0.reverse{xs:List V}{us:List Value}(h:W0 xs us):W0 xs.reverse us.reverse:=by
 induction h with
 |nil=>exact .nil
 |cons r t ih=>rw[m7,m7];exact W0.append ih (.cons r .nil)
theorem W0.rep{xs:List V}{us:List Value}(h:W0 xs us): ∀k:Nat,W0 (e8 k xs).flatten (e8 k us).flatten
 |0=> .nil
 |k+1=>by
  rw[p5,p5,A8,A8]
  exact W0.append h (W0.rep h k)
theorem z22(its:List Value): ∀(k:Nat) (acc:List Value),
 F8 (λx1 x2=>x1++x2) acc.toArray (e8 k its.toArray)=(acc++(e8 k its).flatten).toArray
 |0,acc=>by simp
 |k+1,acc=>by
  have e:acc.toArray++its.toArray=(acc++its).toArray:=by simp
  have e2:(acc++its)++(e8 k its).flatten=acc++(e8 (k+1) its).flatten:=by
   rw[p5,A8,o0]
  rw[<-e2,<-z22 its k (acc++its),<-e,p5,List.foldl_cons]
section
variable{X:Cx}{pins:List (Addr×Obj)}{σ:St}{H:Hp}{s:Shared}{l b:Addr}{xs ys zs:List V}
theorem Inv.lset{its its':List Value}{n:Nat}{f:Array Value->Array Value}{t':Nat}(I:Inv X pins σ H s)(hH:H l=some (.lst xs))
 (e:s.heap.get? l=some {cls:= .type "list",data:= .seq its.toArray n}) (hf:f its.toArray=its'.toArray) (hv:W0 ys its') (hz:ys.length<=sizeLine):
 Inv X pins σ (upd H l (.lst ys)) {s with heap:=s.heap.update l (Obj.mapSeq f),toks:=t'}:=by
 have q:=PySem.IsL.update e f
 rw[hf] at q
 refine I.write (x:=l) (e:=l) (by rw[hH];exact trivial) (.inl rfl) (λb' u hb hu=>(Heap.get?_update_other s.heap (Obj.mapSeq f) (Ne.symm hb)).trans hu) ⟨_,q⟩ ?_
 exact⟨hz,its',_,hv,q⟩
theorem Inv.lnew{its:List Value}{t':Nat}(I:Inv X pins σ H s)(hv:W0 ys its)(hz:ys.length<=sizeLine):
 Inv X pins σ (upd H s.heap.objs.size (.lst ys)) {s with heap:=s.heap.push {cls:= .type "list",data:= .seq its.toArray},toks:=t'}:=
 I.laid (λ_ _ q=>Heap.get?_push_of_some _ q) (c6 _) ⟨hz,its,0,hv,Heap.get?_push_size _ rfl⟩
theorem Inv.fresh(I:Inv X pins σ H s):H s.heap.objs.size=none:=I.hok.fresh (c6 _)
theorem Inv.lstM(I:Inv X pins σ H s)(hH:H l=some (.lst xs)):xs.length<=sizeLine/\∃(its:List Value) (n:Nat),W0 xs its/\xs.length=its.length/\s.heap.get? l=some {cls:= .type "list",data:= .seq its.toArray n}:=by
 obtain⟨z,its,n,r,e⟩:=I.hok l _ hH
 exact⟨z,its,n,r,r.length,e⟩
theorem z9X{n:Nat}(h:n<=sizeLine):Builtin.List.listTooLong n=false:=by
 unfold Builtin.List.listTooLong
 exact decide_eq_false (by lia)
end
section
variable{X:Cx}
def zcu:V->List V->Hp->VK->Prop:=λx vs H Q=> ∃l xs y,x= .ref l/\vs=[y]/\H l=some (.lst xs)/\xs.length<sizeLine/\Q .non (upd H l (.lst (xs++[y])))
theorem z83:MtM X "list.append" zcu:=by
 intro pins s σ H x vs v us Q I rx rv h
 obtain⟨l,xs,y,rfl,rfl,hH,hz,q⟩:=h
 cases rx
 obtain⟨u,rfl,ru⟩:=rv.one
 obtain⟨z,its,n,r,hl,e⟩:=I.lstM hH
 refine call_meets F.slot_list_append ⟨_,e,rfl⟩ F.entry_list_append (F.args_list_append_2 _ _) (PySem.list_append l its.toArray n u (by rw[i3];lia)) ⟨e, ?_⟩
 refine⟨.non,_,I.lset (its':=its++[u]) hH e (by simp) (r.append (.cons ru .nil)) ?_,rfl,q⟩
 rw[l3,List.length_singleton]
 lia
def zhG:R2:=λx y H Q=> ∃l b xs zs,x= .ref l/\y= .ref b/\H l=some (.lst xs)/\H b=some (.lst zs)/\xs.length+zs.length<=sizeLine/\∀p,H p=none->Q (.ref p) (upd H p (.lst (xs++zs)))
theorem zeR:OpR X (binaryOp .Add) zhG:=by
 intro pins s σ H x y v u Q I rx ry h
 obtain⟨l,b,xs,zs,rfl,rfl,hH,hB,hz,q⟩:=h
 cases rx
 cases ry
 obtain⟨z,its,n,r,hl,e⟩:=I.lstM hH
 obtain⟨z2,its2,n2,r2,hl2,e2⟩:=I.lstM hB
 refine PySem.P.add_list e e2 ?_ (by rw[i3,i3];lia)
 have ea:its.toArray++its2.toArray=(its++its2).toArray:=by simp
 rw[ea]
 exact⟨.ref _,_,I.lnew (t':=s.toks) (r.append r2) (by rw[l3];lia),rfl,q _ I.fresh⟩
def zhH:R2:=λx y H Q=> ∃l k xs,x= .ref l/\y= .int k/\H l=some (.lst xs)/\-(2^63)<=k/\k<2^63/\xs.length*k.toNat<=sizeLine/\
 ∀p,H p=none->Q (.ref p) (upd H p (.lst (e8 k.toNat xs).flatten))
theorem z5a{α:Type}(xs:List α)(k:Nat):(e8 k xs).flatten.length=k*xs.length:=by
 induction k with
 |zero=>simp
 |succ k ih=>rw[p5,A8,l3,ih,Nat.succ_mul,Nat.add_comm]
theorem zeS:OpR X (binaryOp .Mult) zhH:=by
 intro pins s σ H x y v u Q I rx ry h
 obtain⟨l,k,xs,rfl,rfl,hH,h1,h2,hz,q⟩:=h
 cases rx
 obtain⟨t,rfl⟩:=ry
 obtain⟨z,its,n,r,hl,e⟩:=I.lstM hH
 have hlen:its.toArray.size*k.toNat<=sizeLine:=by rw[i3,<-hl];exact hz
 have hcap: ¬its.toArray.size*k.toNat>(2^63 - 1)/8:=by
  have:(sizeLine:Nat)<=(2^63 - 1)/8:=by decide
  lia
 have hfit: ¬(!Builtin.List.listFitsIndex k)=true:=by
  rw[fitsIndex_both h1 h2]
  exact i5
 have hlong: ¬Builtin.List.listTooLong (its.toArray.size*k.toNat)=true:=by
  rw[z9X hlen]
  exact i5
 have hnew:F8 (λx1 x2=>x1++x2) #[] (e8 (if its.toArray.isEmpty=true then 0 else k.toNat) its.toArray)=(e8 k.toNat its).flatten.toArray:=by
  have f0: ∀m:Nat,F8 (λx1 x2=>x1++x2) #[] (e8 m its.toArray)=(e8 m its).flatten.toArray:=λm=>by
   have:=z22 its m []
   rw[m5] at this
   exact this
  rw[f0]
  cases its with
  |nil=>simp
  |cons a r'=>rw[if_neg (by simp)]
 refine wpAny_binaryOp_repeat_ref (T:= "list") (U:= "int") (by decide) ⟨_,e,rfl⟩ (λs'=>typeIs_int s' k t) noFill_list_mul F.fills_int_mul F.slot_int_rmul repeat_list F.slot_int_index.lookup
  (call_meets F.slot_int_rmul (typeIs_int s k t) F.entry_int_rmul (F.args_int_rmul_2 _ _) (int___rmul___int_list k t l its.toArray n)
   ⟨e,rfl,⟨_,e,rfl⟩,call_meets F.slot_list_mul ⟨_,e,rfl⟩ F.entry_list_mul (F.args_list_mul_2 _ _) (AutoListH.list___mul___list_int_3 l its.toArray n k t hfit hcap hlong) ⟨e, ?_⟩⟩)
 rw[hnew]
 exact⟨.ref _,_,I.lnew (t':=s.toks) (r.rep k.toNat) (by rw[z5a,O0];exact hz),rfl,q _ I.fresh⟩
end
section
variable{prog:Program}{w:World}{A:Around}{E:Value->Shared->Prop}{s:Shared}
set_option maxRecDepth 100000 in
end
section
variable{κ:Type}[DecidableEq κ]
def valV(kvs:List (κ×V))(k:κ):Option V:=(kvs.find? λkv=>decide (kv.1=k)).map (·.2)
def z54(kvs:List (κ×V))(k:κ)(v:V):List (κ×V):=
 if(kvs.any λkv=>decide (kv.1=k))=true then kvs.map (λkv=>if kv.1=k then(kv.1,v) else kv) else kvs++[(k,v)]
def z1H(kvs:List (κ×V))(k:κ):List (κ×V):=kvs.filter λkv=>decide (kv.1≠k)
theorem z0G{p:κ×V}{r:List (κ×V)}{k:κ}(e:p.1=k):valV (p::r) k=some p.2:=by simp[valV,List.find?_cons,e]
theorem z0i{p:κ×V}{r:List (κ×V)}{k:κ}(e: ¬p.1=k):valV (p::r) k=valV r k:=by simp[valV,List.find?_cons,e]
theorem z62(k:κ): ∀kvs:List (κ×V),(kvs.any λkv=>decide (kv.1=k))=(valV kvs k).isSome
 |[]=>rfl
 |p::r=>by
  rw[E7]
  by_cases e:p.1=k
  .erw[z0G e,decide_eq_true e,P8,Option.isSome_some]
  .rw[z0i e,decide_eq_false e,P7];exact z62 k r
theorem z23(kvs:List (κ×V))(k:κ)(v:V):(z54 kvs k v).length<=kvs.length+1:=by
 unfold z54
 split
 .rw[l0];lia
 .rw[l3,i0,n8];lia
theorem RelO.isSome_eq{o:Option V}{u:Option Value}(r:RelO o u):o.isSome=u.isSome:=by
 cases o with
 |none=>cases u with
  |none=>rfl
  |some _=>exact(show False from r).elim
 |some _=>cases u with
  |none=>exact(show False from r).elim
  |some _=>rfl
theorem KV.val{kvs:List (κ×V)}{vs:List (κ×Value)}(r:KV kvs vs)(k:κ):RelO (valV kvs k) (valueAt vs k):=by
 unfold KV at r
 induction r with
 |nil=>exact True.intro
 | @cons p q ps qs h t ih=>
  obtain⟨h1,h2⟩:=h
  by_cases e:p.1=k
  .have e':q.1=k:=h1.symm.trans e
   have b:valueAt (q::qs) k=some q.2:=by simp[valueAt,List.find?_cons,e']
   rw[z0G e,b];exact h2
  .have e': ¬q.1=k:=λz=>e (h1.trans z)
   have b:valueAt (q::qs) k=valueAt qs k:=by simp[valueAt,List.find?_cons,e']
   rw[z0i e,b];exact ih
theorem KV.any{kvs:List (κ×V)}{vs:List (κ×Value)}(r:KV kvs vs)(k:κ):(kvs.any λkv=>decide (kv.1=k))=vs.any λkv=>decide (kv.1=k):=by
 unfold KV at r
 induction r with
 |nil=>rfl
 |cons h t ih=>rw[E7,E7,ih,h.1]
theorem KV.repl{kvs:List (κ×V)}{vs:List (κ×Value)}(r:KV kvs vs)(k:κ){y:V}{u:Value}(ry:RelV y u):
 KV (kvs.map λkv=>if kv.1=k then(kv.1,y) else kv) (vs.map λkv=>if kv.1=k then(kv.1,u) else kv):=by
 unfold KV at r⊢
 induction r with
 |nil=>exact .nil
 | @cons p q ps qs h t ih=>
  rw[c8,c8]
  refine .cons ?_ ih
  obtain⟨h1,h2⟩:=h
  by_cases e:p.1=k
  .rw[if_pos e,if_pos (h1.symm.trans e)];exact⟨h1,ry⟩
  .rw[if_neg e,if_neg (λz=>e (h1.trans z))];exact⟨h1,h2⟩
theorem KV.put{kvs:List (κ×V)}{vs:List (κ×Value)}(r:KV kvs vs)(k:κ){y:V}{u:Value}(ry:RelV y u):KV (z54 kvs k y) (stored vs k u):=by
 unfold z54 stored
 rw[r.any k]
 by_cases e:(vs.any λkv=>decide (kv.1=k))=true
 .rw[if_pos e,if_pos e];exact r.repl k ry
 .rw[if_neg e,if_neg e];exact Paired.snoc r ⟨rfl,ry⟩
theorem KV.length{kvs:List (κ×V)}{vs:List (κ×Value)}(r:KV kvs vs):kvs.length=vs.length:=Paired.length r
theorem z9Y(kvs:List (κ×V))(k:κ):(z1H kvs k).length<=kvs.length:=N1 _ _
end
theorem z6S{P:Program}{w:World}{k:Key}{u:Value}(r:RelV (kV k) u):(Y6 P w).is k u=true:=by
 cases k with
 |inl i=>obtain⟨t,e⟩:=(show ∃t,u=Value.int i t from r);subst e;exact z56 P w i t
 |inr x=>obtain⟨t,e⟩:=(show ∃t,u=Value.str x t from r);subst e;exact z57 P w x t
theorem z4f{P:Program}{w:World}: ∀{ks:List Key} {us:List Value},W0 (ks.map kV) us->ItemsAre (Y6 P w) ks us
 |[],_,r=>by rw[l7] at r;cases r;exact .nil
 |k::ks,_,r=>by
  rw[c8] at r
  cases r with
  |cons h t=>exact .cons (z6S h) (z4f t)
abbrev KT(H:Hp):List (NK×V)->List (NK×Addr×Value)->Prop:=Paired λp q=>p.1=q.1/\TK H p.1 q.2.1/\RelV p.2 q.2.2
theorem KT.val{H:Hp}{kvs:List (NK×V)}{xs:List (NK×Addr×Value)}(r:KT H kvs xs)(k:NK):RelO (valV kvs k) ((atKey xs k).map (·.2)):=by
 induction r with
 |nil=>exact True.intro
 | @cons p q ps qs h t ih=>
  obtain⟨h1,_,h2⟩:=h
  by_cases e:p.1=k
  .have e':q.1=k:=h1.symm.trans e
   have b:atKey (q::qs) k=some q.2:=by simp[atKey,List.find?_cons,e']
   rw[z0G e,b];exact h2
  .have e': ¬q.1=k:=λz=>e (h1.trans z)
   have b:atKey (q::qs) k=atKey qs k:=by simp[atKey,List.find?_cons,e']
   rw[z0i e,b];exact ih
theorem KT.repl{H:Hp}{kvs:List (NK×V)}{xs:List (NK×Addr×Value)}(r:KT H kvs xs)(k:NK){y:V}{u:Value}(ry:RelV y u):
 KT H (kvs.map λkv=>if kv.1=k then(kv.1,y) else kv) (xs.map (putAt k u)):=by
 induction r with
 |nil=>exact .nil
 | @cons p q ps qs h t ih=>
  rw[c8,c8]
  refine .cons ?_ ih
  obtain⟨h1,h2,h3⟩:=h
  unfold putAt
  by_cases e:p.1=k
  .rw[if_pos e,if_pos (h1.symm.trans e)];exact⟨h1,h2,ry⟩
  .rw[if_neg e,if_neg (λz=>e (h1.trans z))];exact⟨h1,h2,h3⟩
theorem KT.put{H:Hp}{kvs:List (NK×V)}{xs:List (NK×Addr×Value)}(r:KT H kvs xs)(k:NK){b:Addr}{y:V}{u:Value}(hb:TK H k b)(ry:RelV y u):
 KT H (z54 kvs k y) (storedH xs k b u):=by
 have e:(kvs.any λkv=>decide (kv.1=k))=(atKey xs k).isSome:=by
  rw[z62,(r.val k).isSome_eq,D0]
 unfold z54 storedH
 rw[e]
 by_cases q:(atKey xs k).isSome=true
 .rw[if_pos q,if_pos q];exact r.repl k ry
 .rw[if_neg q,if_neg q];exact Paired.snoc r ⟨rfl,hb,ry⟩
theorem KT.keeps{H H':Hp}{kvs:List (NK×V)}{xs:List (NK×Addr×Value)}(r:KT H kvs xs)(ht: ∀b ys,H b=some (.tup ys)->H' b=some (.tup ys)):KT H' kvs xs:=
 Paired.mapP r λ_ _ z=>⟨z.1,z.2.1.stay ht,z.2.2⟩
section
variable{P:Program}{w:World}{H:Hp}{h:Heap}{a:Addr}
theorem zeT{u:HO}(ok:HOk P w H h)(e:Rd H a u):J7 P w H h a u:=e.ok ok
theorem z6T{kvs:List (Key×V)}(ok:HOk P w H h)(e:Rd H a (.dK kvs)):kvs.length<=sizeLine/\(a==sysModules)=false/\∃vs,KV kvs vs/\h.DictOf (Y6 P w) a vs:=
 show J7 P w H h a (.dK kvs) from zeT ok e
theorem zhI{kvs:List (Key×V)}(ok:HOk P w H h)(e:H a=some (.dK kvs)):kvs.length<=sizeLine/\(a==sysModules)=false/\∃vs,KV kvs vs/\h.DictOf (Y6 P w) a vs:=z6T ok (.inl e)
theorem zcv{ks:List Key}(ok:HOk P w H h)(e:H a=some (.tup (ks.map kV))):IsTupleKey (Y6 P w) h ks a:=by
 obtain⟨_,its,r,o,h1,h2,n,h3⟩:=(show J7 P w H h a (.tup (ks.map kV)) from ok a _ e)
 exact⟨o,its.toArray,n,h1,h2,h3,by simpa using z4f r⟩
theorem z5b(ok:HOk P w H h): ∀{k:NK} {xs:List V} {us:List Value},Paired (TKi H) k xs->W0 xs us->Paired (ItN P w h) k us
 |_,_,_, .nil, .nil=> .nil
 | .inl k::_,_,_, .cons a b, .cons c d=>by
  have e:=(show _=kV k from a)
  subst e
  exact .cons (z6S c) (z5b ok b d)
 | .inr ks::_,_,_, .cons a b, .cons c d=>by
  obtain⟨x,rfl,hx⟩:=a
  cases c
  exact .cons ⟨x,rfl,zcv ok hx⟩ (z5b ok b d)
theorem z35{k:NK}(ok:HOk P w H h)(e:TK H k a):(X1 P w).is h k a:=by
 obtain⟨xs,e,p⟩:=e
 obtain⟨_,its,r,o,h1,h2,n,h3⟩:=(show J7 P w H h a (.tup xs) from ok a _ e)
 exact⟨o,its.toArray,n,h1,h2,h3,by simpa using z5b ok p r⟩
theorem z6U{kvs:List (NK×V)}(ok:HOk P w H h)(e:Rd H a (.dT kvs)):kvs.length<=sizeLine/\(a==sysModules)=false/\
 ∃xs,KT H kvs xs/\h.DictOfH (X1 P w) a xs:=by
 obtain⟨z,y,xs,r,o,es,ep,h1,h2,h3,h4,h5⟩:=(show J7 P w H h a (.dT kvs) from zeT ok e)
 refine⟨z,y,xs,r,o,es,ep,h1,h2,h3,h4,λx hx=> ?_,h5⟩
 have all: ∀{l:List (NK×V)} {m:List (NK×Addr×Value)},KT H l m->∀x∈m,(X1 P w).is h x.1 x.2.1:=by
  intro l m q
  induction q with
  |nil=>intro x hx;exact nomatch hx
  | @cons p q ps qs hq t ih=>
   intro x hx
   rcases c9.mp hx with e|hx
   .subst e
    exact z35 ok (by rw[<-hq.1];exact hq.2.1)
   .exact ih x hx
 exact all r x hx
theorem zeU{kvs:List (NK×V)}(ok:HOk P w H h)(e:H a=some (.dT kvs)):kvs.length<=sizeLine/\(a==sysModules)=false/\
 ∃xs,KT H kvs xs/\h.DictOfH (X1 P w) a xs:=z6U ok (.inl e)
end
def z9Z(H:Hp)(a:Addr)(y:V)(r:Option V):Prop:=
 (∃kvs k,Rd H a (.dK kvs)/\y=kV k/\r=valV kvs k)\/∃kvs k b,Rd H a (.dT kvs)/\y= .ref b/\TK H k b/\r=valV kvs k
def ze1(H:Hp)(a:Addr)(y v:V)(H':Hp):Prop:=
 (∃kvs k,H a=some (.dK kvs)/\y=kV k/\kvs.length<sizeLine/\H'=upd H a (.dK (z54 kvs k v)))\/
 ∃kvs k b,H a=some (.dT kvs)/\y= .ref b/\TK H k b/\kvs.length<sizeLine/\H'=upd H a (.dT (z54 kvs k v))
theorem ze1.t{H:Hp}{a b:Addr}{kvs:List (NK×V)}{k:NK}{v:V}(e:H a=some (.dT kvs))(eb:TK H k b)(hl:kvs.length<sizeLine):
 ze1 H a (.ref b) v (upd H a (.dT (z54 kvs k v))):= .inr ⟨kvs,k,b,e,rfl,eb,hl,rfl⟩
section
variable{X:Cx}{pins:List (Addr×Obj)}{σ:St}{H:Hp}{s:Shared}{a:Addr}{y v:V}{u r:Value}{o:Option V}{A:Around}{E:Value->Shared->Prop}
theorem Inv.big(I:Inv X pins σ H s):sysModules<s.heap.objs.size:=by
 have h:mainGlobals<s.heap.objs.size:=(I.mod.glob.keeps I.bk).lt
 exact P9 (by decide) h
theorem z84{Q:Value->Shared->Prop}(hu:A.units+2<cLine)(I:Inv X pins σ H s)(g:z9Z H a y (some v))(ry:RelV y u)(h: ∀w' s',Inv X pins σ H s'->RelV v w'->Q w' s'):
 wpAny (model X.prog X.w) A (getItem (.ref a) u) Q E s:=by
 rcases g with⟨kvs,k,e,ey,l⟩|⟨kvs,k,b,e,ey,eb,l⟩
 .subst ey
  obtain⟨z,hd,vs,rel,dd⟩:=z6T I.hok e
  obtain⟨w',hw,rw'⟩:=RelO.some_of (v:=v) (o:=valueAt vs k) (by rw[l];exact rel.val k)
  exact wpAny_getItem_of (z6S ry) dd.mapOf hw (h w' _ (I.tok _) rw')
 .subst ey
  cases(show u=Value.ref b from ry)
  obtain⟨z,hd,xs,rel,dd⟩:=z6U I.hok e
  obtain⟨w',hw,rw'⟩:=RelO.some_of (v:=v) (o:=(atKey xs k).map (·.2)) (by rw[l];exact rel.val k)
  obtain⟨p,hp,hp2⟩:=Option.map_eq_some_iff.mp hw
  refine wpAny_getItem_heap (K9 hu) (z35 I.hok eb) dd hp ?_
  rw[hp2]
  exact h w' _ (I.tok _) rw'
theorem zk3{Q:Value->Shared->Prop}(hu:A.units+2<cLine)(I:Inv X pins σ H s)(g:z9Z H a y o)(ry:RelV y u)(h: ∀s',Inv X pins σ H s'->Q (.bool o.isSome) s'):
 wpAny (model X.prog X.w) A (compareOp .In u (.ref a)) Q E s:=by
 rcases g with⟨kvs,k,e,ey,l⟩|⟨kvs,k,b,e,ey,eb,l⟩
 .subst ey
  obtain⟨z,hd,vs,rel,dd⟩:=z6T I.hok e
  refine wpAny_in_of (z6S ry) hd dd.mapOf ?_
  rw[<-(rel.val k).isSome_eq,<-l]
  exact h _ (I.tok _)
 .subst ey
  cases(show u=Value.ref b from ry)
  obtain⟨z,hd,xs,rel,dd⟩:=z6U I.hok e
  refine wpAny_in_heap (K9 hu) (z35 I.hok eb) hd dd ?_
  have q:=(rel.val k).isSome_eq
  rw[D0] at q
  rw[<-q,<-l]
  exact h _ (I.tok _)
theorem zcw{Q:Value->Shared->Prop}(hu:A.units+2<cLine)(I:Inv X pins σ H s)(g:z9Z H a y o)(ry:RelV y u)(h: ∀s',Inv X pins σ H s'->Q (.bool (!o.isSome)) s'):
 wpAny (model X.prog X.w) A (compareOp .NotIn u (.ref a)) Q E s:=by
 rcases g with⟨kvs,k,e,ey,l⟩|⟨kvs,k,b,e,ey,eb,l⟩
 .subst ey
  obtain⟨z,hd,vs,rel,dd⟩:=z6T I.hok e
  refine wpAny_notIn_of (z6S ry) hd dd.mapOf ?_
  rw[<-(rel.val k).isSome_eq,<-l]
  exact h _ (I.tok _)
 .subst ey
  cases(show u=Value.ref b from ry)
  obtain⟨z,hd,xs,rel,dd⟩:=z6U I.hok e
  refine wpAny_notIn_heap (K9 hu) (z35 I.hok eb) hd dd ?_
  have q:=(rel.val k).isSome_eq
  rw[D0] at q
  rw[<-q,<-l]
  exact h _ (I.tok _)
theorem z5c{h':Heap}{t':Nat}{ob:HO}(I:Inv X pins σ H s)(mu:Mut (H a))(hs:Heap.SameBut a s.heap h')(he: ∃q,h'.get? a=some q)(new:J7 X.prog X.w (upd H a ob) h' a ob):
 Inv X pins σ (upd H a ob) {s with heap:=h',toks:=t'}:=
 I.write (x:=a) (e:=a) mu (.inl rfl) (λb q hb z=>(hs.2 b hb).trans z) he new
theorem zeV{P:Program}{w:World}{H':Hp}{h':Heap}{kvs:List (Key×V)}{vs:List (Key×Value)}(z:kvs.length<=sizeLine)(hd:(a==sysModules)=false)(rel:KV kvs vs)(dd:h'.DictOf (Y6 P w) a vs):
 J7 P w H' h' a (.dK kvs):=⟨z,hd,vs,rel,dd⟩
theorem z85{H':Hp}{Q:Unit->Shared->Prop}(hu:A.units+2<cLine)(I:Inv X pins σ H s)(g:ze1 H a y v H')(ry:RelV y u)(rv:RelV v r)(h: ∀s',Inv X pins σ H' s'->Q () s'):
 wpAny (model X.prog X.w) A (setItem (.ref a) u r) Q E s:=by
 rcases g with⟨kvs,k,e,ey,l,eH⟩|⟨kvs,k,b,e,ey,eb,l,eH⟩
 .subst ey eH
  obtain⟨z,hd,vs,rel,dd⟩:=zhI I.hok e
  have hz:vs.length<=sizeLine:=by rw[<-rel.length];exact z
  have hl:(z54 kvs k v).length<=sizeLine:=by have:=z23 kvs k v;lia
  refine wpAny_setItem_pairs (hsz:=hz) (z6S ry) dd λh' dd' hs=>h _ ?_
  have he: ∃q,h'.get? a=some q:=let⟨q,_,_,hq,_⟩:=dd';⟨q,hq⟩
  exact z5c I (by rw[e];exact True.intro) hs he (zeV hl hd (rel.put k rv) dd')
 .subst ey eH
  cases(show u=Value.ref b from ry)
  obtain⟨z,hd,xs,rel,dd⟩:=zeU I.hok e
  have hz:xs.length<=sizeLine:=by rw[<-Paired.length rel];exact z
  have hl:(z54 kvs k v).length<=sizeLine:=by have:=z23 kvs k v;lia
  refine wpAny_setItem_heap (hsz:=hz) (K9 hu) (z35 I.hok eb) dd λh' dd' hs=>h _ ?_
  obtain⟨q,es,ep,hq,h2,h3,h4,_,h5⟩:=dd'
  refine z5c I (by rw[e];exact True.intro) hs ⟨q,hq⟩ ⟨hl,hd,_,(rel.put k eb rv).keeps λc ys ec=> ?_,q,es,ep,hq,h2,h3,h4,h5⟩
  rw[y4 (z0q ec e (λz=>nomatch z))]
  exact ec
end
def zjC(i:Expr):Prop:= ∀ov iv,subscripted i false ov iv=operate [ov,iv] (getItem ov iv)
theorem zcx{prog:Program}{w:World}{A:Around}{E:Value->Shared->Prop}{s:Shared}{env:Env}{value slice:Expr}{pos:Pos}{T id:String}{Q:Value->Shared->Prop}
 (hl:typeLookup (.type T) "__getitem__" =pure (some (.builtin id))) (hs:zjC slice)
 (h:wpAny (model prog w) A (eval value env) (λo s₁=>wpAny (model prog w) A (eval slice env) (λi s₂=>s₂.TypeIs o T/\wpAny (model prog w) A (getItem o i) Q E s₂) E s₁) E s):
 wpAny (model prog w) A (eval (.Subscript value slice pos) env) Q E s:=by
 refine Subscript_ (wpAny_mono h (λo s₁ h₁=>wpAny_mono h₁ (λi s₂ h₂=> ?_) λ_ _ x=>x) λ_ _ x=>x)
 obtain⟨hT,h₂⟩:=h₂
 unfold subscriptTail
 refine wpAny_bind ?_
 rw[getitemInPython_of_ne hT.not_modules]
 refine wpAny_bind (wpAny_specialOf hT hl ?_)
 have fin:wpAny (model prog w) A (subscripted slice false o i) (λr s₃=>wpAny (model prog w) A (letTemporaryGo value o r>>=λ_=>pure r) Q E s₃) E s₂:=by
  rw[hs o i]
  exact wpAny_operating (wpAny_mono h₂ (λr s₃ h₃=>wpAny_bind (wpAny_letTemporaryGo (wpAny_pure h₃))) λ_ _ x=>x)
 first
  |exact wpAny_pure (wpAny_bind fin)
  |exact wpAny_bind (wpAny_pure (wpAny_bind fin))
  |exact wpAny_bind fin
theorem z5d{X:Cx}{pins:List (Addr×Obj)}{σ:St}{H:Hp}{s:Shared}{a:Addr}{y:V}{o:Option V}(I:Inv X pins σ H s)(g:z9Z H a y o):s.TypeIs (.ref a) "dict" :=by
 rcases g with⟨kvs,k,e,_,_⟩|⟨kvs,k,b,e,_,_,_⟩
 .obtain⟨_,_,vs,_,dd⟩:=z6T I.hok e
  exact dd.typeIs
 .obtain⟨_,_,xs,_,dd⟩:=z6U I.hok e
  exact dd.typeIs
def zeW(td ty:TE):TE:=λ σ H Q=>td σ H λx H1=>ty σ H1 λy H2=> ∃a v,x= .ref a/\z9Z H2 a y (some v)/\Q v H2
def zhJ(td ty tv:TE):TS:=λD σ H=>tv σ H λv H1=>td σ H1 λx H2=>ty σ H2 λy H3=> ∃a H4,x= .ref a/\ze1 H3 a y v H4/\D.nx σ H4
section
variable{X:Cx}{o i e value:Expr}{pos pos' tpos:Pos}{td ty tv:TE}
theorem z5e(hu:X.A.units+2<cLine)(ho:PE X o td)(hi:PE X i ty)(hs:zjC i):PE X (.Subscript o i pos) (zeW td ty):=by
 intro pins s σ H Q I h
 refine zcx PySem.F.slot_dict_getitem.lookup hs (thn (ho pins s σ H _ I h) λu s1 ⟨x,H1,I1,rx,q1⟩=>thn (hi pins s1 σ H1 _ I1 q1) λiv s2 ⟨y,H2,I2,ry,a,v,ex,g,q2⟩=> ?_)
 subst ex
 obtain rfl:u=Value.ref a:=rx
 exact⟨z5d I2 g,z84 hu I2 g ry λw' s3 I3 rw'=>⟨v,H2,I3,rw',q2⟩⟩
theorem zcy(hu:X.A.units+2<cLine)(ho:PE X o td)(hi:PE X i ty)(hv:PE X value tv)(hs:swapsWith value (some (.Subscript o i pos')) pos.line X.env=pure false):
 PS X (.Assign [.Subscript o i pos'] value pos) (zhJ td ty tv):=by
 intro pins s σ H D I h
 refine wpAny_Assign_Subscript (thn (hv pins s σ H _ I h) λr s1 ⟨v,H1,I1,rv,q1⟩=>thn (ho pins s1 σ H1 _ I1 q1) λu s2 ⟨x,H2,I2,rx,q2⟩=>thn (hi pins s2 σ H2 _ I2 q2) λiv s3 ⟨y,H3,I3,ry,a,H4,ex,g,q3⟩=> ?_) hs
 subst ex
 obtain rfl:u=Value.ref a:=rx
 exact z85 hu I3 g ry rv λs4 I4=>⟨σ,H4,I4,q3⟩
end
theorem za0{P:Program}{w:World}{H:Hp}(h:Heap)(hb:sysModules<h.objs.size):J7 P w H (h.push {cls:= .type "dict",data:= .dict #[]}) h.objs.size (.dT []):=
 ⟨A6 _,beq_eq_false_iff_ne.mpr (Ne.symm (l8 hb)),[], .nil,_, #[],0,Heap.get?_push_size _ rfl,⟨rfl,rfl,rfl⟩,rfl,rfl,P5⟩
def zeX:TE:=λ_ H Q=> ∀p,H p=none->Q (.ref p) (upd H p (.dT []))
section
variable{X:Cx}{pos:Pos}
theorem za1:PE X (.Dict [] [] pos) zeX:=λpins s σ H Q I h=>
 wpAny_Dict_empty ⟨.ref s.heap.objs.size,_,I.laid (a:=s.heap.objs.size) (o:= .dT []) (t':=s.toks) (λ_ _ q=>Heap.get?_push_of_some _ q) (c6 _) (za0 s.heap I.big),rfl,h _ (I.hok.fresh (c6 _))⟩
end
structure M1(X:Cx)(o:Expr)(m:Str)(apos:Pos)(e:Expr)(cpos:Pos):Prop where
 base:attributeBase o m X.env (eval o X.env)=eval o X.env
 few:((backTo cpos (starEach [e] X.env)).all (λx=> !x.1)&&(backToKw cpos (keywordEach [] X.env)).all (λx=>x.1.isSome)
  &&decide (([e]:List Expr).length+([]:List Keyword).length+(if([]:List Keyword).isEmpty then 0 else 1)<30))=true
 line:(apos.endLine==cpos.line)=true
 trees:backTo cpos (starEach [e] X.env)=[(false,eval e X.env)]
structure M2(X:Cx)(o:Expr)(m:Str)(apos:Pos)(e f:Expr)(cpos:Pos):Prop where
 base:attributeBase o m X.env (eval o X.env)=eval o X.env
 few:((backTo cpos (starEach [e,f] X.env)).all (λx=> !x.1)&&(backToKw cpos (keywordEach [] X.env)).all (λx=>x.1.isSome)
  &&decide (([e,f]:List Expr).length+([]:List Keyword).length+(if([]:List Keyword).isEmpty then 0 else 1)<30))=true
 line:(apos.endLine==cpos.line)=true
 trees:backTo cpos (starEach [e,f] X.env)=[(false,eval e X.env),(false,eval f X.env)]
def IsD(H:Hp)(a:Addr):Prop:=(∃kvs,Rd H a (.dK kvs))\/∃kvs,Rd H a (.dT kvs)
theorem zbi{X:Cx}{pins:List (Addr×Obj)}{σ:St}{H:Hp}{s:Shared}{a:Addr}(I:Inv X pins σ H s)(d:IsD H a):
 s.TypeIs (.ref a) "dict" /\(∀b,Value.ref a= .ref b->∃ob,s.heap.get? b=some ob/\ob.dict=none)/\(a==sysModules)=false:=by
 rcases d with⟨kvs,e⟩|⟨kvs,e⟩
 .obtain⟨_,hd,vs,_,dd⟩:=z6T I.hok e
  refine⟨dd.typeIs,λb q=> ?_,hd⟩
  cases q
  obtain⟨ob,_,_,h1,h2,_⟩:=dd
  exact⟨ob,h1,h2.2.1⟩
 .obtain⟨_,hd,xs,_,dd⟩:=z6U I.hok e
  refine⟨dd.typeIs,λb q=> ?_,hd⟩
  cases q
  obtain⟨ob,_,_,h1,h2,_⟩:=dd
  exact⟨ob,h1,h2.2.1⟩
end L2
namespace Att
open PySem PySem.W PySem.Calls PyProof.Rows
theorem z24{P:Params}{h:Heap}: ∀(ns:List Int) (vs:List Value),WellAll P h vs (ns.map WData.int)->IntsAre vs ns:=by
 intro ns
 induction ns with
 |nil=>
  intro vs w
  rw[l7] at w
  cases w
  exact .nil
 |cons n ns ih=>
  intro vs w
  rw[c8] at w
  cases w with
  |cons a b=>
   cases a
   exact .cons _ _ (ih _ b)
theorem z86{l:OpenLaw}{n:Nat}(hn:l.most=some n){P:Params}{h:Heap}{args:List WData}{vals:List Value}
 (hpre:l.row.toRowW.claim.pre args=true) (hwl:WellAll P h vals args):
 ∃a vs ns,vals=[Value.ref a]/\args=[WData.list (ns.map WData.int)]/\h.get? a=some {cls:= .type "list",data:= .seq vs.toArray}/\IntsAre vs ns/\ns.length<=n:=by
 have hsh:WShape.hasAll [] args [.list .int]=true:=(pre_splitW hpre).1
 have hc:l.pre.holds [] {args:=args}=true:=(pre_splitW hpre).2
 obtain⟨d,r,rfl,h1,h2⟩:=hasAllW_cons hsh
 obtain rfl:=hasAllW_nil h2
 obtain⟨xs,rfl,h3⟩:=hasW_list h1
 obtain⟨ns,rfl⟩:=items_int h3
 have hlen:ns.length<=n:=by
  unfold OpenLaw.pre at hc
  have h4:(WTm.not (.lt (.lit (.int (n:Int))) (.len (.arg 0)))).holds [] {args:=[.list (ns.map .int)]}=true:=by
   have h4:=(holds_andW hc).1
   rw[hn] at h4
   exact h4
  have h5:=condW_of h4 (w_not (w_lt w_lit (w_len_list (w_arg rfl))))
  rw[l0] at h5
  refine E4 λq=> ?_
  have q':(n:Int)<((ns.length:Nat):Int):=by lia
  first
   |(rw[decide_eq_true q'] at h5;exact absurd h5 (by decide))
   |(simp at h5;lia)
 cases hwl with
 |cons w1 w2=>
  cases w2
  cases w1 with
  |list ho hall=>exact⟨_,_,ns,rfl,rfl,ho,z24 ns _ hall,hlen⟩
theorem z87(l:OpenLaw)(args:List WData):l.row.toRowW.claim.post args (.bool true) args=true:=
 postW_of (r:=l.row.toRowW) (X:=(true==true))
  (show WShape.has [] (.bool true) .bool=true by first|rfl|decide|simp[WShape.has,WShape.arms,WShape.armsAll])
  (show(WTm.eq .res (.lit (.bool true))).value [] {args:=args,res:=some (.bool true),after:=args}=some (.bool (true==true)) from w_eq_bool (w_res rfl) w_lit) rfl
theorem attach_call{l:OpenLaw}{n:Nat}{q:Program}{loose:List Str}{XP:(Str->Option Value)->Heap->Prop}{YP:World->Heap->Prop}{d:DefRec}
 (hn:l.most=some n) (hdf:d.params.defaults=[])
 (call: ∀(w:World) (s₀ s₁:Shared) (mg mb:Str->Option Value) (fa:Addr) (o:Obj) (pm cd doc:Value) (a:Addr) (vs:List Value) (ns:List Int),
  Ground q loose [] XP w s₀ mg mb s₁.heap->YP w s₁.heap->
  s₁.heap.get? fa=some o->o.data= .func (docDef d.name d.params d.body d.scope pm cd doc)->s₁.heap.CodeRec cd d.name->mg d.name=some (.ref fa)->
  s₁.heap.get? a=some {cls:= .type "list",data:= .seq vs.toArray}->IntsAre vs ns->ns.length<=n->s₁.gens= #[]->
  codeAny (model l.prog w) callerA (.call (.ref fa) ⟨[.ref a],[]⟩) (λr s'=>r= .ok (.ret (.bool true))/\OldK s₁.heap s'.heap/\s'.os=s₁.os/\AllBare s'.gens) s₁):
 WalkO q loose XP YP l.row.toRowW d [] (λf vs=>PySem.call f vs):=by
 intro w s₀ s₁ mg mb G Y fa o pm cd doc dV kV ho hd hcd hD hmg hg args vals as hpre hlay hrd hwl hlo
 obtain rfl:dV= .none:=Dflts.none hD hdf
 obtain rfl:kV= .none:=Dflts.noKw hD
 obtain⟨a,vs,ns,rfl,rfl,hobj,hints,hlen⟩:=z86 hn hpre hwl
 refine enter_call (codeAny_mono (call w s₀ s₁ mg mb fa o pm cd doc a vs ns G Y ho (fd_plain hd) hcd hmg hobj hints hlen hg) λr s' hq=> ?_)
 obtain⟨rfl,h2,h3,h4⟩:=hq
 exact⟨.inl ⟨.bool true, .bool true,[],rfl,λ_=>rfl, .bool true,z87 l _,λ_=>⟨List.Pairwise.nil,λ_ hm=>(nomatch hm)⟩⟩,h2,h3,h4⟩
end Att
namespace L2
open PySem PySem.Spec PyProof.Rows
theorem z4g: ∀{vs:List Value} {ns:List Int},IntsAre vs ns->W0 (ns.map V.int) vs
 |_,_, .nil=> .nil
 |_,_, .cons n t h=> .cons ⟨t,rfl⟩ (z4g h)
def zhb(H:Hp):Prop:= ∀b,H b=none\/∃o xs,H b=some (.frz o (.lst xs))
theorem za2{P:Program}{w:World}{K:W.Frag}{mg mb:Str->Option Value}{CX:CXT}{k:Nat}{fa a:Addr}{fd:FuncData}{x:Str}{sp:Sp}{s₁:Shared}{vs:List Value}{ns:List Int}
 (KX:K.In s₁.heap) (hns:s₁.heap.Ns mainGlobals mg) (hb:s₁.heap.Ns builtinsNs mb) (hbb: ∀x:Str,x≠ "__name__" ->mb x=bootBuiltins x) (hlim:s₁.heap.NoLimit) (hg:s₁.gens= #[])
 (ha:s₁.heap.get? a=some {cls:= .type "list",data:= .seq vs.toArray}) (hi:IntsAre vs ns) (hl:ns.length<=sizeLine) (hr:U9 k callerA)
 (F: ∀base:Heap,K.In base->base.Ns mainGlobals mg->FnOk P w K mg base CX k fa fd [x] sp) (hbind: ∀(s:Shared) (u:Value),BindsTo s fd ⟨[u],[]⟩ [(x,u)])
 (hsp: ∀H:Hp,zhb H->SqL K H a (ns.map V.int)->sp [.ref a] H (λv _=>v= .bl true) λ_ _ _=>False)
 (hCX: ∀H e s',CX [] H s₁ (λ_ _ _=>False) e s'->False):
 codeAny (model P w) callerA (.call (.ref fa) ⟨[.ref a],[]⟩) (λr s'=>r= .ok (.ret (.bool true))/\OldK s₁.heap s'.heap/\s'.os=s₁.os/\AllBare s'.gens) s₁:=by
 have rv:=z4g hi
 have lenV:=hi.length
 have core: ∀H:Hp,zhb H->SqL K H a (ns.map V.int)->HOk P w H s₁.heap->(∀b,H b≠none->b=a)->(H a≠none->K.lookup a=none)->
  codeAny (model P w) callerA (.call (.ref fa) ⟨[.ref a],[]⟩) (λr s'=>r= .ok (.ret (.bool true))/\OldK s₁.heap s'.heap/\s'.os=s₁.os/\AllBare s'.gens) s₁:=by
  intro H hO hS hok hA hK
  have base_of: ∀{b:Addr} {o:Obj},s₁.heap.get? b=some o->H b=none->(z9C s₁.heap H).get? b=some o:=λe n=>z9D e n
  have noA: ∀{b:Addr} {o:Obj} {es:Array DictEntry} {ep:Nat},s₁.heap.get? b=some o->o.data= .dict es ep->H b=none:=λ{b o es ep} e d=>by
   cases q:H b with
   |none=>rfl
   |some u=>
    have e':b=a:=hA b (by rw[q];simp)
    subst e'
    rw[ha] at e;cases e
    have d':Data.seq vs.toArray _=Data.dict es ep:=d
    cases d'
  have nsK: ∀{b:Addr} {m:Str->Option Value},s₁.heap.Ns b m->(z9C s₁.heap H).Ns b m:=λ{b m} ⟨o,es,ep,e,d,r⟩=>⟨o,es,ep,base_of e (noA e d),d,r⟩
  have hKb:K.In (z9C s₁.heap H):=λb o e=>base_of (KX b o e) (by
   cases q:H b with
   |none=>rfl
   |some u=>
    have e':b=a:=hA b (by rw[q];simp)
    subst e'
    rw[hK (by rw[q];simp)] at e;cases e)
  have hM:Mod K mg (z9C s₁.heap H):=⟨hKb,nsK hns,⟨mb,nsK hb,hbb⟩,let⟨mc,h1,h2⟩:=hlim;⟨mc,nsK h1,h2⟩⟩
  have e0:z7v P w K mg (z9C s₁.heap H) callerA [] s₁ H:=⟨rfl,hM,λb o e=>zc5 e,N9 (z7G _ _),trivial,λb hb=>absurd (show b∈([]:List Addr) from hb) (by simp),hok, .of_eq hg⟩
  refine codeAny_mono ((F _ hKb (nsK hns)).run callerA [] s₁ H ⟨[.ref a],[]⟩ [.ref a] [.ref a] _ _ hr e0 (hbind s₁ (.ref a)) (.cons rfl .nil) (hsp H hO hS)) λr s' h=> ?_
  cases r with
  |error e=>exact(hCX H e s' h).elim
  |ok fl=>
   cases fl with
   |next=>exact False.elim h
   |brk=>exact False.elim h
   |cont=>exact False.elim h
   |ret u=>
    obtain⟨v,H',os,bare,un,hok',r',q⟩:=h
    have q':v= .bl true:=q
    subst q'
    obtain rfl:u=Value.bool true:=r'
    refine⟨rfl,OldK.of_keep λb o e=> ?_,os,bare⟩
    cases q:H b with
    |none=>exact un.keep b o e q (by intro z;exact absurd (show b∈([]:List Addr) from z) (by simp)) (by simp)
    |some u=>
     rcases hO b with z|⟨ob,xs,z⟩
     .rw[q] at z;cases z
     .have z2:=un.frzs b ob _ z
      obtain⟨e1,_⟩:=hok b _ z
      obtain⟨e2,_⟩:=hok' b _ z2
      rw[e] at e1;cases e1
      exact e2
 cases hk:K.lookup a with
 |some o=>
  have e:=KX a o hk
  rw[ha] at e
  cases e
  refine core (λ_=>none) (λ_=> .inl rfl) (.inr ⟨_,vs.toArray,_,hk,rfl,rfl,rfl,by rw[i3,lenV];exact hl,by simpa using rv⟩) (λb u z=>by have z':(none:Option HO)=some u:=z;cases z') (λb z=>absurd rfl z) λz=>absurd rfl z
 |none=>
  refine core (λb=>if b=a then some (.frz {cls:= .type "list",data:= .seq vs.toArray} (.lst (ns.map V.int))) else none) (λb=> ?_) (.inl (.inr ⟨{cls:= .type "list",data:= .seq vs.toArray},if_pos rfl⟩)) (λb u z=> ?_) (λb z=> ?_) λ_=>hk
  .by_cases hb:b=a
   .exact .inr ⟨_,_,if_pos hb⟩
   .exact .inl (if_neg hb)
  .by_cases hb:b=a
   .have z':=(if_pos hb).symm.trans z
    cases z'
    subst hb
    exact⟨ha,by rw[l0];exact hl,vs,_,rv,ha⟩
   .have z':=(if_neg hb).symm.trans z
    cases z'
  .by_cases hb:b=a
   .exact hb
   .exact absurd (if_neg hb) z
theorem zcz{l:W.OpenLaw}{n k:Nat}{q:Program}{loose:List Str}{XP:(Str->Option Value)->Heap->Prop}{YP:World->Heap->Prop}{d:DefRec}{K:Params->W.Frag}{CX:World->CXT}{sp:World->Sp}{x:Str}
 (hn:l.most=some n) (hn2:n<=sizeLine) (hdf:d.params.defaults=[]) (hr:U9 k callerA)
 (hY: ∀(w:World) (h:Heap),YP w h->(K w.params).In h)
 (F: ∀(w:World) (mg:Str->Option Value) (fa:Addr) (h:Heap),(K w.params).In h->h.Ns mainGlobals mg->mg d.name=some (.ref fa)->
  ∃fd:FuncData,(∀(s:Shared) (u:Value),BindsTo s fd ⟨[u],[]⟩ [(x,u)])/\
   ∀base:Heap,(K w.params).In base->base.Ns mainGlobals mg->FnOk l.prog w (K w.params) mg base (CX w) k fa fd [x] (sp w))
 (hsp: ∀(w:World) (H:Hp) (a:Addr) (ns:List Int),ns.length<=n->zhb H->SqL (K w.params) H a (ns.map V.int)->sp w [.ref a] H (λv _=>v= .bl true) λ_ _ _=>False)
 (hCX: ∀(w:World) (H:Hp) (s:Shared) (e:Value) (s':Shared),CX w [] H s (λ_ _ _=>False) e s'->False):
 W.WalkO q loose XP YP l.row.toRowW d [] (λf vs=>PySem.call f vs):=by
 refine Att.attach_call hn hdf λw s₀ s₁ mg mb fa o pm cd doc a vs ns G Y ho hd hcd hmg hobj hints hlen hg=> ?_
 have KX:=hY w _ Y
 obtain⟨fd,hb,hF⟩:=F w mg fa _ KX G.T.g hmg
 exact za2 KX G.T.g G.T.b G.T.builtins G.T.nolimit hg hobj hints (n9 hlen hn2) hr hF hb (λH hO hS=>hsp w H a ns hlen hO hS) λH e s'=>hCX w H s₁ e s'
def v5(s:Stmt):Arguments:=match s with
 | .FunctionDef _ a _ _ _ _ _ _ _ _=>a
 |_=>{posonlyargs:=[],args:=[],vararg:=none,kwonlyargs:=[],kw_defaults:=[],kwarg:=none,defaults:=[]}
def W3(s:Stmt):List Stmt:=match s with
 | .FunctionDef _ _ b _ _ _ _ _ _ _=>b
 |_=>[]
def y2(s:Stmt):Scope:=match s with
 | .FunctionDef _ _ _ _ _ _ sc _ _ _=>sc
 |_=>{kind:= .function,names:=[],isGenerator:=false,isCoroutine:=false}
abbrev CX0:CXT:=λ_ _ _ _ _ _=>False
abbrev E0:XK:=λ_ _ _=>False
theorem z4h{X:Cx}:Q6 CX0 X E0:=λ_ _ _ _ _ _ _ h=>h.elim
structure Fun(K:W.Frag)(x qual:Str)(st:Stmt)(f:Addr)(fd:FuncData):Prop where
 ex: ∃(oc:Value) (od:Option Addr) (kV doc pm:Value) (an:Option Addr) (cdv ct:Value) (osl:Array (Option Value)),
  fd=W.fnOf x qual (v5 st) (W3 st) (y2 st) .none kV doc pm an cdv ct/\K.lookup f=some ⟨oc,od, .func fd,osl⟩/\W.codeIn K cdv qual=true
 kp:W.keepIn K (.ref f)=true
section
variable{P:Program}{w:World}{K:W.Frag}{mg:Str->Option Value}{base:Heap}
theorem Fun.ok{x qual:Str}{st:Stmt}{f:Addr}{fd:FuncData}{N ps:List Str}{k:Nat}{sp:Sp}(F:Fun K x qual st f fd)(S:Z6 N ps (y2 st))(len: ∀vs H Q E,sp vs H Q E->vs.length=ps.length)
 (hbody: ∀(cdv:Value) (A:Around) (outer:List Env) (s:Shared) (H:Hp) (vs:List V) (Q:VK) (E:XK),U9 k (A.deeper (envOfC qual (y2 st) s.heap.objs.size f cdv))->sp vs H Q E->
  ∃t,PSs (cxOf CX0 P w K mg base N qual (y2 st) f cdv A outer s H E).nox (W3 st) t/\t {nx:=λ_ H'=>Q .non H',rt:=Q} (z1h N vs) H):FnOk P w K mg base CX0 (k+1) f fd ps sp:=by
 obtain⟨oc,od,kV,doc,pm,an,cdv,ct,osl,rfl,lk,hcd⟩:=F.ex
 refine zeM lk hcd S len λA outer s H vs Q E hr hsp=> ?_
 obtain⟨t,h,q⟩:=hbody cdv A outer s H vs Q E hr hsp
 exact⟨t,h.nox,q⟩
theorem Fun.binds{x qual:Str}{st:Stmt}{f:Addr}{fd:FuncData}{ps:List Str}(F:Fun K x qual st f fd)
 (h: ∀(kV doc pm:Value) (an:Option Addr) (cdv ct:Value) (us:List Value),us.length=ps.length->bindArgs (W.fnOf x qual (v5 st) (W3 st) (y2 st) .none kV doc pm an cdv ct) ⟨us,[]⟩=pure (ps.zip us)):J4 K fd ps []:=by
 obtain⟨oc,od,kV,doc,pm,an,cdv,ct,osl,rfl,lk,hcd⟩:=F.ex
 exact .all (h kV doc pm an cdv ct)
theorem zbj{x qual:Str}{st:Stmt}{f:Addr}{oc:Value}{od an:Option Addr}{osl:Array (Option Value)}{kV doc pm cdv ct:Value}(l:K.lookup f=some ⟨oc,od, .func (W.fnOf x qual (v5 st) (W3 st) (y2 st) .none kV doc pm an cdv ct),osl⟩)
 (c:W.codeIn K cdv qual=true) (k:W.keepIn K (.ref f)=true):Fun K x qual st f (W.fnOf x qual (v5 st) (W3 st) (y2 st) .none kV doc pm an cdv ct):=⟨⟨oc,od,kV,doc,pm,an,cdv,ct,osl,rfl,l,c⟩,k⟩
end
section
variable{X:Cx}
theorem pv(i:Nat){x:Str}{pos:Pos}(hN:X.N[i]? =some x:=by rfl)(hv:Vis X.env.scope x:=by first|exact Or.inl rfl|exact Or.inr (Or.inl rfl)|exact Or.inr (Or.inr rfl))(hd:(x==("__debug__" :Str))=false:=by decide)
 (hcd:(x==("__classdict__" :Str))=false:=by decide):PE X (.Name x pos) (z7I i):=zen hN hv hd hcd
end
def G5(H H':Hp):Prop:= ∀b o,H b=some o->H' b=some o
theorem G5.refl(H:Hp):G5 H H:=λ_ _ h=>h
theorem G5.trans{H H1 H2:Hp}(a:G5 H H1)(b:G5 H1 H2):G5 H H2:=λc o h=>b c o (a c o h)
theorem G5.seq{K:W.Frag}{H H':Hp}{a:Addr}{xs:List V}(e:G5 H H')(h:SqL K H a xs):SqL K H' a xs:=by
 rcases h with(h|⟨o,h⟩)|h
 .exact .inl (.inl (e _ _ h))
 .exact .inl (.inr ⟨o,e _ _ h⟩)
 .exact .inr h
end L2
set_option linter.unusedSimpArgs false
set_option linter.unusedVariables false
namespace So
open PySem PySem.W PyProof.Rows PySem.SeqAt
open AutoSeq1 (wpAny_loadPart')
def zbk(A:Around)(s:Shared)(y x:Value)(b:Bool):Prop:=
 ∀(prog:Program) (w:World) (E:Value->Shared->Prop) (Q:Value->Shared->Prop),Q (.bool b) s->wpAny (model prog w) A (richCompare .Lt y x) Q E s
def z5f(A:Around)(s:Shared):List Value->List Value->Bool->Prop
 |v::vs,u::us,r=> ∃e,EqAt A s v u e/\if e=true then z5f A s vs us r else zbk A s v u r
 |[],us,r=>r=decide (0<us.length)
 |_::_,[],r=>r=false
theorem zcA{A:Around}{s:Shared}: ∀{vs us:List Value} {r:Bool},vs.zip us=[]->z5f A s vs us r->r=decide (vs.length<us.length)
 |[],us,r,_,h=>h
 |v::vs,[],r,_,h=>by rw[show r=false from h];simp
theorem z6V(l b:Addr)(items items2:Array Value)(n n2:Nat)(dd dd2:Option Addr)(sl sl2:Array (Option Value))(r:Bool):
 Meets (Builtin.«tuple.__lt__» ⟨[.ref l, .ref b],[]⟩)
  (λA R s=>s.heap.get? l=some {cls:= .type "tuple",dict:=dd,data:= .seq items n,slots:=sl}/\s.heap.get? b=some {cls:= .type "tuple",dict:=dd2,data:= .seq items2 n2,slots:=sl2}/\
   z5f A.in1 s items.toList items2.toList r/\R (.ok (.ret (.bool r))) s):=
 .of_wp λprog w A R s h=>by
  obtain⟨hp,g,d,tk,os⟩:=s;obtain⟨hl,hb,he,h⟩:=h
  have f2:=AutoSeq1.sub_tuple_tuple
  wp_walk using wpAny_loadPart' hl,wpAny_loadPart' hb,wpAny_forIn_list _ (λrest b s'=>b.1=none/\s'=⟨hp,g,d,tk,os⟩/\∃vs us,rest=vs.zip us/\z5f A.in1 ⟨hp,g,d,tk,os⟩ vs us r/\(vs.length<us.length↔items.size<items2.size)) _
  case turn=>
   rintro ⟨y,x⟩ rest b s' ⟨hb',rfl,vs,us,hz,hR,hs⟩
   match vs,us,hz,hR with
   |v::vs,u::us,hz,hR=>
    rw[N6] at hz
    injection hz with h1 h2
    injection h1 with h3 h4
    subst h2 h3 h4
    obtain⟨e,q1,q2⟩:=hR
    refine wpAny_bind (q1 prog w _ _ ?_)
    cases e with
    |true=>
     wp_walk
     exact⟨rfl,rfl,vs,us,rfl,q2,by simpa using hs⟩
    |false=>
     erw[i8,if_false] at q2
     erw[P6,if_true]
     refine wpAny_bind (wpAny_rule (wpAny_bind (q2 prog w _ _ ?_)))
     exact wpAny_bind (wpAny_pure (wpAny_pure (wpAny_pure ⟨_,rfl,h⟩)))
   |[],_,hz,_=>simp at hz
   |_::_,[],hz,_=>simp at hz
  case fin=>
   rintro ⟨b1,b2⟩ s' ⟨hb',rfl,vs,us,hz,hR,hs⟩
   simp only at hb'
   subst hb'
   have:=zcA hz.symm hR
   wp_walk
   refine⟨_,rfl, ?_⟩
   have e:r=decide (items.size<items2.size):=by rw[this];exact decide_eq_decide.mpr hs
   rw[e] at h
   exact h
  case h=>
   exact⟨rfl,rfl,_,_,rfl,he,by simp⟩
theorem zbk.int{A:Around}{s:Shared}(a b:Int)(t u:Tok):zbk A s (.int a t) (.int b u) (decide (a<b)):=λprog w E Q h=>wpAny_lt_int h
theorem zbk.tuples{A:Around}{s:Shared}{l b:Addr}{items items2:Array Value}{r:Bool}(hl:s.heap.IsTuple l items)(hb:s.heap.IsTuple b items2)(hu:A.units<cLine)(he:z5f A.in1 s items.toList items2.toList r):zbk A s (.ref l) (.ref b) r:=λprog w E Q h=>by
 obtain⟨⟨cls,dd,data,sl⟩,ho,hc,n,hd⟩:=id hl
 obtain⟨⟨cls2,dd2,data2,sl2⟩,ho2,hc2,n2,hd2⟩:=id hb
 simp only at hc hd hc2 hd2
 subst hc hd hc2 hd2
 exact richCompare_meets_room (op:= .Lt) ⟨_,ho,rfl⟩ ⟨_,ho2,rfl⟩ F.slot_tuple_lt F.entry_tuple_lt (F.args_tuple_lt_2 _ _) (z6V l b items items2 n n2 dd dd2 sl sl2 r)
  ⟨ho,ho2,he,show Value.bool r≠Value.notImplemented/\Q (.bool r) s from⟨(λx=>nomatch x),h⟩⟩ hu
mutual
def ltD:PyData->PyData->Option Bool
 | .int a, .int b=>some (decide (a<b))
 | .tuple xs, .tuple ys=>ltL xs ys
 |_,_=>none
def ltL:List PyData->List PyData->Option Bool
 |x::xs,y::ys=>if PyData.eqv x y=true then ltL xs ys else ltD x y
 |[],ys=>some (decide (0<ys.length))
 |_::_,[]=>some false
end
end So
namespace So
open PySem PySem.W PyProof.Rows PySem.SeqAt
mutual
theorem za3: ∀(da db:PyData) (A:Around) (s:Shared) (a b:Value) (as bs:List Addr) (r:Bool),Reads s.heap a da as->Reads s.heap b db bs->da.canLay0=true->db.canLay0=true->A.units+min da.depth db.depth<cLine->ltD da db=some r->zbk A s a b r
 | .int x,_,A,s,_,_,_,_,r,ra,rb,_,_,_,h=>by
  cases ra with
  |int _ t=>
   cases rb with
   |int y u=>
    erw[ltD,Option.some.injEq] at h
    subst h
    exact zbk.int _ _ _ _
   |_=>simp[ltD] at h
 | .tuple xs,_,A,s,_,_,_,_,r,ra,rb,ha,hb,hu,h=>by
  cases ra with
  | @tuple l o vs n _ as₁ h1 h2 h3 h4=>
   cases rb with
   | @tuple l' o' vs' n' ys as' k1 k2 k3 k4=>
    have ha:PyData.canLayAll0 xs=true:=by simpa[PyData.canLay0] using ha
    have hb:PyData.canLayAll0 ys=true:=by simpa[PyData.canLay0] using hb
    erw[ltD] at h
    exact zbk.tuples ⟨_,h1,h2,_,h3⟩ ⟨_,k1,k2,_,k3⟩ (room_here hu) (lex_reads xs ys A.in1 s _ _ _ _ r h4 k4 ha hb (room_in hu) h)
   |_=>simp[ltD] at h
 | .none,_,A,s,_,_,_,_,r,ra,rb,ha,hb,hu,h=>by simp[ltD] at h
 | .bool _,_,A,s,_,_,_,_,r,ra,rb,ha,hb,hu,h=>by simp[ltD] at h
 | .str _,_,A,s,_,_,_,_,r,ra,rb,ha,hb,hu,h=>by simp[ltD] at h
 | .list _,_,A,s,_,_,_,_,r,ra,rb,ha,hb,hu,h=>by simp[ltD] at h
 | .dict _,_,A,s,_,_,_,_,r,ra,rb,ha,hb,hu,h=>by simp[ltD] at h
theorem lex_reads: ∀(xs ys:List PyData) (A:Around) (s:Shared) (vs ws:List Value) (as bs:List Addr) (r:Bool),ReadsAll s.heap vs xs as->ReadsAll s.heap ws ys bs->PyData.canLayAll0 xs=true->PyData.canLayAll0 ys=true->
 A.units+min (PyData.depthAll xs) (PyData.depthAll ys)<cLine->ltL xs ys=some r->z5f A s vs ws r
 |[],ys,A,s,vs,ws,_,_,r,ra,rb,_,_,_,h=>by
  cases ra
  erw[ltL,Option.some.injEq] at h
  subst h
  show _=decide (0<ws.length)
  have e: ∀{ws:List Value} {ys:List PyData} {bs:List Addr},ReadsAll s.heap ws ys bs->ws.length=ys.length:=λ{ws}=>by
   induction ws with
   |nil=>intro ys bs q;cases q;rfl
   |cons v vs ih=>intro ys bs q;cases q with|cons q1 q2=>rw[i0,i0,ih q2]
  rw[e rb]
 |_::_,[],A,s,vs,ws,_,_,r,ra,rb,_,_,_,h=>by
  cases rb
  cases ra
  erw[ltL,Option.some.injEq] at h
  exact h.symm
 |x::xs,y::ys,A,s,_,_,_,_,r,ra,rb,ha,hb,hu,h=>by
  have ha':x.canLay0=true/\PyData.canLayAll0 xs=true:=by simpa[PyData.canLayAll0] using ha
  have hb':y.canLay0=true/\PyData.canLayAll0 ys=true:=by simpa[PyData.canLayAll0] using hb
  cases ra with
  |cons r1 rs=>
  cases rb with
  |cons r1' rs'=>
   refine⟨PyData.eqv x y,eqAt_reads x y A s _ _ _ _ r1 r1' ha'.1 hb'.1 (room_head hu), ?_⟩
   rw[ltL] at h
   split
   .rename_i e
    rw[if_pos e] at h
    exact lex_reads xs ys A s _ _ _ _ r rs rs' ha'.2 hb'.2 (room_tail hu) h
   .rename_i e
    rw[if_neg e] at h
    exact za3 x y A s _ _ _ _ r r1 r1' ha'.1 hb'.1 (room_head hu) h
end
end So
namespace So
open PySem PySem.W PyProof.Rows
variable{cmp:Nat->Nat->Bool}{n:Nat}{α β:Type}
def ev(cmp:Nat->Nat->Bool):KasT α->α
 | .ret a=>a
 | .ask i j k=>ev cmp (k (cmp i j))
def KW(cmp:Nat->Nat->Bool)(n:Nat):KasT α->(α->Prop)->Prop
 | .ret a,P=>P a
 | .ask i j k,P=>i<n/\j<n/\KW cmp n (k (cmp i j)) P
theorem KW.ev{P:α->Prop}: ∀{t:KasT α},KW cmp n t P->P (So.ev cmp t)
 | .ret _,h=>h
 | .ask i j k,h=>KW.ev (t:=k (cmp i j)) h.2.2
theorem KW.bind{f:α->KasT β}{P:β->Prop}: ∀{t:KasT α},KW cmp n t (λa=>KW cmp n (f a) P)->KW cmp n (t.bind f) P
 | .ret _,h=>h
 | .ask i j k,h=>⟨h.1,h.2.1,KW.bind (t:=k (cmp i j)) h.2.2⟩
theorem KW.mono{P P':α->Prop}(hp: ∀a,P a->P' a): ∀{t:KasT α},KW cmp n t P->KW cmp n t P'
 | .ret _,h=>hp _ h
 | .ask i j k,h=>⟨h.1,h.2.1,KW.mono hp (t:=k (cmp i j)) h.2.2⟩
def Pm(n:Nat)(p:Array Nat):Prop:=p.Perm (C1 n).toArray
theorem Pm.size{p:Array Nat}(h:Pm n p):p.size=n:=by have:=h.size_eq;simpa using this
theorem Pm.lt{p:Array Nat}(h:Pm n p){i:Nat}(hi:i<n):p.getD i 0<n:=by
 have hs:=h.size
 have hi':i<p.size:=by lia
 have e:p.getD i 0=p[i]:=by simp[Array.getD,hi']
 rw[e]
 have:=(h.mem_iff (a:=p[i])).mp (Array.getElem_mem hi')
 simpa using this
theorem Pm.rev{p:Array Nat}(h:Pm n p)(i j:Nat):Pm n (kas_rev p i j):=(mirror_perm _ _ _ _).trans h
theorem Pm.bub{p:Array Nat}(h:Pm n p)(i j:Nat):Pm n (bubble p i j):=(bubble_perm _ _ _).trans h
theorem gd{p:Array Nat}{i:Nat}:p.getD i 0=(p[i]?).getD 0:=by simp[Array.getD_eq_getD_getElem?]
theorem z4i{p:Array Nat}{i j k:Nat}(hj:j<=p.size):(kas_rev p i j).getD k 0=if i<=k/\k<j then p.getD (i+j - 1 -k) 0 else p.getD k 0:=by
 rw[gd,kas_rev,getElem?_mirror_all hj]
 split<;>exact gd.symm
theorem zhK{p:Array Nat}{s d k:Nat}(hs:s<p.size)(hd:d<=s):(bubble p s d).getD k 0=if k=s -d then p.getD s 0 else if s -d<k/\k<=s then p.getD (k - 1) 0 else p.getD k 0:=by
 rw[gd,getElem?_bubble hs d hd]
 by_cases h1:k=s -d
 .rw[if_pos h1,if_pos h1,gd]
 .rw[if_neg h1,if_neg h1]
  split<;>exact gd.symm
structure Od(cmp:Nat->Nat->Bool)(n:Nat):Prop where
 a: ∀i j,i<n->j<n->cmp i j=true->cmp j i=false
 t: ∀i j k,i<n->j<n->k<n->cmp i j=false->cmp j k=false->cmp i k=false
theorem Od.r(h:Od cmp n){i:Nat}(hi:i<n):cmp i i=false:=by
 cases e:cmp i i with
 |false=>rfl
 |true=>rw[<-e];exact h.a i i hi hi e
def Srt(cmp:Nat->Nat->Bool)(p:Array Nat)(m:Nat):Prop:= ∀i j,i<=j->j<m->cmp (p.getD j 0) (p.getD i 0)=false
def Dsc(cmp:Nat->Nat->Bool)(p:Array Nat)(m:Nat):Prop:= ∀i j,i<=j->j<m->cmp (p.getD i 0) (p.getD j 0)=false
def Eqt(cmp:Nat->Nat->Bool)(p:Array Nat)(m q:Nat):Prop:= ∀i,m -(q+1)<=i->i<m->cmp (p.getD i 0) (p.getD (m - 1) 0)=false/\cmp (p.getD (m - 1) 0) (p.getD i 0)=false
theorem Srt.up{p:Array Nat}{m:Nat}(o:Od cmp n)(hp:Pm n p)(h:Srt cmp p m)(h1:1<=m)(hm:m<n)(e:cmp (p.getD m 0) (p.getD (m - 1) 0)=false):Srt cmp p (m+1):=by
 intro i j hij hj
 by_cases hjm:j<m
 .exact h i j hij hjm
 .obtain rfl:j=m:=by lia
  by_cases hi:i=j
  .subst hi;exact o.r (hp.lt hm)
  .exact o.t _ _ _ (hp.lt hm) (hp.lt (show j - 1<n by lia)) (hp.lt (show i<n by lia)) e (h i (j - 1) (by lia) (by lia))
theorem zcB{p:Array Nat}(hp:Pm n p): ∀(f m:Nat),1<=m->m+f<=n->KW cmp n (kas_asc p f m) λr=>m<=r/\r<=m+f/\(Od cmp n->Srt cmp p m->Srt cmp p r)/\(r<m+f->cmp (p.getD r 0) (p.getD (r - 1) 0)=true)
 |0,m,_,_=>⟨c6 _,c6 _,λ_ h=>h,λh=>absurd h (by lia)⟩
 |f+1,m,h1,h2=>by
  refine⟨hp.lt (by lia),hp.lt (by lia), ?_⟩
  cases e:cmp (p.getD m 0) (p.getD (m - 1) 0) with
  |true=>exact⟨c6 _,by lia,λ_ h=>h,λ_=>e⟩
  |false=>
   refine KW.mono (λr hr=> ?_) (zcB hp f (m+1) (by lia) (by lia))
   obtain⟨a,b,c,d⟩:=hr
   exact⟨by lia,by lia,λo h=>c o (h.up o hp h1 (by lia) e),λh=>d (by lia)⟩
theorem Dsc.eqrev{p:Array Nat}{m q:Nat}(o:Od cmp n)(hp:Pm n p)(h:Dsc cmp p m)(he:Eqt cmp p m q)(hq:q+1<=m)(hm:m<=n):Dsc cmp (kas_rev p (m -(q+1)) m) m/\∀i,i<m->cmp ((kas_rev p (m -(q+1)) m).getD i 0) (p.getD (m - 1) 0)=false:=by
 have hz:m<=p.size:=by rw[hp.size];exact hm
 have le: ∀i,i<m->p.getD i 0<n:=λi hi=>hp.lt (by lia)
 refine⟨λi j hij hj=> ?_,λi hi=> ?_⟩
 .rw[z4i hz,z4i hz]
  by_cases hi:m -(q+1)<=i/\i<m
  .rw[if_pos hi,if_pos (by lia)]
   exact o.t _ _ _ (le _ (by lia)) (le (m - 1) (by lia)) (le _ (by lia)) (he _ (by lia) (by lia)).1 (he _ (by lia) (by lia)).2
  .rw[if_neg hi]
   split
   .exact h _ _ (by lia) (by lia)
   .exact h _ _ hij hj
 .rw[z4i hz]
  split
  .exact(he _ (by lia) (by lia)).1
  .exact h _ _ (by lia) (by lia)
theorem z63: ∀(f:Nat) (p:Array Nat) (m q:Nat),Pm n p->q+1<=m->m+f<=n->(Od cmp n->Dsc cmp p m/\Eqt cmp p m q)->
 KW cmp n (kas_desc f p m q) λr=>Pm n r.1/\m<=r.2.1/\r.2.1<=m+f/\r.2.2+1<=r.2.1/\(Od cmp n->Dsc cmp r.1 r.2.1/\Eqt cmp r.1 r.2.1 r.2.2)
 |0,p,m,q,hp,hq,hm,h=>⟨hp,c6 _,c6 _,hq,h⟩
 |f+1,p,m,q,hp,hq,hm,h=>by
  have hz:m<=p.size:=by rw[hp.size];lia
  refine⟨hp.lt (by lia),hp.lt (by lia), ?_⟩
  have e1: ∀(p':Array Nat),Od cmp n->(Eqt cmp p' (m+1) 0↔cmp (p'.getD m 0) (p'.getD m 0)=false):=λp' o=>by
   constructor
   .intro z;exact(z m (by lia) (by lia)).1
   .intro z i hi hi'
    obtain rfl:i=m:=by lia
    exact⟨z,z⟩
  cases e:cmp (p.getD m 0) (p.getD (m - 1) 0) with
  |true=>
   erw[if_true]
   by_cases h0:q>0
   .erw[if_pos h0]
    refine KW.mono (λr hr=>⟨hr.1,by lia,by lia,hr.2.2.2⟩) (z63 f (kas_rev p (m -(q+1)) m) (m+1) 0 (hp.rev _ _) (by lia) (by lia) λo=> ?_)
    obtain⟨d,t⟩:=h o
    obtain⟨d',u⟩:=d.eqrev o hp t hq (by lia)
    have gm:(kas_rev p (m -(q+1)) m).getD m 0=p.getD m 0:=by rw[z4i hz,if_neg (by lia)]
    have lt: ∀i,i<n->(kas_rev p (m -(q+1)) m).getD i 0<n:=λi hi=>(hp.rev _ _).lt hi
    refine⟨λi j hij hj=> ?_,(e1 _ o).mpr (o.r (lt m (by lia)))⟩
    by_cases hjm:j<m
    .exact d' i j hij hjm
    .obtain rfl:j=m:=by lia
     by_cases hi:i=j
     .subst hi;exact o.r (lt _ (by lia))
     .rw[gm]
      exact o.t _ _ _ (lt _ (by lia)) (hp.lt (show j - 1<n by lia)) (hp.lt (by lia)) (u i (by lia)) (o.a _ _ (hp.lt (by lia)) (hp.lt (by lia)) e)
   .erw[if_neg h0]
    refine KW.mono (λr hr=>⟨hr.1,by lia,by lia,hr.2.2.2⟩) (z63 f p (m+1) 0 hp (by lia) (by lia) λo=> ?_)
    obtain⟨d,t⟩:=h o
    refine⟨λi j hij hj=> ?_,(e1 _ o).mpr (o.r (hp.lt (by lia)))⟩
    by_cases hjm:j<m
    .exact d i j hij hjm
    .obtain rfl:j=m:=by lia
     by_cases hi:i=j
     .subst hi;exact o.r (hp.lt (by lia))
     .exact o.t _ _ _ (hp.lt (by lia)) (hp.lt (show j - 1<n by lia)) (hp.lt (by lia)) (d i (j - 1) (by lia) (by lia)) (o.a _ _ (hp.lt (by lia)) (hp.lt (by lia)) e)
  |false=>
   erw[i8,if_false]
   refine⟨hp.lt (by lia),hp.lt (by lia), ?_⟩
   cases e':cmp (p.getD (m - 1) 0) (p.getD m 0) with
   |true=>exact⟨hp,c6 _,Nat.le_add_right _ _,hq,h⟩
   |false=>
    erw[i8,if_false]
    refine KW.mono (λr hr=>⟨hr.1,by lia,by lia,hr.2.2.2⟩) (z63 f p (m+1) (q+1) hp (by lia) (by lia) λo=> ?_)
    obtain⟨d,t⟩:=h o
    refine⟨λi j hij hj=> ?_,λi hi hi'=> ?_⟩
    .by_cases hjm:j<m
     .exact d i j hij hjm
     .obtain rfl:j=m:=by lia
      by_cases hi:i=j
      .subst hi;exact o.r (hp.lt (by lia))
      .exact o.t _ _ _ (hp.lt (by lia)) (hp.lt (show j - 1<n by lia)) (hp.lt (by lia)) (d i (j - 1) (by lia) (by lia)) e'
    .rw[Nat.add_sub_cancel]
     by_cases him:i=m
     .subst him;exact⟨o.r (hp.lt (by lia)),o.r (hp.lt (by lia))⟩
     .obtain⟨t1,t2⟩:=t i (by lia) (by lia)
      exact⟨o.t _ _ _ (hp.lt (by lia)) (hp.lt (show m - 1<n by lia)) (hp.lt (by lia)) t1 e',o.t _ _ _ (hp.lt (by lia)) (hp.lt (show m - 1<n by lia)) (hp.lt (by lia)) e t2⟩
def Cnt(cmp:Nat->Nat->Bool)(n:Nat)(r:Nat×Array Nat):Prop:=Pm n r.2/\1<=r.1/\r.1<=n/\(Od cmp n->Srt cmp r.2 r.1)
theorem zbl{p:Array Nat}{m:Nat}(hp:Pm n p)(h1:1<=m)(hm:m<=n)(h:Od cmp n->Dsc cmp p m):KW cmp n (kas_tail3 m n p) (Cnt cmp n):=by
 have hz:m<=p.size:=by rw[hp.size];exact hm
 refine KW.bind (KW.mono (λr hr=> ?_) (zcB (hp.rev 0 m) (n -m) m h1 (by lia)))
 obtain⟨a,b,c,_⟩:=hr
 refine⟨hp.rev _ _,by show 1<=r;lia,by show r<=n;lia,λo=>c o λi j hij hj=> ?_⟩
 rw[z4i hz,z4i hz,if_pos (by lia),if_pos (by lia)]
 exact h o _ _ (by lia) (by lia)
theorem z88{p:Array Nat}{m:Nat}(hp:Pm n p)(h1:1<=m)(hm:m+1<=n)(h:Od cmp n->Dsc cmp p (m+1)):KW cmp n (kas_descPart m n p) (Cnt cmp n):=by
 refine KW.bind (KW.mono (λr hr=> ?_) (z63 (n -(m+1)) p (m+1) 0 hp (by lia) (by lia) λo=>⟨h o,λi hi hi'=> ?_⟩))
 .obtain⟨a,b,c,d,e⟩:=hr
  split
  .exact zbl (a.rev _ _) (by lia) (by lia) λo=>((e o).1.eqrev o a (e o).2 d (by lia)).1
  .exact zbl a (by lia) (by lia) λo=>(e o).1
 .obtain rfl:i=m:=by lia
  exact⟨h o i i (c6 _) (by lia),h o i i (c6 _) (by lia)⟩
theorem zcC{p:Array Nat}(hp:Pm n p)(h1:1<=n):KW cmp n (kas_count n p) (Cnt cmp n):=by
 refine KW.bind (KW.mono (λr hr=> ?_) (zcB hp (n - 1) 1 (c6 _) (by lia)))
 obtain⟨a,b,c,d⟩:=hr
 have s1:Od cmp n->Srt cmp p r:=λo=>c o λi j hij hj=>by
  obtain rfl:j=0:=by lia
  obtain rfl:i=0:=by lia
  exact o.r (hp.lt (by lia))
 have hz:r<=p.size:=by rw[hp.size];lia
 by_cases hn:r=n
 .rw[if_pos (by simpa using hn)]
  exact⟨hp,a,by lia,s1⟩
 .rw[if_neg (by simpa using hn)]
  have hd:cmp (p.getD r 0) (p.getD (r - 1) 0)=true:=d (by lia)
  by_cases h2:r>1
  .rw[if_pos h2]
   refine⟨hp.lt (by lia),hp.lt (by lia), ?_⟩
   cases e:cmp (p.getD 0 0) (p.getD (r - 1) 0) with
   |true=>exact⟨hp,a,by lia,s1⟩
   |false=>
    refine z88 (hp.rev _ _) a (by lia) λo i j hij hj=> ?_
    have s:=s1 o
    have all: ∀i j,i<r->j<r->cmp (p.getD i 0) (p.getD j 0)=false:=λi j hi hj=>by
     have q1:cmp (p.getD i 0) (p.getD 0 0)=false:=s 0 i (A6 _) hi
     have q2:cmp (p.getD (r - 1) 0) (p.getD j 0)=false:=s j (r - 1) (by lia) (by lia)
     exact o.t _ _ _ (hp.lt (by lia)) (hp.lt (show 0<n by lia)) (hp.lt (by lia)) q1 (o.t _ _ _ (hp.lt (by lia)) (hp.lt (show r - 1<n by lia)) (hp.lt (by lia)) e q2)
    have al: ∀i,i<r->(kas_rev p 0 r).getD i 0=p.getD (r - 1 -i) 0:=λi hi=>by rw[z4i hz,if_pos (by lia)];congr 1;lia
    by_cases hjr:j<r
    .rw[al i (by lia),al j hjr];exact all _ _ (by lia) (by lia)
    .obtain rfl:j=r:=by lia
     have er:(kas_rev p 0 j).getD j 0=p.getD j 0:=by rw[z4i hz,if_neg (by lia)]
     by_cases hi:i=j
     .subst hi;exact o.r ((hp.rev _ _).lt (by lia))
     .rw[al i (by lia),er]
      exact o.t _ _ _ (hp.lt (by lia)) (hp.lt (show j - 1<n by lia)) (hp.lt (by lia)) (all _ _ (by lia) (by lia)) (o.a _ _ (hp.lt (by lia)) (hp.lt (by lia)) hd)
  .rw[if_neg h2]
   refine z88 hp a (by lia) λo i j hij hj=> ?_
   obtain rfl:r=1:=by lia
   by_cases hi:i=j
   .subst hi;exact o.r (hp.lt (by lia))
   .obtain rfl:i=0:=by lia
    obtain rfl:j=1:=by lia
    exact o.a _ _ (hp.lt (by lia)) (hp.lt (by lia)) hd
theorem z5g{p:Array Nat}{k:Nat}(hp:Pm n p)(hk:k<n): ∀(f l r:Nat),r -l<=f->l<=r->r<=k->KW cmp n (kas_place p k f l r) λx=>l<=x/\x<=r/\(Od cmp n->Srt cmp p k->
 (∀i,i<l->cmp (p.getD k 0) (p.getD i 0)=false)->(∀i,r<=i->i<k->cmp (p.getD i 0) (p.getD k 0)=false)->(∀i,i<x->cmp (p.getD k 0) (p.getD i 0)=false)/\∀i,x<=i->i<k->cmp (p.getD i 0) (p.getD k 0)=false)
 |0,l,r,hf,hlr,hrk=>⟨c6 _,hlr,λ_ _ h1 h2=>⟨h1,λi hi hi'=>h2 i (by lia) hi'⟩⟩
 |f+1,l,r,hf,hlr,hrk=>by
  unfold kas_place
  by_cases h:l≥r
  .rw[if_pos h]
   exact⟨c6 _,hlr,λ_ _ h1 h2=>⟨h1,λi hi hi'=>h2 i (by lia) hi'⟩⟩
  .rw[if_neg h]
   refine⟨hp.lt hk,hp.lt (by lia), ?_⟩
   cases e:cmp (p.getD k 0) (p.getD ((l+r)/2) 0) with
   |true=>
    erw[if_true]
    refine KW.mono (λx hx=> ?_) (z5g hp hk f l ((l+r)/2) (by lia) (by lia) (by lia))
    obtain⟨a,b,c⟩:=hx
    refine⟨a,by lia,λo s h1 h2=>c o s h1 λi hi hi'=> ?_⟩
    exact o.t _ _ _ (hp.lt (by lia)) (hp.lt (show(l+r)/2<n by lia)) (hp.lt hk) (s _ _ hi hi') (o.a _ _ (hp.lt hk) (hp.lt (by lia)) e)
   |false=>
    erw[i8,if_false]
    refine KW.mono (λx hx=> ?_) (z5g hp hk f ((l+r)/2+1) r (by lia) (by lia) hrk)
    obtain⟨a,b,c⟩:=hx
    refine⟨by lia,b,λo s h1 h2=>c o s (λi hi=> ?_) h2⟩
    exact o.t _ _ _ (hp.lt hk) (hp.lt (show(l+r)/2<n by lia)) (hp.lt (by lia)) e (s _ _ (by lia) (by lia))
theorem zeY: ∀(f:Nat) (p:Array Nat) (k:Nat),Pm n p->k+f<=n->(Od cmp n->Srt cmp p k)->KW cmp n (kas_bin f p k) λq=>Pm n q/\(Od cmp n->Srt cmp q (k+f))
 |0,p,k,hp,_,h=>⟨hp,h⟩
 |f+1,p,k,hp,hk,h=>by
  have hz:k<p.size:=by rw[hp.size];lia
  refine KW.bind (KW.mono (λx hx=> ?_) (z5g hp (by lia) k 0 k (by lia) (A6 _) (c6 _)))
  obtain⟨_,b,c⟩:=hx
  refine KW.mono (λq hq=>⟨hq.1,λo=>by have:=hq.2 o;rw[show k+(f+1)=k+1+f by lia];exact this⟩) (zeY f (bubble p k (k -x)) (k+1) (hp.bub _ _) (by lia) λo=> ?_)
  have s:=h o
  obtain⟨c1,c2⟩:=c o s (λi hi=>absurd hi (by lia)) λi hi hi'=>absurd hi' (by lia)
  have g: ∀i,(bubble p k (k -x)).getD i 0=if i=x then p.getD k 0 else if x<i/\i<=k then p.getD (i - 1) 0 else p.getD i 0:=λi=>by
   rw[zhK hz (by lia),show k -(k -x)=x by lia]
  intro i j hij hj
  by_cases hi:i=j
  .subst hi;exact o.r ((hp.bub _ _).lt (by lia))
  .rw[g,g]
   by_cases hjx:j=x
   .rw[if_pos hjx,if_neg (by lia),if_neg (by lia)]
    exact c1 i (by lia)
   .rw[if_neg hjx]
    by_cases hjk:x<j/\j<=k
    .rw[if_pos hjk]
     by_cases hix:i=x
     .rw[if_pos hix];exact c2 _ (by lia) (by lia)
     .rw[if_neg hix]
      split
      .exact s _ _ (by lia) (by lia)
      .exact s _ _ (by lia) (by lia)
    .rw[if_neg hjk]
     rw[if_neg (by lia),if_neg (by lia)]
     exact s _ _ hij (by lia)
theorem zbm(h:1<=n):KW cmp n (kas_sort n) λq=>Pm n q/\(Od cmp n->Srt cmp q n):=by
 refine KW.bind (KW.mono (λr hr=> ?_) (zcC (Array.Perm.refl _) h))
 obtain⟨a,b,c,d⟩:=hr
 by_cases hl:r.1<n
 .rw[if_pos hl]
  have e:max r.1 1=r.1:=by lia
  rw[e]
  refine KW.mono (λq hq=>⟨hq.1,λo=>by have:=hq.2 o;rw[show r.1+(n -r.1)=n by lia] at this;exact this⟩) (zeY (n -r.1) r.2 r.1 a (by lia) d)
 .rw[if_neg hl]
  obtain e:r.1=n:=by lia
  rw[e] at d
  exact⟨a,d⟩
end So
namespace So
open PySem PySem.W PyProof.Rows PySem.SeqAt
def permS(n:Nat)(cmp:Nat->Nat->Bool):List Nat:=if n<2 then C1 n else(ev cmp (kas_sort n)).toList
theorem z64{n:Nat}{cmp:Nat->Nat->Bool}:(permS n cmp).Perm (C1 n):=by
 unfold permS
 by_cases h2:n<2
 .rw[if_pos h2]
 .rw[if_neg h2]
  have:=(zbm (cmp:=cmp) (n:=n) (by lia)).ev.1.toList
  simpa using this
theorem permS_len{n:Nat}{cmp:Nat->Nat->Bool}:(permS n cmp).length=n:=by rw[z64.length_eq];simp
theorem permS_lt{n:Nat}{cmp:Nat->Nat->Bool}: ∀i∈permS n cmp,i<n:=λi hi=>by have:=z64.mem_iff.mp hi;simpa using this
theorem zjD{α:Type}{prog:Program}{w:World}{A:Around}{κ:SortKind}{it:Array Keyed}{cmp:Nat->Nat->Bool}{n:Nat}{G:Shared->Prop}{P:α->Prop}(hc: ∀i j C s,i<n->j<n->G s->(∀s',G s'->C (cmp i j) s')->kas_cmp prog w A κ it i j C s): ∀{t:KasT α} {s:Shared},KW cmp n t P->G s->t.kasWp (kas_cmp prog w A κ it) (λa s'=>a=ev cmp t/\G s') s
 | .ret _,_,_,hs=>⟨rfl,hs⟩
 | .ask i j k,s,hw,hs=>hc i j _ s hw.1 hw.2.1 hs λs' h'=>zjD hc (t:=k (cmp i j)) hw.2.2 h'
theorem za4{vs:List Value}:(vs.toArray.zip vs.toArray).map (·.2)=vs.toArray:=by
 apply Array.ext_getElem?
 intro i
 by_cases hi:i<vs.length<;>simp[hi]
theorem z5h{vs:List Value}:(C1 vs.length).map (λi=>vs.getD i Value.none)=vs:=by
 apply List.ext_getElem?
 intro i
 by_cases hi:i<vs.length<;>simp[hi]
section
variable{prog:Program}{w:World}{A:Around}{E:Value->Shared->Prop}{s:Shared}
theorem z5i{a:Addr}{vs:List Value}{n:Nat}{cmp:Nat->Nat->Bool}{P:PySem.Fin->Shared->Prop}(ho:s.heap.get? a=some (seqObj "list" vs.toArray n))(h64:vs.length<64)
 (hk: ∀h',(∀b o,b≠a->s.heap.get? b=some o->h'.get? b=some o)->2<=vs.length->∃κ,(∀(Q:SortKind->Shared->Prop) E,Q κ {s with heap:=h'}->wpAny (model prog w) A (keyKind' vs.toArray) Q E {s with heap:=h'})/\
  ∀i j (hi:i<vs.length) (hj:j<vs.length) (C:Bool->Shared->Prop),C (cmp i j) {s with heap:=h'}->wpAny (model prog w) A (keyLt' κ vs[i] vs[j]) C (λ_ _=>False) {s with heap:=h'})
 (h: ∀h' e1,(∀b o,b≠a->s.heap.get? b=some o->h'.get? b=some o)->h'.get? a=some (seqObj "list" ((permS vs.length cmp).map λi=>vs.getD i Value.none).toArray e1)->P (.done (.ret .none)) {s with heap:=h'}):
 wpAny (model prog w) A (Builtin.«list.sort» ⟨[.ref a],[]⟩) P E s:=by
 have hz:vs.length<=sizeLine:=by have:sizeLine=16777216:=rfl;lia
 obtain⟨e1,ho1⟩: ∃e1,(s.heap.update a (Obj.mapSeq λ_=>(#[]:Array Value))).get? a=some (seqObj "list" #[] e1):=⟨_,get?_update_seq ho λ_=> #[]⟩
 have ho3:(((s.heap.update a (Obj.mapSeq λ_=>(#[]:Array Value))).push (seqObj "tuple" vs.toArray 0)).push (seqObj "list" #[] 0)).get? a=some (seqObj "list" #[] e1):=Heap.get?_push_of_some _ (Heap.get?_push_of_some _ ho1)
 have kept: ∀b o,b≠a->s.heap.get? b=some o->(((s.heap.update a (Obj.mapSeq λ_=>(#[]:Array Value))).push (seqObj "tuple" vs.toArray 0)).push (seqObj "list" #[] 0)).get? b=some o:=λb o hb q=>
  Heap.get?_push_of_some _ (Heap.get?_push_of_some _ ((Heap.get?_update_ne _ _ _ _ hb).trans q))
 rw[list_sort_plain]
 refine wpAny_bind (listItems_at ho rfl ?_)
 refine wpAny_bind (listUpdate_at ho rfl ?_ (by rw[i3];exact hz) (A6 _))
 refine wpAny_bind (seqEpoch_at ho1 rfl ?_)
 refine wpAny_bind (wpAny_newTuple ?_ (by show vs.length<=_;exact hz))
 refine wpAny_bind (wpAny_newList ?_ (A6 _))
 refine wpAny_holding ?_
 show wpAny (model prog w) A _ P E {s with heap:=((s.heap.update a (Obj.mapSeq λ_=>(#[]:Array Value))).push (seqObj "tuple" vs.toArray 0)).push (seqObj "list" #[] 0)}
 dsimp only
 generalize ((s.heap.update a (Obj.mapSeq λ_=>(#[]:Array Value))).push (seqObj "tuple" vs.toArray 0)).push (seqObj "list" #[] 0)=h1 at ho3 kept⊢
 have fin: ∀st':SortSt,(arrOf st').map (·.2)=((permS vs.length cmp).map λi=>vs.getD i Value.none).toArray->failedOf st'=none->wpAny (model prog w) A (do
  let touched<-seqEpoch a
  Builtin.List.listUpdate (.ref a) λ_=>(arrOf st').map (·.2)
  if let some e:=failedOf st' then rule "list.sort.comparison-raised";throw e
  if(touched !=e1)=true then rule "list.sort.modified";raiseError "ValueError" "list modified during sort"
  ret .none) P E {s with heap:=h1}:=by
  intro st' har hf
  refine wpAny_bind (seqEpoch_at ho3 rfl ?_)
  rw[har]
  have hsz:((permS vs.length cmp).map λi=>vs.getD i Value.none).toArray.size=vs.length:=by rw[i3,l0,permS_len]
  refine wpAny_bind (listUpdate_at ho3 rfl ?_ (A6 _) (n9 (N9 hsz) (by lia)))
  rw[hf]
  erw[bne_self_eq_false,i8,if_false]
  obtain⟨c2,hc2⟩: ∃c2,(h1.update a (Obj.mapSeq λ_=>((permS vs.length cmp).map λi=>vs.getD i Value.none).toArray)).get? a=some (seqObj "list" ((permS vs.length cmp).map λi=>vs.getD i Value.none).toArray c2):=⟨_,get?_update_seq ho3 λ_=>_⟩
  exact wpAny_pure (h _ c2 (λb o hb q=>(Heap.get?_update_ne _ _ _ _ hb).trans (kept b o hb q)) hc2)
 by_cases h2:vs.length<2
 .have h2':vs.toArray.size<2:=by simpa using h2
  rw[if_pos h2',if_pos h2']
  refine wpAny_bind (wpAny_pure ?_)
  rw[StateT.run_pure]
  refine wpAny_bind (wpAny_pure ?_)
  refine fin _ ?_ rfl
  show(vs.toArray.zip vs.toArray).map (·.2)=_
  unfold permS
  rw[if_pos h2,za4,z5h]
 .have h2': ¬vs.toArray.size<2:=by simpa using h2
  rw[if_neg h2',if_neg h2']
  obtain⟨κ,k1,k2⟩:=hk h1 kept (by lia)
  refine wpAny_bind (k1 _ _ ?_)
  have sz:(vs.toArray.zip vs.toArray).size=vs.length:=by simp
  have rr:((C1 vs.length).toArray.map (kas_item (vs.toArray.zip vs.toArray)))=vs.toArray.zip vs.toArray:=by
   have:=kas_range (vs.toArray.zip vs.toArray)
   rw[sz] at this
   exact this
  have est:SortSt.mk' κ (vs.toArray.zip vs.toArray) #[] 7 none=kas_st κ (vs.toArray.zip vs.toArray) (C1 vs.length).toArray:=by
   unfold kas_st
   rw[rr]
  have hpe:permS vs.length cmp=(ev cmp (kas_sort vs.length)).toList:=by unfold permS;rw[if_neg h2]
  have hw:=zbm (cmp:=cmp) (n:=vs.length) (by lia)
  rw[est]
  have go:=kas_runs (prog:=prog) (w:=w) (A:=A) (E:=E) (κ:=κ) (it:=vs.toArray.zip vs.toArray) (n:=vs.length) (Q:=λ_ st' s'=>arrOf st'=(ev cmp (kas_sort vs.length)).map (kas_item (vs.toArray.zip vs.toArray))/\failedOf st'=none/\s'={s with heap:=h1}) (G:=λp' s'=>p'=ev cmp (kas_sort vs.length)/\s'={s with heap:=h1}) (s:={s with heap:=h1}) (by lia) h64 (λp' st' s' z1 z2 z3 z4=>⟨by rw[z2,z4.1],z3,z4.2⟩) (zjD (G:=λs'=>s'={s with heap:=h1}) (λi j C s' hi hj hs hC=>by
   subst hs
   have hq:=k2 i j hi hj C (hC _ rfl)
   unfold kas_cmp
   rw[kat_item rfl,kat_item rfl]
   rw[show vs.getD i Value.none=vs[i] by simp[hi],show vs.getD j Value.none=vs[j] by simp[hj]]
   exact hq) hw rfl)
  refine wpAny_bind (wpAny_mono go ?_ λ_ _ e=>e)
  rintro ⟨⟨⟩,st'⟩ s' ⟨hst,hfa,hs⟩
  dsimp only at hst hfa⊢
  subst hs
  refine fin _ ?_ hfa
  rw[hpe,hst]
  apply Array.toList_inj.mp
  rw[Array.map_map,Array.toList_map]
  exact F4 λi hi=>by erw[Function.comp];rw[kat_item rfl]
theorem call_sortedS{l:Addr}{vs:List Value}{cmp:Nat->Nat->Bool}{Q:Value->Shared->Prop}(hl:s.heap.IsList l vs.toArray)(h64:vs.length<64)
 (hk: ∀h',(∀b o,s.heap.get? b=some o->h'.get? b=some o)->2<=vs.length->∃κ,(∀(Q:SortKind->Shared->Prop) E,Q κ {s with heap:=h'}->wpAny (model prog w) A.in1.in1 (keyKind' vs.toArray) Q E {s with heap:=h'})/\
  ∀i j (hi:i<vs.length) (hj:j<vs.length) (C:Bool->Shared->Prop),C (cmp i j) {s with heap:=h'}->wpAny (model prog w) A.in1.in1 (keyLt' κ vs[i] vs[j]) C (λ_ _=>False) {s with heap:=h'})
 (h: ∀h' D e1,(∀b o,s.heap.get? b=some o->h'.get? b=some o)->s.heap.objs.size<=D->h'.get? D=some (seqObj "list" ((permS vs.length cmp).map λi=>vs.getD i Value.none).toArray e1)->Q (.ref D) {s with heap:=h'}):
 wpAny (model prog w) A (call (.builtin "sorted") [.ref l]) Q E s:=by
 have hz:vs.length<=sizeLine:=by have:sizeLine=16777216:=rfl;lia
 refine Calls.call_function_entry kind_sorted plain_sorted entry_sorted (args_sorted1 _) ?_
 unfold Builtin.«sorted»
 refine wpAny_bind (m:=checkCount "sorted" 1 1 _) (wpAny_pure ?_)
 refine wpAny_bind (collect_list hl ?_ hz)
 refine wpAny_bind (wpAny_newList ?_ hz)
 have hsz:((s.heap.push (seqObj "list" #[] 0)).update s.heap.objs.size (Obj.mapSeq (· ++vs.toArray))).objs.size=s.heap.objs.size+1:=by
  rw[Heap.size_update,size_push']
 have hoL:(((s.heap.push (seqObj "list" #[] 0)).update s.heap.objs.size (Obj.mapSeq (· ++vs.toArray))).push (seqObj "list" vs.toArray 0)).get? (s.heap.objs.size+1)=some (seqObj "list" vs.toArray 0):=by
  rw[<-hsz];exact Heap.get?_push_size _ rfl
 have keep: ∀b o,s.heap.get? b=some o->(((s.heap.push (seqObj "list" #[] 0)).update s.heap.objs.size (Obj.mapSeq (· ++vs.toArray))).push (seqObj "list" vs.toArray 0)).get? b=some o:=λb o q=>by
  have hlt:b<s.heap.objs.size:=Heap.lt_size q
  rw[Heap.get?_push_ne _ _ _ (by rw[hsz];exact l8 (A9 hlt)),Heap.get?_update_ne _ _ _ _ (l8 hlt),Heap.get?_push_ne _ _ _ (l8 hlt)]
  exact q
 show wpAny _ _ _ _ _ {s with heap:=((s.heap.push (seqObj "list" #[] 0)).update s.heap.objs.size (Obj.mapSeq (· ++vs.toArray))).push (seqObj "list" vs.toArray 0)}
 rw[hsz]
 have ne: ∀{b o},s.heap.get? b=some o->b≠s.heap.objs.size+1:=λq=>l8 (A9 (Heap.lt_size q))
 refine wpAny_bind (wpAny_holding (wpAny_call_entry slot_list_sort ⟨_,hoL,rfl⟩ entry_list_sort ?body (args_list_sort _)))
 case body=>
  refine z5i (s:={s with heap:=((s.heap.push (seqObj "list" #[] 0)).update s.heap.objs.size (Obj.mapSeq (· ++vs.toArray))).push (seqObj "list" vs.toArray 0)}) (cmp:=cmp) hoL h64 (λh' kp h2=> ?_) λh' e1 kp hD=> ?_
  .exact hk h' (λb o q=>kp b o (ne q) (keep b o q)) h2
  .exact⟨_,rfl,wpAny_pure ⟨_,rfl,h h' _ e1 (λb o q=>kp b o (ne q) (keep b o q)) (Nat.le_succ _) hD⟩⟩
end
end So
namespace L2
open PySem PySem.Spec PyProof.Rows
mutual
def Dp(K:W.Frag)(H:Hp):PyData->V->Prop
 | .none,v=>v= .non
 | .bool b,v=>v= .bl b
 | .int i,v=>v= .int i
 | .str x,v=>v= .str x
 | .list ds,v=> ∃a xs,v= .ref a/\SqL K H a xs/\DpAll K H ds xs
 | .tuple ds,v=> ∃a xs,v= .ref a/\SqT K H a xs/\DpAll K H ds xs
 | .dict _,_=>False
def DpAll(K:W.Frag)(H:Hp):List PyData->List V->Prop
 |[],xs=>xs=[]
 |d::ds,xs=> ∃x r,xs=x::r/\Dp K H d x/\DpAll K H ds r
end
section
variable{X:Cx}{pins:List (Addr×Obj)}{σ:St}{H:Hp}{s:Shared}
mutual
theorem Dp.reads(I:Inv X pins σ H s): ∀(d:PyData) (v:V) (u:Value),Dp X.K H d v->RelV v u->∃as,Reads s.heap u d as
 | .none,v,u,h,r=>by
  erw[Dp] at h;subst h;cases r;exact⟨_, .none⟩
 | .bool b,v,u,h,r=>by
  erw[Dp] at h;subst h;cases r;exact⟨_, .bool b⟩
 | .int i,v,u,h,r=>by
  erw[Dp] at h;subst h;obtain⟨t,rfl⟩:=r;exact⟨_, .int i t⟩
 | .str x,v,u,h,r=>by
  erw[Dp] at h;subst h;obtain⟨t,rfl⟩:=r;exact⟨_, .str x t⟩
 | .list ds,v,u,h,r=>by
  erw[Dp] at h
  obtain⟨a,xs,rfl,hs,hd⟩:=h
  cases r
  obtain⟨its,rv,⟨o,n,e,c,_,dd⟩,_⟩:=I.list hs
  obtain⟨as,ra⟩:=DpAll.reads I ds xs its hd rv
  exact⟨_, .list e c dd (by simpa using ra)⟩
 | .tuple ds,v,u,h,r=>by
  erw[Dp] at h
  obtain⟨a,xs,rfl,hs,hd⟩:=h
  cases r
  obtain⟨its,rv,⟨o,e,c,n,dd⟩,_⟩:=I.tuple hs
  obtain⟨as,ra⟩:=DpAll.reads I ds xs its hd rv
  exact⟨_, .tuple e c dd (by simpa using ra)⟩
 | .dict _,v,u,h,r=>by
  erw[Dp] at h
theorem DpAll.reads(I:Inv X pins σ H s): ∀(ds:List PyData) (vs:List V) (us:List Value),DpAll X.K H ds vs->W0 vs us->∃as,ReadsAll s.heap us ds as
 |[],vs,us,h,r=>by
  erw[DpAll] at h;subst h
  cases r
  exact⟨_, .nil⟩
 |d::ds,vs,us,h,r=>by
  erw[DpAll] at h
  obtain⟨x,q,rfl,h1,h2⟩:=h
  cases r with
  |cons r1 r2=>
   obtain⟨as,ra⟩:=Dp.reads I d _ _ h1 r1
   obtain⟨bs,rb⟩:=DpAll.reads I ds _ _ h2 r2
   exact⟨_, .cons ra rb⟩
end
def zhc(K:W.Frag)(neg:Bool):R2:=λx y H Q=> ∃d e,Dp K H d x/\Dp K H e y/\d.canLay0=true/\e.canLay0=true/\min d.depth e.depth<=60/\
 Q (.bl (if neg then !PyData.eqv d e else PyData.eqv d e)) H
theorem zeZ(hu:X.A.units+64<cLine):OpR X (compareOp .Eq) (zhc X.K false):=by
 intro pins s σ H x y v u Q I rx ry h
 obtain⟨d,e,hx,hy,c1,c2,hd,q⟩:=h
 obtain⟨as,ra⟩:=hx.reads I _ _ _ rx
 obtain⟨bs,rb⟩:=hy.reads I _ _ _ ry
 exact SeqAt.compareEq_reads ra rb c1 c2 (by lia) ⟨.bl _,H,I,rfl,q⟩
theorem zf0(hu:X.A.units+64<cLine):OpR X (compareOp .NotEq) (zhc X.K true):=by
 intro pins s σ H x y v u Q I rx ry h
 obtain⟨d,e,hx,hy,c1,c2,hd,q⟩:=h
 obtain⟨as,ra⟩:=hx.reads I _ _ _ rx
 obtain⟨bs,rb⟩:=hy.reads I _ _ _ ry
 exact SeqAt.compareNe_reads ra rb c1 c2 (by lia) ⟨.bl _,H,I,rfl,q⟩
def zjE(K:W.Frag)(neg:Bool):R2:=λx y H Q=> ∃d ds,Dp K H d x/\(Dp K H (.list ds) y\/Dp K H (.tuple ds) y)/\d.canLay0=true/\PyData.canLayAll0 ds=true/\min (PyData.depthAll ds) d.depth<=60/\
 Q (.bl (if neg then !(ds.any λy=>PyData.eqv y d) else ds.any λy=>PyData.eqv y d)) H
theorem zf1(hu:X.A.units+64<cLine):OpR X (compareOp .In) (zjE X.K false):=by
 intro pins s σ H x y v u Q I rx ry h
 obtain⟨d,ds,hx,hy,c1,c2,hd,q⟩:=h
 obtain⟨as,ra⟩:=hx.reads I _ _ _ rx
 rcases hy with hy|hy
 .obtain⟨bs,rb⟩:=hy.reads I _ _ _ ry
  exact SeqAt.in_list_reads rb ra c2 c1 (by lia) ⟨.bl _,H,I,rfl,q⟩
 .obtain⟨bs,rb⟩:=hy.reads I _ _ _ ry
  exact SeqAt.in_tuple_reads rb ra c2 c1 (by lia) ⟨.bl _,H,I,rfl,q⟩
def zbn(K:W.Frag)(H:Hp)(T:String)(r:Bool):V->Prop
 | .non=>r=false
 | .bl _=>r=(T== "int" ||T== "bool")
 | .int _=>r=(T== "int")
 | .str _=>r=(T== "str")
 | .ref a=>(∃xs,SqT K H a xs/\r=(T== "tuple"))\/(∃xs,SqL K H a xs/\r=(T== "list"))
 |_=>False
def zk4(K:W.Frag):List V->Hp->VK->Prop:=λxs H Q=> ∃x T r,xs=[x, .ty T]/\(T= "int" \/T= "bool" \/T= "tuple" \/T= "list" \/T= "str")/\zbn K H T r x/\Q (.bl r) H
theorem za5:CallR X (.builtin "isinstance") (zk4 X.K):=by
 intro pins s σ H xs us Q I r h
 obtain⟨x,T,b,rfl,hT,hx,q⟩:=h
 obtain⟨u,u',rfl,ru,ru'⟩:=z9M r
 cases ru'
 have fin: ∀t,EP X pins σ Q (.bool b) {s with toks:=t}:=λt=>⟨.bl b,H,I.tok t,rfl,q⟩
 have fin0:EP X pins σ Q (.bool b) s:=⟨.bl b,H,I,rfl,q⟩
 cases x with
 |non=>
  cases ru
  have hx:b=false:=hx
  subst hx
  rcases hT with rfl|rfl|rfl|rfl|rfl
  .exact IsiPair.NoneType_int (fin _)
  .exact IsiPair.NoneType_bool (fin _)
  .exact IsiPair.NoneType_tuple (fin _)
  .exact IsiPair.NoneType_list (fin _)
  .exact IsiPair.NoneType_str (fin _)
 |bl k=>
  cases ru
  rcases hT with rfl|rfl|rfl|rfl|rfl
  .have hx:b=true:=hx
   subst hx;exact IsiPair.bool_int fin0
  .have hx:b=true:=hx
   subst hx;exact IsiPair.bool_bool fin0
  .have hx:b=false:=hx
   subst hx;exact IsiPair.bool_tuple (fin _)
  .have hx:b=false:=hx
   subst hx;exact IsiPair.bool_list (fin _)
  .have hx:b=false:=hx
   subst hx;exact IsiPair.bool_str (fin _)
 |int k=>
  obtain⟨t,rfl⟩:=ru
  rcases hT with rfl|rfl|rfl|rfl|rfl
  .have hx:b=true:=hx
   subst hx;exact IsiPair.int_int fin0
  .have hx:b=false:=hx
   subst hx;exact IsiPair.int_bool (fin _)
  .have hx:b=false:=hx
   subst hx;exact IsiPair.int_tuple (fin _)
  .have hx:b=false:=hx
   subst hx;exact IsiPair.int_list (fin _)
  .have hx:b=false:=hx
   subst hx;exact IsiPair.int_str (fin _)
 |str k=>
  obtain⟨t,rfl⟩:=ru
  rcases hT with rfl|rfl|rfl|rfl|rfl
  .have hx:b=false:=hx
   subst hx;exact IsiPair.str_int (fin _)
  .have hx:b=false:=hx
   subst hx;exact IsiPair.str_bool (fin _)
  .have hx:b=false:=hx
   subst hx;exact IsiPair.str_tuple (fin _)
  .have hx:b=false:=hx
   subst hx;exact IsiPair.str_list (fin _)
  .have hx:b=true:=hx
   subst hx;exact IsiPair.str_str fin0
 |ref a=>
  cases ru
  rcases hx with⟨ys,hs,hb⟩|⟨ys,hs,hb⟩
  .obtain⟨its,rv,⟨o,e,c,n,dd⟩,_⟩:=I.tuple hs
   rcases hT with rfl|rfl|rfl|rfl|rfl
   .have hx:b=false:=hb
    subst hx;exact IsiPair.tuple_int e c (fin _)
   .have hx:b=false:=hb
    subst hx;exact IsiPair.tuple_bool e c (fin _)
   .have hx:b=true:=hb
    subst hx;exact IsiPair.tuple_tuple e c fin0
   .have hx:b=false:=hb
    subst hx;exact IsiPair.tuple_list e c (fin _)
   .have hx:b=false:=hb
    subst hx;exact IsiPair.tuple_str e c (fin _)
  .obtain⟨its,rv,⟨o,n,e,c,_,dd⟩,_⟩:=I.list hs
   rcases hT with rfl|rfl|rfl|rfl|rfl
   .have hx:b=false:=hb
    subst hx;exact IsiPair.list_int e c (fin _)
   .have hx:b=false:=hb
    subst hx;exact IsiPair.list_bool e c (fin _)
   .have hx:b=false:=hb
    subst hx;exact IsiPair.list_tuple e c (fin _)
   .have hx:b=true:=hb
    subst hx;exact IsiPair.list_list e c fin0
   .have hx:b=false:=hb
    subst hx;exact IsiPair.list_str e c (fin _)
 |byt _=>exact hx.elim
 |flt _=>exact hx.elim
 |ty _=>exact hx.elim
theorem z25: ∀{bs:List Bool} {us:List Value},W0 (bs.map V.bl) us->LSm.BoolsAre us bs
 |[],_, .nil=> .nil
 |b::bs,_, .cons r t=>by
  cases r
  exact .cons b (z25 t)
theorem z89(hc:X.A.handled=none):CallR X (.builtin "all") (λxs H Q=> ∃(p:Addr) (bs:List Bool),xs=[.ref p]/\SqL X.K H p (bs.map V.bl)/\Q (.bl (bs.all id)) H):=by
 intro pins s σ H xs us Q I r h
 obtain⟨p,bs,rfl,hs,q⟩:=h
 obtain⟨u,rfl,ru⟩:=z2N r
 cases ru
 obtain⟨its,rv,pl,_⟩:=I.list hs
 have hb:=z25 rv
 have hl:=pl.isList
 have hlt:p<s.heap.objs.size:=by obtain⟨_,e,_⟩:=hl;exact Heap.lt_size e
 refine call_all_walk (wpAny_pyIter_list hl ?_)
 refine⟨s.heap.objs.size,[s.heap.objs.size,p],[s.heap.objs.size],its.toArray.size,_,_,λi=>(bs[i]?).getD true,rfl,Walks.list (A:=X.A.in1) hc _ p (l8 hlt) its.toArray,
  ⟨⟨_,Heap.get?_push_size _ rfl,rfl,rfl⟩,hl.push _⟩,λi v s' Q' E' hP hQ=> ?_,λh' tk hk=> ?_⟩
 .obtain⟨b,e,rfl⟩:=hb.get i v (by simpa using hP)
  erw[e,A3] at hQ
  exact wpAny_truthy_bool hQ
 .have e:((C1 its.toArray.size).all λi=>(bs[i]?).getD true)=bs.all id:=by
   rw[i3,hb.length];exact LSm.range_all bs
  rw[e]
  exact⟨.bl _,H,I.kept (LSm.kept_iter hk),rfl,q⟩
end
end L2
namespace HT
open PySem PyProof.Rows
section
variable{prog:Program}{w:World}{A:Around}{E:Value->Shared->Prop}{s:Shared}
theorem getItem_tuple_whole{t sl:Addr}{items:Array Value}{vl vu:Value}{lo hi:Option Int}{Q:Value->Shared->Prop}(ht:IsTup s.heap t items)(hs:s.heap.IsSliceOf sl vl vu .none)(pl:IsPart vl lo)(pu:IsPart vu hi)
 (hw:sIx items.size 0 lo=0/\sIx items.size items.size hi=items.size) (h:Q (.ref t) s):wpAny (model prog w) A (getItem (.ref t) (.ref sl)) Q E s:=by
 obtain⟨os,hos,hcs,hds⟩:=id hs
 have hTs:s.TypeIs (.ref sl) "slice" :=⟨os,hos,hcs⟩
 unfold getItem
 try with_reducible refine wpAny_holding ?_
 first|refine wpAny_bind (wpAny_pure ?_)|skip
 refine wpAny_bind (wpAny_sequenceKey ht.typeIs (by decide) ?_)
 refine wpAny_bind (wpAny_callSpecial?_slot (name:=Str.ofString "__getitem__") ht.typeIs PyProof.Rows.slot_tuple_getitem
  (wpAny_call_entry PyProof.Rows.slot_tuple_getitem ht.typeIs entry_tuple_getitem ?_ (args_tuple_getitem _ _)))
 show wpAny _ _ (Builtin.Tuple.tupleItemsOf (.ref t)>>=_) _ _ s
 refine wpAny_bind (tupleItemsOf_ ht ?_)
 refine wpAny_bind (wpAny_typeOf hTs ?_)
 rw[if_pos (by decide)]
 refine wpAny_bind (K4 hs pl pu ?_)
 have hyes:((((sIx items.size 0 lo:Nat):Int)==0&&(1:Int)==1&&(sIx items.size items.size hi -sIx items.size 0 lo)==items.size)=true):=by
  rw[hw.1,hw.2]
  simp
 show wpAny _ _ (if(((sIx items.size 0 lo:Nat):Int)==0&&(1:Int)==1&&(sIx items.size items.size hi -sIx items.size 0 lo)==items.size)=true then _ else _) _ _ s
 rw[if_pos hyes]
 obtain⟨o,ho,hc,n,hd⟩:=id ht
 have ex:Builtin.Tuple.tupleIsExact (.ref t)=(typeOf (.ref t)>>=λT=>pure (T== .type "tuple")):=rfl
 refine wpAny_bind (m:=Builtin.Tuple.tupleIsExact (.ref t)) ?_
 rw[ex]
 refine wpAny_bind (wpAny_typeOf ht.typeIs (wpAny_pure ?_))
 rw[if_pos (by decide)]
 exact wpAny_bind (wpAny_rule (wpAny_pure ⟨_,rfl,wpAny_pure h⟩))
end
end HT
namespace L2
open PySem PySem.Spec PyProof.Rows
section
variable{X:Cx}
theorem z6W{xs:List V}{lo hi:Option Int}(h:HT.sIx xs.length 0 lo=0/\HT.sIx xs.length xs.length hi=xs.length):z80 xs lo hi=xs:=by
 unfold z80
 rw[h.1,h.2]
 simp
end
def z0H(env:Env):List (Str×NameKind)->List (Str×Addr)->List (Str×Addr)
 |[],cs=>cs
 |(n,k)::r,cs=>z0H env r (if k== .free then(match env.cells.lookup n with|some a=>(n,a)::cs|none=>cs) else cs)
theorem z65{env:Env}: ∀(names:List (Str×NameKind)) (cs:List (Str×Addr)),(∀y∈names,y.2= .free->∃a,env.cells.lookup y.1=some a)->
 (forIn names cs λ(x:Str×NameKind) (r:List (Str×Addr))=>if(x.2==NameKind.free)=true then cellOf env x.1>>=λa=>pure (ForInStep.yield ((x.1,a)::r)) else pure (ForInStep.yield r))=(pure (z0H env names cs):Sem _)
 |[],cs,_=>rfl
 |(n,k)::r,cs,h=>by
  have ih:=λcs=>z65 (env:=env) r cs λy hy=>h y (b7 _ hy)
  rw[List.forIn_cons]
  show((if(k==NameKind.free)=true then cellOf env n>>=λa=>pure (ForInStep.yield ((n,a)::cs)) else pure (ForInStep.yield cs))>>=_)=pure (z0H env r (if k== .free then(match env.cells.lookup n with|some a=>(n,a)::cs|none=>cs) else cs))
  by_cases hk:(k==NameKind.free)=true
  .obtain⟨a,e⟩:=h (n,k) e9 (by simpa using hk)
   have e:env.cells.lookup n=some a:=e
   rw[if_pos hk,if_pos hk,e]
   have e2:cellOf env n=pure a:=by unfold cellOf;rw[e]
   rw[e2]
   exact ih _
  .rw[if_neg hk,if_neg hk]
   exact ih _
theorem z3m{env:Env}{scope:Scope}(h: ∀y∈scope.names,y.2= .free->∃a,env.cells.lookup y.1=some a):closureFor scope env=pure (z0H env scope.names []):=by
 have e:=z65 (env:=env) scope.names [] h
 exact congrArg (λ(m:Sem (List (Str×Addr)))=>m>>=λcs=>pure cs) e
theorem z3n{env:Env}{x:Str}{c:Addr}: ∀(names:List (Str×NameKind)) (cs:List (Str×Addr)),(z0H env names cs).lookup x=some c->
 cs.lookup x=some c\/(env.cells.lookup x=some c/\(x,NameKind.free)∈names)
 |[],cs,h=> .inl h
 |(n,k)::r,cs,h=>by
  rcases z3n r _ h with q|⟨q,m⟩
  .by_cases hk:(k==NameKind.free)=true
   .rw[if_pos hk] at q
    cases e:env.cells.lookup n with
    |none=>rw[e] at q;exact .inl q
    |some a=>
     rw[e] at q
     have q:((n,a)::cs).lookup x=some c:=q
     rw[i9] at q
     by_cases hx:(x==n)=true
     .rw[hx] at q
      have q:some a=some c:=q
      cases q
      have hx:x=n:=eq_of_beq hx
      subst hx
      have hk:k= .free:=eq_of_beq hk
      subst hk
      exact .inr ⟨e,e9⟩
     .have hx:(x==n)=false:=by simpa using hx
      rw[hx] at q
      exact .inl q
   .rw[if_neg hk] at q
    exact .inl q
  .exact .inr ⟨q,b7 _ m⟩
theorem z26{env:Env}{x:Str}: ∀(names:List (Str×NameKind)) (cs:List (Str×Addr)),(((∃c,cs.lookup x=some c))\/((x,NameKind.free)∈names/\∃c,env.cells.lookup x=some c))->
 ∃c,(z0H env names cs).lookup x=some c
 |[],cs,h=>by
  rcases h with h|⟨m,_⟩
  .exact h
  .cases m
 |(n,k)::r,cs,h=>by
  refine z26 r _ ?_
  rcases h with⟨c,hc⟩|⟨m,c,hc⟩
  .left
   by_cases hk:(k==NameKind.free)=true
   .rw[if_pos hk]
    cases e:env.cells.lookup n with
    |none=>exact⟨c,hc⟩
    |some a=>
     by_cases hx:(x==n)=true
     .exact⟨a,by show((n,a)::cs).lookup x=some a;rw[i9,hx]⟩
     .have hx:(x==n)=false:=by simpa using hx
      exact⟨c,by show((n,a)::cs).lookup x=some c;rw[i9,hx];exact hc⟩
   .rw[if_neg hk]
    exact⟨c,hc⟩
  .rcases c9.mp m with e|m
   .left
    cases e
    rw[if_pos (by decide),hc]
    exact⟨c,by show((x,c)::cs).lookup x=some c;rw[i9,beq_self_eq_true]⟩
   .exact .inr ⟨m,c,hc⟩
theorem U2{env:Env}: ∀{names:List (Str×NameKind)} {x:Str},names.lookup x=some .free->
 (names.map λ(n,k)=>if(k==NameKind.free&&env.scope.kind== .function&&env.kindOf n==some .cell) then(n,NameKind.cell) else(n,k)).lookup x=some .cell\/
 (names.map λ(n,k)=>if(k==NameKind.free&&env.scope.kind== .function&&env.kindOf n==some .cell) then(n,NameKind.cell) else(n,k)).lookup x=some .free
 |[],_,h=>by simp at h
 |(n,k)::r,x,h=>by
  have ih:= @U2 env r x
  rw[c8]
  show A5 x ((if(k==NameKind.free&&env.scope.kind== .function&&env.kindOf n==some .cell)=true then(n,NameKind.cell) else(n,k))::_)=_\/A5 x ((if(k==NameKind.free&&env.scope.kind== .function&&env.kindOf n==some .cell)=true then(n,NameKind.cell) else(n,k))::_)=_
  cases hx:x==n with
  |true=>
   erw[i9,hx] at h
   cases h
   by_cases hc:(NameKind.free==NameKind.free&&env.scope.kind== .function&&env.kindOf n==some .cell)=true
   .rw[if_pos hc];left;erw[i9,hx]
   .rw[if_neg hc];right;erw[i9,hx]
  |false=>
   erw[i9,hx] at h
   by_cases hc:(k==NameKind.free&&env.scope.kind== .function&&env.kindOf n==some .cell)=true
   .rw[if_pos hc];erw[i9,hx];exact ih h
   .rw[if_neg hc];erw[i9,hx];exact ih h
theorem V6{env:Env}: ∀{names:List (Str×NameKind)} {x:Str},((names.map λ(n,k)=>if(k==NameKind.free&&env.scope.kind== .function&&env.kindOf n==some .cell) then(n,NameKind.cell) else(n,k)).lookup x=some .cell\/
 (names.map λ(n,k)=>if(k==NameKind.free&&env.scope.kind== .function&&env.kindOf n==some .cell) then(n,NameKind.cell) else(n,k)).lookup x=some .free)->names.lookup x=some .free\/names.lookup x=some .cell
 |[],_,h=>by simp at h
 |(n,k)::r,x,h=>by
  have ih:= @V6 env r x
  rw[c8] at h
  have h:A5 x ((if(k==NameKind.free&&env.scope.kind== .function&&env.kindOf n==some .cell)=true then(n,NameKind.cell) else(n,k))::_)=_\/A5 x ((if(k==NameKind.free&&env.scope.kind== .function&&env.kindOf n==some .cell)=true then(n,NameKind.cell) else(n,k))::_)=_:=h
  cases hx:x==n with
  |true=>
   erw[i9,hx]
   by_cases hc:(k==NameKind.free&&env.scope.kind== .function&&env.kindOf n==some .cell)=true
   .have:k= .free:=by
     erw[b9,beq_iff_eq] at hc
     exact hc.1.1
    subst this
    exact .inl rfl
   .rw[if_neg hc] at h
    erw[i9,hx] at h
    exact h.symm
  |false=>
   erw[i9,hx]
   refine ih ?_
   by_cases hc:(k==NameKind.free&&env.scope.kind== .function&&env.kindOf n==some .cell)=true
   .rw[if_pos hc] at h;erw[i9,hx] at h;exact h
   .rw[if_neg hc] at h;erw[i9,hx] at h;exact h
structure J0(osc sc:Scope)(own frees N:List Str)(ix:List Nat):Prop where
 kind:sc.kind= .function
 nocell: ∀y∈sc.names,y.2≠ .cell
 names: ∀y∈sc.names,y.2= .local->sc.names.lookup y.1=some .local
 fr: ∀y∈sc.names,y.2= .free->osc.names.lookup y.1=some .cell\/osc.names.lookup y.1=some .free
 nd:(own++frees).Nodup
 frl: ∀x∈frees,sc.names.lookup x=some .free
 ixs:ix.map (λi=>N[i]?)=frees.map some
def Q7(X:Cx)(scope:Scope)(own frees:List Str)(cl:List (Str×Addr))(C:Addr)(s₀:Shared)(H₀:Hp)(fp:List Addr)(pn:List (Addr×Obj)):Cx:=
 {X with N:=own++frees,s₀:=s₀,H₀:=H₀,env:=compEnvC scope cl C X.env,outer:=X.stack,stack:=X.stack,ex:=fp,fn:=λ_=>false,pn:=pn,xe:=λ_ _=>False}
def z01(k:Nat)(ix:List Nat)(σ:St):St:=e8 k none++ix.map λi=>(σ[i]?).getD none
section
variable{X:Cx}{tg iter elt:Expr}{pos:Pos}{scope:Scope}{own frees:List Str}{ix:List Nat}{wi:TI}{g:TG}{te:TE}
theorem z6X(k:Nat)(ix:List Nat)(σ:St):(z01 k ix σ).length=k+ix.length:=by
 unfold z01
 simp
theorem z6Y{pins:List (Addr×Obj)}{σ:St}{H:Hp}{s s1:Shared}{fp:List Addr}(S:J0 X.env.scope scope own frees X.N ix)(I:Inv X pins σ H s)(hf: ∀b∈fp,z7t X pins H b)(hb: ∀b∈fp,b<s.heap.objs.size)
 (ho:s1.os=s.os) (hg:s1.gens=s.gens) (hk: ∀b o,s.heap.get? b=some o->s1.heap.get? b=some o) (hn:s1.heap.Ns s.heap.objs.size (λ_=>none)):
 Inv (Q7 X scope own frees (z0H X.env scope.names []) s.heap.objs.size s H fp (X.pn++pins)) [] (z01 own.length ix σ) H s1:=by
 have clos: ∀x c,(z0H X.env scope.names []).lookup x=some c->X.env.cells.lookup x=some c/\(x,NameKind.free)∈scope.names:=λx c h=>by
  rcases z3n _ _ h with q|q
  .exact nomatch q
  .exact q
 have hlen:ix.length=frees.length:=by
  have:=congrArg N2 S.ixs
  simpa using this
 have cne: ∀x c,X.env.cells.lookup x=some c->c<s.heap.objs.size:=λx c e=>by
  obtain⟨v,o,q,_⟩:=I.cell x c e
  exact Heap.lt_size q
 refine⟨⟨I.ok.mod,S.kind,I.ok.glob,I.ok.blt,c6 _,λx y c h1 h2=>I.ok.inj x y c (clos x c h1).1 (clos y c h2).1,λx hx=> ?_,λx c z=>E5 z,I.ok.hd,I.ok.frames, .inl rfl,λb z=>⟨l8 (hb b z),λx c e=>(hf b z).2.2.2.2.1 x c (clos x c e).1⟩,I.bs,
  n9 I.ok.bsz I.sz,λb o e z=> ?_,λb z=> ?_,I.stack,I.stkFree⟩,ho, ?_,Un.kept hk,⟨_,hn,λi x v h1 h2 h3=> ?_⟩,λx c e=> ?_,I.fresh,λx c e=>I.freeC x c (clos x c e).1,λp hp=> ?_,I.hok.kept hk, ?_⟩
 .have hx:(relabel scope X.env).names.lookup x=some .cell\/(relabel scope X.env).names.lookup x=some .free:=hx
  rcases V6 hx with q|q
  .have m:(x,NameKind.free)∈scope.names:=PySem.mem_of_lookup q
   obtain⟨c,hc⟩:=I.ok.has x (S.fr _ m rfl)
   exact z26 _ _ (.inr ⟨m,c,hc⟩)
  .exact absurd rfl (S.nocell _ (PySem.mem_of_lookup q))
 .rcases(hf b z).2.2.2.1 with q|q
  .exact I.ok.noex b o e q
  .exact absurd (Heap.lt_size (I.ok.bs b o e).1) (D7.mpr q)
 .intro q
  rcases c9.mp (I.stkSub b q) with r|r
  .exact(hf b z).2.1 r
  .exact(hf b z).2.2.1 r
 .rw[hg];exact I.bare
 .have h2:(z01 own.length ix σ)[i]? =some (some v):=h2
  have h1:(own++frees)[i]? =some x:=h1
  unfold z01 at h2
  by_cases hi:i<own.length
  .rw[List.getElem?_append_left (by simpa using hi),List.getElem?_replicate] at h2
   rw[if_pos hi] at h2
   cases h2
  .have hi:own.length<=i:=D7.mp hi
   rw[List.getElem?_append_right (by simpa using hi),M9,List.getElem?_map] at h2
   rw[List.getElem?_append_right hi] at h1
   cases e:ix[i -own.length]? with
   |none=>rw[e] at h2;cases h2
   |some j=>
    rw[e] at h2
    have h2:some ((σ[j]?).getD none)=some (some v):=h2
    have hσ:σ[j]? =some (some v):=by
     cases q:σ[j]? with
     |none=>rw[q] at h2;cases h2
     |some z=>rw[q] at h2;exact h2
    have hN:X.N[j]? =some x:=by
     have:=congrArg (λl:List (Option Str)=>l[i -own.length]?) S.ixs
     erw[List.getElem?_map,e,h1,m9] at this
     exact Option.some.inj this
    have mf:x∈frees:=List.mem_of_getElem? h1
    have lf:=S.frl x mf
    have m:(x,NameKind.free)∈scope.names:=PySem.mem_of_lookup lf
    have hos:=S.fr _ m rfl
    obtain⟨mm,hns,hl⟩:=I.loc
    obtain⟨u,ru,look⟩:=hl j x v hN hσ (hos.elim (λq=> .inr (.inl q)) λq=> .inr (.inr q))
    refine⟨u,ru, ?_⟩
    rcases look with⟨kk,_⟩|⟨kk,c,hc,ic⟩
    .have kk:X.env.scope.names.lookup x=some .local:=kk
     have hos:X.env.scope.names.lookup x=some .cell\/X.env.scope.names.lookup x=some .free:=hos
     rw[kk] at hos
     rcases hos with q|q<;>cases q
    .obtain⟨c',hc'⟩:=z26 (env:=X.env) scope.names [] (.inr ⟨m,c,hc⟩)
     have e2:=(clos x c' hc').1
     rw[hc] at e2
     cases e2
     refine .inr ⟨U2 lf,c,hc', ?_⟩
     obtain⟨o,q1,q2⟩:=ic
     exact⟨o,hk _ _ q1,q2⟩
 .obtain⟨v,o,q1,q2⟩:=I.cell x c (clos x c e).1
  exact⟨v,o,hk _ _ q1,q2⟩
 .have hp:p∈(X.pn++pins)++[]:=hp
  rw[e7] at hp
  obtain⟨e,n,ne,nf,d⟩:=I.pin p hp
  refine⟨hk _ _ e,n,l8 (Heap.lt_size e),λq=> ?_,d⟩
  rcases c9.mp (I.stkSub p.1 q) with r|r
  .exact ne r
  .exact nf r
 .show(z01 own.length ix σ).length=(own++frees).length
  rw[z6X,hlen,l3]
theorem za6{pins pins':List (Addr×Obj)}{σ σ':St}{H H':Hp}{s s':Shared}{h':Heap}{fp:List Addr}{cl:List (Str×Addr)}{C:Addr}(I:Inv X pins σ H s)(hf: ∀b∈fp,z7t X pins H b)(hC:s.heap.objs.size<=C)
 (J:Inv (Q7 X scope own frees cl C s H fp (X.pn++pins)) pins' σ' H' s') (hs:Heap.SameBut C s'.heap h'):Inv X pins σ H' {s' with heap:=h'}:=by
 have nC: ∀b,b<s.heap.objs.size->b≠C:=λb q e=>by subst e;exact absurd q (D7.mpr hC)
 refine I.call' (ch:=fp) J.os ⟨λb o e n hb hx=> ?_,λb o e n hb hx=> ?_,J.base.free,λb o e hx=> ?_,J.base.tups,J.base.frzs,J.base.tbls⟩ ?_ J.bare λb z=>⟨(hf b z).2.2.2.1,(hf b z).2.1,(hf b z).2.2.2.2.1,(hf b z).2.2.2.2.2⟩
 .exact(hs.2 b (nC b (Heap.lt_size e))).trans (J.base.keep b o e n hb hx)
 .obtain⟨sl,q⟩:=J.base.slot b o e n hb hx
  exact⟨sl,(hs.2 b (nC b (Heap.lt_size e))).trans q⟩
 .obtain⟨o',q⟩:=J.base.there b o e hx
  exact⟨o',(hs.2 b (nC b (Heap.lt_size e))).trans q⟩
 .intro a o e
  refine(J.hok a o e).stay (λb u hbu q=> ?_) (λ_ q=>q) λ_ _ q=>q
  refine(hs.2 b ?_).trans q
  intro eb
  subst eb
  have hfree:H' b=none:=J.free
  rcases hbu with rfl|z
  .rw[e] at hfree;cases hfree
  .rw[z] at hfree;cases hfree
end
end L2
namespace PySem
section
variable{prog:Program}{w:World}{A:Around}{E:Value->Shared->Prop}{s:Shared}
theorem z27{d:Addr}{o:Obj}{es:Array DictEntry}{ep:Nat}{Q:Value->Shared->Prop}(hd:(d==sysModules)=false)(ho:s.heap.get? d=some o)(hc:o.ExactDict)(hdat:o.data= .dict es ep)
 (hQ:Q (.ref s.heap.objs.size) {s with heap:=s.heap.push {cls:= .type "dict_keyiterator",data:= .fields #[.ref d, .int 0 0, .int es.size 0, .int ep 0]}}):
 wpAny (model prog w) A (pyIter (.ref d)) Q E s:=by
 have hT:s.TypeIs (.ref d) "dict" :=⟨o,ho,hc.1⟩
 refine wpAny_pyIter_slot hT F.slot_dict_iter (wpAny_call_entry F.slot_dict_iter hT F.entry_dict_iter ?_ (F.args_dict_iter_1 _))
 unfold Builtin.«dict.__iter__»
 refine wpAny_bind ?_
 unfold Builtin.Dict.dictSlotNone
 refine wpAny_bind (wpAny_notOrdered_dict hT ?_)
 show wpAny _ _ (pure (Value.ref d)) _ _ s
 refine wpAny_pure ?_
 show wpAny _ _ (Builtin.Dict.showsAll d>>=_) _ _ s
 unfold Builtin.Dict.showsAll
 rw[if_neg (by rw[hd];exact i5)]
 refine wpAny_bind (wpAny_pure ?_)
 refine wpAny_bind (wpAny_dictEntries ho hdat ?_)
 refine wpAny_bind (wpAny_dictEpoch ho hdat ?_)
 refine wpAny_bind (wpAny_newObj_type (wpAny_pure ⟨_,rfl, "dict_keyiterator",_,⟨_,Heap.get?_push_size _ rfl,rfl⟩,F.slot_dict_keyiterator_next.lookup, ?_⟩))
 simpa[rawInt] using hQ
theorem z28{it d:Addr}{i ep:Nat}{od:Obj}{es:Array DictEntry}{en:DictEntry}{Q:Option Value->Shared->Prop}(hit:s.heap.IsKeyIter it d i es.size ep)
 (hod:s.heap.get? d=some od) (hdd:od.data= .dict es ep) (hx:es[i]? =some en)
 (hQ: ∀h',h'.IsKeyIter it d (i+1) es.size ep->Heap.SameBut it s.heap h'->Q (some en.key) {s with heap:=h'}):
 wpAny (model prog w) A (pyNext (.ref it)) Q E s:=by
 obtain⟨o,ho,hc,hd⟩:=id hit
 unfold pyNext
 refine wpAny_bind (wpAny_attempt (wpAny_callSpecial?_slot (name:=Str.ofString "__next__") hit.typeIs F.slot_dict_keyiterator_next
  (wpAny_call_entry F.slot_dict_keyiterator_next hit.typeIs F.entry_dict_keyiterator_next ?_ (F.args_dict_keyiterator_next_1 _))))
 refine wpAny_bind (wpAny_pure ?_)
 refine wpAny_bind ?_
 refine wpAny_bind ?_
 first|refine wpAny_bind (wpAny_typeNameOfWhole_keyiter hit.typeIs (wpAny_pure ?_))|refine wpAny_bind (wpAny_typeNameOf_keyiter hit.typeIs (wpAny_pure ?_))
 refine wpAny_bind (wpAny_fieldsOf ho hd ?_)
 have hown:Builtin.Dict_items.ownsTuple "dict_keyiterator" =false:=by decide
 erw[hown,i8,if_false]
 show wpAny _ _ (if(Value.ref d==Value.none)=true then _ else _) _ _ s
 rw[if_neg (show ¬((Value.ref d==Value.none)=true) from i5)]
 refine wpAny_bind (wpAny_pure ?_)
 refine wpAny_bind (wpAny_dictEntries hod hdd ?_)
 rw[if_neg (by simp)]
 refine wpAny_bind (wpAny_pure ?_)
 refine wpAny_bind (wpAny_dictEpoch hod hdd ?_)
 rw[if_neg (by simp)]
 refine wpAny_pure ?_
 have hlt':i<es.size:=by
  rcases R0 i es.size with h|h
  .exact h
  .simp[Array.getElem?_eq_none h] at hx
 have hkey:es[i]=en:=by
  rw[Array.getElem?_eq_getElem hlt'] at hx
  exact Option.some.inj hx
 erw[show ¬((i:Int)<0) from by lia,if_false,C9,Array.getElem?_eq_getElem hlt']
 refine wpAny_bind ?_
 first|refine wpAny_bind (wpAny_typeNameOfWhole_keyiter hit.typeIs (wpAny_pure ?_))|refine wpAny_bind (wpAny_typeNameOf_keyiter hit.typeIs (wpAny_pure ?_))
 refine wpAny_bind (wpAny_isOneOf_keyiter hit.typeIs ?_)
 show wpAny _ _ (setField (.ref it) 1 (rawInt ((i:Int)+1))>>=_) _ _ s
 refine wpAny_bind (wpAny_setField ho hd (by simp) ?_)
 have hit':(s.heap.update it (Obj.mapFields (·.setIfInBounds 1 (rawInt ((i:Int)+1))))).IsKeyIter it d (i+1) es.size ep:=
  ⟨_,Heap.get?_update_self _ ho (Obj.isFreed_of_fields (Obj.data_mapFields hd _)),(Obj.cls_mapFields ..).trans hc,by rw[Obj.data_mapFields hd];simp[rawInt]⟩
 refine wpAny_bind (wpAny_holding ?_)
 refine wpAny_bind (wpAny_isOneOf_keyiter (s:={s with heap:=s.heap.update it (Obj.mapFields (·.setIfInBounds 1 (rawInt ((i:Int)+1))))}) hit'.typeIs ?_)
 show wpAny _ _ (pure es[i].key) _ _ _
 rw[hkey]
 exact wpAny_pure (wpAny_pure ⟨_,rfl,wpAny_pure (hQ _ hit' (Heap.SameBut.update ..))⟩)
theorem z2O{it d:Addr}{i ep:Nat}{od:Obj}{es:Array DictEntry}{Q:Option Value->Shared->Prop}(hh:A.handled=none)(hit:s.heap.IsKeyIter it d i es.size ep)
 (hod:s.heap.get? d=some od) (hdd:od.data= .dict es ep) (hge:es.size<=i)
 (hQ: ∀h',Heap.ExtBut it s.heap h'->Q none {s with heap:=h'}):wpAny (model prog w) A (pyNext (.ref it)) Q E s:=by
 obtain⟨o,ho,hc,hd⟩:=id hit
 unfold pyNext
 refine wpAny_bind (wpAny_attempt (wpAny_callSpecial?_slot (name:=Str.ofString "__next__") hit.typeIs F.slot_dict_keyiterator_next
  (wpAny_call_entry F.slot_dict_keyiterator_next hit.typeIs F.entry_dict_keyiterator_next ?_ (F.args_dict_keyiterator_next_1 _))))
 refine wpAny_bind (wpAny_pure ?_)
 refine wpAny_bind ?_
 refine wpAny_bind ?_
 first|refine wpAny_bind (wpAny_typeNameOfWhole_keyiter hit.typeIs (wpAny_pure ?_))|refine wpAny_bind (wpAny_typeNameOf_keyiter hit.typeIs (wpAny_pure ?_))
 refine wpAny_bind (wpAny_fieldsOf ho hd ?_)
 have hown:Builtin.Dict_items.ownsTuple "dict_keyiterator" =false:=by decide
 erw[hown,i8,if_false]
 show wpAny _ _ (if(Value.ref d==Value.none)=true then _ else _) _ _ s
 rw[if_neg (show ¬((Value.ref d==Value.none)=true) from i5)]
 refine wpAny_bind (wpAny_pure ?_)
 refine wpAny_bind (wpAny_dictEntries hod hdd ?_)
 rw[if_neg (by simp)]
 refine wpAny_bind (wpAny_pure ?_)
 refine wpAny_bind (wpAny_dictEpoch hod hdd ?_)
 rw[if_neg (by simp)]
 refine wpAny_pure ?_
 erw[show ¬((i:Int)<0) from by lia,if_false,C9,Array.getElem?_eq_none hge]
 refine wpAny_bind ?_
 first|refine wpAny_bind (wpAny_typeNameOfWhole_keyiter hit.typeIs (wpAny_pure ?_))|refine wpAny_bind (wpAny_typeNameOf_keyiter hit.typeIs (wpAny_pure ?_))
 show wpAny _ _ (setField (.ref it) 0 .none>>=_) _ _ s
 refine wpAny_bind (wpAny_setField ho hd (by simp) ?_)
 show wpAny _ _ (newExc (.type "StopIteration") []>>=_) _ _ _
 refine wpAny_bind ?_
 erw[newExc,newTuple]
 refine wpAny_bind (wpAny_newObj_type ?_ (by size_fits))
 refine wpAny_bind (m:=firstArgMember _ _) (wpAny_of_eq (a:=Value.none) (by first|rfl|(erw[firstArgMember];rfl)) ?_)
 refine wpAny_newObj_type ?_ (by size_fits)
 erw[raiseNew]
 refine wpAny_bind (wpAny_handled ?_)
 rw[show A.in1.handled=none from hh]
 refine wpAny_bind (wpAny_pure (wpAny_throw ?_))
 refine wpAny_bind (wpAny_isInstance (T:= "StopIteration") (b:=true) ⟨_,Heap.get?_push_size _ rfl,rfl⟩ isSubtype_stop ?_)
 exact wpAny_pure (hQ _ (((Heap.SameBut.update ..).extBut.push _).push _))
end
end PySem
namespace L2
open PySem PySem.Spec PyProof.Rows
def ItD(a:Addr)(o:Obj)(kvs:List (NK×V)):It:=
 ⟨λi H=>i<kvs.length/\H a=some (.frz o (.dT kvs)),λi H x H'=>H'=H/\∃b k v,x= .ref b/\kvs[i]? =some (k,v)/\TK H k b,λi H=>kvs.length<=i/\H a=some (.frz o (.dT kvs))⟩
theorem zbo{P:Program}{w:World}{H:Hp}{h:Heap}{a:Addr}{o:Obj}{kvs:List (NK×V)}(ok:HOk P w H h)(e:H a=some (.frz o (.dT kvs))):
 h.get? a=some o/\(a==sysModules)=false/\o.ExactDict/\∃es ep,o.data= .dict es ep/\es.size=kvs.length/\
  ∀(i:Nat) (k:NK) (v:V),kvs[i]? =some (k,v)->∃en b,es[i]? =some en/\en.key= .ref b/\TK H k b:=by
 obtain⟨ho,z,y,xs,r,o',es,ep,e',c,d,l,nd⟩:=ok a _ e
 rw[ho] at e'
 cases e'
 have hl:kvs.length=xs.length:=Paired.length r
 have hs:es.size=xs.length:=size_of_entries l
 refine⟨ho,y,c,es,ep,d,by lia,λi k v q=> ?_⟩
 have key: ∀{kvs:List (NK×V)} {xs:List (NK×Addr×Value)},Paired (λ(p:NK×V) (q:NK×Addr×Value)=>p.1=q.1/\TK H p.1 q.2.1/\RelV p.2 q.2.2) kvs xs->
  ∀(i:Nat),kvs[i]? =some (k,v)->∃b u,xs[i]? =some (k,b,u)/\TK H k b:=by
  intro kvs xs r
  induction r with
  |nil=>intro i q;simp at q
  | @cons p x l1 l2 h1 h2 ih=>
   intro i q
   cases i with
   |zero=>
    erw[List.getElem?_cons_zero,Option.some.injEq] at q
    subst q
    obtain⟨e1,e2,_⟩:=h1
    obtain⟨x1,x2,x3⟩:=x
    have e1:k=x1:=e1
    subst e1
    exact⟨x2,x3,rfl,e2⟩
   |succ j=>
    erw[List.getElem?_cons_succ] at q
    obtain⟨b,u,q1,q2⟩:=ih j q
    exact⟨b,u,by simpa using q1,q2⟩
 obtain⟨b,u,q1,q2⟩:=key r i q
 have hi:=entry_at l i
 rw[q1] at hi
 exact⟨_,b,hi,rfl,q2⟩
theorem z8a{P:Program}{w:World}{K:W.Frag}{tg:Expr}(a it:Addr)(o:Obj)(es:Array DictEntry)(ep:Nat)(hd:o.data= .dict es ep)(kvs:List (NK×V)):
 zdZ P w K tg (ItD a o kvs) [it] it (λi h=>h.IsKeyIter it a i es.size ep) where
 mem:=by simp
 obj:=λi h st b hb=>by
  have e:b=it:=by simpa using hb
  subst e
  obtain⟨o,e,c,d⟩:=st
  exact⟨o,e,λv z=>by rw[d] at z;cases z⟩
 keep:=λi h h' st k=>st.at λo e=>k it (by simp) o e
 item:=by
  intro X hP hw hK hc i pins s σ H E I hf st hg
  subst hP hw hK
  obtain⟨hi,hq⟩:=hg
  obtain⟨ho,_,_,es',ep',hd',hsz,hat⟩:=zbo I.hok hq
  rw[hd] at hd'
  cases hd'
  obtain⟨f0,f1,f2,f3,f4,f5⟩:=hf it (by simp)
  obtain⟨⟨k,v⟩,hk⟩: ∃p,kvs[i]? =some p:=⟨kvs[i],by simp[hi]⟩
  obtain⟨en,b,he,hb,hB⟩:=hat i k v hk
  refine z28 st ho hd he λh' st' sb=> ?_
  have I1:Inv X pins σ H {s with heap:=h'}:=I.turned (t':=s.toks) (λb o hb e=>(sb.2 b hb).trans e) f0 f1 f3 f4 f5
  obtain⟨o2,e2,c2,d2⟩:=id st'
  exact⟨_,rfl,z9F (s:={s with heap:=h'}) e2 c2 d2 (by decide) ⟨.ref b,H,I1,hb,⟨rfl,b,k,v,rfl,hk,hB⟩,st',λb hb=>(hf b hb).1⟩⟩
 done:=by
  intro X hP hw hK hc i pins s σ H E I hf st hg
  subst hP hw hK
  obtain⟨hi,hq⟩:=hg
  obtain⟨ho,_,_,es',ep',hd',hsz,hat⟩:=zbo I.hok hq
  rw[hd] at hd'
  cases hd'
  obtain⟨f0,f1,f2,f3,f4,f5⟩:=hf it (by simp)
  exact z2O (I.ok.hd hc) st ho hd (by lia) λh' eb=>⟨rfl,I.turned (t':=s.toks) (λb o hb e=>eb b o hb e) f0 f1 f3 f4 f5⟩
 self:=λ_ _ _ _ _ st h=>wpAny_pyIter_keyiter st h
section
variable{X:Cx}{tg:Expr}
theorem Inv.freeze{pins:List (Addr×Obj)}{σ:St}{H:Hp}{s:Shared}{a:Addr}{kvs:List (NK×V)}(I:Inv X pins σ H s)(h:H a=some (.dT kvs)):
 ∃o es ep,s.heap.get? a=some o/\o.ExactDict/\o.data= .dict es ep/\(a==sysModules)=false/\es.size=kvs.length/\Inv X pins σ (upd H a (.frz o (.dT kvs))) s:=by
 obtain⟨z,y,xs,r,o,es,ep,e,c,d,l,nd⟩:=I.hok a _ h
 have hs:es.size=xs.length:=size_of_entries l
 have hl:kvs.length=xs.length:=Paired.length r
 refine⟨o,es,ep,e,c,d,y,by lia, ?_⟩
 have tn: ∀b xs,H b=some (.tup xs)->(upd H a (.frz o (.dT kvs))) b=some (.tup xs):=λb xs q=>by
  rw[y4 (z0q q h (by intro z;cases z))];exact q
 have hw:=I.write (x:=a) (e:=a) (o:= .frz o (.dT kvs)) (h':=s.heap) (t':=s.toks) (by rw[h];trivial) (.inl rfl) (λb u _ q=>q) ⟨o,e⟩
  ⟨e,z,y,xs,Paired.mapP r λp q z=>⟨z.1,z.2.1.stay tn,z.2.2⟩,o,es,ep,e,c,d,l,nd⟩
 exact hw
end
def K5(osc sc:Scope)(own frees N:List Str)(ix:List Nat):Bool:=
 decide (sc.kind= .function)&&sc.names.all (λy=>decide (y.2≠ .cell))&&sc.names.all (λy=>decide (y.2= .local->sc.names.lookup y.1=some .local))&&
  sc.names.all (λy=>decide (y.2= .free->osc.names.lookup y.1=some .cell\/osc.names.lookup y.1=some .free))&&decide (own++frees).Nodup&&frees.all (λx=>decide (sc.names.lookup x=some .free))&&
  decide (ix.map (λi=>N[i]?)=frees.map some)
theorem K5.sc{osc sc:Scope}{own frees N:List Str}{ix:List Nat}(h:K5 osc sc own frees N ix=true):J0 osc sc own frees N ix:=by
 unfold K5 at h
 erw[b9,A4,decide_eq_true_eq] at h
 obtain⟨⟨⟨⟨⟨⟨h1,h2⟩,h3⟩,h4⟩,h5⟩,h6⟩,h7⟩:=h
 exact⟨h1,h2,h3,h4,h5,h6,h7⟩
theorem G5.new{H:Hp}{p:Addr}(o:HO)(h:H p=none):G5 H (upd H p o):=λx u e=>by rw[y4 (Q3 e h)];exact e
def zcD(H H':Hp):Prop:=(∀b xs,H b=some (.tup xs)->H' b=some (.tup xs))/\∀b o xs,H b=some (.frz o (.tup xs))->H' b=some (.frz o (.tup xs))
theorem G5.ts{H H':Hp}(h:G5 H H'):zcD H H':=⟨λb _ e=>h b _ e,λb _ _ e=>h b _ e⟩
theorem zcD.tup{K:W.Frag}{H H':Hp}(t:zcD H H'){a:Addr}{xs:List V}(h:SqT K H a xs):SqT K H' a xs:=by
 rcases h with(h|⟨o,h⟩)|h
 .exact .inl (.inl (t.1 _ _ h))
 .exact .inl (.inr ⟨o,t.2 _ _ _ h⟩)
 .exact .inr h
theorem G5.lst{K:W.Frag}{H H':Hp}(h:G5 H H'){a:Addr}{xs:List V}(s:SqL K H a xs):SqL K H' a xs:=G5.seq h s
def dT(ns:List Int):PyData:= .tuple (ns.map PyData.int)
theorem Paired.get{α β:Type}{F:α->β->Prop}: ∀{l₁:List α} {l₂:List β},Paired F l₁ l₂->∀(i:Nat) (a:α),l₁[i]? =some a->∃b,l₂[i]? =some b/\F a b
 |_,_, .nil,i,a,e=>by simp at e
 |_,_, .cons r t,0,a,e=>by simp at e;subst e;exact⟨_,rfl,r⟩
 |_,_, .cons r t,i+1,a,e=>by
  obtain⟨b,h1,h2⟩:=Paired.get t i a (by simpa using e)
  exact⟨b,by simpa using h1,h2⟩
theorem Paired.snoc{α β:Type}{F:α->β->Prop}: ∀{l₁:List α} {l₂:List β} {a:α} {b:β},Paired F l₁ l₂->F a b->Paired F (l₁++[a]) (l₂++[b])
 |_,_,_,_, .nil,h=> .cons h .nil
 |_,_,_,_, .cons r t,h=> .cons r (Paired.snoc t h)
section
variable{X:Cx}{e st:Expr}{te:TE}{p2 pos:Pos}
def zk5(K:W.Frag)(te:TE):TE:=λ σ H Q=>te σ H λx H1=> ∃a xs,x= .ref a/\SqL K H1 a xs/\∀p,H1 p=none->Q (.ref p) (upd H1 p (.lst xs.reverse))
theorem zf2(hst:PO X (some st) (z9U (tUn (rU λi=>V.int (-i)) (tC (.int 1)))))(he:PE X e te):PE X (.Subscript e (.Slice none none (some st) p2) pos) (zk5 X.K te):=by
 intro pins s σ H Q I h
 refine Subscript_ (thn (he pins s σ H _ I h) λv s1 ⟨x,H1,I1,r1,a,xs,ex,hx,q⟩=> ?_)
 subst ex
 cases r1
 refine wpAny_Slice ?_
 rw[evalPart_none]
 refine wpAny_pure (wpAny_pure ?_)
 refine thn (hst pins s1 σ H1 (λo H'=>o=some (-1)/\H'=H1) I1 ⟨1,rfl,-1,rfl,rfl,rfl⟩) λu s2 ⟨o,H2,I2,pu,eo,eH⟩=> ?_
 subst eo eH
 have I3:Inv X pins σ H2 {s2 with heap:=s2.heap.push {cls:= .type "slice",data:= .fields #[.none, .none,u]}}:=I2.kept (t':=s2.toks) λb ob q=>Heap.get?_push_of_some _ q
 obtain⟨its,r,ht,hz⟩:=I3.list hx
 have hlen:=r.length
 refine tail_any (ops:=[.ref a, .ref s2.heap.objs.size]) ht.isList.typeIs slot_list_getitem.lookup ?_ (by with_unfolding_all rfl)
 refine wpAny_getItem_list_slice ht.isList (Heap.IsSliceOf.new ..) .none .none pu (by simp) ?_ (by rw[i3]<;>lia)
 rw[W.krv_pick]
 refine⟨.ref _,_,I3.lnew (t':=s2.toks) (ys:=xs.reverse) (its:=its.reverse) (W0.reverse r) (by rw[D3];exact hz),rfl,q _ I3.fresh⟩
end
def z8b(K:W.Frag)(H:Hp)(xs:List V)(Q:VK):Prop:= ∀p H',(H'=H/\H p=some (.tup xs))\/(H p=none/\H'=upd H p (.tup xs))->Q (.ref p) H'
theorem z8b.intro{K:W.Frag}{H:Hp}{xs:List V}{Q:VK}(h: ∀p H',H' p=some (.tup xs)->G5 H H'->Q (.ref p) H'):z8b K H xs Q:=by
 intro p H' e
 rcases e with⟨rfl,s⟩|⟨n,rfl⟩
 .exact h p H' s (G5.refl _)
 .exact h p _ Z1 (G5.new _ n)
section
variable{X:Cx}
def zhL(K:W.Frag):V->Option Int->Option Int->Hp->VK->Prop:=λx lo hi H Q=> ∃a xs,x= .ref a/\H a=some (.tup xs)/\z8b K H (z80 xs lo hi) Q
theorem zcE:SlR X (zhL X.K):=by
 intro pins s σ H x v vl vu lo hi sl Q I rx hs pl pu h
 obtain⟨a,xs,rfl,hx0,q⟩:=h
 have hx:SqT X.K H a xs:=SqT.of hx0
 by_cases hw:HT.sIx xs.length 0 lo=0/\HT.sIx xs.length xs.length hi=xs.length
 .cases rx
  obtain⟨its,r,ht,hz⟩:=I.tuple hx
  have hlen:its.toArray.size=xs.length:=by rw[i3];exact r.length.symm
  refine⟨"tuple",_,PyProof.Rows.slot_tuple_getitem.lookup,ht.typeIs, ?_⟩
  refine HT.getItem_tuple_whole ht hs pl pu (by rw[hlen];exact hw) ⟨.ref a,H,I,rfl,q a H (.inl ⟨rfl, ?_⟩)⟩
  rw[z6W hw]
  exact hx0
 .exact zeO pins s σ H _ v vl vu lo hi sl Q I rx hs pl pu ⟨a,xs,rfl,hx,hw,λp hp=>q p _ (.inr ⟨hp,rfl⟩)⟩
def z8c(K:W.Frag):R2:=λx y H Q=> ∃a b xs ys,x= .ref a/\y= .ref b/\H a=some (.tup xs)/\H b=some (.tup ys)/\xs.length+ys.length<=sizeLine/\z8b K H (xs++ys) Q
theorem z29:OpR X (binaryOp .Add) (z8c X.K):=by
 intro pins s σ H x y v u Q I rx ry h
 obtain⟨a,b,xs,ys,rfl,rfl,ha0,hb0,hz,q⟩:=h
 have ha:SqT X.K H a xs:=SqT.of ha0
 have hb:SqT X.K H b ys:=SqT.of hb0
 by_cases hx:xs=[]
 .subst hx
  cases rx
  cases ry
  obtain⟨its,r1,p1,_⟩:=I.tuple ha
  obtain⟨its2,r2,p2,_⟩:=I.tuple hb
  have e0:its=[]:=(W0.nil_iff r1).mpr rfl
  subst e0
  obtain⟨⟨cls,dd,data,sl⟩,ho,hc,n,hd⟩:=id p1
  obtain⟨⟨cls2,dd2,data2,sl2⟩,ho2,hc2,n2,hd2⟩:=id p2
  simp only at hc hd hc2 hd2
  subst hc hd hc2 hd2
  exact concat_meets ⟨_,ho,rfl⟩ ⟨_,ho2,rfl⟩ noFill_tuple_add seq_tuple_add PySem.F.slot_tuple_add PySem.F.entry_tuple_add (PySem.F.args_tuple_add_2 _ _)
   (tuple_addW0 a b _ _ n n2 dd dd2 sl sl2 (by simp)) ⟨ho,ho2, .ref b,H,I,rfl,q b H (.inl ⟨rfl,hb0⟩)⟩
 .refine zcq pins s σ H _ _ v u Q I rx ry ⟨a,b,xs,ys,rfl,rfl,ha,hb,hx,hz,λe=> ?_,λ_ p hp=>q p _ (.inr ⟨hp,rfl⟩)⟩
  refine q a H (.inl ⟨rfl, ?_⟩)
  rw[e,e7]
  exact ha0
theorem z8d:CallR X (.type "tuple") (λxs H Q=> ∃(p:Addr) (ys:List V),xs=[.ref p]/\(SqL X.K H p ys\/H p=some (.tup ys))/\z8b X.K H ys Q):=by
 intro pins s σ H xs us Q I r h
 obtain⟨p,ys,rfl,hs,q⟩:=h
 refine z3l pins s σ H _ us Q I r ⟨p,ys,rfl, ?_⟩
 rcases hs with hs|hs
 .exact .inl ⟨hs,λl hl=>q l _ (.inr ⟨hl,rfl⟩)⟩
 .exact .inr ⟨SqT.of hs,q p H (.inl ⟨rfl,hs⟩)⟩
end
end L2
namespace PyProof.Rows
open PySem
section
variable{prog:Program}{w:World}{A:Around}{E:Value->Shared->Prop}{s:Shared}
theorem z2a{h h':Heap}{t:Addr}{items:Array Value}(hl:h.IsList t items)(k: ∀o,h.get? t=some o->h'.get? t=some o):h'.IsList t items:=by
 obtain⟨o,ho,hc,n,hd⟩:=hl
 exact⟨o,k o ho,hc,n,hd⟩
theorem z4j{it t:Addr}{items:Array Value}(hne:t≠it): ∀(n i:Nat) (s:Shared) (Q:List Value->Shared->Prop),s.heap.IsListIter it t i->s.heap.IsList t items->i+n<=items.size->
 (∀h',h'.IsListIter it t (i+n)->Heap.SameBut it s.heap h'->Q ((items.toList.drop i).take n) {s with heap:=h'})->wpAny (model prog w) A (draw (.ref it) n) Q E s
 |0,i,s,Q,hit,_,_,hQ=>by
  show wpAny _ _ (pure []) Q E s
  exact wpAny_pure (by simpa using hQ s.heap hit (Heap.SameBut.refl ..))
 |n+1,i,s,Q,hit,ht,hle,hQ=>by
  have hlt:i<items.size:=by lia
  show wpAny _ _ (pyNext (.ref it)>>=_) Q E s
  refine wpAny_bind (wpAny_pyNext_list_item hit ht (x:=items[i]) (by simp[hlt]) λh₁ hit₁ hs₁=> ?_)
  refine wpAny_bind (wpAny_holding (z4j hne n (i+1) _ _ hit₁ (z2a ht λo e=>(hs₁.2 t hne).trans e) (by lia) λh₂ hit₂ hs₂=>wpAny_pure ?_))
  have hd:items.toList.drop i=items[i]::items.toList.drop (i+1):=by simp[L4,hlt]
  have:=hQ h₂ (by rw[show i+(n+1)=i+1+n by lia];exact hit₂) (hs₁.trans hs₂)
  rw[hd,D4] at this
  exact this
theorem z1I{t:Addr}{items:Array Value}{Q:List Value->Shared->Prop}(hh:A.handled=none)(ht:s.heap.IsList t items)
 (hQ: ∀h',Heap.ExtBut s.heap.objs.size s.heap h'->Q items.toList {s with heap:=h'}):wpAny (model prog w) A (unpackItems (.ref t) items.size none) Q E s:=by
 have hlt:t≠s.heap.objs.size:=by obtain⟨o,ho,_⟩:=ht;exact l8 (Heap.lt_size ho)
 have hT:s.TypeIs (.ref t) "list" :=by obtain⟨o,ho,hc,_⟩:=ht;exact⟨o,ho,hc⟩
 unfold unpackItems
 refine wpAny_bind ?_
 .unfold notIterableAtAll
  refine wpAny_bind (wpAny_specialOf hT PySem.F.slot_list_iter.lookup ?_)
  refine wpAny_pure ?_
  erw[i8,if_false]
  refine wpAny_bind (wpAny_holding (wpAny_pyIter_list ht ?_))
  refine wpAny_bind (wpAny_holding (z4j hlt items.size 0 _ _ ⟨_,Heap.get?_push_size _ rfl,rfl,rfl⟩ (z2a ht λo e=>Heap.get?_push_of_some _ e) (by lia) λh₁ hit₁ hs₁=> ?_))
  have hall:List.take items.size (List.drop 0 items.toList)=items.toList:=by
   rw[F9];exact C3 (by simp)
  rw[hall]
  rw[if_neg (by simp)]
  have ht₁:h₁.IsList t items:=z2a ht λo e=>(hs₁.2 t hlt).trans (Heap.get?_push_of_some _ e)
  refine wpAny_bind (wpAny_holding (wpAny_pyNext_list_end hh hit₁ ht₁ (by simp) λh₂ he₂=> ?_))
  erw[Option.isSome_none,i8,if_false]
  refine wpAny_pure (hQ h₂ λb o hb e=>he₂ b o hb (hs₁.extBut b o hb (Heap.get?_push_of_some _ e)))
theorem z1j{env:Env}{elts:List Expr}{x1}{pos:Pos}{t:Addr}{items:Array Value}{Q:Unit->Shared->Prop}(hh:A.handled=none)(ht:s.heap.IsList t items)
 (hn:(assignEach elts env).length=items.size) (hstar:(assignEach elts env).findIdx? (·.1)=none)
 (h: ∀h',Heap.ExtBut s.heap.objs.size s.heap h'->wpAny (model prog w) A (assignInOrder ((assignEach elts env).map (·.2)) items.toList) Q E {s with heap:=h'}):
 wpAny (model prog w) A (assign (.Tuple elts x1 pos) env (.ref t)) Q E s:=by
 rw[assign_Tuple]
 refine wpAny_bind (wpAny_standAt ?_)
 unfold unpack
 rw[hn,hstar]
 exact wpAny_bind (wpAny_holding (z1I hh ht h))
end
end PyProof.Rows
namespace L2
open PySem PySem.Spec PyProof.Rows
section
variable{X:Cx}{pos:Pos}
def zk6(K:W.Frag)(n:Nat)(t:TGs):TG:=λv σ H Q=> ∃a xs,v= .ref a/\(SqT K H a xs\/SqL K H a xs)/\xs.length=n/\t xs σ H Q
theorem zf3{es:List Expr}{k:Nat}{t:TGs}{n:Nat}(hc:X.calm=true)(h:PGs X es t)
 (hn:(assignEach es X.env).length=n:=by rfl) (hst:(assignEach es X.env).findIdx? (·.1)=none:=by rfl):PG X (.Tuple es k pos) (zk6 X.K n t):=by
 intro pins s σ H v u Q I r hw
 obtain⟨a,xs,e1,hq|hq,hl,hw⟩:=hw
 .exact zbf hc h hn hst pins s σ H v u Q I r ⟨a,xs,e1,hq,hl,hw⟩
 .subst e1
  cases r
  obtain⟨its,rv,ht,hz⟩:=I.list hq
  refine z1j (I.ok.hd hc) ht.isList (by simp[hn,<-hl,rv.length]) hst λh' hx=> ?_
  have I1:Inv X pins σ H {s with heap:=h'}:=I.kept (t':=s.toks) λb o e=>hx b o (l8 (Heap.lt_size e)) e
  exact h pins _ σ H xs _ Q I1 (by simpa using rv) hw
end
theorem z1J:fillsNumberSlot (.type "tuple") "mul" =pure false:=
 PySem.fillsNumberSlot_seq (id:= "tuple.__mul__") (r:=some (.builtin "tuple.__rmul__")) F.slot_tuple_mul.lookup (by decide+kernel) F.slot_tuple_rmul.lookup (by decide+kernel)
theorem z4k:seqRepeat? (.type "tuple")=pure (some (.builtin "tuple.__mul__")):=by
 unfold seqRepeat?
 rw[PySem.seqSlot_of (T:= "tuple") (name:= "__mul__") (id:= "tuple.__mul__") F.slot_tuple_mul.lookup (by decide+kernel),PySem.seqSlot_of (T:= "tuple") (name:= "__rmul__") (id:= "tuple.__rmul__") F.slot_tuple_rmul.lookup (by decide+kernel)]
 rfl
theorem z2P(a:Int)(t:Tok)(l:Addr)(items:Array Value)(n:Nat)(dd:Option Addr)(sl:Array (Option Value)):
 Meets (Builtin.«int.__rmul__» ⟨[.int a t, .ref l],[]⟩) (λ_ R s=>s.heap.get? l=some {cls:= .type "tuple",dict:=dd,data:= .seq items n,slots:=sl}/\R (.ok (.ret Value.notImplemented)) s):=
 .of_wp λprog w A R s h=>by obtain⟨hp,g,d,tk,os⟩:=s;obtain⟨hl,h⟩:=h;wp_walk;exact⟨_,rfl,h⟩
theorem z6Z(l:Addr)(items:Array Value)(n:Nat)(dd:Option Addr)(sl:Array (Option Value))(x:Int)(u:Tok)(hc0: ¬(decide (x< -(2^63))||decide (x≥2^63))=true)(hc1: ¬(items.isEmpty||x==1)=true)(hc2: ¬(decide (x<=0)||items.isEmpty)=true)(hc3: ¬((items.size:Int)*x>(2^63 - 1)/8))(hc4: ¬Builtin.Tuple.tupleTooMany ((items.size:Int)*x)=true)(hsz:(F8 (λx1 x2=>x1++x2) #[] (e8 x.toNat items)).size<=sizeLine):
 Meets (Builtin.«tuple.__mul__» ⟨[.ref l, .int x u],[]⟩) (λ_ R s=>s.heap.get? l=some {cls:= .type "tuple",dict:=dd,data:= .seq items n,slots:=sl}/\R (.ok (.ret (Value.ref s.heap.objs.size))) {s with heap:=s.heap.push {cls:=Value.type "tuple",data:=Data.seq (F8 (λx1 x2=>x1++x2) #[] (e8 x.toNat items))},toks:=s.toks}):=
 .of_wp λprog w A R s h=>by
  obtain⟨hp,g,d,tk,os⟩:=s;obtain⟨hl,h⟩:=h
  have f1:=AutoSeq1.idx_int;have f2:=AutoSeq1.sub_tuple_tuple
  wp_walk using AutoSeq1.wpAny_loadPart' hl
  rw[if_neg hc0]
  wp_walk using AutoSeq1.wpAny_loadPart' hl
  rw[if_neg hc3]
  wp_walk using AutoSeq1.wpAny_loadPart' hl
  exact⟨_,rfl,h⟩
section
variable{X:Cx}
def zcF(K:W.Frag):R2:=λx y H Q=> ∃a k xs,x= .ref a/\y= .int k/\SqT K H a xs/\0<xs.length/\2<=k/\k<2^63/\xs.length*k.toNat<=sizeLine/\
 ∀p,H p=none->Q (.ref p) (upd H p (.tup (e8 k.toNat xs).flatten))
theorem zcG:OpR X (binaryOp .Mult) (zcF X.K):=by
 intro pins s σ H x y v u Q I rx ry h
 obtain⟨a,k,xs,rfl,rfl,ha,h0,h1,h2,hz,q⟩:=h
 cases rx
 obtain⟨t,rfl⟩:=ry
 obtain⟨its,r,p1,_⟩:=I.tuple ha
 obtain⟨⟨cls,dd,data,sl⟩,e,hc,n,hd⟩:=id p1
 simp only at hc hd
 subst hc hd
 have hlen:its.length=xs.length:=r.length.symm
 have hne:its.toArray.isEmpty=false:=by
  cases its with
  |nil=>simp at hlen;lia
  |cons a r=>simp
 have hnew:F8 (λx1 x2=>x1++x2) #[] (e8 k.toNat its.toArray)=(e8 k.toNat its).flatten.toArray:=by
  have:=z22 its k.toNat []
  rw[m5] at this
  exact this
 have hl2:((its.toArray.size:Nat):Int)*k=((xs.length*k.toNat:Nat):Int):=by
  rw[i3,hlen,Int.natCast_mul,Int.toNat_of_nonneg (by lia)]
 have hs:(sizeLine:Nat)=16777216:=rfl
 refine wpAny_binaryOp_repeat_ref (T:= "tuple") (U:= "int") (by decide) ⟨_,e,rfl⟩ (λs'=>typeIs_int s' k t) z1J F.fills_int_mul F.slot_int_rmul z4k F.slot_int_index.lookup
  (call_meets F.slot_int_rmul (typeIs_int s k t) F.entry_int_rmul (F.args_int_rmul_2 _ _) (z2P k t a its.toArray n dd sl)
   ⟨e,rfl,⟨_,e,rfl⟩,call_meets F.slot_tuple_mul ⟨_,e,rfl⟩ F.entry_tuple_mul (F.args_tuple_mul_2 _ _) (z6Z a its.toArray n dd sl k t (by simp;lia) (by rw[hne];simp;lia) (by rw[hne];simp;lia) (by rw[hl2];clear hl2;generalize xs.length*k.toNat=m at hz⊢;lia) (by rw[hl2];clear hl2;generalize xs.length*k.toNat=m at hz⊢;unfold Builtin.Tuple.tupleTooMany;rw[decide_eq_true_eq];lia) (by rw[hnew,i3,z5a,hlen,O0];exact hz)) ⟨e, ?_⟩⟩)
 rw[hnew]
 refine⟨.ref s.heap.objs.size,_,I.laid (t':=s.toks) (o:= .tup (e8 k.toNat xs).flatten) (λb ob q=>Heap.get?_push_of_some _ q) (c6 _) ?_,rfl,q _ (I.hok.fresh (c6 _))⟩
 exact⟨by rw[z5a,O0];exact hz,_,r.rep k.toNat,IsTup.new _ _⟩
end
end L2
namespace Mi
open PySem L2
inductive D where
 |non|bool (b:Bool)|int (i:Int)|str (x:Str)
 |tup (ds:List D)|ro (ds:List D)|lst (l:Nat) (ds:List D)
 |dct (l:Nat) (ks vs:List D)|obj (l:Nat) (c:Str) (ns:List Str) (vs:List D)
 |exc (c:Str)|fn (c:Str)|fdc (ks vs:List D)
deriving Inhabited
mutual
def y3:D->List Nat
 | .tup ds=>labsL ds
 | .ro ds=>labsL ds
 | .fdc _ vs=>labsL vs
 | .lst l ds=>l::labsL ds
 | .dct l ks vs=>l::(labsL ks++labsL vs)
 | .obj l _ _ vs=>l::labsL vs
 | .non=>[]| .bool _=>[]| .int _=>[]| .str _=>[]| .exc _=>[]| .fn _=>[]
def labsL:List D->List Nat
 |[]=>[]
 |d::ds=>y3 d++labsL ds
end
def Z5:List (Option D)->List Nat
 |[]=>[]
 |none::r=>Z5 r
 |some d::r=>y3 d++Z5 r
structure Gx where
 K:W.Frag
 cl:Str->Option Addr
 ci: ∀c c' a,cl c=some a->cl c'=some a->c=c'
 ck: ∀c a,cl c=some a->∃o,K.lookup a=some o/\∀its n,o.data≠ .seq its n
def z41:Key->D
 | .inl i=> .int i
 | .inr x=> .str x
def nkD:Key⊕List Key->D
 | .inl k=>z41 k
 | .inr ks=> .tup (ks.map z41)
def dkD(k:NK):D:= .tup (k.map nkD)
def RoL(K:W.Frag)(H:Hp)(a:Addr)(xs:List V):Prop:=
 (∃o,H a=some (.frz o (.lst xs)))\/∃(o:Obj) (its:Array Value) (n:Nat),K.lookup a=some o/\o.cls= .type "list" /\o.dict=none/\o.data= .seq its n/\its.size<=sizeLine/\W0 xs its.toList
theorem RoL.sq{K:W.Frag}{H:Hp}{a:Addr}{xs:List V}(h:RoL K H a xs):SqL K H a xs:=by
 rcases h with⟨o,h⟩|h
 .exact .inl (.inr ⟨o,h⟩)
 .exact .inr h
mutual
def RD(G:Gx)(ρ:Nat->Addr)(H:Hp):D->V->Prop
 | .non,v=>v= .non
 | .bool b,v=>v= .bl b
 | .int i,v=>v= .int i
 | .str x,v=>v= .str x
 | .exc c,v=> ∃a o C,v= .ref a/\G.cl c=some C/\o.cls= .ref C/\(∃vs,o.data= .fields vs)/\H a=some (.frz o (.ext λ_=>True))
 | .fn c,v=> ∃a,v= .ref a/\G.cl c=some a
 | .tup ds,v=> ∃a xs,v= .ref a/\H a=some (.tup xs)/\RDs G ρ H ds xs
 | .ro ds,v=> ∃a xs,v= .ref a/\RoL G.K H a xs/\RDs G ρ H ds xs
 | .fdc ks vs,v=> ∃(a:Addr) (o:Obj) (kvs:List (NK×V)),v= .ref a/\H a=some (.frz o (.dT kvs))/\ks=kvs.map (λp=>dkD p.1)/\RDs G ρ H vs (kvs.map (·.2))
 | .lst l ds,v=>v= .ref (ρ l)/\∃xs,H (ρ l)=some (.lst xs)/\RDs G ρ H ds xs
 | .dct l ks vs,v=>v= .ref (ρ l)/\((∃kvs:List (Key×V),H (ρ l)=some (.dK kvs)/\ks=D.non::kvs.map (λp=>z41 p.1)/\RDs G ρ H vs (kvs.map (·.2)))\/
  (∃kvs:List (NK×V),H (ρ l)=some (.dT kvs)/\ks=kvs.map (λp=>dkD p.1)/\RDs G ρ H vs (kvs.map (·.2))))
 | .obj l c ns vs,v=>v= .ref (ρ l)/\∃C dx fs,G.cl c=some C/\H (ρ l)=some (.ins C dx fs)/\ns=fs.map (·.1)/\RDs G ρ H vs (fs.map (·.2))
def RDs(G:Gx)(ρ:Nat->Addr)(H:Hp):List D->List V->Prop
 |[],xs=>xs=[]
 |d::ds,xs=> ∃x r,xs=x::r/\RD G ρ H d x/\RDs G ρ H ds r
end
structure J5(H H':Hp):Prop where
 t: ∀b xs,H b=some (.tup xs)->H' b=some (.tup xs)
 f: ∀b o u,H b=some (.frz o u)->H' b=some (.frz o u)
theorem J5.refl(H:Hp):J5 H H:=⟨λ_ _ h=>h,λ_ _ _ h=>h⟩
theorem J5.of{H H':Hp}(h:G5 H H'):J5 H H':=⟨λ_ _ e=>h _ _ e,λ_ _ _ e=>h _ _ e⟩
theorem J5.ro{K:W.Frag}{H H':Hp}(t:J5 H H'){a:Addr}{xs:List V}(h:RoL K H a xs):RoL K H' a xs:=by
 rcases h with⟨o,h⟩|h
 .exact .inl ⟨o,t.f _ _ _ h⟩
 .exact .inr h
section
variable{G:Gx}{ρ ρ':Nat->Addr}{H H':Hp}
mutual
theorem RD.stay(ts:J5 H H'): ∀(t:D) (v:V),RD G ρ H t v->(∀l∈y3 t,ρ' l=ρ l/\∀o,H (ρ l)=some o->H' (ρ l)=some o)->RD G ρ' H' t v
 | .non,v,h,_=>by erw[RD] at h⊢;exact h
 | .bool b,v,h,_=>by erw[RD] at h⊢;exact h
 | .int b,v,h,_=>by erw[RD] at h⊢;exact h
 | .str b,v,h,_=>by erw[RD] at h⊢;exact h
 | .exc b,v,h,_=>by
  erw[RD] at h⊢
  obtain⟨a,o,C,e,h1,h2,h3,h5⟩:=h
  exact⟨a,o,C,e,h1,h2,h3,ts.f _ _ _ h5⟩
 | .fn b,v,h,_=>by erw[RD] at h⊢;exact h
 | .tup ds,v,h,hl=>by
  erw[RD,y3] at h hl⊢
  obtain⟨a,xs,e,s,r⟩:=h
  exact⟨a,xs,e,ts.t _ _ s,RDs.stay ts ds xs r hl⟩
 | .ro ds,v,h,hl=>by
  erw[RD,y3] at h hl⊢
  obtain⟨a,xs,e,s,r⟩:=h
  exact⟨a,xs,e,ts.ro s,RDs.stay ts ds xs r hl⟩
 | .fdc ks vs,v,h,hl=>by
  erw[RD,y3] at h hl⊢
  obtain⟨a,o,kvs,e,s,s2,r⟩:=h
  exact⟨a,o,kvs,e,ts.f _ _ _ s,s2,RDs.stay ts vs _ r hl⟩
 | .lst l ds,v,h,hl=>by
  erw[RD,y3] at h hl⊢
  obtain⟨e,xs,s,r⟩:=h
  obtain⟨e1,e2⟩:=hl l (e9 ..)
  rw[e1]
  exact⟨e,xs,e2 _ s,RDs.stay ts ds xs r λk hk=>hl k (b7 _ hk)⟩
 | .dct l ks vs,v,h,hl=>by
  erw[RD,y3] at h hl⊢
  obtain⟨e,s⟩:=h
  obtain⟨e1,e2⟩:=hl l (e9 ..)
  rw[e1]
  refine⟨e, ?_⟩
  rcases s with⟨kvs,s,s2,r⟩|⟨kvs,s,s2,r⟩
  .exact .inl ⟨kvs,e2 _ s,s2,RDs.stay ts vs _ r λk hk=>hl k (b7 _ (b6 _ hk))⟩
  .exact .inr ⟨kvs,e2 _ s,s2,RDs.stay ts vs _ r λk hk=>hl k (b7 _ (b6 _ hk))⟩
 | .obj l c ns vs,v,h,hl=>by
  erw[RD,y3] at h hl⊢
  obtain⟨e,C,dx,fs,hC,s,s2,r⟩:=h
  obtain⟨e1,e2⟩:=hl l (e9 ..)
  rw[e1]
  exact⟨e,C,dx,fs,hC,e2 _ s,s2,RDs.stay ts vs _ r λk hk=>hl k (b7 _ hk)⟩
theorem RDs.stay(ts:J5 H H'): ∀(t:List D) (v:List V),RDs G ρ H t v->(∀l∈labsL t,ρ' l=ρ l/\∀o,H (ρ l)=some o->H' (ρ l)=some o)->RDs G ρ' H' t v
 |[],v,h,_=>by erw[RDs] at h⊢;exact h
 |d::ds,v,h,hl=>by
  erw[RDs,labsL] at h hl⊢
  obtain⟨x,r,e,h1,h2⟩:=h
  exact⟨x,r,e,RD.stay ts d x h1 λl hk=>hl l (b8 _ hk),RDs.stay ts ds r h2 λl hk=>hl l (b6 _ hk)⟩
end
end
mutual
def rp(f:Nat->Option D):D->D
 | .tup ds=> .tup (rpL f ds)
 | .ro ds=> .ro (rpL f ds)
 | .fdc ks vs=> .fdc ks (rpL f vs)
 | .lst l ds=>match f l with|some d=>d|none=> .lst l (rpL f ds)
 | .dct l ks vs=>match f l with|some d=>d|none=> .dct l ks (rpL f vs)
 | .obj l c ns vs=>match f l with|some d=>d|none=> .obj l c ns (rpL f vs)
 | .non=> .non| .bool b=> .bool b| .int i=> .int i| .str x=> .str x| .exc x=> .exc x| .fn x=> .fn x
def rpL(f:Nat->Option D):List D->List D
 |[]=>[]
 |d::ds=>rp f d::rpL f ds
end
def rpO(f:Nat->Option D):List (Option D)->List (Option D)
 |[]=>[]
 |none::r=>none::rpO f r
 |some d::r=>some (rp f d)::rpO f r
section
variable{f:Nat->Option D}
mutual
theorem z3o: ∀t:D,(∀l∈y3 t,f l=none)->rp f t=t
 | .non,_=>rfl
 | .bool b,_=>rfl
 | .int b,_=>rfl
 | .str b,_=>rfl
 | .exc b,_=>rfl
 | .fn b,_=>rfl
 | .tup ds,h=>by erw[rp,y3] at h⊢;rw[rpL_id ds h]
 | .ro ds,h=>by erw[rp,y3] at h⊢;rw[rpL_id ds h]
 | .fdc ks vs,h=>by erw[rp,y3] at h⊢;rw[rpL_id vs h]
 | .lst l ds,h=>by
  erw[rp,y3] at h⊢
  rw[h l (e9 ..),rpL_id ds λk hk=>h k (b7 _ hk)]
 | .dct l ks vs,h=>by
  erw[rp,y3] at h⊢
  rw[h l (e9 ..),rpL_id vs λk hk=>h k (b7 _ (b6 _ hk))]
 | .obj l c ns vs,h=>by
  erw[rp,y3] at h⊢
  rw[h l (e9 ..),rpL_id vs λk hk=>h k (b7 _ hk)]
theorem rpL_id: ∀t:List D,(∀l∈labsL t,f l=none)->rpL f t=t
 |[],_=>rfl
 |d::ds,h=>by
  erw[rpL,labsL] at h⊢
  rw[z3o d λl hk=>h l (b8 _ hk),rpL_id ds λl hk=>h l (b6 _ hk)]
end
theorem z8e: ∀t:List (Option D),(∀l∈Z5 t,f l=none)->rpO f t=t
 |[],_=>rfl
 |none::r,h=>by erw[rpO,Z5] at h⊢;rw[z8e r h]
 |some d::r,h=>by
  erw[rpO,Z5] at h⊢
  rw[z3o d λl hk=>h l (b8 _ hk),z8e r λl hk=>h l (b6 _ hk)]
end
section
variable{G:Gx}{ρ ρ':Nat->Addr}{H H':Hp}{f:Nat->Option D}
mutual
theorem RD.rp(ts:J5 H H'): ∀(t:D) (v:V),RD G ρ H t v->(∀l∈y3 t,ρ' l=ρ l/\(match f l with|some d=>RD G ρ' H' d (.ref (ρ l))|none=> ∀o,H (ρ l)=some o->H' (ρ l)=some o))->RD G ρ' H' (rp f t) v
 | .non,v,h,_=>by erw[Mi.rp,RD] at h⊢;exact h
 | .bool b,v,h,_=>by erw[Mi.rp,RD] at h⊢;exact h
 | .int b,v,h,_=>by erw[Mi.rp,RD] at h⊢;exact h
 | .str b,v,h,_=>by erw[Mi.rp,RD] at h⊢;exact h
 | .exc b,v,h,_=>by
  erw[Mi.rp,RD] at h⊢
  obtain⟨a,o,C,e,h1,h2,h3,h5⟩:=h
  exact⟨a,o,C,e,h1,h2,h3,ts.f _ _ _ h5⟩
 | .fn b,v,h,_=>by erw[Mi.rp,RD] at h⊢;exact h
 | .tup ds,v,h,hl=>by
  erw[Mi.rp,RD,y3] at h hl⊢
  obtain⟨a,xs,e,s,r⟩:=h
  exact⟨a,xs,e,ts.t _ _ s,RDs.rp ts ds xs r hl⟩
 | .ro ds,v,h,hl=>by
  erw[Mi.rp,RD,y3] at h hl⊢
  obtain⟨a,xs,e,s,r⟩:=h
  exact⟨a,xs,e,ts.ro s,RDs.rp ts ds xs r hl⟩
 | .fdc ks vs,v,h,hl=>by
  erw[Mi.rp,RD,y3] at h hl⊢
  obtain⟨a,o,kvs,e,s,s2,r⟩:=h
  exact⟨a,o,kvs,e,ts.f _ _ _ s,s2,RDs.rp ts vs _ r hl⟩
 | .lst l ds,v,h,hl=>by
  erw[Mi.rp,RD,y3] at h hl⊢
  obtain⟨e,xs,s,r⟩:=h
  obtain⟨e1,e2⟩:=hl l (e9 ..)
  cases ef:f l with
  |some d=>rw[ef] at e2;subst e;exact e2
  |none=>
   rw[ef] at e2
   erw[RD]
   rw[e1]
   exact⟨e,xs,e2 _ s,RDs.rp ts ds xs r λk hk=>hl k (b7 _ hk)⟩
 | .dct l ks vs,v,h,hl=>by
  erw[Mi.rp,RD,y3] at h hl⊢
  obtain⟨e,s⟩:=h
  obtain⟨e1,e2⟩:=hl l (e9 ..)
  cases ef:f l with
  |some d=>rw[ef] at e2;subst e;exact e2
  |none=>
   rw[ef] at e2
   erw[RD]
   rw[e1]
   refine⟨e, ?_⟩
   rcases s with⟨kvs,s,s2,r⟩|⟨kvs,s,s2,r⟩
   .exact .inl ⟨kvs,e2 _ s,s2,RDs.rp ts vs _ r λk hk=>hl k (b7 _ (b6 _ hk))⟩
   .exact .inr ⟨kvs,e2 _ s,s2,RDs.rp ts vs _ r λk hk=>hl k (b7 _ (b6 _ hk))⟩
 | .obj l c ns vs,v,h,hl=>by
  erw[Mi.rp,RD,y3] at h hl⊢
  obtain⟨e,C,dx,fs,hC,s,s2,r⟩:=h
  obtain⟨e1,e2⟩:=hl l (e9 ..)
  cases ef:f l with
  |some d=>rw[ef] at e2;subst e;exact e2
  |none=>
   rw[ef] at e2
   erw[RD]
   rw[e1]
   exact⟨e,C,dx,fs,hC,e2 _ s,s2,RDs.rp ts vs _ r λk hk=>hl k (b7 _ hk)⟩
theorem RDs.rp(ts:J5 H H'): ∀(t:List D) (v:List V),RDs G ρ H t v->(∀l∈labsL t,ρ' l=ρ l/\(match f l with|some d=>RD G ρ' H' d (.ref (ρ l))|none=> ∀o,H (ρ l)=some o->H' (ρ l)=some o))->RDs G ρ' H' (rpL f t) v
 |[],v,h,_=>by erw[rpL,RDs] at h⊢;exact h
 |d::ds,v,h,hl=>by
  erw[rpL,RDs,labsL] at h hl⊢
  obtain⟨x,r,e,h1,h2⟩:=h
  exact⟨x,r,e,RD.rp ts d x h1 λl hk=>hl l (b8 _ hk),RDs.rp ts ds r h2 λl hk=>hl l (b6 _ hk)⟩
end
end
section
variable{f:Nat->Option D}
mutual
theorem z8f(l:Nat): ∀t:D,l∈y3 (rp f t)->l∈y3 t\/∃k d,k∈y3 t/\f k=some d/\l∈y3 d
 | .non,h=>by erw[rp,y3] at h;cases h
 | .bool b,h=>by erw[rp,y3] at h;cases h
 | .int b,h=>by erw[rp,y3] at h;cases h
 | .str b,h=>by erw[rp,y3] at h;cases h
 | .exc b,h=>by erw[rp,y3] at h;cases h
 | .fn b,h=>by erw[rp,y3] at h;cases h
 | .tup ds,h=>by
  erw[rp,y3] at h⊢
  exact labsL_rp l ds h
 | .ro ds,h=>by
  erw[rp,y3] at h⊢
  exact labsL_rp l ds h
 | .fdc ks vs,h=>by
  erw[rp,y3] at h⊢
  exact labsL_rp l vs h
 | .lst k ds,h=>by
  erw[rp] at h
  cases e:f k with
  |some d=>rw[e] at h;exact .inr ⟨k,d,by erw[y3];exact e9 ..,e,h⟩
  |none=>
   rw[e] at h
   erw[y3] at h⊢
   rcases c9.mp h with h|h
   .exact .inl (c9.mpr (.inl h))
   .rcases labsL_rp l ds h with q|⟨k',d,q1,q2,q3⟩
    .exact .inl (b7 _ q)
    .exact .inr ⟨k',d,b7 _ q1,q2,q3⟩
 | .dct k ks vs,h=>by
  erw[rp] at h
  cases e:f k with
  |some d=>rw[e] at h;exact .inr ⟨k,d,by erw[y3];exact e9 ..,e,h⟩
  |none=>
   rw[e] at h
   erw[y3] at h⊢
   rcases c9.mp h with h|h
   .exact .inl (c9.mpr (.inl h))
   .rcases c7.mp h with h|h
    .exact .inl (b7 _ (b8 _ h))
    .rcases labsL_rp l vs h with q|⟨k',d,q1,q2,q3⟩
     .exact .inl (b7 _ (b6 _ q))
     .exact .inr ⟨k',d,b7 _ (b6 _ q1),q2,q3⟩
 | .obj k c ns vs,h=>by
  erw[rp] at h
  cases e:f k with
  |some d=>rw[e] at h;exact .inr ⟨k,d,by erw[y3];exact e9 ..,e,h⟩
  |none=>
   rw[e] at h
   erw[y3] at h⊢
   rcases c9.mp h with h|h
   .exact .inl (c9.mpr (.inl h))
   .rcases labsL_rp l vs h with q|⟨k',d,q1,q2,q3⟩
    .exact .inl (b7 _ q)
    .exact .inr ⟨k',d,b7 _ q1,q2,q3⟩
theorem labsL_rp(l:Nat): ∀t:List D,l∈labsL (rpL f t)->l∈labsL t\/∃k d,k∈labsL t/\f k=some d/\l∈y3 d
 |[],h=>by erw[rpL,labsL] at h;cases h
 |d::ds,h=>by
  erw[rpL,labsL] at h⊢
  rcases c7.mp h with h|h
  .rcases z8f l d h with q|⟨k',d,q1,q2,q3⟩
   .exact .inl (b8 _ q)
   .exact .inr ⟨k',d,b8 _ q1,q2,q3⟩
  .rcases labsL_rp l ds h with q|⟨k',d,q1,q2,q3⟩
   .exact .inl (b6 _ q)
   .exact .inr ⟨k',d,b6 _ q1,q2,q3⟩
end
theorem z1Q(l:Nat): ∀t:List (Option D),l∈Z5 (rpO f t)->l∈Z5 t\/∃k d,k∈Z5 t/\f k=some d/\l∈y3 d
 |[],h=>by erw[rpO,Z5] at h;cases h
 |none::r,h=>by erw[rpO,Z5] at h⊢;exact z1Q l r h
 |some d::ds,h=>by
  erw[rpO,Z5] at h⊢
  rcases c7.mp h with h|h
  .rcases z8f l d h with q|⟨k',d,q1,q2,q3⟩
   .exact .inl (b8 _ q)
   .exact .inr ⟨k',d,b8 _ q1,q2,q3⟩
  .rcases z1Q l ds h with q|⟨k',d,q1,q2,q3⟩
   .exact .inl (b6 _ q)
   .exact .inr ⟨k',d,b6 _ q1,q2,q3⟩
end
structure Stt where
 σ:List (Option D)
 tm:List (Option D)
 n:Nat
structure Fx where
 A0:Addr->Prop
 H0:Hp
 Z:Addr->Prop
 zA: ∀a,Z a->(∃o,H0 a=some o)/\¬A0 a
 aH: ∀a,A0 a->∃o,H0 a=some o
 n0:Nat
 ρ0:Nat->Addr
def KD(K:W.Frag)(H:Hp):Prop:= ∀a o,K.lookup a=some o->H a=none
section
variable(G:Gx)(ρ:Nat->Addr)(H:Hp)
def Sl:List (Option D)->List (Option V)->Prop
 |[],vs=>vs=[]
 |none::r,vs=> ∃o q,vs=o::q/\Sl r q
 |some d::r,vs=> ∃v q,vs=some v::q/\RD G ρ H d v/\Sl r q
end
def Q8(s:Stt):List Nat:=Z5 s.σ++Z5 s.tm
structure MR(G:Gx)(F:Fx)(ρ:Nat->Addr)(H:Hp)(σv tv:List (Option V))(s:Stt):Prop where
 sl:Sl G ρ H s.σ σv
 tm:Sl G ρ H s.tm tv
 inj: ∀i j,i<s.n->j<s.n->ρ i=ρ j->i=j
 dom: ∀l,l<s.n->∃o,H (ρ l)=some o
 lab: ∀l∈Q8 s,l<s.n
 own: ∀l∈Q8 s,F.A0 (ρ l)\/F.H0 (ρ l)=none
 frm: ∀a o,F.H0 a=some o->(∃o',H a=some o')/\(¬F.A0 a->H a=some o)
 kd:KD G.K H
 frb: ∀l,l<s.n->¬F.Z (ρ l)
 bas:F.n0<=s.n/\∀l,l<F.n0->ρ l=F.ρ0 l
def Stt.psh(s:Stt)(t:D):Stt:={s with tm:=some t::s.tm}
def Stt.nxt(s:Stt):Stt:={s with n:=s.n+1}
section
variable{G:Gx}{F:Fx}{ρ ρ':Nat->Addr}{H H':Hp}{σv tv:List (Option V)}{s:Stt}{t:D}{v:V}
theorem Sl.stay(ts:J5 H H'): ∀{σ:List (Option D)} {σv:List (Option V)},Sl G ρ H σ σv->(∀l∈Z5 σ,ρ' l=ρ l/\∀o,H (ρ l)=some o->H' (ρ l)=some o)->Sl G ρ' H' σ σv
 |[],_,h,_=>h
 |none::r,_,h,hl=>by
  erw[Sl,Z5] at h hl⊢
  obtain⟨o,q,e,h⟩:=h
  exact⟨o,q,e,Sl.stay ts h hl⟩
 |some d::r,_,h,hl=>by
  erw[Sl,Z5] at h hl⊢
  obtain⟨o,q,e,h1,h⟩:=h
  exact⟨o,q,e,RD.stay ts d o h1 λl hk=>hl l (b8 _ hk),Sl.stay ts h λl hk=>hl l (b6 _ hk)⟩
theorem Sl.rp{f:Nat->Option D}(ts:J5 H H'): ∀{σ:List (Option D)} {σv:List (Option V)},Sl G ρ H σ σv->
 (∀l∈Z5 σ,ρ' l=ρ l/\(match f l with|some d=>RD G ρ' H' d (.ref (ρ l))|none=> ∀o,H (ρ l)=some o->H' (ρ l)=some o))->Sl G ρ' H' (rpO f σ) σv
 |[],_,h,_=>h
 |none::r,_,h,hl=>by
  erw[Sl,Z5,rpO] at h hl⊢
  obtain⟨o,q,e,h⟩:=h
  exact⟨o,q,e,Sl.rp ts h hl⟩
 |some d::r,_,h,hl=>by
  erw[Sl,Z5,rpO] at h hl⊢
  obtain⟨o,q,e,h1,h⟩:=h
  exact⟨o,q,e,RD.rp ts d o h1 λl hk=>hl l (b8 _ hk),Sl.rp ts h λl hk=>hl l (b6 _ hk)⟩
theorem Sl.get: ∀{σ:List (Option D)} {σv:List (Option V)},Sl G ρ H σ σv->∀(i:Nat) (d:D),σ[i]? =some (some d)->∃v,σv[i]? =some (some v)/\RD G ρ H d v
 |[],_,_,i,d,e=>by simp at e
 |none::r,_,h,i,d,e=>by
  erw[Sl] at h
  obtain⟨o,q,rfl,h⟩:=h
  cases i with
  |zero=>simp at e
  |succ i=>simpa using Sl.get h i d (by simpa using e)
 |some d'::r,_,h,i,d,e=>by
  erw[Sl] at h
  obtain⟨v,q,rfl,h1,h⟩:=h
  cases i with
  |zero=>simp at e;subst e;exact⟨v,rfl,h1⟩
  |succ i=>simpa using Sl.get h i d (by simpa using e)
theorem Sl.length: ∀{σ:List (Option D)} {σv:List (Option V)},Sl G ρ H σ σv->σ.length=σv.length
 |[],_,h=>by erw[Sl] at h;subst h;rfl
 |none::r,_,h=>by
  erw[Sl] at h
  obtain⟨o,q,rfl,h⟩:=h
  simp[Sl.length h]
 |some d'::r,_,h=>by
  erw[Sl] at h
  obtain⟨v,q,rfl,h1,h⟩:=h
  simp[Sl.length h]
theorem Sl.set: ∀{σ:List (Option D)} {σv:List (Option V)} (i:Nat),Sl G ρ H σ σv->RD G ρ H t v->Sl G ρ H (σ.set i (some t)) (σv.set i (some v))
 |[],_,i,h,_=>by erw[Sl] at h;subst h;simp[Sl]
 |none::r,_,i,h,ht=>by
  erw[Sl] at h
  obtain⟨o,q,rfl,h⟩:=h
  cases i with
  |zero=>erw[t9,Sl];exact⟨_,_,rfl,ht,h⟩
  |succ i=>erw[B6,Sl];exact⟨_,_,rfl,Sl.set i h ht⟩
 |some d'::r,_,i,h,ht=>by
  erw[Sl] at h
  obtain⟨v',q,rfl,h1,h⟩:=h
  cases i with
  |zero=>erw[t9,Sl];exact⟨_,_,rfl,ht,h⟩
  |succ i=>erw[B6,Sl];exact⟨_,_,rfl,h1,Sl.set i h ht⟩
theorem Sl.append: ∀{σ σ':List (Option D)} {σv σv':List (Option V)},Sl G ρ H σ σv->Sl G ρ H σ' σv'->Sl G ρ H (σ++σ') (σv++σv')
 |[],_,_,_,h,h'=>by erw[Sl] at h;subst h;exact h'
 |none::r,_,_,_,h,h'=>by
  erw[Sl] at h
  obtain⟨o,q,rfl,h⟩:=h
  erw[l9,Sl];exact⟨_,_,rfl,Sl.append h h'⟩
 |some d'::r,_,_,_,h,h'=>by
  erw[Sl] at h
  obtain⟨v,q,rfl,h1,h⟩:=h
  erw[l9,Sl];exact⟨_,_,rfl,h1,Sl.append h h'⟩
theorem Sl.split: ∀(σv:List (Option V)) {σ:List (Option D)} {tv:List (Option V)},Sl G ρ H σ (σv++tv)->Sl G ρ H (σ.take σv.length) σv/\Sl G ρ H (σ.drop σv.length) tv
 |[],σ,tv,h=>⟨by simp[Sl],by simpa using h⟩
 |o::σv,[],tv,h=>by simp[Sl] at h
 |o::σv,none::r,tv,h=>by
  erw[l9,Sl] at h
  obtain⟨o',q,e,h⟩:=h
  cases e
  obtain⟨h1,h2⟩:=Sl.split σv h
  erw[i0,D4,F5,Sl]
  exact⟨⟨_,_,rfl,h1⟩,h2⟩
 |o::σv,some d::r,tv,h=>by
  erw[l9,Sl] at h
  obtain⟨o',q,e,h0,h⟩:=h
  cases e
  obtain⟨h1,h2⟩:=Sl.split σv h
  erw[i0,D4,F5,Sl]
  exact⟨⟨_,_,rfl,h0,h1⟩,h2⟩
theorem z0I: ∀{σ:List (Option D)} {i:Nat} {d:D},σ[i]? =some (some d)->∀l∈y3 d,l∈Z5 σ
 |[],i,d,e,l,h=>by simp at e
 |none::r,i,d,e,l,h=>by
  erw[Z5]
  cases i with
  |zero=>simp at e
  |succ i=>exact z0I (i:=i) (by simpa using e) l h
 |some d'::r,i,d,e,l,h=>by
  erw[Z5]
  cases i with
  |zero=>simp at e;subst e;exact b8 _ h
  |succ i=>exact b6 _ (z0I (i:=i) (by simpa using e) l h)
theorem z2b: ∀{σ:List (Option D)} {i:Nat} {d:D} (l:Nat),l∈Z5 (σ.set i (some d))->l∈Z5 σ\/l∈y3 d
 |[],i,d,l,h=>by simp[Z5] at h
 |none::r,i,d,l,h=>by
  cases i with
  |zero=>
   erw[t9,Z5] at h⊢
   rcases c7.mp h with h|h
   .exact .inr h
   .exact .inl h
  |succ i=>
   erw[B6,Z5] at h⊢
   exact z2b l h
 |some d'::r,i,d,l,h=>by
  cases i with
  |zero=>
   erw[t9,Z5] at h⊢
   rcases c7.mp h with h|h
   .exact .inr h
   .exact .inl (b6 _ h)
  |succ i=>
   erw[B6,Z5] at h⊢
   rcases c7.mp h with h|h
   .exact .inl (b8 _ h)
   .rcases z2b l h with q|q
    .exact .inl (b6 _ q)
    .exact .inr q
theorem Y0: ∀(σ σ':List (Option D)),Z5 (σ++σ')=Z5 σ++Z5 σ'
 |[],_=>rfl
 |none::r,σ'=>by erw[l9,Z5,Y0 r σ']
 |some d::r,σ'=>by erw[l9,Z5,Y0 r σ',o0]
theorem j7: ∀(σ σ':List D),labsL (σ++σ')=labsL σ++labsL σ'
 |[],_=>rfl
 |d::r,σ'=>by erw[l9,labsL,j7 r σ',o0]
theorem labsL_mem: ∀{ds:List D} {d:D},d∈ds->∀l∈y3 d,l∈labsL ds
 |_::ds,d,h,l,hl=>by
  erw[labsL]
  rcases c9.mp h with rfl|h
  .exact b8 _ hl
  .exact b6 _ (labsL_mem h l hl)
theorem g7: ∀{ds:List D} {l:Nat},l∈labsL ds->∃d∈ds,l∈y3 d
 |d::ds,l,h=>by
  erw[labsL] at h
  rcases c7.mp h with h|h
  .exact⟨d,e9 ..,h⟩
  .obtain⟨x,h1,h2⟩:=g7 h
   exact⟨x,b7 _ h1,h2⟩
theorem RDs.get: ∀{ds:List D} {xs:List V},RDs G ρ H ds xs->∀(i:Nat) (d:D),ds[i]? =some d->∃x,xs[i]? =some x/\RD G ρ H d x
 |[],_,_,i,d,e=>by simp at e
 |d'::r,_,h,i,d,e=>by
  erw[RDs] at h
  obtain⟨x,q,rfl,h1,h2⟩:=h
  cases i with
  |zero=>simp at e;subst e;exact⟨x,rfl,h1⟩
  |succ i=>simpa using RDs.get h2 i d (by simpa using e)
theorem RDs.length: ∀{ds:List D} {xs:List V},RDs G ρ H ds xs->ds.length=xs.length
 |[],_,h=>by erw[RDs] at h;subst h;rfl
 |d'::r,_,h=>by
  erw[RDs] at h
  obtain⟨x,q,rfl,h1,h2⟩:=h
  simp[RDs.length h2]
theorem RDs.append: ∀{ds es:List D} {xs ys:List V},RDs G ρ H ds xs->RDs G ρ H es ys->RDs G ρ H (ds++es) (xs++ys)
 |[],_,_,_,h,h'=>by erw[RDs] at h;subst h;exact h'
 |d'::r,_,_,_,h,h'=>by
  erw[RDs] at h
  obtain⟨x,q,rfl,h1,h2⟩:=h
  erw[l9,RDs]
  exact⟨_,_,rfl,h1,RDs.append h2 h'⟩
theorem RDs.one{d:D}{x:V}(h:RD G ρ H d x):RDs G ρ H [d] [x]:=by erw[RDs];exact⟨_,_,rfl,h,rfl⟩
theorem RDs.take: ∀{ds:List D} {xs:List V} (k:Nat),RDs G ρ H ds xs->RDs G ρ H (ds.take k) (xs.take k)
 |_,_,0,_=>by simp[RDs]
 |[],_,k+1,h=>by erw[RDs] at h;subst h;simp[RDs]
 |d'::r,_,k+1,h=>by
  erw[RDs] at h
  obtain⟨x,q,rfl,h1,h2⟩:=h
  erw[D4,RDs]
  exact⟨_,_,rfl,h1,RDs.take k h2⟩
theorem RDs.drop: ∀{ds:List D} {xs:List V} (k:Nat),RDs G ρ H ds xs->RDs G ρ H (ds.drop k) (xs.drop k)
 |_,_,0,h=>h
 |[],_,k+1,h=>by erw[RDs] at h;subst h;simp[RDs]
 |d'::r,_,k+1,h=>by
  erw[RDs] at h
  obtain⟨x,q,rfl,h1,h2⟩:=h
  erw[F5]
  exact RDs.drop k h2
theorem RDs.set: ∀{ds:List D} {xs:List V} (k:Nat),RDs G ρ H ds xs->RD G ρ H t v->RDs G ρ H (ds.set k t) (xs.set k v)
 |[],_,k,h,_=>by erw[RDs] at h;subst h;simp[RDs]
 |d'::r,_,0,h,ht=>by
  erw[RDs] at h
  obtain⟨x,q,rfl,h1,h2⟩:=h
  erw[t9,RDs];exact⟨_,_,rfl,ht,h2⟩
 |d'::r,_,k+1,h,ht=>by
  erw[RDs] at h
  obtain⟨x,q,rfl,h1,h2⟩:=h
  erw[B6,RDs];exact⟨_,_,rfl,h1,RDs.set k h2 ht⟩
theorem MR.pop{o:Option V}{r:Option D}(M:MR G F ρ H σv (o::tv) {s with tm:=r::s.tm}):MR G F ρ H σv tv s where
 sl:=M.sl
 tm:=by
  have h:=M.tm
  cases r with
  |none=>erw[Sl] at h;obtain⟨_,_,e,h⟩:=h;cases e;exact h
  |some t=>erw[Sl] at h;obtain⟨_,_,e,_,h⟩:=h;cases e;exact h
 inj:=M.inj
 dom:=M.dom
 lab:=λl h=>M.lab l (by
  rcases c7.mp h with h|h
  .exact b8 _ h
  .refine b6 _ ?_
   cases r with
   |none=>exact h
   |some t=>exact b6 _ h)
 own:=λl h=>M.own l (by
  rcases c7.mp h with h|h
  .exact b8 _ h
  .refine b6 _ ?_
   cases r with
   |none=>exact h
   |some t=>exact b6 _ h)
 frm:=M.frm
 kd:=M.kd
 frb:=M.frb
 bas:=M.bas
theorem MR.top(M:MR G F ρ H σv (some v::tv) (s.psh t)):RD G ρ H t v:=by
 have h:=M.tm
 have h:Sl G ρ H (some t::s.tm) (some v::tv):=h
 erw[Sl] at h
 obtain⟨_,_,e,h,_⟩:=h
 cases e
 exact h
theorem MR.topl(M:MR G F ρ H σv tv (s.psh t)): ∀l∈y3 t,l<s.n/\(F.A0 (ρ l)\/F.H0 (ρ l)=none):=λl h=>
 have m:l∈Q8 (s.psh t):=b6 _ (b8 _ h)
 ⟨M.lab l m,M.own l m⟩
theorem MR.same(M:MR G F ρ H σv tv s)(h:G5 H H')(k:KD G.K H'):MR G F ρ H' σv tv s where
 sl:=Sl.stay (J5.of h) M.sl λl _=>⟨rfl,λo e=>h _ _ e⟩
 tm:=Sl.stay (J5.of h) M.tm λl _=>⟨rfl,λo e=>h _ _ e⟩
 inj:=M.inj
 dom:=λl hl=>let⟨o,e⟩:=M.dom l hl;⟨o,h _ _ e⟩
 lab:=M.lab
 own:=M.own
 frm:=λa o e=>let⟨⟨o',e1⟩,e2⟩:=M.frm a o e;⟨⟨o',h _ _ e1⟩,λn=>h _ _ (e2 n)⟩
 kd:=k
 frb:=M.frb
 bas:=M.bas
theorem RDs.same{ts:List D}{vs:List V}(h:G5 H H')(r:RDs G ρ H ts vs):RDs G ρ H' ts vs:=RDs.stay (J5.of h) ts vs r λl _=>⟨rfl,λo e=>h _ _ e⟩
def ext(ρ:Nat->Addr)(n:Nat)(p:Addr):Nat->Addr:=λl=>if l=n then p else ρ l
theorem Y7{n l:Nat}{p:Addr}(h:l<n):ext ρ n p l=ρ l:=by unfold ext;rw[if_neg (by lia)]
theorem W9{n:Nat}{p:Addr}:ext ρ n p n=p:=by unfold ext;rw[if_pos rfl]
theorem MR.new{p:Addr}{o:HO}(M:MR G F ρ H σv tv s)(hp:H p=none)(k:KD G.K (upd H p o)):MR G F (ext ρ s.n p) (upd H p o) σv tv s.nxt where
 sl:=Sl.stay (J5.of (G5.new o hp)) M.sl λl hl=>⟨Y7 (M.lab l (b8 _ hl)),λo e=>G5.new _ hp _ _ e⟩
 tm:=Sl.stay (J5.of (G5.new o hp)) M.tm λl hl=>⟨Y7 (M.lab l (b6 _ hl)),λo e=>G5.new _ hp _ _ e⟩
 inj:=λi j hi hj e=>by
  have hi:i<s.n+1:=hi
  have hj:j<s.n+1:=hj
  have nn: ∀i,i<s.n->ρ i≠p:=λi h e=>by
   obtain⟨o,q⟩:=M.dom i h
   rw[e,hp] at q;cases q
  by_cases h1:i=s.n
  .by_cases h2:j=s.n
   .lia
   .rw[h1,W9,Y7 (by lia)] at e
    exact absurd e.symm (nn j (by lia))
  .by_cases h2:j=s.n
   .rw[h2,W9,Y7 (by lia)] at e
    exact absurd e (nn i (by lia))
   .rw[Y7 (by lia),Y7 (by lia)] at e
    exact M.inj i j (by lia) (by lia) e
 dom:=λl hl=>by
  have hl:l<s.n+1:=hl
  by_cases h1:l=s.n
  .subst h1;rw[W9];exact⟨o,Z1⟩
  .rw[Y7 (by lia)]
   obtain⟨o',e⟩:=M.dom l (by lia)
   exact⟨o',G5.new _ hp _ _ e⟩
 lab:=λl h=>A9 (M.lab l h)
 own:=λl h=>by rw[Y7 (M.lab l h)];exact M.own l h
 frm:=λa o e=>let⟨⟨o',e1⟩,e2⟩:=M.frm a o e;⟨⟨o',G5.new _ hp _ _ e1⟩,λn=>G5.new _ hp _ _ (e2 n)⟩
 kd:=k
 frb:=λl hl=>by
  have hl:l<s.n+1:=hl
  by_cases h1:l=s.n
  .subst h1;rw[W9]
   intro z
   obtain⟨⟨o,e⟩,_⟩:=F.zA p z
   obtain⟨⟨o',e'⟩,_⟩:=M.frm p o e
   rw[hp] at e';cases e'
  .rw[Y7 (by lia)]
   exact M.frb l (by lia)
 bas:=⟨O1 M.bas.1,λl hl=>by rw[Y7 (i4 hl M.bas.1)];exact M.bas.2 l hl⟩
theorem MR.fresh0{p:Addr}(M:MR G F ρ H σv tv s)(hp:H p=none):F.H0 p=none:=by
 cases q:F.H0 p with
 |none=>rfl
 |some o=>
  obtain⟨⟨o',e⟩,_⟩:=M.frm p o q
  rw[hp] at e;cases e
theorem MR.newPush{p:Addr}{o:HO}(M:MR G F ρ H σv tv s)(hp:H p=none)(k:KD G.K (upd H p o))(h:RD G (ext ρ s.n p) (upd H p o) t (.ref p))(hl: ∀l∈y3 t,l∈Q8 s\/l=s.n):
 MR G F (ext ρ s.n p) (upd H p o) σv (some (.ref p)::tv) (s.nxt.psh t):=by
 have M2:=M.new hp k
 refine⟨M2.sl, ?_,M2.inj,M2.dom,λl h=> ?_,λl h=> ?_,M2.frm,M2.kd,M2.frb,M2.bas⟩
 .show Sl G _ _ (some t::s.tm) _
  erw[Sl]
  exact⟨_,tv,rfl,h,M2.tm⟩
 .have h:l∈Z5 s.σ++(y3 t++Z5 s.tm):=h
  show l<s.n+1
  rcases c7.mp h with h|h
  .exact M2.lab l (b8 _ h)
  .rcases c7.mp h with h|h
   .rcases hl l h with q|q
    .exact M2.lab l q
    .lia
   .exact M2.lab l (b6 _ h)
 .have h:l∈Z5 s.σ++(y3 t++Z5 s.tm):=h
  rcases c7.mp h with h|h
  .exact M2.own l (b8 _ h)
  .rcases c7.mp h with h|h
   .rcases hl l h with q|q
    .exact M2.own l q
    .rw[q,W9];exact .inr (M.fresh0 hp)
   .exact M2.own l (b6 _ h)
def Stt.put(s:Stt)(l:Nat)(d:D):Stt:={s with σ:=rpO (λk=>if k=l then some d else none) s.σ,tm:=rpO (λk=>if k=l then some d else none) s.tm}
end
inductive Res(α:Type) where
 |ok (a:α) (s:Stt)|ex (d:D) (s:Stt)|no
abbrev M(α:Type):=Stt->Res α
def bd{α β:Type}(m:M α)(f:α->M β):M β:=λs=>match m s with
 | .ok a s'=>f a s'
 | .ex d s'=> .ex d s'
 | .no=> .no
def rt{α:Type}(a:α):M α:=λs=> .ok a s
def fl{α:Type}:M α:=λ_=> .no
def psh(t:D):M Unit:=λs=> .ok () (s.psh t)
def pop:M D:=λs=>match s.tm with
 |some t::r=> .ok t {s with tm:=r}
 |_=> .no
structure Fy extends Fx where
 tv0:List (Option V)
 xw:D->Stt->Prop
structure MRL(G:Gx)(F:Fx)(ρ:Nat->Addr)(H:Hp)(σv tv:List (Option V))(s:Stt)(ts:List D)(vs:List V):Prop where
 m:MR G F ρ H σv tv s
 rd:RDs G ρ H ts vs
 lb: ∀l∈labsL ts,l<s.n/\(F.A0 (ρ l)\/F.H0 (ρ l)=none)
section
variable{G:Gx}{F:Fy}{ρ ρ':Nat->Addr}{H H':Hp}{σv tv:List (Option V)}{s:Stt}{t t':D}{v u:V}{ts:List D}{vs:List V}{Q:VK}
theorem MRL.rd1(M:MRL G F.toFx ρ H σv tv s [t] [v]):RD G ρ H t v:=by
 have h:=M.rd
 erw[RDs] at h
 obtain⟨_,_,e,h,_⟩:=h
 cases e;exact h
theorem MRL.rd2(M:MRL G F.toFx ρ H σv tv s [t,t'] [v,u]):RD G ρ H t v/\RD G ρ H t' u:=by
 have h:=M.rd
 erw[RDs] at h
 obtain⟨_,_,e,h,_,_,e',h',_⟩:=h
 cases e;cases e';exact⟨h,h'⟩
theorem MRL.push(M:MRL G F.toFx ρ H σv tv s [t] [v]):MR G F.toFx ρ H σv (some v::tv) (s.psh t):=by
 have hl: ∀l∈y3 t,l<s.n/\(F.A0 (ρ l)\/F.H0 (ρ l)=none):=λl h=>M.lb l (by erw[labsL,e7];exact h)
 refine⟨M.m.sl, ?_,M.m.inj,M.m.dom,λl h=> ?_,λl h=> ?_,M.m.frm,M.m.kd,M.m.frb,M.m.bas⟩
 .show Sl G ρ H (some t::s.tm) _
  erw[Sl]
  exact⟨v,tv,rfl,M.rd1,M.m.tm⟩
 .have h:l∈Z5 s.σ++(y3 t++Z5 s.tm):=h
  rcases c7.mp h with h|h
  .exact M.m.lab l (b8 _ h)
  .rcases c7.mp h with h|h
   .exact(hl l h).1
   .exact M.m.lab l (b6 _ h)
 .have h:l∈Z5 s.σ++(y3 t++Z5 s.tm):=h
  rcases c7.mp h with h|h
  .exact M.m.own l (b8 _ h)
  .rcases c7.mp h with h|h
   .exact(hl l h).2
   .exact M.m.own l (b6 _ h)
theorem MRL.down{s':Stt}{r:List (Option D)}(M:MRL G F.toFx ρ H σv (some v::tv) s' ts vs)(e:s'.tm=some t::r):MRL G F.toFx ρ H σv tv {s' with tm:=r} (t::ts) (v::vs):=by
 obtain⟨σ,tm,n⟩:=s'
 have e:tm=some t::r:=e
 subst e
 refine⟨MR.pop (s:=⟨σ,r,n⟩) M.m, ?_,λl h=> ?_⟩
 .erw[RDs]
  exact⟨v,vs,rfl,MR.top (s:=⟨σ,r,n⟩) M.m,M.rd⟩
 .erw[labsL] at h
  rcases c7.mp h with h|h
  .exact MR.topl (s:=⟨σ,r,n⟩) M.m l h
  .exact M.lb l h
def wM(G:Gx)(F:Fy)(σv tv:List (Option V))(r:Res D)(Q:VK):Prop:=match r with
 | .ok t s'=> ∀ρ' v H',MRL G F.toFx ρ' H' σv tv s' [t] [v]->Q v H'
 | .ex d s'=>F.xw d s'
 | .no=>False
def wL(G:Gx)(F:Fy)(σv tv:List (Option V))(r:Res (List D))(Q:List V->Hp->Prop):Prop:=match r with
 | .ok ts s'=> ∀ρ' vs H',MRL G F.toFx ρ' H' σv tv s' ts vs->Q vs H'
 | .ex d s'=>F.xw d s'
 | .no=>False
def wB(G:Gx)(F:Fy)(σv tv:List (Option V))(r:Res Bool)(Q:Bool->Hp->Prop):Prop:=match r with
 | .ok b s'=> ∀ρ' H',MR G F.toFx ρ' H' σv tv s'->Q b H'
 | .ex d s'=>F.xw d s'
 | .no=>False
def tMv(G:Gx)(F:Fy)(m:M D)(σv tv:List (Option V))(H:Hp)(Q:VK):Prop:=F.tv0<:+tv/\∃ρ s,MR G F.toFx ρ H σv tv s/\wM G F σv tv (m s) Q
def tLv(G:Gx)(F:Fy)(m:M (List D))(σv tv:List (Option V))(H:Hp)(Q:List V->Hp->Prop):Prop:=F.tv0<:+tv/\∃ρ s,MR G F.toFx ρ H σv tv s/\wL G F σv tv (m s) Q
def tBv(G:Gx)(F:Fy)(m:M Bool)(σv tv:List (Option V))(H:Hp)(Q:Bool->Hp->Prop):Prop:=F.tv0<:+tv/\∃ρ s,MR G F.toFx ρ H σv tv s/\wB G F σv tv (m s) Q
def tM(G:Gx)(F:Fy)(m:M D):TE:=λ σv H Q=> ∃tv,tMv G F m σv tv H Q
def tML(G:Gx)(F:Fy)(m:M (List D)):TA:=λ σv H Q=> ∃tv,tLv G F m σv tv H Q
def tMB(G:Gx)(F:Fy)(m:M Bool):TT:=λ σv H Q=> ∃tv,tBv G F m σv tv H Q
def SE(X:Cx)(G:Gx)(F:Fy)(e:Expr)(m:M D):Prop:=PE X e (tM G F m)
def SA(X:Cx)(G:Gx)(F:Fy)(es:List Expr)(m:M (List D)):Prop:=PA X es (tML G F m)
def SB(X:Cx)(G:Gx)(F:Fy)(e:Expr)(m:M Bool):Prop:=PT X e (tMB G F m)
theorem z7w{o:Option V}(h:F.tv0<:+tv):F.tv0<:+o::tv:=h.trans (List.suffix_cons _ _)
theorem z1K{m:M D}{f:D->M D}(h:tMv G F (bd m f) σv tv H Q):tMv G F m σv tv H (λv H1=> ∃ρ1 s1 t,MRL G F.toFx ρ1 H1 σv tv s1 [t] [v]/\wM G F σv tv (f t s1) Q):=by
 obtain⟨hs,ρ,s,M,W⟩:=h
 refine⟨hs,ρ,s,M, ?_⟩
 unfold bd at W
 cases e:m s with
 |ok t s1=>rw[e] at W;exact λ ρ1 v H1 M1=>⟨ρ1,s1,t,M1,W⟩
 |ex d s1=>rw[e] at W;exact W
 |no=>rw[e] at W;exact W
def Z0(ma mb:M D)(g:D->D->M D):M D:=bd ma λx=>bd (psh x) λ_=>bd mb λy=>bd pop λx'=>g x' y
theorem z66{ma mb:M D}{g:D->D->M D}(h:tMv G F (Z0 ma mb g) σv tv H Q):
 tMv G F ma σv tv H (λv H1=>tMv G F mb σv (some v::tv) H1 (λu H2=> ∃ρ2 s2 t t',MRL G F.toFx ρ2 H2 σv tv s2 [t,t'] [v,u]/\wM G F σv tv (g t t' s2) Q)):=by
 have h':=z1K h
 obtain⟨hs,ρ,s,M,W⟩:=h'
 refine⟨hs,ρ,s,M, ?_⟩
 cases e:ma s with
 |ok t s1=>
  rw[e] at W
  intro ρ1 v H1 M1
  obtain⟨ρ1,s1,t,M1,W⟩:=W ρ1 v H1 M1
  refine⟨z7w hs,ρ1,s1.psh t,M1.push, ?_⟩
  erw[bd,psh] at W
  cases e2:mb (s1.psh t) with
  |ok y s2=>
   rw[e2] at W
   intro ρ2 u H2 M2
   erw[pop] at W
   cases e3:s2.tm with
   |nil=>rw[e3] at W;exact W.elim
   |cons o r=>
    cases o with
    |none=>rw[e3] at W;exact W.elim
    |some t'=>
     rw[e3] at W
     exact⟨ρ2,{s2 with tm:=r},t',y,M2.down e3,W⟩
  |ex d s2=>rw[e2] at W;exact W
  |no=>rw[e2] at W;exact W
 |ex d s1=>rw[e] at W;exact W
 |no=>rw[e] at W;exact W
def Z7:List (M D)->M (List D)
 |[]=>rt []
 |m::ms=>bd m λx=>bd (psh x) λ_=>bd (Z7 ms) λys=>bd pop λx'=>rt (x'::ys)
end
section
variable{X:Cx}{G:Gx}{F:Fy}{e a b c:Expr}{pos:Pos}
theorem Inv.kd{pins:List (Addr×Obj)}{σ:St}{H:Hp}{s:Shared}(I:Inv X pins σ H s):KD X.K H:=λa o e=>(I.bs a o (I.ok.mod.kin a o e)).2
theorem PE.imp{t t':TE}(hk:X.K=G.K)(h:PE X e t)(hi: ∀σ H Q,t' σ H Q->t σ H (λv H'=>KD G.K H'->Q v H')):PE X e t':=λpins s σ H Q I q=>
 thn (h pins s σ H _ I (hi σ H Q q)) λu s' ⟨v,H',I',r,k⟩=>⟨v,H',I',r,k (hk▸Inv.kd I')⟩
theorem PT.imp{t t':TT}(hk:X.K=G.K)(h:PT X e t)(hi: ∀σ H Q,t' σ H Q->t σ H (λv H'=>KD G.K H'->Q v H')):PT X e t':=λpins s σ H Q I q=>
 thn (h pins s σ H _ I (hi σ H Q q)) λu s' ⟨H',I',k⟩=>⟨H',I',k (hk▸Inv.kd I')⟩
theorem PA.imp{es:List Expr}{t t':TA}(hk:X.K=G.K)(h:PA X es t)(hi: ∀σ H Q,t' σ H Q->t σ H (λv H'=>KD G.K H'->Q v H')):PA X es t':=λpos pins s σ H Q I q=>
 thn (h pos pins s σ H _ I (hi σ H Q q)) λu s' ⟨v,H',I',r,k⟩=>⟨v,H',I',r,k (hk▸Inv.kd I')⟩
def z9v(G:Gx)(F:Fy)(r:R2)(g:D->D->M D):Prop:= ∀ρ s t t' v u H σv tv Q,MRL G F.toFx ρ H σv tv s [t,t'] [v,u]->wM G F σv tv (g t t' s) Q->r v u H (λw H'=>KD G.K H'->Q w H')
def v0(G:Gx)(F:Fy)(r:R2)(g:D->D->M D):Prop:= ∀ρ s t t' v u H σv tv Q,MRL G F.toFx ρ H σv tv s [t,t'] [v,u]->wM G F σv tv (g t t' s) Q->r v u H Q
def zhM(G:Gx)(F:Fy)(r:V->Hp->VK->Prop)(g:D->M D):Prop:= ∀ρ s t v H σv tv Q,MRL G F.toFx ρ H σv tv s [t] [v]->wM G F σv tv (g t s) Q->r v H (λw H'=>KD G.K H'->Q w H')
def J6(G:Gx)(F:Fy)(r:List V->Hp->VK->Prop)(g:List D->M D):Prop:= ∀ρ s ts vs H σv tv Q,MRL G F.toFx ρ H σv tv s ts vs->wM G F σv tv (g ts s) Q->r vs H (λw H'=>KD G.K H'->Q w H')
theorem z70{op:Operator}{r:R2}{ma mb:M D}{g:D->D->M D}(hk:X.K=G.K)(ho:OpR X (binaryOp op) r)(hg:z9v G F r g)(ha:SE X G F a ma)(hb:SE X G F b mb):SE X G F (.BinOp a op b pos) (Z0 ma mb g):=by
 refine PE.imp hk (z7O ho ha hb) λ σ H Q ⟨tv,h⟩=>⟨tv, ?_⟩
 obtain⟨hs,ρ,s,M,W⟩:=z66 h
 refine⟨hs,ρ,s,M, ?_⟩
 cases e:ma s with
 |ok t s1=>
  rw[e] at W
  intro ρ1 v H1 M1
  refine⟨some v::tv, ?_⟩
  obtain⟨hs2,ρ2,s2,M2,W2⟩:=W ρ1 v H1 M1
  refine⟨hs2,ρ2,s2,M2, ?_⟩
  cases e2:mb s2 with
  |ok t2 s3=>
   rw[e2] at W2
   intro ρ3 u H3 M3
   obtain⟨ρ4,s4,x,y,M4,W4⟩:=W2 ρ3 u H3 M3
   exact hg _ _ _ _ _ _ _ _ _ _ M4 W4
  |ex d s3=>rw[e2] at W2;exact W2
  |no=>rw[e2] at W2;exact W2
 |ex d s1=>rw[e] at W;exact W
 |no=>rw[e] at W;exact W
theorem wM.mono{σv tv:List (Option V)}{r:Res D}{Q Q':VK}(h:wM G F σv tv r Q)(k: ∀v H,Q v H->Q' v H):wM G F σv tv r Q':=by
 cases r with
 |ok t s=>exact λ ρ v H M=>k _ _ (h ρ v H M)
 |ex d s=>exact h
 |no=>exact h
theorem tMv.mono{m:M D}{σv tv:List (Option V)}{H:Hp}{Q Q':VK}(h:tMv G F m σv tv H Q)(k: ∀v H,Q v H->Q' v H):tMv G F m σv tv H Q':=by
 obtain⟨hs,ρ,s,M,W⟩:=h
 exact⟨hs,ρ,s,M,W.mono k⟩
theorem zcH{ma mb:M D}{g:D->D->M D}{R:V->V->Hp->VK->Prop}{σv:St}{H:Hp}{Q:VK}(hg:z9v G F R g)(h:tM G F (Z0 ma mb g) σv H Q):
 tM G F ma σv H λx H1=>tM G F mb σv H1 λy H2=>R x y H2 λw H'=>KD G.K H'->Q w H':=by
 obtain⟨tv,h⟩:=h
 exact⟨tv,(z66 h).mono λv H1 h1=>⟨_,h1.mono λu H2 ⟨ρ,s,t,t',M,W⟩=>hg _ _ _ _ _ _ _ _ _ _ M W⟩⟩
theorem zf4{ma:M D}{g:D->M D}{R:V->Hp->VK->Prop}{σv:St}{H:Hp}{Q:VK}(hg:zhM G F R g)(h:tM G F (bd ma g) σv H Q):
 tM G F ma σv H λx H1=>R x H1 λw H'=>KD G.K H'->Q w H':=by
 obtain⟨tv,h⟩:=h
 exact⟨tv,(z1K h).mono λv H1 ⟨ρ,s,t,M,W⟩=>hg _ _ _ _ _ _ _ _ M W⟩
theorem zhN{op:UnaryOp}{r:V->Hp->VK->Prop}{ma:M D}{g:D->M D}(hk:X.K=G.K)(ho:UnR X (unaryOp op) r)(hg:zhM G F r g)(ha:SE X G F a ma):SE X G F (.UnaryOp op a pos) (bd ma g):=
 PE.imp hk (zew ho ha) λ_ _ _ h=>zf4 hg h
theorem z67{ma mb:M D}{g:D->D->M D}{R:V->V->Hp->VK->Prop}{σv:St}{H:Hp}{Q:VK}(hg:v0 G F R g)(h:tM G F (Z0 ma mb g) σv H Q):
 tM G F ma σv H λx H1=>tM G F mb σv H1 λy H2=>R x y H2 Q:=by
 obtain⟨tv,h⟩:=h
 exact⟨tv,(z66 h).mono λv H1 h1=>⟨_,h1.mono λu H2 ⟨ρ,s,t,t',M,W⟩=>hg _ _ _ _ _ _ _ _ _ _ M W⟩⟩
theorem PE.imp0{t t':TE}(h:PE X e t)(hi: ∀σ H Q,t' σ H Q->t σ H Q):PE X e t':=λpins s σ H Q I q=>h pins s σ H _ I (hi σ H Q q)
theorem PT.imp0{t t':TT}(h:PT X e t)(hi: ∀σ H Q,t' σ H Q->t σ H Q):PT X e t':=λpins s σ H Q I q=>h pins s σ H _ I (hi σ H Q q)
theorem zcI{op:CmpOp}{r:R2}{ma mb:M D}{g:D->D->M D}(ho:OpR X (compareOp op) r)(hg:v0 G F r g)(ha:SE X G F a ma)(hb:SE X G F b mb)(hm:behindInMarks op b=false):SE X G F (.Compare a [op] [b] pos) (Z0 ma mb g):=
 PE.imp0 (zcf ho ha hb hm) λ_ _ _ h=>z67 hg h
theorem zhO{r:R2}{ma mb:M D}{g:D->D->M D}(hk:X.K=G.K)(ho:IxR X r)(hg:z9v G F r g)(ha:SE X G F a ma)(hb:SE X G F b mb)(hs:z1i b):SE X G F (.Subscript a b pos) (Z0 ma mb g):=
 PE.imp hk (zhD ho ha hb hs) λ_ _ _ h=>zcH hg h
theorem zf5(hk:X.K=G.K):SA X G F [] (Z7 []):=by
 refine PA.imp hk V5 λ σ H Q ⟨tv,hs,ρ,s,M,W⟩ _=>W ρ [] H ⟨M,rfl,λl h=>by simp[labsL] at h⟩
def nst:Expr->Bool
 | .Starred _ _=>false
 |_=>true
theorem z8g{es:List Expr}{env:Env}(h:nst e=true):starEach (e::es) env=(false,eval e env)::starEach es env:=by
 cases e<;>first|rfl|exact E5 h
theorem zcJ{es:List Expr}{m:M D}{ms:List (M D)}(hk:X.K=G.K)(ha:SE X G F e m)(hr:SA X G F es (Z7 ms))(hs:nst e=true:=by rfl):SA X G F (e::es) (Z7 (m::ms)):=by
 refine PA.imp hk (Z9 ha hr (z8g hs)) λ σ H Q ⟨tv,hs,ρ,s,M,W⟩=>⟨tv,hs,ρ,s,M, ?_⟩
 unfold Z7 at W
 erw[bd,psh] at W
 cases e:m s with
 |ok t s1=>
  rw[e] at W
  intro ρ1 v H1 M1
  refine⟨some v::tv,z7w hs,ρ1,s1.psh t,M1.push, ?_⟩
  dsimp only at W
  cases e2:Z7 ms (s1.psh t) with
  |ok ys s2=>
   rw[e2] at W
   intro ρ2 us H2 M2 _
   erw[pop,rt] at W
   cases e3:s2.tm with
   |nil=>rw[e3] at W;exact W.elim
   |cons o r=>
    cases o with
    |none=>rw[e3] at W;exact W.elim
    |some t'=>
     rw[e3] at W
     exact W ρ2 (v::us) H2 (M2.down e3)
  |ex d s2=>rw[e2] at W;exact W
  |no=>rw[e2] at W;exact W
 |ex d s1=>rw[e] at W;exact W
 |no=>rw[e] at W;exact W
def mCB(ms:List (M D))(g:List D->M D):M D:=bd (Z7 ms) g
theorem z1R{ma:M (List D)}{g:List D->M D}{R:List V->Hp->VK->Prop}{σv:St}{H:Hp}{Q:VK}(hg:J6 G F R g)(h:tM G F (bd ma g) σv H Q):
 tML G F ma σv H λxs H1=>R xs H1 λw H'=>KD G.K H'->Q w H':=by
 obtain⟨tv,hs,ρ,s,M,W⟩:=h
 refine⟨tv,hs,ρ,s,M, ?_⟩
 unfold bd at W
 cases e:ma s with
 |ok ts s1=>rw[e] at W;exact λ ρ1 vs H1 M1=>hg _ _ _ _ _ _ _ _ M1 W
 |ex d s1=>rw[e] at W;exact W
 |no=>rw[e] at W;exact W
theorem za7{x:Str}{p:Pos}{es:List Expr}{ms:List (M D)}{g:List D->M D}{id:String}{r:List V->Hp->VK->Prop}(hk:X.K=G.K)(hc:CallR X (.builtin id) r)(hg:J6 G F r g)(hgl:Gl X x)(hm:X.mg x=none)(hv:bootBuiltins x=some (.builtin id))(ha:SA X G F (e::es) (Z7 ms))(hn:x≠ "__name__" :=by decide)(hdb:(x==("__debug__" :Str))=false:=by decide)
 (he:starEach (e::es) X.env=(false,eval e X.env)::starEach es X.env:=by rfl) (hpl:(backTo pos (starEach es X.env)).any (·.1)=false:=by rfl):SE X G F (.Call (.Name x p) (e::es) [] pos) (mCB ms g):=
 PE.imp hk (z0F hc hgl hm hv ha hn hdb he hpl) λ_ _ _ h=>z1R hg h
theorem z8h{x:Str}{p:Pos}{es:List Expr}{ms:List (M D)}{g:List D->M D}{T:String}{r:List V->Hp->VK->Prop}(hk:X.K=G.K)(hc:CallR X (.type T) r)(hg:J6 G F r g)(hgl:Gl X x)(hm:X.mg x=none)(hv:bootBuiltins x=some (.type T))(ha:SA X G F (e::es) (Z7 ms))(hn:x≠ "__name__" :=by decide)(hdb:(x==("__debug__" :Str))=false:=by decide)
 (he:starEach (e::es) X.env=(false,eval e X.env)::starEach es X.env:=by rfl) (hpl:(backTo pos (starEach es X.env)).any (·.1)=false:=by rfl):SE X G F (.Call (.Name x p) (e::es) [] pos) (mCB ms g):=
 PE.imp hk (z7X hc hgl hm hv ha hn hdb he hpl) λ_ _ _ h=>z1R hg h
def y1(i:Nat):M D:=λs=>match s.σ[i]? with
 |some (some t)=> .ok t s
 |_=> .no
theorem se_var(i:Nat){x:Str}(hk:X.K=G.K)(h:PE X (.Name x pos) (z7I i)):SE X G F (.Name x pos) (y1 i):=by
 refine PE.imp hk h λ σ H Q ⟨tv,hs,ρ,s,M,W⟩=> ?_
 unfold y1 at W
 cases e:s.σ[i]? with
 |none=>rw[e] at W;exact W.elim
 |some o=>
  cases o with
  |none=>rw[e] at W;exact W.elim
  |some t=>
   rw[e] at W
   obtain⟨v,h1,h2⟩:=M.sl.get i t e
   refine⟨v,h1,λ_=>W ρ v H ⟨M,RDs.one h2,λl hl=> ?_⟩⟩
   erw[labsL,e7] at hl
   have:=z0I e l hl
   exact⟨M.lab l (b8 _ this),M.own l (b8 _ this)⟩
def cV:D->Option V
 | .non=>some .non| .bool b=>some (.bl b)| .int i=>some (.int i)| .str x=>some (.str x)|_=>none
theorem z71{d:D}{v:V}{ρ:Nat->Addr}{H:Hp}(h:cV d=some v):RD G ρ H d v/\y3 d=[]:=by
 cases d<;>erw[cV,Option.some.injEq] at h<;>first|(subst h;exact⟨by erw[RD],by erw[y3]⟩)|cases h
def mC(d:D):M D:=rt d
theorem se_c{d:D}{v:V}(hk:X.K=G.K)(h:PE X e (tC v))(hd:cV d=some v:=by rfl):SE X G F e (mC d):=by
 refine PE.imp hk h λ σ H Q ⟨tv,hs,ρ,s,M,W⟩ _=>W ρ v H ⟨M,RDs.one (z71 hd).1,λl hl=> ?_⟩
 erw[labsL,(z71 (G:=G) (ρ:=ρ) (H:=H) hd).2] at hl
 cases hl
theorem wM.out{σv tv:List (Option V)}{s:Stt}{t:D}{v:V}{ρ:Nat->Addr}{H:Hp}{Q:VK}(W:wM G F σv tv (.ok t s) Q)(M:MR G F.toFx ρ H σv tv s)(h:RD G ρ H t v)(hl: ∀l∈y3 t,l<s.n/\(F.A0 (ρ l)\/F.H0 (ρ l)=none)):Q v H:=
 W ρ v H ⟨M,RDs.one h,λl q=>hl l (by simpa only[labsL,e7] using q)⟩
theorem wM.flat{σv tv:List (Option V)}{s:Stt}{t:D}{v:V}{ρ:Nat->Addr}{H:Hp}{Q:VK}(W:wM G F σv tv (.ok t s) Q)(M:MR G F.toFx ρ H σv tv s)(h:cV t=some v):Q v H:=
 W.out M (z71 h).1 λl q=>by rw[(z71 (G:=G) (ρ:=ρ) (H:=H) h).2] at q;cases q
end
mutual
def er:D->PyData
 | .non=> .none| .bool b=> .bool b| .int i=> .int i| .str x=> .str x
 | .tup ds=> .tuple (erL ds)
 | .ro ds=> .list (erL ds)
 | .lst _ ds=> .list (erL ds)
 | .dct _ _ _=> .none
 | .obj _ _ _ _=> .none
 | .exc _=> .none| .fn _=> .none| .fdc _ _=> .none
def erL:List D->List PyData
 |[]=>[]
 |d::ds=>er d::erL ds
end
mutual
def plain:D->Bool
 | .non=>true| .bool _=>true| .int _=>true| .str _=>true
 | .tup ds=>plainL ds
 | .ro ds=>plainL ds
 | .lst _ ds=>plainL ds
 | .dct _ _ _=>false
 | .obj _ _ _ _=>false
 | .exc _=>false| .fn _=>false| .fdc _ _=>false
def plainL:List D->Bool
 |[]=>true
 |d::ds=>plain d&&plainL ds
end
def z7x:D->Option (List D)
 | .tup ds=>some ds| .ro ds=>some ds| .lst _ ds=>some ds|_=>none
def ze2:D->Option (List D)
 | .ro ds=>some ds| .lst _ ds=>some ds|_=>none
section
variable{G:Gx}{F:Fy}{ρ:Nat->Addr}{H H':Hp}{σv tv:List (Option V)}{s:Stt}{t t':D}{v u:V}{ts ds:List D}{vs xs:List V}{Q:VK}
mutual
theorem RD.dp: ∀(t:D) (v:V),RD G ρ H t v->plain t=true->Dp G.K H (er t) v
 | .non,v,h,_=>by erw[RD,er,Dp] at h⊢;exact h
 | .bool b,v,h,_=>by erw[RD,er,Dp] at h⊢;exact h
 | .int b,v,h,_=>by erw[RD,er,Dp] at h⊢;exact h
 | .str b,v,h,_=>by erw[RD,er,Dp] at h⊢;exact h
 | .tup ds,v,h,p=>by
  erw[RD,er,Dp,plain] at h p⊢
  obtain⟨a,xs,e,s,r⟩:=h
  exact⟨a,xs,e,SqT.of s,RDs.dp ds xs r p⟩
 | .ro ds,v,h,p=>by
  erw[RD,er,Dp,plain] at h p⊢
  obtain⟨a,xs,e,s,r⟩:=h
  exact⟨a,xs,e,s.sq,RDs.dp ds xs r p⟩
 | .lst l ds,v,h,p=>by
  erw[RD,er,Dp,plain] at h p⊢
  obtain⟨e,xs,s,r⟩:=h
  exact⟨_,xs,e,SqL.of s,RDs.dp ds xs r p⟩
 | .dct l ks vs,v,h,p=>by erw[plain] at p;cases p
 | .fdc ks vs,v,h,p=>by erw[plain] at p;cases p
 | .obj l c ns vs,v,h,p=>by erw[plain] at p;cases p
 | .exc c,v,h,p=>by erw[plain] at p;cases p
 | .fn c,v,h,p=>by erw[plain] at p;cases p
theorem RDs.dp: ∀(t:List D) (v:List V),RDs G ρ H t v->plainL t=true->DpAll G.K H (erL t) v
 |[],v,h,_=>by erw[RDs,erL,DpAll] at h⊢;exact h
 |d::ds,v,h,p=>by
  erw[RDs,erL,DpAll,plainL,b9] at h p⊢
  obtain⟨x,r,e,h1,h2⟩:=h
  exact⟨x,r,e,RD.dp d x h1 p.1,RDs.dp ds r h2 p.2⟩
end
theorem RD.seq(h:RD G ρ H t v)(e:z7x t=some ds): ∃a xs,v= .ref a/\(SqL G.K H a xs\/SqT G.K H a xs)/\RDs G ρ H ds xs/\∀l∈labsL ds,l∈y3 t:=by
 cases t<;>erw[z7x,Option.some.injEq] at e<;>try cases e
 .erw[RD] at h
  obtain⟨a,xs,e,s,r⟩:=h
  exact⟨a,xs,e, .inr (SqT.of s),r,λl hl=>by erw[y3];exact hl⟩
 .erw[RD] at h
  obtain⟨a,xs,e,s,r⟩:=h
  exact⟨a,xs,e, .inl s.sq,r,λl hl=>by erw[y3];exact hl⟩
 .erw[RD] at h
  obtain⟨e,xs,s,r⟩:=h
  exact⟨_,xs,e, .inl (SqL.of s),r,λl hl=>by erw[y3];exact b7 _ hl⟩
theorem RD.lstq(h:RD G ρ H t v)(e:ze2 t=some ds): ∃a xs,v= .ref a/\SqL G.K H a xs/\RDs G ρ H ds xs/\∀l∈labsL ds,l∈y3 t:=by
 cases t<;>erw[ze2,Option.some.injEq] at e<;>try cases e
 .erw[RD] at h
  obtain⟨a,xs,e,s,r⟩:=h
  exact⟨a,xs,e,s.sq,r,λl hl=>by erw[y3];exact hl⟩
 .erw[RD] at h
  obtain⟨e,xs,s,r⟩:=h
  exact⟨_,xs,e,SqL.of s,r,λl hl=>by erw[y3];exact b7 _ hl⟩
theorem RD.tupx(h:RD G ρ H (.tup ds) v): ∃a xs,v= .ref a/\H a=some (.tup xs)/\RDs G ρ H ds xs:=by
 erw[RD] at h;exact h
theorem RD.tupq(h:RD G ρ H (.tup ds) v): ∃a xs,v= .ref a/\SqT G.K H a xs/\RDs G ρ H ds xs:=by
 obtain⟨a,xs,e,s,r⟩:=h.tupx
 exact⟨a,xs,e,SqT.of s,r⟩
theorem RD.seqx(h:RD G ρ H t v)(e:z7x t=some ds): ∃a xs,v= .ref a/\(SqL G.K H a xs\/H a=some (.tup xs))/\RDs G ρ H ds xs/\∀l∈labsL ds,l∈y3 t:=by
 cases t<;>erw[z7x,Option.some.injEq] at e<;>try cases e
 .erw[RD] at h
  obtain⟨a,xs,e,s,r⟩:=h
  exact⟨a,xs,e, .inr s,r,λl hl=>by erw[y3];exact hl⟩
 .erw[RD] at h
  obtain⟨a,xs,e,s,r⟩:=h
  exact⟨a,xs,e, .inl s.sq,r,λl hl=>by erw[y3];exact hl⟩
 .erw[RD] at h
  obtain⟨e,xs,s,r⟩:=h
  exact⟨_,xs,e, .inl (SqL.of s),r,λl hl=>by erw[y3];exact b7 _ hl⟩
theorem MRL.lb1(M:MRL G F.toFx ρ H σv tv s [t] [v]): ∀l∈y3 t,l<s.n/\(F.A0 (ρ l)\/F.H0 (ρ l)=none):=λl h=>M.lb l (by erw[labsL,e7];exact h)
theorem MRL.lb2(M:MRL G F.toFx ρ H σv tv s [t,t'] [v,u]):(∀l∈y3 t,l<s.n/\(F.A0 (ρ l)\/F.H0 (ρ l)=none))/\(∀l∈y3 t',l<s.n/\(F.A0 (ρ l)\/F.H0 (ρ l)=none)):=
 ⟨λl h=>M.lb l (by erw[labsL,e7];exact b8 _ h),λl h=>M.lb l (by erw[labsL,e7];exact b6 _ h)⟩
abbrev LB(F:Fx)(ρ:Nat->Addr)(n:Nat)(ls:List Nat):Prop:= ∀l∈ls,l<n/\(F.A0 (ρ l)\/F.H0 (ρ l)=none)
theorem z3p(W:wM G F σv tv (.ok (.tup ds) s) Q)(M:MR G F.toFx ρ H σv tv s)(r:RDs G ρ H ds xs)(lb:LB F.toFx ρ s.n (labsL ds)):z8b G.K H xs (λw H'=>KD G.K H'->Q w H'):=by
 refine z8b.intro λp H' sq sm k=> ?_
 exact W.out (M.same sm k) (by erw[RD];exact⟨p,xs,rfl,sq,r.same sm⟩) (by erw[y3];exact lb)
theorem z8i{p:Addr}(W:wM G F σv tv (.ok (.tup ds) s) Q)(M:MR G F.toFx ρ H σv tv s)(r:RDs G ρ H ds xs)(lb:LB F.toFx ρ s.n (labsL ds))(hp:H p=none)(k:KD G.K (upd H p (.tup xs))):Q (.ref p) (upd H p (.tup xs)):=by
 have sm:=G5.new (.tup xs) hp
 exact W.out (M.same sm k) (by erw[RD];exact⟨p,xs,rfl,Z1,r.same sm⟩) (by erw[y3];exact lb)
theorem RDs.ext{p:Addr}{o:HO}(M:MR G F.toFx ρ H σv tv s)(r:RDs G ρ H ds xs)(lb:LB F.toFx ρ s.n (labsL ds))(hp:H p=none):RDs G (ext ρ s.n p) (upd H p o) ds xs:=
 RDs.stay (J5.of (G5.new o hp)) ds xs r λl hl=>⟨Y7 (lb l hl).1,λo e=>G5.new _ hp _ _ e⟩
theorem v8{p:Addr}(W:wM G F σv tv (.ok (.lst s.n ds) s.nxt) Q)(M:MR G F.toFx ρ H σv tv s)(r:RDs G ρ H ds xs)(lb:LB F.toFx ρ s.n (labsL ds))(hp:H p=none)(k:KD G.K (upd H p (.lst xs))):Q (.ref p) (upd H p (.lst xs)):=by
 refine W.out (M.new hp k) ?_ λl hl=> ?_
 .erw[RD]
  rw[W9]
  exact⟨rfl,xs,Z1,RDs.ext M r lb hp⟩
 .erw[y3] at hl
  rcases c9.mp hl with q|q
  .rw[q]
   exact⟨s0 _,by rw[W9];exact .inr (M.fresh0 hp)⟩
  .obtain⟨h1,h2⟩:=lb l q
   exact⟨A9 h1,by rw[Y7 h1];exact h2⟩
end
def z9w(ds:List D):M D:=λs=> .ok (.lst s.n ds) s.nxt
def v1:D->D->M D
 | .int i, .int j=>rt (.int (i+j))
 | .tup a, .tup b=>if a.length+b.length<=sizeLine then rt (.tup (a++b)) else fl
 | .lst _ a, .lst _ b=>if a.length+b.length<=sizeLine then z9w (a++b) else fl
 | .str a, .str b=>if a.length+b.length<=sizeLine then rt (.str (a++b)) else fl
 |_,_=>fl
def za8:D->D->M D
 | .int i, .int j=>rt (.int (i -j))
 |_,_=>fl
instance(i j:Int):Decidable (z9I i j):=by unfold z9I;infer_instance
instance(i j:Int):Decidable (z9H i j):=by unfold z9H;infer_instance
instance(i j:Int):Decidable (ze0 i j):=by unfold ze0;infer_instance
def z3q:D->D->M D
 | .int i, .int j=>if z9I i j then rt (.int (i*j)) else fl
 | .lst _ a, .int k=>if -(2^63)<=k/\k<2^63/\a.length*k.toNat<=sizeLine then z9w (O2 (e8 k.toNat a)) else fl
 | .tup a, .int k=>if 0<a.length/\2<=k/\k<2^63/\a.length*k.toNat<=sizeLine then rt (.tup (O2 (e8 k.toNat a))) else fl
 |_,_=>fl
def z1L:D->D->M D
 | .int i, .int j=>if z9H i j then rt (.int (i/j)) else fl
 |_,_=>fl
def z2c:D->D->M D
 | .int i, .int j=>if 0<j then rt (.int (i %j)) else fl
 |_,_=>fl
def z8j:D->D->M D
 | .int i, .int j=>if ze0 i j then rt (.int (i^j.toNat)) else fl
 |_,_=>fl
def ltD:D->D->M D
 | .int i, .int j=>rt (.bool (decide (i<j)))
 |_,_=>fl
def leD:D->D->M D
 | .int i, .int j=>rt (.bool (decide (i<=j)))
 |_,_=>fl
def gtD:D->D->M D
 | .int i, .int j=>rt (.bool (decide (j<i)))
 |_,_=>fl
def geD:D->D->M D
 | .int i, .int j=>rt (.bool (decide (j<=i)))
 |_,_=>fl
def eqC(t t':D):Bool:=plain t&&plain t'&&(er t).canLay0&&(er t').canLay0&&decide (min (er t).depth (er t').depth<=60)
def eqD(t t':D):M D:=if eqC t t'=true then rt (.bool (PyData.eqv (er t) (er t'))) else fl
def neD(t t':D):M D:=if eqC t t'=true then rt (.bool (!PyData.eqv (er t) (er t'))) else fl
def inC(t:D)(ds:List D):Bool:=plain t&&plainL ds&&(er t).canLay0&&PyData.canLayAll0 (erL ds)&&decide (min (PyData.depthAll (erL ds)) (er t).depth<=60)
def inD(t t':D):M D:=match z7x t' with
 |some ds=>if inC t ds=true then rt (.bool ((erL ds).any λy=>PyData.eqv y (er t))) else fl
 |none=>fl
def isN:D->D->M D
 | .non, .non=>rt (.bool true)
 |_, .non=>rt (.bool false)
 |_,_=>fl
def zbp:D->D->M D
 | .non, .non=>rt (.bool false)
 |_, .non=>rt (.bool true)
 |_,_=>fl
def zcK:Option D->M D
 |some d=>rt d
 |none=>fl
def ixG:Option (List D)->D->M D
 |some ds, .int i=>zcK (atI ds i)
 |_,_=>fl
def ixD(t t':D):M D:=ixG (z7x t) t'
def zbq:D->M D
 | .int i=>rt (.int (-i))
 |_=>fl
section
variable{G:Gx}{F:Fy}
theorem wfl{σv tv:List (Option V)}{s:Stt}{Q:VK}{A:Prop}(h:wM G F σv tv ((fl:M D) s) Q):A:=False.elim h
theorem z2Q{ρ:Nat->Addr}{H:Hp}{σv tv:List (Option V)}{s:Stt}{i j:Int}{v u:V}(M:MRL G F.toFx ρ H σv tv s [.int i, .int j] [v,u]):v= .int i/\u= .int j:=by
 obtain⟨h1,h2⟩:=M.rd2
 erw[RD] at h1 h2
 exact⟨h1,h2⟩
theorem zf6:z9v G F (λx y H Q=>rI0 (λi j=> .int (i+j)) x y H Q\/z8c G.K x y H Q\/zhG x y H Q\/∃i j,x= .str i/\y= .str j/\i.length+j.length<=sizeLine/\Q (.str (i++j)) H) v1:=by
 intro ρ s t t' v u H σv tv Q M W
 unfold v1 at W
 split at W
 .obtain⟨rfl,rfl⟩:=z2Q M
  exact .inl ⟨_,_,rfl,rfl,λ_=>W.flat M.m rfl⟩
 .split at W
  .rename_i a b hz
   obtain⟨h1,h2⟩:=M.rd2
   obtain⟨l1,l2⟩:=M.lb2
   obtain⟨p,xs,rfl,s1,r1⟩:=h1.tupx
   obtain⟨q,ys,rfl,s2,r2⟩:=h2.tupx
   refine .inr (.inl ⟨p,q,xs,ys,rfl,rfl,s1,s2,by rw[<-r1.length,<-r2.length];exact hz,z3p W M.m (r1.append r2) ?_⟩)
   rw[j7]
   intro l hl
   rcases c7.mp hl with q|q
   .exact l1 l (by simpa only[y3] using q)
   .exact l2 l (by simpa only[y3] using q)
  .exact wfl W
 .split at W
  .rename_i la a lb b hz
   obtain⟨h1,h2⟩:=M.rd2
   obtain⟨l1,l2⟩:=M.lb2
   erw[RD] at h1 h2
   obtain⟨rfl,xs,s1,r1⟩:=h1
   obtain⟨rfl,ys,s2,r2⟩:=h2
   refine .inr (.inr (.inl ⟨_,_,xs,ys,rfl,rfl,s1,s2,by rw[<-r1.length,<-r2.length];exact hz,λp hp k=>v8 W M.m (r1.append r2) ?_ hp k⟩))
   rw[j7]
   intro l hl
   rcases c7.mp hl with q|q
   .exact l1 l (by erw[y3];exact b7 _ q)
   .exact l2 l (by erw[y3];exact b7 _ q)
  .exact wfl W
 .split at W
  .rename_i a b hz
   obtain⟨h1,h2⟩:=M.rd2
   erw[RD] at h1 h2
   subst h1 h2
   exact .inr (.inr (.inr ⟨_,_,rfl,rfl,hz,λ_=>W.flat M.m rfl⟩))
  .exact wfl W
 .exact wfl W
theorem zf7:z9v G F (rI0 λi j=> .int (i -j)) za8:=by
 intro ρ s t t' v u H σv tv Q M W
 unfold za8 at W
 split at W
 .obtain⟨rfl,rfl⟩:=z2Q M
  exact⟨_,_,rfl,rfl,λ_=>W.flat M.m rfl⟩
 .exact wfl W
theorem zcL:z9v G F (rI z9H λi j=> .int (i/j)) z1L:=by
 intro ρ s t t' v u H σv tv Q M W
 unfold z1L at W
 split at W
 .split at W
  .rename_i hc
   obtain⟨rfl,rfl⟩:=z2Q M
   exact⟨_,_,rfl,rfl,hc,λ_=>W.flat M.m rfl⟩
  .exact wfl W
 .exact wfl W
theorem zf8:z9v G F (rI (λ_ j=>0<j) λi j=> .int (i %j)) z2c:=by
 intro ρ s t t' v u H σv tv Q M W
 unfold z2c at W
 split at W
 .split at W
  .rename_i hc
   obtain⟨rfl,rfl⟩:=z2Q M
   exact⟨_,_,rfl,rfl,hc,λ_=>W.flat M.m rfl⟩
  .exact wfl W
 .exact wfl W
theorem zf9:z9v G F (rI ze0 λi j=> .int (i^j.toNat)) z8j:=by
 intro ρ s t t' v u H σv tv Q M W
 unfold z8j at W
 split at W
 .split at W
  .rename_i hc
   obtain⟨rfl,rfl⟩:=z2Q M
   exact⟨_,_,rfl,rfl,hc,λ_=>W.flat M.m rfl⟩
  .exact wfl W
 .exact wfl W
theorem zhP:v0 G F (rI0 λi j=> .bl (decide (i<j))) ltD:=by
 intro ρ s t t' v u H σv tv Q M W
 unfold ltD at W
 split at W
 .obtain⟨rfl,rfl⟩:=z2Q M
  exact⟨_,_,rfl,rfl,W.flat M.m rfl⟩
 .exact wfl W
theorem zhQ:v0 G F (rI0 λi j=> .bl (decide (i<=j))) leD:=by
 intro ρ s t t' v u H σv tv Q M W
 unfold leD at W
 split at W
 .obtain⟨rfl,rfl⟩:=z2Q M
  exact⟨_,_,rfl,rfl,W.flat M.m rfl⟩
 .exact wfl W
theorem zhR:v0 G F (rI0 λi j=> .bl (decide (j<i))) gtD:=by
 intro ρ s t t' v u H σv tv Q M W
 unfold gtD at W
 split at W
 .obtain⟨rfl,rfl⟩:=z2Q M
  exact⟨_,_,rfl,rfl,W.flat M.m rfl⟩
 .exact wfl W
theorem zhS:v0 G F (rI0 λi j=> .bl (decide (j<=i))) geD:=by
 intro ρ s t t' v u H σv tv Q M W
 unfold geD at W
 split at W
 .obtain⟨rfl,rfl⟩:=z2Q M
  exact⟨_,_,rfl,rfl,W.flat M.m rfl⟩
 .exact wfl W
theorem zhT:v0 G F (zhc G.K false) eqD:=by
 intro ρ s t t' v u H σv tv Q M W
 unfold eqD at W
 split at W
 .rename_i hc
  erw[eqC,b9,decide_eq_true_eq] at hc
  obtain⟨⟨⟨⟨c1,c2⟩,c3⟩,c4⟩,c5⟩:=hc
  obtain⟨h1,h2⟩:=M.rd2
  exact⟨er t,er t',RD.dp _ _ h1 c1,RD.dp _ _ h2 c2,c3,c4,c5,W.flat M.m rfl⟩
 .exact wfl W
theorem zhU:v0 G F (zhc G.K true) neD:=by
 intro ρ s t t' v u H σv tv Q M W
 unfold neD at W
 split at W
 .rename_i hc
  erw[eqC,b9,decide_eq_true_eq] at hc
  obtain⟨⟨⟨⟨c1,c2⟩,c3⟩,c4⟩,c5⟩:=hc
  obtain⟨h1,h2⟩:=M.rd2
  exact⟨er t,er t',RD.dp _ _ h1 c1,RD.dp _ _ h2 c2,c3,c4,c5,W.flat M.m rfl⟩
 .exact wfl W
theorem RD.dpSeq{ρ:Nat->Addr}{H:Hp}{t:D}{v:V}{ds:List D}(h:RD G ρ H t v)(e:z7x t=some ds)(p:plainL ds=true):Dp G.K H (.list (erL ds)) v\/Dp G.K H (.tuple (erL ds)) v:=by
 obtain⟨a,xs,rfl,sq,r,_⟩:=h.seq e
 have d:=RDs.dp ds xs r p
 rcases sq with sq|sq
 .exact .inl (by erw[Dp];exact⟨a,xs,rfl,sq,d⟩)
 .exact .inr (by erw[Dp];exact⟨a,xs,rfl,sq,d⟩)
theorem zhV:v0 G F (zjE G.K false) inD:=by
 intro ρ s t t' v u H σv tv Q M W
 unfold inD at W
 cases e:z7x t' with
 |some ds=>
  rw[e] at W
  dsimp only at W
  split at W
  .rename_i hc
   erw[inC,b9,decide_eq_true_eq] at hc
   obtain⟨⟨⟨⟨c1,c2⟩,c3⟩,c4⟩,c5⟩:=hc
   obtain⟨h1,h2⟩:=M.rd2
   exact⟨er t,erL ds,RD.dp _ _ h1 c1,h2.dpSeq e c2,c3,c4,c5,W.flat M.m rfl⟩
  .exact wfl W
 |none=>rw[e] at W;exact wfl W
theorem RD.non_iff{ρ:Nat->Addr}{H:Hp}{t:D}{v:V}(h:RD G ρ H t v):v= .non↔t= .non:=by
 cases t<;>erw[RD] at h<;>(try (subst h;simp))<;>(try (obtain⟨a,xs,rfl,_⟩:=h;simp))<;>(try (obtain⟨rfl,_⟩:=h;simp))<;>(try (obtain⟨a,o,C,rfl,_⟩:=h;simp))<;>(try (obtain⟨a,rfl,_⟩:=h;simp))
theorem zfa:v0 G F (λx y H Q=>y= .non/\Q (.bl (decide (x= .non))) H) isN:=by
 intro ρ s t t' v u H σv tv Q M W
 obtain⟨h1,h2⟩:=M.rd2
 have e1:=h1.non_iff
 unfold isN at W
 split at W
 .erw[RD] at h2
  exact⟨h2,by rw[decide_eq_true (e1.mpr rfl)];exact W.flat M.m rfl⟩
 .rename_i ne
  erw[RD] at h2
  exact⟨h2,by rw[decide_eq_false (λz=>ne (e1.mp z))];exact W.flat M.m rfl⟩
 .exact wfl W
theorem zcM:v0 G F (λx y H Q=>y= .non/\Q (.bl (!decide (x= .non))) H) zbp:=by
 intro ρ s t t' v u H σv tv Q M W
 obtain⟨h1,h2⟩:=M.rd2
 have e1:=h1.non_iff
 unfold zbp at W
 split at W
 .erw[RD] at h2
  exact⟨h2,by rw[decide_eq_true (e1.mpr rfl)];exact W.flat M.m rfl⟩
 .rename_i ne
  erw[RD] at h2
  exact⟨h2,by rw[decide_eq_false (λz=>ne (e1.mp z))];exact W.flat M.m rfl⟩
 .exact wfl W
theorem zfb{ρ:Nat->Addr}{H:Hp}{ds:List D}{xs:List V}{i:Int}{d:D}(r:RDs G ρ H ds xs)(e:atI ds i=some d): ∃x,atI xs i=some x/\RD G ρ H d x:=by
 unfold atI at e⊢
 rw[<-r.length]
 cases e1:ixN ds.length i with
 |none=>rw[e1] at e;cases e
 |some j=>
  rw[e1] at e
  exact r.get j d e
theorem zcN{α:Type}{ds:List α}{i:Int}{d:α}(e:atI ds i=some d):d∈ds:=by
 unfold atI at e
 cases e1:ixN ds.length i with
 |none=>rw[e1] at e;cases e
 |some j=>
  rw[e1] at e
  exact List.mem_of_getElem? e
theorem zhW:z9v G F (λx y H Q=>zjA G.K x y H Q\/zjB G.K x y H Q) ixD:=by
 intro ρ s t t' v u H σv tv Q M W
 obtain⟨h1,h2⟩:=M.rd2
 unfold ixD at W
 cases e:z7x t with
 |none=>rw[e] at W;exact False.elim W
 |some ds=>
  rw[e] at W
  cases t' with
  |int i=>
   have W:wM G F σv tv (zcK (atI ds i) s) Q:=W
   cases ea:atI ds i with
   |some d=>
    rw[ea] at W
    obtain⟨a,xs,rfl,sq,r,sub⟩:=h1.seq e
    obtain⟨x,ex,rx⟩:=zfb r ea
    erw[RD] at h2
    subst h2
    have fin:KD G.K H->Q x H:=λ_=>W.out M.m rx λl hl=>M.lb2.1 l (sub l (labsL_mem (zcN ea) l hl))
    rcases sq with sq|sq
    .exact .inl ⟨a,xs,i,x,rfl,rfl,sq,ex,fin⟩
    .exact .inr ⟨a,xs,i,x,rfl,rfl,sq,ex,fin⟩
   |none=>rw[ea] at W;exact False.elim W
  |_=>exact False.elim W
theorem zfc:zhM G F (rU λi=> .int (-i)) zbq:=by
 intro ρ s t v H σv tv Q M W
 unfold zbq at W
 split at W
 .have h:=M.rd1
  erw[RD] at h
  exact⟨_,h,λ_=>W.flat M.m rfl⟩
 .exact wfl W
end
section
variable{X:Cx}{G:Gx}{F:Fy}{e a b c:Expr}{pos:Pos}
theorem RDs.flat{ρ:Nat->Addr}{H:Hp}{ds:List D}{xs:List V}(r:RDs G ρ H ds xs): ∀k:Nat,RDs G ρ H (e8 k ds).flatten (e8 k xs).flatten
 |0=>by simp[RDs]
 |k+1=>by
  rw[p5,p5,A8,A8]
  exact r.append (RDs.flat r k)
theorem z1k{ds:List D}{l:Nat}: ∀k:Nat,l∈labsL (e8 k ds).flatten->l∈labsL ds
 |0,h=>by simp[labsL] at h
 |k+1,h=>by
  rw[p5,A8,j7] at h
  rcases c7.mp h with h|h
  .exact h
  .exact z1k k h
theorem zfd:z9v G F (λx y H Q=>rI z9I (λi j=> .int (i*j)) x y H Q\/(zhH x y H Q\/zcF G.K x y H Q)) z3q:=by
 intro ρ s t t' v u H σv tv Q M W
 unfold z3q at W
 split at W
 .split at W
  .rename_i hc
   obtain⟨rfl,rfl⟩:=z2Q M
   exact .inl ⟨_,_,rfl,rfl,hc,λ_=>W.flat M.m rfl⟩
  .exact wfl W
 .split at W
  .rename_i la a k hc
   obtain⟨h1,h2⟩:=M.rd2
   obtain⟨l1,l2⟩:=M.lb2
   erw[RD] at h1 h2
   obtain⟨rfl,xs,s1,r1⟩:=h1
   subst h2
   refine .inr (.inl ⟨_,k,xs,rfl,rfl,s1,hc.1,hc.2.1,by rw[<-r1.length];exact hc.2.2,λp hp kd=>v8 W M.m (r1.flat _) (λl hl=> ?_) hp kd⟩)
   exact l1 l (by erw[y3];exact b7 _ (z1k _ hl))
  .exact wfl W
 .split at W
  .rename_i a k hc
   obtain⟨h1,h2⟩:=M.rd2
   obtain⟨l1,l2⟩:=M.lb2
   erw[RD] at h1 h2
   obtain⟨a',xs,rfl,s1,r1⟩:=h1
   subst h2
   refine .inr (.inr ⟨_,k,xs,rfl,rfl,SqT.of s1,by rw[<-r1.length];exact hc.1,hc.2.1,hc.2.2.1,by rw[<-r1.length];exact hc.2.2.2,λp hp kd=>z8i W M.m (r1.flat _) (λl hl=> ?_) hp kd⟩)
   exact l1 l (by erw[y3];exact z1k _ hl)
  .exact wfl W
 .exact wfl W
def z7y{α:Type}(xs:List α)(lo hi:Option Int):List α:=(xs.drop (HT.sIx xs.length 0 lo)).take (HT.sIx xs.length xs.length hi -HT.sIx xs.length 0 lo)
def slD:D->Option Int->Option Int->M D
 | .tup ds,lo,hi=>rt (.tup (z7y ds lo hi))
 | .lst _ ds,lo,hi=>z9w (z7y ds lo hi)
 | .ro ds,lo,hi=>z9w (z7y ds lo hi)
 |_,_,_=>fl
theorem RDs.cut{ρ:Nat->Addr}{H:Hp}{ds:List D}{xs:List V}(r:RDs G ρ H ds xs)(lo hi:Option Int):RDs G ρ H (z7y ds lo hi) (z80 xs lo hi):=by
 unfold z7y z80
 rw[r.length]
 exact(r.drop _).take _
theorem z2d{ds:List D}{lo hi:Option Int}{l:Nat}(h:l∈labsL (z7y ds lo hi)):l∈labsL ds:=by
 obtain⟨d,h1,h2⟩:=g7 h
 exact labsL_mem (E8 (E9 h1)) l h2
def mInt(d:D):Option Int:=match d with| .int i=>some i|_=>none
def z2R:Option (M D)->M (Option Int)
 |none=>rt none
 |some m=>bd m λd=>match mInt d with|some i=>rt (some i)|none=>fl
def tP(G:Gx)(F:Fy)(m:M (Option Int)):TO:=λ σv H Q=> ∃tv,F.tv0<:+tv/\∃ρ s,MR G F.toFx ρ H σv tv s/\(match m s with
 | .ok o s'=> ∀ρ' H',MR G F.toFx ρ' H' σv tv s'->Q o H'
 | .ex d s'=>F.xw d s'
 | .no=>False)
def SO(X:Cx)(G:Gx)(F:Fy)(e:Option Expr)(m:Option (M D)):Prop:=PO X e (tP G F (z2R m))
theorem so_none:SO X G F none none:=by
 intro pins s σ H Q I ⟨tv,hs,ρ,ms,M,W⟩
 exact zcp pins s σ H Q I (W ρ H M)
theorem so_some{m:M D}(h:SE X G F e m):SO X G F (some e) (some m):=by
 intro pins s σ H Q I ⟨tv,hs,ρ,ms,M,W⟩
 refine z7Z h pins s σ H Q I ⟨tv,hs,ρ,ms,M, ?_⟩
 erw[z2R,bd] at W
 cases e1:m ms with
 |ok d s1=>
  rw[e1] at W
  intro ρ' v H' M'
  cases d with
  |int i=>
   have h:=M'.rd1
   erw[RD] at h
   exact⟨i,h,W ρ' H' M'.m⟩
  |_=>exact False.elim W
 |ex d s1=>rw[e1] at W;exact W
 |no=>rw[e1] at W;exact W
def mSl(m:M D)(lo hi:Option (M D)):M D:=bd m λx=>bd (psh x) λ_=>bd (z2R lo) λl=>bd (z2R hi) λh=>bd pop λx'=>slD x' l h
theorem zhX{ρ:Nat->Addr}{s:Stt}{t:D}{v:V}{H:Hp}{σv tv:List (Option V)}{lo hi:Option Int}{Q:VK}(M:MRL G F.toFx ρ H σv tv s [t] [v])(W:wM G F σv tv (slD t lo hi s) Q):
 zhL G.K v lo hi H (λw H'=>KD G.K H'->Q w H')\/zhE G.K v lo hi H (λw H'=>KD G.K H'->Q w H'):=by
 have h:=M.rd1
 cases t with
 |tup ds=>
  obtain⟨p,xs,rfl,s1,r1⟩:=h.tupx
  exact .inl ⟨p,xs,rfl,s1,z3p W M.m (r1.cut lo hi) λl hl=>M.lb1 l (by erw[y3];exact z2d hl)⟩
 |lst n ds=>
  obtain⟨p,xs,rfl,s1,r1,_⟩:=h.lstq (ds:=ds) rfl
  exact .inr ⟨p,xs,rfl,s1,λq hq k=>v8 W M.m (r1.cut lo hi) (λl hl=>M.lb1 l (by erw[y3];exact b7 _ (z2d hl))) hq k⟩
 |ro ds=>
  obtain⟨p,xs,rfl,s1,r1,_⟩:=h.lstq (ds:=ds) rfl
  exact .inr ⟨p,xs,rfl,s1,λq hq k=>v8 W M.m (r1.cut lo hi) (λl hl=>M.lb1 l (by erw[y3];exact z2d hl)) hq k⟩
 |_=>exact False.elim W
theorem se_slice{lo hi:Option Expr}{p2:Pos}{m:M D}{ml mh:Option (M D)}(hk:X.K=G.K)(he:SE X G F e m)(hl:SO X G F lo ml)(hh:SO X G F hi mh):SE X G F (.Subscript e (.Slice lo hi none p2) pos) (mSl m ml mh):=by
 refine PE.imp hk (z9V (r:=λx lo hi H Q=>zhL X.K x lo hi H Q\/zhE X.K x lo hi H Q) (SlR.or zcE zct) he hl hh) λ σ H Q ⟨tv,h⟩=>⟨tv, ?_⟩
 obtain⟨hs,ρ,s,M,W⟩:=z1K h
 refine⟨hs,ρ,s,M,W.mono λv H1 ⟨ρ1,s1,t,M1,W1⟩=>⟨some v::tv,z7w hs,ρ1,s1.psh t,M1.push, ?_⟩⟩
 erw[bd,psh] at W1
 cases e1:z2R ml (s1.psh t) with
 |ex d s2=>rw[e1] at W1;exact W1
 |no=>rw[e1] at W1;exact W1
 |ok l s2=>
  rw[e1] at W1
  intro ρ2 H2 M2
  refine⟨some v::tv,z7w hs,ρ2,s2,M2, ?_⟩
  dsimp only at W1
  cases e2:z2R mh s2 with
  |ex d s3=>rw[e2] at W1;exact W1
  |no=>rw[e2] at W1;exact W1
  |ok h s3=>
   rw[e2] at W1
   intro ρ3 H3 M3
   erw[pop] at W1
   cases e3:s3.tm with
   |nil=>rw[e3] at W1;exact W1.elim
   |cons o r=>
    cases o with
    |none=>rw[e3] at W1;exact W1.elim
    |some t'=>
     rw[e3] at W1
     have M4:MRL G F.toFx ρ3 H3 σ tv {s3 with tm:=r} [t'] [v]:=MRL.down (ts:=[]) (vs:=[]) ⟨M3,rfl,λl h=>by simp[labsL] at h⟩ e3
     rw[hk]
     exact zhX M4 W1
def j4(ts:List D):M D:=if ts.length<=sizeLine then rt (.tup ts) else fl
def lstM(ts:List D):M D:=if ts.length<=sizeLine then z9w ts else fl
theorem zfe:J6 G F (λxs H1 Q=>xs.length<=sizeLine/\∀p,H1 p=none->Q (.ref p) (upd H1 p (.tup xs))) j4:=by
 intro ρ s ts vs H σv tv Q M W
 unfold j4 at W
 split at W
 .rename_i hz
  exact⟨by rw[<-M.rd.length];exact hz,λp hp k=>z8i W M.m M.rd M.lb hp k⟩
 .exact wfl W
theorem zff:J6 G F (λxs H1 Q=>xs.length<=sizeLine/\∀p,H1 p=none->Q (.ref p) (upd H1 p (.lst xs))) lstM:=by
 intro ρ s ts vs H σv tv Q M W
 unfold lstM at W
 split at W
 .rename_i hz
  exact⟨by rw[<-M.rd.length];exact hz,λp hp k=>v8 W M.m M.rd M.lb hp k⟩
 .exact wfl W
theorem se_tup{es:List Expr}{ms:List (M D)}{x1}(hk:X.K=G.K)(h:SA X G F es (Z7 ms)):SE X G F (.Tuple es x1 pos) (mCB ms j4):=
 PE.imp hk (z46 h) λ_ _ _ h=>z1R zfe h
theorem se_lst{es:List Expr}{ms:List (M D)}(hk:X.K=G.K)(h:SA X G F es (Z7 ms)):SE X G F (.List es pos) (mCB ms lstM):=
 PE.imp hk (zeJ h) λ_ _ _ h=>z1R zff h
def zfg:D->M Bool
 | .non=>rt false
 | .bool b=>rt b
 | .int i=>rt (i !=0)
 | .str x=>if x.length<=sizeLine then rt ((x.length:Int) !=0) else fl
 | .tup ds=>rt (!ds.isEmpty)
 | .ro ds=>rt (!ds.isEmpty)
 | .lst _ ds=>rt (!ds.isEmpty)
 |_=>fl
def G1(m:M D):M Bool:=bd m zfg
theorem z1l{ρ:Nat->Addr}{H:Hp}{ds:List D}{xs:List V}(r:RDs G ρ H ds xs):(!ds.isEmpty)= !xs.isEmpty:=by
 have:=r.length
 cases ds<;>cases xs<;>simp at this⊢
theorem zfh{ρ:Nat->Addr}{s:Stt}{t:D}{v:V}{H:Hp}{σv tv:List (Option V)}{Q:Bool->Hp->Prop}(M:MRL G F.toFx ρ H σv tv s [t] [v])(W:wB G F σv tv (zfg t s) Q): ∃k,TruV G.K v H k/\Q k H:=by
 have h:=M.rd1
 cases t with
 |non=>erw[RD] at h;subst h;exact⟨false,rfl,W ρ H M.m⟩
 |bool b=>erw[RD] at h;subst h;exact⟨b,rfl,W ρ H M.m⟩
 |int i=>erw[RD] at h;subst h;exact⟨_,rfl,W ρ H M.m⟩
 |str x=>
  erw[RD] at h;subst h
  unfold zfg at W
  by_cases hz:x.length<=sizeLine
  .erw[if_pos hz] at W;exact⟨_,⟨hz,rfl⟩,W ρ H M.m⟩
  .erw[if_neg hz] at W;exact False.elim W
 |tup ds=>
  obtain⟨p,xs,rfl,s1,r1⟩:=h.tupq
  exact⟨_, .inr (.inl ⟨xs,s1,z1l r1⟩),W ρ H M.m⟩
 |ro ds=>
  obtain⟨p,xs,rfl,s1,r1,_⟩:=h.lstq (ds:=ds) rfl
  exact⟨_, .inl ⟨xs,s1,z1l r1⟩,W ρ H M.m⟩
 |lst n ds=>
  obtain⟨p,xs,rfl,s1,r1,_⟩:=h.lstq (ds:=ds) rfl
  exact⟨_, .inl ⟨xs,s1,z1l r1⟩,W ρ H M.m⟩
 |dct _ _ _=>exact False.elim W
 |fdc _ _=>exact False.elim W
 |obj _ _ _ _=>exact False.elim W
 |exc _=>exact False.elim W
 |fn _=>exact False.elim W
theorem za9{m:M D}{σ:St}{H:Hp}{Q:Bool->Hp->Prop}(h:tMB G F (G1 m) σ H Q):tM G F m σ H λx H'=> ∃k,TruV G.K x H' k/\Q k H':=by
 obtain⟨tv,hs,ρ,s,M,W⟩:=h
 refine⟨tv,hs,ρ,s,M, ?_⟩
 unfold G1 bd at W
 cases e:m s with
 |ok t s1=>rw[e] at W;exact λ ρ1 v H1 M1=>zfh M1 W
 |ex d s1=>rw[e] at W;exact W
 |no=>rw[e] at W;exact W
theorem sb_truth{m:M D}(hk:X.K=G.K)(ha:SE X G F a m)(he: ∀whole,isTrue a X.env whole=(do let v<-whole;standAt a.pos;holding [v] (truthy v)):=by intro _;rfl):SB X G F a (G1 m):=by
 refine PT.imp hk (z9L ha he) λ σ H Q h=> ?_
 rw[hk]
 obtain⟨tv,h'⟩:=za9 h
 exact⟨tv,h'.mono λv H1 ⟨k,q1,q2⟩=>⟨k,q1,λ_=>q2⟩⟩
def ze3:D->M Bool
 | .bool b=>rt b
 |_=>fl
def W8(m:M D):M Bool:=bd m ze3
theorem z8k{m:M D}{σ:St}{H:Hp}{Q:Bool->Hp->Prop}(h:tMB G F (W8 m) σ H Q):tM G F m σ H λx H'=> ∃k,x= .bl k/\Q k H':=by
 obtain⟨tv,hs,ρ,s,M,W⟩:=h
 refine⟨tv,hs,ρ,s,M, ?_⟩
 unfold W8 bd at W
 cases e:m s with
 |ok t s1=>
  rw[e] at W
  intro ρ1 v H1 M1
  have h:=M1.rd1
  cases t with
  |bool b=>erw[RD] at h;exact⟨b,h,W ρ1 H1 M1.m⟩
  |_=>exact False.elim W
 |ex d s1=>rw[e] at W;exact W
 |no=>rw[e] at W;exact W
theorem zcO{op:CmpOp}{r:R2}{ma mb:M D}{g:D->D->M D}(ho:OpR X (compareOp op) r)(hg:v0 G F r g)(ha:SE X G F a ma)(hb:SE X G F b mb)(hm:behindInMarks op b=false):SB X G F (.Compare a [op] [b] pos) (W8 (Z0 ma mb g)):=
 PT.imp0 (zcg ho ha hb hm) λ_ _ _ h=>z67 hg (z8k h)
theorem zcP{m:M Bool}{f:Bool->M Bool}{σ:St}{tv:List (Option V)}{H:Hp}{Q:Bool->Hp->Prop}(h:tBv G F (bd m f) σ tv H Q):tBv G F m σ tv H λb H1=> ∃ρ1 s1,MR G F.toFx ρ1 H1 σ tv s1/\wB G F σ tv (f b s1) Q:=by
 obtain⟨hs,ρ,s,M,W⟩:=h
 refine⟨hs,ρ,s,M, ?_⟩
 unfold bd at W
 cases e:m s with
 |ok b s1=>rw[e] at W;exact λ ρ1 H1 M1=>⟨ρ1,s1,M1,W⟩
 |ex d s1=>rw[e] at W;exact W
 |no=>rw[e] at W;exact W
theorem wB.mono{σv tv:List (Option V)}{r:Res Bool}{Q Q':Bool->Hp->Prop}(h:wB G F σv tv r Q)(k: ∀v H,Q v H->Q' v H):wB G F σv tv r Q':=by
 cases r with
 |ok t s=>exact λ ρ H M=>k _ _ (h ρ H M)
 |ex d s=>exact h
 |no=>exact h
theorem tBv.mono{m:M Bool}{σv tv:List (Option V)}{H:Hp}{Q Q':Bool->Hp->Prop}(h:tBv G F m σv tv H Q)(k: ∀v H,Q v H->Q' v H):tBv G F m σv tv H Q':=by
 obtain⟨hs,ρ,s,M,W⟩:=h
 exact⟨hs,ρ,s,M,W.mono k⟩
def z4l{α:Type}(b:Bool)(m m':M α):M α:=match b with|true=>m|false=>m'
def z8l(m m':M Bool):M Bool:=bd m λb=>z4l b m' (rt false)
def mOr(m m':M Bool):M Bool:=bd m λb=>z4l b (rt true) m'
def z2M(m:M Bool):M Bool:=bd m λb=>rt (!b)
def SW(X:Cx)(G:Gx)(F:Fy)(e:Expr)(m:M Bool):Prop:=PW X e (tMB G F m)
theorem SW.sb{m:M Bool}(h:SW X G F e m):SB X G F e m:=PW.pt h
theorem PW.imp0{t t':TT}(h:PW X e t)(hi: ∀σ H Q,t' σ H Q->t σ H Q):PW X e t':=λwh pins s σ H Q I q=>h wh pins s σ H _ I (hi σ H Q q)
theorem sw_and1{m:M Bool}(h:SB X G F a m):SW X G F (.BoolOp .And [a] pos) m:=zc7 h
theorem sw_or1{m:M Bool}(h:SB X G F a m):SW X G F (.BoolOp .Or [a] pos) m:=zeo h
theorem sw_and{rest:List Expr}{m m':M Bool}(ha:SB X G F a m)(hb:SW X G F (.BoolOp .And (b::rest) pos) m'):SW X G F (.BoolOp .And (a::b::rest) pos) (z8l m m'):=by
 refine PW.imp0 (zep ha hb) λ σ H Q ⟨tv,h⟩=>⟨tv,(zcP h).mono λb H1 ⟨ρ1,s1,M1,W⟩=> ?_⟩
 cases b with
 |true=>rw[if_pos rfl];exact⟨tv,h.1,ρ1,s1,M1,W⟩
 |false=>rw[if_neg i5];exact W ρ1 H1 M1
theorem sw_or{rest:List Expr}{m m':M Bool}(ha:SB X G F a m)(hb:SW X G F (.BoolOp .Or (b::rest) pos) m'):SW X G F (.BoolOp .Or (a::b::rest) pos) (mOr m m'):=by
 refine PW.imp0 (zhk ha hb) λ σ H Q ⟨tv,h⟩=>⟨tv,(zcP h).mono λb H1 ⟨ρ1,s1,M1,W⟩=> ?_⟩
 cases b with
 |true=>rw[if_pos rfl];exact W ρ1 H1 M1
 |false=>rw[if_neg i5];exact⟨tv,h.1,ρ1,s1,M1,W⟩
theorem sb_not{m:M Bool}(ha:SB X G F a m):SB X G F (.UnaryOp .Not a pos) (z2M m):=by
 refine PT.imp0 (zeq ha) λ σ H Q ⟨tv,h⟩=>⟨tv,(zcP h).mono λb H1 ⟨ρ1,s1,M1,W⟩=>W ρ1 H1 M1⟩
def z1M(m m':M D):M D:=bd (W8 m) λb=>z4l b m' (rt (.bool false))
def zfi(m m':M D):M D:=bd (W8 m) λb=>z4l b (rt (.bool true)) m'
def z72(m:M D):M D:=bd (W8 m) λb=>rt (.bool (!b))
theorem z8m{m:M D}{f:Bool->M D}{σ:St}{H:Hp}{Q:VK}(h:tM G F (bd (W8 m) f) σ H Q):tM G F m σ H λx H1=> ∃k,x= .bl k/\∃ρ1 s1 tv,F.tv0<:+tv/\MR G F.toFx ρ1 H1 σ tv s1/\wM G F σ tv (f k s1) Q:=by
 obtain⟨tv,hs,ρ,s,M,W⟩:=h
 refine⟨tv,hs,ρ,s,M, ?_⟩
 unfold W8 bd at W
 cases e:m s with
 |ok t s1=>
  rw[e] at W
  intro ρ1 v H1 M1
  have h:=M1.rd1
  cases t with
  |bool b=>erw[RD] at h;exact⟨b,h,ρ1,s1,tv,hs,M1.m,W⟩
  |_=>exact False.elim W
 |ex d s1=>rw[e] at W;exact W
 |no=>rw[e] at W;exact W
theorem tM.mono{m:M D}{σ:St}{H:Hp}{Q Q':VK}(h:tM G F m σ H Q)(k: ∀v H,Q v H->Q' v H):tM G F m σ H Q':=by
 obtain⟨tv,h⟩:=h
 exact⟨tv,h.mono k⟩
theorem se_one{op}{m:M D}(h:SE X G F a m):SE X G F (.BoolOp op [a] pos) m:=zer h
theorem se_and{rest:List Expr}{m m':M D}(ha:SE X G F a m)(hb:SE X G F (.BoolOp .And (b::rest) pos) m'):SE X G F (.BoolOp .And (a::b::rest) pos) (z1M m m'):=by
 refine PE.imp0 (zes ha hb) λ σ H Q h=>(z8m h).mono λx H1 ⟨k,e,ρ1,s1,tv,hs,M1,W⟩=>⟨k,e, ?_⟩
 cases k with
 |true=>rw[if_pos rfl];exact⟨tv,hs,ρ1,s1,M1,W⟩
 |false=>rw[if_neg i5];exact W.flat M1 rfl
theorem se_or{rest:List Expr}{m m':M D}(ha:SE X G F a m)(hb:SE X G F (.BoolOp .Or (b::rest) pos) m'):SE X G F (.BoolOp .Or (a::b::rest) pos) (zfi m m'):=by
 refine PE.imp0 (zhn ha hb) λ σ H Q h=>(z8m h).mono λx H1 ⟨k,e,ρ1,s1,tv,hs,M1,W⟩=>⟨k,e, ?_⟩
 cases k with
 |true=>rw[if_pos rfl];exact W.flat M1 rfl
 |false=>rw[if_neg i5];exact⟨tv,hs,ρ1,s1,M1,W⟩
theorem se_not{m:M D}(ha:SE X G F a m):SE X G F (.UnaryOp .Not a pos) (z72 m):=by
 refine PE.imp0 (zet ha) λ σ H Q h=>(z8m h).mono λx H1 ⟨k,e,ρ1,s1,tv,hs,M1,W⟩=>⟨k,e,W.flat M1 rfl⟩
def z73(y:D)(m:M D):M D:=match cV y with|some _=>m|none=>fl
def U3(ma mb mc:M D)(g g':D->D->M D):M D:=bd ma λx=>bd (psh x) λ_=>bd mb λy=>bd pop λx'=>z73 y (bd (W8 (g x' y)) λk=>z4l k (bd mc λz=>g' y z) (rt (.bool false)))
theorem z4m{ma mb mc:M D}{g g':D->D->M D}{r r':R2}{σ:St}{H:Hp}{Q:VK}(hg:v0 G F r g)(hg':v0 G F r' g')(h:tM G F (U3 ma mb mc g g') σ H Q):z7Q r r' (tM G F ma) (tM G F mb) (tM G F mc) σ H Q:=by
 obtain⟨tv,h⟩:=h
 have hs:=h.1
 refine⟨tv,(z66 (g:=λx' y=>z73 y (bd (W8 (g x' y)) λk=>z4l k (bd mc λz=>g' y z) (rt (.bool false)))) h).mono λv H1 h1=>⟨_,h1.mono λu H2 ⟨ρ,s,t,t',M,W⟩=> ?_⟩⟩
 unfold z73 at W
 cases e:cV t' with
 |none=>rw[e] at W;exact False.elim W
 |some u'=>
  rw[e] at W
  have hu:u=u':=by
   have h2:=M.rd2.2
   cases t'<;>erw[cV,Option.some.injEq] at e<;>erw[RD] at h2<;>first|(rw[h2,e])|cases e
  subst hu
  unfold bd W8 at W
  dsimp only at W
  refine hg ρ s t t' v u H2 σ tv _ M ?_
  unfold bd at W
  cases e2:g t t' s with
  |ok z s1=>
   rw[e2] at W
   intro ρ1 w H3 M3
   have h3:=M3.rd1
   cases z with
   |bool k=>
    erw[RD] at h3
    refine⟨k,h3, ?_⟩
    have W:wM G F σ tv (z4l k (bd mc λz=>g' t' z) (rt (.bool false)) s1) Q:=W
    cases k with
    |false=>rw[if_neg i5];exact W.flat M3.m rfl
    |true=>
     rw[if_pos rfl]
     have h5:tMv G F (bd mc λz=>g' t' z) σ tv H3 Q:=⟨hs,ρ1,s1,M3.m,W⟩
     refine⟨tv,(z1K h5).mono λw' H4 ⟨ρ4,s4,t4,M4,W4⟩=>hg' ρ4 s4 t' t4 u w' H4 σ tv Q ⟨M4.m, ?_,λl hl=> ?_⟩ W4⟩
     .erw[RDs];exact⟨_,_,rfl,(z71 e).1,_,_,rfl,M4.rd1,rfl⟩
     .erw[labsL,(z71 (G:=G) (ρ:=ρ4) (H:=H4) e).2,m5,e7] at hl
      exact M4.lb1 l hl
   |_=>exact False.elim W
  |ex d s1=>rw[e2] at W;exact W
  |no=>rw[e2] at W;exact W
theorem zaa{op op':CmpOp}{r r':R2}{ma mb mc:M D}{g g':D->D->M D}(ho:OpR X (compareOp op) r)(hg:v0 G F r g)(ho':OpR X (compareOp op') r')(hg':v0 G F r' g')(ha:SE X G F a ma)(hb:SE X G F b mb)(hc:SE X G F c mc)
 (hm:lastMarks [op,op'] [b,c]=false:=by with_unfolding_all rfl):SE X G F (.Compare a [op,op'] [b,c] pos) (U3 ma mb mc g g'):=
 PE.imp0 (z9J ho ho' ha hb hc hm) λ_ _ _ h=>z4m hg hg' h
theorem zab{op op':CmpOp}{r r':R2}{ma mb mc:M D}{g g':D->D->M D}(ho:OpR X (compareOp op) r)(hg:v0 G F r g)(ho':OpR X (compareOp op') r')(hg':v0 G F r' g')(ha:SE X G F a ma)(hb:SE X G F b mb)(hc:SE X G F c mc)
 (hm:lastMarks [op,op'] [b,c]=false:=by with_unfolding_all rfl):SB X G F (.Compare a [op,op'] [b,c] pos) (W8 (U3 ma mb mc g g')):=
 PT.imp0 (z9K ho ho' ha hb hc hm) λ_ _ _ h=>z4m hg hg' (z8k h)
end
def z2S:List D->M D
 |[.tup ds]=>rt (.int ds.length)
 |[.ro ds]=>rt (.int ds.length)
 |[.lst _ ds]=>rt (.int ds.length)
 |_=>fl
def ze4:List D->M D
 |[.int i]=>rt (.int (if i<0 then -i else i))
 |_=>fl
def zcQ:List D->M D
 |[.int i, .int j]=>rt (.int (if j<i then j else i))
 |_=>fl
def ze5:List D->M D
 |[.int i, .int j]=>rt (.int (if j>i then j else i))
 |_=>fl
def G2:List D->Option (List Bool)
 |[]=>some []
 | .bool b::r=>(G2 r).map (b:: ·)
 |_=>none
def zcR:List D->M D
 |[.lst _ ds]=>match G2 ds with|some bs=>rt (.bool (bs.all id))|none=>fl
 |_=>fl
def zbr:List D->M D
 |[.int i]=>rt (.int i)
 |[.bool b]=>rt (.int (if b then 1 else 0))
 |_=>fl
def zac:List D->M D
 |[.tup ds]=>rt (.tup ds)
 |[.ro ds]=>rt (.tup ds)
 |[.lst _ ds]=>rt (.tup ds)
 |_=>fl
def z74:List D->M D
 |[.tup ds]=>z9w ds
 |[.ro ds]=>z9w ds
 |[.lst _ ds]=>z9w ds
 |_=>fl
section
variable{X:Cx}{G:Gx}{F:Fy}{e a b c:Expr}{pos:Pos}
theorem MRL.one{ρ:Nat->Addr}{H:Hp}{σv tv:List (Option V)}{s:Stt}{t:D}{vs:List V}(M:MRL G F.toFx ρ H σv tv s [t] vs): ∃v,vs=[v]/\RD G ρ H t v/\LB F.toFx ρ s.n (y3 t):=by
 have h:=M.rd
 erw[RDs] at h
 obtain⟨v,r,rfl,h,rfl⟩:=h
 exact⟨v,rfl,h,M.lb1⟩
theorem MRL.two{ρ:Nat->Addr}{H:Hp}{σv tv:List (Option V)}{s:Stt}{t t':D}{vs:List V}(M:MRL G F.toFx ρ H σv tv s [t,t'] vs): ∃v u,vs=[v,u]/\RD G ρ H t v/\RD G ρ H t' u:=by
 have h:=M.rd
 erw[RDs] at h
 obtain⟨v,r,rfl,h,u,q,rfl,h',rfl⟩:=h
 exact⟨v,u,rfl,h,h'⟩
theorem zfj:J6 G F (λxs H Q=> ∃p ys,xs=[.ref p]/\(SqL G.K H p ys\/SqT G.K H p ys)/\Q (.int ys.length) H) z2S:=by
 intro ρ s ts vs H σv tv Q M W
 unfold z2S at W
 split at W
 .obtain⟨v,rfl,h,_⟩:=M.one
  obtain⟨p,xs,rfl,s1,r1,_⟩:=h.seq rfl
  exact⟨p,xs,rfl,s1,λ_=>by rw[<-r1.length];exact W.flat M.m rfl⟩
 .obtain⟨v,rfl,h,_⟩:=M.one
  obtain⟨p,xs,rfl,s1,r1,_⟩:=h.seq rfl
  exact⟨p,xs,rfl,s1,λ_=>by rw[<-r1.length];exact W.flat M.m rfl⟩
 .obtain⟨v,rfl,h,_⟩:=M.one
  obtain⟨p,xs,rfl,s1,r1,_⟩:=h.seq rfl
  exact⟨p,xs,rfl,s1,λ_=>by rw[<-r1.length];exact W.flat M.m rfl⟩
 .exact wfl W
theorem zfk:J6 G F (λxs H Q=> ∃i,xs=[.int i]/\Q (.int (if i<0 then -i else i)) H) ze4:=by
 intro ρ s ts vs H σv tv Q M W
 unfold ze4 at W
 split at W
 .obtain⟨v,rfl,h,_⟩:=M.one
  erw[RD] at h
  subst h
  exact⟨_,rfl,λ_=>W.flat M.m rfl⟩
 .exact wfl W
theorem zfl:J6 G F (λxs H Q=> ∃i j,xs=[.int i, .int j]/\Q (.int (if j<i then j else i)) H) zcQ:=by
 intro ρ s ts vs H σv tv Q M W
 unfold zcQ at W
 split at W
 .obtain⟨v,u,rfl,h,h'⟩:=M.two
  erw[RD] at h h'
  subst h h'
  exact⟨_,_,rfl,λ_=>W.flat M.m rfl⟩
 .exact wfl W
theorem zfm:J6 G F (λxs H Q=> ∃i j,xs=[.int i, .int j]/\Q (.int (if j>i then j else i)) H) ze5:=by
 intro ρ s ts vs H σv tv Q M W
 unfold ze5 at W
 split at W
 .obtain⟨v,u,rfl,h,h'⟩:=M.two
  erw[RD] at h h'
  subst h h'
  exact⟨_,_,rfl,λ_=>W.flat M.m rfl⟩
 .exact wfl W
theorem z1S{ρ:Nat->Addr}{H:Hp}: ∀{ds:List D} {xs:List V} {bs:List Bool},RDs G ρ H ds xs->G2 ds=some bs->xs=bs.map V.bl
 |[],xs,bs,r,e=>by erw[RDs] at r;erw[G2,Option.some.injEq] at e;subst r e;rfl
 |d::ds,xs,bs,r,e=>by
  erw[RDs] at r
  obtain⟨x,q,rfl,h1,h2⟩:=r
  cases d with
  |bool b=>
   erw[G2] at e
   cases e1:G2 ds with
   |none=>rw[e1] at e;cases e
   |some cs=>
    rw[e1] at e
    cases e
    erw[RD] at h1
    rw[h1,z1S h2 e1];rfl
  |_=>erw[G2] at e;cases e
theorem zfn:J6 G F (λxs H Q=> ∃(p:Addr) (bs:List Bool),xs=[.ref p]/\SqL G.K H p (bs.map V.bl)/\Q (.bl (bs.all id)) H) zcR:=by
 intro ρ s ts vs H σv tv Q M W
 unfold zcR at W
 split at W
 .rename_i l ds
  cases e1:G2 ds with
  |none=>rw[e1] at W;exact False.elim W
  |some bs=>
   rw[e1] at W
   obtain⟨v,rfl,h,_⟩:=M.one
   obtain⟨p,xs,rfl,s1,r1,_⟩:=h.lstq (ds:=ds) rfl
   rw[z1S r1 e1] at s1
   exact⟨p,bs,rfl,s1,λ_=>W.flat M.m rfl⟩
 .exact wfl W
theorem zfo:J6 G F (λxs H Q=>(∃i,xs=[.int i]/\Q (.int i) H)\/∃k,xs=[.bl k]/\Q (.int (if k then 1 else 0)) H) zbr:=by
 intro ρ s ts vs H σv tv Q M W
 unfold zbr at W
 split at W
 .obtain⟨v,rfl,h,_⟩:=M.one
  erw[RD] at h
  subst h
  exact .inl ⟨_,rfl,λ_=>W.flat M.m rfl⟩
 .obtain⟨v,rfl,h,_⟩:=M.one
  erw[RD] at h
  subst h
  exact .inr ⟨_,rfl,λ_=>W.flat M.m rfl⟩
 .exact wfl W
theorem zcS:J6 G F (λxs H Q=> ∃(p:Addr) (ys:List V),xs=[.ref p]/\(SqL G.K H p ys\/H p=some (.tup ys))/\z8b G.K H ys Q) zac:=by
 intro ρ s ts vs H σv tv Q M W
 have fin: ∀(t:D) (ds:List D),ts=[t]->z7x t=some ds->wM G F σv tv (.ok (.tup ds) s) Q->∃(p:Addr) (ys:List V),vs=[.ref p]/\(SqL G.K H p ys\/H p=some (.tup ys))/\z8b G.K H ys (λw H'=>KD G.K H'->Q w H'):=λt ds et es W'=>by
  subst et
  obtain⟨v,rfl,h,lb⟩:=M.one
  obtain⟨p,xs,rfl,s1,r1,sub⟩:=h.seqx es
  exact⟨p,xs,rfl,s1,z3p W' M.m r1 λl hl=>lb l (sub l hl)⟩
 unfold zac at W
 split at W
 .exact fin _ _ rfl rfl W
 .exact fin _ _ rfl rfl W
 .exact fin _ _ rfl rfl W
 .exact wfl W
theorem zad:J6 G F (λxs H Q=> ∃p ys,xs=[.ref p]/\(SqL G.K H p ys\/SqT G.K H p ys)/\∀l,H l=none->Q (.ref l) (upd H l (.lst ys))) z74:=by
 intro ρ s ts vs H σv tv Q M W
 have fin: ∀(t:D) (ds:List D),ts=[t]->z7x t=some ds->wM G F σv tv (.ok (.lst s.n ds) s.nxt) Q->∃p ys,vs=[.ref p]/\(SqL G.K H p ys\/SqT G.K H p ys)/\∀l,H l=none->KD G.K (upd H l (.lst ys))->Q (.ref l) (upd H l (.lst ys)):=λt ds et es W'=>by
  subst et
  obtain⟨v,rfl,h,lb⟩:=M.one
  obtain⟨p,xs,rfl,s1,r1,sub⟩:=h.seq es
  exact⟨p,xs,rfl,s1,λl hl k=>v8 W' M.m r1 (λl hl=>lb l (sub l hl)) hl k⟩
 unfold z74 at W
 split at W
 .exact fin _ _ rfl rfl W
 .exact fin _ _ rfl rfl W
 .exact fin _ _ rfl rfl W
 .exact wfl W
def isiD(T:String):D->Option Bool
 | .non=>some false
 | .bool _=>some (T== "int" ||T== "bool")
 | .int _=>some (T== "int")
 | .str _=>some (T== "str")
 | .tup _=>some (T== "tuple")
 | .ro _=>some (T== "list")
 | .lst _ _=>some (T== "list")
 |_=>none
def z7z(T:String)(m:M D):M D:=bd m λd=>match isiD T d with|some b=>rt (.bool b)|none=>fl
theorem zbs{ρ:Nat->Addr}{H:Hp}{t:D}{v:V}{T:String}{b:Bool}(h:RD G ρ H t v)(e:isiD T t=some b):zbn G.K H T b v:=by
 cases t<;>erw[isiD,Option.some.injEq] at e<;>try cases e
 .erw[RD] at h;subst h;exact rfl
 .erw[RD] at h;subst h;exact rfl
 .erw[RD] at h;subst h;exact rfl
 .erw[RD] at h;subst h;exact rfl
 .obtain⟨p,xs,rfl,s1,r1⟩:=h.tupq
  exact .inl ⟨xs,s1,rfl⟩
 .obtain⟨p,xs,rfl,s1,r1,_⟩:=h.lstq rfl
  exact .inr ⟨xs,s1,rfl⟩
 .obtain⟨p,xs,rfl,s1,r1,_⟩:=h.lstq rfl
  exact .inr ⟨xs,s1,rfl⟩
theorem se_isi{p:Pos}{x y:Expr}{T:String}{m:M D}(hk:X.K=G.K)(hT:T= "int" \/T= "bool" \/T= "tuple" \/T= "list" \/T= "str")(hgl:Gl X "isinstance")(hm:X.mg "isinstance" =none)(ha:SE X G F x m)(hy:PE X y (tC (.ty T)))
 (he:starEach [x,y] X.env=(false,eval x X.env)::starEach [y] X.env:=by rfl) (he2:starEach [y] X.env=(false,eval y X.env)::starEach [] X.env:=by rfl) (hpl:(backTo pos (starEach [y] X.env)).any (·.1)=false:=by rfl):SE X G F (.Call (.Name "isinstance" p) [x,y] [] pos) (z7z T m):=by
 refine PE.imp hk (z0F za5 hgl hm PyProof.Rows.Boot.«isinstance» (Z9 ha (Z9 hy V5 he2) he) (by decide) (by decide) he hpl) λ σ H Q ⟨tv,h⟩=>⟨tv,(z1K h).mono λv H1 ⟨ρ1,s1,t,M1,W⟩=> ?_⟩
 cases e:isiD T t with
 |none=>erw[e] at W;exact False.elim W
 |some b=>
  erw[e] at W
  rw[hk]
  exact⟨v,T,b,rfl,hT,zbs M1.rd1 e,λ_=>W.flat M1.m rfl⟩
end
inductive RS where
 |nx (s:Stt)|rt (d:D) (s:Stt)|bk (s:Stt)|ct (s:Stt)|ex (d:D) (s:Stt)|no
abbrev MS:=Stt->RS
def z0w{α:Type}(m:M α)(f:α->MS):MS:=λs=>match m s with
 | .ok a s'=>f a s'
 | .ex d s'=> .ex d s'
 | .no=> .no
def Y4(m m':MS):MS:=λs=>match m s with
 | .nx s'=>m' s'
 |r=>r
def sNx:MS:=λs=> .nx s
def z4n(m:M D):MS:=z0w m λ_=>sNx
def J1(m:M D):MS:=z0w m λd s=> .rt d s
def zfp(b:Bool)(m m':MS):MS:=match b with|true=>m|false=>m'
def sIf(c:M Bool)(m m':MS):MS:=z0w c λb=>zfp b m m'
inductive Tg where
 |nm (i:Nat)|tp (ts:List Tg)
mutual
def asg:Tg->D->List (Option D)->Option (List (Option D))
 | .nm i,t,σ=>some (σ.set i (some t))
 | .tp ts, .tup ds,σ=>asgL ts ds σ
 | .tp ts, .lst _ ds,σ=>asgL ts ds σ
 | .tp _,_,_=>none
def asgL:List Tg->List D->List (Option D)->Option (List (Option D))
 |[],[],σ=>some σ
 |t::ts,d::ds,σ=>match asg t d σ with|some σ'=>asgL ts ds σ'|none=>none
 |_,_,_=>none
end
def Q4(g:Tg)(m:M D):MS:=z0w m λd s=>match asg g d s.σ with
 |some σ'=> .nx {s with σ:=σ'}
 |none=> .no
section
variable{X:Cx}{G:Gx}{F:Fy}{e a b c:Expr}{st:Stmt}{sts rest:List Stmt}{pos:Pos}
def wS(G:Gx)(F:Fy)(tv:List (Option V))(r:RS)(D:z45):Prop:=match r with
 | .nx s'=> ∀ρ' σv' H',MR G F.toFx ρ' H' σv' tv s'->D.nx σv' H'
 | .rt t s'=> ∀ρ' σv' v H',MRL G F.toFx ρ' H' σv' tv s' [t] [v]->D.rt v H'
 | .bk s'=> ∀ρ' σv' H',MR G F.toFx ρ' H' σv' tv s'->D.bk σv' H'
 | .ct s'=> ∀ρ' σv' H',MR G F.toFx ρ' H' σv' tv s'->D.ct σv' H'
 | .ex d s'=>F.xw d s'
 | .no=>False
def tSv(G:Gx)(F:Fy)(m:MS)(tv:List (Option V))(D:z45)(σv:St)(H:Hp):Prop:=F.tv0<:+tv/\∃ρ s,MR G F.toFx ρ H σv tv s/\wS G F tv (m s) D
def tS(G:Gx)(F:Fy)(m:MS):TS:=λD σv H=> ∃tv,tSv G F m tv D σv H
def SS(X:Cx)(G:Gx)(F:Fy)(st:Stmt)(m:MS):Prop:=PS X st (tS G F m)
def SSs(X:Cx)(G:Gx)(F:Fy)(sts:List Stmt)(m:MS):Prop:=PSs X sts (tS G F m)
theorem PS.imp0{t t':TS}(h:PS X st t)(hi: ∀D σ H,t' D σ H->t D σ H):PS X st t':=λpins s σ H D I q=>h pins s σ H D I (hi D σ H q)
theorem PSs.imp0{t t':TS}(h:PSs X sts t)(hi: ∀D σ H,t' D σ H->t D σ H):PSs X sts t':=λpins s σ H D I q=>h pins s σ H D I (hi D σ H q)
theorem ss_nil:SSs X G F [] sNx:=PSs.imp0 zc8 λD σ H ⟨tv,hs,ρ,s,M,W⟩=>W ρ σ H M
theorem ss_cons{m m':MS}(h1:SS X G F st m)(h2:SSs X G F rest m'):SSs X G F (st::rest) (Y4 m m'):=by
 refine PSs.imp0 (z9E h1 h2) λD σ H ⟨tv,hs,ρ,s,M,W⟩=>⟨tv,hs,ρ,s,M, ?_⟩
 unfold Y4 at W
 cases e:m s with
 |nx s'=>rw[e] at W;exact λ ρ' σv' H' M'=>⟨tv,hs,ρ',s',M',W⟩
 |rt d s'=>rw[e] at W;exact W
 |bk s'=>rw[e] at W;exact W
 |ct s'=>rw[e] at W;exact W
 |ex d s'=>rw[e] at W;exact W
 |no=>rw[e] at W;exact W
theorem ss_one{m:MS}(h1:SS X G F st m):SSs X G F [st] m:=zc9 h1
theorem z0j{m:M D}{f:D->MS}{tv:List (Option V)}{D:z45}{σ:St}{H:Hp}(h:tSv G F (z0w m f) tv D σ H):tMv G F m σ tv H λv H1=> ∃ρ1 s1 t,MRL G F.toFx ρ1 H1 σ tv s1 [t] [v]/\wS G F tv (f t s1) D:=by
 obtain⟨hs,ρ,s,M,W⟩:=h
 refine⟨hs,ρ,s,M, ?_⟩
 unfold z0w at W
 cases e:m s with
 |ok t s1=>rw[e] at W;exact λ ρ1 v H1 M1=>⟨ρ1,s1,t,M1,W⟩
 |ex d s1=>rw[e] at W;exact W
 |no=>rw[e] at W;exact W
theorem z8n{m:M Bool}{f:Bool->MS}{tv:List (Option V)}{D:z45}{σ:St}{H:Hp}(h:tSv G F (z0w m f) tv D σ H):tBv G F m σ tv H λb H1=> ∃ρ1 s1,MR G F.toFx ρ1 H1 σ tv s1/\wS G F tv (f b s1) D:=by
 obtain⟨hs,ρ,s,M,W⟩:=h
 refine⟨hs,ρ,s,M, ?_⟩
 unfold z0w at W
 cases e:m s with
 |ok t s1=>rw[e] at W;exact λ ρ1 H1 M1=>⟨ρ1,s1,M1,W⟩
 |ex d s1=>rw[e] at W;exact W
 |no=>rw[e] at W;exact W
theorem ss_expr{m:M D}(he:SE X G F e m)(hs:swapsWith e none pos.line X.env=pure false:=by rfl):SS X G F (.Expr e pos) (z4n m):=
 PS.imp0 (zca he hs) λD σ H ⟨tv,h⟩=>⟨tv,(z0j h).mono λv H1 ⟨ρ1,s1,t,M1,W⟩=>W ρ1 σ H1 M1.m⟩
theorem ss_ret{m:M D}(he:SE X G F e m):SS X G F (.Return (some e) pos) (J1 m):=
 PS.imp0 (zeu he) λD σ H ⟨tv,h⟩=>⟨tv,(z0j h).mono λv H1 ⟨ρ1,s1,t,M1,W⟩=>W ρ1 σ v H1 M1⟩
theorem ss_if{x y:List Stmt}{mc:M Bool}{m m':MS}(hc:SB X G F c mc)(ha:SSs X G F x m)(hb:SSs X G F y m'):SS X G F (.If c x y pos) (sIf mc m m'):=by
 refine PS.imp0 (zhq hc ha hb) λD σ H ⟨tv,h⟩=>⟨tv,(z8n h).mono λk H1 ⟨ρ1,s1,M1,W⟩=> ?_⟩
 cases k with
 |true=>rw[if_pos rfl];exact⟨tv,h.1,ρ1,s1,M1,W⟩
 |false=>rw[if_neg i5];exact⟨tv,h.1,ρ1,s1,M1,W⟩
def tGn(G:Gx)(F:Fy)(g:Tg):TG:=λv σv H Q=> ∃tv ρ s t,MRL G F.toFx ρ H σv tv s [t] [v]/\∃σ',asg g t s.σ=some σ'/\∀σv',MR G F.toFx ρ H σv' tv {s with σ:=σ'}->Q σv' H
def tGs(G:Gx)(F:Fy)(g:List Tg):TGs:=λvs σv H Q=> ∃tv ρ s ts,MRL G F.toFx ρ H σv tv s ts vs/\∃σ',asgL g ts s.σ=some σ'/\∀σv',MR G F.toFx ρ H σv' tv {s with σ:=σ'}->Q σv' H
def SG(X:Cx)(G:Gx)(F:Fy)(tg:Expr)(g:Tg):Prop:=PG X tg (tGn G F g)
def SGs(X:Cx)(G:Gx)(F:Fy)(tgs:List Expr)(g:List Tg):Prop:=PGs X tgs (tGs G F g)
theorem MRL.setS{ρ:Nat->Addr}{H:Hp}{σv tv:List (Option V)}{s:Stt}{t:D}{v:V}{ts:List D}{vs:List V}(i:Nat)(M:MRL G F.toFx ρ H σv tv s (t::ts) (v::vs)):MRL G F.toFx ρ H (σv.set i (some v)) tv {s with σ:=s.σ.set i (some t)} ts vs:=by
 have h:=M.rd
 erw[RDs] at h
 obtain⟨_,_,e,h1,h2⟩:=h
 cases e
 have lb1: ∀l∈y3 t,l<s.n/\(F.A0 (ρ l)\/F.H0 (ρ l)=none):=λl h=>M.lb l (by erw[labsL];exact b8 _ h)
 have all: ∀l∈Q8 {s with σ:=s.σ.set i (some t)},l<s.n/\(F.A0 (ρ l)\/F.H0 (ρ l)=none):=λl h=>by
  rcases c7.mp h with h|h
  .rcases z2b l h with q|q
   .exact⟨M.m.lab l (b8 _ q),M.m.own l (b8 _ q)⟩
   .exact lb1 l q
  .exact⟨M.m.lab l (b6 _ h),M.m.own l (b6 _ h)⟩
 exact⟨⟨M.m.sl.set i h1,M.m.tm,M.m.inj,M.m.dom,λl h=>(all l h).1,λl h=>(all l h).2,M.m.frm,M.m.kd,M.m.frb,M.m.bas⟩,h2,λl h=>M.lb l (by erw[labsL];exact b6 _ h)⟩
theorem sg_name{i:Nat}{x:Str}{p:Pos}(h:PG X (.Name x p) (z0r i)):SG X G F (.Name x p) (.nm i):=by
 intro pins s σ H v u Q I r ⟨tv,ρ,ms,t,M,σ',e,k⟩
 erw[asg,Option.some.injEq] at e
 subst e
 exact h pins s σ H v u Q I r (k _ (M.setS i).m)
theorem sgs_nil:SGs X G F [] []:=by
 intro pins s σ H vs us Q I r ⟨tv,ρ,ms,ts,M,σ',e,k⟩
 cases ts with
 |nil=>
  erw[asgL,Option.some.injEq] at e
  subst e
  have h:=M.rd
  erw[RDs] at h
  exact z7J pins s σ H vs us Q I r ⟨h,k _ M.m⟩
 |cons d ds=>erw[asgL] at e;cases e
theorem MRL.cons_inv{ρ:Nat->Addr}{H:Hp}{σv tv:List (Option V)}{s:Stt}{t:D}{ts:List D}{vs:List V}(M:MRL G F.toFx ρ H σv tv s (t::ts) vs): ∃v r,vs=v::r/\MRL G F.toFx ρ H σv tv s [t] [v]/\RDs G ρ H ts r/\LB F.toFx ρ s.n (labsL ts):=by
 have h:=M.rd
 erw[RDs] at h
 obtain⟨v,r,rfl,h1,h2⟩:=h
 exact⟨v,r,rfl,⟨M.m,RDs.one h1,λl h=>M.lb l (by erw[labsL,e7] at h⊢;exact b8 _ h)⟩,h2,λl h=>M.lb l (by erw[labsL];exact b6 _ h)⟩
theorem PGs.imp0{es:List Expr}{t t':TGs}(h:PGs X es t)(hi: ∀vs σ H Q,t' vs σ H Q->t vs σ H Q):PGs X es t':=λpins s σ H vs us Q I r q=>h pins s σ H vs us Q I r (hi vs σ H Q q)
theorem PG.imp0{t t':TG}(h:PG X e t)(hi: ∀v σ H Q,t' v σ H Q->t v σ H Q):PG X e t':=λpins s σ H v u Q I r q=>h pins s σ H v u Q I r (hi v σ H Q q)
theorem sgs_cons{es:List Expr}{g:Tg}{gs:List Tg}(h1:SG X G F e g)(h2:SGs X G F es gs)(hs:(assignEach (e::es) X.env).map (·.2)=assign e X.env::(assignEach es X.env).map (·.2):=by rfl):SGs X G F (e::es) (g::gs):=by
 refine PGs.imp0 (z3i h1 h2 hs) λvs σv H Q ⟨tv,ρ,s,ts,M,σ',e,k⟩=> ?_
 cases ts with
 |nil=>erw[asgL] at e;cases e
 |cons d ds=>
  erw[asgL] at e
  cases e1:asg g d s.σ with
  |none=>rw[e1] at e;cases e
  |some σ1=>
   rw[e1] at e
   obtain⟨v,r,rfl,M1,h2,lb⟩:=M.cons_inv
   exact⟨v,r,rfl,tv,ρ,s,d,M1,σ1,e1,λ σv1 M2=>⟨tv,ρ,{s with σ:=σ1},ds,⟨M2,h2,lb⟩,σ',e,k⟩⟩
theorem sg_tup{es:List Expr}{k:Nat}{gs:List Tg}(hk:X.K=G.K)(hc:X.calm=true)(h:SGs X G F es gs)(hn:(assignEach es X.env).length=gs.length:=by rfl)(hst:(assignEach es X.env).findIdx? (·.1)=none:=by rfl):SG X G F (.Tuple es k pos) (.tp gs):=by
 refine PG.imp0 (zf3 hc h hn hst) λv σv H Q ⟨tv,ρ,s,t,M,σ',e,kk⟩=> ?_
 have len: ∀{gs:List Tg} {ds:List D} {σ σ':List (Option D)},asgL gs ds σ=some σ'->ds.length=gs.length:=by
  intro gs
  induction gs with
  |nil=>intro ds σ σ' e;cases ds with
   |nil=>rfl
   |cons _ _=>erw[asgL] at e;cases e
  |cons g gs ih=>intro ds σ σ' e;cases ds with
   |nil=>erw[asgL] at e;cases e
   |cons d ds=>
    erw[asgL] at e
    cases e1:asg g d σ with
    |none=>rw[e1] at e;cases e
    |some σ1=>rw[e1] at e;rw[i0,i0,ih e]
 cases t with
 |tup ds=>
  erw[asg] at e
  obtain⟨a,xs,rfl,sq,r⟩:=M.rd1.tupq
  refine⟨a,xs,rfl, .inl (hk▸sq),by rw[<-r.length];exact len e,tv,ρ,s,ds,⟨M.m,r,λl h=>M.lb1 l (by erw[y3];exact h)⟩,σ',e,kk⟩
 |lst l ds=>
  erw[asg] at e
  obtain⟨a,xs,rfl,sq,r,sub⟩:=M.rd1.lstq (ds:=ds) rfl
  refine⟨a,xs,rfl, .inr (hk▸sq),by rw[<-r.length];exact len e,tv,ρ,s,ds,⟨M.m,r,λl h=>M.lb1 l (sub l h)⟩,σ',e,kk⟩
 |_=>erw[asg] at e;cases e
theorem ss_asg{tg:Expr}{g:Tg}{m:M D}(he:SE X G F e m)(hg:SG X G F tg g)(hs:swapsWithSole [tg] e pos.line X.env=pure false:=by rfl)(hw:swappedStores [tg] e X.env=pure none:=by rfl)
 (h1:(assignEach [tg] X.env).map (·.2)=[assign tg X.env]:=by rfl):SS X G F (.Assign [tg] e pos) (Q4 g m):=by
 refine PS.imp0 (zbg he hg hs hw h1) λD σ H ⟨tv,h⟩=>⟨tv,(z0j h).mono λv H1 ⟨ρ1,s1,t,M1,W⟩=> ?_⟩
 cases e:asg g t s1.σ with
 |none=>erw[e] at W;exact False.elim W
 |some σ'=>
  erw[e] at W
  exact⟨tv,ρ1,s1,t,M1,σ',e,λ σv' M2=>W ρ1 σv' H1 M2⟩
theorem ss_set{i:Nat}{x:Str}{p:Pos}{m:M D}(h: ∀{te:TE},PE X e te->PS X (.Assign [.Name x p] e pos) (zh9 te (z0r i)))(he:SE X G F e m):SS X G F (.Assign [.Name x p] e pos) (Q4 (.nm i) m):=by
 refine PS.imp0 (h he) λD σ H ⟨tv,h⟩=>⟨tv,(z0j h).mono λv H1 ⟨ρ1,s1,t,M1,W⟩=> ?_⟩
 erw[asg] at W
 exact W ρ1 _ H1 (M1.setS i).m
end
end Mi
namespace L2
open PySem PySem.Spec PyProof.Rows
abbrev z8o(ifs:List Expr)(env:Env):Sem Bool:=forIn ifs true λc r=>if r=true then do let ok<-isTrue c env (eval c env);pure (ForInStep.yield ok) else pure (ForInStep.yield r)
theorem z0s{prog:Program}{w:World}{A:Around}{R:Result->Shared->Prop}{s:Shared}{elt target iter:Expr}{ifs:List Expr}{scope:Scope}{pos:Pos}{it acc:Value}{env:Env}(I:Nat->Shared->Prop)
 (turn: ∀n s,I n s->wpAny (model prog w) A (pyNext it) (λr s₁=>match r with
  |none=>R (.ok .next) s₁
  |some v=>wpAny (model prog w) A (letOwnedTupleGo target it v) (λ_ s₁=>wpAny (model prog w) A (assign target env v) (λ_ s₂=>wpAny (model prog w) A (z8o ifs env) (λok s₃=>
   if ok=true then wpAny (model prog w) A (eval elt env) (λx s₃=>
   wpAny (model prog w) A (call (.builtin "list.append") [acc,x]) (λ_ s₄=> ∃m,m<n/\I m s₄) (λ_ _=>False) s₃)
   (λ_ _=>False) s₃ else ∃m,m<n/\I m s₃) (λ_ _=>False) s₂) (λ_ _=>False) s₁) (λ_ _=>False) s₁) (λ_ _=>False) s)
 (n:Nat) (h:I n s):
 codeAny (model prog w) A (.compLoop (.ListComp elt [⟨target,iter,ifs,0⟩] scope pos) 0 it acc env) R s:=by
 refine codeAny_loop rfl I (λn s hI=> ?_) n h
 show wpAny _ _ ((compTurn (.ListComp elt [⟨target,iter,ifs,0⟩] scope pos) 0 it acc env).onRaise (λx=>do noteFrame x env;theTreesLotGoes x)) _ _ s
 refine wpAny_noted ?_
 rw[compTurn_list]
 refine wpAny_bind (wpAny_standAt (wpAny_bind (wpAny_mono (turn n s hI) (λr s₁ h₁=> ?_) λ_ _ h'=>h'.elim)))
 cases r with
 |none=>exact wpAny_pure h₁
 |some v=>
  refine wpAny_bind (wpAny_mono h₁ (λ_ s₁ h₁=> ?_) λ_ _ h'=>h'.elim)
  refine wpAny_bind (wpAny_mono h₁ (λ_ s₂ h₂=>wpAny_bind (wpAny_mono h₂ (λok s₃ h₃=> ?_) λ_ _ h'=>h'.elim)) λ_ _ h'=>h'.elim)
  cases ok with
  |false=>exact wpAny_pure ⟨rfl,h₃⟩
  |true=>
   exact wpAny_bind (wpAny_bind (wpAny_mono h₃ (λx s₄ h₄=>wpAny_bind (wpAny_mono h₄ (λ_ s₅ h₅=>wpAny_pure (wpAny_pure ⟨rfl,h₅⟩)) λ_ _ h'=>h'.elim)) λ_ _ h'=>h'.elim))
def PTs(X:Cx)(ifs:List Expr)(t:TT):Prop:=
 ∀(pins:List (Addr×Obj)) (s:Shared) (σ:St) (H:Hp) (Q:Bool->Hp->Prop),Inv X pins σ H s->t σ H Q->wpAny (model X.prog X.w) X.A (z8o ifs X.env) (TP X pins σ Q) X.xe s
theorem z5j{X:Cx}:PTs X [] (λ_ H Q=>Q true H):=λpins s σ H Q I h=>wpAny_tests_nil ⟨H,I,h⟩
section
variable{X:Cx}{tg iter elt:Expr}{ifs:List Expr}{pos:Pos}{scope:Scope}{own frees:List Str}{ix:List Nat}{wi:TI}{g:TG}{tt:TT}{te:TE}
def zbt(K:W.Frag)(wi:TI)(g:TG)(tt:TT)(te:TE)(k:Nat)(ix:List Nat):TE:=λ σ H Q=>wi σ H λJ H1=> ∀D,H1 D=none->(∀a o,K.lookup a=some o->upd H1 D (.lst []) a=none)->
 ∃W:Nat->Nat->List V->St->Hp->Prop,(∃m,W 0 m [] (z01 k ix σ) (upd H1 D (.lst [])))/\
  ∀i m ys σ' H',W i m ys σ' H'->H' D=some (.lst ys)/\((J.stop i H'/\Q (.ref D) H')\/
   (J.go i H'/\∀x H2,J.yld i H' x H2->g x σ' H2 λ σ2 H3=>tt σ2 H3 λok H3=>if ok=true then te σ2 H3 λy H4=>H4 D=some (.lst ys)/\ys.length<sizeLine/\∃m',m'<m/\W (i+1) m' (ys++[y]) σ2 (upd H4 D (.lst (ys++[y])))
    else ∃m',m'<m/\W (i+1) m' ys σ2 H3))
theorem z2e(hc:X.calm=true)(S:J0 X.env.scope scope own frees X.N ix)(hi:PI X tg iter wi)
 (hg: ∀cl C s₀ H₀ fp pn,PG (Q7 X scope own frees cl C s₀ H₀ fp pn) tg g) (ht: ∀cl C s₀ H₀ fp pn,PTs (Q7 X scope own frees cl C s₀ H₀ fp pn) ifs tt) (he: ∀cl C s₀ H₀ fp pn,PE (Q7 X scope own frees cl C s₀ H₀ fp pn) elt te)
 (hs: ∀x,foldedSetIterable iter X.env x=pure x:=by intro _;rfl):
 PE X (.ListComp elt [⟨tg,iter,ifs,0⟩] scope pos) (zbt X.K wi g tt te own.length ix):=by
 intro pins s σ H Q I h
 have hclos:closureFor scope X.env=pure (z0H X.env scope.names []):=z3m λy hy e=>I.ok.has y.1 (S.fr y hy e)
 rw[eval_ListComp]
 refine wpAny_comprehension_free (use:=none) rfl hs hclos S.kind S.names (thn (hi pins s σ H _ I h) λv s1 h1=>thn h1 λitv s2 h2=> ?_)
 obtain⟨it,fp,tn,J,H2,e,I2,T,st2,f2,hD⟩:=h2
 subst e
 refine wpAny_newObj_type ?_
 have I3:Inv X pins σ (upd H2 s2.heap.objs.size (.lst [])) {s2 with heap:=s2.heap.push {cls:= .type "list",data:= .seq ([]:List Value).toArray}}:=I2.lnew (t':=s2.toks) .nil (A6 _)
 have nD:H2 s2.heap.objs.size=none:=I2.fresh
 obtain⟨W,⟨m0,w0⟩,turn⟩:=hD _ nD λa o e=>(I3.bs a o (I3.ok.mod.kin a o e)).2
 have fpl: ∀b∈fp,b<s2.heap.objs.size:=λb z=>by
  obtain⟨o,q,_⟩:=T.obj _ _ st2 b z
  exact Heap.lt_size q
 generalize hs3:({s2 with heap:=s2.heap.push {cls:= .type "list",data:= .seq ([]:List Value).toArray}}:Shared)=s3 at I3
 have hpush: ∀b o,s2.heap.get? b=some o->s3.heap.get? b=some o:=λb o q=>by rw[<-hs3];exact Heap.get?_push_of_some _ q
 have hsz3:s2.heap.objs.size<s3.heap.objs.size:=by rw[<-hs3];show _<(s2.heap.push _).objs.size;rw[Heap.size_push];exact s0 _
 have f3: ∀b∈fp,z7t X pins (upd H2 s2.heap.objs.size (.lst [])) b:=λb z=>⟨by rw[y4 (l8 (fpl b z))];exact(f2 b z).1,(f2 b z).2⟩
 have st3:tn 0 s3.heap:=T.keep _ _ _ st2 λb _ o q=>hpush b o q
 generalize hDd:s2.heap.objs.size=D at*
 generalize hH3:upd H2 D (.lst [])=H3 at*
 have goal:wpAny (model X.prog X.w) X.A (newFunctionEnv scope X.env.globals (z0H X.env scope.names []) [] X.env.qual none .none (some X.env)) (λcenv s₄=>
  codeAny (model X.prog X.w) X.A (.compStart (.ListComp elt [⟨tg,iter,ifs,0⟩] scope pos) 0 (.ref it) (.ref D) {cenv with scope:=relabel scope X.env}) (compPost (model X.prog X.w) X.A X.xe none (EP X pins σ Q) (.ref D) cenv.locals) s₄) X.xe s3:=by
  refine wpAny_newFunctionEnv S.nocell (by intro y hy;simp at hy) (λh1 hns hsb=> ?_) S.kind
  have hns:h1.Ns s3.heap.objs.size (λ_=>none):=hns
  have keep4: ∀b o,s3.heap.get? b=some o->h1.get? b=some o:=λb o q=>hsb.extBut b o (l8 (Heap.lt_size q)) (Heap.get?_push_of_some _ q)
  have fpl3: ∀b∈fp,b<s3.heap.objs.size:=λb z=>P9 (fpl b z) hsz3
  generalize hs4:({s3 with heap:=h1,toks:=s3.toks+([]:List (Str×Value)).length}:Shared)=s4
  have I4:Inv (Q7 X scope own frees (z0H X.env scope.names []) s3.heap.objs.size s3 H3 fp (X.pn++pins)) [] (z01 own.length ix σ) H3 s4:=
   z6Y S I3 f3 fpl3 (by rw[<-hs4]) (by rw[<-hs4]) (λb o q=>by rw[<-hs4];exact keep4 b o q) (by rw[<-hs4];exact hns)
  have st4:tn 0 s4.heap:=T.keep _ _ _ st3 λb _ o q=>by rw[<-hs4];exact keep4 b o q
  generalize hXc:Q7 X scope own frees (z0H X.env scope.names []) s3.heap.objs.size s3 H3 fp (X.pn++pins)=Y at I4
  have eP:Y.prog=X.prog:=by rw[<-hXc];rfl
  have eW:Y.w=X.w:=by rw[<-hXc];rfl
  have eK:Y.K=X.K:=by rw[<-hXc];rfl
  have eA:Y.A=X.A:=by rw[<-hXc];rfl
  have eC:Y.calm=true:=by rw[<-hXc];exact hc
  have eE:Y.env=compEnvC scope (z0H X.env scope.names []) s3.heap.objs.size X.env:=by rw[<-hXc];rfl
  have eX:Y.xe=λ_ _=>False:=by rw[<-hXc];rfl
  have eF: ∀{H':Hp},(∀b∈fp,H' b=none)->∀b∈fp,z7t Y [] H' b:=λ{H'} hn b hb=>by
   rw[<-hXc]
   obtain⟨g1,g2,g3,g4,g5,g6⟩:=f3 b hb
   refine⟨hn b hb,l8 (fpl3 b hb),λq=> ?_, .inl hb,λx c e=> ?_,λp hp=> ?_⟩
   .rcases c9.mp (I3.stkSub b q) with r|r
    .exact g2 r
    .exact g3 r
   .rcases z3n _ _ e with q|q
    .exact nomatch q
    .exact g5 x c q.1
   .have hp:p∈(X.pn++pins)++[]:=hp
    rw[e7] at hp
    exact g6 p hp
  have gY:PG Y tg g:=by rw[<-hXc];exact hg _ _ _ _ _ _
  have tY:PE Y elt te:=by rw[<-hXc];exact he _ _ _ _ _ _
  have sY:PTs Y ifs tt:=by rw[<-hXc];exact ht _ _ _ _ _ _
  have loop:codeAny (model X.prog X.w) X.A (.compLoop (.ListComp elt [⟨tg,iter,ifs,0⟩] scope pos) 0 (.ref it) (.ref D) (compEnvC scope (z0H X.env scope.names []) s3.heap.objs.size X.env))
   (compPost (model X.prog X.w) X.A X.xe none (EP X pins σ Q) (.ref D) s3.heap.objs.size) s4:=by
   refine z0s (λn s'=> ∃i ys σ' H',Inv Y [] σ' H' s'/\tn i s'.heap/\(∀b∈fp,H' b=none)/\W i n ys σ' H') ?_ m0 ⟨0,[],_,_,I4,st4,λb hb=>(f3 b hb).1,w0⟩
   rintro n s5 ⟨i,ys,σ5,H5,I5,st5,fr5,w5⟩
   obtain⟨hD5,alt⟩:=turn i n ys σ5 H5 w5
   rcases alt with⟨stop,qn⟩|⟨go,step⟩
   .have d:=T.done Y eP eW eK eC i [] s5 σ5 H5 (λ_ _=>False) I5 (eF fr5) st5 stop
    rw[eA] at d
    refine thn d λr s6 ⟨hr,I6⟩=> ?_
    subst hr
    subst hXc
    obtain⟨m6,n6,_⟩:=I6.loc
    exact⟨m6,n6,λh'' hs''=>⟨.ref D,H5,za6 I3 f3 (c6 _) I6 hs'',rfl,qn⟩⟩
   .have d:=T.item Y eP eW eK eC i [] s5 σ5 H5 (λ_ _=>False) I5 (eF fr5) st5 go
    rw[eA] at d
    refine thn d λr s6 ⟨u,hr,h6⟩=> ?_
    subst hr
    refine thn h6 λ_ s7 ⟨x,H7,I7,r7,y7,st7,fr7⟩=> ?_
    have I7':=I7.pinned (eF fr7) (T.obj _ _ st7)
    have e1:=gY _ s7 σ5 H7 x u _ I7' r7 (step x H7 y7)
    rw[eP,eW,eA,eE,eX] at e1
    refine thn e1 λ_ s8 ⟨σ8,H8,I8,q8⟩=> ?_
    have e1':=sY _ s8 σ8 H8 _ I8 q8
    rw[eP,eW,eA,eE,eX] at e1'
    refine thn e1' λok s8 ⟨H8,I8,q8⟩=> ?_
    cases ok with
    |false=>
     rw[if_neg i5] at q8⊢
     obtain⟨m',hm',w9⟩:=q8
     refine⟨m',hm',i+1,_,σ8,_,I8.unpinned,T.keep _ _ _ st7 λb hb o e=> ?_,λb hb=> ?_,w9⟩
     .exact(I8.pin (b,o) (b6 _ (b6 _ (u0 hb e)))).1
     .obtain⟨o,e,d⟩:=T.obj _ _ st7 b hb
      exact(I8.pin (b,o) (b6 _ (b6 _ (u0 hb e)))).2.1
    |true=>
    rw[if_pos rfl] at q8⊢
    have e2:=tY _ s8 σ8 H8 _ I8 q8
    rw[eP,eW,eA,eE,eX] at e2
    refine thn e2 λyv s9 ⟨y,H9,I9,r9,hD9,hz9,m',hm',w9⟩=> ?_
    have e3:=z83 (X:=Y) _ s9 σ8 H9 (.ref D) [y] (.ref D) [yv] (λv H'=>v= .non/\H'=upd H9 D (.lst (ys++[y]))) I9 rfl (.cons r9 .nil) ⟨D,ys,y,rfl,rfl,hD9,hz9,rfl,rfl⟩
    rw[eP,eW,eA,eX] at e3
    refine thn e3 λ_ s10 ⟨v10,H10,I10,r10,_,e10⟩=> ?_
    subst e10
    refine⟨m',hm',i+1,_,σ8,_,I10.unpinned,T.keep _ _ _ st7 λb hb o e=> ?_,λb hb=> ?_,w9⟩
    .exact(I10.pin (b,o) (b6 _ (b6 _ (u0 hb e)))).1
    .obtain⟨o,e,d⟩:=T.obj _ _ st7 b hb
     exact(I10.pin (b,o) (b6 _ (b6 _ (u0 hb e)))).2.1
  exact codeAny_compStart_list loop (T.self _ 0 _ _ _ st4 loop)
 exact goal
end
structure ze6(osc sc:Scope)(own frees N:List Str)(ix:List Nat):Prop where
 kind:sc.kind= .function
 names: ∀y∈sc.names,y.2= .local->sc.names.lookup y.1=some .local
 fr: ∀y∈sc.names,y.2= .free->osc.names.lookup y.1=some .cell\/osc.names.lookup y.1=some .free
 nd:(own++frees).Nodup
 frl: ∀x∈frees,sc.names.lookup x=some .free
 ixs:ix.map (λi=>N[i]?)=frees.map some
 frc: ∀y∈sc.names,y.2= .cell->y.1∉frees
 owf: ∀y∈sc.names,y.2= .free->y.1∉own
theorem Inv.turnedL{X:Cx}{pins:List (Addr×Obj)}{σ:List (Option V)}{H:Hp}{s:Shared}{h':Heap}{t':Nat}{fp:List Addr}(I:Inv X pins σ H s)(k: ∀b o,b∉fp->s.heap.get? b=some o->h'.get? b=some o)(hf: ∀b∈fp,z7t X pins H b):Inv X pins σ H {s with heap:=h',toks:=t'}:=by
 have nit: ∀b u,H b=some u->b∉fp:=λb u e z=>by rw[(hf b z).1] at e;cases e
 refine I.step (g':=s.gens) (d':=s.drawn) (ch:=fp) (λb hb=> ?_) (λb o _ _ hc e _=>k b o hc e) (λb o _ _ hc e _=>⟨o.slots,k b o hc e⟩) (λ_ _ _ _ n=>n)
  (λb o hc e=>⟨o,k b o hc e⟩) (λ_ _ e=>e) (λ_ _ _ e=>e) (λb ps e=>⟨#[],by rw[e];simp⟩) (λm hm=> ?_) (λb u e=> ?_) I.bare
 .obtain⟨f0,f1,f2,f3,f4,f5⟩:=hf b hb
  exact⟨f3,f1,f4,f5⟩
 .obtain⟨o,es,ep,ho,r⟩:=hm
  exact⟨o,es,ep,k _ o (λz=>(hf _ z).2.1 rfl) ho,r⟩
 .refine(I.hok b u e).stay (λc v hc q=>k c v ?_ q) (λ_ q=>q) λ_ _ q=>q
  rcases hc with z|z
  .rw[z];exact nit b u e
  .exact nit c _ z
section
variable{X:Cx}{a b:Expr}{rest:List Expr}{pos:Pos}{ta tb:TE}
def zhY(K:W.Frag)(xs:List V)(H:Hp)(Q:VK):Prop:= ∃p d,xs=[.ref p]/\Dp K H d (.ref p)/\d.hasDict=false/\d.showable=true/\d.depth<=60/\d.shown.length<=sizeLine/\Q (.str d.shown) H
theorem z75(hg:X.A.guards=some [])(hu:X.A.units+64<cLine):CallR X (.builtin "repr") (zhY X.K):=by
 intro pins s σ H xs us Q I r h
 obtain⟨p,d,rfl,hd,h1,h2,h3,h4,q⟩:=h
 obtain⟨u,rfl,r1⟩:=z2N r
 cases r1
 obtain⟨as,ra⟩:=hd.reads I _ _ _ rfl
 exact repr_of_reads' ra h2 (λe=>by rw[h1] at e;cases e) hg (by lia) (λ_ _ h=>h) (λh' u tk k=>⟨.str d.shown,H,I.kept k,⟨_,rfl⟩,q⟩) h4
theorem zfq:OpR X (compareOp .Eq) (λx y H Q=> ∃i j,x= .str i/\y= .str j/\Q (.bl (i==j)) H):=by
 intro pins s σ H x y v u Q I rx ry h
 obtain⟨i,j,rfl,rfl,q⟩:=h
 exact zhw pins s σ H _ _ v u Q I rx ry ⟨rfl,by rw[z7P];exact q⟩
end
section
variable{X:Cx}{tg:Expr}
def Rg3(i j c:Int):Prop:=c≠0/\c.natAbs<1073741824/\Builtin.Range.small i j c=true/\0<=Builtin.Range.rangeSize i j c
instance(i j c:Int):Decidable (Rg3 i j c):=by unfold Rg3;infer_instance
end
end L2
namespace Mi
open PySem L2
structure ItK where
 k:Nat
 at':Nat->List (Option D)->Option (Option D)
 len:List (Option D)->Nat
def zfr(i:Nat):List (Option D)->Option (Option D)
 |some c::_=>(ze2 c).map λds=>ds[i]?
 |_=>none
def zae(i:Nat):List (Option D)->Option (Option D)
 |some (.tup ds)::_=>some ds[i]?
 |_=>none
def z8p:List (Option D)->Nat
 |some (.tup ds)::_=>ds.length
 |some (.lst _ ds)::_=>ds.length
 |some (.ro ds)::_=>ds.length
 |_=>0
def ze7:ItK:=⟨1,zfr,z8p⟩
def zcT:ItK:=⟨1,zae,z8p⟩
def z8q(lo:Int)(n:Nat):ItK:=⟨0,λi _=>some (if i<n then some (.int (lo+i)) else none),λ_=>n⟩
def Stt.popn(s:Stt)(k:Nat):Stt:={s with tm:=s.tm.drop k}
section
variable{X:Cx}{G:Gx}{F:Fy}{e a b c tg iter:Expr}{pos:Pos}
theorem MR.popn{F:Fx}{ρ:Nat->Addr}{H:Hp}{σv tvs tv:List (Option V)}{s:Stt}(M:MR G F ρ H σv (tvs++tv) s):MR G F ρ H σv tv (s.popn tvs.length):=by
 have sub: ∀l∈Q8 (s.popn tvs.length),l∈Q8 s:=λl h=>by
  rcases c7.mp h with h|h
  .exact b8 _ h
  .refine b6 _ ?_
   have e:=Y0 (s.tm.take tvs.length) (s.tm.drop tvs.length)
   rw[B8] at e
   rw[e]
   exact b6 _ h
 exact⟨M.sl,(Sl.split tvs M.tm).2,M.inj,M.dom,λl h=>M.lab l (sub l h),λl h=>M.own l (sub l h),M.frm,M.kd,M.frb,M.bas⟩
def zfs(G:Gx)(J:It)(K:ItK)(tvs:List (Option V)):Prop:= ∀(F:Fx) ρ H σv tvp tv s i,MR G F ρ H σv (tvp++(tvs++tv)) s->match K.at' i (s.tm.drop tvp.length) with
 |none=>True
 |some none=>J.stop i H
 |some (some d)=>J.go i H/\∀x H',J.yld i H x H'->MRL G F ρ H' σv (tvp++(tvs++tv)) s [d] [x]
def tI(G:Gx)(F:Fy)(m:M ItK):TI:=λ σv H R=> ∃tv,F.tv0<:+tv/\∃ρ s,MR G F.toFx ρ H σv tv s/\match m s with
 | .ok K s'=> ∀ρ' H' tvs J,tvs.length=K.k->MR G F.toFx ρ' H' σv (tvs++tv) s'->zfs G J K tvs->R J H'
 | .ex d s'=>F.xw d s'
 | .no=>False
def SI(X:Cx)(G:Gx)(F:Fy)(tg iter:Expr)(m:M ItK):Prop:=PI X tg iter (tI G F m)
theorem PI.imp0{w w':TI}(h:PI X tg iter w)(hi: ∀σ H R,w' σ H R->w σ H R):PI X tg iter w':=λpins s σ H R I q=>h pins s σ H R I (hi σ H R q)
def zk7(K:W.Frag)(tl:TE):TI:=λ σ H R=>tl σ H λx H1=> ∃a,x= .ref a/\(((∃xs,SqL K H1 a xs)/\R (Itl K a) H1)\/((∃xs,SqT K H1 a xs)/\R (Itt K a) H1))
theorem zft{l:Expr}{tl:TE}(hl:PE X l tl):PI X tg l (zk7 X.K tl):=by
 intro pins s σ H R I h
 refine thn (hl pins s σ H _ I h) λv s1 ⟨x,H1,I1,r1,q1⟩=> ?_
 obtain⟨a,e,q|q⟩:=q1
 .subst e
  cases r1
  obtain⟨⟨xs,hq⟩,q⟩:=q
  obtain⟨its,rv,p,hz⟩:=I1.list hq
  refine wpAny_pyIter_list p.isList ?_
  refine⟨s1.heap.objs.size,[s1.heap.objs.size],_,_,H1,rfl,I1.kept (t':=s1.toks) λb o e=>Heap.get?_push_of_some _ e,z7L a _,⟨_,Heap.get?_push_size _ rfl,rfl,rfl⟩,λb hb=> ?_,q⟩
  have e:b=s1.heap.objs.size:=by simpa using hb
  subst e
  exact I1.fpOk (c6 _) (I1.hok.fresh (c6 _))
 .subst e
  cases r1
  obtain⟨⟨xs,hq⟩,q⟩:=q
  obtain⟨its,rv,p,hz⟩:=I1.tuple hq
  refine wpAny_pyIter_tuple (show s1.heap.IsTuple a its.toArray from p) ?_
  refine⟨s1.heap.objs.size,[s1.heap.objs.size],_,_,H1,rfl,I1.kept (t':=s1.toks) λb o e=>Heap.get?_push_of_some _ e,z6H a _,⟨_,Heap.get?_push_size _ rfl,rfl,rfl⟩,λb hb=> ?_,q⟩
  have e:b=s1.heap.objs.size:=by simpa using hb
  subst e
  exact I1.fpOk (c6 _) (I1.hok.fresh (c6 _))
def z1N(m:M D):M ItK:=bd m λd s=>match d with
 | .tup _=> .ok zcT (s.psh d)
 | .lst _ _=> .ok ze7 (s.psh d)
 | .ro _=> .ok ze7 (s.psh d)
 |_=> .no
theorem SqT.two{K:W.Frag}{H:Hp}{a:Addr}{xs ys:List V}(k:KD K H)(h:SqT K H a xs)(h':SqT K H a ys):xs=ys:=by
 rcases h with(h|⟨o,h⟩)|⟨o,its,n,h,_,hd,_,r⟩<;>rcases h' with(h'|⟨o',h'⟩)|⟨o',its',n',h',_,hd',_,r'⟩
 .rw[h] at h';cases h';rfl
 .rw[h] at h';cases h'
 .rw[k _ _ h'] at h;cases h
 .rw[h] at h';cases h'
 .rw[h] at h';cases h';rfl
 .rw[k _ _ h'] at h;cases h
 .rw[k _ _ h] at h';cases h'
 .rw[k _ _ h] at h';cases h'
 .rw[h] at h';cases h';rw[hd] at hd';cases hd';exact r.inj r'
theorem SqL.two{K:W.Frag}{H:Hp}{a:Addr}{xs ys:List V}(k:KD K H)(h:SqL K H a xs)(h':SqL K H a ys):xs=ys:=by
 rcases h with(h|⟨o,h⟩)|⟨o,its,n,h,_,_,hd,_,r⟩<;>rcases h' with(h'|⟨o',h'⟩)|⟨o',its',n',h',_,_,hd',_,r'⟩
 .rw[h] at h';cases h';rfl
 .rw[h] at h';cases h'
 .rw[k _ _ h'] at h;cases h
 .rw[h] at h';cases h'
 .rw[h] at h';cases h';rfl
 .rw[k _ _ h'] at h;cases h
 .rw[k _ _ h] at h';cases h'
 .rw[k _ _ h] at h';cases h'
 .rw[h] at h';cases h';rw[hd] at hd';cases hd';exact r.inj r'
theorem MR.head{F:Fx}{ρ:Nat->Addr}{H:Hp}{σv tv:List (Option V)}{s:Stt}{v:V}{c:D}{r:List (Option D)}(M:MR G F ρ H σv (some v::tv) s)(e:s.tm=some c::r):RD G ρ H c v/\LB F ρ s.n (y3 c):=by
 obtain⟨σ,tm,n⟩:=s
 have e:tm=some c::r:=e
 subst e
 exact⟨MR.top (s:=⟨σ,r,n⟩) M,MR.topl (s:=⟨σ,r,n⟩) M⟩
theorem z68{a:Addr}:zfs G (Itl G.K a) ze7 [some (.ref a)]:=by
 intro F ρ H σv tvp tv s i M
 dsimp only[ze7]
 cases e:s.tm.drop tvp.length with
 |nil=>trivial
 |cons o r=>
  cases o with
  |none=>trivial
  |some c=>
   erw[zfr]
   obtain⟨h,lb⟩:=MR.head (s:=s.popn tvp.length) M.popn e
   cases e1:ze2 c with
   |none=>trivial
   |some ds=>
    erw[m9]
    obtain⟨a',xs,ea,sq,rr,sub⟩:=h.lstq e1
    cases ea
    cases e2:ds[i]? with
    |none=>
     refine⟨xs,sq, ?_⟩
     rw[<-rr.length]
     exact List.getElem?_eq_none_iff.mp e2
    |some d=>
     obtain⟨x,ex,rx⟩:=rr.get i d e2
     refine⟨⟨xs,x,sq,ex⟩, ?_⟩
     rintro x' H' ⟨rfl,hx⟩
     rw[hx xs sq] at ex
     cases ex
     exact⟨M,RDs.one rx,λl hl=>lb l (sub l (labsL_mem (List.mem_of_getElem? e2) l (by simpa only[labsL,e7] using hl)))⟩
theorem zaf{a:Addr}:zfs G (Itt G.K a) zcT [some (.ref a)]:=by
 intro F ρ H σv tvp tv s i M
 dsimp only[zcT]
 cases e:s.tm.drop tvp.length with
 |nil=>trivial
 |cons o r=>
  cases o with
  |none=>trivial
  |some c=>
   obtain⟨h,lb⟩:=MR.head (s:=s.popn tvp.length) M.popn e
   cases c with
   |tup ds=>
    erw[zae]
    obtain⟨a',xs,ea,sq,rr⟩:=h.tupq
    cases ea
    cases e2:ds[i]? with
    |none=>
     refine⟨xs,sq, ?_⟩
     rw[<-rr.length]
     exact List.getElem?_eq_none_iff.mp e2
    |some d=>
     obtain⟨x,ex,rx⟩:=rr.get i d e2
     refine⟨⟨xs,x,sq,ex⟩, ?_⟩
     rintro x' H' ⟨rfl,hx⟩
     rw[hx xs sq] at ex
     cases ex
     exact⟨M,RDs.one rx,λl hl=>lb l (by erw[y3];exact labsL_mem (List.mem_of_getElem? e2) l (by simpa only[labsL,e7] using hl))⟩
   |_=>trivial
theorem si_seq{m:M D}(hk:X.K=G.K)(h:SE X G F e m):SI X G F tg e (z1N m):=by
 refine PI.imp0 (zft h) λ σ H R ⟨tv,hs,ρ,s,M,W⟩=>⟨tv,hs,ρ,s,M, ?_⟩
 unfold z1N bd at W
 cases e:m s with
 |ex d s1=>rw[e] at W;exact W
 |no=>rw[e] at W;exact W
 |ok t s1=>
  rw[e] at W
  intro ρ1 v H1 M1
  rw[hk]
  cases t with
  |tup ds=>
   obtain⟨a,xs,rfl,sq,r⟩:=M1.rd1.tupq
   exact⟨a,rfl, .inr ⟨⟨xs,sq⟩,W ρ1 H1 [some (.ref a)] _ rfl M1.push zaf⟩⟩
  |lst n ds=>
   obtain⟨a,xs,rfl,sq,r,_⟩:=M1.rd1.lstq (ds:=ds) rfl
   exact⟨a,rfl, .inl ⟨⟨xs,sq⟩,W ρ1 H1 [some (.ref a)] _ rfl M1.push z68⟩⟩
  |ro ds=>
   obtain⟨a,xs,rfl,sq,r,_⟩:=M1.rd1.lstq (ds:=ds) rfl
   exact⟨a,rfl, .inl ⟨⟨xs,sq⟩,W ρ1 H1 [some (.ref a)] _ rfl M1.push z68⟩⟩
  |_=>exact False.elim W
def zfu(ts:List D):M ItK:=match ts with
 |[.int j]=>if -(2^62)<=j/\j<2^62 then rt (z8q 0 j.toNat) else fl
 |_=>fl
def z02(ms:List (M D)):M ItK:=bd (Z7 ms) zfu
theorem zag{lo:Int}{n:Nat}:zfs G (Itr lo n) (z8q lo n) []:=by
 intro F ρ H σv tvp tv s i M
 erw[z8q]
 by_cases h:i<n
 .rw[if_pos h]
  refine⟨h, ?_⟩
  rintro x H' ⟨rfl,rfl⟩
  exact⟨M,RDs.one (by erw[RD]),λl hl=>by simp[labsL,y3] at hl⟩
 .rw[if_neg h]
  exact D7.mp h
theorem si_rng1{p:Pos}{ms:List (M D)}(hg:Gl X "range")(hm:X.mg "range" =none)(ha:SA X G F [a] (Z7 ms))(hs:starEach [a] X.env=[(false,eval a X.env)]:=by rfl):SI X G F tg (.Call (.Name "range" p) [a] [] pos) (z02 ms):=by
 refine PI.imp0 (z7M hg hm ha hs) λ σ H R ⟨tv,hs,ρ,s,M,W⟩=>⟨tv,hs,ρ,s,M, ?_⟩
 unfold z02 bd at W
 cases e:Z7 ms s with
 |ex d s1=>rw[e] at W;exact W
 |no=>rw[e] at W;exact W
 |ok ts s1=>
  rw[e] at W
  intro ρ1 vs H1 M1
  unfold zfu at W
  dsimp only at W
  split at W
  .rename_i ts' j K s' hh
   split at hh
   .split at hh
    .rename_i j' hc
     cases hh
     obtain⟨v,rfl,h,_⟩:=M1.one
     erw[RD] at h
     subst h
     exact⟨j',rfl,hc.1,hc.2,W ρ1 H1 [] _ rfl M1.m zag⟩
    .cases hh
   .cases hh
  .rename_i hh
   split at hh
   .split at hh<;>cases hh
   .cases hh
  .exact False.elim W
def forGo(K:ItK)(g:Tg)(b:MS):Nat->Nat->MS
 |f,i=>λs=>match K.at' i s.tm with
  |none=> .no
  |some none=> .nx (s.popn K.k)
  |some (some d)=>match f with
   |0=> .no
   |f+1=>match asg g d s.σ with
    |none=> .no
    |some σ'=>match b {s with σ:=σ'} with
     | .nx s'=>forGo K g b f (i+1) s'
     | .ct s'=>forGo K g b f (i+1) s'
     | .bk s'=> .nx (s'.popn K.k)
     | .rt t s'=> .rt t (s'.popn K.k)
     | .ex d s'=> .ex d s'
     | .no=> .no
def z7A(mi:M ItK)(g:Tg)(b:MS):MS:=z0w mi λK s=>forGo K g b (K.len s.tm) 0 s
theorem MRL.popn{ρ:Nat->Addr}{H:Hp}{σv tvs tv:List (Option V)}{s:Stt}{ts:List D}{vs:List V}(M:MRL G F.toFx ρ H σv (tvs++tv) s ts vs):MRL G F.toFx ρ H σv tv (s.popn tvs.length) ts vs:=⟨M.m.popn,M.rd,M.lb⟩
theorem zk8{tvs tv:List (Option V)}(h:F.tv0<:+tv):F.tv0<:+tvs++tv:=h.trans (List.suffix_append _ _)
theorem z8r{m:M ItK}{f:ItK->MS}{tv:List (Option V)}{D:z45}{σ:St}{H:Hp}{R:It->Hp->Prop}(h:tSv G F (z0w m f) tv D σ H)
 (k: ∀K ρ' H' tvs J s',tvs.length=K.k->MR G F.toFx ρ' H' σ (tvs++tv) s'->zfs G J K tvs->wS G F tv (f K s') D->R J H'):tI G F m σ H R:=by
 obtain⟨hs,ρ,s,M,W⟩:=h
 refine⟨tv,hs,ρ,s,M, ?_⟩
 unfold z0w at W
 cases e:m s with
 |ok K s1=>rw[e] at W;exact λ ρ' H' tvs J hl M' hok=>k K ρ' H' tvs J s1 hl M' hok W
 |ex d s1=>rw[e] at W;exact W
 |no=>rw[e] at W;exact W
theorem ss_for{body:List Stmt}{mi:M ItK}{g:Tg}{mb:MS}(hp:PassesOwn (model X.prog X.w) X.A X.env X.xe)(hc:X.calm=true)(hi:SI X G F tg iter mi)(hg:SG X G F tg g)(hb:SSs X G F body mb)(hst: ∀x,foldedSetIterable iter X.env x=pure x:=by intro _;rfl):SS X G F (.For tg iter body [] pos) (z7A mi g mb):=by
 refine PS.imp0 (zev hp hc hi hg hb hst) λD σ H ⟨tv,h⟩=>z8r h λK ρ' H' tvs J s' hl M' hok W=> ?_
 have hs:=h.1
 refine⟨λi m σ H=> ∃ρ s,MR G F.toFx ρ H σ (tvs++tv) s/\wS G F tv (forGo K g mb m i s) D,⟨_,ρ',s',M',W⟩, ?_⟩
 rintro i m σ H ⟨ρ,s,M,W⟩
 have ok:=hok F.toFx ρ H σ [] tv s i M
 erw[n8,F9,m5] at ok
 unfold forGo at W
 cases e:K.at' i s.tm with
 |none=>erw[e] at W;exact False.elim W
 |some o=>
  cases o with
  |none=>
   erw[e] at W ok
   refine .inl ⟨ok,W ρ σ H ?_⟩
   rw[<-hl]
   exact M.popn
  |some d=>
   erw[e] at W ok
   cases m with
   |zero=>exact False.elim W
   |succ f=>
    dsimp only at W
    cases e2:asg g d s.σ with
    |none=>erw[e2] at W;exact False.elim W
    |some σ'=>
     erw[e2] at W
     refine .inr ⟨ok.1,λ σ H=> ∃ρ s,MR G F.toFx ρ H σ (tvs++tv) s/\wS G F tv (forGo K g mb f (i+1) s) D,λ σ' H' q=>⟨f,s0 _,q⟩,λx H2 y=> ?_⟩
     refine⟨tvs++tv,ρ,s,d,ok.2 x H2 y,σ',e2,λ σv' M2=>⟨tvs++tv,zk8 hs,ρ,_,M2, ?_⟩⟩
     cases e3:mb {s with σ:=σ'} with
     |nx s2=>erw[e3] at W;exact λ ρ3 σ3 H3 M3=>⟨ρ3,s2,M3,W⟩
     |ct s2=>erw[e3] at W;exact λ ρ3 σ3 H3 M3=>⟨ρ3,s2,M3,W⟩
     |bk s2=>erw[e3] at W;exact λ ρ3 σ3 H3 M3=>W ρ3 σ3 H3 (by rw[<-hl];exact M3.popn)
     |rt t s2=>erw[e3] at W;exact λ ρ3 σ3 v H3 M3=>W ρ3 σ3 v H3 (by rw[<-hl];exact M3.popn)
     |ex d s2=>erw[e3] at W;exact W
     |no=>erw[e3] at W;exact W
end
def Z3:List (Option D)->Option (List D)
 |[]=>some []
 |some d::r=>(Z3 r).map (d:: ·)
 |none::_=>none
def v3(K:ItK)(g:Tg)(mt:M Bool)(me:M D)(ol:Nat):Nat->Nat->Nat->M D
 |f,i,k=>λs=>match K.at' i (s.tm.drop (k+ol)) with
  |none=> .no
  |some none=>match Z3 (s.tm.take k).reverse with
   |some ds=> .ok (.lst s.n ds) {σ:=(s.tm.drop k).take ol,tm:=s.tm.drop (k+ol+K.k),n:=s.n+1}
   |none=> .no
  |some (some d)=>match f with
   |0=> .no
   |f+1=>match asg g d s.σ with
    |none=> .no
    |some σ'=>match mt {s with σ:=σ'} with
     | .ok false s1=>v3 K g mt me ol f (i+1) k s1
     | .ok true s1=>if k<sizeLine then match me s1 with
      | .ok y s2=>v3 K g mt me ol f (i+1) (k+1) (s2.psh y)
      |_=> .no
      else .no
     |_=> .no
def z69(own:Nat)(ix:List Nat)(s:Stt):Stt:={σ:=e8 own none++ix.map (λi=>(s.σ[i]?).getD none),tm:=s.σ++s.tm,n:=s.n}
def z03(mi:M ItK)(g:Tg)(mt:M Bool)(me:M D)(own:Nat)(ix:List Nat):M D:=bd mi λK s=>v3 K g mt me s.σ.length (K.len s.tm) 0 0 (z69 own ix s)
section
variable{X:Cx}{G:Gx}{F:Fy}{e a b c tg iter elt:Expr}{pos:Pos}
def Fy.prot(F:Fy)(D:Addr)(ys:List V)(h:F.H0 D=none):Fy where
 A0:=F.A0
 H0:=upd F.H0 D (.lst ys)
 Z:=λa=>a=D\/F.Z a
 zA:=λa z=>by
  rcases z with rfl|z
  .exact⟨⟨_,Z1⟩,λq=>by obtain⟨o,e⟩:=F.aH _ q;rw[h] at e;cases e⟩
  .obtain⟨⟨o,e⟩,n⟩:=F.zA a z
   exact⟨⟨o,by rw[y4 (Q3 e h)];exact e⟩,n⟩
 aH:=λa q=>by
  obtain⟨o,e⟩:=F.aH a q
  exact⟨o,by rw[y4 (Q3 e h)];exact e⟩
 n0:=F.n0
 ρ0:=F.ρ0
 tv0:=[]
 xw:=λ_ _=>False
theorem Sl.none_map{ρ:Nat->Addr}{H:Hp}: ∀k:Nat,Sl G ρ H (e8 k none) (e8 k none)
 |0=>by simp[Sl]
 |k+1=>by erw[p5,Sl];exact⟨_,_,rfl,Sl.none_map k⟩
theorem Sl.pick{ρ:Nat->Addr}{H:Hp}{σ:List (Option D)}{σv:List (Option V)}(h:Sl G ρ H σ σv): ∀ix:List Nat,Sl G ρ H (ix.map λi=>(σ[i]?).getD none) (ix.map λi=>(σv[i]?).getD none)
 |[]=>by simp[Sl]
 |i::ix=>by
  erw[c8]
  cases e:σ[i]? with
  |none=>erw[D1,Sl];exact⟨_,_,rfl,Sl.pick h ix⟩
  |some o=>
   cases o with
   |none=>erw[A3,Sl];exact⟨_,_,rfl,Sl.pick h ix⟩
   |some d=>
    obtain⟨v,e1,r⟩:=h.get i d e
    erw[A3,Sl,e1]
    exact⟨_,_,rfl,r,Sl.pick h ix⟩
theorem z0J{σ:List (Option D)}{l:Nat}: ∀{ix:List Nat},l∈Z5 (ix.map λi=>(σ[i]?).getD none)->l∈Z5 σ
 |[],h=>by simp[Z5] at h
 |i::ix,h=>by
  erw[c8] at h
  cases e:σ[i]? with
  |none=>rw[e] at h;erw[D1,Z5] at h;exact z0J h
  |some o=>
   rw[e] at h
   cases o with
   |none=>erw[A3,Z5] at h;exact z0J h
   |some d=>
    erw[A3,Z5] at h
    rcases c7.mp h with h|h
    .exact z0I e l h
    .exact z0J h
theorem z04{l:Nat}: ∀k:Nat,¬l∈Z5 (e8 k (none:Option D))
 |0,h=>by simp[Z5] at h
 |k+1,h=>by erw[p5,Z5] at h;exact z04 k h
theorem MR.enter{ρ:Nat->Addr}{H:Hp}{σv tv:List (Option V)}{s:Stt}{D:Addr}(M:MR G F.toFx ρ H σv tv s)(hD:H D=none)(k:KD G.K (upd H D (.lst [])))(own:Nat)(ix:List Nat):
 MR G (F.prot D [] (M.fresh0 hD)).toFx ρ (upd H D (.lst [])) (z01 own ix σv) (σv++tv) (z69 own ix s):=by
 have sm:=G5.new (.lst []) hD
 have M1:=M.same sm k
 have nD: ∀l,l<s.n->ρ l≠D:=λl hl e=>by
  obtain⟨o,q⟩:=M.dom l hl
  rw[e,hD] at q;cases q
 have sub: ∀l∈Q8 (z69 own ix s),l∈Q8 s:=λl h=>by
  rcases c7.mp h with h|h
  .have h:l∈Z5 (e8 own none++ix.map (λi=>(s.σ[i]?).getD none)):=h
   rw[Y0] at h
   rcases c7.mp h with h|h
   .exact absurd h (z04 own)
   .exact b8 _ (z0J h)
  .have h:l∈Z5 (s.σ++s.tm):=h
   rw[Y0] at h
   exact h
 refine⟨?_,M1.sl.append M1.tm,M1.inj,M1.dom,λl h=>M.lab l (sub l h),λl h=> ?_,λa o e=> ?_,k,λl hl z=> ?_,M.bas⟩
 .exact(Sl.none_map own).append (M1.sl.pick ix)
 .rcases M.own l (sub l h) with q|q
  .exact .inl q
  .refine .inr ?_
   show upd F.H0 D (.lst []) (ρ l)=none
   rw[y4 (nD l (M.lab l (sub l h)))];exact q
 .have e:upd F.H0 D (.lst []) a=some o:=e
  by_cases ha:a=D
  .subst ha
   rw[Z1] at e;cases e
   exact⟨⟨_,Z1⟩,λ_=>Z1⟩
  .rw[y4 ha] at e
   exact M1.frm a o e
 .rcases z with z|z
  .exact nD l hl z
  .exact M.frb l hl z
theorem MR.turnD{ρ:Nat->Addr}{H:Hp}{σv tv:List (Option V)}{s:Stt}{D:Addr}{ys ys':List V}{hf:F.H0 D=none}(M:MR G (F.prot D ys hf).toFx ρ H σv tv s):
 H D=some (.lst ys)/\MR G (F.prot D ys' hf).toFx ρ (upd H D (.lst ys')) σv tv s:=by
 have hD:H D=some (.lst ys):=(M.frm D (.lst ys) Z1).2 ((F.prot D ys hf).zA D (.inl rfl)).2
 have nD: ∀l,l<s.n->ρ l≠D:=λl hl e=>M.frb l hl (.inl e)
 have st:J5 H (upd H D (.lst ys')):=⟨λb xs e=>by rw[y4 (z0q e hD (by intro z;cases z))];exact e,λb o u e=>by rw[y4 (z0q e hD (by intro z;cases z))];exact e⟩
 refine⟨hD,⟨Sl.stay st M.sl λl hl=>⟨rfl,λo e=> ?_⟩,Sl.stay st M.tm λl hl=>⟨rfl,λo e=> ?_⟩,M.inj,λl hl=> ?_,M.lab,λl h=> ?_,λa o e=> ?_,λa o e=> ?_,λl hl=>M.frb l hl,M.bas⟩⟩
 .rw[y4 (nD l (M.lab l (b8 _ hl)))];exact e
 .rw[y4 (nD l (M.lab l (b6 _ hl)))];exact e
 .rw[y4 (nD l hl)];exact M.dom l hl
 .rcases M.own l h with q|q
  .exact .inl q
  .refine .inr ?_
   have q:upd F.H0 D (.lst ys) (ρ l)=none:=q
   show upd F.H0 D (.lst ys') (ρ l)=none
   rw[y4 (nD l (M.lab l h))] at q⊢;exact q
 .have e:upd F.H0 D (.lst ys') a=some o:=e
  by_cases ha:a=D
  .subst ha
   rw[Z1] at e;cases e
   exact⟨⟨_,Z1⟩,λ_=>Z1⟩
  .rw[y4 ha] at e⊢
   exact M.frm a o (by show upd F.H0 D (.lst ys) a=some o;rw[y4 ha];exact e)
 .by_cases ha:a=D
  .subst ha
   rw[M.kd a o e] at hD;cases hD
  .rw[y4 ha];exact M.kd a o e
theorem Sl.all{ρ:Nat->Addr}{H:Hp}: ∀{tm:List (Option D)} {ys:List V} {ds:List D},Sl G ρ H tm (ys.map some)->Z3 tm=some ds->RDs G ρ H ds ys/\labsL ds=Z5 tm
 |[],ys,ds,h,e=>by
  erw[Sl] at h
  erw[Z3,Option.some.injEq] at e
  subst e
  have:ys=[]:=by simpa using h
  subst this
  simp[RDs,labsL,Z5]
 |none::r,ys,ds,h,e=>by erw[Z3] at e;cases e
 |some d::r,ys,ds,h,e=>by
  erw[Sl] at h
  obtain⟨v,q,e1,h1,h2⟩:=h
  cases ys with
  |nil=>cases e1
  |cons y ys=>
   erw[c8,List.cons.injEq,Option.some.injEq] at e1
   obtain⟨rfl,rfl⟩:=e1
   erw[Z3] at e
   cases e2:Z3 r with
   |none=>rw[e2] at e;cases e
   |some es=>
    rw[e2] at e
    cases e
    obtain⟨r1,r2⟩:=Sl.all h2 e2
    refine⟨?_,by erw[labsL,Z5,r2]⟩
    erw[RDs]
    exact⟨_,_,rfl,h1,r1⟩
theorem Sl.reverse{ρ:Nat->Addr}{H:Hp}: ∀{tm:List (Option D)} {ys:List (Option V)},Sl G ρ H tm ys->Sl G ρ H tm.reverse ys.reverse
 |[],ys,h=>by erw[Sl] at h;subst h;simp[Sl]
 |none::r,ys,h=>by
  erw[Sl] at h
  obtain⟨o,q,rfl,h⟩:=h
  rw[m7,m7]
  exact(Sl.reverse h).append (by erw[Sl];exact⟨_,_,rfl,rfl⟩)
 |some d::r,ys,h=>by
  erw[Sl] at h
  obtain⟨o,q,rfl,h1,h⟩:=h
  rw[m7,m7]
  exact(Sl.reverse h).append (by erw[Sl];exact⟨_,_,rfl,h1,rfl⟩)
theorem z2f{l:Nat}: ∀{tm:List (Option D)},l∈Z5 tm.reverse↔l∈Z5 tm
 |[]=>by simp
 |none::r=>by
  rw[m7,Y0]
  erw[Z5,e7]
  exact z2f
 |some d::r=>by
  rw[m7,Y0]
  erw[Z5,e7,c7]
  rw[z2f]
  exact Or.comm
theorem MR.leave{ρ:Nat->Addr}{H:Hp}{σi σv tvs tv:List (Option V)}{s:Stt}{A1:Addr}{ys:List V}{hf:F.H0 A1=none}{ds:List D}{kk:Nat}
 (M:MR G (F.prot A1 ys hf).toFx ρ H σi ((ys.reverse.map some)++(σv++(tvs++tv))) s) (hk:tvs.length=kk) (ol:Nat) (ho:σv.length=ol) (e:Z3 (s.tm.take ys.length).reverse=some ds):
 MRL G F.toFx (ext ρ s.n A1) H σv tv {σ:=(s.tm.drop ys.length).take ol,tm:=s.tm.drop (ys.length+ol+kk),n:=s.n+1} [.lst s.n ds] [.ref A1]:=by
 subst hk ho
 have hD:=(MR.turnD (ys':=ys) M).1
 have nD: ∀l,l<s.n->ρ l≠A1:=λl hl e=>M.frb l hl (.inl e)
 have t0:=Sl.split (ys.reverse.map some) M.tm
 erw[l0,D3] at t0
 obtain⟨t1,t2⟩:=t0
 obtain⟨t3,t4⟩:=Sl.split σv t2
 obtain⟨_,t6⟩:=Sl.split tvs t4
 rw[D8] at t4
 rw[D8,D8] at t6
 have t6':Sl G ρ H (s.tm.drop (ys.length+σv.length+tvs.length)) tv:=by rw[L5];exact t6
 have t1':=t1.reverse
 rw[<-List.map_reverse,List.reverse_reverse] at t1'
 obtain⟨r1,r2⟩:=Sl.all t1' e
 have lt: ∀l,l∈Z5 (s.tm.take ys.length)->l∈Q8 s:=λl h=>b6 _ (by
  have e:=Y0 (s.tm.take ys.length) (s.tm.drop ys.length)
  rw[B8] at e
  rw[e];exact b8 _ h)
 have ld: ∀l k,l∈Z5 (s.tm.drop k)->l∈Q8 s:=λl k h=>b6 _ (by
  have e:=Y0 (s.tm.take k) (s.tm.drop k)
  rw[B8] at e
  rw[e];exact b6 _ h)
 have ldt: ∀l k j,l∈Z5 ((s.tm.drop k).take j)->l∈Q8 s:=λl k j h=>ld l k (by
  have e:=Y0 ((s.tm.drop k).take j) ((s.tm.drop k).drop j)
  rw[B8] at e
  rw[e];exact b8 _ h)
 have own: ∀l∈Q8 s,F.A0 (ρ l)\/F.H0 (ρ l)=none:=λl h=>by
  rcases M.own l h with q|q
  .exact .inl q
  .refine .inr ?_
   have q:upd F.H0 A1 (.lst ys) (ρ l)=none:=q
   rw[y4 (nD l (M.lab l h))] at q;exact q
 have st:=J5.refl H
 have stay: ∀l,l<s.n->ext ρ s.n A1 l=ρ l/\∀o,H (ρ l)=some o->H (ρ l)=some o:=λl hl=>⟨Y7 hl,λo e=>e⟩
 have all: ∀l∈Q8 {σ:=(s.tm.drop ys.length).take σv.length,tm:=s.tm.drop (ys.length+σv.length+tvs.length),n:=s.n+1},l∈Q8 s:=λl h=>by
  rcases c7.mp h with h|h
  .exact ldt l _ _ h
  .exact ld l _ h
 have dsl: ∀l∈labsL ds,l∈Q8 s:=λl h=>lt l (by rw[r2] at h;exact z2f.mp h)
 refine⟨⟨Sl.stay st t3 λl hl=>stay l (M.lab l (ldt l _ _ hl)),Sl.stay st t6' λl hl=>stay l (M.lab l (ld l _ hl)),λi j hi hj eq=> ?_,λl hl=> ?_,λl h=>A9 (M.lab l (all l h)),λl h=> ?_,λa o e=> ?_,M.kd,λl hl z=> ?_,⟨O1 M.bas.1,λl hl=>by rw[Y7 (i4 hl M.bas.1)];exact M.bas.2 l hl⟩⟩, ?_,λl h=> ?_⟩
 .have hi:i<s.n+1:=hi
  have hj:j<s.n+1:=hj
  by_cases h1:i=s.n
  .by_cases h2:j=s.n
   .lia
   .rw[h1,W9,Y7 (by lia)] at eq
    exact absurd eq.symm (nD j (by lia))
  .by_cases h2:j=s.n
   .rw[h2,W9,Y7 (by lia)] at eq
    exact absurd eq (nD i (by lia))
   .rw[Y7 (by lia),Y7 (by lia)] at eq
    exact M.inj i j (by lia) (by lia) eq
 .have hl:l<s.n+1:=hl
  by_cases h1:l=s.n
  .subst h1;rw[W9];exact⟨_,hD⟩
  .rw[Y7 (by lia)];exact M.dom l (by lia)
 .rw[Y7 (M.lab l (all l h))];exact own l (all l h)
 .exact M.frm a o (by show upd F.H0 A1 (.lst ys) a=some o;rw[y4 (Q3 e hf)];exact e)
 .have hl:l<s.n+1:=hl
  by_cases h1:l=s.n
  .subst h1;rw[W9] at z
   obtain⟨⟨o,e⟩,_⟩:=F.zA A1 z
   rw[hf] at e;cases e
  .rw[Y7 (by lia)] at z
   exact M.frb l (by lia) (.inr z)
 .refine RDs.one ?_
  erw[RD]
  rw[W9]
  exact⟨rfl,ys,hD,RDs.stay st ds ys r1 λl hl=>stay l (M.lab l (dsl l hl))⟩
 .erw[labsL,y3,e7] at h
  rcases c9.mp h with q|q
  .rw[q,W9];exact⟨s0 _, .inr hf⟩
  .have q2:=dsl l q
   exact⟨A9 (M.lab l q2),by rw[Y7 (M.lab l q2)];exact own l q2⟩
def tMx(G:Gx)(m:M D):TE:=λ σ H Q=> ∃F:Fy,tM G F m σ H Q
def tBx(G:Gx)(m:M Bool):TT:=λ σ H Q=> ∃F:Fy,tMB G F m σ H Q
def tGx(G:Gx)(g:Tg):TG:=λv σ H Q=> ∃F:Fy,tGn G F g v σ H Q
def STs(X:Cx)(G:Gx)(F:Fy)(ifs:List Expr)(m:M Bool):Prop:=PTs X ifs (tMB G F m)
theorem sts_nil:STs X G F [] (rt true):=λpins s σ H Q I ⟨tv,hs,ρ,ms,M,W⟩=>z5j pins s σ H Q I (W ρ H M)
theorem zah{K:W.Frag}{k:Nat}{ix:List Nat}{mi:M ItK}{g:Tg}{mt:M Bool}{me:M D}{σ:St}{H:Hp}{Q:VK}(hk:K=G.K)(h:tM G F (z03 mi g mt me k ix) σ H Q):zbt K (tI G F mi) (tGx G g) (tBx G mt) (tMx G me) k ix σ H Q:=by
 obtain⟨tv,hsf,ρ,s,M,W⟩:=h
 refine⟨tv,hsf,ρ,s,M, ?_⟩
 unfold z03 bd at W
 cases em:mi s with
 |ex d s1=>rw[em] at W;exact W
 |no=>rw[em] at W;exact W
 |ok K s1=>
  rw[em] at W
  intro ρ1 H1 tvs J hl M1 hok A1 hA1 kd
  subst hk
  have kd:KD G.K (upd H1 A1 (.lst [])):=kd
  have hf:=M1.fresh0 hA1
  refine⟨λi m ys σ' H'=> ∃ρ s,MR G (F.prot A1 ys hf).toFx ρ H' σ' ((ys.reverse.map some)++(σ++(tvs++tv))) s/\wM G F σ tv (v3 K g mt me s1.σ.length m i ys.length s) Q,⟨_,ρ1,_,M1.enter hA1 kd k ix,W⟩, ?_⟩
  rintro i m ys σ' H' ⟨ρ2,s2,M2,W2⟩
  have hD:=(MR.turnD (ys':=ys) M2).1
  refine⟨hD, ?_⟩
  have ol:s1.σ.length=σ.length:=M1.sl.length
  have ok:=hok (F.prot A1 ys hf).toFx ρ2 H' σ' ((ys.reverse.map some)++σ) tv s2 i (by rw[o0];exact M2)
  erw[l3,l0,D3,<-ol,o0] at ok
  unfold v3 at W2
  cases e:K.at' i (s2.tm.drop (ys.length+s1.σ.length)) with
  |none=>erw[e] at W2;exact False.elim W2
  |some o=>
   rw[e] at ok
   cases o with
   |none=>
    erw[e] at W2 ok
    refine .inl ⟨ok, ?_⟩
    cases ea:Z3 (s2.tm.take ys.length).reverse with
    |none=>erw[ea] at W2;exact False.elim W2
    |some ds=>
     erw[ea] at W2
     exact W2 _ _ _ (MR.leave M2 hl _ ol.symm ea)
   |some d=>
    erw[e] at W2 ok
    cases m with
    |zero=>exact False.elim W2
    |succ f=>
     dsimp only at W2
     cases e2:asg g d s2.σ with
     |none=>erw[e2] at W2;exact False.elim W2
     |some σ3=>
      erw[e2] at W2
      refine .inr ⟨ok.1,λx H2 y=> ?_⟩
      have hx:=ok.2 x H2 y
      refine⟨F.prot A1 ys hf,_,ρ2,s2,d,hx,σ3,e2,λ σv' M3=>⟨F.prot A1 ys hf,_,P0,ρ2,_,M3, ?_⟩⟩
      cases e3:mt {s2 with σ:=σ3} with
      |ex d s4=>erw[e3] at W2;exact False.elim W2
      |no=>erw[e3] at W2;exact False.elim W2
      |ok b s4=>
       intro ρ4 H4 M4
       cases b with
       |false=>
        erw[e3] at W2
        rw[if_neg i5]
        exact⟨f,s0 _,ρ4,s4,M4,W2⟩
       |true=>
        erw[e3] at W2
        rw[if_pos rfl]
        by_cases hz:ys.length<sizeLine
        .rw[if_pos hz] at W2
         refine⟨F.prot A1 ys hf,_,P0,ρ4,s4,M4, ?_⟩
         cases e5:me s4 with
         |ex d s5=>erw[e5] at W2;exact False.elim W2
         |no=>erw[e5] at W2;exact False.elim W2
         |ok y s5=>
          erw[e5] at W2
          intro ρ5 v H5 M5
          obtain⟨hD5,M6⟩:=MR.turnD (ys':=ys++[v]) M5.push
          refine⟨hD5,hz,f,s0 _,ρ5,s5.psh y, ?_, ?_⟩
          .rw[D5,m7,B3,m5,C5]
           exact M6
          .rw[l3];exact W2
        .rw[if_neg hz] at W2;exact False.elim W2
theorem se_comp{scope:Scope}{own frees:List Str}{ix:List Nat}{ifs:List Expr}{mi:M ItK}{g:Tg}{mt:M Bool}{me:M D}(hk:X.K=G.K)(hc:X.calm=true)(S:J0 X.env.scope scope own frees X.N ix)(hi:SI X G F tg iter mi)
 (hg: ∀(F:Fy) cl C s₀ H₀ fp pn,SG (Q7 X scope own frees cl C s₀ H₀ fp pn) G F tg g) (ht: ∀(F:Fy) cl C s₀ H₀ fp pn,STs (Q7 X scope own frees cl C s₀ H₀ fp pn) G F ifs mt) (he: ∀(F:Fy) cl C s₀ H₀ fp pn,SE (Q7 X scope own frees cl C s₀ H₀ fp pn) G F elt me)
 (hs: ∀x,foldedSetIterable iter X.env x=pure x:=by intro _;rfl):SE X G F (.ListComp elt [⟨tg,iter,ifs,0⟩] scope pos) (z03 mi g mt me own.length ix):=
 PE.imp0 (z2e (g:=tGx G g) (tt:=tBx G mt) (te:=tMx G me) hc S hi (λcl C s₀ H₀ fp pn pins s σ H v u Q I r ⟨F',q⟩=>hg F' cl C s₀ H₀ fp pn pins s σ H v u Q I r q)
  (λcl C s₀ H₀ fp pn pins s σ H Q I ⟨F',q⟩=>ht F' cl C s₀ H₀ fp pn pins s σ H Q I q) (λcl C s₀ H₀ fp pn pins s σ H Q I ⟨F',q⟩=>he F' cl C s₀ H₀ fp pn pins s σ H Q I q) hs) λ σ H Q h=>zah hk h
end
mutual
def Z8(l:Nat):D->Option D
 | .tup ds=>findL l ds
 | .ro ds=>findL l ds
 | .fdc _ vs=>findL l vs
 | .lst k ds=>if k=l then some (.lst k ds) else findL l ds
 | .dct k ks vs=>if k=l then some (.dct k ks vs) else findL l vs
 | .obj k c ns vs=>if k=l then some (.obj k c ns vs) else findL l vs
 | .non=>none| .bool _=>none| .int _=>none| .str _=>none| .exc _=>none| .fn _=>none
def findL(l:Nat):List D->Option D
 |[]=>none
 |d::ds=>match Z8 l d with
  |some x=>some x
  |none=>findL l ds
end
section
variable{G:Gx}{ρ:Nat->Addr}{H:Hp}
mutual
theorem zai(l:Nat): ∀(t:D) (v:V) (d:D),RD G ρ H t v->Z8 l t=some d->RD G ρ H d (.ref (ρ l))/\∀k∈y3 d,k∈y3 t
 | .non,v,d,h,e=>by erw[Z8] at e;cases e
 | .bool b,v,d,h,e=>by erw[Z8] at e;cases e
 | .int b,v,d,h,e=>by erw[Z8] at e;cases e
 | .str b,v,d,h,e=>by erw[Z8] at e;cases e
 | .exc b,v,d,h,e=>by erw[Z8] at e;cases e
 | .fn b,v,d,h,e=>by erw[Z8] at e;cases e
 | .tup ds,v,d,h,e=>by
  erw[Z8,RD,y3] at h e⊢
  obtain⟨a,xs,_,_,r⟩:=h
  exact findL_rd l ds xs d r e
 | .ro ds,v,d,h,e=>by
  erw[Z8,RD,y3] at h e⊢
  obtain⟨a,xs,_,_,r⟩:=h
  exact findL_rd l ds xs d r e
 | .fdc ks vs,v,d,h,e=>by
  erw[Z8,RD,y3] at h e⊢
  obtain⟨a,o,kvs,_,_,_,r⟩:=h
  exact findL_rd l vs _ d r e
 | .lst k ds,v,d,h,e=>by
  erw[Z8] at e
  by_cases hk:k=l
  .rw[if_pos hk] at e;cases e
   subst hk
   have h':=h
   erw[RD] at h'
   obtain⟨rfl,_⟩:=h'
   exact⟨h,λ_ q=>q⟩
  .rw[if_neg hk] at e
   erw[RD] at h
   obtain⟨_,xs,_,r⟩:=h
   obtain⟨q1,q2⟩:=findL_rd l ds xs d r e
   exact⟨q1,λj hj=>by erw[y3];exact b7 _ (q2 j hj)⟩
 | .dct k ks vs,v,d,h,e=>by
  erw[Z8] at e
  by_cases hk:k=l
  .rw[if_pos hk] at e;cases e
   subst hk
   have h':=h
   erw[RD] at h'
   obtain⟨rfl,_⟩:=h'
   exact⟨h,λ_ q=>q⟩
  .rw[if_neg hk] at e
   erw[RD] at h
   obtain⟨_,⟨kvs,_,_,r⟩|⟨kvs,_,_,r⟩⟩:=h
   .obtain⟨q1,q2⟩:=findL_rd l vs _ d r e
    exact⟨q1,λj hj=>by erw[y3];exact b7 _ (b6 _ (q2 j hj))⟩
   .obtain⟨q1,q2⟩:=findL_rd l vs _ d r e
    exact⟨q1,λj hj=>by erw[y3];exact b7 _ (b6 _ (q2 j hj))⟩
 | .obj k c ns vs,v,d,h,e=>by
  erw[Z8] at e
  by_cases hk:k=l
  .rw[if_pos hk] at e;cases e
   subst hk
   have h':=h
   erw[RD] at h'
   obtain⟨rfl,_⟩:=h'
   exact⟨h,λ_ q=>q⟩
  .rw[if_neg hk] at e
   erw[RD] at h
   obtain⟨_,C,dx,fs,_,_,_,r⟩:=h
   obtain⟨q1,q2⟩:=findL_rd l vs _ d r e
   exact⟨q1,λj hj=>by erw[y3];exact b7 _ (q2 j hj)⟩
theorem findL_rd(l:Nat): ∀(t:List D) (v:List V) (d:D),RDs G ρ H t v->findL l t=some d->RD G ρ H d (.ref (ρ l))/\∀k∈y3 d,k∈labsL t
 |[],v,d,h,e=>by erw[findL] at e;cases e
 |t::ts,v,d,h,e=>by
  erw[findL,RDs,labsL] at h e⊢
  obtain⟨x,r,_,h1,h2⟩:=h
  cases e1:Z8 l t with
  |some y=>
   rw[e1] at e;cases e
   obtain⟨q1,q2⟩:=zai l t x _ h1 e1
   exact⟨q1,λj hj=>b8 _ (q2 j hj)⟩
  |none=>
   rw[e1] at e
   obtain⟨q1,q2⟩:=findL_rd l ts r d h2 e
   exact⟨q1,λj hj=>b6 _ (q2 j hj)⟩
end
theorem roL_two{K:W.Frag}{a:Addr}{xs ys:List V}(k:KD K H)(h:RoL K H a xs)(h':RoL K H a ys):xs=ys:=SqL.two k h.sq h'.sq
def z6a(G:Gx)(H:Hp)(a:Addr):Nat->Prop
 |0=> ∃xs,SqT G.K H a xs
 |1=> ∃xs,RoL G.K H a xs
 |2=> ∃xs,H a=some (.lst xs)
 |3=>(∃kvs,H a=some (.dK kvs))\/∃kvs,H a=some (.dT kvs)
 |4=> ∃C dx fs,H a=some (.ins C dx fs)
 |5=> ∃o φ,H a=some (.frz o (.ext φ))
 |6=> ∃c,G.cl c=some a
 |_=> ∃o kvs,H a=some (.frz o (.dT kvs))
open Classical in
def kd(K:W.Frag)(H:Hp)(a:Addr):Nat:=match H a with
 |some (.tup _)=>0|some (.frz _ (.tup _))=>0|some (.frz _ (.lst _))=>1|some (.lst _)=>2|some (.dK _)=>3|some (.dT _)=>3|some (.ins _ _ _)=>4|some (.frz _ (.ext _))=>5|some (.frz _ (.dT _))=>7
 |some _=>9
 |none=>match K.lookup a with
  |some o=>if(∃its n,o.data= .seq its n) then(if o.cls= .type "tuple" then 0 else 1) else 6
  |none=>8
theorem zfv{a:Addr}(k:KD G.K H): ∀{i:Nat},z6a G H a i->i<=7->kd G.K H a=i:=by
 have tl: ¬((.type "list" :Value)= .type "tuple"):=by intro h;injection h with h;exact absurd h (by decide)
 intro i hi li
 match i,hi,li with
 |0,⟨xs,h⟩,_=>
  rcases h with(h|⟨o,h⟩)|⟨o,its,n,h,hc,hd,_⟩
  .unfold kd;rw[h]
  .unfold kd;rw[h]
  .unfold kd;rw[k _ _ h];dsimp only;rw[h];dsimp only;rw[if_pos ⟨its,n,hd⟩,if_pos hc]
 |1,⟨xs,h⟩,_=>
  rcases h with⟨o,h⟩|⟨o,its,n,h,hc,_,hd,_⟩
  .unfold kd;rw[h]
  .unfold kd;rw[k _ _ h];dsimp only;rw[h];dsimp only;rw[if_pos ⟨its,n,hd⟩,if_neg (by rw[hc];exact tl)]
 |2,⟨xs,h⟩,_=>unfold kd;rw[h]
 |3,h,_=>rcases h with⟨_,h⟩|⟨_,h⟩<;>(unfold kd;rw[h])
 |4,⟨_,_,_,h⟩,_=>unfold kd;rw[h]
 |5,⟨_,_,h⟩,_=>unfold kd;rw[h]
 |6,⟨c,h⟩,_=>
  obtain⟨o,h1,h2⟩:=G.ck c a h
  unfold kd;rw[k _ _ h1];dsimp only;rw[h1];dsimp only;rw[if_neg (λ⟨its,n,q⟩=>h2 its n q)]
 |7,⟨_,_,h⟩,_=>unfold kd;rw[h]
 |n+8,_,li=>lia
theorem zaj{a:Addr}(k:KD G.K H){i j:Nat}(hi:z6a G H a i)(hj:z6a G H a j)(li:i<=7)(lj:j<=7):i=j:=(zfv k hi li).symm.trans (zfv k hj lj)
def ix:D->Nat
 | .tup _=>0| .ro _=>1| .lst _ _=>2| .dct _ _ _=>3| .obj _ _ _ _=>4| .exc _=>5| .fn _=>6| .fdc _ _=>7|_=>8
def flD:V->D
 | .bl b=> .bool b| .int b=> .int b| .str b=> .str b|_=> .non
theorem RD.kind{t:D}{v:V}(h:RD G ρ H t v):(t=flD v/\∀a,v≠ .ref a)\/∃a,v= .ref a/\ix t<=7/\z6a G H a (ix t):=by
 cases t<;>erw[RD] at h
 .exact .inl (by rw[h];exact⟨rfl,nofun⟩)
 .exact .inl (by rw[h];exact⟨rfl,nofun⟩)
 .exact .inl (by rw[h];exact⟨rfl,nofun⟩)
 .exact .inl (by rw[h];exact⟨rfl,nofun⟩)
 .obtain⟨a',xs,e,s,r⟩:=h;exact .inr ⟨a',e,p4 rfl,xs,SqT.of s⟩
 .obtain⟨a',xs,e,s,r⟩:=h;exact .inr ⟨a',e,p4 rfl,xs,s⟩
 .obtain⟨e,xs,s,r⟩:=h;exact .inr ⟨_,e,p4 rfl,xs,s⟩
 .obtain⟨e,⟨kvs,s,_⟩|⟨kvs,s,_⟩⟩:=h
  .exact .inr ⟨_,e,p4 rfl, .inl ⟨kvs,s⟩⟩
  .exact .inr ⟨_,e,p4 rfl, .inr ⟨kvs,s⟩⟩
 .obtain⟨e,C,dx,fs,_,s,_⟩:=h;exact .inr ⟨_,e,p4 rfl,C,dx,fs,s⟩
 .obtain⟨a',o,C,e,_,_,_,s⟩:=h;exact .inr ⟨a',e,p4 rfl,o,_,s⟩
 .obtain⟨a',e,s⟩:=h;exact .inr ⟨a',e,p4 rfl,_,s⟩
 .obtain⟨a',o,kvs,e,s,_⟩:=h;exact .inr ⟨a',e,p4 rfl,o,kvs,s⟩
theorem ix0{t:D}(h:ix t=0): ∃ds,t= .tup ds:=by cases t<;>first|exact⟨_,rfl⟩|cases h
theorem ix1{t:D}(h:ix t=1): ∃ds,t= .ro ds:=by cases t<;>first|exact⟨_,rfl⟩|cases h
theorem ix2{t:D}(h:ix t=2): ∃l ds,t= .lst l ds:=by cases t<;>first|exact⟨_,_,rfl⟩|cases h
theorem ix3{t:D}(h:ix t=3): ∃l ks vs,t= .dct l ks vs:=by cases t<;>first|exact⟨_,_,_,rfl⟩|cases h
theorem ix4{t:D}(h:ix t=4): ∃l c ns vs,t= .obj l c ns vs:=by cases t<;>first|exact⟨_,_,_,_,rfl⟩|cases h
theorem ix5{t:D}(h:ix t=5): ∃c,t= .exc c:=by cases t<;>first|exact⟨_,rfl⟩|cases h
theorem ix6{t:D}(h:ix t=6): ∃c,t= .fn c:=by cases t<;>first|exact⟨_,rfl⟩|cases h
theorem ix7{t:D}(h:ix t=7): ∃ks vs,t= .fdc ks vs:=by cases t<;>first|exact⟨_,_,rfl⟩|cases h
theorem RD.ixE{t t':D}{v:V}(k:KD G.K H)(h:RD G ρ H t v)(h':RD G ρ H t' v):t=t'\/ix t=ix t':=by
 rcases RD.kind h with⟨e,n⟩|⟨a,e,l,q⟩<;>rcases RD.kind h' with⟨e',n'⟩|⟨a',e',l',q'⟩
 .exact .inl (e.trans e'.symm)
 .exact absurd e' (n _)
 .exact absurd e (n' _)
 .cases e.symm.trans e';exact .inr (zaj k q q' l l')
section
variable(k:KD G.K H){n:Nat}(inj: ∀i j,i<n->j<n->ρ i=ρ j->i=j)
include k inj
mutual
theorem RD.uniq: ∀(t t':D) (v:V),RD G ρ H t v->RD G ρ H t' v->(∀l∈y3 t,l<n)->(∀l∈y3 t',l<n)->t=t'
 | .non,t',v,h,h',_,_=>(RD.kind h').elim (λe=>by erw[RD] at h;subst h;exact e.1.symm) λ⟨_,e,_⟩=>by erw[RD] at h;subst h;cases e
 | .bool b,t',v,h,h',_,_=>(RD.kind h').elim (λe=>by erw[RD] at h;subst h;exact e.1.symm) λ⟨_,e,_⟩=>by erw[RD] at h;subst h;cases e
 | .int b,t',v,h,h',_,_=>(RD.kind h').elim (λe=>by erw[RD] at h;subst h;exact e.1.symm) λ⟨_,e,_⟩=>by erw[RD] at h;subst h;cases e
 | .str b,t',v,h,h',_,_=>(RD.kind h').elim (λe=>by erw[RD] at h;subst h;exact e.1.symm) λ⟨_,e,_⟩=>by erw[RD] at h;subst h;cases e
 | .exc c,t',v,h,h',lb,lb'=>by
  rcases RD.ixE k h h' with e|e
  .exact e
  obtain⟨c',rfl⟩:=ix5 e.symm
  erw[RD] at h h'
  obtain⟨a,o,C,rfl,h1,h2,_,s⟩:=h
  obtain⟨a',o',C',e,h1',h2',_,s'⟩:=h'
  cases e
  rw[s] at s';cases s'
  rw[h2] at h2';cases h2'
  rw[G.ci c c' C h1 h1']
 | .fn c,t',v,h,h',lb,lb'=>by
  rcases RD.ixE k h h' with e|e
  .exact e
  obtain⟨c',rfl⟩:=ix6 e.symm
  erw[RD] at h h'
  obtain⟨a,rfl,h1⟩:=h
  obtain⟨a',e,h1'⟩:=h'
  cases e
  rw[G.ci c c' a h1 h1']
 | .tup ds,t',v,h,h',lb,lb'=>by
  rcases RD.ixE k h h' with e|e
  .exact e
  obtain⟨es,rfl⟩:=ix0 e.symm
  obtain⟨a,xs,rfl,s,r⟩:=h.tupq
  obtain⟨a',ys,e,s',r'⟩:=h'.tupq
  cases e
  cases SqT.two k s s'
  rw[RDs.uniq ds es xs r r' lb lb']
 | .fdc ks vs,t',v,h,h',lb,lb'=>by
  rcases RD.ixE k h h' with e|e
  .exact e
  obtain⟨ks',vs',rfl⟩:=ix7 e.symm
  erw[RD] at h h'
  obtain⟨a,o,kvs,rfl,s,s2,r⟩:=h
  obtain⟨a',o',kvs',e,s',s2',r'⟩:=h'
  cases e
  rw[s] at s';cases s'
  rw[s2,s2',RDs.uniq vs vs' _ r r' lb lb']
 | .ro ds,t',v,h,h',lb,lb'=>by
  rcases RD.ixE k h h' with e|e
  .exact e
  obtain⟨es,rfl⟩:=ix1 e.symm
  erw[RD] at h h'
  obtain⟨a,xs,rfl,s,r⟩:=h
  obtain⟨a',ys,e,s',r'⟩:=h'
  cases e
  cases roL_two k s s'
  rw[RDs.uniq ds es xs r r' lb lb']
 | .lst l ds,t',v,h,h',lb,lb'=>by
  rcases RD.ixE k h h' with e|e
  .exact e
  obtain⟨l',es,rfl⟩:=ix2 e.symm
  erw[RD] at h h'
  obtain⟨rfl,xs,s,r⟩:=h
  obtain⟨e,ys,s',r'⟩:=h'
  cases inj l l' (lb l (.head _)) (lb' l' (.head _)) (V.ref.inj e)
  rw[s] at s';cases s'
  rw[RDs.uniq ds es xs r r' (λj hj=>lb j (.tail _ hj)) λj hj=>lb' j (.tail _ hj)]
 | .dct l ks vs,t',v,h,h',lb,lb'=>by
  rcases RD.ixE k h h' with e|e
  .exact e
  obtain⟨l',ks',vs',rfl⟩:=ix3 e.symm
  erw[RD] at h h'
  obtain⟨rfl,q⟩:=h
  obtain⟨e,q'⟩:=h'
  cases inj l l' (lb l (.head _)) (lb' l' (.head _)) (V.ref.inj e)
  have b1: ∀j∈labsL vs,j<n:=λj hj=>lb j (.tail _ (b6 _ hj))
  have b2: ∀j∈labsL vs',j<n:=λj hj=>lb' j (.tail _ (b6 _ hj))
  rcases q with⟨kvs,s,s2,r⟩|⟨kvs,s,s2,r⟩<;>rcases q' with⟨kvs',s',s2',r'⟩|⟨kvs',s',s2',r'⟩<;>rw[s] at s'<;>cases s'
  .rw[s2,s2',RDs.uniq vs vs' _ r r' b1 b2]
  .rw[s2,s2',RDs.uniq vs vs' _ r r' b1 b2]
 | .obj l c ns vs,t',v,h,h',lb,lb'=>by
  rcases RD.ixE k h h' with e|e
  .exact e
  obtain⟨l',c',ns',vs',rfl⟩:=ix4 e.symm
  erw[RD] at h h'
  obtain⟨rfl,C,dx,fs,hC,s,s2,r⟩:=h
  obtain⟨e,C',dx',fs',hC',s',s2',r'⟩:=h'
  cases inj l l' (lb l (.head _)) (lb' l' (.head _)) (V.ref.inj e)
  rw[s] at s';cases s'
  rw[s2,s2',G.ci c c' C hC hC',RDs.uniq vs vs' _ r r' (λj hj=>lb j (.tail _ hj)) λj hj=>lb' j (.tail _ hj)]
theorem RDs.uniq: ∀(t t':List D) (v:List V),RDs G ρ H t v->RDs G ρ H t' v->(∀l∈labsL t,l<n)->(∀l∈labsL t',l<n)->t=t'
 |[],t',v,h,h',_,_=>by
  erw[RDs] at h;subst h
  cases t' with
  |nil=>rfl
  |cons d ds=>erw[RDs] at h';obtain⟨_,_,e,_⟩:=h';cases e
 |d::ds,t',v,h,h',lb,lb'=>by
  erw[RDs] at h
  obtain⟨x,q,rfl,h1,h2⟩:=h
  cases t' with
  |nil=>erw[RDs] at h';cases h'
  |cons d' ds'=>
   erw[RDs] at h'
   obtain⟨_,_,e,h1',h2'⟩:=h'
   cases e
   rw[RD.uniq d d' x h1 h1' (λl hl=>lb l (by erw[labsL];exact b8 _ hl)) λl hl=>lb' l (by erw[labsL];exact b8 _ hl),
    RDs.uniq ds ds' q h2 h2' (λl hl=>lb l (by erw[labsL];exact b6 _ hl)) λl hl=>lb' l (by erw[labsL];exact b6 _ hl)]
end
end
end
end Mi
namespace Mi
open PySem L2 PySem.Spec PyProof.Rows
inductive RF where
 |ok (t:D) (ts:List D) (n:Nat)|ex (d:D) (ts:List D) (n:Nat)|no
abbrev FM:=List D->Nat->RF
structure z3r(G:Gx)(ρ:Nat->Addr)(n:Nat)(ts:List D)(vs:List V)(H:Hp)(ρ':Nat->Addr)(n':Nat)(ts':List D)(H':Hp):Prop where
 old: ∀l,l<n->ρ' l=ρ l
 le:n<=n'
 inj: ∀i j,i<n'->j<n'->ρ' i=ρ' j->i=j
 dom: ∀l,l<n'->∃o,H' (ρ' l)=some o
 rd:RDs G ρ' H' ts' vs
 lb: ∀l∈labsL ts',l<n'/\(l<n->l∈labsL ts)
 fr: ∀a o,H a=some o->(∃o',H' a=some o')/\((∀l∈labsL ts,a≠ρ l)->H' a=some o)
 new: ∀l,n<=l->l<n'->H (ρ' l)=none
 kd:KD G.K H'
section
variable{G:Gx}{ρ ρ':Nat->Addr}{H H':Hp}
theorem z8s(k:Key):y3 (z41 k)=[]:=by cases k<;>erw[z41,y3]
theorem z8t: ∀ks:List Key,labsL (ks.map z41)=[]
 |[]=>by erw[l7,labsL]
 |k::ks=>by erw[c8,labsL,z8s,z8t ks,e7]
theorem z5k(z:Key⊕List Key):y3 (nkD z)=[]:=by
 cases z with
 |inl k=>exact z8s k
 |inr ks=>erw[nkD,y3,z8t]
mutual
theorem zcU: ∀(t:D) (v:V),RD G ρ H t v->∀l∈y3 t,∃o,H (ρ l)=some o/\(∀xs,o≠ .tup xs)/\∀u w,o≠ .frz u w
 | .non,v,h,l,hl=>by erw[y3] at hl;cases hl
 | .bool b,v,h,l,hl=>by erw[y3] at hl;cases hl
 | .int b,v,h,l,hl=>by erw[y3] at hl;cases hl
 | .str b,v,h,l,hl=>by erw[y3] at hl;cases hl
 | .exc b,v,h,l,hl=>by erw[y3] at hl;cases hl
 | .fn b,v,h,l,hl=>by erw[y3] at hl;cases hl
 | .tup ds,v,h,l,hl=>by
  erw[y3,RD] at h hl
  obtain⟨a,xs,_,_,r⟩:=h
  exact labL_mut ds xs r l hl
 | .fdc ks vs,v,h,l,hl=>by
  erw[y3,RD] at h hl
  obtain⟨a,o,kvs,_,_,_,r⟩:=h
  exact labL_mut vs _ r l hl
 | .ro ds,v,h,l,hl=>by
  erw[y3,RD] at h hl
  obtain⟨a,xs,_,_,r⟩:=h
  exact labL_mut ds xs r l hl
 | .lst k ds,v,h,l,hl=>by
  erw[y3,RD] at h hl
  obtain⟨_,xs,s,r⟩:=h
  rcases c9.mp hl with rfl|hl
  .exact⟨_,s,(λ_ q=>nomatch q),(λ_ _ q=>nomatch q)⟩
  .exact labL_mut ds xs r l hl
 | .dct k ks vs,v,h,l,hl=>by
  erw[y3,RD] at h hl
  obtain⟨_,⟨kvs,s,s2,r⟩|⟨kvs,s,s2,r⟩⟩:=h
  .rcases c9.mp hl with rfl|hl
   .exact⟨_,s,(λ_ q=>nomatch q),(λ_ _ q=>nomatch q)⟩
   .rcases c7.mp hl with hl|hl
    .rw[s2] at hl
     obtain⟨d,hd,hl⟩:=g7 hl
     rcases c9.mp hd with rfl|hd
     .erw[y3] at hl;cases hl
     obtain⟨p,_,rfl⟩:=m8.mp hd
     obtain⟨kk,_⟩:=p
     cases kk<;>erw[z41,y3] at hl<;>cases hl
    .exact labL_mut vs _ r l hl
  .rcases c9.mp hl with rfl|hl
   .exact⟨_,s,(λ_ q=>nomatch q),(λ_ _ q=>nomatch q)⟩
   .rcases c7.mp hl with hl|hl
    .rw[s2] at hl
     obtain⟨d,hd,hl⟩:=g7 hl
     obtain⟨p,_,rfl⟩:=m8.mp hd
     erw[dkD,y3] at hl
     obtain⟨d,hd,hl⟩:=g7 hl
     obtain⟨kk,_,rfl⟩:=m8.mp hd
     rw[z5k] at hl;cases hl
    .exact labL_mut vs _ r l hl
 | .obj k c ns vs,v,h,l,hl=>by
  erw[y3,RD] at h hl
  obtain⟨_,C,dx,fs,_,s,_,r⟩:=h
  rcases c9.mp hl with rfl|hl
  .exact⟨_,s,(λ_ q=>nomatch q),(λ_ _ q=>nomatch q)⟩
  .exact labL_mut vs _ r l hl
theorem labL_mut: ∀(t:List D) (v:List V),RDs G ρ H t v->∀l∈labsL t,∃o,H (ρ l)=some o/\(∀xs,o≠ .tup xs)/\∀u w,o≠ .frz u w
 |[],v,h,l,hl=>by erw[labsL] at hl;cases hl
 |d::ds,v,h,l,hl=>by
  erw[labsL,RDs] at h hl
  obtain⟨x,r,_,h1,h2⟩:=h
  rcases c7.mp hl with hl|hl
  .exact zcU d x h1 l hl
  .exact labL_mut ds r h2 l hl
end
theorem z76{kvs:List (Key×V)}{l:Nat}(hl:l∈labsL (kvs.map λp=>z41 p.1)):False:=by
 obtain⟨d,hd,hl⟩:=g7 hl
 obtain⟨p,_,rfl⟩:=m8.mp hd
 obtain⟨kk,_⟩:=p
 cases kk<;>erw[z41,y3] at hl<;>cases hl
theorem z5l{kvs:List (NK×V)}{l:Nat}(hl:l∈labsL (kvs.map λp=>dkD p.1)):False:=by
 obtain⟨d,hd,hl⟩:=g7 hl
 obtain⟨p,_,rfl⟩:=m8.mp hd
 erw[dkD,y3] at hl
 obtain⟨d,hd,hl⟩:=g7 hl
 obtain⟨kk,_,rfl⟩:=m8.mp hd
 rw[z5k] at hl;cases hl
mutual
theorem z77(l:Nat): ∀(t:D) (v:V),RD G ρ H t v->l∈y3 t->(Z8 l t).isSome=true
 | .non,v,h,hl=>by erw[y3] at hl;cases hl
 | .bool b,v,h,hl=>by erw[y3] at hl;cases hl
 | .int b,v,h,hl=>by erw[y3] at hl;cases hl
 | .str b,v,h,hl=>by erw[y3] at hl;cases hl
 | .exc b,v,h,hl=>by erw[y3] at hl;cases hl
 | .fn b,v,h,hl=>by erw[y3] at hl;cases hl
 | .tup ds,v,h,hl=>by
  erw[y3,RD,Z8] at h hl⊢
  obtain⟨a,xs,_,_,r⟩:=h
  exact findL_some l ds xs r hl
 | .fdc ks vs,v,h,hl=>by
  erw[y3,RD,Z8] at h hl⊢
  obtain⟨a,o,kvs,_,_,_,r⟩:=h
  exact findL_some l vs _ r hl
 | .ro ds,v,h,hl=>by
  erw[y3,RD,Z8] at h hl⊢
  obtain⟨a,xs,_,_,r⟩:=h
  exact findL_some l ds xs r hl
 | .lst k ds,v,h,hl=>by
  erw[y3,RD,Z8] at h hl⊢
  obtain⟨_,xs,s,r⟩:=h
  by_cases e:k=l
  .rw[if_pos e];rfl
  .rw[if_neg e]
   rcases c9.mp hl with q|q
   .exact absurd q.symm e
   .exact findL_some l ds xs r q
 | .dct k ks vs,v,h,hl=>by
  erw[y3,RD,Z8] at h hl⊢
  obtain⟨_,⟨kvs,s,s2,r⟩|⟨kvs,s,s2,r⟩⟩:=h
  .by_cases e:k=l
   .rw[if_pos e];rfl
   .rw[if_neg e]
    rcases c9.mp hl with q|q
    .exact absurd q.symm e
    .rcases c7.mp q with q|q
     .rw[s2] at q;exact(z76 q).elim
     .exact findL_some l vs _ r q
  .by_cases e:k=l
   .rw[if_pos e];rfl
   .rw[if_neg e]
    rcases c9.mp hl with q|q
    .exact absurd q.symm e
    .rcases c7.mp q with q|q
     .rw[s2] at q;exact(z5l q).elim
     .exact findL_some l vs _ r q
 | .obj k c ns vs,v,h,hl=>by
  erw[y3,RD,Z8] at h hl⊢
  obtain⟨_,C,dx,fs,_,s,_,r⟩:=h
  by_cases e:k=l
  .rw[if_pos e];rfl
  .rw[if_neg e]
   rcases c9.mp hl with q|q
   .exact absurd q.symm e
   .exact findL_some l vs _ r q
theorem findL_some(l:Nat): ∀(t:List D) (v:List V),RDs G ρ H t v->l∈labsL t->(findL l t).isSome=true
 |[],v,h,hl=>by erw[labsL] at hl;cases hl
 |d::ds,v,h,hl=>by
  erw[labsL,RDs,findL] at h hl⊢
  obtain⟨x,r,_,h1,h2⟩:=h
  cases e:Z8 l d with
  |some y=>rfl
  |none=>
   rcases c7.mp hl with q|q
   .have:=z77 l d x h1 q
    rw[e] at this;cases this
   .exact findL_some l ds r h2 q
end
theorem z3r.stays{n n':Nat}{ts ts':List D}{vs:List V}(P:z3r G ρ n ts vs H ρ' n' ts' H')(r:RDs G ρ H ts vs):J5 H H':=by
 refine⟨λb xs e=>(P.fr b _ e).2 λl hl z=> ?_,λb o u e=>(P.fr b _ e).2 λl hl z=> ?_⟩
 .obtain⟨o,q,q1,_⟩:=labL_mut ts vs r l hl
  rw[<-z,e] at q;cases q;exact q1 _ rfl
 .obtain⟨o,q,_,q1⟩:=labL_mut ts vs r l hl
  rw[<-z,e] at q;cases q;exact q1 _ _ rfl
section
variable(k:KD G.K H){n:Nat}(inj: ∀i j,i<n->j<n->ρ i=ρ j->i=j){ts:List D}{vs:List V}(r:RDs G ρ H ts vs)(lb: ∀l∈labsL ts,l<n)
include k inj r lb
mutual
theorem z36: ∀(t:D) (v:V),RD G ρ H t v->(∀l∈y3 t,l<n)->rp (λl=>findL l ts) t=t
 | .non,v,h,hl=>rfl
 | .bool b,v,h,hl=>rfl
 | .int b,v,h,hl=>rfl
 | .str b,v,h,hl=>rfl
 | .exc b,v,h,hl=>rfl
 | .fn b,v,h,hl=>rfl
 | .tup ds,v,h,hl=>by
  erw[y3,RD,rp] at h hl⊢
  obtain⟨a,xs,_,_,r1⟩:=h
  rw[rpL_find_id ds xs r1 hl]
 | .fdc ks vs,v,h,hl=>by
  erw[y3,RD,rp] at h hl⊢
  obtain⟨a,o,kvs,_,_,_,r1⟩:=h
  rw[rpL_find_id vs _ r1 hl]
 | .ro ds,v,h,hl=>by
  erw[y3,RD,rp] at h hl⊢
  obtain⟨a,xs,_,_,r1⟩:=h
  rw[rpL_find_id ds xs r1 hl]
 | .lst l ds,v,h,hl=>by
  erw[rp]
  cases e:findL l ts with
  |some d=>
   dsimp only
   obtain⟨q1,q2⟩:=findL_rd l ts vs d r e
   have h':=h
   erw[RD] at h'
   obtain⟨rfl,_⟩:=h'
   exact RD.uniq k inj _ _ _ q1 h (λj hj=>lb j (q2 j hj)) hl
  |none=>
   dsimp only
   erw[y3,RD] at h hl
   obtain⟨_,xs,s,r1⟩:=h
   rw[rpL_find_id ds xs r1 λj hj=>hl j (b7 _ hj)]
 | .dct l ks vs',v,h,hl=>by
  erw[rp]
  cases e:findL l ts with
  |some d=>
   dsimp only
   obtain⟨q1,q2⟩:=findL_rd l ts vs d r e
   have h':=h
   erw[RD] at h'
   obtain⟨rfl,_⟩:=h'
   exact RD.uniq k inj _ _ _ q1 h (λj hj=>lb j (q2 j hj)) hl
  |none=>
   dsimp only
   erw[y3,RD] at h hl
   obtain⟨_,⟨kvs,s,s2,r1⟩|⟨kvs,s,s2,r1⟩⟩:=h
   .rw[rpL_find_id vs' _ r1 λj hj=>hl j (b7 _ (b6 _ hj))]
   .rw[rpL_find_id vs' _ r1 λj hj=>hl j (b7 _ (b6 _ hj))]
 | .obj l c ns vs',v,h,hl=>by
  erw[rp]
  cases e:findL l ts with
  |some d=>
   dsimp only
   obtain⟨q1,q2⟩:=findL_rd l ts vs d r e
   have h':=h
   erw[RD] at h'
   obtain⟨rfl,_⟩:=h'
   exact RD.uniq k inj _ _ _ q1 h (λj hj=>lb j (q2 j hj)) hl
  |none=>
   dsimp only
   erw[y3,RD] at h hl
   obtain⟨_,C,dx,fs,_,s,_,r1⟩:=h
   rw[rpL_find_id vs' _ r1 λj hj=>hl j (b7 _ hj)]
theorem rpL_find_id: ∀(t:List D) (v:List V),RDs G ρ H t v->(∀l∈labsL t,l<n)->rpL (λl=>findL l ts) t=t
 |[],v,h,hl=>rfl
 |d::ds,v,h,hl=>by
  erw[labsL,RDs,rpL] at h hl⊢
  obtain⟨x,q,_,h1,h2⟩:=h
  rw[z36 d x h1 λj hj=>hl j (b8 _ hj),rpL_find_id ds q h2 λj hj=>hl j (b6 _ hj)]
end
theorem X2: ∀(t:List (Option D)) (v:List (Option V)),Sl G ρ H t v->(∀l∈Z5 t,l<n)->rpO (λl=>findL l ts) t=t
 |[],v,h,hl=>rfl
 |none::r',v,h,hl=>by
  erw[Z5,Sl,rpO] at h hl⊢
  obtain⟨o,q,_,h⟩:=h
  rw[X2 r' q h hl]
 |some d::ds,v,h,hl=>by
  erw[Z5,Sl,rpO] at h hl⊢
  obtain⟨x,q,_,h1,h2⟩:=h
  rw[z36 k inj r lb d x h1 λj hj=>hl j (b8 _ hj),X2 ds q h2 λj hj=>hl j (b6 _ hj)]
end
variable{F:Fy}{σv tv:List (Option V)}{s:Stt}{np:Nat}
theorem MR.call{ts ts':List D}{vs:List V}{n':Nat}(M:MR G F.toFx ρ H σv tv s)(r:RDs G ρ H ts vs)(lb:LB F.toFx ρ s.n (labsL ts))(P:z3r G ρ s.n ts vs H ρ' n' ts' H')
 (hc: ∀l∈Q8 s,l∈labsL ts->(findL l ts').isSome=true):MR G F.toFx ρ' H' σv tv {σ:=rpO (λl=>findL l ts') s.σ,tm:=rpO (λl=>findL l ts') s.tm,n:=n'}:=by
 have st:=P.stays r
 have step: ∀l∈Q8 s,ρ' l=ρ l/\(match findL l ts' with|some d=>RD G ρ' H' d (.ref (ρ l))|none=> ∀o,H (ρ l)=some o->H' (ρ l)=some o):=λl hl=>by
  have ol:=P.old l (M.lab l hl)
  refine⟨ol, ?_⟩
  cases e:findL l ts' with
  |some d=>
   have q:=(findL_rd l ts' vs d P.rd e).1
   rw[ol] at q;exact q
  |none=>
   intro o e1
   refine(P.fr _ _ e1).2 λj hj z=> ?_
   have:l=j:=M.inj l j (M.lab l hl) (lb j hj).1 z
   subst this
   have:=hc l hl hj
   rw[e] at this;cases this
 have hn: ∀l,l<n'->l<s.n\/H (ρ' l)=none:=λl hl=>by
  by_cases h:l<s.n
  .exact .inl h
  .exact .inr (P.new l (D7.mp h) hl)
 have hlab: ∀(xs:List (Option D)),(∀l∈Z5 xs,l∈Q8 s)->∀l∈Z5 (rpO (λl=>findL l ts') xs),l<n'/\(l<s.n->l∈Q8 s\/l∈labsL ts):=λxs hx l h=>by
  rcases z1Q l xs h with q|⟨k,d,q1,q2,q3⟩
  .exact⟨i4 (M.lab l (hx l q)) P.le,λ_=> .inl (hx l q)⟩
  .obtain⟨b1,b2⟩:=P.lb l ((findL_rd k ts' vs d P.rd q2).2 l q3)
   exact⟨b1,λz=> .inr (b2 z)⟩
 have all: ∀l∈Q8 {σ:=rpO (λl=>findL l ts') s.σ,tm:=rpO (λl=>findL l ts') s.tm,n:=n'},l<n'/\(l<s.n->l∈Q8 s\/l∈labsL ts):=λl h=>by
  rcases c7.mp h with h|h
  .exact hlab s.σ (λl q=>b8 _ q) l h
  .exact hlab s.tm (λl q=>b6 _ q) l h
 refine⟨Sl.rp st M.sl λl hl=>step l (b8 _ hl),Sl.rp st M.tm λl hl=>step l (b6 _ hl),P.inj,P.dom,λl h=>(all l h).1,λl h=> ?_,λa o e=> ?_,P.kd,λl hl z=> ?_,⟨n9 M.bas.1 P.le,λl hl=> ?_⟩⟩
 .rcases hn l (all l h).1 with q|q
  .rw[P.old l q]
   rcases(all l h).2 q with z|z
   .exact M.own l z
   .exact(lb l z).2
  .exact .inr (M.fresh0 q)
 .obtain⟨⟨o1,e1⟩,e2⟩:=M.frm a o e
  obtain⟨e3,e4⟩:=P.fr a o1 e1
  refine⟨e3,λnA=> ?_⟩
  have e5:=e2 nA
  rw[e1] at e5;cases e5
  refine e4 λl hl z=> ?_
  rcases(lb l hl).2 with q|q
  .exact nA (z▸q)
  .rw[<-z,e] at q;cases q
 .rcases hn l hl with q|q
  .rw[P.old l q] at z;exact M.frb l q z
  .obtain⟨⟨o,e⟩,_⟩:=F.zA _ z
   obtain⟨⟨o',e'⟩,_⟩:=M.frm _ o e
   rw[q] at e';cases e'
 .rw[P.old l (i4 hl M.bas.1)];exact M.bas.2 l hl
theorem MR.call0{ts:List D}{vs:List V}{n':Nat}(M:MR G F.toFx ρ H σv tv s)(r:RDs G ρ H ts vs)(lb:LB F.toFx ρ s.n (labsL ts))(P:z3r G ρ s.n ts vs H ρ' n' ts H'):MR G F.toFx ρ' H' σv tv {s with n:=n'}:=by
 have hf: ∀l∈labsL ts,(findL l ts).isSome=true:=λl hl=>findL_some l ts vs r hl
 have M2:=M.call r lb P λl _ hl=>hf l hl
 rw[X2 M.kd M.inj r (λl hl=>(lb l hl).1) s.σ σv M.sl λl hl=>M.lab l (b8 _ hl),X2 M.kd M.inj r (λl hl=>(lb l hl).1) s.tm tv M.tm λl hl=>M.lab l (b6 _ hl)] at M2
 exact M2
open Classical in
def X3(r:RF)(ts:List D):M D:=λs=>match r with
 | .ok t ts' n'=>if ts'=ts then .ok t {s with n:=n'} else
  if ∀l∈Q8 s,l∈labsL ts->(findL l ts').isSome=true then .ok t {σ:=rpO (λl=>findL l ts') s.σ,tm:=rpO (λl=>findL l ts') s.tm,n:=n'} else .no
 |_=> .no
def Z4(f:FM)(ms:List (M D)):M D:=bd (Z7 ms) λts s=>X3 (f ts s.n) ts s
def spM(G:Gx)(np:Nat)(f:FM):Sp:=λvs H Q _=>vs.length=np/\∃ρ n ts,RDs G ρ H ts vs/\(∀i j,i<n->j<n->ρ i=ρ j->i=j)/\(∀l,l<n->∃o,H (ρ l)=some o)/\(∀l∈labsL ts,l<n)/\KD G.K H/\match f ts n with
 | .ok t ts' n'=> ∀ρ' v H',z3r G ρ n ts vs H ρ' n' ts' H'->RD G ρ' H' t v->(∀l∈y3 t,l<n'/\(l<n->l∈labsL ts))->Q v H'
 |_=>False
theorem z0K{ts:List D}{vs:List V}{f:FM}{Q:VK}{E:XK}(hl:vs.length=np)(M:MRL G F.toFx ρ H σv tv s ts vs)(W:wM G F σv tv (X3 (f ts s.n) ts s) Q):spM G np f vs H Q E:=by
 refine⟨hl,ρ,s.n,ts,M.rd,M.m.inj,M.m.dom,λl h=>(M.lb l h).1,M.m.kd, ?_⟩
 cases e:f ts s.n with
 |no=>rw[e] at W;exact W
 |ex d ts' n'=>rw[e] at W;exact W
 |ok t ts' n'=>
  rw[e] at W
  intro ρ' v H' P rd lbt
  have own: ∀l∈y3 t,F.A0 (ρ' l)\/F.H0 (ρ' l)=none:=λl h=>by
   obtain⟨b1,b2⟩:=lbt l h
   by_cases hn:l<s.n
   .rw[P.old l hn];exact(M.lb l (b2 hn)).2
   .exact .inr (M.m.fresh0 (P.new l (D7.mp hn) b1))
  unfold X3 at W
  dsimp only at W
  split at W
  .rename_i et
   subst et
   exact W.out (M.m.call0 M.rd M.lb P) rd λl h=>⟨(lbt l h).1,own l h⟩
  .split at W
   .rename_i hc
    exact W.out (M.m.call M.rd M.lb P hc) rd λl h=>⟨(lbt l h).1,own l h⟩
   .exact False.elim W
theorem z05: ∀(ms:List (M D)) (s:Stt) (ts:List D) (s':Stt),Z7 ms s= .ok ts s'->ts.length=ms.length:=by
 intro ms
 induction ms with
 |nil=>intro s ts s' e;erw[Z7,rt,Res.ok.injEq] at e;rw[<-e.1];rfl
 |cons m ms ih=>
  intro s ts s' e
  erw[Z7,bd,psh] at e
  cases e1:m s with
  |ok t s1=>
   erw[e1] at e
   cases e2:Z7 ms (s1.psh t) with
   |ok ys s2=>
    erw[e2,pop] at e
    cases e3:s2.tm with
    |nil=>erw[e3] at e;cases e
    |cons o r=>
     cases o with
     |none=>erw[e3] at e;cases e
     |some t'=>
      erw[e3,rt,Res.ok.injEq] at e
      rw[<-e.1,i0,i0,ih _ _ _ e2]
   |ex d s2=>erw[e2] at e;cases e
   |no=>erw[e2] at e;cases e
  |ex d s1=>erw[e1] at e;cases e
  |no=>erw[e1] at e;cases e
theorem se_call{X:Cx}{e:Expr}{es:List Expr}{pos p:Pos}{CX:CXT}{k:Nat}{fa:Addr}{fd:FuncData}{ps:List Str}{x:Str}{E:XK}{f:FM}{ms:List (M D)}(hk:X.K=G.K)(Fn:FnOk X.prog X.w X.K X.mg X.base CX k fa fd ps (spM G ps.length f))(hr:U9 k X.A)(hg:Gl X x)(hm:X.mg x=some (.ref fa))(hkp:W.keepIn X.K (.ref fa)=true)(hb:J4 X.K fd ps [])(hx:Q6 CX X E)
 (ha:SA X G F (e::es) (Z7 ms)) (hln:ms.length=ps.length) (hdb:(x==("__debug__" :Str))=false:=by decide) (he:starEach (e::es) X.env=(false,eval e X.env)::starEach es X.env:=by rfl) (hpl:(backTo pos (starEach es X.env)).any (·.1)=false:=by rfl):
 SE X G F (.Call (.Name x p) (e::es) [] pos) (Z4 f ms):=by
 refine PE.imp0 (zcm Fn hr hg hm hkp hb .nil hx ha hdb he hpl) λ σ H Q ⟨tv,hs,ρ,s,M,W⟩=>⟨tv,hs,ρ,s,M, ?_⟩
 unfold Z4 bd at W
 cases e1:Z7 ms s with
 |ex d s1=>rw[e1] at W;exact W
 |no=>rw[e1] at W;exact W
 |ok ts s1=>
  rw[e1] at W
  intro ρ1 vs H1 M1
  rw[e7]
  exact z0K (by rw[<-M1.rd.length,z05 ms s ts s1 e1,hln]) M1 W
def z0t(nl:Nat)(mb:MS):FM:=λts n=>match mb {σ:=ts.map some++e8 (nl -ts.length) none,tm:=ts.map some,n:=n} with
 | .nx s'=>match Z3 s'.tm with|some ts'=> .ok .non ts' s'.n|none=> .no
 | .rt t s'=>match Z3 s'.tm with|some ts'=> .ok t ts' s'.n|none=> .no
 | .ex d s'=>match Z3 s'.tm with|some ts'=> .ex d ts' s'.n|none=> .no
 |_=> .no
def z5m(G:Gx)(ρ:Nat->Addr)(n:Nat)(ts:List D)(vs:List V)(H:Hp)(lb: ∀l∈labsL ts,l<n)(dom: ∀l,l<n->∃o,H (ρ l)=some o):Fy where
 A0:=λa=> ∃l∈labsL ts,a=ρ l
 H0:=H
 Z:=λa=>(∃o,H a=some o)/\∀l,l<n->a≠ρ l
 zA:=λa z=>⟨z.1,λ⟨l,hl,e⟩=>z.2 l (lb l hl) e⟩
 aH:=λa ⟨l,hl,e⟩=>e▸dom l (lb l hl)
 n0:=n
 ρ0:=ρ
 tv0:=vs.map some
 xw:=λ_ _=>False
theorem RDs.sl: ∀{ts:List D} {vs:List V},RDs G ρ H ts vs->Sl G ρ H (ts.map some) (vs.map some)/\Z5 (ts.map some)=labsL ts
 |[],vs,h=>by erw[RDs] at h;subst h;simp[Sl,Z5,labsL]
 |d::ds,vs,h=>by
  erw[RDs] at h
  obtain⟨x,q,rfl,h1,h2⟩:=h
  obtain⟨q1,q2⟩:=RDs.sl h2
  refine⟨?_,by erw[c8,Z5,labsL,q2]⟩
  erw[c8,Sl]
  exact⟨_,_,rfl,h1,q1⟩
theorem X4{ts ts':List D}{vs:List V}{n:Nat}{lb: ∀l∈labsL ts,l<n}{dom: ∀l,l<n->∃o,H (ρ l)=some o}(inj: ∀i j,i<n->j<n->ρ i=ρ j->i=j)(M:MR G (z5m G ρ n ts vs H lb dom).toFx ρ' H' σv (vs.map some) s)(e:Z3 s.tm=some ts'):
 z3r G ρ n ts vs H ρ' s.n ts' H'/\∀l,l<s.n->((z5m G ρ n ts vs H lb dom).A0 (ρ' l)\/H (ρ' l)=none)->l<n->l∈labsL ts:=by
 have own: ∀l,l<s.n->((z5m G ρ n ts vs H lb dom).A0 (ρ' l)\/H (ρ' l)=none)->l<n->l∈labsL ts:=λl hl q hn=>by
  have ol:=M.bas.2 l hn
  have ol:ρ' l=ρ l:=ol
  rcases q with⟨j,hj,q⟩|q
  .rw[ol] at q
   rw[inj l j hn (lb j hj) q];exact hj
  .rw[ol] at q
   obtain⟨o,z⟩:=dom l hn
   rw[z] at q;cases q
 obtain⟨r1,r2⟩:=Sl.all M.tm e
 refine⟨⟨M.bas.2,M.bas.1,M.inj,M.dom,r1,λl hl=> ?_,λa o e1=> ?_,λl h1 h2=> ?_,M.kd⟩,own⟩
 .rw[r2] at hl
  have m:l∈Q8 s:=b6 _ hl
  exact⟨M.lab l m,own l (M.lab l m) (M.own l m)⟩
 .obtain⟨q1,q2⟩:=M.frm a o e1
  exact⟨q1,λz=>q2 λ⟨l,hl,e⟩=>z l hl e⟩
 .cases q:H (ρ' l) with
  |none=>rfl
  |some o=>
   refine absurd ⟨⟨o,q⟩,λj hj e=> ?_⟩ (M.frb l h2)
   have oj:ρ' j=ρ j:=M.bas.2 j hj
   have:=M.inj l j h2 (i4 hj M.bas.1) (e.trans oj.symm)
   lia
theorem fn_M{P:Program}{w:World}{K:W.Frag}{mg:Str->Option Value}{base:Heap}{x qual:Str}{st:Stmt}{fa:Addr}{fd:FuncData}{N ps:List Str}{k:Nat}{mb:MS}(Fn:Fun K x qual st fa fd)(S:Z6 N ps (y2 st))(hG:G.K=K)
 (hb: ∀(cdv:Value) (A:Around) (outer:List Env) (s:Shared) (H:Hp) (E:XK) (F:Fy),U9 k (A.deeper (envOfC qual (y2 st) s.heap.objs.size fa cdv))->SSs (cxOf CX0 P w K mg base N qual (y2 st) fa cdv A outer s H E).nox G F (W3 st) mb):
 FnOk P w K mg base CX0 (k+1) fa fd ps (spM G ps.length (z0t N.length mb)):=by
 refine Fn.ok S (λvs H Q E h=>h.1) λcdv A outer s H vs Q E hr h=> ?_
 obtain⟨hl,ρ,n,ts,r,inj,dom,lb,kd,W⟩:=h
 refine⟨_,hb cdv A outer s H E (z5m G ρ n ts vs H lb dom) hr,vs.map some,E6 _,ρ,{σ:=ts.map some++e8 (N.length -ts.length) none,tm:=ts.map some,n:=n}, ?_, ?_⟩
 .obtain⟨r1,r2⟩:=RDs.sl r
  have hlen:=r.length
  have sub: ∀l∈Q8 {σ:=ts.map some++e8 (N.length -ts.length) none,tm:=ts.map some,n:=n},l∈labsL ts:=λl h=>by
   rcases c7.mp h with h|h
   .have h:l∈Z5 (ts.map some++e8 (N.length -ts.length) none):=h
    rw[Y0] at h
    rcases c7.mp h with h|h
    .rw[<-r2];exact h
    .exact absurd h (z04 _)
   .rw[<-r2];exact h
  refine⟨?_,r1,inj,dom,λl h=>lb l (sub l h),λl h=> .inl ⟨l,sub l h,rfl⟩,λa o e=>⟨⟨o,e⟩,λ_=>e⟩,kd,λl hl z=>z.2 l hl rfl,⟨c6 _,λl _=>rfl⟩⟩
  show Sl G ρ H _ (vs.map some++e8 (N.length -vs.length) none)
  rw[<-hlen]
  exact r1.append (Sl.none_map _)
 .unfold z0t at W
  cases e:mb {σ:=ts.map some++e8 (N.length -ts.length) none,tm:=ts.map some,n:=n} with
  |nx s'=>
   erw[e] at W
   cases ea:Z3 s'.tm with
   |none=>erw[ea] at W
   |some ts'=>
    erw[ea] at W
    intro ρ' σv' H' M
    obtain⟨P,_⟩:=X4 inj M ea
    exact W ρ' .non H' P (by erw[RD]) λl h=>by simp[y3] at h
  |rt t s'=>
   erw[e] at W
   cases ea:Z3 s'.tm with
   |none=>erw[ea] at W
   |some ts'=>
    erw[ea] at W
    intro ρ' σv' v H' M
    obtain⟨P,own⟩:=X4 inj M.m ea
    exact W ρ' v H' P M.rd1 λl h=>⟨(M.lb1 l h).1,own l (M.lb1 l h).1 (M.lb1 l h).2⟩
  |bk s'=>erw[e] at W
  |ct s'=>erw[e] at W
  |ex d s'=>
   erw[e] at W
   cases ea:Z3 s'.tm with
   |none=>erw[ea] at W
   |some ts'=>erw[ea] at W
  |no=>erw[e] at W
end
mutual
def sz:D->Nat
 | .tup ds=>szL ds+1
 | .ro ds=>szL ds+1
 | .fdc _ vs=>szL vs+1
 | .lst _ ds=>szL ds+1
 | .dct _ _ vs=>szL vs+1
 | .obj _ _ _ vs=>szL vs+1
 | .non=>1| .bool _=>1| .int _=>1| .str _=>1| .exc _=>1| .fn _=>1
def szL:List D->Nat
 |[]=>0
 |d::ds=>sz d+szL ds
end
mutual
theorem zak(l:Nat): ∀(t d:D),Z8 l t=some d->sz d<=sz t
 | .non,d,e=>by erw[Z8] at e;cases e
 | .bool b,d,e=>by erw[Z8] at e;cases e
 | .int b,d,e=>by erw[Z8] at e;cases e
 | .str b,d,e=>by erw[Z8] at e;cases e
 | .exc b,d,e=>by erw[Z8] at e;cases e
 | .fn b,d,e=>by erw[Z8] at e;cases e
 | .tup ds,d,e=>by erw[Z8,sz] at e⊢;have:=findL_sz l ds d e;lia
 | .ro ds,d,e=>by erw[Z8,sz] at e⊢;have:=findL_sz l ds d e;lia
 | .fdc ks vs,d,e=>by erw[Z8,sz] at e⊢;have:=findL_sz l vs d e;lia
 | .lst k ds,d,e=>by
  erw[Z8] at e
  by_cases h:k=l
  .rw[if_pos h] at e;cases e;exact c6 _
  .rw[if_neg h] at e;erw[sz];have:=findL_sz l ds d e;lia
 | .dct k ks vs,d,e=>by
  erw[Z8] at e
  by_cases h:k=l
  .rw[if_pos h] at e;cases e;exact c6 _
  .rw[if_neg h] at e;erw[sz];have:=findL_sz l vs d e;lia
 | .obj k c ns vs,d,e=>by
  erw[Z8] at e
  by_cases h:k=l
  .rw[if_pos h] at e;cases e;exact c6 _
  .rw[if_neg h] at e;erw[sz];have:=findL_sz l vs d e;lia
theorem findL_sz(l:Nat): ∀(t:List D) (d:D),findL l t=some d->sz d<=szL t
 |[],d,e=>by erw[findL] at e;cases e
 |t::ts,d,e=>by
  erw[findL] at e
  erw[szL]
  cases e1:Z8 l t with
  |some y=>rw[e1] at e;cases e;have:=zak l t _ e1;lia
  |none=>rw[e1] at e;have:=findL_sz l ts d e;lia
end
section
variable{G:Gx}{F:Fy}{ρ:Nat->Addr}{H:Hp}{σv tv:List (Option V)}{s:Stt}{t:D}{ts ds es:List D}{v:V}{vs xs ys:List V}{l:Nat}{Q:VK}
theorem zcV(M:MR G F.toFx ρ H σv tv s)(h:RD G ρ H (.lst l ds) v)(lb: ∀j∈y3 (.lst l ds),j<s.n):l∉labsL ds:=λhl=>by
 have h0:=h
 erw[RD] at h0
 obtain⟨rfl,xs,q,r⟩:=h0
 have:=findL_some l ds xs r hl
 cases e:findL l ds with
 |none=>rw[e] at this;cases this
 |some d=>
  obtain⟨q1,q2⟩:=findL_rd l ds xs d r e
  have e2:=RD.uniq M.kd M.inj _ _ _ q1 h (λj hj=>lb j (by erw[y3];exact b7 _ (q2 j hj))) lb
  have e3:=findL_sz l ds d e
  rw[e2] at e3
  erw[sz] at e3
  lia
theorem MR.put2{o:HO}{d:D}(M:MR G F.toFx ρ H σv tv s)(ln:l<s.n)(ow:F.A0 (ρ l)\/F.H0 (ρ l)=none)(ts:J5 H (upd H (ρ l) o))(k:KD G.K (upd H (ρ l) o))(hd:RD G ρ (upd H (ρ l) o) d (.ref (ρ l)))(hb:LB F.toFx ρ s.n (y3 d)):
 MR G F.toFx ρ (upd H (ρ l) o) σv tv (s.put l d):=by
 have step: ∀k,k∈Q8 s->ρ k=ρ k/\(match (if k=l then some d else none:Option D) with|some d=>RD G ρ (upd H (ρ l) o) d (.ref (ρ k))|none=> ∀o',H (ρ k)=some o'->upd H (ρ l) o (ρ k)=some o'):=λk hk=>by
  refine⟨rfl, ?_⟩
  by_cases e:k=l
  .rw[if_pos e];subst e;exact hd
  .rw[if_neg e]
   intro o' q
   rw[y4 (λz=>e (M.inj k l (M.lab k hk) ln z))]
   exact q
 have sub: ∀(xs:List (Option D)) (j:Nat),j∈Z5 (rpO (λk=>if k=l then some d else none) xs)->(∀i∈Z5 xs,i∈Q8 s)->j<s.n/\(F.A0 (ρ j)\/F.H0 (ρ j)=none):=λxs j h hx=>by
  rcases z1Q j xs h with q|⟨k,d',q1,q2,q3⟩
  .exact⟨M.lab j (hx j q),M.own j (hx j q)⟩
  .by_cases e:k=l
   .rw[if_pos e] at q2;cases q2;exact hb j q3
   .rw[if_neg e] at q2;cases q2
 have all: ∀j∈Q8 (s.put l d),j<s.n/\(F.A0 (ρ j)\/F.H0 (ρ j)=none):=λj h=>by
  rcases c7.mp h with h|h
  .exact sub s.σ j h λi hi=>b8 _ hi
  .exact sub s.tm j h λi hi=>b6 _ hi
 refine⟨Sl.rp ts M.sl λk hk=>step k (b8 _ hk),Sl.rp ts M.tm λk hk=>step k (b6 _ hk),M.inj,λk hk=> ?_,λj h=>(all j h).1,λj h=>(all j h).2,λa o' e=> ?_,k,M.frb,M.bas⟩
 .by_cases e:ρ k=ρ l
  .rw[e];exact⟨o,Z1⟩
  .rw[y4 e];exact M.dom k hk
 .obtain⟨⟨o1,e1⟩,e2⟩:=M.frm a o' e
  by_cases ea:a=ρ l
  .subst ea
   refine⟨⟨o,Z1⟩,λn=> ?_⟩
   rcases ow with q|q
   .exact absurd q n
   .rw[e] at q;cases q
  .rw[y4 ea]
   exact⟨⟨o1,e1⟩,e2⟩
theorem z6b{o o':HO}{a:Addr}(k:KD G.K H)(e:H a=some o):KD G.K (upd H a o'):=λb ob q=>by
 by_cases h:b=a
 .subst h;rw[k _ _ q] at e;cases e
 .rw[y4 h];exact k _ _ q
theorem z4o{o':HO}{a:Addr}{xs:List V}(e:H a=some (.lst xs)):J5 H (upd H a o'):=
 ⟨λb ys q=>by rw[y4 (z0q q e (by intro z;cases z))];exact q,λb o u q=>by rw[y4 (z0q q e (by intro z;cases z))];exact q⟩
theorem RDs.upd{o:HO}{a:Addr}(st:J5 H (upd H (ρ l) o))(inj: ∀i j,i<s.n->j<s.n->ρ i=ρ j->i=j)(ln:l<s.n)(r:RDs G ρ H ds xs)(lb: ∀j∈labsL ds,j<s.n/\j≠l):RDs G ρ (L2.upd H (ρ l) o) ds xs:=
 RDs.stay st ds xs r λj hj=>⟨rfl,λo' e=>by rw[y4 (λz=>(lb j hj).2 (inj j l (lb j hj).1 ln z))];exact e⟩
theorem MR.putL(M:MR G F.toFx ρ H σv tv s)(hl:H (ρ l)=some (.lst xs))(ln:l<s.n)(ow:F.A0 (ρ l)\/F.H0 (ρ l)=none)(r:RDs G ρ H es ys)(lb:LB F.toFx ρ s.n (labsL es))(ne:l∉labsL es):
 MR G F.toFx ρ (upd H (ρ l) (.lst ys)) σv tv (s.put l (.lst l es)):=by
 refine M.put2 ln ow (z4o hl) (z6b M.kd hl) ?_ λj hj=> ?_
 .erw[RD]
  exact⟨trivial,ys,Z1,RDs.upd (a:=0) (z4o hl) M.inj ln r λj hj=>⟨(lb j hj).1,λz=>ne (z▸hj)⟩⟩
 .erw[y3] at hj
  rcases c9.mp hj with q|q
  .rw[q];exact⟨ln,ow⟩
  .exact lb j q
end
def isL(x:D):M Unit:=λs=>match ze2 x with|some _=> .ok () s|none=> .no
def z5n(mo:M D)(ms:List (M D))(g:D->List D->M D):M D:=bd mo λx=>bd (isL x) λ_=>bd (psh x) λ_=>bd (Z7 ms) λys=>bd pop λx'=>g x' ys
section
variable{X:Cx}{G:Gx}{F:Fy}{e o:Expr}{es:List Expr}{apos cpos:Pos}
def zfw(G:Gx)(F:Fy)(r:V->List V->Hp->VK->Prop)(g:D->List D->M D):Prop:= ∀ρ s t ts v vs H σv tv Q,MRL G F.toFx ρ H σv tv s (t::ts) (v::vs)->wM G F σv tv (g t ts s) Q->r v vs H (λw H'=>KD G.K H'->Q w H')
theorem MRL.hd{ρ:Nat->Addr}{H:Hp}{σv tv:List (Option V)}{s:Stt}{t:D}{ts:List D}{v:V}{vs:List V}(M:MRL G F.toFx ρ H σv tv s (t::ts) (v::vs)):RD G ρ H t v/\RDs G ρ H ts vs/\LB F.toFx ρ s.n (y3 t)/\LB F.toFx ρ s.n (labsL ts):=by
 have h:=M.rd
 erw[RDs] at h
 obtain⟨_,_,e,h1,h2⟩:=h
 cases e
 exact⟨h1,h2,λl h=>M.lb l (by erw[labsL];exact b8 _ h),λl h=>M.lb l (by erw[labsL];exact b6 _ h)⟩
theorem zal{T:String}{mo:M D}{ms:List (M D)}{g:D->List D->M D}{r:V->List V->Hp->VK->Prop}{σ:L2.St}{H:Hp}{Q:VK}(hT:T= "list")(hg:zfw G F r g)(h:tM G F (z5n mo ms g) σ H Q):
 tM G F mo σ H λx H1=>tyV G.K T x H1/\tML G F (Z7 ms) σ H1 λxs H2=>r x xs H2 λw H'=>KD G.K H'->Q w H':=by
 obtain⟨tv,h⟩:=h
 have hs:=h.1
 refine⟨tv,(z1K h).mono λv H1 ⟨ρ1,s1,t,M1,W⟩=> ?_⟩
 erw[bd,isL] at W
 cases e1:ze2 t with
 |none=>erw[e1] at W;exact False.elim W
 |some ds=>
  erw[e1,psh] at W
  obtain⟨a,xs,rfl,sq,_⟩:=M1.rd1.lstq e1
  refine⟨.inl ⟨hT,xs,sq⟩,some (.ref a)::tv,z7w hs,ρ1,s1.psh t,M1.push, ?_⟩
  cases e2:Z7 ms (s1.psh t) with
  |ex d s2=>erw[e2] at W;exact W
  |no=>erw[e2] at W;exact W
  |ok ys s2=>
   erw[e2,pop] at W
   intro ρ2 us H2 M2
   cases e3:s2.tm with
   |nil=>erw[e3] at W;exact False.elim W
   |cons o r=>
    cases o with
    |none=>erw[e3] at W;exact False.elim W
    |some t'=>
     erw[e3] at W
     exact hg _ _ _ _ _ _ _ _ _ _ (M2.down e3) W
theorem zcW{name:Str}{id:String}{r:V->List V->Hp->VK->Prop}{mo:M D}{ms:List (M D)}{g:D->List D->M D}(hk:X.K=G.K)(slot:Slot "list" name id)(hty:typeOf (.builtin id)=pure (.type "method_descriptor"))(hm:MtR X id r)(hg:zfw G F r g)(ho:SE X G F o mo)(ha:SA X G F (e::es) (Z7 ms))
 (hbase:attributeBase o name X.env (eval o X.env)=eval o X.env:=by rfl)
 (hfew:((backTo cpos (starEach (e::es) X.env)).all (λx=> !x.1)&&(backToKw cpos (keywordEach [] X.env)).all (λx=>x.1.isSome)
  &&decide ((e::es).length+([]:List Keyword).length+(if([]:List Keyword).isEmpty then 0 else 1)<30))=true:=by rfl)
 (hline:(apos.endLine==cpos.line)=true:=by rfl) (hs:starEach (e::es) X.env=(false,eval e X.env)::starEach es X.env:=by rfl) (hplain:(backTo cpos (starEach es X.env)).any (·.1)=false:=by rfl):SE X G F (.Call (.Attribute o name apos) (e::es) [] cpos) (z5n mo ms g):=by
 refine PE.imp hk (zhF PySem.F.plainAttrs_list slot hty hm ho ha hbase hfew hline hs hplain) λ σ H Q h=> ?_
 rw[hk]
 exact zal rfl hg h
def zam(o i v:D):MS:=λs=>match o,i with
 | .lst l ds, .int k=>match ixN ds.length k with
  |some j=>if l∉y3 v then .nx (s.put l (.lst l (ds.set j v))) else .no
  |none=> .no
 |_,_=> .no
def z4p(me mo mi:M D)(g:D->D->D->MS):MS:=z0w me λv=>z0w (psh v) λ_=>z0w mo λo=>z0w (psh o) λ_=>z0w mi λi=>z0w pop λo'=>z0w pop λv'=>g o' i v'
theorem zan{mo mi:M D}{g:D->D->D->MS}{tv:List (Option V)}{Dd:z45}{σ:L2.St}{H1:Hp}{ρ1:Nat->Addr}{s1:Stt}{t:D}{v:V}(hs:F.tv0<:+tv)(M1:MRL G F.toFx ρ1 H1 σ tv s1 [t] [v])
 (W:wS G F tv ((z0w (psh t) λ_=>z0w mo λo=>z0w (psh o) λ_=>z0w mi λi=>z0w pop λo'=>z0w pop λv'=>g o' i v') s1) Dd):
 tM G F mo σ H1 λo H2=>tM G F mi σ H2 λi H3=> ∃ρ s t1 t2 t3,MRL G F.toFx ρ H3 σ tv s [t1,t2,t3] [v,o,i]/\wS G F tv (g t2 t3 t1 s) Dd:=by
 refine⟨some v::tv,z7w hs,ρ1,s1.psh t,M1.push, ?_⟩
 erw[z0w,psh] at W
 cases e1:mo (s1.psh t) with
 |ex d s2=>erw[e1] at W;exact W
 |no=>erw[e1] at W;exact W
 |ok o s2=>
  erw[e1] at W
  intro ρ2 u H2 M2
  refine⟨some u::some v::tv,z7w (z7w hs),ρ2,s2.psh o,M2.push, ?_⟩
  cases e2:mi (s2.psh o) with
  |ex d s3=>erw[e2] at W;exact W
  |no=>erw[e2] at W;exact W
  |ok i s3=>
   erw[e2,pop] at W
   intro ρ3 w H3 M3
   cases e3:s3.tm with
   |nil=>erw[e3] at W;exact False.elim W
   |cons o3 r3=>
    cases o3 with
    |none=>erw[e3] at W;exact False.elim W
    |some x3=>
     erw[e3] at W
     cases r3 with
     |nil=>exact False.elim W
     |cons o4 r4=>
      cases o4 with
      |none=>exact False.elim W
      |some x4=>
       have M4:=M3.down e3
       have M5:=M4.down (s':={s3 with tm:=some x4::r4}) rfl
       exact⟨ρ3,_,x4,x3,i,M5,W⟩
theorem z8u{me mo mi:M D}{g:D->D->D->MS}{tv:List (Option V)}{Dd:z45}{σ:L2.St}{H:Hp}(h:tSv G F (z4p me mo mi g) tv Dd σ H):
 tM G F me σ H λv H1=>tM G F mo σ H1 λo H2=>tM G F mi σ H2 λi H3=> ∃ρ s t1 t2 t3,MRL G F.toFx ρ H3 σ tv s [t1,t2,t3] [v,o,i]/\wS G F tv (g t2 t3 t1 s) Dd:=
 ⟨tv,(z0j h).mono λv H1 ⟨ρ1,s1,t,M1,W⟩=>zan h.1 M1 W⟩
theorem zfx{ρ:Nat->Addr}{s:Stt}{t1 t2 t3:D}{v o i:V}{H:Hp}{σv tv:List (Option V)}{Dd:z45}(M:MRL G F.toFx ρ H σv tv s [t1,t2,t3] [v,o,i])(W:wS G F tv (zam t2 t3 t1 s) Dd):z9W o i v H λH'=>Dd.nx σv H':=by
 have h:=M.rd
 erw[RDs] at h
 obtain⟨_,_,e,h1,_,_,e2,h2,_,_,e3,h3,_⟩:=h
 cases e;cases e2;cases e3
 have b1:LB F.toFx ρ s.n (y3 t1):=λl h=>M.lb l (by erw[labsL];exact b8 _ h)
 have b2:LB F.toFx ρ s.n (y3 t2):=λl h=>M.lb l (by erw[labsL];exact b6 _ (b8 _ h))
 cases t2 with
 |lst l ds=>
  cases t3 with
  |int k=>
   erw[zam] at W
   cases ek:ixN ds.length k with
   |none=>erw[ek] at W;exact False.elim W
   |some j=>
    erw[ek] at W
    by_cases hc:l∉y3 t1
    .rw[if_pos hc] at W
     have h2':=h2
     erw[RD] at h2 h3
     obtain⟨rfl,xs,hx,r⟩:=h2
     subst h3
     have ns:=zcV M.m h2' λj hj=>(b2 j hj).1
     have bl:=b2 l (by erw[y3];exact e9 ..)
     have mm: ∀q,q∈labsL (ds.set j t1)->q∈labsL ds\/q∈y3 t1:=λq hq=>by
      obtain⟨d,h1,h2⟩:=g7 hq
      rcases D2 h1 with z|z
      .exact .inl (labsL_mem z q h2)
      .subst z;exact .inr h2
     refine⟨_,xs,k,j,rfl,rfl,hx,by rw[<-r.length];exact ek,W ρ σv _ (M.m.putL hx bl.1 bl.2 (r.set j h1) (λq hq=> ?_) λhq=> ?_)⟩
     .rcases mm q hq with z|z
      .exact b2 q (by erw[y3];exact b7 _ z)
      .exact b1 q z
     .rcases mm l hq with z|z
      .exact ns z
      .exact hc z
    .rw[if_neg hc] at W;exact False.elim W
  |_=>exact False.elim W
 |_=>exact False.elim W
theorem ss_setI{ob ix:Expr}{pos tpos:Pos}{mo mi me:M D}(he:SE X G F e me)(ho:SE X G F ob mo)(hi:SE X G F ix mi)(hg: ∀{to ti:TE},PE X ob to->PE X ix ti->PG X (.Subscript ob ix tpos) (zhs to ti z9W))(hs:swapsWithSole [.Subscript ob ix tpos] e pos.line X.env=pure false:=by rfl)(hw:swappedStores [.Subscript ob ix tpos] e X.env=pure none:=by rfl)
 (h1:(assignEach [.Subscript ob ix tpos] X.env).map (·.2)=[assign (.Subscript ob ix tpos) X.env]:=by rfl):SS X G F (.Assign [.Subscript ob ix tpos] e pos) (z4p me mo mi zam):=by
 refine PS.imp0 (zbg he (hg ho hi) hs hw h1) λDd σ H ⟨tv,h⟩=> ?_
 exact(z8u h).mono λv H1 h1=>h1.mono λo H2 h2=>h2.mono λi H3 ⟨ρ,s,t1,t2,t3,M,W⟩=>zfx M W
end
end Mi
namespace Mi
open PySem L2
section
variable{X:Cx}{G:Gx}{F:Fy}{e a b c:Expr}{pos:Pos}{ma mb mc m:M D}
theorem se_add(hk:X.K=G.K)(ha:SE X G F a ma)(hb:SE X G F b mb):SE X G F (.BinOp a .Add b pos) (Z0 ma mb v1):=
 z70 hk (r:=λx y H Q=>rI0 (λi j=> .int (i+j)) x y H Q\/z8c G.K x y H Q\/zhG x y H Q\/∃i j,x= .str i/\y= .str j/\i.length+j.length<=sizeLine/\Q (.str (i++j)) H) (hk▸OpR.or zex (OpR.or z29 (OpR.or zeR z6K))) zf6 ha hb
theorem se_sub(hk:X.K=G.K)(ha:SE X G F a ma)(hb:SE X G F b mb):SE X G F (.BinOp a .Sub b pos) (Z0 ma mb za8):=z70 hk zey zf7 ha hb
theorem se_mul(hk:X.K=G.K)(ha:SE X G F a ma)(hb:SE X G F b mb):SE X G F (.BinOp a .Mult b pos) (Z0 ma mb z3q):=z70 hk (r:=λx y H Q=>rI z9I (λi j=> .int (i*j)) x y H Q\/(zhH x y H Q\/zcF G.K x y H Q)) (OpR.or zez (OpR.or zeS (hk▸zcG))) zfd ha hb
theorem se_fdiv(hk:X.K=G.K)(ha:SE X G F a ma)(hb:SE X G F b mb):SE X G F (.BinOp a .FloorDiv b pos) (Z0 ma mb z1L):=z70 hk zcb zcL ha hb
theorem se_mod(hk:X.K=G.K)(ha:SE X G F a ma)(hb:SE X G F b mb):SE X G F (.BinOp a .Mod b pos) (Z0 ma mb z2c):=z70 hk zeA zf8 ha hb
theorem se_pow(hk:X.K=G.K)(ha:SE X G F a ma)(hb:SE X G F b mb):SE X G F (.BinOp a .Pow b pos) (Z0 ma mb z8j):=z70 hk zeB zf9 ha hb
theorem se_neg(hk:X.K=G.K)(ha:SE X G F a ma):SE X G F (.UnaryOp .USub a pos) (bd ma zbq):=zhN hk zbh zfc ha
structure Cm(X:Cx)(G:Gx)(F:Fy)(op:CmpOp)(g:D->D->M D):Prop where
 h: ∃r,OpR X (compareOp op) r/\v0 G F r g
theorem z78:Cm X G F .Lt ltD:=⟨_,zhx,zhP⟩
theorem z2T:Cm X G F .LtE leD:=⟨_,zhy,zhQ⟩
theorem zcX:Cm X G F .Gt gtD:=⟨_,zhz,zhR⟩
theorem zcY:Cm X G F .GtE geD:=⟨_,zhA,zhS⟩
theorem z2U(hk:X.K=G.K)(hu:X.A.units+64<cLine):Cm X G F .Eq eqD:=⟨_,hk▸zeZ hu,zhT⟩
theorem z5o(hk:X.K=G.K)(hu:X.A.units+64<cLine):Cm X G F .NotEq neD:=⟨_,hk▸zf0 hu,zhU⟩
theorem zhZ(hk:X.K=G.K)(hu:X.A.units+64<cLine):Cm X G F .In inD:=⟨_,hk▸zf1 hu,zhV⟩
theorem zbu:Cm X G F .Is isN:=⟨_,zeD,zfa⟩
theorem z8v:Cm X G F .IsNot zbp:=⟨_,zce,zcM⟩
theorem se_cmp{op:CmpOp}{g:D->D->M D}(hc:Cm X G F op g)(ha:SE X G F a ma)(hb:SE X G F b mb)(hm:behindInMarks op b=false):SE X G F (.Compare a [op] [b] pos) (Z0 ma mb g):=by
 obtain⟨r,h1,h2⟩:=hc.h
 exact zcI h1 h2 ha hb hm
theorem sb_cmp{op:CmpOp}{g:D->D->M D}(hc:Cm X G F op g)(ha:SE X G F a ma)(hb:SE X G F b mb)(hm:behindInMarks op b=false):SB X G F (.Compare a [op] [b] pos) (W8 (Z0 ma mb g)):=by
 obtain⟨r,h1,h2⟩:=hc.h
 exact zcO h1 h2 ha hb hm
theorem se_cmp2{op op':CmpOp}{g g':D->D->M D}(hc:Cm X G F op g)(hc':Cm X G F op' g')(ha:SE X G F a ma)(hb:SE X G F b mb)(hcc:SE X G F c mc)(hm:lastMarks [op,op'] [b,c]=false:=by with_unfolding_all rfl):SE X G F (.Compare a [op,op'] [b,c] pos) (U3 ma mb mc g g'):=by
 obtain⟨r,h1,h2⟩:=hc.h
 obtain⟨r',h1',h2'⟩:=hc'.h
 exact zaa h1 h2 h1' h2' ha hb hcc hm
theorem sb_cmp2{op op':CmpOp}{g g':D->D->M D}(hc:Cm X G F op g)(hc':Cm X G F op' g')(ha:SE X G F a ma)(hb:SE X G F b mb)(hcc:SE X G F c mc)(hm:lastMarks [op,op'] [b,c]=false:=by with_unfolding_all rfl):SB X G F (.Compare a [op,op'] [b,c] pos) (W8 (U3 ma mb mc g g')):=by
 obtain⟨r,h1,h2⟩:=hc.h
 obtain⟨r',h1',h2'⟩:=hc'.h
 exact zab h1 h2 h1' h2' ha hb hcc hm
theorem se_idx(hk:X.K=G.K)(ha:SE X G F a ma)(hb:SE X G F b mb)(hs:z1i b):SE X G F (.Subscript a b pos) (Z0 ma mb ixD):=zhO hk (hk▸IxR.or zcs zeP) zhW ha hb hs
structure Cb(X:Cx)(G:Gx)(F:Fy)(f:Value)(g:List D->M D):Prop where
 h: ∃r,CallR X f r/\J6 G F r g
theorem zfy(hk:X.K=G.K):Cb X G F (.builtin "len") z2S:=⟨_,hk▸z4d,zfj⟩
theorem zfz:Cb X G F (.builtin "abs") ze4:=⟨_,z9N,zfk⟩
theorem zbv(hc:X.calm=true):Cb X G F (.builtin "min") zcQ:=⟨_,z7S hc,zfl⟩
theorem zfA(hc:X.calm=true):Cb X G F (.builtin "max") ze5:=⟨_,z7R hc,zfm⟩
theorem zbw(hk:X.K=G.K)(hd:X.A.handled=none):Cb X G F (.builtin "all") zcR:=⟨_,hk▸z89 hd,zfn⟩
theorem z8w:Cb X G F (.type "int") zbr:=⟨_,z7T,zfo⟩
theorem z3s(hk:X.K=G.K):Cb X G F (.type "tuple") zac:=⟨_,hk▸z8d,zcS⟩
theorem z8x(hk:X.K=G.K):Cb X G F (.type "list") z74:=⟨_,hk▸z4e,zad⟩
theorem se_cb{x:Str}{p:Pos}{es:List Expr}{ms:List (M D)}{g:List D->M D}{id:String}(hk:X.K=G.K)(hc:Cb X G F (.builtin id) g)(hgl:Gl X x)(hm:X.mg x=none)(hv:bootBuiltins x=some (.builtin id))(ha:SA X G F (e::es) (Z7 ms))(hn:x≠ "__name__" :=by decide)(hdb:(x==("__debug__" :Str))=false:=by decide)
 (he:starEach (e::es) X.env=(false,eval e X.env)::starEach es X.env:=by rfl) (hpl:(backTo pos (starEach es X.env)).any (·.1)=false:=by rfl):SE X G F (.Call (.Name x p) (e::es) [] pos) (mCB ms g):=by
 obtain⟨r,h1,h2⟩:=hc.h
 exact za7 hk h1 h2 hgl hm hv ha hn hdb he hpl
theorem se_ct{x:Str}{p:Pos}{es:List Expr}{ms:List (M D)}{g:List D->M D}{T:String}(hk:X.K=G.K)(hc:Cb X G F (.type T) g)(hgl:Gl X x)(hm:X.mg x=none)(hv:bootBuiltins x=some (.type T))(ha:SA X G F (e::es) (Z7 ms))(hn:x≠ "__name__" :=by decide)(hdb:(x==("__debug__" :Str))=false:=by decide)
 (he:starEach (e::es) X.env=(false,eval e X.env)::starEach es X.env:=by rfl) (hpl:(backTo pos (starEach es X.env)).any (·.1)=false:=by rfl):SE X G F (.Call (.Name x p) (e::es) [] pos) (mCB ms g):=by
 obtain⟨r,h1,h2⟩:=hc.h
 exact z8h hk h1 h2 hgl hm hv ha hn hdb he hpl
structure Cl(X:Cx)(G:Gx)(F:Fy)(id:String)(g:D->List D->M D):Prop where
 h: ∃r,MtR X id r/\zfw G F r g
end
end Mi
namespace Mi
open PySem L2 PySem.Spec PyProof.Rows
def tyO(p:Addr)(Ts:List String):HO:= .ext λh=>h.get? p=some {cls:= .type "tuple",data:= .seq (Ts.map Value.type).toArray}
section
variable{X:Cx}{G:Gx}{F:Fy}{e a b c:Expr}{pos:Pos}
def zi0(Ts:List String):TE:=λ σ H Q=> ∀p,H p=none->Q (.ref p) (upd H p (tyO p Ts))
theorem z8y: ∀{Ts:List String} {us:List Value},W0 (Ts.map V.ty) us->us=Ts.map Value.type
 |[],_, .nil=>rfl
 |T::Ts,_, .cons r t=>by
  have e:_=Value.type T:=r
  rw[e,z8y t];rfl
theorem zao{es:List Expr}{k}{Ts:List String}{t:TA}(h:PA X es t)(ht: ∀σ H Q,Q (Ts.map V.ty) H->t σ H Q)(hl:Ts.length<=20):PE X (.Tuple es k pos) (zi0 Ts):=by
 intro pins s σ H Q I hq
 refine wpAny_Tuple_spliced (thn (h pos pins s σ H (λvs H1=>vs=Ts.map V.ty/\H1=H) I (ht _ _ _ ⟨rfl,rfl⟩)) λus s1 ⟨xs,H1,I1,r,e1,e2⟩=>⟨?_, ?_⟩)
 .rw[<-r.length,e1,l0,sizeLine_eq];lia
 .subst e1 e2
  have hu:=z8y r
  subst hu
  have hf:H1 s1.heap.objs.size=none:=I1.hok.fresh (c6 _)
  refine⟨.ref s1.heap.objs.size,upd H1 s1.heap.objs.size (tyO s1.heap.objs.size Ts),I1.laid (t':=s1.toks) (λb u e=>Heap.get?_push_of_some _ e) (c6 _) ?_,rfl,hq _ hf⟩
  exact⟨Heap.get?_push_size _ rfl,⟨_,Heap.get?_push_size _ rfl⟩,λh1 h2 q k=>k _ q⟩
def zi1(K:W.Frag)(Ts:List String):List V->Hp->VK->Prop:=λxs H Q=> ∃x p bs,xs=[x, .ref p]/\Ts≠[]/\H p=some (tyO p Ts)/\Paired (λT b=>(T= "tuple" \/T= "list")/\zbn K H T b x) Ts bs/\Q (.bl (bs.any id)) H
theorem z8z{Ts:List String}:CallR X (.builtin "isinstance") (zi1 X.K Ts):=by
 intro pins s σ H xs us Q I r h
 obtain⟨x,p,bs,rfl,hne,hp,hb,q⟩:=h
 have some1: ∃T b,(T= "tuple" \/T= "list")/\zbn X.K H T b x:=by
  cases hb with
  |nil=>exact absurd rfl hne
  |cons h _=>exact⟨_,_,h⟩
 obtain⟨u,u',rfl,ru,ru'⟩:=z9M r
 cases ru'
 have hobj:s.heap.get? p=some {cls:= .type "tuple",data:= .seq (Ts.map Value.type).toArray}:=(I.hok p _ hp).1
 have fin: ∀(Tx:String),s.TypeIs u Tx->AnswersAll (λs=>s.TypeIs u Tx) u (Ts.map Value.type) bs->wpAny (model X.prog X.w) X.A (call (.builtin "isinstance") [u, .ref p]) (EP X pins σ Q) X.xe s:=λTx ht ha=>
  IsiPair.tupleOfB ha ht hobj rfl λtk=>⟨.bl _,H,I.tok tk,rfl,q⟩
 have all: ∀(Tx:String),(∀T b,(T= "tuple" \/T= "list")/\zbn X.K H T b x->Answers (λs=>s.TypeIs u Tx) u (.type T) b)->AnswersAll (λs=>s.TypeIs u Tx) u (Ts.map Value.type) bs:=λTx hA=>by
  clear hobj hp q fin hne
  induction hb with
  |nil=>exact AnswersAll.nil
  |cons h _ ih=>exact AnswersAll.cons (hA _ _ h) ih
 cases x with
 |non=>
  cases ru
  refine fin "NoneType" (typeIs_none s) (all _ ?_)
  rintro T b ⟨rfl|rfl,hb⟩<;>cases(show b=false from hb)
  .exact Answers.of_false_none (by decide+kernel) F.isi_meta_tuple (by rw[isSubtype_type];kernel_rfl)
  .exact Answers.of_false_none (by decide+kernel) F.isi_meta_list (by rw[isSubtype_type];kernel_rfl)
 |bl k=>
  cases ru
  refine fin "bool" (PySem.typeIs_bool s k) (all _ ?_)
  rintro T b ⟨rfl|rfl,hb⟩<;>cases(show b=false from hb)
  .exact Answers.of_false_bool (by decide+kernel) F.isi_meta_tuple (by rw[isSubtype_type];kernel_rfl)
  .exact Answers.of_false_bool (by decide+kernel) F.isi_meta_list (by rw[isSubtype_type];kernel_rfl)
 |int k=>
  obtain⟨t,rfl⟩:=ru
  refine fin "int" (typeIs_int s k t) (all _ ?_)
  rintro T b ⟨rfl|rfl,hb⟩<;>cases(show b=false from hb)
  .exact Answers.of_false_int (by decide+kernel) F.isi_meta_tuple F.sub_int_tuple
  .exact Answers.of_false_int (by decide+kernel) F.isi_meta_list (by rw[isSubtype_type];kernel_rfl)
 |str k=>
  obtain⟨t,rfl⟩:=ru
  refine fin "str" (typeIs_str s k t) (all _ ?_)
  rintro T b ⟨rfl|rfl,hb⟩<;>cases(show b=false from hb)
  .exact Answers.of_false_str (by decide+kernel) F.isi_meta_tuple (by rw[isSubtype_type];kernel_rfl)
  .exact Answers.of_false_str (by decide+kernel) F.isi_meta_list (by rw[isSubtype_type];kernel_rfl)
 |ref a=>
  cases ru
  by_cases hT: ∃ys,SqT X.K H a ys
  .obtain⟨ys,hT⟩:=hT
   obtain⟨its,rv,ht,_⟩:=I.tuple hT
   refine fin "tuple" ht.typeIs (all _ ?_)
   have nl: ∀ys,¬SqL X.K H a ys:=λys q=>by
    obtain⟨its',rv',⟨o',n',e',c',_,_⟩,_⟩:=I.list q
    obtain⟨o,e,c,_⟩:=ht
    rw[e] at e';cases e'
    rw[c] at c';injection c' with c';exact absurd c' (by decide)
   rintro T b ⟨rfl|rfl,hb⟩
   .rcases hb with⟨_,_,hb⟩|⟨ys,hb,_⟩
    .cases(show b=true from hb)
     exact Answers.of_true F.isi_meta_tuple (by rw[isSubtype_type];kernel_rfl)
    .exact absurd hb (nl ys)
   .rcases hb with⟨_,_,hb⟩|⟨ys,hb,_⟩
    .cases(show b=false from hb)
     exact Answers.of_false_tuple (by decide+kernel) F.isi_meta_list (by rw[isSubtype_type];kernel_rfl)
    .exact absurd hb (nl ys)
  .by_cases hL: ∃ys,SqL X.K H a ys
   .obtain⟨ys,hL⟩:=hL
    obtain⟨its,rv,ht,_⟩:=I.list hL
    refine fin "list" ht.isList.typeIs (all _ ?_)
    rintro T b ⟨rfl|rfl,hb⟩
    .rcases hb with⟨ys,hb,_⟩|⟨ys,_,hb⟩
     .exact absurd ⟨ys,hb⟩ hT
     .cases(show b=false from hb)
      exact Answers.of_false_list (by decide+kernel) F.isi_meta_tuple (by rw[isSubtype_type];kernel_rfl)
    .rcases hb with⟨ys,hb,_⟩|⟨ys,_,hb⟩
     .exact absurd ⟨ys,hb⟩ hT
     .cases(show b=true from hb)
      exact Answers.of_true F.isi_meta_list (by rw[isSubtype_type];kernel_rfl)
   .obtain⟨T,b,_,h⟩:=some1
    rcases h with⟨ys,h,_⟩|⟨ys,h,_⟩
    .exact absurd ⟨ys,h⟩ hT
    .exact absurd ⟨ys,h⟩ hL
 |byt _=>obtain⟨T,b,_,h⟩:=some1;exact h.elim
 |flt _=>obtain⟨T,b,_,h⟩:=some1;exact h.elim
 |ty _=>obtain⟨T,b,_,h⟩:=some1;exact h.elim
def isiAny(Ts:List String)(d:D):Option Bool:=match Ts with
 |[]=>some false
 |T::r=>match isiD T d,isiAny r d with
  |some b,some c=>some (b||c)
  |_,_=>none
def z8A(Ts:List String)(m:M D):M D:=bd m λd=>match isiAny Ts d with|some b=>rt (.bool b)|none=>fl
theorem z4q{ρ:Nat->Addr}{H:Hp}{t:D}{v:V}(h:RD G ρ H t v): ∀{Ts:List String} {b:Bool},isiAny Ts t=some b->(∀T∈Ts,T= "tuple" \/T= "list")->∃bs,Paired (λT b=>(T= "tuple" \/T= "list")/\zbn G.K H T b v) Ts bs/\bs.any id=b
 |[],b,e,_=>by erw[isiAny,Option.some.injEq] at e;subst e;exact⟨[], .nil,rfl⟩
 |T::Ts,b,e,hT=>by
  erw[isiAny] at e
  cases e1:isiD T t with
  |none=>erw[e1] at e;cases e
  |some b1=>
   cases e2:isiAny Ts t with
   |none=>erw[e1,e2] at e;cases e
   |some b2=>
    erw[e1,e2,Option.some.injEq] at e
    subst e
    obtain⟨bs,q1,q2⟩:=z4q h e2 λT h=>hT T (b7 _ h)
    exact⟨b1::bs, .cons ⟨hT T (e9 ..),zbs h e1⟩ q1,by simp[q2]⟩
theorem zap{K:W.Frag}{H H':Hp}{T:String}{b:Bool}{v:V}(sm:G5 H H')(h:zbn K H T b v):zbn K H' T b v:=by
 cases v with
 |ref a=>
  rcases h with⟨xs,q,e⟩|⟨xs,q,e⟩
  .exact .inl ⟨xs,sm.ts.tup q,e⟩
  .exact .inr ⟨xs,sm.lst q,e⟩
 |_=>exact h
theorem se_isiT{p:Pos}{x y:Expr}{Ts:List String}{m:M D}(hk:X.K=G.K)(hT: ∀T∈Ts,T= "tuple" \/T= "list")(hne:Ts≠[])(hgl:Gl X "isinstance")(hm:X.mg "isinstance" =none)(ha:SE X G F x m)(hy:PE X y (zi0 Ts))
 (he:starEach [x,y] X.env=(false,eval x X.env)::starEach [y] X.env:=by rfl) (he2:starEach [y] X.env=(false,eval y X.env)::starEach [] X.env:=by rfl) (hpl:(backTo pos (starEach [y] X.env)).any (·.1)=false:=by rfl):SE X G F (.Call (.Name "isinstance" p) [x,y] [] pos) (z8A Ts m):=by
 refine PE.imp hk (z0F (z8z (Ts:=Ts)) hgl hm PyProof.Rows.Boot.«isinstance» (Z9 ha (Z9 hy V5 he2) he) (by decide) (by decide) he hpl) λ σ H Q ⟨tv,h⟩=>⟨tv,(z1K h).mono λv H1 ⟨ρ1,s1,t,M1,W⟩=> ?_⟩
 cases e:isiAny Ts t with
 |none=>erw[e] at W;exact False.elim W
 |some b=>
  erw[e] at W
  intro p hp
  have sm:=G5.new (tyO p Ts) hp
  rw[hk]
  obtain⟨bs,q1,q2⟩:=z4q M1.rd1 e hT
  refine⟨v,p,bs,rfl,hne,Z1,Paired.mapP q1 λT b q=>⟨q.1,zap sm q.2⟩,λk=> ?_⟩
  rw[q2]
  exact W.flat (M1.m.same sm k) rfl
end
end Mi
namespace Mi
open PySem L2
theorem zcZ{P:Program}{w:World}{K:W.Frag}{mg:Str->Option Value}{base:Heap}{CX:CXT}{k:Nat}{fa:Addr}{fd:FuncData}{ps:List Str}{G:Gx}{np:Nat}:FnOk P w K mg base CX k fa fd ps (spM G np λ_ _=> .no):=
 ⟨λvs H Q E h=>by obtain⟨_,_,_,_,_,_,_,_,_,h⟩:=h;exact h.elim,λA outer s H args us vs Q E _ _ _ _ h=>by obtain⟨_,_,_,_,_,_,_,_,_,h⟩:=h;exact h.elim⟩
section
variable{X:Cx}{G:Gx}{F:Fy}{e o:Expr}{es:List Expr}{apos cpos:Pos}
theorem se_cl{name:Str}{id:String}{mo:M D}{ms:List (M D)}{g:D->List D->M D}(hk:X.K=G.K)(slot:Slot "list" name id)(hty:typeOf (.builtin id)=pure (.type "method_descriptor"))(hm:Cl X G F id g)(ho:SE X G F o mo)(ha:SA X G F (e::es) (Z7 ms))
 (hbase:attributeBase o name X.env (eval o X.env)=eval o X.env:=by rfl)
 (hfew:((backTo cpos (starEach (e::es) X.env)).all (λx=> !x.1)&&(backToKw cpos (keywordEach [] X.env)).all (λx=>x.1.isSome)
  &&decide ((e::es).length+([]:List Keyword).length+(if([]:List Keyword).isEmpty then 0 else 1)<30))=true:=by rfl)
 (hline:(apos.endLine==cpos.line)=true:=by rfl) (hs:starEach (e::es) X.env=(false,eval e X.env)::starEach es X.env:=by rfl) (hplain:(backTo cpos (starEach es X.env)).any (·.1)=false:=by rfl):SE X G F (.Call (.Attribute o name apos) (e::es) [] cpos) (z5n mo ms g):=by
 obtain⟨r,h1,h2⟩:=hm.h
 exact zcW hk slot hty h1 h2 ho ha hbase hfew hline hs hplain
end
inductive SEs(X:Cx)(G:Gx)(F:Fy):List Expr->List (M D)->Prop
 |nil:SEs X G F [] []
 |cons {e:Expr} {m:M D} {es:List Expr} {ms:List (M D)}:SE X G F e m->nst e=true->SEs X G F es ms->SEs X G F (e::es) (m::ms)
theorem sa_of{X:Cx}{G:Gx}{F:Fy}{es:List Expr}{ms:List (M D)}(hk:X.K=G.K)(h:SEs X G F es ms):SA X G F es (Z7 ms):=by
 induction h with
 |nil=>exact zf5 hk
 |cons h1 h2 _ ih=>exact zcJ hk h1 ih h2
section
variable{X:Cx}{G:Gx}{F:Fy}{a b tg:Expr}{pos:Pos}
def zhd:D->M D
 | .lst _ ds=>z9w ds.reverse
 | .ro ds=>z9w ds.reverse
 |_=>fl
theorem RDs.rev{ρ:Nat->Addr}{H:Hp}: ∀{ds:List D} {xs:List V},RDs G ρ H ds xs->RDs G ρ H ds.reverse xs.reverse
 |[],xs,h=>by erw[RDs] at h;subst h;erw[B3,RDs]
 |d::ds,xs,h=>by
  erw[RDs] at h
  obtain⟨x,r,rfl,h1,h2⟩:=h
  rw[m7,m7]
  exact(RDs.rev h2).append (RDs.one h1)
theorem z2g{l:Nat}: ∀{ds:List D},l∈labsL ds.reverse->l∈labsL ds
 |[],h=>h
 |d::ds,h=>by
  rw[m7,j7] at h
  erw[labsL,e7,c7] at h⊢
  rcases h with h|h
  .exact .inr (z2g h)
  .exact .inl h
theorem se_rev{e st:Expr}{p2:Pos}{m:M D}(hk:X.K=G.K)(hst:PO X (some st) (z9U (tUn (rU λi=>V.int (-i)) (tC (.int 1)))))(he:SE X G F e m):SE X G F (.Subscript e (.Slice none none (some st) p2) pos) (bd m zhd):=by
 refine PE.imp hk (zf2 hst he) λ σ H Q ⟨tv,hs,ρ,s,M,W⟩=>⟨tv,hs,ρ,s,M, ?_⟩
 unfold bd at W
 cases e:m s with
 |ex d s1=>rw[e] at W;exact W
 |no=>rw[e] at W;exact W
 |ok t s1=>
  rw[e] at W
  intro ρ1 v H1 M1
  rw[hk]
  cases t with
  |lst n ds=>
   obtain⟨a,xs,rfl,sq,r,sub⟩:=M1.rd1.lstq (ds:=ds) rfl
   exact⟨a,xs,rfl,sq,λp hp kd=>v8 W M1.m r.rev (λl hl=>M1.lb l (by erw[labsL,e7];exact sub l (z2g hl))) hp kd⟩
  |ro ds=>
   obtain⟨a,xs,rfl,sq,r,sub⟩:=M1.rd1.lstq (ds:=ds) rfl
   exact⟨a,xs,rfl,sq,λp hp kd=>v8 W M1.m r.rev (λl hl=>M1.lb l (by erw[labsL,e7];exact sub l (z2g hl))) hp kd⟩
  |_=>exact False.elim W
mutual
theorem z2h: ∀t:D,(er t).hasDict=false
 | .non| .bool _| .int _| .str _| .dct _ _ _| .obj _ _ _ _| .exc _| .fn _| .fdc _ _=>by erw[er,PyData.hasDict]
 | .tup ds=>by erw[er,PyData.hasDict];exact erL_noDict ds
 | .ro ds=>by erw[er,PyData.hasDict];exact erL_noDict ds
 | .lst _ ds=>by erw[er,PyData.hasDict];exact erL_noDict ds
theorem erL_noDict: ∀ts:List D,PyData.hasDictAll (erL ts)=false
 |[]=>by erw[erL,PyData.hasDictAll]
 |t::ts=>by erw[erL,PyData.hasDictAll,z2h t,erL_noDict ts,Bool.or_self]
end
def zi2(ds:List D):Bool:=plainL ds&&(er (.tup ds)).showable&&decide ((er (.tup ds)).depth<=60)&&decide ((er (.tup ds)).shown.length<=sizeLine)
def zjF:List D->M D
 |[.tup ds]=>if zi2 ds=true then rt (.str (er (.tup ds)).shown) else fl
 |_=>fl
theorem zfB:J6 G F (zhY G.K) zjF:=by
 intro ρ s ts vs H σv tv Q M W
 unfold zjF at W
 split at W
 .rename_i ds
  split at W
  .rename_i hc
   erw[zi2,b9,decide_eq_true_eq] at hc
   obtain⟨⟨⟨c1,c2⟩,c3⟩,c4⟩:=hc
   obtain⟨v,rfl,h,_⟩:=M.one
   obtain⟨p,xs,rfl,s1,r1⟩:=id h.tupq
   exact⟨p,er (.tup ds),rfl,RD.dp _ _ h (by erw[plain];exact c1),z2h _,c2,c3,c4,λ_=>W.flat M.m rfl⟩
  .exact wfl W
 .exact wfl W
def eqS:D->D->M D
 | .str i, .str j=>rt (.bool (i==j))
 |_,_=>fl
theorem zfC:v0 G F (λx y H Q=> ∃i j,x= .str i/\y= .str j/\Q (.bl (i==j)) H) eqS:=by
 intro ρ s t t' v u H σv tv Q M W
 unfold eqS at W
 split at W
 .obtain⟨h1,h2⟩:=M.rd2
  erw[RD] at h1 h2
  exact⟨_,_,h1,h2,W.flat M.m rfl⟩
 .exact wfl W
theorem zfD:Cm X G F .Eq eqS:=⟨_,zfq,zfC⟩
end
end Mi
namespace L2
open PySem PySem.Spec PyProof.Rows
section
variable{P:Program}{w:World}{H H':Hp}{h h':Heap}{a:Addr}{o:HO}
theorem J7.here(x:J7 P w H h a o): ∃u,h.get? a=some u:=by
 cases o with
 |lst xs=>obtain⟨_,_,_,_,e⟩:=x;exact⟨_,e⟩
 |tup xs=>obtain⟨_,_,_,ob,e,_⟩:=x;exact⟨_,e⟩
 |dK kvs=>obtain⟨_,_,_,_,o,_,_,e,_⟩:=x;exact⟨_,e⟩
 |dT kvs=>obtain⟨_,_,_,_,o,_,_,e,_⟩:=x;exact⟨_,e⟩
 |set S n=>obtain⟨o,_,_,_,e,_⟩:=x;exact⟨_,e⟩
 |ins C dx fs=>obtain⟨_,_,_,e,_⟩:=x;exact⟨_,e⟩
 |own y=>obtain⟨_,e⟩:=x;exact⟨_,e⟩
 |xd fs=>obtain⟨_,⟨_,_,_,e,_⟩,_⟩:=x;exact⟨_,e⟩
 |rng lo hi=>obtain⟨_,_,_,e⟩:=x;exact⟨_,e⟩
 |frz o u=>exact⟨_,x.1⟩
 |tbl ps=>exact⟨_,x⟩
 |met f y=>exact⟨_,x⟩
 |ext φ=>obtain⟨_,⟨_,e⟩,_⟩:=x;exact⟨_,e⟩
theorem HOk.none_of(x:HOk P w H h)(e:h.get? a=none):H a=none:=by
 cases q:H a with
 |none=>rfl
 |some u=>obtain⟨v,z⟩:=(x a u q).here;rw[e] at z;cases z
end
structure Fly(P:Program)(w:World)(outer:List Env)(H:Hp)(s:Shared)(H':Hp)(C:Value)(e:Addr)(s':Shared):Prop where
 os:s'.os=s.os
 bare:AllBare s'.gens
 un:Un (frs outer) [] H H' s.heap s'.heap
 hok:HOk P w H' s'.heap
 he:H' e=none
 se:s.heap.get? e=none
 tr: ∃oe vs a0 T oT ts,s'.heap.get? e=some oe/\(oe.cls=C/\vs[0]? =some a0)/\oe.data= .fields vs/\vs[1]? =some (.ref T)/\T≠e/\s'.heap.get? T=some oT/\oT.data= .fields ts/\ts[3]? =some .none/\H' T=none/\s.heap.get? T=none
def CX1(P:Program)(w:World):CXT:=λouter H s E e s'=> ∃a C H',e= .ref a/\Fly P w outer H s H' C a s'/\E C none H'
section
variable{X:Cx}{pins:List (Addr×Obj)}{σ:St}{H:Hp}{s:Shared}{h':Heap}
theorem Inv.frmem(I:Inv X pins σ H s): ∀env∈X.stack,∀a,env.frame=some a->a∈frs X.stack:=λenv he a e=>F7.mpr ⟨env,he,e⟩
theorem z6c{ex:List Addr}(I:Inv X pins σ H s)(hx: ∀x∈ex,H x=none)(st:(W.hideAll s.heap (frs X.stack++ex)).StaysIn h'): ∀b u o,H b=some u->s.heap.get? b=some o->h'.get? b=some o:=λb u o e q=>
 st b o (W.hideAll_get _ q λhm=>by
  rcases c7.mp hm with z|z
  .rw[I.stkFree b z] at e;cases e
  .rw[hx b z] at e;cases e)
theorem z5p{ex:List Addr}(I:Inv X pins σ H s)(hx: ∀x∈ex,H x=none)(st:(W.hideAll s.heap (frs X.stack++ex)).StaysIn h'):HOk X.prog X.w H h':=λa o e=>
 (I.hok a o e).stay (λb u hb q=>by
  rcases hb with rfl|hb
  .exact z6c I hx st _ _ _ e q
  .exact z6c I hx st _ _ _ hb q) (λ_ q=>q) λ_ _ q=>q
theorem z5q{ex:List Addr}(I:Inv X pins σ H s)(hex:X.ex=[])(hx: ∀x∈ex,H x=none)(hx0: ∀x∈ex,X.s₀.heap.get? x=none)(st:(W.hideAll s.heap (frs X.stack++ex)).StaysIn h')(up:s.heap.UpToSlots h'):Un (frs X.outer) [] X.H₀ H X.s₀.heap h':=by
 have nx: ∀b:Addr,b∉X.ex:=λb z=>by rw[hex] at z;cases z
 have nst: ∀b o,X.s₀.heap.get? b=some o->b∉frs X.outer->b∉frs X.stack++ex:=λb o q hb hm=>by
  rcases c7.mp hm with z|z
  .rcases c9.mp (I.stkSub b z) with z|z
   .subst z;exact absurd (Heap.lt_size q) (D7.mpr I.ok.above)
   .exact hb z
  .rw[hx0 b z] at q;cases q
 have sl: ∀b o,X.s₀.heap.get? b=some o->b∈frs X.outer->∃sl,h'.get? b=some {o with slots:=sl}:=λb o q hb=>by
  obtain⟨sl,z⟩:=I.base.slot b o q (I.ok.frf b hb) hb (nx b)
  obtain⟨_,o',ho',hd⟩:=I.ok.funs.mem hb
  rw[q] at ho';cases ho'
  obtain⟨sl2,z2⟩:=up b {o with slots:=sl} z hd
  exact⟨sl2,z2⟩
 refine⟨λb o q n hb _=> ?_,λb o q n hb _=>sl b o q hb,λb o q n _=>I.base.free b o q n (nx b),λb o q _=> ?_,I.base.tups,I.base.frzs,I.base.tbls⟩
 .exact st b o (W.hideAll_get _ (I.base.keep b o q n hb (nx b)) (nst b o q hb))
 .by_cases hb:b∈frs X.outer
  .obtain⟨sl,z⟩:=sl b o q hb;exact⟨_,z⟩
  .obtain⟨o',z⟩:=I.base.there b o q (nx b)
   exact⟨o',st b o' (W.hideAll_get _ z (nst b o q hb))⟩
theorem z2i(I:Inv X pins σ H s)(hex:X.ex=[]){b:Addr}(e:s.heap.get? b=none):X.s₀.heap.get? b=none:=by
 cases q:X.s₀.heap.get? b with
 |none=>rfl
 |some o=>obtain⟨o',z⟩:=I.base.there b o q (by rw[hex];simp);rw[e] at z;cases z
theorem z6d{ex:List Addr}{e:Addr}{cls a0:Value}(I:Inv X pins σ H s)(hex:X.ex=[])(hx: ∀x∈ex,H x=none)(hx0: ∀x∈ex,X.s₀.heap.get? x=none)(up:s.heap.UpToSlots h')(tr:h'.TracedW (W.hideAll s.heap (frs X.stack++ex)) e cls a0):
 ∃oe vs a0 T oT ts,h'.get? e=some oe/\(oe.cls=cls/\vs[0]? =some a0)/\oe.data= .fields vs/\vs[1]? =some (.ref T)/\T≠e/\h'.get? T=some oT/\oT.data= .fields ts/\ts[3]? =some .none/\H T=none/\X.s₀.heap.get? T=none:=by
 obtain⟨oe,vs,T,oT,ts,h1,h2,h3,h4,h5,h6,h7,h8,h9⟩:=tr
 have nm: ∀o,s.heap.get? T=some o->T∈ex:=λo q=>by
  by_cases hm:T∈frs X.stack++ex
  .rcases c7.mp hm with z|z
   .obtain⟨_,o',ho',hd⟩:=I.stack.mem z
    obtain⟨sl,z'⟩:=up T o' ho' hd
    rw[h7] at z';cases z'
    exact absurd h8 (hd ts)
   .exact z
  .rw[W.hideAll_get _ q hm] at h5;cases h5
 have hT:H T=none:=by
  cases q:s.heap.get? T with
  |none=>exact I.hok.none_of q
  |some o=>exact hx T (nm o q)
 have hS:X.s₀.heap.get? T=none:=by
  cases q:s.heap.get? T with
  |none=>exact z2i I hex q
  |some o=>exact hx0 T (nm o q)
 exact⟨oe,vs,a0,T,oT,ts,h1,h2,h3,h4,h6,h7,h8,h9,hT,hS⟩
end
section
variable{P:Program}{w:World}{K:W.Frag}{mg:Str->Option Value}{base:Heap}{N:List Str}{qual:Str}{scope:Scope}{f:Addr}{cd:Value}{A:Around}{outer:List Env}{s:Shared}{H:Hp}{E:XK}
theorem z5r:Q6 (CX1 P w) (cxOf (CX1 P w) P w K mg base N qual scope f cd A outer s H E) E:=by
 intro pins σ H1 s1 e s2 I ⟨a,C,H2,e1,F,hE⟩
 subst e1
 have I2:Inv (cxOf (CX1 P w) P w K mg base N qual scope f cd A outer s H E) pins σ H2 s2:=I.call' (ch:=[]) F.os F.un F.hok F.bare (λb z=>absurd z (by simp))
 obtain⟨oe,vs,a0,T,oT,ts,h1,h2,h3,h4,h5,h6,h7,h8,h9,h10⟩:=F.tr
 have hx: ∀x∈[a,T],H2 x=none:=λx hx=>by
  rcases c9.mp hx with rfl|hx
  .exact F.he
  .rcases c9.mp hx with rfl|hx
   .exact h9
   .cases hx
 have hx0: ∀x∈[a,T],s.heap.get? x=none:=λx hx=>by
  rcases c9.mp hx with rfl|hx
  .exact z2i I rfl F.se
  .rcases c9.mp hx with rfl|hx
   .exact z2i I rfl h10
   .cases hx
 refine wpAny_leaves_onW (base:=W.hideAll s2.heap (frs (cxOf (CX1 P w) P w K mg base N qual scope f cd A outer s H E).stack++[a,T])) (L:=s.heap.objs.size) (cls:=C) (a0:=a0) I2.ok.frames rfl ⟨λb o q=>W.of_hideAll _ q,W.hideAll_none _ (by simp),W.funFrames_hide I2.stack λenv he b hb=>b8 _ (I2.frmem env he b hb),oe,vs,T,oT,ts,h1,h2,h3,h4,W.hideAll_none _ (by simp),h5,h6,h7,h8⟩ λh' fl up=> ?_
 obtain⟨k1,k2,k3,k4⟩:=fl
 exact⟨a,C,H2,rfl,⟨F.os.trans I.os,F.bare,z5q I2 rfl hx hx0 k1 up,z5p I2 hx k1,F.he,hx0 a (by simp),z6d I2 rfl hx hx0 up k4⟩,hE⟩
theorem zfE{pins:List (Addr×Obj)}{σ:St}{H1:Hp}{s1:Shared}{h':Heap}{e:Addr}{C:Value}{args:List Value}(I:Inv (cxOf (CX1 P w) P w K mg base N qual scope f cd A outer s H E) pins σ H1 s1)(hx:Heap.MadeExcOf s1.heap h' e C args)(hE:E C none H1):
 (cxOf (CX1 P w) P w K mg base N qual scope f cd A outer s H E).xe (.ref e) {s1 with heap:=h'}:=by
 have nn: ∀x∈([]:List Addr),H1 x=none:=λx z=>absurd z (by simp)
 have nn0: ∀x∈([]:List Addr),s.heap.get? x=none:=λx z=>absurd z (by simp)
 refine wpAny_leaves_madeW (base:=W.hideAll s1.heap (frs (cxOf (CX1 P w) P w K mg base N qual scope f cd A outer s H E).stack++[])) (h:=s1.heap) (L:=s.heap.objs.size) I.ok.frames rfl (λb o q=>W.of_hideAll _ q) (W.funFrames_hide I.stack λenv he b hb=>b8 _ (I.frmem env he b hb)) hx λh2 t fl tp bt up=> ?_
 obtain⟨k1,k2,k3,k4⟩:=fl
 have up2:s1.heap.UpToSlots h2:=(Heap.UpToSlots.of_keeps hx.keeps).trans up
 exact⟨e,C,H1,rfl,⟨I.os,I.bare,z5q I rfl nn nn0 k1 up2,z5p I nn k1,I.hok.none_of hx.new,z2i I rfl hx.new,z6d I rfl nn nn0 up2 k4⟩,hE⟩
end
section
variable{X:Cx}{pins:List (Addr×Obj)}{σ:St}{H:Hp}{s:Shared}{h':Heap}
theorem z8B{ex:List Addr}{t':Nat}(I:Inv X pins σ H s)(hex:X.ex=[])(hx: ∀x∈ex,H x=none)(hx0: ∀x∈ex,X.s₀.heap.get? x=none)(hxp: ∀p∈X.pn++pins,p.1∉ex)(st:(W.hideAll s.heap (frs X.stack++ex)).StaysIn h')(up:s.heap.UpToSlots h'):Inv X pins σ H {s with heap:=h',toks:=t'}:=by
 have cellK: ∀c v,s.heap.IsCell c v->h'.IsCell c v:=λc v ⟨o,ho,hd⟩=>by
  obtain⟨sl,q⟩:=up c o ho (λvs z=>by rw[hd] at z;cases z)
  exact⟨_,q,hd⟩
 have un:=z5q I hex hx hx0 st up
 refine⟨I.ok,I.os,I.bare,by rw[hex];exact un, ?_,λy c e=> ?_,I.free,I.freeC,λp hp=> ?_,z5p I hx st,I.len⟩
 .obtain⟨m,hn,hl⟩:=I.loc
  refine⟨m,up.ns hn,λi x v e1 e2 e3=> ?_⟩
  obtain⟨u,r,l⟩:=hl i x v e1 e2 e3
  refine⟨u,r, ?_⟩
  rcases l with l|⟨k,c,e,z⟩
  .exact .inl l
  .exact .inr ⟨k,c,e,cellK c _ z⟩
 .obtain⟨v,z⟩:=I.cell y c e
  exact⟨v,cellK c v z⟩
 .obtain⟨e,n,ne,nf,d⟩:=I.pin p hp
  refine⟨st p.1 p.2 (W.hideAll_get _ e λhm=> ?_),n,ne,nf,d⟩
  rcases c7.mp hm with z|z
  .rcases c9.mp (I.stkSub p.1 z) with z|z
   .exact ne z
   .exact nf z
  .exact hxp p hp z
theorem Inv.track{a:Addr}{o:HO}(I:Inv X pins σ H s)(hn:H a=none)(h0:X.s₀.heap.get? a=none)(hL:a≠X.env.locals)(hC: ∀x c,X.env.cells.lookup x=some c->c≠a)(hp: ∀p∈X.pn++pins,p.1≠a)(ok:J7 X.prog X.w (upd H a o) s.heap a o):Inv X pins σ (upd H a o) s:=by
 have ne: ∀b u,H b=some u->upd H a o b=some u:=λb u e=>by
  by_cases hb:b=a
  .subst hb;rw[hn] at e;cases e
  .rw[y4 hb];exact e
 refine⟨I.ok,I.os,I.bare,⟨I.base.keep,I.base.slot,λb ob q n hx=> ?_,I.base.there,λb xs e=>ne _ _ (I.base.tups b xs e),λb u xs e=>ne _ _ (I.base.frzs b u xs e),λb ps e=> ?_⟩,I.loc,I.cell, ?_,λx c e=> ?_,λp q=> ?_,λb u e=> ?_,I.len⟩
 .rw[y4 (λz=>by rw[z,h0] at q;cases q)];exact I.base.free b ob q n hx
 .obtain⟨m,z⟩:=I.base.tbls b ps e
  exact⟨m,ne _ _ z⟩
 .rw[y4 (Ne.symm hL)];exact I.free
 .rw[y4 (hC x c e)];exact I.freeC x c e
 .obtain⟨e,n,r⟩:=I.pin p q
  exact⟨e,by rw[y4 (hp p q)];exact n,r⟩
 .by_cases hb:b=a
  .subst hb;rw[Z1] at e;cases e;exact ok
  .rw[y4 hb] at e
   exact(I.hok b u e).stay (λ_ _ _ q=>q) (λc q=>ne _ _ q) λc xs q=>ne _ _ q
def zd0(N:List Str):St:=e8 N.length none
theorem Inv.forget{m':Str->Option Value}{t':Nat}(I:Inv X pins σ H s)(hn:h'.Ns X.env.locals m')(hs:Heap.SameBut X.env.locals s.heap h'):Inv X pins (zd0 X.N) H {s with heap:=h',toks:=t'}:=by
 have neL: ∀b o,X.s₀.heap.get? b=some o->b≠X.env.locals:=λb o e=>l8 (i4 (Heap.lt_size e) I.ok.above)
 refine⟨I.ok,I.os,I.bare,⟨λb o e n hb hx=> ?_,λb o e n hb hx=> ?_,I.base.free,λb o e hx=> ?_,I.base.tups,I.base.frzs,I.base.tbls⟩,⟨m',hn,λi x v _ e=> ?_⟩,λy c e=> ?_,I.free,I.freeC,λp hp=> ?_,λb ob e=> ?_,by simp[zd0]⟩
 .exact(hs.2 b (neL b o e)).trans (I.base.keep b o e n hb hx)
 .obtain⟨sl,e1⟩:=I.base.slot b o e n hb hx
  exact⟨sl,(hs.2 b (neL b o e)).trans e1⟩
 .obtain⟨o',e1⟩:=I.base.there b o e hx
  exact⟨o',(hs.2 b (neL b o e)).trans e1⟩
 .unfold zd0 at e
  rw[List.getElem?_replicate] at e
  split at e<;>cases e
 .obtain⟨w',z⟩:=I.cell y c e
  exact⟨w',z.sameBut hs (I.cne y c e)⟩
 .obtain⟨e,n,ne,nf,d⟩:=I.pin p hp
  exact⟨(hs.2 p.1 ne).trans e,n,ne,nf,d⟩
 .refine(I.hok b ob e).stay (λc w' hc q=>(hs.2 c ?_).trans q) (λ_ q=>q) λ_ _ q=>q
  rintro rfl
  rcases hc with rfl|hc
  .rw[I.free] at e;cases e
  .rw[I.free] at hc;cases hc
end
def bmV:List Value:=[.type "ValueError", .type "Exception", .type "BaseException", .type "object"]
theorem zfF{K:W.Frag}{h:Heap}{C:Addr}{bmB:List Value}{newId:String}(X:K.In h)(q:W.excIn K C bmB newId=true):
 ∃bm N nm qn bs hd sn sub ab col dd k0 k1 k2 k3 k5 mN,h.get? C=some (excClassObj nm qn C N bs bm hd sn sub ab col dd k0 k1 k2 k3 k5 newId)/\h.Ns N mN/\mN "__init__" =none/\OwnTail h bmB bm:=by
 unfold W.excIn at q
 split at q
 .rename_i dd cd sl ho
  split at q
  .rename_i C' bm k0 k1 k2 k3 n k5 hm hs
   erw[b9,beq_iff_eq,D9] at q
   obtain⟨⟨⟨⟨⟨rfl,rfl⟩,hdel⟩,ht⟩,hok⟩,hni⟩:=q
   obtain⟨nm,bs,mro,ns,qn,hd,sn,sub,ab,col,del⟩:=cd
   dsimp only at hm hdel hok hni
   subst hm hdel
   have hsl:sl= #[k0,k1,k2,k3,some (.builtin n),k5]:=by
    obtain⟨l⟩:=sl
    simp only at hs
    rw[hs]
   subst hsl
   exact⟨bm,ns,nm,qn,bs,hd,sn,sub,ab,col,dd,k0,k1,k2,k3,k5,_,X _ _ ho, .of_isNs (W.isNs_of_in X hok),W.nsMap_none_of_in X hok hni,W.tail_of_in X ht⟩
  .cases q
 .cases q
def z2j(X:Cx)(E:St->XK):Prop:= ∀(pins:List (Addr×Obj)) (σ:St) (H:Hp) (s:Shared) (h':Heap) (e:Addr) (C:Value) (args:List Value),Inv X pins σ H s->Heap.MadeExcOf s.heap h' e C args->E σ C none H->X.xe (.ref e) {s with heap:=h'}
def zd1(X:Cx)(E:St->XK):Prop:= ∀(pins:List (Addr×Obj)) (σ:St) (H:Hp) (s:Shared) (e:Value) (s':Shared),Inv X pins σ H s->CX1 X.prog X.w X.stack H s (E σ) e s'->X.xe e s'
section
variable{X:Cx}{C:Addr}{x y:Str}{np cpos pos p:Pos}{j:Nat}{E:St->XK}
def zfG(C:Addr)(E:St->XK):TS:=λ_ σ H=>E σ (.ref C) none H
theorem zaq(hh:X.A.handled=none)(hx:z2j X E)(hg:Gl X x)(hm:X.mg x=some (.ref C))(hq:W.excIn X.K C bmV "ValueError.__new__" =true)(hd:(x==("__debug__" :Str))=false:=by decide):
 PS X (.Raise (some (.Call (.Name x np) [.Constant (.str y) j p] [] cpos)) none pos) (zfG C E):=by
 intro pins s σ H D I h
 obtain⟨bm,N,nm,qn,bs,hdc,sn,sub,ab,col,dd,k0,k1,k2,k3,k5,mN,hC,hN,hni,T⟩:=zfF I.ok.mod.kin hq
 refine wpAny_Raise_call_subU (C:=C) (nm:=nm) (q:=qn) (N:=N) (bs:=bs) (bm:=bm) (hdct:=hdc) (sn:=sn) (sub:=sub) (ab:=ab) (col:=col) (dd:=dd) (k0:=k0) (k1:=k1) (k2:=k2) (k3:=k3) (k5:=k5)
  F.excBase_ValueError (by decide+kernel) F.excBase_ValueError (mN:=mN) (T.hasType (by decide+kernel)) hh rfl hni (z1f I hg hm ⟨rfl, ?_⟩ hd)
 have he:starEach [Expr.Constant (.str y) j p] X.env=(false,eval (.Constant (.str y) j p) X.env)::starEach [] X.env:=by rfl
 rw[he]
 refine Calls.evalArgs_plain ?_
 have ha:PA X [Expr.Constant (.str y) j p] _:=Z9 z00 V5 he
 have hp:=ha cpos pins s σ H (λvs H1=>vs.length<=sizeLine/\H1=H) I ⟨by show 1<=sizeLine;decide,rfl⟩
 rw[he] at hp
 refine wpAny_mono hp (λus s2 ⟨vs,H1,I1,r,hl,e1⟩=> ?_) λ_ _ z=>z
 subst e1
 exact⟨rfl,by rw[<-r.length];exact hl,I1.bk _ _ hC,hN.keeps I1.bk,T.keeps I1.bk,λh' e hm=>hx pins σ H1 s2 h' e (.ref C) us I1 hm h⟩
end
abbrev Xt(X:Cx)(pl:List (Addr×Obj))(E:Value->Shared->Prop):Cx:={X with pn:=pl,xe:=E}
theorem Cx.Ok.xt{X:Cx}(ok:X.Ok)(pl:List (Addr×Obj))(E:Value->Shared->Prop):(Xt X pl E).Ok:=
 ⟨ok.mod,ok.kind,ok.glob,ok.blt,ok.above,ok.inj,ok.has,ok.cab,ok.hd,ok.frames,ok.stk,ok.exf,ok.bs,ok.bsz,ok.noex,ok.exfs,ok.funs,ok.frf⟩
theorem Cx.Ok.unxt{X:Cx}{pl:List (Addr×Obj)}{E:Value->Shared->Prop}(ok:(Xt X pl E).Ok):X.Ok:=
 ⟨ok.mod,ok.kind,ok.glob,ok.blt,ok.above,ok.inj,ok.has,ok.cab,ok.hd,ok.frames,ok.stk,ok.exf,ok.bs,ok.bsz,ok.noex,ok.exfs,ok.funs,ok.frf⟩
theorem Inv.xt{X:Cx}{pins:List (Addr×Obj)}{σ:St}{H:Hp}{s:Shared}{E:Value->Shared->Prop}(I:Inv X pins σ H s):Inv (Xt X (X.pn++pins) E) [] σ H s:=⟨I.ok.xt _ _,I.os,I.bare,I.base,I.loc,I.cell,I.free,I.freeC,λp hp=>I.pin p (by rw[e7] at hp;exact hp),I.hok,I.len⟩
theorem Inv.unxt{X:Cx}{pins pins':List (Addr×Obj)}{σ:St}{H:Hp}{s:Shared}{E:Value->Shared->Prop}(I:Inv (Xt X (X.pn++pins) E) pins' σ H s):Inv X pins σ H s:=⟨I.ok.unxt,I.os,I.bare,I.base,I.loc,I.cell,I.free,I.freeC,λp hp=>I.pin p (b8 _ hp),I.hok,I.len⟩
abbrev Xm(X:Cx)(a:Addr):Cx:={X with A:=X.A.mark (some (.ref a)),calm:=false,xe:=λ_ _=>False}
theorem Cx.Ok.xm{X:Cx}(ok:X.Ok)(a:Addr):(Xm X a).Ok:=
 ⟨ok.mod,ok.kind,ok.glob,ok.blt,ok.above,ok.inj,ok.has,ok.cab,λz=>E5 z,ok.frames,ok.stk,ok.exf,ok.bs,ok.bsz,ok.noex,ok.exfs,ok.funs,ok.frf⟩
section
variable{X:Cx}{pins:List (Addr×Obj)}{σ:St}{H:Hp}{s s':Shared}
theorem Inv.xm(I:Inv X pins σ H s)(a:Addr):Inv (Xm X a) pins σ H s:=⟨I.ok.xm a,I.os,I.bare,I.base,I.loc,I.cell,I.free,I.freeC,I.pin,I.hok,I.len⟩
theorem Inv.unxm{a:Addr}(ok:X.Ok)(I:Inv (Xm X a) pins σ H s):Inv X pins σ H s:=⟨ok,I.os,I.bare,I.base,I.loc,I.cell,I.free,I.freeC,I.pin,I.hok,I.len⟩
def z4r(o:Obj):HO:= .frz o (.ext λ_=>True)
def zfH(K:W.Frag)(CB:Addr)(ie:Nat)(th:TS)(D:z45):St->XK:=λ σ C _ H=>W.exmOne K C (.ref CB)=some true/\∀a o,H a=none->K.lookup a=none->o.cls=C->(∃vs,o.data= .fields vs)->th {nx:=λ_ _=>False,rt:=D.rt} (σ.set ie (some (.ref a))) (upd H a (z4r o))
def zar(X:Cx)(hs:List ExceptHandler)(Q:Flow->Shared->Prop):Value->Shared->Prop:=λe s₁=>
 wpAny (model X.prog X.w) X.A (noteFrame e X.env) (λ_ s₂=>wpAny (model X.prog X.w) X.A (setFlight e none) (λ_ s₃=>wpAny (model X.prog X.w) X.A (handleBy e X.env hs) Q X.xe s₃) X.xe s₂) X.xe s₁
theorem zas{CB:Addr}{x n:Str}{ie:Nat}{np hpos:Pos}{b₀:Stmt}{suite:List Stmt}{th:TS}{D:z45}(hst:X.stack=X.env::X.outer)(hfr:X.env.frame=some X.env.locals)(hex:X.ex=[])(hg:Gl X x)(hm:X.mg x=some (.ref CB))(hN:X.N.Nodup)(hi:X.N[ie]? =some n)(hloc:X.env.scope.names.lookup n=some .local)
 (hb: ∀a,PSs (Xm X a) (b₀::suite) th) (hd:(x==("__debug__" :Str))=false:=by decide) {e:Value} (I:Inv X pins σ H s) (hc:CX1 X.prog X.w X.stack H s (zfH X.K CB ie th D σ) e s'):
 zar X [.ExceptHandler (some (.Name x np)) (some n) (b₀::suite) hpos] (SP X pins D) e s':=by
 obtain⟨a,C,H2,e1,F,hE⟩:=hc
 subst e1
 have I2:Inv X pins σ H2 s':=I.call' (ch:=[]) F.os F.un F.hok F.bare (λb z=>absurd z (by simp))
 obtain⟨oe,vs,a0,T,oT,ts,h1,h2,h3,h4,h5,h6,h7,h8,h9,h10⟩:=F.tr
 have hx: ∀x∈[a,T],H2 x=none:=λx hx=>by
  rcases c9.mp hx with rfl|hx
  .exact F.he
  .rcases c9.mp hx with rfl|hx
   .exact h9
   .cases hx
 have hs0: ∀x∈[a,T],s.heap.get? x=none:=λx hx=>by
  rcases c9.mp hx with rfl|hx
  .exact F.se
  .rcases c9.mp hx with rfl|hx
   .exact h10
   .cases hx
 have hx0: ∀x∈[a,T],X.s₀.heap.get? x=none:=λx hx=>z2i I hex (hs0 x hx)
 have hxp: ∀p∈X.pn++pins,p.1∉[a,T]:=λp hp z=>by
  have:=(I.pin p hp).1
  rw[hs0 _ z] at this;cases this
 have aL:a≠X.env.locals:=λz=>by
  obtain⟨m,⟨o,_,_,ho,_⟩,_⟩:=I.loc
  have:=F.se
  rw[z,ho] at this;cases this
 have aC: ∀x c,X.env.cells.lookup x=some c->c≠a:=λx c e z=>by
  obtain⟨v,o,ho,_⟩:=I.cell x c e
  have:=F.se
  rw[<-z,ho] at this;cases this
 have fl0:Heap.FlyingW (W.hideAll s'.heap (frs X.stack++[a,T])) (X.env::X.outer) a C a0 s'.heap:=⟨λb o q=>W.of_hideAll _ q,W.hideAll_none _ (by simp),by rw[<-hst];exact W.funFrames_hide I2.stack λenv he b hb=>b8 _ (I2.frmem env he b hb),oe,vs,T,oT,ts,h1,h2,h3,h4,W.hideAll_none _ (by simp),h5,h6,h7,h8⟩
 unfold zar
 refine wpAny_looks_onW (by rw[<-hst];exact I2.ok.frames) hfr fl0 λh4' held up4=> ?_
 refine wpAny_landsW held λh5' fl5 up5=> ?_
 have up:=up4.trans up5
 have I5:Inv X pins σ H2 {s' with heap:=h5'}:=z8B (t':=s'.toks) I2 hex hx hx0 hxp fl5.1 up
 obtain⟨ob,hob,hobc⟩:=fl5.there
 refine wpAny_handleBy_cons (codeAny_handlers_test (z1f (X:=Xm X a) (I5.xm a) hg hm ?_ hd)) (by intro q;cases q)
 have LT:W.Looks (model X.prog X.w) h5' (typeOf (.ref a)) C:=hobc▸(W.Looks.ld hob).andThen .now
 refine(W.exm_one I5.kIn LT hE.1).here ?_
 refine codeAny_handlers_suite_as ?_
 refine lands_againW fl5 λh6' fl6 up6=> ?_
 have I6:Inv X pins σ H2 {s' with heap:=h6'}:=z8B (t':=s'.toks) I2 hex hx hx0 hxp fl6.1 (up.trans up6)
 obtain⟨oe6,vs6,hoe6,hoec6,hoed6,_⟩:=fl6.first
 have I7:Inv X pins σ (upd H2 a (z4r oe6)) {s' with heap:=h6'}:=I6.track F.he (hx0 a (by simp)) aL aC (λp hp z=>hxp p hp (by rw[z];simp)) ⟨hoe6,trivial,⟨_,hoe6⟩,λ_ _ _ _=>trivial⟩
 refine z3h (X:=Xm X a) (I7.xm a) hN hi (.inl hloc) (v:= .ref a) rfl (λs8 I8=> ?_) (.inr hloc)
 refine wpAny_mono (hb a pins s8 _ _ _ I8 (hE.2 a oe6 F.he (by cases q:X.K.lookup a with|none=>rfl|some u=>have z:=I.kIn _ _ q;rw[F.se] at z;cases z) hoec6 ⟨_,hoed6⟩)) (λfl s9 hq=> ?_) λ_ _ z=>z.elim
 have hkn:X.env.kindOf n=some .local:=hloc
 cases fl with
 |ret u=>
  obtain⟨v,σ',H',I9,r,q⟩:=hq
  have J:=I9.unxm I.ok
  obtain⟨m,hn,_⟩:=id J.loc
  refine wpAny_nameGoes hkn hn (by rw[I.ok.kind];rfl) λh10 m' hn' hs=> ?_
  exact⟨v,_,H',J.forget (t':=s9.toks+1) hn' hs,r,q⟩
 |next=>obtain⟨_,_,_,q⟩:=hq;exact q.elim
 |brk=>obtain⟨_,_,_,q⟩:=hq;exact q.elim
 |cont=>obtain⟨_,_,_,q⟩:=hq;exact q.elim
end
end L2
namespace L2
open PySem PySem.Spec PySem.Calls PyProof.Rows Builtin Builtin.ObjectAttr Builtin.Getset_descriptor
section
variable{prog:Program}{w:World}{A:Around}{E:Value->Shared->Prop}{h:Heap}{g:Array GenState}{d:Drawn}{t:Nat}{os:OsState}{a C:Addr}{K:W.Frag}
theorem zfI{R:Result->Shared->Prop}{tp:Value}(X:K.In h)(L0:W.Looks (model prog w) h (typeOf (.ref a)) (.ref C))(hm:W.mroIn K C (.type "object")=some true)(hq:R (.ok (.ret (.ref C))) ⟨h,g,d,t,os⟩):
 codeAny (model prog w) A (.call (.builtin "getset_descriptor.__get__") ⟨[.builtin "object.__class__", .ref a,tp],[]⟩) R ⟨h,g,d,t,os⟩:=by
 have L1:=W.looks_mroIn (M:=model prog w) X hm
 refine codeAny_call_builtin W.KF.slot_gs.plain W.KF.entry_gs (W.KF.slot_gs.check _ _ _ _ _ _ _ _ W.KF.type_class (W.KF.args_gs _ _ _) ?_)
 unfold Builtin.«getset_descriptor.__get__» descrGet
 rw[W.dga_obj]
 refine wpAny_bind (wpAny_pure ?_)
 unfold descrGetter descrCheckInstance descrNameAndClass isInstance
 erw[W.KF.owner_class]
 repeat lk
 refine⟨Code.quiet_builtin _ (by decide+kernel),codeAny_builtin W.KF.entry_class ?_⟩
 unfold Builtin.«object.__class__» shownTypeOf
 repeat lk
 exact hq
theorem zat{tk:Tok}{Q:Fin->Shared->Prop}(X:K.In h)(L0:W.Looks (model prog w) h (typeOf (.ref a)) (.ref C))(hm:W.mroIn K C (.type "object")=some true)(f3:W.findIn K (.ref C) "__class__" =some (some (.builtin "object.__class__")))(hq:Q (.done (.ret (.ref C))) ⟨h,g,d,t,os⟩):
 wpAny (model prog w) A (Builtin.«object.__getattribute__» ⟨[.ref a, .str "__class__" tk],[]⟩) Q E ⟨h,g,d,t,os⟩:=by
 have L3:=W.looks_findIn (M:=model prog w) X f3
 have hT5:(⟨h,g,d,t,os⟩:Shared).TypeIs (.builtin "object.__class__") "getset_descriptor" :=F.typeOf_object_class
 have f5:=F.typeOf_object_class
 have f6:=F.slot_gs_get.lookup
 have f7:=F.slot_gs_set.lookup
 repeat (any_goals (first|assumption|with_reducible refine L0.at ?_|with_reducible refine L3.at ?_|wp_step))
 refine zfI X L0 hm ?_
 repeat (any_goals (first|assumption|wp_step))
theorem zau{M:Model}{nameV:Value}{Q:Unit->Shared->Prop}(X:K.In h)(L0:W.Looks M h (typeOf (.ref a)) (.ref C))(hm:W.mroIn K C (.type "BaseException")=some true)(hq:Q () ⟨h,g,d,t,os⟩):
 wpAny M A (checkBuiltinCall "BaseException.__getattribute__" ⟨[.ref a,nameV],[]⟩) Q E ⟨h,g,d,t,os⟩:=by
 have hk:builtinKind "BaseException.__getattribute__" =some .slot:=by decide+kernel
 have hsplit:splitId "BaseException.__getattribute__" =some ("BaseException", "__getattribute__"):=by decide+kernel
 have ha:=F.args_bexc_ga (.ref a) nameV
 have L1:=W.looks_mroIn (M:=M) X hm
 erw[checkBuiltinCall,hk,hsplit]
 refine wpAny_bind ?_
 .unfold isInstance
  repeat (first|with_reducible refine L0.at ?_|with_reducible refine L1.at ?_|wp_step)
  exact hq
theorem zd2{tk:Tok}{R:Result->Shared->Prop}(X:K.In h)(L0:W.Looks (model prog w) h (typeOf (.ref a)) (.ref C))(hm:W.mroIn K C (.type "object")=some true)(hb:W.mroIn K C (.type "BaseException")=some true)(f3:W.findIn K (.ref C) "__class__" =some (some (.builtin "object.__class__")))(hq:R (.ok (.ret (.ref C))) ⟨h,g,d,t,os⟩):
 codeAny (model prog w) A (.call (.builtin "BaseException.__getattribute__") ⟨[.ref a, .str "__class__" tk],[]⟩) R ⟨h,g,d,t,os⟩:=
 codeAny_call_builtin F.excAttr_ValueError.ga.plain F.entry_bexc_ga (zau X L0 hb (zat X L0 hm f3 hq))
theorem zi3{tk:Tok}{fill expr:Bool}{Q:Value->Shared->Prop}(X:K.In h)(L0:W.Looks (model prog w) h (typeOf (.ref a)) (.ref C))(hm:W.mroIn K C (.type "object")=some true)(hb:W.mroIn K C (.type "BaseException")=some true)(f1:W.findIn K (.ref C) "__getattribute__" =some (some (.builtin "BaseException.__getattribute__")))(f2:W.findIn K (.ref C) "__getattr__" =some none)(f3:W.findIn K (.ref C) "__class__" =some (some (.builtin "object.__class__")))(hq:Q (.ref C) ⟨h,g,d,t,os⟩):
 wpAny (model prog w) A (getAttrBy (.ref a) (.str "__class__" tk) fill expr) Q E ⟨h,g,d,t,os⟩:=by
 have L1:=W.looks_findIn (M:=model prog w) X f1
 have L2:=W.looks_findIn (M:=model prog w) X f2
 have f3':=F.excAttr_ValueError.ga.bind (.ref a)
 have hx0:(expr&&onTheHeap (Value.builtin "BaseException.__getattribute__"))=false:=by cases expr<;>rfl
 have hx2:(Value.builtin "BaseException.__getattribute__" ==Value.builtin "object.__getattribute__")=false:=by decide+kernel
 have hx1:(onTheHeap (Value.ref C)&&Value.builtin "BaseException.__getattribute__" ==Value.builtin "object.__getattribute__")=false:=by rw[hx2];rfl
 repeat (any_goals (first|assumption|with_reducible refine L0.at ?_|with_reducible refine L1.at ?_|with_reducible refine L2.at ?_|wp_step))
 refine zd2 X L0 hm hb f3 ?_
 repeat (any_goals (first|assumption|wp_step))
theorem zd3{Q:Option Value->Shared->Prop}(X:K.In h)(L0:W.Looks (model prog w) h (typeOf (.ref a)) (.ref C))(hm:W.mroIn K C (.type "object")=some true)(hb:W.mroIn K C (.type "BaseException")=some true)(f1:W.findIn K (.ref C) "__getattribute__" =some (some (.builtin "BaseException.__getattribute__")))(f2:W.findIn K (.ref C) "__getattr__" =some none)(f3:W.findIn K (.ref C) "__class__" =some (some (.builtin "object.__class__")))(hq:Q (some (.ref C)) ⟨h,g,d,t+1,os⟩):
 wpAny (model prog w) A (getAttr? (.ref a) "__class__") Q E ⟨h,g,d,t,os⟩:=by
 unfold getAttr? getAttrBy?
 repeat (any_goals (first|assumption|with_reducible apply zi3 X L0 hm hb f1 f2 f3|wp_step))
end
structure z2k(K:W.Frag)(C:Addr):Prop where
 ob:W.mroIn K C (.type "object")=some true
 ba:W.mroIn K C (.type "BaseException")=some true
 f1:W.findIn K (.ref C) "__getattribute__" =some (some (.builtin "BaseException.__getattribute__"))
 f2:W.findIn K (.ref C) "__getattr__" =some none
 f3:W.findIn K (.ref C) "__class__" =some (some (.builtin "object.__class__"))
theorem z6e{K:W.Frag}{a C:Addr}(Z:z2k K C):W.KitX K (.ref a) (.ref C) (λh=> ∃o,h.get? a=some o/\o.cls= .ref C) where
 ty:=λM h _ ⟨o,e,c⟩=>c▸(W.Looks.ld e).andThen .now
 it:=λM h X _=>by
  obtain⟨cd,hc,_⟩:=M0.mp Z.ob
  unfold W.clsIn at hc
  split at hc
  .rename_i c' d' cd' sl' ho
   intro A' Q' E' s' k q
   unfold isType loadHead
   exact wpAny_bind (wpAny_loadPart (k _ _ (X _ _ ho)) (wpAny_pure q))
  .cases hc
 ne:=λh tp dd its n sl X htp=>by
  obtain⟨cd,hc,_⟩:=M0.mp Z.ob
  refine t7.mpr λq=> ?_
  have e:C=tp:=Value.ref.inj (beq_iff_eq.mp q)
  subst e
  unfold W.clsIn at hc
  split at hc
  .rename_i c' d' cd' sl' ho
   have z:=(X _ _ ho).symm.trans htp
   cases z
  .cases hc
 ca:=λ{prog w A E Q s} X ⟨o,e,c⟩ k=>by
  obtain⟨hh,g,d,t,os⟩:=s
  exact zd3 X (c▸(W.Looks.ld e).andThen .now) Z.ob Z.ba Z.f1 Z.f2 Z.f3 k
end L2
namespace L2
open PySem PySem.Spec PySem.Calls PyProof.Rows
def cvV:V->Value
 | .ref a=> .ref a| .ty n=> .type n|_=> .none
def ze8:V->Bool
 | .ref _=>true| .ty _=>true|_=>false
theorem z3t: ∀{cs:List V} {us:List Value},(∀c∈cs,ze8 c=true)->W0 cs us->us=cs.map cvV
 |[],_,_, .nil=>rfl
 |c::cs,_,h, .cons r rs=>by
  rw[c8,<-z3t (λx hx=>h x (b7 _ hx)) rs]
  have hc:=h c (e9 ..)
  cases c<;>first|(cases hc;done)|(have r:_=_:=r;rw[r];rfl)
def clO(p:Addr)(us:List Value):HO:= .ext λh=>h.get? p=some {cls:= .type "tuple",data:= .seq us.toArray}
section
variable{X:Cx}{pos:Pos}
def zi4(us:List Value):TE:=λ_ H Q=> ∀p,H p=none->Q (.ref p) (upd H p (clO p us))
theorem z6f{es:List Expr}{k}{cs:List V}{t:TA}(h:PA X es t)(ht: ∀σ H Q,Q cs H->t σ H Q)(hca:cs.all ze8=true)(hl:Nat.ble cs.length 40=true):PE X (.Tuple es k pos) (zi4 (cs.map cvV)):=by
 have hc: ∀c∈cs,ze8 c=true:=A4.mp hca
 have hl:cs.length<=40:=p4 hl
 intro pins s σ H Q I hq
 refine wpAny_Tuple_spliced (thn (h pos pins s σ H (λvs H1=>vs=cs/\H1=H) I (ht _ _ _ ⟨rfl,rfl⟩)) λus s1 ⟨xs,H1,I1,r,e1,e2⟩=>⟨?_, ?_⟩)
 .rw[<-r.length,e1,sizeLine_eq];lia
 .subst e1 e2
  have hu:=z3t hc r
  subst hu
  have hf:H1 s1.heap.objs.size=none:=I1.hok.fresh (c6 _)
  refine⟨.ref s1.heap.objs.size,upd H1 s1.heap.objs.size (clO s1.heap.objs.size (xs.map cvV)),I1.laid (t':=s1.toks) (λb u e=>Heap.get?_push_of_some _ e) (c6 _) ?_,rfl,hq _ hf⟩
  exact⟨Heap.get?_push_size _ rfl,⟨_,Heap.get?_push_size _ rfl⟩,λh1 h2 q k=>k _ q⟩
def zi5(K:W.Frag)(c:V):List V->Hp->VK->Prop:=λxs H Q=> ∃a o C b,xs=[.ref a,c]/\H a=some (z4r o)/\o.cls= .ref C/\z2k K C/\W.kitOne K (.ref C) (cvV c)=some b/\Q (.bl b) H
theorem z8C{c:V}(hc:ze8 c=true):CallR X (.builtin "isinstance") (zi5 X.K c):=by
 intro pins s σ H xs us Q I r ⟨a,o,C,b,e,hx,ho,Z,hk,q⟩
 subst e
 cases r with
 |cons r1 r2=>
  cases r2 with
  |cons r2 r3=>
   cases r3
   have e1:_=Value.ref a:=r1
   subst e1
   have e2:=z3t (cs:=[c]) (λx hx=>by cases hx with|head=>exact hc|tail _ h=>cases h) (.cons r2 .nil)
   cases e2
   have hob:s.heap.get? a=some o:=(I.hok a _ hx).1
   exact W.kia_one (z6e Z) I.kIn ⟨o,hob,ho⟩ hk (by intro z;cases z) λtk=>⟨.bl b,H,I.tok tk,rfl,q⟩
def zi6(K:W.Frag)(us:List Value):List V->Hp->VK->Prop:=λxs H Q=> ∃a o C p b,xs=[.ref a, .ref p]/\H a=some (z4r o)/\o.cls= .ref C/\z2k K C/\H p=some (clO p us)/\W.kitAny K (.ref C) us=some b/\Q (.bl b) H
theorem z8D{us:List Value}:CallR X (.builtin "isinstance") (zi6 X.K us):=by
 intro pins s σ H xs vs Q I r ⟨a,o,C,p,b,e,hx,ho,Z,hp,hk,q⟩
 subst e
 cases r with
 |cons r1 r2=>
  cases r2 with
  |cons r2 r3=>
   cases r3
   have e1:_=Value.ref a:=r1
   subst e1
   have e2:_=Value.ref p:=r2
   subst e2
   have hob:s.heap.get? a=some o:=(I.hok a _ hx).1
   have htp:s.heap.get? p=some {cls:= .type "tuple",data:= .seq us.toArray}:=(I.hok p _ hp).1
   exact W.kia_tup (z6e Z) I.kIn ⟨o,hob,ho⟩ htp hk (by intro z;cases z) λtk=>⟨.bl b,H,I.tok tk,rfl,q⟩
end
end L2
namespace L2
open PySem PySem.Spec PySem.SeqAt PySem.Calls PyProof.Rows
theorem z5s: ∀{bs:List Bool} {us:List Value},W0 (bs.map V.bl) us->us=bs.map Value.bool
 |[],_, .nil=>rfl
 |b::bs,_, .cons r rs=>by
  have r:_=_:=r
  rw[c8,<-z5s rs,r]
theorem zfJ(k:Bool)(bs:List Bool)(A:Around)(s:Shared): ∀y,y∈(bs.map Value.bool).toArray->EqAt A s y (.bool k) (isBoolOf k y):=λy hy=>by
 erw[List.mem_toArray,m8] at hy
 obtain⟨b,_,rfl⟩:=hy
 exact EqAt.bool_bool b k
theorem z4s(k:Bool): ∀bs:List Bool,(bs.map Value.bool).countP (isBoolOf k)=bs.count k
 |[]=>rfl
 |b::bs=>by rw[c8,List.countP_cons,z4s k bs,List.count_cons];rfl
section
variable{X:Cx}
def zbx(K:W.Frag):V->List V->Hp->VK->Prop:=λx vs H Q=> ∃(p:Addr) (bs:List Bool) (k:Bool),x= .ref p/\vs=[.bl k]/\SqL K H p (bs.map V.bl)/\Q (.int (bs.count k:Nat)) H
theorem zav:MtM X "list.count" (zbx X.K):=by
 intro pins s σ H x vs v us Q I rx rv h
 obtain⟨p,bs,k,rfl,rfl,hs,q⟩:=h
 cases rx
 obtain⟨u,rfl,ru⟩:=rv.one
 have ru:_=_:=ru
 subst ru
 obtain⟨its,r,pl,_⟩:=I.list hs
 have e:=z5s r
 subst e
 obtain⟨⟨cls,dd,data,sl⟩,ho,hc,n,hd⟩:=pl.isList
 simp only at hc hd
 subst hc hd
 refine call_meets PySem.F.slot_list_count ⟨_,ho,rfl⟩ PySem.F.entry_list_count (PySem.F.args_list_count_2 _ _) (list_countAt p _ n dd sl (.bool k) (isBoolOf k)) ⟨ho,zfJ k bs _ _, ?_⟩
 exact⟨.int (bs.count k:Nat),H,I.tok _,⟨s.toks,by rw[<-z4s]⟩,q⟩
def zby(K:W.Frag):V->List V->Hp->VK->Prop:=λx vs H Q=> ∃(p:Addr) (bs:List Bool) (k:Bool),x= .ref p/\vs=[.bl k]/\SqL K H p (bs.map V.bl)/\k∈bs/\Q (.int (bs.idxOf k:Nat)) H
theorem zaw:MtM X "list.index" (zby X.K):=by
 intro pins s σ H x vs v us Q I rx rv h
 obtain⟨p,bs,k,rfl,rfl,hs,hk,q⟩:=h
 cases rx
 obtain⟨u,rfl,ru⟩:=rv.one
 have ru:_=_:=ru
 subst ru
 obtain⟨its,r,pl,hz⟩:=I.list hs
 have e:=z5s r
 subst e
 obtain⟨⟨cls,dd,data,sl⟩,ho,hc,n,hd⟩:=pl.isList
 simp only at hc hd
 subst hc hd
 have hj:bs.idxOf k<bs.length:=List.idxOf_lt_length_iff.mpr hk
 have hn:=z32
 have hz':bs.length<=sizeLine:=by simpa using hz
 refine call_meets PySem.F.slot_list_index ⟨_,ho,rfl⟩ PySem.F.entry_list_index (PySem.F.args_list_index_2 _ _)
  (list_indexAt p _ n dd sl (.bool k) (isBoolOf k) (bs.idxOf k) (by simpa using hj) (by lia) ?_ ?_) ⟨ho,zfJ k bs _ _,⟨.int (bs.idxOf k:Nat),H,I.tok _,⟨s.toks,rfl⟩,q⟩⟩
 .simp[isBoolOf]
 .intro j hjs hlt
  have:bs[j]'(by simpa using hjs)≠k:=λh=>by
   have:=List.not_of_lt_findIdx (p:=(· ==k)) (xs:=bs) hlt
   simp[h] at this
  simp[isBoolOf,this]
end
end L2
namespace L2
open PySem PySem.Spec PySem.Calls PyProof.Rows
structure V0(k:Nat)(A:Around):Prop where
 dp:A.depth+3*k+5<recursionLimit
 un:A.units+16*k+200<cLine
 gd:A.guards=some []
theorem V0.mono{j k:Nat}{A:Around}(r:V0 k A)(h:j<=k):V0 j A:=⟨by have:=r.dp;lia,by have:=r.un;lia,r.gd⟩
theorem V0.deeper{k:Nat}{A:Around}(r:V0 (k+1) A)(env:Env):V0 k (A.deeper env):=
 ⟨by have:=r.dp;show A.depth+1+3*k+5<_;lia,by have:=r.un;show A.units+3+16*k+200<_;lia,r.gd⟩
theorem U9.h{k:Nat}{A:Around}(r:U9 k A)(o:Option Value):V0 k (A.mark o):=⟨r.dp,r.un,r.gd⟩
theorem V0.units{k:Nat}{A:Around}(r:V0 k A):A.units+64<cLine:=by have:=r.un;lia
theorem V0.depth{k:Nat}{A:Around}(r:V0 k A):A.depth<recursionLimit:=by have:=r.dp;lia
abbrev cxH(CX:CXT)(P:Program)(w:World)(K:W.Frag)(mg:Str->Option Value)(base:Heap)(N:List Str)(qual:Str)(scope:Scope)(f:Addr)(cd:Value)(A:Around)(outer:List Env)(s:Shared)(H:Hp)(E:XK):Cx:=
 {cxOf CX P w K mg base N qual scope f cd A outer s H E with calm:=false}
structure z1m(P:Program)(w:World)(K:W.Frag)(mg:Str->Option Value)(base:Heap)(CX:CXT)(k:Nat)(f:Addr)(fd:FuncData)(ps:List Str)(sp:Sp):Prop where
 len: ∀vs H Q E,sp vs H Q E->vs.length=ps.length
 run: ∀(A:Around) (outer:List Env) (s:Shared) (H:Hp) (args:Args) (us:List Value) (vs:List V) (Q:VK) (E:XK),V0 k A->z7v P w K mg base A outer s H->BindsTo s fd args (ps.zip us)->W0 vs us->sp vs H Q E->
  codeAny (model P w) A (.call (.ref f) args) (CR CX outer P w H s Q E) s
theorem z1m.mono{P:Program}{w:World}{K:W.Frag}{mg:Str->Option Value}{base:Heap}{CX:CXT}{j k:Nat}{f:Addr}{fd:FuncData}{ps:List Str}{sp:Sp}(F:z1m P w K mg base CX j f fd ps sp)(h:j<=k):
 z1m P w K mg base CX k f fd ps sp:=⟨F.len,λA outer s H args us vs Q E hr=>F.run A outer s H args us vs Q E (hr.mono h)⟩
theorem z7v.nohd{P:Program}{w:World}{K:W.Frag}{mg:Str->Option Value}{base:Heap}{A:Around}{outer:List Env}{s:Shared}{H:Hp}(e:z7v P w K mg base A outer s H):
 z7v P w K mg base {A with handled:=none} outer s H:=⟨e.frames,e.mod,e.bs,e.bsz,e.funs,e.frf,e.hok,e.bare⟩
theorem z79{CX:CXT}{P:Program}{w:World}{K:W.Frag}{mg:Str->Option Value}{base:Heap}{N ps:List Str}{qual:Str}{scope:Scope}{f:Addr}{cd:Value}{A:Around}{outer:List Env}{s s1:Shared}{H:Hp}{E:XK}{us:List Value}{vs:List V}
 (S:Z6 N ps scope) (e0:z7v P w K mg base A outer s H) (hl:vs.length=ps.length) (r:W0 vs us)
 (x:InCallC s s.heap.objs.size (bindL (envOfC qual scope s.heap.objs.size f cd).kindOf (ps.zip us) λ_=>none) (cellsFrom (s.heap.objs.size+1) scope.names []) (bindC (envOfC qual scope s.heap.objs.size f cd).kindOf (ps.zip us) λ_=>none) s1):
 Inv (cxH CX P w K mg base N qual scope f cd A outer s H E) [] (z1h N vs) H s1:=by
 have I:=z4b (A:={A with handled:=none}) (CX:=CX) (E:=E) S rfl e0.nohd hl r x
 have ok:=I.ok
 exact⟨⟨ok.mod,ok.kind,ok.glob,ok.blt,ok.above,ok.inj,ok.has,ok.cab,λz=>E5 z,Around.frames_deeper e0.frames,ok.stk,ok.exf,ok.bs,ok.bsz,ok.noex,ok.exfs,ok.funs,ok.frf⟩,I.os,I.bare,I.base,I.loc,I.cell,I.free,I.freeC,I.pin,I.hok,I.len⟩
theorem zfK{CX:CXT}{P:Program}{w:World}{K:W.Frag}{mg:Str->Option Value}{base:Heap}{k:Nat}{f:Addr}{name qual:Str}{params:Arguments}{body:List Stmt}{scope:Scope}{dV kV doc pm cdv ct oc:Value}{an od:Option Addr}
 {osl:Array (Option Value)} {N ps:List Str} {sp:Sp} (lk:K.lookup f=some ⟨oc,od, .func (W.fnOf name qual params body scope dV kV doc pm an cdv ct),osl⟩) (hcd:W.codeIn K cdv qual=true) (S:Z6 N ps scope)
 (len: ∀vs H Q E,sp vs H Q E->vs.length=ps.length)
 (hbody: ∀(A:Around) (outer:List Env) (s:Shared) (H:Hp) (vs:List V) (Q:VK) (E:XK),V0 k (A.deeper (envOfC qual scope s.heap.objs.size f cdv))->sp vs H Q E->
  ∃t,PSs (cxH CX P w K mg base N qual scope f cdv A outer s H E) body t/\t {nx:=λ_ H'=>Q .non H',rt:=Q} (z1h N vs) H):
 z1m P w K mg base CX (k+1) f (W.fnOf name qual params body scope dV kV doc pm an cdv ct) ps sp:=by
 refine⟨len,λA outer s H args us vs Q E hr e0 hb r hsp=> ?_⟩
 have hl:=len _ _ _ _ hsp
 have KX:K.In s.heap:=e0.mod.kin.keeps λb o e=>(e0.bs b o e).1
 have lim:s.heap.NoLimit:=e0.mod.nolimit.keeps λb o e=>(e0.bs b o e).1
 have hkind: ∀y∈ps.zip us,scope.names.lookup y.1=some .local\/(scope.names.lookup y.1=some .cell/\((cellsFrom (s.heap.objs.size+1) scope.names []).lookup y.1).isSome=true):=λ⟨n,v⟩ hy=>by
  rcases S.par n (F2 hy).1 with q|q
  .exact .inl q
  .exact .inr ⟨q,W.cellsFrom_some _ _ _ (.inl q)⟩
 refine codeAny_call_function hr.depth (KX _ _ lk) rfl S.co S.gen rfl (W.codeRec_of KX hcd) (hb _ _ _ _ ?_)
 refine wpAny_newFunctionEnv_cells S.kind hkind λenv he s1 x=> ?_
 subst he
 refine⟨lim.keeps x.toInCall.keep,codeAny_func ?_⟩
 obtain⟨t,ht,hq⟩:=hbody A outer s H vs Q E (hr.deeper _) hsp
 have I:Inv (cxH CX P w K mg base N qual scope f cdv A outer s H E) [] (z1h N vs) H s1:=z79 S e0 hl r x
 refine wpAny_mono (ht [] s1 (z1h N vs) H _ I hq) (λfl s' hs=> ?_) λe s' hs=>hs
 have fin: ∀{σ':St} {H':Hp} {v:V} {u:Value},Inv (cxH CX P w K mg base N qual scope f cdv A outer s H E) [] σ' H' s'->RelV v u->Q v H'->CE outer P w H s Q u s':=
  λ{σ' H' v u} J rv q=>⟨v,H',J.os,J.bare,J.base,J.hok,rv,q⟩
 cases fl with
 |ret u=>
  obtain⟨v,σ',H',J,rv,q⟩:=hs
  exact fin J rv q
 |next=>
  obtain⟨σ',H',J,q⟩:=hs
  exact fin (v:=V.non) (u:=Value.none) J rfl q
 |brk=>
  obtain⟨_,_,_,q⟩:=hs
  exact False.elim q
 |cont=>
  obtain⟨_,_,_,q⟩:=hs
  exact False.elim q
section
variable{P:Program}{w:World}{K:W.Frag}{mg:Str->Option Value}{base:Heap}
theorem Fun.okH{x qual:Str}{st:Stmt}{f:Addr}{fd:FuncData}{N ps:List Str}{k:Nat}{sp:Sp}(F:Fun K x qual st f fd)(S:Z6 N ps (y2 st))(len: ∀vs H Q E,sp vs H Q E->vs.length=ps.length)
 (hbody: ∀(cdv:Value) (A:Around) (outer:List Env) (s:Shared) (H:Hp) (vs:List V) (Q:VK) (E:XK),V0 k (A.deeper (envOfC qual (y2 st) s.heap.objs.size f cdv))->sp vs H Q E->
  ∃t,PSs (cxH CX0 P w K mg base N qual (y2 st) f cdv A outer s H E).nox (W3 st) t/\t {nx:=λ_ H'=>Q .non H',rt:=Q} (z1h N vs) H):z1m P w K mg base CX0 (k+1) f fd ps sp:=by
 obtain⟨oc,od,kV,doc,pm,an,cdv,ct,osl,rfl,lk,hcd⟩:=F.ex
 refine zfK lk hcd S len λA outer s H vs Q E hr hsp=> ?_
 obtain⟨t,h,q⟩:=hbody cdv A outer s H vs Q E hr hsp
 exact⟨t,h.nox,q⟩
end
section
variable{X:Cx}{CX:CXT}{k:Nat}{f C:Addr}{fd:FuncData}{ps:List Str}{sp:Sp}{dvs:List V}{ds:List Value}{E:XK}{x m:Str}{p pos apos:Pos}{e o:Expr}{es:List Expr}{ta:TE}{t:TA}
theorem zd4{pins:List (Addr×Obj)}{σ:St}{H:Hp}{s:Shared}{Q:VK}{us:List Value}{vs:List V}(F:z1m X.prog X.w X.K X.mg X.base CX k f fd ps sp)(hr:V0 k X.A)(hb:J4 X.K fd ps ds)(hd:W0 dvs ds)(hx:Q6 CX X E)
 (I:Inv X pins σ H s) (r:W0 vs us) (h:sp (vs++dvs) H Q E):wpAny (model X.prog X.w) X.A (call (.ref f) us) (EP X pins σ Q) X.xe s:=by
 have r2:W0 (vs++dvs) (us++ds):=r.append hd
 have hl:(us++ds).length=ps.length:=by rw[<-r2.length];exact F.len _ _ _ _ h
 refine wpAny_call (codeAny_mono (F.run X.A X.stack s H ⟨us,[]⟩ (us++ds) (vs++dvs) Q E hr I.env0 (hb s us I.kIn hl) r2 h) λr s' hq=> ?_)
 cases r with
 |error e=>exact hx pins σ H s e s' I hq
 |ok fl=>
  cases fl with
  |ret u=>exact I.after hq
  |next=>exact False.elim hq
  |brk=>exact False.elim hq
  |cont=>exact False.elim hq
theorem zax(F:z1m X.prog X.w X.K X.mg X.base CX k f fd ps sp)(hr:V0 k X.A)(hg:Gl X x)(hm:X.mg x=some (.ref f))(hk:W.keepIn X.K (.ref f)=true)(hb:J4 X.K fd ps ds)(hd:W0 dvs ds)(hx:Q6 CX X E)
 (ha:PA X (e::es) t) (hdb:(x==("__debug__" :Str))=false:=by decide) (he:starEach (e::es) X.env=(false,eval e X.env)::starEach es X.env:=by rfl) (hpl:(backTo pos (starEach es X.env)).any (·.1)=false:=by rfl):
 PE X (.Call (.Name x p) (e::es) [] pos) (zeK sp dvs E t):=by
 intro pins s σ H Q I h
 refine wpAny_Call_Name_kw (z1f I hg hm ?_ hdb)
 refine W.callWith_K (h₀:=X.base) I.ok.mod.kin hk (thn (ha pos pins s σ H _ I h) λus s1 ⟨vs,H1,I1,r,q⟩=>⟨I1.kIn, ?_⟩) he hpl
 exact zd4 F hr hb hd hx I1 r q
end
end L2
namespace L2
open PySem PySem.Spec PyProof.Rows
end L2
namespace Mi
open PySem L2 PySem.Spec
open PyProof.Rows (envOfC)
structure XP(X:Cx)(G:Gx)(F:Fy)(E:L2.St->XK):Prop where
 ps:zd1 X E
 xw: ∀c s',F.xw (.exc c) s'->∀ρ σv tv H C,F.tv0<:+tv->MR G F.toFx ρ H σv tv s'->G.cl c=some C->E σv (.ref C) none H
 no: ∀d s',F.xw d s'->∃c,d= .exc c
def z2l(c:Str):MS:=λs=> .ex (.exc c) s
section
variable{X:Cx}{G:Gx}{F:Fy}{E:L2.St->XK}{C:Addr}{x y:Str}{np cpos pos p:Pos}{j:Nat}
theorem ss_raise(hh:X.A.handled=none)(hx:XP X G F E)(hr:z2j X E)(hcl:G.cl x=some C)(hg:Gl X x)(hm:X.mg x=some (.ref C))(hq:W.excIn X.K C bmV "ValueError.__new__" =true)(hd:(x==("__debug__" :Str))=false:=by decide):
 SS X G F (.Raise (some (.Call (.Name x np) [.Constant (.str y) j p] [] cpos)) none pos) (z2l x):=
 PS.imp0 (zaq hh hr hg hm hq hd) λD σ H ⟨tv,hs,ρ,s,M,W⟩=>hx.xw x s W ρ σ tv H C hs M hcl
end
open Classical in
def z0L(r:RF)(ts:List D):M D:=λs=>match r with
 | .ok t ts' n'=>if ts'=ts then .ok t {s with n:=n'} else
  if ∀l∈Q8 s,l∈labsL ts->(findL l ts').isSome=true then .ok t {σ:=rpO (λl=>findL l ts') s.σ,tm:=rpO (λl=>findL l ts') s.tm,n:=n'} else .no
 | .ex d ts' n'=>if ts'=ts then .ex d {s with n:=n'} else
  if ∀l∈Q8 s,l∈labsL ts->(findL l ts').isSome=true then .ex d {σ:=rpO (λl=>findL l ts') s.σ,tm:=rpO (λl=>findL l ts') s.tm,n:=n'} else .no
 | .no=> .no
def spX(G:Gx)(np:Nat)(f:FM):Sp:=λvs H Q E=>vs.length=np/\∃ρ n ts,RDs G ρ H ts vs/\(∀i j,i<n->j<n->ρ i=ρ j->i=j)/\(∀l,l<n->∃o,H (ρ l)=some o)/\(∀l∈labsL ts,l<n)/\KD G.K H/\match f ts n with
 | .ok t ts' n'=> ∀ρ' v H',z3r G ρ n ts vs H ρ' n' ts' H'->RD G ρ' H' t v->(∀l∈y3 t,l<n'/\(l<n->l∈labsL ts))->Q v H'
 | .ex d ts' n'=> ∃c,d= .exc c/\∀ρ' H' C,z3r G ρ n ts vs H ρ' n' ts' H'->G.cl c=some C->E (.ref C) none H'
 | .no=>False
section
variable{X:Cx}{G:Gx}{F:Fy}{E:L2.St->XK}{ρ:Nat->Addr}{H:Hp}{σv tv:List (Option V)}{s:Stt}{np:Nat}
theorem z7a{ts:List D}{vs:List V}{f:FM}{Q:VK}(hx:XP X G F E)(hs:F.tv0<:+tv)(hl:vs.length=np)(M:MRL G F.toFx ρ H σv tv s ts vs)(W:wM G F σv tv (z0L (f ts s.n) ts s) Q):spX G np f vs H Q (E σv):=by
 refine⟨hl,ρ,s.n,ts,M.rd,M.m.inj,M.m.dom,λl h=>(M.lb l h).1,M.m.kd, ?_⟩
 cases e:f ts s.n with
 |no=>rw[e] at W;exact W
 |ex d ts' n'=>
  rw[e] at W
  unfold z0L at W
  dsimp only at W
  split at W
  .rename_i et
   subst et
   obtain⟨c,rfl⟩:=hx.no _ _ W
   exact⟨c,rfl,λ ρ' H' C P hc=>hx.xw c _ W ρ' σv tv H' C hs (M.m.call0 M.rd M.lb P) hc⟩
  .split at W
   .rename_i hc
    obtain⟨c,rfl⟩:=hx.no _ _ W
    exact⟨c,rfl,λ ρ' H' C P hcl=>hx.xw c _ W ρ' σv tv H' C hs (M.m.call M.rd M.lb P hc) hcl⟩
   .exact False.elim W
 |ok t ts' n'=>
  rw[e] at W
  intro ρ' v H' P rd lbt
  have own: ∀l∈y3 t,F.A0 (ρ' l)\/F.H0 (ρ' l)=none:=λl h=>by
   obtain⟨b1,b2⟩:=lbt l h
   by_cases hn:l<s.n
   .rw[P.old l hn];exact(M.lb l (b2 hn)).2
   .exact .inr (M.m.fresh0 (P.new l (D7.mp hn) b1))
  unfold z0L at W
  dsimp only at W
  split at W
  .rename_i et
   subst et
   exact W.out (M.m.call0 M.rd M.lb P) rd λl h=>⟨(lbt l h).1,own l h⟩
  .split at W
   .rename_i hc
    exact W.out (M.m.call M.rd M.lb P hc) rd λl h=>⟨(lbt l h).1,own l h⟩
   .exact False.elim W
end
def K8(k:Nat)(tm:List (Option D)):List (Option D):=tm.drop (tm.length -k)
def zbz(nl:Nat)(mb:MS):FM:=λts n=>match mb {σ:=ts.map some++e8 (nl -ts.length) none,tm:=ts.map some,n:=n} with
 | .nx s'=>match Z3 s'.tm with|some ts'=> .ok .non ts' s'.n|none=> .no
 | .rt t s'=>match Z3 s'.tm with|some ts'=> .ok t ts' s'.n|none=> .no
 | .ex d s'=>match Z3 (K8 ts.length s'.tm) with|some ts'=> .ex d ts' s'.n|none=> .no
 |_=> .no
def zfL(G:Gx)(ρ:Nat->Addr)(n:Nat)(ts:List D)(vs:List V)(H:Hp)(lb: ∀l∈labsL ts,l<n)(dom: ∀l,l<n->∃o,H (ρ l)=some o)(E:XK):Fy:=
 {(z5m G ρ n ts vs H lb dom) with xw:=λd s'=> ∃c ts',d= .exc c/\Z3 (K8 ts.length s'.tm)=some ts'/\∀ρ' H' C,z3r G ρ n ts vs H ρ' s'.n ts' H'->G.cl c=some C->E (.ref C) none H'}
theorem MR.last{G:Gx}{F:Fx}{ρ:Nat->Addr}{H:Hp}{σv tv t0:List (Option V)}{s:Stt}(M:MR G F ρ H σv tv s)(h:t0<:+tv):MR G F ρ H σv t0 {s with tm:=K8 t0.length s.tm}:=by
 obtain⟨t1,rfl⟩:=h
 have hl:=M.tm.length
 have e:K8 t0.length s.tm=s.tm.drop t1.length:=by
  unfold K8
  rw[hl,l3]
  congr 1
  lia
 have sub: ∀l∈Z5 (s.tm.drop t1.length),l∈Z5 s.tm:=λl hm=>by
  rw[<-B8 t1.length s.tm,Y0]
  exact b6 _ hm
 rw[e]
 refine⟨M.sl,(Sl.split t1 M.tm).2,M.inj,M.dom,λl h=>M.lab l ?_,λl h=>M.own l ?_,M.frm,M.kd,M.frb,M.bas⟩
 .rcases c7.mp h with h|h
  .exact b8 _ h
  .exact b6 _ (sub l h)
 .rcases c7.mp h with h|h
  .exact b8 _ h
  .exact b6 _ (sub l h)
theorem fn_X{G:Gx}{P:Program}{w:World}{K:W.Frag}{mg:Str->Option Value}{base:Heap}{x qual:Str}{st:Stmt}{fa:Addr}{fd:FuncData}{N ps:List Str}{k:Nat}{mb:MS}(Fn:Fun K x qual st fa fd)(S:Z6 N ps (y2 st))(hG:G.K=K)
 (hb: ∀(cdv:Value) (A:Around) (outer:List Env) (s:Shared) (H:Hp) (E:XK) (F:Fy),U9 k (A.deeper (envOfC qual (y2 st) s.heap.objs.size fa cdv))->XP (cxOf (CX1 P w) P w K mg base N qual (y2 st) fa cdv A outer s H E) G F (λ_=>E)->z2j (cxOf (CX1 P w) P w K mg base N qual (y2 st) fa cdv A outer s H E) (λ_=>E)->SSs (cxOf (CX1 P w) P w K mg base N qual (y2 st) fa cdv A outer s H E) G F (W3 st) mb):
 FnOk P w K mg base (CX1 P w) (k+1) fa fd ps (spX G ps.length (zbz N.length mb)):=by
 obtain⟨oc,od,kV,doc,pm,an,cdv,ct,osl,rfl,lk,hcd⟩:=Fn.ex
 refine zeM lk hcd S (λvs H Q E h=>h.1) λA outer s H vs Q E hr h=> ?_
 obtain⟨hl,ρ,n,ts,r,inj,dom,lb,kd,W⟩:=h
 have hlen:=r.length
 have hX:XP (cxOf (CX1 P w) P w K mg base N qual (y2 st) fa cdv A outer s H E) G (zfL G ρ n ts vs H lb dom E) (λ_=>E):=by
  refine⟨λpins σ H1 s1 e s2 I h=>z5r pins σ H1 s1 e s2 I h,λc s' ⟨c',ts',e1,e2,q⟩ ρ' σv tv H' C hs M hc=> ?_,λd s' ⟨c,ts',e1,_⟩=>⟨c,e1⟩⟩
  cases e1
  have M2:MR G (z5m G ρ n ts vs H lb dom).toFx ρ' H' σv (vs.map some) {s' with tm:=K8 ts.length s'.tm}:=by
   have:=MR.last (t0:=vs.map some) M hs
   rw[l0,<-hlen] at this
   exact this
  obtain⟨P,_⟩:=X4 inj M2 e2
  exact q ρ' H' C P hc
 have hR:z2j (cxOf (CX1 P w) P w K mg base N qual (y2 st) fa cdv A outer s H E) (λ_=>E):=λpins σ H1 s1 h' e C args I hm hE=>zfE I hm hE
 refine⟨_,hb cdv A outer s H E (zfL G ρ n ts vs H lb dom E) hr hX hR,vs.map some,E6 _,ρ,{σ:=ts.map some++e8 (N.length -ts.length) none,tm:=ts.map some,n:=n}, ?_, ?_⟩
 .obtain⟨r1,r2⟩:=RDs.sl r
  have sub: ∀l∈Q8 {σ:=ts.map some++e8 (N.length -ts.length) none,tm:=ts.map some,n:=n},l∈labsL ts:=λl h=>by
   rcases c7.mp h with h|h
   .have h:l∈Z5 (ts.map some++e8 (N.length -ts.length) none):=h
    rw[Y0] at h
    rcases c7.mp h with h|h
    .rw[<-r2];exact h
    .exact absurd h (z04 _)
   .rw[<-r2];exact h
  refine⟨?_,r1,inj,dom,λl h=>lb l (sub l h),λl h=> .inl ⟨l,sub l h,rfl⟩,λa o e=>⟨⟨o,e⟩,λ_=>e⟩,kd,λl hl z=>z.2 l hl rfl,⟨c6 _,λl _=>rfl⟩⟩
  show Sl G ρ H _ (vs.map some++e8 (N.length -vs.length) none)
  rw[<-hlen]
  exact r1.append (Sl.none_map _)
 .unfold zbz at W
  cases e:mb {σ:=ts.map some++e8 (N.length -ts.length) none,tm:=ts.map some,n:=n} with
  |nx s'=>
   erw[e] at W
   cases ea:Z3 s'.tm with
   |none=>erw[ea] at W
   |some ts'=>
    erw[ea] at W
    intro ρ' σv' H' M
    obtain⟨P,_⟩:=X4 (lb:=lb) (dom:=dom) inj M ea
    exact W ρ' .non H' P (by erw[RD]) λl h=>by simp[y3] at h
  |rt t s'=>
   erw[e] at W
   cases ea:Z3 s'.tm with
   |none=>erw[ea] at W
   |some ts'=>
    erw[ea] at W
    intro ρ' σv' v H' M
    obtain⟨P,own⟩:=X4 (lb:=lb) (dom:=dom) inj M.m ea
    exact W ρ' v H' P M.rd1 λl h=>⟨(M.lb1 l h).1,own l (M.lb1 l h).1 (M.lb1 l h).2⟩
  |bk s'=>erw[e] at W
  |ct s'=>erw[e] at W
  |ex d s'=>
   erw[e] at W
   cases ea:Z3 (K8 ts.length s'.tm) with
   |none=>erw[ea] at W
   |some ts'=>
    erw[ea] at W
    obtain⟨c,e1,q⟩:=W
    exact⟨c,ts',e1,ea,q⟩
  |no=>erw[e] at W
def ze9(k:Str->Bool)(ie:Nat)(mb mh:MS):MS:=λs=>match mb s with
 | .ex (.exc c) s'=>if k c then(match mh {σ:=s'.σ.set ie (some (.exc c)),tm:=K8 s.tm.length s'.tm,n:=s'.n} with
  | .rt d s''=> .rt d s''
  |_=> .no) else .no
 | .ex _ _=> .no
 |r=>r
def zi7(G:Gx)(F:Fy)(k:Str->Bool)(ie:Nat)(mh:MS)(tv:List (Option V))(D:z45):Fy:=
 {F with tv0:=tv,xw:=λd s'=> ∃c,d= .exc c/\k c=true/\wS G F tv (match mh {σ:=s'.σ.set ie (some (.exc c)),tm:=K8 tv.length s'.tm,n:=s'.n} with| .rt d s''=> .rt d s''|_=> .no) D}
section
variable{X:Cx}{G:Gx}{F:Fy}{np hpos pos:Pos}{b₀:Stmt}{suite body:List Stmt}{x n:Str}{ie:Nat}{CB:Addr}{mb mh:MS}{k:Str->Bool}
theorem ss_try(hst:X.stack=X.env::X.outer)(hfr:X.env.frame=some X.env.locals)(hex:X.ex=[])(hK:X.K=G.K)(hg:Gl X x)(hm:X.mg x=some (.ref CB))(hN:X.N.Nodup)(hi:X.N[ie]? =some n)(hloc:X.env.scope.names.lookup n=some .local)
 (hk: ∀c C,G.cl c=some C->k c=true->W.exmOne X.K (.ref C) (.ref CB)=some true)
 (hb: ∀(pl:List (Addr×Obj)) (E':Value->Shared->Prop) (F':Fy) (E:L2.St->XK),XP (Xt X pl E') G F' E->SSs (Xt X pl E') G F' body mb) (hh: ∀a,SSs (Xm X a) G F (b₀::suite) mh) (hd:(x==("__debug__" :Str))=false:=by decide):
 SS X G F (.Try body [.ExceptHandler (some (.Name x np)) (some n) (b₀::suite) hpos] [] [] pos) (ze9 k ie mb mh):=by
 intro pins s σ H D I ⟨tv,hs,ρ,ms,M,W⟩
 refine wpAny_Try_except ?_
 have hlt:ms.tm.length=tv.length:=M.tm.length
 have hX:XP (Xt X (X.pn++pins) (zar X [.ExceptHandler (some (.Name x np)) (some n) (b₀::suite) hpos] (SP X pins D))) G (zi7 G F k ie mh tv D) (zfH X.K CB ie (tS G F mh) D):=by
  refine⟨λpins' σ' H' s' e s2 I' h=> ?_,λc s' ⟨c',e1,hkc,q⟩ ρ' σv tv' H' C hs' M' hc=> ?_,λd s' ⟨c,e1,_⟩=>⟨c,e1⟩⟩
  .exact zas hst hfr hex hg hm hN hi hloc hh hd I'.unxt h
  .cases e1
   refine⟨hk c C hc hkc,λa o hn hKn ho hf=>⟨tv,hs,ρ',{σ:=s'.σ.set ie (some (.exc c)),tm:=K8 tv.length s'.tm,n:=s'.n}, ?_, ?_⟩⟩
   .have M1:MR G F.toFx ρ' H' σv tv {s' with tm:=K8 tv.length s'.tm}:=MR.last (t0:=tv) M' hs'
    have kd:KD G.K (upd H' a (z4r o)):=λb ob q=>by
     by_cases hb:b=a
     .subst hb;rw[<-hK,hKn] at q;cases q
     .rw[y4 hb];exact M1.kd b ob q
    have M2:=M1.same (G5.new (z4r o) hn) kd
    have rd:RD G ρ' (upd H' a (z4r o)) (.exc c) (.ref a):=by
     erw[RD]
     exact⟨a,o,C,rfl,hc,ho,hf,Z1⟩
    have M3:=MRL.setS ie (⟨M2,RDs.one rd,λl hl=>by simp[labsL,y3] at hl⟩:MRL G F.toFx ρ' (upd H' a (z4r o)) σv tv {s' with tm:=K8 tv.length s'.tm} [.exc c] [.ref a])
    exact M3.m
   .revert q
    cases mh {σ:=s'.σ.set ie (some (.exc c)),tm:=K8 tv.length s'.tm,n:=s'.n} with
    |rt d s''=>exact λq=>q
    |nx s''=>exact λq=>q.elim
    |bk s''=>exact λq=>q.elim
    |ct s''=>exact λq=>q.elim
    |ex d s''=>exact λq=>q.elim
    |no=>exact λq=>q.elim
 have W':wS G (zi7 G F k ie mh tv D) tv (mb ms) D:=by
  unfold ze9 at W
  cases e:mb ms with
  |nx s'=>rw[e] at W;exact W
  |rt d s'=>rw[e] at W;exact W
  |bk s'=>rw[e] at W;exact W
  |ct s'=>rw[e] at W;exact W
  |no=>rw[e] at W;exact W
  |ex d s'=>
   rw[e] at W
   cases d with
   |exc c=>
    dsimp only at W
    by_cases hkc:k c=true
    .rw[if_pos hkc,hlt] at W;exact⟨c,rfl,hkc,W⟩
    .rw[if_neg hkc] at W;exact False.elim W
   |_=>exact False.elim W
 refine wpAny_mono (hb (X.pn++pins) (zar X [.ExceptHandler (some (.Name x np)) (some n) (b₀::suite) hpos] (SP X pins D)) (zi7 G F k ie mh tv D) _ hX [] s σ H D I.xt ⟨tv,E6 _,ρ,ms,M,W'⟩) (λf s1 q=> ?_) λ_ _ z=>z
 cases f with
 |next=>obtain⟨σ',H',I',q⟩:=q;exact wpAny_execs_nil ⟨σ',H',I'.unxt,q⟩
 |brk=>obtain⟨σ',H',I',q⟩:=q;exact⟨σ',H',I'.unxt,q⟩
 |cont=>obtain⟨σ',H',I',q⟩:=q;exact⟨σ',H',I'.unxt,q⟩
 |ret u=>obtain⟨v,σ',H',I',r,q⟩:=q;exact⟨v,σ',H',I'.unxt,r,q⟩
def z6g(tb:Str->Option Bool)(m:M D):M D:=bd m λd=>match d with
 | .exc c=>(match tb c with|some b=>rt (.bool b)|none=>fl)
 |_=>fl
theorem se_isX1{p:Pos}{x y:Expr}{m:M D}{c:V}{tb:Str->Option Bool}(hK:X.K=G.K)(hc:ze8 c=true)(ht: ∀r C b,G.cl r=some C->tb r=some b->z2k X.K C/\W.kitOne X.K (.ref C) (cvV c)=some b)(hgl:Gl X "isinstance")(hm:X.mg "isinstance" =none)(ha:SE X G F x m)(hy:PE X y (tC c))
 (he:starEach [x,y] X.env=(false,eval x X.env)::starEach [y] X.env:=by rfl) (he2:starEach [y] X.env=(false,eval y X.env)::starEach [] X.env:=by rfl) (hpl:(backTo pos (starEach [y] X.env)).any (·.1)=false:=by rfl):SE X G F (.Call (.Name "isinstance" p) [x,y] [] pos) (z6g tb m):=by
 refine PE.imp hK (z0F (z8C (c:=c) hc) hgl hm PyProof.Rows.Boot.«isinstance» (Z9 ha (Z9 hy V5 he2) he) (by decide) (by decide) he hpl) λ σ H Q ⟨tv,h⟩=>⟨tv,(z1K h).mono λv H1 ⟨ρ1,s1,t,M1,W⟩=> ?_⟩
 cases t with
 |exc r=>
  have h1:=M1.rd1
  erw[RD] at h1
  obtain⟨a,o,C,e,hcl,ho,hf,hH⟩:=h1
  cases e
  cases eb:tb r with
  |none=>erw[eb] at W;exact False.elim W
  |some b=>
   erw[eb] at W
   obtain⟨z1,z2⟩:=ht r C b hcl eb
   exact⟨a,o,C,b,rfl,hH,ho,z1,z2,λ_=>W.flat M1.m rfl⟩
 |_=>exact False.elim W
theorem se_isXT{p:Pos}{x y:Expr}{m:M D}{us:List Value}{tb:Str->Option Bool}(hK:X.K=G.K)(ht: ∀r C b,G.cl r=some C->tb r=some b->z2k X.K C/\W.kitAny X.K (.ref C) us=some b)(hgl:Gl X "isinstance")(hm:X.mg "isinstance" =none)(ha:SE X G F x m)(hy:PE X y (zi4 us))
 (he:starEach [x,y] X.env=(false,eval x X.env)::starEach [y] X.env:=by rfl) (he2:starEach [y] X.env=(false,eval y X.env)::starEach [] X.env:=by rfl) (hpl:(backTo pos (starEach [y] X.env)).any (·.1)=false:=by rfl):SE X G F (.Call (.Name "isinstance" p) [x,y] [] pos) (z6g tb m):=by
 refine PE.imp hK (z0F (z8D (us:=us)) hgl hm PyProof.Rows.Boot.«isinstance» (Z9 ha (Z9 hy V5 he2) he) (by decide) (by decide) he hpl) λ σ H Q ⟨tv,h⟩=>⟨tv,(z1K h).mono λv H1 ⟨ρ1,s1,t,M1,W⟩=> ?_⟩
 cases t with
 |exc r=>
  have h1:=M1.rd1
  erw[RD] at h1
  obtain⟨a,o,C,e,hcl,ho,hf,hH⟩:=h1
  cases e
  cases eb:tb r with
  |none=>erw[eb] at W;exact False.elim W
  |some b=>
   erw[eb] at W
   obtain⟨z1,z2⟩:=ht r C b hcl eb
   intro q hq
   have sm:=G5.new (clO q us) hq
   exact⟨a,o,C,q,b,rfl,sm _ _ hH,ho,z1,Z1,z2,λk=>W.flat (M1.m.same sm k) rfl⟩
 |_=>exact False.elim W
end
end Mi
namespace Mi
open PySem L2 PySem.Spec
inductive Al(Φ:Addr->Prop):List (Str×Addr)->Prop
 |nil:Al Φ []
 |cons {c:Str} {a:Addr} {l:List (Str×Addr)}:Φ a->Al Φ l->Al Φ ((c,a)::l)
theorem Al.at{Φ:Addr->Prop}{l:List (Str×Addr)}(h:Al Φ l){c:Str}{a:Addr}(e:l.lookup c=some a):Φ a:=by
 induction h with
 |nil=>cases e
 | @cons c' a' l h _ ih=>
  rw[i9] at e
  cases q:c==c' with
  |true=>rw[q] at e;cases e;exact h
  |false=>rw[q] at e;exact ih e
inductive Al2{β:Type}(Φ:Addr->β->Prop):List (Str×Addr)->List (Str×β)->Prop
 |nil:Al2 Φ [] []
 |cons {c:Str} {a:Addr} {b:β} {l:List (Str×Addr)} {r:List (Str×β)}:Φ a b->Al2 Φ l r->Al2 Φ ((c,a)::l) ((c,b)::r)
 |skip {c:Str} {a:Addr} {l:List (Str×Addr)} {r:List (Str×β)}:r.lookup c=none->Al2 Φ l r->Al2 Φ ((c,a)::l) r
theorem Al2.at{β:Type}{Φ:Addr->β->Prop}{l:List (Str×Addr)}{r:List (Str×β)}(h:Al2 Φ l r): ∀{c:Str} {a:Addr} {b:β},l.lookup c=some a->r.lookup c=some b->Φ a b:=by
 induction h with
 |nil=>intro c a b e;cases e
 | @cons c' a' b' l r h _ ih=>
  intro c a b e e2
  rw[i9] at e e2
  cases q:c==c' with
  |true=>rw[q] at e e2;cases e;cases e2;exact h
  |false=>rw[q] at e e2;exact ih e e2
 | @skip c' a' l r hn _ ih=>
  intro c a b e e2
  rw[i9] at e
  cases q:c==c' with
  |true=>rw[beq_iff_eq] at q;subst q;rw[hn] at e2;cases e2
  |false=>rw[q] at e;exact ih e e2
theorem z1n: ∀{l:List (Str×Addr)} {c:Str} {a:Addr},l.lookup c=some a->a∈l.map (·.2)
 |(c',a')::l,c,a,e=>by
  rw[i9] at e
  cases q:c==c' with
  |true=>rw[q] at e;cases e;exact e9 ..
  |false=>rw[q] at e;exact b7 _ (z1n e)
theorem z37: ∀{l:List (Str×Addr)},(l.map (·.2)).Nodup->∀{c c':Str} {a:Addr},l.lookup c=some a->l.lookup c'=some a->c=c'
 |(k,v)::l,nd,c,c',a,e,e'=>by
  rw[c8,B0] at nd
  rw[i9] at e e'
  cases q:c==k with
  |true=>
   rw[q] at e;cases e
   cases q':c'==k with
   |true=>rw[beq_iff_eq] at q q';rw[q,q']
   |false=>rw[q'] at e';exact absurd (z1n e') nd.1
  |false=>
   rw[q] at e
   cases q':c'==k with
   |true=>rw[q'] at e';cases e';exact absurd (z1n e) nd.1
   |false=>rw[q'] at e';exact z37 nd.2 e e'
def NSq(K:W.Frag)(a:Addr):Prop:= ∃o,K.lookup a=some o/\∀its n,o.data≠ .seq its n
theorem z3u{K:W.Frag}{C:Addr}{bm:List Value}{i:String}(q:W.excIn K C bm i=true):NSq K C:=by
 unfold W.excIn at q
 split at q
 .rename_i dd cd sl ho
  exact⟨_,ho,λits n z=>by cases z⟩
 .cases q
def mkG(K:W.Frag)(l:List (Str×Addr))(nd:(l.map (·.2)).Nodup)(ok:Al (NSq K) l):Gx:=⟨K,λc=>l.lookup c,λ_ _ _ h h'=>z37 nd h h',λ_ _ h=>ok.at h⟩
section
variable{X:Cx}{G:Gx}{F:Fy}{E:L2.St->XK}
structure FnV(X:Cx)(G:Gx)(np:Nat)(a:Addr)(f:FM):Prop where
 ex: ∃k fd ps,ps.length=np/\FnOk X.prog X.w X.K X.mg X.base (CX1 X.prog X.w) k a fd ps (spX G np f)/\U9 k X.A/\W.keepIn X.K (.ref a)=true/\J4 X.K fd ps []
end
end Mi
namespace Mi
open PySem L2 PySem.Spec
open PyProof.Rows (envOfC)
section
variable{G:Gx}{ρ ρ':Nat->Addr}{H H':Hp}
variable{F:Fy}{σv tv:List (Option V)}{s:Stt}{np:Nat}
theorem se_callH{X:Cx}{e:Expr}{es:List Expr}{pos p:Pos}{CX:CXT}{k:Nat}{fa:Addr}{fd:FuncData}{ps:List Str}{x:Str}{E:XK}{f:FM}{ms:List (M D)}(hk:X.K=G.K)(Fn:z1m X.prog X.w X.K X.mg X.base CX k fa fd ps (spM G ps.length f))(hr:V0 k X.A)(hg:Gl X x)(hm:X.mg x=some (.ref fa))(hkp:W.keepIn X.K (.ref fa)=true)(hb:J4 X.K fd ps [])(hx:Q6 CX X E)
 (ha:SA X G F (e::es) (Z7 ms)) (hln:ms.length=ps.length) (hdb:(x==("__debug__" :Str))=false:=by decide) (he:starEach (e::es) X.env=(false,eval e X.env)::starEach es X.env:=by rfl) (hpl:(backTo pos (starEach es X.env)).any (·.1)=false:=by rfl):
 SE X G F (.Call (.Name x p) (e::es) [] pos) (Z4 f ms):=by
 refine PE.imp0 (zax Fn hr hg hm hkp hb .nil hx ha hdb he hpl) λ σ H Q ⟨tv,hs,ρ,s,M,W⟩=>⟨tv,hs,ρ,s,M, ?_⟩
 unfold Z4 bd at W
 cases e1:Z7 ms s with
 |ex d s1=>rw[e1] at W;exact W
 |no=>rw[e1] at W;exact W
 |ok ts s1=>
  rw[e1] at W
  intro ρ1 vs H1 M1
  rw[e7]
  exact z0K (by rw[<-M1.rd.length,z05 ms s ts s1 e1,hln]) M1 W
theorem fn_H{P:Program}{w:World}{K:W.Frag}{mg:Str->Option Value}{base:Heap}{x qual:Str}{st:Stmt}{fa:Addr}{fd:FuncData}{N ps:List Str}{k:Nat}{mb:MS}(Fn:Fun K x qual st fa fd)(S:Z6 N ps (y2 st))(hG:G.K=K)
 (hb: ∀(cdv:Value) (A:Around) (outer:List Env) (s:Shared) (H:Hp) (E:XK) (F:Fy),V0 k (A.deeper (envOfC qual (y2 st) s.heap.objs.size fa cdv))->SSs (cxH CX0 P w K mg base N qual (y2 st) fa cdv A outer s H E).nox G F (W3 st) mb):
 z1m P w K mg base CX0 (k+1) fa fd ps (spM G ps.length (z0t N.length mb)):=by
 refine Fn.okH S (λvs H Q E h=>h.1) λcdv A outer s H vs Q E hr h=> ?_
 obtain⟨hl,ρ,n,ts,r,inj,dom,lb,kd,W⟩:=h
 refine⟨_,hb cdv A outer s H E (z5m G ρ n ts vs H lb dom) hr,vs.map some,E6 _,ρ,{σ:=ts.map some++e8 (N.length -ts.length) none,tm:=ts.map some,n:=n}, ?_, ?_⟩
 .obtain⟨r1,r2⟩:=RDs.sl r
  have hlen:=r.length
  have sub: ∀l∈Q8 {σ:=ts.map some++e8 (N.length -ts.length) none,tm:=ts.map some,n:=n},l∈labsL ts:=λl h=>by
   rcases c7.mp h with h|h
   .have h:l∈Z5 (ts.map some++e8 (N.length -ts.length) none):=h
    rw[Y0] at h
    rcases c7.mp h with h|h
    .rw[<-r2];exact h
    .exact absurd h (z04 _)
   .rw[<-r2];exact h
  refine⟨?_,r1,inj,dom,λl h=>lb l (sub l h),λl h=> .inl ⟨l,sub l h,rfl⟩,λa o e=>⟨⟨o,e⟩,λ_=>e⟩,kd,λl hl z=>z.2 l hl rfl,⟨c6 _,λl _=>rfl⟩⟩
  show Sl G ρ H _ (vs.map some++e8 (N.length -vs.length) none)
  rw[<-hlen]
  exact r1.append (Sl.none_map _)
 .unfold z0t at W
  cases e:mb {σ:=ts.map some++e8 (N.length -ts.length) none,tm:=ts.map some,n:=n} with
  |nx s'=>
   erw[e] at W
   cases ea:Z3 s'.tm with
   |none=>erw[ea] at W
   |some ts'=>
    erw[ea] at W
    intro ρ' σv' H' M
    obtain⟨P,_⟩:=X4 inj M ea
    exact W ρ' .non H' P (by erw[RD]) λl h=>by simp[y3] at h
  |rt t s'=>
   erw[e] at W
   cases ea:Z3 s'.tm with
   |none=>erw[ea] at W
   |some ts'=>
    erw[ea] at W
    intro ρ' σv' v H' M
    obtain⟨P,own⟩:=X4 inj M.m ea
    exact W ρ' v H' P M.rd1 λl h=>⟨(M.lb1 l h).1,own l (M.lb1 l h).1 (M.lb1 l h).2⟩
  |bk s'=>erw[e] at W
  |ct s'=>erw[e] at W
  |ex d s'=>
   erw[e] at W
   cases ea:Z3 s'.tm with
   |none=>erw[ea] at W
   |some ts'=>erw[ea] at W
  |no=>erw[e] at W
end
section
variable{X:Cx}{G:Gx}{F:Fy}
def zea:D->List D->M D
 | .lst _ ds,[.bool k]=>match G2 ds with|some bs=>rt (.int (bs.count k:Nat))|none=>fl
 |_,_=>fl
def zeb:D->List D->M D
 | .lst _ ds,[.bool k]=>match G2 ds with|some bs=>if k∈bs then rt (.int (bs.idxOf k:Nat)) else fl|none=>fl
 |_,_=>fl
theorem zfM:zfw G F (zbx G.K) zea:=by
 intro ρ s t ts v vs H σv tv Q M W
 obtain⟨h1,h2,b1,b2⟩:=M.hd
 unfold zea at W
 split at W
 .rename_i l ds k
  cases e1:G2 ds with
  |none=>rw[e1] at W;exact False.elim W
  |some bs=>
   rw[e1] at W
   obtain⟨p,xs,rfl,s1,r1,_⟩:=h1.lstq (ds:=ds) rfl
   rw[z1S r1 e1] at s1
   erw[RDs,RD] at h2
   obtain⟨u,q,rfl,rfl,rfl⟩:=h2
   exact⟨p,bs,k,rfl,rfl,s1,λ_=>W.flat M.m rfl⟩
 .exact wfl W
theorem zfN:zfw G F (zby G.K) zeb:=by
 intro ρ s t ts v vs H σv tv Q M W
 obtain⟨h1,h2,b1,b2⟩:=M.hd
 unfold zeb at W
 split at W
 .rename_i l ds k
  cases e1:G2 ds with
  |none=>rw[e1] at W;exact False.elim W
  |some bs=>
   rw[e1] at W
   by_cases hk:k∈bs
   .erw[if_pos hk] at W
    obtain⟨p,xs,rfl,s1,r1,_⟩:=h1.lstq (ds:=ds) rfl
    rw[z1S r1 e1] at s1
    erw[RDs,RD] at h2
    obtain⟨u,q,rfl,rfl,rfl⟩:=h2
    exact⟨p,bs,k,rfl,rfl,s1,hk,λ_=>W.flat M.m rfl⟩
   .erw[if_neg hk] at W;exact False.elim W
 .exact wfl W
theorem zay(hk:X.K=G.K):Cl X G F "list.count" zea:=⟨_,hk▸zav,zfM⟩
theorem zaz(hk:X.K=G.K):Cl X G F "list.index" zeb:=⟨_,hk▸zaw,zfN⟩
end
end Mi
namespace Mi
open PySem L2 PySem.Spec
def z4t:D->Option Key
 | .int i=>some (.inl i)
 | .str x=>some (.inr x)
 |_=>none
def z0M:List D->Option (List Key)
 |[]=>some []
 |d::ds=>match z4t d with
  |some k=>match z0M ds with
   |some ks=>some (k::ks)
   |none=>none
  |none=>none
def zec:D->Option (Key⊕List Key)
 | .tup ds=>match z0M ds with|some ks=>some (.inr ks)|none=>none
 |d=>match z4t d with|some k=>some (.inl k)|none=>none
def z4u:List D->Option NK
 |[]=>some []
 |d::ds=>match zec d with
  |some k=>match z4u ds with
   |some ks=>some (k::ks)
   |none=>none
  |none=>none
def tkey:D->Option NK
 | .tup ds=>z4u ds
 |_=>none
def isT:List D->Bool
 | .non::_=>false
 |_=>true
section
variable{G:Gx}{ρ:Nat->Addr}{H:Hp}
theorem z6h{d:D}{v:V}{k:Key}(h:RD G ρ H d v)(e:z4t d=some k):v=kV k/\d=z41 k:=by
 cases d<;>erw[z4t] at e<;>cases e<;>(erw[RD] at h;exact⟨h,rfl⟩)
theorem z4v: ∀{ds:List D} {xs:List V} {ks:List Key},RDs G ρ H ds xs->z0M ds=some ks->xs=ks.map kV/\ds=ks.map z41
 |[],xs,ks,h,e=>by erw[RDs] at h;erw[z0M] at e;cases e;exact⟨h,rfl⟩
 |d::ds,xs,ks,h,e=>by
  erw[RDs] at h
  obtain⟨x,r,rfl,h1,h2⟩:=h
  erw[z0M] at e
  cases e1:z4t d with
  |none=>rw[e1] at e;cases e
  |some k=>
   rw[e1] at e
   cases e2:z0M ds with
   |none=>erw[e2] at e;cases e
   |some ks'=>
    erw[e2] at e
    cases e
    obtain⟨a1,a2⟩:=z6h h1 e1
    obtain⟨b1,b2⟩:=z4v h2 e2
    rw[a1,b1,a2,b2]
    exact⟨rfl,rfl⟩
theorem zd5{d:D}{v:V}{k:Key⊕List Key}(h:RD G ρ H d v)(e:zec d=some k):TKi H k v/\d=nkD k:=by
 have flat: ∀{d:D} {v:V},RD G ρ H d v->(match z4t d with|some k=>some (Sum.inl k:Key⊕List Key)|none=>none)=some k->TKi H k v/\d=nkD k:=by
  intro d v h e
  cases e1:z4t d with
  |none=>rw[e1] at e;cases e
  |some k'=>
   rw[e1] at e
   cases e
   obtain⟨a1,a2⟩:=z6h h e1
   exact⟨a1,a2⟩
 cases d with
 |tup ds=>
  erw[zec] at e
  cases e1:z0M ds with
  |none=>rw[e1] at e;cases e
  |some ks=>
   rw[e1] at e
   cases e
   erw[RD] at h
   obtain⟨a,xs,e2,s,r⟩:=h
   obtain⟨b1,b2⟩:=z4v r e1
   exact⟨⟨a,e2,b1▸s⟩,by rw[b2];rfl⟩
 |_=>exact flat h e
theorem z6i: ∀{ds:List D} {xs:List V} {ks:NK},RDs G ρ H ds xs->z4u ds=some ks->Paired (TKi H) ks xs/\ds=ks.map nkD
 |[],xs,ks,h,e=>by erw[RDs] at h;erw[z4u] at e;cases e;subst h;exact⟨.nil,rfl⟩
 |d::ds,xs,ks,h,e=>by
  erw[RDs] at h
  obtain⟨x,r,rfl,h1,h2⟩:=h
  erw[z4u] at e
  cases e1:zec d with
  |none=>rw[e1] at e;cases e
  |some k=>
   rw[e1] at e
   cases e2:z4u ds with
   |none=>erw[e2] at e;cases e
   |some ks'=>
    erw[e2] at e
    cases e
    obtain⟨a1,a2⟩:=zd5 h1 e1
    obtain⟨b1,b2⟩:=z6i h2 e2
    rw[a2,b2]
    exact⟨.cons a1 b1,rfl⟩
theorem z3v{t:D}{v:V}{k:NK}(h:RD G ρ H t v)(e:tkey t=some k): ∃b,v= .ref b/\TK H k b/\t=dkD k:=by
 cases t<;>erw[tkey] at e<;>try cases e
 erw[RD] at h
 obtain⟨a,xs,e1,s,r⟩:=h
 obtain⟨b1,b2⟩:=z6i r e
 exact⟨a,e1,⟨xs,s,b1⟩,by rw[b2];rfl⟩
theorem z38: ∀k:List Key,z0M (k.map z41)=some k
 |[]=>rfl
 |k::ks=>by
  erw[c8,z0M]
  have:z4t (z41 k)=some k:=by cases k<;>rfl
  rw[this,z38 ks]
theorem zd6(z:Key⊕List Key):zec (nkD z)=some z:=by
 cases z with
 |inl k=>cases k<;>rfl
 |inr ks=>erw[nkD,zec,z38]
theorem z4w: ∀k:NK,z4u (k.map nkD)=some k
 |[]=>rfl
 |k::ks=>by erw[c8,z4u,zd6,z4w ks]
theorem Q0(k:NK):tkey (dkD k)=some k:=z4w k
theorem z5t{ρ:Nat->Addr}: ∀k:List Key,RDs G ρ H (k.map z41) (k.map kV)
 |[]=>by erw[l7,RDs]
 | .inl i::k=>by erw[c8,RDs];exact⟨_,_,rfl,by erw[z41,RD];rfl,z5t k⟩
 | .inr i::k=>by erw[c8,RDs];exact⟨_,_,rfl,by erw[z41,RD];rfl,z5t k⟩
theorem z8E{ρ:Nat->Addr}: ∀{k:NK} {xs:List V},Paired (TKi H) k xs->RDs G ρ H (k.map nkD) xs
 |_,_, .nil=>by erw[l7,RDs]
 | .inl i::k,_, .cons a b=>by
  have e:=(show _=kV i from a)
  erw[c8,RDs]
  refine⟨_,_,rfl, ?_,z8E b⟩
  rw[e]
  cases i<;>(erw[nkD,z41,RD];rfl)
 | .inr ks::k,_, .cons a b=>by
  obtain⟨c,e,hc⟩:=a
  erw[c8,RDs]
  refine⟨_,_,rfl, ?_,z8E b⟩
  erw[nkD,RD]
  exact⟨c,_,e,hc,z5t ks⟩
def rdD:D->Option (List D×List D)
 | .dct _ ks vs=>if isT ks=true then some (ks,vs) else none
 | .fdc ks vs=>some (ks,vs)
 |_=>none
theorem RD.rdq{t:D}{ks vs:List D}{v:V}(h:RD G ρ H t v)(e:rdD t=some (ks,vs)): ∃a kvs,v= .ref a/\Rd H a (.dT kvs)/\ks=kvs.map (λp:NK×V=>dkD p.1)/\RDs G ρ H vs (kvs.map (·.2))/\∀l∈labsL vs,l∈y3 t:=by
 cases t<;>erw[rdD] at e<;>try cases e
 .rename_i l ks' vs'
  by_cases hT:isT ks'=true
  .rw[if_pos hT] at e;cases e
   erw[RD] at h
   obtain⟨e,⟨kvs,s,s2,r⟩|⟨kvs,s,s2,r⟩⟩:=h
   .rw[s2] at hT;cases hT
   .exact⟨ρ l,kvs,e, .inl s,s2,r,λj hj=>by erw[y3];exact b7 _ (b6 _ hj)⟩
  .rw[if_neg hT] at e;cases e
 .erw[RD] at h
  obtain⟨a,o,kvs,e,s,s2,r⟩:=h
  exact⟨a,kvs,e, .inr ⟨o,s⟩,s2,r,λj hj=>by erw[y3];exact hj⟩
theorem RD.dctq{l:Nat}{ks vs:List D}{v:V}(h:RD G ρ H (.dct l ks vs) v)(hn:isT ks=true):v= .ref (ρ l)/\∃kvs:List (NK×V),H (ρ l)=some (.dT kvs)/\ks=kvs.map (λp=>dkD p.1)/\RDs G ρ H vs (kvs.map (·.2)):=by
 erw[RD] at h
 obtain⟨e,⟨kvs,s,s2,r⟩|h⟩:=h
 .rw[s2] at hn;cases hn
 .exact⟨e,h⟩
def findK:List D->List D->NK->Option D
 |d::ks,v::vs,k=>if tkey d=some k then some v else findK ks vs k
 |_,_,_=>none
theorem z0k{k:NK}: ∀(kvs:List (NK×V)) (vs:List D) (t:D),RDs G ρ H vs (kvs.map (·.2))->findK (kvs.map λp=>dkD p.1) vs k=some t->∃v,valV kvs k=some v/\RD G ρ H t v/\t∈vs
 |[],_,_,_,e=>by erw[l7,findK] at e;cases e
 |p::kvs,[],_,_,e=>by erw[c8,findK] at e;cases e
 |p::kvs,w::vs,t,h,e=>by
  erw[c8,RDs] at h
  obtain⟨x,r,e1,h1,h2⟩:=h
  cases e1
  erw[c8,findK,Q0,Option.some.injEq] at e
  by_cases hk:p.1=k
  .rw[if_pos hk] at e;cases e
   exact⟨_,z0G hk,h1,e9 ..⟩
  .rw[if_neg hk] at e
   obtain⟨v,a,b,c⟩:=z0k kvs vs t h2 e
   exact⟨v,by rw[z0i hk];exact a,b,b7 _ c⟩
theorem z1o{k:NK}: ∀(kvs:List (NK×V)) (vs:List D),RDs G ρ H vs (kvs.map (·.2))->findK (kvs.map λp=>dkD p.1) vs k=none->valV kvs k=none
 |[],_,_,_=>rfl
 |p::kvs,[],h,_=>by erw[c8,RDs] at h;cases h
 |p::kvs,w::vs,h,e=>by
  erw[c8,RDs] at h
  obtain⟨x,r,e1,h1,h2⟩:=h
  cases e1
  erw[c8,findK,Q0,Option.some.injEq] at e
  by_cases hk:p.1=k
  .rw[if_pos hk] at e;cases e
  .rw[if_neg hk] at e
   rw[z0i hk];exact z1o kvs vs h2 e
def zaA(ks:List D)(k:NK):List D:=if(ks.any λd=>decide (tkey d=some k))=true then ks else ks++[dkD k]
def z7b(ks vs:List D)(k:NK)(v:D):List D:=if(ks.any λd=>decide (tkey d=some k))=true then C0 (λd w=>if tkey d=some k then v else w) ks vs else vs++[v]
theorem zfO{k:NK}(kvs:List (NK×V)):((kvs.map λp=>dkD p.1).any λd=>decide (tkey d=some k))=kvs.any λkv=>decide (kv.1=k):=by
 rw[R1]
 congr 1
 funext p
 erw[Function.comp,Q0,Option.some.injEq]
theorem z5u{k:NK}{t:D}{v:V}(h:RD G ρ H t v): ∀(kvs:List (NK×V)) (vs:List D),RDs G ρ H vs (kvs.map (·.2))->
 RDs G ρ H (C0 (λd w=>if tkey d=some k then t else w) (kvs.map λp=>dkD p.1) vs) ((kvs.map (λkv=>if kv.1=k then(kv.1,v) else kv)).map (·.2))
 |[],[],_=>by simp[RDs]
 |[],_::_,h=>by erw[l7,RDs] at h;obtain⟨_,_,e,_⟩:=h;cases e
 |p::kvs,[],h=>by erw[c8,RDs] at h;cases h
 |p::kvs,w::vs,h'=>by
  erw[c8,RDs] at h'
  obtain⟨x,r,e1,h1,h2⟩:=h'
  cases e1
  erw[c8,B1,RDs,Q0,Option.some.injEq]
  by_cases hk:p.1=k
  .rw[if_pos hk,if_pos hk];exact⟨_,_,rfl,h,z5u h kvs vs h2⟩
  .rw[if_neg hk,if_neg hk];exact⟨_,_,rfl,h1,z5u h kvs vs h2⟩
theorem zfP{k:NK}{t:D}{v:V}{kvs:List (NK×V)}{vs:List D}(h:RD G ρ H t v)(r:RDs G ρ H vs (kvs.map (·.2))):
 zaA (kvs.map λp=>dkD p.1) k=(z54 kvs k v).map (λp=>dkD p.1)/\RDs G ρ H (z7b (kvs.map λp=>dkD p.1) vs k t) ((z54 kvs k v).map (·.2)):=by
 unfold zaA z7b z54
 rw[zfO]
 cases e:kvs.any λkv=>decide (kv.1=k) with
 |true=>
  erw[if_true]
  refine⟨?_,z5u h kvs vs r⟩
  rw[R3]
  refine F4 λp _=> ?_
  erw[Function.comp]
  split<;>rfl
 |false=>
  erw[i8,if_false,C5,c8,l7]
  exact⟨trivial,r.append (RDs.one h)⟩
end
section
variable{X:Cx}{G:Gx}{F:Fy}{a b e:Expr}{ma mb:M D}{pos:Pos}
def zaB(t o:D):M D:=match rdD o with
 |some (ks,vs)=>match tkey t with
  |some k=>rt (.bool (findK ks vs k).isSome)
  |none=>fl
 |none=>fl
def z4x(t o:D):M D:=match rdD o with
 |some (ks,vs)=>match tkey t with
  |some k=>rt (.bool (!(findK ks vs k).isSome))
  |none=>fl
 |none=>fl
theorem zfQ{ρ:Nat->Addr}{H:Hp}{k:NK}{kvs:List (NK×V)}{vs:List D}(r:RDs G ρ H vs (kvs.map (·.2))):(findK (kvs.map λp=>dkD p.1) vs k).isSome=(valV kvs k).isSome:=by
 cases ef:findK (kvs.map λp=>dkD p.1) vs k with
 |none=>rw[z1o kvs vs r ef];rfl
 |some d=>obtain⟨w,hv,_⟩:=z0k kvs vs d r ef;rw[hv];rfl
theorem zfR:v0 G F (λy x H Q=> ∃a o,x= .ref a/\z9Z H a y o/\Q (.bl o.isSome) H) zaB:=by
 intro ρ s t t' v u H σv tv Q M W
 obtain⟨h1,h2⟩:=M.rd2
 unfold zaB at W
 cases er:rdD t' with
 |none=>rw[er] at W;exact False.elim W
 |some p=>
  obtain⟨ks,vs⟩:=p
  rw[er] at W
  dsimp only at W
  cases ek:tkey t with
  |none=>rw[ek] at W;exact False.elim W
  |some k=>
   rw[ek] at W
   dsimp only at W
   obtain⟨a,kvs,rfl,hx,rfl,r,sub⟩:=h2.rdq er
   obtain⟨b,rfl,hb,_⟩:=z3v h1 ek
   refine⟨a,_,rfl, .inr ⟨kvs,k,b,hx,rfl,hb,rfl⟩, ?_⟩
   rw[<-zfQ r]
   exact W.flat M.m rfl
theorem zd7:v0 G F (λy x H Q=> ∃a o,x= .ref a/\z9Z H a y o/\Q (.bl (!o.isSome)) H) z4x:=by
 intro ρ s t t' v u H σv tv Q M W
 obtain⟨h1,h2⟩:=M.rd2
 unfold z4x at W
 cases er:rdD t' with
 |none=>rw[er] at W;exact False.elim W
 |some p=>
  obtain⟨ks,vs⟩:=p
  rw[er] at W
  dsimp only at W
  cases ek:tkey t with
  |none=>rw[ek] at W;exact False.elim W
  |some k=>
   rw[ek] at W
   dsimp only at W
   obtain⟨a,kvs,rfl,hx,rfl,r,sub⟩:=h2.rdq er
   obtain⟨b,rfl,hb,_⟩:=z3v h1 ek
   refine⟨a,_,rfl, .inr ⟨kvs,k,b,hx,rfl,hb,rfl⟩, ?_⟩
   rw[<-zfQ r]
   exact W.flat M.m rfl
theorem zfS(hu:X.A.units+64<cLine):OpR X (compareOp .In) (λy x H Q=> ∃a o,x= .ref a/\z9Z H a y o/\Q (.bl o.isSome) H):=by
 intro pins s σ H y x iv u Q I ry rx h
 obtain⟨a,o,rfl,g,q⟩:=h
 obtain rfl:u=Value.ref a:=rx
 exact zk3 (show X.A.units+2<cLine by lia) I g ry λs3 I3=>⟨.bl o.isSome,H,I3,rfl,q⟩
theorem zd8(hu:X.A.units+64<cLine):OpR X (compareOp .NotIn) (λy x H Q=> ∃a o,x= .ref a/\z9Z H a y o/\Q (.bl (!o.isSome)) H):=by
 intro pins s σ H y x iv u Q I ry rx h
 obtain⟨a,o,rfl,g,q⟩:=h
 obtain rfl:u=Value.ref a:=rx
 exact zcw (show X.A.units+2<cLine by lia) I g ry λs3 I3=>⟨.bl (!o.isSome),H,I3,rfl,q⟩
theorem z6j(hu:X.A.units+64<cLine):Cm X G F .In zaB:=⟨_,zfS hu,zfR⟩
theorem z8F(hu:X.A.units+64<cLine):Cm X G F .NotIn z4x:=⟨_,zd8 hu,zd7⟩
def z5v:M D:=λs=> .ok (.dct s.n [] []) s.nxt
theorem se_dnew(hk:X.K=G.K):SE X G F (.Dict [] [] pos) z5v:=
 PE.imp hk za1 λ σ H Q ⟨tv,hs,ρ,s,M,W⟩ p hp k=>by
  refine wM.out (ρ:=ext ρ s.n p) W (M.new hp k) ?_ λl hl=> ?_
  .erw[RD]
   rw[W9]
   exact⟨rfl, .inr ⟨[],Z1,rfl,by simp[RDs]⟩⟩
  .erw[y3,labsL,e7,l5] at hl
   rw[hl]
   exact⟨s0 _,by rw[W9];exact .inr (M.fresh0 hp)⟩
def z0N(o i v:D):MS:=λs=>match o with
 | .dct l ks vs=>match tkey i with
  |some k=>if isT ks=true/\ks.length<sizeLine/\y3 v=[]/\labsL vs=[] then .nx (s.put l (.dct l (zaA ks k) (z7b ks vs k v))) else .no
  |none=> .no
 |_=> .no
theorem z5w(k:NK):y3 (dkD k)=[]:=by
 have h: ∀k:NK,labsL (k.map nkD)=[]:=λk=>by
  induction k with
  |nil=>rfl
  |cons z k ih=>erw[c8,labsL,z5k,ih,e7]
 erw[dkD,y3,h]
theorem z3w: ∀kvs:List (NK×V),labsL (kvs.map λp=>dkD p.1)=[]
 |[]=>rfl
 |p::kvs=>by
  have e:y3 (dkD p.1)=[]:=z5w p.1
  erw[c8,labsL,e,z3w kvs];rfl
theorem z2m: ∀{ds:List D},(∀d∈ds,y3 d=[])->labsL ds=[]
 |[],_=>rfl
 |d::ds,h=>by erw[labsL,h d (e9 ..),z2m λx hx=>h x (b7 _ hx)];rfl
theorem z4y{ds:List D}(h:labsL ds=[]): ∀d∈ds,y3 d=[]:=λd hd=>by
 cases e:y3 d with
 |nil=>rfl
 |cons l r=>exact absurd (labsL_mem hd l (by rw[e];exact e9 ..)) (by rw[h];exact i7)
theorem z6k{ks vs:List D}{k:NK}{v:D}(hv:y3 v=[])(h:labsL vs=[]):labsL (z7b ks vs k v)=[]:=by
 have h':=z4y h
 unfold z7b
 split
 .refine z2m λd hd=> ?_
  obtain⟨i,hi,e⟩:=List.getElem_of_mem hd
  rw[List.getElem_zipWith] at e
  subst e
  split
  .exact hv
  .exact h' _ (B4 _)
 .refine z2m λd hd=> ?_
  rcases c7.mp hd with q|q
  .exact h' d q
  .rw[l5.mp q];exact hv
theorem zd9{ρ:Nat->Addr}{s:Stt}{t1 t2 t3:D}{v o i:V}{H:Hp}{σv tv:List (Option V)}{Dd:z45}(M:MRL G F.toFx ρ H σv tv s [t1,t2,t3] [v,o,i])(W:wS G F tv (z0N t2 t3 t1 s) Dd): ∃a H4,o= .ref a/\ze1 H a i v H4/\Dd.nx σv H4:=by
 have h:=M.rd
 erw[RDs] at h
 obtain⟨_,_,e,h1,_,_,e2,h2,_,_,e3,h3,_⟩:=h
 cases e;cases e2;cases e3
 have b2:LB F.toFx ρ s.n (y3 t2):=λl h=>M.lb l (by erw[labsL];exact b6 _ (b8 _ h))
 unfold z0N at W
 cases t2 with
 |dct l ks vs=>
  dsimp only at W
  cases ek:tkey t3 with
  |none=>rw[ek] at W;exact False.elim W
  |some k=>
   rw[ek] at W
   dsimp only at W
   by_cases hc:isT ks=true/\ks.length<sizeLine/\y3 t1=[]/\labsL vs=[]
   .rw[if_pos hc] at W
    obtain⟨hT,hz,hv,hvs⟩:=hc
    obtain⟨rfl,kvs,hx,rfl,r⟩:=h2.dctq hT
    obtain⟨b,rfl,hb,_⟩:=z3v h3 ek
    have bl:=b2 l (by erw[y3];exact e9 ..)
    have st:J5 H (upd H (ρ l) (.dT (z54 kvs k v))):=
     ⟨λb ys q=>by rw[y4 (z0q q hx (by intro z;cases z))];exact q,λb o u q=>by rw[y4 (z0q q hx (by intro z;cases z))];exact q⟩
    have pr:=zfP (k:=k) h1 r
    refine⟨ρ l,_,rfl,ze1.t hx hb (by simpa using hz),W ρ σv _ (M.m.put2 bl.1 bl.2 st (z6b M.m.kd hx) ?_ λj hj=> ?_)⟩
    .erw[RD]
     refine⟨trivial, .inr ⟨z54 kvs k v,Z1,pr.1, ?_⟩⟩
     exact RDs.stay st _ _ pr.2 λj hj=>by rw[z6k hv hvs] at hj;cases hj
    .erw[y3,pr.1,z3w,z6k hv hvs,e7,l5] at hj
     rw[hj];exact bl
   .rw[if_neg hc] at W;exact False.elim W
 |_=>exact False.elim W
theorem ss_dput{ob ix:Expr}{pos tpos:Pos}{mo mi me:M D}(hu:X.A.units+64<cLine)(he:SE X G F e me)(ho:SE X G F ob mo)(hi:SE X G F ix mi)(hs:swapsWith e (some (.Subscript ob ix tpos)) pos.line X.env=pure false:=by rfl):
 SS X G F (.Assign [.Subscript ob ix tpos] e pos) (z4p me mo mi z0N):=by
 refine PS.imp0 (zcy (show X.A.units+2<cLine by lia) ho hi he hs) λDd σ H ⟨tv,h⟩=> ?_
 exact(z8u h).mono λv H1 h1=>h1.mono λo H2 h2=>h2.mono λi H3 ⟨ρ,s,t1,t2,t3,M,W⟩=>zd9 M W
end
end Mi
namespace Mi
open PySem L2
end Mi
namespace PySem
end PySem
namespace L2
open PySem PySem.Spec PyProof.Rows
end L2
namespace Mi
open PySem L2 PySem.Spec
section
variable{X:Cx}{G:Gx}{F:Fy}{a b e:Expr}{ma mb:M D}{pos:Pos}
theorem ss_setN{i:Nat}{x:Str}{p:Pos}{m:M D}(hN:X.N.Nodup)(hi:X.N[i]? =some x)(hx:Loc X.env.scope x)(hf:X.fn x=true\/X.env.scope.names.lookup x=some .local)(he:SE X G F e m)(hs:swapsWith e (some (.Name x p)) pos.line X.env=pure false:=by rfl):SS X G F (.Assign [.Name x p] e pos) (Q4 (.nm i) m):=
 ss_set (λ{te} h=>z5Z hN hi hx h hs hf) he
end
section
variable{G:Gx}{ρ:Nat->Addr}{H:Hp}
def zbA:List Str->List D->Str->Option D
 |n::ns,v::vs,f=>if n=f then some v else zbA ns vs f
 |_,_,_=>none
theorem z8G{f:Str}: ∀{fs:List (Str×V)} {vs:List D} {d:D},RDs G ρ H vs (fs.map (·.2))->zbA (fs.map (·.1)) vs f=some d->∃v,fs.lookup f=some v/\RD G ρ H d v/\d∈vs
 |[],vs,d,_,e=>by cases vs<;>simp[zbA] at e
 |(g,x)::fs,[],d,_,e=>by simp[zbA] at e
 |(g,x)::fs,w::vs,d,r,e=>by
  erw[c8,RDs] at r
  obtain⟨y,q,e1,h1,h2⟩:=r
  cases e1
  erw[c8,zbA] at e
  by_cases hg:g=f
  .rw[if_pos hg] at e;cases e
   exact⟨x,by simp[A5,hg],h1,e9 ..⟩
  .rw[if_neg hg] at e
   obtain⟨v,a,b,c⟩:=z8G h2 e
   refine⟨v, ?_,b,b7 _ c⟩
   have:(f==g)=false:=by simpa using λz:f=g=>hg z.symm
   simp[A5,this,a]
def z5x:List Str->List D->Str->D->List Str×List D
 |n::ns,v::vs,f,d=>if n=f then(n::ns,d::vs) else((n::(z5x ns vs f d).1),(v::(z5x ns vs f d).2))
 |_,_,f,d=>([f],[d])
theorem z8H{f:Str}{d:D}{v:V}(hd:RD G ρ H d v): ∀{fs:List (Str×V)} {vs:List D},RDs G ρ H vs (fs.map (·.2))->(z5x (fs.map (·.1)) vs f d).1=(z33 f v fs).map (·.1)/\RDs G ρ H (z5x (fs.map (·.1)) vs f d).2 ((z33 f v fs).map (·.2))
 |[],vs,r=>by
  erw[l7,z5x,z33,c8,true_and]
  exact RDs.one hd
 |(g,x)::fs,[],r=>by erw[c8,RDs] at r;cases r
 |(g,x)::fs,w::vs,r=>by
  erw[c8,RDs] at r
  obtain⟨y,q,e1,h1,h2⟩:=r
  cases e1
  erw[c8,z5x,z33]
  by_cases hg:g=f
  .rw[if_pos hg,if_pos hg]
   exact⟨rfl,by erw[c8,RDs];exact⟨_,_,rfl,hd,h2⟩⟩
  .rw[if_neg hg,if_neg hg]
   obtain⟨a,b⟩:=z8H (f:=f) hd h2
   exact⟨by erw[c8,a],by erw[c8,RDs];exact⟨_,_,rfl,h1,b⟩⟩
theorem z6l{f:Str}{d:D}: ∀{ns:List Str} {vs:List D} {e:D},e∈(z5x ns vs f d).2->e∈vs\/e=d
 |[],vs,e,h=>by erw[z5x,l5] at h;exact .inr h
 |n::ns,[],e,h=>by erw[z5x,l5] at h;exact .inr h
 |n::ns,v::vs,e,h=>by
  erw[z5x] at h
  split at h
  .rcases c9.mp h with z|z
   .exact .inr z
   .exact .inl (b7 _ z)
  .rcases c9.mp h with z|z
   .exact .inl (z▸e9 ..)
   .rcases z6l z with z|z
    .exact .inl (b7 _ z)
    .exact .inr z
end
def zed(f:Str)(ok:Str->Bool):D->M D
 | .obj _ c ns vs=>λs=>if ok c then(match zbA ns vs f with|some d=> .ok d s|none=> .no) else .no
 |_=>fl
def z7c(m:M D)(f:Str)(ok:Str->Bool):M D:=bd m (zed f ok)
section
variable{X:Cx}{G:Gx}{F:Fy}{e o value:Expr}{pos:Pos}
theorem se_fld{f:Str}{ok:Str->Bool}{m:M D}(he:SE X G F e m)(hc: ∀c C,G.cl c=some C->ok c=true->Cls X.K C/\v2 X.K C f)(hb:attributeBase e f X.env (eval e X.env)=eval e X.env:=by rfl):SE X G F (.Attribute e f pos) (z7c m f ok):=by
 refine PE.imp0 (zeG he hb) λ σ H Q ⟨tv,h⟩=>⟨tv,(z1K h).mono λv H1 ⟨ρ1,s1,t,M1,W⟩=> ?_⟩
 have hr:=M1.rd1
 cases t with
 |obj l c ns vs=>
  erw[zed] at W
  split at W
  .rename_i hok
   erw[RD] at hr
   obtain⟨rfl,C,dx,fs,hC,hH,rfl,r⟩:=hr
   cases ef:zbA (fs.map (·.1)) vs f with
   |none=>erw[ef] at W;exact False.elim W
   |some d=>
    erw[ef] at W
    obtain⟨v,lk,rd,mem⟩:=z8G r ef
    refine⟨_,C,dx,fs,v,rfl,hH,(hc c C hC hok).1,(hc c C hC hok).2,lk,W.out M1.m rd λj hj=>M1.lb j ?_⟩
    erw[labsL,y3,e7]
    exact b7 _ (labsL_mem mem j hj)
  .exact False.elim W
 |_=>exact False.elim W
end
section
variable{G:Gx}{F:Fy}{ρ:Nat->Addr}{H:Hp}{σv tv:List (Option V)}{s:Stt}{es:List D}{v:V}{l:Nat}{c:Str}{ns:List Str}{C dx:Addr}{fs fs':List (Str×V)}
theorem zaC{ds:List D}(M:MR G F.toFx ρ H σv tv s)(h:RD G ρ H (.obj l c ns ds) v)(lb: ∀j∈y3 (.obj l c ns ds),j<s.n):l∉labsL ds:=λhl=>by
 have h0:=h
 erw[RD] at h0
 obtain⟨rfl,C,dx,fs,_,_,_,r⟩:=h0
 have:=findL_some l ds _ r hl
 cases e:findL l ds with
 |none=>rw[e] at this;cases this
 |some d=>
  obtain⟨q1,q2⟩:=findL_rd l ds _ d r e
  have e2:=RD.uniq M.kd M.inj _ _ _ q1 h (λj hj=>lb j (by erw[y3];exact b7 _ (q2 j hj))) lb
  have e3:=findL_sz l ds d e
  rw[e2] at e3
  erw[sz] at e3
  lia
theorem z39{o':HO}{a:Addr}(e:H a=some (.ins C dx fs)):J5 H (upd H a o'):=
 ⟨λb ys q=>by rw[y4 (z0q q e (by intro z;cases z))];exact q,λb o u q=>by rw[y4 (z0q q e (by intro z;cases z))];exact q⟩
theorem MR.putO(M:MR G F.toFx ρ H σv tv s)(hl:H (ρ l)=some (.ins C dx fs))(hC:G.cl c=some C)(ln:l<s.n)(ow:F.A0 (ρ l)\/F.H0 (ρ l)=none)(en:ns=fs'.map (·.1))(r:RDs G ρ H es (fs'.map (·.2)))(lb:LB F.toFx ρ s.n (labsL es))(ne:l∉labsL es):
 MR G F.toFx ρ (upd H (ρ l) (.ins C dx fs')) σv tv (s.put l (.obj l c ns es)):=by
 refine M.put2 ln ow (z39 hl) (z6b M.kd hl) ?_ λj hj=> ?_
 .erw[RD]
  exact⟨trivial,C,dx,fs',hC,Z1,en,RDs.upd (a:=0) (z39 hl) M.inj ln r λj hj=>⟨(lb j hj).1,λz=>ne (z▸hj)⟩⟩
 .erw[y3] at hj
  rcases c9.mp hj with q|q
  .rw[q];exact⟨ln,ow⟩
  .exact lb j q
end
def z7d(f:Str)(ok:Str->Bool)(o v:D):MS:=λs=>match o with
 | .obj l c ns vs=>if ok c=true/\ns.length<1000/\l∉y3 v then .nx (s.put l (.obj l c (z5x ns vs f v).1 (z5x ns vs f v).2)) else .no
 |_=> .no
def zaD(me mo:M D)(f:Str)(ok:Str->Bool):MS:=z0w me λv=>z0w (psh v) λ_=>z0w mo λo=>z0w pop λv'=>z7d f ok o v'
section
variable{X:Cx}{G:Gx}{F:Fy}{e o value:Expr}{pos pos':Pos}
theorem ss_fld{f:Str}{ok:Str->Bool}{me mo:M D}(ho:SE X G F o mo)(he:SE X G F value me)(hc: ∀c C,G.cl c=some C->ok c=true->Cls X.K C/\v2 X.K C f)(hs:swapsWith value (some (.Attribute o f pos')) pos.line X.env=pure false:=by rfl):SS X G F (.Assign [.Attribute o f pos'] value pos) (zaD me mo f ok):=by
 refine PS.imp0 (zeH ho he hs) λDd σ H ⟨tv,h⟩=>⟨tv,(z0j h).mono λv H1 ⟨ρ1,s1,t,M1,W⟩=> ?_⟩
 refine⟨some v::tv,z7w h.1,ρ1,s1.psh t,M1.push, ?_⟩
 erw[z0w,psh] at W
 cases e1:mo (s1.psh t) with
 |ex d s2=>erw[e1] at W;exact W
 |no=>erw[e1] at W;exact W
 |ok ob s2=>
  erw[e1,pop] at W
  intro ρ2 u H2 M2
  cases e3:s2.tm with
  |nil=>erw[e3] at W;exact False.elim W
  |cons o3 r3=>
   cases o3 with
   |none=>erw[e3] at W;exact False.elim W
   |some x3=>
    erw[e3] at W
    have M4:=M2.down e3
    have h:=M4.rd
    erw[RDs] at h
    obtain⟨_,_,e,h1,_,_,e2,h2,_⟩:=h
    cases e;cases e2
    have b1:LB F.toFx ρ2 s2.n (y3 x3):=λl h=>M4.lb l (by erw[labsL];exact b8 _ h)
    have b2:LB F.toFx ρ2 s2.n (y3 ob):=λl h=>M4.lb l (by erw[labsL,e7];exact b6 _ h)
    cases ob with
    |obj l c ns vs=>
     erw[z7d] at W
     split at W
     .rename_i hq
      have h2':=h2
      erw[RD] at h2
      obtain⟨rfl,C,dx,fs,hC,hH,rfl,r⟩:=h2
      have ns:=zaC M4.m h2' λj hj=>(b2 j hj).1
      have bl:=b2 l (by erw[y3];exact e9 ..)
      obtain⟨p1,p2⟩:=z8H (f:=f) h1 r
      have mm: ∀q,q∈labsL (z5x (fs.map (·.1)) vs f x3).2->q∈labsL vs\/q∈y3 x3:=λq hq=>by
       obtain⟨d,h1,h2⟩:=g7 hq
       rcases z6l h1 with z|z
       .exact .inl (labsL_mem z q h2)
       .subst z;exact .inr h2
      refine⟨_,C,dx,fs,rfl,hH,(hc c C hC hq.1).1,(hc c C hC hq.1).2,by simpa using hq.2.1,W ρ2 σ _ (M4.m.putO hH hC bl.1 bl.2 p1 p2 (λq hq=> ?_) λz=> ?_)⟩
      .rcases mm q hq with z|z
       .exact b2 q (by erw[y3];exact b7 _ z)
       .exact b1 q z
      .rcases mm l z with z|z
       .exact ns z
       .exact hq.2.2 z
     .exact False.elim W
    |_=>exact False.elim W
end
def objC(cn m:Str):D->Bool
 | .obj _ c ns _=>c==cn&& !(ns.contains m)
 |_=>false
def zaE(f:FM)(ms:List (M D))(x:D):M D:=bd (psh x) λ_=>bd (Z7 ms) λys=>bd pop λx' s=>X3 (f (x'::ys) s.n) (x'::ys) s
def z6m(cn m:Str)(f:FM)(mo:M D)(ms:List (M D)):M D:=bd mo λx=>if objC cn m x then zaE f ms x else fl
theorem z2n{m:Str}: ∀{fs:List (Str×V)},(fs.map (·.1)).contains m=false->fs.lookup m=none
 |[],_=>rfl
 |(g,x)::fs,h=>by
  erw[c8,I0,Bool.or_eq_false_iff] at h
  erw[A5,h.1]
  exact z2n h.2
section
variable{X:Cx}{G:Gx}{F:Fy}{CX:CXT}{k:Nat}{fa C:Addr}{fd:FuncData}{ps:List Str}{E:XK}{f:FM}{cn m:Str}{mo:M D}{ms:List (M D)}{o e:Expr}{es:List Expr}{pos apos:Pos}{pl:Sem Bool}
theorem z8I{σ:L2.St}{H:Hp}{Q:VK}(hC:G.cl cn=some C)(hln:ms.length+1=ps.length)(h:tM G F (z6m cn m f mo ms) σ H Q):
 zcl C m (spM G ps.length f) [] E (tM G F mo) (tML G F (Z7 ms)) σ H Q:=by
 obtain⟨tv,h⟩:=h
 refine⟨tv,(z1K h).mono λv H1 ⟨ρ1,s1,t,M1,W⟩=> ?_⟩
 have hr:=M1.rd1
 cases t with
 |obj l c ns vs=>
  split at W
  .rename_i hq
   erw[objC,b9,beq_iff_eq,D9] at hq
   erw[RD] at hr
   obtain⟨rfl,C',dx,fs,hC',hH,rfl,r⟩:=hr
   have eC:C'=C:=by rw[hq.1,hC] at hC';exact(Option.some.inj hC').symm
   subst eC
   refine⟨_,dx,fs,rfl,hH,z2n hq.2,some (.ref (ρ1 l))::tv,z7w h.1,ρ1,s1.psh _,M1.push, ?_⟩
   erw[zaE,bd,psh] at W
   cases e2:Z7 ms (s1.psh (.obj l c (fs.map (·.1)) vs)) with
   |ex d s2=>erw[e2] at W;exact W
   |no=>erw[e2] at W;exact W
   |ok ys s2=>
    erw[e2,pop] at W
    intro ρ2 us H2 M2
    cases e3:s2.tm with
    |nil=>erw[e3] at W;exact False.elim W
    |cons o3 r3=>
     cases o3 with
     |none=>erw[e3] at W;exact False.elim W
     |some x3=>
      erw[e3] at W
      rw[e7]
      refine z0K ?_ (M2.down e3) W
      rw[i0,<-M2.rd.length,z05 ms _ ys s2 e2,hln]
  .exact wfl W
 |_=>exact False.elim W
theorem se_mth(hC:G.cl cn=some C)(c:Cls X.K C)(hm:z7u X.K C m fa)(Fn:FnOk X.prog X.w X.K X.mg X.base CX k fa fd ps (spM G ps.length f))(hr:U9 k X.A)(hb:J4 X.K fd ps [])(hx:Q6 CX X E)(ho:SE X G F o mo)(ha:SA X G F (e::es) (Z7 ms))(hln:ms.length+1=ps.length)
 (hst:starEach (e::es) X.env=(false,eval e X.env)::starEach es X.env:=by rfl) (hpl:(backTo pos (starEach es X.env)).any (·.1)=false:=by rfl)
 (ht:eval (.Call (.Attribute o m apos) (e::es) [] pos) X.env=(do
  let ov<-eval o X.env
  standAt apos.atName
  let(f,first)<-holding [ov] (getMethod ov m pl)
  callWith pos f first (backTo pos (starEach (e::es) X.env)) (backToKw pos (keywordEach [] X.env))):=by rfl):SE X G F (.Call (.Attribute o m apos) (e::es) [] pos) (z6m cn m f mo ms):=
 PE.imp0 (zcn ho c hm Fn hr hb .nil hx ha hst hpl ht) λ σ H Q h=>z8I hC hln h
theorem se_mth0(hC:G.cl cn=some C)(c:Cls X.K C)(hm:z7u X.K C m fa)(Fn:FnOk X.prog X.w X.K X.mg X.base CX k fa fd ps (spM G ps.length f))(hr:U9 k X.A)(hb:J4 X.K fd ps [])(hx:Q6 CX X E)(ho:SE X G F o mo)(hln:1=ps.length)
 (ht:eval (.Call (.Attribute o m apos) [] [] pos) X.env=(do
  let ov<-eval o X.env
  standAt apos.atName
  let(f,first)<-holding [ov] (getMethod ov m pl)
  callWith pos f first (backTo pos (starEach [] X.env)) (backToKw pos (keywordEach [] X.env))):=by rfl):SE X G F (.Call (.Attribute o m apos) [] [] pos) (z6m cn m f mo []):=
 PE.imp0 (z9Q ho c hm Fn hr hb .nil hx ht) λ σ H Q h=>by
  obtain⟨tv,h⟩:=z8I (ps:=ps) (E:=E) hC (by simpa using hln) h
  refine⟨tv,h.mono λv H1 ⟨a,dx,fs,e1,e2,e3,tv1,hs,ρ1,s1,M1,W⟩=>⟨a,dx,fs,e1,e2,e3, ?_⟩⟩
  exact W ρ1 [] H1 ⟨M1,rfl,λl h=>by simp[labsL] at h⟩
end
def zjG(K:W.Frag)(np:Nat)(sp:Sp):Sp:=λvs H Q E=>vs.length=np/\(KD K H->sp vs H Q E)
theorem zi8{P:Program}{w:World}{K:W.Frag}{mg:Str->Option Value}{base:Heap}{CX:CXT}{k:Nat}{fa:Addr}{fd:FuncData}{ps:List Str}{sp:Sp}(F:FnOk P w K mg base CX k fa fd ps sp):FnOk P w K mg base CX k fa fd ps (zjG K ps.length sp):=
 ⟨λ_ _ _ _ h=>h.1,λA outer s H args us vs Q E hr e0 hb hv h=>F.run A outer s H args us vs Q E hr e0 hb hv (h.2 λa o e=>(e0.bs a o (e0.mod.kin a o e)).2)⟩
def mkK(cn:Str)(f:FM)(ys:List D):M D:=λs=>bd (λs'=>X3 (f (.obj s.n cn [] []::ys) s'.n) (.obj s.n cn [] []::ys) s') (λt=>match t with| .non=>pop|_=>fl) (s.nxt.psh (.obj s.n cn [] []))
def z5y(cn:Str)(f:FM)(ms:List (M D)):M D:=bd (Z7 ms) (mkK cn f)
section
variable{X:Cx}{G:Gx}{F:Fy}{CX:CXT}{k:Nat}{fa C:Addr}{fd:FuncData}{ps:List Str}{E:XK}{f:FM}{cn x:Str}{ms:List (M D)}{e:Expr}{es:List Expr}{pos p:Pos}
theorem zaF{σ:L2.St}{H:Hp}{Q:VK}(hC:G.cl cn=some C)(hln:ms.length+1=ps.length)(h:tM G F (z5y cn f ms) σ H Q):
 zeL C (zjG G.K ps.length (spM G ps.length f)) [] E (tML G F (Z7 ms)) σ H Q:=by
 obtain⟨tv,hs,ρ,s,M,W⟩:=h
 refine⟨tv,hs,ρ,s,M, ?_⟩
 unfold z5y bd at W
 cases e1:Z7 ms s with
 |ex d s1=>rw[e1] at W;exact W
 |no=>rw[e1] at W;exact W
 |ok ys s1=>
  rw[e1] at W
  intro ρ1 vs H1 M1 a dx ha hdx hne
  rw[e7]
  have hl:(V.ref a::vs).length=ps.length:=by rw[i0,<-M1.rd.length,z05 ms s ys s1 e1,hln]
  refine⟨hl,λkd=> ?_⟩
  have sm:G5 H1 (upd H1 dx (.own a)):=G5.new _ hdx
  have ha':upd H1 dx (.own a) a=none:=by rw[y4 (λz=>hne z.symm)];exact ha
  have sm2:G5 (upd H1 dx (.own a)) (upd (upd H1 dx (.own a)) a (.ins C dx [])):=G5.new _ ha'
  have kd1:KD G.K (upd H1 dx (.own a)):=λb ob q=>by
   have:=kd b ob q
   by_cases z:b=a
   .subst z;rw[Z1] at this;cases this
   .rw[y4 z] at this;exact this
  have ho:RD G (ext ρ1 s1.n a) (upd (upd H1 dx (.own a)) a (.ins C dx [])) (.obj s1.n cn [] []) (.ref a):=by
   erw[RD]
   exact⟨by rw[W9],C,dx,[],hC,by rw[W9];exact Z1,rfl,by erw[l7,RDs]⟩
  have M2:=(M1.m.same sm kd1).newPush (t:= .obj s1.n cn [] []) ha' kd ho λl hl=>by erw[y3,labsL,l5] at hl;exact .inr hl
  have ML:MRL G F.toFx (ext ρ1 s1.n a) (upd (upd H1 dx (.own a)) a (.ins C dx [])) σ (some (.ref a)::tv) (s1.nxt.psh (.obj s1.n cn [] [])) (.obj s1.n cn [] []::ys) (.ref a::vs):=by
   refine⟨M2, ?_,λl hl=> ?_⟩
   .erw[RDs]
    exact⟨_,_,rfl,ho,RDs.stay (J5.of λb o q=>sm2 b o (sm b o q)) ys vs M1.rd λl hl=>⟨Y7 (M1.lb l hl).1,λo q=>sm2 _ o (sm _ o q)⟩⟩
   .erw[labsL,y3,l9,m5,c9] at hl
    rcases hl with rfl|hl
    .exact⟨s0 _,by rw[W9];exact .inr (M1.m.fresh0 ha)⟩
    .refine⟨A9 (M1.lb l hl).1, ?_⟩
     rw[Y7 (M1.lb l hl).1];exact(M1.lb l hl).2
  refine z0K hl ML ?_
  have W:wM G F σ tv (mkK cn f ys s1) Q:=W
  unfold mkK bd at W
  dsimp only at W
  cases e2:X3 (f (.obj s1.n cn [] []::ys) (s1.nxt.psh (.obj s1.n cn [] [])).n) (.obj s1.n cn [] []::ys) (s1.nxt.psh (.obj s1.n cn [] [])) with
  |ex d s3=>rw[e2] at W;exact W
  |no=>rw[e2] at W;exact W
  |ok t s3=>
   rw[e2] at W
   intro ρ3 v H3 M3
   cases t with
   |non=>
    have hv:=M3.rd1
    erw[RD] at hv
    refine⟨hv, ?_⟩
    dsimp only[pop] at W
    cases e3:s3.tm with
    |nil=>erw[e3] at W;exact False.elim W
    |cons o3 r3=>
     cases o3 with
     |none=>erw[e3] at W;exact False.elim W
     |some x3=>
      erw[e3] at W
      have M4:=M3.down e3
      have h:=M4.rd
      erw[RDs] at h
      obtain⟨_,_,e,h1,_⟩:=h
      cases e
      exact W.out M4.m h1 λl hl=>M4.lb l (by erw[labsL];exact b8 _ hl)
   |_=>exact False.elim W
theorem se_make0(hk:X.K=G.K)(hC:G.cl cn=some C)(Mk:Mk X.K C fa)(Fn:FnOk X.prog X.w X.K X.mg X.base CX k fa fd ps (spM G ps.length f))(hr:U9 (k+1) X.A)(hg:Gl X x)(hm:X.mg x=some (.ref C))(hb:J4 X.K fd ps [])(hx:Q6 CX X E)
 (hln:1=ps.length) (hdb:(x==("__debug__" :Str))=false:=by decide):SE X G F (.Call (.Name x p) [] [] pos) (z5y cn f []):=
 PE.imp0 (z9S Mk (zi8 Fn) hr hg hm hb .nil hx hdb) λ σ H Q h=>by
  rw[hk]
  obtain⟨tv,hs,ρ,s,M,W⟩:=zaF (ps:=ps) (E:=E) hC (by simpa using hln) h
  exact W ρ [] H ⟨M,rfl,λl h=>by simp[labsL] at h⟩
end
def zbB(C:Addr)(m:Str)(sp:Sp)(E:L2.St->XK)(ta:TE)(t:TA):TE:=λ σ H Q=>ta σ H λx H1=> ∃a dx fs,x= .ref a/\H1 a=some (.ins C dx fs)/\fs.lookup m=none/\
 t σ H1 λvs H2=>sp (x::vs) H2 Q (E σ)
section
variable{X:Cx}{k:Nat}{f C:Addr}{fd:FuncData}{ps:List Str}{sp:Sp}{E:L2.St->XK}{m:Str}{pos apos:Pos}{e o:Expr}{es:List Expr}{ta:TE}{t:TA}{pl:Sem Bool}
theorem zda{pins:List (Addr×Obj)}{σ:L2.St}{H:Hp}{s:Shared}{Q:VK}{us:List Value}{vs:List V}(F:FnOk X.prog X.w X.K X.mg X.base (CX1 X.prog X.w) k f fd ps sp)(hr:U9 k X.A)(hb:J4 X.K fd ps [])(hx:zd1 X E)
 (I1:Inv X pins σ H s) (r:W0 vs us) (q:sp vs H Q (E σ)):wpAny (model X.prog X.w) X.A (call (.ref f) us) (EP X pins σ Q) X.xe s:=by
 have hl:us.length=ps.length:=by rw[<-r.length];exact F.len _ _ _ _ q
 have hb2:=hb s us I1.kIn (by rw[e7];exact hl)
 rw[e7] at hb2
 refine wpAny_call (codeAny_mono (F.run X.A X.stack s H ⟨us,[]⟩ us vs Q (E σ) hr I1.env0 hb2 r q) λr s' hq=> ?_)
 cases r with
 |error e=>exact hx pins σ H s e s' I1 hq
 |ok fl=>
  cases fl with
  |ret u=>exact I1.after hq
  |next=>exact False.elim hq
  |brk=>exact False.elim hq
  |cont=>exact False.elim hq
theorem zaG(he:PE X o ta)(c:Cls X.K C)(hm:z7u X.K C m f)(F:FnOk X.prog X.w X.K X.mg X.base (CX1 X.prog X.w) k f fd ps sp)(hr:U9 k X.A)(hb:J4 X.K fd ps [])(hx:zd1 X E)(ha:PA X (e::es) t)
 (hst:starEach (e::es) X.env=(false,eval e X.env)::starEach es X.env:=by rfl) (hpl:(backTo pos (starEach es X.env)).any (·.1)=false:=by rfl)
 (ht:eval (.Call (.Attribute o m apos) (e::es) [] pos) X.env=(do
  let ov<-eval o X.env
  standAt apos.atName
  let(f,first)<-holding [ov] (getMethod ov m pl)
  callWith pos f first (backTo pos (starEach (e::es) X.env)) (backToKw pos (keywordEach [] X.env))):=by rfl):
 PE X (.Call (.Attribute o m apos) (e::es) [] pos) (zbB C m sp E ta t):=by
 intro pins s σ H Q I h
 refine W.methodCall_KW (pl:=pl) (thn (he pins s σ H _ I h) λu s1 ⟨x,H1,I1,rx,a,dx,fs,ex,ea,l,q⟩=> ?_) ht
 subst ex
 obtain rfl:u=Value.ref a:=rx
 refine z1g I1 ea c hm l ?_
 exact W.callWith_K (first:=[.ref a]) (h₀:=X.base) I.ok.mod.kin hm.kp (thn (ha pos pins s1 σ H1 _ I1 q) λus s2 ⟨vs,H2,I2,r,q2⟩=>⟨I2.kIn,zda (us:= .ref a::us) (vs:= .ref a::vs) F hr hb hx I2 (.cons rfl r) q2⟩) hst hpl
end
def z6n(f:FM)(ms:List (M D))(x:D):M D:=bd (psh x) λ_=>bd (Z7 ms) λys=>bd pop λx' s=>z0L (f (x'::ys) s.n) (x'::ys) s
def z5z(cn m:Str)(f:FM)(mo:M D)(ms:List (M D)):M D:=bd mo λx=>if objC cn m x then z6n f ms x else fl
section
variable{X:Cx}{G:Gx}{F:Fy}{k:Nat}{fa C:Addr}{fd:FuncData}{ps:List Str}{E:L2.St->XK}{f:FM}{cn m:Str}{mo:M D}{ms:List (M D)}{o e:Expr}{es:List Expr}{pos apos:Pos}{pl:Sem Bool}
theorem zaH{σ:L2.St}{H:Hp}{Q:VK}(hx:XP X G F E)(hC:G.cl cn=some C)(hln:ms.length+1=ps.length)(h:tM G F (z5z cn m f mo ms) σ H Q):
 zbB C m (spX G ps.length f) E (tM G F mo) (tML G F (Z7 ms)) σ H Q:=by
 obtain⟨tv,h⟩:=h
 refine⟨tv,(z1K h).mono λv H1 ⟨ρ1,s1,t,M1,W⟩=> ?_⟩
 have hr:=M1.rd1
 cases t with
 |obj l c ns vs=>
  split at W
  .rename_i hq
   erw[objC,b9,beq_iff_eq,D9] at hq
   erw[RD] at hr
   obtain⟨rfl,C',dx,fs,hC',hH,rfl,r⟩:=hr
   have eC:C'=C:=by rw[hq.1,hC] at hC';exact(Option.some.inj hC').symm
   subst eC
   refine⟨_,dx,fs,rfl,hH,z2n hq.2,some (.ref (ρ1 l))::tv,z7w h.1,ρ1,s1.psh _,M1.push, ?_⟩
   erw[z6n,bd,psh] at W
   cases e2:Z7 ms (s1.psh (.obj l c (fs.map (·.1)) vs)) with
   |ex d s2=>erw[e2] at W;exact W
   |no=>erw[e2] at W;exact W
   |ok ys s2=>
    erw[e2,pop] at W
    intro ρ2 us H2 M2
    cases e3:s2.tm with
    |nil=>erw[e3] at W;exact False.elim W
    |cons o3 r3=>
     cases o3 with
     |none=>erw[e3] at W;exact False.elim W
     |some x3=>
      erw[e3] at W
      refine z7a hx h.1 ?_ (M2.down e3) W
      rw[i0,<-M2.rd.length,z05 ms _ ys s2 e2,hln]
  .exact wfl W
 |_=>exact False.elim W
theorem se_mthX(hx:XP X G F E)(hC:G.cl cn=some C)(c:Cls X.K C)(hm:z7u X.K C m fa)(Fn:FnOk X.prog X.w X.K X.mg X.base (CX1 X.prog X.w) k fa fd ps (spX G ps.length f))(hr:U9 k X.A)(hb:J4 X.K fd ps [])(ho:SE X G F o mo)(ha:SA X G F (e::es) (Z7 ms))(hln:ms.length+1=ps.length)
 (hst:starEach (e::es) X.env=(false,eval e X.env)::starEach es X.env:=by rfl) (hpl:(backTo pos (starEach es X.env)).any (·.1)=false:=by rfl)
 (ht:eval (.Call (.Attribute o m apos) (e::es) [] pos) X.env=(do
  let ov<-eval o X.env
  standAt apos.atName
  let(f,first)<-holding [ov] (getMethod ov m pl)
  callWith pos f first (backTo pos (starEach (e::es) X.env)) (backToKw pos (keywordEach [] X.env))):=by rfl):SE X G F (.Call (.Attribute o m apos) (e::es) [] pos) (z5z cn m f mo ms):=
 PE.imp0 (zaG ho c hm Fn hr hb hx.ps ha hst hpl ht) λ σ H Q h=>zaH hx hC hln h
end
theorem zdb{K:W.Frag}{C:Addr}(c:Cls K C):NSq K C:=by
 have h:=c.hd
 unfold W.hasDictIn W.clsIn at h
 split at h
 .rename_i ho
  exact⟨_,ho,λits n z=>by cases z⟩
 .cases h
def stC(s:Stmt)(j:Nat):Stmt:=match s with
 | .ClassDef _ _ _ b .. =>b.getD j (.Pass ⟨0,0,0,0⟩)
 |s=>s
structure Dm(K:W.Frag)(C:Addr)(x qual:Str)(st:Stmt)(ps:List Str) where
 f:Addr
 d:FuncData
 F:Fun K x qual st f d
 b:J4 K d ps []
 h:z7u K C x f
end Mi
namespace Mi
open PySem L2 PySem.Spec PyProof.Rows
end Mi
namespace Mi
open PySem L2 PySem.Spec PySem.SeqAt PySem.Calls PyProof.Rows
end Mi
namespace Mi
open PySem L2 PySem.Spec PyProof.Rows
section
variable{X:Cx}{G:Gx}{F:Fy}
theorem RDs.at'{ρ:Nat->Addr}{H:Hp}: ∀{ds:List D} {xs:List V} {i:Nat} {d:D},RDs G ρ H ds xs->ds[i]? =some d->∃x,xs[i]? =some x/\RD G ρ H d x
 |[],xs,i,d,h,e=>by simp at e
 |d::ds,xs,0,d',h,e=>by erw[RDs] at h;obtain⟨x,q,rfl,h1,_⟩:=h;simp at e;subst e;exact⟨x,rfl,h1⟩
 |d::ds,xs,i+1,d',h,e=>by
  erw[RDs] at h
  obtain⟨x,q,rfl,h1,h2⟩:=h
  erw[List.getElem?_cons_succ] at e⊢
  exact RDs.at' h2 e
def zaI:List D->M D
 |[.tup ds]=>if zi2 ds=true then rt (.str (er (.tup ds)).shown) else fl
 |[.lst l ds]=>if(plainL ds&&(er (.lst l ds)).showable&&decide ((er (.lst l ds)).depth<=60)&&decide ((er (.lst l ds)).shown.length<=sizeLine))=true then rt (.str (er (.lst l ds)).shown) else fl
 |_=>fl
theorem zfT:J6 G F (zhY G.K) zaI:=by
 intro ρ s ts vs H σv tv Q M W
 unfold zaI at W
 split at W
 .rename_i ds
  exact zfB ρ s [.tup ds] vs H σv tv Q M W
 .rename_i l ds
  split at W
  .rename_i hc
   erw[b9,decide_eq_true_eq] at hc
   obtain⟨⟨⟨c1,c2⟩,c3⟩,c4⟩:=hc
   obtain⟨v,rfl,h,_⟩:=M.one
   obtain⟨p,xs,rfl,s1,r1,_⟩:=id (h.lstq (ds:=ds) rfl)
   exact⟨p,er (.lst l ds),rfl,RD.dp _ _ h (by erw[plain];exact c1),z2h _,c2,c3,c4,λ_=>W.flat M.m rfl⟩
  .exact wfl W
 .exact wfl W
theorem zbC(hk:X.K=G.K)(hg:X.A.guards=some [])(hu:X.A.units+64<cLine):Cb X G F (.builtin "repr") zaI:=⟨_,hk▸z75 hg hu,zfT⟩
end
end Mi
namespace L2
open PySem PySem.Spec PyProof.Rows
end L2
namespace Mi
open PySem L2
def sNo:MS:=λ_=> .no
section
variable{X:Cx}{G:Gx}{F:Fy}{st:Stmt}
theorem ss_no:SS X G F st sNo:=λpins s σ H D I h=>by
 obtain⟨tv,hs,ρ,s,M,W⟩:=h
 exact False.elim W
end
end Mi
namespace Mi
open PySem L2 PySem.Spec PyProof.Rows PySem F P
end Mi
namespace L2
open PySem PySem.Spec PyProof.Rows
section
variable{X:Cx}
def zee(ds:List PyData)(i j:Nat):Bool:=(So.ltD (ds.getD i .none) (ds.getD j .none)).getD false
theorem z06{h:Heap}: ∀{its:List Value} {ds:List PyData} {as:List Addr},ReadsAll h its ds as->∀i (hi:i<its.length),∃bs,Reads h its[i] (ds.getD i .none) bs/\ds.getD i .none∈ds
 |v::its,d::ds,_, .cons r rs,0,_=>⟨_,r,by simp⟩
 |v::its,d::ds,_, .cons r rs,i+1,hi=>by
  obtain⟨bs,h1,h2⟩:=z06 rs i (by simpa using hi)
  exact⟨bs,by simpa using h1,by simpa using Or.inr h2⟩
theorem z4z{ys:List V}{its:List Value}(h:W0 ys its): ∀(q:List Nat),(∀i∈q,i<its.length)->W0 (q.map λi=>ys.getD i .non) (q.map λi=>its.getD i Value.none)
 |[],_=> .nil
 |i::q,hq=>by
  refine .cons ?_ (z4z h q λj hj=>hq j (b7 _ hj))
  have hi:=hq i e9
  clear hq
  induction h generalizing i with
  |nil=>simp at hi
  |cons r t ih=>
   cases i with
   |zero=>simpa using r
   |succ i=>simpa using ih i (by simpa using hi)
end
end L2
namespace Mi
open PySem L2 PySem.Spec PyProof.Rows
section
variable{X:Cx}{G:Gx}{F:Fy}
theorem RDs.len2{ρ:Nat->Addr}{H:Hp}: ∀{ds:List D} {xs:List V},RDs G ρ H ds xs->ds.length=xs.length
 |[],xs,h=>by erw[RDs] at h;subst h;rfl
 |d::ds,xs,h=>by erw[RDs] at h;obtain⟨x,q,rfl,_,h2⟩:=h;rw[i0,i0,RDs.len2 h2]
theorem RDs.perm{ρ:Nat->Addr}{H:Hp}{ds:List D}{xs:List V}(h:RDs G ρ H ds xs): ∀q:List Nat,(∀i∈q,i<ds.length)->RDs G ρ H (q.map λi=>ds.getD i .non) (q.map λi=>xs.getD i .non)
 |[],_=>by erw[l7,RDs]
 |i::q,hq=>by
  erw[c8,RDs]
  refine⟨_,_,rfl, ?_,RDs.perm h q λj hj=>hq j (b7 _ hj)⟩
  have hi:=hq i e9
  obtain⟨x,ex,rx⟩:=RDs.at' (i:=i) (d:=ds.getD i .non) h (by simp[hi])
  rw[show xs.getD i .non=x by rw[List.getD_eq_getElem?_getD,ex];rfl]
  exact rx
theorem z4A{ds:List D}(h:labsL ds=[]): ∀q:List Nat,labsL (q.map λi=>ds.getD i .non)=[]
 |[]=>by erw[l7,labsL]
 |i::q=>by
  erw[c8,labsL]
  rw[z4A h q,e7]
  have gen: ∀(ds:List D) (i:Nat),labsL ds=[]->y3 (ds.getD i .non)=[]:=by
   intro ds
   induction ds with
   |nil=>intro i _;simp[y3]
   |cons d ds ih=>
    intro i h
    erw[labsL,B2] at h
    cases i with
    |zero=>simpa using h.1
    |succ i=>simpa using ih i h.2
  exact gen ds i h
end
end Mi
namespace L2
open PySem PySem.Spec PyProof.Rows
end L2
namespace Mi
open PySem L2 PySem.Spec PyProof.Rows
end Mi
namespace L2
open PySem PySem.Spec PyProof.Rows
end L2
namespace Mi
open PySem L2
end Mi
namespace So
open PySem PySem.W PyProof.Rows PySem.SeqAt
end So
namespace L2
open PySem PySem.Spec PyProof.Rows
end L2
namespace Mi
open PySem L2 PySem.Spec PyProof.Rows
end Mi
namespace PySem
section
variable{prog:Program}{w:World}{A:Around}{E:Value->Shared->Prop}{s:Shared}
theorem z8J{d:Addr}{Q:Value->Shared->Prop}(hd:(d==sysModules)=false)(hT:s.TypeIs (.ref d) "dict")(hQ: ∀h',h'.IsItemsView s.heap.objs.size d->(∀b o,s.heap.get? b=some o->h'.get? b=some o)->Q (.ref s.heap.objs.size) {s with heap:=h'}):wpAny (model prog w) A (call (.builtin "dict.items") [.ref d]) Q E s:=by
 refine wpAny_call_entry F.slot_dict_items hT F.entry_dict_items ?_ (F.args_dict_items_1 _)
 unfold Builtin.«dict.items» Builtin.Dict.noArgs
 refine wpAny_bind (wpAny_bind (wpAny_notOrdered_dict hT (show wpAny _ _ (pure d) _ _ s from wpAny_pure ?_)))
 unfold Builtin.Dict.showsAll
 rw[if_neg (by rw[hd];exact i5)]
 exact wpAny_bind (wpAny_pure (wpAny_bind (wpAny_newObj_type (wpAny_pure ⟨_,rfl,hQ _ ⟨_,Heap.get?_push_size _ rfl,rfl,rfl⟩ λ_ _ q=>Heap.get?_push_of_some _ q⟩))))
theorem z8K{v d:Addr}{o:Obj}{es:Array DictEntry}{ep:Nat}{Q:Value->Shared->Prop}(hv:s.heap.IsItemsView v d)(ho:s.heap.get? d=some o)(hdat:o.data= .dict es ep)
 (hQ: ∀h',IsItemIter h' s.heap.objs.size d 0 es.size ep .none .none->(∀b o,s.heap.get? b=some o->h'.get? b=some o)->Q (.ref s.heap.objs.size) {s with heap:=h'}):wpAny (model prog w) A (pyIter (.ref v)) Q E s:=by
 obtain⟨ov,hov,hcv,hdv⟩:=id hv
 have hown:Builtin.Dict_items.ownsTuple "dict_itemiterator" =true:=by decide
 refine wpAny_pyIter_slot hv.typeIs F.slot_dict_items_iter (wpAny_call_entry F.slot_dict_items_iter hv.typeIs F.entry_dict_items_iter ?_ (F.args_dict_items_iter_1 _))
 unfold Builtin.«dict_items.__iter__» Builtin.Dict_items.dictOf Builtin.Dict_items.newIterator
 refine wpAny_bind (wpAny_pure (wpAny_bind (wpAny_bind (wpAny_field hov hdv (x:= .ref d) rfl ?_))))
 refine wpAny_pure (wpAny_bind (wpAny_bind (wpAny_dictEntries ho hdat (wpAny_bind (wpAny_dictEpoch ho hdat ?_)))))
 erw[hown,if_true]
 refine wpAny_newObj_type (wpAny_pure ?_) (by erw[sizeOk,Builtin.Dict_items.ownedTupleFields,i3,l3,i0,n8,sizeLine_eq];lia)
 refine⟨_,rfl, "dict_itemiterator",_,⟨_,Heap.get?_push_size _ rfl,rfl⟩,F.slot_dict_itemiterator_next.lookup,hQ _ ?_ λ_ _ q=>Heap.get?_push_of_some _ q⟩
 have:=Heap.get?_push_size s.heap (o:={cls:= .type "dict_itemiterator",data:= .fields #[.none, .bool false, .ref d, .int 0 0, .int es.size 0, .int ep 0, .none, .none]}) rfl
 unfold IsItemIter
 simpa[rawInt,Builtin.Dict_items.ownedTupleFields] using this
theorem z8L{it d:Addr}{i ep:Nat}{od:Obj}{es:Array DictEntry}{en:DictEntry}{ok ov:Value}{Q:Option Value->Shared->Prop}(hit:IsItemIter s.heap it d i es.size ep ok ov)(hod:s.heap.get? d=some od)(hdd:od.data= .dict es ep)(hx:es[i]? =some en)
 (hQ: ∀h',IsItemIterOut h' it d (i+1) es.size ep en.key en.val s.heap.objs.size->h'.get? s.heap.objs.size=some {cls:= .type "tuple",data:= .seq #[en.key,en.val]}->(∀b o,b≠it->s.heap.get? b=some o->h'.get? b=some o)->Q (some (.ref s.heap.objs.size)) {s with heap:=h'}):
 wpAny (model prog w) A (pyNext (.ref it)) Q E s:=by
 obtain⟨hp,g,dr,tk,os⟩:=s
 have hT:Shared.TypeIs ⟨hp,g,dr,tk,os⟩ (.ref it) "dict_itemiterator" :=⟨_,hit,rfl⟩
 have hown:Builtin.Dict_items.ownsTuple "dict_itemiterator" =true:=by decide
 have hlt:i<es.size:=by
  rcases R0 i es.size with h|h
  .exact h
  .simp[Array.getElem?_eq_none h] at hx
 have hen:es[i]=en:=by rw[Array.getElem?_eq_getElem hlt] at hx;exact Option.some.inj hx
 unfold pyNext
 refine wpAny_bind (wpAny_attempt (wpAny_callSpecial?_slot (name:=Str.ofString "__next__") hT F.slot_dict_itemiterator_next (wpAny_call_entry F.slot_dict_itemiterator_next hT F.entry_dict_itemiterator_next ?_ (F.args_dict_itemiterator_next_1 _))))
 refine wpAny_bind (wpAny_pure (wpAny_bind (wpAny_bind ?_)))
 first|refine wpAny_bind (wpAny_typeNameOfWhole_itemiter hT (wpAny_pure (wpAny_bind (wpAny_fieldsOf hit rfl ?_))))|refine wpAny_bind (wpAny_typeNameOf_itemiter hT (wpAny_pure (wpAny_bind (wpAny_fieldsOf hit rfl ?_))))
 erw[hown,if_true]
 show wpAny _ _ (if(Value.ref d==Value.none)=true then _ else _) _ _ _
 rw[if_neg (show ¬((Value.ref d==Value.none)=true) from i5)]
 refine wpAny_bind (wpAny_pure (wpAny_bind (wpAny_dictEntries hod hdd ?_)))
 rw[if_neg (by simp)]
 refine wpAny_bind (wpAny_pure (wpAny_bind (wpAny_dictEpoch hod hdd ?_)))
 rw[if_neg (by simp)]
 refine wpAny_pure ?_
 erw[show ¬((i:Int)<0) from by lia,if_false,C9,Array.getElem?_eq_getElem hlt,hen]
 refine wpAny_bind ?_
 first|refine wpAny_bind (wpAny_typeNameOfWhole_itemiter hT (wpAny_pure (wpAny_bind (wpAny_isOneOf_itemiter hT ?_))))|refine wpAny_bind (wpAny_typeNameOf_itemiter hT (wpAny_pure (wpAny_bind (wpAny_isOneOf_itemiter hT ?_))))
 show wpAny _ _ (setField (.ref it) 3 (rawInt ((i:Int)+1))>>=_) _ _ ⟨hp,g,dr,tk,os⟩
 refine wpAny_bind (wpAny_setField_rec hit (by simp) λk1 f1 t1=> ?_)
 have t1:Heap.SameBut it hp k1:=t1
 have f1:IsItemIter k1 it d (i+1) es.size ep ok ov:=by
  have e:((i+1:Nat):Int)=(i:Int)+1:=by lia
  unfold IsItemIter;rw[e];simpa[rawInt] using f1
 have hT1:Shared.TypeIs ⟨k1,g,dr,tk,os⟩ (.ref it) "dict_itemiterator" :=⟨_,f1,rfl⟩
 refine wpAny_bind (wpAny_holding (wpAny_bind (wpAny_isOneOf_itemiter hT1 (wpAny_bind (wpAny_isOneOf_itemiter hT1 ?_)))))
 show wpAny _ _ (Builtin.Dict_items.pairFromOwner (.ref it) 6 en.key en.val) _ _ ⟨k1,g,dr,tk,os⟩
 unfold Builtin.Dict_items.pairFromOwner
 refine wpAny_bind (wpAny_newTuple ?_)
 have z1:k1.objs.size=hp.objs.size:=t1.1
 have hil:it<hp.objs.size:=Heap.lt_size hit
 have f2:IsItemIter (k1.push {cls:= .type "tuple",data:= .seq #[en.key,en.val]}) it d (i+1) es.size ep ok ov:=Heap.get?_push_of_some _ f1
 generalize hk2:k1.push {cls:= .type "tuple",data:= .seq #[en.key,en.val]}=k2 at f2
 have p2:k2.get? hp.objs.size=some {cls:= .type "tuple",data:= .seq #[en.key,en.val]}:=by rw[<-hk2,<-z1];exact Heap.get?_push_size _ rfl
 have o2: ∀b o,b≠it->hp.get? b=some o->k2.get? b=some o:=λb o hb e=>by rw[<-hk2];exact Heap.get?_push_of_some _ (t1.extBut b o hb e)
 show wpAny _ _ (Builtin.Dict_items.ownedTupleIsFree (.ref it)>>=_) _ _ ⟨k2,g,dr,tk,os⟩
 rw[z1]
 unfold Builtin.Dict_items.ownedTupleIsFree
 refine wpAny_bind (wpAny_bind (wpAny_field f2 rfl (x:= .none) rfl (wpAny_pure ?_)))
 erw[if_true]
 refine wpAny_bind (wpAny_field f2 rfl (x:=ok) rfl (wpAny_bind (wpAny_field f2 rfl (x:=ov) rfl (wpAny_bind (wpAny_setField_rec f2 (by simp) λk3 f3 t3=> ?_)))))
 have t3:Heap.SameBut it k2 k3:=t3
 have f3:IsItemIter k3 it d (i+1) es.size ep en.key ov:=f3
 refine wpAny_bind (wpAny_setField_rec f3 (by simp) λk4 f4 t4=> ?_)
 have t4:Heap.SameBut it k3 k4:=t4
 have f4:IsItemIter k4 it d (i+1) es.size ep en.key en.val:=f4
 refine wpAny_bind (wpAny_setField_rec f4 (by simp) λk5 f5 t5=> ?_)
 have t5:Heap.SameBut it k4 k5:=t5
 have f5:IsItemIterOut k5 it d (i+1) es.size ep en.key en.val hp.objs.size:=f5
 refine wpAny_bind (wpAny_setField_rec f5 (by simp) λk6 f6 t6=> ?_)
 have t6:Heap.SameBut it k5 k6:=t6
 have f6:IsItemIterOut k6 it d (i+1) es.size ep en.key en.val hp.objs.size:=f6
 have on: ∀b o,b≠it->k2.get? b=some o->k6.get? b=some o:=λb o hb e=>t6.extBut b o hb (t5.extBut b o hb (t4.extBut b o hb (t3.extBut b o hb e)))
 exact wpAny_bind (wpAny_letGo (wpAny_pure (wpAny_pure ⟨_,rfl,wpAny_pure (hQ k6 f6 (on _ _ (N8 hil) p2) λb o hb e=>on b o hb (o2 b o hb e))⟩)))
theorem zaJ{it d:Addr}{i ep:Nat}{od:Obj}{es:Array DictEntry}{ok ov:Value}{Q:Option Value->Shared->Prop}(hh:A.handled=none)(hit:IsItemIter s.heap it d i es.size ep ok ov)(hod:s.heap.get? d=some od)(hdd:od.data= .dict es ep)(hge:es.size<=i)
 (hQ: ∀h',Heap.ExtBut it s.heap h'->Q none {s with heap:=h'}):wpAny (model prog w) A (pyNext (.ref it)) Q E s:=by
 have hT:s.TypeIs (.ref it) "dict_itemiterator" :=⟨_,hit,rfl⟩
 have hown:Builtin.Dict_items.ownsTuple "dict_itemiterator" =true:=by decide
 unfold pyNext
 refine wpAny_bind (wpAny_attempt (wpAny_callSpecial?_slot (name:=Str.ofString "__next__") hT F.slot_dict_itemiterator_next (wpAny_call_entry F.slot_dict_itemiterator_next hT F.entry_dict_itemiterator_next ?_ (F.args_dict_itemiterator_next_1 _))))
 refine wpAny_bind (wpAny_pure (wpAny_bind (wpAny_bind ?_)))
 first|refine wpAny_bind (wpAny_typeNameOfWhole_itemiter hT (wpAny_pure (wpAny_bind (wpAny_fieldsOf hit rfl ?_))))|refine wpAny_bind (wpAny_typeNameOf_itemiter hT (wpAny_pure (wpAny_bind (wpAny_fieldsOf hit rfl ?_))))
 erw[hown,if_true]
 show wpAny _ _ (if(Value.ref d==Value.none)=true then _ else _) _ _ s
 rw[if_neg (show ¬((Value.ref d==Value.none)=true) from i5)]
 refine wpAny_bind (wpAny_pure (wpAny_bind (wpAny_dictEntries hod hdd ?_)))
 rw[if_neg (by simp)]
 refine wpAny_bind (wpAny_pure (wpAny_bind (wpAny_dictEpoch hod hdd ?_)))
 rw[if_neg (by simp)]
 refine wpAny_pure ?_
 erw[show ¬((i:Int)<0) from by lia,if_false,C9,Array.getElem?_eq_none hge]
 refine wpAny_bind ?_
 first|refine wpAny_bind (wpAny_typeNameOfWhole_itemiter hT (wpAny_pure ?_))|refine wpAny_bind (wpAny_typeNameOf_itemiter hT (wpAny_pure ?_))
 show wpAny _ _ (setField (.ref it) 2 .none>>=_) _ _ s
 refine wpAny_bind (wpAny_setField hit rfl (by simp) ?_)
 show wpAny _ _ (newExc (.type "StopIteration") []>>=_) _ _ _
 erw[newExc,newTuple]
 refine wpAny_bind (wpAny_bind (wpAny_newObj_type (wpAny_bind (m:=firstArgMember _ _) (wpAny_of_eq (a:=Value.none) (by first|rfl|(erw[firstArgMember];rfl)) (wpAny_newObj_type ?_ (by size_fits)))) (by size_fits)))
 erw[raiseNew]
 refine wpAny_bind (wpAny_handled ?_)
 rw[show A.in1.handled=none from hh]
 refine wpAny_bind (wpAny_pure (wpAny_throw ?_))
 refine wpAny_bind (wpAny_isInstance (T:= "StopIteration") (b:=true) ⟨_,Heap.get?_push_size _ rfl,rfl⟩ isSubtype_stop (wpAny_pure (hQ _ ?_)))
 exact((Heap.SameBut.update ..).extBut.push _).push _
end
end PySem
namespace L2
open PySem PySem.Spec PyProof.Rows
def zhe(K:W.Frag)(a:Addr)(o:Obj)(kvs:List (NK×V)):It:=
 ⟨λi H=>i<kvs.length/\H a=some (.frz o (.dT kvs)),λi H x H'=> ∃p b k v,H p=none/\x= .ref p/\H'=upd H p (.tup [.ref b,v])/\kvs[i]? =some (k,v)/\TK H k b/\∀c ob,K.lookup c=some ob->H' c=none,λi H=>kvs.length<=i/\H a=some (.frz o (.dT kvs))⟩
theorem z8M{P:Program}{w:World}{H:Hp}{h:Heap}{a:Addr}{o:Obj}{kvs:List (NK×V)}(ok:HOk P w H h)(e:H a=some (.frz o (.dT kvs))):
 h.get? a=some o/\∃es ep,o.data= .dict es ep/\es.size=kvs.length/\
  ∀(i:Nat) (k:NK) (v:V),kvs[i]? =some (k,v)->∃en b,es[i]? =some en/\en.key= .ref b/\TK H k b/\RelV v en.val:=by
 obtain⟨ho,z,y,xs,r,o',es,ep,e',c,d,l,nd⟩:=ok a _ e
 rw[ho] at e'
 cases e'
 have hl:kvs.length=xs.length:=Paired.length r
 have hs:es.size=xs.length:=size_of_entries l
 refine⟨ho,es,ep,d,by lia,λi k v q=> ?_⟩
 obtain⟨⟨k',b,u⟩,q1,q2,q3,q4⟩:=Paired.get r i _ q
 have q2:k=k':=q2
 subst q2
 have hi:=entry_at l i
 rw[q1] at hi
 exact⟨_,b,hi,rfl,q3,q4⟩
theorem z8N{P:Program}{w:World}{K:W.Frag}{elts:List Expr}{x1:Nat}{tpos:Pos}(a it:Addr)(o:Obj)(es:Array DictEntry)(ep:Nat)(hd:o.data= .dict es ep)(kvs:List (NK×V)):
 zdZ P w K (.Tuple elts x1 tpos) (zhe K a o kvs) [it] it (λi h=> ∃ok ov,IsItemIter h it a i es.size ep ok ov) where
 mem:=by simp
 obj:=λi h st b hb=>by
  have e:b=it:=by simpa using hb
  subst e
  obtain⟨_,_,st⟩:=st
  exact⟨_,st,λv z=>by
   have z':Data.fields _=Data.cell v:=z
   cases z'⟩
 keep:=λi h h' st k=>by
  obtain⟨ok,ov,st⟩:=st
  exact⟨ok,ov,k it (by simp) _ st⟩
 item:=by
  intro X hP hw hK hc i pins s σ H E I hf st hg
  subst hP hw hK
  obtain⟨hi,hq⟩:=hg
  obtain⟨ok,ov,st⟩:=st
  obtain⟨ho,es',ep',hd',hsz,hat⟩:=z8M I.hok hq
  rw[hd] at hd'
  cases hd'
  obtain⟨⟨k,v⟩,hk⟩: ∃p,kvs[i]? =some p:=⟨kvs[i],by simp[hi]⟩
  obtain⟨en,b,he,hb,hB,hv⟩:=hat i k v hk
  refine z8L st ho hd he λh1 f1 p1 k1=>⟨_,rfl,wpAny_letOwnedTupleGo_items f1 λh2 f2 t2=> ?_⟩
  have t2:Heap.SameBut it h1 h2:=t2
  have hil:it<s.heap.objs.size:=Heap.lt_size st
  have p2:h2.get? s.heap.objs.size=some {cls:= .type "tuple",data:= .seq #[en.key,en.val]}:=(t2.2 _ (N8 hil)).trans p1
  have fr: ∀c∈[it],c≠s.heap.objs.size:=λc hc=>by
   have hc:c=it:=by simpa using hc
   subst hc;exact l8 hil
  have I1:Inv X pins σ (upd H s.heap.objs.size (.tup [.ref b,v])) {s with heap:=s.heap.push {cls:= .type "tuple",data:= .seq #[en.key,en.val]},toks:=s.toks}:=I.laid (t':=s.toks) (o:= .tup [.ref b,v]) (λb ob q=>Heap.get?_push_of_some _ q) (c6 _) ⟨by show 2<=sizeLine;decide,[en.key,en.val], .cons hb (.cons hv .nil),IsTup.new _ _⟩
  have f3: ∀c∈[it],z7t X pins (upd H s.heap.objs.size (.tup [.ref b,v])) c:=λc hc=>⟨by rw[y4 (fr c hc)];exact(hf c hc).1,(hf c hc).2⟩
  have I2:=I1.turnedL (h':=h2) (t':=s.toks) (λc ob hc q=>by
   have hc:c≠it:=by simpa using hc
   rcases Heap.get?_push_cases (show(s.heap.push {cls:= .type "tuple",data:= .seq #[en.key,en.val]}).get? c=some ob from q) with⟨rfl,rfl⟩|q'
   .exact p2
   .exact(t2.2 c hc).trans (k1 c ob hc q')) f3
  exact⟨.ref s.heap.objs.size,_,I2,rfl,⟨_,b,k,v,I.hok.fresh (c6 _),rfl,rfl,hk,hB,λc ob q=>(I2.bs c ob (I2.ok.mod.kin c ob q)).2⟩,⟨_,_,f2⟩,λc hc=>(f3 c hc).1⟩
 done:=by
  intro X hP hw hK hc i pins s σ H E I hf st hg
  subst hP hw hK
  obtain⟨hi,hq⟩:=hg
  obtain⟨ok,ov,st⟩:=st
  obtain⟨ho,es',ep',hd',hsz,hat⟩:=z8M I.hok hq
  rw[hd] at hd'
  cases hd'
  exact zaJ (I.ok.hd hc) st ho hd (by lia) λh' eb=>⟨rfl,I.turnedL (t':=s.toks) (λc ob hb q=>eb c ob (by simpa using hb) q) hf⟩
 self:=λA i s Q E st h=>by
  obtain⟨_,_,st⟩:=st
  exact W.kcp_self st h
end L2
namespace Mi
open PySem L2
end Mi
namespace So
open PySem PySem.W PyProof.Rows PySem.SeqAt
def hdT:PyData->Bool
 | .tuple (.tuple _::_)=>true
 |_=>false
theorem hd_tup{d:PyData}(h:hdT d=true): ∃zs xs,d= .tuple (.tuple zs::xs):=by
 cases d with
 |tuple xs=>
  cases xs with
  |nil=>simp[hdT] at h
  |cons x xs=>cases x<;>first|exact⟨_,_,rfl⟩|simp[hdT] at h
 |_=>simp[hdT] at h
theorem z8O{prog:Program}{w:World}{A:Around}{fin:Bool}{Q:Bool->Shared->Prop}{s:Shared}: ∀(vs us:List Value) (i:Nat) (r:Bool),z5f A s vs us r->fin=decide (vs.length<us.length)->Q r s->KatLex prog w A false fin Q (vs.zip us) i s
 |[],us,i,r,h,hf,q=>by
  have:r=decide (0<us.length):=h
  subst hf
  rw[List.zip_nil_left]
  exact kat_nil (by rw[this] at q;exact q)
 |_::_,[],i,r,h,hf,q=>by
  have:r=false:=h
  subst hf
  rw[List.zip_nil_right]
  exact kat_nil (by rw[this] at q;simpa using q)
 |v::vs,u::us,i,r,h,hf,q=>by
  rw[N6]
  obtain⟨e,h1,h2⟩:=h
  refine kat_cons (h1 prog w _ _ ?_)
  cases e with
  |true=>exact kat_yes (z8O vs us (i+1) r h2 (by simpa using hf) q)
  |false=>exact kat_no (by rw[B5];exact kat_one v u (h2 prog w _ _ q))
theorem key_ltF{prog:Program}{w:World}{A:Around}{E:Value->Shared->Prop}{Q:Bool->Shared->Prop}{s:Shared}{x y:Value}{dx dy:PyData}{as bs:List Addr}{r:Bool}(rx:Reads s.heap x dx as)(ry:Reads s.heap y dy bs)(hx:dx.canLay0=true)(hy:dy.canLay0=true)(ix:hdT dx=true)(iy:hdT dy=true)(hu:A.units+min dx.depth dy.depth<cLine)(hr:ltD dx dy=some r)(q:Q r s):
 wpAny (model prog w) A (keyLt' (tuples' false) x y) Q E s:=by
 obtain⟨i,xs,rfl⟩:=hd_tup ix
 obtain⟨j,ys,rfl⟩:=hd_tup iy
 cases rx with
 | @tuple l o vs n _ as₁ h1 h2 h3 h4=>
  cases ry with
  | @tuple l' o' vs' n' _ as' k1 k2 k3 k4=>
   refine kat_lt h1 h3 k1 k3 ?_
   have sz:decide (vs.size<vs'.size)=decide (vs.toList.length<vs'.toList.length):=by simp
   rw[sz]
   erw[ltD] at hr
   exact z8O _ _ 0 r (lex_reads (.tuple i::xs) (.tuple j::ys) A s _ _ _ _ r h4 k4 (by simpa[PyData.canLay0] using hx) (by simpa[PyData.canLay0] using hy) (by erw[PyData.depth] at hu;lia) hr) rfl q
end So
namespace L2
open PySem PySem.Spec PyProof.Rows
section
variable{X:Cx}
def z4B(ds:List PyData):Bool:=ds.all (λd=>So.hdT d&&d.canLay0&&decide (d.depth<=60))&&ds.all λd=>ds.all λe=>(So.ltD d e).isSome
theorem z6o{h:Heap}{M:Model}: ∀{its:List Value} {ds:List PyData} {as:List Addr},ReadsAll h its ds as->(∀d∈ds,So.hdT d=true)->∃fs:List Value,W.KatTups h its fs/\fs.length=ds.length/\∀f∈fs,W.Looks M h (typeOf f) (.type "tuple")
 |[],_,_, .nil,_=>⟨[], .nil,rfl,by simp⟩
 |v::its,d::ds,_, .cons r rs,hd=>by
  obtain⟨fs,t,hl,hf⟩:=z6o (M:=M) rs λd hd'=>hd d (b7 _ hd')
  obtain⟨i,xs,rfl⟩:=So.hd_tup (hd _ e9)
  cases r with
  | @tuple l o vs n _ as₁ h1 h2 h3 h4=>
   generalize hv:vs.toList=us at h4
   cases h4 with
   |cons r1 r2=>
    cases r1 with
    | @tuple l2 o2 vs2 n2 _ as2 k1 k2 k3 k4=>
     refine⟨.ref l2::fs, .cons h1 h2 h3 ?_ t,by simp[hl],λf hf'=> ?_⟩
     .rw[<-Array.getElem?_toList,hv];rfl
     .rcases c9.mp hf' with rfl|hf'
      .show W.Looks M h (loadPart l2 (some headPart)>>=λo=>pure o.cls) (.type "tuple")
       rw[<-k2]
       exact W.Looks.andThen (W.Looks.ld k1) W.Looks.now
      .exact hf f hf'
def zbD(K:W.Frag):List V->Hp->VK->Prop:=λxs H Q=> ∃p ys ds,xs=[.ref p]/\SqL K H p ys/\DpAll K H ds ys/\z4B ds=true/\ys.length<64/\∀l,H l=none->Q (.ref l) (upd H l (.lst ((So.permS ys.length (zee ds)).map λi=>ys.getD i .non)))
theorem z8P(hu:X.A.units+64<cLine):CallR X (.builtin "sorted") (zbD X.K):=by
 intro pins s σ H xs us Q I r h
 obtain⟨p,ys,ds,rfl,hs,hd,ok,h64,q⟩:=h
 obtain⟨u,rfl,ru⟩:=z2N r
 cases ru
 obtain⟨its,rv,pl,hz⟩:=I.list hs
 have hl:its.length=ys.length:=(Paired.length rv).symm
 unfold z4B at ok
 erw[b9,A4,decide_eq_true_eq] at ok
 obtain⟨ok1,ok2⟩:=ok
 refine So.call_sortedS (cmp:=zee ds) pl.isList (by lia) (λh' kp h2=> ?_) λh' D e1 kp hD hget=> ?_
 .have I':Inv X pins σ H {s with heap:=h'}:=I.kept (t':=s.toks) kp
  obtain⟨as,ra⟩:=DpAll.reads I' ds ys its hd rv
  refine⟨tuples' false,λQ E hq=> ?_,λi j hi hj C hC=> ?_⟩
  .obtain⟨fs,t,hfl,hf⟩:=z6o ra λd hd'=>(ok1 d hd').1.1
   have hdl:=SeqAt.ReadsAll.length _ _ _ ra
   exact W.kat_kind (T:= .type "tuple") t (by lia) hf rfl hq
  .obtain⟨bs,r1,m1⟩:=z06 ra i hi
   obtain⟨cs,r2,m2⟩:=z06 ra j hj
   obtain⟨b,hb⟩:=L6.mp (ok2 _ m1 _ m2)
   have o1:=ok1 _ m1
   have o2:=ok1 _ m2
   refine So.key_ltF r1 r2 o1.1.2 o2.1.2 o1.1.1 o2.1.1 ?_ hb ?_
   .show X.A.units+1+1+_<_
    have:=Nat.min_le_left (ds.getD i .none).depth (ds.getD j .none).depth
    lia
   .have:zee ds i j=b:=by unfold zee;rw[hb];rfl
    rw[<-this];exact hC
 .refine⟨.ref D,_,I.laid (t':=s.toks) (o:= .lst ((So.permS ys.length (zee ds)).map λi=>ys.getD i .non)) kp hD ⟨by rw[l0,So.permS_len];exact hz,_,e1,z4z rv _ λi hi=> ?_, ?_⟩,rfl,q _ (I.hok.fresh hD)⟩
  .rw[hl];exact So.permS_lt i hi
  .rw[hl] at hget;exact hget
end
end L2
namespace L2
open PySem PySem.Spec PyProof.Rows
open Sem (wp)
open AutoSeq1 (wpAny_loadPart')
end L2
namespace L2
open PySem PySem.Spec PyProof.Rows
open Sem (wp)
end L2
namespace Mi
open PySem L2 PySem.Spec PyProof.Rows
section
variable{X:Cx}{G:Gx}{F:Fy}{a b tg e o:Expr}{pos apos cpos:Pos}{mo mi mx:M D}
def zfU(o:D):M Unit:=λs=>match o with
 | .dct l ks vs=>if isT ks=true then .ok () (s.psh (.dct l ks vs)) else .no
 |_=> .no
end
section
variable{X:Cx}{G:Gx}{F:Fy}
def Q9(ds:List D):List D:=(So.permS ds.length (zee (erL ds))).map λi=>ds.getD i .non
def z7e:List D->M D
 |[.lst l ds]=>λs=>if(plainL ds&&z4B (erL ds)&&(labsL ds).isEmpty&&decide (ds.length<64))=true then .ok (.lst s.n (Q9 ds)) s.nxt else .no
 |_=>fl
theorem zdc:J6 G F (zbD G.K) z7e:=by
 intro ρ s ts vs H σv tv Q M W
 unfold z7e at W
 split at W
 .rename_i l ds
  split at W
  .rename_i hc
   erw[b9,O5,decide_eq_true_eq] at hc
   obtain⟨⟨⟨c1,c2⟩,c3⟩,c4⟩:=hc
   obtain⟨v,rfl,h,_⟩:=M.one
   obtain⟨p,xs,rfl,s1,r1,_⟩:=id (h.lstq (ds:=ds) rfl)
   have e:=RDs.len2 r1
   refine⟨p,xs,erL ds,rfl,s1,RDs.dp _ _ r1 c1,c2,by lia,λl hl k=> ?_⟩
   rw[<-e] at k⊢
   exact v8 W M.m (RDs.perm r1 _ So.permS_lt) (λj hj=>by unfold Q9 at hj;rw[z4A c3] at hj;cases hj) hl k
  .exact False.elim W
 .exact wfl W
theorem z3x(hk:X.K=G.K)(hu:X.A.units+64<cLine):Cb X G F (.builtin "sorted") z7e:=⟨_,hk▸z8P hu,zdc⟩
end
end Mi
namespace L2
open PySem PySem.Spec PyProof.Rows
section
variable{X:Cx}
def NF(X:Cx)(a:Addr):Prop:= ∀o u,X.H₀ a≠some (.frz o u)
theorem NF.of{pins:List (Addr×Obj)}{σ:St}{H:Hp}{s:Shared}{a:Addr}{kvs:List (NK×V)}(I:Inv X pins σ H s)(h:H a=some (.dT kvs)):NF X a:=λo u e=>by
 have:=I.base.frzs a o u e
 rw[h] at this;cases this
theorem Inv.thaw{pins:List (Addr×Obj)}{σ:St}{H:Hp}{s:Shared}{a:Addr}{o:Obj}{kvs:List (NK×V)}(I:Inv X pins σ H s)(n:NF X a)(h:H a=some (.frz o (.dT kvs))):Inv X pins σ (upd H a (.dT kvs)) s:=by
 have na: ∀{b},H b=none->b≠a:=λq z=>by rw[z,h] at q;cases q
 have ne: ∀{b u},H b=some u->u≠ .frz o (.dT kvs)->b≠a:=λq w z=>by rw[z,h] at q;cases q;exact w rfl
 have none': ∀{b},H b=none->(upd H a (.dT kvs)) b=none:=λq=>by rw[y4 (na q)];exact q
 refine⟨I.ok,I.os,I.bare,⟨I.base.keep,I.base.slot,λb o' e q hx=>none' (I.base.free b o' e q hx),I.base.there,λb xs e=> ?_,λb o' u e=> ?_,λb ps e=> ?_⟩,I.loc,I.cell,none' I.free,λx c e=>none' (I.freeC x c e),λp hp=> ?_, ?_,I.len⟩
 .have q:=I.base.tups b xs e
  rw[y4 (ne q (by intro z;cases z))];exact q
 .have q:=I.base.frzs b o' u e
  have hb:b≠a:=λz=>by subst z;exact n _ _ e
  rw[y4 hb];exact q
 .obtain⟨m,q⟩:=I.base.tbls b ps e
  exact⟨m,by rw[y4 (ne q (by intro z;cases z))];exact q⟩
 .obtain⟨e,q,r⟩:=I.pin p hp
  exact⟨e,none' q,r⟩
 .intro b u e
  by_cases hb:b=a
  .subst hb
   rw[Z1] at e
   cases e
   have q:=(I.hok b _ h).2
   exact J7.stay q (λ_ _ _ z=>z) (λc z=>by rw[y4 (ne z (by intro z;cases z))];exact z) λc xs z=>by rw[y4 (ne z (by intro z;cases z))];exact z
  .rw[y4 hb] at e
   exact(I.hok b u e).stay (λ_ _ _ z=>z) (λc z=>by rw[y4 (ne z (by intro z;cases z))];exact z) λc xs z=>by rw[y4 (ne z (by intro z;cases z))];exact z
theorem PE.thaw{e:Expr}{t:TE}(h:PE X e t):PE X e (λ σ H Q=>t σ H λv H'=> ∃a o kvs,NF X a/\H' a=some (.frz o (.dT kvs))/\Q v (upd H' a (.dT kvs))):=λpins s σ H Q I q=>
 thn (h pins s σ H _ I q) λu s' ⟨v,H',I',r,a,o,kvs,n,e1,k⟩=>⟨v,_,I'.thaw n e1,r,k⟩
def zi9(N:Addr->Prop)(K:W.Frag)(td:TE):TI:=λ σ H R=>td σ H λx H1=> ∃a kvs,x= .ref a/\H1 a=some (.dT kvs)/\∀o,N a->R (zhe K a o kvs) (upd H1 a (.frz o (.dT kvs)))
theorem zdd{l:Expr}{tl:TE}{elts:List Expr}{x1:Nat}{tpos apos cpos:Pos}(hl:PE X l tl)(hbase:attributeBase l "items" X.env (eval l X.env)=eval l X.env:=by rfl)
 (hfew:((backTo cpos (starEach [] X.env)).all (λx=> !x.1)&&(backToKw cpos (keywordEach [] X.env)).all (λx=>x.1.isSome)&&decide (([]:List Expr).length+([]:List Keyword).length+(if([]:List Keyword).isEmpty then 0 else 1)<30))=true:=by rfl)
 (hline:(apos.endLine==cpos.line)=true:=by rfl):PI X (.Tuple elts x1 tpos) (.Call (.Attribute l "items" apos) [] [] cpos) (zi9 (NF X) X.K tl):=by
 intro pins s σ H R I h
 refine wpAny_Call_method hbase hfew hline PySem.F.plainAttrs_dict PySem.F.slot_dict_items PySem.F.type_dict_items (thn (hl pins s σ H _ I h) λu s1 ⟨x,H1,I1,rx,a,kvs,ex,ha,q⟩=> ?_)
 subst ex
 obtain rfl:u=Value.ref a:=rx
 obtain⟨t1,t2,_⟩:=zbi I1 (.inr ⟨kvs, .inl ha⟩)
 refine⟨t1,t2,PyProof.Rows.callWith_method0 ?_⟩
 obtain⟨o,es,ep,ho,hc,hd,hy,hsz,I2⟩:=I1.freeze ha
 refine z8J hy t1 λh1 hv k1=> ?_
 refine z8K hv (k1 _ _ ho) hd λh2 f2 k2=> ?_
 have I3:Inv X pins σ (upd H1 a (.frz o (.dT kvs))) {s1 with heap:=h1}:=I2.kept (t':=s1.toks) k1
 have I4:Inv X pins σ (upd H1 a (.frz o (.dT kvs))) {s1 with heap:=h2}:=I3.kept (t':=s1.toks) k2
 refine⟨h1.objs.size,[h1.objs.size],_,zhe X.K a o kvs,_,rfl,I4,z8N a _ o es ep hd kvs,⟨_,_,f2⟩,λb hb=> ?_,q o (NF.of I1 ha)⟩
 have e:b=h1.objs.size:=by simpa using hb
 subst e
 exact I3.fpOk (c6 _) I3.fresh
def zia(N:Addr->Prop)(td:TE):TI:=λ σ H R=>td σ H λx H1=> ∃a kvs,x= .ref a/\H1 a=some (.dT kvs)/\∀o,N a->R (ItD a o kvs) (upd H1 a (.frz o (.dT kvs)))
theorem zde{l tg:Expr}{tl:TE}(hl:PE X l tl):PI X tg l (zia (NF X) tl):=by
 intro pins s σ H R I h
 refine thn (hl pins s σ H _ I h) λv s1 ⟨x,H1,I1,r1,a,kvs,e,ha,q⟩=> ?_
 subst e
 cases r1
 obtain⟨o,es,ep,ho,hc,hd,hy,hsz,I2⟩:=I1.freeze ha
 refine z27 hy ho hc hd ?_
 have I3:Inv X pins σ (upd H1 a (.frz o (.dT kvs))) {s1 with heap:=s1.heap.push {cls:= .type "dict_keyiterator",data:= .fields #[.ref a, .int 0 0, .int es.size 0, .int ep 0]}}:=
  I2.kept (t':=s1.toks) λb u q=>Heap.get?_push_of_some _ q
 refine⟨s1.heap.objs.size,[s1.heap.objs.size],_,ItD a o kvs,_,rfl,I3,z8a a _ o es ep hd kvs,⟨_,Heap.get?_push_size _ rfl,rfl,rfl⟩,λb hb=> ?_,q o (NF.of I1 ha)⟩
 have e:b=s1.heap.objs.size:=by simpa using hb
 subst e
 exact I2.fpOk (c6 _) I2.fresh
def z6p(H:Hp)(kvs:List (NK×V))(vs:List V)(ps:List Addr):Prop:=ps.length=kvs.length/\∀(j:Nat) b q v,ps[j]? =some b->kvs[j]? =some q->vs[j]? =some v->∃xs,Paired (TKi H) q.1 xs/\H b=some (.tup (xs++[v]))
theorem z0l{α β:Type}{F:α->β->Prop}: ∀{l:List α} {r:List β},Paired F l r->l.length=r.length
 |_,_, .nil=>rfl
 |_,_, .cons _ h=>by rw[i0,i0,z0l h]
theorem TKi.same{H H':Hp}(h:G5 H H'){k:NK}{xs:List V}(p:Paired (TKi H) k xs):Paired (TKi H') k xs:=Paired.mapP p λz x q=>by
 cases z with
 |inl k=>exact q
 |inr ks=>obtain⟨c,e1,e2⟩:=q;exact⟨c,e1,h _ _ e2⟩
def zib(D:Addr)(H H':Hp):Prop:= ∀b o,b≠D->H b=some o->H' b=some o
end
theorem TKi.tups{H H':Hp}(h: ∀b xs,H b=some (.tup xs)->H' b=some (.tup xs)){k:NK}{xs:List V}(p:Paired (TKi H) k xs):Paired (TKi H') k xs:=Paired.mapP p λz x q=>by
 cases z with
 |inl k=>exact q
 |inr ks=>obtain⟨c,e1,e2⟩:=q;exact⟨c,e1,h _ _ e2⟩
def RwW(D:Addr)(Hf:Hp)(kvs:List (NK×V))(vs:List V)(sh:St->Prop)(i m:Nat)(ys:List V)(σ':St)(H':Hp):Prop:=
 ∃ps:List Addr,ys=ps.map V.ref/\ps.length=i/\i+m=kvs.length/\sh σ'/\zib D Hf H'/\H' D=some (.lst ys)/\∀(j:Nat) b q v,ps[j]? =some b->kvs[j]? =some q->vs[j]? =some v->∃xs,Paired (TKi H') q.1 xs/\H' b=some (.tup (xs++[v]))
theorem RwW.next{D:Addr}{Hf:Hp}{kvs:List (NK×V)}{vs:List V}{sh:St->Prop}{i m:Nat}{ys:List V}{σ' σ2:St}{H' H4:Hp}{k:NK}{v w:V}{p:Addr}{xs:List V}(h:RwW D Hf kvs vs sh i m ys σ' H')(hi:i<kvs.length)(hk:kvs[i]? =some (k,v))(hw:vs[i]? =some w)(hx:Paired (TKi H4) k xs)(e:H4 p=some (.tup (xs++[w])))(sm:G5 H' H4)(s2:sh σ2):
 H4 D=some (.lst ys)/\ys.length=i/\∃m',m'<m/\RwW D Hf kvs vs sh (i+1) m' (ys++[.ref p]) σ2 (upd H4 D (.lst (ys++[.ref p]))):=by
 obtain⟨ps,e1,e2,e3,s1,sx,hD,rw'⟩:=h
 have hD4:=sm _ _ hD
 have tn: ∀b xs,H4 b=some (.tup xs)->(upd H4 D (.lst (ys++[.ref p]))) b=some (.tup xs):=λb xs q=>by
  rw[y4 (z0q q hD4 (by intro z;cases z))];exact q
 refine⟨hD4,by rw[e1,l0,e2],m - 1,by lia,ps++[p],by rw[e1];simp,by simp[e2],by lia,s2,λb o hb q=> ?_,Z1,λj b q u h1 h2 h3=> ?_⟩
 .rw[y4 hb];exact sm _ _ (sx b o hb q)
 .by_cases hj:j<ps.length
  .rw[List.getElem?_append_left hj] at h1
   obtain⟨zs,z1,z2⟩:=rw' j b q u h1 h2 h3
   exact⟨zs,TKi.tups (λc zs q=>tn _ _ (sm _ _ q)) z1,tn _ _ (sm _ _ z2)⟩
  .have hj':j=i:=by
    have:=(List.getElem?_eq_some_iff.mp h1).1
    erw[l3,i0,n8] at this
    lia
   subst hj'
   rw[<-e2] at h1
   erw[List.getElem?_append_right (c6 _),R4,List.getElem?_cons_zero,Option.some.injEq] at h1
   subst h1
   rw[hk] at h2;cases h2
   rw[hw] at h3;cases h3
   exact⟨xs,TKi.tups tn hx,tn _ _ e⟩
theorem RwW.fin{D a:Addr}{o:Obj}{H1:Hp}{kvs:List (NK×V)}{vs:List V}{sh:St->Prop}{i m:Nat}{ys:List V}{σ':St}{H':Hp}(ha:H1 a=some (.dT kvs))(hD:upd H1 a (.frz o (.dT kvs)) D=none)(h:RwW D (upd H1 a (.frz o (.dT kvs))) kvs vs sh i m ys σ' H')(hi:kvs.length<=i):
 H1 D=none/\H' a=some (.frz o (.dT kvs))/\∃ps:List Addr,(upd H' a (.dT kvs)) D=some (.lst (ps.map V.ref))/\G5 H1 (upd H' a (.dT kvs))/\z6p (upd H' a (.dT kvs)) kvs vs ps:=by
 obtain⟨ps,e1,e2,e3,s1,sx,hD',rw'⟩:=h
 have na:D≠a:=λz=>by rw[z,Z1] at hD;cases hD
 have hf:H' a=some (.frz o (.dT kvs)):=sx a _ na.symm Z1
 have tn: ∀b xs,H' b=some (.tup xs)->(upd H' a (.dT kvs)) b=some (.tup xs):=λb xs q=>by
  rw[y4 (z0q q hf (by intro z;cases z))];exact q
 refine⟨by rw[y4 na] at hD;exact hD,hf,ps,by rw[y4 na,hD',e1],λb u q=> ?_,by lia,λj b q v h1 h2 h3=> ?_⟩
 .by_cases hb:b=a
  .subst hb;rw[ha] at q;cases q;exact Z1
  .rw[y4 hb]
   refine sx b u (λz=> ?_) (by rw[y4 hb];exact q)
   rw[z] at q hb
   rw[y4 hb,q] at hD;cases hD
 .obtain⟨zs,z1,z2⟩:=rw' j b q v h1 h2 h3
  exact⟨zs,TKi.tups tn z1,tn _ _ z2⟩
section
variable{X:Cx}{iter:Expr}{td:TE}{pos:Pos}{scope:Scope}{own frees:List Str}{ix:List Nat}
def zfV(K:W.Frag)(g:TG)(tt:TT)(te:TE)(k:Nat)(ix:List Nat)(σ:St)(Q:VK):It->Hp->Prop:=λJ H1=> ∀D,H1 D=none->(∀a o,K.lookup a=some o->upd H1 D (.lst []) a=none)->
 ∃W:Nat->Nat->List V->St->Hp->Prop,(∃m,W 0 m [] (z01 k ix σ) (upd H1 D (.lst [])))/\
  ∀i m ys σ' H',W i m ys σ' H'->H' D=some (.lst ys)/\((J.stop i H'/\Q (.ref D) H')\/
   (J.go i H'/\∀x H2,J.yld i H' x H2->g x σ' H2 λ σ2 H3=>tt σ2 H3 λok H3=>if ok=true then te σ2 H3 λy H4=>H4 D=some (.lst ys)/\ys.length<sizeLine/\∃m',m'<m/\W (i+1) m' (ys++[y]) σ2 (upd H4 D (.lst (ys++[y])))
    else ∃m',m'<m/\W (i+1) m' ys σ2 H3))
def zfW(vs:List (NK×V)->List V)(Q:VK)(x:V)(H1:Hp):Prop:= ∃a kvs,x= .ref a/\H1 a=some (.dT kvs)/\(∀q∈kvs,q.1.length<1000)/\kvs.length<sizeLine/\(vs kvs).length=kvs.length/\
 ∀D H2 ps,H1 D=none->H2 D=some (.lst (ps.map V.ref))->G5 H1 H2->z6p H2 kvs (vs kvs) ps->Q (.ref D) H2
def Thd(N:Addr->Prop)(Q:VK):VK:=λv H'=> ∃a o kvs,N a/\H' a=some (.frz o (.dT kvs))/\Q v (upd H' a (.dT kvs))
theorem zbE{D:Addr}{Hf:Hp}{kvs:List (NK×V)}{vs:List V}{sh:St->Prop}{σ':St}(hD:Hf D=none)(h:sh σ'):RwW D Hf kvs vs sh 0 kvs.length [] σ' (upd Hf D (.lst [])):=
 ⟨[],rfl,rfl,by lia,h,λb o hb q=>by rw[y4 hb];exact q,Z1,λj b q v h1=>by simp at h1⟩
def zaK(K:W.Frag):TE:=tOp (z8c K) (z7I 0) (zhB (zck (z7I 1) zeI))
theorem z8Q{N:Addr->Prop}{K:W.Frag}{σ:St}{H1:Hp}{Q:VK}{x:V}(h:zfW (λkvs=>kvs.map (·.2)) Q x H1):
 ∃a kvs,x= .ref a/\H1 a=some (.dT kvs)/\∀o,N a->zfV K (zh8 K 2 (z58 (z0r 0) (z58 (z0r 1) zh7))) (λ_ H Q=>Q true H) (zaK K) 2 [] σ (Thd N Q) (zhe K a o kvs) (upd H1 a (.frz o (.dT kvs))):=by
 obtain⟨a,kvs,rfl,ha,hk,hz,hl,q⟩:=h
 refine⟨a,kvs,rfl,ha,λo n D hD kd=>⟨RwW D (upd H1 a (.frz o (.dT kvs))) kvs (kvs.map (·.2)) (λ σ=>σ.length=2),⟨_,zbE hD rfl⟩,λi m ys σ' H' w=> ?_⟩⟩
 have w0:=w
 obtain⟨ps,e1,e2,e3,s1,sx,hD',rw'⟩:=w
 have na:D≠a:=λz=>by rw[z,Z1] at hD;cases hD
 have hf:H' a=some (.frz o (.dT kvs)):=sx a _ na.symm Z1
 refine⟨hD', ?_⟩
 by_cases hi:i<kvs.length
 .refine .inr ⟨⟨hi,hf⟩, ?_⟩
  rintro x H2 ⟨p,b,k,v,hp,rfl,rfl,hk',hb,kd'⟩
  have m1:=G5.new (.tup [.ref b,v]) hp
  refine⟨p,[.ref b,v],rfl,SqT.of Z1,rfl, .ref b,[v],rfl,v,[],rfl,rfl, ?_⟩
  show if true=true then _ else _
  rw[if_pos rfl]
  refine⟨.ref b,by simp[s1],v,by simp[s1], ?_⟩
  refine⟨by show 1<=sizeLine;decide,λp2 hp2=> ?_⟩
  have m2:=G5.new (.tup [v]) hp2
  obtain⟨xs,t1,t2⟩:=hb
  have hxl:=z0l t2
  have hkl:k.length<1000:=hk _ (List.mem_of_getElem? hk')
  have zl:sizeLine=16777216:=rfl
  refine⟨b,p2,xs,[v],rfl,rfl,m2 _ _ (m1 _ _ t1),Z1,by erw[i0,n8];lia,z8b.intro λp3 H4 h4 m3=> ?_⟩
  have m4:G5 H' H4:=(m1.trans m2).trans m3
  obtain⟨g1,g2,g3⟩:=w0.next (σ2:=(σ'.set 0 (some (.ref b))).set 1 (some v)) hi hk' (w:=v) (by rw[List.getElem?_map,hk'];rfl) (TKi.same m4 t2) h4 m4 (by simpa using s1)
  exact⟨g1,by lia,g3⟩
 .obtain⟨d1,d2,ps',d3,d4,d5⟩:=w0.fin ha hD (by lia)
  exact .inl ⟨⟨by lia,hf⟩,a,o,kvs,n,hf,q D _ ps' d1 d3 d4 d5⟩
def zaL(K:W.Frag):TE:=tOp (z8c K) (z7I 0) (zhB (zck (zeW (z7I 1) (z7I 0)) zeI))
theorem z8R{N:Addr->Prop}{K:W.Frag}{σ:St}{H1:Hp}{Q:VK}{x:V}{ix:Nat}(h:zfW (λkvs=>kvs.map λq=>(valV kvs q.1).getD .non) Q x H1)(hσ:σ[ix]? =some (some x)):
 ∃a kvs,x= .ref a/\H1 a=some (.dT kvs)/\∀o,N a->zfV K (z0r 0) (λ_ H Q=>Q true H) (zaL K) 1 [ix] σ (Thd N Q) (ItD a o kvs) (upd H1 a (.frz o (.dT kvs))):=by
 obtain⟨a,kvs,rfl,ha,hk,hz,hl,q⟩:=h
 have valv: ∀(l:List (NK×V)) (k:NK) (v:V),(k,v)∈l->∃w,valV l k=some w:=λl=>by
  induction l with
  |nil=>intro k v h;cases h
  |cons p l ih=>
   intro k v h
   by_cases hp:p.1=k
   .exact⟨_,z0G hp⟩
   .rw[z0i hp]
    rcases c9.mp h with e|h
    .exact absurd (by rw[<-e]) hp
    .exact ih k v h
 refine⟨a,kvs,rfl,ha,λo n D hD kd=>⟨RwW D (upd H1 a (.frz o (.dT kvs))) kvs (kvs.map λq=>(valV kvs q.1).getD .non) (λ σ:St=>σ.length=2/\σ[1]? =some (some (.ref a))),⟨_,zbE hD ⟨rfl,by simp[z01,hσ]⟩⟩,λi m ys σ' H' w=> ?_⟩⟩
 have w0:=w
 obtain⟨ps,e1,e2,e3,⟨s1,s2⟩,sx,hD',rw'⟩:=w
 have na:D≠a:=λz=>by rw[z,Z1] at hD;cases hD
 have hf:H' a=some (.frz o (.dT kvs)):=sx a _ na.symm Z1
 refine⟨hD', ?_⟩
 by_cases hi:i<kvs.length
 .refine .inr ⟨⟨hi,hf⟩, ?_⟩
  rintro x H2 ⟨rfl,b,k,v,rfl,hk',hb⟩
  obtain⟨w,hw⟩:=valv kvs k v (List.mem_of_getElem? hk')
  unfold z0r
  dsimp only
  rw[if_pos rfl]
  have z0:(List.set σ' 0 (some (V.ref b)))[0]? =some (some (V.ref b)):=by simp[s1]
  have z1:(List.set σ' 0 (some (V.ref b)))[1]? =some (some (V.ref a)):=by simp[s2]
  refine⟨.ref b,z0, .ref a,z1, .ref b,z0,a,w,rfl, .inr ⟨kvs,k,b, .inr ⟨o,hf⟩,rfl,hb,hw.symm⟩, ?_⟩
  refine⟨by show 1<=sizeLine;decide,λp2 hp2=> ?_⟩
  have m2:=G5.new (.tup [w]) hp2
  obtain⟨xs,t1,t2⟩:=hb
  have hxl:=z0l t2
  have hkl:k.length<1000:=hk _ (List.mem_of_getElem? hk')
  have zl:sizeLine=16777216:=rfl
  refine⟨b,p2,xs,[w],rfl,rfl,m2 _ _ t1,Z1,by erw[i0,n8];lia,z8b.intro λp3 H4 h4 m3=> ?_⟩
  have m4:G5 H2 H4:=m2.trans m3
  obtain⟨g1,g2,g3⟩:=w0.next (σ2:=σ'.set 0 (some (.ref b))) hi hk' (w:=w) (by rw[List.getElem?_map,hk'];simp[hw]) (TKi.same m4 t2) h4 m4 ⟨by simpa using s1,z1⟩
  exact⟨g1,by lia,g3⟩
 .obtain⟨d1,d2,ps',d3,d4,d5⟩:=w0.fin ha hD (by lia)
  exact .inl ⟨⟨by lia,hf⟩,a,o,kvs,n,hf,q D _ ps' d1 d3 d4 d5⟩
end
section
variable{X:Cx}
theorem zdf{prog:Program}{w:World}{A:Around}{E:Value->Shared->Prop}{s:Shared}{d:Addr}{o:Obj}{es:Array DictEntry}{ep:Nat}{Q:Value->Shared->Prop}(hd:(d==sysModules)=false)(ho:s.heap.get? d=some o)(hc:o.ExactDict)(hdat:o.data= .dict es ep)(hfit:(es.size:Int)<2^63)
 (h:Q (.int es.size (s.toks+1)) {s with toks:=s.toks+1+1}):wpAny (model prog w) A (call (.builtin "len") [.ref d]) Q E s:=by
 have ht:s.TypeIs (.ref d) "dict" :=⟨o,ho,hc.1⟩
 refine Calls.call_function_entry kind_len plain_len entry_len (args_len1 _) ?_
 unfold Builtin.«len»
 refine wpAny_bind (m:=oneArg "len" _) (wpAny_pure ?_)
 refine wpAny_bind (m:=callSpecial? (.ref d) (Str.ofString "__len__")) (wpAny_callSpecial?_slot (name:=Str.ofString "__len__") ht F.slot_dict_len
  (wpAny_call_entry F.slot_dict_len ht F.entry_dict_len ?_ (F.args_dict_len_1 _)))
 show wpAny _ _ (dictSize d>>=_) _ _ s
 unfold dictSize
 refine wpAny_bind (wpAny_bind (wpAny_dictEntries ho hdat (wpAny_pure ?_)))
 show wpAny _ _ (Builtin.Dict.pendingCount d>>=_) _ _ s
 refine wpAny_bind (wpAny_pendingCount_other hd ?_)
 refine wpAny_ret_mkInt ?_
 have e0:((es.size:Int)+((0:Nat):Int))=es.size:=by simp
 rw[e0]
 show wpAny _ _ _ _ _ {s with toks:=s.toks+1}
 refine wpAny_bind (wpAny_holding (wpAny_pure ?_))
 refine wpAny_bind (wpAny_letGo ?_)
 show wpAny _ _ (if((es.size:Nat):Int)<0 then _ else _) _ _ _
 rw[if_neg (by lia)]
 show wpAny _ _ (if((es.size:Nat):Int)≥2^63 then _ else _) _ _ _
 rw[if_neg (by lia)]
 exact wpAny_bind (wpAny_mkInt (wpAny_pure ⟨_,rfl,h⟩))
def zfX:List V->Hp->VK->Prop:=λxs H Q=> ∃p kvs,xs=[.ref p]/\H p=some (.dT kvs)/\Q (.int kvs.length) H
theorem z8S:CallR X (.builtin "len") zfX:=by
 intro pins s σ H xs us Q I r h
 obtain⟨p,kvs,rfl,hx,q⟩:=h
 obtain⟨u,rfl,rx⟩:=z2N r
 cases rx
 obtain⟨z,y,zs,rel,o,es,ep,e,c,d,l,nd⟩:=I.hok p _ hx
 have hs:es.size=zs.length:=size_of_entries l
 have hl:kvs.length=zs.length:=z0l rel
 have hz:sizeLine=16777216:=sizeLine_eq
 refine zdf y e c d (by lia) ⟨.int kvs.length,H,I.tok _,⟨s.toks+1,by rw[hs,hl]⟩,q⟩
end
end L2
namespace Mi
open PySem L2 PySem.Spec PyProof.Rows
section
variable{X:Cx}{G:Gx}{F:Fy}{a b e o iter:Expr}{pos apos cpos:Pos}{mo mi:M D}
def z9x:List D->M D
 |[.dct _ ks _]=>if isT ks=true then rt (.int ks.length) else fl
 |_=>fl
theorem zdg:J6 G F zfX z9x:=by
 intro ρ s ts vs H σv tv Q M W
 unfold z9x at W
 split at W
 .split at W
  .rename_i hT
   obtain⟨v,rfl,h,_⟩:=M.one
   obtain⟨rfl,kvs,hx,rfl,r⟩:=h.dctq hT
   exact⟨_,kvs,rfl,hx,λ_=>by rw[l0] at W;exact W.flat M.m rfl⟩
  .exact wfl W
 .exact wfl W
theorem z3y:Cb X G F (.builtin "len") z9x:=⟨_,z8S,zdg⟩
def z9y:D->D->D
 | .tup xs,v=> .tup (xs++[v])
 |_,_=> .non
def zef:D->Bool
 | .tup xs=>decide (xs.length<1000)
 |_=>false
def z2V(ks vs:List D):Bool:=isT ks&&(labsL vs).isEmpty&&ks.all zef&&decide (ks.length<sizeLine)
def zdh(o:D):M D:=λs=>match o with
 | .dct _ ks vs=>if z2V ks vs=true then .ok (.lst s.n (C0 z9y ks vs)) s.nxt else .no
 |_=> .no
def fdK(ks vs:List D)(d:D):D:=((tkey d).bind (findK ks vs)).getD .non
def z7f(o:D):M D:=λs=>match o with
 | .dct _ ks vs=>if z2V ks vs=true then .ok (.lst s.n (ks.map λd=>z9y d (fdK ks vs d))) s.nxt else .no
 |_=> .no
theorem z8T{ρ:Nat->Addr}{H2:Hp}: ∀{ps:List Addr} {kvs:List (NK×V)} {ds:List D} {vs:List V},RDs G ρ H2 ds vs->z6p H2 kvs vs ps->vs.length=kvs.length->RDs G ρ H2 (C0 z9y (kvs.map λp=>dkD p.1) ds) (ps.map V.ref)
 |[],[],ds,vs,_,_,_=>by simp[RDs]
 |[],k::kvs,_,_,_,h,_=>by have:=h.1;simp at this
 |p::ps,[],_,_,_,h,_=>by have:=h.1;simp at this
 |p::ps,k::kvs,ds,[],_,_,hv=>by simp at hv
 |p::ps,k::kvs,[],v::vs,r,_,_=>by erw[RDs] at r;cases r
 |p::ps,k::kvs,d::ds,v::vs,r,h,hv=>by
  erw[RDs] at r
  obtain⟨_,_,e1,r1,r2⟩:=r
  cases e1
  obtain⟨xs,p1,p2⟩:=h.2 0 p k v rfl rfl rfl
  have ih:=z8T (ps:=ps) (kvs:=kvs) (vs:=vs) r2 ⟨by have:=h.1;simpa using this,λj b q v h1 h2 h3=>h.2 (j+1) b q v (by simpa using h1) (by simpa using h2) (by simpa using h3)⟩ (by simpa using hv)
  erw[c8,B1,RDs]
  refine⟨_,_,rfl, ?_,ih⟩
  show RD G ρ H2 (.tup (k.1.map nkD++[d])) (.ref p)
  erw[RD]
  exact⟨p,_,rfl,p2,(z8E p1).append (RDs.one r1)⟩
theorem z4C: ∀(kvs:List (NK×V)) (ds:List D),labsL ds=[]->labsL (C0 z9y (kvs.map λp=>dkD p.1) ds)=[]
 |[],ds,_=>by simp[labsL]
 |k::kvs,[],_=>by simp[labsL]
 |k::kvs,d::ds,h=>by
  erw[labsL,B2] at h
  have e:=z5w k.1
  erw[dkD,y3] at e
  erw[c8,B1,labsL,z4C kvs ds h.2,e7]
  show y3 (.tup (k.1.map nkD++[d]))=[]
  erw[y3,j7,e,labsL,h.1,e7]
theorem zdi(ks vs:List D):C0 z9y ks (ks.map (fdK ks vs))=ks.map λd=>z9y d (fdK ks vs d):=by
 rw[List.zipWith_map_right]
 generalize fdK ks vs=f
 induction ks with
 |nil=>rfl
 |cons k ks ih=>erw[B1,c8,ih]
theorem z6q{ρ:Nat->Addr}{H1 H2:Hp}{D:Addr}{s:Stt}{σv tv:List (Option V)}{Q:VK}{ps:List Addr}{kvs:List (NK×V)}{ds:List Mi.D}{vs:List V}(W:wM G F σv tv (.ok (.lst s.n (C0 z9y (kvs.map λp=>dkD p.1) ds)) s.nxt) Q)(M:MR G F.toFx ρ H1 σv tv s)
 (r:RDs G ρ H1 ds vs) (hl:labsL ds=[]) (hD:H1 D=none) (h2:H2 D=some (.lst (ps.map V.ref))) (sm:G5 H1 H2) (rw':z6p H2 kvs vs ps) (hv:vs.length=kvs.length) (kd:KD G.K H2):Q (.ref D) H2:=by
 have e:H2=upd (λb=>if b=D then none else H2 b) D (.lst (ps.map V.ref)):=by
  funext b
  by_cases hb:b=D
  .rw[hb,Z1,h2]
  .rw[y4 hb,if_neg hb]
 have sm':G5 H1 (λb=>if b=D then none else H2 b):=λb o q=>by
  have hb:b≠D:=λz=>by rw[z,hD] at q;cases q
  show(if b=D then none else H2 b)=some o
  rw[if_neg hb];exact sm b o q
 have tn: ∀b xs,H2 b=some (.tup xs)->(λb=>if b=D then none else H2 b) b=some (.tup xs):=λb xs q=>by
  have hb:b≠D:=z0q q h2 (by intro z;cases z)
  show(if b=D then none else H2 b)=some _
  rw[if_neg hb];exact q
 have kd':KD G.K (λb=>if b=D then none else H2 b):=λb o' q=>by
  by_cases hb:b=D
  .show(if b=D then none else H2 b)=none
   rw[if_pos hb]
  .show(if b=D then none else H2 b)=none
   rw[if_neg hb];exact kd b o' q
 have rr:RDs G ρ (λb=>if b=D then none else H2 b) (C0 z9y (kvs.map λp=>dkD p.1) ds) (ps.map V.ref):=z8T (r.same sm') ⟨rw'.1,λj b q v h1 h2' h3=>by
  obtain⟨xs,z1,z2⟩:=rw'.2 j b q v h1 h2' h3
  exact⟨xs,TKi.tups tn z1,tn _ _ z2⟩⟩ hv
 rw[e] at kd⊢
 exact v8 W (M.same sm' kd') rr (λj hj=>by rw[z4C kvs ds hl] at hj;cases hj) (by show(if D=D then none else H2 D)=none;rw[if_pos rfl]) kd
end
theorem zbF{G:Gx}{ρ:Nat->Addr}{H:Hp}{kvs:List (NK×V)}{vs:List D}(r:RDs G ρ H vs (kvs.map (·.2))): ∀l:List (NK×V),RDs G ρ H ((l.map λp=>dkD p.1).map (fdK (kvs.map λp=>dkD p.1) vs)) (l.map λq=>(valV kvs q.1).getD .non)
 |[]=>by simp[RDs]
 |q::l=>by
  erw[c8,RDs]
  refine⟨_,_,rfl, ?_,zbF r l⟩
  unfold fdK
  rw[Q0,M7]
  cases ef:findK (kvs.map λp=>dkD p.1) vs q.1 with
  |none=>rw[z1o kvs vs r ef];erw[RD,D1]
  |some d=>
   obtain⟨w,hv,hd,_⟩:=z0k kvs vs d r ef
   rw[hv];exact hd
theorem z6r{ks vs:List D}(h:labsL vs=[]): ∀l:List D,labsL (l.map (fdK ks vs))=[]
 |[]=>rfl
 |d::l=>by
  erw[c8,labsL,z6r h l,e7]
  unfold fdK
  cases tkey d with
  |none=>rfl
  |some k=>
   have gen: ∀(ks vs:List D),labsL vs=[]->∀d,findK ks vs k=some d->y3 d=[]:=λks=>by
    induction ks with
    |nil=>intro vs _ d e;cases vs<;>simp[findK] at e
    |cons a ks ih=>
     intro vs hv d e
     cases vs with
     |nil=>simp[findK] at e
     |cons v vs=>
      erw[labsL,B2] at hv
      erw[findK] at e
      split at e
      .cases e;exact hv.1
      .exact ih vs hv.2 d e
   erw[M7]
   cases ef:findK ks vs k with
   |none=>rfl
   |some d=>exact gen ks vs h d ef
theorem z6s{ks vs:List D}(h:z2V ks vs=true):isT ks=true/\labsL vs=[]/\(∀d∈ks,zef d=true)/\ks.length<sizeLine:=by
 erw[z2V,b9,O5,A4,decide_eq_true_eq] at h
 exact⟨h.1.1.1,h.1.1.2,h.1.2,h.2⟩
theorem zbG{kvs:List (NK×V)}(h: ∀d∈kvs.map (λp=>dkD p.1),zef d=true): ∀q∈kvs,q.1.length<1000:=λq hq=>by
 have:=h _ (m8.mpr ⟨q,hq,rfl⟩)
 simpa[dkD,zef] using this
section
variable{X:Cx}{G:Gx}{F:Fy}{iter elt tg:Expr}{pos apos cpos:Pos}{m0:M D}{scope:Scope}{own frees:List Str}
theorem se_rowI{elts:List Expr}{x1:Nat}{tpos:Pos}(hk:X.K=G.K)(hc:X.calm=true)(S:J0 X.env.scope scope own [] X.N [])(hi:SE X G F iter m0)(ho:own.length=2)
 (hg: ∀cl C s₀ H₀ fp pn,PG (Q7 X scope own [] cl C s₀ H₀ fp pn) (.Tuple elts x1 tpos) (zh8 X.K 2 (z58 (z0r 0) (z58 (z0r 1) zh7)))) (he: ∀cl C s₀ H₀ fp pn,PE (Q7 X scope own [] cl C s₀ H₀ fp pn) elt (zaK X.K))
 (hs: ∀x,foldedSetIterable (.Call (.Attribute iter "items" apos) [] [] cpos) X.env x=pure x:=by intro _;rfl) (hbase:attributeBase iter "items" X.env (eval iter X.env)=eval iter X.env:=by rfl)
 (hfew:((backTo cpos (starEach [] X.env)).all (λx=> !x.1)&&(backToKw cpos (keywordEach [] X.env)).all (λx=>x.1.isSome)&&decide (([]:List Expr).length+([]:List Keyword).length+(if([]:List Keyword).isEmpty then 0 else 1)<30))=true:=by rfl)
 (hline:(apos.endLine==cpos.line)=true:=by rfl):SE X G F (.ListComp elt [⟨.Tuple elts x1 tpos, .Call (.Attribute iter "items" apos) [] [] cpos,[],0⟩] scope pos) (bd m0 zdh):=by
 have base:=PE.thaw (z2e (pos:=pos) (te:=zaK X.K) hc S (zdd hi hbase hfew hline) hg (λ_ _ _ _ _ _=>z5j) he hs)
 rw[ho] at base
 refine PE.imp hk base λ σ H Q ⟨tv,hsf,ρ,s,M,W⟩=> ?_
 refine⟨tv,hsf,ρ,s,M, ?_⟩
 unfold bd at W
 cases e0:m0 s with
 |ex d s1=>rw[e0] at W;exact W
 |no=>rw[e0] at W;exact W
 |ok o s1=>
  rw[e0] at W
  intro ρ1 v H1 M1
  cases o with
  |dct l ks vs=>
   by_cases hr:z2V ks vs=true
   .obtain⟨hT,hvs,hsm,hz⟩:=z6s hr
    erw[zdh,if_pos hr] at W
    have h1:=M1.rd1
    obtain⟨rfl,kvs,hx,rfl,r⟩:=h1.dctq hT
    refine z8Q (Q:=λv H'=>KD G.K H'->Q v H') ⟨ρ1 l,kvs,rfl,hx,zbG hsm,by simpa using hz,by simp,λD H2 ps hD h2 sm rw' kd=> ?_⟩
    exact z6q W M1.m r hvs hD h2 sm rw' (by simp) kd
   .erw[zdh,if_neg hr] at W;exact False.elim W
  |_=>exact False.elim W
theorem se_rowK{i:Nat}{x:Str}{np:Pos}(hk:X.K=G.K)(hc:X.calm=true)(S:J0 X.env.scope scope own frees X.N [i])(hi:PE X (.Name x np) (z7I i))(ho:own.length=1)
 (hg: ∀cl C s₀ H₀ fp pn,PG (Q7 X scope own frees cl C s₀ H₀ fp pn) tg (z0r 0)) (he: ∀cl C s₀ H₀ fp pn,PE (Q7 X scope own frees cl C s₀ H₀ fp pn) elt (zaL X.K))
 (hs: ∀y,foldedSetIterable (.Name x np) X.env y=pure y:=by intro _;rfl):SE X G F (.ListComp elt [⟨tg, .Name x np,[],0⟩] scope pos) (bd (y1 i) z7f):=by
 have base:=PE.thaw (z2e (pos:=pos) (te:=zaL X.K) hc S (zde hi) hg (λ_ _ _ _ _ _=>z5j) he hs)
 rw[ho] at base
 refine PE.imp hk base λ σ H Q ⟨tv,hsf,ρ,s,M,W⟩=> ?_
 unfold bd y1 at W
 cases e0:s.σ[i]? with
 |none=>rw[e0] at W;exact W.elim
 |some o=>
  cases o with
  |none=>rw[e0] at W;exact W.elim
  |some t=>
   rw[e0] at W
   obtain⟨v,h1,h2⟩:=M.sl.get i t e0
   refine⟨v,h1, ?_⟩
   cases t with
   |dct l ks vs=>
    by_cases hr:z2V ks vs=true
    .obtain⟨hT,hvs,hsm,hz⟩:=z6s hr
     erw[z7f,if_pos hr] at W
     obtain⟨rfl,kvs,hx,rfl,r⟩:=h2.dctq hT
     refine z8R (Q:=λv H'=>KD G.K H'->Q v H') ⟨ρ l,kvs,rfl,hx,zbG hsm,by simpa using hz,by simp,λD H2 ps hD h2 sm rw' kd=> ?_⟩ h1
     rw[<-zdi] at W
     exact z6q W M (zbF r kvs) (z6r hvs _) hD h2 sm rw' (by simp) kd
    .erw[z7f,if_neg hr] at W;exact False.elim W
   |_=>exact False.elim W
end
end Mi
namespace L2
open PySem PySem.Spec PyProof.Rows
section
variable{prog:Program}{w:World}{A:Around}{E:Value->Shared->Prop}{s:Shared}{K:Type}[DecidableEq K]{knd:HeapKind prog w K}
def z4D(xs:List (K×Addr×Value))(k:K):List (K×Addr×Value):=xs.filter λx=>decide (x.1≠k)
theorem z6t{k:K}{p:Addr×Value}: ∀{xs:List (K×Addr×Value)} {j:Nat},(xs.map (·.1)).Nodup->xs[j]? =some (k,p)->xs.eraseIdx j=z4D xs k
 |x::xs,0,hn,h=>by
  have e:x=(k,p):=by simpa using h
  have hn:=B0.mp (show(x.1::xs.map (·.1)).Nodup from hn)
  subst e
  rw[List.eraseIdx_cons_zero,z4D,r6 (by simp)]
  refine(List.filter_eq_self.mpr λy hy=> ?_).symm
  erw[ne_eq,decide_not,D9,decide_eq_false_iff_not]
  exact λz=>hn.1 (by rw[<-z];exact m8.mpr ⟨y,hy,rfl⟩)
 |x::xs,j+1,hn,h=>by
  have h':xs[j]? =some (k,p):=by simpa using h
  have hn':=B0.mp (show(x.1::xs.map (·.1)).Nodup from hn)
  have hx:x.1≠k:=λz=>hn'.1 (by rw[z];exact m8.mpr ⟨(k,p),List.mem_of_getElem? h',rfl⟩)
  rw[List.eraseIdx_cons_succ,z6t hn'.2 h',z4D,z4D,r8 (by simpa using hx)]
theorem z4E{α β:Type}(f:α->β): ∀(xs:List α) (j:Nat),(xs.map f).eraseIdx j=(xs.eraseIdx j).map f
 |[],_=>by simp
 |x::xs,0=>by simp
 |x::xs,j+1=>by simp[z4E f xs j]
theorem z4F{d a:Addr}{xs:List (K×Addr×Value)}{k:K}{p:Addr×Value}{Q:Option DictEntry->Shared->Prop}(hu:knd.room A)(hkey:knd.is s.heap k a)(hm:s.heap.DictOfH knd d xs)(hp:atKey xs k=some p)
 (hQ: ∀e h',e.val=p.2->h'.DictOfH knd d (z4D xs k)->Heap.SameBut d s.heap h'->Q (some e) {s with heap:=h',toks:=s.toks+knd.draws k}) (hsz:xs.length<=sizeLine):
 wpAny (model prog w) A (Builtin.Dict.takeOut d (.ref a)) Q E s:=by
 obtain⟨o,es,ep,ho,hc,hd,he,his,hn⟩:=hm
 unfold Builtin.Dict.takeOut
 try with_reducible refine wpAny_holding ?_
 refine wpAny_bind (knd.pyHash hu hkey (wpAny_bind (wpAny_dictFind_heap (s:={s with toks:=s.toks+knd.draws k}) hu hkey ho hd he his hn ?_ ?_)))
 .intro hno
  rw[atKey_none_of_get hno] at hp
  cases hp
 .intro j q hj
  rw[atKey_of_get hn hj] at hp
  injection hp with hp
  subst hp
  refine wpAny_bind (wpAny_dictEntries (s:={s with toks:=s.toks+knd.draws k}) ho hd ?_)
  rw[entry_at he j,hj]
  refine wpAny_bind (wpAny_updateDictKeys (hz:=by have e:=size_of_entries he;lia) (s:={s with toks:=s.toks+knd.draws k}) ho hd (wpAny_pure (hQ _ _ rfl ⟨_,_,ep+1,Heap.get?_update_self _ ho (Obj.isFreed_of_dict (Obj.data_mapDictKeys hd _)),
   hc.mapDictKeys _,Obj.data_mapDictKeys hd _, ?_, ?_, ?_⟩ (Heap.SameBut.update ..))))
  .rw[<-z6t hn hj]
   obtain⟨l⟩:=es
   have he:l=xs.map (entryOfKey knd):=by simpa using he
   rw[he]
   simpa using z4E _ xs j
  .intro x hx
   exact knd.keeps (his x ((F0.mp hx).1)) ho hd (Heap.SameBut.update ..)
  .exact List.Nodup.sublist (List.Sublist.map _ N3) hn
theorem z2o(d a:Addr):
 MeetsIn prog w (Builtin.«dict.pop» ⟨[.ref d, .ref a],[]⟩) (λA R s=>knd.room A.in1/\∃k xs p,knd.is s.heap k a/\s.heap.DictOfH knd d xs/\xs.length<=sizeLine/\atKey xs k=some p/\
  ∀h',h'.DictOfH knd d (z4D xs k)->Heap.SameBut d s.heap h'->R (.ok (.ret p.2)) {s with heap:=h',toks:=s.toks+knd.draws k}):=
 .of_wp λA R s ⟨hu,k,xs,p,hkey,hm,hsz,hp,h⟩=>by
  have hm0:=hm
  obtain⟨o,es,ep,ho,hc,hd,he,his,hn⟩:=hm0
  unfold Builtin.«dict.pop»
  refine wpAny_bind ?_
  unfold Builtin.Dict.keyAndDefault
  refine wpAny_bind (wpAny_notOrdered_dict hm.typeIs ?_)
  show wpAny _ _ (pure (d,Value.ref a,none)) _ _ s
  refine wpAny_pure ?_
  erw[show(keyPart (Value.ref a)).isSome=false from rfl,i8,if_false]
  refine wpAny_bind (wpAny_dictEntries ho hd (wpAny_bind (wpAny_pure ?_)))
  have hne:es.isEmpty=false:=by
   cases xs with
   |nil=>simp[atKey] at hp
   |cons x xs=>have:=size_of_entries he;simp at this;simp[Array.isEmpty,this]
  erw[hne,i8,if_false]
  refine wpAny_bind (z4F hu hkey hm hp (λe h' he' hm' hs'=> ?_) hsz)
  erw[Option.isNone_some,i8,if_false]
  exact wpAny_bind (wpAny_letGo (wpAny_pure ⟨e.val,rfl,by rw[he'];exact h h' hm' hs'⟩))
end
section
variable{X:Cx}{pins:List (Addr×Obj)}{σ:St}{H:Hp}{s:Shared}{a b:Addr}{kvs:List (NK×V)}{k:NK}{A:Around}{E:Value->Shared->Prop}
theorem KT.less{H:Hp}{k:NK}: ∀{kvs:List (NK×V)} {xs:List (NK×Addr×Value)},KT H kvs xs->KT H (z1H kvs k) (z4D xs k)
 |_,_, .nil=> .nil
 |_,_, .cons (a:=p) (b:=q) h r=>by
  unfold z1H z4D
  by_cases e:p.1=k
  .rw[r6 (by simpa using e),r6 (by rw[<-h.1];simpa using e)]
   exact KT.less r
  .rw[r8 (by simpa using e),r8 (by rw[<-h.1];simpa using e)]
   exact .cons h (KT.less r)
theorem zfY{v:V}{Q:Value->Shared->Prop}(hu:A.units+2<cLine)(I:Inv X pins σ H s)(e:H a=some (.dT kvs))(eb:TK H k b)(l:valV kvs k=some v)
 (h: ∀w' s',Inv X pins σ (upd H a (.dT (z1H kvs k))) s'->RelV v w'->Q w' s'):wpAny (model X.prog X.w) A (call (.builtin "dict.pop") [.ref a, .ref b]) Q E s:=by
 obtain⟨z,hd,xs,rel,dd⟩:=zeU I.hok e
 have hz:xs.length<=sizeLine:=by rw[<-Paired.length rel];exact z
 have hl:(z1H kvs k).length<=sizeLine:=n9 (z9Y kvs k) z
 obtain⟨w',hw,rw'⟩:=RelO.some_of (v:=v) (o:=(atKey xs k).map (·.2)) (by rw[<-l];exact rel.val k)
 cases hp:atKey xs k with
 |none=>rw[hp] at hw;cases hw
 |some p=>
  rw[hp] at hw
  injection hw with hw
  refine call_meetsIn PySem.F.slot_dict_pop dd.typeIs PySem.F.entry_dict_pop (PySem.F.args_dict_pop_2 _ _) (z2o (knd:=X1 X.prog X.w) a b)
   ⟨K9 hu,k,xs,p,z35 I.hok eb,dd,hz,hp,λh' dd' hs=>h _ _ ?_ (by rw[show p.2=w' from hw];exact rw')⟩
  obtain⟨q,es,ep,hq,h2,h3,h4,_,h5⟩:=dd'
  refine z5c I (by rw[e];exact True.intro) hs ⟨q,hq⟩ ⟨hl,hd,_,(KT.less (k:=k) rel).keeps λc ys ec=> ?_,q,es,ep,hq,h2,h3,h4,h5⟩
  rw[y4 (z0q ec e (λz=>nomatch z))]
  exact ec
variable{o e:Expr}{apos cpos:Pos}{td ty:TE}
def zbH(td ty:TE):TE:=λ σ H Q=>td σ H λx H1=> ∃a,x= .ref a/\IsD H1 a/\ty σ H1 λy H2=> ∃kvs k b v,H2 a=some (.dT kvs)/\y= .ref b/\TK H2 k b/\valV kvs k=some v/\Q v (upd H2 a (.dT (z1H kvs k)))
theorem zaM(hu:X.A.units+2<cLine)(ho:PE X o td)(he:PE X e ty)(m:M1 X o "pop" apos e cpos):PE X (.Call (.Attribute o "pop" apos) [e] [] cpos) (zbH td ty):=by
 intro pins s σ H Q I h
 refine wpAny_Call_method m.base m.few m.line PySem.F.plainAttrs_dict PySem.F.slot_dict_pop PySem.F.type_dict_pop (thn (ho pins s σ H _ I h) λu s1 ⟨x,H1,I1,rx,a,ex,d,q1⟩=> ?_)
 subst ex
 obtain rfl:u=Value.ref a:=rx
 obtain⟨t1,t2,_⟩:=zbi I1 d
 refine⟨t1,t2, ?_⟩
 rw[m.trees]
 refine Calls.callWith_builtin rfl (Calls.evalArgs_plain (Calls.spliced_cons (thn (he pins s1 σ H1 _ I1 q1) λiv s2 ⟨y,H2,I2,ry,kvs,k,b,v,ea,ey,eb,l,q2⟩=>Calls.spliced_nil ?_)))
 subst ey
 obtain rfl:iv=Value.ref b:=ry
 exact zfY hu I2 ea eb l λw' s3 I3 rw'=>⟨v,_,I3,rw',q2⟩
end
end L2
namespace Mi
open PySem L2 PySem.Spec PyProof.Rows
section
variable{ρ:Nat->Addr}{H:Hp}{G:Gx}
def z3a(ks:List D)(k:NK):List D:=ks.filter λd=>decide (tkey d≠some k)
def V7:List D->List D->NK->List D
 |d::ks,v::vs,k=>if tkey d=some k then V7 ks vs k else v::V7 ks vs k
 |_,_,_=>[]
theorem z8U{k:NK}: ∀{kvs:List (NK×V)} {vs:List D},RDs G ρ H vs (kvs.map (·.2))->
 z3a (kvs.map λp=>dkD p.1) k=(z1H kvs k).map (λp=>dkD p.1)/\RDs G ρ H (V7 (kvs.map λp=>dkD p.1) vs k) ((z1H kvs k).map (·.2))
 |[],[],_=>⟨rfl,by simp[V7,z1H,RDs]⟩
 |[],_::_,h=>by erw[l7,RDs] at h;obtain⟨_,_,e,_⟩:=h;cases e
 |p::kvs,[],h=>by erw[c8,RDs] at h;cases h
 |p::kvs,w::vs,h'=>by
  erw[c8,RDs] at h'
  obtain⟨x,r,e1,h1,h2⟩:=h'
  cases e1
  obtain⟨i1,i2⟩:=z8U (k:=k) h2
  erw[c8,z3a,V7,z1H,Q0,Option.some.injEq] at i1 i2⊢
  by_cases hk:p.1=k
  .rw[if_pos hk,r6 (by simp[Q0,hk]),r6 (by simpa using hk)]
   exact⟨i1,i2⟩
  .rw[if_neg hk,r8 (by simp[Q0,hk]),r8 (by simpa using hk)]
   erw[c8,RDs]
   exact⟨by rw[i1],_,_,rfl,h1,i2⟩
theorem z0O{k:NK}: ∀{ks vs:List D},labsL vs=[]->labsL (V7 ks vs k)=[]
 |[],vs,_=>by simp[V7,labsL]
 |_::_,[],_=>by simp[V7,labsL]
 |d::ks,v::vs,h=>by
  erw[labsL,B2] at h
  erw[V7]
  split
  .exact z0O h.2
  .erw[labsL,h.1,z0O h.2,e7]
end
section
variable{X:Cx}{G:Gx}{F:Fy}{a o:Expr}{apos cpos:Pos}{mo mi:M D}
def zaN(o i:D):M D:=λs=>match o with
 | .dct l ks vs=>match tkey i with
  |some k=>(match findK ks vs k with
   |some d=>if isT ks=true/\labsL vs=[] then .ok d (s.put l (.dct l (z3a ks k) (V7 ks vs k))) else .no
   |none=> .no)
  |none=> .no
 |_=> .no
def z2p(mo mi:M D):M D:=bd mo λo=>bd (zfU o) λ_=>bd mi λi=>bd pop λo'=>zaN o' i
theorem zaO{σ:L2.St}{H:Hp}{Q:VK}(h:tM G F (z2p mo mi) σ H Q):zbH (tM G F mo) (tM G F mi) σ H (λv H'=>KD G.K H'->Q v H'):=by
 obtain⟨tv,hs,ρ,s,M,W⟩:=h
 refine⟨tv,hs,ρ,s,M, ?_⟩
 unfold z2p at W
 erw[bd] at W
 cases e0:mo s with
 |ex d s1=>erw[e0] at W;exact W
 |no=>erw[e0] at W;exact W
 |ok o s1=>
  erw[e0] at W
  intro ρ1 v H1 M1
  cases o with
  |dct l ks vs=>
   by_cases hT:isT ks=true
   .erw[zfU,if_pos hT] at W
    have h1:=M1.rd1
    obtain⟨rfl,kvs,hx,rfl,r⟩:=h1.dctq hT
    refine⟨ρ1 l,rfl, .inr ⟨kvs, .inl hx⟩, ?_⟩
    refine⟨some (.ref (ρ1 l))::tv,z7w hs,ρ1,_,M1.push, ?_⟩
    cases e2:mi (s1.psh (.dct l (kvs.map λp=>dkD p.1) vs)) with
    |ex d s3=>erw[e2] at W;exact W
    |no=>erw[e2] at W;exact W
    |ok i s2=>
     erw[e2,pop] at W
     intro ρ3 z H3 M3
     cases e4:s2.tm with
     |nil=>erw[e4] at W;exact False.elim W
     |cons o3 r3=>
      cases o3 with
      |none=>erw[e4] at W;exact False.elim W
      |some x4=>
       erw[e4] at W
       have M5:=M3.down e4
       have h:=M5.rd
       erw[RDs] at h
       obtain⟨_,_,e,g1,_,_,e2,g2,_⟩:=h
       cases e;cases e2
       have b1:LB F.toFx ρ3 s2.n (y3 x4):=λl h=>M5.lb l (by erw[labsL];exact b8 _ h)
       cases x4 with
       |dct l' ks' vs'=>
        cases ek:tkey i with
        |none=>erw[zaN,ek] at W;exact False.elim W
        |some k=>
         cases ef:findK ks' vs' k with
         |none=>erw[zaN,ek,ef] at W;exact False.elim W
         |some d=>
          by_cases hc:isT ks'=true/\labsL vs'=[]
          .erw[zaN,ek,ef,if_pos hc] at W
           obtain⟨hT',hvs⟩:=hc
           obtain⟨el,kvs',hx',rfl,r'⟩:=g1.dctq hT'
           injection el with el
           obtain⟨b,rfl,hb,_⟩:=z3v g2 ek
           obtain⟨w,hv,hd,hm⟩:=z0k kvs' vs' d r' ef
           have bl:=b1 l' (by erw[y3];exact e9 ..)
           have ld:y3 d=[]:=by
            cases hl:y3 d with
            |nil=>rfl
            |cons j js=>exact absurd (labsL_mem hm j (by rw[hl];exact e9 ..)) (by rw[hvs];exact i7)
           have st:J5 H3 (upd H3 (ρ3 l') (.dT (z1H kvs' k))):=
            ⟨λb ys q=>by rw[y4 (z0q q hx' (by intro z;cases z))];exact q,λb o u q=>by rw[y4 (z0q q hx' (by intro z;cases z))];exact q⟩
           have pr:=z8U (k:=k) r'
           refine⟨kvs',k,b,w,by rw[el];exact hx',rfl,hb,hv,λ_=> ?_⟩
           rw[el]
           refine wM.out (s:=Stt.put {s2 with tm:=r3} l' (.dct l' (z3a (kvs'.map λp=>dkD p.1) k) (V7 (kvs'.map λp=>dkD p.1) vs' k))) W (M5.m.put2 bl.1 bl.2 st (z6b M5.m.kd hx') ?_ λj hj=> ?_) (RD.stay st _ _ hd λj hj=>by rw[ld] at hj;cases hj) λj hj=>by rw[ld] at hj;cases hj
           .erw[RD]
            refine⟨trivial, .inr ⟨z1H kvs' k,Z1,pr.1, ?_⟩⟩
            exact RDs.stay st _ _ pr.2 λj hj=>by rw[z0O hvs] at hj;cases hj
           .erw[y3,pr.1,z3w,z0O hvs,e7,l5] at hj
            rw[hj];exact bl
          .erw[zaN,ek,ef,if_neg hc] at W;exact False.elim W
       |_=>exact False.elim W
   .erw[zfU,if_neg hT] at W;exact False.elim W
  |_=>exact False.elim W
theorem se_pop1(hk:X.K=G.K)(hu:X.A.units+64<cLine)(ho:SE X G F o mo)(ha:SE X G F a mi)(m:M1 X o "pop" apos a cpos):SE X G F (.Call (.Attribute o "pop" apos) [a] [] cpos) (z2p mo mi):=
 PE.imp hk (zaM (show X.A.units+2<cLine by lia) ho ha m) λ_ _ _ h=>zaO h
end
end Mi
namespace L2
open PySem PySem.Spec PyProof.Rows
section
variable{prog:Program}{w:World}{A:Around}{E:Value->Shared->Prop}{s:Shared}{z TI TO p q t u:Addr}{i j:Nat}{xs ys:Array Value}{a b:Value}
structure ZT(h:Heap)(z TI TO p q t u:Addr)(i j:Nat)(xs ys:Array Value)(a b:Value):Prop where
 z:IsZip h z TI TO .none
 ti:IsPair h TI (.ref p) (.ref q)
 to:IsPair h TO a b
 p:h.IsTupleIter p t i
 q:h.IsTupleIter q u j
 t:h.IsTuple t xs
 u:h.IsTuple u ys
end
end L2
namespace Mi
open PySem L2
end Mi
namespace My
open PySem L2 PySem.Spec PyProof.Rows Mi
@[irreducible] def SE(X:Cx)(G:Gx)(F:Fy)(e:Expr)(m:M D):Prop:=Mi.SE X G F e m
theorem eSE(X:Cx)(G:Gx)(F:Fy)(e:Expr)(m:M D):SE X G F e m=Mi.SE X G F e m:=by unfold SE;rfl
@[irreducible] def SA(X:Cx)(G:Gx)(F:Fy)(e:List Expr)(m:M (List D)):Prop:=Mi.SA X G F e m
theorem eSA(X:Cx)(G:Gx)(F:Fy)(e:List Expr)(m:M (List D)):SA X G F e m=Mi.SA X G F e m:=by unfold SA;rfl
@[irreducible] def SB(X:Cx)(G:Gx)(F:Fy)(e:Expr)(m:M Bool):Prop:=Mi.SB X G F e m
theorem eSB(X:Cx)(G:Gx)(F:Fy)(e:Expr)(m:M Bool):SB X G F e m=Mi.SB X G F e m:=by unfold SB;rfl
@[irreducible] def SW(X:Cx)(G:Gx)(F:Fy)(e:Expr)(m:M Bool):Prop:=Mi.SW X G F e m
theorem eSW(X:Cx)(G:Gx)(F:Fy)(e:Expr)(m:M Bool):SW X G F e m=Mi.SW X G F e m:=by unfold SW;rfl
@[irreducible] def SS(X:Cx)(G:Gx)(F:Fy)(e:Stmt)(m:MS):Prop:=Mi.SS X G F e m
theorem eSS(X:Cx)(G:Gx)(F:Fy)(e:Stmt)(m:MS):SS X G F e m=Mi.SS X G F e m:=by unfold SS;rfl
@[irreducible] def SSs(X:Cx)(G:Gx)(F:Fy)(e:List Stmt)(m:MS):Prop:=Mi.SSs X G F e m
theorem zk9(X:Cx)(G:Gx)(F:Fy)(e:List Stmt)(m:MS):SSs X G F e m=Mi.SSs X G F e m:=by unfold SSs;rfl
@[irreducible] def SG(X:Cx)(G:Gx)(F:Fy)(e:Expr)(m:Tg):Prop:=Mi.SG X G F e m
theorem eSG(X:Cx)(G:Gx)(F:Fy)(e:Expr)(m:Tg):SG X G F e m=Mi.SG X G F e m:=by unfold SG;rfl
@[irreducible] def SGs(X:Cx)(G:Gx)(F:Fy)(e:List Expr)(m:List Tg):Prop:=Mi.SGs X G F e m
theorem zka(X:Cx)(G:Gx)(F:Fy)(e:List Expr)(m:List Tg):SGs X G F e m=Mi.SGs X G F e m:=by unfold SGs;rfl
@[irreducible] def SI(X:Cx)(G:Gx)(F:Fy)(tg e:Expr)(m:M ItK):Prop:=Mi.SI X G F tg e m
theorem eSI(X:Cx)(G:Gx)(F:Fy)(tg e:Expr)(m:M ItK):SI X G F tg e m=Mi.SI X G F tg e m:=by unfold SI;rfl
@[irreducible] def SO(X:Cx)(G:Gx)(F:Fy)(e:Option Expr)(m:Option (M D)):Prop:=Mi.SO X G F e m
theorem eSO(X:Cx)(G:Gx)(F:Fy)(e:Option Expr)(m:Option (M D)):SO X G F e m=Mi.SO X G F e m:=by unfold SO;rfl
@[irreducible] def STs(X:Cx)(G:Gx)(F:Fy)(e:List Expr)(m:M Bool):Prop:=Mi.STs X G F e m
theorem zkb(X:Cx)(G:Gx)(F:Fy)(e:List Expr)(m:M Bool):STs X G F e m=Mi.STs X G F e m:=by unfold STs;rfl
local macro_rules | `(tactic| walk_at "go") => `(tactic| (simp only [eSE, eSA, eSB, eSW, eSS, zk9, eSG, zka, eSI, eSO, zkb] at *))
section
variable{X:Cx}{G:Gx}{F:Fy}{e a b c:Expr}{pos:Pos}
theorem se_var(i:Nat){x:Str}(hk:X.K=G.K)(h:PE X (.Name x pos) (z7I i)):SE X G F (.Name x pos) (y1 i):=by
 walk_at "go"
 exact Mi.se_var i hk h
theorem se_c{d:D}{v:V}(hk:X.K=G.K)(h:PE X e (tC v))(hd:cV d=some v:=by rfl):SE X G F e (mC d):=by
 walk_at "go"
 exact Mi.se_c hk h hd
theorem so_none:SO X G F none none:=by
 walk_at "go"
 exact Mi.so_none
theorem so_some{m:M D}(h:SE X G F e m):SO X G F (some e) (some m):=by
 walk_at "go"
 exact Mi.so_some h
theorem se_slice{lo hi:Option Expr}{p2:Pos}{m:M D}{ml mh:Option (M D)}(hk:X.K=G.K)(he:SE X G F e m)(hl:SO X G F lo ml)(hh:SO X G F hi mh):SE X G F (.Subscript e (.Slice lo hi none p2) pos) (mSl m ml mh):=by
 walk_at "go"
 exact Mi.se_slice hk he hl hh
theorem se_tup{es:List Expr}{ms:List (M D)}{x1}(hk:X.K=G.K)(h:SA X G F es (Z7 ms)):SE X G F (.Tuple es x1 pos) (mCB ms j4):=by
 walk_at "go"
 exact Mi.se_tup hk h
theorem se_lst{es:List Expr}{ms:List (M D)}(hk:X.K=G.K)(h:SA X G F es (Z7 ms)):SE X G F (.List es pos) (mCB ms lstM):=by
 walk_at "go"
 exact Mi.se_lst hk h
theorem sb_truth{m:M D}(hk:X.K=G.K)(ha:SE X G F a m)(he: ∀whole,isTrue a X.env whole=(do let v<-whole;standAt a.pos;holding [v] (truthy v)):=by intro _;rfl):SB X G F a (G1 m):=by
 walk_at "go"
 exact Mi.sb_truth hk ha he
theorem SW.sb{m:M Bool}(h:SW X G F e m):SB X G F e m:=by
 walk_at "go"
 exact Mi.SW.sb h
theorem sw_and1{m:M Bool}(h:SB X G F a m):SW X G F (.BoolOp .And [a] pos) m:=by
 walk_at "go"
 exact Mi.sw_and1 h
theorem sw_or1{m:M Bool}(h:SB X G F a m):SW X G F (.BoolOp .Or [a] pos) m:=by
 walk_at "go"
 exact Mi.sw_or1 h
theorem sw_and{rest:List Expr}{m m':M Bool}(ha:SB X G F a m)(hb:SW X G F (.BoolOp .And (b::rest) pos) m'):SW X G F (.BoolOp .And (a::b::rest) pos) (z8l m m'):=by
 walk_at "go"
 exact Mi.sw_and ha hb
theorem sw_or{rest:List Expr}{m m':M Bool}(ha:SB X G F a m)(hb:SW X G F (.BoolOp .Or (b::rest) pos) m'):SW X G F (.BoolOp .Or (a::b::rest) pos) (mOr m m'):=by
 walk_at "go"
 exact Mi.sw_or ha hb
theorem sb_not{m:M Bool}(ha:SB X G F a m):SB X G F (.UnaryOp .Not a pos) (z2M m):=by
 walk_at "go"
 exact Mi.sb_not ha
theorem se_one{op}{m:M D}(h:SE X G F a m):SE X G F (.BoolOp op [a] pos) m:=by
 walk_at "go"
 exact Mi.se_one h
theorem se_and{rest:List Expr}{m m':M D}(ha:SE X G F a m)(hb:SE X G F (.BoolOp .And (b::rest) pos) m'):SE X G F (.BoolOp .And (a::b::rest) pos) (z1M m m'):=by
 walk_at "go"
 exact Mi.se_and ha hb
theorem se_or{rest:List Expr}{m m':M D}(ha:SE X G F a m)(hb:SE X G F (.BoolOp .Or (b::rest) pos) m'):SE X G F (.BoolOp .Or (a::b::rest) pos) (zfi m m'):=by
 walk_at "go"
 exact Mi.se_or ha hb
theorem se_not{m:M D}(ha:SE X G F a m):SE X G F (.UnaryOp .Not a pos) (z72 m):=by
 walk_at "go"
 exact Mi.se_not ha
theorem se_isi{p:Pos}{x y:Expr}{T:String}{m:M D}(hk:X.K=G.K)(hT:T= "int" \/T= "bool" \/T= "tuple" \/T= "list" \/T= "str")(hgl:Gl X "isinstance")(hm:X.mg "isinstance" =none)(ha:SE X G F x m)(hy:PE X y (tC (.ty T)))
 (he:starEach [x,y] X.env=(false,eval x X.env)::starEach [y] X.env:=by rfl) (he2:starEach [y] X.env=(false,eval y X.env)::starEach [] X.env:=by rfl) (hpl:(backTo pos (starEach [y] X.env)).any (·.1)=false:=by rfl):SE X G F (.Call (.Name "isinstance" p) [x,y] [] pos) (z7z T m):=by
 walk_at "go"
 exact Mi.se_isi hk hT hgl hm ha hy he he2 hpl
end
section
variable{X:Cx}{G:Gx}{F:Fy}{e a b c:Expr}{st:Stmt}{sts rest:List Stmt}{pos:Pos}
theorem ss_nil:SSs X G F [] sNx:=by
 walk_at "go"
 exact Mi.ss_nil
theorem ss_cons{m m':MS}(h1:SS X G F st m)(h2:SSs X G F rest m'):SSs X G F (st::rest) (Y4 m m'):=by
 walk_at "go"
 exact Mi.ss_cons h1 h2
theorem ss_one{m:MS}(h1:SS X G F st m):SSs X G F [st] m:=by
 walk_at "go"
 exact Mi.ss_one h1
theorem ss_expr{m:M D}(he:SE X G F e m)(hs:swapsWith e none pos.line X.env=pure false:=by rfl):SS X G F (.Expr e pos) (z4n m):=by
 walk_at "go"
 exact Mi.ss_expr he hs
theorem ss_ret{m:M D}(he:SE X G F e m):SS X G F (.Return (some e) pos) (J1 m):=by
 walk_at "go"
 exact Mi.ss_ret he
theorem ss_if{x y:List Stmt}{mc:M Bool}{m m':MS}(hc:SB X G F c mc)(ha:SSs X G F x m)(hb:SSs X G F y m'):SS X G F (.If c x y pos) (sIf mc m m'):=by
 walk_at "go"
 exact Mi.ss_if hc ha hb
theorem sg_name{i:Nat}{x:Str}{p:Pos}(h:PG X (.Name x p) (z0r i)):SG X G F (.Name x p) (.nm i):=by
 walk_at "go"
 exact Mi.sg_name h
theorem sgs_nil:SGs X G F [] []:=by
 walk_at "go"
 exact Mi.sgs_nil
theorem sgs_cons{es:List Expr}{g:Tg}{gs:List Tg}(h1:SG X G F e g)(h2:SGs X G F es gs)(hs:(assignEach (e::es) X.env).map (·.2)=assign e X.env::(assignEach es X.env).map (·.2):=by rfl):SGs X G F (e::es) (g::gs):=by
 walk_at "go"
 exact Mi.sgs_cons h1 h2 hs
theorem sg_tup{es:List Expr}{k:Nat}{gs:List Tg}(hk:X.K=G.K)(hc:X.calm=true)(h:SGs X G F es gs)(hn:(assignEach es X.env).length=gs.length:=by rfl)(hst:(assignEach es X.env).findIdx? (·.1)=none:=by rfl):SG X G F (.Tuple es k pos) (.tp gs):=by
 walk_at "go"
 exact Mi.sg_tup hk hc h hn hst
theorem ss_asg{tg:Expr}{g:Tg}{m:M D}(he:SE X G F e m)(hg:SG X G F tg g)(hs:swapsWithSole [tg] e pos.line X.env=pure false:=by rfl)(hw:swappedStores [tg] e X.env=pure none:=by rfl)
 (h1:(assignEach [tg] X.env).map (·.2)=[assign tg X.env]:=by rfl):SS X G F (.Assign [tg] e pos) (Q4 g m):=by
 walk_at "go"
 exact Mi.ss_asg he hg hs hw h1
theorem ss_set{i:Nat}{x:Str}{p:Pos}{m:M D}(h: ∀{te:TE},PE X e te->PS X (.Assign [.Name x p] e pos) (zh9 te (z0r i)))(he:SE X G F e m):SS X G F (.Assign [.Name x p] e pos) (Q4 (.nm i) m):=by
 walk_at "go"
 exact Mi.ss_set h he
end
section
variable{X:Cx}{G:Gx}{F:Fy}{e a b c tg iter:Expr}{pos:Pos}
theorem si_seq{m:M D}(hk:X.K=G.K)(h:SE X G F e m):SI X G F tg e (z1N m):=by
 walk_at "go"
 exact Mi.si_seq hk h
theorem si_rng1{p:Pos}{ms:List (M D)}(hg:Gl X "range")(hm:X.mg "range" =none)(ha:SA X G F [a] (Z7 ms))(hs:starEach [a] X.env=[(false,eval a X.env)]:=by rfl):SI X G F tg (.Call (.Name "range" p) [a] [] pos) (z02 ms):=by
 walk_at "go"
 exact Mi.si_rng1 hg hm ha hs
theorem ss_for{body:List Stmt}{mi:M ItK}{g:Tg}{mb:MS}(hp:PassesOwn (model X.prog X.w) X.A X.env X.xe)(hc:X.calm=true)(hi:SI X G F tg iter mi)(hg:SG X G F tg g)(hb:SSs X G F body mb)(hst: ∀x,foldedSetIterable iter X.env x=pure x:=by intro _;rfl):SS X G F (.For tg iter body [] pos) (z7A mi g mb):=by
 walk_at "go"
 exact Mi.ss_for hp hc hi hg hb hst
end
section
variable{X:Cx}{G:Gx}{F:Fy}{e a b c tg iter elt:Expr}{pos:Pos}
theorem sts_nil:STs X G F [] (rt true):=by
 walk_at "go"
 exact Mi.sts_nil
theorem se_comp{scope:Scope}{own frees:List Str}{ix:List Nat}{ifs:List Expr}{mi:M ItK}{g:Tg}{mt:M Bool}{me:M D}(hk:X.K=G.K)(hc:X.calm=true)(S:J0 X.env.scope scope own frees X.N ix)(hi:SI X G F tg iter mi)
 (hg: ∀(F:Fy) cl C s₀ H₀ fp pn,SG (Q7 X scope own frees cl C s₀ H₀ fp pn) G F tg g) (ht: ∀(F:Fy) cl C s₀ H₀ fp pn,STs (Q7 X scope own frees cl C s₀ H₀ fp pn) G F ifs mt) (he: ∀(F:Fy) cl C s₀ H₀ fp pn,SE (Q7 X scope own frees cl C s₀ H₀ fp pn) G F elt me)
 (hs: ∀x,foldedSetIterable iter X.env x=pure x:=by intro _;rfl):SE X G F (.ListComp elt [⟨tg,iter,ifs,0⟩] scope pos) (z03 mi g mt me own.length ix):=by
 walk_at "go"
 exact Mi.se_comp hk hc S hi hg ht he hs
end
section
variable{G:Gx}{ρ:Nat->Addr}{H:Hp}
section
variable(k:KD G.K H){n:Nat}(inj: ∀i j,i<n->j<n->ρ i=ρ j->i=j)
include k inj
end
end
section
variable{G:Gx}{ρ ρ':Nat->Addr}{H H':Hp}
section
variable(k:KD G.K H){n:Nat}(inj: ∀i j,i<n->j<n->ρ i=ρ j->i=j){ts:List D}{vs:List V}(r:RDs G ρ H ts vs)(lb: ∀l∈labsL ts,l<n)
include k inj r lb
end
variable{F:Fy}{σv tv:List (Option V)}{s:Stt}{np:Nat}
theorem se_call{X:Cx}{e:Expr}{es:List Expr}{pos p:Pos}{CX:CXT}{k:Nat}{fa:Addr}{fd:FuncData}{ps:List Str}{x:Str}{E:XK}{f:FM}{ms:List (M D)}(hk:X.K=G.K)(Fn:FnOk X.prog X.w X.K X.mg X.base CX k fa fd ps (spM G ps.length f))(hr:U9 k X.A)(hg:Gl X x)(hm:X.mg x=some (.ref fa))(hkp:W.keepIn X.K (.ref fa)=true)(hb:J4 X.K fd ps [])(hx:Q6 CX X E)
 (ha:SA X G F (e::es) (Z7 ms)) (hln:ms.length=ps.length) (hdb:(x==("__debug__" :Str))=false:=by decide) (he:starEach (e::es) X.env=(false,eval e X.env)::starEach es X.env:=by rfl) (hpl:(backTo pos (starEach es X.env)).any (·.1)=false:=by rfl):
 SE X G F (.Call (.Name x p) (e::es) [] pos) (Z4 f ms):=by
 walk_at "go"
 exact Mi.se_call hk Fn hr hg hm hkp hb hx ha hln hdb he hpl
theorem fn_M{P:Program}{w:World}{K:W.Frag}{mg:Str->Option Value}{base:Heap}{x qual:Str}{st:Stmt}{fa:Addr}{fd:FuncData}{N ps:List Str}{k:Nat}{mb:MS}(Fn:Fun K x qual st fa fd)(S:Z6 N ps (y2 st))(hG:G.K=K)
 (hb: ∀(cdv:Value) (A:Around) (outer:List Env) (s:Shared) (H:Hp) (E:XK) (F:Fy),U9 k (A.deeper (envOfC qual (y2 st) s.heap.objs.size fa cdv))->SSs (cxOf CX0 P w K mg base N qual (y2 st) fa cdv A outer s H E).nox G F (W3 st) mb):
 FnOk P w K mg base CX0 (k+1) fa fd ps (spM G ps.length (z0t N.length mb)):=by
 walk_at "go"
 exact Mi.fn_M Fn S hG hb
end
section
variable{X:Cx}{G:Gx}{F:Fy}{e o:Expr}{es:List Expr}{apos cpos:Pos}
theorem ss_setI{ob ix:Expr}{pos tpos:Pos}{mo mi me:M D}(he:SE X G F e me)(ho:SE X G F ob mo)(hi:SE X G F ix mi)(hg: ∀{to ti:TE},PE X ob to->PE X ix ti->PG X (.Subscript ob ix tpos) (zhs to ti z9W))(hs:swapsWithSole [.Subscript ob ix tpos] e pos.line X.env=pure false:=by rfl)(hw:swappedStores [.Subscript ob ix tpos] e X.env=pure none:=by rfl)
 (h1:(assignEach [.Subscript ob ix tpos] X.env).map (·.2)=[assign (.Subscript ob ix tpos) X.env]:=by rfl):SS X G F (.Assign [.Subscript ob ix tpos] e pos) (z4p me mo mi zam):=by
 walk_at "go"
 exact Mi.ss_setI he ho hi hg hs hw h1
end
section
variable{X:Cx}{G:Gx}{F:Fy}{e a b c:Expr}{pos:Pos}{ma mb mc m:M D}
theorem se_add(hk:X.K=G.K)(ha:SE X G F a ma)(hb:SE X G F b mb):SE X G F (.BinOp a .Add b pos) (Z0 ma mb v1):=by
 walk_at "go"
 exact Mi.se_add hk ha hb
theorem se_sub(hk:X.K=G.K)(ha:SE X G F a ma)(hb:SE X G F b mb):SE X G F (.BinOp a .Sub b pos) (Z0 ma mb za8):=by
 walk_at "go"
 exact Mi.se_sub hk ha hb
theorem se_mul(hk:X.K=G.K)(ha:SE X G F a ma)(hb:SE X G F b mb):SE X G F (.BinOp a .Mult b pos) (Z0 ma mb z3q):=by
 walk_at "go"
 exact Mi.se_mul hk ha hb
theorem se_fdiv(hk:X.K=G.K)(ha:SE X G F a ma)(hb:SE X G F b mb):SE X G F (.BinOp a .FloorDiv b pos) (Z0 ma mb z1L):=by
 walk_at "go"
 exact Mi.se_fdiv hk ha hb
theorem se_mod(hk:X.K=G.K)(ha:SE X G F a ma)(hb:SE X G F b mb):SE X G F (.BinOp a .Mod b pos) (Z0 ma mb z2c):=by
 walk_at "go"
 exact Mi.se_mod hk ha hb
theorem se_pow(hk:X.K=G.K)(ha:SE X G F a ma)(hb:SE X G F b mb):SE X G F (.BinOp a .Pow b pos) (Z0 ma mb z8j):=by
 walk_at "go"
 exact Mi.se_pow hk ha hb
theorem se_neg(hk:X.K=G.K)(ha:SE X G F a ma):SE X G F (.UnaryOp .USub a pos) (bd ma zbq):=by
 walk_at "go"
 exact Mi.se_neg hk ha
theorem se_cmp{op:CmpOp}{g:D->D->M D}(hc:Cm X G F op g)(ha:SE X G F a ma)(hb:SE X G F b mb)(hm:behindInMarks op b=false):SE X G F (.Compare a [op] [b] pos) (Z0 ma mb g):=by
 walk_at "go"
 exact Mi.se_cmp hc ha hb hm
theorem sb_cmp{op:CmpOp}{g:D->D->M D}(hc:Cm X G F op g)(ha:SE X G F a ma)(hb:SE X G F b mb)(hm:behindInMarks op b=false):SB X G F (.Compare a [op] [b] pos) (W8 (Z0 ma mb g)):=by
 walk_at "go"
 exact Mi.sb_cmp hc ha hb hm
theorem se_cmp2{op op':CmpOp}{g g':D->D->M D}(hc:Cm X G F op g)(hc':Cm X G F op' g')(ha:SE X G F a ma)(hb:SE X G F b mb)(hcc:SE X G F c mc)(hm:lastMarks [op,op'] [b,c]=false:=by with_unfolding_all rfl):SE X G F (.Compare a [op,op'] [b,c] pos) (U3 ma mb mc g g'):=by
 walk_at "go"
 exact Mi.se_cmp2 hc hc' ha hb hcc hm
theorem sb_cmp2{op op':CmpOp}{g g':D->D->M D}(hc:Cm X G F op g)(hc':Cm X G F op' g')(ha:SE X G F a ma)(hb:SE X G F b mb)(hcc:SE X G F c mc)(hm:lastMarks [op,op'] [b,c]=false:=by with_unfolding_all rfl):SB X G F (.Compare a [op,op'] [b,c] pos) (W8 (U3 ma mb mc g g')):=by
 walk_at "go"
 exact Mi.sb_cmp2 hc hc' ha hb hcc hm
theorem se_idx(hk:X.K=G.K)(ha:SE X G F a ma)(hb:SE X G F b mb)(hs:z1i b):SE X G F (.Subscript a b pos) (Z0 ma mb ixD):=by
 walk_at "go"
 exact Mi.se_idx hk ha hb hs
theorem se_cb{x:Str}{p:Pos}{es:List Expr}{ms:List (M D)}{g:List D->M D}{id:String}(hk:X.K=G.K)(hc:Cb X G F (.builtin id) g)(hgl:Gl X x)(hm:X.mg x=none)(hv:bootBuiltins x=some (.builtin id))(ha:SA X G F (e::es) (Z7 ms))(hn:x≠ "__name__" :=by decide)(hdb:(x==("__debug__" :Str))=false:=by decide)
 (he:starEach (e::es) X.env=(false,eval e X.env)::starEach es X.env:=by rfl) (hpl:(backTo pos (starEach es X.env)).any (·.1)=false:=by rfl):SE X G F (.Call (.Name x p) (e::es) [] pos) (mCB ms g):=by
 walk_at "go"
 exact Mi.se_cb hk hc hgl hm hv ha hn hdb he hpl
theorem se_ct{x:Str}{p:Pos}{es:List Expr}{ms:List (M D)}{g:List D->M D}{T:String}(hk:X.K=G.K)(hc:Cb X G F (.type T) g)(hgl:Gl X x)(hm:X.mg x=none)(hv:bootBuiltins x=some (.type T))(ha:SA X G F (e::es) (Z7 ms))(hn:x≠ "__name__" :=by decide)(hdb:(x==("__debug__" :Str))=false:=by decide)
 (he:starEach (e::es) X.env=(false,eval e X.env)::starEach es X.env:=by rfl) (hpl:(backTo pos (starEach es X.env)).any (·.1)=false:=by rfl):SE X G F (.Call (.Name x p) (e::es) [] pos) (mCB ms g):=by
 walk_at "go"
 exact Mi.se_ct hk hc hgl hm hv ha hn hdb he hpl
end
section
variable{X:Cx}{G:Gx}{F:Fy}{e a b c:Expr}{pos:Pos}
theorem se_isiT{p:Pos}{x y:Expr}{Ts:List String}{m:M D}(hk:X.K=G.K)(hT: ∀T∈Ts,T= "tuple" \/T= "list")(hne:Ts≠[])(hgl:Gl X "isinstance")(hm:X.mg "isinstance" =none)(ha:SE X G F x m)(hy:PE X y (zi0 Ts))
 (he:starEach [x,y] X.env=(false,eval x X.env)::starEach [y] X.env:=by rfl) (he2:starEach [y] X.env=(false,eval y X.env)::starEach [] X.env:=by rfl) (hpl:(backTo pos (starEach [y] X.env)).any (·.1)=false:=by rfl):SE X G F (.Call (.Name "isinstance" p) [x,y] [] pos) (z8A Ts m):=by
 walk_at "go"
 exact Mi.se_isiT hk hT hne hgl hm ha hy he he2 hpl
end
section
variable{X:Cx}{G:Gx}{F:Fy}{e o:Expr}{es:List Expr}{apos cpos:Pos}
theorem se_cl{name:Str}{id:String}{mo:M D}{ms:List (M D)}{g:D->List D->M D}(hk:X.K=G.K)(slot:Slot "list" name id)(hty:typeOf (.builtin id)=pure (.type "method_descriptor"))(hm:Cl X G F id g)(ho:SE X G F o mo)(ha:SA X G F (e::es) (Z7 ms))
 (hbase:attributeBase o name X.env (eval o X.env)=eval o X.env:=by rfl)
 (hfew:((backTo cpos (starEach (e::es) X.env)).all (λx=> !x.1)&&(backToKw cpos (keywordEach [] X.env)).all (λx=>x.1.isSome)
  &&decide ((e::es).length+([]:List Keyword).length+(if([]:List Keyword).isEmpty then 0 else 1)<30))=true:=by rfl)
 (hline:(apos.endLine==cpos.line)=true:=by rfl) (hs:starEach (e::es) X.env=(false,eval e X.env)::starEach es X.env:=by rfl) (hplain:(backTo cpos (starEach es X.env)).any (·.1)=false:=by rfl):SE X G F (.Call (.Attribute o name apos) (e::es) [] cpos) (z5n mo ms g):=by
 walk_at "go"
 exact Mi.se_cl hk slot hty hm ho ha hbase hfew hline hs hplain
end
section
variable{X:Cx}{G:Gx}{F:Fy}{a b tg:Expr}{pos:Pos}
theorem se_rev{e st:Expr}{p2:Pos}{m:M D}(hk:X.K=G.K)(hst:PO X (some st) (z9U (tUn (rU λi=>V.int (-i)) (tC (.int 1)))))(he:SE X G F e m):SE X G F (.Subscript e (.Slice none none (some st) p2) pos) (bd m zhd):=by
 walk_at "go"
 exact Mi.se_rev hk hst he
end
section
variable{X:Cx}{G:Gx}{F:Fy}{E:L2.St->XK}{C:Addr}{x y:Str}{np cpos pos p:Pos}{j:Nat}
theorem ss_raise(hh:X.A.handled=none)(hx:XP X G F E)(hr:z2j X E)(hcl:G.cl x=some C)(hg:Gl X x)(hm:X.mg x=some (.ref C))(hq:W.excIn X.K C bmV "ValueError.__new__" =true)(hd:(x==("__debug__" :Str))=false:=by decide):
 SS X G F (.Raise (some (.Call (.Name x np) [.Constant (.str y) j p] [] cpos)) none pos) (z2l x):=by
 walk_at "go"
 exact Mi.ss_raise hh hx hr hcl hg hm hq hd
end
theorem fn_X{G:Gx}{P:Program}{w:World}{K:W.Frag}{mg:Str->Option Value}{base:Heap}{x qual:Str}{st:Stmt}{fa:Addr}{fd:FuncData}{N ps:List Str}{k:Nat}{mb:MS}(Fn:Fun K x qual st fa fd)(S:Z6 N ps (y2 st))(hG:G.K=K)
 (hb: ∀(cdv:Value) (A:Around) (outer:List Env) (s:Shared) (H:Hp) (E:XK) (F:Fy),U9 k (A.deeper (envOfC qual (y2 st) s.heap.objs.size fa cdv))->XP (cxOf (CX1 P w) P w K mg base N qual (y2 st) fa cdv A outer s H E) G F (λ_=>E)->z2j (cxOf (CX1 P w) P w K mg base N qual (y2 st) fa cdv A outer s H E) (λ_=>E)->SSs (cxOf (CX1 P w) P w K mg base N qual (y2 st) fa cdv A outer s H E) G F (W3 st) mb):
 FnOk P w K mg base (CX1 P w) (k+1) fa fd ps (spX G ps.length (zbz N.length mb)):=by
 walk_at "go"
 exact Mi.fn_X Fn S hG hb
section
variable{X:Cx}{G:Gx}{F:Fy}{np hpos pos:Pos}{b₀:Stmt}{suite body:List Stmt}{x n:Str}{ie:Nat}{CB:Addr}{mb mh:MS}{k:Str->Bool}
theorem ss_try(hst:X.stack=X.env::X.outer)(hfr:X.env.frame=some X.env.locals)(hex:X.ex=[])(hK:X.K=G.K)(hg:Gl X x)(hm:X.mg x=some (.ref CB))(hN:X.N.Nodup)(hi:X.N[ie]? =some n)(hloc:X.env.scope.names.lookup n=some .local)
 (hk: ∀c C,G.cl c=some C->k c=true->W.exmOne X.K (.ref C) (.ref CB)=some true)
 (hb: ∀(pl:List (Addr×Obj)) (E':Value->Shared->Prop) (F':Fy) (E:L2.St->XK),XP (Xt X pl E') G F' E->SSs (Xt X pl E') G F' body mb) (hh: ∀a,SSs (Xm X a) G F (b₀::suite) mh) (hd:(x==("__debug__" :Str))=false:=by decide):
 SS X G F (.Try body [.ExceptHandler (some (.Name x np)) (some n) (b₀::suite) hpos] [] [] pos) (ze9 k ie mb mh):=by
 walk_at "go"
 exact Mi.ss_try hst hfr hex hK hg hm hN hi hloc hk hb hh hd
theorem se_isX1{p:Pos}{x y:Expr}{m:M D}{c:V}{tb:Str->Option Bool}(hK:X.K=G.K)(hc:ze8 c=true)(ht: ∀r C b,G.cl r=some C->tb r=some b->z2k X.K C/\W.kitOne X.K (.ref C) (cvV c)=some b)(hgl:Gl X "isinstance")(hm:X.mg "isinstance" =none)(ha:SE X G F x m)(hy:PE X y (tC c))
 (he:starEach [x,y] X.env=(false,eval x X.env)::starEach [y] X.env:=by rfl) (he2:starEach [y] X.env=(false,eval y X.env)::starEach [] X.env:=by rfl) (hpl:(backTo pos (starEach [y] X.env)).any (·.1)=false:=by rfl):SE X G F (.Call (.Name "isinstance" p) [x,y] [] pos) (z6g tb m):=by
 walk_at "go"
 exact Mi.se_isX1 hK hc ht hgl hm ha hy he he2 hpl
theorem se_isXT{p:Pos}{x y:Expr}{m:M D}{us:List Value}{tb:Str->Option Bool}(hK:X.K=G.K)(ht: ∀r C b,G.cl r=some C->tb r=some b->z2k X.K C/\W.kitAny X.K (.ref C) us=some b)(hgl:Gl X "isinstance")(hm:X.mg "isinstance" =none)(ha:SE X G F x m)(hy:PE X y (zi4 us))
 (he:starEach [x,y] X.env=(false,eval x X.env)::starEach [y] X.env:=by rfl) (he2:starEach [y] X.env=(false,eval y X.env)::starEach [] X.env:=by rfl) (hpl:(backTo pos (starEach [y] X.env)).any (·.1)=false:=by rfl):SE X G F (.Call (.Name "isinstance" p) [x,y] [] pos) (z6g tb m):=by
 walk_at "go"
 exact Mi.se_isXT hK ht hgl hm ha hy he he2 hpl
end
section
variable{G:Gx}{ρ ρ':Nat->Addr}{H H':Hp}
variable{F:Fy}{σv tv:List (Option V)}{s:Stt}{np:Nat}
theorem se_callH{X:Cx}{e:Expr}{es:List Expr}{pos p:Pos}{CX:CXT}{k:Nat}{fa:Addr}{fd:FuncData}{ps:List Str}{x:Str}{E:XK}{f:FM}{ms:List (M D)}(hk:X.K=G.K)(Fn:z1m X.prog X.w X.K X.mg X.base CX k fa fd ps (spM G ps.length f))(hr:V0 k X.A)(hg:Gl X x)(hm:X.mg x=some (.ref fa))(hkp:W.keepIn X.K (.ref fa)=true)(hb:J4 X.K fd ps [])(hx:Q6 CX X E)
 (ha:SA X G F (e::es) (Z7 ms)) (hln:ms.length=ps.length) (hdb:(x==("__debug__" :Str))=false:=by decide) (he:starEach (e::es) X.env=(false,eval e X.env)::starEach es X.env:=by rfl) (hpl:(backTo pos (starEach es X.env)).any (·.1)=false:=by rfl):
 SE X G F (.Call (.Name x p) (e::es) [] pos) (Z4 f ms):=by
 walk_at "go"
 exact Mi.se_callH hk Fn hr hg hm hkp hb hx ha hln hdb he hpl
theorem fn_H{P:Program}{w:World}{K:W.Frag}{mg:Str->Option Value}{base:Heap}{x qual:Str}{st:Stmt}{fa:Addr}{fd:FuncData}{N ps:List Str}{k:Nat}{mb:MS}(Fn:Fun K x qual st fa fd)(S:Z6 N ps (y2 st))(hG:G.K=K)
 (hb: ∀(cdv:Value) (A:Around) (outer:List Env) (s:Shared) (H:Hp) (E:XK) (F:Fy),V0 k (A.deeper (envOfC qual (y2 st) s.heap.objs.size fa cdv))->SSs (cxH CX0 P w K mg base N qual (y2 st) fa cdv A outer s H E).nox G F (W3 st) mb):
 z1m P w K mg base CX0 (k+1) fa fd ps (spM G ps.length (z0t N.length mb)):=by
 walk_at "go"
 exact Mi.fn_H Fn S hG hb
end
section
variable{X:Cx}{G:Gx}{F:Fy}{a b e:Expr}{ma mb:M D}{pos:Pos}
theorem se_dnew(hk:X.K=G.K):SE X G F (.Dict [] [] pos) z5v:=by
 walk_at "go"
 exact Mi.se_dnew hk
theorem ss_dput{ob ix:Expr}{pos tpos:Pos}{mo mi me:M D}(hu:X.A.units+64<cLine)(he:SE X G F e me)(ho:SE X G F ob mo)(hi:SE X G F ix mi)(hs:swapsWith e (some (.Subscript ob ix tpos)) pos.line X.env=pure false:=by rfl):
 SS X G F (.Assign [.Subscript ob ix tpos] e pos) (z4p me mo mi z0N):=by
 walk_at "go"
 exact Mi.ss_dput hu he ho hi hs
theorem ss_setN{i:Nat}{x:Str}{p:Pos}{m:M D}(hN:X.N.Nodup)(hi:X.N[i]? =some x)(hx:Loc X.env.scope x)(hf:X.fn x=true\/X.env.scope.names.lookup x=some .local)(he:SE X G F e m)(hs:swapsWith e (some (.Name x p)) pos.line X.env=pure false:=by rfl):SS X G F (.Assign [.Name x p] e pos) (Q4 (.nm i) m):=by
 walk_at "go"
 exact Mi.ss_setN hN hi hx hf he hs
end
section
variable{X:Cx}{G:Gx}{F:Fy}{e o value:Expr}{pos:Pos}
theorem se_fld{f:Str}{ok:Str->Bool}{m:M D}(he:SE X G F e m)(hc: ∀c C,G.cl c=some C->ok c=true->Cls X.K C/\v2 X.K C f)(hb:attributeBase e f X.env (eval e X.env)=eval e X.env:=by rfl):SE X G F (.Attribute e f pos) (z7c m f ok):=by
 walk_at "go"
 exact Mi.se_fld he hc hb
end
section
variable{X:Cx}{G:Gx}{F:Fy}{e o value:Expr}{pos pos':Pos}
theorem ss_fld{f:Str}{ok:Str->Bool}{me mo:M D}(ho:SE X G F o mo)(he:SE X G F value me)(hc: ∀c C,G.cl c=some C->ok c=true->Cls X.K C/\v2 X.K C f)(hs:swapsWith value (some (.Attribute o f pos')) pos.line X.env=pure false:=by rfl):SS X G F (.Assign [.Attribute o f pos'] value pos) (zaD me mo f ok):=by
 walk_at "go"
 exact Mi.ss_fld ho he hc hs
end
section
variable{X:Cx}{G:Gx}{F:Fy}{CX:CXT}{k:Nat}{fa C:Addr}{fd:FuncData}{ps:List Str}{E:XK}{f:FM}{cn m:Str}{mo:M D}{ms:List (M D)}{o e:Expr}{es:List Expr}{pos apos:Pos}{pl:Sem Bool}
theorem se_mth(hC:G.cl cn=some C)(c:Cls X.K C)(hm:z7u X.K C m fa)(Fn:FnOk X.prog X.w X.K X.mg X.base CX k fa fd ps (spM G ps.length f))(hr:U9 k X.A)(hb:J4 X.K fd ps [])(hx:Q6 CX X E)(ho:SE X G F o mo)(ha:SA X G F (e::es) (Z7 ms))(hln:ms.length+1=ps.length)
 (hst:starEach (e::es) X.env=(false,eval e X.env)::starEach es X.env:=by rfl) (hpl:(backTo pos (starEach es X.env)).any (·.1)=false:=by rfl)
 (ht:eval (.Call (.Attribute o m apos) (e::es) [] pos) X.env=(do
  let ov<-eval o X.env
  standAt apos.atName
  let(f,first)<-holding [ov] (getMethod ov m pl)
  callWith pos f first (backTo pos (starEach (e::es) X.env)) (backToKw pos (keywordEach [] X.env))):=by rfl):SE X G F (.Call (.Attribute o m apos) (e::es) [] pos) (z6m cn m f mo ms):=by
 walk_at "go"
 exact Mi.se_mth hC c hm Fn hr hb hx ho ha hln hst hpl ht
theorem se_mth0(hC:G.cl cn=some C)(c:Cls X.K C)(hm:z7u X.K C m fa)(Fn:FnOk X.prog X.w X.K X.mg X.base CX k fa fd ps (spM G ps.length f))(hr:U9 k X.A)(hb:J4 X.K fd ps [])(hx:Q6 CX X E)(ho:SE X G F o mo)(hln:1=ps.length)
 (ht:eval (.Call (.Attribute o m apos) [] [] pos) X.env=(do
  let ov<-eval o X.env
  standAt apos.atName
  let(f,first)<-holding [ov] (getMethod ov m pl)
  callWith pos f first (backTo pos (starEach [] X.env)) (backToKw pos (keywordEach [] X.env))):=by rfl):SE X G F (.Call (.Attribute o m apos) [] [] pos) (z6m cn m f mo []):=by
 walk_at "go"
 exact Mi.se_mth0 hC c hm Fn hr hb hx ho hln ht
end
section
variable{X:Cx}{G:Gx}{F:Fy}{CX:CXT}{k:Nat}{fa C:Addr}{fd:FuncData}{ps:List Str}{E:XK}{f:FM}{cn x:Str}{ms:List (M D)}{e:Expr}{es:List Expr}{pos p:Pos}
theorem se_make0(hk:X.K=G.K)(hC:G.cl cn=some C)(Mk:Mk X.K C fa)(Fn:FnOk X.prog X.w X.K X.mg X.base CX k fa fd ps (spM G ps.length f))(hr:U9 (k+1) X.A)(hg:Gl X x)(hm:X.mg x=some (.ref C))(hb:J4 X.K fd ps [])(hx:Q6 CX X E)
 (hln:1=ps.length) (hdb:(x==("__debug__" :Str))=false:=by decide):SE X G F (.Call (.Name x p) [] [] pos) (z5y cn f []):=by
 walk_at "go"
 exact Mi.se_make0 hk hC Mk Fn hr hg hm hb hx hln hdb
end
section
variable{X:Cx}{G:Gx}{F:Fy}{k:Nat}{fa C:Addr}{fd:FuncData}{ps:List Str}{E:L2.St->XK}{f:FM}{cn m:Str}{mo:M D}{ms:List (M D)}{o e:Expr}{es:List Expr}{pos apos:Pos}{pl:Sem Bool}
theorem se_mthX(hx:XP X G F E)(hC:G.cl cn=some C)(c:Cls X.K C)(hm:z7u X.K C m fa)(Fn:FnOk X.prog X.w X.K X.mg X.base (CX1 X.prog X.w) k fa fd ps (spX G ps.length f))(hr:U9 k X.A)(hb:J4 X.K fd ps [])(ho:SE X G F o mo)(ha:SA X G F (e::es) (Z7 ms))(hln:ms.length+1=ps.length)
 (hst:starEach (e::es) X.env=(false,eval e X.env)::starEach es X.env:=by rfl) (hpl:(backTo pos (starEach es X.env)).any (·.1)=false:=by rfl)
 (ht:eval (.Call (.Attribute o m apos) (e::es) [] pos) X.env=(do
  let ov<-eval o X.env
  standAt apos.atName
  let(f,first)<-holding [ov] (getMethod ov m pl)
  callWith pos f first (backTo pos (starEach (e::es) X.env)) (backToKw pos (keywordEach [] X.env))):=by rfl):SE X G F (.Call (.Attribute o m apos) (e::es) [] pos) (z5z cn m f mo ms):=by
 walk_at "go"
 exact Mi.se_mthX hx hC c hm Fn hr hb ho ha hln hst hpl ht
end
section
variable{X:Cx}{G:Gx}{F:Fy}{st:Stmt}
theorem ss_no:SS X G F st sNo:=by
 walk_at "go"
 exact Mi.ss_no
end
inductive SEs(X:Cx)(G:Gx)(F:Fy):List Expr->List (M D)->Prop
 |nil:SEs X G F [] []
 |cons {e:Expr} {m:M D} {es:List Expr} {ms:List (M D)}:SE X G F e m->nst e=true->SEs X G F es ms->SEs X G F (e::es) (m::ms)
theorem zkc{X:Cx}{G:Gx}{F:Fy}{es:List Expr}{ms:List (M D)}(h:SEs X G F es ms):Mi.SEs X G F es ms:=by
 induction h with
 |nil=>exact .nil
 |cons h n _ ih=>rw[eSE] at h;exact .cons h n ih
theorem sa_of{X:Cx}{G:Gx}{F:Fy}{es:List Expr}{ms:List (M D)}(hk:X.K=G.K)(h:SEs X G F es ms):SA X G F es (Z7 ms):=by
 rw[eSA];exact Mi.sa_of hk (zkc h)
section
variable{X:Cx}{G:Gx}{F:Fy}{e a b c d:Expr}{pos p:Pos}{m ma mb mc md:M D}
theorem sv(i:Nat){x:Str}(hk:X.K=G.K:=by rfl)(hN:X.N[i]? =some x:=by rfl)(hv:Vis X.env.scope x:=by first|exact Or.inl rfl|exact Or.inr (Or.inl rfl)|exact Or.inr (Or.inr rfl))(hd:(x==("__debug__" :Str))=false:=by decide)(hcd:(x==("__classdict__" :Str))=false:=by decide):SE X G F (.Name x pos) (y1 i):=se_var i hk (pv i hN hv hd hcd)
theorem s1(h:SE X G F a ma)(n:nst a=true:=by rfl)(hk:X.K=G.K:=by rfl):SA X G F [a] (Z7 [ma]):=sa_of hk (.cons h n .nil)
theorem s2(h:SE X G F a ma)(h2:SE X G F b mb)(n:nst a=true:=by rfl)(n2:nst b=true:=by rfl)(hk:X.K=G.K:=by rfl):SA X G F [a,b] (Z7 [ma,mb]):=sa_of hk (.cons h n (.cons h2 n2 .nil))
theorem s3(h:SE X G F a ma)(h2:SE X G F b mb)(h3:SE X G F c mc)(n:nst a=true:=by rfl)(n2:nst b=true:=by rfl)(n3:nst c=true:=by rfl)(hk:X.K=G.K:=by rfl):SA X G F [a,b,c] (Z7 [ma,mb,mc]):=sa_of hk (.cons h n (.cons h2 n2 (.cons h3 n3 .nil)))
theorem s4(h:SE X G F a ma)(h2:SE X G F b mb)(h3:SE X G F c mc)(h4:SE X G F d md)(n:nst a=true:=by rfl)(n2:nst b=true:=by rfl)(n3:nst c=true:=by rfl)(n4:nst d=true:=by rfl)(hk:X.K=G.K:=by rfl):SA X G F [a,b,c,d] (Z7 [ma,mb,mc,md]):=sa_of hk (.cons h n (.cons h2 n2 (.cons h3 n3 (.cons h4 n4 .nil))))
theorem sst(i:Nat){x:Str}(hN:X.N.Nodup)(he:SE X G F e m)(hi:X.N[i]? =some x:=by rfl)(hx:Loc X.env.scope x:=by exact Or.inl rfl)(hs:swapsWith e (some (.Name x p)) pos.line X.env=pure false:=by rfl)(hf:X.fn x=true\/X.env.scope.names.lookup x=some .local:=by first|exact .inl rfl|exact .inr rfl|assumption):SS X G F (.Assign [.Name x p] e pos) (Q4 (.nm i) m):=
 ss_set (λ{te} h=>z5Z hN hi hx h hs hf) he
theorem sgn(i:Nat){x:Str}(hN:X.N.Nodup)(hi:X.N[i]? =some x:=by rfl)(hx:Loc X.env.scope x:=by exact Or.inl rfl)(hf:X.fn x=true\/X.env.scope.names.lookup x=some .local:=by first|exact .inl rfl|exact .inr rfl|assumption):SG X G F (.Name x pos) (.nm i):=sg_name (U1 hN hi hx hf)
theorem sln{es:List Expr}{ms:List (M D)}(hm:X.mg "len" =none)(ha:SA X G F (e::es) (Z7 ms))(hgl:Gl X "len" :=by rfl)(he:starEach (e::es) X.env=(false,eval e X.env)::starEach es X.env:=by rfl)(hpl:(backTo pos (starEach es X.env)).any (·.1)=false:=by rfl)(hk:X.K=G.K:=by rfl):SE X G F (.Call (.Name "len" p) (e::es) [] pos) (mCB ms z2S):=
 se_cb hk (zfy hk) hgl hm PyProof.Rows.Boot.«len» ha (by decide) (by decide) he hpl
theorem sc0{v:V}{d:D}(h:PE X e (tC v))(hd:cV d=some v:=by rfl)(hk:X.K=G.K:=by rfl):SE X G F e (mC d):=se_c hk h hd
theorem sxc{v:V}{q:D}(ha:SE X G F a ma)(h:PE X b (tC v))(hd:cV q=some v:=by rfl)(hs:z1i b:=by exact λ_ _=>rfl)(hk:X.K=G.K:=by rfl):SE X G F (.Subscript a b pos) (Z0 ma (mC q) ixD):=se_idx hk ha (se_c hk h hd) hs
theorem sxx(ha:SE X G F a ma)(hb:SE X G F b mb)(hs:z1i b:=by exact λ_ _=>rfl)(hk:X.K=G.K:=by rfl):SE X G F (.Subscript a b pos) (Z0 ma mb ixD):=se_idx hk ha hb hs
end
section
variable{G:Gx}{P:Program}{w:World}{K:W.Frag}{mg:Str->Option Value}{base:Heap}{x qual:Str}{st:Stmt}{fa:Addr}{fd:FuncData}{N ps:List Str}{k np:Nat}{f:FM}
theorem okM(mb:MS)(Fn:Fun K x qual st fa fd)(S:Z6 N ps (y2 st))(hb: ∀(cdv:Value) (A:Around) (outer:List Env) (s:Shared) (H:Hp) (E:XK) (F:Fy),U9 k (A.deeper (envOfC qual (y2 st) s.heap.objs.size fa cdv))->SSs (cxOf CX0 P w K mg base N qual (y2 st) fa cdv A outer s H E).nox G F (W3 st) mb)(hG:G.K=K:=by rfl)(hf:f=z0t N.length mb:=by rfl)(hn:np=ps.length:=by rfl):
 FnOk P w K mg base CX0 (k+1) fa fd ps (spM G np f):=by
 subst hf hn;exact fn_M Fn S hG hb
theorem okX(mb:MS)(Fn:Fun K x qual st fa fd)(S:Z6 N ps (y2 st))(hb: ∀(cdv:Value) (A:Around) (outer:List Env) (s:Shared) (H:Hp) (E:XK) (F:Fy),U9 k (A.deeper (envOfC qual (y2 st) s.heap.objs.size fa cdv))->XP (cxOf (CX1 P w) P w K mg base N qual (y2 st) fa cdv A outer s H E) G F (λ_=>E)->z2j (cxOf (CX1 P w) P w K mg base N qual (y2 st) fa cdv A outer s H E) (λ_=>E)->SSs (cxOf (CX1 P w) P w K mg base N qual (y2 st) fa cdv A outer s H E) G F (W3 st) mb)(hG:G.K=K:=by rfl)(hf:f=zbz N.length mb:=by rfl)(hn:np=ps.length:=by rfl):
 FnOk P w K mg base (CX1 P w) (k+1) fa fd ps (spX G np f):=by
 subst hf hn;exact fn_X Fn S hG hb
theorem okH(mb:MS)(Fn:Fun K x qual st fa fd)(S:Z6 N ps (y2 st))(hb: ∀(cdv:Value) (A:Around) (outer:List Env) (s:Shared) (H:Hp) (E:XK) (F:Fy),V0 k (A.deeper (envOfC qual (y2 st) s.heap.objs.size fa cdv))->SSs (cxH CX0 P w K mg base N qual (y2 st) fa cdv A outer s H E).nox G F (W3 st) mb)(hG:G.K=K:=by rfl)(hf:f=z0t N.length mb:=by rfl)(hn:np=ps.length:=by rfl):
 z1m P w K mg base CX0 (k+1) fa fd ps (spM G np f):=by
 subst hf hn;exact fn_H Fn S hG hb
end
section
variable{X:Cx}{G:Gx}{F:Fy}{a o iter elt tg:Expr}{pos apos cpos:Pos}{mo mi m0:M D}{scope:Scope}{own frees:List Str}
theorem se_rowI{elts:List Expr}{x1:Nat}{tpos:Pos}(hk:X.K=G.K)(hc:X.calm=true)(S:J0 X.env.scope scope own [] X.N [])(hi:SE X G F iter m0)(ho:own.length=2)
 (hg: ∀cl C s₀ H₀ fp pn,PG (Q7 X scope own [] cl C s₀ H₀ fp pn) (.Tuple elts x1 tpos) (zh8 X.K 2 (z58 (z0r 0) (z58 (z0r 1) zh7)))) (he: ∀cl C s₀ H₀ fp pn,PE (Q7 X scope own [] cl C s₀ H₀ fp pn) elt (zaK X.K))
 (hs: ∀x,foldedSetIterable (.Call (.Attribute iter "items" apos) [] [] cpos) X.env x=pure x:=by intro _;rfl) (hbase:attributeBase iter "items" X.env (eval iter X.env)=eval iter X.env:=by rfl)
 (hfew:((backTo cpos (starEach [] X.env)).all (λx=> !x.1)&&(backToKw cpos (keywordEach [] X.env)).all (λx=>x.1.isSome)&&decide (([]:List Expr).length+([]:List Keyword).length+(if([]:List Keyword).isEmpty then 0 else 1)<30))=true:=by rfl)
 (hline:(apos.endLine==cpos.line)=true:=by rfl):SE X G F (.ListComp elt [⟨.Tuple elts x1 tpos, .Call (.Attribute iter "items" apos) [] [] cpos,[],0⟩] scope pos) (bd m0 zdh):=by
 rw[eSE];rw[eSE] at hi
 exact Mi.se_rowI hk hc S hi ho hg he hs hbase hfew hline
theorem se_rowK{i:Nat}{x:Str}{np:Pos}(hk:X.K=G.K)(hc:X.calm=true)(S:J0 X.env.scope scope own frees X.N [i])(hi:PE X (.Name x np) (z7I i))(ho:own.length=1)
 (hg: ∀cl C s₀ H₀ fp pn,PG (Q7 X scope own frees cl C s₀ H₀ fp pn) tg (z0r 0)) (he: ∀cl C s₀ H₀ fp pn,PE (Q7 X scope own frees cl C s₀ H₀ fp pn) elt (zaL X.K))
 (hs: ∀y,foldedSetIterable (.Name x np) X.env y=pure y:=by intro _;rfl):SE X G F (.ListComp elt [⟨tg, .Name x np,[],0⟩] scope pos) (bd (y1 i) z7f):=by
 rw[eSE]
 exact Mi.se_rowK hk hc S hi ho hg he hs
end
section
variable{X:Cx}{G:Gx}{F:Fy}{a b o:Expr}{pos apos cpos:Pos}{mo mi:M D}
theorem se_pop1(hk:X.K=G.K)(hu:X.A.units+64<cLine)(ho:SE X G F o mo)(ha:SE X G F a mi)(m:M1 X o "pop" apos a cpos):SE X G F (.Call (.Attribute o "pop" apos) [a] [] cpos) (z2p mo mi):=by
 rw[eSE];rw[eSE] at ho ha
 exact Mi.se_pop1 hk hu ho ha m
end
end My
namespace My
open PySem L2 Mi
def top(i:Nat):Stmt:=PySem.Challenge.pw_signbench_k09_words_refused_and_taken_ou.main.body.getD i (.Pass ⟨0,0,0,0⟩)
abbrev z2q:Stmt:=top 0
abbrev X5:Stmt:=top 28
abbrev z07:Stmt:=top 29
abbrev z1p:Stmt:=top 30
abbrev z0x:Stmt:=top 38
abbrev z5A:Stmt:=top 41
abbrev z3z:Stmt:=top 42
abbrev z2r:Stmt:=top 43
abbrev z3A:Stmt:=top 44
abbrev z3B:Stmt:=top 45
abbrev z3C:Stmt:=top 46
abbrev U4:Stmt:=top 47
abbrev z0y:Stmt:=top 48
abbrev z5B:Stmt:=top 49
abbrev z1q:Stmt:=top 50
abbrev z08:Stmt:=top 51
abbrev z5C:Stmt:=top 52
abbrev z2s:Stmt:=top 53
abbrev zdj:Stmt:=top 54
abbrev J8:Stmt:=stC (top 39) 0
abbrev z09:Stmt:=stC (top 39) 1
abbrev X6:Stmt:=stC (top 39) 2
abbrev V1:Stmt:=stC (top 39) 3
abbrev J9:Stmt:=stC (top 39) 5
abbrev z4G:List Str:=["k"]
abbrev z4H:List Str:=z4G
abbrev z0P:List Str:=["thing"]
abbrev X7:List Str:=z0P
abbrev z1B:List Str:=["thing", "low", "high"]
abbrev z0a:List Str:=z1B
abbrev z3b:List Str:=["thing", "fewest", "most", "high"]
abbrev z1r:List Str:=z3b
abbrev z5D:List Str:=["thing", "sounds", "signs", "kind", "cost"]
abbrev z0z:List Str:=["thing"]
abbrev zdk:List Str:=["_law_script", "_law_at", "_law_cell", "_law_mix", "_law_k"]
abbrev z5E:List Str:=["_law_script", "_law_at"]
abbrev zaP:List Str:=["_law_bag_here", "_law_many", "_law_digit"]
abbrev z3D:List Str:=["_law_bag_here", "_law_many"]
abbrev z4I:List Str:=["_law_thing_here"]
abbrev z2t:List Str:=z4I
abbrev zaQ:List Str:=["_law_bag_here", "_law_wide", "_law_sounds", "_law_signs"]
abbrev z3E:List Str:=["_law_bag_here"]
abbrev zaR:List Str:=["_law_e", "_law_some", "_law_others"]
abbrev z3F:List Str:=["_law_e"]
abbrev zaS:List Str:=["_law_deed", "_law_book", "_law_thing_here", "_law_e"]
abbrev z3G:List Str:=["_law_deed", "_law_book", "_law_thing_here"]
abbrev z0b:List Str:=["_law_thing_here", "_law_least", "_law_many", "_law_most"]
abbrev U5:List Str:=z0b
abbrev z2u:List Str:=["_law_thing_here"]
abbrev z0A:List Str:=z2u
abbrev zdl:List Str:=["_law_bag_here", "_law_thing_here", "_law_way", "_law_some"]
abbrev z5F:List Str:=["_law_bag_here", "_law_thing_here"]
abbrev z7g:List Str:=["_law_bag_here", "_law_thing_here", "_law_way", "_law_at", "_law_parts"]
abbrev z3c:List Str:=["_law_bag_here", "_law_thing_here"]
abbrev z4J:List Str:=["_law_book", "_law_model", "_law_word_here", "_law_twins"]
abbrev z0c:List Str:=["_law_book", "_law_model"]
abbrev z8V:List Str:=["_law_model", "_law_deed", "_law_thing_here"]
abbrev z5G:List Str:=z8V
abbrev z8W:List Str:=["_law_bag_here", "_law_model", "_law_way", "_law_often", "_law_some", "_law_word_here", "_law_turn"]
abbrev z2v:List Str:=["_law_bag_here", "_law_model"]
abbrev zic:List Str:=["_law_script", "_law_at", "_law_bag_here", "_law_full", "_law_book", "_law_model", "_law_k", "_law_word_here", "_law_turn", "_law_deed", "_law_thing_here", "_law_due_here"]
abbrev zdm:List Str:=["_law_script"]
abbrev V8:List Str:=["self"]
abbrev V9:List Str:=V8
abbrev z1C:List Str:=["self", "word"]
abbrev z0d:List Str:=z1C
abbrev z0Q:List Str:=["self", "sounds", "signs", "kind"]
abbrev z0R:List Str:=z0Q
abbrev z0u:List Str:=["self"]
abbrev z0v:List Str:=z0u
abbrev z1s:List Str:=["self", "sounds", "place", "rest"]
abbrev z1t:List Str:=["self", "sounds", "place"]
local macro_rules | `(tactic| walk_at "sc") => `(tactic| exact ⟨rfl, rfl, rfl, by decide +kernel, rfl, by decide +kernel, by decide +kernel⟩)
theorem zeg:Z6 z4G z4H (y2 z2q):=by walk_at "sc"
theorem z2W:Z6 z0P X7 (y2 X5):=by walk_at "sc"
theorem z3H:Z6 z1B z0a (y2 z07):=by walk_at "sc"
theorem z5H:Z6 z3b z1r (y2 z1p):=by walk_at "sc"
theorem G3:Z6 z5D z0z (y2 z0x):=by walk_at "sc"
theorem X8:Z6 zdk z5E (y2 z5A):=by walk_at "sc"
theorem z4K:Z6 zaP z3D (y2 z3z):=by walk_at "sc"
theorem z7h:Z6 z4I z2t (y2 z2r):=by walk_at "sc"
theorem z0S:Z6 zaQ z3E (y2 z3A):=by walk_at "sc"
theorem z0T:Z6 zaR z3F (y2 z3B):=by walk_at "sc"
theorem z4L:Z6 zaS z3G (y2 z3C):=by walk_at "sc"
theorem z1O:Z6 z0b U5 (y2 U4):=by walk_at "sc"
theorem z4M:Z6 z2u z0A (y2 z0y):=by walk_at "sc"
theorem z3I:Z6 zdl z5F (y2 z5B):=by walk_at "sc"
theorem j5:Z6 z7g z3c (y2 z1q):=by walk_at "sc"
theorem X9:Z6 z4J z0c (y2 z08):=by walk_at "sc"
theorem zaT:Z6 z8V z5G (y2 z5C):=by walk_at "sc"
theorem j8:Z6 z8W z2v (y2 z2s):=by walk_at "sc"
theorem K6:Z6 zic zdm (y2 zdj):=by walk_at "sc"
theorem z0U:Z6 V8 V9 (y2 J8):=by walk_at "sc"
theorem z0V:Z6 z1C z0d (y2 z09):=by walk_at "sc"
theorem z2X:Z6 z0Q z0R (y2 X6):=by walk_at "sc"
theorem z2w:Z6 z0u z0v (y2 V1):=by walk_at "sc"
theorem z6u:Z6 z1s z1t (y2 J9):=by walk_at "sc"
structure Dx(K:W.Frag)(mg:Str->Option Value)(x:Str)(st:Stmt)(ps:List Str) where
 f:Addr
 d:FuncData
 F:Fun K x x st f d
 b:J4 K d ps []
 m:mg x=some (.ref f)
theorem scl{X:Cx}{G:Gx}{F:Fy}{e:Expr}{es:List Expr}{pos p:Pos}{CX:CXT}{k j:Nat}{x:Str}{st:Stmt}{ps:List Str}{E:XK}{f:FM}{ms:List (M D)}(d:Dx X.K X.mg x st ps)(Fn:FnOk X.prog X.w X.K X.mg X.base CX j d.f d.d ps (spM G ps.length f))(hr:U9 k X.A)(ha:SA X G F (e::es) (Z7 ms))(hg:Gl X x:=by rfl)(hx:Q6 CX X E:=by exact z4h)(hln:ms.length=ps.length:=by rfl)(hk:X.K=G.K:=by rfl)(hj:j<=k:=by lia)(hdb:(x==("__debug__" :Str))=false:=by decide)(he:starEach (e::es) X.env=(false,eval e X.env)::starEach es X.env:=by rfl)(hpl:(backTo pos (starEach es X.env)).any (·.1)=false:=by rfl):SE X G F (.Call (.Name x p) (e::es) [] pos) (Z4 f ms):=se_call hk (Fn.mono hj) hr hg d.m d.F.kp d.b hx ha hln hdb he hpl
abbrev kF(K:W.Frag)(a b:Addr)(r:Bool):Prop:=W.kitOne K (.ref a) (.ref b)=some r
abbrev kN(K:W.Frag)(a:Addr)(l:List Addr):Prop:=W.kitAny K (.ref a) (l.map .ref)=some false
abbrev kV(K:W.Frag)(a:Addr):Prop:=W.kitOne K (.ref a) (.type "ValueError")=some true
abbrev fA(K:W.Frag)(a:Addr):Prop:=W.findIn K (.ref a) "__getattribute__" =some (some (.builtin "BaseException.__getattribute__"))
abbrev fB(K:W.Frag)(a:Addr):Prop:=W.findIn K (.ref a) "__getattr__" =some none
abbrev fC(K:W.Frag)(a:Addr):Prop:=W.findIn K (.ref a) "__class__" =some (some (.builtin "object.__class__"))
abbrev xA(K:W.Frag)(a:Addr):Prop:=W.excIn K a bmV "ValueError.__new__" =true
abbrev mO(K:W.Frag)(a:Addr)(s:String):Prop:=W.mroIn K a (.type s)=some true
abbrev eB(K:W.Frag)(a b:Addr):Prop:=W.exmOne K (.ref a) (.ref b)=some true
abbrev nI(K:W.Frag)(s:Str)(a:Addr):Prop:=W.nsIn K mainGlobals s=some (some (.ref a))
set_option genInjectivity false in
set_option genSizeOf false in
set_option genSizeOfSpec false in
structure Wd(K:W.Frag)(mg:Str->Option Value) where
 kbo:Addr
 kbg:mg "Book" =some (.ref kbo)
 cc_Book:Cls K kbo
 kaK:Dx K mg "_wall" z2q z4H
 kaf:Dx K mg "is_number" X5 X7
 kan:Dx K mg "is_whole" z07 z0a
 kaC:Dx K mg "is_row" z1p z1r
 kap:Dx K mg "is_word" z0x z0z
 kbj:Dx K mg "_law_bag" z5A z5E
 kba:Dx K mg "_law_take" z3z z3D
 kaM:Dx K mg "_law_whole" z2r z2t
 ka7:Dx K mg "_law_word" z3A z3E
 ka2:Dx K mg "_law_kind" z3B z3F
 kaZ:Dx K mg "_law_told" z3C z3G
 kac:Dx K mg "_law_are_numbers" U4 U5
 kar:Dx K mg "_law_is_word" z0y z0A
 kbl:Dx K mg "_law_odd" z5B z5F
 kav:Dx K mg "_law_spoilt" z1q z3c
 kak:Dx K mg "_law_no_twins" z08 z0c
 kbh:Dx K mg "_law_due" z5C z5G
 kaN:Dx K mg "_law_thing" z2s z2v
 x_law:Dx K mg "law" zdj zdm
 kab:Dm K kbo "__init__" "Book.__init__" J8 ["self"]
 kam:Dm K kbo "put" "Book.put" z09 ["self", "word"]
 kae:Dm K kbo "take" "Book.take" X6 ["self", "sounds", "signs", "kind"]
 kad:Dm K kbo "words" "Book.words" V1 ["self"]
 kaa:Dm K kbo "standing" "Book.standing" J9 ["self", "sounds", "place"]
 n_ValueError:mg "ValueError" =none
 n_abs:mg "abs" =none
 n_all:mg "all" =none
 n_bool:mg "bool" =none
 c_LAST_SOUND: ∃t,mg "LAST_SOUND" =some (.int 39 t)
 c_LAST_WORD_COST: ∃t,mg "LAST_WORD_COST" =some (.int 9999 t)
 c_LAST_WORD_KIND: ∃t,mg "LAST_WORD_KIND" =some (.int 7 t)
 c_LAST_WORD_SIGN: ∃t,mg "LAST_WORD_SIGN" =some (.int 999 t)
 c_MOST_WORDS: ∃t,mg "MOST_WORDS" =some (.int 60 t)
 c_MOST_WORD_SIGNS: ∃t,mg "MOST_WORD_SIGNS" =some (.int 4 t)
 c_MOST_WORD_SOUNDS: ∃t,mg "MOST_WORD_SOUNDS" =some (.int 6 t)
 n_int:mg "int" =none
 n_isinstance:mg "isinstance" =none
 n_len:mg "len" =none
 n_list:mg "list" =none
 n_max:mg "max" =none
 n_min:mg "min" =none
 n_range:mg "range" =none
 n_repr:mg "repr" =none
 n_sorted:mg "sorted" =none
 n_tuple:mg "tuple" =none
 kaY:Addr
 kaI:mg "Barred" =some (.ref kaY)
 kai:Addr
 kah:mg "BenchError" =some (.ref kai)
 kbk:Addr
 ka6:mg "Fight" =some (.ref kbk)
 kbn:Addr
 kbf:mg "Full" =some (.ref kbn)
 kbd:Addr
 kaX:mg "Marked" =some (.ref kbd)
 kaR:Addr
 kaw:mg "Missing" =some (.ref kaR)
 kax:Addr
 kao:mg "NoChoice" =some (.ref kax)
 kas:Addr
 kal:mg "NoCutting" =some (.ref kas)
 kbc:Addr
 kaW:mg "NoDeed" =some (.ref kbc)
 kbe:Addr
 kaF:mg "NoMark" =some (.ref kbe)
 ka5:Addr
 kaU:mg "NoNode" =some (.ref ka5)
 kaO:Addr
 kaD:mg "NoPlace" =some (.ref kaO)
 kay:Addr
 kaq:mg "NoSaying" =some (.ref kay)
 kaj:Addr
 kag:mg "NoStanding" =some (.ref kaj)
 kaP:Addr
 kaE:mg "NoTable" =some (.ref kaP)
 ka4:Addr
 kaT:mg "NoText" =some (.ref ka4)
 ka9:Addr
 kaJ:mg "NoTurn" =some (.ref ka9)
 ka0:Addr
 kaL:mg "NoWish" =some (.ref ka0)
 ka1:Addr
 kaS:mg "NoWord" =some (.ref ka1)
 kaV:Addr
 kaA:mg "Nothing" =some (.ref kaV)
 kaH:Addr
 kat:mg "TooLong" =some (.ref kaH)
 kaQ:Addr
 kaz:mg "TooMany" =some (.ref kaQ)
 kbm:Addr
 ka8:mg "Twice" =some (.ref kbm)
 kbi:Addr
 ka3:mg "Waits" =some (.ref kbi)
 kaB:xA K kaR
 cxob_Missing:mO K kaR "object"
 cxba_Missing:mO K kaR "BaseException"
 cxf1_Missing:fA K kaR
 cxf2_Missing:fB K kaR
 cxf3_Missing:fC K kaR
 ch_Missing_BenchError:eB K kaR kai
 ck_0_Missing:kF K kaR ka1 false
 ck_1_Missing:kF K kaR kbm false
 ck_2_Missing:kF K kaR kaQ false
 ck_3_Missing:kF K kaR kaR true
 ck_4_Missing:kN K kaR [kaO,kax,kbe,kbd,kaY,kaH,kaj,kbc,kbn,ka5]
 ck_5_Missing:kN K kaR [ka4,kaV,ka0,kbk,kas,kbi,ka9,kaP,kay]
 ck_6_Missing:kF K kaR kai true
 ck_7_Missing:kV K kaR
 kaG:xA K ka1
 cxob_NoWord:mO K ka1 "object"
 cxba_NoWord:mO K ka1 "BaseException"
 cxf1_NoWord:fA K ka1
 cxf2_NoWord:fB K ka1
 cxf3_NoWord:fC K ka1
 ch_NoWord_BenchError:eB K ka1 kai
 ck_0_NoWord:kF K ka1 ka1 true
 ck_1_NoWord:kF K ka1 kbm false
 ck_2_NoWord:kF K ka1 kaQ false
 ck_3_NoWord:kF K ka1 kaR false
 ck_4_NoWord:kN K ka1 [kaO,kax,kbe,kbd,kaY,kaH,kaj,kbc,kbn,ka5]
 ck_5_NoWord:kN K ka1 [ka4,kaV,ka0,kbk,kas,kbi,ka9,kaP,kay]
 ck_6_NoWord:kF K ka1 kai true
 ck_7_NoWord:kV K ka1
 kau:xA K kaQ
 cxob_TooMany:mO K kaQ "object"
 cxba_TooMany:mO K kaQ "BaseException"
 cxf1_TooMany:fA K kaQ
 cxf2_TooMany:fB K kaQ
 cxf3_TooMany:fC K kaQ
 ch_TooMany_BenchError:eB K kaQ kai
 ck_0_TooMany:kF K kaQ ka1 false
 ck_1_TooMany:kF K kaQ kbm false
 ck_2_TooMany:kF K kaQ kaQ true
 ck_3_TooMany:kF K kaQ kaR false
 ck_4_TooMany:kN K kaQ [kaO,kax,kbe,kbd,kaY,kaH,kaj,kbc,kbn,ka5]
 ck_5_TooMany:kN K kaQ [ka4,kaV,ka0,kbk,kas,kbi,ka9,kaP,kay]
 ck_6_TooMany:kF K kaQ kai true
 ck_7_TooMany:kV K kaQ
 kbb:xA K kbm
 cxob_Twice:mO K kbm "object"
 cxba_Twice:mO K kbm "BaseException"
 cxf1_Twice:fA K kbm
 cxf2_Twice:fB K kbm
 cxf3_Twice:fC K kbm
 ch_Twice_BenchError:eB K kbm kai
 ck_0_Twice:kF K kbm ka1 false
 ck_1_Twice:kF K kbm kbm true
 ck_2_Twice:kF K kbm kaQ false
 ck_3_Twice:kF K kbm kaR false
 ck_4_Twice:kN K kbm [kaO,kax,kbe,kbd,kaY,kaH,kaj,kbc,kbn,ka5]
 ck_5_Twice:kN K kbm [ka4,kaV,ka0,kbk,kas,kbi,ka9,kaP,kay]
 ck_6_Twice:kF K kbm kai true
 ck_7_Twice:kV K kbm
 na_Book_costs:v2 K kbo "costs"
 mk_Book:Mk K kbo kab.f
 cnd:[kaR,ka1,kaQ,kbm,kbo].Nodup
section
variable{K:W.Frag}{mg:Str->Option Value}
abbrev GT(T:Wd K mg):Gx:=mkG K [("Missing",T.kaR),("NoWord",T.ka1),("TooMany",T.kaQ),("Twice",T.kbm),("Book",T.kbo)] T.cnd (.cons (z3u T.kaB) (.cons (z3u T.kaG) (.cons (z3u T.kau) (.cons (z3u T.kbb) (.cons (zdb T.cc_Book) .nil)))))
theorem z7i(T:Wd K mg):(GT T).cl "Missing" =some T.kaR:=rfl
theorem z8X(T:Wd K mg):(GT T).cl "NoWord" =some T.ka1:=rfl
theorem z7j(T:Wd K mg):(GT T).cl "TooMany" =some T.kaQ:=rfl
theorem zaU(T:Wd K mg):(GT T).cl "Twice" =some T.kbm:=rfl
theorem z1u(T:Wd K mg):(GT T).cl "Book" =some T.kbo:=rfl
def W6(c:Str):Bool:=[("Book" :Str)].contains c
theorem g8(T:Wd K mg): ∀c C,(GT T).cl c=some C->W6 c=true->Cls K C/\v2 K C "costs" :=λc C h1 h2=>by
 have h3:([("Book",())]:List (Str×Unit)).lookup c=some ():=by
  unfold W6 at h2;erw[I0,O3,P1,L7,beq_iff_eq] at h2
  subst h2;rfl
 exact Al2.at (Φ:=λC (_:Unit)=>Cls K C/\v2 K C "costs") (.skip rfl (.skip rfl (.skip rfl (.skip rfl (.cons (b:=()) ⟨T.cc_Book,T.na_Book_costs⟩ .nil))))) h1 h3
def G6(c:Str):Bool:=[("Missing" :Str),("NoWord" :Str),("TooMany" :Str),("Twice" :Str)].contains c
theorem z3J(T:Wd K mg): ∀c C,(GT T).cl c=some C->G6 c=true->eB K C T.kai:=λc C h1 h2=>by
 have h3:([("Missing",()),("NoWord",()),("TooMany",()),("Twice",())]:List (Str×Unit)).lookup c=some ():=by
  unfold G6 at h2;erw[I0,O3,P1,L7,beq_iff_eq] at h2
  rcases h2 with rfl|rfl|rfl|rfl<;>rfl
 exact Al2.at (Φ:=λC (_:Unit)=>eB K C T.kai) (.cons (b:=()) T.ch_Missing_BenchError (.cons (b:=()) T.ch_NoWord_BenchError (.cons (b:=()) T.ch_TooMany_BenchError (.cons (b:=()) T.ch_Twice_BenchError (.skip rfl .nil))))) h1 h3
def zid(c:Str):Option Bool:=[(("Missing" :Str),false),(("NoWord" :Str),true),(("TooMany" :Str),false),(("Twice" :Str),false)].lookup c
theorem zkd(T:Wd K mg): ∀r C b,(GT T).cl r=some C->zid r=some b->z2k K C/\W.kitOne K (.ref C) (cvV (.ref T.ka1))=some b:=λr C b h1 h2=>Al2.at (Φ:=λC b=>z2k K C/\W.kitOne K (.ref C) (cvV (.ref T.ka1))=some b) (.cons ⟨⟨T.cxob_Missing,T.cxba_Missing,T.cxf1_Missing,T.cxf2_Missing,T.cxf3_Missing⟩,T.ck_0_Missing⟩ (.cons ⟨⟨T.cxob_NoWord,T.cxba_NoWord,T.cxf1_NoWord,T.cxf2_NoWord,T.cxf3_NoWord⟩,T.ck_0_NoWord⟩ (.cons ⟨⟨T.cxob_TooMany,T.cxba_TooMany,T.cxf1_TooMany,T.cxf2_TooMany,T.cxf3_TooMany⟩,T.ck_0_TooMany⟩ (.cons ⟨⟨T.cxob_Twice,T.cxba_Twice,T.cxf1_Twice,T.cxf2_Twice,T.cxf3_Twice⟩,T.ck_0_Twice⟩ (.skip rfl .nil))))) h1 h2
def zie(c:Str):Option Bool:=[(("Missing" :Str),false),(("NoWord" :Str),false),(("TooMany" :Str),false),(("Twice" :Str),true)].lookup c
theorem zke(T:Wd K mg): ∀r C b,(GT T).cl r=some C->zie r=some b->z2k K C/\W.kitOne K (.ref C) (cvV (.ref T.kbm))=some b:=λr C b h1 h2=>Al2.at (Φ:=λC b=>z2k K C/\W.kitOne K (.ref C) (cvV (.ref T.kbm))=some b) (.cons ⟨⟨T.cxob_Missing,T.cxba_Missing,T.cxf1_Missing,T.cxf2_Missing,T.cxf3_Missing⟩,T.ck_1_Missing⟩ (.cons ⟨⟨T.cxob_NoWord,T.cxba_NoWord,T.cxf1_NoWord,T.cxf2_NoWord,T.cxf3_NoWord⟩,T.ck_1_NoWord⟩ (.cons ⟨⟨T.cxob_TooMany,T.cxba_TooMany,T.cxf1_TooMany,T.cxf2_TooMany,T.cxf3_TooMany⟩,T.ck_1_TooMany⟩ (.cons ⟨⟨T.cxob_Twice,T.cxba_Twice,T.cxf1_Twice,T.cxf2_Twice,T.cxf3_Twice⟩,T.ck_1_Twice⟩ (.skip rfl .nil))))) h1 h2
def zif(c:Str):Option Bool:=[(("Missing" :Str),false),(("NoWord" :Str),false),(("TooMany" :Str),true),(("Twice" :Str),false)].lookup c
theorem zkf(T:Wd K mg): ∀r C b,(GT T).cl r=some C->zif r=some b->z2k K C/\W.kitOne K (.ref C) (cvV (.ref T.kaQ))=some b:=λr C b h1 h2=>Al2.at (Φ:=λC b=>z2k K C/\W.kitOne K (.ref C) (cvV (.ref T.kaQ))=some b) (.cons ⟨⟨T.cxob_Missing,T.cxba_Missing,T.cxf1_Missing,T.cxf2_Missing,T.cxf3_Missing⟩,T.ck_2_Missing⟩ (.cons ⟨⟨T.cxob_NoWord,T.cxba_NoWord,T.cxf1_NoWord,T.cxf2_NoWord,T.cxf3_NoWord⟩,T.ck_2_NoWord⟩ (.cons ⟨⟨T.cxob_TooMany,T.cxba_TooMany,T.cxf1_TooMany,T.cxf2_TooMany,T.cxf3_TooMany⟩,T.ck_2_TooMany⟩ (.cons ⟨⟨T.cxob_Twice,T.cxba_Twice,T.cxf1_Twice,T.cxf2_Twice,T.cxf3_Twice⟩,T.ck_2_Twice⟩ (.skip rfl .nil))))) h1 h2
def zig(c:Str):Option Bool:=[(("Missing" :Str),true),(("NoWord" :Str),false),(("TooMany" :Str),false),(("Twice" :Str),false)].lookup c
theorem zkg(T:Wd K mg): ∀r C b,(GT T).cl r=some C->zig r=some b->z2k K C/\W.kitOne K (.ref C) (cvV (.ref T.kaR))=some b:=λr C b h1 h2=>Al2.at (Φ:=λC b=>z2k K C/\W.kitOne K (.ref C) (cvV (.ref T.kaR))=some b) (.cons ⟨⟨T.cxob_Missing,T.cxba_Missing,T.cxf1_Missing,T.cxf2_Missing,T.cxf3_Missing⟩,T.ck_3_Missing⟩ (.cons ⟨⟨T.cxob_NoWord,T.cxba_NoWord,T.cxf1_NoWord,T.cxf2_NoWord,T.cxf3_NoWord⟩,T.ck_3_NoWord⟩ (.cons ⟨⟨T.cxob_TooMany,T.cxba_TooMany,T.cxf1_TooMany,T.cxf2_TooMany,T.cxf3_TooMany⟩,T.ck_3_TooMany⟩ (.cons ⟨⟨T.cxob_Twice,T.cxba_Twice,T.cxf1_Twice,T.cxf2_Twice,T.cxf3_Twice⟩,T.ck_3_Twice⟩ (.skip rfl .nil))))) h1 h2
def zih(c:Str):Option Bool:=[(("Missing" :Str),false),(("NoWord" :Str),false),(("TooMany" :Str),false),(("Twice" :Str),false)].lookup c
theorem zkh(T:Wd K mg): ∀r C b,(GT T).cl r=some C->zih r=some b->z2k K C/\W.kitAny K (.ref C) ([V.ref T.kaO,V.ref T.kax,V.ref T.kbe,V.ref T.kbd,V.ref T.kaY,V.ref T.kaH,V.ref T.kaj,V.ref T.kbc,V.ref T.kbn,V.ref T.ka5].map cvV)=some b:=λr C b h1 h2=>Al2.at (Φ:=λC b=>z2k K C/\W.kitAny K (.ref C) ([V.ref T.kaO,V.ref T.kax,V.ref T.kbe,V.ref T.kbd,V.ref T.kaY,V.ref T.kaH,V.ref T.kaj,V.ref T.kbc,V.ref T.kbn,V.ref T.ka5].map cvV)=some b) (.cons ⟨⟨T.cxob_Missing,T.cxba_Missing,T.cxf1_Missing,T.cxf2_Missing,T.cxf3_Missing⟩,T.ck_4_Missing⟩ (.cons ⟨⟨T.cxob_NoWord,T.cxba_NoWord,T.cxf1_NoWord,T.cxf2_NoWord,T.cxf3_NoWord⟩,T.ck_4_NoWord⟩ (.cons ⟨⟨T.cxob_TooMany,T.cxba_TooMany,T.cxf1_TooMany,T.cxf2_TooMany,T.cxf3_TooMany⟩,T.ck_4_TooMany⟩ (.cons ⟨⟨T.cxob_Twice,T.cxba_Twice,T.cxf1_Twice,T.cxf2_Twice,T.cxf3_Twice⟩,T.ck_4_Twice⟩ (.skip rfl .nil))))) h1 h2
def zii(c:Str):Option Bool:=[(("Missing" :Str),false),(("NoWord" :Str),false),(("TooMany" :Str),false),(("Twice" :Str),false)].lookup c
theorem zki(T:Wd K mg): ∀r C b,(GT T).cl r=some C->zii r=some b->z2k K C/\W.kitAny K (.ref C) ([V.ref T.ka4,V.ref T.kaV,V.ref T.ka0,V.ref T.kbk,V.ref T.kas,V.ref T.kbi,V.ref T.ka9,V.ref T.kaP,V.ref T.kay].map cvV)=some b:=λr C b h1 h2=>Al2.at (Φ:=λC b=>z2k K C/\W.kitAny K (.ref C) ([V.ref T.ka4,V.ref T.kaV,V.ref T.ka0,V.ref T.kbk,V.ref T.kas,V.ref T.kbi,V.ref T.ka9,V.ref T.kaP,V.ref T.kay].map cvV)=some b) (.cons ⟨⟨T.cxob_Missing,T.cxba_Missing,T.cxf1_Missing,T.cxf2_Missing,T.cxf3_Missing⟩,T.ck_5_Missing⟩ (.cons ⟨⟨T.cxob_NoWord,T.cxba_NoWord,T.cxf1_NoWord,T.cxf2_NoWord,T.cxf3_NoWord⟩,T.ck_5_NoWord⟩ (.cons ⟨⟨T.cxob_TooMany,T.cxba_TooMany,T.cxf1_TooMany,T.cxf2_TooMany,T.cxf3_TooMany⟩,T.ck_5_TooMany⟩ (.cons ⟨⟨T.cxob_Twice,T.cxba_Twice,T.cxf1_Twice,T.cxf2_Twice,T.cxf3_Twice⟩,T.ck_5_Twice⟩ (.skip rfl .nil))))) h1 h2
def zij(c:Str):Option Bool:=[(("Missing" :Str),true),(("NoWord" :Str),true),(("TooMany" :Str),true),(("Twice" :Str),true)].lookup c
theorem zkj(T:Wd K mg): ∀r C b,(GT T).cl r=some C->zij r=some b->z2k K C/\W.kitOne K (.ref C) (cvV (.ref T.kai))=some b:=λr C b h1 h2=>Al2.at (Φ:=λC b=>z2k K C/\W.kitOne K (.ref C) (cvV (.ref T.kai))=some b) (.cons ⟨⟨T.cxob_Missing,T.cxba_Missing,T.cxf1_Missing,T.cxf2_Missing,T.cxf3_Missing⟩,T.ck_6_Missing⟩ (.cons ⟨⟨T.cxob_NoWord,T.cxba_NoWord,T.cxf1_NoWord,T.cxf2_NoWord,T.cxf3_NoWord⟩,T.ck_6_NoWord⟩ (.cons ⟨⟨T.cxob_TooMany,T.cxba_TooMany,T.cxf1_TooMany,T.cxf2_TooMany,T.cxf3_TooMany⟩,T.ck_6_TooMany⟩ (.cons ⟨⟨T.cxob_Twice,T.cxba_Twice,T.cxf1_Twice,T.cxf2_Twice,T.cxf3_Twice⟩,T.ck_6_Twice⟩ (.skip rfl .nil))))) h1 h2
def zik(c:Str):Option Bool:=[(("Missing" :Str),true),(("NoWord" :Str),true),(("TooMany" :Str),true),(("Twice" :Str),true)].lookup c
theorem zkk(T:Wd K mg): ∀r C b,(GT T).cl r=some C->zik r=some b->z2k K C/\W.kitOne K (.ref C) (cvV (.ty "ValueError"))=some b:=λr C b h1 h2=>Al2.at (Φ:=λC b=>z2k K C/\W.kitOne K (.ref C) (cvV (.ty "ValueError"))=some b) (.cons ⟨⟨T.cxob_Missing,T.cxba_Missing,T.cxf1_Missing,T.cxf2_Missing,T.cxf3_Missing⟩,T.ck_7_Missing⟩ (.cons ⟨⟨T.cxob_NoWord,T.cxba_NoWord,T.cxf1_NoWord,T.cxf2_NoWord,T.cxf3_NoWord⟩,T.ck_7_NoWord⟩ (.cons ⟨⟨T.cxob_TooMany,T.cxba_TooMany,T.cxf1_TooMany,T.cxf2_TooMany,T.cxf3_TooMany⟩,T.ck_7_TooMany⟩ (.cons ⟨⟨T.cxob_Twice,T.cxba_Twice,T.cxf1_Twice,T.cxf2_Twice,T.cxf3_Twice⟩,T.ck_7_Twice⟩ (.skip rfl .nil))))) h1 h2
end
section
variable{P:Program}{w:World}{K:W.Frag}{mg:Str->Option Value}{base:Heap}
def k7:MS:=(J1 (z1M (z7z "int" (y1 0)) (z72 (z7z "bool" (y1 0)))))
def G7:FM:=z0t 1 k7
theorem z2Y(T:Wd K mg):FnOk P w K mg base CX0 1 T.kaf.f T.kaf.d X7 (spM (GT T) 1 G7):=okM k7 T.kaf.F z2W λcdv A outer s H E F hr=>(ss_one (ss_ret (se_and (se_isi rfl (by decide) rfl T.n_isinstance (sv 0) (U0 (v:= .ty "int") rfl T.n_int PyProof.Rows.Boot.«int» rfl)) (se_one (se_not (se_isi rfl (by decide) rfl T.n_isinstance (sv 0) (U0 (v:= .ty "bool") rfl T.n_bool PyProof.Rows.Boot.«bool» rfl)))))))
def z0e:MS:=(J1 (z1M (Z4 G7 [(y1 0)]) (U3 (y1 1) (y1 0) (y1 2) leD leD)))
def Q1:FM:=z0t 3 z0e
theorem k8(T:Wd K mg):FnOk P w K mg base CX0 2 T.kan.f T.kan.d z0a (spM (GT T) 3 Q1):=okM z0e T.kan.F z3H λcdv A outer s H E F hr=>(ss_one (ss_ret (se_and (scl T.kaf (z2Y T) hr (s1 (sv 0))) (se_one (se_cmp2 z2T z2T (sv 1) (sv 0) (sv 2))))))
def z1v:MS:=(Y4 (sIf (mOr (z2M (G1 (z7z "tuple" (y1 0)))) (z2M (W8 (U3 (y1 1) (mCB [(y1 0)] z2S) (y1 2) leD leD)))) (J1 (mC (.bool false))) sNx)
 (J1 (mCB [(z03 (z1N (y1 0)) (.nm 0) (rt true) (Z4 Q1 [(y1 0),(mC (.int 0)),(y1 1)]) 1 [3])] zcR)))
def x6:FM:=z0t 4 z1v
theorem z2x(T:Wd K mg):FnOk P w K mg base CX0 3 T.kaC.f T.kaC.d z1r (spM (GT T) 4 x6):=okM z1v T.kaC.F z5H λcdv A outer s H E F hr=>(ss_cons (ss_if (SW.sb (sw_or (sb_not (sb_truth rfl (se_isi rfl (by decide) rfl T.n_isinstance (sv 0) (U0 (v:= .ty "tuple") rfl T.n_tuple PyProof.Rows.Boot.«tuple» rfl)))) (sw_or1 (sb_not (sb_cmp2 z2T z2T (sv 1) (sln T.n_len (s1 (sv 0))) (sv 2)))))) (ss_one (ss_ret (sc0 V4))) ss_nil)
 (ss_one (ss_ret (se_cb rfl (zbw rfl hr.hd) rfl T.n_all PyProof.Rows.Boot.«all» (s1 (se_comp (own:=["part"]) (frees:=["high"]) (ix:=[3]) rfl rfl (K5.sc (by kernel_rfl)) (si_seq rfl (sv 0)) (λ_ _ _ _ _ _ _=>(sg_name (U1 (i:=0) (show C4 (["part", "high"]:List Str) by decide+kernel) rfl (Or.inl rfl)))) (λ_ _ _ _ _ _ _=>sts_nil) (λ_ _ _ _ _ _ _=>(scl T.kan (k8 T) hr (s3 (sv 0) (sc0 y0) (sv 1))))))))))
def z0B:MS:=(Y4 (sIf (mOr (z2M (G1 (z7z "tuple" (y1 0)))) (W8 (Z0 (mCB [(y1 0)] z2S) (mC (.int 4)) neD))) (J1 (mC (.bool false))) sNx)
 (Y4 (Q4 (.tp [(.nm 1),(.nm 2),(.nm 3),(.nm 4)]) (y1 0))
 (Y4 (sIf (mOr (z2M (G1 (Z4 x6 [(y1 1),(mC (.int 1)),(mC (.int 6)),(mC (.int 39))]))) (z2M (G1 (Z4 x6 [(y1 2),(mC (.int 1)),(mC (.int 4)),(mC (.int 999))])))) (J1 (mC (.bool false))) sNx)
 (J1 (z1M (Z4 Q1 [(y1 3),(mC (.int 0)),(mC (.int 7))]) (Z4 Q1 [(y1 4),(mC (.int 0)),(mC (.int 9999))]))))))
def U6:FM:=z0t 5 z0B
theorem z1D(T:Wd K mg):FnOk P w K mg base CX0 4 T.kap.f T.kap.d z0z (spM (GT T) 1 U6):=okM z0B T.kap.F G3 λcdv A outer s H E F hr=>by
 have h64:=hr.units
 exact(ss_cons (ss_if (SW.sb (sw_or (sb_not (sb_truth rfl (se_isi rfl (by decide) rfl T.n_isinstance (sv 0) (U0 (v:= .ty "tuple") rfl T.n_tuple PyProof.Rows.Boot.«tuple» rfl)))) (sw_or1 (sb_cmp (z5o rfl h64) (sln T.n_len (s1 (sv 0))) (sc0 y0) (Y5 _))))) (ss_one (ss_ret (sc0 V4))) ss_nil)
 (ss_cons (ss_asg (sv 0) (sg_tup rfl rfl (sgs_cons (sgn 1 G3.nd) (sgs_cons (sgn 2 G3.nd) (sgs_cons (sgn 3 G3.nd) (sgs_cons (sgn 4 G3.nd) sgs_nil))))))
 (ss_cons (ss_if (SW.sb (sw_or (sb_not (sb_truth rfl (scl T.kaC (z2x T) hr (s4 (sv 1) (sc0 y0) (se_c rfl (Y1 (v:= .int 6) rfl T.c_MOST_WORD_SOUNDS.choose_spec ⟨_,rfl⟩)) (se_c rfl (Y1 (v:= .int 39) rfl T.c_LAST_SOUND.choose_spec ⟨_,rfl⟩)))))) (sw_or1 (sb_not (sb_truth rfl (scl T.kaC (z2x T) hr (s4 (sv 2) (sc0 y0) (se_c rfl (Y1 (v:= .int 4) rfl T.c_MOST_WORD_SIGNS.choose_spec ⟨_,rfl⟩)) (se_c rfl (Y1 (v:= .int 999) rfl T.c_LAST_WORD_SIGN.choose_spec ⟨_,rfl⟩))))))))) (ss_one (ss_ret (sc0 V4))) ss_nil)
 (ss_one (ss_ret (se_and (scl T.kan (k8 T) hr (s3 (sv 3) (sc0 y0) (se_c rfl (Y1 (v:= .int 7) rfl T.c_LAST_WORD_KIND.choose_spec ⟨_,rfl⟩)))) (se_one (scl T.kan (k8 T) hr (s3 (sv 4) (sc0 y0) (se_c rfl (Y1 (v:= .int 9999) rfl T.c_LAST_WORD_COST.choose_spec ⟨_,rfl⟩)))))))))))
def z5I:MS:=(Y4 (Q4 (.nm 2) (mC (.int 0)))
 (Y4 (sIf (W8 (Z0 (y1 1) (mCB [(y1 0)] z2S) ltD)) (Q4 (.nm 2) (mCB [(Z0 (y1 0) (y1 1) ixD)] ze4)) sNx)
 (Y4 (Q4 (.nm 3) (Z0 (Z0 (Z0 (Z0 (Z0 (y1 2) (mC (.int 2147483629)) z2c) (Z0 (mC (.int 104729)) (y1 1) z3q) v1) (mC (.int 17)) v1) (mC (.int 5)) z8j) (mC (.int 2147483647)) z2c))
 (Y4 (z7A (z02 [(mCB [(mCB [(y1 0)] z2S),(mC (.int 60))] zcQ)]) (.nm 4) (Q4 (.nm 3) (Z0 (Z0 (Z0 (Z0 (y1 3) (mC (.int 48271)) z3q) (Z0 (Z0 (Z0 (y1 0) (y1 4) ixD) (mC (.int 2147483587)) z2c) (Z0 (y1 4) (mC (.int 3)) v1) z3q) v1) (y1 4) v1) (mC (.int 2147483629)) z2c)))
 (Y4 (sIf (W8 (Z0 (y1 2) (Z0 (mC (.int 10)) (mC (.int 18)) z8j) ltD)) (Q4 (.nm 2) (mC (.int 0))) sNx)
 (J1 (mCB [(y1 2),(y1 3)] lstM)))))))
def z2y:FM:=z0t 5 z5I
theorem zaV(T:Wd K mg):FnOk P w K mg base CX0 1 T.kbj.f T.kbj.d z5E (spM (GT T) 2 z2y):=okM z5I T.kbj.F X8 λcdv A outer s H E F hr=>(ss_cons (sst 2 X8.nd (sc0 y0))
 (ss_cons (ss_if (sb_cmp z78 (sv 1) (sln T.n_len (s1 (sv 0))) (Y5 _)) (ss_one (sst 2 X8.nd (se_cb rfl zfz rfl T.n_abs PyProof.Rows.Boot.«abs» (s1 (sxx (sv 0) (sv 1)))))) ss_nil)
 (ss_cons (sst 3 X8.nd (se_mod rfl (se_pow rfl (se_add rfl (se_add rfl (se_mod rfl (sv 2) (sc0 y0)) (se_mul rfl (sc0 y0) (sv 1))) (sc0 y0)) (sc0 y0)) (sc0 y0)))
 (ss_cons (ss_for PassesOwn.never rfl (si_rng1 rfl T.n_range (s1 (se_cb rfl (zbv rfl) rfl T.n_min PyProof.Rows.Boot.«min» (s2 (sln T.n_len (s1 (sv 0))) (sc0 y0))))) (sgn 4 X8.nd) (ss_one (sst 3 X8.nd (se_mod rfl (se_add rfl (se_add rfl (se_mul rfl (sv 3) (sc0 y0)) (se_mul rfl (se_mod rfl (sxx (sv 0) (sv 4)) (sc0 y0)) (se_add rfl (sv 4) (sc0 y0)))) (sv 4)) (sc0 y0)))))
 (ss_cons (ss_if (sb_cmp z78 (sv 2) (se_pow rfl (sc0 y0) (sc0 y0)) (Y5 _)) (ss_one (sst 2 X8.nd (sc0 y0))) ss_nil)
 (ss_one (ss_ret (se_lst rfl (s2 (sv 2) (sv 3))))))))))
def z3K:MS:=(Y4 (sIf (W8 (Z0 (Z0 (y1 0) (mC (.int 0)) ixD) (mC (.int 0)) gtD)) (Y4 (Q4 (.nm 2) (Z0 (Z0 (y1 0) (mC (.int 0)) ixD) (y1 1) z2c))
 (Y4 (z4p (Z0 (Z0 (y1 0) (mC (.int 0)) ixD) (y1 1) z1L) (y1 0) (mC (.int 0)) zam)
 (J1 (y1 2)))) sNx)
 (Y4 (z4p (Z0 (Z0 (Z0 (Z0 (y1 0) (mC (.int 1)) ixD) (mC (.int 48271)) z3q) (mC (.int 7919)) v1) (mC (.int 2147483647)) z2c) (y1 0) (mC (.int 1)) zam)
 (J1 (Z0 (Z0 (Z0 (Z0 (Z0 (Z0 (Z0 (y1 0) (mC (.int 1)) ixD) (mC (.int 3)) z8j) (mC (.int 2147483587)) z2c) (mC (.int 7)) z1L) (mC (.int 69621)) z3q) (mC (.int 1073741789)) z2c) (y1 1) z2c))))
def Z2:FM:=z0t 3 z3K
theorem Y3(T:Wd K mg):FnOk P w K mg base CX0 1 T.kba.f T.kba.d z3D (spM (GT T) 2 Z2):=okM z3K T.kba.F z4K λcdv A outer s H E F hr=>(ss_cons (ss_if (sb_cmp zcX (sxc (sv 0) y0) (sc0 y0) (Y5 _)) (ss_cons (sst 2 z4K.nd (se_mod rfl (sxc (sv 0) y0) (sv 1)))
 (ss_cons (ss_setI (se_fdiv rfl (sxc (sv 0) y0) (sv 1)) (sv 0) (sc0 y0) (λ{to ti} h1 h2=>z7K h1 h2 z3j))
 (ss_one (ss_ret (sv 2))))) ss_nil)
 (ss_cons (ss_setI (se_mod rfl (se_add rfl (se_mul rfl (sxc (sv 0) y0) (sc0 y0)) (sc0 y0)) (sc0 y0)) (sv 0) (sc0 y0) (λ{to ti} h1 h2=>z7K h1 h2 z3j))
 (ss_one (ss_ret (se_mod rfl (se_mod rfl (se_mul rfl (se_fdiv rfl (se_mod rfl (se_pow rfl (sxc (sv 0) y0) (sc0 y0)) (sc0 y0)) (sc0 y0)) (sc0 y0)) (sc0 y0)) (sv 1))))))
def z2z:MS:=(J1 (z1M (z7z "int" (y1 0)) (z72 (z7z "bool" (y1 0)))))
def J2:FM:=z0t 1 z2z
theorem z0m(T:Wd K mg):FnOk P w K mg base CX0 1 T.kaM.f T.kaM.d z2t (spM (GT T) 1 J2):=okM z2z T.kaM.F z7h λcdv A outer s H E F hr=>(ss_one (ss_ret (se_and (se_isi rfl (by decide) rfl T.n_isinstance (sv 0) (U0 (v:= .ty "int") rfl T.n_int PyProof.Rows.Boot.«int» rfl)) (se_one (se_not (se_isi rfl (by decide) rfl T.n_isinstance (sv 0) (U0 (v:= .ty "bool") rfl T.n_bool PyProof.Rows.Boot.«bool» rfl)))))))
def z3L:MS:=(Y4 (Q4 (.nm 1) (Z0 (Z4 Z2 [(y1 0),(mC (.int 3))]) (mC (.int 2)) z1L))
 (Y4 (Q4 (.nm 2) (mCB [(z03 (z02 [(Z0 (mC (.int 1)) (Z4 Z2 [(y1 0),(Z0 (mCB [(mC (.int 2)),(mC (.int 6))] lstM) (y1 1) ixD)]) v1)]) (.nm 0) (rt true) (Z4 Z2 [(y1 1),(Z0 (mCB [(mC (.int 2)),(mC (.int 40))] lstM) (y1 2) ixD)]) 1 [0,1])] zac))
 (Y4 (Q4 (.nm 3) (mCB [(z03 (z02 [(Z0 (mC (.int 1)) (Z4 Z2 [(y1 0),(Z0 (mCB [(mC (.int 2)),(mC (.int 4))] lstM) (y1 1) ixD)]) v1)]) (.nm 0) (rt true) (Z4 Z2 [(y1 1),(Z0 (mCB [(mC (.int 3)),(mC (.int 1000))] lstM) (y1 2) ixD)]) 1 [0,1])] zac))
 (J1 (mCB [(y1 2),(y1 3),(Z4 Z2 [(y1 0),(Z0 (mCB [(mC (.int 2)),(mC (.int 8))] lstM) (y1 1) ixD)]),(Z4 Z2 [(y1 0),(Z0 (mCB [(mC (.int 4)),(mC (.int 10000))] lstM) (y1 1) ixD)])] j4)))))
def z0W:FM:=z0t 4 z3L
theorem z8Y(T:Wd K mg):FnOk P w K mg base CX0 2 T.ka7.f T.ka7.d z3E (spM (GT T) 1 z0W):=okM z3L T.ka7.F z0S λcdv A outer s H E F hr=>(ss_cons (ss_set (λ{te} h=>z5Z (i:=1) z0S.nd rfl (Or.inr rfl) h) (se_fdiv rfl (scl T.kba (Y3 T) hr (s2 (sv 0) (sc0 y0))) (sc0 y0)))
 (ss_cons (sst 2 z0S.nd (se_ct rfl (z3s rfl) rfl T.n_tuple PyProof.Rows.Boot.«tuple» (s1 (se_comp (own:=["_law_k"]) (frees:=["_law_bag_here", "_law_wide"]) (ix:=[0,1]) rfl rfl (K5.sc (by kernel_rfl)) (si_rng1 rfl T.n_range (s1 (se_add rfl (sc0 y0) (scl T.kba (Y3 T) hr (s2 (sv 0) (sxx (se_lst rfl (s2 (sc0 y0) (sc0 y0))) (sv 1))))))) (λ_ _ _ _ _ _ _=>(sg_name (U1 (i:=0) (show C4 (["_law_k", "_law_bag_here", "_law_wide"]:List Str) by decide+kernel) rfl (Or.inl rfl)))) (λ_ _ _ _ _ _ _=>sts_nil) (λ_ _ _ _ _ _ _=>(scl T.kba (Y3 T) hr (s2 (sv 1) (sxx (se_lst rfl (s2 (sc0 y0) (sc0 y0))) (sv 2)))))))))
 (ss_cons (sst 3 z0S.nd (se_ct rfl (z3s rfl) rfl T.n_tuple PyProof.Rows.Boot.«tuple» (s1 (se_comp (own:=["_law_k"]) (frees:=["_law_bag_here", "_law_wide"]) (ix:=[0,1]) rfl rfl (K5.sc (by kernel_rfl)) (si_rng1 rfl T.n_range (s1 (se_add rfl (sc0 y0) (scl T.kba (Y3 T) hr (s2 (sv 0) (sxx (se_lst rfl (s2 (sc0 y0) (sc0 y0))) (sv 1))))))) (λ_ _ _ _ _ _ _=>(sg_name (U1 (i:=0) (show C4 (["_law_k", "_law_bag_here", "_law_wide"]:List Str) by decide+kernel) rfl (Or.inl rfl)))) (λ_ _ _ _ _ _ _=>sts_nil) (λ_ _ _ _ _ _ _=>(scl T.kba (Y3 T) hr (s2 (sv 1) (sxx (se_lst rfl (s2 (sc0 y0) (sc0 y0))) (sv 2)))))))))
 (ss_one (ss_ret (se_tup rfl (s4 (sv 2) (sv 3) (scl T.kba (Y3 T) hr (s2 (sv 0) (sxx (se_lst rfl (s2 (sc0 y0) (sc0 y0))) (sv 1)))) (scl T.kba (Y3 T) hr (s2 (sv 0) (sxx (se_lst rfl (s2 (sc0 y0) (sc0 y0))) (sv 1)))))))))))
def z3M:MS:=(Y4 (Q4 (.nm 1) (mCB [(z6g zid (y1 0)),(z6g zie (y1 0)),(z6g zif (y1 0)),(z6g zig (y1 0))] lstM))
 (Y4 (Q4 (.nm 2) (z6g zih (y1 0)))
 (Y4 (Q4 (.nm 2) (zfi (y1 2) (z6g zii (y1 0))))
 (Y4 (sIf (mOr (G1 (y1 2)) (mOr (W8 (Z0 (z5n (y1 1) [(mC (.bool true))] zea) (mC (.int 1)) neD)) (mOr (z2M (G1 (z6g zij (y1 0)))) (z2M (G1 (z6g zik (y1 0))))))) (J1 (bd (mC (.int 1)) zbq)) sNx)
 (J1 (z5n (y1 1) [(mC (.bool true))] zeb))))))
def z0X:FM:=z0t 3 z3M
theorem z8Z(T:Wd K mg):z1m P w K mg base CX0 1 T.ka2.f T.ka2.d z3F (spM (GT T) 1 z0X):=okH z3M T.ka2.F z0T λcdv A outer s H E F hr=>by
 have h64:=hr.units
 exact(ss_cons (sst 1 z0T.nd (se_lst rfl (s4 (se_isX1 (c:= .ref T.ka1) rfl rfl (zkd T) rfl T.n_isinstance (sv 0) (Y1 (v:= .ref T.ka1) rfl T.kaS rfl)) (se_isX1 (c:= .ref T.kbm) rfl rfl (zke T) rfl T.n_isinstance (sv 0) (Y1 (v:= .ref T.kbm) rfl T.ka8 rfl)) (se_isX1 (c:= .ref T.kaQ) rfl rfl (zkf T) rfl T.n_isinstance (sv 0) (Y1 (v:= .ref T.kaQ) rfl T.kaz rfl)) (se_isX1 (c:= .ref T.kaR) rfl rfl (zkg T) rfl T.n_isinstance (sv 0) (Y1 (v:= .ref T.kaR) rfl T.kaw rfl)))))
 (ss_cons (sst 2 z0T.nd (se_isXT rfl (zkh T) rfl T.n_isinstance (sv 0) (z6f (cs:=[.ref T.kaO, .ref T.kax, .ref T.kbe, .ref T.kbd, .ref T.kaY, .ref T.kaH, .ref T.kaj, .ref T.kbc, .ref T.kbn, .ref T.ka5]) (Z9 (Y1 (v:= .ref T.kaO) rfl T.kaD rfl) (Z9 (Y1 (v:= .ref T.kax) rfl T.kao rfl) (Z9 (Y1 (v:= .ref T.kbe) rfl T.kaF rfl) (Z9 (Y1 (v:= .ref T.kbd) rfl T.kaX rfl) (Z9 (Y1 (v:= .ref T.kaY) rfl T.kaI rfl) (Z9 (Y1 (v:= .ref T.kaH) rfl T.kat rfl) (Z9 (Y1 (v:= .ref T.kaj) rfl T.kag rfl) (Z9 (Y1 (v:= .ref T.kbc) rfl T.kaW rfl) (Z9 (Y1 (v:= .ref T.kbn) rfl T.kbf rfl) (Z9 (Y1 (v:= .ref T.ka5) rfl T.kaU rfl) V5)))))))))) (λ_ _ _ q=>q) rfl rfl)))
 (ss_cons (sst 2 z0T.nd (se_or (sv 2) (se_one (se_isXT rfl (zki T) rfl T.n_isinstance (sv 0) (z6f (cs:=[.ref T.ka4, .ref T.kaV, .ref T.ka0, .ref T.kbk, .ref T.kas, .ref T.kbi, .ref T.ka9, .ref T.kaP, .ref T.kay]) (Z9 (Y1 (v:= .ref T.ka4) rfl T.kaT rfl) (Z9 (Y1 (v:= .ref T.kaV) rfl T.kaA rfl) (Z9 (Y1 (v:= .ref T.ka0) rfl T.kaL rfl) (Z9 (Y1 (v:= .ref T.kbk) rfl T.ka6 rfl) (Z9 (Y1 (v:= .ref T.kas) rfl T.kal rfl) (Z9 (Y1 (v:= .ref T.kbi) rfl T.ka3 rfl) (Z9 (Y1 (v:= .ref T.ka9) rfl T.kaJ rfl) (Z9 (Y1 (v:= .ref T.kaP) rfl T.kaE rfl) (Z9 (Y1 (v:= .ref T.kay) rfl T.kaq rfl) V5))))))))) (λ_ _ _ q=>q) rfl rfl)))))
 (ss_cons (ss_if (SW.sb (sw_or (sb_truth rfl (sv 2)) (sw_or (sb_cmp (z5o rfl h64) (se_cl rfl PySem.F.slot_list_count PySem.F.type_list_count (zay rfl) (sv 1) (s1 (sc0 V4))) (sc0 y0) (Y5 _)) (sw_or (sb_not (sb_truth rfl (se_isX1 (c:= .ref T.kai) rfl rfl (zkj T) rfl T.n_isinstance (sv 0) (Y1 (v:= .ref T.kai) rfl T.kah rfl)))) (sw_or1 (sb_not (sb_truth rfl (se_isX1 (c:= .ty "ValueError") rfl rfl (zkk T) rfl T.n_isinstance (sv 0) (U0 (v:= .ty "ValueError") rfl T.n_ValueError PyProof.Rows.Boot.«ValueError» rfl))))))))) (ss_one (ss_ret (se_neg rfl (sc0 y0)))) ss_nil)
 (ss_one (ss_ret (se_cl rfl PySem.F.slot_list_index PySem.F.type_list_index (zaz rfl) (sv 1) (s1 (sc0 V4)))))))))
def G8:MS:=(Y4 (sIf (W8 (Z0 (mCB [(y1 1),(y1 2),(y1 3)] j4) (z7c (y1 0) "costs" W6) z4x)) (z2l "Missing") sNx)
 (z4n (z2p (z7c (y1 0) "costs" W6) (mCB [(y1 1),(y1 2),(y1 3)] j4))))
def Q5:FM:=zbz 4 G8
theorem z2Z(T:Wd K mg):FnOk P w K mg base (CX1 P w) 1 T.kae.f T.kae.d z0R (spX (GT T) 4 Q5):=okX G8 T.kae.F z2X λcdv A outer s H E F hr hx hrx=>by
 have h64:=hr.units
 exact(ss_cons (ss_if (sb_cmp (z8F h64) (se_tup rfl (s3 (sv 1) (sv 2) (sv 3))) (se_fld (sv 0) (g8 T)) (by with_unfolding_all rfl)) (ss_one (ss_raise hr.hd hx hrx (z7i T) rfl T.kaw T.kaB)) ss_nil)
 (ss_one (ss_expr (se_pop1 rfl h64 (se_fld (sv 0) (g8 T)) (se_tup rfl (s3 (sv 1) (sv 2) (sv 3))) ⟨rfl,rfl,rfl,rfl⟩))))
def v4:MS:=(Y4 (sIf (z2M (G1 (Z4 U6 [(y1 1)]))) (z2l "NoWord") sNx)
 (Y4 (sIf (W8 (Z0 (mSl (y1 1) none (some (mC (.int 3)))) (z7c (y1 0) "costs" W6) zaB)) (z2l "Twice") sNx)
 (Y4 (sIf (W8 (Z0 (mCB [(z7c (y1 0) "costs" W6)] z9x) (mC (.int 60)) geD)) (z2l "TooMany") sNx)
 (z4p (Z0 (y1 1) (mC (.int 3)) ixD) (z7c (y1 0) "costs" W6) (mSl (y1 1) none (some (mC (.int 3)))) z0N))))
def j9:FM:=zbz 2 v4
theorem z3N(T:Wd K mg):FnOk P w K mg base (CX1 P w) 5 T.kam.f T.kam.d z0d (spX (GT T) 2 j9):=okX v4 T.kam.F z0V λcdv A outer s H E F hr hx hrx=>by
 have h64:=hr.units
 exact(ss_cons (ss_if (sb_not (sb_truth rfl (scl T.kap (z1D T) hr (s1 (sv 1))))) (ss_one (ss_raise hr.hd hx hrx (z8X T) rfl T.kaS T.kaG)) ss_nil)
 (ss_cons (ss_if (sb_cmp (z6j h64) (se_slice rfl (sv 1) so_none (so_some (sc0 y0))) (se_fld (sv 0) (g8 T)) (by with_unfolding_all rfl)) (ss_one (ss_raise hr.hd hx hrx (zaU T) rfl T.ka8 T.kbb)) ss_nil)
 (ss_cons (ss_if (sb_cmp zcY (se_cb rfl z3y rfl T.n_len PyProof.Rows.Boot.«len» (s1 (se_fld (sv 0) (g8 T)))) (se_c rfl (Y1 (v:= .int 60) rfl T.c_MOST_WORDS.choose_spec ⟨_,rfl⟩)) (Y5 _)) (ss_one (ss_raise hr.hd hx hrx (z7j T) rfl T.kaz T.kau)) ss_nil)
 (ss_one (ss_dput h64 (sxc (sv 1) y0) (se_fld (sv 0) (g8 T)) (se_slice rfl (sv 1) so_none (so_some (sc0 y0))))))))
def V2:MS:=(Y4 (sIf (z2M (G1 (Z4 U6 [(y1 1)]))) sNo sNx)
 (Y4 (sIf (W8 (Z0 (mSl (y1 1) none (some (mC (.int 3)))) (z7c (y1 0) "costs" W6) zaB)) sNo sNx)
 (Y4 (sIf (W8 (Z0 (mCB [(z7c (y1 0) "costs" W6)] z9x) (mC (.int 60)) geD)) sNo sNx)
 (z4p (Z0 (y1 1) (mC (.int 3)) ixD) (z7c (y1 0) "costs" W6) (mSl (y1 1) none (some (mC (.int 3)))) z0N))))
def j3:FM:=z0t 2 V2
theorem z2A(T:Wd K mg):FnOk P w K mg base CX0 5 T.kam.f T.kam.d z0d (spM (GT T) 2 j3):=okM V2 T.kam.F z0V λcdv A outer s H E F hr=>by
 have h64:=hr.units
 exact(ss_cons (ss_if (sb_not (sb_truth rfl (scl T.kap (z1D T) hr (s1 (sv 1))))) (ss_one ss_no) ss_nil)
 (ss_cons (ss_if (sb_cmp (z6j h64) (se_slice rfl (sv 1) so_none (so_some (sc0 y0))) (se_fld (sv 0) (g8 T)) (by with_unfolding_all rfl)) (ss_one ss_no) ss_nil)
 (ss_cons (ss_if (sb_cmp zcY (se_cb rfl z3y rfl T.n_len PyProof.Rows.Boot.«len» (s1 (se_fld (sv 0) (g8 T)))) (se_c rfl (Y1 (v:= .int 60) rfl T.c_MOST_WORDS.choose_spec ⟨_,rfl⟩)) (Y5 _)) (ss_one ss_no) ss_nil)
 (ss_one (ss_dput h64 (sxc (sv 1) y0) (se_fld (sv 0) (g8 T)) (se_slice rfl (sv 1) so_none (so_some (sc0 y0))))))))
def k9:MS:=(ze9 G6 3 (Y4 (sIf (W8 (Z0 (y1 0) (mC (.str ("put" :Str))) eqD)) (J1 (z5z "Book" "put" j9 (y1 1) [(y1 2)])) sNx)
 (J1 (z5z "Book" "take" Q5 (y1 1) [(Z0 (y1 2) (mC (.int 0)) ixD),(Z0 (y1 2) (mC (.int 1)) ixD),(Z0 (y1 2) (mC (.int 2)) ixD)]))) (J1 (Z4 z0X [(y1 3)])))
def Y8:FM:=z0t 4 k9
theorem z0Y(T:Wd K mg):FnOk P w K mg base CX0 6 T.kaZ.f T.kaZ.d z3G (spM (GT T) 3 Y8):=okM k9 T.kaZ.F z4L λcdv A outer s H E F hr=>by
 have h64:=hr.units
 exact(ss_one (ss_try rfl rfl rfl rfl rfl T.kah z4L.nd rfl rfl (z3J T) (λpl E1 F1 E2 hx=>(ss_cons (ss_if (sb_cmp (z2U rfl h64) (sv 0) (sc0 z00) (Y5 _)) (ss_one (ss_ret (se_mthX hx (z1u T) T.cc_Book T.kam.h ((z3N T).mono (by lia)) hr T.kam.b (sv 1) (s1 (sv 2)) rfl))) ss_nil)
 (ss_one (ss_ret (se_mthX hx (z1u T) T.cc_Book T.kae.h ((z2Z T).mono (by lia)) hr T.kae.b (sv 1) (s3 (sxc (sv 2) y0) (sxc (sv 2) y0) (sxc (sv 2) y0)) rfl))))) (λax=>(ss_one (ss_ret (se_callH rfl ((z8Z T).mono (by lia)) (hr.h _) rfl T.ka2.m T.ka2.F.kp T.ka2.b z4h (s1 (sv 3)) rfl))))))
def U7:MS:=(Y4 (sIf (mOr (z2M (G1 (z7z "tuple" (y1 0)))) (mOr (W8 (Z0 (mCB [(y1 0)] z2S) (y1 1) ltD)) (W8 (Z0 (mCB [(y1 0)] z2S) (y1 2) gtD)))) (J1 (mC (.bool false))) sNx)
 (J1 (mCB [(z03 (z1N (y1 0)) (.nm 0) (rt true) (z1M (Z4 J2 [(y1 0)]) (U3 (mC (.int 0)) (y1 0) (y1 1) leD leD)) 1 [3])] zcR)))
def Q2:FM:=z0t 4 U7
theorem K7(T:Wd K mg):FnOk P w K mg base CX0 2 T.kac.f T.kac.d U5 (spM (GT T) 4 Q2):=okM U7 T.kac.F z1O λcdv A outer s H E F hr=>(ss_cons (ss_if (SW.sb (sw_or (sb_not (sb_truth rfl (se_isi rfl (by decide) rfl T.n_isinstance (sv 0) (U0 (v:= .ty "tuple") rfl T.n_tuple PyProof.Rows.Boot.«tuple» rfl)))) (sw_or (sb_cmp z78 (sln T.n_len (s1 (sv 0))) (sv 1) (Y5 _)) (sw_or1 (sb_cmp zcX (sln T.n_len (s1 (sv 0))) (sv 2) (Y5 _)))))) (ss_one (ss_ret (sc0 V4))) ss_nil)
 (ss_one (ss_ret (se_cb rfl (zbw rfl hr.hd) rfl T.n_all PyProof.Rows.Boot.«all» (s1 (se_comp (own:=["_law_one"]) (frees:=["_law_most"]) (ix:=[3]) rfl rfl (K5.sc (by kernel_rfl)) (si_seq rfl (sv 0)) (λ_ _ _ _ _ _ _=>(sg_name (U1 (i:=0) (show C4 (["_law_one", "_law_most"]:List Str) by decide+kernel) rfl (Or.inl rfl)))) (λ_ _ _ _ _ _ _=>sts_nil) (λ_ _ _ _ _ _ _=>(se_and (scl T.kaM (z0m T) hr (s1 (sv 0))) (se_one (se_cmp2 z2T z2T (sc0 y0) (sv 0) (sv 1)))))))))))
def z0C:MS:=(Y4 (sIf (mOr (z2M (G1 (z7z "tuple" (y1 0)))) (mOr (W8 (Z0 (mCB [(y1 0)] z2S) (mC (.int 4)) neD)) (z2M (G1 (Z4 Q2 [(Z0 (y1 0) (mC (.int 0)) ixD),(mC (.int 1)),(mC (.int 6)),(mC (.int 39))]))))) (J1 (mC (.bool false))) sNx)
 (Y4 (sIf (mOr (z2M (G1 (Z4 Q2 [(Z0 (y1 0) (mC (.int 1)) ixD),(mC (.int 1)),(mC (.int 4)),(mC (.int 999))]))) (mOr (z2M (G1 (Z4 J2 [(Z0 (y1 0) (mC (.int 2)) ixD)]))) (z2M (G1 (Z4 J2 [(Z0 (y1 0) (mC (.int 3)) ixD)]))))) (J1 (mC (.bool false))) sNx)
 (J1 (z1M (U3 (mC (.int 0)) (Z0 (y1 0) (mC (.int 2)) ixD) (mC (.int 7)) leD leD) (U3 (mC (.int 0)) (Z0 (y1 0) (mC (.int 3)) ixD) (mC (.int 9999)) leD leD)))))
def K0:FM:=z0t 1 z0C
theorem z4N(T:Wd K mg):FnOk P w K mg base CX0 3 T.kar.f T.kar.d z0A (spM (GT T) 1 K0):=okM z0C T.kar.F z4M λcdv A outer s H E F hr=>by
 have h64:=hr.units
 exact(ss_cons (ss_if (SW.sb (sw_or (sb_not (sb_truth rfl (se_isi rfl (by decide) rfl T.n_isinstance (sv 0) (U0 (v:= .ty "tuple") rfl T.n_tuple PyProof.Rows.Boot.«tuple» rfl)))) (sw_or (sb_cmp (z5o rfl h64) (sln T.n_len (s1 (sv 0))) (sc0 y0) (Y5 _)) (sw_or1 (sb_not (sb_truth rfl (scl T.kac (K7 T) hr (s4 (sxc (sv 0) y0) (sc0 y0) (sc0 y0) (sc0 y0))))))))) (ss_one (ss_ret (sc0 V4))) ss_nil)
 (ss_cons (ss_if (SW.sb (sw_or (sb_not (sb_truth rfl (scl T.kac (K7 T) hr (s4 (sxc (sv 0) y0) (sc0 y0) (sc0 y0) (sc0 y0))))) (sw_or (sb_not (sb_truth rfl (scl T.kaM (z0m T) hr (s1 (sxc (sv 0) y0))))) (sw_or1 (sb_not (sb_truth rfl (scl T.kaM (z0m T) hr (s1 (sxc (sv 0) y0))))))))) (ss_one (ss_ret (sc0 V4))) ss_nil)
 (ss_one (ss_ret (se_and (se_cmp2 z2T z2T (sc0 y0) (sxc (sv 0) y0) (sc0 y0)) (se_one (se_cmp2 z2T z2T (sc0 y0) (sxc (sv 0) y0) (sc0 y0))))))))
def z5J:MS:=(Y4 (Q4 (.nm 2) (Z4 Z2 [(y1 0),(mC (.int 20))]))
 (Y4 (sIf (z8l (G1 (Z4 J2 [(y1 1)])) (W8 (Z0 (y1 2) (mC (.int 9)) gtD))) (J1 (Z0 (mCB [(Z0 (y1 1) (mC (.int 1)) v1),(Z0 (y1 1) (mC (.int 1)) za8)] lstM) (Z0 (y1 2) (mC (.int 2)) z2c) ixD)) sNx)
 (Y4 (Q4 (.nm 3) (mCB [(mC .non),(mC (.bool true)),(bd (mC (.int 1)) zbq),(mC (.int 40)),(mC (.int 39)),(mC (.int 1000)),(mC (.int 999)),(mC (.int 8)),(mC (.int 10000)),(mC (.str ("1" :Str))),(mCB [] j4),(mCB [] lstM),(mCB [(mC (.int 0))] j4),(mCB [(mC (.int 0))] lstM),(Z0 (mCB [(mC (.int 0))] j4) (mC (.int 5)) z3q),(Z0 (mCB [(mC (.int 0))] j4) (mC (.int 7)) z3q),(Z0 (mC (.int 10)) (mC (.int 59)) z8j),(mC (.bool false))] lstM))
 (J1 (Z0 (Z0 (y1 3) (mCB [(mCB [(mCB [(mC (.int 0))] j4),(mCB [(mC (.int 0))] j4),(mC (.int 0)),(mC (.int 0))] j4),(mC (.str ("word" :Str)))] lstM) v1) (y1 2) ixD)))))
def z2B:FM:=z0t 4 z5J
theorem zaW(T:Wd K mg):FnOk P w K mg base CX0 2 T.kbl.f T.kbl.d z5F (spM (GT T) 2 z2B):=okM z5J T.kbl.F z3I λcdv A outer s H E F hr=>(ss_cons (sst 2 z3I.nd (scl T.kba (Y3 T) hr (s2 (sv 0) (sc0 y0))))
 (ss_cons (ss_if (SW.sb (sw_and (sb_truth rfl (scl T.kaM (z0m T) hr (s1 (sv 1)))) (sw_and1 (sb_cmp zcX (sv 2) (sc0 y0) (Y5 _))))) (ss_one (ss_ret (sxx (se_lst rfl (s2 (se_add rfl (sv 1) (sc0 y0)) (se_sub rfl (sv 1) (sc0 y0)))) (se_mod rfl (sv 2) (sc0 y0))))) ss_nil)
 (ss_cons (ss_setN (i:=3) z3I.nd rfl (Or.inl rfl) (Or.inl rfl) (se_lst rfl (sa_of rfl (.cons (sc0 z1W) rfl (.cons (sc0 V4) rfl (.cons (se_neg rfl (sc0 y0)) rfl (.cons (sc0 y0) rfl (.cons (sc0 y0) rfl (.cons (sc0 y0) rfl (.cons (sc0 y0) rfl (.cons (sc0 y0) rfl (.cons (sc0 y0) rfl (.cons (sc0 z00) rfl (.cons (se_tup rfl (sa_of rfl .nil)) rfl (.cons (se_lst rfl (sa_of rfl .nil)) rfl (.cons (se_tup rfl (s1 (sc0 y0))) rfl (.cons (se_lst rfl (s1 (sc0 y0))) rfl (.cons (se_mul rfl (se_tup rfl (s1 (sc0 y0))) (sc0 y0)) rfl (.cons (se_mul rfl (se_tup rfl (s1 (sc0 y0))) (sc0 y0)) rfl (.cons (se_pow rfl (sc0 y0) (sc0 y0)) rfl (.cons (sc0 V4) rfl .nil)))))))))))))))))))))
 (ss_one (ss_ret (sxx (se_add rfl (sv 3) (se_lst rfl (s2 (se_tup rfl (s4 (se_tup rfl (s1 (sc0 y0))) (se_tup rfl (s1 (sc0 y0))) (sc0 y0) (sc0 y0))) (sc0 z00)))) (sv 2)))))))
def z0n(self:FM):MS:=(Y4 (Q4 (.nm 2) (Z4 Z2 [(y1 0),(mC (.int 9))]))
 (Y4 (sIf (mOr (z2M (G1 (z8A ["list", "tuple"] (y1 1)))) (mOr (W8 (Z0 (mCB [(y1 1)] z2S) (mC (.int 0)) eqD)) (W8 (Z0 (y1 2) (mC (.int 0)) eqD)))) (J1 (Z4 z2B [(y1 0),(y1 1)])) sNx)
 (Y4 (Q4 (.nm 3) (Z4 Z2 [(y1 0),(mCB [(y1 1)] z2S)]))
 (Y4 (Q4 (.nm 4) (mCB [(y1 1)] z74))
 (Y4 (sIf (W8 (Z0 (y1 2) (mC (.int 1)) eqD)) (Q4 (.nm 4) (Z0 (mSl (y1 4) none (some (y1 3))) (mSl (y1 4) (some (Z0 (y1 3) (mC (.int 1)) v1)) none) v1)) (sIf (W8 (Z0 (y1 2) (mC (.int 2)) eqD)) (Q4 (.nm 4) (Z0 (Z0 (mSl (y1 4) none (some (y1 3))) (mCB [(Z0 (y1 4) (y1 3) ixD)] lstM) v1) (mSl (y1 4) (some (y1 3)) none) v1)) (sIf (W8 (Z0 (y1 2) (mC (.int 3)) eqD)) (Q4 (.nm 4) (bd (y1 4) zhd)) (sIf (W8 (Z0 (y1 2) (mC (.int 4)) eqD)) (J1 (mCB [(y1 1)] z74)) (z4p (Z4 self [(y1 0),(Z0 (y1 4) (y1 3) ixD)]) (y1 4) (y1 3) zam)))))
 (J1 (mCB [(y1 4)] zac)))))))
def u1:Nat->FM
 |0=>λ_ _=> .no
 |k+1=>z0t 5 (z0n (u1 k))
theorem z2C(T:Wd K mg): ∀k,FnOk P w K mg base CX0 (3+k) T.kav.f T.kav.d ["_law_bag_here", "_law_thing_here"] (spM (GT T) 2 (u1 k))
 |0=>zcZ
 |k+1=>by
  have ih:=z2C T k
  have h:FnOk P w K mg base CX0 (3+k+1) T.kav.f T.kav.d ["_law_bag_here", "_law_thing_here"] (spM (GT T) (N2 (["_law_bag_here", "_law_thing_here"]:List Str)) (z0t (N2 (["_law_bag_here", "_law_thing_here", "_law_way", "_law_at", "_law_parts"]:List Str)) (z0n (u1 k)))):=fn_M T.kav.F j5 rfl λcdv A outer s H E F hr=>by
   have h64:=hr.units
   exact(ss_cons (sst 2 j5.nd (scl T.kba (Y3 T) hr (s2 (sv 0) (sc0 y0))))
 (ss_cons (ss_if (SW.sb (sw_or (sb_not (sb_truth rfl (se_isiT rfl (by decide) (by decide) rfl T.n_isinstance (sv 1) (zao (Z9 (U0 (v:= .ty "list") rfl T.n_list PyProof.Rows.Boot.«list» rfl) (Z9 (U0 (v:= .ty "tuple") rfl T.n_tuple PyProof.Rows.Boot.«tuple» rfl) V5)) (λ_ _ _ q=>q) (by decide))))) (sw_or (sb_cmp (z2U rfl h64) (sln T.n_len (s1 (sv 1))) (sc0 y0) (Y5 _)) (sw_or1 (sb_cmp (z2U rfl h64) (sv 2) (sc0 y0) (Y5 _)))))) (ss_one (ss_ret (scl T.kbl (zaW T) hr (s2 (sv 0) (sv 1))))) ss_nil)
 (ss_cons (sst 3 j5.nd (scl T.kba (Y3 T) hr (s2 (sv 0) (sln T.n_len (s1 (sv 1))))))
 (ss_cons (sst 4 j5.nd (se_ct rfl (z8x rfl) rfl T.n_list PyProof.Rows.Boot.«list» (s1 (sv 1))))
 (ss_cons (ss_if (sb_cmp (z2U rfl h64) (sv 2) (sc0 y0) (Y5 _)) (ss_one (sst 4 j5.nd (se_add rfl (se_slice rfl (sv 4) so_none (so_some (sv 3))) (se_slice rfl (sv 4) (so_some (se_add rfl (sv 3) (sc0 y0))) so_none)))) (ss_one (ss_if (sb_cmp (z2U rfl h64) (sv 2) (sc0 y0) (Y5 _)) (ss_one (sst 4 j5.nd (se_add rfl (se_add rfl (se_slice rfl (sv 4) so_none (so_some (sv 3))) (se_lst rfl (s1 (sxx (sv 4) (sv 3))))) (se_slice rfl (sv 4) (so_some (sv 3)) so_none)))) (ss_one (ss_if (sb_cmp (z2U rfl h64) (sv 2) (sc0 y0) (Y5 _)) (ss_one (sst 4 j5.nd (se_rev rfl (z7Z (zew zbh y0)) (sv 4)))) (ss_one (ss_if (sb_cmp (z2U rfl h64) (sv 2) (sc0 y0) (Y5 _)) (ss_one (ss_ret (se_ct rfl (z8x rfl) rfl T.n_list PyProof.Rows.Boot.«list» (s1 (sv 1))))) (ss_one (ss_setI (se_call rfl ih hr rfl T.kav.m T.kav.F.kp T.kav.b z4h (s2 (sv 0) (sxx (sv 4) (sv 3))) rfl) (sv 4) (sv 3) (λ{to ti} h1 h2=>z7K h1 h2 z3j))))))))))
 (ss_one (ss_ret (se_ct rfl (z3s rfl) rfl T.n_tuple PyProof.Rows.Boot.«tuple» (s1 (sv 4))))))))))
  exact h
def V3:MS:=(J1 (mCB [(bd (z7c (y1 0) "costs" W6) zdh)] z7e))
def Y9:FM:=z0t 1 V3
theorem z0f(T:Wd K mg):FnOk P w K mg base CX0 1 T.kad.f T.kad.d z0v (spM (GT T) 1 Y9):=okM V3 T.kad.F z2w λcdv A outer s H E F hr=>by
 have h64:=hr.units
 exact(ss_one (ss_ret (se_cb rfl (z3x rfl h64) rfl T.n_sorted PyProof.Rows.Boot.«sorted» (s1 (se_rowI (own:=["name", "cost"]) rfl rfl (K5.sc (by kernel_rfl)) (se_fld (sv 0) (g8 T)) rfl (λ_ _ _ _ _ _=>zbf rfl (z3i (U1 (i:=0) (show C4 (["name", "cost"]:List Str) by decide+kernel) rfl (Or.inl rfl)) (z3i (U1 (i:=1) (show C4 (["name", "cost"]:List Str) by decide+kernel) rfl (Or.inl rfl)) z7J))) (λ_ _ _ _ _ _=>z7O z29 (pv 0) (z46 (Z9 (pv 1) V5))))))))
def z0g:MS:=(Y4 (Q4 (.nm 2) (mCB [(mCB [(mC (.int 1)),(mC (.int 38))] j4),(mCB [(mC (.int 1)),(mC (.int 998))] j4),(mC (.int 1)),(mC (.int 1))] j4))
 (Y4 (sIf (z8l (W8 (Z0 (mSl (y1 2) none (some (mC (.int 3)))) (y1 1) z4x)) (W8 (Z0 (mCB [(y1 1)] z9x) (mC (.int 60)) ltD))) (Y4 (sIf (W8 (Z0 (Z4 Y8 [(mC (.str ("put" :Str))),(y1 0),(y1 2)]) (mC .non) zbp)) (J1 (mC (.bool false))) sNx)
 (z4p (Z0 (y1 2) (mC (.int 3)) ixD) (y1 1) (mSl (y1 2) none (some (mC (.int 3)))) z0N)) sNx)
 (Y4 (Q4 (.nm 3) (mCB [(Z0 (mCB [(mCB [(mC (.bool true)),(mC (.int 38))] j4)] j4) (mSl (y1 2) (some (mC (.int 1))) none) v1),(Z0 (mSl (y1 2) none (some (mC (.int 1)))) (mCB [(mCB [(mC (.bool true)),(mC (.int 998))] j4),(mC (.int 1)),(mC (.int 1))] j4) v1),(Z0 (mSl (y1 2) none (some (mC (.int 2)))) (mCB [(mC (.bool true)),(mC (.int 1))] j4) v1),(Z0 (mSl (y1 2) none (some (mC (.int 3)))) (mCB [(mC (.bool true))] j4) v1)] lstM))
 (Y4 (sIf (W8 (Z0 (z03 (z1N (y1 3)) (.nm 0) (rt true) (Z4 Y8 [(mC (.str ("put" :Str))),(y1 1),(y1 0)]) 1 [0]) (mCB [(mC (.int 0)),(mC (.int 0)),(mC (.int 0)),(mC (.int 0))] lstM) neD)) (J1 (mC (.bool false))) sNx)
 (J1 (Z0 (mCB [(z6m "Book" "words" Y9 (y1 0) [])] zaI) (mCB [(mCB [(bd (y1 1) z7f)] z7e)] zaI) eqS))))))
def G4:FM:=z0t 4 z0g
theorem z3O(T:Wd K mg):FnOk P w K mg base CX0 7 T.kak.f T.kak.d z0c (spM (GT T) 2 G4):=okM z0g T.kak.F X9 λcdv A outer s H E F hr=>by
 have h64:=hr.units
 exact(ss_cons (sst 2 X9.nd (se_tup rfl (s4 (se_tup rfl (s2 (sc0 y0) (sc0 y0))) (se_tup rfl (s2 (sc0 y0) (sc0 y0))) (sc0 y0) (sc0 y0))))
 (ss_cons (ss_if (SW.sb (sw_and (sb_cmp (z8F h64) (se_slice rfl (sv 2) so_none (so_some (sc0 y0))) (sv 1) (by with_unfolding_all rfl)) (sw_and1 (sb_cmp z78 (se_cb rfl z3y rfl T.n_len PyProof.Rows.Boot.«len» (s1 (sv 1))) (sc0 y0) (Y5 _))))) (ss_cons (ss_if (sb_cmp z8v (scl T.kaZ (z0Y T) hr (s3 (sc0 z00) (sv 0) (sv 2))) (sc0 z1W) (Y5 _)) (ss_one (ss_ret (sc0 V4))) ss_nil)
 (ss_one (ss_dput h64 (sxc (sv 2) y0) (sv 1) (se_slice rfl (sv 2) so_none (so_some (sc0 y0)))))) ss_nil)
 (ss_cons (sst 3 X9.nd (se_lst rfl (s4 (se_add rfl (se_tup rfl (s1 (se_tup rfl (s2 (sc0 V4) (sc0 y0))))) (se_slice rfl (sv 2) (so_some (sc0 y0)) so_none)) (se_add rfl (se_slice rfl (sv 2) so_none (so_some (sc0 y0))) (se_tup rfl (s3 (se_tup rfl (s2 (sc0 V4) (sc0 y0))) (sc0 y0) (sc0 y0)))) (se_add rfl (se_slice rfl (sv 2) so_none (so_some (sc0 y0))) (se_tup rfl (s2 (sc0 V4) (sc0 y0)))) (se_add rfl (se_slice rfl (sv 2) so_none (so_some (sc0 y0))) (se_tup rfl (s1 (sc0 V4)))))))
 (ss_cons (ss_if (sb_cmp (z5o rfl h64) (se_comp (own:=["_law_twin"]) (frees:=["_law_book"]) (ix:=[0]) rfl rfl (K5.sc (by kernel_rfl)) (si_seq rfl (sv 3)) (λ_ _ _ _ _ _ _=>(sg_name (U1 (i:=0) (show C4 (["_law_twin", "_law_book"]:List Str) by decide+kernel) rfl (Or.inl rfl)))) (λ_ _ _ _ _ _ _=>sts_nil) (λ_ _ _ _ _ _ _=>(scl T.kaZ (z0Y T) hr (s3 (sc0 z00) (sv 1) (sv 0))))) (se_lst rfl (s4 (sc0 y0) (sc0 y0) (sc0 y0) (sc0 y0))) (Y5 _)) (ss_one (ss_ret (sc0 V4))) ss_nil)
 (ss_one (ss_ret (se_cmp zfD (se_cb rfl (zbC rfl hr.gd h64) rfl T.n_repr PyProof.Rows.Boot.«repr» (s1 (se_mth0 (z1u T) T.cc_Book T.kad.h ((z0f T).mono (by lia)) hr T.kad.b z4h (sv 0) rfl))) (se_cb rfl (zbC rfl hr.gd h64) rfl T.n_repr PyProof.Rows.Boot.«repr» (s1 (se_cb rfl (z3x rfl h64) rfl T.n_sorted PyProof.Rows.Boot.«sorted» (s1 (se_rowK (i:=1) (own:=["_law_key"]) (frees:=["_law_model"]) rfl rfl (K5.sc (by kernel_rfl)) (pv 1) rfl (λ_ _ _ _ _ _=>U1 (i:=0) (show C4 (["_law_key", "_law_model"]:List Str) by decide+kernel) rfl (Or.inl rfl)) (λ_ _ _ _ _ _=>z7O z29 (pv 0) (z46 (Z9 (z5e (A2 (F6 (by decide:2<=64) _) h64) (pv 1) (pv 0) (λ_ _=>rfl)) V5)))))))) (Y5 _))))))))
def z2D:MS:=(Y4 (sIf (W8 (Z0 (y1 1) (mC (.str ("take" :Str))) eqD)) (J1 (Z0 (mCB [(mC (.int 3)),(mC .non)] lstM) (mCB [(Z0 (mSl (y1 2) none (some (mC (.int 3)))) (y1 0) zaB)] zbr) ixD)) sNx)
 (Y4 (sIf (z2M (G1 (Z4 K0 [(y1 2)]))) (J1 (mC (.int 0))) sNx)
 (Y4 (sIf (W8 (Z0 (mSl (y1 2) none (some (mC (.int 3)))) (y1 0) zaB)) (J1 (mC (.int 1))) sNx)
 (J1 (Z0 (mCB [(mC .non),(mC (.int 2))] lstM) (mCB [(Z0 (mCB [(y1 0)] z9x) (mC (.int 60)) geD)] zbr) ixD)))))
def K1:FM:=z0t 3 z2D
theorem zaX(T:Wd K mg):FnOk P w K mg base CX0 4 T.kbh.f T.kbh.d z5G (spM (GT T) 3 K1):=okM z2D T.kbh.F zaT λcdv A outer s H E F hr=>by
 have h64:=hr.units
 exact(ss_cons (ss_if (sb_cmp (z2U rfl h64) (sv 1) (sc0 z00) (Y5 _)) (ss_one (ss_ret (sxx (se_lst rfl (s2 (sc0 y0) (sc0 z1W))) (se_ct rfl z8w rfl T.n_int PyProof.Rows.Boot.«int» (s1 (se_cmp (z6j h64) (se_slice rfl (sv 2) so_none (so_some (sc0 y0))) (sv 0) (by with_unfolding_all rfl))))))) ss_nil)
 (ss_cons (ss_if (sb_not (sb_truth rfl (scl T.kar (z4N T) hr (s1 (sv 2))))) (ss_one (ss_ret (sc0 y0))) ss_nil)
 (ss_cons (ss_if (sb_cmp (z6j h64) (se_slice rfl (sv 2) so_none (so_some (sc0 y0))) (sv 0) (by with_unfolding_all rfl)) (ss_one (ss_ret (sc0 y0))) ss_nil)
 (ss_one (ss_ret (sxx (se_lst rfl (s2 (sc0 z1W) (sc0 y0))) (se_ct rfl z8w rfl T.n_int PyProof.Rows.Boot.«int» (s1 (se_cmp zcY (se_cb rfl z3y rfl T.n_len PyProof.Rows.Boot.«len» (s1 (sv 0))) (sc0 y0) (Y5 _))))))))))
def z2E:MS:=(Y4 (Q4 (.nm 2) (Z4 Z2 [(y1 0),(mC (.int 8))]))
 (Y4 (Q4 (.nm 3) (Z0 (mC (.int 1)) (Z4 Z2 [(y1 0),(mC (.int 2))]) v1))
 (Y4 (Q4 (.nm 4) (Z0 (mCB [(bd (y1 1) z7f)] z7e) (mCB [(Z4 z0W [(y1 0)])] lstM) v1))
 (Y4 (Q4 (.nm 5) (Z0 (y1 4) (Z4 Z2 [(y1 0),(mCB [(y1 4)] z2S)]) ixD))
 (Y4 (sIf (W8 (Z0 (y1 2) (mCB [(mC (.int 2)),(mC (.int 5))] j4) inD)) (Q4 (.nm 5) (mCB [(Z0 (y1 5) (mC (.int 0)) ixD),(Z0 (y1 5) (mC (.int 1)) ixD),(Z0 (mC (.int 7)) (Z0 (y1 5) (mC (.int 2)) ixD) za8),(Z0 (y1 5) (mC (.int 3)) ixD)] j4)) sNx)
 (Y4 (sIf (W8 (Z0 (y1 2) (mC (.int 3)) ltD)) (J1 (mCB [(mC (.str ("take" :Str))),(y1 5)] j4)) sNx)
 (Y4 (sIf (W8 (Z0 (y1 2) (mC (.int 6)) ltD)) (J1 (mCB [(mC (.str ("put" :Str))),(y1 5)] j4)) sNx)
 (Y4 (z7A (z02 [(y1 3)]) (.nm 6) (Q4 (.nm 5) (Z4 (u1 12) [(y1 0),(y1 5)])))
 (J1 (mCB [(mC (.str ("put" :Str))),(y1 5)] j4))))))))))
def x8:FM:=z0t 7 z2E
theorem z7k(T:Wd K mg):FnOk P w K mg base CX0 16 T.kaN.f T.kaN.d z2v (spM (GT T) 2 x8):=okM z2E T.kaN.F j8 λcdv A outer s H E F hr=>by
 have h64:=hr.units
 exact(ss_cons (sst 2 j8.nd (scl T.kba (Y3 T) hr (s2 (sv 0) (sc0 y0))))
 (ss_cons (sst 3 j8.nd (se_add rfl (sc0 y0) (scl T.kba (Y3 T) hr (s2 (sv 0) (sc0 y0)))))
 (ss_cons (sst 4 j8.nd (se_add rfl (se_cb rfl (z3x rfl h64) rfl T.n_sorted PyProof.Rows.Boot.«sorted» (s1 (se_rowK (i:=1) (own:=["_law_key"]) (frees:=["_law_model"]) rfl rfl (K5.sc (by kernel_rfl)) (pv 1) rfl (λ_ _ _ _ _ _=>U1 (i:=0) (show C4 (["_law_key", "_law_model"]:List Str) by decide+kernel) rfl (Or.inl rfl)) (λ_ _ _ _ _ _=>z7O z29 (pv 0) (z46 (Z9 (z5e (A2 (F6 (by decide:2<=64) _) h64) (pv 1) (pv 0) (λ_ _=>rfl)) V5)))))) (se_lst rfl (s1 (scl T.ka7 (z8Y T) hr (s1 (sv 0)))))))
 (ss_cons (sst 5 j8.nd (sxx (sv 4) (scl T.kba (Y3 T) hr (s2 (sv 0) (sln T.n_len (s1 (sv 4)))))))
 (ss_cons (ss_if (sb_cmp (zhZ rfl h64) (sv 2) (se_tup rfl (s2 (sc0 y0) (sc0 y0))) (by with_unfolding_all rfl)) (ss_one (sst 5 j8.nd (se_tup rfl (s4 (sxc (sv 5) y0) (sxc (sv 5) y0) (se_sub rfl (sc0 y0) (sxc (sv 5) y0)) (sxc (sv 5) y0))))) ss_nil)
 (ss_cons (ss_if (sb_cmp z78 (sv 2) (sc0 y0) (Y5 _)) (ss_one (ss_ret (se_tup rfl (s2 (sc0 z00) (sv 5))))) ss_nil)
 (ss_cons (ss_if (sb_cmp z78 (sv 2) (sc0 y0) (Y5 _)) (ss_one (ss_ret (se_tup rfl (s2 (sc0 z00) (sv 5))))) ss_nil)
 (ss_cons (ss_for PassesOwn.never rfl (si_rng1 rfl T.n_range (s1 (sv 3))) (sgn 6 j8.nd) (ss_one (sst 5 j8.nd (se_call rfl ((z2C T 12).mono (by lia)) hr rfl T.kav.m T.kav.F.kp T.kav.b z4h (s2 (sv 0) (sv 5)) rfl))))
 (ss_one (ss_ret (se_tup rfl (s2 (sc0 z00) (sv 5)))))))))))))
def g0:MS:=(zaD z5v (y1 0) "costs" W6)
def Y2:FM:=z0t 1 g0
theorem z0Z(T:Wd K mg):FnOk P w K mg base CX0 1 T.kab.f T.kab.d V9 (spM (GT T) 1 Y2):=okM g0 T.kab.F z0U λcdv A outer s H E F hr=>(ss_one (ss_fld (sv 0) (se_dnew rfl) (g8 T)))
def zdn:MS:=(Y4 (z7A (z02 [(mCB [(mC (.int 1)),(mCB [(mC (.int 2)),(mCB [(y1 0)] z2S)] zcQ)] ze5)]) (.nm 1) (Y4 (Q4 (.nm 2) (Z4 z2y [(y1 0),(y1 1)]))
 (Y4 (Q4 (.nm 3) (mCB [(Z0 (Z4 Z2 [(y1 2),(mC (.int 4))]) (mC (.int 3)) eqD)] zbr))
 (Y4 (Q4 (.nm 4) (z5y "Book" Y2 []))
 (Y4 (Q4 (.nm 5) z5v)
 (Y4 (z7A (z02 [(Z0 (mCB [(Z4 Z2 [(y1 2),(mC (.int 7))]),(mC (.int 60))] lstM) (y1 3) ixD)]) (.nm 6) (Y4 (Q4 (.nm 7) (mCB [(mCB [(Z0 (y1 6) (mC (.int 3)) z2c),(Z0 (y1 6) (mC (.int 3)) z1L)] j4),(mCB [(y1 6)] j4),(Z0 (y1 6) (mC (.int 8)) z2c),(Z4 Z2 [(y1 2),(mC (.int 10000))])] j4))
 (Y4 (z4n (z6m "Book" "put" j3 (y1 4) [(y1 7)]))
 (z4p (Z0 (y1 7) (mC (.int 3)) ixD) (y1 5) (mSl (y1 7) none (some (mC (.int 3)))) z0N))))
 (Y4 (z7A (z02 [(Z0 (mC (.int 8)) (Z4 Z2 [(y1 2),(mC (.int 9))]) v1)]) (.nm 8) (Y4 (Q4 (.tp [(.nm 9),(.nm 10)]) (Z4 x8 [(y1 2),(y1 5)]))
 (Y4 (Q4 (.nm 11) (Z4 K1 [(y1 5),(y1 9),(y1 10)]))
 (Y4 (sIf (mOr (W8 (Z0 (Z4 Y8 [(y1 9),(y1 4),(y1 10)]) (y1 11) neD)) (z8l (W8 (Z0 (y1 11) (mC .non) zbp)) (W8 (Z0 (Z4 Y8 [(y1 9),(y1 4),(y1 10)]) (y1 11) neD)))) (J1 (mC (.bool false))) sNx)
 (Y4 (sIf (z8l (W8 (Z0 (y1 11) (mC .non) isN)) (W8 (Z0 (y1 9) (mC (.str ("take" :Str))) eqD))) (z4n (z2p (y1 5) (mSl (y1 10) none (some (mC (.int 3)))))) (sIf (W8 (Z0 (y1 11) (mC .non) isN)) (z4p (Z0 (y1 10) (mC (.int 3)) ixD) (y1 5) (mSl (y1 10) none (some (mC (.int 3)))) z0N) sNx))
 (sIf (W8 (Z0 (z6m "Book" "words" Y9 (y1 4) []) (mCB [(bd (y1 5) z7f)] z7e) neD)) (J1 (mC (.bool false))) sNx))))))
 (sIf (z2M (G1 (Z4 G4 [(y1 4),(y1 5)]))) (J1 (mC (.bool false))) sNx))))))))
 (J1 (mC (.bool true))))
def f_law:FM:=z0t 12 zdn
theorem zfZ(T:Wd K mg):FnOk P w K mg base CX0 17 T.x_law.f T.x_law.d zdm (spM (GT T) 1 f_law):=okM zdn T.x_law.F K6 λcdv A outer s H E F hr=>by
 have h64:=hr.units
 exact(ss_cons (ss_for PassesOwn.never rfl (si_rng1 rfl T.n_range (s1 (se_cb rfl (zfA rfl) rfl T.n_max PyProof.Rows.Boot.«max» (s2 (sc0 y0) (se_cb rfl (zbv rfl) rfl T.n_min PyProof.Rows.Boot.«min» (s2 (sc0 y0) (sln T.n_len (s1 (sv 0))))))))) (sgn 1 K6.nd) (ss_cons (sst 2 K6.nd (scl T.kbj (zaV T) hr (s2 (sv 0) (sv 1))))
 (ss_cons (sst 3 K6.nd (se_ct rfl z8w rfl T.n_int PyProof.Rows.Boot.«int» (s1 (se_cmp (z2U rfl h64) (scl T.kba (Y3 T) hr (s2 (sv 2) (sc0 y0))) (sc0 y0) (Y5 _)))))
 (ss_cons (sst 4 K6.nd (se_make0 rfl (z1u T) T.mk_Book ((z0Z T).mono (by lia)) hr rfl T.kbg T.kab.b z4h rfl))
 (ss_cons (ss_set (λ{te} h=>z5Z (i:=5) K6.nd rfl (Or.inr rfl) h) (se_dnew rfl))
 (ss_cons (ss_for PassesOwn.never rfl (si_rng1 rfl T.n_range (s1 (sxx (se_lst rfl (s2 (scl T.kba (Y3 T) hr (s2 (sv 2) (sc0 y0))) (sc0 y0))) (sv 3)))) (sgn 6 K6.nd) (ss_cons (sst 7 K6.nd (se_tup rfl (s4 (se_tup rfl (s2 (se_mod rfl (sv 6) (sc0 y0)) (se_fdiv rfl (sv 6) (sc0 y0)))) (se_tup rfl (s1 (sv 6))) (se_mod rfl (sv 6) (sc0 y0)) (scl T.kba (Y3 T) hr (s2 (sv 2) (sc0 y0))))))
 (ss_cons (ss_expr (se_mth (z1u T) T.cc_Book T.kam.h ((z2A T).mono (by lia)) hr T.kam.b z4h (sv 4) (s1 (sv 7)) rfl))
 (ss_one (ss_dput h64 (sxc (sv 7) y0) (sv 5) (se_slice rfl (sv 7) so_none (so_some (sc0 y0))))))))
 (ss_cons (ss_for PassesOwn.never rfl (si_rng1 rfl T.n_range (s1 (se_add rfl (sc0 y0) (scl T.kba (Y3 T) hr (s2 (sv 2) (sc0 y0)))))) (sgn 8 K6.nd) (ss_cons (ss_asg (scl T.kaN (z7k T) hr (s2 (sv 2) (sv 5))) (sg_tup rfl rfl (sgs_cons (sgn 9 K6.nd) (sgs_cons (sgn 10 K6.nd) sgs_nil))))
 (ss_cons (sst 11 K6.nd (scl T.kbh (zaX T) hr (s3 (sv 5) (sv 9) (sv 10))))
 (ss_cons (ss_if (SW.sb (sw_or (sb_cmp (z5o rfl h64) (scl T.kaZ (z0Y T) hr (s3 (sv 9) (sv 4) (sv 10))) (sv 11) (Y5 _)) (sw_or1 (SW.sb (sw_and (sb_cmp z8v (sv 11) (sc0 z1W) (Y5 _)) (sw_and1 (sb_cmp (z5o rfl h64) (scl T.kaZ (z0Y T) hr (s3 (sv 9) (sv 4) (sv 10))) (sv 11) (Y5 _)))))))) (ss_one (ss_ret (sc0 V4))) ss_nil)
 (ss_cons (ss_if (SW.sb (sw_and (sb_cmp zbu (sv 11) (sc0 z1W) (Y5 _)) (sw_and1 (sb_cmp (z2U rfl h64) (sv 9) (sc0 z00) (Y5 _))))) (ss_one (ss_expr (se_pop1 rfl h64 (sv 5) (se_slice rfl (sv 10) so_none (so_some (sc0 y0))) ⟨rfl,rfl,rfl,rfl⟩))) (ss_one (ss_if (sb_cmp zbu (sv 11) (sc0 z1W) (Y5 _)) (ss_one (ss_dput h64 (sxc (sv 10) y0) (sv 5) (se_slice rfl (sv 10) so_none (so_some (sc0 y0))))) ss_nil)))
 (ss_one (ss_if (sb_cmp (z5o rfl h64) (se_mth0 (z1u T) T.cc_Book T.kad.h ((z0f T).mono (by lia)) hr T.kad.b z4h (sv 4) rfl) (se_cb rfl (z3x rfl h64) rfl T.n_sorted PyProof.Rows.Boot.«sorted» (s1 (se_rowK (i:=5) (own:=["_law_key"]) (frees:=["_law_model"]) rfl rfl (K5.sc (by kernel_rfl)) (pv 5) rfl (λ_ _ _ _ _ _=>U1 (i:=0) (show C4 (["_law_key", "_law_model"]:List Str) by decide+kernel) rfl (Or.inl rfl)) (λ_ _ _ _ _ _=>z7O z29 (pv 0) (z46 (Z9 (z5e (A2 (F6 (by decide:2<=64) _) h64) (pv 1) (pv 0) (λ_ _=>rfl)) V5)))))) (Y5 _)) (ss_one (ss_ret (sc0 V4))) ss_nil)))))))
 (ss_one (ss_if (sb_not (sb_truth rfl (scl T.kak (z3O T) hr (s2 (sv 4) (sv 5))))) (ss_one (ss_ret (sc0 V4))) ss_nil)))))))))
 (ss_one (ss_ret (sc0 V4))))
end
end My
namespace Mi
open PySem L2
theorem g9{α:Type}(xs ys:List α)(k:Nat)(h:xs.length=k):(xs++ys).drop k=ys:=by subst h;simp
theorem z0o{α:Type}(xs ys:List α)(k:Nat)(h:xs.length=k):(xs++ys).take k=xs:=by subst h;simp
theorem K2: ∀ds:List D,Z3 (ds.map some)=some ds
 |[]=>rfl
 |d::ds=>by simp[Z3,K2 ds]
theorem z7l{me:M D}{g:D->D}{ds:List D}{fr σ0 tm0:List (Option D)}{ol:Nat}(hol:σ0.length=ol)(hz:ds.length<sizeLine)
 (hme: ∀d∈ds,∀tm n,∃n',n<=n'/\me ⟨some d::fr,tm,n⟩= .ok (g d) ⟨some d::fr,tm,n'⟩):
 ∀(f i:Nat) (o:Option D) (n:Nat),i+f=ds.length->∃n',n<=n'/\v3 zcT (.nm 0) (rt true) me ol f i i ⟨o::fr,(((ds.take i).map g).reverse.map some)++(σ0++(some (.tup ds)::tm0)),n⟩= .ok (.lst n' (ds.map g)) ⟨σ0,tm0,n'+1⟩:=by
 intro f
 induction f with
 |zero=>
  intro i o n hi
  have hi:i=ds.length:=by lia
  subst hi
  refine⟨n,c6 _, ?_⟩
  have l1:(((ds.take ds.length).map g).reverse.map some).length=ds.length:=by simp
  unfold v3
  have e1:(((((ds.take ds.length).map g).reverse.map some)++(σ0++(some (D.tup ds)::tm0))).drop (ds.length+ol))=some (D.tup ds)::tm0:=by
   rw[<-o0];exact g9 _ _ _ (by simp[hol])
  erw[e1,zcT,zae,List.getElem?_eq_none (c6 ds.length)]
  rw[z0o _ _ _ l1]
  have e2:(((ds.take ds.length).map g).reverse.map some).reverse=(ds.map g).map some:=by simp
  rw[e2,K2]
  erw[Res.ok.injEq,true_and,Stt.mk.injEq,and_true]
  constructor
  .rw[g9 _ _ _ l1,z0o _ _ _ hol]
  .rw[<-o0]
   have:(((((ds.take ds.length).map g).reverse.map some)++σ0)++(some (D.tup ds)::tm0)).drop (ds.length+ol+1)=((((((ds.take ds.length).map g).reverse.map some)++σ0)++(some (D.tup ds)::tm0)).drop (ds.length+ol)).drop 1:=by rw[D8]
   rw[this,g9 _ _ _ (by simp[hol])]
   rfl
 |succ f ih=>
  intro i o n hi
  have hlt:i<ds.length:=by lia
  have l1:(((ds.take i).map g).reverse.map some).length=i:=by simp;lia
  unfold v3
  have e1:(((((ds.take i).map g).reverse.map some)++(σ0++(some (D.tup ds)::tm0))).drop (i+ol))=some (D.tup ds)::tm0:=by
   rw[<-o0];exact g9 _ _ _ (by simp[hol];lia)
  erw[e1,zcT,zae,List.getElem?_eq_getElem hlt,asg,t9,rt]
  rw[if_pos (by lia)]
  obtain⟨n1,hn1,h1⟩:=hme ds[i] (B4 hlt) ((((ds.take i).map g).reverse.map some)++(σ0++(some (D.tup ds)::tm0))) n
  rw[h1]
  obtain⟨n2,hn2,h2⟩:=ih (i+1) (some ds[i]) n1 (by lia)
  refine⟨n2,by lia, ?_⟩
  rw[<-h2]
  erw[Stt.psh]
  have e3:ds.take (i+1)=ds.take i++[ds[i]]:=by rw[List.take_add_one,List.getElem?_eq_getElem hlt];rfl
  rw[e3]
  erw[C5,c8,l7,D5,m7,B3,m5,l9]
  rfl
theorem z4O{mc me:M D}{g:D->D}{ds:List D}{ix:List Nat}{s s1:Stt}(hc:mc s= .ok (.tup ds) s1)(hz:ds.length<sizeLine)
 (hme: ∀d∈ds,∀tm n,∃n',n<=n'/\me ⟨some d::(ix.map λi=>(s1.σ[i]?).getD none),tm,n⟩= .ok (g d) ⟨some d::(ix.map λi=>(s1.σ[i]?).getD none),tm,n'⟩):
 ∃n',s1.n<=n'/\z03 (z1N mc) (.nm 0) (rt true) me 1 ix s= .ok (.lst n' (ds.map g)) {s1 with n:=n'+1}:=by
 obtain⟨n',h1,h2⟩:=z7l (me:=me) (g:=g) (ds:=ds) (σ0:=s1.σ) (tm0:=s1.tm) rfl hz hme ds.length 0 none s1.n (by lia)
 refine⟨n',h1, ?_⟩
 unfold z03 z1N
 erw[bd,hc,Stt.psh]
 erw[List.take_zero,l7,B3,m5] at h2
 erw[zcT,z8p,z69,e8] at h2⊢
 exact h2
theorem z4P(ds:List D)(g:D->Bool):G2 (ds.map λd=> .bool (g d))=some (ds.map g):=by
 induction ds with
 |nil=>rfl
 |cons d ds ih=>simp[G2,ih]
theorem z7m{t:D}{ts:List D}{n':Nat}{s:Stt}:X3 (.ok t ts n') ts s= .ok t {s with n:=n'}:=by
 unfold X3;simp
end Mi
set_option maxHeartbeats 40000
namespace Mi
open PySem L2
class Kq{α:Type}(f:α):Type where
instance kq{α:Type}(f:α):Kq f:=⟨⟩
def Res.bnd{α β:Type}(f:α->Stt->Res β)[Kq f](r:Res α):Res β:=match r with
 | .ok a s=>f a s
 | .ex d s=> .ex d s
 | .no=> .no
theorem z1a{α β:Type}{a:α}{s:Stt}{f:α->Stt->Res β}:((Res.ok a s).bnd f:Res β)=f a s:=(rfl)
def Res.lf{α:Type}(f:α->MS)[Kq f](r:Res α):RS:=match r with
 | .ok a s=>f a s
 | .ex d s=> .ex d s
 | .no=> .no
theorem zil{α:Type}{a:α}{s:Stt}{f:α->MS}:((Res.ok a s).lf f:RS)=f a s:=(rfl)
def RS.sq(m:MS)[Kq m](r:RS):RS:=match r with
 | .nx s=>m s
 |r=>r
theorem zim{s:Stt}{m:MS}:((RS.nx s).sq m:RS)=m s:=(rfl)
theorem zin{d:D}{s:Stt}{m:MS}:((RS.rt d s).sq m:RS)= .rt d s:=(rfl)
def RS.fin(r:RS):RF:=match r with
 | .nx s'=>match Z3 s'.tm with|some ts'=> .ok .non ts' s'.n|none=> .no
 | .rt t s'=>match Z3 s'.tm with|some ts'=> .ok t ts' s'.n|none=> .no
 | .ex d s'=>match Z3 s'.tm with|some ts'=> .ex d ts' s'.n|none=> .no
 |_=> .no
def zdo(o:Option (List D))(t:D)(n:Nat):RF:=match o with|some ts=> .ok t ts n|none=> .no
theorem z90{ts:List D}{t:D}{n:Nat}:zdo (some ts) t n= .ok t ts n:=(rfl)
theorem zio{t:D}{σ tm:List (Option D)}{n:Nat}:(RS.rt t ⟨σ,tm,n⟩).fin=zdo (Z3 tm) t n:=(rfl)
theorem ziq{σ tm:List (Option D)}{n:Nat}:(RS.nx ⟨σ,tm,n⟩).fin=zdo (Z3 tm) .non n:=(rfl)
theorem zir{nl:Nat}{mb:MS}{ts:List D}{n:Nat}:z0t nl mb ts n=(mb ⟨ts.map some++e8 (nl -ts.length) none,ts.map some,n⟩).fin:=(rfl)
section
variable{α β:Type}{m ma mb mc:M D}{s:Stt}{ms:List (M D)}{σ tm:List (Option D)}{n:Nat}
theorem zis{m:M α}{f:α->M β}:bd m f s=(m s).bnd f:=(rfl)
theorem zkl{a:α}:rt a s= .ok a s:=(rfl)
theorem zg0{t:D}:Stt.psh ⟨σ,tm,n⟩ t=⟨σ,some t::tm,n⟩:=(rfl)
theorem zit:Stt.nxt ⟨σ,tm,n⟩=⟨σ,tm,n+1⟩:=(rfl)
theorem ziu{t:D}{r:List (Option D)}:pop ⟨σ,some t::r,n⟩= .ok t ⟨σ,r,n⟩:=(rfl)
def vOf(o:Option (Option D))(s:Stt):Res D:=match o with
 |some (some t)=> .ok t s
 |_=> .no
theorem zaY{t:D}:vOf (some (some t)) s= .ok t s:=(rfl)
theorem ziv{i:Nat}:y1 i ⟨σ,tm,n⟩=vOf (σ[i]?) ⟨σ,tm,n⟩:=by
 unfold y1 vOf
 cases σ[i]? with
 |none=>rfl
 |some o=>cases o<;>rfl
theorem x_C{d:D}:mC d s= .ok d s:=(rfl)
theorem zdp{g:D->D->M D}:Z0 ma mb g s=(ma s).bnd λx s1=>(mb (s1.psh x)).bnd λy s2=>(pop s2).bnd λx' s3=>g x' y s3:=(rfl)
theorem ziw:W8 m s=(m s).bnd ze3:=(rfl)
theorem zg1{b:Bool}:ze3 (.bool b) s= .ok b s:=(rfl)
theorem zg2:G1 m s=(m s).bnd zfg:=(rfl)
theorem zkm{b:Bool}:zfg (.bool b) s= .ok b s:=(rfl)
theorem zix{m m':M Bool}:z8l m m' s=(m s).bnd λb=>z4l b m' (rt false):=(rfl)
theorem zkn{m m':M Bool}:mOr m m' s=(m s).bnd λb=>z4l b (rt true) m':=(rfl)
theorem ziy{m:M Bool}:z2M m s=(m s).bnd λb s1=> .ok (!b) s1:=(rfl)
theorem zg3{m m':M D}:z1M m m' s=(m s).bnd λd s1=>(ze3 d s1).bnd λb=>z4l b m' (rt (.bool false)):=by
 unfold z1M W8 bd Res.bnd
 cases m s<;>rfl
theorem ziz{m m':M D}:zfi m m' s=(m s).bnd λd s1=>(ze3 d s1).bnd λb=>z4l b (rt (.bool true)) m':=by
 unfold zfi W8 bd Res.bnd
 cases m s<;>rfl
theorem zg4{m:M D}:z72 m s=(m s).bnd λd s1=>(ze3 d s1).bnd λb=>rt (.bool (!b)):=by
 unfold z72 W8 bd Res.bnd
 cases m s<;>rfl
theorem zko{m m':M α}:z4l true m m' s=m s:=(rfl)
theorem zkp{m m':M α}:z4l false m m' s=m' s:=(rfl)
theorem zdq:Z7 [] s= .ok [] s:=(rfl)
theorem z1w:Z7 (m::ms) s=(m s).bnd λx s1=>(Z7 ms (s1.psh x)).bnd λys s2=>(pop s2).bnd λx' s3=> .ok (x'::ys) s3:=(rfl)
theorem zjH{g:List D->M D}:mCB ms g s=(Z7 ms s).bnd g:=(rfl)
theorem zg5{f:FM}:Z4 f ms s=(Z7 ms s).bnd λts s1=>X3 (f ts s1.n) ts s1:=(rfl)
def zg6(o:Option Bool)(s:Stt):Res D:=match o with
 |some b=> .ok (.bool b) s
 |none=> .no
theorem z91{b:Bool}:zg6 (some b) s= .ok (.bool b) s:=(rfl)
theorem ziA{T:String}:z7z T m s=(m s).bnd λd s1=>zg6 (isiD T d) s1:=by
 unfold z7z bd Res.bnd zg6
 cases m s with
 |ok d s1=>dsimp only;cases isiD T d<;>rfl
 |ex d s1=>rfl
 |no=>rfl
theorem zg7{Ts:List String}:z8A Ts m s=(m s).bnd λd s1=>zg6 (isiAny Ts d) s1:=by
 unfold z8A bd Res.bnd zg6
 cases m s with
 |ok d s1=>dsimp only;cases isiAny Ts d<;>rfl
 |ex d s1=>rfl
 |no=>rfl
theorem z92{g g':D->D->M D}:U3 ma mb mc g g' s=(ma s).bnd λx s1=>(mb (s1.psh x)).bnd λy s2=>(pop s2).bnd λx' s3=>z73 y (bd (W8 (g x' y)) λk=>z4l k (bd mc λz=>g' y z) (rt (.bool false))) s3:=(rfl)
theorem ziB{i:Int}{m:M D}:z73 (.int i) m s=m s:=(rfl)
def ziC(o:Option Int)(s:Stt):Res (Option Int):=match o with
 |some i=> .ok (some i) s
 |none=> .no
theorem z93{i:Int}:ziC (some i) s= .ok (some i) s:=(rfl)
theorem zdr:z2R none s= .ok none s:=(rfl)
theorem zds:z2R (some m) s=(m s).bnd λd s1=>ziC (mInt d) s1:=by
 show bd m (λd=>match mInt d with|some i=>rt (some i)|none=>fl) s=_
 unfold bd Res.bnd
 cases m s with
 |ok d s1=>show(match mInt d with|some i=>rt (some i)|none=>fl:M (Option Int)) s1=ziC (mInt d) s1;cases mInt d<;>rfl
 |ex d s1=>rfl
 |no=>rfl
theorem zg8{i:Int}:mInt (.int i)=some i:=(rfl)
theorem zkq{lo hi:Option (M D)}:mSl m lo hi s=(m s).bnd λx s1=>(z2R lo (s1.psh x)).bnd λl s2=>(z2R hi s2).bnd λh s3=>(pop s3).bnd λx' s4=>slD x' l h s4:=(rfl)
theorem zg9{i j:Int}:v1 (.int i) (.int j) s= .ok (.int (i+j)) s:=(rfl)
theorem zga{a b:List D}(h:a.length+b.length<=sizeLine):v1 (.tup a) (.tup b) s= .ok (.tup (a++b)) s:=by erw[v1,if_pos h];rfl
theorem z4Q{k l:Nat}{a b:List D}(h:a.length+b.length<=sizeLine):v1 (.lst k a) (.lst l b) s= .ok (.lst s.n (a++b)) s.nxt:=by erw[v1,if_pos h];rfl
theorem ziD{i j:Int}:za8 (.int i) (.int j) s= .ok (.int (i -j)) s:=(rfl)
theorem z94{i j:Int}(h:z9I i j):z3q (.int i) (.int j) s= .ok (.int (i*j)) s:=by erw[z3q,if_pos h];rfl
theorem z6v{i j:Int}(h:z9H i j):z1L (.int i) (.int j) s= .ok (.int (i/j)) s:=by erw[z1L,if_pos h];rfl
theorem z1P{i j:Int}(h:0<j):z2c (.int i) (.int j) s= .ok (.int (i %j)) s:=by erw[z2c,if_pos h];rfl
theorem zaZ{i j:Int}(h:ze0 i j):z8j (.int i) (.int j) s= .ok (.int (i^j.toNat)) s:=by erw[z8j,if_pos h];rfl
theorem zkr{i j:Int}:ltD (.int i) (.int j) s= .ok (.bool (decide (i<j))) s:=(rfl)
theorem zks{i j:Int}:leD (.int i) (.int j) s= .ok (.bool (decide (i<=j))) s:=(rfl)
theorem zkt{i j:Int}:gtD (.int i) (.int j) s= .ok (.bool (decide (j<i))) s:=(rfl)
theorem zku{i j:Int}:geD (.int i) (.int j) s= .ok (.bool (decide (j<=i))) s:=(rfl)
theorem ziE{i:Int}:zbq (.int i) s= .ok (.int (-i)) s:=(rfl)
theorem zjI{t t':D}(h:eqC t t'=true):eqD t t' s= .ok (.bool (PyData.eqv (er t) (er t'))) s:=by erw[eqD,if_pos h];rfl
theorem zjJ{t t':D}(h:eqC t t'=true):neD t t' s= .ok (.bool (!PyData.eqv (er t) (er t'))) s:=by erw[neD,if_pos h];rfl
theorem zkv{t t':D}{ds:List D}(e:z7x t'=some ds)(h:inC t ds=true):inD t t' s= .ok (.bool ((erL ds).any λy=>PyData.eqv y (er t))) s:=by erw[inD,e,if_pos h];rfl
theorem ziF{ds:List D}{i:Int}:ixD (.tup ds) (.int i) s=zcK (atI ds i) s:=(rfl)
theorem ziG{l:Nat}{ds:List D}{i:Int}:ixD (.lst l ds) (.int i) s=zcK (atI ds i) s:=(rfl)
theorem ziH{ds:List D}{i:Int}:ixD (.ro ds) (.int i) s=zcK (atI ds i) s:=(rfl)
theorem ziI{d:D}:zcK (some d) s= .ok d s:=(rfl)
theorem ziJ{l:Nat}{ds:List D}{lo hi:Option Int}:slD (.lst l ds) lo hi s= .ok (.lst s.n (z7y ds lo hi)) s.nxt:=(rfl)
theorem z95{ts:List D}(h:ts.length<=sizeLine):j4 ts s= .ok (.tup ts) s:=by erw[j4,if_pos h];rfl
theorem z4R{ts:List D}(h:ts.length<=sizeLine):lstM ts s= .ok (.lst s.n ts) s.nxt:=by erw[lstM,if_pos h];rfl
theorem zgb{ds:List D}:z2S [.tup ds] s= .ok (.int ds.length) s:=(rfl)
theorem zgc{l:Nat}{ds:List D}:z2S [.lst l ds] s= .ok (.int ds.length) s:=(rfl)
theorem zgd{ds:List D}:z2S [.ro ds] s= .ok (.int ds.length) s:=(rfl)
theorem ziK{i:Int}:ze4 [.int i] s= .ok (.int (if i<0 then -i else i)) s:=(rfl)
theorem ziL{i j:Int}:zcQ [.int i, .int j] s= .ok (.int (if j<i then j else i)) s:=(rfl)
theorem ziM{i j:Int}:ze5 [.int i, .int j] s= .ok (.int (if j>i then j else i)) s:=(rfl)
theorem zge{b:Bool}:zbr [.bool b] s= .ok (.int (if b then 1 else 0)) s:=(rfl)
theorem zgf{l:Nat}{ds:List D}:zac [.lst l ds] s= .ok (.tup ds) s:=(rfl)
theorem zgg{l:Nat}{ds:List D}{bs:List Bool}(h:G2 ds=some bs):zcR [.lst l ds] s= .ok (.bool (bs.all id)) s:=by erw[zcR,h];rfl
theorem ziN{a b:MS}:Y4 a b s=(a s).sq b:=by
 unfold Y4 RS.sq
 cases a s<;>rfl
theorem ziO:sNx s= .nx s:=(rfl)
theorem zgh:J1 m s=(m s).lf λd s1=> .rt d s1:=(rfl)
theorem zdt:z4n m s=(m s).lf λ_ s1=> .nx s1:=(rfl)
theorem ziP{c:M Bool}{a b:MS}:sIf c a b s=(c s).lf λk=>zfp k a b:=(rfl)
theorem zkw{a b:MS}:zfp true a b s=a s:=(rfl)
theorem zkx{a b:MS}:zfp false a b s=b s:=(rfl)
def ziQ(o:Option (List (Option D)))(s:Stt):RS:=match o with
 |some σ'=> .nx {s with σ:=σ'}
 |none=> .no
theorem z96{σ':List (Option D)}:ziQ (some σ') ⟨σ,tm,n⟩= .nx ⟨σ',tm,n⟩:=(rfl)
theorem zgi{g:Tg}:Q4 g m s=(m s).lf λd s1=>ziQ (asg g d s1.σ) s1:=by
 unfold Q4 z0w Res.lf ziQ
 cases m s with
 |ok d s1=>first|(dsimp only;cases asg g d s1.σ<;>rfl)|(dsimp only;done)|rfl
 |ex d s1=>rfl
 |no=>rfl
theorem ziR{me mo mi:M D}{g:D->D->D->MS}:z4p me mo mi g s=(me s).lf λv s1=>(mo (s1.psh v)).lf λo s2=>(mi (s2.psh o)).lf λi s3=>(pop s3).lf λo' s4=>(pop s4).lf λv' s5=>g o' i v' s5:=(rfl)
theorem zdu{l:Nat}{ds:List D}{k:Int}{v:D}{j:Nat}(e:ixN ds.length k=some j)(h:l∉y3 v):zam (.lst l ds) (.int k) v s= .nx (s.put l (.lst l (ds.set j v))):=by erw[zam,e,if_pos h]
theorem zgj{mo:M D}{g:D->List D->M D}:z5n mo ms g s=(mo s).bnd λx s1=>(isL x s1).bnd λ_ s2=>(Z7 ms (s2.psh x)).bnd λys s3=>(pop s3).bnd λx' s4=>g x' ys s4:=(rfl)
theorem ziS{l:Nat}{ds:List D}:isL (.lst l ds) s= .ok () s:=(rfl)
end
theorem z1E{α:Type}{xs:List α}{i:Int}{d:α}(h0:0<=i)(h:xs[i.toNat]? =some d):atI xs i=some d:=by
 obtain⟨j,rfl⟩:=M8 h0
 exact zcr (by simpa using h)
end Mi
set_option maxHeartbeats 400000
namespace Mi
open PySem L2
def pl(l:Nat)(d:D):Nat->Option D:=λk=>if k=l then some d else none
theorem zgk{σ tm:List (Option D)}{n l:Nat}{d:D}:Stt.put ⟨σ,tm,n⟩ l d=⟨rpO (pl l d) σ,rpO (pl l d) tm,n⟩:=(rfl)
theorem W7{l:Nat}{d t:D}(h:l∉y3 t):rp (pl l d) t=t:=z3o t λk hk=>by
 unfold pl;rw[if_neg];intro e;subst e;exact h hk
theorem K3{f:Nat->Option D}:rpO f []=[]:=(rfl)
theorem zb0{f:Nat->Option D}{r:List (Option D)}:rpO f (none::r)=none::rpO f r:=(rfl)
theorem z6w{f:Nat->Option D}{d:D}{r:List (Option D)}:rpO f (some d::r)=some (rp f d)::rpO f r:=(rfl)
theorem zbI{l:Nat}{d:D}{b:List D}:rp (pl l d) (.lst l b)=d:=by erw[rp,pl,if_true]
theorem z1b{f:Nat->Option D}{i:Int}:rp f (.int i)= .int i:=(rfl)
theorem zgl{f:Nat->Option D}{i:Str}:rp f (.str i)= .str i:=(rfl)
theorem z97{f:Nat->Option D}{ds:List D}:rp f (.tup ds)= .tup (rpL f ds):=(rfl)
theorem z98{f:Nat->Option D}:rpL f []=[]:=(rfl)
theorem z3P{f:Nat->Option D}{d:D}{ds:List D}:rpL f (d::ds)=rp f d::rpL f ds:=(rfl)
mutual
theorem z7n{l:Nat}: ∀t:D,l∉y3 t->Z8 l t=none
 | .non,_=>rfl
 | .bool _,_=>rfl
 | .int _,_=>rfl
 | .str _,_=>rfl
 | .exc _,_=>rfl
 | .fn _,_=>rfl
 | .tup ds,h=>by erw[y3] at h;erw[Z8];exact findL_none ds h
 | .ro ds,h=>by erw[y3] at h;erw[Z8];exact findL_none ds h
 | .fdc ks ds,h=>by erw[y3] at h;erw[Z8];exact findL_none ds h
 | .lst k ds,h=>by
  erw[y3,c9,not_or] at h;erw[Z8];rw[if_neg λe=>h.1 e.symm];exact findL_none ds h.2
 | .dct k ks ds,h=>by
  erw[y3,c9,c7,not_or] at h;erw[Z8];rw[if_neg λe=>h.1 e.symm];exact findL_none ds h.2.2
 | .obj k c ks ds,h=>by
  erw[y3,c9,not_or] at h;erw[Z8];rw[if_neg λe=>h.1 e.symm];exact findL_none ds h.2
theorem findL_none{l:Nat}: ∀t:List D,l∉labsL t->findL l t=none
 |[],_=>rfl
 |d::ds,h=>by
  erw[labsL,c7,not_or] at h
  erw[findL,z7n d h.1,findL_none ds h.2]
end
theorem x9{t:D}{l n' n:Nat}{b b' r:List D}{σ tm:List (Option D)}(hb:labsL b=[])(hb':labsL b'=[])(hr:labsL r=[])(f1:rpO (pl l (.lst l b)) σ=σ)(f2:rpO (pl l (.lst l b)) tm=tm):
 X3 (.ok t (.lst l b'::r) n') (.lst l b::r) ⟨σ,tm,n⟩= .ok t ⟨rpO (pl l (.lst l b')) σ,rpO (pl l (.lst l b')) tm,n'⟩:=by
 have e:(λk=>findL k (.lst l b'::r))=pl l (.lst l b'):=by
  funext k
  erw[findL,Z8,pl]
  by_cases h:l=k
  .subst h;rw[if_pos rfl,if_pos rfl]
  .rw[if_neg h,if_neg λq=>h q.symm,findL_none b' (by rw[hb'];exact i7),findL_none r (by rw[hr];exact i7)]
 unfold X3
 by_cases h:(D.lst l b'::r)=(D.lst l b::r)
 .have hh:b'=b:=by injection h with h _;injection h
  subst hh
  erw[if_true]
  rw[f1,f2]
 .erw[if_neg h]
  rw[if_pos,e]
  intro k _ hk
  erw[labsL,y3,hb,hr,e7,l5] at hk
  subst hk
  have:=congrFun e k
  rw[show findL k (D.lst k b'::r)=pl k (D.lst k b') k from this];simp[pl]
theorem ziT{mi:M ItK}{g:Tg}{b:MS}{s:Stt}:z7A mi g b s=(mi s).lf λK s=>forGo K g b (K.len s.tm) 0 s:=(rfl)
theorem zbJ{ms:List (M D)}{s:Stt}:z02 ms s=(Z7 ms s).bnd zfu:=(rfl)
theorem z3d{j:Int}{s:Stt}(h: -(2^62)<=j/\j<2^62):zfu [.int j] s= .ok (z8q 0 j.toNat) s:=by erw[zfu,if_pos h];rfl
theorem zgm{lo:Int}{N:Nat}{tm:List (Option D)}:(z8q lo N).len tm=N:=(rfl)
theorem z2F{P:Nat->Stt->Prop}{lo:Int}{N:Nat}{g:Tg}{b:MS}
 (body: ∀i,i<N->∀s,P i s->∃σ',asg g (.int (lo+i)) s.σ=some σ'/\∃s',b {s with σ:=σ'}= .nx s'/\P (i+1) s'):
 ∀(f i:Nat) (s:Stt),i+f=N->P i s->∃s',forGo (z8q lo N) g b f i s= .nx s'/\P N s':=by
 intro f
 induction f with
 |zero=>
  intro i s hi h
  have e:i=N:=by lia
  subst e
  refine⟨s, ?_,h⟩
  unfold forGo
  erw[z8q,C7,if_false]
  rfl
 |succ f ih=>
  intro i s hi h
  have hl:i<N:=by lia
  obtain⟨σ',e1,s',e2,h'⟩:=body i hl s h
  obtain⟨s2,e3,h2⟩:=ih (i+1) s' (by lia) h'
  refine⟨s2, ?_,h2⟩
  unfold forGo
  erw[z8q,if_pos hl,e1,e2]
  exact e3
mutual
theorem zgn{l:Nat}{b:List D}{d:D}: ∀t:D,rp (pl l d) (rp (pl l (.lst l b)) t)=rp (pl l d) t
 | .non=>rfl
 | .bool _=>rfl
 | .int _=>rfl
 | .str _=>rfl
 | .exc _=>rfl
 | .fn _=>rfl
 | .tup ds=>by erw[rp];rw[rpL_rp ds]
 | .ro ds=>by erw[rp];rw[rpL_rp ds]
 | .fdc ks ds=>by erw[rp];rw[rpL_rp ds]
 | .lst k ds=>by
  by_cases h:k=l
  .subst h;erw[rp,pl,if_true]
  .have e: ∀x,pl l x k=none:=λx=>by erw[pl,if_neg h]
   erw[rp,e];rw[rpL_rp ds]
 | .dct k ks ds=>by
  by_cases h:k=l
  .subst h;erw[rp,pl,if_true]
  .have e: ∀x,pl l x k=none:=λx=>by erw[pl,if_neg h]
   erw[rp,e];rw[rpL_rp ds]
 | .obj k c ks ds=>by
  by_cases h:k=l
  .subst h;erw[rp,pl,if_true]
  .have e: ∀x,pl l x k=none:=λx=>by erw[pl,if_neg h]
   erw[rp,e];rw[rpL_rp ds]
theorem rpL_rp{l:Nat}{b:List D}{d:D}: ∀t:List D,rpL (pl l d) (rpL (pl l (.lst l b)) t)=rpL (pl l d) t
 |[]=>rfl
 |t::ts=>by erw[rpL];rw[zgn t,rpL_rp ts]
end
theorem z4S{l:Nat}{b:List D}{d:D}: ∀t:List (Option D),rpO (pl l d) (rpO (pl l (.lst l b)) t)=rpO (pl l d) t
 |[]=>rfl
 |none::ts=>by erw[rpO];rw[z4S ts]
 |some t::ts=>by erw[rpO];rw[zgn t,z4S ts]
theorem z2G{f:Nat->Option D}: ∀(a b:List (Option D)),rpO f (a++b)=rpO f a++rpO f b
 |[],b=>rfl
 |none::a,b=>by erw[l9,rpO,z2G a b]
 |some d::a,b=>by erw[l9,rpO,z2G a b]
theorem z3Q{f:Nat->Option D}: ∀(a:List (Option D)),(rpO f a).length=a.length
 |[]=>rfl
 |none::a=>by erw[rpO,i0,z3Q a]
 |some d::a=>by erw[rpO,i0,z3Q a]
theorem z4T: ∀ds:List D,Z5 (ds.map some)=labsL ds
 |[]=>rfl
 |d::ds=>by erw[c8,Z5,labsL,z4T ds]
theorem z2H: ∀a b:List D,labsL (a++b)=labsL a++labsL b
 |[],b=>rfl
 |d::ds,b=>by erw[l9,labsL,z2H ds b,o0]
theorem z99{l:Nat}: ∀ds:List D,l∈labsL ds.reverse↔l∈labsL ds
 |[]=>Iff.rfl
 |d::ds=>by erw[m7,z2H,labsL,c7,z99 ds,e7];exact Or.comm
theorem z4U{l:Nat}{d:D}{ds:List D}(h:l∉labsL ds):rpO (pl l d) (ds.reverse.map some)=ds.reverse.map some:=z8e _ λk hk=>by
 rw[z4T,z99] at hk
 unfold pl;rw[if_neg];intro e;subst e;exact h hk
theorem z7o{me:M D}{N:Nat}{cap σ0 tm0:List (Option D)}{l ol:Nat}{Bg:List D->Prop}{Q:Nat->D->Prop}(mono: ∀a b,a<=b->∀y,Q a y->Q b y)(hol:σ0.length=ol)(hz:N<sizeLine)
 (hme: ∀i,i<N->∀b tm n,Bg b->l<n->rpO (pl l (.lst l b)) tm=tm->∃y b' n',Bg b'/\Q n' y/\n<=n'/\l∉y3 y/\me ⟨some (.int (0+(i:Nat)))::rpO (pl l (.lst l b)) cap,tm,n⟩= .ok y ⟨some (.int (0+(i:Nat)))::rpO (pl l (.lst l b')) cap,rpO (pl l (.lst l b')) tm,n'⟩):
 ∀(f:Nat) (acc:List D) (o:Option D) (b:List D) (n:Nat),acc.length+f=N->Bg b->l<n->(∀y∈acc,Q n y)->l∉labsL acc->
  ∃ys b' n',ys.length=N/\(∀y∈ys,Q n' y)/\l∉labsL ys/\Bg b'/\n<=n'/\
   v3 (z8q 0 N) (.nm 0) (rt true) me ol f acc.length acc.length ⟨o::rpO (pl l (.lst l b)) cap,(acc.reverse.map some)++(rpO (pl l (.lst l b)) σ0++rpO (pl l (.lst l b)) tm0),n⟩= .ok (.lst n' ys) ⟨rpO (pl l (.lst l b')) σ0,rpO (pl l (.lst l b')) tm0,n'+1⟩:=by
 intro f
 induction f with
 |zero=>
  intro acc o b n hi hb hn hq hf
  have hi:acc.length=N:=by lia
  refine⟨acc,b,n,hi,hq,hf,hb,c6 _, ?_⟩
  have l1:(acc.reverse.map some).length=acc.length:=by simp
  unfold v3
  erw[z8q,hi,C7,if_false]
  rw[<-hi,z0o _ _ _ l1]
  have e2:(acc.reverse.map some).reverse=acc.map some:=by simp
  rw[e2,K2]
  erw[Res.ok.injEq,true_and,Stt.mk.injEq,and_true]
  constructor
  .rw[g9 _ _ _ l1,z0o _ _ _ (by rw[z3Q];exact hol)]
  .rw[<-o0,Nat.add_zero]
   exact g9 _ _ _ (by simp[z3Q,hol])
 |succ f ih=>
  intro acc o b n hi hb hn hq hf
  have hlt:acc.length<N:=by lia
  unfold v3
  erw[z8q,if_pos hlt,asg,t9,rt]
  rw[if_pos (by lia)]
  obtain⟨y,b',n',h1,h2,h3,h4,h5⟩:=hme acc.length hlt b ((acc.reverse.map some)++(rpO (pl l (.lst l b)) σ0++rpO (pl l (.lst l b)) tm0)) n hb hn (by rw[z2G,z2G,z4S,z4S,z4U hf])
  rw[h5]
  obtain⟨ys,b2,n2,g1,g2,g3,g4,g5,g6⟩:=ih (acc++[y]) (some (.int (0+(acc.length:Nat)))) b' n' (by simp;lia) h1 (by lia) (by
   intro z hz
   rcases c7.mp hz with hz|hz
   .exact mono _ _ h3 z (hq z hz)
   .rw[l5.mp hz];exact h2) (by
   rw[z2H]
   erw[labsL,e7,c7,not_or]
   exact⟨hf,h4⟩)
  refine⟨ys,b2,n2,g1,g2,g3,g4,by lia, ?_⟩
  rw[<-g6]
  erw[Stt.psh,z2G,z4S,z4U hf,l3,i0,n8,O4,D5,m7,B3,m5,C5,c8,l7,l9]
  rfl
theorem z9a{ms:List (M D)}{me:M D}{N:Nat}{ix:List Nat}{s:Stt}{l n:Nat}{j:Int}{σ0 tm0:List (Option D)}{b:List D}{Bg:List D->Prop}{Q:Nat->D->Prop}(mono: ∀a b,a<=b->∀y,Q a y->Q b y)(hms:Z7 ms s= .ok [.int j] ⟨σ0,tm0,n⟩)(hj:j.toNat=N)(hj': -(2^62)<=j/\j<2^62)(hz:N<sizeLine)
 (hb:Bg b) (hn:l<n) (f1:rpO (pl l (.lst l b)) σ0=σ0) (f2:rpO (pl l (.lst l b)) tm0=tm0) (f3:rpO (pl l (.lst l b)) (ix.map λi=>(σ0[i]?).getD none)=ix.map λi=>(σ0[i]?).getD none)
 (hme: ∀i,i<N->∀b tm n,Bg b->l<n->rpO (pl l (.lst l b)) tm=tm->∃y b' n',Bg b'/\Q n' y/\n<=n'/\l∉y3 y/\me ⟨some (.int (0+(i:Nat)))::rpO (pl l (.lst l b)) (ix.map λi=>(σ0[i]?).getD none),tm,n⟩= .ok y ⟨some (.int (0+(i:Nat)))::rpO (pl l (.lst l b')) (ix.map λi=>(σ0[i]?).getD none),rpO (pl l (.lst l b')) tm,n'⟩):
 ∃ys b' n',ys.length=N/\(∀y∈ys,Q n' y)/\l∉labsL ys/\Bg b'/\n<=n'/\z03 (z02 ms) (.nm 0) (rt true) me 1 ix s= .ok (.lst n' ys) ⟨rpO (pl l (.lst l b')) σ0,rpO (pl l (.lst l b')) tm0,n'+1⟩:=by
 obtain⟨ys,b',n',h1,h2,h3,h4,h5,h6⟩:=z7o (me:=me) (N:=N) (cap:=ix.map λi=>(σ0[i]?).getD none) (σ0:=σ0) (tm0:=tm0) (l:=l) (Bg:=Bg) (Q:=Q) mono rfl hz hme N [] none b n (by simp) hb hn (by intro y h;cases h) (by simp[labsL])
 refine⟨ys,b',n',h1,h2,h3,h4,h5, ?_⟩
 unfold z03
 rw[zis,zbJ,hms,z1a,z3d hj',z1a,hj]
 rw[f1,f2,f3] at h6
 exact h6
inductive All2(Q:D->D->Prop):List D->List D->Prop
 |nil:All2 Q [] []
 |cons {a b:D} {as bs:List D}:Q a b->All2 Q as bs->All2 Q (a::as) (b::bs)
theorem zgo{m:M D}{s:Stt}{l:Nat}{ds:List D}{σ tm:List (Option D)}{n:Nat}(h:m s= .ok (.lst l ds) ⟨σ,tm,n⟩):z1N m s= .ok ze7 ⟨σ,some (.lst l ds)::tm,n⟩:=by
 unfold z1N;rw[zis,h];rfl
end Mi
set_option maxHeartbeats 1000000
namespace Mi
open PySem L2
def zdv(o:Option (List D))(t:D)(n:Nat):RF:=match o with|some ts=> .ex t ts n|none=> .no
def _root_.Mi.RS.finX(k:Nat):RS->RF
 | .nx s'=>zdo (Z3 s'.tm) .non s'.n
 | .rt t s'=>zdo (Z3 s'.tm) t s'.n
 | .ex d s'=>zdv (Z3 (K8 k s'.tm)) d s'.n
 |_=> .no
theorem ziU{k:Nat}{σ tm:List (Option D)}{n:Nat}:(RS.nx ⟨σ,tm,n⟩).finX k=zdo (Z3 tm) .non n:=(rfl)
theorem ziV{k:Nat}{t:D}{σ tm:List (Option D)}{n:Nat}:(RS.ex t ⟨σ,tm,n⟩).finX k=zdv (Z3 (K8 k tm)) t n:=(rfl)
theorem zgp{nl:Nat}{mb:MS}{ts:List D}{n:Nat}:zbz nl mb ts n=(mb ⟨ts.map some++e8 (nl -ts.length) none,ts.map some,n⟩).finX ts.length:=by
 unfold zbz RS.finX zdo zdv
 cases mb ⟨ts.map some++e8 (nl -ts.length) none,ts.map some,n⟩<;>rfl
theorem ziW{t:D}{ts:List D}{n':Nat}{s:Stt}:z0L (.ex t ts n') ts s= .ex t {s with n:=n'}:=by
 unfold z0L;simp
def iK(tb:Str->Option Bool):D->M D
 | .exc c=>(match tb c with|some b=>rt (.bool b)|none=>fl)
 |_=>fl
theorem ziX{tb:Str->Option Bool}{m:M D}{s:Stt}:z6g tb m s=(m s).bnd (iK tb):=by
 unfold z6g bd Res.bnd
 cases m s with
 |ok d s1=>cases d<;>rfl
 |ex d s1=>rfl
 |no=>rfl
theorem z1F{tb:Str->Option Bool}{c:Str}{b:Bool}{s:Stt}(h:tb c=some b):iK tb (.exc c) s= .ok (.bool b) s:=by
 show(match tb c with|some b=>rt (D.bool b)|none=>fl) s=_
 rw[h];rfl
theorem zdw{c:Str}{s:Stt}:z2l c s= .ex (.exc c) s:=(rfl)
def tK(k:Str->Bool)(ie N:Nat)(mh:MS):RS->RS
 | .ex (.exc c) s'=>if k c then(match mh {σ:=s'.σ.set ie (some (.exc c)),tm:=K8 N s'.tm,n:=s'.n} with
  | .rt d s''=> .rt d s''
  |_=> .no) else .no
 | .ex _ _=> .no
 |r=>r
theorem ziY{k:Str->Bool}{ie:Nat}{mb mh:MS}{s:Stt}:ze9 k ie mb mh s=tK k ie s.tm.length mh (mb s):=by
 unfold ze9 tK
 cases mb s with
 |ex d s'=>cases d<;>rfl
 |_=>rfl
theorem ziZ{k:Str->Bool}{ie N:Nat}{mh:MS}{d:D}{s:Stt}:tK k ie N mh (.rt d s)= .rt d s:=(rfl)
def rtO:RS->RS
 | .rt d s''=> .rt d s''
 |_=> .no
theorem zgq{d:D}{s:Stt}:rtO (.rt d s)= .rt d s:=(rfl)
theorem zdx{k:Str->Bool}{ie N:Nat}{mh:MS}{c:Str}{σ tm:List (Option D)}{n:Nat}(h:k c=true):tK k ie N mh (.ex (.exc c) ⟨σ,tm,n⟩)=rtO (mh ⟨σ.set ie (some (.exc c)),K8 N tm,n⟩):=by
 unfold tK rtO;erw[h,if_true]
theorem zj0{α:Type}{d:D}{s:Stt}{f:α->MS}:((Res.ex d s:Res α).lf f:RS)= .ex d s:=(rfl)
theorem zj1{d:D}{s:Stt}{m:MS}:((RS.ex d s).sq m:RS)= .ex d s:=(rfl)
end Mi
set_option maxHeartbeats 4000000
namespace Mi
open PySem L2
end Mi
set_option maxHeartbeats 40000
namespace Mi
open PySem L2
section
variable{α β:Type}{m ma mb mc:M D}{s:Stt}{ms:List (M D)}{σ tm l:List (Option D)}{n i j k p:Nat}{x y z u d:D}{g g2:D->D->M D}{h:List D->M D}
variable{a0 a1 a2 a3 a4 a5 a6 a7 a8 a9 a10 a11 a12 a13 a14 a15 v:Option D}
theorem qg1:(a0::a1::l)[1]? =some a1:=(rfl)
theorem qg2:(a0::a1::a2::l)[2]? =some a2:=(rfl)
theorem qg3:(a0::a1::a2::a3::l)[3]? =some a3:=(rfl)
theorem qg4:(a0::a1::a2::a3::a4::l)[4]? =some a4:=(rfl)
theorem qg5:(a0::a1::a2::a3::a4::a5::l)[5]? =some a5:=(rfl)
theorem qg6:(a0::a1::a2::a3::a4::a5::a6::l)[6]? =some a6:=(rfl)
theorem qg7:(a0::a1::a2::a3::a4::a5::a6::a7::l)[7]? =some a7:=(rfl)
theorem qg9:(a0::a1::a2::a3::a4::a5::a6::a7::a8::a9::l)[9]? =some a9:=(rfl)
theorem zky:(a0::a1::a2::a3::a4::a5::a6::a7::a8::a9::a10::l)[10]? =some a10:=(rfl)
theorem zkz:(a0::a1::a2::a3::a4::a5::a6::a7::a8::a9::a10::a11::l)[11]? =some a11:=(rfl)
theorem qh1:(a0::a1::l).set 1 v=a0::v::l:=(rfl)
theorem qh2:(a0::a1::a2::l).set 2 v=a0::a1::v::l:=(rfl)
theorem qh3:(a0::a1::a2::a3::l).set 3 v=a0::a1::a2::v::l:=(rfl)
theorem qh4:(a0::a1::a2::a3::a4::l).set 4 v=a0::a1::a2::a3::v::l:=(rfl)
theorem qh6:(a0::a1::a2::a3::a4::a5::a6::l).set 6 v=a0::a1::a2::a3::a4::a5::v::l:=(rfl)
theorem qh8:(a0::a1::a2::a3::a4::a5::a6::a7::a8::l).set 8 v=a0::a1::a2::a3::a4::a5::a6::a7::v::l:=(rfl)
theorem zkA:(a0::a1::a2::a3::a4::a5::a6::a7::a8::a9::a10::l).set 10 v=a0::a1::a2::a3::a4::a5::a6::a7::a8::a9::v::l:=(rfl)
theorem ov:y1 i s=match s.σ[i]? with|some (some t)=> .ok t s|_=> .no:=rfl
def cv(g:D->D->M D)(a:D)(b:Option (Option D))(s:Stt):Res D:=match b with
 |some (some b)=>g a b s
 |_=> .no
theorem zdy:cv g x (some (some y)) s=g x y s:=(rfl)
theorem zkB:Z0 m (mC y) g s=(m s).bnd λx s1=>g x y s1:=by
 rw[zdp];cases m s<;>rfl
theorem zkC:Z0 m (y1 j) g s=(m s).bnd λx s1=>cv g x s1.σ[j]? s1:=by
 rw[zdp];cases m s with
 |ok x s1=>rw[z1a,z1a];unfold y1 cv;dsimp only[Stt.psh];cases s1.σ[j]? with
  |none=>rfl
  |some o=>cases o<;>rfl
 |ex d s1=>rfl
 |no=>rfl
def qc1(h:List D->M D)(a:Option (Option D))(s:Stt):Res D:=match a with
 |some (some a)=>h [a] s
 |_=> .no
theorem zb1:qc1 h (some (some x)) s=h [x] s:=(rfl)
theorem zkD:mCB [y1 i] h ⟨σ,tm,n⟩=qc1 h σ[i]? ⟨σ,tm,n⟩:=by
 rw[zjH];unfold y1 qc1 Z7 bd;dsimp only
 cases σ[i]? with
 |none=>rfl
 |some o=>cases o<;>rfl
theorem zbK:Z7 [m] s=(m s).bnd λx s1=> .ok [x] s1:=by
 rw[z1w];cases m s<;>rfl
def qa1(a:Option (Option D))(s:Stt):Res (List D):=match a with
 |some (some a)=> .ok [a] s
 |_=> .no
theorem zjK:Z7 [y1 i] ⟨σ,tm,n⟩=qa1 σ[i]? ⟨σ,tm,n⟩:=by
 rw[zbK];unfold y1 qa1;dsimp only
 cases σ[i]? with
 |none=>rfl
 |some o=>cases o<;>rfl
def qa2(a b:Option (Option D))(s:Stt):Res (List D):=match a,b with
 |some (some a),some (some b)=> .ok [a,b] s
 |_,_=> .no
theorem zb2:qa2 (some (some x)) (some (some y)) s= .ok [x,y] s:=(rfl)
theorem zjL:Z7 [y1 i,y1 j] ⟨σ,tm,n⟩=qa2 σ[i]? σ[j]? ⟨σ,tm,n⟩:=by
 rw[z1w];unfold y1 qa2;dsimp only
 cases σ[i]? with
 |none=>rfl
 |some o=>cases o with
  |none=>rfl
  |some a=>rw[z1a];show Res.bnd _ (Z7 [y1 j] ⟨σ,_,_⟩)=_;rw[zjK];unfold qa1;cases σ[j]? with
   |none=>rfl
   |some o=>cases o<;>rfl
def qa3(a b c:Option (Option D))(s:Stt):Res (List D):=match a,b,c with
 |some (some a),some (some b),some (some c)=> .ok [a,b,c] s
 |_,_,_=> .no
theorem zb3:qa3 (some (some x)) (some (some y)) (some (some z)) s= .ok [x,y,z] s:=(rfl)
theorem zkE:Z7 [y1 i,y1 j,y1 k] ⟨σ,tm,n⟩=qa3 σ[i]? σ[j]? σ[k]? ⟨σ,tm,n⟩:=by
 rw[z1w];unfold y1 qa3;dsimp only
 cases σ[i]? with
 |none=>rfl
 |some o=>cases o with
  |none=>rfl
  |some a=>rw[z1a];show Res.bnd _ (Z7 [y1 j,y1 k] ⟨σ,_,_⟩)=_;rw[zjL];unfold qa2;cases σ[j]? with
   |none=>rfl
   |some o=>cases o with
    |none=>rfl
    |some b=>cases σ[k]? with
     |none=>rfl
     |some o=>cases o<;>rfl
theorem zj2:Z7 [y1 i,mC y] ⟨σ,tm,n⟩=qa2 σ[i]? (some (some y)) ⟨σ,tm,n⟩:=by
 rw[z1w];unfold y1 qa2;dsimp only
 cases σ[i]? with
 |none=>rfl
 |some o=>cases o<;>rfl
theorem zgr:Z7 [y1 i,mC y,mC z] ⟨σ,tm,n⟩=qa3 σ[i]? (some (some y)) (some (some z)) ⟨σ,tm,n⟩:=by
 rw[z1w];unfold y1 qa3;dsimp only
 cases σ[i]? with
 |none=>rfl
 |some o=>cases o<;>rfl
theorem zj3:U3 ma (y1 i) mc g g2 s=(ma s).bnd λx s1=>(y1 i s1).bnd λy s3=>z73 y (bd (W8 (g x y)) λk=>z4l k (bd mc λz=>g2 y z) (rt (.bool false))) s3:=by
 rw[z92];cases ma s with
 |ok x s1=>rw[z1a,z1a];unfold y1;dsimp only[Stt.psh];cases s1.σ[i]? with
  |none=>rfl
  |some o=>cases o<;>rfl
 |ex d s1=>rfl
 |no=>rfl
theorem zj4:Q4 (.nm i) m s=(m s).lf λd s1=> .nx ⟨s1.σ.set i (some d),s1.tm,s1.n⟩:=by
 rw[zgi];cases m s<;>rfl
end
theorem W5{t:D}{l n' n:Nat}{b b' r:List D}{σ tm:List (Option D)}{σ1 tm1:D->List (Option D)}(hb:labsL b=[])(hb':labsL b'=[])(hr:labsL r=[])(f1: ∀q,rpO (pl l q) σ=σ1 q)(f2: ∀q,rpO (pl l q) tm=tm1 q)(e1:σ1 (.lst l b)=σ:=by rfl)(e2:tm1 (.lst l b)=tm:=by rfl):
 X3 (.ok t (.lst l b'::r) n') (.lst l b::r) ⟨σ,tm,n⟩= .ok t ⟨σ1 (.lst l b'),tm1 (.lst l b'),n'⟩:=by
 rw[x9 hb hb' hr ((f1 _).trans e1) ((f2 _).trans e2),f1,f2]
end Mi
set_option maxHeartbeats 1000000
namespace Mi
open PySem L2
section
variable{m mo me:M D}{ms:List (M D)}{f:FM}{a cn mn:Str}{ok:Str->Bool}{s:Stt}
theorem zj5:z7c m a ok s=(m s).bnd (zed a ok):=(rfl)
theorem zj6{l:Nat}{c:Str}{ns:List Str}{vs:List D}{d:D}(h1:ok c=true)(h2:zbA ns vs a=some d):zed a ok (.obj l c ns vs) s= .ok d s:=by erw[zed,h1,h2,if_true]
theorem zgs:zaD me mo a ok s=(me s).lf λv s1=>(mo (s1.psh v)).lf λo s2=>(pop s2).lf λv' s3=>z7d a ok o v' s3:=(rfl)
theorem zgt{l:Nat}{c:Str}{ns:List Str}{vs:List D}{v:D}(h:ok c=true/\ns.length<1000/\l∉y3 v):z7d a ok (.obj l c ns vs) v s= .nx (s.put l (.obj l c (z5x ns vs a v).1 (z5x ns vs a v).2)):=by erw[z7d,if_pos h]
theorem zj7:z6m cn mn f mo ms s=(mo s).bnd λx=>z4l (objC cn mn x) (zaE f ms x) fl:=by
 unfold z6m bd Res.bnd
 cases mo s with
 |ok x s1=>dsimp only;cases objC cn mn x<;>rfl
 |ex d s1=>rfl
 |no=>rfl
theorem zgu{x:D}:zaE f ms x s=(Z7 ms (s.psh x)).bnd λys s1=>(pop s1).bnd λx' s2=>X3 (f (x'::ys) s2.n) (x'::ys) s2:=(rfl)
theorem zgv:z5y cn f ms s=(Z7 ms s).bnd (mkK cn f):=(rfl)
end
theorem X0{t:D}{ts ts':List D}{n' n:Nat}{σ tm:List (Option D)}(hs: ∀k∈labsL ts,(findL k ts').isSome=true)(h0:ts'=ts->rpO (λk=>findL k ts') σ=σ/\rpO (λk=>findL k ts') tm=tm):
 X3 (.ok t ts' n') ts ⟨σ,tm,n⟩= .ok t ⟨rpO (λk=>findL k ts') σ,rpO (λk=>findL k ts') tm,n'⟩:=by
 unfold X3
 by_cases h:ts'=ts
 .erw[if_pos h,(h0 h).1,(h0 h).2]
 .erw[if_neg h]
  rw[if_pos λk _ hk=>hs k hk]
theorem z3e{t:D}{ts ts':List D}{n' n:Nat}{σ tm:List (Option D)}(hs: ∀k∈labsL ts,(findL k ts').isSome=true)(h0:ts'=ts->rpO (λk=>findL k ts') σ=σ/\rpO (λk=>findL k ts') tm=tm):
 z0L (.ok t ts' n') ts ⟨σ,tm,n⟩= .ok t ⟨rpO (λk=>findL k ts') σ,rpO (λk=>findL k ts') tm,n'⟩:=by
 unfold z0L
 by_cases h:ts'=ts
 .erw[if_pos h,(h0 h).1,(h0 h).2]
 .erw[if_neg h]
  rw[if_pos λk _ hk=>hs k hk]
theorem zgw{mo:M D}{ms:List (M D)}{f:FM}{cn mn:Str}{s:Stt}:z5z cn mn f mo ms s=(mo s).bnd λx=>z4l (objC cn mn x) (z6n f ms x) fl:=by
 unfold z5z bd Res.bnd
 cases mo s with
 |ok x s1=>dsimp only;cases objC cn mn x<;>rfl
 |ex d s1=>rfl
 |no=>rfl
theorem zdz{ms:List (M D)}{f:FM}{x:D}{s:Stt}:z6n f ms x s=(Z7 ms (s.psh x)).bnd λys s1=>(pop s1).bnd λx' s2=>z0L (f (x'::ys) s2.n) (x'::ys) s2:=(rfl)
end Mi
namespace My
open PySem L2 Mi
theorem BA{a b:Prop}(h:a)(k:b):a/\b:=⟨h,k⟩
def B_0:=BA (BA (BA (BA (BA (BA @zir @zis) (BA @z1a (BA @zil @zim))) (BA (BA @zin (BA @zkl @zg0)) (BA @zit (BA @ziu @zaY)))) (BA (BA (BA @ziv (BA @x_C @zdp)) (BA @ziw (BA @zg1 @zg2))) (BA (BA @zkm (BA @zix @zkn)) (BA @ziy (BA @zg3 @ziz))))) (BA (BA (BA (BA @zg4 (BA @zko @zkp)) (BA @zdq (BA @z1w @zjH))) (BA (BA @zg5 (BA @z91 @ziA)) (BA @zg7 (BA @z92 @ziB)))) (BA (BA (BA @z93 (BA @zdr @zds)) (BA @zg8 (BA @zkq @zg9))) (BA (BA @ziD (BA @zkr @zks)) (BA @zkt (BA @zku @ziE)))))) (BA (BA (BA (BA (BA @ziF (BA @ziG @ziH)) (BA @ziI (BA @ziJ @zgb))) (BA (BA @zgc (BA @zgd @ziK)) (BA @ziL (BA @ziM @zge)))) (BA (BA (BA @zgf (BA @ziN @ziO)) (BA @zgh (BA @zdt @ziP))) (BA (BA @zkw (BA @zkx @z96)) (BA @zgi (BA @ziR @zgj))))) (BA (BA (BA (BA @ziS (BA @z7m @zio)) (BA @ziq (BA @z90 @c8.{0,0}))) (BA (BA @l7.{0,0} (BA @m5.{0} @l9.{0})) (BA @e7.{0} (BA @List.getElem?_cons_zero.{0} @List.getElem?_cons_succ.{0})))) (BA (BA (BA @List.getElem?_nil.{0} (BA @t9.{0} @B6.{0})) (BA @i0.{0} (BA @n8.{0} @m9.{0,0}))) (BA (BA @B9.{0,0} (BA @Bool.not_true @P6)) (BA @beq_self_eq_true.{0} (BA @O4 @R4))))))
local macro_rules | `(tactic| left) => `(tactic| (simp (config := { dsimp := false }) only [B_0, isiD, Z3, asg, asgL, e8, L8, L9, String.reduceBEq]))
def isInt:D->Bool
 | .int _=>true
 |_=>false
def inR(lo hi:Int):D->Bool
 | .int i=>decide (lo<=i)&&decide (i<=hi)
 |_=>false
theorem zgx(t:D)(n:Nat)(h:plain t=true):G7 [t] n= .ok (.bool (isInt t)) [t] n:=by
 unfold G7 k7
 cases t<;>first|(simp[Mi.plain] at h;done)|(left;first|done|rfl)
theorem z1T(t:D)(n:Nat)(h:plain t=true):J2 [t] n= .ok (.bool (isInt t)) [t] n:=by
 unfold J2 z2z
 cases t<;>first|(simp[Mi.plain] at h;done)|(left;first|done|rfl)
theorem z9b(t:D)(lo hi:Int)(n:Nat)(h:plain t=true):Q1 [t, .int lo, .int hi] n= .ok (.bool (inR lo hi t)) [t, .int lo, .int hi] n:=by
 unfold Q1 z0e
 left
 rw[zgx t n h]
 cases t<;>(try erw[isInt,inR])<;>left <;>try rfl
 rename_i i
 by_cases h1:lo<=i
 .erw[h1,decide_true];left;simp
 .erw[h1,decide_false];left;simp
def z42(lo hi top:Int):D->Bool
 | .tup ds=>decide (lo<=(ds.length:Int))&&decide ((ds.length:Int)<=hi)&&ds.all (inR 0 top)
 |_=>false
theorem z1x: ∀{ds:List D} {d:D},plainL ds=true->d∈ds->plain d=true
 |x::ds,d,h,m=>by
  erw[plainL,b9] at h
  rcases c9.mp m with rfl|m
  .exact h.1
  .exact z1x h.2 m
theorem zbL(t:D)(lo hi top:Int)(n:Nat)(h:plain t=true)(hh:hi<1000000): ∃n',n<=n'/\x6 [t, .int lo, .int hi, .int top] n= .ok (.bool (z42 lo hi top t)) [t, .int lo, .int hi, .int top] n':=by
 unfold x6 z1v
 left
 cases t with
 |tup ds=>
  left
  by_cases h1:lo<=(ds.length:Int)
  .by_cases h2:(ds.length:Int)<=hi
   .erw[h1,h2,decide_true,z42,t8]
    left
    erw[h2,decide_true]
    left
    have hz:ds.length<sizeLine:=by have:sizeLine=16777216:=rfl;lia
    obtain⟨n',hn,hc⟩:=z4O (mc:=y1 0) (me:=Z4 Q1 [y1 0,mC (D.int 0),y1 1]) (g:=λd=> .bool (inR 0 top d)) (ds:=ds) (ix:=[3]) (s:=⟨[some (.tup ds),some (.int lo),some (.int hi),some (.int top)],[some (.tup ds),some (.int lo),some (.int hi),some (.int top)],n⟩) (s1:=⟨[some (.tup ds),some (.int lo),some (.int hi),some (.int top)],[some (.tup ds),some (.int lo),some (.int hi),some (.int top)],n⟩) (by left) hz (by
     intro d hd tm m
     refine⟨m,c6 _, ?_⟩
     show Z4 _ _ ⟨[some d,some (.int top)],tm,m⟩=_
     left
     rw[z9b d 0 top m (z1x (by simpa[Mi.plain] using h) hd)]
     left
     rfl)
    refine⟨n'+1,by simp only at hn;lia, ?_⟩
    rw[hc]
    left
    rw[zgg (z4P ds (inR 0 top))]
    left
    erw[R5]
    rfl
   .refine⟨n,c6 _, ?_⟩
    erw[h1,h2,decide_true,decide_false,z42,t8,B5]
    left
    erw[h2,decide_false]
    left
  .refine⟨n,c6 _, ?_⟩
   erw[h1,decide_false,z42,B5]
   left
 |dct _ _ _=>simp[Mi.plain] at h
 |obj _ _ _ _=>simp[Mi.plain] at h
 |exc _=>simp[Mi.plain] at h
 |fn _=>simp[Mi.plain] at h
 |fdc _ _=>simp[Mi.plain] at h
 |_=>refine⟨n,c6 _, ?_⟩;left;rfl
theorem at0{a:D}{l:List D}:atI (a::l) 0=some a:=z1E (by decide) rfl
theorem at1{a b:D}{l:List D}:atI (a::b::l) 1=some b:=z1E (by decide) rfl
theorem at2{a b c:D}{l:List D}:atI (a::b::c::l) 2=some c:=z1E (by decide) rfl
theorem at3{a b c d:D}{l:List D}:atI (a::b::c::d::l) 3=some d:=z1E (by decide) rfl
theorem zj8{i j:Int}{s:Stt}:eqD (.int i) (.int j) s= .ok (.bool (i==j)) s:=by
 rw[zjI (by simp[eqC,Mi.plain,er,PyData.canLay0,PyData.depth])];erw[er,PyData.eqv]
theorem c0:((0:Nat):Int)=0:=rfl
theorem c1:((1:Nat):Int)=1:=rfl
theorem c2:((2:Nat):Int)=2:=rfl
theorem c3:((3:Nat):Int)=3:=rfl
theorem c4:((4:Nat):Int)=4:=rfl
def Gd(t:D):Prop:=plain t=true/\(er t).canLay0=true
def GdL(ds:List D):Prop:=plainL ds=true/\PyData.canLayAll0 (erL ds)=true
theorem Gd.tup{ds:List D}:Gd (.tup ds)↔GdL ds:=by erw[Gd,GdL,Mi.plain,er,PyData.canLay0]
theorem Gd.lst{l:Nat}{ds:List D}:Gd (.lst l ds)↔GdL ds:=by erw[Gd,GdL,Mi.plain,er,PyData.canLay0]
theorem GdL.cons{d:D}{ds:List D}:GdL (d::ds)↔Gd d/\GdL ds:=by
 erw[Gd,GdL,plainL,erL,PyData.canLayAll0,b9]
 constructor
 .rintro ⟨⟨a,b⟩,c,d⟩;exact⟨⟨a,c⟩,b,d⟩
 .rintro ⟨⟨a,c⟩,b,d⟩;exact⟨⟨a,b⟩,c,d⟩
def zgy(x:Str):D->Bool
 | .str y=>y==x
 |_=>false
theorem eq_str{t:D}{x:Str}{s:Stt}(g:Gd t)(h:PyData.strOk x=true):eqD t (.str x) s= .ok (.bool (zgy x t)) s:=by
 have e:eqC t (.str x)=true:=by
  erw[eqC,g.1,g.2,Mi.plain,er,PyData.canLay0,h,t8,decide_eq_true_eq]
  simp[PyData.depth]
 rw[zjI e]
 cases t<;>simp[er,PyData.eqv,zgy]
theorem zl:sizeLine=16777216:=rfl
section
variable{a b c d:D}{s:Stt}
theorem t0:j4 [] s= .ok (.tup []) s:=z95 (by decide)
theorem t1:j4 [a] s= .ok (.tup [a]) s:=z95 (by rw[zl];simp)
theorem t2:j4 [a,b] s= .ok (.tup [a,b]) s:=z95 (by rw[zl];simp)
theorem t3:j4 [a,b,c] s= .ok (.tup [a,b,c]) s:=z95 (by rw[zl];simp)
theorem t4:j4 [a,b,c,d] s= .ok (.tup [a,b,c,d]) s:=z95 (by rw[zl];simp)
theorem k0{σ tm:List (Option D)}{n:Nat}:lstM [] ⟨σ,tm,n⟩= .ok (.lst n []) ⟨σ,tm,n+1⟩:=z4R (by rw[zl];simp)
theorem k1{σ tm:List (Option D)}{n:Nat}:lstM [a] ⟨σ,tm,n⟩= .ok (.lst n [a]) ⟨σ,tm,n+1⟩:=z4R (by rw[zl];simp)
theorem k2{σ tm:List (Option D)}{n:Nat}:lstM [a,b] ⟨σ,tm,n⟩= .ok (.lst n [a,b]) ⟨σ,tm,n+1⟩:=z4R (by rw[zl];simp)
theorem k3{σ tm:List (Option D)}{n:Nat}:lstM [a,b,c] ⟨σ,tm,n⟩= .ok (.lst n [a,b,c]) ⟨σ,tm,n+1⟩:=z4R (by rw[zl];simp)
theorem k4{σ tm:List (Option D)}{n:Nat}:lstM [a,b,c,d] ⟨σ,tm,n⟩= .ok (.lst n [a,b,c,d]) ⟨σ,tm,n+1⟩:=z4R (by rw[zl];simp)
end
def B_1:=BA (BA (BA (BA @t0 (BA @t1 @t2)) (BA (BA @t3 @t4) (BA @k0 @k1))) (BA (BA (BA @k2 @k4) (BA @L7 @P7)) (BA (BA @P8 @Bool.or_true) (BA @C8 @t8)))) (BA (BA (BA @Bool.and_false (BA @B5 @at0)) (BA (BA @at1 @at2) (BA @at3 @zj8))) (BA (BA (BA @zgk @K3) (BA @zbI @z1b)) (BA (BA @zgl @z97) (BA @z98 @z3P))))
def B_2:=BA @zb0 @z6w
local macro_rules | `(tactic| left) => `(tactic| (simp (config := { dsimp := false }) only [B_0, B_1, B_2, isiD, Z3, asg, asgL, e8, L8, L9, String.reduceBEq, N4]))
def Bg(c x:Int):Prop:=0<=c/\0<=x/\x<2147483647
theorem j6(l:Nat)(c x top:Int)(n:Nat)(h:Bg c x)(ht:0<top)(ht':top<1000000): ∃r c' x',0<=r/\r<top/\Bg c' x'/\Z2 [.lst l [.int c, .int x], .int top] n= .ok (.int r) [.lst l [.int c', .int x'], .int top] n:=by
 unfold Z2 z3K
 obtain⟨h0,h1,h2⟩:=h
 by_cases hc:0<c
 .refine⟨c %top,c/top,x,C6 _ (by lia),B7 _ ht,⟨Int.ediv_nonneg h0 (by lia),h1,h2⟩, ?_⟩
  left
  erw[hc,decide_true]
  left
  rw[z1P ht]
  left
  rw[z6v ⟨ht,by lia⟩]
  left
  rw[zdu (j:=0) rfl (by simp[y3])]
  left
 .have hx0:=C6 (x*48271+7919) (show(2147483647:Int)≠0 by decide)
  have hx1:=B7 (x*48271+7919) (show(0:Int)<2147483647 by decide)
  generalize hy:(x*48271+7919) %2147483647=y at hx0 hx1
  refine⟨(y^(3:Int).toNat %2147483587/7*69621 %1073741789) %top,c,y,C6 _ (by lia),B7 _ ht,⟨h0,hx0,hx1⟩, ?_⟩
  left
  erw[hc,decide_false]
  left
  rw[z94 (.inl ⟨by lia,by lia⟩)]
  left
  rw[z1P (by decide),hy]
  left
  rw[zdu (j:=1) rfl (by simp[y3])]
  left
  rw[zaZ ⟨by decide,by decide,by lia⟩]
  left
  rw[z1P (by decide)]
  left
  rw[z6v ⟨by decide,by decide⟩]
  left
  rw[z94 (.inr ⟨by decide,by decide⟩)]
  left
  rw[z1P (by decide)]
  left
  rw[z1P ht]
  left
def B_3:=BA (BA @ziT @zbJ) (BA @zgm @E3)
local macro_rules | `(tactic| left) => `(tactic| (simp (config := { dsimp := false }) only [B_0, B_1, B_2, B_3, isiD, Z3, asg, asgL, e8, L8, L9, String.reduceBEq, N4]))
theorem zbM{ns:List Int}{a:Nat}(h:a<ns.length):atI (ns.map D.int) (a:Int)=some (.int ns[a]):=z1E (by lia) (by simp[h])
theorem zgz(ns:List Int)(a n:Nat)(ha:a<1000)(hl:ns.length<1000): ∃c x,Bg c x/\z2y [.ro (ns.map .int), .int a] n= .ok (.lst n [.int c, .int x]) [.ro (ns.map .int), .int a] (n+1):=by
 unfold z2y z5I
 left
 have key: ∃c:Int,0<=c/\zfp (decide ((a:Int)<((ns.map D.int).length:Int))) (Q4 (Tg.nm 2) (mCB [Z0 (y1 0) (y1 1) ixD] ze4)) sNx ⟨[some (.ro (ns.map .int)),some (.int a),some (.int 0),none,none],[some (.ro (ns.map .int)),some (.int a)],n⟩= .nx ⟨[some (.ro (ns.map .int)),some (.int a),some (.int c),none,none],[some (.ro (ns.map .int)),some (.int a)],n⟩:=by
  by_cases h:a<ns.length
  .refine⟨if ns[a]<0 then -ns[a] else ns[a], ?_, ?_⟩
   rotate_left
   .rw[show decide ((a:Int)<((ns.map D.int).length:Int))=true by simp[h]]
    left
    rw[zbM h]
    left
   .split<;>lia
  .refine⟨0,by decide, ?_⟩
   rw[show decide ((a:Int)<((ns.map D.int).length:Int))=false by simp;lia]
   left
 obtain⟨c,hc,e1⟩:=key
 rw[e1]
 left
 rw[z1P (by decide)]
 left
 rw[z94 (.inl ⟨by decide,by decide⟩)]
 left
 have q0:=C6 c (show(2147483629:Int)≠0 by decide)
 have q1:=B7 c (show(0:Int)<2147483629 by decide)
 rw[zaZ ⟨by decide,by decide,by lia⟩]
 left
 rw[z1P (by decide)]
 left
 have w0:((ns.map D.int).length:Int)=ns.length:=by simp
 rw[w0]
 generalize hk:(if(60:Int)<(ns.length:Int) then(60:Int) else(ns.length:Int))=k
 have hk0:0<=k/\k<=60/\k<=ns.length:=by split at hk<;>lia
 rw[z3d ⟨by lia,by lia⟩]
 left
 have p0:=C6 ((c %2147483629+104729*(a:Int)+17)^(5:Int).toNat) (show(2147483647:Int)≠0 by decide)
 have p1:=B7 ((c %2147483629+104729*(a:Int)+17)^(5:Int).toNat) (show(0:Int)<2147483647 by decide)
 generalize (c %2147483629+104729*(a:Int)+17)^(5:Int).toNat %2147483647=x0 at p0 p1
 obtain⟨s',e2,x,o,hx0,hx1,rfl⟩:=z2F (P:=λi s=> ∃(x:Int) (o:Option D),0<=x/\x<2147483647/\s=⟨[some (.ro (ns.map .int)),some (.int a),some (.int c),some (.int x),o],[some (.ro (ns.map .int)),some (.int a)],n⟩) (lo:=0) (N:=k.toNat) (g:= .nm 4) (b:=Q4 (.nm 3) (Z0 (Z0 (Z0 (Z0 (y1 3) (mC (.int 48271)) z3q) (Z0 (Z0 (Z0 (y1 0) (y1 4) ixD) (mC (.int 2147483587)) z2c) (Z0 (y1 4) (mC (.int 3)) v1) z3q) v1) (y1 4) v1) (mC (.int 2147483629)) z2c)) (by
  rintro i hi s ⟨x,o,h0,h1,rfl⟩
  have hi':i<ns.length:=by lia
  refine⟨[some (.ro (ns.map .int)),some (.int a),some (.int c),some (.int x),some (.int i)],by erw[E3];rfl, ?_⟩
  refine⟨⟨[some (.ro (ns.map .int)),some (.int a),some (.int c),some (.int ((x*48271+ns[i] %2147483587*(i+3)+i) %2147483629)),some (.int i)],[some (.ro (ns.map .int)),some (.int a)],n⟩, ?_, ?_⟩
  .left
   rw[z94 (.inl ⟨by lia,by lia⟩)]
   left
   rw[zbM hi']
   left
   rw[z1P (by decide)]
   left
   rw[z94 (.inr ⟨by lia,by lia⟩)]
   left
   rw[z1P (by decide)]
   left
  .have r0:=C6 (x*48271+ns[i] %2147483587*(i+3)+i) (show(2147483629:Int)≠0 by decide)
   have r1:=B7 (x*48271+ns[i] %2147483587*(i+3)+i) (show(0:Int)<2147483629 by decide)
   exact⟨_,_,r0,by lia,rfl⟩) k.toNat 0 ⟨[some (.ro (ns.map .int)),some (.int a),some (.int c),some (.int x0),none],[some (.ro (ns.map .int)),some (.int a)],n⟩ (by lia) ⟨x0,none,p0,p1,rfl⟩
 rw[e2]
 left
 rw[zaZ ⟨by decide,by decide,by decide⟩]
 left
 by_cases h:c<10^(18:Int).toNat
 .refine⟨0,x,⟨by decide,hx0,hx1⟩, ?_⟩
  erw[h,decide_true]
  left
 .refine⟨c,x,⟨hc,hx0,hx1⟩, ?_⟩
  erw[h,decide_false]
  left
theorem zj9{l k:Nat}{d:D}{ds:List D}(h:k≠l):rp (pl l d) (.lst k ds)= .lst k (rpL (pl l d) ds):=by erw[rp,pl,if_neg h]
mutual
def Rs(n:Nat):D->Bool
 | .non=>true| .bool _=>true| .int _=>true| .str x=>PyData.strOk x
 | .tup ds=>decide (ds.length<=2000)&&RsL n ds
 | .lst l ds=>decide (n<=l)&&(decide (ds.length<=2000)&&RsL n ds)
 | .ro _=>false| .dct _ _ _=>false| .obj _ _ _ _=>false| .exc _=>false| .fn _=>false| .fdc _ _=>false
def RsL(n:Nat):List D->Bool
 |[]=>true
 |d::ds=>Rs n d&&RsL n ds
end
def Up(m:Nat)(t:D):Prop:= ∀k∈y3 t,k<m
theorem zgA{α:Type}{ds:List α}{r:Int}(h0:0<=r)(h1:r<ds.length): ∃d∈ds,atI ds r=some d:=by
 have h:r.toNat<ds.length:=by lia
 exact⟨ds[r.toNat],B4 h,z1E h0 (by simp[h])⟩
theorem ok1:PyData.strOk ("1" :Str)=true:=by decide+kernel
mutual
def Tr:D->Bool
 | .non=>true| .bool _=>true| .int _=>true| .str x=>PyData.strOk x
 | .tup ds=>decide (ds.length<=900)&&TrL ds
 | .lst _ _=>false| .ro _=>false| .dct _ _ _=>false| .obj _ _ _ _=>false| .exc _=>false| .fn _=>false| .fdc _ _=>false
def TrL:List D->Bool
 |[]=>true
 |d::ds=>Tr d&&TrL ds
end
theorem z3R: ∀{ds:List D},TrL ds=true↔∀d∈ds,Tr d=true
 |[]=>by simp[TrL]
 |d::ds=>by erw[TrL,b9,z3R (ds:=ds),i6]
theorem z5K{n:Nat}: ∀{ds:List D},RsL n ds=true↔∀d∈ds,Rs n d=true
 |[]=>by simp[RsL]
 |d::ds=>by erw[RsL,b9,z5K (ds:=ds),i6]
theorem z5L{k:Nat}: ∀{ds:List D},PyData.depthAll (erL ds)<=k↔∀d∈ds,(er d).depth<=k
 |[]=>by simp[erL,PyData.depthAll]
 |d::ds=>by erw[erL,PyData.depthAll,i6,<-z5L (ds:=ds)];lia
mutual
theorem z5M: ∀t:D,Tr t=true->y3 t=[]
 | .non,_=>rfl
 | .bool _,_=>rfl
 | .int _,_=>rfl
 | .str _,_=>rfl
 | .tup ds,h=>by erw[Tr,b9] at h;erw[y3];exact TrL_labs ds h.2
 | .lst _ _,h=>by simp[Tr] at h
 | .ro _,h=>by simp[Tr] at h
 | .dct _ _ _,h=>by simp[Tr] at h
 | .obj _ _ _ _,h=>by simp[Tr] at h
 | .exc _,h=>by simp[Tr] at h
 | .fn _,h=>by simp[Tr] at h
 | .fdc _ _,h=>by simp[Tr] at h
theorem TrL_labs: ∀t:List D,TrL t=true->labsL t=[]
 |[],_=>rfl
 |d::ds,h=>by erw[TrL,b9] at h;erw[labsL,z5M d h.1,TrL_labs ds h.2,e7]
end
mutual
theorem z5N{n:Nat}: ∀t:D,Tr t=true->Rs n t=true
 | .non,_=>rfl
 | .bool _,_=>rfl
 | .int _,_=>rfl
 | .str _,h=>by simpa[Tr,Rs] using h
 | .tup ds,h=>by
  erw[Tr,b9,decide_eq_true_eq] at h;erw[Rs,b9,decide_eq_true_eq];exact⟨by lia,TrL_rs ds h.2⟩
 | .lst _ _,h=>by simp[Tr] at h
 | .ro _,h=>by simp[Tr] at h
 | .dct _ _ _,h=>by simp[Tr] at h
 | .obj _ _ _ _,h=>by simp[Tr] at h
 | .exc _,h=>by simp[Tr] at h
 | .fn _,h=>by simp[Tr] at h
 | .fdc _ _,h=>by simp[Tr] at h
theorem TrL_rs{n:Nat}: ∀t:List D,TrL t=true->RsL n t=true
 |[],_=>rfl
 |d::ds,h=>by erw[TrL,b9] at h;erw[RsL,z5N d h.1,TrL_rs ds h.2,C8]
end
mutual
theorem z7p{n:Nat}: ∀t:D,Rs n t=true->Gd t
 | .non,_=>⟨rfl,rfl⟩
 | .bool _,_=>⟨rfl,rfl⟩
 | .int _,_=>⟨rfl,rfl⟩
 | .str _,h=>⟨rfl,by simpa[Rs,er,PyData.canLay0] using h⟩
 | .tup ds,h=>by erw[Rs,b9] at h;exact Gd.tup.mpr (RsL_gd ds h.2)
 | .lst _ ds,h=>by erw[Rs,b9] at h;exact Gd.lst.mpr (RsL_gd ds h.2.2)
 | .ro _,h=>by simp[Rs] at h
 | .dct _ _ _,h=>by simp[Rs] at h
 | .obj _ _ _ _,h=>by simp[Rs] at h
 | .exc _,h=>by simp[Rs] at h
 | .fn _,h=>by simp[Rs] at h
 | .fdc _ _,h=>by simp[Rs] at h
theorem RsL_gd{n:Nat}: ∀t:List D,RsL n t=true->GdL t
 |[],_=>⟨rfl,rfl⟩
 |d::ds,h=>by erw[RsL,b9] at h;exact GdL.cons.mpr ⟨z7p d h.1,RsL_gd ds h.2⟩
end
mutual
theorem zbN{n k:Nat}: ∀t:D,Rs n t=true->k∈y3 t->n<=k
 | .non,_,h=>by simp[y3] at h
 | .bool _,_,h=>by simp[y3] at h
 | .int _,_,h=>by simp[y3] at h
 | .str _,_,h=>by simp[y3] at h
 | .tup ds,h,m=>by erw[Rs,b9] at h;erw[y3] at m;exact RsL_low ds h.2 m
 | .lst _ ds,h,m=>by
  erw[Rs,b9,decide_eq_true_eq] at h
  erw[y3,c9] at m
  rcases m with rfl|m
  .exact h.1
  .exact RsL_low ds h.2.2 m
 | .ro _,h,_=>by simp[Rs] at h
 | .dct _ _ _,h,_=>by simp[Rs] at h
 | .obj _ _ _ _,h,_=>by simp[Rs] at h
 | .exc _,h,_=>by simp[Rs] at h
 | .fn _,h,_=>by simp[Rs] at h
 | .fdc _ _,h,_=>by simp[Rs] at h
theorem RsL_low{n k:Nat}: ∀t:List D,RsL n t=true->k∈labsL t->n<=k
 |[],_,h=>by simp[labsL] at h
 |d::ds,h,m=>by
  erw[RsL,b9] at h
  erw[labsL,c7] at m
  rcases m with m|m
  .exact zbN d h.1 m
  .exact RsL_low ds h.2 m
end
theorem z1U{n l:Nat}{t:D}(h:Rs n t=true)(hl:l<n):l∉y3 t:=λm=>by have:=zbN t h m;lia
mutual
theorem z5O{n m:Nat}(h:m<=n): ∀t:D,Rs n t=true->Rs m t=true
 | .non,_=>rfl
 | .bool _,_=>rfl
 | .int _,_=>rfl
 | .str _,h=>by simpa[Rs] using h
 | .tup ds,h=>by erw[Rs,b9] at h⊢;exact⟨h.1,RsL_mono ‹_› ds h.2⟩
 | .lst _ ds,h=>by erw[Rs,b9,decide_eq_true_eq] at h⊢;exact⟨by lia,h.2.1,RsL_mono ‹_› ds h.2.2⟩
 | .ro _,h=>by simp[Rs] at h
 | .dct _ _ _,h=>by simp[Rs] at h
 | .obj _ _ _ _,h=>by simp[Rs] at h
 | .exc _,h=>by simp[Rs] at h
 | .fn _,h=>by simp[Rs] at h
 | .fdc _ _,h=>by simp[Rs] at h
theorem RsL_mono{n m:Nat}(h:m<=n): ∀t:List D,RsL n t=true->RsL m t=true
 |[],_=>rfl
 |d::ds,h=>by erw[RsL,b9] at h⊢;exact⟨z5O ‹_› d h.1,RsL_mono ‹_› ds h.2⟩
end
theorem zgB{n k l:Nat}{es:List D}(hn:n<=l)(hl:es.length<=2000)(h: ∀e∈es,Rs n e=true/\(er e).depth<=k):Rs n (.lst l es)=true/\(er (.lst l es)).depth<=k+1:=by
 refine⟨?_, ?_⟩
 .erw[Rs,b9,decide_eq_true_eq];exact⟨hn,hl,z5K.mpr λd m=>(h d m).1⟩
 .erw[er,PyData.depth];exact O6 (z5L.mpr λd m=>(h d m).2)
theorem labsL_mem{k:Nat}: ∀{es:List D},k∈labsL es->∃e∈es,k∈y3 e
 |e::es,h=>by
  erw[labsL,c7] at h
  rcases h with h|h
  .exact⟨e,e9,h⟩
  .obtain⟨e',h1,h2⟩:=labsL_mem h
   exact⟨e',b7 _ h1,h2⟩
theorem z0p{k:Nat}: ∀{es:List D} {e:D},e∈es->k∈y3 e->k∈labsL es
 |e::es,x,h,hk=>by
  erw[labsL,c7]
  rcases c9.mp h with rfl|h
  .exact .inl hk
  .exact .inr (z0p h hk)
theorem z5P{y d:D}{s:Stt}(gy:Gd y)(gd:Gd d)(e:er y=er d)(hd:(er d).depth<=60):neD y d s= .ok (.bool false) s:=by
 rw[zjJ (by erw[eqC,gy.1,gd.1,gy.2,gd.2,e,t8,decide_eq_true_eq];lia),e,PySem.SeqAt.eqv_refl _ gd.2];rfl
theorem J3{f:Nat->Option D}{o:Option D}{r:List (Option D)}:rpO f (o::r)=o.map (rp f)::rpO f r:=by cases o<;>rfl
def UpO(n:Nat)(o:Option D):Prop:= ∀d,o=some d->Up n d
theorem UpO.fixk{n k:Nat}{o:Option D}(h:UpO n o)(hk:n<=k)(d:D):Option.map (rp (pl k d)) o=o:=by
 cases o with
 |none=>rfl
 |some t=>erw[m9];rw[W7 λm=>by have:=h t rfl k m;lia]
theorem k5{a b c d e:D}{σ tm:List (Option D)}{n:Nat}:lstM [a,b,c,d,e] ⟨σ,tm,n⟩= .ok (.lst n [a,b,c,d,e]) ⟨σ,tm,n+1⟩:=z4R (by rw[zl];simp)
theorem k6{a b c d e f:D}{σ tm:List (Option D)}{n:Nat}:lstM [a,b,c,d,e,f] ⟨σ,tm,n⟩= .ok (.lst n [a,b,c,d,e,f]) ⟨σ,tm,n+1⟩:=z4R (by rw[zl];simp)
theorem zbO{k:Nat}{es:List D}(hl:es.length<=900)(h: ∀e∈es,Tr e=true/\(er e).depth<=k):Tr (.tup es)=true/\(er (.tup es)).depth<=k+1:=by
 refine⟨?_, ?_⟩
 .erw[Tr,b9,decide_eq_true_eq];exact⟨hl,z3R.mpr λd m=>(h d m).1⟩
 .erw[er,PyData.depth];exact O6 (z5L.mpr λd m=>(h d m).2)
theorem z9c{k:Nat}{i:Int}:Tr (.int i)=true/\(er (.int i)).depth<=k:=⟨rfl,by simp[er,PyData.depth]⟩
theorem zja{i j:Int}{s:Stt}:neD (.int i) (.int j) s= .ok (.bool (!(i==j))) s:=by
 rw[zjJ (by simp[eqC,Mi.plain,er,PyData.canLay0,PyData.depth])];erw[er,PyData.eqv]
def z5Q:D->Bool
 | .non=>true
 |_=>false
theorem zjb{d:D}{s:Stt}:isN d .non s= .ok (.bool (z5Q d)) s:=by cases d<;>rfl
theorem zgC{d:D}{s:Stt}:zbp d .non s= .ok (.bool (!z5Q d)) s:=by cases d<;>rfl
def iL(bs:List Int):List D:=bs.map D.int
structure Wo where
 s:List Int
 g:List Int
 k:Int
 c:Int
def Wo.d(w:Wo):D:= .tup [.tup (iL w.s), .tup (iL w.g), .int w.k, .int w.c]
def kD(s g:List Int)(k:Int):D:= .tup [.tup (iL s), .tup (iL g), .int k]
def nk3(s g:List Int)(k:Int):NK:=[.inr (s.map .inl), .inr (g.map .inl), .inl (.inl k)]
def Wo.key(w:Wo):NK:=nk3 w.s w.g w.k
theorem dk3(s g:List Int)(k:Int):kD s g k=dkD (nk3 s g k):=by
 simp[dkD,nk3,nkD,z41,iL,kD,Function.comp_def]
structure Wo.ok(w:Wo):Prop where
 s1:1<=w.s.length
 s6:w.s.length<=6
 sb: ∀i∈w.s,0<=i/\i<=39
 g1:1<=w.g.length
 g4:w.g.length<=4
 gb: ∀i∈w.g,0<=i/\i<=999
 kb:0<=w.k/\w.k<=7
 cb:0<=w.c/\w.c<=9999
def ksW(ws:List Wo):List D:=ws.map λw=>dkD w.key
def vsW(ws:List Wo):List D:=ws.map λw=> .int w.c
def wsD(ws:List Wo):List D:=ws.map Wo.d
structure Bks(ws:List Wo):Prop where
 nd:(ws.map Wo.key).Nodup
 ok: ∀w∈ws,w.ok
 few:ws.length<=60
theorem Bks.nil:Bks []:=⟨P5,(λ_ h=>nomatch h),by simp⟩
def has(ws:List Wo)(k:NK):Bool:=ws.any λw=>decide (w.key=k)
theorem Bks.snoc{ws:List Wo}{w:Wo}(h:Bks ws)(hw:w.ok)(hh:has ws w.key=false)(hl:ws.length<60):Bks (ws++[w]):=by
 refine⟨?_,λv hv=> ?_,by simp;lia⟩
 .rw[C5]
  refine List.nodup_append.mpr ⟨h.nd,by simp,λa ha b hb e=> ?_⟩
  obtain⟨p,hp,rfl⟩:=m8.mp ha
  rw[c8,l7,l5] at hb
  rw[hb] at e
  have:has ws w.key=true:=O7.mpr ⟨p,hp,by simpa using e⟩
  rw[hh] at this;cases this
 .rcases c7.mp hv with hv|hv
  .exact h.ok v hv
  .rw[l5.mp hv];exact hw
abbrev Dw(m:Nat)(ws:List Wo):D:= .dct m (ksW ws) (vsW ws)
abbrev Bk(l m:Nat)(ws:List Wo):D:= .obj l "Book" ["costs"] [Dw m ws]
theorem zdA{l m:Nat}{ws:List Wo}{s:Stt}:zed "costs" W6 (Bk l m ws) s= .ok (Dw m ws) s:=zj6 (by decide) (by rfl)
theorem z3S(ws:List Wo):isT (ksW ws)=true:=by cases ws<;>rfl
theorem G9(ws:List Wo):labsL (vsW ws)=[]:=by
 induction ws with
 |nil=>rfl
 |cons w ws ih=>erw[vsW,c8,labsL,y3,m5] at ih⊢;exact ih
def fnd:List Wo->NK->Option Int
 |[],_=>none
 |w::ws,k=>if w.key=k then some w.c else fnd ws k
theorem z4V{k:NK}: ∀{ws:List Wo},findK (ksW ws) (vsW ws) k=(fnd ws k).map D.int
 |[]=>rfl
 |w::ws=>by
  have ih:=z4V (k:=k) (ws:=ws)
  erw[ksW,vsW,c8,findK,Q0,Option.some.injEq,fnd] at ih⊢
  split
  .rfl
  .exact ih
theorem z3T{k:NK}: ∀{ws:List Wo},(fnd ws k).isSome=has ws k
 |[]=>rfl
 |w::ws=>by
  have ih:=z3T (k:=k) (ws:=ws)
  erw[fnd,has,E7] at ih⊢
  by_cases h:w.key=k
  .simp[h]
  .simp[h,ih]
theorem z9d: ∀{ws:List Wo},(ws.map Wo.key).Nodup->∀w∈ws,fnd ws w.key=some w.c
 |q::ws,hn,w,hw=>by
  have hn':=B0.mp (show(q.key::ws.map Wo.key).Nodup from hn)
  rcases c9.mp hw with rfl|hw
  .erw[fnd,if_true]
  .rw[fnd,if_neg λe:q.key=w.key=>hn'.1 (e▸m8.mpr ⟨w,hw,rfl⟩)]
   exact z9d hn'.2 w hw
theorem zjc{k:NK}(ws:List Wo):((ksW ws).any λd=>decide (tkey d=some k))=has ws k:=by
 unfold ksW has
 rw[R1]
 congr 1
 funext p
 erw[Function.comp,Q0,Option.some.injEq]
section
variable{m:Nat}{ws:List Wo}{s g:List Int}{k:Int}{st:Stt}
theorem z6x:zaB (kD s g k) (Dw m ws) st= .ok (.bool (has ws (nk3 s g k))) st:=by
 rw[dk3]
 unfold zaB
 erw[rdD,if_pos (z3S ws),Q0,z4V,D0,z3T]
 rfl
theorem z4W:z9x [Dw m ws] st= .ok (.int ws.length) st:=by
 erw[z9x,if_pos (z3S ws)]
 rw[show(ksW ws).length=ws.length by simp[ksW]]
 rfl
theorem z2I{w:Wo}(h:has ws w.key=false)(hl:ws.length<=100):z0N (Dw m ws) (kD w.s w.g w.k) (.int w.c) st= .nx (st.put m (Dw m (ws++[w]))):=by
 rw[dk3]
 unfold z0N
 erw[Q0]
 rw[if_pos ⟨z3S ws,by rw[zl];erw[ksW,l0];lia,rfl,G9 ws⟩]
 unfold zaA z7b
 have h':has ws (nk3 w.s w.g w.k)=false:=h
 rw[zjc,h']
 erw[i8,if_false]
 rw[show Dw m (ws++[w])= .dct m (ksW ws++[dkD (nk3 w.s w.g w.k)]) (vsW ws++[.int w.c]) by simp[Dw,ksW,vsW,Wo.key]]
end
theorem zdB{ws:List Wo}{m n:Nat}{σ tm:List (Option D)}(h:Bks ws):zdh (Dw m ws) ⟨σ,tm,n⟩= .ok (.lst n (wsD ws)) ⟨σ,tm,n+1⟩:=by
 have e:z2V (ksW ws) (vsW ws)=true:=by
  erw[z2V,z3S,G9,O8,C8,t8,b9,A4,decide_eq_true_eq]
  refine⟨λd hd=> ?_,by rw[zl];erw[ksW,l0];have:=h.few;lia⟩
  obtain⟨w,_,rfl⟩:=m8.mp hd
  simp[Wo.key,dkD,nk3,zef]
 erw[zdh,if_pos e]
 have z:C0 z9y (ksW ws) (vsW ws)=wsD ws:=by
  clear e h
  induction ws with
  |nil=>rfl
  |cons w ws ih=>
   erw[ksW,vsW,wsD,c8,B1] at ih⊢
   rw[ih]
   congr 1
   rw[Wo.key,<-dk3];rfl
 rw[z]
 rfl
theorem z5R{ws:List Wo}{m n:Nat}{σ tm:List (Option D)}(h:Bks ws):z7f (Dw m ws) ⟨σ,tm,n⟩= .ok (.lst n (wsD ws)) ⟨σ,tm,n+1⟩:=by
 have e:z2V (ksW ws) (vsW ws)=true:=by
  erw[z2V,z3S,G9,O8,C8,t8,b9,A4,decide_eq_true_eq]
  refine⟨λd hd=> ?_,by rw[zl];erw[ksW,l0];have:=h.few;lia⟩
  obtain⟨w,_,rfl⟩:=m8.mp hd
  simp[Wo.key,dkD,nk3,zef]
 erw[z7f,if_pos e]
 have z:(ksW ws).map (λd=>z9y d (fdK (ksW ws) (vsW ws) d))=wsD ws:=by
  unfold ksW wsD
  rw[R3]
  refine F4 λw hw=> ?_
  erw[Function.comp,fdK,Q0,M7]
  rw[show(List.map (λw=>dkD w.key) ws)=ksW ws from rfl,z4V,z9d h.nd w hw,Wo.key,<-dk3]
  rfl
 rw[z]
 rfl
def B_4:=BA (BA (BA (BA @qg1 (BA @qg2 @qg3)) (BA (BA @qg4 @qg5) (BA @qg6 @qg7))) (BA (BA @qg9 (BA @zky @zkz)) (BA (BA @qh1 @qh2) (BA @qh3 @qh4)))) (BA (BA (BA @qh6 (BA @qh8 @zkA)) (BA (BA @zkB @zkC) (BA @zkD @zjK))) (BA (BA @zjL (BA @zkE @zj2)) (BA (BA @zgr @zbK) (BA @zj3 @zj4))))
def B_5:=BA (BA (BA (BA @zdy (BA @zb1 @zb2)) (BA (BA @zb3 @zja) (BA @J3 @zgp))) (BA (BA @ziU (BA @ziV @ziW)) (BA (BA @ziX @zdw) (BA @ziY @ziZ)))) (BA (BA (BA @zgq (BA @zj0 @zj1)) (BA (BA @zjb @zgC) (BA @zj5 @zgs))) (BA (BA @zj7 (BA @zgu @zgv)) (BA (BA @zdA @zgw) (BA @zdz @c1))))
local macro_rules | `(tactic| left) => `(tactic| (simp (config := { dsimp := false }) only [B_0, B_1, B_3, ↓B_4, B_5, isiD, Z3, asg, asgL, e8, L8, L9, String.reduceBEq, N4]))
theorem zgD{k:Nat}{s:List Int}(h:s.length<=24):Tr (.tup (iL s))=true/\(er (.tup (iL s))).depth<=k+1:=zbO (by simp[iL];lia) λe he=>by
 obtain⟨i,_,rfl⟩:=m8.mp he;exact z9c
theorem z3U{w:Wo}(h:w.ok):Tr w.d=true/\(er w.d).depth<=2:=zbO (by simp) (i6.mpr ⟨zgD (by have:=h.s6;lia),i6.mpr ⟨zgD (by have:=h.g4;lia),i6.mpr ⟨z9c,i6.mpr ⟨z9c,λ_ h=>nomatch h⟩⟩⟩⟩)
theorem zdC: ∀a b:List Int,(So.ltL (erL (iL a)) (erL (iL b))).isSome=true
 |[],b=>by simp[iL,erL,So.ltL]
 |x::a,[]=>by simp[iL,erL,So.ltL]
 |x::a,y::b=>by
  have ih:=zdC a b
  erw[iL,c8,erL,er,So.ltL] at ih⊢
  split
  .exact ih
  .simp[So.ltD]
theorem zjd{v w:Wo}:(So.ltD (er v.d) (er w.d)).isSome=true:=by
 erw[Wo.d,er,erL,So.ltD,So.ltL]
 split
 .split
  .split
   .split
    .simp
    .simp
   .simp
  .exact zdC v.g w.g
 .exact zdC v.s w.s
theorem z2J{P:PyData->Prop}: ∀{ds:List D},(∀d∈ds,P (er d))->∀e∈erL ds,P e
 |[],_,e,h=>nomatch h
 |d::ds,hd,e,h=>by
  rcases c9.mp (show e∈er d::erL ds from h) with rfl|h
  .exact hd d (by simp)
  .exact z2J (λd' h'=>hd d' (by simp[h'])) e h
theorem z0D{ws:List Wo}(h:Bks ws){d:D}(hd:d∈wsD ws): ∃w:Wo,w.ok/\d=w.d:=by
 obtain⟨w,hw,rfl⟩:=m8.mp hd
 exact⟨w,h.ok w hw,rfl⟩
theorem zgE{ws:List Wo}(h:Bks ws):plainL (wsD ws)=true/\z4B (erL (wsD ws))=true/\labsL (wsD ws)=[]:=by
 have tr: ∀d∈wsD ws,Tr d=true/\(er d).depth<=2:=λd hd=>by
  obtain⟨w,hw,rfl⟩:=z0D h hd
  exact z3U hw
 have gd:GdL (wsD ws):=RsL_gd (n:=0) _ (z5K.mpr λd hd=>z5N d (tr d hd).1)
 refine⟨gd.1, ?_,TrL_labs _ (z3R.mpr λd hd=>(tr d hd).1)⟩
 unfold z4B
 erw[b9,A4,decide_eq_true_eq]
 refine⟨z2J λd hd=> ?_,z2J λd hd=>z2J λd' hd'=> ?_⟩
 .have t:=tr d hd
  have g':Gd d:=z7p (n:=0) d (z5N d t.1)
  obtain⟨w,hw,rfl⟩:=z0D h hd
  exact⟨⟨rfl,g'.2⟩,by lia⟩
 .obtain⟨w,_,rfl⟩:=z0D h hd
  obtain⟨w',_,rfl⟩:=z0D h hd'
  exact zjd
theorem z6y{l n:Nat}{ws:List Wo}{σ tm:List (Option D)}(h:Bks ws):z7e [.lst l (wsD ws)] ⟨σ,tm,n⟩= .ok (.lst n (Q9 (wsD ws))) ⟨σ,tm,n+1⟩:=by
 obtain⟨h1,h2,h3⟩:=zgE h
 erw[z7e]
 rw[if_pos (by rw[h1,h2,h3,show decide ((wsD ws).length<64)=true by simp[wsD];have:=h.few;lia];rfl)]
 rfl
theorem z5S{ds:List D}{d:D}(h:d∈Q9 ds):d∈ds:=by
 unfold Q9 at h
 obtain⟨i,hi,rfl⟩:=m8.mp h
 have:=So.permS_lt i hi
 simp[this]
theorem z9e{ds:List D}:(Q9 ds).length=ds.length:=by
 unfold Q9
 rw[l0,So.permS_len]
theorem z4X{ws:List Wo}(h:Bks ws){l:Nat}:Gd (.lst l (Q9 (wsD ws)))/\(er (.lst l (Q9 (wsD ws)))).depth<=60/\labsL (Q9 (wsD ws))=[]/\(Q9 (wsD ws)).length<=60:=by
 have tr: ∀d∈Q9 (wsD ws),Tr d=true/\(er d).depth<=2:=λd hd=>by
  obtain⟨w,hw,rfl⟩:=z0D h (z5S hd)
  exact z3U hw
 have hl:(Q9 (wsD ws)).length<=60:=by rw[z9e];have:=h.few;simpa[wsD] using this
 have r:=zgB (n:=0) (k:=2) (l:=l) (A6 _) (show(Q9 (wsD ws)).length<=2000 by lia) λd hd=>⟨z5N d (tr d hd).1,(tr d hd).2⟩
 exact⟨z7p _ r.1,by have:=r.2;lia,TrL_labs _ (z3R.mpr λd hd=>(tr d hd).1),hl⟩
theorem zb4(f:Nat->Option D)(s:List Int):rpL f (iL s)=iL s:=by
 induction s with
 |nil=>rfl
 |cons i s ih=>erw[iL,c8,z3P,z1b] at ih⊢;rw[ih]
theorem z55(f:Nat->Option D)(w:Wo):rp f w.d=w.d:=by erw[Wo.d,z97,z3P,zb4,z1b,z98]
theorem z6z(l m:Nat)(ws:List Wo)(h:Bks ws)(n:Nat):Y9 [Bk l m ws] n= .ok (.lst (n+1) (Q9 (wsD ws))) [Bk l m ws] (n+1+1):=by
 unfold Y9 V3
 left
 rw[zdB h]
 left
 rw[z6y h]
 left
theorem zbP{s:List Int}{lo hi top:Int}(h1:lo<=s.length)(h2:s.length<=hi)(hb: ∀i∈s,0<=i/\i<=top):z42 lo hi top (.tup (iL s))=true:=by
 erw[z42,iL,l0,h1,h2,decide_true,t8,A4]
 intro d hd
 obtain⟨i,hi',rfl⟩:=m8.mp hd
 have:=hb i hi'
 simp[inR,this.1,this.2]
theorem z9f{l m:Nat}{ws ws':List Wo}(h:l≠m):rp (pl m (Dw m ws')) (Bk l m ws)=Bk l m ws':=by
 erw[rp,rpL,pl,if_neg h,if_true]
def z5T:D->Bool
 | .tup [a,b,k,c]=>z42 1 6 39 a&&z42 1 4 999 b&&inR 0 7 k&&inR 0 9999 c
 |_=>false
theorem zgF{top:Int}: ∀{ds:List D},ds.all (inR 0 top)=true->∃s,ds=iL s/\∀i∈s,0<=i/\i<=top
 |[],_=>⟨[],rfl,λ_ h=>nomatch h⟩
 |d::ds,h=>by
  erw[List.all_cons,b9] at h
  obtain⟨s,rfl,hs⟩:=zgF h.2
  cases d<;>erw[inR,b9,decide_eq_true_eq,i8,false_and] at h
  rename_i i
  exact⟨i::s,rfl,i6.mpr ⟨h.1,hs⟩⟩
theorem zbQ{lo hi top:Int}{d:D}(h:z42 lo hi top d=true): ∃s,d= .tup (iL s)/\lo<=s.length/\s.length<=hi/\∀i∈s,0<=i/\i<=top:=by
 cases d<;>erw[z42,i8] at h
 erw[b9,decide_eq_true_eq] at h
 obtain⟨s,rfl,hs⟩:=zgF h.2
 have e:(iL s).length=s.length:=by simp[iL]
 rw[e] at h
 exact⟨s,rfl,h.1.1,h.1.2,hs⟩
theorem zbR{lo hi:Int}{d:D}(h:inR lo hi d=true): ∃i:Int,d= .int i/\lo<=i/\i<=hi:=by
 cases d<;>erw[inR,i8,b9,decide_eq_true_eq] at h
 exact⟨_,rfl,h⟩
theorem zje{t:D}(h:z5T t=true): ∃w:Wo,w.ok/\t=w.d:=by
 unfold z5T at h
 split at h
 .erw[b9] at h
  obtain⟨⟨⟨h1,h2⟩,h3⟩,h4⟩:=h
  obtain⟨s,rfl,s1,s2,s3⟩:=zbQ h1
  obtain⟨g,rfl,g1,g2,g3⟩:=zbQ h2
  obtain⟨k,rfl,hk⟩:=zbR h3
  obtain⟨c,rfl,hc⟩:=zbR h4
  exact⟨⟨s,g,k,c⟩,⟨by show 1<=s.length;lia,by show s.length<=6;lia,s3,by show 1<=g.length;lia,by show g.length<=4;lia,g3,hk,hc⟩,rfl⟩
 .cases h
theorem zdD{w:Wo}(h:w.ok):z5T w.d=true:=by
 have i1:inR 0 7 (.int w.k)=true:=by simp[inR,h.kb.1,h.kb.2]
 have i2:inR 0 9999 (.int w.c)=true:=by simp[inR,h.cb.1,h.cb.2]
 erw[z5T,Wo.d,zbP (s:=w.s) (lo:=1) (hi:=6) (top:=39) (by have:=h.s1;lia) (by have:=h.s6;lia) h.sb,zbP (s:=w.g) (lo:=1) (hi:=4) (top:=999) (by have:=h.g1;lia) (by have:=h.g4;lia) h.gb,i1,i2,N5]
theorem zbS{ds:List D}(h:ds.length≠4):z5T (.tup ds)=false:=by
 match ds,h with
 |[],_=>rfl
 |[_],_=>rfl
 |[_,_],_=>rfl
 |[_,_,_],_=>rfl
 |[_,_,_,_],h=>exact absurd rfl h
 |_::_::_::_::_::_,_=>rfl
theorem ne4{n:Nat}:((n:Int)==4)=decide (n=4):=by
 by_cases h:n=4
 .subst h;rfl
 .rw[decide_eq_false h,beq_eq_false_iff_ne];lia
theorem z3V(t:D)(hp:plain t=true)(n:Nat): ∃n',n<=n'/\U6 [t] n= .ok (.bool (z5T t)) [t] n':=by
 unfold U6 z0B
 cases t with
 |tup ds=>
  left
  rw[ne4]
  by_cases h4:ds.length=4
  .match ds,h4 with
   |[a,b,k,c],_=>
   erw[Mi.plain,plainL,b9] at hp
   obtain⟨pa,pb,pk,pc,_⟩:=hp
   obtain⟨n1,h1,e1⟩:=zbL a 1 6 39 n pa (by decide)
   obtain⟨n2,h2,e2⟩:=zbL b 1 4 999 n1 pb (by decide)
   erw[i0,n8,decide_true]
   left
   rw[e1]
   erw[z5T]
   cases q1:z42 1 6 39 a with
   |false=>refine⟨n1,h1, ?_⟩;left
   |true=>
    left
    rw[e2]
    cases q2:z42 1 4 999 b with
    |false=>refine⟨n2,by lia, ?_⟩;left
    |true=>
     refine⟨n2,by lia, ?_⟩
     left
     rw[z9b _ _ _ _ pk]
     cases q3:inR 0 7 k with
     |false=>left
     |true=>
      left
      rw[z9b _ _ _ _ pc]
      left
  .refine⟨n,c6 _, ?_⟩
   rw[zbS h4]
   erw[h4,decide_false]
   left
 |dct _ _ _=>simp[Mi.plain] at hp
 |obj _ _ _ _=>simp[Mi.plain] at hp
 |exc _=>simp[Mi.plain] at hp
 |fn _=>simp[Mi.plain] at hp
 |fdc _ _=>simp[Mi.plain] at hp
 |_=>refine⟨n,c6 _, ?_⟩;left;rfl
theorem z9g(t:D)(lo hi top:Int)(n:Nat)(h:plain t=true)(hh:hi<1000000): ∃n',n<=n'/\Q2 [t, .int lo, .int hi, .int top] n= .ok (.bool (z42 lo hi top t)) [t, .int lo, .int hi, .int top] n':=by
 unfold Q2 U7
 cases t with
 |tup ds=>
  left
  by_cases h1:lo<=(ds.length:Int)
  .have h1':decide ((ds.length:Int)<lo)=false:=by simp;lia
   rw[h1']
   left
   by_cases h2:(ds.length:Int)<=hi
   .have h2':decide ((ds.length:Int)>hi)=false:=by simp;lia
    rw[h2']
    left
    erw[h1,h2,decide_true,z42,t8]
    have hz:ds.length<sizeLine:=by rw[zl];lia
    obtain⟨n',hn,hc⟩:=z4O (mc:=y1 0) (me:=(z1M (Z4 J2 [(y1 0)]) (U3 (mC (.int 0)) (y1 0) (y1 1) leD leD))) (g:=λd=> .bool (inR 0 top d)) (ds:=ds) (ix:=[3]) (s:=⟨[some (.tup ds),some (.int lo),some (.int hi),some (.int top)],[some (.tup ds),some (.int lo),some (.int hi),some (.int top)],n⟩) (s1:=⟨[some (.tup ds),some (.int lo),some (.int hi),some (.int top)],[some (.tup ds),some (.int lo),some (.int hi),some (.int top)],n⟩) (by left) hz (by
     intro d hd tm m
     refine⟨m,c6 _, ?_⟩
     have pd:=z1x (by simpa[Mi.plain] using h) hd
     show z1M _ _ ⟨[some d,some (.int top)],tm,m⟩=_
     left
     rw[z1T d m pd]
     cases d<;>(try erw[isInt,inR])<;>left <;>try rfl
     rename_i i
     by_cases q1:0<=i
     .erw[q1,decide_true];left;simp
     .erw[q1,decide_false];left;simp)
    refine⟨n'+1,by simp only at hn;lia, ?_⟩
    rw[hc]
    left
    rw[zgg (z4P ds (inR 0 top))]
    left
    erw[R5]
    rfl
   .refine⟨n,c6 _, ?_⟩
    have h2':decide ((ds.length:Int)>hi)=true:=by simp;lia
    rw[h2']
    left
    simp[z42,h2]
  .refine⟨n,c6 _, ?_⟩
   have h1':decide ((ds.length:Int)<lo)=true:=by simp;lia
   rw[h1']
   left
   simp[z42,h1]
 |dct _ _ _=>simp[Mi.plain] at h
 |obj _ _ _ _=>simp[Mi.plain] at h
 |exc _=>simp[Mi.plain] at h
 |fn _=>simp[Mi.plain] at h
 |fdc _ _=>simp[Mi.plain] at h
 |_=>refine⟨n,c6 _, ?_⟩;left;rfl
theorem z6A(t:D)(hp:plain t=true)(n:Nat): ∃n',n<=n'/\K0 [t] n= .ok (.bool (z5T t)) [t] n':=by
 unfold K0 z0C
 cases t with
 |tup ds=>
  left
  rw[ne4]
  by_cases h4:ds.length=4
  .match ds,h4 with
   |[a,b,k,c],_=>
   erw[Mi.plain,plainL,b9] at hp
   obtain⟨pa,pb,pk,pc,_⟩:=hp
   obtain⟨n1,h1,e1⟩:=z9g a 1 6 39 n pa (by decide)
   obtain⟨n2,h2,e2⟩:=z9g b 1 4 999 n1 pb (by decide)
   erw[i0,n8,decide_true]
   left
   rw[e1]
   erw[z5T]
   cases q1:z42 1 6 39 a with
   |false=>refine⟨n1,h1, ?_⟩;left
   |true=>
    left
    rw[e2]
    cases q2:z42 1 4 999 b with
    |false=>refine⟨n2,by lia, ?_⟩;left
    |true=>
     refine⟨n2,by lia, ?_⟩
     left
     rw[z1T _ _ pk]
     cases k<;>(try erw[isInt,inR])<;>left <;>(try (simp;done))
     rename_i i _
     rw[z1T _ _ pc]
     cases c<;>(try erw[isInt,inR])<;>left <;>(try (simp;done))
     rename_i j _
     by_cases r1:0<=i
     .erw[r1,decide_true,t8]
      left
      by_cases r2:i<=7
      .erw[r2,decide_true,t8]
       left
       by_cases r3:0<=j
       .erw[r3,decide_true,t8];left
       .erw[r3,decide_false,B5];left
      .erw[r2,decide_false,B5];left
     .erw[r1,decide_false,B5];left
  .refine⟨n,c6 _, ?_⟩
   rw[zbS h4]
   erw[h4,decide_false]
   left
 |dct _ _ _=>simp[Mi.plain] at hp
 |obj _ _ _ _=>simp[Mi.plain] at hp
 |exc _=>simp[Mi.plain] at hp
 |fn _=>simp[Mi.plain] at hp
 |fdc _ _=>simp[Mi.plain] at hp
 |_=>refine⟨n,c6 _, ?_⟩;left;rfl
def z1G(ws:List Wo)(w:Wo):Option Str:=if has ws w.key=true then some "Twice" else if 60<=ws.length then some "TooMany" else none
theorem zjf{l:Nat}{ds:List D}{k:Bool}{bs:List Bool}{s:Stt}(h:G2 ds=some bs):zea (.lst l ds) [.bool k] s= .ok (.int (bs.count k:Nat)) s:=by erw[zea,h];rfl
theorem zjg{l:Nat}{ds:List D}{k:Bool}{bs:List Bool}{s:Stt}(h:G2 ds=some bs)(hk:k∈bs):zeb (.lst l ds) [.bool k] s= .ok (.int (bs.idxOf k:Nat)) s:=by erw[zeb,h,if_pos hk];rfl
theorem z6B(ws:List Wo):labsL (ksW ws)=[]:=by
 induction ws with
 |nil=>rfl
 |cons w ws ih=>erw[ksW,c8,labsL,z5w,m5] at ih⊢;exact ih
theorem z2K{l m:Nat}{ws:List Wo}:y3 (Bk l m ws)=[l,m]:=by erw[y3,labsL,z6B,G9,e7]
theorem zdE{l m:Nat}{ws:List Wo}{r:List D}(hr:labsL r=[])(k:Nat):findL k (Bk l m ws::r)=if l=k then some (Bk l m ws) else if m=k then some (Dw m ws) else none:=by
 have e0:findL k r=none:=findL_none r (by rw[hr];exact i7)
 have e1:findL k (vsW ws)=none:=findL_none _ (by rw[G9];exact i7)
 by_cases h1:l=k
 .erw[findL,Z8,if_pos h1]
 .by_cases h2:m=k
  .erw[findL,Z8,if_neg h1,if_pos h2]
  .erw[findL,Z8,if_neg h1,if_neg h2,e1,e0]
theorem z30{l m:Nat}{ws ws':List Wo}{r:List D}(hr:labsL r=[]):rp (λk=>findL k (Bk l m ws'::r)) (Bk l m ws)=Bk l m ws':=by
 erw[rp,zdE hr,if_true]
theorem z5U{l m:Nat}{ws':List Wo}{r:List D}(hr:labsL r=[]){t:D}(h1:l∉y3 t)(h2:m∉y3 t):rp (λk=>findL k (Bk l m ws'::r)) t=t:=z3o t λk hk=>by
 rw[zdE hr,if_neg λz:l=k=>h1 (by rw[z];exact hk),if_neg λz:m=k=>h2 (by rw[z];exact hk)]
theorem z3W{f:Nat->Option D}: ∀{o:List (Option D)},(∀t,some t∈o->rp f t=t)->rpO f o=o
 |[],_=>rfl
 |none::o,h=>by rw[J3,z3W λt ht=>h t (b7 _ ht)];rfl
 |some d::o,h=>by rw[J3,z3W λt ht=>h t (b7 _ ht),m9,h d (e9 ..)]
theorem z4Y{l m:Nat}{ws ws':List Wo}{r:List D}(hr:labsL r=[]): ∀k∈labsL (Bk l m ws::r),(findL k (Bk l m ws'::r)).isSome=true:=λk hk=>by
 rw[zdE hr]
 erw[labsL,z2K,hr,e7,c9,i7,or_false] at hk
 rcases hk with rfl|rfl
 .simp
 .split<;>simp
theorem zgG{l m:Nat}{ws:List Wo}:objC "Book" "words" (Bk l m ws)=true:=by erw[objC];decide
theorem z7q{l m k:Nat}{d:D}{ws:List Wo}(h1:l≠k)(h2:m≠k):rp (pl k d) (Bk l m ws)=Bk l m ws:=W7 (by rw[z2K];erw[c9,i7,or_false,not_or];exact⟨λz=>h1 z.symm,λz=>h2 z.symm⟩)
theorem U8{m:Nat}{ws:List Wo}:y3 (Dw m ws)=[m]:=by erw[y3,z6B,G9,e7]
theorem zb5{m k:Nat}{d:D}{ws:List Wo}(h2:m≠k):rp (pl k d) (Dw m ws)=Dw m ws:=W7 (by rw[U8];erw[c9,i7,or_false];exact λz=>h2 z.symm)
theorem z9h(bs:List Int):labsL (iL bs)=[]:=by
 induction bs with
 |nil=>rfl
 |cons b bs ih=>erw[iL,c8,labsL,y3,m5] at ih⊢;exact ih
theorem z1c{w:Wo}:y3 w.d=[]:=by erw[Wo.d,y3,labsL,e7,z9h]
def rmW(ws:List Wo)(k:NK):List Wo:=ws.filter λw=>decide (w.key≠k)
theorem z6C(k:NK): ∀ws:List Wo,z3a (ksW ws) k=ksW (rmW ws k)
 |[]=>rfl
 |w::ws=>by
  have ih:=z6C k ws
  erw[z3a,ksW,rmW,c8] at ih⊢
  by_cases h:w.key=k
  .rw[r6 (by simp[Q0,h]),r6 (by simp[h]),ih]
  .rw[r8 (by simp[Q0,h]),r8 (by simp[h]),ih,c8]
theorem z6D(k:NK): ∀ws:List Wo,V7 (ksW ws) (vsW ws) k=vsW (rmW ws k)
 |[]=>rfl
 |w::ws=>by
  have ih:=z6D k ws
  erw[ksW,vsW,rmW,c8,V7,Q0,Option.some.injEq] at ih⊢
  by_cases h:w.key=k
  .rw[if_pos h,r6 (by simp[h]),ih]
  .rw[if_neg h,r8 (by simp[h]),ih,c8]
theorem z3X{m:Nat}{ws:List Wo}{s g:List Int}{k:Int}{st:Stt}:z4x (kD s g k) (Dw m ws) st= .ok (.bool (!has ws (nk3 s g k))) st:=by
 rw[dk3]
 unfold z4x
 erw[rdD,if_pos (z3S ws),Q0,z4V,D0,z3T]
 rfl
theorem zbT{m:Nat}{ws:List Wo}{s g:List Int}{k:Int}{st:Stt}(h:has ws (nk3 s g k)=true): ∃c:Int,zaN (Dw m ws) (kD s g k) st= .ok (.int c) (st.put m (Dw m (rmW ws (nk3 s g k)))):=by
 rw[<-z3T] at h
 cases e:fnd ws (nk3 s g k) with
 |none=>rw[e] at h;cases h
 |some c=>
  refine⟨c, ?_⟩
  rw[dk3]
  erw[zaN,Q0,z4V,e,m9]
  rw[if_pos ⟨z3S ws,G9 ws⟩,z6C,z6D]
theorem zhf{l m:Nat}{ws:List Wo}:objC "Book" "put" (Bk l m ws)=true:=by erw[objC];decide
theorem z3Y{w:Wo}(h:w.ok):Mi.plain w.d=true:=(z7p (n:=0) _ (z5N _ (z3U h).1)).1
theorem zgH{l m:Nat}{ws:List Wo}:objC "Book" "take" (Bk l m ws)=true:=by erw[objC];decide
def kdI:Option Str->D
 |none=> .non
 |some c=>if c= "NoWord" then .int 0 else if c= "Twice" then .int 1 else if c= "TooMany" then .int 2 else .int 3
def Nx(c:Str):Prop:=c= "NoWord" \/c= "Twice" \/c= "TooMany" \/c= "Missing"
theorem kbN{c:Str}(h:Nx c):G6 c=true:=by
 rcases h with rfl|rfl|rfl|rfl<;>decide+kernel
theorem zdF{ws:List Wo}{w:Wo}{c:Str}(h:z1G ws w=some c):Nx c:=by
 unfold z1G at h
 split at h
 .cases h;exact .inr (.inl rfl)
 .split at h
  .cases h;exact .inr (.inr (.inl rfl))
  .cases h
theorem z9i{a b c:Option D}:K8 3 [a,b,c]=[a,b,c]:=rfl
theorem x3W(w:Wo)(s:Stt):ixD w.d (.int 3) s= .ok (.int w.c) s:=(rfl)
theorem slW(w:Wo)(s:Stt):slD w.d none (some 3) s= .ok (kD w.s w.g w.k) s:=(rfl)
theorem zgI(l m:Nat)(hlm:l≠m)(ws:List Wo)(h:Bks ws)(w:Wo)(hw:w.ok)(n:Nat): ∃n',n<=n'/\j9 [Bk l m ws,w.d] n=match z1G ws w with
 |some c=> .ex (.exc c) [Bk l m ws,w.d] n'
 |none=> .ok .non [Bk l m (ws++[w]),w.d] n':=by
 obtain⟨n1,h1,e1⟩:=z3V w.d (z3Y hw) n
 rw[zdD hw] at e1
 refine⟨n1,h1, ?_⟩
 unfold j9 v4
 left
 rw[e1]
 left
 rw[slW]
 left
 rw[z6x]
 unfold z1G
 by_cases hh:has ws w.key=true
 .have hh':has ws (nk3 w.s w.g w.k)=true:=hh
  rw[hh',if_pos hh]
  left
  rfl
 .have hh':has ws (nk3 w.s w.g w.k)=false:=t7.mpr hh
  rw[hh',if_neg hh]
  left
  rw[z4W]
  left
  by_cases hl:60<=ws.length
  .have hd:decide ((ws.length:Int)≥60)=true:=by simp;lia
   rw[if_pos hl,hd]
   left
   rfl
  .have hd:decide ((ws.length:Int)≥60)=false:=by simp;lia
   rw[if_neg hl,hd]
   left
   rw[x3W]
   left
   rw[slW]
   left
   rw[z2I hh' (by lia)]
   left
   erw[z9f hlm,z55]
theorem zdG(l m:Nat)(ws:List Wo)(t:D)(hp:plain t=true)(ht:z5T t=false)(n:Nat): ∃n',n<=n'/\j9 [Bk l m ws,t] n= .ex (.exc "NoWord") [Bk l m ws,t] n':=by
 obtain⟨n1,h1,e1⟩:=z3V t hp n
 rw[ht] at e1
 refine⟨n1,h1, ?_⟩
 unfold j9 v4
 left
 rw[e1]
 left
 rfl
theorem zdH(l m:Nat)(hlm:l≠m)(ws:List Wo)(w:Wo)(hw:w.ok)(hp:z1G ws w=none)(n:Nat): ∃n',n<=n'/\j3 [Bk l m ws,w.d] n= .ok .non [Bk l m (ws++[w]),w.d] n':=by
 obtain⟨n1,h1,e1⟩:=z3V w.d (z3Y hw) n
 rw[zdD hw] at e1
 refine⟨n1,h1, ?_⟩
 unfold z1G at hp
 have hh: ¬has ws w.key=true:=λz=>by rw[if_pos z] at hp;cases hp
 rw[if_neg hh] at hp
 have hl: ¬60<=ws.length:=λz=>by rw[if_pos z] at hp;cases hp
 have hh':has ws (nk3 w.s w.g w.k)=false:=t7.mpr hh
 have hd:decide ((ws.length:Int)≥60)=false:=by simp;lia
 unfold j3 V2
 left
 rw[e1]
 left
 rw[slW]
 left
 rw[z6x,hh']
 left
 rw[z4W]
 left
 rw[hd]
 left
 rw[x3W]
 left
 rw[slW]
 left
 rw[z2I hh' (by lia)]
 left
 erw[z9f hlm,z55]
theorem z1V(c:Str)(k:Nat)(h:zid c=some (k==0)/\zie c=some (k==1)/\zif c=some (k==2)/\zig c=some (k==3)/\zih c=some false/\zii c=some false/\zij c=some true/\zik c=some true)(hk:k<4)(n:Nat):z0X [.exc c] n= .ok (.int k) [.exc c] (n+1):=by
 obtain⟨h0,h1,h2,h3,h4,h5,h6,h7⟩:=h
 have hc:(List.count true [k==0,k==1,k==2,k==3])=1:=by(rcases(show k=0\/k=1\/k=2\/k=3 by lia) with rfl|rfl|rfl|rfl)<;>decide
 have hi:(List.idxOf true [k==0,k==1,k==2,k==3])=k:=by(rcases(show k=0\/k=1\/k=2\/k=3 by lia) with rfl|rfl|rfl|rfl)<;>decide
 have hm:true∈[k==0,k==1,k==2,k==3]:=by(rcases(show k=0\/k=1\/k=2\/k=3 by lia) with rfl|rfl|rfl|rfl)<;>decide
 unfold z0X z3M
 left
 rw[z1F h0]
 left
 rw[z1F h1]
 left
 rw[z1F h2]
 left
 rw[z1F h3]
 left
 rw[z1F h4]
 left
 rw[z1F h5]
 left
 rw[zjf (bs:=[k==0,k==1,k==2,k==3]) rfl,hc]
 left
 rw[z1F h6]
 left
 rw[z1F h7]
 left
 rw[zjg (bs:=[k==0,k==1,k==2,k==3]) rfl hm,hi]
 left
theorem zdI{c:Str}(h:Nx c)(n:Nat):z0X [.exc c] n= .ok (kdI (some c)) [.exc c] (n+1):=by
 rcases h with rfl|rfl|rfl|rfl
 .exact z1V "NoWord" 0 (by decide+kernel) (by decide) n
 .exact z1V "Twice" 1 (by decide+kernel) (by decide) n
 .exact z1V "TooMany" 2 (by decide+kernel) (by decide) n
 .exact z1V "Missing" 3 (by decide+kernel) (by decide) n
theorem zb6(l m:Nat)(ws:List Wo)(s g:List Int)(k:Int)(hh:has ws (nk3 s g k)=false)(n:Nat):Q5 [Bk l m ws, .tup (iL s), .tup (iL g), .int k] n= .ex (.exc "Missing") [Bk l m ws, .tup (iL s), .tup (iL g), .int k] n:=by
 unfold Q5 G8
 left
 rw[show D.tup [.tup (iL s), .tup (iL g), .int k]=kD s g k from rfl,z3X,hh]
 left
 rfl
theorem zb7(l m:Nat)(hlm:l≠m)(ws:List Wo)(s g:List Int)(k:Int)(hh:has ws (nk3 s g k)=true)(n:Nat):Q5 [Bk l m ws, .tup (iL s), .tup (iL g), .int k] n= .ok .non [Bk l m (rmW ws (nk3 s g k)), .tup (iL s), .tup (iL g), .int k] n:=by
 unfold Q5 G8
 left
 rw[show D.tup [.tup (iL s), .tup (iL g), .int k]=kD s g k from rfl,z3X,hh]
 left
 have e: ∀(tm:List (Option D)),z2p (z7c (y1 0) "costs" W6) (mCB [(y1 1),(y1 2),(y1 3)] j4) ⟨[some (Bk l m ws),some (.tup (iL s)),some (.tup (iL g)),some (.int k)],tm,n⟩=zaN (Dw m ws) (kD s g k) ⟨[some (Bk l m ws),some (.tup (iL s)),some (.tup (iL g)),some (.int k)],tm,n⟩:=λtm=>by
  unfold z2p
  left
  erw[zfU,if_pos (z3S ws)]
  left
  rfl
 obtain⟨c,ep⟩:=zbT (m:=m) (ws:=ws) (s:=s) (g:=g) (k:=k) (st:=⟨[some (Bk l m ws),some (.tup (iL s)),some (.tup (iL g)),some (.int k)],[some (Bk l m ws),some (.tup (iL s)),some (.tup (iL g)),some (.int k)],n⟩) hh
 rw[e,ep]
 left
 erw[z9f hlm,zb4]
def wsN(ws:List Wo)(w:Wo):List Wo:=if z1G ws w=none then ws++[w] else ws
theorem z4Z:PyData.strOk ("put" :Str)=true:=by decide+kernel
theorem z50:PyData.strOk ("take" :Str)=true:=by decide+kernel
theorem z0E{a b:Str}(ha:PyData.strOk a=true)(hb:PyData.strOk b=true)(s:Stt):eqD (.str a) (.str b) s= .ok (.bool (a==b)) s:=by
 rw[eq_str ⟨rfl,by show PyData.canLay0 (.str a)=true;rw[PyData.canLay0];exact ha⟩ hb];rfl
theorem zjh:(("take" :Str)==("put" :Str))=false:=by decide+kernel
theorem zdJ:(("put" :Str)==("take" :Str))=false:=by decide+kernel
theorem zgJ:(("take" :Str)==("take" :Str))=true:=by decide+kernel
theorem lf3{s g:List Int}{k:Int}:labsL [D.tup (iL s),D.tup (iL g),D.int k]=[]:=by erw[labsL,y3,z9h,e7]
def tkR(ws:List Wo)(w:Wo):Option Str:=if has ws w.key=true then none else some "Missing"
def wsT(ws:List Wo)(w:Wo):List Wo:=if has ws w.key=true then rmW ws w.key else ws
theorem x0W(w:Wo)(s:Stt):ixD w.d (.int 0) s= .ok (.tup (iL w.s)) s:=(rfl)
theorem x1W(w:Wo)(s:Stt):ixD w.d (.int 1) s= .ok (.tup (iL w.g)) s:=(rfl)
theorem x2W(w:Wo)(s:Stt):ixD w.d (.int 2) s= .ok (.int w.k) s:=(rfl)
theorem z6E(l m:Nat)(hlm:l≠m)(ws:List Wo)(h:Bks ws)(w:Wo)(hw:w.ok)(n:Nat): ∃n',n<=n'/\Y8 [.str "put",Bk l m ws,w.d] n= .ok (kdI (z1G ws w)) [.str "put",Bk l m (wsN ws w),w.d] n':=by
 obtain⟨n1,h1,e1⟩:=zgI l m hlm ws h w hw n
 have hr:labsL [w.d]=[]:=by erw[labsL,z5M _ (z3U hw).1,e7]
 have sp: ∀s:Stt,eqD (.str "put") (.str "put") s= .ok (.bool true) s:=λs=>by
  rw[eq_str ⟨rfl,by show PyData.canLay0 (.str "put")=true;rw[PyData.canLay0];exact z4Z⟩ z4Z];rfl
 have rs: ∀f,rp f (.str "put")= .str "put" :=λ_=>rfl
 cases hp:z1G ws w with
 |none=>
  rw[hp] at e1
  refine⟨n1,h1, ?_⟩
  unfold Y8 k9
  left
  rw[sp]
  left
  rw[zhf]
  left
  rw[e1]
  dsimp only
  rw[z3e (z4Y hr) (λe=>by
   injection e with e _
   erw[J3,K3,m9,B9,z30 hr,rs,z55,e,and_self])]
  left
  erw[z30 hr,rs,z55,wsN,hp,if_true,kdI]
 |some c=>
  rw[hp] at e1
  have nx:=zdF hp
  refine⟨n1+1,by lia, ?_⟩
  unfold Y8 k9
  left
  rw[sp]
  left
  rw[zhf]
  left
  rw[e1]
  dsimp only
  left
  rw[zdx (kbN nx),z9i]
  left
  rw[zdI nx]
  left
  erw[wsN,hp,reduceCtorEq,if_false]
theorem z3Z(l m:Nat)(ws:List Wo)(t:D)(hp:plain t=true)(ht:z5T t=false)(n:Nat): ∃n',n<=n'/\Y8 [.str "put",Bk l m ws,t] n= .ok (.int 0) [.str "put",Bk l m ws,t] n':=by
 obtain⟨n1,h1,e1⟩:=zdG l m ws t hp ht n
 have nx:Nx "NoWord" := .inl rfl
 have ek:kdI (some "NoWord")= .int 0:=by simp[kdI]
 have sp: ∀s:Stt,eqD (.str "put") (.str "put") s= .ok (.bool true) s:=λs=>z0E z4Z z4Z s
 refine⟨n1+1,by lia, ?_⟩
 unfold Y8 k9
 left
 rw[sp]
 left
 rw[zhf]
 left
 rw[e1]
 left
 rw[zdx (kbN nx),z9i]
 left
 rw[zdI nx,ek]
 left
theorem zb8(l m:Nat)(hlm:l≠m)(ws:List Wo)(w:Wo)(n:Nat): ∃n',n<=n'/\Y8 [.str "take",Bk l m ws,w.d] n= .ok (kdI (tkR ws w)) [.str "take",Bk l m (wsT ws w),w.d] n':=by
 have sp: ∀s:Stt,eqD (.str "take") (.str "put") s= .ok (.bool false) s:=λs=>by rw[z0E z50 z4Z s,zjh]
 have rs: ∀f,rp f (.str "take")= .str "take" :=λ_=>rfl
 have hr:=lf3 (s:=w.s) (g:=w.g) (k:=w.k)
 cases hh:has ws w.key with
 |true=>
  have e1:=zb7 l m hlm ws w.s w.g w.k hh n
  refine⟨n,c6 _, ?_⟩
  unfold Y8 k9
  left
  rw[sp]
  left
  rw[zgH]
  left
  rw[x0W]
  left
  rw[x1W]
  left
  rw[x2W]
  left
  rw[e1,z3e (z4Y hr) (λe=>by
   injection e with e _
   erw[J3,K3,m9,B9,z30 hr,rs,z55,e,and_self])]
  left
  erw[z30 hr,rs,z55,wsT,tkR,hh,if_true,kdI]
  rfl
 |false=>
  have e1:=zb6 l m ws w.s w.g w.k hh n
  have nx:Nx "Missing" := .inr (.inr (.inr rfl))
  refine⟨n+1,by lia, ?_⟩
  unfold Y8 k9
  left
  rw[sp]
  left
  rw[zgH]
  left
  rw[x0W]
  left
  rw[x1W]
  left
  rw[x2W]
  left
  rw[e1]
  left
  rw[zdx (kbN nx),z9i]
  left
  rw[zdI nx]
  left
  erw[wsT,tkR,hh,i8,if_false]
theorem zdK(mm:Nat)(ws:List Wo)(w:Wo)(n:Nat): ∃n',n<=n'/\K1 [Dw mm ws, .str "take",w.d] n= .ok (kdI (tkR ws w)) [Dw mm ws, .str "take",w.d] n':=by
 have sp: ∀s:Stt,eqD (.str "take") (.str "take") s= .ok (.bool true) s:=λs=>by rw[z0E z50 z50 s,zgJ]
 refine⟨n+1,by lia, ?_⟩
 unfold K1 z2D
 left
 rw[sp]
 left
 rw[slW]
 left
 rw[z6x]
 unfold tkR
 cases hh:has ws w.key with
 |true=>
  have hh':has ws (nk3 w.s w.g w.k)=true:=hh
  rw[hh']
  left
  erw[if_true]
  rw[at1]
  left
  rfl
 |false=>
  have hh':has ws (nk3 w.s w.g w.k)=false:=hh
  rw[hh']
  left
  try erw[i8,if_false]
  rw[at0]
  left
  rfl
theorem zdL(mm:Nat)(ws:List Wo)(t:D)(hp:plain t=true)(ht:z5T t=false)(n:Nat): ∃n',n<=n'/\K1 [Dw mm ws, .str "put",t] n= .ok (.int 0) [Dw mm ws, .str "put",t] n':=by
 have sp: ∀s:Stt,eqD (.str "put") (.str "take") s= .ok (.bool false) s:=λs=>by rw[z0E z4Z z50 s,zdJ]
 obtain⟨n1,h1,e1⟩:=z6A t hp n
 rw[ht] at e1
 refine⟨n1,h1, ?_⟩
 unfold K1 z2D
 left
 rw[sp]
 left
 rw[e1]
 left
theorem zdM(mm:Nat)(ws:List Wo)(w:Wo)(hw:w.ok)(n:Nat): ∃n',n<=n'/\K1 [Dw mm ws, .str "put",w.d] n= .ok (kdI (z1G ws w)) [Dw mm ws, .str "put",w.d] n':=by
 have sp: ∀s:Stt,eqD (.str "put") (.str "take") s= .ok (.bool false) s:=λs=>by rw[z0E z4Z z50 s,zdJ]
 obtain⟨n1,h1,e1⟩:=z6A w.d (z3Y hw) n
 rw[zdD hw] at e1
 unfold K1 z2D
 left
 rw[sp]
 left
 rw[e1]
 left
 rw[slW]
 left
 rw[z6x]
 unfold z1G
 by_cases hh:has ws w.key=true
 .have hh':has ws (nk3 w.s w.g w.k)=true:=hh
  rw[hh',if_pos hh]
  refine⟨n1,h1, ?_⟩
  left
  rfl
 .have hh':has ws (nk3 w.s w.g w.k)=false:=t7.mpr hh
  rw[hh',if_neg hh]
  refine⟨n1+1,by lia, ?_⟩
  left
  rw[z4W]
  left
  by_cases hl:60<=ws.length
  .have hd:decide ((ws.length:Int)≥60)=true:=by simp;lia
   rw[if_pos hl,hd]
   rw[show atI [D.non,D.int 2] (if true=true then 1 else 0)=some (.int 2) from at1]
   left
   rfl
  .have hd:decide ((ws.length:Int)≥60)=false:=by simp;lia
   rw[if_neg hl,hd]
   rw[show atI [D.non,D.int 2] (if false=true then 1 else 0)=some .non from at0]
   left
   rfl
theorem z9j{K:ItK}{tg:Tg}{me:M D}{g:D->D}{sl:D->List (Option D)}{k:Nat}{items:List D}{its fr σ0 tm0:List (Option D)}{ol:Nat}(hk:its.length=K.k)(hol:σ0.length=ol)(hz:items.length<sizeLine)(hat: ∀i rest,K.at' i (its++rest)=some items[i]?)
 (has: ∀d∈items,(sl d).length=k/\∀os:List (Option D),os.length=k->asg tg d (os++fr)=some (sl d++fr))
 (hme: ∀d∈items,∀tm n,∃n',n<=n'/\me ⟨sl d++fr,tm,n⟩= .ok (g d) ⟨sl d++fr,tm,n'⟩):
 ∀(f i:Nat) (acc:List D) (os:List (Option D)) (n:Nat),os.length=k->i+f=items.length->acc.length<=i->∃n',n<=n'/\v3 K tg (rt true) me ol f i acc.length ⟨os++fr,(acc.reverse.map some)++(σ0++(its++tm0)),n⟩= .ok (.lst n' (acc++(items.drop i).map g)) ⟨σ0,tm0,n'+1⟩:=by
 intro f
 induction f with
 |zero=>
  intro i acc os n ho hi ha
  have hi:i=items.length:=by lia
  refine⟨n,c6 _, ?_⟩
  have l1:(acc.reverse.map some).length=acc.length:=by simp
  have e1:((acc.reverse.map some)++(σ0++(its++tm0))).drop (acc.length+ol)=its++tm0:=by
   rw[<-o0];exact g9 _ _ _ (by simp[hol])
  have e0:K.at' i (its++tm0)=some none:=by
   rw[hat,List.getElem?_eq_none (show items.length<=i by lia)]
  unfold v3
  erw[e1,e0]
  rw[z0o _ _ _ l1]
  have e2:(acc.reverse.map some).reverse=acc.map some:=by simp
  rw[e2,K2]
  erw[Res.ok.injEq,Stt.mk.injEq,and_true,List.drop_eq_nil_of_le (show items.length<=i by lia),l7,e7,true_and]
  constructor
  .rw[g9 _ _ _ l1,z0o _ _ _ hol]
  .have:((acc.reverse.map some)++(σ0++(its++tm0))).drop (acc.length+ol+K.k)=(((acc.reverse.map some)++(σ0++(its++tm0))).drop (acc.length+ol)).drop K.k:=by rw[D8]
   rw[this,e1]
   exact g9 _ _ _ hk
 |succ f ih=>
  intro i acc os n ho hi ha
  have hlt:i<items.length:=by lia
  have e1:((acc.reverse.map some)++(σ0++(its++tm0))).drop (acc.length+ol)=its++tm0:=by
   rw[<-o0];exact g9 _ _ _ (by simp[hol])
  have e0:K.at' i (its++tm0)=some (some items[i]):=by
   rw[hat,List.getElem?_eq_getElem hlt]
  obtain⟨a1,a2⟩:=has items[i] (B4 hlt)
  rw[L4 hlt]
  obtain⟨n2,hn2,h2⟩:=hme items[i] (B4 hlt) ((acc.reverse.map some)++(σ0++(its++tm0))) n
  obtain⟨n3,hn3,h3⟩:=ih (i+1) (acc++[g items[i]]) (sl items[i]) n2 a1 (by lia) (by simp;lia)
  refine⟨n3,by lia, ?_⟩
  unfold v3
  erw[e1,e0,a2 os ho,rt]
  erw[if_pos (show acc.length<sizeLine by lia),h2]
  erw[l3,i0,n8,O4,D5,m7,B3,m5,C5,c8,l7,l9,o0] at h3⊢
  exact h3
theorem zb9{mi:M ItK}{K:ItK}{tg:Tg}{me:M D}{g:D->D}{sl:D->List (Option D)}{k:Nat}{items:List D}{its:List (Option D)}{ix:List Nat}{s:Stt}{σ tm:List (Option D)}{n:Nat}(hc:mi s= .ok K ⟨σ,its++tm,n⟩)(hk:its.length=K.k)(hz:items.length<sizeLine)(hat: ∀i rest,K.at' i (its++rest)=some items[i]?)(hlen:K.len (its++tm)=items.length)
 (has: ∀d∈items,(sl d).length=k/\∀os:List (Option D),os.length=k->asg tg d (os++(ix.map λi=>(σ[i]?).getD none))=some (sl d++(ix.map λi=>(σ[i]?).getD none)))
 (hme: ∀d∈items,∀tm n,∃n',n<=n'/\me ⟨sl d++(ix.map λi=>(σ[i]?).getD none),tm,n⟩= .ok (g d) ⟨sl d++(ix.map λi=>(σ[i]?).getD none),tm,n'⟩):
 ∃n',n<=n'/\z03 mi tg (rt true) me k ix s= .ok (.lst n' (items.map g)) ⟨σ,tm,n'+1⟩:=by
 obtain⟨n',h2,h3⟩:=z9j (K:=K) (tg:=tg) (me:=me) (g:=g) (sl:=sl) (σ0:=σ) (tm0:=tm) hk rfl hz hat has hme items.length 0 [] (e8 k none) n (by simp) (by simp) (by simp)
 refine⟨n',h2, ?_⟩
 unfold z03
 erw[bd,hc,hlen]
 erw[l7,B3,m5,n8,F9] at h3
 exact h3
theorem z9H.two{r:Int}:z9H r 2:=⟨by decide,by decide⟩
theorem zgK(s:List Int):(iL s).length=s.length:=by simp[iL]
theorem zgL{v:Int}: ∀{ys:List D},(∀y∈ys,∃i:Int,y= .int i/\0<=i/\i<v)->∃bs,ys=iL bs/\∀i∈bs,0<=i/\i<v
 |[],_=>⟨[],rfl,λ_ h=>nomatch h⟩
 |d::ds,h=>by
  obtain⟨i,rfl,hi⟩:=h d (by simp)
  obtain⟨bs,rfl,hb⟩:=zgL (ys:=ds) λd hd=>h d (by simp[hd])
  exact⟨i::bs,rfl,i6.mpr ⟨hi,hb⟩⟩
def drM(a b a' b':Int):M D:=z03 (z02 [(Z0 (mC (.int 1)) (Z4 Z2 [(y1 0),(Z0 (mCB [(mC (.int a')),(mC (.int b'))] lstM) (y1 1) ixD)]) v1)]) (.nm 0) (rt true) (Z4 Z2 [(y1 1),(Z0 (mCB [(mC (.int a)),(mC (.int b))] lstM) (y1 2) ixD)]) 1 [0,1]
theorem z9k{a b a' b' v v' wide c x:Int}{l n:Nat}{r:List (Option D)}(h:Bg c x)(hn:l<n)(hv:atI [D.int a,D.int b] wide=some (.int v))(hv':atI [D.int a',D.int b'] wide=some (.int v'))(h0:0<v)(h1:v<1000000)(h2:0<v')(h3:v'<100)(hr: ∀d,rpO (pl l d) r=r):
 ∃(s:List Int) (c' x':Int) (n':Nat),1<=s.length/\s.length<=v'/\(∀i∈s,0<=i/\i<v)/\Bg c' x'/\n<=n'/\drM a b a' b' ⟨some (.lst l [.int c, .int x])::some (.int wide)::r,[some (.lst l [.int c, .int x])],n⟩= .ok (.lst n' (iL s)) ⟨some (.lst l [.int c', .int x'])::some (.int wide)::r,[some (.lst l [.int c', .int x'])],n'+1⟩:=by
 obtain⟨k,c1,x1,hk0,hk1,b1,e1⟩:=j6 l c x v' (n+1) h h2 (by lia)
 obtain⟨ys,b',n',g1,g2,g3,⟨c3,x3,rfl,hb3⟩,g5,g6⟩:=z9a (ms:=[(Z0 (mC (.int 1)) (Z4 Z2 [(y1 0),(Z0 (mCB [(mC (.int a')),(mC (.int b'))] lstM) (y1 1) ixD)]) v1)]) (me:=(Z4 Z2 [(y1 1),(Z0 (mCB [(mC (.int a)),(mC (.int b))] lstM) (y1 2) ixD)])) (N:=(1+k).toNat) (ix:=[0,1]) (s:=⟨some (.lst l [.int c, .int x])::some (.int wide)::r,[some (.lst l [.int c, .int x])],n⟩) (l:=l) (n:=n+1) (j:=1+k) (σ0:=some (.lst l [.int c1, .int x1])::some (.int wide)::r) (tm0:=[some (.lst l [.int c1, .int x1])]) (b:=[.int c1, .int x1]) (Bg:=λb=> ∃c x,b=[.int c, .int x]/\Bg c x) (Q:=λ_ d=> ∃i:Int,d= .int i/\0<=i/\i<v) (λ_ _ _ _ h=>h)
  (by
   left
   rw[hv']
   left
   rw[e1,x9 rfl rfl rfl (by left;erw[hr]) (by left)]
   left
   erw[hr]) rfl ⟨by lia,by lia⟩ (by rw[zl];lia) ⟨c1,x1,rfl,b1⟩ (by lia) (by left;erw[hr]) (by left) (by erw[c8,l7,List.getElem?_cons_zero,List.getElem?_cons_succ,A3];left) (by
   rintro i hi b tm m ⟨c,x,rfl,hb⟩ hm hf
   obtain⟨r',c',x',hs0,hs1,h',e'⟩:=j6 l c x v (m+1) hb h0 h1
   refine⟨.int r',[.int c', .int x'],m+1,⟨c',x',rfl,h'⟩,⟨r',rfl,hs0,hs1⟩,by lia,by simp[y3], ?_⟩
   erw[c8,l7,List.getElem?_cons_zero,List.getElem?_cons_succ,A3]
   left
   rw[hv]
   left
   rw[e',x9 rfl rfl rfl (by left) hf]
   left)
 obtain⟨bs,rfl,hbs⟩:=zgL g2
 rw[zgK] at g1
 refine⟨bs,c3,x3,n',by lia,by lia,hbs,hb3,by lia, ?_⟩
 unfold drM
 rw[g6]
 left
 erw[hr]
theorem zdN(l:Nat)(c x:Int)(n:Nat)(h:Bg c x)(hn:l<n): ∃(w:Wo) (c' x':Int) (n':Nat),w.ok/\Bg c' x'/\n<=n'/\z0W [.lst l [.int c, .int x]] n= .ok w.d [.lst l [.int c', .int x']] n':=by
 obtain⟨r,c1,x1,hr0,hr1,b1,e1⟩:=j6 l c x 3 n h (by decide) (by decide)
 have hw: ∃(wide a b d e f g:Int),r/2=wide/\atI [D.int 2,D.int 40] wide=some (.int a)/\atI [D.int 2,D.int 6] wide=some (.int b)/\atI [D.int 3,D.int 1000] wide=some (.int d)/\atI [D.int 2,D.int 4] wide=some (.int e)/\atI [D.int 2,D.int 8] wide=some (.int f)/\atI [D.int 4,D.int 10000] wide=some (.int g)/\(0<a/\a<=40)/\(0<b/\b<=6)/\(0<d/\d<=1000)/\(0<e/\e<=4)/\(0<f/\f<=8)/\(0<g/\g<=10000):=by
  have:r/2=0\/r/2=1:=by lia
  rcases this with q|q
  .exact⟨0,2,2,3,2,2,4,q,at0,at0,at0,at0,at0,at0,by decide⟩
  .exact⟨1,40,6,1000,4,8,10000,q,at1,at1,at1,at1,at1,at1,by decide⟩
 obtain⟨wide,va,vb,vd,ve,vf,vg,hw,qa,qb,qd,qe,qf,qg,ha,hb,hd,he,hf,hg⟩:=hw
 obtain⟨s,c2,x2,n2,s1,s2,s3,b2,g2,e2⟩:=z9k (a:=2) (b:=40) (a':=2) (b':=6) (wide:=wide) (l:=l) (n:=n) (r:=[none,none]) b1 hn qa qb ha.1 (by lia) hb.1 (by lia) (λ_=>rfl)
 obtain⟨g,c3,x3,n3,t1,t2,t3,b3,g3,e3⟩:=z9k (a:=3) (b:=1000) (a':=2) (b':=4) (wide:=wide) (l:=l) (n:=n2+1) (r:=[some (.tup (iL s)),none]) b2 (by lia) qd qe hd.1 (by lia) he.1 (by lia) (λ_=>by erw[J3,K3,m9,B9,z97,zb4])
 obtain⟨k,c4,x4,hk0,hk1,b4,e4⟩:=j6 l c3 x3 vf (n3+1+1) b3 hf.1 (by lia)
 obtain⟨co,c5,x5,hc0,hc1,b5,e5⟩:=j6 l c4 x4 vg (n3+1+1+1) b4 hg.1 (by lia)
 refine⟨⟨s,g,k,co⟩,c5,x5,n3+1+1+1,⟨s1,by show s.length<=6;lia,λi hi=>by have:=s3 i hi;lia,t1,by show g.length<=4;lia,λi hi=>by have:=t3 i hi;lia,⟨hk0,by show k<=7;lia⟩,⟨hc0,by show co<=9999;lia⟩⟩,b5,by lia, ?_⟩
 unfold z0W
 have e0:z3L=(Y4 (Q4 (.nm 1) (Z0 (Z4 Z2 [(y1 0),(mC (.int 3))]) (mC (.int 2)) z1L))
  (Y4 (Q4 (.nm 2) (mCB [drM 2 40 2 6] zac))
  (Y4 (Q4 (.nm 3) (mCB [drM 3 1000 2 4] zac))
  (J1 (mCB [(y1 2),(y1 3),(Z4 Z2 [(y1 0),(Z0 (mCB [(mC (.int 2)),(mC (.int 8))] lstM) (y1 1) ixD)]),(Z4 Z2 [(y1 0),(Z0 (mCB [(mC (.int 4)),(mC (.int 10000))] lstM) (y1 1) ixD)])] j4))))):=rfl
 rw[e0]
 left
 rw[e1,x9 rfl rfl rfl (by left) (by left)]
 left
 rw[z6v z9H.two,hw]
 left
 rw[e2]
 left
 rw[e3]
 left
 rw[qf]
 left
 rw[e4,x9 rfl rfl rfl (by left;erw[zb4]) (by left;erw[zb4])]
 left
 erw[zb4]
 try (left)
 rw[qg]
 left
 rw[e5,x9 rfl rfl rfl (by left;erw[zb4]) (by left;erw[zb4])]
 left
 erw[zb4]
 rfl
structure Sm(E:PyData):Prop where
 a:PyData.leavesShort 64 E=true
 b:E.showable=true
 c:E.bulk<=40
 d:E.depth<=6
structure SmL(k:Nat)(xs:List PyData):Prop where
 a:PyData.leavesShortAll 64 xs=true
 b:PyData.showableAll xs=true
 c:PyData.bulkAll xs<=k*xs.length
 d:PyData.depthAll xs<=6
theorem smL{k:Nat}: ∀{es:List PyData},(∀e∈es,PyData.leavesShort 64 e=true/\e.showable=true/\e.bulk+1<=k/\e.depth<=6)->SmL k es
 |[],_=>⟨rfl,rfl,c6 _,A6 _⟩
 |e::es,h=>by
  have r:=smL (es:=es) λx hx=>h x (by simp[hx])
  obtain⟨q1,q2,q3,q4⟩:=h e (by simp)
  have r3:=r.c
  have r4:=r.d
  refine⟨?_, ?_, ?_, ?_⟩
  .erw[PyData.leavesShortAll,b9];exact⟨q1,r.a⟩
  .erw[PyData.showableAll,b9];exact⟨q2,r.b⟩
  .erw[PyData.bulkAll,i0];rw[Nat.mul_add,Nat.mul_one];lia
  .erw[PyData.depthAll];lia
theorem z51{i:Int}(h:i.natAbs<10^61):Sm (.int i):=by
 have e:(PyData.int i).shown.length<=64/\(PyData.int i).showable=true:=by
  constructor
  .erw[PyData.shown]
   have:= @PySem.int_text_length_le10 i 61 (by decide) h
   rw[PySem.ofString_length];lia
  .erw[PyData.showable,decide_eq_true_eq]
   by_cases h0:i.natAbs=0
   .rw[h0];decide
   .rw[Nat.log2_lt h0]
    exact i4 h (n9 (show 10^61<=2^203 by decide) (Nat.pow_le_pow_right (by decide) (by decide)))
 exact⟨by erw[PyData.leavesShort,decide_eq_true_eq];exact e.1,e.2,by simp[PyData.bulk],by simp[PyData.depth]⟩
theorem zdO(ds:List D):(erL ds).length=ds.length:=by
 induction ds with
 |nil=>rfl
 |cons d ds ih=>erw[erL,i0,ih]
theorem z9l(s:List Int):erL (iL s)=s.map .int:=by
 induction s with
 |nil=>rfl
 |cons i s ih=>erw[iL,c8,erL,er] at ih⊢;rw[ih]
theorem zbU{s:List Int}(h: ∀i∈s,0<=i/\i<=9999)(hl:s.length<=6):Sm (er (.tup (iL s))):=by
 rw[er,z9l]
 have q:=smL (k:=1) (es:=s.map .int) λe he=>by
  obtain⟨i,hi,rfl⟩:=m8.mp he
  have b:=h i hi
  have z:=z51 (i:=i) (A2 (show i.natAbs<=9999 by lia) (by decide))
  exact⟨z.a,z.b,by simp[PyData.bulk],z.d⟩
 have d0:PyData.depthAll (s.map .int)=0:=by
  clear h hl q
  induction s with
  |nil=>rfl
  |cons i s ih=>erw[c8,PyData.depthAll,PyData.depth,ih];rfl
 refine⟨by erw[PyData.leavesShort];exact q.a,by erw[PyData.showable];exact q.b,by erw[PyData.bulk];have:=q.c;rw[l0] at this;lia,by erw[PyData.depth,d0];lia⟩
theorem zkF{w:Wo}(h:w.ok):Sm (er w.d):=by
 have l6:=h.s6
 have l4:=h.g4
 have a:=zbU (s:=w.s) (λi hi=>by have:=h.sb i hi;lia) (by lia)
 have b:=zbU (s:=w.g) (λi hi=>by have:=h.gb i hi;lia) (by lia)
 have c:=z51 (i:=w.k) (A2 (show w.k.natAbs<=9999 by have:=h.kb;lia) (by decide))
 have d:=z51 (i:=w.c) (A2 (show w.c.natAbs<=9999 by have:=h.cb;lia) (by decide))
 have ba:(er (.tup (iL w.s))).bulk<=6:=by
  rw[er,z9l]
  have q:=smL (k:=1) (es:=w.s.map .int) λe he=>by
   obtain⟨i,hi,rfl⟩:=m8.mp he
   have b:=h.sb i hi
   have z:=z51 (i:=i) (A2 (show i.natAbs<=9999 by lia) (by decide))
   exact⟨z.a,z.b,by simp[PyData.bulk],z.d⟩
  erw[PyData.bulk];have:=q.c;rw[l0] at this;lia
 have bb:(er (.tup (iL w.g))).bulk<=4:=by
  rw[er,z9l]
  have q:=smL (k:=1) (es:=w.g.map .int) λe he=>by
   obtain⟨i,hi,rfl⟩:=m8.mp he
   have b:=h.gb i hi
   have z:=z51 (i:=i) (A2 (show i.natAbs<=9999 by lia) (by decide))
   exact⟨z.a,z.b,by simp[PyData.bulk],z.d⟩
  erw[PyData.bulk];have:=q.c;rw[l0] at this;lia
 have dp:=(z3U h).2
 rw[show er w.d= .tuple [er (.tup (iL w.s)),er (.tup (iL w.g)), .int w.k, .int w.c] from rfl] at dp⊢
 have kc:(PyData.int w.k).bulk=0:=by simp[PyData.bulk]
 have kd:(PyData.int w.c).bulk=0:=by simp[PyData.bulk]
 generalize PyData.int w.k=K at*
 generalize PyData.int w.c=C at*
 exact⟨by erw[PyData.leavesShort,PyData.leavesShortAll,a.a,b.a,c.a,d.a,N5],by erw[PyData.showable,PyData.showableAll,a.b,b.b,c.b,d.b,N5],by erw[PyData.bulk,PyData.bulkAll];lia,by lia⟩
def shW(ws:List Wo):Str:=(er (.lst 0 (Q9 (wsD ws)))).shown
theorem zbV{l:Nat}{ws:List Wo}(h:Bks ws){s:Stt}:zaI [.lst l (Q9 (wsD ws))] s= .ok (.str (shW ws)) s:=by
 obtain⟨g1,_,_,ll⟩:=z4X (l:=l) h
 have q:=smL (k:=41) (es:=erL (Q9 (wsD ws))) (z2J λd hd=>by
  obtain⟨w,hw,rfl⟩:=z0D h (z5S hd)
  have z:=zkF hw
  exact⟨z.a,z.b,by have:=z.c;lia,z.d⟩)
 have b:=PyData.shown_le_bulk 64 (by decide) (er (.lst l (Q9 (wsD ws)))) (by erw[er,PyData.leavesShort];exact q.a)
 have p1:plainL (Q9 (wsD ws))=true:=g1.1
 have hc:(plainL (Q9 (wsD ws))&&(er (.lst l (Q9 (wsD ws)))).showable&&decide ((er (.lst l (Q9 (wsD ws)))).depth<=60)&&decide ((er (.lst l (Q9 (wsD ws)))).shown.length<=sizeLine))=true:=by
  erw[b9,decide_eq_true_eq]
  refine⟨⟨⟨p1,by erw[er,PyData.showable];exact q.b⟩,by erw[er,PyData.depth];have:=q.d;lia⟩, ?_⟩
  rw[zl]
  have e:(er (.lst l (Q9 (wsD ws)))).bulk=PyData.bulkAll (erL (Q9 (wsD ws))):=by erw[er,PyData.bulk]
  have c:=q.c
  rw[zdO] at c
  rw[e] at b
  lia
 erw[zaI,if_pos hc]
 rfl
theorem zbW{N0 k:Nat}{r:List (Option D)}(h: ∀o∈r,UpO N0 o)(hk:N0<=k)(d:D):rpO (pl k d) r=r:=z3W λt ht=>W7 λz=>by
 have:=h _ ht t rfl _ z;lia
theorem z9m{N0 l m:Nat}{ws:List Wo}{q:List D}{r:List (Option D)}(h: ∀o∈r,UpO N0 o)(hl:N0<=l)(hm:N0<=m)(hq:labsL q=[]):rpO (λk=>findL k (Bk l m ws::q)) r=r:=z3W λt ht=>z5U hq (λz=>by have:=h _ ht t rfl _ z;lia) (λz=>by have:=h _ ht t rfl _ z;lia)
theorem zdP{l:Nat}{d:D}{s:Stt}(h:l∉y3 d):z7d "costs" W6 (.obj l "Book" [] []) d s= .nx (s.put l (.obj l "Book" ["costs"] [d])):=zgt ⟨by decide,by decide,h⟩
theorem zgM{l:Nat}{c:Str}{ks:List Str}{vs:List D}{d:D}:rp (pl l d) (.obj l c ks vs)=d:=by erw[rp,pl,if_true]
theorem zdQ{l:Nat}:Y2 [.obj l "Book" [] []] (l+1)= .ok .non [Bk l (l+1) []] (l+2):=by
 unfold Y2 g0
 left
 have e: ∀s:Stt,z5v s= .ok (.dct s.n [] []) s.nxt:=λ_=>rfl
 rw[e]
 left
 rw[zdP (by simp[y3,labsL])]
 left
 erw[zgM]
 rfl
theorem zdR{σ tm:List (Option D)}{n:Nat}(h1:rpO (λj=>findL j [Bk n (n+1) []]) σ=σ)(h2:rpO (λj=>findL j [Bk n (n+1) []]) tm=tm):mkK "Book" Y2 [] ⟨σ,tm,n⟩= .ok (Bk n (n+1) []) ⟨σ,tm,n+2⟩:=by
 have e:X3 (Y2 [.obj n "Book" [] []] (n+1)) [.obj n "Book" [] []] ⟨σ,some (.obj n "Book" [] [])::tm,n+1⟩= .ok .non ⟨σ,some (Bk n (n+1) [])::tm,n+2⟩:=by
  rw[zdQ,X0]
  .rw[h1,z6w,h2,rp,show findL n [Bk n (n+1) []]=some (Bk n (n+1) []) by rw[findL,Z8,if_pos rfl]]
  .intro j hj
   erw[labsL,y3,e7,l5] at hj
   subst hj
   rw[findL,Z8,if_pos rfl];rfl
  .intro q
   injection q with q _
   injection q with _ _ q _
   cases q
 unfold mkK bd
 dsimp only[Stt.nxt,Stt.psh]
 rw[e]
 rfl
mutual
def Co(T:Nat->Option D)(l:Nat):D->Prop
 | .lst k ds=>k=l\/(T k=some (.lst k ds)/\l∉labsL ds/\CoL T l ds)
 | .tup ds=>CoL T l ds
 | .ro ds=>CoL T l ds
 | .non=>True| .bool _=>True| .int _=>True| .str _=>True
 | .dct _ _ _=>False| .obj _ _ _ _=>False| .exc _=>False| .fn _=>False| .fdc _ _=>False
def CoL(T:Nat->Option D)(l:Nat):List D->Prop
 |[]=>True
 |d::ds=>Co T l d/\CoL T l ds
end
theorem z0h{T:Nat->Option D}{l:Nat}: ∀{ds:List D},CoL T l ds↔∀d∈ds,Co T l d
 |[]=>by simp[CoL]
 |d::ds=>by erw[CoL,i6,z0h (ds:=ds)]
mutual
theorem zgN{T:Nat->Option D}{l:Nat}{f:Nat->Option D}{d0:D}(h1: ∀k d,f k=some d->k≠l->T k=some d)(h2:f l=some d0): ∀t:D,Co T l t->rp f t=rp (pl l d0) t
 | .non,_=>rfl
 | .bool _,_=>rfl
 | .int _,_=>rfl
 | .str _,_=>rfl
 | .tup ds,h=>by erw[Co] at h;erw[rp,rpL_co h1 h2 ds h]
 | .ro ds,h=>by erw[Co] at h;erw[rp,rpL_co h1 h2 ds h]
 | .dct _ _ _,h=>by simp[Co] at h
 | .obj _ _ _ _,h=>by simp[Co] at h
 | .exc _,h=>by simp[Co] at h
 | .fn _,h=>by simp[Co] at h
 | .fdc _ _,h=>by simp[Co] at h
 | .lst k ds,h=>by
  erw[Co] at h
  by_cases hk:k=l
  .subst hk;rw[zbI];erw[rp,h2]
  .rcases h with h|⟨a,b,c⟩
   .exact absurd h hk
   .rw[zj9 hk]
    erw[rp]
    cases e:f k with
    |none=>simp only[];rw[rpL_co h1 h2 ds c]
    |some d=>
     have q:=h1 k d e hk
     rw[a] at q
     cases q
     rw[show rpL (pl l d0) ds=ds from rpL_id ds λj hj=>by unfold pl;rw[if_neg];rintro rfl;exact b hj]
theorem rpL_co{T:Nat->Option D}{l:Nat}{f:Nat->Option D}{d0:D}(h1: ∀k d,f k=some d->k≠l->T k=some d)(h2:f l=some d0): ∀t:List D,CoL T l t->rpL f t=rpL (pl l d0) t
 |[],_=>rfl
 |d::ds,h=>by erw[CoL] at h;erw[rpL,zgN h1 h2 d h.1,rpL_co h1 h2 ds h.2]
end
mutual
theorem zba{T:Nat->Option D}{l k:Nat}{d:D}: ∀t:D,l∉y3 t->Co T l t->Z8 k t=some d->T k=some d
 | .non,_,_,e=>by simp[Z8] at e
 | .bool _,_,_,e=>by simp[Z8] at e
 | .int _,_,_,e=>by simp[Z8] at e
 | .str _,_,_,e=>by simp[Z8] at e
 | .tup ds,hl,h,e=>by erw[Co] at h;erw[y3] at hl;erw[Z8] at e;exact findL_co ds hl h e
 | .ro ds,hl,h,e=>by erw[Co] at h;erw[y3] at hl;erw[Z8] at e;exact findL_co ds hl h e
 | .dct _ _ _,_,h,_=>by simp[Co] at h
 | .obj _ _ _ _,_,h,_=>by simp[Co] at h
 | .exc _,_,h,_=>by simp[Co] at h
 | .fn _,_,h,_=>by simp[Co] at h
 | .fdc _ _,_,h,_=>by simp[Co] at h
 | .lst j ds,hl,h,e=>by
  erw[Co] at h
  erw[y3,c9,not_or] at hl
  rcases h with h|⟨a,b,c⟩
  .exact absurd h.symm hl.1
  .erw[Z8] at e
   by_cases hj:j=k
   .subst hj;rw[if_pos rfl] at e;cases e;exact a
   .rw[if_neg hj] at e;exact findL_co ds hl.2 c e
theorem findL_co{T:Nat->Option D}{l k:Nat}{d:D}: ∀t:List D,l∉labsL t->CoL T l t->findL k t=some d->T k=some d
 |[],_,_,e=>by simp[findL] at e
 |x::xs,hl,h,e=>by
  erw[CoL] at h
  erw[labsL,c7,not_or] at hl
  erw[findL] at e
  cases q:Z8 k x with
  |some y=>rw[q] at e;cases e;exact zba x hl.1 h.1 q
  |none=>rw[q] at e;exact findL_co xs hl.2 h.2 e
end
mutual
theorem zbb{k:Nat}: ∀t:D,k∈y3 t->(∀j ks vs,t≠ .dct j ks vs)->Rs 0 t=true->(Z8 k t).isSome=true
 | .non,e,_,_=>by simp[y3] at e
 | .bool _,e,_,_=>by simp[y3] at e
 | .int _,e,_,_=>by simp[y3] at e
 | .str _,e,_,_=>by simp[y3] at e
 | .tup ds,e,_,h=>by erw[Rs,b9] at h;erw[y3] at e;erw[Z8];exact findL_in ds e h.2
 | .ro _,_,_,h=>by simp[Rs] at h
 | .dct _ _ _,_,_,h=>by simp[Rs] at h
 | .obj _ _ _ _,_,_,h=>by simp[Rs] at h
 | .exc _,_,_,h=>by simp[Rs] at h
 | .fn _,_,_,h=>by simp[Rs] at h
 | .fdc _ _,_,_,h=>by simp[Rs] at h
 | .lst j ds,e,_,h=>by
  erw[Rs,b9] at h
  erw[Z8]
  by_cases hj:j=k
  .rw[if_pos hj];rfl
  .rw[if_neg hj]
   erw[y3,c9] at e
   rcases e with e|e
   .exact absurd e.symm hj
   .exact findL_in ds e h.2.2
theorem findL_in{k:Nat}: ∀t:List D,k∈labsL t->RsL 0 t=true->(findL k t).isSome=true
 |[],e,_=>by simp[labsL] at e
 |x::xs,e,h=>by
  erw[RsL,b9] at h
  erw[labsL,c7] at e
  erw[findL]
  cases q:Z8 k x with
  |some y=>rfl
  |none=>
   rcases e with e|e
   .have:=zbb x e (λj ks vs hx=>by subst hx;simp[Rs] at h) h.1;rw[q] at this;cases this
   .exact findL_in xs e h.2
end
mutual
theorem z3f{T T':Nat->Option D}{l n:Nat}(h: ∀k,k<n->T' k=T k): ∀t:D,Up n t->Co T l t->Co T' l t
 | .non,_,_=>trivial
 | .bool _,_,_=>trivial
 | .int _,_,_=>trivial
 | .str _,_,_=>trivial
 | .tup ds,u,c=>by erw[Co] at c⊢;exact coL_ext h ds (λk hk=>u k (by erw[y3];exact hk)) c
 | .ro ds,u,c=>by erw[Co] at c⊢;exact coL_ext h ds (λk hk=>u k (by erw[y3];exact hk)) c
 | .dct _ _ _,_,c=>by simp[Co] at c
 | .obj _ _ _ _,_,c=>by simp[Co] at c
 | .exc _,_,c=>by simp[Co] at c
 | .fn _,_,c=>by simp[Co] at c
 | .fdc _ _,_,c=>by simp[Co] at c
 | .lst k ds,u,c=>by
  erw[Co] at c⊢
  rcases c with c|⟨c1,c2,c3⟩
  .exact .inl c
  .exact .inr ⟨by rw[h k (u k (by simp[y3]))];exact c1,c2,coL_ext h ds (λj hj=>u j (by erw[y3,c9];exact .inr hj)) c3⟩
theorem coL_ext{T T':Nat->Option D}{l n:Nat}(h: ∀k,k<n->T' k=T k): ∀t:List D,(∀k∈labsL t,k<n)->CoL T l t->CoL T' l t
 |[],_,_=>trivial
 |d::ds,u,c=>by
  erw[CoL] at c⊢
  exact⟨z3f h d (λk hk=>u k (by erw[labsL,c7];exact .inl hk)) c.1,coL_ext h ds (λk hk=>u k (by erw[labsL,c7];exact .inr hk)) c.2⟩
end
mutual
theorem z9n{f g:Nat->Option D}: ∀t:D,(∀l∈y3 t,f l=g l)->rp f t=rp g t
 | .non,_=>rfl
 | .bool b,_=>rfl
 | .int b,_=>rfl
 | .str b,_=>rfl
 | .exc b,_=>rfl
 | .fn b,_=>rfl
 | .tup ds,h=>by erw[rp,y3] at h⊢;rw[rpL_cong ds h]
 | .ro ds,h=>by erw[rp,y3] at h⊢;rw[rpL_cong ds h]
 | .fdc ks vs,h=>by erw[rp,y3] at h⊢;rw[rpL_cong vs h]
 | .lst l ds,h=>by
  erw[rp,y3] at h⊢
  rw[h l (e9 ..),rpL_cong ds λk hk=>h k (b7 _ hk)]
 | .dct l ks vs,h=>by
  erw[rp,y3] at h⊢
  rw[h l (e9 ..),rpL_cong vs λk hk=>h k (b7 _ (b6 _ hk))]
 | .obj l c ns vs,h=>by
  erw[rp,y3] at h⊢
  rw[h l (e9 ..),rpL_cong vs λk hk=>h k (b7 _ hk)]
theorem rpL_cong{f g:Nat->Option D}: ∀t:List D,(∀l∈labsL t,f l=g l)->rpL f t=rpL g t
 |[],_=>rfl
 |d::ds,h=>by
  erw[rpL,labsL] at h⊢
  rw[z9n d λl hk=>h l (b8 _ hk),rpL_cong ds λl hk=>h l (b6 _ hk)]
end
def CoF(T:Nat->Option D)(l lo:Nat):List (Option D)->Prop
 |[]=>True
 |none::r=>CoF T l lo r
 |some d::r=>(Co T l d\/Up lo d)/\CoF T l lo r
theorem z6F{T:Nat->Option D}{l lo:Nat}{f:Nat->Option D}{d0:D}(h1: ∀k d,f k=some d->k≠l->T k=some d)(h2:f l=some d0)(h3: ∀k,k<lo->k≠l->f k=none): ∀t:List (Option D),CoF T l lo t->rpO f t=rpO (pl l d0) t
 |[],_=>rfl
 |none::r,h=>by erw[CoF] at h;erw[rpO,z6F h1 h2 h3 r h]
 |some d::r,h=>by
  erw[CoF] at h
  have e:rp f d=rp (pl l d0) d:=by
   rcases h.1 with h|h
   .exact zgN h1 h2 d h
   .refine z9n d λj hj=> ?_
    by_cases q:j=l
    .subst q;rw[h2];simp[pl]
    .rw[h3 j (h j hj) q];simp[pl,q]
  erw[rpO,e,z6F h1 h2 h3 r h.2]
theorem z1y{T:Nat->Option D}{t:D}{l lo n' n:Nat}{b b' r:List D}{σ tm:List (Option D)}{σ1 tm1:D->List (Option D)}(hb:labsL b=[])(hb':labsL b'=[])(hr:CoL T l r)(hll:l<lo)(hk: ∀k∈labsL r,lo<=k)(hR:RsL 0 r=true)(c1:CoF T l lo σ)(c2:CoF T l lo tm)(f1: ∀q,rpO (pl l q) σ=σ1 q)(f2: ∀q,rpO (pl l q) tm=tm1 q)(g1:σ1 (.lst l b)=σ:=by rfl)(g2:tm1 (.lst l b)=tm:=by rfl):
 X3 (.ok t (.lst l b'::r) n') (.lst l b::r) ⟨σ,tm,n⟩= .ok t ⟨σ1 (.lst l b'),tm1 (.lst l b'),n'⟩:=by
 have hl:l∉labsL r:=λh=>absurd (hk l h) (by lia)
 have e1:findL l (.lst l b'::r)=some (.lst l b'):=by erw[findL,Z8,if_true]
 have e2: ∀k d,findL k (.lst l b'::r)=some d->k≠l->T k=some d:=λk d e hk=>by
  erw[findL,Z8] at e
  rw[if_neg (λq=>hk q.symm),findL_none b' (by rw[hb'];exact i7)] at e
  exact findL_co r hl hr e
 have e3: ∀k,k<lo->k≠l->findL k (.lst l b'::r)=none:=λk hkl hne=>findL_none _ λh=>by
  erw[labsL,y3,hb',c7,c9,i7,or_false] at h
  rcases h with h|h
  .exact hne h
  .have:=hk k h;lia
 rw[<-f1,<-f2]
 unfold X3
 by_cases h:(D.lst l b'::r)=(D.lst l b::r)
 .have hh:b'=b:=by injection h with h _;injection h
  subst hh
  erw[if_true]
  rw[f1,f2,g1,g2]
 .erw[if_neg h]
  rw[if_pos,z6F e2 e1 e3 σ c1,z6F e2 e1 e3 tm c2]
  intro k _ hk
  by_cases hkl:k=l
  .subst hkl;rw[e1];rfl
  .erw[labsL,y3,hb,c7,c9,i7,or_false] at hk
   rcases hk with hk|hk
   .exact absurd hk hkl
   .have:=findL_in r hk hR
    erw[findL,Z8]
    rw[if_neg (λq=>hkl q.symm),findL_none b' (by rw[hb'];exact i7)]
    exact this
mutual
def Sw(lo W:Nat):D->Bool
 | .non=>true| .bool _=>true| .int _=>true| .str x=>PyData.strOk x
 | .tup ds=>decide (ds.length<=W)&&SwL lo W ds
 | .lst l ds=>decide (lo<=l)&&(decide (ds.length<=W)&&SwL lo W ds)
 | .ro _=>false| .dct _ _ _=>false| .obj _ _ _ _=>false| .exc _=>false| .fn _=>false| .fdc _ _=>false
def SwL(lo W:Nat):List D->Bool
 |[]=>true
 |d::ds=>Sw lo W d&&SwL lo W ds
end
theorem z1z{lo W:Nat}: ∀{ds:List D},SwL lo W ds=true↔∀d∈ds,Sw lo W d=true
 |[]=>by simp[SwL]
 |d::ds=>by erw[SwL,b9,i6,z1z (ds:=ds)]
mutual
theorem z5V{lo W:Nat}(hW:W<=2000): ∀t:D,Sw lo W t=true->Rs lo t=true
 | .non,_=>rfl
 | .bool _,_=>rfl
 | .int _,_=>rfl
 | .str x,h=>by erw[Sw] at h;erw[Rs];exact h
 | .tup ds,h=>by erw[Sw,b9,decide_eq_true_eq] at h;erw[Rs,b9,decide_eq_true_eq];exact⟨n9 h.1 hW,SwL_rs hW ds h.2⟩
 | .lst l ds,h=>by erw[Sw,b9,decide_eq_true_eq] at h;erw[Rs,b9,decide_eq_true_eq];exact⟨h.1,n9 h.2.1 hW,SwL_rs hW ds h.2.2⟩
 | .ro _,h=>by simp[Sw] at h
 | .dct _ _ _,h=>by simp[Sw] at h
 | .obj _ _ _ _,h=>by simp[Sw] at h
 | .exc _,h=>by simp[Sw] at h
 | .fn _,h=>by simp[Sw] at h
 | .fdc _ _,h=>by simp[Sw] at h
theorem SwL_rs{lo W:Nat}(hW:W<=2000): ∀t:List D,SwL lo W t=true->RsL lo t=true
 |[],_=>rfl
 |d::ds,h=>by erw[SwL,b9] at h;erw[RsL,b9];exact⟨z5V hW d h.1,SwL_rs hW ds h.2⟩
end
mutual
theorem z1A{lo lo' W W':Nat}(h1:lo'<=lo)(h2:W<=W'): ∀t:D,Sw lo W t=true->Sw lo' W' t=true
 | .non,_=>rfl
 | .bool _,_=>rfl
 | .int _,_=>rfl
 | .str x,h=>by erw[Sw] at h⊢;exact h
 | .tup ds,h=>by erw[Sw,b9,decide_eq_true_eq] at h⊢;exact⟨n9 h.1 h2,SwL_mono h1 h2 ds h.2⟩
 | .lst l ds,h=>by erw[Sw,b9,decide_eq_true_eq] at h⊢;exact⟨n9 h1 h.1,n9 h.2.1 h2,SwL_mono h1 h2 ds h.2.2⟩
 | .ro _,h=>by simp[Sw] at h
 | .dct _ _ _,h=>by simp[Sw] at h
 | .obj _ _ _ _,h=>by simp[Sw] at h
 | .exc _,h=>by simp[Sw] at h
 | .fn _,h=>by simp[Sw] at h
 | .fdc _ _,h=>by simp[Sw] at h
theorem SwL_mono{lo lo' W W':Nat}(h1:lo'<=lo)(h2:W<=W'): ∀t:List D,SwL lo W t=true->SwL lo' W' t=true
 |[],_=>rfl
 |d::ds,h=>by erw[SwL,b9] at h⊢;exact⟨z1A h1 h2 d h.1,SwL_mono h1 h2 ds h.2⟩
end
theorem zjM{lo W:Nat}{s:List Int}(h:s.length<=W):Sw lo W (.tup (iL s))=true:=by
 erw[Sw,b9,decide_eq_true_eq]
 refine⟨by simpa[iL] using h,z1z.mpr λd hd=> ?_⟩
 obtain⟨i,_,rfl⟩:=m8.mp hd
 rfl
theorem zkG{lo:Nat}{w:Wo}(h:w.ok):Sw lo 7 w.d=true:=by
 have:=h.s6
 have:=h.g4
 rw[show w.d= .tup [.tup (iL w.s), .tup (iL w.g), .int w.k, .int w.c] from rfl,Sw]
 erw[SwL]
 rw[zjM (lo:=lo) (W:=7) (s:=w.s) (by lia),zjM (lo:=lo) (W:=7) (s:=w.g) (by lia)]
 rfl
structure Wq(T:Nat->Option D)(l lo n W K:Nat)(t:D):Prop where
 sw:Sw lo W t=true
 dp:(er t).depth<=K
 up:Up n t
 co:Co T l t
mutual
theorem coN{T:Nat->Option D}{l:Nat}: ∀t:D,y3 t=[]->Rs 0 t=true->Co T l t
 | .non,_,_=>trivial
 | .bool _,_,_=>trivial
 | .int _,_,_=>trivial
 | .str _,_,_=>trivial
 | .tup ds,h,r=>by erw[y3] at h;erw[Rs,b9] at r;erw[Co];exact coNL ds h r.2
 | .lst _ _,h,_=>by simp[y3] at h
 | .ro _,_,r=>by simp[Rs] at r
 | .dct _ _ _,_,r=>by simp[Rs] at r
 | .obj _ _ _ _,_,r=>by simp[Rs] at r
 | .exc _,_,r=>by simp[Rs] at r
 | .fn _,_,r=>by simp[Rs] at r
 | .fdc _ _,_,r=>by simp[Rs] at r
theorem coNL{T:Nat->Option D}{l:Nat}: ∀t:List D,labsL t=[]->RsL 0 t=true->CoL T l t
 |[],_,_=>trivial
 |d::ds,h,r=>by
  erw[labsL,B2] at h
  erw[RsL,b9] at r
  erw[CoL]
  exact⟨coN d h.1 r.1,coNL ds h.2 r.2⟩
end
theorem zkH{T:Nat->Option D}{l lo n:Nat}{w:Wo}(h:w.ok):Wq T l lo n 7 2 w.d:=⟨zkG h,(z3U h).2,(λj hj=>by rw[z1c] at hj;cases hj),coN _ z1c (z5N _ (z3U h).1)⟩
theorem okW:PyData.strOk ("word" :Str)=true:=by decide+kernel
def zgO(n:Nat):List D:=[D.non, .bool true, .int (-1), .int 40, .int 39, .int 1000, .int 999, .int 8, .int 10000, .str ("1" :Str), .tup [], .lst n [], .tup [.int 0], .lst (n+1) [.int 0], .tup (e8 5 (.int 0)), .tup (e8 7 (.int 0)), .int (10^Int.toNat 59), .bool false]
def zdS(n:Nat):List D:=zgO n++[.tup [.tup [.int 0], .tup [.int 0], .int 0, .int 0], .str ("word" :Str)]
def z9z(T:Nat->Option D)(n:Nat):Nat->Option D:=λk=>if k=n then some (.lst n []) else if k=n+1 then some (.lst (n+1) [.int 0]) else T k
theorem zdT(T:Nat->Option D)(l n:Nat)(hl:l<n): ∀d∈zdS n,Wq (z9z T n) l n (n+5) 7 2 d/\∀j∈y3 d,n<=j:=by
 have t0:z9z T n n=some (.lst n []):=by simp[z9z]
 have t1:z9z T n (n+1)=some (.lst (n+1) [.int 0]):=by simp[z9z]
 have k: ∀d∈zdS n,((Sw n 7 d=true/\(er d).depth<=2)/\(Up (n+5) d/\Co (z9z T n) l d))/\∀j∈y3 d,n<=j:=by
  unfold zdS zgO
  erw[l9,m5,i6]
  erw[Up,y3,labsL,Sw,SwL,er,erL,PyData.depth,PyData.depthAll,Co,CoL,n8,i0,t0,t1,ok1,okW,e8]
  simp
 intro d hd
 obtain⟨⟨⟨a,b⟩,c,e⟩,f⟩:=k d hd
 exact⟨⟨a,b,c,e⟩,f⟩
theorem zbX{a:List D}{k:Int}{s:Stt}(h:0<a.length/\2<=k/\k<2^63/\a.length*k.toNat<=sizeLine):z3q (.tup a) (.int k) s= .ok (.tup (O2 (e8 k.toNat a))) s:=by erw[z3q,if_pos h];rfl
def odM:MS:=(Y4 (Q4 (.nm 3) (mCB [(mC .non),(mC (.bool true)),(bd (mC (.int 1)) zbq),(mC (.int 40)),(mC (.int 39)),(mC (.int 1000)),(mC (.int 999)),(mC (.int 8)),(mC (.int 10000)),(mC (.str ("1" :Str))),(mCB [] j4),(mCB [] lstM),(mCB [(mC (.int 0))] j4),(mCB [(mC (.int 0))] lstM),(Z0 (mCB [(mC (.int 0))] j4) (mC (.int 5)) z3q),(Z0 (mCB [(mC (.int 0))] j4) (mC (.int 7)) z3q),(Z0 (mC (.int 10)) (mC (.int 59)) z8j),(mC (.bool false))] lstM))
 (J1 (Z0 (Z0 (y1 3) (mCB [(mCB [(mCB [(mC (.int 0))] j4),(mCB [(mC (.int 0))] j4),(mC (.int 0)),(mC (.int 0))] j4),(mC (.str ("word" :Str)))] lstM) v1) (y1 2) ixD)))
theorem zgP{b t o:D}{r:Int}{n:Nat}{tm:List (Option D)}(ed:atI (zdS n) r=some o):odM ⟨[some b,some t,some (.int r),none],tm,n⟩= .rt o ⟨[some b,some t,some (.int r),some (.lst (n+2) (zgO n))],tm,n+5⟩:=by
 unfold odM
 left
 rw[zbX (a:=[.int 0]) ⟨by decide,by decide,by decide,by rw[zl];decide⟩]
 left
 rw[zbX (a:=[.int 0]) ⟨by decide,by decide,by decide,by rw[zl];decide⟩]
 left
 rw[zaZ ⟨by decide,by decide,by decide⟩]
 left
 rw[z4R (by rw[zl];simp)]
 left
 rw[z4Q (by rw[zl];simp)]
 left
 show Res.lf (λd s1=>RS.rt d s1) (zcK (atI (zdS n) r) ⟨[some b,some t,some (.int r),some (.lst (n+2) (zgO n))],tm,n+5⟩)=_
 rw[ed]
 rfl
theorem zgQ(T:Nat->Option D)(l:Nat)(c x:Int)(n:Nat)(t:D)(hb:Bg c x)(hn:l<n)(ht:Rs 0 t=true)(hl:l∉y3 t): ∃o c' x' T' n',Wq T' l n n' 7 2 o/\(∀j∈y3 o,n<=j)/\(∀j,j<n->T' j=T j)/\n<=n'/\Bg c' x'/\z2B [.lst l [.int c, .int x],t] n= .ok o [.lst l [.int c', .int x'],t] n':=by
 obtain⟨r,c1,x1,hr0,hr1,b1,e1⟩:=j6 l c x 20 n hb (by decide) (by decide)
 have gt:=z7p (n:=0) t ht
 have rt1: ∀d,rp (pl l d) t=t:=λd=>W7 hl
 obtain⟨o,hd,ed⟩:=zgA (ds:=zdS n) hr0 (by simp[zdS,zgO];lia)
 have wo:=zdT T l n hn o hd
 have hT: ∀j,j<n->z9z T n j=T j:=λj hj=>by unfold z9z;rw[if_neg (by lia),if_neg (by lia)]
 have erun:=λtm=>zgP (b:= .lst l [.int c1, .int x1]) (t:=t) (o:=o) (r:=r) (n:=n) (tm:=tm) ed
 unfold z2B
 have e0:z5J=(Y4 (Q4 (.nm 2) (Z4 Z2 [(y1 0),(mC (.int 20))]))
  (Y4 (sIf (z8l (G1 (Z4 J2 [(y1 1)])) (W8 (Z0 (y1 2) (mC (.int 9)) gtD))) (J1 (Z0 (mCB [(Z0 (y1 1) (mC (.int 1)) v1),(Z0 (y1 1) (mC (.int 1)) za8)] lstM) (Z0 (y1 2) (mC (.int 2)) z2c) ixD)) sNx) odM)):=rfl
 rw[e0]
 left
 rw[e1,W5 rfl rfl rfl (λq=>by left;erw[rt1];rfl) (λq=>by left;erw[rt1];rfl)]
 left
 rw[z1T t n gt.1]
 cases hi:isInt t with
 |false=>
  refine⟨o,c1,x1,z9z T n,n+5,wo.1,wo.2,hT,by lia,b1, ?_⟩
  left
  rw[erun]
  left
 |true=>
  cases t<;>erw[isInt,i8] at hi
  rename_i i
  left
  by_cases h9:r>9
  .rw[show decide (r>9)=true by simpa using h9]
   left
   have hv: ∃v:Int,atI [D.int (i+1),D.int (i - 1)] (r %2)=some (.int v):=by
    have:r %2=0\/r %2=1:=by lia
    rcases this with q|q<;>rw[q]
    .exact⟨_,at0⟩
    .exact⟨_,at1⟩
   obtain⟨v,ev⟩:=hv
   try rw[z1P (by decide)]
   try (left)
   rw[ev]
   left
   exact⟨.int v,c1,x1,T,n+1,⟨rfl,by simp[er,PyData.depth],by simp[Up,y3],trivial⟩,by simp[y3],λ_ _=>rfl,by lia,b1,rfl⟩
  .rw[show decide (r>9)=false by simpa using h9]
   refine⟨o,c1,x1,z9z T n,n+5,wo.1,wo.2,hT,by lia,b1, ?_⟩
   left
   rw[erun]
   left
theorem z9o{ws:List D}{l:Nat}:z7y ws none (some (l:Int))=ws.take l:=by
 unfold z7y
 rw[HT.sIx_nat,HT.sIx_none,F9,Nat.sub_zero]
 rcases Nat.le_total l ws.length with h|h
 .rw[P2 h]
 .rw[Nat.min_eq_right h,C3 h,C3 (c6 _)]
theorem z9p{ws:List D}{l:Nat}(h:l<=ws.length):z7y ws (some (l:Int)) none=ws.drop l:=by
 unfold z7y
 rw[HT.sIx_nat,HT.sIx_none,P2 h,C3 (by simp)]
theorem zdU{ws:List D}{l:Nat}(h:l<ws.length):z7y ws (some ((l:Int)+1)) none=ws.drop (l+1):=by
 rw[show((l:Int)+1)=((l+1:Nat):Int) by lia,z9p (by lia)]
theorem zji{l n:Nat}{ds:List D}{σ tm:List (Option D)}:zhd (.lst l ds) ⟨σ,tm,n⟩= .ok (.lst n ds.reverse) ⟨σ,tm,n+1⟩:=(rfl)
def z9q:D->Option (List D)
 | .tup ds=>some ds
 | .lst _ ds=>some ds
 |_=>none
theorem z1d{k:Nat}: ∀{ds:List D},PyData.depthAll (erL ds)<=k↔∀d∈ds,(er d).depth<=k
 |[]=>by simp[erL,PyData.depthAll]
 |d::ds=>by
  erw[erL,PyData.depthAll,i6,<-z1d (ds:=ds)]
  lia
structure Prt(T:Nat->Option D)(l lo n W K:Nat)(t:D)(ds:List D):Prop where
 is:isiAny ["list", "tuple"] t=some true
 ln: ∀s:Stt,z2S [t] s= .ok (.int ds.length) s
 li: ∀s:Stt,z74 [t] s= .ok (.lst s.n ds) s.nxt
 hl:ds.length<=W
 sw: ∀d∈ds,Sw lo W d=true
 dp: ∀d∈ds,(er d).depth+1<=K
 up: ∀d∈ds,Up n d
 co:CoL T l ds
 sb: ∀j∈labsL ds,j∈y3 t
theorem Wq.prt{T:Nat->Option D}{l lo n W K:Nat}{t:D}{ds:List D}(h:Wq T l lo n W K t)(hl:l<lo)(hs:z9q t=some ds):Prt T l lo n W K t ds:=by
 cases t<;>erw[z9q,Option.some.injEq,reduceCtorEq] at hs
 .subst hs
  rename_i ds
  have s:=h.sw
  erw[Sw,b9,decide_eq_true_eq] at s
  have d:=h.dp
  erw[er,PyData.depth] at d
  have c:=h.co
  erw[Co] at c
  exact⟨rfl,λ_=>rfl,λ_=>rfl,s.1,z1z.mp s.2,λe he=>by have:=z1d.mp (c6 _) e he;lia,λe he k hk=>h.up k (by erw[y3];exact z0p he hk),c,λj hj=>by erw[y3];exact hj⟩
 .rename_i k _
  subst hs
  rename_i ds
  have s:=h.sw
  erw[Sw,b9,decide_eq_true_eq] at s
  have d:=h.dp
  erw[er,PyData.depth] at d
  have c:=h.co
  erw[Co] at c
  have c:CoL T l ds:=by
   rcases c with c|c
   .lia
   .exact c.2.2
  exact⟨rfl,λ_=>rfl,λ_=>rfl,s.2.1,z1z.mp s.2.2,λe he=>by have:=z1d.mp (c6 _) e he;lia,λe he k hk=>h.up k (by erw[y3,c9];exact .inr (z0p he hk)),c,λj hj=>by erw[y3,c9];exact .inr hj⟩
theorem Wq.no{T:Nat->Option D}{l lo n W K:Nat}{t:D}(h:Wq T l lo n W K t)(hs:z9q t=none):isiAny ["list", "tuple"] t=some false:=by
 have s:=h.sw
 cases t<;>erw[z9q,reduceCtorEq] at hs<;>first|rfl|(simp[Sw] at s;done)
theorem zbY{T:Nat->Option D}{l lo n W K:Nat}{es:List D}(hl:es.length<=W)(h: ∀e∈es,Sw lo W e=true/\(er e).depth<=K/\Up n e/\Co T l e):Wq T l lo n W (K+1) (.tup es):=by
 refine⟨?_, ?_,λk hk=> ?_, ?_⟩
 .erw[Sw,b9,decide_eq_true_eq];exact⟨hl,z1z.mpr λd hd=>(h d hd).1⟩
 .erw[er,PyData.depth];have:=z1d.mpr λd hd=>(h d hd).2.1;lia
 .erw[y3] at hk
  obtain⟨e,he,hj⟩:=labsL_mem hk
  exact(h e he).2.2.1 k hj
 .erw[Co];exact z0h.mpr λd hd=>(h d hd).2.2.2
theorem z9r{n n':Nat}{t:D}(h:Up n t)(hn:n<=n'):Up n' t:=λk hk=>i4 (h k hk) hn
def zjj(T:Nat->Option D)(l lo n W K:Nat)(t:D)(f:FM):Prop:= ∀(c x:Int),Bg c x->∃t' c' x' n' T',Wq T' l lo n' (W+1) (K+2) t'/\(∀j∈y3 t',j∈y3 t\/n<=j)/\(∀j,j<n->T' j=T j)/\n<=n'/\Bg c' x'/\f [.lst l [.int c, .int x],t] n= .ok t' [.lst l [.int c', .int x'],t] n'
theorem z2L(self:FM)(T:Nat->Option D)(l lo n W K:Nat)(t:D)(hw:Wq T l lo n W K t)(hl:l<lo)(hlo:lo<=n)(h7:7<=W)(hW:W<=1000)
 (hself: ∀d (T:Nat->Option D) (n K':Nat),K=K'+1->lo<=n->Wq T l lo n W K' d->zjj T l lo n W K' d self):zjj T l lo n W K t (z0t 5 (z0n self)):=by
 intro c x hb
 have rs:Rs lo t=true:=z5V (by lia) t hw.sw
 have rs0:Rs 0 t=true:=z5V (by lia) t (z1A (A6 _) (c6 _) t hw.sw)
 have lt:l∉y3 t:=z1U rs hl
 have rt1: ∀d,rp (pl l d) t=t:=λd=>W7 lt
 have lg: ∀j∈y3 t,lo<=j:=λj hj=>E4 λz=>z1U rs z hj
 obtain⟨r,c1,x1,hr0,hr1,b1,e1⟩:=j6 l c x 9 n hb (by decide) (by decide)
 obtain⟨o,c2,x2,T2,n2,wo,lo2,hT2,hn2,b2,e2⟩:=zgQ T l c1 x1 n t b1 (by lia) rs0 lt
 have fin: ∃t' c' x' n' T',Wq T' l lo n' (W+1) (K+2) t'/\(∀j∈y3 t',j∈y3 t\/n<=j)/\(∀j,j<n->T' j=T j)/\n<=n'/\Bg c' x'/\RF.ok o [.lst l [.int c2, .int x2],t] n2= .ok t' [.lst l [.int c', .int x'],t] n':=
  ⟨o,c2,x2,n2,T2,⟨z1A hlo (by lia) o wo.sw,by have:=wo.dp;lia,wo.up,wo.co⟩,λj hj=> .inr (lo2 j hj),hT2,hn2,b2,rfl⟩
 have ec: ∀a3 a4:Option D,a3=none->a4=none->X3 (z2B [.lst l [.int c1, .int x1],t] n) [.lst l [.int c1, .int x1],t] ⟨[some (.lst l [.int c1, .int x1]),some t,some (.int r),a3,a4],[some (.lst l [.int c1, .int x1]),some t],n⟩= .ok o ⟨[some (.lst l [.int c2, .int x2]),some t,some (.int r),none,none],[some (.lst l [.int c2, .int x2]),some t],n2⟩:=by
  rintro _ _ rfl rfl
  rw[e2,z1y (T:=T) (lo:=lo) rfl rfl (by exact⟨hw.co,trivial⟩) hl (by erw[labsL,e7];exact lg) (by erw[RsL,C8];exact rs0) (by exact⟨.inl (by erw[Co,true_or]), .inl hw.co, .inl trivial,trivial⟩) (by exact⟨.inl (by erw[Co,true_or]), .inl hw.co,trivial⟩) (λq=>by left;erw[rt1];rfl) (λq=>by left;erw[rt1];rfl)]
 unfold z0n
 left
 rw[e1,W5 rfl rfl rfl (λq=>by left;erw[rt1];rfl) (λq=>by left;erw[rt1];rfl)]
 left
 cases hs:z9q t with
 |none=>
  rw[hw.no hs]
  left
  rw[ec none none rfl rfl]
  left
  exact fin
 |some ds=>
  have P:=hw.prt hl hs
  rw[P.is]
  left
  rw[P.ln]
  left
  by_cases h0:ds.length=0
  .rw[show((ds.length:Int)==0)=true by simp[h0]]
   left
   rw[ec none none rfl rfl]
   left
   exact fin
  rw[show((ds.length:Int)==0)=false by erw[beq_eq_false_iff_ne];lia]
  left
  cases w0:(r==0) with
  |true=>
   left
   rw[ec none none rfl rfl]
   left
   exact fin
  |false=>
  left
  rw[P.ln]
  left
  obtain⟨a,c3,x3,a0,a1,b3,e3⟩:=j6 l c1 x1 ds.length n b1 (by lia) (by have:=P.hl;lia)
  rw[e3,W5 rfl rfl rfl (λq=>by left;erw[rt1];rfl) (λq=>by left;erw[rt1];rfl)]
  left
  rw[P.li]
  left
  obtain⟨q,rfl⟩:=M8 a0
  have hq:q<ds.length:=by lia
  have hlen:=P.hl
  have edr:atI ds (q:Int)=some ds[q]:=z1E (by lia) (by simp[hq])
  have hdr:ds[q]∈ds:=B4 hq
  have hK:1<=K:=by have:=P.dp _ hdr;lia
  have old: ∀(T':Nat->Option D) (n':Nat),(∀j,j<n->T' j=T j)->n<=n'->∀e∈ds,Sw lo (W+1) e=true/\(er e).depth<=K+1/\Up n' e/\Co T' l e:=λT' n' h1 h2 e he=>
   ⟨z1A (c6 _) (by lia) e (P.sw e he),by have:=P.dp e he;lia,z9r (P.up e he) h2,z3f h1 e (P.up e he) (z0h.mp P.co e he)⟩
  have done: ∀(es:List D) (n':Nat),n<=n'->es.length<=W+1->(∀e∈es,e∈ds)->∃t' c' x' m' T',Wq T' l lo m' (W+1) (K+2) t'/\(∀j∈y3 t',j∈y3 t\/n<=j)/\(∀j,j<n->T' j=T j)/\n<=m'/\Bg c' x'/\RF.ok (.tup es) [.lst l [.int c3, .int x3],t] n'= .ok t' [.lst l [.int c', .int x'],t] m':=λes n' hn' h1 h2=>
   ⟨.tup es,c3,x3,n',T,zbY h1 λe he=>old T n' (λ_ _=>rfl) hn' e (h2 e he),λj hj=>by
    erw[y3] at hj
    obtain⟨e,he,hj⟩:=labsL_mem hj
    exact .inl (P.sb j (z0p (h2 e he) hj)),λ_ _=>rfl,hn',b3,rfl⟩
  cases w1:(r==1) with
  |true=>
   left
   rw[z9o,zdU hq,z4Q (by rw[zl];erw[A7,C2];lia)]
   left
   refine done _ _ (by lia) (by erw[l3,A7,C2];lia) λe he=> ?_
   rcases c7.mp he with he|he
   .exact E9 he
   .exact E8 he
  |false=>
  left
  cases w2:(r==2) with
  |true=>
   left
   rw[z9o,edr]
   left
   rw[z4Q (by rw[zl];erw[A7,i0,n8];lia)]
   left
   rw[z9p (by lia),z4Q (by rw[zl];erw[l3,A7,C2,i0,n8];lia)]
   left
   refine done _ _ (by lia) (by erw[l3,A7,C2,i0,n8];lia) λe he=> ?_
   rcases c7.mp he with he|he
   .rcases c7.mp he with he|he
    .exact E9 he
    .rw[l5.mp he];exact hdr
   .exact E8 he
  |false=>
  left
  cases w3:(r==3) with
  |true=>
   left
   rw[zji]
   left
   exact done _ _ (by lia) (by rw[D3];lia) λe he=>List.mem_reverse.mp he
  |false=>
  left
  cases w4:(r==4) with
  |true=>
   left
   rw[P.li]
   left
   have hT: ∀j,j<n->(λk=>if k=n+1 then some (D.lst (n+1) ds) else T k) j=T j:=λj hj=>if_neg (by lia)
   refine⟨.lst (n+1) ds,c3,x3,n+1+1,λk=>if k=n+1 then some (.lst (n+1) ds) else T k,⟨?_, ?_,λk hk=> ?_, ?_⟩,λj hj=> ?_,hT,by lia,b3,rfl⟩
   .erw[Sw,b9,decide_eq_true_eq];exact⟨by lia,by lia,z1z.mpr λd hd=>(old T n (λ_ _=>rfl) (c6 _) d hd).1⟩
   .erw[er,PyData.depth];have:=z1d.mpr λd hd=>(old T n (λ_ _=>rfl) (c6 _) d hd).2.1;lia
   .erw[y3,c9] at hk
    rcases hk with rfl|hk
    .lia
    .obtain⟨e,he,hj⟩:=labsL_mem hk
     have:=P.up e he k hj
     lia
   .erw[Co]
    exact .inr ⟨by simp,λh=>lt (P.sb l h),z0h.mpr λd hd=>z3f hT d (P.up d hd) (z0h.mp P.co d hd)⟩
   .erw[y3,c9] at hj
    rcases hj with rfl|hj
    .exact .inr (by lia)
    .exact .inl (P.sb j hj)
  |false=>
  left
  rw[edr]
  have pd:=P.dp _ hdr
  have wd: ∀(T':Nat->Option D) (n':Nat),(∀j,j<n->T' j=T j)->n<=n'->Wq T' l lo n' W (K - 1) ds[q]:=λT' n' h1 h2=>⟨P.sw _ hdr,by lia,z9r (P.up _ hdr) h2,z3f h1 _ (P.up _ hdr) (z0h.mp P.co _ hdr)⟩
  have ud:=P.up _ hdr
  have sd:=λ(j:Nat) (hj:j∈y3 ds[q])=>z0p hdr hj
  generalize hdd:ds[q]=d at wd ud sd
  left
  have hT1: ∀j,j<n->(λk=>if k=n then some (D.lst n ds) else T k) j=T j:=λj hj=>if_neg (by lia)
  have t1n:(λk=>if k=n then some (D.lst n ds) else T k) n=some (D.lst n ds):=if_pos rfl
  generalize (λk=>if k=n then some (D.lst n ds) else T k)=T1 at hT1 t1n
  obtain⟨v,c4,x4,n4,T4,wv,nv,hT4,hn4,b4,e4⟩:=hself d T1 (n+1) (K - 1) (by lia) (by lia) (wd T1 (n+1) hT1 (by lia)) c3 x3 b3
  have lds:l∉labsL ds:=λh=>lt (P.sb l h)
  have rsd:Rs 0 d=true:=z5V (by lia) d (z1A (A6 _) (c6 _) d (wd T n (λ_ _=>rfl) (c6 _)).sw)
  have rL1: ∀d,rp (pl l d) (.lst n ds)= .lst n ds:=λd=>W7 (by erw[y3,c9,not_or];exact⟨by lia,lds⟩)
  have cod:Co T1 l d:=(wd T1 (n+1) hT1 (by lia)).co
  have cot:Co T1 l t:=z3f hT1 t hw.up hw.co
  have cop:Co T1 l (.lst n ds):=by
   erw[Co]
   exact .inr ⟨t1n,lds,z0h.mpr λe he=>z3f hT1 e (P.up e he) (z0h.mp P.co e he)⟩
  rw[e4,z1y (T:=T1) (lo:=lo) rfl rfl (by exact⟨cod,trivial⟩) hl (by erw[labsL,e7];exact λj hj=>lg j (P.sb j (sd j hj))) (by erw[RsL,C8];exact rsd) (by exact⟨.inl (by erw[Co,true_or]), .inl cot, .inl trivial, .inl trivial, .inl cop,trivial⟩) (by exact⟨.inl (by erw[Co,true_or]), .inl cot,trivial⟩)
   (λq=>by left;erw[rt1,rL1];rfl) (λq=>by left;erw[rt1];rfl)]
  left
  have nvn:n∉y3 v:=λh=>by
   rcases nv n h with h|h
   .exact absurd (ud n h) (by lia)
   .lia
  have ixq:ixN ds.length (q:Int)=some q:=by unfold ixN;simp;lia
  rw[zdu ixq nvn]
  left
  have zt: ∀d,rp (pl n d) t=t:=λd=>W7 λh=>absurd (hw.up n h) (by lia)
  have zb: ∀d (u v:Int),rp (pl n d) (.lst l [.int u, .int v])= .lst l [.int u, .int v]:=λd u v=>W7 (by simp[y3,labsL];lia)
  have zp: ∀d,rp (pl n d) (.lst n ds)=d:=λd=>by erw[rp,pl,if_true]
  erw[zt,zb,zp]
  try (left)
  refine⟨.tup (ds.set q v),c4,x4,n4,T4,zbY (by rw[O9];lia) λe he=> ?_,λj hj=> ?_,λj hj=>by rw[hT4 j (by lia),hT1 j hj],by lia,b4,rfl⟩
  .rcases D2 he with he|rfl
   .exact old T4 n4 (λj hj=>by rw[hT4 j (by lia),hT1 j hj]) (by lia) e he
   .exact⟨wv.sw,by have:=wv.dp;lia,wv.up,wv.co⟩
  .erw[y3] at hj
   obtain⟨e,he,hk⟩:=labsL_mem hj
   rcases D2 he with he|he
   .exact .inl (P.sb j (z0p he hk))
   .rw[he] at hk
    rcases nv j hk with h|h
    .exact .inl (P.sb j (sd j h))
    .exact .inr (by lia)
theorem z52(l lo W:Nat)(hl:l<lo)(h7:7<=W)(hW:W<=1000): ∀(F K:Nat),K<=F->∀(T:Nat->Option D) (n:Nat) (t:D),lo<=n->Wq T l lo n W K t->zjj T l lo n W K t (u1 (F+1))
 |0,K,hK,T,n,t,hn,hw=>z2L _ T l lo n W K t hw hl hn h7 hW λd T n K' e=>by lia
 |F+1,K,hK,T,n,t,hn,hw=>z2L _ T l lo n W K t hw hl hn h7 hW λd T n K' e h1 h2=>z52 l lo W hl h7 hW F K' (by lia) T n d h1 h2
theorem zgR: ∀{ds:List D},(∀d∈ds,∃w:Wo,w.ok/\d=w.d)->∃us:List Wo,ds=wsD us/\∀u∈us,u.ok
 |[],_=>⟨[],rfl,λ_ h=>nomatch h⟩
 |d::ds,h=>by
  obtain⟨w,hw,rfl⟩:=h d (by simp)
  obtain⟨us,rfl,hu⟩:=zgR (ds:=ds) λd hd=>h d (by simp[hd])
  exact⟨w::us,rfl,i6.mpr ⟨hw,hu⟩⟩
theorem z5W(vs:List Wo):(wsD vs).length=vs.length:=by simp[wsD]
theorem z40(vs:List Wo):labsL (wsD vs)=[]:=by
 induction vs with
 |nil=>rfl
 |cons w vs ih=>erw[wsD,c8,labsL,z1c,m5] at ih⊢;exact ih
theorem zdV{k N:Nat}{d:D}{xs:List D}(h:k≠N)(hx:labsL xs=[]):rp (pl N d) (.lst k xs)= .lst k xs:=W7 (by erw[y3,hx,l5];exact λz=>h z.symm)
theorem zjk{vs:List Wo}{r:Int}(h0:0<=r)(h1:r.toNat<vs.length):atI (wsD vs) r=some vs[r.toNat].d:=z1E h0 (by simp[wsD,h1])
theorem zbZ(a b:Int):(a==b)=(b==a):=by
 by_cases h:a=b
 .subst h;rfl
 .rw[beq_eq_false_iff_ne.mpr h,beq_eq_false_iff_ne.mpr (Ne.symm h)]
theorem zgS{r:Int}{s:Stt}:inD (.int r) (.tup [.int 2, .int 5]) s= .ok (.bool (r==2||r==5)) s:=by
 rw[zkv rfl (by simp[inC,Mi.plain,plainL,er,erL,PyData.canLay0,PyData.canLayAll0,PyData.depth,PyData.depthAll])]
 congr 2
 erw[erL,er,E7,List.any_nil,L7,PyData.eqv]
 rw[zbZ 2 r,zbZ 5 r]
def zjl(w:Wo):Wo:={w with k:=7 -w.k}
theorem zdW{w:Wo}(h:w.ok):(zjl w).ok:=⟨h.s1,h.s6,h.sb,h.g1,h.g4,h.gb,by have:=h.kb;show 0<=7 -w.k/\7 -w.k<=7;lia,h.cb⟩
def Thg(lo n:Nat)(d t:D):Prop:=(d= .str "take" /\∃w:Wo,w.ok/\t=w.d)\/(d= .str "put" /\Rs lo t=true/\Up n t)
def spB:MS:=(Q4 (.nm 5) (Z4 (u1 12) [(y1 0),(y1 5)]))
def enM:MS:=(Y4 (sIf (W8 (Z0 (y1 2) (mC (.int 3)) ltD)) (J1 (mCB [(mC (.str ("take" :Str))),(y1 5)] j4)) sNx)
 (Y4 (sIf (W8 (Z0 (y1 2) (mC (.int 6)) ltD)) (J1 (mCB [(mC (.str ("put" :Str))),(y1 5)] j4)) sNx)
 (Y4 (z7A (z02 [(y1 3)]) (.nm 6) spB)
 (J1 (mCB [(mC (.str ("put" :Str))),(y1 5)] j4)))))
theorem zgT(lb mm n L:Nat)(c x r often:Int)(hb:Bg c x)(ws us:List Wo)(w:Wo)(hw:w.ok)(h1:lb<mm)(h2:mm<n)(h3:lb<L)(h4:L<n)(ho:1<=often/\often<=2):
 ∃(d t:D) (c' x':Int) (n':Nat),Thg n n' d t/\Bg c' x'/\n<=n'/\(enM ⟨[some (.lst lb [.int c, .int x]),some (Dw mm ws),some (.int r),some (.int often),some (.lst L (wsD us)),some w.d,none],[some (.lst lb [.int c, .int x]),some (Dw mm ws)],n⟩).fin= .ok (.tup [d,t]) [.lst lb [.int c', .int x'],Dw mm ws] n':=by
 have sD: ∀d,rp (pl lb d) (Dw mm ws)=Dw mm ws:=λd=>zb5 (by lia)
 have sL: ∀d,rp (pl lb d) (.lst L (wsD us))= .lst L (wsD us):=λd=>zdV (by lia) (z40 _)
 have uD:Up n (Dw mm ws):=λj hj=>by rw[U8] at hj;erw[c9,i7,or_false] at hj;lia
 have uL:Up n (.lst L (wsD us)):=λj hj=>by erw[y3,z40,l5] at hj;lia
 unfold enM
 left
 by_cases q3:r<3
 .rw[show decide (r<3)=true by simpa using q3]
  left
  exact⟨_,_,c,x,n, .inl ⟨rfl,w,hw,rfl⟩,hb,c6 _,rfl⟩
 rw[show decide (r<3)=false by simpa using q3]
 left
 have rw0:Rs n w.d=true:=z5N _ (z3U hw).1
 by_cases q6:r<6
 .rw[show decide (r<6)=true by simpa using q6]
  left
  exact⟨_,_,c,x,n, .inr ⟨rfl,rw0,λj hj=>by rw[z1c] at hj;cases hj⟩,hb,c6 _,rfl⟩
 rw[show decide (r<6)=false by simpa using q6]
 left
 rw[z3d ⟨by lia,by lia⟩]
 left
 obtain⟨s',e3,c3,x3,t,o6,T,n3,rfl,b3,wq,g3,q6'⟩:=z2F (P:=λi s=> ∃(c x:Int) (t:D) (o6:Option D) (T:Nat->Option D) (n3:Nat),s=⟨[some (.lst lb [.int c, .int x]),some (Dw mm ws),some (.int r),some (.int often),some (.lst L (wsD us)),some t,o6],[some (.lst lb [.int c, .int x]),some (Dw mm ws)],n3⟩/\Bg c x/\Wq T lb n n3 (7+i) (2+2*i) t/\n<=n3/\(o6=none\/∃j:Int,o6=some (.int j))) (lo:=0) (N:=often.toNat) (g:= .nm 6) (b:=spB) (by
  rintro i hi s ⟨c,x,t,o6,T,n3,rfl,hb,wq,g3,q6⟩
  refine⟨[some (.lst lb [.int c, .int x]),some (Dw mm ws),some (.int r),some (.int often),some (.lst L (wsD us)),some t,some (.int i)],by erw[E3];rfl, ?_⟩
  obtain⟨t',c',x',n',T',wq',_,hT',hn',hb',e⟩:=z52 lb n (7+i) (by lia) (by lia) (by lia) 11 (2+2*i) (by lia) T n3 t g3 wq c x hb
  have rs:Rs n t=true:=z5V (by lia) t wq.sw
  have rs0:Rs 0 t=true:=z5V (by lia) t (z1A (A6 _) (c6 _) t wq.sw)
  have lt: ∀j∈y3 t,n<=j:=λj hj=>E4 λz=>z1U rs z hj
  have st: ∀d,rp (pl lb d) t=t:=λd=>W7 λz=>absurd (lt lb z) (by lia)
  refine⟨⟨[some (.lst lb [.int c', .int x']),some (Dw mm ws),some (.int r),some (.int often),some (.lst L (wsD us)),some t',some (.int i)],[some (.lst lb [.int c', .int x']),some (Dw mm ws)],n'⟩, ?_,c',x',t',some (.int i),T',n',rfl,hb',wq',by lia, .inr ⟨_,rfl⟩⟩
  unfold spB
  left
  rw[show(12:Nat)=11+1 from rfl,e,z1y (T:=T) (lo:=n) rfl rfl (by erw[CoL];exact⟨wq.co,trivial⟩) (by lia) (by erw[labsL,e7];exact lt) (by erw[RsL,C8];exact rs0)
   (by
    refine⟨.inl ?_, .inr uD, .inl trivial, .inl trivial, .inr uL, .inl wq.co, .inl trivial,trivial⟩
    erw[Co,true_or]) (by
    refine⟨.inl ?_, .inr uD,trivial⟩
    erw[Co,true_or]) (λq=>by left;erw[sD,sL,st];rfl) (λq=>by left;erw[sD];rfl)]
  left) often.toNat 0 ⟨[some (.lst lb [.int c, .int x]),some (Dw mm ws),some (.int r),some (.int often),some (.lst L (wsD us)),some w.d,none],[some (.lst lb [.int c, .int x]),some (Dw mm ws)],n⟩ (by lia) ⟨c,x,w.d,none,λ_=>none,n,rfl,hb,zkH hw,c6 _, .inl rfl⟩
 rw[e3]
 left
 exact⟨_,_,c3,x3,n3, .inr ⟨rfl,z5V (by lia) t wq.sw,wq.up⟩,b3,g3,rfl⟩
theorem zbc(lb mm n:Nat)(c x:Int)(hb:Bg c x)(ws:List Wo)(h:Bks ws)(h1:lb<mm)(h2:mm<n): ∃(d t:D) (c' x':Int) (n':Nat),Thg n n' d t/\Bg c' x'/\n<=n'/\x8 [.lst lb [.int c, .int x],Dw mm ws] n= .ok (.tup [d,t]) [.lst lb [.int c', .int x'],Dw mm ws] n':=by
 have sD: ∀d,rp (pl lb d) (Dw mm ws)=Dw mm ws:=λd=>zb5 (by lia)
 have few:=h.few
 obtain⟨r,c1,x1,r0,r1,b1,e1⟩:=j6 lb c x 8 n hb (by decide) (by decide)
 obtain⟨f,c2,x2,f0,f1,b2,e2⟩:=j6 lb c1 x1 2 n b1 (by decide) (by decide)
 obtain⟨w,c3,x3,n3,hw,b3,g3,e3⟩:=zdN lb c2 x2 (n+1+1) b2 (by lia)
 obtain⟨us,eu,hu⟩:=zgR (ds:=Q9 (wsD ws)++[w.d]) λd hd=>by
  rcases c7.mp hd with hd|hd
  .exact z0D h (z5S hd)
  .exact⟨w,hw,l5.mp hd⟩
 have sl:(Q9 (wsD ws)).length<=60:=by rw[z9e,z5W];lia
 have lu:us.length=(Q9 (wsD ws)).length+1:=by rw[<-z5W us,<-eu];simp
 obtain⟨k,c4,x4,k0,k1,b4,e4⟩:=j6 lb c3 x3 us.length (n3+1+1) b3 (by lia) (by lia)
 have hk:k.toNat<us.length:=by lia
 have ek:=zjk k0 hk
 have hv:=hu _ (B4 hk)
 generalize us[k.toNat]=v at ek hv
 have lS:labsL (Q9 (wsD ws))=[]:=(z4X (l:=0) h).2.2.1
 have sS: ∀d,rp (pl lb d) (.lst (n+1) (Q9 (wsD ws)))= .lst (n+1) (Q9 (wsD ws)):=λd=>zdV (by lia) lS
 have sU: ∀d,rp (pl lb d) (.lst (n3+1) (wsD us))= .lst (n3+1) (wsD us):=λd=>zdV (by lia) (z40 _)
 unfold x8
 have e0:z2E=(Y4 (Q4 (.nm 2) (Z4 Z2 [(y1 0),(mC (.int 8))]))
  (Y4 (Q4 (.nm 3) (Z0 (mC (.int 1)) (Z4 Z2 [(y1 0),(mC (.int 2))]) v1))
  (Y4 (Q4 (.nm 4) (Z0 (mCB [(bd (y1 1) z7f)] z7e) (mCB [(Z4 z0W [(y1 0)])] lstM) v1))
  (Y4 (Q4 (.nm 5) (Z0 (y1 4) (Z4 Z2 [(y1 0),(mCB [(y1 4)] z2S)]) ixD))
  (Y4 (sIf (W8 (Z0 (y1 2) (mCB [(mC (.int 2)),(mC (.int 5))] j4) inD)) (Q4 (.nm 5) (mCB [(Z0 (y1 5) (mC (.int 0)) ixD),(Z0 (y1 5) (mC (.int 1)) ixD),(Z0 (mC (.int 7)) (Z0 (y1 5) (mC (.int 2)) ixD) za8),(Z0 (y1 5) (mC (.int 3)) ixD)] j4)) sNx) enM))))):=rfl
 rw[e0]
 left
 rw[e1,W5 rfl rfl rfl (λq=>by left;erw[sD];rfl) (λq=>by left;erw[sD];rfl)]
 left
 rw[e2,W5 rfl rfl rfl (λq=>by left;erw[sD];rfl) (λq=>by left;erw[sD];rfl)]
 left
 rw[z5R h]
 left
 rw[z6y h]
 left
 rw[e3,W5 rfl rfl rfl (λq=>by left;erw[sD];rfl) (λq=>by left;erw[sD,sS];rfl)]
 left
 rw[z4Q (by rw[zl];erw[i0,n8];lia),eu]
 left
 rw[z5W,e4,W5 rfl rfl rfl (λq=>by left;erw[sD,sU];rfl) (λq=>by left;erw[sD,sU];rfl)]
 left
 rw[ek]
 left
 rw[zgS]
 cases hc:(r==2||r==5) with
 |false=>
  left
  obtain⟨d,t,c',x',n',ht,hb',hn',e⟩:=zgT lb mm (n3+1+1) (n3+1) c4 x4 r (1+f) b4 ws us v hv h1 (by lia) (by lia) (by lia) (by lia)
  refine⟨d,t,c',x',n', ?_,hb',by lia,e⟩
  rcases ht with ht|⟨p1,p2,p3⟩
  .exact .inl ht
  .exact .inr ⟨p1,z5O (by lia) t p2,p3⟩
 |true=>
  left
  rw[x0W]
  left
  rw[x1W]
  left
  rw[x2W]
  left
  rw[x3W]
  left
  rw[show D.tup [.tup (iL v.s), .tup (iL v.g), .int (7 -v.k), .int v.c]=(zjl v).d from rfl]
  obtain⟨d,t,c',x',n',ht,hb',hn',e⟩:=zgT lb mm (n3+1+1) (n3+1) c4 x4 r (1+f) b4 ws us (zjl v) (zdW hv) h1 (by lia) (by lia) (by lia) (by lia)
  refine⟨d,t,c',x',n', ?_,hb',by lia,e⟩
  rcases ht with ht|⟨p1,p2,p3⟩
  .exact .inl ht
  .exact .inr ⟨p1,z5O (by lia) t p2,p3⟩
theorem z7r{p:Str}{q:List D}(k:Nat):findL k (.str p::q)=findL k q:=by erw[findL,Z8]
theorem zjm{a:Str}{s:Stt}:eqS (.str a) (.str a) s= .ok (.bool true) s:=by
 unfold eqS rt
 simp
theorem zc0{ws:List Wo}{w:Wo}(h:Bks ws)(hw:w.ok):Bks (wsN ws w):=by
 unfold wsN
 split
 .rename_i hp
  unfold z1G at hp
  have hh: ¬has ws w.key=true:=λz=>by rw[if_pos z] at hp;cases hp
  rw[if_neg hh] at hp
  have hl: ¬60<=ws.length:=λz=>by rw[if_pos z] at hp;cases hp
  exact h.snoc hw (t7.mpr hh) (by lia)
 .exact h
def w0:Wo:=⟨[1,38],[1,998],1,1⟩
theorem zgU:w0.ok:=⟨by decide,by decide,by decide,by decide,by decide,by decide,by decide,by decide⟩
theorem zkI:w0.d= .tup [.tup [.int 1, .int 38], .tup [.int 1, .int 998], .int 1, .int 1]:=rfl
def twD:List D:=[.tup [.tup [.bool true, .int 38], .tup [.int 1, .int 998], .int 1, .int 1], .tup [.tup [.int 1, .int 38], .tup [.bool true, .int 998], .int 1, .int 1], .tup [.tup [.int 1, .int 38], .tup [.int 1, .int 998], .bool true, .int 1], .tup [.tup [.int 1, .int 38], .tup [.int 1, .int 998], .int 1, .bool true]]
theorem zjn: ∀d∈twD,plain d=true/\z5T d=false:=by
 unfold twD
 erw[i6]
 refine⟨⟨rfl,rfl⟩,⟨rfl,rfl⟩,⟨rfl,rfl⟩,⟨rfl,rfl⟩,λ_ h=>nomatch h⟩
theorem zjo{a b:Nat}{s:Stt}:neD (.lst a [.int 0, .int 0, .int 0, .int 0]) (.lst b [.int 0, .int 0, .int 0, .int 0]) s= .ok (.bool false) s:=
 z5P ⟨rfl,rfl⟩ ⟨rfl,rfl⟩ rfl (by simp[er,erL,PyData.depth,PyData.depthAll])
theorem zhg{a b:List D}{s:Stt}(h:a.length+b.length<=100):v1 (.tup a) (.tup b) s= .ok (.tup (a++b)) s:=zga (by rw[zl];lia)
def ntA:MS:=(sIf (z8l (W8 (Z0 (mSl (y1 2) none (some (mC (.int 3)))) (y1 1) z4x)) (W8 (Z0 (mCB [(y1 1)] z9x) (mC (.int 60)) ltD))) (Y4 (sIf (W8 (Z0 (Z4 Y8 [(mC (.str ("put" :Str))),(y1 0),(y1 2)]) (mC .non) zbp)) (J1 (mC (.bool false))) sNx)
 (z4p (Z0 (y1 2) (mC (.int 3)) ixD) (y1 1) (mSl (y1 2) none (some (mC (.int 3)))) z0N)) sNx)
theorem zkJ(l m mm n:Nat)(hlm:l<m)(hmm:m<mm)(ws:List Wo)(h:Bks ws): ∃(ws':List Wo) (n':Nat),Bks ws'/\n<=n'/\ntA ⟨[some (Bk l m ws),some (Dw mm ws),some w0.d,none],[some (Bk l m ws),some (Dw mm ws)],n⟩= .nx ⟨[some (Bk l m ws'),some (Dw mm ws'),some w0.d,none],[some (Bk l m ws'),some (Dw mm ws')],n'⟩:=by
 by_cases hp:z1G ws w0=none
 .have hh:has ws w0.key=false:=t7.mpr λz=>by unfold z1G at hp;rw[if_pos z] at hp;cases hp
  have hl: ¬60<=ws.length:=λz=>by unfold z1G at hp;rw[if_neg (by rw[hh];decide),if_pos z] at hp;cases hp
  have hh':has ws (nk3 w0.s w0.g w0.k)=false:=hh
  obtain⟨n1,g1,e1⟩:=z6E l m (by lia) ws h w0 zgU n
  have en:wsN ws w0=ws++[w0]:=by unfold wsN;rw[if_pos hp]
  rw[hp,en] at e1
  have hq:labsL [w0.d]=[]:=by erw[labsL,z1c,e7]
  have qD: ∀ws',rp (λk=>findL k [Bk l m ws',w0.d]) (Dw mm ws)=Dw mm ws:=λws'=>z5U hq (by rw[U8];simp;lia) (by rw[U8];simp;lia)
  have pB: ∀d ws',rp (pl mm d) (Bk l m ws')=Bk l m ws':=λd ws'=>z7q (by lia) (by lia)
  have pD: ∀d,rp (pl mm d) (Dw mm ws)=d:=λd=>by erw[rp,pl,if_true]
  refine⟨ws++[w0],n1,h.snoc zgU hh (by lia),g1, ?_⟩
  unfold ntA
  left
  rw[slW]
  left
  rw[z3X,hh']
  left
  rw[z4W]
  left
  rw[show decide ((ws.length:Int)<60)=true by simp;lia]
  left
  rw[e1,X0 (λk hk=>by rw[z7r];exact z4Y (ws:=ws) hq k hk) (λe=>by
   injection e with _ e
   injection e with e _
   erw[z7r,J3,K3,m9,B9,z30 hq,qD,z55,e,and_self])]
  left
  erw[z7r,z30 hq,qD,z55,kdI]
  rw[show(!z5Q D.non)=false from rfl]
  left
  rw[x3W]
  left
  rw[slW]
  left
  rw[z2I hh (by lia)]
  left
  erw[pB,pD,z55]
 .refine⟨ws,n,h,c6 _, ?_⟩
  unfold ntA
  left
  rw[slW]
  left
  rw[z3X]
  by_cases hh:has ws w0.key=true
  .have hh':has ws (nk3 w0.s w0.g w0.k)=true:=hh
   rw[hh']
   left
  .have hh':has ws (nk3 w0.s w0.g w0.k)=false:=t7.mpr hh
   have hl:60<=ws.length:=by
    by_cases z:60<=ws.length
    .exact z
    .exact absurd (by unfold z1G;rw[if_neg hh,if_neg z]) hp
   rw[hh']
   left
   rw[z4W]
   left
   rw[show decide ((ws.length:Int)<60)=false by simp;lia]
   left
theorem zjp(l m mm n:Nat)(hlm:l<m)(hmm:m<mm)(ws:List Wo)(h:Bks ws): ∃(ws':List Wo) (n':Nat),Bks ws'/\n<=n'/\G4 [Bk l m ws,Dw mm ws] n= .ok (.bool true) [Bk l m ws',Dw mm ws'] n':=by
 obtain⟨ws',n1,h',g1,e1⟩:=zkJ l m mm n hlm hmm ws h
 obtain⟨n2,g2,e2⟩:=zb9 (mi:=z1N (y1 3)) (K:=ze7) (tg:= .nm 0) (me:=Z4 Y8 [(mC (.str ("put" :Str))),(y1 1),(y1 0)]) (g:=λ_=> .int 0) (sl:=λd=>[some d]) (k:=1) (items:=twD) (its:=[some (.lst n1 twD)]) (ix:=[0]) (s:=⟨[some (Bk l m ws'),some (Dw mm ws'),some w0.d,some (.lst n1 twD)],[some (Bk l m ws'),some (Dw mm ws')],n1+1⟩) (σ:=[some (Bk l m ws'),some (Dw mm ws'),some w0.d,some (.lst n1 twD)]) (tm:=[some (Bk l m ws'),some (Dw mm ws')]) (n:=n1+1) (zgo rfl) rfl (by rw[zl];decide) (λi rest=>rfl) rfl (λd hd=>⟨rfl,λos ho=>by
  match os,ho with
  |[a0],_=>rfl⟩) (λd hd tm n=>by
  obtain⟨p1,p2⟩:=zjn d hd
  obtain⟨n',g,e⟩:=z3Z l m ws' d p1 p2 n
  refine⟨n',g, ?_⟩
  erw[c8,l7,List.getElem?_cons_zero,A3,l9,m5]
  left
  rw[e]
  left)
 refine⟨ws',n2+1+1+1+1+1+1,h',by lia, ?_⟩
 unfold G4
 have e0:z0g=(Y4 (Q4 (.nm 2) (mCB [(mCB [(mC (.int 1)),(mC (.int 38))] j4),(mCB [(mC (.int 1)),(mC (.int 998))] j4),(mC (.int 1)),(mC (.int 1))] j4))
  (Y4 ntA
  (Y4 (Q4 (.nm 3) (mCB [(Z0 (mCB [(mCB [(mC (.bool true)),(mC (.int 38))] j4)] j4) (mSl (y1 2) (some (mC (.int 1))) none) v1),(Z0 (mSl (y1 2) none (some (mC (.int 1)))) (mCB [(mCB [(mC (.bool true)),(mC (.int 998))] j4),(mC (.int 1)),(mC (.int 1))] j4) v1),(Z0 (mSl (y1 2) none (some (mC (.int 2)))) (mCB [(mC (.bool true)),(mC (.int 1))] j4) v1),(Z0 (mSl (y1 2) none (some (mC (.int 3)))) (mCB [(mC (.bool true))] j4) v1)] lstM))
  (Y4 (sIf (W8 (Z0 (z03 (z1N (y1 3)) (.nm 0) (rt true) (Z4 Y8 [(mC (.str ("put" :Str))),(y1 1),(y1 0)]) 1 [0]) (mCB [(mC (.int 0)),(mC (.int 0)),(mC (.int 0)),(mC (.int 0))] lstM) neD)) (J1 (mC (.bool false))) sNx)
  (J1 (Z0 (mCB [(z6m "Book" "words" Y9 (y1 0) [])] zaI) (mCB [(mCB [(bd (y1 1) z7f)] z7e)] zaI) eqS)))))):=rfl
 rw[e0]
 left
 rw[<-zkI,e1]
 have s1: ∀s:Stt,slD w0.d (some 1) none s= .ok (.tup [.tup [.int 1, .int 998], .int 1, .int 1]) s:=λ_=>rfl
 have s2: ∀s:Stt,slD w0.d none (some 1) s= .ok (.tup [.tup [.int 1, .int 38]]) s:=λ_=>rfl
 have s3: ∀s:Stt,slD w0.d none (some 2) s= .ok (.tup [.tup [.int 1, .int 38], .tup [.int 1, .int 998]]) s:=λ_=>rfl
 have s4: ∀s:Stt,slD w0.d none (some 3) s= .ok (.tup [.tup [.int 1, .int 38], .tup [.int 1, .int 998], .int 1]) s:=λ_=>rfl
 left
 rw[s1]
 left
 rw[zhg (by simp)]
 left
 rw[s2]
 left
 rw[zhg (by simp)]
 left
 rw[s3]
 left
 rw[zhg (by simp)]
 left
 rw[s4]
 left
 rw[zhg (by simp)]
 left
 rw[show[D.tup [.tup [.bool true, .int 38], .tup [.int 1, .int 998], .int 1, .int 1], .tup [.tup [.int 1, .int 38], .tup [.bool true, .int 998], .int 1, .int 1], .tup [.tup [.int 1, .int 38], .tup [.int 1, .int 998], .bool true, .int 1], .tup [.tup [.int 1, .int 38], .tup [.int 1, .int 998], .int 1, .bool true]]=twD from rfl,e2]
 left
 rw[show List.map (λ_=>D.int 0) twD=[.int 0, .int 0, .int 0, .int 0] from rfl,zjo]
 left
 rw[zgG]
 left
 rw[z6z l m ws' h']
 left
 rw[zbV h']
 left
 rw[z5R h']
 left
 rw[z6y h']
 left
 rw[zbV h']
 left
 rw[zjm]
 left
theorem UpO.of{k:Nat}{d:D}(h:Up k d):UpO k (some d):=λx hx=>by cases hx;exact h
theorem UpO.mono{k m:Nat}{o:Option D}(h:UpO k o)(hk:k<=m):UpO m o:=λd hd j hj=>i4 (h d hd j hj) hk
theorem zkK{k:Nat}{w:Wo}:UpO k (some w.d):=UpO.of λj hj=>by rw[z1c] at hj;cases hj
def Av(lb l m mm n:Nat)(o:Option D):Prop:= ∀d,o=some d->∀j∈y3 d,j<n/\j≠lb/\j≠l/\j≠m/\j≠mm
section
variable{lb l m mm n N0:Nat}{o:Option D}
theorem Av.of(h:UpO N0 o)(h0:N0<=lb)(h1:N0<=l)(h2:N0<=m)(h3:N0<=mm)(h4:N0<=n):Av lb l m mm n o:=λd e j hj=>by have:=h d e j hj;lia
theorem Av.none(h: ∀d,o=some d->y3 d=[]):Av lb l m mm n o:=λd e j hj=>by rw[h d e] at hj;cases hj
theorem Av.mono{n':Nat}(h:Av lb l m mm n o)(hn:n<=n'):Av lb l m mm n' o:=λd e j hj=>by have:=h d e j hj;lia
theorem Av.fix(h:Av lb l m mm n o){k:Nat}(hk:k=lb\/k=mm\/n<=k)(d:D):o.map (rp (pl k d))=o:=by
 cases o with
 |none=>rfl
 |some t=>rw[m9,W7 λz=>by have:=h t rfl _ z;lia]
theorem Av.fixB(h:Av lb l m mm n o){ws:List Wo}{q:List D}(hq:labsL q=[]):o.map (rp (λk=>findL k (Bk l m ws::q)))=o:=by
 cases o with
 |none=>rfl
 |some t=>rw[m9,z5U hq (λz=>by have:=h t rfl _ z;lia) (λz=>by have:=h t rfl _ z;lia)]
theorem Av.up(h:Av lb l m mm n o):UpO n o:=λd e j hj=>(h d e j hj).1
end
def zhh:MS:=(Y4 (Q4 (.nm 7) (mCB [(mCB [(Z0 (y1 6) (mC (.int 3)) z2c),(Z0 (y1 6) (mC (.int 3)) z1L)] j4),(mCB [(y1 6)] j4),(Z0 (y1 6) (mC (.int 8)) z2c),(Z4 Z2 [(y1 2),(mC (.int 10000))])] j4))
 (Y4 (z4n (z6m "Book" "put" j3 (y1 4) [(y1 7)]))
 (z4p (Z0 (y1 7) (mC (.int 3)) ixD) (y1 5) (mSl (y1 7) none (some (mC (.int 3)))) z0N)))
def Fst(ws:List Wo)(i:Nat):Prop:=ws.length=i/\∀w∈ws,∃j:Nat,j<i/\w.g=[(j:Int)]
theorem zgV(R:D)(hR: ∀f,rp f R=R)(at' many:Int)(lb l m mm N0 n:Nat)(c x:Int)(hb:Bg c x)(ws:List Wo)(i:Nat)(hi:i<60)(hf:Fst ws i)(h:Bks ws)(o7:Option D)(u7:UpO N0 o7)(r:List (Option D))(hr: ∀o∈r,UpO N0 o)
 (h0:N0<=lb) (h1:lb<l) (h2:l<m) (h3:m<mm) (h4:mm<n):
 ∃(w:Wo) (c' x':Int) (n':Nat),Fst (ws++[w]) (i+1)/\Bks (ws++[w])/\Bg c' x'/\n<=n'/\
  zhh ⟨some R::some (.int at')::some (.lst lb [.int c, .int x])::some (.int many)::some (Bk l m ws)::some (Dw mm ws)::some (.int i)::o7::r,[some R],n⟩= .nx ⟨some R::some (.int at')::some (.lst lb [.int c', .int x'])::some (.int many)::some (Bk l m (ws++[w]))::some (Dw mm (ws++[w]))::some (.int i)::some w.d::r,[some R],n'⟩:=by
 obtain⟨b,c2,x2,d0,d1,b2,e2⟩:=j6 lb c x 10000 n hb (by decide) (by decide)
 have hw:(⟨[(i:Int) %3,(i:Int)/3],[(i:Int)],(i:Int) %8,b⟩:Wo).ok:=⟨by simp,by simp,by
  intro j hj
  erw[c9,i7,or_false] at hj
  lia,by simp,by simp,by
  intro j hj
  erw[c9,i7,or_false] at hj
  lia,by show 0<=(i:Int) %8/\(i:Int) %8<=7;lia,by show 0<=b/\b<=9999;lia⟩
 generalize ew:(⟨[(i:Int) %3,(i:Int)/3],[(i:Int)],(i:Int) %8,b⟩:Wo)=w at hw
 have hh:has ws w.key=false:=by
  apply t7.mpr
  intro z
  obtain⟨v,hv,ev⟩:=O7.mp z
  obtain⟨j,hj,gj⟩:=hf.2 v hv
  have ev:=of_decide_eq_true ev
  rw[<-ew] at ev
  erw[Wo.key,nk3,gj,c8,l7,List.cons.injEq,Sum.inr.injEq,Sum.inl.injEq] at ev
  lia
 have hl:=hf.1
 have hp:z1G ws w=none:=by unfold z1G;rw[if_neg (by rw[hh];decide),if_neg (by lia)]
 obtain⟨n1,g1,e3⟩:=zdH l m (by lia) ws w hw hp n
 have hq:labsL [w.d]=[]:=by erw[labsL,z5M _ (z3U hw).1,e7]
 have s7:=λd=>u7.fixk h0 d
 have sr:=λ(d:D)=>zbW hr h0 d
 have sB: ∀d,rp (pl lb d) (Bk l m ws)=Bk l m ws:=λd=>z7q (by lia) (by lia)
 have sD: ∀d,rp (pl lb d) (Dw mm ws)=Dw mm ws:=λd=>zb5 (by lia)
 have tr: ∀ws',rpO (λk=>findL k [Bk l m ws',w.d]) r=r:=λws'=>z9m hr (by lia) (by lia) hq
 have tb: ∀ws' (u v:Int),rp (λk=>findL k [Bk l m ws',w.d]) (.lst lb [.int u, .int v])= .lst lb [.int u, .int v]:=λws' u v=>z5U hq (by simp[y3,labsL];lia) (by simp[y3,labsL];lia)
 have tD: ∀ws',rp (λk=>findL k [Bk l m ws',w.d]) (Dw mm ws)=Dw mm ws:=λws'=>z5U hq (by rw[U8];simp;lia) (by rw[U8];simp;lia)
 have pB: ∀d,rp (pl mm d) (Bk l m (ws++[w]))=Bk l m (ws++[w]):=λd=>z7q (by lia) (by lia)
 have pb: ∀d (u v:Int),rp (pl mm d) (.lst lb [.int u, .int v])= .lst lb [.int u, .int v]:=λd u v=>W7 (by simp[y3,labsL];lia)
 have pD: ∀d,rp (pl mm d) (Dw mm ws)=d:=λd=>by erw[rp,pl,if_true]
 have pr:=λ(d:D)=>zbW hr (show N0<=mm by lia) d
 refine⟨w,c2,x2,n1,⟨by simp;lia, ?_⟩,h.snoc hw hh (by lia),b2,g1, ?_⟩
 .intro v hv
  rcases c7.mp hv with hv|hv
  .obtain⟨j,hj,gj⟩:=hf.2 v hv
   exact⟨j,by lia,gj⟩
  .rw[l5.mp hv,<-ew]
   exact⟨i,by lia,rfl⟩
 have ewd:D.tup [.tup [.int ((i:Int) %3), .int ((i:Int)/3)], .tup [.int (i:Int)], .int ((i:Int) %8), .int b]=w.d:=by rw[<-ew];rfl
 unfold zhh
 left
 rw[z1P (by decide)]
 left
 rw[z6v ⟨by decide,by decide⟩]
 left
 rw[z1P (by decide)]
 left
 rw[e2,W5 rfl rfl rfl (λq=>by left;erw[hR,s7,sr,sB,sD];rfl) (λq=>by left;erw[hR];rfl)]
 left
 rw[ewd]
 rw[zhf]
 left
 rw[e3,X0 (z4Y hq) (λe=>by
  injection e with e _
  erw[J3,K3,m9,B9,z30 hq,hR,z1b,tb,tD,tr,z55,e,and_self])]
 left
 erw[hR,z30 hq,z1b,tb,tD,tr,z55]
 try (left)
 rw[x3W]
 left
 rw[slW]
 left
 rw[z2I hh (by lia)]
 left
 erw[hR,pB,pb,pr,pD,z55]
theorem zhi(x:Option Str):x=none/\kdI x= .non\/x.isNone=false/\∃i:Int,kdI x= .int i:=by
 cases x with
 |none=>exact .inl ⟨rfl,rfl⟩
 |some c=>
  refine .inr ⟨rfl, ?_⟩
  by_cases h:c= "NoWord"
  .exact⟨0,by erw[kdI,if_pos h]⟩
  .by_cases h2:c= "Twice"
   .exact⟨1,by erw[kdI,if_neg h,if_pos h2]⟩
   .by_cases h3:c= "TooMany"
    .exact⟨2,by erw[kdI,if_neg h,if_neg h2,if_pos h3]⟩
    .exact⟨3,by erw[kdI,if_neg h,if_neg h2,if_neg h3]⟩
theorem z9s(x:Option Str):y3 (kdI x)=[]:=by
 rcases zhi x with⟨_,e⟩|⟨_,i,e⟩<;>rw[e]<;>rfl
theorem zdX(x:Option Str){s:Stt}:neD (kdI x) (kdI x) s= .ok (.bool false) s:=by
 rcases zhi x with⟨_,e⟩|⟨_,i,e⟩<;>rw[e]<;>exact z5P ⟨rfl,rfl⟩ ⟨rfl,rfl⟩ rfl (by simp[er,PyData.depth])
theorem zbd(f:Nat->Option D)(x:Option Str):rp f (kdI x)=kdI x:=by
 rcases zhi x with⟨_,e⟩|⟨_,i,e⟩<;>rw[e]<;>rfl
theorem z1e(x:Option Str):z5Q (kdI x)=x.isNone:=by
 rcases zhi x with⟨h,e⟩|⟨h,i,e⟩
 .rw[e,h];rfl
 .rw[e,h];rfl
theorem fLD{lb mm:Nat}{u v:Int}{ws:List Wo}(k:Nat):findL k [.lst lb [.int u, .int v],Dw mm ws]=if lb=k then some (.lst lb [.int u, .int v]) else if mm=k then some (Dw mm ws) else none:=by
 have e1:findL k (vsW ws)=none:=findL_none _ (by rw[G9];exact i7)
 by_cases h1:lb=k
 .erw[findL,Z8,if_pos h1]
 .by_cases h2:mm=k
  .erw[findL,Z8,if_neg h1,if_pos h2]
  .erw[findL,Z8,if_neg h1,if_neg h2,e1]
theorem z9t{lb l m mm n:Nat}{u v:Int}{ws:List Wo}{o:Option D}(h:Av lb l m mm n o):o.map (rp (λk=>findL k [.lst lb [.int u, .int v],Dw mm ws]))=o:=by
 cases o with
 |none=>rfl
 |some t=>rw[m9,z3o t λk hk=>by have:=h t rfl _ hk;rw[fLD,if_neg (by lia),if_neg (by lia)]]
theorem zjq{ws:List Wo}{k:NK}(h:Bks ws):Bks (rmW ws k):=⟨h.nd.sublist (List.Sublist.map _ N3),λw hw=>h.ok w (F0.mp hw).1,n9 (N1 _ _) h.few⟩
theorem zc1{ws:List Wo}{w:Wo}(h:Bks ws):Bks (wsT ws w):=by
 unfold wsT
 split
 .exact zjq h
 .exact h
section
variable{lb l m mm n:Nat}{ws:List Wo}{r:List D}
theorem zjr(hr:labsL r=[])(h:lb<l)(hlm:l<m)(u v:Int):rp (λk=>findL k (Bk l m ws::r)) (.lst lb [.int u, .int v])= .lst lb [.int u, .int v]:=z5U hr (by simp[y3,labsL];lia) (by simp[y3,labsL];lia)
theorem zjs(hr:labsL r=[])(h:m<mm)(hlm:l<m)(us:List Wo):rp (λk=>findL k (Bk l m ws::r)) (Dw mm us)=Dw mm us:=z5U hr (by rw[U8];simp;lia) (by rw[U8];simp;lia)
end
def ckM:MS:=(sIf (mOr (W8 (Z0 (Z4 Y8 [(y1 9),(y1 4),(y1 10)]) (y1 11) neD)) (z8l (W8 (Z0 (y1 11) (mC .non) zbp)) (W8 (Z0 (Z4 Y8 [(y1 9),(y1 4),(y1 10)]) (y1 11) neD)))) (J1 (mC (.bool false))) sNx)
def upM:MS:=(sIf (z8l (W8 (Z0 (y1 11) (mC .non) isN)) (W8 (Z0 (y1 9) (mC (.str ("take" :Str))) eqD))) (z4n (z2p (y1 5) (mSl (y1 10) none (some (mC (.int 3)))))) (sIf (W8 (Z0 (y1 11) (mC .non) isN)) (z4p (Z0 (y1 10) (mC (.int 3)) ixD) (y1 5) (mSl (y1 10) none (some (mC (.int 3)))) z0N) sNx))
section
variable{R:D}(hR: ∀f,rp f R=R){a1 a3 a8:Int}{lb l m mm n:Nat}{c x:Int}{ws:List Wo}{o6 o7:Option D}
include hR
theorem zgW(h:lb<l)(hlm:l<m)(hmm:m<mm)(v6:Av lb l m mm n o6)(v7:Av lb l m mm n o7){dd:Str}{w:Wo}{x':Option Str}{ws':List Wo}(hx:x'=none\/ws'=ws)(ht: ∀n,∃n',n<=n'/\Y8 [.str dd,Bk l m ws,w.d] n= .ok (kdI x') [.str dd,Bk l m ws',w.d] n'):
 ∃n',n<=n'/\ckM ⟨[some R,some (.int a1),some (.lst lb [.int c, .int x]),some (.int a3),some (Bk l m ws),some (Dw mm ws),o6,o7,some (.int a8),some (.str dd),some w.d,some (kdI x')],[some R],n⟩= .nx ⟨[some R,some (.int a1),some (.lst lb [.int c, .int x]),some (.int a3),some (Bk l m ws'),some (Dw mm ws),o6,o7,some (.int a8),some (.str dd),some w.d,some (kdI x')],[some R],n'⟩:=by
 have hq:labsL [w.d]=[]:=by erw[labsL,z1c,e7]
 have qs: ∀f (t:Str),rp f (.str t)= .str t:=λ_ _=>rfl
 have q6: ∀us,o6.map (rp (λk=>findL k [Bk l m us,w.d]))=o6:=λus=>v6.fixB hq
 have q7: ∀us,o7.map (rp (λk=>findL k [Bk l m us,w.d]))=o7:=λus=>v7.fixB hq
 have qb: ∀us (u v:Int),rp (λk=>findL k [Bk l m us,w.d]) (.lst lb [.int u, .int v])= .lst lb [.int u, .int v]:=λus u v=>zjr hq h hlm u v
 have qD: ∀us,rp (λk=>findL k [Bk l m us,w.d]) (Dw mm ws)=Dw mm ws:=λus=>zjs hq hmm hlm ws
 obtain⟨n1,g1,e1⟩:=ht n
 cases hn:x'.isNone with
 |true=>
  refine⟨n1,g1, ?_⟩
  unfold ckM
  left
  rw[e1,X0 (λk hk=>by rw[z7r];exact z4Y (ws:=ws) hq k hk) (λe=>by
   injection e with _ e
   injection e with e _
   erw[z7r,J3,K3,m9,B9,z30 hq,hR,z1b,q6,q7,qb,qD,qs,z55,zbd,e,and_self])]
  left
  erw[z7r,hR,z30 hq,z1b,q6,q7,qb,qD,qs,z55,zbd]
  try (left)
  rw[zdX]
  left
  rw[z1e,hn]
  left
 |false=>
  have hws:ws'=ws:=by
   rcases hx with z|z
   .rw[z] at hn;cases hn
   .exact z
  subst hws
  obtain⟨n2,g2,e2⟩:=ht n1
  refine⟨n2,by lia, ?_⟩
  unfold ckM
  left
  rw[e1]
  left
  rw[zdX]
  left
  rw[z1e,hn]
  left
  rw[e2]
  left
  rw[zdX]
  left
theorem zgX{t:D}(hp:plain t=true)(ht:z5T t=false)(us:List Wo): ∃n',n<=n'/\ckM ⟨[some R,some (.int a1),some (.lst lb [.int c, .int x]),some (.int a3),some (Bk l m ws),some (Dw mm us),o6,o7,some (.int a8),some (.str "put"),some t,some (.int 0)],[some R],n⟩= .nx ⟨[some R,some (.int a1),some (.lst lb [.int c, .int x]),some (.int a3),some (Bk l m ws),some (Dw mm us),o6,o7,some (.int a8),some (.str "put"),some t,some (.int 0)],[some R],n'⟩:=by
 obtain⟨n1,g1,e1⟩:=z3Z l m ws t hp ht n
 obtain⟨n2,g2,e2⟩:=z3Z l m ws t hp ht n1
 refine⟨n2,by lia, ?_⟩
 unfold ckM
 left
 rw[e1]
 left
 rw[show(!z5Q (D.int 0))=true from rfl]
 left
 rw[e2]
 left
theorem zgY(h:lb<l)(hlm:l<m)(hmm:m<mm)(v6:Av lb l m mm n o6)(v7:Av lb l m mm n o7){w:Wo}{us:List Wo}:upM ⟨[some R,some (.int a1),some (.lst lb [.int c, .int x]),some (.int a3),some (Bk l m us),some (Dw mm ws),o6,o7,some (.int a8),some (.str "take"),some w.d,some (kdI (tkR ws w))],[some R],n⟩= .nx ⟨[some R,some (.int a1),some (.lst lb [.int c, .int x]),some (.int a3),some (Bk l m us),some (Dw mm (wsT ws w)),o6,o7,some (.int a8),some (.str "take"),some w.d,some (kdI (tkR ws w))],[some R],n⟩:=by
 have sp: ∀s:Stt,eqD (.str "take") (.str "take") s= .ok (.bool true) s:=λs=>by rw[z0E z50 z50 s,zgJ]
 have qs: ∀f (t:Str),rp f (.str t)= .str t:=λ_ _=>rfl
 have p6:=λd=>v6.fix (k:=mm) (.inr (.inl rfl)) d
 have p7:=λd=>v7.fix (k:=mm) (.inr (.inl rfl)) d
 have pB: ∀d,rp (pl mm d) (Bk l m us)=Bk l m us:=λd=>z7q (by lia) (by lia)
 have pb: ∀d (u v:Int),rp (pl mm d) (.lst lb [.int u, .int v])= .lst lb [.int u, .int v]:=λd u v=>W7 (by simp[y3,labsL];lia)
 have pD: ∀d,rp (pl mm d) (Dw mm ws)=d:=λd=>by erw[rp,pl,if_true]
 cases hh:has ws w.key with
 |true=>
  have hh':has ws (nk3 w.s w.g w.k)=true:=hh
  obtain⟨cc,ep⟩:=zbT (m:=mm) (ws:=ws) (s:=w.s) (g:=w.g) (k:=w.k) (st:=⟨[some R,some (.int a1),some (.lst lb [.int c, .int x]),some (.int a3),some (Bk l m us),some (Dw mm ws),o6,o7,some (.int a8),some (.str "take"),some w.d,some (kdI (tkR ws w))],[some R],n⟩) hh'
  have e:z2p (y1 5) (mSl (y1 10) none (some (mC (.int 3)))) ⟨[some R,some (.int a1),some (.lst lb [.int c, .int x]),some (.int a3),some (Bk l m us),some (Dw mm ws),o6,o7,some (.int a8),some (.str "take"),some w.d,some (kdI (tkR ws w))],[some R],n⟩=zaN (Dw mm ws) (kD w.s w.g w.k) ⟨[some R,some (.int a1),some (.lst lb [.int c, .int x]),some (.int a3),some (Bk l m us),some (Dw mm ws),o6,o7,some (.int a8),some (.str "take"),some w.d,some (kdI (tkR ws w))],[some R],n⟩:=by
   unfold z2p
   left
   erw[zfU,if_pos (z3S ws)]
   left
   rw[slW]
   left
  have et:tkR ws w=none:=by unfold tkR;rw[if_pos hh]
  unfold upM
  left
  rw[z1e,et,show(none:Option Str).isNone=true from rfl]
  rw[et] at e ep
  left
  rw[sp]
  left
  rw[e,ep]
  left
  erw[hR,pB,pb,pD,p6,p7,qs,z55,zbd,wsT,hh,if_true]
  rfl
 |false=>
  have et:tkR ws w=some ("Missing" :Str):=by unfold tkR;rw[if_neg (by rw[hh];decide)]
  unfold upM
  left
  rw[z1e,et,show(some ("Missing" :Str)).isNone=false from rfl]
  left
  rw[z1e,show(some ("Missing" :Str)).isNone=false from rfl]
  left
  erw[wsT,hh,i8,if_false]
theorem zgZ(h:lb<l)(hlm:l<m)(hmm:m<mm)(v6:Av lb l m mm n o6)(v7:Av lb l m mm n o7){w:Wo}{us:List Wo}:upM ⟨[some R,some (.int a1),some (.lst lb [.int c, .int x]),some (.int a3),some (Bk l m us),some (Dw mm ws),o6,o7,some (.int a8),some (.str "put"),some w.d,some (kdI (z1G ws w))],[some R],n⟩= .nx ⟨[some R,some (.int a1),some (.lst lb [.int c, .int x]),some (.int a3),some (Bk l m us),some (Dw mm (wsN ws w)),o6,o7,some (.int a8),some (.str "put"),some w.d,some (kdI (z1G ws w))],[some R],n⟩:=by
 have sp: ∀s:Stt,eqD (.str "put") (.str "take") s= .ok (.bool false) s:=λs=>by rw[z0E z4Z z50 s,zdJ]
 have qs: ∀f (t:Str),rp f (.str t)= .str t:=λ_ _=>rfl
 have p6:=λd=>v6.fix (k:=mm) (.inr (.inl rfl)) d
 have p7:=λd=>v7.fix (k:=mm) (.inr (.inl rfl)) d
 have pB: ∀d,rp (pl mm d) (Bk l m us)=Bk l m us:=λd=>z7q (by lia) (by lia)
 have pb: ∀d (u v:Int),rp (pl mm d) (.lst lb [.int u, .int v])= .lst lb [.int u, .int v]:=λd u v=>W7 (by simp[y3,labsL];lia)
 have pD: ∀d,rp (pl mm d) (Dw mm ws)=d:=λd=>by erw[rp,pl,if_true]
 unfold upM
 cases hp:z1G ws w with
 |none=>
  have hh: ¬has ws w.key=true:=λz=>by unfold z1G at hp;rw[if_pos z] at hp;cases hp
  have hl: ¬60<=ws.length:=λz=>by unfold z1G at hp;rw[if_neg hh,if_pos z] at hp;cases hp
  left
  rw[z1e,show(none:Option Str).isNone=true from rfl]
  left
  rw[sp]
  left
  rw[z1e,show(none:Option Str).isNone=true from rfl]
  left
  rw[x3W]
  left
  rw[slW]
  left
  rw[z2I (t7.mpr hh) (by lia)]
  left
  erw[hR,pB,pb,pD,p6,p7,qs,z55,zbd,wsN,hp,if_true]
 |some e=>
  left
  rw[z1e,show(some e).isNone=false from rfl]
  left
  rw[z1e,show(some e).isNone=false from rfl]
  left
  erw[wsN,hp,reduceCtorEq,if_false]
end
theorem Av.rs{lb l m mm n lo:Nat}{t:D}(h:Rs lo t=true)(hu:Up n t)(h1:lb<lo)(h2:l<lo)(h3:m<lo)(h4:mm<lo):Av lb l m mm n (some t):=λd e j hj=>by
 cases e
 have g1:lo<=j:=E4 λz=>z1U h z hj
 have g2:=hu j hj
 lia
def zhj:MS:=(Y4 (Q4 (.tp [(.nm 9),(.nm 10)]) (Z4 x8 [(y1 2),(y1 5)]))
 (Y4 (Q4 (.nm 11) (Z4 K1 [(y1 5),(y1 9),(y1 10)]))
 (Y4 ckM
 (Y4 upM
 (sIf (W8 (Z0 (z6m "Book" "words" Y9 (y1 4) []) (mCB [(bd (y1 5) z7f)] z7e) neD)) (J1 (mC (.bool false))) sNx)))))
theorem zh0(R:D)(hR: ∀f,rp f R=R)(a1 a3 a8:Int)(lb l m mm n:Nat)(c x:Int)(hb:Bg c x)(ws:List Wo)(h:Bks ws)(o6 o7 o9 o10 o11:Option D)(v6:Av lb l m mm n o6)(v7:Av lb l m mm n o7)(v9:Av lb l m mm n o9)(v10:Av lb l m mm n o10)(v11:Av lb l m mm n o11)
 (h1:lb<l) (h2:l<m) (h3:m<mm) (h4:mm<n):
 ∃(ws':List Wo) (c' x':Int) (n':Nat) (p9 p10 p11:Option D),Bks ws'/\Bg c' x'/\n<=n'/\Av lb l m mm n' p9/\Av lb l m mm n' p10/\Av lb l m mm n' p11/\
  zhj ⟨[some R,some (.int a1),some (.lst lb [.int c, .int x]),some (.int a3),some (Bk l m ws),some (Dw mm ws),o6,o7,some (.int a8),o9,o10,o11],[some R],n⟩= .nx ⟨[some R,some (.int a1),some (.lst lb [.int c', .int x']),some (.int a3),some (Bk l m ws'),some (Dw mm ws'),o6,o7,some (.int a8),p9,p10,p11],[some R],n'⟩:=by
 obtain⟨d,t,c1,x1,n1,ht,b1,g1,e1⟩:=zbc lb mm n c x hb ws h (by lia) h4
 have f6:=λu v=>z9t (u:=u) (v:=v) (ws:=ws) v6
 have f7:=λu v=>z9t (u:=u) (v:=v) (ws:=ws) v7
 have f9:=λu v=>z9t (u:=u) (v:=v) (ws:=ws) v9
 have f10:=λu v=>z9t (u:=u) (v:=v) (ws:=ws) v10
 have f11:=λu v=>z9t (u:=u) (v:=v) (ws:=ws) v11
 have fb: ∀u v u' v':Int,rp (λk=>findL k [.lst lb [.int u, .int v],Dw mm ws]) (.lst lb [.int u', .int v'])= .lst lb [.int u, .int v]:=λu v u' v'=>by erw[rp,fLD,if_true]
 have fD: ∀u v:Int,rp (λk=>findL k [.lst lb [.int u, .int v],Dw mm ws]) (Dw mm ws)=Dw mm ws:=λu v=>by erw[rp,fLD,if_neg (show ¬lb=mm by lia),if_true]
 have fB: ∀u v:Int,rp (λk=>findL k [.lst lb [.int u, .int v],Dw mm ws]) (Bk l m ws)=Bk l m ws:=λu v=>z3o _ λk hk=>by
  rw[z2K] at hk
  erw[c9,i7,or_false] at hk
  rw[fLD,if_neg (by lia),if_neg (by lia)]
 have str: ∀(s:Str) (k:Nat),Av lb l m mm k (some (.str s)):=λs k=> .none λd e=>by cases e;rfl
 have ent: ∀(us:List Wo),Bks us->∀(a9 a10 a11:Option D) (k:Nat),(sIf (W8 (Z0 (z6m "Book" "words" Y9 (y1 4) []) (mCB [(bd (y1 5) z7f)] z7e) neD)) (J1 (mC (.bool false))) sNx) ⟨[some R,some (.int a1),some (.lst lb [.int c1, .int x1]),some (.int a3),some (Bk l m us),some (Dw mm us),o6,o7,some (.int a8),a9,a10,a11],[some R],k⟩= .nx ⟨[some R,some (.int a1),some (.lst lb [.int c1, .int x1]),some (.int a3),some (Bk l m us),some (Dw mm us),o6,o7,some (.int a8),a9,a10,a11],[some R],k+1+1+1+1⟩:=λus hu a9 a10 a11 k=>by
  left
  rw[zgG]
  left
  rw[z6z l m us hu]
  left
  rw[z5R hu]
  left
  rw[z6y hu]
  left
  rw[z5P (z4X (l:=k+1) hu).1 (z4X (l:=k+1+1+1) hu).1 rfl (z4X (l:=k+1+1+1) hu).2.1]
  left
 have first: ∀(rest:MS),(Y4 (Q4 (.tp [(.nm 9),(.nm 10)]) (Z4 x8 [(y1 2),(y1 5)])) rest) ⟨[some R,some (.int a1),some (.lst lb [.int c, .int x]),some (.int a3),some (Bk l m ws),some (Dw mm ws),o6,o7,some (.int a8),o9,o10,o11],[some R],n⟩=rest ⟨[some R,some (.int a1),some (.lst lb [.int c1, .int x1]),some (.int a3),some (Bk l m ws),some (Dw mm ws),o6,o7,some (.int a8),some d,some t,o11],[some R],n1⟩:=λrest=>by
  left
  rw[e1,X0 (λk hk=>by
   rw[fLD]
   have hk:k∈[lb,mm]:=by rw[labsL,labsL,labsL,U8] at hk;exact hk
   erw[c9,i7,or_false] at hk
   rcases hk with rfl|rfl
   .simp
   .split<;>simp) (λe=>by
   injection e with e _
   erw[J3,K3,m9,hR,z1b,fb,fD,fB,f6,f7,f9,f10,f11,e,and_self])]
  left
  erw[hR,fb,fD,fB,f6,f7,f9,f10,f11]
  try (left)
 unfold zhj
 rw[first]
 have w6:=v6.mono g1
 have w7:=v7.mono g1
 rcases ht with⟨rfl,w,hw,rfl⟩|⟨rfl,hrs,hup⟩
 .obtain⟨n2,g2,e2⟩:=zdK mm ws w n1
  obtain⟨n3,g3,e3⟩:=zgW hR (a1:=a1) (a3:=a3) (a8:=a8) (lb:=lb) (l:=l) (m:=m) (mm:=mm) (n:=n2) (c:=c1) (x:=x1) (ws:=ws) (o6:=o6) (o7:=o7) h1 h2 h3 (w6.mono g2) (w7.mono g2) (dd:= "take") (w:=w) (x':=tkR ws w) (ws':=wsT ws w) (by
   unfold tkR wsT
   cases has ws w.key with
   |true=>exact .inl rfl
   |false=>exact .inr rfl) (λn=>zb8 l m (by lia) ws w n)
  refine⟨wsT ws w,c1,x1,n3+1+1+1+1,some (.str "take"),some w.d,some (kdI (tkR ws w)),zc1 h,b1,by lia,str _ _, .none λd e=>by cases e;exact z1c, .none λd e=>by cases e;exact z9s _, ?_⟩
  left
  rw[e2]
  left
  rw[e3]
  left
  rw[zgY hR h1 h2 h3 (w6.mono (by lia)) (w7.mono (by lia))]
  rw[show ∀(a:MS) (s:Stt),RS.sq a (.nx s)=a s from λ_ _=>rfl,ent _ (zc1 h)]
 .have gp:=z7p (n:=n) t hrs
  have at10: ∀k,n1<=k->Av lb l m mm k (some t):=λk hk=>(Av.rs hrs hup (by lia) (by lia) (by lia) h4).mono hk
  cases hwd:z5T t with
  |false=>
   obtain⟨n2,g2,e2⟩:=zdL mm ws t gp.1 hwd n1
   obtain⟨n3,g3,e3⟩:=zgX hR (a1:=a1) (a3:=a3) (a8:=a8) (lb:=lb) (l:=l) (m:=m) (mm:=mm) (n:=n2) (c:=c1) (x:=x1) (ws:=ws) (o6:=o6) (o7:=o7) gp.1 hwd ws
   refine⟨ws,c1,x1,n3+1+1+1+1,some (.str "put"),some t,some (.int 0),h,b1,by lia,str _ _,at10 _ (by lia), .none λd e=>by cases e;rfl, ?_⟩
   have eu:upM ⟨[some R,some (.int a1),some (.lst lb [.int c1, .int x1]),some (.int a3),some (Bk l m ws),some (Dw mm ws),o6,o7,some (.int a8),some (.str "put"),some t,some (.int 0)],[some R],n3⟩= .nx ⟨[some R,some (.int a1),some (.lst lb [.int c1, .int x1]),some (.int a3),some (Bk l m ws),some (Dw mm ws),o6,o7,some (.int a8),some (.str "put"),some t,some (.int 0)],[some R],n3⟩:=by
    unfold upM
    left
    rw[show z5Q (D.int 0)=false from rfl]
    left
    rw[show z5Q (D.int 0)=false from rfl]
    left
   left
   rw[e2]
   left
   rw[e3]
   left
   rw[eu]
   rw[show ∀(a:MS) (s:Stt),RS.sq a (.nx s)=a s from λ_ _=>rfl,ent _ h]
  |true=>
   obtain⟨w,hw,rfl⟩:=zje hwd
   obtain⟨n2,g2,e2⟩:=zdM mm ws w hw n1
   obtain⟨n3,g3,e3⟩:=zgW hR (a1:=a1) (a3:=a3) (a8:=a8) (lb:=lb) (l:=l) (m:=m) (mm:=mm) (n:=n2) (c:=c1) (x:=x1) (ws:=ws) (o6:=o6) (o7:=o7) h1 h2 h3 (w6.mono g2) (w7.mono g2) (dd:= "put") (w:=w) (x':=z1G ws w) (ws':=wsN ws w) (by
    unfold wsN
    by_cases z:z1G ws w=none
    .exact .inl z
    .exact .inr (if_neg z)) (λn=>z6E l m (by lia) ws h w hw n)
   refine⟨wsN ws w,c1,x1,n3+1+1+1+1,some (.str "put"),some w.d,some (kdI (z1G ws w)),zc0 h hw,b1,by lia,str _ _, .none λd e=>by cases e;exact z1c, .none λd e=>by cases e;exact z9s _, ?_⟩
   left
   rw[e2]
   left
   rw[e3]
   left
   rw[zgZ hR h1 h2 h3 (w6.mono (by lia)) (w7.mono (by lia))]
   rw[show ∀(a:MS) (s:Stt),RS.sq a (.nx s)=a s from λ_ _=>rfl,ent _ (zc0 h hw)]
theorem zjt(ns:List Int): ∀f,rp f (.ro (ns.map .int))= .ro (ns.map .int):=λf=>z3o _ λk hk=>by
 erw[y3] at hk;obtain⟨e,he,hk⟩:=labsL_mem hk;obtain⟨j,_,rfl⟩:=m8.mp he;simp[y3] at hk
theorem iu(k:Nat)(u:Int):UpO k (some (.int u)):=UpO.of λj hj=>by erw[y3] at hj;cases hj
theorem zh1{σ tm:List (Option D)}{n:Nat}:z5v ⟨σ,tm,n⟩= .ok (Dw n []) ⟨σ,tm,n+1⟩:=rfl
theorem zc2{N0 n:Nat}{r:List (Option D)}(h: ∀o∈r,UpO N0 o)(hn:N0<=n):rpO (λj=>findL j [Bk n (n+1) []]) r=r:=z9m (q:=[]) h hn (by lia) rfl
theorem fBD{l m mm:Nat}{us:List Wo}(k:Nat):findL k [Bk l m us,Dw mm us]=if l=k then some (Bk l m us) else if m=k then some (Dw m us) else if mm=k then some (Dw mm us) else none:=by
 have e1:findL k (vsW us)=none:=findL_none _ (by rw[G9];exact i7)
 by_cases h1:l=k
 .erw[findL,Z8,if_pos h1]
 .by_cases h2:m=k
  .erw[findL,Z8,if_neg h1,if_pos h2]
  .by_cases h3:mm=k
   .erw[findL,Z8,if_neg h1,if_neg h2,if_pos h3,e1]
   .erw[findL,Z8,if_neg h1,if_neg h2,if_neg h3,e1]
theorem zh2{l m mm:Nat}{ws us:List Wo}:rp (λk=>findL k [Bk l m us,Dw mm us]) (Bk l m ws)=Bk l m us:=by
 erw[rp,fBD,if_true]
theorem zju{l m mm:Nat}{ws us:List Wo}(h1:l≠mm)(h2:m≠mm):rp (λk=>findL k [Bk l m us,Dw mm us]) (Dw mm ws)=Dw mm us:=by
 erw[rp,fBD,if_neg h1,if_neg h2,if_true]
theorem z7s{lb l m mm n:Nat}{us:List Wo}{o:Option D}(h:Av lb l m mm n o):o.map (rp (λk=>findL k [Bk l m us,Dw mm us]))=o:=by
 cases o with
 |none=>rfl
 |some t=>rw[m9,z3o t λk hk=>by have:=h t rfl _ hk;rw[fBD,if_neg (by lia),if_neg (by lia),if_neg (by lia)]]
theorem zkL{a b c:Int}: ∃v:Int,(v=a\/v=b)/\atI [D.int a,D.int b] (if(c==3)=true then 1 else 0)=some (.int v):=by
 split
 .exact⟨b, .inr rfl,at1⟩
 .exact⟨a, .inl rfl,at0⟩
def zbe:MS:=(Y4 (Q4 (.nm 2) (Z4 z2y [(y1 0),(y1 1)]))
 (Y4 (Q4 (.nm 3) (mCB [(Z0 (Z4 Z2 [(y1 2),(mC (.int 4))]) (mC (.int 3)) eqD)] zbr))
 (Y4 (Q4 (.nm 4) (z5y "Book" Y2 []))
 (Y4 (Q4 (.nm 5) z5v)
 (Y4 (z7A (z02 [(Z0 (mCB [(Z4 Z2 [(y1 2),(mC (.int 7))]),(mC (.int 60))] lstM) (y1 3) ixD)]) (.nm 6) zhh)
 (Y4 (z7A (z02 [(Z0 (mC (.int 8)) (Z4 Z2 [(y1 2),(mC (.int 9))]) v1)]) (.nm 8) zhj)
 (sIf (z2M (G1 (Z4 G4 [(y1 4),(y1 5)]))) (J1 (mC (.bool false))) sNx)))))))
theorem zdY(ns:List Int)(hl:ns.length<1000)(i:Nat)(hi:i<4)(n:Nat)(r:List (Option D))(hr: ∀o∈r,UpO n o)(lr:r.length=10):
 ∃(n':Nat) (r':List (Option D)),zbe ⟨some (.ro (ns.map .int))::some (.int i)::r,[some (.ro (ns.map .int))],n⟩= .nx ⟨some (.ro (ns.map .int))::some (.int i)::r',[some (.ro (ns.map .int))],n'⟩/\(∀o∈r',UpO n' o)/\r'.length=10:=by
 match r,lr with
 |[o2,o3,o4,o5,o6,o7,o8,o9,o10,o11],_=>
 have sR:=zjt ns
 have uR: ∀k,UpO k (some (D.ro (ns.map .int))):=λk=>UpO.of λj hj=>by erw[y3] at hj;obtain⟨e,he,hk⟩:=labsL_mem hj;obtain⟨j,_,rfl⟩:=m8.mp he;simp[y3] at hk
 generalize hR:D.ro (ns.map .int)=R at sR uR⊢
 obtain⟨c,x,b0,e0⟩:=zgz ns i n (by lia) hl
 rw[hR] at e0
 erw[i6] at hr
 obtain⟨u2,u3,u4,u5,u6,u7,u8,u9,u10,u11,_⟩:=hr
 have s3:=λd=>u3.fixk (c6 n) d
 have s4:=λd=>u4.fixk (c6 n) d
 have s5:=λd=>u5.fixk (c6 n) d
 have s6:=λd=>u6.fixk (c6 n) d
 have s7:=λd=>u7.fixk (c6 n) d
 have s8:=λd=>u8.fixk (c6 n) d
 have s9:=λd=>u9.fixk (c6 n) d
 have s10:=λd=>u10.fixk (c6 n) d
 have s11:=λd=>u11.fixk (c6 n) d
 obtain⟨j,c1,x1,j0,j1,b1,e1⟩:=j6 n c x 4 (n+1) b0 (by decide) (by decide)
 unfold zbe
 left
 rw[e0]
 left
 rw[e1,W5 rfl rfl rfl (λq=>by left;erw[sR,s3,s4,s5,s6,s7,s8,s9,s10,s11];rfl) (λq=>by left;erw[sR];rfl)]
 left
 have mn:n<=n+1:=by lia
 have bu: ∀(k:Nat) (u w:Int),n<k->UpO k (some (.lst n [.int u, .int w])):=λk u w h=>UpO.of λj hj=>by erw[y3,labsL,e7,c9,i7,or_false] at hj;lia
 rw[zdR (zc2 (N0:=n+1) (by
  erw[i6]
  exact⟨uR _,iu _ _,bu _ _ _ (by lia),iu _ _,u4.mono mn,u5.mono mn,u6.mono mn,u7.mono mn,u8.mono mn,u9.mono mn,u10.mono mn,u11.mono mn,λ_ h=>nomatch h⟩) (c6 _)) (zc2 (N0:=n+1) (by
  erw[i6]
  exact⟨uR _,λ_ h=>nomatch h⟩) (c6 _))]
 left
 rw[zh1]
 left
 generalize hL:n+1=L
 generalize hM:L+1=M
 generalize hMM:L+2=MM
 have zB: ∀d us,rp (pl n d) (Bk L M us)=Bk L M us:=λd us=>z7q (by lia) (by lia)
 have zD: ∀d us,rp (pl n d) (Dw MM us)=Dw MM us:=λd us=>zb5 (by lia)
 obtain⟨k,c2,x2,k0,k1,b2,e2⟩:=j6 n c1 x1 7 (MM+1) b1 (by decide) (by decide)
 obtain⟨v,hv,ev⟩:=zkL (a:=k) (b:=60) (c:=j)
 have hv0:0<=v/\v<=60:=by lia
 rw[e2,W5 rfl rfl rfl (λq=>by left;erw[sR,zB,zD,s6,s7,s8,s9,s10,s11];rfl) (λq=>by left;erw[sR];rfl)]
 left
 rw[ev]
 left
 rw[z3d ⟨by lia,by lia⟩]
 left
 generalize hf:(if(j==3)=true then(1:Int) else 0)=fu
 obtain⟨s',e3,c3,x3,ws,p6,p7,n3,rfl,b3,f3,k3,q6,q7,g3⟩:=z2F (P:=λi' s=> ∃(c x:Int) (ws:List Wo) (p6 p7:Option D) (n3:Nat),s=⟨[some R,some (.int i),some (.lst n [.int c, .int x]),some (.int fu),some (Bk L M ws),some (Dw MM ws),p6,p7,o8,o9,o10,o11],[some R],n3⟩/\Bg c x/\Fst ws i'/\Bks ws/\UpO n p6/\UpO n p7/\MM<n3) (lo:=0) (N:=v.toNat) (g:= .nm 6) (b:=zhh) (by
  rintro i' hi' s ⟨c,x,ws,p6,p7,n3,rfl,hb,hf,hk,q6,q7,g3⟩
  refine⟨[some R,some (.int i),some (.lst n [.int c, .int x]),some (.int fu),some (Bk L M ws),some (Dw MM ws),some (.int i'),p7,o8,o9,o10,o11],by erw[E3];rfl, ?_⟩
  obtain⟨w,c',x',n',hf',hk',hb',hn',e⟩:=zgV R sR i fu n L M MM n n3 c x hb ws i' (by lia) hf hk p7 q7 [o8,o9,o10,o11] (by
   erw[i6]
   exact⟨u8,u9,u10,u11,λ_ h=>nomatch h⟩) (c6 _) (by lia) (by lia) (by lia) g3
  exact⟨_,e,c',x',ws++[w],_,_,n',rfl,hb',hf',hk',iu _ _,zkK,by lia⟩) v.toNat 0 ⟨[some R,some (.int i),some (.lst n [.int c2, .int x2]),some (.int fu),some (Bk L M []),some (Dw MM []),o6,o7,o8,o9,o10,o11],[some R],MM+1+1⟩ (by lia) ⟨c2,x2,[],o6,o7,MM+1+1,rfl,b2,⟨rfl,λ_ h=>nomatch h⟩,Bks.nil,u6,u7,by lia⟩
 rw[e3]
 left
 obtain⟨t,c4,x4,t0,t1,b4,e4⟩:=j6 n c3 x3 9 n3 b3 (by decide) (by decide)
 have w6:=λd=>q6.fixk (c6 n) d
 have w7:=λd=>q7.fixk (c6 n) d
 rw[e4,W5 rfl rfl rfl (λq=>by left;erw[sR,zB,zD,w6,w7,s8,s9,s10,s11];rfl) (λq=>by left;erw[sR];rfl)]
 left
 rw[z3d ⟨by lia,by lia⟩]
 left
 have av: ∀{o:Option D},UpO n o->Av n L M MM n3 o:=λh=>Av.of h (by lia) (by lia) (by lia) (by lia) (by lia)
 obtain⟨s',e5,c5,x5,ws5,p6,p7,p8,p9,p10,p11,n5,rfl,b5,k5,q6,q7,q8,q9,q10,q11,g5⟩:=z2F (P:=λ_ s=> ∃(c x:Int) (ws:List Wo) (p6 p7 p8 p9 p10 p11:Option D) (n3:Nat),s=⟨[some R,some (.int i),some (.lst n [.int c, .int x]),some (.int fu),some (Bk L M ws),some (Dw MM ws),p6,p7,p8,p9,p10,p11],[some R],n3⟩/\Bg c x/\Bks ws/\Av n L M MM n3 p6/\Av n L M MM n3 p7/\Av n L M MM n3 p8/\Av n L M MM n3 p9/\Av n L M MM n3 p10/\Av n L M MM n3 p11/\MM<n3) (lo:=0) (N:=(8+t).toNat) (g:= .nm 8) (b:=zhj) (by
  rintro i' hi' s ⟨c,x,ws,p6,p7,p8,p9,p10,p11,n3,rfl,hb,hk,q6,q7,q8,q9,q10,q11,g3⟩
  refine⟨[some R,some (.int i),some (.lst n [.int c, .int x]),some (.int fu),some (Bk L M ws),some (Dw MM ws),p6,p7,some (.int i'),p9,p10,p11],by erw[E3];rfl, ?_⟩
  obtain⟨ws',c',x',n',z9,z10,z11,hk',hb',hn',y9,y10,y11,e⟩:=zh0 R sR i fu i' n L M MM n3 c x hb ws hk p6 p7 p9 p10 p11 q6 q7 q9 q10 q11 (by lia) (by lia) (by lia) g3
  exact⟨_,e,c',x',ws',_,_,_,_,_,_,n',rfl,hb',hk',q6.mono hn',q7.mono hn',Av.none (λd e=>by cases e;rfl),y9,y10,y11,by lia⟩) (8+t).toNat 0 ⟨[some R,some (.int i),some (.lst n [.int c4, .int x4]),some (.int fu),some (Bk L M ws),some (Dw MM ws),p6,p7,o8,o9,o10,o11],[some R],n3⟩ (by lia) ⟨c4,x4,ws,p6,p7,o8,o9,o10,o11,n3,rfl,b4,k3,av q6,av q7,av u8,av u9,av u10,av u11,by lia⟩
 rw[e5]
 left
 obtain⟨ws6,n6,k6,g6,e6⟩:=zjp L M MM n5 (by lia) (by lia) ws5 k5
 have y6:=λus=>z7s (us:=us) q6
 have y7:=λus=>z7s (us:=us) q7
 have y8:=λus=>z7s (us:=us) q8
 have y9:=λus=>z7s (us:=us) q9
 have y10:=λus=>z7s (us:=us) q10
 have y11:=λus=>z7s (us:=us) q11
 have yb: ∀us (u v:Int),rp (λk=>findL k [Bk L M us,Dw MM us]) (.lst n [.int u, .int v])= .lst n [.int u, .int v]:=λus u v=>z3o _ λk hk=>by
  erw[y3,labsL,e7,c9,i7,or_false] at hk
  rw[fBD,if_neg (by lia),if_neg (by lia),if_neg (by lia)]
 have yD: ∀us us',rp (λk=>findL k [Bk L M us,Dw MM us]) (Dw MM us')=Dw MM us:=λus us'=>zju (by lia) (by lia)
 rw[e6,X0 (λk hk=>by
  rw[fBD]
  have hk:k∈[L,M,MM]:=by
   rw[labsL,labsL,labsL,z2K,U8] at hk
   exact hk
  erw[c9,i7,or_false] at hk
  rcases hk with rfl|rfl|rfl
  .simp
  .split<;>simp
  .split
   .simp
   .split<;>simp) (λe=>by
  injection e with eB e2
  injection e2 with eD _
  erw[J3,K3,m9,sR,z1b,zh2,yD,yb,y6,y7,y8,y9,y10,y11,eB,eD,and_self])]
 left
 erw[sR,zh2,yD,yb,y6,y7,y8,y9,y10,y11]
 try (left)
 refine⟨n6,[some (.lst n [.int c5, .int x5]),some (.int fu),some (Bk L M ws6),some (Dw MM ws6),p6,p7,p8,p9,p10,p11],rfl, ?_,rfl⟩
 erw[i6]
 exact⟨bu _ _ _ (by lia),iu _ _,UpO.of λj hj=>by rw[z2K] at hj;erw[c9,i7,or_false] at hj;lia,UpO.of λj hj=>by rw[U8] at hj;erw[c9,i7,or_false] at hj;lia,q6.up.mono g6,q7.up.mono g6,q8.up.mono g6,q9.up.mono g6,q10.up.mono g6,q11.up.mono g6,λ_ h=>nomatch h⟩
theorem zh3(ns:List Int)(hl:ns.length<1000)(n:Nat): ∃n',f_law [.ro (ns.map .int)] n= .ok (.bool true) [.ro (ns.map .int)] n':=by
 unfold f_law
 have e0:zdn=Y4 (z7A (z02 [mCB [mC (.int 1),mCB [mC (.int 2),mCB [y1 0] z2S] zcQ] ze5]) (.nm 1) zbe) (J1 (mC (.bool true))):=rfl
 rw[e0]
 left
 have w0:((ns.map D.int).length:Int)=ns.length:=by simp
 rw[w0]
 generalize hk:(if(if(ns.length:Int)<2 then(ns.length:Int) else 2)>1 then(if(ns.length:Int)<2 then(ns.length:Int) else 2) else(1:Int))=k
 have hk0:0<=k/\k<=2:=by split at hk<;>(try split at hk)<;>lia
 rw[z3d ⟨by lia,by lia⟩]
 left
 obtain⟨s',e2,o1,r,m,rfl,ur,lr⟩:=z2F (P:=λi s=> ∃(o1:Option D) (r:List (Option D)) (n:Nat),s=⟨some (.ro (ns.map .int))::o1::r,[some (.ro (ns.map .int))],n⟩/\(∀o∈r,UpO n o)/\r.length=10) (lo:=0) (N:=k.toNat) (g:= .nm 1) (b:=zbe) (by
  rintro i hi s ⟨o1,r,n,rfl,ur,lr⟩
  refine⟨some (.ro (ns.map .int))::some (.int i)::r,by erw[E3];rfl, ?_⟩
  obtain⟨n',r',e,h1,h2⟩:=zdY ns hl i (by lia) n r ur lr
  exact⟨_,e,_,r',n',rfl,h1,h2⟩) k.toNat 0 ⟨[some (.ro (ns.map .int)),none,none,none,none,none,none,none,none,none,none,none],[some (.ro (ns.map .int))],n⟩ (by lia) ⟨none,e8 10 none,n,rfl,λo ho=>by rw[List.eq_of_mem_replicate ho];nofun,rfl⟩
 rw[e2]
 left
 exact⟨m,rfl⟩
end My
set_option maxHeartbeats 4000000
namespace Mi
open PySem L2 PySem.Spec PyProof.Rows
def z9u(K:W.Frag)(np:Nat)(f:FM):Sp:=λvs H Q E=>vs.length=np/\∀G:Gx,G.K=K->KD K H->spM G np f vs H Q E
theorem zh4{P:Program}{w:World}{K:W.Frag}{mg:Str->Option Value}{base:Heap}{CX:CXT}{k:Nat}{fa:Addr}{fd:FuncData}{x:Str}{f:FM}{G:Gx}(hG:G.K=K)(F:FnOk P w K mg base CX k fa fd [x] (spM G 1 f)):FnOk P w K mg base CX k fa fd [x] (z9u K 1 f):=
 ⟨λ_ _ _ _ h=>h.1,λA outer s H args us vs Q E hr e0 hb hv h=>F.run A outer s H args us vs Q E hr e0 hb hv (h.2 G hG λa o e=>(e0.bs a o (e0.mod.kin a o e)).2)⟩
theorem RDs.ints{G:Gx}{ρ:Nat->Addr}{H:Hp}: ∀ns:List Int,RDs G ρ H (ns.map D.int) (ns.map V.int)
 |[]=>by erw[l7,RDs]
 |n::ns=>by
  erw[c8,RDs]
  exact⟨_,_,rfl,by erw[RD],RDs.ints ns⟩
theorem z53: ∀ns:List Int,labsL (ns.map D.int)=[]
 |[]=>by erw[l7,labsL]
 |n::ns=>by erw[c8,labsL,y3,z53 ns,m5]
theorem zh5{K:W.Frag}{H:Hp}{a:Addr}{ns:List Int}{f:FM}{E:XK}(e: ∀n,∃n',f [.ro (ns.map D.int)] n= .ok (.bool true) [.ro (ns.map D.int)] n')(hO:zhb H)(hS:SqL K H a (ns.map V.int)):z9u K 1 f [.ref a] H (λv _=>v= .bl true) E:=by
 refine⟨rfl,λG hG kd=> ?_⟩
 subst hG
 refine⟨rfl,λ_=>a,0,[.ro (ns.map D.int)], ?_,λi j hi=>absurd hi (P3 _),λl hl=>absurd hl (P3 _),λl hl=> ?_,kd, ?_⟩
 .erw[RDs,RD]
  refine⟨_,_,rfl,⟨a,ns.map V.int,rfl, ?_,RDs.ints ns⟩,rfl⟩
  rcases hS with(h|h)|h
  .rcases hO a with z|⟨o,xs,z⟩<;>rw[h] at z<;>cases z
  .exact .inl h
  .exact .inr h
 .erw[labsL,y3,z53,e7] at hl
  cases hl
 .obtain⟨n',e⟩:=e 0
  rw[e]
  intro ρ' v H' _ rd _
  erw[RD] at rd
  exact rd
end Mi
namespace My
open PySem L2 Mi
structure DA(K:W.Frag)(x:Str)(st:Stmt)(f:Addr)(d:FuncData):Prop where
 a:W.nsIn K mainGlobals x=some (some (.ref f))
 F:Fun K x x st f d
theorem zjv{K:W.Frag}{x:Str}{st:Stmt}{f:Addr}{oc:Value}{od an:Option Addr}{sl:Array (Option Value)}{kV dc pm cd ct:Value}(a:W.nsIn K mainGlobals x=some (some (.ref f)))
 (l:K.lookup f=some ⟨oc,od, .func (W.fnOf x x (v5 st) (W3 st) (y2 st) .none kV dc pm an cd ct),sl⟩) (c:W.codeIn K cd x=true) (k:W.keepIn K (.ref f)=true):
 DA K x st f (W.fnOf x x (v5 st) (W3 st) (y2 st) .none kV dc pm an cd ct):=⟨a,zbj l c k⟩
def dx{K:W.Frag}{h:Heap}{mg:Str->Option Value}{x:Str}{st:Stmt}{f:Addr}{d:FuncData}{ps:List Str}(X:K.In h)(G:h.Ns mainGlobals mg)(a:DA K x st f d)
 (b: ∀(kV dc pm:Value) (an:Option Addr) (cd ct:Value) (us:List Value),us.length=ps.length->bindArgs (W.fnOf x x (v5 st) (W3 st) (y2 st) .none kV dc pm an cd ct) ⟨us,[]⟩=pure (ps.zip us)):Dx K mg x st ps:=
 ⟨f,d,a.F,a.F.binds b,W.mg_of X G a.a⟩
structure DM(K:W.Frag)(C:Addr)(x q:Str)(st:Stmt)(f:Addr)(d:FuncData):Prop where
 h:z7u K C x f
 F:Fun K x q st f d
theorem zjw{K:W.Frag}{C:Addr}{x q:Str}{st:Stmt}{f:Addr}{oc:Value}{od an:Option Addr}{sl:Array (Option Value)}{kV dc pm cd ct:Value}(a:W.findIn K (.ref C) x=some (some (.ref f)))
 (l:K.lookup f=some ⟨oc,od, .func (W.fnOf x q (v5 st) (W3 st) (y2 st) .none kV dc pm an cd ct),sl⟩) (c:W.codeIn K cd q=true) (i:W.isFn K (.ref f)=true) (k:W.keepIn K (.ref f)=true):
 DM K C x q st f (W.fnOf x q (v5 st) (W3 st) (y2 st) .none kV dc pm an cd ct):=⟨⟨a,i,k⟩,zbj l c k⟩
def dmx{K:W.Frag}{C:Addr}{x q:Str}{st:Stmt}{f:Addr}{d:FuncData}{ps:List Str}(a:DM K C x q st f d)
 (b: ∀(kV dc pm:Value) (an:Option Addr) (cd ct:Value) (us:List Value),us.length=ps.length->bindArgs (W.fnOf x q (v5 st) (W3 st) (y2 st) .none kV dc pm an cd ct) ⟨us,[]⟩=pure (ps.zip us)):Dm K C x q st ps:=
 ⟨f,d,a.F,a.F.binds b,a.h⟩
theorem zh6{l:W.OpenLaw}{w:World}{K:W.Frag}{h:Heap}{mg:Str->Option Value}{fa f0 f1 f2 f3 f4 f5 f6 f7 f8 f9 f10 f11 f12 f13 f14 f15 f16 f17 f18 f19 f20 f21 f22 f23:Addr}{d0 d1 d2 d3 d4 d5 d6 d7 d8 d9 d10 d11 d12 d13 d14 d15 d16 d17 d18 d19 d20 d21 d22 d23:FuncData}(X:K.In h)(G:h.Ns mainGlobals mg)(hfa:mg "law" =some (.ref fa))
 {kbo:Addr} (kbg:nI K "Book" kbo) (cc_Book:Cls K kbo)
 (a0:DA K "_wall" z2q f0 d0)
 (a1:DA K "is_number" X5 f1 d1)
 (a2:DA K "is_whole" z07 f2 d2)
 (a3:DA K "is_row" z1p f3 d3)
 (a4:DA K "is_word" z0x f4 d4)
 (a5:DA K "_law_bag" z5A f5 d5)
 (a6:DA K "_law_take" z3z f6 d6)
 (a7:DA K "_law_whole" z2r f7 d7)
 (a8:DA K "_law_word" z3A f8 d8)
 (a9:DA K "_law_kind" z3B f9 d9)
 (a10:DA K "_law_told" z3C f10 d10)
 (a11:DA K "_law_are_numbers" U4 f11 d11)
 (a12:DA K "_law_is_word" z0y f12 d12)
 (a13:DA K "_law_odd" z5B f13 d13)
 (a14:DA K "_law_spoilt" z1q f14 d14)
 (a15:DA K "_law_no_twins" z08 f15 d15)
 (a16:DA K "_law_due" z5C f16 d16)
 (a17:DA K "_law_thing" z2s f17 d17)
 (a18:DA K "law" zdj f18 d18)
 (a19:DM K kbo "__init__" "Book.__init__" J8 f19 d19)
 (a20:DM K kbo "put" "Book.put" z09 f20 d20)
 (a21:DM K kbo "take" "Book.take" X6 f21 d21)
 (a22:DM K kbo "words" "Book.words" V1 f22 d22)
 (a23:DM K kbo "standing" "Book.standing" J9 f23 d23)
 (z0:W.nsIn K mainGlobals "ValueError" =some none)
 (z1:W.nsIn K mainGlobals "abs" =some none)
 (z2:W.nsIn K mainGlobals "all" =some none)
 (z3:W.nsIn K mainGlobals "bool" =some none)
 {tk4:Nat} (z4:W.nsIn K mainGlobals "LAST_SOUND" =some (some (.int 39 tk4)))
 {tk5:Nat} (z5:W.nsIn K mainGlobals "LAST_WORD_COST" =some (some (.int 9999 tk5)))
 {tk6:Nat} (z6:W.nsIn K mainGlobals "LAST_WORD_KIND" =some (some (.int 7 tk6)))
 {tk7:Nat} (z7:W.nsIn K mainGlobals "LAST_WORD_SIGN" =some (some (.int 999 tk7)))
 {tk8:Nat} (z8:W.nsIn K mainGlobals "MOST_WORDS" =some (some (.int 60 tk8)))
 {tk9:Nat} (z9:W.nsIn K mainGlobals "MOST_WORD_SIGNS" =some (some (.int 4 tk9)))
 {tk10:Nat} (z10:W.nsIn K mainGlobals "MOST_WORD_SOUNDS" =some (some (.int 6 tk10)))
 (z11:W.nsIn K mainGlobals "int" =some none)
 (z12:W.nsIn K mainGlobals "isinstance" =some none)
 (z13:W.nsIn K mainGlobals "len" =some none)
 (z14:W.nsIn K mainGlobals "list" =some none)
 (z15:W.nsIn K mainGlobals "max" =some none)
 (z16:W.nsIn K mainGlobals "min" =some none)
 (z17:W.nsIn K mainGlobals "range" =some none)
 (z18:W.nsIn K mainGlobals "repr" =some none)
 (z19:W.nsIn K mainGlobals "sorted" =some none)
 (z20:W.nsIn K mainGlobals "tuple" =some none)
 {kaY:Addr}
 (q1:nI K "Barred" kaY)
 {kai:Addr}
 (q3:nI K "BenchError" kai)
 {kbk:Addr}
 (q5:nI K "Fight" kbk)
 {kbn:Addr}
 (q7:nI K "Full" kbn)
 {kbd:Addr}
 (q9:nI K "Marked" kbd)
 {kaR:Addr}
 (q11:nI K "Missing" kaR)
 {kax:Addr}
 (q13:nI K "NoChoice" kax)
 {kas:Addr}
 (q15:nI K "NoCutting" kas)
 {kbc:Addr}
 (q17:nI K "NoDeed" kbc)
 {kbe:Addr}
 (q19:nI K "NoMark" kbe)
 {ka5:Addr}
 (q21:nI K "NoNode" ka5)
 {kaO:Addr}
 (q23:nI K "NoPlace" kaO)
 {kay:Addr}
 (q25:nI K "NoSaying" kay)
 {kaj:Addr}
 (q27:nI K "NoStanding" kaj)
 {kaP:Addr}
 (q29:nI K "NoTable" kaP)
 {ka4:Addr}
 (q31:nI K "NoText" ka4)
 {ka9:Addr}
 (q33:nI K "NoTurn" ka9)
 {ka0:Addr}
 (q35:nI K "NoWish" ka0)
 {ka1:Addr}
 (q37:nI K "NoWord" ka1)
 {kaV:Addr}
 (q39:nI K "Nothing" kaV)
 {kaH:Addr}
 (q41:nI K "TooLong" kaH)
 {kaQ:Addr}
 (q43:nI K "TooMany" kaQ)
 {kbm:Addr}
 (q45:nI K "Twice" kbm)
 {kbi:Addr}
 (q47:nI K "Waits" kbi)
 (q48:xA K kaR)
 (q49:mO K kaR "object")
 (q50:mO K kaR "BaseException")
 (q51:fA K kaR)
 (q52:fB K kaR)
 (q53:fC K kaR)
 (q54:eB K kaR kai)
 (q55:kF K kaR ka1 false)
 (q56:kF K kaR kbm false)
 (q57:kF K kaR kaQ false)
 (q58:kF K kaR kaR true)
 (q59:kN K kaR [kaO,kax,kbe,kbd,kaY,kaH,kaj,kbc,kbn,ka5])
 (q60:kN K kaR [ka4,kaV,ka0,kbk,kas,kbi,ka9,kaP,kay])
 (q61:kF K kaR kai true)
 (q62:kV K kaR)
 (q63:xA K ka1)
 (q64:mO K ka1 "object")
 (q65:mO K ka1 "BaseException")
 (q66:fA K ka1)
 (q67:fB K ka1)
 (q68:fC K ka1)
 (q69:eB K ka1 kai)
 (q70:kF K ka1 ka1 true)
 (q71:kF K ka1 kbm false)
 (q72:kF K ka1 kaQ false)
 (q73:kF K ka1 kaR false)
 (q74:kN K ka1 [kaO,kax,kbe,kbd,kaY,kaH,kaj,kbc,kbn,ka5])
 (q75:kN K ka1 [ka4,kaV,ka0,kbk,kas,kbi,ka9,kaP,kay])
 (q76:kF K ka1 kai true)
 (q77:kV K ka1)
 (q78:xA K kaQ)
 (q79:mO K kaQ "object")
 (q80:mO K kaQ "BaseException")
 (q81:fA K kaQ)
 (q82:fB K kaQ)
 (q83:fC K kaQ)
 (q84:eB K kaQ kai)
 (q85:kF K kaQ ka1 false)
 (q86:kF K kaQ kbm false)
 (q87:kF K kaQ kaQ true)
 (q88:kF K kaQ kaR false)
 (q89:kN K kaQ [kaO,kax,kbe,kbd,kaY,kaH,kaj,kbc,kbn,ka5])
 (q90:kN K kaQ [ka4,kaV,ka0,kbk,kas,kbi,ka9,kaP,kay])
 (q91:kF K kaQ kai true)
 (q92:kV K kaQ)
 (q93:xA K kbm)
 (q94:mO K kbm "object")
 (q95:mO K kbm "BaseException")
 (q96:fA K kbm)
 (q97:fB K kbm)
 (q98:fC K kbm)
 (q99:eB K kbm kai)
 (q100:kF K kbm ka1 false)
 (q101:kF K kbm kbm true)
 (q102:kF K kbm kaQ false)
 (q103:kF K kbm kaR false)
 (q104:kN K kbm [kaO,kax,kbe,kbd,kaY,kaH,kaj,kbc,kbn,ka5])
 (q105:kN K kbm [ka4,kaV,ka0,kbk,kas,kbi,ka9,kaP,kay])
 (q106:kF K kbm kai true)
 (q107:kV K kbm)
 (q108:v2 K kbo "costs")
 (q109:Mk K kbo f19)
 (q110:[kaR,ka1,kaQ,kbm,kbo].Nodup)
 : ∃fd:FuncData,(∀(s:Shared) (v:Value),BindsTo s fd ⟨[v],[]⟩ [("_law_script",v)])/\∀base:Heap,K.In base->base.Ns mainGlobals mg->FnOk l.prog w K mg base CX0 17 fa fd ["_law_script"] (z9u K 1 f_law):=by
 have e:=hfa.symm.trans (W.mg_of X G a18.a)
 cases e
 obtain⟨oc,od,kV,doc,pm,an,cdv,ct,osl,rfl,lk,hcd⟩:=a18.F.ex
 exact⟨_,λs v=> .of_eq rfl,λbase _ _=>zh4 rfl (zfZ ⟨kbo,W.mg_of X G kbg,cc_Book,dx X G a0 λ_ _ _ _ _ _ us hl=>match us,hl with|[_],_=>rfl,dx X G a1 λ_ _ _ _ _ _ us hl=>match us,hl with|[_],_=>rfl,dx X G a2 λ_ _ _ _ _ _ us hl=>match us,hl with|[_,_,_],_=>rfl,dx X G a3 λ_ _ _ _ _ _ us hl=>match us,hl with|[_,_,_,_],_=>rfl,dx X G a4 λ_ _ _ _ _ _ us hl=>match us,hl with|[_],_=>rfl,dx X G a5 λ_ _ _ _ _ _ us hl=>match us,hl with|[_,_],_=>rfl,dx X G a6 λ_ _ _ _ _ _ us hl=>match us,hl with|[_,_],_=>rfl,dx X G a7 λ_ _ _ _ _ _ us hl=>match us,hl with|[_],_=>rfl,dx X G a8 λ_ _ _ _ _ _ us hl=>match us,hl with|[_],_=>rfl,dx X G a9 λ_ _ _ _ _ _ us hl=>match us,hl with|[_],_=>rfl,dx X G a10 λ_ _ _ _ _ _ us hl=>match us,hl with|[_,_,_],_=>rfl,dx X G a11 λ_ _ _ _ _ _ us hl=>match us,hl with|[_,_,_,_],_=>rfl,dx X G a12 λ_ _ _ _ _ _ us hl=>match us,hl with|[_],_=>rfl,dx X G a13 λ_ _ _ _ _ _ us hl=>match us,hl with|[_,_],_=>rfl,dx X G a14 λ_ _ _ _ _ _ us hl=>match us,hl with|[_,_],_=>rfl,dx X G a15 λ_ _ _ _ _ _ us hl=>match us,hl with|[_,_],_=>rfl,dx X G a16 λ_ _ _ _ _ _ us hl=>match us,hl with|[_,_,_],_=>rfl,dx X G a17 λ_ _ _ _ _ _ us hl=>match us,hl with|[_,_],_=>rfl,dx X G a18 λ_ _ _ _ _ _ us hl=>match us,hl with|[_],_=>rfl,dmx a19 λ_ _ _ _ _ _ us hl=>match us,hl with|[_],_=>rfl,dmx a20 λ_ _ _ _ _ _ us hl=>match us,hl with|[_,_],_=>rfl,dmx a21 λ_ _ _ _ _ _ us hl=>match us,hl with|[_,_,_,_],_=>rfl,dmx a22 λ_ _ _ _ _ _ us hl=>match us,hl with|[_],_=>rfl,dmx a23 λ_ _ _ _ _ _ us hl=>match us,hl with|[_,_,_],_=>rfl,W.mg_none_of X G z0,W.mg_none_of X G z1,W.mg_none_of X G z2,W.mg_none_of X G z3,⟨_,W.mg_of X G z4⟩,⟨_,W.mg_of X G z5⟩,⟨_,W.mg_of X G z6⟩,⟨_,W.mg_of X G z7⟩,⟨_,W.mg_of X G z8⟩,⟨_,W.mg_of X G z9⟩,⟨_,W.mg_of X G z10⟩,W.mg_none_of X G z11,W.mg_none_of X G z12,W.mg_none_of X G z13,W.mg_none_of X G z14,W.mg_none_of X G z15,W.mg_none_of X G z16,W.mg_none_of X G z17,W.mg_none_of X G z18,W.mg_none_of X G z19,W.mg_none_of X G z20,kaY,W.mg_of X G q1,kai,W.mg_of X G q3,kbk,W.mg_of X G q5,kbn,W.mg_of X G q7,kbd,W.mg_of X G q9,kaR,W.mg_of X G q11,kax,W.mg_of X G q13,kas,W.mg_of X G q15,kbc,W.mg_of X G q17,kbe,W.mg_of X G q19,ka5,W.mg_of X G q21,kaO,W.mg_of X G q23,kay,W.mg_of X G q25,kaj,W.mg_of X G q27,kaP,W.mg_of X G q29,ka4,W.mg_of X G q31,ka9,W.mg_of X G q33,ka0,W.mg_of X G q35,ka1,W.mg_of X G q37,kaV,W.mg_of X G q39,kaH,W.mg_of X G q41,kaQ,W.mg_of X G q43,kbm,W.mg_of X G q45,kbi,W.mg_of X G q47,q48,q49,q50,q51,q52,q53,q54,q55,q56,q57,q58,q59,q60,q61,q62,q63,q64,q65,q66,q67,q68,q69,q70,q71,q72,q73,q74,q75,q76,q77,q78,q79,q80,q81,q82,q83,q84,q85,q86,q87,q88,q89,q90,q91,q92,q93,q94,q95,q96,q97,q98,q99,q100,q101,q102,q103,q104,q105,q106,q107,q108,q109,q110⟩)⟩
theorem zkM{l:W.OpenLaw}{q:Program}{loose:List Str}{XP:(Str->Option Value)->Heap->Prop}{YP:World->Heap->Prop}{d:DefRec}{K:Params->W.Frag}(hn:l.most=some 63)(hdf:d.params.defaults=[])
 (hY: ∀(w:World) (h:Heap),YP w h->(K w.params).In h)
 (F: ∀(w:World) (mg:Str->Option Value) (fa:Addr) (h:Heap),(K w.params).In h->h.Ns mainGlobals mg->mg d.name=some (.ref fa)->
  ∃fd:FuncData,(∀(s:Shared) (u:Value),BindsTo s fd ⟨[u],[]⟩ [("_law_script",u)])/\∀base:Heap,(K w.params).In base->base.Ns mainGlobals mg->FnOk l.prog w (K w.params) mg base CX0 17 fa fd ["_law_script"] (z9u (K w.params) 1 f_law)):
 W.WalkO q loose XP YP l.row.toRowW d [] (λf vs=>PySem.call f vs):=
 L2.zcz (n:=63) (k:=17) (x:= "_law_script") (CX:=λ_=>CX0) (sp:=λw=>z9u (K w.params) 1 f_law) hn (by decide) hdf ⟨rfl,by decide,by decide,rfl⟩ hY F (λ_ _ a ns hl hO hS=>zh5 (λn=>zh3 ns (by lia) n) hO hS) λ_ _ _ _ _ h=>h.elim
end My
inductive PySem.W.Fast:Prop|tw16792602650444651854|tw6195822722480442823|tw5063295561268860063|tw7363574524861803124|tw9667082266299434614|tw573629081637685808|tw1388135883170587580|tw1826299445558507551|tw6185391728995877365|tw12441292380345178379|tw14170153317650728305|tw14405104803872658293|tw1489311494664193678|tw2417078075389439072|tw9497858574283491217|tw3132221248459185416|tw12086579945282647003|tw13839151093135630831|tw1887585715919356676|tw4089782038260695147|tw654355666445120672|tw1684294744908242232|tw15392372831777801304|tw3734641172311513558|tw1295255720976998414|tw11709999027463117131|tw8025433762265947672|tw12729487093960723472|tw12677070135401022536|tw4203116841898620954|tw378355065566460665|tw5145744607267132857|tw3257094137479004513|tw9484711760874754473|tw7015935616239912712|tw3742813334610925301|tw1236351964043699077|tw6777299301905017299|tw13452020862628023473|tw5779374777383552221|tw9646567980427739497|tw6724310288734374505|tw14323331126859301759|tw5790193907255189694|tw11029210971164944906|tw16805554186854259703|tw18117117200182501999|tw2739853480882618111|tw16617115557354961876|tw7904520044888954572|tw8066561729581432125|tw2371541671604037266|tw4539236893400095469|tw13686422085212691851|tw10414921010867763821|tw6076678471137888502|tw11828293341762983815|tw14039310520537799649|tw10066924211925646313|tw4568478106922497342|tw1819598635233078841|tw3526896064177448223|tw9304054897597310086|tw17055736893155567021|tw15367984427378842198|tw16416156899485740478|tw17307280104138086885|tw2022840150487787673|tw7088232200181367104|tw15799285656221112258|tw16348482298237628572|tw9577882159968922397|tw10589922835764493700|tw3123816216163807075|tw5605917947758404426|tw14121138077919707130|tw15897354535913036538|tw43289612716714618|tw14062177522757671981|tw2033320847570404910|tw3727469006540470653|tw3306280211903608526|tw2187270003325676403|tw97542884009412969|tw4847867061342058076|tw961980948594361021|tw6664646342005991691|tw7527978653768546865|tw16645386409844554268|tw7694082664151357261|tw7936236114178221652|tw4672313455098249681|tw7785015167324833253|tw220474133594398931|tw4041422668421694078|tw14080270486777118725|tw5226402811522257252|tw8879449492199271489|tw15545559332234176385|tw16234658997572952444|tw16596119403474166779|tw17857834893015299499|tw13695118257338857516|tw17840136965504246543|tw3722180367482516015|tw10087468852501417836
open PySem PySem.W PyProof.Rows
set_option maxRecDepth 100000 in
set_option maxHeartbeats 0 in
theorem PySem.Challenge.cw_signbench_k09_words_refused_and_taken_ou_holds : PySem.Challenge.rw_signbench_k09_words_refused_and_taken_ou.Holds := by
 w_on;o_law;k_head;(case hw=>w_witness2)
 k_fill
 refine My.zkM (l:=PySem.Challenge.rw_signbench_k09_words_refused_and_taken_ou) rfl rfl (λw h Y=>PySem.W.kIn_of Y) ?F
 case F=>
  intro w mg fa h KX G hmg
  apply My.zh6 KX G hmg<;>(try delta My.nI My.kF My.kN My.kV My.fA My.fB My.fC My.xA My.mO My.eB)<;>first|(apply My.zjv<;>k_is)|(apply My.zjw<;>k_is)|(apply L2.Cls.mk<;>k_is)|(apply L2.Mk.mk<;>k_is)|k_is|kernel_rfl|rfl|decide
