import PyProof.Rows.All
import Wide.All
import OpenK.AllK
import Wide.FinOn
import Lean
import PyProof.EqAt
import PyProof.EqKinds
import PyProof.TupleCall
import PyProof.CallFns
import PyProof.CallStr
import PyProof.DictTruth
import PyProof.Draws
import PyProof.EnumMake
import PyProof.ListRange
import PyProof.MeetsStr
import PyProof.P3Eq
import PyProof.Rows.CallKw2
import PyProof.Rows.CountFlat
import PyProof.Rows.FStr
import PyProof.Rows.Range3
import PyProof.Rows.StrJoin2
import PyProof.Rows.StrNews
import PyProof.Rows.ZipGen
import PyProof.SetRoads
import PyProof.StrBlockI
import PyProof.StrCalls
import PyProof.StrCalls5
import PyProof.StrOps2
import PyProof.StrWalks
import PyProof.SumAny
import PyProof.WalkInts
import PyProof.ZipIter
import PySem.Challenge.RW_signbench_k34_words_made
set_option Elab.async false
set_option linter.all false
set_option maxRecDepth 100000
namespace L2
open PySem PySem.Spec PyProof.Rows
noncomputable abbrev Key:=Sum Int Str
noncomputable def z4G:Key->Value->Bool
 | .inl k,v=>Value.isInt k v
 | .inr x,v=>Value.isStrOf x v
noncomputable def keyH(w:World):Key->Int
 | .inl k=>hashInt k
 | .inr x=>hashStr w x
theorem z0f: ∀{k:Key} {v:Value},z4G k v=true->(∃i t,k=Sum.inl i/\v=Value.int i t)\/(∃x t,k=Sum.inr x/\v=Value.str x t)
 | .inl i,v,h=>by
  obtain⟨t,e⟩:=Value.isInt_shape (k:=i) (v:=v) h
  exact .inl ⟨i,t,rfl,e⟩
 | .inr x,v,h=>by
  obtain⟨t,e⟩:=Value.isStrOf_shape (x:=x) (v:=v) h
  exact .inr ⟨x,t,rfl,e⟩
theorem z6h(i:Int)(t:Tok):z4G (.inl i) (.int i t)=true:=by simp[z4G,Value.isInt]
theorem z6i(x:Str)(t:Tok):z4G (.inr x) (.str x t)=true:=by simp[z4G,Value.isStrOf]
theorem zbd(a b:Int):decide ((Sum.inl a:Key)=Sum.inl b)=(a==b):=by
 by_cases e:a=b
 ·subst e;simp
 ·have h: ¬(Sum.inl a:Key)=Sum.inl b:=fun q=>e (Sum.inl.inj q)
  rw[decide_eq_false h]
  exact(beq_eq_false_iff_ne.mpr e).symm
theorem zbe(a b:Str):decide ((Sum.inr a:Key)=Sum.inr b)=decide (a=b):=by
 by_cases e:a=b
 ·subst e;simp
 ·have h: ¬(Sum.inr a:Key)=Sum.inr b:=fun q=>e (Sum.inr.inj q)
  rw[decide_eq_false h,decide_eq_false e]
theorem zbf(a:Int)(b:Str):decide ((Sum.inl a:Key)=Sum.inr b)=false:=decide_eq_false (fun q=>nomatch q)
theorem zbg(a:Str)(b:Int):decide ((Sum.inr a:Key)=Sum.inl b)=false:=decide_eq_false (fun q=>nomatch q)
noncomputable def z0d(prog:Program)(w:World):PySem.KeyKind prog w Key where
 is:=z4G
 hash:=keyH w
 inj:=fun v a b ha hb=>by
  rcases z0f ha with⟨i,t,rfl,rfl⟩|⟨x,t,rfl,rfl⟩
  ·rcases z0f hb with⟨j,u,rfl,e⟩|⟨y,u,rfl,e⟩
   ·injection e with e1 _;rw[e1]
   ·exact nomatch e
  ·rcases z0f hb with⟨j,u,rfl,e⟩|⟨y,u,rfl,e⟩
   ·exact nomatch e
   ·injection e with e1 _;rw[e1]
 byValue:=fun k v h=>by
  rcases z0f h with⟨i,t,rfl,rfl⟩|⟨x,t,rfl,rfl⟩<;>rfl
 pyHash:=fun hv h=>by
  rcases z0f hv with⟨i,t,rfl,rfl⟩|⟨x,t,rfl,rfl⟩
  ·exact wpAny_pyHash_int h
  ·exact wpAny_pyHash_str h
 eqBool:=fun hu hv h=>by
  rcases z0f hu with⟨i,t,rfl,rfl⟩|⟨x,t,rfl,rfl⟩
  ·rcases z0f hv with⟨j,u,rfl,rfl⟩|⟨y,u,rfl,rfl⟩
   ·rw[zbd] at h;exact wpAny_eqBool_int h
   ·rw[zbf] at h;exact SeqAt.EqAt.int_str i t y u _ _ _ _ h
  ·rcases z0f hv with⟨j,u,rfl,rfl⟩|⟨y,u,rfl,rfl⟩
   ·rw[zbg] at h;exact SeqAt.EqAt.str_int x t j u _ _ _ _ h
   ·rw[zbe] at h;exact wpAny_eqBool_str h
 «strs» :=fun k x t v h=>by
  rcases z0f h with⟨i,u,rfl,e⟩|⟨y,u,rfl,e⟩
  ·exact nomatch e
  ·injection e with e1 _
   subst e1
   cases v<;>rfl
theorem z4H(prog:Program)(w:World)(i:Int)(t:Tok):(z0d prog w).is (.inl i) (.int i t)=true:=z6h i t
theorem z4I(prog:Program)(w:World)(x:Str)(t:Tok):(z0d prog w).is (.inr x) (.str x t)=true:=z6i x t
inductive V where
 |non|bl (b:Bool)|int (i:Int)|str (x:Str)|byt (b:Array UInt8)|flt (b:UInt64)|ref (a:Addr)|ty (n:String)
 deriving DecidableEq
noncomputable def RelV:V->Value->Prop
 | .non,u=>u=Value.none
 | .bl b,u=>u=Value.bool b
 | .int i,u=> ∃t,u=Value.int i t
 | .str x,u=> ∃t,u=Value.str x t
 | .byt b,u=> ∃t,u=Value.bytes b t
 | .flt b,u=> ∃t,u=Value.float b t
 | .ref a,u=>u=Value.ref a
 | .ty n,u=>u=Value.type n
noncomputable abbrev Vals:List V->List Value->Prop:=Paired RelV
theorem Vals.length{xs:List V}{us:List Value}(r:Vals xs us):xs.length=us.length:=Paired.length r
theorem Vals.get: ∀{xs:List V} {us:List Value} {i:Nat} {x:V},Vals xs us->xs[i]? =some x->∃u,us[i]? =some u/\RelV x u
 |_,_,_,_, .nil,e=>by simp at e
 |_,_,0,_, .cons r _,e=>by simp at e;subst e;exact⟨_,rfl,r⟩
 |_,_,i+1,x, .cons _ t,e=>by
  obtain⟨u,h1,h2⟩:=Vals.get (i:=i) (x:=x) t (by simpa using e)
  exact⟨u,by simpa using h1,h2⟩
theorem Vals.set{x:V}{u:Value}(r:RelV x u): ∀{xs:List V} {us:List Value} (i:Nat),Vals xs us->Vals (xs.set i x) (us.set i u)
 |_,_,_, .nil=> .nil
 |_,_,0, .cons _ t=> .cons r t
 |_,_,i+1, .cons q t=> .cons q (Vals.set r i t)
theorem Vals.append: ∀{xs ys:List V} {us ws:List Value},Vals xs us->Vals ys ws->Vals (xs++ys) (us++ws)
 |_,_,_,_, .nil,s=>s
 |_,_,_,_, .cons r t,s=> .cons r (Vals.append t s)
theorem Vals.take: ∀{xs:List V} {us:List Value} (n:Nat),Vals xs us->Vals (xs.take n) (us.take n)
 |_,_,0,_=> .nil
 |_,_,_+1, .nil=> .nil
 |_,_,n+1, .cons r t=> .cons r (Vals.take n t)
theorem Vals.drop: ∀{xs:List V} {us:List Value} (n:Nat),Vals xs us->Vals (xs.drop n) (us.drop n)
 |_,_,0,r=>r
 |_,_,_+1, .nil=> .nil
 |_,_,n+1, .cons _ t=>Vals.drop n t
noncomputable def RelO:Option V->Option Value->Prop
 |some v,some u=>RelV v u
 |none,none=>True
 |_,_=>False
noncomputable def KV{κ:Type}:List (κ×V)->List (κ×Value)->Prop:=Paired fun(p:κ×V) (q:κ×Value)=>p.1=q.1/\RelV p.2 q.2
noncomputable def kV:Key->V
 | .inl i=> .int i
 | .inr x=> .str x
theorem Paired.mapP{α β:Type}{F G:α->β->Prop}: ∀{l₁:List α} {l₂:List β},Paired F l₁ l₂->(∀a b,F a b->G a b)->Paired G l₁ l₂
 |_,_, .nil,_=> .nil
 |_,_, .cons r t,f=> .cons (f _ _ r) (Paired.mapP t f)
noncomputable abbrev NK:=List (Key⊕List Key)
section
variable(P:Program)(w:World)
noncomputable def ItN(h:Heap):Key⊕List Key->Value->Prop
 | .inl k,v=>(z0d P w).is k v=true
 | .inr ks,v=> ∃c,v= .ref c/\IsTupleKey (z0d P w) h ks c
noncomputable def IsN(h:Heap)(k:NK)(a:Addr):Prop:= ∃o items n,h.get? a=some o/\o.cls= .type "tuple" /\o.data= .seq items n/\Paired (ItN P w h) k items.toList
noncomputable def hsN:Key⊕List Key->Int
 | .inl k=>(z0d P w).hash k
 | .inr ks=>tupleKeyHash (z0d P w) ks
noncomputable def drN:Key⊕List Key->Nat
 | .inl _=>1
 | .inr ks=>ks.length+1
end
section
variable{P:Program}{w:World}{h:Heap}
theorem z9D{x y:Key⊕List Key}{v:Value}(hx:ItN P w h x v)(hy:ItN P w h y v):x=y:=by
 cases x with
 |inl k=>
  cases y with
  |inl k'=>rw[(z0d P w).inj v k k' hx hy]
  |inr ks=>obtain⟨c,rfl,_⟩:=hy;have:=(z0d P w).byValue _ _ hx;simp[carriedByValue] at this
 |inr ks=>
  obtain⟨c,rfl,hc⟩:=hx
  cases y with
  |inl k'=>have:=(z0d P w).byValue _ _ hy;simp[carriedByValue] at this
  |inr ks'=>obtain⟨c',e,hc'⟩:=hy;cases e;rw[hc.inj hc']
theorem z3s: ∀{x y:NK} {vs:List Value},Paired (ItN P w h) x vs->Paired (ItN P w h) y vs->x=y
 |_,_,_, .nil, .nil=>rfl
 |_,_,_, .cons a b, .cons c d=>by rw[z9D a c,z3s b d]
variable{A:Around}{E:Value->Shared->Prop}{s:Shared}
theorem z3W{M:Model}{a:Addr}{o:Obj}{items:Array Value}{n m:Nat}{Q:Bool->Shared->Prop}(ho:s.heap.get? a=some o)(hc:o.cls= .type "tuple")(hd:o.data= .seq items n)(hi: ∀v∈items.toList,∀(R:Bool->Shared->Prop) E,R true s->wpAny M A (eqIsQuiet m v) R E s)(q:Q true s):wpAny M A (eqIsQuiet (m+1) (.ref a)) Q E s:=by
 have hT:s.TypeIs (.ref a) "tuple" :=⟨o,ho,hc⟩
 rw[eqIsQuiet]
 refine wpAny_bind (wpAny_specialOf hT PySem.F.slot_tuple_eq.lookup ?_)
 dsimp only
 refine wpAny_bind (wpAny_isInstance hT isSubtype_tuple_tuple ?_)
 rw[if_neg (by decide)]
 refine wpAny_bind (wpAny_seqItems ho hd ?_)
 refine wpAny_bind ?_
 dsimp only[Option.getD_some]
 rw[<-Array.forIn_toList]
 refine wpAny_forIn_list _ (fun r b s'=>b.1=none/\s'=s/\∀v∈r,v∈items.toList) _ ?_ ?_ _ _ ⟨rfl,rfl,fun v hv=>hv⟩
 ·rintro v r b s' ⟨_,rfl,hm⟩
  refine wpAny_bind (hi v (hm v List.mem_cons_self) _ _ ?_)
  rw[if_neg (by decide)]
  exact wpAny_pure ⟨rfl,rfl,fun u hu=>hm u (List.mem_cons_of_mem _ hu)⟩
 ·rintro ⟨b1,b2⟩ s' ⟨hb,rfl,_⟩
  dsimp only at hb
  subst hb
  exact wpAny_pure q
theorem z3X{P':Program}{w':World}: ∀{ks:List Key} {vs:List Value},ItemsAre (z0d P w) ks vs->ItemsAre (z0d P' w') ks vs
 |_,_, .nil=> .nil
 |_,_, .cons a b=> .cons a (z3X b)
theorem z6j{P':Program}{w':World}{ks:List Key}{c:Addr}(hk:IsTupleKey (z0d P w) h ks c):IsTupleKey (z0d P' w') h ks c:=by
 obtain⟨o,items,n,h1,h2,h3,h4⟩:=hk
 exact⟨o,items,n,h1,h2,h3,z3X h4⟩
theorem zbh{x y:Key⊕List Key}{u v:Value}(hu:A.units<cLine)(hx:ItN P w s.heap x u)(hy:ItN P w s.heap y v):SeqAt.EqAt A s u v (decide (x=y)):=fun prog w' E Q q=>by
 cases x with
 |inl k=>
  cases y with
  |inl k'=>exact(z0d prog w').eqBool (a:=k) (b:=k') hx hy (by rw[show decide (k=k')=decide ((Sum.inl k:Key⊕List Key)=Sum.inl k') by by_cases e:k=k'<;>simp[e]];exact q)
  |inr ks=>
   obtain⟨c,rfl,o,items,n,h1,h2,h3,_⟩:=hy
   rw[decide_eq_false (fun e=>nomatch e)] at q
   rcases z0f hx with⟨i,t,rfl,rfl⟩|⟨z,t,rfl,rfl⟩
   ·exact SeqAt.EqAt.int_tuple i t ⟨o,h1,h2,n,h3⟩ hu prog w' E Q q
   ·exact SeqAt.EqAt.str_tuple z t ⟨o,h1,h2,n,h3⟩ hu prog w' E Q q
 |inr ks=>
  obtain⟨c,rfl,hc⟩:=hx
  cases y with
  |inl k'=>
   obtain⟨o,items,n,h1,h2,h3,_⟩:=hc
   rw[decide_eq_false (fun e=>nomatch e)] at q
   rcases z0f hy with⟨i,t,rfl,rfl⟩|⟨z,t,rfl,rfl⟩
   ·exact SeqAt.EqAt.tuple_int i t ⟨o,h1,h2,n,h3⟩ hu prog w' E Q q
   ·exact SeqAt.EqAt.tuple_str z t ⟨o,h1,h2,n,h3⟩ hu prog w' E Q q
  |inr ks'=>
   obtain⟨c',rfl,hc'⟩:=hy
   refine wpAny_eqBool_tuple (knd:=z0d prog w') hu (z6j hc) (z6j hc') ?_
   rw[show decide (ks=ks')=decide ((Sum.inr ks:Key⊕List Key)=Sum.inr ks') by by_cases e:ks=ks'<;>simp[e]];exact q
theorem z9E{α:Type}[DecidableEq α](x y:List α):((List.range (min x.length y.length)).all (fun j=>decide (x[j]? =y[j]?))&&x.length==y.length)=decide (x=y):=by
 rw[Bool.eq_iff_iff]
 simp only[Bool.and_eq_true,List.all_eq_true,List.mem_range,decide_eq_true_eq,beq_iff_eq]
 constructor
 ·rintro ⟨h1,h2⟩
  apply List.ext_getElem?
  intro j
  by_cases hj:j<x.length
  ·exact h1 j (by lia)
  ·rw[List.getElem?_eq_none (by lia),List.getElem?_eq_none (by lia)]
 ·rintro rfl;exact⟨fun _ _=>rfl,rfl⟩
theorem Paired.get2{α β:Type}{F:α->β->Prop}: ∀{l:List α} {m:List β},Paired F l m->∀j (h1:j<l.length) (h2:j<m.length),F l[j] m[j]
 |_,_, .cons a b,0,_,_=>a
 |_,_, .cons a b,j+1,h1,h2=>Paired.get2 b j (by simpa using h1) (by simpa using h2)
theorem z9b{x y:NK}{a b:Addr}{Q:Bool->Shared->Prop}(hu:A.units+1<cLine)(hx:IsN P w s.heap x a)(hy:IsN P w s.heap y b)(q:Q (decide (x=y)) s):wpAny (model P w) A (eqBool (.ref a) (.ref b)) Q E s:=by
 by_cases e:a=b
 ·subst e
  obtain⟨o,items,n,h1,h2,h3,h4⟩:=hx
  obtain⟨o',items',n',k1,k2,k3,k4⟩:=hy
  obtain rfl:o=o':=Option.some.inj (h1.symm.trans k1)
  rw[h3] at k3
  injection k3 with k3 _
  subst k3
  obtain rfl:=z3s h4 k4
  exact SeqAt.EqAt.same _ P w E Q (by simpa using q)
 ·obtain⟨o,items,n,h1,h2,h3,h4⟩:=hx
  obtain⟨o',items',n',k1,k2,k3,k4⟩:=hy
  have l1:x.length=items.size:=by have:=Paired.length h4;simpa using this
  have l2:y.length=items'.size:=by have:=Paired.length k4;simpa using this
  refine SeqAt.EqAt.of_refs e (SeqAt.RcAt.tuples (e:=fun j=>decide (x[j]? =y[j]?)) ⟨o,h1,h2,n,h3⟩ ⟨o',k1,k2,n',k3⟩ (by lia) fun j j1 j2=> ?_) P w E Q ?_
  ·have:=zbh (A:=A.in1) (show A.units+1<cLine from hu) (Paired.get2 h4 j (by lia) (by simpa using j1)) (Paired.get2 k4 j (by lia) (by simpa using j2))
   rw[List.getElem?_eq_getElem (by lia),List.getElem?_eq_getElem (by lia)]
   simpa using this
  ·rw[<-l1,<-l2,z9E];exact q
theorem z83{k:Key⊕List Key}{v:Value}{Q:Int->Shared->Prop}(hu:A.units<cLine)(hk:ItN P w s.heap k v)(q:Q (hsN P w k) {s with toks:=s.toks+drN k}):wpAny (model P w) A (pyHash v) Q E s:=by
 cases k with
 |inl k=>exact(z0d P w).pyHash hk q
 |inr ks=>obtain⟨c,rfl,hc⟩:=hk;exact wpAny_pyHash_tuple hu hc q
theorem z84{k:NK}{a:Addr}{Q:Int->Shared->Prop}(hu:A.units+1<cLine)(hk:IsN P w s.heap k a)(q:Q (reduceHash (Builtin.Tuple.tupleHashOf (k.map (hsN P w)))) {s with toks:=s.toks+((k.map drN).sum+1)}):wpAny (model P w) A (pyHash (.ref a)) Q E s:=by
 obtain⟨o,items,n,ho,hc,hd,hi⟩:=hk
 have hT:s.TypeIs (.ref a) "tuple" :=⟨o,ho,hc⟩
 unfold pyHash
 unfold pyHashByItsType
 refine wpAny_bind (wpAny_cRoomFor_or (.inr (by lia)) ?_)
 refine wpAny_bind (wpAny_specialOf hT PySem.F.slot_tuple_hash.lookup ?_)
 rw[if_neg (show ¬(some (Value.builtin "tuple.__hash__")==some Value.none)=true by rw[beq_builtin_none];decide)]
 refine wpAny_bind (wpAny_specialOf hT PySem.F.slot_tuple_hash.lookup ?_)
 refine wpAny_bind (wpAny_callSpecialIfBoundUnlessNone?_slot hT PySem.F.slot_tuple_hash (wpAny_call_entry PySem.F.slot_tuple_hash hT PySem.F.entry_tuple_hash ?_ (PySem.F.args_tuple_hash_1 _)))
 change wpAny _ A.in1 (Builtin.Tuple.tupleItemsOf (Value.ref a)>>=_) _ _ s
 refine wpAny_bind (wpAny_tupleItemsOf ho hd (wpAny_bind ?_))
 rw[<-Array.forIn_toList]
 refine wpAny_forIn_list _ (fun r (b:Array Int) s'=> ∃d l,k=d++l/\Paired (ItN P w s.heap) l r/\b.toList=d.map (hsN P w)/\s'={s with toks:=s.toks+(d.map drN).sum}) _ ?_ ?_ _ _ ⟨[],k,rfl,hi,rfl,rfl⟩
 ·rintro x r b s' ⟨d,l,rfl,hl,hb,rfl⟩
  cases hl with
  | @cons z _ l' _ h1 hl'=>
   refine wpAny_bind (z83 (A:=A.in1) (s:={s with toks:=s.toks+(d.map drN).sum}) (show A.units+1<cLine from hu) h1 ?_)
   have fin: ∃d' l2,d++z::l'=d'++l2/\Paired (ItN P w s.heap) l2 r/\(b.push (hsN P w z)).toList=d'.map (hsN P w)/\({s with toks:=s.toks+(d.map drN).sum+drN z}:Shared)={s with toks:=s.toks+(d'.map drN).sum}:=⟨d++[z],l',by simp,hl',by simp[hb],by simp[Nat.add_assoc]⟩
   exact wpAny_pure fin
 ·rintro b s' ⟨d,l,rfl,hl,hb,rfl⟩
  cases hl
  rw[List.append_nil] at q
  change wpAny _ A.in1 (retInt (Builtin.Tuple.tupleHashOf b.toList)) _ _ _
  rw[hb]
  refine wpAny_ret_mkInt ?_
  unfold reduceHash at q
  show wpAny _ _ (if(decide (-(2:Int)^63<=Builtin.Tuple.tupleHashOf (d.map (hsN P w)))&&decide (Builtin.Tuple.tupleHashOf (d.map (hsN P w))<2^63))=true then _ else _) Q E _
  split
  ·rename_i hr
   rw[if_pos hr] at q
   exact wpAny_pure (by simpa[Nat.add_assoc] using q)
  ·rename_i hr
   rw[if_neg hr] at q
   exact wpAny_bind (wpAny_rule (wpAny_pure (by simpa[Nat.add_assoc] using q)))
theorem z2x{k:NK}{a:Addr}{Q:Bool->Shared->Prop}(hk:IsN P w s.heap k a)(q:Q true s):wpAny (model P w) A (eqIsQuiet 8 (.ref a)) Q E s:=by
 obtain⟨o,items,n,h1,h2,h3,h4⟩:=hk
 refine z3W h1 h2 h3 (fun v hv R E' r=> ?_) q
 have all: ∀{k:NK} {vs:List Value},Paired (ItN P w s.heap) k vs->∀v∈vs,∃z,ItN P w s.heap z v:=by
  intro k vs p
  induction p with
  |nil=>intro v hv;cases hv
  |cons a b ih=>
   intro v hv
   rcases List.mem_cons.mp hv with rfl|hv
   ·exact⟨_,a⟩
   ·exact ih v hv
 obtain⟨z,hz⟩:=all h4 v hv
 cases z with
 |inl k=>rw[eqIsQuiet_byValue _ ((z0d P w).byValue _ _ hz)];exact wpAny_pure r
 |inr ks=>
  obtain⟨c,rfl,o,items,n,h1,h2,h3,h4⟩:=hz
  exact z3W h1 h2 h3 (fun v hv R E' r=>by rw[eqIsQuiet_byValue _ (h4.byValue v hv)];exact wpAny_pure r) r
theorem z6k{h':Heap}{d:Addr}{o:Obj}{es:Array DictEntry}{ep:Nat}(ho:h.get? d=some o)(hd:o.data= .dict es ep)(hs:Heap.SameBut d h h'): ∀{k:NK} {vs:List Value},Paired (ItN P w h) k vs->Paired (ItN P w h') k vs:=fun p=>Paired.mapP p fun z v q=>by
 cases z with
 |inl k=>exact q
 |inr ks=>obtain⟨c,rfl,hc⟩:=q;exact⟨c,rfl,hc.keeps ho hd hs⟩
end
noncomputable def z02(P:Program)(w:World):HeapKind P w NK where
 is:=IsN P w
 hash:=fun k=>reduceHash (Builtin.Tuple.tupleHashOf (k.map (hsN P w)))
 draws:=fun k=>(k.map drN).sum+1
 room:=fun A=>A.units+1<cLine
 inj:=fun⟨o,items,n,h1,_,h3,h4⟩ ⟨o',items',n',k1,_,k3,k4⟩=>by
  obtain rfl:o=o':=Option.some.inj (h1.symm.trans k1)
  rw[h3] at k3
  injection k3 with k3 _
  subst k3
  exact z3s h4 k4
 keeps:=fun{h h' k a d o es ep} ⟨o',items,n,h1,h2,h3,h4⟩ ho hd hs=>by
  have hne:a≠d:=by
   rintro rfl
   obtain rfl:o'=o:=Option.some.inj (h1.symm.trans ho)
   rw[hd] at h3;cases h3
  exact⟨o',items,n,(hs.2 a hne).trans h1,h2,h3,z6k ho hd hs h4⟩
 pyHash:=fun hu hk q=>z84 hu hk q
 eqBool:=fun hu hx hy q=>z9b hu hx hy q
 quiet:=fun hk q=>z2x hk q
inductive HO where
 |lst (xs:List V)
 |tup (xs:List V)
 |dK (kvs:List (Key×V))|dT (kvs:List (NK×V))
 |set (S:Int->Bool) (n:Nat)
 |ins (C dx:Addr) (fs:List (Str×V))
 |own (x:Addr)
 |xd (fs:List (Str×V))
 |met (f x:Addr)
 |rng (lo hi:Int)
 |frz (o:Obj) (u:HO)
 |tbl (ps:Array Value)
 |ext (φ:Heap->Prop)
noncomputable abbrev Hp:=Addr->Option HO
noncomputable def upd(H:Hp)(a:Addr)(o:HO):Hp:=fun b=>if b=a then some o else H b
theorem z0e{H:Hp}{a:Addr}{o:HO}:upd H a o a=some o:=by unfold upd;rw[if_pos rfl]
theorem z07{H:Hp}{a b:Addr}{o:HO}(h:b≠a):upd H a o b=H b:=by unfold upd;rw[if_neg h]
theorem z85{H:Hp}{a b:Addr}{o u:HO}(h:H a=some o)(h':H b=some u)(d:o≠u):a≠b:=by
 intro e;subst e;rw[h] at h';exact d (Option.some.inj h')
theorem z0t{H:Hp}{a b:Addr}{o:HO}(h:H a=some o)(h':H b=none):a≠b:=by
 intro e;subst e;rw[h] at h';cases h'
noncomputable def TKi(H:Hp):Key⊕List Key->V->Prop
 | .inl k,x=>x=kV k
 | .inr ks,x=> ∃c,x= .ref c/\H c=some (.tup (ks.map kV))
noncomputable def TK(H:Hp)(k:NK)(b:Addr):Prop:= ∃xs,H b=some (.tup xs)/\Paired (TKi H) k xs
theorem TK.stay{H H':Hp}{k:NK}{b:Addr}(ht: ∀b xs,H b=some (.tup xs)->H' b=some (.tup xs))(h:TK H k b):TK H' k b:=by
 obtain⟨xs,h1,h2⟩:=h
 refine⟨xs,ht _ _ h1,Paired.mapP h2 fun z x q=> ?_⟩
 cases z with
 |inl k=>exact q
 |inr ks=>obtain⟨c,e,q⟩:=q;exact⟨c,e,ht _ _ q⟩
section
variable(P:Program)(w:World)
noncomputable def z1K(H:Hp)(h:Heap)(a:Addr):HO->Prop
 | .lst xs=>xs.length<=sizeLine/\∃(its:List Value) (n:Nat),Vals xs its/\h.get? a=some {cls:= .type "list",data:= .seq its.toArray n}
 | .tup xs=>xs.length<=sizeLine/\∃its:List Value,Vals xs its/\IsTup h a its.toArray
 | .dK kvs=>kvs.length<=sizeLine/\(a==sysModules)=false/\∃vs,KV kvs vs/\h.DictOf (z0d P w) a vs
 | .dT kvs=>kvs.length<=sizeLine/\(a==sysModules)=false/\∃xs:List (NK×Addr×Value),
  Paired (fun(p:NK×V) (q:NK×Addr×Value)=>p.1=q.1/\TK H p.1 q.2.1/\RelV p.2 q.2.2) kvs xs/\
  ∃o es ep,h.get? a=some o/\o.ExactDict/\o.data= .dict es ep/\es.toList=xs.map (entryOfKey (z02 P w))/\(xs.map (·.1)).Nodup
 | .set S n=>h.SetOf (intKind P w) a S n
 | .ins C dx fs=>H dx=some (.own a)/\fs.length<=1000/\dx≠a/\h.get? a=some (W.instObj C dx)/\
  ∃mA,h.Ns1 dx mA/\(∀f,RelO (fs.lookup f) (mA f))/\PySem.Within mA (fs.map (·.1))
 | .own _=> ∃o,h.get? a=some o
 | .xd fs=> ∃mA,h.Ns1 a mA/\∀f,RelO (fs.lookup f) (mA f)
 | .rng lo hi=> ∃t u v,h.get? a=some {cls:= .type "range",data:= .fields #[.int lo t, .int hi u, .int 1 v]}
 | .frz o u=>h.get? a=some o/\z1K H h a u
 | .tbl ps=>h.get? a=some {cls:= .none,data:= .fields ps}
 | .met f x=>h.get? a=some (W.methodObj (.ref f) (.ref x))
 | .ext φ=>φ h/\(∃o,h.get? a=some o)/\∀h1 h2:Heap,φ h1->(∀o,h1.get? a=some o->h2.get? a=some o)->φ h2
noncomputable def HOk(H:Hp)(h:Heap):Prop:= ∀a o,H a=some o->z1K P w H h a o
end
section
variable{P:Program}{w:World}{H H':Hp}{h h':Heap}{a:Addr}{o:HO}
theorem z1K.lt(x:z1K P w H h a o):a<h.objs.size:=by
 cases o with
 |lst xs=>obtain⟨_,_,_,_,e⟩:=x;exact Heap.lt_size e
 |tup xs=>obtain⟨_,_,_,p⟩:=x;exact p.lt
 |dK kvs=>obtain⟨_,_,_,_,o,_,_,e,_⟩:=x;exact Heap.lt_size e
 |dT kvs=>obtain⟨_,_,_,_,o,_,_,e,_⟩:=x;exact Heap.lt_size e
 |set S n=>obtain⟨o,_,_,_,e,_⟩:=x;exact Heap.lt_size e
 |ins C dx fs=>obtain⟨_,_,_,e,_⟩:=x;exact Heap.lt_size e
 |own y=>obtain⟨_,e⟩:=x;exact Heap.lt_size e
 |xd fs=>obtain⟨_,⟨_,_,_,e,_⟩,_⟩:=x;exact Heap.lt_size e
 |rng lo hi=>obtain⟨_,_,_,e⟩:=x;exact Heap.lt_size e
 |frz ob u=>obtain⟨e,_⟩:=x;exact Heap.lt_size e
 |tbl ps=>exact Heap.lt_size (show h.get? a=some _ from x)
 |met f y=>exact Heap.lt_size (show h.get? a=some _ from x)
 |ext φ=>obtain⟨_,⟨_,e⟩,_⟩:=x;exact Heap.lt_size e
theorem z1K.stay(x:z1K P w H h a o)(k: ∀b u,(b=a\/H b=some (.own a))->h.get? b=some u->h'.get? b=some u)
 (ho: ∀b,H b=some (.own a)->H' b=some (.own a)) (ht: ∀b xs,H b=some (.tup xs)->H' b=some (.tup xs)):z1K P w H' h' a o:=by
 induction o with
 |lst xs=>obtain⟨z,its,n,r,e⟩:=x;exact⟨z,its,n,r,k _ _ (.inl rfl) e⟩
 |tup xs=>obtain⟨z,its,r,ob,e,c⟩:=x;exact⟨z,its,r,ob,k _ _ (.inl rfl) e,c⟩
 |dK kvs=>obtain⟨z,y,vs,r,ob,es,ep,e,c⟩:=x;exact⟨z,y,vs,r,ob,es,ep,k _ _ (.inl rfl) e,c⟩
 |dT kvs=>
  obtain⟨z,y,xs,r,ob,es,ep,e,c⟩:=x
  exact⟨z,y,xs,Paired.mapP r fun p q z=>⟨z.1,z.2.1.stay ht,z.2.2⟩,ob,es,ep,k _ _ (.inl rfl) e,c⟩
 |set S n=>obtain⟨ob,es,ep,t,e,c⟩:=x;exact⟨ob,es,ep,t,k _ _ (.inl rfl) e,c⟩
 |ins C dx fs=>
  obtain⟨d,z,ne,e,mA,⟨od,es,ep,e2,c⟩,r⟩:=x
  exact⟨ho _ d,z,ne,k _ _ (.inl rfl) e,mA,⟨od,es,ep,k _ _ (.inr d) e2,c⟩,r⟩
 |own y=>obtain⟨ob,e⟩:=x;exact⟨ob,k _ _ (.inl rfl) e⟩
 |xd fs=>obtain⟨mA,⟨od,es,ep,e,c⟩,r⟩:=x;exact⟨mA,⟨od,es,ep,k _ _ (.inl rfl) e,c⟩,r⟩
 |rng lo hi=>obtain⟨t,u,v,e⟩:=x;exact⟨t,u,v,k _ _ (.inl rfl) e⟩
 |frz ob u ih=>obtain⟨e,q⟩:=x;exact⟨k _ _ (.inl rfl) e,ih q⟩
 |tbl ps=>
  have e:h.get? a=some {cls:= .none,data:= .fields ps}:=x
  show h'.get? a=some {cls:= .none,data:= .fields ps}
  exact k a _ (.inl rfl) e
 |met f y=>
  have e:h.get? a=some (W.methodObj (.ref f) (.ref y)):=x
  show h'.get? a=some (W.methodObj (.ref f) (.ref y))
  exact k a _ (.inl rfl) e
 |ext φ=>obtain⟨p,⟨o,e⟩,st⟩:=x;exact⟨st _ _ p fun o q=>k _ _ (.inl rfl) q,⟨o,k _ _ (.inl rfl) e⟩,st⟩
theorem HOk.lt(x:HOk P w H h)(e:H a=some o):a<h.objs.size:=(x a o e).lt
theorem HOk.fresh(x:HOk P w H h)(e:h.objs.size<=a):H a=none:=by
 cases q:H a with
 |none=>rfl
 |some u=>exact absurd (Nat.lt_of_lt_of_le (x.lt q) e) (Nat.lt_irrefl _)
theorem HOk.kept(x:HOk P w H h)(k: ∀b u,h.get? b=some u->h'.get? b=some u):HOk P w H h':=fun a o e=>
 (x a o e).stay (fun b u _ q=>k b u q) (fun _ q=>q) fun _ _ q=>q
theorem HOk.laid(x:HOk P w H h)(k: ∀b u,h.get? b=some u->h'.get? b=some u)(hp:h.objs.size<=a)(new:z1K P w (upd H a o) h' a o):HOk P w (upd H a o) h':=fun b u e=>by
 have hn:=x.fresh hp
 by_cases hb:b=a
 ·subst hb;rw[z0e] at e;cases e;exact new
 ·rw[z07 hb] at e
  exact(x b u e).stay (fun c v _ q=>k c v q) (fun c q=>by rw[z07 (z0t q hn)];exact q) fun c xs q=>by rw[z07 (z0t q hn)];exact q
end
noncomputable def Rd(H:Hp)(a:Addr)(u:HO):Prop:=H a=some u\/∃o,H a=some (.frz o u)
theorem Rd.ok{P:Program}{w:World}{H:Hp}{h:Heap}{a:Addr}{u:HO}(r:Rd H a u)(x:HOk P w H h):z1K P w H h a u:=by
 rcases r with r|⟨o,r⟩
 ·exact x a u r
 ·obtain⟨_,q⟩:=x a _ r
  exact q
noncomputable def Mut:Option HO->Prop
 |some (.lst _)=>True
 |some (.dK _)=>True
 |some (.dT _)=>True
 |some (.set _ _)=>True
 |some (.ins _ _ _)=>True
 |some (.ext _)=>True
 |_=>False
section
variable{P:Program}{w:World}{H:Hp}{h h':Heap}{x e:Addr}{o':HO}
theorem HOk.write(ok:HOk P w H h)(mu:Mut (H x))(he:e=x\/H e=some (.own x))(k: ∀b u,b≠e->h.get? b=some u->h'.get? b=some u)(heo: ∃u,h'.get? e=some u)
 (new:z1K P w (upd H x o') h' x o'):HOk P w (upd H x o') h':=fun b u q=>by
 have nown: ∀c y,H c=some (.own y)->c≠x:=fun c y r z=>by subst z;rw[r] at mu;exact mu
 have ntup: ∀c xs,H c=some (.tup xs)->c≠x:=fun c xs r z=>by subst z;rw[r] at mu;exact mu
 by_cases hb:b=x
 ·subst hb;rw[z0e] at q;cases q;exact new
 ·rw[z07 hb] at q
  by_cases hbe:b=e
  ·have q':H b=some (.own x):=by
    rcases he with z|z
    ·exact absurd (hbe.trans z) hb
    ·rw[hbe];exact z
   rw[q] at q';cases q'
   obtain⟨v,hv⟩:=heo
   exact⟨v,by rw[hbe];exact hv⟩
  ·refine(ok b u q).stay (fun c v hc r=>k c v ?_ r) (fun c r=>by rw[z07 (nown c b r)];exact r) fun c xs r=>by rw[z07 (ntup c xs r)];exact r
   rcases hc with rfl|hc
   ·exact hbe
   ·rintro rfl
    rcases he with z|z
    ·exact nown c b hc z
    ·rw[hc] at z;cases z;exact hb rfl
end
structure Un(fs ex:List Addr)(H H':Hp)(h h':Heap):Prop where
 keep: ∀b o,h.get? b=some o->H b=none->b∉fs->b∉ex->h'.get? b=some o
 slot: ∀b o,h.get? b=some o->H b=none->b∈fs->b∉ex->∃sl,h'.get? b=some {o with slots:=sl}
 free: ∀b o,h.get? b=some o->H b=none->b∉ex->H' b=none
 there: ∀b o,h.get? b=some o->b∉ex->∃o',h'.get? b=some o'
 tups: ∀b xs,H b=some (.tup xs)->H' b=some (.tup xs)
 frzs: ∀b o u,H b=some (.frz o u)->H' b=some (.frz o u)
 tbls: ∀b ps,H b=some (.tbl ps)->∃more,H' b=some (.tbl (ps++more))
section
variable{fs fs' ex ex':List Addr}{H H1 H2:Hp}{h h1 h2 h':Heap}{a x e:Addr}{o:HO}
theorem Un.any(u:Un fs ex H H1 h h1){b:Addr}{ob:Obj}(q:h.get? b=some ob)(n:H b=none)(hx:b∉ex): ∃sl,h1.get? b=some {ob with slots:=sl}:=by
 by_cases hb:b∈fs
 ·exact u.slot b ob q n hb hx
 ·exact⟨ob.slots,u.keep b ob q n hb hx⟩
theorem Un.kept(k: ∀b u,h.get? b=some u->h'.get? b=some u):Un fs ex H H h h':=
 ⟨fun b ob q _ _ _=>k b ob q,fun b ob q _ _ _=>⟨ob.slots,k b ob q⟩,fun _ _ _ n _=>n,fun b ob q _=>⟨ob,k b ob q⟩,fun _ _ q=>q,fun _ _ _ q=>q,fun _ ps q=>⟨#[],by rw[q];simp⟩⟩
theorem Un.refl:Un fs ex H H h h:=Un.kept fun _ _ q=>q
theorem Un.laid(k: ∀b u,h.get? b=some u->h'.get? b=some u)(hp:h.objs.size<=a)(hn:H a=none):Un fs ex H (upd H a o) h h' where
 keep:=fun b u q _ _ _=>k b u q
 slot:=fun b u q _ _ _=>⟨u.slots,k b u q⟩
 free:=fun b u q n _=>by rw[z07 (Nat.ne_of_lt (Nat.lt_of_lt_of_le (Heap.lt_size q) hp))];exact n
 there:=fun b u q _=>⟨u,k b u q⟩
 tups:=fun b xs q=>by rw[z07 (z0t q hn)];exact q
 frzs:=fun b u xs q=>by rw[z07 (z0t q hn)];exact q
 tbls:=fun b ps q=>⟨#[],by rw[z07 (z0t q hn),q];simp⟩
theorem Un.write(mu:Mut (H x))(he:e=x\/H e=some (.own x))(k: ∀b u,b≠e->h.get? b=some u->h'.get? b=some u)(heo: ∃u,h'.get? e=some u):Un fs ex H (upd H x o) h h':=by
 have hx: ∀b,H b=none->b≠x:=fun b n z=>by subst z;rw[n] at mu;exact mu
 have hb: ∀b,H b=none->b≠e:=fun b n z=>by
  subst z
  rcases he with r|r
  ·exact hx b n r
  ·rw[n] at r;cases r
 have hm: ∀b u,H b=some u->¬Mut (some u)->b≠x:=fun b u q nm z=>by subst z;rw[q] at mu;exact nm mu
 refine⟨fun b u q n _ _=>k b u (hb b n) q,fun b u q n _ _=>⟨u.slots,k b u (hb b n) q⟩,fun b u q n _=>by rw[z07 (hx b n)];exact n,fun b u q _=> ?_,
  fun b xs q=>by rw[z07 (hm b _ q fun z=>z)];exact q,fun b u xs q=>by rw[z07 (hm b _ q fun z=>z)];exact q,fun b ps q=>⟨#[],by rw[z07 (hm b _ q fun z=>z),q];simp⟩⟩
 by_cases hbe:b=e
 ·subst hbe;exact heo
 ·exact⟨u,k b u hbe q⟩
end
noncomputable def trk(h:Heap)(H:Hp):List Addr:=(List.range h.objs.size).filter fun a=>(H a).isSome
noncomputable def hidT(h:Heap)(H:Hp):Heap:=W.hideAll h (trk h H)
theorem z6l(h:Heap)(H:Hp):(hidT h H).objs.size=h.objs.size:=W.hideAll_size _ _
theorem z86{h:Heap}{H:Hp}{b:Addr}{o:Obj}(e:h.get? b=some o)(n:H b=none):(hidT h H).get? b=some o:=
 W.hideAll_get _ e fun hm=>by
  have q:(H b).isSome=true:=(List.mem_filter.mp hm).2
  rw[n] at q;simp at q
theorem z9F{h:Heap}{H:Hp}{b:Addr}{o:Obj}(e:(hidT h H).get? b=some o):h.get? b=some o/\H b=none:=by
 have e':h.get? b=some o:=W.of_hideAll (trk h H) e
 refine⟨e', ?_⟩
 cases q:H b with
 |none=>rfl
 |some x=>
  have hm:b∈trk h H:=List.mem_filter.mpr ⟨List.mem_range.mpr (Heap.lt_size e'),by simp[q]⟩
  have z:(hidT h H).get? b=none:=W.hideAll_none (trk h H) hm
  rw[z] at e;cases e
noncomputable def z9G(g h:Heap)(L:Addr):List (Addr×Obj):=(List.range h.objs.size).filterMap fun a=>if a=L\/(g.get? a).isSome=true then none else(h.get? a).map fun o=>(a,o)
noncomputable def rest(g h:Heap)(L d:Addr):List (Addr×Obj):=(z9G g h L).filter fun p=>decide (p.1≠d)
structure Mod(K:W.Frag)(mg:Str->Option Value)(base:Heap):Prop where
 kin:K.In base
 glob:base.Ns mainGlobals mg
 blt: ∃mb,base.Ns builtinsNs mb/\∀x:Str,x≠ "__name__" ->mb x=bootBuiltins x
 nolimit:base.NoLimit
structure Cx where
 prog:Program
 w:World
 K:W.Frag
 mg:Str->Option Value
 base:Heap
 A:Around
 N:List Str
 s₀:Shared
 H₀:Hp
 env:Env
 outer:List Env
 stack:List Env
 ex:List Addr
 fn:Str->Bool
 calm:Bool
 pn:List (Addr×Obj)
 xe:Value->Shared->Prop
noncomputable def frs(l:List Env):List Addr:=l.filterMap (·.frame)
noncomputable abbrev Cx.fs(X:Cx):List Addr:=frs X.outer
noncomputable def Vis(sc:Scope)(x:Str):Prop:=sc.names.lookup x=some .local\/sc.names.lookup x=some .cell\/sc.names.lookup x=some .free
noncomputable def Loc(sc:Scope)(x:Str):Prop:=sc.names.lookup x=some .local\/sc.names.lookup x=some .cell
noncomputable def Look(env:Env)(h:Heap)(m:Str->Option Value)(x:Str)(u:Value):Prop:=
 (env.kindOf x=some .local/\m x=some u)\/((env.kindOf x=some .cell\/env.kindOf x=some .free)/\∃c,env.cells.lookup x=some c/\h.IsCell c (some u))
structure Cx.Ok(X:Cx):Prop where
 mod:Mod X.K X.mg X.base
 kind:X.env.scope.kind= .function
 glob:X.env.globals=mainGlobals
 blt:X.env.builtins=builtinsNs
 above:X.s₀.heap.objs.size<=X.env.locals
 inj: ∀x y c,X.env.cells.lookup x=some c->X.env.cells.lookup y=some c->x=y
 has: ∀x,(X.env.kindOf x=some .cell\/X.env.kindOf x=some .free)->∃c,X.env.cells.lookup x=some c
 cab: ∀x c,X.fn x=true->X.env.cells.lookup x=some c->X.s₀.heap.objs.size<=c
 hd:X.calm=true->X.A.handled=none
 frames:X.A.frames=some X.stack
 stk:X.stack=X.outer\/(X.stack=X.env::X.outer/\X.env.frame=some X.env.locals)
 exf: ∀b∈X.ex,b≠X.env.locals/\∀x c,X.env.cells.lookup x=some c->c≠b
 bs: ∀b o,X.base.get? b=some o->X.s₀.heap.get? b=some o/\X.H₀ b=none
 bsz:X.base.objs.size<=X.s₀.heap.objs.size
 noex: ∀b o,X.base.get? b=some o->b∉X.ex
 exfs: ∀b∈X.ex,b∉X.fs
 funs:X.s₀.heap.FunFrames X.base X.outer
 frf: ∀b∈X.fs,X.H₀ b=none
structure Inv(X:Cx)(pins:List (Addr×Obj))(σ:List (Option V))(H:Hp)(s:Shared):Prop where
 ok:X.Ok
 os:s.os=X.s₀.os
 bare:AllBare s.gens
 base:Un X.fs X.ex X.H₀ H X.s₀.heap s.heap
 loc: ∃m,s.heap.Ns X.env.locals m/\∀(i:Nat) (x:Str) (v:V),X.N[i]? =some x->σ[i]? =some (some v)->Vis X.env.scope x->∃u,RelV v u/\Look X.env s.heap m x u
 cell: ∀x c,X.env.cells.lookup x=some c->∃v,s.heap.IsCell c v
 free:H X.env.locals=none
 freeC: ∀x c,X.env.cells.lookup x=some c->H c=none
 pin: ∀p∈X.pn++pins,s.heap.get? p.1=some p.2/\H p.1=none/\p.1≠X.env.locals/\p.1∉X.fs/\∀v,p.2.data≠ .cell v
 hok:HOk X.prog X.w H s.heap
 len:σ.length=X.N.length
section
variable{X:Cx}{pins:List (Addr×Obj)}{σ:List (Option V)}{H H':Hp}{s:Shared}{h':Heap}
theorem Cx.Ok.nofr(ok:X.Ok){b:Addr}{o:Obj}(e:X.base.get? b=some o):b∉X.fs:=fun hb=>by
 have:=(ok.funs.mem hb).1
 rw[e] at this;cases this
theorem Inv.bs(I:Inv X pins σ H s): ∀b o,X.base.get? b=some o->s.heap.get? b=some o/\H b=none:=fun b o e=>
 ⟨I.base.keep b o (I.ok.bs b o e).1 (I.ok.bs b o e).2 (I.ok.nofr e) (I.ok.noex b o e),I.base.free b o (I.ok.bs b o e).1 (I.ok.bs b o e).2 (I.ok.noex b o e)⟩
theorem Inv.bk(I:Inv X pins σ H s): ∀b o,X.base.get? b=some o->s.heap.get? b=some o:=fun b o e=>(I.bs b o e).1
theorem Inv.mod(I:Inv X pins σ H s):Mod X.K X.mg X.base:=I.ok.mod
theorem Inv.kIn(I:Inv X pins σ H s):X.K.In s.heap:=I.ok.mod.kin.keeps I.bk
theorem Inv.lt(I:Inv X pins σ H s):X.env.locals<s.heap.objs.size:=let⟨_,hn,_⟩:=I.loc;hn.lt
theorem Inv.sz(I:Inv X pins σ H s):X.s₀.heap.objs.size<=s.heap.objs.size:=Nat.le_trans I.ok.above (Nat.le_of_lt I.lt)
theorem Inv.nofs(I:Inv X pins σ H s){a:Addr}(h:s.heap.objs.size<=a):a∉X.fs:=fun hb=>by
 obtain⟨_,o,ho,_⟩:=I.ok.funs.mem hb
 exact absurd (Nat.lt_of_lt_of_le (Heap.lt_size ho) (Nat.le_trans I.sz h)) (Nat.lt_irrefl _)
theorem Inv.cne(I:Inv X pins σ H s): ∀x c,X.env.cells.lookup x=some c->c≠X.env.locals:=fun x c e z=>by
 obtain⟨v,o,ho,hd⟩:=I.cell x c e
 obtain⟨m,⟨o',es,ep,ho',hd',_⟩,_⟩:=I.loc
 rw[z,ho'] at ho;cases ho;rw[hd'] at hd;cases hd
theorem Inv.funs(I:Inv X pins σ H s):s.heap.FunFrames X.base X.outer:=by
 have all: ∀(l:List Env),(∀b∈frs l,b∈X.fs)->X.s₀.heap.FunFrames X.base l->s.heap.FunFrames X.base l:=by
  intro l
  induction l with
  |nil=>intro _ _;trivial
  |cons env r ih=>
   intro hs hl
   obtain⟨hk,⟨L,o,hf,hn,ho,hd⟩,hr⟩:=hl
   have hL:L∈X.fs:=hs L (by unfold frs;rw[List.filterMap_cons,hf];exact List.mem_cons_self)
   obtain⟨sl,e⟩:=I.base.slot L o ho (I.ok.frf L hL) hL fun z=>I.ok.exfs L z hL
   exact⟨hk,⟨L,_,hf,hn,e,hd⟩,ih (fun b hb=>hs b (by unfold frs;rw[List.filterMap_cons,hf];exact List.mem_cons_of_mem _ hb)) hr⟩
 exact all X.outer (fun _ hb=>hb) I.ok.funs
theorem Inv.stack(I:Inv X pins σ H s):s.heap.FunFrames X.base X.stack:=by
 rcases I.ok.stk with e|⟨e,hf⟩
 ·rw[e];exact I.funs
 ·rw[e]
  obtain⟨m,hn,_⟩:=I.loc
  refine .cons (by rw[I.ok.kind];decide) hf hn ?_ I.funs
  exact Heap.get?_none_of_le (Nat.le_trans I.ok.bsz I.ok.above)
theorem Inv.stkSub(I:Inv X pins σ H s): ∀b∈frs X.stack,b∈X.env.locals::X.fs:=fun b hb=>by
 rcases I.ok.stk with e|⟨e,hf⟩
 ·rw[e] at hb;exact List.mem_cons_of_mem _ hb
 ·rw[e] at hb
  unfold frs at hb
  rw[List.filterMap_cons,hf] at hb
  exact hb
theorem Inv.stkFree(I:Inv X pins σ H s): ∀b∈frs X.stack,H b=none:=fun b hb=>by
 rcases List.mem_cons.mp (I.stkSub b hb) with e|hb
 ·rw[e];exact I.free
 ·obtain⟨_,o,ho,_⟩:=I.ok.funs.mem hb
  exact I.base.free b o ho (I.ok.frf b hb) fun z=>I.ok.exfs b z hb
theorem Inv.step{g':Array GenState}{t':Nat}{d':Drawn}{ch:List Addr}(I:Inv X pins σ H s)
 (hch: ∀b∈ch,(b∈X.ex\/X.s₀.heap.objs.size<=b)/\b≠X.env.locals/\(∀x c,X.env.cells.lookup x=some c->c≠b)/\∀p∈X.pn++pins,p.1≠b)
 (keep: ∀b o,b≠X.env.locals->b∉X.fs->b∉ch->s.heap.get? b=some o->H b=none->h'.get? b=some o)
 (slot: ∀b o,b≠X.env.locals->b∈X.fs->b∉ch->s.heap.get? b=some o->H b=none->∃sl,h'.get? b=some {o with slots:=sl}) (free: ∀b o,b∉ch->s.heap.get? b=some o->H b=none->H' b=none)
 (there: ∀b o,b∉ch->s.heap.get? b=some o->∃o',h'.get? b=some o')
 (tups: ∀b xs,H b=some (.tup xs)->H' b=some (.tup xs)) (frzs: ∀b o u,H b=some (.frz o u)->H' b=some (.frz o u)) (tbls: ∀b ps,H b=some (.tbl ps)->∃more,H' b=some (.tbl (ps++more)))
 (ns: ∀m,s.heap.Ns X.env.locals m->h'.Ns X.env.locals m) (hok:HOk X.prog X.w H' h') (hg:AllBare g'):
 Inv X pins σ H' {s with heap:=h',gens:=g',drawn:=d',toks:=t'}:=by
 have neL: ∀b o,X.s₀.heap.get? b=some o->b≠X.env.locals:=fun b o e=>Nat.ne_of_lt (Nat.lt_of_lt_of_le (Heap.lt_size e) I.ok.above)
 have neC: ∀b o,X.s₀.heap.get? b=some o->b∉X.ex->b∉ch:=fun b o e hx hb=>by
  rcases(hch b hb).1 with z|z
  ·exact hx z
  ·exact absurd (Nat.lt_of_lt_of_le (Heap.lt_size e) z) (Nat.lt_irrefl _)
 have cellK: ∀x c,X.env.cells.lookup x=some c->∀v,s.heap.IsCell c v->h'.IsCell c v:=fun x c e v ⟨o,ho,hd⟩=>by
  have nch:c∉ch:=fun z=>(hch c z).2.2.1 x c e rfl
  by_cases hc:c∈X.fs
  ·obtain⟨sl,q⟩:=slot c o (I.cne x c e) hc nch ho (I.freeC x c e)
   exact⟨_,q,hd⟩
  ·exact⟨o,keep c o (I.cne x c e) hc nch ho (I.freeC x c e),hd⟩
 refine⟨I.ok,I.os,hg,⟨fun b o e n hb hx=> ?_,fun b o e n hb hx=> ?_,fun b o e n hx=> ?_,fun b o e hx=> ?_,fun b xs e=>tups b xs (I.base.tups b xs e),fun b o xs e=>frzs b o xs (I.base.frzs b o xs e),fun b ps e=> ?_⟩, ?_,fun x c e=> ?_, ?_,fun x c e=> ?_,fun p hp=> ?_,hok,I.len⟩
 ·exact keep b o (neL b o e) hb (neC b o e hx) (I.base.keep b o e n hb hx) (I.base.free b o e n hx)
 ·obtain⟨sl,e1⟩:=I.base.slot b o e n hb hx
  obtain⟨sl',e2⟩:=slot b _ (neL b o e) hb (neC b o e hx) e1 (I.base.free b o e n hx)
  exact⟨sl',e2⟩
 ·obtain⟨o',e1⟩:=I.base.there b o e hx
  exact free b o' (neC b o e hx) e1 (I.base.free b o e n hx)
 ·obtain⟨o',e1⟩:=I.base.there b o e hx
  exact there b o' (neC b o e hx) e1
 ·obtain⟨m1,e1⟩:=I.base.tbls b ps e
  obtain⟨m2,e2⟩:=tbls b _ e1
  exact⟨m1++m2,by rw[e2,Array.append_assoc]⟩
 ·obtain⟨m,hn,hl⟩:=I.loc
  refine⟨m,ns m hn,fun i x v e1 e2 e3=> ?_⟩
  obtain⟨u,r,l⟩:=hl i x v e1 e2 e3
  refine⟨u,r, ?_⟩
  rcases l with l|⟨k,c,e,z⟩
  ·exact .inl l
  ·exact .inr ⟨k,c,e,cellK x c e _ z⟩
 ·obtain⟨v,z⟩:=I.cell x c e
  exact⟨v,cellK x c e v z⟩
 ·obtain⟨m,⟨o,_,_,ho,_⟩,_⟩:=I.loc
  exact free _ o (fun z=>(hch _ z).2.1 rfl) ho I.free
 ·obtain⟨v,o,ho,hd⟩:=I.cell x c e
  exact free c o (fun z=>(hch c z).2.2.1 x c e rfl) ho (I.freeC x c e)
 ·obtain⟨e,n,ne,nf,d⟩:=I.pin p hp
  have nch:p.1∉ch:=fun z=>(hch p.1 z).2.2.2 p hp rfl
  exact⟨keep p.1 p.2 ne nf nch e n,free p.1 p.2 nch e n,ne,nf,d⟩
theorem Inv.un{t':Nat}(I:Inv X pins σ H s)(u:Un X.fs [] H H' s.heap h')(hok:HOk X.prog X.w H' h'):Inv X pins σ H' {s with heap:=h',toks:=t'}:=by
 obtain⟨m,⟨o,es,ep,ho,r⟩,_⟩:=id I.loc
 obtain⟨sl,hL⟩:=u.any ho I.free (by simp)
 exact I.step (g':=s.gens) (d':=s.drawn) (ch:=[]) (fun _ z=>nomatch z) (fun b o _ hb _ e n=>u.keep b o e n hb (by simp)) (fun b o _ hb _ e n=>u.slot b o e n hb (by simp)) (fun b o _ e n=>u.free b o e n (by simp)) (fun b o _ e=>u.there b o e (by simp)) u.tups u.frzs u.tbls (fun m' hm=>by
  obtain⟨o',es',ep',ho',r'⟩:=hm
  rw[ho] at ho';cases ho'
  exact⟨_,es',ep',hL,r'⟩) hok I.bare
theorem Inv.call{g':Array GenState}{t':Nat}{d':Drawn}{ch:List Addr}(I:Inv X pins σ H s)(u:Un (frs X.stack) ch H H' s.heap h')(hok:HOk X.prog X.w H' h')(hg:AllBare g')
 (hch: ∀b∈ch,(b∈X.ex\/X.s₀.heap.objs.size<=b)/\b≠X.env.locals/\(∀x c,X.env.cells.lookup x=some c->c≠b)/\∀p∈X.pn++pins,p.1≠b):
 Inv X pins σ H' {s with heap:=h',gens:=g',drawn:=d',toks:=t'}:=by
 obtain⟨m,⟨o,es,ep,ho,r⟩,_⟩:=id I.loc
 obtain⟨sl,hL⟩:=u.any ho I.free fun z=>(hch _ z).2.1 rfl
 exact I.step (ch:=ch) hch (fun b o hL hb hc e n=>u.keep b o e n (fun z=>(List.mem_cons.mp (I.stkSub b z)).elim hL hb) hc) (fun b o _ _ hc e n=>u.any e n hc) (fun b o hc e n=>u.free b o e n hc) (fun b o hc e=>u.there b o e hc) u.tups u.frzs u.tbls (fun m' hm=>by
  obtain⟨o',es',ep',ho',r'⟩:=hm
  rw[ho] at ho';cases ho'
  exact⟨_,es',ep',hL,r'⟩) hok hg
theorem Inv.turned{t':Nat}{it:Addr}(I:Inv X pins σ H s)(k: ∀b o,b≠it->s.heap.get? b=some o->h'.get? b=some o)(hn:H it=none)(hL:it≠X.env.locals)
 (h1:it∈X.ex\/X.s₀.heap.objs.size<=it) (h2: ∀x c,X.env.cells.lookup x=some c->c≠it) (h3: ∀p∈X.pn++pins,p.1≠it):Inv X pins σ H {s with heap:=h',toks:=t'}:=by
 have nit: ∀b u,H b=some u->b≠it:=fun b u e z=>by rw[z,hn] at e;cases e
 refine I.step (g':=s.gens) (d':=s.drawn) (ch:=[it]) (fun b hb=> ?_) (fun b o _ _ hc e _=>k b o (fun z=>hc (by simp[z])) e) (fun b o _ _ hc e _=>⟨o.slots,k b o (fun z=>hc (by simp[z])) e⟩) (fun _ _ _ _ n=>n)
  (fun b o hc e=>⟨o,k b o (fun z=>hc (by simp[z])) e⟩) (fun _ _ e=>e) (fun _ _ _ e=>e) (fun b ps e=>⟨#[],by rw[e];simp⟩) (fun m hm=> ?_) (fun b u e=> ?_) I.bare
 ·have e:b=it:=by simpa using hb
  subst e
  exact⟨h1,hL,h2,h3⟩
 ·obtain⟨o,es,ep,ho,r⟩:=hm
  exact⟨o,es,ep,k _ o (Ne.symm hL) ho,r⟩
 ·refine(I.hok b u e).stay (fun c v hc q=>k c v ?_ q) (fun _ q=>q) fun _ _ q=>q
  rcases hc with z|z
  ·rw[z];exact nit b u e
  ·exact nit c _ z
theorem Inv.tok(I:Inv X pins σ H s)(t:Nat):Inv X pins σ H {s with toks:=t}:=I.un (h':=s.heap) (t':=t) Un.refl I.hok
theorem Inv.kept{t':Nat}(I:Inv X pins σ H s)(k: ∀b u,s.heap.get? b=some u->h'.get? b=some u):Inv X pins σ H {s with heap:=h',toks:=t'}:=I.un (Un.kept k) (I.hok.kept k)
theorem Inv.laid{a:Addr}{o:HO}{t':Nat}(I:Inv X pins σ H s)(k: ∀b u,s.heap.get? b=some u->h'.get? b=some u)(hp:s.heap.objs.size<=a)(new:z1K X.prog X.w (upd H a o) h' a o):
 Inv X pins σ (upd H a o) {s with heap:=h',toks:=t'}:=I.un (Un.laid k hp (I.hok.fresh hp)) (I.hok.laid k hp new)
theorem Inv.write{x e:Addr}{o:HO}{t':Nat}(I:Inv X pins σ H s)(mu:Mut (H x))(he:e=x\/H e=some (.own x))(k: ∀b u,b≠e->s.heap.get? b=some u->h'.get? b=some u)(heo: ∃u,h'.get? e=some u)
 (new:z1K X.prog X.w (upd H x o) h' x o):Inv X pins σ (upd H x o) {s with heap:=h',toks:=t'}:=I.un (Un.write mu he k heo) (I.hok.write mu he k heo new)
theorem Inv.pins_of{pins':List (Addr×Obj)}(I:Inv X pins σ H s)(h: ∀p∈pins',s.heap.get? p.1=some p.2/\H p.1=none/\p.1≠X.env.locals/\p.1∉X.fs/\∀v,p.2.data≠ .cell v):Inv X pins' σ H s:=
 ⟨I.ok,I.os,I.bare,I.base,I.loc,I.cell,I.free,I.freeC,fun p hp=>(List.mem_append.mp hp).elim (fun z=>I.pin p (List.mem_append_left _ z)) (h p),I.hok,I.len⟩
theorem z5i{N:List Str}(hN:N.Nodup){i j:Nat}{x:Str}(a:N[i]? =some x)(b:N[j]? =some x):i=j:=by
 obtain⟨h1,e1⟩:=List.getElem?_eq_some_iff.mp a
 obtain⟨h2,e2⟩:=List.getElem?_eq_some_iff.mp b
 exact(List.getElem_inj hN).mp (e1.trans e2.symm)
theorem z6m{M:Model}{A:Around}{E:Value->Shared->Prop}{i:Nat}{x:Str}{v:V}{u:Value}{Q:Unit->Shared->Prop}(I:Inv X pins σ H s)(hN:X.N.Nodup)(hi:X.N[i]? =some x)(hx:Loc X.env.scope x)(r:RelV v u)
 (h: ∀s',Inv X pins (σ.set i (some v)) H s'->(∃a,Heap.SameBut a s.heap s'.heap/\(a=X.env.locals\/X.env.cells.lookup x=some a))->Q () s') (hf:X.fn x=true\/X.env.scope.names.lookup x=some .local:=by first|exact .inl rfl|exact .inr rfl|assumption):wpAny M A (storeName X.env x u) Q E s:=by
 obtain⟨m,hn,hl⟩:=id I.loc
 have hcls:(X.env.scope.kind== .class||(X.env.scope.kind== .module&&X.env.locals !=X.env.globals))=false:=by rw[I.ok.kind];rfl
 have hiσ:i<σ.length:=by rw[I.len];exact(List.getElem?_eq_some_iff.mp hi).1
 have cne:=I.cne
 have tracked: ∀{a:Addr} {h':Heap},(∃o,s.heap.get? a=some o/\H a=none)->Heap.SameBut a s.heap h'->HOk X.prog X.w H h':=fun{a h'} ha hs b ob e=>by
  obtain⟨_,_,hfree⟩:=ha
  refine(I.hok b ob e).stay (fun c w' hc q=>(hs.2 c ?_).trans q) (fun _ q=>q) fun _ _ q=>q
  rintro rfl
  rcases hc with rfl|hc
  ·rw[hfree] at e;cases e
  ·rw[hfree] at hc;cases hc
 rcases hx with hk|hk
 ·refine wpAny_storeName_local hk hn (fun h' hn' hs=> ?_) hcls
  obtain⟨oL,_,_,hoL,_⟩:=id hn
  refine h _ ⟨I.ok,I.os,I.bare,⟨fun b o e n hb hx=> ?_,fun b o e n hb hx=> ?_,I.base.free,fun b o e hx=> ?_,I.base.tups,I.base.frzs,I.base.tbls⟩,⟨_,hn',fun j y v' e1 e2 e3=> ?_⟩,fun y c e=> ?_,I.free,I.freeC,fun p hp=> ?_,tracked ⟨oL,hoL,I.free⟩ hs,by simpa using I.len⟩ ⟨_,hs, .inl rfl⟩
  ·exact(hs.2 b (Nat.ne_of_lt (Nat.lt_of_lt_of_le (Heap.lt_size e) I.ok.above))).trans (I.base.keep b o e n hb hx)
  ·obtain⟨sl,e1⟩:=I.base.slot b o e n hb hx
   exact⟨sl,(hs.2 b (Nat.ne_of_lt (Nat.lt_of_lt_of_le (Heap.lt_size e) I.ok.above))).trans e1⟩
  ·obtain⟨o',e1⟩:=I.base.there b o e hx
   exact⟨o',(hs.2 b (Nat.ne_of_lt (Nat.lt_of_lt_of_le (Heap.lt_size e) I.ok.above))).trans e1⟩
  ·by_cases hj:j=i
   ·subst hj
    rw[hi] at e1;cases e1
    rw[List.getElem?_set_self hiσ] at e2
    cases e2
    exact⟨u,r, .inl ⟨hk,by simp⟩⟩
   ·rw[List.getElem?_set_ne (Ne.symm hj)] at e2
    obtain⟨u',r',q⟩:=hl j y v' e1 e2 e3
    refine⟨u',r', ?_⟩
    rcases q with⟨k,e⟩|⟨k,c,e,z⟩
    ·refine .inl ⟨k, ?_⟩
     have:y≠x:=fun e=>hj (z5i hN e1 (e▸hi))
     simp[this,e]
    ·exact .inr ⟨k,c,e,z.sameBut hs (cne y c e)⟩
  ·obtain⟨w',z⟩:=I.cell y c e
   exact⟨w',z.sameBut hs (cne y c e)⟩
  ·obtain⟨e,n,ne,nf,d⟩:=I.pin p hp
   exact⟨(hs.2 p.1 ne).trans e,n,ne,nf,d⟩
 ·have hfn:X.fn x=true:=by
   rcases hf with z|z
   ·exact z
   ·rw[z] at hk;cases hk
  obtain⟨c,hc⟩:=I.ok.has x (.inl hk)
  obtain⟨w',z⟩:=I.cell x c hc
  refine wpAny_storeName_cell I.ok.kind hk hc z (fun h' hc' hs=> ?_)
  obtain⟨oc,hoc,hocd⟩:=id z
  refine h {s with heap:=h'} ⟨I.ok,I.os,I.bare,⟨fun b o e n hb hx=> ?_,fun b o e n hb hx=> ?_,I.base.free,fun b o e hx=> ?_,I.base.tups,I.base.frzs,I.base.tbls⟩,⟨m,hn.sameBut hs (Ne.symm (cne x c hc)),fun j y v' e1 e2 e3=> ?_⟩,fun y c' e=> ?_,I.free,I.freeC,fun p hp=> ?_,tracked ⟨oc,hoc,I.freeC x c hc⟩ hs,by simpa using I.len⟩ ⟨c,hs, .inr hc⟩
  ·exact(hs.2 b (Nat.ne_of_lt (Nat.lt_of_lt_of_le (Heap.lt_size e) (I.ok.cab x c hfn hc)))).trans (I.base.keep b o e n hb hx)
  ·obtain⟨sl,e1⟩:=I.base.slot b o e n hb hx
   exact⟨sl,(hs.2 b (Nat.ne_of_lt (Nat.lt_of_lt_of_le (Heap.lt_size e) (I.ok.cab x c hfn hc)))).trans e1⟩
  ·obtain⟨o',e1⟩:=I.base.there b o e hx
   exact⟨o',(hs.2 b (Nat.ne_of_lt (Nat.lt_of_lt_of_le (Heap.lt_size e) (I.ok.cab x c hfn hc)))).trans e1⟩
  ·by_cases hj:j=i
   ·subst hj
    rw[hi] at e1;cases e1
    rw[List.getElem?_set_self hiσ] at e2
    cases e2
    exact⟨u,r, .inr ⟨.inl hk,c,hc,hc'⟩⟩
   ·rw[List.getElem?_set_ne (Ne.symm hj)] at e2
    obtain⟨u',r',q⟩:=hl j y v' e1 e2 e3
    refine⟨u',r', ?_⟩
    rcases q with q|⟨k,c',e,z'⟩
    ·exact .inl q
    ·refine .inr ⟨k,c',e,z'.sameBut hs ?_⟩
     rintro rfl
     exact hj (z5i hN e1 (I.ok.inj _ _ _ e hc▸hi))
  ·by_cases hcc:c'=c
   ·subst hcc;exact⟨_,hc'⟩
   ·obtain⟨w2,z2⟩:=I.cell y c' e
    exact⟨w2,z2.sameBut hs hcc⟩
  ·obtain⟨e,n,ne,nf,d⟩:=I.pin p hp
   refine⟨(hs.2 p.1 ?_).trans e,n,ne,nf,d⟩
   intro q
   rw[q,hoc] at e
   have q':oc=p.2:=Option.some.inj e
   exact d w' (by rw[<-q'];exact hocd)
theorem z3t{M:Model}{A:Around}{E:Value->Shared->Prop}{i:Nat}{x:Str}{v:V}{u:Value}{Q:Unit->Shared->Prop}(I:Inv X pins σ H s)(hN:X.N.Nodup)(hi:X.N[i]? =some x)(hx:Loc X.env.scope x)(r:RelV v u)
 (h: ∀s',Inv X pins (σ.set i (some v)) H s'->Q () s') (hf:X.fn x=true\/X.env.scope.names.lookup x=some .local:=by first|exact .inl rfl|exact .inr rfl|assumption):wpAny M A (storeName X.env x u) Q E s:=
 z6m I hN hi hx r (fun s' I' _=>h s' I') hf
theorem Inv.call'{s':Shared}{ch:List Addr}(I:Inv X pins σ H s)(ho:s'.os=s.os)(u:Un (frs X.stack) ch H H' s.heap s'.heap)(hok:HOk X.prog X.w H' s'.heap)(hg:AllBare s'.gens)
 (hch: ∀b∈ch,(b∈X.ex\/X.s₀.heap.objs.size<=b)/\b≠X.env.locals/\(∀x c,X.env.cells.lookup x=some c->c≠b)/\∀p∈X.pn++pins,p.1≠b):Inv X pins σ H' s':=by
 obtain⟨h',g',d',t',o'⟩:=s'
 have e:o'=s.os:=ho
 subst e
 exact I.call (g':=g') (t':=t') (d':=d') u hok hg hch
end
noncomputable abbrev XK:=Value->Option Addr->Hp->Prop
noncomputable abbrev St:=List (Option V)
noncomputable abbrev VK:=V->Hp->Prop
noncomputable abbrev TE:=St->Hp->VK->Prop
noncomputable abbrev TT:=St->Hp->(Bool->Hp->Prop)->Prop
noncomputable abbrev TA:=St->Hp->(List V->Hp->Prop)->Prop
structure Ends where
 nx:St->Hp->Prop
 rt:VK
 bk:St->Hp->Prop:=fun _ _=>False
 ct:St->Hp->Prop:=fun _ _=>False
noncomputable abbrev TS:=Ends->St->Hp->Prop
noncomputable def EP(X:Cx)(pins:List (Addr×Obj))(σ:St)(Q:VK)(u:Value)(s':Shared):Prop:= ∃v H',Inv X pins σ H' s'/\RelV v u/\Q v H'
noncomputable def TP(X:Cx)(pins:List (Addr×Obj))(σ:St)(Q:Bool->Hp->Prop)(b:Bool)(s':Shared):Prop:= ∃H',Inv X pins σ H' s'/\Q b H'
noncomputable def AP(X:Cx)(pins:List (Addr×Obj))(σ:St)(Q:List V->Hp->Prop)(us:List Value)(s':Shared):Prop:= ∃vs H',Inv X pins σ H' s'/\Vals vs us/\Q vs H'
noncomputable def SP(X:Cx)(pins:List (Addr×Obj))(D:Ends)(f:Flow)(s':Shared):Prop:=
 match f with
 | .next=> ∃σ' H',Inv X pins σ' H' s'/\D.nx σ' H'
 | .brk=> ∃σ' H',Inv X pins σ' H' s'/\D.bk σ' H'
 | .cont=> ∃σ' H',Inv X pins σ' H' s'/\D.ct σ' H'
 | .ret u=> ∃v σ' H',Inv X pins σ' H' s'/\RelV v u/\D.rt v H'
noncomputable def PE(X:Cx)(e:Expr)(t:TE):Prop:=
 ∀(pins:List (Addr×Obj)) (s:Shared) (σ:St) (H:Hp) (Q:VK),Inv X pins σ H s->t σ H Q->wpAny (model X.prog X.w) X.A (eval e X.env) (EP X pins σ Q) X.xe s
noncomputable def PT(X:Cx)(e:Expr)(t:TT):Prop:=
 ∀(pins:List (Addr×Obj)) (s:Shared) (σ:St) (H:Hp) (Q:Bool->Hp->Prop),Inv X pins σ H s->t σ H Q->wpAny (model X.prog X.w) X.A (isTrue e X.env (eval e X.env)) (TP X pins σ Q) X.xe s
noncomputable def PW(X:Cx)(e:Expr)(t:TT):Prop:=
 ∀(whole:Sem Value) (pins:List (Addr×Obj)) (s:Shared) (σ:St) (H:Hp) (Q:Bool->Hp->Prop),Inv X pins σ H s->t σ H Q->wpAny (model X.prog X.w) X.A (isTrue e X.env whole) (TP X pins σ Q) X.xe s
theorem PW.pt{X:Cx}{e:Expr}{t:TT}(h:PW X e t):PT X e t:=h _
noncomputable def PA(X:Cx)(es:List Expr)(t:TA):Prop:=
 ∀(pos:Pos) (pins:List (Addr×Obj)) (s:Shared) (σ:St) (H:Hp) (Q:List V->Hp->Prop),Inv X pins σ H s->t σ H Q->wpAny (model X.prog X.w) X.A (spliced (backTo pos (starEach es X.env))) (AP X pins σ Q) X.xe s
noncomputable def PS(X:Cx)(st:Stmt)(t:TS):Prop:=
 ∀(pins:List (Addr×Obj)) (s:Shared) (σ:St) (H:Hp) (D:Ends),Inv X pins σ H s->t D σ H->wpAny (model X.prog X.w) X.A (exec st X.env) (SP X pins D) X.xe s
noncomputable def PSs(X:Cx)(st:List Stmt)(t:TS):Prop:=
 ∀(pins:List (Addr×Obj)) (s:Shared) (σ:St) (H:Hp) (D:Ends),Inv X pins σ H s->t D σ H->wpAny (model X.prog X.w) X.A (execs st X.env) (SP X pins D) X.xe s
theorem thn{α:Type}{t:Sem α}{Q Q':α->Shared->Prop}{M:Model}{A:Around}{E:Value->Shared->Prop}{s:Shared}(h:wpAny M A t Q E s)(hQ: ∀a s,Q a s->Q' a s):wpAny M A t Q' E s:=wpAny_mono h hQ fun _ _ x=>x
section
variable{X:Cx}
noncomputable def tVar(i:Nat):TE:=fun σ H Q=> ∃v,σ[i]? =some (some v)/\Q v H
noncomputable def tC(v:V):TE:=fun _ H Q=>Q v H
theorem zbi{i:Nat}{x:Str}{pos:Pos}(hN:X.N[i]? =some x)(hv:Vis X.env.scope x)(hd:(x==("__debug__" :Str))=false:=by decide)(hcd:(x==("__classdict__" :Str))=false:=by decide):PE X (.Name x pos) (tVar i):=by
 intro pins s σ H Q I h
 obtain⟨v,e,h⟩:=h
 obtain⟨m,hn,hl⟩:=I.loc
 obtain⟨u,r,l⟩:=hl i x v hN e hv
 have fin:EP X pins σ Q u s:=⟨v,H,I,r,h⟩
 rcases l with⟨hk,hm⟩|⟨hk,c,hc,hcell⟩
 ·exact wpAny_Name (wpAny_loadName_local I.ok.kind hk hn hm fin) hd
 ·rcases hk with hk|hk
  ·exact wpAny_Name (wpAny_loadName_cell I.ok.kind hk hc hcell fin) hd
  ·exact wpAny_Name (wpAny_loadName_free I.ok.kind hk hc hcell fin hcd) hd
theorem z00{i j pos}:PE X (.Constant (.int i) j pos) (tC (.int i)):=fun _ _ _ H _ I h=>wpAny_Constant_int ⟨.int i,H,I.tok _,⟨_,rfl⟩,h⟩
theorem z87{b j pos}:PE X (.Constant (.bool b) j pos) (tC (.bl b)):=fun _ _ _ H _ I h=>Constant_bool ⟨.bl b,H,I,rfl,h⟩
noncomputable def Gl(X:Cx)(x:Str):Prop:=X.env.kindOf x=some .globalImplicit
theorem z6n{E:Value->Shared->Prop}{pins:List (Addr×Obj)}{s:Shared}{σ:St}{H:Hp}{x:Str}{u:Value}{pos:Pos}{Q:Value->Shared->Prop}(I:Inv X pins σ H s)(hg:Gl X x)(hm:X.mg x=some u)(h:Q u s)
 (hd:(x==("__debug__" :Str))=false:=by decide):wpAny (model X.prog X.w) X.A (eval (.Name x pos) X.env) Q E s:=
 Calls.Name_function_global I.ok.kind hg (Calls.loadGlobal_global (by rw[I.ok.glob];exact I.mod.glob.keeps I.bk) hm h) hd
theorem z3Y{E:Value->Shared->Prop}{pins:List (Addr×Obj)}{s:Shared}{σ:St}{H:Hp}{x:Str}{u:Value}{pos:Pos}{Q:Value->Shared->Prop}(I:Inv X pins σ H s)(hg:Gl X x)(hm:X.mg x=none)(hv:bootBuiltins x=some u)(h:Q u s)
 (hn:x≠ "__name__" :=by decide) (hd:(x==("__debug__" :Str))=false:=by decide):wpAny (model X.prog X.w) X.A (eval (.Name x pos) X.env) Q E s:=by
 obtain⟨mb,h1,h2⟩:=I.mod.blt
 exact Calls.Name_function_global I.ok.kind hg (Calls.loadGlobal_builtin (by rw[I.ok.glob];exact I.mod.glob.keeps I.bk) hm (by rw[I.ok.blt];exact h1.keeps I.bk) ((h2 x hn).trans hv) h) hd
theorem z2y{x:Str}{v:V}{u:Value}{pos:Pos}(hg:Gl X x)(hm:X.mg x=some u)(r:RelV v u)(hd:(x==("__debug__" :Str))=false:=by decide):PE X (.Name x pos) (tC v):=
 fun _ _ _ H _ I h=>z6n I hg hm ⟨v,H,I,r,h⟩ hd
theorem z9H{x:Str}{v:V}{u:Value}{pos:Pos}(hg:Gl X x)(hm:X.mg x=none)(hv:bootBuiltins x=some u)(r:RelV v u)(hn:x≠ "__name__" :=by decide)(hd:(x==("__debug__" :Str))=false:=by decide):PE X (.Name x pos) (tC v):=
 fun _ _ _ H _ I h=>z3Y I hg hm hv ⟨v,H,I,r,h⟩ hn hd
variable{a b:Expr}{ta tb:TE}{pos:Pos}
variable{tA tB':TT}{rest:List Expr}
noncomputable def tAnd(t u:TT):TT:=fun σ H Q=>t σ H fun c H1=>if c=true then u σ H1 Q else Q false H1
noncomputable def tOr(t u:TT):TT:=fun σ H Q=>t σ H fun c H1=>if c=true then Q true H1 else u σ H1 Q
noncomputable def tNot(t:TT):TT:=fun σ H Q=>t σ H fun c H1=>Q (!c) H1
theorem z9I(ha:PT X a tA):PW X (.BoolOp .And [a] pos) tA:=by
 intro wh pins s σ H Q I h
 refine isTrue_and (thn (ha pins s σ H Q I h) fun c s1 e=> ?_)
 cases c with
 |true=>exact isTrue_and_nil e
 |false=>exact e
theorem zbj(ha:PT X a tA):PW X (.BoolOp .Or [a] pos) tA:=by
 intro wh pins s σ H Q I h
 refine isTrue_or (thn (ha pins s σ H Q I h) fun c s1 e=> ?_)
 cases c with
 |false=>exact isTrue_or_nil e
 |true=>exact e
theorem zbk(ha:PT X a tA)(hb:PW X (.BoolOp .And (b::rest) pos) tB'):PW X (.BoolOp .And (a::b::rest) pos) (tAnd tA tB'):=by
 intro wh pins s σ H Q I h
 refine isTrue_and (thn (ha pins s σ H _ I h) fun c s1 ⟨H1,I1,q1⟩=> ?_)
 cases c with
 |true=>exact hb wh pins s1 σ H1 Q I1 q1
 |false=>exact⟨H1,I1,q1⟩
theorem zdf(ha:PT X a tA)(hb:PW X (.BoolOp .Or (b::rest) pos) tB'):PW X (.BoolOp .Or (a::b::rest) pos) (tOr tA tB'):=by
 intro wh pins s σ H Q I h
 refine isTrue_or (thn (ha pins s σ H _ I h) fun c s1 ⟨H1,I1,q1⟩=> ?_)
 cases c with
 |true=>exact⟨H1,I1,q1⟩
 |false=>exact hb wh pins s1 σ H1 Q I1 q1
theorem zbl(ha:PT X a tA):PT X (.UnaryOp .Not a pos) (tNot tA):=by
 intro pins s σ H Q I h
 exact isTrue_not (ha pins s σ H (fun c H1=>Q (!c) H1) I h)
end
noncomputable def SqL(K:W.Frag)(H:Hp)(a:Addr)(xs:List V):Prop:=
 Rd H a (.lst xs)\/
  ∃(o:Obj) (its:Array Value) (n:Nat),K.lookup a=some o/\o.cls= .type "list" /\o.dict=none/\o.data= .seq its n/\its.size<=sizeLine/\Vals xs its.toList
noncomputable def SqT(K:W.Frag)(H:Hp)(a:Addr)(xs:List V):Prop:=
 Rd H a (.tup xs)\/
  ∃(o:Obj) (its:Array Value) (n:Nat),K.lookup a=some o/\o.cls= .type "tuple" /\o.data= .seq its n/\its.size<=sizeLine/\Vals xs its.toList
noncomputable def absV:Value->Option V
 | .none=>some .non
 | .bool b=>some (.bl b)
 | .int i _=>some (.int i)
 | .str x _=>some (.str x)
 | .bytes b _=>some (.byt b)
 | .float b _=>some (.flt b)
 | .ref a=>some (.ref a)
 | .type n=>some (.ty n)
 |_=>none
theorem RelV.abs{x:V}{u:Value}(r:RelV x u):absV u=some x:=by
 cases x with
 |non=>cases r;rfl
 |bl _=>cases r;rfl
 |int _=>obtain⟨t,rfl⟩:=r;rfl
 |str _=>obtain⟨t,rfl⟩:=r;rfl
 |byt _=>obtain⟨t,rfl⟩:=r;rfl
 |flt _=>obtain⟨t,rfl⟩:=r;rfl
 |ref _=>cases r;rfl
 |ty _=>cases r;rfl
theorem RelV.inj{x y:V}{u:Value}(r:RelV x u)(q:RelV y u):x=y:=Option.some.inj (r.abs.symm.trans q.abs)
theorem Vals.inj: ∀{xs ys:List V} {us:List Value},Vals xs us->Vals ys us->xs=ys
 |_,_,_, .nil, .nil=>rfl
 |_,_,_, .cons r t, .cons r' t'=>by rw[r.inj r',Vals.inj t t']
section
variable{X:Cx}{pins:List (Addr×Obj)}{σ:St}{H:Hp}{s:Shared}{a:Addr}{xs ys:List V}
theorem SqL.of{K:W.Frag}(h:H a=some (.lst xs)):SqL K H a xs:= .inl (.inl h)
theorem SqT.of{K:W.Frag}(h:H a=some (.tup xs)):SqT K H a xs:= .inl (.inl h)
theorem Inv.list(I:Inv X pins σ H s)(h:SqL X.K H a xs): ∃its:List Value,Vals xs its/\PlainL s.heap a its.toArray/\xs.length<=sizeLine:=by
 rcases h with h|⟨o,its,n,hk,hc,hd,hs,hz,r⟩
 ·obtain⟨z,its,n,r,e⟩:=h.ok I.hok
  exact⟨its,r,⟨_,n,e,rfl,rfl,rfl⟩,z⟩
 ·refine⟨its.toList,r,⟨o,n,I.kIn a o hk,hc,hd,by simpa using hs⟩, ?_⟩
  have e:=r.length
  simp only[Array.length_toList] at e
  lia
theorem Inv.tuple(I:Inv X pins σ H s)(h:SqT X.K H a xs): ∃its:List Value,Vals xs its/\IsTup s.heap a its.toArray/\xs.length<=sizeLine:=by
 rcases h with h|⟨o,its,n,hk,hc,hs,hz,r⟩
 ·obtain⟨z,its,r,p⟩:=h.ok I.hok
  exact⟨its,r,p,z⟩
 ·refine⟨its.toList,r,⟨o,I.kIn a o hk,hc,n,by simpa using hs⟩, ?_⟩
  have e:=r.length
  simp only[Array.length_toList] at e
  lia
theorem Inv.list_inj(I:Inv X pins σ H s)(h:SqL X.K H a xs)(h':SqL X.K H a ys):xs=ys:=by
 obtain⟨its,r,⟨o,n,e,_,_,d⟩,_⟩:=I.list h
 obtain⟨its',r',⟨o',n',e',_,_,d'⟩,_⟩:=I.list h'
 rw[e] at e';cases e'
 rw[d] at d'
 injection d' with d1 _
 have:its=its':=by simpa using congrArg Array.toList d1
 subst this
 exact r.inj r'
theorem Inv.tuple_inj(I:Inv X pins σ H s)(h:SqT X.K H a xs)(h':SqT X.K H a ys):xs=ys:=by
 obtain⟨its,r,⟨o,e,_,n,d⟩,_⟩:=I.tuple h
 obtain⟨its',r',⟨o',e',_,n',d'⟩,_⟩:=I.tuple h'
 rw[e] at e';cases e'
 rw[d] at d'
 injection d' with d1 _
 have:its=its':=by simpa using congrArg Array.toList d1
 subst this
 exact r.inj r'
end
noncomputable abbrev Cx.wish(X:Cx)(E:Value->Shared->Prop):Cx:={X with xe:=E}
noncomputable abbrev Cx.nox(X:Cx):Cx:=X.wish fun _ _=>False
theorem Cx.Ok.wish{X:Cx}(ok:X.Ok)(E:Value->Shared->Prop):(X.wish E).Ok:=
 ⟨ok.mod,ok.kind,ok.glob,ok.blt,ok.above,ok.inj,ok.has,ok.cab,ok.hd,ok.frames,ok.stk,ok.exf,ok.bs,ok.bsz,ok.noex,ok.exfs,ok.funs,ok.frf⟩
theorem Cx.Ok.unwish{X:Cx}{E:Value->Shared->Prop}(ok:(X.wish E).Ok):X.Ok:=
 ⟨ok.mod,ok.kind,ok.glob,ok.blt,ok.above,ok.inj,ok.has,ok.cab,ok.hd,ok.frames,ok.stk,ok.exf,ok.bs,ok.bsz,ok.noex,ok.exfs,ok.funs,ok.frf⟩
section
variable{X:Cx}{pins:List (Addr×Obj)}{σ:St}{H:Hp}{s:Shared}{E:Value->Shared->Prop}
theorem Inv.wish(I:Inv X pins σ H s)(E:Value->Shared->Prop):Inv (X.wish E) pins σ H s:=⟨I.ok.wish E,I.os,I.bare,I.base,I.loc,I.cell,I.free,I.freeC,I.pin,I.hok,I.len⟩
theorem Inv.unwish(I:Inv (X.wish E) pins σ H s):Inv X pins σ H s:=⟨I.ok.unwish,I.os,I.bare,I.base,I.loc,I.cell,I.free,I.freeC,I.pin,I.hok,I.len⟩
theorem SP.unwish{D:Ends}{f:Flow}{s':Shared}(h:SP (X.wish E) pins D f s'):SP X pins D f s':=by
 cases f with
 |next=>obtain⟨σ',H',I,q⟩:=h;exact⟨σ',H',I.unwish,q⟩
 |brk=>obtain⟨σ',H',I,q⟩:=h;exact⟨σ',H',I.unwish,q⟩
 |cont=>obtain⟨σ',H',I,q⟩:=h;exact⟨σ',H',I.unwish,q⟩
 |ret u=>obtain⟨v,σ',H',I,r,q⟩:=h;exact⟨v,σ',H',I.unwish,r,q⟩
theorem PSs.nox{st:List Stmt}{t:TS}(h:PSs X.nox st t):PSs X st t:=fun pins s σ H D I hw=>
 wpAny_mono (h pins s σ H D (I.wish _) hw) (fun _ _ q=>q.unwish) fun _ _ z=>False.elim z
end
section
variable{X:Cx}{st:Stmt}{rest:List Stmt}{t u:TS}{e:Expr}{te:TE}{pos:Pos}
noncomputable def zdg:TS:=fun D σ H=>D.nx σ H
noncomputable def tSeq(t u:TS):TS:=fun D σ H=>t {D with nx:=u D} σ H
theorem z9J:PSs X [] zdg:=fun _ _ σ H _ I h=>wpAny_execs_nil ⟨σ,H,I,h⟩
theorem z88(h1:PS X st t)(h2:PSs X rest u):PSs X (st::rest) (tSeq t u):=by
 intro pins s σ H D I h
 refine wpAny_execs_cons (thn (h1 pins s σ H {D with nx:=u D} I h) fun f s1 q=> ?_)
 cases f with
 |next=>
  obtain⟨σ',H',I',q⟩:=q
  exact h2 pins s1 σ' H' D I' q
 |ret v=>exact q
 |brk=>exact q
 |cont=>exact q
theorem z9K(h1:PS X st t):PSs X [st] t:=by
 intro pins s σ H D I h
 refine wpAny_execs_cons (thn (h1 pins s σ H D I h) fun f s1 q=> ?_)
 cases f with
 |next=>exact wpAny_execs_nil q
 |ret v=>exact q
 |brk=>exact q
 |cont=>exact q
theorem Inv.quiet{pins:List (Addr×Obj)}{σ:St}{H:Hp}{s:Shared}(I:Inv X pins σ H s):interactive X.env=false:=by simp[interactive,I.ok.kind]
noncomputable def zdh(te:TE):TS:=fun D σ H=>te σ H fun _ H1=>D.nx σ H1
theorem z9L(he:PE X e te)(hs:swapsWith e none pos.line X.env=pure false:=by rfl):PS X (.Expr e pos) (zdh te):=by
 intro pins s σ H D I h
 exact wpAny_Expr_any (thn (he pins s σ H _ I h) fun v s1 ⟨x,H1,I1,r1,q1⟩=>⟨σ,H1,I1,q1⟩) I.quiet hs
noncomputable def tRet(te:TE):TS:=fun D σ H=>te σ H D.rt
theorem zbm(he:PE X e te):PS X (.Return (some e) pos) (tRet te):=by
 intro pins s σ H D I h
 exact wpAny_Return_some (thn (he pins s σ H _ I h) fun v s1 ⟨x,H1,I1,r1,q1⟩=>⟨x,σ,H1,I1,r1,q1⟩)
noncomputable def tIfS(c:TT)(t u:TS):TS:=fun D σ H=>c σ H fun b H1=>if b=true then t D σ H1 else u D σ H1
theorem zdi{c:Expr}{a b:List Stmt}{tc:TT}(hc:PT X c tc)(ha:PSs X a t)(hb:PSs X b u):PS X (.If c a b pos) (tIfS tc t u):=by
 intro pins s σ H D I h
 refine wpAny_If (thn (hc pins s σ H _ I h) fun d s1 ⟨H1,I1,q1⟩=> ?_)
 cases d with
 |true=>exact ha pins s1 σ H1 D I1 q1
 |false=>exact hb pins s1 σ H1 D I1 q1
end
noncomputable abbrev TG:=V->St->Hp->(St->Hp->Prop)->Prop
noncomputable abbrev TGs:=List V->St->Hp->(St->Hp->Prop)->Prop
noncomputable def PG(X:Cx)(target:Expr)(t:TG):Prop:=
 ∀(pins:List (Addr×Obj)) (s:Shared) (σ:St) (H:Hp) (v:V) (u:Value) (Q:St->Hp->Prop),Inv X pins σ H s->RelV v u->t v σ H Q->
  wpAny (model X.prog X.w) X.A (assign target X.env u) (fun _ s'=> ∃σ' H',Inv X pins σ' H' s'/\Q σ' H') X.xe s
noncomputable def PGs(X:Cx)(ts:List Expr)(t:TGs):Prop:=
 ∀(pins:List (Addr×Obj)) (s:Shared) (σ:St) (H:Hp) (vs:List V) (us:List Value) (Q:St->Hp->Prop),Inv X pins σ H s->Vals vs us->t vs σ H Q->
  wpAny (model X.prog X.w) X.A (assignInOrder ((assignEach ts X.env).map (·.2)) us) (fun _ s'=> ∃σ' H',Inv X pins σ' H' s'/\Q σ' H') X.xe s
noncomputable abbrev TSet:=V->V->V->Hp->(Hp->Prop)->Prop
noncomputable def PSet(X:Cx)(t:TSet):Prop:=
 ∀(pins:List (Addr×Obj)) (s:Shared) (σ:St) (H:Hp) (o i v:V) (ov iv u:Value) (Q:Hp->Prop),Inv X pins σ H s->RelV o ov->RelV i iv->RelV v u->t o i v H Q->
  wpAny (model X.prog X.w) X.A (setItem ov iv u) (fun _ s'=> ∃H',Inv X pins σ H' s'/\Q H') X.xe s
section
variable{X:Cx}{pos:Pos}
noncomputable def z2z(i:Nat):TG:=fun v σ H Q=>Q (σ.set i (some v)) H
theorem z0F{i:Nat}{x:Str}(hN:X.N.Nodup)(hi:X.N[i]? =some x)(hx:Loc X.env.scope x)(hf:X.fn x=true\/X.env.scope.names.lookup x=some .local:=by first|exact .inl rfl|exact .inr rfl|assumption):PG X (.Name x pos) (z2z i):=by
 intro pins s σ H v u Q I r h
 exact wpAny_assign_Name (z3t I hN hi hx r (fun s' I'=>⟨_,H,I',h⟩) hf)
noncomputable def gNil:TGs:=fun vs σ H Q=>vs=[]/\Q σ H
noncomputable def zdj(t:TG)(u:TGs):TGs:=fun vs σ H Q=> ∃v r,vs=v::r/\t v σ H fun σ' H'=>u r σ' H' Q
theorem z9M:PGs X [] gNil:=by
 intro pins s σ H vs us Q I r h
 obtain⟨e,h⟩:=h
 subst e
 cases r
 exact assignInOrder_nil ⟨σ,H,I,h⟩
theorem z89{e:Expr}{es:List Expr}{t:TG}{u:TGs}(h1:PG X e t)(h2:PGs X es u)
 (hs:(assignEach (e::es) X.env).map (·.2)=assign e X.env::(assignEach es X.env).map (·.2):=by rfl):PGs X (e::es) (zdj t u):=by
 intro pins s σ H vs us Q I r h
 obtain⟨v,vr,e1,h⟩:=h
 subst e1
 cases r with
 |cons r rr=>
  rw[hs]
  refine assignInOrder_cons (thn (h1 pins s σ H _ _ _ I r h) fun _ s1 ⟨σ1,H1,I1,q1⟩=> ?_)
  exact h2 pins s1 σ1 H1 _ _ Q I1 rr q1
noncomputable def gTup(K:W.Frag)(n:Nat)(t:TGs):TG:=fun v σ H Q=> ∃a xs,v= .ref a/\SqT K H a xs/\xs.length=n/\t xs σ H Q
theorem zbn{es:List Expr}{k:Nat}{t:TGs}{n:Nat}(hc:X.calm=true)(h:PGs X es t)
 (hn:(assignEach es X.env).length=n:=by rfl) (hst:(assignEach es X.env).findIdx? (·.1)=none:=by rfl):PG X (.Tuple es k pos) (gTup X.K n t):=by
 intro pins s σ H v u Q I r hw
 obtain⟨a,xs,e1,hq,hl,hw⟩:=hw
 subst e1
 cases r
 obtain⟨its,rv,ht,hz⟩:=I.tuple hq
 refine assign_Tuple_tuple (I.ok.hd hc) ht (by simp[hn,<-hl,rv.length]) hst fun h' hx=> ?_
 have I1:Inv X pins σ H {s with heap:=h'}:=I.kept (t':=s.toks) fun b o e=>hx b o (Nat.ne_of_lt (Heap.lt_size e)) e
 exact h pins _ σ H xs _ Q I1 (by simpa using rv) hw
noncomputable def gSub(to ti:TE)(t:TSet):TG:=fun v σ H Q=>to σ H fun o H1=>ti σ H1 fun i H2=>t o i v H2 fun H3=>Q σ H3
theorem z9c{o i:Expr}{to ti:TE}{t:TSet}(ho:PE X o to)(hi:PE X i ti)(hs:PSet X t)
 (ha: ∀v,assign (.Subscript o i pos) X.env v=(do
  let ov<-holding [v] (eval o X.env)
  let iv<-holding [v,ov] (eval i X.env)
  standAt pos
  holding [v,ov,iv] (setItem ov iv v)
  release [v,ov,iv] []):=by intro _;rfl):PG X (.Subscript o i pos) (gSub to ti t):=by
 intro pins s σ H v u Q I r h
 rw[ha]
 refine wpAny_bind (wpAny_holding (thn (ho pins s σ H _ I h) fun ov s1 ⟨x,H1,I1,r1,q1⟩=> ?_))
 refine wpAny_bind (wpAny_holding (thn (hi pins s1 σ H1 _ I1 q1) fun iv s2 ⟨y,H2,I2,r2,q2⟩=> ?_))
 refine wpAny_bind (wpAny_standAt (wpAny_bind (wpAny_holding (thn (hs pins s2 σ H2 x y v ov iv u _ I2 r1 r2 r q2) fun _ s3 ⟨H3,I3,q3⟩=> ?_))))
 exact wpAny_release ⟨σ,H3,I3,q3⟩
noncomputable def tAsg(te:TE)(g:TG):TS:=fun D σ H=>te σ H fun x H1=>g x σ H1 D.nx
theorem z9d{tg e:Expr}{te:TE}{g:TG}(he:PE X e te)(hg:PG X tg g)(hs:swapsWithSole [tg] e pos.line X.env=pure false:=by rfl)(hw:swappedStores [tg] e X.env=pure none:=by rfl)
 (h1:(assignEach [tg] X.env).map (·.2)=[assign tg X.env]:=by rfl):PS X (.Assign [tg] e pos) (tAsg te g):=by
 intro pins s σ H D I h
 refine wpAny_Assign_stores (thn (he pins s σ H _ I h) fun v s1 ⟨x,H1,I1,r1,q1⟩=> ?_) hs hw
 rw[h1]
 exact thn (hg pins s1 σ H1 x v _ I1 r1 q1) fun _ s2 q=>q
theorem z5j{i:Nat}{x:Str}{e:Expr}{te:TE}{pos':Pos}(hN:X.N.Nodup)(hi:X.N[i]? =some x)(hx:Loc X.env.scope x)(he:PE X e te)(hs:swapsWith e (some (.Name x pos')) pos.line X.env=pure false:=by rfl)(hf:X.fn x=true\/X.env.scope.names.lookup x=some .local:=by first|exact .inl rfl|exact .inr rfl|assumption):
 PS X (.Assign [.Name x pos'] e pos) (tAsg te (z2z i)):=by
 intro pins s σ H D I h
 refine wpAny_Assign_Name (thn (he pins s σ H _ I h) fun v s1 ⟨y,H1,I1,r1,q1⟩=> ?_) hs
 exact z3t I1 hN hi hx r1 (fun s2 I2=>⟨_,H1,I2,q1⟩) hf
end
structure It where
 go:Nat->Hp->Prop
 yld:Nat->Hp->V->Hp->Prop
 stop:Nat->Hp->Prop
noncomputable def FpOk(X:Cx)(pins:List (Addr×Obj))(H:Hp)(b:Addr):Prop:=
 H b=none/\b≠X.env.locals/\b∉X.fs/\(b∈X.ex\/X.s₀.heap.objs.size<=b)/\(∀x c,X.env.cells.lookup x=some c->c≠b)/\∀p∈X.pn++pins,p.1≠b
theorem Inv.fpOk{X:Cx}{pins:List (Addr×Obj)}{σ:St}{H H':Hp}{s:Shared}{b:Addr}(I:Inv X pins σ H s)(hb:s.heap.objs.size<=b)(hn:H' b=none):FpOk X pins H' b:=by
 refine⟨hn,Nat.ne_of_gt (Nat.lt_of_lt_of_le I.lt hb),I.nofs hb, .inr (Nat.le_trans I.sz hb),fun x c e z=> ?_,fun p hp z=> ?_⟩
 ·obtain⟨v,q⟩:=I.cell x c e
  exact absurd (Nat.lt_of_lt_of_le q.lt (by rw[z];exact hb)) (Nat.lt_irrefl _)
 ·exact absurd (Nat.lt_of_lt_of_le (Heap.lt_size (I.pin p hp).1) (by rw[z];exact hb)) (Nat.lt_irrefl _)
structure Turn(P:Program)(w:World)(K:W.Frag)(tg:Expr)(J:It)(fp:List Addr)(it:Addr)(tn:Nat->Heap->Prop):Prop where
 mem:it∈fp
 obj: ∀i h,tn i h->∀b∈fp,∃o,h.get? b=some o/\∀v,o.data≠ .cell v
 keep: ∀i h h',tn i h->(∀b∈fp,∀o,h.get? b=some o->h'.get? b=some o)->tn i h'
 item: ∀(X:Cx),X.prog=P->X.w=w->X.K=K->X.calm=true->∀(i:Nat) (pins:List (Addr×Obj)) (s:Shared) (σ:St) (H:Hp) (E:Value->Shared->Prop),Inv X pins σ H s->(∀b∈fp,FpOk X pins H b)->tn i s.heap->J.go i H->
  wpAny (model P w) X.A (pyNext (.ref it)) (fun r s1=> ∃u,r=some u/\
   wpAny (model P w) X.A (letOwnedTupleGo tg (.ref it) u) (fun _ s2=> ∃x H',Inv X pins σ H' s2/\RelV x u/\J.yld i H x H'/\tn (i+1) s2.heap/\∀b∈fp,H' b=none) E s1) E s
 done: ∀(X:Cx),X.prog=P->X.w=w->X.K=K->X.calm=true->∀(i:Nat) (pins:List (Addr×Obj)) (s:Shared) (σ:St) (H:Hp) (E:Value->Shared->Prop),Inv X pins σ H s->(∀b∈fp,FpOk X pins H b)->tn i s.heap->J.stop i H->
  wpAny (model P w) X.A (pyNext (.ref it)) (fun r s1=>r=none/\Inv X pins σ H s1) E s
 self: ∀(A:Around) (i:Nat) (s:Shared) (Q:Value->Shared->Prop) (E:Value->Shared->Prop),tn i s.heap->Q (.ref it) s->wpAny (model P w) A (pyIter (.ref it)) Q E s
noncomputable abbrev TI:=St->Hp->(It->Hp->Prop)->Prop
noncomputable def PIE(X:Cx)(pins:List (Addr×Obj))(σ:St)(tg:Expr)(R:It->Hp->Prop)(itv:Value)(s2:Shared):Prop:=
 ∃(it:Addr) (fp:List Addr) (tn:Nat->Heap->Prop) (J:It) (H':Hp),itv= .ref it/\Inv X pins σ H' s2/\Turn X.prog X.w X.K tg J fp it tn/\tn 0 s2.heap/\(∀b∈fp,FpOk X pins H' b)/\R J H'
noncomputable def PI(X:Cx)(tg iter:Expr)(wi:TI):Prop:=
 ∀(pins:List (Addr×Obj)) (s:Shared) (σ:St) (H:Hp) (R:It->Hp->Prop),Inv X pins σ H s->wi σ H R->
  wpAny (model X.prog X.w) X.A (eval iter X.env) (fun v s1=>wpAny (model X.prog X.w) X.A (pyIter v) (PIE X pins σ tg R) X.xe s1) X.xe s
theorem z9N{M:Model}{A:Around}{E:Value->Shared->Prop}{s:Shared}{tg:Expr}{it:Addr}{u:Value}{o:Obj}{n:String}{vs:Array Value}{Q:Unit->Shared->Prop}(ho:s.heap.get? it=some o)(hc:o.cls= .type n)(hd:o.data= .fields vs)
 (hn:["enumerate", "zip", "dict_itemiterator", "dict_reverseitemiterator", "odict_iterator", "itertools.zip_longest", "itertools.pairwise"].contains n=false) (hQ:Q () s):wpAny M A (letOwnedTupleGo tg (.ref it) u) Q E s:=by
 unfold letOwnedTupleGo
 cases tg<;>first
  |exact wpAny_pure hQ
  |(cases u<;>first
   |exact wpAny_pure hQ
   |(refine wpAny_bind (wpAny_load ho ?_)
     rw[hc,hd]
     show wpAny M A (if(["enumerate", "zip", "dict_itemiterator", "dict_reverseitemiterator", "odict_iterator", "itertools.zip_longest", "itertools.pairwise"].contains n&&vs[0]? ==some (rawInt _))=true then _ else _) Q E s
     rw[if_neg (by intro h;rw[hn,Bool.false_and] at h;cases h)]
     exact wpAny_pure hQ))
noncomputable def Itl(K:W.Frag)(a:Addr):It:=
 ⟨fun i H=> ∃xs x,SqL K H a xs/\xs[i]? =some x,fun i H x H'=>H'=H/\∀xs,SqL K H a xs->xs[i]? =some x,fun i H=> ∃xs,SqL K H a xs/\xs.length<=i⟩
noncomputable def Itt(K:W.Frag)(a:Addr):It:=
 ⟨fun i H=> ∃xs x,SqT K H a xs/\xs[i]? =some x,fun i H x H'=>H'=H/\∀xs,SqT K H a xs->xs[i]? =some x,fun i H=> ∃xs,SqT K H a xs/\xs.length<=i⟩
noncomputable def Itr(lo:Int)(n:Nat):It:=⟨fun i _=>i<n,fun i H x H'=>H'=H/\x= .int (lo+i),fun i _=>n<=i⟩
theorem z6o{P:Program}{w:World}{K:W.Frag}{tg:Expr}(a it:Addr):Turn P w K tg (Itl K a) [it] it (fun i h=>h.IsListIter it a i) where
 mem:=by simp
 obj:=fun i h st b hb=>by
  have e:b=it:=by simpa using hb
  subst e
  obtain⟨o,e,c,d⟩:=st
  exact⟨o,e,fun v z=>by rw[d] at z;cases z⟩
 keep:=fun i h h' st k=>st.at fun o e=>k it (by simp) o e
 item:=by
  intro X hP hw hK hc i pins s σ H E I hf st hg
  subst hP hw hK
  obtain⟨xs,x,hq,hx⟩:=hg
  obtain⟨its,rv,p,hz⟩:=I.list hq
  obtain⟨u,hu,ru⟩:=rv.get hx
  obtain⟨f0,f1,f2,f3,f4,f5⟩:=hf it (by simp)
  refine wpAny_pyNext_list_item st p.isList (x:=u) (by simpa using hu) fun h' st' sb=> ?_
  have I1:Inv X pins σ H {s with heap:=h'}:=I.turned (t':=s.toks) (fun b o hb e=>(sb.2 b hb).trans e) f0 f1 f3 f4 f5
  obtain⟨o,e,c,d⟩:=id st'
  exact⟨u,rfl,z9N (s:={s with heap:=h'}) e c d (by decide) ⟨x,H,I1,ru,⟨rfl,fun ys hy=>by rw[I.list_inj hy hq];exact hx⟩,st',fun b hb=>(hf b hb).1⟩⟩
 done:=by
  intro X hP hw hK hc i pins s σ H E I hf st hg
  subst hP hw hK
  obtain⟨xs,hq,hx⟩:=hg
  obtain⟨its,rv,p,hz⟩:=I.list hq
  obtain⟨f0,f1,f2,f3,f4,f5⟩:=hf it (by simp)
  have hl:=rv.length
  exact wpAny_pyNext_list_end (I.ok.hd hc) st p.isList (by simp;lia) fun h' eb=>⟨rfl,I.turned (t':=s.toks) (fun b o hb e=>eb b o hb e) f0 f1 f3 f4 f5⟩
 self:=fun _ _ _ _ _ st h=>wpAny_pyIter_listiter st h
theorem z3j{P:Program}{w:World}{K:W.Frag}{tg:Expr}(a it:Addr):Turn P w K tg (Itt K a) [it] it (fun i h=>h.IsTupleIter it a i) where
 mem:=by simp
 obj:=fun i h st b hb=>by
  have e:b=it:=by simpa using hb
  subst e
  obtain⟨o,e,c,d⟩:=st
  exact⟨o,e,fun v z=>by rw[d] at z;cases z⟩
 keep:=fun i h h' st k=>st.at fun o e=>k it (by simp) o e
 item:=by
  intro X hP hw hK hc i pins s σ H E I hf st hg
  subst hP hw hK
  obtain⟨xs,x,hq,hx⟩:=hg
  obtain⟨its,rv,p,hz⟩:=I.tuple hq
  obtain⟨u,hu,ru⟩:=rv.get hx
  obtain⟨f0,f1,f2,f3,f4,f5⟩:=hf it (by simp)
  refine wpAny_pyNext_tuple_item st (show s.heap.IsTuple a its.toArray from p) (x:=u) (by simpa using hu) fun h' st' sb=> ?_
  have I1:Inv X pins σ H {s with heap:=h'}:=I.turned (t':=s.toks) (fun b o hb e=>(sb.2 b hb).trans e) f0 f1 f3 f4 f5
  obtain⟨o,e,c,d⟩:=id st'
  exact⟨u,rfl,z9N (s:={s with heap:=h'}) e c d (by decide) ⟨x,H,I1,ru,⟨rfl,fun ys hy=>by rw[I.tuple_inj hy hq];exact hx⟩,st',fun b hb=>(hf b hb).1⟩⟩
 done:=by
  intro X hP hw hK hc i pins s σ H E I hf st hg
  subst hP hw hK
  obtain⟨xs,hq,hx⟩:=hg
  obtain⟨its,rv,p,hz⟩:=I.tuple hq
  obtain⟨f0,f1,f2,f3,f4,f5⟩:=hf it (by simp)
  have hl:=rv.length
  exact wpAny_pyNext_tuple_end (I.ok.hd hc) st (show s.heap.IsTuple a its.toArray from p) (by simp;lia) fun h' eb=>⟨rfl,I.turned (t':=s.toks) (fun b o hb e=>eb b o hb e) f0 f1 f3 f4 f5⟩
 self:=fun _ _ _ _ _ st h=>wpAny_pyIter_tupleiter st h
theorem z5L{P:Program}{w:World}{K:W.Frag}{tg:Expr}(it:Addr)(lo:Int)(n:Nat):Turn P w K tg (Itr lo n) [it] it (fun i h=>IsRangeIter h it (lo+(i:Nat)*1) ((n:Int) -(i:Nat)) 1) where
 mem:=by simp
 obj:=fun i h st b hb=>by
  have e:b=it:=by simpa using hb
  subst e
  exact⟨_,st,fun v z=>by
   have z':Data.fields _=Data.cell v:=z
   cases z'⟩
 keep:=fun i h h' st k=>k it (by simp) _ st
 item:=by
  intro X hP hw hK hc i pins s σ H E I hf st hg
  subst hP hw hK
  obtain⟨f0,f1,f2,f3,f4,f5⟩:=hf it (by simp)
  have W:=Walks.range (prog:=X.prog) (w:=X.w) (I.ok.hd hc) it lo 1 n
  refine W.item i s _ _ hg st fun v h' tk hv st' kk=> ?_
  obtain⟨t,rfl⟩:=hv
  have I1:Inv X pins σ H {s with heap:=h',toks:=tk}:=I.turned (fun b o hb e=>kk b o (by simpa using hb) e) f0 f1 f3 f4 f5
  refine⟨_,rfl,z9N (s:={s with heap:=h',toks:=tk}) (n:= "range_iterator") st' rfl rfl (by decide) ⟨.int (lo+i),H,I1,⟨t, ?_⟩,⟨rfl,rfl⟩,st',fun b hb=>(hf b hb).1⟩⟩
  rw[Int.mul_one]
 done:=by
  intro X hP hw hK hc i pins s σ H E I hf st hg
  subst hP hw hK
  obtain⟨f0,f1,f2,f3,f4,f5⟩:=hf it (by simp)
  exact wpAny_pyNext_range_end (I.ok.hd hc) st (by have:n<=i:=hg;lia) fun h' eb=>⟨rfl,I.turned (t':=s.toks) (fun b o hb e=>eb b o hb e) f0 f1 f3 f4 f5⟩
 self:=fun _ _ _ _ _ st h=>wpAny_pyIter_rangeiter st h
section
variable{X:Cx}{tg:Expr}
theorem z8a{pins:List (Addr×Obj)}{σ:St}{H:Hp}{s:Shared}{R:It->Hp->Prop}{E:Value->Shared->Prop}{lo hi:Int}{t u v:Tok}{tk:Nat}(I:Inv X pins σ H s)(h1: -(2^62)<=lo)(h2:lo<2^62)(h3: -(2^62)<=hi)(h4:hi<2^62)
 (q:R (Itr lo (hi -lo).toNat) H):wpAny (model X.prog X.w) X.A (pyIter (.ref s.heap.objs.size)) (PIE X pins σ tg R) E {s with heap:=s.heap.push {cls:= .type "range",data:= .fields #[.int lo t, .int hi u, .int 1 v]},toks:=tk}:=by
 refine wpAny_pyIter_range (IsRange.new ..) (small_one h1 h2 h3 h4) ?_
 have I1:Inv X pins σ H {s with heap:=s.heap.push {cls:= .type "range",data:= .fields #[.int lo t, .int hi u, .int 1 v]},toks:=tk}:=I.kept fun b o e=>Heap.get?_push_of_some _ e
 refine⟨(s.heap.push {cls:= .type "range",data:= .fields #[.int lo t, .int hi u, .int 1 v]}).objs.size,[(s.heap.push {cls:= .type "range",data:= .fields #[.int lo t, .int hi u, .int 1 v]}).objs.size],_,_,H,rfl,
  I1.kept (t':=tk) fun b o e=>Heap.get?_push_of_some _ e,z5L _ lo (hi -lo).toNat, ?_,fun b hb=> ?_,q⟩
 ·have e1:lo+((0:Nat):Int)*1=lo:=by simp
  have e2:(((hi -lo).toNat:Nat):Int) -((0:Nat):Int)=Builtin.Range.rangeSize lo hi 1:=by rw[rangeSize_one];split<;>lia
  show IsRangeIter _ _ (lo+((0:Nat):Int)*1) ((((hi -lo).toNat:Nat):Int) -((0:Nat):Int)) 1
  rw[e1,e2]
  exact Heap.get?_push_size _ rfl
 ·have e:b=(s.heap.push {cls:= .type "range",data:= .fields #[.int lo t, .int hi u, .int 1 v]}).objs.size:=by simpa using hb
  subst e
  exact I1.fpOk (Nat.le_refl _) (I1.hok.fresh (Nat.le_refl _))
noncomputable def zdk(ta:TA):TI:=fun σ H R=>ta σ H fun vs H1=> ∃j:Int,vs=[.int j]/\-(2^62)<=j/\j<2^62/\R (Itr 0 j.toNat) H1
theorem z6p{a:Expr}{ta:TA}{p pos:Pos}(hg:Gl X "range")(hm:X.mg "range" =none)(ha:PA X [a] ta)(hs:starEach [a] X.env=[(false,eval a X.env)]:=by rfl):PI X tg (.Call (.Name "range" p) [a] [] pos) (zdk ta):=by
 intro pins s σ H R I h
 refine Call_ (z3Y I hg hm boot_range (PyProof.Rows.callWith_type1 (thn (ha pos pins s σ H _ I h) fun us s1 ⟨vs,H1,I1,r1,q1⟩=> ?_) hs rfl))
 obtain⟨j,e,q1,q2,q⟩:=q1
 subst e
 cases r1 with
 |cons r rr=>
  cases rr
  obtain⟨t,rfl⟩:=r
  exact call_range_1 (z8a I1 (by lia) (by lia) q1 q2 (by simpa using q))
noncomputable def tFor(wi:TI)(g:TG)(tb:TS):TS:=fun D σ H=>wi σ H fun J H1=> ∃W:Nat->Nat->St->Hp->Prop,(∃m,W 0 m σ H1)/\∀i m σ H,W i m σ H->
 (J.stop i H/\D.nx σ H)\/(J.go i H/\∃N:St->Hp->Prop,(∀σ' H',N σ' H'->∃m',m'<m/\W (i+1) m' σ' H')/\∀x H',J.yld i H x H'->g x σ H' fun σ2 H2=>tb {D with nx:=N,ct:=N,bk:=D.nx} σ2 H2)
noncomputable def z2m(fp:List Addr)(h:Heap):List (Addr×Obj):=fp.filterMap fun b=>(h.get? b).map fun o=>(b,o)
theorem z0b{fp:List Addr}{h:Heap}{b:Addr}{o:Obj}(hb:b∈fp)(e:h.get? b=some o):(b,o)∈z2m fp h:=List.mem_filterMap.mpr ⟨b,hb,by rw[e];rfl⟩
theorem z3Z{fp:List Addr}{h:Heap}{p:Addr×Obj}(hp:p∈z2m fp h):p.1∈fp/\h.get? p.1=some p.2:=by
 obtain⟨b,hb,e⟩:=List.mem_filterMap.mp hp
 cases q:h.get? b with
 |none=>rw[q] at e;cases e
 |some o=>
  rw[q] at e
  have e':(b,o)=p:=Option.some.inj e
  subst e'
  exact⟨hb,q⟩
theorem Inv.pinned{pins:List (Addr×Obj)}{σ:St}{H:Hp}{s:Shared}{fp:List Addr}(I:Inv X pins σ H s)(hf: ∀b∈fp,FpOk X pins H b)(ho: ∀b∈fp,∃o,s.heap.get? b=some o/\∀v,o.data≠ .cell v):Inv X (pins++z2m fp s.heap) σ H s:=
 I.pins_of fun p hp=>(List.mem_append.mp hp).elim (fun z=>I.pin p (List.mem_append_right _ z)) fun z=>by
  obtain⟨hb,e⟩:=z3Z z
  obtain⟨f0,f1,f2,_⟩:=hf p.1 hb
  obtain⟨o,e',d⟩:=ho p.1 hb
  rw[e] at e';cases e'
  exact⟨e,f0,f1,f2,d⟩
theorem Inv.unpinned{pins pl:List (Addr×Obj)}{σ:St}{H:Hp}{s:Shared}(I:Inv X (pins++pl) σ H s):Inv X pins σ H s:=I.pins_of fun p hp=>I.pin p (List.mem_append_right _ (List.mem_append_left _ hp))
theorem zbo{iter:Expr}{body:List Stmt}{wi:TI}{g:TG}{tb:TS}{pos:Pos}(hp:PassesOwn (model X.prog X.w) X.A X.env X.xe)(hc:X.calm=true)(hi:PI X tg iter wi)(hg:PG X tg g)(hb:PSs X body tb)
 (hs: ∀x,foldedSetIterable iter X.env x=pure x:=by intro _;rfl):PS X (.For tg iter body [] pos) (tFor wi g tb):=by
 intro pins s σ H D I h
 refine wpAny_For (thn (hi pins s σ H _ I h) fun v s1 h1=>thn h1 fun itv s2 h2=> ?_) hs
 obtain⟨it,fp,tn,J,H2,e,I2,T,st2,f2,W,⟨m0,w0⟩,turn⟩:=h2
 subst e
 have stat: ∀{H':Hp},(∀b∈fp,H' b=none)->∀b∈fp,FpOk X pins H' b:=fun hn b hb=>⟨hn b hb,(f2 b hb).2⟩
 refine codeAny_forLoop_any (fun n s'=> ∃i σ' H',Inv X pins σ' H' s'/\tn i s'.heap/\(∀b∈fp,H' b=none)/\W i n σ' H') ?_ m0 ⟨0,σ,H2,I2,st2,fun b hb=>(f2 b hb).1,w0⟩
 rintro n s3 ⟨i,σ3,H3,I3,st3,fr3,w3⟩
 rcases turn i n σ3 H3 w3 with⟨stop,qn⟩|⟨go,N,hN,step⟩
 ·refine wpAny_passesOwn hp (thn (T.done X rfl rfl rfl hc i pins s3 σ3 H3 X.xe I3 (stat fr3) st3 stop) fun r s4 ⟨hr,I4⟩=> ?_)
  subst hr
  exact wpAny_execs_nil ⟨σ3,H3,I4,qn⟩
 ·refine wpAny_passesOwn hp (thn (T.item X rfl rfl rfl hc i pins s3 σ3 H3 X.xe I3 (stat fr3) st3 go) fun r s4 ⟨u,hr,h4⟩=> ?_)
  subst hr
  refine wpAny_passesOwn hp (thn h4 fun _ s5 ⟨x,H5,I5,r5,y5,st5,fr5⟩=> ?_)
  have I5':=I5.pinned (stat fr5) (T.obj _ _ st5)
  refine wpAny_passesOwn hp (thn (hg _ s5 σ3 H5 x u _ I5' r5 (step x H5 y5)) fun _ s6 ⟨σ6,H6,I6,q6⟩=> ?_)
  refine wpAny_passesOwn hp (thn (hb _ s6 σ6 H6 _ I6 q6) fun f s7 q7=> ?_)
  have again: ∀{σ7:St} {H7:Hp},Inv X (pins++z2m fp s5.heap) σ7 H7 s7->N σ7 H7->∃m,m<n/\∃i σ' H',Inv X pins σ' H' s7/\tn i s7.heap/\(∀b∈fp,H' b=none)/\W i m σ' H':=fun{σ7 H7} I7 n7=>by
   obtain⟨m',hm,w7⟩:=hN σ7 H7 n7
   refine⟨m',hm,i+1,σ7,H7,I7.unpinned,T.keep _ _ _ st5 fun b hb o e=>(I7.pin (b,o) (List.mem_append_right _ (List.mem_append_right _ (z0b hb e)))).1,fun b hb=> ?_,w7⟩
   obtain⟨o,e,d⟩:=T.obj _ _ st5 b hb
   exact(I7.pin (b,o) (List.mem_append_right _ (List.mem_append_right _ (z0b hb e)))).2.1
  cases f with
  |next=>obtain⟨σ7,H7,I7,n7⟩:=q7;exact again I7 n7
  |cont=>obtain⟨σ7,H7,I7,n7⟩:=q7;exact again I7 n7
  |brk=>obtain⟨σ7,H7,I7,q7⟩:=q7;exact⟨σ7,H7,I7.unpinned,q7⟩
  |ret v=>obtain⟨x7,σ7,H7,I7,r7,q7⟩:=q7;exact⟨x7,σ7,H7,I7.unpinned,r7,q7⟩
end
noncomputable abbrev R2:=V->V->Hp->VK->Prop
noncomputable def OpR(X:Cx)(f:Value->Value->Sem Value)(r:R2):Prop:=
 ∀(pins:List (Addr×Obj)) (s:Shared) (σ:St) (H:Hp) (x y:V) (v u:Value) (Q:VK),Inv X pins σ H s->RelV x v->RelV y u->r x y H Q->
  wpAny (model X.prog X.w) X.A (f v u) (EP X pins σ Q) X.xe s
noncomputable def UnR(X:Cx)(f:Value->Sem Value)(r:V->Hp->VK->Prop):Prop:=
 ∀(pins:List (Addr×Obj)) (s:Shared) (σ:St) (H:Hp) (x:V) (v:Value) (Q:VK),Inv X pins σ H s->RelV x v->r x H Q->
  wpAny (model X.prog X.w) X.A (f v) (EP X pins σ Q) X.xe s
noncomputable def CallR(X:Cx)(f:Value)(r:List V->Hp->VK->Prop):Prop:=
 ∀(pins:List (Addr×Obj)) (s:Shared) (σ:St) (H:Hp) (xs:List V) (us:List Value) (Q:VK),Inv X pins σ H s->Vals xs us->r xs H Q->
  wpAny (model X.prog X.w) X.A (call f us) (EP X pins σ Q) X.xe s
noncomputable def TruR(X:Cx)(r:V->Hp->(Bool->Hp->Prop)->Prop):Prop:=
 ∀(pins:List (Addr×Obj)) (s:Shared) (σ:St) (H:Hp) (x:V) (v:Value) (Q:Bool->Hp->Prop),Inv X pins σ H s->RelV x v->r x H Q->
  wpAny (model X.prog X.w) X.A (truthy v) (TP X pins σ Q) X.xe s
noncomputable def tOp(r:R2)(ta tb:TE):TE:=fun σ H Q=>ta σ H fun x H1=>tb σ H1 fun y H2=>r x y H2 Q
noncomputable def tUn(r:V->Hp->VK->Prop)(ta:TE):TE:=fun σ H Q=>ta σ H fun x H1=>r x H1 Q
noncomputable def rI(C:Int->Int->Prop)(g:Int->Int->V):R2:=fun x y H Q=> ∃i j,x= .int i/\y= .int j/\C i j/\Q (g i j) H
noncomputable def rI0(g:Int->Int->V):R2:=fun x y H Q=> ∃i j,x= .int i/\y= .int j/\Q (g i j) H
noncomputable def rU(g:Int->V):V->Hp->VK->Prop:=fun x H Q=> ∃i,x= .int i/\Q (g i) H
section
variable{X:Cx}{a b c:Expr}{ta tb tc:TE}{pos:Pos}
theorem binT(ha:PE X a ta)(hb:PE X b tb){pins:List (Addr×Obj)}{s:Shared}{σ:St}{H:Hp}{R:V->V->Hp->Prop}(I:Inv X pins σ H s)
 (h:ta σ H fun x H1=>tb σ H1 fun y H2=>R x y H2) {Q:Value->Shared->Prop} {f:Value->Value->Sem Value}
 (hf: ∀v u s2 x y H2,Inv X pins σ H2 s2->RelV x v->RelV y u->R x y H2->wpAny (model X.prog X.w) X.A (f v u) Q X.xe s2):
 wpAny (model X.prog X.w) X.A (eval a X.env) (fun v s₁=>wpAny (model X.prog X.w) X.A (eval b X.env) (fun u s₂=>wpAny (model X.prog X.w) X.A (f v u) Q X.xe s₂) X.xe s₁) X.xe s:=by
 refine thn (ha pins s σ H _ I h) fun v s1 ⟨x,H1,I1,r1,q1⟩=> ?_
 refine thn (hb pins s1 σ H1 _ I1 q1) fun u s2 ⟨y,H2,I2,r2,q2⟩=> ?_
 exact hf v u s2 x y H2 I2 r1 r2 q2
theorem zdl{op:Operator}{r:R2}(ho:OpR X (binaryOp op) r)(ha:PE X a ta)(hb:PE X b tb):PE X (.BinOp a op b pos) (tOp r ta tb):=by
 intro pins s σ H Q I h
 exact wpAny_BinOp (binT ha hb I h fun v u s2 x y H2 I2 rx ry q=>ho pins s2 σ H2 x y v u Q I2 rx ry q)
theorem zbp{op:UnaryOp}{r:V->Hp->VK->Prop}(ho:UnR X (unaryOp op) r)(ha:PE X a ta):PE X (.UnaryOp op a pos) (tUn r ta):=by
 intro pins s σ H Q I h
 exact UnaryOp_ (thn (ha pins s σ H _ I h) fun v s1 ⟨x,H1,I1,r1,q1⟩=>ho pins s1 σ H1 x v Q I1 r1 q1)
theorem opI{f:Value->Value->Sem Value}{C:Int->Int->Prop}{g:Int->Int->Int}
 (rule: ∀(i j:Int) (t u:Tok) (s:Shared) (Q:Value->Shared->Prop) (E:Value->Shared->Prop),C i j->Q (.int (g i j) s.toks) {s with toks:=s.toks+1}->wpAny (model X.prog X.w) X.A (f (.int i t) (.int j u)) Q E s):
 OpR X f (rI C fun i j=> .int (g i j)):=by
 intro pins s σ H x y v u Q I rx ry h
 obtain⟨i,j,rfl,rfl,hc,q⟩:=h
 obtain⟨t,rfl⟩:=rx
 obtain⟨t',rfl⟩:=ry
 exact rule i j t t' s _ _ hc ⟨.int (g i j),H,I.tok _,⟨_,rfl⟩,q⟩
theorem opI0{f:Value->Value->Sem Value}{g:Int->Int->Int}
 (rule: ∀(i j:Int) (t u:Tok) (s:Shared) (Q:Value->Shared->Prop) (E:Value->Shared->Prop),Q (.int (g i j) s.toks) {s with toks:=s.toks+1}->wpAny (model X.prog X.w) X.A (f (.int i t) (.int j u)) Q E s):
 OpR X f (rI0 fun i j=> .int (g i j)):=by
 intro pins s σ H x y v u Q I rx ry h
 obtain⟨i,j,rfl,rfl,q⟩:=h
 obtain⟨t,rfl⟩:=rx
 obtain⟨t',rfl⟩:=ry
 exact rule i j t t' s _ _ ⟨.int (g i j),H,I.tok _,⟨_,rfl⟩,q⟩
theorem opB0{f:Value->Value->Sem Value}{g:Int->Int->Bool}
 (rule: ∀(i j:Int) (t u:Tok) (s:Shared) (Q:Value->Shared->Prop) (E:Value->Shared->Prop),Q (.bool (g i j)) s->wpAny (model X.prog X.w) X.A (f (.int i t) (.int j u)) Q E s):
 OpR X f (rI0 fun i j=> .bl (g i j)):=by
 intro pins s σ H x y v u Q I rx ry h
 obtain⟨i,j,rfl,rfl,q⟩:=h
 obtain⟨t,rfl⟩:=rx
 obtain⟨t',rfl⟩:=ry
 exact rule i j t t' s _ _ ⟨.bl (g i j),H,I,rfl,q⟩
noncomputable def CDiv(i j:Int):Prop:=0<j/\j<2^200
theorem zdm{x j:Int}(h1:0<j)(h2:j<2^200):Builtin.divisionGoesByPylong x j=false:=by
 refine PyProof.noPylong_of_log2 ?_
 have h3:j.natAbs.log2<200:=(Nat.log2_lt (by lia)).mpr (by lia)
 lia
noncomputable def CPow(i j:Int):Prop:=0<=j/\j<=1000000/\i.natAbs<2^64
noncomputable def CMul(i j:Int):Prop:=(-(2^64)<i/\i<2^64)\/(-(2^64)<j/\j<2^64)
theorem CMul.ok{i j:Int}(h:CMul i j):IntMulOk i j:=by
 rcases h with⟨h1,h2⟩|⟨h1,h2⟩
 ·exact .of_left (intBits_le_64 h1 h2)
 ·exact .of_right (intBits_le_64 h1 h2)
theorem zbq:OpR X (binaryOp .Add) (rI0 fun i j=> .int (i+j)):=opI0 fun _ _ _ _ _ _ _ q=>add_int q
theorem zbr:OpR X (binaryOp .Sub) (rI0 fun i j=> .int (i -j)):=opI0 fun _ _ _ _ _ _ _ q=>sub_int q
theorem zbs:OpR X (binaryOp .Mult) (rI CMul fun i j=> .int (i*j)):=opI fun _ _ _ _ _ _ _ hc q=>mul_int q hc.ok
theorem z9O:OpR X (binaryOp .FloorDiv) (rI CDiv fun i j=> .int (i/j)):=opI fun i j _ _ _ _ _ hc q=>by
 have h1:(0:Int)<j:=hc.1
 have h2:j<2^200:=hc.2
 exact floordiv_int (by lia) (by rw[Int.fdiv_eq_ediv_of_nonneg i (by lia)];exact q) (.inl (zdm h1 h2))
theorem zbt:OpR X (binaryOp .Mod) (rI (fun _ j=>0<j) fun i j=> .int (i %j)):=opI fun i j _ _ _ _ _ hc q=>by
 have h1:(0:Int)<j:=hc
 exact mod_int' (by lia) (by rw[Int.fmod_eq_emod_of_nonneg i (by lia)];exact q)
theorem zbu:OpR X (binaryOp .Pow) (rI CPow fun i j=> .int (i^j.toNat)):=opI fun _ _ _ _ _ _ _ hc q=>pow_int_small hc.1 hc.2.1 hc.2.2 q
theorem unI{f:Value->Sem Value}{g:Int->Int}
 (rule: ∀(i:Int) (t:Tok) (s:Shared) (Q:Value->Shared->Prop) (E:Value->Shared->Prop),Q (.int (g i) s.toks) {s with toks:=s.toks+1}->wpAny (model X.prog X.w) X.A (f (.int i t)) Q E s):
 UnR X f (rU fun i=> .int (g i)):=by
 intro pins s σ H x v Q I rx h
 obtain⟨i,rfl,q⟩:=h
 obtain⟨t,rfl⟩:=rx
 exact rule i t s _ _ ⟨.int (g i),H,I.tok _,⟨_,rfl⟩,q⟩
theorem z9e:UnR X (unaryOp .USub) (rU fun i=> .int (-i)):=unI fun _ _ _ _ _ q=>neg_int q
theorem zdn:OpR X (compareOp .Lt) (rI0 fun i j=> .bl (decide (i<j))):=opB0 fun _ _ _ _ _ _ _ q=>lt_int q
theorem zdo:OpR X (compareOp .LtE) (rI0 fun i j=> .bl (decide (i<=j))):=opB0 fun _ _ _ _ _ _ _ q=>le_int q
theorem zdp:OpR X (compareOp .Gt) (rI0 fun i j=> .bl (decide (j<i))):=opB0 fun _ _ _ _ _ _ _ q=>gt_int q
theorem OpR.or{f:Value->Value->Sem Value}{r r':R2}(h:OpR X f r)(h':OpR X f r'):OpR X f (fun x y H Q=>r x y H Q\/r' x y H Q):=by
 intro pins s σ H x y v u Q I rx ry q
 rcases q with q|q
 ·exact h pins s σ H x y v u Q I rx ry q
 ·exact h' pins s σ H x y v u Q I rx ry q
theorem z0z(b:Expr){op:CmpOp}(h:op≠ .In:=by decide)(h2:op≠ .NotIn:=by decide):behindInMarks op b=false:=by
 have e1:(op==CmpOp.In)=false:=by cases op<;>first|rfl|exact absurd rfl h
 have e2:(op==CmpOp.NotIn)=false:=by cases op<;>first|rfl|exact absurd rfl h2
 cases b<;>simp[behindInMarks,e1,e2]
theorem z9P{op:CmpOp}{r:R2}(ho:OpR X (compareOp op) r)(ha:PE X a ta)(hb:PE X b tb)(hm:behindInMarks op b=false):PE X (.Compare a [op] [b] pos) (tOp r ta tb):=by
 intro pins s σ H Q I h
 exact wpAny_Compare1 (binT ha hb I h fun v u s2 x y H2 I2 rx ry q=>ho pins s2 σ H2 x y v u Q I2 rx ry q) hm
noncomputable def zbv(t:TE):TT:=fun σ H Q=>t σ H fun x H'=> ∃k,x= .bl k/\Q k H'
theorem z9Q{op:CmpOp}{r:R2}(ho:OpR X (compareOp op) r)(ha:PE X a ta)(hb:PE X b tb)(hm:behindInMarks op b=false):PT X (.Compare a [op] [b] pos) (zbv (tOp r ta tb)):=by
 intro pins s σ H Q I h
 refine wpAny_isTrue_Compare1 (thn (ha pins s σ H _ I h) fun v s1 ⟨x,H1,I1,r1,q1⟩=>thn (hb pins s1 σ H1 _ I1 q1) fun u s2 ⟨y,H2,I2,r2,q2⟩=>
  thn (ho pins s2 σ H2 x y v u _ I2 r1 r2 q2) fun c s3 ⟨z,H3,I3,r3,k,e,q3⟩=> ?_) hm
 subst e
 cases r3
 exact wpAny_truthy_bool ⟨H3,I3,q3⟩
noncomputable def z9f(r r':R2)(ta tb tc:TE):TE:=fun σ H Q=>ta σ H fun x H1=>tb σ H1 fun y H2=>r x y H2 fun z H3=> ∃k,z= .bl k/\
 (if k=true then tc σ H3 fun w' H4=>r' y w' H4 Q else Q (.bl false) H3)
theorem z8b{op op':CmpOp}{r r':R2}(ho:OpR X (compareOp op) r)(ho':OpR X (compareOp op') r')(ha:PE X a ta)(hb:PE X b tb)(hc:PE X c tc)
 (hm:lastMarks [op,op'] [b,c]=false:=by with_unfolding_all rfl):PT X (.Compare a [op,op'] [b,c] pos) (zbv (z9f r r' ta tb tc)):=by
 intro pins s σ H Q I h
 refine isTrue_chain (thn (ha pins s σ H _ I h) fun v s1 ⟨x,H1,I1,r1,q1⟩=>test_link (thn (hb pins s1 σ H1 _ I1 q1) fun u s2 ⟨y,H2,I2,r2,q2⟩=>
  thn (ho pins s2 σ H2 x y v u _ I2 r1 r2 q2) fun d s3 ⟨z,H3,I3,r3,k,e,q3⟩=> ?_)) hm
 subst e
 cases r3
 refine wpAny_truthy_bool ?_
 cases k with
 |false=>
  obtain⟨k',e',q'⟩:=q3
  cases e'
  exact ite_ff ⟨H3,I3,q'⟩
 |true=>
  refine ite_tt (test_last (thn (hc pins s3 σ H3 _ I3 q3) fun w' s4 ⟨z',H4,I4,r4,q4⟩=>thn (ho' pins s4 σ H4 y z' u w' _ I4 r2 r4 q4) fun d' s5 ⟨z2,H5,I5,r5,k2,e2,q5⟩=> ?_))
  subst e2
  cases r5
  exact wpAny_truthy_bool ⟨H5,I5,q5⟩
noncomputable def TruV(K:W.Frag)(x:V)(H:Hp)(k:Bool):Prop:=
 match x with
 | .non=>k=false
 | .bl b=>k=b
 | .int i=>k=(i !=0)
 | .str y=>y.length<=sizeLine/\k=((y.length:Int) !=0)
 | .byt y=>y.size<=sizeLine/\k=((y.size:Int) !=0)
 | .ref p=>(∃xs,SqL K H p xs/\k= !xs.isEmpty)\/(∃xs,SqT K H p xs/\k= !xs.isEmpty)\/∃kvs,H p=some (.dK kvs)/\k= !kvs.isEmpty
 |_=>False
theorem z5M{κ:Type}{kvs:List (κ×V)}{vs:List (κ×Value)}(r:KV kvs vs):(!vs.isEmpty)= !kvs.isEmpty:=by
 cases r<;>rfl
theorem z3k{xs:List V}{its:List Value}(r:Vals xs its):(!its.toArray.isEmpty)= !xs.isEmpty:=by
 cases r<;>simp
theorem z40:(sizeLine:Nat)<2^63:=by rw[sizeLine_eq];decide
theorem zbw:TruR X (fun x H Q=> ∃k,TruV X.K x H k/\Q k H):=by
 intro pins s σ H x v Q I rx h
 obtain⟨k,e,q⟩:=h
 have hl:=z40
 have hs:sizeLine=16777216:=sizeLine_eq
 cases x with
 |non=>
  cases rx
  have e':k=false:=e
  subst e'
  exact truthy_none ⟨H,I,q⟩
 |bl b=>
  cases rx
  have e':k=b:=e
  subst e'
  exact wpAny_truthy_bool ⟨H,I,q⟩
 |int i=>
  obtain⟨t,rfl⟩:=rx
  have e':k=(i !=0):=e
  subst e'
  exact PySem.P.truthy_int ⟨H,I,q⟩
 |str y=>
  obtain⟨t,rfl⟩:=rx
  obtain⟨hy,e'⟩:y.length<=sizeLine/\k=((y.length:Int) !=0):=e
  subst e'
  exact PySem.P.truthy_str (by lia) ⟨H,I.tok _,q⟩
 |byt y=>
  obtain⟨t,rfl⟩:=rx
  obtain⟨hy,e'⟩:y.size<=sizeLine/\k=((y.size:Int) !=0):=e
  subst e'
  exact W.truthy_bytes (by lia) ⟨H,I.tok _,q⟩
 |ref p=>
  cases rx
  have e':(∃xs,SqL X.K H p xs/\k= !xs.isEmpty)\/(∃xs,SqT X.K H p xs/\k= !xs.isEmpty)\/∃kvs,H p=some (.dK kvs)/\k= !kvs.isEmpty:=e
  rcases e' with⟨xs,hx,e'⟩|⟨xs,hx,e'⟩|⟨kvs,hx,e'⟩
  ·subst e'
   obtain⟨its,r,pl,hz⟩:=I.list hx
   have hlen:=r.length
   exact wpAny_truthy_list pl.isList (by simp only[List.size_toArray];lia) ⟨H,I.tok _,by rw[z3k r];exact q⟩
  ·subst e'
   obtain⟨its,r,pl,hz⟩:=I.tuple hx
   have hlen:=r.length
   exact truthy_tuple pl (by simp only[List.size_toArray];lia) ⟨H,I.tok _,by rw[z3k r];exact q⟩
  ·subst e'
   obtain⟨hz,hS,vs,r,m⟩:kvs.length<=sizeLine/\(p==sysModules)=false/\∃vs,KV kvs vs/\s.heap.DictOf (z0d X.prog X.w) p vs:=I.hok p _ hx
   have hlen:kvs.length=vs.length:=Paired.length r
   exact wpAny_truthy_dict hS m (by lia) ⟨H,I.tok _,by rw[z5M r];exact q⟩
 |_=>exact(show False from e).elim
theorem z8c(ha:PE X a ta)(he: ∀whole,isTrue a X.env whole=(do let v<-whole;standAt a.pos;holding [v] (truthy v))):
 PT X a (fun σ H Q=>ta σ H fun x H'=> ∃k,TruV X.K x H' k/\Q k H'):=by
 intro pins s σ H Q I h
 exact isTrue_plain (thn (ha pins s σ H _ I h) fun v s1 ⟨x,H1,I1,r1,q1⟩=>zbw pins s1 σ H1 x v Q I1 r1 q1) (he _)
theorem z5N:OpR X (binaryOp .Add) (fun x y H Q=> ∃i j,x= .str i/\y= .str j/\i.length+j.length<=sizeLine/\Q (.str (i++j)) H):=by
 intro pins s σ H x y v u Q I rx ry h
 obtain⟨i,j,rfl,rfl,hz,q⟩:=h
 obtain⟨t,rfl⟩:=rx
 obtain⟨t',rfl⟩:=ry
 exact add_str (fun t' tk=>⟨.str (i++j),H,I.tok _,⟨_,rfl⟩,q⟩) hz
theorem z41{x:V}{us:List Value}(r:Vals [x] us): ∃u,us=[u]/\RelV x u:=by
 cases r with
 |cons r1 r2=>cases r2;exact⟨_,rfl,r1⟩
theorem z9R{x y:V}{us:List Value}(r:Vals [x,y] us): ∃u w',us=[u,w']/\RelV x u/\RelV y w':=by
 cases r with
 |cons r1 r2=>
  cases r2 with
  |cons r3 r4=>cases r4;exact⟨_,_,rfl,r1,r3⟩
theorem z8d:CallR X (.builtin "abs") (fun xs H Q=> ∃i,xs=[.int i]/\Q (.int (if i<0 then -i else i)) H):=by
 intro pins s σ H xs us Q I r h
 obtain⟨i,rfl,q⟩:=h
 obtain⟨u,rfl,t,rfl⟩:=z41 r
 exact call_abs_int fun u tk=>⟨.int (if i<0 then -i else i),H,I.tok _,⟨_,rfl⟩,q⟩
theorem z6q(hc:X.calm=true):CallR X (.builtin "max") (fun xs H Q=> ∃i j,xs=[.int i, .int j]/\Q (.int (if j>i then j else i)) H):=by
 intro pins s σ H xs us Q I r h
 obtain⟨i,j,rfl,q⟩:=h
 obtain⟨u,w',rfl,⟨t,rfl⟩,⟨t',rfl⟩⟩:=z9R r
 refine max_two_ints (I.ok.hd hc) fun h' tk k=>⟨_,H,I.kept k, ?_,q⟩
 by_cases hj:j>i
 ·rw[if_pos hj,if_pos hj];exact⟨_,rfl⟩
 ·rw[if_neg hj,if_neg hj];exact⟨_,rfl⟩
theorem z6r(hc:X.calm=true):CallR X (.builtin "min") (fun xs H Q=> ∃i j,xs=[.int i, .int j]/\Q (.int (if j<i then j else i)) H):=by
 intro pins s σ H xs us Q I r h
 obtain⟨i,j,rfl,q⟩:=h
 obtain⟨u,w',rfl,⟨t,rfl⟩,⟨t',rfl⟩⟩:=z9R r
 refine min_two_ints (I.ok.hd hc) fun h' tk k=>⟨_,H,I.kept k, ?_,q⟩
 by_cases hj:j<i
 ·rw[if_pos hj,if_pos hj];exact⟨_,rfl⟩
 ·rw[if_neg hj,if_neg hj];exact⟨_,rfl⟩
theorem z6s:CallR X (.type "int") (fun xs H Q=>(∃i,xs=[.int i]/\Q (.int i) H)\/∃k,xs=[.bl k]/\Q (.int (if k then 1 else 0)) H):=by
 intro pins s σ H xs us Q I r h
 rcases h with⟨i,rfl,q⟩|⟨k,rfl,q⟩
 ·obtain⟨u,rfl,t,rfl⟩:=z41 r
  exact call_int_int ⟨.int i,H,I,⟨_,rfl⟩,q⟩
 ·obtain⟨u,rfl,r1⟩:=z41 r
  cases r1
  exact call_int_bool ⟨.int (if k then 1 else 0),H,I.tok _,⟨_,rfl⟩,q⟩
end
structure ObjM(h:Heap)(x dx C:Addr)(mA:Str->Option Value):Prop where
 obj:h.get? x=some (W.instObj C dx)
 ns:h.Ns1 dx mA
 ne:dx≠x
structure Cls(K:W.Frag)(C:Addr):Prop where
 pg:W.plainGet K C Str.empty=true
 hd:W.hasDictIn K C=true
 po:W.plainOver K C=true
 sa:W.findIn K (.ref C) "__setattr__" =some (some (.builtin "object.__setattr__"))
structure Con(K:W.Frag)(C:Addr)(f:Str)(v:V)(u:Value):Prop where
 at_:W.findIn K (.ref C) f=some (some u)
 rel:RelV v u
 get:W.specialIn K u "__get__" =some none
 cp:W.copiedNames.contains f=false
structure Meth(K:W.Frag)(C:Addr)(m:Str)(f:Addr):Prop where
 at_:W.findIn K (.ref C) m=some (some (.ref f))
 fn:W.isFn K (.ref f)=true
 kp:W.keepIn K (.ref f)=true
section
variable{X:Cx}{pins:List (Addr×Obj)}{σ:St}{H:Hp}{s:Shared}{A:Around}{E:Value->Shared->Prop}{Q:Value->Shared->Prop}{c:Value}{b:Bool}
inductive TyOf(K:W.Frag)(H:Hp):V->Value->Prop where
 |non:TyOf K H .non (.type "NoneType")
 |bl (x:Bool):TyOf K H (.bl x) (.type "bool")
 |int (i:Int):TyOf K H (.int i) (.type "int")
 |str (x:Str):TyOf K H (.str x) (.type "str")
 |flt (x:UInt64):TyOf K H (.flt x) (.type "float")
 |lst {a:Addr} {xs:List V} (e:H a=some (.lst xs)):TyOf K H (.ref a) (.type "list")
 |frz {a:Addr} {o:Obj} {xs:List V} (e:H a=some (.frz o (.lst xs))):TyOf K H (.ref a) (.type "list")
 |tup {a:Addr} {xs:List V} (e:H a=some (.tup xs)):TyOf K H (.ref a) (.type "tuple")
 |dK {a:Addr} {kvs:List (Key×V)} (e:H a=some (.dK kvs)):TyOf K H (.ref a) (.type "dict")
 |dT {a:Addr} {kvs:List (NK×V)} (e:H a=some (.dT kvs)):TyOf K H (.ref a) (.type "dict")
 |ins {a C dx:Addr} {fs:List (Str×V)} (e:H a=some (.ins C dx fs)) (cl:Cls K C) (ha:W.findIn K (.ref C) "__class__" =some (some (.builtin "object.__class__")))
  (hn:W.specialIn K (.builtin "object.__class__") "__get__" =some (some (.builtin "getset_descriptor.__get__"))) (htk:W.takesIn K (.builtin "object.__class__")=some true)
  (hm:W.mroIn K C (.type "object")=some true):TyOf K H (.ref a) (.ref C)
end
structure Room(k:Nat)(A:Around):Prop where
 hd:A.handled=none
 dp:A.depth+3*k+5<recursionLimit
 un:A.units+16*k+200<cLine
 gd:A.guards=some []
theorem Room.mono{j k:Nat}{A:Around}(r:Room k A)(h:j<=k):Room j A:=⟨r.hd,by have:=r.dp;lia,by have:=r.un;lia,r.gd⟩
theorem Room.deeper{k:Nat}{A:Around}(r:Room (k+1) A)(env:Env):Room k (A.deeper env):=
 ⟨r.hd,by have:=r.dp;show A.depth+1+3*k+5<_;lia,by have:=r.un;show A.units+3+16*k+200<_;lia,r.gd⟩
theorem Room.depth{k:Nat}{A:Around}(r:Room k A):A.depth<recursionLimit:=by have:=r.dp;lia
theorem Room.units{k:Nat}{A:Around}(r:Room k A):A.units+64<cLine:=by have:=r.un;lia
noncomputable def tNil:TA:=fun _ H Q=>Q [] H
noncomputable def zdq(ta:TE)(tr:TA):TA:=fun σ H Q=>ta σ H fun x H1=>tr σ H1 fun xs H2=>Q (x::xs) H2
section
variable{X:Cx}{e:Expr}{es:List Expr}{te:TE}{t:TA}{pos:Pos}
theorem z9g:PA X [] tNil:=fun _ _ _ _ H Q I h=>Calls.spliced_nil ⟨[],H,I, .nil,h⟩
theorem z4J(ha:PE X e te)(hr:PA X es t)(hs:starEach (e::es) X.env=(false,eval e X.env)::starEach es X.env:=by rfl):PA X (e::es) (zdq te t):=by
 intro pos pins s σ H Q I h
 rw[hs]
 show wpAny _ _ (spliced ((false,eval e X.env)::backTo pos (starEach es X.env))) _ _ s
 refine Calls.spliced_cons (thn (ha pins s σ H _ I h) fun u s1 ⟨x,H1,I1,r1,q1⟩=> ?_)
 exact thn (hr pos pins s1 σ H1 _ I1 q1) fun us s2 ⟨xs,H2,I2,r2,q2⟩=>⟨x::xs,H2,I2, .cons r1 r2,q2⟩
noncomputable def tTup(t:TA):TE:=fun σ H Q=>t σ H fun xs H1=>xs.length<=sizeLine/\∀p,H1 p=none->Q (.ref p) (upd H1 p (.tup xs))
noncomputable def tLst(t:TA):TE:=fun σ H Q=>t σ H fun xs H1=>xs.length<=sizeLine/\∀p,H1 p=none->Q (.ref p) (upd H1 p (.lst xs))
theorem zbx{x1}(h:PA X es t):PE X (.Tuple es x1 pos) (tTup t):=by
 intro pins s σ H Q I hq
 refine wpAny_Tuple_spliced (thn (h pos pins s σ H _ I hq) fun us s1 ⟨xs,H1,I1,r,z,q⟩=>⟨by rw[<-r.length];exact z, ?_⟩)
 have hf:H1 s1.heap.objs.size=none:=I1.hok.fresh (Nat.le_refl _)
 refine⟨.ref s1.heap.objs.size,upd H1 s1.heap.objs.size (.tup xs),I1.laid (t':=s1.toks) (fun b u e=>Heap.get?_push_of_some _ e) (Nat.le_refl _) ?_,rfl,q _ hf⟩
 exact⟨z,us,r,⟨_,Heap.get?_push_size _ rfl,rfl,_,rfl⟩⟩
theorem zby(h:PA X es t):PE X (.List es pos) (tLst t):=by
 intro pins s σ H Q I hq
 refine wpAny_List_spliced (thn (h pos pins s σ H _ I hq) fun us s1 ⟨xs,H1,I1,r,z,q⟩=>⟨by rw[<-r.length];exact z, ?_⟩)
 have hf:H1 s1.heap.objs.size=none:=I1.hok.fresh (Nat.le_refl _)
 refine⟨.ref s1.heap.objs.size,upd H1 s1.heap.objs.size (.lst xs),I1.laid (t':=s1.toks) (fun b u e=>Heap.get?_push_of_some _ e) (Nat.le_refl _) ?_,rfl,q _ hf⟩
 exact⟨z,us,0,r,Heap.get?_push_size _ rfl⟩
end
noncomputable abbrev Sp:=List V->Hp->VK->XK->Prop
noncomputable abbrev CXT:=List Env->Hp->Shared->XK->Value->Shared->Prop
structure Env0(P:Program)(w:World)(K:W.Frag)(mg:Str->Option Value)(base:Heap)(A:Around)(outer:List Env)(s:Shared)(H:Hp):Prop where
 frames:A.frames=some outer
 mod:Mod K mg base
 bs: ∀b o,base.get? b=some o->s.heap.get? b=some o/\H b=none
 bsz:base.objs.size<=s.heap.objs.size
 funs:s.heap.FunFrames base outer
 frf: ∀b∈frs outer,H b=none
 hok:HOk P w H s.heap
 bare:AllBare s.gens
noncomputable def CE(outer:List Env)(P:Program)(w:World)(H:Hp)(s:Shared)(Q:VK)(u:Value)(s':Shared):Prop:=
 ∃v H',s'.os=s.os/\AllBare s'.gens/\Un (frs outer) [] H H' s.heap s'.heap/\HOk P w H' s'.heap/\RelV v u/\Q v H'
noncomputable def CR(CX:CXT)(outer:List Env)(P:Program)(w:World)(H:Hp)(s:Shared)(Q:VK)(E:XK)(r:Result)(s':Shared):Prop:=
 match r with
 | .ok (.ret u)=>CE outer P w H s Q u s'
 | .ok _=>False
 | .error e=>CX outer H s E e s'
structure FnOk(P:Program)(w:World)(K:W.Frag)(mg:Str->Option Value)(base:Heap)(CX:CXT)(k:Nat)(f:Addr)(fd:FuncData)(ps:List Str)(sp:Sp):Prop where
 len: ∀vs H Q E,sp vs H Q E->vs.length=ps.length
 run: ∀(A:Around) (outer:List Env) (s:Shared) (H:Hp) (args:Args) (us:List Value) (vs:List V) (Q:VK) (E:XK),Room k A->Env0 P w K mg base A outer s H->BindsTo s fd args (ps.zip us)->Vals vs us->sp vs H Q E->
  codeAny (model P w) A (.call (.ref f) args) (CR CX outer P w H s Q E) s
theorem FnOk.mono{P:Program}{w:World}{K:W.Frag}{mg:Str->Option Value}{base:Heap}{CX:CXT}{j k:Nat}{f:Addr}{fd:FuncData}{ps:List Str}{sp:Sp}(F:FnOk P w K mg base CX j f fd ps sp)(h:j<=k):
 FnOk P w K mg base CX k f fd ps sp:=⟨F.len,fun A outer s H args us vs Q E hr=>F.run A outer s H args us vs Q E (hr.mono h)⟩
section
variable{X:Cx}{pins:List (Addr×Obj)}{σ:St}{H:Hp}{s s':Shared}
theorem Inv.env0(I:Inv X pins σ H s):Env0 X.prog X.w X.K X.mg X.base X.A X.stack s H:=
 ⟨I.ok.frames,I.ok.mod,I.bs,Nat.le_trans I.ok.bsz I.sz,I.stack,I.stkFree,I.hok,I.bare⟩
theorem Inv.after{Q:VK}{u:Value}(I:Inv X pins σ H s)(h:CE X.stack X.prog X.w H s Q u s'):EP X pins σ Q u s':=by
 obtain⟨v,H',os,bare,un,hok,r,q⟩:=h
 obtain⟨hh,g,d,t,os'⟩:=s'
 obtain rfl:os'=s.os:=os
 exact⟨v,H',I.call (h':=hh) (g':=g) (d':=d) (t':=t) (ch:=[]) un hok bare (fun b z=>absurd z (by simp)),r,q⟩
end
noncomputable def zdr(sp:Sp)(dvs:List V)(E:XK)(t:TA):TE:=fun σ H Q=>t σ H fun vs H1=>sp (vs++dvs) H1 Q E
noncomputable def z38(K:W.Frag)(fd:FuncData)(ps:List Str)(ds:List Value):Prop:=
 ∀(s:Shared) (us:List Value),K.In s.heap->(us++ds).length=ps.length->BindsTo s fd ⟨us,[]⟩ (ps.zip (us++ds))
theorem z38.all{K:W.Frag}{fd:FuncData}{ps:List Str}(h: ∀us:List Value,us.length=ps.length->bindArgs fd ⟨us,[]⟩=pure (ps.zip us)):z38 K fd ps []:=fun s us _ hl=>by
 rw[List.append_nil] at hl⊢
 exact .of_eq (h us hl)
noncomputable def z3l(CX:CXT)(X:Cx)(E:XK):Prop:= ∀(pins:List (Addr×Obj)) (σ:St) (H:Hp) (s:Shared) (e:Value) (s':Shared),Inv X pins σ H s->CX X.stack H s E e s'->X.xe e s'
section
variable{X:Cx}{CX:CXT}{k:Nat}{f C:Addr}{fd:FuncData}{ps:List Str}{sp:Sp}{dvs:List V}{ds:List Value}{E:XK}{x m:Str}{p pos apos:Pos}{e o:Expr}{es:List Expr}{ta:TE}{t:TA}
theorem zbz{pins:List (Addr×Obj)}{σ:St}{H:Hp}{s:Shared}{Q:VK}{us:List Value}{vs:List V}(F:FnOk X.prog X.w X.K X.mg X.base CX k f fd ps sp)(hr:Room k X.A)(hb:z38 X.K fd ps ds)(hd:Vals dvs ds)(hx:z3l CX X E)
 (I:Inv X pins σ H s) (r:Vals vs us) (h:sp (vs++dvs) H Q E):wpAny (model X.prog X.w) X.A (call (.ref f) us) (EP X pins σ Q) X.xe s:=by
 have r2:Vals (vs++dvs) (us++ds):=r.append hd
 have hl:(us++ds).length=ps.length:=by rw[<-r2.length];exact F.len _ _ _ _ h
 refine wpAny_call (codeAny_mono (F.run X.A X.stack s H ⟨us,[]⟩ (us++ds) (vs++dvs) Q E hr I.env0 (hb s us I.kIn hl) r2 h) fun r s' hq=> ?_)
 cases r with
 |error e=>exact hx pins σ H s e s' I hq
 |ok fl=>
  cases fl with
  |ret u=>exact I.after hq
  |next=>exact False.elim hq
  |brk=>exact False.elim hq
  |cont=>exact False.elim hq
theorem z9S(F:FnOk X.prog X.w X.K X.mg X.base CX k f fd ps sp)(hr:Room k X.A)(hg:Gl X x)(hm:X.mg x=some (.ref f))(hk:W.keepIn X.K (.ref f)=true)(hb:z38 X.K fd ps ds)(hd:Vals dvs ds)(hx:z3l CX X E)
 (ha:PA X (e::es) t) (hdb:(x==("__debug__" :Str))=false:=by decide) (he:starEach (e::es) X.env=(false,eval e X.env)::starEach es X.env:=by rfl) (hpl:(backTo pos (starEach es X.env)).any (·.1)=false:=by rfl):
 PE X (.Call (.Name x p) (e::es) [] pos) (zdr sp dvs E t):=by
 intro pins s σ H Q I h
 refine wpAny_Call_Name_kw (z6n I hg hm ?_ hdb)
 refine W.callWith_K (h₀:=X.base) I.ok.mod.kin hk (thn (ha pos pins s σ H _ I h) fun us s1 ⟨vs,H1,I1,r,q⟩=>⟨I1.kIn, ?_⟩) he hpl
 exact zbz F hr hb hd hx I1 r q
structure Mk(K:W.Frag)(C f:Addr):Prop where
 makes:W.makesIn K C=true
 init:W.findIn K (.ref C) "__init__" =some (some (.ref f))
 fn:W.isFn K (.ref f)=true
 kp:W.keepIn K (.ref C)=true
end
section
variable{X:Cx}{CX:CXT}{k:Nat}{f C:Addr}{fd:FuncData}{ps ks:List Str}{sp:Sp}{E:XK}{x m:Str}{p pos apos kpos:Pos}{e o:Expr}{es:List Expr}{kws:List Keyword}{te ta:TE}{t tk:TA}{nm:Option Str}
structure zex(K:W.Frag)(fd:FuncData)(ps ks:List Str)(g:List Value->List Value->List Value)(gV:List V->List V->List V):Prop where
 to: ∀(s:Shared) (us ws:List Value),K.In s.heap->(g us ws).length=ps.length->BindsTo s fd ⟨us,ks.zip ws⟩ (ps.zip (g us ws))
 rel: ∀{vs:List V} {us:List Value} {zs:List V} {ws:List Value},Vals vs us->Vals zs ws->Vals (gV vs zs) (g us ws)
variable{g:List Value->List Value->List Value}{gV:List V->List V->List V}
end
structure z0m(N P:List Str)(sc:Scope):Prop where
 kind:sc.kind= .function
 co:sc.isCoroutine=false
 gen:sc.isGenerator=false
 nd:N.Nodup
 pre:N.take P.length=P
 par: ∀x∈P,sc.names.lookup x=some .local\/sc.names.lookup x=some .cell
 nofree: ∀y∈sc.names,y.2≠ .free
theorem z42{kindOf:Str->Option NameKind}{x:Str}: ∀{binds:List (Str×Value)} {m:Str->Option Value},(∀v,(x,v)∉binds)->bindL kindOf binds m x=m x
 |[],_,_=>rfl
 |(n,v)::r,m,h=>by
  unfold bindL
  rw[z42 fun w hw=>h w (List.mem_cons_of_mem _ hw)]
  split
  ·have:x≠n:=by rintro rfl;exact h v List.mem_cons_self
   simp[this]
  ·rfl
theorem z43{kindOf:Str->Option NameKind}{x:Str}: ∀{binds:List (Str×Value)} {m:Str->Option Value},(∀v,(x,v)∉binds)->bindC kindOf binds m x=m x
 |[],_,_=>rfl
 |(n,v)::r,m,h=>by
  unfold bindC
  rw[z43 fun w hw=>h w (List.mem_cons_of_mem _ hw)]
  split
  ·rfl
  ·have:x≠n:=by rintro rfl;exact h v List.mem_cons_self
   simp[this]
theorem z44{kindOf:Str->Option NameKind}{x:Str}{v:Value}: ∀{P:List Str} {vs:List Value} {i:Nat} {m:Str->Option Value},P.Nodup->P[i]? =some x->vs[i]? =some v->kindOf x=some .local->
 bindL kindOf (P.zip vs) m x=some v
 |[],_,_,_,_,h,_,_=>by simp at h
 |_::_,[],_,_,_,_,h,_=>by simp at h
 |p::P,w::vs,0,m,nd,h1,h2,hk=>by
  simp at h1 h2;subst h1;subst h2
  show bindL kindOf ((p,w)::P.zip vs) m p=_
  unfold bindL
  rw[z42 fun v hv=>(List.nodup_cons.mp nd).1 (List.of_mem_zip hv).1,if_pos hk]
  simp
 |p::P,w::vs,i+1,m,nd,h1,h2,hk=>by
  show bindL kindOf ((p,w)::P.zip vs) m x=_
  unfold bindL
  exact z44 (i:=i) (List.nodup_cons.mp nd).2 (by simpa using h1) (by simpa using h2) hk
theorem z45{kindOf:Str->Option NameKind}{x:Str}{v:Value}: ∀{P:List Str} {vs:List Value} {i:Nat} {m:Str->Option Value},P.Nodup->P[i]? =some x->vs[i]? =some v->kindOf x≠some .local->
 bindC kindOf (P.zip vs) m x=some v
 |[],_,_,_,_,h,_,_=>by simp at h
 |_::_,[],_,_,_,_,h,_=>by simp at h
 |p::P,w::vs,0,m,nd,h1,h2,hk=>by
  simp at h1 h2;subst h1;subst h2
  show bindC kindOf ((p,w)::P.zip vs) m p=_
  unfold bindC
  rw[z43 fun v hv=>(List.nodup_cons.mp nd).1 (List.of_mem_zip hv).1,if_neg hk]
  simp
 |p::P,w::vs,i+1,m,nd,h1,h2,hk=>by
  show bindC kindOf ((p,w)::P.zip vs) m x=_
  unfold bindC
  exact z45 (i:=i) (List.nodup_cons.mp nd).2 (by simpa using h1) (by simpa using h2) hk
noncomputable def start(N:List Str)(vs:List V):St:=vs.map some++List.replicate (N.length -vs.length) none
noncomputable def cxOf(CX:CXT)(P:Program)(w:World)(K:W.Frag)(mg:Str->Option Value)(base:Heap)(N:List Str)(qual:Str)(scope:Scope)(f:Addr)(cd:Value)(A:Around)(outer:List Env)(s:Shared)(H:Hp)(E:XK):Cx where
 prog:=P
 w:=w
 K:=K
 mg:=mg
 base:=base
 A:=A.deeper (envOfC qual scope s.heap.objs.size f cd)
 N:=N
 s₀:=s
 H₀:=H
 env:=envOfC qual scope s.heap.objs.size f cd
 outer:=outer
 stack:=envOfC qual scope s.heap.objs.size f cd::outer
 ex:=[]
 calm:=true
 fn:=fun _=>true
 pn:=[]
 xe:=fun e s'=>wpAny (model P w) (A.deeper (envOfC qual scope s.heap.objs.size f cd)) (leaving (envOfC qual scope s.heap.objs.size f cd) e) (fun _ s''=>CX outer H s E e s'') (fun e' s''=>CX outer H s E e' s'') s'
theorem z5k{sc:Scope}{n:Nat}{x:Str}(h:sc.names.lookup x=some .cell): ∃c,(cellsFrom n sc.names []).lookup x=some c:=by
 have q:=W.cellsFrom_some sc.names n [] (.inl h)
 exact Option.isSome_iff_exists.mp q
theorem z6t{CX:CXT}{P:Program}{w:World}{K:W.Frag}{mg:Str->Option Value}{base:Heap}{N ps:List Str}{qual:Str}{scope:Scope}{f:Addr}{cd:Value}{A:Around}{outer:List Env}{s s1:Shared}{H:Hp}{E:XK}{us:List Value}{vs:List V}
 (S:z0m N ps scope) (hd:A.handled=none) (e0:Env0 P w K mg base A outer s H) (hl:vs.length=ps.length) (r:Vals vs us)
 (x:InCallC s s.heap.objs.size (bindL (envOfC qual scope s.heap.objs.size f cd).kindOf (ps.zip us) fun _=>none) (cellsFrom (s.heap.objs.size+1) scope.names []) (bindC (envOfC qual scope s.heap.objs.size f cd).kindOf (ps.zip us) fun _=>none) s1):
 Inv (cxOf CX P w K mg base N qual scope f cd A outer s H E) [] (start N vs) H s1:=by
 have hpl:ps.length<=N.length:=by have:=congrArg List.length S.pre;rw[List.length_take] at this;lia
 obtain⟨h1,tk,rfl,hk⟩:=x.done
 have noA: ∀b:Addr,b∉(cxOf CX P w K mg base N qual scope f cd A outer s H E).ex:=fun b z=>absurd (show b∈([]:List Addr) from z) (by simp)
 refine⟨⟨e0.mod,S.kind,rfl,rfl,Nat.le_refl _,fun y z c h1 h2=> ?_,fun y hy=> ?_,fun y c _ h=> ?_,fun _=>hd,Around.frames_deeper e0.frames, .inr ⟨rfl,rfl⟩,fun b z=>absurd z (noA b),e0.bs,e0.bsz,fun b _ _=>noA b,fun b z=>absurd z (noA b),e0.funs,e0.frf⟩,
  rfl,e0.bare,Un.kept hk,⟨_,x.toInCall.ns,fun i y v h1 h2 h3=> ?_⟩,fun y c h=>⟨_,x.cell y c h⟩,e0.hok.fresh (Nat.le_refl _),fun y c h=> ?_,fun p hp=>absurd (show p∈([]:List (Addr×Obj)) from hp) (by simp),e0.hok.kept hk, ?_⟩
 ·exact name_of_addr x.apart (PySem.mem_of_lookup h1) (PySem.mem_of_lookup h2)
 ·have hy:scope.names.lookup y=some .cell\/scope.names.lookup y=some .free:=hy
  rcases hy with hy|hy
  ·exact z5k hy
  ·exact absurd rfl (S.nofree _ (PySem.mem_of_lookup hy))
 ·exact Nat.le_of_lt (x.above y c (PySem.mem_of_lookup h))
 ·have hi:i<vs.length:=by
   unfold start at h2
   by_cases hi:i<vs.length
   ·exact hi
   ·rw[List.getElem?_append_right (by simpa using hi)] at h2
    rw[List.getElem?_replicate] at h2
    split at h2<;>cases h2
  have ha:vs[i]? =some v:=by
   unfold start at h2
   rw[List.getElem?_append_left (by simpa using hi),List.getElem?_map] at h2
   cases e:vs[i]? with
   |none=>rw[e] at h2;cases h2
   |some a=>rw[e] at h2;cases h2;rfl
  obtain⟨u,hu,rv⟩:=r.get ha
  have hp:ps[i]? =some y:=by
   rw[<-S.pre,List.getElem?_take_of_lt (by lia)];exact h1
  have ndP:ps.Nodup:=by rw[<-S.pre];exact S.nd.sublist (List.take_sublist _ _)
  refine⟨u,rv, ?_⟩
  rcases S.par y (List.mem_of_getElem? hp) with k|k
  ·exact .inl ⟨k,z44 ndP hp hu k⟩
  ·obtain⟨c,e⟩:=z5k (n:=s.heap.objs.size+1) k
   refine .inr ⟨.inl k,c,e, ?_⟩
   have q:=x.cell y c e
   rw[z45 ndP hp hu (by show scope.names.lookup y≠_;rw[k];decide)] at q
   exact q
 ·exact e0.hok.fresh (Nat.le_of_lt (x.above y c (PySem.mem_of_lookup h)))
 ·unfold start
  show _=N.length
  rw[List.length_append,List.length_map,List.length_replicate]
  lia
theorem zds{CX:CXT}{P:Program}{w:World}{K:W.Frag}{mg:Str->Option Value}{base:Heap}{k:Nat}{f:Addr}{name qual:Str}{params:Arguments}{body:List Stmt}{scope:Scope}{dV kV doc pm cdv ct oc:Value}{an od:Option Addr}
 {osl:Array (Option Value)} {N ps:List Str} {sp:Sp} (lk:K.lookup f=some ⟨oc,od, .func (W.fnOf name qual params body scope dV kV doc pm an cdv ct),osl⟩) (hcd:W.codeIn K cdv qual=true) (S:z0m N ps scope)
 (len: ∀vs H Q E,sp vs H Q E->vs.length=ps.length)
 (hbody: ∀(A:Around) (outer:List Env) (s:Shared) (H:Hp) (vs:List V) (Q:VK) (E:XK),Room k (A.deeper (envOfC qual scope s.heap.objs.size f cdv))->sp vs H Q E->
  ∃t,PSs (cxOf CX P w K mg base N qual scope f cdv A outer s H E) body t/\t {nx:=fun _ H'=>Q .non H',rt:=Q} (start N vs) H):
 FnOk P w K mg base CX (k+1) f (W.fnOf name qual params body scope dV kV doc pm an cdv ct) ps sp:=by
 refine⟨len,fun A outer s H args us vs Q E hr e0 hb r hsp=> ?_⟩
 have hl:=len _ _ _ _ hsp
 have KX:K.In s.heap:=e0.mod.kin.keeps fun b o e=>(e0.bs b o e).1
 have lim:s.heap.NoLimit:=e0.mod.nolimit.keeps fun b o e=>(e0.bs b o e).1
 have hkind: ∀y∈ps.zip us,scope.names.lookup y.1=some .local\/(scope.names.lookup y.1=some .cell/\((cellsFrom (s.heap.objs.size+1) scope.names []).lookup y.1).isSome=true):=fun⟨n,v⟩ hy=>by
  rcases S.par n (List.of_mem_zip hy).1 with q|q
  ·exact .inl q
  ·exact .inr ⟨q,W.cellsFrom_some _ _ _ (.inl q)⟩
 refine codeAny_call_function hr.depth (KX _ _ lk) rfl S.co S.gen rfl (W.codeRec_of KX hcd) (hb _ _ _ _ ?_)
 refine wpAny_newFunctionEnv_cells S.kind hkind fun env he s1 x=> ?_
 subst he
 refine⟨lim.keeps x.toInCall.keep,codeAny_func ?_⟩
 obtain⟨t,ht,hq⟩:=hbody A outer s H vs Q E (hr.deeper _) hsp
 have I:Inv (cxOf CX P w K mg base N qual scope f cdv A outer s H E) [] (start N vs) H s1:=z6t S hr.hd e0 hl r x
 refine wpAny_mono (ht [] s1 (start N vs) H _ I hq) (fun fl s' hs=> ?_) fun e s' hs=>hs
 have fin: ∀{σ':St} {H':Hp} {v:V} {u:Value},Inv (cxOf CX P w K mg base N qual scope f cdv A outer s H E) [] σ' H' s'->RelV v u->Q v H'->CE outer P w H s Q u s':=
  fun{σ' H' v u} J rv q=>⟨v,H',J.os,J.bare,J.base,J.hok,rv,q⟩
 cases fl with
 |ret u=>
  obtain⟨v,σ',H',J,rv,q⟩:=hs
  exact fin J rv q
 |next=>
  obtain⟨σ',H',J,q⟩:=hs
  exact fin (v:=V.non) (u:=Value.none) J rfl q
 |brk=>
  obtain⟨_,_,_,q⟩:=hs
  exact False.elim q
 |cont=>
  obtain⟨_,_,_,q⟩:=hs
  exact False.elim q
section
variable{X:Cx}{x:Str}{p pos:Pos}{e:Expr}{es:List Expr}{t:TA}{id T:String}{r:List V->Hp->VK->Prop}
noncomputable def tCB(r:List V->Hp->VK->Prop)(t:TA):TE:=fun σ H Q=>t σ H fun vs H1=>r vs H1 Q
theorem z5l(hc:CallR X (.builtin id) r)(hg:Gl X x)(hm:X.mg x=none)(hv:bootBuiltins x=some (.builtin id))(ha:PA X (e::es) t)(hn:x≠ "__name__" :=by decide)(hdb:(x==("__debug__" :Str))=false:=by decide)
 (he:starEach (e::es) X.env=(false,eval e X.env)::starEach es X.env:=by rfl) (hpl:(backTo pos (starEach es X.env)).any (·.1)=false:=by rfl):PE X (.Call (.Name x p) (e::es) [] pos) (tCB r t):=by
 intro pins s σ H Q I h
 refine wpAny_Call_Name_kw (z3Y I hg hm hv ?_ hn hdb)
 exact PyProof.Rows.callWith_builtin1 (thn (ha pos pins s σ H _ I h) fun us s1 ⟨vs,H1,I1,r1,q1⟩=>hc pins s1 σ H1 vs us Q I1 r1 q1) he hpl
theorem z6u(hc:CallR X (.type T) r)(hg:Gl X x)(hm:X.mg x=none)(hv:bootBuiltins x=some (.type T))(ha:PA X (e::es) t)(hn:x≠ "__name__" :=by decide)(hdb:(x==("__debug__" :Str))=false:=by decide)
 (he:starEach (e::es) X.env=(false,eval e X.env)::starEach es X.env:=by rfl) (hpl:(backTo pos (starEach es X.env)).any (·.1)=false:=by rfl):PE X (.Call (.Name x p) (e::es) [] pos) (tCB r t):=by
 intro pins s σ H Q I h
 refine wpAny_Call_Name_kw (z3Y I hg hm hv ?_ hn hdb)
 exact PyProof.Rows.callWith_type1 (thn (ha pos pins s σ H _ I h) fun us s1 ⟨vs,H1,I1,r1,q1⟩=>hc pins s1 σ H1 vs us Q I1 r1 q1) he hpl
end
end L2
namespace HT
open PySem PyProof.Rows
section
open PySem.SeqAt
open PySem.AutoSeq1 (wpAny_loadPart')
open PySem.MeetsSeq PySem.MeetsSeq2 PySem.MeetsSeq3
end
section
variable{prog:Program}{w:World}{A:Around}{E:Value->Shared->Prop}{s:Shared}
theorem cat_tup{t b:Addr}{vs ws:List Value}{Q:Value->Shared->Prop}(ht:IsTup s.heap t vs.toArray)(hb:IsTup s.heap b ws.toArray)(hv:vs≠[])
 (h1:ws=[]->Q (.ref t) s) (h2:ws≠[]->Q (.ref s.heap.objs.size) {s with heap:=s.heap.push {cls:= .type "tuple",data:= .seq (vs++ws).toArray}})
 (hsz:vs.length+ws.length<=sizeLine):wpAny (model prog w) A (binaryOp .Add (.ref t) (.ref b)) Q E s:=by
 obtain⟨⟨cls,dd,data,sl⟩,ho,hc,n,hd⟩:=id ht
 obtain⟨⟨cls2,dd2,data2,sl2⟩,ho2,hc2,n2,hd2⟩:=id hb
 simp only at hc hd hc2 hd2
 subst hc hd hc2 hd2
 have e:vs.toArray++ws.toArray=(vs++ws).toArray:=by simp
 by_cases hw:ws=[]
 ·exact concat_meets ⟨_,ho,rfl⟩ ⟨_,ho2,rfl⟩ noFill_tuple_add seq_tuple_add PySem.F.slot_tuple_add PySem.F.entry_tuple_add (PySem.F.args_tuple_add_2 _ _)
   (tuple_addW1 t b vs.toArray ws.toArray n n2 dd dd2 sl sl2 (by simpa using hv) (by simp[hw])) ⟨ho,ho2,h1 hw⟩
 ·refine concat_meets ⟨_,ho,rfl⟩ ⟨_,ho2,rfl⟩ noFill_tuple_add seq_tuple_add PySem.F.slot_tuple_add PySem.F.entry_tuple_add (PySem.F.args_tuple_add_2 _ _)
   (tuple_addW2 t b vs.toArray ws.toArray n n2 dd dd2 sl sl2 (by simpa using hv) (by simpa using hw) (by rw[List.size_toArray,List.size_toArray];exact hsz)) ⟨ho,ho2, ?_⟩
  rw[e]
  exact h2 hw
noncomputable def sIx(n d:Nat):Option Int->Nat
 |none=>d
 |some v=>if v<0 then(v+(n:Int)).toNat else min v.toNat n
theorem sIx_none(n d:Nat):sIx n d none=d:=rfl
theorem sIx_nat(n d k:Nat):sIx n d (some (k:Int))=min k n:=by
 show(if(k:Int)<0 then((k:Int)+(n:Int)).toNat else min (k:Int).toNat n)=min k n
 rw[if_neg (by lia),Int.toNat_natCast]
theorem zbA(n d:Nat)(hd:d<=n)(o:Option Int):sIx n d o<=n:=by
 cases o with
 |none=>exact hd
 |some v=>
  show(if v<0 then(v+(n:Int)).toNat else min v.toNat n)<=n
  by_cases hv:v<0
  ·rw[if_pos hv];lia
  ·rw[if_neg hv];exact Nat.min_le_right _ _
theorem z6v(v:Int)(n d:Nat):(if v<0 then max (v+(n:Int)) 0 else min v (n:Int))=((sIx n d (some v):Nat):Int):=by
 show(if v<0 then max (v+(n:Int)) 0 else min v (n:Int))=(((if v<0 then(v+(n:Int)).toNat else min v.toNat n):Nat):Int)
 by_cases hv:v<0
 ·simp only[if_pos hv];lia
 ·simp only[if_neg hv];lia
theorem z5O(lo hi:Option Int)(n:Nat):Builtin.Slice.sliceAdjust lo hi 1 (n:Int)=(((sIx n 0 lo:Nat):Int),((sIx n n hi:Nat):Int)):=by
 have h1: ¬((1:Int)<0):=by lia
 unfold Builtin.Slice.sliceAdjust
 simp only[h1,if_false]
 refine Prod.ext ?_ ?_
 ·cases lo with
  |none=>rfl
  |some v=>exact z6v v n 0
 ·cases hi with
  |none=>rfl
  |some v=>exact z6v v n n
theorem z5P(i j:Nat):Builtin.Slice.slicePlaces (i:Int) (j:Int) 1=j -i:=by
 unfold Builtin.Slice.slicePlaces
 have h1:(1:Int)>0:=by lia
 simp only[h1,if_true,Int.ediv_one]
 split<;>lia
theorem z3m{v:Value}{o:Option Int}{Q:Option Int->Shared->Prop}(p:IsPart v o)(h:Q o s):wpAny (model prog w) A (Builtin.Slice.slicePartIndex v) Q E s:=by
 cases p with
 |none=>exact slicePart_none h
 |int i t=>exact slicePart_int h
theorem z1r{sl:Addr}{vl vu:Value}{lo hi:Option Int}{n:Nat}{Q:Int×Int×Nat->Shared->Prop}(hs:s.heap.IsSliceOf sl vl vu .none)(pl:IsPart vl lo)(pu:IsPart vu hi)
 (h:Q (((sIx n 0 lo:Nat):Int),1,sIx n n hi -sIx n 0 lo) s):wpAny (model prog w) A (Builtin.Slice.sliceApplied (.ref sl) (pure (n:Int))) Q E s:=by
 obtain⟨os,hos,hcs,hds⟩:=id hs
 unfold Builtin.Slice.sliceApplied Builtin.Slice.sliceFields
 refine wpAny_bind (wpAny_bind (wpAny_field hos hds (x:=vl) rfl (wpAny_bind (wpAny_field hos hds (x:=vu) rfl (wpAny_bind (wpAny_field hos hds (x:= .none) rfl (wpAny_pure ?_)))))))
 refine wpAny_bind (slicePart_none ?_)
 show wpAny _ _ (if((1:Int)==0)=true then _ else _) _ _ s
 rw[if_neg (by decide)]
 refine wpAny_bind (z3m pl (wpAny_bind (z3m pu (wpAny_bind (wpAny_pure ?_)))))
 show wpAny _ _ (match Builtin.Slice.sliceAdjust lo hi 1 (n:Int) with|(lo,hi)=>pure (lo,(1:Int),Builtin.Slice.slicePlaces lo hi 1)) _ _ s
 rw[z5O lo hi n]
 show wpAny _ _ (pure (((sIx n 0 lo:Nat):Int),(1:Int),Builtin.Slice.slicePlaces ((sIx n 0 lo:Nat):Int) ((sIx n n hi:Nat):Int) 1)) _ _ s
 rw[z5P]
 exact wpAny_pure h
theorem z8e(xs:Array Value)(i k:Nat):((List.range k).filterMap fun(m:Nat)=>xs[((i:Int)+(m:Int)*1).toNat]?).toArray=((xs.toList.drop i).take k).toArray:=by
 have e:(fun(m:Nat)=>xs[((i:Int)+(m:Int)*1).toNat]?)=fun m=>xs[i+m]? :=by
  funext m
  have:((i:Int)+(m:Int)*1).toNat=i+m:=by lia
  rw[this]
 rw[e]
 have:=pick_run xs i k
 rw[List.filterMap_map] at this
 have e2:((fun x=>xs[x]?)∘fun x=>i+x)=fun m=>xs[i+m]? :=rfl
 rw[e2] at this
 rw[this]
theorem getItem_tuple_cut{t sl:Addr}{items:Array Value}{vl vu:Value}{lo hi:Option Int}{Q:Value->Shared->Prop}(ht:IsTup s.heap t items)(hs:s.heap.IsSliceOf sl vl vu .none)(pl:IsPart vl lo)(pu:IsPart vu hi)
 (hw: ¬(sIx items.size 0 lo=0/\sIx items.size items.size hi=items.size))
 (h:Q (.ref s.heap.objs.size) {s with heap:=s.heap.push {cls:= .type "tuple",data:= .seq ((items.toList.drop (sIx items.size 0 lo)).take (sIx items.size items.size hi -sIx items.size 0 lo)).toArray}})
 (hsz:items.size<=sizeLine):wpAny (model prog w) A (getItem (.ref t) (.ref sl)) Q E s:=by
 have htake:sizeOk (.seq ((items.toList.drop (sIx items.size 0 lo)).take (sIx items.size items.size hi -sIx items.size 0 lo)).toArray):=by
  show((items.toList.drop (sIx items.size 0 lo)).take (sIx items.size items.size hi -sIx items.size 0 lo)).toArray.size<=sizeLine
  rw[List.size_toArray,List.length_take,List.length_drop,Array.length_toList]
  lia
 have hj:sIx items.size items.size hi<=items.size:=zbA _ _ (Nat.le_refl _) hi
 obtain⟨os,hos,hcs,hds⟩:=id hs
 have hTs:s.TypeIs (.ref sl) "slice" :=⟨os,hos,hcs⟩
 unfold getItem
 try with_reducible refine wpAny_holding ?_
 first|refine wpAny_bind (wpAny_pure ?_)|skip
 refine wpAny_bind (wpAny_sequenceKey ht.typeIs (by decide) ?_)
 refine wpAny_bind (wpAny_callSpecial?_slot (name:=Str.ofString "__getitem__") ht.typeIs PyProof.Rows.slot_tuple_getitem
  (wpAny_call_entry PyProof.Rows.slot_tuple_getitem ht.typeIs entry_tuple_getitem ?_ (args_tuple_getitem _ _)))
 show wpAny _ _ (Builtin.Tuple.tupleItemsOf (.ref t)>>=_) _ _ s
 refine wpAny_bind (tupleItemsOf_ ht ?_)
 refine wpAny_bind (wpAny_typeOf hTs ?_)
 rw[if_pos (by decide)]
 refine wpAny_bind (z1r hs pl pu ?_)
 have hno: ¬((((sIx items.size 0 lo:Nat):Int)==0&&(1:Int)==1&&(sIx items.size items.size hi -sIx items.size 0 lo)==items.size)=true):=by
  intro q
  rw[Bool.and_eq_true,Bool.and_eq_true] at q
  have q1:((sIx items.size 0 lo:Nat):Int)=0:=eq_of_beq q.1.1
  have q2:sIx items.size items.size hi -sIx items.size 0 lo=items.size:=eq_of_beq q.2
  exact hw ⟨by lia,by lia⟩
 show wpAny _ _ (if(((sIx items.size 0 lo:Nat):Int)==0&&(1:Int)==1&&(sIx items.size items.size hi -sIx items.size 0 lo)==items.size)=true then _ else _) _ _ s
 rw[if_neg hno,z8e]
 first
  |exact wpAny_bind (m:=Builtin.Tuple.tupleExact _) (wpAny_newObj_type (wpAny_pure ⟨_,rfl,wpAny_pure h⟩) htake)
  |exact wpAny_bind (m:=Builtin.Tuple.tupleExact _) (wpAny_newObj_type (wpAny_bind (wpAny_pure (wpAny_pure ⟨_,rfl,wpAny_pure h⟩))) htake)
  |exact wpAny_bind (wpAny_bind (m:=Builtin.Tuple.tupleExact _) (wpAny_newObj_type (wpAny_pure (wpAny_pure ⟨_,rfl,wpAny_pure h⟩)) htake))
  |exact wpAny_bind (wpAny_bind (m:=Builtin.Tuple.tupleExact _) (wpAny_newObj_type (wpAny_pure ⟨_,rfl,wpAny_pure h⟩) htake))
end
end HT
namespace L2
open PySem PySem.Spec PyProof.Rows
noncomputable abbrev TO:=St->Hp->(Option Int->Hp->Prop)->Prop
noncomputable def PO(X:Cx)(e:Option Expr)(t:TO):Prop:=
 ∀(pins:List (Addr×Obj)) (s:Shared) (σ:St) (H:Hp) (Q:Option Int->Hp->Prop),Inv X pins σ H s->t σ H Q->
  wpAny (model X.prog X.w) X.A (evalPart e X.env) (fun u s'=> ∃o H',Inv X pins σ H' s'/\IsPart u o/\Q o H') X.xe s
noncomputable def z9T:TO:=fun _ H Q=>Q none H
noncomputable def z8f(t:TE):TO:=fun σ H Q=>t σ H fun x H1=> ∃i,x= .int i/\Q (some i) H1
section
variable{X:Cx}{e:Expr}{te:TE}{lo hi:Option Expr}{tl th:TO}{pos p2:Pos}
theorem z9U:PO X none z9T:=by
 intro pins s σ H Q I h
 rw[evalPart_none]
 exact wpAny_pure ⟨none,H,I, .none,h⟩
theorem z6w(h:PE X e te):PO X (some e) (z8f te):=by
 intro pins s σ H Q I hw
 rw[evalPart_some]
 refine thn (h pins s σ H _ I hw) fun u s1 ⟨x,H1,I1,r1,q1⟩=> ?_
 obtain⟨i,rfl,q⟩:=q1
 obtain⟨t,rfl⟩:=r1
 exact⟨some i,H1,I1, .int i t,q⟩
noncomputable def SlR(X:Cx)(r:V->Option Int->Option Int->Hp->VK->Prop):Prop:=
 ∀(pins:List (Addr×Obj)) (s:Shared) (σ:St) (H:Hp) (x:V) (v vl vu:Value) (lo hi:Option Int) (sl:Addr) (Q:VK),Inv X pins σ H s->RelV x v->s.heap.IsSliceOf sl vl vu .none->IsPart vl lo->IsPart vu hi->r x lo hi H Q->
  ∃T id,typeLookup (.type T) "__getitem__" =pure (some (.builtin id))/\s.TypeIs v T/\wpAny (model X.prog X.w) X.A (getItem v (.ref sl)) (EP X pins σ Q) X.xe s
theorem SlR.or{r r':V->Option Int->Option Int->Hp->VK->Prop}(h:SlR X r)(h':SlR X r'):SlR X (fun x lo hi H Q=>r x lo hi H Q\/r' x lo hi H Q):=by
 intro pins s σ H x v vl vu lo hi sl Q I rx hs pl pu q
 rcases q with q|q
 ·exact h pins s σ H x v vl vu lo hi sl Q I rx hs pl pu q
 ·exact h' pins s σ H x v vl vu lo hi sl Q I rx hs pl pu q
noncomputable def tSl(r:V->Option Int->Option Int->Hp->VK->Prop)(te:TE)(tl th:TO):TE:=fun σ H Q=>te σ H fun x H1=>tl σ H1 fun l H2=>th σ H2 fun u H3=>r x l u H3 Q
theorem z8g{r:V->Option Int->Option Int->Hp->VK->Prop}(hr:SlR X r)(he:PE X e te)(hl:PO X lo tl)(hu:PO X hi th):PE X (.Subscript e (.Slice lo hi none p2) pos) (tSl r te tl th):=by
 intro pins s σ H Q I h
 refine Subscript_ (thn (he pins s σ H _ I h) fun v s1 ⟨x,H1,I1,r1,q1⟩=> ?_)
 refine wpAny_Slice (thn (hl pins s1 σ H1 _ I1 q1) fun vl s2 ⟨l,H2,I2,pl,q2⟩=>thn (hu pins s2 σ H2 _ I2 q2) fun vu s3 ⟨u,H3,I3,pu,q3⟩=> ?_)
 rw[evalPart_none]
 refine wpAny_pure ?_
 have I4:Inv X pins σ H3 {s3 with heap:=s3.heap.push {cls:= .type "slice",data:= .fields #[vl,vu, .none]}}:=I3.kept (t':=s3.toks) fun b ob q=>Heap.get?_push_of_some _ q
 obtain⟨T,id,hT,ht,hg⟩:=hr pins {s3 with heap:=s3.heap.push {cls:= .type "slice",data:= .fields #[vl,vu, .none]}} σ H3 x v vl vu l u s3.heap.objs.size Q I4 r1 (Heap.IsSliceOf.new ..) pl pu q3
 show wpAny (model X.prog X.w) X.A (subscriptTail e (.Slice lo hi none p2) v (.ref s3.heap.objs.size)) (EP X pins σ Q) X.xe {s3 with heap:=s3.heap.push {cls:= .type "slice",data:= .fields #[vl,vu, .none]}}
 exact tail_any (ops:=[.ref s3.heap.objs.size,v]) ht hT hg (by with_unfolding_all rfl)
noncomputable def cutV(xs:List V)(lo hi:Option Int):List V:=(xs.drop (HT.sIx xs.length 0 lo)).take (HT.sIx xs.length xs.length hi -HT.sIx xs.length 0 lo)
theorem z2A(xs:List V)(lo hi:Option Int):(cutV xs lo hi).length<=xs.length:=by
 unfold cutV
 rw[List.length_take,List.length_drop]
 lia
noncomputable def rSlT(K:W.Frag):V->Option Int->Option Int->Hp->VK->Prop:=fun x lo hi H Q=> ∃a xs,x= .ref a/\SqT K H a xs/\
 ¬(HT.sIx xs.length 0 lo=0/\HT.sIx xs.length xs.length hi=xs.length)/\∀p,H p=none->Q (.ref p) (upd H p (.tup (cutV xs lo hi)))
theorem zbB:SlR X (rSlT X.K):=by
 intro pins s σ H x v vl vu lo hi sl Q I rx hs pl pu h
 obtain⟨a,xs,rfl,hx,hw,q⟩:=h
 cases rx
 obtain⟨its,r,ht,hz⟩:=I.tuple hx
 have hlen:its.toArray.size=xs.length:=by rw[List.size_toArray];exact r.length.symm
 refine⟨"tuple",_,PyProof.Rows.slot_tuple_getitem.lookup,ht.typeIs, ?_⟩
 refine HT.getItem_tuple_cut ht hs pl pu (by rw[hlen];exact hw) ?_ (by rw[hlen];exact hz)
 rw[hlen]
 refine⟨.ref s.heap.objs.size,_,I.laid (t':=s.toks) (o:= .tup (cutV xs lo hi)) (fun b ob q=>Heap.get?_push_of_some _ q) (Nat.le_refl _) ?_,rfl,q _ (I.hok.fresh (Nat.le_refl _))⟩
 exact⟨Nat.le_trans (z2A xs lo hi) hz,_,(r.drop (HT.sIx xs.length 0 lo)).take (HT.sIx xs.length xs.length hi -HT.sIx xs.length 0 lo),IsTup.new _ _⟩
noncomputable def zdt(K:W.Frag):R2:=fun x y H Q=> ∃a b xs ys,x= .ref a/\y= .ref b/\SqT K H a xs/\SqT K H b ys/\xs≠[]/\xs.length+ys.length<=sizeLine/\
 (ys=[]->Q (.ref a) H)/\(ys≠[]->∀p,H p=none->Q (.ref p) (upd H p (.tup (xs++ys))))
theorem Vals.nil_iff{xs:List V}{us:List Value}(r:Vals xs us):us=[]↔xs=[]:=by
 cases r with
 |nil=>simp
 |cons _ _=>simp
theorem z9V:OpR X (binaryOp .Add) (zdt X.K):=by
 intro pins s σ H x y v u Q I rx ry h
 obtain⟨a,b,xs,ys,rfl,rfl,ha,hb,hx,hz,q1,q2⟩:=h
 cases rx
 cases ry
 obtain⟨its,r1,p1,_⟩:=I.tuple ha
 obtain⟨its2,r2,p2,_⟩:=I.tuple hb
 refine HT.cat_tup p1 p2 (fun z=>hx (r1.nil_iff.mp z)) (fun z=>⟨.ref a,H,I,rfl,q1 (r2.nil_iff.mp z)⟩) (fun z=> ?_) (by rw[<-r1.length,<-r2.length];exact hz)
 refine⟨.ref s.heap.objs.size,_,I.laid (t':=s.toks) (o:= .tup (xs++ys)) (fun b ob q=>Heap.get?_push_of_some _ q) (Nat.le_refl _) ?_,rfl,q2 (fun w=>z (r2.nil_iff.mpr w)) _ (I.hok.fresh (Nat.le_refl _))⟩
 exact⟨by rw[List.length_append];exact hz,_,r1.append r2,IsTup.new _ _⟩
end
noncomputable def ixN(n:Nat)(i:Int):Option Nat:=if 0<=i then(if i<n then some i.toNat else none) else if -(n:Int)<=i then some (i+n).toNat else none
noncomputable def atI{α:Type}(xs:List α)(i:Int):Option α:=(ixN xs.length i).bind fun j=>xs[j]?
theorem z6x{n:Nat}{i:Int}{j:Nat}(h:ixN n i=some j):seqIndex? i n=some j/\j<n/\-(n:Int)<=i/\i<n:=by
 unfold ixN at h
 by_cases h0:0<=i
 ·rw[if_pos h0] at h
  by_cases h1:i<n
  ·rw[if_pos h1] at h
   have e:i.toNat=j:=Option.some.inj h
   exact⟨by rw[seqIndex_of h0 h1,e],by lia,by lia,h1⟩
  ·rw[if_neg h1] at h;cases h
 ·rw[if_neg h0] at h
  by_cases h1: -(n:Int)<=i
  ·rw[if_pos h1] at h
   have e:(i+n).toNat=j:=Option.some.inj h
   exact⟨by rw[seqIndex_neg (by lia) h1,e],by lia,h1,by lia⟩
  ·rw[if_neg h1] at h;cases h
theorem z6y{α:Type}{xs:List α}{i:Int}{v:α}(h:atI xs i=some v): ∃j,seqIndex? i xs.length=some j/\xs[j]? =some v/\j<xs.length/\-(xs.length:Int)<=i/\i<xs.length:=by
 unfold atI at h
 cases e:ixN xs.length i with
 |none=>rw[e] at h;cases h
 |some j=>
  rw[e] at h
  obtain⟨h1,h2,h3,h4⟩:=z6x e
  exact⟨j,h1,h,h2,h3,h4⟩
theorem z9W{α:Type}{xs:List α}{j:Nat}{v:α}(h:xs[j]? =some v):atI xs (j:Int)=some v:=by
 have hj:j<xs.length:=(List.getElem?_eq_some_iff.mp h).1
 have e:ixN xs.length (j:Int)=some j:=by
  unfold ixN
  rw[if_pos (by lia),if_pos (by lia)];simp
 unfold atI;rw[e];exact h
noncomputable def z27(b:Expr):Prop:= ∀o i,subscripted b false o i=operate [o,i] (getItem o i)
noncomputable def IxR(X:Cx)(r:R2):Prop:=
 ∀(value slice:Expr) (pins:List (Addr×Obj)) (s:Shared) (σ:St) (H:Hp) (x y:V) (v u:Value) (Q:VK),Inv X pins σ H s->RelV x v->RelV y u->r x y H Q->
  subscripted slice false v u=operate [v,u] (getItem v u)->wpAny (model X.prog X.w) X.A (subscriptTail value slice v u) (EP X pins σ Q) X.xe s
noncomputable def MtR(X:Cx)(id:String)(r:V->List V->Hp->VK->Prop):Prop:=
 ∀(pins:List (Addr×Obj)) (s:Shared) (σ:St) (H:Hp) (x:V) (xs:List V) (v:Value) (us:List Value) (Q:VK),Inv X pins σ H s->RelV x v->Vals xs us->r x xs H Q->
  wpAny (model X.prog X.w) X.A (call (.builtin id) (v::us)) (EP X pins σ Q) X.xe s
section
variable{X:Cx}{a b:Expr}{ta tb:TE}{pos:Pos}
theorem IxR.or{r r':R2}(h:IxR X r)(h':IxR X r'):IxR X (fun x y H Q=>r x y H Q\/r' x y H Q):=by
 intro value slice pins s σ H x y v u Q I rx ry q hs
 rcases q with q|q
 ·exact h value slice pins s σ H x y v u Q I rx ry q hs
 ·exact h' value slice pins s σ H x y v u Q I rx ry q hs
theorem zdu{r:R2}(hr:IxR X r)(ha:PE X a ta)(hb:PE X b tb)(hs:z27 b):PE X (.Subscript a b pos) (tOp r ta tb):=by
 intro pins s σ H Q I h
 exact Subscript_ (binT ha hb I h fun v u s2 x y H2 I2 rx ry q=>hr a b pins s2 σ H2 x y v u Q I2 rx ry q (hs _ _))
noncomputable def rIxL(K:W.Frag):R2:=fun x y H Q=> ∃p xs i v,x= .ref p/\y= .int i/\SqL K H p xs/\atI xs i=some v/\Q v H
noncomputable def rIxT(K:W.Frag):R2:=fun x y H Q=> ∃p xs i v,x= .ref p/\y= .int i/\SqT K H p xs/\atI xs i=some v/\Q v H
theorem z9X:IxR X (rIxL X.K):=by
 intro value slice pins s σ H x y v u Q I rx ry h hs
 obtain⟨p,xs,i,z,rfl,rfl,hq,he,q⟩:=h
 cases rx
 obtain⟨t,rfl⟩:=ry
 obtain⟨its,r,pl,hz⟩:=I.list hq
 obtain⟨j,h1,h2,h3,h4,h5⟩:=z6y he
 obtain⟨w,ew,rw'⟩:=r.get h2
 have hl:=r.length
 have hn:=z40
 have fin:EP X pins σ Q w s:=⟨z,H,I,rw',q⟩
 by_cases h0:0<=i
 ·have hj:i.toNat=j:=by
   rw[seqIndex_of h0 h5] at h1
   exact Option.some.inj h1
  exact item_listR pl.isList h0 (by lia) (by rw[hj];simpa using ew) fin hs
 ·have hj:(i+(its.toArray.size:Int)).toNat=j:=by
   rw[seqIndex_neg (by lia) h4] at h1
   rw[List.size_toArray,<-hl]
   exact Option.some.inj h1
  exact subscriptTail_builtinR (x:=w) pl.isList.typeIs slot_list_getitem.lookup
   (wpAny_getItem_list_neg (Q:=fun r s'=>r=w/\EP X pins σ Q r s') pl.isList (by lia) (by rw[List.size_toArray]<;>lia) (by lia) (by rw[hj];simpa using ew) ⟨rfl,fin⟩) hs
theorem zbC:IxR X (rIxT X.K):=by
 intro value slice pins s σ H x y v u Q I rx ry h hs
 obtain⟨p,xs,i,z,rfl,rfl,hq,he,q⟩:=h
 cases rx
 obtain⟨t,rfl⟩:=ry
 obtain⟨its,r,pl,hz⟩:=I.tuple hq
 obtain⟨j,h1,h2,h3,h4,h5⟩:=z6y he
 obtain⟨w,ew,rw'⟩:=r.get h2
 have hl:=r.length
 have hn:=z40
 have fin:EP X pins σ Q w s:=⟨z,H,I,rw',q⟩
 exact subscriptTail_builtinR (x:=w) pl.typeIs slot_tuple_getitem.lookup
  (getItem_tuple (j:=j) (Q:=fun r s'=>r=w/\EP X pins σ Q r s') pl (by lia) (by lia) (by rw[List.size_toArray,<-hl];exact h1) (by simpa using ew) ⟨rfl,fin⟩) hs
theorem z5Q(its:List Value)(n j:Nat)(u:Value):Obj.mapSeq (·.setIfInBounds j u) {cls:= .type "list",data:= .seq its.toArray n}={cls:= .type "list",data:= .seq (its.set j u).toArray n}:=by
 simp[Obj.mapSeq]
theorem Inv.lst{pins:List (Addr×Obj)}{σ:St}{H:Hp}{s:Shared}{p:Addr}{xs:List V}(I:Inv X pins σ H s)(h:H p=some (.lst xs)):
 ∃(its:List Value) (n:Nat),Vals xs its/\s.heap.get? p=some {cls:= .type "list",data:= .seq its.toArray n}/\xs.length<=sizeLine:=by
 obtain⟨z,its,n,r,e⟩:=I.hok p _ h
 exact⟨its,n,r,e,z⟩
theorem Inv.lstUpd{pins:List (Addr×Obj)}{σ:St}{H:Hp}{s:Shared}{p:Addr}{xs ys:List V}{its its':List Value}{n n':Nat}{f:Obj->Obj}(I:Inv X pins σ H s)(h:H p=some (.lst xs))
 (ho:s.heap.get? p=some {cls:= .type "list",data:= .seq its.toArray n}) (hf:f {cls:= .type "list",data:= .seq its.toArray n}={cls:= .type "list",data:= .seq its'.toArray n'}) (r:Vals ys its') (hz:ys.length<=sizeLine) (t:Nat):
 Inv X pins σ (upd H p (.lst ys)) {s with heap:=s.heap.update p f,toks:=t}:=by
 have e:(s.heap.update p f).get? p=some {cls:= .type "list",data:= .seq its'.toArray n'}:=by
  rw[Heap.get?_update_self f ho (by rw[hf]<;>rfl),hf]
 refine I.write (x:=p) (e:=p) (by rw[h];trivial) (.inl rfl) (fun b u hb q=>(Heap.get?_update_other _ _ (Ne.symm hb)).trans q) ⟨_,e⟩ ?_
 exact⟨hz,its',n',r,e⟩
noncomputable def z8h:V->V->V->Hp->(Hp->Prop)->Prop:=fun o i v H Q=> ∃p xs k j,o= .ref p/\i= .int k/\H p=some (.lst xs)/\ixN xs.length k=some j/\Q (upd H p (.lst (xs.set j v)))
theorem z5m:PSet X z8h:=by
 intro pins s σ H o i v ov iv u Q I ro ri rv h
 obtain⟨p,xs,k,j,rfl,rfl,hp,hj,q⟩:=h
 cases ro
 obtain⟨t,rfl⟩:=ri
 obtain⟨its,n,r,ho,hz⟩:=I.lst hp
 obtain⟨h1,h2,h3,h4⟩:=z6x hj
 have hl:=r.length
 have hn:=z40
 have I':Inv X pins σ (upd H p (.lst (xs.set j v))) {s with heap:=s.heap.update p (Obj.mapSeq (·.setIfInBounds j u))}:=
  I.lstUpd hp ho (z5Q its n j u) (r.set rv j) (by rw[List.length_set];exact hz) s.toks
 by_cases h0:0<=k
 ·have hk:k.toNat=j:=by
   rw[seqIndex_of h0 h4] at h1
   exact Option.some.inj h1
  exact W.ki_setAt ho h0 (by lia) (by rw[List.size_toArray,<-hl];exact h4) (by rw[hk];exact⟨_,I',q⟩)
 ·have hk:(k+(its.toArray.size:Int)).toNat=j:=by
   rw[seqIndex_neg (by lia) h3] at h1
   rw[List.size_toArray,<-hl]
   exact Option.some.inj h1
  exact W.ki_setBack ho (by lia) (by rw[List.size_toArray,<-hl];exact h3) (by lia) (by rw[hk];exact⟨_,I',q⟩)
theorem z46(lo hi:Option Int)(n:Nat):(sliceBounds lo hi none n).1=((HT.sIx n 0 lo:Nat):Int)/\(sliceBounds lo hi none n).2.1=((HT.sIx n n hi:Nat):Int)/\(sliceBounds lo hi none n).2.2=1:=by
 refine⟨?_, ?_,rfl⟩
 ·cases lo with
  |none=>simp[sliceBounds,HT.sIx]
  |some i=>
   simp only[sliceBounds,HT.sIx,Option.getD_none,show(1:Int)>0 by decide,if_true]
   by_cases h:i<0
   ·simp only[h,if_true]<;>lia
   ·simp only[h,if_false]<;>lia
 ·cases hi with
  |none=>simp[sliceBounds,HT.sIx]
  |some i=>
   simp only[sliceBounds,HT.sIx,Option.getD_none,show(1:Int)>0 by decide,if_true]
   by_cases h:i<0
   ·simp only[h,if_true]<;>lia
   ·simp only[h,if_false]<;>lia
theorem z3u(its:List Value)(lo hi:Option Int):slicePick its.toArray lo hi none=((its.drop (HT.sIx its.length 0 lo)).take (HT.sIx its.length its.length hi -HT.sIx its.length 0 lo)).toArray:=by
 obtain⟨h1,h2,h3⟩:=z46 lo hi its.toArray.size
 unfold slicePick
 rw[h1,h2,h3]
 simp only[sliceRange_one,pick_run,List.size_toArray]<;>rfl
noncomputable def rSlL(K:W.Frag):V->Option Int->Option Int->Hp->VK->Prop:=fun x lo hi H Q=> ∃a xs,x= .ref a/\SqL K H a xs/\∀p,H p=none->Q (.ref p) (upd H p (.lst (cutV xs lo hi)))
theorem z9Y:SlR X (rSlL X.K):=by
 intro pins s σ H x v vl vu lo hi sl Q I rx hs pl pu h
 obtain⟨a,xs,rfl,hx,q⟩:=h
 cases rx
 obtain⟨its,r,ht,hz⟩:=I.list hx
 have hlen:=r.length
 refine⟨"list",_,slot_list_getitem.lookup,ht.isList.typeIs, ?_⟩
 refine wpAny_getItem_list_slice ht.isList hs pl pu .none (by simp) ?_ (by rw[List.size_toArray]<;>lia)
 rw[z3u,<-hlen]
 refine⟨.ref s.heap.objs.size,_,I.laid (t':=s.toks) (o:= .lst (cutV xs lo hi)) (fun b ob q=>Heap.get?_push_of_some _ q) (Nat.le_refl _) ?_,rfl,q _ (I.hok.fresh (Nat.le_refl _))⟩
 exact⟨Nat.le_trans (z2A xs lo hi) hz,_,0,(r.drop (HT.sIx xs.length 0 lo)).take (HT.sIx xs.length xs.length hi -HT.sIx xs.length 0 lo),Heap.get?_push_size _ rfl⟩
theorem z47:CallR X (.builtin "len") (fun xs H Q=> ∃p ys,xs=[.ref p]/\(SqL X.K H p ys\/SqT X.K H p ys)/\Q (.int ys.length) H):=by
 intro pins s σ H xs us Q I r h
 obtain⟨p,ys,rfl,hq,q⟩:=h
 obtain⟨u,rfl,rx⟩:=z41 r
 cases rx
 have hn:=z40
 rcases hq with hq|hq
 ·obtain⟨its,r',pl,hz⟩:=I.list hq
  have hlen:=r'.length
  exact Calls.call_len_list pl.isList (by simp only[List.size_toArray]<;>lia) ⟨.int ys.length,H,I.tok _,⟨s.toks+1,by rw[List.size_toArray,hlen]⟩,q⟩
 ·obtain⟨its,r',pl,hz⟩:=I.tuple hq
  have hlen:=r'.length
  exact len_tuple pl (by simp only[List.size_toArray]<;>lia) ⟨.int ys.length,H,I.tok _,⟨s.toks+1,by rw[List.size_toArray,hlen]⟩,q⟩
theorem z48:CallR X (.type "list") (fun xs H Q=> ∃p ys,xs=[.ref p]/\(SqL X.K H p ys\/SqT X.K H p ys)/\∀l,H l=none->Q (.ref l) (upd H l (.lst ys))):=by
 intro pins s σ H xs us Q I r h
 obtain⟨p,ys,rfl,hq,q⟩:=h
 obtain⟨u,rfl,rx⟩:=z41 r
 cases rx
 have fin: ∀(its:List Value),Vals ys its->ys.length<=sizeLine->∀(h':Heap) (c':Nat),(∀b o',s.heap.get? b=some o'->h'.get? b=some o')->
  h'.get? s.heap.objs.size=some {cls:= .type "list",dict:=none,data:= .seq its.toArray c',slots:= #[]}->EP X pins σ Q (.ref s.heap.objs.size) {s with heap:=h'}:=fun its r' hz h' c' kp e=>
  ⟨.ref s.heap.objs.size,_,I.laid (t':=s.toks) kp (Nat.le_refl _) (show z1K X.prog X.w _ h' _ (.lst ys) from⟨hz,its,c',r',e⟩),rfl,q _ (I.hok.fresh (Nat.le_refl _))⟩
 rcases hq with hq|hq
 ·obtain⟨its,r',pl,hz⟩:=I.list hq
  have hlen:=r'.length
  obtain⟨o,ho,hc,n,hd⟩:=pl.isList
  exact call_list_seq p (.inl rfl) ho hc hd (fun h' c' kp e=>fin its r' hz h' c' kp e) (by simp only[List.size_toArray]<;>lia)
 ·obtain⟨its,r',pl,hz⟩:=I.tuple hq
  have hlen:=r'.length
  obtain⟨o,ho,hc,n,hd⟩:=pl
  exact call_list_seq p (.inr rfl) ho hc hd (fun h' c' kp e=>fin its r' hz h' c' kp e) (by simp only[List.size_toArray]<;>lia)
theorem z3v:CallR X (.type "tuple") (fun xs H Q=> ∃p ys,xs=[.ref p]/\((SqL X.K H p ys/\∀l,H l=none->Q (.ref l) (upd H l (.tup ys)))\/(SqT X.K H p ys/\Q (.ref p) H))):=by
 intro pins s σ H xs us Q I r h
 obtain⟨p,ys,rfl,h⟩:=h
 obtain⟨u,rfl,rx⟩:=z41 r
 cases rx
 rcases h with⟨hq,q⟩|⟨hq,q⟩
 ·obtain⟨its,r',pl,hz⟩:=I.list hq
  have hlen:=r'.length
  refine call_tuple_list pl.isList (fun h' kp=> ?_) (by simp only[List.size_toArray]<;>lia)
  have I1:Inv X pins σ H {s with heap:=h'}:=I.kept (t':=s.toks) kp
  have I2:Inv X pins σ (upd H h'.objs.size (.tup ys)) {s with heap:=h'.push {cls:= .type "tuple",data:= .seq its.toArray}}:=
   I1.laid (t':=s.toks) (fun b o e=>Heap.get?_push_of_some _ e) (Nat.le_refl _) (show z1K X.prog X.w _ _ _ (.tup ys) from⟨hz,its,r',IsTup.new _ _⟩)
  exact⟨.ref h'.objs.size,_,I2,rfl,q _ (I1.hok.fresh (Nat.le_refl _))⟩
 ·obtain⟨its,r',pl,hz⟩:=I.tuple hq
  exact call_tuple_same pl ⟨.ref p,H,I,rfl,q⟩
noncomputable def tyV(K:W.Frag)(T:String)(x:V)(H:Hp):Prop:=match x with
 | .str _=>T= "str"
 | .int _=>T= "int"
 | .ref p=>(T= "list" /\∃xs,SqL K H p xs)\/(T= "tuple" /\∃o,K.lookup p=some o/\o.cls= .type "tuple" /\o.dict=none)\/
  (T= "dict" /\((∃kvs,H p=some (.dK kvs))\/∃kvs,H p=some (.dT kvs)))\/(T= "set" /\∃S n,H p=some (.set S n))
 |_=>False
theorem zbD{pins:List (Addr×Obj)}{σ:St}{H:Hp}{s:Shared}{T:String}{x:V}{v:Value}(I:Inv X pins σ H s)(r:RelV x v)(ty:tyV X.K T x H):
 s.TypeIs v T/\∀a,v= .ref a->∃ob,s.heap.get? a=some ob/\ob.dict=none:=by
 cases x with
 |str z=>
  obtain⟨t,rfl⟩:=r
  cases(show T= "str" from ty)
  exact⟨typeIs_str s z t,fun _ e=>nomatch e⟩
 |int i=>
  obtain⟨t,rfl⟩:=r
  cases(show T= "int" from ty)
  exact⟨typeIs_int s i t,fun _ e=>nomatch e⟩
 |ref p=>
  cases r
  rcases ty with⟨rfl,xs,hq⟩|⟨rfl,o,hk,hc,hd⟩|⟨rfl,hk⟩|⟨rfl,S,n,hk⟩
  ·obtain⟨its,_,pl,_⟩:=I.list hq
   refine⟨pl.isList.typeIs,fun a e=> ?_⟩
   cases e
   obtain⟨o,n,e,c,hd,_⟩:=pl
   exact⟨o,e,hd⟩
  ·refine⟨⟨o,I.kIn p o hk,hc⟩,fun a e=> ?_⟩
   cases e
   exact⟨o,I.kIn _ o hk,hd⟩
  ·have z: ∃o,s.heap.get? p=some o/\o.ExactDict:=by
    rcases hk with⟨kvs,hk⟩|⟨kvs,hk⟩
    ·obtain⟨_,_,_,_,o,_,_,e,ex,_⟩:=I.hok p _ hk
     exact⟨o,e,ex⟩
    ·obtain⟨_,_,_,_,o,_,_,e,ex,_⟩:=I.hok p _ hk
     exact⟨o,e,ex⟩
   obtain⟨o,e,ex⟩:=z
   refine⟨⟨o,e,ex.1⟩,fun a e2=> ?_⟩
   cases e2
   exact⟨o,e,ex.2.1⟩
  ·obtain⟨o,_,_,_,e,ex,_⟩:=I.hok p _ hk
   refine⟨⟨o,e,ex.1⟩,fun a e2=> ?_⟩
   cases e2
   exact⟨o,e,ex.2.1⟩
 |_=>exact False.elim ty
noncomputable def tBM(K:W.Frag)(T:String)(r:V->List V->Hp->VK->Prop)(to:TE)(t:TA):TE:=fun σ H Q=>to σ H fun x H1=>tyV K T x H1/\t σ H1 fun xs H2=>r x xs H2 Q
variable{o e:Expr}{es:List Expr}{to:TE}{t:TA}{name:Str}{apos cpos:Pos}{T id:String}{r:V->List V->Hp->VK->Prop}
theorem zdv(pa:PlainAttrs T)(slot:Slot T name id)(hty:typeOf (.builtin id)=pure (.type "method_descriptor"))(hm:MtR X id r)(ho:PE X o to)(ha:PA X (e::es) t)
 (hbase:attributeBase o name X.env (eval o X.env)=eval o X.env:=by rfl)
 (hfew:((backTo cpos (starEach (e::es) X.env)).all (fun x=> !x.1)&&(backToKw cpos (keywordEach [] X.env)).all (fun x=>x.1.isSome)
  &&decide ((e::es).length+([]:List Keyword).length+(if([]:List Keyword).isEmpty then 0 else 1)<30))=true:=by rfl)
 (hline:(apos.endLine==cpos.line)=true:=by rfl) (hs:starEach (e::es) X.env=(false,eval e X.env)::starEach es X.env:=by rfl) (hplain:(backTo cpos (starEach es X.env)).any (·.1)=false:=by rfl):
 PE X (.Call (.Attribute o name apos) (e::es) [] cpos) (tBM X.K T r to t):=by
 intro pins s σ H Q I h
 refine wpAny_Call_method_late hbase hfew hline rfl (thn (ho pins s σ H _ I h) fun v s1 ⟨x,H1,I1,r1,ty,q1⟩=> ?_)
 obtain⟨h1,h2⟩:=zbD I1 r1 ty
 refine⟨T,id,pa,slot,hty,h1,h2, ?_⟩
 have hA:=ha cpos pins s1 σ H1 _ I1 q1
 rw[hs] at hA⊢
 refine Calls.callWith_builtin (by show(false||(backTo cpos (starEach es X.env)).any (·.1))=false;rw[hplain]<;>rfl) (Calls.evalArgs_plain ?_)
 exact thn hA fun us s2 ⟨vs,H2,I2,r2,q2⟩=>hm pins s2 σ H2 x vs v us Q I2 r1 r2 q2
end
noncomputable def MtM(X:Cx)(id:String)(r:V->List V->Hp->VK->Prop):Prop:=
 ∀(pins:List (Addr×Obj)) (s:Shared) (σ:St) (H:Hp) (x:V) (xs:List V) (v:Value) (us:List Value) (Q:VK),Inv X pins σ H s->RelV x v->Vals xs us->r x xs H Q->
  wpAny (model X.prog X.w) X.A (call (.builtin id) (v::us)) (EP X pins σ Q) X.xe s
theorem Vals.one: ∀{x:V} {us:List Value},Vals [x] us->∃u,us=[u]/\RelV x u
 |_,_, .cons r .nil=>⟨_,rfl,r⟩
theorem Vals.reverse{xs:List V}{us:List Value}(h:Vals xs us):Vals xs.reverse us.reverse:=by
 induction h with
 |nil=>exact .nil
 |cons r t ih=>rw[List.reverse_cons,List.reverse_cons];exact Vals.append ih (.cons r .nil)
theorem Vals.rep{xs:List V}{us:List Value}(h:Vals xs us): ∀k:Nat,Vals (List.replicate k xs).flatten (List.replicate k us).flatten
 |0=> .nil
 |k+1=>by
  rw[List.replicate_succ,List.replicate_succ,List.flatten_cons,List.flatten_cons]
  exact Vals.append h (Vals.rep h k)
theorem z2B(its:List Value): ∀(k:Nat) (acc:List Value),
 List.foldl (fun x1 x2=>x1++x2) acc.toArray (List.replicate k its.toArray)=(acc++(List.replicate k its).flatten).toArray
 |0,acc=>by simp
 |k+1,acc=>by
  have e:acc.toArray++its.toArray=(acc++its).toArray:=by simp
  have e2:(acc++its)++(List.replicate k its).flatten=acc++(List.replicate (k+1) its).flatten:=by
   rw[List.replicate_succ,List.flatten_cons,List.append_assoc]
  rw[<-e2,<-z2B its k (acc++its),<-e,List.replicate_succ,List.foldl_cons]
section
variable{X:Cx}{pins:List (Addr×Obj)}{σ:St}{H:Hp}{s:Shared}{l b:Addr}{xs ys zs:List V}
theorem Inv.lset{its its':List Value}{n:Nat}{f:Array Value->Array Value}{t':Nat}(I:Inv X pins σ H s)(hH:H l=some (.lst xs))
 (e:s.heap.get? l=some {cls:= .type "list",data:= .seq its.toArray n}) (hf:f its.toArray=its'.toArray) (hv:Vals ys its') (hz:ys.length<=sizeLine):
 Inv X pins σ (upd H l (.lst ys)) {s with heap:=s.heap.update l (Obj.mapSeq f),toks:=t'}:=by
 have q:=PySem.IsL.update e f
 rw[hf] at q
 refine I.write (x:=l) (e:=l) (by rw[hH];exact trivial) (.inl rfl) (fun b' u hb hu=>(Heap.get?_update_other s.heap (Obj.mapSeq f) (Ne.symm hb)).trans hu) ⟨_,q⟩ ?_
 exact⟨hz,its',_,hv,q⟩
theorem Inv.lnew{its:List Value}{t':Nat}(I:Inv X pins σ H s)(hv:Vals ys its)(hz:ys.length<=sizeLine):
 Inv X pins σ (upd H s.heap.objs.size (.lst ys)) {s with heap:=s.heap.push {cls:= .type "list",data:= .seq its.toArray},toks:=t'}:=
 I.laid (fun _ _ q=>Heap.get?_push_of_some _ q) (Nat.le_refl _) ⟨hz,its,0,hv,Heap.get?_push_size _ rfl⟩
theorem Inv.fresh(I:Inv X pins σ H s):H s.heap.objs.size=none:=I.hok.fresh (Nat.le_refl _)
theorem Inv.lstM(I:Inv X pins σ H s)(hH:H l=some (.lst xs)):xs.length<=sizeLine/\∃(its:List Value) (n:Nat),Vals xs its/\xs.length=its.length/\s.heap.get? l=some {cls:= .type "list",data:= .seq its.toArray n}:=by
 obtain⟨z,its,n,r,e⟩:=I.hok l _ hH
 exact⟨z,its,n,r,r.length,e⟩
theorem z8i{n:Nat}(h:n<=sizeLine):Builtin.List.listTooLong n=false:=by
 unfold Builtin.List.listTooLong
 exact decide_eq_false (by lia)
end
section
variable{X:Cx}
noncomputable def z6z:V->List V->Hp->VK->Prop:=fun x vs H Q=> ∃l xs y,x= .ref l/\vs=[y]/\H l=some (.lst xs)/\xs.length<sizeLine/\Q .non (upd H l (.lst (xs++[y])))
theorem z1V:MtM X "list.append" z6z:=by
 intro pins s σ H x vs v us Q I rx rv h
 obtain⟨l,xs,y,rfl,rfl,hH,hz,q⟩:=h
 cases rx
 obtain⟨u,rfl,ru⟩:=rv.one
 obtain⟨z,its,n,r,hl,e⟩:=I.lstM hH
 refine call_meets F.slot_list_append ⟨_,e,rfl⟩ F.entry_list_append (F.args_list_append_2 _ _) (PySem.list_append l its.toArray n u (by rw[List.size_toArray];lia)) ⟨e, ?_⟩
 refine⟨.non,_,I.lset (its':=its++[u]) hH e (by simp) (r.append (.cons ru .nil)) ?_,rfl,q⟩
 rw[List.length_append,List.length_singleton]
 lia
noncomputable def rCat:R2:=fun x y H Q=> ∃l b xs zs,x= .ref l/\y= .ref b/\H l=some (.lst xs)/\H b=some (.lst zs)/\xs.length+zs.length<=sizeLine/\∀p,H p=none->Q (.ref p) (upd H p (.lst (xs++zs)))
theorem zbE:OpR X (binaryOp .Add) rCat:=by
 intro pins s σ H x y v u Q I rx ry h
 obtain⟨l,b,xs,zs,rfl,rfl,hH,hB,hz,q⟩:=h
 cases rx
 cases ry
 obtain⟨z,its,n,r,hl,e⟩:=I.lstM hH
 obtain⟨z2,its2,n2,r2,hl2,e2⟩:=I.lstM hB
 refine PySem.P.add_list e e2 ?_ (by rw[List.size_toArray,List.size_toArray];lia)
 have ea:its.toArray++its2.toArray=(its++its2).toArray:=by simp
 rw[ea]
 exact⟨.ref _,_,I.lnew (t':=s.toks) (r.append r2) (by rw[List.length_append];lia),rfl,q _ I.fresh⟩
noncomputable def rRep:R2:=fun x y H Q=> ∃l k xs,x= .ref l/\y= .int k/\H l=some (.lst xs)/\-(2^63)<=k/\k<2^63/\xs.length*k.toNat<=sizeLine/\
 ∀p,H p=none->Q (.ref p) (upd H p (.lst (List.replicate k.toNat xs).flatten))
theorem z4K{α:Type}(xs:List α)(k:Nat):(List.replicate k xs).flatten.length=k*xs.length:=by
 induction k with
 |zero=>simp
 |succ k ih=>rw[List.replicate_succ,List.flatten_cons,List.length_append,ih,Nat.succ_mul,Nat.add_comm]
theorem zbF:OpR X (binaryOp .Mult) rRep:=by
 intro pins s σ H x y v u Q I rx ry h
 obtain⟨l,k,xs,rfl,rfl,hH,h1,h2,hz,q⟩:=h
 cases rx
 obtain⟨t,rfl⟩:=ry
 obtain⟨z,its,n,r,hl,e⟩:=I.lstM hH
 have hlen:its.toArray.size*k.toNat<=sizeLine:=by rw[List.size_toArray,<-hl];exact hz
 have hcap: ¬its.toArray.size*k.toNat>(2^63 - 1)/8:=by
  have:(sizeLine:Nat)<=(2^63 - 1)/8:=by decide
  lia
 have hfit: ¬(!Builtin.List.listFitsIndex k)=true:=by
  rw[fitsIndex_both h1 h2]
  exact Bool.false_ne_true
 have hlong: ¬Builtin.List.listTooLong (its.toArray.size*k.toNat)=true:=by
  rw[z8i hlen]
  exact Bool.false_ne_true
 have hnew:List.foldl (fun x1 x2=>x1++x2) #[] (List.replicate (if its.toArray.isEmpty=true then 0 else k.toNat) its.toArray)=(List.replicate k.toNat its).flatten.toArray:=by
  have f0: ∀m:Nat,List.foldl (fun x1 x2=>x1++x2) #[] (List.replicate m its.toArray)=(List.replicate m its).flatten.toArray:=fun m=>by
   have:=z2B its m []
   rw[List.nil_append] at this
   exact this
  rw[f0]
  cases its with
  |nil=>simp
  |cons a r'=>rw[if_neg (by simp)]
 refine wpAny_binaryOp_repeat_ref (T:= "list") (U:= "int") (by decide) ⟨_,e,rfl⟩ (fun s'=>typeIs_int s' k t) noFill_list_mul F.fills_int_mul F.slot_int_rmul repeat_list F.slot_int_index.lookup
  (call_meets F.slot_int_rmul (typeIs_int s k t) F.entry_int_rmul (F.args_int_rmul_2 _ _) (int___rmul___int_list k t l its.toArray n)
   ⟨e,rfl,⟨_,e,rfl⟩,call_meets F.slot_list_mul ⟨_,e,rfl⟩ F.entry_list_mul (F.args_list_mul_2 _ _) (AutoListH.list___mul___list_int_3 l its.toArray n k t hfit hcap hlong) ⟨e, ?_⟩⟩)
 rw[hnew]
 exact⟨.ref _,_,I.lnew (t':=s.toks) (r.rep k.toNat) (by rw[z4K,Nat.mul_comm];exact hz),rfl,q _ I.fresh⟩
end
section
variable{prog:Program}{w:World}{A:Around}{E:Value->Shared->Prop}{s:Shared}
set_option maxRecDepth 100000 in
end
theorem zbG{P:Program}{w:World}{k:Key}{u:Value}(r:RelV (kV k) u):(z0d P w).is k u=true:=by
 cases k with
 |inl i=>obtain⟨t,e⟩:=(show ∃t,u=Value.int i t from r);subst e;exact z4H P w i t
 |inr x=>obtain⟨t,e⟩:=(show ∃t,u=Value.str x t from r);subst e;exact z4I P w x t
theorem z49{P:Program}{w:World}: ∀{ks:List Key} {us:List Value},Vals (ks.map kV) us->ItemsAre (z0d P w) ks us
 |[],_,r=>by rw[List.map_nil] at r;cases r;exact .nil
 |k::ks,_,r=>by
  rw[List.map_cons] at r
  cases r with
  |cons h t=>exact .cons (zbG h) (z49 t)
section
variable{P:Program}{w:World}{H:Hp}{h:Heap}{a:Addr}
theorem z9Z{ks:List Key}(ok:HOk P w H h)(e:H a=some (.tup (ks.map kV))):IsTupleKey (z0d P w) h ks a:=by
 obtain⟨_,its,r,o,h1,h2,n,h3⟩:=(show z1K P w H h a (.tup (ks.map kV)) from ok a _ e)
 exact⟨o,its.toArray,n,h1,h2,h3,by simpa using z49 r⟩
theorem z4L(ok:HOk P w H h): ∀{k:NK} {xs:List V} {us:List Value},Paired (TKi H) k xs->Vals xs us->Paired (ItN P w h) k us
 |_,_,_, .nil, .nil=> .nil
 | .inl k::_,_,_, .cons a b, .cons c d=>by
  have e:=(show _=kV k from a)
  subst e
  exact .cons (zbG c) (z4L ok b d)
 | .inr ks::_,_,_, .cons a b, .cons c d=>by
  obtain⟨x,rfl,hx⟩:=a
  cases c
  exact .cons ⟨x,rfl,z9Z ok hx⟩ (z4L ok b d)
theorem z9h{k:NK}(ok:HOk P w H h)(e:TK H k a):(z02 P w).is h k a:=by
 obtain⟨xs,e,p⟩:=e
 obtain⟨_,its,r,o,h1,h2,n,h3⟩:=(show z1K P w H h a (.tup xs) from ok a _ e)
 exact⟨o,its.toArray,n,h1,h2,h3,by simpa using z4L ok p r⟩
end
structure M1(X:Cx)(o:Expr)(m:Str)(apos:Pos)(e:Expr)(cpos:Pos):Prop where
 base:attributeBase o m X.env (eval o X.env)=eval o X.env
 few:((backTo cpos (starEach [e] X.env)).all (fun x=> !x.1)&&(backToKw cpos (keywordEach [] X.env)).all (fun x=>x.1.isSome)
  &&decide (([e]:List Expr).length+([]:List Keyword).length+(if([]:List Keyword).isEmpty then 0 else 1)<30))=true
 line:(apos.endLine==cpos.line)=true
 trees:backTo cpos (starEach [e] X.env)=[(false,eval e X.env)]
structure M2(X:Cx)(o:Expr)(m:Str)(apos:Pos)(e f:Expr)(cpos:Pos):Prop where
 base:attributeBase o m X.env (eval o X.env)=eval o X.env
 few:((backTo cpos (starEach [e,f] X.env)).all (fun x=> !x.1)&&(backToKw cpos (keywordEach [] X.env)).all (fun x=>x.1.isSome)
  &&decide (([e,f]:List Expr).length+([]:List Keyword).length+(if([]:List Keyword).isEmpty then 0 else 1)<30))=true
 line:(apos.endLine==cpos.line)=true
 trees:backTo cpos (starEach [e,f] X.env)=[(false,eval e X.env),(false,eval f X.env)]
end L2
namespace Att
open PySem PySem.W PySem.Calls PyProof.Rows
theorem z2C{P:Params}{h:Heap}: ∀(ns:List Int) (vs:List Value),WellAll P h vs (ns.map WData.int)->IntsAre vs ns:=by
 intro ns
 induction ns with
 |nil=>
  intro vs w
  rw[List.map_nil] at w
  cases w
  exact .nil
 |cons n ns ih=>
  intro vs w
  rw[List.map_cons] at w
  cases w with
  |cons a b=>
   cases a
   exact .cons _ _ (ih _ b)
theorem z6A{l:OpenLaw}{n:Nat}(hn:l.most=some n){P:Params}{h:Heap}{args:List WData}{vals:List Value}
 (hpre:l.row.toRowW.claim.pre args=true) (hwl:WellAll P h vals args):
 ∃a vs ns,vals=[Value.ref a]/\args=[WData.list (ns.map WData.int)]/\h.get? a=some {cls:= .type "list",data:= .seq vs.toArray}/\IntsAre vs ns/\ns.length<=n:=by
 have hsh:WShape.hasAll [] args [.list .int]=true:=(pre_splitW hpre).1
 have hc:l.pre.holds [] {args:=args}=true:=(pre_splitW hpre).2
 obtain⟨d,r,rfl,h1,h2⟩:=hasAllW_cons hsh
 obtain rfl:=hasAllW_nil h2
 obtain⟨xs,rfl,h3⟩:=hasW_list h1
 obtain⟨ns,rfl⟩:=items_int h3
 have hlen:ns.length<=n:=by
  unfold OpenLaw.pre at hc
  have h4:(WTm.not (.lt (.lit (.int (n:Int))) (.len (.arg 0)))).holds [] {args:=[.list (ns.map .int)]}=true:=by
   have h4:=(holds_andW hc).1
   rw[hn] at h4
   exact h4
  have h5:=condW_of h4 (w_not (w_lt w_lit (w_len_list (w_arg rfl))))
  rw[List.length_map] at h5
  refine Nat.le_of_not_lt fun q=> ?_
  have q':(n:Int)<((ns.length:Nat):Int):=by lia
  first
   |(rw[decide_eq_true q'] at h5;exact absurd h5 (by decide))
   |(simp at h5;lia)
 cases hwl with
 |cons w1 w2=>
  cases w2
  cases w1 with
  |list ho hall=>exact⟨_,_,ns,rfl,rfl,ho,z2C ns _ hall,hlen⟩
theorem z6B(l:OpenLaw)(args:List WData):l.row.toRowW.claim.post args (.bool true) args=true:=
 postW_of (r:=l.row.toRowW) (X:=(true==true))
  (show WShape.has [] (.bool true) .bool=true by first|rfl|decide|simp[WShape.has,WShape.arms,WShape.armsAll])
  (show(WTm.eq .res (.lit (.bool true))).value [] {args:=args,res:=some (.bool true),after:=args}=some (.bool (true==true)) from w_eq_bool (w_res rfl) w_lit) rfl
theorem attach_call{l:OpenLaw}{n:Nat}{q:Program}{loose:List Str}{XP:(Str->Option Value)->Heap->Prop}{YP:World->Heap->Prop}{d:DefRec}
 (hn:l.most=some n) (hdf:d.params.defaults=[])
 (call: ∀(w:World) (s₀ s₁:Shared) (mg mb:Str->Option Value) (fa:Addr) (o:Obj) (pm cd doc:Value) (a:Addr) (vs:List Value) (ns:List Int),
  Ground q loose [] XP w s₀ mg mb s₁.heap->YP w s₁.heap->
  s₁.heap.get? fa=some o->o.data= .func (docDef d.name d.params d.body d.scope pm cd doc)->s₁.heap.CodeRec cd d.name->mg d.name=some (.ref fa)->
  s₁.heap.get? a=some {cls:= .type "list",data:= .seq vs.toArray}->IntsAre vs ns->ns.length<=n->s₁.gens= #[]->
  codeAny (model l.prog w) callerA (.call (.ref fa) ⟨[.ref a],[]⟩) (fun r s'=>r= .ok (.ret (.bool true))/\OldK s₁.heap s'.heap/\s'.os=s₁.os/\AllBare s'.gens) s₁):
 WalkO q loose XP YP l.row.toRowW d [] (fun f vs=>PySem.call f vs):=by
 intro w s₀ s₁ mg mb G Y fa o pm cd doc dV kV ho hd hcd hD hmg hg args vals as hpre hlay hrd hwl hlo
 obtain rfl:dV= .none:=Dflts.none hD hdf
 obtain rfl:kV= .none:=Dflts.noKw hD
 obtain⟨a,vs,ns,rfl,rfl,hobj,hints,hlen⟩:=z6A hn hpre hwl
 refine enter_call (codeAny_mono (call w s₀ s₁ mg mb fa o pm cd doc a vs ns G Y ho (fd_plain hd) hcd hmg hobj hints hlen hg) fun r s' hq=> ?_)
 obtain⟨rfl,h2,h3,h4⟩:=hq
 exact⟨.inl ⟨.bool true, .bool true,[],rfl,fun _=>rfl, .bool true,z6B l _,fun _=>⟨List.Pairwise.nil,fun _ hm=>(nomatch hm)⟩⟩,h2,h3,h4⟩
end Att
namespace L2
open PySem PySem.Spec PyProof.Rows
theorem z4a: ∀{vs:List Value} {ns:List Int},IntsAre vs ns->Vals (ns.map V.int) vs
 |_,_, .nil=> .nil
 |_,_, .cons n t h=> .cons ⟨t,rfl⟩ (z4a h)
noncomputable def Only(H:Hp):Prop:= ∀b,H b=none\/∃o xs,H b=some (.frz o (.lst xs))
theorem z8j{P:Program}{w:World}{K:W.Frag}{mg mb:Str->Option Value}{CX:CXT}{k:Nat}{fa a:Addr}{fd:FuncData}{x:Str}{sp:Sp}{s₁:Shared}{vs:List Value}{ns:List Int}
 (KX:K.In s₁.heap) (hns:s₁.heap.Ns mainGlobals mg) (hb:s₁.heap.Ns builtinsNs mb) (hbb: ∀x:Str,x≠ "__name__" ->mb x=bootBuiltins x) (hlim:s₁.heap.NoLimit) (hg:s₁.gens= #[])
 (ha:s₁.heap.get? a=some {cls:= .type "list",data:= .seq vs.toArray}) (hi:IntsAre vs ns) (hl:ns.length<=sizeLine) (hr:Room k callerA)
 (F: ∀base:Heap,K.In base->base.Ns mainGlobals mg->FnOk P w K mg base CX k fa fd [x] sp) (hbind: ∀(s:Shared) (u:Value),BindsTo s fd ⟨[u],[]⟩ [(x,u)])
 (hsp: ∀H:Hp,Only H->SqL K H a (ns.map V.int)->sp [.ref a] H (fun v _=>v= .bl true) fun _ _ _=>False)
 (hCX: ∀H e s',CX [] H s₁ (fun _ _ _=>False) e s'->False):
 codeAny (model P w) callerA (.call (.ref fa) ⟨[.ref a],[]⟩) (fun r s'=>r= .ok (.ret (.bool true))/\OldK s₁.heap s'.heap/\s'.os=s₁.os/\AllBare s'.gens) s₁:=by
 have rv:=z4a hi
 have lenV:=hi.length
 have core: ∀H:Hp,Only H->SqL K H a (ns.map V.int)->HOk P w H s₁.heap->(∀b,H b≠none->b=a)->(H a≠none->K.lookup a=none)->
  codeAny (model P w) callerA (.call (.ref fa) ⟨[.ref a],[]⟩) (fun r s'=>r= .ok (.ret (.bool true))/\OldK s₁.heap s'.heap/\s'.os=s₁.os/\AllBare s'.gens) s₁:=by
  intro H hO hS hok hA hK
  have base_of: ∀{b:Addr} {o:Obj},s₁.heap.get? b=some o->H b=none->(hidT s₁.heap H).get? b=some o:=fun e n=>z86 e n
  have noA: ∀{b:Addr} {o:Obj} {es:Array DictEntry} {ep:Nat},s₁.heap.get? b=some o->o.data= .dict es ep->H b=none:=fun{b o es ep} e d=>by
   cases q:H b with
   |none=>rfl
   |some u=>
    have e':b=a:=hA b (by rw[q];simp)
    subst e'
    rw[ha] at e;cases e
    have d':Data.seq vs.toArray _=Data.dict es ep:=d
    cases d'
  have nsK: ∀{b:Addr} {m:Str->Option Value},s₁.heap.Ns b m->(hidT s₁.heap H).Ns b m:=fun{b m} ⟨o,es,ep,e,d,r⟩=>⟨o,es,ep,base_of e (noA e d),d,r⟩
  have hKb:K.In (hidT s₁.heap H):=fun b o e=>base_of (KX b o e) (by
   cases q:H b with
   |none=>rfl
   |some u=>
    have e':b=a:=hA b (by rw[q];simp)
    subst e'
    rw[hK (by rw[q];simp)] at e;cases e)
  have hM:Mod K mg (hidT s₁.heap H):=⟨hKb,nsK hns,⟨mb,nsK hb,hbb⟩,let⟨mc,h1,h2⟩:=hlim;⟨mc,nsK h1,h2⟩⟩
  have e0:Env0 P w K mg (hidT s₁.heap H) callerA [] s₁ H:=⟨rfl,hM,fun b o e=>z9F e,Nat.le_of_eq (z6l _ _),trivial,fun b hb=>absurd (show b∈([]:List Addr) from hb) (by simp),hok, .of_eq hg⟩
  refine codeAny_mono ((F _ hKb (nsK hns)).run callerA [] s₁ H ⟨[.ref a],[]⟩ [.ref a] [.ref a] _ _ hr e0 (hbind s₁ (.ref a)) (.cons rfl .nil) (hsp H hO hS)) fun r s' h=> ?_
  cases r with
  |error e=>exact(hCX H e s' h).elim
  |ok fl=>
   cases fl with
   |next=>exact False.elim h
   |brk=>exact False.elim h
   |cont=>exact False.elim h
   |ret u=>
    obtain⟨v,H',os,bare,un,hok',r',q⟩:=h
    have q':v= .bl true:=q
    subst q'
    obtain rfl:u=Value.bool true:=r'
    refine⟨rfl,OldK.of_keep fun b o e=> ?_,os,bare⟩
    cases q:H b with
    |none=>exact un.keep b o e q (by intro z;exact absurd (show b∈([]:List Addr) from z) (by simp)) (by simp)
    |some u=>
     rcases hO b with z|⟨ob,xs,z⟩
     ·rw[q] at z;cases z
     ·have z2:=un.frzs b ob _ z
      obtain⟨e1,_⟩:=hok b _ z
      obtain⟨e2,_⟩:=hok' b _ z2
      rw[e] at e1;cases e1
      exact e2
 cases hk:K.lookup a with
 |some o=>
  have e:=KX a o hk
  rw[ha] at e
  cases e
  refine core (fun _=>none) (fun _=> .inl rfl) (.inr ⟨_,vs.toArray,_,hk,rfl,rfl,rfl,by rw[List.size_toArray,lenV];exact hl,by simpa using rv⟩) (fun b u z=>by have z':(none:Option HO)=some u:=z;cases z') (fun b z=>absurd rfl z) fun z=>absurd rfl z
 |none=>
  refine core (fun b=>if b=a then some (.frz {cls:= .type "list",data:= .seq vs.toArray} (.lst (ns.map V.int))) else none) (fun b=> ?_) (.inl (.inr ⟨{cls:= .type "list",data:= .seq vs.toArray},if_pos rfl⟩)) (fun b u z=> ?_) (fun b z=> ?_) fun _=>hk
  ·by_cases hb:b=a
   ·exact .inr ⟨_,_,if_pos hb⟩
   ·exact .inl (if_neg hb)
  ·by_cases hb:b=a
   ·have z':=(if_pos hb).symm.trans z
    cases z'
    subst hb
    exact⟨ha,by rw[List.length_map];exact hl,vs,_,rv,ha⟩
   ·have z':=(if_neg hb).symm.trans z
    cases z'
  ·by_cases hb:b=a
   ·exact hb
   ·exact absurd (if_neg hb) z
theorem za0{l:W.OpenLaw}{n k:Nat}{q:Program}{loose:List Str}{XP:(Str->Option Value)->Heap->Prop}{YP:World->Heap->Prop}{d:DefRec}{K:Params->W.Frag}{CX:World->CXT}{sp:World->Sp}{x:Str}
 (hn:l.most=some n) (hn2:n<=sizeLine) (hdf:d.params.defaults=[]) (hr:Room k callerA)
 (hY: ∀(w:World) (h:Heap),YP w h->(K w.params).In h)
 (F: ∀(w:World) (mg:Str->Option Value) (fa:Addr) (h:Heap),(K w.params).In h->h.Ns mainGlobals mg->mg d.name=some (.ref fa)->
  ∃fd:FuncData,(∀(s:Shared) (u:Value),BindsTo s fd ⟨[u],[]⟩ [(x,u)])/\
   ∀base:Heap,(K w.params).In base->base.Ns mainGlobals mg->FnOk l.prog w (K w.params) mg base (CX w) k fa fd [x] (sp w))
 (hsp: ∀(w:World) (H:Hp) (a:Addr) (ns:List Int),ns.length<=n->Only H->SqL (K w.params) H a (ns.map V.int)->sp w [.ref a] H (fun v _=>v= .bl true) fun _ _ _=>False)
 (hCX: ∀(w:World) (H:Hp) (s:Shared) (e:Value) (s':Shared),CX w [] H s (fun _ _ _=>False) e s'->False):
 W.WalkO q loose XP YP l.row.toRowW d [] (fun f vs=>PySem.call f vs):=by
 refine Att.attach_call hn hdf fun w s₀ s₁ mg mb fa o pm cd doc a vs ns G Y ho hd hcd hmg hobj hints hlen hg=> ?_
 have KX:=hY w _ Y
 obtain⟨fd,hb,hF⟩:=F w mg fa _ KX G.T.g hmg
 exact z8j KX G.T.g G.T.b G.T.builtins G.T.nolimit hg hobj hints (Nat.le_trans hlen hn2) hr hF hb (fun H hO hS=>hsp w H a ns hlen hO hS) fun H e s'=>hCX w H s₁ e s'
noncomputable def z1P(s:Stmt):Arguments:=match s with
 | .FunctionDef _ a _ _ _ _ _ _ _ _=>a
 |_=>{posonlyargs:=[],args:=[],vararg:=none,kwonlyargs:=[],kw_defaults:=[],kwarg:=none,defaults:=[]}
noncomputable def z0P(s:Stmt):List Stmt:=match s with
 | .FunctionDef _ _ b _ _ _ _ _ _ _=>b
 |_=>[]
noncomputable def z03(s:Stmt):Scope:=match s with
 | .FunctionDef _ _ _ _ _ _ sc _ _ _=>sc
 |_=>{kind:= .function,names:=[],isGenerator:=false,isCoroutine:=false}
noncomputable abbrev CX0:CXT:=fun _ _ _ _ _ _=>False
noncomputable abbrev E0:XK:=fun _ _ _=>False
theorem zdw{X:Cx}:z3l CX0 X E0:=fun _ _ _ _ _ _ _ h=>h.elim
structure Fun(K:W.Frag)(x qual:Str)(st:Stmt)(f:Addr)(fd:FuncData):Prop where
 ex: ∃(oc:Value) (od:Option Addr) (kV doc pm:Value) (an:Option Addr) (cdv ct:Value) (osl:Array (Option Value)),
  fd=W.fnOf x qual (z1P st) (z0P st) (z03 st) .none kV doc pm an cdv ct/\K.lookup f=some ⟨oc,od, .func fd,osl⟩/\W.codeIn K cdv qual=true
 kp:W.keepIn K (.ref f)=true
section
variable{P:Program}{w:World}{K:W.Frag}{mg:Str->Option Value}{base:Heap}
theorem Fun.ok{x qual:Str}{st:Stmt}{f:Addr}{fd:FuncData}{N ps:List Str}{k:Nat}{sp:Sp}(F:Fun K x qual st f fd)(S:z0m N ps (z03 st))(len: ∀vs H Q E,sp vs H Q E->vs.length=ps.length)
 (hbody: ∀(cdv:Value) (A:Around) (outer:List Env) (s:Shared) (H:Hp) (vs:List V) (Q:VK) (E:XK),Room k (A.deeper (envOfC qual (z03 st) s.heap.objs.size f cdv))->sp vs H Q E->
  ∃t,PSs (cxOf CX0 P w K mg base N qual (z03 st) f cdv A outer s H E).nox (z0P st) t/\t {nx:=fun _ H'=>Q .non H',rt:=Q} (start N vs) H):FnOk P w K mg base CX0 (k+1) f fd ps sp:=by
 obtain⟨oc,od,kV,doc,pm,an,cdv,ct,osl,rfl,lk,hcd⟩:=F.ex
 refine zds lk hcd S len fun A outer s H vs Q E hr hsp=> ?_
 obtain⟨t,h,q⟩:=hbody cdv A outer s H vs Q E hr hsp
 exact⟨t,h.nox,q⟩
theorem Fun.binds{x qual:Str}{st:Stmt}{f:Addr}{fd:FuncData}{ps:List Str}(F:Fun K x qual st f fd)
 (h: ∀(kV doc pm:Value) (an:Option Addr) (cdv ct:Value) (us:List Value),us.length=ps.length->bindArgs (W.fnOf x qual (z1P st) (z0P st) (z03 st) .none kV doc pm an cdv ct) ⟨us,[]⟩=pure (ps.zip us)):z38 K fd ps []:=by
 obtain⟨oc,od,kV,doc,pm,an,cdv,ct,osl,rfl,lk,hcd⟩:=F.ex
 exact .all (h kV doc pm an cdv ct)
theorem zbH{x qual:Str}{st:Stmt}{f:Addr}{oc:Value}{od an:Option Addr}{osl:Array (Option Value)}{kV doc pm cdv ct:Value}(l:K.lookup f=some ⟨oc,od, .func (W.fnOf x qual (z1P st) (z0P st) (z03 st) .none kV doc pm an cdv ct),osl⟩)
 (c:W.codeIn K cdv qual=true) (k:W.keepIn K (.ref f)=true):Fun K x qual st f (W.fnOf x qual (z1P st) (z0P st) (z03 st) .none kV doc pm an cdv ct):=⟨⟨oc,od,kV,doc,pm,an,cdv,ct,osl,rfl,l,c⟩,k⟩
end
section
variable{X:Cx}
theorem pv(i:Nat){x:Str}{pos:Pos}(hN:X.N[i]? =some x:=by rfl)(hv:Vis X.env.scope x:=by first|exact Or.inl rfl|exact Or.inr (Or.inl rfl)|exact Or.inr (Or.inr rfl))(hd:(x==("__debug__" :Str))=false:=by decide)
 (hcd:(x==("__classdict__" :Str))=false:=by decide):PE X (.Name x pos) (tVar i):=zbi hN hv hd hcd
end
noncomputable def Same(H H':Hp):Prop:= ∀b o,H b=some o->H' b=some o
theorem Same.refl(H:Hp):Same H H:=fun _ _ h=>h
end L2
namespace So
open PySem PySem.W PyProof.Rows
noncomputable abbrev En:=SortKind×Array Keyed
noncomputable def im(i:Nat)(e:En):Keyed:=kas_item e.2 (i %e.2.size)
noncomputable def ar(q:Array Nat)(e:En):Array Keyed:=q.map fun i=>im i e
noncomputable def sst(q:Array Nat)(p:Array (Nat×Nat×Nat))(g:Nat)(e:En):SortSt:=SortSt.mk' e.1 (ar q e) p g none
variable{cmp:Nat->Nat->Bool}{α β:Type}{st:En->SortSt}
end So
namespace So
open PySem PySem.W PyProof.Rows
variable{cmp:Nat->Nat->Bool}{α β:Type}{q:Array Nat}{p:Array (Nat×Nat×Nat)}{g:Nat}
end So
set_option linter.unusedSimpArgs false
namespace So
open PySem PySem.W PyProof.Rows
noncomputable def Al(T:Nat->Prop)(q:Array Nat):Prop:= ∀i∈q,T i
variable{cmp:Nat->Nat->Bool}{α β:Type}{q:Array Nat}{p:Array (Nat×Nat×Nat)}{g:Nat}
end So
namespace So
open PySem PySem.W PyProof.Rows
variable{cmp:Nat->Nat->Bool}{α β:Type}{q:Array Nat}{p:Array (Nat×Nat×Nat)}{g:Nat}
end So
namespace So
open PySem PySem.W PyProof.Rows
variable{cmp:Nat->Nat->Bool}{α β:Type}{q:Array Nat}{p:Array (Nat×Nat×Nat)}{g:Nat}{T:Nat->Prop}{st:En->SortSt}
end So
set_option linter.unusedVariables false
namespace So
open PySem PySem.W PyProof.Rows
variable{cmp:Nat->Nat->Bool}{α β:Type}{q:Array Nat}{p:Array (Nat×Nat×Nat)}{g:Nat}{T:Nat->Prop}{st:En->SortSt}
end So
namespace So
open PySem PySem.W PyProof.Rows
variable{cmp:Nat->Nat->Bool}{α β:Type}{q:Array Nat}{p:Array (Nat×Nat×Nat)}{g:Nat}{T:Nat->Prop}{st:En->SortSt}
end So
namespace So
open PySem PySem.W PyProof.Rows
variable{cmp:Nat->Nat->Bool}{α β:Type}{q:Array Nat}{p:Array (Nat×Nat×Nat)}{g:Nat}{T:Nat->Prop}{st:En->SortSt}
end So
namespace So
open PySem PySem.W PyProof.Rows PySem.SeqAt
open AutoSeq1 (wpAny_loadPart')
noncomputable def LtAt(A:Around)(s:Shared)(y x:Value)(b:Bool):Prop:=
 ∀(prog:Program) (w:World) (E:Value->Shared->Prop) (Q:Value->Shared->Prop),Q (.bool b) s->wpAny (model prog w) A (richCompare .Lt y x) Q E s
noncomputable def z4M(A:Around)(s:Shared):List Value->List Value->Bool->Prop
 |v::vs,u::us,r=> ∃e,EqAt A s v u e/\if e=true then z4M A s vs us r else LtAt A s v u r
 |[],us,r=>r=decide (0<us.length)
 |_::_,[],r=>r=false
theorem za1{A:Around}{s:Shared}: ∀{vs us:List Value} {r:Bool},vs.zip us=[]->z4M A s vs us r->r=decide (vs.length<us.length)
 |[],us,r,_,h=>h
 |v::vs,[],r,_,h=>by rw[show r=false from h];simp
theorem z5R(l b:Addr)(items items2:Array Value)(n n2:Nat)(dd dd2:Option Addr)(sl sl2:Array (Option Value))(r:Bool):
 Meets (Builtin.«tuple.__lt__» ⟨[.ref l, .ref b],[]⟩)
  (fun A R s=>s.heap.get? l=some {cls:= .type "tuple",dict:=dd,data:= .seq items n,slots:=sl}/\s.heap.get? b=some {cls:= .type "tuple",dict:=dd2,data:= .seq items2 n2,slots:=sl2}/\
   z4M A.in1 s items.toList items2.toList r/\R (.ok (.ret (.bool r))) s):=
 .of_wp fun prog w A R s h=>by
  obtain⟨hp,g,d,tk,os⟩:=s;obtain⟨hl,hb,he,h⟩:=h
  have f2:=AutoSeq1.sub_tuple_tuple
  wp_walk using wpAny_loadPart' hl,wpAny_loadPart' hb,wpAny_forIn_list _ (fun rest b s'=>b.1=none/\s'=⟨hp,g,d,tk,os⟩/\∃vs us,rest=vs.zip us/\z4M A.in1 ⟨hp,g,d,tk,os⟩ vs us r/\(vs.length<us.length↔items.size<items2.size)) _
  case turn=>
   rintro ⟨y,x⟩ rest b s' ⟨hb',rfl,vs,us,hz,hR,hs⟩
   match vs,us,hz,hR with
   |v::vs,u::us,hz,hR=>
    rw[List.zip_cons_cons] at hz
    injection hz with h1 h2
    injection h1 with h3 h4
    subst h2 h3 h4
    obtain⟨e,q1,q2⟩:=hR
    refine wpAny_bind (q1 prog w _ _ ?_)
    cases e with
    |true=>
     wp_walk
     exact⟨rfl,rfl,vs,us,rfl,q2,by simpa using hs⟩
    |false=>
     simp only[Bool.false_eq_true,if_false] at q2
     simp only[Bool.not_false,if_true]
     refine wpAny_bind (wpAny_rule (wpAny_bind (q2 prog w _ _ ?_)))
     exact wpAny_bind (wpAny_pure (wpAny_pure (wpAny_pure ⟨_,rfl,h⟩)))
   |[],_,hz,_=>simp at hz
   |_::_,[],hz,_=>simp at hz
  case fin=>
   rintro ⟨b1,b2⟩ s' ⟨hb',rfl,vs,us,hz,hR,hs⟩
   simp only at hb'
   subst hb'
   have:=za1 hz.symm hR
   wp_walk
   refine⟨_,rfl, ?_⟩
   have e:r=decide (items.size<items2.size):=by rw[this];exact decide_eq_decide.mpr hs
   rw[e] at h
   exact h
  case h=>
   exact⟨rfl,rfl,_,_,rfl,he,by simp⟩
theorem LtAt.int{A:Around}{s:Shared}(a b:Int)(t u:Tok):LtAt A s (.int a t) (.int b u) (decide (a<b)):=fun prog w E Q h=>wpAny_lt_int h
theorem LtAt.tuples{A:Around}{s:Shared}{l b:Addr}{items items2:Array Value}{r:Bool}(hl:s.heap.IsTuple l items)(hb:s.heap.IsTuple b items2)(hu:A.units<cLine)(he:z4M A.in1 s items.toList items2.toList r):LtAt A s (.ref l) (.ref b) r:=fun prog w E Q h=>by
 obtain⟨⟨cls,dd,data,sl⟩,ho,hc,n,hd⟩:=id hl
 obtain⟨⟨cls2,dd2,data2,sl2⟩,ho2,hc2,n2,hd2⟩:=id hb
 simp only at hc hd hc2 hd2
 subst hc hd hc2 hd2
 exact richCompare_meets_room (op:= .Lt) ⟨_,ho,rfl⟩ ⟨_,ho2,rfl⟩ F.slot_tuple_lt F.entry_tuple_lt (F.args_tuple_lt_2 _ _) (z5R l b items items2 n n2 dd dd2 sl sl2 r)
  ⟨ho,ho2,he,show Value.bool r≠Value.notImplemented/\Q (.bool r) s from⟨(fun x=>nomatch x),h⟩⟩ hu
mutual
noncomputable def ltD:PyData->PyData->Option Bool
 | .int a, .int b=>some (decide (a<b))
 | .tuple xs, .tuple ys=>ltL xs ys
 |_,_=>none
noncomputable def ltL:List PyData->List PyData->Option Bool
 |x::xs,y::ys=>if PyData.eqv x y=true then ltL xs ys else ltD x y
 |[],ys=>some (decide (0<ys.length))
 |_::_,[]=>some false
end
end So
namespace So
open PySem PySem.W PyProof.Rows PySem.SeqAt
mutual
theorem z8k: ∀(da db:PyData) (A:Around) (s:Shared) (a b:Value) (as bs:List Addr) (r:Bool),Reads s.heap a da as->Reads s.heap b db bs->da.canLay0=true->db.canLay0=true->A.units+min da.depth db.depth<cLine->ltD da db=some r->LtAt A s a b r
 | .int x,_,A,s,_,_,_,_,r,ra,rb,_,_,_,h=>by
  cases ra with
  |int _ t=>
   cases rb with
   |int y u=>
    simp only[ltD,Option.some.injEq] at h
    subst h
    exact LtAt.int _ _ _ _
   |_=>simp[ltD] at h
 | .tuple xs,_,A,s,_,_,_,_,r,ra,rb,ha,hb,hu,h=>by
  cases ra with
  | @tuple l o vs n _ as₁ h1 h2 h3 h4=>
   cases rb with
   | @tuple l' o' vs' n' ys as' k1 k2 k3 k4=>
    have ha:PyData.canLayAll0 xs=true:=by simpa[PyData.canLay0] using ha
    have hb:PyData.canLayAll0 ys=true:=by simpa[PyData.canLay0] using hb
    simp only[ltD] at h
    exact LtAt.tuples ⟨_,h1,h2,_,h3⟩ ⟨_,k1,k2,_,k3⟩ (room_here hu) (lex_reads xs ys A.in1 s _ _ _ _ r h4 k4 ha hb (room_in hu) h)
   |_=>simp[ltD] at h
 | .none,_,A,s,_,_,_,_,r,ra,rb,ha,hb,hu,h=>by simp[ltD] at h
 | .bool _,_,A,s,_,_,_,_,r,ra,rb,ha,hb,hu,h=>by simp[ltD] at h
 | .str _,_,A,s,_,_,_,_,r,ra,rb,ha,hb,hu,h=>by simp[ltD] at h
 | .list _,_,A,s,_,_,_,_,r,ra,rb,ha,hb,hu,h=>by simp[ltD] at h
 | .dict _,_,A,s,_,_,_,_,r,ra,rb,ha,hb,hu,h=>by simp[ltD] at h
theorem lex_reads: ∀(xs ys:List PyData) (A:Around) (s:Shared) (vs ws:List Value) (as bs:List Addr) (r:Bool),ReadsAll s.heap vs xs as->ReadsAll s.heap ws ys bs->PyData.canLayAll0 xs=true->PyData.canLayAll0 ys=true->
 A.units+min (PyData.depthAll xs) (PyData.depthAll ys)<cLine->ltL xs ys=some r->z4M A s vs ws r
 |[],ys,A,s,vs,ws,_,_,r,ra,rb,_,_,_,h=>by
  cases ra
  simp only[ltL,Option.some.injEq] at h
  subst h
  show _=decide (0<ws.length)
  have e: ∀{ws:List Value} {ys:List PyData} {bs:List Addr},ReadsAll s.heap ws ys bs->ws.length=ys.length:=fun{ws}=>by
   induction ws with
   |nil=>intro ys bs q;cases q;rfl
   |cons v vs ih=>intro ys bs q;cases q with|cons q1 q2=>rw[List.length_cons,List.length_cons,ih q2]
  rw[e rb]
 |_::_,[],A,s,vs,ws,_,_,r,ra,rb,_,_,_,h=>by
  cases rb
  cases ra
  simp only[ltL,Option.some.injEq] at h
  exact h.symm
 |x::xs,y::ys,A,s,_,_,_,_,r,ra,rb,ha,hb,hu,h=>by
  have ha':x.canLay0=true/\PyData.canLayAll0 xs=true:=by simpa[PyData.canLayAll0] using ha
  have hb':y.canLay0=true/\PyData.canLayAll0 ys=true:=by simpa[PyData.canLayAll0] using hb
  cases ra with
  |cons r1 rs=>
  cases rb with
  |cons r1' rs'=>
   refine⟨PyData.eqv x y,eqAt_reads x y A s _ _ _ _ r1 r1' ha'.1 hb'.1 (room_head hu), ?_⟩
   rw[ltL] at h
   split
   ·rename_i e
    rw[if_pos e] at h
    exact lex_reads xs ys A s _ _ _ _ r rs rs' ha'.2 hb'.2 (room_tail hu) h
   ·rename_i e
    rw[if_neg e] at h
    exact z8k x y A s _ _ _ _ r r1 r1' ha'.1 hb'.1 (room_head hu) h
end
noncomputable def hdI:PyData->Bool
 | .tuple (.int _::_)=>true
 |_=>false
end So
namespace So
open PySem PySem.W PyProof.Rows
variable{cmp:Nat->Nat->Bool}{n:Nat}{α β:Type}
noncomputable def ev(cmp:Nat->Nat->Bool):KasT α->α
 | .ret a=>a
 | .ask i j k=>ev cmp (k (cmp i j))
noncomputable def KW(cmp:Nat->Nat->Bool)(n:Nat):KasT α->(α->Prop)->Prop
 | .ret a,P=>P a
 | .ask i j k,P=>i<n/\j<n/\KW cmp n (k (cmp i j)) P
theorem KW.ev{P:α->Prop}: ∀{t:KasT α},KW cmp n t P->P (So.ev cmp t)
 | .ret _,h=>h
 | .ask i j k,h=>KW.ev (t:=k (cmp i j)) h.2.2
theorem KW.bind{f:α->KasT β}{P:β->Prop}: ∀{t:KasT α},KW cmp n t (fun a=>KW cmp n (f a) P)->KW cmp n (t.bind f) P
 | .ret _,h=>h
 | .ask i j k,h=>⟨h.1,h.2.1,KW.bind (t:=k (cmp i j)) h.2.2⟩
theorem KW.mono{P P':α->Prop}(hp: ∀a,P a->P' a): ∀{t:KasT α},KW cmp n t P->KW cmp n t P'
 | .ret _,h=>hp _ h
 | .ask i j k,h=>⟨h.1,h.2.1,KW.mono hp (t:=k (cmp i j)) h.2.2⟩
noncomputable def Pm(n:Nat)(p:Array Nat):Prop:=p.Perm (List.range n).toArray
theorem Pm.size{p:Array Nat}(h:Pm n p):p.size=n:=by have:=h.size_eq;simpa using this
theorem Pm.lt{p:Array Nat}(h:Pm n p){i:Nat}(hi:i<n):p.getD i 0<n:=by
 have hs:=h.size
 have hi':i<p.size:=by lia
 have e:p.getD i 0=p[i]:=by simp[Array.getD,hi']
 rw[e]
 have:=(h.mem_iff (a:=p[i])).mp (Array.getElem_mem hi')
 simpa using this
theorem Pm.rev{p:Array Nat}(h:Pm n p)(i j:Nat):Pm n (kas_rev p i j):=(mirror_perm _ _ _ _).trans h
theorem Pm.bub{p:Array Nat}(h:Pm n p)(i j:Nat):Pm n (bubble p i j):=(bubble_perm _ _ _).trans h
theorem gd{p:Array Nat}{i:Nat}:p.getD i 0=(p[i]?).getD 0:=by simp[Array.getD_eq_getD_getElem?]
theorem z4b{p:Array Nat}{i j k:Nat}(hj:j<=p.size):(kas_rev p i j).getD k 0=if i<=k/\k<j then p.getD (i+j - 1 -k) 0 else p.getD k 0:=by
 rw[gd,kas_rev,getElem?_mirror_all hj]
 split<;>exact gd.symm
theorem zdx{p:Array Nat}{s d k:Nat}(hs:s<p.size)(hd:d<=s):(bubble p s d).getD k 0=if k=s -d then p.getD s 0 else if s -d<k/\k<=s then p.getD (k - 1) 0 else p.getD k 0:=by
 rw[gd,getElem?_bubble hs d hd]
 by_cases h1:k=s -d
 ·rw[if_pos h1,if_pos h1,gd]
 ·rw[if_neg h1,if_neg h1]
  split<;>exact gd.symm
structure Od(cmp:Nat->Nat->Bool)(n:Nat):Prop where
 a: ∀i j,i<n->j<n->cmp i j=true->cmp j i=false
 t: ∀i j k,i<n->j<n->k<n->cmp i j=false->cmp j k=false->cmp i k=false
theorem Od.r(h:Od cmp n){i:Nat}(hi:i<n):cmp i i=false:=by
 cases e:cmp i i with
 |false=>rfl
 |true=>rw[<-e];exact h.a i i hi hi e
noncomputable def Srt(cmp:Nat->Nat->Bool)(p:Array Nat)(m:Nat):Prop:= ∀i j,i<=j->j<m->cmp (p.getD j 0) (p.getD i 0)=false
noncomputable def Dsc(cmp:Nat->Nat->Bool)(p:Array Nat)(m:Nat):Prop:= ∀i j,i<=j->j<m->cmp (p.getD i 0) (p.getD j 0)=false
noncomputable def Eqt(cmp:Nat->Nat->Bool)(p:Array Nat)(m q:Nat):Prop:= ∀i,m -(q+1)<=i->i<m->cmp (p.getD i 0) (p.getD (m - 1) 0)=false/\cmp (p.getD (m - 1) 0) (p.getD i 0)=false
theorem Srt.up{p:Array Nat}{m:Nat}(o:Od cmp n)(hp:Pm n p)(h:Srt cmp p m)(h1:1<=m)(hm:m<n)(e:cmp (p.getD m 0) (p.getD (m - 1) 0)=false):Srt cmp p (m+1):=by
 intro i j hij hj
 by_cases hjm:j<m
 ·exact h i j hij hjm
 ·obtain rfl:j=m:=by lia
  by_cases hi:i=j
  ·subst hi;exact o.r (hp.lt hm)
  ·exact o.t _ _ _ (hp.lt hm) (hp.lt (show j - 1<n by lia)) (hp.lt (show i<n by lia)) e (h i (j - 1) (by lia) (by lia))
theorem za2{p:Array Nat}(hp:Pm n p): ∀(f m:Nat),1<=m->m+f<=n->KW cmp n (kas_asc p f m) fun r=>m<=r/\r<=m+f/\(Od cmp n->Srt cmp p m->Srt cmp p r)/\(r<m+f->cmp (p.getD r 0) (p.getD (r - 1) 0)=true)
 |0,m,_,_=>⟨Nat.le_refl _,Nat.le_refl _,fun _ h=>h,fun h=>absurd h (by lia)⟩
 |f+1,m,h1,h2=>by
  refine⟨hp.lt (by lia),hp.lt (by lia), ?_⟩
  cases e:cmp (p.getD m 0) (p.getD (m - 1) 0) with
  |true=>exact⟨Nat.le_refl _,by lia,fun _ h=>h,fun _=>e⟩
  |false=>
   refine KW.mono (fun r hr=> ?_) (za2 hp f (m+1) (by lia) (by lia))
   obtain⟨a,b,c,d⟩:=hr
   exact⟨by lia,by lia,fun o h=>c o (h.up o hp h1 (by lia) e),fun h=>d (by lia)⟩
theorem Dsc.eqrev{p:Array Nat}{m q:Nat}(o:Od cmp n)(hp:Pm n p)(h:Dsc cmp p m)(he:Eqt cmp p m q)(hq:q+1<=m)(hm:m<=n):Dsc cmp (kas_rev p (m -(q+1)) m) m/\∀i,i<m->cmp ((kas_rev p (m -(q+1)) m).getD i 0) (p.getD (m - 1) 0)=false:=by
 have hz:m<=p.size:=by rw[hp.size];exact hm
 have le: ∀i,i<m->p.getD i 0<n:=fun i hi=>hp.lt (by lia)
 refine⟨fun i j hij hj=> ?_,fun i hi=> ?_⟩
 ·rw[z4b hz,z4b hz]
  by_cases hi:m -(q+1)<=i/\i<m
  ·rw[if_pos hi,if_pos (by lia)]
   exact o.t _ _ _ (le _ (by lia)) (le (m - 1) (by lia)) (le _ (by lia)) (he _ (by lia) (by lia)).1 (he _ (by lia) (by lia)).2
  ·rw[if_neg hi]
   split
   ·exact h _ _ (by lia) (by lia)
   ·exact h _ _ hij hj
 ·rw[z4b hz]
  split
  ·exact(he _ (by lia) (by lia)).1
  ·exact h _ _ (by lia) (by lia)
theorem z5n: ∀(f:Nat) (p:Array Nat) (m q:Nat),Pm n p->q+1<=m->m+f<=n->(Od cmp n->Dsc cmp p m/\Eqt cmp p m q)->
 KW cmp n (kas_desc f p m q) fun r=>Pm n r.1/\m<=r.2.1/\r.2.1<=m+f/\r.2.2+1<=r.2.1/\(Od cmp n->Dsc cmp r.1 r.2.1/\Eqt cmp r.1 r.2.1 r.2.2)
 |0,p,m,q,hp,hq,hm,h=>⟨hp,Nat.le_refl _,Nat.le_refl _,hq,h⟩
 |f+1,p,m,q,hp,hq,hm,h=>by
  have hz:m<=p.size:=by rw[hp.size];lia
  refine⟨hp.lt (by lia),hp.lt (by lia), ?_⟩
  have e1: ∀(p':Array Nat),Od cmp n->(Eqt cmp p' (m+1) 0↔cmp (p'.getD m 0) (p'.getD m 0)=false):=fun p' o=>by
   constructor
   ·intro z;exact(z m (by lia) (by lia)).1
   ·intro z i hi hi'
    obtain rfl:i=m:=by lia
    exact⟨z,z⟩
  cases e:cmp (p.getD m 0) (p.getD (m - 1) 0) with
  |true=>
   simp only[if_true]
   by_cases h0:q>0
   ·simp only[if_pos h0]
    refine KW.mono (fun r hr=>⟨hr.1,by lia,by lia,hr.2.2.2⟩) (z5n f (kas_rev p (m -(q+1)) m) (m+1) 0 (hp.rev _ _) (by lia) (by lia) fun o=> ?_)
    obtain⟨d,t⟩:=h o
    obtain⟨d',u⟩:=d.eqrev o hp t hq (by lia)
    have gm:(kas_rev p (m -(q+1)) m).getD m 0=p.getD m 0:=by rw[z4b hz,if_neg (by lia)]
    have lt: ∀i,i<n->(kas_rev p (m -(q+1)) m).getD i 0<n:=fun i hi=>(hp.rev _ _).lt hi
    refine⟨fun i j hij hj=> ?_,(e1 _ o).mpr (o.r (lt m (by lia)))⟩
    by_cases hjm:j<m
    ·exact d' i j hij hjm
    ·obtain rfl:j=m:=by lia
     by_cases hi:i=j
     ·subst hi;exact o.r (lt _ (by lia))
     ·rw[gm]
      exact o.t _ _ _ (lt _ (by lia)) (hp.lt (show j - 1<n by lia)) (hp.lt (by lia)) (u i (by lia)) (o.a _ _ (hp.lt (by lia)) (hp.lt (by lia)) e)
   ·simp only[if_neg h0]
    refine KW.mono (fun r hr=>⟨hr.1,by lia,by lia,hr.2.2.2⟩) (z5n f p (m+1) 0 hp (by lia) (by lia) fun o=> ?_)
    obtain⟨d,t⟩:=h o
    refine⟨fun i j hij hj=> ?_,(e1 _ o).mpr (o.r (hp.lt (by lia)))⟩
    by_cases hjm:j<m
    ·exact d i j hij hjm
    ·obtain rfl:j=m:=by lia
     by_cases hi:i=j
     ·subst hi;exact o.r (hp.lt (by lia))
     ·exact o.t _ _ _ (hp.lt (by lia)) (hp.lt (show j - 1<n by lia)) (hp.lt (by lia)) (d i (j - 1) (by lia) (by lia)) (o.a _ _ (hp.lt (by lia)) (hp.lt (by lia)) e)
  |false=>
   simp only[Bool.false_eq_true,if_false]
   refine⟨hp.lt (by lia),hp.lt (by lia), ?_⟩
   cases e':cmp (p.getD (m - 1) 0) (p.getD m 0) with
   |true=>exact⟨hp,Nat.le_refl _,Nat.le_add_right _ _,hq,h⟩
   |false=>
    simp only[Bool.false_eq_true,if_false]
    refine KW.mono (fun r hr=>⟨hr.1,by lia,by lia,hr.2.2.2⟩) (z5n f p (m+1) (q+1) hp (by lia) (by lia) fun o=> ?_)
    obtain⟨d,t⟩:=h o
    refine⟨fun i j hij hj=> ?_,fun i hi hi'=> ?_⟩
    ·by_cases hjm:j<m
     ·exact d i j hij hjm
     ·obtain rfl:j=m:=by lia
      by_cases hi:i=j
      ·subst hi;exact o.r (hp.lt (by lia))
      ·exact o.t _ _ _ (hp.lt (by lia)) (hp.lt (show j - 1<n by lia)) (hp.lt (by lia)) (d i (j - 1) (by lia) (by lia)) e'
    ·rw[Nat.add_sub_cancel]
     by_cases him:i=m
     ·subst him;exact⟨o.r (hp.lt (by lia)),o.r (hp.lt (by lia))⟩
     ·obtain⟨t1,t2⟩:=t i (by lia) (by lia)
      exact⟨o.t _ _ _ (hp.lt (by lia)) (hp.lt (show m - 1<n by lia)) (hp.lt (by lia)) t1 e',o.t _ _ _ (hp.lt (by lia)) (hp.lt (show m - 1<n by lia)) (hp.lt (by lia)) e t2⟩
noncomputable def Cnt(cmp:Nat->Nat->Bool)(n:Nat)(r:Nat×Array Nat):Prop:=Pm n r.2/\1<=r.1/\r.1<=n/\(Od cmp n->Srt cmp r.2 r.1)
theorem z9i{p:Array Nat}{m:Nat}(hp:Pm n p)(h1:1<=m)(hm:m<=n)(h:Od cmp n->Dsc cmp p m):KW cmp n (kas_tail3 m n p) (Cnt cmp n):=by
 have hz:m<=p.size:=by rw[hp.size];exact hm
 refine KW.bind (KW.mono (fun r hr=> ?_) (za2 (hp.rev 0 m) (n -m) m h1 (by lia)))
 obtain⟨a,b,c,_⟩:=hr
 refine⟨hp.rev _ _,by show 1<=r;lia,by show r<=n;lia,fun o=>c o fun i j hij hj=> ?_⟩
 rw[z4b hz,z4b hz,if_pos (by lia),if_pos (by lia)]
 exact h o _ _ (by lia) (by lia)
theorem z6C{p:Array Nat}{m:Nat}(hp:Pm n p)(h1:1<=m)(hm:m+1<=n)(h:Od cmp n->Dsc cmp p (m+1)):KW cmp n (kas_descPart m n p) (Cnt cmp n):=by
 refine KW.bind (KW.mono (fun r hr=> ?_) (z5n (n -(m+1)) p (m+1) 0 hp (by lia) (by lia) fun o=>⟨h o,fun i hi hi'=> ?_⟩))
 ·obtain⟨a,b,c,d,e⟩:=hr
  split
  ·exact z9i (a.rev _ _) (by lia) (by lia) fun o=>((e o).1.eqrev o a (e o).2 d (by lia)).1
  ·exact z9i a (by lia) (by lia) fun o=>(e o).1
 ·obtain rfl:i=m:=by lia
  exact⟨h o i i (Nat.le_refl _) (by lia),h o i i (Nat.le_refl _) (by lia)⟩
theorem za3{p:Array Nat}(hp:Pm n p)(h1:1<=n):KW cmp n (kas_count n p) (Cnt cmp n):=by
 refine KW.bind (KW.mono (fun r hr=> ?_) (za2 hp (n - 1) 1 (Nat.le_refl _) (by lia)))
 obtain⟨a,b,c,d⟩:=hr
 have s1:Od cmp n->Srt cmp p r:=fun o=>c o fun i j hij hj=>by
  obtain rfl:j=0:=by lia
  obtain rfl:i=0:=by lia
  exact o.r (hp.lt (by lia))
 have hz:r<=p.size:=by rw[hp.size];lia
 by_cases hn:r=n
 ·rw[if_pos (by simpa using hn)]
  exact⟨hp,a,by lia,s1⟩
 ·rw[if_neg (by simpa using hn)]
  have hd:cmp (p.getD r 0) (p.getD (r - 1) 0)=true:=d (by lia)
  by_cases h2:r>1
  ·rw[if_pos h2]
   refine⟨hp.lt (by lia),hp.lt (by lia), ?_⟩
   cases e:cmp (p.getD 0 0) (p.getD (r - 1) 0) with
   |true=>exact⟨hp,a,by lia,s1⟩
   |false=>
    refine z6C (hp.rev _ _) a (by lia) fun o i j hij hj=> ?_
    have s:=s1 o
    have all: ∀i j,i<r->j<r->cmp (p.getD i 0) (p.getD j 0)=false:=fun i j hi hj=>by
     have q1:cmp (p.getD i 0) (p.getD 0 0)=false:=s 0 i (Nat.zero_le _) hi
     have q2:cmp (p.getD (r - 1) 0) (p.getD j 0)=false:=s j (r - 1) (by lia) (by lia)
     exact o.t _ _ _ (hp.lt (by lia)) (hp.lt (show 0<n by lia)) (hp.lt (by lia)) q1 (o.t _ _ _ (hp.lt (by lia)) (hp.lt (show r - 1<n by lia)) (hp.lt (by lia)) e q2)
    have al: ∀i,i<r->(kas_rev p 0 r).getD i 0=p.getD (r - 1 -i) 0:=fun i hi=>by rw[z4b hz,if_pos (by lia)];congr 1;lia
    by_cases hjr:j<r
    ·rw[al i (by lia),al j hjr];exact all _ _ (by lia) (by lia)
    ·obtain rfl:j=r:=by lia
     have er:(kas_rev p 0 j).getD j 0=p.getD j 0:=by rw[z4b hz,if_neg (by lia)]
     by_cases hi:i=j
     ·subst hi;exact o.r ((hp.rev _ _).lt (by lia))
     ·rw[al i (by lia),er]
      exact o.t _ _ _ (hp.lt (by lia)) (hp.lt (show j - 1<n by lia)) (hp.lt (by lia)) (all _ _ (by lia) (by lia)) (o.a _ _ (hp.lt (by lia)) (hp.lt (by lia)) hd)
  ·rw[if_neg h2]
   refine z6C hp a (by lia) fun o i j hij hj=> ?_
   obtain rfl:r=1:=by lia
   by_cases hi:i=j
   ·subst hi;exact o.r (hp.lt (by lia))
   ·obtain rfl:i=0:=by lia
    obtain rfl:j=1:=by lia
    exact o.a _ _ (hp.lt (by lia)) (hp.lt (by lia)) hd
theorem z4N{p:Array Nat}{k:Nat}(hp:Pm n p)(hk:k<n): ∀(f l r:Nat),r -l<=f->l<=r->r<=k->KW cmp n (kas_place p k f l r) fun x=>l<=x/\x<=r/\(Od cmp n->Srt cmp p k->
 (∀i,i<l->cmp (p.getD k 0) (p.getD i 0)=false)->(∀i,r<=i->i<k->cmp (p.getD i 0) (p.getD k 0)=false)->(∀i,i<x->cmp (p.getD k 0) (p.getD i 0)=false)/\∀i,x<=i->i<k->cmp (p.getD i 0) (p.getD k 0)=false)
 |0,l,r,hf,hlr,hrk=>⟨Nat.le_refl _,hlr,fun _ _ h1 h2=>⟨h1,fun i hi hi'=>h2 i (by lia) hi'⟩⟩
 |f+1,l,r,hf,hlr,hrk=>by
  unfold kas_place
  by_cases h:l≥r
  ·rw[if_pos h]
   exact⟨Nat.le_refl _,hlr,fun _ _ h1 h2=>⟨h1,fun i hi hi'=>h2 i (by lia) hi'⟩⟩
  ·rw[if_neg h]
   refine⟨hp.lt hk,hp.lt (by lia), ?_⟩
   cases e:cmp (p.getD k 0) (p.getD ((l+r)/2) 0) with
   |true=>
    simp only[if_true]
    refine KW.mono (fun x hx=> ?_) (z4N hp hk f l ((l+r)/2) (by lia) (by lia) (by lia))
    obtain⟨a,b,c⟩:=hx
    refine⟨a,by lia,fun o s h1 h2=>c o s h1 fun i hi hi'=> ?_⟩
    exact o.t _ _ _ (hp.lt (by lia)) (hp.lt (show(l+r)/2<n by lia)) (hp.lt hk) (s _ _ hi hi') (o.a _ _ (hp.lt hk) (hp.lt (by lia)) e)
   |false=>
    simp only[Bool.false_eq_true,if_false]
    refine KW.mono (fun x hx=> ?_) (z4N hp hk f ((l+r)/2+1) r (by lia) (by lia) hrk)
    obtain⟨a,b,c⟩:=hx
    refine⟨by lia,b,fun o s h1 h2=>c o s (fun i hi=> ?_) h2⟩
    exact o.t _ _ _ (hp.lt hk) (hp.lt (show(l+r)/2<n by lia)) (hp.lt (by lia)) e (s _ _ (by lia) (by lia))
theorem zbI: ∀(f:Nat) (p:Array Nat) (k:Nat),Pm n p->k+f<=n->(Od cmp n->Srt cmp p k)->KW cmp n (kas_bin f p k) fun q=>Pm n q/\(Od cmp n->Srt cmp q (k+f))
 |0,p,k,hp,_,h=>⟨hp,h⟩
 |f+1,p,k,hp,hk,h=>by
  have hz:k<p.size:=by rw[hp.size];lia
  refine KW.bind (KW.mono (fun x hx=> ?_) (z4N hp (by lia) k 0 k (by lia) (Nat.zero_le _) (Nat.le_refl _)))
  obtain⟨_,b,c⟩:=hx
  refine KW.mono (fun q hq=>⟨hq.1,fun o=>by have:=hq.2 o;rw[show k+(f+1)=k+1+f by lia];exact this⟩) (zbI f (bubble p k (k -x)) (k+1) (hp.bub _ _) (by lia) fun o=> ?_)
  have s:=h o
  obtain⟨c1,c2⟩:=c o s (fun i hi=>absurd hi (by lia)) fun i hi hi'=>absurd hi' (by lia)
  have g: ∀i,(bubble p k (k -x)).getD i 0=if i=x then p.getD k 0 else if x<i/\i<=k then p.getD (i - 1) 0 else p.getD i 0:=fun i=>by
   rw[zdx hz (by lia),show k -(k -x)=x by lia]
  intro i j hij hj
  by_cases hi:i=j
  ·subst hi;exact o.r ((hp.bub _ _).lt (by lia))
  ·rw[g,g]
   by_cases hjx:j=x
   ·rw[if_pos hjx,if_neg (by lia),if_neg (by lia)]
    exact c1 i (by lia)
   ·rw[if_neg hjx]
    by_cases hjk:x<j/\j<=k
    ·rw[if_pos hjk]
     by_cases hix:i=x
     ·rw[if_pos hix];exact c2 _ (by lia) (by lia)
     ·rw[if_neg hix]
      split
      ·exact s _ _ (by lia) (by lia)
      ·exact s _ _ (by lia) (by lia)
    ·rw[if_neg hjk]
     rw[if_neg (by lia),if_neg (by lia)]
     exact s _ _ hij (by lia)
theorem z6D(h:1<=n):KW cmp n (kas_sort n) fun q=>Pm n q/\(Od cmp n->Srt cmp q n):=by
 refine KW.bind (KW.mono (fun r hr=> ?_) (za3 (Array.Perm.refl _) h))
 obtain⟨a,b,c,d⟩:=hr
 by_cases hl:r.1<n
 ·rw[if_pos hl]
  have e:max r.1 1=r.1:=by lia
  rw[e]
  refine KW.mono (fun q hq=>⟨hq.1,fun o=>by have:=hq.2 o;rw[show r.1+(n -r.1)=n by lia] at this;exact this⟩) (zbI (n -r.1) r.2 r.1 a (by lia) d)
 ·rw[if_neg hl]
  obtain e:r.1=n:=by lia
  rw[e] at d
  exact⟨a,d⟩
end So
namespace So
open PySem PySem.W PyProof.Rows PySem.SeqAt
noncomputable def permS(n:Nat)(cmp:Nat->Nat->Bool):List Nat:=if n<2 then List.range n else(ev cmp (kas_sort n)).toList
theorem permS_pm{n:Nat}{cmp:Nat->Nat->Bool}:(permS n cmp).Perm (List.range n):=by
 unfold permS
 by_cases h2:n<2
 ·rw[if_pos h2]
 ·rw[if_neg h2]
  have:=(z6D (cmp:=cmp) (n:=n) (by lia)).ev.1.toList
  simpa using this
theorem permS_len{n:Nat}{cmp:Nat->Nat->Bool}:(permS n cmp).length=n:=by rw[permS_pm.length_eq];simp
theorem permS_lt{n:Nat}{cmp:Nat->Nat->Bool}: ∀i∈permS n cmp,i<n:=fun i hi=>by have:=permS_pm.mem_iff.mp hi;simpa using this
theorem permS_srt{n:Nat}{cmp:Nat->Nat->Bool}(o:Od cmp n): ∀i j,i<=j->j<n->cmp ((permS n cmp).getD j 0) ((permS n cmp).getD i 0)=false:=by
 intro i j hij hj
 by_cases h2:n<2
 ·obtain rfl:i=j:=by lia
  refine o.r ?_
  have hl:i<(permS n cmp).length:=by rw[permS_len];exact hj
  rw[show(permS n cmp).getD i 0=(permS n cmp)[i] by simp[hl]]
  exact permS_lt _ (List.getElem_mem hl)
 ·have s:=(z6D (cmp:=cmp) (n:=n) (by lia)).ev.2 o i j hij hj
  have e: ∀i,(permS n cmp).getD i 0=(ev cmp (kas_sort n)).getD i 0:=fun i=>by
   unfold permS;rw[if_neg h2,gd];simp
  rw[e,e];exact s
theorem kw_s{α:Type}{prog:Program}{w:World}{A:Around}{κ:SortKind}{it:Array Keyed}{cmp:Nat->Nat->Bool}{n:Nat}{G:Shared->Prop}{P:α->Prop}(hc: ∀i j C s,i<n->j<n->G s->(∀s',G s'->C (cmp i j) s')->kas_cmp prog w A κ it i j C s): ∀{t:KasT α} {s:Shared},KW cmp n t P->G s->t.kasWp (kas_cmp prog w A κ it) (fun a s'=>a=ev cmp t/\G s') s
 | .ret _,_,_,hs=>⟨rfl,hs⟩
 | .ask i j k,s,hw,hs=>hc i j _ s hw.1 hw.2.1 hs fun s' h'=>kw_s hc (t:=k (cmp i j)) hw.2.2 h'
theorem z8l{vs:List Value}:(vs.toArray.zip vs.toArray).map (·.2)=vs.toArray:=by
 apply Array.ext_getElem?
 intro i
 by_cases hi:i<vs.length<;>simp[hi]
theorem z4O{vs:List Value}:(List.range vs.length).map (fun i=>vs.getD i Value.none)=vs:=by
 apply List.ext_getElem?
 intro i
 by_cases hi:i<vs.length<;>simp[hi]
section
variable{prog:Program}{w:World}{A:Around}{E:Value->Shared->Prop}{s:Shared}
theorem z2D{a:Addr}{vs:List Value}{n:Nat}{cmp:Nat->Nat->Bool}{P:PySem.Fin->Shared->Prop}(ho:s.heap.get? a=some (seqObj "list" vs.toArray n))(h64:vs.length<64)
 (hk: ∀h',(∀b o,b≠a->s.heap.get? b=some o->h'.get? b=some o)->2<=vs.length->∃κ,(∀(Q:SortKind->Shared->Prop) E,Q κ {s with heap:=h'}->wpAny (model prog w) A (keyKind' vs.toArray) Q E {s with heap:=h'})/\
  ∀i j (hi:i<vs.length) (hj:j<vs.length) (C:Bool->Shared->Prop),C (cmp i j) {s with heap:=h'}->wpAny (model prog w) A (keyLt' κ vs[i] vs[j]) C (fun _ _=>False) {s with heap:=h'})
 (h: ∀h' e1,(∀b o,b≠a->s.heap.get? b=some o->h'.get? b=some o)->h'.get? a=some (seqObj "list" ((permS vs.length cmp).map fun i=>vs.getD i Value.none).toArray e1)->P (.done (.ret .none)) {s with heap:=h'}):
 wpAny (model prog w) A (Builtin.«list.sort» ⟨[.ref a],[]⟩) P E s:=by
 have hz:vs.length<=sizeLine:=by have:sizeLine=16777216:=rfl;lia
 obtain⟨e1,ho1⟩: ∃e1,(s.heap.update a (Obj.mapSeq fun _=>(#[]:Array Value))).get? a=some (seqObj "list" #[] e1):=⟨_,get?_update_seq ho fun _=> #[]⟩
 have ho3:(((s.heap.update a (Obj.mapSeq fun _=>(#[]:Array Value))).push (seqObj "tuple" vs.toArray 0)).push (seqObj "list" #[] 0)).get? a=some (seqObj "list" #[] e1):=Heap.get?_push_of_some _ (Heap.get?_push_of_some _ ho1)
 have kept: ∀b o,b≠a->s.heap.get? b=some o->(((s.heap.update a (Obj.mapSeq fun _=>(#[]:Array Value))).push (seqObj "tuple" vs.toArray 0)).push (seqObj "list" #[] 0)).get? b=some o:=fun b o hb q=>
  Heap.get?_push_of_some _ (Heap.get?_push_of_some _ ((Heap.get?_update_ne _ _ _ _ hb).trans q))
 rw[list_sort_plain]
 refine wpAny_bind (listItems_at ho rfl ?_)
 refine wpAny_bind (listUpdate_at ho rfl ?_ (by rw[List.size_toArray];exact hz) (Nat.zero_le _))
 refine wpAny_bind (seqEpoch_at ho1 rfl ?_)
 refine wpAny_bind (wpAny_newTuple ?_ (by show vs.length<=_;exact hz))
 refine wpAny_bind (wpAny_newList ?_ (Nat.zero_le _))
 refine wpAny_holding ?_
 show wpAny (model prog w) A _ P E {s with heap:=((s.heap.update a (Obj.mapSeq fun _=>(#[]:Array Value))).push (seqObj "tuple" vs.toArray 0)).push (seqObj "list" #[] 0)}
 dsimp only
 generalize ((s.heap.update a (Obj.mapSeq fun _=>(#[]:Array Value))).push (seqObj "tuple" vs.toArray 0)).push (seqObj "list" #[] 0)=h1 at ho3 kept⊢
 have fin: ∀st':SortSt,(arrOf st').map (·.2)=((permS vs.length cmp).map fun i=>vs.getD i Value.none).toArray->failedOf st'=none->wpAny (model prog w) A (do
  let touched<-seqEpoch a
  Builtin.List.listUpdate (.ref a) fun _=>(arrOf st').map (·.2)
  if let some e:=failedOf st' then rule "list.sort.comparison-raised";throw e
  if(touched !=e1)=true then rule "list.sort.modified";raiseError "ValueError" "list modified during sort"
  ret .none) P E {s with heap:=h1}:=by
  intro st' har hf
  refine wpAny_bind (seqEpoch_at ho3 rfl ?_)
  rw[har]
  have hsz:((permS vs.length cmp).map fun i=>vs.getD i Value.none).toArray.size=vs.length:=by rw[List.size_toArray,List.length_map,permS_len]
  refine wpAny_bind (listUpdate_at ho3 rfl ?_ (Nat.zero_le _) (Nat.le_trans (Nat.le_of_eq hsz) (by lia)))
  rw[hf]
  simp only[bne_self_eq_false,Bool.false_eq_true,if_false]
  obtain⟨c2,hc2⟩: ∃c2,(h1.update a (Obj.mapSeq fun _=>((permS vs.length cmp).map fun i=>vs.getD i Value.none).toArray)).get? a=some (seqObj "list" ((permS vs.length cmp).map fun i=>vs.getD i Value.none).toArray c2):=⟨_,get?_update_seq ho3 fun _=>_⟩
  exact wpAny_pure (h _ c2 (fun b o hb q=>(Heap.get?_update_ne _ _ _ _ hb).trans (kept b o hb q)) hc2)
 by_cases h2:vs.length<2
 ·have h2':vs.toArray.size<2:=by simpa using h2
  rw[if_pos h2',if_pos h2']
  refine wpAny_bind (wpAny_pure ?_)
  rw[StateT.run_pure]
  refine wpAny_bind (wpAny_pure ?_)
  refine fin _ ?_ rfl
  show(vs.toArray.zip vs.toArray).map (·.2)=_
  unfold permS
  rw[if_pos h2,z8l,z4O]
 ·have h2': ¬vs.toArray.size<2:=by simpa using h2
  rw[if_neg h2',if_neg h2']
  obtain⟨κ,k1,k2⟩:=hk h1 kept (by lia)
  refine wpAny_bind (k1 _ _ ?_)
  have sz:(vs.toArray.zip vs.toArray).size=vs.length:=by simp
  have rr:((List.range vs.length).toArray.map (kas_item (vs.toArray.zip vs.toArray)))=vs.toArray.zip vs.toArray:=by
   have:=kas_range (vs.toArray.zip vs.toArray)
   rw[sz] at this
   exact this
  have est:SortSt.mk' κ (vs.toArray.zip vs.toArray) #[] 7 none=kas_st κ (vs.toArray.zip vs.toArray) (List.range vs.length).toArray:=by
   unfold kas_st
   rw[rr]
  have hpe:permS vs.length cmp=(ev cmp (kas_sort vs.length)).toList:=by unfold permS;rw[if_neg h2]
  have hw:=z6D (cmp:=cmp) (n:=vs.length) (by lia)
  rw[est]
  have go:=kas_runs (prog:=prog) (w:=w) (A:=A) (E:=E) (κ:=κ) (it:=vs.toArray.zip vs.toArray) (n:=vs.length) (Q:=fun _ st' s'=>arrOf st'=(ev cmp (kas_sort vs.length)).map (kas_item (vs.toArray.zip vs.toArray))/\failedOf st'=none/\s'={s with heap:=h1}) (G:=fun p' s'=>p'=ev cmp (kas_sort vs.length)/\s'={s with heap:=h1}) (s:={s with heap:=h1}) (by lia) h64 (fun p' st' s' z1 z2 z3 z4=>⟨by rw[z2,z4.1],z3,z4.2⟩) (kw_s (G:=fun s'=>s'={s with heap:=h1}) (fun i j C s' hi hj hs hC=>by
   subst hs
   have hq:=k2 i j hi hj C (hC _ rfl)
   unfold kas_cmp
   rw[kat_item rfl,kat_item rfl]
   rw[show vs.getD i Value.none=vs[i] by simp[hi],show vs.getD j Value.none=vs[j] by simp[hj]]
   exact hq) hw rfl)
  refine wpAny_bind (wpAny_mono go ?_ fun _ _ e=>e)
  rintro ⟨⟨⟩,st'⟩ s' ⟨hst,hfa,hs⟩
  dsimp only at hst hfa⊢
  subst hs
  refine fin _ ?_ hfa
  rw[hpe,hst]
  apply Array.toList_inj.mp
  rw[Array.map_map,Array.toList_map]
  exact List.map_congr_left fun i hi=>by simp only[Function.comp];rw[kat_item rfl]
theorem call_sortedS{l:Addr}{vs:List Value}{cmp:Nat->Nat->Bool}{Q:Value->Shared->Prop}(hl:s.heap.IsList l vs.toArray)(h64:vs.length<64)
 (hk: ∀h',(∀b o,s.heap.get? b=some o->h'.get? b=some o)->2<=vs.length->∃κ,(∀(Q:SortKind->Shared->Prop) E,Q κ {s with heap:=h'}->wpAny (model prog w) A.in1.in1 (keyKind' vs.toArray) Q E {s with heap:=h'})/\
  ∀i j (hi:i<vs.length) (hj:j<vs.length) (C:Bool->Shared->Prop),C (cmp i j) {s with heap:=h'}->wpAny (model prog w) A.in1.in1 (keyLt' κ vs[i] vs[j]) C (fun _ _=>False) {s with heap:=h'})
 (h: ∀h' D e1,(∀b o,s.heap.get? b=some o->h'.get? b=some o)->s.heap.objs.size<=D->h'.get? D=some (seqObj "list" ((permS vs.length cmp).map fun i=>vs.getD i Value.none).toArray e1)->Q (.ref D) {s with heap:=h'}):
 wpAny (model prog w) A (call (.builtin "sorted") [.ref l]) Q E s:=by
 have hz:vs.length<=sizeLine:=by have:sizeLine=16777216:=rfl;lia
 refine Calls.call_function_entry kind_sorted plain_sorted entry_sorted (args_sorted1 _) ?_
 unfold Builtin.«sorted»
 refine wpAny_bind (m:=checkCount "sorted" 1 1 _) (wpAny_pure ?_)
 refine wpAny_bind (collect_list hl ?_ hz)
 refine wpAny_bind (wpAny_newList ?_ hz)
 have hsz:((s.heap.push (seqObj "list" #[] 0)).update s.heap.objs.size (Obj.mapSeq (· ++vs.toArray))).objs.size=s.heap.objs.size+1:=by
  rw[Heap.size_update,size_push']
 have hoL:(((s.heap.push (seqObj "list" #[] 0)).update s.heap.objs.size (Obj.mapSeq (· ++vs.toArray))).push (seqObj "list" vs.toArray 0)).get? (s.heap.objs.size+1)=some (seqObj "list" vs.toArray 0):=by
  rw[<-hsz];exact Heap.get?_push_size _ rfl
 have keep: ∀b o,s.heap.get? b=some o->(((s.heap.push (seqObj "list" #[] 0)).update s.heap.objs.size (Obj.mapSeq (· ++vs.toArray))).push (seqObj "list" vs.toArray 0)).get? b=some o:=fun b o q=>by
  have hlt:b<s.heap.objs.size:=Heap.lt_size q
  rw[Heap.get?_push_ne _ _ _ (by rw[hsz];exact Nat.ne_of_lt (Nat.lt_succ_of_lt hlt)),Heap.get?_update_ne _ _ _ _ (Nat.ne_of_lt hlt),Heap.get?_push_ne _ _ _ (Nat.ne_of_lt hlt)]
  exact q
 show wpAny _ _ _ _ _ {s with heap:=((s.heap.push (seqObj "list" #[] 0)).update s.heap.objs.size (Obj.mapSeq (· ++vs.toArray))).push (seqObj "list" vs.toArray 0)}
 rw[hsz]
 have ne: ∀{b o},s.heap.get? b=some o->b≠s.heap.objs.size+1:=fun q=>Nat.ne_of_lt (Nat.lt_succ_of_lt (Heap.lt_size q))
 refine wpAny_bind (wpAny_holding (wpAny_call_entry slot_list_sort ⟨_,hoL,rfl⟩ entry_list_sort ?body (args_list_sort _)))
 case body=>
  refine z2D (s:={s with heap:=((s.heap.push (seqObj "list" #[] 0)).update s.heap.objs.size (Obj.mapSeq (· ++vs.toArray))).push (seqObj "list" vs.toArray 0)}) (cmp:=cmp) hoL h64 (fun h' kp h2=> ?_) fun h' e1 kp hD=> ?_
  ·exact hk h' (fun b o q=>kp b o (ne q) (keep b o q)) h2
  ·exact⟨_,rfl,wpAny_pure ⟨_,rfl,h h' _ e1 (fun b o q=>kp b o (ne q) (keep b o q)) (Nat.le_succ _) hD⟩⟩
end
end So
set_option maxHeartbeats 4000000
namespace L2
open PySem PySem.Spec PyProof.Rows
mutual
noncomputable def Dp(K:W.Frag)(H:Hp):PyData->V->Prop
 | .none,v=>v= .non
 | .bool b,v=>v= .bl b
 | .int i,v=>v= .int i
 | .str x,v=>v= .str x
 | .list ds,v=> ∃a xs,v= .ref a/\SqL K H a xs/\DpAll K H ds xs
 | .tuple ds,v=> ∃a xs,v= .ref a/\SqT K H a xs/\DpAll K H ds xs
 | .dict _,_=>False
noncomputable def DpAll(K:W.Frag)(H:Hp):List PyData->List V->Prop
 |[],xs=>xs=[]
 |d::ds,xs=> ∃x r,xs=x::r/\Dp K H d x/\DpAll K H ds r
end
section
variable{X:Cx}{pins:List (Addr×Obj)}{σ:St}{H:Hp}{s:Shared}
mutual
theorem Dp.reads(I:Inv X pins σ H s): ∀(d:PyData) (v:V) (u:Value),Dp X.K H d v->RelV v u->∃as,Reads s.heap u d as
 | .none,v,u,h,r=>by
  simp only[Dp] at h;subst h;cases r;exact⟨_, .none⟩
 | .bool b,v,u,h,r=>by
  simp only[Dp] at h;subst h;cases r;exact⟨_, .bool b⟩
 | .int i,v,u,h,r=>by
  simp only[Dp] at h;subst h;obtain⟨t,rfl⟩:=r;exact⟨_, .int i t⟩
 | .str x,v,u,h,r=>by
  simp only[Dp] at h;subst h;obtain⟨t,rfl⟩:=r;exact⟨_, .str x t⟩
 | .list ds,v,u,h,r=>by
  simp only[Dp] at h
  obtain⟨a,xs,rfl,hs,hd⟩:=h
  cases r
  obtain⟨its,rv,⟨o,n,e,c,_,dd⟩,_⟩:=I.list hs
  obtain⟨as,ra⟩:=DpAll.reads I ds xs its hd rv
  exact⟨_, .list e c dd (by simpa using ra)⟩
 | .tuple ds,v,u,h,r=>by
  simp only[Dp] at h
  obtain⟨a,xs,rfl,hs,hd⟩:=h
  cases r
  obtain⟨its,rv,⟨o,e,c,n,dd⟩,_⟩:=I.tuple hs
  obtain⟨as,ra⟩:=DpAll.reads I ds xs its hd rv
  exact⟨_, .tuple e c dd (by simpa using ra)⟩
 | .dict _,v,u,h,r=>by
  simp only[Dp] at h
theorem DpAll.reads(I:Inv X pins σ H s): ∀(ds:List PyData) (vs:List V) (us:List Value),DpAll X.K H ds vs->Vals vs us->∃as,ReadsAll s.heap us ds as
 |[],vs,us,h,r=>by
  simp only[DpAll] at h;subst h
  cases r
  exact⟨_, .nil⟩
 |d::ds,vs,us,h,r=>by
  simp only[DpAll] at h
  obtain⟨x,q,rfl,h1,h2⟩:=h
  cases r with
  |cons r1 r2=>
   obtain⟨as,ra⟩:=Dp.reads I d _ _ h1 r1
   obtain⟨bs,rb⟩:=DpAll.reads I ds _ _ h2 r2
   exact⟨_, .cons ra rb⟩
end
noncomputable def rEqD(K:W.Frag)(neg:Bool):R2:=fun x y H Q=> ∃d e,Dp K H d x/\Dp K H e y/\d.canLay0=true/\e.canLay0=true/\min d.depth e.depth<=60/\
 Q (.bl (if neg then !PyData.eqv d e else PyData.eqv d e)) H
theorem zbJ(hu:X.A.units+64<cLine):OpR X (compareOp .Eq) (rEqD X.K false):=by
 intro pins s σ H x y v u Q I rx ry h
 obtain⟨d,e,hx,hy,c1,c2,hd,q⟩:=h
 obtain⟨as,ra⟩:=hx.reads I _ _ _ rx
 obtain⟨bs,rb⟩:=hy.reads I _ _ _ ry
 exact SeqAt.compareEq_reads ra rb c1 c2 (by lia) ⟨.bl _,H,I,rfl,q⟩
theorem zbK(hu:X.A.units+64<cLine):OpR X (compareOp .NotEq) (rEqD X.K true):=by
 intro pins s σ H x y v u Q I rx ry h
 obtain⟨d,e,hx,hy,c1,c2,hd,q⟩:=h
 obtain⟨as,ra⟩:=hx.reads I _ _ _ rx
 obtain⟨bs,rb⟩:=hy.reads I _ _ _ ry
 exact SeqAt.compareNe_reads ra rb c1 c2 (by lia) ⟨.bl _,H,I,rfl,q⟩
noncomputable def rInD(K:W.Frag)(neg:Bool):R2:=fun x y H Q=> ∃d ds,Dp K H d x/\(Dp K H (.list ds) y\/Dp K H (.tuple ds) y)/\d.canLay0=true/\PyData.canLayAll0 ds=true/\min (PyData.depthAll ds) d.depth<=60/\
 Q (.bl (if neg then !(ds.any fun y=>PyData.eqv y d) else ds.any fun y=>PyData.eqv y d)) H
theorem z6E(hu:X.A.units+64<cLine):OpR X (compareOp .NotIn) (rInD X.K true):=by
 intro pins s σ H x y v u Q I rx ry h
 obtain⟨d,ds,hx,hy,c1,c2,hd,q⟩:=h
 obtain⟨as,ra⟩:=hx.reads I _ _ _ rx
 rcases hy with hy|hy
 ·obtain⟨bs,rb⟩:=hy.reads I _ _ _ ry
  exact SeqAt.notIn_list_reads rb ra c2 c1 (by lia) ⟨.bl _,H,I,rfl,q⟩
 ·obtain⟨bs,rb⟩:=hy.reads I _ _ _ ry
  exact SeqAt.notIn_tuple_reads rb ra c2 c1 (by lia) ⟨.bl _,H,I,rfl,q⟩
noncomputable def isiV(K:W.Frag)(H:Hp)(T:String)(r:Bool):V->Prop
 | .non=>r=false
 | .bl _=>r=(T== "int" ||T== "bool")
 | .int _=>r=(T== "int")
 | .str _=>r=(T== "str")
 | .ref a=>(∃xs,SqT K H a xs/\r=(T== "tuple"))\/(∃xs,SqL K H a xs/\r=(T== "list"))
 |_=>False
noncomputable def rIsi(K:W.Frag):List V->Hp->VK->Prop:=fun xs H Q=> ∃x T r,xs=[x, .ty T]/\(T= "int" \/T= "bool" \/T= "tuple" \/T= "list" \/T= "str")/\isiV K H T r x/\Q (.bl r) H
theorem z8m:CallR X (.builtin "isinstance") (rIsi X.K):=by
 intro pins s σ H xs us Q I r h
 obtain⟨x,T,b,rfl,hT,hx,q⟩:=h
 obtain⟨u,u',rfl,ru,ru'⟩:=z9R r
 cases ru'
 have fin: ∀t,EP X pins σ Q (.bool b) {s with toks:=t}:=fun t=>⟨.bl b,H,I.tok t,rfl,q⟩
 have fin0:EP X pins σ Q (.bool b) s:=⟨.bl b,H,I,rfl,q⟩
 cases x with
 |non=>
  cases ru
  have hx:b=false:=hx
  subst hx
  rcases hT with rfl|rfl|rfl|rfl|rfl
  ·exact IsiPair.NoneType_int (fin _)
  ·exact IsiPair.NoneType_bool (fin _)
  ·exact IsiPair.NoneType_tuple (fin _)
  ·exact IsiPair.NoneType_list (fin _)
  ·exact IsiPair.NoneType_str (fin _)
 |bl k=>
  cases ru
  rcases hT with rfl|rfl|rfl|rfl|rfl
  ·have hx:b=true:=hx
   subst hx;exact IsiPair.bool_int fin0
  ·have hx:b=true:=hx
   subst hx;exact IsiPair.bool_bool fin0
  ·have hx:b=false:=hx
   subst hx;exact IsiPair.bool_tuple (fin _)
  ·have hx:b=false:=hx
   subst hx;exact IsiPair.bool_list (fin _)
  ·have hx:b=false:=hx
   subst hx;exact IsiPair.bool_str (fin _)
 |int k=>
  obtain⟨t,rfl⟩:=ru
  rcases hT with rfl|rfl|rfl|rfl|rfl
  ·have hx:b=true:=hx
   subst hx;exact IsiPair.int_int fin0
  ·have hx:b=false:=hx
   subst hx;exact IsiPair.int_bool (fin _)
  ·have hx:b=false:=hx
   subst hx;exact IsiPair.int_tuple (fin _)
  ·have hx:b=false:=hx
   subst hx;exact IsiPair.int_list (fin _)
  ·have hx:b=false:=hx
   subst hx;exact IsiPair.int_str (fin _)
 |str k=>
  obtain⟨t,rfl⟩:=ru
  rcases hT with rfl|rfl|rfl|rfl|rfl
  ·have hx:b=false:=hx
   subst hx;exact IsiPair.str_int (fin _)
  ·have hx:b=false:=hx
   subst hx;exact IsiPair.str_bool (fin _)
  ·have hx:b=false:=hx
   subst hx;exact IsiPair.str_tuple (fin _)
  ·have hx:b=false:=hx
   subst hx;exact IsiPair.str_list (fin _)
  ·have hx:b=true:=hx
   subst hx;exact IsiPair.str_str fin0
 |ref a=>
  cases ru
  rcases hx with⟨ys,hs,hb⟩|⟨ys,hs,hb⟩
  ·obtain⟨its,rv,⟨o,e,c,n,dd⟩,_⟩:=I.tuple hs
   rcases hT with rfl|rfl|rfl|rfl|rfl
   ·have hx:b=false:=hb
    subst hx;exact IsiPair.tuple_int e c (fin _)
   ·have hx:b=false:=hb
    subst hx;exact IsiPair.tuple_bool e c (fin _)
   ·have hx:b=true:=hb
    subst hx;exact IsiPair.tuple_tuple e c fin0
   ·have hx:b=false:=hb
    subst hx;exact IsiPair.tuple_list e c (fin _)
   ·have hx:b=false:=hb
    subst hx;exact IsiPair.tuple_str e c (fin _)
  ·obtain⟨its,rv,⟨o,n,e,c,_,dd⟩,_⟩:=I.list hs
   rcases hT with rfl|rfl|rfl|rfl|rfl
   ·have hx:b=false:=hb
    subst hx;exact IsiPair.list_int e c (fin _)
   ·have hx:b=false:=hb
    subst hx;exact IsiPair.list_bool e c (fin _)
   ·have hx:b=false:=hb
    subst hx;exact IsiPair.list_tuple e c (fin _)
   ·have hx:b=true:=hb
    subst hx;exact IsiPair.list_list e c fin0
   ·have hx:b=false:=hb
    subst hx;exact IsiPair.list_str e c (fin _)
 |byt _=>exact hx.elim
 |flt _=>exact hx.elim
 |ty _=>exact hx.elim
end
end L2
namespace HT
open PySem PyProof.Rows
section
variable{prog:Program}{w:World}{A:Around}{E:Value->Shared->Prop}{s:Shared}
theorem getItem_tuple_whole{t sl:Addr}{items:Array Value}{vl vu:Value}{lo hi:Option Int}{Q:Value->Shared->Prop}(ht:IsTup s.heap t items)(hs:s.heap.IsSliceOf sl vl vu .none)(pl:IsPart vl lo)(pu:IsPart vu hi)
 (hw:sIx items.size 0 lo=0/\sIx items.size items.size hi=items.size) (h:Q (.ref t) s):wpAny (model prog w) A (getItem (.ref t) (.ref sl)) Q E s:=by
 obtain⟨os,hos,hcs,hds⟩:=id hs
 have hTs:s.TypeIs (.ref sl) "slice" :=⟨os,hos,hcs⟩
 unfold getItem
 try with_reducible refine wpAny_holding ?_
 first|refine wpAny_bind (wpAny_pure ?_)|skip
 refine wpAny_bind (wpAny_sequenceKey ht.typeIs (by decide) ?_)
 refine wpAny_bind (wpAny_callSpecial?_slot (name:=Str.ofString "__getitem__") ht.typeIs PyProof.Rows.slot_tuple_getitem
  (wpAny_call_entry PyProof.Rows.slot_tuple_getitem ht.typeIs entry_tuple_getitem ?_ (args_tuple_getitem _ _)))
 show wpAny _ _ (Builtin.Tuple.tupleItemsOf (.ref t)>>=_) _ _ s
 refine wpAny_bind (tupleItemsOf_ ht ?_)
 refine wpAny_bind (wpAny_typeOf hTs ?_)
 rw[if_pos (by decide)]
 refine wpAny_bind (z1r hs pl pu ?_)
 have hyes:((((sIx items.size 0 lo:Nat):Int)==0&&(1:Int)==1&&(sIx items.size items.size hi -sIx items.size 0 lo)==items.size)=true):=by
  rw[hw.1,hw.2]
  simp
 show wpAny _ _ (if(((sIx items.size 0 lo:Nat):Int)==0&&(1:Int)==1&&(sIx items.size items.size hi -sIx items.size 0 lo)==items.size)=true then _ else _) _ _ s
 rw[if_pos hyes]
 obtain⟨o,ho,hc,n,hd⟩:=id ht
 have ex:Builtin.Tuple.tupleIsExact (.ref t)=(typeOf (.ref t)>>=fun T=>pure (T== .type "tuple")):=rfl
 refine wpAny_bind (m:=Builtin.Tuple.tupleIsExact (.ref t)) ?_
 rw[ex]
 refine wpAny_bind (wpAny_typeOf ht.typeIs (wpAny_pure ?_))
 rw[if_pos (by decide)]
 exact wpAny_bind (wpAny_rule (wpAny_pure ⟨_,rfl,wpAny_pure h⟩))
end
end HT
namespace L2
open PySem PySem.Spec PyProof.Rows
section
variable{X:Cx}
theorem z5S{xs:List V}{lo hi:Option Int}(h:HT.sIx xs.length 0 lo=0/\HT.sIx xs.length xs.length hi=xs.length):cutV xs lo hi=xs:=by
 unfold cutV
 rw[h.1,h.2]
 simp
end
noncomputable def z0o(env:Env):List (Str×NameKind)->List (Str×Addr)->List (Str×Addr)
 |[],cs=>cs
 |(n,k)::r,cs=>z0o env r (if k== .free then(match env.cells.lookup n with|some a=>(n,a)::cs|none=>cs) else cs)
theorem z5o{env:Env}: ∀(names:List (Str×NameKind)) (cs:List (Str×Addr)),(∀y∈names,y.2= .free->∃a,env.cells.lookup y.1=some a)->
 (forIn names cs fun(x:Str×NameKind) (r:List (Str×Addr))=>if(x.2==NameKind.free)=true then cellOf env x.1>>=fun a=>pure (ForInStep.yield ((x.1,a)::r)) else pure (ForInStep.yield r))=(pure (z0o env names cs):Sem _)
 |[],cs,_=>rfl
 |(n,k)::r,cs,h=>by
  have ih:=fun cs=>z5o (env:=env) r cs fun y hy=>h y (List.mem_cons_of_mem _ hy)
  rw[List.forIn_cons]
  show((if(k==NameKind.free)=true then cellOf env n>>=fun a=>pure (ForInStep.yield ((n,a)::cs)) else pure (ForInStep.yield cs))>>=_)=pure (z0o env r (if k== .free then(match env.cells.lookup n with|some a=>(n,a)::cs|none=>cs) else cs))
  by_cases hk:(k==NameKind.free)=true
  ·obtain⟨a,e⟩:=h (n,k) List.mem_cons_self (by simpa using hk)
   have e:env.cells.lookup n=some a:=e
   rw[if_pos hk,if_pos hk,e]
   have e2:cellOf env n=pure a:=by unfold cellOf;rw[e]
   rw[e2]
   exact ih _
  ·rw[if_neg hk,if_neg hk]
   exact ih _
theorem z0M{env:Env}{scope:Scope}(h: ∀y∈scope.names,y.2= .free->∃a,env.cells.lookup y.1=some a):closureFor scope env=pure (z0o env scope.names []):=by
 have e:=z5o (env:=env) scope.names [] h
 exact congrArg (fun(m:Sem (List (Str×Addr)))=>m>>=fun cs=>pure cs) e
theorem z1E{env:Env}{x:Str}{c:Addr}: ∀(names:List (Str×NameKind)) (cs:List (Str×Addr)),(z0o env names cs).lookup x=some c->
 cs.lookup x=some c\/(env.cells.lookup x=some c/\(x,NameKind.free)∈names)
 |[],cs,h=> .inl h
 |(n,k)::r,cs,h=>by
  rcases z1E r _ h with q|⟨q,m⟩
  ·by_cases hk:(k==NameKind.free)=true
   ·rw[if_pos hk] at q
    cases e:env.cells.lookup n with
    |none=>rw[e] at q;exact .inl q
    |some a=>
     rw[e] at q
     have q:((n,a)::cs).lookup x=some c:=q
     rw[List.lookup_cons] at q
     by_cases hx:(x==n)=true
     ·rw[hx] at q
      have q:some a=some c:=q
      cases q
      have hx:x=n:=eq_of_beq hx
      subst hx
      have hk:k= .free:=eq_of_beq hk
      subst hk
      exact .inr ⟨e,List.mem_cons_self⟩
     ·have hx:(x==n)=false:=by simpa using hx
      rw[hx] at q
      exact .inl q
   ·rw[if_neg hk] at q
    exact .inl q
  ·exact .inr ⟨q,List.mem_cons_of_mem _ m⟩
theorem z2E{env:Env}{x:Str}: ∀(names:List (Str×NameKind)) (cs:List (Str×Addr)),(((∃c,cs.lookup x=some c))\/((x,NameKind.free)∈names/\∃c,env.cells.lookup x=some c))->
 ∃c,(z0o env names cs).lookup x=some c
 |[],cs,h=>by
  rcases h with h|⟨m,_⟩
  ·exact h
  ·cases m
 |(n,k)::r,cs,h=>by
  refine z2E r _ ?_
  rcases h with⟨c,hc⟩|⟨m,c,hc⟩
  ·left
   by_cases hk:(k==NameKind.free)=true
   ·rw[if_pos hk]
    cases e:env.cells.lookup n with
    |none=>exact⟨c,hc⟩
    |some a=>
     by_cases hx:(x==n)=true
     ·exact⟨a,by show((n,a)::cs).lookup x=some a;rw[List.lookup_cons,hx]⟩
     ·have hx:(x==n)=false:=by simpa using hx
      exact⟨c,by show((n,a)::cs).lookup x=some c;rw[List.lookup_cons,hx];exact hc⟩
   ·rw[if_neg hk]
    exact⟨c,hc⟩
  ·rcases List.mem_cons.mp m with e|m
   ·left
    cases e
    rw[if_pos (by decide),hc]
    exact⟨c,by show((x,c)::cs).lookup x=some c;rw[List.lookup_cons,beq_self_eq_true]⟩
   ·exact .inr ⟨m,c,hc⟩
theorem z0Q{env:Env}: ∀{names:List (Str×NameKind)} {x:Str},names.lookup x=some .free->
 (names.map fun(n,k)=>if(k==NameKind.free&&env.scope.kind== .function&&env.kindOf n==some .cell) then(n,NameKind.cell) else(n,k)).lookup x=some .cell\/
 (names.map fun(n,k)=>if(k==NameKind.free&&env.scope.kind== .function&&env.kindOf n==some .cell) then(n,NameKind.cell) else(n,k)).lookup x=some .free
 |[],_,h=>by simp at h
 |(n,k)::r,x,h=>by
  have ih:= @z0Q env r x
  rw[List.map_cons]
  show List.lookup x ((if(k==NameKind.free&&env.scope.kind== .function&&env.kindOf n==some .cell)=true then(n,NameKind.cell) else(n,k))::_)=_\/List.lookup x ((if(k==NameKind.free&&env.scope.kind== .function&&env.kindOf n==some .cell)=true then(n,NameKind.cell) else(n,k))::_)=_
  cases hx:x==n with
  |true=>
   simp only[List.lookup_cons,hx] at h
   cases h
   by_cases hc:(NameKind.free==NameKind.free&&env.scope.kind== .function&&env.kindOf n==some .cell)=true
   ·rw[if_pos hc];left;simp only[List.lookup_cons,hx]
   ·rw[if_neg hc];right;simp only[List.lookup_cons,hx]
  |false=>
   simp only[List.lookup_cons,hx] at h
   by_cases hc:(k==NameKind.free&&env.scope.kind== .function&&env.kindOf n==some .cell)=true
   ·rw[if_pos hc];simp only[List.lookup_cons,hx];exact ih h
   ·rw[if_neg hc];simp only[List.lookup_cons,hx];exact ih h
theorem z1f{env:Env}: ∀{names:List (Str×NameKind)} {x:Str},((names.map fun(n,k)=>if(k==NameKind.free&&env.scope.kind== .function&&env.kindOf n==some .cell) then(n,NameKind.cell) else(n,k)).lookup x=some .cell\/
 (names.map fun(n,k)=>if(k==NameKind.free&&env.scope.kind== .function&&env.kindOf n==some .cell) then(n,NameKind.cell) else(n,k)).lookup x=some .free)->names.lookup x=some .free\/names.lookup x=some .cell
 |[],_,h=>by simp at h
 |(n,k)::r,x,h=>by
  have ih:= @z1f env r x
  rw[List.map_cons] at h
  have h:List.lookup x ((if(k==NameKind.free&&env.scope.kind== .function&&env.kindOf n==some .cell)=true then(n,NameKind.cell) else(n,k))::_)=_\/List.lookup x ((if(k==NameKind.free&&env.scope.kind== .function&&env.kindOf n==some .cell)=true then(n,NameKind.cell) else(n,k))::_)=_:=h
  cases hx:x==n with
  |true=>
   simp only[List.lookup_cons,hx]
   by_cases hc:(k==NameKind.free&&env.scope.kind== .function&&env.kindOf n==some .cell)=true
   ·have:k= .free:=by
     simp only[Bool.and_eq_true,beq_iff_eq] at hc
     exact hc.1.1
    subst this
    exact .inl rfl
   ·rw[if_neg hc] at h
    simp only[List.lookup_cons,hx] at h
    exact h.symm
  |false=>
   simp only[List.lookup_cons,hx]
   refine ih ?_
   by_cases hc:(k==NameKind.free&&env.scope.kind== .function&&env.kindOf n==some .cell)=true
   ·rw[if_pos hc] at h;simp only[List.lookup_cons,hx] at h;exact h
   ·rw[if_neg hc] at h;simp only[List.lookup_cons,hx] at h;exact h
structure z0i(osc sc:Scope)(own frees N:List Str)(ix:List Nat):Prop where
 kind:sc.kind= .function
 nocell: ∀y∈sc.names,y.2≠ .cell
 names: ∀y∈sc.names,y.2= .local->sc.names.lookup y.1=some .local
 fr: ∀y∈sc.names,y.2= .free->osc.names.lookup y.1=some .cell\/osc.names.lookup y.1=some .free
 nd:(own++frees).Nodup
 frl: ∀x∈frees,sc.names.lookup x=some .free
 ixs:ix.map (fun i=>N[i]?)=frees.map some
noncomputable def z04(X:Cx)(scope:Scope)(own frees:List Str)(cl:List (Str×Addr))(C:Addr)(s₀:Shared)(H₀:Hp)(fp:List Addr)(pn:List (Addr×Obj)):Cx:=
 {X with N:=own++frees,s₀:=s₀,H₀:=H₀,env:=compEnvC scope cl C X.env,outer:=X.stack,stack:=X.stack,ex:=fp,fn:=fun _=>false,pn:=pn,xe:=fun _ _=>False}
noncomputable def z0R(k:Nat)(ix:List Nat)(σ:St):St:=List.replicate k none++ix.map fun i=>(σ[i]?).getD none
section
variable{X:Cx}{tg iter elt:Expr}{pos:Pos}{scope:Scope}{own frees:List Str}{ix:List Nat}{wi:TI}{g:TG}{te:TE}
theorem z5T(k:Nat)(ix:List Nat)(σ:St):(z0R k ix σ).length=k+ix.length:=by
 unfold z0R
 simp
theorem z1F{pins:List (Addr×Obj)}{σ:St}{H:Hp}{s s1:Shared}{fp:List Addr}(S:z0i X.env.scope scope own frees X.N ix)(I:Inv X pins σ H s)(hf: ∀b∈fp,FpOk X pins H b)(hb: ∀b∈fp,b<s.heap.objs.size)
 (ho:s1.os=s.os) (hg:s1.gens=s.gens) (hk: ∀b o,s.heap.get? b=some o->s1.heap.get? b=some o) (hn:s1.heap.Ns s.heap.objs.size (fun _=>none)):
 Inv (z04 X scope own frees (z0o X.env scope.names []) s.heap.objs.size s H fp (X.pn++pins)) [] (z0R own.length ix σ) H s1:=by
 have clos: ∀x c,(z0o X.env scope.names []).lookup x=some c->X.env.cells.lookup x=some c/\(x,NameKind.free)∈scope.names:=fun x c h=>by
  rcases z1E _ _ h with q|q
  ·exact nomatch q
  ·exact q
 have hlen:ix.length=frees.length:=by
  have:=congrArg List.length S.ixs
  simpa using this
 have cne: ∀x c,X.env.cells.lookup x=some c->c<s.heap.objs.size:=fun x c e=>by
  obtain⟨v,o,q,_⟩:=I.cell x c e
  exact Heap.lt_size q
 refine⟨⟨I.ok.mod,S.kind,I.ok.glob,I.ok.blt,Nat.le_refl _,fun x y c h1 h2=>I.ok.inj x y c (clos x c h1).1 (clos y c h2).1,fun x hx=> ?_,fun x c z=>Bool.noConfusion z,I.ok.hd,I.ok.frames, .inl rfl,fun b z=>⟨Nat.ne_of_lt (hb b z),fun x c e=>(hf b z).2.2.2.2.1 x c (clos x c e).1⟩,I.bs,
  Nat.le_trans I.ok.bsz I.sz,fun b o e z=> ?_,fun b z=> ?_,I.stack,I.stkFree⟩,ho, ?_,Un.kept hk,⟨_,hn,fun i x v h1 h2 h3=> ?_⟩,fun x c e=> ?_,I.fresh,fun x c e=>I.freeC x c (clos x c e).1,fun p hp=> ?_,I.hok.kept hk, ?_⟩
 ·have hx:(relabel scope X.env).names.lookup x=some .cell\/(relabel scope X.env).names.lookup x=some .free:=hx
  rcases z1f hx with q|q
  ·have m:(x,NameKind.free)∈scope.names:=PySem.mem_of_lookup q
   obtain⟨c,hc⟩:=I.ok.has x (S.fr _ m rfl)
   exact z2E _ _ (.inr ⟨m,c,hc⟩)
  ·exact absurd rfl (S.nocell _ (PySem.mem_of_lookup q))
 ·rcases(hf b z).2.2.2.1 with q|q
  ·exact I.ok.noex b o e q
  ·exact absurd (Heap.lt_size (I.ok.bs b o e).1) (Nat.not_lt.mpr q)
 ·intro q
  rcases List.mem_cons.mp (I.stkSub b q) with r|r
  ·exact(hf b z).2.1 r
  ·exact(hf b z).2.2.1 r
 ·rw[hg];exact I.bare
 ·have h2:(z0R own.length ix σ)[i]? =some (some v):=h2
  have h1:(own++frees)[i]? =some x:=h1
  unfold z0R at h2
  by_cases hi:i<own.length
  ·rw[List.getElem?_append_left (by simpa using hi),List.getElem?_replicate] at h2
   rw[if_pos hi] at h2
   cases h2
  ·have hi:own.length<=i:=Nat.not_lt.mp hi
   rw[List.getElem?_append_right (by simpa using hi),List.length_replicate,List.getElem?_map] at h2
   rw[List.getElem?_append_right hi] at h1
   cases e:ix[i -own.length]? with
   |none=>rw[e] at h2;cases h2
   |some j=>
    rw[e] at h2
    have h2:some ((σ[j]?).getD none)=some (some v):=h2
    have hσ:σ[j]? =some (some v):=by
     cases q:σ[j]? with
     |none=>rw[q] at h2;cases h2
     |some z=>rw[q] at h2;exact h2
    have hN:X.N[j]? =some x:=by
     have:=congrArg (fun l:List (Option Str)=>l[i -own.length]?) S.ixs
     simp only[List.getElem?_map,e,h1,Option.map_some] at this
     exact Option.some.inj this
    have mf:x∈frees:=List.mem_of_getElem? h1
    have lf:=S.frl x mf
    have m:(x,NameKind.free)∈scope.names:=PySem.mem_of_lookup lf
    have hos:=S.fr _ m rfl
    obtain⟨mm,hns,hl⟩:=I.loc
    obtain⟨u,ru,look⟩:=hl j x v hN hσ (hos.elim (fun q=> .inr (.inl q)) fun q=> .inr (.inr q))
    refine⟨u,ru, ?_⟩
    rcases look with⟨kk,_⟩|⟨kk,c,hc,ic⟩
    ·have kk:X.env.scope.names.lookup x=some .local:=kk
     have hos:X.env.scope.names.lookup x=some .cell\/X.env.scope.names.lookup x=some .free:=hos
     rw[kk] at hos
     rcases hos with q|q<;>cases q
    ·obtain⟨c',hc'⟩:=z2E (env:=X.env) scope.names [] (.inr ⟨m,c,hc⟩)
     have e2:=(clos x c' hc').1
     rw[hc] at e2
     cases e2
     refine .inr ⟨z0Q lf,c,hc', ?_⟩
     obtain⟨o,q1,q2⟩:=ic
     exact⟨o,hk _ _ q1,q2⟩
 ·obtain⟨v,o,q1,q2⟩:=I.cell x c (clos x c e).1
  exact⟨v,o,hk _ _ q1,q2⟩
 ·have hp:p∈(X.pn++pins)++[]:=hp
  rw[List.append_nil] at hp
  obtain⟨e,n,ne,nf,d⟩:=I.pin p hp
  refine⟨hk _ _ e,n,Nat.ne_of_lt (Heap.lt_size e),fun q=> ?_,d⟩
  rcases List.mem_cons.mp (I.stkSub p.1 q) with r|r
  ·exact ne r
  ·exact nf r
 ·show(z0R own.length ix σ).length=(own++frees).length
  rw[z5T,hlen,List.length_append]
theorem z2s{pins pins':List (Addr×Obj)}{σ σ':St}{H H':Hp}{s s':Shared}{h':Heap}{fp:List Addr}{cl:List (Str×Addr)}{C:Addr}(I:Inv X pins σ H s)(hf: ∀b∈fp,FpOk X pins H b)(hC:s.heap.objs.size<=C)
 (J:Inv (z04 X scope own frees cl C s H fp (X.pn++pins)) pins' σ' H' s') (hs:Heap.SameBut C s'.heap h'):Inv X pins σ H' {s' with heap:=h'}:=by
 have nC: ∀b,b<s.heap.objs.size->b≠C:=fun b q e=>by subst e;exact absurd q (Nat.not_lt.mpr hC)
 refine I.call' (ch:=fp) J.os ⟨fun b o e n hb hx=> ?_,fun b o e n hb hx=> ?_,J.base.free,fun b o e hx=> ?_,J.base.tups,J.base.frzs,J.base.tbls⟩ ?_ J.bare fun b z=>⟨(hf b z).2.2.2.1,(hf b z).2.1,(hf b z).2.2.2.2.1,(hf b z).2.2.2.2.2⟩
 ·exact(hs.2 b (nC b (Heap.lt_size e))).trans (J.base.keep b o e n hb hx)
 ·obtain⟨sl,q⟩:=J.base.slot b o e n hb hx
  exact⟨sl,(hs.2 b (nC b (Heap.lt_size e))).trans q⟩
 ·obtain⟨o',q⟩:=J.base.there b o e hx
  exact⟨o',(hs.2 b (nC b (Heap.lt_size e))).trans q⟩
 ·intro a o e
  refine(J.hok a o e).stay (fun b u hbu q=> ?_) (fun _ q=>q) fun _ _ q=>q
  refine(hs.2 b ?_).trans q
  intro eb
  subst eb
  have hfree:H' b=none:=J.free
  rcases hbu with rfl|z
  ·rw[e] at hfree;cases hfree
  ·rw[z] at hfree;cases hfree
end
end L2
namespace PySem
end PySem
namespace L2
open PySem PySem.Spec PyProof.Rows
noncomputable def z1g(osc sc:Scope)(own frees N:List Str)(ix:List Nat):Bool:=
 decide (sc.kind= .function)&&sc.names.all (fun y=>decide (y.2≠ .cell))&&sc.names.all (fun y=>decide (y.2= .local->sc.names.lookup y.1=some .local))&&
  sc.names.all (fun y=>decide (y.2= .free->osc.names.lookup y.1=some .cell\/osc.names.lookup y.1=some .free))&&decide (own++frees).Nodup&&frees.all (fun x=>decide (sc.names.lookup x=some .free))&&
  decide (ix.map (fun i=>N[i]?)=frees.map some)
theorem z1g.sc{osc sc:Scope}{own frees N:List Str}{ix:List Nat}(h:z1g osc sc own frees N ix=true):z0i osc sc own frees N ix:=by
 unfold z1g at h
 simp only[Bool.and_eq_true,List.all_eq_true,decide_eq_true_eq] at h
 obtain⟨⟨⟨⟨⟨⟨h1,h2⟩,h3⟩,h4⟩,h5⟩,h6⟩,h7⟩:=h
 exact⟨h1,h2,h3,h4,h5,h6,h7⟩
theorem Same.new{H:Hp}{p:Addr}(o:HO)(h:H p=none):Same H (upd H p o):=fun x u e=>by rw[z07 (z0t e h)];exact e
noncomputable def dT(ns:List Int):PyData:= .tuple (ns.map PyData.int)
theorem map_take{α β:Type}(f:α->β)(xs:List α)(k:Nat):(xs.map f).take k=(xs.take k).map f:=by rw[List.map_take]
theorem map_drop{α β:Type}(f:α->β)(xs:List α)(k:Nat):(xs.map f).drop k=(xs.drop k).map f:=by rw[List.map_drop]
section
variable{X:Cx}{e st:Expr}{te:TE}{p2 pos:Pos}
noncomputable def tRev(K:W.Frag)(te:TE):TE:=fun σ H Q=>te σ H fun x H1=> ∃a xs,x= .ref a/\SqL K H1 a xs/\∀p,H1 p=none->Q (.ref p) (upd H1 p (.lst xs.reverse))
theorem zbL(hst:PO X (some st) (z8f (tUn (rU fun i=>V.int (-i)) (tC (.int 1)))))(he:PE X e te):PE X (.Subscript e (.Slice none none (some st) p2) pos) (tRev X.K te):=by
 intro pins s σ H Q I h
 refine Subscript_ (thn (he pins s σ H _ I h) fun v s1 ⟨x,H1,I1,r1,a,xs,ex,hx,q⟩=> ?_)
 subst ex
 cases r1
 refine wpAny_Slice ?_
 rw[evalPart_none]
 refine wpAny_pure (wpAny_pure ?_)
 refine thn (hst pins s1 σ H1 (fun o H'=>o=some (-1)/\H'=H1) I1 ⟨1,rfl,-1,rfl,rfl,rfl⟩) fun u s2 ⟨o,H2,I2,pu,eo,eH⟩=> ?_
 subst eo eH
 have I3:Inv X pins σ H2 {s2 with heap:=s2.heap.push {cls:= .type "slice",data:= .fields #[.none, .none,u]}}:=I2.kept (t':=s2.toks) fun b ob q=>Heap.get?_push_of_some _ q
 obtain⟨its,r,ht,hz⟩:=I3.list hx
 have hlen:=r.length
 refine tail_any (ops:=[.ref a, .ref s2.heap.objs.size]) ht.isList.typeIs slot_list_getitem.lookup ?_ (by with_unfolding_all rfl)
 refine wpAny_getItem_list_slice ht.isList (Heap.IsSliceOf.new ..) .none .none pu (by simp) ?_ (by rw[List.size_toArray]<;>lia)
 rw[W.krv_pick]
 refine⟨.ref _,_,I3.lnew (t':=s2.toks) (ys:=xs.reverse) (its:=its.reverse) (Vals.reverse r) (by rw[List.length_reverse];exact hz),rfl,q _ I3.fresh⟩
end
noncomputable def NewX(K:W.Frag)(H:Hp)(xs:List V)(Q:VK):Prop:= ∀p H',(H'=H/\H p=some (.tup xs))\/(H p=none/\H'=upd H p (.tup xs))->Q (.ref p) H'
theorem NewX.intro{K:W.Frag}{H:Hp}{xs:List V}{Q:VK}(h: ∀p H',H' p=some (.tup xs)->Same H H'->Q (.ref p) H'):NewX K H xs Q:=by
 intro p H' e
 rcases e with⟨rfl,s⟩|⟨n,rfl⟩
 ·exact h p H' s (Same.refl _)
 ·exact h p _ z0e (Same.new _ n)
section
variable{X:Cx}
noncomputable def rSlX(K:W.Frag):V->Option Int->Option Int->Hp->VK->Prop:=fun x lo hi H Q=> ∃a xs,x= .ref a/\H a=some (.tup xs)/\NewX K H (cutV xs lo hi) Q
theorem za4:SlR X (rSlX X.K):=by
 intro pins s σ H x v vl vu lo hi sl Q I rx hs pl pu h
 obtain⟨a,xs,rfl,hx0,q⟩:=h
 have hx:SqT X.K H a xs:=SqT.of hx0
 by_cases hw:HT.sIx xs.length 0 lo=0/\HT.sIx xs.length xs.length hi=xs.length
 ·cases rx
  obtain⟨its,r,ht,hz⟩:=I.tuple hx
  have hlen:its.toArray.size=xs.length:=by rw[List.size_toArray];exact r.length.symm
  refine⟨"tuple",_,PyProof.Rows.slot_tuple_getitem.lookup,ht.typeIs, ?_⟩
  refine HT.getItem_tuple_whole ht hs pl pu (by rw[hlen];exact hw) ⟨.ref a,H,I,rfl,q a H (.inl ⟨rfl, ?_⟩)⟩
  rw[z5S hw]
  exact hx0
 ·exact zbB pins s σ H _ v vl vu lo hi sl Q I rx hs pl pu ⟨a,xs,rfl,hx,hw,fun p hp=>q p _ (.inr ⟨hp,rfl⟩)⟩
noncomputable def za5(K:W.Frag):R2:=fun x y H Q=> ∃a b xs ys,x= .ref a/\y= .ref b/\H a=some (.tup xs)/\H b=some (.tup ys)/\xs.length+ys.length<=sizeLine/\NewX K H (xs++ys) Q
theorem za6:OpR X (binaryOp .Add) (za5 X.K):=by
 intro pins s σ H x y v u Q I rx ry h
 obtain⟨a,b,xs,ys,rfl,rfl,ha0,hb0,hz,q⟩:=h
 have ha:SqT X.K H a xs:=SqT.of ha0
 have hb:SqT X.K H b ys:=SqT.of hb0
 by_cases hx:xs=[]
 ·subst hx
  cases rx
  cases ry
  obtain⟨its,r1,p1,_⟩:=I.tuple ha
  obtain⟨its2,r2,p2,_⟩:=I.tuple hb
  have e0:its=[]:=(Vals.nil_iff r1).mpr rfl
  subst e0
  obtain⟨⟨cls,dd,data,sl⟩,ho,hc,n,hd⟩:=id p1
  obtain⟨⟨cls2,dd2,data2,sl2⟩,ho2,hc2,n2,hd2⟩:=id p2
  simp only at hc hd hc2 hd2
  subst hc hd hc2 hd2
  exact concat_meets ⟨_,ho,rfl⟩ ⟨_,ho2,rfl⟩ noFill_tuple_add seq_tuple_add PySem.F.slot_tuple_add PySem.F.entry_tuple_add (PySem.F.args_tuple_add_2 _ _)
   (tuple_addW0 a b _ _ n n2 dd dd2 sl sl2 (by simp)) ⟨ho,ho2, .ref b,H,I,rfl,q b H (.inl ⟨rfl,hb0⟩)⟩
 ·refine z9V pins s σ H _ _ v u Q I rx ry ⟨a,b,xs,ys,rfl,rfl,ha,hb,hx,hz,fun e=> ?_,fun _ p hp=>q p _ (.inr ⟨hp,rfl⟩)⟩
  refine q a H (.inl ⟨rfl, ?_⟩)
  rw[e,List.append_nil]
  exact ha0
theorem z6F:CallR X (.type "tuple") (fun xs H Q=> ∃(p:Addr) (ys:List V),xs=[.ref p]/\(SqL X.K H p ys\/H p=some (.tup ys))/\NewX X.K H ys Q):=by
 intro pins s σ H xs us Q I r h
 obtain⟨p,ys,rfl,hs,q⟩:=h
 refine z3v pins s σ H _ us Q I r ⟨p,ys,rfl, ?_⟩
 rcases hs with hs|hs
 ·exact .inl ⟨hs,fun l hl=>q l _ (.inr ⟨hl,rfl⟩)⟩
 ·exact .inr ⟨SqT.of hs,q p H (.inl ⟨rfl,hs⟩)⟩
end
end L2
namespace PyProof.Rows
open PySem
section
variable{prog:Program}{w:World}{A:Around}{E:Value->Shared->Prop}{s:Shared}
theorem z2F{h h':Heap}{t:Addr}{items:Array Value}(hl:h.IsList t items)(k: ∀o,h.get? t=some o->h'.get? t=some o):h'.IsList t items:=by
 obtain⟨o,ho,hc,n,hd⟩:=hl
 exact⟨o,k o ho,hc,n,hd⟩
theorem z4c{it t:Addr}{items:Array Value}(hne:t≠it): ∀(n i:Nat) (s:Shared) (Q:List Value->Shared->Prop),s.heap.IsListIter it t i->s.heap.IsList t items->i+n<=items.size->
 (∀h',h'.IsListIter it t (i+n)->Heap.SameBut it s.heap h'->Q ((items.toList.drop i).take n) {s with heap:=h'})->wpAny (model prog w) A (draw (.ref it) n) Q E s
 |0,i,s,Q,hit,_,_,hQ=>by
  show wpAny _ _ (pure []) Q E s
  exact wpAny_pure (by simpa using hQ s.heap hit (Heap.SameBut.refl ..))
 |n+1,i,s,Q,hit,ht,hle,hQ=>by
  have hlt:i<items.size:=by lia
  show wpAny _ _ (pyNext (.ref it)>>=_) Q E s
  refine wpAny_bind (wpAny_pyNext_list_item hit ht (x:=items[i]) (by simp[hlt]) fun h₁ hit₁ hs₁=> ?_)
  refine wpAny_bind (wpAny_holding (z4c hne n (i+1) _ _ hit₁ (z2F ht fun o e=>(hs₁.2 t hne).trans e) (by lia) fun h₂ hit₂ hs₂=>wpAny_pure ?_))
  have hd:items.toList.drop i=items[i]::items.toList.drop (i+1):=by simp[List.drop_eq_getElem_cons,hlt]
  have:=hQ h₂ (by rw[show i+(n+1)=i+1+n by lia];exact hit₂) (hs₁.trans hs₂)
  rw[hd,List.take_succ_cons] at this
  exact this
theorem z2q{t:Addr}{items:Array Value}{Q:List Value->Shared->Prop}(hh:A.handled=none)(ht:s.heap.IsList t items)
 (hQ: ∀h',Heap.ExtBut s.heap.objs.size s.heap h'->Q items.toList {s with heap:=h'}):wpAny (model prog w) A (unpackItems (.ref t) items.size none) Q E s:=by
 have hlt:t≠s.heap.objs.size:=by obtain⟨o,ho,_⟩:=ht;exact Nat.ne_of_lt (Heap.lt_size ho)
 have hT:s.TypeIs (.ref t) "list" :=by obtain⟨o,ho,hc,_⟩:=ht;exact⟨o,ho,hc⟩
 unfold unpackItems
 refine wpAny_bind ?_
 ·unfold notIterableAtAll
  refine wpAny_bind (wpAny_specialOf hT PySem.F.slot_list_iter.lookup ?_)
  refine wpAny_pure ?_
  simp only[Bool.false_eq_true,if_false]
  refine wpAny_bind (wpAny_holding (wpAny_pyIter_list ht ?_))
  refine wpAny_bind (wpAny_holding (z4c hlt items.size 0 _ _ ⟨_,Heap.get?_push_size _ rfl,rfl,rfl⟩ (z2F ht fun o e=>Heap.get?_push_of_some _ e) (by lia) fun h₁ hit₁ hs₁=> ?_))
  have hall:List.take items.size (List.drop 0 items.toList)=items.toList:=by
   rw[List.drop_zero];exact List.take_of_length_le (by simp)
  rw[hall]
  rw[if_neg (by simp)]
  have ht₁:h₁.IsList t items:=z2F ht fun o e=>(hs₁.2 t hlt).trans (Heap.get?_push_of_some _ e)
  refine wpAny_bind (wpAny_holding (wpAny_pyNext_list_end hh hit₁ ht₁ (by simp) fun h₂ he₂=> ?_))
  simp only[Option.isSome_none,Bool.false_eq_true,if_false]
  refine wpAny_pure (hQ h₂ fun b o hb e=>he₂ b o hb (hs₁.extBut b o hb (Heap.get?_push_of_some _ e)))
theorem z28{env:Env}{elts:List Expr}{x1}{pos:Pos}{t:Addr}{items:Array Value}{Q:Unit->Shared->Prop}(hh:A.handled=none)(ht:s.heap.IsList t items)
 (hn:(assignEach elts env).length=items.size) (hstar:(assignEach elts env).findIdx? (·.1)=none)
 (h: ∀h',Heap.ExtBut s.heap.objs.size s.heap h'->wpAny (model prog w) A (assignInOrder ((assignEach elts env).map (·.2)) items.toList) Q E {s with heap:=h'}):
 wpAny (model prog w) A (assign (.Tuple elts x1 pos) env (.ref t)) Q E s:=by
 rw[assign_Tuple]
 refine wpAny_bind (wpAny_standAt ?_)
 unfold unpack
 rw[hn,hstar]
 exact wpAny_bind (wpAny_holding (z2q hh ht h))
end
end PyProof.Rows
namespace L2
open PySem PySem.Spec PyProof.Rows
section
variable{X:Cx}{pos:Pos}
noncomputable def gSeq(K:W.Frag)(n:Nat)(t:TGs):TG:=fun v σ H Q=> ∃a xs,v= .ref a/\(SqT K H a xs\/SqL K H a xs)/\xs.length=n/\t xs σ H Q
theorem zbM{es:List Expr}{k:Nat}{t:TGs}{n:Nat}(hc:X.calm=true)(h:PGs X es t)
 (hn:(assignEach es X.env).length=n:=by rfl) (hst:(assignEach es X.env).findIdx? (·.1)=none:=by rfl):PG X (.Tuple es k pos) (gSeq X.K n t):=by
 intro pins s σ H v u Q I r hw
 obtain⟨a,xs,e1,hq|hq,hl,hw⟩:=hw
 ·exact zbn hc h hn hst pins s σ H v u Q I r ⟨a,xs,e1,hq,hl,hw⟩
 ·subst e1
  cases r
  obtain⟨its,rv,ht,hz⟩:=I.list hq
  refine z28 (I.ok.hd hc) ht.isList (by simp[hn,<-hl,rv.length]) hst fun h' hx=> ?_
  have I1:Inv X pins σ H {s with heap:=h'}:=I.kept (t':=s.toks) fun b o e=>hx b o (Nat.ne_of_lt (Heap.lt_size e)) e
  exact h pins _ σ H xs _ Q I1 (by simpa using rv) hw
end
theorem z2r:fillsNumberSlot (.type "tuple") "mul" =pure false:=
 PySem.fillsNumberSlot_seq (id:= "tuple.__mul__") (r:=some (.builtin "tuple.__rmul__")) F.slot_tuple_mul.lookup (by decide+kernel) F.slot_tuple_rmul.lookup (by decide+kernel)
theorem z4d:seqRepeat? (.type "tuple")=pure (some (.builtin "tuple.__mul__")):=by
 unfold seqRepeat?
 rw[PySem.seqSlot_of (T:= "tuple") (name:= "__mul__") (id:= "tuple.__mul__") F.slot_tuple_mul.lookup (by decide+kernel),PySem.seqSlot_of (T:= "tuple") (name:= "__rmul__") (id:= "tuple.__rmul__") F.slot_tuple_rmul.lookup (by decide+kernel)]
 rfl
theorem z39(a:Int)(t:Tok)(l:Addr)(items:Array Value)(n:Nat)(dd:Option Addr)(sl:Array (Option Value)):
 Meets (Builtin.«int.__rmul__» ⟨[.int a t, .ref l],[]⟩) (fun _ R s=>s.heap.get? l=some {cls:= .type "tuple",dict:=dd,data:= .seq items n,slots:=sl}/\R (.ok (.ret Value.notImplemented)) s):=
 .of_wp fun prog w A R s h=>by obtain⟨hp,g,d,tk,os⟩:=s;obtain⟨hl,h⟩:=h;wp_walk;exact⟨_,rfl,h⟩
theorem z5U(l:Addr)(items:Array Value)(n:Nat)(dd:Option Addr)(sl:Array (Option Value))(x:Int)(u:Tok)(hc0: ¬(decide (x< -(2^63))||decide (x≥2^63))=true)(hc1: ¬(items.isEmpty||x==1)=true)(hc2: ¬(decide (x<=0)||items.isEmpty)=true)(hc3: ¬((items.size:Int)*x>(2^63 - 1)/8))(hc4: ¬Builtin.Tuple.tupleTooMany ((items.size:Int)*x)=true)(hsz:(List.foldl (fun x1 x2=>x1++x2) #[] (List.replicate x.toNat items)).size<=sizeLine):
 Meets (Builtin.«tuple.__mul__» ⟨[.ref l, .int x u],[]⟩) (fun _ R s=>s.heap.get? l=some {cls:= .type "tuple",dict:=dd,data:= .seq items n,slots:=sl}/\R (.ok (.ret (Value.ref s.heap.objs.size))) {s with heap:=s.heap.push {cls:=Value.type "tuple",data:=Data.seq (List.foldl (fun x1 x2=>x1++x2) #[] (List.replicate x.toNat items))},toks:=s.toks}):=
 .of_wp fun prog w A R s h=>by
  obtain⟨hp,g,d,tk,os⟩:=s;obtain⟨hl,h⟩:=h
  have f1:=AutoSeq1.idx_int;have f2:=AutoSeq1.sub_tuple_tuple
  wp_walk using AutoSeq1.wpAny_loadPart' hl
  rw[if_neg hc0]
  wp_walk using AutoSeq1.wpAny_loadPart' hl
  rw[if_neg hc3]
  wp_walk using AutoSeq1.wpAny_loadPart' hl
  exact⟨_,rfl,h⟩
section
variable{X:Cx}
noncomputable def za7(K:W.Frag):R2:=fun x y H Q=> ∃a k xs,x= .ref a/\y= .int k/\SqT K H a xs/\0<xs.length/\2<=k/\k<2^63/\xs.length*k.toNat<=sizeLine/\
 ∀p,H p=none->Q (.ref p) (upd H p (.tup (List.replicate k.toNat xs).flatten))
theorem za8:OpR X (binaryOp .Mult) (za7 X.K):=by
 intro pins s σ H x y v u Q I rx ry h
 obtain⟨a,k,xs,rfl,rfl,ha,h0,h1,h2,hz,q⟩:=h
 cases rx
 obtain⟨t,rfl⟩:=ry
 obtain⟨its,r,p1,_⟩:=I.tuple ha
 obtain⟨⟨cls,dd,data,sl⟩,e,hc,n,hd⟩:=id p1
 simp only at hc hd
 subst hc hd
 have hlen:its.length=xs.length:=r.length.symm
 have hne:its.toArray.isEmpty=false:=by
  cases its with
  |nil=>simp at hlen;lia
  |cons a r=>simp
 have hnew:List.foldl (fun x1 x2=>x1++x2) #[] (List.replicate k.toNat its.toArray)=(List.replicate k.toNat its).flatten.toArray:=by
  have:=z2B its k.toNat []
  rw[List.nil_append] at this
  exact this
 have hl2:((its.toArray.size:Nat):Int)*k=((xs.length*k.toNat:Nat):Int):=by
  rw[List.size_toArray,hlen,Int.natCast_mul,Int.toNat_of_nonneg (by lia)]
 have hs:(sizeLine:Nat)=16777216:=rfl
 refine wpAny_binaryOp_repeat_ref (T:= "tuple") (U:= "int") (by decide) ⟨_,e,rfl⟩ (fun s'=>typeIs_int s' k t) z2r F.fills_int_mul F.slot_int_rmul z4d F.slot_int_index.lookup
  (call_meets F.slot_int_rmul (typeIs_int s k t) F.entry_int_rmul (F.args_int_rmul_2 _ _) (z39 k t a its.toArray n dd sl)
   ⟨e,rfl,⟨_,e,rfl⟩,call_meets F.slot_tuple_mul ⟨_,e,rfl⟩ F.entry_tuple_mul (F.args_tuple_mul_2 _ _) (z5U a its.toArray n dd sl k t (by simp;lia) (by rw[hne];simp;lia) (by rw[hne];simp;lia) (by rw[hl2];clear hl2;generalize xs.length*k.toNat=m at hz⊢;lia) (by rw[hl2];clear hl2;generalize xs.length*k.toNat=m at hz⊢;unfold Builtin.Tuple.tupleTooMany;rw[decide_eq_true_eq];lia) (by rw[hnew,List.size_toArray,z4K,hlen,Nat.mul_comm];exact hz)) ⟨e, ?_⟩⟩)
 rw[hnew]
 refine⟨.ref s.heap.objs.size,_,I.laid (t':=s.toks) (o:= .tup (List.replicate k.toNat xs).flatten) (fun b ob q=>Heap.get?_push_of_some _ q) (Nat.le_refl _) ?_,rfl,q _ (I.hok.fresh (Nat.le_refl _))⟩
 exact⟨by rw[z4K,Nat.mul_comm];exact hz,_,r.rep k.toNat,IsTup.new _ _⟩
end
end L2
namespace Mi
open PySem L2
inductive D where
 |non|bool (b:Bool)|int (i:Int)|str (x:Str)
 |tup (ds:List D)|ro (ds:List D)|lst (l:Nat) (ds:List D)
 |dct (l:Nat) (ks vs:List D)|obj (l:Nat) (c:Str) (ns:List Str) (vs:List D)
 |exc (c:Str)|fn (c:Str)|fdc (ks vs:List D)
deriving Inhabited
mutual
noncomputable def labs:D->List Nat
 | .tup ds=>labsL ds
 | .ro ds=>labsL ds
 | .fdc _ vs=>labsL vs
 | .lst l ds=>l::labsL ds
 | .dct l ks vs=>l::(labsL ks++labsL vs)
 | .obj l _ _ vs=>l::labsL vs
 | .non=>[]| .bool _=>[]| .int _=>[]| .str _=>[]| .exc _=>[]| .fn _=>[]
noncomputable def labsL:List D->List Nat
 |[]=>[]
 |d::ds=>labs d++labsL ds
end
noncomputable def z05:List (Option D)->List Nat
 |[]=>[]
 |none::r=>z05 r
 |some d::r=>labs d++z05 r
structure Gx where
 K:W.Frag
 cl:Str->Option Addr
 ci: ∀c c' a,cl c=some a->cl c'=some a->c=c'
 ck: ∀c a,cl c=some a->∃o,K.lookup a=some o/\∀its n,o.data≠ .seq its n
noncomputable def keyD:Key->D
 | .inl i=> .int i
 | .inr x=> .str x
noncomputable def nkD:Key⊕List Key->D
 | .inl k=>keyD k
 | .inr ks=> .tup (ks.map keyD)
noncomputable def dkD(k:NK):D:= .tup (k.map nkD)
noncomputable def RoL(K:W.Frag)(H:Hp)(a:Addr)(xs:List V):Prop:=
 (∃o,H a=some (.frz o (.lst xs)))\/∃(o:Obj) (its:Array Value) (n:Nat),K.lookup a=some o/\o.cls= .type "list" /\o.dict=none/\o.data= .seq its n/\its.size<=sizeLine/\Vals xs its.toList
theorem RoL.sq{K:W.Frag}{H:Hp}{a:Addr}{xs:List V}(h:RoL K H a xs):SqL K H a xs:=by
 rcases h with⟨o,h⟩|h
 ·exact .inl (.inr ⟨o,h⟩)
 ·exact .inr h
mutual
noncomputable def RD(G:Gx)(ρ:Nat->Addr)(H:Hp):D->V->Prop
 | .non,v=>v= .non
 | .bool b,v=>v= .bl b
 | .int i,v=>v= .int i
 | .str x,v=>v= .str x
 | .exc c,v=> ∃a o C,v= .ref a/\G.cl c=some C/\o.cls= .ref C/\(∃vs,o.data= .fields vs)/\H a=some (.frz o (.ext fun _=>True))
 | .fn c,v=> ∃a,v= .ref a/\G.cl c=some a
 | .tup ds,v=> ∃a xs,v= .ref a/\H a=some (.tup xs)/\RDs G ρ H ds xs
 | .ro ds,v=> ∃a xs,v= .ref a/\RoL G.K H a xs/\RDs G ρ H ds xs
 | .fdc ks vs,v=> ∃(a:Addr) (o:Obj) (kvs:List (NK×V)),v= .ref a/\H a=some (.frz o (.dT kvs))/\ks=kvs.map (fun p=>dkD p.1)/\RDs G ρ H vs (kvs.map (·.2))
 | .lst l ds,v=>v= .ref (ρ l)/\∃xs,H (ρ l)=some (.lst xs)/\RDs G ρ H ds xs
 | .dct l ks vs,v=>v= .ref (ρ l)/\((∃kvs:List (Key×V),H (ρ l)=some (.dK kvs)/\ks=D.non::kvs.map (fun p=>keyD p.1)/\RDs G ρ H vs (kvs.map (·.2)))\/
  (∃kvs:List (NK×V),H (ρ l)=some (.dT kvs)/\ks=kvs.map (fun p=>dkD p.1)/\RDs G ρ H vs (kvs.map (·.2))))
 | .obj l c ns vs,v=>v= .ref (ρ l)/\∃C dx fs,G.cl c=some C/\H (ρ l)=some (.ins C dx fs)/\ns=fs.map (·.1)/\RDs G ρ H vs (fs.map (·.2))
noncomputable def RDs(G:Gx)(ρ:Nat->Addr)(H:Hp):List D->List V->Prop
 |[],xs=>xs=[]
 |d::ds,xs=> ∃x r,xs=x::r/\RD G ρ H d x/\RDs G ρ H ds r
end
structure z0N(H H':Hp):Prop where
 t: ∀b xs,H b=some (.tup xs)->H' b=some (.tup xs)
 f: ∀b o u,H b=some (.frz o u)->H' b=some (.frz o u)
theorem z0N.refl(H:Hp):z0N H H:=⟨fun _ _ h=>h,fun _ _ _ h=>h⟩
theorem z0N.of{H H':Hp}(h:Same H H'):z0N H H':=⟨fun _ _ e=>h _ _ e,fun _ _ _ e=>h _ _ e⟩
theorem z0N.ro{K:W.Frag}{H H':Hp}(t:z0N H H'){a:Addr}{xs:List V}(h:RoL K H a xs):RoL K H' a xs:=by
 rcases h with⟨o,h⟩|h
 ·exact .inl ⟨o,t.f _ _ _ h⟩
 ·exact .inr h
section
variable{G:Gx}{ρ ρ':Nat->Addr}{H H':Hp}
mutual
theorem RD.stay(ts:z0N H H'): ∀(t:D) (v:V),RD G ρ H t v->(∀l∈labs t,ρ' l=ρ l/\∀o,H (ρ l)=some o->H' (ρ l)=some o)->RD G ρ' H' t v
 | .non,v,h,_=>by simp only[RD] at h⊢;exact h
 | .bool b,v,h,_=>by simp only[RD] at h⊢;exact h
 | .int b,v,h,_=>by simp only[RD] at h⊢;exact h
 | .str b,v,h,_=>by simp only[RD] at h⊢;exact h
 | .exc b,v,h,_=>by
  simp only[RD] at h⊢
  obtain⟨a,o,C,e,h1,h2,h3,h5⟩:=h
  exact⟨a,o,C,e,h1,h2,h3,ts.f _ _ _ h5⟩
 | .fn b,v,h,_=>by simp only[RD] at h⊢;exact h
 | .tup ds,v,h,hl=>by
  simp only[RD,labs] at h hl⊢
  obtain⟨a,xs,e,s,r⟩:=h
  exact⟨a,xs,e,ts.t _ _ s,RDs.stay ts ds xs r hl⟩
 | .ro ds,v,h,hl=>by
  simp only[RD,labs] at h hl⊢
  obtain⟨a,xs,e,s,r⟩:=h
  exact⟨a,xs,e,ts.ro s,RDs.stay ts ds xs r hl⟩
 | .fdc ks vs,v,h,hl=>by
  simp only[RD,labs] at h hl⊢
  obtain⟨a,o,kvs,e,s,s2,r⟩:=h
  exact⟨a,o,kvs,e,ts.f _ _ _ s,s2,RDs.stay ts vs _ r hl⟩
 | .lst l ds,v,h,hl=>by
  simp only[RD,labs] at h hl⊢
  obtain⟨e,xs,s,r⟩:=h
  obtain⟨e1,e2⟩:=hl l (List.mem_cons_self ..)
  rw[e1]
  exact⟨e,xs,e2 _ s,RDs.stay ts ds xs r fun k hk=>hl k (List.mem_cons_of_mem _ hk)⟩
 | .dct l ks vs,v,h,hl=>by
  simp only[RD,labs] at h hl⊢
  obtain⟨e,s⟩:=h
  obtain⟨e1,e2⟩:=hl l (List.mem_cons_self ..)
  rw[e1]
  refine⟨e, ?_⟩
  rcases s with⟨kvs,s,s2,r⟩|⟨kvs,s,s2,r⟩
  ·exact .inl ⟨kvs,e2 _ s,s2,RDs.stay ts vs _ r fun k hk=>hl k (List.mem_cons_of_mem _ (List.mem_append_right _ hk))⟩
  ·exact .inr ⟨kvs,e2 _ s,s2,RDs.stay ts vs _ r fun k hk=>hl k (List.mem_cons_of_mem _ (List.mem_append_right _ hk))⟩
 | .obj l c ns vs,v,h,hl=>by
  simp only[RD,labs] at h hl⊢
  obtain⟨e,C,dx,fs,hC,s,s2,r⟩:=h
  obtain⟨e1,e2⟩:=hl l (List.mem_cons_self ..)
  rw[e1]
  exact⟨e,C,dx,fs,hC,e2 _ s,s2,RDs.stay ts vs _ r fun k hk=>hl k (List.mem_cons_of_mem _ hk)⟩
theorem RDs.stay(ts:z0N H H'): ∀(t:List D) (v:List V),RDs G ρ H t v->(∀l∈labsL t,ρ' l=ρ l/\∀o,H (ρ l)=some o->H' (ρ l)=some o)->RDs G ρ' H' t v
 |[],v,h,_=>by simp only[RDs] at h⊢;exact h
 |d::ds,v,h,hl=>by
  simp only[RDs,labsL] at h hl⊢
  obtain⟨x,r,e,h1,h2⟩:=h
  exact⟨x,r,e,RD.stay ts d x h1 fun l hk=>hl l (List.mem_append_left _ hk),RDs.stay ts ds r h2 fun l hk=>hl l (List.mem_append_right _ hk)⟩
end
end
mutual
noncomputable def rp(f:Nat->Option D):D->D
 | .tup ds=> .tup (rpL f ds)
 | .ro ds=> .ro (rpL f ds)
 | .fdc ks vs=> .fdc ks (rpL f vs)
 | .lst l ds=>match f l with|some d=>d|none=> .lst l (rpL f ds)
 | .dct l ks vs=>match f l with|some d=>d|none=> .dct l ks (rpL f vs)
 | .obj l c ns vs=>match f l with|some d=>d|none=> .obj l c ns (rpL f vs)
 | .non=> .non| .bool b=> .bool b| .int i=> .int i| .str x=> .str x| .exc x=> .exc x| .fn x=> .fn x
noncomputable def rpL(f:Nat->Option D):List D->List D
 |[]=>[]
 |d::ds=>rp f d::rpL f ds
end
noncomputable def rpO(f:Nat->Option D):List (Option D)->List (Option D)
 |[]=>[]
 |none::r=>none::rpO f r
 |some d::r=>some (rp f d)::rpO f r
section
variable{f:Nat->Option D}
mutual
theorem za9: ∀t:D,(∀l∈labs t,f l=none)->rp f t=t
 | .non,_=>rfl
 | .bool b,_=>rfl
 | .int b,_=>rfl
 | .str b,_=>rfl
 | .exc b,_=>rfl
 | .fn b,_=>rfl
 | .tup ds,h=>by simp only[rp,labs] at h⊢;rw[rpL_id ds h]
 | .ro ds,h=>by simp only[rp,labs] at h⊢;rw[rpL_id ds h]
 | .fdc ks vs,h=>by simp only[rp,labs] at h⊢;rw[rpL_id vs h]
 | .lst l ds,h=>by
  simp only[rp,labs] at h⊢
  rw[h l (List.mem_cons_self ..),rpL_id ds fun k hk=>h k (List.mem_cons_of_mem _ hk)]
 | .dct l ks vs,h=>by
  simp only[rp,labs] at h⊢
  rw[h l (List.mem_cons_self ..),rpL_id vs fun k hk=>h k (List.mem_cons_of_mem _ (List.mem_append_right _ hk))]
 | .obj l c ns vs,h=>by
  simp only[rp,labs] at h⊢
  rw[h l (List.mem_cons_self ..),rpL_id vs fun k hk=>h k (List.mem_cons_of_mem _ hk)]
theorem rpL_id: ∀t:List D,(∀l∈labsL t,f l=none)->rpL f t=t
 |[],_=>rfl
 |d::ds,h=>by
  simp only[rpL,labsL] at h⊢
  rw[za9 d fun l hk=>h l (List.mem_append_left _ hk),rpL_id ds fun l hk=>h l (List.mem_append_right _ hk)]
end
theorem z6G: ∀t:List (Option D),(∀l∈z05 t,f l=none)->rpO f t=t
 |[],_=>rfl
 |none::r,h=>by simp only[rpO,z05] at h⊢;rw[z6G r h]
 |some d::r,h=>by
  simp only[rpO,z05] at h⊢
  rw[za9 d fun l hk=>h l (List.mem_append_left _ hk),z6G r fun l hk=>h l (List.mem_append_right _ hk)]
end
section
variable{G:Gx}{ρ ρ':Nat->Addr}{H H':Hp}{f:Nat->Option D}
mutual
theorem RD.rp(ts:z0N H H'): ∀(t:D) (v:V),RD G ρ H t v->(∀l∈labs t,ρ' l=ρ l/\(match f l with|some d=>RD G ρ' H' d (.ref (ρ l))|none=> ∀o,H (ρ l)=some o->H' (ρ l)=some o))->RD G ρ' H' (rp f t) v
 | .non,v,h,_=>by simp only[Mi.rp,RD] at h⊢;exact h
 | .bool b,v,h,_=>by simp only[Mi.rp,RD] at h⊢;exact h
 | .int b,v,h,_=>by simp only[Mi.rp,RD] at h⊢;exact h
 | .str b,v,h,_=>by simp only[Mi.rp,RD] at h⊢;exact h
 | .exc b,v,h,_=>by
  simp only[Mi.rp,RD] at h⊢
  obtain⟨a,o,C,e,h1,h2,h3,h5⟩:=h
  exact⟨a,o,C,e,h1,h2,h3,ts.f _ _ _ h5⟩
 | .fn b,v,h,_=>by simp only[Mi.rp,RD] at h⊢;exact h
 | .tup ds,v,h,hl=>by
  simp only[Mi.rp,RD,labs] at h hl⊢
  obtain⟨a,xs,e,s,r⟩:=h
  exact⟨a,xs,e,ts.t _ _ s,RDs.rp ts ds xs r hl⟩
 | .ro ds,v,h,hl=>by
  simp only[Mi.rp,RD,labs] at h hl⊢
  obtain⟨a,xs,e,s,r⟩:=h
  exact⟨a,xs,e,ts.ro s,RDs.rp ts ds xs r hl⟩
 | .fdc ks vs,v,h,hl=>by
  simp only[Mi.rp,RD,labs] at h hl⊢
  obtain⟨a,o,kvs,e,s,s2,r⟩:=h
  exact⟨a,o,kvs,e,ts.f _ _ _ s,s2,RDs.rp ts vs _ r hl⟩
 | .lst l ds,v,h,hl=>by
  simp only[Mi.rp,RD,labs] at h hl⊢
  obtain⟨e,xs,s,r⟩:=h
  obtain⟨e1,e2⟩:=hl l (List.mem_cons_self ..)
  cases ef:f l with
  |some d=>rw[ef] at e2;subst e;exact e2
  |none=>
   rw[ef] at e2
   simp only[RD]
   rw[e1]
   exact⟨e,xs,e2 _ s,RDs.rp ts ds xs r fun k hk=>hl k (List.mem_cons_of_mem _ hk)⟩
 | .dct l ks vs,v,h,hl=>by
  simp only[Mi.rp,RD,labs] at h hl⊢
  obtain⟨e,s⟩:=h
  obtain⟨e1,e2⟩:=hl l (List.mem_cons_self ..)
  cases ef:f l with
  |some d=>rw[ef] at e2;subst e;exact e2
  |none=>
   rw[ef] at e2
   simp only[RD]
   rw[e1]
   refine⟨e, ?_⟩
   rcases s with⟨kvs,s,s2,r⟩|⟨kvs,s,s2,r⟩
   ·exact .inl ⟨kvs,e2 _ s,s2,RDs.rp ts vs _ r fun k hk=>hl k (List.mem_cons_of_mem _ (List.mem_append_right _ hk))⟩
   ·exact .inr ⟨kvs,e2 _ s,s2,RDs.rp ts vs _ r fun k hk=>hl k (List.mem_cons_of_mem _ (List.mem_append_right _ hk))⟩
 | .obj l c ns vs,v,h,hl=>by
  simp only[Mi.rp,RD,labs] at h hl⊢
  obtain⟨e,C,dx,fs,hC,s,s2,r⟩:=h
  obtain⟨e1,e2⟩:=hl l (List.mem_cons_self ..)
  cases ef:f l with
  |some d=>rw[ef] at e2;subst e;exact e2
  |none=>
   rw[ef] at e2
   simp only[RD]
   rw[e1]
   exact⟨e,C,dx,fs,hC,e2 _ s,s2,RDs.rp ts vs _ r fun k hk=>hl k (List.mem_cons_of_mem _ hk)⟩
theorem RDs.rp(ts:z0N H H'): ∀(t:List D) (v:List V),RDs G ρ H t v->(∀l∈labsL t,ρ' l=ρ l/\(match f l with|some d=>RD G ρ' H' d (.ref (ρ l))|none=> ∀o,H (ρ l)=some o->H' (ρ l)=some o))->RDs G ρ' H' (rpL f t) v
 |[],v,h,_=>by simp only[rpL,RDs] at h⊢;exact h
 |d::ds,v,h,hl=>by
  simp only[rpL,RDs,labsL] at h hl⊢
  obtain⟨x,r,e,h1,h2⟩:=h
  exact⟨x,r,e,RD.rp ts d x h1 fun l hk=>hl l (List.mem_append_left _ hk),RDs.rp ts ds r h2 fun l hk=>hl l (List.mem_append_right _ hk)⟩
end
end
section
variable{f:Nat->Option D}
mutual
theorem z6H(l:Nat): ∀t:D,l∈labs (rp f t)->l∈labs t\/∃k d,k∈labs t/\f k=some d/\l∈labs d
 | .non,h=>by simp only[rp,labs] at h;cases h
 | .bool b,h=>by simp only[rp,labs] at h;cases h
 | .int b,h=>by simp only[rp,labs] at h;cases h
 | .str b,h=>by simp only[rp,labs] at h;cases h
 | .exc b,h=>by simp only[rp,labs] at h;cases h
 | .fn b,h=>by simp only[rp,labs] at h;cases h
 | .tup ds,h=>by
  simp only[rp,labs] at h⊢
  exact labsL_rp l ds h
 | .ro ds,h=>by
  simp only[rp,labs] at h⊢
  exact labsL_rp l ds h
 | .fdc ks vs,h=>by
  simp only[rp,labs] at h⊢
  exact labsL_rp l vs h
 | .lst k ds,h=>by
  simp only[rp] at h
  cases e:f k with
  |some d=>rw[e] at h;exact .inr ⟨k,d,by simp only[labs];exact List.mem_cons_self ..,e,h⟩
  |none=>
   rw[e] at h
   simp only[labs] at h⊢
   rcases List.mem_cons.mp h with h|h
   ·exact .inl (List.mem_cons.mpr (.inl h))
   ·rcases labsL_rp l ds h with q|⟨k',d,q1,q2,q3⟩
    ·exact .inl (List.mem_cons_of_mem _ q)
    ·exact .inr ⟨k',d,List.mem_cons_of_mem _ q1,q2,q3⟩
 | .dct k ks vs,h=>by
  simp only[rp] at h
  cases e:f k with
  |some d=>rw[e] at h;exact .inr ⟨k,d,by simp only[labs];exact List.mem_cons_self ..,e,h⟩
  |none=>
   rw[e] at h
   simp only[labs] at h⊢
   rcases List.mem_cons.mp h with h|h
   ·exact .inl (List.mem_cons.mpr (.inl h))
   ·rcases List.mem_append.mp h with h|h
    ·exact .inl (List.mem_cons_of_mem _ (List.mem_append_left _ h))
    ·rcases labsL_rp l vs h with q|⟨k',d,q1,q2,q3⟩
     ·exact .inl (List.mem_cons_of_mem _ (List.mem_append_right _ q))
     ·exact .inr ⟨k',d,List.mem_cons_of_mem _ (List.mem_append_right _ q1),q2,q3⟩
 | .obj k c ns vs,h=>by
  simp only[rp] at h
  cases e:f k with
  |some d=>rw[e] at h;exact .inr ⟨k,d,by simp only[labs];exact List.mem_cons_self ..,e,h⟩
  |none=>
   rw[e] at h
   simp only[labs] at h⊢
   rcases List.mem_cons.mp h with h|h
   ·exact .inl (List.mem_cons.mpr (.inl h))
   ·rcases labsL_rp l vs h with q|⟨k',d,q1,q2,q3⟩
    ·exact .inl (List.mem_cons_of_mem _ q)
    ·exact .inr ⟨k',d,List.mem_cons_of_mem _ q1,q2,q3⟩
theorem labsL_rp(l:Nat): ∀t:List D,l∈labsL (rpL f t)->l∈labsL t\/∃k d,k∈labsL t/\f k=some d/\l∈labs d
 |[],h=>by simp only[rpL,labsL] at h;cases h
 |d::ds,h=>by
  simp only[rpL,labsL] at h⊢
  rcases List.mem_append.mp h with h|h
  ·rcases z6H l d h with q|⟨k',d,q1,q2,q3⟩
   ·exact .inl (List.mem_append_left _ q)
   ·exact .inr ⟨k',d,List.mem_append_left _ q1,q2,q3⟩
  ·rcases labsL_rp l ds h with q|⟨k',d,q1,q2,q3⟩
   ·exact .inl (List.mem_append_right _ q)
   ·exact .inr ⟨k',d,List.mem_append_right _ q1,q2,q3⟩
end
theorem z2t(l:Nat): ∀t:List (Option D),l∈z05 (rpO f t)->l∈z05 t\/∃k d,k∈z05 t/\f k=some d/\l∈labs d
 |[],h=>by simp only[rpO,z05] at h;cases h
 |none::r,h=>by simp only[rpO,z05] at h⊢;exact z2t l r h
 |some d::ds,h=>by
  simp only[rpO,z05] at h⊢
  rcases List.mem_append.mp h with h|h
  ·rcases z6H l d h with q|⟨k',d,q1,q2,q3⟩
   ·exact .inl (List.mem_append_left _ q)
   ·exact .inr ⟨k',d,List.mem_append_left _ q1,q2,q3⟩
  ·rcases z2t l ds h with q|⟨k',d,q1,q2,q3⟩
   ·exact .inl (List.mem_append_right _ q)
   ·exact .inr ⟨k',d,List.mem_append_right _ q1,q2,q3⟩
end
structure Stt where
 σ:List (Option D)
 tm:List (Option D)
 n:Nat
structure Fx where
 A0:Addr->Prop
 H0:Hp
 Z:Addr->Prop
 zA: ∀a,Z a->(∃o,H0 a=some o)/\¬A0 a
 aH: ∀a,A0 a->∃o,H0 a=some o
 n0:Nat
 ρ0:Nat->Addr
noncomputable def KD(K:W.Frag)(H:Hp):Prop:= ∀a o,K.lookup a=some o->H a=none
section
variable(G:Gx)(ρ:Nat->Addr)(H:Hp)
noncomputable def Sl:List (Option D)->List (Option V)->Prop
 |[],vs=>vs=[]
 |none::r,vs=> ∃o q,vs=o::q/\Sl r q
 |some d::r,vs=> ∃v q,vs=some v::q/\RD G ρ H d v/\Sl r q
end
noncomputable def z0p(s:Stt):List Nat:=z05 s.σ++z05 s.tm
structure MR(G:Gx)(F:Fx)(ρ:Nat->Addr)(H:Hp)(σv tv:List (Option V))(s:Stt):Prop where
 sl:Sl G ρ H s.σ σv
 tm:Sl G ρ H s.tm tv
 inj: ∀i j,i<s.n->j<s.n->ρ i=ρ j->i=j
 dom: ∀l,l<s.n->∃o,H (ρ l)=some o
 lab: ∀l∈z0p s,l<s.n
 own: ∀l∈z0p s,F.A0 (ρ l)\/F.H0 (ρ l)=none
 frm: ∀a o,F.H0 a=some o->(∃o',H a=some o')/\(¬F.A0 a->H a=some o)
 kd:KD G.K H
 frb: ∀l,l<s.n->¬F.Z (ρ l)
 bas:F.n0<=s.n/\∀l,l<F.n0->ρ l=F.ρ0 l
noncomputable def Stt.psh(s:Stt)(t:D):Stt:={s with tm:=some t::s.tm}
noncomputable def Stt.nxt(s:Stt):Stt:={s with n:=s.n+1}
section
variable{G:Gx}{F:Fx}{ρ ρ':Nat->Addr}{H H':Hp}{σv tv:List (Option V)}{s:Stt}{t:D}{v:V}
theorem Sl.stay(ts:z0N H H'): ∀{σ:List (Option D)} {σv:List (Option V)},Sl G ρ H σ σv->(∀l∈z05 σ,ρ' l=ρ l/\∀o,H (ρ l)=some o->H' (ρ l)=some o)->Sl G ρ' H' σ σv
 |[],_,h,_=>h
 |none::r,_,h,hl=>by
  simp only[Sl,z05] at h hl⊢
  obtain⟨o,q,e,h⟩:=h
  exact⟨o,q,e,Sl.stay ts h hl⟩
 |some d::r,_,h,hl=>by
  simp only[Sl,z05] at h hl⊢
  obtain⟨o,q,e,h1,h⟩:=h
  exact⟨o,q,e,RD.stay ts d o h1 fun l hk=>hl l (List.mem_append_left _ hk),Sl.stay ts h fun l hk=>hl l (List.mem_append_right _ hk)⟩
theorem Sl.rp{f:Nat->Option D}(ts:z0N H H'): ∀{σ:List (Option D)} {σv:List (Option V)},Sl G ρ H σ σv->
 (∀l∈z05 σ,ρ' l=ρ l/\(match f l with|some d=>RD G ρ' H' d (.ref (ρ l))|none=> ∀o,H (ρ l)=some o->H' (ρ l)=some o))->Sl G ρ' H' (rpO f σ) σv
 |[],_,h,_=>h
 |none::r,_,h,hl=>by
  simp only[Sl,z05,rpO] at h hl⊢
  obtain⟨o,q,e,h⟩:=h
  exact⟨o,q,e,Sl.rp ts h hl⟩
 |some d::r,_,h,hl=>by
  simp only[Sl,z05,rpO] at h hl⊢
  obtain⟨o,q,e,h1,h⟩:=h
  exact⟨o,q,e,RD.rp ts d o h1 fun l hk=>hl l (List.mem_append_left _ hk),Sl.rp ts h fun l hk=>hl l (List.mem_append_right _ hk)⟩
theorem Sl.get: ∀{σ:List (Option D)} {σv:List (Option V)},Sl G ρ H σ σv->∀(i:Nat) (d:D),σ[i]? =some (some d)->∃v,σv[i]? =some (some v)/\RD G ρ H d v
 |[],_,_,i,d,e=>by simp at e
 |none::r,_,h,i,d,e=>by
  simp only[Sl] at h
  obtain⟨o,q,rfl,h⟩:=h
  cases i with
  |zero=>simp at e
  |succ i=>simpa using Sl.get h i d (by simpa using e)
 |some d'::r,_,h,i,d,e=>by
  simp only[Sl] at h
  obtain⟨v,q,rfl,h1,h⟩:=h
  cases i with
  |zero=>simp at e;subst e;exact⟨v,rfl,h1⟩
  |succ i=>simpa using Sl.get h i d (by simpa using e)
theorem Sl.length: ∀{σ:List (Option D)} {σv:List (Option V)},Sl G ρ H σ σv->σ.length=σv.length
 |[],_,h=>by simp only[Sl] at h;subst h;rfl
 |none::r,_,h=>by
  simp only[Sl] at h
  obtain⟨o,q,rfl,h⟩:=h
  simp[Sl.length h]
 |some d'::r,_,h=>by
  simp only[Sl] at h
  obtain⟨v,q,rfl,h1,h⟩:=h
  simp[Sl.length h]
theorem Sl.set: ∀{σ:List (Option D)} {σv:List (Option V)} (i:Nat),Sl G ρ H σ σv->RD G ρ H t v->Sl G ρ H (σ.set i (some t)) (σv.set i (some v))
 |[],_,i,h,_=>by simp only[Sl] at h;subst h;simp[Sl]
 |none::r,_,i,h,ht=>by
  simp only[Sl] at h
  obtain⟨o,q,rfl,h⟩:=h
  cases i with
  |zero=>simp only[List.set_cons_zero,Sl];exact⟨_,_,rfl,ht,h⟩
  |succ i=>simp only[List.set_cons_succ,Sl];exact⟨_,_,rfl,Sl.set i h ht⟩
 |some d'::r,_,i,h,ht=>by
  simp only[Sl] at h
  obtain⟨v',q,rfl,h1,h⟩:=h
  cases i with
  |zero=>simp only[List.set_cons_zero,Sl];exact⟨_,_,rfl,ht,h⟩
  |succ i=>simp only[List.set_cons_succ,Sl];exact⟨_,_,rfl,h1,Sl.set i h ht⟩
theorem Sl.append: ∀{σ σ':List (Option D)} {σv σv':List (Option V)},Sl G ρ H σ σv->Sl G ρ H σ' σv'->Sl G ρ H (σ++σ') (σv++σv')
 |[],_,_,_,h,h'=>by simp only[Sl] at h;subst h;exact h'
 |none::r,_,_,_,h,h'=>by
  simp only[Sl] at h
  obtain⟨o,q,rfl,h⟩:=h
  simp only[List.cons_append,Sl];exact⟨_,_,rfl,Sl.append h h'⟩
 |some d'::r,_,_,_,h,h'=>by
  simp only[Sl] at h
  obtain⟨v,q,rfl,h1,h⟩:=h
  simp only[List.cons_append,Sl];exact⟨_,_,rfl,h1,Sl.append h h'⟩
theorem Sl.split: ∀(σv:List (Option V)) {σ:List (Option D)} {tv:List (Option V)},Sl G ρ H σ (σv++tv)->Sl G ρ H (σ.take σv.length) σv/\Sl G ρ H (σ.drop σv.length) tv
 |[],σ,tv,h=>⟨by simp[Sl],by simpa using h⟩
 |o::σv,[],tv,h=>by simp[Sl] at h
 |o::σv,none::r,tv,h=>by
  simp only[List.cons_append,Sl] at h
  obtain⟨o',q,e,h⟩:=h
  cases e
  obtain⟨h1,h2⟩:=Sl.split σv h
  simp only[List.length_cons,List.take_succ_cons,List.drop_succ_cons,Sl]
  exact⟨⟨_,_,rfl,h1⟩,h2⟩
 |o::σv,some d::r,tv,h=>by
  simp only[List.cons_append,Sl] at h
  obtain⟨o',q,e,h0,h⟩:=h
  cases e
  obtain⟨h1,h2⟩:=Sl.split σv h
  simp only[List.length_cons,List.take_succ_cons,List.drop_succ_cons,Sl]
  exact⟨⟨_,_,rfl,h0,h1⟩,h2⟩
theorem z1W: ∀{σ:List (Option D)} {i:Nat} {d:D},σ[i]? =some (some d)->∀l∈labs d,l∈z05 σ
 |[],i,d,e,l,h=>by simp at e
 |none::r,i,d,e,l,h=>by
  simp only[z05]
  cases i with
  |zero=>simp at e
  |succ i=>exact z1W (i:=i) (by simpa using e) l h
 |some d'::r,i,d,e,l,h=>by
  simp only[z05]
  cases i with
  |zero=>simp at e;subst e;exact List.mem_append_left _ h
  |succ i=>exact List.mem_append_right _ (z1W (i:=i) (by simpa using e) l h)
theorem z2G: ∀{σ:List (Option D)} {i:Nat} {d:D} (l:Nat),l∈z05 (σ.set i (some d))->l∈z05 σ\/l∈labs d
 |[],i,d,l,h=>by simp[z05] at h
 |none::r,i,d,l,h=>by
  cases i with
  |zero=>
   simp only[List.set_cons_zero,z05] at h⊢
   rcases List.mem_append.mp h with h|h
   ·exact .inr h
   ·exact .inl h
  |succ i=>
   simp only[List.set_cons_succ,z05] at h⊢
   exact z2G l h
 |some d'::r,i,d,l,h=>by
  cases i with
  |zero=>
   simp only[List.set_cons_zero,z05] at h⊢
   rcases List.mem_append.mp h with h|h
   ·exact .inr h
   ·exact .inl (List.mem_append_right _ h)
  |succ i=>
   simp only[List.set_cons_succ,z05] at h⊢
   rcases List.mem_append.mp h with h|h
   ·exact .inl (List.mem_append_left _ h)
   ·rcases z2G l h with q|q
    ·exact .inl (List.mem_append_right _ q)
    ·exact .inr q
theorem z08: ∀(σ σ':List (Option D)),z05 (σ++σ')=z05 σ++z05 σ'
 |[],_=>rfl
 |none::r,σ'=>by simp only[List.cons_append,z05,z08 r σ']
 |some d::r,σ'=>by simp only[List.cons_append,z05,z08 r σ',List.append_assoc]
theorem z0q: ∀(σ σ':List D),labsL (σ++σ')=labsL σ++labsL σ'
 |[],_=>rfl
 |d::r,σ'=>by simp only[List.cons_append,labsL,z0q r σ',List.append_assoc]
theorem labsL_mem: ∀{ds:List D} {d:D},d∈ds->∀l∈labs d,l∈labsL ds
 |_::ds,d,h,l,hl=>by
  simp only[labsL]
  rcases List.mem_cons.mp h with rfl|h
  ·exact List.mem_append_left _ hl
  ·exact List.mem_append_right _ (labsL_mem h l hl)
theorem z0O: ∀{ds:List D} {l:Nat},l∈labsL ds->∃d∈ds,l∈labs d
 |d::ds,l,h=>by
  simp only[labsL] at h
  rcases List.mem_append.mp h with h|h
  ·exact⟨d,List.mem_cons_self ..,h⟩
  ·obtain⟨x,h1,h2⟩:=z0O h
   exact⟨x,List.mem_cons_of_mem _ h1,h2⟩
theorem RDs.get: ∀{ds:List D} {xs:List V},RDs G ρ H ds xs->∀(i:Nat) (d:D),ds[i]? =some d->∃x,xs[i]? =some x/\RD G ρ H d x
 |[],_,_,i,d,e=>by simp at e
 |d'::r,_,h,i,d,e=>by
  simp only[RDs] at h
  obtain⟨x,q,rfl,h1,h2⟩:=h
  cases i with
  |zero=>simp at e;subst e;exact⟨x,rfl,h1⟩
  |succ i=>simpa using RDs.get h2 i d (by simpa using e)
theorem RDs.length: ∀{ds:List D} {xs:List V},RDs G ρ H ds xs->ds.length=xs.length
 |[],_,h=>by simp only[RDs] at h;subst h;rfl
 |d'::r,_,h=>by
  simp only[RDs] at h
  obtain⟨x,q,rfl,h1,h2⟩:=h
  simp[RDs.length h2]
theorem RDs.append: ∀{ds es:List D} {xs ys:List V},RDs G ρ H ds xs->RDs G ρ H es ys->RDs G ρ H (ds++es) (xs++ys)
 |[],_,_,_,h,h'=>by simp only[RDs] at h;subst h;exact h'
 |d'::r,_,_,_,h,h'=>by
  simp only[RDs] at h
  obtain⟨x,q,rfl,h1,h2⟩:=h
  simp only[List.cons_append,RDs]
  exact⟨_,_,rfl,h1,RDs.append h2 h'⟩
theorem RDs.one{d:D}{x:V}(h:RD G ρ H d x):RDs G ρ H [d] [x]:=by simp only[RDs];exact⟨_,_,rfl,h,rfl⟩
theorem RDs.take: ∀{ds:List D} {xs:List V} (k:Nat),RDs G ρ H ds xs->RDs G ρ H (ds.take k) (xs.take k)
 |_,_,0,_=>by simp[RDs]
 |[],_,k+1,h=>by simp only[RDs] at h;subst h;simp[RDs]
 |d'::r,_,k+1,h=>by
  simp only[RDs] at h
  obtain⟨x,q,rfl,h1,h2⟩:=h
  simp only[List.take_succ_cons,RDs]
  exact⟨_,_,rfl,h1,RDs.take k h2⟩
theorem RDs.drop: ∀{ds:List D} {xs:List V} (k:Nat),RDs G ρ H ds xs->RDs G ρ H (ds.drop k) (xs.drop k)
 |_,_,0,h=>h
 |[],_,k+1,h=>by simp only[RDs] at h;subst h;simp[RDs]
 |d'::r,_,k+1,h=>by
  simp only[RDs] at h
  obtain⟨x,q,rfl,h1,h2⟩:=h
  simp only[List.drop_succ_cons]
  exact RDs.drop k h2
theorem RDs.set: ∀{ds:List D} {xs:List V} (k:Nat),RDs G ρ H ds xs->RD G ρ H t v->RDs G ρ H (ds.set k t) (xs.set k v)
 |[],_,k,h,_=>by simp only[RDs] at h;subst h;simp[RDs]
 |d'::r,_,0,h,ht=>by
  simp only[RDs] at h
  obtain⟨x,q,rfl,h1,h2⟩:=h
  simp only[List.set_cons_zero,RDs];exact⟨_,_,rfl,ht,h2⟩
 |d'::r,_,k+1,h,ht=>by
  simp only[RDs] at h
  obtain⟨x,q,rfl,h1,h2⟩:=h
  simp only[List.set_cons_succ,RDs];exact⟨_,_,rfl,h1,RDs.set k h2 ht⟩
theorem MR.pop{o:Option V}{r:Option D}(M:MR G F ρ H σv (o::tv) {s with tm:=r::s.tm}):MR G F ρ H σv tv s where
 sl:=M.sl
 tm:=by
  have h:=M.tm
  cases r with
  |none=>simp only[Sl] at h;obtain⟨_,_,e,h⟩:=h;cases e;exact h
  |some t=>simp only[Sl] at h;obtain⟨_,_,e,_,h⟩:=h;cases e;exact h
 inj:=M.inj
 dom:=M.dom
 lab:=fun l h=>M.lab l (by
  rcases List.mem_append.mp h with h|h
  ·exact List.mem_append_left _ h
  ·refine List.mem_append_right _ ?_
   cases r with
   |none=>exact h
   |some t=>exact List.mem_append_right _ h)
 own:=fun l h=>M.own l (by
  rcases List.mem_append.mp h with h|h
  ·exact List.mem_append_left _ h
  ·refine List.mem_append_right _ ?_
   cases r with
   |none=>exact h
   |some t=>exact List.mem_append_right _ h)
 frm:=M.frm
 kd:=M.kd
 frb:=M.frb
 bas:=M.bas
theorem MR.top(M:MR G F ρ H σv (some v::tv) (s.psh t)):RD G ρ H t v:=by
 have h:=M.tm
 have h:Sl G ρ H (some t::s.tm) (some v::tv):=h
 simp only[Sl] at h
 obtain⟨_,_,e,h,_⟩:=h
 cases e
 exact h
theorem MR.topl(M:MR G F ρ H σv tv (s.psh t)): ∀l∈labs t,l<s.n/\(F.A0 (ρ l)\/F.H0 (ρ l)=none):=fun l h=>
 have m:l∈z0p (s.psh t):=List.mem_append_right _ (List.mem_append_left _ h)
 ⟨M.lab l m,M.own l m⟩
theorem MR.same(M:MR G F ρ H σv tv s)(h:Same H H')(k:KD G.K H'):MR G F ρ H' σv tv s where
 sl:=Sl.stay (z0N.of h) M.sl fun l _=>⟨rfl,fun o e=>h _ _ e⟩
 tm:=Sl.stay (z0N.of h) M.tm fun l _=>⟨rfl,fun o e=>h _ _ e⟩
 inj:=M.inj
 dom:=fun l hl=>let⟨o,e⟩:=M.dom l hl;⟨o,h _ _ e⟩
 lab:=M.lab
 own:=M.own
 frm:=fun a o e=>let⟨⟨o',e1⟩,e2⟩:=M.frm a o e;⟨⟨o',h _ _ e1⟩,fun n=>h _ _ (e2 n)⟩
 kd:=k
 frb:=M.frb
 bas:=M.bas
theorem RDs.same{ts:List D}{vs:List V}(h:Same H H')(r:RDs G ρ H ts vs):RDs G ρ H' ts vs:=RDs.stay (z0N.of h) ts vs r fun l _=>⟨rfl,fun o e=>h _ _ e⟩
noncomputable def ext(ρ:Nat->Addr)(n:Nat)(p:Addr):Nat->Addr:=fun l=>if l=n then p else ρ l
theorem z0k{n l:Nat}{p:Addr}(h:l<n):ext ρ n p l=ρ l:=by unfold ext;rw[if_neg (by lia)]
theorem z0G{n:Nat}{p:Addr}:ext ρ n p n=p:=by unfold ext;rw[if_pos rfl]
theorem MR.new{p:Addr}{o:HO}(M:MR G F ρ H σv tv s)(hp:H p=none)(k:KD G.K (upd H p o)):MR G F (ext ρ s.n p) (upd H p o) σv tv s.nxt where
 sl:=Sl.stay (z0N.of (Same.new o hp)) M.sl fun l hl=>⟨z0k (M.lab l (List.mem_append_left _ hl)),fun o e=>Same.new _ hp _ _ e⟩
 tm:=Sl.stay (z0N.of (Same.new o hp)) M.tm fun l hl=>⟨z0k (M.lab l (List.mem_append_right _ hl)),fun o e=>Same.new _ hp _ _ e⟩
 inj:=fun i j hi hj e=>by
  have hi:i<s.n+1:=hi
  have hj:j<s.n+1:=hj
  have nn: ∀i,i<s.n->ρ i≠p:=fun i h e=>by
   obtain⟨o,q⟩:=M.dom i h
   rw[e,hp] at q;cases q
  by_cases h1:i=s.n
  ·by_cases h2:j=s.n
   ·lia
   ·rw[h1,z0G,z0k (by lia)] at e
    exact absurd e.symm (nn j (by lia))
  ·by_cases h2:j=s.n
   ·rw[h2,z0G,z0k (by lia)] at e
    exact absurd e (nn i (by lia))
   ·rw[z0k (by lia),z0k (by lia)] at e
    exact M.inj i j (by lia) (by lia) e
 dom:=fun l hl=>by
  have hl:l<s.n+1:=hl
  by_cases h1:l=s.n
  ·subst h1;rw[z0G];exact⟨o,z0e⟩
  ·rw[z0k (by lia)]
   obtain⟨o',e⟩:=M.dom l (by lia)
   exact⟨o',Same.new _ hp _ _ e⟩
 lab:=fun l h=>Nat.lt_succ_of_lt (M.lab l h)
 own:=fun l h=>by rw[z0k (M.lab l h)];exact M.own l h
 frm:=fun a o e=>let⟨⟨o',e1⟩,e2⟩:=M.frm a o e;⟨⟨o',Same.new _ hp _ _ e1⟩,fun n=>Same.new _ hp _ _ (e2 n)⟩
 kd:=k
 frb:=fun l hl=>by
  have hl:l<s.n+1:=hl
  by_cases h1:l=s.n
  ·subst h1;rw[z0G]
   intro z
   obtain⟨⟨o,e⟩,_⟩:=F.zA p z
   obtain⟨⟨o',e'⟩,_⟩:=M.frm p o e
   rw[hp] at e';cases e'
  ·rw[z0k (by lia)]
   exact M.frb l (by lia)
 bas:=⟨Nat.le_succ_of_le M.bas.1,fun l hl=>by rw[z0k (Nat.lt_of_lt_of_le hl M.bas.1)];exact M.bas.2 l hl⟩
theorem MR.fresh0{p:Addr}(M:MR G F ρ H σv tv s)(hp:H p=none):F.H0 p=none:=by
 cases q:F.H0 p with
 |none=>rfl
 |some o=>
  obtain⟨⟨o',e⟩,_⟩:=M.frm p o q
  rw[hp] at e;cases e
noncomputable def Stt.put(s:Stt)(l:Nat)(d:D):Stt:={s with σ:=rpO (fun k=>if k=l then some d else none) s.σ,tm:=rpO (fun k=>if k=l then some d else none) s.tm}
end
inductive Res(α:Type) where
 |ok (a:α) (s:Stt)|ex (d:D) (s:Stt)|no
noncomputable abbrev M(α:Type):=Stt->Res α
noncomputable def bd{α β:Type}(m:M α)(f:α->M β):M β:=fun s=>match m s with
 | .ok a s'=>f a s'
 | .ex d s'=> .ex d s'
 | .no=> .no
noncomputable def rt{α:Type}(a:α):M α:=fun s=> .ok a s
noncomputable def fl{α:Type}:M α:=fun _=> .no
noncomputable def psh(t:D):M Unit:=fun s=> .ok () (s.psh t)
noncomputable def pop:M D:=fun s=>match s.tm with
 |some t::r=> .ok t {s with tm:=r}
 |_=> .no
structure Fy extends Fx where
 tv0:List (Option V)
 xw:D->Stt->Prop
structure MRL(G:Gx)(F:Fx)(ρ:Nat->Addr)(H:Hp)(σv tv:List (Option V))(s:Stt)(ts:List D)(vs:List V):Prop where
 m:MR G F ρ H σv tv s
 rd:RDs G ρ H ts vs
 lb: ∀l∈labsL ts,l<s.n/\(F.A0 (ρ l)\/F.H0 (ρ l)=none)
section
variable{G:Gx}{F:Fy}{ρ ρ':Nat->Addr}{H H':Hp}{σv tv:List (Option V)}{s:Stt}{t t':D}{v u:V}{ts:List D}{vs:List V}{Q:VK}
theorem MRL.rd1(M:MRL G F.toFx ρ H σv tv s [t] [v]):RD G ρ H t v:=by
 have h:=M.rd
 simp only[RDs] at h
 obtain⟨_,_,e,h,_⟩:=h
 cases e;exact h
theorem MRL.rd2(M:MRL G F.toFx ρ H σv tv s [t,t'] [v,u]):RD G ρ H t v/\RD G ρ H t' u:=by
 have h:=M.rd
 simp only[RDs] at h
 obtain⟨_,_,e,h,_,_,e',h',_⟩:=h
 cases e;cases e';exact⟨h,h'⟩
theorem MRL.push(M:MRL G F.toFx ρ H σv tv s [t] [v]):MR G F.toFx ρ H σv (some v::tv) (s.psh t):=by
 have hl: ∀l∈labs t,l<s.n/\(F.A0 (ρ l)\/F.H0 (ρ l)=none):=fun l h=>M.lb l (by simp only[labsL,List.append_nil];exact h)
 refine⟨M.m.sl, ?_,M.m.inj,M.m.dom,fun l h=> ?_,fun l h=> ?_,M.m.frm,M.m.kd,M.m.frb,M.m.bas⟩
 ·show Sl G ρ H (some t::s.tm) _
  simp only[Sl]
  exact⟨v,tv,rfl,M.rd1,M.m.tm⟩
 ·have h:l∈z05 s.σ++(labs t++z05 s.tm):=h
  rcases List.mem_append.mp h with h|h
  ·exact M.m.lab l (List.mem_append_left _ h)
  ·rcases List.mem_append.mp h with h|h
   ·exact(hl l h).1
   ·exact M.m.lab l (List.mem_append_right _ h)
 ·have h:l∈z05 s.σ++(labs t++z05 s.tm):=h
  rcases List.mem_append.mp h with h|h
  ·exact M.m.own l (List.mem_append_left _ h)
  ·rcases List.mem_append.mp h with h|h
   ·exact(hl l h).2
   ·exact M.m.own l (List.mem_append_right _ h)
theorem MRL.down{s':Stt}{r:List (Option D)}(M:MRL G F.toFx ρ H σv (some v::tv) s' ts vs)(e:s'.tm=some t::r):MRL G F.toFx ρ H σv tv {s' with tm:=r} (t::ts) (v::vs):=by
 obtain⟨σ,tm,n⟩:=s'
 have e:tm=some t::r:=e
 subst e
 refine⟨MR.pop (s:=⟨σ,r,n⟩) M.m, ?_,fun l h=> ?_⟩
 ·simp only[RDs]
  exact⟨v,vs,rfl,MR.top (s:=⟨σ,r,n⟩) M.m,M.rd⟩
 ·simp only[labsL] at h
  rcases List.mem_append.mp h with h|h
  ·exact MR.topl (s:=⟨σ,r,n⟩) M.m l h
  ·exact M.lb l h
noncomputable def wM(G:Gx)(F:Fy)(σv tv:List (Option V))(r:Res D)(Q:VK):Prop:=match r with
 | .ok t s'=> ∀ρ' v H',MRL G F.toFx ρ' H' σv tv s' [t] [v]->Q v H'
 | .ex d s'=>F.xw d s'
 | .no=>False
noncomputable def wL(G:Gx)(F:Fy)(σv tv:List (Option V))(r:Res (List D))(Q:List V->Hp->Prop):Prop:=match r with
 | .ok ts s'=> ∀ρ' vs H',MRL G F.toFx ρ' H' σv tv s' ts vs->Q vs H'
 | .ex d s'=>F.xw d s'
 | .no=>False
noncomputable def wB(G:Gx)(F:Fy)(σv tv:List (Option V))(r:Res Bool)(Q:Bool->Hp->Prop):Prop:=match r with
 | .ok b s'=> ∀ρ' H',MR G F.toFx ρ' H' σv tv s'->Q b H'
 | .ex d s'=>F.xw d s'
 | .no=>False
noncomputable def tMv(G:Gx)(F:Fy)(m:M D)(σv tv:List (Option V))(H:Hp)(Q:VK):Prop:=F.tv0<:+tv/\∃ρ s,MR G F.toFx ρ H σv tv s/\wM G F σv tv (m s) Q
noncomputable def tLv(G:Gx)(F:Fy)(m:M (List D))(σv tv:List (Option V))(H:Hp)(Q:List V->Hp->Prop):Prop:=F.tv0<:+tv/\∃ρ s,MR G F.toFx ρ H σv tv s/\wL G F σv tv (m s) Q
noncomputable def tBv(G:Gx)(F:Fy)(m:M Bool)(σv tv:List (Option V))(H:Hp)(Q:Bool->Hp->Prop):Prop:=F.tv0<:+tv/\∃ρ s,MR G F.toFx ρ H σv tv s/\wB G F σv tv (m s) Q
noncomputable def tM(G:Gx)(F:Fy)(m:M D):TE:=fun σv H Q=> ∃tv,tMv G F m σv tv H Q
noncomputable def tML(G:Gx)(F:Fy)(m:M (List D)):TA:=fun σv H Q=> ∃tv,tLv G F m σv tv H Q
noncomputable def tMB(G:Gx)(F:Fy)(m:M Bool):TT:=fun σv H Q=> ∃tv,tBv G F m σv tv H Q
noncomputable def SE(X:Cx)(G:Gx)(F:Fy)(e:Expr)(m:M D):Prop:=PE X e (tM G F m)
noncomputable def SA(X:Cx)(G:Gx)(F:Fy)(es:List Expr)(m:M (List D)):Prop:=PA X es (tML G F m)
noncomputable def SB(X:Cx)(G:Gx)(F:Fy)(e:Expr)(m:M Bool):Prop:=PT X e (tMB G F m)
theorem suf1{o:Option V}(h:F.tv0<:+tv):F.tv0<:+o::tv:=h.trans (List.suffix_cons _ _)
theorem z5V{m:M D}{f:D->M D}(h:tMv G F (bd m f) σv tv H Q):tMv G F m σv tv H (fun v H1=> ∃ρ1 s1 t,MRL G F.toFx ρ1 H1 σv tv s1 [t] [v]/\wM G F σv tv (f t s1) Q):=by
 obtain⟨hs,ρ,s,M,W⟩:=h
 refine⟨hs,ρ,s,M, ?_⟩
 unfold bd at W
 cases e:m s with
 |ok t s1=>rw[e] at W;exact fun ρ1 v H1 M1=>⟨ρ1,s1,t,M1,W⟩
 |ex d s1=>rw[e] at W;exact W
 |no=>rw[e] at W;exact W
noncomputable def mBin(ma mb:M D)(g:D->D->M D):M D:=bd ma fun x=>bd (psh x) fun _=>bd mb fun y=>bd pop fun x'=>g x' y
theorem z5p{ma mb:M D}{g:D->D->M D}(h:tMv G F (mBin ma mb g) σv tv H Q):
 tMv G F ma σv tv H (fun v H1=>tMv G F mb σv (some v::tv) H1 (fun u H2=> ∃ρ2 s2 t t',MRL G F.toFx ρ2 H2 σv tv s2 [t,t'] [v,u]/\wM G F σv tv (g t t' s2) Q)):=by
 have h':=z5V h
 obtain⟨hs,ρ,s,M,W⟩:=h'
 refine⟨hs,ρ,s,M, ?_⟩
 cases e:ma s with
 |ok t s1=>
  rw[e] at W
  intro ρ1 v H1 M1
  obtain⟨ρ1,s1,t,M1,W⟩:=W ρ1 v H1 M1
  refine⟨suf1 hs,ρ1,s1.psh t,M1.push, ?_⟩
  simp only[bd,psh] at W
  cases e2:mb (s1.psh t) with
  |ok y s2=>
   rw[e2] at W
   intro ρ2 u H2 M2
   simp only[pop] at W
   cases e3:s2.tm with
   |nil=>rw[e3] at W;exact W.elim
   |cons o r=>
    cases o with
    |none=>rw[e3] at W;exact W.elim
    |some t'=>
     rw[e3] at W
     exact⟨ρ2,{s2 with tm:=r},t',y,M2.down e3,W⟩
  |ex d s2=>rw[e2] at W;exact W
  |no=>rw[e2] at W;exact W
 |ex d s1=>rw[e] at W;exact W
 |no=>rw[e] at W;exact W
noncomputable def z0c:List (M D)->M (List D)
 |[]=>rt []
 |m::ms=>bd m fun x=>bd (psh x) fun _=>bd (z0c ms) fun ys=>bd pop fun x'=>rt (x'::ys)
end
section
variable{X:Cx}{G:Gx}{F:Fy}{e a b c:Expr}{pos:Pos}
theorem Inv.kd{pins:List (Addr×Obj)}{σ:St}{H:Hp}{s:Shared}(I:Inv X pins σ H s):KD X.K H:=fun a o e=>(I.bs a o (I.ok.mod.kin a o e)).2
theorem PE.imp{t t':TE}(hk:X.K=G.K)(h:PE X e t)(hi: ∀σ H Q,t' σ H Q->t σ H (fun v H'=>KD G.K H'->Q v H')):PE X e t':=fun pins s σ H Q I q=>
 thn (h pins s σ H _ I (hi σ H Q q)) fun u s' ⟨v,H',I',r,k⟩=>⟨v,H',I',r,k (hk▸Inv.kd I')⟩
theorem PT.imp{t t':TT}(hk:X.K=G.K)(h:PT X e t)(hi: ∀σ H Q,t' σ H Q->t σ H (fun v H'=>KD G.K H'->Q v H')):PT X e t':=fun pins s σ H Q I q=>
 thn (h pins s σ H _ I (hi σ H Q q)) fun u s' ⟨H',I',k⟩=>⟨H',I',k (hk▸Inv.kd I')⟩
theorem PA.imp{es:List Expr}{t t':TA}(hk:X.K=G.K)(h:PA X es t)(hi: ∀σ H Q,t' σ H Q->t σ H (fun v H'=>KD G.K H'->Q v H')):PA X es t':=fun pos pins s σ H Q I q=>
 thn (h pos pins s σ H _ I (hi σ H Q q)) fun u s' ⟨v,H',I',r,k⟩=>⟨v,H',I',r,k (hk▸Inv.kd I')⟩
noncomputable def OpOK(G:Gx)(F:Fy)(r:R2)(g:D->D->M D):Prop:= ∀ρ s t t' v u H σv tv Q,MRL G F.toFx ρ H σv tv s [t,t'] [v,u]->wM G F σv tv (g t t' s) Q->r v u H (fun w H'=>KD G.K H'->Q w H')
noncomputable def z1X(G:Gx)(F:Fy)(r:R2)(g:D->D->M D):Prop:= ∀ρ s t t' v u H σv tv Q,MRL G F.toFx ρ H σv tv s [t,t'] [v,u]->wM G F σv tv (g t t' s) Q->r v u H Q
noncomputable def UnOK(G:Gx)(F:Fy)(r:V->Hp->VK->Prop)(g:D->M D):Prop:= ∀ρ s t v H σv tv Q,MRL G F.toFx ρ H σv tv s [t] [v]->wM G F σv tv (g t s) Q->r v H (fun w H'=>KD G.K H'->Q w H')
noncomputable def z0K(G:Gx)(F:Fy)(r:List V->Hp->VK->Prop)(g:List D->M D):Prop:= ∀ρ s ts vs H σv tv Q,MRL G F.toFx ρ H σv tv s ts vs->wM G F σv tv (g ts s) Q->r vs H (fun w H'=>KD G.K H'->Q w H')
theorem z5W{op:Operator}{r:R2}{ma mb:M D}{g:D->D->M D}(hk:X.K=G.K)(ho:OpR X (binaryOp op) r)(hg:OpOK G F r g)(ha:SE X G F a ma)(hb:SE X G F b mb):SE X G F (.BinOp a op b pos) (mBin ma mb g):=by
 refine PE.imp hk (zdl ho ha hb) fun σ H Q ⟨tv,h⟩=>⟨tv, ?_⟩
 obtain⟨hs,ρ,s,M,W⟩:=z5p h
 refine⟨hs,ρ,s,M, ?_⟩
 cases e:ma s with
 |ok t s1=>
  rw[e] at W
  intro ρ1 v H1 M1
  refine⟨some v::tv, ?_⟩
  obtain⟨hs2,ρ2,s2,M2,W2⟩:=W ρ1 v H1 M1
  refine⟨hs2,ρ2,s2,M2, ?_⟩
  cases e2:mb s2 with
  |ok t2 s3=>
   rw[e2] at W2
   intro ρ3 u H3 M3
   obtain⟨ρ4,s4,x,y,M4,W4⟩:=W2 ρ3 u H3 M3
   exact hg _ _ _ _ _ _ _ _ _ _ M4 W4
  |ex d s3=>rw[e2] at W2;exact W2
  |no=>rw[e2] at W2;exact W2
 |ex d s1=>rw[e] at W;exact W
 |no=>rw[e] at W;exact W
theorem wM.mono{σv tv:List (Option V)}{r:Res D}{Q Q':VK}(h:wM G F σv tv r Q)(k: ∀v H,Q v H->Q' v H):wM G F σv tv r Q':=by
 cases r with
 |ok t s=>exact fun ρ v H M=>k _ _ (h ρ v H M)
 |ex d s=>exact h
 |no=>exact h
theorem tMv.mono{m:M D}{σv tv:List (Option V)}{H:Hp}{Q Q':VK}(h:tMv G F m σv tv H Q)(k: ∀v H,Q v H->Q' v H):tMv G F m σv tv H Q':=by
 obtain⟨hs,ρ,s,M,W⟩:=h
 exact⟨hs,ρ,s,M,W.mono k⟩
theorem zaa{ma mb:M D}{g:D->D->M D}{R:V->V->Hp->VK->Prop}{σv:St}{H:Hp}{Q:VK}(hg:OpOK G F R g)(h:tM G F (mBin ma mb g) σv H Q):
 tM G F ma σv H fun x H1=>tM G F mb σv H1 fun y H2=>R x y H2 fun w H'=>KD G.K H'->Q w H':=by
 obtain⟨tv,h⟩:=h
 exact⟨tv,(z5p h).mono fun v H1 h1=>⟨_,h1.mono fun u H2 ⟨ρ,s,t,t',M,W⟩=>hg _ _ _ _ _ _ _ _ _ _ M W⟩⟩
theorem zbN{ma:M D}{g:D->M D}{R:V->Hp->VK->Prop}{σv:St}{H:Hp}{Q:VK}(hg:UnOK G F R g)(h:tM G F (bd ma g) σv H Q):
 tM G F ma σv H fun x H1=>R x H1 fun w H'=>KD G.K H'->Q w H':=by
 obtain⟨tv,h⟩:=h
 exact⟨tv,(z5V h).mono fun v H1 ⟨ρ,s,t,M,W⟩=>hg _ _ _ _ _ _ _ _ M W⟩
theorem zdy{op:UnaryOp}{r:V->Hp->VK->Prop}{ma:M D}{g:D->M D}(hk:X.K=G.K)(ho:UnR X (unaryOp op) r)(hg:UnOK G F r g)(ha:SE X G F a ma):SE X G F (.UnaryOp op a pos) (bd ma g):=
 PE.imp hk (zbp ho ha) fun _ _ _ h=>zbN hg h
theorem z5q{ma mb:M D}{g:D->D->M D}{R:V->V->Hp->VK->Prop}{σv:St}{H:Hp}{Q:VK}(hg:z1X G F R g)(h:tM G F (mBin ma mb g) σv H Q):
 tM G F ma σv H fun x H1=>tM G F mb σv H1 fun y H2=>R x y H2 Q:=by
 obtain⟨tv,h⟩:=h
 exact⟨tv,(z5p h).mono fun v H1 h1=>⟨_,h1.mono fun u H2 ⟨ρ,s,t,t',M,W⟩=>hg _ _ _ _ _ _ _ _ _ _ M W⟩⟩
theorem PE.imp0{t t':TE}(h:PE X e t)(hi: ∀σ H Q,t' σ H Q->t σ H Q):PE X e t':=fun pins s σ H Q I q=>h pins s σ H _ I (hi σ H Q q)
theorem PT.imp0{t t':TT}(h:PT X e t)(hi: ∀σ H Q,t' σ H Q->t σ H Q):PT X e t':=fun pins s σ H Q I q=>h pins s σ H _ I (hi σ H Q q)
theorem zab{op:CmpOp}{r:R2}{ma mb:M D}{g:D->D->M D}(ho:OpR X (compareOp op) r)(hg:z1X G F r g)(ha:SE X G F a ma)(hb:SE X G F b mb)(hm:behindInMarks op b=false):SE X G F (.Compare a [op] [b] pos) (mBin ma mb g):=
 PE.imp0 (z9P ho ha hb hm) fun _ _ _ h=>z5q hg h
theorem zdz{r:R2}{ma mb:M D}{g:D->D->M D}(hk:X.K=G.K)(ho:IxR X r)(hg:OpOK G F r g)(ha:SE X G F a ma)(hb:SE X G F b mb)(hs:z27 b):SE X G F (.Subscript a b pos) (mBin ma mb g):=
 PE.imp hk (zdu ho ha hb hs) fun _ _ _ h=>zaa hg h
theorem zbO(hk:X.K=G.K):SA X G F [] (z0c []):=by
 refine PA.imp hk z9g fun σ H Q ⟨tv,hs,ρ,s,M,W⟩ _=>W ρ [] H ⟨M,rfl,fun l h=>by simp[labsL] at h⟩
noncomputable def nst:Expr->Bool
 | .Starred _ _=>false
 |_=>true
theorem z6I{es:List Expr}{env:Env}(h:nst e=true):starEach (e::es) env=(false,eval e env)::starEach es env:=by
 cases e<;>first|rfl|exact Bool.noConfusion h
theorem zac{es:List Expr}{m:M D}{ms:List (M D)}(hk:X.K=G.K)(ha:SE X G F e m)(hr:SA X G F es (z0c ms))(hs:nst e=true:=by rfl):SA X G F (e::es) (z0c (m::ms)):=by
 refine PA.imp hk (z4J ha hr (z6I hs)) fun σ H Q ⟨tv,hs,ρ,s,M,W⟩=>⟨tv,hs,ρ,s,M, ?_⟩
 unfold z0c at W
 simp only[bd,psh] at W
 cases e:m s with
 |ok t s1=>
  rw[e] at W
  intro ρ1 v H1 M1
  refine⟨some v::tv,suf1 hs,ρ1,s1.psh t,M1.push, ?_⟩
  dsimp only at W
  cases e2:z0c ms (s1.psh t) with
  |ok ys s2=>
   rw[e2] at W
   intro ρ2 us H2 M2 _
   simp only[pop,rt] at W
   cases e3:s2.tm with
   |nil=>rw[e3] at W;exact W.elim
   |cons o r=>
    cases o with
    |none=>rw[e3] at W;exact W.elim
    |some t'=>
     rw[e3] at W
     exact W ρ2 (v::us) H2 (M2.down e3)
  |ex d s2=>rw[e2] at W;exact W
  |no=>rw[e2] at W;exact W
 |ex d s1=>rw[e] at W;exact W
 |no=>rw[e] at W;exact W
noncomputable def mCB(ms:List (M D))(g:List D->M D):M D:=bd (z0c ms) g
theorem z2u{ma:M (List D)}{g:List D->M D}{R:List V->Hp->VK->Prop}{σv:St}{H:Hp}{Q:VK}(hg:z0K G F R g)(h:tM G F (bd ma g) σv H Q):
 tML G F ma σv H fun xs H1=>R xs H1 fun w H'=>KD G.K H'->Q w H':=by
 obtain⟨tv,hs,ρ,s,M,W⟩:=h
 refine⟨tv,hs,ρ,s,M, ?_⟩
 unfold bd at W
 cases e:ma s with
 |ok ts s1=>rw[e] at W;exact fun ρ1 vs H1 M1=>hg _ _ _ _ _ _ _ _ M1 W
 |ex d s1=>rw[e] at W;exact W
 |no=>rw[e] at W;exact W
theorem z8n{x:Str}{p:Pos}{es:List Expr}{ms:List (M D)}{g:List D->M D}{id:String}{r:List V->Hp->VK->Prop}(hk:X.K=G.K)(hc:CallR X (.builtin id) r)(hg:z0K G F r g)(hgl:Gl X x)(hm:X.mg x=none)(hv:bootBuiltins x=some (.builtin id))(ha:SA X G F (e::es) (z0c ms))(hn:x≠ "__name__" :=by decide)(hdb:(x==("__debug__" :Str))=false:=by decide)
 (he:starEach (e::es) X.env=(false,eval e X.env)::starEach es X.env:=by rfl) (hpl:(backTo pos (starEach es X.env)).any (·.1)=false:=by rfl):SE X G F (.Call (.Name x p) (e::es) [] pos) (mCB ms g):=
 PE.imp hk (z5l hc hgl hm hv ha hn hdb he hpl) fun _ _ _ h=>z2u hg h
theorem z6J{x:Str}{p:Pos}{es:List Expr}{ms:List (M D)}{g:List D->M D}{T:String}{r:List V->Hp->VK->Prop}(hk:X.K=G.K)(hc:CallR X (.type T) r)(hg:z0K G F r g)(hgl:Gl X x)(hm:X.mg x=none)(hv:bootBuiltins x=some (.type T))(ha:SA X G F (e::es) (z0c ms))(hn:x≠ "__name__" :=by decide)(hdb:(x==("__debug__" :Str))=false:=by decide)
 (he:starEach (e::es) X.env=(false,eval e X.env)::starEach es X.env:=by rfl) (hpl:(backTo pos (starEach es X.env)).any (·.1)=false:=by rfl):SE X G F (.Call (.Name x p) (e::es) [] pos) (mCB ms g):=
 PE.imp hk (z6u hc hgl hm hv ha hn hdb he hpl) fun _ _ _ h=>z2u hg h
noncomputable def mVar(i:Nat):M D:=fun s=>match s.σ[i]? with
 |some (some t)=> .ok t s
 |_=> .no
theorem se_var(i:Nat){x:Str}(hk:X.K=G.K)(h:PE X (.Name x pos) (tVar i)):SE X G F (.Name x pos) (mVar i):=by
 refine PE.imp hk h fun σ H Q ⟨tv,hs,ρ,s,M,W⟩=> ?_
 unfold mVar at W
 cases e:s.σ[i]? with
 |none=>rw[e] at W;exact W.elim
 |some o=>
  cases o with
  |none=>rw[e] at W;exact W.elim
  |some t=>
   rw[e] at W
   obtain⟨v,h1,h2⟩:=M.sl.get i t e
   refine⟨v,h1,fun _=>W ρ v H ⟨M,RDs.one h2,fun l hl=> ?_⟩⟩
   simp only[labsL,List.append_nil] at hl
   have:=z1W e l hl
   exact⟨M.lab l (List.mem_append_left _ this),M.own l (List.mem_append_left _ this)⟩
noncomputable def cV:D->Option V
 | .non=>some .non| .bool b=>some (.bl b)| .int i=>some (.int i)| .str x=>some (.str x)|_=>none
theorem z5X{d:D}{v:V}{ρ:Nat->Addr}{H:Hp}(h:cV d=some v):RD G ρ H d v/\labs d=[]:=by
 cases d<;>simp only[cV,Option.some.injEq] at h<;>first|(subst h;exact⟨by simp only[RD],by simp only[labs]⟩)|cases h
noncomputable def mC(d:D):M D:=rt d
theorem se_c{d:D}{v:V}(hk:X.K=G.K)(h:PE X e (tC v))(hd:cV d=some v:=by rfl):SE X G F e (mC d):=by
 refine PE.imp hk h fun σ H Q ⟨tv,hs,ρ,s,M,W⟩ _=>W ρ v H ⟨M,RDs.one (z5X hd).1,fun l hl=> ?_⟩
 simp only[labsL,(z5X (G:=G) (ρ:=ρ) (H:=H) hd).2] at hl
 cases hl
theorem wM.out{σv tv:List (Option V)}{s:Stt}{t:D}{v:V}{ρ:Nat->Addr}{H:Hp}{Q:VK}(W:wM G F σv tv (.ok t s) Q)(M:MR G F.toFx ρ H σv tv s)(h:RD G ρ H t v)(hl: ∀l∈labs t,l<s.n/\(F.A0 (ρ l)\/F.H0 (ρ l)=none)):Q v H:=
 W ρ v H ⟨M,RDs.one h,fun l q=>hl l (by simpa only[labsL,List.append_nil] using q)⟩
theorem wM.flat{σv tv:List (Option V)}{s:Stt}{t:D}{v:V}{ρ:Nat->Addr}{H:Hp}{Q:VK}(W:wM G F σv tv (.ok t s) Q)(M:MR G F.toFx ρ H σv tv s)(h:cV t=some v):Q v H:=
 W.out M (z5X h).1 fun l q=>by rw[(z5X (G:=G) (ρ:=ρ) (H:=H) h).2] at q;cases q
end
mutual
noncomputable def er:D->PyData
 | .non=> .none| .bool b=> .bool b| .int i=> .int i| .str x=> .str x
 | .tup ds=> .tuple (erL ds)
 | .ro ds=> .list (erL ds)
 | .lst _ ds=> .list (erL ds)
 | .dct _ _ _=> .none
 | .obj _ _ _ _=> .none
 | .exc _=> .none| .fn _=> .none| .fdc _ _=> .none
noncomputable def erL:List D->List PyData
 |[]=>[]
 |d::ds=>er d::erL ds
end
mutual
noncomputable def plain:D->Bool
 | .non=>true| .bool _=>true| .int _=>true| .str _=>true
 | .tup ds=>plainL ds
 | .ro ds=>plainL ds
 | .lst _ ds=>plainL ds
 | .dct _ _ _=>false
 | .obj _ _ _ _=>false
 | .exc _=>false| .fn _=>false| .fdc _ _=>false
noncomputable def plainL:List D->Bool
 |[]=>true
 |d::ds=>plain d&&plainL ds
end
noncomputable def seqD:D->Option (List D)
 | .tup ds=>some ds| .ro ds=>some ds| .lst _ ds=>some ds|_=>none
noncomputable def lstD:D->Option (List D)
 | .ro ds=>some ds| .lst _ ds=>some ds|_=>none
section
variable{G:Gx}{F:Fy}{ρ:Nat->Addr}{H H':Hp}{σv tv:List (Option V)}{s:Stt}{t t':D}{v u:V}{ts ds:List D}{vs xs:List V}{Q:VK}
mutual
theorem RD.dp: ∀(t:D) (v:V),RD G ρ H t v->plain t=true->Dp G.K H (er t) v
 | .non,v,h,_=>by simp only[RD,er,Dp] at h⊢;exact h
 | .bool b,v,h,_=>by simp only[RD,er,Dp] at h⊢;exact h
 | .int b,v,h,_=>by simp only[RD,er,Dp] at h⊢;exact h
 | .str b,v,h,_=>by simp only[RD,er,Dp] at h⊢;exact h
 | .tup ds,v,h,p=>by
  simp only[RD,er,Dp,plain] at h p⊢
  obtain⟨a,xs,e,s,r⟩:=h
  exact⟨a,xs,e,SqT.of s,RDs.dp ds xs r p⟩
 | .ro ds,v,h,p=>by
  simp only[RD,er,Dp,plain] at h p⊢
  obtain⟨a,xs,e,s,r⟩:=h
  exact⟨a,xs,e,s.sq,RDs.dp ds xs r p⟩
 | .lst l ds,v,h,p=>by
  simp only[RD,er,Dp,plain] at h p⊢
  obtain⟨e,xs,s,r⟩:=h
  exact⟨_,xs,e,SqL.of s,RDs.dp ds xs r p⟩
 | .dct l ks vs,v,h,p=>by simp only[plain] at p;cases p
 | .fdc ks vs,v,h,p=>by simp only[plain] at p;cases p
 | .obj l c ns vs,v,h,p=>by simp only[plain] at p;cases p
 | .exc c,v,h,p=>by simp only[plain] at p;cases p
 | .fn c,v,h,p=>by simp only[plain] at p;cases p
theorem RDs.dp: ∀(t:List D) (v:List V),RDs G ρ H t v->plainL t=true->DpAll G.K H (erL t) v
 |[],v,h,_=>by simp only[RDs,erL,DpAll] at h⊢;exact h
 |d::ds,v,h,p=>by
  simp only[RDs,erL,DpAll,plainL,Bool.and_eq_true] at h p⊢
  obtain⟨x,r,e,h1,h2⟩:=h
  exact⟨x,r,e,RD.dp d x h1 p.1,RDs.dp ds r h2 p.2⟩
end
theorem RD.seq(h:RD G ρ H t v)(e:seqD t=some ds): ∃a xs,v= .ref a/\(SqL G.K H a xs\/SqT G.K H a xs)/\RDs G ρ H ds xs/\∀l∈labsL ds,l∈labs t:=by
 cases t<;>simp only[seqD,Option.some.injEq] at e<;>try cases e
 ·simp only[RD] at h
  obtain⟨a,xs,e,s,r⟩:=h
  exact⟨a,xs,e, .inr (SqT.of s),r,fun l hl=>by simp only[labs];exact hl⟩
 ·simp only[RD] at h
  obtain⟨a,xs,e,s,r⟩:=h
  exact⟨a,xs,e, .inl s.sq,r,fun l hl=>by simp only[labs];exact hl⟩
 ·simp only[RD] at h
  obtain⟨e,xs,s,r⟩:=h
  exact⟨_,xs,e, .inl (SqL.of s),r,fun l hl=>by simp only[labs];exact List.mem_cons_of_mem _ hl⟩
theorem RD.lstq(h:RD G ρ H t v)(e:lstD t=some ds): ∃a xs,v= .ref a/\SqL G.K H a xs/\RDs G ρ H ds xs/\∀l∈labsL ds,l∈labs t:=by
 cases t<;>simp only[lstD,Option.some.injEq] at e<;>try cases e
 ·simp only[RD] at h
  obtain⟨a,xs,e,s,r⟩:=h
  exact⟨a,xs,e,s.sq,r,fun l hl=>by simp only[labs];exact hl⟩
 ·simp only[RD] at h
  obtain⟨e,xs,s,r⟩:=h
  exact⟨_,xs,e,SqL.of s,r,fun l hl=>by simp only[labs];exact List.mem_cons_of_mem _ hl⟩
theorem RD.tupx(h:RD G ρ H (.tup ds) v): ∃a xs,v= .ref a/\H a=some (.tup xs)/\RDs G ρ H ds xs:=by
 simp only[RD] at h;exact h
theorem RD.tupq(h:RD G ρ H (.tup ds) v): ∃a xs,v= .ref a/\SqT G.K H a xs/\RDs G ρ H ds xs:=by
 obtain⟨a,xs,e,s,r⟩:=h.tupx
 exact⟨a,xs,e,SqT.of s,r⟩
theorem RD.seqx(h:RD G ρ H t v)(e:seqD t=some ds): ∃a xs,v= .ref a/\(SqL G.K H a xs\/H a=some (.tup xs))/\RDs G ρ H ds xs/\∀l∈labsL ds,l∈labs t:=by
 cases t<;>simp only[seqD,Option.some.injEq] at e<;>try cases e
 ·simp only[RD] at h
  obtain⟨a,xs,e,s,r⟩:=h
  exact⟨a,xs,e, .inr s,r,fun l hl=>by simp only[labs];exact hl⟩
 ·simp only[RD] at h
  obtain⟨a,xs,e,s,r⟩:=h
  exact⟨a,xs,e, .inl s.sq,r,fun l hl=>by simp only[labs];exact hl⟩
 ·simp only[RD] at h
  obtain⟨e,xs,s,r⟩:=h
  exact⟨_,xs,e, .inl (SqL.of s),r,fun l hl=>by simp only[labs];exact List.mem_cons_of_mem _ hl⟩
theorem MRL.lb1(M:MRL G F.toFx ρ H σv tv s [t] [v]): ∀l∈labs t,l<s.n/\(F.A0 (ρ l)\/F.H0 (ρ l)=none):=fun l h=>M.lb l (by simp only[labsL,List.append_nil];exact h)
theorem MRL.lb2(M:MRL G F.toFx ρ H σv tv s [t,t'] [v,u]):(∀l∈labs t,l<s.n/\(F.A0 (ρ l)\/F.H0 (ρ l)=none))/\(∀l∈labs t',l<s.n/\(F.A0 (ρ l)\/F.H0 (ρ l)=none)):=
 ⟨fun l h=>M.lb l (by simp only[labsL,List.append_nil];exact List.mem_append_left _ h),fun l h=>M.lb l (by simp only[labsL,List.append_nil];exact List.mem_append_right _ h)⟩
noncomputable abbrev LB(F:Fx)(ρ:Nat->Addr)(n:Nat)(ls:List Nat):Prop:= ∀l∈ls,l<n/\(F.A0 (ρ l)\/F.H0 (ρ l)=none)
theorem z3w(W:wM G F σv tv (.ok (.tup ds) s) Q)(M:MR G F.toFx ρ H σv tv s)(r:RDs G ρ H ds xs)(lb:LB F.toFx ρ s.n (labsL ds)):NewX G.K H xs (fun w H'=>KD G.K H'->Q w H'):=by
 refine NewX.intro fun p H' sq sm k=> ?_
 exact W.out (M.same sm k) (by simp only[RD];exact⟨p,xs,rfl,sq,r.same sm⟩) (by simp only[labs];exact lb)
theorem z6K{p:Addr}(W:wM G F σv tv (.ok (.tup ds) s) Q)(M:MR G F.toFx ρ H σv tv s)(r:RDs G ρ H ds xs)(lb:LB F.toFx ρ s.n (labsL ds))(hp:H p=none)(k:KD G.K (upd H p (.tup xs))):Q (.ref p) (upd H p (.tup xs)):=by
 have sm:=Same.new (.tup xs) hp
 exact W.out (M.same sm k) (by simp only[RD];exact⟨p,xs,rfl,z0e,r.same sm⟩) (by simp only[labs];exact lb)
theorem RDs.ext{p:Addr}{o:HO}(M:MR G F.toFx ρ H σv tv s)(r:RDs G ρ H ds xs)(lb:LB F.toFx ρ s.n (labsL ds))(hp:H p=none):RDs G (ext ρ s.n p) (upd H p o) ds xs:=
 RDs.stay (z0N.of (Same.new o hp)) ds xs r fun l hl=>⟨z0k (lb l hl).1,fun o e=>Same.new _ hp _ _ e⟩
theorem z0S{p:Addr}(W:wM G F σv tv (.ok (.lst s.n ds) s.nxt) Q)(M:MR G F.toFx ρ H σv tv s)(r:RDs G ρ H ds xs)(lb:LB F.toFx ρ s.n (labsL ds))(hp:H p=none)(k:KD G.K (upd H p (.lst xs))):Q (.ref p) (upd H p (.lst xs)):=by
 refine W.out (M.new hp k) ?_ fun l hl=> ?_
 ·simp only[RD]
  rw[z0G]
  exact⟨rfl,xs,z0e,RDs.ext M r lb hp⟩
 ·simp only[labs] at hl
  rcases List.mem_cons.mp hl with q|q
  ·rw[q]
   exact⟨Nat.lt_succ_self _,by rw[z0G];exact .inr (M.fresh0 hp)⟩
  ·obtain⟨h1,h2⟩:=lb l q
   exact⟨Nat.lt_succ_of_lt h1,by rw[z0k h1];exact h2⟩
end
noncomputable def newL(ds:List D):M D:=fun s=> .ok (.lst s.n ds) s.nxt
noncomputable def addD:D->D->M D
 | .int i, .int j=>rt (.int (i+j))
 | .tup a, .tup b=>if a.length+b.length<=sizeLine then rt (.tup (a++b)) else fl
 | .lst _ a, .lst _ b=>if a.length+b.length<=sizeLine then newL (a++b) else fl
 | .str a, .str b=>if a.length+b.length<=sizeLine then rt (.str (a++b)) else fl
 |_,_=>fl
noncomputable def subD:D->D->M D
 | .int i, .int j=>rt (.int (i -j))
 |_,_=>fl
instance(i j:Int):Decidable (CMul i j):=by unfold CMul;infer_instance
instance(i j:Int):Decidable (CDiv i j):=by unfold CDiv;infer_instance
instance(i j:Int):Decidable (CPow i j):=by unfold CPow;infer_instance
noncomputable def mulD:D->D->M D
 | .int i, .int j=>if CMul i j then rt (.int (i*j)) else fl
 | .lst _ a, .int k=>if -(2^63)<=k/\k<2^63/\a.length*k.toNat<=sizeLine then newL (List.flatten (List.replicate k.toNat a)) else fl
 | .tup a, .int k=>if 0<a.length/\2<=k/\k<2^63/\a.length*k.toNat<=sizeLine then rt (.tup (List.flatten (List.replicate k.toNat a))) else fl
 |_,_=>fl
noncomputable def z4e:D->D->M D
 | .int i, .int j=>if CDiv i j then rt (.int (i/j)) else fl
 |_,_=>fl
noncomputable def modD:D->D->M D
 | .int i, .int j=>if 0<j then rt (.int (i %j)) else fl
 |_,_=>fl
noncomputable def powD:D->D->M D
 | .int i, .int j=>if CPow i j then rt (.int (i^j.toNat)) else fl
 |_,_=>fl
noncomputable def ltD:D->D->M D
 | .int i, .int j=>rt (.bool (decide (i<j)))
 |_,_=>fl
noncomputable def leD:D->D->M D
 | .int i, .int j=>rt (.bool (decide (i<=j)))
 |_,_=>fl
noncomputable def gtD:D->D->M D
 | .int i, .int j=>rt (.bool (decide (j<i)))
 |_,_=>fl
noncomputable def eqC(t t':D):Bool:=plain t&&plain t'&&(er t).canLay0&&(er t').canLay0&&decide (min (er t).depth (er t').depth<=60)
noncomputable def eqD(t t':D):M D:=if eqC t t'=true then rt (.bool (PyData.eqv (er t) (er t'))) else fl
noncomputable def neD(t t':D):M D:=if eqC t t'=true then rt (.bool (!PyData.eqv (er t) (er t'))) else fl
noncomputable def inC(t:D)(ds:List D):Bool:=plain t&&plainL ds&&(er t).canLay0&&PyData.canLayAll0 (erL ds)&&decide (min (PyData.depthAll (erL ds)) (er t).depth<=60)
noncomputable def ninD(t t':D):M D:=match seqD t' with
 |some ds=>if inC t ds=true then rt (.bool (!(erL ds).any fun y=>PyData.eqv y (er t))) else fl
 |none=>fl
noncomputable def optM:Option D->M D
 |some d=>rt d
 |none=>fl
noncomputable def ixG:Option (List D)->D->M D
 |some ds, .int i=>optM (atI ds i)
 |_,_=>fl
noncomputable def ixD(t t':D):M D:=ixG (seqD t) t'
noncomputable def negD:D->M D
 | .int i=>rt (.int (-i))
 |_=>fl
section
variable{G:Gx}{F:Fy}
theorem wfl{σv tv:List (Option V)}{s:Stt}{Q:VK}{A:Prop}(h:wM G F σv tv ((fl:M D) s) Q):A:=False.elim h
theorem z3x{ρ:Nat->Addr}{H:Hp}{σv tv:List (Option V)}{s:Stt}{i j:Int}{v u:V}(M:MRL G F.toFx ρ H σv tv s [.int i, .int j] [v,u]):v= .int i/\u= .int j:=by
 obtain⟨h1,h2⟩:=M.rd2
 simp only[RD] at h1 h2
 exact⟨h1,h2⟩
theorem zbP:OpOK G F (fun x y H Q=>rI0 (fun i j=> .int (i+j)) x y H Q\/za5 G.K x y H Q\/rCat x y H Q\/∃i j,x= .str i/\y= .str j/\i.length+j.length<=sizeLine/\Q (.str (i++j)) H) addD:=by
 intro ρ s t t' v u H σv tv Q M W
 unfold addD at W
 split at W
 ·obtain⟨rfl,rfl⟩:=z3x M
  exact .inl ⟨_,_,rfl,rfl,fun _=>W.flat M.m rfl⟩
 ·split at W
  ·rename_i a b hz
   obtain⟨h1,h2⟩:=M.rd2
   obtain⟨l1,l2⟩:=M.lb2
   obtain⟨p,xs,rfl,s1,r1⟩:=h1.tupx
   obtain⟨q,ys,rfl,s2,r2⟩:=h2.tupx
   refine .inr (.inl ⟨p,q,xs,ys,rfl,rfl,s1,s2,by rw[<-r1.length,<-r2.length];exact hz,z3w W M.m (r1.append r2) ?_⟩)
   rw[z0q]
   intro l hl
   rcases List.mem_append.mp hl with q|q
   ·exact l1 l (by simpa only[labs] using q)
   ·exact l2 l (by simpa only[labs] using q)
  ·exact wfl W
 ·split at W
  ·rename_i la a lb b hz
   obtain⟨h1,h2⟩:=M.rd2
   obtain⟨l1,l2⟩:=M.lb2
   simp only[RD] at h1 h2
   obtain⟨rfl,xs,s1,r1⟩:=h1
   obtain⟨rfl,ys,s2,r2⟩:=h2
   refine .inr (.inr (.inl ⟨_,_,xs,ys,rfl,rfl,s1,s2,by rw[<-r1.length,<-r2.length];exact hz,fun p hp k=>z0S W M.m (r1.append r2) ?_ hp k⟩))
   rw[z0q]
   intro l hl
   rcases List.mem_append.mp hl with q|q
   ·exact l1 l (by simp only[labs];exact List.mem_cons_of_mem _ q)
   ·exact l2 l (by simp only[labs];exact List.mem_cons_of_mem _ q)
  ·exact wfl W
 ·split at W
  ·rename_i a b hz
   obtain⟨h1,h2⟩:=M.rd2
   simp only[RD] at h1 h2
   subst h1 h2
   exact .inr (.inr (.inr ⟨_,_,rfl,rfl,hz,fun _=>W.flat M.m rfl⟩))
  ·exact wfl W
 ·exact wfl W
theorem zbQ:OpOK G F (rI0 fun i j=> .int (i -j)) subD:=by
 intro ρ s t t' v u H σv tv Q M W
 unfold subD at W
 split at W
 ·obtain⟨rfl,rfl⟩:=z3x M
  exact⟨_,_,rfl,rfl,fun _=>W.flat M.m rfl⟩
 ·exact wfl W
theorem zad:OpOK G F (rI CDiv fun i j=> .int (i/j)) z4e:=by
 intro ρ s t t' v u H σv tv Q M W
 unfold z4e at W
 split at W
 ·split at W
  ·rename_i hc
   obtain⟨rfl,rfl⟩:=z3x M
   exact⟨_,_,rfl,rfl,hc,fun _=>W.flat M.m rfl⟩
  ·exact wfl W
 ·exact wfl W
theorem zbR:OpOK G F (rI (fun _ j=>0<j) fun i j=> .int (i %j)) modD:=by
 intro ρ s t t' v u H σv tv Q M W
 unfold modD at W
 split at W
 ·split at W
  ·rename_i hc
   obtain⟨rfl,rfl⟩:=z3x M
   exact⟨_,_,rfl,rfl,hc,fun _=>W.flat M.m rfl⟩
  ·exact wfl W
 ·exact wfl W
theorem zbS:OpOK G F (rI CPow fun i j=> .int (i^j.toNat)) powD:=by
 intro ρ s t t' v u H σv tv Q M W
 unfold powD at W
 split at W
 ·split at W
  ·rename_i hc
   obtain⟨rfl,rfl⟩:=z3x M
   exact⟨_,_,rfl,rfl,hc,fun _=>W.flat M.m rfl⟩
  ·exact wfl W
 ·exact wfl W
theorem zdA:z1X G F (rI0 fun i j=> .bl (decide (i<j))) ltD:=by
 intro ρ s t t' v u H σv tv Q M W
 unfold ltD at W
 split at W
 ·obtain⟨rfl,rfl⟩:=z3x M
  exact⟨_,_,rfl,rfl,W.flat M.m rfl⟩
 ·exact wfl W
theorem zdB:z1X G F (rI0 fun i j=> .bl (decide (i<=j))) leD:=by
 intro ρ s t t' v u H σv tv Q M W
 unfold leD at W
 split at W
 ·obtain⟨rfl,rfl⟩:=z3x M
  exact⟨_,_,rfl,rfl,W.flat M.m rfl⟩
 ·exact wfl W
theorem zdC:z1X G F (rI0 fun i j=> .bl (decide (j<i))) gtD:=by
 intro ρ s t t' v u H σv tv Q M W
 unfold gtD at W
 split at W
 ·obtain⟨rfl,rfl⟩:=z3x M
  exact⟨_,_,rfl,rfl,W.flat M.m rfl⟩
 ·exact wfl W
theorem zdD:z1X G F (rEqD G.K false) eqD:=by
 intro ρ s t t' v u H σv tv Q M W
 unfold eqD at W
 split at W
 ·rename_i hc
  simp only[eqC,Bool.and_eq_true,decide_eq_true_eq] at hc
  obtain⟨⟨⟨⟨c1,c2⟩,c3⟩,c4⟩,c5⟩:=hc
  obtain⟨h1,h2⟩:=M.rd2
  exact⟨er t,er t',RD.dp _ _ h1 c1,RD.dp _ _ h2 c2,c3,c4,c5,W.flat M.m rfl⟩
 ·exact wfl W
theorem zdE:z1X G F (rEqD G.K true) neD:=by
 intro ρ s t t' v u H σv tv Q M W
 unfold neD at W
 split at W
 ·rename_i hc
  simp only[eqC,Bool.and_eq_true,decide_eq_true_eq] at hc
  obtain⟨⟨⟨⟨c1,c2⟩,c3⟩,c4⟩,c5⟩:=hc
  obtain⟨h1,h2⟩:=M.rd2
  exact⟨er t,er t',RD.dp _ _ h1 c1,RD.dp _ _ h2 c2,c3,c4,c5,W.flat M.m rfl⟩
 ·exact wfl W
theorem RD.dpSeq{ρ:Nat->Addr}{H:Hp}{t:D}{v:V}{ds:List D}(h:RD G ρ H t v)(e:seqD t=some ds)(p:plainL ds=true):Dp G.K H (.list (erL ds)) v\/Dp G.K H (.tuple (erL ds)) v:=by
 obtain⟨a,xs,rfl,sq,r,_⟩:=h.seq e
 have d:=RDs.dp ds xs r p
 rcases sq with sq|sq
 ·exact .inl (by simp only[Dp];exact⟨a,xs,rfl,sq,d⟩)
 ·exact .inr (by simp only[Dp];exact⟨a,xs,rfl,sq,d⟩)
theorem zbT:z1X G F (rInD G.K true) ninD:=by
 intro ρ s t t' v u H σv tv Q M W
 unfold ninD at W
 cases e:seqD t' with
 |some ds=>
  rw[e] at W
  dsimp only at W
  split at W
  ·rename_i hc
   simp only[inC,Bool.and_eq_true,decide_eq_true_eq] at hc
   obtain⟨⟨⟨⟨c1,c2⟩,c3⟩,c4⟩,c5⟩:=hc
   obtain⟨h1,h2⟩:=M.rd2
   exact⟨er t,erL ds,RD.dp _ _ h1 c1,h2.dpSeq e c2,c3,c4,c5,W.flat M.m rfl⟩
  ·exact wfl W
 |none=>rw[e] at W;exact wfl W
theorem zbU{ρ:Nat->Addr}{H:Hp}{ds:List D}{xs:List V}{i:Int}{d:D}(r:RDs G ρ H ds xs)(e:atI ds i=some d): ∃x,atI xs i=some x/\RD G ρ H d x:=by
 unfold atI at e⊢
 rw[<-r.length]
 cases e1:ixN ds.length i with
 |none=>rw[e1] at e;cases e
 |some j=>
  rw[e1] at e
  exact r.get j d e
theorem zae{α:Type}{ds:List α}{i:Int}{d:α}(e:atI ds i=some d):d∈ds:=by
 unfold atI at e
 cases e1:ixN ds.length i with
 |none=>rw[e1] at e;cases e
 |some j=>
  rw[e1] at e
  exact List.mem_of_getElem? e
theorem zdF:OpOK G F (fun x y H Q=>rIxL G.K x y H Q\/rIxT G.K x y H Q) ixD:=by
 intro ρ s t t' v u H σv tv Q M W
 obtain⟨h1,h2⟩:=M.rd2
 unfold ixD at W
 cases e:seqD t with
 |none=>rw[e] at W;exact False.elim W
 |some ds=>
  rw[e] at W
  cases t' with
  |int i=>
   have W:wM G F σv tv (optM (atI ds i) s) Q:=W
   cases ea:atI ds i with
   |some d=>
    rw[ea] at W
    obtain⟨a,xs,rfl,sq,r,sub⟩:=h1.seq e
    obtain⟨x,ex,rx⟩:=zbU r ea
    simp only[RD] at h2
    subst h2
    have fin:KD G.K H->Q x H:=fun _=>W.out M.m rx fun l hl=>M.lb2.1 l (sub l (labsL_mem (zae ea) l hl))
    rcases sq with sq|sq
    ·exact .inl ⟨a,xs,i,x,rfl,rfl,sq,ex,fin⟩
    ·exact .inr ⟨a,xs,i,x,rfl,rfl,sq,ex,fin⟩
   |none=>rw[ea] at W;exact False.elim W
  |_=>exact False.elim W
theorem zbV:UnOK G F (rU fun i=> .int (-i)) negD:=by
 intro ρ s t v H σv tv Q M W
 unfold negD at W
 split at W
 ·have h:=M.rd1
  simp only[RD] at h
  exact⟨_,h,fun _=>W.flat M.m rfl⟩
 ·exact wfl W
end
section
variable{X:Cx}{G:Gx}{F:Fy}{e a b c:Expr}{pos:Pos}
theorem RDs.flat{ρ:Nat->Addr}{H:Hp}{ds:List D}{xs:List V}(r:RDs G ρ H ds xs): ∀k:Nat,RDs G ρ H (List.replicate k ds).flatten (List.replicate k xs).flatten
 |0=>by simp[RDs]
 |k+1=>by
  rw[List.replicate_succ,List.replicate_succ,List.flatten_cons,List.flatten_cons]
  exact r.append (RDs.flat r k)
theorem z29{ds:List D}{l:Nat}: ∀k:Nat,l∈labsL (List.replicate k ds).flatten->l∈labsL ds
 |0,h=>by simp[labsL] at h
 |k+1,h=>by
  rw[List.replicate_succ,List.flatten_cons,z0q] at h
  rcases List.mem_append.mp h with h|h
  ·exact h
  ·exact z29 k h
theorem zbW:OpOK G F (fun x y H Q=>rI CMul (fun i j=> .int (i*j)) x y H Q\/(rRep x y H Q\/za7 G.K x y H Q)) mulD:=by
 intro ρ s t t' v u H σv tv Q M W
 unfold mulD at W
 split at W
 ·split at W
  ·rename_i hc
   obtain⟨rfl,rfl⟩:=z3x M
   exact .inl ⟨_,_,rfl,rfl,hc,fun _=>W.flat M.m rfl⟩
  ·exact wfl W
 ·split at W
  ·rename_i la a k hc
   obtain⟨h1,h2⟩:=M.rd2
   obtain⟨l1,l2⟩:=M.lb2
   simp only[RD] at h1 h2
   obtain⟨rfl,xs,s1,r1⟩:=h1
   subst h2
   refine .inr (.inl ⟨_,k,xs,rfl,rfl,s1,hc.1,hc.2.1,by rw[<-r1.length];exact hc.2.2,fun p hp kd=>z0S W M.m (r1.flat _) (fun l hl=> ?_) hp kd⟩)
   exact l1 l (by simp only[labs];exact List.mem_cons_of_mem _ (z29 _ hl))
  ·exact wfl W
 ·split at W
  ·rename_i a k hc
   obtain⟨h1,h2⟩:=M.rd2
   obtain⟨l1,l2⟩:=M.lb2
   simp only[RD] at h1 h2
   obtain⟨a',xs,rfl,s1,r1⟩:=h1
   subst h2
   refine .inr (.inr ⟨_,k,xs,rfl,rfl,SqT.of s1,by rw[<-r1.length];exact hc.1,hc.2.1,hc.2.2.1,by rw[<-r1.length];exact hc.2.2.2,fun p hp kd=>z6K W M.m (r1.flat _) (fun l hl=> ?_) hp kd⟩)
   exact l1 l (by simp only[labs];exact z29 _ hl)
  ·exact wfl W
 ·exact wfl W
noncomputable def cutA{α:Type}(xs:List α)(lo hi:Option Int):List α:=(xs.drop (HT.sIx xs.length 0 lo)).take (HT.sIx xs.length xs.length hi -HT.sIx xs.length 0 lo)
noncomputable def slD:D->Option Int->Option Int->M D
 | .tup ds,lo,hi=>rt (.tup (cutA ds lo hi))
 | .lst _ ds,lo,hi=>newL (cutA ds lo hi)
 | .ro ds,lo,hi=>newL (cutA ds lo hi)
 |_,_,_=>fl
theorem RDs.cut{ρ:Nat->Addr}{H:Hp}{ds:List D}{xs:List V}(r:RDs G ρ H ds xs)(lo hi:Option Int):RDs G ρ H (cutA ds lo hi) (cutV xs lo hi):=by
 unfold cutA cutV
 rw[r.length]
 exact(r.drop _).take _
theorem z2H{ds:List D}{lo hi:Option Int}{l:Nat}(h:l∈labsL (cutA ds lo hi)):l∈labsL ds:=by
 obtain⟨d,h1,h2⟩:=z0O h
 exact labsL_mem (List.mem_of_mem_drop (List.mem_of_mem_take h1)) l h2
noncomputable def mInt(d:D):Option Int:=match d with| .int i=>some i|_=>none
noncomputable def z3a:Option (M D)->M (Option Int)
 |none=>rt none
 |some m=>bd m fun d=>match mInt d with|some i=>rt (some i)|none=>fl
noncomputable def tP(G:Gx)(F:Fy)(m:M (Option Int)):TO:=fun σv H Q=> ∃tv,F.tv0<:+tv/\∃ρ s,MR G F.toFx ρ H σv tv s/\(match m s with
 | .ok o s'=> ∀ρ' H',MR G F.toFx ρ' H' σv tv s'->Q o H'
 | .ex d s'=>F.xw d s'
 | .no=>False)
noncomputable def SO(X:Cx)(G:Gx)(F:Fy)(e:Option Expr)(m:Option (M D)):Prop:=PO X e (tP G F (z3a m))
theorem so_none:SO X G F none none:=by
 intro pins s σ H Q I ⟨tv,hs,ρ,ms,M,W⟩
 exact z9U pins s σ H Q I (W ρ H M)
theorem so_some{m:M D}(h:SE X G F e m):SO X G F (some e) (some m):=by
 intro pins s σ H Q I ⟨tv,hs,ρ,ms,M,W⟩
 refine z6w h pins s σ H Q I ⟨tv,hs,ρ,ms,M, ?_⟩
 simp only[z3a,bd] at W
 cases e1:m ms with
 |ok d s1=>
  rw[e1] at W
  intro ρ' v H' M'
  cases d with
  |int i=>
   have h:=M'.rd1
   simp only[RD] at h
   exact⟨i,h,W ρ' H' M'.m⟩
  |_=>exact False.elim W
 |ex d s1=>rw[e1] at W;exact W
 |no=>rw[e1] at W;exact W
noncomputable def mSl(m:M D)(lo hi:Option (M D)):M D:=bd m fun x=>bd (psh x) fun _=>bd (z3a lo) fun l=>bd (z3a hi) fun h=>bd pop fun x'=>slD x' l h
theorem zdG{ρ:Nat->Addr}{s:Stt}{t:D}{v:V}{H:Hp}{σv tv:List (Option V)}{lo hi:Option Int}{Q:VK}(M:MRL G F.toFx ρ H σv tv s [t] [v])(W:wM G F σv tv (slD t lo hi s) Q):
 rSlX G.K v lo hi H (fun w H'=>KD G.K H'->Q w H')\/rSlL G.K v lo hi H (fun w H'=>KD G.K H'->Q w H'):=by
 have h:=M.rd1
 cases t with
 |tup ds=>
  obtain⟨p,xs,rfl,s1,r1⟩:=h.tupx
  exact .inl ⟨p,xs,rfl,s1,z3w W M.m (r1.cut lo hi) fun l hl=>M.lb1 l (by simp only[labs];exact z2H hl)⟩
 |lst n ds=>
  obtain⟨p,xs,rfl,s1,r1,_⟩:=h.lstq (ds:=ds) rfl
  exact .inr ⟨p,xs,rfl,s1,fun q hq k=>z0S W M.m (r1.cut lo hi) (fun l hl=>M.lb1 l (by simp only[labs];exact List.mem_cons_of_mem _ (z2H hl))) hq k⟩
 |ro ds=>
  obtain⟨p,xs,rfl,s1,r1,_⟩:=h.lstq (ds:=ds) rfl
  exact .inr ⟨p,xs,rfl,s1,fun q hq k=>z0S W M.m (r1.cut lo hi) (fun l hl=>M.lb1 l (by simp only[labs];exact z2H hl)) hq k⟩
 |_=>exact False.elim W
theorem se_slice{lo hi:Option Expr}{p2:Pos}{m:M D}{ml mh:Option (M D)}(hk:X.K=G.K)(he:SE X G F e m)(hl:SO X G F lo ml)(hh:SO X G F hi mh):SE X G F (.Subscript e (.Slice lo hi none p2) pos) (mSl m ml mh):=by
 refine PE.imp hk (z8g (r:=fun x lo hi H Q=>rSlX X.K x lo hi H Q\/rSlL X.K x lo hi H Q) (SlR.or za4 z9Y) he hl hh) fun σ H Q ⟨tv,h⟩=>⟨tv, ?_⟩
 obtain⟨hs,ρ,s,M,W⟩:=z5V h
 refine⟨hs,ρ,s,M,W.mono fun v H1 ⟨ρ1,s1,t,M1,W1⟩=>⟨some v::tv,suf1 hs,ρ1,s1.psh t,M1.push, ?_⟩⟩
 simp only[bd,psh] at W1
 cases e1:z3a ml (s1.psh t) with
 |ex d s2=>rw[e1] at W1;exact W1
 |no=>rw[e1] at W1;exact W1
 |ok l s2=>
  rw[e1] at W1
  intro ρ2 H2 M2
  refine⟨some v::tv,suf1 hs,ρ2,s2,M2, ?_⟩
  dsimp only at W1
  cases e2:z3a mh s2 with
  |ex d s3=>rw[e2] at W1;exact W1
  |no=>rw[e2] at W1;exact W1
  |ok h s3=>
   rw[e2] at W1
   intro ρ3 H3 M3
   simp only[pop] at W1
   cases e3:s3.tm with
   |nil=>rw[e3] at W1;exact W1.elim
   |cons o r=>
    cases o with
    |none=>rw[e3] at W1;exact W1.elim
    |some t'=>
     rw[e3] at W1
     have M4:MRL G F.toFx ρ3 H3 σ tv {s3 with tm:=r} [t'] [v]:=MRL.down (ts:=[]) (vs:=[]) ⟨M3,rfl,fun l h=>by simp[labsL] at h⟩ e3
     rw[hk]
     exact zdG M4 W1
noncomputable def tupD(ts:List D):M D:=if ts.length<=sizeLine then rt (.tup ts) else fl
noncomputable def lstM(ts:List D):M D:=if ts.length<=sizeLine then newL ts else fl
theorem zbX:z0K G F (fun xs H1 Q=>xs.length<=sizeLine/\∀p,H1 p=none->Q (.ref p) (upd H1 p (.tup xs))) tupD:=by
 intro ρ s ts vs H σv tv Q M W
 unfold tupD at W
 split at W
 ·rename_i hz
  exact⟨by rw[<-M.rd.length];exact hz,fun p hp k=>z6K W M.m M.rd M.lb hp k⟩
 ·exact wfl W
theorem zbY:z0K G F (fun xs H1 Q=>xs.length<=sizeLine/\∀p,H1 p=none->Q (.ref p) (upd H1 p (.lst xs))) lstM:=by
 intro ρ s ts vs H σv tv Q M W
 unfold lstM at W
 split at W
 ·rename_i hz
  exact⟨by rw[<-M.rd.length];exact hz,fun p hp k=>z0S W M.m M.rd M.lb hp k⟩
 ·exact wfl W
theorem se_tup{es:List Expr}{ms:List (M D)}{x1}(hk:X.K=G.K)(h:SA X G F es (z0c ms)):SE X G F (.Tuple es x1 pos) (mCB ms tupD):=
 PE.imp hk (zbx h) fun _ _ _ h=>z2u zbX h
theorem se_lst{es:List Expr}{ms:List (M D)}(hk:X.K=G.K)(h:SA X G F es (z0c ms)):SE X G F (.List es pos) (mCB ms lstM):=
 PE.imp hk (zby h) fun _ _ _ h=>z2u zbY h
noncomputable def truD:D->M Bool
 | .non=>rt false
 | .bool b=>rt b
 | .int i=>rt (i !=0)
 | .str x=>if x.length<=sizeLine then rt ((x.length:Int) !=0) else fl
 | .tup ds=>rt (!ds.isEmpty)
 | .ro ds=>rt (!ds.isEmpty)
 | .lst _ ds=>rt (!ds.isEmpty)
 |_=>fl
noncomputable def z2a(m:M D):M Bool:=bd m truD
theorem z2b{ρ:Nat->Addr}{H:Hp}{ds:List D}{xs:List V}(r:RDs G ρ H ds xs):(!ds.isEmpty)= !xs.isEmpty:=by
 have:=r.length
 cases ds<;>cases xs<;>simp at this⊢
theorem zbZ{ρ:Nat->Addr}{s:Stt}{t:D}{v:V}{H:Hp}{σv tv:List (Option V)}{Q:Bool->Hp->Prop}(M:MRL G F.toFx ρ H σv tv s [t] [v])(W:wB G F σv tv (truD t s) Q): ∃k,TruV G.K v H k/\Q k H:=by
 have h:=M.rd1
 cases t with
 |non=>simp only[RD] at h;subst h;exact⟨false,rfl,W ρ H M.m⟩
 |bool b=>simp only[RD] at h;subst h;exact⟨b,rfl,W ρ H M.m⟩
 |int i=>simp only[RD] at h;subst h;exact⟨_,rfl,W ρ H M.m⟩
 |str x=>
  simp only[RD] at h;subst h
  unfold truD at W
  by_cases hz:x.length<=sizeLine
  ·simp only[if_pos hz] at W;exact⟨_,⟨hz,rfl⟩,W ρ H M.m⟩
  ·simp only[if_neg hz] at W;exact False.elim W
 |tup ds=>
  obtain⟨p,xs,rfl,s1,r1⟩:=h.tupq
  exact⟨_, .inr (.inl ⟨xs,s1,z2b r1⟩),W ρ H M.m⟩
 |ro ds=>
  obtain⟨p,xs,rfl,s1,r1,_⟩:=h.lstq (ds:=ds) rfl
  exact⟨_, .inl ⟨xs,s1,z2b r1⟩,W ρ H M.m⟩
 |lst n ds=>
  obtain⟨p,xs,rfl,s1,r1,_⟩:=h.lstq (ds:=ds) rfl
  exact⟨_, .inl ⟨xs,s1,z2b r1⟩,W ρ H M.m⟩
 |dct _ _ _=>exact False.elim W
 |fdc _ _=>exact False.elim W
 |obj _ _ _ _=>exact False.elim W
 |exc _=>exact False.elim W
 |fn _=>exact False.elim W
theorem z8o{m:M D}{σ:St}{H:Hp}{Q:Bool->Hp->Prop}(h:tMB G F (z2a m) σ H Q):tM G F m σ H fun x H'=> ∃k,TruV G.K x H' k/\Q k H':=by
 obtain⟨tv,hs,ρ,s,M,W⟩:=h
 refine⟨tv,hs,ρ,s,M, ?_⟩
 unfold z2a bd at W
 cases e:m s with
 |ok t s1=>rw[e] at W;exact fun ρ1 v H1 M1=>zbZ M1 W
 |ex d s1=>rw[e] at W;exact W
 |no=>rw[e] at W;exact W
theorem sb_truth{m:M D}(hk:X.K=G.K)(ha:SE X G F a m)(he: ∀whole,isTrue a X.env whole=(do let v<-whole;standAt a.pos;holding [v] (truthy v)):=by intro _;rfl):SB X G F a (z2a m):=by
 refine PT.imp hk (z8c ha he) fun σ H Q h=> ?_
 rw[hk]
 obtain⟨tv,h'⟩:=z8o h
 exact⟨tv,h'.mono fun v H1 ⟨k,q1,q2⟩=>⟨k,q1,fun _=>q2⟩⟩
noncomputable def booD:D->M Bool
 | .bool b=>rt b
 |_=>fl
noncomputable def mBoo(m:M D):M Bool:=bd m booD
theorem z6L{m:M D}{σ:St}{H:Hp}{Q:Bool->Hp->Prop}(h:tMB G F (mBoo m) σ H Q):tM G F m σ H fun x H'=> ∃k,x= .bl k/\Q k H':=by
 obtain⟨tv,hs,ρ,s,M,W⟩:=h
 refine⟨tv,hs,ρ,s,M, ?_⟩
 unfold mBoo bd at W
 cases e:m s with
 |ok t s1=>
  rw[e] at W
  intro ρ1 v H1 M1
  have h:=M1.rd1
  cases t with
  |bool b=>simp only[RD] at h;exact⟨b,h,W ρ1 H1 M1.m⟩
  |_=>exact False.elim W
 |ex d s1=>rw[e] at W;exact W
 |no=>rw[e] at W;exact W
theorem zaf{op:CmpOp}{r:R2}{ma mb:M D}{g:D->D->M D}(ho:OpR X (compareOp op) r)(hg:z1X G F r g)(ha:SE X G F a ma)(hb:SE X G F b mb)(hm:behindInMarks op b=false):SB X G F (.Compare a [op] [b] pos) (mBoo (mBin ma mb g)):=
 PT.imp0 (z9Q ho ha hb hm) fun _ _ _ h=>z5q hg (z6L h)
theorem zag{m:M Bool}{f:Bool->M Bool}{σ:St}{tv:List (Option V)}{H:Hp}{Q:Bool->Hp->Prop}(h:tBv G F (bd m f) σ tv H Q):tBv G F m σ tv H fun b H1=> ∃ρ1 s1,MR G F.toFx ρ1 H1 σ tv s1/\wB G F σ tv (f b s1) Q:=by
 obtain⟨hs,ρ,s,M,W⟩:=h
 refine⟨hs,ρ,s,M, ?_⟩
 unfold bd at W
 cases e:m s with
 |ok b s1=>rw[e] at W;exact fun ρ1 H1 M1=>⟨ρ1,s1,M1,W⟩
 |ex d s1=>rw[e] at W;exact W
 |no=>rw[e] at W;exact W
theorem wB.mono{σv tv:List (Option V)}{r:Res Bool}{Q Q':Bool->Hp->Prop}(h:wB G F σv tv r Q)(k: ∀v H,Q v H->Q' v H):wB G F σv tv r Q':=by
 cases r with
 |ok t s=>exact fun ρ H M=>k _ _ (h ρ H M)
 |ex d s=>exact h
 |no=>exact h
theorem tBv.mono{m:M Bool}{σv tv:List (Option V)}{H:Hp}{Q Q':Bool->Hp->Prop}(h:tBv G F m σv tv H Q)(k: ∀v H,Q v H->Q' v H):tBv G F m σv tv H Q':=by
 obtain⟨hs,ρ,s,M,W⟩:=h
 exact⟨hs,ρ,s,M,W.mono k⟩
noncomputable def iteM{α:Type}(b:Bool)(m m':M α):M α:=match b with|true=>m|false=>m'
noncomputable def mAnd(m m':M Bool):M Bool:=bd m fun b=>iteM b m' (rt false)
noncomputable def mOr(m m':M Bool):M Bool:=bd m fun b=>iteM b (rt true) m'
noncomputable def mNot(m:M Bool):M Bool:=bd m fun b=>rt (!b)
noncomputable def SW(X:Cx)(G:Gx)(F:Fy)(e:Expr)(m:M Bool):Prop:=PW X e (tMB G F m)
theorem SW.sb{m:M Bool}(h:SW X G F e m):SB X G F e m:=PW.pt h
theorem PW.imp0{t t':TT}(h:PW X e t)(hi: ∀σ H Q,t' σ H Q->t σ H Q):PW X e t':=fun wh pins s σ H Q I q=>h wh pins s σ H _ I (hi σ H Q q)
theorem sw_and1{m:M Bool}(h:SB X G F a m):SW X G F (.BoolOp .And [a] pos) m:=z9I h
theorem sw_or1{m:M Bool}(h:SB X G F a m):SW X G F (.BoolOp .Or [a] pos) m:=zbj h
theorem sw_and{rest:List Expr}{m m':M Bool}(ha:SB X G F a m)(hb:SW X G F (.BoolOp .And (b::rest) pos) m'):SW X G F (.BoolOp .And (a::b::rest) pos) (mAnd m m'):=by
 refine PW.imp0 (zbk ha hb) fun σ H Q ⟨tv,h⟩=>⟨tv,(zag h).mono fun b H1 ⟨ρ1,s1,M1,W⟩=> ?_⟩
 cases b with
 |true=>rw[if_pos rfl];exact⟨tv,h.1,ρ1,s1,M1,W⟩
 |false=>rw[if_neg Bool.false_ne_true];exact W ρ1 H1 M1
theorem sw_or{rest:List Expr}{m m':M Bool}(ha:SB X G F a m)(hb:SW X G F (.BoolOp .Or (b::rest) pos) m'):SW X G F (.BoolOp .Or (a::b::rest) pos) (mOr m m'):=by
 refine PW.imp0 (zdf ha hb) fun σ H Q ⟨tv,h⟩=>⟨tv,(zag h).mono fun b H1 ⟨ρ1,s1,M1,W⟩=> ?_⟩
 cases b with
 |true=>rw[if_pos rfl];exact W ρ1 H1 M1
 |false=>rw[if_neg Bool.false_ne_true];exact⟨tv,h.1,ρ1,s1,M1,W⟩
theorem sb_not{m:M Bool}(ha:SB X G F a m):SB X G F (.UnaryOp .Not a pos) (mNot m):=by
 refine PT.imp0 (zbl ha) fun σ H Q ⟨tv,h⟩=>⟨tv,(zag h).mono fun b H1 ⟨ρ1,s1,M1,W⟩=>W ρ1 H1 M1⟩
theorem tM.mono{m:M D}{σ:St}{H:Hp}{Q Q':VK}(h:tM G F m σ H Q)(k: ∀v H,Q v H->Q' v H):tM G F m σ H Q':=by
 obtain⟨tv,h⟩:=h
 exact⟨tv,h.mono k⟩
noncomputable def z6M(y:D)(m:M D):M D:=match cV y with|some _=>m|none=>fl
noncomputable def z2n(ma mb mc:M D)(g g':D->D->M D):M D:=bd ma fun x=>bd (psh x) fun _=>bd mb fun y=>bd pop fun x'=>z6M y (bd (mBoo (g x' y)) fun k=>iteM k (bd mc fun z=>g' y z) (rt (.bool false)))
theorem z6N{ma mb mc:M D}{g g':D->D->M D}{r r':R2}{σ:St}{H:Hp}{Q:VK}(hg:z1X G F r g)(hg':z1X G F r' g')(h:tM G F (z2n ma mb mc g g') σ H Q):z9f r r' (tM G F ma) (tM G F mb) (tM G F mc) σ H Q:=by
 obtain⟨tv,h⟩:=h
 have hs:=h.1
 refine⟨tv,(z5p (g:=fun x' y=>z6M y (bd (mBoo (g x' y)) fun k=>iteM k (bd mc fun z=>g' y z) (rt (.bool false)))) h).mono fun v H1 h1=>⟨_,h1.mono fun u H2 ⟨ρ,s,t,t',M,W⟩=> ?_⟩⟩
 unfold z6M at W
 cases e:cV t' with
 |none=>rw[e] at W;exact False.elim W
 |some u'=>
  rw[e] at W
  have hu:u=u':=by
   have h2:=M.rd2.2
   cases t'<;>simp only[cV,Option.some.injEq] at e<;>simp only[RD] at h2<;>first|(rw[h2,e])|cases e
  subst hu
  unfold bd mBoo at W
  dsimp only at W
  refine hg ρ s t t' v u H2 σ tv _ M ?_
  unfold bd at W
  cases e2:g t t' s with
  |ok z s1=>
   rw[e2] at W
   intro ρ1 w H3 M3
   have h3:=M3.rd1
   cases z with
   |bool k=>
    simp only[RD] at h3
    refine⟨k,h3, ?_⟩
    have W:wM G F σ tv (iteM k (bd mc fun z=>g' t' z) (rt (.bool false)) s1) Q:=W
    cases k with
    |false=>rw[if_neg Bool.false_ne_true];exact W.flat M3.m rfl
    |true=>
     rw[if_pos rfl]
     have h5:tMv G F (bd mc fun z=>g' t' z) σ tv H3 Q:=⟨hs,ρ1,s1,M3.m,W⟩
     refine⟨tv,(z5V h5).mono fun w' H4 ⟨ρ4,s4,t4,M4,W4⟩=>hg' ρ4 s4 t' t4 u w' H4 σ tv Q ⟨M4.m, ?_,fun l hl=> ?_⟩ W4⟩
     ·simp only[RDs];exact⟨_,_,rfl,(z5X e).1,_,_,rfl,M4.rd1,rfl⟩
     ·simp only[labsL,(z5X (G:=G) (ρ:=ρ4) (H:=H4) e).2,List.nil_append,List.append_nil] at hl
      exact M4.lb1 l hl
   |_=>exact False.elim W
  |ex d s1=>rw[e2] at W;exact W
  |no=>rw[e2] at W;exact W
theorem z8p{op op':CmpOp}{r r':R2}{ma mb mc:M D}{g g':D->D->M D}(ho:OpR X (compareOp op) r)(hg:z1X G F r g)(ho':OpR X (compareOp op') r')(hg':z1X G F r' g')(ha:SE X G F a ma)(hb:SE X G F b mb)(hc:SE X G F c mc)
 (hm:lastMarks [op,op'] [b,c]=false:=by with_unfolding_all rfl):SB X G F (.Compare a [op,op'] [b,c] pos) (mBoo (z2n ma mb mc g g')):=
 PT.imp0 (z8b ho ho' ha hb hc hm) fun _ _ _ h=>z6N hg hg' (z6L h)
end
noncomputable def lenD:List D->M D
 |[.tup ds]=>rt (.int ds.length)
 |[.ro ds]=>rt (.int ds.length)
 |[.lst _ ds]=>rt (.int ds.length)
 |_=>fl
noncomputable def absD:List D->M D
 |[.int i]=>rt (.int (if i<0 then -i else i))
 |_=>fl
noncomputable def minD:List D->M D
 |[.int i, .int j]=>rt (.int (if j<i then j else i))
 |_=>fl
noncomputable def maxD:List D->M D
 |[.int i, .int j]=>rt (.int (if j>i then j else i))
 |_=>fl
noncomputable def intD:List D->M D
 |[.int i]=>rt (.int i)
 |[.bool b]=>rt (.int (if b then 1 else 0))
 |_=>fl
noncomputable def tupF:List D->M D
 |[.tup ds]=>rt (.tup ds)
 |[.ro ds]=>rt (.tup ds)
 |[.lst _ ds]=>rt (.tup ds)
 |_=>fl
noncomputable def z3b:List D->M D
 |[.tup ds]=>newL ds
 |[.ro ds]=>newL ds
 |[.lst _ ds]=>newL ds
 |_=>fl
section
variable{X:Cx}{G:Gx}{F:Fy}{e a b c:Expr}{pos:Pos}
theorem MRL.one{ρ:Nat->Addr}{H:Hp}{σv tv:List (Option V)}{s:Stt}{t:D}{vs:List V}(M:MRL G F.toFx ρ H σv tv s [t] vs): ∃v,vs=[v]/\RD G ρ H t v/\LB F.toFx ρ s.n (labs t):=by
 have h:=M.rd
 simp only[RDs] at h
 obtain⟨v,r,rfl,h,rfl⟩:=h
 exact⟨v,rfl,h,M.lb1⟩
theorem MRL.two{ρ:Nat->Addr}{H:Hp}{σv tv:List (Option V)}{s:Stt}{t t':D}{vs:List V}(M:MRL G F.toFx ρ H σv tv s [t,t'] vs): ∃v u,vs=[v,u]/\RD G ρ H t v/\RD G ρ H t' u:=by
 have h:=M.rd
 simp only[RDs] at h
 obtain⟨v,r,rfl,h,u,q,rfl,h',rfl⟩:=h
 exact⟨v,u,rfl,h,h'⟩
theorem zc0:z0K G F (fun xs H Q=> ∃p ys,xs=[.ref p]/\(SqL G.K H p ys\/SqT G.K H p ys)/\Q (.int ys.length) H) lenD:=by
 intro ρ s ts vs H σv tv Q M W
 unfold lenD at W
 split at W
 ·obtain⟨v,rfl,h,_⟩:=M.one
  obtain⟨p,xs,rfl,s1,r1,_⟩:=h.seq rfl
  exact⟨p,xs,rfl,s1,fun _=>by rw[<-r1.length];exact W.flat M.m rfl⟩
 ·obtain⟨v,rfl,h,_⟩:=M.one
  obtain⟨p,xs,rfl,s1,r1,_⟩:=h.seq rfl
  exact⟨p,xs,rfl,s1,fun _=>by rw[<-r1.length];exact W.flat M.m rfl⟩
 ·obtain⟨v,rfl,h,_⟩:=M.one
  obtain⟨p,xs,rfl,s1,r1,_⟩:=h.seq rfl
  exact⟨p,xs,rfl,s1,fun _=>by rw[<-r1.length];exact W.flat M.m rfl⟩
 ·exact wfl W
theorem zc1:z0K G F (fun xs H Q=> ∃i,xs=[.int i]/\Q (.int (if i<0 then -i else i)) H) absD:=by
 intro ρ s ts vs H σv tv Q M W
 unfold absD at W
 split at W
 ·obtain⟨v,rfl,h,_⟩:=M.one
  simp only[RD] at h
  subst h
  exact⟨_,rfl,fun _=>W.flat M.m rfl⟩
 ·exact wfl W
theorem zc2:z0K G F (fun xs H Q=> ∃i j,xs=[.int i, .int j]/\Q (.int (if j<i then j else i)) H) minD:=by
 intro ρ s ts vs H σv tv Q M W
 unfold minD at W
 split at W
 ·obtain⟨v,u,rfl,h,h'⟩:=M.two
  simp only[RD] at h h'
  subst h h'
  exact⟨_,_,rfl,fun _=>W.flat M.m rfl⟩
 ·exact wfl W
theorem zc3:z0K G F (fun xs H Q=> ∃i j,xs=[.int i, .int j]/\Q (.int (if j>i then j else i)) H) maxD:=by
 intro ρ s ts vs H σv tv Q M W
 unfold maxD at W
 split at W
 ·obtain⟨v,u,rfl,h,h'⟩:=M.two
  simp only[RD] at h h'
  subst h h'
  exact⟨_,_,rfl,fun _=>W.flat M.m rfl⟩
 ·exact wfl W
theorem zc4:z0K G F (fun xs H Q=>(∃i,xs=[.int i]/\Q (.int i) H)\/∃k,xs=[.bl k]/\Q (.int (if k then 1 else 0)) H) intD:=by
 intro ρ s ts vs H σv tv Q M W
 unfold intD at W
 split at W
 ·obtain⟨v,rfl,h,_⟩:=M.one
  simp only[RD] at h
  subst h
  exact .inl ⟨_,rfl,fun _=>W.flat M.m rfl⟩
 ·obtain⟨v,rfl,h,_⟩:=M.one
  simp only[RD] at h
  subst h
  exact .inr ⟨_,rfl,fun _=>W.flat M.m rfl⟩
 ·exact wfl W
theorem zah:z0K G F (fun xs H Q=> ∃(p:Addr) (ys:List V),xs=[.ref p]/\(SqL G.K H p ys\/H p=some (.tup ys))/\NewX G.K H ys Q) tupF:=by
 intro ρ s ts vs H σv tv Q M W
 have fin: ∀(t:D) (ds:List D),ts=[t]->seqD t=some ds->wM G F σv tv (.ok (.tup ds) s) Q->∃(p:Addr) (ys:List V),vs=[.ref p]/\(SqL G.K H p ys\/H p=some (.tup ys))/\NewX G.K H ys (fun w H'=>KD G.K H'->Q w H'):=fun t ds et es W'=>by
  subst et
  obtain⟨v,rfl,h,lb⟩:=M.one
  obtain⟨p,xs,rfl,s1,r1,sub⟩:=h.seqx es
  exact⟨p,xs,rfl,s1,z3w W' M.m r1 fun l hl=>lb l (sub l hl)⟩
 unfold tupF at W
 split at W
 ·exact fin _ _ rfl rfl W
 ·exact fin _ _ rfl rfl W
 ·exact fin _ _ rfl rfl W
 ·exact wfl W
theorem z8q:z0K G F (fun xs H Q=> ∃p ys,xs=[.ref p]/\(SqL G.K H p ys\/SqT G.K H p ys)/\∀l,H l=none->Q (.ref l) (upd H l (.lst ys))) z3b:=by
 intro ρ s ts vs H σv tv Q M W
 have fin: ∀(t:D) (ds:List D),ts=[t]->seqD t=some ds->wM G F σv tv (.ok (.lst s.n ds) s.nxt) Q->∃p ys,vs=[.ref p]/\(SqL G.K H p ys\/SqT G.K H p ys)/\∀l,H l=none->KD G.K (upd H l (.lst ys))->Q (.ref l) (upd H l (.lst ys)):=fun t ds et es W'=>by
  subst et
  obtain⟨v,rfl,h,lb⟩:=M.one
  obtain⟨p,xs,rfl,s1,r1,sub⟩:=h.seq es
  exact⟨p,xs,rfl,s1,fun l hl k=>z0S W' M.m r1 (fun l hl=>lb l (sub l hl)) hl k⟩
 unfold z3b at W
 split at W
 ·exact fin _ _ rfl rfl W
 ·exact fin _ _ rfl rfl W
 ·exact fin _ _ rfl rfl W
 ·exact wfl W
noncomputable def isiD(T:String):D->Option Bool
 | .non=>some false
 | .bool _=>some (T== "int" ||T== "bool")
 | .int _=>some (T== "int")
 | .str _=>some (T== "str")
 | .tup _=>some (T== "tuple")
 | .ro _=>some (T== "list")
 | .lst _ _=>some (T== "list")
 |_=>none
noncomputable def mIsi(T:String)(m:M D):M D:=bd m fun d=>match isiD T d with|some b=>rt (.bool b)|none=>fl
theorem zc5{ρ:Nat->Addr}{H:Hp}{t:D}{v:V}{T:String}{b:Bool}(h:RD G ρ H t v)(e:isiD T t=some b):isiV G.K H T b v:=by
 cases t<;>simp only[isiD,Option.some.injEq] at e<;>try cases e
 ·simp only[RD] at h;subst h;exact rfl
 ·simp only[RD] at h;subst h;exact rfl
 ·simp only[RD] at h;subst h;exact rfl
 ·simp only[RD] at h;subst h;exact rfl
 ·obtain⟨p,xs,rfl,s1,r1⟩:=h.tupq
  exact .inl ⟨xs,s1,rfl⟩
 ·obtain⟨p,xs,rfl,s1,r1,_⟩:=h.lstq rfl
  exact .inr ⟨xs,s1,rfl⟩
 ·obtain⟨p,xs,rfl,s1,r1,_⟩:=h.lstq rfl
  exact .inr ⟨xs,s1,rfl⟩
theorem se_isi{p:Pos}{x y:Expr}{T:String}{m:M D}(hk:X.K=G.K)(hT:T= "int" \/T= "bool" \/T= "tuple" \/T= "list" \/T= "str")(hgl:Gl X "isinstance")(hm:X.mg "isinstance" =none)(ha:SE X G F x m)(hy:PE X y (tC (.ty T)))
 (he:starEach [x,y] X.env=(false,eval x X.env)::starEach [y] X.env:=by rfl) (he2:starEach [y] X.env=(false,eval y X.env)::starEach [] X.env:=by rfl) (hpl:(backTo pos (starEach [y] X.env)).any (·.1)=false:=by rfl):SE X G F (.Call (.Name "isinstance" p) [x,y] [] pos) (mIsi T m):=by
 refine PE.imp hk (z5l z8m hgl hm PyProof.Rows.Boot.«isinstance» (z4J ha (z4J hy z9g he2) he) (by decide) (by decide) he hpl) fun σ H Q ⟨tv,h⟩=>⟨tv,(z5V h).mono fun v H1 ⟨ρ1,s1,t,M1,W⟩=> ?_⟩
 cases e:isiD T t with
 |none=>simp only[e] at W;exact False.elim W
 |some b=>
  simp only[e] at W
  rw[hk]
  exact⟨v,T,b,rfl,hT,zc5 M1.rd1 e,fun _=>W.flat M1.m rfl⟩
end
inductive RS where
 |nx (s:Stt)|rt (d:D) (s:Stt)|bk (s:Stt)|ct (s:Stt)|ex (d:D) (s:Stt)|no
noncomputable abbrev MS:=Stt->RS
noncomputable def lift{α:Type}(m:M α)(f:α->MS):MS:=fun s=>match m s with
 | .ok a s'=>f a s'
 | .ex d s'=> .ex d s'
 | .no=> .no
noncomputable def seqS(m m':MS):MS:=fun s=>match m s with
 | .nx s'=>m' s'
 |r=>r
noncomputable def sNx:MS:=fun s=> .nx s
noncomputable def z2c(m:M D):MS:=lift m fun _=>sNx
noncomputable def sRet(m:M D):MS:=lift m fun d s=> .rt d s
noncomputable def iteS(b:Bool)(m m':MS):MS:=match b with|true=>m|false=>m'
noncomputable def sIf(c:M Bool)(m m':MS):MS:=lift c fun b=>iteS b m m'
inductive Tg where
 |nm (i:Nat)|tp (ts:List Tg)
mutual
noncomputable def asg:Tg->D->List (Option D)->Option (List (Option D))
 | .nm i,t,σ=>some (σ.set i (some t))
 | .tp ts, .tup ds,σ=>asgL ts ds σ
 | .tp ts, .lst _ ds,σ=>asgL ts ds σ
 | .tp _,_,_=>none
noncomputable def asgL:List Tg->List D->List (Option D)->Option (List (Option D))
 |[],[],σ=>some σ
 |t::ts,d::ds,σ=>match asg t d σ with|some σ'=>asgL ts ds σ'|none=>none
 |_,_,_=>none
end
noncomputable def sAsg(g:Tg)(m:M D):MS:=lift m fun d s=>match asg g d s.σ with
 |some σ'=> .nx {s with σ:=σ'}
 |none=> .no
section
variable{X:Cx}{G:Gx}{F:Fy}{e a b c:Expr}{st:Stmt}{sts rest:List Stmt}{pos:Pos}
noncomputable def wS(G:Gx)(F:Fy)(tv:List (Option V))(r:RS)(D:Ends):Prop:=match r with
 | .nx s'=> ∀ρ' σv' H',MR G F.toFx ρ' H' σv' tv s'->D.nx σv' H'
 | .rt t s'=> ∀ρ' σv' v H',MRL G F.toFx ρ' H' σv' tv s' [t] [v]->D.rt v H'
 | .bk s'=> ∀ρ' σv' H',MR G F.toFx ρ' H' σv' tv s'->D.bk σv' H'
 | .ct s'=> ∀ρ' σv' H',MR G F.toFx ρ' H' σv' tv s'->D.ct σv' H'
 | .ex d s'=>F.xw d s'
 | .no=>False
noncomputable def tSv(G:Gx)(F:Fy)(m:MS)(tv:List (Option V))(D:Ends)(σv:St)(H:Hp):Prop:=F.tv0<:+tv/\∃ρ s,MR G F.toFx ρ H σv tv s/\wS G F tv (m s) D
noncomputable def tS(G:Gx)(F:Fy)(m:MS):TS:=fun D σv H=> ∃tv,tSv G F m tv D σv H
noncomputable def SS(X:Cx)(G:Gx)(F:Fy)(st:Stmt)(m:MS):Prop:=PS X st (tS G F m)
noncomputable def SSs(X:Cx)(G:Gx)(F:Fy)(sts:List Stmt)(m:MS):Prop:=PSs X sts (tS G F m)
theorem PS.imp0{t t':TS}(h:PS X st t)(hi: ∀D σ H,t' D σ H->t D σ H):PS X st t':=fun pins s σ H D I q=>h pins s σ H D I (hi D σ H q)
theorem PSs.imp0{t t':TS}(h:PSs X sts t)(hi: ∀D σ H,t' D σ H->t D σ H):PSs X sts t':=fun pins s σ H D I q=>h pins s σ H D I (hi D σ H q)
theorem ss_nil:SSs X G F [] sNx:=PSs.imp0 z9J fun D σ H ⟨tv,hs,ρ,s,M,W⟩=>W ρ σ H M
theorem ss_cons{m m':MS}(h1:SS X G F st m)(h2:SSs X G F rest m'):SSs X G F (st::rest) (seqS m m'):=by
 refine PSs.imp0 (z88 h1 h2) fun D σ H ⟨tv,hs,ρ,s,M,W⟩=>⟨tv,hs,ρ,s,M, ?_⟩
 unfold seqS at W
 cases e:m s with
 |nx s'=>rw[e] at W;exact fun ρ' σv' H' M'=>⟨tv,hs,ρ',s',M',W⟩
 |rt d s'=>rw[e] at W;exact W
 |bk s'=>rw[e] at W;exact W
 |ct s'=>rw[e] at W;exact W
 |ex d s'=>rw[e] at W;exact W
 |no=>rw[e] at W;exact W
theorem ss_one{m:MS}(h1:SS X G F st m):SSs X G F [st] m:=z9K h1
theorem z1G{m:M D}{f:D->MS}{tv:List (Option V)}{D:Ends}{σ:St}{H:Hp}(h:tSv G F (lift m f) tv D σ H):tMv G F m σ tv H fun v H1=> ∃ρ1 s1 t,MRL G F.toFx ρ1 H1 σ tv s1 [t] [v]/\wS G F tv (f t s1) D:=by
 obtain⟨hs,ρ,s,M,W⟩:=h
 refine⟨hs,ρ,s,M, ?_⟩
 unfold lift at W
 cases e:m s with
 |ok t s1=>rw[e] at W;exact fun ρ1 v H1 M1=>⟨ρ1,s1,t,M1,W⟩
 |ex d s1=>rw[e] at W;exact W
 |no=>rw[e] at W;exact W
theorem z6O{m:M Bool}{f:Bool->MS}{tv:List (Option V)}{D:Ends}{σ:St}{H:Hp}(h:tSv G F (lift m f) tv D σ H):tBv G F m σ tv H fun b H1=> ∃ρ1 s1,MR G F.toFx ρ1 H1 σ tv s1/\wS G F tv (f b s1) D:=by
 obtain⟨hs,ρ,s,M,W⟩:=h
 refine⟨hs,ρ,s,M, ?_⟩
 unfold lift at W
 cases e:m s with
 |ok t s1=>rw[e] at W;exact fun ρ1 H1 M1=>⟨ρ1,s1,M1,W⟩
 |ex d s1=>rw[e] at W;exact W
 |no=>rw[e] at W;exact W
theorem ss_expr{m:M D}(he:SE X G F e m)(hs:swapsWith e none pos.line X.env=pure false:=by rfl):SS X G F (.Expr e pos) (z2c m):=
 PS.imp0 (z9L he hs) fun D σ H ⟨tv,h⟩=>⟨tv,(z1G h).mono fun v H1 ⟨ρ1,s1,t,M1,W⟩=>W ρ1 σ H1 M1.m⟩
theorem ss_ret{m:M D}(he:SE X G F e m):SS X G F (.Return (some e) pos) (sRet m):=
 PS.imp0 (zbm he) fun D σ H ⟨tv,h⟩=>⟨tv,(z1G h).mono fun v H1 ⟨ρ1,s1,t,M1,W⟩=>W ρ1 σ v H1 M1⟩
theorem ss_if{x y:List Stmt}{mc:M Bool}{m m':MS}(hc:SB X G F c mc)(ha:SSs X G F x m)(hb:SSs X G F y m'):SS X G F (.If c x y pos) (sIf mc m m'):=by
 refine PS.imp0 (zdi hc ha hb) fun D σ H ⟨tv,h⟩=>⟨tv,(z6O h).mono fun k H1 ⟨ρ1,s1,M1,W⟩=> ?_⟩
 cases k with
 |true=>rw[if_pos rfl];exact⟨tv,h.1,ρ1,s1,M1,W⟩
 |false=>rw[if_neg Bool.false_ne_true];exact⟨tv,h.1,ρ1,s1,M1,W⟩
noncomputable def tGn(G:Gx)(F:Fy)(g:Tg):TG:=fun v σv H Q=> ∃tv ρ s t,MRL G F.toFx ρ H σv tv s [t] [v]/\∃σ',asg g t s.σ=some σ'/\∀σv',MR G F.toFx ρ H σv' tv {s with σ:=σ'}->Q σv' H
noncomputable def tGs(G:Gx)(F:Fy)(g:List Tg):TGs:=fun vs σv H Q=> ∃tv ρ s ts,MRL G F.toFx ρ H σv tv s ts vs/\∃σ',asgL g ts s.σ=some σ'/\∀σv',MR G F.toFx ρ H σv' tv {s with σ:=σ'}->Q σv' H
noncomputable def SG(X:Cx)(G:Gx)(F:Fy)(tg:Expr)(g:Tg):Prop:=PG X tg (tGn G F g)
noncomputable def SGs(X:Cx)(G:Gx)(F:Fy)(tgs:List Expr)(g:List Tg):Prop:=PGs X tgs (tGs G F g)
theorem MRL.setS{ρ:Nat->Addr}{H:Hp}{σv tv:List (Option V)}{s:Stt}{t:D}{v:V}{ts:List D}{vs:List V}(i:Nat)(M:MRL G F.toFx ρ H σv tv s (t::ts) (v::vs)):MRL G F.toFx ρ H (σv.set i (some v)) tv {s with σ:=s.σ.set i (some t)} ts vs:=by
 have h:=M.rd
 simp only[RDs] at h
 obtain⟨_,_,e,h1,h2⟩:=h
 cases e
 have lb1: ∀l∈labs t,l<s.n/\(F.A0 (ρ l)\/F.H0 (ρ l)=none):=fun l h=>M.lb l (by simp only[labsL];exact List.mem_append_left _ h)
 have all: ∀l∈z0p {s with σ:=s.σ.set i (some t)},l<s.n/\(F.A0 (ρ l)\/F.H0 (ρ l)=none):=fun l h=>by
  rcases List.mem_append.mp h with h|h
  ·rcases z2G l h with q|q
   ·exact⟨M.m.lab l (List.mem_append_left _ q),M.m.own l (List.mem_append_left _ q)⟩
   ·exact lb1 l q
  ·exact⟨M.m.lab l (List.mem_append_right _ h),M.m.own l (List.mem_append_right _ h)⟩
 exact⟨⟨M.m.sl.set i h1,M.m.tm,M.m.inj,M.m.dom,fun l h=>(all l h).1,fun l h=>(all l h).2,M.m.frm,M.m.kd,M.m.frb,M.m.bas⟩,h2,fun l h=>M.lb l (by simp only[labsL];exact List.mem_append_right _ h)⟩
theorem sg_name{i:Nat}{x:Str}{p:Pos}(h:PG X (.Name x p) (z2z i)):SG X G F (.Name x p) (.nm i):=by
 intro pins s σ H v u Q I r ⟨tv,ρ,ms,t,M,σ',e,k⟩
 simp only[asg,Option.some.injEq] at e
 subst e
 exact h pins s σ H v u Q I r (k _ (M.setS i).m)
theorem sgs_nil:SGs X G F [] []:=by
 intro pins s σ H vs us Q I r ⟨tv,ρ,ms,ts,M,σ',e,k⟩
 cases ts with
 |nil=>
  simp only[asgL,Option.some.injEq] at e
  subst e
  have h:=M.rd
  simp only[RDs] at h
  exact z9M pins s σ H vs us Q I r ⟨h,k _ M.m⟩
 |cons d ds=>simp only[asgL] at e;cases e
theorem MRL.cons_inv{ρ:Nat->Addr}{H:Hp}{σv tv:List (Option V)}{s:Stt}{t:D}{ts:List D}{vs:List V}(M:MRL G F.toFx ρ H σv tv s (t::ts) vs): ∃v r,vs=v::r/\MRL G F.toFx ρ H σv tv s [t] [v]/\RDs G ρ H ts r/\LB F.toFx ρ s.n (labsL ts):=by
 have h:=M.rd
 simp only[RDs] at h
 obtain⟨v,r,rfl,h1,h2⟩:=h
 exact⟨v,r,rfl,⟨M.m,RDs.one h1,fun l h=>M.lb l (by simp only[labsL,List.append_nil] at h⊢;exact List.mem_append_left _ h)⟩,h2,fun l h=>M.lb l (by simp only[labsL];exact List.mem_append_right _ h)⟩
theorem PGs.imp0{es:List Expr}{t t':TGs}(h:PGs X es t)(hi: ∀vs σ H Q,t' vs σ H Q->t vs σ H Q):PGs X es t':=fun pins s σ H vs us Q I r q=>h pins s σ H vs us Q I r (hi vs σ H Q q)
theorem PG.imp0{t t':TG}(h:PG X e t)(hi: ∀v σ H Q,t' v σ H Q->t v σ H Q):PG X e t':=fun pins s σ H v u Q I r q=>h pins s σ H v u Q I r (hi v σ H Q q)
theorem sgs_cons{es:List Expr}{g:Tg}{gs:List Tg}(h1:SG X G F e g)(h2:SGs X G F es gs)(hs:(assignEach (e::es) X.env).map (·.2)=assign e X.env::(assignEach es X.env).map (·.2):=by rfl):SGs X G F (e::es) (g::gs):=by
 refine PGs.imp0 (z89 h1 h2 hs) fun vs σv H Q ⟨tv,ρ,s,ts,M,σ',e,k⟩=> ?_
 cases ts with
 |nil=>simp only[asgL] at e;cases e
 |cons d ds=>
  simp only[asgL] at e
  cases e1:asg g d s.σ with
  |none=>rw[e1] at e;cases e
  |some σ1=>
   rw[e1] at e
   obtain⟨v,r,rfl,M1,h2,lb⟩:=M.cons_inv
   exact⟨v,r,rfl,tv,ρ,s,d,M1,σ1,e1,fun σv1 M2=>⟨tv,ρ,{s with σ:=σ1},ds,⟨M2,h2,lb⟩,σ',e,k⟩⟩
theorem sg_tup{es:List Expr}{k:Nat}{gs:List Tg}(hk:X.K=G.K)(hc:X.calm=true)(h:SGs X G F es gs)(hn:(assignEach es X.env).length=gs.length:=by rfl)(hst:(assignEach es X.env).findIdx? (·.1)=none:=by rfl):SG X G F (.Tuple es k pos) (.tp gs):=by
 refine PG.imp0 (zbM hc h hn hst) fun v σv H Q ⟨tv,ρ,s,t,M,σ',e,kk⟩=> ?_
 have len: ∀{gs:List Tg} {ds:List D} {σ σ':List (Option D)},asgL gs ds σ=some σ'->ds.length=gs.length:=by
  intro gs
  induction gs with
  |nil=>intro ds σ σ' e;cases ds with
   |nil=>rfl
   |cons _ _=>simp only[asgL] at e;cases e
  |cons g gs ih=>intro ds σ σ' e;cases ds with
   |nil=>simp only[asgL] at e;cases e
   |cons d ds=>
    simp only[asgL] at e
    cases e1:asg g d σ with
    |none=>rw[e1] at e;cases e
    |some σ1=>rw[e1] at e;rw[List.length_cons,List.length_cons,ih e]
 cases t with
 |tup ds=>
  simp only[asg] at e
  obtain⟨a,xs,rfl,sq,r⟩:=M.rd1.tupq
  refine⟨a,xs,rfl, .inl (hk▸sq),by rw[<-r.length];exact len e,tv,ρ,s,ds,⟨M.m,r,fun l h=>M.lb1 l (by simp only[labs];exact h)⟩,σ',e,kk⟩
 |lst l ds=>
  simp only[asg] at e
  obtain⟨a,xs,rfl,sq,r,sub⟩:=M.rd1.lstq (ds:=ds) rfl
  refine⟨a,xs,rfl, .inr (hk▸sq),by rw[<-r.length];exact len e,tv,ρ,s,ds,⟨M.m,r,fun l h=>M.lb1 l (sub l h)⟩,σ',e,kk⟩
 |_=>simp only[asg] at e;cases e
theorem ss_asg{tg:Expr}{g:Tg}{m:M D}(he:SE X G F e m)(hg:SG X G F tg g)(hs:swapsWithSole [tg] e pos.line X.env=pure false:=by rfl)(hw:swappedStores [tg] e X.env=pure none:=by rfl)
 (h1:(assignEach [tg] X.env).map (·.2)=[assign tg X.env]:=by rfl):SS X G F (.Assign [tg] e pos) (sAsg g m):=by
 refine PS.imp0 (z9d he hg hs hw h1) fun D σ H ⟨tv,h⟩=>⟨tv,(z1G h).mono fun v H1 ⟨ρ1,s1,t,M1,W⟩=> ?_⟩
 cases e:asg g t s1.σ with
 |none=>simp only[e] at W;exact False.elim W
 |some σ'=>
  simp only[e] at W
  exact⟨tv,ρ1,s1,t,M1,σ',e,fun σv' M2=>W ρ1 σv' H1 M2⟩
theorem ss_set{i:Nat}{x:Str}{p:Pos}{m:M D}(h: ∀{te:TE},PE X e te->PS X (.Assign [.Name x p] e pos) (tAsg te (z2z i)))(he:SE X G F e m):SS X G F (.Assign [.Name x p] e pos) (sAsg (.nm i) m):=by
 refine PS.imp0 (h he) fun D σ H ⟨tv,h⟩=>⟨tv,(z1G h).mono fun v H1 ⟨ρ1,s1,t,M1,W⟩=> ?_⟩
 simp only[asg] at W
 exact W ρ1 _ H1 (M1.setS i).m
end
end Mi
namespace L2
open PySem PySem.Spec PyProof.Rows
noncomputable abbrev z4P(ifs:List Expr)(env:Env):Sem Bool:=forIn ifs true fun c r=>if r=true then do let ok<-isTrue c env (eval c env);pure (ForInStep.yield ok) else pure (ForInStep.yield r)
theorem z0L{prog:Program}{w:World}{A:Around}{R:Result->Shared->Prop}{s:Shared}{elt target iter:Expr}{ifs:List Expr}{scope:Scope}{pos:Pos}{it acc:Value}{env:Env}(I:Nat->Shared->Prop)
 (turn: ∀n s,I n s->wpAny (model prog w) A (pyNext it) (fun r s₁=>match r with
  |none=>R (.ok .next) s₁
  |some v=>wpAny (model prog w) A (letOwnedTupleGo target it v) (fun _ s₁=>wpAny (model prog w) A (assign target env v) (fun _ s₂=>wpAny (model prog w) A (z4P ifs env) (fun ok s₃=>
   if ok=true then wpAny (model prog w) A (eval elt env) (fun x s₃=>
   wpAny (model prog w) A (call (.builtin "list.append") [acc,x]) (fun _ s₄=> ∃m,m<n/\I m s₄) (fun _ _=>False) s₃)
   (fun _ _=>False) s₃ else ∃m,m<n/\I m s₃) (fun _ _=>False) s₂) (fun _ _=>False) s₁) (fun _ _=>False) s₁) (fun _ _=>False) s)
 (n:Nat) (h:I n s):
 codeAny (model prog w) A (.compLoop (.ListComp elt [⟨target,iter,ifs,0⟩] scope pos) 0 it acc env) R s:=by
 refine codeAny_loop rfl I (fun n s hI=> ?_) n h
 show wpAny _ _ ((compTurn (.ListComp elt [⟨target,iter,ifs,0⟩] scope pos) 0 it acc env).onRaise (fun x=>do noteFrame x env;theTreesLotGoes x)) _ _ s
 refine wpAny_noted ?_
 rw[compTurn_list]
 refine wpAny_bind (wpAny_standAt (wpAny_bind (wpAny_mono (turn n s hI) (fun r s₁ h₁=> ?_) fun _ _ h'=>h'.elim)))
 cases r with
 |none=>exact wpAny_pure h₁
 |some v=>
  refine wpAny_bind (wpAny_mono h₁ (fun _ s₁ h₁=> ?_) fun _ _ h'=>h'.elim)
  refine wpAny_bind (wpAny_mono h₁ (fun _ s₂ h₂=>wpAny_bind (wpAny_mono h₂ (fun ok s₃ h₃=> ?_) fun _ _ h'=>h'.elim)) fun _ _ h'=>h'.elim)
  cases ok with
  |false=>exact wpAny_pure ⟨rfl,h₃⟩
  |true=>
   exact wpAny_bind (wpAny_bind (wpAny_mono h₃ (fun x s₄ h₄=>wpAny_bind (wpAny_mono h₄ (fun _ s₅ h₅=>wpAny_pure (wpAny_pure ⟨rfl,h₅⟩)) fun _ _ h'=>h'.elim)) fun _ _ h'=>h'.elim))
noncomputable def PTs(X:Cx)(ifs:List Expr)(t:TT):Prop:=
 ∀(pins:List (Addr×Obj)) (s:Shared) (σ:St) (H:Hp) (Q:Bool->Hp->Prop),Inv X pins σ H s->t σ H Q->wpAny (model X.prog X.w) X.A (z4P ifs X.env) (TP X pins σ Q) X.xe s
theorem zai{X:Cx}:PTs X [] (fun _ H Q=>Q true H):=fun pins s σ H Q I h=>wpAny_tests_nil ⟨H,I,h⟩
theorem zaj{X:Cx}{c:Expr}{t:TT}(h:PT X c t):PTs X [c] t:=fun pins s σ H Q I q=>wpAny_tests_one (h pins s σ H Q I q)
section
variable{X:Cx}{tg iter elt:Expr}{ifs:List Expr}{pos:Pos}{scope:Scope}{own frees:List Str}{ix:List Nat}{wi:TI}{g:TG}{tt:TT}{te:TE}
noncomputable def z6P(K:W.Frag)(wi:TI)(g:TG)(tt:TT)(te:TE)(k:Nat)(ix:List Nat):TE:=fun σ H Q=>wi σ H fun J H1=> ∀D,H1 D=none->(∀a o,K.lookup a=some o->upd H1 D (.lst []) a=none)->
 ∃W:Nat->Nat->List V->St->Hp->Prop,(∃m,W 0 m [] (z0R k ix σ) (upd H1 D (.lst [])))/\
  ∀i m ys σ' H',W i m ys σ' H'->H' D=some (.lst ys)/\((J.stop i H'/\Q (.ref D) H')\/
   (J.go i H'/\∀x H2,J.yld i H' x H2->g x σ' H2 fun σ2 H3=>tt σ2 H3 fun ok H3=>if ok=true then te σ2 H3 fun y H4=>H4 D=some (.lst ys)/\ys.length<sizeLine/\∃m',m'<m/\W (i+1) m' (ys++[y]) σ2 (upd H4 D (.lst (ys++[y])))
    else ∃m',m'<m/\W (i+1) m' ys σ2 H3))
theorem z6Q(hc:X.calm=true)(S:z0i X.env.scope scope own frees X.N ix)(hi:PI X tg iter wi)
 (hg: ∀cl C s₀ H₀ fp pn,PG (z04 X scope own frees cl C s₀ H₀ fp pn) tg g) (ht: ∀cl C s₀ H₀ fp pn,PTs (z04 X scope own frees cl C s₀ H₀ fp pn) ifs tt) (he: ∀cl C s₀ H₀ fp pn,PE (z04 X scope own frees cl C s₀ H₀ fp pn) elt te)
 (hs: ∀x,foldedSetIterable iter X.env x=pure x:=by intro _;rfl):
 PE X (.ListComp elt [⟨tg,iter,ifs,0⟩] scope pos) (z6P X.K wi g tt te own.length ix):=by
 intro pins s σ H Q I h
 have hclos:closureFor scope X.env=pure (z0o X.env scope.names []):=z0M fun y hy e=>I.ok.has y.1 (S.fr y hy e)
 rw[eval_ListComp]
 refine wpAny_comprehension_free (use:=none) rfl hs hclos S.kind S.names (thn (hi pins s σ H _ I h) fun v s1 h1=>thn h1 fun itv s2 h2=> ?_)
 obtain⟨it,fp,tn,J,H2,e,I2,T,st2,f2,hD⟩:=h2
 subst e
 refine wpAny_newObj_type ?_
 have I3:Inv X pins σ (upd H2 s2.heap.objs.size (.lst [])) {s2 with heap:=s2.heap.push {cls:= .type "list",data:= .seq ([]:List Value).toArray}}:=I2.lnew (t':=s2.toks) .nil (Nat.zero_le _)
 have nD:H2 s2.heap.objs.size=none:=I2.fresh
 obtain⟨W,⟨m0,w0⟩,turn⟩:=hD _ nD fun a o e=>(I3.bs a o (I3.ok.mod.kin a o e)).2
 have fpl: ∀b∈fp,b<s2.heap.objs.size:=fun b z=>by
  obtain⟨o,q,_⟩:=T.obj _ _ st2 b z
  exact Heap.lt_size q
 generalize hs3:({s2 with heap:=s2.heap.push {cls:= .type "list",data:= .seq ([]:List Value).toArray}}:Shared)=s3 at I3
 have hpush: ∀b o,s2.heap.get? b=some o->s3.heap.get? b=some o:=fun b o q=>by rw[<-hs3];exact Heap.get?_push_of_some _ q
 have hsz3:s2.heap.objs.size<s3.heap.objs.size:=by rw[<-hs3];show _<(s2.heap.push _).objs.size;rw[Heap.size_push];exact Nat.lt_succ_self _
 have f3: ∀b∈fp,FpOk X pins (upd H2 s2.heap.objs.size (.lst [])) b:=fun b z=>⟨by rw[z07 (Nat.ne_of_lt (fpl b z))];exact(f2 b z).1,(f2 b z).2⟩
 have st3:tn 0 s3.heap:=T.keep _ _ _ st2 fun b _ o q=>hpush b o q
 generalize hDd:s2.heap.objs.size=D at*
 generalize hH3:upd H2 D (.lst [])=H3 at*
 have goal:wpAny (model X.prog X.w) X.A (newFunctionEnv scope X.env.globals (z0o X.env scope.names []) [] X.env.qual none .none (some X.env)) (fun cenv s₄=>
  codeAny (model X.prog X.w) X.A (.compStart (.ListComp elt [⟨tg,iter,ifs,0⟩] scope pos) 0 (.ref it) (.ref D) {cenv with scope:=relabel scope X.env}) (compPost (model X.prog X.w) X.A X.xe none (EP X pins σ Q) (.ref D) cenv.locals) s₄) X.xe s3:=by
  refine wpAny_newFunctionEnv S.nocell (by intro y hy;simp at hy) (fun h1 hns hsb=> ?_) S.kind
  have hns:h1.Ns s3.heap.objs.size (fun _=>none):=hns
  have keep4: ∀b o,s3.heap.get? b=some o->h1.get? b=some o:=fun b o q=>hsb.extBut b o (Nat.ne_of_lt (Heap.lt_size q)) (Heap.get?_push_of_some _ q)
  have fpl3: ∀b∈fp,b<s3.heap.objs.size:=fun b z=>Nat.lt_trans (fpl b z) hsz3
  generalize hs4:({s3 with heap:=h1,toks:=s3.toks+([]:List (Str×Value)).length}:Shared)=s4
  have I4:Inv (z04 X scope own frees (z0o X.env scope.names []) s3.heap.objs.size s3 H3 fp (X.pn++pins)) [] (z0R own.length ix σ) H3 s4:=
   z1F S I3 f3 fpl3 (by rw[<-hs4]) (by rw[<-hs4]) (fun b o q=>by rw[<-hs4];exact keep4 b o q) (by rw[<-hs4];exact hns)
  have st4:tn 0 s4.heap:=T.keep _ _ _ st3 fun b _ o q=>by rw[<-hs4];exact keep4 b o q
  generalize hXc:z04 X scope own frees (z0o X.env scope.names []) s3.heap.objs.size s3 H3 fp (X.pn++pins)=Y at I4
  have eP:Y.prog=X.prog:=by rw[<-hXc];rfl
  have eW:Y.w=X.w:=by rw[<-hXc];rfl
  have eK:Y.K=X.K:=by rw[<-hXc];rfl
  have eA:Y.A=X.A:=by rw[<-hXc];rfl
  have eC:Y.calm=true:=by rw[<-hXc];exact hc
  have eE:Y.env=compEnvC scope (z0o X.env scope.names []) s3.heap.objs.size X.env:=by rw[<-hXc];rfl
  have eX:Y.xe=fun _ _=>False:=by rw[<-hXc];rfl
  have eF: ∀{H':Hp},(∀b∈fp,H' b=none)->∀b∈fp,FpOk Y [] H' b:=fun{H'} hn b hb=>by
   rw[<-hXc]
   obtain⟨g1,g2,g3,g4,g5,g6⟩:=f3 b hb
   refine⟨hn b hb,Nat.ne_of_lt (fpl3 b hb),fun q=> ?_, .inl hb,fun x c e=> ?_,fun p hp=> ?_⟩
   ·rcases List.mem_cons.mp (I3.stkSub b q) with r|r
    ·exact g2 r
    ·exact g3 r
   ·rcases z1E _ _ e with q|q
    ·exact nomatch q
    ·exact g5 x c q.1
   ·have hp:p∈(X.pn++pins)++[]:=hp
    rw[List.append_nil] at hp
    exact g6 p hp
  have gY:PG Y tg g:=by rw[<-hXc];exact hg _ _ _ _ _ _
  have tY:PE Y elt te:=by rw[<-hXc];exact he _ _ _ _ _ _
  have sY:PTs Y ifs tt:=by rw[<-hXc];exact ht _ _ _ _ _ _
  have loop:codeAny (model X.prog X.w) X.A (.compLoop (.ListComp elt [⟨tg,iter,ifs,0⟩] scope pos) 0 (.ref it) (.ref D) (compEnvC scope (z0o X.env scope.names []) s3.heap.objs.size X.env))
   (compPost (model X.prog X.w) X.A X.xe none (EP X pins σ Q) (.ref D) s3.heap.objs.size) s4:=by
   refine z0L (fun n s'=> ∃i ys σ' H',Inv Y [] σ' H' s'/\tn i s'.heap/\(∀b∈fp,H' b=none)/\W i n ys σ' H') ?_ m0 ⟨0,[],_,_,I4,st4,fun b hb=>(f3 b hb).1,w0⟩
   rintro n s5 ⟨i,ys,σ5,H5,I5,st5,fr5,w5⟩
   obtain⟨hD5,alt⟩:=turn i n ys σ5 H5 w5
   rcases alt with⟨stop,qn⟩|⟨go,step⟩
   ·have d:=T.done Y eP eW eK eC i [] s5 σ5 H5 (fun _ _=>False) I5 (eF fr5) st5 stop
    rw[eA] at d
    refine thn d fun r s6 ⟨hr,I6⟩=> ?_
    subst hr
    subst hXc
    obtain⟨m6,n6,_⟩:=I6.loc
    exact⟨m6,n6,fun h'' hs''=>⟨.ref D,H5,z2s I3 f3 (Nat.le_refl _) I6 hs'',rfl,qn⟩⟩
   ·have d:=T.item Y eP eW eK eC i [] s5 σ5 H5 (fun _ _=>False) I5 (eF fr5) st5 go
    rw[eA] at d
    refine thn d fun r s6 ⟨u,hr,h6⟩=> ?_
    subst hr
    refine thn h6 fun _ s7 ⟨x,H7,I7,r7,y7,st7,fr7⟩=> ?_
    have I7':=I7.pinned (eF fr7) (T.obj _ _ st7)
    have e1:=gY _ s7 σ5 H7 x u _ I7' r7 (step x H7 y7)
    rw[eP,eW,eA,eE,eX] at e1
    refine thn e1 fun _ s8 ⟨σ8,H8,I8,q8⟩=> ?_
    have e1':=sY _ s8 σ8 H8 _ I8 q8
    rw[eP,eW,eA,eE,eX] at e1'
    refine thn e1' fun ok s8 ⟨H8,I8,q8⟩=> ?_
    cases ok with
    |false=>
     rw[if_neg Bool.false_ne_true] at q8⊢
     obtain⟨m',hm',w9⟩:=q8
     refine⟨m',hm',i+1,_,σ8,_,I8.unpinned,T.keep _ _ _ st7 fun b hb o e=> ?_,fun b hb=> ?_,w9⟩
     ·exact(I8.pin (b,o) (List.mem_append_right _ (List.mem_append_right _ (z0b hb e)))).1
     ·obtain⟨o,e,d⟩:=T.obj _ _ st7 b hb
      exact(I8.pin (b,o) (List.mem_append_right _ (List.mem_append_right _ (z0b hb e)))).2.1
    |true=>
    rw[if_pos rfl] at q8⊢
    have e2:=tY _ s8 σ8 H8 _ I8 q8
    rw[eP,eW,eA,eE,eX] at e2
    refine thn e2 fun yv s9 ⟨y,H9,I9,r9,hD9,hz9,m',hm',w9⟩=> ?_
    have e3:=z1V (X:=Y) _ s9 σ8 H9 (.ref D) [y] (.ref D) [yv] (fun v H'=>v= .non/\H'=upd H9 D (.lst (ys++[y]))) I9 rfl (.cons r9 .nil) ⟨D,ys,y,rfl,rfl,hD9,hz9,rfl,rfl⟩
    rw[eP,eW,eA,eX] at e3
    refine thn e3 fun _ s10 ⟨v10,H10,I10,r10,_,e10⟩=> ?_
    subst e10
    refine⟨m',hm',i+1,_,σ8,_,I10.unpinned,T.keep _ _ _ st7 fun b hb o e=> ?_,fun b hb=> ?_,w9⟩
    ·exact(I10.pin (b,o) (List.mem_append_right _ (List.mem_append_right _ (z0b hb e)))).1
    ·obtain⟨o,e,d⟩:=T.obj _ _ st7 b hb
     exact(I10.pin (b,o) (List.mem_append_right _ (List.mem_append_right _ (z0b hb e)))).2.1
  exact codeAny_compStart_list loop (T.self _ 0 _ _ _ st4 loop)
 exact goal
theorem z6R{y:Str}{py spos:Pos}{i:Nat}(hN:X.N.Nodup)(hy:X.N[i]? =some y)(hx:Loc X.env.scope y)(hfn:X.fn y=true\/X.env.scope.names.lookup y=some .local)(hsw:swapsWith (.ListComp elt [⟨tg,iter,ifs,0⟩] scope pos) (some (.Name y py)) spos.line X.env=pure true)(hc:X.calm=true)(S:z0i X.env.scope scope own frees X.N ix)(hi:PI X tg iter wi)
 (hg: ∀cl C s₀ H₀ fp pn,PG (z04 X scope own frees cl C s₀ H₀ fp pn) tg g) (ht: ∀cl C s₀ H₀ fp pn,PTs (z04 X scope own frees cl C s₀ H₀ fp pn) ifs tt) (he: ∀cl C s₀ H₀ fp pn,PE (z04 X scope own frees cl C s₀ H₀ fp pn) elt te)
 (hs: ∀x,foldedSetIterable iter X.env x=pure x:=by intro _;rfl):
 PS X (.Assign [.Name y py] (.ListComp elt [⟨tg,iter,ifs,0⟩] scope pos) spos) (fun Dd σ H=>z6P X.K wi g tt te own.length ix σ H fun v H'=>Dd.nx (σ.set i (some v)) H'):=by
 intro pins s σ H Dd I h
 have hclos:closureFor scope X.env=pure (z0o X.env scope.names []):=z0M fun y hy e=>I.ok.has y.1 (S.fr y hy e)
 rw[exec_Assign_Name_used _ _ _ _ hsw]
 refine wpAny_bind (wpAny_standAt (wpAny_bind ?_))
 show wpAny _ X.A (do let _<-comprehension (.ListComp elt [⟨tg,iter,ifs,0⟩] scope pos) scope X.env _ (newList []) false (eval iter X.env) (some (assign (.Name y py) X.env))) _ _ s
 refine wpAny_bind (wpAny_mono (wpAny_comprehension_free (use:=some (assign (.Name y py) X.env)) (Q:=fun _ s'=>SP X pins Dd .next s') rfl hs hclos S.kind S.names (thn (hi pins s σ H _ I h) fun v s1 h1=>thn h1 fun itv s2 h2=> ?_)) (fun _ s' hq=>wpAny_pure (wpAny_pure hq)) fun _ _ e=>e)
 obtain⟨it,fp,tn,J,H2,e,I2,T,st2,f2,hD⟩:=h2
 subst e
 refine wpAny_newObj_type ?_
 have I3:Inv X pins σ (upd H2 s2.heap.objs.size (.lst [])) {s2 with heap:=s2.heap.push {cls:= .type "list",data:= .seq ([]:List Value).toArray}}:=I2.lnew (t':=s2.toks) .nil (Nat.zero_le _)
 have nD:H2 s2.heap.objs.size=none:=I2.fresh
 obtain⟨W,⟨m0,w0⟩,turn⟩:=hD _ nD fun a o e=>(I3.bs a o (I3.ok.mod.kin a o e)).2
 have fpl: ∀b∈fp,b<s2.heap.objs.size:=fun b z=>by
  obtain⟨o,q,_⟩:=T.obj _ _ st2 b z
  exact Heap.lt_size q
 generalize hs3:({s2 with heap:=s2.heap.push {cls:= .type "list",data:= .seq ([]:List Value).toArray}}:Shared)=s3 at I3
 have hpush: ∀b o,s2.heap.get? b=some o->s3.heap.get? b=some o:=fun b o q=>by rw[<-hs3];exact Heap.get?_push_of_some _ q
 have hsz3:s2.heap.objs.size<s3.heap.objs.size:=by rw[<-hs3];show _<(s2.heap.push _).objs.size;rw[Heap.size_push];exact Nat.lt_succ_self _
 have f3: ∀b∈fp,FpOk X pins (upd H2 s2.heap.objs.size (.lst [])) b:=fun b z=>⟨by rw[z07 (Nat.ne_of_lt (fpl b z))];exact(f2 b z).1,(f2 b z).2⟩
 have st3:tn 0 s3.heap:=T.keep _ _ _ st2 fun b _ o q=>hpush b o q
 generalize hDd:s2.heap.objs.size=D at*
 generalize hH3:upd H2 D (.lst [])=H3 at*
 have goal:wpAny (model X.prog X.w) X.A (newFunctionEnv scope X.env.globals (z0o X.env scope.names []) [] X.env.qual none .none (some X.env)) (fun cenv s₄=>
  codeAny (model X.prog X.w) X.A (.compStart (.ListComp elt [⟨tg,iter,ifs,0⟩] scope pos) 0 (.ref it) (.ref D) {cenv with scope:=relabel scope X.env}) (compPost (model X.prog X.w) X.A X.xe (some (assign (.Name y py) X.env)) (fun _ s'=>SP X pins Dd .next s') (.ref D) cenv.locals) s₄) X.xe s3:=by
  refine wpAny_newFunctionEnv S.nocell (by intro y hy;simp at hy) (fun h1 hns hsb=> ?_) S.kind
  have hns:h1.Ns s3.heap.objs.size (fun _=>none):=hns
  have keep4: ∀b o,s3.heap.get? b=some o->h1.get? b=some o:=fun b o q=>hsb.extBut b o (Nat.ne_of_lt (Heap.lt_size q)) (Heap.get?_push_of_some _ q)
  have fpl3: ∀b∈fp,b<s3.heap.objs.size:=fun b z=>Nat.lt_trans (fpl b z) hsz3
  generalize hs4:({s3 with heap:=h1,toks:=s3.toks+([]:List (Str×Value)).length}:Shared)=s4
  have I4:Inv (z04 X scope own frees (z0o X.env scope.names []) s3.heap.objs.size s3 H3 fp (X.pn++pins)) [] (z0R own.length ix σ) H3 s4:=
   z1F S I3 f3 fpl3 (by rw[<-hs4]) (by rw[<-hs4]) (fun b o q=>by rw[<-hs4];exact keep4 b o q) (by rw[<-hs4];exact hns)
  have st4:tn 0 s4.heap:=T.keep _ _ _ st3 fun b _ o q=>by rw[<-hs4];exact keep4 b o q
  generalize hXc:z04 X scope own frees (z0o X.env scope.names []) s3.heap.objs.size s3 H3 fp (X.pn++pins)=Y at I4
  have eP:Y.prog=X.prog:=by rw[<-hXc];rfl
  have eW:Y.w=X.w:=by rw[<-hXc];rfl
  have eK:Y.K=X.K:=by rw[<-hXc];rfl
  have eA:Y.A=X.A:=by rw[<-hXc];rfl
  have eC:Y.calm=true:=by rw[<-hXc];exact hc
  have eE:Y.env=compEnvC scope (z0o X.env scope.names []) s3.heap.objs.size X.env:=by rw[<-hXc];rfl
  have eX:Y.xe=fun _ _=>False:=by rw[<-hXc];rfl
  have eF: ∀{H':Hp},(∀b∈fp,H' b=none)->∀b∈fp,FpOk Y [] H' b:=fun{H'} hn b hb=>by
   rw[<-hXc]
   obtain⟨g1,g2,g3,g4,g5,g6⟩:=f3 b hb
   refine⟨hn b hb,Nat.ne_of_lt (fpl3 b hb),fun q=> ?_, .inl hb,fun x c e=> ?_,fun p hp=> ?_⟩
   ·rcases List.mem_cons.mp (I3.stkSub b q) with r|r
    ·exact g2 r
    ·exact g3 r
   ·rcases z1E _ _ e with q|q
    ·exact nomatch q
    ·exact g5 x c q.1
   ·have hp:p∈(X.pn++pins)++[]:=hp
    rw[List.append_nil] at hp
    exact g6 p hp
  have gY:PG Y tg g:=by rw[<-hXc];exact hg _ _ _ _ _ _
  have tY:PE Y elt te:=by rw[<-hXc];exact he _ _ _ _ _ _
  have sY:PTs Y ifs tt:=by rw[<-hXc];exact ht _ _ _ _ _ _
  have loop:codeAny (model X.prog X.w) X.A (.compLoop (.ListComp elt [⟨tg,iter,ifs,0⟩] scope pos) 0 (.ref it) (.ref D) (compEnvC scope (z0o X.env scope.names []) s3.heap.objs.size X.env))
   (compPost (model X.prog X.w) X.A X.xe (some (assign (.Name y py) X.env)) (fun _ s'=>SP X pins Dd .next s') (.ref D) s3.heap.objs.size) s4:=by
   refine z0L (fun n s'=> ∃i ys σ' H',Inv Y [] σ' H' s'/\tn i s'.heap/\(∀b∈fp,H' b=none)/\W i n ys σ' H') ?_ m0 ⟨0,[],_,_,I4,st4,fun b hb=>(f3 b hb).1,w0⟩
   rintro n s5 ⟨i,ys,σ5,H5,I5,st5,fr5,w5⟩
   obtain⟨hD5,alt⟩:=turn i n ys σ5 H5 w5
   rcases alt with⟨stop,qn⟩|⟨go,step⟩
   ·have d:=T.done Y eP eW eK eC i [] s5 σ5 H5 (fun _ _=>False) I5 (eF fr5) st5 stop
    rw[eA] at d
    refine thn d fun r s6 ⟨hr,I6⟩=> ?_
    subst hr
    subst hXc
    obtain⟨m6,n6,_⟩:=I6.loc
    have n6:s6.heap.Ns s3.heap.objs.size m6:=n6
    have I7:Inv X pins σ H5 s6:=z2s (h':=s6.heap) I3 f3 (Nat.le_refl _) I6 (Heap.SameBut.refl _ _)
    have fC:FpOk X pins H5 s3.heap.objs.size:=I3.fpOk (Nat.le_refl _) I6.free
    obtain⟨oC,eC,dC⟩: ∃o,s6.heap.get? s3.heap.objs.size=some o/\∀v,o.data≠ .cell v:=by
     obtain⟨o,es,ep,e1,e2,e3⟩:=n6
     exact⟨o,e1,fun v z=>by simp_all⟩
    have I8:=I7.pinned (fp:=[s3.heap.objs.size]) (fun b hb=>by
     have e:b=s3.heap.objs.size:=by simpa using hb
     rw[e];exact fC) (fun b hb=>by
     have e:b=s3.heap.objs.size:=by simpa using hb
     rw[e];exact⟨oC,eC,dC⟩)
    show wpAny _ _ (assign (.Name y py) X.env (.ref D)) _ _ s6
    refine wpAny_assign_Name (z3t (v:= .ref D) I8 hN hy hx rfl (fun s7 I9=> ?_) hfn)
    have e7:s7.heap.get? s3.heap.objs.size=some oC:=(I9.pin (s3.heap.objs.size,oC) (List.mem_append_right _ (List.mem_append_right _ (z0b (by simp) eC)))).1
    refine⟨m6,n6.at' fun o e=>by rw[eC] at e;cases e;exact e7,fun h3 hs3=>⟨_,H5, ?_,qn⟩⟩
    exact I9.unpinned.turned (t':=s7.toks) (fun b o hb e=>(hs3.2 b hb).trans e) fC.1 fC.2.1 fC.2.2.2.1 fC.2.2.2.2.1 fC.2.2.2.2.2
   ·have d:=T.item Y eP eW eK eC i [] s5 σ5 H5 (fun _ _=>False) I5 (eF fr5) st5 go
    rw[eA] at d
    refine thn d fun r s6 ⟨u,hr,h6⟩=> ?_
    subst hr
    refine thn h6 fun _ s7 ⟨x,H7,I7,r7,y7,st7,fr7⟩=> ?_
    have I7':=I7.pinned (eF fr7) (T.obj _ _ st7)
    have e1:=gY _ s7 σ5 H7 x u _ I7' r7 (step x H7 y7)
    rw[eP,eW,eA,eE,eX] at e1
    refine thn e1 fun _ s8 ⟨σ8,H8,I8,q8⟩=> ?_
    have e1':=sY _ s8 σ8 H8 _ I8 q8
    rw[eP,eW,eA,eE,eX] at e1'
    refine thn e1' fun ok s8 ⟨H8,I8,q8⟩=> ?_
    cases ok with
    |false=>
     rw[if_neg Bool.false_ne_true] at q8⊢
     obtain⟨m',hm',w9⟩:=q8
     refine⟨m',hm',i+1,_,σ8,_,I8.unpinned,T.keep _ _ _ st7 fun b hb o e=> ?_,fun b hb=> ?_,w9⟩
     ·exact(I8.pin (b,o) (List.mem_append_right _ (List.mem_append_right _ (z0b hb e)))).1
     ·obtain⟨o,e,d⟩:=T.obj _ _ st7 b hb
      exact(I8.pin (b,o) (List.mem_append_right _ (List.mem_append_right _ (z0b hb e)))).2.1
    |true=>
    rw[if_pos rfl] at q8⊢
    have e2:=tY _ s8 σ8 H8 _ I8 q8
    rw[eP,eW,eA,eE,eX] at e2
    refine thn e2 fun yv s9 ⟨y,H9,I9,r9,hD9,hz9,m',hm',w9⟩=> ?_
    have e3:=z1V (X:=Y) _ s9 σ8 H9 (.ref D) [y] (.ref D) [yv] (fun v H'=>v= .non/\H'=upd H9 D (.lst (ys++[y]))) I9 rfl (.cons r9 .nil) ⟨D,ys,y,rfl,rfl,hD9,hz9,rfl,rfl⟩
    rw[eP,eW,eA,eX] at e3
    refine thn e3 fun _ s10 ⟨v10,H10,I10,r10,_,e10⟩=> ?_
    subst e10
    refine⟨m',hm',i+1,_,σ8,_,I10.unpinned,T.keep _ _ _ st7 fun b hb o e=> ?_,fun b hb=> ?_,w9⟩
    ·exact(I10.pin (b,o) (List.mem_append_right _ (List.mem_append_right _ (z0b hb e)))).1
    ·obtain⟨o,e,d⟩:=T.obj _ _ st7 b hb
     exact(I10.pin (b,o) (List.mem_append_right _ (List.mem_append_right _ (z0b hb e)))).2.1
  exact codeAny_compStart_list loop (T.self _ 0 _ _ _ st4 loop)
 exact goal
end
structure zbc(osc sc:Scope)(own frees N:List Str)(ix:List Nat):Prop where
 kind:sc.kind= .function
 names: ∀y∈sc.names,y.2= .local->sc.names.lookup y.1=some .local
 fr: ∀y∈sc.names,y.2= .free->osc.names.lookup y.1=some .cell\/osc.names.lookup y.1=some .free
 nd:(own++frees).Nodup
 frl: ∀x∈frees,sc.names.lookup x=some .free
 ixs:ix.map (fun i=>N[i]?)=frees.map some
 frc: ∀y∈sc.names,y.2= .cell->y.1∉frees
 owf: ∀y∈sc.names,y.2= .free->y.1∉own
section
variable{X:Cx}{tg:Expr}
noncomputable def Rg3(i j c:Int):Prop:=c≠0/\c.natAbs<1073741824/\Builtin.Range.small i j c=true/\0<=Builtin.Range.rangeSize i j c
instance(i j c:Int):Decidable (Rg3 i j c):=by unfold Rg3;infer_instance
end
end L2
namespace Mi
open PySem L2
structure ItK where
 k:Nat
 at':Nat->List (Option D)->Option (Option D)
 len:List (Option D)->Nat
noncomputable def zc6(i:Nat):List (Option D)->Option (Option D)
 |some c::_=>(lstD c).map fun ds=>ds[i]?
 |_=>none
noncomputable def zc7(i:Nat):List (Option D)->Option (Option D)
 |some (.tup ds)::_=>some ds[i]?
 |_=>none
noncomputable def z9j:List (Option D)->Nat
 |some (.tup ds)::_=>ds.length
 |some (.lst _ ds)::_=>ds.length
 |some (.ro ds)::_=>ds.length
 |_=>0
noncomputable def kLst:ItK:=⟨1,zc6,z9j⟩
noncomputable def kTup:ItK:=⟨1,zc7,z9j⟩
noncomputable def kRng(lo:Int)(n:Nat):ItK:=⟨0,fun i _=>some (if i<n then some (.int (lo+i)) else none),fun _=>n⟩
noncomputable def Stt.popn(s:Stt)(k:Nat):Stt:={s with tm:=s.tm.drop k}
section
variable{X:Cx}{G:Gx}{F:Fy}{e a b c tg iter:Expr}{pos:Pos}
theorem MR.popn{F:Fx}{ρ:Nat->Addr}{H:Hp}{σv tvs tv:List (Option V)}{s:Stt}(M:MR G F ρ H σv (tvs++tv) s):MR G F ρ H σv tv (s.popn tvs.length):=by
 have sub: ∀l∈z0p (s.popn tvs.length),l∈z0p s:=fun l h=>by
  rcases List.mem_append.mp h with h|h
  ·exact List.mem_append_left _ h
  ·refine List.mem_append_right _ ?_
   have e:=z08 (s.tm.take tvs.length) (s.tm.drop tvs.length)
   rw[List.take_append_drop] at e
   rw[e]
   exact List.mem_append_right _ h
 exact⟨M.sl,(Sl.split tvs M.tm).2,M.inj,M.dom,fun l h=>M.lab l (sub l h),fun l h=>M.own l (sub l h),M.frm,M.kd,M.frb,M.bas⟩
noncomputable def ItOK(G:Gx)(J:It)(K:ItK)(tvs:List (Option V)):Prop:= ∀(F:Fx) ρ H σv tvp tv s i,MR G F ρ H σv (tvp++(tvs++tv)) s->match K.at' i (s.tm.drop tvp.length) with
 |none=>True
 |some none=>J.stop i H
 |some (some d)=>J.go i H/\∀x H',J.yld i H x H'->MRL G F ρ H' σv (tvp++(tvs++tv)) s [d] [x]
noncomputable def tI(G:Gx)(F:Fy)(m:M ItK):TI:=fun σv H R=> ∃tv,F.tv0<:+tv/\∃ρ s,MR G F.toFx ρ H σv tv s/\match m s with
 | .ok K s'=> ∀ρ' H' tvs J,tvs.length=K.k->MR G F.toFx ρ' H' σv (tvs++tv) s'->ItOK G J K tvs->R J H'
 | .ex d s'=>F.xw d s'
 | .no=>False
noncomputable def SI(X:Cx)(G:Gx)(F:Fy)(tg iter:Expr)(m:M ItK):Prop:=PI X tg iter (tI G F m)
theorem PI.imp0{w w':TI}(h:PI X tg iter w)(hi: ∀σ H R,w' σ H R->w σ H R):PI X tg iter w':=fun pins s σ H R I q=>h pins s σ H R I (hi σ H R q)
noncomputable def iSeq(K:W.Frag)(tl:TE):TI:=fun σ H R=>tl σ H fun x H1=> ∃a,x= .ref a/\(((∃xs,SqL K H1 a xs)/\R (Itl K a) H1)\/((∃xs,SqT K H1 a xs)/\R (Itt K a) H1))
theorem zc8{l:Expr}{tl:TE}(hl:PE X l tl):PI X tg l (iSeq X.K tl):=by
 intro pins s σ H R I h
 refine thn (hl pins s σ H _ I h) fun v s1 ⟨x,H1,I1,r1,q1⟩=> ?_
 obtain⟨a,e,q|q⟩:=q1
 ·subst e
  cases r1
  obtain⟨⟨xs,hq⟩,q⟩:=q
  obtain⟨its,rv,p,hz⟩:=I1.list hq
  refine wpAny_pyIter_list p.isList ?_
  refine⟨s1.heap.objs.size,[s1.heap.objs.size],_,_,H1,rfl,I1.kept (t':=s1.toks) fun b o e=>Heap.get?_push_of_some _ e,z6o a _,⟨_,Heap.get?_push_size _ rfl,rfl,rfl⟩,fun b hb=> ?_,q⟩
  have e:b=s1.heap.objs.size:=by simpa using hb
  subst e
  exact I1.fpOk (Nat.le_refl _) (I1.hok.fresh (Nat.le_refl _))
 ·subst e
  cases r1
  obtain⟨⟨xs,hq⟩,q⟩:=q
  obtain⟨its,rv,p,hz⟩:=I1.tuple hq
  refine wpAny_pyIter_tuple (show s1.heap.IsTuple a its.toArray from p) ?_
  refine⟨s1.heap.objs.size,[s1.heap.objs.size],_,_,H1,rfl,I1.kept (t':=s1.toks) fun b o e=>Heap.get?_push_of_some _ e,z3j a _,⟨_,Heap.get?_push_size _ rfl,rfl,rfl⟩,fun b hb=> ?_,q⟩
  have e:b=s1.heap.objs.size:=by simpa using hb
  subst e
  exact I1.fpOk (Nat.le_refl _) (I1.hok.fresh (Nat.le_refl _))
noncomputable def z0T(m:M D):M ItK:=bd m fun d s=>match d with
 | .tup _=> .ok kTup (s.psh d)
 | .lst _ _=> .ok kLst (s.psh d)
 | .ro _=> .ok kLst (s.psh d)
 |_=> .no
theorem SqT.two{K:W.Frag}{H:Hp}{a:Addr}{xs ys:List V}(k:KD K H)(h:SqT K H a xs)(h':SqT K H a ys):xs=ys:=by
 rcases h with(h|⟨o,h⟩)|⟨o,its,n,h,_,hd,_,r⟩<;>rcases h' with(h'|⟨o',h'⟩)|⟨o',its',n',h',_,hd',_,r'⟩
 ·rw[h] at h';cases h';rfl
 ·rw[h] at h';cases h'
 ·rw[k _ _ h'] at h;cases h
 ·rw[h] at h';cases h'
 ·rw[h] at h';cases h';rfl
 ·rw[k _ _ h'] at h;cases h
 ·rw[k _ _ h] at h';cases h'
 ·rw[k _ _ h] at h';cases h'
 ·rw[h] at h';cases h';rw[hd] at hd';cases hd';exact r.inj r'
theorem SqL.two{K:W.Frag}{H:Hp}{a:Addr}{xs ys:List V}(k:KD K H)(h:SqL K H a xs)(h':SqL K H a ys):xs=ys:=by
 rcases h with(h|⟨o,h⟩)|⟨o,its,n,h,_,_,hd,_,r⟩<;>rcases h' with(h'|⟨o',h'⟩)|⟨o',its',n',h',_,_,hd',_,r'⟩
 ·rw[h] at h';cases h';rfl
 ·rw[h] at h';cases h'
 ·rw[k _ _ h'] at h;cases h
 ·rw[h] at h';cases h'
 ·rw[h] at h';cases h';rfl
 ·rw[k _ _ h'] at h;cases h
 ·rw[k _ _ h] at h';cases h'
 ·rw[k _ _ h] at h';cases h'
 ·rw[h] at h';cases h';rw[hd] at hd';cases hd';exact r.inj r'
theorem MR.head{F:Fx}{ρ:Nat->Addr}{H:Hp}{σv tv:List (Option V)}{s:Stt}{v:V}{c:D}{r:List (Option D)}(M:MR G F ρ H σv (some v::tv) s)(e:s.tm=some c::r):RD G ρ H c v/\LB F ρ s.n (labs c):=by
 obtain⟨σ,tm,n⟩:=s
 have e:tm=some c::r:=e
 subst e
 exact⟨MR.top (s:=⟨σ,r,n⟩) M,MR.topl (s:=⟨σ,r,n⟩) M⟩
theorem z5r{a:Addr}:ItOK G (Itl G.K a) kLst [some (.ref a)]:=by
 intro F ρ H σv tvp tv s i M
 dsimp only[kLst]
 cases e:s.tm.drop tvp.length with
 |nil=>trivial
 |cons o r=>
  cases o with
  |none=>trivial
  |some c=>
   simp only[zc6]
   obtain⟨h,lb⟩:=MR.head (s:=s.popn tvp.length) M.popn e
   cases e1:lstD c with
   |none=>trivial
   |some ds=>
    simp only[Option.map_some]
    obtain⟨a',xs,ea,sq,rr,sub⟩:=h.lstq e1
    cases ea
    cases e2:ds[i]? with
    |none=>
     refine⟨xs,sq, ?_⟩
     rw[<-rr.length]
     exact List.getElem?_eq_none_iff.mp e2
    |some d=>
     obtain⟨x,ex,rx⟩:=rr.get i d e2
     refine⟨⟨xs,x,sq,ex⟩, ?_⟩
     rintro x' H' ⟨rfl,hx⟩
     rw[hx xs sq] at ex
     cases ex
     exact⟨M,RDs.one rx,fun l hl=>lb l (sub l (labsL_mem (List.mem_of_getElem? e2) l (by simpa only[labsL,List.append_nil] using hl)))⟩
theorem z8r{a:Addr}:ItOK G (Itt G.K a) kTup [some (.ref a)]:=by
 intro F ρ H σv tvp tv s i M
 dsimp only[kTup]
 cases e:s.tm.drop tvp.length with
 |nil=>trivial
 |cons o r=>
  cases o with
  |none=>trivial
  |some c=>
   obtain⟨h,lb⟩:=MR.head (s:=s.popn tvp.length) M.popn e
   cases c with
   |tup ds=>
    simp only[zc7]
    obtain⟨a',xs,ea,sq,rr⟩:=h.tupq
    cases ea
    cases e2:ds[i]? with
    |none=>
     refine⟨xs,sq, ?_⟩
     rw[<-rr.length]
     exact List.getElem?_eq_none_iff.mp e2
    |some d=>
     obtain⟨x,ex,rx⟩:=rr.get i d e2
     refine⟨⟨xs,x,sq,ex⟩, ?_⟩
     rintro x' H' ⟨rfl,hx⟩
     rw[hx xs sq] at ex
     cases ex
     exact⟨M,RDs.one rx,fun l hl=>lb l (by simp only[labs];exact labsL_mem (List.mem_of_getElem? e2) l (by simpa only[labsL,List.append_nil] using hl))⟩
   |_=>trivial
theorem si_seq{m:M D}(hk:X.K=G.K)(h:SE X G F e m):SI X G F tg e (z0T m):=by
 refine PI.imp0 (zc8 h) fun σ H R ⟨tv,hs,ρ,s,M,W⟩=>⟨tv,hs,ρ,s,M, ?_⟩
 unfold z0T bd at W
 cases e:m s with
 |ex d s1=>rw[e] at W;exact W
 |no=>rw[e] at W;exact W
 |ok t s1=>
  rw[e] at W
  intro ρ1 v H1 M1
  rw[hk]
  cases t with
  |tup ds=>
   obtain⟨a,xs,rfl,sq,r⟩:=M1.rd1.tupq
   exact⟨a,rfl, .inr ⟨⟨xs,sq⟩,W ρ1 H1 [some (.ref a)] _ rfl M1.push z8r⟩⟩
  |lst n ds=>
   obtain⟨a,xs,rfl,sq,r,_⟩:=M1.rd1.lstq (ds:=ds) rfl
   exact⟨a,rfl, .inl ⟨⟨xs,sq⟩,W ρ1 H1 [some (.ref a)] _ rfl M1.push z5r⟩⟩
  |ro ds=>
   obtain⟨a,xs,rfl,sq,r,_⟩:=M1.rd1.lstq (ds:=ds) rfl
   exact⟨a,rfl, .inl ⟨⟨xs,sq⟩,W ρ1 H1 [some (.ref a)] _ rfl M1.push z5r⟩⟩
  |_=>exact False.elim W
noncomputable def rng1(ts:List D):M ItK:=match ts with
 |[.int j]=>if -(2^62)<=j/\j<2^62 then rt (kRng 0 j.toNat) else fl
 |_=>fl
noncomputable def z0H(ms:List (M D)):M ItK:=bd (z0c ms) rng1
theorem z8s{lo:Int}{n:Nat}:ItOK G (Itr lo n) (kRng lo n) []:=by
 intro F ρ H σv tvp tv s i M
 simp only[kRng]
 by_cases h:i<n
 ·rw[if_pos h]
  refine⟨h, ?_⟩
  rintro x H' ⟨rfl,rfl⟩
  exact⟨M,RDs.one (by simp only[RD]),fun l hl=>by simp[labsL,labs] at hl⟩
 ·rw[if_neg h]
  exact Nat.not_lt.mp h
theorem si_rng1{p:Pos}{ms:List (M D)}(hg:Gl X "range")(hm:X.mg "range" =none)(ha:SA X G F [a] (z0c ms))(hs:starEach [a] X.env=[(false,eval a X.env)]:=by rfl):SI X G F tg (.Call (.Name "range" p) [a] [] pos) (z0H ms):=by
 refine PI.imp0 (z6p hg hm ha hs) fun σ H R ⟨tv,hs,ρ,s,M,W⟩=>⟨tv,hs,ρ,s,M, ?_⟩
 unfold z0H bd at W
 cases e:z0c ms s with
 |ex d s1=>rw[e] at W;exact W
 |no=>rw[e] at W;exact W
 |ok ts s1=>
  rw[e] at W
  intro ρ1 vs H1 M1
  unfold rng1 at W
  dsimp only at W
  split at W
  ·rename_i ts' j K s' hh
   split at hh
   ·split at hh
    ·rename_i j' hc
     cases hh
     obtain⟨v,rfl,h,_⟩:=M1.one
     simp only[RD] at h
     subst h
     exact⟨j',rfl,hc.1,hc.2,W ρ1 H1 [] _ rfl M1.m z8s⟩
    ·cases hh
   ·cases hh
  ·rename_i hh
   split at hh
   ·split at hh<;>cases hh
   ·cases hh
  ·exact False.elim W
noncomputable def forGo(K:ItK)(g:Tg)(b:MS):Nat->Nat->MS
 |f,i=>fun s=>match K.at' i s.tm with
  |none=> .no
  |some none=> .nx (s.popn K.k)
  |some (some d)=>match f with
   |0=> .no
   |f+1=>match asg g d s.σ with
    |none=> .no
    |some σ'=>match b {s with σ:=σ'} with
     | .nx s'=>forGo K g b f (i+1) s'
     | .ct s'=>forGo K g b f (i+1) s'
     | .bk s'=> .nx (s'.popn K.k)
     | .rt t s'=> .rt t (s'.popn K.k)
     | .ex d s'=> .ex d s'
     | .no=> .no
noncomputable def sFor(mi:M ItK)(g:Tg)(b:MS):MS:=lift mi fun K s=>forGo K g b (K.len s.tm) 0 s
theorem MRL.popn{ρ:Nat->Addr}{H:Hp}{σv tvs tv:List (Option V)}{s:Stt}{ts:List D}{vs:List V}(M:MRL G F.toFx ρ H σv (tvs++tv) s ts vs):MRL G F.toFx ρ H σv tv (s.popn tvs.length) ts vs:=⟨M.m.popn,M.rd,M.lb⟩
theorem suf2{tvs tv:List (Option V)}(h:F.tv0<:+tv):F.tv0<:+tvs++tv:=h.trans (List.suffix_append _ _)
theorem z6S{m:M ItK}{f:ItK->MS}{tv:List (Option V)}{D:Ends}{σ:St}{H:Hp}{R:It->Hp->Prop}(h:tSv G F (lift m f) tv D σ H)
 (k: ∀K ρ' H' tvs J s',tvs.length=K.k->MR G F.toFx ρ' H' σ (tvs++tv) s'->ItOK G J K tvs->wS G F tv (f K s') D->R J H'):tI G F m σ H R:=by
 obtain⟨hs,ρ,s,M,W⟩:=h
 refine⟨tv,hs,ρ,s,M, ?_⟩
 unfold lift at W
 cases e:m s with
 |ok K s1=>rw[e] at W;exact fun ρ' H' tvs J hl M' hok=>k K ρ' H' tvs J s1 hl M' hok W
 |ex d s1=>rw[e] at W;exact W
 |no=>rw[e] at W;exact W
theorem ss_for{body:List Stmt}{mi:M ItK}{g:Tg}{mb:MS}(hp:PassesOwn (model X.prog X.w) X.A X.env X.xe)(hc:X.calm=true)(hi:SI X G F tg iter mi)(hg:SG X G F tg g)(hb:SSs X G F body mb)(hst: ∀x,foldedSetIterable iter X.env x=pure x:=by intro _;rfl):SS X G F (.For tg iter body [] pos) (sFor mi g mb):=by
 refine PS.imp0 (zbo hp hc hi hg hb hst) fun D σ H ⟨tv,h⟩=>z6S h fun K ρ' H' tvs J s' hl M' hok W=> ?_
 have hs:=h.1
 refine⟨fun i m σ H=> ∃ρ s,MR G F.toFx ρ H σ (tvs++tv) s/\wS G F tv (forGo K g mb m i s) D,⟨_,ρ',s',M',W⟩, ?_⟩
 rintro i m σ H ⟨ρ,s,M,W⟩
 have ok:=hok F.toFx ρ H σ [] tv s i M
 simp only[List.length_nil,List.drop_zero,List.nil_append] at ok
 unfold forGo at W
 cases e:K.at' i s.tm with
 |none=>simp only[e] at W;exact False.elim W
 |some o=>
  cases o with
  |none=>
   simp only[e] at W ok
   refine .inl ⟨ok,W ρ σ H ?_⟩
   rw[<-hl]
   exact M.popn
  |some d=>
   simp only[e] at W ok
   cases m with
   |zero=>exact False.elim W
   |succ f=>
    dsimp only at W
    cases e2:asg g d s.σ with
    |none=>simp only[e2] at W;exact False.elim W
    |some σ'=>
     simp only[e2] at W
     refine .inr ⟨ok.1,fun σ H=> ∃ρ s,MR G F.toFx ρ H σ (tvs++tv) s/\wS G F tv (forGo K g mb f (i+1) s) D,fun σ' H' q=>⟨f,Nat.lt_succ_self _,q⟩,fun x H2 y=> ?_⟩
     refine⟨tvs++tv,ρ,s,d,ok.2 x H2 y,σ',e2,fun σv' M2=>⟨tvs++tv,suf2 hs,ρ,_,M2, ?_⟩⟩
     cases e3:mb {s with σ:=σ'} with
     |nx s2=>simp only[e3] at W;exact fun ρ3 σ3 H3 M3=>⟨ρ3,s2,M3,W⟩
     |ct s2=>simp only[e3] at W;exact fun ρ3 σ3 H3 M3=>⟨ρ3,s2,M3,W⟩
     |bk s2=>simp only[e3] at W;exact fun ρ3 σ3 H3 M3=>W ρ3 σ3 H3 (by rw[<-hl];exact M3.popn)
     |rt t s2=>simp only[e3] at W;exact fun ρ3 σ3 v H3 M3=>W ρ3 σ3 v H3 (by rw[<-hl];exact M3.popn)
     |ex d s2=>simp only[e3] at W;exact W
     |no=>simp only[e3] at W;exact W
end
noncomputable def z0a:List (Option D)->Option (List D)
 |[]=>some []
 |some d::r=>(z0a r).map (d:: ·)
 |none::_=>none
noncomputable def z0X(K:ItK)(g:Tg)(mt:M Bool)(me:M D)(ol:Nat):Nat->Nat->Nat->M D
 |f,i,k=>fun s=>match K.at' i (s.tm.drop (k+ol)) with
  |none=> .no
  |some none=>match z0a (s.tm.take k).reverse with
   |some ds=> .ok (.lst s.n ds) {σ:=(s.tm.drop k).take ol,tm:=s.tm.drop (k+ol+K.k),n:=s.n+1}
   |none=> .no
  |some (some d)=>match f with
   |0=> .no
   |f+1=>match asg g d s.σ with
    |none=> .no
    |some σ'=>match mt {s with σ:=σ'} with
     | .ok false s1=>z0X K g mt me ol f (i+1) k s1
     | .ok true s1=>if k<sizeLine then match me s1 with
      | .ok y s2=>z0X K g mt me ol f (i+1) (k+1) (s2.psh y)
      |_=> .no
      else .no
     |_=> .no
noncomputable def z2I(own:Nat)(ix:List Nat)(s:Stt):Stt:={σ:=List.replicate own none++ix.map (fun i=>(s.σ[i]?).getD none),tm:=s.σ++s.tm,n:=s.n}
noncomputable def z0I(mi:M ItK)(g:Tg)(mt:M Bool)(me:M D)(own:Nat)(ix:List Nat):M D:=bd mi fun K s=>z0X K g mt me s.σ.length (K.len s.tm) 0 0 (z2I own ix s)
section
variable{X:Cx}{G:Gx}{F:Fy}{e a b c tg iter elt:Expr}{pos:Pos}
noncomputable def Fy.prot(F:Fy)(D:Addr)(ys:List V)(h:F.H0 D=none):Fy where
 A0:=F.A0
 H0:=upd F.H0 D (.lst ys)
 Z:=fun a=>a=D\/F.Z a
 zA:=fun a z=>by
  rcases z with rfl|z
  ·exact⟨⟨_,z0e⟩,fun q=>by obtain⟨o,e⟩:=F.aH _ q;rw[h] at e;cases e⟩
  ·obtain⟨⟨o,e⟩,n⟩:=F.zA a z
   exact⟨⟨o,by rw[z07 (z0t e h)];exact e⟩,n⟩
 aH:=fun a q=>by
  obtain⟨o,e⟩:=F.aH a q
  exact⟨o,by rw[z07 (z0t e h)];exact e⟩
 n0:=F.n0
 ρ0:=F.ρ0
 tv0:=[]
 xw:=fun _ _=>False
theorem Sl.none_map{ρ:Nat->Addr}{H:Hp}: ∀k:Nat,Sl G ρ H (List.replicate k none) (List.replicate k none)
 |0=>by simp[Sl]
 |k+1=>by simp only[List.replicate_succ,Sl];exact⟨_,_,rfl,Sl.none_map k⟩
theorem Sl.pick{ρ:Nat->Addr}{H:Hp}{σ:List (Option D)}{σv:List (Option V)}(h:Sl G ρ H σ σv): ∀ix:List Nat,Sl G ρ H (ix.map fun i=>(σ[i]?).getD none) (ix.map fun i=>(σv[i]?).getD none)
 |[]=>by simp[Sl]
 |i::ix=>by
  simp only[List.map_cons]
  cases e:σ[i]? with
  |none=>simp only[Option.getD_none,Sl];exact⟨_,_,rfl,Sl.pick h ix⟩
  |some o=>
   cases o with
   |none=>simp only[Option.getD_some,Sl];exact⟨_,_,rfl,Sl.pick h ix⟩
   |some d=>
    obtain⟨v,e1,r⟩:=h.get i d e
    simp only[Option.getD_some,Sl,e1]
    exact⟨_,_,rfl,r,Sl.pick h ix⟩
theorem z1u{σ:List (Option D)}{l:Nat}: ∀{ix:List Nat},l∈z05 (ix.map fun i=>(σ[i]?).getD none)->l∈z05 σ
 |[],h=>by simp[z05] at h
 |i::ix,h=>by
  simp only[List.map_cons] at h
  cases e:σ[i]? with
  |none=>rw[e] at h;simp only[Option.getD_none,z05] at h;exact z1u h
  |some o=>
   rw[e] at h
   cases o with
   |none=>simp only[Option.getD_some,z05] at h;exact z1u h
   |some d=>
    simp only[Option.getD_some,z05] at h
    rcases List.mem_append.mp h with h|h
    ·exact z1W e l h
    ·exact z1u h
theorem z1Y{l:Nat}: ∀k:Nat,¬l∈z05 (List.replicate k (none:Option D))
 |0,h=>by simp[z05] at h
 |k+1,h=>by simp only[List.replicate_succ,z05] at h;exact z1Y k h
theorem MR.enter{ρ:Nat->Addr}{H:Hp}{σv tv:List (Option V)}{s:Stt}{D:Addr}(M:MR G F.toFx ρ H σv tv s)(hD:H D=none)(k:KD G.K (upd H D (.lst [])))(own:Nat)(ix:List Nat):
 MR G (F.prot D [] (M.fresh0 hD)).toFx ρ (upd H D (.lst [])) (z0R own ix σv) (σv++tv) (z2I own ix s):=by
 have sm:=Same.new (.lst []) hD
 have M1:=M.same sm k
 have nD: ∀l,l<s.n->ρ l≠D:=fun l hl e=>by
  obtain⟨o,q⟩:=M.dom l hl
  rw[e,hD] at q;cases q
 have sub: ∀l∈z0p (z2I own ix s),l∈z0p s:=fun l h=>by
  rcases List.mem_append.mp h with h|h
  ·have h:l∈z05 (List.replicate own none++ix.map (fun i=>(s.σ[i]?).getD none)):=h
   rw[z08] at h
   rcases List.mem_append.mp h with h|h
   ·exact absurd h (z1Y own)
   ·exact List.mem_append_left _ (z1u h)
  ·have h:l∈z05 (s.σ++s.tm):=h
   rw[z08] at h
   exact h
 refine⟨?_,M1.sl.append M1.tm,M1.inj,M1.dom,fun l h=>M.lab l (sub l h),fun l h=> ?_,fun a o e=> ?_,k,fun l hl z=> ?_,M.bas⟩
 ·exact(Sl.none_map own).append (M1.sl.pick ix)
 ·rcases M.own l (sub l h) with q|q
  ·exact .inl q
  ·refine .inr ?_
   show upd F.H0 D (.lst []) (ρ l)=none
   rw[z07 (nD l (M.lab l (sub l h)))];exact q
 ·have e:upd F.H0 D (.lst []) a=some o:=e
  by_cases ha:a=D
  ·subst ha
   rw[z0e] at e;cases e
   exact⟨⟨_,z0e⟩,fun _=>z0e⟩
  ·rw[z07 ha] at e
   exact M1.frm a o e
 ·rcases z with z|z
  ·exact nD l hl z
  ·exact M.frb l hl z
theorem MR.turnD{ρ:Nat->Addr}{H:Hp}{σv tv:List (Option V)}{s:Stt}{D:Addr}{ys ys':List V}{hf:F.H0 D=none}(M:MR G (F.prot D ys hf).toFx ρ H σv tv s):
 H D=some (.lst ys)/\MR G (F.prot D ys' hf).toFx ρ (upd H D (.lst ys')) σv tv s:=by
 have hD:H D=some (.lst ys):=(M.frm D (.lst ys) z0e).2 ((F.prot D ys hf).zA D (.inl rfl)).2
 have nD: ∀l,l<s.n->ρ l≠D:=fun l hl e=>M.frb l hl (.inl e)
 have st:z0N H (upd H D (.lst ys')):=⟨fun b xs e=>by rw[z07 (z85 e hD (by intro z;cases z))];exact e,fun b o u e=>by rw[z07 (z85 e hD (by intro z;cases z))];exact e⟩
 refine⟨hD,⟨Sl.stay st M.sl fun l hl=>⟨rfl,fun o e=> ?_⟩,Sl.stay st M.tm fun l hl=>⟨rfl,fun o e=> ?_⟩,M.inj,fun l hl=> ?_,M.lab,fun l h=> ?_,fun a o e=> ?_,fun a o e=> ?_,fun l hl=>M.frb l hl,M.bas⟩⟩
 ·rw[z07 (nD l (M.lab l (List.mem_append_left _ hl)))];exact e
 ·rw[z07 (nD l (M.lab l (List.mem_append_right _ hl)))];exact e
 ·rw[z07 (nD l hl)];exact M.dom l hl
 ·rcases M.own l h with q|q
  ·exact .inl q
  ·refine .inr ?_
   have q:upd F.H0 D (.lst ys) (ρ l)=none:=q
   show upd F.H0 D (.lst ys') (ρ l)=none
   rw[z07 (nD l (M.lab l h))] at q⊢;exact q
 ·have e:upd F.H0 D (.lst ys') a=some o:=e
  by_cases ha:a=D
  ·subst ha
   rw[z0e] at e;cases e
   exact⟨⟨_,z0e⟩,fun _=>z0e⟩
  ·rw[z07 ha] at e⊢
   exact M.frm a o (by show upd F.H0 D (.lst ys) a=some o;rw[z07 ha];exact e)
 ·by_cases ha:a=D
  ·subst ha
   rw[M.kd a o e] at hD;cases hD
  ·rw[z07 ha];exact M.kd a o e
theorem Sl.all{ρ:Nat->Addr}{H:Hp}: ∀{tm:List (Option D)} {ys:List V} {ds:List D},Sl G ρ H tm (ys.map some)->z0a tm=some ds->RDs G ρ H ds ys/\labsL ds=z05 tm
 |[],ys,ds,h,e=>by
  simp only[Sl] at h
  simp only[z0a,Option.some.injEq] at e
  subst e
  have:ys=[]:=by simpa using h
  subst this
  simp[RDs,labsL,z05]
 |none::r,ys,ds,h,e=>by simp only[z0a] at e;cases e
 |some d::r,ys,ds,h,e=>by
  simp only[Sl] at h
  obtain⟨v,q,e1,h1,h2⟩:=h
  cases ys with
  |nil=>cases e1
  |cons y ys=>
   simp only[List.map_cons,List.cons.injEq,Option.some.injEq] at e1
   obtain⟨rfl,rfl⟩:=e1
   simp only[z0a] at e
   cases e2:z0a r with
   |none=>rw[e2] at e;cases e
   |some es=>
    rw[e2] at e
    cases e
    obtain⟨r1,r2⟩:=Sl.all h2 e2
    refine⟨?_,by simp only[labsL,z05,r2]⟩
    simp only[RDs]
    exact⟨_,_,rfl,h1,r1⟩
theorem Sl.reverse{ρ:Nat->Addr}{H:Hp}: ∀{tm:List (Option D)} {ys:List (Option V)},Sl G ρ H tm ys->Sl G ρ H tm.reverse ys.reverse
 |[],ys,h=>by simp only[Sl] at h;subst h;simp[Sl]
 |none::r,ys,h=>by
  simp only[Sl] at h
  obtain⟨o,q,rfl,h⟩:=h
  rw[List.reverse_cons,List.reverse_cons]
  exact(Sl.reverse h).append (by simp only[Sl];exact⟨_,_,rfl,rfl⟩)
 |some d::r,ys,h=>by
  simp only[Sl] at h
  obtain⟨o,q,rfl,h1,h⟩:=h
  rw[List.reverse_cons,List.reverse_cons]
  exact(Sl.reverse h).append (by simp only[Sl];exact⟨_,_,rfl,h1,rfl⟩)
theorem z2J{l:Nat}: ∀{tm:List (Option D)},l∈z05 tm.reverse↔l∈z05 tm
 |[]=>by simp
 |none::r=>by
  rw[List.reverse_cons,z08]
  simp only[z05,List.append_nil]
  exact z2J
 |some d::r=>by
  rw[List.reverse_cons,z08]
  simp only[z05,List.append_nil,List.mem_append]
  rw[z2J]
  exact Or.comm
theorem MR.leave{ρ:Nat->Addr}{H:Hp}{σi σv tvs tv:List (Option V)}{s:Stt}{A1:Addr}{ys:List V}{hf:F.H0 A1=none}{ds:List D}{kk:Nat}
 (M:MR G (F.prot A1 ys hf).toFx ρ H σi ((ys.reverse.map some)++(σv++(tvs++tv))) s) (hk:tvs.length=kk) (ol:Nat) (ho:σv.length=ol) (e:z0a (s.tm.take ys.length).reverse=some ds):
 MRL G F.toFx (ext ρ s.n A1) H σv tv {σ:=(s.tm.drop ys.length).take ol,tm:=s.tm.drop (ys.length+ol+kk),n:=s.n+1} [.lst s.n ds] [.ref A1]:=by
 subst hk ho
 have hD:=(MR.turnD (ys':=ys) M).1
 have nD: ∀l,l<s.n->ρ l≠A1:=fun l hl e=>M.frb l hl (.inl e)
 have t0:=Sl.split (ys.reverse.map some) M.tm
 simp only[List.length_map,List.length_reverse] at t0
 obtain⟨t1,t2⟩:=t0
 obtain⟨t3,t4⟩:=Sl.split σv t2
 obtain⟨_,t6⟩:=Sl.split tvs t4
 rw[List.drop_drop] at t4
 rw[List.drop_drop,List.drop_drop] at t6
 have t6':Sl G ρ H (s.tm.drop (ys.length+σv.length+tvs.length)) tv:=by rw[Nat.add_assoc];exact t6
 have t1':=t1.reverse
 rw[<-List.map_reverse,List.reverse_reverse] at t1'
 obtain⟨r1,r2⟩:=Sl.all t1' e
 have lt: ∀l,l∈z05 (s.tm.take ys.length)->l∈z0p s:=fun l h=>List.mem_append_right _ (by
  have e:=z08 (s.tm.take ys.length) (s.tm.drop ys.length)
  rw[List.take_append_drop] at e
  rw[e];exact List.mem_append_left _ h)
 have ld: ∀l k,l∈z05 (s.tm.drop k)->l∈z0p s:=fun l k h=>List.mem_append_right _ (by
  have e:=z08 (s.tm.take k) (s.tm.drop k)
  rw[List.take_append_drop] at e
  rw[e];exact List.mem_append_right _ h)
 have ldt: ∀l k j,l∈z05 ((s.tm.drop k).take j)->l∈z0p s:=fun l k j h=>ld l k (by
  have e:=z08 ((s.tm.drop k).take j) ((s.tm.drop k).drop j)
  rw[List.take_append_drop] at e
  rw[e];exact List.mem_append_left _ h)
 have own: ∀l∈z0p s,F.A0 (ρ l)\/F.H0 (ρ l)=none:=fun l h=>by
  rcases M.own l h with q|q
  ·exact .inl q
  ·refine .inr ?_
   have q:upd F.H0 A1 (.lst ys) (ρ l)=none:=q
   rw[z07 (nD l (M.lab l h))] at q;exact q
 have st:=z0N.refl H
 have stay: ∀l,l<s.n->ext ρ s.n A1 l=ρ l/\∀o,H (ρ l)=some o->H (ρ l)=some o:=fun l hl=>⟨z0k hl,fun o e=>e⟩
 have all: ∀l∈z0p {σ:=(s.tm.drop ys.length).take σv.length,tm:=s.tm.drop (ys.length+σv.length+tvs.length),n:=s.n+1},l∈z0p s:=fun l h=>by
  rcases List.mem_append.mp h with h|h
  ·exact ldt l _ _ h
  ·exact ld l _ h
 have dsl: ∀l∈labsL ds,l∈z0p s:=fun l h=>lt l (by rw[r2] at h;exact z2J.mp h)
 refine⟨⟨Sl.stay st t3 fun l hl=>stay l (M.lab l (ldt l _ _ hl)),Sl.stay st t6' fun l hl=>stay l (M.lab l (ld l _ hl)),fun i j hi hj eq=> ?_,fun l hl=> ?_,fun l h=>Nat.lt_succ_of_lt (M.lab l (all l h)),fun l h=> ?_,fun a o e=> ?_,M.kd,fun l hl z=> ?_,⟨Nat.le_succ_of_le M.bas.1,fun l hl=>by rw[z0k (Nat.lt_of_lt_of_le hl M.bas.1)];exact M.bas.2 l hl⟩⟩, ?_,fun l h=> ?_⟩
 ·have hi:i<s.n+1:=hi
  have hj:j<s.n+1:=hj
  by_cases h1:i=s.n
  ·by_cases h2:j=s.n
   ·lia
   ·rw[h1,z0G,z0k (by lia)] at eq
    exact absurd eq.symm (nD j (by lia))
  ·by_cases h2:j=s.n
   ·rw[h2,z0G,z0k (by lia)] at eq
    exact absurd eq (nD i (by lia))
   ·rw[z0k (by lia),z0k (by lia)] at eq
    exact M.inj i j (by lia) (by lia) eq
 ·have hl:l<s.n+1:=hl
  by_cases h1:l=s.n
  ·subst h1;rw[z0G];exact⟨_,hD⟩
  ·rw[z0k (by lia)];exact M.dom l (by lia)
 ·rw[z0k (M.lab l (all l h))];exact own l (all l h)
 ·exact M.frm a o (by show upd F.H0 A1 (.lst ys) a=some o;rw[z07 (z0t e hf)];exact e)
 ·have hl:l<s.n+1:=hl
  by_cases h1:l=s.n
  ·subst h1;rw[z0G] at z
   obtain⟨⟨o,e⟩,_⟩:=F.zA A1 z
   rw[hf] at e;cases e
  ·rw[z0k (by lia)] at z
   exact M.frb l (by lia) (.inr z)
 ·refine RDs.one ?_
  simp only[RD]
  rw[z0G]
  exact⟨rfl,ys,hD,RDs.stay st ds ys r1 fun l hl=>stay l (M.lab l (dsl l hl))⟩
 ·simp only[labsL,labs,List.append_nil] at h
  rcases List.mem_cons.mp h with q|q
  ·rw[q,z0G];exact⟨Nat.lt_succ_self _, .inr hf⟩
  ·have q2:=dsl l q
   exact⟨Nat.lt_succ_of_lt (M.lab l q2),by rw[z0k (M.lab l q2)];exact own l q2⟩
noncomputable def tMx(G:Gx)(m:M D):TE:=fun σ H Q=> ∃F:Fy,tM G F m σ H Q
noncomputable def tBx(G:Gx)(m:M Bool):TT:=fun σ H Q=> ∃F:Fy,tMB G F m σ H Q
noncomputable def tGx(G:Gx)(g:Tg):TG:=fun v σ H Q=> ∃F:Fy,tGn G F g v σ H Q
noncomputable def STs(X:Cx)(G:Gx)(F:Fy)(ifs:List Expr)(m:M Bool):Prop:=PTs X ifs (tMB G F m)
theorem sts_nil:STs X G F [] (rt true):=fun pins s σ H Q I ⟨tv,hs,ρ,ms,M,W⟩=>zai pins s σ H Q I (W ρ H M)
theorem sts_one{m:M Bool}(h:SB X G F c m):STs X G F [c] m:=zaj h
theorem z5s{K:W.Frag}{k:Nat}{ix:List Nat}{mi:M ItK}{g:Tg}{mt:M Bool}{me:M D}{σ:St}{H:Hp}{Q:VK}(hk:K=G.K)(h:tM G F (z0I mi g mt me k ix) σ H Q):z6P K (tI G F mi) (tGx G g) (tBx G mt) (tMx G me) k ix σ H Q:=by
 obtain⟨tv,hsf,ρ,s,M,W⟩:=h
 refine⟨tv,hsf,ρ,s,M, ?_⟩
 unfold z0I bd at W
 cases em:mi s with
 |ex d s1=>rw[em] at W;exact W
 |no=>rw[em] at W;exact W
 |ok K s1=>
  rw[em] at W
  intro ρ1 H1 tvs J hl M1 hok A1 hA1 kd
  subst hk
  have kd:KD G.K (upd H1 A1 (.lst [])):=kd
  have hf:=M1.fresh0 hA1
  refine⟨fun i m ys σ' H'=> ∃ρ s,MR G (F.prot A1 ys hf).toFx ρ H' σ' ((ys.reverse.map some)++(σ++(tvs++tv))) s/\wM G F σ tv (z0X K g mt me s1.σ.length m i ys.length s) Q,⟨_,ρ1,_,M1.enter hA1 kd k ix,W⟩, ?_⟩
  rintro i m ys σ' H' ⟨ρ2,s2,M2,W2⟩
  have hD:=(MR.turnD (ys':=ys) M2).1
  refine⟨hD, ?_⟩
  have ol:s1.σ.length=σ.length:=M1.sl.length
  have ok:=hok (F.prot A1 ys hf).toFx ρ2 H' σ' ((ys.reverse.map some)++σ) tv s2 i (by rw[List.append_assoc];exact M2)
  simp only[List.length_append,List.length_map,List.length_reverse,<-ol,List.append_assoc] at ok
  unfold z0X at W2
  cases e:K.at' i (s2.tm.drop (ys.length+s1.σ.length)) with
  |none=>simp only[e] at W2;exact False.elim W2
  |some o=>
   rw[e] at ok
   cases o with
   |none=>
    simp only[e] at W2 ok
    refine .inl ⟨ok, ?_⟩
    cases ea:z0a (s2.tm.take ys.length).reverse with
    |none=>simp only[ea] at W2;exact False.elim W2
    |some ds=>
     simp only[ea] at W2
     exact W2 _ _ _ (MR.leave M2 hl _ ol.symm ea)
   |some d=>
    simp only[e] at W2 ok
    cases m with
    |zero=>exact False.elim W2
    |succ f=>
     dsimp only at W2
     cases e2:asg g d s2.σ with
     |none=>simp only[e2] at W2;exact False.elim W2
     |some σ3=>
      simp only[e2] at W2
      refine .inr ⟨ok.1,fun x H2 y=> ?_⟩
      have hx:=ok.2 x H2 y
      refine⟨F.prot A1 ys hf,_,ρ2,s2,d,hx,σ3,e2,fun σv' M3=>⟨F.prot A1 ys hf,_,List.nil_suffix,ρ2,_,M3, ?_⟩⟩
      cases e3:mt {s2 with σ:=σ3} with
      |ex d s4=>simp only[e3] at W2;exact False.elim W2
      |no=>simp only[e3] at W2;exact False.elim W2
      |ok b s4=>
       intro ρ4 H4 M4
       cases b with
       |false=>
        simp only[e3] at W2
        rw[if_neg Bool.false_ne_true]
        exact⟨f,Nat.lt_succ_self _,ρ4,s4,M4,W2⟩
       |true=>
        simp only[e3] at W2
        rw[if_pos rfl]
        by_cases hz:ys.length<sizeLine
        ·rw[if_pos hz] at W2
         refine⟨F.prot A1 ys hf,_,List.nil_suffix,ρ4,s4,M4, ?_⟩
         cases e5:me s4 with
         |ex d s5=>simp only[e5] at W2;exact False.elim W2
         |no=>simp only[e5] at W2;exact False.elim W2
         |ok y s5=>
          simp only[e5] at W2
          intro ρ5 v H5 M5
          obtain⟨hD5,M6⟩:=MR.turnD (ys':=ys++[v]) M5.push
          refine⟨hD5,hz,f,Nat.lt_succ_self _,ρ5,s5.psh y, ?_, ?_⟩
          ·rw[List.reverse_append,List.reverse_cons,List.reverse_nil,List.nil_append,List.map_append]
           exact M6
          ·rw[List.length_append];exact W2
        ·rw[if_neg hz] at W2;exact False.elim W2
theorem se_comp{scope:Scope}{own frees:List Str}{ix:List Nat}{ifs:List Expr}{mi:M ItK}{g:Tg}{mt:M Bool}{me:M D}(hk:X.K=G.K)(hc:X.calm=true)(S:z0i X.env.scope scope own frees X.N ix)(hi:SI X G F tg iter mi)
 (hg: ∀(F:Fy) cl C s₀ H₀ fp pn,SG (z04 X scope own frees cl C s₀ H₀ fp pn) G F tg g) (ht: ∀(F:Fy) cl C s₀ H₀ fp pn,STs (z04 X scope own frees cl C s₀ H₀ fp pn) G F ifs mt) (he: ∀(F:Fy) cl C s₀ H₀ fp pn,SE (z04 X scope own frees cl C s₀ H₀ fp pn) G F elt me)
 (hs: ∀x,foldedSetIterable iter X.env x=pure x:=by intro _;rfl):SE X G F (.ListComp elt [⟨tg,iter,ifs,0⟩] scope pos) (z0I mi g mt me own.length ix):=
 PE.imp0 (z6Q (g:=tGx G g) (tt:=tBx G mt) (te:=tMx G me) hc S hi (fun cl C s₀ H₀ fp pn pins s σ H v u Q I r ⟨F',q⟩=>hg F' cl C s₀ H₀ fp pn pins s σ H v u Q I r q)
  (fun cl C s₀ H₀ fp pn pins s σ H Q I ⟨F',q⟩=>ht F' cl C s₀ H₀ fp pn pins s σ H Q I q) (fun cl C s₀ H₀ fp pn pins s σ H Q I ⟨F',q⟩=>he F' cl C s₀ H₀ fp pn pins s σ H Q I q) hs) fun σ H Q h=>z5s hk h
theorem ss_comp{y:Str}{py spos:Pos}{i:Nat}{scope:Scope}{own frees:List Str}{ix:List Nat}{ifs:List Expr}{mi:M ItK}{g:Tg}{mt:M Bool}{me:M D}(hk:X.K=G.K)(hN:X.N.Nodup)(hy:X.N[i]? =some y)(hx:Loc X.env.scope y)(hfn:X.fn y=true\/X.env.scope.names.lookup y=some .local)(hsw:swapsWith (.ListComp elt [⟨tg,iter,ifs,0⟩] scope pos) (some (.Name y py)) spos.line X.env=pure true)
 (hc:X.calm=true) (S:z0i X.env.scope scope own frees X.N ix) (hi:SI X G F tg iter mi)
 (hg: ∀(F:Fy) cl C s₀ H₀ fp pn,SG (z04 X scope own frees cl C s₀ H₀ fp pn) G F tg g) (ht: ∀(F:Fy) cl C s₀ H₀ fp pn,STs (z04 X scope own frees cl C s₀ H₀ fp pn) G F ifs mt) (he: ∀(F:Fy) cl C s₀ H₀ fp pn,SE (z04 X scope own frees cl C s₀ H₀ fp pn) G F elt me)
 (hs: ∀x,foldedSetIterable iter X.env x=pure x:=by intro _;rfl):SS X G F (.Assign [.Name y py] (.ListComp elt [⟨tg,iter,ifs,0⟩] scope pos) spos) (sAsg (.nm i) (z0I mi g mt me own.length ix)):=by
 refine PS.imp0 (z6R (i:=i) (g:=tGx G g) (tt:=tBx G mt) (te:=tMx G me) hN hy hx hfn hsw hc S hi (fun cl C s₀ H₀ fp pn pins s σ H v u Q I r ⟨F',q⟩=>hg F' cl C s₀ H₀ fp pn pins s σ H v u Q I r q)
  (fun cl C s₀ H₀ fp pn pins s σ H Q I ⟨F',q⟩=>ht F' cl C s₀ H₀ fp pn pins s σ H Q I q) (fun cl C s₀ H₀ fp pn pins s σ H Q I ⟨F',q⟩=>he F' cl C s₀ H₀ fp pn pins s σ H Q I q) hs) fun Dd σ H ⟨tv,h⟩=> ?_
 refine z5s hk ⟨tv,(z1G h).mono fun v H1 ⟨ρ1,s1,t,M1,W⟩=> ?_⟩
 simp only[asg] at W
 exact W ρ1 _ H1 (M1.setS i).m
end
mutual
noncomputable def z0l(l:Nat):D->Option D
 | .tup ds=>findL l ds
 | .ro ds=>findL l ds
 | .fdc _ vs=>findL l vs
 | .lst k ds=>if k=l then some (.lst k ds) else findL l ds
 | .dct k ks vs=>if k=l then some (.dct k ks vs) else findL l vs
 | .obj k c ns vs=>if k=l then some (.obj k c ns vs) else findL l vs
 | .non=>none| .bool _=>none| .int _=>none| .str _=>none| .exc _=>none| .fn _=>none
noncomputable def findL(l:Nat):List D->Option D
 |[]=>none
 |d::ds=>match z0l l d with
  |some x=>some x
  |none=>findL l ds
end
section
variable{G:Gx}{ρ:Nat->Addr}{H:Hp}
mutual
theorem z8t(l:Nat): ∀(t:D) (v:V) (d:D),RD G ρ H t v->z0l l t=some d->RD G ρ H d (.ref (ρ l))/\∀k∈labs d,k∈labs t
 | .non,v,d,h,e=>by simp only[z0l] at e;cases e
 | .bool b,v,d,h,e=>by simp only[z0l] at e;cases e
 | .int b,v,d,h,e=>by simp only[z0l] at e;cases e
 | .str b,v,d,h,e=>by simp only[z0l] at e;cases e
 | .exc b,v,d,h,e=>by simp only[z0l] at e;cases e
 | .fn b,v,d,h,e=>by simp only[z0l] at e;cases e
 | .tup ds,v,d,h,e=>by
  simp only[z0l,RD,labs] at h e⊢
  obtain⟨a,xs,_,_,r⟩:=h
  exact findL_rd l ds xs d r e
 | .ro ds,v,d,h,e=>by
  simp only[z0l,RD,labs] at h e⊢
  obtain⟨a,xs,_,_,r⟩:=h
  exact findL_rd l ds xs d r e
 | .fdc ks vs,v,d,h,e=>by
  simp only[z0l,RD,labs] at h e⊢
  obtain⟨a,o,kvs,_,_,_,r⟩:=h
  exact findL_rd l vs _ d r e
 | .lst k ds,v,d,h,e=>by
  simp only[z0l] at e
  by_cases hk:k=l
  ·rw[if_pos hk] at e;cases e
   subst hk
   have h':=h
   simp only[RD] at h'
   obtain⟨rfl,_⟩:=h'
   exact⟨h,fun _ q=>q⟩
  ·rw[if_neg hk] at e
   simp only[RD] at h
   obtain⟨_,xs,_,r⟩:=h
   obtain⟨q1,q2⟩:=findL_rd l ds xs d r e
   exact⟨q1,fun j hj=>by simp only[labs];exact List.mem_cons_of_mem _ (q2 j hj)⟩
 | .dct k ks vs,v,d,h,e=>by
  simp only[z0l] at e
  by_cases hk:k=l
  ·rw[if_pos hk] at e;cases e
   subst hk
   have h':=h
   simp only[RD] at h'
   obtain⟨rfl,_⟩:=h'
   exact⟨h,fun _ q=>q⟩
  ·rw[if_neg hk] at e
   simp only[RD] at h
   obtain⟨_,⟨kvs,_,_,r⟩|⟨kvs,_,_,r⟩⟩:=h
   ·obtain⟨q1,q2⟩:=findL_rd l vs _ d r e
    exact⟨q1,fun j hj=>by simp only[labs];exact List.mem_cons_of_mem _ (List.mem_append_right _ (q2 j hj))⟩
   ·obtain⟨q1,q2⟩:=findL_rd l vs _ d r e
    exact⟨q1,fun j hj=>by simp only[labs];exact List.mem_cons_of_mem _ (List.mem_append_right _ (q2 j hj))⟩
 | .obj k c ns vs,v,d,h,e=>by
  simp only[z0l] at e
  by_cases hk:k=l
  ·rw[if_pos hk] at e;cases e
   subst hk
   have h':=h
   simp only[RD] at h'
   obtain⟨rfl,_⟩:=h'
   exact⟨h,fun _ q=>q⟩
  ·rw[if_neg hk] at e
   simp only[RD] at h
   obtain⟨_,C,dx,fs,_,_,_,r⟩:=h
   obtain⟨q1,q2⟩:=findL_rd l vs _ d r e
   exact⟨q1,fun j hj=>by simp only[labs];exact List.mem_cons_of_mem _ (q2 j hj)⟩
theorem findL_rd(l:Nat): ∀(t:List D) (v:List V) (d:D),RDs G ρ H t v->findL l t=some d->RD G ρ H d (.ref (ρ l))/\∀k∈labs d,k∈labsL t
 |[],v,d,h,e=>by simp only[findL] at e;cases e
 |t::ts,v,d,h,e=>by
  simp only[findL,RDs,labsL] at h e⊢
  obtain⟨x,r,_,h1,h2⟩:=h
  cases e1:z0l l t with
  |some y=>
   rw[e1] at e;cases e
   obtain⟨q1,q2⟩:=z8t l t x _ h1 e1
   exact⟨q1,fun j hj=>List.mem_append_left _ (q2 j hj)⟩
  |none=>
   rw[e1] at e
   obtain⟨q1,q2⟩:=findL_rd l ts r d h2 e
   exact⟨q1,fun j hj=>List.mem_append_right _ (q2 j hj)⟩
end
theorem roL_two{K:W.Frag}{a:Addr}{xs ys:List V}(k:KD K H)(h:RoL K H a xs)(h':RoL K H a ys):xs=ys:=SqL.two k h.sq h'.sq
noncomputable def z5t(G:Gx)(H:Hp)(a:Addr):Nat->Prop
 |0=> ∃xs,SqT G.K H a xs
 |1=> ∃xs,RoL G.K H a xs
 |2=> ∃xs,H a=some (.lst xs)
 |3=>(∃kvs,H a=some (.dK kvs))\/∃kvs,H a=some (.dT kvs)
 |4=> ∃C dx fs,H a=some (.ins C dx fs)
 |5=> ∃o φ,H a=some (.frz o (.ext φ))
 |6=> ∃c,G.cl c=some a
 |_=> ∃o kvs,H a=some (.frz o (.dT kvs))
open Classical in
noncomputable def kd(K:W.Frag)(H:Hp)(a:Addr):Nat:=match H a with
 |some (.tup _)=>0|some (.frz _ (.tup _))=>0|some (.frz _ (.lst _))=>1|some (.lst _)=>2|some (.dK _)=>3|some (.dT _)=>3|some (.ins _ _ _)=>4|some (.frz _ (.ext _))=>5|some (.frz _ (.dT _))=>7
 |some _=>9
 |none=>match K.lookup a with
  |some o=>if(∃its n,o.data= .seq its n) then(if o.cls= .type "tuple" then 0 else 1) else 6
  |none=>8
theorem zc9{a:Addr}(k:KD G.K H): ∀{i:Nat},z5t G H a i->i<=7->kd G.K H a=i:=by
 have tl: ¬((.type "list" :Value)= .type "tuple"):=by intro h;injection h with h;exact absurd h (by decide)
 intro i hi li
 match i,hi,li with
 |0,⟨xs,h⟩,_=>
  rcases h with(h|⟨o,h⟩)|⟨o,its,n,h,hc,hd,_⟩
  ·unfold kd;rw[h]
  ·unfold kd;rw[h]
  ·unfold kd;rw[k _ _ h];dsimp only;rw[h];dsimp only;rw[if_pos ⟨its,n,hd⟩,if_pos hc]
 |1,⟨xs,h⟩,_=>
  rcases h with⟨o,h⟩|⟨o,its,n,h,hc,_,hd,_⟩
  ·unfold kd;rw[h]
  ·unfold kd;rw[k _ _ h];dsimp only;rw[h];dsimp only;rw[if_pos ⟨its,n,hd⟩,if_neg (by rw[hc];exact tl)]
 |2,⟨xs,h⟩,_=>unfold kd;rw[h]
 |3,h,_=>rcases h with⟨_,h⟩|⟨_,h⟩<;>(unfold kd;rw[h])
 |4,⟨_,_,_,h⟩,_=>unfold kd;rw[h]
 |5,⟨_,_,h⟩,_=>unfold kd;rw[h]
 |6,⟨c,h⟩,_=>
  obtain⟨o,h1,h2⟩:=G.ck c a h
  unfold kd;rw[k _ _ h1];dsimp only;rw[h1];dsimp only;rw[if_neg (fun⟨its,n,q⟩=>h2 its n q)]
 |7,⟨_,_,h⟩,_=>unfold kd;rw[h]
 |n+8,_,li=>lia
theorem z8u{a:Addr}(k:KD G.K H){i j:Nat}(hi:z5t G H a i)(hj:z5t G H a j)(li:i<=7)(lj:j<=7):i=j:=(zc9 k hi li).symm.trans (zc9 k hj lj)
noncomputable def ix:D->Nat
 | .tup _=>0| .ro _=>1| .lst _ _=>2| .dct _ _ _=>3| .obj _ _ _ _=>4| .exc _=>5| .fn _=>6| .fdc _ _=>7|_=>8
noncomputable def flD:V->D
 | .bl b=> .bool b| .int b=> .int b| .str b=> .str b|_=> .non
theorem RD.kind{t:D}{v:V}(h:RD G ρ H t v):(t=flD v/\∀a,v≠ .ref a)\/∃a,v= .ref a/\ix t<=7/\z5t G H a (ix t):=by
 cases t<;>simp only[RD] at h
 ·exact .inl (by rw[h];exact⟨rfl,nofun⟩)
 ·exact .inl (by rw[h];exact⟨rfl,nofun⟩)
 ·exact .inl (by rw[h];exact⟨rfl,nofun⟩)
 ·exact .inl (by rw[h];exact⟨rfl,nofun⟩)
 ·obtain⟨a',xs,e,s,r⟩:=h;exact .inr ⟨a',e,Nat.le_of_ble_eq_true rfl,xs,SqT.of s⟩
 ·obtain⟨a',xs,e,s,r⟩:=h;exact .inr ⟨a',e,Nat.le_of_ble_eq_true rfl,xs,s⟩
 ·obtain⟨e,xs,s,r⟩:=h;exact .inr ⟨_,e,Nat.le_of_ble_eq_true rfl,xs,s⟩
 ·obtain⟨e,⟨kvs,s,_⟩|⟨kvs,s,_⟩⟩:=h
  ·exact .inr ⟨_,e,Nat.le_of_ble_eq_true rfl, .inl ⟨kvs,s⟩⟩
  ·exact .inr ⟨_,e,Nat.le_of_ble_eq_true rfl, .inr ⟨kvs,s⟩⟩
 ·obtain⟨e,C,dx,fs,_,s,_⟩:=h;exact .inr ⟨_,e,Nat.le_of_ble_eq_true rfl,C,dx,fs,s⟩
 ·obtain⟨a',o,C,e,_,_,_,s⟩:=h;exact .inr ⟨a',e,Nat.le_of_ble_eq_true rfl,o,_,s⟩
 ·obtain⟨a',e,s⟩:=h;exact .inr ⟨a',e,Nat.le_of_ble_eq_true rfl,_,s⟩
 ·obtain⟨a',o,kvs,e,s,_⟩:=h;exact .inr ⟨a',e,Nat.le_of_ble_eq_true rfl,o,kvs,s⟩
theorem ix0{t:D}(h:ix t=0): ∃ds,t= .tup ds:=by cases t<;>first|exact⟨_,rfl⟩|cases h
theorem ix1{t:D}(h:ix t=1): ∃ds,t= .ro ds:=by cases t<;>first|exact⟨_,rfl⟩|cases h
theorem ix2{t:D}(h:ix t=2): ∃l ds,t= .lst l ds:=by cases t<;>first|exact⟨_,_,rfl⟩|cases h
theorem ix3{t:D}(h:ix t=3): ∃l ks vs,t= .dct l ks vs:=by cases t<;>first|exact⟨_,_,_,rfl⟩|cases h
theorem ix4{t:D}(h:ix t=4): ∃l c ns vs,t= .obj l c ns vs:=by cases t<;>first|exact⟨_,_,_,_,rfl⟩|cases h
theorem ix5{t:D}(h:ix t=5): ∃c,t= .exc c:=by cases t<;>first|exact⟨_,rfl⟩|cases h
theorem ix6{t:D}(h:ix t=6): ∃c,t= .fn c:=by cases t<;>first|exact⟨_,rfl⟩|cases h
theorem ix7{t:D}(h:ix t=7): ∃ks vs,t= .fdc ks vs:=by cases t<;>first|exact⟨_,_,rfl⟩|cases h
theorem RD.ixE{t t':D}{v:V}(k:KD G.K H)(h:RD G ρ H t v)(h':RD G ρ H t' v):t=t'\/ix t=ix t':=by
 rcases RD.kind h with⟨e,n⟩|⟨a,e,l,q⟩<;>rcases RD.kind h' with⟨e',n'⟩|⟨a',e',l',q'⟩
 ·exact .inl (e.trans e'.symm)
 ·exact absurd e' (n _)
 ·exact absurd e (n' _)
 ·cases e.symm.trans e';exact .inr (z8u k q q' l l')
section
variable(k:KD G.K H){n:Nat}(inj: ∀i j,i<n->j<n->ρ i=ρ j->i=j)
include k inj
mutual
theorem RD.uniq: ∀(t t':D) (v:V),RD G ρ H t v->RD G ρ H t' v->(∀l∈labs t,l<n)->(∀l∈labs t',l<n)->t=t'
 | .non,t',v,h,h',_,_=>(RD.kind h').elim (fun e=>by simp only[RD] at h;subst h;exact e.1.symm) fun⟨_,e,_⟩=>by simp only[RD] at h;subst h;cases e
 | .bool b,t',v,h,h',_,_=>(RD.kind h').elim (fun e=>by simp only[RD] at h;subst h;exact e.1.symm) fun⟨_,e,_⟩=>by simp only[RD] at h;subst h;cases e
 | .int b,t',v,h,h',_,_=>(RD.kind h').elim (fun e=>by simp only[RD] at h;subst h;exact e.1.symm) fun⟨_,e,_⟩=>by simp only[RD] at h;subst h;cases e
 | .str b,t',v,h,h',_,_=>(RD.kind h').elim (fun e=>by simp only[RD] at h;subst h;exact e.1.symm) fun⟨_,e,_⟩=>by simp only[RD] at h;subst h;cases e
 | .exc c,t',v,h,h',lb,lb'=>by
  rcases RD.ixE k h h' with e|e
  ·exact e
  obtain⟨c',rfl⟩:=ix5 e.symm
  simp only[RD] at h h'
  obtain⟨a,o,C,rfl,h1,h2,_,s⟩:=h
  obtain⟨a',o',C',e,h1',h2',_,s'⟩:=h'
  cases e
  rw[s] at s';cases s'
  rw[h2] at h2';cases h2'
  rw[G.ci c c' C h1 h1']
 | .fn c,t',v,h,h',lb,lb'=>by
  rcases RD.ixE k h h' with e|e
  ·exact e
  obtain⟨c',rfl⟩:=ix6 e.symm
  simp only[RD] at h h'
  obtain⟨a,rfl,h1⟩:=h
  obtain⟨a',e,h1'⟩:=h'
  cases e
  rw[G.ci c c' a h1 h1']
 | .tup ds,t',v,h,h',lb,lb'=>by
  rcases RD.ixE k h h' with e|e
  ·exact e
  obtain⟨es,rfl⟩:=ix0 e.symm
  obtain⟨a,xs,rfl,s,r⟩:=h.tupq
  obtain⟨a',ys,e,s',r'⟩:=h'.tupq
  cases e
  cases SqT.two k s s'
  rw[RDs.uniq ds es xs r r' lb lb']
 | .fdc ks vs,t',v,h,h',lb,lb'=>by
  rcases RD.ixE k h h' with e|e
  ·exact e
  obtain⟨ks',vs',rfl⟩:=ix7 e.symm
  simp only[RD] at h h'
  obtain⟨a,o,kvs,rfl,s,s2,r⟩:=h
  obtain⟨a',o',kvs',e,s',s2',r'⟩:=h'
  cases e
  rw[s] at s';cases s'
  rw[s2,s2',RDs.uniq vs vs' _ r r' lb lb']
 | .ro ds,t',v,h,h',lb,lb'=>by
  rcases RD.ixE k h h' with e|e
  ·exact e
  obtain⟨es,rfl⟩:=ix1 e.symm
  simp only[RD] at h h'
  obtain⟨a,xs,rfl,s,r⟩:=h
  obtain⟨a',ys,e,s',r'⟩:=h'
  cases e
  cases roL_two k s s'
  rw[RDs.uniq ds es xs r r' lb lb']
 | .lst l ds,t',v,h,h',lb,lb'=>by
  rcases RD.ixE k h h' with e|e
  ·exact e
  obtain⟨l',es,rfl⟩:=ix2 e.symm
  simp only[RD] at h h'
  obtain⟨rfl,xs,s,r⟩:=h
  obtain⟨e,ys,s',r'⟩:=h'
  cases inj l l' (lb l (.head _)) (lb' l' (.head _)) (V.ref.inj e)
  rw[s] at s';cases s'
  rw[RDs.uniq ds es xs r r' (fun j hj=>lb j (.tail _ hj)) fun j hj=>lb' j (.tail _ hj)]
 | .dct l ks vs,t',v,h,h',lb,lb'=>by
  rcases RD.ixE k h h' with e|e
  ·exact e
  obtain⟨l',ks',vs',rfl⟩:=ix3 e.symm
  simp only[RD] at h h'
  obtain⟨rfl,q⟩:=h
  obtain⟨e,q'⟩:=h'
  cases inj l l' (lb l (.head _)) (lb' l' (.head _)) (V.ref.inj e)
  have b1: ∀j∈labsL vs,j<n:=fun j hj=>lb j (.tail _ (List.mem_append_right _ hj))
  have b2: ∀j∈labsL vs',j<n:=fun j hj=>lb' j (.tail _ (List.mem_append_right _ hj))
  rcases q with⟨kvs,s,s2,r⟩|⟨kvs,s,s2,r⟩<;>rcases q' with⟨kvs',s',s2',r'⟩|⟨kvs',s',s2',r'⟩<;>rw[s] at s'<;>cases s'
  ·rw[s2,s2',RDs.uniq vs vs' _ r r' b1 b2]
  ·rw[s2,s2',RDs.uniq vs vs' _ r r' b1 b2]
 | .obj l c ns vs,t',v,h,h',lb,lb'=>by
  rcases RD.ixE k h h' with e|e
  ·exact e
  obtain⟨l',c',ns',vs',rfl⟩:=ix4 e.symm
  simp only[RD] at h h'
  obtain⟨rfl,C,dx,fs,hC,s,s2,r⟩:=h
  obtain⟨e,C',dx',fs',hC',s',s2',r'⟩:=h'
  cases inj l l' (lb l (.head _)) (lb' l' (.head _)) (V.ref.inj e)
  rw[s] at s';cases s'
  rw[s2,s2',G.ci c c' C hC hC',RDs.uniq vs vs' _ r r' (fun j hj=>lb j (.tail _ hj)) fun j hj=>lb' j (.tail _ hj)]
theorem RDs.uniq: ∀(t t':List D) (v:List V),RDs G ρ H t v->RDs G ρ H t' v->(∀l∈labsL t,l<n)->(∀l∈labsL t',l<n)->t=t'
 |[],t',v,h,h',_,_=>by
  simp only[RDs] at h;subst h
  cases t' with
  |nil=>rfl
  |cons d ds=>simp only[RDs] at h';obtain⟨_,_,e,_⟩:=h';cases e
 |d::ds,t',v,h,h',lb,lb'=>by
  simp only[RDs] at h
  obtain⟨x,q,rfl,h1,h2⟩:=h
  cases t' with
  |nil=>simp only[RDs] at h';cases h'
  |cons d' ds'=>
   simp only[RDs] at h'
   obtain⟨_,_,e,h1',h2'⟩:=h'
   cases e
   rw[RD.uniq d d' x h1 h1' (fun l hl=>lb l (by simp only[labsL];exact List.mem_append_left _ hl)) fun l hl=>lb' l (by simp only[labsL];exact List.mem_append_left _ hl),
    RDs.uniq ds ds' q h2 h2' (fun l hl=>lb l (by simp only[labsL];exact List.mem_append_right _ hl)) fun l hl=>lb' l (by simp only[labsL];exact List.mem_append_right _ hl)]
end
end
end
end Mi
namespace Mi
open PySem L2 PySem.Spec PyProof.Rows
inductive RF where
 |ok (t:D) (ts:List D) (n:Nat)|ex (d:D) (ts:List D) (n:Nat)|no
noncomputable abbrev FM:=List D->Nat->RF
structure z4f(G:Gx)(ρ:Nat->Addr)(n:Nat)(ts:List D)(vs:List V)(H:Hp)(ρ':Nat->Addr)(n':Nat)(ts':List D)(H':Hp):Prop where
 old: ∀l,l<n->ρ' l=ρ l
 le:n<=n'
 inj: ∀i j,i<n'->j<n'->ρ' i=ρ' j->i=j
 dom: ∀l,l<n'->∃o,H' (ρ' l)=some o
 rd:RDs G ρ' H' ts' vs
 lb: ∀l∈labsL ts',l<n'/\(l<n->l∈labsL ts)
 fr: ∀a o,H a=some o->(∃o',H' a=some o')/\((∀l∈labsL ts,a≠ρ l)->H' a=some o)
 new: ∀l,n<=l->l<n'->H (ρ' l)=none
 kd:KD G.K H'
section
variable{G:Gx}{ρ ρ':Nat->Addr}{H H':Hp}
theorem z6T(k:Key):labs (keyD k)=[]:=by cases k<;>simp only[keyD,labs]
theorem z6U: ∀ks:List Key,labsL (ks.map keyD)=[]
 |[]=>by simp only[List.map_nil,labsL]
 |k::ks=>by simp only[List.map_cons,labsL,z6T,z6U ks,List.append_nil]
theorem z6V(z:Key⊕List Key):labs (nkD z)=[]:=by
 cases z with
 |inl k=>exact z6T k
 |inr ks=>simp only[nkD,labs,z6U]
mutual
theorem zak: ∀(t:D) (v:V),RD G ρ H t v->∀l∈labs t,∃o,H (ρ l)=some o/\(∀xs,o≠ .tup xs)/\∀u w,o≠ .frz u w
 | .non,v,h,l,hl=>by simp only[labs] at hl;cases hl
 | .bool b,v,h,l,hl=>by simp only[labs] at hl;cases hl
 | .int b,v,h,l,hl=>by simp only[labs] at hl;cases hl
 | .str b,v,h,l,hl=>by simp only[labs] at hl;cases hl
 | .exc b,v,h,l,hl=>by simp only[labs] at hl;cases hl
 | .fn b,v,h,l,hl=>by simp only[labs] at hl;cases hl
 | .tup ds,v,h,l,hl=>by
  simp only[labs,RD] at h hl
  obtain⟨a,xs,_,_,r⟩:=h
  exact labL_mut ds xs r l hl
 | .fdc ks vs,v,h,l,hl=>by
  simp only[labs,RD] at h hl
  obtain⟨a,o,kvs,_,_,_,r⟩:=h
  exact labL_mut vs _ r l hl
 | .ro ds,v,h,l,hl=>by
  simp only[labs,RD] at h hl
  obtain⟨a,xs,_,_,r⟩:=h
  exact labL_mut ds xs r l hl
 | .lst k ds,v,h,l,hl=>by
  simp only[labs,RD] at h hl
  obtain⟨_,xs,s,r⟩:=h
  rcases List.mem_cons.mp hl with rfl|hl
  ·exact⟨_,s,(fun _ q=>nomatch q),(fun _ _ q=>nomatch q)⟩
  ·exact labL_mut ds xs r l hl
 | .dct k ks vs,v,h,l,hl=>by
  simp only[labs,RD] at h hl
  obtain⟨_,⟨kvs,s,s2,r⟩|⟨kvs,s,s2,r⟩⟩:=h
  ·rcases List.mem_cons.mp hl with rfl|hl
   ·exact⟨_,s,(fun _ q=>nomatch q),(fun _ _ q=>nomatch q)⟩
   ·rcases List.mem_append.mp hl with hl|hl
    ·rw[s2] at hl
     obtain⟨d,hd,hl⟩:=z0O hl
     rcases List.mem_cons.mp hd with rfl|hd
     ·simp only[labs] at hl;cases hl
     obtain⟨p,_,rfl⟩:=List.mem_map.mp hd
     obtain⟨kk,_⟩:=p
     cases kk<;>simp only[keyD,labs] at hl<;>cases hl
    ·exact labL_mut vs _ r l hl
  ·rcases List.mem_cons.mp hl with rfl|hl
   ·exact⟨_,s,(fun _ q=>nomatch q),(fun _ _ q=>nomatch q)⟩
   ·rcases List.mem_append.mp hl with hl|hl
    ·rw[s2] at hl
     obtain⟨d,hd,hl⟩:=z0O hl
     obtain⟨p,_,rfl⟩:=List.mem_map.mp hd
     simp only[dkD,labs] at hl
     obtain⟨d,hd,hl⟩:=z0O hl
     obtain⟨kk,_,rfl⟩:=List.mem_map.mp hd
     rw[z6V] at hl;cases hl
    ·exact labL_mut vs _ r l hl
 | .obj k c ns vs,v,h,l,hl=>by
  simp only[labs,RD] at h hl
  obtain⟨_,C,dx,fs,_,s,_,r⟩:=h
  rcases List.mem_cons.mp hl with rfl|hl
  ·exact⟨_,s,(fun _ q=>nomatch q),(fun _ _ q=>nomatch q)⟩
  ·exact labL_mut vs _ r l hl
theorem labL_mut: ∀(t:List D) (v:List V),RDs G ρ H t v->∀l∈labsL t,∃o,H (ρ l)=some o/\(∀xs,o≠ .tup xs)/\∀u w,o≠ .frz u w
 |[],v,h,l,hl=>by simp only[labsL] at hl;cases hl
 |d::ds,v,h,l,hl=>by
  simp only[labsL,RDs] at h hl
  obtain⟨x,r,_,h1,h2⟩:=h
  rcases List.mem_append.mp hl with hl|hl
  ·exact zak d x h1 l hl
  ·exact labL_mut ds r h2 l hl
end
theorem z5Y{kvs:List (Key×V)}{l:Nat}(hl:l∈labsL (kvs.map fun p=>keyD p.1)):False:=by
 obtain⟨d,hd,hl⟩:=z0O hl
 obtain⟨p,_,rfl⟩:=List.mem_map.mp hd
 obtain⟨kk,_⟩:=p
 cases kk<;>simp only[keyD,labs] at hl<;>cases hl
theorem z4Q{kvs:List (NK×V)}{l:Nat}(hl:l∈labsL (kvs.map fun p=>dkD p.1)):False:=by
 obtain⟨d,hd,hl⟩:=z0O hl
 obtain⟨p,_,rfl⟩:=List.mem_map.mp hd
 simp only[dkD,labs] at hl
 obtain⟨d,hd,hl⟩:=z0O hl
 obtain⟨kk,_,rfl⟩:=List.mem_map.mp hd
 rw[z6V] at hl;cases hl
mutual
theorem z5Z(l:Nat): ∀(t:D) (v:V),RD G ρ H t v->l∈labs t->(z0l l t).isSome=true
 | .non,v,h,hl=>by simp only[labs] at hl;cases hl
 | .bool b,v,h,hl=>by simp only[labs] at hl;cases hl
 | .int b,v,h,hl=>by simp only[labs] at hl;cases hl
 | .str b,v,h,hl=>by simp only[labs] at hl;cases hl
 | .exc b,v,h,hl=>by simp only[labs] at hl;cases hl
 | .fn b,v,h,hl=>by simp only[labs] at hl;cases hl
 | .tup ds,v,h,hl=>by
  simp only[labs,RD,z0l] at h hl⊢
  obtain⟨a,xs,_,_,r⟩:=h
  exact findL_some l ds xs r hl
 | .fdc ks vs,v,h,hl=>by
  simp only[labs,RD,z0l] at h hl⊢
  obtain⟨a,o,kvs,_,_,_,r⟩:=h
  exact findL_some l vs _ r hl
 | .ro ds,v,h,hl=>by
  simp only[labs,RD,z0l] at h hl⊢
  obtain⟨a,xs,_,_,r⟩:=h
  exact findL_some l ds xs r hl
 | .lst k ds,v,h,hl=>by
  simp only[labs,RD,z0l] at h hl⊢
  obtain⟨_,xs,s,r⟩:=h
  by_cases e:k=l
  ·rw[if_pos e];rfl
  ·rw[if_neg e]
   rcases List.mem_cons.mp hl with q|q
   ·exact absurd q.symm e
   ·exact findL_some l ds xs r q
 | .dct k ks vs,v,h,hl=>by
  simp only[labs,RD,z0l] at h hl⊢
  obtain⟨_,⟨kvs,s,s2,r⟩|⟨kvs,s,s2,r⟩⟩:=h
  ·by_cases e:k=l
   ·rw[if_pos e];rfl
   ·rw[if_neg e]
    rcases List.mem_cons.mp hl with q|q
    ·exact absurd q.symm e
    ·rcases List.mem_append.mp q with q|q
     ·rw[s2] at q;exact(z5Y q).elim
     ·exact findL_some l vs _ r q
  ·by_cases e:k=l
   ·rw[if_pos e];rfl
   ·rw[if_neg e]
    rcases List.mem_cons.mp hl with q|q
    ·exact absurd q.symm e
    ·rcases List.mem_append.mp q with q|q
     ·rw[s2] at q;exact(z4Q q).elim
     ·exact findL_some l vs _ r q
 | .obj k c ns vs,v,h,hl=>by
  simp only[labs,RD,z0l] at h hl⊢
  obtain⟨_,C,dx,fs,_,s,_,r⟩:=h
  by_cases e:k=l
  ·rw[if_pos e];rfl
  ·rw[if_neg e]
   rcases List.mem_cons.mp hl with q|q
   ·exact absurd q.symm e
   ·exact findL_some l vs _ r q
theorem findL_some(l:Nat): ∀(t:List D) (v:List V),RDs G ρ H t v->l∈labsL t->(findL l t).isSome=true
 |[],v,h,hl=>by simp only[labsL] at hl;cases hl
 |d::ds,v,h,hl=>by
  simp only[labsL,RDs,findL] at h hl⊢
  obtain⟨x,r,_,h1,h2⟩:=h
  cases e:z0l l d with
  |some y=>rfl
  |none=>
   rcases List.mem_append.mp hl with q|q
   ·have:=z5Z l d x h1 q
    rw[e] at this;cases this
   ·exact findL_some l ds r h2 q
end
theorem z4f.stays{n n':Nat}{ts ts':List D}{vs:List V}(P:z4f G ρ n ts vs H ρ' n' ts' H')(r:RDs G ρ H ts vs):z0N H H':=by
 refine⟨fun b xs e=>(P.fr b _ e).2 fun l hl z=> ?_,fun b o u e=>(P.fr b _ e).2 fun l hl z=> ?_⟩
 ·obtain⟨o,q,q1,_⟩:=labL_mut ts vs r l hl
  rw[<-z,e] at q;cases q;exact q1 _ rfl
 ·obtain⟨o,q,_,q1⟩:=labL_mut ts vs r l hl
  rw[<-z,e] at q;cases q;exact q1 _ _ rfl
section
variable(k:KD G.K H){n:Nat}(inj: ∀i j,i<n->j<n->ρ i=ρ j->i=j){ts:List D}{vs:List V}(r:RDs G ρ H ts vs)(lb: ∀l∈labsL ts,l<n)
include k inj r lb
mutual
theorem z3n: ∀(t:D) (v:V),RD G ρ H t v->(∀l∈labs t,l<n)->rp (fun l=>findL l ts) t=t
 | .non,v,h,hl=>rfl
 | .bool b,v,h,hl=>rfl
 | .int b,v,h,hl=>rfl
 | .str b,v,h,hl=>rfl
 | .exc b,v,h,hl=>rfl
 | .fn b,v,h,hl=>rfl
 | .tup ds,v,h,hl=>by
  simp only[labs,RD,rp] at h hl⊢
  obtain⟨a,xs,_,_,r1⟩:=h
  rw[rpL_find_id ds xs r1 hl]
 | .fdc ks vs,v,h,hl=>by
  simp only[labs,RD,rp] at h hl⊢
  obtain⟨a,o,kvs,_,_,_,r1⟩:=h
  rw[rpL_find_id vs _ r1 hl]
 | .ro ds,v,h,hl=>by
  simp only[labs,RD,rp] at h hl⊢
  obtain⟨a,xs,_,_,r1⟩:=h
  rw[rpL_find_id ds xs r1 hl]
 | .lst l ds,v,h,hl=>by
  simp only[rp]
  cases e:findL l ts with
  |some d=>
   dsimp only
   obtain⟨q1,q2⟩:=findL_rd l ts vs d r e
   have h':=h
   simp only[RD] at h'
   obtain⟨rfl,_⟩:=h'
   exact RD.uniq k inj _ _ _ q1 h (fun j hj=>lb j (q2 j hj)) hl
  |none=>
   dsimp only
   simp only[labs,RD] at h hl
   obtain⟨_,xs,s,r1⟩:=h
   rw[rpL_find_id ds xs r1 fun j hj=>hl j (List.mem_cons_of_mem _ hj)]
 | .dct l ks vs',v,h,hl=>by
  simp only[rp]
  cases e:findL l ts with
  |some d=>
   dsimp only
   obtain⟨q1,q2⟩:=findL_rd l ts vs d r e
   have h':=h
   simp only[RD] at h'
   obtain⟨rfl,_⟩:=h'
   exact RD.uniq k inj _ _ _ q1 h (fun j hj=>lb j (q2 j hj)) hl
  |none=>
   dsimp only
   simp only[labs,RD] at h hl
   obtain⟨_,⟨kvs,s,s2,r1⟩|⟨kvs,s,s2,r1⟩⟩:=h
   ·rw[rpL_find_id vs' _ r1 fun j hj=>hl j (List.mem_cons_of_mem _ (List.mem_append_right _ hj))]
   ·rw[rpL_find_id vs' _ r1 fun j hj=>hl j (List.mem_cons_of_mem _ (List.mem_append_right _ hj))]
 | .obj l c ns vs',v,h,hl=>by
  simp only[rp]
  cases e:findL l ts with
  |some d=>
   dsimp only
   obtain⟨q1,q2⟩:=findL_rd l ts vs d r e
   have h':=h
   simp only[RD] at h'
   obtain⟨rfl,_⟩:=h'
   exact RD.uniq k inj _ _ _ q1 h (fun j hj=>lb j (q2 j hj)) hl
  |none=>
   dsimp only
   simp only[labs,RD] at h hl
   obtain⟨_,C,dx,fs,_,s,_,r1⟩:=h
   rw[rpL_find_id vs' _ r1 fun j hj=>hl j (List.mem_cons_of_mem _ hj)]
theorem rpL_find_id: ∀(t:List D) (v:List V),RDs G ρ H t v->(∀l∈labsL t,l<n)->rpL (fun l=>findL l ts) t=t
 |[],v,h,hl=>rfl
 |d::ds,v,h,hl=>by
  simp only[labsL,RDs,rpL] at h hl⊢
  obtain⟨x,q,_,h1,h2⟩:=h
  rw[z3n d x h1 fun j hj=>hl j (List.mem_append_left _ hj),rpL_find_id ds q h2 fun j hj=>hl j (List.mem_append_right _ hj)]
end
theorem z1l: ∀(t:List (Option D)) (v:List (Option V)),Sl G ρ H t v->(∀l∈z05 t,l<n)->rpO (fun l=>findL l ts) t=t
 |[],v,h,hl=>rfl
 |none::r',v,h,hl=>by
  simp only[z05,Sl,rpO] at h hl⊢
  obtain⟨o,q,_,h⟩:=h
  rw[z1l r' q h hl]
 |some d::ds,v,h,hl=>by
  simp only[z05,Sl,rpO] at h hl⊢
  obtain⟨x,q,_,h1,h2⟩:=h
  rw[z3n k inj r lb d x h1 fun j hj=>hl j (List.mem_append_left _ hj),z1l ds q h2 fun j hj=>hl j (List.mem_append_right _ hj)]
end
variable{F:Fy}{σv tv:List (Option V)}{s:Stt}{np:Nat}
theorem MR.call{ts ts':List D}{vs:List V}{n':Nat}(M:MR G F.toFx ρ H σv tv s)(r:RDs G ρ H ts vs)(lb:LB F.toFx ρ s.n (labsL ts))(P:z4f G ρ s.n ts vs H ρ' n' ts' H')
 (hc: ∀l∈z0p s,l∈labsL ts->(findL l ts').isSome=true):MR G F.toFx ρ' H' σv tv {σ:=rpO (fun l=>findL l ts') s.σ,tm:=rpO (fun l=>findL l ts') s.tm,n:=n'}:=by
 have st:=P.stays r
 have step: ∀l∈z0p s,ρ' l=ρ l/\(match findL l ts' with|some d=>RD G ρ' H' d (.ref (ρ l))|none=> ∀o,H (ρ l)=some o->H' (ρ l)=some o):=fun l hl=>by
  have ol:=P.old l (M.lab l hl)
  refine⟨ol, ?_⟩
  cases e:findL l ts' with
  |some d=>
   have q:=(findL_rd l ts' vs d P.rd e).1
   rw[ol] at q;exact q
  |none=>
   intro o e1
   refine(P.fr _ _ e1).2 fun j hj z=> ?_
   have:l=j:=M.inj l j (M.lab l hl) (lb j hj).1 z
   subst this
   have:=hc l hl hj
   rw[e] at this;cases this
 have hn: ∀l,l<n'->l<s.n\/H (ρ' l)=none:=fun l hl=>by
  by_cases h:l<s.n
  ·exact .inl h
  ·exact .inr (P.new l (Nat.not_lt.mp h) hl)
 have hlab: ∀(xs:List (Option D)),(∀l∈z05 xs,l∈z0p s)->∀l∈z05 (rpO (fun l=>findL l ts') xs),l<n'/\(l<s.n->l∈z0p s\/l∈labsL ts):=fun xs hx l h=>by
  rcases z2t l xs h with q|⟨k,d,q1,q2,q3⟩
  ·exact⟨Nat.lt_of_lt_of_le (M.lab l (hx l q)) P.le,fun _=> .inl (hx l q)⟩
  ·obtain⟨b1,b2⟩:=P.lb l ((findL_rd k ts' vs d P.rd q2).2 l q3)
   exact⟨b1,fun z=> .inr (b2 z)⟩
 have all: ∀l∈z0p {σ:=rpO (fun l=>findL l ts') s.σ,tm:=rpO (fun l=>findL l ts') s.tm,n:=n'},l<n'/\(l<s.n->l∈z0p s\/l∈labsL ts):=fun l h=>by
  rcases List.mem_append.mp h with h|h
  ·exact hlab s.σ (fun l q=>List.mem_append_left _ q) l h
  ·exact hlab s.tm (fun l q=>List.mem_append_right _ q) l h
 refine⟨Sl.rp st M.sl fun l hl=>step l (List.mem_append_left _ hl),Sl.rp st M.tm fun l hl=>step l (List.mem_append_right _ hl),P.inj,P.dom,fun l h=>(all l h).1,fun l h=> ?_,fun a o e=> ?_,P.kd,fun l hl z=> ?_,⟨Nat.le_trans M.bas.1 P.le,fun l hl=> ?_⟩⟩
 ·rcases hn l (all l h).1 with q|q
  ·rw[P.old l q]
   rcases(all l h).2 q with z|z
   ·exact M.own l z
   ·exact(lb l z).2
  ·exact .inr (M.fresh0 q)
 ·obtain⟨⟨o1,e1⟩,e2⟩:=M.frm a o e
  obtain⟨e3,e4⟩:=P.fr a o1 e1
  refine⟨e3,fun nA=> ?_⟩
  have e5:=e2 nA
  rw[e1] at e5;cases e5
  refine e4 fun l hl z=> ?_
  rcases(lb l hl).2 with q|q
  ·exact nA (z▸q)
  ·rw[<-z,e] at q;cases q
 ·rcases hn l hl with q|q
  ·rw[P.old l q] at z;exact M.frb l q z
  ·obtain⟨⟨o,e⟩,_⟩:=F.zA _ z
   obtain⟨⟨o',e'⟩,_⟩:=M.frm _ o e
   rw[q] at e';cases e'
 ·rw[P.old l (Nat.lt_of_lt_of_le hl M.bas.1)];exact M.bas.2 l hl
theorem MR.call0{ts:List D}{vs:List V}{n':Nat}(M:MR G F.toFx ρ H σv tv s)(r:RDs G ρ H ts vs)(lb:LB F.toFx ρ s.n (labsL ts))(P:z4f G ρ s.n ts vs H ρ' n' ts H'):MR G F.toFx ρ' H' σv tv {s with n:=n'}:=by
 have hf: ∀l∈labsL ts,(findL l ts).isSome=true:=fun l hl=>findL_some l ts vs r hl
 have M2:=M.call r lb P fun l _ hl=>hf l hl
 rw[z1l M.kd M.inj r (fun l hl=>(lb l hl).1) s.σ σv M.sl fun l hl=>M.lab l (List.mem_append_left _ hl),z1l M.kd M.inj r (fun l hl=>(lb l hl).1) s.tm tv M.tm fun l hl=>M.lab l (List.mem_append_right _ hl)] at M2
 exact M2
open Classical in
noncomputable def z3y(r:RF)(ts:List D):M D:=fun s=>match r with
 | .ok t ts' n'=>if ts'=ts then .ok t {s with n:=n'} else
  if ∀l∈z0p s,l∈labsL ts->(findL l ts').isSome=true then .ok t {σ:=rpO (fun l=>findL l ts') s.σ,tm:=rpO (fun l=>findL l ts') s.tm,n:=n'} else .no
 |_=> .no
noncomputable def z06(f:FM)(ms:List (M D)):M D:=bd (z0c ms) fun ts s=>z3y (f ts s.n) ts s
noncomputable def spM(G:Gx)(np:Nat)(f:FM):Sp:=fun vs H Q _=>vs.length=np/\∃ρ n ts,RDs G ρ H ts vs/\(∀i j,i<n->j<n->ρ i=ρ j->i=j)/\(∀l,l<n->∃o,H (ρ l)=some o)/\(∀l∈labsL ts,l<n)/\KD G.K H/\match f ts n with
 | .ok t ts' n'=> ∀ρ' v H',z4f G ρ n ts vs H ρ' n' ts' H'->RD G ρ' H' t v->(∀l∈labs t,l<n'/\(l<n->l∈labsL ts))->Q v H'
 |_=>False
theorem z6W{ts:List D}{vs:List V}{f:FM}{Q:VK}{E:XK}(hl:vs.length=np)(M:MRL G F.toFx ρ H σv tv s ts vs)(W:wM G F σv tv (z3y (f ts s.n) ts s) Q):spM G np f vs H Q E:=by
 refine⟨hl,ρ,s.n,ts,M.rd,M.m.inj,M.m.dom,fun l h=>(M.lb l h).1,M.m.kd, ?_⟩
 cases e:f ts s.n with
 |no=>rw[e] at W;exact W
 |ex d ts' n'=>rw[e] at W;exact W
 |ok t ts' n'=>
  rw[e] at W
  intro ρ' v H' P rd lbt
  have own: ∀l∈labs t,F.A0 (ρ' l)\/F.H0 (ρ' l)=none:=fun l h=>by
   obtain⟨b1,b2⟩:=lbt l h
   by_cases hn:l<s.n
   ·rw[P.old l hn];exact(M.lb l (b2 hn)).2
   ·exact .inr (M.m.fresh0 (P.new l (Nat.not_lt.mp hn) b1))
  unfold z3y at W
  dsimp only at W
  split at W
  ·rename_i et
   subst et
   exact W.out (M.m.call0 M.rd M.lb P) rd fun l h=>⟨(lbt l h).1,own l h⟩
  ·split at W
   ·rename_i hc
    exact W.out (M.m.call M.rd M.lb P hc) rd fun l h=>⟨(lbt l h).1,own l h⟩
   ·exact False.elim W
theorem z6X: ∀(ms:List (M D)) (s:Stt) (ts:List D) (s':Stt),z0c ms s= .ok ts s'->ts.length=ms.length:=by
 intro ms
 induction ms with
 |nil=>intro s ts s' e;simp only[z0c,rt,Res.ok.injEq] at e;rw[<-e.1];rfl
 |cons m ms ih=>
  intro s ts s' e
  simp only[z0c,bd,psh] at e
  cases e1:m s with
  |ok t s1=>
   simp only[e1] at e
   cases e2:z0c ms (s1.psh t) with
   |ok ys s2=>
    simp only[e2,pop] at e
    cases e3:s2.tm with
    |nil=>simp only[e3] at e;cases e
    |cons o r=>
     cases o with
     |none=>simp only[e3] at e;cases e
     |some t'=>
      simp only[e3,rt,Res.ok.injEq] at e
      rw[<-e.1,List.length_cons,List.length_cons,ih _ _ _ e2]
   |ex d s2=>simp only[e2] at e;cases e
   |no=>simp only[e2] at e;cases e
  |ex d s1=>simp only[e1] at e;cases e
  |no=>simp only[e1] at e;cases e
theorem se_call{X:Cx}{e:Expr}{es:List Expr}{pos p:Pos}{CX:CXT}{k:Nat}{fa:Addr}{fd:FuncData}{ps:List Str}{x:Str}{E:XK}{f:FM}{ms:List (M D)}(hk:X.K=G.K)(Fn:FnOk X.prog X.w X.K X.mg X.base CX k fa fd ps (spM G ps.length f))(hr:Room k X.A)(hg:Gl X x)(hm:X.mg x=some (.ref fa))(hkp:W.keepIn X.K (.ref fa)=true)(hb:z38 X.K fd ps [])(hx:z3l CX X E)
 (ha:SA X G F (e::es) (z0c ms)) (hln:ms.length=ps.length) (hdb:(x==("__debug__" :Str))=false:=by decide) (he:starEach (e::es) X.env=(false,eval e X.env)::starEach es X.env:=by rfl) (hpl:(backTo pos (starEach es X.env)).any (·.1)=false:=by rfl):
 SE X G F (.Call (.Name x p) (e::es) [] pos) (z06 f ms):=by
 refine PE.imp0 (z9S Fn hr hg hm hkp hb .nil hx ha hdb he hpl) fun σ H Q ⟨tv,hs,ρ,s,M,W⟩=>⟨tv,hs,ρ,s,M, ?_⟩
 unfold z06 bd at W
 cases e1:z0c ms s with
 |ex d s1=>rw[e1] at W;exact W
 |no=>rw[e1] at W;exact W
 |ok ts s1=>
  rw[e1] at W
  intro ρ1 vs H1 M1
  rw[List.append_nil]
  exact z6W (by rw[<-M1.rd.length,z6X ms s ts s1 e1,hln]) M1 W
noncomputable def runF(nl:Nat)(mb:MS):FM:=fun ts n=>match mb {σ:=ts.map some++List.replicate (nl -ts.length) none,tm:=ts.map some,n:=n} with
 | .nx s'=>match z0a s'.tm with|some ts'=> .ok .non ts' s'.n|none=> .no
 | .rt t s'=>match z0a s'.tm with|some ts'=> .ok t ts' s'.n|none=> .no
 | .ex d s'=>match z0a s'.tm with|some ts'=> .ex d ts' s'.n|none=> .no
 |_=> .no
noncomputable def z8v(G:Gx)(ρ:Nat->Addr)(n:Nat)(ts:List D)(vs:List V)(H:Hp)(lb: ∀l∈labsL ts,l<n)(dom: ∀l,l<n->∃o,H (ρ l)=some o):Fy where
 A0:=fun a=> ∃l∈labsL ts,a=ρ l
 H0:=H
 Z:=fun a=>(∃o,H a=some o)/\∀l,l<n->a≠ρ l
 zA:=fun a z=>⟨z.1,fun⟨l,hl,e⟩=>z.2 l (lb l hl) e⟩
 aH:=fun a ⟨l,hl,e⟩=>e▸dom l (lb l hl)
 n0:=n
 ρ0:=ρ
 tv0:=vs.map some
 xw:=fun _ _=>False
theorem RDs.sl: ∀{ts:List D} {vs:List V},RDs G ρ H ts vs->Sl G ρ H (ts.map some) (vs.map some)/\z05 (ts.map some)=labsL ts
 |[],vs,h=>by simp only[RDs] at h;subst h;simp[Sl,z05,labsL]
 |d::ds,vs,h=>by
  simp only[RDs] at h
  obtain⟨x,q,rfl,h1,h2⟩:=h
  obtain⟨q1,q2⟩:=RDs.sl h2
  refine⟨?_,by simp only[List.map_cons,z05,labsL,q2]⟩
  simp only[List.map_cons,Sl]
  exact⟨_,_,rfl,h1,q1⟩
theorem z5u{ts ts':List D}{vs:List V}{n:Nat}{lb: ∀l∈labsL ts,l<n}{dom: ∀l,l<n->∃o,H (ρ l)=some o}(inj: ∀i j,i<n->j<n->ρ i=ρ j->i=j)(M:MR G (z8v G ρ n ts vs H lb dom).toFx ρ' H' σv (vs.map some) s)(e:z0a s.tm=some ts'):
 z4f G ρ n ts vs H ρ' s.n ts' H'/\∀l,l<s.n->((z8v G ρ n ts vs H lb dom).A0 (ρ' l)\/H (ρ' l)=none)->l<n->l∈labsL ts:=by
 have own: ∀l,l<s.n->((z8v G ρ n ts vs H lb dom).A0 (ρ' l)\/H (ρ' l)=none)->l<n->l∈labsL ts:=fun l hl q hn=>by
  have ol:=M.bas.2 l hn
  have ol:ρ' l=ρ l:=ol
  rcases q with⟨j,hj,q⟩|q
  ·rw[ol] at q
   rw[inj l j hn (lb j hj) q];exact hj
  ·rw[ol] at q
   obtain⟨o,z⟩:=dom l hn
   rw[z] at q;cases q
 obtain⟨r1,r2⟩:=Sl.all M.tm e
 refine⟨⟨M.bas.2,M.bas.1,M.inj,M.dom,r1,fun l hl=> ?_,fun a o e1=> ?_,fun l h1 h2=> ?_,M.kd⟩,own⟩
 ·rw[r2] at hl
  have m:l∈z0p s:=List.mem_append_right _ hl
  exact⟨M.lab l m,own l (M.lab l m) (M.own l m)⟩
 ·obtain⟨q1,q2⟩:=M.frm a o e1
  exact⟨q1,fun z=>q2 fun⟨l,hl,e⟩=>z l hl e⟩
 ·cases q:H (ρ' l) with
  |none=>rfl
  |some o=>
   refine absurd ⟨⟨o,q⟩,fun j hj e=> ?_⟩ (M.frb l h2)
   have oj:ρ' j=ρ j:=M.bas.2 j hj
   have:=M.inj l j h2 (Nat.lt_of_lt_of_le hj M.bas.1) (e.trans oj.symm)
   lia
theorem fn_M{P:Program}{w:World}{K:W.Frag}{mg:Str->Option Value}{base:Heap}{x qual:Str}{st:Stmt}{fa:Addr}{fd:FuncData}{N ps:List Str}{k:Nat}{mb:MS}(Fn:Fun K x qual st fa fd)(S:z0m N ps (z03 st))(hG:G.K=K)
 (hb: ∀(cdv:Value) (A:Around) (outer:List Env) (s:Shared) (H:Hp) (E:XK) (F:Fy),Room k (A.deeper (envOfC qual (z03 st) s.heap.objs.size fa cdv))->SSs (cxOf CX0 P w K mg base N qual (z03 st) fa cdv A outer s H E).nox G F (z0P st) mb):
 FnOk P w K mg base CX0 (k+1) fa fd ps (spM G ps.length (runF N.length mb)):=by
 refine Fn.ok S (fun vs H Q E h=>h.1) fun cdv A outer s H vs Q E hr h=> ?_
 obtain⟨hl,ρ,n,ts,r,inj,dom,lb,kd,W⟩:=h
 refine⟨_,hb cdv A outer s H E (z8v G ρ n ts vs H lb dom) hr,vs.map some,List.suffix_refl _,ρ,{σ:=ts.map some++List.replicate (N.length -ts.length) none,tm:=ts.map some,n:=n}, ?_, ?_⟩
 ·obtain⟨r1,r2⟩:=RDs.sl r
  have hlen:=r.length
  have sub: ∀l∈z0p {σ:=ts.map some++List.replicate (N.length -ts.length) none,tm:=ts.map some,n:=n},l∈labsL ts:=fun l h=>by
   rcases List.mem_append.mp h with h|h
   ·have h:l∈z05 (ts.map some++List.replicate (N.length -ts.length) none):=h
    rw[z08] at h
    rcases List.mem_append.mp h with h|h
    ·rw[<-r2];exact h
    ·exact absurd h (z1Y _)
   ·rw[<-r2];exact h
  refine⟨?_,r1,inj,dom,fun l h=>lb l (sub l h),fun l h=> .inl ⟨l,sub l h,rfl⟩,fun a o e=>⟨⟨o,e⟩,fun _=>e⟩,kd,fun l hl z=>z.2 l hl rfl,⟨Nat.le_refl _,fun l _=>rfl⟩⟩
  show Sl G ρ H _ (vs.map some++List.replicate (N.length -vs.length) none)
  rw[<-hlen]
  exact r1.append (Sl.none_map _)
 ·unfold runF at W
  cases e:mb {σ:=ts.map some++List.replicate (N.length -ts.length) none,tm:=ts.map some,n:=n} with
  |nx s'=>
   simp only[e] at W
   cases ea:z0a s'.tm with
   |none=>simp only[ea] at W
   |some ts'=>
    simp only[ea] at W
    intro ρ' σv' H' M
    obtain⟨P,_⟩:=z5u inj M ea
    exact W ρ' .non H' P (by simp only[RD]) fun l h=>by simp[labs] at h
  |rt t s'=>
   simp only[e] at W
   cases ea:z0a s'.tm with
   |none=>simp only[ea] at W
   |some ts'=>
    simp only[ea] at W
    intro ρ' σv' v H' M
    obtain⟨P,own⟩:=z5u inj M.m ea
    exact W ρ' v H' P M.rd1 fun l h=>⟨(M.lb1 l h).1,own l (M.lb1 l h).1 (M.lb1 l h).2⟩
  |bk s'=>simp only[e] at W
  |ct s'=>simp only[e] at W
  |ex d s'=>
   simp only[e] at W
   cases ea:z0a s'.tm with
   |none=>simp only[ea] at W
   |some ts'=>simp only[ea] at W
  |no=>simp only[e] at W
end
mutual
noncomputable def sz:D->Nat
 | .tup ds=>szL ds+1
 | .ro ds=>szL ds+1
 | .fdc _ vs=>szL vs+1
 | .lst _ ds=>szL ds+1
 | .dct _ _ vs=>szL vs+1
 | .obj _ _ _ vs=>szL vs+1
 | .non=>1| .bool _=>1| .int _=>1| .str _=>1| .exc _=>1| .fn _=>1
noncomputable def szL:List D->Nat
 |[]=>0
 |d::ds=>sz d+szL ds
end
mutual
theorem z8w(l:Nat): ∀(t d:D),z0l l t=some d->sz d<=sz t
 | .non,d,e=>by simp only[z0l] at e;cases e
 | .bool b,d,e=>by simp only[z0l] at e;cases e
 | .int b,d,e=>by simp only[z0l] at e;cases e
 | .str b,d,e=>by simp only[z0l] at e;cases e
 | .exc b,d,e=>by simp only[z0l] at e;cases e
 | .fn b,d,e=>by simp only[z0l] at e;cases e
 | .tup ds,d,e=>by simp only[z0l,sz] at e⊢;have:=findL_sz l ds d e;lia
 | .ro ds,d,e=>by simp only[z0l,sz] at e⊢;have:=findL_sz l ds d e;lia
 | .fdc ks vs,d,e=>by simp only[z0l,sz] at e⊢;have:=findL_sz l vs d e;lia
 | .lst k ds,d,e=>by
  simp only[z0l] at e
  by_cases h:k=l
  ·rw[if_pos h] at e;cases e;exact Nat.le_refl _
  ·rw[if_neg h] at e;simp only[sz];have:=findL_sz l ds d e;lia
 | .dct k ks vs,d,e=>by
  simp only[z0l] at e
  by_cases h:k=l
  ·rw[if_pos h] at e;cases e;exact Nat.le_refl _
  ·rw[if_neg h] at e;simp only[sz];have:=findL_sz l vs d e;lia
 | .obj k c ns vs,d,e=>by
  simp only[z0l] at e
  by_cases h:k=l
  ·rw[if_pos h] at e;cases e;exact Nat.le_refl _
  ·rw[if_neg h] at e;simp only[sz];have:=findL_sz l vs d e;lia
theorem findL_sz(l:Nat): ∀(t:List D) (d:D),findL l t=some d->sz d<=szL t
 |[],d,e=>by simp only[findL] at e;cases e
 |t::ts,d,e=>by
  simp only[findL] at e
  simp only[szL]
  cases e1:z0l l t with
  |some y=>rw[e1] at e;cases e;have:=z8w l t _ e1;lia
  |none=>rw[e1] at e;have:=findL_sz l ts d e;lia
end
section
variable{G:Gx}{F:Fy}{ρ:Nat->Addr}{H:Hp}{σv tv:List (Option V)}{s:Stt}{t:D}{ts ds es:List D}{v:V}{vs xs ys:List V}{l:Nat}{Q:VK}
theorem z6Y(M:MR G F.toFx ρ H σv tv s)(h:RD G ρ H (.lst l ds) v)(lb: ∀j∈labs (.lst l ds),j<s.n):l∉labsL ds:=fun hl=>by
 have h0:=h
 simp only[RD] at h0
 obtain⟨rfl,xs,q,r⟩:=h0
 have:=findL_some l ds xs r hl
 cases e:findL l ds with
 |none=>rw[e] at this;cases this
 |some d=>
  obtain⟨q1,q2⟩:=findL_rd l ds xs d r e
  have e2:=RD.uniq M.kd M.inj _ _ _ q1 h (fun j hj=>lb j (by simp only[labs];exact List.mem_cons_of_mem _ (q2 j hj))) lb
  have e3:=findL_sz l ds d e
  rw[e2] at e3
  simp only[sz] at e3
  lia
theorem MR.put2{o:HO}{d:D}(M:MR G F.toFx ρ H σv tv s)(ln:l<s.n)(ow:F.A0 (ρ l)\/F.H0 (ρ l)=none)(ts:z0N H (upd H (ρ l) o))(k:KD G.K (upd H (ρ l) o))(hd:RD G ρ (upd H (ρ l) o) d (.ref (ρ l)))(hb:LB F.toFx ρ s.n (labs d)):
 MR G F.toFx ρ (upd H (ρ l) o) σv tv (s.put l d):=by
 have step: ∀k,k∈z0p s->ρ k=ρ k/\(match (if k=l then some d else none:Option D) with|some d=>RD G ρ (upd H (ρ l) o) d (.ref (ρ k))|none=> ∀o',H (ρ k)=some o'->upd H (ρ l) o (ρ k)=some o'):=fun k hk=>by
  refine⟨rfl, ?_⟩
  by_cases e:k=l
  ·rw[if_pos e];subst e;exact hd
  ·rw[if_neg e]
   intro o' q
   rw[z07 (fun z=>e (M.inj k l (M.lab k hk) ln z))]
   exact q
 have sub: ∀(xs:List (Option D)) (j:Nat),j∈z05 (rpO (fun k=>if k=l then some d else none) xs)->(∀i∈z05 xs,i∈z0p s)->j<s.n/\(F.A0 (ρ j)\/F.H0 (ρ j)=none):=fun xs j h hx=>by
  rcases z2t j xs h with q|⟨k,d',q1,q2,q3⟩
  ·exact⟨M.lab j (hx j q),M.own j (hx j q)⟩
  ·by_cases e:k=l
   ·rw[if_pos e] at q2;cases q2;exact hb j q3
   ·rw[if_neg e] at q2;cases q2
 have all: ∀j∈z0p (s.put l d),j<s.n/\(F.A0 (ρ j)\/F.H0 (ρ j)=none):=fun j h=>by
  rcases List.mem_append.mp h with h|h
  ·exact sub s.σ j h fun i hi=>List.mem_append_left _ hi
  ·exact sub s.tm j h fun i hi=>List.mem_append_right _ hi
 refine⟨Sl.rp ts M.sl fun k hk=>step k (List.mem_append_left _ hk),Sl.rp ts M.tm fun k hk=>step k (List.mem_append_right _ hk),M.inj,fun k hk=> ?_,fun j h=>(all j h).1,fun j h=>(all j h).2,fun a o' e=> ?_,k,M.frb,M.bas⟩
 ·by_cases e:ρ k=ρ l
  ·rw[e];exact⟨o,z0e⟩
  ·rw[z07 e];exact M.dom k hk
 ·obtain⟨⟨o1,e1⟩,e2⟩:=M.frm a o' e
  by_cases ea:a=ρ l
  ·subst ea
   refine⟨⟨o,z0e⟩,fun n=> ?_⟩
   rcases ow with q|q
   ·exact absurd q n
   ·rw[e] at q;cases q
  ·rw[z07 ea]
   exact⟨⟨o1,e1⟩,e2⟩
theorem zca{o o':HO}{a:Addr}(k:KD G.K H)(e:H a=some o):KD G.K (upd H a o'):=fun b ob q=>by
 by_cases h:b=a
 ·subst h;rw[k _ _ q] at e;cases e
 ·rw[z07 h];exact k _ _ q
theorem z4g{o':HO}{a:Addr}{xs:List V}(e:H a=some (.lst xs)):z0N H (upd H a o'):=
 ⟨fun b ys q=>by rw[z07 (z85 q e (by intro z;cases z))];exact q,fun b o u q=>by rw[z07 (z85 q e (by intro z;cases z))];exact q⟩
theorem RDs.upd{o:HO}{a:Addr}(st:z0N H (upd H (ρ l) o))(inj: ∀i j,i<s.n->j<s.n->ρ i=ρ j->i=j)(ln:l<s.n)(r:RDs G ρ H ds xs)(lb: ∀j∈labsL ds,j<s.n/\j≠l):RDs G ρ (L2.upd H (ρ l) o) ds xs:=
 RDs.stay st ds xs r fun j hj=>⟨rfl,fun o' e=>by rw[z07 (fun z=>(lb j hj).2 (inj j l (lb j hj).1 ln z))];exact e⟩
theorem MR.putL(M:MR G F.toFx ρ H σv tv s)(hl:H (ρ l)=some (.lst xs))(ln:l<s.n)(ow:F.A0 (ρ l)\/F.H0 (ρ l)=none)(r:RDs G ρ H es ys)(lb:LB F.toFx ρ s.n (labsL es))(ne:l∉labsL es):
 MR G F.toFx ρ (upd H (ρ l) (.lst ys)) σv tv (s.put l (.lst l es)):=by
 refine M.put2 ln ow (z4g hl) (zca M.kd hl) ?_ fun j hj=> ?_
 ·simp only[RD]
  exact⟨trivial,ys,z0e,RDs.upd (a:=0) (z4g hl) M.inj ln r fun j hj=>⟨(lb j hj).1,fun z=>ne (z▸hj)⟩⟩
 ·simp only[labs] at hj
  rcases List.mem_cons.mp hj with q|q
  ·rw[q];exact⟨ln,ow⟩
  ·exact lb j q
end
noncomputable def appD:D->List D->M D
 | .lst l ds,[y]=>fun s=>if ds.length<sizeLine/\l∉labs y then .ok .non (s.put l (.lst l (ds++[y]))) else .no
 |_,_=>fl
noncomputable def isL(x:D):M Unit:=fun s=>match lstD x with|some _=> .ok () s|none=> .no
noncomputable def z1Q(mo:M D)(ms:List (M D))(g:D->List D->M D):M D:=bd mo fun x=>bd (isL x) fun _=>bd (psh x) fun _=>bd (z0c ms) fun ys=>bd pop fun x'=>g x' ys
section
variable{X:Cx}{G:Gx}{F:Fy}{e o:Expr}{es:List Expr}{apos cpos:Pos}
noncomputable def MtOK(G:Gx)(F:Fy)(r:V->List V->Hp->VK->Prop)(g:D->List D->M D):Prop:= ∀ρ s t ts v vs H σv tv Q,MRL G F.toFx ρ H σv tv s (t::ts) (v::vs)->wM G F σv tv (g t ts s) Q->r v vs H (fun w H'=>KD G.K H'->Q w H')
theorem MRL.hd{ρ:Nat->Addr}{H:Hp}{σv tv:List (Option V)}{s:Stt}{t:D}{ts:List D}{v:V}{vs:List V}(M:MRL G F.toFx ρ H σv tv s (t::ts) (v::vs)):RD G ρ H t v/\RDs G ρ H ts vs/\LB F.toFx ρ s.n (labs t)/\LB F.toFx ρ s.n (labsL ts):=by
 have h:=M.rd
 simp only[RDs] at h
 obtain⟨_,_,e,h1,h2⟩:=h
 cases e
 exact⟨h1,h2,fun l h=>M.lb l (by simp only[labsL];exact List.mem_append_left _ h),fun l h=>M.lb l (by simp only[labsL];exact List.mem_append_right _ h)⟩
theorem zcb:MtOK G F z6z appD:=by
 intro ρ s t ts v vs H σv tv Q M W
 obtain⟨h1,h2,b1,b2⟩:=M.hd
 unfold appD at W
 split at W
 ·rename_i l ds y
  split at W
  ·rename_i hc
   have h1':=h1
   simp only[RD] at h1
   obtain⟨rfl,xs,hx,r⟩:=h1
   simp only[RDs] at h2
   obtain⟨u,q,rfl,h2,rfl⟩:=h2
   have ns:=z6Y M.m h1' fun j hj=>(b1 j hj).1
   have bl:=b1 l (by simp only[labs];exact List.mem_cons_self ..)
   refine⟨_,xs,u,rfl,rfl,hx,by rw[<-r.length];exact hc.1,fun _=>W.out (M.m.putL hx bl.1 bl.2 (r.append (RDs.one h2)) ?_ ?_) (by simp only[RD]) fun l h=>by simp[labs] at h⟩
   ·intro j hj
    rw[z0q] at hj
    rcases List.mem_append.mp hj with q|q
    ·exact b1 j (by simp only[labs];exact List.mem_cons_of_mem _ q)
    ·exact b2 j q
   ·intro hj
    rw[z0q] at hj
    rcases List.mem_append.mp hj with q|q
    ·exact ns q
    ·simp only[labsL,List.append_nil] at q;exact hc.2 q
  ·exact False.elim W
 ·exact wfl W
theorem z8x{T:String}{mo:M D}{ms:List (M D)}{g:D->List D->M D}{r:V->List V->Hp->VK->Prop}{σ:L2.St}{H:Hp}{Q:VK}(hT:T= "list")(hg:MtOK G F r g)(h:tM G F (z1Q mo ms g) σ H Q):
 tM G F mo σ H fun x H1=>tyV G.K T x H1/\tML G F (z0c ms) σ H1 fun xs H2=>r x xs H2 fun w H'=>KD G.K H'->Q w H':=by
 obtain⟨tv,h⟩:=h
 have hs:=h.1
 refine⟨tv,(z5V h).mono fun v H1 ⟨ρ1,s1,t,M1,W⟩=> ?_⟩
 simp only[bd,isL] at W
 cases e1:lstD t with
 |none=>simp only[e1] at W;exact False.elim W
 |some ds=>
  simp only[e1,psh] at W
  obtain⟨a,xs,rfl,sq,_⟩:=M1.rd1.lstq e1
  refine⟨.inl ⟨hT,xs,sq⟩,some (.ref a)::tv,suf1 hs,ρ1,s1.psh t,M1.push, ?_⟩
  cases e2:z0c ms (s1.psh t) with
  |ex d s2=>simp only[e2] at W;exact W
  |no=>simp only[e2] at W;exact W
  |ok ys s2=>
   simp only[e2,pop] at W
   intro ρ2 us H2 M2
   cases e3:s2.tm with
   |nil=>simp only[e3] at W;exact False.elim W
   |cons o r=>
    cases o with
    |none=>simp only[e3] at W;exact False.elim W
    |some t'=>
     simp only[e3] at W
     exact hg _ _ _ _ _ _ _ _ _ _ (M2.down e3) W
theorem zal{name:Str}{id:String}{r:V->List V->Hp->VK->Prop}{mo:M D}{ms:List (M D)}{g:D->List D->M D}(hk:X.K=G.K)(slot:Slot "list" name id)(hty:typeOf (.builtin id)=pure (.type "method_descriptor"))(hm:MtR X id r)(hg:MtOK G F r g)(ho:SE X G F o mo)(ha:SA X G F (e::es) (z0c ms))
 (hbase:attributeBase o name X.env (eval o X.env)=eval o X.env:=by rfl)
 (hfew:((backTo cpos (starEach (e::es) X.env)).all (fun x=> !x.1)&&(backToKw cpos (keywordEach [] X.env)).all (fun x=>x.1.isSome)
  &&decide ((e::es).length+([]:List Keyword).length+(if([]:List Keyword).isEmpty then 0 else 1)<30))=true:=by rfl)
 (hline:(apos.endLine==cpos.line)=true:=by rfl) (hs:starEach (e::es) X.env=(false,eval e X.env)::starEach es X.env:=by rfl) (hplain:(backTo cpos (starEach es X.env)).any (·.1)=false:=by rfl):SE X G F (.Call (.Attribute o name apos) (e::es) [] cpos) (z1Q mo ms g):=by
 refine PE.imp hk (zdv PySem.F.plainAttrs_list slot hty hm ho ha hbase hfew hline hs hplain) fun σ H Q h=> ?_
 rw[hk]
 exact z8x rfl hg h
noncomputable def setD(o i v:D):MS:=fun s=>match o,i with
 | .lst l ds, .int k=>match ixN ds.length k with
  |some j=>if l∉labs v then .nx (s.put l (.lst l (ds.set j v))) else .no
  |none=> .no
 |_,_=> .no
noncomputable def mTri(me mo mi:M D)(g:D->D->D->MS):MS:=lift me fun v=>lift (psh v) fun _=>lift mo fun o=>lift (psh o) fun _=>lift mi fun i=>lift pop fun o'=>lift pop fun v'=>g o' i v'
theorem z8y{mo mi:M D}{g:D->D->D->MS}{tv:List (Option V)}{Dd:Ends}{σ:L2.St}{H1:Hp}{ρ1:Nat->Addr}{s1:Stt}{t:D}{v:V}(hs:F.tv0<:+tv)(M1:MRL G F.toFx ρ1 H1 σ tv s1 [t] [v])
 (W:wS G F tv ((lift (psh t) fun _=>lift mo fun o=>lift (psh o) fun _=>lift mi fun i=>lift pop fun o'=>lift pop fun v'=>g o' i v') s1) Dd):
 tM G F mo σ H1 fun o H2=>tM G F mi σ H2 fun i H3=> ∃ρ s t1 t2 t3,MRL G F.toFx ρ H3 σ tv s [t1,t2,t3] [v,o,i]/\wS G F tv (g t2 t3 t1 s) Dd:=by
 refine⟨some v::tv,suf1 hs,ρ1,s1.psh t,M1.push, ?_⟩
 simp only[lift,psh] at W
 cases e1:mo (s1.psh t) with
 |ex d s2=>simp only[e1] at W;exact W
 |no=>simp only[e1] at W;exact W
 |ok o s2=>
  simp only[e1] at W
  intro ρ2 u H2 M2
  refine⟨some u::some v::tv,suf1 (suf1 hs),ρ2,s2.psh o,M2.push, ?_⟩
  cases e2:mi (s2.psh o) with
  |ex d s3=>simp only[e2] at W;exact W
  |no=>simp only[e2] at W;exact W
  |ok i s3=>
   simp only[e2,pop] at W
   intro ρ3 w H3 M3
   cases e3:s3.tm with
   |nil=>simp only[e3] at W;exact False.elim W
   |cons o3 r3=>
    cases o3 with
    |none=>simp only[e3] at W;exact False.elim W
    |some x3=>
     simp only[e3] at W
     cases r3 with
     |nil=>exact False.elim W
     |cons o4 r4=>
      cases o4 with
      |none=>exact False.elim W
      |some x4=>
       have M4:=M3.down e3
       have M5:=M4.down (s':={s3 with tm:=some x4::r4}) rfl
       exact⟨ρ3,_,x4,x3,i,M5,W⟩
theorem zam{me mo mi:M D}{g:D->D->D->MS}{tv:List (Option V)}{Dd:Ends}{σ:L2.St}{H:Hp}(h:tSv G F (mTri me mo mi g) tv Dd σ H):
 tM G F me σ H fun v H1=>tM G F mo σ H1 fun o H2=>tM G F mi σ H2 fun i H3=> ∃ρ s t1 t2 t3,MRL G F.toFx ρ H3 σ tv s [t1,t2,t3] [v,o,i]/\wS G F tv (g t2 t3 t1 s) Dd:=
 ⟨tv,(z1G h).mono fun v H1 ⟨ρ1,s1,t,M1,W⟩=>z8y h.1 M1 W⟩
theorem zcc{ρ:Nat->Addr}{s:Stt}{t1 t2 t3:D}{v o i:V}{H:Hp}{σv tv:List (Option V)}{Dd:Ends}(M:MRL G F.toFx ρ H σv tv s [t1,t2,t3] [v,o,i])(W:wS G F tv (setD t2 t3 t1 s) Dd):z8h o i v H fun H'=>Dd.nx σv H':=by
 have h:=M.rd
 simp only[RDs] at h
 obtain⟨_,_,e,h1,_,_,e2,h2,_,_,e3,h3,_⟩:=h
 cases e;cases e2;cases e3
 have b1:LB F.toFx ρ s.n (labs t1):=fun l h=>M.lb l (by simp only[labsL];exact List.mem_append_left _ h)
 have b2:LB F.toFx ρ s.n (labs t2):=fun l h=>M.lb l (by simp only[labsL];exact List.mem_append_right _ (List.mem_append_left _ h))
 cases t2 with
 |lst l ds=>
  cases t3 with
  |int k=>
   simp only[setD] at W
   cases ek:ixN ds.length k with
   |none=>simp only[ek] at W;exact False.elim W
   |some j=>
    simp only[ek] at W
    by_cases hc:l∉labs t1
    ·rw[if_pos hc] at W
     have h2':=h2
     simp only[RD] at h2 h3
     obtain⟨rfl,xs,hx,r⟩:=h2
     subst h3
     have ns:=z6Y M.m h2' fun j hj=>(b2 j hj).1
     have bl:=b2 l (by simp only[labs];exact List.mem_cons_self ..)
     have mm: ∀q,q∈labsL (ds.set j t1)->q∈labsL ds\/q∈labs t1:=fun q hq=>by
      obtain⟨d,h1,h2⟩:=z0O hq
      rcases List.mem_or_eq_of_mem_set h1 with z|z
      ·exact .inl (labsL_mem z q h2)
      ·subst z;exact .inr h2
     refine⟨_,xs,k,j,rfl,rfl,hx,by rw[<-r.length];exact ek,W ρ σv _ (M.m.putL hx bl.1 bl.2 (r.set j h1) (fun q hq=> ?_) fun hq=> ?_)⟩
     ·rcases mm q hq with z|z
      ·exact b2 q (by simp only[labs];exact List.mem_cons_of_mem _ z)
      ·exact b1 q z
     ·rcases mm l hq with z|z
      ·exact ns z
      ·exact hc z
    ·rw[if_neg hc] at W;exact False.elim W
  |_=>exact False.elim W
 |_=>exact False.elim W
theorem ss_setI{ob ix:Expr}{pos tpos:Pos}{mo mi me:M D}(he:SE X G F e me)(ho:SE X G F ob mo)(hi:SE X G F ix mi)(hg: ∀{to ti:TE},PE X ob to->PE X ix ti->PG X (.Subscript ob ix tpos) (gSub to ti z8h))(hs:swapsWithSole [.Subscript ob ix tpos] e pos.line X.env=pure false:=by rfl)(hw:swappedStores [.Subscript ob ix tpos] e X.env=pure none:=by rfl)
 (h1:(assignEach [.Subscript ob ix tpos] X.env).map (·.2)=[assign (.Subscript ob ix tpos) X.env]:=by rfl):SS X G F (.Assign [.Subscript ob ix tpos] e pos) (mTri me mo mi setD):=by
 refine PS.imp0 (z9d he (hg ho hi) hs hw h1) fun Dd σ H ⟨tv,h⟩=> ?_
 exact(zam h).mono fun v H1 h1=>h1.mono fun o H2 h2=>h2.mono fun i H3 ⟨ρ,s,t1,t2,t3,M,W⟩=>zcc M W
end
end Mi
namespace Mi
open PySem L2
section
variable{X:Cx}{G:Gx}{F:Fy}{e a b c:Expr}{pos:Pos}{ma mb mc m:M D}
theorem se_add(hk:X.K=G.K)(ha:SE X G F a ma)(hb:SE X G F b mb):SE X G F (.BinOp a .Add b pos) (mBin ma mb addD):=
 z5W hk (r:=fun x y H Q=>rI0 (fun i j=> .int (i+j)) x y H Q\/za5 G.K x y H Q\/rCat x y H Q\/∃i j,x= .str i/\y= .str j/\i.length+j.length<=sizeLine/\Q (.str (i++j)) H) (hk▸OpR.or zbq (OpR.or za6 (OpR.or zbE z5N))) zbP ha hb
theorem se_sub(hk:X.K=G.K)(ha:SE X G F a ma)(hb:SE X G F b mb):SE X G F (.BinOp a .Sub b pos) (mBin ma mb subD):=z5W hk zbr zbQ ha hb
theorem se_mul(hk:X.K=G.K)(ha:SE X G F a ma)(hb:SE X G F b mb):SE X G F (.BinOp a .Mult b pos) (mBin ma mb mulD):=z5W hk (r:=fun x y H Q=>rI CMul (fun i j=> .int (i*j)) x y H Q\/(rRep x y H Q\/za7 G.K x y H Q)) (OpR.or zbs (OpR.or zbF (hk▸za8))) zbW ha hb
theorem se_fdiv(hk:X.K=G.K)(ha:SE X G F a ma)(hb:SE X G F b mb):SE X G F (.BinOp a .FloorDiv b pos) (mBin ma mb z4e):=z5W hk z9O zad ha hb
theorem se_mod(hk:X.K=G.K)(ha:SE X G F a ma)(hb:SE X G F b mb):SE X G F (.BinOp a .Mod b pos) (mBin ma mb modD):=z5W hk zbt zbR ha hb
theorem se_pow(hk:X.K=G.K)(ha:SE X G F a ma)(hb:SE X G F b mb):SE X G F (.BinOp a .Pow b pos) (mBin ma mb powD):=z5W hk zbu zbS ha hb
theorem se_neg(hk:X.K=G.K)(ha:SE X G F a ma):SE X G F (.UnaryOp .USub a pos) (bd ma negD):=zdy hk z9e zbV ha
structure Cm(X:Cx)(G:Gx)(F:Fy)(op:CmpOp)(g:D->D->M D):Prop where
 h: ∃r,OpR X (compareOp op) r/\z1X G F r g
theorem z6Z:Cm X G F .Lt ltD:=⟨_,zdn,zdA⟩
theorem z4R:Cm X G F .LtE leD:=⟨_,zdo,zdB⟩
theorem z70:Cm X G F .Gt gtD:=⟨_,zdp,zdC⟩
theorem z8z(hk:X.K=G.K)(hu:X.A.units+64<cLine):Cm X G F .Eq eqD:=⟨_,hk▸zbJ hu,zdD⟩
theorem zcd(hk:X.K=G.K)(hu:X.A.units+64<cLine):Cm X G F .NotEq neD:=⟨_,hk▸zbK hu,zdE⟩
theorem zce(hk:X.K=G.K)(hu:X.A.units+64<cLine):Cm X G F .NotIn ninD:=⟨_,hk▸z6E hu,zbT⟩
theorem se_cmp{op:CmpOp}{g:D->D->M D}(hc:Cm X G F op g)(ha:SE X G F a ma)(hb:SE X G F b mb)(hm:behindInMarks op b=false):SE X G F (.Compare a [op] [b] pos) (mBin ma mb g):=by
 obtain⟨r,h1,h2⟩:=hc.h
 exact zab h1 h2 ha hb hm
theorem sb_cmp{op:CmpOp}{g:D->D->M D}(hc:Cm X G F op g)(ha:SE X G F a ma)(hb:SE X G F b mb)(hm:behindInMarks op b=false):SB X G F (.Compare a [op] [b] pos) (mBoo (mBin ma mb g)):=by
 obtain⟨r,h1,h2⟩:=hc.h
 exact zaf h1 h2 ha hb hm
theorem sb_cmp2{op op':CmpOp}{g g':D->D->M D}(hc:Cm X G F op g)(hc':Cm X G F op' g')(ha:SE X G F a ma)(hb:SE X G F b mb)(hcc:SE X G F c mc)(hm:lastMarks [op,op'] [b,c]=false:=by with_unfolding_all rfl):SB X G F (.Compare a [op,op'] [b,c] pos) (mBoo (z2n ma mb mc g g')):=by
 obtain⟨r,h1,h2⟩:=hc.h
 obtain⟨r',h1',h2'⟩:=hc'.h
 exact z8p h1 h2 h1' h2' ha hb hcc hm
theorem se_idx(hk:X.K=G.K)(ha:SE X G F a ma)(hb:SE X G F b mb)(hs:z27 b):SE X G F (.Subscript a b pos) (mBin ma mb ixD):=zdz hk (hk▸IxR.or z9X zbC) zdF ha hb hs
structure Cb(X:Cx)(G:Gx)(F:Fy)(f:Value)(g:List D->M D):Prop where
 h: ∃r,CallR X f r/\z0K G F r g
theorem zcf(hk:X.K=G.K):Cb X G F (.builtin "len") lenD:=⟨_,hk▸z47,zc0⟩
theorem zcg:Cb X G F (.builtin "abs") absD:=⟨_,z8d,zc1⟩
theorem z71(hc:X.calm=true):Cb X G F (.builtin "min") minD:=⟨_,z6r hc,zc2⟩
theorem z9k(hc:X.calm=true):Cb X G F (.builtin "max") maxD:=⟨_,z6q hc,zc3⟩
theorem z72:Cb X G F (.type "int") intD:=⟨_,z6s,zc4⟩
theorem z0Y(hk:X.K=G.K):Cb X G F (.type "tuple") tupF:=⟨_,hk▸z6F,zah⟩
theorem z73(hk:X.K=G.K):Cb X G F (.type "list") z3b:=⟨_,hk▸z48,z8q⟩
theorem se_cb{x:Str}{p:Pos}{es:List Expr}{ms:List (M D)}{g:List D->M D}{id:String}(hk:X.K=G.K)(hc:Cb X G F (.builtin id) g)(hgl:Gl X x)(hm:X.mg x=none)(hv:bootBuiltins x=some (.builtin id))(ha:SA X G F (e::es) (z0c ms))(hn:x≠ "__name__" :=by decide)(hdb:(x==("__debug__" :Str))=false:=by decide)
 (he:starEach (e::es) X.env=(false,eval e X.env)::starEach es X.env:=by rfl) (hpl:(backTo pos (starEach es X.env)).any (·.1)=false:=by rfl):SE X G F (.Call (.Name x p) (e::es) [] pos) (mCB ms g):=by
 obtain⟨r,h1,h2⟩:=hc.h
 exact z8n hk h1 h2 hgl hm hv ha hn hdb he hpl
theorem se_ct{x:Str}{p:Pos}{es:List Expr}{ms:List (M D)}{g:List D->M D}{T:String}(hk:X.K=G.K)(hc:Cb X G F (.type T) g)(hgl:Gl X x)(hm:X.mg x=none)(hv:bootBuiltins x=some (.type T))(ha:SA X G F (e::es) (z0c ms))(hn:x≠ "__name__" :=by decide)(hdb:(x==("__debug__" :Str))=false:=by decide)
 (he:starEach (e::es) X.env=(false,eval e X.env)::starEach es X.env:=by rfl) (hpl:(backTo pos (starEach es X.env)).any (·.1)=false:=by rfl):SE X G F (.Call (.Name x p) (e::es) [] pos) (mCB ms g):=by
 obtain⟨r,h1,h2⟩:=hc.h
 exact z6J hk h1 h2 hgl hm hv ha hn hdb he hpl
structure Cl(X:Cx)(G:Gx)(F:Fy)(id:String)(g:D->List D->M D):Prop where
 h: ∃r,MtR X id r/\MtOK G F r g
theorem z1v:Cl X G F "list.append" appD:=⟨_,z1V,zcb⟩
end
end Mi
namespace Mi
open PySem L2 PySem.Spec PyProof.Rows
end Mi
namespace Mi
open PySem L2
noncomputable def G0(K:W.Frag):Gx:=⟨K,fun _=>none,fun _ _ _ h=>(by cases h),fun _ _ h=>(by cases h)⟩
section
variable{X:Cx}{G:Gx}{F:Fy}{e o:Expr}{es:List Expr}{apos cpos:Pos}
theorem se_cl{name:Str}{id:String}{mo:M D}{ms:List (M D)}{g:D->List D->M D}(hk:X.K=G.K)(slot:Slot "list" name id)(hty:typeOf (.builtin id)=pure (.type "method_descriptor"))(hm:Cl X G F id g)(ho:SE X G F o mo)(ha:SA X G F (e::es) (z0c ms))
 (hbase:attributeBase o name X.env (eval o X.env)=eval o X.env:=by rfl)
 (hfew:((backTo cpos (starEach (e::es) X.env)).all (fun x=> !x.1)&&(backToKw cpos (keywordEach [] X.env)).all (fun x=>x.1.isSome)
  &&decide ((e::es).length+([]:List Keyword).length+(if([]:List Keyword).isEmpty then 0 else 1)<30))=true:=by rfl)
 (hline:(apos.endLine==cpos.line)=true:=by rfl) (hs:starEach (e::es) X.env=(false,eval e X.env)::starEach es X.env:=by rfl) (hplain:(backTo cpos (starEach es X.env)).any (·.1)=false:=by rfl):SE X G F (.Call (.Attribute o name apos) (e::es) [] cpos) (z1Q mo ms g):=by
 obtain⟨r,h1,h2⟩:=hm.h
 exact zal hk slot hty h1 h2 ho ha hbase hfew hline hs hplain
end
inductive SEs(X:Cx)(G:Gx)(F:Fy):List Expr->List (M D)->Prop
 |nil:SEs X G F [] []
 |cons {e:Expr} {m:M D} {es:List Expr} {ms:List (M D)}:SE X G F e m->nst e=true->SEs X G F es ms->SEs X G F (e::es) (m::ms)
theorem sa_of{X:Cx}{G:Gx}{F:Fy}{es:List Expr}{ms:List (M D)}(hk:X.K=G.K)(h:SEs X G F es ms):SA X G F es (z0c ms):=by
 induction h with
 |nil=>exact zbO hk
 |cons h1 h2 _ ih=>exact zac hk h1 ih h2
section
variable{X:Cx}{G:Gx}{F:Fy}{a b tg:Expr}{pos:Pos}
noncomputable def rvsD:D->M D
 | .lst _ ds=>newL ds.reverse
 | .ro ds=>newL ds.reverse
 |_=>fl
theorem RDs.rev{ρ:Nat->Addr}{H:Hp}: ∀{ds:List D} {xs:List V},RDs G ρ H ds xs->RDs G ρ H ds.reverse xs.reverse
 |[],xs,h=>by simp only[RDs] at h;subst h;simp only[List.reverse_nil,RDs]
 |d::ds,xs,h=>by
  simp only[RDs] at h
  obtain⟨x,r,rfl,h1,h2⟩:=h
  rw[List.reverse_cons,List.reverse_cons]
  exact(RDs.rev h2).append (RDs.one h1)
theorem z2K{l:Nat}: ∀{ds:List D},l∈labsL ds.reverse->l∈labsL ds
 |[],h=>h
 |d::ds,h=>by
  rw[List.reverse_cons,z0q] at h
  simp only[labsL,List.append_nil,List.mem_append] at h⊢
  rcases h with h|h
  ·exact .inr (z2K h)
  ·exact .inl h
theorem se_rev{e st:Expr}{p2:Pos}{m:M D}(hk:X.K=G.K)(hst:PO X (some st) (z8f (tUn (rU fun i=>V.int (-i)) (tC (.int 1)))))(he:SE X G F e m):SE X G F (.Subscript e (.Slice none none (some st) p2) pos) (bd m rvsD):=by
 refine PE.imp hk (zbL hst he) fun σ H Q ⟨tv,hs,ρ,s,M,W⟩=>⟨tv,hs,ρ,s,M, ?_⟩
 unfold bd at W
 cases e:m s with
 |ex d s1=>rw[e] at W;exact W
 |no=>rw[e] at W;exact W
 |ok t s1=>
  rw[e] at W
  intro ρ1 v H1 M1
  rw[hk]
  cases t with
  |lst n ds=>
   obtain⟨a,xs,rfl,sq,r,sub⟩:=M1.rd1.lstq (ds:=ds) rfl
   exact⟨a,xs,rfl,sq,fun p hp kd=>z0S W M1.m r.rev (fun l hl=>M1.lb l (by simp only[labsL,List.append_nil];exact sub l (z2K hl))) hp kd⟩
  |ro ds=>
   obtain⟨a,xs,rfl,sq,r,sub⟩:=M1.rd1.lstq (ds:=ds) rfl
   exact⟨a,xs,rfl,sq,fun p hp kd=>z0S W M1.m r.rev (fun l hl=>M1.lb l (by simp only[labsL,List.append_nil];exact sub l (z2K hl))) hp kd⟩
  |_=>exact False.elim W
end
end Mi
namespace L2
open PySem PySem.Spec PyProof.Rows
structure Fly(P:Program)(w:World)(outer:List Env)(H:Hp)(s:Shared)(H':Hp)(C:Value)(e:Addr)(s':Shared):Prop where
 os:s'.os=s.os
 bare:AllBare s'.gens
 un:Un (frs outer) [] H H' s.heap s'.heap
 hok:HOk P w H' s'.heap
 he:H' e=none
 se:s.heap.get? e=none
 tr: ∃oe vs a0 T oT ts,s'.heap.get? e=some oe/\(oe.cls=C/\vs[0]? =some a0)/\oe.data= .fields vs/\vs[1]? =some (.ref T)/\T≠e/\s'.heap.get? T=some oT/\oT.data= .fields ts/\ts[3]? =some .none/\H' T=none/\s.heap.get? T=none
noncomputable def CX1(P:Program)(w:World):CXT:=fun outer H s E e s'=> ∃a C H',e= .ref a/\Fly P w outer H s H' C a s'/\E C none H'
noncomputable def zdH(X:Cx)(E:St->XK):Prop:= ∀(pins:List (Addr×Obj)) (σ:St) (H:Hp) (s:Shared) (e:Value) (s':Shared),Inv X pins σ H s->CX1 X.prog X.w X.stack H s (E σ) e s'->X.xe e s'
end L2
namespace L2
open PySem PySem.Spec PySem.Calls PyProof.Rows Builtin Builtin.ObjectAttr Builtin.Getset_descriptor
structure XCls(K:W.Frag)(C:Addr):Prop where
 ob:W.mroIn K C (.type "object")=some true
 ba:W.mroIn K C (.type "BaseException")=some true
 f1:W.findIn K (.ref C) "__getattribute__" =some (some (.builtin "BaseException.__getattribute__"))
 f2:W.findIn K (.ref C) "__getattr__" =some none
 f3:W.findIn K (.ref C) "__class__" =some (some (.builtin "object.__class__"))
end L2
namespace L2
open PySem PySem.Spec PySem.Calls PyProof.Rows
end L2
namespace L2
open PySem PySem.Spec PySem.SeqAt PySem.Calls PyProof.Rows
end L2
namespace L2
open PySem PySem.Spec PySem.Calls PyProof.Rows
structure zdI(k:Nat)(A:Around):Prop where
 dp:A.depth+3*k+5<recursionLimit
 un:A.units+16*k+200<cLine
 gd:A.guards=some []
structure FnOkH(P:Program)(w:World)(K:W.Frag)(mg:Str->Option Value)(base:Heap)(CX:CXT)(k:Nat)(f:Addr)(fd:FuncData)(ps:List Str)(sp:Sp):Prop where
 len: ∀vs H Q E,sp vs H Q E->vs.length=ps.length
 run: ∀(A:Around) (outer:List Env) (s:Shared) (H:Hp) (args:Args) (us:List Value) (vs:List V) (Q:VK) (E:XK),zdI k A->Env0 P w K mg base A outer s H->BindsTo s fd args (ps.zip us)->Vals vs us->sp vs H Q E->
  codeAny (model P w) A (.call (.ref f) args) (CR CX outer P w H s Q E) s
end L2
namespace L2
open PySem PySem.Spec PyProof.Rows
end L2
namespace Mi
open PySem L2 PySem.Spec
open PyProof.Rows (envOfC)
structure XP(X:Cx)(G:Gx)(F:Fy)(E:L2.St->XK):Prop where
 ps:zdH X E
 xw: ∀c s',F.xw (.exc c) s'->∀ρ σv tv H C,F.tv0<:+tv->MR G F.toFx ρ H σv tv s'->G.cl c=some C->E σv (.ref C) none H
 no: ∀d s',F.xw d s'->∃c,d= .exc c
open Classical in
noncomputable def zey(r:RF)(ts:List D):M D:=fun s=>match r with
 | .ok t ts' n'=>if ts'=ts then .ok t {s with n:=n'} else
  if ∀l∈z0p s,l∈labsL ts->(findL l ts').isSome=true then .ok t {σ:=rpO (fun l=>findL l ts') s.σ,tm:=rpO (fun l=>findL l ts') s.tm,n:=n'} else .no
 | .ex d ts' n'=>if ts'=ts then .ex d {s with n:=n'} else
  if ∀l∈z0p s,l∈labsL ts->(findL l ts').isSome=true then .ex d {σ:=rpO (fun l=>findL l ts') s.σ,tm:=rpO (fun l=>findL l ts') s.tm,n:=n'} else .no
 | .no=> .no
noncomputable def spX(G:Gx)(np:Nat)(f:FM):Sp:=fun vs H Q E=>vs.length=np/\∃ρ n ts,RDs G ρ H ts vs/\(∀i j,i<n->j<n->ρ i=ρ j->i=j)/\(∀l,l<n->∃o,H (ρ l)=some o)/\(∀l∈labsL ts,l<n)/\KD G.K H/\match f ts n with
 | .ok t ts' n'=> ∀ρ' v H',z4f G ρ n ts vs H ρ' n' ts' H'->RD G ρ' H' t v->(∀l∈labs t,l<n'/\(l<n->l∈labsL ts))->Q v H'
 | .ex d ts' n'=> ∃c,d= .exc c/\∀ρ' H' C,z4f G ρ n ts vs H ρ' n' ts' H'->G.cl c=some C->E (.ref C) none H'
 | .no=>False
noncomputable def zdJ(k:Nat)(tm:List (Option D)):List (Option D):=tm.drop (tm.length -k)
end Mi
namespace Mi
open PySem L2 PySem.Spec
inductive Al(Φ:Addr->Prop):List (Str×Addr)->Prop
 |nil:Al Φ []
 |cons {c:Str} {a:Addr} {l:List (Str×Addr)}:Φ a->Al Φ l->Al Φ ((c,a)::l)
inductive Al2{β:Type}(Φ:Addr->β->Prop):List (Str×Addr)->List (Str×β)->Prop
 |nil:Al2 Φ [] []
 |cons {c:Str} {a:Addr} {b:β} {l:List (Str×Addr)} {r:List (Str×β)}:Φ a b->Al2 Φ l r->Al2 Φ ((c,a)::l) ((c,b)::r)
 |skip {c:Str} {a:Addr} {l:List (Str×Addr)} {r:List (Str×β)}:r.lookup c=none->Al2 Φ l r->Al2 Φ ((c,a)::l) r
section
variable{X:Cx}{G:Gx}{F:Fy}{E:L2.St->XK}
structure FnV(X:Cx)(G:Gx)(np:Nat)(a:Addr)(f:FM):Prop where
 ex: ∃k fd ps,ps.length=np/\FnOk X.prog X.w X.K X.mg X.base (CX1 X.prog X.w) k a fd ps (spX G np f)/\Room k X.A/\W.keepIn X.K (.ref a)=true/\z38 X.K fd ps []
end
end Mi
namespace Mi
open PySem L2 PySem.Spec
open PyProof.Rows (envOfC)
end Mi
namespace Mi
open PySem L2 PySem.Spec
noncomputable def z4h:D->Option Key
 | .int i=>some (.inl i)
 | .str x=>some (.inr x)
 |_=>none
noncomputable def z1Z:List D->Option (List Key)
 |[]=>some []
 |d::ds=>match z4h d with
  |some k=>match z1Z ds with
   |some ks=>some (k::ks)
   |none=>none
  |none=>none
noncomputable def nkOf:D->Option (Key⊕List Key)
 | .tup ds=>match z1Z ds with|some ks=>some (.inr ks)|none=>none
 |d=>match z4h d with|some k=>some (.inl k)|none=>none
noncomputable def z4i:List D->Option NK
 |[]=>some []
 |d::ds=>match nkOf d with
  |some k=>match z4i ds with
   |some ks=>some (k::ks)
   |none=>none
  |none=>none
noncomputable def tkey:D->Option NK
 | .tup ds=>z4i ds
 |_=>none
section
variable{G:Gx}{ρ:Nat->Addr}{H:Hp}
theorem z5v{d:D}{v:V}{k:Key}(h:RD G ρ H d v)(e:z4h d=some k):v=kV k/\d=keyD k:=by
 cases d<;>simp only[z4h] at e<;>cases e<;>(simp only[RD] at h;exact⟨h,rfl⟩)
theorem z4j: ∀{ds:List D} {xs:List V} {ks:List Key},RDs G ρ H ds xs->z1Z ds=some ks->xs=ks.map kV/\ds=ks.map keyD
 |[],xs,ks,h,e=>by simp only[RDs] at h;simp only[z1Z] at e;cases e;exact⟨h,rfl⟩
 |d::ds,xs,ks,h,e=>by
  simp only[RDs] at h
  obtain⟨x,r,rfl,h1,h2⟩:=h
  simp only[z1Z] at e
  cases e1:z4h d with
  |none=>rw[e1] at e;cases e
  |some k=>
   rw[e1] at e
   cases e2:z1Z ds with
   |none=>simp only[e2] at e;cases e
   |some ks'=>
    simp only[e2] at e
    cases e
    obtain⟨a1,a2⟩:=z5v h1 e1
    obtain⟨b1,b2⟩:=z4j h2 e2
    rw[a1,b1,a2,b2]
    exact⟨rfl,rfl⟩
theorem zan{d:D}{v:V}{k:Key⊕List Key}(h:RD G ρ H d v)(e:nkOf d=some k):TKi H k v/\d=nkD k:=by
 have flat: ∀{d:D} {v:V},RD G ρ H d v->(match z4h d with|some k=>some (Sum.inl k:Key⊕List Key)|none=>none)=some k->TKi H k v/\d=nkD k:=by
  intro d v h e
  cases e1:z4h d with
  |none=>rw[e1] at e;cases e
  |some k'=>
   rw[e1] at e
   cases e
   obtain⟨a1,a2⟩:=z5v h e1
   exact⟨a1,a2⟩
 cases d with
 |tup ds=>
  simp only[nkOf] at e
  cases e1:z1Z ds with
  |none=>rw[e1] at e;cases e
  |some ks=>
   rw[e1] at e
   cases e
   simp only[RD] at h
   obtain⟨a,xs,e2,s,r⟩:=h
   obtain⟨b1,b2⟩:=z4j r e1
   exact⟨⟨a,e2,b1▸s⟩,by rw[b2];rfl⟩
 |_=>exact flat h e
theorem z5w: ∀{ds:List D} {xs:List V} {ks:NK},RDs G ρ H ds xs->z4i ds=some ks->Paired (TKi H) ks xs/\ds=ks.map nkD
 |[],xs,ks,h,e=>by simp only[RDs] at h;simp only[z4i] at e;cases e;subst h;exact⟨.nil,rfl⟩
 |d::ds,xs,ks,h,e=>by
  simp only[RDs] at h
  obtain⟨x,r,rfl,h1,h2⟩:=h
  simp only[z4i] at e
  cases e1:nkOf d with
  |none=>rw[e1] at e;cases e
  |some k=>
   rw[e1] at e
   cases e2:z4i ds with
   |none=>simp only[e2] at e;cases e
   |some ks'=>
    simp only[e2] at e
    cases e
    obtain⟨a1,a2⟩:=zan h1 e1
    obtain⟨b1,b2⟩:=z5w h2 e2
    rw[a2,b2]
    exact⟨.cons a1 b1,rfl⟩
theorem z74{t:D}{v:V}{k:NK}(h:RD G ρ H t v)(e:tkey t=some k): ∃b,v= .ref b/\TK H k b/\t=dkD k:=by
 cases t<;>simp only[tkey] at e<;>try cases e
 simp only[RD] at h
 obtain⟨a,xs,e1,s,r⟩:=h
 obtain⟨b1,b2⟩:=z5w r e
 exact⟨a,e1,⟨xs,s,b1⟩,by rw[b2];rfl⟩
theorem z3o: ∀k:List Key,z1Z (k.map keyD)=some k
 |[]=>rfl
 |k::ks=>by
  simp only[List.map_cons,z1Z]
  have:z4h (keyD k)=some k:=by cases k<;>rfl
  rw[this,z3o ks]
theorem zao(z:Key⊕List Key):nkOf (nkD z)=some z:=by
 cases z with
 |inl k=>cases k<;>rfl
 |inr ks=>simp only[nkD,nkOf,z3o]
theorem z4k: ∀k:NK,z4i (k.map nkD)=some k
 |[]=>rfl
 |k::ks=>by simp only[List.map_cons,z4i,zao,z4k ks]
theorem zap(k:NK):tkey (dkD k)=some k:=z4k k
end
end Mi
namespace Mi
open PySem L2
end Mi
namespace PySem
end PySem
namespace L2
open PySem PySem.Spec PyProof.Rows
end L2
namespace Mi
open PySem L2 PySem.Spec
structure Dm(K:W.Frag)(C:Addr)(x qual:Str)(st:Stmt)(ps:List Str) where
 f:Addr
 d:FuncData
 F:Fun K x qual st f d
 b:z38 K d ps []
 h:Meth K C x f
end Mi
namespace Mi
open PySem L2 PySem.Spec PyProof.Rows
end Mi
namespace Mi
open PySem L2 PySem.Spec PySem.SeqAt PySem.Calls PyProof.Rows
end Mi
namespace Mi
open PySem L2 PySem.Spec PyProof.Rows
section
variable{X:Cx}{G:Gx}{F:Fy}
theorem RDs.at'{ρ:Nat->Addr}{H:Hp}: ∀{ds:List D} {xs:List V} {i:Nat} {d:D},RDs G ρ H ds xs->ds[i]? =some d->∃x,xs[i]? =some x/\RD G ρ H d x
 |[],xs,i,d,h,e=>by simp at e
 |d::ds,xs,0,d',h,e=>by simp only[RDs] at h;obtain⟨x,q,rfl,h1,_⟩:=h;simp at e;subst e;exact⟨x,rfl,h1⟩
 |d::ds,xs,i+1,d',h,e=>by
  simp only[RDs] at h
  obtain⟨x,q,rfl,h1,h2⟩:=h
  simp only[List.getElem?_cons_succ] at e⊢
  exact RDs.at' h2 e
end
end Mi
namespace L2
open PySem PySem.Spec PyProof.Rows
end L2
namespace Mi
open PySem L2
end Mi
namespace Mi
open PySem L2 PySem.Spec PyProof.Rows PySem F P
end Mi
namespace L2
open PySem PySem.Spec PyProof.Rows
section
variable{X:Cx}
noncomputable def cmpD(ds:List PyData)(i j:Nat):Bool:=(So.ltD (ds.getD i .none) (ds.getD j .none)).getD false
theorem z0C{h:Heap}: ∀{its:List Value} {ds:List PyData} {as:List Addr},ReadsAll h its ds as->∀i (hi:i<its.length),∃bs,Reads h its[i] (ds.getD i .none) bs/\ds.getD i .none∈ds
 |v::its,d::ds,_, .cons r rs,0,_=>⟨_,r,by simp⟩
 |v::its,d::ds,_, .cons r rs,i+1,hi=>by
  obtain⟨bs,h1,h2⟩:=z0C rs i (by simpa using hi)
  exact⟨bs,by simpa using h1,by simpa using Or.inr h2⟩
theorem z2L{ys:List V}{its:List Value}(h:Vals ys its): ∀(q:List Nat),(∀i∈q,i<its.length)->Vals (q.map fun i=>ys.getD i .non) (q.map fun i=>its.getD i Value.none)
 |[],_=> .nil
 |i::q,hq=>by
  refine .cons ?_ (z2L h q fun j hj=>hq j (List.mem_cons_of_mem _ hj))
  have hi:=hq i List.mem_cons_self
  clear hq
  induction h generalizing i with
  |nil=>simp at hi
  |cons r t ih=>
   cases i with
   |zero=>simpa using r
   |succ i=>simpa using ih i (by simpa using hi)
end
end L2
namespace Mi
open PySem L2 PySem.Spec PyProof.Rows
section
variable{X:Cx}{G:Gx}{F:Fy}
theorem RDs.len2{ρ:Nat->Addr}{H:Hp}: ∀{ds:List D} {xs:List V},RDs G ρ H ds xs->ds.length=xs.length
 |[],xs,h=>by simp only[RDs] at h;subst h;rfl
 |d::ds,xs,h=>by simp only[RDs] at h;obtain⟨x,q,rfl,_,h2⟩:=h;rw[List.length_cons,List.length_cons,RDs.len2 h2]
theorem RDs.perm{ρ:Nat->Addr}{H:Hp}{ds:List D}{xs:List V}(h:RDs G ρ H ds xs): ∀q:List Nat,(∀i∈q,i<ds.length)->RDs G ρ H (q.map fun i=>ds.getD i .non) (q.map fun i=>xs.getD i .non)
 |[],_=>by simp only[List.map_nil,RDs]
 |i::q,hq=>by
  simp only[List.map_cons,RDs]
  refine⟨_,_,rfl, ?_,RDs.perm h q fun j hj=>hq j (List.mem_cons_of_mem _ hj)⟩
  have hi:=hq i List.mem_cons_self
  obtain⟨x,ex,rx⟩:=RDs.at' (i:=i) (d:=ds.getD i .non) h (by simp[hi])
  rw[show xs.getD i .non=x by rw[List.getD_eq_getElem?_getD,ex];rfl]
  exact rx
theorem z2M{ds:List D}(h:labsL ds=[]): ∀q:List Nat,labsL (q.map fun i=>ds.getD i .non)=[]
 |[]=>by simp only[List.map_nil,labsL]
 |i::q=>by
  simp only[List.map_cons,labsL]
  rw[z2M h q,List.append_nil]
  have gen: ∀(ds:List D) (i:Nat),labsL ds=[]->labs (ds.getD i .non)=[]:=by
   intro ds
   induction ds with
   |nil=>intro i _;simp[labs]
   |cons d ds ih=>
    intro i h
    simp only[labsL,List.append_eq_nil_iff] at h
    cases i with
    |zero=>simpa using h.1
    |succ i=>simpa using ih i h.2
  exact gen ds i h
end
end Mi
namespace L2
open PySem PySem.Spec PyProof.Rows
end L2
namespace Mi
open PySem L2 PySem.Spec PyProof.Rows
section
variable{X:Cx}{G:Gx}{F:Fy}{e:Expr}{pos pos':Pos}
noncomputable def z1s:List D->Option (List Int)
 |[]=>some []
 | .int i::ds=>match z1s ds with|some ns=>some (i::ns)|none=>none
 |_=>none
theorem z2N{ρ:Nat->Addr}{H:Hp}: ∀{ds:List D} {xs:List V} {ns:List Int},RDs G ρ H ds xs->z1s ds=some ns->xs=ns.map V.int
 |[],xs,ns,h,e=>by simp only[RDs] at h;simp only[z1s] at e;cases e;exact h
 |d::ds,xs,ns,h,e=>by
  simp only[RDs] at h
  obtain⟨x,r,rfl,h1,h2⟩:=h
  cases d with
  |int i=>
   simp only[z1s] at e
   cases e2:z1s ds with
   |none=>rw[e2] at e;cases e
   |some ms=>
    rw[e2] at e
    cases e
    simp only[RD] at h1
    rw[h1,z2N h2 e2];rfl
  |_=>simp[z1s] at e
end
end Mi
namespace L2
open PySem PySem.Spec PyProof.Rows
end L2
namespace Mi
open PySem L2
end Mi
namespace So
open PySem PySem.W PyProof.Rows PySem.SeqAt
end So
namespace L2
open PySem PySem.Spec PyProof.Rows
end L2
namespace Mi
open PySem L2 PySem.Spec PyProof.Rows
end Mi
namespace PySem
end PySem
namespace L2
open PySem PySem.Spec PyProof.Rows
end L2
namespace Mi
open PySem L2
end Mi
namespace So
open PySem PySem.W PyProof.Rows PySem.SeqAt
noncomputable def hdT:PyData->Bool
 | .tuple (.tuple _::_)=>true
 |_=>false
theorem hd_tup{d:PyData}(h:hdT d=true): ∃zs xs,d= .tuple (.tuple zs::xs):=by
 cases d with
 |tuple xs=>
  cases xs with
  |nil=>simp[hdT] at h
  |cons x xs=>cases x<;>first|exact⟨_,_,rfl⟩|simp[hdT] at h
 |_=>simp[hdT] at h
theorem z75{prog:Program}{w:World}{A:Around}{fin:Bool}{Q:Bool->Shared->Prop}{s:Shared}: ∀(vs us:List Value) (i:Nat) (r:Bool),z4M A s vs us r->fin=decide (vs.length<us.length)->Q r s->KatLex prog w A false fin Q (vs.zip us) i s
 |[],us,i,r,h,hf,q=>by
  have:r=decide (0<us.length):=h
  subst hf
  rw[List.zip_nil_left]
  exact kat_nil (by rw[this] at q;exact q)
 |_::_,[],i,r,h,hf,q=>by
  have:r=false:=h
  subst hf
  rw[List.zip_nil_right]
  exact kat_nil (by rw[this] at q;simpa using q)
 |v::vs,u::us,i,r,h,hf,q=>by
  rw[List.zip_cons_cons]
  obtain⟨e,h1,h2⟩:=h
  refine kat_cons (h1 prog w _ _ ?_)
  cases e with
  |true=>exact kat_yes (z75 vs us (i+1) r h2 (by simpa using hf) q)
  |false=>exact kat_no (by rw[Bool.false_and];exact kat_one v u (h2 prog w _ _ q))
theorem key_ltF{prog:Program}{w:World}{A:Around}{E:Value->Shared->Prop}{Q:Bool->Shared->Prop}{s:Shared}{x y:Value}{dx dy:PyData}{as bs:List Addr}{r:Bool}(rx:Reads s.heap x dx as)(ry:Reads s.heap y dy bs)(hx:dx.canLay0=true)(hy:dy.canLay0=true)(ix:hdT dx=true)(iy:hdT dy=true)(hu:A.units+min dx.depth dy.depth<cLine)(hr:ltD dx dy=some r)(q:Q r s):
 wpAny (model prog w) A (keyLt' (tuples' false) x y) Q E s:=by
 obtain⟨i,xs,rfl⟩:=hd_tup ix
 obtain⟨j,ys,rfl⟩:=hd_tup iy
 cases rx with
 | @tuple l o vs n _ as₁ h1 h2 h3 h4=>
  cases ry with
  | @tuple l' o' vs' n' _ as' k1 k2 k3 k4=>
   refine kat_lt h1 h3 k1 k3 ?_
   have sz:decide (vs.size<vs'.size)=decide (vs.toList.length<vs'.toList.length):=by simp
   rw[sz]
   simp only[ltD] at hr
   exact z75 _ _ 0 r (lex_reads (.tuple i::xs) (.tuple j::ys) A s _ _ _ _ r h4 k4 (by simpa[PyData.canLay0] using hx) (by simpa[PyData.canLay0] using hy) (by simp only[PyData.depth] at hu;lia) hr) rfl q
end So
namespace L2
open PySem PySem.Spec PyProof.Rows
section
variable{X:Cx}
noncomputable def z1w(ds:List PyData):Bool:=ds.all (fun d=>So.hdT d&&d.canLay0&&decide (d.depth<=60))&&ds.all fun d=>ds.all fun e=>(So.ltD d e).isSome
theorem z3z{h:Heap}{M:Model}: ∀{its:List Value} {ds:List PyData} {as:List Addr},ReadsAll h its ds as->(∀d∈ds,So.hdT d=true)->∃fs:List Value,W.KatTups h its fs/\fs.length=ds.length/\∀f∈fs,W.Looks M h (typeOf f) (.type "tuple")
 |[],_,_, .nil,_=>⟨[], .nil,rfl,by simp⟩
 |v::its,d::ds,_, .cons r rs,hd=>by
  obtain⟨fs,t,hl,hf⟩:=z3z (M:=M) rs fun d hd'=>hd d (List.mem_cons_of_mem _ hd')
  obtain⟨i,xs,rfl⟩:=So.hd_tup (hd _ List.mem_cons_self)
  cases r with
  | @tuple l o vs n _ as₁ h1 h2 h3 h4=>
   generalize hv:vs.toList=us at h4
   cases h4 with
   |cons r1 r2=>
    cases r1 with
    | @tuple l2 o2 vs2 n2 _ as2 k1 k2 k3 k4=>
     refine⟨.ref l2::fs, .cons h1 h2 h3 ?_ t,by simp[hl],fun f hf'=> ?_⟩
     ·rw[<-Array.getElem?_toList,hv];rfl
     ·rcases List.mem_cons.mp hf' with rfl|hf'
      ·show W.Looks M h (loadPart l2 (some headPart)>>=fun o=>pure o.cls) (.type "tuple")
       rw[<-k2]
       exact W.Looks.andThen (W.Looks.ld k1) W.Looks.now
      ·exact hf f hf'
noncomputable def z9l(K:W.Frag):List V->Hp->VK->Prop:=fun xs H Q=> ∃p ys ds,xs=[.ref p]/\SqL K H p ys/\DpAll K H ds ys/\z1w ds=true/\ys.length<64/\∀l,H l=none->Q (.ref l) (upd H l (.lst ((So.permS ys.length (cmpD ds)).map fun i=>ys.getD i .non)))
theorem z76(hu:X.A.units+64<cLine):CallR X (.builtin "sorted") (z9l X.K):=by
 intro pins s σ H xs us Q I r h
 obtain⟨p,ys,ds,rfl,hs,hd,ok,h64,q⟩:=h
 obtain⟨u,rfl,ru⟩:=z41 r
 cases ru
 obtain⟨its,rv,pl,hz⟩:=I.list hs
 have hl:its.length=ys.length:=(Paired.length rv).symm
 unfold z1w at ok
 simp only[Bool.and_eq_true,List.all_eq_true,decide_eq_true_eq] at ok
 obtain⟨ok1,ok2⟩:=ok
 refine So.call_sortedS (cmp:=cmpD ds) pl.isList (by lia) (fun h' kp h2=> ?_) fun h' D e1 kp hD hget=> ?_
 ·have I':Inv X pins σ H {s with heap:=h'}:=I.kept (t':=s.toks) kp
  obtain⟨as,ra⟩:=DpAll.reads I' ds ys its hd rv
  refine⟨tuples' false,fun Q E hq=> ?_,fun i j hi hj C hC=> ?_⟩
  ·obtain⟨fs,t,hfl,hf⟩:=z3z ra fun d hd'=>(ok1 d hd').1.1
   have hdl:=SeqAt.ReadsAll.length _ _ _ ra
   exact W.kat_kind (T:= .type "tuple") t (by lia) hf rfl hq
  ·obtain⟨bs,r1,m1⟩:=z0C ra i hi
   obtain⟨cs,r2,m2⟩:=z0C ra j hj
   obtain⟨b,hb⟩:=Option.isSome_iff_exists.mp (ok2 _ m1 _ m2)
   have o1:=ok1 _ m1
   have o2:=ok1 _ m2
   refine So.key_ltF r1 r2 o1.1.2 o2.1.2 o1.1.1 o2.1.1 ?_ hb ?_
   ·show X.A.units+1+1+_<_
    have:=Nat.min_le_left (ds.getD i .none).depth (ds.getD j .none).depth
    lia
   ·have:cmpD ds i j=b:=by unfold cmpD;rw[hb];rfl
    rw[<-this];exact hC
 ·refine⟨.ref D,_,I.laid (t':=s.toks) (o:= .lst ((So.permS ys.length (cmpD ds)).map fun i=>ys.getD i .non)) kp hD ⟨by rw[List.length_map,So.permS_len];exact hz,_,e1,z2L rv _ fun i hi=> ?_, ?_⟩,rfl,q _ (I.hok.fresh hD)⟩
  ·rw[hl];exact So.permS_lt i hi
  ·rw[hl] at hget;exact hget
end
end L2
namespace L2
open PySem PySem.Spec PyProof.Rows
open Sem (wp)
open AutoSeq1 (wpAny_loadPart')
end L2
namespace L2
open PySem PySem.Spec PyProof.Rows
open Sem (wp)
end L2
namespace Mi
open PySem L2 PySem.Spec PyProof.Rows
section
variable{X:Cx}{G:Gx}{F:Fy}
noncomputable def z0J(ds:List D):List D:=(So.permS ds.length (cmpD (erL ds))).map fun i=>ds.getD i .non
noncomputable def srtS:List D->M D
 |[.lst l ds]=>fun s=>if(plainL ds&&z1w (erL ds)&&(labsL ds).isEmpty&&decide (ds.length<64))=true then .ok (.lst s.n (z0J ds)) s.nxt else .no
 |_=>fl
theorem zaq:z0K G F (z9l G.K) srtS:=by
 intro ρ s ts vs H σv tv Q M W
 unfold srtS at W
 split at W
 ·rename_i l ds
  split at W
  ·rename_i hc
   simp only[Bool.and_eq_true,List.isEmpty_iff,decide_eq_true_eq] at hc
   obtain⟨⟨⟨c1,c2⟩,c3⟩,c4⟩:=hc
   obtain⟨v,rfl,h,_⟩:=M.one
   obtain⟨p,xs,rfl,s1,r1,_⟩:=id (h.lstq (ds:=ds) rfl)
   have e:=RDs.len2 r1
   refine⟨p,xs,erL ds,rfl,s1,RDs.dp _ _ r1 c1,c2,by lia,fun l hl k=> ?_⟩
   rw[<-e] at k⊢
   exact z0S W M.m (RDs.perm r1 _ So.permS_lt) (fun j hj=>by unfold z0J at hj;rw[z2M c3] at hj;cases hj) hl k
  ·exact False.elim W
 ·exact wfl W
theorem zar(hk:X.K=G.K)(hu:X.A.units+64<cLine):Cb X G F (.builtin "sorted") srtS:=⟨_,hk▸z76 hu,zaq⟩
end
theorem z5x(ds:List D):erL ds=ds.map er:=by
 induction ds with
 |nil=>rfl
 |cons d ds ih=>simp only[erL,List.map_cons,ih]
end Mi
namespace L2
open PySem PySem.Spec PyProof.Rows
end L2
namespace Mi
open PySem L2 PySem.Spec PyProof.Rows
end Mi
namespace L2
open PySem PySem.Spec PyProof.Rows
end L2
namespace Mi
open PySem L2 PySem.Spec PyProof.Rows
end Mi
namespace L2
open PySem PySem.Spec PyProof.Rows
section
variable{prog:Program}{w:World}{A:Around}{E:Value->Shared->Prop}{s:Shared}{z TI TO p q t u:Addr}{i j:Nat}{xs ys:Array Value}{a b:Value}
structure ZT(h:Heap)(z TI TO p q t u:Addr)(i j:Nat)(xs ys:Array Value)(a b:Value):Prop where
 z:IsZip h z TI TO .none
 ti:IsPair h TI (.ref p) (.ref q)
 to:IsPair h TO a b
 p:h.IsTupleIter p t i
 q:h.IsTupleIter q u j
 t:h.IsTuple t xs
 u:h.IsTuple u ys
end
end L2
namespace Mi
open PySem L2
end Mi
namespace L2
open PySem PySem.Spec PyProof.Rows
section
variable{X:Cx}{tg:Expr}
inductive PF(X:Cx):List Expr->List (Str⊕TE)->Prop where
 |nil:PF X [] []
 |lit {es:List Expr} {ts:List (Str⊕TE)} {x:Str} {j:Nat} {pos:Pos} (r:PF X es ts):PF X (.Constant (.str x) j pos::es) (.inl x::ts)
 |fld {e:Expr} {es:List Expr} {t:TE} {ts:List (Str⊕TE)} {pos:Pos} (h:PE X e t) (r:PF X es ts):PF X (.FormattedValue e (-1) none pos::es) (.inr t::ts)
end
end L2
namespace Mi
open PySem L2 PySem.Spec PyProof.Rows
inductive SF(P:Expr->M D->Prop):List Expr->List (Str⊕M D)->Prop where
 |nil:SF P [] []
 |lit {es:List Expr} {ms:List (Str⊕M D)} {x:Str} {j:Nat} {pos:Pos} (r:SF P es ms):SF P (.Constant (.str x) j pos::es) (.inl x::ms)
 |fld {e:Expr} {es:List Expr} {m:M D} {ms:List (Str⊕M D)} {pos:Pos} (h:P e m) (r:SF P es ms):SF P (.FormattedValue e (-1) none pos::es) (.inr m::ms)
section
variable{X:Cx}{G:Gx}{F:Fy}{e a b c o tg iter:Expr}{es:List Expr}{pos apos cpos:Pos}
noncomputable def StOK(G:Gx)(F:Fy)(r:V->List V->Hp->VK->Prop)(g:Str->List D->M D):Prop:= ∀ρ s z ts vs H σv tv Q,MRL G F.toFx ρ H σv tv s ts vs->wM G F σv tv (g z ts s) Q->r (.str z) vs H (fun w H'=>KD G.K H'->Q w H')
structure Ct(X:Cx)(G:Gx)(F:Fy)(id:String)(g:Str->List D->M D):Prop where
 h: ∃r,MtR X id r/\StOK G F r g
end
end Mi
namespace L2
open PySem PySem.Spec PyProof.Rows
end L2
namespace Mi
open PySem L2 PySem.Spec PyProof.Rows
end Mi
namespace L2
open PySem PySem.Spec PyProof.Rows
end L2
namespace Mi
open PySem L2 PySem.Spec PyProof.Rows
end Mi
namespace Mi
open PySem L2 PySem.Spec
end Mi
namespace L2
open PySem PySem.Spec PyProof.Rows
end L2
namespace Mi
open PySem L2 PySem.Spec
end Mi
namespace Se
open PySem PySem.SetTable
noncomputable def adv(m:Nat)(p:Probe):Probe:=
 if p.more>0 then{p with j:=p.j+1,more:=p.more - 1} else
 {p with j:=(leap m p.i p.perturb).1,more:=runEnd m (leap m p.i p.perturb).1 -(leap m p.i p.perturb).1,i:=(leap m p.i p.perturb).1,perturb:=(leap m p.i p.perturb).2}
noncomputable def start(m:Nat)(h:Int):Probe:={j:=bits h %(m+1),more:=runEnd m (bits h %(m+1)) -bits h %(m+1),i:=bits h %(m+1),perturb:=bits h,dummy:=none}
noncomputable def pos(m:Nat)(h:Int):Nat->Probe
 |0=>start m h
 |k+1=>adv m (pos m h k)
theorem z77(m:Nat)(p:Probe):(adv m p).dummy=p.dummy:=by
 unfold adv
 split<;>rfl
theorem z4l(m:Nat)(h:Int): ∀k,(pos m h k).dummy=none
 |0=>rfl
 |k+1=>by rw[pos,z77,z4l m h k]
noncomputable def runI(m:Nat)(h:Int):Nat->Nat×Nat
 |0=>(bits h %(m+1),bits h)
 |r+1=>leap m (runI m h r).1 (runI m h r).2
noncomputable def runSt(m:Nat)(h:Int):Nat->Nat
 |0=>0
 |r+1=>runSt m h r+(runEnd m (runI m h r).1 -(runI m h r).1)+1
theorem zas(m i:Nat):runEnd m i -i<=9:=by
 unfold runEnd
 split<;>lia
theorem z5y(m:Nat)(h:Int): ∀r,runSt m h r<=10*r
 |0=>Nat.le_refl _
 |r+1=>by
  have h1:=z5y m h r
  have h2:=zas m (runI m h r).1
  simp only[runSt]
  lia
noncomputable def z60(m:Nat)(h:Int)(r d:Nat):Probe:={j:=(runI m h r).1+d,more:=runEnd m (runI m h r).1 -(runI m h r).1 -d,i:=(runI m h r).1,perturb:=(runI m h r).2,dummy:=none}
theorem z78(m:Nat)(h:Int)(r:Nat)(h0:pos m h (runSt m h r)=z60 m h r 0): ∀d,d<=runEnd m (runI m h r).1 -(runI m h r).1->pos m h (runSt m h r+d)=z60 m h r d
 |0,_=>h0
 |d+1,hd=>by
  rw[<-Nat.add_assoc,pos,z78 m h r h0 d (by lia)]
  unfold adv
  rw[if_pos (show(z60 m h r d).more>0 by show runEnd m (runI m h r).1 -(runI m h r).1 -d>0;lia)]
  simp only[z60,Nat.add_assoc,Probe.mk.injEq,true_and,and_true]
  lia
theorem z79(m:Nat)(h:Int): ∀r,pos m h (runSt m h r)=z60 m h r 0
 |0=>rfl
 |r+1=>by
  have h1:=z78 m h r (z79 m h r) (runEnd m (runI m h r).1 -(runI m h r).1) (Nat.le_refl _)
  simp only[runSt]
  rw[pos,h1]
  unfold adv
  rw[if_neg (show ¬(z60 m h r (runEnd m (runI m h r).1 -(runI m h r).1)).more>0 by show ¬(runEnd m (runI m h r).1 -(runI m h r).1 -(runEnd m (runI m h r).1 -(runI m h r).1))>0;lia)]
  rfl
theorem z5z(m:Nat)(h:Int): ∀r,(runI m h r).2=bits h/32^r
 |0=>by simp[runI]
 |r+1=>by
  show(runI m h r).2/32=_
  rw[z5z m h r,Nat.div_div_eq_div_mul,Nat.pow_succ]
theorem zat(h:Int):bits h<2^64:=by
 unfold bits
 have h1:=Int.emod_lt_of_pos h (show(0:Int)<2^64 by decide)
 have h2:=Int.emod_nonneg h (show(2:Int)^64≠0 by decide)
 lia
theorem zdK(m:Nat)(h:Int){r:Nat}(hr:13<=r):(runI m h r).2=0:=by
 rw[z5z]
 refine Nat.div_eq_of_lt (Nat.lt_of_lt_of_le (zat h) ?_)
 exact Nat.le_trans (show 2^64<=32^13 by decide) (Nat.pow_le_pow_right (by decide) hr)
noncomputable def stp(m i:Nat):Nat:=(i*5+1) %(m+1)
noncomputable def itr(m:Nat):Nat->Nat->Nat
 |0,i=>i
 |k+1,i=>stp m (itr m k i)
theorem z4S(m:Nat)(h:Int): ∀k,(runI m h (13+k)).1=itr m k (runI m h 13).1
 |0=>rfl
 |k+1=>by
  show(leap m (runI m h (13+k)).1 (runI m h (13+k)).2).1=_
  rw[zdK m h (by lia),z4S m h k]
  rfl
theorem z4T(m:Nat)(h:Int): ∀r,(runI m h r).1<m+1
 |0=>Nat.mod_lt _ (Nat.succ_pos _)
 |r+1=>Nat.mod_lt _ (Nat.succ_pos _)
noncomputable def Msk(m:Nat):Prop:=m=7\/m=31\/m=127
noncomputable def orb(m:Nat):Nat->Nat->List Nat
 |0,_=>[]
 |k+1,i=>i::orb m k (stp m i)
noncomputable def full(m:Nat):Bool:=(List.range (m+1)).all (fun e=>(orb m (m+1) 0).contains e)&&itr m (m+1) 0==0
theorem zdL:full 7=true:=by decide+kernel
theorem zch:full 31=true:=by decide+kernel
theorem zau:full 127=true:=by decide+kernel
theorem z5A(m:Nat): ∀k i,itr m k (stp m i)=stp m (itr m k i)
 |0,_=>rfl
 |k+1,i=>by simp only[itr,z5A m k i]
theorem z7a(m:Nat): ∀(n i e:Nat),e∈orb m n i->∃k,k<n/\itr m k i=e
 |0,_,_,h=>by simp[orb] at h
 |n+1,i,e,h=>by
  rcases List.mem_cons.mp h with rfl|h
  ·exact⟨0,by lia,rfl⟩
  ·obtain⟨k,hk,q⟩:=z7a m n _ e h
   exact⟨k+1,by lia,by rw[<-q,itr,z5A]⟩
theorem z3A(m:Nat): ∀k s i,itr m (k+s) i=itr m k (itr m s i)
 |0,s,i=>by rw[Nat.zero_add];rfl
 |k+1,s,i=>by rw[Nat.succ_add,itr,z3A m k s i];rfl
theorem cyc{m:Nat}(hm:Msk m){a e:Nat}(ha:a<m+1)(he:e<m+1): ∃k,k<m+1/\itr m k a=e:=by
 have hf:full m=true:=by
  rcases hm with rfl|rfl|rfl
  ·exact zdL
  ·exact zch
  ·exact zau
 unfold full at hf
 rw[Bool.and_eq_true,List.all_eq_true,beq_iff_eq] at hf
 have at0: ∀e,e<m+1->∃k,k<m+1/\itr m k 0=e:=fun e he=>z7a m _ _ _ (List.contains_iff_mem.mp (hf.1 e (List.mem_range.mpr he)))
 obtain⟨s,hs,rfl⟩:=at0 a ha
 obtain⟨r,hr,rfl⟩:=at0 e he
 by_cases h:s<=r
 ·exact⟨r -s,by lia,by rw[<-z3A,Nat.sub_add_cancel h]⟩
 ·refine⟨r+(m+1) -s,by lia, ?_⟩
  rw[<-z3A,Nat.sub_add_cancel (by lia),z3A,hf.2]
theorem zdM{m:Nat}(hm:Msk m)(h:Int){e:Nat}(he:e<m+1): ∃k,k<10*turns m/\(pos m h k).j=e:=by
 obtain⟨k,hk,q⟩:=cyc hm (z4T m h 13) he
 refine⟨runSt m h (13+k), ?_, ?_⟩
 ·have:=z5y m h (13+k)
  unfold turns
  lia
 ·rw[z79,<-q,<-z4S]
  rfl
noncomputable def Ris(P:List Nat):Prop:=P.Pairwise (· < ·)
theorem Ris.at{P:List Nat}(h:Ris P){a b:Nat}(hab:a<b)(hb:b<P.length):P[a]<P[b]:=List.pairwise_iff_getElem.mp h a b (by lia) hb hab
structure Cut(P:List Nat)(j r:Nat):Prop where
 le:r<=P.length
 lo: ∀a (h:a<P.length),a<r->P[a]<j
 hi: ∀a (h:a<P.length),r<=a->j<=P[a]
theorem getD_at{xs:Array Nat}{a j:Nat}(h:a<xs.toList.length):xs.getD a j=xs.toList[a]:=by
 rw[Array.getD_eq_getD_getElem?,<-Array.getElem?_toList,List.getElem?_eq_getElem h]
 rfl
theorem z7b{xs:Array Nat}{j:Nat}(hr:Ris xs.toList): ∀(fuel lo hi:Nat),hi<=xs.toList.length->lo<=hi->hi -lo<=fuel->(∀a (h:a<xs.toList.length),a<lo->xs.toList[a]<j)->(∀a (h:a<xs.toList.length),hi<=a->j<=xs.toList[a])->Cut xs.toList j (below.go xs j fuel lo hi)
 |0,lo,hi,h1,h2,h3,h4,h5=>by
  have e:lo=hi:=by lia
  subst e
  exact⟨h1,h4,h5⟩
 |fuel+1,lo,hi,h1,h2,h3,h4,h5=>by
  unfold below.go
  by_cases hl:lo<hi
  ·rw[if_pos hl]
   have hm:(lo+hi)/2<xs.toList.length:=by lia
   simp only[getD_at hm]
   by_cases hj:xs.toList[(lo+hi)/2]<j
   ·rw[if_pos hj]
    refine z7b hr fuel _ _ h1 (by lia) (by lia) (fun a ha hal=> ?_) h5
    rcases Nat.lt_or_eq_of_le (show a<=(lo+hi)/2 by lia) with q|rfl
    ·exact Nat.lt_trans (hr.at q hm) hj
    ·exact hj
   ·rw[if_neg hj]
    refine z7b hr fuel _ _ (by lia) (by lia) (by lia) h4 (fun a ha hal=> ?_)
    rcases Nat.lt_or_eq_of_le hal with q|rfl
    ·have:=hr.at q ha
     lia
    ·lia
  ·rw[if_neg hl]
   have e:lo=hi:=by lia
   subst e
   exact⟨h1,h4,h5⟩
theorem below_cut{xs:Array Nat}{j:Nat}(hr:Ris xs.toList):Cut xs.toList j (below xs j):=by
 unfold below
 exact z7b hr _ _ _ (by simp) (Nat.zero_le _) (by simp) (fun a h q=>absurd q (Nat.not_lt_zero _)) (fun a h q=>by simp at h;lia)
theorem cut_mem{P:List Nat}{j r:Nat}(hr:Ris P)(h:Cut P j r)(hj:j∈P):P[r]? =some j:=by
 obtain⟨a,ha,rfl⟩:=List.getElem_of_mem hj
 have h1:r<=a:=by
  rcases Nat.lt_or_ge a r with q|q
  ·exact absurd (h.lo a ha q) (Nat.lt_irrefl _)
  ·exact q
 rcases Nat.lt_or_eq_of_le h1 with q|q
 ·have h2:=hr.at q ha
  have h3:=h.hi r (by lia) (Nat.le_refl _)
  lia
 ·rw[q,List.getElem?_eq_getElem ha]
theorem zci{P:List Nat}{j r:Nat}(hj:j∉P):P[r]? ≠some j:=fun e=>hj (List.mem_of_getElem? e)
theorem z5B(j:Nat):has #[] j=false:=by
 unfold has
 simp
theorem slot_live{t:SetTable}(hr:Ris t.place.toList){j:Nat}(hj:j∈t.place.toList): ∃i,t.slot j= .live i/\t.place.toList[i]? =some j:=by
 have h:=cut_mem hr (below_cut hr) hj
 refine⟨below t.place j, ?_,h⟩
 unfold slot
 simp only
 rw[if_pos (by rw[<-Array.getElem?_toList,h];simp)]
theorem slot_empty{t:SetTable}(hd:t.dummies= #[]){j:Nat}(hj:j∉t.place.toList):t.slot j= .empty:=by
 unfold slot
 simp only
 rw[if_neg (by rw[<-Array.getElem?_toList];simpa using zci hj),hd,z5B]
 rfl
theorem probe_go{t:SetTable}(hd:t.dummies= #[])(hr:Ris t.place.toList)(hashAt:Nat->Int)(h:Int): ∀(d fuel k:Nat),d<fuel->
 (∀d',d'<d->∃i,t.slot (pos t.mask h (k+d')).j= .live i/\(hashAt i==h)=false)->
 ((pos t.mask h (k+d)).j∉t.place.toList->SetTable.probe.go t hashAt h fuel (pos t.mask h k)=some (.empty (pos t.mask h (k+d)).j none))/\
 (∀i,t.slot (pos t.mask h (k+d)).j= .live i->(hashAt i==h)=true->SetTable.probe.go t hashAt h fuel (pos t.mask h k)=some (.candidate (pos t.mask h (k+d)).j i (pos t.mask h (k+d+1))))
 |0,fuel+1,k,_,_=>by
  refine⟨fun q=> ?_,fun i q1 q2=> ?_⟩
  ·unfold SetTable.probe.go
   rw[Nat.add_zero] at q⊢
   rw[slot_empty hd q]
   simp only[z4l]
  ·unfold SetTable.probe.go
   rw[Nat.add_zero] at q1⊢
   rw[q1]
   simp only[q2,if_true]
   rfl
 |d+1,fuel+1,k,hf,hl=>by
  obtain⟨i,h1,h2⟩:=hl 0 (by lia)
  have ih:=probe_go hd hr hashAt h d fuel (k+1) (by lia) (fun d' hd'=>by
   have:=hl (d'+1) (by lia)
   rwa [show k+(d'+1)=k+1+d' by lia] at this)
  rw[show k+1+d=k+(d+1) by lia] at ih
  have e:SetTable.probe.go t hashAt h (fuel+1) (pos t.mask h k)=SetTable.probe.go t hashAt h fuel (pos t.mask h (k+1)):=by
   conv=>lhs;unfold SetTable.probe.go
   rw[Nat.add_zero] at h1
   rw[h1]
   simp only[h2,Bool.false_eq_true,if_false]
   rfl
  rw[e]
  exact ih
theorem z7c{m i:Nat}(h:i<=m):i+(runEnd m i -i)<=m:=by
 unfold runEnd
 split<;>lia
theorem z7d(m:Nat)(h:Int): ∀k,(pos m h k).j+(pos m h k).more<=m
 |0=>z7c (Nat.le_of_lt_succ (Nat.mod_lt (bits h) (Nat.succ_pos m)))
 |k+1=>by
  have ih:=z7d m h k
  rw[pos]
  unfold adv
  split
  ·show(pos m h k).j+1+((pos m h k).more - 1)<=m
   lia
  ·exact z7c (Nat.le_of_lt_succ (Nat.mod_lt ((pos m h k).i*5+1+(pos m h k).perturb/32) (Nat.succ_pos m)))
noncomputable def Rch(m:Nat)(P:List Nat)(h:Int)(s:Nat):Prop:= ∃k,(pos m h k).j=s/\∀k',k'<k->(pos m h k').j∈P
theorem Rch.mono{m:Nat}{P P':List Nat}{h:Int}{s:Nat}(q:Rch m P h s)(hp: ∀x∈P,x∈P'):Rch m P' h s:=by
 obtain⟨k,h1,h2⟩:=q
 exact⟨k,h1,fun k' hk=>hp _ (h2 k' hk)⟩
theorem hole{P:List Nat}{m:Nat}(hn:P.Nodup)(hl:P.length<=m): ∃e,e<m+1/\e∉P:=by
 refine Classical.byContradiction fun q=> ?_
 have hall: ∀e,e<m+1->e∈P:=fun e he=>Classical.byContradiction fun z=>q ⟨e,he,z⟩
 have:(List.range (m+1)).length<=P.length:=List.Nodup.length_le_of_subset List.nodup_range fun e he=>hall e (List.mem_range.mp he)
 rw[List.length_range] at this
 lia
theorem Ris.nodup{P:List Nat}(h:Ris P):P.Nodup:=h.imp fun q=>Nat.ne_of_lt q
theorem least{p:Nat->Prop}{n:Nat}(h:p n): ∃k,k<=n/\p k/\∀k',k'<k->¬p k':=by
 induction n using Nat.strongRecOn with
 |_ n ih=>
  by_cases q: ∃k,k<n/\p k
  ·obtain⟨k,hk,hp⟩:=q
   obtain⟨k2,h1,h2,h3⟩:=ih k hk hp
   exact⟨k2,by lia,h2,h3⟩
  ·exact⟨n,Nat.le_refl _,h,fun k' hk hp=>q ⟨k',hk,hp⟩⟩
theorem first_hole{m:Nat}(hm:Msk m)(h:Int){P:List Nat}(hn:P.Nodup)(hl:P.length<=m): ∃ke,ke<10*turns m/\(pos m h ke).j∉P/\∀k',k'<ke->(pos m h k').j∈P:=by
 obtain⟨e,he,hp⟩:=hole hn hl
 obtain⟨k,hk,rfl⟩:=zdM hm h he
 obtain⟨ke,h1,h2,h3⟩:=least (p:=fun k=>(pos m h k).j∉P) hp
 exact⟨ke,by lia,h2,fun k' hk'=>Classical.byContradiction fun z=>h3 k' hk' z⟩
variable{α:Type}
noncomputable abbrev Row(α:Type):=Nat×Int×α
noncomputable def plc(E:List (Row α)):List Nat:=E.map (·.1)
structure TI(t:SetTable)(E:List (Row α)):Prop where
 ms:Msk t.mask
 nd:t.dummies= #[]
 pl:t.place.toList=plc E
 rs:Ris (plc E)
 lt: ∀e∈E,e.1<=t.mask
 rc: ∀e∈E,Rch t.mask (plc E) e.2.1 e.1
 ln:E.length<=t.mask
theorem plc_len(E:List (Row α)):(plc E).length=E.length:=by simp[plc]
theorem ins_list{β:Type}(xs:Array β)(p:Nat)(x:β):(insertAt xs p x).toList=xs.toList.take p++x::xs.toList.drop p:=by
 unfold insertAt
 rw[Array.toList_append,Array.toList_push,Array.toList_extract,Array.toList_extract]
 simp[List.extract,List.take_of_length_le]
theorem zav{P:List Nat}{j r:Nat}(hr:Ris P)(hc:Cut P j r)(hj:j∉P):Ris (P.take r++j::P.drop r):=by
 unfold Ris
 rw[List.pairwise_append,List.pairwise_cons]
 have lo: ∀a∈P.take r,a<j:=fun a ha=>by
  obtain⟨i,hi,rfl⟩:=List.getElem_of_mem ha
  rw[List.length_take] at hi
  rw[List.getElem_take]
  exact hc.lo i (by lia) (by lia)
 have hi: ∀b∈P.drop r,j<b:=fun b hb=>by
  have hm:=List.mem_of_mem_drop hb
  obtain⟨i,hi,rfl⟩:=List.getElem_of_mem hb
  rw[List.length_drop] at hi
  rw[List.getElem_drop] at hm⊢
  have:=hc.hi (r+i) (by lia) (by lia)
  rcases Nat.lt_or_eq_of_le this with q|q
  ·exact q
  ·exact absurd (q▸hm) hj
 refine⟨hr.sublist (List.take_sublist _ _),⟨fun b hb=>hi b hb,hr.sublist (List.drop_sublist _ _)⟩,fun a ha b hb=> ?_⟩
 rcases List.mem_cons.mp hb with rfl|hb
 ·exact lo a ha
 ·exact Nat.lt_trans (lo a ha) (hi b hb)
noncomputable def insE(E:List (Row α))(r:Nat)(e:Row α):List (Row α):=E.take r++e::E.drop r
theorem mem_ins{E:List (Row α)}{r:Nat}{e x:Row α}:x∈insE E r e↔x=e\/x∈E:=by
 unfold insE
 constructor
 ·intro h
  rcases List.mem_append.mp h with h|h
  ·exact .inr (List.mem_of_mem_take h)
  ·rcases List.mem_cons.mp h with h|h
   ·exact .inl h
   ·exact .inr (List.mem_of_mem_drop h)
 ·rintro (rfl|h)
  ·simp
  ·rw[<-List.take_append_drop r E] at h
   rcases List.mem_append.mp h with h|h
   ·exact List.mem_append_left _ h
   ·exact List.mem_append_right _ (List.mem_cons_of_mem _ h)
theorem z7e(E:List (Row α))(r:Nat)(e:Row α):plc (insE E r e)=(plc E).take r++e.1::(plc E).drop r:=by
 unfold plc insE
 rw[List.map_append,List.map_cons,List.map_take,List.map_drop]
theorem ins_len(E:List (Row α))(r:Nat)(e:Row α):(insE E r e).length=E.length+1:=by
 unfold insE
 rw[List.length_append,List.length_cons,List.length_take,List.length_drop]
 lia
theorem put_ti{t:SetTable}{E:List (Row α)}(T:TI t E){h:Int}{x:α}{k:Nat}(hk:(pos t.mask h k).j∉plc E)(hb: ∀k',k'<k->(pos t.mask h k').j∈plc E)(hl:E.length+1<=t.mask):
 TI (t.put (pos t.mask h k).j).1 (insE E (t.put (pos t.mask h k).j).2 ((pos t.mask h k).j,h,x)):=by
 have hr:Ris t.place.toList:=by rw[T.pl];exact T.rs
 have hc:=below_cut (j:=(pos t.mask h k).j) hr
 have hd:(t.put (pos t.mask h k).j).1.dummies= #[]:=by
  show(if has t.dummies (pos t.mask h k).j=true then _ else t.dummies)= #[]
  rw[T.nd,z5B]
  rfl
 have hp:(t.put (pos t.mask h k).j).1.place.toList=plc (insE E (t.put (pos t.mask h k).j).2 ((pos t.mask h k).j,h,x)):=by
  show(insertAt t.place (below t.place (pos t.mask h k).j) (pos t.mask h k).j).toList=_
  rw[ins_list,z7e,T.pl]
  rfl
 have sub: ∀y∈plc E,y∈plc (insE E (t.put (pos t.mask h k).j).2 ((pos t.mask h k).j,h,x)):=fun y hy=>by
  obtain⟨e,he,rfl⟩:=List.mem_map.mp hy
  exact List.mem_map.mpr ⟨e,mem_ins.mpr (.inr he),rfl⟩
 refine⟨T.ms,hd,hp, ?_,fun e he=> ?_,fun e he=> ?_,by rw[ins_len];exact hl⟩
 ·rw[z7e]
  rw[T.pl] at hc
  exact zav T.rs (by rw[<-T.pl] at hc⊢;exact hc) hk
 ·rcases mem_ins.mp he with rfl|he
  ·have:=z7d t.mask h k
   show(pos t.mask h k).j<=t.mask
   lia
  ·exact T.lt e he
 ·rcases mem_ins.mp he with rfl|he
  ·exact⟨k,rfl,fun k' q=>sub _ (hb k' q)⟩
  ·exact(T.rc e he).mono sub
end Se
namespace Se
open PySem PySem.SetTable
noncomputable def emp(o:Array (Option Nat))(j:Nat):Bool:=(o.getD j (some 0)).isNone
structure Own(m:Nat)(hs:List Int)(o:Array (Option Nat))(S:List Nat):Prop where
 sz:o.size=m+1
 ln:S.length=hs.length
 nd:S.Nodup
 lt: ∀s∈S,s<=m
 at': ∀j k,o.getD j none=some k↔S[k]? =some j
 rc: ∀k (h1:k<hs.length) (h2:k<S.length),Rch m S hs[k] S[k]
theorem z4U{m:Nat}{hs:List Int}{o:Array (Option Nat)}{S:List Nat}(W:Own m hs o S){j:Nat}(hj:j<=m):emp o j=true↔j∉S:=by
 have hz:j<o.size:=by rw[W.sz];lia
 unfold emp
 rw[Array.getD_eq_getD_getElem?,Array.getElem?_eq_getElem hz,Option.getD_some]
 have ha:=W.at' j
 simp only[Array.getD_eq_getD_getElem?,Array.getElem?_eq_getElem hz,Option.getD_some] at ha
 cases e:o[j] with
 |none=>
  simp only[Option.isNone_none,true_iff]
  intro q
  obtain⟨k,hk,rfl⟩:=List.getElem_of_mem q
  have:=(ha k).mpr (List.getElem?_eq_getElem hk)
  rw[e] at this
  cases this
 |some k=>
  simp only[Option.isNone_some,Bool.false_eq_true,false_iff,Classical.not_not]
  exact List.mem_of_getElem? ((ha k).mp e)
theorem z7f{m:Nat}{h:Int}{hs:List Int}{o:Array (Option Nat)}{S:List Nat}(W:Own m hs o S){R:Nat}(hR:(runI m h R).1∉S): ∀(fuel r:Nat),R<r+fuel->r<=R->(∀k',k'<runSt m h r->(pos m h k').j∈S)->∃k,SetTable.layClean.free m o fuel (runI m h r).1 (runI m h r).2=some (pos m h k).j/\(pos m h k).j∉S/\∀k',k'<k->(pos m h k').j∈S
 |0,r,h1,h2,_=>by lia
 |fuel+1,r,h1,h2,hb=>by
  have hi:=z4T m h r
  have hle: ∀d,d<=runEnd m (runI m h r).1 -(runI m h r).1->(runI m h r).1+d<=m:=fun d hd=>by
   have:=z7c (m:=m) (i:=(runI m h r).1) (by lia)
   lia
  have hpos: ∀d,d<=runEnd m (runI m h r).1 -(runI m h r).1->(pos m h (runSt m h r+d)).j=(runI m h r).1+d:=fun d hd=>by
   rw[z78 m h r (z79 m h r) d hd]
   rfl
  have hre:(runI m h r).1<=runEnd m (runI m h r).1:=by unfold runEnd;split<;>lia
  unfold SetTable.layClean.free
  cases e:(List.range (runEnd m (runI m h r).1+1 -(runI m h r).1)).find? (fun k=>(o.getD ((runI m h r).1+k) (some 0)).isNone) with
  |some d=>
   rw[List.find?_range_eq_some] at e
   obtain⟨e1,e2,e3⟩:=e
   have hd:d<=runEnd m (runI m h r).1 -(runI m h r).1:=by
    have:=List.mem_range.mp e2
    lia
   refine⟨runSt m h r+d,by simp only[hpos d hd], ?_,fun k' hk=> ?_⟩
   ·rw[hpos d hd]
    exact(z4U W (hle d hd)).mp e1
   ·by_cases q:k'<runSt m h r
    ·exact hb k' q
    ·obtain⟨d',rfl⟩: ∃d',k'=runSt m h r+d':=⟨k' -runSt m h r,by lia⟩
     rw[hpos d' (by lia)]
     have:=e3 d' (by lia)
     refine Classical.byContradiction fun z=> ?_
     have z2:=(z4U W (hle d' (by lia))).mpr z
     unfold emp at z2
     rw[z2] at this
     cases this
  |none=>
   rw[List.find?_range_eq_none] at e
   have hall: ∀d,d<=runEnd m (runI m h r).1 -(runI m h r).1->(runI m h r).1+d∈S:=fun d hd=>Classical.byContradiction fun z=>by
    have z2:=(z4U W (hle d hd)).mpr z
    have:=e d (by lia)
    unfold emp at z2
    rw[z2] at this
    cases this
   have hne:r≠R:=fun q=>hR (by rw[<-q];exact hall 0 (Nat.zero_le _))
   simp only
   exact z7f W hR fuel (r+1) (by lia) (by lia) (fun k' hk=>by
    by_cases q:k'<runSt m h r
    ·exact hb k' q
    ·obtain⟨d',rfl⟩: ∃d',k'=runSt m h r+d':=⟨k' -runSt m h r,by lia⟩
     simp only[runSt] at hk
     rw[hpos d' (by lia)]
     exact hall d' (by lia))
theorem z8A{m:Nat}(hm:Msk m)(h:Int){S:List Nat}(hn:S.Nodup)(hl:S.length<=m): ∃R,R<turns m/\(runI m h R).1∉S:=by
 obtain⟨e,he,hp⟩:=hole hn hl
 obtain⟨k,hk,q⟩:=cyc hm (z4T m h 13) he
 refine⟨13+k,by unfold turns;lia, ?_⟩
 rw[z4S,q]
 exact hp
theorem zaw{m:Nat}(hm:Msk m){hs:List Int}{o:Array (Option Nat)}{S:List Nat}(W:Own m hs o S)(hl:S.length<=m)(h:Int): ∃j,SetTable.layClean.free m o (turns m) (bits h %(m+1)) (bits h)=some j/\Own m (hs++[h]) (o.setIfInBounds j (some hs.length)) (S++[j]):=by
 obtain⟨R,hR,hno⟩:=z8A hm h W.nd hl
 obtain⟨k,e1,e2,e3⟩:=z7f W hno (turns m) 0 (by lia) (Nat.zero_le _) (fun k' q=>absurd q (Nat.not_lt_zero _))
 have hj:(pos m h k).j<=m:=by have:=z7d m h k;lia
 refine⟨_,e1, ?_⟩
 refine⟨by rw[Array.size_setIfInBounds];exact W.sz,by simp[W.ln], ?_,fun s hs'=> ?_,fun j' k'=> ?_,fun k' h1 h2=> ?_⟩
 ·rw[List.nodup_append]
  exact⟨W.nd,by simp,fun a ha b hb q=>by rw[List.mem_singleton.mp hb] at q;exact e2 (q▸ha)⟩
 ·rcases List.mem_append.mp hs' with q|q
  ·exact W.lt s q
  ·rw[List.mem_singleton.mp q];exact hj
 ·have hz:(pos m h k).j<o.size:=by rw[W.sz];lia
  rw[Array.getD_eq_getD_getElem?,Array.getElem?_setIfInBounds]
  by_cases q:(pos m h k).j=j'
  ·rw[if_pos q,if_pos hz,Option.getD_some]
   constructor
   ·intro z
    have z:hs.length=k':=by simpa using z
    rw[<-z,<-W.ln,<-q]
    simp
   ·intro z
    rcases Nat.lt_trichotomy k' S.length with c|c|c
    ·rw[List.getElem?_append_left c] at z
     exact absurd (q▸List.mem_of_getElem? z) e2
    ·rw[c,W.ln]
    ·rw[List.getElem?_eq_none (by simp;lia)] at z
     cases z
  ·rw[if_neg q,<-Array.getD_eq_getD_getElem?,W.at' j' k']
   rcases Nat.lt_trichotomy k' S.length with c|c|c
   ·rw[List.getElem?_append_left c]
   ·rw[c]
    simp only[List.getElem?_eq_none (Nat.le_refl _),List.getElem?_append_right (Nat.le_refl _),Nat.sub_self,List.getElem?_cons_zero,Option.some.injEq]
    exact⟨fun z=>(nomatch z),fun z=>absurd z q⟩
   ·rw[List.getElem?_eq_none (by lia),List.getElem?_eq_none (by simp;lia)]
 ·by_cases c:k'<S.length
  ·rw[List.getElem_append_left c,List.getElem_append_left (by rw[<-W.ln];exact c)]
   exact(W.rc k' (by rw[<-W.ln];exact c) c).mono fun x hx=>List.mem_append_left _ hx
  ·have c':k'=S.length:=by simp at h2;lia
   subst c'
   rw[List.getElem_append_right (Nat.le_refl _),List.getElem_append_right (by rw[W.ln];exact Nat.le_refl _)]
   simp only[Nat.sub_self,List.getElem_cons_zero]
   have:S.length -hs.length=0:=by rw[W.ln];lia
   simp only[this,List.getElem_cons_zero]
   exact⟨k,rfl,fun k' q=>List.mem_append_left _ (e3 k' q)⟩
noncomputable def layF(m:Nat)(acc:Option (Array (Option Nat)×Nat))(h:Int):Option (Array (Option Nat)×Nat):=do
 let(owner,k)<-acc
 let j<-SetTable.layClean.free m owner (turns m) (bits h %(m+1)) (bits h)
 pure (owner.setIfInBounds j (some k),k+1)
theorem z7g{m:Nat}(hm:Msk m): ∀(more hs:List Int) (o:Array (Option Nat)) (S:List Nat),Own m hs o S->hs.length+more.length<=m->∃o' S',more.foldl (layF m) (some (o,hs.length))=some (o',(hs++more).length)/\Own m (hs++more) o' S'
 |[],hs,o,S,W,_=>⟨o,S,by simp,by simpa using W⟩
 |h::more,hs,o,S,W,hl=>by
  simp only[List.length_cons] at hl
  obtain⟨j,e1,W1⟩:=zaw hm W (by rw[W.ln];lia) h
  obtain⟨o',S',e2,W2⟩:=z7g hm more (hs++[h]) _ _ W1 (by simp;lia)
  refine⟨o',S', ?_,by simpa using W2⟩
  rw[List.foldl_cons]
  have:layF m (some (o,hs.length)) h=some (o.setIfInBounds j (some hs.length),(hs++[h]).length):=by
   unfold layF
   simp only[Option.bind_eq_bind,Option.bind_some,e1]
   simp
  rw[this,e2]
  simp
theorem own0(m:Nat):Own m [] (Array.replicate (m+1) none) []:=by
 refine⟨by simp,rfl,List.nodup_nil,fun s h=>(nomatch h),fun j k=> ?_,fun k h1=>absurd h1 (Nat.not_lt_zero _)⟩
 rw[Array.getD_eq_getD_getElem?,Array.getElem?_replicate]
 by_cases q:j<m+1
 ·simp[q]
 ·simp[q]
theorem z7h{m:Nat}(hm:Msk m)(hs:Array Int)(hl:hs.size<=m): ∃o S,SetTable.layClean m hs=some o/\Own m hs.toList o S:=by
 obtain⟨o,S,e,W⟩:=z7g hm hs.toList [] _ _ (own0 m) (by simpa using hl)
 refine⟨o,S, ?_,by simpa using W⟩
 unfold SetTable.layClean
 rw[<-Array.foldl_toList]
 show Option.map (·.1) (hs.toList.foldl (layF m) (some (Array.replicate (m+1) none,0)))=_
 rw[show(some (Array.replicate (m+1) (none:Option Nat),0))=some (Array.replicate (m+1) none,([]:List Int).length) from rfl,e]
 rfl
noncomputable def live(m:Nat)(o:Array (Option Nat)):List (Nat×Nat):=(List.range (m+1)).filterMap fun j=>(o.getD j none).map (j,·)
theorem z2v{m:Nat}{o:Array (Option Nat)}{j k:Nat}:(j,k)∈live m o↔j<m+1/\o.getD j none=some k:=by
 unfold live
 rw[List.mem_filterMap]
 constructor
 ·rintro ⟨j',h1,h2⟩
  rw[Option.map_eq_some_iff] at h2
  obtain⟨k',h3,h4⟩:=h2
  cases h4
  exact⟨List.mem_range.mp h1,h3⟩
 ·rintro ⟨h1,h2⟩
  exact⟨j,List.mem_range.mpr h1,by rw[h2];rfl⟩
theorem z2O(m:Nat)(o:Array (Option Nat)):(live m o).Pairwise (fun a b=>a.1<b.1):=by
 unfold live
 rw[List.pairwise_filterMap]
 refine List.pairwise_lt_range.imp fun{a b} hab x hx y hy=> ?_
 simp only[Option.mem_def,Option.map_eq_some_iff] at hx hy
 obtain⟨_,_,rfl⟩:=hx
 obtain⟨_,_,rfl⟩:=hy
 exact hab
theorem z7i{β:Type}(es:List β):(List.range es.length).filterMap (fun i=>es[i]?)=es:=by
 have h:(List.range es.length).map (fun i=>es[i]?)=es.map some:=by
  apply List.ext_getElem
  ·simp
  ·intro i h1 h2
   simp at h1
   simp[h1]
 have h2:(List.range es.length).filterMap (fun i=>es[i]?)=((List.range es.length).map (fun i=>es[i]?)).filterMap id:=by rw[List.filterMap_map];rfl
 rw[h2,h,List.filterMap_map]
 simp
theorem laid_ti{α:Type}{m:Nat}(hm:Msk m)(fg mv:Nat)(ld pn:Bool)(es:Array (Int×α))(hl:es.size<=m): ∃(t:SetTable) (order:Array Nat) (E:List (Row α)),laid m fg mv ld pn (es.map (·.1))=some (t,order)/\t.mask=m/\TI t E/\(order.filterMap (es[·]?)).toList=E.map (·.2)/\(E.map (·.2)).Perm es.toList:=by
 obtain⟨o,S,e,W⟩:=z7h hm (es.map (·.1)) (by simpa using hl)
 have hsl:(es.map (·.1)).toList=es.toList.map (·.1):=by simp
 rw[hsl] at W
 have hln:S.length=es.toList.length:=by rw[W.ln,List.length_map]
 let g:Nat×Nat->Option (Row α):=fun jk=>(es.toList[jk.2]?).map fun x=>(jk.1,x)
 have hall: ∀jk∈live m o,S[jk.2]? =some jk.1/\jk.2<es.toList.length:=fun jk h=>by
  obtain⟨j,k⟩:=jk
  have h1:=(W.at' j k).mp (z2v.mp h).2
  refine⟨h1, ?_⟩
  have:=(List.getElem?_eq_some_iff.mp h1).1
  lia
 have hord:((live m o).map (·.2)).Perm (List.range es.toList.length):=by
  refine(List.perm_ext_iff_of_nodup ?_ List.nodup_range).mpr fun k=> ?_
  ·rw[List.Nodup,List.pairwise_map]
   refine(z2O m o).imp_of_mem fun{a b} ha hb hab q=> ?_
   have h1:=(hall a ha).1
   have h2:=(hall b hb).1
   rw[q] at h1
   rw[h1] at h2
   have:=Option.some.inj h2
   lia
  ·constructor
   ·intro h
    obtain⟨jk,h1,rfl⟩:=List.mem_map.mp h
    exact List.mem_range.mpr (hall jk h1).2
   ·intro h
    have hk:k<S.length:=by rw[hln];exact List.mem_range.mp h
    refine List.mem_map.mpr ⟨(S[k],k),z2v.mpr ⟨?_,(W.at' _ _).mpr (List.getElem?_eq_getElem hk)⟩,rfl⟩
    have:=W.lt _ (List.getElem_mem hk)
    lia
 have hE1:((live m o).filterMap g).map (·.1)=(live m o).map (·.1):=by
  have: ∀l:List (Nat×Nat),(∀jk∈l,jk.2<es.toList.length)->(l.filterMap g).map (·.1)=l.map (·.1):=by
   intro l hl
   induction l with
   |nil=>rfl
   |cons a l ih=>
    have ha:=hl a (by simp)
    have:g a=some (a.1,es.toList[a.2]):=by show(es.toList[a.2]?).map _=_;rw[List.getElem?_eq_getElem ha];rfl
    rw[List.filterMap_cons,this]
    simp only[List.map_cons]
    rw[ih fun jk h=>hl jk (by simp[h])]
  exact this _ fun jk h=>(hall jk h).2
 have hE2:((live m o).filterMap g).map (·.2)=((live m o).map (·.2)).filterMap (fun i=>es.toList[i]?):=by
  rw[List.map_filterMap,List.filterMap_map]
  congr 1
  funext jk
  show Option.map _ (Option.map _ _)=_
  rw[Option.map_map]
  show Option.map id _=_
  simp
 refine⟨{mask:=m,place:=((live m o).map (·.1)).toArray,dummies:= #[],finger:=fg,led:=ld,moves:=mv,plain:=pn},((live m o).map (·.2)).toArray,(live m o).filterMap g, ?_,rfl, ?_, ?_, ?_⟩
 ·unfold laid
  simp only[Option.bind_eq_bind,e,Option.bind_some]
  rfl
 ·refine⟨hm,rfl,hE1.symm, ?_,fun r hr=> ?_,fun r hr=> ?_, ?_⟩
  ·show Ris (((live m o).filterMap g).map (·.1))
   rw[hE1]
   unfold Ris
   rw[List.pairwise_map]
   exact z2O m o
  ·have:r.1∈((live m o).filterMap g).map (·.1):=List.mem_map.mpr ⟨r,hr,rfl⟩
   rw[hE1] at this
   obtain⟨jk,h1,h2⟩:=List.mem_map.mp this
   have:=(z2v.mp (show(jk.1,jk.2)∈live m o from h1)).1
   show r.1<=m
   lia
  ·obtain⟨jk,h1,h2⟩:=List.mem_filterMap.mp hr
   obtain⟨h3,h4⟩:=hall jk h1
   have h5:r=(jk.1,es.toList[jk.2]):=by
    have:g jk=some (jk.1,es.toList[jk.2]):=by show(es.toList[jk.2]?).map _=_;rw[List.getElem?_eq_getElem h4];rfl
    rw[this] at h2
    exact(Option.some.inj h2).symm
   have hk:jk.2<S.length:=by rw[hln];exact h4
   have h6:=W.rc jk.2 (by rw[List.length_map];exact h4) hk
   rw[List.getElem?_eq_getElem hk] at h3
   rw[Option.some.inj h3,List.getElem_map] at h6
   rw[h5]
   refine h6.mono fun s hs=> ?_
   show s∈((live m o).filterMap g).map (·.1)
   rw[hE1]
   obtain⟨k,hk2,rfl⟩:=List.getElem_of_mem hs
   refine List.mem_map.mpr ⟨(S[k],k),z2v.mpr ⟨?_,(W.at' _ _).mpr (List.getElem?_eq_getElem hk2)⟩,rfl⟩
   have:=W.lt _ (List.getElem_mem hk2)
   lia
  ·have h7:=congrArg List.length hE1
   have h8:=hord.length_eq
   simp only[List.length_map,List.length_range] at h7 h8
   show((live m o).filterMap g).length<=m
   rw[h7,h8]
   simpa using hl
 ·rw[hE2]
  simp
 ·rw[hE2]
  refine(hord.filterMap _).trans ?_
  rw[z7i]
end Se
namespace L2
open PySem PySem.Spec PyProof.Rows
section
variable{P:Program}{w:World}{h:Heap}{A:Around}{E:Value->Shared->Prop}{s:Shared}
theorem z2P{v:Value}(hv:carriedByValue v=true)(m:Nat):ofAClassStatement m v=pure false:=by
 cases v<;>first|(simp[carriedByValue] at hv;done)|(unfold ofAClassStatement;rfl)
theorem z4m{M:Model}{a:Addr}{o:Obj}{items:Array Value}{n m:Nat}{Q:Bool->Shared->Prop}(ho:s.heap.get? a=some o)(hc:o.cls= .type "tuple")(hd:o.data= .seq items n)(hi: ∀v∈items.toList,∀(R:Bool->Shared->Prop) E,R false s->wpAny M A (ofAClassStatement m v) R E s)(q:Q false s):wpAny M A (ofAClassStatement (m+1) (.ref a)) Q E s:=by
 have hT:s.TypeIs (.ref a) "tuple" :=⟨o,ho,hc⟩
 rw[ofAClassStatement]
 refine wpAny_bind (wpAny_typeOf hT ?_)
 dsimp only
 refine wpAny_bind ?_
 refine wpAny_pure ?_
 rw[if_neg (by decide)]
 refine wpAny_bind (wpAny_seqItems ho hd ?_)
 dsimp only
 refine wpAny_bind ?_
 rw[<-Array.forIn_toList]
 refine wpAny_forIn_list _ (fun r b s'=>b.1=none/\s'=s/\∀v∈r,v∈items.toList) _ ?_ ?_ _ _ ⟨rfl,rfl,fun v hv=>hv⟩
 ·rintro v r b s' ⟨_,rfl,hm⟩
  refine wpAny_bind (hi v (hm v List.mem_cons_self) _ _ ?_)
  rw[if_neg (by decide)]
  exact wpAny_pure ⟨rfl,rfl,fun u hu=>hm u (List.mem_cons_of_mem _ hu)⟩
 ·rintro ⟨b1,b2⟩ s' ⟨hb,rfl,_⟩
  dsimp only at hb
  subst hb
  exact wpAny_pure q
theorem z9m{k:NK}{vs:List Value}(p:Paired (ItN P w h) k vs): ∀v∈vs,∃z,ItN P w h z v:=by
 induction p with
 |nil=>intro v hv;cases hv
 |cons a b ih=>
  intro v hv
  rcases List.mem_cons.mp hv with rfl|hv
  ·exact⟨_,a⟩
  ·exact ih v hv
theorem z4n{k:NK}{a:Addr}{Q:Bool->Shared->Prop}(hk:IsN P w s.heap k a)(q:Q false s):wpAny (model P w) A (ofAClassStatement 8 (.ref a)) Q E s:=by
 obtain⟨o,items,n,h1,h2,h3,h4⟩:=hk
 refine z4m h1 h2 h3 (fun v hv R E' r=> ?_) q
 obtain⟨z,hz⟩:=z9m h4 v hv
 cases z with
 |inl k=>rw[z2P ((z0d P w).byValue _ _ hz)];exact wpAny_pure r
 |inr ks=>
  obtain⟨c,rfl,o,items,n,h1,h2,h3,h4⟩:=hz
  exact z4m h1 h2 h3 (fun v hv R E' r=>by rw[z2P (h4.byValue v hv)];exact wpAny_pure r) r
theorem z4o{v:Value}(hv:carriedByValue v=true)(m:Nat): ∃b,hashByValue m v=pure b:=by
 cases v<;>first|(simp[carriedByValue] at hv;done)|(cases m<;>exact⟨_,rfl⟩)
theorem z7j{M:Model}{a:Addr}{o:Obj}{items:Array Value}{n m:Nat}{Q:Bool->Shared->Prop}(ho:s.heap.get? a=some o)(hc:o.cls= .type "tuple")(hd:o.data= .seq items n)(hi: ∀v∈items.toList,∀(R:Bool->Shared->Prop) E,(∀b,R b s)->wpAny M A (hashByValue m v) R E s)(q: ∀b,Q b s):wpAny M A (hashByValue (m+1) (.ref a)) Q E s:=by
 have hT:s.TypeIs (.ref a) "tuple" :=⟨o,ho,hc⟩
 rw[hashByValue]
 refine wpAny_bind (wpAny_specialOf hT PySem.F.slot_tuple_hash.lookup ?_)
 dsimp only
 refine wpAny_bind (wpAny_seqItems ho hd ?_)
 refine wpAny_bind ?_
 dsimp only[Option.getD_some]
 rw[<-Array.forIn_toList]
 refine wpAny_forIn_list _ (fun r b s'=>(b.1=none\/∃x,b.1=some x)/\s'=s/\∀v∈r,v∈items.toList) _ ?_ ?_ _ _ ⟨.inl rfl,rfl,fun v hv=>hv⟩
 ·rintro v r b s' ⟨_,rfl,hm⟩
  refine wpAny_bind (hi v (hm v List.mem_cons_self) _ _ fun k=> ?_)
  cases k with
  |true=>
   rw[if_neg (by decide)]
   exact wpAny_pure ⟨.inl rfl,rfl,fun u hu=>hm u (List.mem_cons_of_mem _ hu)⟩
  |false=>
   rw[if_pos (by decide)]
   exact wpAny_pure (wpAny_pure (q _))
 ·rintro ⟨b1,b2⟩ s' ⟨hb,rfl,_⟩
  dsimp only at hb
  rcases hb with rfl|⟨x,rfl⟩
  ·exact wpAny_pure (q _)
  ·exact wpAny_pure (q _)
theorem zax{k:NK}{a:Addr}{Q:Bool->Shared->Prop}(hk:IsN P w s.heap k a)(q: ∀b,Q b s):wpAny (model P w) A (hashByValue 8 (.ref a)) Q E s:=by
 obtain⟨o,items,n,h1,h2,h3,h4⟩:=hk
 refine z7j h1 h2 h3 (fun v hv R E' r=> ?_) q
 obtain⟨z,hz⟩:=z9m h4 v hv
 cases z with
 |inl k=>obtain⟨b,e⟩:=z4o ((z0d P w).byValue _ _ hz) 7;rw[e];exact wpAny_pure (r b)
 |inr ks=>
  obtain⟨c,rfl,o,items,n,h1,h2,h3,h4⟩:=hz
  exact z7j h1 h2 h3 (fun v hv R E' r=>by obtain⟨b,e⟩:=z4o (h4.byValue v hv) 6;rw[e];exact wpAny_pure (r b)) r
noncomputable def z1N(k:NK):Bool:=k.all fun z=>match z with
 | .inl (.inl _)=>true
 | .inl (.inr _)=>false
 | .inr ks=>ks.all fun x=>x.isLeft
theorem z5C{M:Model}{a:Addr}{o:Obj}{items:Array Value}{n m:Nat}{Q:Bool->Shared->Prop}(ho:s.heap.get? a=some o)(hc:o.cls= .type "tuple")(hd:o.data= .seq items n)(hi: ∀v∈items.toList,∀(R:Bool->Shared->Prop) E,R true s->wpAny M A (hashByValue m v) R E s)(q:Q true s):wpAny M A (hashByValue (m+1) (.ref a)) Q E s:=by
 have hT:s.TypeIs (.ref a) "tuple" :=⟨o,ho,hc⟩
 rw[hashByValue]
 refine wpAny_bind (wpAny_specialOf hT PySem.F.slot_tuple_hash.lookup ?_)
 dsimp only
 refine wpAny_bind (wpAny_seqItems ho hd ?_)
 refine wpAny_bind ?_
 dsimp only[Option.getD_some]
 rw[<-Array.forIn_toList]
 refine wpAny_forIn_list _ (fun r b s'=>b.1=none/\s'=s/\∀v∈r,v∈items.toList) _ ?_ ?_ _ _ ⟨rfl,rfl,fun v hv=>hv⟩
 ·rintro v r b s' ⟨_,rfl,hm⟩
  refine wpAny_bind (hi v (hm v List.mem_cons_self) _ _ ?_)
  rw[if_neg (by decide)]
  exact wpAny_pure ⟨rfl,rfl,fun u hu=>hm u (List.mem_cons_of_mem _ hu)⟩
 ·rintro ⟨b1,b2⟩ s' ⟨hb,rfl,_⟩
  dsimp only at hb
  subst hb
  exact wpAny_pure q
theorem z7k{i:Int}{v:Value}(hv:(z0d P w).is (.inl i) v=true)(m:Nat):hashByValue m v=pure true:=by
 rcases z0f (show z4G (Sum.inl i) v=true from hv) with⟨j,t,_,rfl⟩|⟨x,t,e,_⟩
 ·cases m<;>rfl
 ·cases e
theorem zdN{R:α->β->Prop}{f:α->Bool}{ks:List α}{vs:List β}(p:Paired R ks vs)(hk:ks.all f=true): ∀v∈vs,∃z,f z=true/\R z v:=by
 induction p with
 |nil=>intro v hv;cases hv
 |cons a b ih=>
  rw[List.all_cons,Bool.and_eq_true] at hk
  intro v hv
  rcases List.mem_cons.mp hv with rfl|hv
  ·exact⟨_,hk.1,a⟩
  ·exact ih hk.2 v hv
theorem zcj{f:Key->Bool}{ks:List Key}{vs:List Value}(p:PySem.ItemsAre (z0d P w) ks vs)(hk:ks.all f=true): ∀v∈vs,∃z,f z=true/\(z0d P w).is z v=true:=by
 induction p with
 |nil=>intro v hv;cases hv
 |cons a b ih=>
  rw[List.all_cons,Bool.and_eq_true] at hk
  intro v hv
  rcases List.mem_cons.mp hv with rfl|hv
  ·exact⟨_,hk.1,a⟩
  ·exact ih hk.2 v hv
theorem z8B{k:NK}{a:Addr}{Q:Bool->Shared->Prop}(hi:z1N k=true)(hk:IsN P w s.heap k a)(q:Q true s):wpAny (model P w) A (hashByValue 8 (.ref a)) Q E s:=by
 obtain⟨o,items,n,h1,h2,h3,h4⟩:=hk
 refine z5C h1 h2 h3 (fun v hv R E' r=> ?_) q
 obtain⟨z,hz0,hz⟩:=zdN h4 hi v hv
 cases z with
 |inl k=>
  cases k with
  |inl i=>rw[z7k hz];exact wpAny_pure r
  |inr x=>cases hz0
 |inr ks=>
  obtain⟨c,rfl,o,items,n,h1,h2,h3,h4⟩:=hz
  refine z5C h1 h2 h3 (fun v hv R E' r=> ?_) r
  obtain⟨y,hy0,hy⟩:=zcj (f:=fun x:Key=>x.isLeft) h4 hz0 v hv
  cases y with
  |inl i=>rw[z7k hy];exact wpAny_pure r
  |inr x=>cases hy0
theorem z8C{k:NK}{a:Addr}{Q:Bool->Shared->Prop}(hk:IsN P w s.heap k a)(q: ∀b,(z1N k=true->b=true)->Q b s):wpAny (model P w) A (hashByValue 8 (.ref a)) Q E s:=by
 by_cases hi:z1N k=true
 ·exact z8B hi hk (q true fun _=>rfl)
 ·exact zax hk fun b=>q b fun z=>absurd z hi
theorem zay{k:NK}{c:Addr}{Q:Bool->Shared->Prop}(hk:IsN P w s.heap k c){vs:List Value}(hv: ∀v∈vs,∃k' c',v= .ref c'/\IsN P w s.heap k' c')(q:Q false s):wpAny (model P w) A (searchCouldBeSeen (.ref c) vs) Q E s:=by
 unfold searchCouldBeSeen
 refine wpAny_bind ?_
 refine wpAny_forIn_list _ (fun r b s'=>b.1=none/\s'=s/\∀v∈r,v∈vs) _ ?_ ?_ _ _ ⟨rfl,rfl,fun v hv=>hv⟩
 ·rintro v r b s' ⟨_,rfl,hm⟩
  obtain⟨k',c',rfl,hk'⟩:=hv v (hm v List.mem_cons_self)
  have nx:(none:Option Bool)=none/\s'=s'/\∀u∈r,u∈vs:=⟨rfl,rfl,fun u hu=>hm u (List.mem_cons_of_mem _ hu)⟩
  dsimp only
  split
  ·exact wpAny_pure nx
  ·refine wpAny_bind (z2x hk ?_)
   rw[if_neg (by decide)]
   refine wpAny_bind (z2x hk' ?_)
   rw[if_neg (by decide)]
   refine wpAny_bind (z4n hk ?_)
   rw[if_neg (by decide)]
   refine wpAny_bind (z4n hk' ?_)
   rw[if_neg (by decide)]
   exact wpAny_pure nx
 ·rintro ⟨b1,b2⟩ s' ⟨hb,rfl,_⟩
  dsimp only at hb
  subst hb
  exact wpAny_pure q
end
end L2
namespace L2
open PySem PySem.Spec PyProof.Rows PySem.SetTable
noncomputable abbrev RowN:=Se.Row (NK×Addr)
noncomputable def vE(E:List RowN):List (Int×Value):=E.map fun e=>(e.2.1,Value.ref e.2.2.2)
noncomputable def kE(E:List RowN):List NK:=E.map fun e=>e.2.2.1
theorem zck{es:Array (Int×Value)}{F:List RowN}(he:es.toList=vE F){i:Nat}{e:RowN}(h:F[i]? =some e):es[i]? =some (e.2.1,Value.ref e.2.2.2):=by
 rw[<-Array.getElem?_toList,he,vE,List.getElem?_map,h]
 rfl
structure SN(P:Program)(w:World)(h:Heap)(t:SetTable)(es:Array (Int×Value))(F:List RowN):Prop where
 ti:Se.TI t F
 es:es.toList=vE F
 el: ∀e∈F,IsN P w h e.2.2.1 e.2.2.2/\e.2.1=(z02 P w).hash e.2.2.1
 nd:(kE F).Nodup
section
variable{P:Program}{w:World}{A:Around}{E:Value->Shared->Prop}{s:Shared}
theorem SN.size{h:Heap}{t:SetTable}{es:Array (Int×Value)}{F:List RowN}(S:SN P w h t es F):es.size=F.length:=by
 rw[<-Array.length_toList,S.es,vE,List.length_map]
theorem SN.fits{h:Heap}{t:SetTable}{es:Array (Int×Value)}{F:List RowN}(S:SN P w h t es F):t.fits es.size=true:=by
 have h1:t.place.size=F.length:=by rw[<-Array.length_toList,S.ti.pl,Se.plc_len]
 have h2:t.dummies.size=0:=by rw[S.ti.nd];rfl
 have h3:=S.ti.ln
 have h4:t.fill<=t.mask:=by show t.place.size+t.dummies.size<=t.mask;lia
 simp only[SetTable.fits,Bool.and_eq_true,beq_iff_eq,decide_eq_true_eq]
 exact⟨by rw[S.size,h1],h4⟩
theorem SN.live{h:Heap}{t:SetTable}{es:Array (Int×Value)}{F:List RowN}(S:SN P w h t es F){j:Nat}(hj:j∈Se.plc F): ∃i e,t.slot j= .live i/\F[i]? =some e/\e.1=j:=by
 obtain⟨i,h1,h2⟩:=Se.slot_live (t:=t) (by rw[S.ti.pl];exact S.ti.rs) (by rw[S.ti.pl];exact hj)
 rw[S.ti.pl,Se.plc,List.getElem?_map] at h2
 cases hf:F[i]? with
 |none=>rw[hf] at h2;cases h2
 |some e=>rw[hf] at h2;exact⟨i,e,h1,hf,Option.some.inj h2⟩
theorem SN.one{h:Heap}{t:SetTable}{es:Array (Int×Value)}{F:List RowN}(S:SN P w h t es F){e e':RowN}(h1:e∈F)(h2:e'∈F)(q:e.1=e'.1):e=e':=by
 have hn:=S.ti.rs.nodup
 obtain⟨a,ha,rfl⟩:=List.getElem_of_mem h1
 obtain⟨b,hb,rfl⟩:=List.getElem_of_mem h2
 have q':(Se.plc F)[a]'(by rw[Se.plc_len];exact ha)=(Se.plc F)[b]'(by rw[Se.plc_len];exact hb):=by simpa[Se.plc] using q
 have:a=b:=by
  rcases Nat.lt_trichotomy a b with z|z|z
  ·have:=S.ti.rs.at z (by rw[Se.plc_len];exact hb)
   lia
  ·exact z
  ·have:=S.ti.rs.at z (by rw[Se.plc_len];exact ha)
   lia
 subst this
 rfl
theorem SN.gave{h:Heap}{t:SetTable}{es:Array (Int×Value)}{F:List RowN}(S:SN P w h t es F):t.gaveWay=false:=by
 unfold SetTable.gaveWay
 rcases S.ti.ms with q|q|q<;>rw[q]<;>rfl
theorem z7l{a:Addr}{o:Obj}{es:Array (Int×Value)}{ep:Nat}{t:SetTable}{F:List RowN}{x:NK}{c:Addr}{ke:Nat}{Q:SetFound->Shared->Prop}
 (hu:A.units+1<cLine) (ho:s.heap.get? a=some o) (hd:o.data= .set es ep t) (S:SN P w s.heap t es F) (hx:IsN P w s.heap x c)
 (hke:ke<10*turns t.mask) (hh:(Se.pos t.mask ((z02 P w).hash x) ke).j∉Se.plc F) (hb: ∀k',k'<ke->(Se.pos t.mask ((z02 P w).hash x) k').j∈Se.plc F)
 (q1:x∈kE F->Q (.there none) s) (q2:x∉kE F->Q (.free (Se.pos t.mask ((z02 P w).hash x) ke).j false) s):
 ∀(fuel k:Nat) (stand:Option SetTable.Probe),stand.getD (t.probeStart ((z02 P w).hash x))=Se.pos t.mask ((z02 P w).hash x) k->k<=ke->ke -k<fuel->
  (∀e∈F,e.2.2.1=x->∃k2,k<=k2/\k2<ke/\(Se.pos t.mask ((z02 P w).hash x) k2).j=e.1)->
  wpAny (model P w) A (setSearchFrom a (.ref c) ((z02 P w).hash x) true fuel stand) Q E s:=by
 intro fuel
 induction fuel with
 |zero=>intro k stand _ _ hf _;lia
 |succ fuel ih=>
  intro k stand hst hk hf hall
  have hr:Se.Ris t.place.toList:=by rw[S.ti.pl];exact S.ti.rs
  let g:Nat->Int:=fun i=>(es[i]?.map (·.1)).getD 0
  obtain⟨d,hdk,hpd,hmin⟩:=Se.least (p:=fun d=>k+d=ke\/∃i,t.slot (Se.pos t.mask ((z02 P w).hash x) (k+d)).j= .live i/\(g i==(z02 P w).hash x)=true) (n:=ke -k) (.inl (by lia))
  have hlo: ∀d',d'<d->∃i,t.slot (Se.pos t.mask ((z02 P w).hash x) (k+d')).j= .live i/\(g i==(z02 P w).hash x)=false:=fun d' hd'=>by
   obtain⟨i,e,h1,h2,h3⟩:=S.live (hb (k+d') (by lia))
   refine⟨i,h1, ?_⟩
   cases hg:g i==(z02 P w).hash x with
   |false=>rfl
   |true=>exact absurd (.inr ⟨i,h1,hg⟩) (hmin d' hd')
  have gat: ∀{i:Nat} {e:RowN},F[i]? =some e->g i=e.2.1:=fun{i e} h=>by show(es[i]?.map (·.1)).getD 0=_;rw[zck S.es h];rfl
  have hat: ∀e∈F,e.2.2.1=x->∃k2,k+d<=k2/\k2<ke/\(Se.pos t.mask ((z02 P w).hash x) k2).j=e.1:=fun e he hex=>by
   obtain⟨k2,h1,h2,h3⟩:=hall e he hex
   refine⟨k2,Classical.byContradiction fun hlt=> ?_,h2,h3⟩
   obtain⟨i,hi1,hi2⟩:=hlo (k2 -k) (by lia)
   rw[show k+(k2 -k)=k2 by lia] at hi1
   obtain⟨i',e',l1,l2,l3⟩:=S.live (hb k2 h2)
   rw[l1] at hi1
   cases hi1
   obtain rfl:=S.one (List.mem_of_getElem? l2) he (l3.trans h3)
   rw[gat l2,(S.el e' he).2,hex] at hi2
   simp at hi2
  have hpr:=Se.probe_go S.ti.nd hr g ((z02 P w).hash x) d (10*turns t.mask) k (by lia) hlo
  have hfit:=S.fits
  unfold setSearchFrom
  refine wpAny_bind (wpAny_setState_of ho hd hfit ?_)
  dsimp only
  rw[S.gave,hst]
  rw[if_neg (by decide)]
  generalize hgen:t.probe _ ((z02 P w).hash x) (Se.pos t.mask ((z02 P w).hash x) k)=met
  rcases hpd with hpd|⟨i,hi,hig⟩
  ·have e1:some (SetTable.Met.empty (Se.pos t.mask ((z02 P w).hash x) ke).j none)=met:=by
    rw[<-hpd] at hh⊢
    exact(hpr.1 (by rw[S.ti.pl];exact hh)).symm.trans hgen
   subst e1
   dsimp only
   refine wpAny_pure (q2 fun hm=> ?_)
   obtain⟨e,he,hex⟩:=List.mem_map.mp hm
   obtain⟨k2,h1,h2,_⟩:=hat e he hex
   lia
  ·have e1:=(hpr.2 i hi hig).symm.trans hgen
   subst e1
   have hlt:k+d<ke:=by
    rcases Nat.lt_or_eq_of_le (show k+d<=ke by lia) with z|z
    ·exact z
    ·rw[z,Se.slot_empty S.ti.nd (by rw[S.ti.pl];exact hh)] at hi
     cases hi
   obtain⟨i',e,l1,l2,l3⟩:=S.live (hb (k+d) hlt)
   rw[l1] at hi
   cases hi
   have hev:=zck S.es l2
   have hef:=S.el e (List.mem_of_getElem? l2)
   dsimp only
   have tail:wpAny (model P w) A (do
    let equal<-holding [Value.ref e.2.2.2] (eqBool (Value.ref e.2.2.2) (.ref c))
    let(es',_,t')<-setState a
    if true&&equal then return .there none
    let some same:=t'.sameMemory t.moves t.mask|unsupported "set.changed-during-lookup:is-the-new-block-at-the-old-address"
    let still<-match (if same then t'.slot (Se.pos t.mask ((z02 P w).hash x) (k+d)).j else .empty) with
     | .live i'=>match es'[i']? with
      |some (_,y')=>do pure (if<-isSame y' (Value.ref e.2.2.2) then some i' else none)
      |none=>pure none
     |_=>pure none
    match still with
    |none=>rule "set.search.anew";setSearchFrom a (.ref c) ((z02 P w).hash x) true fuel none
    |some i'=>if equal then return .there (some i') else setSearchFrom a (.ref c) ((z02 P w).hash x) true fuel (some (Se.pos t.mask ((z02 P w).hash x) (k+d+1)))) Q E s:=by
    refine wpAny_bind (wpAny_holding (z9b hu hef.1 hx ?_))
    refine wpAny_bind (wpAny_setState_of ho hd hfit ?_)
    dsimp only
    by_cases hex:e.2.2.1=x
    ·rw[decide_eq_true hex]
     exact wpAny_pure (q1 (List.mem_map.mpr ⟨e,List.mem_of_getElem? l2,hex⟩))
    ·rw[decide_eq_false hex]
     have hsm:t.sameMemory t.moves t.mask=some true:=by unfold SetTable.sameMemory;rw[if_pos (by simp)]
     rw[hsm,if_neg (by decide)]
     dsimp only
     rw[if_pos rfl,l1]
     dsimp only
     rw[hev]
     dsimp only
     refine wpAny_bind (wpAny_isSame_ref_self ?_)
     refine wpAny_bind (wpAny_pure ?_)
     rw[if_pos rfl]
     dsimp only
     rw[if_neg (by decide)]
     refine ih (k+d+1) _ rfl (by lia) (by lia) fun e' he' hex'=> ?_
     obtain⟨k2,h1,h2,h3⟩:=hat e' he' hex'
     refine⟨k2, ?_,h2,h3⟩
     rcases Nat.lt_or_eq_of_le h1 with z|z
     ·lia
     ·rw[<-z] at h3
      obtain rfl:=S.one (List.mem_of_getElem? l2) he' (l3.trans h3)
      exact absurd hex' hex
   cases t.led with
   |true=>
    rw[if_neg (by decide),hev]
    exact tail
   |false=>
    rw[if_pos (by decide)]
    refine wpAny_bind (zay hx (fun v hv=> ?_) ?_)
    ·obtain⟨y,hy,rfl⟩:=List.mem_map.mp hv
     have hy:=Array.mem_toList_iff.mpr (Array.mem_of_mem_filter (Array.mem_toList_iff.mp hy))
     rw[S.es,vE] at hy
     obtain⟨e',he',rfl⟩:=List.mem_map.mp hy
     exact⟨_,_,rfl,(S.el e' he').1⟩
    ·rw[if_neg (by decide),hev]
     exact tail
theorem z61{h h':Heap}{d:Addr}{o:Obj}{es:Array (Int×Value)}{ep:Nat}{t:SetTable}(ho:h.get? d=some o)(hd:o.data= .set es ep t)(hs:Heap.SameBut d h h'){k:NK}{a:Addr}(q:IsN P w h k a):IsN P w h' k a:=by
 have ne: ∀{c:Addr} {o':Obj} {items:Array Value} {n:Nat},h.get? c=some o'->o'.data= .seq items n->c≠d:=fun{c o' items n} h1 h3 e=>by
  subst e
  obtain rfl:o'=o:=Option.some.inj (h1.symm.trans ho)
  rw[hd] at h3
  cases h3
 obtain⟨o',items,n,h1,h2,h3,h4⟩:=q
 refine⟨o',items,n,(hs.2 a (ne h1 h3)).trans h1,h2,h3,Paired.mapP h4 fun z v q=> ?_⟩
 cases z with
 |inl k=>exact q
 |inr ks=>
  obtain⟨c,rfl,o2,items2,n2,k1,k2,k3,k4⟩:=q
  exact⟨c,rfl,o2,items2,n2,(hs.2 c (ne k1 k3)).trans k1,k2,k3,k4⟩
noncomputable def rE(E:List RowN):List (NK×Addr):=E.map fun e=>e.2.2
theorem z62(F:List RowN):kE F=(rE F).map (·.1):=by simp[kE,rE,Function.comp_def]
noncomputable def SO(P:Program)(w:World)(o:Obj)(rs:List (NK×Addr)):Prop:=
 ∃es ep t F,o.ExactSet/\o.data= .set es ep t/\Se.TI t F/\es.toList=vE F/\(∀e∈F,e.2.1=(z02 P w).hash e.2.2.1)/\(rs.map (·.1)).Nodup/\F.length*5<t.mask*3/\(rE F).Perm rs/\t.led= !w.params.followText "set-order" /\((∀r∈rs,z1N r.1=true)->t.plain=true)
theorem SN.keeps{h h':Heap}{t:SetTable}{es:Array (Int×Value)}{F:List RowN}(S:SN P w h t es F){d:Addr}{o:Obj}{es0:Array (Int×Value)}{ep:Nat}{t0:SetTable}(ho:h.get? d=some o)(hd:o.data= .set es0 ep t0)(hs:Heap.SameBut d h h'):SN P w h' t es F:=
 ⟨S.ti,S.es,fun e he=>⟨z61 ho hd hs (S.el e he).1,(S.el e he).2⟩,S.nd⟩
theorem z4p{h:Heap}{a:Addr}{o:Obj}{es:Array (Int×Value)}{ep:Nat}{t:SetTable}(ho:h.get? a=some o)(hd:o.data= .set es ep t)(es':Array (Int×Value))(t':SetTable):(h.update a (Obj.putSet es' t')).get? a=some {o with data:= .set es' (ep+1) t'}:=by
 have:=Heap.get?_update_self (Obj.putSet es' t') ho (by rw[putSet_of es' t' hd];rfl)
 rw[putSet_of es' t' hd] at this
 exact this
theorem z7m{m fg mv:Nat}{ld pn:Bool}{hs:Array Int}{t:SetTable}{o:Array Nat}(h:laid m fg mv ld pn hs=some (t,o)):t.led=ld/\t.plain=pn:=by
 unfold laid at h
 cases e:layClean m hs with
 |none=>rw[e] at h;cases h
 |some ow=>
  rw[e] at h
  have h:=Option.some.inj h
  rw[Prod.mk.injEq] at h
  rw[<-h.1]
  exact⟨rfl,rfl⟩
theorem z8D{h:Heap}{t:SetTable}{es:Array (Int×Value)}{F:List RowN}(S:SN P w h t es F){m:Nat}(hm:Se.Msk m)(hl:F.length<=m)(fg mv:Nat)(ld pn:Bool):
 ∃t' order F',laid m fg mv ld pn (es.map (·.1))=some (t',order)/\t'.mask=m/\SN P w h t' (order.filterMap (es[·]?)) F'/\F'.length=F.length/\(rE F').Perm (rE F):=by
 obtain⟨t',order,F',h1,h2,h3,h4,h5⟩:=Se.laid_ti hm fg mv ld pn (F.map (·.2)).toArray (by simpa using hl)
 have hes:es=(F.map (·.2)).toArray.map (fun e=>(e.1,Value.ref e.2.2)):=by
  apply Array.toList_inj.mp
  rw[S.es]
  simp[vE]
 have hp:(F'.map (·.2)).Perm (F.map (·.2)):=by simpa using h5
 have hr:(rE F').Perm (rE F):=by
  have:=hp.map (fun e:Int×NK×Addr=>e.2)
  simpa[rE,Function.comp_def] using this
 have hk:(kE F').Perm (kE F):=by
  rw[z62,z62]
  exact hr.map _
 refine⟨t',order,F', ?_,h2,⟨h3, ?_,fun e he=> ?_,hk.nodup_iff.mpr S.nd⟩, ?_,hr⟩
 ·rw[<-h1]
  congr 1
  rw[hes]
  simp[Function.comp_def]
 ·have:(order.filterMap (es[·]?)).toList=((order.filterMap ((F.map (·.2)).toArray[·]?)).toList).map (fun e=>(e.1,Value.ref e.2.2)):=by
   rw[hes]
   simp only[Array.toList_filterMap,List.map_filterMap,Array.getElem?_map]
  rw[this,h4,vE,List.map_map]
  rfl
 ·obtain⟨e0,he0,q⟩:=List.mem_map.mp (hp.mem_iff.mp (List.mem_map.mpr ⟨e,he,rfl⟩))
  rw[<-q]
  exact S.el e0 he0
 ·have:=hp.length_eq
  simpa using this
theorem SN.inv{h:Heap}{t:SetTable}{es:Array (Int×Value)}{F:List RowN}(S:SN P w h t es F){x:NK}{c:Addr}(hx:IsN P w h x c)(hn:x∉kE F){k:Nat}(hk:(Se.pos t.mask ((z02 P w).hash x) k).j∉Se.plc F)(hb: ∀k',k'<k->(Se.pos t.mask ((z02 P w).hash x) k').j∈Se.plc F)(hl:F.length+1<=t.mask):
 ∃F',SN P w h (t.put (Se.pos t.mask ((z02 P w).hash x) k).j).1 (insertAt es (t.put (Se.pos t.mask ((z02 P w).hash x) k).j).2 ((z02 P w).hash x, .ref c)) F'/\F'.length=F.length+1/\(rE F').Perm ((x,c)::rE F):=by
 have T:=Se.put_ti S.ti (x:=(x,c)) hk hb hl
 generalize (t.put (Se.pos t.mask ((z02 P w).hash x) k).j).2=p at T⊢
 have hr:(rE (Se.insE F p ((Se.pos t.mask ((z02 P w).hash x) k).j,(z02 P w).hash x,(x,c)))).Perm ((x,c)::rE F):=by
  unfold rE Se.insE
  rw[List.map_append,List.map_cons]
  refine List.perm_middle.trans ?_
  rw[<-List.map_append,List.take_append_drop]
 have hp:(kE (Se.insE F p ((Se.pos t.mask ((z02 P w).hash x) k).j,(z02 P w).hash x,(x,c)))).Perm (x::kE F):=by
  rw[z62,z62]
  exact hr.map (·.1)
 refine⟨_,⟨T, ?_,fun e he=> ?_,hp.nodup_iff.mpr (List.nodup_cons.mpr ⟨hn,S.nd⟩)⟩,Se.ins_len _ _ _,hr⟩
 ·rw[Se.ins_list,S.es]
  unfold vE Se.insE
  rw[List.map_append,List.map_cons,List.map_take,List.map_drop]
 ·rcases Se.mem_ins.mp he with rfl|he
  ·exact⟨hx,rfl⟩
  ·exact S.el e he
theorem SN.off{h:Heap}{t:SetTable}{es:Array (Int×Value)}{F:List RowN}(S:SN P w h t es F):SN P w h {t with plain:=false} es F:=
 ⟨⟨S.ti.ms,S.ti.nd,S.ti.pl,S.ti.rs,S.ti.lt,S.ti.rc,S.ti.ln⟩,S.es,S.el,S.nd⟩
theorem z63{c:Addr}{es:Array (Int×Value)}:byScan (.ref c) es=false:=rfl
theorem z4V{a:Addr}{o:Obj}{es0:Array (Int×Value)}{ep:Nat}{t0 t:SetTable}{es:Array (Int×Value)}{F:List RowN}{rs:List (NK×Addr)}{n:Nat}{Q:Bool->Shared->Prop}(ho:s.heap.get? a=some o)(hex:o.ExactSet)(hd:o.data= .set es0 ep t0)(S:SN P w s.heap t es F)(hn:F.length=n+1)(hle:n*5<t.mask*3)(h76:n<76)(hrs:(rE F).Perm rs)(hld:t.led= !w.params.followText "set-order")(hpn:(∀r∈rs,z1N r.1=true)->t.plain=true)
 (q: ∀h' o',Heap.SameBut a s.heap h'->h'.get? a=some o'->SO P w o' rs->Q true {s with heap:=h'}):
 wpAny (model P w) A (do
  storeSet a es t
  if(!false&&t.tooFull)=true then do
   setRelay a (SetTable.grown (n+1))
   pure true
  else pure true) Q E s:=by
 have hnd:(rs.map (·.1)).Nodup:=(hrs.map (·.1)).nodup_iff.mp (by rw[<-z62];exact S.nd)
 have hz:es.size<=sizeLine:=by rw[S.size,sizeLine_eq];lia
 refine wpAny_bind (wpAny_storeSet_of ho hd ?_ hz)
 have hg:=z4p ho hd es t
 have hsb:=Heap.SameBut.update s.heap a (Obj.putSet es t)
 have S1:=S.keeps ho hd hsb
 generalize s.heap.update a (Obj.putSet es t)=h1 at hg hsb S1⊢
 have hfill:t.fill=F.length:=by
  show t.place.size+t.dummies.size=_
  rw[S.ti.nd,<-Array.length_toList,S.ti.pl,Se.plc_len]
  rfl
 split
 ·rename_i hf
  have hf:t.mask*3<=F.length*5:=by
   have:t.tooFull=true:=by simpa using hf
   unfold SetTable.tooFull at this
   rw[hfill] at this
   simpa using this
  have hm: ∃m,Se.Msk m/\sizeAbove (grown (n+1)) - 1=m/\sizeAbove (grown (n+1))<=sizeLine/\F.length*5<m*3/\F.length<=m:=by
   rw[sizeLine_eq]
   rcases S.ti.ms with z|z|z
   ·have:n=4:=by lia
    subst this
    exact⟨31, .inr (.inl rfl),by decide,by decide,by lia,by lia⟩
   ·have:n=18:=by lia
    subst this
    exact⟨127, .inr (.inr rfl),by decide,by decide,by lia,by lia⟩
   ·lia
  obtain⟨m,hm1,hm2,hm3,hm4,hm5⟩:=hm
  unfold setRelay
  refine wpAny_bind (wpAny_bind (wpAny_setState_of hg rfl S1.fits ?_))
  dsimp only
  rw[if_neg (Nat.not_lt.mpr hm3)]
  unfold SetTable.relaid
  rw[hm2]
  obtain⟨t',order,F',r1,r2,r3,r4,r5⟩:=z8D S1 hm1 hm5 t.finger (t.movedTo m) t.led t.plain
  rw[r1]
  refine wpAny_bind ?_
  have hsz:(order.filterMap (es[·]?)).size=es.size:=by rw[r3.size,S.size,r4]
  change wpAny _ _ (if((order.filterMap (es[·]?)).size !=es.size)=true then _ else pure (order.filterMap (es[·]?),t')) _ _ _
  rw[hsz,if_neg (by simp)]
  refine wpAny_pure ?_
  dsimp only
  refine wpAny_storeSet_of hg rfl ?_ (by rw[hsz];exact hz)
  refine wpAny_pure ?_
  have hsb2:=Heap.SameBut.update h1 a (Obj.putSet (order.filterMap (es[·]?)) t')
  exact q _ _ (hsb.trans hsb2) (z4p hg rfl _ _) ⟨_,_,_,F',hex,rfl,r3.ti,r3.es,fun e he=>(r3.el e he).2,hnd,by rw[r2,r4];exact hm4,r5.trans hrs,by rw[(z7m r1).1];exact hld,fun z=>by rw[(z7m r1).2];exact hpn z⟩
 ·rename_i hf
  have hf:F.length*5<t.mask*3:=by
   have:t.tooFull=false:=by simpa using hf
   unfold SetTable.tooFull at this
   rw[hfill] at this
   simpa using this
  exact wpAny_pure (q _ _ hsb hg ⟨_,_,_,F,hex,rfl,S1.ti,S1.es,fun e he=>(S1.el e he).2,hnd,hf,hrs,hld,hpn⟩)
theorem zaz{a:Addr}{o:Obj}{rs:List (NK×Addr)}{x:NK}{c:Addr}{Q:Bool->Shared->Prop}(hu:A.units+1<cLine)(ho:s.heap.get? a=some o)(hS:SO P w o rs)(hrs: ∀r∈rs,IsN P w s.heap r.1 r.2)(hx:IsN P w s.heap x c)(h76:rs.length<76)
 (q1:x∈rs.map (·.1)->Q false s) (q2:x∉rs.map (·.1)->∀h' o',Heap.SameBut a s.heap h'->h'.get? a=some o'->SO P w o' ((x,c)::rs)->Q true {s with heap:=h'}):
 wpAny (model P w) A (setAddHashed a (.ref c) ((z02 P w).hash x)) Q E s:=by
 obtain⟨es,ep,t,F,hex,hd,hti,hes,hha,hnd,hle,hpr,hld,hpn⟩:=hS
 have hks:(kE F).Perm (rs.map (·.1)):=by rw[z62];exact hpr.map _
 have S:SN P w s.heap t es F:=⟨hti,hes,fun e he=>⟨hrs e.2.2 (hpr.mem_iff.mp (List.mem_map.mpr ⟨e,he,rfl⟩)),hha e he⟩,hks.nodup_iff.mpr hnd⟩
 have hlen:F.length=rs.length:=by have:=hpr.length_eq;simpa[rE] using this
 obtain⟨ke,k1,k2,k3⟩:=Se.first_hole S.ti.ms ((z02 P w).hash x) S.ti.rs.nodup (by rw[Se.plc_len];exact S.ti.ln)
 have hl:F.length+1<=t.mask:=by rcases S.ti.ms with z|z|z<;>rw[z] at hle⊢ <;>lia
 have hke:ke<100000:=by
  unfold turns at k1
  rcases S.ti.ms with z|z|z<;>rw[z] at k1<;>lia
 unfold setAddHashed setAddHashedIn
 refine wpAny_holding (wpAny_bind (wpAny_setState_of ho hd S.fits ?_))
 dsimp only
 rw[z63,if_neg (by decide)]
 unfold setSearch
 refine wpAny_bind (z7l (F:=F) (ke:=ke) hu ho hd S hx k1 k2 k3 (fun hm=> ?_) (fun hm=> ?_) 100000 0 none rfl (Nat.zero_le _) (by lia) fun e he hxe=> ?_)
 ·exact wpAny_pure (q1 (hks.mem_iff.mp hm))
 ·refine wpAny_bind (wpAny_setState_of ho hd S.fits ?_)
  dsimp only
  obtain⟨F',S',l',p'⟩:=S.inv hx hm k2 k3 hl
  have hmk:(t.put (Se.pos t.mask ((z02 P w).hash x) ke).j).1.mask=t.mask:=rfl
  have hpl:(t.put (Se.pos t.mask ((z02 P w).hash x) ke).j).1.plain=t.plain:=rfl
  have hpd:(t.put (Se.pos t.mask ((z02 P w).hash x) ke).j).1.led=t.led:=rfl
  have hns:=S.size
  generalize t.put (Se.pos t.mask ((z02 P w).hash x) ke).j=tp at S' hmk hpl hpd⊢
  obtain⟨t1,p⟩:=tp
  dsimp only at S' hmk hpl hpd⊢
  have hnk:x∉rs.map (·.1):=fun z=>hm (hks.mem_iff.mpr z)
  have q3:=q2 hnk
  rw[hns]
  split
  ·refine wpAny_bind (z8C hx fun b hb=> ?_)
   cases b with
   |true=>
    rw[if_pos rfl]
    exact z4V ho hex hd S' l' (by rw[hmk];exact hle) (by lia) (p'.trans (hpr.cons _)) (hpd.trans hld) (fun z=>hpl.trans (hpn fun r hr=>z r (List.mem_cons_of_mem _ hr))) q3
   |false=>
    rw[if_neg (by decide)]
    exact z4V ho hex hd S'.off l' (by show _<t1.mask*3;rw[hmk];exact hle) (by lia) (p'.trans (hpr.cons _)) (hpd.trans hld) (fun z=>nomatch hb (z _ List.mem_cons_self)) q3
  ·refine wpAny_bind (wpAny_pure ?_)
   rw[if_pos rfl]
   exact z4V ho hex hd S' l' (by rw[hmk];exact hle) (by lia) (p'.trans (hpr.cons _)) (hpd.trans hld) (fun z=>hpl.trans (hpn fun r hr=>z r (List.mem_cons_of_mem _ hr))) q3
 ·obtain⟨k',z1,z2⟩:=S.ti.rc e he
  rw[(S.el e he).2,hxe] at z1 z2
  refine⟨k',Nat.zero_le _,Classical.byContradiction fun hlt=> ?_,z1⟩
  rcases Nat.lt_or_eq_of_le (Nat.le_of_not_lt hlt) with y|y
  ·exact k2 (z2 ke y)
  ·rw[<-y] at z1
   rw[z1] at k2
   exact k2 (List.mem_map.mpr ⟨e,he,rfl⟩)
theorem z8E{a:Addr}{o:Obj}{rs:List (NK×Addr)}{x:NK}{c:Addr}{Q:Bool->Shared->Prop}(hu:A.units+1<cLine)(ho:s.heap.get? a=some o)(hS:SO P w o rs)(hrs: ∀r∈rs,IsN P w s.heap r.1 r.2)(hx:IsN P w s.heap x c)(h76:rs.length<76)
 (q1:x∈rs.map (·.1)->Q false {s with toks:=s.toks+(z02 P w).draws x}) (q2:x∉rs.map (·.1)->∀h' o',Heap.SameBut a s.heap h'->h'.get? a=some o'->SO P w o' ((x,c)::rs)->Q true {s with heap:=h',toks:=s.toks+(z02 P w).draws x}):
 wpAny (model P w) A (setAdd a (.ref c)) Q E s:=by
 unfold setAdd
 refine wpAny_holding (wpAny_bind ((z02 P w).pyHash hu hx ?_))
 exact zaz (s:={s with toks:=s.toks+(z02 P w).draws x}) hu ho hS hrs hx h76 q1 q2
theorem zaA{Q:Value->Shared->Prop}(q: ∀o,SO P w o []->o.cls= .type "set" ->Q (.ref s.heap.objs.size) {s with heap:=s.heap.push o}):wpAny (model P w) A (newSet (.type "set")) Q E s:=by
 unfold newSet setsByText
 refine wpAny_bind (wpAny_bind (wpAny_askSetting (wpAny_pure ?_)))
 dsimp only
 simp only[newObj]
 refine wpAny_bind (wpAny_alloc (wpAny_pure (q _ ⟨#[],0,_,[],⟨rfl,rfl,rfl⟩,rfl, ?_,rfl,(fun e he=>nomatch he),List.nodup_nil,by show 0*5<7*3;decide, .nil,rfl,fun _=>rfl⟩ rfl)))
 exact⟨.inl rfl,rfl,rfl,List.Pairwise.nil,(fun e he=>nomatch he),(fun e he=>nomatch he),Nat.zero_le _⟩
end
end L2
namespace L2
open PySem PySem.Spec PyProof.Rows
noncomputable def hasR(k:NK)(rs:List (NK×Addr)):Bool:=rs.any fun q=>decide (q.1=k)
theorem z5D{k:NK}{rs:List (NK×Addr)}:hasR k rs=true↔k∈rs.map (·.1):=by
 unfold hasR
 rw[List.any_eq_true,List.mem_map]
 simp only[decide_eq_true_eq]
noncomputable def insR(r:NK×Addr)(rs:List (NK×Addr)):List (NK×Addr):=if hasR r.1 rs=true then rs else r::rs
section
variable{P:Program}{w:World}{A:Around}{E:Value->Shared->Prop}{s:Shared}
theorem z7n{a:Addr}{o:Obj}{rs:List (NK×Addr)}{x:NK}{c:Addr}{Q:Value->Shared->Prop}(hu:A.units+2<cLine)(ho:s.heap.get? a=some o)(hS:SO P w o rs)(hrs: ∀r∈rs,IsN P w s.heap r.1 r.2)(hx:IsN P w s.heap x c)(h76:rs.length<76)
 (q: ∀h' o' t',Heap.SameBut a s.heap h'->h'.get? a=some o'->SO P w o' (insR (x,c) rs)->Q .none {s with heap:=h',toks:=t'}):
 wpAny (model P w) A (call (.builtin "set.add") [.ref a, .ref c]) Q E s:=by
 have hT:s.TypeIs (.ref a) "set" :=by obtain⟨es,ep,t,F,hex,_⟩:=hS;exact⟨o,ho,hex.1⟩
 refine wpAny_call_entry F.slot_set_add hT F.entry_set_add ?_ (F.args_set_add_2 _ _)
 unfold Builtin.«set.add» Builtin.Frozenset.oneOther
 simp only[List.isEmpty_nil,bind_assoc]
 unfold Builtin.Frozenset.addrOf
 refine wpAny_bind (wpAny_pure ?_)
 try dsimp only
 refine wpAny_bind (wpAny_pure ?_)
 try dsimp only
 refine wpAny_bind ?_
 refine z8E (A:=A.in1) (show A.units+1+1<cLine from hu) ho hS hrs hx h76 (fun hm=> ?_) fun hm h' o' sb e so=> ?_
 ·show wpAny _ _ (ret Value.none) _ _ _
  refine wpAny_pure ⟨_,rfl,q s.heap o _ (Heap.SameBut.refl _ _) ho ?_⟩
  unfold insR
  rw[if_pos (z5D.mpr hm)]
  exact hS
 ·show wpAny _ _ (ret Value.none) _ _ _
  refine wpAny_pure ⟨_,rfl,q h' o' _ sb e ?_⟩
  unfold insR
  rw[if_neg fun z=>hm (z5D.mp z)]
  exact so
end
theorem z4q(elt target iter:Expr)(ifs:List Expr)(scope:Scope)(pos:Pos)(it acc:Value)(env:Env):
 compTurn (.SetComp elt [⟨target,iter,ifs,0⟩] scope pos) 0 it acc env=(do
  standAt iter.pos
  match<-pyNext it with
  |none=>pure (.done .next)
  |some v=>
   letOwnedTupleGo target it v
   assign target env v
   let mut ok:=true
   for c in ifs do
    if ok then ok<-isTrue c env (eval c env)
   if ok then
    (do let v<-eval elt env;standAt elt.pos;let _<-call (.builtin "set.add") [acc,v])
   again (.compLoop (.SetComp elt [⟨target,iter,ifs,0⟩] scope pos) 0 it acc env)):=by rfl
theorem z1x{prog:Program}{w:World}{A:Around}{R:Result->Shared->Prop}{s:Shared}{elt target iter ifs rest scope pos it acc env}
 (h0:codeAny (model prog w) A (.compLoop (.SetComp elt (⟨target,iter,ifs,0⟩::rest) scope pos) 0 it acc env) R s)
 (h:wpAny (model prog w) A (pyIter it) (fun it' s'=>codeAny (model prog w) A (.compLoop (.SetComp elt (⟨target,iter,ifs,0⟩::rest) scope pos) 0 it' acc env) R s')
  (notedBy (model prog w) A env fun x s'=>R (.error x) s') s):
 codeAny (model prog w) A (.compStart (.SetComp elt (⟨target,iter,ifs,0⟩::rest) scope pos) 0 it acc env) R s:=by
 refine codeAny_of_tree ?_
 show wpAny _ _ ((compStart (.SetComp elt (⟨target,iter,ifs,0⟩::rest) scope pos) 0 it acc env).onRaise (fun x=>do noteFrame x env;standAt theWindowsPlace)) _ _ s
 refine wpAny_notedAt ?_
 unfold compStart
 show wpAny _ _ (ask>>=_) _ _ s
 refine wpAny_bind (wpAny_askSetting (wpAny_ite ?_))
 split
 ·first|exact wpAny_pure ⟨rfl,h0⟩|exact wpAny_bind (wpAny_pure (wpAny_pure ⟨rfl,h0⟩))
 ·refine wpAny_bind (wpAny_rule ?_)
  show wpAny _ _ (standAt iter.pos>>=_) _ _ s
  refine wpAny_bind (wpAny_standAt (wpAny_bind (thn h fun it' s' h'=> ?_)))
  exact wpAny_pure ⟨rfl,h'⟩
theorem z3B(elt gens scope pos)(env:Env):eval (.SetComp elt gens scope pos) env=
 comprehension (.SetComp elt gens scope pos) scope env (firstIterPos gens pos) (newSet (.type "set")) (firstAsync gens) (firstIter gens env):=rfl
theorem z1L{prog:Program}{w:World}{A:Around}{R:Result->Shared->Prop}{s:Shared}{elt target iter:Expr}{ifs:List Expr}{scope:Scope}{pos:Pos}{it acc:Value}{env:Env}(I:Nat->Shared->Prop)
 (turn: ∀n s,I n s->wpAny (model prog w) A (pyNext it) (fun r s₁=>match r with
  |none=>R (.ok .next) s₁
  |some v=>wpAny (model prog w) A (letOwnedTupleGo target it v) (fun _ s₁=>wpAny (model prog w) A (assign target env v) (fun _ s₂=>wpAny (model prog w) A (z4P ifs env) (fun ok s₃=>
   if ok=true then wpAny (model prog w) A (eval elt env) (fun x s₃=>
   wpAny (model prog w) A (call (.builtin "set.add") [acc,x]) (fun _ s₄=> ∃m,m<n/\I m s₄) (fun _ _=>False) s₃)
   (fun _ _=>False) s₃ else ∃m,m<n/\I m s₃) (fun _ _=>False) s₂) (fun _ _=>False) s₁) (fun _ _=>False) s₁) (fun _ _=>False) s)
 (n:Nat) (h:I n s):
 codeAny (model prog w) A (.compLoop (.SetComp elt [⟨target,iter,ifs,0⟩] scope pos) 0 it acc env) R s:=by
 refine codeAny_loop rfl I (fun n s hI=> ?_) n h
 show wpAny _ _ ((compTurn (.SetComp elt [⟨target,iter,ifs,0⟩] scope pos) 0 it acc env).onRaise (fun x=>do noteFrame x env;theTreesLotGoes x)) _ _ s
 refine wpAny_noted ?_
 rw[z4q]
 refine wpAny_bind (wpAny_standAt (wpAny_bind (wpAny_mono (turn n s hI) (fun r s₁ h₁=> ?_) fun _ _ h'=>h'.elim)))
 cases r with
 |none=>exact wpAny_pure h₁
 |some v=>
  refine wpAny_bind (wpAny_mono h₁ (fun _ s₁ h₁=> ?_) fun _ _ h'=>h'.elim)
  refine wpAny_bind (wpAny_mono h₁ (fun _ s₂ h₂=>wpAny_bind (wpAny_mono h₂ (fun ok s₃ h₃=> ?_) fun _ _ h'=>h'.elim)) fun _ _ h'=>h'.elim)
  cases ok with
  |false=>exact wpAny_pure ⟨rfl,h₃⟩
  |true=>
   exact wpAny_bind (wpAny_bind (wpAny_mono h₃ (fun x s₄ h₄=>wpAny_bind (wpAny_standAt (wpAny_bind (wpAny_mono h₄ (fun _ s₅ h₅=>wpAny_pure (wpAny_pure ⟨rfl,h₅⟩)) fun _ _ h'=>h'.elim)))) fun _ _ h'=>h'.elim))
section
variable{X:Cx}{tg iter elt:Expr}{ifs:List Expr}{pos:Pos}{scope:Scope}{own frees:List Str}{ix:List Nat}{wi:TI}{g:TG}{tt:TT}{te:TE}
noncomputable def zcl(K:W.Frag)(wi:TI)(g:TG)(tt:TT)(te:TE)(k:Nat)(ix:List Nat)(σ:St)(H:Hp)(R:List (NK×Addr)->Hp->Prop):Prop:=wi σ H fun J H1=>(∀a o,K.lookup a=some o->H1 a=none)->
 ∃W:Nat->Nat->List (NK×Addr)->St->Hp->Prop,(∃m,W 0 m [] (z0R k ix σ) H1)/\
  ∀i m rs σ' H',W i m rs σ' H'->((J.stop i H'/\R rs H')\/
   (J.go i H'/\∀x H2,J.yld i H' x H2->g x σ' H2 fun σ2 H3=>tt σ2 H3 fun ok H3=>if ok=true then te σ2 H3 fun y H4=> ∃q c,y= .ref c/\TK H4 q c/\(∀r∈rs,TK H4 r.1 r.2)/\rs.length<76/\∃m',m'<m/\W (i+1) m' (insR (q,c) rs) σ2 H4
    else ∃m',m'<m/\W (i+1) m' rs σ2 H3))
noncomputable def SPs(X:Cx)(pins:List (Addr×Obj))(σ:St)(R:List (NK×Addr)->Hp->Prop)(v:Value)(s:Shared):Prop:=
 ∃D o rs H',v= .ref D/\Inv X pins σ H' s/\s.heap.get? D=some o/\SO X.prog X.w o rs/\FpOk X pins H' D/\R rs H'
theorem zaB{P:Program}{w:World}{o:Obj}{rs:List (NK×Addr)}(h:SO P w o rs)(v:Option Value):o.data≠ .cell v:=by
 obtain⟨es,ep,t,F,_,hd,_⟩:=h
 rw[hd]
 intro z
 cases z
theorem zaC{P:Program}{w:World}{o:Obj}{rs:List (NK×Addr)}(h:SO P w o rs):o.isFreed=false:=by
 obtain⟨es,ep,t,F,_,hd,_⟩:=h
 obtain⟨c,d,dt,sl⟩:=o
 dsimp only at hd
 subst hd
 rfl
theorem zaD(hu:X.A.units+2<cLine)(hc:X.calm=true)(S:z0i X.env.scope scope own frees X.N ix)(hi:PI X tg iter wi)
 (hg: ∀cl C s₀ H₀ fp pn,PG (z04 X scope own frees cl C s₀ H₀ fp pn) tg g) (ht: ∀cl C s₀ H₀ fp pn,PTs (z04 X scope own frees cl C s₀ H₀ fp pn) ifs tt) (he: ∀cl C s₀ H₀ fp pn,PE (z04 X scope own frees cl C s₀ H₀ fp pn) elt te)
 (hs: ∀x,foldedSetIterable iter X.env x=pure x:=by intro _;rfl)
 {pins:List (Addr×Obj)} {s:Shared} {σ:St} {H:Hp} {R:List (NK×Addr)->Hp->Prop} (I:Inv X pins σ H s) (h:zcl X.K wi g tt te own.length ix σ H R):
 wpAny (model X.prog X.w) X.A (eval (.SetComp elt [⟨tg,iter,ifs,0⟩] scope pos) X.env) (SPs X pins σ R) X.xe s:=by
 have hclos:closureFor scope X.env=pure (z0o X.env scope.names []):=z0M fun y hy e=>I.ok.has y.1 (S.fr y hy e)
 rw[z3B]
 refine wpAny_comprehension_free (use:=none) rfl hs hclos S.kind S.names (thn (hi pins s σ H _ I h) fun v s1 h1=>thn h1 fun itv s2 h2=> ?_)
 obtain⟨it,fp,tn,J,H2,e,I2,T,st2,f2,hD⟩:=h2
 subst e
 refine zaA (P:=X.prog) (w:=X.w) fun oD hSO _=> ?_
 have I3:Inv X pins σ H2 {s2 with heap:=s2.heap.push oD}:=I2.kept (t':=s2.toks) fun b o q=>Heap.get?_push_of_some _ q
 obtain⟨W,⟨m0,w0⟩,turn⟩:=hD fun a o e=>(I3.bs a o (I3.ok.mod.kin a o e)).2
 have fpl: ∀b∈fp,b<s2.heap.objs.size:=fun b z=>by
  obtain⟨o,q,_⟩:=T.obj _ _ st2 b z
  exact Heap.lt_size q
 have fD:FpOk X pins H2 s2.heap.objs.size:=I2.fpOk (Nat.le_refl _) I2.fresh
 have hDg:(s2.heap.push oD).get? s2.heap.objs.size=some oD:=Heap.get?_push_size _ (zaC hSO)
 generalize hs3:({s2 with heap:=s2.heap.push oD}:Shared)=s3 at I3
 have hDg:s3.heap.get? s2.heap.objs.size=some oD:=by rw[<-hs3];exact hDg
 have hpush: ∀b o,s2.heap.get? b=some o->s3.heap.get? b=some o:=fun b o q=>by rw[<-hs3];exact Heap.get?_push_of_some _ q
 have hsz3:s2.heap.objs.size<s3.heap.objs.size:=by rw[<-hs3];show _<(s2.heap.push _).objs.size;rw[Heap.size_push];exact Nat.lt_succ_self _
 have st3:tn 0 s3.heap:=T.keep _ _ _ st2 fun b _ o q=>hpush b o q
 generalize hDd:s2.heap.objs.size=D at*
 have nD: ∀b∈fp,b≠D:=fun b z=>Nat.ne_of_lt (fpl b z)
 have f3: ∀b∈D::fp,FpOk X pins H2 b:=fun b z=>by
  rcases List.mem_cons.mp z with rfl|z
  ·exact fD
  ·exact f2 b z
 have goal:wpAny (model X.prog X.w) X.A (newFunctionEnv scope X.env.globals (z0o X.env scope.names []) [] X.env.qual none .none (some X.env)) (fun cenv s₄=>
  codeAny (model X.prog X.w) X.A (.compStart (.SetComp elt [⟨tg,iter,ifs,0⟩] scope pos) 0 (.ref it) (.ref D) {cenv with scope:=relabel scope X.env}) (compPost (model X.prog X.w) X.A X.xe none (SPs X pins σ R) (.ref D) cenv.locals) s₄) X.xe s3:=by
  refine wpAny_newFunctionEnv S.nocell (by intro y hy;simp at hy) (fun h1 hns hsb=> ?_) S.kind
  have hns:h1.Ns s3.heap.objs.size (fun _=>none):=hns
  have keep4: ∀b o,s3.heap.get? b=some o->h1.get? b=some o:=fun b o q=>hsb.extBut b o (Nat.ne_of_lt (Heap.lt_size q)) (Heap.get?_push_of_some _ q)
  have fpl3: ∀b∈D::fp,b<s3.heap.objs.size:=fun b z=>by
   rcases List.mem_cons.mp z with rfl|z
   ·exact hsz3
   ·exact Nat.lt_trans (fpl b z) hsz3
  generalize hs4:({s3 with heap:=h1,toks:=s3.toks+([]:List (Str×Value)).length}:Shared)=s4
  have I4:Inv (z04 X scope own frees (z0o X.env scope.names []) s3.heap.objs.size s3 H2 (D::fp) (X.pn++pins)) [] (z0R own.length ix σ) H2 s4:=
   z1F S I3 f3 fpl3 (by rw[<-hs4]) (by rw[<-hs4]) (fun b o q=>by rw[<-hs4];exact keep4 b o q) (by rw[<-hs4];exact hns)
  have st4:tn 0 s4.heap:=T.keep _ _ _ st3 fun b _ o q=>by rw[<-hs4];exact keep4 b o q
  have hD4:s4.heap.get? D=some oD:=by rw[<-hs4];exact keep4 D oD hDg
  generalize hXc:z04 X scope own frees (z0o X.env scope.names []) s3.heap.objs.size s3 H2 (D::fp) (X.pn++pins)=Y at I4
  have eP:Y.prog=X.prog:=by rw[<-hXc];rfl
  have eW:Y.w=X.w:=by rw[<-hXc];rfl
  have eK:Y.K=X.K:=by rw[<-hXc];rfl
  have eA:Y.A=X.A:=by rw[<-hXc];rfl
  have eC:Y.calm=true:=by rw[<-hXc];exact hc
  have eE:Y.env=compEnvC scope (z0o X.env scope.names []) s3.heap.objs.size X.env:=by rw[<-hXc];rfl
  have eX:Y.xe=fun _ _=>False:=by rw[<-hXc];rfl
  have eF0: ∀{H':Hp} {b:Addr},b∈D::fp->H' b=none->FpOk Y [] H' b:=fun{H' b} hb hn=>by
   rw[<-hXc]
   obtain⟨g1,g2,g3,g4,g5,g6⟩:=f3 b hb
   refine⟨hn,Nat.ne_of_lt (fpl3 b hb),fun q=> ?_, .inl hb,fun x c e=> ?_,fun p hp=> ?_⟩
   ·rcases List.mem_cons.mp (I3.stkSub b q) with r|r
    ·exact g2 r
    ·exact g3 r
   ·rcases z1E _ _ e with q|q
    ·exact nomatch q
    ·exact g5 x c q.1
   ·have hp:p∈(X.pn++pins)++[]:=hp
    rw[List.append_nil] at hp
    exact g6 p hp
  have eF: ∀{H':Hp} {hp:Heap},(∀b∈fp,H' b=none)->∀b∈fp,FpOk Y ([]++z2m [D] hp) H' b:=fun{H' hp} hn b hb=>by
   obtain⟨g1,g2,g3,g4,g5,g6⟩:=eF0 (List.mem_cons_of_mem _ hb) (hn b hb)
   refine⟨g1,g2,g3,g4,g5,fun p hp'=> ?_⟩
   rcases List.mem_append.mp hp' with z|z
   ·exact g6 p (List.mem_append_left _ z)
   ·rw[List.nil_append] at z
    have:=(z3Z z).1
    have:p.1=D:=by simpa using this
    rw[this]
    exact fun z=>nD b hb z.symm
  have gY:PG Y tg g:=by rw[<-hXc];exact hg _ _ _ _ _ _
  have tY:PE Y elt te:=by rw[<-hXc];exact he _ _ _ _ _ _
  have sY:PTs Y ifs tt:=by rw[<-hXc];exact ht _ _ _ _ _ _
  have loop:codeAny (model X.prog X.w) X.A (.compLoop (.SetComp elt [⟨tg,iter,ifs,0⟩] scope pos) 0 (.ref it) (.ref D) (compEnvC scope (z0o X.env scope.names []) s3.heap.objs.size X.env))
   (compPost (model X.prog X.w) X.A X.xe none (SPs X pins σ R) (.ref D) s3.heap.objs.size) s4:=by
   refine z1L (fun n s'=> ∃i rs o σ' H',Inv Y [] σ' H' s'/\tn i s'.heap/\(∀b∈fp,H' b=none)/\H' D=none/\s'.heap.get? D=some o/\SO X.prog X.w o rs/\W i n rs σ' H') ?_ m0 ⟨0,[],oD,_,_,I4,st4,fun b hb=>(f2 b hb).1,fD.1,hD4,hSO,w0⟩
   rintro n s5 ⟨i,rs,o5,σ5,H5,I5,st5,fr5,nD5,gD5,so5,w5⟩
   have alt:=turn i n rs σ5 H5 w5
   have I5':=I5.pinned (fp:=[D]) (fun b hb=>by
    have:b=D:=by simpa using hb
    subst this
    exact eF0 List.mem_cons_self nD5) (fun b hb=>by
    have:b=D:=by simpa using hb
    subst this
    exact⟨o5,gD5,zaB so5⟩)
   have mD:(D,o5)∈z2m [D] s5.heap:=z0b (by simp) gD5
   generalize hpd:z2m [D] s5.heap=pD at I5' mD
   rcases alt with⟨stop,qn⟩|⟨go,step⟩
   ·have d:=T.done Y eP eW eK eC i _ s5 σ5 H5 (fun _ _=>False) I5' (by rw[<-hpd];exact eF fr5) st5 stop
    rw[eA] at d
    refine thn d fun r s6 ⟨hr,I6⟩=> ?_
    subst hr
    have gD6:=(I6.pin (D,o5) (List.mem_append_right _ (List.mem_append_right _ mD))).1
    have I6:=I6.unpinned
    subst hXc
    obtain⟨m6,n6,_⟩:=I6.loc
    refine⟨m6,n6,fun h'' hs''=>⟨D,o5,rs,H5,rfl,z2s I3 f3 (Nat.le_refl _) I6 hs'',(hs''.2 D (Nat.ne_of_lt hsz3)).trans gD6,so5,⟨nD5,fD.2⟩,qn⟩⟩
   ·have d:=T.item Y eP eW eK eC i _ s5 σ5 H5 (fun _ _=>False) I5' (by rw[<-hpd];exact eF fr5) st5 go
    rw[eA] at d
    refine thn d fun r s6 ⟨u,hr,h6⟩=> ?_
    subst hr
    refine thn h6 fun _ s7 ⟨x,H7,I7,r7,y7,st7,fr7⟩=> ?_
    have I7':=I7.pinned (by rw[<-hpd];exact eF fr7) (T.obj _ _ st7)
    have e1:=gY _ s7 σ5 H7 x u _ I7' r7 (step x H7 y7)
    rw[eP,eW,eA,eE,eX] at e1
    refine thn e1 fun _ s8 ⟨σ8,H8,I8,q8⟩=> ?_
    have e1':=sY _ s8 σ8 H8 _ I8 q8
    rw[eP,eW,eA,eE,eX] at e1'
    refine thn e1' fun ok s8 ⟨H8,I8,q8⟩=> ?_
    have back: ∀{σ':St} {H':Hp} {s':Shared},Inv Y (([]++pD)++z2m fp s7.heap) σ' H' s'->Inv Y [] σ' H' s'/\tn (i+1) s'.heap/\(∀b∈fp,H' b=none)/\H' D=none/\s'.heap.get? D=some o5:=fun{σ' H' s'} J'=>by
     have pD':=J'.pin (D,o5) (List.mem_append_right _ (List.mem_append_left _ (List.mem_append_right _ mD)))
     refine⟨J'.unpinned.unpinned,T.keep _ _ _ st7 fun b hb o e=> ?_,fun b hb=> ?_,pD'.2.1,pD'.1⟩
     ·exact(J'.pin (b,o) (List.mem_append_right _ (List.mem_append_right _ (z0b hb e)))).1
     ·obtain⟨o,e,d⟩:=T.obj _ _ st7 b hb
      exact(J'.pin (b,o) (List.mem_append_right _ (List.mem_append_right _ (z0b hb e)))).2.1
    cases ok with
    |false=>
     rw[if_neg Bool.false_ne_true] at q8⊢
     obtain⟨m',hm',w9⟩:=q8
     obtain⟨b1,b2,b3,b4,b5⟩:=back I8
     exact⟨m',hm',i+1,rs,o5,σ8,H8,b1,b2,b3,b4,b5,so5,w9⟩
    |true=>
    rw[if_pos rfl] at q8⊢
    have e2:=tY _ s8 σ8 H8 _ I8 q8
    rw[eP,eW,eA,eE,eX] at e2
    refine thn e2 fun yv s9 ⟨y,H9,I9,r9,q,c,ey,tk,tks,h76,m',hm',w9⟩=> ?_
    subst ey
    cases(show yv=Value.ref c from r9)
    obtain⟨b1,b2,b3,b4,b5⟩:=back I9
    have hok:HOk X.prog X.w H9 s9.heap:=by have:=b1.hok;rw[eP,eW] at this;exact this
    refine z7n hu b5 so5 (fun r hr=>z9h hok (tks r hr)) (z9h hok tk) h76 fun h' o' t' sb gD' so'=> ?_
    obtain⟨k0,k1,k2,k3,k4,k5⟩:=eF0 (H':=H9) List.mem_cons_self b4
    have I10:=b1.turned (h':=h') (t':=t') (fun b o hb e=>(sb.2 b hb).trans e) k0 k1 k3 k4 k5
    exact⟨m',hm',i+1,_,o',σ8,H9,I10,T.keep _ _ _ b2 fun b hb o e=>(sb.2 b (nD b hb)).trans e,b3,b4,gD',so',w9⟩
  exact z1x loop (T.self _ 0 _ _ _ st4 loop)
 exact goal
end
end L2
namespace L2
open PySem PySem.W PySem.Calls PySem.Spec PyProof.Rows PySem.SetTable
theorem z3c:entryFor table "set.__iter__" =some Builtin.«frozenset.__iter__» :=
 entryFor_alias (id':= "frozenset.__iter__") (by kernel_rfl) rfl (by decide+kernel) (by kernel_rfl)
theorem z1y:Slot "set_iterator" "__next__" "set_iterator.__next__" :=
 .of (owner:= "set_iterator") (n:= "__next__") (by rw[typeLookup_type,builtinLookup_eq_fast];kernel_rfl) (by decide+kernel) (by decide+kernel) (by decide+kernel)
  (by first|exact .inl (by decide+kernel)|exact .inr (by decide+kernel)) (by rw[isSubtype_type];kernel_rfl)
theorem z3C:entryFor table "set_iterator.__next__" =some Builtin.«set_iterator.__next__» :=entryFor_of_tree (by kernel_rfl)
theorem z8F:Manifest.owners.lookup (String.ofList ['r', 'o', 't', 'a', 'r', 'e', 't', 'i', '_', 't', 'e', 's'].reverse)=some Manifest.sig_set_iterator:=by kernel_rfl
theorem z4r(a:Value):argsOk "set_iterator.__next__" ⟨[a],[]⟩:=by
 unfold argsOk;rw[signature?_of (id:= "set_iterator.__next__") (n:=['_', '_', 't', 'x', 'e', 'n', '_', '_']) (o:=['r', 'o', 't', 'a', 'r', 'e', 't', 'i', '_', 't', 'e', 's']) (by kernel_rfl) z8F];kernel_rfl
theorem z4W(a:Addr):setDrawn a=(do
 let(es,_,t)<-setState a
 let byText<-setsByText
 return !byText&&(!t.plain&&es.size>1)):=rfl
theorem z64(a:Addr)(slot given epochThen:Nat):setNext a slot given epochThen=(do
 let(es,epoch,t)<-setState a
 if<-setsByText then
  if epoch !=epochThen then unsupported "set_iterator.__next__:elements-changed"
  return ((<-setWalk a)[given]?).map fun e=>(e.2,slot)
 if(!t.plain&&es.size>1) then unsupported "set_iterator.__next__:the-table-is-plain-no-more"
 let _<-(if !t.led&& !es.isEmpty then unsupported "set:maker-not-led" else pure PUnit.unit:Sem Unit)
 let i:=SetTable.below t.place slot
 return match es[i]?,t.place[i]? with
  |some (_,x),some j=>some (x,j+1)
  |_,_=>none):=rfl
section
variable{P:Program}{w:World}{A:Around}{E:Value->Shared->Prop}{s:Shared}
structure SW(w:World)(h:Heap)(D:Addr)(es:Array (Int×Value))(ep:Nat)(t:SetTable):Prop where
 at': ∃o,h.get? D=some o/\o.cls= .type "set" /\o.data= .set es ep t
 fit:t.fits es.size=true
 led:t.led= !w.params.followText "set-order"
 pln:t.plain=true
 ris:Se.Ris t.place.toList
noncomputable def z4s(w:World):Bool:=w.params.followText "set-order"
noncomputable def z1t(w:World)(D ep:Nat)(es:Array (Int×Value)):List Value:=((if z4s w=true then pickOrder (w.params.setOrder D ep) es else es).toList).map (·.2)
noncomputable def slP(t:SetTable):Nat->Nat
 |0=>0
 |k+1=>t.place.getD k 0+1
noncomputable def slF(w:World)(t:SetTable):Nat->Nat
 |0=>0
 |k+1=>if z4s w=true then 0 else t.place.getD k 0+1
noncomputable abbrev z8G(h:Heap)(it D:Addr)(sl k n ep:Nat):Prop:=
 h.get? it=some {cls:= .type "set_iterator",dict:=none,data:= .fields #[.int sl 0, .int k 0, .ref D, .int n 0, .int ep 0],slots:= #[]}
theorem z1z{Q:Bool->Shared->Prop}(h:Q (z4s w) s):wpAny (model P w) A setsByText Q E s:=by
 unfold setsByText
 exact wpAny_bind (wpAny_askSetting (wpAny_pure h))
theorem SW.place{h:Heap}{D:Addr}{es:Array (Int×Value)}{ep:Nat}{t:SetTable}(S:SW w h D es ep t):t.place.size=es.size:=by
 have:=S.fit
 simp only[SetTable.fits,Bool.and_eq_true,beq_iff_eq] at this
 exact this.1
theorem z8H{t:SetTable}(hr:Se.Ris t.place.toList){k:Nat}(hk:k<=t.place.size):below t.place (slP t k)=k:=by
 have hc:=Se.below_cut (xs:=t.place) (j:=slP t k) hr
 generalize below t.place (slP t k)=r at hc
 have hl:t.place.toList.length=t.place.size:=Array.length_toList
 rcases Nat.lt_trichotomy r k with q|q|q
 ·have h1:=hc.hi r (by lia) (Nat.le_refl _)
  cases k with
  |zero=>lia
  |succ k=>
   simp only[slP] at h1
   rw[Se.getD_at (by lia)] at h1
   rcases Nat.lt_or_eq_of_le (show r<=k by lia) with y|y
   ·have:=hr.at y (by lia);lia
   ·subst y;lia
 ·exact q
 ·have hle:=hc.le
  have h1:=hc.lo k (by lia) q
  cases k with
  |zero=>simp only[slP] at h1;lia
  |succ k=>
   simp only[slP] at h1
   rw[Se.getD_at (by lia)] at h1
   have:=hr.at (show k<k+1 by lia) (by lia)
   lia
theorem z3d{D:Addr}{es:Array (Int×Value)}{ep:Nat}{t:SetTable}{Q:Array (Int×Value)->Shared->Prop}(hb:z4s w=true)(S:SW w s.heap D es ep t)(h:Q (pickOrder (w.params.setOrder D ep) es) s):wpAny (model P w) A (setWalk D) Q E s:=by
 obtain⟨o,ho,_,hd⟩:=S.at'
 unfold setWalk
 refine wpAny_bind (wpAny_setState_of ho hd S.fit ?_)
 dsimp only
 refine wpAny_bind (z1z ?_)
 rw[hb,if_pos rfl]
 refine wpAny_bind (wpAny_askSetting (wpAny_pure ?_))
 exact h
theorem z8I{D:Addr}{es:Array (Int×Value)}{ep k:Nat}{t:SetTable}{Q:Option (Value×Nat)->Shared->Prop}(S:SW w s.heap D es ep t)(hk:k<=es.size)
 (hs: ∀x,(z1t w D ep es)[k]? =some x->Q (some (x,slF w t (k+1))) s) (hn:(z1t w D ep es)[k]? =none->Q none s):wpAny (model P w) A (setNext D (slF w t k) k ep) Q E s:=by
 obtain⟨o,ho,_,hd⟩:=S.at'
 rw[z64]
 refine wpAny_bind (wpAny_setState_of ho hd S.fit ?_)
 dsimp only
 refine wpAny_bind (z1z ?_)
 unfold z1t at hs hn
 cases hb:z4s w with
 |true=>
  rw[if_pos rfl]
  rw[hb] at hs hn
  simp only[if_true] at hs hn
  rw[if_neg (by simp)]
  refine wpAny_bind (z3d hb S ?_)
  have e0:slF w t k=0:=by cases k<;>simp[slF,hb]
  have e1:slF w t (k+1)=0:=by simp[slF,hb]
  rw[e0]
  rw[e1] at hs
  rw[List.getElem?_map,Array.getElem?_toList] at hs hn
  cases e:(pickOrder (w.params.setOrder D ep) es)[k]? with
  |none=>rw[e] at hn;exact wpAny_pure (hn rfl)
  |some x=>rw[e] at hs;exact wpAny_pure (hs _ rfl)
 |false=>
  rw[if_neg (by decide)]
  rw[hb] at hs hn
  simp only[Bool.false_eq_true,if_false] at hs hn
  rw[S.pln]
  simp only[Bool.not_true,Bool.false_and,Bool.false_eq_true,if_false]
  have hl:=S.led
  unfold z4s at hb
  rw[hb] at hl
  rw[hl]
  simp only[Bool.not_false,Bool.not_true,Bool.false_and,Bool.false_eq_true,if_false]
  refine wpAny_bind (wpAny_pure ?_)
  have es0:slF w t k=slP t k:=by cases k<;>simp[slF,slP,z4s,hb]
  have es1:slF w t (k+1)=t.place.getD k 0+1:=by simp[slF,z4s,hb]
  have hp:=S.place
  rw[es0,z8H S.ris (by lia)]
  rw[es1] at hs
  rw[List.getElem?_map,Array.getElem?_toList] at hs hn
  refine wpAny_pure ?_
  by_cases hlt:k<es.size
  ·have e1:es[k]? =some es[k]:=by simp[hlt]
   have e2:t.place[k]? =some (t.place.getD k 0):=by
    have:k<t.place.size:=by lia
    simp[this]
   rw[e1,e2]
   rw[e1] at hs
   exact hs _ rfl
  ·have e1:es[k]? =none:=by simp;lia
   rw[e1]
   rw[e1] at hn
   exact hn rfl
end
section
variable{P:Program}{w:World}{A:Around}{E:Value->Shared->Prop}{s:Shared}{D:Addr}{es:Array (Int×Value)}{ep:Nat}{t:SetTable}
theorem SW.ty(S:SW w s.heap D es ep t):s.TypeIs (.ref D) "set" :=by
 obtain⟨o,ho,hc,_⟩:=S.at'
 exact⟨o,ho,hc⟩
theorem SW.keep{h h':Heap}(S:SW w h D es ep t)(k: ∀o,h.get? D=some o->h'.get? D=some o):SW w h' D es ep t:=by
 obtain⟨o,ho,h1,h2⟩:=S.at'
 exact⟨⟨o,k o ho,h1,h2⟩,S.fit,S.led,S.pln,S.ris⟩
theorem z65{Q:Value->Shared->Prop}(S:SW w s.heap D es ep t)
 (hQ:Q (.ref s.heap.objs.size) {s with heap:=s.heap.push {cls:= .type "set_iterator",data:= .fields #[.int 0 0, .int 0 0, .ref D, .int es.size 0, .int ep 0]}}):wpAny (model P w) A (pyIter (.ref D)) Q E s:=by
 obtain⟨o,ho,hc,hd⟩:=S.at'
 refine wpAny_pyIter_slot S.ty F.slot_set_iter (wpAny_call_entry F.slot_set_iter S.ty z3c ?_ (F.args_set_iter_1 _))
 unfold Builtin.«frozenset.__iter__»
 refine wpAny_bind (wpAny_pure ?_)
 refine wpAny_bind ?_
 unfold Builtin.Frozenset.sizeOf
 refine wpAny_bind (wpAny_setEntries_of ho hd S.fit (wpAny_pure ?_))
 rw[z4W]
 refine wpAny_bind (wpAny_bind (wpAny_setState_of ho hd S.fit ?_))
 dsimp only
 refine wpAny_bind (z1z (wpAny_pure ?_))
 rw[S.pln]
 simp only[Bool.not_true,Bool.false_and,Bool.and_false,Bool.false_eq_true,if_false]
 refine wpAny_bind (wpAny_pure ?_)
 refine wpAny_bind (wpAny_setEpoch_of ho hd S.fit ?_)
 refine wpAny_bind ?_
 refine wpAny_newObj_type (wpAny_pure ⟨_,rfl, "set_iterator",_,⟨_,Heap.get?_push_size _ rfl,rfl⟩,z1y.lookup, ?_⟩) (by simp[sizeOk,sizeLine_eq])
 exact hQ
theorem z7o{it:Addr}{k:Nat}{Q:Option Value->Shared->Prop}(S:SW w s.heap D es ep t)(hit:z8G s.heap it D (slF w t k) k es.size ep)(hD:D≠it)(hk:k<=es.size)(hh:A.handled=none)
 (hs: ∀x h',(z1t w D ep es)[k]? =some x->z8G h' it D (slF w t (k+1)) (k+1) es.size ep->Heap.SameBut it s.heap h'->Q (some x) {s with heap:=h'})
 (hn:(z1t w D ep es)[k]? =none->∀h',Heap.ExtBut it s.heap h'->Q none {s with heap:=h'}):wpAny (model P w) A (pyNext (.ref it)) Q E s:=by
 obtain⟨o,ho,hc,hd⟩:=S.at'
 have hT:s.TypeIs (.ref it) "set_iterator" :=⟨_,hit,rfl⟩
 unfold pyNext
 refine wpAny_bind (wpAny_attempt (wpAny_callSpecial?_slot (name:=Str.ofString "__next__") hT z1y
  (wpAny_call_entry z1y hT z3C ?_ (z4r _))))
 unfold Builtin.«set_iterator.__next__»
 dsimp only
 show wpAny _ _ (fieldsOf (.ref it)>>=_) _ _ _
 refine wpAny_bind (wpAny_fieldsOf hit rfl ?_)
 dsimp only
 refine wpAny_bind (wpAny_setEntries_of ho hd S.fit ?_)
 rw[if_neg (by simp)]
 refine wpAny_bind ?_
 show wpAny _ _ (setNext D (slF w t k) k ep) _ _ _
 refine z8I S hk (fun x hx=> ?_) fun hx=> ?_
 ·dsimp only
  refine wpAny_bind (wpAny_setField_rec hit (by simp) fun h1 he1 hs1=> ?_)
  refine wpAny_bind (wpAny_setField_rec he1 (by simp) fun h2 he2 hs2=> ?_)
  refine wpAny_pure ⟨_,rfl,wpAny_pure (hs x h2 hx ?_ (hs1.trans hs2))⟩
  have e:((k+1:Nat):Int)=(k:Int)+1:=by lia
  unfold z8G;rw[e];simpa[rawInt] using he2
 ·dsimp only
  refine wpAny_bind (wpAny_setField hit rfl (by simp) ?_)
  show wpAny _ _ (newExc (.type "StopIteration") []>>=_) _ _ _
  refine wpAny_bind ?_
  simp only[newExc,newTuple]
  refine wpAny_bind (wpAny_newObj_type ?_ (by size_fits))
  refine wpAny_bind (m:=firstArgMember _ _) (wpAny_of_eq (a:=Value.none) (by first|rfl|(simp only[firstArgMember];rfl)) ?_)
  refine wpAny_newObj_type ?_ (by size_fits)
  simp only[raiseNew]
  refine wpAny_bind (wpAny_handled ?_)
  rw[show A.in1.handled=none from hh]
  refine wpAny_bind (wpAny_pure (wpAny_throw ?_))
  refine wpAny_bind (wpAny_isInstance (T:= "StopIteration") (b:=true) ⟨_,Heap.get?_push_size _ rfl,rfl⟩ isSubtype_stop ?_)
  exact wpAny_pure (hn hx _ (((Heap.SameBut.update ..).extBut.push _).push _))
theorem z8J{S I D:Addr}(hh:A.handled=none)(hSI:S<I)(hSd:D≠S)(hId:D≠I)(hn:es.size<=sizeLine)(hw:(z1t w D ep es).length=es.size)(res:Value){R:Result->Shared->Prop}{h₁:Heap}
 (hR: ∀h' tk acc c,(∀b o,b≠S->b≠I->h₁.get? b=some o->h'.get? b=some o)->h'.get? S=some {cls:= .type "list",dict:=none,data:= .seq acc c,slots:= #[]}->
  acc.toList=z1t w D ep es->R (.ok (.ret res)) {s with heap:=h',toks:=tk}):
 ∀(k i:Nat) (h:Heap) (tk c:Nat) (acc:Array Value),es.size -i=k->i<=es.size->z8G h I D (slF w t i) i es.size ep->SW w h D es ep t->(∀b o,b≠S->b≠I->h₁.get? b=some o->h.get? b=some o)->
  h.get? S=some {cls:= .type "list",dict:=none,data:= .seq acc c,slots:= #[]}->acc.toList=(z1t w D ep es).take i->
  codeAny (model P w) A (.builtin "list.extend.loop" ⟨[.ref S, .ref I,res],[]⟩) R {s with heap:=h,toks:=tk}:=by
 have hne:S≠I:=Nat.ne_of_lt hSI
 intro k
 induction k with
 |zero=>
  intro i h tk c acc hk hi hit hD hkeep hS hacc
  have hin:i=es.size:=by lia
  refine codeAny_builtin PySem.F.entry_extend_loop ?_
  rw[Around.under_plainId PySem.F.plain_extend_loop _]
  show wpAny _ A.in1 (pyNext (.ref I)>>=_) _ _ _
  refine wpAny_bind (z7o (s:={s with heap:=h,toks:=tk}) (A:=A.in1) hD hit hId hi hh (fun x h' hx=> ?_) fun hx h' he=> ?_)
  ·exfalso
   have:=(List.getElem?_eq_some_iff.mp hx).1
   lia
  ·refine wpAny_pure (hR h' tk acc c (fun b o h1 h2 e=>he b o h2 (hkeep b o h1 h2 e)) (he S _ hne hS) ?_)
   rw[hacc,List.take_of_length_le (by lia)]
 |succ k ih=>
  intro i h tk c acc hk hi hit hD hkeep hS hacc
  have hlt:i<es.size:=by lia
  have hsz:acc.size=i:=by rw[<-Array.length_toList,hacc,List.length_take];lia
  refine codeAny_builtin PySem.F.entry_extend_loop ?_
  rw[Around.under_plainId PySem.F.plain_extend_loop _]
  show wpAny _ A.in1 (pyNext (.ref I)>>=_) _ _ _
  refine wpAny_bind (z7o (s:={s with heap:=h,toks:=tk}) (A:=A.in1) hD hit hId hi hh (fun x h' hx hit' hsb=> ?_) fun hx h' he=> ?_)
  ·dsimp only at hit' hsb⊢
   have hS':h'.get? S=some {cls:= .type "list",dict:=none,data:= .seq acc c,slots:= #[]}:=(hsb.2 S hne).trans hS
   have up: ∀b o,b≠S->h'.get? b=some o->(h'.update S (Obj.mapSeq (·.push x))).get? b=some o:=fun b o hb e=>(Heap.get?_update_other _ _ (Ne.symm hb)).trans e
   show wpAny _ A.in1 (updateSeq S (·.push x)>>=_) _ _ _
   refine wpAny_bind ?_
   refine wpAny_updateSeq hS' rfl (wpAny_pure ⟨plainId_quiet PySem.F.plain_extend_loop _,ih (i+1) _ tk _ (acc.push x) (by lia) hlt (up I _ (Ne.symm hne) hit') (hD.keep fun o e=>up D o hSd ((hsb.2 D hId).trans e))
    (fun b o h1 h2 e=>up b o h1 ((hsb.2 b h2).trans (hkeep b o h1 h2 e))) (Heap.get?_update_self _ hS' rfl) ?_⟩) (by rw[hsz];lia) (by show(acc.push x).size<=sizeLine+1;rw[Array.size_push,hsz];lia)
   rw[Array.toList_push,hacc,List.take_add_one,hx]
   rfl
  ·exfalso
   have:=List.getElem?_eq_none_iff.mp hx
   lia
theorem z8K(S:SW w s.heap D es ep t){Q:Bool->Shared->Prop}(h:Q false s):wpAny (model P w) A (Builtin.List.listLengthHint (.ref D)) Q E s:=by
 unfold Builtin.List.listLengthHint
 refine wpAny_bind (wpAny_specialOf S.ty PySem.F.slot_set_len.lookup ?_)
 generalize hid:("set.__len__" :String)=id0
 wp_delta
 rw[show splitId id0=some ("set", "__len__") from by subst hid;decide+kernel]
 subst hid
 refine wpAny_bind (wpAny_isInstance (T:= "set") (b:=true) S.ty (by rw[isSubtype_type];kernel_rfl) ?_)
 refine wpAny_ite_split (fun hab=>absurd hab (by decide)) (fun _=> ?_)
 refine wpAny_ite_split (fun _=> ?_) (fun hab=>absurd (by decide+kernel) hab)
 refine wpAny_bind (wpAny_typeOf S.ty ?_)
 exact wpAny_pure h
theorem z66{R:Result->Shared->Prop}(hh:A.handled=none)(S:SW w s.heap D es ep t)(hw:(z1t w D ep es).length=es.size)(L:Addr)(hLd:D≠L)(res:Value)(c₀:Nat)(hS:s.heap.get? L=some {cls:= .type "list",data:= .seq #[] c₀})
 (hR: ∀h' tk acc c,(∀b o,b≠L->s.heap.get? b=some o->h'.get? b=some o)->h'.get? L=some {cls:= .type "list",dict:=none,data:= .seq acc c,slots:= #[]}->acc.toList=z1t w D ep es->R (.ok (.ret res)) {s with heap:=h',toks:=tk}) (hn:es.size<=sizeLine):
 wpAny (model P w) A.in1 (Builtin.List.listExtendWith (.ref L) (.ref D) res)
  (fun fin s'=>match fin with| .done f=>R (.ok f) s'| .again c'=>c'.quiet=true/\codeAny (model P w) A c' R s') (fun e s'=>R (.error e) s') s:=by
 have hLI:L<s.heap.objs.size:=Heap.lt_size hS
 obtain⟨o,ho,hc,hd⟩:=S.at'
 have hdI:D<s.heap.objs.size:=Heap.lt_size ho
 have key: ∀(h:Heap) (c₁ tk:Nat),(∀b o,b≠L->(s.heap.push {cls:= .type "set_iterator",data:= .fields #[.int 0 0, .int 0 0, .ref D, .int es.size 0, .int ep 0]}).get? b=some o->h.get? b=some o)->
  h.get? L=some {cls:= .type "list",data:= .seq #[] c₁}->codeAny (model P w) A (.builtin "list.extend.loop" ⟨[.ref L, .ref s.heap.objs.size,res],[]⟩) R {s with heap:=h,toks:=tk}:=by
  intro h c₁ tk hk hS₁
  have hI:=hk s.heap.objs.size _ (Nat.ne_of_gt hLI) (Heap.get?_push_size _ rfl)
  refine z8J (s:=s) (h₁:=s.heap) hh hLI hLd (Nat.ne_of_lt hdI) hn hw res (fun h' tk' acc c hk' hS' hacc=>hR h' tk' acc c (fun b o hb e=>hk' b o hb (Nat.ne_of_lt (Heap.lt_size e)) e) hS' hacc)
   es.size 0 h tk c₁ #[] (Nat.sub_zero _) (Nat.zero_le _) hI (S.keep fun o e=>hk D o hLd (Heap.get?_push_of_some _ e)) (fun b o hb _ e=>hk b o hb (Heap.get?_push_of_some _ e)) hS₁ rfl
 unfold Builtin.List.listExtendWith
 refine wpAny_bind (wpAny_typeOf (T:= "set") S.ty ?_)
 have h1:Builtin.List.listSameRef (.ref L) (.ref D)=false:=by simp[Builtin.List.listSameRef,Ne.symm hLd]
 have h2:(Value.type "set" ==Value.type "list")=false:=by decide
 have h3:(Value.type "set" ==Value.type "tuple")=false:=by decide
 simp only[h1,h2,h3,Bool.or_false,Bool.false_eq_true,if_false]
 refine wpAny_bind (z65 S ?_)
 have hS₁:=Heap.get?_push_of_some {cls:= .type "set_iterator",data:= .fields #[.int 0 0, .int 0 0, .ref D, .int es.size 0, .int ep 0]} hS
 refine wpAny_bind (wpAny_holding (z8K (S.keep fun o e=>Heap.get?_push_of_some _ e) ?_))
 refine wpAny_ite_split (fun _=> ?_) (fun _=>wpAny_pure ⟨plainId_quiet PySem.F.plain_extend_loop _,key _ c₀ _ (fun b o _ e=>e) hS₁⟩)
 refine wpAny_bind (wpAny_rule ?_)
 refine wpAny_bind ?_
 show wpAny _ _ (updateSeq L (·.push .none)>>=fun _=>updateSeq L (·.pop)) _ _ _
 refine wpAny_bind (wpAny_updateSeq hS₁ rfl ?_)
 have hS₂:=Heap.get?_update_self (Obj.mapSeq (·.push Value.none)) hS₁ rfl
 refine wpAny_updateSeq (hz:=by seq_fits) hS₂ rfl ?_
 have hS₃:=Heap.get?_update_self (Obj.mapSeq (·.pop)) hS₂ rfl
 refine wpAny_pure ⟨plainId_quiet PySem.F.plain_extend_loop _,key _ _ _ (fun b o hb e=> ?_) hS₃⟩
 exact(Heap.get?_update_other _ _ (Ne.symm hb)).trans ((Heap.get?_update_other _ _ (Ne.symm hb)).trans e)
theorem z4X{R:List Value->Shared->Prop}(hh:A.handled=none)(S:SW w s.heap D es ep t)(hw:(z1t w D ep es).length=es.size)(hn:es.size<=sizeLine)
 (h: ∀(h':Heap) (tk:Nat),(∀b o,s.heap.get? b=some o->h'.get? b=some o)->s.heap.objs.size<h'.objs.size->R (z1t w D ep es) {s with heap:=h',toks:=tk}):
 wpAny (model P w) A (collect (.ref D)) R E s:=by
 obtain⟨o,ho,hc,hd⟩:=S.at'
 have hD:D<s.heap.objs.size:=Heap.lt_size ho
 unfold collect
 refine wpAny_bind (wpAny_runValue (codeAny_builtin entry_proto_collect' ?_))
 rw[Around.under_plainId PySem.F.plain_proto_collect _]
 show wpAny _ A.in1 (newList []>>=fun l=>again (.builtin "list.__iadd__" ⟨[l, .ref D],[]⟩)) _ _ s
 refine wpAny_bind (wpAny_newObj_type ?_)
 refine wpAny_pure ⟨plainId_quiet PySem.F.plain_list_iadd _,codeAny_builtin entry_list_iadd' ?_⟩
 rw[Around.under_plainId PySem.F.plain_list_iadd _]
 have hS₁:(s.heap.push {cls:= .type "list",data:= .seq ([]:List Value).toArray}).get? s.heap.objs.size=some {cls:= .type "list",data:= .seq #[]}:=Heap.get?_push_size _ rfl
 show wpAny _ A.in1 (Builtin.List.listExtendWith (.ref s.heap.objs.size) (.ref D) (.ref s.heap.objs.size)) _ _ _
 have key:=z66 (P:=P) (w:=w) (A:=A) (s:={s with heap:=s.heap.push {cls:= .type "list",data:= .seq ([]:List Value).toArray}}) (D:=D) (es:=es) (ep:=ep) (t:=t)
  (R:=fun(q:Result) (s':Shared)=> ∃(h':Heap) (tk:Nat) (acc':Array Value) (c':Nat),q= .ok (.ret (.ref s.heap.objs.size))/\s'={s with heap:=h',toks:=tk}/\
   (∀b o,s.heap.get? b=some o->h'.get? b=some o)/\h'.get? s.heap.objs.size=some {cls:= .type "list",dict:=none,data:= .seq acc' c',slots:= #[]}/\acc'.toList=z1t w D ep es)
  hh (S.keep fun o e=>Heap.get?_push_of_some _ e) hw s.heap.objs.size (Nat.ne_of_lt hD) (.ref s.heap.objs.size) 0 hS₁
  (fun h' tk acc' c' hk hS' hacc=>⟨h',tk,acc',c',rfl,rfl,fun b o e=>hk b o (Nat.ne_of_lt (Heap.lt_size e)) (Heap.get?_push_of_some _ e),hS',hacc⟩) hn
 refine wpAny_mono key (fun fin s' x=> ?_) fun e s' x=> ?_
 ·cases fin with
  |done f=>
   obtain⟨h',tk,acc',c',e,rfl,hk,hS',hacc⟩:=x
   cases e
   show wpAny _ A (load s.heap.objs.size>>=_) _ _ _
   refine wpAny_bind (wpAny_load hS' ?_)
   refine wpAny_pure ?_
   show R acc'.toList _
   rw[hacc]
   exact h h' tk hk (Heap.lt_size hS')
  |again c₁=>
   refine⟨x.1,codeAny_mono x.2 fun q s₂ y=> ?_⟩
   obtain⟨h',tk,acc',c',rfl,rfl,hk,hS',hacc⟩:=y
   show wpAny _ A (load s.heap.objs.size>>=_) _ _ _
   refine wpAny_bind (wpAny_load hS' ?_)
   refine wpAny_pure ?_
   show R acc'.toList _
   rw[hacc]
   exact h h' tk hk (Heap.lt_size hS')
 ·obtain⟨_,_,_,_,e',_⟩:=x
  cases e'
theorem z7p{α:Type}{next:Nat->Nat}: ∀(f k:Nat) (left:List α) (out:Array α),left.length<=f->(pickOrder.go next f k left out).toList.Perm (out.toList++left)
 |0,k,left,out,h=>by
  have:left=[]:=List.length_eq_zero_iff.mp (by lia)
  subst this
  simp[pickOrder.go]
 |f+1,k,left,out,h=>by
  unfold pickOrder.go
  by_cases hl:left=[]
  ·subst hl;simp
  ·have hp:0<left.length:=List.length_pos_iff.mpr hl
   have hm:next k %left.length<left.length:=Nat.mod_lt _ hp
   rw[List.getElem?_eq_getElem hm]
   dsimp only
   refine(z7p f (k+1) _ _ (by rw[List.length_eraseIdx];split<;>lia)).trans ?_
   rw[Array.toList_push,List.append_assoc,List.singleton_append]
   refine List.Perm.append_left _ ?_
   rw[List.eraseIdx_eq_take_drop_succ]
   refine List.perm_middle.symm.trans ?_
   rw[List.getElem_cons_drop,List.take_append_drop]
theorem z7q{D ep:Nat}{es:Array (Int×Value)}:(z1t w D ep es).Perm (es.toList.map (·.2)):=by
 unfold z1t
 refine List.Perm.map _ ?_
 split
 ·unfold pickOrder
  refine(z7p _ _ _ _ (by simp)).trans (by simp)
 ·exact .refl _
end
end L2
namespace So
open PySem PySem.W PyProof.Rows PySem.SeqAt
section
variable{prog:Program}{w:World}{A:Around}{E:Value->Shared->Prop}{s:Shared}
theorem call_sortedW{D ep:Nat}{es:Array (Int×Value)}{t:SetTable}{vs:List Value}{cmp:Nat->Nat->Bool}{Q:Value->Shared->Prop}(hh:A.handled=none)(S:L2.SW w s.heap D es ep t)(hw:L2.z1t w D ep es=vs)(hn:vs.length=es.size)(h64:vs.length<64)
 (hk: ∀h' tk,(∀b o,s.heap.get? b=some o->h'.get? b=some o)->2<=vs.length->∃κ,(∀(Q:SortKind->Shared->Prop) E,Q κ {s with heap:=h',toks:=tk}->wpAny (model prog w) A.in1.in1 (keyKind' vs.toArray) Q E {s with heap:=h',toks:=tk})/\
  ∀i j (hi:i<vs.length) (hj:j<vs.length) (C:Bool->Shared->Prop),C (cmp i j) {s with heap:=h',toks:=tk}->wpAny (model prog w) A.in1.in1 (keyLt' κ vs[i] vs[j]) C (fun _ _=>False) {s with heap:=h',toks:=tk})
 (h: ∀h' tk D' e1,(∀b o,s.heap.get? b=some o->h'.get? b=some o)->s.heap.objs.size<=D'->h'.get? D'=some (seqObj "list" ((permS vs.length cmp).map fun i=>vs.getD i Value.none).toArray e1)->Q (.ref D') {s with heap:=h',toks:=tk}):
 wpAny (model prog w) A (call (.builtin "sorted") [.ref D]) Q E s:=by
 have hz:vs.length<=sizeLine:=by have:sizeLine=16777216:=rfl;lia
 refine Calls.call_function_entry kind_sorted plain_sorted entry_sorted (args_sorted1 _) ?_
 unfold Builtin.«sorted»
 refine wpAny_bind (m:=checkCount "sorted" 1 1 _) (wpAny_pure ?_)
 refine wpAny_bind (L2.z4X (A:=A.in1) hh S (by rw[hw];exact hn) (by lia) fun h0 tk k0 lt0=> ?_)
 rw[hw]
 refine wpAny_bind (wpAny_newList ?_ hz)
 have hoL:(h0.push (seqObj "list" vs.toArray 0)).get? h0.objs.size=some (seqObj "list" vs.toArray 0):=Heap.get?_push_size _ rfl
 have keep: ∀b o,h0.get? b=some o->(h0.push (seqObj "list" vs.toArray 0)).get? b=some o:=fun b o q=>Heap.get?_push_of_some _ q
 have ne: ∀{b o},h0.get? b=some o->b≠h0.objs.size:=fun q=>Nat.ne_of_lt (Heap.lt_size q)
 have le:s.heap.objs.size<=h0.objs.size:=Nat.le_of_lt lt0
 refine wpAny_bind (wpAny_holding (wpAny_call_entry slot_list_sort ⟨_,hoL,rfl⟩ entry_list_sort ?body (args_list_sort _)))
 case body=>
  refine z2D (s:={s with heap:=h0.push (seqObj "list" vs.toArray 0),toks:=tk}) (cmp:=cmp) hoL h64 (fun h' kp h2=> ?_) fun h' e1 kp hD=> ?_
  ·exact hk h' tk (fun b o q=>kp b o (ne (k0 b o q)) (keep b o (k0 b o q))) h2
  ·exact⟨_,rfl,wpAny_pure ⟨_,rfl,h h' tk _ e1 (fun b o q=>kp b o (ne (k0 b o q)) (keep b o (k0 b o q))) le hD⟩⟩
end
end So
namespace L2
open PySem PySem.Spec PyProof.Rows
section
variable{X:Cx}{tg iter elt:Expr}{ifs:List Expr}{pos:Pos}{scope:Scope}{own frees:List Str}{ix:List Nat}{wi:TI}{g:TG}{tt:TT}{te:TE}
theorem z2Q{α β:Type}{f:α->β}: ∀{l:List α} {bs:List β},bs.Perm (l.map f)->∃l':List α,l'.Perm l/\bs=l'.map f
 |[],bs,h=>⟨[], .refl _,by simpa using h⟩
 |a::l,bs,h=>by
  have hm:f a∈bs:=h.symm.subset (by simp)
  obtain⟨b1,b2,rfl⟩:=List.append_of_mem hm
  have h2:(b1++b2).Perm (l.map f):=(List.perm_cons (f a)).mp (List.perm_middle.symm.trans h)
  obtain⟨l',p,e⟩:=z2Q h2
  have e1:=congrArg (List.take b1.length) e
  have e2:=congrArg (List.drop b1.length) e
  rw[List.take_left,<-List.map_take] at e1
  rw[List.drop_left,<-List.map_drop] at e2
  refine⟨l'.take b1.length++a::l'.drop b1.length, ?_, ?_⟩
  ·refine List.perm_middle.trans (List.Perm.cons _ ?_)
   rw[List.take_append_drop];exact p
  ·rw[List.map_append,List.map_cons,<-e1,<-e2]
noncomputable def zcm(K:W.Frag)(wi:TI)(g:TG)(tt:TT)(te:TE)(k:Nat)(ix:List Nat):TE:=fun σ H Q=>zcl K wi g tt te k ix σ H fun rs H'=>
 (∀r∈rs,z1N r.1=true)/\rs.length<64/\∀rs':List (NK×Addr),rs'.Perm rs->∃ds,DpAll K H' ds (rs'.map fun r=>V.ref r.2)/\z1w ds=true/\∀l,H' l=none->Q (.ref l) (upd H' l (.lst ((So.permS rs'.length (cmpD ds)).map fun i=>(rs'.map fun r=>V.ref r.2).getD i .non)))
theorem zaE{h:Heap}{D:Addr}{o:Obj}{rs:List (NK×Addr)}{P:Program}{w:World}(ho:h.get? D=some o)(hS:SO P w o rs)(hi: ∀r∈rs,z1N r.1=true): ∃(es:Array (Int×Value)) (ep:Nat) (t:SetTable) (rs':List (NK×Addr)),SW w h D es ep t/\rs'.Perm rs/\z1t w D ep es=rs'.map (fun r=>Value.ref r.2)/\es.size=rs.length:=by
 obtain⟨es,ep,t,F,hex,hd,hti,hes,hha,hnd,hle,hpr,hld,hpn⟩:=hS
 have h1:es.size=F.length:=by rw[<-Array.length_toList,hes,vE,List.length_map]
 have h2:F.length=rs.length:=by have:=hpr.length_eq;simpa[rE] using this
 have hf:t.fits es.size=true:=by
  have h3:t.place.size=F.length:=by rw[<-Array.length_toList,hti.pl,Se.plc_len]
  have h4:t.fill<=t.mask:=by
   show t.place.size+t.dummies.size<=t.mask
   rw[h3,hti.nd]
   exact hti.ln
  simp only[SetTable.fits,Bool.and_eq_true,beq_iff_eq,decide_eq_true_eq]
  exact⟨by rw[h1,h3],h4⟩
 have hp:(z1t w D ep es).Perm (rs.map fun r=>Value.ref r.2):=by
  refine z7q.trans ?_
  rw[hes]
  have:=hpr.map fun r:NK×Addr=>Value.ref r.2
  refine(List.Perm.of_eq ?_).trans this
  simp[vE,rE,Function.comp_def]
 obtain⟨rs',p,e⟩:=z2Q hp
 exact⟨es,ep,t,rs',⟨⟨o,ho,hex.1,hd⟩,hf,hld,hpn hi,by rw[hti.pl];exact hti.rs⟩,p,e,by rw[h1,h2]⟩
theorem z2R{P:Program}: ∀rs:List (NK×Addr),Vals (rs.map fun r=>V.ref r.2) (rs.map fun r=>Value.ref r.2)
 |[]=> .nil
 |r::rs=> .cons rfl (z2R (P:=P) rs)
theorem z7r{p cpos:Pos}(hgl:Gl X "sorted")(hml:X.mg "sorted" =none)(hu:X.A.units+64<cLine)(hc:X.calm=true)(hh:X.A.handled=none)(S:z0i X.env.scope scope own frees X.N ix)(hi:PI X tg iter wi)
 (hg: ∀cl C s₀ H₀ fp pn,PG (z04 X scope own frees cl C s₀ H₀ fp pn) tg g) (ht: ∀cl C s₀ H₀ fp pn,PTs (z04 X scope own frees cl C s₀ H₀ fp pn) ifs tt) (he: ∀cl C s₀ H₀ fp pn,PE (z04 X scope own frees cl C s₀ H₀ fp pn) elt te)
 (hs: ∀x,foldedSetIterable iter X.env x=pure x:=by intro _;rfl)
 (hso:starEach [.SetComp elt [⟨tg,iter,ifs,0⟩] scope pos] X.env=[(false,eval (.SetComp elt [⟨tg,iter,ifs,0⟩] scope pos) X.env)]:=by rfl):
 PE X (.Call (.Name "sorted" p) [.SetComp elt [⟨tg,iter,ifs,0⟩] scope pos] [] cpos) (zcm X.K wi g tt te own.length ix):=by
 intro pins s σ H Q I h
 refine wpAny_Call_Name_kw (z3Y I hgl hml PyProof.Rows.Boot.«sorted» (PyProof.Rows.callWith_builtin1 ?_ hso rfl))
 rw[hso]
 show wpAny _ _ (spliced ((false,eval (.SetComp elt [⟨tg,iter,ifs,0⟩] scope pos) X.env)::backTo cpos [])) _ _ s
 refine Calls.spliced_cons (thn (zaD (Nat.lt_of_le_of_lt (Nat.add_le_add_left (by decide:2<=64) _) hu) hc S hi hg ht he hs I h) fun v s1 ⟨D,o,rs,H',ev,I1,gD,so,_,q1,q2,q3⟩=> ?_)
 subst ev
 obtain⟨es,ep,t,rs',sW,pp,ew,hsz⟩:=zaE gD so q1
 obtain⟨ds,hd,ok,q⟩:=q3 rs' pp
 have hl:=pp.length_eq
 unfold z1w at ok
 simp only[Bool.and_eq_true,List.all_eq_true,decide_eq_true_eq] at ok
 obtain⟨ok1,ok2⟩:=ok
 have hvl:(rs'.map fun r=>Value.ref r.2).length=rs'.length:=List.length_map _
 refine Calls.spliced_nil (So.call_sortedW (cmp:=cmpD ds) hh sW ew (by lia) (by lia) (fun h' tk kp h2=> ?_) fun h' tk D' e1 kp hD hget=> ?_)
 ·have I':Inv X pins σ H' {s1 with heap:=h',toks:=tk}:=I1.kept (t':=tk) kp
  obtain⟨as,ra⟩:=DpAll.reads I' ds (rs'.map fun r=>V.ref r.2) (rs'.map fun r=>Value.ref r.2) hd (z2R (P:=X.prog) rs')
  refine⟨tuples' false,fun Q E hq=> ?_,fun i j hi hj C hC=> ?_⟩
  ·obtain⟨fs,t,hfl,hf⟩:=z3z ra fun d hd'=>(ok1 d hd').1.1
   have hdl:=SeqAt.ReadsAll.length _ _ _ ra
   exact W.kat_kind (T:= .type "tuple") t (by lia) hf rfl hq
  ·obtain⟨bs,r1,m1⟩:=z0C ra i hi
   obtain⟨cs,r2,m2⟩:=z0C ra j hj
   obtain⟨b,hb⟩:=Option.isSome_iff_exists.mp (ok2 _ m1 _ m2)
   have o1:=ok1 _ m1
   have o2:=ok1 _ m2
   refine So.key_ltF r1 r2 o1.1.2 o2.1.2 o1.1.1 o2.1.1 ?_ hb ?_
   ·show X.A.units+1+1+_<_
    have:=Nat.min_le_left (ds.getD i .none).depth (ds.getD j .none).depth
    lia
   ·have:cmpD ds i j=b:=by unfold cmpD;rw[hb];rfl
    rw[<-this];exact hC
 ·rw[hvl] at hget
  refine⟨.ref D',_,I1.laid (t':=tk) (o:= .lst ((So.permS rs'.length (cmpD ds)).map fun i=>(rs'.map fun r=>V.ref r.2).getD i .non)) kp hD ⟨by rw[List.length_map,So.permS_len];have:sizeLine=16777216:=rfl;lia,_,e1,z2L (z2R (P:=X.prog) rs') _ fun i hi=> ?_,hget⟩,rfl,q _ (I1.hok.fresh hD)⟩
  rw[hvl];exact So.permS_lt i hi
end
end L2
namespace Mi
open PySem L2
noncomputable def hasK(q:NK)(ks:List NK):Bool:=ks.any fun k=>decide (k=q)
section
variable{X:Cx}{G:Gx}{F:Fy}{e a b c tg iter elt:Expr}{pos:Pos}
noncomputable def Fy.blk(F:Fy):Fy:={F with tv0:=[],xw:=fun _ _=>False}
theorem MR.enter0{ρ:Nat->Addr}{H:Hp}{σv tv:List (Option V)}{s:Stt}(M:MR G F.toFx ρ H σv tv s)(own:Nat)(ix:List Nat):
 MR G F.blk.toFx ρ H (z0R own ix σv) (σv++tv) (z2I own ix s):=by
 have sub: ∀l∈z0p (z2I own ix s),l∈z0p s:=fun l h=>by
  rcases List.mem_append.mp h with h|h
  ·have h:l∈z05 (List.replicate own none++ix.map (fun i=>(s.σ[i]?).getD none)):=h
   rw[z08] at h
   rcases List.mem_append.mp h with h|h
   ·exact absurd h (z1Y own)
   ·exact List.mem_append_left _ (z1u h)
  ·have h:l∈z05 (s.σ++s.tm):=h
   rw[z08] at h
   exact h
 exact⟨(Sl.none_map own).append (M.sl.pick ix),M.sl.append M.tm,M.inj,M.dom,fun l h=>M.lab l (sub l h),fun l h=>M.own l (sub l h),M.frm,M.kd,M.frb,M.bas⟩
theorem MR.leave0{ρ:Nat->Addr}{H:Hp}{σi σv tvs tv ys:List (Option V)}{s:Stt}{kk k:Nat}(M:MR G F.blk.toFx ρ H σi (ys++(σv++(tvs++tv))) s)(hk:tvs.length=kk)(hy:ys.length=k)(ol:Nat)(ho:σv.length=ol):
 MR G F.toFx ρ H σv tv {σ:=(s.tm.drop k).take ol,tm:=s.tm.drop (k+ol+kk),n:=s.n}:=by
 subst hk ho hy
 obtain⟨t1,t2⟩:=Sl.split ys M.tm
 obtain⟨t3,t4⟩:=Sl.split σv t2
 obtain⟨_,t6⟩:=Sl.split tvs t4
 rw[List.drop_drop,List.drop_drop] at t6
 have t6':Sl G ρ H (s.tm.drop (ys.length+σv.length+tvs.length)) tv:=by rw[Nat.add_assoc];exact t6
 have ld: ∀l k,l∈z05 (s.tm.drop k)->l∈z0p s:=fun l k h=>List.mem_append_right _ (by
  have e:=z08 (s.tm.take k) (s.tm.drop k)
  rw[List.take_append_drop] at e
  rw[e];exact List.mem_append_right _ h)
 have ldt: ∀l k j,l∈z05 ((s.tm.drop k).take j)->l∈z0p s:=fun l k j h=>ld l k (by
  have e:=z08 ((s.tm.drop k).take j) ((s.tm.drop k).drop j)
  rw[List.take_append_drop] at e
  rw[e];exact List.mem_append_left _ h)
 have all: ∀l∈z0p {σ:=(s.tm.drop ys.length).take σv.length,tm:=s.tm.drop (ys.length+σv.length+tvs.length),n:=s.n},l∈z0p s:=fun l h=>by
  rcases List.mem_append.mp h with h|h
  ·exact ldt l _ _ h
  ·exact ld l _ h
 exact⟨t3,t6',M.inj,M.dom,fun l h=>M.lab l (all l h),fun l h=>M.own l (all l h),M.frm,M.kd,M.frb,M.bas⟩
theorem z7s{ρ:Nat->Addr}{H:Hp}: ∀{rs:List (NK×Addr)} {tm:List (Option D)},Sl G ρ H tm (rs.map fun r=>some (V.ref r.2))->tm.map (fun o=>o.bind tkey)=rs.map (fun r=>some r.1)->∀r∈rs,TK H r.1 r.2
 |[],_,_,_=>fun r hr=>nomatch hr
 |r::rs,[],h,_=>by simp[Sl] at h
 |r::rs,none::tm,_,e=>by simp at e
 |r::rs,some d::tm,h,e=>by
  simp only[Sl] at h
  obtain⟨v,q,e1,h1,h2⟩:=h
  simp only[List.map_cons,List.cons.injEq,Option.some.injEq] at e1
  obtain⟨rfl,rfl⟩:=e1
  simp only[List.map_cons,List.cons.injEq,Option.bind_some] at e
  obtain⟨b,eb,tk,_⟩:=z74 h1 e.1
  intro r' hr
  rcases List.mem_cons.mp hr with rfl|hr
  ·cases eb
   exact tk
  ·exact z7s h2 e.2 r' hr
theorem zcn{q:NK}{rs:List (NK×Addr)}:hasK q (rs.map (·.1))=hasR q rs:=by
 unfold hasK hasR
 rw[List.any_map]
 rfl
end
end Mi
namespace L2
open PySem PySem.Spec PyProof.Rows PySem F P
end L2
namespace Mi
open PySem L2 PySem.Spec PyProof.Rows PySem F P
end Mi
namespace L2
open PySem PySem.Spec PyProof.Rows
noncomputable abbrev cFl(elt tg iter tg2 iter2:Expr)(scope:Scope)(pos:Pos):Expr:= .ListComp elt [⟨tg,iter,[],0⟩,⟨tg2,iter2,[],0⟩] scope pos
theorem z4Y(elt tg iter tg2 iter2:Expr)(scope:Scope)(pos:Pos)(it acc:Value)(env:Env):
 compTurn (cFl elt tg iter tg2 iter2 scope pos) 1 it acc env=(standAt iter2.pos>>=fun _=>pyNext it>>=fun r=>match r with
  |none=>pure (.done .next)
  |some v=>letOwnedTupleGo tg2 it v>>=fun _=>assign tg2 env v>>=fun _=>
   (eval elt env>>=fun x=>call (.builtin "list.append") [acc,x]>>=fun _=>pure ())>>=fun _=>
    again (.compLoop (cFl elt tg iter tg2 iter2 scope pos) 1 it acc env)):=by rfl
theorem z4t(elt tg iter tg2 iter2:Expr)(scope:Scope)(pos:Pos)(it acc:Value)(env:Env):
 compTurn (cFl elt tg iter tg2 iter2 scope pos) 0 it acc env=(standAt iter.pos>>=fun _=>pyNext it>>=fun r=>match r with
  |none=>pure (.done .next)
  |some v=>letOwnedTupleGo tg it v>>=fun _=>assign tg env v>>=fun _=>
   eval iter2 env>>=fun x=>standAt iter2.pos>>=fun _=>foldedSetIterable iter2 env x>>=fun x=>holding [x] (pyIter x)>>=fun it2=>
    runOwn (.compStart (cFl elt tg iter tg2 iter2 scope pos) 1 it2 acc env) env>>=fun _=>
    again (.compLoop (cFl elt tg iter tg2 iter2 scope pos) 0 it acc env)):=by rfl
theorem z1M{P:Program}{w:World}{A:Around}{R:Result->Shared->Prop}{s:Shared}{elt tg iter tg2 iter2:Expr}{scope:Scope}{pos:Pos}{it acc:Value}{env:Env}
 (h0:codeAny (model P w) A (.compLoop (cFl elt tg iter tg2 iter2 scope pos) 1 it acc env) R s)
 (h:wpAny (model P w) A (pyIter it) (fun it' s'=>codeAny (model P w) A (.compLoop (cFl elt tg iter tg2 iter2 scope pos) 1 it' acc env) R s') (notedBy (model P w) A env fun x s'=>R (.error x) s') s):
 codeAny (model P w) A (.compStart (cFl elt tg iter tg2 iter2 scope pos) 1 it acc env) R s:=by
 refine codeAny_of_tree ?_
 show wpAny _ _ ((compStart (cFl elt tg iter tg2 iter2 scope pos) 1 it acc env).onRaise (fun x=>do noteFrame x env;standAt theWindowsPlace)) _ _ s
 refine wpAny_notedAt ?_
 unfold compStart
 show wpAny _ _ (ask>>=_) _ _ s
 refine wpAny_bind (wpAny_askSetting (wpAny_ite ?_))
 split
 ·first
   |exact wpAny_bind (wpAny_pure (wpAny_pure (And.intro rfl h0)))
   |exact wpAny_pure (And.intro rfl h0)
 ·refine wpAny_bind (wpAny_rule ?_)
  show wpAny _ _ (standAt iter2.pos>>=_) _ _ s
  exact wpAny_bind (wpAny_standAt (wpAny_bind (wpAny_mono h (fun it' s' h'=>wpAny_pure (And.intro rfl h')) fun _ _ x=>x)))
noncomputable def setL(σ:St)(j:Nat)(xs:List V):St:=match xs.getLast? with
 |none=>σ
 |some x=>σ.set j (some x)
theorem z4u{σ:St}{j:Nat}{xs:List V}{x:V}:(setL σ j xs).set j (some x)=setL σ j (xs++[x]):=by
 unfold setL
 rw[List.getLast?_append]
 simp only[List.getLast?_singleton,Option.some_or]
 cases xs.getLast? with
 |none=>rfl
 |some y=>exact List.set_set ..
theorem z8L{σ:St}{j:Nat}{xs:List V}:(setL σ j xs).length=σ.length:=by
 unfold setL
 split
 ·rfl
 ·exact List.length_set
theorem zaF{K:W.Frag}{H:Hp}{a D:Addr}{xs ys zs:List V}(h:SqT K H a xs)(hD:H D=some (.lst ys)):SqT K (upd H D (.lst zs)) a xs:=by
 have ne: ∀o,H a=some o->(∀l,o≠ .lst l)->a≠D:=fun o e q z=>by
  rw[z,hD] at e
  cases e
  exact q _ rfl
 rcases h with(h|⟨o,h⟩)|h
 ·exact .inl (.inl (by rw[z07 (ne _ h nofun)];exact h))
 ·exact .inl (.inr ⟨o,by rw[z07 (ne _ h nofun)];exact h⟩)
 ·exact .inr h
section
variable{Y:Cx}{elt tg iter tg2 iter2:Expr}{scope:Scope}{pos:Pos}
theorem zaG(hc:Y.calm=true){fp:List Addr}{it:Addr}{tn:Nat->Heap->Prop}{a D:Addr}{xs ys:List V}{j:Nat}(T:Turn Y.prog Y.w Y.K tg2 (Itt Y.K a) fp it tn){pins:List (Addr×Obj)}{σ:St}{H:Hp}{s:Shared}{R:Result->Shared->Prop}{env:Env}(hE:Y.env=env)
 (hg:PG Y tg2 (z2z j)) (he:PE Y elt (tVar j)) (I:Inv Y pins σ H s) (st:tn 0 s.heap) (hf: ∀b∈fp,FpOk Y pins H b) (hx:SqT Y.K H a xs) (hD:H D=some (.lst ys)) (hz:ys.length+xs.length<=sizeLine) (hj:j<σ.length) (hxe:Y.xe=fun _ _=>False)
 (q: ∀s',Inv Y pins (setL σ j xs) (upd H D (.lst (ys++xs))) s'->R (.ok .next) s'):
 codeAny (model Y.prog Y.w) Y.A (.compStart (cFl elt tg iter tg2 iter2 scope pos) 1 (.ref it) (.ref D) env) R s:=by
 subst hE
 have fD:D∉fp:=fun z=>by have:=(hf D z).1;rw[this] at hD;cases hD
 have hF: ∀k,∀b∈fp,FpOk Y pins (upd H D (.lst (ys++xs.take k))) b:=fun k b hb=>by
  obtain⟨f0,f1⟩:=hf b hb
  exact⟨by rw[z07 (show b≠D from fun e=>fD (by rw[<-e];exact hb))];exact f0,f1⟩
 have e0:upd H D (.lst (ys++xs.take 0))=H:=by
  funext b
  by_cases hb:b=D
  ·subst hb;rw[z0e,List.take_zero,List.append_nil];exact hD.symm
  ·exact z07 hb
 have loop:codeAny (model Y.prog Y.w) Y.A (.compLoop (cFl elt tg iter tg2 iter2 scope pos) 1 (.ref it) (.ref D) Y.env) R s:=by
  refine codeAny_loop rfl (fun n s'=> ∃k,k+n=xs.length/\Inv Y pins (setL σ j (xs.take k)) (upd H D (.lst (ys++xs.take k))) s'/\tn k s'.heap) (fun n s' hI=> ?_) xs.length ⟨0,Nat.zero_add _,by rw[e0];exact I,st⟩
  obtain⟨k,hk,I1,st1⟩:=hI
  show wpAny _ _ ((compTurn (cFl elt tg iter tg2 iter2 scope pos) 1 (.ref it) (.ref D) Y.env).onRaise (fun x=>do noteFrame x Y.env;theTreesLotGoes x)) _ _ s'
  refine wpAny_noted ?_
  rw[z4Y]
  have hx1:=zaF (zs:=ys++xs.take k) hx hD
  by_cases hlt:k<xs.length
  ·have d:=T.item Y rfl rfl rfl hc k pins s' (setL σ j (xs.take k)) _ (fun _ _=>False) I1 (hF k) st1 ⟨xs,xs[k],hx1,List.getElem?_eq_getElem hlt⟩
   refine wpAny_bind (wpAny_standAt (wpAny_bind (wpAny_mono d (fun r s6 h6=> ?_) fun _ _ h'=>h'.elim)))
   obtain⟨u,hr,h6⟩:=h6
   subst hr
   dsimp only
   refine wpAny_bind (wpAny_mono h6 (fun _ s7 h7=> ?_) fun _ _ h'=>h'.elim)
   obtain⟨x,H7,I7,r7,⟨eH,y7⟩,st7,fr7⟩:=h7
   subst eH
   have ex:=y7 xs hx1
   have I7':=I7.pinned (hF k) (T.obj _ _ st7)
   have e1:=hg _ s7 (setL σ j (xs.take k)) _ x u (fun σ' H'=>σ'=setL σ j (xs.take (k+1))/\H'=upd H D (.lst (ys++xs.take k))) I7' r7 ⟨by rw[z4u,List.take_add_one,ex];rfl,rfl⟩
   rw[hxe] at e1
   refine wpAny_bind (wpAny_mono e1 (fun _ s8 h8=> ?_) fun _ _ h'=>h'.elim)
   obtain⟨σ8,H8,I8,e8,e8'⟩:=h8
   subst e8 e8'
   have gx:(setL σ j (xs.take (k+1)))[j]? =some (some x):=by
    rw[List.take_add_one,ex]
    show(setL σ j (xs.take k++[x]))[j]? =_
    rw[<-z4u]
    simp[z8L,hj]
   have e2:=he _ s8 _ _ (fun v H'=>v=x/\H'=upd H D (.lst (ys++xs.take k))) I8 ⟨x,gx,rfl,rfl⟩
   rw[hxe] at e2
   refine wpAny_bind (wpAny_bind (wpAny_mono e2 (fun yv s9 h9=> ?_) fun _ _ h'=>h'.elim))
   obtain⟨y,H9,I9,r9,rfl,rfl⟩:=h9
   have e3:=z1V (X:=Y) _ s9 _ _ (.ref D) [y] (.ref D) [yv] (fun v H'=>v= .non/\H'=upd (upd H D (.lst (ys++xs.take k))) D (.lst ((ys++xs.take k)++[y]))) I9 rfl (.cons r9 .nil) ⟨D,ys++xs.take k,y,rfl,rfl,z0e,by rw[List.length_append,List.length_take];lia,rfl,rfl⟩
   rw[hxe] at e3
   refine wpAny_bind (wpAny_mono e3 (fun _ s10 h10=> ?_) fun _ _ h'=>h'.elim)
   obtain⟨v10,H10,I10,r10,_,rfl⟩:=h10
   refine wpAny_pure (wpAny_pure ⟨rfl,n - 1,by lia,k+1,by lia, ?_, ?_⟩)
   ·have eH:upd (upd H D (.lst (ys++xs.take k))) D (.lst ((ys++xs.take k)++[y]))=upd H D (.lst (ys++xs.take (k+1))):=by
     funext b
     by_cases hb:b=D
     ·subst hb;rw[z0e,z0e,List.take_add_one,ex,List.append_assoc];rfl
     ·rw[z07 hb,z07 hb,z07 hb]
    rw[eH] at I10
    exact I10.unpinned
   ·refine T.keep _ _ _ st7 fun b hb o e=> ?_
    exact(I10.pin (b,o) (List.mem_append_right _ (List.mem_append_right _ (z0b hb e)))).1
  ·have d:=T.done Y rfl rfl rfl hc k pins s' (setL σ j (xs.take k)) _ (fun _ _=>False) I1 (hF k) st1 ⟨xs,hx1,Nat.le_of_not_lt hlt⟩
   refine wpAny_bind (wpAny_standAt (wpAny_bind (wpAny_mono d (fun r s6 h6=> ?_) fun _ _ h'=>h'.elim)))
   obtain⟨rfl,I6⟩:=h6
   rw[List.take_of_length_le (Nat.le_of_not_lt hlt)] at I6
   exact wpAny_pure (q _ I6)
 exact z1M loop (T.self _ 0 _ _ _ st loop)
end
noncomputable def zco(K:W.Frag)(wi:TI)(g:TG)(te2:TE)(j k:Nat)(ix:List Nat):TE:=fun σ H Q=>wi σ H fun J H1=> ∀D,H1 D=none->(∀a o,K.lookup a=some o->upd H1 D (.lst []) a=none)->
 ∃W:Nat->Nat->List V->St->Hp->Prop,(∃m,W 0 m [] (z0R k ix σ) (upd H1 D (.lst [])))/\
  ∀i m ys σ' H',W i m ys σ' H'->H' D=some (.lst ys)/\((J.stop i H'/\Q (.ref D) H')\/
   (J.go i H'/\∀x H2,J.yld i H' x H2->g x σ' H2 fun σ2 H3=>te2 σ2 H3 fun v H4=> ∃a xs,v= .ref a/\SqT K H4 a xs/\H4 D=some (.lst ys)/\ys.length+xs.length<=sizeLine/\j<σ2.length/\∃m',m'<m/\W (i+1) m' (ys++xs) (setL σ2 j xs) (upd H4 D (.lst (ys++xs)))))
section
variable{X:Cx}{tg iter elt tg2 iter2:Expr}{pos:Pos}{scope:Scope}{own frees:List Str}{ix:List Nat}{wi:TI}{g:TG}{te2:TE}{j:Nat}
theorem zaH(hc:X.calm=true)(S:z0i X.env.scope scope own frees X.N ix)(hi:PI X tg iter wi)
 (hg: ∀cl C s₀ H₀ fp pn,PG (z04 X scope own frees cl C s₀ H₀ fp pn) tg g) (hg2: ∀cl C s₀ H₀ fp pn,PG (z04 X scope own frees cl C s₀ H₀ fp pn) tg2 (z2z j)) (he2: ∀cl C s₀ H₀ fp pn,PE (z04 X scope own frees cl C s₀ H₀ fp pn) iter2 te2) (he: ∀cl C s₀ H₀ fp pn,PE (z04 X scope own frees cl C s₀ H₀ fp pn) elt (tVar j))
 (hs: ∀x,foldedSetIterable iter X.env x=pure x:=by intro _;rfl) (hs2: ∀e x,foldedSetIterable iter2 e x=pure x:=by intro _ _;rfl):
 PE X (cFl elt tg iter tg2 iter2 scope pos) (zco X.K wi g te2 j own.length ix):=by
 intro pins s σ H Q I h
 have hclos:closureFor scope X.env=pure (z0o X.env scope.names []):=z0M fun y hy e=>I.ok.has y.1 (S.fr y hy e)
 show wpAny _ _ (eval (cFl elt tg iter tg2 iter2 scope pos) X.env) _ _ _
 rw[show eval (cFl elt tg iter tg2 iter2 scope pos) X.env=comprehension (cFl elt tg iter tg2 iter2 scope pos) scope X.env (firstIterPos [⟨tg,iter,[],0⟩,⟨tg2,iter2,[],0⟩] pos) (newList []) (firstAsync [⟨tg,iter,[],0⟩,⟨tg2,iter2,[],0⟩]) (firstIter [⟨tg,iter,[],0⟩,⟨tg2,iter2,[],0⟩] X.env) from rfl]
 refine wpAny_comprehension_free (use:=none) rfl hs hclos S.kind S.names (thn (hi pins s σ H _ I h) fun v s1 h1=>thn h1 fun itv s2 h2=> ?_)
 obtain⟨it,fp,tn,J,H2,e,I2,T,st2,f2,hD⟩:=h2
 subst e
 refine wpAny_newObj_type ?_
 have I3:Inv X pins σ (upd H2 s2.heap.objs.size (.lst [])) {s2 with heap:=s2.heap.push {cls:= .type "list",data:= .seq ([]:List Value).toArray}}:=I2.lnew (t':=s2.toks) .nil (Nat.zero_le _)
 have nD:H2 s2.heap.objs.size=none:=I2.fresh
 obtain⟨W,⟨m0,w0⟩,turn⟩:=hD _ nD fun a o e=>(I3.bs a o (I3.ok.mod.kin a o e)).2
 have fpl: ∀b∈fp,b<s2.heap.objs.size:=fun b z=>by
  obtain⟨o,q,_⟩:=T.obj _ _ st2 b z
  exact Heap.lt_size q
 generalize hs3:({s2 with heap:=s2.heap.push {cls:= .type "list",data:= .seq ([]:List Value).toArray}}:Shared)=s3 at I3
 have hpush: ∀b o,s2.heap.get? b=some o->s3.heap.get? b=some o:=fun b o q=>by rw[<-hs3];exact Heap.get?_push_of_some _ q
 have hsz3:s2.heap.objs.size<s3.heap.objs.size:=by rw[<-hs3];show _<(s2.heap.push _).objs.size;rw[Heap.size_push];exact Nat.lt_succ_self _
 have f3: ∀b∈fp,FpOk X pins (upd H2 s2.heap.objs.size (.lst [])) b:=fun b z=>⟨by rw[z07 (Nat.ne_of_lt (fpl b z))];exact(f2 b z).1,(f2 b z).2⟩
 have st3:tn 0 s3.heap:=T.keep _ _ _ st2 fun b _ o q=>hpush b o q
 generalize hDd:s2.heap.objs.size=D at*
 generalize hH3:upd H2 D (.lst [])=H3 at*
 have goal:wpAny (model X.prog X.w) X.A (newFunctionEnv scope X.env.globals (z0o X.env scope.names []) [] X.env.qual none .none (some X.env)) (fun cenv s₄=>
  codeAny (model X.prog X.w) X.A (.compStart (cFl elt tg iter tg2 iter2 scope pos) 0 (.ref it) (.ref D) {cenv with scope:=relabel scope X.env}) (compPost (model X.prog X.w) X.A X.xe none (EP X pins σ Q) (.ref D) cenv.locals) s₄) X.xe s3:=by
  refine wpAny_newFunctionEnv S.nocell (by intro y hy;simp at hy) (fun h1 hns hsb=> ?_) S.kind
  have hns:h1.Ns s3.heap.objs.size (fun _=>none):=hns
  have keep4: ∀b o,s3.heap.get? b=some o->h1.get? b=some o:=fun b o q=>hsb.extBut b o (Nat.ne_of_lt (Heap.lt_size q)) (Heap.get?_push_of_some _ q)
  have fpl3: ∀b∈fp,b<s3.heap.objs.size:=fun b z=>Nat.lt_trans (fpl b z) hsz3
  generalize hs4:({s3 with heap:=h1,toks:=s3.toks+([]:List (Str×Value)).length}:Shared)=s4
  have I4:Inv (z04 X scope own frees (z0o X.env scope.names []) s3.heap.objs.size s3 H3 fp (X.pn++pins)) [] (z0R own.length ix σ) H3 s4:=
   z1F S I3 f3 fpl3 (by rw[<-hs4]) (by rw[<-hs4]) (fun b o q=>by rw[<-hs4];exact keep4 b o q) (by rw[<-hs4];exact hns)
  have st4:tn 0 s4.heap:=T.keep _ _ _ st3 fun b _ o q=>by rw[<-hs4];exact keep4 b o q
  generalize hXc:z04 X scope own frees (z0o X.env scope.names []) s3.heap.objs.size s3 H3 fp (X.pn++pins)=Y at I4
  have eP:Y.prog=X.prog:=by rw[<-hXc];rfl
  have eW:Y.w=X.w:=by rw[<-hXc];rfl
  have eK:Y.K=X.K:=by rw[<-hXc];rfl
  have eA:Y.A=X.A:=by rw[<-hXc];rfl
  have eC:Y.calm=true:=by rw[<-hXc];exact hc
  have eE:Y.env=compEnvC scope (z0o X.env scope.names []) s3.heap.objs.size X.env:=by rw[<-hXc];rfl
  have eX:Y.xe=fun _ _=>False:=by rw[<-hXc];rfl
  have eF: ∀{H':Hp},(∀b∈fp,H' b=none)->∀b∈fp,FpOk Y [] H' b:=fun{H'} hn b hb=>by
   rw[<-hXc]
   obtain⟨g1,g2,g3,g4,g5,g6⟩:=f3 b hb
   refine⟨hn b hb,Nat.ne_of_lt (fpl3 b hb),fun q=> ?_, .inl hb,fun x c e=> ?_,fun p hp=> ?_⟩
   ·rcases List.mem_cons.mp (I3.stkSub b q) with r|r
    ·exact g2 r
    ·exact g3 r
   ·rcases z1E _ _ e with q|q
    ·exact nomatch q
    ·exact g5 x c q.1
   ·have hp:p∈(X.pn++pins)++[]:=hp
    rw[List.append_nil] at hp
    exact g6 p hp
  have gY:PG Y tg g:=by rw[<-hXc];exact hg _ _ _ _ _ _
  have gY2:PG Y tg2 (z2z j):=by rw[<-hXc];exact hg2 _ _ _ _ _ _
  have tY:PE Y elt (tVar j):=by rw[<-hXc];exact he _ _ _ _ _ _
  have sY:PE Y iter2 te2:=by rw[<-hXc];exact he2 _ _ _ _ _ _
  have loop:codeAny (model X.prog X.w) X.A (.compLoop (cFl elt tg iter tg2 iter2 scope pos) 0 (.ref it) (.ref D) (compEnvC scope (z0o X.env scope.names []) s3.heap.objs.size X.env))
   (compPost (model X.prog X.w) X.A X.xe none (EP X pins σ Q) (.ref D) s3.heap.objs.size) s4:=by
   refine codeAny_loop rfl (fun n s'=> ∃i ys σ' H',Inv Y [] σ' H' s'/\tn i s'.heap/\(∀b∈fp,H' b=none)/\W i n ys σ' H') (fun n s5 hI=> ?_) m0 ⟨0,[],_,_,I4,st4,fun b hb=>(f3 b hb).1,w0⟩
   obtain⟨i,ys,σ5,H5,I5,st5,fr5,w5⟩:=hI
   show wpAny _ _ ((compTurn (cFl elt tg iter tg2 iter2 scope pos) 0 (.ref it) (.ref D) (compEnvC scope (z0o X.env scope.names []) s3.heap.objs.size X.env)).onRaise (fun x=>do noteFrame x (compEnvC scope (z0o X.env scope.names []) s3.heap.objs.size X.env);theTreesLotGoes x)) _ _ s5
   refine wpAny_noted ?_
   rw[z4t]
   obtain⟨hD5,alt⟩:=turn i n ys σ5 H5 w5
   rcases alt with⟨stop,qn⟩|⟨go,step⟩
   ·have d:=T.done Y eP eW eK eC i [] s5 σ5 H5 (fun _ _=>False) I5 (eF fr5) st5 stop
    rw[eA] at d
    refine wpAny_bind (wpAny_standAt (wpAny_bind (wpAny_mono d (fun r s6 h6=> ?_) fun _ _ h'=>h'.elim)))
    obtain⟨hr,I6⟩:=h6
    subst hr
    subst hXc
    obtain⟨m6,n6,_⟩:=I6.loc
    exact wpAny_pure ⟨m6,n6,fun h'' hs''=>⟨.ref D,H5,z2s I3 f3 (Nat.le_refl _) I6 hs'',rfl,qn⟩⟩
   ·have d:=T.item Y eP eW eK eC i [] s5 σ5 H5 (fun _ _=>False) I5 (eF fr5) st5 go
    rw[eA] at d
    refine wpAny_bind (wpAny_standAt (wpAny_bind (wpAny_mono d (fun r s6 h6=> ?_) fun _ _ h'=>h'.elim)))
    obtain⟨u,hr,h6⟩:=h6
    subst hr
    dsimp only
    refine wpAny_bind (wpAny_mono h6 (fun _ s7 h7=> ?_) fun _ _ h'=>h'.elim)
    obtain⟨x,H7,I7,r7,y7,st7,fr7⟩:=h7
    have I7':=I7.pinned (eF fr7) (T.obj _ _ st7)
    have e1:=gY _ s7 σ5 H7 x u _ I7' r7 (step x H7 y7)
    rw[eP,eW,eA,eE,eX] at e1
    refine wpAny_bind (wpAny_mono e1 (fun _ s8 h8=> ?_) fun _ _ h'=>h'.elim)
    obtain⟨σ8,H8,I8,q8⟩:=h8
    have e2:=sY _ s8 σ8 H8 _ I8 q8
    rw[eP,eW,eA,eE,eX] at e2
    refine wpAny_bind (wpAny_mono e2 (fun v s9 h9=> ?_) fun _ _ h'=>h'.elim)
    obtain⟨y,H9,I9,r9,a,xs,ey,hxs,hD9,hz9,hj9,m',hm',w9⟩:=h9
    subst ey
    cases(show v=Value.ref a from r9)
    refine wpAny_bind (wpAny_standAt ?_)
    rw[hs2]
    refine wpAny_bind (wpAny_pure ?_)
    rw[<-eK] at hxs
    obtain⟨its,rv,pv,hzv⟩:=I9.tuple hxs
    refine wpAny_bind (wpAny_holding (wpAny_pyIter_tuple (show s9.heap.IsTuple a its.toArray from pv) ?_))
    refine wpAny_bind (wpAny_runOwn ?_)
    rw[Around.mark_none]
    have fl:=fun(R:Result->Shared->Prop) hR=>zaG (Y:=Y) (elt:=elt) (tg:=tg) (iter:=iter) (tg2:=tg2) (iter2:=iter2) (scope:=scope) (pos:=pos) (R:=R) (env:=compEnvC scope (z0o X.env scope.names []) s3.heap.objs.size X.env) (a:=a) (D:=D) (xs:=xs) (ys:=ys) (j:=j) eC
     (z3j a s9.heap.objs.size) eE gY2 tY (I9.kept (t':=s9.toks) (h':=s9.heap.push {cls:= .type "tuple_iterator",data:= .fields #[.ref a, .int 0 0]}) fun b o e=>Heap.get?_push_of_some _ e) ⟨_,Heap.get?_push_size _ rfl,rfl,rfl⟩ (fun b hb=>by
      have e:b=s9.heap.objs.size:=by simpa using hb
      subst e
      exact I9.fpOk (Nat.le_refl _) (I9.hok.fresh (Nat.le_refl _))) hxs hD9 hz9 hj9 eX hR
    rw[eP,eW,eA] at fl
    refine fl _ fun s' I'=> ?_
    refine wpAny_pure ⟨rfl,m',hm',i+1,_,_,_,I'.unpinned,T.keep _ _ _ st7 fun b hb o e=> ?_,fun b hb=> ?_,w9⟩
    ·exact(I'.pin (b,o) (List.mem_append_right _ (List.mem_append_right _ (z0b hb e)))).1
    ·obtain⟨o,e,d⟩:=T.obj _ _ st7 b hb
     exact(I'.pin (b,o) (List.mem_append_right _ (List.mem_append_right _ (z0b hb e)))).2.1
  exact codeAny_compStart_list loop (T.self _ 0 _ _ _ st4 loop)
 exact goal
end
end L2
namespace Mi
open PySem L2
noncomputable def ltE(a b:D):Bool:=(So.ltD (er a) (er b)).getD false
structure Lin(ds:List D):Prop where
 a: ∀x∈ds,∀y∈ds,ltE x y=true->ltE y x=false
 t: ∀x∈ds,∀y∈ds,∀z∈ds,ltE x y=false->ltE y z=false->ltE x z=false
 e: ∀x∈ds,∀y∈ds,ltE x y=false->ltE y x=false->x=y
theorem Lin.perm{ds ds':List D}(h:Lin ds)(p:ds'.Perm ds):Lin ds':=
 ⟨fun x hx y hy=>h.a x (p.mem_iff.mp hx) y (p.mem_iff.mp hy),fun x hx y hy z hz=>h.t x (p.mem_iff.mp hx) y (p.mem_iff.mp hy) z (p.mem_iff.mp hz),fun x hx y hy=>h.e x (p.mem_iff.mp hx) y (p.mem_iff.mp hy)⟩
theorem cmpE{ds:List D}{i j:Nat}(hi:i<ds.length)(hj:j<ds.length):cmpD (erL ds) i j=ltE ds[i] ds[j]:=by
 rw[z5x]
 unfold cmpD ltE
 simp only[List.getD_eq_getElem?_getD,List.getElem?_map,List.getElem?_eq_getElem hi,List.getElem?_eq_getElem hj,Option.map_some,Option.getD_some]
theorem z7t{ds:List D}(h:Lin ds):(z0J ds).Perm ds/\(z0J ds).Pairwise fun a b=>ltE b a=false:=by
 have o:So.Od (cmpD (erL ds)) ds.length:=⟨fun i j hi hj e=>by
  rw[cmpE hi hj] at e
  rw[cmpE hj hi]
  exact h.a _ (List.getElem_mem hi) _ (List.getElem_mem hj) e,fun i j k hi hj hk e1 e2=>by
  rw[cmpE hi hj] at e1
  rw[cmpE hj hk] at e2
  rw[cmpE hi hk]
  exact h.t _ (List.getElem_mem hi) _ (List.getElem_mem hj) _ (List.getElem_mem hk) e1 e2⟩
 have pl:(So.permS ds.length (cmpD (erL ds))).length=ds.length:=So.permS_len
 have pt:=So.permS_lt (n:=ds.length) (cmp:=cmpD (erL ds))
 have pp:=So.permS_pm (n:=ds.length) (cmp:=cmpD (erL ds))
 have ps:=So.permS_srt (n:=ds.length) (cmp:=cmpD (erL ds)) o
 unfold z0J
 generalize So.permS ds.length (cmpD (erL ds))=P at pl pt pp ps
 constructor
 ·have e:(List.range ds.length).map (fun i=>ds.getD i .non)=ds:=by
   apply List.ext_getElem?
   intro i
   by_cases hi:i<ds.length
   ·simp[hi]
   ·simp[hi]
  have:=pp.map fun i=>ds.getD i .non
  rw[e] at this
  exact this
 ·rw[List.pairwise_iff_getElem]
  intro i j hi hj hij
  simp only[List.length_map] at hi hj
  have q:=ps i j (by lia) (by lia)
  have gi:P.getD i 0=P[i]:=by simp[hi]
  have gj:P.getD j 0=P[j]:=by simp[hj]
  have hi':=pt _ (List.getElem_mem hi)
  have hj':=pt _ (List.getElem_mem hj)
  rw[gi,gj,cmpE hj' hi'] at q
  simp only[List.getElem_map]
  have ei:ds.getD P[i] .non=ds[P[i]]:=by simp[hi']
  have ej:ds.getD P[j] .non=ds[P[j]]:=by simp[hj']
  rw[ei,ej]
  exact q
theorem z5E{ds ds':List D}(h:Lin ds)(p:ds'.Perm ds):z0J ds'=z0J ds:=by
 obtain⟨p1,s1⟩:=z7t h
 obtain⟨p2,s2⟩:=z7t (h.perm p)
 refine List.Perm.eq_of_pairwise (le:=fun a b=>ltE b a=false) (fun a b ha hb h1 h2=> ?_) s2 s1 (p2.trans (p.trans p1.symm))
 exact h.e a (p.mem_iff.mp (p2.mem_iff.mp ha)) b (p1.mem_iff.mp hb) h2 h1
noncomputable def allO:List (Option D)->Option (List D)
 |[]=>some []
 |none::_=>none
 |some d::r=>match allO r with
  |some ds=>some (d::ds)
  |none=>none
theorem z7u: ∀{os:List (Option D)} {ds:List D},allO os=some ds->os=ds.map some
 |[],ds,h=>by cases h;rfl
 |none::_,_,h=>by cases h
 |some d::r,ds,h=>by
  unfold allO at h
  cases e:allO r with
  |none=>rw[e] at h;cases h
  |some ds'=>rw[e] at h;cases h;rw[z7u e];rfl
theorem z5F: ∀ds:List D,allO (ds.map some)=some ds
 |[]=>rfl
 |d::ds=>by simp only[List.map_cons,allO,z5F ds]
open Classical in
noncomputable def z5G(ks:List NK)(os:List (Option D))(s:Stt):Res D:=match allO os with
 |none=> .no
 |some ds=>if(plainL ds&&z1w (erL ds)&&(labsL ds).isEmpty&&ks.all z1N&&decide (ks.length<64))=true/\Lin ds then .ok (.lst s.n (z0J ds)) s.nxt else .no
noncomputable def z3D(K:ItK)(g:Tg)(mt:M Bool)(me:M D)(ol:Nat):Nat->Nat->List NK->M D
 |f,i,ks=>fun s=>match K.at' i (s.tm.drop (ks.length+ol)) with
  |none=> .no
  |some none=>z5G ks (s.tm.take ks.length) {σ:=(s.tm.drop ks.length).take ol,tm:=s.tm.drop (ks.length+ol+K.k),n:=s.n}
  |some (some d)=>match f with
   |0=> .no
   |f+1=>match asg g d s.σ with
    |none=> .no
    |some σ'=>match mt {s with σ:=σ'} with
     | .ok false s1=>z3D K g mt me ol f (i+1) ks s1
     | .ok true s1=>if ks.length<76 then match me s1 with
      | .ok y s2=>match tkey y with
       |none=> .no
       |some q=>if(s2.tm.take ks.length).map (fun o=>o.bind tkey)=ks.map some then
        (if hasK q ks=true then z3D K g mt me ol f (i+1) ks s2 else z3D K g mt me ol f (i+1) (q::ks) (s2.psh y))
        else .no
      |_=> .no
      else .no
     |_=> .no
noncomputable def z4Z(mi:M ItK)(g:Tg)(mt:M Bool)(me:M D)(own:Nat)(ix:List Nat):M D:=bd mi fun K s=>z3D K g mt me s.σ.length (K.len s.tm) 0 [] (z2I own ix s)
section
variable{X:Cx}{G:Gx}{F:Fy}{e a b c tg iter elt:Expr}{pos:Pos}
theorem z7v{ρ:Nat->Addr}{H:Hp}: ∀{rs:List (NK×Addr)} {ds:List D},RDs G ρ H ds (rs.map fun r=>V.ref r.2)->(rs.zip ds).map (·.1)=rs/\(rs.zip ds).map (·.2)=ds/\∀p∈rs.zip ds,RD G ρ H p.2 (.ref p.1.2)
 |[],[],_=>⟨rfl,rfl,fun _ h=>nomatch h⟩
 |[],d::ds,h=>by simp[RDs] at h
 |r::rs,[],h=>by simp[RDs] at h
 |r::rs,d::ds,h=>by
  simp only[List.map_cons,RDs,List.cons.injEq] at h
  obtain⟨x,r',⟨rfl,rfl⟩,h1,h2⟩:=h
  obtain⟨a,b,c⟩:=z7v h2
  refine⟨by simp only[List.zip_cons_cons,List.map_cons,a],by simp only[List.zip_cons_cons,List.map_cons,b],fun p hp=> ?_⟩
  simp only[List.zip_cons_cons] at hp
  rcases List.mem_cons.mp hp with rfl|hp
  ·exact h1
  ·exact c p hp
theorem z9n{ρ:Nat->Addr}{H:Hp}: ∀{L:List ((NK×Addr)×D)},(∀p∈L,RD G ρ H p.2 (.ref p.1.2))->RDs G ρ H (L.map (·.2)) ((L.map (·.1)).map fun r=>V.ref r.2)
 |[],_=>by simp[RDs]
 |p::L,h=>by
  simp only[List.map_cons,RDs]
  exact⟨_,_,rfl,h p (List.mem_cons_self ..),z9n fun q hq=>h q (List.mem_cons_of_mem _ hq)⟩
theorem z9o{ρ:Nat->Addr}{H:Hp}: ∀{rs:List (NK×Addr)} {ds:List D},Sl G ρ H (ds.map some) (rs.map fun r=>some (V.ref r.2))->RDs G ρ H ds (rs.map fun r=>V.ref r.2)
 |[],[],_=>by simp[RDs]
 |[],d::ds,h=>by simp only[List.map_nil,List.map_cons,Sl] at h;obtain⟨_,_,e,_⟩:=h;cases e
 |r::rs,[],h=>by simp only[List.map_nil,List.map_cons,Sl] at h;cases h
 |r::rs,d::ds,h=>by
  simp only[List.map_cons,Sl,List.cons.injEq,Option.some.injEq] at h
  obtain⟨v,r',⟨rfl,rfl⟩,h1,h2⟩:=h
  simp only[List.map_cons,RDs]
  exact⟨_,_,rfl,h1,z9o h2⟩
theorem z67{ds ds':List D}(p:ds'.Perm ds)(h:z1w (erL ds)=true):z1w (erL ds')=true:=by
 unfold z1w at h⊢
 rw[z5x] at h⊢
 have m: ∀x,x∈ds'.map er->x∈ds.map er:=fun x hx=>(p.map er).mem_iff.mp hx
 simp only[Bool.and_eq_true,List.all_eq_true,decide_eq_true_eq] at h⊢
 exact⟨fun d hd=>h.1 d (m d hd),fun d hd e he=>h.2 d (m d hd) e (m e he)⟩
theorem z2d: ∀{ds:List D},plainL ds=true↔∀d∈ds,plain d=true
 |[]=>by simp[plainL]
 |d::ds=>by simp only[plainL,Bool.and_eq_true,List.forall_mem_cons,z2d (ds:=ds)]
theorem z8M{k:Nat}{ix:List Nat}{mi:M ItK}{g:Tg}{mt:M Bool}{me:M D}{σ:St}{H:Hp}{Q:VK}(h:tM G F (z4Z mi g mt me k ix) σ H Q):zcm G.K (tI G F mi) (tGx G g) (tBx G mt) (tMx G me) k ix σ H (fun w H'=>KD G.K H'->Q w H'):=by
 obtain⟨tv,hsf,ρ,s,M,W⟩:=h
 refine⟨tv,hsf,ρ,s,M, ?_⟩
 unfold z4Z bd at W
 cases em:mi s with
 |ex d s1=>rw[em] at W;exact W
 |no=>rw[em] at W;exact W
 |ok K s1=>
  rw[em] at W
  intro ρ1 H1 tvs J hl M1 hok _
  refine⟨fun i m rs σ' H'=> ∃ρ s,MR G F.blk.toFx ρ H' σ' ((rs.map fun r=>some (V.ref r.2))++(σ++(tvs++tv))) s/\wM G F σ tv (z3D K g mt me s1.σ.length m i (rs.map (·.1)) s) Q,⟨_,ρ1,_,M1.enter0 k ix,W⟩, ?_⟩
  rintro i m rs σ' H' ⟨ρ2,s2,M2,W2⟩
  have ol:s1.σ.length=σ.length:=M1.sl.length
  have ok:=hok F.blk.toFx ρ2 H' σ' ((rs.map fun r=>some (V.ref r.2))++σ) tv s2 i (by rw[List.append_assoc];exact M2)
  simp only[List.length_append,List.length_map,<-ol,List.append_assoc] at ok
  unfold z3D at W2
  rw[List.length_map] at W2
  cases e:K.at' i (s2.tm.drop (rs.length+s1.σ.length)) with
  |none=>simp only[e] at W2;exact False.elim W2
  |some o=>
   rw[e] at ok
   cases o with
   |none=>
    simp only[e] at W2 ok
    refine .inl ⟨ok, ?_⟩
    have ML:=MR.leave0 M2 hl (List.length_map _) _ ol.symm
    unfold z5G at W2
    cases ea:allO (s2.tm.take rs.length) with
    |none=>simp only[ea] at W2;exact False.elim W2
    |some ds=>
     simp only[ea] at W2
     split at W2
     ·rename_i hc
      obtain⟨hc,lin⟩:=hc
      simp only[Bool.and_eq_true,List.isEmpty_iff,decide_eq_true_eq,List.length_map,List.all_map] at hc
      obtain⟨⟨⟨⟨c1,c2⟩,c3⟩,c4⟩,c5⟩:=hc
      have t1:=(Sl.split (rs.map fun r=>some (V.ref r.2)) M2.tm).1
      rw[List.length_map,z7u ea] at t1
      obtain⟨z1,z2,z3⟩:=z7v (z9o t1)
      refine⟨fun r hr=>List.all_eq_true.mp c4 r hr,c5,fun rs' pp=> ?_⟩
      obtain⟨L,pL,eL⟩:=z2Q (f:=fun p:(NK×Addr)×D=>p.1) (l:=rs.zip ds) (bs:=rs') (by rw[z1];exact pp)
      have pd:(L.map (·.2)).Perm ds:=by
       have:=pL.map (·.2)
       rw[z2] at this
       exact this
      have rd:=z9n (G:=G) (ρ:=ρ2) (H:=H') (L:=L) fun p hp=>z3 p (pL.mem_iff.mp hp)
      rw[<-eL] at rd
      have hlen:rs'.length=(L.map (·.2)).length:=by have:=RDs.len2 rd;simpa using this.symm
      refine⟨erL (L.map (·.2)),RDs.dp _ _ rd (z2d.mpr fun d hd=>z2d.mp c1 d (pd.mem_iff.mp hd)),z67 pd c2,fun l hn kd=> ?_⟩
      have r2:=RDs.perm rd _ (So.permS_lt (n:=(L.map (·.2)).length) (cmp:=cmpD (erL (L.map (·.2)))))
      have es:(So.permS (L.map (·.2)).length (cmpD (erL (L.map (·.2))))).map (fun i=>(L.map (·.2)).getD i .non)=z0J ds:=z5E lin pd
      rw[es] at r2
      rw[hlen] at kd⊢
      exact z0S W2 ML r2 (fun j hj=>by unfold z0J at hj;rw[z2M c3] at hj;cases hj) hn kd
     ·exact False.elim W2
   |some d=>
    simp only[e] at W2 ok
    cases m with
    |zero=>exact False.elim W2
    |succ f=>
     dsimp only at W2
     cases e2:asg g d s2.σ with
     |none=>simp only[e2] at W2;exact False.elim W2
     |some σ3=>
      simp only[e2] at W2
      refine .inr ⟨ok.1,fun x H2 y=> ?_⟩
      have hx:=ok.2 x H2 y
      refine⟨F.blk,_,ρ2,s2,d,hx,σ3,e2,fun σv' M3=>⟨F.blk,_,List.nil_suffix,ρ2,_,M3, ?_⟩⟩
      cases e3:mt {s2 with σ:=σ3} with
      |ex d s4=>simp only[e3] at W2;exact False.elim W2
      |no=>simp only[e3] at W2;exact False.elim W2
      |ok b s4=>
       intro ρ4 H4 M4
       cases b with
       |false=>
        simp only[e3] at W2
        rw[if_neg Bool.false_ne_true]
        exact⟨f,Nat.lt_succ_self _,ρ4,s4,M4,W2⟩
       |true=>
        simp only[e3] at W2
        rw[if_pos rfl]
        by_cases hz:rs.length<76
        ·rw[if_pos hz] at W2
         refine⟨F.blk,_,List.nil_suffix,ρ4,s4,M4, ?_⟩
         cases e5:me s4 with
         |ex d s5=>simp only[e5] at W2;exact False.elim W2
         |no=>simp only[e5] at W2;exact False.elim W2
         |ok y s5=>
          simp only[e5] at W2
          intro ρ5 v H5 M5
          cases e6:tkey y with
          |none=>simp only[e6] at W2;exact False.elim W2
          |some q=>
           simp only[e6] at W2
           obtain⟨b,rfl,tk,_⟩:=z74 M5.rd1 e6
           by_cases hks:(s5.tm.take rs.length).map (fun o=>o.bind tkey)=(rs.map (·.1)).map some
           ·rw[if_pos hks] at W2
            have t1:=(Sl.split (rs.map fun r=>some (V.ref r.2)) M5.m.tm).1
            rw[List.length_map] at t1
            refine⟨q,b,rfl,tk,z7s t1 (by rw[hks,List.map_map];rfl),hz,f,Nat.lt_succ_self _,ρ5, ?_⟩
            unfold insR
            rw[zcn] at W2
            by_cases hq:hasR q rs=true
            ·rw[if_pos hq] at W2⊢
             exact⟨s5,M5.m,W2⟩
            ·rw[if_neg hq] at W2⊢
             exact⟨s5.psh y,M5.push,W2⟩
           ·rw[if_neg hks] at W2;exact False.elim W2
        ·rw[if_neg hz] at W2;exact False.elim W2
theorem se_srtset{scope:Scope}{own frees:List Str}{ix:List Nat}{ifs:List Expr}{mi:M ItK}{g:Tg}{mt:M Bool}{me:M D}{p cpos:Pos}(hk:X.K=G.K)(hu:X.A.units+64<cLine)(hh:X.A.handled=none)(hgl:Gl X "sorted")(hml:X.mg "sorted" =none)(hc:X.calm=true)(S:z0i X.env.scope scope own frees X.N ix)(hi:SI X G F tg iter mi)
 (hg: ∀(F:Fy) cl C s₀ H₀ fp pn,SG (z04 X scope own frees cl C s₀ H₀ fp pn) G F tg g) (ht: ∀(F:Fy) cl C s₀ H₀ fp pn,STs (z04 X scope own frees cl C s₀ H₀ fp pn) G F ifs mt) (he: ∀(F:Fy) cl C s₀ H₀ fp pn,SE (z04 X scope own frees cl C s₀ H₀ fp pn) G F elt me)
 (hs: ∀x,foldedSetIterable iter X.env x=pure x:=by intro _;rfl)
 (hso:starEach [.SetComp elt [⟨tg,iter,ifs,0⟩] scope pos] X.env=[(false,eval (.SetComp elt [⟨tg,iter,ifs,0⟩] scope pos) X.env)]:=by rfl):
 SE X G F (.Call (.Name "sorted" p) [.SetComp elt [⟨tg,iter,ifs,0⟩] scope pos] [] cpos) (z4Z mi g mt me own.length ix):=
 PE.imp hk (z7r (g:=tGx G g) (tt:=tBx G mt) (te:=tMx G me) hgl hml hu hc hh S hi (fun cl C s₀ H₀ fp pn pins s σ H v u Q I r ⟨F',q⟩=>hg F' cl C s₀ H₀ fp pn pins s σ H v u Q I r q)
  (fun cl C s₀ H₀ fp pn pins s σ H Q I ⟨F',q⟩=>ht F' cl C s₀ H₀ fp pn pins s σ H Q I q) (fun cl C s₀ H₀ fp pn pins s σ H Q I ⟨F',q⟩=>he F' cl C s₀ H₀ fp pn pins s σ H Q I q) hs hso) fun σ H Q h=>hk▸z8M h
end
noncomputable def putAll(j:Nat):List D->Stt->Stt
 |[],s=>s
 |d::es,s=>putAll j es (({s with σ:=s.σ.set j (some d)}).psh d)
noncomputable def z2S(K:ItK)(g:Tg)(me:M D)(j ol:Nat):Nat->Nat->Nat->M D
 |f,i,k=>fun s=>match K.at' i (s.tm.drop (k+ol)) with
  |none=> .no
  |some none=>match z0a (s.tm.take k).reverse with
   |some ds=> .ok (.lst s.n ds) {σ:=(s.tm.drop k).take ol,tm:=s.tm.drop (k+ol+K.k),n:=s.n+1}
   |none=> .no
  |some (some d)=>match f with
   |0=> .no
   |f+1=>match asg g d s.σ with
    |none=> .no
    |some σ'=>match me {s with σ:=σ'} with
     | .ok (.tup es) s1=>if k+es.length<=sizeLine/\j<s1.σ.length then z2S K g me j ol f (i+1) (k+es.length) (putAll j es s1) else .no
     |_=> .no
noncomputable def z50(mi:M ItK)(g:Tg)(me:M D)(j own:Nat)(ix:List Nat):M D:=bd mi fun K s=>z2S K g me j s.σ.length (K.len s.tm) 0 0 (z2I own ix s)
section
variable{X:Cx}{G:Gx}{F:Fy}{e a b c tg iter elt tg2 iter2:Expr}{pos:Pos}
theorem z7w{σ:St}{j:Nat}{x:V}{xs:List V}:setL (σ.set j (some x)) j xs=setL σ j (x::xs):=by
 unfold setL
 cases xs with
 |nil=>rfl
 |cons y ys=>
  rw[List.getLast?_cons_cons]
  cases h:(y::ys).getLast? with
  |none=>simp at h
  |some z=>exact List.set_set ..
theorem z4v{ρ:Nat->Addr}{H:Hp}{tv0:List (Option V)}{j:Nat}: ∀(es:List D) (xs:List V) (σv tv:List (Option V)) (s:Stt),MRL G F.toFx ρ H σv tv s es xs->MR G F.toFx ρ H (setL σv j xs) (xs.reverse.map some++tv) (putAll j es s)
 |[],xs,σv,tv,s,M=>by
  have h:=M.rd
  simp only[RDs] at h
  subst h
  exact M.m
 |d::es,xs,σv,tv,s,M=>by
  have h:=M.rd
  simp only[RDs] at h
  obtain⟨x,r,rfl,h1,h2⟩:=h
  have M1:MRL G F.toFx ρ H σv tv s [d,d] [x,x]:=⟨M.m,by simp only[RDs];exact⟨_,_,rfl,h1,_,_,rfl,h1,rfl⟩,fun l hl=>M.lb l (by simp only[labsL,List.append_nil,List.mem_append,or_self] at hl;simp only[labsL];exact List.mem_append_left _ hl)⟩
  have M2:=(MRL.setS j M1).push
  have:=z4v (tv0:=tv0) (j:=j) es r _ _ _ ⟨M2,h2,fun l hl=>M.lb l (by simp only[labsL];exact List.mem_append_right _ hl)⟩
  rw[z7w] at this
  rw[List.reverse_cons,List.map_append,List.append_assoc]
  exact this
theorem z8N{K:W.Frag}{j k:Nat}{ix:List Nat}{mi:M ItK}{g:Tg}{me:M D}{σ:St}{H:Hp}{Q:VK}(hk:K=G.K)(h:tM G F (z50 mi g me j k ix) σ H Q):zco K (tI G F mi) (tGx G g) (tMx G me) j k ix σ H Q:=by
 obtain⟨tv,hsf,ρ,s,M,W⟩:=h
 refine⟨tv,hsf,ρ,s,M, ?_⟩
 unfold z50 bd at W
 cases em:mi s with
 |ex d s1=>rw[em] at W;exact W
 |no=>rw[em] at W;exact W
 |ok K s1=>
  rw[em] at W
  intro ρ1 H1 tvs J hl M1 hok A1 hA1 kd
  subst hk
  have kd:KD G.K (upd H1 A1 (.lst [])):=kd
  have hf:=M1.fresh0 hA1
  refine⟨fun i m ys σ' H'=> ∃ρ s,MR G (F.prot A1 ys hf).toFx ρ H' σ' ((ys.reverse.map some)++(σ++(tvs++tv))) s/\wM G F σ tv (z2S K g me j s1.σ.length m i ys.length s) Q,⟨_,ρ1,_,M1.enter hA1 kd k ix,W⟩, ?_⟩
  rintro i m ys σ' H' ⟨ρ2,s2,M2,W2⟩
  have hD:=(MR.turnD (ys':=ys) M2).1
  refine⟨hD, ?_⟩
  have ol:s1.σ.length=σ.length:=M1.sl.length
  have ok:=hok (F.prot A1 ys hf).toFx ρ2 H' σ' ((ys.reverse.map some)++σ) tv s2 i (by rw[List.append_assoc];exact M2)
  simp only[List.length_append,List.length_map,List.length_reverse,<-ol,List.append_assoc] at ok
  unfold z2S at W2
  cases e:K.at' i (s2.tm.drop (ys.length+s1.σ.length)) with
  |none=>simp only[e] at W2;exact False.elim W2
  |some o=>
   rw[e] at ok
   cases o with
   |none=>
    simp only[e] at W2 ok
    refine .inl ⟨ok, ?_⟩
    cases ea:z0a (s2.tm.take ys.length).reverse with
    |none=>simp only[ea] at W2;exact False.elim W2
    |some ds=>
     simp only[ea] at W2
     exact W2 _ _ _ (MR.leave M2 hl _ ol.symm ea)
   |some d=>
    simp only[e] at W2 ok
    cases m with
    |zero=>exact False.elim W2
    |succ f=>
     dsimp only at W2
     cases e2:asg g d s2.σ with
     |none=>simp only[e2] at W2;exact False.elim W2
     |some σ3=>
      simp only[e2] at W2
      refine .inr ⟨ok.1,fun x H2 y=> ?_⟩
      have hx:=ok.2 x H2 y
      refine⟨F.prot A1 ys hf,_,ρ2,s2,d,hx,σ3,e2,fun σv' M3=>⟨F.prot A1 ys hf,_,List.nil_suffix,ρ2,_,M3, ?_⟩⟩
      cases e5:me {s2 with σ:=σ3} with
      |ex d s5=>simp only[e5] at W2;exact False.elim W2
      |no=>simp only[e5] at W2;exact False.elim W2
      |ok y s5=>
       cases y with
       |tup es=>
        simp only[e5] at W2
        by_cases hz:ys.length+es.length<=sizeLine/\j<s5.σ.length
        ·rw[if_pos hz] at W2
         intro ρ5 v H5 M5
         have r5:=M5.rd1
         simp only[RD] at r5
         obtain⟨a,xs,rfl,hx5,rx5⟩:=r5
         have ML:MRL G (F.prot A1 ys hf).toFx ρ5 H5 _ _ s5 es xs:=⟨M5.m,rx5,fun l hl=>M5.lb l (by simp only[labsL,labs,List.append_nil];exact hl)⟩
         have len:=RDs.len2 rx5
         have lσ:s5.σ.length=σv'.length:=M5.m.sl.length
         obtain⟨hD5,M6⟩:=MR.turnD (ys':=ys++xs) (z4v (tv0:=[]) (j:=j) es xs _ _ _ ML)
         refine⟨a,xs,rfl, .inl (.inl hx5),hD5,by lia,by rw[<-lσ];exact hz.2,f,Nat.lt_succ_self _,ρ5,putAll j es s5, ?_, ?_⟩
         ·rw[List.reverse_append,List.map_append,List.append_assoc]
          exact M6
         ·rw[List.length_append,<-len];exact W2
        ·rw[if_neg hz] at W2;exact False.elim W2
       |_=>simp only[e5] at W2;exact False.elim W2
theorem se_flat{scope:Scope}{own frees:List Str}{ix:List Nat}{mi:M ItK}{g:Tg}{me:M D}{j:Nat}(hk:X.K=G.K)(hc:X.calm=true)(S:z0i X.env.scope scope own frees X.N ix)(hi:SI X G F tg iter mi)
 (hg: ∀(F:Fy) cl C s₀ H₀ fp pn,SG (z04 X scope own frees cl C s₀ H₀ fp pn) G F tg g) (hg2: ∀cl C s₀ H₀ fp pn,PG (z04 X scope own frees cl C s₀ H₀ fp pn) tg2 (z2z j)) (he2: ∀(F:Fy) cl C s₀ H₀ fp pn,SE (z04 X scope own frees cl C s₀ H₀ fp pn) G F iter2 me) (he: ∀cl C s₀ H₀ fp pn,PE (z04 X scope own frees cl C s₀ H₀ fp pn) elt (tVar j))
 (hs: ∀x,foldedSetIterable iter X.env x=pure x:=by intro _;rfl) (hs2: ∀e x,foldedSetIterable iter2 e x=pure x:=by intro _ _;rfl):SE X G F (cFl elt tg iter tg2 iter2 scope pos) (z50 mi g me j own.length ix):=
 PE.imp0 (zaH (g:=tGx G g) (te2:=tMx G me) hc S hi (fun cl C s₀ H₀ fp pn pins s σ H v u Q I r ⟨F',q⟩=>hg F' cl C s₀ H₀ fp pn pins s σ H v u Q I r q) hg2
  (fun cl C s₀ H₀ fp pn pins s σ H Q I ⟨F',q⟩=>he2 F' cl C s₀ H₀ fp pn pins s σ H Q I q) he hs hs2) fun σ H Q h=>z8N hk h
end
end Mi
namespace L2
open PySem PySem.Spec PyProof.Rows
noncomputable def zdO(ns:List Int):Nat:=argBest (fun i j=>decide ((ns[i]?).getD 0>(ns[j]?).getD 0)) (ns.length - 1)
noncomputable def maxI(ns:List Int):Int:=(ns[zdO ns]?).getD 0
section
variable{X:Cx}
theorem z20{its:List Value}{ns:List Int}(rv:Vals (ns.map V.int) its): ∀(i:Nat) (v:Value),its.toArray[i]? =some v->∃t,v=Value.int ((ns[i]?).getD 0) t:=fun i v hv=>by
 have hlen:ns.length=its.length:=by have:=Paired.length rv;simpa using this
 have hv:its[i]? =some v:=by simpa using hv
 have hi:i<ns.length:=by have:=(List.getElem?_eq_some_iff.mp hv).1;lia
 obtain⟨u,h1,h2⟩:=Vals.get (i:=i) (x:=V.int ns[i]) rv (by simp[hi])
 rw[h1] at hv
 cases hv
 obtain⟨t,rfl⟩:=h2
 exact⟨t,by simp[hi]⟩
noncomputable def zcp(K:W.Frag)(xs:List V)(H:Hp)(Q:VK):Prop:= ∃(p:Addr) (ns:List Int),xs=[.ref p]/\(SqL K H p (ns.map V.int)\/SqT K H p (ns.map V.int))/\ns≠[]/\Q (.int (maxI ns)) H
theorem z7x(hc:X.A.handled=none):CallR X (.builtin "max") (zcp X.K):=by
 intro pins s σ H xs us Q I r h
 obtain⟨p,ns,rfl,hs,hne,q⟩:=h
 obtain⟨u,rfl,ru⟩:=z41 r
 cases ru
 have hp:0<ns.length:=List.length_pos_iff.mpr hne
 rcases hs with hs|hs
 ·obtain⟨its,rv,pl,_⟩:=I.list hs
  have hl:=pl.isList
  have hlen:ns.length=its.length:=by have:=Paired.length rv;simpa using this
  have hlt:p<s.heap.objs.size:=by obtain⟨_,e,_⟩:=hl;exact Heap.lt_size e
  refine call_max_walk (wpAny_pyIter_list hl ?_)
  refine⟨s.heap.objs.size,[s.heap.objs.size,p],[s.heap.objs.size],its.toArray.size,_,_,fun i j=>decide ((ns[i]?).getD 0>(ns[j]?).getD 0),rfl,Walks.list (A:=X.A.in1) hc _ p (Nat.ne_of_lt hlt) its.toArray,
   ⟨⟨_,Heap.get?_push_size _ rfl,rfl,rfl⟩,hl.push _⟩,fun b hb=> ?_,by rw[List.size_toArray];lia,CmpOf.ints_gt _ (z20 rv),fun v h' tk hv hk=> ?_⟩
  ·simp only[List.mem_cons,List.not_mem_nil,or_false] at hb
   rcases hb with rfl|rfl
   ·rw[PyProof.Rows.size_push'];exact Nat.lt_succ_self _
   ·rw[PyProof.Rows.size_push'];exact Nat.lt_succ_of_lt hlt
  ·obtain⟨t,ht⟩:=z20 rv _ v hv
   rw[List.size_toArray,<-hlen] at ht
   exact⟨.int _,H,I.kept (h':=h') (t':=tk) (fun b o e=>hk b o (by
    simp only[List.mem_singleton]
    exact Nat.ne_of_lt (Heap.lt_size e)) (Heap.get?_push_of_some _ e)),⟨t,ht⟩,q⟩
 ·obtain⟨its,rv,pl,_⟩:=I.tuple hs
  have hl:s.heap.IsTuple p its.toArray:=pl
  have hlen:ns.length=its.length:=by have:=Paired.length rv;simpa using this
  have hlt:p<s.heap.objs.size:=by obtain⟨_,e,_⟩:=hl;exact Heap.lt_size e
  refine call_max_walk (wpAny_pyIter_tuple hl ?_)
  refine⟨s.heap.objs.size,[s.heap.objs.size,p],[s.heap.objs.size],its.toArray.size,_,_,fun i j=>decide ((ns[i]?).getD 0>(ns[j]?).getD 0),rfl,Walks.tuple (A:=X.A.in1) hc _ p (Nat.ne_of_lt hlt) its.toArray,
   ⟨⟨_,Heap.get?_push_size _ rfl,rfl,rfl⟩,hl.at fun o e=>Heap.get?_push_of_some _ e⟩,fun b hb=> ?_,by rw[List.size_toArray];lia,CmpOf.ints_gt _ (z20 rv),fun v h' tk hv hk=> ?_⟩
  ·simp only[List.mem_cons,List.not_mem_nil,or_false] at hb
   rcases hb with rfl|rfl
   ·rw[PyProof.Rows.size_push'];exact Nat.lt_succ_self _
   ·rw[PyProof.Rows.size_push'];exact Nat.lt_succ_of_lt hlt
  ·obtain⟨t,ht⟩:=z20 rv _ v hv
   rw[List.size_toArray,<-hlen] at ht
   exact⟨.int _,H,I.kept (h':=h') (t':=tk) (fun b o e=>hk b o (by
    simp only[List.mem_singleton]
    exact Nat.ne_of_lt (Heap.lt_size e)) (Heap.get?_push_of_some _ e)),⟨t,ht⟩,q⟩
theorem z7y(a b:Value):argsOk "sum" ⟨[a,b],[]⟩:=by unfold argsOk;kernel_rfl
theorem z7z{prog:Program}{w:World}{A:Around}{s:Shared}{R:Result->Shared->Prop}(hh:A.handled=none){I S p:Addr}{items:Array Value}{parts:List (Addr×Array Value×Nat)}{h₁:Heap}(hIS:I≠S)(hpI:p≠I)(hpS:p≠S)
 (hit:items=(parts.map fun x=>Value.ref x.1).toArray) (hpl:h₁.IsList p items) (hprt: ∀x∈parts,PySem.IsL h₁ x.1 x.2.1 x.2.2/\x.1≠S/\x.1≠I) (hz:(parts.map fun x=>x.2.1.size).sum<=sizeLine)
 (hR: ∀h' tk t c (acc:Array Value),(∀b o,b≠S->b≠I->h₁.get? b=some o->h'.get? b=some o)->PySem.IsL h' t acc c->acc.toList=(parts.map fun x=>x.2.1.toList).flatten->(parts≠[]->h₁.objs.size<=t)->R (.ok (.ret (.ref t))) {s with heap:=h',toks:=tk}):
 ∀(k i:Nat) (h:Heap) (tk c t ct:Nat) (acc:Array Value),parts.length -i=k->i<=parts.length->h.IsListIter I p i->(∀b o,b≠S->b≠I->h₁.get? b=some o->h.get? b=some o)->h₁.objs.size<=h.objs.size->
  h.get? S=some {cls:= .type "list",dict:=none,data:= .seq #[.ref t] c,slots:= #[]}->PySem.IsL h t acc ct->t≠S->t≠I->acc.toList=((parts.take i).map fun x=>x.2.1.toList).flatten->(0<i->h₁.objs.size<=t)->
  codeAny (model prog w) A (.builtin "sum.loop" ⟨[.ref I, .ref S,rawInt 2,rawInt 0],[]⟩) R {s with heap:=h,toks:=tk}:=by
 intro k
 induction k with
 |zero=>
  intro i h tk c t ct acc hk hi hst hkeep hsz hS ht htS htI hacc ht0
  have hin:i=parts.length:=by lia
  have hp':h.IsList p items:=by obtain⟨o,e,q⟩:=hpl;exact⟨o,hkeep p o hpS hpI e,q⟩
  refine codeAny_builtin F.entry_sum_loop ?_
  rw[Around.under_plainId F.plain_sum_loop _]
  show wpAny _ A.in1 (seqItems? (.ref S)>>=_) _ _ _
  refine wpAny_bind (wpAny_seqItems hS rfl ?_)
  show wpAny _ A.in1 (tryCatch (pyNext (.ref I)) _>>=_) _ _ _
  have hlen:items.size=parts.length:=by rw[hit];simp
  refine wpAny_bind (wpAny_tryCatch (wpAny_pyNext_list_end (A:=A.in1) (s:={s with heap:=h,toks:=tk}) hh hst hp' (by simp;lia) fun h' he=> ?_))
  refine wpAny_pure (hR h' tk t ct acc (fun b o h1 h2 e=>he b o h2 (hkeep b o h1 h2 e)) (he t _ htI ht) ?_ fun hne=>ht0 ?_)
  ·rw[hacc,List.take_of_length_le (by lia)]
  ·have:=List.length_pos_iff.mpr hne;lia
 |succ k ih=>
  intro i h tk c t ct acc hk hi hst hkeep hsz hS ht htS htI hacc ht0
  have hlt:i<parts.length:=by lia
  have hp':h.IsList p items:=by obtain⟨o,e,q⟩:=hpl;exact⟨o,hkeep p o hpS hpI e,q⟩
  obtain⟨hx,hxS,hxI⟩:=hprt parts[i] (List.getElem_mem hlt)
  refine codeAny_builtin F.entry_sum_loop ?_
  rw[Around.under_plainId F.plain_sum_loop _]
  show wpAny _ A.in1 (seqItems? (.ref S)>>=_) _ _ _
  refine wpAny_bind (wpAny_seqItems hS rfl ?_)
  show wpAny _ A.in1 (tryCatch (pyNext (.ref I)) _>>=_) _ _ _
  refine wpAny_bind (wpAny_tryCatch (wpAny_pyNext_list_item (A:=A.in1) (s:={s with heap:=h,toks:=tk}) hst hp' (x:= .ref parts[i].1) (by rw[hit];simp[hlt]) fun h' hst' sb=> ?_))
  have sb:Heap.SameBut I h h':=sb
  have ht':PySem.IsL h' t acc ct:=(sb.2 t htI).trans ht
  have hx':PySem.IsL h' parts[i].1 parts[i].2.1 parts[i].2.2:=(sb.2 _ hxI).trans (hkeep _ _ hxS hxI hx)
  have hS':=(sb.2 S (Ne.symm hIS)).trans hS
  have hbound:acc.size+parts[i].2.1.size<=sizeLine:=by
   have e1:acc.size=((parts.take i).map fun x=>x.2.1.size).sum:=by
    rw[<-Array.length_toList,hacc,List.length_flatten,List.map_map]
    congr 1
   have e2:(parts.map fun x=>x.2.1.size)=(parts.take i).map (fun x=>x.2.1.size)++parts[i].2.1.size::(parts.drop (i+1)).map (fun x=>x.2.1.size):=by
    rw[<-List.map_cons (f:=fun x:Addr×Array Value×Nat=>x.2.1.size),<-List.map_append,List.getElem_cons_drop,List.take_append_drop]
   rw[e2,List.sum_append,List.sum_cons] at hz
   lia
  show wpAny _ A.in1 ((holding [Value.ref parts[i].1] (binaryOp .Add (.ref t) (.ref parts[i].1))).attempt>>=_) _ _ _
  refine wpAny_bind (wpAny_attempt (wpAny_holding (PySem.P.add_list (s:={s with heap:=h',toks:=tk}) ht' hx' ?_ hbound)))
  have hsz':h'.objs.size=h.objs.size:=sb.1
  have hN:(h'.push {cls:= .type "list",data:= .seq (acc++parts[i].2.1)}).get? h'.objs.size=some {cls:= .type "list",data:= .seq (acc++parts[i].2.1)}:=Heap.get?_push_size _ rfl
  have kp: ∀b o,h'.get? b=some o->(h'.push {cls:= .type "list",data:= .seq (acc++parts[i].2.1)}).get? b=some o:=fun b o e=>Heap.get?_push_of_some _ e
  have hS2:=kp S _ hS'
  have nS:h'.objs.size≠S:=Nat.ne_of_gt (Heap.lt_size hS')
  have nI:h'.objs.size≠I:=by obtain⟨o,q,_⟩:=hst';exact Nat.ne_of_gt (Heap.lt_size q)
  dsimp only
  show wpAny _ A.in1 (updateSeq S (fun _=> #[.ref h'.objs.size])>>=_) _ _ _
  refine wpAny_bind (wpAny_updateSeq hS2 rfl ?_)
  have hS3:=Heap.get?_update_self (Obj.mapSeq fun _=> #[Value.ref h'.objs.size]) hS2 rfl
  refine wpAny_bind (wpAny_letGo ?_)
  have oth: ∀b o,b≠S->(h'.push {cls:= .type "list",data:= .seq (acc++parts[i].2.1)}).get? b=some o->((((h'.push {cls:= .type "list",data:= .seq (acc++parts[i].2.1)}).update S (Obj.mapSeq fun _=> #[Value.ref h'.objs.size])).update S (Obj.mapSeq fun _=> #[Value.ref h'.objs.size]))).get? b=some o:=fun b o hb e=>
   (Heap.get?_update_other _ _ (Ne.symm hb)).trans ((Heap.get?_update_other _ _ (Ne.symm hb)).trans e)
  refine wpAny_bind (wpAny_updateSeq hS3 rfl (wpAny_pure ⟨plainId_quiet F.plain_sum_loop _,ih (i+1) _ tk _ h'.objs.size _ (acc++parts[i].2.1) (by lia) hlt ?_ (fun b o h1 h2 e=>oth b o h1 (kp b o ((sb.2 b h2).trans (hkeep b o h1 h2 e)))) ?_ (Heap.get?_update_self _ hS3 rfl) (oth _ _ nS hN) nS nI ?_ fun _=> ?_⟩))
  ·obtain⟨o,e,q⟩:=hst'
   exact⟨o,oth I o hIS (kp I o e),q⟩
  ·rw[Heap.size_update,Heap.size_update,Heap.size_push];lia
  ·rw[Array.toList_append,hacc,List.take_add_one,List.getElem?_eq_getElem hlt,Option.toList_some,List.map_append,List.flatten_append]
   simp
  ·lia
theorem z4w:isSubtype (.type "list") (.type "str")=pure false:=by rw[isSubtype_type];kernel_rfl
theorem z3e:isSubtype (.type "list") (.type "bytes")=pure false:=by rw[isSubtype_type];kernel_rfl
theorem z21:isSubtype (.type "list") (.type "bytearray")=pure false:=by rw[isSubtype_type];kernel_rfl
theorem z8O{pins:List (Addr×Obj)}{σ:St}{H:Hp}{s:Shared}(I:Inv X pins σ H s){as:List Addr}{ps:List (List V)}(h:Paired (fun a xs=>H a=some (.lst xs)) as ps):
 ∃parts:List (Addr×Array Value×Nat),parts.map (·.1)=as/\(∀x∈parts,PySem.IsL s.heap x.1 x.2.1 x.2.2)/\Vals ps.flatten ((parts.map fun x=>x.2.1.toList).flatten)/\(parts.map fun x=>x.2.1.size).sum=ps.flatten.length:=by
 induction h with
 |nil=>exact⟨[],rfl,(fun _ h=>nomatch h), .nil,rfl⟩
 | @cons a xs as ps ha hr ih=>
  obtain⟨parts,h1,h2,h3,h4⟩:=ih
  obtain⟨z,its,n,rv,hl,e⟩:=I.lstM ha
  refine⟨(a,its.toArray,n)::parts,by rw[List.map_cons,h1],fun x hx=> ?_, ?_, ?_⟩
  ·rcases List.mem_cons.mp hx with rfl|hx
   ·exact e
   ·exact h2 x hx
  ·rw[List.map_cons,List.flatten_cons,List.flatten_cons]
   exact rv.append h3
  ·have:=Paired.length rv
   rw[List.map_cons,List.sum_cons,List.flatten_cons,List.length_append,h4]
   simp only[List.size_toArray]
   lia
noncomputable def zcq(K:W.Frag)(xs:List V)(H:Hp)(Q:VK):Prop:= ∃(p q:Addr) (as:List Addr) (ps:List (List V)),xs=[.ref p, .ref q]/\SqL K H p (as.map V.ref)/\Paired (fun a xs=>H a=some (.lst xs)) as ps/\H q=some (.lst [])/\as≠[]/\ps.flatten.length<=sizeLine/\∀l,H l=none->Q (.ref l) (upd H l (.lst ps.flatten))
theorem z7A(hc:X.A.handled=none):CallR X (.builtin "sum") (zcq X.K):=by
 intro pins s σ H xs us Q I r h
 obtain⟨p,q,as,ps,rfl,hp,hps,hq,hne,hz,qq⟩:=h
 have eu:us=[Value.ref p,Value.ref q]:=by
  cases r with
  |cons a b=>cases b with
   |cons c d=>cases d;cases a;cases c;rfl
 subst eu
 obtain⟨its,rv,pl,_⟩:=I.list hp
 obtain⟨_,its0,n0,rv0,_,e0⟩:=I.lstM hq
 cases rv0
 obtain⟨parts,h1,h2,h3,h4⟩:=z8O I hps
 have hl:=pl.isList
 have hlt:p<s.heap.objs.size:=by obtain⟨_,e,_⟩:=hl;exact Heap.lt_size e
 have hits:its=parts.map fun x=>Value.ref x.1:=by
  have e: ∀(as:List Addr) (its:List Value),Vals (as.map V.ref) its->its=as.map Value.ref:=by
   intro as
   induction as with
   |nil=>intro its h;cases h;rfl
   |cons a as ih=>intro its h;cases h with|cons x y=>cases x;rw[ih _ y];rfl
  rw[e _ _ rv,<-h1,List.map_map];rfl
 refine call_function_tree F.kind_sum F.plain_sum F.entry_sum (z7y _ _) ?_
 unfold Builtin.«sum»
 simp only[List.length_cons,List.length_nil]
 rw[if_neg (by decide)]
 refine wpAny_bind (wpAny_of_eq (show Builtin.Builtins.bindParams "sum" ["start"] 0 ⟨[.ref q],[]⟩=pure [some (.ref q)] from rfl) ?_)
 refine wpAny_bind (wpAny_pyIter_list hl ?_)
 refine wpAny_bind (wpAny_pure ?_)
 simp only[List.forIn_cons,List.forIn_nil]
 have hI:(s.heap.push {cls:= .type "list_iterator",data:= .fields #[.ref p, .int 0 0]}).get? s.heap.objs.size=some {cls:= .type "list_iterator",data:= .fields #[.ref p, .int 0 0]}:=Heap.get?_push_size _ rfl
 have k1: ∀b o,s.heap.get? b=some o->(s.heap.push {cls:= .type "list_iterator",data:= .fields #[.ref p, .int 0 0]}).get? b=some o:=fun b o e=>Heap.get?_push_of_some _ e
 have hz1:(s.heap.push {cls:= .type "list_iterator",data:= .fields #[.ref p, .int 0 0]}).objs.size=s.heap.objs.size+1:=by rw[Heap.size_push]
 generalize s.heap.push {cls:= .type "list_iterator",data:= .fields #[.ref p, .int 0 0]}=h1' at hI k1 hz1⊢
 have hq1:=k1 q _ e0
 have tq:Shared.TypeIs {s with heap:=h1'} (.ref q) "list" :=⟨_,hq1,rfl⟩
 refine wpAny_bind (wpAny_bind (wpAny_bind (wpAny_isInstance (T:= "list") (b:=false) tq z4w ?_)))
 simp only[Bool.false_eq_true,if_false]
 refine wpAny_pure (wpAny_bind (wpAny_bind (wpAny_isInstance (T:= "list") (b:=false) tq z3e ?_)))
 simp only[Bool.false_eq_true,if_false]
 refine wpAny_pure (wpAny_bind (wpAny_bind (wpAny_isInstance (T:= "list") (b:=false) tq z21 ?_)))
 simp only[Bool.false_eq_true,if_false]
 refine wpAny_pure (wpAny_pure ?_)
 refine wpAny_bind (wpAny_newObj_type ?_)
 have hS:(h1'.push {cls:= .type "list",data:= .seq [Value.ref q].toArray}).get? h1'.objs.size=some {cls:= .type "list",data:= .seq #[Value.ref q]}:=Heap.get?_push_size _ rfl
 have k2: ∀b o,h1'.get? b=some o->(h1'.push {cls:= .type "list",data:= .seq [Value.ref q].toArray}).get? b=some o:=fun b o e=>Heap.get?_push_of_some _ e
 have hz2:(h1'.push {cls:= .type "list",data:= .seq [Value.ref q].toArray}).objs.size=h1'.objs.size+1:=by rw[Heap.size_push]
 have hltq:=Heap.lt_size e0
 refine wpAny_pure ⟨plainId_quiet F.plain_sum_loop _,z7z (s:={s with heap:=h1'}) (R:=_) (h₁:=h1'.push {cls:= .type "list",data:= .seq [Value.ref q].toArray}) (I:=s.heap.objs.size) (S:=h1'.objs.size) (p:=p) (items:=its.toArray) (parts:=parts) hc (Nat.ne_of_lt (by rw[hz1];exact Nat.lt_succ_self _)) (Nat.ne_of_lt hlt) (Nat.ne_of_lt (by rw[hz1];exact Nat.lt_succ_of_lt hlt)) (by rw[hits]) ?_ ?_ (by rw[h4];exact hz) (fun h' tk t c acc kp ht hacc hnew=> ?_) parts.length 0 _ s.toks 0 q n0 #[] (Nat.sub_zero _) (Nat.zero_le _) ⟨_,k2 _ _ hI,rfl,rfl⟩ (fun b o _ _ e=>e) (Nat.le_refl _) hS (k2 _ _ hq1) (Nat.ne_of_lt (by rw[hz1];exact Nat.lt_succ_of_lt hltq)) (Nat.ne_of_lt hltq) (by simp) (fun z=>absurd z (Nat.lt_irrefl _))⟩
 ·obtain⟨o,e,z⟩:=hl
  exact⟨o,k2 _ _ (k1 _ _ e),z⟩
 ·intro x hx
  have e:=h2 x hx
  exact⟨k2 _ _ (k1 _ _ e),Nat.ne_of_lt (by rw[hz1];exact Nat.lt_succ_of_lt (Heap.lt_size e)),Nat.ne_of_lt (Heap.lt_size e)⟩
 ·have hpne:parts≠[]:=fun e=>hne (by rw[<-h1,e];rfl)
  have tl:=hnew hpne
  have kk: ∀b o,s.heap.get? b=some o->h'.get? b=some o:=fun b o e=>kp b o (Nat.ne_of_lt (by rw[hz1];exact Nat.lt_succ_of_lt (Heap.lt_size e))) (Nat.ne_of_lt (Heap.lt_size e)) (k2 _ _ (k1 _ _ e))
  have le:s.heap.objs.size<=t:=by rw[hz2,hz1] at tl;lia
  refine⟨.ref t,_,I.laid (t':=tk) (h':=h') (a:=t) (o:= .lst ps.flatten) kk le ⟨hz,acc.toList,c,by rw[hacc];exact h3, ?_⟩,rfl,qq t (I.hok.fresh le)⟩
  exact ht
end
end L2
namespace Mi
open PySem L2 PySem.Spec PyProof.Rows
section
variable{X:Cx}{G:Gx}{F:Fy}
noncomputable def maxS:List D->M D
 |[.lst _ ds]=>match z1s ds with|some (n::ns)=>rt (.int (maxI (n::ns)))|_=>fl
 |[.tup ds]=>match z1s ds with|some (n::ns)=>rt (.int (maxI (n::ns)))|_=>fl
 |_=>fl
theorem zaI:z0K G F (zcp G.K) maxS:=by
 intro ρ s ts vs H σv tv Q M W
 unfold maxS at W
 split at W
 ·rename_i l ds
  obtain⟨v,rfl,h,_⟩:=M.one
  obtain⟨p,xs,rfl,s1,r1,_⟩:=id (h.lstq (ds:=ds) rfl)
  cases e:z1s ds with
  |none=>rw[e] at W;exact wfl W
  |some ns=>
   cases ns with
   |nil=>rw[e] at W;exact wfl W
   |cons n ns=>
    rw[e] at W
    obtain rfl:=z2N r1 e
    exact⟨p,n::ns,rfl, .inl s1,by simp,fun _=>W.flat M.m rfl⟩
 ·rename_i ds
  obtain⟨v,rfl,h,_⟩:=M.one
  obtain⟨p,xs,rfl,s1,r1⟩:=id h.tupq
  cases e:z1s ds with
  |none=>rw[e] at W;exact wfl W
  |some ns=>
   cases ns with
   |nil=>rw[e] at W;exact wfl W
   |cons n ns=>
    rw[e] at W
    obtain rfl:=z2N r1 e
    exact⟨p,n::ns,rfl, .inr s1,by simp,fun _=>W.flat M.m rfl⟩
 ·exact wfl W
theorem z7B(hk:X.K=G.K)(hc:X.A.handled=none):Cb X G F (.builtin "max") maxS:=⟨_,hk▸z7x hc,zaI⟩
noncomputable def z0r:List D->Option (List (List D))
 |[]=>some []
 | .lst _ es::r=>match z0r r with
  |some ps=>some (es::ps)
  |none=>none
 |_::_=>none
theorem z5H{ρ:Nat->Addr}{H:Hp}: ∀{ds:List D} {vs:List V} {es:List (List D)},RDs G ρ H ds vs->z0r ds=some es->∃(as:List Addr) (ps:List (List V)),vs=as.map V.ref/\Paired (fun a xs=>H a=some (.lst xs)) as ps/\RDs G ρ H es.flatten ps.flatten/\as.length=ds.length
 |[],vs,es,h,e=>by
  simp only[RDs] at h
  simp only[z0r,Option.some.injEq] at e
  subst h e
  exact⟨[],[],rfl, .nil,by simp[RDs],rfl⟩
 |d::ds,vs,es,h,e=>by
  simp only[RDs] at h
  obtain⟨x,r,rfl,h1,h2⟩:=h
  cases d with
  |lst l qs=>
   simp only[z0r] at e
   cases e2:z0r ds with
   |none=>rw[e2] at e;cases e
   |some ps0=>
    rw[e2] at e
    cases e
    simp only[RD] at h1
    obtain⟨rfl,xs,hx,rx⟩:=h1
    obtain⟨as,ps,rfl,hp,hr,hl⟩:=z5H h2 e2
    exact⟨ρ l::as,xs::ps,rfl, .cons hx hp,by rw[List.flatten_cons,List.flatten_cons];exact RDs.append rx hr,by rw[List.length_cons,List.length_cons,hl]⟩
  |_=>simp[z0r] at e
noncomputable def z68:List D->M D
 |[.lst _ ds, .lst _ []]=>fun s=>match z0r ds with
  |some es=>if(!ds.isEmpty&&(labsL es.flatten).isEmpty&&decide (es.flatten.length<=sizeLine))=true then .ok (.lst s.n es.flatten) s.nxt else .no
  |none=> .no
 |_=>fl
theorem z8P:z0K G F (zcq G.K) z68:=by
 intro ρ s ts vs H σv tv Q M W
 unfold z68 at W
 split at W
 ·rename_i l ds l2
  cases e:z0r ds with
  |none=>simp only[e] at W;exact False.elim W
  |some es=>
   simp only[e] at W
   split at W
   ·rename_i hc
    simp only[Bool.and_eq_true,Bool.not_eq_true',List.isEmpty_iff,decide_eq_true_eq,List.isEmpty_eq_false_iff] at hc
    obtain⟨⟨c1,c2⟩,c3⟩:=hc
    have rd:=M.rd
    simp only[RDs,RD] at rd
    obtain⟨_,_,rfl,⟨rfl,xs,hx,rx⟩,_,_,rfl,⟨rfl,ys,hy,ry⟩,rfl⟩:=rd
    subst ry
    obtain⟨as,ps,rfl,hp,hr,hl⟩:=z5H rx e
    have hlen:=RDs.len2 hr
    refine⟨ρ l,ρ l2,as,ps,rfl, .inl (.inl hx),hp,hy,fun z=>c1 (List.length_eq_zero_iff.mp (by rw[<-hl,z];rfl)),by lia,fun l hn kd=> ?_⟩
    exact z0S W M.m hr (fun j hj=>by rw[c2] at hj;cases hj) hn kd
   ·exact False.elim W
 ·exact wfl W
theorem z8Q(hk:X.K=G.K)(hc:X.A.handled=none):Cb X G F (.builtin "sum") z68:=⟨_,hk▸z7A hc,z8P⟩
end
end Mi
namespace My
open PySem L2 PySem.Spec PyProof.Rows Mi
@[irreducible] noncomputable def SE(X:Cx)(G:Gx)(F:Fy)(e:Expr)(m:M D):Prop:=Mi.SE X G F e m
theorem eSE(X:Cx)(G:Gx)(F:Fy)(e:Expr)(m:M D):SE X G F e m=Mi.SE X G F e m:=by unfold SE;rfl
@[irreducible] noncomputable def SA(X:Cx)(G:Gx)(F:Fy)(e:List Expr)(m:M (List D)):Prop:=Mi.SA X G F e m
theorem eSA(X:Cx)(G:Gx)(F:Fy)(e:List Expr)(m:M (List D)):SA X G F e m=Mi.SA X G F e m:=by unfold SA;rfl
@[irreducible] noncomputable def SB(X:Cx)(G:Gx)(F:Fy)(e:Expr)(m:M Bool):Prop:=Mi.SB X G F e m
theorem eSB(X:Cx)(G:Gx)(F:Fy)(e:Expr)(m:M Bool):SB X G F e m=Mi.SB X G F e m:=by unfold SB;rfl
@[irreducible] noncomputable def SW(X:Cx)(G:Gx)(F:Fy)(e:Expr)(m:M Bool):Prop:=Mi.SW X G F e m
theorem eSW(X:Cx)(G:Gx)(F:Fy)(e:Expr)(m:M Bool):SW X G F e m=Mi.SW X G F e m:=by unfold SW;rfl
@[irreducible] noncomputable def SS(X:Cx)(G:Gx)(F:Fy)(e:Stmt)(m:MS):Prop:=Mi.SS X G F e m
theorem eSS(X:Cx)(G:Gx)(F:Fy)(e:Stmt)(m:MS):SS X G F e m=Mi.SS X G F e m:=by unfold SS;rfl
@[irreducible] noncomputable def SSs(X:Cx)(G:Gx)(F:Fy)(e:List Stmt)(m:MS):Prop:=Mi.SSs X G F e m
theorem eSSs(X:Cx)(G:Gx)(F:Fy)(e:List Stmt)(m:MS):SSs X G F e m=Mi.SSs X G F e m:=by unfold SSs;rfl
@[irreducible] noncomputable def SG(X:Cx)(G:Gx)(F:Fy)(e:Expr)(m:Tg):Prop:=Mi.SG X G F e m
theorem eSG(X:Cx)(G:Gx)(F:Fy)(e:Expr)(m:Tg):SG X G F e m=Mi.SG X G F e m:=by unfold SG;rfl
@[irreducible] noncomputable def SGs(X:Cx)(G:Gx)(F:Fy)(e:List Expr)(m:List Tg):Prop:=Mi.SGs X G F e m
theorem eSGs(X:Cx)(G:Gx)(F:Fy)(e:List Expr)(m:List Tg):SGs X G F e m=Mi.SGs X G F e m:=by unfold SGs;rfl
@[irreducible] noncomputable def SI(X:Cx)(G:Gx)(F:Fy)(tg e:Expr)(m:M ItK):Prop:=Mi.SI X G F tg e m
theorem eSI(X:Cx)(G:Gx)(F:Fy)(tg e:Expr)(m:M ItK):SI X G F tg e m=Mi.SI X G F tg e m:=by unfold SI;rfl
@[irreducible] noncomputable def SO(X:Cx)(G:Gx)(F:Fy)(e:Option Expr)(m:Option (M D)):Prop:=Mi.SO X G F e m
theorem eSO(X:Cx)(G:Gx)(F:Fy)(e:Option Expr)(m:Option (M D)):SO X G F e m=Mi.SO X G F e m:=by unfold SO;rfl
@[irreducible] noncomputable def STs(X:Cx)(G:Gx)(F:Fy)(e:List Expr)(m:M Bool):Prop:=Mi.STs X G F e m
theorem eSTs(X:Cx)(G:Gx)(F:Fy)(e:List Expr)(m:M Bool):STs X G F e m=Mi.STs X G F e m:=by unfold STs;rfl
local macro_rules | `(tactic| walk_at "go") => `(tactic| (simp only [eSE, eSA, eSB, eSW, eSS, eSSs, eSG, eSGs, eSI, eSO, eSTs] at *))
section
variable{X:Cx}{G:Gx}{F:Fy}{e a b c:Expr}{pos:Pos}
theorem se_var(i:Nat){x:Str}(hk:X.K=G.K)(h:PE X (.Name x pos) (tVar i)):SE X G F (.Name x pos) (mVar i):=by
 walk_at "go"
 exact Mi.se_var i hk h
theorem se_c{d:D}{v:V}(hk:X.K=G.K)(h:PE X e (tC v))(hd:cV d=some v:=by rfl):SE X G F e (mC d):=by
 walk_at "go"
 exact Mi.se_c hk h hd
theorem so_none:SO X G F none none:=by
 walk_at "go"
 exact Mi.so_none
theorem so_some{m:M D}(h:SE X G F e m):SO X G F (some e) (some m):=by
 walk_at "go"
 exact Mi.so_some h
theorem se_slice{lo hi:Option Expr}{p2:Pos}{m:M D}{ml mh:Option (M D)}(hk:X.K=G.K)(he:SE X G F e m)(hl:SO X G F lo ml)(hh:SO X G F hi mh):SE X G F (.Subscript e (.Slice lo hi none p2) pos) (mSl m ml mh):=by
 walk_at "go"
 exact Mi.se_slice hk he hl hh
theorem se_tup{es:List Expr}{ms:List (M D)}{x1}(hk:X.K=G.K)(h:SA X G F es (z0c ms)):SE X G F (.Tuple es x1 pos) (mCB ms tupD):=by
 walk_at "go"
 exact Mi.se_tup hk h
theorem se_lst{es:List Expr}{ms:List (M D)}(hk:X.K=G.K)(h:SA X G F es (z0c ms)):SE X G F (.List es pos) (mCB ms lstM):=by
 walk_at "go"
 exact Mi.se_lst hk h
theorem sb_truth{m:M D}(hk:X.K=G.K)(ha:SE X G F a m)(he: ∀whole,isTrue a X.env whole=(do let v<-whole;standAt a.pos;holding [v] (truthy v)):=by intro _;rfl):SB X G F a (z2a m):=by
 walk_at "go"
 exact Mi.sb_truth hk ha he
theorem SW.sb{m:M Bool}(h:SW X G F e m):SB X G F e m:=by
 walk_at "go"
 exact Mi.SW.sb h
theorem sw_and1{m:M Bool}(h:SB X G F a m):SW X G F (.BoolOp .And [a] pos) m:=by
 walk_at "go"
 exact Mi.sw_and1 h
theorem sw_or1{m:M Bool}(h:SB X G F a m):SW X G F (.BoolOp .Or [a] pos) m:=by
 walk_at "go"
 exact Mi.sw_or1 h
theorem sw_and{rest:List Expr}{m m':M Bool}(ha:SB X G F a m)(hb:SW X G F (.BoolOp .And (b::rest) pos) m'):SW X G F (.BoolOp .And (a::b::rest) pos) (mAnd m m'):=by
 walk_at "go"
 exact Mi.sw_and ha hb
theorem sw_or{rest:List Expr}{m m':M Bool}(ha:SB X G F a m)(hb:SW X G F (.BoolOp .Or (b::rest) pos) m'):SW X G F (.BoolOp .Or (a::b::rest) pos) (mOr m m'):=by
 walk_at "go"
 exact Mi.sw_or ha hb
theorem sb_not{m:M Bool}(ha:SB X G F a m):SB X G F (.UnaryOp .Not a pos) (mNot m):=by
 walk_at "go"
 exact Mi.sb_not ha
theorem se_isi{p:Pos}{x y:Expr}{T:String}{m:M D}(hk:X.K=G.K)(hT:T= "int" \/T= "bool" \/T= "tuple" \/T= "list" \/T= "str")(hgl:Gl X "isinstance")(hm:X.mg "isinstance" =none)(ha:SE X G F x m)(hy:PE X y (tC (.ty T)))
 (he:starEach [x,y] X.env=(false,eval x X.env)::starEach [y] X.env:=by rfl) (he2:starEach [y] X.env=(false,eval y X.env)::starEach [] X.env:=by rfl) (hpl:(backTo pos (starEach [y] X.env)).any (·.1)=false:=by rfl):SE X G F (.Call (.Name "isinstance" p) [x,y] [] pos) (mIsi T m):=by
 walk_at "go"
 exact Mi.se_isi hk hT hgl hm ha hy he he2 hpl
end
section
variable{X:Cx}{G:Gx}{F:Fy}{e a b c:Expr}{st:Stmt}{sts rest:List Stmt}{pos:Pos}
theorem ss_nil:SSs X G F [] sNx:=by
 walk_at "go"
 exact Mi.ss_nil
theorem ss_cons{m m':MS}(h1:SS X G F st m)(h2:SSs X G F rest m'):SSs X G F (st::rest) (seqS m m'):=by
 walk_at "go"
 exact Mi.ss_cons h1 h2
theorem ss_one{m:MS}(h1:SS X G F st m):SSs X G F [st] m:=by
 walk_at "go"
 exact Mi.ss_one h1
theorem ss_expr{m:M D}(he:SE X G F e m)(hs:swapsWith e none pos.line X.env=pure false:=by rfl):SS X G F (.Expr e pos) (z2c m):=by
 walk_at "go"
 exact Mi.ss_expr he hs
theorem ss_ret{m:M D}(he:SE X G F e m):SS X G F (.Return (some e) pos) (sRet m):=by
 walk_at "go"
 exact Mi.ss_ret he
theorem ss_if{x y:List Stmt}{mc:M Bool}{m m':MS}(hc:SB X G F c mc)(ha:SSs X G F x m)(hb:SSs X G F y m'):SS X G F (.If c x y pos) (sIf mc m m'):=by
 walk_at "go"
 exact Mi.ss_if hc ha hb
theorem sg_name{i:Nat}{x:Str}{p:Pos}(h:PG X (.Name x p) (z2z i)):SG X G F (.Name x p) (.nm i):=by
 walk_at "go"
 exact Mi.sg_name h
theorem sgs_nil:SGs X G F [] []:=by
 walk_at "go"
 exact Mi.sgs_nil
theorem sgs_cons{es:List Expr}{g:Tg}{gs:List Tg}(h1:SG X G F e g)(h2:SGs X G F es gs)(hs:(assignEach (e::es) X.env).map (·.2)=assign e X.env::(assignEach es X.env).map (·.2):=by rfl):SGs X G F (e::es) (g::gs):=by
 walk_at "go"
 exact Mi.sgs_cons h1 h2 hs
theorem sg_tup{es:List Expr}{k:Nat}{gs:List Tg}(hk:X.K=G.K)(hc:X.calm=true)(h:SGs X G F es gs)(hn:(assignEach es X.env).length=gs.length:=by rfl)(hst:(assignEach es X.env).findIdx? (·.1)=none:=by rfl):SG X G F (.Tuple es k pos) (.tp gs):=by
 walk_at "go"
 exact Mi.sg_tup hk hc h hn hst
theorem ss_asg{tg:Expr}{g:Tg}{m:M D}(he:SE X G F e m)(hg:SG X G F tg g)(hs:swapsWithSole [tg] e pos.line X.env=pure false:=by rfl)(hw:swappedStores [tg] e X.env=pure none:=by rfl)
 (h1:(assignEach [tg] X.env).map (·.2)=[assign tg X.env]:=by rfl):SS X G F (.Assign [tg] e pos) (sAsg g m):=by
 walk_at "go"
 exact Mi.ss_asg he hg hs hw h1
theorem ss_set{i:Nat}{x:Str}{p:Pos}{m:M D}(h: ∀{te:TE},PE X e te->PS X (.Assign [.Name x p] e pos) (tAsg te (z2z i)))(he:SE X G F e m):SS X G F (.Assign [.Name x p] e pos) (sAsg (.nm i) m):=by
 walk_at "go"
 exact Mi.ss_set h he
end
section
variable{X:Cx}{G:Gx}{F:Fy}{e a b c tg iter:Expr}{pos:Pos}
theorem si_seq{m:M D}(hk:X.K=G.K)(h:SE X G F e m):SI X G F tg e (z0T m):=by
 walk_at "go"
 exact Mi.si_seq hk h
theorem si_rng1{p:Pos}{ms:List (M D)}(hg:Gl X "range")(hm:X.mg "range" =none)(ha:SA X G F [a] (z0c ms))(hs:starEach [a] X.env=[(false,eval a X.env)]:=by rfl):SI X G F tg (.Call (.Name "range" p) [a] [] pos) (z0H ms):=by
 walk_at "go"
 exact Mi.si_rng1 hg hm ha hs
theorem ss_for{body:List Stmt}{mi:M ItK}{g:Tg}{mb:MS}(hp:PassesOwn (model X.prog X.w) X.A X.env X.xe)(hc:X.calm=true)(hi:SI X G F tg iter mi)(hg:SG X G F tg g)(hb:SSs X G F body mb)(hst: ∀x,foldedSetIterable iter X.env x=pure x:=by intro _;rfl):SS X G F (.For tg iter body [] pos) (sFor mi g mb):=by
 walk_at "go"
 exact Mi.ss_for hp hc hi hg hb hst
end
section
variable{X:Cx}{G:Gx}{F:Fy}{e a b c tg iter elt:Expr}{pos:Pos}
theorem sts_nil:STs X G F [] (rt true):=by
 walk_at "go"
 exact Mi.sts_nil
theorem sts_one{m:M Bool}(h:SB X G F c m):STs X G F [c] m:=by
 walk_at "go"
 exact Mi.sts_one h
theorem se_comp{scope:Scope}{own frees:List Str}{ix:List Nat}{ifs:List Expr}{mi:M ItK}{g:Tg}{mt:M Bool}{me:M D}(hk:X.K=G.K)(hc:X.calm=true)(S:z0i X.env.scope scope own frees X.N ix)(hi:SI X G F tg iter mi)
 (hg: ∀(F:Fy) cl C s₀ H₀ fp pn,SG (z04 X scope own frees cl C s₀ H₀ fp pn) G F tg g) (ht: ∀(F:Fy) cl C s₀ H₀ fp pn,STs (z04 X scope own frees cl C s₀ H₀ fp pn) G F ifs mt) (he: ∀(F:Fy) cl C s₀ H₀ fp pn,SE (z04 X scope own frees cl C s₀ H₀ fp pn) G F elt me)
 (hs: ∀x,foldedSetIterable iter X.env x=pure x:=by intro _;rfl):SE X G F (.ListComp elt [⟨tg,iter,ifs,0⟩] scope pos) (z0I mi g mt me own.length ix):=by
 walk_at "go"
 exact Mi.se_comp hk hc S hi hg ht he hs
theorem ss_comp{y:Str}{py spos:Pos}{i:Nat}{scope:Scope}{own frees:List Str}{ix:List Nat}{ifs:List Expr}{mi:M ItK}{g:Tg}{mt:M Bool}{me:M D}(hk:X.K=G.K)(hN:X.N.Nodup)(hy:X.N[i]? =some y)(hx:Loc X.env.scope y)(hfn:X.fn y=true\/X.env.scope.names.lookup y=some .local)(hsw:swapsWith (.ListComp elt [⟨tg,iter,ifs,0⟩] scope pos) (some (.Name y py)) spos.line X.env=pure true)
 (hc:X.calm=true) (S:z0i X.env.scope scope own frees X.N ix) (hi:SI X G F tg iter mi)
 (hg: ∀(F:Fy) cl C s₀ H₀ fp pn,SG (z04 X scope own frees cl C s₀ H₀ fp pn) G F tg g) (ht: ∀(F:Fy) cl C s₀ H₀ fp pn,STs (z04 X scope own frees cl C s₀ H₀ fp pn) G F ifs mt) (he: ∀(F:Fy) cl C s₀ H₀ fp pn,SE (z04 X scope own frees cl C s₀ H₀ fp pn) G F elt me)
 (hs: ∀x,foldedSetIterable iter X.env x=pure x:=by intro _;rfl):SS X G F (.Assign [.Name y py] (.ListComp elt [⟨tg,iter,ifs,0⟩] scope pos) spos) (sAsg (.nm i) (z0I mi g mt me own.length ix)):=by
 walk_at "go"
 exact Mi.ss_comp hk hN hy hx hfn hsw hc S hi hg ht he hs
end
section
variable{G:Gx}{ρ:Nat->Addr}{H:Hp}
section
variable(k:KD G.K H){n:Nat}(inj: ∀i j,i<n->j<n->ρ i=ρ j->i=j)
include k inj
end
end
section
variable{G:Gx}{ρ ρ':Nat->Addr}{H H':Hp}
section
variable(k:KD G.K H){n:Nat}(inj: ∀i j,i<n->j<n->ρ i=ρ j->i=j){ts:List D}{vs:List V}(r:RDs G ρ H ts vs)(lb: ∀l∈labsL ts,l<n)
include k inj r lb
end
variable{F:Fy}{σv tv:List (Option V)}{s:Stt}{np:Nat}
theorem se_call{X:Cx}{e:Expr}{es:List Expr}{pos p:Pos}{CX:CXT}{k:Nat}{fa:Addr}{fd:FuncData}{ps:List Str}{x:Str}{E:XK}{f:FM}{ms:List (M D)}(hk:X.K=G.K)(Fn:FnOk X.prog X.w X.K X.mg X.base CX k fa fd ps (spM G ps.length f))(hr:Room k X.A)(hg:Gl X x)(hm:X.mg x=some (.ref fa))(hkp:W.keepIn X.K (.ref fa)=true)(hb:z38 X.K fd ps [])(hx:z3l CX X E)
 (ha:SA X G F (e::es) (z0c ms)) (hln:ms.length=ps.length) (hdb:(x==("__debug__" :Str))=false:=by decide) (he:starEach (e::es) X.env=(false,eval e X.env)::starEach es X.env:=by rfl) (hpl:(backTo pos (starEach es X.env)).any (·.1)=false:=by rfl):
 SE X G F (.Call (.Name x p) (e::es) [] pos) (z06 f ms):=by
 walk_at "go"
 exact Mi.se_call hk Fn hr hg hm hkp hb hx ha hln hdb he hpl
theorem fn_M{P:Program}{w:World}{K:W.Frag}{mg:Str->Option Value}{base:Heap}{x qual:Str}{st:Stmt}{fa:Addr}{fd:FuncData}{N ps:List Str}{k:Nat}{mb:MS}(Fn:Fun K x qual st fa fd)(S:z0m N ps (z03 st))(hG:G.K=K)
 (hb: ∀(cdv:Value) (A:Around) (outer:List Env) (s:Shared) (H:Hp) (E:XK) (F:Fy),Room k (A.deeper (envOfC qual (z03 st) s.heap.objs.size fa cdv))->SSs (cxOf CX0 P w K mg base N qual (z03 st) fa cdv A outer s H E).nox G F (z0P st) mb):
 FnOk P w K mg base CX0 (k+1) fa fd ps (spM G ps.length (runF N.length mb)):=by
 walk_at "go"
 exact Mi.fn_M Fn S hG hb
end
section
variable{X:Cx}{G:Gx}{F:Fy}{e o:Expr}{es:List Expr}{apos cpos:Pos}
theorem ss_setI{ob ix:Expr}{pos tpos:Pos}{mo mi me:M D}(he:SE X G F e me)(ho:SE X G F ob mo)(hi:SE X G F ix mi)(hg: ∀{to ti:TE},PE X ob to->PE X ix ti->PG X (.Subscript ob ix tpos) (gSub to ti z8h))(hs:swapsWithSole [.Subscript ob ix tpos] e pos.line X.env=pure false:=by rfl)(hw:swappedStores [.Subscript ob ix tpos] e X.env=pure none:=by rfl)
 (h1:(assignEach [.Subscript ob ix tpos] X.env).map (·.2)=[assign (.Subscript ob ix tpos) X.env]:=by rfl):SS X G F (.Assign [.Subscript ob ix tpos] e pos) (mTri me mo mi setD):=by
 walk_at "go"
 exact Mi.ss_setI he ho hi hg hs hw h1
end
section
variable{X:Cx}{G:Gx}{F:Fy}{e a b c:Expr}{pos:Pos}{ma mb mc m:M D}
theorem se_add(hk:X.K=G.K)(ha:SE X G F a ma)(hb:SE X G F b mb):SE X G F (.BinOp a .Add b pos) (mBin ma mb addD):=by
 walk_at "go"
 exact Mi.se_add hk ha hb
theorem se_sub(hk:X.K=G.K)(ha:SE X G F a ma)(hb:SE X G F b mb):SE X G F (.BinOp a .Sub b pos) (mBin ma mb subD):=by
 walk_at "go"
 exact Mi.se_sub hk ha hb
theorem se_mul(hk:X.K=G.K)(ha:SE X G F a ma)(hb:SE X G F b mb):SE X G F (.BinOp a .Mult b pos) (mBin ma mb mulD):=by
 walk_at "go"
 exact Mi.se_mul hk ha hb
theorem se_fdiv(hk:X.K=G.K)(ha:SE X G F a ma)(hb:SE X G F b mb):SE X G F (.BinOp a .FloorDiv b pos) (mBin ma mb z4e):=by
 walk_at "go"
 exact Mi.se_fdiv hk ha hb
theorem se_mod(hk:X.K=G.K)(ha:SE X G F a ma)(hb:SE X G F b mb):SE X G F (.BinOp a .Mod b pos) (mBin ma mb modD):=by
 walk_at "go"
 exact Mi.se_mod hk ha hb
theorem se_pow(hk:X.K=G.K)(ha:SE X G F a ma)(hb:SE X G F b mb):SE X G F (.BinOp a .Pow b pos) (mBin ma mb powD):=by
 walk_at "go"
 exact Mi.se_pow hk ha hb
theorem se_neg(hk:X.K=G.K)(ha:SE X G F a ma):SE X G F (.UnaryOp .USub a pos) (bd ma negD):=by
 walk_at "go"
 exact Mi.se_neg hk ha
theorem se_cmp{op:CmpOp}{g:D->D->M D}(hc:Cm X G F op g)(ha:SE X G F a ma)(hb:SE X G F b mb)(hm:behindInMarks op b=false):SE X G F (.Compare a [op] [b] pos) (mBin ma mb g):=by
 walk_at "go"
 exact Mi.se_cmp hc ha hb hm
theorem sb_cmp{op:CmpOp}{g:D->D->M D}(hc:Cm X G F op g)(ha:SE X G F a ma)(hb:SE X G F b mb)(hm:behindInMarks op b=false):SB X G F (.Compare a [op] [b] pos) (mBoo (mBin ma mb g)):=by
 walk_at "go"
 exact Mi.sb_cmp hc ha hb hm
theorem sb_cmp2{op op':CmpOp}{g g':D->D->M D}(hc:Cm X G F op g)(hc':Cm X G F op' g')(ha:SE X G F a ma)(hb:SE X G F b mb)(hcc:SE X G F c mc)(hm:lastMarks [op,op'] [b,c]=false:=by with_unfolding_all rfl):SB X G F (.Compare a [op,op'] [b,c] pos) (mBoo (z2n ma mb mc g g')):=by
 walk_at "go"
 exact Mi.sb_cmp2 hc hc' ha hb hcc hm
theorem se_idx(hk:X.K=G.K)(ha:SE X G F a ma)(hb:SE X G F b mb)(hs:z27 b):SE X G F (.Subscript a b pos) (mBin ma mb ixD):=by
 walk_at "go"
 exact Mi.se_idx hk ha hb hs
theorem se_cb{x:Str}{p:Pos}{es:List Expr}{ms:List (M D)}{g:List D->M D}{id:String}(hk:X.K=G.K)(hc:Cb X G F (.builtin id) g)(hgl:Gl X x)(hm:X.mg x=none)(hv:bootBuiltins x=some (.builtin id))(ha:SA X G F (e::es) (z0c ms))(hn:x≠ "__name__" :=by decide)(hdb:(x==("__debug__" :Str))=false:=by decide)
 (he:starEach (e::es) X.env=(false,eval e X.env)::starEach es X.env:=by rfl) (hpl:(backTo pos (starEach es X.env)).any (·.1)=false:=by rfl):SE X G F (.Call (.Name x p) (e::es) [] pos) (mCB ms g):=by
 walk_at "go"
 exact Mi.se_cb hk hc hgl hm hv ha hn hdb he hpl
theorem se_ct{x:Str}{p:Pos}{es:List Expr}{ms:List (M D)}{g:List D->M D}{T:String}(hk:X.K=G.K)(hc:Cb X G F (.type T) g)(hgl:Gl X x)(hm:X.mg x=none)(hv:bootBuiltins x=some (.type T))(ha:SA X G F (e::es) (z0c ms))(hn:x≠ "__name__" :=by decide)(hdb:(x==("__debug__" :Str))=false:=by decide)
 (he:starEach (e::es) X.env=(false,eval e X.env)::starEach es X.env:=by rfl) (hpl:(backTo pos (starEach es X.env)).any (·.1)=false:=by rfl):SE X G F (.Call (.Name x p) (e::es) [] pos) (mCB ms g):=by
 walk_at "go"
 exact Mi.se_ct hk hc hgl hm hv ha hn hdb he hpl
end
section
variable{X:Cx}{G:Gx}{F:Fy}{e o:Expr}{es:List Expr}{apos cpos:Pos}
theorem se_cl{name:Str}{id:String}{mo:M D}{ms:List (M D)}{g:D->List D->M D}(hk:X.K=G.K)(slot:Slot "list" name id)(hty:typeOf (.builtin id)=pure (.type "method_descriptor"))(hm:Cl X G F id g)(ho:SE X G F o mo)(ha:SA X G F (e::es) (z0c ms))
 (hbase:attributeBase o name X.env (eval o X.env)=eval o X.env:=by rfl)
 (hfew:((backTo cpos (starEach (e::es) X.env)).all (fun x=> !x.1)&&(backToKw cpos (keywordEach [] X.env)).all (fun x=>x.1.isSome)
  &&decide ((e::es).length+([]:List Keyword).length+(if([]:List Keyword).isEmpty then 0 else 1)<30))=true:=by rfl)
 (hline:(apos.endLine==cpos.line)=true:=by rfl) (hs:starEach (e::es) X.env=(false,eval e X.env)::starEach es X.env:=by rfl) (hplain:(backTo cpos (starEach es X.env)).any (·.1)=false:=by rfl):SE X G F (.Call (.Attribute o name apos) (e::es) [] cpos) (z1Q mo ms g):=by
 walk_at "go"
 exact Mi.se_cl hk slot hty hm ho ha hbase hfew hline hs hplain
end
section
variable{X:Cx}{G:Gx}{F:Fy}{a b tg:Expr}{pos:Pos}
theorem se_rev{e st:Expr}{p2:Pos}{m:M D}(hk:X.K=G.K)(hst:PO X (some st) (z8f (tUn (rU fun i=>V.int (-i)) (tC (.int 1)))))(he:SE X G F e m):SE X G F (.Subscript e (.Slice none none (some st) p2) pos) (bd m rvsD):=by
 walk_at "go"
 exact Mi.se_rev hk hst he
end
inductive SEs(X:Cx)(G:Gx)(F:Fy):List Expr->List (M D)->Prop
 |nil:SEs X G F [] []
 |cons {e:Expr} {m:M D} {es:List Expr} {ms:List (M D)}:SE X G F e m->nst e=true->SEs X G F es ms->SEs X G F (e::es) (m::ms)
theorem eSEs{X:Cx}{G:Gx}{F:Fy}{es:List Expr}{ms:List (M D)}(h:SEs X G F es ms):Mi.SEs X G F es ms:=by
 induction h with
 |nil=>exact .nil
 |cons h n _ ih=>rw[eSE] at h;exact .cons h n ih
theorem sa_of{X:Cx}{G:Gx}{F:Fy}{es:List Expr}{ms:List (M D)}(hk:X.K=G.K)(h:SEs X G F es ms):SA X G F es (z0c ms):=by
 rw[eSA];exact Mi.sa_of hk (eSEs h)
section
variable{X:Cx}{G:Gx}{F:Fy}{e a b c d:Expr}{pos p:Pos}{m ma mb mc md:M D}
theorem sv(i:Nat){x:Str}(hk:X.K=G.K:=by rfl)(hN:X.N[i]? =some x:=by rfl)(hv:Vis X.env.scope x:=by first|exact Or.inl rfl|exact Or.inr (Or.inl rfl)|exact Or.inr (Or.inr rfl))(hd:(x==("__debug__" :Str))=false:=by decide)(hcd:(x==("__classdict__" :Str))=false:=by decide):SE X G F (.Name x pos) (mVar i):=se_var i hk (pv i hN hv hd hcd)
theorem s1(h:SE X G F a ma)(n:nst a=true:=by rfl)(hk:X.K=G.K:=by rfl):SA X G F [a] (z0c [ma]):=sa_of hk (.cons h n .nil)
theorem s2(h:SE X G F a ma)(h2:SE X G F b mb)(n:nst a=true:=by rfl)(n2:nst b=true:=by rfl)(hk:X.K=G.K:=by rfl):SA X G F [a,b] (z0c [ma,mb]):=sa_of hk (.cons h n (.cons h2 n2 .nil))
theorem s3(h:SE X G F a ma)(h2:SE X G F b mb)(h3:SE X G F c mc)(n:nst a=true:=by rfl)(n2:nst b=true:=by rfl)(n3:nst c=true:=by rfl)(hk:X.K=G.K:=by rfl):SA X G F [a,b,c] (z0c [ma,mb,mc]):=sa_of hk (.cons h n (.cons h2 n2 (.cons h3 n3 .nil)))
theorem s4(h:SE X G F a ma)(h2:SE X G F b mb)(h3:SE X G F c mc)(h4:SE X G F d md)(n:nst a=true:=by rfl)(n2:nst b=true:=by rfl)(n3:nst c=true:=by rfl)(n4:nst d=true:=by rfl)(hk:X.K=G.K:=by rfl):SA X G F [a,b,c,d] (z0c [ma,mb,mc,md]):=sa_of hk (.cons h n (.cons h2 n2 (.cons h3 n3 (.cons h4 n4 .nil))))
theorem sst(i:Nat){x:Str}(hN:X.N.Nodup)(he:SE X G F e m)(hi:X.N[i]? =some x:=by rfl)(hx:Loc X.env.scope x:=by exact Or.inl rfl)(hs:swapsWith e (some (.Name x p)) pos.line X.env=pure false:=by rfl)(hf:X.fn x=true\/X.env.scope.names.lookup x=some .local:=by first|exact .inl rfl|exact .inr rfl|assumption):SS X G F (.Assign [.Name x p] e pos) (sAsg (.nm i) m):=
 ss_set (fun{te} h=>z5j hN hi hx h hs hf) he
theorem sgn(i:Nat){x:Str}(hN:X.N.Nodup)(hi:X.N[i]? =some x:=by rfl)(hx:Loc X.env.scope x:=by exact Or.inl rfl)(hf:X.fn x=true\/X.env.scope.names.lookup x=some .local:=by first|exact .inl rfl|exact .inr rfl|assumption):SG X G F (.Name x pos) (.nm i):=sg_name (z0F hN hi hx hf)
theorem sln{es:List Expr}{ms:List (M D)}(hm:X.mg "len" =none)(ha:SA X G F (e::es) (z0c ms))(hgl:Gl X "len" :=by rfl)(he:starEach (e::es) X.env=(false,eval e X.env)::starEach es X.env:=by rfl)(hpl:(backTo pos (starEach es X.env)).any (·.1)=false:=by rfl)(hk:X.K=G.K:=by rfl):SE X G F (.Call (.Name "len" p) (e::es) [] pos) (mCB ms lenD):=
 se_cb hk (zcf hk) hgl hm PyProof.Rows.Boot.«len» ha (by decide) (by decide) he hpl
theorem sc0{v:V}{d:D}(h:PE X e (tC v))(hd:cV d=some v:=by rfl)(hk:X.K=G.K:=by rfl):SE X G F e (mC d):=se_c hk h hd
theorem sxc{v:V}{q:D}(ha:SE X G F a ma)(h:PE X b (tC v))(hd:cV q=some v:=by rfl)(hs:z27 b:=by exact fun _ _=>rfl)(hk:X.K=G.K:=by rfl):SE X G F (.Subscript a b pos) (mBin ma (mC q) ixD):=se_idx hk ha (se_c hk h hd) hs
theorem sxx(ha:SE X G F a ma)(hb:SE X G F b mb)(hs:z27 b:=by exact fun _ _=>rfl)(hk:X.K=G.K:=by rfl):SE X G F (.Subscript a b pos) (mBin ma mb ixD):=se_idx hk ha hb hs
end
section
variable{G:Gx}{P:Program}{w:World}{K:W.Frag}{mg:Str->Option Value}{base:Heap}{x qual:Str}{st:Stmt}{fa:Addr}{fd:FuncData}{N ps:List Str}{k np:Nat}{f:FM}
theorem okM(mb:MS)(Fn:Fun K x qual st fa fd)(S:z0m N ps (z03 st))(hb: ∀(cdv:Value) (A:Around) (outer:List Env) (s:Shared) (H:Hp) (E:XK) (F:Fy),Room k (A.deeper (envOfC qual (z03 st) s.heap.objs.size fa cdv))->SSs (cxOf CX0 P w K mg base N qual (z03 st) fa cdv A outer s H E).nox G F (z0P st) mb)(hG:G.K=K:=by rfl)(hf:f=runF N.length mb:=by rfl)(hn:np=ps.length:=by rfl):
 FnOk P w K mg base CX0 (k+1) fa fd ps (spM G np f):=by
 subst hf hn;exact fn_M Fn S hG hb
end
section
variable{X:Cx}{G:Gx}{F:Fy}{tg iter elt tg2 iter2:Expr}{pos:Pos}
theorem se_srtset{scope:Scope}{own frees:List Str}{ix:List Nat}{ifs:List Expr}{mi:M ItK}{g:Tg}{mt:M Bool}{me:M D}{p cpos:Pos}(hk:X.K=G.K)(hu:X.A.units+64<cLine)(hh:X.A.handled=none)(hgl:Gl X "sorted")(hml:X.mg "sorted" =none)(hc:X.calm=true)(S:z0i X.env.scope scope own frees X.N ix)(hi:SI X G F tg iter mi)
 (hg: ∀(F:Fy) cl C s₀ H₀ fp pn,SG (z04 X scope own frees cl C s₀ H₀ fp pn) G F tg g) (ht: ∀(F:Fy) cl C s₀ H₀ fp pn,STs (z04 X scope own frees cl C s₀ H₀ fp pn) G F ifs mt) (he: ∀(F:Fy) cl C s₀ H₀ fp pn,SE (z04 X scope own frees cl C s₀ H₀ fp pn) G F elt me)
 (hs: ∀x,foldedSetIterable iter X.env x=pure x:=by intro _;rfl)
 (hso:starEach [.SetComp elt [⟨tg,iter,ifs,0⟩] scope pos] X.env=[(false,eval (.SetComp elt [⟨tg,iter,ifs,0⟩] scope pos) X.env)]:=by rfl):
 SE X G F (.Call (.Name "sorted" p) [.SetComp elt [⟨tg,iter,ifs,0⟩] scope pos] [] cpos) (z4Z mi g mt me own.length ix):=by
 simp only[eSE,eSA,eSB,eSW,eSS,eSSs,eSG,eSGs,eSI,eSO,eSTs] at*
 exact Mi.se_srtset hk hu hh hgl hml hc S hi hg ht he hs hso
theorem se_flat{scope:Scope}{own frees:List Str}{ix:List Nat}{mi:M ItK}{g:Tg}{me:M D}{j:Nat}(hk:X.K=G.K)(hc:X.calm=true)(S:z0i X.env.scope scope own frees X.N ix)(hi:SI X G F tg iter mi)
 (hg: ∀(F:Fy) cl C s₀ H₀ fp pn,SG (z04 X scope own frees cl C s₀ H₀ fp pn) G F tg g) (hg2: ∀cl C s₀ H₀ fp pn,PG (z04 X scope own frees cl C s₀ H₀ fp pn) tg2 (z2z j)) (he2: ∀(F:Fy) cl C s₀ H₀ fp pn,SE (z04 X scope own frees cl C s₀ H₀ fp pn) G F iter2 me) (he: ∀cl C s₀ H₀ fp pn,PE (z04 X scope own frees cl C s₀ H₀ fp pn) elt (tVar j))
 (hs: ∀x,foldedSetIterable iter X.env x=pure x:=by intro _;rfl) (hs2: ∀e x,foldedSetIterable iter2 e x=pure x:=by intro _ _;rfl):SE X G F (.ListComp elt [⟨tg,iter,[],0⟩,⟨tg2,iter2,[],0⟩] scope pos) (z50 mi g me j own.length ix):=by
 simp only[eSE,eSA,eSB,eSW,eSS,eSSs,eSG,eSGs,eSI,eSO,eSTs] at*
 exact Mi.se_flat hk hc S hi hg hg2 he2 he hs hs2
end
end My
namespace My
open PySem L2 Mi
noncomputable def top(i:Nat):Stmt:=PySem.Challenge.pw_signbench_k34_words_made.main.body.getD i (.Pass ⟨0,0,0,0⟩)
noncomputable abbrev z16:Stmt:=top 6
noncomputable abbrev z17:Stmt:=top 7
noncomputable abbrev z1m:Stmt:=top 8
noncomputable abbrev z1A:Stmt:=top 9
noncomputable abbrev z51:Stmt:=top 11
noncomputable abbrev z3E:Stmt:=top 12
noncomputable abbrev z2e:Stmt:=top 13
noncomputable abbrev z18:Stmt:=top 14
noncomputable abbrev z2f:Stmt:=top 15
noncomputable abbrev z1R:Stmt:=top 16
noncomputable abbrev z3F:Stmt:=top 17
noncomputable abbrev z3G:Stmt:=top 18
noncomputable abbrev zaJ:Stmt:=top 19
noncomputable abbrev z1O:List Str:=["commits"]
noncomputable abbrev z19:List Str:=z1O
noncomputable abbrev z3f:List Str:=["commit", "sounds", "cutting", "wished", "signs"]
noncomputable abbrev z1a:List Str:=["commit"]
noncomputable abbrev z3H:List Str:=["commit", "sounds", "cutting", "wished"]
noncomputable abbrev z1n:List Str:=["commit"]
noncomputable abbrev z2o:List Str:=["cutting"]
noncomputable abbrev z1B:List Str:=z2o
noncomputable abbrev zaK:List Str:=["_law_script", "_law_at", "_law_cell", "_law_mix", "_law_k"]
noncomputable abbrev z52:List Str:=["_law_script", "_law_at"]
noncomputable abbrev z8R:List Str:=["_law_bag_here", "_law_many", "_law_digit"]
noncomputable abbrev z3I:List Str:=["_law_bag_here", "_law_many"]
noncomputable abbrev z69:List Str:=["_law_bag_here", "_law_n", "_law_top"]
noncomputable abbrev z2g:List Str:=["_law_bag_here", "_law_n"]
noncomputable abbrev z3g:List Str:=["_law_bag_here", "_law_top"]
noncomputable abbrev z1b:List Str:=["_law_bag_here"]
noncomputable abbrev z6a:List Str:=["_law_bag_here", "_law_n", "_law_sounds_here", "_law_far", "_law_cutting", "_law_place", "_law_turn"]
noncomputable abbrev z2h:List Str:=["_law_bag_here", "_law_n"]
noncomputable abbrev z53:List Str:=["_law_bag_here", "_law_many"]
noncomputable abbrev z1S:List Str:=["_law_bag_here"]
noncomputable abbrev z8S:List Str:=["_law_commits_here", "_law_found", "_law_sounds_here", "_law_cutting", "_law_wished", "_law_signs", "_law_word"]
noncomputable abbrev z3J:List Str:=["_law_commits_here"]
noncomputable abbrev z8T:List Str:=["_law_bag_here", "_law_pieces", "_law_more", "_law_signs", "_law_turn", "_law_far", "_law_cutting", "_law_piece", "_law_end"]
noncomputable abbrev z3K:List Str:=["_law_bag_here"]
noncomputable abbrev zdP:List Str:=["_law_script", "_law_k", "_law_bag_here", "_law_commits_here", "_law_some", "_law_handed", "_law_due", "_law_turn", "_law_told"]
noncomputable abbrev zaL:List Str:=["_law_script"]
local macro_rules | `(tactic| walk_at "sc") => `(tactic| exact ⟨rfl, rfl, rfl, by decide +kernel, rfl, by decide +kernel, by decide +kernel⟩)
theorem z2T:z0m z1O z19 (z03 z16):=by walk_at "sc"
theorem z0s:z0m z3f z1a (z03 z17):=by walk_at "sc"
theorem z0B:z0m z3H z1n (z03 z1m):=by walk_at "sc"
theorem z3L:z0m z2o z1B (z03 z1A):=by walk_at "sc"
theorem z1o:z0m zaK z52 (z03 z51):=by walk_at "sc"
theorem z4x:z0m z8R z3I (z03 z3E):=by walk_at "sc"
theorem z2U:z0m z69 z2g (z03 z2e):=by walk_at "sc"
theorem z1C:z0m z3g z1b (z03 z18):=by walk_at "sc"
theorem z0x:z0m z6a z2h (z03 z2f):=by walk_at "sc"
theorem z2p:z0m z53 z1S (z03 z1R):=by walk_at "sc"
theorem z0U:z0m z8S z3J (z03 z3F):=by walk_at "sc"
theorem z0A:z0m z8T z3K (z03 z3G):=by walk_at "sc"
theorem z22:z0m zdP zaL (z03 zaJ):=by walk_at "sc"
structure Dx(K:W.Frag)(mg:Str->Option Value)(x:Str)(st:Stmt)(ps:List Str) where
 f:Addr
 d:FuncData
 F:Fun K x x st f d
 b:z38 K d ps []
 m:mg x=some (.ref f)
theorem scl{X:Cx}{G:Gx}{F:Fy}{e:Expr}{es:List Expr}{pos p:Pos}{CX:CXT}{k j:Nat}{x:Str}{st:Stmt}{ps:List Str}{E:XK}{f:FM}{ms:List (M D)}(d:Dx X.K X.mg x st ps)(Fn:FnOk X.prog X.w X.K X.mg X.base CX j d.f d.d ps (spM G ps.length f))(hr:Room k X.A)(ha:SA X G F (e::es) (z0c ms))(hg:Gl X x:=by rfl)(hx:z3l CX X E:=by exact zdw)(hln:ms.length=ps.length:=by rfl)(hk:X.K=G.K:=by rfl)(hj:j<=k:=by lia)(hdb:(x==("__debug__" :Str))=false:=by decide)(he:starEach (e::es) X.env=(false,eval e X.env)::starEach es X.env:=by rfl)(hpl:(backTo pos (starEach es X.env)).any (·.1)=false:=by rfl):SE X G F (.Call (.Name x p) (e::es) [] pos) (z06 f ms):=se_call hk (Fn.mono hj) hr hg d.m d.F.kp d.b hx ha hln hdb he hpl
set_option genInjectivity false in
set_option genSizeOf false in
set_option genSizeOfSpec false in
structure Wd(K:W.Frag)(mg:Str->Option Value) where
 x_p_made_words:Dx K mg "made_words" z16 z19
 x_p_makes_word:Dx K mg "makes_word" z17 z1a
 x_p_made_word:Dx K mg "made_word" z1m z1n
 x_p_signs_of:Dx K mg "signs_of" z1A z1B
 x_l_bag:Dx K mg "_law_bag" z51 z52
 x_l_take:Dx K mg "_law_take" z3E z3I
 x_l_sounds:Dx K mg "_law_sounds" z2e z2g
 x_l_some_signs:Dx K mg "_law_some_signs" z18 z1b
 x_l_commit:Dx K mg "_law_commit" z2f z2h
 x_l_commits:Dx K mg "_law_commits" z1R z1S
 x_l_made:Dx K mg "_law_made" z3F z3J
 x_l_edge:Dx K mg "_law_edge" z3G z3K
 x_law:Dx K mg "law" zaJ zaL
 n_abs:mg "abs" =none
 c_LAST_WORD_KIND: ∃t,mg "LAST_WORD_KIND" =some (.int 7 t)
 c_LAST_WORD_SIGN: ∃t,mg "LAST_WORD_SIGN" =some (.int 999 t)
 c_MADE_WORD_COST: ∃t,mg "MADE_WORD_COST" =some (.int 1000 t)
 c_MOST_WORD_SIGNS: ∃t,mg "MOST_WORD_SIGNS" =some (.int 4 t)
 c_MOST_WORD_SOUNDS: ∃t,mg "MOST_WORD_SOUNDS" =some (.int 6 t)
 n_int:mg "int" =none
 n_isinstance:mg "isinstance" =none
 n_len:mg "len" =none
 n_list:mg "list" =none
 n_max:mg "max" =none
 n_min:mg "min" =none
 n_range:mg "range" =none
 n_sorted:mg "sorted" =none
 n_sum:mg "sum" =none
 n_tuple:mg "tuple" =none
section
variable{P:Program}{w:World}{K:W.Frag}{mg:Str->Option Value}{base:Heap}
noncomputable def z1D:MS:=(sRet (mCB [(z50 (z0T (mVar 0)) (.nm 0) (mBin (mVar 0) (mC (.int 1)) ixD) 1 2 [])] tupF))
noncomputable def z0D:FM:=runF 1 z1D
theorem z23(T:Wd K mg):FnOk P w K mg base CX0 1 T.x_p_signs_of.f T.x_p_signs_of.d z1B (spM (G0 K) 1 z0D):=okM z1D T.x_p_signs_of.F z3L fun cdv A outer s H E F hr=>(ss_one (ss_ret (se_ct rfl (z0Y rfl) rfl T.n_tuple PyProof.Rows.Boot.«tuple» (s1 (se_flat (own:=["piece", "sign"]) (frees:=[]) (ix:=[]) rfl rfl (z1g.sc (by kernel_rfl)) (si_seq rfl (sv 0)) (fun _ _ _ _ _ _ _=>(sg_name (z0F (i:=0) (show List.Nodup (["piece", "sign"]:List Str) by decide+kernel) rfl (Or.inl rfl)))) (fun _ _ _ _ _ _=>z0F (i:=1) (show List.Nodup (["piece", "sign"]:List Str) by decide+kernel) rfl (Or.inl rfl)) (fun _ _ _ _ _ _ _=>(sxc (sv 0) z00)) (fun _ _ _ _ _ _=>pv 1))))))
noncomputable def z1p:MS:=(seqS (sAsg (.tp [(.nm 1),(.nm 2),(.nm 3)]) (mVar 0))
 (sRet (mCB [(mVar 1),(z06 z0D [(mVar 2)]),(mBin (mBin (mVar 2) (bd (mC (.int 1)) negD) ixD) (mC (.int 2)) ixD),(mC (.int 1000))] tupD)))
noncomputable def z0u:FM:=runF 4 z1p
theorem z3h(T:Wd K mg):FnOk P w K mg base CX0 2 T.x_p_made_word.f T.x_p_made_word.d z1n (spM (G0 K) 1 z0u):=okM z1p T.x_p_made_word.F z0B fun cdv A outer s H E F hr=>(ss_cons (ss_asg (sv 0) (sg_tup rfl rfl (sgs_cons (sgn 1 z0B.nd) (sgs_cons (sgn 2 z0B.nd) (sgs_cons (sgn 3 z0B.nd) sgs_nil)))))
 (ss_one (ss_ret (se_tup rfl (s4 (sv 1) (scl T.x_p_signs_of (z23 T) hr (s1 (sv 2))) (sxc (sxx (sv 2) (se_neg rfl (sc0 z00))) z00) (se_c rfl (z2y (v:= .int 1000) rfl T.c_MADE_WORD_COST.choose_spec ⟨_,rfl⟩)))))))
noncomputable def z1c:MS:=(seqS (sAsg (.tp [(.nm 1),(.nm 2),(.nm 3)]) (mVar 0))
 (seqS (sIf (mOr (mNot (z2a (mVar 3))) (mOr (mNot (mBoo (z2n (mC (.int 2)) (mCB [(mVar 2)] lenD) (mC (.int 4)) leD leD))) (mBoo (mBin (mCB [(mVar 1)] lenD) (mC (.int 6)) gtD)))) (sRet (mC (.bool false))) sNx)
 (seqS (sAsg (.nm 4) (z06 z0D [(mVar 2)]))
 (seqS (sIf (mOr (mBoo (mBin (mCB [(mVar 4)] lenD) (mC (.int 4)) gtD)) (mBoo (mBin (mCB [(mVar 4)] maxS) (mC (.int 999)) gtD))) (sRet (mC (.bool false))) sNx)
 (sRet (mBin (mBin (mBin (mVar 2) (bd (mC (.int 1)) negD) ixD) (mC (.int 2)) ixD) (mC (.int 7)) leD))))))
noncomputable def z0n:FM:=runF 5 z1c
theorem z2V(T:Wd K mg):FnOk P w K mg base CX0 2 T.x_p_makes_word.f T.x_p_makes_word.d z1a (spM (G0 K) 1 z0n):=okM z1c T.x_p_makes_word.F z0s fun cdv A outer s H E F hr=>(ss_cons (ss_asg (sv 0) (sg_tup rfl rfl (sgs_cons (sgn 1 z0s.nd) (sgs_cons (sgn 2 z0s.nd) (sgs_cons (sgn 3 z0s.nd) sgs_nil)))))
 (ss_cons (ss_if (SW.sb (sw_or (sb_not (sb_truth rfl (sv 3))) (sw_or (sb_not (sb_cmp2 z4R z4R (sc0 z00) (sln T.n_len (s1 (sv 2))) (sc0 z00))) (sw_or1 (sb_cmp z70 (sln T.n_len (s1 (sv 1))) (se_c rfl (z2y (v:= .int 6) rfl T.c_MOST_WORD_SOUNDS.choose_spec ⟨_,rfl⟩)) (z0z _)))))) (ss_one (ss_ret (sc0 z87))) ss_nil)
 (ss_cons (sst 4 z0s.nd (scl T.x_p_signs_of (z23 T) hr (s1 (sv 2))))
 (ss_cons (ss_if (SW.sb (sw_or (sb_cmp z70 (sln T.n_len (s1 (sv 4))) (se_c rfl (z2y (v:= .int 4) rfl T.c_MOST_WORD_SIGNS.choose_spec ⟨_,rfl⟩)) (z0z _)) (sw_or1 (sb_cmp z70 (se_cb rfl (z7B rfl hr.hd) rfl T.n_max PyProof.Rows.Boot.«max» (s1 (sv 4))) (se_c rfl (z2y (v:= .int 999) rfl T.c_LAST_WORD_SIGN.choose_spec ⟨_,rfl⟩)) (z0z _))))) (ss_one (ss_ret (sc0 z87))) ss_nil)
 (ss_one (ss_ret (se_cmp z4R (sxc (sxx (sv 2) (se_neg rfl (sc0 z00))) z00) (se_c rfl (z2y (v:= .int 7) rfl T.c_LAST_WORD_KIND.choose_spec ⟨_,rfl⟩)) (z0z _))))))))
noncomputable def z1d:MS:=(sRet (z4Z (z0T (mVar 0)) (.nm 0) (z2a (z06 z0n [(mVar 0)])) (z06 z0u [(mVar 0)]) 1 []))
noncomputable def z0v:FM:=runF 1 z1d
theorem z2W(T:Wd K mg):FnOk P w K mg base CX0 3 T.x_p_made_words.f T.x_p_made_words.d z19 (spM (G0 K) 1 z0v):=okM z1d T.x_p_made_words.F z2T fun cdv A outer s H E F hr=>by
 have h64:=hr.units
 exact(ss_one (ss_ret (se_srtset (own:=["commit"]) (frees:=[]) (ix:=[]) rfl h64 hr.hd rfl T.n_sorted rfl (z1g.sc (by kernel_rfl)) (si_seq rfl (sv 0)) (fun _ _ _ _ _ _ _=>(sg_name (z0F (i:=0) (show List.Nodup (["commit"]:List Str) by decide+kernel) rfl (Or.inl rfl)))) (fun _ _ _ _ _ _ _=>(sts_one (sb_truth rfl (scl T.x_p_makes_word (z2V T) hr (s1 (sv 0)))))) (fun _ _ _ _ _ _ _=>(scl T.x_p_made_word (z3h T) hr (s1 (sv 0)))))))
noncomputable def z54:MS:=(seqS (sAsg (.nm 2) (mC (.int 0)))
 (seqS (sIf (mBoo (mBin (mVar 1) (mCB [(mVar 0)] lenD) ltD)) (sAsg (.nm 2) (mCB [(mBin (mVar 0) (mVar 1) ixD)] absD)) sNx)
 (seqS (sAsg (.nm 3) (mBin (mBin (mBin (mBin (mBin (mVar 2) (mC (.int 2147483629)) modD) (mBin (mC (.int 104729)) (mVar 1) mulD) addD) (mC (.int 17)) addD) (mC (.int 5)) powD) (mC (.int 2147483647)) modD))
 (seqS (sFor (z0H [(mCB [(mCB [(mVar 0)] lenD),(mC (.int 60))] minD)]) (.nm 4) (sAsg (.nm 3) (mBin (mBin (mBin (mBin (mVar 3) (mC (.int 48271)) mulD) (mBin (mBin (mBin (mVar 0) (mVar 4) ixD) (mC (.int 2147483587)) modD) (mBin (mVar 4) (mC (.int 3)) addD) mulD) addD) (mVar 4) addD) (mC (.int 2147483629)) modD)))
 (seqS (sIf (mBoo (mBin (mVar 2) (mBin (mC (.int 10)) (mC (.int 18)) powD) ltD)) (sAsg (.nm 2) (mC (.int 0))) sNx)
 (sRet (mCB [(mVar 2),(mVar 3)] lstM)))))))
noncomputable def z2X:FM:=runF 5 z54
theorem z8U(T:Wd K mg):FnOk P w K mg base CX0 1 T.x_l_bag.f T.x_l_bag.d z52 (spM (G0 K) 2 z2X):=okM z54 T.x_l_bag.F z1o fun cdv A outer s H E F hr=>(ss_cons (sst 2 z1o.nd (sc0 z00))
 (ss_cons (ss_if (sb_cmp z6Z (sv 1) (sln T.n_len (s1 (sv 0))) (z0z _)) (ss_one (sst 2 z1o.nd (se_cb rfl zcg rfl T.n_abs PyProof.Rows.Boot.«abs» (s1 (sxx (sv 0) (sv 1)))))) ss_nil)
 (ss_cons (sst 3 z1o.nd (se_mod rfl (se_pow rfl (se_add rfl (se_add rfl (se_mod rfl (sv 2) (sc0 z00)) (se_mul rfl (sc0 z00) (sv 1))) (sc0 z00)) (sc0 z00)) (sc0 z00)))
 (ss_cons (ss_for PassesOwn.never rfl (si_rng1 rfl T.n_range (s1 (se_cb rfl (z71 rfl) rfl T.n_min PyProof.Rows.Boot.«min» (s2 (sln T.n_len (s1 (sv 0))) (sc0 z00))))) (sgn 4 z1o.nd) (ss_one (sst 3 z1o.nd (se_mod rfl (se_add rfl (se_add rfl (se_mul rfl (sv 3) (sc0 z00)) (se_mul rfl (se_mod rfl (sxx (sv 0) (sv 4)) (sc0 z00)) (se_add rfl (sv 4) (sc0 z00)))) (sv 4)) (sc0 z00)))))
 (ss_cons (ss_if (sb_cmp z6Z (sv 2) (se_pow rfl (sc0 z00) (sc0 z00)) (z0z _)) (ss_one (sst 2 z1o.nd (sc0 z00))) ss_nil)
 (ss_one (ss_ret (se_lst rfl (s2 (sv 2) (sv 3))))))))))
noncomputable def z3M:MS:=(seqS (sIf (mBoo (mBin (mBin (mVar 0) (mC (.int 0)) ixD) (mC (.int 0)) gtD)) (seqS (sAsg (.nm 2) (mBin (mBin (mVar 0) (mC (.int 0)) ixD) (mVar 1) modD))
 (seqS (mTri (mBin (mBin (mVar 0) (mC (.int 0)) ixD) (mVar 1) z4e) (mVar 0) (mC (.int 0)) setD)
 (sRet (mVar 2)))) sNx)
 (seqS (mTri (mBin (mBin (mBin (mBin (mVar 0) (mC (.int 1)) ixD) (mC (.int 48271)) mulD) (mC (.int 7919)) addD) (mC (.int 2147483647)) modD) (mVar 0) (mC (.int 1)) setD)
 (sRet (mBin (mBin (mBin (mBin (mBin (mBin (mBin (mVar 0) (mC (.int 1)) ixD) (mC (.int 3)) powD) (mC (.int 2147483587)) modD) (mC (.int 7)) z4e) (mC (.int 69621)) mulD) (mC (.int 1073741789)) modD) (mVar 1) modD))))
noncomputable def z01:FM:=runF 3 z3M
theorem z09(T:Wd K mg):FnOk P w K mg base CX0 1 T.x_l_take.f T.x_l_take.d z3I (spM (G0 K) 2 z01):=okM z3M T.x_l_take.F z4x fun cdv A outer s H E F hr=>(ss_cons (ss_if (sb_cmp z70 (sxc (sv 0) z00) (sc0 z00) (z0z _)) (ss_cons (sst 2 z4x.nd (se_mod rfl (sxc (sv 0) z00) (sv 1)))
 (ss_cons (ss_setI (se_fdiv rfl (sxc (sv 0) z00) (sv 1)) (sv 0) (sc0 z00) (fun{to ti} h1 h2=>z9c h1 h2 z5m))
 (ss_one (ss_ret (sv 2))))) ss_nil)
 (ss_cons (ss_setI (se_mod rfl (se_add rfl (se_mul rfl (sxc (sv 0) z00) (sc0 z00)) (sc0 z00)) (sc0 z00)) (sv 0) (sc0 z00) (fun{to ti} h1 h2=>z9c h1 h2 z5m))
 (ss_one (ss_ret (se_mod rfl (se_mod rfl (se_mul rfl (se_fdiv rfl (se_mod rfl (se_pow rfl (sxc (sv 0) z00) (sc0 z00)) (sc0 z00)) (sc0 z00)) (sc0 z00)) (sc0 z00)) (sv 1))))))
noncomputable def z2i:MS:=(seqS (sAsg (.nm 2) (mBin (mCB [(mC (.int 2)),(mC (.int 3)),(mC (.int 40))] lstM) (z06 z01 [(mVar 0),(mC (.int 3))]) ixD))
 (sRet (mCB [(z0I (z0H [(mVar 1)]) (.nm 0) (rt true) (z06 z01 [(mVar 1),(mVar 2)]) 1 [0,2])] tupF)))
noncomputable def z1h:FM:=runF 3 z2i
theorem z55(T:Wd K mg):FnOk P w K mg base CX0 2 T.x_l_sounds.f T.x_l_sounds.d z2g (spM (G0 K) 2 z1h):=okM z2i T.x_l_sounds.F z2U fun cdv A outer s H E F hr=>(ss_cons (ss_set (fun{te} h=>z5j (i:=2) z2U.nd rfl (Or.inr rfl) h) (sxx (se_lst rfl (s3 (sc0 z00) (sc0 z00) (sc0 z00))) (scl T.x_l_take (z09 T) hr (s2 (sv 0) (sc0 z00)))))
 (ss_one (ss_ret (se_ct rfl (z0Y rfl) rfl T.n_tuple PyProof.Rows.Boot.«tuple» (s1 (se_comp (own:=["_law_k"]) (frees:=["_law_bag_here", "_law_top"]) (ix:=[0,2]) rfl rfl (z1g.sc (by kernel_rfl)) (si_rng1 rfl T.n_range (s1 (sv 1))) (fun _ _ _ _ _ _ _=>(sg_name (z0F (i:=0) (show List.Nodup (["_law_k", "_law_bag_here", "_law_top"]:List Str) by decide+kernel) rfl (Or.inl rfl)))) (fun _ _ _ _ _ _ _=>sts_nil) (fun _ _ _ _ _ _ _=>(scl T.x_l_take (z09 T) hr (s2 (sv 1) (sv 2))))))))))
noncomputable def z1e:MS:=(seqS (sAsg (.nm 1) (mBin (mCB [(mC (.int 2)),(mC (.int 3)),(mC (.int 1000)),(mC (.int 1040))] lstM) (z06 z01 [(mVar 0),(mC (.int 4))]) ixD))
 (sRet (mCB [(z0I (z0H [(mBin (mC (.int 1)) (z06 z01 [(mVar 0),(mC (.int 4))]) addD)]) (.nm 0) (rt true) (z06 z01 [(mVar 1),(mVar 2)]) 1 [0,1])] tupF)))
noncomputable def z0w:FM:=runF 2 z1e
theorem z2Y(T:Wd K mg):FnOk P w K mg base CX0 2 T.x_l_some_signs.f T.x_l_some_signs.d z1b (spM (G0 K) 1 z0w):=okM z1e T.x_l_some_signs.F z1C fun cdv A outer s H E F hr=>(ss_cons (ss_set (fun{te} h=>z5j (i:=1) z1C.nd rfl (Or.inr rfl) h) (sxx (se_lst rfl (s4 (sc0 z00) (sc0 z00) (sc0 z00) (sc0 z00))) (scl T.x_l_take (z09 T) hr (s2 (sv 0) (sc0 z00)))))
 (ss_one (ss_ret (se_ct rfl (z0Y rfl) rfl T.n_tuple PyProof.Rows.Boot.«tuple» (s1 (se_comp (own:=["_law_k"]) (frees:=["_law_bag_here", "_law_top"]) (ix:=[0,1]) rfl rfl (z1g.sc (by kernel_rfl)) (si_rng1 rfl T.n_range (s1 (se_add rfl (sc0 z00) (scl T.x_l_take (z09 T) hr (s2 (sv 0) (sc0 z00)))))) (fun _ _ _ _ _ _ _=>(sg_name (z0F (i:=0) (show List.Nodup (["_law_k", "_law_bag_here", "_law_top"]:List Str) by decide+kernel) rfl (Or.inl rfl)))) (fun _ _ _ _ _ _ _=>sts_nil) (fun _ _ _ _ _ _ _=>(scl T.x_l_take (z09 T) hr (s2 (sv 1) (sv 2))))))))))
noncomputable def z2j:MS:=(seqS (sAsg (.nm 2) (z06 z1h [(mVar 0),(mVar 1)]))
 (seqS (sAsg (.nm 3) (mBin (mCB [(mVar 1),(mC (.int 2))] lstM) (z06 z01 [(mVar 0),(mC (.int 2))]) ixD))
 (seqS (sAsg (.nm 4) (mCB [] lstM))
 (seqS (sAsg (.nm 5) (mC (.int 0)))
 (seqS (sFor (z0H [(mVar 1)]) (.nm 6) (sIf (mBoo (mBin (mVar 5) (mVar 1) ltD)) (seqS (sAsg (.nm 5) (mBin (mBin (mVar 5) (mC (.int 1)) addD) (z06 z01 [(mVar 0),(mCB [(mVar 3),(mBin (mVar 1) (mVar 5) subD)] minD)]) addD))
 (z2c (z1Q (mVar 4) [(mCB [(mVar 5),(z06 z0w [(mVar 0)]),(z06 z01 [(mVar 0),(mC (.int 9))]),(z06 z01 [(mVar 0),(mC (.int 100000))])] tupD)] appD))) sNx))
 (sRet (mCB [(mVar 2),(mCB [(mVar 4)] tupF),(mBin (z06 z01 [(mVar 0),(mC (.int 2))]) (mC (.int 1)) eqD)] tupD)))))))
noncomputable def z1i:FM:=runF 7 z2j
theorem z56(T:Wd K mg):FnOk P w K mg base CX0 3 T.x_l_commit.f T.x_l_commit.d z2h (spM (G0 K) 2 z1i):=okM z2j T.x_l_commit.F z0x fun cdv A outer s H E F hr=>by
 have h64:=hr.units
 exact(ss_cons (sst 2 z0x.nd (scl T.x_l_sounds (z55 T) hr (s2 (sv 0) (sv 1))))
 (ss_cons (sst 3 z0x.nd (sxx (se_lst rfl (s2 (sv 1) (sc0 z00))) (scl T.x_l_take (z09 T) hr (s2 (sv 0) (sc0 z00)))))
 (ss_cons (sst 4 z0x.nd (se_lst rfl (sa_of rfl .nil)))
 (ss_cons (sst 5 z0x.nd (sc0 z00))
 (ss_cons (ss_for PassesOwn.never rfl (si_rng1 rfl T.n_range (s1 (sv 1))) (sgn 6 z0x.nd) (ss_one (ss_if (sb_cmp z6Z (sv 5) (sv 1) (z0z _)) (ss_cons (sst 5 z0x.nd (se_add rfl (se_add rfl (sv 5) (sc0 z00)) (scl T.x_l_take (z09 T) hr (s2 (sv 0) (se_cb rfl (z71 rfl) rfl T.n_min PyProof.Rows.Boot.«min» (s2 (sv 3) (se_sub rfl (sv 1) (sv 5))))))))
 (ss_one (ss_expr (se_cl rfl PySem.F.slot_list_append PySem.F.type_list_append z1v (sv 4) (s1 (se_tup rfl (s4 (sv 5) (scl T.x_l_some_signs (z2Y T) hr (s1 (sv 0))) (scl T.x_l_take (z09 T) hr (s2 (sv 0) (sc0 z00))) (scl T.x_l_take (z09 T) hr (s2 (sv 0) (sc0 z00)))))))))) ss_nil)))
 (ss_one (ss_ret (se_tup rfl (s3 (sv 2) (se_ct rfl (z0Y rfl) rfl T.n_tuple PyProof.Rows.Boot.«tuple» (s1 (sv 4))) (se_cmp (z8z rfl h64) (scl T.x_l_take (z09 T) hr (s2 (sv 0) (sc0 z00))) (sc0 z00) (z0z _)))))))))))
noncomputable def z1T:MS:=(seqS (sAsg (.nm 1) (mBin (mCB [(z06 z01 [(mVar 0),(mC (.int 7))]),(mC (.int 60))] lstM) (mCB [(mBin (z06 z01 [(mVar 0),(mC (.int 8))]) (mC (.int 5)) eqD)] intD) ixD))
 (sRet (z0I (z0H [(mVar 1)]) (.nm 0) (rt true) (z06 z1i [(mVar 1),(mBin (mCB [(mBin (mC (.int 1)) (z06 z01 [(mVar 1),(mC (.int 7))]) addD),(mC (.int 24))] lstM) (mCB [(mBin (z06 z01 [(mVar 1),(mC (.int 8))]) (mC (.int 5)) eqD)] intD) ixD)]) 1 [0])))
noncomputable def z0V:FM:=runF 2 z1T
theorem z4y(T:Wd K mg):FnOk P w K mg base CX0 4 T.x_l_commits.f T.x_l_commits.d z1S (spM (G0 K) 1 z0V):=okM z1T T.x_l_commits.F z2p fun cdv A outer s H E F hr=>by
 have h64:=hr.units
 exact(ss_cons (sst 1 z2p.nd (sxx (se_lst rfl (s2 (scl T.x_l_take (z09 T) hr (s2 (sv 0) (sc0 z00))) (sc0 z00))) (se_ct rfl z72 rfl T.n_int PyProof.Rows.Boot.«int» (s1 (se_cmp (z8z rfl h64) (scl T.x_l_take (z09 T) hr (s2 (sv 0) (sc0 z00))) (sc0 z00) (z0z _))))))
 (ss_one (ss_ret (se_comp (own:=["_law_turn"]) (frees:=["_law_bag_here"]) (ix:=[0]) rfl rfl (z1g.sc (by kernel_rfl)) (si_rng1 rfl T.n_range (s1 (sv 1))) (fun _ _ _ _ _ _ _=>(sg_name (z0F (i:=0) (show List.Nodup (["_law_turn", "_law_bag_here"]:List Str) by decide+kernel) rfl (Or.inl rfl)))) (fun _ _ _ _ _ _ _=>sts_nil) (fun _ _ _ _ _ _ _=>(scl T.x_l_commit (z56 T) hr (s2 (sv 1) (sxx (se_lst rfl (s2 (se_add rfl (sc0 z00) (scl T.x_l_take (z09 T) hr (s2 (sv 1) (sc0 z00)))) (sc0 z00))) (se_ct rfl z72 rfl T.n_int PyProof.Rows.Boot.«int» (s1 (se_cmp (z8z rfl h64) (scl T.x_l_take (z09 T) hr (s2 (sv 1) (sc0 z00))) (sc0 z00) (z0z _))))))))))))
noncomputable def z3N:MS:=(seqS (sAsg (.nm 1) (mCB [] lstM))
 (seqS (sFor (z0T (mVar 0)) (.tp [(.nm 2),(.nm 3),(.nm 4)]) (seqS (sAsg (.nm 5) (mCB [(z0I (z0T (mVar 3)) (.nm 0) (rt true) (mCB [(mBin (mVar 0) (mC (.int 1)) ixD)] z3b) 1 []),(mCB [] lstM)] z68))
 (sIf (mAnd (z2a (mVar 4)) (mAnd (mBoo (z2n (mC (.int 2)) (mCB [(mVar 3)] lenD) (mC (.int 4)) leD leD)) (mAnd (mBoo (mBin (mCB [(mVar 2)] lenD) (mC (.int 6)) leD)) (mAnd (mBoo (mBin (mCB [(mVar 5)] lenD) (mC (.int 4)) leD)) (mBoo (mBin (mCB [(mVar 5)] maxS) (mC (.int 1000)) ltD)))))) (seqS (sAsg (.nm 6) (mCB [(mVar 2),(mCB [(mVar 5)] tupF),(mBin (mBin (mVar 3) (bd (mC (.int 1)) negD) ixD) (mC (.int 2)) ixD),(mC (.int 1000))] tupD))
 (sIf (mAnd (mBoo (mBin (mBin (mBin (mVar 3) (bd (mC (.int 1)) negD) ixD) (mC (.int 2)) ixD) (mC (.int 8)) ltD)) (mBoo (mBin (mVar 6) (mVar 1) ninD))) (z2c (z1Q (mVar 1) [(mVar 6)] appD)) sNx)) sNx)))
 (sRet (mCB [(mVar 1)] srtS))))
noncomputable def z24:FM:=runF 7 z3N
theorem z7C(T:Wd K mg):FnOk P w K mg base CX0 1 T.x_l_made.f T.x_l_made.d z3J (spM (G0 K) 1 z24):=okM z3N T.x_l_made.F z0U fun cdv A outer s H E F hr=>by
 have h64:=hr.units
 exact(ss_cons (sst 1 z0U.nd (se_lst rfl (sa_of rfl .nil)))
 (ss_cons (ss_for PassesOwn.never rfl (si_seq rfl (sv 0)) (sg_tup rfl rfl (sgs_cons (sgn 2 z0U.nd) (sgs_cons (sgn 3 z0U.nd) (sgs_cons (sgn 4 z0U.nd) sgs_nil)))) (ss_cons (sst 5 z0U.nd (se_cb rfl (z8Q rfl hr.hd) rfl T.n_sum PyProof.Rows.Boot.«sum» (s2 (se_comp (own:=["_law_piece"]) (frees:=[]) (ix:=[]) rfl rfl (z1g.sc (by kernel_rfl)) (si_seq rfl (sv 3)) (fun _ _ _ _ _ _ _=>(sg_name (z0F (i:=0) (show List.Nodup (["_law_piece"]:List Str) by decide+kernel) rfl (Or.inl rfl)))) (fun _ _ _ _ _ _ _=>sts_nil) (fun _ _ _ _ _ _ _=>(se_ct rfl (z73 rfl) rfl T.n_list PyProof.Rows.Boot.«list» (s1 (sxc (sv 0) z00))))) (se_lst rfl (sa_of rfl .nil)))))
 (ss_one (ss_if (SW.sb (sw_and (sb_truth rfl (sv 4)) (sw_and (sb_cmp2 z4R z4R (sc0 z00) (sln T.n_len (s1 (sv 3))) (sc0 z00)) (sw_and (sb_cmp z4R (sln T.n_len (s1 (sv 2))) (sc0 z00) (z0z _)) (sw_and (sb_cmp z4R (sln T.n_len (s1 (sv 5))) (sc0 z00) (z0z _)) (sw_and1 (sb_cmp z6Z (se_cb rfl (z7B rfl hr.hd) rfl T.n_max PyProof.Rows.Boot.«max» (s1 (sv 5))) (sc0 z00) (z0z _)))))))) (ss_cons (sst 6 z0U.nd (se_tup rfl (s4 (sv 2) (se_ct rfl (z0Y rfl) rfl T.n_tuple PyProof.Rows.Boot.«tuple» (s1 (sv 5))) (sxc (sxx (sv 3) (se_neg rfl (sc0 z00))) z00) (sc0 z00))))
 (ss_one (ss_if (SW.sb (sw_and (sb_cmp z6Z (sxc (sxx (sv 3) (se_neg rfl (sc0 z00))) z00) (sc0 z00) (z0z _)) (sw_and1 (sb_cmp (zce rfl h64) (sv 6) (sv 1) (by with_unfolding_all rfl))))) (ss_one (ss_expr (se_cl rfl PySem.F.slot_list_append PySem.F.type_list_append z1v (sv 1) (s1 (sv 6))))) ss_nil))) ss_nil))))
 (ss_one (ss_ret (se_cb rfl (zar rfl h64) rfl T.n_sorted PyProof.Rows.Boot.«sorted» (s1 (sv 1)))))))
noncomputable def z3O:MS:=(seqS (sAsg (.nm 1) (mBin (mC (.int 1)) (z06 z01 [(mVar 0),(mC (.int 5))]) addD))
 (seqS (sAsg (.nm 2) (z06 z01 [(mVar 0),(mC (.int 3))]))
 (seqS (sAsg (.nm 3) (z0I (z0H [(mVar 1)]) (.nm 0) (rt true) (mCB [(z06 z01 [(mVar 1),(mC (.int 3))])] lstM) 1 [0]))
 (seqS (sFor (z0H [(mVar 2)]) (.nm 4) (z2c (z1Q (mBin (mVar 3) (z06 z01 [(mVar 0),(mVar 1)]) ixD) [(mBin (mCB [(mC (.int 0)),(mC (.int 999)),(mC (.int 999)),(mC (.int 1000))] lstM) (z06 z01 [(mVar 0),(mC (.int 4))]) ixD)] appD)))
 (seqS (sAsg (.nm 5) (mBin (mCB [(mVar 1),(mCB [(mVar 1),(mC (.int 6))] maxD),(mC (.int 7))] lstM) (z06 z01 [(mVar 0),(mC (.int 3))]) ixD))
 (seqS (sAsg (.nm 6) (mCB [] lstM))
 (seqS (sFor (z0H [(mVar 1)]) (.nm 7) (seqS (sAsg (.nm 8) (mBin (mCB [(mBin (mVar 7) (mC (.int 1)) addD),(mVar 5)] lstM) (mCB [(mBin (mVar 7) (mBin (mVar 1) (mC (.int 1)) subD) eqD)] intD) ixD))
 (z2c (z1Q (mVar 6) [(mCB [(mVar 8),(mCB [(mBin (mVar 3) (mVar 7) ixD)] tupF),(mBin (mCB [(mC (.int 7)),(mC (.int 0)),(mC (.int 8))] lstM) (z06 z01 [(mVar 0),(mC (.int 3))]) ixD),(mC (.int 5))] tupD)] appD))))
 (sRet (mCB [(mCB [(z0I (z0H [(mVar 5)]) (.nm 0) (rt true) (z06 z01 [(mVar 1),(mC (.int 2))]) 1 [0])] tupF),(mCB [(mVar 6)] tupF),(mBin (z06 z01 [(mVar 0),(mC (.int 4))]) (mC (.int 0)) gtD)] tupD)))))))))
noncomputable def z1H:FM:=runF 9 z3O
theorem z7D(T:Wd K mg):FnOk P w K mg base CX0 2 T.x_l_edge.f T.x_l_edge.d z3K (spM (G0 K) 1 z1H):=okM z3O T.x_l_edge.F z0A fun cdv A outer s H E F hr=>by
 have h64:=hr.units
 exact(ss_cons (sst 1 z0A.nd (se_add rfl (sc0 z00) (scl T.x_l_take (z09 T) hr (s2 (sv 0) (sc0 z00)))))
 (ss_cons (sst 2 z0A.nd (scl T.x_l_take (z09 T) hr (s2 (sv 0) (sc0 z00))))
 (ss_cons (ss_comp (i:=3) (own:=["_law_piece"]) (frees:=["_law_bag_here"]) (ix:=[0]) rfl z0A.nd rfl (Or.inl rfl) (Or.inl rfl) rfl rfl (z1g.sc (by kernel_rfl)) (si_rng1 rfl T.n_range (s1 (sv 1))) (fun _ _ _ _ _ _ _=>(sg_name (z0F (i:=0) (show List.Nodup (["_law_piece", "_law_bag_here"]:List Str) by decide+kernel) rfl (Or.inl rfl)))) (fun _ _ _ _ _ _ _=>sts_nil) (fun _ _ _ _ _ _ _=>(se_lst rfl (s1 (scl T.x_l_take (z09 T) hr (s2 (sv 1) (sc0 z00)))))))
 (ss_cons (ss_for PassesOwn.never rfl (si_rng1 rfl T.n_range (s1 (sv 2))) (sgn 4 z0A.nd) (ss_one (ss_expr (se_cl rfl PySem.F.slot_list_append PySem.F.type_list_append z1v (sxx (sv 3) (scl T.x_l_take (z09 T) hr (s2 (sv 0) (sv 1)))) (s1 (sxx (se_lst rfl (s4 (sc0 z00) (sc0 z00) (sc0 z00) (sc0 z00))) (scl T.x_l_take (z09 T) hr (s2 (sv 0) (sc0 z00)))))))))
 (ss_cons (sst 5 z0A.nd (sxx (se_lst rfl (s3 (sv 1) (se_cb rfl (z9k rfl) rfl T.n_max PyProof.Rows.Boot.«max» (s2 (sv 1) (sc0 z00))) (sc0 z00))) (scl T.x_l_take (z09 T) hr (s2 (sv 0) (sc0 z00)))))
 (ss_cons (sst 6 z0A.nd (se_lst rfl (sa_of rfl .nil)))
 (ss_cons (ss_for PassesOwn.never rfl (si_rng1 rfl T.n_range (s1 (sv 1))) (sgn 7 z0A.nd) (ss_cons (sst 8 z0A.nd (sxx (se_lst rfl (s2 (se_add rfl (sv 7) (sc0 z00)) (sv 5))) (se_ct rfl z72 rfl T.n_int PyProof.Rows.Boot.«int» (s1 (se_cmp (z8z rfl h64) (sv 7) (se_sub rfl (sv 1) (sc0 z00)) (z0z _))))))
 (ss_one (ss_expr (se_cl rfl PySem.F.slot_list_append PySem.F.type_list_append z1v (sv 6) (s1 (se_tup rfl (s4 (sv 8) (se_ct rfl (z0Y rfl) rfl T.n_tuple PyProof.Rows.Boot.«tuple» (s1 (sxx (sv 3) (sv 7)))) (sxx (se_lst rfl (s3 (sc0 z00) (sc0 z00) (sc0 z00))) (scl T.x_l_take (z09 T) hr (s2 (sv 0) (sc0 z00)))) (sc0 z00)))))))))
 (ss_one (ss_ret (se_tup rfl (s3 (se_ct rfl (z0Y rfl) rfl T.n_tuple PyProof.Rows.Boot.«tuple» (s1 (se_comp (own:=["_law_place"]) (frees:=["_law_bag_here"]) (ix:=[0]) rfl rfl (z1g.sc (by kernel_rfl)) (si_rng1 rfl T.n_range (s1 (sv 5))) (fun _ _ _ _ _ _ _=>(sg_name (z0F (i:=0) (show List.Nodup (["_law_place", "_law_bag_here"]:List Str) by decide+kernel) rfl (Or.inl rfl)))) (fun _ _ _ _ _ _ _=>sts_nil) (fun _ _ _ _ _ _ _=>(scl T.x_l_take (z09 T) hr (s2 (sv 1) (sc0 z00))))))) (se_ct rfl (z0Y rfl) rfl T.n_tuple PyProof.Rows.Boot.«tuple» (s1 (sv 6))) (se_cmp z70 (scl T.x_l_take (z09 T) hr (s2 (sv 0) (sc0 z00))) (sc0 z00) (z0z _)))))))))))))
noncomputable def zaM:MS:=(seqS (sFor (z0H [(mCB [(mC (.int 1)),(mCB [(mC (.int 3)),(mCB [(mVar 0)] lenD)] minD)] maxD)]) (.nm 1) (seqS (sAsg (.nm 2) (z06 z2X [(mVar 0),(mVar 1)]))
 (seqS (sAsg (.nm 3) (mBin (z0I (z0H [(mC (.int 6))]) (.nm 0) (rt true) (z06 z1H [(mVar 1)]) 1 [2]) (mSl (z06 z0V [(mVar 2)]) none (some (mC (.int 54)))) addD))
 (sFor (z0T (mBin (mCB [(mVar 3),(bd (mVar 3) rvsD),(mBin (mSl (mVar 3) none (some (mC (.int 1)))) (mC (.int 2)) mulD),(mCB [] lstM)] lstM) (z0I (z0T (mSl (mVar 3) none (some (mC (.int 6))))) (.nm 0) (rt true) (mCB [(mVar 0)] lstM) 1 []) addD)) (.nm 4) (seqS (sAsg (.nm 5) (mCB [(mVar 4)] z3b))
 (seqS (sAsg (.nm 6) (z06 z24 [(mVar 4)]))
 (sFor (z0H [(mC (.int 2))]) (.nm 7) (seqS (sAsg (.nm 8) (z06 z0v [(mVar 5)]))
 (seqS (sIf (mOr (mNot (z2a (mIsi "list" (mVar 8)))) (mOr (mBoo (mBin (mVar 8) (mVar 6) neD)) (mBoo (mBin (mVar 5) (mVar 4) neD)))) (sRet (mC (.bool false))) sNx)
 (z2c (z1Q (mVar 8) [(mCB [(mCB [] tupD),(mCB [] tupD),(mC (.int 0)),(mC (.int 0))] tupD)] appD)))))))))))
 (sRet (mC (.bool true))))
noncomputable def f_law:FM:=runF 9 zaM
theorem zcr(T:Wd K mg):FnOk P w K mg base CX0 5 T.x_law.f T.x_law.d zaL (spM (G0 K) 1 f_law):=okM zaM T.x_law.F z22 fun cdv A outer s H E F hr=>by
 have h64:=hr.units
 exact(ss_cons (ss_for PassesOwn.never rfl (si_rng1 rfl T.n_range (s1 (se_cb rfl (z9k rfl) rfl T.n_max PyProof.Rows.Boot.«max» (s2 (sc0 z00) (se_cb rfl (z71 rfl) rfl T.n_min PyProof.Rows.Boot.«min» (s2 (sc0 z00) (sln T.n_len (s1 (sv 0))))))))) (sgn 1 z22.nd) (ss_cons (ss_set (fun{te} h=>z5j (i:=2) z22.nd rfl (Or.inr rfl) h) (scl T.x_l_bag (z8U T) hr (s2 (sv 0) (sv 1))))
 (ss_cons (sst 3 z22.nd (se_add rfl (se_comp (own:=["_law_turn"]) (frees:=["_law_bag_here"]) (ix:=[2]) rfl rfl (z1g.sc (by kernel_rfl)) (si_rng1 rfl T.n_range (s1 (sc0 z00))) (fun _ _ _ _ _ _ _=>(sg_name (z0F (i:=0) (show List.Nodup (["_law_turn", "_law_bag_here"]:List Str) by decide+kernel) rfl (Or.inl rfl)))) (fun _ _ _ _ _ _ _=>sts_nil) (fun _ _ _ _ _ _ _=>(scl T.x_l_edge (z7D T) hr (s1 (sv 1))))) (se_slice rfl (scl T.x_l_commits (z4y T) hr (s1 (sv 2))) so_none (so_some (sc0 z00)))))
 (ss_one (ss_for PassesOwn.never rfl (si_seq rfl (se_add rfl (se_lst rfl (s4 (sv 3) (se_rev rfl (z6w (zbp z9e z00)) (sv 3)) (se_mul rfl (se_slice rfl (sv 3) so_none (so_some (sc0 z00))) (sc0 z00)) (se_lst rfl (sa_of rfl .nil)))) (se_comp (own:=["_law_one"]) (frees:=[]) (ix:=[]) rfl rfl (z1g.sc (by kernel_rfl)) (si_seq rfl (se_slice rfl (sv 3) so_none (so_some (sc0 z00)))) (fun _ _ _ _ _ _ _=>(sg_name (z0F (i:=0) (show List.Nodup (["_law_one"]:List Str) by decide+kernel) rfl (Or.inl rfl)))) (fun _ _ _ _ _ _ _=>sts_nil) (fun _ _ _ _ _ _ _=>(se_lst rfl (s1 (sv 0))))))) (sgn 4 z22.nd) (ss_cons (sst 5 z22.nd (se_ct rfl (z73 rfl) rfl T.n_list PyProof.Rows.Boot.«list» (s1 (sv 4))))
 (ss_cons (sst 6 z22.nd (scl T.x_l_made (z7C T) hr (s1 (sv 4))))
 (ss_one (ss_for PassesOwn.never rfl (si_rng1 rfl T.n_range (s1 (sc0 z00))) (sgn 7 z22.nd) (ss_cons (sst 8 z22.nd (scl T.x_p_made_words (z2W T) hr (s1 (sv 5))))
 (ss_cons (ss_if (SW.sb (sw_or (sb_not (sb_truth rfl (se_isi rfl (by decide) rfl T.n_isinstance (sv 8) (z9H (v:= .ty "list") rfl T.n_list PyProof.Rows.Boot.«list» rfl)))) (sw_or (sb_cmp (zcd rfl h64) (sv 8) (sv 6) (z0z _)) (sw_or1 (sb_cmp (zcd rfl h64) (sv 5) (sv 4) (z0z _)))))) (ss_one (ss_ret (sc0 z87))) ss_nil)
 (ss_one (ss_expr (se_cl rfl PySem.F.slot_list_append PySem.F.type_list_append z1v (sv 8) (s1 (se_tup rfl (s4 (se_tup rfl (sa_of rfl .nil)) (se_tup rfl (sa_of rfl .nil)) (sc0 z00) (sc0 z00))))))))))))))))))
 (ss_one (ss_ret (sc0 z87))))
end
end My
namespace Mi
open PySem L2
theorem drop_len{α:Type}(xs ys:List α)(k:Nat)(h:xs.length=k):(xs++ys).drop k=ys:=by subst h;simp
theorem take_len{α:Type}(xs ys:List α)(k:Nat)(h:xs.length=k):(xs++ys).take k=xs:=by subst h;simp
theorem z0W: ∀ds:List D,z0a (ds.map some)=some ds
 |[]=>rfl
 |d::ds=>by simp[z0a,z0W ds]
theorem z6b{t:D}{ts:List D}{n':Nat}{s:Stt}:z3y (.ok t ts n') ts s= .ok t {s with n:=n'}:=by
 unfold z3y;simp
end Mi
set_option maxHeartbeats 40000
namespace Mi
open PySem L2
class Kq{α:Type}(f:α):Type where
instance kq{α:Type}(f:α):Kq f:=⟨⟩
noncomputable def Res.bnd{α β:Type}(f:α->Stt->Res β)[Kq f](r:Res α):Res β:=match r with
 | .ok a s=>f a s
 | .ex d s=> .ex d s
 | .no=> .no
theorem z3p{α β:Type}{a:α}{s:Stt}{f:α->Stt->Res β}:((Res.ok a s).bnd f:Res β)=f a s:=(rfl)
noncomputable def Res.lf{α:Type}(f:α->MS)[Kq f](r:Res α):RS:=match r with
 | .ok a s=>f a s
 | .ex d s=> .ex d s
 | .no=> .no
theorem zaN{α:Type}{a:α}{s:Stt}{f:α->MS}:((Res.ok a s).lf f:RS)=f a s:=(rfl)
noncomputable def RS.sq(m:MS)[Kq m](r:RS):RS:=match r with
 | .nx s=>m s
 |r=>r
theorem zdQ{s:Stt}{m:MS}:((RS.nx s).sq m:RS)=m s:=(rfl)
theorem zdR{d:D}{s:Stt}{m:MS}:((RS.rt d s).sq m:RS)= .rt d s:=(rfl)
noncomputable def RS.fin(r:RS):RF:=match r with
 | .nx s'=>match z0a s'.tm with|some ts'=> .ok .non ts' s'.n|none=> .no
 | .rt t s'=>match z0a s'.tm with|some ts'=> .ok t ts' s'.n|none=> .no
 | .ex d s'=>match z0a s'.tm with|some ts'=> .ex d ts' s'.n|none=> .no
 |_=> .no
noncomputable def finO(o:Option (List D))(t:D)(n:Nat):RF:=match o with|some ts=> .ok t ts n|none=> .no
theorem z7E{ts:List D}{t:D}{n:Nat}:finO (some ts) t n= .ok t ts n:=(rfl)
theorem zdS{t:D}{σ tm:List (Option D)}{n:Nat}:(RS.rt t ⟨σ,tm,n⟩).fin=finO (z0a tm) t n:=(rfl)
theorem zdT{nl:Nat}{mb:MS}{ts:List D}{n:Nat}:runF nl mb ts n=(mb ⟨ts.map some++List.replicate (nl -ts.length) none,ts.map some,n⟩).fin:=(rfl)
section
variable{α β:Type}{m ma mb mc:M D}{s:Stt}{ms:List (M D)}{σ tm:List (Option D)}{n:Nat}
theorem x_bd{m:M α}{f:α->M β}:bd m f s=(m s).bnd f:=(rfl)
theorem x_rt{a:α}:rt a s= .ok a s:=(rfl)
theorem zcs{t:D}:Stt.psh ⟨σ,tm,n⟩ t=⟨σ,some t::tm,n⟩:=(rfl)
theorem zdU:Stt.nxt ⟨σ,tm,n⟩=⟨σ,tm,n+1⟩:=(rfl)
theorem zdV{t:D}{r:List (Option D)}:pop ⟨σ,some t::r,n⟩= .ok t ⟨σ,r,n⟩:=(rfl)
noncomputable def vOf(o:Option (Option D))(s:Stt):Res D:=match o with
 |some (some t)=> .ok t s
 |_=> .no
theorem z8V{t:D}:vOf (some (some t)) s= .ok t s:=(rfl)
theorem zdW{i:Nat}:mVar i ⟨σ,tm,n⟩=vOf (σ[i]?) ⟨σ,tm,n⟩:=by
 unfold mVar vOf
 cases σ[i]? with
 |none=>rfl
 |some o=>cases o<;>rfl
theorem x_C{d:D}:mC d s= .ok d s:=(rfl)
theorem zaO{g:D->D->M D}:mBin ma mb g s=(ma s).bnd fun x s1=>(mb (s1.psh x)).bnd fun y s2=>(pop s2).bnd fun x' s3=>g x' y s3:=(rfl)
theorem zdX:mBoo m s=(m s).bnd booD:=(rfl)
theorem zct{b:Bool}:booD (.bool b) s= .ok b s:=(rfl)
theorem zcu:z2a m s=(m s).bnd truD:=(rfl)
theorem x_tB{b:Bool}:truD (.bool b) s= .ok b s:=(rfl)
theorem zdY{m m':M Bool}:mAnd m m' s=(m s).bnd fun b=>iteM b m' (rt false):=(rfl)
theorem x_or{m m':M Bool}:mOr m m' s=(m s).bnd fun b=>iteM b (rt true) m':=(rfl)
theorem zdZ{m:M Bool}:mNot m s=(m s).bnd fun b s1=> .ok (!b) s1:=(rfl)
theorem x_it{m m':M α}:iteM true m m' s=m s:=(rfl)
theorem x_if{m m':M α}:iteM false m m' s=m' s:=(rfl)
theorem zaP:z0c [] s= .ok [] s:=(rfl)
theorem z3P:z0c (m::ms) s=(m s).bnd fun x s1=>(z0c ms (s1.psh x)).bnd fun ys s2=>(pop s2).bnd fun x' s3=> .ok (x'::ys) s3:=(rfl)
theorem x_cb{g:List D->M D}:mCB ms g s=(z0c ms s).bnd g:=(rfl)
theorem zcv{f:FM}:z06 f ms s=(z0c ms s).bnd fun ts s1=>z3y (f ts s1.n) ts s1:=(rfl)
noncomputable def isiK(o:Option Bool)(s:Stt):Res D:=match o with
 |some b=> .ok (.bool b) s
 |none=> .no
theorem z7F{b:Bool}:isiK (some b) s= .ok (.bool b) s:=(rfl)
theorem ze0{T:String}:mIsi T m s=(m s).bnd fun d s1=>isiK (isiD T d) s1:=by
 unfold mIsi bd Res.bnd isiK
 cases m s with
 |ok d s1=>dsimp only;cases isiD T d<;>rfl
 |ex d s1=>rfl
 |no=>rfl
theorem zaQ{g g':D->D->M D}:z2n ma mb mc g g' s=(ma s).bnd fun x s1=>(mb (s1.psh x)).bnd fun y s2=>(pop s2).bnd fun x' s3=>z6M y (bd (mBoo (g x' y)) fun k=>iteM k (bd mc fun z=>g' y z) (rt (.bool false))) s3:=(rfl)
theorem ze1{i:Int}{m:M D}:z6M (.int i) m s=m s:=(rfl)
noncomputable def intK(o:Option Int)(s:Stt):Res (Option Int):=match o with
 |some i=> .ok (some i) s
 |none=> .no
theorem z7G{i:Int}:intK (some i) s= .ok (some i) s:=(rfl)
theorem zaR:z3a none s= .ok none s:=(rfl)
theorem zaS:z3a (some m) s=(m s).bnd fun d s1=>intK (mInt d) s1:=by
 show bd m (fun d=>match mInt d with|some i=>rt (some i)|none=>fl) s=_
 unfold bd Res.bnd
 cases m s with
 |ok d s1=>show(match mInt d with|some i=>rt (some i)|none=>fl:M (Option Int)) s1=intK (mInt d) s1;cases mInt d<;>rfl
 |ex d s1=>rfl
 |no=>rfl
theorem zcw{i:Int}:mInt (.int i)=some i:=(rfl)
theorem x_sl{lo hi:Option (M D)}:mSl m lo hi s=(m s).bnd fun x s1=>(z3a lo (s1.psh x)).bnd fun l s2=>(z3a hi s2).bnd fun h s3=>(pop s3).bnd fun x' s4=>slD x' l h s4:=(rfl)
theorem zcx{i j:Int}:addD (.int i) (.int j) s= .ok (.int (i+j)) s:=(rfl)
theorem z9p{k l:Nat}{a b:List D}(h:a.length+b.length<=sizeLine):addD (.lst k a) (.lst l b) s= .ok (.lst s.n (a++b)) s.nxt:=by simp only[addD,if_pos h];rfl
theorem ze2{i j:Int}:subD (.int i) (.int j) s= .ok (.int (i -j)) s:=(rfl)
theorem z7H{i j:Int}(h:CMul i j):mulD (.int i) (.int j) s= .ok (.int (i*j)) s:=by simp only[mulD,if_pos h];rfl
theorem z9q{i j:Int}(h:CDiv i j):z4e (.int i) (.int j) s= .ok (.int (i/j)) s:=by simp only[z4e,if_pos h];rfl
theorem z3Q{i j:Int}(h:0<j):modD (.int i) (.int j) s= .ok (.int (i %j)) s:=by simp only[modD,if_pos h];rfl
theorem zaT{i j:Int}(h:CPow i j):powD (.int i) (.int j) s= .ok (.int (i^j.toNat)) s:=by simp only[powD,if_pos h];rfl
theorem y_lt{i j:Int}:ltD (.int i) (.int j) s= .ok (.bool (decide (i<j))) s:=(rfl)
theorem y_le{i j:Int}:leD (.int i) (.int j) s= .ok (.bool (decide (i<=j))) s:=(rfl)
theorem y_gt{i j:Int}:gtD (.int i) (.int j) s= .ok (.bool (decide (j<i))) s:=(rfl)
theorem ze3{i:Int}:negD (.int i) s= .ok (.int (-i)) s:=(rfl)
theorem y_eq{t t':D}(h:eqC t t'=true):eqD t t' s= .ok (.bool (PyData.eqv (er t) (er t'))) s:=by simp only[eqD,if_pos h];rfl
theorem y_ne{t t':D}(h:eqC t t'=true):neD t t' s= .ok (.bool (!PyData.eqv (er t) (er t'))) s:=by simp only[neD,if_pos h];rfl
theorem ze4{t t':D}{ds:List D}(e:seqD t'=some ds)(h:inC t ds=true):ninD t t' s= .ok (.bool (!(erL ds).any fun y=>PyData.eqv y (er t))) s:=by simp only[ninD,e,if_pos h];rfl
theorem ze5{ds:List D}{i:Int}:ixD (.tup ds) (.int i) s=optM (atI ds i) s:=(rfl)
theorem ze6{l:Nat}{ds:List D}{i:Int}:ixD (.lst l ds) (.int i) s=optM (atI ds i) s:=(rfl)
theorem ze7{ds:List D}{i:Int}:ixD (.ro ds) (.int i) s=optM (atI ds i) s:=(rfl)
theorem ze8{d:D}:optM (some d) s= .ok d s:=(rfl)
theorem ze9{l:Nat}{ds:List D}{lo hi:Option Int}:slD (.lst l ds) lo hi s= .ok (.lst s.n (cutA ds lo hi)) s.nxt:=(rfl)
theorem z7I{ts:List D}(h:ts.length<=sizeLine):tupD ts s= .ok (.tup ts) s:=by simp only[tupD,if_pos h];rfl
theorem z57{ts:List D}(h:ts.length<=sizeLine):lstM ts s= .ok (.lst s.n ts) s.nxt:=by simp only[lstM,if_pos h];rfl
theorem zcy{ds:List D}:lenD [.tup ds] s= .ok (.int ds.length) s:=(rfl)
theorem zcz{l:Nat}{ds:List D}:lenD [.lst l ds] s= .ok (.int ds.length) s:=(rfl)
theorem zcA{ds:List D}:lenD [.ro ds] s= .ok (.int ds.length) s:=(rfl)
theorem zea{i:Int}:absD [.int i] s= .ok (.int (if i<0 then -i else i)) s:=(rfl)
theorem zeb{i j:Int}:minD [.int i, .int j] s= .ok (.int (if j<i then j else i)) s:=(rfl)
theorem zec{i j:Int}:maxD [.int i, .int j] s= .ok (.int (if j>i then j else i)) s:=(rfl)
theorem zcB{b:Bool}:intD [.bool b] s= .ok (.int (if b then 1 else 0)) s:=(rfl)
theorem zcC{l:Nat}{ds:List D}:tupF [.lst l ds] s= .ok (.tup ds) s:=(rfl)
theorem zaU{ds:List D}:z3b [.tup ds] s= .ok (.lst s.n ds) s.nxt:=(rfl)
theorem zaV{l:Nat}{ds:List D}:z3b [.lst l ds] s= .ok (.lst s.n ds) s.nxt:=(rfl)
theorem zed{a b:MS}:seqS a b s=(a s).sq b:=by
 unfold seqS RS.sq
 cases a s<;>rfl
theorem zee:sNx s= .nx s:=(rfl)
theorem zcD:sRet m s=(m s).lf fun d s1=> .rt d s1:=(rfl)
theorem zaW:z2c m s=(m s).lf fun _ s1=> .nx s1:=(rfl)
theorem zef{c:M Bool}{a b:MS}:sIf c a b s=(c s).lf fun k=>iteS k a b:=(rfl)
theorem x_sT{a b:MS}:iteS true a b s=a s:=(rfl)
theorem x_sF{a b:MS}:iteS false a b s=b s:=(rfl)
noncomputable def asgK(o:Option (List (Option D)))(s:Stt):RS:=match o with
 |some σ'=> .nx {s with σ:=σ'}
 |none=> .no
theorem z7J{σ':List (Option D)}:asgK (some σ') ⟨σ,tm,n⟩= .nx ⟨σ',tm,n⟩:=(rfl)
theorem zcE{g:Tg}:sAsg g m s=(m s).lf fun d s1=>asgK (asg g d s1.σ) s1:=by
 unfold sAsg lift Res.lf asgK
 cases m s with
 |ok d s1=>first|(dsimp only;cases asg g d s1.σ<;>rfl)|(dsimp only;done)|rfl
 |ex d s1=>rfl
 |no=>rfl
theorem zeg{me mo mi:M D}{g:D->D->D->MS}:mTri me mo mi g s=(me s).lf fun v s1=>(mo (s1.psh v)).lf fun o s2=>(mi (s2.psh o)).lf fun i s3=>(pop s3).lf fun o' s4=>(pop s4).lf fun v' s5=>g o' i v' s5:=(rfl)
theorem zcF{l:Nat}{ds:List D}{k:Int}{v:D}{j:Nat}(e:ixN ds.length k=some j)(h:l∉labs v):setD (.lst l ds) (.int k) v s= .nx (s.put l (.lst l (ds.set j v))):=by simp only[setD,e,if_pos h]
theorem zcG{mo:M D}{g:D->List D->M D}:z1Q mo ms g s=(mo s).bnd fun x s1=>(isL x s1).bnd fun _ s2=>(z0c ms (s2.psh x)).bnd fun ys s3=>(pop s3).bnd fun x' s4=>g x' ys s4:=(rfl)
theorem zeh{l:Nat}{ds:List D}:isL (.lst l ds) s= .ok () s:=(rfl)
theorem z7K{l:Nat}{ds:List D}{y:D}(h:ds.length<sizeLine/\l∉labs y):appD (.lst l ds) [y] s= .ok .non (s.put l (.lst l (ds++[y]))):=by simp only[appD,if_pos h]
end
theorem z3q{α:Type}{xs:List α}{i:Int}{d:α}(h0:0<=i)(h:xs[i.toNat]? =some d):atI xs i=some d:=by
 obtain⟨j,rfl⟩:=Int.eq_ofNat_of_zero_le h0
 exact z9W (by simpa using h)
end Mi
set_option maxHeartbeats 400000
namespace Mi
open PySem L2
noncomputable def pl(l:Nat)(d:D):Nat->Option D:=fun k=>if k=l then some d else none
theorem zcH{σ tm:List (Option D)}{n l:Nat}{d:D}:Stt.put ⟨σ,tm,n⟩ l d=⟨rpO (pl l d) σ,rpO (pl l d) tm,n⟩:=(rfl)
theorem z1I{l:Nat}{d t:D}(h:l∉labs t):rp (pl l d) t=t:=za9 t fun k hk=>by
 unfold pl;rw[if_neg];intro e;subst e;exact h hk
theorem z2k{f:Nat->Option D}:rpO f []=[]:=(rfl)
theorem z8W{f:Nat->Option D}{r:List (Option D)}:rpO f (none::r)=none::rpO f r:=(rfl)
theorem z8X{f:Nat->Option D}{d:D}{r:List (Option D)}:rpO f (some d::r)=some (rp f d)::rpO f r:=(rfl)
theorem z4z{l:Nat}{d:D}{b:List D}:rp (pl l d) (.lst l b)=d:=by simp only[rp,pl,if_true]
theorem z7L{f:Nat->Option D}{i:Int}:rp f (.int i)= .int i:=(rfl)
theorem z7M{f:Nat->Option D}{i:Bool}:rp f (.bool i)= .bool i:=(rfl)
theorem z5I{f:Nat->Option D}{ds:List D}:rp f (.tup ds)= .tup (rpL f ds):=(rfl)
theorem z58{f:Nat->Option D}:rpL f []=[]:=(rfl)
theorem z1q{f:Nat->Option D}{d:D}{ds:List D}:rpL f (d::ds)=rp f d::rpL f ds:=(rfl)
mutual
theorem z6c{l:Nat}: ∀t:D,l∉labs t->z0l l t=none
 | .non,_=>rfl
 | .bool _,_=>rfl
 | .int _,_=>rfl
 | .str _,_=>rfl
 | .exc _,_=>rfl
 | .fn _,_=>rfl
 | .tup ds,h=>by simp only[labs] at h;simp only[z0l];exact findL_none ds h
 | .ro ds,h=>by simp only[labs] at h;simp only[z0l];exact findL_none ds h
 | .fdc ks ds,h=>by simp only[labs] at h;simp only[z0l];exact findL_none ds h
 | .lst k ds,h=>by
  simp only[labs,List.mem_cons,not_or] at h;simp only[z0l];rw[if_neg fun e=>h.1 e.symm];exact findL_none ds h.2
 | .dct k ks ds,h=>by
  simp only[labs,List.mem_cons,List.mem_append,not_or] at h;simp only[z0l];rw[if_neg fun e=>h.1 e.symm];exact findL_none ds h.2.2
 | .obj k c ks ds,h=>by
  simp only[labs,List.mem_cons,not_or] at h;simp only[z0l];rw[if_neg fun e=>h.1 e.symm];exact findL_none ds h.2
theorem findL_none{l:Nat}: ∀t:List D,l∉labsL t->findL l t=none
 |[],_=>rfl
 |d::ds,h=>by
  simp only[labsL,List.mem_append,not_or] at h
  simp only[findL,z6c d h.1,findL_none ds h.2]
end
theorem z0g{t:D}{l n' n:Nat}{b b' r:List D}{σ tm:List (Option D)}(hb:labsL b=[])(hb':labsL b'=[])(hr:labsL r=[])(f1:rpO (pl l (.lst l b)) σ=σ)(f2:rpO (pl l (.lst l b)) tm=tm):
 z3y (.ok t (.lst l b'::r) n') (.lst l b::r) ⟨σ,tm,n⟩= .ok t ⟨rpO (pl l (.lst l b')) σ,rpO (pl l (.lst l b')) tm,n'⟩:=by
 have e:(fun k=>findL k (.lst l b'::r))=pl l (.lst l b'):=by
  funext k
  simp only[findL,z0l,pl]
  by_cases h:l=k
  ·subst h;rw[if_pos rfl,if_pos rfl]
  ·rw[if_neg h,if_neg fun q=>h q.symm,findL_none b' (by rw[hb'];exact List.not_mem_nil),findL_none r (by rw[hr];exact List.not_mem_nil)]
 unfold z3y
 by_cases h:(D.lst l b'::r)=(D.lst l b::r)
 ·have hh:b'=b:=by injection h with h _;injection h
  subst hh
  simp only[if_true]
  rw[f1,f2]
 ·simp only[if_neg h]
  rw[if_pos,e]
  intro k _ hk
  simp only[labsL,labs,hb,hr,List.append_nil,List.mem_singleton] at hk
  subst hk
  have:=congrFun e k
  rw[show findL k (D.lst k b'::r)=pl k (D.lst k b') k from this];simp[pl]
theorem zei{mi:M ItK}{g:Tg}{b:MS}{s:Stt}:sFor mi g b s=(mi s).lf fun K s=>forGo K g b (K.len s.tm) 0 s:=(rfl)
theorem z9r{ms:List (M D)}{s:Stt}:z0H ms s=(z0c ms s).bnd rng1:=(rfl)
theorem z2Z{j:Int}{s:Stt}(h: -(2^62)<=j/\j<2^62):rng1 [.int j] s= .ok (kRng 0 j.toNat) s:=by simp only[rng1,if_pos h];rfl
theorem zcI{lo:Int}{N:Nat}{tm:List (Option D)}:(kRng lo N).len tm=N:=(rfl)
theorem z2l{P:Nat->Stt->Prop}{lo:Int}{N:Nat}{g:Tg}{b:MS}
 (body: ∀i,i<N->∀s,P i s->∃σ',asg g (.int (lo+i)) s.σ=some σ'/\∃s',b {s with σ:=σ'}= .nx s'/\P (i+1) s'):
 ∀(f i:Nat) (s:Stt),i+f=N->P i s->∃s',forGo (kRng lo N) g b f i s= .nx s'/\P N s':=by
 intro f
 induction f with
 |zero=>
  intro i s hi h
  have e:i=N:=by lia
  subst e
  refine⟨s, ?_,h⟩
  unfold forGo
  simp only[kRng,Nat.lt_irrefl,if_false]
  rfl
 |succ f ih=>
  intro i s hi h
  have hl:i<N:=by lia
  obtain⟨σ',e1,s',e2,h'⟩:=body i hl s h
  obtain⟨s2,e3,h2⟩:=ih (i+1) s' (by lia) h'
  refine⟨s2, ?_,h2⟩
  unfold forGo
  simp only[kRng,if_pos hl,e1,e2]
  exact e3
mutual
theorem zcJ{l:Nat}{b:List D}{d:D}: ∀t:D,rp (pl l d) (rp (pl l (.lst l b)) t)=rp (pl l d) t
 | .non=>rfl
 | .bool _=>rfl
 | .int _=>rfl
 | .str _=>rfl
 | .exc _=>rfl
 | .fn _=>rfl
 | .tup ds=>by simp only[rp];rw[rpL_rp ds]
 | .ro ds=>by simp only[rp];rw[rpL_rp ds]
 | .fdc ks ds=>by simp only[rp];rw[rpL_rp ds]
 | .lst k ds=>by
  by_cases h:k=l
  ·subst h;simp only[rp,pl,if_true]
  ·have e: ∀x,pl l x k=none:=fun x=>by simp only[pl,if_neg h]
   simp only[rp,e];rw[rpL_rp ds]
 | .dct k ks ds=>by
  by_cases h:k=l
  ·subst h;simp only[rp,pl,if_true]
  ·have e: ∀x,pl l x k=none:=fun x=>by simp only[pl,if_neg h]
   simp only[rp,e];rw[rpL_rp ds]
 | .obj k c ks ds=>by
  by_cases h:k=l
  ·subst h;simp only[rp,pl,if_true]
  ·have e: ∀x,pl l x k=none:=fun x=>by simp only[pl,if_neg h]
   simp only[rp,e];rw[rpL_rp ds]
theorem rpL_rp{l:Nat}{b:List D}{d:D}: ∀t:List D,rpL (pl l d) (rpL (pl l (.lst l b)) t)=rpL (pl l d) t
 |[]=>rfl
 |t::ts=>by simp only[rpL];rw[zcJ t,rpL_rp ts]
end
theorem z30{l:Nat}{b:List D}{d:D}: ∀t:List (Option D),rpO (pl l d) (rpO (pl l (.lst l b)) t)=rpO (pl l d) t
 |[]=>rfl
 |none::ts=>by simp only[rpO];rw[z30 ts]
 |some t::ts=>by simp only[rpO];rw[zcJ t,z30 ts]
theorem z31{f:Nat->Option D}: ∀(a b:List (Option D)),rpO f (a++b)=rpO f a++rpO f b
 |[],b=>rfl
 |none::a,b=>by simp only[List.cons_append,rpO,z31 a b]
 |some d::a,b=>by simp only[List.cons_append,rpO,z31 a b]
theorem z3R{f:Nat->Option D}: ∀(a:List (Option D)),(rpO f a).length=a.length
 |[]=>rfl
 |none::a=>by simp only[rpO,List.length_cons,z3R a]
 |some d::a=>by simp only[rpO,List.length_cons,z3R a]
theorem z4A: ∀ds:List D,z05 (ds.map some)=labsL ds
 |[]=>rfl
 |d::ds=>by simp only[List.map_cons,z05,labsL,z4A ds]
theorem z32: ∀a b:List D,labsL (a++b)=labsL a++labsL b
 |[],b=>rfl
 |d::ds,b=>by simp only[List.cons_append,labsL,z32 ds b,List.append_assoc]
theorem z7N{l:Nat}: ∀ds:List D,l∈labsL ds.reverse↔l∈labsL ds
 |[]=>Iff.rfl
 |d::ds=>by simp only[List.reverse_cons,z32,labsL,List.mem_append,z7N ds,List.append_nil];exact Or.comm
theorem z4B{l:Nat}{d:D}{ds:List D}(h:l∉labsL ds):rpO (pl l d) (ds.reverse.map some)=ds.reverse.map some:=z6G _ fun k hk=>by
 rw[z4A,z7N] at hk
 unfold pl;rw[if_neg];intro e;subst e;exact h hk
theorem z6d{me:M D}{N:Nat}{cap σ0 tm0:List (Option D)}{l ol:Nat}{Bg:List D->Prop}{Q:Nat->D->Prop}(mono: ∀a b,a<=b->∀y,Q a y->Q b y)(hol:σ0.length=ol)(hz:N<sizeLine)
 (hme: ∀i,i<N->∀b tm n,Bg b->l<n->rpO (pl l (.lst l b)) tm=tm->∃y b' n',Bg b'/\Q n' y/\n<=n'/\l∉labs y/\me ⟨some (.int (0+(i:Nat)))::rpO (pl l (.lst l b)) cap,tm,n⟩= .ok y ⟨some (.int (0+(i:Nat)))::rpO (pl l (.lst l b')) cap,rpO (pl l (.lst l b')) tm,n'⟩):
 ∀(f:Nat) (acc:List D) (o:Option D) (b:List D) (n:Nat),acc.length+f=N->Bg b->l<n->(∀y∈acc,Q n y)->l∉labsL acc->
  ∃ys b' n',ys.length=N/\(∀y∈ys,Q n' y)/\l∉labsL ys/\Bg b'/\n<=n'/\
   z0X (kRng 0 N) (.nm 0) (rt true) me ol f acc.length acc.length ⟨o::rpO (pl l (.lst l b)) cap,(acc.reverse.map some)++(rpO (pl l (.lst l b)) σ0++rpO (pl l (.lst l b)) tm0),n⟩= .ok (.lst n' ys) ⟨rpO (pl l (.lst l b')) σ0,rpO (pl l (.lst l b')) tm0,n'+1⟩:=by
 intro f
 induction f with
 |zero=>
  intro acc o b n hi hb hn hq hf
  have hi:acc.length=N:=by lia
  refine⟨acc,b,n,hi,hq,hf,hb,Nat.le_refl _, ?_⟩
  have l1:(acc.reverse.map some).length=acc.length:=by simp
  unfold z0X
  simp only[kRng,hi,Nat.lt_irrefl,if_false]
  rw[<-hi,take_len _ _ _ l1]
  have e2:(acc.reverse.map some).reverse=acc.map some:=by simp
  rw[e2,z0W]
  simp only[Res.ok.injEq,true_and,Stt.mk.injEq,and_true]
  constructor
  ·rw[drop_len _ _ _ l1,take_len _ _ _ (by rw[z3R];exact hol)]
  ·rw[<-List.append_assoc,Nat.add_zero]
   exact drop_len _ _ _ (by simp[z3R,hol])
 |succ f ih=>
  intro acc o b n hi hb hn hq hf
  have hlt:acc.length<N:=by lia
  unfold z0X
  simp only[kRng,if_pos hlt,asg,List.set_cons_zero,rt]
  rw[if_pos (by lia)]
  obtain⟨y,b',n',h1,h2,h3,h4,h5⟩:=hme acc.length hlt b ((acc.reverse.map some)++(rpO (pl l (.lst l b)) σ0++rpO (pl l (.lst l b)) tm0)) n hb hn (by rw[z31,z31,z30,z30,z4B hf])
  rw[h5]
  obtain⟨ys,b2,n2,g1,g2,g3,g4,g5,g6⟩:=ih (acc++[y]) (some (.int (0+(acc.length:Nat)))) b' n' (by simp;lia) h1 (by lia) (by
   intro z hz
   rcases List.mem_append.mp hz with hz|hz
   ·exact mono _ _ h3 z (hq z hz)
   ·rw[List.mem_singleton.mp hz];exact h2) (by
   rw[z32]
   simp only[labsL,List.append_nil,List.mem_append,not_or]
   exact⟨hf,h4⟩)
  refine⟨ys,b2,n2,g1,g2,g3,g4,by lia, ?_⟩
  rw[<-g6]
  simp only[Stt.psh,z31,z30,z4B hf,List.length_append,List.length_cons,List.length_nil,Nat.zero_add,List.reverse_append,List.reverse_cons,List.reverse_nil,List.nil_append,List.map_append,List.map_cons,List.map_nil,List.cons_append]
  rfl
theorem z1j{ms:List (M D)}{me:M D}{N:Nat}{ix:List Nat}{s:Stt}{l n:Nat}{j:Int}{σ0 tm0:List (Option D)}{b:List D}{Bg:List D->Prop}{Q:Nat->D->Prop}(mono: ∀a b,a<=b->∀y,Q a y->Q b y)(hms:z0c ms s= .ok [.int j] ⟨σ0,tm0,n⟩)(hj:j.toNat=N)(hj': -(2^62)<=j/\j<2^62)(hz:N<sizeLine)
 (hb:Bg b) (hn:l<n) (f1:rpO (pl l (.lst l b)) σ0=σ0) (f2:rpO (pl l (.lst l b)) tm0=tm0) (f3:rpO (pl l (.lst l b)) (ix.map fun i=>(σ0[i]?).getD none)=ix.map fun i=>(σ0[i]?).getD none)
 (hme: ∀i,i<N->∀b tm n,Bg b->l<n->rpO (pl l (.lst l b)) tm=tm->∃y b' n',Bg b'/\Q n' y/\n<=n'/\l∉labs y/\me ⟨some (.int (0+(i:Nat)))::rpO (pl l (.lst l b)) (ix.map fun i=>(σ0[i]?).getD none),tm,n⟩= .ok y ⟨some (.int (0+(i:Nat)))::rpO (pl l (.lst l b')) (ix.map fun i=>(σ0[i]?).getD none),rpO (pl l (.lst l b')) tm,n'⟩):
 ∃ys b' n',ys.length=N/\(∀y∈ys,Q n' y)/\l∉labsL ys/\Bg b'/\n<=n'/\z0I (z0H ms) (.nm 0) (rt true) me 1 ix s= .ok (.lst n' ys) ⟨rpO (pl l (.lst l b')) σ0,rpO (pl l (.lst l b')) tm0,n'+1⟩:=by
 obtain⟨ys,b',n',h1,h2,h3,h4,h5,h6⟩:=z6d (me:=me) (N:=N) (cap:=ix.map fun i=>(σ0[i]?).getD none) (σ0:=σ0) (tm0:=tm0) (l:=l) (Bg:=Bg) (Q:=Q) mono rfl hz hme N [] none b n (by simp) hb hn (by intro y h;cases h) (by simp[labsL])
 refine⟨ys,b',n',h1,h2,h3,h4,h5, ?_⟩
 unfold z0I
 rw[x_bd,z9r,hms,z3p,z2Z hj',z3p,hj]
 rw[f1,f2,f3] at h6
 exact h6
inductive All2(Q:D->D->Prop):List D->List D->Prop
 |nil:All2 Q [] []
 |cons {a b:D} {as bs:List D}:Q a b->All2 Q as bs->All2 Q (a::as) (b::bs)
theorem z9s{m:M D}{s:Stt}{l:Nat}{ds:List D}{σ tm:List (Option D)}{n:Nat}(h:m s= .ok (.lst l ds) ⟨σ,tm,n⟩):z0T m s= .ok kLst ⟨σ,some (.lst l ds)::tm,n⟩:=by
 unfold z0T;rw[x_bd,h];rfl
end Mi
set_option maxHeartbeats 1000000
namespace Mi
open PySem L2
noncomputable def zej(o:Option (List D))(t:D)(n:Nat):RF:=match o with|some ts=> .ex t ts n|none=> .no
noncomputable def _root_.Mi.RS.finX(k:Nat):RS->RF
 | .nx s'=>finO (z0a s'.tm) .non s'.n
 | .rt t s'=>finO (z0a s'.tm) t s'.n
 | .ex d s'=>zej (z0a (zdJ k s'.tm)) d s'.n
 |_=> .no
end Mi
set_option maxHeartbeats 4000000
namespace Mi
open PySem L2
end Mi
set_option maxHeartbeats 40000
namespace Mi
open PySem L2
section
variable{α β:Type}{m ma mb mc:M D}{s:Stt}{ms:List (M D)}{σ tm l:List (Option D)}{n i j k p:Nat}{x y z u d:D}{g g2:D->D->M D}{h:List D->M D}
variable{a0 a1 a2 a3 a4 a5 a6 a7 a8 a9 a10 a11 a12 a13 a14 a15 v:Option D}
theorem qg1:(a0::a1::l)[1]? =some a1:=(rfl)
theorem qg2:(a0::a1::a2::l)[2]? =some a2:=(rfl)
theorem qg3:(a0::a1::a2::a3::l)[3]? =some a3:=(rfl)
theorem qg4:(a0::a1::a2::a3::a4::l)[4]? =some a4:=(rfl)
theorem qg5:(a0::a1::a2::a3::a4::a5::l)[5]? =some a5:=(rfl)
theorem qg6:(a0::a1::a2::a3::a4::a5::a6::l)[6]? =some a6:=(rfl)
theorem qg7:(a0::a1::a2::a3::a4::a5::a6::a7::l)[7]? =some a7:=(rfl)
theorem qg8:(a0::a1::a2::a3::a4::a5::a6::a7::a8::l)[8]? =some a8:=(rfl)
theorem qh1:(a0::a1::l).set 1 v=a0::v::l:=(rfl)
theorem qh2:(a0::a1::a2::l).set 2 v=a0::a1::v::l:=(rfl)
theorem qh3:(a0::a1::a2::a3::l).set 3 v=a0::a1::a2::v::l:=(rfl)
theorem qh4:(a0::a1::a2::a3::a4::l).set 4 v=a0::a1::a2::a3::v::l:=(rfl)
theorem qh5:(a0::a1::a2::a3::a4::a5::l).set 5 v=a0::a1::a2::a3::a4::v::l:=(rfl)
theorem qh7:(a0::a1::a2::a3::a4::a5::a6::a7::l).set 7 v=a0::a1::a2::a3::a4::a5::a6::v::l:=(rfl)
theorem ov:mVar i s=match s.σ[i]? with|some (some t)=> .ok t s|_=> .no:=rfl
noncomputable def cv(g:D->D->M D)(a:D)(b:Option (Option D))(s:Stt):Res D:=match b with
 |some (some b)=>g a b s
 |_=> .no
theorem zaX:cv g x (some (some y)) s=g x y s:=(rfl)
theorem x_bC:mBin m (mC y) g s=(m s).bnd fun x s1=>g x y s1:=by
 rw[zaO];cases m s<;>rfl
theorem x_bV:mBin m (mVar j) g s=(m s).bnd fun x s1=>cv g x s1.σ[j]? s1:=by
 rw[zaO];cases m s with
 |ok x s1=>rw[z3p,z3p];unfold mVar cv;dsimp only[Stt.psh];cases s1.σ[j]? with
  |none=>rfl
  |some o=>cases o<;>rfl
 |ex d s1=>rfl
 |no=>rfl
noncomputable def qc1(h:List D->M D)(a:Option (Option D))(s:Stt):Res D:=match a with
 |some (some a)=>h [a] s
 |_=> .no
theorem z8Y:qc1 h (some (some x)) s=h [x] s:=(rfl)
theorem x_c1:mCB [mVar i] h ⟨σ,tm,n⟩=qc1 h σ[i]? ⟨σ,tm,n⟩:=by
 rw[x_cb];unfold mVar qc1 z0c bd;dsimp only
 cases σ[i]? with
 |none=>rfl
 |some o=>cases o<;>rfl
theorem z9t:z0c [m] s=(m s).bnd fun x s1=> .ok [x] s1:=by
 rw[z3P];cases m s<;>rfl
noncomputable def qa1(a:Option (Option D))(s:Stt):Res (List D):=match a with
 |some (some a)=> .ok [a] s
 |_=> .no
theorem x_a1:z0c [mVar i] ⟨σ,tm,n⟩=qa1 σ[i]? ⟨σ,tm,n⟩:=by
 rw[z9t];unfold mVar qa1;dsimp only
 cases σ[i]? with
 |none=>rfl
 |some o=>cases o<;>rfl
noncomputable def qa2(a b:Option (Option D))(s:Stt):Res (List D):=match a,b with
 |some (some a),some (some b)=> .ok [a,b] s
 |_,_=> .no
theorem z8Z:qa2 (some (some x)) (some (some y)) s= .ok [x,y] s:=(rfl)
theorem x_a2:z0c [mVar i,mVar j] ⟨σ,tm,n⟩=qa2 σ[i]? σ[j]? ⟨σ,tm,n⟩:=by
 rw[z3P];unfold mVar qa2;dsimp only
 cases σ[i]? with
 |none=>rfl
 |some o=>cases o with
  |none=>rfl
  |some a=>rw[z3p];show Res.bnd _ (z0c [mVar j] ⟨σ,_,_⟩)=_;rw[x_a1];unfold qa1;cases σ[j]? with
   |none=>rfl
   |some o=>cases o<;>rfl
theorem zek:z0c [mVar i,mC y] ⟨σ,tm,n⟩=qa2 σ[i]? (some (some y)) ⟨σ,tm,n⟩:=by
 rw[z3P];unfold mVar qa2;dsimp only
 cases σ[i]? with
 |none=>rfl
 |some o=>cases o<;>rfl
theorem zel:sAsg (.nm i) m s=(m s).lf fun d s1=> .nx ⟨s1.σ.set i (some d),s1.tm,s1.n⟩:=by
 rw[zcE];cases m s<;>rfl
end
theorem z0h{t:D}{l n' n:Nat}{b b' r:List D}{σ tm:List (Option D)}{σ1 tm1:D->List (Option D)}(hb:labsL b=[])(hb':labsL b'=[])(hr:labsL r=[])(f1: ∀q,rpO (pl l q) σ=σ1 q)(f2: ∀q,rpO (pl l q) tm=tm1 q)(e1:σ1 (.lst l b)=σ:=by rfl)(e2:tm1 (.lst l b)=tm:=by rfl):
 z3y (.ok t (.lst l b'::r) n') (.lst l b::r) ⟨σ,tm,n⟩= .ok t ⟨σ1 (.lst l b'),tm1 (.lst l b'),n'⟩:=by
 rw[z0g hb hb' hr ((f1 _).trans e1) ((f2 _).trans e2),f1,f2]
end Mi
set_option maxHeartbeats 1000000
namespace Mi
open PySem L2
theorem z90{K:ItK}{g:Tg}{b:MS}{f i:Nat}{s s':Stt}{d:D}{σ':List (Option D)}(h1:K.at' i s.tm=some (some d))(h2:asg g d s.σ=some σ')(h3:b {s with σ:=σ'}= .nx s'):forGo K g b (f+1) i s=forGo K g b f (i+1) s':=by
 conv=>lhs;unfold forGo
 simp only[h1,h2,h3]
theorem zaY{K:ItK}{g:Tg}{b:MS}{f i:Nat}{s:Stt}(h1:K.at' i s.tm=some none):forGo K g b f i s= .nx (s.popn K.k):=by
 unfold forGo
 simp only[h1]
theorem z91{K:ItK}{me:M D}{Q:Nat->D->Prop}(mono: ∀a b,a<=b->∀y,Q a y->Q b y){n0:Nat}{items:List D}{its fr σ0 tm0:List (Option D)}{ol:Nat}(hk:its.length=K.k)(hol:σ0.length=ol)(hz:items.length<sizeLine)(hat: ∀i rest,K.at' i (its++rest)=some items[i]?)
 (hme: ∀d∈items,∀tm n,n0<=n->∃y n',n<=n'/\Q n' y/\me ⟨some d::fr,tm,n⟩= .ok y ⟨some d::fr,tm,n'⟩):
 ∀(f i:Nat) (acc:List D) (o:Option D) (n:Nat),i+f=items.length->acc.length=i->n0<=n->(∀y∈acc,Q n y)->∃ys n',ys.length=items.length/\(∀y∈ys,Q n' y)/\n<=n'/\z0X K (.nm 0) (rt true) me ol f i acc.length ⟨o::fr,(acc.reverse.map some)++(σ0++(its++tm0)),n⟩= .ok (.lst n' ys) ⟨σ0,tm0,n'+1⟩:=by
 intro f
 induction f with
 |zero=>
  intro i acc o n hi ha hn hq
  have hi:i=items.length:=by lia
  have l1:(acc.reverse.map some).length=acc.length:=by simp
  have e1:((acc.reverse.map some)++(σ0++(its++tm0))).drop (acc.length+ol)=its++tm0:=by
   rw[<-List.append_assoc];exact drop_len _ _ _ (by simp[hol])
  refine⟨acc,n,by lia,hq,Nat.le_refl _, ?_⟩
  unfold z0X
  simp only[e1,hat,List.getElem?_eq_none (show items.length<=i by lia)]
  rw[take_len _ _ _ l1]
  have e2:(acc.reverse.map some).reverse=acc.map some:=by simp
  rw[e2,z0W]
  simp only[Res.ok.injEq,Stt.mk.injEq,and_true,true_and]
  constructor
  ·rw[drop_len _ _ _ l1,take_len _ _ _ hol]
  ·have:((acc.reverse.map some)++(σ0++(its++tm0))).drop (acc.length+ol+K.k)=(((acc.reverse.map some)++(σ0++(its++tm0))).drop (acc.length+ol)).drop K.k:=by rw[List.drop_drop]
   rw[this,e1]
   exact drop_len _ _ _ hk
 |succ f ih=>
  intro i acc o n hi ha hn hq
  have hlt:i<items.length:=by lia
  have e1:((acc.reverse.map some)++(σ0++(its++tm0))).drop (acc.length+ol)=its++tm0:=by
   rw[<-List.append_assoc];exact drop_len _ _ _ (by simp[hol])
  obtain⟨y,n1,hn1,q1,h2⟩:=hme items[i] (List.getElem_mem hlt) ((acc.reverse.map some)++(σ0++(its++tm0))) n hn
  obtain⟨ys,n2,g0,g1,g2,h3⟩:=ih (i+1) (acc++[y]) (some items[i]) n1 (by lia) (by simp;lia) (by lia) (fun z hz=>by
   rcases List.mem_append.1 hz with hz|hz
   ·exact mono _ _ hn1 z (hq z hz)
   ·rw[List.mem_singleton.1 hz];exact q1)
  refine⟨ys,n2,g0,g1,by lia, ?_⟩
  unfold z0X
  simp only[e1,hat,List.getElem?_eq_getElem hlt,asg,List.set_cons_zero,rt,if_pos (show acc.length<sizeLine by lia),h2]
  simp only[List.length_append,List.length_cons,List.length_nil,Nat.zero_add,List.reverse_append,List.reverse_cons,List.reverse_nil,List.nil_append,List.map_append,List.map_cons,List.map_nil,List.cons_append,List.append_assoc] at h3
  simp only[Stt.psh]
  exact h3
theorem zaZ{mi:M ItK}{K:ItK}{me:M D}{Q:Nat->D->Prop}(mono: ∀a b,a<=b->∀y,Q a y->Q b y){items:List D}{its:List (Option D)}{ix:List Nat}{s:Stt}{σ tm:List (Option D)}{n:Nat}(hc:mi s= .ok K ⟨σ,its++tm,n⟩)(hk:its.length=K.k)(hz:items.length<sizeLine)(hat: ∀i rest,K.at' i (its++rest)=some items[i]?)(hlen:K.len (its++tm)=items.length)
 (hme: ∀d∈items,∀tm m,n<=m->∃y n',m<=n'/\Q n' y/\me ⟨some d::(ix.map fun i=>(σ[i]?).getD none),tm,m⟩= .ok y ⟨some d::(ix.map fun i=>(σ[i]?).getD none),tm,n'⟩):
 ∃ys n',ys.length=items.length/\(∀y∈ys,Q n' y)/\n<=n'/\z0I mi (.nm 0) (rt true) me 1 ix s= .ok (.lst n' ys) ⟨σ,tm,n'+1⟩:=by
 obtain⟨ys,n',g0,g1,g2,h3⟩:=z91 (K:=K) (me:=me) (Q:=Q) mono (n0:=n) (σ0:=σ) (tm0:=tm) hk rfl hz hat hme items.length 0 [] none n (by simp) (by simp) (Nat.le_refl _) (fun _ h=>nomatch h)
 refine⟨ys,n',g0,g1,g2, ?_⟩
 unfold z0I
 simp only[bd,hc,hlen]
 simp only[List.map_nil,List.reverse_nil,List.nil_append,List.length_nil,Nat.zero_add] at h3
 exact h3
end Mi
namespace My
open PySem L2 Mi
noncomputable def isInt:D->Bool
 | .int _=>true
 |_=>false
theorem at0{a:D}{l:List D}:atI (a::l) 0=some a:=z3q (by decide) rfl
theorem at1{a b:D}{l:List D}:atI (a::b::l) 1=some b:=z3q (by decide) rfl
theorem at2{a b c:D}{l:List D}:atI (a::b::c::l) 2=some c:=z3q (by decide) rfl
theorem at3{a b c d:D}{l:List D}:atI (a::b::c::d::l) 3=some d:=z3q (by decide) rfl
theorem zem{i j:Int}{s:Stt}:eqD (.int i) (.int j) s= .ok (.bool (i==j)) s:=by
 rw[y_eq (by simp[eqC,Mi.plain,er,PyData.canLay0,PyData.depth])];simp only[er,PyData.eqv]
theorem c0:((0:Nat):Int)=0:=rfl
theorem c1:((1:Nat):Int)=1:=rfl
theorem c2:((2:Nat):Int)=2:=rfl
theorem c3:((3:Nat):Int)=3:=rfl
theorem c4:((4:Nat):Int)=4:=rfl
noncomputable def Gd(t:D):Prop:=plain t=true/\(er t).canLay0=true
noncomputable def GdL(ds:List D):Prop:=plainL ds=true/\PyData.canLayAll0 (erL ds)=true
theorem Gd.tup{ds:List D}:Gd (.tup ds)↔GdL ds:=by simp only[Gd,GdL,Mi.plain,er,PyData.canLay0]
theorem Gd.lst{l:Nat}{ds:List D}:Gd (.lst l ds)↔GdL ds:=by simp only[Gd,GdL,Mi.plain,er,PyData.canLay0]
theorem GdL.cons{d:D}{ds:List D}:GdL (d::ds)↔Gd d/\GdL ds:=by
 simp only[Gd,GdL,plainL,erL,PyData.canLayAll0,Bool.and_eq_true]
 constructor
 ·rintro ⟨⟨a,b⟩,c,d⟩;exact⟨⟨a,c⟩,b,d⟩
 ·rintro ⟨⟨a,c⟩,b,d⟩;exact⟨⟨a,b⟩,c,d⟩
theorem zl:sizeLine=16777216:=rfl
section
variable{a b c d:D}{s:Stt}
theorem t0:tupD [] s= .ok (.tup []) s:=z7I (by decide)
theorem t1:tupD [a] s= .ok (.tup [a]) s:=z7I (by rw[zl];simp)
theorem t2:tupD [a,b] s= .ok (.tup [a,b]) s:=z7I (by rw[zl];simp)
theorem t3:tupD [a,b,c] s= .ok (.tup [a,b,c]) s:=z7I (by rw[zl];simp)
theorem t4:tupD [a,b,c,d] s= .ok (.tup [a,b,c,d]) s:=z7I (by rw[zl];simp)
theorem k0{σ tm:List (Option D)}{n:Nat}:lstM [] ⟨σ,tm,n⟩= .ok (.lst n []) ⟨σ,tm,n+1⟩:=z57 (by rw[zl];simp)
theorem k1{σ tm:List (Option D)}{n:Nat}:lstM [a] ⟨σ,tm,n⟩= .ok (.lst n [a]) ⟨σ,tm,n+1⟩:=z57 (by rw[zl];simp)
theorem k2{σ tm:List (Option D)}{n:Nat}:lstM [a,b] ⟨σ,tm,n⟩= .ok (.lst n [a,b]) ⟨σ,tm,n+1⟩:=z57 (by rw[zl];simp)
theorem k3{σ tm:List (Option D)}{n:Nat}:lstM [a,b,c] ⟨σ,tm,n⟩= .ok (.lst n [a,b,c]) ⟨σ,tm,n+1⟩:=z57 (by rw[zl];simp)
theorem k4{σ tm:List (Option D)}{n:Nat}:lstM [a,b,c,d] ⟨σ,tm,n⟩= .ok (.lst n [a,b,c,d]) ⟨σ,tm,n+1⟩:=z57 (by rw[zl];simp)
end
theorem BA{a b:Prop}(h:a)(k:b):a/\b:=⟨h,k⟩
noncomputable def B_0:=BA (BA (BA (BA (BA (BA @zdT (BA @x_bd @z3p)) (BA (BA @zaN @zdQ) (BA @zdR @x_rt))) (BA (BA (BA @zcs @zdU) (BA @zdV @z8V)) (BA (BA @zdW @x_C) (BA @zaO @zdX)))) (BA (BA (BA @zct (BA @zcu @x_tB)) (BA (BA @zdY @x_or) (BA @zdZ @x_it))) (BA (BA (BA @x_if @zaP) (BA @z3P @x_cb)) (BA (BA @zcv @z7F) (BA @ze0 @zaQ))))) (BA (BA (BA (BA @ze1 (BA @z7G @zaR)) (BA (BA @zaS @zcw) (BA @x_sl @zcx))) (BA (BA (BA @ze2 @y_lt) (BA @y_le @y_gt)) (BA (BA @ze3 @ze5) (BA @ze6 @ze7)))) (BA (BA (BA @ze8 (BA @ze9 @zcy)) (BA (BA @zcz @zcA) (BA @zea @zeb))) (BA (BA (BA @zec @zcB) (BA @zcC @zaU)) (BA (BA @zaV @zed) (BA @zee @zcD)))))) (BA (BA (BA (BA (BA @zaW (BA @zef @x_sT)) (BA (BA @x_sF @z7J) (BA @zcE @zeg))) (BA (BA (BA @zcG @zeh) (BA @z6b @zdS)) (BA (BA @z7E @List.map_cons.{0,0}) (BA @List.map_nil.{0,0} @List.nil_append.{0})))) (BA (BA (BA @List.cons_append.{0} (BA @List.append_nil.{0} @List.getElem?_cons_zero.{0})) (BA (BA @List.getElem?_cons_succ.{0} @List.getElem?_nil.{0}) (BA @List.set_cons_zero.{0} @List.set_cons_succ.{0}))) (BA (BA (BA @List.length_cons.{0} @List.length_nil.{0}) (BA @Option.map_some.{0,0} @Option.map_none.{0,0})) (BA (BA @Bool.not_true @Bool.not_false) (BA @beq_self_eq_true.{0} @Nat.zero_add))))) (BA (BA (BA (BA @Nat.sub_self (BA @t0 @t3)) (BA (BA @t4 @k0) (BA @k1 @k2))) (BA (BA (BA @k3 @k4) (BA @Bool.or_false @Bool.false_or)) (BA (BA @Bool.true_or @Bool.or_true) (BA @Bool.and_true @Bool.true_and)))) (BA (BA (BA @Bool.and_false (BA @Bool.false_and @at0)) (BA (BA @at1 @at2) (BA @at3 @zem))) (BA (BA (BA @zcH @z2k) (BA @z4z @z7L)) (BA (BA @z7M @z5I) (BA @z58 @z1q))))))
noncomputable def B_1:=BA @z8W @z8X
local macro_rules | `(tactic| walk_at "") => `(tactic| (simp (config := { dsimp := false }) only [B_0, B_1, isiD, z0a, asg, asgL, List.replicate, Nat.reduceAdd, Nat.reduceSub, String.reduceBEq, Int.reduceBEq]))
noncomputable def Bg(c x:Int):Prop:=0<=c/\0<=x/\x<2147483647
theorem z0j(l:Nat)(c x top:Int)(n:Nat)(h:Bg c x)(ht:0<top)(ht':top<1000000): ∃r c' x',0<=r/\r<top/\Bg c' x'/\z01 [.lst l [.int c, .int x], .int top] n= .ok (.int r) [.lst l [.int c', .int x'], .int top] n:=by
 unfold z01 z3M
 obtain⟨h0,h1,h2⟩:=h
 by_cases hc:0<c
 ·refine⟨c %top,c/top,x,Int.emod_nonneg _ (by lia),Int.emod_lt_of_pos _ ht,⟨Int.ediv_nonneg h0 (by lia),h1,h2⟩, ?_⟩
  walk_at ""
  simp only[hc,decide_true]
  walk_at ""
  rw[z3Q ht]
  walk_at ""
  rw[z9q ⟨ht,by lia⟩]
  walk_at ""
  rw[zcF (j:=0) rfl (by simp[labs])]
  walk_at ""
 ·have hx0:=Int.emod_nonneg (x*48271+7919) (show(2147483647:Int)≠0 by decide)
  have hx1:=Int.emod_lt_of_pos (x*48271+7919) (show(0:Int)<2147483647 by decide)
  generalize hy:(x*48271+7919) %2147483647=y at hx0 hx1
  refine⟨(y^(3:Int).toNat %2147483587/7*69621 %1073741789) %top,c,y,Int.emod_nonneg _ (by lia),Int.emod_lt_of_pos _ ht,⟨h0,hx0,hx1⟩, ?_⟩
  walk_at ""
  simp only[hc,decide_false]
  walk_at ""
  rw[z7H (.inl ⟨by lia,by lia⟩)]
  walk_at ""
  rw[z3Q (by decide),hy]
  walk_at ""
  rw[zcF (j:=1) rfl (by simp[labs])]
  walk_at ""
  rw[zaT ⟨by decide,by decide,by lia⟩]
  walk_at ""
  rw[z3Q (by decide)]
  walk_at ""
  rw[z9q ⟨by decide,by decide⟩]
  walk_at ""
  rw[z7H (.inr ⟨by decide,by decide⟩)]
  walk_at ""
  rw[z3Q (by decide)]
  walk_at ""
  rw[z3Q ht]
  walk_at ""
noncomputable def B_2:=BA (BA @zei @z9r) (BA @zcI @Int.zero_add)
local macro_rules | `(tactic| walk_at "") => `(tactic| (simp (config := { dsimp := false }) only [B_0, B_1, B_2, isiD, z0a, asg, asgL, List.replicate, Nat.reduceAdd, Nat.reduceSub, String.reduceBEq, Int.reduceBEq]))
theorem z9u{ns:List Int}{a:Nat}(h:a<ns.length):atI (ns.map D.int) (a:Int)=some (.int ns[a]):=z3q (by lia) (by simp[h])
theorem zcK(ns:List Int)(a n:Nat)(ha:a<1000)(hl:ns.length<1000): ∃c x,Bg c x/\z2X [.ro (ns.map .int), .int a] n= .ok (.lst n [.int c, .int x]) [.ro (ns.map .int), .int a] (n+1):=by
 unfold z2X z54
 walk_at ""
 have key: ∃c:Int,0<=c/\iteS (decide ((a:Int)<((ns.map D.int).length:Int))) (sAsg (Tg.nm 2) (mCB [mBin (mVar 0) (mVar 1) ixD] absD)) sNx ⟨[some (.ro (ns.map .int)),some (.int a),some (.int 0),none,none],[some (.ro (ns.map .int)),some (.int a)],n⟩= .nx ⟨[some (.ro (ns.map .int)),some (.int a),some (.int c),none,none],[some (.ro (ns.map .int)),some (.int a)],n⟩:=by
  by_cases h:a<ns.length
  ·refine⟨if ns[a]<0 then -ns[a] else ns[a], ?_, ?_⟩
   rotate_left
   ·rw[show decide ((a:Int)<((ns.map D.int).length:Int))=true by simp[h]]
    walk_at ""
    rw[z9u h]
    walk_at ""
   ·split<;>lia
  ·refine⟨0,by decide, ?_⟩
   rw[show decide ((a:Int)<((ns.map D.int).length:Int))=false by simp;lia]
   walk_at ""
 obtain⟨c,hc,e1⟩:=key
 rw[e1]
 walk_at ""
 rw[z3Q (by decide)]
 walk_at ""
 rw[z7H (.inl ⟨by decide,by decide⟩)]
 walk_at ""
 have q0:=Int.emod_nonneg c (show(2147483629:Int)≠0 by decide)
 have q1:=Int.emod_lt_of_pos c (show(0:Int)<2147483629 by decide)
 rw[zaT ⟨by decide,by decide,by lia⟩]
 walk_at ""
 rw[z3Q (by decide)]
 walk_at ""
 have w0:((ns.map D.int).length:Int)=ns.length:=by simp
 rw[w0]
 generalize hk:(if(60:Int)<(ns.length:Int) then(60:Int) else(ns.length:Int))=k
 have hk0:0<=k/\k<=60/\k<=ns.length:=by split at hk<;>lia
 rw[z2Z ⟨by lia,by lia⟩]
 walk_at ""
 have p0:=Int.emod_nonneg ((c %2147483629+104729*(a:Int)+17)^(5:Int).toNat) (show(2147483647:Int)≠0 by decide)
 have p1:=Int.emod_lt_of_pos ((c %2147483629+104729*(a:Int)+17)^(5:Int).toNat) (show(0:Int)<2147483647 by decide)
 generalize (c %2147483629+104729*(a:Int)+17)^(5:Int).toNat %2147483647=x0 at p0 p1
 obtain⟨s',e2,x,o,hx0,hx1,rfl⟩:=z2l (P:=fun i s=> ∃(x:Int) (o:Option D),0<=x/\x<2147483647/\s=⟨[some (.ro (ns.map .int)),some (.int a),some (.int c),some (.int x),o],[some (.ro (ns.map .int)),some (.int a)],n⟩) (lo:=0) (N:=k.toNat) (g:= .nm 4) (b:=sAsg (.nm 3) (mBin (mBin (mBin (mBin (mVar 3) (mC (.int 48271)) mulD) (mBin (mBin (mBin (mVar 0) (mVar 4) ixD) (mC (.int 2147483587)) modD) (mBin (mVar 4) (mC (.int 3)) addD) mulD) addD) (mVar 4) addD) (mC (.int 2147483629)) modD)) (by
  rintro i hi s ⟨x,o,h0,h1,rfl⟩
  have hi':i<ns.length:=by lia
  refine⟨[some (.ro (ns.map .int)),some (.int a),some (.int c),some (.int x),some (.int i)],by simp only[Int.zero_add];rfl, ?_⟩
  refine⟨⟨[some (.ro (ns.map .int)),some (.int a),some (.int c),some (.int ((x*48271+ns[i] %2147483587*(i+3)+i) %2147483629)),some (.int i)],[some (.ro (ns.map .int)),some (.int a)],n⟩, ?_, ?_⟩
  ·walk_at ""
   rw[z7H (.inl ⟨by lia,by lia⟩)]
   walk_at ""
   rw[z9u hi']
   walk_at ""
   rw[z3Q (by decide)]
   walk_at ""
   rw[z7H (.inr ⟨by lia,by lia⟩)]
   walk_at ""
   rw[z3Q (by decide)]
   walk_at ""
  ·have r0:=Int.emod_nonneg (x*48271+ns[i] %2147483587*(i+3)+i) (show(2147483629:Int)≠0 by decide)
   have r1:=Int.emod_lt_of_pos (x*48271+ns[i] %2147483587*(i+3)+i) (show(0:Int)<2147483629 by decide)
   exact⟨_,_,r0,by lia,rfl⟩) k.toNat 0 ⟨[some (.ro (ns.map .int)),some (.int a),some (.int c),some (.int x0),none],[some (.ro (ns.map .int)),some (.int a)],n⟩ (by lia) ⟨x0,none,p0,p1,rfl⟩
 rw[e2]
 walk_at ""
 rw[zaT ⟨by decide,by decide,by decide⟩]
 walk_at ""
 by_cases h:c<10^(18:Int).toNat
 ·refine⟨0,x,⟨by decide,hx0,hx1⟩, ?_⟩
  simp only[h,decide_true]
  walk_at ""
 ·refine⟨c,x,⟨hc,hx0,hx1⟩, ?_⟩
  simp only[h,decide_false]
  walk_at ""
theorem z0E{l k:Nat}{d:D}{ds:List D}(h:k≠l):rp (pl l d) (.lst k ds)= .lst k (rpL (pl l d) ds):=by simp only[rp,pl,if_neg h]
mutual
noncomputable def Rs(n:Nat):D->Bool
 | .non=>true| .bool _=>true| .int _=>true| .str x=>PyData.strOk x
 | .tup ds=>decide (ds.length<=2000)&&RsL n ds
 | .lst l ds=>decide (n<=l)&&(decide (ds.length<=2000)&&RsL n ds)
 | .ro _=>false| .dct _ _ _=>false| .obj _ _ _ _=>false| .exc _=>false| .fn _=>false| .fdc _ _=>false
noncomputable def RsL(n:Nat):List D->Bool
 |[]=>true
 |d::ds=>Rs n d&&RsL n ds
end
noncomputable def Up(m:Nat)(t:D):Prop:= ∀k∈labs t,k<m
theorem ok1:PyData.strOk ("1" :Str)=true:=by decide+kernel
mutual
noncomputable def Tr:D->Bool
 | .non=>true| .bool _=>true| .int _=>true| .str x=>PyData.strOk x
 | .tup ds=>decide (ds.length<=900)&&TrL ds
 | .lst _ _=>false| .ro _=>false| .dct _ _ _=>false| .obj _ _ _ _=>false| .exc _=>false| .fn _=>false| .fdc _ _=>false
noncomputable def TrL:List D->Bool
 |[]=>true
 |d::ds=>Tr d&&TrL ds
end
theorem z33: ∀{ds:List D},TrL ds=true↔∀d∈ds,Tr d=true
 |[]=>by simp[TrL]
 |d::ds=>by simp only[TrL,Bool.and_eq_true,z33 (ds:=ds),List.forall_mem_cons]
theorem z3S{n:Nat}: ∀{ds:List D},RsL n ds=true↔∀d∈ds,Rs n d=true
 |[]=>by simp[RsL]
 |d::ds=>by simp only[RsL,Bool.and_eq_true,z3S (ds:=ds),List.forall_mem_cons]
theorem z59{k:Nat}: ∀{ds:List D},PyData.depthAll (erL ds)<=k↔∀d∈ds,(er d).depth<=k
 |[]=>by simp[erL,PyData.depthAll]
 |d::ds=>by simp only[erL,PyData.depthAll,List.forall_mem_cons,<-z59 (ds:=ds)];lia
mutual
theorem z34: ∀t:D,Tr t=true->labs t=[]
 | .non,_=>rfl
 | .bool _,_=>rfl
 | .int _,_=>rfl
 | .str _,_=>rfl
 | .tup ds,h=>by simp only[Tr,Bool.and_eq_true] at h;simp only[labs];exact TrL_labs ds h.2
 | .lst _ _,h=>by simp[Tr] at h
 | .ro _,h=>by simp[Tr] at h
 | .dct _ _ _,h=>by simp[Tr] at h
 | .obj _ _ _ _,h=>by simp[Tr] at h
 | .exc _,h=>by simp[Tr] at h
 | .fn _,h=>by simp[Tr] at h
 | .fdc _ _,h=>by simp[Tr] at h
theorem TrL_labs: ∀t:List D,TrL t=true->labsL t=[]
 |[],_=>rfl
 |d::ds,h=>by simp only[TrL,Bool.and_eq_true] at h;simp only[labsL,z34 d h.1,TrL_labs ds h.2,List.append_nil]
end
mutual
theorem z5a{n:Nat}: ∀t:D,Tr t=true->Rs n t=true
 | .non,_=>rfl
 | .bool _,_=>rfl
 | .int _,_=>rfl
 | .str _,h=>by simpa[Tr,Rs] using h
 | .tup ds,h=>by
  simp only[Tr,Bool.and_eq_true,decide_eq_true_eq] at h;simp only[Rs,Bool.and_eq_true,decide_eq_true_eq];exact⟨by lia,TrL_rs ds h.2⟩
 | .lst _ _,h=>by simp[Tr] at h
 | .ro _,h=>by simp[Tr] at h
 | .dct _ _ _,h=>by simp[Tr] at h
 | .obj _ _ _ _,h=>by simp[Tr] at h
 | .exc _,h=>by simp[Tr] at h
 | .fn _,h=>by simp[Tr] at h
 | .fdc _ _,h=>by simp[Tr] at h
theorem TrL_rs{n:Nat}: ∀t:List D,TrL t=true->RsL n t=true
 |[],_=>rfl
 |d::ds,h=>by simp only[TrL,Bool.and_eq_true] at h;simp only[RsL,z5a d h.1,TrL_rs ds h.2,Bool.and_true]
end
mutual
theorem z7O{n:Nat}: ∀t:D,Rs n t=true->Gd t
 | .non,_=>⟨rfl,rfl⟩
 | .bool _,_=>⟨rfl,rfl⟩
 | .int _,_=>⟨rfl,rfl⟩
 | .str _,h=>⟨rfl,by simpa[Rs,er,PyData.canLay0] using h⟩
 | .tup ds,h=>by simp only[Rs,Bool.and_eq_true] at h;exact Gd.tup.mpr (RsL_gd ds h.2)
 | .lst _ ds,h=>by simp only[Rs,Bool.and_eq_true] at h;exact Gd.lst.mpr (RsL_gd ds h.2.2)
 | .ro _,h=>by simp[Rs] at h
 | .dct _ _ _,h=>by simp[Rs] at h
 | .obj _ _ _ _,h=>by simp[Rs] at h
 | .exc _,h=>by simp[Rs] at h
 | .fn _,h=>by simp[Rs] at h
 | .fdc _ _,h=>by simp[Rs] at h
theorem RsL_gd{n:Nat}: ∀t:List D,RsL n t=true->GdL t
 |[],_=>⟨rfl,rfl⟩
 |d::ds,h=>by simp only[RsL,Bool.and_eq_true] at h;exact GdL.cons.mpr ⟨z7O d h.1,RsL_gd ds h.2⟩
end
mutual
theorem zcL{n k:Nat}: ∀t:D,Rs n t=true->k∈labs t->n<=k
 | .non,_,h=>by simp[labs] at h
 | .bool _,_,h=>by simp[labs] at h
 | .int _,_,h=>by simp[labs] at h
 | .str _,_,h=>by simp[labs] at h
 | .tup ds,h,m=>by simp only[Rs,Bool.and_eq_true] at h;simp only[labs] at m;exact RsL_low ds h.2 m
 | .lst _ ds,h,m=>by
  simp only[Rs,Bool.and_eq_true,decide_eq_true_eq] at h
  simp only[labs,List.mem_cons] at m
  rcases m with rfl|m
  ·exact h.1
  ·exact RsL_low ds h.2.2 m
 | .ro _,h,_=>by simp[Rs] at h
 | .dct _ _ _,h,_=>by simp[Rs] at h
 | .obj _ _ _ _,h,_=>by simp[Rs] at h
 | .exc _,h,_=>by simp[Rs] at h
 | .fn _,h,_=>by simp[Rs] at h
 | .fdc _ _,h,_=>by simp[Rs] at h
theorem RsL_low{n k:Nat}: ∀t:List D,RsL n t=true->k∈labsL t->n<=k
 |[],_,h=>by simp[labsL] at h
 |d::ds,h,m=>by
  simp only[RsL,Bool.and_eq_true] at h
  simp only[labsL,List.mem_append] at m
  rcases m with m|m
  ·exact zcL d h.1 m
  ·exact RsL_low ds h.2 m
end
theorem z9v{n k l:Nat}{es:List D}(hn:n<=l)(hl:es.length<=2000)(h: ∀e∈es,Rs n e=true/\(er e).depth<=k):Rs n (.lst l es)=true/\(er (.lst l es)).depth<=k+1:=by
 refine⟨?_, ?_⟩
 ·simp only[Rs,Bool.and_eq_true,decide_eq_true_eq];exact⟨hn,hl,z3S.mpr fun d m=>(h d m).1⟩
 ·simp only[er,PyData.depth];exact Nat.succ_le_succ (z59.mpr fun d m=>(h d m).2)
theorem labsL_mem{k:Nat}: ∀{es:List D},k∈labsL es->∃e∈es,k∈labs e
 |e::es,h=>by
  simp only[labsL,List.mem_append] at h
  rcases h with h|h
  ·exact⟨e,List.mem_cons_self,h⟩
  ·obtain⟨e',h1,h2⟩:=labsL_mem h
   exact⟨e',List.mem_cons_of_mem _ h1,h2⟩
theorem cut_mem{ds:List D}{lo hi:Option Int}{d:D}(h:d∈cutA ds lo hi):d∈ds:=List.mem_of_mem_drop (List.mem_of_mem_take h)
theorem z7P{y d:D}{s:Stt}(gy:Gd y)(gd:Gd d)(e:er y=er d)(hd:(er d).depth<=60):neD y d s= .ok (.bool false) s:=by
 rw[y_ne (by simp only[eqC,gy.1,gd.1,gy.2,gd.2,e,Bool.true_and,decide_eq_true_eq];lia),e,PySem.SeqAt.eqv_refl _ gd.2];rfl
theorem z0Z{f:Nat->Option D}{o:Option D}{r:List (Option D)}:rpO f (o::r)=o.map (rp f)::rpO f r:=by cases o<;>rfl
noncomputable def UpO(n:Nat)(o:Option D):Prop:= ∀d,o=some d->Up n d
theorem UpO.fixk{n k:Nat}{o:Option D}(h:UpO n o)(hk:n<=k)(d:D):Option.map (rp (pl k d)) o=o:=by
 cases o with
 |none=>rfl
 |some t=>simp only[Option.map_some];rw[z1I fun m=>by have:=h t rfl k m;lia]
theorem UpO.fix{n:Nat}{o:Option D}(h:UpO n o)(d:D):Option.map (rp (pl n d)) o=o:=by
 cases o with
 |none=>rfl
 |some t=>simp only[Option.map_some];rw[z1I fun m=>Nat.lt_irrefl _ (h t rfl n m)]
theorem zcM{l n:Nat}{a:List D}{k:Int}{σ tm:List (Option D)}(h: -(2^63)<=k/\k<2^63/\a.length*k.toNat<=sizeLine):mulD (.lst l a) (.int k) ⟨σ,tm,n⟩= .ok (.lst n (List.flatten (List.replicate k.toNat a))) ⟨σ,tm,n+1⟩:=by simp only[mulD,if_pos h];rfl
theorem k5{a b c d e:D}{σ tm:List (Option D)}{n:Nat}:lstM [a,b,c,d,e] ⟨σ,tm,n⟩= .ok (.lst n [a,b,c,d,e]) ⟨σ,tm,n+1⟩:=z57 (by rw[zl];simp)
theorem k6{a b c d e f:D}{σ tm:List (Option D)}{n:Nat}:lstM [a,b,c,d,e,f] ⟨σ,tm,n⟩= .ok (.lst n [a,b,c,d,e,f]) ⟨σ,tm,n+1⟩:=z57 (by rw[zl];simp)
theorem z3r{k:Nat}{es:List D}(hl:es.length<=900)(h: ∀e∈es,Tr e=true/\(er e).depth<=k):Tr (.tup es)=true/\(er (.tup es)).depth<=k+1:=by
 refine⟨?_, ?_⟩
 ·simp only[Tr,Bool.and_eq_true,decide_eq_true_eq];exact⟨hl,z33.mpr fun d m=>(h d m).1⟩
 ·simp only[er,PyData.depth];exact Nat.succ_le_succ (z59.mpr fun d m=>(h d m).2)
theorem z35{k:Nat}{i:Int}:Tr (.int i)=true/\(er (.int i)).depth<=k:=⟨rfl,by simp[er,PyData.depth]⟩
theorem zb0{k:Nat}{i:Bool}:Tr (.bool i)=true/\(er (.bool i)).depth<=k:=⟨rfl,by simp[er,PyData.depth]⟩
noncomputable def B_3:=BA (BA (BA (BA @qg1 @qg2) (BA @qg3 (BA @qg4 @qg5))) (BA (BA @qg6 (BA @qg7 @qg8)) (BA @qh1 (BA @qh2 @qh3)))) (BA (BA (BA @qh4 @qh5) (BA @qh7 (BA @x_bC @x_bV))) (BA (BA @x_c1 (BA @x_a1 @x_a2)) (BA @zek (BA @z9t @zel))))
noncomputable def B_4:=BA (BA @zaX @z8Y) (BA @z8Z @z0Z)
local macro_rules | `(tactic| walk_at "") => `(tactic| (simp (config := { dsimp := false }) only [B_0, B_2, ↓B_3, B_4, isiD, z0a, asg, asgL, List.replicate, Nat.reduceAdd, Nat.reduceSub, String.reduceBEq, Int.reduceBEq]))
noncomputable def iL(bs:List Int):List D:=bs.map D.int
theorem z3T: ∀{ds:List D},(∀d∈ds,∃i:Int,d= .int i)->∃bs,ds=iL bs
 |[],_=>⟨[],rfl⟩
 |d::ds,h=>by
  obtain⟨i,rfl⟩:=h d (by simp)
  obtain⟨bs,rfl⟩:=z3T (ds:=ds) fun d hd=>h d (by simp[hd])
  exact⟨i::bs,rfl⟩
structure Pz where
 e:Int
 ss:List Int
 k:Int
 c:Int
noncomputable def Pz.d(p:Pz):D:= .tup [.int p.e, .tup (iL p.ss), .int p.k, .int p.c]
noncomputable def psD(ps:List Pz):List D:=ps.map Pz.d
structure Cm where
 S:List Int
 C:List Pz
 b:Bool
noncomputable def Cm.d(c:Cm):D:= .tup [.tup (iL c.S), .tup (psD c.C), .bool c.b]
noncomputable def csD(cs:List Cm):List D:=cs.map Cm.d
structure Cm.ok(c:Cm):Prop where
 s24:c.S.length<=24
 c1:1<=c.C.length
 c24:c.C.length<=24
 ss1: ∀p∈c.C,1<=p.ss.length/\p.ss.length<=8
noncomputable def sgs(C:List Pz):List Int:=(C.map Pz.ss).flatten
noncomputable def z3i:List Pz->Int
 |[]=>0
 |[p]=>p.k
 |_::r=>z3i r
noncomputable def mk(c:Cm):Bool:=c.b&&(decide (2<=c.C.length)&&decide (c.C.length<=4))&&decide (c.S.length<=6)&&decide ((sgs c.C).length<=4)&&decide (maxI (sgs c.C)<=999)&&decide (z3i c.C<=7)
structure Wo where
 s:List Int
 g:List Int
 k:Int
 c:Int
deriving DecidableEq
noncomputable def Wo.d(w:Wo):D:= .tup [.tup (iL w.s), .tup (iL w.g), .int w.k, .int w.c]
noncomputable def wsD(ws:List Wo):List D:=ws.map Wo.d
noncomputable def wd(c:Cm):Wo:=⟨c.S,sgs c.C,z3i c.C,1000⟩
structure Wo.ok(w:Wo):Prop where
 s6:w.s.length<=6
 g4:w.g.length<=4
theorem z7Q{c:Cm}(h:mk c=true):(wd c).ok:=by
 simp only[mk,Bool.and_eq_true,decide_eq_true_eq] at h
 exact⟨h.1.1.1.2,h.1.1.2⟩
noncomputable def z0y:List Wo->List Cm->List Wo
 |acc,[]=>acc
 |acc,c::cs=>z0y (if mk c=true/\wd c∉acc then wd c::acc else acc) cs
theorem z25: ∀(cs:List Cm) (acc:List Wo),(z0y acc cs).length<=acc.length+cs.length
 |[],acc=>by simp[z0y]
 |c::cs,acc=>by
  unfold z0y
  have:=z25 cs (if mk c=true/\wd c∉acc then wd c::acc else acc)
  split at this<;>(rename_i q;simp only[q,if_true,if_false,List.length_cons,not_false_eq_true,and_self] at*;lia)
theorem z2w: ∀(cs:List Cm) (acc:List Wo),(∀w∈acc,w.ok)->∀w∈z0y acc cs,w.ok
 |[],acc,h=>h
 |c::cs,acc,h=>by
  unfold z0y
  refine z2w cs _ fun w hw=> ?_
  split at hw
  ·rename_i q
   rcases List.mem_cons.mp hw with rfl|hw
   ·exact z7Q q.1
   ·exact h w hw
  ·exact h w hw
theorem z4C(b:List Cm): ∀(a:List Cm) (acc:List Wo),z0y acc (a++b)=z0y (z0y acc a) b
 |[],acc=>rfl
 |c::a,acc=>by simp only[List.cons_append,z0y];exact z4C b a _
theorem z4D(s:List Int):erL (iL s)=s.map .int:=by
 induction s with
 |nil=>rfl
 |cons i s ih=>simp only[iL,List.map_cons,erL,er] at ih⊢;rw[ih]
theorem c_lt{a b:Int}(h:a<b):compare a b= .lt:=by simp[compare,compareOfLessAndEq,h]
theorem c_eq{a:Int}:compare a a= .eq:=by simp[compare,compareOfLessAndEq]
theorem c_gt{a b:Int}(h:b<a):compare a b= .gt:=by
 have h1: ¬a<b:=by lia
 have h2: ¬a=b:=by lia
 simp[compare,compareOfLessAndEq,h1,h2]
theorem z1U{α:Type}[Ord α]{x y:α}{xs ys:List α}:compare (x::xs) (y::ys)=(compare x y).then (compare xs ys):=List.compareLex_cons_cons
theorem z36(x y:Int):PyData.eqv (.int x) (.int y)=decide (x=y):=by
 simp only[PyData.eqv];by_cases h:x=y<;>simp[h]
theorem z5b: ∀a b:List Int,So.ltL (a.map .int) (b.map .int)=some ((compare a b).isLT)
 |[],[]=>rfl
 |[],_::_=>rfl
 |_::_,[]=>rfl
 |x::a,y::b=>by
  have ih:=z5b a b
  simp only[List.map_cons,So.ltL,z1U]
  rcases Int.lt_trichotomy x y with h|h|h
  ·rw[c_lt h,if_neg (by rw[z36];simp;lia)];simp[So.ltD,h]
  ·subst h;rw[c_eq,if_pos (by rw[z36];simp),ih];rfl
  ·rw[c_gt h,if_neg (by rw[z36];simp;lia)];simp only[So.ltD,Ordering.then]
   have: ¬x<y:=by lia
   simp[this]
theorem z1J: ∀a b:List Int,PyData.eqv (.tuple (a.map .int)) (.tuple (b.map .int))=decide (a=b):=by
 intro a
 simp only[PyData.eqv]
 induction a with
 |nil=>intro b;cases b<;>rfl
 |cons x a ih=>
  intro b
  cases b with
  |nil=>rfl
  |cons y b=>simp only[List.map_cons,PyData.eqvAll,PyData.eqv,ih b];by_cases h:x=y<;>simp[h]
noncomputable def Wo.ky(w:Wo):List (List Int):=[w.s,w.g,[w.k],[w.c]]
theorem Wo.ky_inj{v w:Wo}(h:v.ky=w.ky):v=w:=by
 cases v;cases w
 simp only[Wo.ky,List.cons.injEq,and_true] at h
 simp only[Wo.mk.injEq]
 exact h
theorem l_ne{α:Type}[Ord α][Std.LawfulEqOrd α]{x y:α}{o:Ordering}(h:x≠y):((compare x y).then o).isLT=(compare x y).isLT:=by
 cases e:compare x y with
 |lt=>rfl
 |gt=>rfl
 |eq=>exact absurd (Std.LawfulEqCmp.eq_of_compare e) h
theorem l_eq{α:Type}[Ord α][Std.ReflOrd α]{x:α}{o:Ordering}:((compare x x).then o)=o:=by
 rw[Std.ReflCmp.compare_self (cmp:=compare)];rfl
theorem zcN(v w:Wo):So.ltD (er v.d) (er w.d)=some ((compare v.ky w.ky).isLT):=by
 rw[show er v.d= .tuple [.tuple (erL (iL v.s)), .tuple (erL (iL v.g)), .int v.k, .int v.c] from rfl,show er w.d= .tuple [.tuple (erL (iL w.s)), .tuple (erL (iL w.g)), .int w.k, .int w.c] from rfl]
 simp only[z4D,So.ltD,So.ltL,Wo.ky]
 rw[z1U]
 by_cases h1:v.s=w.s
 ·rw[if_pos (by rw[z1J];simpa using h1),h1,l_eq,z1U]
  by_cases h2:v.g=w.g
  ·rw[if_pos (by rw[z1J];simpa using h2),h2,l_eq,z1U,z1U,z1U,z1U]
   have e0:compare ([]:List Int) []= .eq:=rfl
   have e1:compare ([]:List (List Int)) []= .eq:=rfl
   rw[e0,e1]
   rcases Int.lt_trichotomy v.k w.k with h|h|h
   ·rw[c_lt h,if_neg (by rw[z36];simp;lia)];simp[h]
   ·rw[h,c_eq,if_pos (by rw[z36];simp)]
    rcases Int.lt_trichotomy v.c w.c with h|h|h
    ·rw[c_lt h,if_neg (by rw[z36];simp;lia)];simp[h]
    ·rw[h,c_eq,if_pos (by rw[z36];simp)];rfl
    ·rw[c_gt h,if_neg (by rw[z36];simp;lia)]
     have: ¬v.c<w.c:=by lia
     simp[this,Ordering.then]
   ·rw[c_gt h,if_neg (by rw[z36];simp;lia)]
    have: ¬v.k<w.k:=by lia
    simp[this,Ordering.then]
  ·rw[if_neg (by rw[z1J];simpa using h2),l_ne h2,z5b]
 ·rw[if_neg (by rw[z1J];simpa using h1),l_ne h1,z5b]
theorem z7R(v w:Wo):ltE v.d w.d=(compare v.ky w.ky).isLT:=by
 unfold ltE
 rw[zcN];rfl
theorem z9w(ws:List Wo):Lin (wsD ws):=by
 have nl: ∀a b:Wo,(compare a.ky b.ky).isLT=false↔(compare b.ky a.ky).isLE=true:=fun a b=>by
  rw[Std.OrientedCmp.eq_swap (cmp:=compare) (a:=b.ky)]
  cases compare a.ky b.ky<;>simp[Ordering.swap]
 refine⟨fun x hx y hy h=> ?_,fun x hx y hy z hz h1 h2=> ?_,fun x hx y hy h1 h2=> ?_⟩
 ·obtain⟨v,_,rfl⟩:=List.mem_map.mp hx
  obtain⟨w,_,rfl⟩:=List.mem_map.mp hy
  rw[z7R] at h⊢
  rw[Std.OrientedCmp.eq_swap (cmp:=compare)]
  revert h
  cases compare v.ky w.ky<;>simp[Ordering.swap]
 ·obtain⟨v,_,rfl⟩:=List.mem_map.mp hx
  obtain⟨w,_,rfl⟩:=List.mem_map.mp hy
  obtain⟨u,_,rfl⟩:=List.mem_map.mp hz
  rw[z7R,nl] at h1 h2⊢
  exact Std.TransCmp.isLE_trans h2 h1
 ·obtain⟨v,_,rfl⟩:=List.mem_map.mp hx
  obtain⟨w,_,rfl⟩:=List.mem_map.mp hy
  rw[z7R] at h1 h2
  have:v=w:=by
   apply Wo.ky_inj
   apply Std.LawfulEqCmp.eq_of_compare (cmp:=compare)
   rw[Std.OrientedCmp.eq_swap (cmp:=compare)] at h2
   revert h1 h2
   cases compare v.ky w.ky<;>simp[Ordering.swap]
  rw[this]
theorem zcO{k:Nat}{s:List Int}(h:s.length<=24):Tr (.tup (iL s))=true/\(er (.tup (iL s))).depth<=k+1:=z3r (by simp[iL];lia) fun e he=>by
 obtain⟨i,_,rfl⟩:=List.mem_map.mp he;exact z35
theorem z3U{P:PyData->Prop}: ∀{ds:List D},(∀d∈ds,P (er d))->∀e∈erL ds,P e
 |[],_,e,h=>nomatch h
 |d::ds,hd,e,h=>by
  rcases List.mem_cons.mp (show e∈er d::erL ds from h) with rfl|h
  ·exact hd d (by simp)
  ·exact z3U (fun d' h'=>hd d' (by simp[h'])) e h
theorem z5c{K:ItK}{g:Tg}{b:MS}{P:Nat->Stt->Prop}{item:Nat->D}{N:Nat}(hat: ∀i s,P i s->K.at' i s.tm=some (if i<N then some (item i) else none))
 (body: ∀i,i<N->∀s,P i s->∃σ',asg g (item i) s.σ=some σ'/\∃s',b {s with σ:=σ'}= .nx s'/\P (i+1) s'):
 ∀(f i:Nat) (s:Stt),i+f=N->P i s->∃s',forGo K g b f i s= .nx (s'.popn K.k)/\P N s'
 |0,i,s,hi,h=>by
  have e:i=N:=by lia
  subst e
  exact⟨s,zaY (by rw[hat i s h,if_neg (Nat.lt_irrefl _)]),h⟩
 |f+1,i,s,hi,h=>by
  obtain⟨σ',h1,s1,h2,h3⟩:=body i (by lia) s h
  obtain⟨s2,h4,h5⟩:=z5c hat body f (i+1) s1 (by lia) h3
  exact⟨s2,by rw[z90 (by rw[hat i s h,if_pos (by lia)]) h1 h2,h4],h5⟩
theorem zcP{o:Option D}{σ tm:List (Option D)}{n:Nat}:Stt.popn ⟨σ,o::tm,n⟩ 1=⟨σ,tm,n⟩:=rfl
theorem rL_i(f:Nat->Option D)(s:List Int):rpL f (iL s)=iL s:=by
 induction s with
 |nil=>rfl
 |cons i s ih=>simp only[iL,List.map_cons,z1q,z7L] at ih⊢;rw[ih]
theorem rL_p(f:Nat->Option D)(C:List Pz):rpL f (psD C)=psD C:=by
 induction C with
 |nil=>rfl
 |cons p C ih=>simp only[psD,List.map_cons,z1q,Pz.d,z5I,z7L,rL_i,z58] at ih⊢;rw[ih]
theorem zen(f:Nat->Option D)(c:Cm):rp f c.d=c.d:=by
 simp only[Cm.d,z5I,z1q,rL_i,rL_p,z7M,z58]
theorem rL_c(f:Nat->Option D)(cs:List Cm):rpL f (csD cs)=csD cs:=by
 induction cs with
 |nil=>rfl
 |cons c cs ih=>simp only[csD,List.map_cons,z1q,zen] at ih⊢;rw[ih]
theorem z7S{L m:Nat}{d:D}{cs:List Cm}(h:L≠m):rp (pl m d) (.lst L (csD cs))= .lst L (csD cs):=by rw[z0E h,rL_c]
noncomputable def Fx(o:Option D):Prop:= ∀f,o.map (rp f)=o
theorem zeo{cs:List Cm}{i:Nat}(h:i<cs.length):(csD cs).getD i .non=cs[i].d:=by simp[csD,h]
theorem z5J{C:List Pz}:(psD C).length=C.length:=by simp[psD]
theorem z1k{C:List Cm}:(csD C).length=C.length:=by simp[csD]
theorem z9x{k:Nat}{s:List Int}(h:s.length<=200):Tr (.tup (iL s))=true/\(er (.tup (iL s))).depth<=k+1:=z3r (by simp[iL];lia) fun e he=>by
 obtain⟨i,_,rfl⟩:=List.mem_map.mp he;exact z35
theorem z6e{w:Wo}(h:w.ok):Tr w.d=true/\(er w.d).depth<=2:=z3r (by simp) (List.forall_mem_cons.mpr ⟨z9x (by have:=h.s6;lia),List.forall_mem_cons.mpr ⟨z9x (by have:=h.g4;lia),List.forall_mem_cons.mpr ⟨z35,List.forall_mem_cons.mpr ⟨z35,fun _ h=>nomatch h⟩⟩⟩⟩)
theorem zcQ{ws:List Wo}(hw: ∀w∈ws,w.ok):plainL (wsD ws)=true/\z1w (erL (wsD ws))=true/\labsL (wsD ws)=[]:=by
 have tr: ∀d∈wsD ws,Tr d=true/\(er d).depth<=2:=fun d hd=>by
  obtain⟨w,h,rfl⟩:=List.mem_map.mp hd
  exact z6e (hw w h)
 have gd:GdL (wsD ws):=RsL_gd (n:=0) _ (z3S.mpr fun d hd=>z5a d (tr d hd).1)
 refine⟨gd.1, ?_,TrL_labs _ (z33.mpr fun d hd=>(tr d hd).1)⟩
 unfold z1w
 simp only[Bool.and_eq_true,List.all_eq_true,decide_eq_true_eq]
 refine⟨z3U fun d hd=> ?_,z3U fun d hd=>z3U fun d' hd'=> ?_⟩
 ·have t:=tr d hd
  have g':Gd d:=z7O (n:=0) d (z5a d t.1)
  obtain⟨w,h,rfl⟩:=List.mem_map.mp hd
  exact⟨⟨rfl,g'.2⟩,by lia⟩
 ·obtain⟨v,_,rfl⟩:=List.mem_map.mp hd
  obtain⟨w,_,rfl⟩:=List.mem_map.mp hd'
  rw[zcN];rfl
theorem z92{ds:List D}{d:D}(h:d∈z0J ds):d∈ds:=by
 unfold z0J at h
 obtain⟨i,hi,rfl⟩:=List.mem_map.mp h
 have:=So.permS_lt i hi
 simp[this]
theorem z93{ds:List D}:(z0J ds).length=ds.length:=by
 unfold z0J
 rw[List.length_map,So.permS_len]
theorem z5d{ws:List Wo}:(wsD ws).length=ws.length:=by simp[wsD]
theorem drop_len{α:Type}: ∀(a b:List α) (k:Nat),a.length=k->(a++b).drop k=b:=fun a b k h=>by rw[<-h,List.drop_left]
theorem take_len{α:Type}: ∀(a b:List α) (k:Nat),a.length=k->(a++b).take k=a:=fun a b k h=>by rw[<-h,List.take_left]
theorem put1: ∀(es:List D) (o0 o1:Option D) (tm:List (Option D)) (n:Nat),∃o,putAll 1 es ⟨[o0,o1],tm,n⟩=⟨[o0,o],es.reverse.map some++tm,n⟩
 |[],o0,o1,tm,n=>⟨o1,rfl⟩
 |d::es,o0,o1,tm,n=>by
  obtain⟨o,e⟩:=put1 es o0 (some d) (some d::tm) n
  refine⟨o, ?_⟩
  unfold putAll
  show putAll 1 es ⟨[o0,some d],some d::tm,n⟩=_
  rw[e,List.reverse_cons,List.map_append,List.append_assoc]
  rfl
theorem z6f{K:ItK}{me:M D}{g:D->List D}{items:List D}{its σ0 tm0:List (Option D)}{ol:Nat}(hk:its.length=K.k)(hol:σ0.length=ol)(hat: ∀i rest,K.at' i (its++rest)=some items[i]?)
 (hme: ∀d∈items,∀o tm n,me ⟨[some d,o],tm,n⟩= .ok (.tup (g d)) ⟨[some d,o],tm,n⟩) (hz:(items.map fun d=>(g d).length).sum<=1000):
 ∀(f i:Nat) (acc:List D) (o0 o1:Option D) (n:Nat),i+f=items.length->acc.length+((items.drop i).map fun d=>(g d).length).sum<=1000->z2S K (.nm 0) me 1 ol f i acc.length ⟨[o0,o1],(acc.reverse.map some)++(σ0++(its++tm0)),n⟩= .ok (.lst n (acc++(items.drop i).flatMap g)) ⟨σ0,tm0,n+1⟩:=by
 intro f
 induction f with
 |zero=>
  intro i acc o0 o1 n hi ha
  obtain rfl:i=items.length:=by lia
  have l1:(acc.reverse.map some).length=acc.length:=by simp
  have e0:((acc.reverse.map some)++(σ0++(its++tm0))).take acc.length=acc.reverse.map some:=take_len _ _ _ l1
  have e1:((acc.reverse.map some)++(σ0++(its++tm0))).drop (acc.length+ol)=its++tm0:=by
   rw[<-List.append_assoc];exact drop_len _ _ _ (by simp[hol])
  have e2:((acc.reverse.map some)++(σ0++(its++tm0))).drop acc.length=σ0++(its++tm0):=drop_len _ _ _ l1
  have e3:(σ0++(its++tm0)).take ol=σ0:=take_len _ _ _ hol
  have e4:((acc.reverse.map some)++(σ0++(its++tm0))).drop (acc.length+ol+K.k)=tm0:=by
   rw[<-List.append_assoc,<-List.append_assoc];exact drop_len _ _ _ (by simp[hol,hk,Nat.add_assoc])
  have e5:z0a ((acc.reverse.map some).reverse)=some acc:=by rw[<-List.map_reverse,List.reverse_reverse,z0W]
  unfold z2S
  simp only[e0,e1,hat,List.getElem?_eq_none (Nat.le_refl items.length),e2,e3,e4,e5,List.drop_length,List.flatMap_nil,List.append_nil]
 |succ f ih=>
  intro i acc o0 o1 n hi ha
  have hlt:i<items.length:=by lia
  have e1:((acc.reverse.map some)++(σ0++(its++tm0))).drop (acc.length+ol)=its++tm0:=by
   rw[<-List.append_assoc];exact drop_len _ _ _ (by simp[hol])
  have hm:items[i]∈items:=List.getElem_mem hlt
  rw[List.drop_eq_getElem_cons hlt,List.map_cons,List.sum_cons] at ha
  have hsz:acc.length+(g items[i]).length<=sizeLine:=by rw[zl];lia
  obtain⟨o,eo⟩:=put1 (g items[i]) (some items[i]) o1 ((acc.reverse.map some)++(σ0++(its++tm0))) n
  rw[List.drop_eq_getElem_cons hlt,List.flatMap_cons]
  unfold z2S
  simp only[e1,hat,List.getElem?_eq_getElem hlt,asg,List.length_cons,List.length_nil,Nat.zero_lt_succ,if_true,List.set_cons_zero,hme _ hm]
  rw[if_pos ⟨hsz,by decide⟩,eo]
  have:=ih (i+1) (acc++g items[i]) (some items[i]) o n (by lia) (by rw[List.length_append];lia)
  rw[List.length_append,List.reverse_append,List.map_append,List.append_assoc] at this
  rw[this,List.append_assoc]
theorem z94{mc:M D}{me:M D}{g:D->List D}{ds:List D}{s:Stt}{σ tm:List (Option D)}{n:Nat}(hc:mc s= .ok (.tup ds) ⟨σ,tm,n⟩)
 (hme: ∀d∈ds,∀o tm n,me ⟨[some d,o],tm,n⟩= .ok (.tup (g d)) ⟨[some d,o],tm,n⟩) (hz:(ds.map fun d=>(g d).length).sum<=1000):
 z50 (z0T mc) (.nm 0) me 1 2 [] s= .ok (.lst n (ds.flatMap g)) ⟨σ,tm,n+1⟩:=by
 have h:=z6f (K:=kTup) (its:=[some (.tup ds)]) (items:=ds) (σ0:=σ) (tm0:=tm) (ol:=σ.length) rfl rfl (fun i rest=>rfl) hme hz ds.length 0 [] none none n (by simp) (by simpa using hz)
 have hi:z0T mc s= .ok kTup ⟨σ,some (.tup ds)::tm,n⟩:=by unfold z0T;rw[x_bd,hc];rfl
 unfold z50
 simp only[bd,hi]
 simp only[List.reverse_nil,List.map_nil,List.nil_append,List.length_nil,List.drop_zero] at h
 exact h
noncomputable def ssD:D->List D
 | .tup [_, .tup ss,_,_]=>ss
 |_=>[]
theorem z7T: ∀C:List Pz,(psD C).flatMap ssD=iL (sgs C)
 |[]=>rfl
 |p::C=>by
  have:=z7T C
  simp only[psD,List.map_cons,List.flatMap_cons,sgs,List.flatten_cons,iL,List.map_append] at this⊢
  rw[this]
  rfl
theorem z9y: ∀C:List Pz,((psD C).map fun d=>(ssD d).length).sum=(sgs C).length
 |[]=>rfl
 |p::C=>by
  have:=z9y C
  simp only[psD,List.map_cons,List.sum_cons,sgs,List.flatten_cons,List.length_append] at this⊢
  rw[this]
  simp[ssD,Pz.d,iL]
theorem z7U: ∀{C:List Pz},(∀p∈C,p.ss.length<=8)->(sgs C).length<=8*C.length
 |[],_=>Nat.zero_le _
 |p::C,h=>by
  have:=z7U (C:=C) fun q hq=>h q (List.mem_cons_of_mem _ hq)
  have h1:=h p (List.mem_cons_self ..)
  simp only[sgs,List.map_cons,List.flatten_cons,List.length_append,List.length_cons] at this⊢
  lia
theorem z7V: ∀{C:List Pz},(∀p∈C,1<=p.ss.length)->C.length<=(sgs C).length
 |[],_=>Nat.zero_le _
 |p::C,h=>by
  have:=z7V (C:=C) fun q hq=>h q (List.mem_cons_of_mem _ hq)
  have h1:=h p (List.mem_cons_self ..)
  simp only[sgs,List.map_cons,List.flatten_cons,List.length_append,List.length_cons] at this⊢
  lia
theorem z9z(c:Cm)(hc:c.ok)(n:Nat):z0D [.tup (psD c.C)] n= .ok (.tup (iL (sgs c.C))) [.tup (psD c.C)] (n+1):=by
 unfold z0D z1D
 walk_at ""
 rw[z94 (mc:=mVar 0) (g:=ssD) (ds:=psD c.C) (σ:=[some (.tup (psD c.C))]) (tm:=[some (.tup (psD c.C))]) (n:=n) (by walk_at "") (fun d hd o tm m=>by
  obtain⟨p,_,rfl⟩:=List.mem_map.mp hd
  walk_at ""
  rfl) (by rw[z9y];have:=z7U (C:=c.C) fun p hp=>(hc.ss1 p hp).2;have:=hc.c24;lia),z7T]
 walk_at ""
theorem z5e: ∀{C:List Pz},1<=C.length->∃p∈C,atI (psD C) (-1)=some p.d/\p.k=z3i C:=by
 intro C hC
 have key: ∀C:List Pz,1<=C.length->∃h:C.length - 1<C.length,(C[C.length - 1]).k=z3i C:=by
  intro C
  induction C with
  |nil=>intro h;simp at h
  |cons p C ih=>
   intro _
   cases C with
   |nil=>exact⟨by simp,rfl⟩
   |cons q C=>
    obtain⟨h,e⟩:=ih (by simp)
    refine⟨by simp, ?_⟩
    rw[z3i,<-e]
    ·congr 1
    ·simp
 obtain⟨h,e⟩:=key C hC
 refine⟨C[C.length - 1],List.getElem_mem h, ?_,e⟩
 have lp:(psD C).length=C.length:=by simp[psD]
 have q:ixN C.length (-1)=some (C.length - 1):=by
  unfold ixN
  rw[if_neg (by decide),if_pos (by lia)]
  congr 1
  lia
 unfold atI
 rw[lp,q]
 show(psD C)[C.length - 1]? =_
 simp[psD,h]
theorem z5f: ∀ns:List Int,z1s (iL ns)=some ns
 |[]=>rfl
 |n::ns=>by
  have:=z5f ns
  simp only[iL,List.map_cons,z1s] at this⊢
  rw[this]
theorem zcR{ns:List Int}{s:Stt}(h:1<=ns.length):maxS [.tup (iL ns)] s= .ok (.int (maxI ns)) s:=by
 cases ns with
 |nil=>simp at h
 |cons n ns=>simp only[maxS,z5f];rfl
theorem zcS{l:Nat}{ns:List Int}{s:Stt}(h:1<=ns.length):maxS [.lst l (iL ns)] s= .ok (.int (maxI ns)) s:=by
 cases ns with
 |nil=>simp at h
 |cons n ns=>simp only[maxS,z5f];rfl
theorem zep(c:Cm)(hc:c.ok)(n:Nat): ∃n',n<=n'/\z0n [c.d] n= .ok (.bool (mk c)) [c.d] n':=by
 unfold z0n z1c
 unfold Cm.d
 walk_at ""
 have lS:(iL c.S).length=c.S.length:=by simp[iL]
 have lG:(iL (sgs c.C)).length=(sgs c.C).length:=by simp[iL]
 have lP:(psD c.C).length=c.C.length:=by simp[psD]
 cases hb:c.b with
 |false=>
  refine⟨n,Nat.le_refl _, ?_⟩
  simp only[mk,hb,Bool.false_and]
  walk_at ""
 |true=>
  walk_at ""
  have d1:decide ((2:Int)<=((psD c.C).length:Int))=decide (2<=c.C.length):=by rw[lP,decide_eq_decide];lia
  have d2:decide (((psD c.C).length:Int)<=4)=decide (c.C.length<=4):=by rw[lP,decide_eq_decide];lia
  have d3:decide (((iL c.S).length:Int)>6)= !decide (c.S.length<=6):=by rw[lS,<-decide_not,decide_eq_decide];lia
  have d4:decide (((iL (sgs c.C)).length:Int)>4)= !decide ((sgs c.C).length<=4):=by rw[lG,<-decide_not,decide_eq_decide];lia
  rw[d1]
  cases h1:decide (2<=c.C.length) with
  |false=>
   refine⟨n,Nat.le_refl _, ?_⟩
   simp only[mk,h1,Bool.false_and,Bool.and_false]
   walk_at ""
  |true=>
  walk_at ""
  rw[d2]
  cases h2:decide (c.C.length<=4) with
  |false=>
   refine⟨n,Nat.le_refl _, ?_⟩
   simp only[mk,h2,Bool.false_and,Bool.and_false]
   walk_at ""
  |true=>
  walk_at ""
  rw[d3]
  cases h3:decide (c.S.length<=6) with
  |false=>
   refine⟨n,Nat.le_refl _, ?_⟩
   simp only[mk,h3,Bool.false_and,Bool.and_false]
   walk_at ""
  |true=>
  simp only[Bool.not_true]
  walk_at ""
  rw[z9z c hc n]
  walk_at ""
  rw[d4]
  cases h4:decide ((sgs c.C).length<=4) with
  |false=>
   refine⟨n+1,by lia, ?_⟩
   simp only[mk,h4,Bool.false_and,Bool.and_false]
   simp only[Bool.not_false]
   walk_at ""
  |true=>
  simp only[Bool.not_true]
  walk_at ""
  have g1:1<=(sgs c.C).length:=Nat.le_trans hc.c1 (z7V fun p hp=>(hc.ss1 p hp).1)
  rw[zcR g1]
  walk_at ""
  have d5:decide (maxI (sgs c.C)>999)= !decide (maxI (sgs c.C)<=999):=by rw[<-decide_not,decide_eq_decide];lia
  rw[d5]
  cases h5:decide (maxI (sgs c.C)<=999) with
  |false=>
   refine⟨n+1,by lia, ?_⟩
   simp only[mk,h5,Bool.false_and,Bool.and_false]
   simp only[Bool.not_false]
   walk_at ""
  |true=>
  simp only[Bool.not_true]
  walk_at ""
  obtain⟨p,_,ea,ek⟩:=z5e hc.c1
  rw[ea]
  unfold Pz.d
  walk_at ""
  refine⟨n+1,by lia, ?_⟩
  simp only[mk,hb,h1,h2,h3,h4,h5,Bool.true_and,Bool.and_true,ek]
theorem zeq(c:Cm)(hc:c.ok)(n:Nat): ∃n',n<=n'/\z0u [c.d] n= .ok (wd c).d [c.d] n':=by
 unfold z0u z1p
 unfold Cm.d
 walk_at ""
 rw[z9z c hc n]
 walk_at ""
 obtain⟨p,_,ea,ek⟩:=z5e hc.c1
 rw[ea]
 unfold Pz.d
 walk_at ""
 refine⟨n+1,by lia, ?_⟩
 rw[ek]
 rfl
noncomputable def nk4(w:Wo):NK:=[.inr (w.s.map .inl), .inr (w.g.map .inl), .inl (.inl w.k), .inl (.inl w.c)]
theorem dk4(w:Wo):w.d=dkD (nk4 w):=by
 simp[Wo.d,dkD,nk4,nkD,keyD,iL,Function.comp_def]
theorem zb1{v w:Wo}(h:nk4 v=nk4 w):v=w:=by
 have inj: ∀{a b:List Int},a.map (Sum.inl:Int->Key)=b.map Sum.inl->a=b:=fun{a b} h=>(List.map_inj_right fun x y e=>Sum.inl.inj e).mp h
 cases v;cases w
 simp only[nk4,List.cons.injEq,Sum.inr.injEq,Sum.inl.injEq,and_true] at h
 simp only[Wo.mk.injEq]
 exact⟨inj h.1,inj h.2.1,h.2.2.1,h.2.2.2⟩
theorem z95(w:Wo):z1N (nk4 w)=true:=by
 simp[z1N,nk4]
theorem has4(w:Wo)(acc:List Wo):hasK (nk4 w) (acc.map nk4)=decide (w∈acc):=by
 unfold hasK
 rw[List.any_map]
 induction acc with
 |nil=>simp
 |cons v acc ih=>
  simp only[List.any_cons,ih,Function.comp]
  by_cases h:v=w
  ·subst h;simp
  ·rw[decide_eq_false fun z=>h (zb1 z),Bool.false_or,decide_eq_decide]
   simp[Ne.symm h]
theorem tk4(w:Wo):tkey w.d=some (nk4 w):=by rw[dk4,zap]
theorem fin4{acc:List Wo}(h: ∀w∈acc,w.ok)(hl:acc.length<64){s:Stt}:z5G (acc.map nk4) (acc.map fun w=>some w.d) s= .ok (.lst s.n (z0J (wsD acc))) s.nxt:=by
 have e:(acc.map fun w=>some w.d)=(wsD acc).map some:=by simp[wsD,Function.comp_def]
 obtain⟨h1,h2,h3⟩:=zcQ h
 unfold z5G
 rw[e,z5F]
 dsimp only
 rw[if_pos]
 refine⟨?_,z9w acc⟩
 simp only[h1,h2,h3,List.isEmpty_nil,Bool.true_and,Bool.and_true,List.length_map,hl,decide_true,List.all_map,List.all_eq_true,Function.comp]
 exact fun w _=>z95 w
theorem z7W{K:ItK}{mt:M Bool}{me:M D}{cs:List Cm}{its σ0 tm0:List (Option D)}{ol:Nat}(hk:its.length=K.k)(hol:σ0.length=ol)(hz:cs.length<=60)(hat: ∀i rest,K.at' i (its++rest)=some (csD cs)[i]?)
 (hmt: ∀c∈cs,∀tm n,∃n',n<=n'/\mt ⟨[some c.d],tm,n⟩= .ok (mk c) ⟨[some c.d],tm,n'⟩) (hme: ∀c∈cs,∀tm n,∃n',n<=n'/\me ⟨[some c.d],tm,n⟩= .ok (wd c).d ⟨[some c.d],tm,n'⟩):
 ∀(f i:Nat) (acc:List Wo) (o:Option D) (n:Nat),i+f=cs.length->acc.length<=i->(∀w∈acc,w.ok)->∃n',n<=n'/\z3D K (.nm 0) mt me ol f i (acc.map nk4) ⟨[o],(acc.map fun w=>some w.d)++(σ0++(its++tm0)),n⟩= .ok (.lst n' (z0J (wsD (z0y acc (cs.drop i))))) ⟨σ0,tm0,n'+1⟩:=by
 intro f
 induction f with
 |zero=>
  intro i acc o n hi ha hq
  obtain rfl:i=cs.length:=by lia
  have l1:(acc.map fun w=>some w.d).length=acc.length:=by simp
  have e0:((acc.map fun w=>some w.d)++(σ0++(its++tm0))).take acc.length=acc.map fun w=>some w.d:=take_len _ _ _ l1
  have e1:((acc.map fun w=>some w.d)++(σ0++(its++tm0))).drop (acc.length+ol)=its++tm0:=by
   rw[<-List.append_assoc];exact drop_len _ _ _ (by simp[hol])
  have e2:((acc.map fun w=>some w.d)++(σ0++(its++tm0))).drop acc.length=σ0++(its++tm0):=drop_len _ _ _ l1
  have e3:(σ0++(its++tm0)).take ol=σ0:=take_len _ _ _ hol
  have e4:((acc.map fun w=>some w.d)++(σ0++(its++tm0))).drop (acc.length+ol+K.k)=tm0:=by
   rw[<-List.append_assoc,<-List.append_assoc];exact drop_len _ _ _ (by simp[hol,hk,Nat.add_assoc])
  refine⟨n,Nat.le_refl _, ?_⟩
  unfold z3D
  simp only[List.length_map,e0,e1,hat,List.getElem?_eq_none (show(csD cs).length<=cs.length by rw[z1k];exact Nat.le_refl _),e2,e3,e4,List.drop_length,z0y]
  rw[fin4 hq (by lia)]
  rfl
 |succ f ih=>
  intro i acc o n hi ha hq
  have hlt:i<cs.length:=by lia
  have hl2:i<(csD cs).length:=by rw[z1k];exact hlt
  have e1:((acc.map fun w=>some w.d)++(σ0++(its++tm0))).drop (acc.length+ol)=its++tm0:=by
   rw[<-List.append_assoc];exact drop_len _ _ _ (by simp[hol])
  have hm:cs[i]∈cs:=List.getElem_mem hlt
  have ei:(csD cs)[i]? =some cs[i].d:=by simp[csD,hlt]
  obtain⟨n1,h1,f1⟩:=hmt _ hm ((acc.map fun w=>some w.d)++(σ0++(its++tm0))) n
  obtain⟨n2,h2,f2⟩:=hme _ hm ((acc.map fun w=>some w.d)++(σ0++(its++tm0))) n1
  rw[List.drop_eq_getElem_cons hlt]
  unfold z3D
  simp only[List.length_map,e1,hat,ei,asg,List.length_cons,List.length_nil,Nat.zero_lt_succ,if_true,List.set_cons_zero,f1]
  cases hmk:mk cs[i] with
  |false=>
   obtain⟨n',h',e'⟩:=ih (i+1) acc (some cs[i].d) n1 (by lia) (by lia) hq
   refine⟨n',by lia, ?_⟩
   simp only[z0y,hmk,Bool.false_eq_true,false_and,if_false]
   exact e'
  |true=>
   have e2:((acc.map fun w=>some w.d)++(σ0++(its++tm0))).take acc.length=acc.map fun w=>some w.d:=take_len _ _ _ (by simp)
   have e5:((acc.map fun w=>some w.d).map fun o=>o.bind tkey)=(acc.map nk4).map some:=by
    rw[List.map_map,List.map_map]
    exact List.map_congr_left fun a h=>tk4 a
   simp only[if_pos (show acc.length<76 by lia),f2,tk4,e2,e5,if_true,has4]
   by_cases hin:wd cs[i]∈acc
   ·obtain⟨n',h',e'⟩:=ih (i+1) acc (some cs[i].d) n2 (by lia) (by lia) hq
    refine⟨n',by lia, ?_⟩
    simp only[z0y,hmk,hin,not_true_eq_false,and_false,if_false,decide_true,if_true]
    exact e'
   ·obtain⟨n',h',e'⟩:=ih (i+1) (wd cs[i]::acc) (some cs[i].d) n2 (by lia) (by simp only[List.length_cons];lia) (List.forall_mem_cons.mpr ⟨z7Q hmk,hq⟩)
    refine⟨n',by lia, ?_⟩
    simp only[z0y,hmk,hin,not_false_eq_true,and_self,if_true,decide_false,Bool.false_eq_true,if_false]
    exact e'
theorem zcT(L:Nat)(cs:List Cm)(hc: ∀c∈cs,c.ok)(hz:cs.length<=60)(n:Nat): ∃n',n<=n'/\z0v [.lst L (csD cs)] n= .ok (.lst n' (z0J (wsD (z0y [] cs)))) [.lst L (csD cs)] (n'+1):=by
 obtain⟨n',h,e⟩:=z7W (K:=kLst) (mt:=z2a (z06 z0n [(mVar 0)])) (me:=z06 z0u [(mVar 0)]) (cs:=cs) (its:=[some (.lst L (csD cs))]) (σ0:=[some (.lst L (csD cs))]) (tm0:=[some (.lst L (csD cs))]) (ol:=1) rfl rfl hz (fun i rest=>rfl) (fun c h tm n=>by
  obtain⟨n',h',e'⟩:=zep c (hc c h) n
  refine⟨n',h', ?_⟩
  walk_at ""
  rw[e']
  walk_at "") (fun c h tm n=>by
  obtain⟨n',h',e'⟩:=zeq c (hc c h) n
  refine⟨n',h', ?_⟩
  walk_at ""
  rw[e']
  walk_at "") cs.length 0 [] none n (by simp) (by simp) (fun _ h=>nomatch h)
 refine⟨n',h, ?_⟩
 have e0:(z4Z (z0T (mVar 0)) (.nm 0) (z2a (z06 z0n [(mVar 0)])) (z06 z0u [(mVar 0)]) 1 []) ⟨[some (.lst L (csD cs))],[some (.lst L (csD cs))],n⟩= .ok (.lst n' (z0J (wsD (z0y [] cs)))) ⟨[some (.lst L (csD cs))],[some (.lst L (csD cs))],n'+1⟩:=by
  have hi:z0T (mVar 0) ⟨[some (.lst L (csD cs))],[some (.lst L (csD cs))],n⟩= .ok kLst ⟨[some (.lst L (csD cs))],[some (.lst L (csD cs)),some (.lst L (csD cs))],n⟩:=rfl
  unfold z4Z
  simp only[bd,hi]
  simp only[List.map_nil,List.nil_append,List.drop_zero] at e
  have el:kLst.len [some (.lst L (csD cs)),some (.lst L (csD cs))]=cs.length:=z1k
  rw[el]
  exact e
 unfold z0v z1d
 walk_at ""
 rw[e0]
 walk_at ""
theorem zcU:kLst.k=1:=rfl
theorem z9A{l:Nat}{ds:List D}{i:Nat}{tm:List (Option D)}:kLst.at' i (some (.lst l ds)::tm)=some (if i<ds.length then some (ds.getD i .non) else none):=by
 show some (ds[i]?)=_
 by_cases h:i<ds.length
 ·rw[if_pos h];simp[h]
 ·rw[if_neg h];simp[Nat.le_of_not_lt h]
theorem z6g{K:ItK}{me:M D}{PL:Nat->List D->Prop}{items:List D}{its fr σ0 tm0:List (Option D)}{ol:Nat}(hk:its.length=K.k)(hol:σ0.length=ol)(hz:items.length<sizeLine)(hat: ∀i rest,K.at' i (its++rest)=some items[i]?)
 (hme: ∀(acc:List D) (hi:acc.length<items.length) tm n,PL n acc->∃y n',PL n' (acc++[y])/\me ⟨some items[acc.length]::fr,tm,n⟩= .ok y ⟨some items[acc.length]::fr,tm,n'⟩):
 ∀(f:Nat) (acc:List D) (o:Option D) (n:Nat),acc.length+f=items.length->PL n acc->∃ys n',ys.length=items.length/\PL n' ys/\z0X K (.nm 0) (rt true) me ol f acc.length acc.length ⟨o::fr,(acc.reverse.map some)++(σ0++(its++tm0)),n⟩= .ok (.lst n' ys) ⟨σ0,tm0,n'+1⟩:=by
 intro f
 induction f with
 |zero=>
  intro acc o n hi hq
  have hi:acc.length=items.length:=by lia
  have l1:(acc.reverse.map some).length=acc.length:=by simp
  have e1:((acc.reverse.map some)++(σ0++(its++tm0))).drop (acc.length+ol)=its++tm0:=by
   rw[<-List.append_assoc];exact drop_len _ _ _ (by simp[hol])
  refine⟨acc,n,by lia,hq, ?_⟩
  unfold z0X
  simp only[e1,hat,List.getElem?_eq_none (show items.length<=acc.length by lia)]
  rw[take_len _ _ _ l1]
  have e2:(acc.reverse.map some).reverse=acc.map some:=by simp
  rw[e2,z0W]
  simp only[Res.ok.injEq,Stt.mk.injEq,and_true,true_and]
  constructor
  ·rw[drop_len _ _ _ l1,take_len _ _ _ hol]
  ·have:((acc.reverse.map some)++(σ0++(its++tm0))).drop (acc.length+ol+K.k)=(((acc.reverse.map some)++(σ0++(its++tm0))).drop (acc.length+ol)).drop K.k:=by rw[List.drop_drop]
   rw[this,e1]
   exact drop_len _ _ _ hk
 |succ f ih=>
  intro acc o n hi hq
  have hlt:acc.length<items.length:=by lia
  have e1:((acc.reverse.map some)++(σ0++(its++tm0))).drop (acc.length+ol)=its++tm0:=by
   rw[<-List.append_assoc];exact drop_len _ _ _ (by simp[hol])
  obtain⟨y,n1,q1,h2⟩:=hme acc hlt ((acc.reverse.map some)++(σ0++(its++tm0))) n hq
  obtain⟨ys,n2,g0,g1,h3⟩:=ih (acc++[y]) (some items[acc.length]) n1 (by simp;lia) q1
  refine⟨ys,n2,g0,g1, ?_⟩
  unfold z0X
  simp only[e1,hat,List.getElem?_eq_getElem hlt,asg,List.set_cons_zero,rt,if_pos (show acc.length<sizeLine by lia),h2]
  simp only[List.length_append,List.length_cons,List.length_nil,Nat.zero_add,List.reverse_append,List.reverse_cons,List.reverse_nil,List.nil_append,List.map_append,List.map_cons,List.map_nil,List.cons_append,List.append_assoc] at h3
  simp only[Stt.psh]
  exact h3
theorem z7X{mi:M ItK}{K:ItK}{me:M D}{PL:Nat->List D->Prop}{items:List D}{its:List (Option D)}{ix:List Nat}{s:Stt}{σ tm:List (Option D)}{n:Nat}(hc:mi s= .ok K ⟨σ,its++tm,n⟩)(hk:its.length=K.k)(hz:items.length<sizeLine)(hat: ∀i rest,K.at' i (its++rest)=some items[i]?)(hlen:K.len (its++tm)=items.length)(h0:PL n [])
 (hme: ∀(acc:List D) (hi:acc.length<items.length) tm m,PL m acc->∃y n',PL n' (acc++[y])/\me ⟨some items[acc.length]::(ix.map fun i=>(σ[i]?).getD none),tm,m⟩= .ok y ⟨some items[acc.length]::(ix.map fun i=>(σ[i]?).getD none),tm,n'⟩):
 ∃ys n',ys.length=items.length/\PL n' ys/\z0I mi (.nm 0) (rt true) me 1 ix s= .ok (.lst n' ys) ⟨σ,tm,n'+1⟩:=by
 obtain⟨ys,n',g0,g1,h3⟩:=z6g (K:=K) (me:=me) (PL:=PL) (σ0:=σ) (tm0:=tm) hk rfl hz hat hme items.length [] none n (by simp) h0
 refine⟨ys,n',g0,g1, ?_⟩
 unfold z0I
 simp only[bd,hc,hlen]
 simp only[List.map_nil,List.reverse_nil,List.nil_append,List.length_nil] at h3
 exact h3
theorem z4E: ∀{a b:List D} {x y:List (List D)},z0r a=some x->z0r b=some y->z0r (a++b)=some (x++y)
 |[],b,x,y,h,h'=>by simp only[z0r,Option.some.injEq] at h;subst h;exact h'
 |d::a,b,x,y,h,h'=>by
  cases d with
  |lst l es=>
   simp only[z0r] at h
   cases e:z0r a with
   |none=>rw[e] at h;cases h
   |some z=>
    rw[e] at h
    cases h
    simp only[List.cons_append,z0r,z4E e h']
  |_=>simp[z0r] at h
theorem zcV: ∀C:List Pz,(C.map fun p=>iL p.ss).flatten=iL (sgs C)
 |[]=>rfl
 |p::C=>by
  have:=zcV C
  simp only[List.map_cons,List.flatten_cons,sgs,iL,List.map_append] at this⊢
  rw[this]
theorem z7Y(s:List Int):labsL (iL s)=[]:=by
 induction s with
 |nil=>rfl
 |cons i s ih=>simp only[iL,List.map_cons,labsL,labs] at ih⊢;rw[ih];rfl
noncomputable def sgC:M D:=(mCB [(z0I (z0T (mVar 3)) (.nm 0) (rt true) (mCB [(mBin (mVar 0) (mC (.int 1)) ixD)] z3b) 1 []),(mCB [] lstM)] z68)
theorem zcW(c:Cm)(hc:c.ok)(a0 a1 a2 a4 a5 a6:Option D)(tm:List (Option D))(n:Nat): ∃k n',n<=k/\k<n'/\sgC ⟨[a0,a1,a2,some (.tup (psD c.C)),a4,a5,a6],tm,n⟩= .ok (.lst k (iL (sgs c.C))) ⟨[a0,a1,a2,some (.tup (psD c.C)),a4,a5,a6],tm,n'⟩:=by
 have hlen:(psD c.C).length=c.C.length:=z5J
 obtain⟨ys,n1,ly,⟨hn,hy⟩,e⟩:=z7X (mi:=z0T (mVar 3)) (K:=kTup) (me:=mCB [(mBin (mVar 0) (mC (.int 1)) ixD)] z3b) (PL:=fun m acc=>n<=m/\z0r acc=some ((c.C.take acc.length).map fun p=>iL p.ss)) (items:=psD c.C) (its:=[some (.tup (psD c.C))]) (ix:=[]) (s:=⟨[a0,a1,a2,some (.tup (psD c.C)),a4,a5,a6],tm,n⟩) (σ:=[a0,a1,a2,some (.tup (psD c.C)),a4,a5,a6]) (tm:=tm) (n:=n) rfl rfl (by rw[zl,hlen];have:=hc.c24;lia) (fun i rest=>rfl) rfl ⟨Nat.le_refl _,rfl⟩ (by
  rintro acc hi tm m ⟨hm,hl⟩
  have hi':acc.length<c.C.length:=by lia
  have ei:(psD c.C)[acc.length]=c.C[acc.length].d:=by simp[psD]
  refine⟨.lst m (iL c.C[acc.length].ss),m+1,⟨by lia, ?_⟩, ?_⟩
  ·rw[List.length_append,List.length_cons,List.length_nil,List.take_add_one,List.getElem?_eq_getElem hi',Option.toList_some,List.map_append]
   exact z4E hl rfl
  ·rw[ei]
   unfold Pz.d
   walk_at "")
 unfold sgC
 walk_at ""
 rw[e]
 walk_at ""
 rw[ly,hlen,List.take_of_length_le (Nat.le_refl _)] at hy
 have hf:=zcV c.C
 refine⟨n1+1+1,n1+1+1+1,by lia,by lia, ?_⟩
 have ny:ys.isEmpty=false:=by
  cases ys with
  |nil=>have:=hc.c1;simp at ly;lia
  |cons _ _=>rfl
 have hs:=z7U (C:=c.C) fun p hp=>(hc.ss1 p hp).2
 have h24:=hc.c24
 simp only[z68,hy,hf,ny,z7Y,List.isEmpty_nil,Bool.not_false,Bool.true_and,decide_eq_true_eq]
 rw[if_pos (by rw[zl];simp only[iL,List.length_map];lia)]
 rfl
theorem zb2: ∀v w:Wo,PyData.eqv (er v.d) (er w.d)=decide (v=w):=by
 intro v w
 rw[show er v.d= .tuple [.tuple (erL (iL v.s)), .tuple (erL (iL v.g)), .int v.k, .int v.c] from rfl,show er w.d= .tuple [.tuple (erL (iL w.s)), .tuple (erL (iL w.g)), .int w.k, .int w.c] from rfl]
 rw[z4D,z4D,z4D,z4D]
 have e1:=z1J v.s w.s
 have e2:=z1J v.g w.g
 have e3:=z36 v.k w.k
 have e4:=z36 v.c w.c
 simp only[PyData.eqv,PyData.eqvAll] at e1 e2 e3 e4⊢
 rw[e1,e2,e3,e4]
 cases v;cases w
 simp only[Wo.mk.injEq,Bool.and_true]
 rw[<-Bool.decide_and,<-Bool.decide_and,<-Bool.decide_and]
theorem z9B(w:Wo): ∀ws:List Wo,(erL (wsD ws)).any (fun y=>PyData.eqv y (er w.d))=decide (w∈ws)
 |[]=>by simp[wsD,erL]
 |v::ws=>by
  have ih:=z9B w ws
  simp only[wsD,List.map_cons,erL,List.any_cons] at ih⊢
  rw[zb2,ih]
  by_cases h:v=w
  ·subst h;simp
  ·simp[h,Ne.symm h]
theorem zcX{w:Wo}(hw:w.ok){ws:List Wo}(h: ∀v∈ws,v.ok){m:Nat}{s:Stt}:ninD w.d (.lst m (wsD ws)) s= .ok (.bool (!decide (w∈ws))) s:=by
 have tw:=z6e hw
 have gw:Gd w.d:=z7O (n:=0) _ (z5a _ tw.1)
 have gd:GdL (wsD ws):=RsL_gd (n:=0) _ (z3S.mpr fun d hd=>by
  obtain⟨v,hv,rfl⟩:=List.mem_map.mp hd
  exact z5a _ (z6e (h v hv)).1)
 rw[ze4 rfl (by
  simp only[inC,gw.1,gw.2,gd.1,gd.2,Bool.and_self,Bool.true_and,decide_eq_true_eq]
  have:=tw.2
  lia),z9B]
noncomputable def mdB:MS:=(seqS (sAsg (.nm 5) sgC)
 (sIf (mAnd (z2a (mVar 4)) (mAnd (mBoo (z2n (mC (.int 2)) (mCB [(mVar 3)] lenD) (mC (.int 4)) leD leD)) (mAnd (mBoo (mBin (mCB [(mVar 2)] lenD) (mC (.int 6)) leD)) (mAnd (mBoo (mBin (mCB [(mVar 5)] lenD) (mC (.int 4)) leD)) (mBoo (mBin (mCB [(mVar 5)] maxS) (mC (.int 1000)) ltD)))))) (seqS (sAsg (.nm 6) (mCB [(mVar 2),(mCB [(mVar 5)] tupF),(mBin (mBin (mVar 3) (bd (mC (.int 1)) negD) ixD) (mC (.int 2)) ixD),(mC (.int 1000))] tupD))
 (sIf (mAnd (mBoo (mBin (mBin (mBin (mVar 3) (bd (mC (.int 1)) negD) ixD) (mC (.int 2)) ixD) (mC (.int 8)) ltD)) (mBoo (mBin (mVar 6) (mVar 1) ninD))) (z2c (z1Q (mVar 1) [(mVar 6)] appD)) sNx)) sNx))
theorem zer(L m n:Nat)(hL:L≠m)(hm:m<n)(cs:List Cm)(c:Cm)(hc:c.ok)(acc:List Wo)(ha: ∀w∈acc,w.ok)(hl:acc.length<=60)(o5 o6:Option D)(tm:List (Option D))(htm: ∀d,rpO (pl m d) tm=tm):
 ∃p5 p6 n',n<=n'/\mdB ⟨[some (.lst L (csD cs)),some (.lst m (wsD acc.reverse)),some (.tup (iL c.S)),some (.tup (psD c.C)),some (.bool c.b),o5,o6],tm,n⟩= .nx ⟨[some (.lst L (csD cs)),some (.lst m (wsD (z0y acc [c]).reverse)),some (.tup (iL c.S)),some (.tup (psD c.C)),some (.bool c.b),p5,p6],tm,n'⟩:=by
 obtain⟨k,n1,hk,hk1,e1⟩:=zcW c hc (some (.lst L (csD cs))) (some (.lst m (wsD acc.reverse))) (some (.tup (iL c.S))) (some (.bool c.b)) o5 o6 tm n
 have lS:(iL c.S).length=c.S.length:=by simp[iL]
 have lG:(iL (sgs c.C)).length=(sgs c.C).length:=by simp[iL]
 have lP:(psD c.C).length=c.C.length:=by simp[psD]
 have d1:decide ((2:Int)<=((psD c.C).length:Int))=decide (2<=c.C.length):=by rw[lP,decide_eq_decide];lia
 have d2:decide (((psD c.C).length:Int)<=4)=decide (c.C.length<=4):=by rw[lP,decide_eq_decide];lia
 have d3:decide (((iL c.S).length:Int)<=6)=decide (c.S.length<=6):=by rw[lS,decide_eq_decide];lia
 have d4:decide (((iL (sgs c.C)).length:Int)<=4)=decide ((sgs c.C).length<=4):=by rw[lG,decide_eq_decide];lia
 have g1:1<=(sgs c.C).length:=Nat.le_trans hc.c1 (z7V fun p hp=>(hc.ss1 p hp).1)
 have d5:decide (maxI (sgs c.C)<1000)=decide (maxI (sgs c.C)<=999):=by rw[decide_eq_decide];lia
 obtain⟨p,_,ea,ek⟩:=z5e hc.c1
 have no:mk c=false->z0y acc [c]=acc:=fun h=>by simp only[z0y,h,Bool.false_eq_true,false_and,if_false]
 have g: ∀b:Bool,c.b=b->∃p5 p6 n',n<=n'/\mdB ⟨[some (.lst L (csD cs)),some (.lst m (wsD acc.reverse)),some (.tup (iL c.S)),some (.tup (psD c.C)),some (.bool b),o5,o6],tm,n⟩= .nx ⟨[some (.lst L (csD cs)),some (.lst m (wsD (z0y acc [c]).reverse)),some (.tup (iL c.S)),some (.tup (psD c.C)),some (.bool b),p5,p6],tm,n'⟩:=by
  intro b hb
  rw[hb] at e1
  unfold mdB
  walk_at ""
  rw[e1]
  walk_at ""
  cases b with
  |false=>
   rw[no (by simp only[mk,hb,Bool.false_and])]
   refine⟨some (.lst k (iL (sgs c.C))),o6,n1,by lia, ?_⟩
   walk_at ""
  |true=>
  walk_at ""
  rw[d1]
  cases h1:decide (2<=c.C.length) with
  |false=>
   rw[no (by simp only[mk,h1,Bool.false_and,Bool.and_false])]
   refine⟨some (.lst k (iL (sgs c.C))),o6,n1,by lia, ?_⟩
   walk_at ""
  |true=>
  walk_at ""
  rw[d2]
  cases h2:decide (c.C.length<=4) with
  |false=>
   rw[no (by simp only[mk,h2,Bool.false_and,Bool.and_false])]
   refine⟨some (.lst k (iL (sgs c.C))),o6,n1,by lia, ?_⟩
   walk_at ""
  |true=>
  walk_at ""
  rw[d3]
  cases h3:decide (c.S.length<=6) with
  |false=>
   rw[no (by simp only[mk,h3,Bool.false_and,Bool.and_false])]
   refine⟨some (.lst k (iL (sgs c.C))),o6,n1,by lia, ?_⟩
   walk_at ""
  |true=>
  walk_at ""
  rw[d4]
  cases h4:decide ((sgs c.C).length<=4) with
  |false=>
   rw[no (by simp only[mk,h4,Bool.false_and,Bool.and_false])]
   refine⟨some (.lst k (iL (sgs c.C))),o6,n1,by lia, ?_⟩
   walk_at ""
  |true=>
  walk_at ""
  rw[zcS g1]
  walk_at ""
  rw[d5]
  cases h5:decide (maxI (sgs c.C)<=999) with
  |false=>
   rw[no (by simp only[mk,h5,Bool.false_and,Bool.and_false])]
   refine⟨some (.lst k (iL (sgs c.C))),o6,n1,by lia, ?_⟩
   walk_at ""
  |true=>
  walk_at ""
  rw[ea]
  unfold Pz.d
  walk_at ""
  rw[ea]
  unfold Pz.d
  walk_at ""
  rw[ek]
  have d6:decide (z3i c.C<8)=decide (z3i c.C<=7):=by rw[decide_eq_decide];lia
  rw[d6]
  have hw:D.tup [D.tup (iL c.S),D.tup (iL (sgs c.C)),D.int (z3i c.C),D.int 1000]=(wd c).d:=rfl
  rw[hw]
  cases h6:decide (z3i c.C<=7) with
  |false=>
   rw[no (by simp only[mk,h6,Bool.false_and,Bool.and_false])]
   refine⟨some (.lst k (iL (sgs c.C))),some (wd c).d,n1,by lia, ?_⟩
   walk_at ""
  |true=>
  have hmk:mk c=true:=by simp only[mk,hb,h1,h2,h3,h4,h5,h6,Bool.and_self]
  walk_at ""
  rw[zcX (z7Q hmk) (ws:=acc.reverse) fun v hv=>ha v (List.mem_reverse.mp hv)]
  walk_at ""
  have hmem:decide (wd c∈acc.reverse)=decide (wd c∈acc):=by rw[decide_eq_decide];exact List.mem_reverse
  rw[hmem]
  by_cases hin:wd c∈acc
  ·refine⟨some (.lst k (iL (sgs c.C))),some (wd c).d,n1,by lia, ?_⟩
   simp only[z0y,hmk,hin,not_true_eq_false,and_false,if_false,decide_true,Bool.not_true]
   walk_at ""
  ·refine⟨some (.lst k (iL (sgs c.C))),some (wd c).d,n1,by lia, ?_⟩
   simp only[z0y,hmk,hin,not_false_eq_true,and_self,if_true,decide_false,Bool.not_false]
   have rw0: ∀d,rp (pl m d) (wd c).d=(wd c).d:=fun d=>z1I (by rw[z34 _ (z6e (z7Q hmk)).1];exact List.not_mem_nil)
   have rk: ∀d,rp (pl m d) (.lst k (iL (sgs c.C)))= .lst k (iL (sgs c.C)):=fun d=>by rw[z0E (by lia),rL_i]
   have rl: ∀d,rp (pl m d) (.lst L (csD cs))= .lst L (csD cs):=fun d=>z7S hL
   have rm: ∀d ws,rp (pl m d) (.lst m (wsD ws))=d:=fun d ws=>by simp only[rp,pl,if_true]
   have ap:wsD acc.reverse++[(wd c).d]=wsD (wd c::acc).reverse:=by simp[wsD]
   walk_at ""
   rw[z7K ⟨by rw[zl,z5d,List.length_reverse];lia,by rw[z34 _ (z6e (z7Q hmk)).1];exact List.not_mem_nil⟩]
   walk_at ""
   simp only[rl,rm,rk,rw0,rL_i,rL_p,htm,ap]
   try (walk_at "")
 exact g c.b rfl
theorem zb3{l n:Nat}{ws:List Wo}{σ tm:List (Option D)}(hw: ∀w∈ws,w.ok)(hl:ws.length<64):srtS [.lst l (wsD ws)] ⟨σ,tm,n⟩= .ok (.lst n (z0J (wsD ws))) ⟨σ,tm,n+1⟩:=by
 obtain⟨h1,h2,h3⟩:=zcQ hw
 simp only[srtS]
 rw[if_pos (by rw[h1,h2,h3,z5d];simp[hl])]
 rfl
theorem zcY(L:Nat)(cs:List Cm)(hc: ∀c∈cs,c.ok)(hz:cs.length<=60)(n:Nat)(hn:L<n): ∃n',n<=n'/\z24 [.lst L (csD cs)] n= .ok (.lst n' (z0J (wsD (z0y [] cs)))) [.lst L (csD cs)] (n'+1):=by
 unfold z24
 have e0:z3N=seqS (sAsg (.nm 1) (mCB [] lstM)) (seqS (sFor (z0T (mVar 0)) (.tp [(.nm 2),(.nm 3),(.nm 4)]) mdB) (sRet (mCB [(mVar 1)] srtS))):=rfl
 rw[e0]
 walk_at ""
 have hi:z0T (mVar 0) ⟨[some (.lst L (csD cs)),some (.lst n []),none,none,none,none,none],[some (.lst L (csD cs))],n+1⟩= .ok kLst ⟨[some (.lst L (csD cs)),some (.lst n []),none,none,none,none,none],[some (.lst L (csD cs)),some (.lst L (csD cs))],n+1⟩:=rfl
 rw[hi,zaN]
 obtain⟨s',e,o2,o3,o4,o5,o6,n1,hn1,rfl⟩:=z5c (K:=kLst) (g:= .tp [(.nm 2),(.nm 3),(.nm 4)]) (b:=mdB) (item:=fun i=>(csD cs).getD i .non) (N:=cs.length) (P:=fun i s=> ∃(o2 o3 o4 o5 o6:Option D) (n1:Nat),n+1<=n1/\s=⟨[some (.lst L (csD cs)),some (.lst n (wsD (z0y [] (cs.take i)).reverse)),o2,o3,o4,o5,o6],[some (.lst L (csD cs)),some (.lst L (csD cs))],n1⟩)
  (by rintro i s ⟨_,_,_,_,_,_,_,rfl⟩;rw[z9A,z1k])
  (by
   rintro i hi s ⟨o2,o3,o4,o5,o6,n1,hn1,rfl⟩
   rw[zeo hi]
   refine⟨_,rfl, ?_⟩
   have hlt:=z25 (cs.take i) []
   rw[List.length_take] at hlt
   obtain⟨p5,p6,n2,h2,e2⟩:=zer L n n1 (by lia) (by lia) cs cs[i] (hc _ (List.getElem_mem hi)) (z0y [] (cs.take i)) (z2w _ _ (fun _ h=>nomatch h)) (by simp only[List.length_nil] at hlt;lia) o5 o6 [some (.lst L (csD cs)),some (.lst L (csD cs))] (fun d=>by simp only[z0Z,z2k,Option.map_some,z7S (show L≠n by lia)])
   refine⟨_,e2,some (.tup (iL cs[i].S)),some (.tup (psD cs[i].C)),some (.bool cs[i].b),p5,p6,n2,by lia, ?_⟩
   rw[List.take_add_one,List.getElem?_eq_getElem hi,Option.toList_some,z4C])
  cs.length 0 ⟨[some (.lst L (csD cs)),some (.lst n []),none,none,none,none,none],[some (.lst L (csD cs)),some (.lst L (csD cs))],n+1⟩ (by lia) ⟨none,none,none,none,none,n+1,Nat.le_refl _,rfl⟩
 have el:kLst.len [some (.lst L (csD cs)),some (.lst L (csD cs))]=cs.length:=z1k
 dsimp only
 rw[el,e,zcU,zcP,List.take_of_length_le (Nat.le_refl _)]
 walk_at ""
 have hl:=z25 cs []
 have ho:=z2w cs [] (fun _ h=>nomatch h)
 simp only[List.length_nil] at hl
 rw[zb3 (fun w hw=>ho w (List.mem_reverse.mp hw)) (by rw[List.length_reverse];lia)]
 walk_at ""
 refine⟨n1,by lia, ?_⟩
 have:z0J (wsD (z0y [] cs).reverse)=z0J (wsD (z0y [] cs)):=z5E (z9w _) ((List.reverse_perm _).map _)
 rw[this]
noncomputable def Ints(ys:List D):Prop:= ∀y∈ys,∃i:Int,y= .int i
theorem z26: ∀{ys:List D},Ints ys->labsL ys=[]
 |[],_=>rfl
 |y::ys,h=>by
  obtain⟨i,rfl⟩:=h y (by simp)
  simp only[labsL,labs,List.nil_append]
  exact z26 fun z hz=>h z (by simp[hz])
theorem zcZ(l:Nat)(c x N:Int)(n:Nat)(h:Bg c x)(hn:l<n)(h0:0<=N)(h1:N<=1000): ∃ys c' x' n',ys.length=N.toNat/\Ints ys/\Bg c' x'/\n<=n'/\z1h [.lst l [.int c, .int x], .int N] n= .ok (.tup ys) [.lst l [.int c', .int x'], .int N] n':=by
 unfold z1h z2i
 walk_at ""
 obtain⟨r,c1,x1,hr0,hr1,b1,e1⟩:=z0j l c x 3 (n+1) h (by decide) (by decide)
 rw[e1,z0g rfl rfl rfl (by walk_at "") (by walk_at "";rw[z0E (by lia)];walk_at "")]
 walk_at ""
 rw[z0E (by lia)]
 walk_at ""
 have hv: ∃v:Int,0<v/\v<1000000/\atI [D.int 2,D.int 3,D.int 40] r=some (.int v):=by
  have:r=0\/r=1\/r=2:=by lia
  rcases this with rfl|rfl|rfl
  ·exact⟨_,by decide,by decide,at0⟩
  ·exact⟨_,by decide,by decide,at1⟩
  ·exact⟨_,by decide,by decide,at2⟩
 obtain⟨v,hv0,hv1,ev⟩:=hv
 rw[ev]
 walk_at ""
 obtain⟨ys,b',n',g1,g2,g3,⟨c3,x3,rfl,h3⟩,g5,g6⟩:=z1j (ms:=[mVar 1]) (me:=z06 z01 [mVar 1,mVar 2]) (N:=N.toNat) (ix:=[0,2]) (s:=⟨[some (.lst l [.int c1, .int x1]),some (.int N),some (.int v)],[some (.lst l [.int c1, .int x1]),some (.int N)],n+1⟩) (l:=l) (n:=n+1) (j:=N) (σ0:=[some (.lst l [.int c1, .int x1]),some (.int N),some (.int v)]) (tm0:=[some (.lst l [.int c1, .int x1]),some (.int N)]) (b:=[.int c1, .int x1]) (Bg:=fun b=> ∃c x,b=[.int c, .int x]/\Bg c x) (Q:=fun _ d=> ∃i:Int,d= .int i) (fun _ _ _ _ h=>h)
  (by walk_at "") rfl ⟨by lia,by lia⟩ (by rw[zl];lia) ⟨c1,x1,rfl,b1⟩ (by lia) (by walk_at "") (by walk_at "") (by simp only[List.map_cons,List.map_nil,List.getElem?_cons_zero,List.getElem?_cons_succ,Option.getD_some];walk_at "") (by
   rintro i hi b tm m ⟨c,x,rfl,hb⟩ hm hf
   obtain⟨r,c',x',hs0,hs1,h',e'⟩:=z0j l c x v m hb hv0 hv1
   refine⟨.int r,[.int c', .int x'],m,⟨c',x',rfl,h'⟩,⟨r,rfl⟩,Nat.le_refl _,by simp[labs], ?_⟩
   simp only[List.map_cons,List.map_nil,List.getElem?_cons_zero,List.getElem?_cons_succ,Option.getD_some]
   walk_at ""
   rw[e',z0g rfl rfl rfl (by walk_at "") hf]
   walk_at "")
 rw[g6]
 walk_at ""
 exact⟨ys,c3,x3,n'+1,g1,g2,h3,by lia,rfl⟩
theorem zd0(l:Nat)(c x:Int)(n:Nat)(h:Bg c x)(hn:l<n): ∃ys c' x' n',(1<=ys.length/\ys.length<=4)/\Ints ys/\Bg c' x'/\n<=n'/\z0w [.lst l [.int c, .int x]] n= .ok (.tup ys) [.lst l [.int c', .int x']] n':=by
 unfold z0w z1e
 walk_at ""
 obtain⟨r,c1,x1,hr0,hr1,b1,e1⟩:=z0j l c x 4 (n+1) h (by decide) (by decide)
 rw[e1,z0g rfl rfl rfl (by walk_at "") (by walk_at "";rw[z0E (by lia)];walk_at "")]
 walk_at ""
 rw[z0E (by lia)]
 walk_at ""
 have hv: ∃v:Int,0<v/\v<1000000/\atI [D.int 2,D.int 3,D.int 1000,D.int 1040] r=some (.int v):=by
  have:r=0\/r=1\/r=2\/r=3:=by lia
  rcases this with rfl|rfl|rfl|rfl
  ·exact⟨_,by decide,by decide,at0⟩
  ·exact⟨_,by decide,by decide,at1⟩
  ·exact⟨_,by decide,by decide,at2⟩
  ·exact⟨_,by decide,by decide,at3⟩
 obtain⟨v,hv0,hv1,ev⟩:=hv
 rw[ev]
 walk_at ""
 obtain⟨r',c2,x2,hs0,hs1,h2,e2⟩:=z0j l c1 x1 4 (n+1) b1 (by decide) (by decide)
 obtain⟨ys,b',n',g1,g2,g3,⟨c3,x3,rfl,h3⟩,g5,g6⟩:=z1j (ms:=[mBin (mC (.int 1)) (z06 z01 [mVar 0,mC (.int 4)]) addD]) (me:=z06 z01 [mVar 1,mVar 2]) (N:=(1+r').toNat) (ix:=[0,1]) (s:=⟨[some (.lst l [.int c1, .int x1]),some (.int v)],[some (.lst l [.int c1, .int x1])],n+1⟩) (l:=l) (n:=n+1) (j:=1+r') (σ0:=[some (.lst l [.int c2, .int x2]),some (.int v)]) (tm0:=[some (.lst l [.int c2, .int x2])]) (b:=[.int c2, .int x2]) (Bg:=fun b=> ∃c x,b=[.int c, .int x]/\Bg c x) (Q:=fun _ d=> ∃i:Int,d= .int i) (fun _ _ _ _ h=>h)
  (by
   walk_at ""
   rw[e2,z0g rfl rfl rfl (by walk_at "") (by walk_at "")]
   walk_at "") rfl ⟨by lia,by lia⟩ (by rw[zl];lia) ⟨c2,x2,rfl,h2⟩ (by lia) (by walk_at "") (by walk_at "") (by simp only[List.map_cons,List.map_nil,List.getElem?_cons_zero,List.getElem?_cons_succ,Option.getD_some];walk_at "") (by
   rintro i hi b tm m ⟨c,x,rfl,hb⟩ hm hf
   obtain⟨r,c',x',hs0,hs1,h',e'⟩:=z0j l c x v m hb hv0 hv1
   refine⟨.int r,[.int c', .int x'],m,⟨c',x',rfl,h'⟩,⟨r,rfl⟩,Nat.le_refl _,by simp[labs], ?_⟩
   simp only[List.map_cons,List.map_nil,List.getElem?_cons_zero,List.getElem?_cons_succ,Option.getD_some]
   walk_at ""
   rw[e',z0g rfl rfl rfl (by walk_at "") hf]
   walk_at "")
 rw[g6]
 walk_at ""
 exact⟨ys,c3,x3,n'+1,by lia,g2,h3,by lia,rfl⟩
theorem z37{l:Nat}{d:D}{ts:List D}(h:labsL ts=[]):rpL (pl l d) ts=ts:=by
 have e:=z1I (l:=l) (d:=d) (t:= .tup ts) (by simp only[labs,h];exact List.not_mem_nil)
 simp only[z5I,D.tup.injEq] at e;exact e
noncomputable def cmtM:MS:=sIf (mBoo (mBin (mVar 5) (mVar 1) ltD)) (seqS (sAsg (.nm 5) (mBin (mBin (mVar 5) (mC (.int 1)) addD) (z06 z01 [(mVar 0),(mCB [(mVar 3),(mBin (mVar 1) (mVar 5) subD)] minD)]) addD))
 (z2c (z1Q (mVar 4) [(mCB [(mVar 5),(z06 z0w [(mVar 0)]),(z06 z01 [(mVar 0),(mC (.int 9))]),(z06 z01 [(mVar 0),(mC (.int 100000))])] tupD)] appD))) sNx
theorem zd1(l:Nat)(c x N:Int)(n:Nat)(h:Bg c x)(hn:l<n)(h0:0<N)(h1:N<=24): ∃(q:Cm) (c' x':Int) (n':Nat),q.ok/\Bg c' x'/\n<=n'/\z1i [.lst l [.int c, .int x], .int N] n= .ok q.d [.lst l [.int c', .int x'], .int N] n':=by
 unfold z1i
 have e0:z2j=(seqS (sAsg (.nm 2) (z06 z1h [(mVar 0),(mVar 1)]))
  (seqS (sAsg (.nm 3) (mBin (mCB [(mVar 1),(mC (.int 2))] lstM) (z06 z01 [(mVar 0),(mC (.int 2))]) ixD))
  (seqS (sAsg (.nm 4) (mCB [] lstM))
  (seqS (sAsg (.nm 5) (mC (.int 0)))
  (seqS (sFor (z0H [(mVar 1)]) (.nm 6) cmtM)
  (sRet (mCB [(mVar 2),(mCB [(mVar 4)] tupF),(mBin (z06 z01 [(mVar 0),(mC (.int 2))]) (mC (.int 1)) eqD)] tupD))))))):=rfl
 rw[e0]
 walk_at ""
 obtain⟨ys,c1,x1,n1,ly,iy,b1,g1,e1⟩:=zcZ l c x N n h hn (by lia) (by lia)
 rw[e1,z0g rfl rfl rfl (by walk_at "") (by walk_at "")]
 have hy: ∀k d,rpL (pl k d) ys=ys:=fun k d=>z37 (z26 iy)
 walk_at ""
 obtain⟨r,c2,x2,hr0,hr1,b2,e2⟩:=z0j l c1 x1 2 (n1+1) b1 (by decide) (by decide)
 rw[e2,z0g rfl rfl rfl (by walk_at "";simp only[hy]) (by walk_at "";rw[z0E (by lia)];walk_at "")]
 walk_at ""
 rw[z0E (by lia)]
 walk_at ""
 simp only[hy]
 have hv: ∃v:Int,0<v/\v<1000000/\atI [D.int N,D.int 2] r=some (.int v):=by
  have:r=0\/r=1:=by lia
  rcases this with rfl|rfl
  ·exact⟨_,by lia,by lia,at0⟩
  ·exact⟨_,by decide,by decide,at1⟩
 obtain⟨v,hv0,hv1,ev⟩:=hv
 rw[ev]
 walk_at ""
 rw[z2Z ⟨by lia,by lia⟩]
 walk_at ""
 obtain⟨s',e3,c3,x3,cs,p,o,n3,rfl,b3,hp0,hp1,lc,tc,⟨_,hc1⟩,hn3,ho⟩:=z2l (P:=fun i s=> ∃(c x:Int) (cs:List Pz) (p:Int) (o:Option D) (n:Nat),s=⟨[some (.lst l [.int c, .int x]),some (.int N),some (.tup ys),some (.int v),some (.lst (n1+1) (psD cs)),some (.int p),o],[some (.lst l [.int c, .int x]),some (.int N)],n⟩/\Bg c x/\0<=p/\p<=N/\cs.length<=i/\(∀p∈cs,1<=p.ss.length/\p.ss.length<=4)/\((i=0->p=0)/\(0<i->1<=cs.length))/\n1+1<n/\∀k d,o.map (rp (pl k d))=o) (lo:=0) (N:=N.toNat) (g:= .nm 6) (b:=cmtM) (by
  rintro i hi s ⟨c,x,cs,p,o,n,rfl,hb,hp0,hp1,lc,tc,⟨hi0,hi1⟩,hn',ho⟩
  have hcs: ∀k d,rpL (pl k d) (psD cs)=psD cs:=fun k d=>rL_p _ cs
  have hlc: ∀d,rp (pl l d) (.lst (n1+1) (psD cs))= .lst (n1+1) (psD cs):=fun d=>by rw[z0E (by lia),hcs]
  have hbg: ∀d c x,rp (pl (n1+1) d) (.lst l [.int c, .int x])= .lst l [.int c, .int x]:=fun d c x=>by rw[z0E (by lia)];walk_at ""
  refine⟨[some (.lst l [.int c, .int x]),some (.int N),some (.tup ys),some (.int v),some (.lst (n1+1) (psD cs)),some (.int p),some (.int i)],by simp only[Int.zero_add];rfl, ?_⟩
  unfold cmtM
  walk_at ""
  by_cases hp:p<N
  ·simp only[hp,decide_true]
   walk_at ""
   obtain⟨r,c1,x1,hr0,hr1,b1,e1⟩:=z0j l c x (if N -p<v then N -p else v) n hb (by split<;>lia) (by split<;>lia)
   rw[e1,z0g rfl rfl rfl (by walk_at "";simp only[hy,hlc]) (by walk_at "")]
   walk_at ""
   simp only[hy,hlc]
   walk_at ""
   simp only[hlc]
   try (walk_at "")
   have hr2:p+1+r<=N:=by split at hr1<;>lia
   obtain⟨zs,c2,x2,n2,lz,iz,b2,g2,e2⟩:=zd0 l c1 x1 n b1 (by lia)
   have hz: ∀k d,rpL (pl k d) zs=zs:=fun k d=>z37 (z26 iz)
   rw[e2,z0g rfl rfl rfl (by walk_at "";simp only[hy,hlc]) (by walk_at "";simp only[hy,hlc])]
   walk_at ""
   simp only[hy,hlc]
   obtain⟨k,c3,x3,hk0,hk1,b3,e3⟩:=z0j l c2 x2 9 n2 b2 (by decide) (by decide)
   rw[e3,z0g rfl rfl rfl (by walk_at "";simp only[hy,hlc]) (by walk_at "";simp only[hy,hlc,hz])]
   walk_at ""
   simp only[hy,hlc,hz]
   obtain⟨w,c4,x4,hw0,hw1,b4,e4⟩:=z0j l c3 x3 100000 n2 b3 (by decide) (by decide)
   rw[e4,z0g rfl rfl rfl (by walk_at "";simp only[hy,hlc]) (by walk_at "";simp only[hy,hlc,hz])]
   walk_at ""
   simp only[hy,hlc,hz]
   try (walk_at "")
   obtain⟨zs,rfl⟩:=z3T iz
   rw[z7K ⟨by rw[zl,z5J];lia,by simp only[labs,labsL,z26 iz,List.append_nil];exact List.not_mem_nil⟩]
   walk_at ""
   simp only[hy,hbg,hz]
   refine⟨_,rfl,c4,x4,cs++[⟨p+1+r,zs,k,w⟩],p+1+r,some (.int i),n2,by simp[psD,Pz.d],b4,by lia,hr2,by simp only[List.length_append,List.length_cons,List.length_nil];lia, ?_,⟨fun h=>by lia,fun _=>by simp⟩,by lia,fun _ _=>rfl⟩
   intro q hq
   rcases List.mem_append.mp hq with hq|hq
   ·exact tc q hq
   ·rw[List.mem_singleton.mp hq]
    simpa[iL] using lz
  ·simp only[hp,decide_false]
   walk_at ""
   exact⟨_,rfl,c,x,cs,p,_,n,rfl,hb,hp0,hp1,by lia,tc,⟨fun h=>by lia,fun _=>by
    rcases Nat.eq_zero_or_pos i with z|z
    ·have:=hi0 z;lia
    ·exact hi1 z⟩,hn',fun _ _=>rfl⟩) N.toNat 0 ⟨[some (.lst l [.int c2, .int x2]),some (.int N),some (.tup ys),some (.int v),some (.lst (n1+1) (psD [])),some (.int 0),none],[some (.lst l [.int c2, .int x2]),some (.int N)],n1+1+1⟩ (by lia) ⟨c2,x2,[],0,none,n1+1+1,rfl,b2,by lia,by lia,by simp,(fun _ h=>nomatch h),⟨fun _=>rfl,fun h=>absurd h (Nat.lt_irrefl _)⟩,by lia,fun _ _=>rfl⟩
 rw[show psD []=[] from rfl] at e3
 rw[e3]
 have hcs: ∀k d,rpL (pl k d) (psD cs)=psD cs:=fun k d=>rL_p _ cs
 have hlc: ∀d,rp (pl l d) (.lst (n1+1) (psD cs))= .lst (n1+1) (psD cs):=fun d=>by rw[z0E (by lia),hcs]
 walk_at ""
 obtain⟨w,c4,x4,hw0,hw1,b4,e4⟩:=z0j l c3 x3 2 n3 b3 (by decide) (by decide)
 rw[e4,z0g rfl rfl rfl (by walk_at "";simp only[hy,hlc,ho]) (by walk_at "";simp only[hy,hlc,hcs])]
 walk_at ""
 simp only[hy,hlc,hcs]
 obtain⟨S,rfl⟩:=z3T iy
 have lS:(iL S).length=S.length:=by simp[iL]
 have q1:S.length<=24:=by lia
 have q2:cs.length<=24:=by lia
 exact⟨⟨S,cs,w==1⟩,c4,x4,n3,⟨q1,hc1 (by lia),q2,fun p hp=>⟨(tc p hp).1,by have:=(tc p hp).2;lia⟩⟩,b4,by lia,rfl⟩
theorem z96{c:Cm}(h:c.ok):Tr c.d=true/\(er c.d).depth<=4:=z3r (by simp) (List.forall_mem_cons.mpr ⟨zcO h.s24,List.forall_mem_cons.mpr ⟨z3r (by rw[z5J];have:=h.c24;lia) (fun e he=>by
 obtain⟨p,hp,rfl⟩:=List.mem_map.mp he
 exact z3r (by simp) (List.forall_mem_cons.mpr ⟨z35,List.forall_mem_cons.mpr ⟨zcO (Nat.le_trans (h.ss1 p hp).2 (by decide)),List.forall_mem_cons.mpr ⟨z35,List.forall_mem_cons.mpr ⟨z35,fun _ h=>nomatch h⟩⟩⟩⟩)),List.forall_mem_cons.mpr ⟨zb0,fun _ h=>nomatch h⟩⟩⟩)
theorem zb4{cs:List Cm}(hc: ∀c∈cs,c.ok)(hz:cs.length<=60){l:Nat}:Gd (.lst l (csD cs))/\(er (.lst l (csD cs))).depth<=60:=by
 have r:=z9v (n:=0) (k:=4) (l:=l) (Nat.zero_le _) (show(csD cs).length<=2000 by rw[z1k];lia) fun d hd=>by
  obtain⟨c,hc',rfl⟩:=List.mem_map.mp hd
  exact⟨z5a _ (z96 (hc c hc')).1,(z96 (hc c hc')).2⟩
 exact⟨z7O _ r.1,by have:=r.2;lia⟩
theorem z7Z: ∀{ys:List D},(∀y∈ys,∃q:Cm,q.ok/\y=q.d)->∃cs:List Cm,(∀c∈cs,c.ok)/\ys=csD cs
 |[],_=>⟨[],(fun _ h=>nomatch h),rfl⟩
 |y::ys,h=>by
  obtain⟨q,h1,rfl⟩:=h y (by simp)
  obtain⟨cs,h2,rfl⟩:=z7Z (ys:=ys) fun z hz=>h z (by simp[hz])
  exact⟨q::cs,fun c hc=>(List.mem_cons.mp hc).elim (fun e=>e▸h1) (h2 c),rfl⟩
theorem z80(q:Cm)(h:q.ok):labs q.d=[]:=z34 _ (z96 h).1
theorem atI2{a b:Int}{t:Bool}:atI [D.int a,D.int b] (if t=true then 1 else 0)=some (.int (if t=true then b else a)):=by
 cases t
 ·exact at0
 ·exact at1
theorem zb5(l:Nat)(c x:Int)(n:Nat)(h:Bg c x)(hn:l<n): ∃(cs:List Cm) (c' x':Int) (L n':Nat),cs.length<=60/\(∀q∈cs,q.ok)/\Bg c' x'/\n<=L/\L<n'/\z0V [.lst l [.int c, .int x]] n= .ok (.lst L (csD cs)) [.lst l [.int c', .int x']] n':=by
 unfold z0V z1T
 walk_at ""
 obtain⟨r,c1,x1,r0,r1,b1,e1⟩:=z0j l c x 7 n h (by decide) (by decide)
 rw[e1,z0h rfl rfl rfl (fun q=>by walk_at "";rfl) (fun q=>by walk_at "";rfl)]
 walk_at ""
 obtain⟨r2,c2,x2,s0,s1,b2,e2⟩:=z0j l c1 x1 8 (n+1) b1 (by decide) (by decide)
 have fl: ∀d (u w:Int),rp (pl l d) (.lst n [.int u, .int w])= .lst n [.int u, .int w]:=fun d u w=>by rw[z0E (by lia)];rfl
 rw[e2,z0h rfl rfl rfl (fun q=>by walk_at "";rfl) (fun q=>by walk_at "";simp only[fl];rfl)]
 walk_at ""
 rw[atI2]
 walk_at ""
 generalize hN:(if(r2==5)=true then(60:Int) else r)=N
 have N0:0<=N/\N<=60:=by split at hN<;>lia
 obtain⟨ys,b',n',g1,g2,g3,⟨c3,x3,rfl,h3⟩,g5,g6⟩:=z1j (ms:=[mVar 1]) (me:=z06 z1i [(mVar 1),(mBin (mCB [(mBin (mC (.int 1)) (z06 z01 [(mVar 1),(mC (.int 7))]) addD),(mC (.int 24))] lstM) (mCB [(mBin (z06 z01 [(mVar 1),(mC (.int 8))]) (mC (.int 5)) eqD)] intD) ixD)]) (N:=N.toNat) (ix:=[0]) (s:=⟨[some (.lst l [.int c2, .int x2]),some (.int N)],[some (.lst l [.int c2, .int x2])],n+1⟩) (l:=l) (n:=n+1) (j:=N) (σ0:=[some (.lst l [.int c2, .int x2]),some (.int N)]) (tm0:=[some (.lst l [.int c2, .int x2])]) (b:=[.int c2, .int x2]) (Bg:=fun b=> ∃c x,b=[.int c, .int x]/\Bg c x) (Q:=fun _ d=> ∃q:Cm,q.ok/\d=q.d) (fun _ _ _ _ h=>h)
  (by walk_at "") rfl ⟨by lia,by lia⟩ (by rw[zl];lia) ⟨c2,x2,rfl,b2⟩ (by lia) (by walk_at "") (by walk_at "") (by simp only[List.map_cons,List.map_nil,List.getElem?_cons_zero,List.getElem?_cons_succ,Option.getD_some];walk_at "") (by
   rintro i hi b tm m ⟨c,x,rfl,hb⟩ hm hf
   obtain⟨r,c1,x1,r0,r1,b1,e1⟩:=z0j l c x 7 m hb (by decide) (by decide)
   obtain⟨r2,c2,x2,s0,s1,b2,e2⟩:=z0j l c1 x1 8 (m+1) b1 (by decide) (by decide)
   generalize hV:(if(r2==5)=true then(24:Int) else 1+r)=V
   have V0:0<V/\V<=24:=by split at hV<;>lia
   obtain⟨q,c4,x4,n4,qo,b4,h4,e4⟩:=zd1 l c2 x2 V (m+1) b2 (by lia) V0.1 V0.2
   refine⟨q.d,[.int c4, .int x4],n4,⟨c4,x4,rfl,b4⟩,⟨q,qo,rfl⟩,by lia,by rw[z80 q qo];exact List.not_mem_nil, ?_⟩
   simp only[List.map_cons,List.map_nil,List.getElem?_cons_zero,List.getElem?_cons_succ,Option.getD_some]
   have fm: ∀d (u w:Int),rp (pl l d) (.lst m [.int u, .int w])= .lst m [.int u, .int w]:=fun d u w=>by rw[z0E (by lia)];rfl
   walk_at ""
   rw[e1,z0h (σ1:=fun q=>[some (.int (i:Int)),some q]) (tm1:=fun q=>some (.int 1)::some q::rpO (pl l q) tm) rfl rfl rfl (fun q=>by walk_at "") (fun q=>by walk_at "") rfl (by rw[hf])]
   walk_at ""
   rw[e2,z0h (σ1:=fun q=>[some (.int (i:Int)),some q]) (tm1:=fun q=>some (.lst m [.int (1+r), .int 24])::some q::rpO (pl l q) tm) rfl rfl rfl (fun q=>by walk_at "") (fun q=>by walk_at "";simp only[fm];rw[z30]) rfl rfl]
   walk_at ""
   rw[atI2]
   walk_at ""
   rw[hV,e4,z0h (σ1:=fun q=>[some (.int (i:Int)),some q]) (tm1:=fun q=>rpO (pl l q) tm) rfl rfl rfl (fun q=>by walk_at "") (fun q=>by rw[z30]) rfl rfl])
 rw[g6]
 walk_at ""
 obtain⟨cs,h4,rfl⟩:=z7Z g2
 exact⟨cs,c3,x3,n',n'+1,by rw[z1k] at g1;lia,h4,h3,by lia,by lia,rfl⟩
noncomputable def gsD(gs:List (Nat×List Int)):List D:=gs.map fun g=> .lst g.1 (iL g.2)
theorem zd2{gs:List (Nat×List Int)}:(gsD gs).length=gs.length:=by simp[gsD]
theorem zd3{k:Nat}{d:D}: ∀{gs:List (Nat×List Int)},(∀g∈gs,g.1≠k)->rpL (pl k d) (gsD gs)=gsD gs
 |[],_=>rfl
 |g::gs,h=>by
  have ih:=zd3 (d:=d) (gs:=gs) fun z hz=>h z (by simp[hz])
  simp only[gsD,List.map_cons,z1q] at ih⊢
  rw[ih,z0E (h g (by simp)),rL_i]
theorem z97{k L:Nat}{d:D}{gs:List (Nat×List Int)}(hL:L≠k)(h: ∀g∈gs,g.1≠k):rp (pl k d) (.lst L (gsD gs))= .lst L (gsD gs):=by rw[z0E hL,zd3 h]
noncomputable def upG(k:Nat)(s:List Int)(gs:List (Nat×List Int)):List (Nat×List Int):=gs.map fun g=>if g.1=k then(k,s) else g
theorem zd4{k:Nat}{s:List Int}: ∀{gs:List (Nat×List Int)},rpL (pl k (.lst k (iL s))) (gsD gs)=gsD (upG k s gs)
 |[]=>rfl
 |g::gs=>by
  have ih:=zd4 (k:=k) (s:=s) (gs:=gs)
  simp only[gsD,upG,List.map_cons,z1q] at ih⊢
  rw[ih]
  by_cases e:g.1=k
  ·rw[if_pos e,e,z4z]
  ·rw[if_neg e,z0E e,rL_i]
theorem zes{k L:Nat}{s:List Int}{gs:List (Nat×List Int)}(hL:L≠k):rp (pl k (.lst k (iL s))) (.lst L (gsD gs))= .lst L (gsD (upG k s gs)):=by rw[z0E hL,zd4]
theorem zd5{gs:List (Nat×List Int)}{r:Int}(h0:0<=r)(h1:r<gs.length): ∃g∈gs,atI (gsD gs) r=some (.lst g.1 (iL g.2)):=by
 have hl:r.toNat<gs.length:=by lia
 refine⟨gs[r.toNat],List.getElem_mem hl,z3q h0 ?_⟩
 simp[gsD,hl]
theorem zd6{l m:Nat}: ∀{ys:List D},(∀y∈ys,∃(k:Nat) (i:Int),l<k/\k<m/\y= .lst k [.int i])->∃gs:List (Nat×List Int),(∀g∈gs,l<g.1/\g.1<m/\1<=g.2.length/\g.2.length<=1)/\ys=gsD gs
 |[],_=>⟨[],(fun _ h=>nomatch h),rfl⟩
 |y::ys,h=>by
  obtain⟨k,i,h1,h2,rfl⟩:=h y (by simp)
  obtain⟨gs,h3,rfl⟩:=zd6 (ys:=ys) fun z hz=>h z (by simp[hz])
  refine⟨(k,[i])::gs,fun g hg=> ?_,rfl⟩
  rcases List.mem_cons.mp hg with rfl|hg
  ·exact⟨h1,h2,Nat.le_refl _,Nat.le_refl _⟩
  ·exact h3 g hg
noncomputable def addM:MS:=z2c (z1Q (mBin (mVar 3) (z06 z01 [(mVar 0),(mVar 1)]) ixD) [(mBin (mCB [(mC (.int 0)),(mC (.int 999)),(mC (.int 999)),(mC (.int 1000))] lstM) (z06 z01 [(mVar 0),(mC (.int 4))]) ixD)] appD)
theorem zd7(l L:Nat)(c x N:Int)(a2:D)(gs:List (Nat×List Int))(i:Int)(b n:Nat)(h:Bg c x)(hl:l<L)(hn:L<n)(h0:0<N)(h1:N<=5)(hg:gs.length=N.toNat)(hgs: ∀g∈gs,l<g.1/\g.1<L/\1<=g.2.length/\g.2.length<=b)(hb:b<=100)(ha: ∀k d,rp (pl k d) a2=a2):
 ∃(c' x':Int) (gs':List (Nat×List Int)) (n':Nat),Bg c' x'/\gs'.length=N.toNat/\(∀g∈gs',l<g.1/\g.1<L/\1<=g.2.length/\g.2.length<=b+1)/\n<=n'/\addM ⟨[some (.lst l [.int c, .int x]),some (.int N),some a2,some (.lst L (gsD gs)),some (.int i),none,none,none,none],[some (.lst l [.int c, .int x])],n⟩= .nx ⟨[some (.lst l [.int c', .int x']),some (.int N),some a2,some (.lst L (gsD gs')),some (.int i),none,none,none,none],[some (.lst l [.int c', .int x'])],n'⟩:=by
 have fg: ∀d,rp (pl l d) (.lst L (gsD gs))= .lst L (gsD gs):=fun d=>z97 (by lia) fun g h=>by have:=hgs g h;lia
 unfold addM
 walk_at ""
 obtain⟨r,c1,x1,r0,r1,b1,e1⟩:=z0j l c x N n h h0 (by lia)
 rw[e1,z0h rfl rfl rfl (fun q=>by walk_at "";simp only[fg,ha];rfl) (fun q=>by walk_at "";simp only[fg];rfl)]
 walk_at ""
 obtain⟨g,gm,eg⟩:=zd5 (gs:=gs) r0 (by lia)
 obtain⟨g1,g2,g3,g4⟩:=hgs g gm
 rw[eg]
 walk_at ""
 have fl: ∀d,rp (pl l d) (.lst n [.int 0, .int 999, .int 999, .int 1000])= .lst n [.int 0, .int 999, .int 999, .int 1000]:=fun d=>by rw[z0E (by lia)];rfl
 have fk: ∀d,rp (pl l d) (.lst g.1 (iL g.2))= .lst g.1 (iL g.2):=fun d=>by rw[z0E (by lia),rL_i]
 obtain⟨r2,c2,x2,s0,s1,b2,e2⟩:=z0j l c1 x1 4 (n+1) b1 (by decide) (by decide)
 rw[e2,z0h rfl rfl rfl (fun q=>by walk_at "";simp only[fg,ha];rfl) (fun q=>by walk_at "";simp only[fl,fk];rfl)]
 walk_at ""
 have hv: ∃v:Int,atI [D.int 0,D.int 999,D.int 999,D.int 1000] r2=some (.int v):=by
  have:r2=0\/r2=1\/r2=2\/r2=3:=by lia
  rcases this with rfl|rfl|rfl|rfl
  ·exact⟨_,at0⟩
  ·exact⟨_,at1⟩
  ·exact⟨_,at2⟩
  ·exact⟨_,at3⟩
 obtain⟨v,ev⟩:=hv
 rw[ev]
 walk_at ""
 rw[z7K ⟨by rw[zl];simp only[iL,List.length_map];lia,by simp only[labs];exact List.not_mem_nil⟩,show iL g.2++[D.int v]=iL (g.2++[v]) by simp[iL]]
 have fb: ∀d (c x:Int),rp (pl g.1 d) (.lst l [.int c, .int x])= .lst l [.int c, .int x]:=fun d c x=>by rw[z0E (by lia)];rfl
 have fu:rp (pl g.1 (.lst g.1 (iL (g.2++[v])))) (.lst L (gsD gs))= .lst L (gsD (upG g.1 (g.2++[v]) gs)):=zes (by lia)
 walk_at ""
 simp only[fb,fu,ha]
 refine⟨c2,x2,upG g.1 (g.2++[v]) gs,n+1,b2,by simp[upG,hg],fun z hz=> ?_,by lia,rfl⟩
 obtain⟨w,hw,rfl⟩:=List.mem_map.mp hz
 by_cases e:w.1=g.1
 ·rw[if_pos e]
  simp only[List.length_append,List.length_cons,List.length_nil]
  lia
 ·rw[if_neg e]
  have:=hgs w hw
  lia
noncomputable def cutM:MS:=(seqS (sAsg (.nm 8) (mBin (mCB [(mBin (mVar 7) (mC (.int 1)) addD),(mVar 5)] lstM) (mCB [(mBin (mVar 7) (mBin (mVar 1) (mC (.int 1)) subD) eqD)] intD) ixD))
 (z2c (z1Q (mVar 6) [(mCB [(mVar 8),(mCB [(mBin (mVar 3) (mVar 7) ixD)] tupF),(mBin (mCB [(mC (.int 7)),(mC (.int 0)),(mC (.int 8))] lstM) (z06 z01 [(mVar 0),(mC (.int 3))]) ixD),(mC (.int 5))] tupD)] appD)))
theorem zb6(l L Lc:Nat)(c x N far:Int)(a2:D)(a4 o8:Option D)(gs:List (Nat×List Int))(cs:List Pz)(i b n:Nat)(h:Bg c x)(hl:l<L)(hLc:L<Lc)(hn:Lc<n)(h1:N<=5)(hi:i<N)(hg:gs.length=N.toNat)(hgs: ∀g∈gs,l<g.1/\g.1<L/\1<=g.2.length/\g.2.length<=b)(hf0:0<=far)(hf1:far<=7)(hc:cs.length<=i)(ha: ∀k d,rp (pl k d) a2=a2)(ha4: ∀k d,a4.map (rp (pl k d))=a4)(ha8: ∀k d,o8.map (rp (pl k d))=o8):
 ∃(c' x':Int) (q:Pz) (o8':Option D) (n':Nat),Bg c' x'/\(1<=q.ss.length/\q.ss.length<=b)/\n<=n'/\(∀k d,o8'.map (rp (pl k d))=o8')/\cutM ⟨[some (.lst l [.int c, .int x]),some (.int N),some a2,some (.lst L (gsD gs)),a4,some (.int far),some (.lst Lc (psD cs)),some (.int i),o8],[some (.lst l [.int c, .int x])],n⟩= .nx ⟨[some (.lst l [.int c', .int x']),some (.int N),some a2,some (.lst L (gsD gs)),a4,some (.int far),some (.lst Lc (psD (cs++[q]))),some (.int i),o8'],[some (.lst l [.int c', .int x'])],n'⟩:=by
 have fg: ∀d,rp (pl l d) (.lst L (gsD gs))= .lst L (gsD gs):=fun d=>z97 (by lia) fun g h=>by have:=hgs g h;lia
 have fgc: ∀d,rp (pl Lc d) (.lst L (gsD gs))= .lst L (gsD gs):=fun d=>z97 (by lia) fun g h=>by have:=hgs g h;lia
 have fc: ∀d,rp (pl l d) (.lst Lc (psD cs))= .lst Lc (psD cs):=fun d=>by rw[z0E (by lia),rL_p]
 have fb: ∀d (c x:Int),rp (pl Lc d) (.lst l [.int c, .int x])= .lst l [.int c, .int x]:=fun d c x=>by rw[z0E (by lia)];rfl
 unfold cutM
 walk_at ""
 rw[atI2]
 walk_at ""
 generalize hV:(if((i:Int)==N - 1)=true then far else(i:Int)+1)=V
 obtain⟨g,gm,eg⟩:=zd5 (gs:=gs) (r:=(i:Int)) (by lia) (by lia)
 obtain⟨g1,g2,g3,g4⟩:=hgs g gm
 rw[eg]
 walk_at ""
 have fm: ∀d,rp (pl l d) (.lst (n+1) [.int 7, .int 0, .int 8])= .lst (n+1) [.int 7, .int 0, .int 8]:=fun d=>by rw[z0E (by lia)];rfl
 obtain⟨r,c1,x1,r0,r1,b1,e1⟩:=z0j l c x 3 (n+1+1) h (by decide) (by decide)
 rw[e1,z0h rfl rfl rfl (fun q=>by walk_at "";simp only[fg,fc,ha,ha4];rfl) (fun q=>by walk_at "";simp only[fm,fc,rL_i];rfl)]
 walk_at ""
 have hv: ∃v:Int,atI [D.int 7,D.int 0,D.int 8] r=some (.int v):=by
  have:r=0\/r=1\/r=2:=by lia
  rcases this with rfl|rfl|rfl
  ·exact⟨_,at0⟩
  ·exact⟨_,at1⟩
  ·exact⟨_,at2⟩
 obtain⟨v,ev⟩:=hv
 rw[ev]
 walk_at ""
 rw[z7K ⟨by rw[zl,z5J];lia,by simp only[labs,labsL,z7Y,List.append_nil];exact List.not_mem_nil⟩]
 walk_at ""
 simp only[fb,fgc,ha,ha4]
 exact⟨c1,x1,⟨V,g.2,v,5⟩,some (.int V),n+1+1,b1,⟨g3,g4⟩,by lia,(fun _ _=>rfl),by simp[psD,Pz.d]⟩
theorem zd8{N r:Int}(h0:1<=N)(h1:N<=5)(r0:0<=r)(r1:r<3): ∃far:Int,1<=far/\far<=7/\atI [D.int N,D.int (if(6:Int)>N then 6 else N),D.int 7] r=some (.int far):=by
 have:r=0\/r=1\/r=2:=by lia
 rcases this with rfl|rfl|rfl
 ·exact⟨N,h0,by lia,at0⟩
 ·exact⟨_,by split<;>lia,by split<;>lia,at1⟩
 ·exact⟨7,by decide,by decide,at2⟩
theorem zb7(l:Nat)(c x:Int)(n:Nat)(h:Bg c x)(hn:l<n): ∃(q:Cm) (c' x':Int) (n':Nat),q.ok/\Bg c' x'/\n<=n'/\z1H [.lst l [.int c, .int x]] n= .ok q.d [.lst l [.int c', .int x']] n':=by
 unfold z1H
 have e0:z3O=(seqS (sAsg (.nm 1) (mBin (mC (.int 1)) (z06 z01 [(mVar 0),(mC (.int 5))]) addD))
  (seqS (sAsg (.nm 2) (z06 z01 [(mVar 0),(mC (.int 3))]))
  (seqS (sAsg (.nm 3) (z0I (z0H [(mVar 1)]) (.nm 0) (rt true) (mCB [(z06 z01 [(mVar 1),(mC (.int 3))])] lstM) 1 [0]))
  (seqS (sFor (z0H [(mVar 2)]) (.nm 4) addM)
  (seqS (sAsg (.nm 5) (mBin (mCB [(mVar 1),(mCB [(mVar 1),(mC (.int 6))] maxD),(mC (.int 7))] lstM) (z06 z01 [(mVar 0),(mC (.int 3))]) ixD))
  (seqS (sAsg (.nm 6) (mCB [] lstM))
  (seqS (sFor (z0H [(mVar 1)]) (.nm 7) cutM)
  (sRet (mCB [(mCB [(z0I (z0H [(mVar 5)]) (.nm 0) (rt true) (z06 z01 [(mVar 1),(mC (.int 2))]) 1 [0])] tupF),(mCB [(mVar 6)] tupF),(mBin (z06 z01 [(mVar 0),(mC (.int 4))]) (mC (.int 0)) gtD)] tupD))))))))):=rfl
 rw[e0]
 walk_at ""
 obtain⟨p,c1,x1,p0,p1,b1,e1⟩:=z0j l c x 5 n h (by decide) (by decide)
 rw[e1,z0h rfl rfl rfl (fun q=>by walk_at "";rfl) (fun q=>by walk_at "";rfl)]
 walk_at ""
 obtain⟨mo,c2,x2,m0,m1,b2,e2⟩:=z0j l c1 x1 3 n b1 (by decide) (by decide)
 rw[e2,z0h rfl rfl rfl (fun q=>by walk_at "";rfl) (fun q=>by walk_at "";rfl)]
 walk_at ""
 generalize hN:(1:Int)+p=N
 have N0:1<=N/\N<=5:=by lia
 obtain⟨ys,b',n1,g1,g2,g3,⟨c3,x3,rfl,b3⟩,g5,g6⟩:=z1j (ms:=[mVar 1]) (me:=mCB [(z06 z01 [(mVar 1),(mC (.int 3))])] lstM) (N:=N.toNat) (ix:=[0]) (s:=⟨[some (.lst l [.int c2, .int x2]),some (.int N),some (.int mo),none,none,none,none,none,none],[some (.lst l [.int c2, .int x2])],n⟩) (l:=l) (n:=n) (j:=N) (σ0:=[some (.lst l [.int c2, .int x2]),some (.int N),some (.int mo),none,none,none,none,none,none]) (tm0:=[some (.lst l [.int c2, .int x2])]) (b:=[.int c2, .int x2]) (Bg:=fun b=> ∃c x,b=[.int c, .int x]/\Bg c x) (Q:=fun m y=> ∃(k:Nat) (i:Int),l<k/\k<m/\y= .lst k [.int i]) (by rintro a b hab y ⟨k,i,h1,h2,e⟩;exact⟨k,i,h1,by lia,e⟩)
  (by walk_at "") rfl ⟨by lia,by lia⟩ (by rw[zl];lia) ⟨c2,x2,rfl,b2⟩ hn (by walk_at "") (by walk_at "") (by simp only[List.map_cons,List.map_nil,List.getElem?_cons_zero,List.getElem?_cons_succ,Option.getD_some];walk_at "") (by
   rintro i hi b tm m ⟨c,x,rfl,hb⟩ hm hf
   obtain⟨r,c',x',hs0,hs1,h',e'⟩:=z0j l c x 3 m hb (by decide) (by decide)
   refine⟨.lst m [.int r],[.int c', .int x'],m+1,⟨c',x',rfl,h'⟩,⟨m,r,hm,by lia,rfl⟩,by lia,by simp only[labs,labsL,List.append_nil,List.mem_singleton];lia, ?_⟩
   simp only[List.map_cons,List.map_nil,List.getElem?_cons_zero,List.getElem?_cons_succ,Option.getD_some]
   walk_at ""
   rw[e',z0g rfl rfl rfl (by walk_at "") hf]
   walk_at "")
 rw[g6]
 walk_at ""
 obtain⟨gs,hgs,rfl⟩:=zd6 g2
 rw[zd2] at g1
 rw[z2Z ⟨by lia,by lia⟩]
 walk_at ""
 obtain⟨s',e3,c4,x4,gs',o4,n2,rfl,b4,hg4,hgs4,hn2,ho4⟩:=z2l (P:=fun i s=> ∃(c x:Int) (gs:List (Nat×List Int)) (o:Option D) (n:Nat),s=⟨[some (.lst l [.int c, .int x]),some (.int N),some (.int mo),some (.lst n1 (gsD gs)),o,none,none,none,none],[some (.lst l [.int c, .int x])],n⟩/\Bg c x/\gs.length=N.toNat/\(∀g∈gs,l<g.1/\g.1<n1/\1<=g.2.length/\g.2.length<=1+i)/\n1<n/\(o=none\/∃i:Int,o=some (.int i))) (lo:=0) (N:=mo.toNat) (g:= .nm 4) (b:=addM) (by
  rintro i hi s ⟨c,x,gs,o,n,rfl,hb,hl,hg,hn',ho⟩
  refine⟨[some (.lst l [.int c, .int x]),some (.int N),some (.int mo),some (.lst n1 (gsD gs)),some (.int i),none,none,none,none],by simp only[Int.zero_add];rfl, ?_⟩
  obtain⟨c',x',gs',n',q1,q2,q3,q4,q5⟩:=zd7 l n1 c x N (.int mo) gs i (1+i) n hb (by lia) hn' (by lia) (by lia) hl hg (by lia) (fun _ _=>rfl)
  exact⟨_,q5,c',x',gs',_,n',rfl,q1,q2,q3,by lia,Or.inr ⟨_,rfl⟩⟩) mo.toNat 0 ⟨[some (.lst l [.int c3, .int x3]),some (.int N),some (.int mo),some (.lst n1 (gsD gs)),none,none,none,none,none],[some (.lst l [.int c3, .int x3])],n1+1⟩ (by lia) ⟨c3,x3,gs,none,n1+1,rfl,b3,g1,hgs,by lia,Or.inl rfl⟩
 rw[e3]
 walk_at ""
 have fg: ∀d,rp (pl l d) (.lst n1 (gsD gs'))= .lst n1 (gsD gs'):=fun d=>z97 (by lia) fun g h=>by have:=hgs4 g h;lia
 have f4: ∀k d,o4.map (rp (pl k d))=o4:=fun k d=>by
  rcases ho4 with rfl|⟨i,rfl⟩<;>rfl
 have f5: ∀(k:Nat) (u w N:Int) d,k≠l->rp (pl l d) (.lst k [.int u, .int w, .int N])= .lst k [.int u, .int w, .int N]:=fun k u w N d h=>by rw[z0E h];rfl
 obtain⟨r5,c5,x5,t0,t1,b5,e5⟩:=z0j l c4 x4 3 (n2+1) b4 (by decide) (by decide)
 rw[e5,z0h rfl rfl rfl (fun q=>by walk_at "";simp only[fg,f4];rfl) (fun q=>by walk_at "";simp only[f5 _ _ _ _ _ (show n2≠l by lia)];rfl)]
 walk_at ""
 obtain⟨far,far0,far1,ef⟩:=zd8 N0.1 N0.2 t0 t1
 rw[ef]
 walk_at ""
 rw[z2Z ⟨by lia,by lia⟩]
 walk_at ""
 obtain⟨s',e6,c6,x6,cs,o7,o8,n3,rfl,b6,lc,tc,hn3,ho7,ho8⟩:=z2l (P:=fun i s=> ∃(c x:Int) (cs:List Pz) (o7 o8:Option D) (n:Nat),s=⟨[some (.lst l [.int c, .int x]),some (.int N),some (.int mo),some (.lst n1 (gsD gs')),o4,some (.int far),some (.lst (n2+1) (psD cs)),o7,o8],[some (.lst l [.int c, .int x])],n⟩/\Bg c x/\cs.length=i/\(∀p∈cs,1<=p.ss.length/\p.ss.length<=1+mo.toNat)/\n2+1<n/\(∀k d,o7.map (rp (pl k d))=o7)/\∀k d,o8.map (rp (pl k d))=o8) (lo:=0) (N:=N.toNat) (g:= .nm 7) (b:=cutM) (by
  rintro i hi s ⟨c,x,cs,o7,o8,n,rfl,hb,lc,tc,hn',h7,h8⟩
  refine⟨[some (.lst l [.int c, .int x]),some (.int N),some (.int mo),some (.lst n1 (gsD gs')),o4,some (.int far),some (.lst (n2+1) (psD cs)),some (.int i),o8],by simp only[Int.zero_add];rfl, ?_⟩
  obtain⟨c',x',q,o8',n',q1,q2,q3,q4,q5⟩:=zb6 l n1 (n2+1) c x N far (.int mo) o4 o8 gs' cs i (1+mo.toNat) n hb (by lia) (by lia) hn' (by lia) (by lia) hg4 hgs4 (by lia) far1 (by lia) (fun _ _=>rfl) f4 h8
  refine⟨_,q5,c',x',cs++[q],some (.int i),o8',n',rfl,q1,by simp[lc],fun p hp=> ?_,by lia,(fun _ _=>rfl),q4⟩
  rcases List.mem_append.mp hp with hp|hp
  ·exact tc p hp
  ·rw[List.mem_singleton.mp hp];exact q2) N.toNat 0 ⟨[some (.lst l [.int c5, .int x5]),some (.int N),some (.int mo),some (.lst n1 (gsD gs')),o4,some (.int far),some (.lst (n2+1) (psD [])),none,none],[some (.lst l [.int c5, .int x5])],n2+1+1⟩ (by lia) ⟨c5,x5,[],none,none,n2+1+1,rfl,b5,rfl,(fun _ h=>nomatch h),by lia,(fun _ _=>rfl),fun _ _=>rfl⟩
 rw[show psD []=[] from rfl] at e6
 rw[e6]
 have fc: ∀d,rp (pl l d) (.lst (n2+1) (psD cs))= .lst (n2+1) (psD cs):=fun d=>by rw[z0E (by lia),rL_p]
 walk_at ""
 obtain⟨zs,b',n4,w1,w2,w3,⟨c7,x7,rfl,b7⟩,w5,w6⟩:=z1j (ms:=[mVar 5]) (me:=z06 z01 [(mVar 1),(mC (.int 2))]) (N:=far.toNat) (ix:=[0]) (s:=⟨[some (.lst l [.int c6, .int x6]),some (.int N),some (.int mo),some (.lst n1 (gsD gs')),o4,some (.int far),some (.lst (n2+1) (psD cs)),o7,o8],[some (.lst l [.int c6, .int x6])],n3⟩) (l:=l) (n:=n3) (j:=far) (σ0:=[some (.lst l [.int c6, .int x6]),some (.int N),some (.int mo),some (.lst n1 (gsD gs')),o4,some (.int far),some (.lst (n2+1) (psD cs)),o7,o8]) (tm0:=[some (.lst l [.int c6, .int x6])]) (b:=[.int c6, .int x6]) (Bg:=fun b=> ∃c x,b=[.int c, .int x]/\Bg c x) (Q:=fun _ d=> ∃i:Int,d= .int i) (fun _ _ _ _ h=>h)
  (by walk_at "") rfl ⟨by lia,by lia⟩ (by rw[zl];lia) ⟨c6,x6,rfl,b6⟩ (by lia) (by walk_at "";simp only[fg,fc,f4,ho7,ho8]) (by walk_at "") (by simp only[List.map_cons,List.map_nil,List.getElem?_cons_zero,List.getElem?_cons_succ,Option.getD_some];walk_at "") (by
   rintro i hi b tm m ⟨c,x,rfl,hb⟩ hm hf
   obtain⟨r,c',x',hs0,hs1,h',e'⟩:=z0j l c x 2 m hb (by decide) (by decide)
   refine⟨.int r,[.int c', .int x'],m,⟨c',x',rfl,h'⟩,⟨r,rfl⟩,Nat.le_refl _,by simp[labs], ?_⟩
   simp only[List.map_cons,List.map_nil,List.getElem?_cons_zero,List.getElem?_cons_succ,Option.getD_some]
   walk_at ""
   rw[e',z0g rfl rfl rfl (by walk_at "") hf]
   walk_at "")
 rw[w6]
 walk_at ""
 simp only[fg,fc,f4,ho7,ho8]
 walk_at ""
 obtain⟨S,rfl⟩:=z3T w2
 obtain⟨r8,c8,x8,u0,u1,b8,e8⟩:=z0j l c7 x7 4 (n4+1) b7 (by decide) (by decide)
 rw[e8,z0h rfl rfl rfl (fun q=>by walk_at "";simp only[fg,fc,f4,ho7,ho8];rfl) (fun q=>by walk_at "";simp only[rL_p,rL_i];rfl)]
 walk_at ""
 have lS:S.length=far.toNat:=by simpa[iL] using w1
 exact⟨⟨S,cs,decide (r8>0)⟩,c8,x8,n4+1,⟨by show S.length<=24;lia,by show 1<=cs.length;lia,by show cs.length<=24;lia,fun p hp=>⟨(tc p hp).1,by have:=(tc p hp).2;lia⟩⟩,b8,by lia,rfl⟩
noncomputable def WW(cs:List Cm):List D:=z0J (wsD (z0y [] cs))
theorem z98{cs:List Cm}: ∀d∈WW cs,Tr d=true/\(er d).depth<=4:=fun d hd=>by
 obtain⟨w,hw,rfl⟩:=List.mem_map.mp (z92 hd)
 have:=z6e (z2w cs [] (fun _ h=>nomatch h) w hw)
 exact⟨this.1,by lia⟩
theorem z9C{cs:List Cm}:(WW cs).length<=cs.length:=by
 unfold WW
 rw[z93,z5d]
 simpa using z25 cs []
theorem z81{cs:List Cm}:labsL (WW cs)=[]:=TrL_labs _ (z33.mpr fun d hd=>(z98 d hd).1)
theorem zb8{cs:List Cm}(hz:cs.length<=60){l:Nat}:Gd (.lst l (WW cs))/\(er (.lst l (WW cs))).depth<=60:=by
 have r:=z9v (n:=0) (k:=4) (l:=l) (Nat.zero_le _) (show(WW cs).length<=2000 by have:=z9C (cs:=cs);lia) fun d hd=>⟨z5a _ (z98 d hd).1,(z98 d hd).2⟩
 exact⟨z7O _ r.1,by have:=r.2;lia⟩
theorem zd9(ns:List Int): ∀k d,rp (pl k d) (.ro (ns.map .int))= .ro (ns.map .int):=fun k d=>z1I (by
 simp only[labs];intro h;obtain⟨e,he,hk⟩:=labsL_mem h;obtain⟨j,_,rfl⟩:=List.mem_map.mp he;simp[labs] at hk)
theorem UpO.of{k:Nat}{d:D}(h:Up k d):UpO k (some d):=fun x hx=>by cases hx;exact h
theorem UpO.mono{k m:Nat}{o:Option D}(h:UpO k o)(hk:k<=m):UpO m o:=fun d hd j hj=>Nat.lt_of_lt_of_le (h d hd j hj) hk
theorem zb9{cs:List Cm}(hc: ∀c∈cs,c.ok):labsL (csD cs)=[]:=TrL_labs _ (z33.mpr fun d hd=>by
 obtain⟨c,h,rfl⟩:=List.mem_map.mp hd
 exact(z96 (hc c h)).1)
theorem z99{cs:List Cm}(hc: ∀c∈cs,c.ok){l k:Nat}(h:l<k):Up k (.lst l (csD cs)):=fun j hj=>by
 simp only[labs,zb9 hc,List.mem_cons,List.not_mem_nil,or_false] at hj;lia
noncomputable def inM:MS:=(seqS (sAsg (.nm 8) (z06 z0v [(mVar 5)]))
 (seqS (sIf (mOr (mNot (z2a (mIsi "list" (mVar 8)))) (mOr (mBoo (mBin (mVar 8) (mVar 6) neD)) (mBoo (mBin (mVar 5) (mVar 4) neD)))) (sRet (mC (.bool false))) sNx)
 (z2c (z1Q (mVar 8) [(mCB [(mCB [] tupD),(mCB [] tupD),(mC (.int 0)),(mC (.int 0))] tupD)] appD))))
theorem zet(ns:List Int)(a1 a2 a3 o8:Option D)(k4 k5 k6:Nat)(Y:List Cm)(hc: ∀c∈Y,c.ok)(hz:Y.length<=60)(t:Int)(tm:List (Option D))(n:Nat)(h4:k4<n)(h5:k5<n)(h6:k6<n)(u1:UpO n a1)(u2:UpO n a2)(u3:UpO n a3)(ut: ∀k,n<=k->∀d,rpO (pl k d) tm=tm):
 ∃n' p8,n<=n'/\UpO n' p8/\inM ⟨[some (.ro (ns.map .int)),a1,a2,a3,some (.lst k4 (csD Y)),some (.lst k5 (csD Y)),some (.lst k6 (WW Y)),some (.int t),o8],tm,n⟩= .nx ⟨[some (.ro (ns.map .int)),a1,a2,a3,some (.lst k4 (csD Y)),some (.lst k5 (csD Y)),some (.lst k6 (WW Y)),some (.int t),p8],tm,n'⟩:=by
 obtain⟨n1,g1,e1⟩:=zcT k5 Y hc hz n
 rw[show z0J (wsD (z0y [] Y))=WW Y from rfl] at e1
 unfold inM
 walk_at ""
 rw[e1]
 walk_at ""
 rw[z7P (zb8 hz).1 (zb8 hz).1 (show er (.lst n1 (WW Y))=er (.lst k6 (WW Y)) from rfl) (zb8 hz).2]
 walk_at ""
 rw[z7P (zb4 hc hz).1 (zb4 hc hz).1 (show er (.lst k5 (csD Y))=er (.lst k4 (csD Y)) from rfl) (zb4 hc hz).2]
 walk_at ""
 have q4: ∀d,rp (pl n1 d) (.lst k4 (csD Y))= .lst k4 (csD Y):=fun d=>z7S (by lia)
 have q5: ∀d,rp (pl n1 d) (.lst k5 (csD Y))= .lst k5 (csD Y):=fun d=>z7S (by lia)
 have wf: ∀d,rpL (pl n1 d) (WW Y)=WW Y:=fun d=>z37 z81
 have q6: ∀d,rp (pl n1 d) (.lst k6 (WW Y))= .lst k6 (WW Y):=fun d=>by rw[z0E (by lia),wf]
 have ut': ∀d,rpO (pl n1 d) tm=tm:=ut n1 g1
 rw[z7K ⟨by rw[zl];have:=z9C (cs:=Y);lia,by simp only[labs,labsL,List.append_nil];exact List.not_mem_nil⟩]
 walk_at ""
 simp only[q4,q5,q6,ut',zd9,u1.fixk g1,u2.fixk g1,u3.fixk g1]
 refine⟨n1+1,_,by lia, ?_,rfl⟩
 refine UpO.of fun j hj=> ?_
 simp only[labs,List.mem_cons] at hj
 rcases hj with rfl|hj
 ·lia
 ·exfalso
  obtain⟨d,hd,hj⟩:=labsL_mem hj
  rcases List.mem_append.mp hd with hd|hd
  ·rw[z34 _ (z98 d hd).1] at hj;cases hj
  ·rw[List.mem_singleton.mp hd] at hj
   simp[labs,labsL] at hj
theorem z5g{cs:List Cm}{lo hi:Option Int}:cutA (csD cs) lo hi=csD (cutA cs lo hi):=by
 unfold cutA csD
 simp
theorem z3V{cs:List Cm}{lo hi:Option Int}{c:Cm}(h:c∈cutA cs lo hi):c∈cs:=List.mem_of_mem_drop (List.mem_of_mem_take h)
theorem z5h{ws:List Cm}{l:Nat}:cutA ws none (some (l:Int))=ws.take l:=by
 unfold cutA
 rw[HT.sIx_nat,HT.sIx_none,List.drop_zero,Nat.sub_zero]
 rcases Nat.le_total l ws.length with h|h
 ·rw[Nat.min_eq_left h]
 ·rw[Nat.min_eq_right h,List.take_of_length_le h,List.take_of_length_le (Nat.le_refl _)]
theorem z5K{α:Type}{ds:List α}{lo hi:Option Int}:(cutA ds lo hi).length<=ds.length:=by
 unfold cutA
 rw[List.length_take,List.length_drop];lia
theorem zeu{l n:Nat}{ds:List D}{σ tm:List (Option D)}:rvsD (.lst l ds) ⟨σ,tm,n⟩= .ok (.lst n ds.reverse) ⟨σ,tm,n+1⟩:=(rfl)
noncomputable def It(m:Nat)(y:D):Prop:= ∃(k:Nat) (Y:List Cm),y= .lst k (csD Y)/\k<m/\(∀c∈Y,c.ok)/\Y.length<=60
theorem It.mono{a b:Nat}{y:D}(h:It a y)(hab:a<=b):It b y:=by
 obtain⟨k,Y,rfl,h1,h2,h3⟩:=h
 exact⟨k,Y,rfl,by lia,h2,h3⟩
theorem It.up{m:Nat}: ∀{ys:List D},(∀y∈ys,It m y)->∀j∈labsL ys,j<m
 |[],_,j,h=>by simp[labsL] at h
 |y::ys,hy,j,h=>by
  simp only[labsL,List.mem_append] at h
  rcases h with h|h
  ·obtain⟨k,Y,rfl,h1,h2,h3⟩:=hy y (by simp)
   exact z99 h2 h1 j h
  ·exact It.up (fun z hz=>hy z (by simp[hz])) j h
noncomputable def z9a:MS:=(seqS (sAsg (.nm 5) (mCB [(mVar 4)] z3b))
 (seqS (sAsg (.nm 6) (z06 z24 [(mVar 4)]))
 (sFor (z0H [(mC (.int 2))]) (.nm 7) inM)))
theorem zba(ns:List Int)(a1 a2 a3 o5 o6 o7 o8:Option D)(k4:Nat)(Y:List Cm)(hc: ∀c∈Y,c.ok)(hz:Y.length<=60)(tm:List (Option D))(n:Nat)(h4:k4<n)(u1:UpO n a1)(u2:UpO n a2)(u3:UpO n a3)(ut: ∀k,n<=k->∀d,rpO (pl k d) tm=tm):
 ∃n' p5 p6 p7 p8,n<=n'/\UpO n' p5/\UpO n' p6/\UpO n' p7/\UpO n' p8/\z9a ⟨[some (.ro (ns.map .int)),a1,a2,a3,some (.lst k4 (csD Y)),o5,o6,o7,o8],tm,n⟩= .nx ⟨[some (.ro (ns.map .int)),a1,a2,a3,some (.lst k4 (csD Y)),p5,p6,p7,p8],tm,n'⟩:=by
 obtain⟨n1,g1,e1⟩:=zcY k4 Y hc hz (n+1) (by lia)
 rw[show z0J (wsD (z0y [] Y))=WW Y from rfl] at e1
 unfold z9a
 walk_at ""
 rw[e1]
 walk_at ""
 rw[z2Z ⟨by decide,by decide⟩]
 walk_at ""
 obtain⟨s',e2,p7,p8,n2,h2,v7,v8,rfl⟩:=z2l (P:=fun i s=> ∃(o7 o8:Option D) (m:Nat),n1+1<=m/\(0<i->UpO m o7)/\(0<i->UpO m o8)/\s=⟨[some (.ro (ns.map .int)),a1,a2,a3,some (.lst k4 (csD Y)),some (.lst n (csD Y)),some (.lst n1 (WW Y)),o7,o8],tm,m⟩) (lo:=0) (N:=(2:Int).toNat) (g:= .nm 7) (b:=inM) (by
  rintro i hi s ⟨o7,o8,m,hm,_,_,rfl⟩
  refine⟨[some (.ro (ns.map .int)),a1,a2,a3,some (.lst k4 (csD Y)),some (.lst n (csD Y)),some (.lst n1 (WW Y)),some (.int i),o8],by simp only[Int.zero_add];rfl, ?_⟩
  obtain⟨n',p8,q1,q2,q3⟩:=zet ns a1 a2 a3 o8 k4 n n1 Y hc hz i tm m (by lia) (by lia) (by lia) (u1.mono (by lia)) (u2.mono (by lia)) (u3.mono (by lia)) (fun k hk=>ut k (by lia))
  exact⟨_,q3,some (.int i),p8,n',by lia,fun _=>UpO.of (fun j hj=>by simp only[labs] at hj;cases hj),fun _=>q2,rfl⟩) (2:Int).toNat 0 ⟨[some (.ro (ns.map .int)),a1,a2,a3,some (.lst k4 (csD Y)),some (.lst n (csD Y)),some (.lst n1 (WW Y)),o7,o8],tm,n1+1⟩ (by lia) ⟨o7,o8,n1+1,Nat.le_refl _,(fun h=>absurd h (by decide)),(fun h=>absurd h (by decide)),rfl⟩
 rw[e2]
 refine⟨n2,_,_,p7,p8,by lia,UpO.of (z99 hc (show n<n2 by lia)),UpO.of (fun j hj=> ?_),v7 (by decide),v8 (by decide),rfl⟩
 simp only[labs,z81,List.mem_cons,List.not_mem_nil,or_false] at hj;lia
noncomputable def itM:M D:=(mBin (mCB [(mVar 3),(bd (mVar 3) rvsD),(mBin (mSl (mVar 3) none (some (mC (.int 1)))) (mC (.int 2)) mulD),(mCB [] lstM)] lstM) (z0I (z0T (mSl (mVar 3) none (some (mC (.int 6))))) (.nm 0) (rt true) (mCB [(mVar 0)] lstM) 1 []) addD)
theorem zev(a0 a1 a2 a4 a5 a6 a7 a8:Option D)(L:Nat)(X:List Cm)(hc: ∀c∈X,c.ok)(hz:X.length<=60)(tm:List (Option D))(n:Nat)(hL:L<n):
 ∃Lx n' items,items.length<=10/\n<=Lx/\Lx<n'/\(∀y∈items,It n' y)/\itM ⟨[a0,a1,a2,some (.lst L (csD X)),a4,a5,a6,a7,a8],tm,n⟩= .ok (.lst Lx items) ⟨[a0,a1,a2,some (.lst L (csD X)),a4,a5,a6,a7,a8],tm,n'⟩:=by
 have r1:(csD X).reverse=csD X.reverse:=(List.map_reverse).symm
 unfold itM
 walk_at ""
 rw[zeu]
 walk_at ""
 rw[z5g,zcM ⟨by decide,by decide,by rw[zl,z1k];have:=z5K (ds:=X) (lo:=none) (hi:=some 1);show _*2<=_;lia⟩,r1,show List.flatten (List.replicate (2:Int).toNat (csD (cutA X none (some 1))))=csD (cutA X none (some 1)++cutA X none (some 1)) by simp[csD,List.replicate]]
 walk_at ""
 generalize hX2:cutA X none (some 1)++cutA X none (some 1)=X2
 have c2: ∀c∈X2,c∈X:=fun c h=>by
  rw[<-hX2] at h
  rcases List.mem_append.mp h with h|h<;>exact z3V h
 have l2:X2.length<=2:=by
  rw[<-hX2,show(some (1:Int))=some ((1:Nat):Int) from rfl,z5h,List.length_append,List.length_take];lia
 generalize hT:[D.lst L (csD X),D.lst n (csD X.reverse),D.lst (n+1+1) (csD X2),D.lst (n+1+1+1) []]=A
 have hA: ∀y∈A,It (n+1+1+1+1) y:=fun y hy=>by
  rw[<-hT] at hy
  simp only[List.mem_cons,List.not_mem_nil,or_false] at hy
  rcases hy with rfl|rfl|rfl|rfl
  ·exact⟨L,X,rfl,by lia,hc,hz⟩
  ·exact⟨n,X.reverse,rfl,by lia,fun c h=>hc c (List.mem_reverse.mp h),by simpa using hz⟩
  ·exact⟨_,X2,rfl,by lia,fun c h=>hc c (c2 c h),by lia⟩
  ·exact⟨_,[],rfl,by lia,(fun _ h=>nomatch h),by simp⟩
 have lA:A.length=4:=by rw[<-hT];rfl
 obtain⟨ys,n',l1,h2,h3,e⟩:=zaZ (mi:=z0T (mSl (mVar 3) none (some (mC (.int 6))))) (K:=kLst) (me:=mCB [(mVar 0)] lstM) (Q:=It) (fun a b hab y h=>h.mono hab) (items:=csD (cutA X none (some 6))) (its:=[some (.lst (n+1+1+1+1+1) (csD (cutA X none (some 6))))]) (ix:=[]) (s:=⟨[a0,a1,a2,some (.lst L (csD X)),a4,a5,a6,a7,a8],some (.lst (n+1+1+1+1) A)::tm,n+1+1+1+1+1⟩) (σ:=[a0,a1,a2,some (.lst L (csD X)),a4,a5,a6,a7,a8]) (tm:=some (.lst (n+1+1+1+1) A)::tm) (n:=n+1+1+1+1+1+1) (z9s (by
  walk_at ""
  rw[z5g]
  rfl)) rfl (by rw[zl,z1k];have:=z5K (ds:=X) (lo:=none) (hi:=some 6);lia) (fun i rest=>rfl) rfl (by
  intro d hd tm m hm
  obtain⟨c,hc',rfl⟩:=List.mem_map.mp hd
  refine⟨.lst m (csD [c]),m+1,by lia,⟨m,[c],rfl,by lia,(fun z hz=>by rw[List.mem_singleton.mp hz];exact hc c (z3V hc')),by simp⟩, ?_⟩
  walk_at ""
  rfl)
 rw[e]
 walk_at ""
 have l6:(cutA X none (some 6)).length<=6:=by
  rw[show(some (6:Int))=some ((6:Nat):Int) from rfl,z5h,List.length_take];lia
 rw[z1k] at l1
 rw[z9p (by rw[zl];lia)]
 refine⟨n'+1,n'+1+1,A++ys,by rw[List.length_append];lia,by lia,by lia,fun y hy=> ?_,rfl⟩
 rcases List.mem_append.mp hy with hy|hy
 ·exact(hA y hy).mono (by lia)
 ·exact(h2 y hy).mono (by lia)
noncomputable def edC:M D:=(mBin (z0I (z0H [(mC (.int 6))]) (.nm 0) (rt true) (z06 z1H [(mVar 1)]) 1 [2]) (mSl (z06 z0V [(mVar 2)]) none (some (mC (.int 54)))) addD)
theorem zda(l:Nat)(c x:Int)(n:Nat)(h:Bg c x)(hn:l<n)(a0 a1 a3 a4 a5 a6 a7 a8:Option D)(tm:List (Option D))
 (f0: ∀d,a0.map (rp (pl l d))=a0) (f1: ∀d,a1.map (rp (pl l d))=a1) (f3: ∀d,a3.map (rp (pl l d))=a3) (f4: ∀d,a4.map (rp (pl l d))=a4) (f5: ∀d,a5.map (rp (pl l d))=a5) (f6: ∀d,a6.map (rp (pl l d))=a6) (f7: ∀d,a7.map (rp (pl l d))=a7) (f8: ∀d,a8.map (rp (pl l d))=a8) (ft: ∀d,rpO (pl l d) tm=tm):
 ∃(X:List Cm) (c' x':Int) (L n':Nat),X.length<=60/\(∀q∈X,q.ok)/\Bg c' x'/\n<=L/\L<n'/\edC ⟨[a0,a1,some (.lst l [.int c, .int x]),a3,a4,a5,a6,a7,a8],tm,n⟩= .ok (.lst L (csD X)) ⟨[a0,a1,some (.lst l [.int c', .int x']),a3,a4,a5,a6,a7,a8],tm,n'⟩:=by
 unfold edC
 walk_at ""
 obtain⟨ys,b',n1,g1,g2,g3,⟨c1,x1,rfl,b1⟩,g5,g6⟩:=z1j (ms:=[(mC (.int 6))]) (me:=z06 z1H [(mVar 1)]) (N:=6) (ix:=[2]) (s:=⟨[a0,a1,some (.lst l [.int c, .int x]),a3,a4,a5,a6,a7,a8],tm,n⟩) (l:=l) (n:=n) (j:=6) (σ0:=[a0,a1,some (.lst l [.int c, .int x]),a3,a4,a5,a6,a7,a8]) (tm0:=tm) (b:=[.int c, .int x]) (Bg:=fun b=> ∃c x,b=[.int c, .int x]/\Bg c x) (Q:=fun _ d=> ∃q:Cm,q.ok/\d=q.d) (fun _ _ _ _ h=>h)
  (by walk_at "") rfl ⟨by decide,by decide⟩ (by rw[zl];decide) ⟨c,x,rfl,h⟩ hn (by simp only[z0Z,z2k,f0,f1,f3,f4,f5,f6,f7,f8,Option.map_some,z4z]) (ft _) (by simp only[List.map_cons,List.map_nil,List.getElem?_cons_zero,List.getElem?_cons_succ,Option.getD_some];walk_at "") (by
   rintro i hi b tm m ⟨c,x,rfl,hb⟩ hm hf
   obtain⟨q,c',x',n',qo,h',g,e'⟩:=zb7 l c x m hb hm
   refine⟨q.d,[.int c', .int x'],n',⟨c',x',rfl,h'⟩,⟨q,qo,rfl⟩,g,by rw[z80 q qo];exact List.not_mem_nil, ?_⟩
   simp only[List.map_cons,List.map_nil,List.getElem?_cons_zero,List.getElem?_cons_succ,Option.getD_some]
   walk_at ""
   rw[e',z0g rfl rfl rfl (by walk_at "") hf]
   walk_at "")
 rw[g6]
 obtain⟨es,hes,rfl⟩:=z7Z g2
 simp only[z0Z,z2k,f0,f1,f3,f4,f5,f6,f7,f8,Option.map_some,z4z,ft]
 walk_at ""
 obtain⟨cs,c2,x2,L,n2,hz,hc,b2,k1,k2,e2⟩:=zb5 l c1 x1 (n1+1) b1 (by lia)
 have fe: ∀d,rp (pl l d) (.lst n1 (csD es))= .lst n1 (csD es):=fun d=>z7S (by lia)
 rw[e2,z0h rfl rfl rfl (fun q=>by simp only[z0Z,z2k,f0,f1,f3,f4,f5,f6,f7,f8,Option.map_some,z4z];rfl) (fun q=>by simp only[z0Z,fe,ft,Option.map_some];rfl)]
 walk_at ""
 rw[z1k] at g1
 have l5:(cutA cs none (some 54)).length<=54:=by
  rw[show(some (54:Int))=some ((54:Nat):Int) from rfl,z5h,List.length_take];lia
 rw[z5g,z9p (by rw[zl,z1k,z1k];lia)]
 rw[show csD es++csD (cutA cs none (some 54))=csD (es++cutA cs none (some 54)) by simp[csD]]
 refine⟨es++cutA cs none (some 54),c2,x2,n2+1,n2+1+1,by rw[List.length_append];lia,fun q hq=> ?_,b2,by lia,by lia,rfl⟩
 rcases List.mem_append.mp hq with hq|hq
 ·exact hes q hq
 ·exact hc q (z3V hq)
noncomputable def turnM:MS:=(seqS (sAsg (.nm 2) (z06 z2X [(mVar 0),(mVar 1)]))
 (seqS (sAsg (.nm 3) edC)
 (sFor (z0T itM) (.nm 4) z9a)))
theorem zbb(ns:List Int)(hl:ns.length<1000)(i:Nat)(hi:i<4)(n:Nat)(o2 o3 o4 o5 o6 o7 o8:Option D)(u2:UpO n o2)(u3:UpO n o3)(u4:UpO n o4)(u5:UpO n o5)(u6:UpO n o6)(u7:UpO n o7)(u8:UpO n o8):
 ∃n' p2 p3 p4 p5 p6 p7 p8,turnM ⟨[some (.ro (ns.map .int)),some (.int i),o2,o3,o4,o5,o6,o7,o8],[some (.ro (ns.map .int))],n⟩= .nx ⟨[some (.ro (ns.map .int)),some (.int i),p2,p3,p4,p5,p6,p7,p8],[some (.ro (ns.map .int))],n'⟩/\UpO n' p2/\UpO n' p3/\UpO n' p4/\UpO n' p5/\UpO n' p6/\UpO n' p7/\UpO n' p8:=by
 have sr:=zd9 ns
 obtain⟨c,x,b0,e0⟩:=zcK ns i n (by lia) hl
 have iu: ∀(k:Nat) (u:Int),UpO k (some (.int u)):=fun k u=>UpO.of fun j hj=>by simp only[labs] at hj;cases hj
 have bu: ∀(k:Nat) (u w:Int),n<k->UpO k (some (.lst n [.int u, .int w])):=fun k u w h=>UpO.of fun j hj=>by simp only[labs,labsL,List.append_nil,List.mem_cons,List.not_mem_nil,or_false] at hj;lia
 unfold turnM
 walk_at ""
 rw[e0]
 walk_at ""
 obtain⟨X,c1,x1,L,n1,hz,hc,b1,g1,g2,e1⟩:=zda n c x (n+1) b0 (by lia) (some (.ro (ns.map .int))) (some (.int i)) o3 o4 o5 o6 o7 o8 [some (.ro (ns.map .int))] (fun d=>by rw[Option.map_some,sr]) (fun d=>rfl) u3.fix u4.fix u5.fix u6.fix u7.fix u8.fix (fun d=>by rw[z0Z,Option.map_some,sr];rfl)
 rw[e1]
 walk_at ""
 obtain⟨Lx,n2,items,li,h1,h2,hit,e2⟩:=zev (some (.ro (ns.map .int))) (some (.int i)) (some (.lst n [.int c1, .int x1])) o4 o5 o6 o7 o8 L X hc hz [some (.ro (ns.map .int))] n1 g2
 rw[z9s e2,zaN]
 have uX:UpO n2 (some (.lst L (csD X))):=UpO.of (z99 hc (by lia))
 have uI:Up n2 (.lst Lx items):=fun j hj=>by
  simp only[labs,List.mem_cons] at hj
  rcases hj with rfl|hj
  ·exact h2
  ·exact It.up hit j hj
 obtain⟨s',e3,p4,p5,p6,p7,p8,n3,hn3,v4,v5,v6,v7,v8,rfl⟩:=z5c (K:=kLst) (g:= .nm 4) (b:=z9a) (item:=fun i=>items.getD i .non) (N:=items.length) (P:=fun _ s=> ∃(o4 o5 o6 o7 o8:Option D) (m:Nat),n2<=m/\UpO m o4/\UpO m o5/\UpO m o6/\UpO m o7/\UpO m o8/\s=⟨[some (.ro (ns.map .int)),some (.int i),some (.lst n [.int c1, .int x1]),some (.lst L (csD X)),o4,o5,o6,o7,o8],[some (.lst Lx items),some (.ro (ns.map .int))],m⟩)
  (by rintro j s ⟨_,_,_,_,_,_,_,_,_,_,_,_,rfl⟩;rw[z9A])
  (by
   rintro j hj s ⟨o4,o5,o6,o7,o8,m,hm,_,_,_,_,_,rfl⟩
   have hj':items.getD j .non=items[j]:=by simp[hj]
   obtain⟨k,Y,ey,k1,k2,k3⟩:=hit _ (List.getElem_mem hj)
   simp only[hj',ey]
   refine⟨_,rfl, ?_⟩
   obtain⟨n',p5,p6,p7,p8,q1,q5,q6,q7,q8,e⟩:=zba ns (some (.int i)) (some (.lst n [.int c1, .int x1])) (some (.lst L (csD X))) o5 o6 o7 o8 k Y k2 k3 [some (.lst Lx items),some (.ro (ns.map .int))] m (by lia) (iu _ _) (bu _ _ _ (by lia)) (uX.mono (by lia)) (fun k hk d=>by
    simp only[z0Z,z2k,Option.map_some,sr,z1I fun h=>absurd (uI k h) (by lia)])
   exact⟨_,e,_,p5,p6,p7,p8,n',by lia,UpO.of (z99 k2 (by lia)),q5,q6,q7,q8,rfl⟩)
  items.length 0 ⟨[some (.ro (ns.map .int)),some (.int i),some (.lst n [.int c1, .int x1]),some (.lst L (csD X)),o4,o5,o6,o7,o8],[some (.lst Lx items),some (.ro (ns.map .int))],n2⟩ (by lia) ⟨o4,o5,o6,o7,o8,n2,Nat.le_refl _,u4.mono (by lia),u5.mono (by lia),u6.mono (by lia),u7.mono (by lia),u8.mono (by lia),rfl⟩
 have el:kLst.len [some (.lst Lx items),some (.ro (ns.map .int))]=items.length:=rfl
 dsimp only
 rw[el,e3,zcU,zcP]
 exact⟨n3,_,_,p4,p5,p6,p7,p8,rfl,bu _ _ _ (by lia),uX.mono hn3,v4,v5,v6,v7,v8⟩
theorem zdb(ns:List Int)(hl:ns.length<1000)(n:Nat): ∃n',f_law [.ro (ns.map .int)] n= .ok (.bool true) [.ro (ns.map .int)] n':=by
 unfold f_law
 have e0:zaM=seqS (sFor (z0H [mCB [mC (.int 1),mCB [mC (.int 3),mCB [mVar 0] lenD] minD] maxD]) (.nm 1) turnM) (sRet (mC (.bool true))):=rfl
 rw[e0]
 walk_at ""
 have w0:((ns.map D.int).length:Int)=ns.length:=by simp
 rw[w0]
 generalize hk:(if(if(ns.length:Int)<3 then(ns.length:Int) else 3)>1 then(if(ns.length:Int)<3 then(ns.length:Int) else 3) else(1:Int))=k
 have hk0:0<=k/\k<=3:=by split at hk<;>(try split at hk)<;>lia
 rw[z2Z ⟨by lia,by lia⟩]
 walk_at ""
 obtain⟨s',e2,o1,o2,o3,o4,o5,o6,o7,o8,m,rfl,_⟩:=z2l (P:=fun i s=> ∃(o1 o2 o3 o4 o5 o6 o7 o8:Option D) (n:Nat),s=⟨[some (.ro (ns.map .int)),o1,o2,o3,o4,o5,o6,o7,o8],[some (.ro (ns.map .int))],n⟩/\UpO n o2/\UpO n o3/\UpO n o4/\UpO n o5/\UpO n o6/\UpO n o7/\UpO n o8) (lo:=0) (N:=k.toNat) (g:= .nm 1) (b:=turnM) (by
  rintro i hi s ⟨o1,o2,o3,o4,o5,o6,o7,o8,n,rfl,u2,u3,u4,u5,u6,u7,u8⟩
  refine⟨[some (.ro (ns.map .int)),some (.int i),o2,o3,o4,o5,o6,o7,o8],by simp only[Int.zero_add];rfl, ?_⟩
  obtain⟨n',p2,p3,p4,p5,p6,p7,p8,e,v⟩:=zbb ns hl i (by lia) n o2 o3 o4 o5 o6 o7 o8 u2 u3 u4 u5 u6 u7 u8
  exact⟨_,e,_,p2,p3,p4,p5,p6,p7,p8,n',rfl,v⟩) k.toNat 0 ⟨[some (.ro (ns.map .int)),none,none,none,none,none,none,none,none],[some (.ro (ns.map .int))],n⟩ (by lia) ⟨none,none,none,none,none,none,none,none,n,rfl,nofun,nofun,nofun,nofun,nofun,nofun,nofun⟩
 rw[e2]
 walk_at ""
 exact⟨m,rfl⟩
end My
set_option maxHeartbeats 4000000
namespace Mi
open PySem L2 PySem.Spec PyProof.Rows
noncomputable def z82(K:W.Frag)(np:Nat)(f:FM):Sp:=fun vs H Q E=>vs.length=np/\∀G:Gx,G.K=K->KD K H->spM G np f vs H Q E
theorem zdc{P:Program}{w:World}{K:W.Frag}{mg:Str->Option Value}{base:Heap}{CX:CXT}{k:Nat}{fa:Addr}{fd:FuncData}{x:Str}{f:FM}{G:Gx}(hG:G.K=K)(F:FnOk P w K mg base CX k fa fd [x] (spM G 1 f)):FnOk P w K mg base CX k fa fd [x] (z82 K 1 f):=
 ⟨fun _ _ _ _ h=>h.1,fun A outer s H args us vs Q E hr e0 hb hv h=>F.run A outer s H args us vs Q E hr e0 hb hv (h.2 G hG fun a o e=>(e0.bs a o (e0.mod.kin a o e)).2)⟩
theorem RDs.ints{G:Gx}{ρ:Nat->Addr}{H:Hp}: ∀ns:List Int,RDs G ρ H (ns.map D.int) (ns.map V.int)
 |[]=>by simp only[List.map_nil,RDs]
 |n::ns=>by
  simp only[List.map_cons,RDs]
  exact⟨_,_,rfl,by simp only[RD],RDs.ints ns⟩
theorem z4F: ∀ns:List Int,labsL (ns.map D.int)=[]
 |[]=>by simp only[List.map_nil,labsL]
 |n::ns=>by simp only[List.map_cons,labsL,labs,z4F ns,List.nil_append]
theorem zdd{K:W.Frag}{H:Hp}{a:Addr}{ns:List Int}{f:FM}{E:XK}(e: ∀n,∃n',f [.ro (ns.map D.int)] n= .ok (.bool true) [.ro (ns.map D.int)] n')(hO:Only H)(hS:SqL K H a (ns.map V.int)):z82 K 1 f [.ref a] H (fun v _=>v= .bl true) E:=by
 refine⟨rfl,fun G hG kd=> ?_⟩
 subst hG
 refine⟨rfl,fun _=>a,0,[.ro (ns.map D.int)], ?_,fun i j hi=>absurd hi (Nat.not_lt_zero _),fun l hl=>absurd hl (Nat.not_lt_zero _),fun l hl=> ?_,kd, ?_⟩
 ·simp only[RDs,RD]
  refine⟨_,_,rfl,⟨a,ns.map V.int,rfl, ?_,RDs.ints ns⟩,rfl⟩
  rcases hS with(h|h)|h
  ·rcases hO a with z|⟨o,xs,z⟩<;>rw[h] at z<;>cases z
  ·exact .inl h
  ·exact .inr h
 ·simp only[labsL,labs,z4F,List.append_nil] at hl
  cases hl
 ·obtain⟨n',e⟩:=e 0
  rw[e]
  intro ρ' v H' _ rd _
  simp only[RD] at rd
  exact rd
end Mi
namespace My
open PySem L2 Mi
structure DA(K:W.Frag)(x:Str)(st:Stmt)(f:Addr)(d:FuncData):Prop where
 a:W.nsIn K mainGlobals x=some (some (.ref f))
 F:Fun K x x st f d
theorem zew{K:W.Frag}{x:Str}{st:Stmt}{f:Addr}{oc:Value}{od an:Option Addr}{sl:Array (Option Value)}{kV dc pm cd ct:Value}(a:W.nsIn K mainGlobals x=some (some (.ref f)))
 (l:K.lookup f=some ⟨oc,od, .func (W.fnOf x x (z1P st) (z0P st) (z03 st) .none kV dc pm an cd ct),sl⟩) (c:W.codeIn K cd x=true) (k:W.keepIn K (.ref f)=true):
 DA K x st f (W.fnOf x x (z1P st) (z0P st) (z03 st) .none kV dc pm an cd ct):=⟨a,zbH l c k⟩
noncomputable def dx{K:W.Frag}{h:Heap}{mg:Str->Option Value}{x:Str}{st:Stmt}{f:Addr}{d:FuncData}{ps:List Str}(X:K.In h)(G:h.Ns mainGlobals mg)(a:DA K x st f d)
 (b: ∀(kV dc pm:Value) (an:Option Addr) (cd ct:Value) (us:List Value),us.length=ps.length->bindArgs (W.fnOf x x (z1P st) (z0P st) (z03 st) .none kV dc pm an cd ct) ⟨us,[]⟩=pure (ps.zip us)):Dx K mg x st ps:=
 ⟨f,d,a.F,a.F.binds b,W.mg_of X G a.a⟩
theorem zde{l:W.OpenLaw}{w:World}{K:W.Frag}{h:Heap}{mg:Str->Option Value}{fa f0 f1 f2 f3 f4 f5 f6 f7 f8 f9 f10 f11 f12:Addr}{d0 d1 d2 d3 d4 d5 d6 d7 d8 d9 d10 d11 d12:FuncData}(X:K.In h)(G:h.Ns mainGlobals mg)(hfa:mg "law" =some (.ref fa))
 (a0:DA K "made_words" z16 f0 d0)
 (a1:DA K "makes_word" z17 f1 d1)
 (a2:DA K "made_word" z1m f2 d2)
 (a3:DA K "signs_of" z1A f3 d3)
 (a4:DA K "_law_bag" z51 f4 d4)
 (a5:DA K "_law_take" z3E f5 d5)
 (a6:DA K "_law_sounds" z2e f6 d6)
 (a7:DA K "_law_some_signs" z18 f7 d7)
 (a8:DA K "_law_commit" z2f f8 d8)
 (a9:DA K "_law_commits" z1R f9 d9)
 (a10:DA K "_law_made" z3F f10 d10)
 (a11:DA K "_law_edge" z3G f11 d11)
 (a12:DA K "law" zaJ f12 d12)
 (z0:W.nsIn K mainGlobals "abs" =some none)
 {tk1:Nat} (z1:W.nsIn K mainGlobals "LAST_WORD_KIND" =some (some (.int 7 tk1)))
 {tk2:Nat} (z2:W.nsIn K mainGlobals "LAST_WORD_SIGN" =some (some (.int 999 tk2)))
 {tk3:Nat} (z3:W.nsIn K mainGlobals "MADE_WORD_COST" =some (some (.int 1000 tk3)))
 {tk4:Nat} (z4:W.nsIn K mainGlobals "MOST_WORD_SIGNS" =some (some (.int 4 tk4)))
 {tk5:Nat} (z5:W.nsIn K mainGlobals "MOST_WORD_SOUNDS" =some (some (.int 6 tk5)))
 (z6:W.nsIn K mainGlobals "int" =some none)
 (z7:W.nsIn K mainGlobals "isinstance" =some none)
 (z8:W.nsIn K mainGlobals "len" =some none)
 (z9:W.nsIn K mainGlobals "list" =some none)
 (z10:W.nsIn K mainGlobals "max" =some none)
 (z11:W.nsIn K mainGlobals "min" =some none)
 (z12:W.nsIn K mainGlobals "range" =some none)
 (z13:W.nsIn K mainGlobals "sorted" =some none)
 (z14:W.nsIn K mainGlobals "sum" =some none)
 (z15:W.nsIn K mainGlobals "tuple" =some none)
 : ∃fd:FuncData,(∀(s:Shared) (v:Value),BindsTo s fd ⟨[v],[]⟩ [("_law_script",v)])/\∀base:Heap,K.In base->base.Ns mainGlobals mg->FnOk l.prog w K mg base CX0 5 fa fd ["_law_script"] (z82 K 1 f_law):=by
 have e:=hfa.symm.trans (W.mg_of X G a12.a)
 cases e
 obtain⟨oc,od,kV,doc,pm,an,cdv,ct,osl,rfl,lk,hcd⟩:=a12.F.ex
 exact⟨_,fun s v=> .of_eq rfl,fun base _ _=>zdc rfl (zcr ⟨dx X G a0 fun _ _ _ _ _ _ us hl=>match us,hl with|[_],_=>rfl,dx X G a1 fun _ _ _ _ _ _ us hl=>match us,hl with|[_],_=>rfl,dx X G a2 fun _ _ _ _ _ _ us hl=>match us,hl with|[_],_=>rfl,dx X G a3 fun _ _ _ _ _ _ us hl=>match us,hl with|[_],_=>rfl,dx X G a4 fun _ _ _ _ _ _ us hl=>match us,hl with|[_,_],_=>rfl,dx X G a5 fun _ _ _ _ _ _ us hl=>match us,hl with|[_,_],_=>rfl,dx X G a6 fun _ _ _ _ _ _ us hl=>match us,hl with|[_,_],_=>rfl,dx X G a7 fun _ _ _ _ _ _ us hl=>match us,hl with|[_],_=>rfl,dx X G a8 fun _ _ _ _ _ _ us hl=>match us,hl with|[_,_],_=>rfl,dx X G a9 fun _ _ _ _ _ _ us hl=>match us,hl with|[_],_=>rfl,dx X G a10 fun _ _ _ _ _ _ us hl=>match us,hl with|[_],_=>rfl,dx X G a11 fun _ _ _ _ _ _ us hl=>match us,hl with|[_],_=>rfl,dx X G a12 fun _ _ _ _ _ _ us hl=>match us,hl with|[_],_=>rfl,W.mg_none_of X G z0,⟨_,W.mg_of X G z1⟩,⟨_,W.mg_of X G z2⟩,⟨_,W.mg_of X G z3⟩,⟨_,W.mg_of X G z4⟩,⟨_,W.mg_of X G z5⟩,W.mg_none_of X G z6,W.mg_none_of X G z7,W.mg_none_of X G z8,W.mg_none_of X G z9,W.mg_none_of X G z10,W.mg_none_of X G z11,W.mg_none_of X G z12,W.mg_none_of X G z13,W.mg_none_of X G z14,W.mg_none_of X G z15⟩)⟩
theorem walk{l:W.OpenLaw}{q:Program}{loose:List Str}{XP:(Str->Option Value)->Heap->Prop}{YP:World->Heap->Prop}{d:DefRec}{K:Params->W.Frag}(hn:l.most=some 63)(hdf:d.params.defaults=[])
 (hY: ∀(w:World) (h:Heap),YP w h->(K w.params).In h)
 (F: ∀(w:World) (mg:Str->Option Value) (fa:Addr) (h:Heap),(K w.params).In h->h.Ns mainGlobals mg->mg d.name=some (.ref fa)->
  ∃fd:FuncData,(∀(s:Shared) (u:Value),BindsTo s fd ⟨[u],[]⟩ [("_law_script",u)])/\∀base:Heap,(K w.params).In base->base.Ns mainGlobals mg->FnOk l.prog w (K w.params) mg base CX0 5 fa fd ["_law_script"] (z82 (K w.params) 1 f_law)):
 W.WalkO q loose XP YP l.row.toRowW d [] (fun f vs=>PySem.call f vs):=
 L2.za0 (n:=63) (k:=5) (x:= "_law_script") (CX:=fun _=>CX0) (sp:=fun w=>z82 (K w.params) 1 f_law) hn (by decide) hdf ⟨rfl,by decide,by decide,rfl⟩ hY F (fun _ _ a ns hl hO hS=>zdd (fun n=>zdb ns (by lia) n) hO hS) fun _ _ _ _ _ h=>h.elim
end My
inductive PySem.W.Fast:Prop|tw3706071955543206047|tw10546242834939940793|tw4970311970080617605|tw9547066512556037805|tw9504334121591114460|tw11757971318058459673|tw7285505669188375675|tw8989553158790703798|tw16893502774986317535|tw5925049891630987388|tw5927336281667468481|tw1942427236978001927|tw4444523317485308163|tw9781927110630890584|tw13385913013968869164|tw8872948418114301229|tw12305102669120975904|tw3915808766114288272|tw16335542821660386004|tw8255144455517211536|tw13227116135665296541|tw9168670803387329769|tw15122710945394494448|tw14716539587217276007|tw16493952490419809007|tw9608621499578421640|tw17158445481485782706|tw6542940760963142439|tw11628809974681107032|tw6000862047131763854|tw4695957181551433796|tw166686452253850449|tw2432073949312409373
open PySem PySem.W PyProof.Rows
set_option maxRecDepth 100000 in
set_option maxHeartbeats 0 in
theorem PySem.Challenge.cw_signbench_k34_words_made_holds : PySem.Challenge.rw_signbench_k34_words_made.Holds := by
 w_on;o_law;k_head;(case hw=>w_witness2)
 k_fill
 refine My.walk (l:=PySem.Challenge.rw_signbench_k34_words_made) rfl rfl (fun w h Y=>PySem.W.kIn_of Y) ?F
 case F=>
  intro w mg fa h KX G hmg
  apply My.zde KX G hmg<;>first|(apply My.zew<;>k_is)|k_is|kernel_rfl|rfl|decide
