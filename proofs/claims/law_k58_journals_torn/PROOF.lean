import PyProof.Rows.All
import Wide.All
import OpenK.AllK
import Wide.FinOn
import Lean
import PyProof.EqAt
import PyProof.EqKinds
import PyProof.TupleCall
import PyProof.CallStr
import PyProof.DictTruth
import PyProof.Draws
import PyProof.EnumMake
import PyProof.ListRange
import PyProof.MeetsStr
import PyProof.P3Eq
import PyProof.Rows.CallKw2
import PyProof.Rows.CountFlat
import PyProof.Rows.FStr
import PyProof.Rows.Range3
import PyProof.Rows.StrJoin2
import PyProof.Rows.StrNews
import PyProof.Rows.ZipGen
import PyProof.StrBlockI
import PyProof.StrCalls
import PyProof.StrCalls5
import PyProof.StrOps2
import PyProof.StrWalks
import PyProof.SumAny
import PyProof.ZipIter
import PySem.Challenge.RW_signbench_k58_journals_torn
set_option Elab.async false
set_option linter.all false
set_option maxRecDepth 100000
namespace L2
open PySem PySem.Spec PyProof.Rows
noncomputable abbrev Key:=Sum Int Str
noncomputable def zeL:Key->Value->Bool
 | .inl k,v=>Value.isInt k v
 | .inr x,v=>Value.isStrOf x v
noncomputable def keyH(w:World):Key->Int
 | .inl k=>hashInt k
 | .inr x=>hashStr w x
theorem z0j: ∀{k:Key} {v:Value},zeL k v=true->(∃i t,k=Sum.inl i/\v=Value.int i t)\/(∃x t,k=Sum.inr x/\v=Value.str x t)
 | .inl i,v,h=>by
  obtain⟨t,e⟩:=Value.isInt_shape (k:=i) (v:=v) h
  exact .inl ⟨i,t,rfl,e⟩
 | .inr x,v,h=>by
  obtain⟨t,e⟩:=Value.isStrOf_shape (x:=x) (v:=v) h
  exact .inr ⟨x,t,rfl,e⟩
theorem zeM(a b:Int):decide ((Sum.inl a:Key)=Sum.inl b)=(a==b):=by
 by_cases e:a=b
 ·subst e;simp
 ·have h: ¬(Sum.inl a:Key)=Sum.inl b:=fun q=>e (Sum.inl.inj q)
  rw[decide_eq_false h]
  exact(beq_eq_false_iff_ne.mpr e).symm
theorem zeN(a b:Str):decide ((Sum.inr a:Key)=Sum.inr b)=decide (a=b):=by
 by_cases e:a=b
 ·subst e;simp
 ·have h: ¬(Sum.inr a:Key)=Sum.inr b:=fun q=>e (Sum.inr.inj q)
  rw[decide_eq_false h,decide_eq_false e]
theorem zeO(a:Int)(b:Str):decide ((Sum.inl a:Key)=Sum.inr b)=false:=decide_eq_false (fun q=>nomatch q)
theorem zeP(a:Str)(b:Int):decide ((Sum.inr a:Key)=Sum.inl b)=false:=decide_eq_false (fun q=>nomatch q)
noncomputable def z0A(prog:Program)(w:World):PySem.KeyKind prog w Key where
 is:=zeL
 hash:=keyH w
 inj:=fun v a b ha hb=>by
  rcases z0j ha with⟨i,t,rfl,rfl⟩|⟨x,t,rfl,rfl⟩
  ·rcases z0j hb with⟨j,u,rfl,e⟩|⟨y,u,rfl,e⟩
   ·injection e with e1 _;rw[e1]
   ·exact nomatch e
  ·rcases z0j hb with⟨j,u,rfl,e⟩|⟨y,u,rfl,e⟩
   ·exact nomatch e
   ·injection e with e1 _;rw[e1]
 byValue:=fun k v h=>by
  rcases z0j h with⟨i,t,rfl,rfl⟩|⟨x,t,rfl,rfl⟩<;>rfl
 pyHash:=fun hv h=>by
  rcases z0j hv with⟨i,t,rfl,rfl⟩|⟨x,t,rfl,rfl⟩
  ·exact wpAny_pyHash_int h
  ·exact wpAny_pyHash_str h
 eqBool:=fun hu hv h=>by
  rcases z0j hu with⟨i,t,rfl,rfl⟩|⟨x,t,rfl,rfl⟩
  ·rcases z0j hv with⟨j,u,rfl,rfl⟩|⟨y,u,rfl,rfl⟩
   ·rw[zeM] at h;exact wpAny_eqBool_int h
   ·rw[zeO] at h;exact SeqAt.EqAt.int_str i t y u _ _ _ _ h
  ·rcases z0j hv with⟨j,u,rfl,rfl⟩|⟨y,u,rfl,rfl⟩
   ·rw[zeP] at h;exact SeqAt.EqAt.str_int x t j u _ _ _ _ h
   ·rw[zeN] at h;exact wpAny_eqBool_str h
 «strs» :=fun k x t v h=>by
  rcases z0j h with⟨i,u,rfl,e⟩|⟨y,u,rfl,e⟩
  ·exact nomatch e
  ·injection e with e1 _
   subst e1
   cases v<;>rfl
inductive V where
 |non|bl (b:Bool)|int (i:Int)|str (x:Str)|byt (b:Array UInt8)|flt (b:UInt64)|ref (a:Addr)|ty (n:String)
 deriving DecidableEq
noncomputable def RelV:V->Value->Prop
 | .non,u=>u=Value.none
 | .bl b,u=>u=Value.bool b
 | .int i,u=> ∃t,u=Value.int i t
 | .str x,u=> ∃t,u=Value.str x t
 | .byt b,u=> ∃t,u=Value.bytes b t
 | .flt b,u=> ∃t,u=Value.float b t
 | .ref a,u=>u=Value.ref a
 | .ty n,u=>u=Value.type n
noncomputable abbrev Vals:List V->List Value->Prop:=Paired RelV
theorem Vals.length{xs:List V}{us:List Value}(r:Vals xs us):xs.length=us.length:=Paired.length r
theorem Vals.get: ∀{xs:List V} {us:List Value} {i:Nat} {x:V},Vals xs us->xs[i]? =some x->∃u,us[i]? =some u/\RelV x u
 |_,_,_,_, .nil,e=>by simp at e
 |_,_,0,_, .cons r _,e=>by simp at e;subst e;exact⟨_,rfl,r⟩
 |_,_,i+1,x, .cons _ t,e=>by
  obtain⟨u,h1,h2⟩:=Vals.get (i:=i) (x:=x) t (by simpa using e)
  exact⟨u,by simpa using h1,h2⟩
theorem Vals.set{x:V}{u:Value}(r:RelV x u): ∀{xs:List V} {us:List Value} (i:Nat),Vals xs us->Vals (xs.set i x) (us.set i u)
 |_,_,_, .nil=> .nil
 |_,_,0, .cons _ t=> .cons r t
 |_,_,i+1, .cons q t=> .cons q (Vals.set r i t)
theorem Vals.append: ∀{xs ys:List V} {us ws:List Value},Vals xs us->Vals ys ws->Vals (xs++ys) (us++ws)
 |_,_,_,_, .nil,s=>s
 |_,_,_,_, .cons r t,s=> .cons r (Vals.append t s)
theorem Vals.take: ∀{xs:List V} {us:List Value} (n:Nat),Vals xs us->Vals (xs.take n) (us.take n)
 |_,_,0,_=> .nil
 |_,_,_+1, .nil=> .nil
 |_,_,n+1, .cons r t=> .cons r (Vals.take n t)
theorem Vals.drop: ∀{xs:List V} {us:List Value} (n:Nat),Vals xs us->Vals (xs.drop n) (us.drop n)
 |_,_,0,r=>r
 |_,_,_+1, .nil=> .nil
 |_,_,n+1, .cons _ t=>Vals.drop n t
noncomputable def RelO:Option V->Option Value->Prop
 |some v,some u=>RelV v u
 |none,none=>True
 |_,_=>False
noncomputable def KV{κ:Type}:List (κ×V)->List (κ×Value)->Prop:=Paired fun(p:κ×V) (q:κ×Value)=>p.1=q.1/\RelV p.2 q.2
noncomputable def kV:Key->V
 | .inl i=> .int i
 | .inr x=> .str x
theorem Paired.mapP{α β:Type}{F G:α->β->Prop}: ∀{l₁:List α} {l₂:List β},Paired F l₁ l₂->(∀a b,F a b->G a b)->Paired G l₁ l₂
 |_,_, .nil,_=> .nil
 |_,_, .cons r t,f=> .cons (f _ _ r) (Paired.mapP t f)
noncomputable abbrev NK:=List (Key⊕List Key)
section
variable(P:Program)(w:World)
noncomputable def ItN(h:Heap):Key⊕List Key->Value->Prop
 | .inl k,v=>(z0A P w).is k v=true
 | .inr ks,v=> ∃c,v= .ref c/\IsTupleKey (z0A P w) h ks c
noncomputable def IsN(h:Heap)(k:NK)(a:Addr):Prop:= ∃o items n,h.get? a=some o/\o.cls= .type "tuple" /\o.data= .seq items n/\Paired (ItN P w h) k items.toList
noncomputable def hsN:Key⊕List Key->Int
 | .inl k=>(z0A P w).hash k
 | .inr ks=>tupleKeyHash (z0A P w) ks
noncomputable def drN:Key⊕List Key->Nat
 | .inl _=>1
 | .inr ks=>ks.length+1
end
section
variable{P:Program}{w:World}{h:Heap}
theorem zd8{x y:Key⊕List Key}{v:Value}(hx:ItN P w h x v)(hy:ItN P w h y v):x=y:=by
 cases x with
 |inl k=>
  cases y with
  |inl k'=>rw[(z0A P w).inj v k k' hx hy]
  |inr ks=>obtain⟨c,rfl,_⟩:=hy;have:=(z0A P w).byValue _ _ hx;simp[carriedByValue] at this
 |inr ks=>
  obtain⟨c,rfl,hc⟩:=hx
  cases y with
  |inl k'=>have:=(z0A P w).byValue _ _ hy;simp[carriedByValue] at this
  |inr ks'=>obtain⟨c',e,hc'⟩:=hy;cases e;rw[hc.inj hc']
theorem z5Q: ∀{x y:NK} {vs:List Value},Paired (ItN P w h) x vs->Paired (ItN P w h) y vs->x=y
 |_,_,_, .nil, .nil=>rfl
 |_,_,_, .cons a b, .cons c d=>by rw[zd8 a c,z5Q b d]
variable{A:Around}{E:Value->Shared->Prop}{s:Shared}
theorem z6D{M:Model}{a:Addr}{o:Obj}{items:Array Value}{n m:Nat}{Q:Bool->Shared->Prop}(ho:s.heap.get? a=some o)(hc:o.cls= .type "tuple")(hd:o.data= .seq items n)(hi: ∀v∈items.toList,∀(R:Bool->Shared->Prop) E,R true s->wpAny M A (eqIsQuiet m v) R E s)(q:Q true s):wpAny M A (eqIsQuiet (m+1) (.ref a)) Q E s:=by
 have hT:s.TypeIs (.ref a) "tuple" :=⟨o,ho,hc⟩
 rw[eqIsQuiet]
 refine wpAny_bind (wpAny_specialOf hT PySem.F.slot_tuple_eq.lookup ?_)
 dsimp only
 refine wpAny_bind (wpAny_isInstance hT isSubtype_tuple_tuple ?_)
 rw[if_neg (by decide)]
 refine wpAny_bind (wpAny_seqItems ho hd ?_)
 refine wpAny_bind ?_
 dsimp only[Option.getD_some]
 rw[<-Array.forIn_toList]
 refine wpAny_forIn_list _ (fun r b s'=>b.1=none/\s'=s/\∀v∈r,v∈items.toList) _ ?_ ?_ _ _ ⟨rfl,rfl,fun v hv=>hv⟩
 ·rintro v r b s' ⟨_,rfl,hm⟩
  refine wpAny_bind (hi v (hm v List.mem_cons_self) _ _ ?_)
  rw[if_neg (by decide)]
  exact wpAny_pure ⟨rfl,rfl,fun u hu=>hm u (List.mem_cons_of_mem _ hu)⟩
 ·rintro ⟨b1,b2⟩ s' ⟨hb,rfl,_⟩
  dsimp only at hb
  subst hb
  exact wpAny_pure q
theorem z6E{P':Program}{w':World}: ∀{ks:List Key} {vs:List Value},ItemsAre (z0A P w) ks vs->ItemsAre (z0A P' w') ks vs
 |_,_, .nil=> .nil
 |_,_, .cons a b=> .cons a (z6E b)
theorem z9h{P':Program}{w':World}{ks:List Key}{c:Addr}(hk:IsTupleKey (z0A P w) h ks c):IsTupleKey (z0A P' w') h ks c:=by
 obtain⟨o,items,n,h1,h2,h3,h4⟩:=hk
 exact⟨o,items,n,h1,h2,h3,z6E h4⟩
theorem zeQ{x y:Key⊕List Key}{u v:Value}(hu:A.units<cLine)(hx:ItN P w s.heap x u)(hy:ItN P w s.heap y v):SeqAt.EqAt A s u v (decide (x=y)):=fun prog w' E Q q=>by
 cases x with
 |inl k=>
  cases y with
  |inl k'=>exact(z0A prog w').eqBool (a:=k) (b:=k') hx hy (by rw[show decide (k=k')=decide ((Sum.inl k:Key⊕List Key)=Sum.inl k') by by_cases e:k=k'<;>simp[e]];exact q)
  |inr ks=>
   obtain⟨c,rfl,o,items,n,h1,h2,h3,_⟩:=hy
   rw[decide_eq_false (fun e=>nomatch e)] at q
   rcases z0j hx with⟨i,t,rfl,rfl⟩|⟨z,t,rfl,rfl⟩
   ·exact SeqAt.EqAt.int_tuple i t ⟨o,h1,h2,n,h3⟩ hu prog w' E Q q
   ·exact SeqAt.EqAt.str_tuple z t ⟨o,h1,h2,n,h3⟩ hu prog w' E Q q
 |inr ks=>
  obtain⟨c,rfl,hc⟩:=hx
  cases y with
  |inl k'=>
   obtain⟨o,items,n,h1,h2,h3,_⟩:=hc
   rw[decide_eq_false (fun e=>nomatch e)] at q
   rcases z0j hy with⟨i,t,rfl,rfl⟩|⟨z,t,rfl,rfl⟩
   ·exact SeqAt.EqAt.tuple_int i t ⟨o,h1,h2,n,h3⟩ hu prog w' E Q q
   ·exact SeqAt.EqAt.tuple_str z t ⟨o,h1,h2,n,h3⟩ hu prog w' E Q q
  |inr ks'=>
   obtain⟨c',rfl,hc'⟩:=hy
   refine wpAny_eqBool_tuple (knd:=z0A prog w') hu (z9h hc) (z9h hc') ?_
   rw[show decide (ks=ks')=decide ((Sum.inr ks:Key⊕List Key)=Sum.inr ks') by by_cases e:ks=ks'<;>simp[e]];exact q
theorem zd9{α:Type}[DecidableEq α](x y:List α):((List.range (min x.length y.length)).all (fun j=>decide (x[j]? =y[j]?))&&x.length==y.length)=decide (x=y):=by
 rw[Bool.eq_iff_iff]
 simp only[Bool.and_eq_true,List.all_eq_true,List.mem_range,decide_eq_true_eq,beq_iff_eq]
 constructor
 ·rintro ⟨h1,h2⟩
  apply List.ext_getElem?
  intro j
  by_cases hj:j<x.length
  ·exact h1 j (by lia)
  ·rw[List.getElem?_eq_none (by lia),List.getElem?_eq_none (by lia)]
 ·rintro rfl;exact⟨fun _ _=>rfl,rfl⟩
theorem Paired.get2{α β:Type}{F:α->β->Prop}: ∀{l:List α} {m:List β},Paired F l m->∀j (h1:j<l.length) (h2:j<m.length),F l[j] m[j]
 |_,_, .cons a b,0,_,_=>a
 |_,_, .cons a b,j+1,h1,h2=>Paired.get2 b j (by simpa using h1) (by simpa using h2)
theorem zeR{x y:NK}{a b:Addr}{Q:Bool->Shared->Prop}(hu:A.units+1<cLine)(hx:IsN P w s.heap x a)(hy:IsN P w s.heap y b)(q:Q (decide (x=y)) s):wpAny (model P w) A (eqBool (.ref a) (.ref b)) Q E s:=by
 by_cases e:a=b
 ·subst e
  obtain⟨o,items,n,h1,h2,h3,h4⟩:=hx
  obtain⟨o',items',n',k1,k2,k3,k4⟩:=hy
  obtain rfl:o=o':=Option.some.inj (h1.symm.trans k1)
  rw[h3] at k3
  injection k3 with k3 _
  subst k3
  obtain rfl:=z5Q h4 k4
  exact SeqAt.EqAt.same _ P w E Q (by simpa using q)
 ·obtain⟨o,items,n,h1,h2,h3,h4⟩:=hx
  obtain⟨o',items',n',k1,k2,k3,k4⟩:=hy
  have l1:x.length=items.size:=by have:=Paired.length h4;simpa using this
  have l2:y.length=items'.size:=by have:=Paired.length k4;simpa using this
  refine SeqAt.EqAt.of_refs e (SeqAt.RcAt.tuples (e:=fun j=>decide (x[j]? =y[j]?)) ⟨o,h1,h2,n,h3⟩ ⟨o',k1,k2,n',k3⟩ (by lia) fun j j1 j2=> ?_) P w E Q ?_
  ·have:=zeQ (A:=A.in1) (show A.units+1<cLine from hu) (Paired.get2 h4 j (by lia) (by simpa using j1)) (Paired.get2 k4 j (by lia) (by simpa using j2))
   rw[List.getElem?_eq_getElem (by lia),List.getElem?_eq_getElem (by lia)]
   simpa using this
  ·rw[<-l1,<-l2,zd9];exact q
theorem zbd{k:Key⊕List Key}{v:Value}{Q:Int->Shared->Prop}(hu:A.units<cLine)(hk:ItN P w s.heap k v)(q:Q (hsN P w k) {s with toks:=s.toks+drN k}):wpAny (model P w) A (pyHash v) Q E s:=by
 cases k with
 |inl k=>exact(z0A P w).pyHash hk q
 |inr ks=>obtain⟨c,rfl,hc⟩:=hk;exact wpAny_pyHash_tuple hu hc q
theorem zbe{k:NK}{a:Addr}{Q:Int->Shared->Prop}(hu:A.units+1<cLine)(hk:IsN P w s.heap k a)(q:Q (reduceHash (Builtin.Tuple.tupleHashOf (k.map (hsN P w)))) {s with toks:=s.toks+((k.map drN).sum+1)}):wpAny (model P w) A (pyHash (.ref a)) Q E s:=by
 obtain⟨o,items,n,ho,hc,hd,hi⟩:=hk
 have hT:s.TypeIs (.ref a) "tuple" :=⟨o,ho,hc⟩
 unfold pyHash
 unfold pyHashByItsType
 refine wpAny_bind (wpAny_cRoomFor_or (.inr (by lia)) ?_)
 refine wpAny_bind (wpAny_specialOf hT PySem.F.slot_tuple_hash.lookup ?_)
 rw[if_neg (show ¬(some (Value.builtin "tuple.__hash__")==some Value.none)=true by rw[beq_builtin_none];decide)]
 refine wpAny_bind (wpAny_specialOf hT PySem.F.slot_tuple_hash.lookup ?_)
 refine wpAny_bind (wpAny_callSpecialIfBoundUnlessNone?_slot hT PySem.F.slot_tuple_hash (wpAny_call_entry PySem.F.slot_tuple_hash hT PySem.F.entry_tuple_hash ?_ (PySem.F.args_tuple_hash_1 _)))
 change wpAny _ A.in1 (Builtin.Tuple.tupleItemsOf (Value.ref a)>>=_) _ _ s
 refine wpAny_bind (wpAny_tupleItemsOf ho hd (wpAny_bind ?_))
 rw[<-Array.forIn_toList]
 refine wpAny_forIn_list _ (fun r (b:Array Int) s'=> ∃d l,k=d++l/\Paired (ItN P w s.heap) l r/\b.toList=d.map (hsN P w)/\s'={s with toks:=s.toks+(d.map drN).sum}) _ ?_ ?_ _ _ ⟨[],k,rfl,hi,rfl,rfl⟩
 ·rintro x r b s' ⟨d,l,rfl,hl,hb,rfl⟩
  cases hl with
  | @cons z _ l' _ h1 hl'=>
   refine wpAny_bind (zbd (A:=A.in1) (s:={s with toks:=s.toks+(d.map drN).sum}) (show A.units+1<cLine from hu) h1 ?_)
   have fin: ∃d' l2,d++z::l'=d'++l2/\Paired (ItN P w s.heap) l2 r/\(b.push (hsN P w z)).toList=d'.map (hsN P w)/\({s with toks:=s.toks+(d.map drN).sum+drN z}:Shared)={s with toks:=s.toks+(d'.map drN).sum}:=⟨d++[z],l',by simp,hl',by simp[hb],by simp[Nat.add_assoc]⟩
   exact wpAny_pure fin
 ·rintro b s' ⟨d,l,rfl,hl,hb,rfl⟩
  cases hl
  rw[List.append_nil] at q
  change wpAny _ A.in1 (retInt (Builtin.Tuple.tupleHashOf b.toList)) _ _ _
  rw[hb]
  refine wpAny_ret_mkInt ?_
  unfold reduceHash at q
  show wpAny _ _ (if(decide (-(2:Int)^63<=Builtin.Tuple.tupleHashOf (d.map (hsN P w)))&&decide (Builtin.Tuple.tupleHashOf (d.map (hsN P w))<2^63))=true then _ else _) Q E _
  split
  ·rename_i hr
   rw[if_pos hr] at q
   exact wpAny_pure (by simpa[Nat.add_assoc] using q)
  ·rename_i hr
   rw[if_neg hr] at q
   exact wpAny_bind (wpAny_rule (wpAny_pure (by simpa[Nat.add_assoc] using q)))
theorem z9i{k:NK}{a:Addr}{Q:Bool->Shared->Prop}(hk:IsN P w s.heap k a)(q:Q true s):wpAny (model P w) A (eqIsQuiet 8 (.ref a)) Q E s:=by
 obtain⟨o,items,n,h1,h2,h3,h4⟩:=hk
 refine z6D h1 h2 h3 (fun v hv R E' r=> ?_) q
 have all: ∀{k:NK} {vs:List Value},Paired (ItN P w s.heap) k vs->∀v∈vs,∃z,ItN P w s.heap z v:=by
  intro k vs p
  induction p with
  |nil=>intro v hv;cases hv
  |cons a b ih=>
   intro v hv
   rcases List.mem_cons.mp hv with rfl|hv
   ·exact⟨_,a⟩
   ·exact ih v hv
 obtain⟨z,hz⟩:=all h4 v hv
 cases z with
 |inl k=>rw[eqIsQuiet_byValue _ ((z0A P w).byValue _ _ hz)];exact wpAny_pure r
 |inr ks=>
  obtain⟨c,rfl,o,items,n,h1,h2,h3,h4⟩:=hz
  exact z6D h1 h2 h3 (fun v hv R E' r=>by rw[eqIsQuiet_byValue _ (h4.byValue v hv)];exact wpAny_pure r) r
theorem z9j{h':Heap}{d:Addr}{o:Obj}{es:Array DictEntry}{ep:Nat}(ho:h.get? d=some o)(hd:o.data= .dict es ep)(hs:Heap.SameBut d h h'): ∀{k:NK} {vs:List Value},Paired (ItN P w h) k vs->Paired (ItN P w h') k vs:=fun p=>Paired.mapP p fun z v q=>by
 cases z with
 |inl k=>exact q
 |inr ks=>obtain⟨c,rfl,hc⟩:=q;exact⟨c,rfl,hc.keeps ho hd hs⟩
end
noncomputable def zbf(P:Program)(w:World):HeapKind P w NK where
 is:=IsN P w
 hash:=fun k=>reduceHash (Builtin.Tuple.tupleHashOf (k.map (hsN P w)))
 draws:=fun k=>(k.map drN).sum+1
 room:=fun A=>A.units+1<cLine
 inj:=fun⟨o,items,n,h1,_,h3,h4⟩ ⟨o',items',n',k1,_,k3,k4⟩=>by
  obtain rfl:o=o':=Option.some.inj (h1.symm.trans k1)
  rw[h3] at k3
  injection k3 with k3 _
  subst k3
  exact z5Q h4 k4
 keeps:=fun{h h' k a d o es ep} ⟨o',items,n,h1,h2,h3,h4⟩ ho hd hs=>by
  have hne:a≠d:=by
   rintro rfl
   obtain rfl:o'=o:=Option.some.inj (h1.symm.trans ho)
   rw[hd] at h3;cases h3
  exact⟨o',items,n,(hs.2 a hne).trans h1,h2,h3,z9j ho hd hs h4⟩
 pyHash:=fun hu hk q=>zbe hu hk q
 eqBool:=fun hu hx hy q=>zeR hu hx hy q
 quiet:=fun hk q=>z9i hk q
inductive HO where
 |lst (xs:List V)
 |tup (xs:List V)
 |dK (kvs:List (Key×V))|dT (kvs:List (NK×V))
 |set (S:Int->Bool) (n:Nat)
 |ins (C dx:Addr) (fs:List (Str×V))
 |own (x:Addr)
 |xd (fs:List (Str×V))
 |met (f x:Addr)
 |rng (lo hi:Int)
 |frz (o:Obj) (u:HO)
 |tbl (ps:Array Value)
 |ext (φ:Heap->Prop)
noncomputable abbrev Hp:=Addr->Option HO
noncomputable def upd(H:Hp)(a:Addr)(o:HO):Hp:=fun b=>if b=a then some o else H b
theorem z0f{H:Hp}{a:Addr}{o:HO}:upd H a o a=some o:=by unfold upd;rw[if_pos rfl]
theorem z08{H:Hp}{a b:Addr}{o:HO}(h:b≠a):upd H a o b=H b:=by unfold upd;rw[if_neg h]
theorem zbg{H:Hp}{a b:Addr}{o u:HO}(h:H a=some o)(h':H b=some u)(d:o≠u):a≠b:=by
 intro e;subst e;rw[h] at h';exact d (Option.some.inj h')
theorem z0H{H:Hp}{a b:Addr}{o:HO}(h:H a=some o)(h':H b=none):a≠b:=by
 intro e;subst e;rw[h] at h';cases h'
noncomputable def TKi(H:Hp):Key⊕List Key->V->Prop
 | .inl k,x=>x=kV k
 | .inr ks,x=> ∃c,x= .ref c/\H c=some (.tup (ks.map kV))
noncomputable def TK(H:Hp)(k:NK)(b:Addr):Prop:= ∃xs,H b=some (.tup xs)/\Paired (TKi H) k xs
theorem TK.stay{H H':Hp}{k:NK}{b:Addr}(ht: ∀b xs,H b=some (.tup xs)->H' b=some (.tup xs))(h:TK H k b):TK H' k b:=by
 obtain⟨xs,h1,h2⟩:=h
 refine⟨xs,ht _ _ h1,Paired.mapP h2 fun z x q=> ?_⟩
 cases z with
 |inl k=>exact q
 |inr ks=>obtain⟨c,e,q⟩:=q;exact⟨c,e,ht _ _ q⟩
section
variable(P:Program)(w:World)
noncomputable def z3u(H:Hp)(h:Heap)(a:Addr):HO->Prop
 | .lst xs=>xs.length<=sizeLine/\∃(its:List Value) (n:Nat),Vals xs its/\h.get? a=some {cls:= .type "list",data:= .seq its.toArray n}
 | .tup xs=>xs.length<=sizeLine/\∃its:List Value,Vals xs its/\IsTup h a its.toArray
 | .dK kvs=>kvs.length<=sizeLine/\(a==sysModules)=false/\∃vs,KV kvs vs/\h.DictOf (z0A P w) a vs
 | .dT kvs=>kvs.length<=sizeLine/\(a==sysModules)=false/\∃xs:List (NK×Addr×Value),
  Paired (fun(p:NK×V) (q:NK×Addr×Value)=>p.1=q.1/\TK H p.1 q.2.1/\RelV p.2 q.2.2) kvs xs/\
  ∃o es ep,h.get? a=some o/\o.ExactDict/\o.data= .dict es ep/\es.toList=xs.map (entryOfKey (zbf P w))/\(xs.map (·.1)).Nodup
 | .set S n=>h.SetOf (intKind P w) a S n
 | .ins C dx fs=>H dx=some (.own a)/\fs.length<=1000/\dx≠a/\h.get? a=some (W.instObj C dx)/\
  ∃mA,h.Ns1 dx mA/\(∀f,RelO (fs.lookup f) (mA f))/\PySem.Within mA (fs.map (·.1))
 | .own _=> ∃o,h.get? a=some o
 | .xd fs=> ∃mA,h.Ns1 a mA/\∀f,RelO (fs.lookup f) (mA f)
 | .rng lo hi=> ∃t u v,h.get? a=some {cls:= .type "range",data:= .fields #[.int lo t, .int hi u, .int 1 v]}
 | .frz o u=>h.get? a=some o/\z3u H h a u
 | .tbl ps=>h.get? a=some {cls:= .none,data:= .fields ps}
 | .met f x=>h.get? a=some (W.methodObj (.ref f) (.ref x))
 | .ext φ=>φ h/\(∃o,h.get? a=some o)/\∀h1 h2:Heap,φ h1->(∀o,h1.get? a=some o->h2.get? a=some o)->φ h2
noncomputable def HOk(H:Hp)(h:Heap):Prop:= ∀a o,H a=some o->z3u P w H h a o
end
section
variable{P:Program}{w:World}{H H':Hp}{h h':Heap}{a:Addr}{o:HO}
theorem z3u.lt(x:z3u P w H h a o):a<h.objs.size:=by
 cases o with
 |lst xs=>obtain⟨_,_,_,_,e⟩:=x;exact Heap.lt_size e
 |tup xs=>obtain⟨_,_,_,p⟩:=x;exact p.lt
 |dK kvs=>obtain⟨_,_,_,_,o,_,_,e,_⟩:=x;exact Heap.lt_size e
 |dT kvs=>obtain⟨_,_,_,_,o,_,_,e,_⟩:=x;exact Heap.lt_size e
 |set S n=>obtain⟨o,_,_,_,e,_⟩:=x;exact Heap.lt_size e
 |ins C dx fs=>obtain⟨_,_,_,e,_⟩:=x;exact Heap.lt_size e
 |own y=>obtain⟨_,e⟩:=x;exact Heap.lt_size e
 |xd fs=>obtain⟨_,⟨_,_,_,e,_⟩,_⟩:=x;exact Heap.lt_size e
 |rng lo hi=>obtain⟨_,_,_,e⟩:=x;exact Heap.lt_size e
 |frz ob u=>obtain⟨e,_⟩:=x;exact Heap.lt_size e
 |tbl ps=>exact Heap.lt_size (show h.get? a=some _ from x)
 |met f y=>exact Heap.lt_size (show h.get? a=some _ from x)
 |ext φ=>obtain⟨_,⟨_,e⟩,_⟩:=x;exact Heap.lt_size e
theorem z3u.stay(x:z3u P w H h a o)(k: ∀b u,(b=a\/H b=some (.own a))->h.get? b=some u->h'.get? b=some u)
 (ho: ∀b,H b=some (.own a)->H' b=some (.own a)) (ht: ∀b xs,H b=some (.tup xs)->H' b=some (.tup xs)):z3u P w H' h' a o:=by
 induction o with
 |lst xs=>obtain⟨z,its,n,r,e⟩:=x;exact⟨z,its,n,r,k _ _ (.inl rfl) e⟩
 |tup xs=>obtain⟨z,its,r,ob,e,c⟩:=x;exact⟨z,its,r,ob,k _ _ (.inl rfl) e,c⟩
 |dK kvs=>obtain⟨z,y,vs,r,ob,es,ep,e,c⟩:=x;exact⟨z,y,vs,r,ob,es,ep,k _ _ (.inl rfl) e,c⟩
 |dT kvs=>
  obtain⟨z,y,xs,r,ob,es,ep,e,c⟩:=x
  exact⟨z,y,xs,Paired.mapP r fun p q z=>⟨z.1,z.2.1.stay ht,z.2.2⟩,ob,es,ep,k _ _ (.inl rfl) e,c⟩
 |set S n=>obtain⟨ob,es,ep,t,e,c⟩:=x;exact⟨ob,es,ep,t,k _ _ (.inl rfl) e,c⟩
 |ins C dx fs=>
  obtain⟨d,z,ne,e,mA,⟨od,es,ep,e2,c⟩,r⟩:=x
  exact⟨ho _ d,z,ne,k _ _ (.inl rfl) e,mA,⟨od,es,ep,k _ _ (.inr d) e2,c⟩,r⟩
 |own y=>obtain⟨ob,e⟩:=x;exact⟨ob,k _ _ (.inl rfl) e⟩
 |xd fs=>obtain⟨mA,⟨od,es,ep,e,c⟩,r⟩:=x;exact⟨mA,⟨od,es,ep,k _ _ (.inl rfl) e,c⟩,r⟩
 |rng lo hi=>obtain⟨t,u,v,e⟩:=x;exact⟨t,u,v,k _ _ (.inl rfl) e⟩
 |frz ob u ih=>obtain⟨e,q⟩:=x;exact⟨k _ _ (.inl rfl) e,ih q⟩
 |tbl ps=>
  have e:h.get? a=some {cls:= .none,data:= .fields ps}:=x
  show h'.get? a=some {cls:= .none,data:= .fields ps}
  exact k a _ (.inl rfl) e
 |met f y=>
  have e:h.get? a=some (W.methodObj (.ref f) (.ref y)):=x
  show h'.get? a=some (W.methodObj (.ref f) (.ref y))
  exact k a _ (.inl rfl) e
 |ext φ=>obtain⟨p,⟨o,e⟩,st⟩:=x;exact⟨st _ _ p fun o q=>k _ _ (.inl rfl) q,⟨o,k _ _ (.inl rfl) e⟩,st⟩
theorem HOk.lt(x:HOk P w H h)(e:H a=some o):a<h.objs.size:=(x a o e).lt
theorem HOk.fresh(x:HOk P w H h)(e:h.objs.size<=a):H a=none:=by
 cases q:H a with
 |none=>rfl
 |some u=>exact absurd (Nat.lt_of_lt_of_le (x.lt q) e) (Nat.lt_irrefl _)
theorem HOk.kept(x:HOk P w H h)(k: ∀b u,h.get? b=some u->h'.get? b=some u):HOk P w H h':=fun a o e=>
 (x a o e).stay (fun b u _ q=>k b u q) (fun _ q=>q) fun _ _ q=>q
theorem HOk.laid(x:HOk P w H h)(k: ∀b u,h.get? b=some u->h'.get? b=some u)(hp:h.objs.size<=a)(new:z3u P w (upd H a o) h' a o):HOk P w (upd H a o) h':=fun b u e=>by
 have hn:=x.fresh hp
 by_cases hb:b=a
 ·subst hb;rw[z0f] at e;cases e;exact new
 ·rw[z08 hb] at e
  exact(x b u e).stay (fun c v _ q=>k c v q) (fun c q=>by rw[z08 (z0H q hn)];exact q) fun c xs q=>by rw[z08 (z0H q hn)];exact q
end
noncomputable def Rd(H:Hp)(a:Addr)(u:HO):Prop:=H a=some u\/∃o,H a=some (.frz o u)
theorem Rd.ok{P:Program}{w:World}{H:Hp}{h:Heap}{a:Addr}{u:HO}(r:Rd H a u)(x:HOk P w H h):z3u P w H h a u:=by
 rcases r with r|⟨o,r⟩
 ·exact x a u r
 ·obtain⟨_,q⟩:=x a _ r
  exact q
noncomputable def Mut:Option HO->Prop
 |some (.lst _)=>True
 |some (.dK _)=>True
 |some (.dT _)=>True
 |some (.set _ _)=>True
 |some (.ins _ _ _)=>True
 |some (.ext _)=>True
 |_=>False
section
variable{P:Program}{w:World}{H:Hp}{h h':Heap}{x e:Addr}{o':HO}
theorem HOk.write(ok:HOk P w H h)(mu:Mut (H x))(he:e=x\/H e=some (.own x))(k: ∀b u,b≠e->h.get? b=some u->h'.get? b=some u)(heo: ∃u,h'.get? e=some u)
 (new:z3u P w (upd H x o') h' x o'):HOk P w (upd H x o') h':=fun b u q=>by
 have nown: ∀c y,H c=some (.own y)->c≠x:=fun c y r z=>by subst z;rw[r] at mu;exact mu
 have ntup: ∀c xs,H c=some (.tup xs)->c≠x:=fun c xs r z=>by subst z;rw[r] at mu;exact mu
 by_cases hb:b=x
 ·subst hb;rw[z0f] at q;cases q;exact new
 ·rw[z08 hb] at q
  by_cases hbe:b=e
  ·have q':H b=some (.own x):=by
    rcases he with z|z
    ·exact absurd (hbe.trans z) hb
    ·rw[hbe];exact z
   rw[q] at q';cases q'
   obtain⟨v,hv⟩:=heo
   exact⟨v,by rw[hbe];exact hv⟩
  ·refine(ok b u q).stay (fun c v hc r=>k c v ?_ r) (fun c r=>by rw[z08 (nown c b r)];exact r) fun c xs r=>by rw[z08 (ntup c xs r)];exact r
   rcases hc with rfl|hc
   ·exact hbe
   ·rintro rfl
    rcases he with z|z
    ·exact nown c b hc z
    ·rw[hc] at z;cases z;exact hb rfl
end
structure Un(fs ex:List Addr)(H H':Hp)(h h':Heap):Prop where
 keep: ∀b o,h.get? b=some o->H b=none->b∉fs->b∉ex->h'.get? b=some o
 slot: ∀b o,h.get? b=some o->H b=none->b∈fs->b∉ex->∃sl,h'.get? b=some {o with slots:=sl}
 free: ∀b o,h.get? b=some o->H b=none->b∉ex->H' b=none
 there: ∀b o,h.get? b=some o->b∉ex->∃o',h'.get? b=some o'
 tups: ∀b xs,H b=some (.tup xs)->H' b=some (.tup xs)
 frzs: ∀b o u,H b=some (.frz o u)->H' b=some (.frz o u)
 tbls: ∀b ps,H b=some (.tbl ps)->∃more,H' b=some (.tbl (ps++more))
section
variable{fs fs' ex ex':List Addr}{H H1 H2:Hp}{h h1 h2 h':Heap}{a x e:Addr}{o:HO}
theorem Un.any(u:Un fs ex H H1 h h1){b:Addr}{ob:Obj}(q:h.get? b=some ob)(n:H b=none)(hx:b∉ex): ∃sl,h1.get? b=some {ob with slots:=sl}:=by
 by_cases hb:b∈fs
 ·exact u.slot b ob q n hb hx
 ·exact⟨ob.slots,u.keep b ob q n hb hx⟩
theorem Un.kept(k: ∀b u,h.get? b=some u->h'.get? b=some u):Un fs ex H H h h':=
 ⟨fun b ob q _ _ _=>k b ob q,fun b ob q _ _ _=>⟨ob.slots,k b ob q⟩,fun _ _ _ n _=>n,fun b ob q _=>⟨ob,k b ob q⟩,fun _ _ q=>q,fun _ _ _ q=>q,fun _ ps q=>⟨#[],by rw[q];simp⟩⟩
theorem Un.refl:Un fs ex H H h h:=Un.kept fun _ _ q=>q
theorem Un.laid(k: ∀b u,h.get? b=some u->h'.get? b=some u)(hp:h.objs.size<=a)(hn:H a=none):Un fs ex H (upd H a o) h h' where
 keep:=fun b u q _ _ _=>k b u q
 slot:=fun b u q _ _ _=>⟨u.slots,k b u q⟩
 free:=fun b u q n _=>by rw[z08 (Nat.ne_of_lt (Nat.lt_of_lt_of_le (Heap.lt_size q) hp))];exact n
 there:=fun b u q _=>⟨u,k b u q⟩
 tups:=fun b xs q=>by rw[z08 (z0H q hn)];exact q
 frzs:=fun b u xs q=>by rw[z08 (z0H q hn)];exact q
 tbls:=fun b ps q=>⟨#[],by rw[z08 (z0H q hn),q];simp⟩
theorem Un.write(mu:Mut (H x))(he:e=x\/H e=some (.own x))(k: ∀b u,b≠e->h.get? b=some u->h'.get? b=some u)(heo: ∃u,h'.get? e=some u):Un fs ex H (upd H x o) h h':=by
 have hx: ∀b,H b=none->b≠x:=fun b n z=>by subst z;rw[n] at mu;exact mu
 have hb: ∀b,H b=none->b≠e:=fun b n z=>by
  subst z
  rcases he with r|r
  ·exact hx b n r
  ·rw[n] at r;cases r
 have hm: ∀b u,H b=some u->¬Mut (some u)->b≠x:=fun b u q nm z=>by subst z;rw[q] at mu;exact nm mu
 refine⟨fun b u q n _ _=>k b u (hb b n) q,fun b u q n _ _=>⟨u.slots,k b u (hb b n) q⟩,fun b u q n _=>by rw[z08 (hx b n)];exact n,fun b u q _=> ?_,
  fun b xs q=>by rw[z08 (hm b _ q fun z=>z)];exact q,fun b u xs q=>by rw[z08 (hm b _ q fun z=>z)];exact q,fun b ps q=>⟨#[],by rw[z08 (hm b _ q fun z=>z),q];simp⟩⟩
 by_cases hbe:b=e
 ·subst hbe;exact heo
 ·exact⟨u,k b u hbe q⟩
end
noncomputable def trk(h:Heap)(H:Hp):List Addr:=(List.range h.objs.size).filter fun a=>(H a).isSome
noncomputable def hidT(h:Heap)(H:Hp):Heap:=W.hideAll h (trk h H)
theorem z9k(h:Heap)(H:Hp):(hidT h H).objs.size=h.objs.size:=W.hideAll_size _ _
theorem zbh{h:Heap}{H:Hp}{b:Addr}{o:Obj}(e:h.get? b=some o)(n:H b=none):(hidT h H).get? b=some o:=
 W.hideAll_get _ e fun hm=>by
  have q:(H b).isSome=true:=(List.mem_filter.mp hm).2
  rw[n] at q;simp at q
theorem zda{h:Heap}{H:Hp}{b:Addr}{o:Obj}(e:(hidT h H).get? b=some o):h.get? b=some o/\H b=none:=by
 have e':h.get? b=some o:=W.of_hideAll (trk h H) e
 refine⟨e', ?_⟩
 cases q:H b with
 |none=>rfl
 |some x=>
  have hm:b∈trk h H:=List.mem_filter.mpr ⟨List.mem_range.mpr (Heap.lt_size e'),by simp[q]⟩
  have z:(hidT h H).get? b=none:=W.hideAll_none (trk h H) hm
  rw[z] at e;cases e
noncomputable def zdb(g h:Heap)(L:Addr):List (Addr×Obj):=(List.range h.objs.size).filterMap fun a=>if a=L\/(g.get? a).isSome=true then none else(h.get? a).map fun o=>(a,o)
noncomputable def rest(g h:Heap)(L d:Addr):List (Addr×Obj):=(zdb g h L).filter fun p=>decide (p.1≠d)
structure Mod(K:W.Frag)(mg:Str->Option Value)(base:Heap):Prop where
 kin:K.In base
 glob:base.Ns mainGlobals mg
 blt: ∃mb,base.Ns builtinsNs mb/\∀x:Str,x≠ "__name__" ->mb x=bootBuiltins x
 nolimit:base.NoLimit
structure Cx where
 prog:Program
 w:World
 K:W.Frag
 mg:Str->Option Value
 base:Heap
 A:Around
 N:List Str
 s₀:Shared
 H₀:Hp
 env:Env
 outer:List Env
 stack:List Env
 ex:List Addr
 fn:Str->Bool
 calm:Bool
 pn:List (Addr×Obj)
 xe:Value->Shared->Prop
noncomputable def frs(l:List Env):List Addr:=l.filterMap (·.frame)
noncomputable abbrev Cx.fs(X:Cx):List Addr:=frs X.outer
noncomputable def Vis(sc:Scope)(x:Str):Prop:=sc.names.lookup x=some .local\/sc.names.lookup x=some .cell\/sc.names.lookup x=some .free
noncomputable def Loc(sc:Scope)(x:Str):Prop:=sc.names.lookup x=some .local\/sc.names.lookup x=some .cell
noncomputable def Look(env:Env)(h:Heap)(m:Str->Option Value)(x:Str)(u:Value):Prop:=
 (env.kindOf x=some .local/\m x=some u)\/((env.kindOf x=some .cell\/env.kindOf x=some .free)/\∃c,env.cells.lookup x=some c/\h.IsCell c (some u))
structure Cx.Ok(X:Cx):Prop where
 mod:Mod X.K X.mg X.base
 kind:X.env.scope.kind= .function
 glob:X.env.globals=mainGlobals
 blt:X.env.builtins=builtinsNs
 above:X.s₀.heap.objs.size<=X.env.locals
 inj: ∀x y c,X.env.cells.lookup x=some c->X.env.cells.lookup y=some c->x=y
 has: ∀x,(X.env.kindOf x=some .cell\/X.env.kindOf x=some .free)->∃c,X.env.cells.lookup x=some c
 cab: ∀x c,X.fn x=true->X.env.cells.lookup x=some c->X.s₀.heap.objs.size<=c
 hd:X.calm=true->X.A.handled=none
 frames:X.A.frames=some X.stack
 stk:X.stack=X.outer\/(X.stack=X.env::X.outer/\X.env.frame=some X.env.locals)
 exf: ∀b∈X.ex,b≠X.env.locals/\∀x c,X.env.cells.lookup x=some c->c≠b
 bs: ∀b o,X.base.get? b=some o->X.s₀.heap.get? b=some o/\X.H₀ b=none
 bsz:X.base.objs.size<=X.s₀.heap.objs.size
 noex: ∀b o,X.base.get? b=some o->b∉X.ex
 exfs: ∀b∈X.ex,b∉X.fs
 funs:X.s₀.heap.FunFrames X.base X.outer
 frf: ∀b∈X.fs,X.H₀ b=none
structure Inv(X:Cx)(pins:List (Addr×Obj))(σ:List (Option V))(H:Hp)(s:Shared):Prop where
 ok:X.Ok
 os:s.os=X.s₀.os
 bare:AllBare s.gens
 base:Un X.fs X.ex X.H₀ H X.s₀.heap s.heap
 loc: ∃m,s.heap.Ns X.env.locals m/\∀(i:Nat) (x:Str) (v:V),X.N[i]? =some x->σ[i]? =some (some v)->Vis X.env.scope x->∃u,RelV v u/\Look X.env s.heap m x u
 cell: ∀x c,X.env.cells.lookup x=some c->∃v,s.heap.IsCell c v
 free:H X.env.locals=none
 freeC: ∀x c,X.env.cells.lookup x=some c->H c=none
 pin: ∀p∈X.pn++pins,s.heap.get? p.1=some p.2/\H p.1=none/\p.1≠X.env.locals/\p.1∉X.fs/\∀v,p.2.data≠ .cell v
 hok:HOk X.prog X.w H s.heap
 len:σ.length=X.N.length
section
variable{X:Cx}{pins:List (Addr×Obj)}{σ:List (Option V)}{H H':Hp}{s:Shared}{h':Heap}
theorem Cx.Ok.nofr(ok:X.Ok){b:Addr}{o:Obj}(e:X.base.get? b=some o):b∉X.fs:=fun hb=>by
 have:=(ok.funs.mem hb).1
 rw[e] at this;cases this
theorem Inv.bs(I:Inv X pins σ H s): ∀b o,X.base.get? b=some o->s.heap.get? b=some o/\H b=none:=fun b o e=>
 ⟨I.base.keep b o (I.ok.bs b o e).1 (I.ok.bs b o e).2 (I.ok.nofr e) (I.ok.noex b o e),I.base.free b o (I.ok.bs b o e).1 (I.ok.bs b o e).2 (I.ok.noex b o e)⟩
theorem Inv.bk(I:Inv X pins σ H s): ∀b o,X.base.get? b=some o->s.heap.get? b=some o:=fun b o e=>(I.bs b o e).1
theorem Inv.mod(I:Inv X pins σ H s):Mod X.K X.mg X.base:=I.ok.mod
theorem Inv.kIn(I:Inv X pins σ H s):X.K.In s.heap:=I.ok.mod.kin.keeps I.bk
theorem Inv.lt(I:Inv X pins σ H s):X.env.locals<s.heap.objs.size:=let⟨_,hn,_⟩:=I.loc;hn.lt
theorem Inv.sz(I:Inv X pins σ H s):X.s₀.heap.objs.size<=s.heap.objs.size:=Nat.le_trans I.ok.above (Nat.le_of_lt I.lt)
theorem Inv.nofs(I:Inv X pins σ H s){a:Addr}(h:s.heap.objs.size<=a):a∉X.fs:=fun hb=>by
 obtain⟨_,o,ho,_⟩:=I.ok.funs.mem hb
 exact absurd (Nat.lt_of_lt_of_le (Heap.lt_size ho) (Nat.le_trans I.sz h)) (Nat.lt_irrefl _)
theorem Inv.cne(I:Inv X pins σ H s): ∀x c,X.env.cells.lookup x=some c->c≠X.env.locals:=fun x c e z=>by
 obtain⟨v,o,ho,hd⟩:=I.cell x c e
 obtain⟨m,⟨o',es,ep,ho',hd',_⟩,_⟩:=I.loc
 rw[z,ho'] at ho;cases ho;rw[hd'] at hd;cases hd
theorem Inv.funs(I:Inv X pins σ H s):s.heap.FunFrames X.base X.outer:=by
 have all: ∀(l:List Env),(∀b∈frs l,b∈X.fs)->X.s₀.heap.FunFrames X.base l->s.heap.FunFrames X.base l:=by
  intro l
  induction l with
  |nil=>intro _ _;trivial
  |cons env r ih=>
   intro hs hl
   obtain⟨hk,⟨L,o,hf,hn,ho,hd⟩,hr⟩:=hl
   have hL:L∈X.fs:=hs L (by unfold frs;rw[List.filterMap_cons,hf];exact List.mem_cons_self)
   obtain⟨sl,e⟩:=I.base.slot L o ho (I.ok.frf L hL) hL fun z=>I.ok.exfs L z hL
   exact⟨hk,⟨L,_,hf,hn,e,hd⟩,ih (fun b hb=>hs b (by unfold frs;rw[List.filterMap_cons,hf];exact List.mem_cons_of_mem _ hb)) hr⟩
 exact all X.outer (fun _ hb=>hb) I.ok.funs
theorem Inv.stack(I:Inv X pins σ H s):s.heap.FunFrames X.base X.stack:=by
 rcases I.ok.stk with e|⟨e,hf⟩
 ·rw[e];exact I.funs
 ·rw[e]
  obtain⟨m,hn,_⟩:=I.loc
  refine .cons (by rw[I.ok.kind];decide) hf hn ?_ I.funs
  exact Heap.get?_none_of_le (Nat.le_trans I.ok.bsz I.ok.above)
theorem Inv.stkSub(I:Inv X pins σ H s): ∀b∈frs X.stack,b∈X.env.locals::X.fs:=fun b hb=>by
 rcases I.ok.stk with e|⟨e,hf⟩
 ·rw[e] at hb;exact List.mem_cons_of_mem _ hb
 ·rw[e] at hb
  unfold frs at hb
  rw[List.filterMap_cons,hf] at hb
  exact hb
theorem Inv.stkFree(I:Inv X pins σ H s): ∀b∈frs X.stack,H b=none:=fun b hb=>by
 rcases List.mem_cons.mp (I.stkSub b hb) with e|hb
 ·rw[e];exact I.free
 ·obtain⟨_,o,ho,_⟩:=I.ok.funs.mem hb
  exact I.base.free b o ho (I.ok.frf b hb) fun z=>I.ok.exfs b z hb
theorem Inv.step{g':Array GenState}{t':Nat}{d':Drawn}{ch:List Addr}(I:Inv X pins σ H s)
 (hch: ∀b∈ch,(b∈X.ex\/X.s₀.heap.objs.size<=b)/\b≠X.env.locals/\(∀x c,X.env.cells.lookup x=some c->c≠b)/\∀p∈X.pn++pins,p.1≠b)
 (keep: ∀b o,b≠X.env.locals->b∉X.fs->b∉ch->s.heap.get? b=some o->H b=none->h'.get? b=some o)
 (slot: ∀b o,b≠X.env.locals->b∈X.fs->b∉ch->s.heap.get? b=some o->H b=none->∃sl,h'.get? b=some {o with slots:=sl}) (free: ∀b o,b∉ch->s.heap.get? b=some o->H b=none->H' b=none)
 (there: ∀b o,b∉ch->s.heap.get? b=some o->∃o',h'.get? b=some o')
 (tups: ∀b xs,H b=some (.tup xs)->H' b=some (.tup xs)) (frzs: ∀b o u,H b=some (.frz o u)->H' b=some (.frz o u)) (tbls: ∀b ps,H b=some (.tbl ps)->∃more,H' b=some (.tbl (ps++more)))
 (ns: ∀m,s.heap.Ns X.env.locals m->h'.Ns X.env.locals m) (hok:HOk X.prog X.w H' h') (hg:AllBare g'):
 Inv X pins σ H' {s with heap:=h',gens:=g',drawn:=d',toks:=t'}:=by
 have neL: ∀b o,X.s₀.heap.get? b=some o->b≠X.env.locals:=fun b o e=>Nat.ne_of_lt (Nat.lt_of_lt_of_le (Heap.lt_size e) I.ok.above)
 have neC: ∀b o,X.s₀.heap.get? b=some o->b∉X.ex->b∉ch:=fun b o e hx hb=>by
  rcases(hch b hb).1 with z|z
  ·exact hx z
  ·exact absurd (Nat.lt_of_lt_of_le (Heap.lt_size e) z) (Nat.lt_irrefl _)
 have cellK: ∀x c,X.env.cells.lookup x=some c->∀v,s.heap.IsCell c v->h'.IsCell c v:=fun x c e v ⟨o,ho,hd⟩=>by
  have nch:c∉ch:=fun z=>(hch c z).2.2.1 x c e rfl
  by_cases hc:c∈X.fs
  ·obtain⟨sl,q⟩:=slot c o (I.cne x c e) hc nch ho (I.freeC x c e)
   exact⟨_,q,hd⟩
  ·exact⟨o,keep c o (I.cne x c e) hc nch ho (I.freeC x c e),hd⟩
 refine⟨I.ok,I.os,hg,⟨fun b o e n hb hx=> ?_,fun b o e n hb hx=> ?_,fun b o e n hx=> ?_,fun b o e hx=> ?_,fun b xs e=>tups b xs (I.base.tups b xs e),fun b o xs e=>frzs b o xs (I.base.frzs b o xs e),fun b ps e=> ?_⟩, ?_,fun x c e=> ?_, ?_,fun x c e=> ?_,fun p hp=> ?_,hok,I.len⟩
 ·exact keep b o (neL b o e) hb (neC b o e hx) (I.base.keep b o e n hb hx) (I.base.free b o e n hx)
 ·obtain⟨sl,e1⟩:=I.base.slot b o e n hb hx
  obtain⟨sl',e2⟩:=slot b _ (neL b o e) hb (neC b o e hx) e1 (I.base.free b o e n hx)
  exact⟨sl',e2⟩
 ·obtain⟨o',e1⟩:=I.base.there b o e hx
  exact free b o' (neC b o e hx) e1 (I.base.free b o e n hx)
 ·obtain⟨o',e1⟩:=I.base.there b o e hx
  exact there b o' (neC b o e hx) e1
 ·obtain⟨m1,e1⟩:=I.base.tbls b ps e
  obtain⟨m2,e2⟩:=tbls b _ e1
  exact⟨m1++m2,by rw[e2,Array.append_assoc]⟩
 ·obtain⟨m,hn,hl⟩:=I.loc
  refine⟨m,ns m hn,fun i x v e1 e2 e3=> ?_⟩
  obtain⟨u,r,l⟩:=hl i x v e1 e2 e3
  refine⟨u,r, ?_⟩
  rcases l with l|⟨k,c,e,z⟩
  ·exact .inl l
  ·exact .inr ⟨k,c,e,cellK x c e _ z⟩
 ·obtain⟨v,z⟩:=I.cell x c e
  exact⟨v,cellK x c e v z⟩
 ·obtain⟨m,⟨o,_,_,ho,_⟩,_⟩:=I.loc
  exact free _ o (fun z=>(hch _ z).2.1 rfl) ho I.free
 ·obtain⟨v,o,ho,hd⟩:=I.cell x c e
  exact free c o (fun z=>(hch c z).2.2.1 x c e rfl) ho (I.freeC x c e)
 ·obtain⟨e,n,ne,nf,d⟩:=I.pin p hp
  have nch:p.1∉ch:=fun z=>(hch p.1 z).2.2.2 p hp rfl
  exact⟨keep p.1 p.2 ne nf nch e n,free p.1 p.2 nch e n,ne,nf,d⟩
theorem Inv.un{t':Nat}(I:Inv X pins σ H s)(u:Un X.fs [] H H' s.heap h')(hok:HOk X.prog X.w H' h'):Inv X pins σ H' {s with heap:=h',toks:=t'}:=by
 obtain⟨m,⟨o,es,ep,ho,r⟩,_⟩:=id I.loc
 obtain⟨sl,hL⟩:=u.any ho I.free (by simp)
 exact I.step (g':=s.gens) (d':=s.drawn) (ch:=[]) (fun _ z=>nomatch z) (fun b o _ hb _ e n=>u.keep b o e n hb (by simp)) (fun b o _ hb _ e n=>u.slot b o e n hb (by simp)) (fun b o _ e n=>u.free b o e n (by simp)) (fun b o _ e=>u.there b o e (by simp)) u.tups u.frzs u.tbls (fun m' hm=>by
  obtain⟨o',es',ep',ho',r'⟩:=hm
  rw[ho] at ho';cases ho'
  exact⟨_,es',ep',hL,r'⟩) hok I.bare
theorem Inv.call{g':Array GenState}{t':Nat}{d':Drawn}{ch:List Addr}(I:Inv X pins σ H s)(u:Un (frs X.stack) ch H H' s.heap h')(hok:HOk X.prog X.w H' h')(hg:AllBare g')
 (hch: ∀b∈ch,(b∈X.ex\/X.s₀.heap.objs.size<=b)/\b≠X.env.locals/\(∀x c,X.env.cells.lookup x=some c->c≠b)/\∀p∈X.pn++pins,p.1≠b):
 Inv X pins σ H' {s with heap:=h',gens:=g',drawn:=d',toks:=t'}:=by
 obtain⟨m,⟨o,es,ep,ho,r⟩,_⟩:=id I.loc
 obtain⟨sl,hL⟩:=u.any ho I.free fun z=>(hch _ z).2.1 rfl
 exact I.step (ch:=ch) hch (fun b o hL hb hc e n=>u.keep b o e n (fun z=>(List.mem_cons.mp (I.stkSub b z)).elim hL hb) hc) (fun b o _ _ hc e n=>u.any e n hc) (fun b o hc e n=>u.free b o e n hc) (fun b o hc e=>u.there b o e hc) u.tups u.frzs u.tbls (fun m' hm=>by
  obtain⟨o',es',ep',ho',r'⟩:=hm
  rw[ho] at ho';cases ho'
  exact⟨_,es',ep',hL,r'⟩) hok hg
theorem Inv.turned{t':Nat}{it:Addr}(I:Inv X pins σ H s)(k: ∀b o,b≠it->s.heap.get? b=some o->h'.get? b=some o)(hn:H it=none)(hL:it≠X.env.locals)
 (h1:it∈X.ex\/X.s₀.heap.objs.size<=it) (h2: ∀x c,X.env.cells.lookup x=some c->c≠it) (h3: ∀p∈X.pn++pins,p.1≠it):Inv X pins σ H {s with heap:=h',toks:=t'}:=by
 have nit: ∀b u,H b=some u->b≠it:=fun b u e z=>by rw[z,hn] at e;cases e
 refine I.step (g':=s.gens) (d':=s.drawn) (ch:=[it]) (fun b hb=> ?_) (fun b o _ _ hc e _=>k b o (fun z=>hc (by simp[z])) e) (fun b o _ _ hc e _=>⟨o.slots,k b o (fun z=>hc (by simp[z])) e⟩) (fun _ _ _ _ n=>n)
  (fun b o hc e=>⟨o,k b o (fun z=>hc (by simp[z])) e⟩) (fun _ _ e=>e) (fun _ _ _ e=>e) (fun b ps e=>⟨#[],by rw[e];simp⟩) (fun m hm=> ?_) (fun b u e=> ?_) I.bare
 ·have e:b=it:=by simpa using hb
  subst e
  exact⟨h1,hL,h2,h3⟩
 ·obtain⟨o,es,ep,ho,r⟩:=hm
  exact⟨o,es,ep,k _ o (Ne.symm hL) ho,r⟩
 ·refine(I.hok b u e).stay (fun c v hc q=>k c v ?_ q) (fun _ q=>q) fun _ _ q=>q
  rcases hc with z|z
  ·rw[z];exact nit b u e
  ·exact nit c _ z
theorem Inv.tok(I:Inv X pins σ H s)(t:Nat):Inv X pins σ H {s with toks:=t}:=I.un (h':=s.heap) (t':=t) Un.refl I.hok
theorem Inv.kept{t':Nat}(I:Inv X pins σ H s)(k: ∀b u,s.heap.get? b=some u->h'.get? b=some u):Inv X pins σ H {s with heap:=h',toks:=t'}:=I.un (Un.kept k) (I.hok.kept k)
theorem Inv.laid{a:Addr}{o:HO}{t':Nat}(I:Inv X pins σ H s)(k: ∀b u,s.heap.get? b=some u->h'.get? b=some u)(hp:s.heap.objs.size<=a)(new:z3u X.prog X.w (upd H a o) h' a o):
 Inv X pins σ (upd H a o) {s with heap:=h',toks:=t'}:=I.un (Un.laid k hp (I.hok.fresh hp)) (I.hok.laid k hp new)
theorem Inv.write{x e:Addr}{o:HO}{t':Nat}(I:Inv X pins σ H s)(mu:Mut (H x))(he:e=x\/H e=some (.own x))(k: ∀b u,b≠e->s.heap.get? b=some u->h'.get? b=some u)(heo: ∃u,h'.get? e=some u)
 (new:z3u X.prog X.w (upd H x o) h' x o):Inv X pins σ (upd H x o) {s with heap:=h',toks:=t'}:=I.un (Un.write mu he k heo) (I.hok.write mu he k heo new)
theorem Inv.pins_of{pins':List (Addr×Obj)}(I:Inv X pins σ H s)(h: ∀p∈pins',s.heap.get? p.1=some p.2/\H p.1=none/\p.1≠X.env.locals/\p.1∉X.fs/\∀v,p.2.data≠ .cell v):Inv X pins' σ H s:=
 ⟨I.ok,I.os,I.bare,I.base,I.loc,I.cell,I.free,I.freeC,fun p hp=>(List.mem_append.mp hp).elim (fun z=>I.pin p (List.mem_append_left _ z)) (h p),I.hok,I.len⟩
theorem z80{N:List Str}(hN:N.Nodup){i j:Nat}{x:Str}(a:N[i]? =some x)(b:N[j]? =some x):i=j:=by
 obtain⟨h1,e1⟩:=List.getElem?_eq_some_iff.mp a
 obtain⟨h2,e2⟩:=List.getElem?_eq_some_iff.mp b
 exact(List.getElem_inj hN).mp (e1.trans e2.symm)
theorem z9l{M:Model}{A:Around}{E:Value->Shared->Prop}{i:Nat}{x:Str}{v:V}{u:Value}{Q:Unit->Shared->Prop}(I:Inv X pins σ H s)(hN:X.N.Nodup)(hi:X.N[i]? =some x)(hx:Loc X.env.scope x)(r:RelV v u)
 (h: ∀s',Inv X pins (σ.set i (some v)) H s'->(∃a,Heap.SameBut a s.heap s'.heap/\(a=X.env.locals\/X.env.cells.lookup x=some a))->Q () s') (hf:X.fn x=true\/X.env.scope.names.lookup x=some .local:=by first|exact .inl rfl|exact .inr rfl|assumption):wpAny M A (storeName X.env x u) Q E s:=by
 obtain⟨m,hn,hl⟩:=id I.loc
 have hcls:(X.env.scope.kind== .class||(X.env.scope.kind== .module&&X.env.locals !=X.env.globals))=false:=by rw[I.ok.kind];rfl
 have hiσ:i<σ.length:=by rw[I.len];exact(List.getElem?_eq_some_iff.mp hi).1
 have cne:=I.cne
 have tracked: ∀{a:Addr} {h':Heap},(∃o,s.heap.get? a=some o/\H a=none)->Heap.SameBut a s.heap h'->HOk X.prog X.w H h':=fun{a h'} ha hs b ob e=>by
  obtain⟨_,_,hfree⟩:=ha
  refine(I.hok b ob e).stay (fun c w' hc q=>(hs.2 c ?_).trans q) (fun _ q=>q) fun _ _ q=>q
  rintro rfl
  rcases hc with rfl|hc
  ·rw[hfree] at e;cases e
  ·rw[hfree] at hc;cases hc
 rcases hx with hk|hk
 ·refine wpAny_storeName_local hk hn (fun h' hn' hs=> ?_) hcls
  obtain⟨oL,_,_,hoL,_⟩:=id hn
  refine h _ ⟨I.ok,I.os,I.bare,⟨fun b o e n hb hx=> ?_,fun b o e n hb hx=> ?_,I.base.free,fun b o e hx=> ?_,I.base.tups,I.base.frzs,I.base.tbls⟩,⟨_,hn',fun j y v' e1 e2 e3=> ?_⟩,fun y c e=> ?_,I.free,I.freeC,fun p hp=> ?_,tracked ⟨oL,hoL,I.free⟩ hs,by simpa using I.len⟩ ⟨_,hs, .inl rfl⟩
  ·exact(hs.2 b (Nat.ne_of_lt (Nat.lt_of_lt_of_le (Heap.lt_size e) I.ok.above))).trans (I.base.keep b o e n hb hx)
  ·obtain⟨sl,e1⟩:=I.base.slot b o e n hb hx
   exact⟨sl,(hs.2 b (Nat.ne_of_lt (Nat.lt_of_lt_of_le (Heap.lt_size e) I.ok.above))).trans e1⟩
  ·obtain⟨o',e1⟩:=I.base.there b o e hx
   exact⟨o',(hs.2 b (Nat.ne_of_lt (Nat.lt_of_lt_of_le (Heap.lt_size e) I.ok.above))).trans e1⟩
  ·by_cases hj:j=i
   ·subst hj
    rw[hi] at e1;cases e1
    rw[List.getElem?_set_self hiσ] at e2
    cases e2
    exact⟨u,r, .inl ⟨hk,by simp⟩⟩
   ·rw[List.getElem?_set_ne (Ne.symm hj)] at e2
    obtain⟨u',r',q⟩:=hl j y v' e1 e2 e3
    refine⟨u',r', ?_⟩
    rcases q with⟨k,e⟩|⟨k,c,e,z⟩
    ·refine .inl ⟨k, ?_⟩
     have:y≠x:=fun e=>hj (z80 hN e1 (e▸hi))
     simp[this,e]
    ·exact .inr ⟨k,c,e,z.sameBut hs (cne y c e)⟩
  ·obtain⟨w',z⟩:=I.cell y c e
   exact⟨w',z.sameBut hs (cne y c e)⟩
  ·obtain⟨e,n,ne,nf,d⟩:=I.pin p hp
   exact⟨(hs.2 p.1 ne).trans e,n,ne,nf,d⟩
 ·have hfn:X.fn x=true:=by
   rcases hf with z|z
   ·exact z
   ·rw[z] at hk;cases hk
  obtain⟨c,hc⟩:=I.ok.has x (.inl hk)
  obtain⟨w',z⟩:=I.cell x c hc
  refine wpAny_storeName_cell I.ok.kind hk hc z (fun h' hc' hs=> ?_)
  obtain⟨oc,hoc,hocd⟩:=id z
  refine h {s with heap:=h'} ⟨I.ok,I.os,I.bare,⟨fun b o e n hb hx=> ?_,fun b o e n hb hx=> ?_,I.base.free,fun b o e hx=> ?_,I.base.tups,I.base.frzs,I.base.tbls⟩,⟨m,hn.sameBut hs (Ne.symm (cne x c hc)),fun j y v' e1 e2 e3=> ?_⟩,fun y c' e=> ?_,I.free,I.freeC,fun p hp=> ?_,tracked ⟨oc,hoc,I.freeC x c hc⟩ hs,by simpa using I.len⟩ ⟨c,hs, .inr hc⟩
  ·exact(hs.2 b (Nat.ne_of_lt (Nat.lt_of_lt_of_le (Heap.lt_size e) (I.ok.cab x c hfn hc)))).trans (I.base.keep b o e n hb hx)
  ·obtain⟨sl,e1⟩:=I.base.slot b o e n hb hx
   exact⟨sl,(hs.2 b (Nat.ne_of_lt (Nat.lt_of_lt_of_le (Heap.lt_size e) (I.ok.cab x c hfn hc)))).trans e1⟩
  ·obtain⟨o',e1⟩:=I.base.there b o e hx
   exact⟨o',(hs.2 b (Nat.ne_of_lt (Nat.lt_of_lt_of_le (Heap.lt_size e) (I.ok.cab x c hfn hc)))).trans e1⟩
  ·by_cases hj:j=i
   ·subst hj
    rw[hi] at e1;cases e1
    rw[List.getElem?_set_self hiσ] at e2
    cases e2
    exact⟨u,r, .inr ⟨.inl hk,c,hc,hc'⟩⟩
   ·rw[List.getElem?_set_ne (Ne.symm hj)] at e2
    obtain⟨u',r',q⟩:=hl j y v' e1 e2 e3
    refine⟨u',r', ?_⟩
    rcases q with q|⟨k,c',e,z'⟩
    ·exact .inl q
    ·refine .inr ⟨k,c',e,z'.sameBut hs ?_⟩
     rintro rfl
     exact hj (z80 hN e1 (I.ok.inj _ _ _ e hc▸hi))
  ·by_cases hcc:c'=c
   ·subst hcc;exact⟨_,hc'⟩
   ·obtain⟨w2,z2⟩:=I.cell y c' e
    exact⟨w2,z2.sameBut hs hcc⟩
  ·obtain⟨e,n,ne,nf,d⟩:=I.pin p hp
   refine⟨(hs.2 p.1 ?_).trans e,n,ne,nf,d⟩
   intro q
   rw[q,hoc] at e
   have q':oc=p.2:=Option.some.inj e
   exact d w' (by rw[<-q'];exact hocd)
theorem z5R{M:Model}{A:Around}{E:Value->Shared->Prop}{i:Nat}{x:Str}{v:V}{u:Value}{Q:Unit->Shared->Prop}(I:Inv X pins σ H s)(hN:X.N.Nodup)(hi:X.N[i]? =some x)(hx:Loc X.env.scope x)(r:RelV v u)
 (h: ∀s',Inv X pins (σ.set i (some v)) H s'->Q () s') (hf:X.fn x=true\/X.env.scope.names.lookup x=some .local:=by first|exact .inl rfl|exact .inr rfl|assumption):wpAny M A (storeName X.env x u) Q E s:=
 z9l I hN hi hx r (fun s' I' _=>h s' I') hf
theorem Inv.call'{s':Shared}{ch:List Addr}(I:Inv X pins σ H s)(ho:s'.os=s.os)(u:Un (frs X.stack) ch H H' s.heap s'.heap)(hok:HOk X.prog X.w H' s'.heap)(hg:AllBare s'.gens)
 (hch: ∀b∈ch,(b∈X.ex\/X.s₀.heap.objs.size<=b)/\b≠X.env.locals/\(∀x c,X.env.cells.lookup x=some c->c≠b)/\∀p∈X.pn++pins,p.1≠b):Inv X pins σ H' s':=by
 obtain⟨h',g',d',t',o'⟩:=s'
 have e:o'=s.os:=ho
 subst e
 exact I.call (g':=g') (t':=t') (d':=d') u hok hg hch
end
noncomputable abbrev XK:=Value->Option Addr->Hp->Prop
noncomputable abbrev St:=List (Option V)
noncomputable abbrev VK:=V->Hp->Prop
noncomputable abbrev TE:=St->Hp->VK->Prop
noncomputable abbrev TT:=St->Hp->(Bool->Hp->Prop)->Prop
noncomputable abbrev TA:=St->Hp->(List V->Hp->Prop)->Prop
structure Ends where
 nx:St->Hp->Prop
 rt:VK
 bk:St->Hp->Prop:=fun _ _=>False
 ct:St->Hp->Prop:=fun _ _=>False
noncomputable abbrev TS:=Ends->St->Hp->Prop
noncomputable def EP(X:Cx)(pins:List (Addr×Obj))(σ:St)(Q:VK)(u:Value)(s':Shared):Prop:= ∃v H',Inv X pins σ H' s'/\RelV v u/\Q v H'
noncomputable def TP(X:Cx)(pins:List (Addr×Obj))(σ:St)(Q:Bool->Hp->Prop)(b:Bool)(s':Shared):Prop:= ∃H',Inv X pins σ H' s'/\Q b H'
noncomputable def AP(X:Cx)(pins:List (Addr×Obj))(σ:St)(Q:List V->Hp->Prop)(us:List Value)(s':Shared):Prop:= ∃vs H',Inv X pins σ H' s'/\Vals vs us/\Q vs H'
noncomputable def SP(X:Cx)(pins:List (Addr×Obj))(D:Ends)(f:Flow)(s':Shared):Prop:=
 match f with
 | .next=> ∃σ' H',Inv X pins σ' H' s'/\D.nx σ' H'
 | .brk=> ∃σ' H',Inv X pins σ' H' s'/\D.bk σ' H'
 | .cont=> ∃σ' H',Inv X pins σ' H' s'/\D.ct σ' H'
 | .ret u=> ∃v σ' H',Inv X pins σ' H' s'/\RelV v u/\D.rt v H'
noncomputable def PE(X:Cx)(e:Expr)(t:TE):Prop:=
 ∀(pins:List (Addr×Obj)) (s:Shared) (σ:St) (H:Hp) (Q:VK),Inv X pins σ H s->t σ H Q->wpAny (model X.prog X.w) X.A (eval e X.env) (EP X pins σ Q) X.xe s
noncomputable def PT(X:Cx)(e:Expr)(t:TT):Prop:=
 ∀(pins:List (Addr×Obj)) (s:Shared) (σ:St) (H:Hp) (Q:Bool->Hp->Prop),Inv X pins σ H s->t σ H Q->wpAny (model X.prog X.w) X.A (isTrue e X.env (eval e X.env)) (TP X pins σ Q) X.xe s
noncomputable def PW(X:Cx)(e:Expr)(t:TT):Prop:=
 ∀(whole:Sem Value) (pins:List (Addr×Obj)) (s:Shared) (σ:St) (H:Hp) (Q:Bool->Hp->Prop),Inv X pins σ H s->t σ H Q->wpAny (model X.prog X.w) X.A (isTrue e X.env whole) (TP X pins σ Q) X.xe s
theorem PW.pt{X:Cx}{e:Expr}{t:TT}(h:PW X e t):PT X e t:=h _
noncomputable def PA(X:Cx)(es:List Expr)(t:TA):Prop:=
 ∀(pos:Pos) (pins:List (Addr×Obj)) (s:Shared) (σ:St) (H:Hp) (Q:List V->Hp->Prop),Inv X pins σ H s->t σ H Q->wpAny (model X.prog X.w) X.A (spliced (backTo pos (starEach es X.env))) (AP X pins σ Q) X.xe s
noncomputable def PS(X:Cx)(st:Stmt)(t:TS):Prop:=
 ∀(pins:List (Addr×Obj)) (s:Shared) (σ:St) (H:Hp) (D:Ends),Inv X pins σ H s->t D σ H->wpAny (model X.prog X.w) X.A (exec st X.env) (SP X pins D) X.xe s
noncomputable def PSs(X:Cx)(st:List Stmt)(t:TS):Prop:=
 ∀(pins:List (Addr×Obj)) (s:Shared) (σ:St) (H:Hp) (D:Ends),Inv X pins σ H s->t D σ H->wpAny (model X.prog X.w) X.A (execs st X.env) (SP X pins D) X.xe s
theorem thn{α:Type}{t:Sem α}{Q Q':α->Shared->Prop}{M:Model}{A:Around}{E:Value->Shared->Prop}{s:Shared}(h:wpAny M A t Q E s)(hQ: ∀a s,Q a s->Q' a s):wpAny M A t Q' E s:=wpAny_mono h hQ fun _ _ x=>x
section
variable{X:Cx}
noncomputable def tVar(i:Nat):TE:=fun σ H Q=> ∃v,σ[i]? =some (some v)/\Q v H
noncomputable def tC(v:V):TE:=fun _ H Q=>Q v H
theorem zeS{i:Nat}{x:Str}{pos:Pos}(hN:X.N[i]? =some x)(hv:Vis X.env.scope x)(hd:(x==("__debug__" :Str))=false:=by decide)(hcd:(x==("__classdict__" :Str))=false:=by decide):PE X (.Name x pos) (tVar i):=by
 intro pins s σ H Q I h
 obtain⟨v,e,h⟩:=h
 obtain⟨m,hn,hl⟩:=I.loc
 obtain⟨u,r,l⟩:=hl i x v hN e hv
 have fin:EP X pins σ Q u s:=⟨v,H,I,r,h⟩
 rcases l with⟨hk,hm⟩|⟨hk,c,hc,hcell⟩
 ·exact wpAny_Name (wpAny_loadName_local I.ok.kind hk hn hm fin) hd
 ·rcases hk with hk|hk
  ·exact wpAny_Name (wpAny_loadName_cell I.ok.kind hk hc hcell fin) hd
  ·exact wpAny_Name (wpAny_loadName_free I.ok.kind hk hc hcell fin hcd) hd
theorem z00{i j pos}:PE X (.Constant (.int i) j pos) (tC (.int i)):=fun _ _ _ H _ I h=>wpAny_Constant_int ⟨.int i,H,I.tok _,⟨_,rfl⟩,h⟩
theorem z3v{b j pos}:PE X (.Constant (.bool b) j pos) (tC (.bl b)):=fun _ _ _ H _ I h=>Constant_bool ⟨.bl b,H,I,rfl,h⟩
theorem z2L{j pos}:PE X (.Constant .none j pos) (tC .non):=fun _ _ _ H _ I h=>Constant_none ⟨.non,H,I,rfl,h⟩
theorem z0a{x j pos}:PE X (.Constant (.str x) j pos) (tC (.str x)):=fun _ _ _ H _ I h=>Calls.Constant_str ⟨.str x,H,I.tok _,⟨_,rfl⟩,h⟩
noncomputable def Gl(X:Cx)(x:Str):Prop:=X.env.kindOf x=some .globalImplicit
theorem z9m{E:Value->Shared->Prop}{pins:List (Addr×Obj)}{s:Shared}{σ:St}{H:Hp}{x:Str}{u:Value}{pos:Pos}{Q:Value->Shared->Prop}(I:Inv X pins σ H s)(hg:Gl X x)(hm:X.mg x=some u)(h:Q u s)
 (hd:(x==("__debug__" :Str))=false:=by decide):wpAny (model X.prog X.w) X.A (eval (.Name x pos) X.env) Q E s:=
 Calls.Name_function_global I.ok.kind hg (Calls.loadGlobal_global (by rw[I.ok.glob];exact I.mod.glob.keeps I.bk) hm h) hd
theorem z5B{E:Value->Shared->Prop}{pins:List (Addr×Obj)}{s:Shared}{σ:St}{H:Hp}{x:Str}{u:Value}{pos:Pos}{Q:Value->Shared->Prop}(I:Inv X pins σ H s)(hg:Gl X x)(hm:X.mg x=none)(hv:bootBuiltins x=some u)(h:Q u s)
 (hn:x≠ "__name__" :=by decide) (hd:(x==("__debug__" :Str))=false:=by decide):wpAny (model X.prog X.w) X.A (eval (.Name x pos) X.env) Q E s:=by
 obtain⟨mb,h1,h2⟩:=I.mod.blt
 exact Calls.Name_function_global I.ok.kind hg (Calls.loadGlobal_builtin (by rw[I.ok.glob];exact I.mod.glob.keeps I.bk) hm (by rw[I.ok.blt];exact h1.keeps I.bk) ((h2 x hn).trans hv) h) hd
theorem z24{x:Str}{v:V}{u:Value}{pos:Pos}(hg:Gl X x)(hm:X.mg x=some u)(r:RelV v u)(hd:(x==("__debug__" :Str))=false:=by decide):PE X (.Name x pos) (tC v):=
 fun _ _ _ H _ I h=>z9m I hg hm ⟨v,H,I,r,h⟩ hd
theorem z25{x:Str}{v:V}{u:Value}{pos:Pos}(hg:Gl X x)(hm:X.mg x=none)(hv:bootBuiltins x=some u)(r:RelV v u)(hn:x≠ "__name__" :=by decide)(hd:(x==("__debug__" :Str))=false:=by decide):PE X (.Name x pos) (tC v):=
 fun _ _ _ H _ I h=>z5B I hg hm hv ⟨v,H,I,r,h⟩ hn hd
variable{a b:Expr}{ta tb:TE}{pos:Pos}
noncomputable def tB(t:TE):TT:=fun σ H Q=>t σ H fun x H1=> ∃c,x= .bl c/\Q c H1
variable{tA tB':TT}{rest:List Expr}
noncomputable def tAnd(t u:TT):TT:=fun σ H Q=>t σ H fun c H1=>if c=true then u σ H1 Q else Q false H1
noncomputable def tOr(t u:TT):TT:=fun σ H Q=>t σ H fun c H1=>if c=true then Q true H1 else u σ H1 Q
noncomputable def tNot(t:TT):TT:=fun σ H Q=>t σ H fun c H1=>Q (!c) H1
theorem zdc(ha:PT X a tA):PW X (.BoolOp .And [a] pos) tA:=by
 intro wh pins s σ H Q I h
 refine isTrue_and (thn (ha pins s σ H Q I h) fun c s1 e=> ?_)
 cases c with
 |true=>exact isTrue_and_nil e
 |false=>exact e
theorem zeT(ha:PT X a tA):PW X (.BoolOp .Or [a] pos) tA:=by
 intro wh pins s σ H Q I h
 refine isTrue_or (thn (ha pins s σ H Q I h) fun c s1 e=> ?_)
 cases c with
 |false=>exact isTrue_or_nil e
 |true=>exact e
theorem zeU(ha:PT X a tA)(hb:PW X (.BoolOp .And (b::rest) pos) tB'):PW X (.BoolOp .And (a::b::rest) pos) (tAnd tA tB'):=by
 intro wh pins s σ H Q I h
 refine isTrue_and (thn (ha pins s σ H _ I h) fun c s1 ⟨H1,I1,q1⟩=> ?_)
 cases c with
 |true=>exact hb wh pins s1 σ H1 Q I1 q1
 |false=>exact⟨H1,I1,q1⟩
theorem zhN(ha:PT X a tA)(hb:PW X (.BoolOp .Or (b::rest) pos) tB'):PW X (.BoolOp .Or (a::b::rest) pos) (tOr tA tB'):=by
 intro wh pins s σ H Q I h
 refine isTrue_or (thn (ha pins s σ H _ I h) fun c s1 ⟨H1,I1,q1⟩=> ?_)
 cases c with
 |true=>exact⟨H1,I1,q1⟩
 |false=>exact hb wh pins s1 σ H1 Q I1 q1
theorem zeV(ha:PT X a tA):PT X (.UnaryOp .Not a pos) (tNot tA):=by
 intro pins s σ H Q I h
 exact isTrue_not (ha pins s σ H (fun c H1=>Q (!c) H1) I h)
noncomputable def zhO(ta tb:TE):TE:=fun σ H Q=>ta σ H fun x H1=> ∃c,x= .bl c/\if c=true then tb σ H1 Q else Q (.bl false) H1
noncomputable def zhP(ta:TE):TE:=fun σ H Q=>ta σ H fun x H1=> ∃c,x= .bl c/\Q (.bl (!c)) H1
theorem zeW{op}{t:TE}(h:PE X a t):PE X (.BoolOp op [a] pos) t:=fun pins s σ H Q I hw=>BoolOp_one (h pins s σ H Q I hw)
theorem zeX(ha:PE X a ta)(hb:PE X (.BoolOp .And (b::rest) pos) tb):PE X (.BoolOp .And (a::b::rest) pos) (zhO ta tb):=by
 intro pins s σ H Q I h
 refine BoolOp_and (thn (ha pins s σ H _ I h) fun v s1 ⟨x,H1,I1,r1,q1⟩=> ?_)
 obtain⟨c,rfl,q1⟩:=q1
 cases r1
 refine wpAny_truthy_bool ?_
 cases c with
 |true=>exact hb pins s1 σ H1 Q I1 q1
 |false=>exact⟨.bl false,H1,I1,rfl,q1⟩
theorem zeY(ha:PE X a ta):PE X (.UnaryOp .Not a pos) (zhP ta):=by
 intro pins s σ H Q I h
 refine UnaryOp_ (thn (ha pins s σ H _ I h) fun v s1 ⟨x,H1,I1,r1,q1⟩=> ?_)
 obtain⟨c,rfl,q1⟩:=q1
 cases r1
 exact not_of (wpAny_truthy_bool ⟨.bl (!c),H1,I1,rfl,q1⟩)
noncomputable def tIf(t:TT)(ta tb:TE):TE:=fun σ H Q=>t σ H fun c H1=>if c=true then ta σ H1 Q else tb σ H1 Q
theorem zbi{c:Expr}(hc:PT X c tA)(ha:PE X a ta)(hb:PE X b tb):PE X (.IfExp c a b pos) (tIf tA ta tb):=by
 intro pins s σ H Q I h
 refine wpAny_IfExp (thn (hc pins s σ H _ I h) fun d s1 ⟨H1,I1,q1⟩=> ?_)
 cases d with
 |true=>exact ha pins s1 σ H1 Q I1 q1
 |false=>exact hb pins s1 σ H1 Q I1 q1
end
noncomputable def SqL(K:W.Frag)(H:Hp)(a:Addr)(xs:List V):Prop:=
 Rd H a (.lst xs)\/
  ∃(o:Obj) (its:Array Value) (n:Nat),K.lookup a=some o/\o.cls= .type "list" /\o.dict=none/\o.data= .seq its n/\its.size<=sizeLine/\Vals xs its.toList
noncomputable def SqT(K:W.Frag)(H:Hp)(a:Addr)(xs:List V):Prop:=
 Rd H a (.tup xs)\/
  ∃(o:Obj) (its:Array Value) (n:Nat),K.lookup a=some o/\o.cls= .type "tuple" /\o.data= .seq its n/\its.size<=sizeLine/\Vals xs its.toList
noncomputable def absV:Value->Option V
 | .none=>some .non
 | .bool b=>some (.bl b)
 | .int i _=>some (.int i)
 | .str x _=>some (.str x)
 | .bytes b _=>some (.byt b)
 | .float b _=>some (.flt b)
 | .ref a=>some (.ref a)
 | .type n=>some (.ty n)
 |_=>none
theorem RelV.abs{x:V}{u:Value}(r:RelV x u):absV u=some x:=by
 cases x with
 |non=>cases r;rfl
 |bl _=>cases r;rfl
 |int _=>obtain⟨t,rfl⟩:=r;rfl
 |str _=>obtain⟨t,rfl⟩:=r;rfl
 |byt _=>obtain⟨t,rfl⟩:=r;rfl
 |flt _=>obtain⟨t,rfl⟩:=r;rfl
 |ref _=>cases r;rfl
 |ty _=>cases r;rfl
theorem RelV.inj{x y:V}{u:Value}(r:RelV x u)(q:RelV y u):x=y:=Option.some.inj (r.abs.symm.trans q.abs)
theorem Vals.inj: ∀{xs ys:List V} {us:List Value},Vals xs us->Vals ys us->xs=ys
 |_,_,_, .nil, .nil=>rfl
 |_,_,_, .cons r t, .cons r' t'=>by rw[r.inj r',Vals.inj t t']
section
variable{X:Cx}{pins:List (Addr×Obj)}{σ:St}{H:Hp}{s:Shared}{a:Addr}{xs ys:List V}
theorem SqL.of{K:W.Frag}(h:H a=some (.lst xs)):SqL K H a xs:= .inl (.inl h)
theorem SqT.of{K:W.Frag}(h:H a=some (.tup xs)):SqT K H a xs:= .inl (.inl h)
theorem Inv.list(I:Inv X pins σ H s)(h:SqL X.K H a xs): ∃its:List Value,Vals xs its/\PlainL s.heap a its.toArray/\xs.length<=sizeLine:=by
 rcases h with h|⟨o,its,n,hk,hc,hd,hs,hz,r⟩
 ·obtain⟨z,its,n,r,e⟩:=h.ok I.hok
  exact⟨its,r,⟨_,n,e,rfl,rfl,rfl⟩,z⟩
 ·refine⟨its.toList,r,⟨o,n,I.kIn a o hk,hc,hd,by simpa using hs⟩, ?_⟩
  have e:=r.length
  simp only[Array.length_toList] at e
  lia
theorem Inv.tuple(I:Inv X pins σ H s)(h:SqT X.K H a xs): ∃its:List Value,Vals xs its/\IsTup s.heap a its.toArray/\xs.length<=sizeLine:=by
 rcases h with h|⟨o,its,n,hk,hc,hs,hz,r⟩
 ·obtain⟨z,its,r,p⟩:=h.ok I.hok
  exact⟨its,r,p,z⟩
 ·refine⟨its.toList,r,⟨o,I.kIn a o hk,hc,n,by simpa using hs⟩, ?_⟩
  have e:=r.length
  simp only[Array.length_toList] at e
  lia
theorem Inv.list_inj(I:Inv X pins σ H s)(h:SqL X.K H a xs)(h':SqL X.K H a ys):xs=ys:=by
 obtain⟨its,r,⟨o,n,e,_,_,d⟩,_⟩:=I.list h
 obtain⟨its',r',⟨o',n',e',_,_,d'⟩,_⟩:=I.list h'
 rw[e] at e';cases e'
 rw[d] at d'
 injection d' with d1 _
 have:its=its':=by simpa using congrArg Array.toList d1
 subst this
 exact r.inj r'
theorem Inv.tuple_inj(I:Inv X pins σ H s)(h:SqT X.K H a xs)(h':SqT X.K H a ys):xs=ys:=by
 obtain⟨its,r,⟨o,e,_,n,d⟩,_⟩:=I.tuple h
 obtain⟨its',r',⟨o',e',_,n',d'⟩,_⟩:=I.tuple h'
 rw[e] at e';cases e'
 rw[d] at d'
 injection d' with d1 _
 have:its=its':=by simpa using congrArg Array.toList d1
 subst this
 exact r.inj r'
end
noncomputable abbrev Cx.wish(X:Cx)(E:Value->Shared->Prop):Cx:={X with xe:=E}
noncomputable abbrev Cx.nox(X:Cx):Cx:=X.wish fun _ _=>False
theorem Cx.Ok.wish{X:Cx}(ok:X.Ok)(E:Value->Shared->Prop):(X.wish E).Ok:=
 ⟨ok.mod,ok.kind,ok.glob,ok.blt,ok.above,ok.inj,ok.has,ok.cab,ok.hd,ok.frames,ok.stk,ok.exf,ok.bs,ok.bsz,ok.noex,ok.exfs,ok.funs,ok.frf⟩
theorem Cx.Ok.unwish{X:Cx}{E:Value->Shared->Prop}(ok:(X.wish E).Ok):X.Ok:=
 ⟨ok.mod,ok.kind,ok.glob,ok.blt,ok.above,ok.inj,ok.has,ok.cab,ok.hd,ok.frames,ok.stk,ok.exf,ok.bs,ok.bsz,ok.noex,ok.exfs,ok.funs,ok.frf⟩
section
variable{X:Cx}{pins:List (Addr×Obj)}{σ:St}{H:Hp}{s:Shared}{E:Value->Shared->Prop}
theorem Inv.wish(I:Inv X pins σ H s)(E:Value->Shared->Prop):Inv (X.wish E) pins σ H s:=⟨I.ok.wish E,I.os,I.bare,I.base,I.loc,I.cell,I.free,I.freeC,I.pin,I.hok,I.len⟩
theorem Inv.unwish(I:Inv (X.wish E) pins σ H s):Inv X pins σ H s:=⟨I.ok.unwish,I.os,I.bare,I.base,I.loc,I.cell,I.free,I.freeC,I.pin,I.hok,I.len⟩
theorem SP.unwish{D:Ends}{f:Flow}{s':Shared}(h:SP (X.wish E) pins D f s'):SP X pins D f s':=by
 cases f with
 |next=>obtain⟨σ',H',I,q⟩:=h;exact⟨σ',H',I.unwish,q⟩
 |brk=>obtain⟨σ',H',I,q⟩:=h;exact⟨σ',H',I.unwish,q⟩
 |cont=>obtain⟨σ',H',I,q⟩:=h;exact⟨σ',H',I.unwish,q⟩
 |ret u=>obtain⟨v,σ',H',I,r,q⟩:=h;exact⟨v,σ',H',I.unwish,r,q⟩
theorem PSs.nox{st:List Stmt}{t:TS}(h:PSs X.nox st t):PSs X st t:=fun pins s σ H D I hw=>
 wpAny_mono (h pins s σ H D (I.wish _) hw) (fun _ _ q=>q.unwish) fun _ _ z=>False.elim z
end
section
variable{X:Cx}{st:Stmt}{rest:List Stmt}{t u:TS}{e:Expr}{te:TE}{pos:Pos}
noncomputable def zhQ:TS:=fun D σ H=>D.nx σ H
noncomputable def tSeq(t u:TS):TS:=fun D σ H=>t {D with nx:=u D} σ H
theorem zdd:PSs X [] zhQ:=fun _ _ σ H _ I h=>wpAny_execs_nil ⟨σ,H,I,h⟩
theorem zbj(h1:PS X st t)(h2:PSs X rest u):PSs X (st::rest) (tSeq t u):=by
 intro pins s σ H D I h
 refine wpAny_execs_cons (thn (h1 pins s σ H {D with nx:=u D} I h) fun f s1 q=> ?_)
 cases f with
 |next=>
  obtain⟨σ',H',I',q⟩:=q
  exact h2 pins s1 σ' H' D I' q
 |ret v=>exact q
 |brk=>exact q
 |cont=>exact q
theorem zde(h1:PS X st t):PSs X [st] t:=by
 intro pins s σ H D I h
 refine wpAny_execs_cons (thn (h1 pins s σ H D I h) fun f s1 q=> ?_)
 cases f with
 |next=>exact wpAny_execs_nil q
 |ret v=>exact q
 |brk=>exact q
 |cont=>exact q
theorem Inv.quiet{pins:List (Addr×Obj)}{σ:St}{H:Hp}{s:Shared}(I:Inv X pins σ H s):interactive X.env=false:=by simp[interactive,I.ok.kind]
noncomputable def zhR(te:TE):TS:=fun D σ H=>te σ H fun _ H1=>D.nx σ H1
theorem zdf(he:PE X e te)(hs:swapsWith e none pos.line X.env=pure false:=by rfl):PS X (.Expr e pos) (zhR te):=by
 intro pins s σ H D I h
 exact wpAny_Expr_any (thn (he pins s σ H _ I h) fun v s1 ⟨x,H1,I1,r1,q1⟩=>⟨σ,H1,I1,q1⟩) I.quiet hs
noncomputable def tRet(te:TE):TS:=fun D σ H=>te σ H D.rt
theorem zeZ(he:PE X e te):PS X (.Return (some e) pos) (tRet te):=by
 intro pins s σ H D I h
 exact wpAny_Return_some (thn (he pins s σ H _ I h) fun v s1 ⟨x,H1,I1,r1,q1⟩=>⟨x,σ,H1,I1,r1,q1⟩)
noncomputable def tIfS(c:TT)(t u:TS):TS:=fun D σ H=>c σ H fun b H1=>if b=true then t D σ H1 else u D σ H1
theorem zhS{c:Expr}{a b:List Stmt}{tc:TT}(hc:PT X c tc)(ha:PSs X a t)(hb:PSs X b u):PS X (.If c a b pos) (tIfS tc t u):=by
 intro pins s σ H D I h
 refine wpAny_If (thn (hc pins s σ H _ I h) fun d s1 ⟨H1,I1,q1⟩=> ?_)
 cases d with
 |true=>exact ha pins s1 σ H1 D I1 q1
 |false=>exact hb pins s1 σ H1 D I1 q1
end
noncomputable abbrev TG:=V->St->Hp->(St->Hp->Prop)->Prop
noncomputable abbrev TGs:=List V->St->Hp->(St->Hp->Prop)->Prop
noncomputable def PG(X:Cx)(target:Expr)(t:TG):Prop:=
 ∀(pins:List (Addr×Obj)) (s:Shared) (σ:St) (H:Hp) (v:V) (u:Value) (Q:St->Hp->Prop),Inv X pins σ H s->RelV v u->t v σ H Q->
  wpAny (model X.prog X.w) X.A (assign target X.env u) (fun _ s'=> ∃σ' H',Inv X pins σ' H' s'/\Q σ' H') X.xe s
noncomputable def PGs(X:Cx)(ts:List Expr)(t:TGs):Prop:=
 ∀(pins:List (Addr×Obj)) (s:Shared) (σ:St) (H:Hp) (vs:List V) (us:List Value) (Q:St->Hp->Prop),Inv X pins σ H s->Vals vs us->t vs σ H Q->
  wpAny (model X.prog X.w) X.A (assignInOrder ((assignEach ts X.env).map (·.2)) us) (fun _ s'=> ∃σ' H',Inv X pins σ' H' s'/\Q σ' H') X.xe s
noncomputable abbrev TSet:=V->V->V->Hp->(Hp->Prop)->Prop
noncomputable def PSet(X:Cx)(t:TSet):Prop:=
 ∀(pins:List (Addr×Obj)) (s:Shared) (σ:St) (H:Hp) (o i v:V) (ov iv u:Value) (Q:Hp->Prop),Inv X pins σ H s->RelV o ov->RelV i iv->RelV v u->t o i v H Q->
  wpAny (model X.prog X.w) X.A (setItem ov iv u) (fun _ s'=> ∃H',Inv X pins σ H' s'/\Q H') X.xe s
section
variable{X:Cx}{pos:Pos}
noncomputable def z8K(i:Nat):TG:=fun v σ H Q=>Q (σ.set i (some v)) H
theorem z0B{i:Nat}{x:Str}(hN:X.N.Nodup)(hi:X.N[i]? =some x)(hx:Loc X.env.scope x)(hf:X.fn x=true\/X.env.scope.names.lookup x=some .local:=by first|exact .inl rfl|exact .inr rfl|assumption):PG X (.Name x pos) (z8K i):=by
 intro pins s σ H v u Q I r h
 exact wpAny_assign_Name (z5R I hN hi hx r (fun s' I'=>⟨_,H,I',h⟩) hf)
noncomputable def gNil:TGs:=fun vs σ H Q=>vs=[]/\Q σ H
noncomputable def zhT(t:TG)(u:TGs):TGs:=fun vs σ H Q=> ∃v r,vs=v::r/\t v σ H fun σ' H'=>u r σ' H' Q
theorem zdg:PGs X [] gNil:=by
 intro pins s σ H vs us Q I r h
 obtain⟨e,h⟩:=h
 subst e
 cases r
 exact assignInOrder_nil ⟨σ,H,I,h⟩
theorem zbk{e:Expr}{es:List Expr}{t:TG}{u:TGs}(h1:PG X e t)(h2:PGs X es u)
 (hs:(assignEach (e::es) X.env).map (·.2)=assign e X.env::(assignEach es X.env).map (·.2):=by rfl):PGs X (e::es) (zhT t u):=by
 intro pins s σ H vs us Q I r h
 obtain⟨v,vr,e1,h⟩:=h
 subst e1
 cases r with
 |cons r rr=>
  rw[hs]
  refine assignInOrder_cons (thn (h1 pins s σ H _ _ _ I r h) fun _ s1 ⟨σ1,H1,I1,q1⟩=> ?_)
  exact h2 pins s1 σ1 H1 _ _ Q I1 rr q1
noncomputable def gTup(K:W.Frag)(n:Nat)(t:TGs):TG:=fun v σ H Q=> ∃a xs,v= .ref a/\SqT K H a xs/\xs.length=n/\t xs σ H Q
theorem zf0{es:List Expr}{k:Nat}{t:TGs}{n:Nat}(hc:X.calm=true)(h:PGs X es t)
 (hn:(assignEach es X.env).length=n:=by rfl) (hst:(assignEach es X.env).findIdx? (·.1)=none:=by rfl):PG X (.Tuple es k pos) (gTup X.K n t):=by
 intro pins s σ H v u Q I r hw
 obtain⟨a,xs,e1,hq,hl,hw⟩:=hw
 subst e1
 cases r
 obtain⟨its,rv,ht,hz⟩:=I.tuple hq
 refine assign_Tuple_tuple (I.ok.hd hc) ht (by simp[hn,<-hl,rv.length]) hst fun h' hx=> ?_
 have I1:Inv X pins σ H {s with heap:=h'}:=I.kept (t':=s.toks) fun b o e=>hx b o (Nat.ne_of_lt (Heap.lt_size e)) e
 exact h pins _ σ H xs _ Q I1 (by simpa using rv) hw
noncomputable def gSub(to ti:TE)(t:TSet):TG:=fun v σ H Q=>to σ H fun o H1=>ti σ H1 fun i H2=>t o i v H2 fun H3=>Q σ H3
theorem zci{o i:Expr}{to ti:TE}{t:TSet}(ho:PE X o to)(hi:PE X i ti)(hs:PSet X t)
 (ha: ∀v,assign (.Subscript o i pos) X.env v=(do
  let ov<-holding [v] (eval o X.env)
  let iv<-holding [v,ov] (eval i X.env)
  standAt pos
  holding [v,ov,iv] (setItem ov iv v)
  release [v,ov,iv] []):=by intro _;rfl):PG X (.Subscript o i pos) (gSub to ti t):=by
 intro pins s σ H v u Q I r h
 rw[ha]
 refine wpAny_bind (wpAny_holding (thn (ho pins s σ H _ I h) fun ov s1 ⟨x,H1,I1,r1,q1⟩=> ?_))
 refine wpAny_bind (wpAny_holding (thn (hi pins s1 σ H1 _ I1 q1) fun iv s2 ⟨y,H2,I2,r2,q2⟩=> ?_))
 refine wpAny_bind (wpAny_standAt (wpAny_bind (wpAny_holding (thn (hs pins s2 σ H2 x y v ov iv u _ I2 r1 r2 r q2) fun _ s3 ⟨H3,I3,q3⟩=> ?_))))
 exact wpAny_release ⟨σ,H3,I3,q3⟩
noncomputable def tAsg(te:TE)(g:TG):TS:=fun D σ H=>te σ H fun x H1=>g x σ H1 D.nx
theorem zcj{tg e:Expr}{te:TE}{g:TG}(he:PE X e te)(hg:PG X tg g)(hs:swapsWithSole [tg] e pos.line X.env=pure false:=by rfl)(hw:swappedStores [tg] e X.env=pure none:=by rfl)
 (h1:(assignEach [tg] X.env).map (·.2)=[assign tg X.env]:=by rfl):PS X (.Assign [tg] e pos) (tAsg te g):=by
 intro pins s σ H D I h
 refine wpAny_Assign_stores (thn (he pins s σ H _ I h) fun v s1 ⟨x,H1,I1,r1,q1⟩=> ?_) hs hw
 rw[h1]
 exact thn (hg pins s1 σ H1 x v _ I1 r1 q1) fun _ s2 q=>q
theorem zck{i:Nat}{x:Str}{e:Expr}{te:TE}{pos':Pos}(hN:X.N.Nodup)(hi:X.N[i]? =some x)(hx:Loc X.env.scope x)(he:PE X e te)(hs:swapsWith e (some (.Name x pos')) pos.line X.env=pure false:=by rfl)(hf:X.fn x=true\/X.env.scope.names.lookup x=some .local:=by first|exact .inl rfl|exact .inr rfl|assumption):
 PS X (.Assign [.Name x pos'] e pos) (tAsg te (z8K i)):=by
 intro pins s σ H D I h
 refine wpAny_Assign_Name (thn (he pins s σ H _ I h) fun v s1 ⟨y,H1,I1,r1,q1⟩=> ?_) hs
 exact z5R I1 hN hi hx r1 (fun s2 I2=>⟨_,H1,I2,q1⟩) hf
end
structure It where
 go:Nat->Hp->Prop
 yld:Nat->Hp->V->Hp->Prop
 stop:Nat->Hp->Prop
noncomputable def FpOk(X:Cx)(pins:List (Addr×Obj))(H:Hp)(b:Addr):Prop:=
 H b=none/\b≠X.env.locals/\b∉X.fs/\(b∈X.ex\/X.s₀.heap.objs.size<=b)/\(∀x c,X.env.cells.lookup x=some c->c≠b)/\∀p∈X.pn++pins,p.1≠b
theorem Inv.fpOk{X:Cx}{pins:List (Addr×Obj)}{σ:St}{H H':Hp}{s:Shared}{b:Addr}(I:Inv X pins σ H s)(hb:s.heap.objs.size<=b)(hn:H' b=none):FpOk X pins H' b:=by
 refine⟨hn,Nat.ne_of_gt (Nat.lt_of_lt_of_le I.lt hb),I.nofs hb, .inr (Nat.le_trans I.sz hb),fun x c e z=> ?_,fun p hp z=> ?_⟩
 ·obtain⟨v,q⟩:=I.cell x c e
  exact absurd (Nat.lt_of_lt_of_le q.lt (by rw[z];exact hb)) (Nat.lt_irrefl _)
 ·exact absurd (Nat.lt_of_lt_of_le (Heap.lt_size (I.pin p hp).1) (by rw[z];exact hb)) (Nat.lt_irrefl _)
structure Turn(P:Program)(w:World)(K:W.Frag)(tg:Expr)(J:It)(fp:List Addr)(it:Addr)(tn:Nat->Heap->Prop):Prop where
 mem:it∈fp
 obj: ∀i h,tn i h->∀b∈fp,∃o,h.get? b=some o/\∀v,o.data≠ .cell v
 keep: ∀i h h',tn i h->(∀b∈fp,∀o,h.get? b=some o->h'.get? b=some o)->tn i h'
 item: ∀(X:Cx),X.prog=P->X.w=w->X.K=K->X.calm=true->∀(i:Nat) (pins:List (Addr×Obj)) (s:Shared) (σ:St) (H:Hp) (E:Value->Shared->Prop),Inv X pins σ H s->(∀b∈fp,FpOk X pins H b)->tn i s.heap->J.go i H->
  wpAny (model P w) X.A (pyNext (.ref it)) (fun r s1=> ∃u,r=some u/\
   wpAny (model P w) X.A (letOwnedTupleGo tg (.ref it) u) (fun _ s2=> ∃x H',Inv X pins σ H' s2/\RelV x u/\J.yld i H x H'/\tn (i+1) s2.heap/\∀b∈fp,H' b=none) E s1) E s
 done: ∀(X:Cx),X.prog=P->X.w=w->X.K=K->X.calm=true->∀(i:Nat) (pins:List (Addr×Obj)) (s:Shared) (σ:St) (H:Hp) (E:Value->Shared->Prop),Inv X pins σ H s->(∀b∈fp,FpOk X pins H b)->tn i s.heap->J.stop i H->
  wpAny (model P w) X.A (pyNext (.ref it)) (fun r s1=>r=none/\Inv X pins σ H s1) E s
 self: ∀(A:Around) (i:Nat) (s:Shared) (Q:Value->Shared->Prop) (E:Value->Shared->Prop),tn i s.heap->Q (.ref it) s->wpAny (model P w) A (pyIter (.ref it)) Q E s
noncomputable abbrev TI:=St->Hp->(It->Hp->Prop)->Prop
noncomputable def PIE(X:Cx)(pins:List (Addr×Obj))(σ:St)(tg:Expr)(R:It->Hp->Prop)(itv:Value)(s2:Shared):Prop:=
 ∃(it:Addr) (fp:List Addr) (tn:Nat->Heap->Prop) (J:It) (H':Hp),itv= .ref it/\Inv X pins σ H' s2/\Turn X.prog X.w X.K tg J fp it tn/\tn 0 s2.heap/\(∀b∈fp,FpOk X pins H' b)/\R J H'
noncomputable def PI(X:Cx)(tg iter:Expr)(wi:TI):Prop:=
 ∀(pins:List (Addr×Obj)) (s:Shared) (σ:St) (H:Hp) (R:It->Hp->Prop),Inv X pins σ H s->wi σ H R->
  wpAny (model X.prog X.w) X.A (eval iter X.env) (fun v s1=>wpAny (model X.prog X.w) X.A (pyIter v) (PIE X pins σ tg R) X.xe s1) X.xe s
theorem zbl{M:Model}{A:Around}{E:Value->Shared->Prop}{s:Shared}{tg:Expr}{it:Addr}{u:Value}{o:Obj}{n:String}{vs:Array Value}{Q:Unit->Shared->Prop}(ho:s.heap.get? it=some o)(hc:o.cls= .type n)(hd:o.data= .fields vs)
 (hn:["enumerate", "zip", "dict_itemiterator", "dict_reverseitemiterator", "odict_iterator", "itertools.zip_longest", "itertools.pairwise"].contains n=false) (hQ:Q () s):wpAny M A (letOwnedTupleGo tg (.ref it) u) Q E s:=by
 unfold letOwnedTupleGo
 cases tg<;>first
  |exact wpAny_pure hQ
  |(cases u<;>first
   |exact wpAny_pure hQ
   |(refine wpAny_bind (wpAny_load ho ?_)
     rw[hc,hd]
     show wpAny M A (if(["enumerate", "zip", "dict_itemiterator", "dict_reverseitemiterator", "odict_iterator", "itertools.zip_longest", "itertools.pairwise"].contains n&&vs[0]? ==some (rawInt _))=true then _ else _) Q E s
     rw[if_neg (by intro h;rw[hn,Bool.false_and] at h;cases h)]
     exact wpAny_pure hQ))
noncomputable def Itl(K:W.Frag)(a:Addr):It:=
 ⟨fun i H=> ∃xs x,SqL K H a xs/\xs[i]? =some x,fun i H x H'=>H'=H/\∀xs,SqL K H a xs->xs[i]? =some x,fun i H=> ∃xs,SqL K H a xs/\xs.length<=i⟩
noncomputable def Itt(K:W.Frag)(a:Addr):It:=
 ⟨fun i H=> ∃xs x,SqT K H a xs/\xs[i]? =some x,fun i H x H'=>H'=H/\∀xs,SqT K H a xs->xs[i]? =some x,fun i H=> ∃xs,SqT K H a xs/\xs.length<=i⟩
noncomputable def Itr(lo:Int)(n:Nat):It:=⟨fun i _=>i<n,fun i H x H'=>H'=H/\x= .int (lo+i),fun i _=>n<=i⟩
theorem z9n{P:Program}{w:World}{K:W.Frag}{tg:Expr}(a it:Addr):Turn P w K tg (Itl K a) [it] it (fun i h=>h.IsListIter it a i) where
 mem:=by simp
 obj:=fun i h st b hb=>by
  have e:b=it:=by simpa using hb
  subst e
  obtain⟨o,e,c,d⟩:=st
  exact⟨o,e,fun v z=>by rw[d] at z;cases z⟩
 keep:=fun i h h' st k=>st.at fun o e=>k it (by simp) o e
 item:=by
  intro X hP hw hK hc i pins s σ H E I hf st hg
  subst hP hw hK
  obtain⟨xs,x,hq,hx⟩:=hg
  obtain⟨its,rv,p,hz⟩:=I.list hq
  obtain⟨u,hu,ru⟩:=rv.get hx
  obtain⟨f0,f1,f2,f3,f4,f5⟩:=hf it (by simp)
  refine wpAny_pyNext_list_item st p.isList (x:=u) (by simpa using hu) fun h' st' sb=> ?_
  have I1:Inv X pins σ H {s with heap:=h'}:=I.turned (t':=s.toks) (fun b o hb e=>(sb.2 b hb).trans e) f0 f1 f3 f4 f5
  obtain⟨o,e,c,d⟩:=id st'
  exact⟨u,rfl,zbl (s:={s with heap:=h'}) e c d (by decide) ⟨x,H,I1,ru,⟨rfl,fun ys hy=>by rw[I.list_inj hy hq];exact hx⟩,st',fun b hb=>(hf b hb).1⟩⟩
 done:=by
  intro X hP hw hK hc i pins s σ H E I hf st hg
  subst hP hw hK
  obtain⟨xs,hq,hx⟩:=hg
  obtain⟨its,rv,p,hz⟩:=I.list hq
  obtain⟨f0,f1,f2,f3,f4,f5⟩:=hf it (by simp)
  have hl:=rv.length
  exact wpAny_pyNext_list_end (I.ok.hd hc) st p.isList (by simp;lia) fun h' eb=>⟨rfl,I.turned (t':=s.toks) (fun b o hb e=>eb b o hb e) f0 f1 f3 f4 f5⟩
 self:=fun _ _ _ _ _ st h=>wpAny_pyIter_listiter st h
theorem z8L{P:Program}{w:World}{K:W.Frag}{tg:Expr}(a it:Addr):Turn P w K tg (Itt K a) [it] it (fun i h=>h.IsTupleIter it a i) where
 mem:=by simp
 obj:=fun i h st b hb=>by
  have e:b=it:=by simpa using hb
  subst e
  obtain⟨o,e,c,d⟩:=st
  exact⟨o,e,fun v z=>by rw[d] at z;cases z⟩
 keep:=fun i h h' st k=>st.at fun o e=>k it (by simp) o e
 item:=by
  intro X hP hw hK hc i pins s σ H E I hf st hg
  subst hP hw hK
  obtain⟨xs,x,hq,hx⟩:=hg
  obtain⟨its,rv,p,hz⟩:=I.tuple hq
  obtain⟨u,hu,ru⟩:=rv.get hx
  obtain⟨f0,f1,f2,f3,f4,f5⟩:=hf it (by simp)
  refine wpAny_pyNext_tuple_item st (show s.heap.IsTuple a its.toArray from p) (x:=u) (by simpa using hu) fun h' st' sb=> ?_
  have I1:Inv X pins σ H {s with heap:=h'}:=I.turned (t':=s.toks) (fun b o hb e=>(sb.2 b hb).trans e) f0 f1 f3 f4 f5
  obtain⟨o,e,c,d⟩:=id st'
  exact⟨u,rfl,zbl (s:={s with heap:=h'}) e c d (by decide) ⟨x,H,I1,ru,⟨rfl,fun ys hy=>by rw[I.tuple_inj hy hq];exact hx⟩,st',fun b hb=>(hf b hb).1⟩⟩
 done:=by
  intro X hP hw hK hc i pins s σ H E I hf st hg
  subst hP hw hK
  obtain⟨xs,hq,hx⟩:=hg
  obtain⟨its,rv,p,hz⟩:=I.tuple hq
  obtain⟨f0,f1,f2,f3,f4,f5⟩:=hf it (by simp)
  have hl:=rv.length
  exact wpAny_pyNext_tuple_end (I.ok.hd hc) st (show s.heap.IsTuple a its.toArray from p) (by simp;lia) fun h' eb=>⟨rfl,I.turned (t':=s.toks) (fun b o hb e=>eb b o hb e) f0 f1 f3 f4 f5⟩
 self:=fun _ _ _ _ _ st h=>wpAny_pyIter_tupleiter st h
theorem z8M{P:Program}{w:World}{K:W.Frag}{tg:Expr}(it:Addr)(lo:Int)(n:Nat):Turn P w K tg (Itr lo n) [it] it (fun i h=>IsRangeIter h it (lo+(i:Nat)*1) ((n:Int) -(i:Nat)) 1) where
 mem:=by simp
 obj:=fun i h st b hb=>by
  have e:b=it:=by simpa using hb
  subst e
  exact⟨_,st,fun v z=>by
   have z':Data.fields _=Data.cell v:=z
   cases z'⟩
 keep:=fun i h h' st k=>k it (by simp) _ st
 item:=by
  intro X hP hw hK hc i pins s σ H E I hf st hg
  subst hP hw hK
  obtain⟨f0,f1,f2,f3,f4,f5⟩:=hf it (by simp)
  have W:=Walks.range (prog:=X.prog) (w:=X.w) (I.ok.hd hc) it lo 1 n
  refine W.item i s _ _ hg st fun v h' tk hv st' kk=> ?_
  obtain⟨t,rfl⟩:=hv
  have I1:Inv X pins σ H {s with heap:=h',toks:=tk}:=I.turned (fun b o hb e=>kk b o (by simpa using hb) e) f0 f1 f3 f4 f5
  refine⟨_,rfl,zbl (s:={s with heap:=h',toks:=tk}) (n:= "range_iterator") st' rfl rfl (by decide) ⟨.int (lo+i),H,I1,⟨t, ?_⟩,⟨rfl,rfl⟩,st',fun b hb=>(hf b hb).1⟩⟩
  rw[Int.mul_one]
 done:=by
  intro X hP hw hK hc i pins s σ H E I hf st hg
  subst hP hw hK
  obtain⟨f0,f1,f2,f3,f4,f5⟩:=hf it (by simp)
  exact wpAny_pyNext_range_end (I.ok.hd hc) st (by have:n<=i:=hg;lia) fun h' eb=>⟨rfl,I.turned (t':=s.toks) (fun b o hb e=>eb b o hb e) f0 f1 f3 f4 f5⟩
 self:=fun _ _ _ _ _ st h=>wpAny_pyIter_rangeiter st h
section
variable{X:Cx}{tg:Expr}
theorem zbm{pins:List (Addr×Obj)}{σ:St}{H:Hp}{s:Shared}{R:It->Hp->Prop}{E:Value->Shared->Prop}{lo hi:Int}{t u v:Tok}{tk:Nat}(I:Inv X pins σ H s)(h1: -(2^62)<=lo)(h2:lo<2^62)(h3: -(2^62)<=hi)(h4:hi<2^62)
 (q:R (Itr lo (hi -lo).toNat) H):wpAny (model X.prog X.w) X.A (pyIter (.ref s.heap.objs.size)) (PIE X pins σ tg R) E {s with heap:=s.heap.push {cls:= .type "range",data:= .fields #[.int lo t, .int hi u, .int 1 v]},toks:=tk}:=by
 refine wpAny_pyIter_range (IsRange.new ..) (small_one h1 h2 h3 h4) ?_
 have I1:Inv X pins σ H {s with heap:=s.heap.push {cls:= .type "range",data:= .fields #[.int lo t, .int hi u, .int 1 v]},toks:=tk}:=I.kept fun b o e=>Heap.get?_push_of_some _ e
 refine⟨(s.heap.push {cls:= .type "range",data:= .fields #[.int lo t, .int hi u, .int 1 v]}).objs.size,[(s.heap.push {cls:= .type "range",data:= .fields #[.int lo t, .int hi u, .int 1 v]}).objs.size],_,_,H,rfl,
  I1.kept (t':=tk) fun b o e=>Heap.get?_push_of_some _ e,z8M _ lo (hi -lo).toNat, ?_,fun b hb=> ?_,q⟩
 ·have e1:lo+((0:Nat):Int)*1=lo:=by simp
  have e2:(((hi -lo).toNat:Nat):Int) -((0:Nat):Int)=Builtin.Range.rangeSize lo hi 1:=by rw[rangeSize_one];split<;>lia
  show IsRangeIter _ _ (lo+((0:Nat):Int)*1) ((((hi -lo).toNat:Nat):Int) -((0:Nat):Int)) 1
  rw[e1,e2]
  exact Heap.get?_push_size _ rfl
 ·have e:b=(s.heap.push {cls:= .type "range",data:= .fields #[.int lo t, .int hi u, .int 1 v]}).objs.size:=by simpa using hb
  subst e
  exact I1.fpOk (Nat.le_refl _) (I1.hok.fresh (Nat.le_refl _))
noncomputable def zhU(ta:TA):TI:=fun σ H R=>ta σ H fun vs H1=> ∃j:Int,vs=[.int j]/\-(2^62)<=j/\j<2^62/\R (Itr 0 j.toNat) H1
theorem z9o{a:Expr}{ta:TA}{p pos:Pos}(hg:Gl X "range")(hm:X.mg "range" =none)(ha:PA X [a] ta)(hs:starEach [a] X.env=[(false,eval a X.env)]:=by rfl):PI X tg (.Call (.Name "range" p) [a] [] pos) (zhU ta):=by
 intro pins s σ H R I h
 refine Call_ (z5B I hg hm boot_range (PyProof.Rows.callWith_type1 (thn (ha pos pins s σ H _ I h) fun us s1 ⟨vs,H1,I1,r1,q1⟩=> ?_) hs rfl))
 obtain⟨j,e,q1,q2,q⟩:=q1
 subst e
 cases r1 with
 |cons r rr=>
  cases rr
  obtain⟨t,rfl⟩:=r
  exact call_range_1 (zbm I1 (by lia) (by lia) q1 q2 (by simpa using q))
noncomputable def tFor(wi:TI)(g:TG)(tb:TS):TS:=fun D σ H=>wi σ H fun J H1=> ∃W:Nat->Nat->St->Hp->Prop,(∃m,W 0 m σ H1)/\∀i m σ H,W i m σ H->
 (J.stop i H/\D.nx σ H)\/(J.go i H/\∃N:St->Hp->Prop,(∀σ' H',N σ' H'->∃m',m'<m/\W (i+1) m' σ' H')/\∀x H',J.yld i H x H'->g x σ H' fun σ2 H2=>tb {D with nx:=N,ct:=N,bk:=D.nx} σ2 H2)
noncomputable def z81(fp:List Addr)(h:Heap):List (Addr×Obj):=fp.filterMap fun b=>(h.get? b).map fun o=>(b,o)
theorem z0p{fp:List Addr}{h:Heap}{b:Addr}{o:Obj}(hb:b∈fp)(e:h.get? b=some o):(b,o)∈z81 fp h:=List.mem_filterMap.mpr ⟨b,hb,by rw[e];rfl⟩
theorem z9p{fp:List Addr}{h:Heap}{p:Addr×Obj}(hp:p∈z81 fp h):p.1∈fp/\h.get? p.1=some p.2:=by
 obtain⟨b,hb,e⟩:=List.mem_filterMap.mp hp
 cases q:h.get? b with
 |none=>rw[q] at e;cases e
 |some o=>
  rw[q] at e
  have e':(b,o)=p:=Option.some.inj e
  subst e'
  exact⟨hb,q⟩
theorem Inv.pinned{pins:List (Addr×Obj)}{σ:St}{H:Hp}{s:Shared}{fp:List Addr}(I:Inv X pins σ H s)(hf: ∀b∈fp,FpOk X pins H b)(ho: ∀b∈fp,∃o,s.heap.get? b=some o/\∀v,o.data≠ .cell v):Inv X (pins++z81 fp s.heap) σ H s:=
 I.pins_of fun p hp=>(List.mem_append.mp hp).elim (fun z=>I.pin p (List.mem_append_right _ z)) fun z=>by
  obtain⟨hb,e⟩:=z9p z
  obtain⟨f0,f1,f2,_⟩:=hf p.1 hb
  obtain⟨o,e',d⟩:=ho p.1 hb
  rw[e] at e';cases e'
  exact⟨e,f0,f1,f2,d⟩
theorem Inv.unpinned{pins pl:List (Addr×Obj)}{σ:St}{H:Hp}{s:Shared}(I:Inv X (pins++pl) σ H s):Inv X pins σ H s:=I.pins_of fun p hp=>I.pin p (List.mem_append_right _ (List.mem_append_left _ hp))
theorem zf1{iter:Expr}{body:List Stmt}{wi:TI}{g:TG}{tb:TS}{pos:Pos}(hp:PassesOwn (model X.prog X.w) X.A X.env X.xe)(hc:X.calm=true)(hi:PI X tg iter wi)(hg:PG X tg g)(hb:PSs X body tb)
 (hs: ∀x,foldedSetIterable iter X.env x=pure x:=by intro _;rfl):PS X (.For tg iter body [] pos) (tFor wi g tb):=by
 intro pins s σ H D I h
 refine wpAny_For (thn (hi pins s σ H _ I h) fun v s1 h1=>thn h1 fun itv s2 h2=> ?_) hs
 obtain⟨it,fp,tn,J,H2,e,I2,T,st2,f2,W,⟨m0,w0⟩,turn⟩:=h2
 subst e
 have stat: ∀{H':Hp},(∀b∈fp,H' b=none)->∀b∈fp,FpOk X pins H' b:=fun hn b hb=>⟨hn b hb,(f2 b hb).2⟩
 refine codeAny_forLoop_any (fun n s'=> ∃i σ' H',Inv X pins σ' H' s'/\tn i s'.heap/\(∀b∈fp,H' b=none)/\W i n σ' H') ?_ m0 ⟨0,σ,H2,I2,st2,fun b hb=>(f2 b hb).1,w0⟩
 rintro n s3 ⟨i,σ3,H3,I3,st3,fr3,w3⟩
 rcases turn i n σ3 H3 w3 with⟨stop,qn⟩|⟨go,N,hN,step⟩
 ·refine wpAny_passesOwn hp (thn (T.done X rfl rfl rfl hc i pins s3 σ3 H3 X.xe I3 (stat fr3) st3 stop) fun r s4 ⟨hr,I4⟩=> ?_)
  subst hr
  exact wpAny_execs_nil ⟨σ3,H3,I4,qn⟩
 ·refine wpAny_passesOwn hp (thn (T.item X rfl rfl rfl hc i pins s3 σ3 H3 X.xe I3 (stat fr3) st3 go) fun r s4 ⟨u,hr,h4⟩=> ?_)
  subst hr
  refine wpAny_passesOwn hp (thn h4 fun _ s5 ⟨x,H5,I5,r5,y5,st5,fr5⟩=> ?_)
  have I5':=I5.pinned (stat fr5) (T.obj _ _ st5)
  refine wpAny_passesOwn hp (thn (hg _ s5 σ3 H5 x u _ I5' r5 (step x H5 y5)) fun _ s6 ⟨σ6,H6,I6,q6⟩=> ?_)
  refine wpAny_passesOwn hp (thn (hb _ s6 σ6 H6 _ I6 q6) fun f s7 q7=> ?_)
  have again: ∀{σ7:St} {H7:Hp},Inv X (pins++z81 fp s5.heap) σ7 H7 s7->N σ7 H7->∃m,m<n/\∃i σ' H',Inv X pins σ' H' s7/\tn i s7.heap/\(∀b∈fp,H' b=none)/\W i m σ' H':=fun{σ7 H7} I7 n7=>by
   obtain⟨m',hm,w7⟩:=hN σ7 H7 n7
   refine⟨m',hm,i+1,σ7,H7,I7.unpinned,T.keep _ _ _ st5 fun b hb o e=>(I7.pin (b,o) (List.mem_append_right _ (List.mem_append_right _ (z0p hb e)))).1,fun b hb=> ?_,w7⟩
   obtain⟨o,e,d⟩:=T.obj _ _ st5 b hb
   exact(I7.pin (b,o) (List.mem_append_right _ (List.mem_append_right _ (z0p hb e)))).2.1
  cases f with
  |next=>obtain⟨σ7,H7,I7,n7⟩:=q7;exact again I7 n7
  |cont=>obtain⟨σ7,H7,I7,n7⟩:=q7;exact again I7 n7
  |brk=>obtain⟨σ7,H7,I7,q7⟩:=q7;exact⟨σ7,H7,I7.unpinned,q7⟩
  |ret v=>obtain⟨x7,σ7,H7,I7,r7,q7⟩:=q7;exact⟨x7,σ7,H7,I7.unpinned,r7,q7⟩
end
noncomputable abbrev R2:=V->V->Hp->VK->Prop
noncomputable def OpR(X:Cx)(f:Value->Value->Sem Value)(r:R2):Prop:=
 ∀(pins:List (Addr×Obj)) (s:Shared) (σ:St) (H:Hp) (x y:V) (v u:Value) (Q:VK),Inv X pins σ H s->RelV x v->RelV y u->r x y H Q->
  wpAny (model X.prog X.w) X.A (f v u) (EP X pins σ Q) X.xe s
noncomputable def UnR(X:Cx)(f:Value->Sem Value)(r:V->Hp->VK->Prop):Prop:=
 ∀(pins:List (Addr×Obj)) (s:Shared) (σ:St) (H:Hp) (x:V) (v:Value) (Q:VK),Inv X pins σ H s->RelV x v->r x H Q->
  wpAny (model X.prog X.w) X.A (f v) (EP X pins σ Q) X.xe s
noncomputable def CallR(X:Cx)(f:Value)(r:List V->Hp->VK->Prop):Prop:=
 ∀(pins:List (Addr×Obj)) (s:Shared) (σ:St) (H:Hp) (xs:List V) (us:List Value) (Q:VK),Inv X pins σ H s->Vals xs us->r xs H Q->
  wpAny (model X.prog X.w) X.A (call f us) (EP X pins σ Q) X.xe s
noncomputable def TruR(X:Cx)(r:V->Hp->(Bool->Hp->Prop)->Prop):Prop:=
 ∀(pins:List (Addr×Obj)) (s:Shared) (σ:St) (H:Hp) (x:V) (v:Value) (Q:Bool->Hp->Prop),Inv X pins σ H s->RelV x v->r x H Q->
  wpAny (model X.prog X.w) X.A (truthy v) (TP X pins σ Q) X.xe s
noncomputable def tOp(r:R2)(ta tb:TE):TE:=fun σ H Q=>ta σ H fun x H1=>tb σ H1 fun y H2=>r x y H2 Q
noncomputable def tUn(r:V->Hp->VK->Prop)(ta:TE):TE:=fun σ H Q=>ta σ H fun x H1=>r x H1 Q
noncomputable def rI(C:Int->Int->Prop)(g:Int->Int->V):R2:=fun x y H Q=> ∃i j,x= .int i/\y= .int j/\C i j/\Q (g i j) H
noncomputable def rI0(g:Int->Int->V):R2:=fun x y H Q=> ∃i j,x= .int i/\y= .int j/\Q (g i j) H
noncomputable def rU(g:Int->V):V->Hp->VK->Prop:=fun x H Q=> ∃i,x= .int i/\Q (g i) H
section
variable{X:Cx}{a b c:Expr}{ta tb tc:TE}{pos:Pos}
theorem binT(ha:PE X a ta)(hb:PE X b tb){pins:List (Addr×Obj)}{s:Shared}{σ:St}{H:Hp}{R:V->V->Hp->Prop}(I:Inv X pins σ H s)
 (h:ta σ H fun x H1=>tb σ H1 fun y H2=>R x y H2) {Q:Value->Shared->Prop} {f:Value->Value->Sem Value}
 (hf: ∀v u s2 x y H2,Inv X pins σ H2 s2->RelV x v->RelV y u->R x y H2->wpAny (model X.prog X.w) X.A (f v u) Q X.xe s2):
 wpAny (model X.prog X.w) X.A (eval a X.env) (fun v s₁=>wpAny (model X.prog X.w) X.A (eval b X.env) (fun u s₂=>wpAny (model X.prog X.w) X.A (f v u) Q X.xe s₂) X.xe s₁) X.xe s:=by
 refine thn (ha pins s σ H _ I h) fun v s1 ⟨x,H1,I1,r1,q1⟩=> ?_
 refine thn (hb pins s1 σ H1 _ I1 q1) fun u s2 ⟨y,H2,I2,r2,q2⟩=> ?_
 exact hf v u s2 x y H2 I2 r1 r2 q2
theorem zhV{op:Operator}{r:R2}(ho:OpR X (binaryOp op) r)(ha:PE X a ta)(hb:PE X b tb):PE X (.BinOp a op b pos) (tOp r ta tb):=by
 intro pins s σ H Q I h
 exact wpAny_BinOp (binT ha hb I h fun v u s2 x y H2 I2 rx ry q=>ho pins s2 σ H2 x y v u Q I2 rx ry q)
theorem zhW{op:UnaryOp}{r:V->Hp->VK->Prop}(ho:UnR X (unaryOp op) r)(ha:PE X a ta):PE X (.UnaryOp op a pos) (tUn r ta):=by
 intro pins s σ H Q I h
 exact UnaryOp_ (thn (ha pins s σ H _ I h) fun v s1 ⟨x,H1,I1,r1,q1⟩=>ho pins s1 σ H1 x v Q I1 r1 q1)
theorem opI{f:Value->Value->Sem Value}{C:Int->Int->Prop}{g:Int->Int->Int}
 (rule: ∀(i j:Int) (t u:Tok) (s:Shared) (Q:Value->Shared->Prop) (E:Value->Shared->Prop),C i j->Q (.int (g i j) s.toks) {s with toks:=s.toks+1}->wpAny (model X.prog X.w) X.A (f (.int i t) (.int j u)) Q E s):
 OpR X f (rI C fun i j=> .int (g i j)):=by
 intro pins s σ H x y v u Q I rx ry h
 obtain⟨i,j,rfl,rfl,hc,q⟩:=h
 obtain⟨t,rfl⟩:=rx
 obtain⟨t',rfl⟩:=ry
 exact rule i j t t' s _ _ hc ⟨.int (g i j),H,I.tok _,⟨_,rfl⟩,q⟩
theorem opI0{f:Value->Value->Sem Value}{g:Int->Int->Int}
 (rule: ∀(i j:Int) (t u:Tok) (s:Shared) (Q:Value->Shared->Prop) (E:Value->Shared->Prop),Q (.int (g i j) s.toks) {s with toks:=s.toks+1}->wpAny (model X.prog X.w) X.A (f (.int i t) (.int j u)) Q E s):
 OpR X f (rI0 fun i j=> .int (g i j)):=by
 intro pins s σ H x y v u Q I rx ry h
 obtain⟨i,j,rfl,rfl,q⟩:=h
 obtain⟨t,rfl⟩:=rx
 obtain⟨t',rfl⟩:=ry
 exact rule i j t t' s _ _ ⟨.int (g i j),H,I.tok _,⟨_,rfl⟩,q⟩
theorem opB0{f:Value->Value->Sem Value}{g:Int->Int->Bool}
 (rule: ∀(i j:Int) (t u:Tok) (s:Shared) (Q:Value->Shared->Prop) (E:Value->Shared->Prop),Q (.bool (g i j)) s->wpAny (model X.prog X.w) X.A (f (.int i t) (.int j u)) Q E s):
 OpR X f (rI0 fun i j=> .bl (g i j)):=by
 intro pins s σ H x y v u Q I rx ry h
 obtain⟨i,j,rfl,rfl,q⟩:=h
 obtain⟨t,rfl⟩:=rx
 obtain⟨t',rfl⟩:=ry
 exact rule i j t t' s _ _ ⟨.bl (g i j),H,I,rfl,q⟩
noncomputable def CDiv(i j:Int):Prop:=0<j/\j<2^200
theorem zhX{x j:Int}(h1:0<j)(h2:j<2^200):Builtin.divisionGoesByPylong x j=false:=by
 refine PyProof.noPylong_of_log2 ?_
 have h3:j.natAbs.log2<200:=(Nat.log2_lt (by lia)).mpr (by lia)
 lia
noncomputable def CPow(i j:Int):Prop:=0<=j/\j<=1000000/\i.natAbs<2^64
noncomputable def CMul(i j:Int):Prop:=(-(2^64)<i/\i<2^64)\/(-(2^64)<j/\j<2^64)
theorem CMul.ok{i j:Int}(h:CMul i j):IntMulOk i j:=by
 rcases h with⟨h1,h2⟩|⟨h1,h2⟩
 ·exact .of_left (intBits_le_64 h1 h2)
 ·exact .of_right (intBits_le_64 h1 h2)
theorem zf2:OpR X (binaryOp .Add) (rI0 fun i j=> .int (i+j)):=opI0 fun _ _ _ _ _ _ _ q=>add_int q
theorem zf3:OpR X (binaryOp .Sub) (rI0 fun i j=> .int (i -j)):=opI0 fun _ _ _ _ _ _ _ q=>sub_int q
theorem zf4:OpR X (binaryOp .Mult) (rI CMul fun i j=> .int (i*j)):=opI fun _ _ _ _ _ _ _ hc q=>mul_int q hc.ok
theorem zdh:OpR X (binaryOp .FloorDiv) (rI CDiv fun i j=> .int (i/j)):=opI fun i j _ _ _ _ _ hc q=>by
 have h1:(0:Int)<j:=hc.1
 have h2:j<2^200:=hc.2
 exact floordiv_int (by lia) (by rw[Int.fdiv_eq_ediv_of_nonneg i (by lia)];exact q) (.inl (zhX h1 h2))
theorem zf5:OpR X (binaryOp .Mod) (rI (fun _ j=>0<j) fun i j=> .int (i %j)):=opI fun i j _ _ _ _ _ hc q=>by
 have h1:(0:Int)<j:=hc
 exact mod_int' (by lia) (by rw[Int.fmod_eq_emod_of_nonneg i (by lia)];exact q)
theorem zf6:OpR X (binaryOp .Pow) (rI CPow fun i j=> .int (i^j.toNat)):=opI fun _ _ _ _ _ _ _ hc q=>pow_int_small hc.1 hc.2.1 hc.2.2 q
theorem unI{f:Value->Sem Value}{g:Int->Int}
 (rule: ∀(i:Int) (t:Tok) (s:Shared) (Q:Value->Shared->Prop) (E:Value->Shared->Prop),Q (.int (g i) s.toks) {s with toks:=s.toks+1}->wpAny (model X.prog X.w) X.A (f (.int i t)) Q E s):
 UnR X f (rU fun i=> .int (g i)):=by
 intro pins s σ H x v Q I rx h
 obtain⟨i,rfl,q⟩:=h
 obtain⟨t,rfl⟩:=rx
 exact rule i t s _ _ ⟨.int (g i),H,I.tok _,⟨_,rfl⟩,q⟩
theorem zf7:UnR X (unaryOp .USub) (rU fun i=> .int (-i)):=unI fun _ _ _ _ _ q=>neg_int q
end
noncomputable def scal:V->V->Bool
 | .non, .non=>true| .non, .int _=>true| .int _, .non=>true| .non, .bl _=>true| .bl _, .non=>true| .non, .str _=>true| .str _, .non=>true
 | .int _, .int _=>true| .bl _, .bl _=>true| .str _, .str _=>true| .byt _, .byt _=>true
 | .int _, .str _=>true| .str _, .int _=>true| .bl _, .str _=>true| .str _, .bl _=>true
 |_,_=>false
noncomputable def rEq:R2:=fun x y H Q=>scal x y=true/\Q (.bl (decide (x=y))) H
noncomputable def rNe:R2:=fun x y H Q=>scal x y=true/\Q (.bl (!decide (x=y))) H
theorem z9q{i j:Int}:decide (V.int i=V.int j)=(i==j):=by
 rw[Bool.eq_iff_iff]
 simp
theorem zcl{i j:Bool}:decide (V.bl i=V.bl j)=(i==j):=by
 rw[Bool.eq_iff_iff]
 simp
theorem z5S{i j:Str}:decide (V.str i=V.str j)=(i==j):=by
 rw[Bool.eq_iff_iff]
 simp
theorem z9r{i j:Array UInt8}:decide (V.byt i=V.byt j)=(i.toList==j.toList):=by
 rw[Bool.eq_iff_iff]
 cases i
 cases j
 simp
section
variable{X:Cx}{a b c:Expr}{ta tb tc:TE}{pos:Pos}
theorem z0i{pins:List (Addr×Obj)}{σ:St}{H:Hp}{s:Shared}{Q:VK}{k k':Bool}(I:Inv X pins σ H s)(q:Q (.bl k) H)(e:k=k'):EP X pins σ Q (.bool k') s:=by
 subst e
 exact⟨.bl k,H,I,rfl,q⟩
theorem zhY:OpR X (compareOp .Eq) rEq:=by
 intro pins s σ H x y v u Q I rx ry h
 obtain⟨hs,q⟩:=h
 cases x with
 |non=>
  cases rx
  cases y with
  |non=>cases ry;exact PySem.EqNone.eq_none_none (z0i I q (by simp))
  |bl j=>cases ry;exact PySem.EqNone.eq_none_bool (z0i I q (by simp))
  |int j=>obtain⟨t',rfl⟩:=ry;exact PySem.EqNone.eq_none_int (z0i I q (by simp))
  |str j=>obtain⟨t',rfl⟩:=ry;exact PySem.EqNone.eq_none_str (z0i I q (by simp))
  |_=>exact absurd (show false=true from hs) Bool.false_ne_true
 |bl i=>
  cases rx
  cases y with
  |non=>cases ry;exact PySem.EqNone.eq_bool_none (z0i I q (by simp))
  |bl j=>cases ry;exact eq_bool (z0i I q zcl)
  |str j=>obtain⟨t',rfl⟩:=ry;exact PySem.EqMixed.eq_bool_str (z0i I q (by simp))
  |_=>exact absurd (show false=true from hs) Bool.false_ne_true
 |int i=>
  obtain⟨t,rfl⟩:=rx
  cases y with
  |non=>cases ry;exact PySem.EqNone.eq_int_none (z0i I q (by simp))
  |int j=>obtain⟨t',rfl⟩:=ry;exact eq_int (z0i I q z9q)
  |str j=>obtain⟨t',rfl⟩:=ry;exact PySem.EqMixed.eq_int_str (z0i I q (by simp))
  |_=>exact absurd (show false=true from hs) Bool.false_ne_true
 |str i=>
  obtain⟨t,rfl⟩:=rx
  cases y with
  |non=>cases ry;exact PySem.EqNone.eq_str_none (z0i I q (by simp))
  |bl j=>cases ry;exact PySem.EqMixed.eq_str_bool (z0i I q (by simp))
  |int j=>obtain⟨t',rfl⟩:=ry;exact PySem.EqMixed.eq_str_int (z0i I q (by simp))
  |str j=>obtain⟨t',rfl⟩:=ry;exact eq_str (z0i I q z5S)
  |_=>exact absurd (show false=true from hs) Bool.false_ne_true
 |byt i=>
  obtain⟨t,rfl⟩:=rx
  cases y with
  |byt j=>obtain⟨t',rfl⟩:=ry;exact W.eq_bytes (z0i I q z9r)
  |_=>exact absurd (show false=true from hs) Bool.false_ne_true
 |_=>cases y<;>exact absurd (show false=true from hs) Bool.false_ne_true
theorem zhZ:OpR X (compareOp .NotEq) rNe:=by
 intro pins s σ H x y v u Q I rx ry h
 obtain⟨hs,q⟩:=h
 cases x with
 |non=>
  cases rx
  cases y with
  |non=>cases ry;exact PySem.EqNone.ne_none_none (z0i I q (by simp))
  |bl j=>cases ry;exact PySem.EqNone.ne_none_bool (z0i I q (by simp))
  |int j=>obtain⟨t',rfl⟩:=ry;exact PySem.EqNone.ne_none_int (z0i I q (by simp))
  |str j=>obtain⟨t',rfl⟩:=ry;exact PySem.EqNone.ne_none_str (z0i I q (by simp))
  |_=>exact absurd (show false=true from hs) Bool.false_ne_true
 |bl i=>
  cases rx
  cases y with
  |non=>cases ry;exact PySem.EqNone.ne_bool_none (z0i I q (by simp))
  |bl j=>cases ry;exact ne_bool (z0i I q (congrArg not zcl))
  |str j=>obtain⟨t',rfl⟩:=ry;exact PySem.EqMixed.ne_bool_str (z0i I q (by simp))
  |_=>exact absurd (show false=true from hs) Bool.false_ne_true
 |int i=>
  obtain⟨t,rfl⟩:=rx
  cases y with
  |non=>cases ry;exact PySem.EqNone.ne_int_none (z0i I q (by simp))
  |int j=>obtain⟨t',rfl⟩:=ry;exact ne_int (z0i I q (congrArg not z9q))
  |str j=>obtain⟨t',rfl⟩:=ry;exact PySem.EqMixed.ne_int_str (z0i I q (by simp))
  |_=>exact absurd (show false=true from hs) Bool.false_ne_true
 |str i=>
  obtain⟨t,rfl⟩:=rx
  cases y with
  |non=>cases ry;exact PySem.EqNone.ne_str_none (z0i I q (by simp))
  |bl j=>cases ry;exact PySem.EqMixed.ne_str_bool (z0i I q (by simp))
  |int j=>obtain⟨t',rfl⟩:=ry;exact PySem.EqMixed.ne_str_int (z0i I q (by simp))
  |str j=>obtain⟨t',rfl⟩:=ry;exact ne_str (z0i I q (congrArg not z5S))
  |_=>exact absurd (show false=true from hs) Bool.false_ne_true
 |byt i=>
  obtain⟨t,rfl⟩:=rx
  cases y with
  |byt j=>obtain⟨t',rfl⟩:=ry;exact W.ne_bytes (z0i I q (congrArg not z9r))
  |_=>exact absurd (show false=true from hs) Bool.false_ne_true
 |_=>cases y<;>exact absurd (show false=true from hs) Bool.false_ne_true
theorem zi0:OpR X (compareOp .Lt) (rI0 fun i j=> .bl (decide (i<j))):=opB0 fun _ _ _ _ _ _ _ q=>lt_int q
theorem zi1:OpR X (compareOp .LtE) (rI0 fun i j=> .bl (decide (i<=j))):=opB0 fun _ _ _ _ _ _ _ q=>le_int q
theorem zi2:OpR X (compareOp .Gt) (rI0 fun i j=> .bl (decide (j<i))):=opB0 fun _ _ _ _ _ _ _ q=>gt_int q
theorem z9s:OpR X (compareOp .In) (fun x y H Q=> ∃i j,x= .str i/\y= .str j/\Q (.bl (!(Builtin.Str.occurrences j i 0 j.length 1).isEmpty)) H):=by
 intro pins s σ H x y v u Q I rx ry h
 obtain⟨i,j,rfl,rfl,q⟩:=h
 obtain⟨t,rfl⟩:=rx
 obtain⟨t',rfl⟩:=ry
 exact in_str (z0i I q rfl)
theorem zf8:OpR X (compareOp .Is) (fun x y H Q=>y= .non/\Q (.bl (decide (x= .non))) H):=by
 intro pins s σ H x y v u Q I rx ry h
 obtain⟨rfl,q⟩:=h
 cases ry
 refine is_none_gen (z0i I q ?_)
 cases x<;>first
  |(cases rx;rfl)
  |(obtain⟨t,rfl⟩:=rx;rfl)
theorem OpR.or{f:Value->Value->Sem Value}{r r':R2}(h:OpR X f r)(h':OpR X f r'):OpR X f (fun x y H Q=>r x y H Q\/r' x y H Q):=by
 intro pins s σ H x y v u Q I rx ry q
 rcases q with q|q
 ·exact h pins s σ H x y v u Q I rx ry q
 ·exact h' pins s σ H x y v u Q I rx ry q
theorem z0b(b:Expr){op:CmpOp}(h:op≠ .In:=by decide)(h2:op≠ .NotIn:=by decide):behindInMarks op b=false:=by
 have e1:(op==CmpOp.In)=false:=by cases op<;>first|rfl|exact absurd rfl h
 have e2:(op==CmpOp.NotIn)=false:=by cases op<;>first|rfl|exact absurd rfl h2
 cases b<;>simp[behindInMarks,e1,e2]
theorem zdi{op:CmpOp}{r:R2}(ho:OpR X (compareOp op) r)(ha:PE X a ta)(hb:PE X b tb)(hm:behindInMarks op b=false):PE X (.Compare a [op] [b] pos) (tOp r ta tb):=by
 intro pins s σ H Q I h
 exact wpAny_Compare1 (binT ha hb I h fun v u s2 x y H2 I2 rx ry q=>ho pins s2 σ H2 x y v u Q I2 rx ry q) hm
noncomputable def zf9(t:TE):TT:=fun σ H Q=>t σ H fun x H'=> ∃k,x= .bl k/\Q k H'
theorem zdj{op:CmpOp}{r:R2}(ho:OpR X (compareOp op) r)(ha:PE X a ta)(hb:PE X b tb)(hm:behindInMarks op b=false):PT X (.Compare a [op] [b] pos) (zf9 (tOp r ta tb)):=by
 intro pins s σ H Q I h
 refine wpAny_isTrue_Compare1 (thn (ha pins s σ H _ I h) fun v s1 ⟨x,H1,I1,r1,q1⟩=>thn (hb pins s1 σ H1 _ I1 q1) fun u s2 ⟨y,H2,I2,r2,q2⟩=>
  thn (ho pins s2 σ H2 x y v u _ I2 r1 r2 q2) fun c s3 ⟨z,H3,I3,r3,k,e,q3⟩=> ?_) hm
 subst e
 cases r3
 exact wpAny_truthy_bool ⟨H3,I3,q3⟩
noncomputable def z9t(r r':R2)(ta tb tc:TE):TE:=fun σ H Q=>ta σ H fun x H1=>tb σ H1 fun y H2=>r x y H2 fun z H3=> ∃k,z= .bl k/\
 (if k=true then tc σ H3 fun w' H4=>r' y w' H4 Q else Q (.bl false) H3)
theorem zbn{op op':CmpOp}{r r':R2}(ho:OpR X (compareOp op) r)(ho':OpR X (compareOp op') r')(ha:PE X a ta)(hb:PE X b tb)(hc:PE X c tc)
 (hm:lastMarks [op,op'] [b,c]=false:=by with_unfolding_all rfl):PE X (.Compare a [op,op'] [b,c] pos) (z9t r r' ta tb tc):=by
 intro pins s σ H Q I h
 refine Compare_chain (thn (ha pins s σ H _ I h) fun v s1 ⟨x,H1,I1,r1,q1⟩=>chain_link (thn (hb pins s1 σ H1 _ I1 q1) fun u s2 ⟨y,H2,I2,r2,q2⟩=>
  thn (ho pins s2 σ H2 x y v u _ I2 r1 r2 q2) fun d s3 ⟨z,H3,I3,r3,k,e,q3⟩=> ?_)) hm
 subst e
 cases r3
 refine wpAny_truthy_bool ?_
 cases k with
 |false=>exact ite_ff ⟨.bl false,H3,I3,rfl,q3⟩
 |true=>exact ite_tt (chain_last (thn (hc pins s3 σ H3 _ I3 q3) fun w' s4 ⟨z',H4,I4,r4,q4⟩=>ho' pins s4 σ H4 y z' u w' Q I4 r2 r4 q4))
theorem zbo{op op':CmpOp}{r r':R2}(ho:OpR X (compareOp op) r)(ho':OpR X (compareOp op') r')(ha:PE X a ta)(hb:PE X b tb)(hc:PE X c tc)
 (hm:lastMarks [op,op'] [b,c]=false:=by with_unfolding_all rfl):PT X (.Compare a [op,op'] [b,c] pos) (zf9 (z9t r r' ta tb tc)):=by
 intro pins s σ H Q I h
 refine isTrue_chain (thn (ha pins s σ H _ I h) fun v s1 ⟨x,H1,I1,r1,q1⟩=>test_link (thn (hb pins s1 σ H1 _ I1 q1) fun u s2 ⟨y,H2,I2,r2,q2⟩=>
  thn (ho pins s2 σ H2 x y v u _ I2 r1 r2 q2) fun d s3 ⟨z,H3,I3,r3,k,e,q3⟩=> ?_)) hm
 subst e
 cases r3
 refine wpAny_truthy_bool ?_
 cases k with
 |false=>
  obtain⟨k',e',q'⟩:=q3
  cases e'
  exact ite_ff ⟨H3,I3,q'⟩
 |true=>
  refine ite_tt (test_last (thn (hc pins s3 σ H3 _ I3 q3) fun w' s4 ⟨z',H4,I4,r4,q4⟩=>thn (ho' pins s4 σ H4 y z' u w' _ I4 r2 r4 q4) fun d' s5 ⟨z2,H5,I5,r5,k2,e2,q5⟩=> ?_))
  subst e2
  cases r5
  exact wpAny_truthy_bool ⟨H5,I5,q5⟩
noncomputable def TruV(K:W.Frag)(x:V)(H:Hp)(k:Bool):Prop:=
 match x with
 | .non=>k=false
 | .bl b=>k=b
 | .int i=>k=(i !=0)
 | .str y=>y.length<=sizeLine/\k=((y.length:Int) !=0)
 | .byt y=>y.size<=sizeLine/\k=((y.size:Int) !=0)
 | .ref p=>(∃xs,SqL K H p xs/\k= !xs.isEmpty)\/(∃xs,SqT K H p xs/\k= !xs.isEmpty)\/∃kvs,H p=some (.dK kvs)/\k= !kvs.isEmpty
 |_=>False
theorem z8N{κ:Type}{kvs:List (κ×V)}{vs:List (κ×Value)}(r:KV kvs vs):(!vs.isEmpty)= !kvs.isEmpty:=by
 cases r<;>rfl
theorem z5C{xs:List V}{its:List Value}(r:Vals xs its):(!its.toArray.isEmpty)= !xs.isEmpty:=by
 cases r<;>simp
theorem z5D:(sizeLine:Nat)<2^63:=by rw[sizeLine_eq];decide
theorem zfa:TruR X (fun x H Q=> ∃k,TruV X.K x H k/\Q k H):=by
 intro pins s σ H x v Q I rx h
 obtain⟨k,e,q⟩:=h
 have hl:=z5D
 have hs:sizeLine=16777216:=sizeLine_eq
 cases x with
 |non=>
  cases rx
  have e':k=false:=e
  subst e'
  exact truthy_none ⟨H,I,q⟩
 |bl b=>
  cases rx
  have e':k=b:=e
  subst e'
  exact wpAny_truthy_bool ⟨H,I,q⟩
 |int i=>
  obtain⟨t,rfl⟩:=rx
  have e':k=(i !=0):=e
  subst e'
  exact PySem.P.truthy_int ⟨H,I,q⟩
 |str y=>
  obtain⟨t,rfl⟩:=rx
  obtain⟨hy,e'⟩:y.length<=sizeLine/\k=((y.length:Int) !=0):=e
  subst e'
  exact PySem.P.truthy_str (by lia) ⟨H,I.tok _,q⟩
 |byt y=>
  obtain⟨t,rfl⟩:=rx
  obtain⟨hy,e'⟩:y.size<=sizeLine/\k=((y.size:Int) !=0):=e
  subst e'
  exact W.truthy_bytes (by lia) ⟨H,I.tok _,q⟩
 |ref p=>
  cases rx
  have e':(∃xs,SqL X.K H p xs/\k= !xs.isEmpty)\/(∃xs,SqT X.K H p xs/\k= !xs.isEmpty)\/∃kvs,H p=some (.dK kvs)/\k= !kvs.isEmpty:=e
  rcases e' with⟨xs,hx,e'⟩|⟨xs,hx,e'⟩|⟨kvs,hx,e'⟩
  ·subst e'
   obtain⟨its,r,pl,hz⟩:=I.list hx
   have hlen:=r.length
   exact wpAny_truthy_list pl.isList (by simp only[List.size_toArray];lia) ⟨H,I.tok _,by rw[z5C r];exact q⟩
  ·subst e'
   obtain⟨its,r,pl,hz⟩:=I.tuple hx
   have hlen:=r.length
   exact truthy_tuple pl (by simp only[List.size_toArray];lia) ⟨H,I.tok _,by rw[z5C r];exact q⟩
  ·subst e'
   obtain⟨hz,hS,vs,r,m⟩:kvs.length<=sizeLine/\(p==sysModules)=false/\∃vs,KV kvs vs/\s.heap.DictOf (z0A X.prog X.w) p vs:=I.hok p _ hx
   have hlen:kvs.length=vs.length:=Paired.length r
   exact wpAny_truthy_dict hS m (by lia) ⟨H,I.tok _,by rw[z8N r];exact q⟩
 |_=>exact(show False from e).elim
theorem zbp(ha:PE X a ta)(he: ∀whole,isTrue a X.env whole=(do let v<-whole;standAt a.pos;holding [v] (truthy v))):
 PT X a (fun σ H Q=>ta σ H fun x H'=> ∃k,TruV X.K x H' k/\Q k H'):=by
 intro pins s σ H Q I h
 exact isTrue_plain (thn (ha pins s σ H _ I h) fun v s1 ⟨x,H1,I1,r1,q1⟩=>zfa pins s1 σ H1 x v Q I1 r1 q1) (he _)
theorem z8O:OpR X (binaryOp .Add) (fun x y H Q=> ∃i j,x= .str i/\y= .str j/\i.length+j.length<=sizeLine/\Q (.str (i++j)) H):=by
 intro pins s σ H x y v u Q I rx ry h
 obtain⟨i,j,rfl,rfl,hz,q⟩:=h
 obtain⟨t,rfl⟩:=rx
 obtain⟨t',rfl⟩:=ry
 exact add_str (fun t' tk=>⟨.str (i++j),H,I.tok _,⟨_,rfl⟩,q⟩) hz
noncomputable def z5T(b:Expr):Prop:= ∀o i,subscripted b false o i=operate [o,i] (getItem o i)
theorem z7l(ha:PE X a ta)(hb:PE X b tb)(hs:z5T b):
 PE X (.Subscript a b pos) (tOp (fun x y H Q=> ∃z i c,x= .str z/\y= .int i/\0<=i/\i<2^63/\i<z.length/\z.cps[i.toNat]? =some c/\Q (.str ⟨#[c]⟩) H) ta tb):=by
 intro pins s σ H Q I h
 refine Subscript_ (binT ha hb I h fun v u s2 x y H2 I2 rx ry q=> ?_)
 obtain⟨z,i,c,rfl,rfl,h0,h63,h1,hc,q⟩:=q
 obtain⟨t,rfl⟩:=rx
 obtain⟨t',rfl⟩:=ry
 have e:seqIndex? i z.length=some i.toNat:=PySem.StrLaws.seqIndex_nonneg h0 h1
 exact tail_any (typeIs_str s2 z t) slot_str_getitem.lookup (getItem_str (c:=c) (by
  have e1:decide (i< -(2^63:Int))=false:=decide_eq_false (by lia)
  have e2:decide (i≥2^63)=false:=decide_eq_false (by lia)
  rw[e1,e2]<;>rfl) (by rw[e];exact hc) ⟨.str ⟨#[c]⟩,H2,I2.tok _,⟨_,rfl⟩,q⟩) (hs _ _)
theorem z2R{x:V}{us:List Value}(r:Vals [x] us): ∃u,us=[u]/\RelV x u:=by
 cases r with
 |cons r1 r2=>cases r2;exact⟨_,rfl,r1⟩
theorem zdk{x y:V}{us:List Value}(r:Vals [x,y] us): ∃u w',us=[u,w']/\RelV x u/\RelV y w':=by
 cases r with
 |cons r1 r2=>
  cases r2 with
  |cons r3 r4=>cases r4;exact⟨_,_,rfl,r1,r3⟩
theorem zbq:CallR X (.builtin "abs") (fun xs H Q=> ∃i,xs=[.int i]/\Q (.int (if i<0 then -i else i)) H):=by
 intro pins s σ H xs us Q I r h
 obtain⟨i,rfl,q⟩:=h
 obtain⟨u,rfl,t,rfl⟩:=z2R r
 exact call_abs_int fun u tk=>⟨.int (if i<0 then -i else i),H,I.tok _,⟨_,rfl⟩,q⟩
theorem z9u(hc:X.calm=true):CallR X (.builtin "max") (fun xs H Q=> ∃i j,xs=[.int i, .int j]/\Q (.int (if j>i then j else i)) H):=by
 intro pins s σ H xs us Q I r h
 obtain⟨i,j,rfl,q⟩:=h
 obtain⟨u,w',rfl,⟨t,rfl⟩,⟨t',rfl⟩⟩:=zdk r
 refine max_two_ints (I.ok.hd hc) fun h' tk k=>⟨_,H,I.kept k, ?_,q⟩
 by_cases hj:j>i
 ·rw[if_pos hj,if_pos hj];exact⟨_,rfl⟩
 ·rw[if_neg hj,if_neg hj];exact⟨_,rfl⟩
theorem z9v(hc:X.calm=true):CallR X (.builtin "min") (fun xs H Q=> ∃i j,xs=[.int i, .int j]/\Q (.int (if j<i then j else i)) H):=by
 intro pins s σ H xs us Q I r h
 obtain⟨i,j,rfl,q⟩:=h
 obtain⟨u,w',rfl,⟨t,rfl⟩,⟨t',rfl⟩⟩:=zdk r
 refine min_two_ints (I.ok.hd hc) fun h' tk k=>⟨_,H,I.kept k, ?_,q⟩
 by_cases hj:j<i
 ·rw[if_pos hj,if_pos hj];exact⟨_,rfl⟩
 ·rw[if_neg hj,if_neg hj];exact⟨_,rfl⟩
theorem z6F:CallR X (.type "int") (fun xs H Q=>(∃i,xs=[.int i]/\Q (.int i) H)\/∃k,xs=[.bl k]/\Q (.int (if k then 1 else 0)) H):=by
 intro pins s σ H xs us Q I r h
 rcases h with⟨i,rfl,q⟩|⟨k,rfl,q⟩
 ·obtain⟨u,rfl,t,rfl⟩:=z2R r
  exact call_int_int ⟨.int i,H,I,⟨_,rfl⟩,q⟩
 ·obtain⟨u,rfl,r1⟩:=z2R r
  cases r1
  exact call_int_bool ⟨.int (if k then 1 else 0),H,I.tok _,⟨_,rfl⟩,q⟩
end
structure ObjM(h:Heap)(x dx C:Addr)(mA:Str->Option Value):Prop where
 obj:h.get? x=some (W.instObj C dx)
 ns:h.Ns1 dx mA
 ne:dx≠x
structure Cls(K:W.Frag)(C:Addr):Prop where
 pg:W.plainGet K C Str.empty=true
 hd:W.hasDictIn K C=true
 po:W.plainOver K C=true
 sa:W.findIn K (.ref C) "__setattr__" =some (some (.builtin "object.__setattr__"))
structure Con(K:W.Frag)(C:Addr)(f:Str)(v:V)(u:Value):Prop where
 at_:W.findIn K (.ref C) f=some (some u)
 rel:RelV v u
 get:W.specialIn K u "__get__" =some none
 cp:W.copiedNames.contains f=false
structure Meth(K:W.Frag)(C:Addr)(m:Str)(f:Addr):Prop where
 at_:W.findIn K (.ref C) m=some (some (.ref f))
 fn:W.isFn K (.ref f)=true
 kp:W.keepIn K (.ref f)=true
section
variable{X:Cx}{pins:List (Addr×Obj)}{σ:St}{H:Hp}{s:Shared}{A:Around}{E:Value->Shared->Prop}{Q:Value->Shared->Prop}{c:Value}{b:Bool}
inductive TyOf(K:W.Frag)(H:Hp):V->Value->Prop where
 |non:TyOf K H .non (.type "NoneType")
 |bl (x:Bool):TyOf K H (.bl x) (.type "bool")
 |int (i:Int):TyOf K H (.int i) (.type "int")
 |str (x:Str):TyOf K H (.str x) (.type "str")
 |flt (x:UInt64):TyOf K H (.flt x) (.type "float")
 |lst {a:Addr} {xs:List V} (e:H a=some (.lst xs)):TyOf K H (.ref a) (.type "list")
 |frz {a:Addr} {o:Obj} {xs:List V} (e:H a=some (.frz o (.lst xs))):TyOf K H (.ref a) (.type "list")
 |tup {a:Addr} {xs:List V} (e:H a=some (.tup xs)):TyOf K H (.ref a) (.type "tuple")
 |dK {a:Addr} {kvs:List (Key×V)} (e:H a=some (.dK kvs)):TyOf K H (.ref a) (.type "dict")
 |dT {a:Addr} {kvs:List (NK×V)} (e:H a=some (.dT kvs)):TyOf K H (.ref a) (.type "dict")
 |ins {a C dx:Addr} {fs:List (Str×V)} (e:H a=some (.ins C dx fs)) (cl:Cls K C) (ha:W.findIn K (.ref C) "__class__" =some (some (.builtin "object.__class__")))
  (hn:W.specialIn K (.builtin "object.__class__") "__get__" =some (some (.builtin "getset_descriptor.__get__"))) (htk:W.takesIn K (.builtin "object.__class__")=some true)
  (hm:W.mroIn K C (.type "object")=some true):TyOf K H (.ref a) (.ref C)
end
structure Room(k:Nat)(A:Around):Prop where
 hd:A.handled=none
 dp:A.depth+3*k+5<recursionLimit
 un:A.units+16*k+200<cLine
 gd:A.guards=some []
theorem Room.mono{j k:Nat}{A:Around}(r:Room k A)(h:j<=k):Room j A:=⟨r.hd,by have:=r.dp;lia,by have:=r.un;lia,r.gd⟩
theorem Room.deeper{k:Nat}{A:Around}(r:Room (k+1) A)(env:Env):Room k (A.deeper env):=
 ⟨r.hd,by have:=r.dp;show A.depth+1+3*k+5<_;lia,by have:=r.un;show A.units+3+16*k+200<_;lia,r.gd⟩
theorem Room.depth{k:Nat}{A:Around}(r:Room k A):A.depth<recursionLimit:=by have:=r.dp;lia
theorem Room.units{k:Nat}{A:Around}(r:Room k A):A.units+64<cLine:=by have:=r.un;lia
noncomputable def tNil:TA:=fun _ H Q=>Q [] H
noncomputable def zi3(ta:TE)(tr:TA):TA:=fun σ H Q=>ta σ H fun x H1=>tr σ H1 fun xs H2=>Q (x::xs) H2
section
variable{X:Cx}{e:Expr}{es:List Expr}{te:TE}{t:TA}{pos:Pos}
theorem zcm:PA X [] tNil:=fun _ _ _ _ H Q I h=>Calls.spliced_nil ⟨[],H,I, .nil,h⟩
theorem z7m(ha:PE X e te)(hr:PA X es t)(hs:starEach (e::es) X.env=(false,eval e X.env)::starEach es X.env:=by rfl):PA X (e::es) (zi3 te t):=by
 intro pos pins s σ H Q I h
 rw[hs]
 show wpAny _ _ (spliced ((false,eval e X.env)::backTo pos (starEach es X.env))) _ _ s
 refine Calls.spliced_cons (thn (ha pins s σ H _ I h) fun u s1 ⟨x,H1,I1,r1,q1⟩=> ?_)
 exact thn (hr pos pins s1 σ H1 _ I1 q1) fun us s2 ⟨xs,H2,I2,r2,q2⟩=>⟨x::xs,H2,I2, .cons r1 r2,q2⟩
noncomputable def tTup(t:TA):TE:=fun σ H Q=>t σ H fun xs H1=>xs.length<=sizeLine/\∀p,H1 p=none->Q (.ref p) (upd H1 p (.tup xs))
noncomputable def tLst(t:TA):TE:=fun σ H Q=>t σ H fun xs H1=>xs.length<=sizeLine/\∀p,H1 p=none->Q (.ref p) (upd H1 p (.lst xs))
theorem zfb{x1}(h:PA X es t):PE X (.Tuple es x1 pos) (tTup t):=by
 intro pins s σ H Q I hq
 refine wpAny_Tuple_spliced (thn (h pos pins s σ H _ I hq) fun us s1 ⟨xs,H1,I1,r,z,q⟩=>⟨by rw[<-r.length];exact z, ?_⟩)
 have hf:H1 s1.heap.objs.size=none:=I1.hok.fresh (Nat.le_refl _)
 refine⟨.ref s1.heap.objs.size,upd H1 s1.heap.objs.size (.tup xs),I1.laid (t':=s1.toks) (fun b u e=>Heap.get?_push_of_some _ e) (Nat.le_refl _) ?_,rfl,q _ hf⟩
 exact⟨z,us,r,⟨_,Heap.get?_push_size _ rfl,rfl,_,rfl⟩⟩
theorem zfc(h:PA X es t):PE X (.List es pos) (tLst t):=by
 intro pins s σ H Q I hq
 refine wpAny_List_spliced (thn (h pos pins s σ H _ I hq) fun us s1 ⟨xs,H1,I1,r,z,q⟩=>⟨by rw[<-r.length];exact z, ?_⟩)
 have hf:H1 s1.heap.objs.size=none:=I1.hok.fresh (Nat.le_refl _)
 refine⟨.ref s1.heap.objs.size,upd H1 s1.heap.objs.size (.lst xs),I1.laid (t':=s1.toks) (fun b u e=>Heap.get?_push_of_some _ e) (Nat.le_refl _) ?_,rfl,q _ hf⟩
 exact⟨z,us,0,r,Heap.get?_push_size _ rfl⟩
end
noncomputable abbrev Sp:=List V->Hp->VK->XK->Prop
noncomputable abbrev CXT:=List Env->Hp->Shared->XK->Value->Shared->Prop
structure Env0(P:Program)(w:World)(K:W.Frag)(mg:Str->Option Value)(base:Heap)(A:Around)(outer:List Env)(s:Shared)(H:Hp):Prop where
 frames:A.frames=some outer
 mod:Mod K mg base
 bs: ∀b o,base.get? b=some o->s.heap.get? b=some o/\H b=none
 bsz:base.objs.size<=s.heap.objs.size
 funs:s.heap.FunFrames base outer
 frf: ∀b∈frs outer,H b=none
 hok:HOk P w H s.heap
 bare:AllBare s.gens
noncomputable def CE(outer:List Env)(P:Program)(w:World)(H:Hp)(s:Shared)(Q:VK)(u:Value)(s':Shared):Prop:=
 ∃v H',s'.os=s.os/\AllBare s'.gens/\Un (frs outer) [] H H' s.heap s'.heap/\HOk P w H' s'.heap/\RelV v u/\Q v H'
noncomputable def CR(CX:CXT)(outer:List Env)(P:Program)(w:World)(H:Hp)(s:Shared)(Q:VK)(E:XK)(r:Result)(s':Shared):Prop:=
 match r with
 | .ok (.ret u)=>CE outer P w H s Q u s'
 | .ok _=>False
 | .error e=>CX outer H s E e s'
structure FnOk(P:Program)(w:World)(K:W.Frag)(mg:Str->Option Value)(base:Heap)(CX:CXT)(k:Nat)(f:Addr)(fd:FuncData)(ps:List Str)(sp:Sp):Prop where
 len: ∀vs H Q E,sp vs H Q E->vs.length=ps.length
 run: ∀(A:Around) (outer:List Env) (s:Shared) (H:Hp) (args:Args) (us:List Value) (vs:List V) (Q:VK) (E:XK),Room k A->Env0 P w K mg base A outer s H->BindsTo s fd args (ps.zip us)->Vals vs us->sp vs H Q E->
  codeAny (model P w) A (.call (.ref f) args) (CR CX outer P w H s Q E) s
theorem FnOk.mono{P:Program}{w:World}{K:W.Frag}{mg:Str->Option Value}{base:Heap}{CX:CXT}{j k:Nat}{f:Addr}{fd:FuncData}{ps:List Str}{sp:Sp}(F:FnOk P w K mg base CX j f fd ps sp)(h:j<=k):
 FnOk P w K mg base CX k f fd ps sp:=⟨F.len,fun A outer s H args us vs Q E hr=>F.run A outer s H args us vs Q E (hr.mono h)⟩
section
variable{X:Cx}{pins:List (Addr×Obj)}{σ:St}{H:Hp}{s s':Shared}
theorem Inv.env0(I:Inv X pins σ H s):Env0 X.prog X.w X.K X.mg X.base X.A X.stack s H:=
 ⟨I.ok.frames,I.ok.mod,I.bs,Nat.le_trans I.ok.bsz I.sz,I.stack,I.stkFree,I.hok,I.bare⟩
theorem Inv.after{Q:VK}{u:Value}(I:Inv X pins σ H s)(h:CE X.stack X.prog X.w H s Q u s'):EP X pins σ Q u s':=by
 obtain⟨v,H',os,bare,un,hok,r,q⟩:=h
 obtain⟨hh,g,d,t,os'⟩:=s'
 obtain rfl:os'=s.os:=os
 exact⟨v,H',I.call (h':=hh) (g':=g) (d':=d) (t':=t) (ch:=[]) un hok bare (fun b z=>absurd z (by simp)),r,q⟩
end
noncomputable def zi4(sp:Sp)(dvs:List V)(E:XK)(t:TA):TE:=fun σ H Q=>t σ H fun vs H1=>sp (vs++dvs) H1 Q E
noncomputable def z5h(K:W.Frag)(fd:FuncData)(ps:List Str)(ds:List Value):Prop:=
 ∀(s:Shared) (us:List Value),K.In s.heap->(us++ds).length=ps.length->BindsTo s fd ⟨us,[]⟩ (ps.zip (us++ds))
theorem z5h.all{K:W.Frag}{fd:FuncData}{ps:List Str}(h: ∀us:List Value,us.length=ps.length->bindArgs fd ⟨us,[]⟩=pure (ps.zip us)):z5h K fd ps []:=fun s us _ hl=>by
 rw[List.append_nil] at hl⊢
 exact .of_eq (h us hl)
noncomputable def z5E(CX:CXT)(X:Cx)(E:XK):Prop:= ∀(pins:List (Addr×Obj)) (σ:St) (H:Hp) (s:Shared) (e:Value) (s':Shared),Inv X pins σ H s->CX X.stack H s E e s'->X.xe e s'
section
variable{X:Cx}{CX:CXT}{k:Nat}{f C:Addr}{fd:FuncData}{ps:List Str}{sp:Sp}{dvs:List V}{ds:List Value}{E:XK}{x m:Str}{p pos apos:Pos}{e o:Expr}{es:List Expr}{ta:TE}{t:TA}
theorem zfd{pins:List (Addr×Obj)}{σ:St}{H:Hp}{s:Shared}{Q:VK}{us:List Value}{vs:List V}(F:FnOk X.prog X.w X.K X.mg X.base CX k f fd ps sp)(hr:Room k X.A)(hb:z5h X.K fd ps ds)(hd:Vals dvs ds)(hx:z5E CX X E)
 (I:Inv X pins σ H s) (r:Vals vs us) (h:sp (vs++dvs) H Q E):wpAny (model X.prog X.w) X.A (call (.ref f) us) (EP X pins σ Q) X.xe s:=by
 have r2:Vals (vs++dvs) (us++ds):=r.append hd
 have hl:(us++ds).length=ps.length:=by rw[<-r2.length];exact F.len _ _ _ _ h
 refine wpAny_call (codeAny_mono (F.run X.A X.stack s H ⟨us,[]⟩ (us++ds) (vs++dvs) Q E hr I.env0 (hb s us I.kIn hl) r2 h) fun r s' hq=> ?_)
 cases r with
 |error e=>exact hx pins σ H s e s' I hq
 |ok fl=>
  cases fl with
  |ret u=>exact I.after hq
  |next=>exact False.elim hq
  |brk=>exact False.elim hq
  |cont=>exact False.elim hq
theorem zdl(F:FnOk X.prog X.w X.K X.mg X.base CX k f fd ps sp)(hr:Room k X.A)(hg:Gl X x)(hm:X.mg x=some (.ref f))(hk:W.keepIn X.K (.ref f)=true)(hb:z5h X.K fd ps ds)(hd:Vals dvs ds)(hx:z5E CX X E)
 (ha:PA X (e::es) t) (hdb:(x==("__debug__" :Str))=false:=by decide) (he:starEach (e::es) X.env=(false,eval e X.env)::starEach es X.env:=by rfl) (hpl:(backTo pos (starEach es X.env)).any (·.1)=false:=by rfl):
 PE X (.Call (.Name x p) (e::es) [] pos) (zi4 sp dvs E t):=by
 intro pins s σ H Q I h
 refine wpAny_Call_Name_kw (z9m I hg hm ?_ hdb)
 refine W.callWith_K (h₀:=X.base) I.ok.mod.kin hk (thn (ha pos pins s σ H _ I h) fun us s1 ⟨vs,H1,I1,r,q⟩=>⟨I1.kIn, ?_⟩) he hpl
 exact zfd F hr hb hd hx I1 r q
structure Mk(K:W.Frag)(C f:Addr):Prop where
 makes:W.makesIn K C=true
 init:W.findIn K (.ref C) "__init__" =some (some (.ref f))
 fn:W.isFn K (.ref f)=true
 kp:W.keepIn K (.ref C)=true
end
section
variable{X:Cx}{CX:CXT}{k:Nat}{f C:Addr}{fd:FuncData}{ps ks:List Str}{sp:Sp}{E:XK}{x m:Str}{p pos apos kpos:Pos}{e o:Expr}{es:List Expr}{kws:List Keyword}{te ta:TE}{t tk:TA}{nm:Option Str}
structure zjI(K:W.Frag)(fd:FuncData)(ps ks:List Str)(g:List Value->List Value->List Value)(gV:List V->List V->List V):Prop where
 to: ∀(s:Shared) (us ws:List Value),K.In s.heap->(g us ws).length=ps.length->BindsTo s fd ⟨us,ks.zip ws⟩ (ps.zip (g us ws))
 rel: ∀{vs:List V} {us:List Value} {zs:List V} {ws:List Value},Vals vs us->Vals zs ws->Vals (gV vs zs) (g us ws)
variable{g:List Value->List Value->List Value}{gV:List V->List V->List V}
end
structure z02(N P:List Str)(sc:Scope):Prop where
 kind:sc.kind= .function
 co:sc.isCoroutine=false
 gen:sc.isGenerator=false
 nd:N.Nodup
 pre:N.take P.length=P
 par: ∀x∈P,sc.names.lookup x=some .local\/sc.names.lookup x=some .cell
 nofree: ∀y∈sc.names,y.2≠ .free
theorem z6G{kindOf:Str->Option NameKind}{x:Str}: ∀{binds:List (Str×Value)} {m:Str->Option Value},(∀v,(x,v)∉binds)->bindL kindOf binds m x=m x
 |[],_,_=>rfl
 |(n,v)::r,m,h=>by
  unfold bindL
  rw[z6G fun w hw=>h w (List.mem_cons_of_mem _ hw)]
  split
  ·have:x≠n:=by rintro rfl;exact h v List.mem_cons_self
   simp[this]
  ·rfl
theorem z6H{kindOf:Str->Option NameKind}{x:Str}: ∀{binds:List (Str×Value)} {m:Str->Option Value},(∀v,(x,v)∉binds)->bindC kindOf binds m x=m x
 |[],_,_=>rfl
 |(n,v)::r,m,h=>by
  unfold bindC
  rw[z6H fun w hw=>h w (List.mem_cons_of_mem _ hw)]
  split
  ·rfl
  ·have:x≠n:=by rintro rfl;exact h v List.mem_cons_self
   simp[this]
theorem z6I{kindOf:Str->Option NameKind}{x:Str}{v:Value}: ∀{P:List Str} {vs:List Value} {i:Nat} {m:Str->Option Value},P.Nodup->P[i]? =some x->vs[i]? =some v->kindOf x=some .local->
 bindL kindOf (P.zip vs) m x=some v
 |[],_,_,_,_,h,_,_=>by simp at h
 |_::_,[],_,_,_,_,h,_=>by simp at h
 |p::P,w::vs,0,m,nd,h1,h2,hk=>by
  simp at h1 h2;subst h1;subst h2
  show bindL kindOf ((p,w)::P.zip vs) m p=_
  unfold bindL
  rw[z6G fun v hv=>(List.nodup_cons.mp nd).1 (List.of_mem_zip hv).1,if_pos hk]
  simp
 |p::P,w::vs,i+1,m,nd,h1,h2,hk=>by
  show bindL kindOf ((p,w)::P.zip vs) m x=_
  unfold bindL
  exact z6I (i:=i) (List.nodup_cons.mp nd).2 (by simpa using h1) (by simpa using h2) hk
theorem z6J{kindOf:Str->Option NameKind}{x:Str}{v:Value}: ∀{P:List Str} {vs:List Value} {i:Nat} {m:Str->Option Value},P.Nodup->P[i]? =some x->vs[i]? =some v->kindOf x≠some .local->
 bindC kindOf (P.zip vs) m x=some v
 |[],_,_,_,_,h,_,_=>by simp at h
 |_::_,[],_,_,_,_,h,_=>by simp at h
 |p::P,w::vs,0,m,nd,h1,h2,hk=>by
  simp at h1 h2;subst h1;subst h2
  show bindC kindOf ((p,w)::P.zip vs) m p=_
  unfold bindC
  rw[z6H fun v hv=>(List.nodup_cons.mp nd).1 (List.of_mem_zip hv).1,if_neg hk]
  simp
 |p::P,w::vs,i+1,m,nd,h1,h2,hk=>by
  show bindC kindOf ((p,w)::P.zip vs) m x=_
  unfold bindC
  exact z6J (i:=i) (List.nodup_cons.mp nd).2 (by simpa using h1) (by simpa using h2) hk
noncomputable def z6K(N:List Str)(vs:List V):St:=vs.map some++List.replicate (N.length -vs.length) none
noncomputable def cxOf(CX:CXT)(P:Program)(w:World)(K:W.Frag)(mg:Str->Option Value)(base:Heap)(N:List Str)(qual:Str)(scope:Scope)(f:Addr)(cd:Value)(A:Around)(outer:List Env)(s:Shared)(H:Hp)(E:XK):Cx where
 prog:=P
 w:=w
 K:=K
 mg:=mg
 base:=base
 A:=A.deeper (envOfC qual scope s.heap.objs.size f cd)
 N:=N
 s₀:=s
 H₀:=H
 env:=envOfC qual scope s.heap.objs.size f cd
 outer:=outer
 stack:=envOfC qual scope s.heap.objs.size f cd::outer
 ex:=[]
 calm:=true
 fn:=fun _=>true
 pn:=[]
 xe:=fun e s'=>wpAny (model P w) (A.deeper (envOfC qual scope s.heap.objs.size f cd)) (leaving (envOfC qual scope s.heap.objs.size f cd) e) (fun _ s''=>CX outer H s E e s'') (fun e' s''=>CX outer H s E e' s'') s'
theorem z82{sc:Scope}{n:Nat}{x:Str}(h:sc.names.lookup x=some .cell): ∃c,(cellsFrom n sc.names []).lookup x=some c:=by
 have q:=W.cellsFrom_some sc.names n [] (.inl h)
 exact Option.isSome_iff_exists.mp q
theorem z9w{CX:CXT}{P:Program}{w:World}{K:W.Frag}{mg:Str->Option Value}{base:Heap}{N ps:List Str}{qual:Str}{scope:Scope}{f:Addr}{cd:Value}{A:Around}{outer:List Env}{s s1:Shared}{H:Hp}{E:XK}{us:List Value}{vs:List V}
 (S:z02 N ps scope) (hd:A.handled=none) (e0:Env0 P w K mg base A outer s H) (hl:vs.length=ps.length) (r:Vals vs us)
 (x:InCallC s s.heap.objs.size (bindL (envOfC qual scope s.heap.objs.size f cd).kindOf (ps.zip us) fun _=>none) (cellsFrom (s.heap.objs.size+1) scope.names []) (bindC (envOfC qual scope s.heap.objs.size f cd).kindOf (ps.zip us) fun _=>none) s1):
 Inv (cxOf CX P w K mg base N qual scope f cd A outer s H E) [] (z6K N vs) H s1:=by
 have hpl:ps.length<=N.length:=by have:=congrArg List.length S.pre;rw[List.length_take] at this;lia
 obtain⟨h1,tk,rfl,hk⟩:=x.done
 have noA: ∀b:Addr,b∉(cxOf CX P w K mg base N qual scope f cd A outer s H E).ex:=fun b z=>absurd (show b∈([]:List Addr) from z) (by simp)
 refine⟨⟨e0.mod,S.kind,rfl,rfl,Nat.le_refl _,fun y z c h1 h2=> ?_,fun y hy=> ?_,fun y c _ h=> ?_,fun _=>hd,Around.frames_deeper e0.frames, .inr ⟨rfl,rfl⟩,fun b z=>absurd z (noA b),e0.bs,e0.bsz,fun b _ _=>noA b,fun b z=>absurd z (noA b),e0.funs,e0.frf⟩,
  rfl,e0.bare,Un.kept hk,⟨_,x.toInCall.ns,fun i y v h1 h2 h3=> ?_⟩,fun y c h=>⟨_,x.cell y c h⟩,e0.hok.fresh (Nat.le_refl _),fun y c h=> ?_,fun p hp=>absurd (show p∈([]:List (Addr×Obj)) from hp) (by simp),e0.hok.kept hk, ?_⟩
 ·exact name_of_addr x.apart (PySem.mem_of_lookup h1) (PySem.mem_of_lookup h2)
 ·have hy:scope.names.lookup y=some .cell\/scope.names.lookup y=some .free:=hy
  rcases hy with hy|hy
  ·exact z82 hy
  ·exact absurd rfl (S.nofree _ (PySem.mem_of_lookup hy))
 ·exact Nat.le_of_lt (x.above y c (PySem.mem_of_lookup h))
 ·have hi:i<vs.length:=by
   unfold z6K at h2
   by_cases hi:i<vs.length
   ·exact hi
   ·rw[List.getElem?_append_right (by simpa using hi)] at h2
    rw[List.getElem?_replicate] at h2
    split at h2<;>cases h2
  have ha:vs[i]? =some v:=by
   unfold z6K at h2
   rw[List.getElem?_append_left (by simpa using hi),List.getElem?_map] at h2
   cases e:vs[i]? with
   |none=>rw[e] at h2;cases h2
   |some a=>rw[e] at h2;cases h2;rfl
  obtain⟨u,hu,rv⟩:=r.get ha
  have hp:ps[i]? =some y:=by
   rw[<-S.pre,List.getElem?_take_of_lt (by lia)];exact h1
  have ndP:ps.Nodup:=by rw[<-S.pre];exact S.nd.sublist (List.take_sublist _ _)
  refine⟨u,rv, ?_⟩
  rcases S.par y (List.mem_of_getElem? hp) with k|k
  ·exact .inl ⟨k,z6I ndP hp hu k⟩
  ·obtain⟨c,e⟩:=z82 (n:=s.heap.objs.size+1) k
   refine .inr ⟨.inl k,c,e, ?_⟩
   have q:=x.cell y c e
   rw[z6J ndP hp hu (by show scope.names.lookup y≠_;rw[k];decide)] at q
   exact q
 ·exact e0.hok.fresh (Nat.le_of_lt (x.above y c (PySem.mem_of_lookup h)))
 ·unfold z6K
  show _=N.length
  rw[List.length_append,List.length_map,List.length_replicate]
  lia
theorem zi5{CX:CXT}{P:Program}{w:World}{K:W.Frag}{mg:Str->Option Value}{base:Heap}{k:Nat}{f:Addr}{name qual:Str}{params:Arguments}{body:List Stmt}{scope:Scope}{dV kV doc pm cdv ct oc:Value}{an od:Option Addr}
 {osl:Array (Option Value)} {N ps:List Str} {sp:Sp} (lk:K.lookup f=some ⟨oc,od, .func (W.fnOf name qual params body scope dV kV doc pm an cdv ct),osl⟩) (hcd:W.codeIn K cdv qual=true) (S:z02 N ps scope)
 (len: ∀vs H Q E,sp vs H Q E->vs.length=ps.length)
 (hbody: ∀(A:Around) (outer:List Env) (s:Shared) (H:Hp) (vs:List V) (Q:VK) (E:XK),Room k (A.deeper (envOfC qual scope s.heap.objs.size f cdv))->sp vs H Q E->
  ∃t,PSs (cxOf CX P w K mg base N qual scope f cdv A outer s H E) body t/\t {nx:=fun _ H'=>Q .non H',rt:=Q} (z6K N vs) H):
 FnOk P w K mg base CX (k+1) f (W.fnOf name qual params body scope dV kV doc pm an cdv ct) ps sp:=by
 refine⟨len,fun A outer s H args us vs Q E hr e0 hb r hsp=> ?_⟩
 have hl:=len _ _ _ _ hsp
 have KX:K.In s.heap:=e0.mod.kin.keeps fun b o e=>(e0.bs b o e).1
 have lim:s.heap.NoLimit:=e0.mod.nolimit.keeps fun b o e=>(e0.bs b o e).1
 have hkind: ∀y∈ps.zip us,scope.names.lookup y.1=some .local\/(scope.names.lookup y.1=some .cell/\((cellsFrom (s.heap.objs.size+1) scope.names []).lookup y.1).isSome=true):=fun⟨n,v⟩ hy=>by
  rcases S.par n (List.of_mem_zip hy).1 with q|q
  ·exact .inl q
  ·exact .inr ⟨q,W.cellsFrom_some _ _ _ (.inl q)⟩
 refine codeAny_call_function hr.depth (KX _ _ lk) rfl S.co S.gen rfl (W.codeRec_of KX hcd) (hb _ _ _ _ ?_)
 refine wpAny_newFunctionEnv_cells S.kind hkind fun env he s1 x=> ?_
 subst he
 refine⟨lim.keeps x.toInCall.keep,codeAny_func ?_⟩
 obtain⟨t,ht,hq⟩:=hbody A outer s H vs Q E (hr.deeper _) hsp
 have I:Inv (cxOf CX P w K mg base N qual scope f cdv A outer s H E) [] (z6K N vs) H s1:=z9w S hr.hd e0 hl r x
 refine wpAny_mono (ht [] s1 (z6K N vs) H _ I hq) (fun fl s' hs=> ?_) fun e s' hs=>hs
 have fin: ∀{σ':St} {H':Hp} {v:V} {u:Value},Inv (cxOf CX P w K mg base N qual scope f cdv A outer s H E) [] σ' H' s'->RelV v u->Q v H'->CE outer P w H s Q u s':=
  fun{σ' H' v u} J rv q=>⟨v,H',J.os,J.bare,J.base,J.hok,rv,q⟩
 cases fl with
 |ret u=>
  obtain⟨v,σ',H',J,rv,q⟩:=hs
  exact fin J rv q
 |next=>
  obtain⟨σ',H',J,q⟩:=hs
  exact fin (v:=V.non) (u:=Value.none) J rfl q
 |brk=>
  obtain⟨_,_,_,q⟩:=hs
  exact False.elim q
 |cont=>
  obtain⟨_,_,_,q⟩:=hs
  exact False.elim q
section
variable{X:Cx}{x:Str}{p pos:Pos}{e:Expr}{es:List Expr}{t:TA}{id T:String}{r:List V->Hp->VK->Prop}
noncomputable def tCB(r:List V->Hp->VK->Prop)(t:TA):TE:=fun σ H Q=>t σ H fun vs H1=>r vs H1 Q
theorem z83(hc:CallR X (.builtin id) r)(hg:Gl X x)(hm:X.mg x=none)(hv:bootBuiltins x=some (.builtin id))(ha:PA X (e::es) t)(hn:x≠ "__name__" :=by decide)(hdb:(x==("__debug__" :Str))=false:=by decide)
 (he:starEach (e::es) X.env=(false,eval e X.env)::starEach es X.env:=by rfl) (hpl:(backTo pos (starEach es X.env)).any (·.1)=false:=by rfl):PE X (.Call (.Name x p) (e::es) [] pos) (tCB r t):=by
 intro pins s σ H Q I h
 refine wpAny_Call_Name_kw (z5B I hg hm hv ?_ hn hdb)
 exact PyProof.Rows.callWith_builtin1 (thn (ha pos pins s σ H _ I h) fun us s1 ⟨vs,H1,I1,r1,q1⟩=>hc pins s1 σ H1 vs us Q I1 r1 q1) he hpl
theorem z9x(hc:CallR X (.type T) r)(hg:Gl X x)(hm:X.mg x=none)(hv:bootBuiltins x=some (.type T))(ha:PA X (e::es) t)(hn:x≠ "__name__" :=by decide)(hdb:(x==("__debug__" :Str))=false:=by decide)
 (he:starEach (e::es) X.env=(false,eval e X.env)::starEach es X.env:=by rfl) (hpl:(backTo pos (starEach es X.env)).any (·.1)=false:=by rfl):PE X (.Call (.Name x p) (e::es) [] pos) (tCB r t):=by
 intro pins s σ H Q I h
 refine wpAny_Call_Name_kw (z5B I hg hm hv ?_ hn hdb)
 exact PyProof.Rows.callWith_type1 (thn (ha pos pins s σ H _ I h) fun us s1 ⟨vs,H1,I1,r1,q1⟩=>hc pins s1 σ H1 vs us Q I1 r1 q1) he hpl
end
end L2
namespace HT
open PySem PyProof.Rows
section
open PySem.SeqAt
open PySem.AutoSeq1 (wpAny_loadPart')
open PySem.MeetsSeq PySem.MeetsSeq2 PySem.MeetsSeq3
end
section
variable{prog:Program}{w:World}{A:Around}{E:Value->Shared->Prop}{s:Shared}
theorem cat_tup{t b:Addr}{vs ws:List Value}{Q:Value->Shared->Prop}(ht:IsTup s.heap t vs.toArray)(hb:IsTup s.heap b ws.toArray)(hv:vs≠[])
 (h1:ws=[]->Q (.ref t) s) (h2:ws≠[]->Q (.ref s.heap.objs.size) {s with heap:=s.heap.push {cls:= .type "tuple",data:= .seq (vs++ws).toArray}})
 (hsz:vs.length+ws.length<=sizeLine):wpAny (model prog w) A (binaryOp .Add (.ref t) (.ref b)) Q E s:=by
 obtain⟨⟨cls,dd,data,sl⟩,ho,hc,n,hd⟩:=id ht
 obtain⟨⟨cls2,dd2,data2,sl2⟩,ho2,hc2,n2,hd2⟩:=id hb
 simp only at hc hd hc2 hd2
 subst hc hd hc2 hd2
 have e:vs.toArray++ws.toArray=(vs++ws).toArray:=by simp
 by_cases hw:ws=[]
 ·exact concat_meets ⟨_,ho,rfl⟩ ⟨_,ho2,rfl⟩ noFill_tuple_add seq_tuple_add PySem.F.slot_tuple_add PySem.F.entry_tuple_add (PySem.F.args_tuple_add_2 _ _)
   (tuple_addW1 t b vs.toArray ws.toArray n n2 dd dd2 sl sl2 (by simpa using hv) (by simp[hw])) ⟨ho,ho2,h1 hw⟩
 ·refine concat_meets ⟨_,ho,rfl⟩ ⟨_,ho2,rfl⟩ noFill_tuple_add seq_tuple_add PySem.F.slot_tuple_add PySem.F.entry_tuple_add (PySem.F.args_tuple_add_2 _ _)
   (tuple_addW2 t b vs.toArray ws.toArray n n2 dd dd2 sl sl2 (by simpa using hv) (by simpa using hw) (by rw[List.size_toArray,List.size_toArray];exact hsz)) ⟨ho,ho2, ?_⟩
  rw[e]
  exact h2 hw
noncomputable def sIx(n d:Nat):Option Int->Nat
 |none=>d
 |some v=>if v<0 then(v+(n:Int)).toNat else min v.toNat n
theorem sIx_none(n d:Nat):sIx n d none=d:=rfl
theorem sIx_nat(n d k:Nat):sIx n d (some (k:Int))=min k n:=by
 show(if(k:Int)<0 then((k:Int)+(n:Int)).toNat else min (k:Int).toNat n)=min k n
 rw[if_neg (by lia),Int.toNat_natCast]
theorem zfe(n d:Nat)(hd:d<=n)(o:Option Int):sIx n d o<=n:=by
 cases o with
 |none=>exact hd
 |some v=>
  show(if v<0 then(v+(n:Int)).toNat else min v.toNat n)<=n
  by_cases hv:v<0
  ·rw[if_pos hv];lia
  ·rw[if_neg hv];exact Nat.min_le_right _ _
theorem z9y(v:Int)(n d:Nat):(if v<0 then max (v+(n:Int)) 0 else min v (n:Int))=((sIx n d (some v):Nat):Int):=by
 show(if v<0 then max (v+(n:Int)) 0 else min v (n:Int))=(((if v<0 then(v+(n:Int)).toNat else min v.toNat n):Nat):Int)
 by_cases hv:v<0
 ·simp only[if_pos hv];lia
 ·simp only[if_neg hv];lia
theorem z8P(lo hi:Option Int)(n:Nat):Builtin.Slice.sliceAdjust lo hi 1 (n:Int)=(((sIx n 0 lo:Nat):Int),((sIx n n hi:Nat):Int)):=by
 have h1: ¬((1:Int)<0):=by lia
 unfold Builtin.Slice.sliceAdjust
 simp only[h1,if_false]
 refine Prod.ext ?_ ?_
 ·cases lo with
  |none=>rfl
  |some v=>exact z9y v n 0
 ·cases hi with
  |none=>rfl
  |some v=>exact z9y v n n
theorem z8Q(i j:Nat):Builtin.Slice.slicePlaces (i:Int) (j:Int) 1=j -i:=by
 unfold Builtin.Slice.slicePlaces
 have h1:(1:Int)>0:=by lia
 simp only[h1,if_true,Int.ediv_one]
 split<;>lia
theorem z5F{v:Value}{o:Option Int}{Q:Option Int->Shared->Prop}(p:IsPart v o)(h:Q o s):wpAny (model prog w) A (Builtin.Slice.slicePartIndex v) Q E s:=by
 cases p with
 |none=>exact slicePart_none h
 |int i t=>exact slicePart_int h
theorem z2M{sl:Addr}{vl vu:Value}{lo hi:Option Int}{n:Nat}{Q:Int×Int×Nat->Shared->Prop}(hs:s.heap.IsSliceOf sl vl vu .none)(pl:IsPart vl lo)(pu:IsPart vu hi)
 (h:Q (((sIx n 0 lo:Nat):Int),1,sIx n n hi -sIx n 0 lo) s):wpAny (model prog w) A (Builtin.Slice.sliceApplied (.ref sl) (pure (n:Int))) Q E s:=by
 obtain⟨os,hos,hcs,hds⟩:=id hs
 unfold Builtin.Slice.sliceApplied Builtin.Slice.sliceFields
 refine wpAny_bind (wpAny_bind (wpAny_field hos hds (x:=vl) rfl (wpAny_bind (wpAny_field hos hds (x:=vu) rfl (wpAny_bind (wpAny_field hos hds (x:= .none) rfl (wpAny_pure ?_)))))))
 refine wpAny_bind (slicePart_none ?_)
 show wpAny _ _ (if((1:Int)==0)=true then _ else _) _ _ s
 rw[if_neg (by decide)]
 refine wpAny_bind (z5F pl (wpAny_bind (z5F pu (wpAny_bind (wpAny_pure ?_)))))
 show wpAny _ _ (match Builtin.Slice.sliceAdjust lo hi 1 (n:Int) with|(lo,hi)=>pure (lo,(1:Int),Builtin.Slice.slicePlaces lo hi 1)) _ _ s
 rw[z8P lo hi n]
 show wpAny _ _ (pure (((sIx n 0 lo:Nat):Int),(1:Int),Builtin.Slice.slicePlaces ((sIx n 0 lo:Nat):Int) ((sIx n n hi:Nat):Int) 1)) _ _ s
 rw[z8Q]
 exact wpAny_pure h
theorem zbr(xs:Array Value)(i k:Nat):((List.range k).filterMap fun(m:Nat)=>xs[((i:Int)+(m:Int)*1).toNat]?).toArray=((xs.toList.drop i).take k).toArray:=by
 have e:(fun(m:Nat)=>xs[((i:Int)+(m:Int)*1).toNat]?)=fun m=>xs[i+m]? :=by
  funext m
  have:((i:Int)+(m:Int)*1).toNat=i+m:=by lia
  rw[this]
 rw[e]
 have:=pick_run xs i k
 rw[List.filterMap_map] at this
 have e2:((fun x=>xs[x]?)∘fun x=>i+x)=fun m=>xs[i+m]? :=rfl
 rw[e2] at this
 rw[this]
theorem getItem_tuple_cut{t sl:Addr}{items:Array Value}{vl vu:Value}{lo hi:Option Int}{Q:Value->Shared->Prop}(ht:IsTup s.heap t items)(hs:s.heap.IsSliceOf sl vl vu .none)(pl:IsPart vl lo)(pu:IsPart vu hi)
 (hw: ¬(sIx items.size 0 lo=0/\sIx items.size items.size hi=items.size))
 (h:Q (.ref s.heap.objs.size) {s with heap:=s.heap.push {cls:= .type "tuple",data:= .seq ((items.toList.drop (sIx items.size 0 lo)).take (sIx items.size items.size hi -sIx items.size 0 lo)).toArray}})
 (hsz:items.size<=sizeLine):wpAny (model prog w) A (getItem (.ref t) (.ref sl)) Q E s:=by
 have htake:sizeOk (.seq ((items.toList.drop (sIx items.size 0 lo)).take (sIx items.size items.size hi -sIx items.size 0 lo)).toArray):=by
  show((items.toList.drop (sIx items.size 0 lo)).take (sIx items.size items.size hi -sIx items.size 0 lo)).toArray.size<=sizeLine
  rw[List.size_toArray,List.length_take,List.length_drop,Array.length_toList]
  lia
 have hj:sIx items.size items.size hi<=items.size:=zfe _ _ (Nat.le_refl _) hi
 obtain⟨os,hos,hcs,hds⟩:=id hs
 have hTs:s.TypeIs (.ref sl) "slice" :=⟨os,hos,hcs⟩
 unfold getItem
 try with_reducible refine wpAny_holding ?_
 first|refine wpAny_bind (wpAny_pure ?_)|skip
 refine wpAny_bind (wpAny_sequenceKey ht.typeIs (by decide) ?_)
 refine wpAny_bind (wpAny_callSpecial?_slot (name:=Str.ofString "__getitem__") ht.typeIs PyProof.Rows.slot_tuple_getitem
  (wpAny_call_entry PyProof.Rows.slot_tuple_getitem ht.typeIs entry_tuple_getitem ?_ (args_tuple_getitem _ _)))
 show wpAny _ _ (Builtin.Tuple.tupleItemsOf (.ref t)>>=_) _ _ s
 refine wpAny_bind (tupleItemsOf_ ht ?_)
 refine wpAny_bind (wpAny_typeOf hTs ?_)
 rw[if_pos (by decide)]
 refine wpAny_bind (z2M hs pl pu ?_)
 have hno: ¬((((sIx items.size 0 lo:Nat):Int)==0&&(1:Int)==1&&(sIx items.size items.size hi -sIx items.size 0 lo)==items.size)=true):=by
  intro q
  rw[Bool.and_eq_true,Bool.and_eq_true] at q
  have q1:((sIx items.size 0 lo:Nat):Int)=0:=eq_of_beq q.1.1
  have q2:sIx items.size items.size hi -sIx items.size 0 lo=items.size:=eq_of_beq q.2
  exact hw ⟨by lia,by lia⟩
 show wpAny _ _ (if(((sIx items.size 0 lo:Nat):Int)==0&&(1:Int)==1&&(sIx items.size items.size hi -sIx items.size 0 lo)==items.size)=true then _ else _) _ _ s
 rw[if_neg hno,zbr]
 first
  |exact wpAny_bind (m:=Builtin.Tuple.tupleExact _) (wpAny_newObj_type (wpAny_pure ⟨_,rfl,wpAny_pure h⟩) htake)
  |exact wpAny_bind (m:=Builtin.Tuple.tupleExact _) (wpAny_newObj_type (wpAny_bind (wpAny_pure (wpAny_pure ⟨_,rfl,wpAny_pure h⟩))) htake)
  |exact wpAny_bind (wpAny_bind (m:=Builtin.Tuple.tupleExact _) (wpAny_newObj_type (wpAny_pure (wpAny_pure ⟨_,rfl,wpAny_pure h⟩)) htake))
  |exact wpAny_bind (wpAny_bind (m:=Builtin.Tuple.tupleExact _) (wpAny_newObj_type (wpAny_pure ⟨_,rfl,wpAny_pure h⟩) htake))
end
end HT
namespace L2
open PySem PySem.Spec PyProof.Rows
noncomputable abbrev TO:=St->Hp->(Option Int->Hp->Prop)->Prop
noncomputable def PO(X:Cx)(e:Option Expr)(t:TO):Prop:=
 ∀(pins:List (Addr×Obj)) (s:Shared) (σ:St) (H:Hp) (Q:Option Int->Hp->Prop),Inv X pins σ H s->t σ H Q->
  wpAny (model X.prog X.w) X.A (evalPart e X.env) (fun u s'=> ∃o H',Inv X pins σ H' s'/\IsPart u o/\Q o H') X.xe s
noncomputable def zdm:TO:=fun _ H Q=>Q none H
noncomputable def zi6(t:TE):TO:=fun σ H Q=>t σ H fun x H1=> ∃i,x= .int i/\Q (some i) H1
section
variable{X:Cx}{e:Expr}{te:TE}{lo hi:Option Expr}{tl th:TO}{pos p2:Pos}
theorem zdn:PO X none zdm:=by
 intro pins s σ H Q I h
 rw[evalPart_none]
 exact wpAny_pure ⟨none,H,I, .none,h⟩
theorem zdo(h:PE X e te):PO X (some e) (zi6 te):=by
 intro pins s σ H Q I hw
 rw[evalPart_some]
 refine thn (h pins s σ H _ I hw) fun u s1 ⟨x,H1,I1,r1,q1⟩=> ?_
 obtain⟨i,rfl,q⟩:=q1
 obtain⟨t,rfl⟩:=r1
 exact⟨some i,H1,I1, .int i t,q⟩
noncomputable def SlR(X:Cx)(r:V->Option Int->Option Int->Hp->VK->Prop):Prop:=
 ∀(pins:List (Addr×Obj)) (s:Shared) (σ:St) (H:Hp) (x:V) (v vl vu:Value) (lo hi:Option Int) (sl:Addr) (Q:VK),Inv X pins σ H s->RelV x v->s.heap.IsSliceOf sl vl vu .none->IsPart vl lo->IsPart vu hi->r x lo hi H Q->
  ∃T id,typeLookup (.type T) "__getitem__" =pure (some (.builtin id))/\s.TypeIs v T/\wpAny (model X.prog X.w) X.A (getItem v (.ref sl)) (EP X pins σ Q) X.xe s
theorem SlR.or{r r':V->Option Int->Option Int->Hp->VK->Prop}(h:SlR X r)(h':SlR X r'):SlR X (fun x lo hi H Q=>r x lo hi H Q\/r' x lo hi H Q):=by
 intro pins s σ H x v vl vu lo hi sl Q I rx hs pl pu q
 rcases q with q|q
 ·exact h pins s σ H x v vl vu lo hi sl Q I rx hs pl pu q
 ·exact h' pins s σ H x v vl vu lo hi sl Q I rx hs pl pu q
noncomputable def tSl(r:V->Option Int->Option Int->Hp->VK->Prop)(te:TE)(tl th:TO):TE:=fun σ H Q=>te σ H fun x H1=>tl σ H1 fun l H2=>th σ H2 fun u H3=>r x l u H3 Q
theorem z84{r:V->Option Int->Option Int->Hp->VK->Prop}(hr:SlR X r)(he:PE X e te)(hl:PO X lo tl)(hu:PO X hi th):PE X (.Subscript e (.Slice lo hi none p2) pos) (tSl r te tl th):=by
 intro pins s σ H Q I h
 refine Subscript_ (thn (he pins s σ H _ I h) fun v s1 ⟨x,H1,I1,r1,q1⟩=> ?_)
 refine wpAny_Slice (thn (hl pins s1 σ H1 _ I1 q1) fun vl s2 ⟨l,H2,I2,pl,q2⟩=>thn (hu pins s2 σ H2 _ I2 q2) fun vu s3 ⟨u,H3,I3,pu,q3⟩=> ?_)
 rw[evalPart_none]
 refine wpAny_pure ?_
 have I4:Inv X pins σ H3 {s3 with heap:=s3.heap.push {cls:= .type "slice",data:= .fields #[vl,vu, .none]}}:=I3.kept (t':=s3.toks) fun b ob q=>Heap.get?_push_of_some _ q
 obtain⟨T,id,hT,ht,hg⟩:=hr pins {s3 with heap:=s3.heap.push {cls:= .type "slice",data:= .fields #[vl,vu, .none]}} σ H3 x v vl vu l u s3.heap.objs.size Q I4 r1 (Heap.IsSliceOf.new ..) pl pu q3
 show wpAny (model X.prog X.w) X.A (subscriptTail e (.Slice lo hi none p2) v (.ref s3.heap.objs.size)) (EP X pins σ Q) X.xe {s3 with heap:=s3.heap.push {cls:= .type "slice",data:= .fields #[vl,vu, .none]}}
 exact tail_any (ops:=[.ref s3.heap.objs.size,v]) ht hT hg (by with_unfolding_all rfl)
noncomputable def cutV(xs:List V)(lo hi:Option Int):List V:=(xs.drop (HT.sIx xs.length 0 lo)).take (HT.sIx xs.length xs.length hi -HT.sIx xs.length 0 lo)
theorem z4E(xs:List V)(lo hi:Option Int):(cutV xs lo hi).length<=xs.length:=by
 unfold cutV
 rw[List.length_take,List.length_drop]
 lia
noncomputable def rSlT(K:W.Frag):V->Option Int->Option Int->Hp->VK->Prop:=fun x lo hi H Q=> ∃a xs,x= .ref a/\SqT K H a xs/\
 ¬(HT.sIx xs.length 0 lo=0/\HT.sIx xs.length xs.length hi=xs.length)/\∀p,H p=none->Q (.ref p) (upd H p (.tup (cutV xs lo hi)))
theorem zff:SlR X (rSlT X.K):=by
 intro pins s σ H x v vl vu lo hi sl Q I rx hs pl pu h
 obtain⟨a,xs,rfl,hx,hw,q⟩:=h
 cases rx
 obtain⟨its,r,ht,hz⟩:=I.tuple hx
 have hlen:its.toArray.size=xs.length:=by rw[List.size_toArray];exact r.length.symm
 refine⟨"tuple",_,PyProof.Rows.slot_tuple_getitem.lookup,ht.typeIs, ?_⟩
 refine HT.getItem_tuple_cut ht hs pl pu (by rw[hlen];exact hw) ?_ (by rw[hlen];exact hz)
 rw[hlen]
 refine⟨.ref s.heap.objs.size,_,I.laid (t':=s.toks) (o:= .tup (cutV xs lo hi)) (fun b ob q=>Heap.get?_push_of_some _ q) (Nat.le_refl _) ?_,rfl,q _ (I.hok.fresh (Nat.le_refl _))⟩
 exact⟨Nat.le_trans (z4E xs lo hi) hz,_,(r.drop (HT.sIx xs.length 0 lo)).take (HT.sIx xs.length xs.length hi -HT.sIx xs.length 0 lo),IsTup.new _ _⟩
noncomputable def zi7(K:W.Frag):R2:=fun x y H Q=> ∃a b xs ys,x= .ref a/\y= .ref b/\SqT K H a xs/\SqT K H b ys/\xs≠[]/\xs.length+ys.length<=sizeLine/\
 (ys=[]->Q (.ref a) H)/\(ys≠[]->∀p,H p=none->Q (.ref p) (upd H p (.tup (xs++ys))))
theorem Vals.nil_iff{xs:List V}{us:List Value}(r:Vals xs us):us=[]↔xs=[]:=by
 cases r with
 |nil=>simp
 |cons _ _=>simp
theorem zdp:OpR X (binaryOp .Add) (zi7 X.K):=by
 intro pins s σ H x y v u Q I rx ry h
 obtain⟨a,b,xs,ys,rfl,rfl,ha,hb,hx,hz,q1,q2⟩:=h
 cases rx
 cases ry
 obtain⟨its,r1,p1,_⟩:=I.tuple ha
 obtain⟨its2,r2,p2,_⟩:=I.tuple hb
 refine HT.cat_tup p1 p2 (fun z=>hx (r1.nil_iff.mp z)) (fun z=>⟨.ref a,H,I,rfl,q1 (r2.nil_iff.mp z)⟩) (fun z=> ?_) (by rw[<-r1.length,<-r2.length];exact hz)
 refine⟨.ref s.heap.objs.size,_,I.laid (t':=s.toks) (o:= .tup (xs++ys)) (fun b ob q=>Heap.get?_push_of_some _ q) (Nat.le_refl _) ?_,rfl,q2 (fun w=>z (r2.nil_iff.mpr w)) _ (I.hok.fresh (Nat.le_refl _))⟩
 exact⟨by rw[List.length_append];exact hz,_,r1.append r2,IsTup.new _ _⟩
end
noncomputable def ixN(n:Nat)(i:Int):Option Nat:=if 0<=i then(if i<n then some i.toNat else none) else if -(n:Int)<=i then some (i+n).toNat else none
noncomputable def atI{α:Type}(xs:List α)(i:Int):Option α:=(ixN xs.length i).bind fun j=>xs[j]?
theorem z9z{n:Nat}{i:Int}{j:Nat}(h:ixN n i=some j):seqIndex? i n=some j/\j<n/\-(n:Int)<=i/\i<n:=by
 unfold ixN at h
 by_cases h0:0<=i
 ·rw[if_pos h0] at h
  by_cases h1:i<n
  ·rw[if_pos h1] at h
   have e:i.toNat=j:=Option.some.inj h
   exact⟨by rw[seqIndex_of h0 h1,e],by lia,by lia,h1⟩
  ·rw[if_neg h1] at h;cases h
 ·rw[if_neg h0] at h
  by_cases h1: -(n:Int)<=i
  ·rw[if_pos h1] at h
   have e:(i+n).toNat=j:=Option.some.inj h
   exact⟨by rw[seqIndex_neg (by lia) h1,e],by lia,h1,by lia⟩
  ·rw[if_neg h1] at h;cases h
theorem z9A{α:Type}{xs:List α}{i:Int}{v:α}(h:atI xs i=some v): ∃j,seqIndex? i xs.length=some j/\xs[j]? =some v/\j<xs.length/\-(xs.length:Int)<=i/\i<xs.length:=by
 unfold atI at h
 cases e:ixN xs.length i with
 |none=>rw[e] at h;cases h
 |some j=>
  rw[e] at h
  obtain⟨h1,h2,h3,h4⟩:=z9z e
  exact⟨j,h1,h,h2,h3,h4⟩
theorem zdq{α:Type}{xs:List α}{j:Nat}{v:α}(h:xs[j]? =some v):atI xs (j:Int)=some v:=by
 have hj:j<xs.length:=(List.getElem?_eq_some_iff.mp h).1
 have e:ixN xs.length (j:Int)=some j:=by
  unfold ixN
  rw[if_pos (by lia),if_pos (by lia)];simp
 unfold atI;rw[e];exact h
noncomputable def z3X(b:Expr):Prop:= ∀o i,subscripted b false o i=operate [o,i] (getItem o i)
noncomputable def IxR(X:Cx)(r:R2):Prop:=
 ∀(value slice:Expr) (pins:List (Addr×Obj)) (s:Shared) (σ:St) (H:Hp) (x y:V) (v u:Value) (Q:VK),Inv X pins σ H s->RelV x v->RelV y u->r x y H Q->
  subscripted slice false v u=operate [v,u] (getItem v u)->wpAny (model X.prog X.w) X.A (subscriptTail value slice v u) (EP X pins σ Q) X.xe s
noncomputable def MtR(X:Cx)(id:String)(r:V->List V->Hp->VK->Prop):Prop:=
 ∀(pins:List (Addr×Obj)) (s:Shared) (σ:St) (H:Hp) (x:V) (xs:List V) (v:Value) (us:List Value) (Q:VK),Inv X pins σ H s->RelV x v->Vals xs us->r x xs H Q->
  wpAny (model X.prog X.w) X.A (call (.builtin id) (v::us)) (EP X pins σ Q) X.xe s
section
variable{X:Cx}{a b:Expr}{ta tb:TE}{pos:Pos}
theorem IxR.or{r r':R2}(h:IxR X r)(h':IxR X r'):IxR X (fun x y H Q=>r x y H Q\/r' x y H Q):=by
 intro value slice pins s σ H x y v u Q I rx ry q hs
 rcases q with q|q
 ·exact h value slice pins s σ H x y v u Q I rx ry q hs
 ·exact h' value slice pins s σ H x y v u Q I rx ry q hs
theorem zi8{r:R2}(hr:IxR X r)(ha:PE X a ta)(hb:PE X b tb)(hs:z3X b):PE X (.Subscript a b pos) (tOp r ta tb):=by
 intro pins s σ H Q I h
 exact Subscript_ (binT ha hb I h fun v u s2 x y H2 I2 rx ry q=>hr a b pins s2 σ H2 x y v u Q I2 rx ry q (hs _ _))
noncomputable def rIxL(K:W.Frag):R2:=fun x y H Q=> ∃p xs i v,x= .ref p/\y= .int i/\SqL K H p xs/\atI xs i=some v/\Q v H
noncomputable def rIxT(K:W.Frag):R2:=fun x y H Q=> ∃p xs i v,x= .ref p/\y= .int i/\SqT K H p xs/\atI xs i=some v/\Q v H
theorem zdr:IxR X (rIxL X.K):=by
 intro value slice pins s σ H x y v u Q I rx ry h hs
 obtain⟨p,xs,i,z,rfl,rfl,hq,he,q⟩:=h
 cases rx
 obtain⟨t,rfl⟩:=ry
 obtain⟨its,r,pl,hz⟩:=I.list hq
 obtain⟨j,h1,h2,h3,h4,h5⟩:=z9A he
 obtain⟨w,ew,rw'⟩:=r.get h2
 have hl:=r.length
 have hn:=z5D
 have fin:EP X pins σ Q w s:=⟨z,H,I,rw',q⟩
 by_cases h0:0<=i
 ·have hj:i.toNat=j:=by
   rw[seqIndex_of h0 h5] at h1
   exact Option.some.inj h1
  exact item_listR pl.isList h0 (by lia) (by rw[hj];simpa using ew) fin hs
 ·have hj:(i+(its.toArray.size:Int)).toNat=j:=by
   rw[seqIndex_neg (by lia) h4] at h1
   rw[List.size_toArray,<-hl]
   exact Option.some.inj h1
  exact subscriptTail_builtinR (x:=w) pl.isList.typeIs slot_list_getitem.lookup
   (wpAny_getItem_list_neg (Q:=fun r s'=>r=w/\EP X pins σ Q r s') pl.isList (by lia) (by rw[List.size_toArray]<;>lia) (by lia) (by rw[hj];simpa using ew) ⟨rfl,fin⟩) hs
theorem zfg:IxR X (rIxT X.K):=by
 intro value slice pins s σ H x y v u Q I rx ry h hs
 obtain⟨p,xs,i,z,rfl,rfl,hq,he,q⟩:=h
 cases rx
 obtain⟨t,rfl⟩:=ry
 obtain⟨its,r,pl,hz⟩:=I.tuple hq
 obtain⟨j,h1,h2,h3,h4,h5⟩:=z9A he
 obtain⟨w,ew,rw'⟩:=r.get h2
 have hl:=r.length
 have hn:=z5D
 have fin:EP X pins σ Q w s:=⟨z,H,I,rw',q⟩
 exact subscriptTail_builtinR (x:=w) pl.typeIs slot_tuple_getitem.lookup
  (getItem_tuple (j:=j) (Q:=fun r s'=>r=w/\EP X pins σ Q r s') pl (by lia) (by lia) (by rw[List.size_toArray,<-hl];exact h1) (by simpa using ew) ⟨rfl,fin⟩) hs
theorem z8R(its:List Value)(n j:Nat)(u:Value):Obj.mapSeq (·.setIfInBounds j u) {cls:= .type "list",data:= .seq its.toArray n}={cls:= .type "list",data:= .seq (its.set j u).toArray n}:=by
 simp[Obj.mapSeq]
theorem Inv.lst{pins:List (Addr×Obj)}{σ:St}{H:Hp}{s:Shared}{p:Addr}{xs:List V}(I:Inv X pins σ H s)(h:H p=some (.lst xs)):
 ∃(its:List Value) (n:Nat),Vals xs its/\s.heap.get? p=some {cls:= .type "list",data:= .seq its.toArray n}/\xs.length<=sizeLine:=by
 obtain⟨z,its,n,r,e⟩:=I.hok p _ h
 exact⟨its,n,r,e,z⟩
theorem Inv.lstUpd{pins:List (Addr×Obj)}{σ:St}{H:Hp}{s:Shared}{p:Addr}{xs ys:List V}{its its':List Value}{n n':Nat}{f:Obj->Obj}(I:Inv X pins σ H s)(h:H p=some (.lst xs))
 (ho:s.heap.get? p=some {cls:= .type "list",data:= .seq its.toArray n}) (hf:f {cls:= .type "list",data:= .seq its.toArray n}={cls:= .type "list",data:= .seq its'.toArray n'}) (r:Vals ys its') (hz:ys.length<=sizeLine) (t:Nat):
 Inv X pins σ (upd H p (.lst ys)) {s with heap:=s.heap.update p f,toks:=t}:=by
 have e:(s.heap.update p f).get? p=some {cls:= .type "list",data:= .seq its'.toArray n'}:=by
  rw[Heap.get?_update_self f ho (by rw[hf]<;>rfl),hf]
 refine I.write (x:=p) (e:=p) (by rw[h];trivial) (.inl rfl) (fun b u hb q=>(Heap.get?_update_other _ _ (Ne.symm hb)).trans q) ⟨_,e⟩ ?_
 exact⟨hz,its',n',r,e⟩
noncomputable def zbs:V->V->V->Hp->(Hp->Prop)->Prop:=fun o i v H Q=> ∃p xs k j,o= .ref p/\i= .int k/\H p=some (.lst xs)/\ixN xs.length k=some j/\Q (upd H p (.lst (xs.set j v)))
theorem z85:PSet X zbs:=by
 intro pins s σ H o i v ov iv u Q I ro ri rv h
 obtain⟨p,xs,k,j,rfl,rfl,hp,hj,q⟩:=h
 cases ro
 obtain⟨t,rfl⟩:=ri
 obtain⟨its,n,r,ho,hz⟩:=I.lst hp
 obtain⟨h1,h2,h3,h4⟩:=z9z hj
 have hl:=r.length
 have hn:=z5D
 have I':Inv X pins σ (upd H p (.lst (xs.set j v))) {s with heap:=s.heap.update p (Obj.mapSeq (·.setIfInBounds j u))}:=
  I.lstUpd hp ho (z8R its n j u) (r.set rv j) (by rw[List.length_set];exact hz) s.toks
 by_cases h0:0<=k
 ·have hk:k.toNat=j:=by
   rw[seqIndex_of h0 h4] at h1
   exact Option.some.inj h1
  exact W.ki_setAt ho h0 (by lia) (by rw[List.size_toArray,<-hl];exact h4) (by rw[hk];exact⟨_,I',q⟩)
 ·have hk:(k+(its.toArray.size:Int)).toNat=j:=by
   rw[seqIndex_neg (by lia) h3] at h1
   rw[List.size_toArray,<-hl]
   exact Option.some.inj h1
  exact W.ki_setBack ho (by lia) (by rw[List.size_toArray,<-hl];exact h3) (by lia) (by rw[hk];exact⟨_,I',q⟩)
theorem z6L(lo hi:Option Int)(n:Nat):(sliceBounds lo hi none n).1=((HT.sIx n 0 lo:Nat):Int)/\(sliceBounds lo hi none n).2.1=((HT.sIx n n hi:Nat):Int)/\(sliceBounds lo hi none n).2.2=1:=by
 refine⟨?_, ?_,rfl⟩
 ·cases lo with
  |none=>simp[sliceBounds,HT.sIx]
  |some i=>
   simp only[sliceBounds,HT.sIx,Option.getD_none,show(1:Int)>0 by decide,if_true]
   by_cases h:i<0
   ·simp only[h,if_true]<;>lia
   ·simp only[h,if_false]<;>lia
 ·cases hi with
  |none=>simp[sliceBounds,HT.sIx]
  |some i=>
   simp only[sliceBounds,HT.sIx,Option.getD_none,show(1:Int)>0 by decide,if_true]
   by_cases h:i<0
   ·simp only[h,if_true]<;>lia
   ·simp only[h,if_false]<;>lia
theorem z5U(its:List Value)(lo hi:Option Int):slicePick its.toArray lo hi none=((its.drop (HT.sIx its.length 0 lo)).take (HT.sIx its.length its.length hi -HT.sIx its.length 0 lo)).toArray:=by
 obtain⟨h1,h2,h3⟩:=z6L lo hi its.toArray.size
 unfold slicePick
 rw[h1,h2,h3]
 simp only[sliceRange_one,pick_run,List.size_toArray]<;>rfl
noncomputable def rSlL(K:W.Frag):V->Option Int->Option Int->Hp->VK->Prop:=fun x lo hi H Q=> ∃a xs,x= .ref a/\SqL K H a xs/\∀p,H p=none->Q (.ref p) (upd H p (.lst (cutV xs lo hi)))
theorem zds:SlR X (rSlL X.K):=by
 intro pins s σ H x v vl vu lo hi sl Q I rx hs pl pu h
 obtain⟨a,xs,rfl,hx,q⟩:=h
 cases rx
 obtain⟨its,r,ht,hz⟩:=I.list hx
 have hlen:=r.length
 refine⟨"list",_,slot_list_getitem.lookup,ht.isList.typeIs, ?_⟩
 refine wpAny_getItem_list_slice ht.isList hs pl pu .none (by simp) ?_ (by rw[List.size_toArray]<;>lia)
 rw[z5U,<-hlen]
 refine⟨.ref s.heap.objs.size,_,I.laid (t':=s.toks) (o:= .lst (cutV xs lo hi)) (fun b ob q=>Heap.get?_push_of_some _ q) (Nat.le_refl _) ?_,rfl,q _ (I.hok.fresh (Nat.le_refl _))⟩
 exact⟨Nat.le_trans (z4E xs lo hi) hz,_,0,(r.drop (HT.sIx xs.length 0 lo)).take (HT.sIx xs.length xs.length hi -HT.sIx xs.length 0 lo),Heap.get?_push_size _ rfl⟩
theorem z4m:CallR X (.builtin "len") (fun xs H Q=> ∃p ys,xs=[.ref p]/\(SqL X.K H p ys\/SqT X.K H p ys)/\Q (.int ys.length) H):=by
 intro pins s σ H xs us Q I r h
 obtain⟨p,ys,rfl,hq,q⟩:=h
 obtain⟨u,rfl,rx⟩:=z2R r
 cases rx
 have hn:=z5D
 rcases hq with hq|hq
 ·obtain⟨its,r',pl,hz⟩:=I.list hq
  have hlen:=r'.length
  exact Calls.call_len_list pl.isList (by simp only[List.size_toArray]<;>lia) ⟨.int ys.length,H,I.tok _,⟨s.toks+1,by rw[List.size_toArray,hlen]⟩,q⟩
 ·obtain⟨its,r',pl,hz⟩:=I.tuple hq
  have hlen:=r'.length
  exact len_tuple pl (by simp only[List.size_toArray]<;>lia) ⟨.int ys.length,H,I.tok _,⟨s.toks+1,by rw[List.size_toArray,hlen]⟩,q⟩
theorem z6M:CallR X (.builtin "len") (fun xs H Q=> ∃z,xs=[.str z]/\z.length<=sizeLine/\Q (.int z.length) H):=by
 intro pins s σ H xs us Q I r h
 obtain⟨z,rfl,hz,q⟩:=h
 obtain⟨u,rfl,t,rfl⟩:=z2R r
 have hn:=z5D
 exact len_str (by lia) ⟨.int z.length,H,I.tok _,⟨_,rfl⟩,q⟩
theorem CallR.or{f:Value}{r r':List V->Hp->VK->Prop}(h:CallR X f r)(h':CallR X f r'):CallR X f (fun xs H Q=>r xs H Q\/r' xs H Q):=by
 intro pins s σ H xs us Q I rs q
 rcases q with q|q
 ·exact h pins s σ H xs us Q I rs q
 ·exact h' pins s σ H xs us Q I rs q
theorem z6N:CallR X (.type "list") (fun xs H Q=> ∃p ys,xs=[.ref p]/\(SqL X.K H p ys\/SqT X.K H p ys)/\∀l,H l=none->Q (.ref l) (upd H l (.lst ys))):=by
 intro pins s σ H xs us Q I r h
 obtain⟨p,ys,rfl,hq,q⟩:=h
 obtain⟨u,rfl,rx⟩:=z2R r
 cases rx
 have fin: ∀(its:List Value),Vals ys its->ys.length<=sizeLine->∀(h':Heap) (c':Nat),(∀b o',s.heap.get? b=some o'->h'.get? b=some o')->
  h'.get? s.heap.objs.size=some {cls:= .type "list",dict:=none,data:= .seq its.toArray c',slots:= #[]}->EP X pins σ Q (.ref s.heap.objs.size) {s with heap:=h'}:=fun its r' hz h' c' kp e=>
  ⟨.ref s.heap.objs.size,_,I.laid (t':=s.toks) kp (Nat.le_refl _) (show z3u X.prog X.w _ h' _ (.lst ys) from⟨hz,its,c',r',e⟩),rfl,q _ (I.hok.fresh (Nat.le_refl _))⟩
 rcases hq with hq|hq
 ·obtain⟨its,r',pl,hz⟩:=I.list hq
  have hlen:=r'.length
  obtain⟨o,ho,hc,n,hd⟩:=pl.isList
  exact call_list_seq p (.inl rfl) ho hc hd (fun h' c' kp e=>fin its r' hz h' c' kp e) (by simp only[List.size_toArray]<;>lia)
 ·obtain⟨its,r',pl,hz⟩:=I.tuple hq
  have hlen:=r'.length
  obtain⟨o,ho,hc,n,hd⟩:=pl
  exact call_list_seq p (.inr rfl) ho hc hd (fun h' c' kp e=>fin its r' hz h' c' kp e) (by simp only[List.size_toArray]<;>lia)
theorem z5V:CallR X (.type "tuple") (fun xs H Q=> ∃p ys,xs=[.ref p]/\((SqL X.K H p ys/\∀l,H l=none->Q (.ref l) (upd H l (.tup ys)))\/(SqT X.K H p ys/\Q (.ref p) H))):=by
 intro pins s σ H xs us Q I r h
 obtain⟨p,ys,rfl,h⟩:=h
 obtain⟨u,rfl,rx⟩:=z2R r
 cases rx
 rcases h with⟨hq,q⟩|⟨hq,q⟩
 ·obtain⟨its,r',pl,hz⟩:=I.list hq
  have hlen:=r'.length
  refine call_tuple_list pl.isList (fun h' kp=> ?_) (by simp only[List.size_toArray]<;>lia)
  have I1:Inv X pins σ H {s with heap:=h'}:=I.kept (t':=s.toks) kp
  have I2:Inv X pins σ (upd H h'.objs.size (.tup ys)) {s with heap:=h'.push {cls:= .type "tuple",data:= .seq its.toArray}}:=
   I1.laid (t':=s.toks) (fun b o e=>Heap.get?_push_of_some _ e) (Nat.le_refl _) (show z3u X.prog X.w _ _ _ (.tup ys) from⟨hz,its,r',IsTup.new _ _⟩)
  exact⟨.ref h'.objs.size,_,I2,rfl,q _ (I1.hok.fresh (Nat.le_refl _))⟩
 ·obtain⟨its,r',pl,hz⟩:=I.tuple hq
  exact call_tuple_same pl ⟨.ref p,H,I,rfl,q⟩
noncomputable def tyV(K:W.Frag)(T:String)(x:V)(H:Hp):Prop:=match x with
 | .str _=>T= "str"
 | .int _=>T= "int"
 | .ref p=>(T= "list" /\∃xs,SqL K H p xs)\/(T= "tuple" /\∃o,K.lookup p=some o/\o.cls= .type "tuple" /\o.dict=none)\/
  (T= "dict" /\((∃kvs,H p=some (.dK kvs))\/∃kvs,H p=some (.dT kvs)))\/(T= "set" /\∃S n,H p=some (.set S n))
 |_=>False
theorem zfh{pins:List (Addr×Obj)}{σ:St}{H:Hp}{s:Shared}{T:String}{x:V}{v:Value}(I:Inv X pins σ H s)(r:RelV x v)(ty:tyV X.K T x H):
 s.TypeIs v T/\∀a,v= .ref a->∃ob,s.heap.get? a=some ob/\ob.dict=none:=by
 cases x with
 |str z=>
  obtain⟨t,rfl⟩:=r
  cases(show T= "str" from ty)
  exact⟨typeIs_str s z t,fun _ e=>nomatch e⟩
 |int i=>
  obtain⟨t,rfl⟩:=r
  cases(show T= "int" from ty)
  exact⟨typeIs_int s i t,fun _ e=>nomatch e⟩
 |ref p=>
  cases r
  rcases ty with⟨rfl,xs,hq⟩|⟨rfl,o,hk,hc,hd⟩|⟨rfl,hk⟩|⟨rfl,S,n,hk⟩
  ·obtain⟨its,_,pl,_⟩:=I.list hq
   refine⟨pl.isList.typeIs,fun a e=> ?_⟩
   cases e
   obtain⟨o,n,e,c,hd,_⟩:=pl
   exact⟨o,e,hd⟩
  ·refine⟨⟨o,I.kIn p o hk,hc⟩,fun a e=> ?_⟩
   cases e
   exact⟨o,I.kIn _ o hk,hd⟩
  ·have z: ∃o,s.heap.get? p=some o/\o.ExactDict:=by
    rcases hk with⟨kvs,hk⟩|⟨kvs,hk⟩
    ·obtain⟨_,_,_,_,o,_,_,e,ex,_⟩:=I.hok p _ hk
     exact⟨o,e,ex⟩
    ·obtain⟨_,_,_,_,o,_,_,e,ex,_⟩:=I.hok p _ hk
     exact⟨o,e,ex⟩
   obtain⟨o,e,ex⟩:=z
   refine⟨⟨o,e,ex.1⟩,fun a e2=> ?_⟩
   cases e2
   exact⟨o,e,ex.2.1⟩
  ·obtain⟨o,_,_,_,e,ex,_⟩:=I.hok p _ hk
   refine⟨⟨o,e,ex.1⟩,fun a e2=> ?_⟩
   cases e2
   exact⟨o,e,ex.2.1⟩
 |_=>exact False.elim ty
noncomputable def tBM(K:W.Frag)(T:String)(r:V->List V->Hp->VK->Prop)(to:TE)(t:TA):TE:=fun σ H Q=>to σ H fun x H1=>tyV K T x H1/\t σ H1 fun xs H2=>r x xs H2 Q
variable{o e:Expr}{es:List Expr}{to:TE}{t:TA}{name:Str}{apos cpos:Pos}{T id:String}{r:V->List V->Hp->VK->Prop}
theorem zfi(pa:PlainAttrs T)(slot:Slot T name id)(hty:typeOf (.builtin id)=pure (.type "method_descriptor"))(hm:MtR X id r)(ho:PE X o to)(ha:PA X (e::es) t)
 (hbase:attributeBase o name X.env (eval o X.env)=eval o X.env:=by rfl)
 (hfew:((backTo cpos (starEach (e::es) X.env)).all (fun x=> !x.1)&&(backToKw cpos (keywordEach [] X.env)).all (fun x=>x.1.isSome)
  &&decide ((e::es).length+([]:List Keyword).length+(if([]:List Keyword).isEmpty then 0 else 1)<30))=true:=by rfl)
 (hline:(apos.endLine==cpos.line)=true:=by rfl) (hs:starEach (e::es) X.env=(false,eval e X.env)::starEach es X.env:=by rfl) (hplain:(backTo cpos (starEach es X.env)).any (·.1)=false:=by rfl):
 PE X (.Call (.Attribute o name apos) (e::es) [] cpos) (tBM X.K T r to t):=by
 intro pins s σ H Q I h
 refine wpAny_Call_method_late hbase hfew hline rfl (thn (ho pins s σ H _ I h) fun v s1 ⟨x,H1,I1,r1,ty,q1⟩=> ?_)
 obtain⟨h1,h2⟩:=zfh I1 r1 ty
 refine⟨T,id,pa,slot,hty,h1,h2, ?_⟩
 have hA:=ha cpos pins s1 σ H1 _ I1 q1
 rw[hs] at hA⊢
 refine Calls.callWith_builtin (by show(false||(backTo cpos (starEach es X.env)).any (·.1))=false;rw[hplain]<;>rfl) (Calls.evalArgs_plain ?_)
 exact thn hA fun us s2 ⟨vs,H2,I2,r2,q2⟩=>hm pins s2 σ H2 x vs v us Q I2 r1 r2 q2
end
noncomputable def MtM(X:Cx)(id:String)(r:V->List V->Hp->VK->Prop):Prop:=
 ∀(pins:List (Addr×Obj)) (s:Shared) (σ:St) (H:Hp) (x:V) (xs:List V) (v:Value) (us:List Value) (Q:VK),Inv X pins σ H s->RelV x v->Vals xs us->r x xs H Q->
  wpAny (model X.prog X.w) X.A (call (.builtin id) (v::us)) (EP X pins σ Q) X.xe s
theorem Vals.one: ∀{x:V} {us:List Value},Vals [x] us->∃u,us=[u]/\RelV x u
 |_,_, .cons r .nil=>⟨_,rfl,r⟩
theorem Vals.rep{xs:List V}{us:List Value}(h:Vals xs us): ∀k:Nat,Vals (List.replicate k xs).flatten (List.replicate k us).flatten
 |0=> .nil
 |k+1=>by
  rw[List.replicate_succ,List.replicate_succ,List.flatten_cons,List.flatten_cons]
  exact Vals.append h (Vals.rep h k)
theorem z4F(its:List Value): ∀(k:Nat) (acc:List Value),
 List.foldl (fun x1 x2=>x1++x2) acc.toArray (List.replicate k its.toArray)=(acc++(List.replicate k its).flatten).toArray
 |0,acc=>by simp
 |k+1,acc=>by
  have e:acc.toArray++its.toArray=(acc++its).toArray:=by simp
  have e2:(acc++its)++(List.replicate k its).flatten=acc++(List.replicate (k+1) its).flatten:=by
   rw[List.replicate_succ,List.flatten_cons,List.append_assoc]
  rw[<-e2,<-z4F its k (acc++its),<-e,List.replicate_succ,List.foldl_cons]
section
variable{X:Cx}{pins:List (Addr×Obj)}{σ:St}{H:Hp}{s:Shared}{l b:Addr}{xs ys zs:List V}
theorem Inv.lset{its its':List Value}{n:Nat}{f:Array Value->Array Value}{t':Nat}(I:Inv X pins σ H s)(hH:H l=some (.lst xs))
 (e:s.heap.get? l=some {cls:= .type "list",data:= .seq its.toArray n}) (hf:f its.toArray=its'.toArray) (hv:Vals ys its') (hz:ys.length<=sizeLine):
 Inv X pins σ (upd H l (.lst ys)) {s with heap:=s.heap.update l (Obj.mapSeq f),toks:=t'}:=by
 have q:=PySem.IsL.update e f
 rw[hf] at q
 refine I.write (x:=l) (e:=l) (by rw[hH];exact trivial) (.inl rfl) (fun b' u hb hu=>(Heap.get?_update_other s.heap (Obj.mapSeq f) (Ne.symm hb)).trans hu) ⟨_,q⟩ ?_
 exact⟨hz,its',_,hv,q⟩
theorem Inv.lnew{its:List Value}{t':Nat}(I:Inv X pins σ H s)(hv:Vals ys its)(hz:ys.length<=sizeLine):
 Inv X pins σ (upd H s.heap.objs.size (.lst ys)) {s with heap:=s.heap.push {cls:= .type "list",data:= .seq its.toArray},toks:=t'}:=
 I.laid (fun _ _ q=>Heap.get?_push_of_some _ q) (Nat.le_refl _) ⟨hz,its,0,hv,Heap.get?_push_size _ rfl⟩
theorem Inv.fresh(I:Inv X pins σ H s):H s.heap.objs.size=none:=I.hok.fresh (Nat.le_refl _)
theorem Inv.lstM(I:Inv X pins σ H s)(hH:H l=some (.lst xs)):xs.length<=sizeLine/\∃(its:List Value) (n:Nat),Vals xs its/\xs.length=its.length/\s.heap.get? l=some {cls:= .type "list",data:= .seq its.toArray n}:=by
 obtain⟨z,its,n,r,e⟩:=I.hok l _ hH
 exact⟨z,its,n,r,r.length,e⟩
theorem z86{n:Nat}(h:n<=sizeLine):Builtin.List.listTooLong n=false:=by
 unfold Builtin.List.listTooLong
 exact decide_eq_false (by lia)
end
section
variable{X:Cx}
noncomputable def z9B:V->List V->Hp->VK->Prop:=fun x vs H Q=> ∃l xs y,x= .ref l/\vs=[y]/\H l=some (.lst xs)/\xs.length<sizeLine/\Q .non (upd H l (.lst (xs++[y])))
theorem z4G:MtM X "list.append" z9B:=by
 intro pins s σ H x vs v us Q I rx rv h
 obtain⟨l,xs,y,rfl,rfl,hH,hz,q⟩:=h
 cases rx
 obtain⟨u,rfl,ru⟩:=rv.one
 obtain⟨z,its,n,r,hl,e⟩:=I.lstM hH
 refine call_meets F.slot_list_append ⟨_,e,rfl⟩ F.entry_list_append (F.args_list_append_2 _ _) (PySem.list_append l its.toArray n u (by rw[List.size_toArray];lia)) ⟨e, ?_⟩
 refine⟨.non,_,I.lset (its':=its++[u]) hH e (by simp) (r.append (.cons ru .nil)) ?_,rfl,q⟩
 rw[List.length_append,List.length_singleton]
 lia
noncomputable def rCat:R2:=fun x y H Q=> ∃l b xs zs,x= .ref l/\y= .ref b/\H l=some (.lst xs)/\H b=some (.lst zs)/\xs.length+zs.length<=sizeLine/\∀p,H p=none->Q (.ref p) (upd H p (.lst (xs++zs)))
theorem zfj:OpR X (binaryOp .Add) rCat:=by
 intro pins s σ H x y v u Q I rx ry h
 obtain⟨l,b,xs,zs,rfl,rfl,hH,hB,hz,q⟩:=h
 cases rx
 cases ry
 obtain⟨z,its,n,r,hl,e⟩:=I.lstM hH
 obtain⟨z2,its2,n2,r2,hl2,e2⟩:=I.lstM hB
 refine PySem.P.add_list e e2 ?_ (by rw[List.size_toArray,List.size_toArray];lia)
 have ea:its.toArray++its2.toArray=(its++its2).toArray:=by simp
 rw[ea]
 exact⟨.ref _,_,I.lnew (t':=s.toks) (r.append r2) (by rw[List.length_append];lia),rfl,q _ I.fresh⟩
noncomputable def rRep:R2:=fun x y H Q=> ∃l k xs,x= .ref l/\y= .int k/\H l=some (.lst xs)/\-(2^63)<=k/\k<2^63/\xs.length*k.toNat<=sizeLine/\
 ∀p,H p=none->Q (.ref p) (upd H p (.lst (List.replicate k.toNat xs).flatten))
theorem z7n{α:Type}(xs:List α)(k:Nat):(List.replicate k xs).flatten.length=k*xs.length:=by
 induction k with
 |zero=>simp
 |succ k ih=>rw[List.replicate_succ,List.flatten_cons,List.length_append,ih,Nat.succ_mul,Nat.add_comm]
theorem zfk:OpR X (binaryOp .Mult) rRep:=by
 intro pins s σ H x y v u Q I rx ry h
 obtain⟨l,k,xs,rfl,rfl,hH,h1,h2,hz,q⟩:=h
 cases rx
 obtain⟨t,rfl⟩:=ry
 obtain⟨z,its,n,r,hl,e⟩:=I.lstM hH
 have hlen:its.toArray.size*k.toNat<=sizeLine:=by rw[List.size_toArray,<-hl];exact hz
 have hcap: ¬its.toArray.size*k.toNat>(2^63 - 1)/8:=by
  have:(sizeLine:Nat)<=(2^63 - 1)/8:=by decide
  lia
 have hfit: ¬(!Builtin.List.listFitsIndex k)=true:=by
  rw[fitsIndex_both h1 h2]
  exact Bool.false_ne_true
 have hlong: ¬Builtin.List.listTooLong (its.toArray.size*k.toNat)=true:=by
  rw[z86 hlen]
  exact Bool.false_ne_true
 have hnew:List.foldl (fun x1 x2=>x1++x2) #[] (List.replicate (if its.toArray.isEmpty=true then 0 else k.toNat) its.toArray)=(List.replicate k.toNat its).flatten.toArray:=by
  have f0: ∀m:Nat,List.foldl (fun x1 x2=>x1++x2) #[] (List.replicate m its.toArray)=(List.replicate m its).flatten.toArray:=fun m=>by
   have:=z4F its m []
   rw[List.nil_append] at this
   exact this
  rw[f0]
  cases its with
  |nil=>simp
  |cons a r'=>rw[if_neg (by simp)]
 refine wpAny_binaryOp_repeat_ref (T:= "list") (U:= "int") (by decide) ⟨_,e,rfl⟩ (fun s'=>typeIs_int s' k t) noFill_list_mul F.fills_int_mul F.slot_int_rmul repeat_list F.slot_int_index.lookup
  (call_meets F.slot_int_rmul (typeIs_int s k t) F.entry_int_rmul (F.args_int_rmul_2 _ _) (int___rmul___int_list k t l its.toArray n)
   ⟨e,rfl,⟨_,e,rfl⟩,call_meets F.slot_list_mul ⟨_,e,rfl⟩ F.entry_list_mul (F.args_list_mul_2 _ _) (AutoListH.list___mul___list_int_3 l its.toArray n k t hfit hcap hlong) ⟨e, ?_⟩⟩)
 rw[hnew]
 exact⟨.ref _,_,I.lnew (t':=s.toks) (r.rep k.toNat) (by rw[z7n,Nat.mul_comm];exact hz),rfl,q _ I.fresh⟩
end
section
variable{prog:Program}{w:World}{A:Around}{E:Value->Shared->Prop}{s:Shared}
set_option maxRecDepth 100000 in
end
structure M1(X:Cx)(o:Expr)(m:Str)(apos:Pos)(e:Expr)(cpos:Pos):Prop where
 base:attributeBase o m X.env (eval o X.env)=eval o X.env
 few:((backTo cpos (starEach [e] X.env)).all (fun x=> !x.1)&&(backToKw cpos (keywordEach [] X.env)).all (fun x=>x.1.isSome)
  &&decide (([e]:List Expr).length+([]:List Keyword).length+(if([]:List Keyword).isEmpty then 0 else 1)<30))=true
 line:(apos.endLine==cpos.line)=true
 trees:backTo cpos (starEach [e] X.env)=[(false,eval e X.env)]
structure M2(X:Cx)(o:Expr)(m:Str)(apos:Pos)(e f:Expr)(cpos:Pos):Prop where
 base:attributeBase o m X.env (eval o X.env)=eval o X.env
 few:((backTo cpos (starEach [e,f] X.env)).all (fun x=> !x.1)&&(backToKw cpos (keywordEach [] X.env)).all (fun x=>x.1.isSome)
  &&decide (([e,f]:List Expr).length+([]:List Keyword).length+(if([]:List Keyword).isEmpty then 0 else 1)<30))=true
 line:(apos.endLine==cpos.line)=true
 trees:backTo cpos (starEach [e,f] X.env)=[(false,eval e X.env),(false,eval f X.env)]
end L2
namespace Att
open PySem PySem.W PySem.Calls PyProof.Rows
theorem z4H{P:Params}{h:Heap}: ∀(ns:List Int) (vs:List Value),WellAll P h vs (ns.map WData.int)->IntsAre vs ns:=by
 intro ns
 induction ns with
 |nil=>
  intro vs w
  rw[List.map_nil] at w
  cases w
  exact .nil
 |cons n ns ih=>
  intro vs w
  rw[List.map_cons] at w
  cases w with
  |cons a b=>
   cases a
   exact .cons _ _ (ih _ b)
theorem z9C{l:OpenLaw}{n:Nat}(hn:l.most=some n){P:Params}{h:Heap}{args:List WData}{vals:List Value}
 (hpre:l.row.toRowW.claim.pre args=true) (hwl:WellAll P h vals args):
 ∃a vs ns,vals=[Value.ref a]/\args=[WData.list (ns.map WData.int)]/\h.get? a=some {cls:= .type "list",data:= .seq vs.toArray}/\IntsAre vs ns/\ns.length<=n:=by
 have hsh:WShape.hasAll [] args [.list .int]=true:=(pre_splitW hpre).1
 have hc:l.pre.holds [] {args:=args}=true:=(pre_splitW hpre).2
 obtain⟨d,r,rfl,h1,h2⟩:=hasAllW_cons hsh
 obtain rfl:=hasAllW_nil h2
 obtain⟨xs,rfl,h3⟩:=hasW_list h1
 obtain⟨ns,rfl⟩:=items_int h3
 have hlen:ns.length<=n:=by
  unfold OpenLaw.pre at hc
  have h4:(WTm.not (.lt (.lit (.int (n:Int))) (.len (.arg 0)))).holds [] {args:=[.list (ns.map .int)]}=true:=by
   have h4:=(holds_andW hc).1
   rw[hn] at h4
   exact h4
  have h5:=condW_of h4 (w_not (w_lt w_lit (w_len_list (w_arg rfl))))
  rw[List.length_map] at h5
  refine Nat.le_of_not_lt fun q=> ?_
  have q':(n:Int)<((ns.length:Nat):Int):=by lia
  first
   |(rw[decide_eq_true q'] at h5;exact absurd h5 (by decide))
   |(simp at h5;lia)
 cases hwl with
 |cons w1 w2=>
  cases w2
  cases w1 with
  |list ho hall=>exact⟨_,_,ns,rfl,rfl,ho,z4H ns _ hall,hlen⟩
theorem z9D(l:OpenLaw)(args:List WData):l.row.toRowW.claim.post args (.bool true) args=true:=
 postW_of (r:=l.row.toRowW) (X:=(true==true))
  (show WShape.has [] (.bool true) .bool=true by first|rfl|decide|simp[WShape.has,WShape.arms,WShape.armsAll])
  (show(WTm.eq .res (.lit (.bool true))).value [] {args:=args,res:=some (.bool true),after:=args}=some (.bool (true==true)) from w_eq_bool (w_res rfl) w_lit) rfl
theorem attach_call{l:OpenLaw}{n:Nat}{q:Program}{loose:List Str}{XP:(Str->Option Value)->Heap->Prop}{YP:World->Heap->Prop}{d:DefRec}
 (hn:l.most=some n) (hdf:d.params.defaults=[])
 (call: ∀(w:World) (s₀ s₁:Shared) (mg mb:Str->Option Value) (fa:Addr) (o:Obj) (pm cd doc:Value) (a:Addr) (vs:List Value) (ns:List Int),
  Ground q loose [] XP w s₀ mg mb s₁.heap->YP w s₁.heap->
  s₁.heap.get? fa=some o->o.data= .func (docDef d.name d.params d.body d.scope pm cd doc)->s₁.heap.CodeRec cd d.name->mg d.name=some (.ref fa)->
  s₁.heap.get? a=some {cls:= .type "list",data:= .seq vs.toArray}->IntsAre vs ns->ns.length<=n->s₁.gens= #[]->
  codeAny (model l.prog w) callerA (.call (.ref fa) ⟨[.ref a],[]⟩) (fun r s'=>r= .ok (.ret (.bool true))/\OldK s₁.heap s'.heap/\s'.os=s₁.os/\AllBare s'.gens) s₁):
 WalkO q loose XP YP l.row.toRowW d [] (fun f vs=>PySem.call f vs):=by
 intro w s₀ s₁ mg mb G Y fa o pm cd doc dV kV ho hd hcd hD hmg hg args vals as hpre hlay hrd hwl hlo
 obtain rfl:dV= .none:=Dflts.none hD hdf
 obtain rfl:kV= .none:=Dflts.noKw hD
 obtain⟨a,vs,ns,rfl,rfl,hobj,hints,hlen⟩:=z9C hn hpre hwl
 refine enter_call (codeAny_mono (call w s₀ s₁ mg mb fa o pm cd doc a vs ns G Y ho (fd_plain hd) hcd hmg hobj hints hlen hg) fun r s' hq=> ?_)
 obtain⟨rfl,h2,h3,h4⟩:=hq
 exact⟨.inl ⟨.bool true, .bool true,[],rfl,fun _=>rfl, .bool true,z9D l _,fun _=>⟨List.Pairwise.nil,fun _ hm=>(nomatch hm)⟩⟩,h2,h3,h4⟩
end Att
namespace L2
open PySem PySem.Spec PyProof.Rows
theorem z6O: ∀{vs:List Value} {ns:List Int},IntsAre vs ns->Vals (ns.map V.int) vs
 |_,_, .nil=> .nil
 |_,_, .cons n t h=> .cons ⟨t,rfl⟩ (z6O h)
noncomputable def Only(H:Hp):Prop:= ∀b,H b=none\/∃o xs,H b=some (.frz o (.lst xs))
theorem zbt{P:Program}{w:World}{K:W.Frag}{mg mb:Str->Option Value}{CX:CXT}{k:Nat}{fa a:Addr}{fd:FuncData}{x:Str}{sp:Sp}{s₁:Shared}{vs:List Value}{ns:List Int}
 (KX:K.In s₁.heap) (hns:s₁.heap.Ns mainGlobals mg) (hb:s₁.heap.Ns builtinsNs mb) (hbb: ∀x:Str,x≠ "__name__" ->mb x=bootBuiltins x) (hlim:s₁.heap.NoLimit) (hg:s₁.gens= #[])
 (ha:s₁.heap.get? a=some {cls:= .type "list",data:= .seq vs.toArray}) (hi:IntsAre vs ns) (hl:ns.length<=sizeLine) (hr:Room k callerA)
 (F: ∀base:Heap,K.In base->base.Ns mainGlobals mg->FnOk P w K mg base CX k fa fd [x] sp) (hbind: ∀(s:Shared) (u:Value),BindsTo s fd ⟨[u],[]⟩ [(x,u)])
 (hsp: ∀H:Hp,Only H->SqL K H a (ns.map V.int)->sp [.ref a] H (fun v _=>v= .bl true) fun _ _ _=>False)
 (hCX: ∀H e s',CX [] H s₁ (fun _ _ _=>False) e s'->False):
 codeAny (model P w) callerA (.call (.ref fa) ⟨[.ref a],[]⟩) (fun r s'=>r= .ok (.ret (.bool true))/\OldK s₁.heap s'.heap/\s'.os=s₁.os/\AllBare s'.gens) s₁:=by
 have rv:=z6O hi
 have lenV:=hi.length
 have core: ∀H:Hp,Only H->SqL K H a (ns.map V.int)->HOk P w H s₁.heap->(∀b,H b≠none->b=a)->(H a≠none->K.lookup a=none)->
  codeAny (model P w) callerA (.call (.ref fa) ⟨[.ref a],[]⟩) (fun r s'=>r= .ok (.ret (.bool true))/\OldK s₁.heap s'.heap/\s'.os=s₁.os/\AllBare s'.gens) s₁:=by
  intro H hO hS hok hA hK
  have base_of: ∀{b:Addr} {o:Obj},s₁.heap.get? b=some o->H b=none->(hidT s₁.heap H).get? b=some o:=fun e n=>zbh e n
  have noA: ∀{b:Addr} {o:Obj} {es:Array DictEntry} {ep:Nat},s₁.heap.get? b=some o->o.data= .dict es ep->H b=none:=fun{b o es ep} e d=>by
   cases q:H b with
   |none=>rfl
   |some u=>
    have e':b=a:=hA b (by rw[q];simp)
    subst e'
    rw[ha] at e;cases e
    have d':Data.seq vs.toArray _=Data.dict es ep:=d
    cases d'
  have nsK: ∀{b:Addr} {m:Str->Option Value},s₁.heap.Ns b m->(hidT s₁.heap H).Ns b m:=fun{b m} ⟨o,es,ep,e,d,r⟩=>⟨o,es,ep,base_of e (noA e d),d,r⟩
  have hKb:K.In (hidT s₁.heap H):=fun b o e=>base_of (KX b o e) (by
   cases q:H b with
   |none=>rfl
   |some u=>
    have e':b=a:=hA b (by rw[q];simp)
    subst e'
    rw[hK (by rw[q];simp)] at e;cases e)
  have hM:Mod K mg (hidT s₁.heap H):=⟨hKb,nsK hns,⟨mb,nsK hb,hbb⟩,let⟨mc,h1,h2⟩:=hlim;⟨mc,nsK h1,h2⟩⟩
  have e0:Env0 P w K mg (hidT s₁.heap H) callerA [] s₁ H:=⟨rfl,hM,fun b o e=>zda e,Nat.le_of_eq (z9k _ _),trivial,fun b hb=>absurd (show b∈([]:List Addr) from hb) (by simp),hok, .of_eq hg⟩
  refine codeAny_mono ((F _ hKb (nsK hns)).run callerA [] s₁ H ⟨[.ref a],[]⟩ [.ref a] [.ref a] _ _ hr e0 (hbind s₁ (.ref a)) (.cons rfl .nil) (hsp H hO hS)) fun r s' h=> ?_
  cases r with
  |error e=>exact(hCX H e s' h).elim
  |ok fl=>
   cases fl with
   |next=>exact False.elim h
   |brk=>exact False.elim h
   |cont=>exact False.elim h
   |ret u=>
    obtain⟨v,H',os,bare,un,hok',r',q⟩:=h
    have q':v= .bl true:=q
    subst q'
    obtain rfl:u=Value.bool true:=r'
    refine⟨rfl,OldK.of_keep fun b o e=> ?_,os,bare⟩
    cases q:H b with
    |none=>exact un.keep b o e q (by intro z;exact absurd (show b∈([]:List Addr) from z) (by simp)) (by simp)
    |some u=>
     rcases hO b with z|⟨ob,xs,z⟩
     ·rw[q] at z;cases z
     ·have z2:=un.frzs b ob _ z
      obtain⟨e1,_⟩:=hok b _ z
      obtain⟨e2,_⟩:=hok' b _ z2
      rw[e] at e1;cases e1
      exact e2
 cases hk:K.lookup a with
 |some o=>
  have e:=KX a o hk
  rw[ha] at e
  cases e
  refine core (fun _=>none) (fun _=> .inl rfl) (.inr ⟨_,vs.toArray,_,hk,rfl,rfl,rfl,by rw[List.size_toArray,lenV];exact hl,by simpa using rv⟩) (fun b u z=>by have z':(none:Option HO)=some u:=z;cases z') (fun b z=>absurd rfl z) fun z=>absurd rfl z
 |none=>
  refine core (fun b=>if b=a then some (.frz {cls:= .type "list",data:= .seq vs.toArray} (.lst (ns.map V.int))) else none) (fun b=> ?_) (.inl (.inr ⟨{cls:= .type "list",data:= .seq vs.toArray},if_pos rfl⟩)) (fun b u z=> ?_) (fun b z=> ?_) fun _=>hk
  ·by_cases hb:b=a
   ·exact .inr ⟨_,_,if_pos hb⟩
   ·exact .inl (if_neg hb)
  ·by_cases hb:b=a
   ·have z':=(if_pos hb).symm.trans z
    cases z'
    subst hb
    exact⟨ha,by rw[List.length_map];exact hl,vs,_,rv,ha⟩
   ·have z':=(if_neg hb).symm.trans z
    cases z'
  ·by_cases hb:b=a
   ·exact hb
   ·exact absurd (if_neg hb) z
theorem zdt{l:W.OpenLaw}{n k:Nat}{q:Program}{loose:List Str}{XP:(Str->Option Value)->Heap->Prop}{YP:World->Heap->Prop}{d:DefRec}{K:Params->W.Frag}{CX:World->CXT}{sp:World->Sp}{x:Str}
 (hn:l.most=some n) (hn2:n<=sizeLine) (hdf:d.params.defaults=[]) (hr:Room k callerA)
 (hY: ∀(w:World) (h:Heap),YP w h->(K w.params).In h)
 (F: ∀(w:World) (mg:Str->Option Value) (fa:Addr) (h:Heap),(K w.params).In h->h.Ns mainGlobals mg->mg d.name=some (.ref fa)->
  ∃fd:FuncData,(∀(s:Shared) (u:Value),BindsTo s fd ⟨[u],[]⟩ [(x,u)])/\
   ∀base:Heap,(K w.params).In base->base.Ns mainGlobals mg->FnOk l.prog w (K w.params) mg base (CX w) k fa fd [x] (sp w))
 (hsp: ∀(w:World) (H:Hp) (a:Addr) (ns:List Int),ns.length<=n->Only H->SqL (K w.params) H a (ns.map V.int)->sp w [.ref a] H (fun v _=>v= .bl true) fun _ _ _=>False)
 (hCX: ∀(w:World) (H:Hp) (s:Shared) (e:Value) (s':Shared),CX w [] H s (fun _ _ _=>False) e s'->False):
 W.WalkO q loose XP YP l.row.toRowW d [] (fun f vs=>PySem.call f vs):=by
 refine Att.attach_call hn hdf fun w s₀ s₁ mg mb fa o pm cd doc a vs ns G Y ho hd hcd hmg hobj hints hlen hg=> ?_
 have KX:=hY w _ Y
 obtain⟨fd,hb,hF⟩:=F w mg fa _ KX G.T.g hmg
 exact zbt KX G.T.g G.T.b G.T.builtins G.T.nolimit hg hobj hints (Nat.le_trans hlen hn2) hr hF hb (fun H hO hS=>hsp w H a ns hlen hO hS) fun H e s'=>hCX w H s₁ e s'
noncomputable def z3w(s:Stmt):Arguments:=match s with
 | .FunctionDef _ a _ _ _ _ _ _ _ _=>a
 |_=>{posonlyargs:=[],args:=[],vararg:=none,kwonlyargs:=[],kw_defaults:=[],kwarg:=none,defaults:=[]}
noncomputable def z1C(s:Stmt):List Stmt:=match s with
 | .FunctionDef _ _ b _ _ _ _ _ _ _=>b
 |_=>[]
noncomputable def z01(s:Stmt):Scope:=match s with
 | .FunctionDef _ _ _ _ _ _ sc _ _ _=>sc
 |_=>{kind:= .function,names:=[],isGenerator:=false,isCoroutine:=false}
noncomputable abbrev CX0:CXT:=fun _ _ _ _ _ _=>False
noncomputable abbrev E0:XK:=fun _ _ _=>False
theorem zi9{X:Cx}:z5E CX0 X E0:=fun _ _ _ _ _ _ _ h=>h.elim
structure Fun(K:W.Frag)(x qual:Str)(st:Stmt)(f:Addr)(fd:FuncData):Prop where
 ex: ∃(oc:Value) (od:Option Addr) (kV doc pm:Value) (an:Option Addr) (cdv ct:Value) (osl:Array (Option Value)),
  fd=W.fnOf x qual (z3w st) (z1C st) (z01 st) .none kV doc pm an cdv ct/\K.lookup f=some ⟨oc,od, .func fd,osl⟩/\W.codeIn K cdv qual=true
 kp:W.keepIn K (.ref f)=true
section
variable{P:Program}{w:World}{K:W.Frag}{mg:Str->Option Value}{base:Heap}
theorem Fun.ok{x qual:Str}{st:Stmt}{f:Addr}{fd:FuncData}{N ps:List Str}{k:Nat}{sp:Sp}(F:Fun K x qual st f fd)(S:z02 N ps (z01 st))(len: ∀vs H Q E,sp vs H Q E->vs.length=ps.length)
 (hbody: ∀(cdv:Value) (A:Around) (outer:List Env) (s:Shared) (H:Hp) (vs:List V) (Q:VK) (E:XK),Room k (A.deeper (envOfC qual (z01 st) s.heap.objs.size f cdv))->sp vs H Q E->
  ∃t,PSs (cxOf CX0 P w K mg base N qual (z01 st) f cdv A outer s H E).nox (z1C st) t/\t {nx:=fun _ H'=>Q .non H',rt:=Q} (z6K N vs) H):FnOk P w K mg base CX0 (k+1) f fd ps sp:=by
 obtain⟨oc,od,kV,doc,pm,an,cdv,ct,osl,rfl,lk,hcd⟩:=F.ex
 refine zi5 lk hcd S len fun A outer s H vs Q E hr hsp=> ?_
 obtain⟨t,h,q⟩:=hbody cdv A outer s H vs Q E hr hsp
 exact⟨t,h.nox,q⟩
theorem Fun.binds{x qual:Str}{st:Stmt}{f:Addr}{fd:FuncData}{ps:List Str}(F:Fun K x qual st f fd)
 (h: ∀(kV doc pm:Value) (an:Option Addr) (cdv ct:Value) (us:List Value),us.length=ps.length->bindArgs (W.fnOf x qual (z3w st) (z1C st) (z01 st) .none kV doc pm an cdv ct) ⟨us,[]⟩=pure (ps.zip us)):z5h K fd ps []:=by
 obtain⟨oc,od,kV,doc,pm,an,cdv,ct,osl,rfl,lk,hcd⟩:=F.ex
 exact .all (h kV doc pm an cdv ct)
theorem zfl{x qual:Str}{st:Stmt}{f:Addr}{oc:Value}{od an:Option Addr}{osl:Array (Option Value)}{kV doc pm cdv ct:Value}(l:K.lookup f=some ⟨oc,od, .func (W.fnOf x qual (z3w st) (z1C st) (z01 st) .none kV doc pm an cdv ct),osl⟩)
 (c:W.codeIn K cdv qual=true) (k:W.keepIn K (.ref f)=true):Fun K x qual st f (W.fnOf x qual (z3w st) (z1C st) (z01 st) .none kV doc pm an cdv ct):=⟨⟨oc,od,kV,doc,pm,an,cdv,ct,osl,rfl,l,c⟩,k⟩
end
section
variable{X:Cx}
theorem pv(i:Nat){x:Str}{pos:Pos}(hN:X.N[i]? =some x:=by rfl)(hv:Vis X.env.scope x:=by first|exact Or.inl rfl|exact Or.inr (Or.inl rfl)|exact Or.inr (Or.inr rfl))(hd:(x==("__debug__" :Str))=false:=by decide)
 (hcd:(x==("__classdict__" :Str))=false:=by decide):PE X (.Name x pos) (tVar i):=zeS hN hv hd hcd
end
noncomputable def Same(H H':Hp):Prop:= ∀b o,H b=some o->H' b=some o
theorem Same.refl(H:Hp):Same H H:=fun _ _ h=>h
end L2
set_option linter.unusedSimpArgs false
set_option linter.unusedVariables false
namespace So
open PySem PySem.W PyProof.Rows PySem.SeqAt
open AutoSeq1 (wpAny_loadPart')
end So
namespace So
open PySem PySem.W PyProof.Rows PySem.SeqAt
end So
set_option maxHeartbeats 4000000
namespace L2
open PySem PySem.Spec PyProof.Rows
mutual
noncomputable def Dp(K:W.Frag)(H:Hp):PyData->V->Prop
 | .none,v=>v= .non
 | .bool b,v=>v= .bl b
 | .int i,v=>v= .int i
 | .str x,v=>v= .str x
 | .list ds,v=> ∃a xs,v= .ref a/\SqL K H a xs/\DpAll K H ds xs
 | .tuple ds,v=> ∃a xs,v= .ref a/\SqT K H a xs/\DpAll K H ds xs
 | .dict _,_=>False
noncomputable def DpAll(K:W.Frag)(H:Hp):List PyData->List V->Prop
 |[],xs=>xs=[]
 |d::ds,xs=> ∃x r,xs=x::r/\Dp K H d x/\DpAll K H ds r
end
section
variable{X:Cx}{pins:List (Addr×Obj)}{σ:St}{H:Hp}{s:Shared}
mutual
theorem Dp.reads(I:Inv X pins σ H s): ∀(d:PyData) (v:V) (u:Value),Dp X.K H d v->RelV v u->∃as,Reads s.heap u d as
 | .none,v,u,h,r=>by
  simp only[Dp] at h;subst h;cases r;exact⟨_, .none⟩
 | .bool b,v,u,h,r=>by
  simp only[Dp] at h;subst h;cases r;exact⟨_, .bool b⟩
 | .int i,v,u,h,r=>by
  simp only[Dp] at h;subst h;obtain⟨t,rfl⟩:=r;exact⟨_, .int i t⟩
 | .str x,v,u,h,r=>by
  simp only[Dp] at h;subst h;obtain⟨t,rfl⟩:=r;exact⟨_, .str x t⟩
 | .list ds,v,u,h,r=>by
  simp only[Dp] at h
  obtain⟨a,xs,rfl,hs,hd⟩:=h
  cases r
  obtain⟨its,rv,⟨o,n,e,c,_,dd⟩,_⟩:=I.list hs
  obtain⟨as,ra⟩:=DpAll.reads I ds xs its hd rv
  exact⟨_, .list e c dd (by simpa using ra)⟩
 | .tuple ds,v,u,h,r=>by
  simp only[Dp] at h
  obtain⟨a,xs,rfl,hs,hd⟩:=h
  cases r
  obtain⟨its,rv,⟨o,e,c,n,dd⟩,_⟩:=I.tuple hs
  obtain⟨as,ra⟩:=DpAll.reads I ds xs its hd rv
  exact⟨_, .tuple e c dd (by simpa using ra)⟩
 | .dict _,v,u,h,r=>by
  simp only[Dp] at h
theorem DpAll.reads(I:Inv X pins σ H s): ∀(ds:List PyData) (vs:List V) (us:List Value),DpAll X.K H ds vs->Vals vs us->∃as,ReadsAll s.heap us ds as
 |[],vs,us,h,r=>by
  simp only[DpAll] at h;subst h
  cases r
  exact⟨_, .nil⟩
 |d::ds,vs,us,h,r=>by
  simp only[DpAll] at h
  obtain⟨x,q,rfl,h1,h2⟩:=h
  cases r with
  |cons r1 r2=>
   obtain⟨as,ra⟩:=Dp.reads I d _ _ h1 r1
   obtain⟨bs,rb⟩:=DpAll.reads I ds _ _ h2 r2
   exact⟨_, .cons ra rb⟩
end
noncomputable def rEqD(K:W.Frag)(neg:Bool):R2:=fun x y H Q=> ∃d e,Dp K H d x/\Dp K H e y/\d.canLay0=true/\e.canLay0=true/\min d.depth e.depth<=60/\
 Q (.bl (if neg then !PyData.eqv d e else PyData.eqv d e)) H
theorem zfm(hu:X.A.units+64<cLine):OpR X (compareOp .Eq) (rEqD X.K false):=by
 intro pins s σ H x y v u Q I rx ry h
 obtain⟨d,e,hx,hy,c1,c2,hd,q⟩:=h
 obtain⟨as,ra⟩:=hx.reads I _ _ _ rx
 obtain⟨bs,rb⟩:=hy.reads I _ _ _ ry
 exact SeqAt.compareEq_reads ra rb c1 c2 (by lia) ⟨.bl _,H,I,rfl,q⟩
theorem zfn(hu:X.A.units+64<cLine):OpR X (compareOp .NotEq) (rEqD X.K true):=by
 intro pins s σ H x y v u Q I rx ry h
 obtain⟨d,e,hx,hy,c1,c2,hd,q⟩:=h
 obtain⟨as,ra⟩:=hx.reads I _ _ _ rx
 obtain⟨bs,rb⟩:=hy.reads I _ _ _ ry
 exact SeqAt.compareNe_reads ra rb c1 c2 (by lia) ⟨.bl _,H,I,rfl,q⟩
noncomputable def rInD(K:W.Frag)(neg:Bool):R2:=fun x y H Q=> ∃d ds,Dp K H d x/\(Dp K H (.list ds) y\/Dp K H (.tuple ds) y)/\d.canLay0=true/\PyData.canLayAll0 ds=true/\min (PyData.depthAll ds) d.depth<=60/\
 Q (.bl (if neg then !(ds.any fun y=>PyData.eqv y d) else ds.any fun y=>PyData.eqv y d)) H
theorem zfo(hu:X.A.units+64<cLine):OpR X (compareOp .In) (rInD X.K false):=by
 intro pins s σ H x y v u Q I rx ry h
 obtain⟨d,ds,hx,hy,c1,c2,hd,q⟩:=h
 obtain⟨as,ra⟩:=hx.reads I _ _ _ rx
 rcases hy with hy|hy
 ·obtain⟨bs,rb⟩:=hy.reads I _ _ _ ry
  exact SeqAt.in_list_reads rb ra c2 c1 (by lia) ⟨.bl _,H,I,rfl,q⟩
 ·obtain⟨bs,rb⟩:=hy.reads I _ _ _ ry
  exact SeqAt.in_tuple_reads rb ra c2 c1 (by lia) ⟨.bl _,H,I,rfl,q⟩
theorem z9E(hu:X.A.units+64<cLine):OpR X (compareOp .NotIn) (rInD X.K true):=by
 intro pins s σ H x y v u Q I rx ry h
 obtain⟨d,ds,hx,hy,c1,c2,hd,q⟩:=h
 obtain⟨as,ra⟩:=hx.reads I _ _ _ rx
 rcases hy with hy|hy
 ·obtain⟨bs,rb⟩:=hy.reads I _ _ _ ry
  exact SeqAt.notIn_list_reads rb ra c2 c1 (by lia) ⟨.bl _,H,I,rfl,q⟩
 ·obtain⟨bs,rb⟩:=hy.reads I _ _ _ ry
  exact SeqAt.notIn_tuple_reads rb ra c2 c1 (by lia) ⟨.bl _,H,I,rfl,q⟩
noncomputable def isiV(K:W.Frag)(H:Hp)(T:String)(r:Bool):V->Prop
 | .non=>r=false
 | .bl _=>r=(T== "int" ||T== "bool")
 | .int _=>r=(T== "int")
 | .str _=>r=(T== "str")
 | .ref a=>(∃xs,SqT K H a xs/\r=(T== "tuple"))\/(∃xs,SqL K H a xs/\r=(T== "list"))
 |_=>False
noncomputable def rIsi(K:W.Frag):List V->Hp->VK->Prop:=fun xs H Q=> ∃x T r,xs=[x, .ty T]/\(T= "int" \/T= "bool" \/T= "tuple" \/T= "list" \/T= "str")/\isiV K H T r x/\Q (.bl r) H
theorem zbu:CallR X (.builtin "isinstance") (rIsi X.K):=by
 intro pins s σ H xs us Q I r h
 obtain⟨x,T,b,rfl,hT,hx,q⟩:=h
 obtain⟨u,u',rfl,ru,ru'⟩:=zdk r
 cases ru'
 have fin: ∀t,EP X pins σ Q (.bool b) {s with toks:=t}:=fun t=>⟨.bl b,H,I.tok t,rfl,q⟩
 have fin0:EP X pins σ Q (.bool b) s:=⟨.bl b,H,I,rfl,q⟩
 cases x with
 |non=>
  cases ru
  have hx:b=false:=hx
  subst hx
  rcases hT with rfl|rfl|rfl|rfl|rfl
  ·exact IsiPair.NoneType_int (fin _)
  ·exact IsiPair.NoneType_bool (fin _)
  ·exact IsiPair.NoneType_tuple (fin _)
  ·exact IsiPair.NoneType_list (fin _)
  ·exact IsiPair.NoneType_str (fin _)
 |bl k=>
  cases ru
  rcases hT with rfl|rfl|rfl|rfl|rfl
  ·have hx:b=true:=hx
   subst hx;exact IsiPair.bool_int fin0
  ·have hx:b=true:=hx
   subst hx;exact IsiPair.bool_bool fin0
  ·have hx:b=false:=hx
   subst hx;exact IsiPair.bool_tuple (fin _)
  ·have hx:b=false:=hx
   subst hx;exact IsiPair.bool_list (fin _)
  ·have hx:b=false:=hx
   subst hx;exact IsiPair.bool_str (fin _)
 |int k=>
  obtain⟨t,rfl⟩:=ru
  rcases hT with rfl|rfl|rfl|rfl|rfl
  ·have hx:b=true:=hx
   subst hx;exact IsiPair.int_int fin0
  ·have hx:b=false:=hx
   subst hx;exact IsiPair.int_bool (fin _)
  ·have hx:b=false:=hx
   subst hx;exact IsiPair.int_tuple (fin _)
  ·have hx:b=false:=hx
   subst hx;exact IsiPair.int_list (fin _)
  ·have hx:b=false:=hx
   subst hx;exact IsiPair.int_str (fin _)
 |str k=>
  obtain⟨t,rfl⟩:=ru
  rcases hT with rfl|rfl|rfl|rfl|rfl
  ·have hx:b=false:=hx
   subst hx;exact IsiPair.str_int (fin _)
  ·have hx:b=false:=hx
   subst hx;exact IsiPair.str_bool (fin _)
  ·have hx:b=false:=hx
   subst hx;exact IsiPair.str_tuple (fin _)
  ·have hx:b=false:=hx
   subst hx;exact IsiPair.str_list (fin _)
  ·have hx:b=true:=hx
   subst hx;exact IsiPair.str_str fin0
 |ref a=>
  cases ru
  rcases hx with⟨ys,hs,hb⟩|⟨ys,hs,hb⟩
  ·obtain⟨its,rv,⟨o,e,c,n,dd⟩,_⟩:=I.tuple hs
   rcases hT with rfl|rfl|rfl|rfl|rfl
   ·have hx:b=false:=hb
    subst hx;exact IsiPair.tuple_int e c (fin _)
   ·have hx:b=false:=hb
    subst hx;exact IsiPair.tuple_bool e c (fin _)
   ·have hx:b=true:=hb
    subst hx;exact IsiPair.tuple_tuple e c fin0
   ·have hx:b=false:=hb
    subst hx;exact IsiPair.tuple_list e c (fin _)
   ·have hx:b=false:=hb
    subst hx;exact IsiPair.tuple_str e c (fin _)
  ·obtain⟨its,rv,⟨o,n,e,c,_,dd⟩,_⟩:=I.list hs
   rcases hT with rfl|rfl|rfl|rfl|rfl
   ·have hx:b=false:=hb
    subst hx;exact IsiPair.list_int e c (fin _)
   ·have hx:b=false:=hb
    subst hx;exact IsiPair.list_bool e c (fin _)
   ·have hx:b=false:=hb
    subst hx;exact IsiPair.list_tuple e c (fin _)
   ·have hx:b=true:=hb
    subst hx;exact IsiPair.list_list e c fin0
   ·have hx:b=false:=hb
    subst hx;exact IsiPair.list_str e c (fin _)
 |byt _=>exact hx.elim
 |flt _=>exact hx.elim
 |ty _=>exact hx.elim
theorem z4I: ∀{bs:List Bool} {us:List Value},Vals (bs.map V.bl) us->LSm.BoolsAre us bs
 |[],_, .nil=> .nil
 |b::bs,_, .cons r t=>by
  cases r
  exact .cons b (z4I t)
theorem z9F(hc:X.A.handled=none):CallR X (.builtin "all") (fun xs H Q=> ∃(p:Addr) (bs:List Bool),xs=[.ref p]/\SqL X.K H p (bs.map V.bl)/\Q (.bl (bs.all id)) H):=by
 intro pins s σ H xs us Q I r h
 obtain⟨p,bs,rfl,hs,q⟩:=h
 obtain⟨u,rfl,ru⟩:=z2R r
 cases ru
 obtain⟨its,rv,pl,_⟩:=I.list hs
 have hb:=z4I rv
 have hl:=pl.isList
 have hlt:p<s.heap.objs.size:=by obtain⟨_,e,_⟩:=hl;exact Heap.lt_size e
 refine call_all_walk (wpAny_pyIter_list hl ?_)
 refine⟨s.heap.objs.size,[s.heap.objs.size,p],[s.heap.objs.size],its.toArray.size,_,_,fun i=>(bs[i]?).getD true,rfl,Walks.list (A:=X.A.in1) hc _ p (Nat.ne_of_lt hlt) its.toArray,
  ⟨⟨_,Heap.get?_push_size _ rfl,rfl,rfl⟩,hl.push _⟩,fun i v s' Q' E' hP hQ=> ?_,fun h' tk hk=> ?_⟩
 ·obtain⟨b,e,rfl⟩:=hb.get i v (by simpa using hP)
  simp only[e,Option.getD_some] at hQ
  exact wpAny_truthy_bool hQ
 ·have e:((List.range its.toArray.size).all fun i=>(bs[i]?).getD true)=bs.all id:=by
   rw[List.size_toArray,hb.length];exact LSm.range_all bs
  rw[e]
  exact⟨.bl _,H,I.kept (LSm.kept_iter hk),rfl,q⟩
end
end L2
namespace HT
open PySem PyProof.Rows
section
variable{prog:Program}{w:World}{A:Around}{E:Value->Shared->Prop}{s:Shared}
theorem getItem_tuple_whole{t sl:Addr}{items:Array Value}{vl vu:Value}{lo hi:Option Int}{Q:Value->Shared->Prop}(ht:IsTup s.heap t items)(hs:s.heap.IsSliceOf sl vl vu .none)(pl:IsPart vl lo)(pu:IsPart vu hi)
 (hw:sIx items.size 0 lo=0/\sIx items.size items.size hi=items.size) (h:Q (.ref t) s):wpAny (model prog w) A (getItem (.ref t) (.ref sl)) Q E s:=by
 obtain⟨os,hos,hcs,hds⟩:=id hs
 have hTs:s.TypeIs (.ref sl) "slice" :=⟨os,hos,hcs⟩
 unfold getItem
 try with_reducible refine wpAny_holding ?_
 first|refine wpAny_bind (wpAny_pure ?_)|skip
 refine wpAny_bind (wpAny_sequenceKey ht.typeIs (by decide) ?_)
 refine wpAny_bind (wpAny_callSpecial?_slot (name:=Str.ofString "__getitem__") ht.typeIs PyProof.Rows.slot_tuple_getitem
  (wpAny_call_entry PyProof.Rows.slot_tuple_getitem ht.typeIs entry_tuple_getitem ?_ (args_tuple_getitem _ _)))
 show wpAny _ _ (Builtin.Tuple.tupleItemsOf (.ref t)>>=_) _ _ s
 refine wpAny_bind (tupleItemsOf_ ht ?_)
 refine wpAny_bind (wpAny_typeOf hTs ?_)
 rw[if_pos (by decide)]
 refine wpAny_bind (z2M hs pl pu ?_)
 have hyes:((((sIx items.size 0 lo:Nat):Int)==0&&(1:Int)==1&&(sIx items.size items.size hi -sIx items.size 0 lo)==items.size)=true):=by
  rw[hw.1,hw.2]
  simp
 show wpAny _ _ (if(((sIx items.size 0 lo:Nat):Int)==0&&(1:Int)==1&&(sIx items.size items.size hi -sIx items.size 0 lo)==items.size)=true then _ else _) _ _ s
 rw[if_pos hyes]
 obtain⟨o,ho,hc,n,hd⟩:=id ht
 have ex:Builtin.Tuple.tupleIsExact (.ref t)=(typeOf (.ref t)>>=fun T=>pure (T== .type "tuple")):=rfl
 refine wpAny_bind (m:=Builtin.Tuple.tupleIsExact (.ref t)) ?_
 rw[ex]
 refine wpAny_bind (wpAny_typeOf ht.typeIs (wpAny_pure ?_))
 rw[if_pos (by decide)]
 exact wpAny_bind (wpAny_rule (wpAny_pure ⟨_,rfl,wpAny_pure h⟩))
end
end HT
namespace L2
open PySem PySem.Spec PyProof.Rows
section
variable{X:Cx}
theorem z8S{xs:List V}{lo hi:Option Int}(h:HT.sIx xs.length 0 lo=0/\HT.sIx xs.length xs.length hi=xs.length):cutV xs lo hi=xs:=by
 unfold cutV
 rw[h.1,h.2]
 simp
noncomputable def zfp(K:W.Frag):V->List V->Hp->VK->Prop:=fun x vs H Q=> ∃l b xs zs,x= .ref l/\vs=[.ref b]/\H l=some (.lst xs)/\(SqT K H b zs\/SqL K H b zs)/\xs.length+zs.length<=sizeLine/\Q .non (upd H l (.lst (xs++zs)))
theorem z9G(l:Addr)(items:Array Value)(n:Nat)(b:Addr)(items2:Array Value)(n2:Nat)(dd2:Option Addr)(sl2:Array (Option Value))(hs0: ¬(!items.isEmpty&&Builtin.List.listTooLong (items.size+items2.size))=true)(hs1:items.size<=sizeLine)(hs2:items.size+items2.size<=sizeLine+1):
 Meets (Builtin.«list.extend» ⟨[.ref l, .ref b],[]⟩) (fun _ R s=>s.heap.get? l=some {cls:= .type "list",dict:=none,data:= .seq items n,slots:= #[]}/\s.heap.get? b=some {cls:= .type "tuple",dict:=dd2,data:= .seq items2 n2,slots:=sl2}/\R (.ok (.ret Value.none)) {s with heap:=s.heap.update l (Obj.mapSeq fun x=>x++items2),toks:=s.toks}):=
 .of_wp fun prog w A R s h=>by
  obtain⟨hp,g,d,tk,os⟩:=s;obtain⟨hl,hb,h⟩:=h;have f1:=AutoSeq1.idx_int;have f2:=AutoSeq1.sub_tuple_tuple;have f3:=AutoSeq1.sub_list_list;have f4:=AutoSeq1.sub_tuple_list;have f5:=AutoSeq1.sub_list_tuple
  have hz':(items++items2).size<=sizeLine+1:=by rw[Array.size_append];exact hs2
  wp_walk using(wpAny_updateSeq hl rfl (hz:=hs1) (_hz':=hz')),AutoSeq1.wpAny_loadPart' hl,AutoSeq1.wpAny_loadPart' hb;exact⟨_,rfl,h⟩
theorem z9H(l:Addr)(items:Array Value)(n:Nat)(b:Addr)(items2:Array Value)(n2:Nat)(dd2:Option Addr)(sl2:Array (Option Value))(hs0: ¬(!items.isEmpty&&Builtin.List.listTooLong (items.size+items2.size))=true)(hs1:items.size<=sizeLine)(hs2:items.size+items2.size<=sizeLine+1):
 Meets (Builtin.«list.extend» ⟨[.ref l, .ref b],[]⟩) (fun _ R s=>s.heap.get? l=some {cls:= .type "list",dict:=none,data:= .seq items n,slots:= #[]}/\s.heap.get? b=some {cls:= .type "list",dict:=dd2,data:= .seq items2 n2,slots:=sl2}/\R (.ok (.ret Value.none)) {s with heap:=s.heap.update l (Obj.mapSeq fun x=>x++items2),toks:=s.toks}):=
 .of_wp fun prog w A R s h=>by
  obtain⟨hp,g,d,tk,os⟩:=s;obtain⟨hl,hb,h⟩:=h;have f1:=AutoSeq1.idx_int;have f2:=AutoSeq1.sub_tuple_tuple;have f3:=AutoSeq1.sub_list_list;have f4:=AutoSeq1.sub_tuple_list;have f5:=AutoSeq1.sub_list_tuple
  have hz':(items++items2).size<=sizeLine+1:=by rw[Array.size_append];exact hs2
  wp_walk using(wpAny_updateSeq hl rfl (hz:=hs1) (_hz':=hz')),AutoSeq1.wpAny_loadPart' hl,AutoSeq1.wpAny_loadPart' hb;exact⟨_,rfl,h⟩
theorem zdu:MtM X "list.extend" (zfp X.K):=by
 intro pins s σ H x vs v us Q I rx rv h
 obtain⟨l,b,xs,zs,rfl,rfl,hH,hB,hz,q⟩:=h
 cases rx
 obtain⟨u,rfl,ru⟩:=rv.one
 cases ru
 obtain⟨z,its,n,r,hl,e⟩:=I.lstM hH
 have key: ∃its2:List Value,Vals zs its2/\((∃dd2 n2 sl2,s.heap.get? b=some {cls:= .type "tuple",dict:=dd2,data:= .seq its2.toArray n2,slots:=sl2})\/(∃dd2 n2 sl2,s.heap.get? b=some {cls:= .type "list",dict:=dd2,data:= .seq its2.toArray n2,slots:=sl2})):=by
  rcases hB with hB|hB
  ·obtain⟨its2,r2,⟨⟨cls,dd,data,sl⟩,e2,c,n2,d2⟩,_⟩:=I.tuple hB
   simp only at c d2
   subst c d2
   exact⟨its2,r2, .inl ⟨_,_,_,e2⟩⟩
  ·obtain⟨its2,r2,⟨⟨cls,dd,data,sl⟩,n2,e2,c,_,d2⟩,_⟩:=I.list hB
   simp only at c d2
   subst c d2
   exact⟨its2,r2, .inr ⟨_,_,_,e2⟩⟩
 obtain⟨its2,r2,k⟩:=key
 have hl2:=r2.length
 have hsz:its.toArray.size+its2.toArray.size<=sizeLine:=by rw[List.size_toArray,List.size_toArray];lia
 have hlong: ¬(!its.toArray.isEmpty&&Builtin.List.listTooLong (its.toArray.size+its2.toArray.size))=true:=by
  rw[z86 hsz,Bool.and_false]
  exact Bool.false_ne_true
 have fin:EP X pins σ Q .none {s with heap:=s.heap.update l (Obj.mapSeq fun x=>x++its2.toArray),toks:=s.toks}:=by
  refine⟨.non,_,I.lset (its':=its++its2) hH e (by simp) (r.append r2) ?_,rfl,q⟩
  rw[List.length_append]
  lia
 rcases k with⟨dd2,n2,sl2,e2⟩|⟨dd2,n2,sl2,e2⟩
 ·exact call_meets F.slot_list_extend ⟨_,e,rfl⟩ F.entry_list_extend (F.args_list_extend_2 _ _) (z9G l its.toArray n b its2.toArray n2 dd2 sl2 hlong (by rw[List.size_toArray];lia) (by lia)) ⟨e,e2,fin⟩
 ·exact call_meets F.slot_list_extend ⟨_,e,rfl⟩ F.entry_list_extend (F.args_list_extend_2 _ _) (z9H l its.toArray n b its2.toArray n2 dd2 sl2 hlong (by rw[List.size_toArray];lia) (by lia)) ⟨e,e2,fin⟩
end
noncomputable def z2h(env:Env):List (Str×NameKind)->List (Str×Addr)->List (Str×Addr)
 |[],cs=>cs
 |(n,k)::r,cs=>z2h env r (if k== .free then(match env.cells.lookup n with|some a=>(n,a)::cs|none=>cs) else cs)
theorem z87{env:Env}: ∀(names:List (Str×NameKind)) (cs:List (Str×Addr)),(∀y∈names,y.2= .free->∃a,env.cells.lookup y.1=some a)->
 (forIn names cs fun(x:Str×NameKind) (r:List (Str×Addr))=>if(x.2==NameKind.free)=true then cellOf env x.1>>=fun a=>pure (ForInStep.yield ((x.1,a)::r)) else pure (ForInStep.yield r))=(pure (z2h env names cs):Sem _)
 |[],cs,_=>rfl
 |(n,k)::r,cs,h=>by
  have ih:=fun cs=>z87 (env:=env) r cs fun y hy=>h y (List.mem_cons_of_mem _ hy)
  rw[List.forIn_cons]
  show((if(k==NameKind.free)=true then cellOf env n>>=fun a=>pure (ForInStep.yield ((n,a)::cs)) else pure (ForInStep.yield cs))>>=_)=pure (z2h env r (if k== .free then(match env.cells.lookup n with|some a=>(n,a)::cs|none=>cs) else cs))
  by_cases hk:(k==NameKind.free)=true
  ·obtain⟨a,e⟩:=h (n,k) List.mem_cons_self (by simpa using hk)
   have e:env.cells.lookup n=some a:=e
   rw[if_pos hk,if_pos hk,e]
   have e2:cellOf env n=pure a:=by unfold cellOf;rw[e]
   rw[e2]
   exact ih _
  ·rw[if_neg hk,if_neg hk]
   exact ih _
theorem z3M{env:Env}{scope:Scope}(h: ∀y∈scope.names,y.2= .free->∃a,env.cells.lookup y.1=some a):closureFor scope env=pure (z2h env scope.names []):=by
 have e:=z87 (env:=env) scope.names [] h
 exact congrArg (fun(m:Sem (List (Str×Addr)))=>m>>=fun cs=>pure cs) e
theorem z4x{env:Env}{x:Str}{c:Addr}: ∀(names:List (Str×NameKind)) (cs:List (Str×Addr)),(z2h env names cs).lookup x=some c->
 cs.lookup x=some c\/(env.cells.lookup x=some c/\(x,NameKind.free)∈names)
 |[],cs,h=> .inl h
 |(n,k)::r,cs,h=>by
  rcases z4x r _ h with q|⟨q,m⟩
  ·by_cases hk:(k==NameKind.free)=true
   ·rw[if_pos hk] at q
    cases e:env.cells.lookup n with
    |none=>rw[e] at q;exact .inl q
    |some a=>
     rw[e] at q
     have q:((n,a)::cs).lookup x=some c:=q
     rw[List.lookup_cons] at q
     by_cases hx:(x==n)=true
     ·rw[hx] at q
      have q:some a=some c:=q
      cases q
      have hx:x=n:=eq_of_beq hx
      subst hx
      have hk:k= .free:=eq_of_beq hk
      subst hk
      exact .inr ⟨e,List.mem_cons_self⟩
     ·have hx:(x==n)=false:=by simpa using hx
      rw[hx] at q
      exact .inl q
   ·rw[if_neg hk] at q
    exact .inl q
  ·exact .inr ⟨q,List.mem_cons_of_mem _ m⟩
theorem z4J{env:Env}{x:Str}: ∀(names:List (Str×NameKind)) (cs:List (Str×Addr)),(((∃c,cs.lookup x=some c))\/((x,NameKind.free)∈names/\∃c,env.cells.lookup x=some c))->
 ∃c,(z2h env names cs).lookup x=some c
 |[],cs,h=>by
  rcases h with h|⟨m,_⟩
  ·exact h
  ·cases m
 |(n,k)::r,cs,h=>by
  refine z4J r _ ?_
  rcases h with⟨c,hc⟩|⟨m,c,hc⟩
  ·left
   by_cases hk:(k==NameKind.free)=true
   ·rw[if_pos hk]
    cases e:env.cells.lookup n with
    |none=>exact⟨c,hc⟩
    |some a=>
     by_cases hx:(x==n)=true
     ·exact⟨a,by show((n,a)::cs).lookup x=some a;rw[List.lookup_cons,hx]⟩
     ·have hx:(x==n)=false:=by simpa using hx
      exact⟨c,by show((n,a)::cs).lookup x=some c;rw[List.lookup_cons,hx];exact hc⟩
   ·rw[if_neg hk]
    exact⟨c,hc⟩
  ·rcases List.mem_cons.mp m with e|m
   ·left
    cases e
    rw[if_pos (by decide),hc]
    exact⟨c,by show((x,c)::cs).lookup x=some c;rw[List.lookup_cons,beq_self_eq_true]⟩
   ·exact .inr ⟨m,c,hc⟩
theorem z1D{env:Env}: ∀{names:List (Str×NameKind)} {x:Str},names.lookup x=some .free->
 (names.map fun(n,k)=>if(k==NameKind.free&&env.scope.kind== .function&&env.kindOf n==some .cell) then(n,NameKind.cell) else(n,k)).lookup x=some .cell\/
 (names.map fun(n,k)=>if(k==NameKind.free&&env.scope.kind== .function&&env.kindOf n==some .cell) then(n,NameKind.cell) else(n,k)).lookup x=some .free
 |[],_,h=>by simp at h
 |(n,k)::r,x,h=>by
  have ih:= @z1D env r x
  rw[List.map_cons]
  show List.lookup x ((if(k==NameKind.free&&env.scope.kind== .function&&env.kindOf n==some .cell)=true then(n,NameKind.cell) else(n,k))::_)=_\/List.lookup x ((if(k==NameKind.free&&env.scope.kind== .function&&env.kindOf n==some .cell)=true then(n,NameKind.cell) else(n,k))::_)=_
  cases hx:x==n with
  |true=>
   simp only[List.lookup_cons,hx] at h
   cases h
   by_cases hc:(NameKind.free==NameKind.free&&env.scope.kind== .function&&env.kindOf n==some .cell)=true
   ·rw[if_pos hc];left;simp only[List.lookup_cons,hx]
   ·rw[if_neg hc];right;simp only[List.lookup_cons,hx]
  |false=>
   simp only[List.lookup_cons,hx] at h
   by_cases hc:(k==NameKind.free&&env.scope.kind== .function&&env.kindOf n==some .cell)=true
   ·rw[if_pos hc];simp only[List.lookup_cons,hx];exact ih h
   ·rw[if_neg hc];simp only[List.lookup_cons,hx];exact ih h
theorem z2i{env:Env}: ∀{names:List (Str×NameKind)} {x:Str},((names.map fun(n,k)=>if(k==NameKind.free&&env.scope.kind== .function&&env.kindOf n==some .cell) then(n,NameKind.cell) else(n,k)).lookup x=some .cell\/
 (names.map fun(n,k)=>if(k==NameKind.free&&env.scope.kind== .function&&env.kindOf n==some .cell) then(n,NameKind.cell) else(n,k)).lookup x=some .free)->names.lookup x=some .free\/names.lookup x=some .cell
 |[],_,h=>by simp at h
 |(n,k)::r,x,h=>by
  have ih:= @z2i env r x
  rw[List.map_cons] at h
  have h:List.lookup x ((if(k==NameKind.free&&env.scope.kind== .function&&env.kindOf n==some .cell)=true then(n,NameKind.cell) else(n,k))::_)=_\/List.lookup x ((if(k==NameKind.free&&env.scope.kind== .function&&env.kindOf n==some .cell)=true then(n,NameKind.cell) else(n,k))::_)=_:=h
  cases hx:x==n with
  |true=>
   simp only[List.lookup_cons,hx]
   by_cases hc:(k==NameKind.free&&env.scope.kind== .function&&env.kindOf n==some .cell)=true
   ·have:k= .free:=by
     simp only[Bool.and_eq_true,beq_iff_eq] at hc
     exact hc.1.1
    subst this
    exact .inl rfl
   ·rw[if_neg hc] at h
    simp only[List.lookup_cons,hx] at h
    exact h.symm
  |false=>
   simp only[List.lookup_cons,hx]
   refine ih ?_
   by_cases hc:(k==NameKind.free&&env.scope.kind== .function&&env.kindOf n==some .cell)=true
   ·rw[if_pos hc] at h;simp only[List.lookup_cons,hx] at h;exact h
   ·rw[if_neg hc] at h;simp only[List.lookup_cons,hx] at h;exact h
structure z1n(osc sc:Scope)(own frees N:List Str)(ix:List Nat):Prop where
 kind:sc.kind= .function
 nocell: ∀y∈sc.names,y.2≠ .cell
 names: ∀y∈sc.names,y.2= .local->sc.names.lookup y.1=some .local
 fr: ∀y∈sc.names,y.2= .free->osc.names.lookup y.1=some .cell\/osc.names.lookup y.1=some .free
 nd:(own++frees).Nodup
 frl: ∀x∈frees,sc.names.lookup x=some .free
 ixs:ix.map (fun i=>N[i]?)=frees.map some
noncomputable def z0x(X:Cx)(scope:Scope)(own frees:List Str)(cl:List (Str×Addr))(C:Addr)(s₀:Shared)(H₀:Hp)(fp:List Addr)(pn:List (Addr×Obj)):Cx:=
 {X with N:=own++frees,s₀:=s₀,H₀:=H₀,env:=compEnvC scope cl C X.env,outer:=X.stack,stack:=X.stack,ex:=fp,fn:=fun _=>false,pn:=pn,xe:=fun _ _=>False}
noncomputable def z3p(k:Nat)(ix:List Nat)(σ:St):St:=List.replicate k none++ix.map fun i=>(σ[i]?).getD none
section
variable{X:Cx}{tg iter elt:Expr}{pos:Pos}{scope:Scope}{own frees:List Str}{ix:List Nat}{wi:TI}{g:TG}{te:TE}
theorem z8T(k:Nat)(ix:List Nat)(σ:St):(z3p k ix σ).length=k+ix.length:=by
 unfold z3p
 simp
theorem z5G{pins:List (Addr×Obj)}{σ:St}{H:Hp}{s s1:Shared}{fp:List Addr}(S:z1n X.env.scope scope own frees X.N ix)(I:Inv X pins σ H s)(hf: ∀b∈fp,FpOk X pins H b)(hb: ∀b∈fp,b<s.heap.objs.size)
 (ho:s1.os=s.os) (hg:s1.gens=s.gens) (hk: ∀b o,s.heap.get? b=some o->s1.heap.get? b=some o) (hn:s1.heap.Ns s.heap.objs.size (fun _=>none)):
 Inv (z0x X scope own frees (z2h X.env scope.names []) s.heap.objs.size s H fp (X.pn++pins)) [] (z3p own.length ix σ) H s1:=by
 have clos: ∀x c,(z2h X.env scope.names []).lookup x=some c->X.env.cells.lookup x=some c/\(x,NameKind.free)∈scope.names:=fun x c h=>by
  rcases z4x _ _ h with q|q
  ·exact nomatch q
  ·exact q
 have hlen:ix.length=frees.length:=by
  have:=congrArg List.length S.ixs
  simpa using this
 have cne: ∀x c,X.env.cells.lookup x=some c->c<s.heap.objs.size:=fun x c e=>by
  obtain⟨v,o,q,_⟩:=I.cell x c e
  exact Heap.lt_size q
 refine⟨⟨I.ok.mod,S.kind,I.ok.glob,I.ok.blt,Nat.le_refl _,fun x y c h1 h2=>I.ok.inj x y c (clos x c h1).1 (clos y c h2).1,fun x hx=> ?_,fun x c z=>Bool.noConfusion z,I.ok.hd,I.ok.frames, .inl rfl,fun b z=>⟨Nat.ne_of_lt (hb b z),fun x c e=>(hf b z).2.2.2.2.1 x c (clos x c e).1⟩,I.bs,
  Nat.le_trans I.ok.bsz I.sz,fun b o e z=> ?_,fun b z=> ?_,I.stack,I.stkFree⟩,ho, ?_,Un.kept hk,⟨_,hn,fun i x v h1 h2 h3=> ?_⟩,fun x c e=> ?_,I.fresh,fun x c e=>I.freeC x c (clos x c e).1,fun p hp=> ?_,I.hok.kept hk, ?_⟩
 ·have hx:(relabel scope X.env).names.lookup x=some .cell\/(relabel scope X.env).names.lookup x=some .free:=hx
  rcases z2i hx with q|q
  ·have m:(x,NameKind.free)∈scope.names:=PySem.mem_of_lookup q
   obtain⟨c,hc⟩:=I.ok.has x (S.fr _ m rfl)
   exact z4J _ _ (.inr ⟨m,c,hc⟩)
  ·exact absurd rfl (S.nocell _ (PySem.mem_of_lookup q))
 ·rcases(hf b z).2.2.2.1 with q|q
  ·exact I.ok.noex b o e q
  ·exact absurd (Heap.lt_size (I.ok.bs b o e).1) (Nat.not_lt.mpr q)
 ·intro q
  rcases List.mem_cons.mp (I.stkSub b q) with r|r
  ·exact(hf b z).2.1 r
  ·exact(hf b z).2.2.1 r
 ·rw[hg];exact I.bare
 ·have h2:(z3p own.length ix σ)[i]? =some (some v):=h2
  have h1:(own++frees)[i]? =some x:=h1
  unfold z3p at h2
  by_cases hi:i<own.length
  ·rw[List.getElem?_append_left (by simpa using hi),List.getElem?_replicate] at h2
   rw[if_pos hi] at h2
   cases h2
  ·have hi:own.length<=i:=Nat.not_lt.mp hi
   rw[List.getElem?_append_right (by simpa using hi),List.length_replicate,List.getElem?_map] at h2
   rw[List.getElem?_append_right hi] at h1
   cases e:ix[i -own.length]? with
   |none=>rw[e] at h2;cases h2
   |some j=>
    rw[e] at h2
    have h2:some ((σ[j]?).getD none)=some (some v):=h2
    have hσ:σ[j]? =some (some v):=by
     cases q:σ[j]? with
     |none=>rw[q] at h2;cases h2
     |some z=>rw[q] at h2;exact h2
    have hN:X.N[j]? =some x:=by
     have:=congrArg (fun l:List (Option Str)=>l[i -own.length]?) S.ixs
     simp only[List.getElem?_map,e,h1,Option.map_some] at this
     exact Option.some.inj this
    have mf:x∈frees:=List.mem_of_getElem? h1
    have lf:=S.frl x mf
    have m:(x,NameKind.free)∈scope.names:=PySem.mem_of_lookup lf
    have hos:=S.fr _ m rfl
    obtain⟨mm,hns,hl⟩:=I.loc
    obtain⟨u,ru,look⟩:=hl j x v hN hσ (hos.elim (fun q=> .inr (.inl q)) fun q=> .inr (.inr q))
    refine⟨u,ru, ?_⟩
    rcases look with⟨kk,_⟩|⟨kk,c,hc,ic⟩
    ·have kk:X.env.scope.names.lookup x=some .local:=kk
     have hos:X.env.scope.names.lookup x=some .cell\/X.env.scope.names.lookup x=some .free:=hos
     rw[kk] at hos
     rcases hos with q|q<;>cases q
    ·obtain⟨c',hc'⟩:=z4J (env:=X.env) scope.names [] (.inr ⟨m,c,hc⟩)
     have e2:=(clos x c' hc').1
     rw[hc] at e2
     cases e2
     refine .inr ⟨z1D lf,c,hc', ?_⟩
     obtain⟨o,q1,q2⟩:=ic
     exact⟨o,hk _ _ q1,q2⟩
 ·obtain⟨v,o,q1,q2⟩:=I.cell x c (clos x c e).1
  exact⟨v,o,hk _ _ q1,q2⟩
 ·have hp:p∈(X.pn++pins)++[]:=hp
  rw[List.append_nil] at hp
  obtain⟨e,n,ne,nf,d⟩:=I.pin p hp
  refine⟨hk _ _ e,n,Nat.ne_of_lt (Heap.lt_size e),fun q=> ?_,d⟩
  rcases List.mem_cons.mp (I.stkSub p.1 q) with r|r
  ·exact ne r
  ·exact nf r
 ·show(z3p own.length ix σ).length=(own++frees).length
  rw[z8T,hlen,List.length_append]
theorem z88{pins pins':List (Addr×Obj)}{σ σ':St}{H H':Hp}{s s':Shared}{h':Heap}{fp:List Addr}{cl:List (Str×Addr)}{C:Addr}(I:Inv X pins σ H s)(hf: ∀b∈fp,FpOk X pins H b)(hC:s.heap.objs.size<=C)
 (J:Inv (z0x X scope own frees cl C s H fp (X.pn++pins)) pins' σ' H' s') (hs:Heap.SameBut C s'.heap h'):Inv X pins σ H' {s' with heap:=h'}:=by
 have nC: ∀b,b<s.heap.objs.size->b≠C:=fun b q e=>by subst e;exact absurd q (Nat.not_lt.mpr hC)
 refine I.call' (ch:=fp) J.os ⟨fun b o e n hb hx=> ?_,fun b o e n hb hx=> ?_,J.base.free,fun b o e hx=> ?_,J.base.tups,J.base.frzs,J.base.tbls⟩ ?_ J.bare fun b z=>⟨(hf b z).2.2.2.1,(hf b z).2.1,(hf b z).2.2.2.2.1,(hf b z).2.2.2.2.2⟩
 ·exact(hs.2 b (nC b (Heap.lt_size e))).trans (J.base.keep b o e n hb hx)
 ·obtain⟨sl,q⟩:=J.base.slot b o e n hb hx
  exact⟨sl,(hs.2 b (nC b (Heap.lt_size e))).trans q⟩
 ·obtain⟨o',q⟩:=J.base.there b o e hx
  exact⟨o',(hs.2 b (nC b (Heap.lt_size e))).trans q⟩
 ·intro a o e
  refine(J.hok a o e).stay (fun b u hbu q=> ?_) (fun _ q=>q) fun _ _ q=>q
  refine(hs.2 b ?_).trans q
  intro eb
  subst eb
  have hfree:H' b=none:=J.free
  rcases hbu with rfl|z
  ·rw[e] at hfree;cases hfree
  ·rw[z] at hfree;cases hfree
end
end L2
namespace PySem
end PySem
namespace L2
open PySem PySem.Spec PyProof.Rows
noncomputable def z1f(osc sc:Scope)(own frees N:List Str)(ix:List Nat):Bool:=
 decide (sc.kind= .function)&&sc.names.all (fun y=>decide (y.2≠ .cell))&&sc.names.all (fun y=>decide (y.2= .local->sc.names.lookup y.1=some .local))&&
  sc.names.all (fun y=>decide (y.2= .free->osc.names.lookup y.1=some .cell\/osc.names.lookup y.1=some .free))&&decide (own++frees).Nodup&&frees.all (fun x=>decide (sc.names.lookup x=some .free))&&
  decide (ix.map (fun i=>N[i]?)=frees.map some)
theorem z1f.sc{osc sc:Scope}{own frees N:List Str}{ix:List Nat}(h:z1f osc sc own frees N ix=true):z1n osc sc own frees N ix:=by
 unfold z1f at h
 simp only[Bool.and_eq_true,List.all_eq_true,decide_eq_true_eq] at h
 obtain⟨⟨⟨⟨⟨⟨h1,h2⟩,h3⟩,h4⟩,h5⟩,h6⟩,h7⟩:=h
 exact⟨h1,h2,h3,h4,h5,h6,h7⟩
theorem Same.new{H:Hp}{p:Addr}(o:HO)(h:H p=none):Same H (upd H p o):=fun x u e=>by rw[z08 (z0H e h)];exact e
noncomputable def dT(ns:List Int):PyData:= .tuple (ns.map PyData.int)
theorem cut_take(xs:List V)(k:Nat):cutV xs none (some (k:Int))=xs.take k:=by
 unfold cutV
 rw[HT.sIx_none,HT.sIx_nat]
 simp only[List.drop_zero,Nat.sub_zero]
 rw[List.take_eq_take_iff]
 lia
theorem map_take{α β:Type}(f:α->β)(xs:List α)(k:Nat):(xs.map f).take k=(xs.take k).map f:=by rw[List.map_take]
theorem map_drop{α β:Type}(f:α->β)(xs:List α)(k:Nat):(xs.map f).drop k=(xs.drop k).map f:=by rw[List.map_drop]
noncomputable def NewX(K:W.Frag)(H:Hp)(xs:List V)(Q:VK):Prop:= ∀p H',(H'=H/\H p=some (.tup xs))\/(H p=none/\H'=upd H p (.tup xs))->Q (.ref p) H'
theorem NewX.intro{K:W.Frag}{H:Hp}{xs:List V}{Q:VK}(h: ∀p H',H' p=some (.tup xs)->Same H H'->Q (.ref p) H'):NewX K H xs Q:=by
 intro p H' e
 rcases e with⟨rfl,s⟩|⟨n,rfl⟩
 ·exact h p H' s (Same.refl _)
 ·exact h p _ z0f (Same.new _ n)
section
variable{X:Cx}
noncomputable def rSlX(K:W.Frag):V->Option Int->Option Int->Hp->VK->Prop:=fun x lo hi H Q=> ∃a xs,x= .ref a/\H a=some (.tup xs)/\NewX K H (cutV xs lo hi) Q
theorem zdv:SlR X (rSlX X.K):=by
 intro pins s σ H x v vl vu lo hi sl Q I rx hs pl pu h
 obtain⟨a,xs,rfl,hx0,q⟩:=h
 have hx:SqT X.K H a xs:=SqT.of hx0
 by_cases hw:HT.sIx xs.length 0 lo=0/\HT.sIx xs.length xs.length hi=xs.length
 ·cases rx
  obtain⟨its,r,ht,hz⟩:=I.tuple hx
  have hlen:its.toArray.size=xs.length:=by rw[List.size_toArray];exact r.length.symm
  refine⟨"tuple",_,PyProof.Rows.slot_tuple_getitem.lookup,ht.typeIs, ?_⟩
  refine HT.getItem_tuple_whole ht hs pl pu (by rw[hlen];exact hw) ⟨.ref a,H,I,rfl,q a H (.inl ⟨rfl, ?_⟩)⟩
  rw[z8S hw]
  exact hx0
 ·exact zff pins s σ H _ v vl vu lo hi sl Q I rx hs pl pu ⟨a,xs,rfl,hx,hw,fun p hp=>q p _ (.inr ⟨hp,rfl⟩)⟩
noncomputable def zdw(K:W.Frag):R2:=fun x y H Q=> ∃a b xs ys,x= .ref a/\y= .ref b/\H a=some (.tup xs)/\H b=some (.tup ys)/\xs.length+ys.length<=sizeLine/\NewX K H (xs++ys) Q
theorem zdx:OpR X (binaryOp .Add) (zdw X.K):=by
 intro pins s σ H x y v u Q I rx ry h
 obtain⟨a,b,xs,ys,rfl,rfl,ha0,hb0,hz,q⟩:=h
 have ha:SqT X.K H a xs:=SqT.of ha0
 have hb:SqT X.K H b ys:=SqT.of hb0
 by_cases hx:xs=[]
 ·subst hx
  cases rx
  cases ry
  obtain⟨its,r1,p1,_⟩:=I.tuple ha
  obtain⟨its2,r2,p2,_⟩:=I.tuple hb
  have e0:its=[]:=(Vals.nil_iff r1).mpr rfl
  subst e0
  obtain⟨⟨cls,dd,data,sl⟩,ho,hc,n,hd⟩:=id p1
  obtain⟨⟨cls2,dd2,data2,sl2⟩,ho2,hc2,n2,hd2⟩:=id p2
  simp only at hc hd hc2 hd2
  subst hc hd hc2 hd2
  exact concat_meets ⟨_,ho,rfl⟩ ⟨_,ho2,rfl⟩ noFill_tuple_add seq_tuple_add PySem.F.slot_tuple_add PySem.F.entry_tuple_add (PySem.F.args_tuple_add_2 _ _)
   (tuple_addW0 a b _ _ n n2 dd dd2 sl sl2 (by simp)) ⟨ho,ho2, .ref b,H,I,rfl,q b H (.inl ⟨rfl,hb0⟩)⟩
 ·refine zdp pins s σ H _ _ v u Q I rx ry ⟨a,b,xs,ys,rfl,rfl,ha,hb,hx,hz,fun e=> ?_,fun _ p hp=>q p _ (.inr ⟨hp,rfl⟩)⟩
  refine q a H (.inl ⟨rfl, ?_⟩)
  rw[e,List.append_nil]
  exact ha0
theorem z9I:CallR X (.type "tuple") (fun xs H Q=> ∃(p:Addr) (ys:List V),xs=[.ref p]/\(SqL X.K H p ys\/H p=some (.tup ys))/\NewX X.K H ys Q):=by
 intro pins s σ H xs us Q I r h
 obtain⟨p,ys,rfl,hs,q⟩:=h
 refine z5V pins s σ H _ us Q I r ⟨p,ys,rfl, ?_⟩
 rcases hs with hs|hs
 ·exact .inl ⟨hs,fun l hl=>q l _ (.inr ⟨hl,rfl⟩)⟩
 ·exact .inr ⟨SqT.of hs,q p H (.inl ⟨rfl,hs⟩)⟩
end
end L2
namespace PyProof.Rows
open PySem
section
variable{prog:Program}{w:World}{A:Around}{E:Value->Shared->Prop}{s:Shared}
theorem z4K{h h':Heap}{t:Addr}{items:Array Value}(hl:h.IsList t items)(k: ∀o,h.get? t=some o->h'.get? t=some o):h'.IsList t items:=by
 obtain⟨o,ho,hc,n,hd⟩:=hl
 exact⟨o,k o ho,hc,n,hd⟩
theorem z6P{it t:Addr}{items:Array Value}(hne:t≠it): ∀(n i:Nat) (s:Shared) (Q:List Value->Shared->Prop),s.heap.IsListIter it t i->s.heap.IsList t items->i+n<=items.size->
 (∀h',h'.IsListIter it t (i+n)->Heap.SameBut it s.heap h'->Q ((items.toList.drop i).take n) {s with heap:=h'})->wpAny (model prog w) A (draw (.ref it) n) Q E s
 |0,i,s,Q,hit,_,_,hQ=>by
  show wpAny _ _ (pure []) Q E s
  exact wpAny_pure (by simpa using hQ s.heap hit (Heap.SameBut.refl ..))
 |n+1,i,s,Q,hit,ht,hle,hQ=>by
  have hlt:i<items.size:=by lia
  show wpAny _ _ (pyNext (.ref it)>>=_) Q E s
  refine wpAny_bind (wpAny_pyNext_list_item hit ht (x:=items[i]) (by simp[hlt]) fun h₁ hit₁ hs₁=> ?_)
  refine wpAny_bind (wpAny_holding (z6P hne n (i+1) _ _ hit₁ (z4K ht fun o e=>(hs₁.2 t hne).trans e) (by lia) fun h₂ hit₂ hs₂=>wpAny_pure ?_))
  have hd:items.toList.drop i=items[i]::items.toList.drop (i+1):=by simp[List.drop_eq_getElem_cons,hlt]
  have:=hQ h₂ (by rw[show i+(n+1)=i+1+n by lia];exact hit₂) (hs₁.trans hs₂)
  rw[hd,List.take_succ_cons] at this
  exact this
theorem z4s{t:Addr}{items:Array Value}{Q:List Value->Shared->Prop}(hh:A.handled=none)(ht:s.heap.IsList t items)
 (hQ: ∀h',Heap.ExtBut s.heap.objs.size s.heap h'->Q items.toList {s with heap:=h'}):wpAny (model prog w) A (unpackItems (.ref t) items.size none) Q E s:=by
 have hlt:t≠s.heap.objs.size:=by obtain⟨o,ho,_⟩:=ht;exact Nat.ne_of_lt (Heap.lt_size ho)
 have hT:s.TypeIs (.ref t) "list" :=by obtain⟨o,ho,hc,_⟩:=ht;exact⟨o,ho,hc⟩
 unfold unpackItems
 refine wpAny_bind ?_
 ·unfold notIterableAtAll
  refine wpAny_bind (wpAny_specialOf hT PySem.F.slot_list_iter.lookup ?_)
  refine wpAny_pure ?_
  simp only[Bool.false_eq_true,if_false]
  refine wpAny_bind (wpAny_holding (wpAny_pyIter_list ht ?_))
  refine wpAny_bind (wpAny_holding (z6P hlt items.size 0 _ _ ⟨_,Heap.get?_push_size _ rfl,rfl,rfl⟩ (z4K ht fun o e=>Heap.get?_push_of_some _ e) (by lia) fun h₁ hit₁ hs₁=> ?_))
  have hall:List.take items.size (List.drop 0 items.toList)=items.toList:=by
   rw[List.drop_zero];exact List.take_of_length_le (by simp)
  rw[hall]
  rw[if_neg (by simp)]
  have ht₁:h₁.IsList t items:=z4K ht fun o e=>(hs₁.2 t hlt).trans (Heap.get?_push_of_some _ e)
  refine wpAny_bind (wpAny_holding (wpAny_pyNext_list_end hh hit₁ ht₁ (by simp) fun h₂ he₂=> ?_))
  simp only[Option.isSome_none,Bool.false_eq_true,if_false]
  refine wpAny_pure (hQ h₂ fun b o hb e=>he₂ b o hb (hs₁.extBut b o hb (Heap.get?_push_of_some _ e)))
theorem z3Y{env:Env}{elts:List Expr}{x1}{pos:Pos}{t:Addr}{items:Array Value}{Q:Unit->Shared->Prop}(hh:A.handled=none)(ht:s.heap.IsList t items)
 (hn:(assignEach elts env).length=items.size) (hstar:(assignEach elts env).findIdx? (·.1)=none)
 (h: ∀h',Heap.ExtBut s.heap.objs.size s.heap h'->wpAny (model prog w) A (assignInOrder ((assignEach elts env).map (·.2)) items.toList) Q E {s with heap:=h'}):
 wpAny (model prog w) A (assign (.Tuple elts x1 pos) env (.ref t)) Q E s:=by
 rw[assign_Tuple]
 refine wpAny_bind (wpAny_standAt ?_)
 unfold unpack
 rw[hn,hstar]
 exact wpAny_bind (wpAny_holding (z4s hh ht h))
end
end PyProof.Rows
namespace L2
open PySem PySem.Spec PyProof.Rows
section
variable{X:Cx}{pos:Pos}
noncomputable def gSeq(K:W.Frag)(n:Nat)(t:TGs):TG:=fun v σ H Q=> ∃a xs,v= .ref a/\(SqT K H a xs\/SqL K H a xs)/\xs.length=n/\t xs σ H Q
theorem zfq{es:List Expr}{k:Nat}{t:TGs}{n:Nat}(hc:X.calm=true)(h:PGs X es t)
 (hn:(assignEach es X.env).length=n:=by rfl) (hst:(assignEach es X.env).findIdx? (·.1)=none:=by rfl):PG X (.Tuple es k pos) (gSeq X.K n t):=by
 intro pins s σ H v u Q I r hw
 obtain⟨a,xs,e1,hq|hq,hl,hw⟩:=hw
 ·exact zf0 hc h hn hst pins s σ H v u Q I r ⟨a,xs,e1,hq,hl,hw⟩
 ·subst e1
  cases r
  obtain⟨its,rv,ht,hz⟩:=I.list hq
  refine z3Y (I.ok.hd hc) ht.isList (by simp[hn,<-hl,rv.length]) hst fun h' hx=> ?_
  have I1:Inv X pins σ H {s with heap:=h'}:=I.kept (t':=s.toks) fun b o e=>hx b o (Nat.ne_of_lt (Heap.lt_size e)) e
  exact h pins _ σ H xs _ Q I1 (by simpa using rv) hw
end
theorem z4t:fillsNumberSlot (.type "tuple") "mul" =pure false:=
 PySem.fillsNumberSlot_seq (id:= "tuple.__mul__") (r:=some (.builtin "tuple.__rmul__")) F.slot_tuple_mul.lookup (by decide+kernel) F.slot_tuple_rmul.lookup (by decide+kernel)
theorem z6Q:seqRepeat? (.type "tuple")=pure (some (.builtin "tuple.__mul__")):=by
 unfold seqRepeat?
 rw[PySem.seqSlot_of (T:= "tuple") (name:= "__mul__") (id:= "tuple.__mul__") F.slot_tuple_mul.lookup (by decide+kernel),PySem.seqSlot_of (T:= "tuple") (name:= "__rmul__") (id:= "tuple.__rmul__") F.slot_tuple_rmul.lookup (by decide+kernel)]
 rfl
theorem z5i(a:Int)(t:Tok)(l:Addr)(items:Array Value)(n:Nat)(dd:Option Addr)(sl:Array (Option Value)):
 Meets (Builtin.«int.__rmul__» ⟨[.int a t, .ref l],[]⟩) (fun _ R s=>s.heap.get? l=some {cls:= .type "tuple",dict:=dd,data:= .seq items n,slots:=sl}/\R (.ok (.ret Value.notImplemented)) s):=
 .of_wp fun prog w A R s h=>by obtain⟨hp,g,d,tk,os⟩:=s;obtain⟨hl,h⟩:=h;wp_walk;exact⟨_,rfl,h⟩
theorem z8U(l:Addr)(items:Array Value)(n:Nat)(dd:Option Addr)(sl:Array (Option Value))(x:Int)(u:Tok)(hc0: ¬(decide (x< -(2^63))||decide (x≥2^63))=true)(hc1: ¬(items.isEmpty||x==1)=true)(hc2: ¬(decide (x<=0)||items.isEmpty)=true)(hc3: ¬((items.size:Int)*x>(2^63 - 1)/8))(hc4: ¬Builtin.Tuple.tupleTooMany ((items.size:Int)*x)=true)(hsz:(List.foldl (fun x1 x2=>x1++x2) #[] (List.replicate x.toNat items)).size<=sizeLine):
 Meets (Builtin.«tuple.__mul__» ⟨[.ref l, .int x u],[]⟩) (fun _ R s=>s.heap.get? l=some {cls:= .type "tuple",dict:=dd,data:= .seq items n,slots:=sl}/\R (.ok (.ret (Value.ref s.heap.objs.size))) {s with heap:=s.heap.push {cls:=Value.type "tuple",data:=Data.seq (List.foldl (fun x1 x2=>x1++x2) #[] (List.replicate x.toNat items))},toks:=s.toks}):=
 .of_wp fun prog w A R s h=>by
  obtain⟨hp,g,d,tk,os⟩:=s;obtain⟨hl,h⟩:=h
  have f1:=AutoSeq1.idx_int;have f2:=AutoSeq1.sub_tuple_tuple
  wp_walk using AutoSeq1.wpAny_loadPart' hl
  rw[if_neg hc0]
  wp_walk using AutoSeq1.wpAny_loadPart' hl
  rw[if_neg hc3]
  wp_walk using AutoSeq1.wpAny_loadPart' hl
  exact⟨_,rfl,h⟩
section
variable{X:Cx}
noncomputable def zdy(K:W.Frag):R2:=fun x y H Q=> ∃a k xs,x= .ref a/\y= .int k/\SqT K H a xs/\0<xs.length/\2<=k/\k<2^63/\xs.length*k.toNat<=sizeLine/\
 ∀p,H p=none->Q (.ref p) (upd H p (.tup (List.replicate k.toNat xs).flatten))
theorem zdz:OpR X (binaryOp .Mult) (zdy X.K):=by
 intro pins s σ H x y v u Q I rx ry h
 obtain⟨a,k,xs,rfl,rfl,ha,h0,h1,h2,hz,q⟩:=h
 cases rx
 obtain⟨t,rfl⟩:=ry
 obtain⟨its,r,p1,_⟩:=I.tuple ha
 obtain⟨⟨cls,dd,data,sl⟩,e,hc,n,hd⟩:=id p1
 simp only at hc hd
 subst hc hd
 have hlen:its.length=xs.length:=r.length.symm
 have hne:its.toArray.isEmpty=false:=by
  cases its with
  |nil=>simp at hlen;lia
  |cons a r=>simp
 have hnew:List.foldl (fun x1 x2=>x1++x2) #[] (List.replicate k.toNat its.toArray)=(List.replicate k.toNat its).flatten.toArray:=by
  have:=z4F its k.toNat []
  rw[List.nil_append] at this
  exact this
 have hl2:((its.toArray.size:Nat):Int)*k=((xs.length*k.toNat:Nat):Int):=by
  rw[List.size_toArray,hlen,Int.natCast_mul,Int.toNat_of_nonneg (by lia)]
 have hs:(sizeLine:Nat)=16777216:=rfl
 refine wpAny_binaryOp_repeat_ref (T:= "tuple") (U:= "int") (by decide) ⟨_,e,rfl⟩ (fun s'=>typeIs_int s' k t) z4t F.fills_int_mul F.slot_int_rmul z6Q F.slot_int_index.lookup
  (call_meets F.slot_int_rmul (typeIs_int s k t) F.entry_int_rmul (F.args_int_rmul_2 _ _) (z5i k t a its.toArray n dd sl)
   ⟨e,rfl,⟨_,e,rfl⟩,call_meets F.slot_tuple_mul ⟨_,e,rfl⟩ F.entry_tuple_mul (F.args_tuple_mul_2 _ _) (z8U a its.toArray n dd sl k t (by simp;lia) (by rw[hne];simp;lia) (by rw[hne];simp;lia) (by rw[hl2];clear hl2;generalize xs.length*k.toNat=m at hz⊢;lia) (by rw[hl2];clear hl2;generalize xs.length*k.toNat=m at hz⊢;unfold Builtin.Tuple.tupleTooMany;rw[decide_eq_true_eq];lia) (by rw[hnew,List.size_toArray,z7n,hlen,Nat.mul_comm];exact hz)) ⟨e, ?_⟩⟩)
 rw[hnew]
 refine⟨.ref s.heap.objs.size,_,I.laid (t':=s.toks) (o:= .tup (List.replicate k.toNat xs).flatten) (fun b ob q=>Heap.get?_push_of_some _ q) (Nat.le_refl _) ?_,rfl,q _ (I.hok.fresh (Nat.le_refl _))⟩
 exact⟨by rw[z7n,Nat.mul_comm];exact hz,_,r.rep k.toNat,IsTup.new _ _⟩
end
end L2
namespace Mi
open PySem L2
inductive D where
 |non|bool (b:Bool)|int (i:Int)|str (x:Str)
 |tup (ds:List D)|ro (ds:List D)|lst (l:Nat) (ds:List D)
 |dct (l:Nat) (ks vs:List D)|obj (l:Nat) (c:Str) (ns:List Str) (vs:List D)
 |exc (c:Str)|fn (c:Str)|fdc (ks vs:List D)
deriving Inhabited
mutual
noncomputable def labs:D->List Nat
 | .tup ds=>labsL ds
 | .ro ds=>labsL ds
 | .fdc _ vs=>labsL vs
 | .lst l ds=>l::labsL ds
 | .dct l ks vs=>l::(labsL ks++labsL vs)
 | .obj l _ _ vs=>l::labsL vs
 | .non=>[]| .bool _=>[]| .int _=>[]| .str _=>[]| .exc _=>[]| .fn _=>[]
noncomputable def labsL:List D->List Nat
 |[]=>[]
 |d::ds=>labs d++labsL ds
end
noncomputable def z04:List (Option D)->List Nat
 |[]=>[]
 |none::r=>z04 r
 |some d::r=>labs d++z04 r
structure Gx where
 K:W.Frag
 cl:Str->Option Addr
 ci: ∀c c' a,cl c=some a->cl c'=some a->c=c'
 ck: ∀c a,cl c=some a->∃o,K.lookup a=some o/\∀its n,o.data≠ .seq its n
noncomputable def keyD:Key->D
 | .inl i=> .int i
 | .inr x=> .str x
noncomputable def nkD:Key⊕List Key->D
 | .inl k=>keyD k
 | .inr ks=> .tup (ks.map keyD)
noncomputable def dkD(k:NK):D:= .tup (k.map nkD)
noncomputable def RoL(K:W.Frag)(H:Hp)(a:Addr)(xs:List V):Prop:=
 (∃o,H a=some (.frz o (.lst xs)))\/∃(o:Obj) (its:Array Value) (n:Nat),K.lookup a=some o/\o.cls= .type "list" /\o.dict=none/\o.data= .seq its n/\its.size<=sizeLine/\Vals xs its.toList
theorem RoL.sq{K:W.Frag}{H:Hp}{a:Addr}{xs:List V}(h:RoL K H a xs):SqL K H a xs:=by
 rcases h with⟨o,h⟩|h
 ·exact .inl (.inr ⟨o,h⟩)
 ·exact .inr h
mutual
noncomputable def RD(G:Gx)(ρ:Nat->Addr)(H:Hp):D->V->Prop
 | .non,v=>v= .non
 | .bool b,v=>v= .bl b
 | .int i,v=>v= .int i
 | .str x,v=>v= .str x
 | .exc c,v=> ∃a o C,v= .ref a/\G.cl c=some C/\o.cls= .ref C/\(∃vs,o.data= .fields vs)/\H a=some (.frz o (.ext fun _=>True))
 | .fn c,v=> ∃a,v= .ref a/\G.cl c=some a
 | .tup ds,v=> ∃a xs,v= .ref a/\H a=some (.tup xs)/\RDs G ρ H ds xs
 | .ro ds,v=> ∃a xs,v= .ref a/\RoL G.K H a xs/\RDs G ρ H ds xs
 | .fdc ks vs,v=> ∃(a:Addr) (o:Obj) (kvs:List (NK×V)),v= .ref a/\H a=some (.frz o (.dT kvs))/\ks=kvs.map (fun p=>dkD p.1)/\RDs G ρ H vs (kvs.map (·.2))
 | .lst l ds,v=>v= .ref (ρ l)/\∃xs,H (ρ l)=some (.lst xs)/\RDs G ρ H ds xs
 | .dct l ks vs,v=>v= .ref (ρ l)/\((∃kvs:List (Key×V),H (ρ l)=some (.dK kvs)/\ks=D.non::kvs.map (fun p=>keyD p.1)/\RDs G ρ H vs (kvs.map (·.2)))\/
  (∃kvs:List (NK×V),H (ρ l)=some (.dT kvs)/\ks=kvs.map (fun p=>dkD p.1)/\RDs G ρ H vs (kvs.map (·.2))))
 | .obj l c ns vs,v=>v= .ref (ρ l)/\∃C dx fs,G.cl c=some C/\H (ρ l)=some (.ins C dx fs)/\ns=fs.map (·.1)/\RDs G ρ H vs (fs.map (·.2))
noncomputable def RDs(G:Gx)(ρ:Nat->Addr)(H:Hp):List D->List V->Prop
 |[],xs=>xs=[]
 |d::ds,xs=> ∃x r,xs=x::r/\RD G ρ H d x/\RDs G ρ H ds r
end
structure z1x(H H':Hp):Prop where
 t: ∀b xs,H b=some (.tup xs)->H' b=some (.tup xs)
 f: ∀b o u,H b=some (.frz o u)->H' b=some (.frz o u)
theorem z1x.refl(H:Hp):z1x H H:=⟨fun _ _ h=>h,fun _ _ _ h=>h⟩
theorem z1x.of{H H':Hp}(h:Same H H'):z1x H H':=⟨fun _ _ e=>h _ _ e,fun _ _ _ e=>h _ _ e⟩
theorem z1x.ro{K:W.Frag}{H H':Hp}(t:z1x H H'){a:Addr}{xs:List V}(h:RoL K H a xs):RoL K H' a xs:=by
 rcases h with⟨o,h⟩|h
 ·exact .inl ⟨o,t.f _ _ _ h⟩
 ·exact .inr h
section
variable{G:Gx}{ρ ρ':Nat->Addr}{H H':Hp}
mutual
theorem RD.stay(ts:z1x H H'): ∀(t:D) (v:V),RD G ρ H t v->(∀l∈labs t,ρ' l=ρ l/\∀o,H (ρ l)=some o->H' (ρ l)=some o)->RD G ρ' H' t v
 | .non,v,h,_=>by simp only[RD] at h⊢;exact h
 | .bool b,v,h,_=>by simp only[RD] at h⊢;exact h
 | .int b,v,h,_=>by simp only[RD] at h⊢;exact h
 | .str b,v,h,_=>by simp only[RD] at h⊢;exact h
 | .exc b,v,h,_=>by
  simp only[RD] at h⊢
  obtain⟨a,o,C,e,h1,h2,h3,h5⟩:=h
  exact⟨a,o,C,e,h1,h2,h3,ts.f _ _ _ h5⟩
 | .fn b,v,h,_=>by simp only[RD] at h⊢;exact h
 | .tup ds,v,h,hl=>by
  simp only[RD,labs] at h hl⊢
  obtain⟨a,xs,e,s,r⟩:=h
  exact⟨a,xs,e,ts.t _ _ s,RDs.stay ts ds xs r hl⟩
 | .ro ds,v,h,hl=>by
  simp only[RD,labs] at h hl⊢
  obtain⟨a,xs,e,s,r⟩:=h
  exact⟨a,xs,e,ts.ro s,RDs.stay ts ds xs r hl⟩
 | .fdc ks vs,v,h,hl=>by
  simp only[RD,labs] at h hl⊢
  obtain⟨a,o,kvs,e,s,s2,r⟩:=h
  exact⟨a,o,kvs,e,ts.f _ _ _ s,s2,RDs.stay ts vs _ r hl⟩
 | .lst l ds,v,h,hl=>by
  simp only[RD,labs] at h hl⊢
  obtain⟨e,xs,s,r⟩:=h
  obtain⟨e1,e2⟩:=hl l (List.mem_cons_self ..)
  rw[e1]
  exact⟨e,xs,e2 _ s,RDs.stay ts ds xs r fun k hk=>hl k (List.mem_cons_of_mem _ hk)⟩
 | .dct l ks vs,v,h,hl=>by
  simp only[RD,labs] at h hl⊢
  obtain⟨e,s⟩:=h
  obtain⟨e1,e2⟩:=hl l (List.mem_cons_self ..)
  rw[e1]
  refine⟨e, ?_⟩
  rcases s with⟨kvs,s,s2,r⟩|⟨kvs,s,s2,r⟩
  ·exact .inl ⟨kvs,e2 _ s,s2,RDs.stay ts vs _ r fun k hk=>hl k (List.mem_cons_of_mem _ (List.mem_append_right _ hk))⟩
  ·exact .inr ⟨kvs,e2 _ s,s2,RDs.stay ts vs _ r fun k hk=>hl k (List.mem_cons_of_mem _ (List.mem_append_right _ hk))⟩
 | .obj l c ns vs,v,h,hl=>by
  simp only[RD,labs] at h hl⊢
  obtain⟨e,C,dx,fs,hC,s,s2,r⟩:=h
  obtain⟨e1,e2⟩:=hl l (List.mem_cons_self ..)
  rw[e1]
  exact⟨e,C,dx,fs,hC,e2 _ s,s2,RDs.stay ts vs _ r fun k hk=>hl k (List.mem_cons_of_mem _ hk)⟩
theorem RDs.stay(ts:z1x H H'): ∀(t:List D) (v:List V),RDs G ρ H t v->(∀l∈labsL t,ρ' l=ρ l/\∀o,H (ρ l)=some o->H' (ρ l)=some o)->RDs G ρ' H' t v
 |[],v,h,_=>by simp only[RDs] at h⊢;exact h
 |d::ds,v,h,hl=>by
  simp only[RDs,labsL] at h hl⊢
  obtain⟨x,r,e,h1,h2⟩:=h
  exact⟨x,r,e,RD.stay ts d x h1 fun l hk=>hl l (List.mem_append_left _ hk),RDs.stay ts ds r h2 fun l hk=>hl l (List.mem_append_right _ hk)⟩
end
end
mutual
noncomputable def rp(f:Nat->Option D):D->D
 | .tup ds=> .tup (rpL f ds)
 | .ro ds=> .ro (rpL f ds)
 | .fdc ks vs=> .fdc ks (rpL f vs)
 | .lst l ds=>match f l with|some d=>d|none=> .lst l (rpL f ds)
 | .dct l ks vs=>match f l with|some d=>d|none=> .dct l ks (rpL f vs)
 | .obj l c ns vs=>match f l with|some d=>d|none=> .obj l c ns (rpL f vs)
 | .non=> .non| .bool b=> .bool b| .int i=> .int i| .str x=> .str x| .exc x=> .exc x| .fn x=> .fn x
noncomputable def rpL(f:Nat->Option D):List D->List D
 |[]=>[]
 |d::ds=>rp f d::rpL f ds
end
noncomputable def rpO(f:Nat->Option D):List (Option D)->List (Option D)
 |[]=>[]
 |none::r=>none::rpO f r
 |some d::r=>some (rp f d)::rpO f r
section
variable{f:Nat->Option D}
mutual
theorem zdA: ∀t:D,(∀l∈labs t,f l=none)->rp f t=t
 | .non,_=>rfl
 | .bool b,_=>rfl
 | .int b,_=>rfl
 | .str b,_=>rfl
 | .exc b,_=>rfl
 | .fn b,_=>rfl
 | .tup ds,h=>by simp only[rp,labs] at h⊢;rw[rpL_id ds h]
 | .ro ds,h=>by simp only[rp,labs] at h⊢;rw[rpL_id ds h]
 | .fdc ks vs,h=>by simp only[rp,labs] at h⊢;rw[rpL_id vs h]
 | .lst l ds,h=>by
  simp only[rp,labs] at h⊢
  rw[h l (List.mem_cons_self ..),rpL_id ds fun k hk=>h k (List.mem_cons_of_mem _ hk)]
 | .dct l ks vs,h=>by
  simp only[rp,labs] at h⊢
  rw[h l (List.mem_cons_self ..),rpL_id vs fun k hk=>h k (List.mem_cons_of_mem _ (List.mem_append_right _ hk))]
 | .obj l c ns vs,h=>by
  simp only[rp,labs] at h⊢
  rw[h l (List.mem_cons_self ..),rpL_id vs fun k hk=>h k (List.mem_cons_of_mem _ hk)]
theorem rpL_id: ∀t:List D,(∀l∈labsL t,f l=none)->rpL f t=t
 |[],_=>rfl
 |d::ds,h=>by
  simp only[rpL,labsL] at h⊢
  rw[zdA d fun l hk=>h l (List.mem_append_left _ hk),rpL_id ds fun l hk=>h l (List.mem_append_right _ hk)]
end
theorem z9J: ∀t:List (Option D),(∀l∈z04 t,f l=none)->rpO f t=t
 |[],_=>rfl
 |none::r,h=>by simp only[rpO,z04] at h⊢;rw[z9J r h]
 |some d::r,h=>by
  simp only[rpO,z04] at h⊢
  rw[zdA d fun l hk=>h l (List.mem_append_left _ hk),z9J r fun l hk=>h l (List.mem_append_right _ hk)]
end
section
variable{G:Gx}{ρ ρ':Nat->Addr}{H H':Hp}{f:Nat->Option D}
mutual
theorem RD.rp(ts:z1x H H'): ∀(t:D) (v:V),RD G ρ H t v->(∀l∈labs t,ρ' l=ρ l/\(match f l with|some d=>RD G ρ' H' d (.ref (ρ l))|none=> ∀o,H (ρ l)=some o->H' (ρ l)=some o))->RD G ρ' H' (rp f t) v
 | .non,v,h,_=>by simp only[Mi.rp,RD] at h⊢;exact h
 | .bool b,v,h,_=>by simp only[Mi.rp,RD] at h⊢;exact h
 | .int b,v,h,_=>by simp only[Mi.rp,RD] at h⊢;exact h
 | .str b,v,h,_=>by simp only[Mi.rp,RD] at h⊢;exact h
 | .exc b,v,h,_=>by
  simp only[Mi.rp,RD] at h⊢
  obtain⟨a,o,C,e,h1,h2,h3,h5⟩:=h
  exact⟨a,o,C,e,h1,h2,h3,ts.f _ _ _ h5⟩
 | .fn b,v,h,_=>by simp only[Mi.rp,RD] at h⊢;exact h
 | .tup ds,v,h,hl=>by
  simp only[Mi.rp,RD,labs] at h hl⊢
  obtain⟨a,xs,e,s,r⟩:=h
  exact⟨a,xs,e,ts.t _ _ s,RDs.rp ts ds xs r hl⟩
 | .ro ds,v,h,hl=>by
  simp only[Mi.rp,RD,labs] at h hl⊢
  obtain⟨a,xs,e,s,r⟩:=h
  exact⟨a,xs,e,ts.ro s,RDs.rp ts ds xs r hl⟩
 | .fdc ks vs,v,h,hl=>by
  simp only[Mi.rp,RD,labs] at h hl⊢
  obtain⟨a,o,kvs,e,s,s2,r⟩:=h
  exact⟨a,o,kvs,e,ts.f _ _ _ s,s2,RDs.rp ts vs _ r hl⟩
 | .lst l ds,v,h,hl=>by
  simp only[Mi.rp,RD,labs] at h hl⊢
  obtain⟨e,xs,s,r⟩:=h
  obtain⟨e1,e2⟩:=hl l (List.mem_cons_self ..)
  cases ef:f l with
  |some d=>rw[ef] at e2;subst e;exact e2
  |none=>
   rw[ef] at e2
   simp only[RD]
   rw[e1]
   exact⟨e,xs,e2 _ s,RDs.rp ts ds xs r fun k hk=>hl k (List.mem_cons_of_mem _ hk)⟩
 | .dct l ks vs,v,h,hl=>by
  simp only[Mi.rp,RD,labs] at h hl⊢
  obtain⟨e,s⟩:=h
  obtain⟨e1,e2⟩:=hl l (List.mem_cons_self ..)
  cases ef:f l with
  |some d=>rw[ef] at e2;subst e;exact e2
  |none=>
   rw[ef] at e2
   simp only[RD]
   rw[e1]
   refine⟨e, ?_⟩
   rcases s with⟨kvs,s,s2,r⟩|⟨kvs,s,s2,r⟩
   ·exact .inl ⟨kvs,e2 _ s,s2,RDs.rp ts vs _ r fun k hk=>hl k (List.mem_cons_of_mem _ (List.mem_append_right _ hk))⟩
   ·exact .inr ⟨kvs,e2 _ s,s2,RDs.rp ts vs _ r fun k hk=>hl k (List.mem_cons_of_mem _ (List.mem_append_right _ hk))⟩
 | .obj l c ns vs,v,h,hl=>by
  simp only[Mi.rp,RD,labs] at h hl⊢
  obtain⟨e,C,dx,fs,hC,s,s2,r⟩:=h
  obtain⟨e1,e2⟩:=hl l (List.mem_cons_self ..)
  cases ef:f l with
  |some d=>rw[ef] at e2;subst e;exact e2
  |none=>
   rw[ef] at e2
   simp only[RD]
   rw[e1]
   exact⟨e,C,dx,fs,hC,e2 _ s,s2,RDs.rp ts vs _ r fun k hk=>hl k (List.mem_cons_of_mem _ hk)⟩
theorem RDs.rp(ts:z1x H H'): ∀(t:List D) (v:List V),RDs G ρ H t v->(∀l∈labsL t,ρ' l=ρ l/\(match f l with|some d=>RD G ρ' H' d (.ref (ρ l))|none=> ∀o,H (ρ l)=some o->H' (ρ l)=some o))->RDs G ρ' H' (rpL f t) v
 |[],v,h,_=>by simp only[rpL,RDs] at h⊢;exact h
 |d::ds,v,h,hl=>by
  simp only[rpL,RDs,labsL] at h hl⊢
  obtain⟨x,r,e,h1,h2⟩:=h
  exact⟨x,r,e,RD.rp ts d x h1 fun l hk=>hl l (List.mem_append_left _ hk),RDs.rp ts ds r h2 fun l hk=>hl l (List.mem_append_right _ hk)⟩
end
end
section
variable{f:Nat->Option D}
mutual
theorem z9K(l:Nat): ∀t:D,l∈labs (rp f t)->l∈labs t\/∃k d,k∈labs t/\f k=some d/\l∈labs d
 | .non,h=>by simp only[rp,labs] at h;cases h
 | .bool b,h=>by simp only[rp,labs] at h;cases h
 | .int b,h=>by simp only[rp,labs] at h;cases h
 | .str b,h=>by simp only[rp,labs] at h;cases h
 | .exc b,h=>by simp only[rp,labs] at h;cases h
 | .fn b,h=>by simp only[rp,labs] at h;cases h
 | .tup ds,h=>by
  simp only[rp,labs] at h⊢
  exact labsL_rp l ds h
 | .ro ds,h=>by
  simp only[rp,labs] at h⊢
  exact labsL_rp l ds h
 | .fdc ks vs,h=>by
  simp only[rp,labs] at h⊢
  exact labsL_rp l vs h
 | .lst k ds,h=>by
  simp only[rp] at h
  cases e:f k with
  |some d=>rw[e] at h;exact .inr ⟨k,d,by simp only[labs];exact List.mem_cons_self ..,e,h⟩
  |none=>
   rw[e] at h
   simp only[labs] at h⊢
   rcases List.mem_cons.mp h with h|h
   ·exact .inl (List.mem_cons.mpr (.inl h))
   ·rcases labsL_rp l ds h with q|⟨k',d,q1,q2,q3⟩
    ·exact .inl (List.mem_cons_of_mem _ q)
    ·exact .inr ⟨k',d,List.mem_cons_of_mem _ q1,q2,q3⟩
 | .dct k ks vs,h=>by
  simp only[rp] at h
  cases e:f k with
  |some d=>rw[e] at h;exact .inr ⟨k,d,by simp only[labs];exact List.mem_cons_self ..,e,h⟩
  |none=>
   rw[e] at h
   simp only[labs] at h⊢
   rcases List.mem_cons.mp h with h|h
   ·exact .inl (List.mem_cons.mpr (.inl h))
   ·rcases List.mem_append.mp h with h|h
    ·exact .inl (List.mem_cons_of_mem _ (List.mem_append_left _ h))
    ·rcases labsL_rp l vs h with q|⟨k',d,q1,q2,q3⟩
     ·exact .inl (List.mem_cons_of_mem _ (List.mem_append_right _ q))
     ·exact .inr ⟨k',d,List.mem_cons_of_mem _ (List.mem_append_right _ q1),q2,q3⟩
 | .obj k c ns vs,h=>by
  simp only[rp] at h
  cases e:f k with
  |some d=>rw[e] at h;exact .inr ⟨k,d,by simp only[labs];exact List.mem_cons_self ..,e,h⟩
  |none=>
   rw[e] at h
   simp only[labs] at h⊢
   rcases List.mem_cons.mp h with h|h
   ·exact .inl (List.mem_cons.mpr (.inl h))
   ·rcases labsL_rp l vs h with q|⟨k',d,q1,q2,q3⟩
    ·exact .inl (List.mem_cons_of_mem _ q)
    ·exact .inr ⟨k',d,List.mem_cons_of_mem _ q1,q2,q3⟩
theorem labsL_rp(l:Nat): ∀t:List D,l∈labsL (rpL f t)->l∈labsL t\/∃k d,k∈labsL t/\f k=some d/\l∈labs d
 |[],h=>by simp only[rpL,labsL] at h;cases h
 |d::ds,h=>by
  simp only[rpL,labsL] at h⊢
  rcases List.mem_append.mp h with h|h
  ·rcases z9K l d h with q|⟨k',d,q1,q2,q3⟩
   ·exact .inl (List.mem_append_left _ q)
   ·exact .inr ⟨k',d,List.mem_append_left _ q1,q2,q3⟩
  ·rcases labsL_rp l ds h with q|⟨k',d,q1,q2,q3⟩
   ·exact .inl (List.mem_append_right _ q)
   ·exact .inr ⟨k',d,List.mem_append_right _ q1,q2,q3⟩
end
theorem z4y(l:Nat): ∀t:List (Option D),l∈z04 (rpO f t)->l∈z04 t\/∃k d,k∈z04 t/\f k=some d/\l∈labs d
 |[],h=>by simp only[rpO,z04] at h;cases h
 |none::r,h=>by simp only[rpO,z04] at h⊢;exact z4y l r h
 |some d::ds,h=>by
  simp only[rpO,z04] at h⊢
  rcases List.mem_append.mp h with h|h
  ·rcases z9K l d h with q|⟨k',d,q1,q2,q3⟩
   ·exact .inl (List.mem_append_left _ q)
   ·exact .inr ⟨k',d,List.mem_append_left _ q1,q2,q3⟩
  ·rcases z4y l ds h with q|⟨k',d,q1,q2,q3⟩
   ·exact .inl (List.mem_append_right _ q)
   ·exact .inr ⟨k',d,List.mem_append_right _ q1,q2,q3⟩
end
structure Stt where
 σ:List (Option D)
 tm:List (Option D)
 n:Nat
structure Fx where
 A0:Addr->Prop
 H0:Hp
 Z:Addr->Prop
 zA: ∀a,Z a->(∃o,H0 a=some o)/\¬A0 a
 aH: ∀a,A0 a->∃o,H0 a=some o
 n0:Nat
 ρ0:Nat->Addr
noncomputable def KD(K:W.Frag)(H:Hp):Prop:= ∀a o,K.lookup a=some o->H a=none
section
variable(G:Gx)(ρ:Nat->Addr)(H:Hp)
noncomputable def Sl:List (Option D)->List (Option V)->Prop
 |[],vs=>vs=[]
 |none::r,vs=> ∃o q,vs=o::q/\Sl r q
 |some d::r,vs=> ∃v q,vs=some v::q/\RD G ρ H d v/\Sl r q
end
noncomputable def z0T(s:Stt):List Nat:=z04 s.σ++z04 s.tm
structure MR(G:Gx)(F:Fx)(ρ:Nat->Addr)(H:Hp)(σv tv:List (Option V))(s:Stt):Prop where
 sl:Sl G ρ H s.σ σv
 tm:Sl G ρ H s.tm tv
 inj: ∀i j,i<s.n->j<s.n->ρ i=ρ j->i=j
 dom: ∀l,l<s.n->∃o,H (ρ l)=some o
 lab: ∀l∈z0T s,l<s.n
 own: ∀l∈z0T s,F.A0 (ρ l)\/F.H0 (ρ l)=none
 frm: ∀a o,F.H0 a=some o->(∃o',H a=some o')/\(¬F.A0 a->H a=some o)
 kd:KD G.K H
 frb: ∀l,l<s.n->¬F.Z (ρ l)
 bas:F.n0<=s.n/\∀l,l<F.n0->ρ l=F.ρ0 l
noncomputable def Stt.psh(s:Stt)(t:D):Stt:={s with tm:=some t::s.tm}
noncomputable def Stt.nxt(s:Stt):Stt:={s with n:=s.n+1}
section
variable{G:Gx}{F:Fx}{ρ ρ':Nat->Addr}{H H':Hp}{σv tv:List (Option V)}{s:Stt}{t:D}{v:V}
theorem Sl.stay(ts:z1x H H'): ∀{σ:List (Option D)} {σv:List (Option V)},Sl G ρ H σ σv->(∀l∈z04 σ,ρ' l=ρ l/\∀o,H (ρ l)=some o->H' (ρ l)=some o)->Sl G ρ' H' σ σv
 |[],_,h,_=>h
 |none::r,_,h,hl=>by
  simp only[Sl,z04] at h hl⊢
  obtain⟨o,q,e,h⟩:=h
  exact⟨o,q,e,Sl.stay ts h hl⟩
 |some d::r,_,h,hl=>by
  simp only[Sl,z04] at h hl⊢
  obtain⟨o,q,e,h1,h⟩:=h
  exact⟨o,q,e,RD.stay ts d o h1 fun l hk=>hl l (List.mem_append_left _ hk),Sl.stay ts h fun l hk=>hl l (List.mem_append_right _ hk)⟩
theorem Sl.rp{f:Nat->Option D}(ts:z1x H H'): ∀{σ:List (Option D)} {σv:List (Option V)},Sl G ρ H σ σv->
 (∀l∈z04 σ,ρ' l=ρ l/\(match f l with|some d=>RD G ρ' H' d (.ref (ρ l))|none=> ∀o,H (ρ l)=some o->H' (ρ l)=some o))->Sl G ρ' H' (rpO f σ) σv
 |[],_,h,_=>h
 |none::r,_,h,hl=>by
  simp only[Sl,z04,rpO] at h hl⊢
  obtain⟨o,q,e,h⟩:=h
  exact⟨o,q,e,Sl.rp ts h hl⟩
 |some d::r,_,h,hl=>by
  simp only[Sl,z04,rpO] at h hl⊢
  obtain⟨o,q,e,h1,h⟩:=h
  exact⟨o,q,e,RD.rp ts d o h1 fun l hk=>hl l (List.mem_append_left _ hk),Sl.rp ts h fun l hk=>hl l (List.mem_append_right _ hk)⟩
theorem Sl.get: ∀{σ:List (Option D)} {σv:List (Option V)},Sl G ρ H σ σv->∀(i:Nat) (d:D),σ[i]? =some (some d)->∃v,σv[i]? =some (some v)/\RD G ρ H d v
 |[],_,_,i,d,e=>by simp at e
 |none::r,_,h,i,d,e=>by
  simp only[Sl] at h
  obtain⟨o,q,rfl,h⟩:=h
  cases i with
  |zero=>simp at e
  |succ i=>simpa using Sl.get h i d (by simpa using e)
 |some d'::r,_,h,i,d,e=>by
  simp only[Sl] at h
  obtain⟨v,q,rfl,h1,h⟩:=h
  cases i with
  |zero=>simp at e;subst e;exact⟨v,rfl,h1⟩
  |succ i=>simpa using Sl.get h i d (by simpa using e)
theorem Sl.length: ∀{σ:List (Option D)} {σv:List (Option V)},Sl G ρ H σ σv->σ.length=σv.length
 |[],_,h=>by simp only[Sl] at h;subst h;rfl
 |none::r,_,h=>by
  simp only[Sl] at h
  obtain⟨o,q,rfl,h⟩:=h
  simp[Sl.length h]
 |some d'::r,_,h=>by
  simp only[Sl] at h
  obtain⟨v,q,rfl,h1,h⟩:=h
  simp[Sl.length h]
theorem Sl.set: ∀{σ:List (Option D)} {σv:List (Option V)} (i:Nat),Sl G ρ H σ σv->RD G ρ H t v->Sl G ρ H (σ.set i (some t)) (σv.set i (some v))
 |[],_,i,h,_=>by simp only[Sl] at h;subst h;simp[Sl]
 |none::r,_,i,h,ht=>by
  simp only[Sl] at h
  obtain⟨o,q,rfl,h⟩:=h
  cases i with
  |zero=>simp only[List.set_cons_zero,Sl];exact⟨_,_,rfl,ht,h⟩
  |succ i=>simp only[List.set_cons_succ,Sl];exact⟨_,_,rfl,Sl.set i h ht⟩
 |some d'::r,_,i,h,ht=>by
  simp only[Sl] at h
  obtain⟨v',q,rfl,h1,h⟩:=h
  cases i with
  |zero=>simp only[List.set_cons_zero,Sl];exact⟨_,_,rfl,ht,h⟩
  |succ i=>simp only[List.set_cons_succ,Sl];exact⟨_,_,rfl,h1,Sl.set i h ht⟩
theorem Sl.append: ∀{σ σ':List (Option D)} {σv σv':List (Option V)},Sl G ρ H σ σv->Sl G ρ H σ' σv'->Sl G ρ H (σ++σ') (σv++σv')
 |[],_,_,_,h,h'=>by simp only[Sl] at h;subst h;exact h'
 |none::r,_,_,_,h,h'=>by
  simp only[Sl] at h
  obtain⟨o,q,rfl,h⟩:=h
  simp only[List.cons_append,Sl];exact⟨_,_,rfl,Sl.append h h'⟩
 |some d'::r,_,_,_,h,h'=>by
  simp only[Sl] at h
  obtain⟨v,q,rfl,h1,h⟩:=h
  simp only[List.cons_append,Sl];exact⟨_,_,rfl,h1,Sl.append h h'⟩
theorem Sl.split: ∀(σv:List (Option V)) {σ:List (Option D)} {tv:List (Option V)},Sl G ρ H σ (σv++tv)->Sl G ρ H (σ.take σv.length) σv/\Sl G ρ H (σ.drop σv.length) tv
 |[],σ,tv,h=>⟨by simp[Sl],by simpa using h⟩
 |o::σv,[],tv,h=>by simp[Sl] at h
 |o::σv,none::r,tv,h=>by
  simp only[List.cons_append,Sl] at h
  obtain⟨o',q,e,h⟩:=h
  cases e
  obtain⟨h1,h2⟩:=Sl.split σv h
  simp only[List.length_cons,List.take_succ_cons,List.drop_succ_cons,Sl]
  exact⟨⟨_,_,rfl,h1⟩,h2⟩
 |o::σv,some d::r,tv,h=>by
  simp only[List.cons_append,Sl] at h
  obtain⟨o',q,e,h0,h⟩:=h
  cases e
  obtain⟨h1,h2⟩:=Sl.split σv h
  simp only[List.length_cons,List.take_succ_cons,List.drop_succ_cons,Sl]
  exact⟨⟨_,_,rfl,h0,h1⟩,h2⟩
theorem z3N: ∀{σ:List (Option D)} {i:Nat} {d:D},σ[i]? =some (some d)->∀l∈labs d,l∈z04 σ
 |[],i,d,e,l,h=>by simp at e
 |none::r,i,d,e,l,h=>by
  simp only[z04]
  cases i with
  |zero=>simp at e
  |succ i=>exact z3N (i:=i) (by simpa using e) l h
 |some d'::r,i,d,e,l,h=>by
  simp only[z04]
  cases i with
  |zero=>simp at e;subst e;exact List.mem_append_left _ h
  |succ i=>exact List.mem_append_right _ (z3N (i:=i) (by simpa using e) l h)
theorem z4L: ∀{σ:List (Option D)} {i:Nat} {d:D} (l:Nat),l∈z04 (σ.set i (some d))->l∈z04 σ\/l∈labs d
 |[],i,d,l,h=>by simp[z04] at h
 |none::r,i,d,l,h=>by
  cases i with
  |zero=>
   simp only[List.set_cons_zero,z04] at h⊢
   rcases List.mem_append.mp h with h|h
   ·exact .inr h
   ·exact .inl h
  |succ i=>
   simp only[List.set_cons_succ,z04] at h⊢
   exact z4L l h
 |some d'::r,i,d,l,h=>by
  cases i with
  |zero=>
   simp only[List.set_cons_zero,z04] at h⊢
   rcases List.mem_append.mp h with h|h
   ·exact .inr h
   ·exact .inl (List.mem_append_right _ h)
  |succ i=>
   simp only[List.set_cons_succ,z04] at h⊢
   rcases List.mem_append.mp h with h|h
   ·exact .inl (List.mem_append_left _ h)
   ·rcases z4L l h with q|q
    ·exact .inl (List.mem_append_right _ q)
    ·exact .inr q
theorem z0c: ∀(σ σ':List (Option D)),z04 (σ++σ')=z04 σ++z04 σ'
 |[],_=>rfl
 |none::r,σ'=>by simp only[List.cons_append,z04,z0c r σ']
 |some d::r,σ'=>by simp only[List.cons_append,z04,z0c r σ',List.append_assoc]
theorem z0r: ∀(σ σ':List D),labsL (σ++σ')=labsL σ++labsL σ'
 |[],_=>rfl
 |d::r,σ'=>by simp only[List.cons_append,labsL,z0r r σ',List.append_assoc]
theorem labsL_mem: ∀{ds:List D} {d:D},d∈ds->∀l∈labs d,l∈labsL ds
 |_::ds,d,h,l,hl=>by
  simp only[labsL]
  rcases List.mem_cons.mp h with rfl|h
  ·exact List.mem_append_left _ hl
  ·exact List.mem_append_right _ (labsL_mem h l hl)
theorem z1y: ∀{ds:List D} {l:Nat},l∈labsL ds->∃d∈ds,l∈labs d
 |d::ds,l,h=>by
  simp only[labsL] at h
  rcases List.mem_append.mp h with h|h
  ·exact⟨d,List.mem_cons_self ..,h⟩
  ·obtain⟨x,h1,h2⟩:=z1y h
   exact⟨x,List.mem_cons_of_mem _ h1,h2⟩
theorem RDs.get: ∀{ds:List D} {xs:List V},RDs G ρ H ds xs->∀(i:Nat) (d:D),ds[i]? =some d->∃x,xs[i]? =some x/\RD G ρ H d x
 |[],_,_,i,d,e=>by simp at e
 |d'::r,_,h,i,d,e=>by
  simp only[RDs] at h
  obtain⟨x,q,rfl,h1,h2⟩:=h
  cases i with
  |zero=>simp at e;subst e;exact⟨x,rfl,h1⟩
  |succ i=>simpa using RDs.get h2 i d (by simpa using e)
theorem RDs.length: ∀{ds:List D} {xs:List V},RDs G ρ H ds xs->ds.length=xs.length
 |[],_,h=>by simp only[RDs] at h;subst h;rfl
 |d'::r,_,h=>by
  simp only[RDs] at h
  obtain⟨x,q,rfl,h1,h2⟩:=h
  simp[RDs.length h2]
theorem RDs.append: ∀{ds es:List D} {xs ys:List V},RDs G ρ H ds xs->RDs G ρ H es ys->RDs G ρ H (ds++es) (xs++ys)
 |[],_,_,_,h,h'=>by simp only[RDs] at h;subst h;exact h'
 |d'::r,_,_,_,h,h'=>by
  simp only[RDs] at h
  obtain⟨x,q,rfl,h1,h2⟩:=h
  simp only[List.cons_append,RDs]
  exact⟨_,_,rfl,h1,RDs.append h2 h'⟩
theorem RDs.one{d:D}{x:V}(h:RD G ρ H d x):RDs G ρ H [d] [x]:=by simp only[RDs];exact⟨_,_,rfl,h,rfl⟩
theorem RDs.take: ∀{ds:List D} {xs:List V} (k:Nat),RDs G ρ H ds xs->RDs G ρ H (ds.take k) (xs.take k)
 |_,_,0,_=>by simp[RDs]
 |[],_,k+1,h=>by simp only[RDs] at h;subst h;simp[RDs]
 |d'::r,_,k+1,h=>by
  simp only[RDs] at h
  obtain⟨x,q,rfl,h1,h2⟩:=h
  simp only[List.take_succ_cons,RDs]
  exact⟨_,_,rfl,h1,RDs.take k h2⟩
theorem RDs.drop: ∀{ds:List D} {xs:List V} (k:Nat),RDs G ρ H ds xs->RDs G ρ H (ds.drop k) (xs.drop k)
 |_,_,0,h=>h
 |[],_,k+1,h=>by simp only[RDs] at h;subst h;simp[RDs]
 |d'::r,_,k+1,h=>by
  simp only[RDs] at h
  obtain⟨x,q,rfl,h1,h2⟩:=h
  simp only[List.drop_succ_cons]
  exact RDs.drop k h2
theorem RDs.set: ∀{ds:List D} {xs:List V} (k:Nat),RDs G ρ H ds xs->RD G ρ H t v->RDs G ρ H (ds.set k t) (xs.set k v)
 |[],_,k,h,_=>by simp only[RDs] at h;subst h;simp[RDs]
 |d'::r,_,0,h,ht=>by
  simp only[RDs] at h
  obtain⟨x,q,rfl,h1,h2⟩:=h
  simp only[List.set_cons_zero,RDs];exact⟨_,_,rfl,ht,h2⟩
 |d'::r,_,k+1,h,ht=>by
  simp only[RDs] at h
  obtain⟨x,q,rfl,h1,h2⟩:=h
  simp only[List.set_cons_succ,RDs];exact⟨_,_,rfl,h1,RDs.set k h2 ht⟩
theorem MR.pop{o:Option V}{r:Option D}(M:MR G F ρ H σv (o::tv) {s with tm:=r::s.tm}):MR G F ρ H σv tv s where
 sl:=M.sl
 tm:=by
  have h:=M.tm
  cases r with
  |none=>simp only[Sl] at h;obtain⟨_,_,e,h⟩:=h;cases e;exact h
  |some t=>simp only[Sl] at h;obtain⟨_,_,e,_,h⟩:=h;cases e;exact h
 inj:=M.inj
 dom:=M.dom
 lab:=fun l h=>M.lab l (by
  rcases List.mem_append.mp h with h|h
  ·exact List.mem_append_left _ h
  ·refine List.mem_append_right _ ?_
   cases r with
   |none=>exact h
   |some t=>exact List.mem_append_right _ h)
 own:=fun l h=>M.own l (by
  rcases List.mem_append.mp h with h|h
  ·exact List.mem_append_left _ h
  ·refine List.mem_append_right _ ?_
   cases r with
   |none=>exact h
   |some t=>exact List.mem_append_right _ h)
 frm:=M.frm
 kd:=M.kd
 frb:=M.frb
 bas:=M.bas
theorem MR.top(M:MR G F ρ H σv (some v::tv) (s.psh t)):RD G ρ H t v:=by
 have h:=M.tm
 have h:Sl G ρ H (some t::s.tm) (some v::tv):=h
 simp only[Sl] at h
 obtain⟨_,_,e,h,_⟩:=h
 cases e
 exact h
theorem MR.topl(M:MR G F ρ H σv tv (s.psh t)): ∀l∈labs t,l<s.n/\(F.A0 (ρ l)\/F.H0 (ρ l)=none):=fun l h=>
 have m:l∈z0T (s.psh t):=List.mem_append_right _ (List.mem_append_left _ h)
 ⟨M.lab l m,M.own l m⟩
theorem MR.same(M:MR G F ρ H σv tv s)(h:Same H H')(k:KD G.K H'):MR G F ρ H' σv tv s where
 sl:=Sl.stay (z1x.of h) M.sl fun l _=>⟨rfl,fun o e=>h _ _ e⟩
 tm:=Sl.stay (z1x.of h) M.tm fun l _=>⟨rfl,fun o e=>h _ _ e⟩
 inj:=M.inj
 dom:=fun l hl=>let⟨o,e⟩:=M.dom l hl;⟨o,h _ _ e⟩
 lab:=M.lab
 own:=M.own
 frm:=fun a o e=>let⟨⟨o',e1⟩,e2⟩:=M.frm a o e;⟨⟨o',h _ _ e1⟩,fun n=>h _ _ (e2 n)⟩
 kd:=k
 frb:=M.frb
 bas:=M.bas
theorem RDs.same{ts:List D}{vs:List V}(h:Same H H')(r:RDs G ρ H ts vs):RDs G ρ H' ts vs:=RDs.stay (z1x.of h) ts vs r fun l _=>⟨rfl,fun o e=>h _ _ e⟩
noncomputable def ext(ρ:Nat->Addr)(n:Nat)(p:Addr):Nat->Addr:=fun l=>if l=n then p else ρ l
theorem z0k{n l:Nat}{p:Addr}(h:l<n):ext ρ n p l=ρ l:=by unfold ext;rw[if_neg (by lia)]
theorem z1t{n:Nat}{p:Addr}:ext ρ n p n=p:=by unfold ext;rw[if_pos rfl]
theorem MR.new{p:Addr}{o:HO}(M:MR G F ρ H σv tv s)(hp:H p=none)(k:KD G.K (upd H p o)):MR G F (ext ρ s.n p) (upd H p o) σv tv s.nxt where
 sl:=Sl.stay (z1x.of (Same.new o hp)) M.sl fun l hl=>⟨z0k (M.lab l (List.mem_append_left _ hl)),fun o e=>Same.new _ hp _ _ e⟩
 tm:=Sl.stay (z1x.of (Same.new o hp)) M.tm fun l hl=>⟨z0k (M.lab l (List.mem_append_right _ hl)),fun o e=>Same.new _ hp _ _ e⟩
 inj:=fun i j hi hj e=>by
  have hi:i<s.n+1:=hi
  have hj:j<s.n+1:=hj
  have nn: ∀i,i<s.n->ρ i≠p:=fun i h e=>by
   obtain⟨o,q⟩:=M.dom i h
   rw[e,hp] at q;cases q
  by_cases h1:i=s.n
  ·by_cases h2:j=s.n
   ·lia
   ·rw[h1,z1t,z0k (by lia)] at e
    exact absurd e.symm (nn j (by lia))
  ·by_cases h2:j=s.n
   ·rw[h2,z1t,z0k (by lia)] at e
    exact absurd e (nn i (by lia))
   ·rw[z0k (by lia),z0k (by lia)] at e
    exact M.inj i j (by lia) (by lia) e
 dom:=fun l hl=>by
  have hl:l<s.n+1:=hl
  by_cases h1:l=s.n
  ·subst h1;rw[z1t];exact⟨o,z0f⟩
  ·rw[z0k (by lia)]
   obtain⟨o',e⟩:=M.dom l (by lia)
   exact⟨o',Same.new _ hp _ _ e⟩
 lab:=fun l h=>Nat.lt_succ_of_lt (M.lab l h)
 own:=fun l h=>by rw[z0k (M.lab l h)];exact M.own l h
 frm:=fun a o e=>let⟨⟨o',e1⟩,e2⟩:=M.frm a o e;⟨⟨o',Same.new _ hp _ _ e1⟩,fun n=>Same.new _ hp _ _ (e2 n)⟩
 kd:=k
 frb:=fun l hl=>by
  have hl:l<s.n+1:=hl
  by_cases h1:l=s.n
  ·subst h1;rw[z1t]
   intro z
   obtain⟨⟨o,e⟩,_⟩:=F.zA p z
   obtain⟨⟨o',e'⟩,_⟩:=M.frm p o e
   rw[hp] at e';cases e'
  ·rw[z0k (by lia)]
   exact M.frb l (by lia)
 bas:=⟨Nat.le_succ_of_le M.bas.1,fun l hl=>by rw[z0k (Nat.lt_of_lt_of_le hl M.bas.1)];exact M.bas.2 l hl⟩
theorem MR.fresh0{p:Addr}(M:MR G F ρ H σv tv s)(hp:H p=none):F.H0 p=none:=by
 cases q:F.H0 p with
 |none=>rfl
 |some o=>
  obtain⟨⟨o',e⟩,_⟩:=M.frm p o q
  rw[hp] at e;cases e
noncomputable def Stt.put(s:Stt)(l:Nat)(d:D):Stt:={s with σ:=rpO (fun k=>if k=l then some d else none) s.σ,tm:=rpO (fun k=>if k=l then some d else none) s.tm}
end
inductive Res(α:Type) where
 |ok (a:α) (s:Stt)|ex (d:D) (s:Stt)|no
noncomputable abbrev M(α:Type):=Stt->Res α
noncomputable def bd{α β:Type}(m:M α)(f:α->M β):M β:=fun s=>match m s with
 | .ok a s'=>f a s'
 | .ex d s'=> .ex d s'
 | .no=> .no
noncomputable def rt{α:Type}(a:α):M α:=fun s=> .ok a s
noncomputable def fl{α:Type}:M α:=fun _=> .no
noncomputable def psh(t:D):M Unit:=fun s=> .ok () (s.psh t)
noncomputable def pop:M D:=fun s=>match s.tm with
 |some t::r=> .ok t {s with tm:=r}
 |_=> .no
structure Fy extends Fx where
 tv0:List (Option V)
 xw:D->Stt->Prop
structure MRL(G:Gx)(F:Fx)(ρ:Nat->Addr)(H:Hp)(σv tv:List (Option V))(s:Stt)(ts:List D)(vs:List V):Prop where
 m:MR G F ρ H σv tv s
 rd:RDs G ρ H ts vs
 lb: ∀l∈labsL ts,l<s.n/\(F.A0 (ρ l)\/F.H0 (ρ l)=none)
section
variable{G:Gx}{F:Fy}{ρ ρ':Nat->Addr}{H H':Hp}{σv tv:List (Option V)}{s:Stt}{t t':D}{v u:V}{ts:List D}{vs:List V}{Q:VK}
theorem MRL.rd1(M:MRL G F.toFx ρ H σv tv s [t] [v]):RD G ρ H t v:=by
 have h:=M.rd
 simp only[RDs] at h
 obtain⟨_,_,e,h,_⟩:=h
 cases e;exact h
theorem MRL.rd2(M:MRL G F.toFx ρ H σv tv s [t,t'] [v,u]):RD G ρ H t v/\RD G ρ H t' u:=by
 have h:=M.rd
 simp only[RDs] at h
 obtain⟨_,_,e,h,_,_,e',h',_⟩:=h
 cases e;cases e';exact⟨h,h'⟩
theorem MRL.push(M:MRL G F.toFx ρ H σv tv s [t] [v]):MR G F.toFx ρ H σv (some v::tv) (s.psh t):=by
 have hl: ∀l∈labs t,l<s.n/\(F.A0 (ρ l)\/F.H0 (ρ l)=none):=fun l h=>M.lb l (by simp only[labsL,List.append_nil];exact h)
 refine⟨M.m.sl, ?_,M.m.inj,M.m.dom,fun l h=> ?_,fun l h=> ?_,M.m.frm,M.m.kd,M.m.frb,M.m.bas⟩
 ·show Sl G ρ H (some t::s.tm) _
  simp only[Sl]
  exact⟨v,tv,rfl,M.rd1,M.m.tm⟩
 ·have h:l∈z04 s.σ++(labs t++z04 s.tm):=h
  rcases List.mem_append.mp h with h|h
  ·exact M.m.lab l (List.mem_append_left _ h)
  ·rcases List.mem_append.mp h with h|h
   ·exact(hl l h).1
   ·exact M.m.lab l (List.mem_append_right _ h)
 ·have h:l∈z04 s.σ++(labs t++z04 s.tm):=h
  rcases List.mem_append.mp h with h|h
  ·exact M.m.own l (List.mem_append_left _ h)
  ·rcases List.mem_append.mp h with h|h
   ·exact(hl l h).2
   ·exact M.m.own l (List.mem_append_right _ h)
theorem MRL.down{s':Stt}{r:List (Option D)}(M:MRL G F.toFx ρ H σv (some v::tv) s' ts vs)(e:s'.tm=some t::r):MRL G F.toFx ρ H σv tv {s' with tm:=r} (t::ts) (v::vs):=by
 obtain⟨σ,tm,n⟩:=s'
 have e:tm=some t::r:=e
 subst e
 refine⟨MR.pop (s:=⟨σ,r,n⟩) M.m, ?_,fun l h=> ?_⟩
 ·simp only[RDs]
  exact⟨v,vs,rfl,MR.top (s:=⟨σ,r,n⟩) M.m,M.rd⟩
 ·simp only[labsL] at h
  rcases List.mem_append.mp h with h|h
  ·exact MR.topl (s:=⟨σ,r,n⟩) M.m l h
  ·exact M.lb l h
noncomputable def wM(G:Gx)(F:Fy)(σv tv:List (Option V))(r:Res D)(Q:VK):Prop:=match r with
 | .ok t s'=> ∀ρ' v H',MRL G F.toFx ρ' H' σv tv s' [t] [v]->Q v H'
 | .ex d s'=>F.xw d s'
 | .no=>False
noncomputable def wL(G:Gx)(F:Fy)(σv tv:List (Option V))(r:Res (List D))(Q:List V->Hp->Prop):Prop:=match r with
 | .ok ts s'=> ∀ρ' vs H',MRL G F.toFx ρ' H' σv tv s' ts vs->Q vs H'
 | .ex d s'=>F.xw d s'
 | .no=>False
noncomputable def wB(G:Gx)(F:Fy)(σv tv:List (Option V))(r:Res Bool)(Q:Bool->Hp->Prop):Prop:=match r with
 | .ok b s'=> ∀ρ' H',MR G F.toFx ρ' H' σv tv s'->Q b H'
 | .ex d s'=>F.xw d s'
 | .no=>False
noncomputable def tMv(G:Gx)(F:Fy)(m:M D)(σv tv:List (Option V))(H:Hp)(Q:VK):Prop:=F.tv0<:+tv/\∃ρ s,MR G F.toFx ρ H σv tv s/\wM G F σv tv (m s) Q
noncomputable def tLv(G:Gx)(F:Fy)(m:M (List D))(σv tv:List (Option V))(H:Hp)(Q:List V->Hp->Prop):Prop:=F.tv0<:+tv/\∃ρ s,MR G F.toFx ρ H σv tv s/\wL G F σv tv (m s) Q
noncomputable def tBv(G:Gx)(F:Fy)(m:M Bool)(σv tv:List (Option V))(H:Hp)(Q:Bool->Hp->Prop):Prop:=F.tv0<:+tv/\∃ρ s,MR G F.toFx ρ H σv tv s/\wB G F σv tv (m s) Q
noncomputable def tM(G:Gx)(F:Fy)(m:M D):TE:=fun σv H Q=> ∃tv,tMv G F m σv tv H Q
noncomputable def tML(G:Gx)(F:Fy)(m:M (List D)):TA:=fun σv H Q=> ∃tv,tLv G F m σv tv H Q
noncomputable def tMB(G:Gx)(F:Fy)(m:M Bool):TT:=fun σv H Q=> ∃tv,tBv G F m σv tv H Q
noncomputable def SE(X:Cx)(G:Gx)(F:Fy)(e:Expr)(m:M D):Prop:=PE X e (tM G F m)
noncomputable def SA(X:Cx)(G:Gx)(F:Fy)(es:List Expr)(m:M (List D)):Prop:=PA X es (tML G F m)
noncomputable def SB(X:Cx)(G:Gx)(F:Fy)(e:Expr)(m:M Bool):Prop:=PT X e (tMB G F m)
theorem suf1{o:Option V}(h:F.tv0<:+tv):F.tv0<:+o::tv:=h.trans (List.suffix_cons _ _)
theorem z5W{m:M D}{f:D->M D}(h:tMv G F (bd m f) σv tv H Q):tMv G F m σv tv H (fun v H1=> ∃ρ1 s1 t,MRL G F.toFx ρ1 H1 σv tv s1 [t] [v]/\wM G F σv tv (f t s1) Q):=by
 obtain⟨hs,ρ,s,M,W⟩:=h
 refine⟨hs,ρ,s,M, ?_⟩
 unfold bd at W
 cases e:m s with
 |ok t s1=>rw[e] at W;exact fun ρ1 v H1 M1=>⟨ρ1,s1,t,M1,W⟩
 |ex d s1=>rw[e] at W;exact W
 |no=>rw[e] at W;exact W
noncomputable def mBin(ma mb:M D)(g:D->D->M D):M D:=bd ma fun x=>bd (psh x) fun _=>bd mb fun y=>bd pop fun x'=>g x' y
theorem z89{ma mb:M D}{g:D->D->M D}(h:tMv G F (mBin ma mb g) σv tv H Q):
 tMv G F ma σv tv H (fun v H1=>tMv G F mb σv (some v::tv) H1 (fun u H2=> ∃ρ2 s2 t t',MRL G F.toFx ρ2 H2 σv tv s2 [t,t'] [v,u]/\wM G F σv tv (g t t' s2) Q)):=by
 have h':=z5W h
 obtain⟨hs,ρ,s,M,W⟩:=h'
 refine⟨hs,ρ,s,M, ?_⟩
 cases e:ma s with
 |ok t s1=>
  rw[e] at W
  intro ρ1 v H1 M1
  obtain⟨ρ1,s1,t,M1,W⟩:=W ρ1 v H1 M1
  refine⟨suf1 hs,ρ1,s1.psh t,M1.push, ?_⟩
  simp only[bd,psh] at W
  cases e2:mb (s1.psh t) with
  |ok y s2=>
   rw[e2] at W
   intro ρ2 u H2 M2
   simp only[pop] at W
   cases e3:s2.tm with
   |nil=>rw[e3] at W;exact W.elim
   |cons o r=>
    cases o with
    |none=>rw[e3] at W;exact W.elim
    |some t'=>
     rw[e3] at W
     exact⟨ρ2,{s2 with tm:=r},t',y,M2.down e3,W⟩
  |ex d s2=>rw[e2] at W;exact W
  |no=>rw[e2] at W;exact W
 |ex d s1=>rw[e] at W;exact W
 |no=>rw[e] at W;exact W
noncomputable def z03:List (M D)->M (List D)
 |[]=>rt []
 |m::ms=>bd m fun x=>bd (psh x) fun _=>bd (z03 ms) fun ys=>bd pop fun x'=>rt (x'::ys)
end
section
variable{X:Cx}{G:Gx}{F:Fy}{e a b c:Expr}{pos:Pos}
theorem Inv.kd{pins:List (Addr×Obj)}{σ:St}{H:Hp}{s:Shared}(I:Inv X pins σ H s):KD X.K H:=fun a o e=>(I.bs a o (I.ok.mod.kin a o e)).2
theorem PE.imp{t t':TE}(hk:X.K=G.K)(h:PE X e t)(hi: ∀σ H Q,t' σ H Q->t σ H (fun v H'=>KD G.K H'->Q v H')):PE X e t':=fun pins s σ H Q I q=>
 thn (h pins s σ H _ I (hi σ H Q q)) fun u s' ⟨v,H',I',r,k⟩=>⟨v,H',I',r,k (hk▸Inv.kd I')⟩
theorem PT.imp{t t':TT}(hk:X.K=G.K)(h:PT X e t)(hi: ∀σ H Q,t' σ H Q->t σ H (fun v H'=>KD G.K H'->Q v H')):PT X e t':=fun pins s σ H Q I q=>
 thn (h pins s σ H _ I (hi σ H Q q)) fun u s' ⟨H',I',k⟩=>⟨H',I',k (hk▸Inv.kd I')⟩
theorem PA.imp{es:List Expr}{t t':TA}(hk:X.K=G.K)(h:PA X es t)(hi: ∀σ H Q,t' σ H Q->t σ H (fun v H'=>KD G.K H'->Q v H')):PA X es t':=fun pos pins s σ H Q I q=>
 thn (h pos pins s σ H _ I (hi σ H Q q)) fun u s' ⟨v,H',I',r,k⟩=>⟨v,H',I',r,k (hk▸Inv.kd I')⟩
noncomputable def OpOK(G:Gx)(F:Fy)(r:R2)(g:D->D->M D):Prop:= ∀ρ s t t' v u H σv tv Q,MRL G F.toFx ρ H σv tv s [t,t'] [v,u]->wM G F σv tv (g t t' s) Q->r v u H (fun w H'=>KD G.K H'->Q w H')
noncomputable def z1Q(G:Gx)(F:Fy)(r:R2)(g:D->D->M D):Prop:= ∀ρ s t t' v u H σv tv Q,MRL G F.toFx ρ H σv tv s [t,t'] [v,u]->wM G F σv tv (g t t' s) Q->r v u H Q
noncomputable def UnOK(G:Gx)(F:Fy)(r:V->Hp->VK->Prop)(g:D->M D):Prop:= ∀ρ s t v H σv tv Q,MRL G F.toFx ρ H σv tv s [t] [v]->wM G F σv tv (g t s) Q->r v H (fun w H'=>KD G.K H'->Q w H')
noncomputable def z1g(G:Gx)(F:Fy)(r:List V->Hp->VK->Prop)(g:List D->M D):Prop:= ∀ρ s ts vs H σv tv Q,MRL G F.toFx ρ H σv tv s ts vs->wM G F σv tv (g ts s) Q->r vs H (fun w H'=>KD G.K H'->Q w H')
theorem z7o{op:Operator}{r:R2}{ma mb:M D}{g:D->D->M D}(hk:X.K=G.K)(ho:OpR X (binaryOp op) r)(hg:OpOK G F r g)(ha:SE X G F a ma)(hb:SE X G F b mb):SE X G F (.BinOp a op b pos) (mBin ma mb g):=by
 refine PE.imp hk (zhV ho ha hb) fun σ H Q ⟨tv,h⟩=>⟨tv, ?_⟩
 obtain⟨hs,ρ,s,M,W⟩:=z89 h
 refine⟨hs,ρ,s,M, ?_⟩
 cases e:ma s with
 |ok t s1=>
  rw[e] at W
  intro ρ1 v H1 M1
  refine⟨some v::tv, ?_⟩
  obtain⟨hs2,ρ2,s2,M2,W2⟩:=W ρ1 v H1 M1
  refine⟨hs2,ρ2,s2,M2, ?_⟩
  cases e2:mb s2 with
  |ok t2 s3=>
   rw[e2] at W2
   intro ρ3 u H3 M3
   obtain⟨ρ4,s4,x,y,M4,W4⟩:=W2 ρ3 u H3 M3
   exact hg _ _ _ _ _ _ _ _ _ _ M4 W4
  |ex d s3=>rw[e2] at W2;exact W2
  |no=>rw[e2] at W2;exact W2
 |ex d s1=>rw[e] at W;exact W
 |no=>rw[e] at W;exact W
theorem wM.mono{σv tv:List (Option V)}{r:Res D}{Q Q':VK}(h:wM G F σv tv r Q)(k: ∀v H,Q v H->Q' v H):wM G F σv tv r Q':=by
 cases r with
 |ok t s=>exact fun ρ v H M=>k _ _ (h ρ v H M)
 |ex d s=>exact h
 |no=>exact h
theorem tMv.mono{m:M D}{σv tv:List (Option V)}{H:Hp}{Q Q':VK}(h:tMv G F m σv tv H Q)(k: ∀v H,Q v H->Q' v H):tMv G F m σv tv H Q':=by
 obtain⟨hs,ρ,s,M,W⟩:=h
 exact⟨hs,ρ,s,M,W.mono k⟩
theorem zdB{ma mb:M D}{g:D->D->M D}{R:V->V->Hp->VK->Prop}{σv:St}{H:Hp}{Q:VK}(hg:OpOK G F R g)(h:tM G F (mBin ma mb g) σv H Q):
 tM G F ma σv H fun x H1=>tM G F mb σv H1 fun y H2=>R x y H2 fun w H'=>KD G.K H'->Q w H':=by
 obtain⟨tv,h⟩:=h
 exact⟨tv,(z89 h).mono fun v H1 h1=>⟨_,h1.mono fun u H2 ⟨ρ,s,t,t',M,W⟩=>hg _ _ _ _ _ _ _ _ _ _ M W⟩⟩
theorem zfr{ma:M D}{g:D->M D}{R:V->Hp->VK->Prop}{σv:St}{H:Hp}{Q:VK}(hg:UnOK G F R g)(h:tM G F (bd ma g) σv H Q):
 tM G F ma σv H fun x H1=>R x H1 fun w H'=>KD G.K H'->Q w H':=by
 obtain⟨tv,h⟩:=h
 exact⟨tv,(z5W h).mono fun v H1 ⟨ρ,s,t,M,W⟩=>hg _ _ _ _ _ _ _ _ M W⟩
theorem zia{op:UnaryOp}{r:V->Hp->VK->Prop}{ma:M D}{g:D->M D}(hk:X.K=G.K)(ho:UnR X (unaryOp op) r)(hg:UnOK G F r g)(ha:SE X G F a ma):SE X G F (.UnaryOp op a pos) (bd ma g):=
 PE.imp hk (zhW ho ha) fun _ _ _ h=>zfr hg h
theorem z5X{ma mb:M D}{g:D->D->M D}{R:V->V->Hp->VK->Prop}{σv:St}{H:Hp}{Q:VK}(hg:z1Q G F R g)(h:tM G F (mBin ma mb g) σv H Q):
 tM G F ma σv H fun x H1=>tM G F mb σv H1 fun y H2=>R x y H2 Q:=by
 obtain⟨tv,h⟩:=h
 exact⟨tv,(z89 h).mono fun v H1 h1=>⟨_,h1.mono fun u H2 ⟨ρ,s,t,t',M,W⟩=>hg _ _ _ _ _ _ _ _ _ _ M W⟩⟩
theorem PE.imp0{t t':TE}(h:PE X e t)(hi: ∀σ H Q,t' σ H Q->t σ H Q):PE X e t':=fun pins s σ H Q I q=>h pins s σ H _ I (hi σ H Q q)
theorem PT.imp0{t t':TT}(h:PT X e t)(hi: ∀σ H Q,t' σ H Q->t σ H Q):PT X e t':=fun pins s σ H Q I q=>h pins s σ H _ I (hi σ H Q q)
theorem zdC{op:CmpOp}{r:R2}{ma mb:M D}{g:D->D->M D}(ho:OpR X (compareOp op) r)(hg:z1Q G F r g)(ha:SE X G F a ma)(hb:SE X G F b mb)(hm:behindInMarks op b=false):SE X G F (.Compare a [op] [b] pos) (mBin ma mb g):=
 PE.imp0 (zdi ho ha hb hm) fun _ _ _ h=>z5X hg h
theorem zib{r:R2}{ma mb:M D}{g:D->D->M D}(hk:X.K=G.K)(ho:IxR X r)(hg:OpOK G F r g)(ha:SE X G F a ma)(hb:SE X G F b mb)(hs:z3X b):SE X G F (.Subscript a b pos) (mBin ma mb g):=
 PE.imp hk (zi8 ho ha hb hs) fun _ _ _ h=>zdB hg h
theorem zfs(hk:X.K=G.K):SA X G F [] (z03 []):=by
 refine PA.imp hk zcm fun σ H Q ⟨tv,hs,ρ,s,M,W⟩ _=>W ρ [] H ⟨M,rfl,fun l h=>by simp[labsL] at h⟩
noncomputable def nst:Expr->Bool
 | .Starred _ _=>false
 |_=>true
theorem z9L{es:List Expr}{env:Env}(h:nst e=true):starEach (e::es) env=(false,eval e env)::starEach es env:=by
 cases e<;>first|rfl|exact Bool.noConfusion h
theorem zdD{es:List Expr}{m:M D}{ms:List (M D)}(hk:X.K=G.K)(ha:SE X G F e m)(hr:SA X G F es (z03 ms))(hs:nst e=true:=by rfl):SA X G F (e::es) (z03 (m::ms)):=by
 refine PA.imp hk (z7m ha hr (z9L hs)) fun σ H Q ⟨tv,hs,ρ,s,M,W⟩=>⟨tv,hs,ρ,s,M, ?_⟩
 unfold z03 at W
 simp only[bd,psh] at W
 cases e:m s with
 |ok t s1=>
  rw[e] at W
  intro ρ1 v H1 M1
  refine⟨some v::tv,suf1 hs,ρ1,s1.psh t,M1.push, ?_⟩
  dsimp only at W
  cases e2:z03 ms (s1.psh t) with
  |ok ys s2=>
   rw[e2] at W
   intro ρ2 us H2 M2 _
   simp only[pop,rt] at W
   cases e3:s2.tm with
   |nil=>rw[e3] at W;exact W.elim
   |cons o r=>
    cases o with
    |none=>rw[e3] at W;exact W.elim
    |some t'=>
     rw[e3] at W
     exact W ρ2 (v::us) H2 (M2.down e3)
  |ex d s2=>rw[e2] at W;exact W
  |no=>rw[e2] at W;exact W
 |ex d s1=>rw[e] at W;exact W
 |no=>rw[e] at W;exact W
noncomputable def mCB(ms:List (M D))(g:List D->M D):M D:=bd (z03 ms) g
theorem z4z{ma:M (List D)}{g:List D->M D}{R:List V->Hp->VK->Prop}{σv:St}{H:Hp}{Q:VK}(hg:z1g G F R g)(h:tM G F (bd ma g) σv H Q):
 tML G F ma σv H fun xs H1=>R xs H1 fun w H'=>KD G.K H'->Q w H':=by
 obtain⟨tv,hs,ρ,s,M,W⟩:=h
 refine⟨tv,hs,ρ,s,M, ?_⟩
 unfold bd at W
 cases e:ma s with
 |ok ts s1=>rw[e] at W;exact fun ρ1 vs H1 M1=>hg _ _ _ _ _ _ _ _ M1 W
 |ex d s1=>rw[e] at W;exact W
 |no=>rw[e] at W;exact W
theorem zbv{x:Str}{p:Pos}{es:List Expr}{ms:List (M D)}{g:List D->M D}{id:String}{r:List V->Hp->VK->Prop}(hk:X.K=G.K)(hc:CallR X (.builtin id) r)(hg:z1g G F r g)(hgl:Gl X x)(hm:X.mg x=none)(hv:bootBuiltins x=some (.builtin id))(ha:SA X G F (e::es) (z03 ms))(hn:x≠ "__name__" :=by decide)(hdb:(x==("__debug__" :Str))=false:=by decide)
 (he:starEach (e::es) X.env=(false,eval e X.env)::starEach es X.env:=by rfl) (hpl:(backTo pos (starEach es X.env)).any (·.1)=false:=by rfl):SE X G F (.Call (.Name x p) (e::es) [] pos) (mCB ms g):=
 PE.imp hk (z83 hc hgl hm hv ha hn hdb he hpl) fun _ _ _ h=>z4z hg h
theorem z9M{x:Str}{p:Pos}{es:List Expr}{ms:List (M D)}{g:List D->M D}{T:String}{r:List V->Hp->VK->Prop}(hk:X.K=G.K)(hc:CallR X (.type T) r)(hg:z1g G F r g)(hgl:Gl X x)(hm:X.mg x=none)(hv:bootBuiltins x=some (.type T))(ha:SA X G F (e::es) (z03 ms))(hn:x≠ "__name__" :=by decide)(hdb:(x==("__debug__" :Str))=false:=by decide)
 (he:starEach (e::es) X.env=(false,eval e X.env)::starEach es X.env:=by rfl) (hpl:(backTo pos (starEach es X.env)).any (·.1)=false:=by rfl):SE X G F (.Call (.Name x p) (e::es) [] pos) (mCB ms g):=
 PE.imp hk (z9x hc hgl hm hv ha hn hdb he hpl) fun _ _ _ h=>z4z hg h
noncomputable def mVar(i:Nat):M D:=fun s=>match s.σ[i]? with
 |some (some t)=> .ok t s
 |_=> .no
theorem se_var(i:Nat){x:Str}(hk:X.K=G.K)(h:PE X (.Name x pos) (tVar i)):SE X G F (.Name x pos) (mVar i):=by
 refine PE.imp hk h fun σ H Q ⟨tv,hs,ρ,s,M,W⟩=> ?_
 unfold mVar at W
 cases e:s.σ[i]? with
 |none=>rw[e] at W;exact W.elim
 |some o=>
  cases o with
  |none=>rw[e] at W;exact W.elim
  |some t=>
   rw[e] at W
   obtain⟨v,h1,h2⟩:=M.sl.get i t e
   refine⟨v,h1,fun _=>W ρ v H ⟨M,RDs.one h2,fun l hl=> ?_⟩⟩
   simp only[labsL,List.append_nil] at hl
   have:=z3N e l hl
   exact⟨M.lab l (List.mem_append_left _ this),M.own l (List.mem_append_left _ this)⟩
noncomputable def cV:D->Option V
 | .non=>some .non| .bool b=>some (.bl b)| .int i=>some (.int i)| .str x=>some (.str x)|_=>none
theorem z8V{d:D}{v:V}{ρ:Nat->Addr}{H:Hp}(h:cV d=some v):RD G ρ H d v/\labs d=[]:=by
 cases d<;>simp only[cV,Option.some.injEq] at h<;>first|(subst h;exact⟨by simp only[RD],by simp only[labs]⟩)|cases h
noncomputable def mC(d:D):M D:=rt d
theorem se_c{d:D}{v:V}(hk:X.K=G.K)(h:PE X e (tC v))(hd:cV d=some v:=by rfl):SE X G F e (mC d):=by
 refine PE.imp hk h fun σ H Q ⟨tv,hs,ρ,s,M,W⟩ _=>W ρ v H ⟨M,RDs.one (z8V hd).1,fun l hl=> ?_⟩
 simp only[labsL,(z8V (G:=G) (ρ:=ρ) (H:=H) hd).2] at hl
 cases hl
theorem wM.out{σv tv:List (Option V)}{s:Stt}{t:D}{v:V}{ρ:Nat->Addr}{H:Hp}{Q:VK}(W:wM G F σv tv (.ok t s) Q)(M:MR G F.toFx ρ H σv tv s)(h:RD G ρ H t v)(hl: ∀l∈labs t,l<s.n/\(F.A0 (ρ l)\/F.H0 (ρ l)=none)):Q v H:=
 W ρ v H ⟨M,RDs.one h,fun l q=>hl l (by simpa only[labsL,List.append_nil] using q)⟩
theorem wM.flat{σv tv:List (Option V)}{s:Stt}{t:D}{v:V}{ρ:Nat->Addr}{H:Hp}{Q:VK}(W:wM G F σv tv (.ok t s) Q)(M:MR G F.toFx ρ H σv tv s)(h:cV t=some v):Q v H:=
 W.out M (z8V h).1 fun l q=>by rw[(z8V (G:=G) (ρ:=ρ) (H:=H) h).2] at q;cases q
end
mutual
noncomputable def er:D->PyData
 | .non=> .none| .bool b=> .bool b| .int i=> .int i| .str x=> .str x
 | .tup ds=> .tuple (erL ds)
 | .ro ds=> .list (erL ds)
 | .lst _ ds=> .list (erL ds)
 | .dct _ _ _=> .none
 | .obj _ _ _ _=> .none
 | .exc _=> .none| .fn _=> .none| .fdc _ _=> .none
noncomputable def erL:List D->List PyData
 |[]=>[]
 |d::ds=>er d::erL ds
end
mutual
noncomputable def plain:D->Bool
 | .non=>true| .bool _=>true| .int _=>true| .str _=>true
 | .tup ds=>plainL ds
 | .ro ds=>plainL ds
 | .lst _ ds=>plainL ds
 | .dct _ _ _=>false
 | .obj _ _ _ _=>false
 | .exc _=>false| .fn _=>false| .fdc _ _=>false
noncomputable def plainL:List D->Bool
 |[]=>true
 |d::ds=>plain d&&plainL ds
end
noncomputable def seqD:D->Option (List D)
 | .tup ds=>some ds| .ro ds=>some ds| .lst _ ds=>some ds|_=>none
noncomputable def lstD:D->Option (List D)
 | .ro ds=>some ds| .lst _ ds=>some ds|_=>none
section
variable{G:Gx}{F:Fy}{ρ:Nat->Addr}{H H':Hp}{σv tv:List (Option V)}{s:Stt}{t t':D}{v u:V}{ts ds:List D}{vs xs:List V}{Q:VK}
mutual
theorem RD.dp: ∀(t:D) (v:V),RD G ρ H t v->plain t=true->Dp G.K H (er t) v
 | .non,v,h,_=>by simp only[RD,er,Dp] at h⊢;exact h
 | .bool b,v,h,_=>by simp only[RD,er,Dp] at h⊢;exact h
 | .int b,v,h,_=>by simp only[RD,er,Dp] at h⊢;exact h
 | .str b,v,h,_=>by simp only[RD,er,Dp] at h⊢;exact h
 | .tup ds,v,h,p=>by
  simp only[RD,er,Dp,plain] at h p⊢
  obtain⟨a,xs,e,s,r⟩:=h
  exact⟨a,xs,e,SqT.of s,RDs.dp ds xs r p⟩
 | .ro ds,v,h,p=>by
  simp only[RD,er,Dp,plain] at h p⊢
  obtain⟨a,xs,e,s,r⟩:=h
  exact⟨a,xs,e,s.sq,RDs.dp ds xs r p⟩
 | .lst l ds,v,h,p=>by
  simp only[RD,er,Dp,plain] at h p⊢
  obtain⟨e,xs,s,r⟩:=h
  exact⟨_,xs,e,SqL.of s,RDs.dp ds xs r p⟩
 | .dct l ks vs,v,h,p=>by simp only[plain] at p;cases p
 | .fdc ks vs,v,h,p=>by simp only[plain] at p;cases p
 | .obj l c ns vs,v,h,p=>by simp only[plain] at p;cases p
 | .exc c,v,h,p=>by simp only[plain] at p;cases p
 | .fn c,v,h,p=>by simp only[plain] at p;cases p
theorem RDs.dp: ∀(t:List D) (v:List V),RDs G ρ H t v->plainL t=true->DpAll G.K H (erL t) v
 |[],v,h,_=>by simp only[RDs,erL,DpAll] at h⊢;exact h
 |d::ds,v,h,p=>by
  simp only[RDs,erL,DpAll,plainL,Bool.and_eq_true] at h p⊢
  obtain⟨x,r,e,h1,h2⟩:=h
  exact⟨x,r,e,RD.dp d x h1 p.1,RDs.dp ds r h2 p.2⟩
end
theorem RD.seq(h:RD G ρ H t v)(e:seqD t=some ds): ∃a xs,v= .ref a/\(SqL G.K H a xs\/SqT G.K H a xs)/\RDs G ρ H ds xs/\∀l∈labsL ds,l∈labs t:=by
 cases t<;>simp only[seqD,Option.some.injEq] at e<;>try cases e
 ·simp only[RD] at h
  obtain⟨a,xs,e,s,r⟩:=h
  exact⟨a,xs,e, .inr (SqT.of s),r,fun l hl=>by simp only[labs];exact hl⟩
 ·simp only[RD] at h
  obtain⟨a,xs,e,s,r⟩:=h
  exact⟨a,xs,e, .inl s.sq,r,fun l hl=>by simp only[labs];exact hl⟩
 ·simp only[RD] at h
  obtain⟨e,xs,s,r⟩:=h
  exact⟨_,xs,e, .inl (SqL.of s),r,fun l hl=>by simp only[labs];exact List.mem_cons_of_mem _ hl⟩
theorem RD.lstq(h:RD G ρ H t v)(e:lstD t=some ds): ∃a xs,v= .ref a/\SqL G.K H a xs/\RDs G ρ H ds xs/\∀l∈labsL ds,l∈labs t:=by
 cases t<;>simp only[lstD,Option.some.injEq] at e<;>try cases e
 ·simp only[RD] at h
  obtain⟨a,xs,e,s,r⟩:=h
  exact⟨a,xs,e,s.sq,r,fun l hl=>by simp only[labs];exact hl⟩
 ·simp only[RD] at h
  obtain⟨e,xs,s,r⟩:=h
  exact⟨_,xs,e,SqL.of s,r,fun l hl=>by simp only[labs];exact List.mem_cons_of_mem _ hl⟩
theorem RD.tupx(h:RD G ρ H (.tup ds) v): ∃a xs,v= .ref a/\H a=some (.tup xs)/\RDs G ρ H ds xs:=by
 simp only[RD] at h;exact h
theorem RD.tupq(h:RD G ρ H (.tup ds) v): ∃a xs,v= .ref a/\SqT G.K H a xs/\RDs G ρ H ds xs:=by
 obtain⟨a,xs,e,s,r⟩:=h.tupx
 exact⟨a,xs,e,SqT.of s,r⟩
theorem RD.seqx(h:RD G ρ H t v)(e:seqD t=some ds): ∃a xs,v= .ref a/\(SqL G.K H a xs\/H a=some (.tup xs))/\RDs G ρ H ds xs/\∀l∈labsL ds,l∈labs t:=by
 cases t<;>simp only[seqD,Option.some.injEq] at e<;>try cases e
 ·simp only[RD] at h
  obtain⟨a,xs,e,s,r⟩:=h
  exact⟨a,xs,e, .inr s,r,fun l hl=>by simp only[labs];exact hl⟩
 ·simp only[RD] at h
  obtain⟨a,xs,e,s,r⟩:=h
  exact⟨a,xs,e, .inl s.sq,r,fun l hl=>by simp only[labs];exact hl⟩
 ·simp only[RD] at h
  obtain⟨e,xs,s,r⟩:=h
  exact⟨_,xs,e, .inl (SqL.of s),r,fun l hl=>by simp only[labs];exact List.mem_cons_of_mem _ hl⟩
theorem MRL.lb1(M:MRL G F.toFx ρ H σv tv s [t] [v]): ∀l∈labs t,l<s.n/\(F.A0 (ρ l)\/F.H0 (ρ l)=none):=fun l h=>M.lb l (by simp only[labsL,List.append_nil];exact h)
theorem MRL.lb2(M:MRL G F.toFx ρ H σv tv s [t,t'] [v,u]):(∀l∈labs t,l<s.n/\(F.A0 (ρ l)\/F.H0 (ρ l)=none))/\(∀l∈labs t',l<s.n/\(F.A0 (ρ l)\/F.H0 (ρ l)=none)):=
 ⟨fun l h=>M.lb l (by simp only[labsL,List.append_nil];exact List.mem_append_left _ h),fun l h=>M.lb l (by simp only[labsL,List.append_nil];exact List.mem_append_right _ h)⟩
noncomputable abbrev LB(F:Fx)(ρ:Nat->Addr)(n:Nat)(ls:List Nat):Prop:= ∀l∈ls,l<n/\(F.A0 (ρ l)\/F.H0 (ρ l)=none)
theorem z5Y(W:wM G F σv tv (.ok (.tup ds) s) Q)(M:MR G F.toFx ρ H σv tv s)(r:RDs G ρ H ds xs)(lb:LB F.toFx ρ s.n (labsL ds)):NewX G.K H xs (fun w H'=>KD G.K H'->Q w H'):=by
 refine NewX.intro fun p H' sq sm k=> ?_
 exact W.out (M.same sm k) (by simp only[RD];exact⟨p,xs,rfl,sq,r.same sm⟩) (by simp only[labs];exact lb)
theorem z7p{p:Addr}(W:wM G F σv tv (.ok (.tup ds) s) Q)(M:MR G F.toFx ρ H σv tv s)(r:RDs G ρ H ds xs)(lb:LB F.toFx ρ s.n (labsL ds))(hp:H p=none)(k:KD G.K (upd H p (.tup xs))):Q (.ref p) (upd H p (.tup xs)):=by
 have sm:=Same.new (.tup xs) hp
 exact W.out (M.same sm k) (by simp only[RD];exact⟨p,xs,rfl,z0f,r.same sm⟩) (by simp only[labs];exact lb)
theorem RDs.ext{p:Addr}{o:HO}(M:MR G F.toFx ρ H σv tv s)(r:RDs G ρ H ds xs)(lb:LB F.toFx ρ s.n (labsL ds))(hp:H p=none):RDs G (ext ρ s.n p) (upd H p o) ds xs:=
 RDs.stay (z1x.of (Same.new o hp)) ds xs r fun l hl=>⟨z0k (lb l hl).1,fun o e=>Same.new _ hp _ _ e⟩
theorem z3x{p:Addr}(W:wM G F σv tv (.ok (.lst s.n ds) s.nxt) Q)(M:MR G F.toFx ρ H σv tv s)(r:RDs G ρ H ds xs)(lb:LB F.toFx ρ s.n (labsL ds))(hp:H p=none)(k:KD G.K (upd H p (.lst xs))):Q (.ref p) (upd H p (.lst xs)):=by
 refine W.out (M.new hp k) ?_ fun l hl=> ?_
 ·simp only[RD]
  rw[z1t]
  exact⟨rfl,xs,z0f,RDs.ext M r lb hp⟩
 ·simp only[labs] at hl
  rcases List.mem_cons.mp hl with q|q
  ·rw[q]
   exact⟨Nat.lt_succ_self _,by rw[z1t];exact .inr (M.fresh0 hp)⟩
  ·obtain⟨h1,h2⟩:=lb l q
   exact⟨Nat.lt_succ_of_lt h1,by rw[z0k h1];exact h2⟩
end
noncomputable def newL(ds:List D):M D:=fun s=> .ok (.lst s.n ds) s.nxt
noncomputable def addD:D->D->M D
 | .int i, .int j=>rt (.int (i+j))
 | .tup a, .tup b=>if a.length+b.length<=sizeLine then rt (.tup (a++b)) else fl
 | .lst _ a, .lst _ b=>if a.length+b.length<=sizeLine then newL (a++b) else fl
 | .str a, .str b=>if a.length+b.length<=sizeLine then rt (.str (a++b)) else fl
 |_,_=>fl
noncomputable def subD:D->D->M D
 | .int i, .int j=>rt (.int (i -j))
 |_,_=>fl
instance(i j:Int):Decidable (CMul i j):=by unfold CMul;infer_instance
instance(i j:Int):Decidable (CDiv i j):=by unfold CDiv;infer_instance
instance(i j:Int):Decidable (CPow i j):=by unfold CPow;infer_instance
noncomputable def mulD:D->D->M D
 | .int i, .int j=>if CMul i j then rt (.int (i*j)) else fl
 | .lst _ a, .int k=>if -(2^63)<=k/\k<2^63/\a.length*k.toNat<=sizeLine then newL (List.flatten (List.replicate k.toNat a)) else fl
 | .tup a, .int k=>if 0<a.length/\2<=k/\k<2^63/\a.length*k.toNat<=sizeLine then rt (.tup (List.flatten (List.replicate k.toNat a))) else fl
 |_,_=>fl
noncomputable def z6R:D->D->M D
 | .int i, .int j=>if CDiv i j then rt (.int (i/j)) else fl
 |_,_=>fl
noncomputable def modD:D->D->M D
 | .int i, .int j=>if 0<j then rt (.int (i %j)) else fl
 |_,_=>fl
noncomputable def powD:D->D->M D
 | .int i, .int j=>if CPow i j then rt (.int (i^j.toNat)) else fl
 |_,_=>fl
noncomputable def ltD:D->D->M D
 | .int i, .int j=>rt (.bool (decide (i<j)))
 |_,_=>fl
noncomputable def leD:D->D->M D
 | .int i, .int j=>rt (.bool (decide (i<=j)))
 |_,_=>fl
noncomputable def gtD:D->D->M D
 | .int i, .int j=>rt (.bool (decide (j<i)))
 |_,_=>fl
noncomputable def eqC(t t':D):Bool:=plain t&&plain t'&&(er t).canLay0&&(er t').canLay0&&decide (min (er t).depth (er t').depth<=60)
noncomputable def eqD(t t':D):M D:=if eqC t t'=true then rt (.bool (PyData.eqv (er t) (er t'))) else fl
noncomputable def neD(t t':D):M D:=if eqC t t'=true then rt (.bool (!PyData.eqv (er t) (er t'))) else fl
noncomputable def inC(t:D)(ds:List D):Bool:=plain t&&plainL ds&&(er t).canLay0&&PyData.canLayAll0 (erL ds)&&decide (min (PyData.depthAll (erL ds)) (er t).depth<=60)
noncomputable def inD(t t':D):M D:=match seqD t' with
 |some ds=>if inC t ds=true then rt (.bool ((erL ds).any fun y=>PyData.eqv y (er t))) else fl
 |none=>fl
noncomputable def ninD(t t':D):M D:=match seqD t' with
 |some ds=>if inC t ds=true then rt (.bool (!(erL ds).any fun y=>PyData.eqv y (er t))) else fl
 |none=>fl
noncomputable def isN:D->D->M D
 | .non, .non=>rt (.bool true)
 |_, .non=>rt (.bool false)
 |_,_=>fl
noncomputable def optM:Option D->M D
 |some d=>rt d
 |none=>fl
noncomputable def ixG:Option (List D)->D->M D
 |some ds, .int i=>optM (atI ds i)
 |_,_=>fl
noncomputable def ixD(t t':D):M D:=ixG (seqD t) t'
noncomputable def negD:D->M D
 | .int i=>rt (.int (-i))
 |_=>fl
section
variable{G:Gx}{F:Fy}
theorem wfl{σv tv:List (Option V)}{s:Stt}{Q:VK}{A:Prop}(h:wM G F σv tv ((fl:M D) s) Q):A:=False.elim h
theorem z5Z{ρ:Nat->Addr}{H:Hp}{σv tv:List (Option V)}{s:Stt}{i j:Int}{v u:V}(M:MRL G F.toFx ρ H σv tv s [.int i, .int j] [v,u]):v= .int i/\u= .int j:=by
 obtain⟨h1,h2⟩:=M.rd2
 simp only[RD] at h1 h2
 exact⟨h1,h2⟩
theorem zft:OpOK G F (fun x y H Q=>rI0 (fun i j=> .int (i+j)) x y H Q\/zdw G.K x y H Q\/rCat x y H Q\/∃i j,x= .str i/\y= .str j/\i.length+j.length<=sizeLine/\Q (.str (i++j)) H) addD:=by
 intro ρ s t t' v u H σv tv Q M W
 unfold addD at W
 split at W
 ·obtain⟨rfl,rfl⟩:=z5Z M
  exact .inl ⟨_,_,rfl,rfl,fun _=>W.flat M.m rfl⟩
 ·split at W
  ·rename_i a b hz
   obtain⟨h1,h2⟩:=M.rd2
   obtain⟨l1,l2⟩:=M.lb2
   obtain⟨p,xs,rfl,s1,r1⟩:=h1.tupx
   obtain⟨q,ys,rfl,s2,r2⟩:=h2.tupx
   refine .inr (.inl ⟨p,q,xs,ys,rfl,rfl,s1,s2,by rw[<-r1.length,<-r2.length];exact hz,z5Y W M.m (r1.append r2) ?_⟩)
   rw[z0r]
   intro l hl
   rcases List.mem_append.mp hl with q|q
   ·exact l1 l (by simpa only[labs] using q)
   ·exact l2 l (by simpa only[labs] using q)
  ·exact wfl W
 ·split at W
  ·rename_i la a lb b hz
   obtain⟨h1,h2⟩:=M.rd2
   obtain⟨l1,l2⟩:=M.lb2
   simp only[RD] at h1 h2
   obtain⟨rfl,xs,s1,r1⟩:=h1
   obtain⟨rfl,ys,s2,r2⟩:=h2
   refine .inr (.inr (.inl ⟨_,_,xs,ys,rfl,rfl,s1,s2,by rw[<-r1.length,<-r2.length];exact hz,fun p hp k=>z3x W M.m (r1.append r2) ?_ hp k⟩))
   rw[z0r]
   intro l hl
   rcases List.mem_append.mp hl with q|q
   ·exact l1 l (by simp only[labs];exact List.mem_cons_of_mem _ q)
   ·exact l2 l (by simp only[labs];exact List.mem_cons_of_mem _ q)
  ·exact wfl W
 ·split at W
  ·rename_i a b hz
   obtain⟨h1,h2⟩:=M.rd2
   simp only[RD] at h1 h2
   subst h1 h2
   exact .inr (.inr (.inr ⟨_,_,rfl,rfl,hz,fun _=>W.flat M.m rfl⟩))
  ·exact wfl W
 ·exact wfl W
theorem zfu:OpOK G F (rI0 fun i j=> .int (i -j)) subD:=by
 intro ρ s t t' v u H σv tv Q M W
 unfold subD at W
 split at W
 ·obtain⟨rfl,rfl⟩:=z5Z M
  exact⟨_,_,rfl,rfl,fun _=>W.flat M.m rfl⟩
 ·exact wfl W
theorem zdE:OpOK G F (rI CDiv fun i j=> .int (i/j)) z6R:=by
 intro ρ s t t' v u H σv tv Q M W
 unfold z6R at W
 split at W
 ·split at W
  ·rename_i hc
   obtain⟨rfl,rfl⟩:=z5Z M
   exact⟨_,_,rfl,rfl,hc,fun _=>W.flat M.m rfl⟩
  ·exact wfl W
 ·exact wfl W
theorem zfv:OpOK G F (rI (fun _ j=>0<j) fun i j=> .int (i %j)) modD:=by
 intro ρ s t t' v u H σv tv Q M W
 unfold modD at W
 split at W
 ·split at W
  ·rename_i hc
   obtain⟨rfl,rfl⟩:=z5Z M
   exact⟨_,_,rfl,rfl,hc,fun _=>W.flat M.m rfl⟩
  ·exact wfl W
 ·exact wfl W
theorem zfw:OpOK G F (rI CPow fun i j=> .int (i^j.toNat)) powD:=by
 intro ρ s t t' v u H σv tv Q M W
 unfold powD at W
 split at W
 ·split at W
  ·rename_i hc
   obtain⟨rfl,rfl⟩:=z5Z M
   exact⟨_,_,rfl,rfl,hc,fun _=>W.flat M.m rfl⟩
  ·exact wfl W
 ·exact wfl W
theorem zic:z1Q G F (rI0 fun i j=> .bl (decide (i<j))) ltD:=by
 intro ρ s t t' v u H σv tv Q M W
 unfold ltD at W
 split at W
 ·obtain⟨rfl,rfl⟩:=z5Z M
  exact⟨_,_,rfl,rfl,W.flat M.m rfl⟩
 ·exact wfl W
theorem zid:z1Q G F (rI0 fun i j=> .bl (decide (i<=j))) leD:=by
 intro ρ s t t' v u H σv tv Q M W
 unfold leD at W
 split at W
 ·obtain⟨rfl,rfl⟩:=z5Z M
  exact⟨_,_,rfl,rfl,W.flat M.m rfl⟩
 ·exact wfl W
theorem zie:z1Q G F (rI0 fun i j=> .bl (decide (j<i))) gtD:=by
 intro ρ s t t' v u H σv tv Q M W
 unfold gtD at W
 split at W
 ·obtain⟨rfl,rfl⟩:=z5Z M
  exact⟨_,_,rfl,rfl,W.flat M.m rfl⟩
 ·exact wfl W
theorem zif:z1Q G F (rEqD G.K false) eqD:=by
 intro ρ s t t' v u H σv tv Q M W
 unfold eqD at W
 split at W
 ·rename_i hc
  simp only[eqC,Bool.and_eq_true,decide_eq_true_eq] at hc
  obtain⟨⟨⟨⟨c1,c2⟩,c3⟩,c4⟩,c5⟩:=hc
  obtain⟨h1,h2⟩:=M.rd2
  exact⟨er t,er t',RD.dp _ _ h1 c1,RD.dp _ _ h2 c2,c3,c4,c5,W.flat M.m rfl⟩
 ·exact wfl W
theorem zig:z1Q G F (rEqD G.K true) neD:=by
 intro ρ s t t' v u H σv tv Q M W
 unfold neD at W
 split at W
 ·rename_i hc
  simp only[eqC,Bool.and_eq_true,decide_eq_true_eq] at hc
  obtain⟨⟨⟨⟨c1,c2⟩,c3⟩,c4⟩,c5⟩:=hc
  obtain⟨h1,h2⟩:=M.rd2
  exact⟨er t,er t',RD.dp _ _ h1 c1,RD.dp _ _ h2 c2,c3,c4,c5,W.flat M.m rfl⟩
 ·exact wfl W
theorem RD.dpSeq{ρ:Nat->Addr}{H:Hp}{t:D}{v:V}{ds:List D}(h:RD G ρ H t v)(e:seqD t=some ds)(p:plainL ds=true):Dp G.K H (.list (erL ds)) v\/Dp G.K H (.tuple (erL ds)) v:=by
 obtain⟨a,xs,rfl,sq,r,_⟩:=h.seq e
 have d:=RDs.dp ds xs r p
 rcases sq with sq|sq
 ·exact .inl (by simp only[Dp];exact⟨a,xs,rfl,sq,d⟩)
 ·exact .inr (by simp only[Dp];exact⟨a,xs,rfl,sq,d⟩)
theorem zih:z1Q G F (rInD G.K false) inD:=by
 intro ρ s t t' v u H σv tv Q M W
 unfold inD at W
 cases e:seqD t' with
 |some ds=>
  rw[e] at W
  dsimp only at W
  split at W
  ·rename_i hc
   simp only[inC,Bool.and_eq_true,decide_eq_true_eq] at hc
   obtain⟨⟨⟨⟨c1,c2⟩,c3⟩,c4⟩,c5⟩:=hc
   obtain⟨h1,h2⟩:=M.rd2
   exact⟨er t,erL ds,RD.dp _ _ h1 c1,h2.dpSeq e c2,c3,c4,c5,W.flat M.m rfl⟩
  ·exact wfl W
 |none=>rw[e] at W;exact wfl W
theorem zfx:z1Q G F (rInD G.K true) ninD:=by
 intro ρ s t t' v u H σv tv Q M W
 unfold ninD at W
 cases e:seqD t' with
 |some ds=>
  rw[e] at W
  dsimp only at W
  split at W
  ·rename_i hc
   simp only[inC,Bool.and_eq_true,decide_eq_true_eq] at hc
   obtain⟨⟨⟨⟨c1,c2⟩,c3⟩,c4⟩,c5⟩:=hc
   obtain⟨h1,h2⟩:=M.rd2
   exact⟨er t,erL ds,RD.dp _ _ h1 c1,h2.dpSeq e c2,c3,c4,c5,W.flat M.m rfl⟩
  ·exact wfl W
 |none=>rw[e] at W;exact wfl W
theorem RD.non_iff{ρ:Nat->Addr}{H:Hp}{t:D}{v:V}(h:RD G ρ H t v):v= .non↔t= .non:=by
 cases t<;>simp only[RD] at h<;>(try (subst h;simp))<;>(try (obtain⟨a,xs,rfl,_⟩:=h;simp))<;>(try (obtain⟨rfl,_⟩:=h;simp))<;>(try (obtain⟨a,o,C,rfl,_⟩:=h;simp))<;>(try (obtain⟨a,rfl,_⟩:=h;simp))
theorem zfy:z1Q G F (fun x y H Q=>y= .non/\Q (.bl (decide (x= .non))) H) isN:=by
 intro ρ s t t' v u H σv tv Q M W
 obtain⟨h1,h2⟩:=M.rd2
 have e1:=h1.non_iff
 unfold isN at W
 split at W
 ·simp only[RD] at h2
  exact⟨h2,by rw[decide_eq_true (e1.mpr rfl)];exact W.flat M.m rfl⟩
 ·rename_i ne
  simp only[RD] at h2
  exact⟨h2,by rw[decide_eq_false (fun z=>ne (e1.mp z))];exact W.flat M.m rfl⟩
 ·exact wfl W
theorem zfz{ρ:Nat->Addr}{H:Hp}{ds:List D}{xs:List V}{i:Int}{d:D}(r:RDs G ρ H ds xs)(e:atI ds i=some d): ∃x,atI xs i=some x/\RD G ρ H d x:=by
 unfold atI at e⊢
 rw[<-r.length]
 cases e1:ixN ds.length i with
 |none=>rw[e1] at e;cases e
 |some j=>
  rw[e1] at e
  exact r.get j d e
theorem zdF{α:Type}{ds:List α}{i:Int}{d:α}(e:atI ds i=some d):d∈ds:=by
 unfold atI at e
 cases e1:ixN ds.length i with
 |none=>rw[e1] at e;cases e
 |some j=>
  rw[e1] at e
  exact List.mem_of_getElem? e
theorem zii:OpOK G F (fun x y H Q=>rIxL G.K x y H Q\/rIxT G.K x y H Q) ixD:=by
 intro ρ s t t' v u H σv tv Q M W
 obtain⟨h1,h2⟩:=M.rd2
 unfold ixD at W
 cases e:seqD t with
 |none=>rw[e] at W;exact False.elim W
 |some ds=>
  rw[e] at W
  cases t' with
  |int i=>
   have W:wM G F σv tv (optM (atI ds i) s) Q:=W
   cases ea:atI ds i with
   |some d=>
    rw[ea] at W
    obtain⟨a,xs,rfl,sq,r,sub⟩:=h1.seq e
    obtain⟨x,ex,rx⟩:=zfz r ea
    simp only[RD] at h2
    subst h2
    have fin:KD G.K H->Q x H:=fun _=>W.out M.m rx fun l hl=>M.lb2.1 l (sub l (labsL_mem (zdF ea) l hl))
    rcases sq with sq|sq
    ·exact .inl ⟨a,xs,i,x,rfl,rfl,sq,ex,fin⟩
    ·exact .inr ⟨a,xs,i,x,rfl,rfl,sq,ex,fin⟩
   |none=>rw[ea] at W;exact False.elim W
  |_=>exact False.elim W
theorem zfA:UnOK G F (rU fun i=> .int (-i)) negD:=by
 intro ρ s t v H σv tv Q M W
 unfold negD at W
 split at W
 ·have h:=M.rd1
  simp only[RD] at h
  exact⟨_,h,fun _=>W.flat M.m rfl⟩
 ·exact wfl W
end
section
variable{X:Cx}{G:Gx}{F:Fy}{e a b c:Expr}{pos:Pos}
theorem RDs.flat{ρ:Nat->Addr}{H:Hp}{ds:List D}{xs:List V}(r:RDs G ρ H ds xs): ∀k:Nat,RDs G ρ H (List.replicate k ds).flatten (List.replicate k xs).flatten
 |0=>by simp[RDs]
 |k+1=>by
  rw[List.replicate_succ,List.replicate_succ,List.flatten_cons,List.flatten_cons]
  exact r.append (RDs.flat r k)
theorem z3Z{ds:List D}{l:Nat}: ∀k:Nat,l∈labsL (List.replicate k ds).flatten->l∈labsL ds
 |0,h=>by simp[labsL] at h
 |k+1,h=>by
  rw[List.replicate_succ,List.flatten_cons,z0r] at h
  rcases List.mem_append.mp h with h|h
  ·exact h
  ·exact z3Z k h
theorem zfB:OpOK G F (fun x y H Q=>rI CMul (fun i j=> .int (i*j)) x y H Q\/(rRep x y H Q\/zdy G.K x y H Q)) mulD:=by
 intro ρ s t t' v u H σv tv Q M W
 unfold mulD at W
 split at W
 ·split at W
  ·rename_i hc
   obtain⟨rfl,rfl⟩:=z5Z M
   exact .inl ⟨_,_,rfl,rfl,hc,fun _=>W.flat M.m rfl⟩
  ·exact wfl W
 ·split at W
  ·rename_i la a k hc
   obtain⟨h1,h2⟩:=M.rd2
   obtain⟨l1,l2⟩:=M.lb2
   simp only[RD] at h1 h2
   obtain⟨rfl,xs,s1,r1⟩:=h1
   subst h2
   refine .inr (.inl ⟨_,k,xs,rfl,rfl,s1,hc.1,hc.2.1,by rw[<-r1.length];exact hc.2.2,fun p hp kd=>z3x W M.m (r1.flat _) (fun l hl=> ?_) hp kd⟩)
   exact l1 l (by simp only[labs];exact List.mem_cons_of_mem _ (z3Z _ hl))
  ·exact wfl W
 ·split at W
  ·rename_i a k hc
   obtain⟨h1,h2⟩:=M.rd2
   obtain⟨l1,l2⟩:=M.lb2
   simp only[RD] at h1 h2
   obtain⟨a',xs,rfl,s1,r1⟩:=h1
   subst h2
   refine .inr (.inr ⟨_,k,xs,rfl,rfl,SqT.of s1,by rw[<-r1.length];exact hc.1,hc.2.1,hc.2.2.1,by rw[<-r1.length];exact hc.2.2.2,fun p hp kd=>z7p W M.m (r1.flat _) (fun l hl=> ?_) hp kd⟩)
   exact l1 l (by simp only[labs];exact z3Z _ hl)
  ·exact wfl W
 ·exact wfl W
noncomputable def cutA{α:Type}(xs:List α)(lo hi:Option Int):List α:=(xs.drop (HT.sIx xs.length 0 lo)).take (HT.sIx xs.length xs.length hi -HT.sIx xs.length 0 lo)
noncomputable def slD:D->Option Int->Option Int->M D
 | .tup ds,lo,hi=>rt (.tup (cutA ds lo hi))
 | .lst _ ds,lo,hi=>newL (cutA ds lo hi)
 | .ro ds,lo,hi=>newL (cutA ds lo hi)
 |_,_,_=>fl
theorem RDs.cut{ρ:Nat->Addr}{H:Hp}{ds:List D}{xs:List V}(r:RDs G ρ H ds xs)(lo hi:Option Int):RDs G ρ H (cutA ds lo hi) (cutV xs lo hi):=by
 unfold cutA cutV
 rw[r.length]
 exact(r.drop _).take _
theorem z4M{ds:List D}{lo hi:Option Int}{l:Nat}(h:l∈labsL (cutA ds lo hi)):l∈labsL ds:=by
 obtain⟨d,h1,h2⟩:=z1y h
 exact labsL_mem (List.mem_of_mem_drop (List.mem_of_mem_take h1)) l h2
noncomputable def mInt(d:D):Option Int:=match d with| .int i=>some i|_=>none
noncomputable def z3k:Option (M D)->M (Option Int)
 |none=>rt none
 |some m=>bd m fun d=>match mInt d with|some i=>rt (some i)|none=>fl
noncomputable def tP(G:Gx)(F:Fy)(m:M (Option Int)):TO:=fun σv H Q=> ∃tv,F.tv0<:+tv/\∃ρ s,MR G F.toFx ρ H σv tv s/\(match m s with
 | .ok o s'=> ∀ρ' H',MR G F.toFx ρ' H' σv tv s'->Q o H'
 | .ex d s'=>F.xw d s'
 | .no=>False)
noncomputable def SO(X:Cx)(G:Gx)(F:Fy)(e:Option Expr)(m:Option (M D)):Prop:=PO X e (tP G F (z3k m))
theorem so_none:SO X G F none none:=by
 intro pins s σ H Q I ⟨tv,hs,ρ,ms,M,W⟩
 exact zdn pins s σ H Q I (W ρ H M)
theorem so_some{m:M D}(h:SE X G F e m):SO X G F (some e) (some m):=by
 intro pins s σ H Q I ⟨tv,hs,ρ,ms,M,W⟩
 refine zdo h pins s σ H Q I ⟨tv,hs,ρ,ms,M, ?_⟩
 simp only[z3k,bd] at W
 cases e1:m ms with
 |ok d s1=>
  rw[e1] at W
  intro ρ' v H' M'
  cases d with
  |int i=>
   have h:=M'.rd1
   simp only[RD] at h
   exact⟨i,h,W ρ' H' M'.m⟩
  |_=>exact False.elim W
 |ex d s1=>rw[e1] at W;exact W
 |no=>rw[e1] at W;exact W
noncomputable def mSl(m:M D)(lo hi:Option (M D)):M D:=bd m fun x=>bd (psh x) fun _=>bd (z3k lo) fun l=>bd (z3k hi) fun h=>bd pop fun x'=>slD x' l h
theorem zij{ρ:Nat->Addr}{s:Stt}{t:D}{v:V}{H:Hp}{σv tv:List (Option V)}{lo hi:Option Int}{Q:VK}(M:MRL G F.toFx ρ H σv tv s [t] [v])(W:wM G F σv tv (slD t lo hi s) Q):
 rSlX G.K v lo hi H (fun w H'=>KD G.K H'->Q w H')\/rSlL G.K v lo hi H (fun w H'=>KD G.K H'->Q w H'):=by
 have h:=M.rd1
 cases t with
 |tup ds=>
  obtain⟨p,xs,rfl,s1,r1⟩:=h.tupx
  exact .inl ⟨p,xs,rfl,s1,z5Y W M.m (r1.cut lo hi) fun l hl=>M.lb1 l (by simp only[labs];exact z4M hl)⟩
 |lst n ds=>
  obtain⟨p,xs,rfl,s1,r1,_⟩:=h.lstq (ds:=ds) rfl
  exact .inr ⟨p,xs,rfl,s1,fun q hq k=>z3x W M.m (r1.cut lo hi) (fun l hl=>M.lb1 l (by simp only[labs];exact List.mem_cons_of_mem _ (z4M hl))) hq k⟩
 |ro ds=>
  obtain⟨p,xs,rfl,s1,r1,_⟩:=h.lstq (ds:=ds) rfl
  exact .inr ⟨p,xs,rfl,s1,fun q hq k=>z3x W M.m (r1.cut lo hi) (fun l hl=>M.lb1 l (by simp only[labs];exact z4M hl)) hq k⟩
 |_=>exact False.elim W
theorem se_slice{lo hi:Option Expr}{p2:Pos}{m:M D}{ml mh:Option (M D)}(hk:X.K=G.K)(he:SE X G F e m)(hl:SO X G F lo ml)(hh:SO X G F hi mh):SE X G F (.Subscript e (.Slice lo hi none p2) pos) (mSl m ml mh):=by
 refine PE.imp hk (z84 (r:=fun x lo hi H Q=>rSlX X.K x lo hi H Q\/rSlL X.K x lo hi H Q) (SlR.or zdv zds) he hl hh) fun σ H Q ⟨tv,h⟩=>⟨tv, ?_⟩
 obtain⟨hs,ρ,s,M,W⟩:=z5W h
 refine⟨hs,ρ,s,M,W.mono fun v H1 ⟨ρ1,s1,t,M1,W1⟩=>⟨some v::tv,suf1 hs,ρ1,s1.psh t,M1.push, ?_⟩⟩
 simp only[bd,psh] at W1
 cases e1:z3k ml (s1.psh t) with
 |ex d s2=>rw[e1] at W1;exact W1
 |no=>rw[e1] at W1;exact W1
 |ok l s2=>
  rw[e1] at W1
  intro ρ2 H2 M2
  refine⟨some v::tv,suf1 hs,ρ2,s2,M2, ?_⟩
  dsimp only at W1
  cases e2:z3k mh s2 with
  |ex d s3=>rw[e2] at W1;exact W1
  |no=>rw[e2] at W1;exact W1
  |ok h s3=>
   rw[e2] at W1
   intro ρ3 H3 M3
   simp only[pop] at W1
   cases e3:s3.tm with
   |nil=>rw[e3] at W1;exact W1.elim
   |cons o r=>
    cases o with
    |none=>rw[e3] at W1;exact W1.elim
    |some t'=>
     rw[e3] at W1
     have M4:MRL G F.toFx ρ3 H3 σ tv {s3 with tm:=r} [t'] [v]:=MRL.down (ts:=[]) (vs:=[]) ⟨M3,rfl,fun l h=>by simp[labsL] at h⟩ e3
     rw[hk]
     exact zij M4 W1
noncomputable def tupD(ts:List D):M D:=if ts.length<=sizeLine then rt (.tup ts) else fl
noncomputable def lstM(ts:List D):M D:=if ts.length<=sizeLine then newL ts else fl
theorem zfC:z1g G F (fun xs H1 Q=>xs.length<=sizeLine/\∀p,H1 p=none->Q (.ref p) (upd H1 p (.tup xs))) tupD:=by
 intro ρ s ts vs H σv tv Q M W
 unfold tupD at W
 split at W
 ·rename_i hz
  exact⟨by rw[<-M.rd.length];exact hz,fun p hp k=>z7p W M.m M.rd M.lb hp k⟩
 ·exact wfl W
theorem zfD:z1g G F (fun xs H1 Q=>xs.length<=sizeLine/\∀p,H1 p=none->Q (.ref p) (upd H1 p (.lst xs))) lstM:=by
 intro ρ s ts vs H σv tv Q M W
 unfold lstM at W
 split at W
 ·rename_i hz
  exact⟨by rw[<-M.rd.length];exact hz,fun p hp k=>z3x W M.m M.rd M.lb hp k⟩
 ·exact wfl W
theorem se_tup{es:List Expr}{ms:List (M D)}{x1}(hk:X.K=G.K)(h:SA X G F es (z03 ms)):SE X G F (.Tuple es x1 pos) (mCB ms tupD):=
 PE.imp hk (zfb h) fun _ _ _ h=>z4z zfC h
theorem se_lst{es:List Expr}{ms:List (M D)}(hk:X.K=G.K)(h:SA X G F es (z03 ms)):SE X G F (.List es pos) (mCB ms lstM):=
 PE.imp hk (zfc h) fun _ _ _ h=>z4z zfD h
noncomputable def truD:D->M Bool
 | .non=>rt false
 | .bool b=>rt b
 | .int i=>rt (i !=0)
 | .str x=>if x.length<=sizeLine then rt ((x.length:Int) !=0) else fl
 | .tup ds=>rt (!ds.isEmpty)
 | .ro ds=>rt (!ds.isEmpty)
 | .lst _ ds=>rt (!ds.isEmpty)
 |_=>fl
noncomputable def z0J(m:M D):M Bool:=bd m truD
theorem z40{ρ:Nat->Addr}{H:Hp}{ds:List D}{xs:List V}(r:RDs G ρ H ds xs):(!ds.isEmpty)= !xs.isEmpty:=by
 have:=r.length
 cases ds<;>cases xs<;>simp at this⊢
theorem zfE{ρ:Nat->Addr}{s:Stt}{t:D}{v:V}{H:Hp}{σv tv:List (Option V)}{Q:Bool->Hp->Prop}(M:MRL G F.toFx ρ H σv tv s [t] [v])(W:wB G F σv tv (truD t s) Q): ∃k,TruV G.K v H k/\Q k H:=by
 have h:=M.rd1
 cases t with
 |non=>simp only[RD] at h;subst h;exact⟨false,rfl,W ρ H M.m⟩
 |bool b=>simp only[RD] at h;subst h;exact⟨b,rfl,W ρ H M.m⟩
 |int i=>simp only[RD] at h;subst h;exact⟨_,rfl,W ρ H M.m⟩
 |str x=>
  simp only[RD] at h;subst h
  unfold truD at W
  by_cases hz:x.length<=sizeLine
  ·simp only[if_pos hz] at W;exact⟨_,⟨hz,rfl⟩,W ρ H M.m⟩
  ·simp only[if_neg hz] at W;exact False.elim W
 |tup ds=>
  obtain⟨p,xs,rfl,s1,r1⟩:=h.tupq
  exact⟨_, .inr (.inl ⟨xs,s1,z40 r1⟩),W ρ H M.m⟩
 |ro ds=>
  obtain⟨p,xs,rfl,s1,r1,_⟩:=h.lstq (ds:=ds) rfl
  exact⟨_, .inl ⟨xs,s1,z40 r1⟩,W ρ H M.m⟩
 |lst n ds=>
  obtain⟨p,xs,rfl,s1,r1,_⟩:=h.lstq (ds:=ds) rfl
  exact⟨_, .inl ⟨xs,s1,z40 r1⟩,W ρ H M.m⟩
 |dct _ _ _=>exact False.elim W
 |fdc _ _=>exact False.elim W
 |obj _ _ _ _=>exact False.elim W
 |exc _=>exact False.elim W
 |fn _=>exact False.elim W
theorem zbw{m:M D}{σ:St}{H:Hp}{Q:Bool->Hp->Prop}(h:tMB G F (z0J m) σ H Q):tM G F m σ H fun x H'=> ∃k,TruV G.K x H' k/\Q k H':=by
 obtain⟨tv,hs,ρ,s,M,W⟩:=h
 refine⟨tv,hs,ρ,s,M, ?_⟩
 unfold z0J bd at W
 cases e:m s with
 |ok t s1=>rw[e] at W;exact fun ρ1 v H1 M1=>zfE M1 W
 |ex d s1=>rw[e] at W;exact W
 |no=>rw[e] at W;exact W
theorem sb_truth{m:M D}(hk:X.K=G.K)(ha:SE X G F a m)(he: ∀whole,isTrue a X.env whole=(do let v<-whole;standAt a.pos;holding [v] (truthy v)):=by intro _;rfl):SB X G F a (z0J m):=by
 refine PT.imp hk (zbp ha he) fun σ H Q h=> ?_
 rw[hk]
 obtain⟨tv,h'⟩:=zbw h
 exact⟨tv,h'.mono fun v H1 ⟨k,q1,q2⟩=>⟨k,q1,fun _=>q2⟩⟩
noncomputable def booD:D->M Bool
 | .bool b=>rt b
 |_=>fl
noncomputable def mBoo(m:M D):M Bool:=bd m booD
theorem z9N{m:M D}{σ:St}{H:Hp}{Q:Bool->Hp->Prop}(h:tMB G F (mBoo m) σ H Q):tM G F m σ H fun x H'=> ∃k,x= .bl k/\Q k H':=by
 obtain⟨tv,hs,ρ,s,M,W⟩:=h
 refine⟨tv,hs,ρ,s,M, ?_⟩
 unfold mBoo bd at W
 cases e:m s with
 |ok t s1=>
  rw[e] at W
  intro ρ1 v H1 M1
  have h:=M1.rd1
  cases t with
  |bool b=>simp only[RD] at h;exact⟨b,h,W ρ1 H1 M1.m⟩
  |_=>exact False.elim W
 |ex d s1=>rw[e] at W;exact W
 |no=>rw[e] at W;exact W
theorem zdG{op:CmpOp}{r:R2}{ma mb:M D}{g:D->D->M D}(ho:OpR X (compareOp op) r)(hg:z1Q G F r g)(ha:SE X G F a ma)(hb:SE X G F b mb)(hm:behindInMarks op b=false):SB X G F (.Compare a [op] [b] pos) (mBoo (mBin ma mb g)):=
 PT.imp0 (zdj ho ha hb hm) fun _ _ _ h=>z5X hg (z9N h)
theorem zdH{m:M Bool}{f:Bool->M Bool}{σ:St}{tv:List (Option V)}{H:Hp}{Q:Bool->Hp->Prop}(h:tBv G F (bd m f) σ tv H Q):tBv G F m σ tv H fun b H1=> ∃ρ1 s1,MR G F.toFx ρ1 H1 σ tv s1/\wB G F σ tv (f b s1) Q:=by
 obtain⟨hs,ρ,s,M,W⟩:=h
 refine⟨hs,ρ,s,M, ?_⟩
 unfold bd at W
 cases e:m s with
 |ok b s1=>rw[e] at W;exact fun ρ1 H1 M1=>⟨ρ1,s1,M1,W⟩
 |ex d s1=>rw[e] at W;exact W
 |no=>rw[e] at W;exact W
theorem wB.mono{σv tv:List (Option V)}{r:Res Bool}{Q Q':Bool->Hp->Prop}(h:wB G F σv tv r Q)(k: ∀v H,Q v H->Q' v H):wB G F σv tv r Q':=by
 cases r with
 |ok t s=>exact fun ρ H M=>k _ _ (h ρ H M)
 |ex d s=>exact h
 |no=>exact h
theorem tBv.mono{m:M Bool}{σv tv:List (Option V)}{H:Hp}{Q Q':Bool->Hp->Prop}(h:tBv G F m σv tv H Q)(k: ∀v H,Q v H->Q' v H):tBv G F m σv tv H Q':=by
 obtain⟨hs,ρ,s,M,W⟩:=h
 exact⟨hs,ρ,s,M,W.mono k⟩
noncomputable def iteM{α:Type}(b:Bool)(m m':M α):M α:=match b with|true=>m|false=>m'
noncomputable def mAnd(m m':M Bool):M Bool:=bd m fun b=>iteM b m' (rt false)
noncomputable def mOr(m m':M Bool):M Bool:=bd m fun b=>iteM b (rt true) m'
noncomputable def mNot(m:M Bool):M Bool:=bd m fun b=>rt (!b)
noncomputable def SW(X:Cx)(G:Gx)(F:Fy)(e:Expr)(m:M Bool):Prop:=PW X e (tMB G F m)
theorem SW.sb{m:M Bool}(h:SW X G F e m):SB X G F e m:=PW.pt h
theorem PW.imp0{t t':TT}(h:PW X e t)(hi: ∀σ H Q,t' σ H Q->t σ H Q):PW X e t':=fun wh pins s σ H Q I q=>h wh pins s σ H _ I (hi σ H Q q)
theorem sw_and1{m:M Bool}(h:SB X G F a m):SW X G F (.BoolOp .And [a] pos) m:=zdc h
theorem sw_or1{m:M Bool}(h:SB X G F a m):SW X G F (.BoolOp .Or [a] pos) m:=zeT h
theorem sw_and{rest:List Expr}{m m':M Bool}(ha:SB X G F a m)(hb:SW X G F (.BoolOp .And (b::rest) pos) m'):SW X G F (.BoolOp .And (a::b::rest) pos) (mAnd m m'):=by
 refine PW.imp0 (zeU ha hb) fun σ H Q ⟨tv,h⟩=>⟨tv,(zdH h).mono fun b H1 ⟨ρ1,s1,M1,W⟩=> ?_⟩
 cases b with
 |true=>rw[if_pos rfl];exact⟨tv,h.1,ρ1,s1,M1,W⟩
 |false=>rw[if_neg Bool.false_ne_true];exact W ρ1 H1 M1
theorem sw_or{rest:List Expr}{m m':M Bool}(ha:SB X G F a m)(hb:SW X G F (.BoolOp .Or (b::rest) pos) m'):SW X G F (.BoolOp .Or (a::b::rest) pos) (mOr m m'):=by
 refine PW.imp0 (zhN ha hb) fun σ H Q ⟨tv,h⟩=>⟨tv,(zdH h).mono fun b H1 ⟨ρ1,s1,M1,W⟩=> ?_⟩
 cases b with
 |true=>rw[if_pos rfl];exact W ρ1 H1 M1
 |false=>rw[if_neg Bool.false_ne_true];exact⟨tv,h.1,ρ1,s1,M1,W⟩
theorem sb_not{m:M Bool}(ha:SB X G F a m):SB X G F (.UnaryOp .Not a pos) (mNot m):=by
 refine PT.imp0 (zeV ha) fun σ H Q ⟨tv,h⟩=>⟨tv,(zdH h).mono fun b H1 ⟨ρ1,s1,M1,W⟩=>W ρ1 H1 M1⟩
noncomputable def z5j(m m':M D):M D:=bd (mBoo m) fun b=>iteM b m' (rt (.bool false))
noncomputable def z9O(m:M D):M D:=bd (mBoo m) fun b=>rt (.bool (!b))
theorem zcn{m:M D}{f:Bool->M D}{σ:St}{H:Hp}{Q:VK}(h:tM G F (bd (mBoo m) f) σ H Q):tM G F m σ H fun x H1=> ∃k,x= .bl k/\∃ρ1 s1 tv,F.tv0<:+tv/\MR G F.toFx ρ1 H1 σ tv s1/\wM G F σ tv (f k s1) Q:=by
 obtain⟨tv,hs,ρ,s,M,W⟩:=h
 refine⟨tv,hs,ρ,s,M, ?_⟩
 unfold mBoo bd at W
 cases e:m s with
 |ok t s1=>
  rw[e] at W
  intro ρ1 v H1 M1
  have h:=M1.rd1
  cases t with
  |bool b=>simp only[RD] at h;exact⟨b,h,ρ1,s1,tv,hs,M1.m,W⟩
  |_=>exact False.elim W
 |ex d s1=>rw[e] at W;exact W
 |no=>rw[e] at W;exact W
theorem tM.mono{m:M D}{σ:St}{H:Hp}{Q Q':VK}(h:tM G F m σ H Q)(k: ∀v H,Q v H->Q' v H):tM G F m σ H Q':=by
 obtain⟨tv,h⟩:=h
 exact⟨tv,h.mono k⟩
theorem se_one{op}{m:M D}(h:SE X G F a m):SE X G F (.BoolOp op [a] pos) m:=zeW h
theorem se_and{rest:List Expr}{m m':M D}(ha:SE X G F a m)(hb:SE X G F (.BoolOp .And (b::rest) pos) m'):SE X G F (.BoolOp .And (a::b::rest) pos) (z5j m m'):=by
 refine PE.imp0 (zeX ha hb) fun σ H Q h=>(zcn h).mono fun x H1 ⟨k,e,ρ1,s1,tv,hs,M1,W⟩=>⟨k,e, ?_⟩
 cases k with
 |true=>rw[if_pos rfl];exact⟨tv,hs,ρ1,s1,M1,W⟩
 |false=>rw[if_neg Bool.false_ne_true];exact W.flat M1 rfl
theorem se_not{m:M D}(ha:SE X G F a m):SE X G F (.UnaryOp .Not a pos) (z9O m):=by
 refine PE.imp0 (zeY ha) fun σ H Q h=>(zcn h).mono fun x H1 ⟨k,e,ρ1,s1,tv,hs,M1,W⟩=>⟨k,e,W.flat M1 rfl⟩
noncomputable def mIf(c:M Bool)(m m':M D):M D:=bd c fun b=>iteM b m m'
theorem zfF{m:M Bool}{f:Bool->M D}{σ:St}{H:Hp}{Q:VK}(h:tM G F (bd m f) σ H Q):tMB G F m σ H fun b H1=> ∃ρ1 s1 tv,F.tv0<:+tv/\MR G F.toFx ρ1 H1 σ tv s1/\wM G F σ tv (f b s1) Q:=by
 obtain⟨tv,hs,ρ,s,M,W⟩:=h
 refine⟨tv,hs,ρ,s,M, ?_⟩
 unfold bd at W
 cases e:m s with
 |ok b s1=>rw[e] at W;exact fun ρ1 H1 M1=>⟨ρ1,s1,tv,hs,M1,W⟩
 |ex d s1=>rw[e] at W;exact W
 |no=>rw[e] at W;exact W
theorem tMB.mono{m:M Bool}{σ:St}{H:Hp}{Q Q':Bool->Hp->Prop}(h:tMB G F m σ H Q)(k: ∀v H,Q v H->Q' v H):tMB G F m σ H Q':=by
 obtain⟨tv,h⟩:=h
 exact⟨tv,h.mono k⟩
theorem se_ifExp{mc:M Bool}{m m':M D}(hc:SB X G F c mc)(ha:SE X G F a m)(hb:SE X G F b m'):SE X G F (.IfExp c a b pos) (mIf mc m m'):=by
 refine PE.imp0 (zbi hc ha hb) fun σ H Q h=>(zfF h).mono fun k H1 ⟨ρ1,s1,tv,hs,M1,W⟩=> ?_
 cases k with
 |true=>rw[if_pos rfl];exact⟨tv,hs,ρ1,s1,M1,W⟩
 |false=>rw[if_neg Bool.false_ne_true];exact⟨tv,hs,ρ1,s1,M1,W⟩
noncomputable def z8W(y:D)(m:M D):M D:=match cV y with|some _=>m|none=>fl
noncomputable def z0C(ma mb mc:M D)(g g':D->D->M D):M D:=bd ma fun x=>bd (psh x) fun _=>bd mb fun y=>bd pop fun x'=>z8W y (bd (mBoo (g x' y)) fun k=>iteM k (bd mc fun z=>g' y z) (rt (.bool false)))
theorem z6S{ma mb mc:M D}{g g':D->D->M D}{r r':R2}{σ:St}{H:Hp}{Q:VK}(hg:z1Q G F r g)(hg':z1Q G F r' g')(h:tM G F (z0C ma mb mc g g') σ H Q):z9t r r' (tM G F ma) (tM G F mb) (tM G F mc) σ H Q:=by
 obtain⟨tv,h⟩:=h
 have hs:=h.1
 refine⟨tv,(z89 (g:=fun x' y=>z8W y (bd (mBoo (g x' y)) fun k=>iteM k (bd mc fun z=>g' y z) (rt (.bool false)))) h).mono fun v H1 h1=>⟨_,h1.mono fun u H2 ⟨ρ,s,t,t',M,W⟩=> ?_⟩⟩
 unfold z8W at W
 cases e:cV t' with
 |none=>rw[e] at W;exact False.elim W
 |some u'=>
  rw[e] at W
  have hu:u=u':=by
   have h2:=M.rd2.2
   cases t'<;>simp only[cV,Option.some.injEq] at e<;>simp only[RD] at h2<;>first|(rw[h2,e])|cases e
  subst hu
  unfold bd mBoo at W
  dsimp only at W
  refine hg ρ s t t' v u H2 σ tv _ M ?_
  unfold bd at W
  cases e2:g t t' s with
  |ok z s1=>
   rw[e2] at W
   intro ρ1 w H3 M3
   have h3:=M3.rd1
   cases z with
   |bool k=>
    simp only[RD] at h3
    refine⟨k,h3, ?_⟩
    have W:wM G F σ tv (iteM k (bd mc fun z=>g' t' z) (rt (.bool false)) s1) Q:=W
    cases k with
    |false=>rw[if_neg Bool.false_ne_true];exact W.flat M3.m rfl
    |true=>
     rw[if_pos rfl]
     have h5:tMv G F (bd mc fun z=>g' t' z) σ tv H3 Q:=⟨hs,ρ1,s1,M3.m,W⟩
     refine⟨tv,(z5W h5).mono fun w' H4 ⟨ρ4,s4,t4,M4,W4⟩=>hg' ρ4 s4 t' t4 u w' H4 σ tv Q ⟨M4.m, ?_,fun l hl=> ?_⟩ W4⟩
     ·simp only[RDs];exact⟨_,_,rfl,(z8V e).1,_,_,rfl,M4.rd1,rfl⟩
     ·simp only[labsL,(z8V (G:=G) (ρ:=ρ4) (H:=H4) e).2,List.nil_append,List.append_nil] at hl
      exact M4.lb1 l hl
   |_=>exact False.elim W
  |ex d s1=>rw[e2] at W;exact W
  |no=>rw[e2] at W;exact W
theorem zbx{op op':CmpOp}{r r':R2}{ma mb mc:M D}{g g':D->D->M D}(ho:OpR X (compareOp op) r)(hg:z1Q G F r g)(ho':OpR X (compareOp op') r')(hg':z1Q G F r' g')(ha:SE X G F a ma)(hb:SE X G F b mb)(hc:SE X G F c mc)
 (hm:lastMarks [op,op'] [b,c]=false:=by with_unfolding_all rfl):SE X G F (.Compare a [op,op'] [b,c] pos) (z0C ma mb mc g g'):=
 PE.imp0 (zbn ho ho' ha hb hc hm) fun _ _ _ h=>z6S hg hg' h
theorem zby{op op':CmpOp}{r r':R2}{ma mb mc:M D}{g g':D->D->M D}(ho:OpR X (compareOp op) r)(hg:z1Q G F r g)(ho':OpR X (compareOp op') r')(hg':z1Q G F r' g')(ha:SE X G F a ma)(hb:SE X G F b mb)(hc:SE X G F c mc)
 (hm:lastMarks [op,op'] [b,c]=false:=by with_unfolding_all rfl):SB X G F (.Compare a [op,op'] [b,c] pos) (mBoo (z0C ma mb mc g g')):=
 PT.imp0 (zbo ho ho' ha hb hc hm) fun _ _ _ h=>z6S hg hg' (z9N h)
end
noncomputable def lenD:List D->M D
 |[.tup ds]=>rt (.int ds.length)
 |[.ro ds]=>rt (.int ds.length)
 |[.lst _ ds]=>rt (.int ds.length)
 |_=>fl
noncomputable def absD:List D->M D
 |[.int i]=>rt (.int (if i<0 then -i else i))
 |_=>fl
noncomputable def minD:List D->M D
 |[.int i, .int j]=>rt (.int (if j<i then j else i))
 |_=>fl
noncomputable def maxD:List D->M D
 |[.int i, .int j]=>rt (.int (if j>i then j else i))
 |_=>fl
noncomputable def z2S:List D->Option (List Bool)
 |[]=>some []
 | .bool b::r=>(z2S r).map (b:: ·)
 |_=>none
noncomputable def allD:List D->M D
 |[.lst _ ds]=>match z2S ds with|some bs=>rt (.bool (bs.all id))|none=>fl
 |_=>fl
noncomputable def intD:List D->M D
 |[.int i]=>rt (.int i)
 |[.bool b]=>rt (.int (if b then 1 else 0))
 |_=>fl
noncomputable def tupF:List D->M D
 |[.tup ds]=>rt (.tup ds)
 |[.ro ds]=>rt (.tup ds)
 |[.lst _ ds]=>rt (.tup ds)
 |_=>fl
noncomputable def z5k:List D->M D
 |[.tup ds]=>newL ds
 |[.ro ds]=>newL ds
 |[.lst _ ds]=>newL ds
 |_=>fl
section
variable{X:Cx}{G:Gx}{F:Fy}{e a b c:Expr}{pos:Pos}
theorem MRL.one{ρ:Nat->Addr}{H:Hp}{σv tv:List (Option V)}{s:Stt}{t:D}{vs:List V}(M:MRL G F.toFx ρ H σv tv s [t] vs): ∃v,vs=[v]/\RD G ρ H t v/\LB F.toFx ρ s.n (labs t):=by
 have h:=M.rd
 simp only[RDs] at h
 obtain⟨v,r,rfl,h,rfl⟩:=h
 exact⟨v,rfl,h,M.lb1⟩
theorem MRL.two{ρ:Nat->Addr}{H:Hp}{σv tv:List (Option V)}{s:Stt}{t t':D}{vs:List V}(M:MRL G F.toFx ρ H σv tv s [t,t'] vs): ∃v u,vs=[v,u]/\RD G ρ H t v/\RD G ρ H t' u:=by
 have h:=M.rd
 simp only[RDs] at h
 obtain⟨v,r,rfl,h,u,q,rfl,h',rfl⟩:=h
 exact⟨v,u,rfl,h,h'⟩
theorem zco:z1g G F (fun xs H Q=> ∃p ys,xs=[.ref p]/\(SqL G.K H p ys\/SqT G.K H p ys)/\Q (.int ys.length) H) lenD:=by
 intro ρ s ts vs H σv tv Q M W
 unfold lenD at W
 split at W
 ·obtain⟨v,rfl,h,_⟩:=M.one
  obtain⟨p,xs,rfl,s1,r1,_⟩:=h.seq rfl
  exact⟨p,xs,rfl,s1,fun _=>by rw[<-r1.length];exact W.flat M.m rfl⟩
 ·obtain⟨v,rfl,h,_⟩:=M.one
  obtain⟨p,xs,rfl,s1,r1,_⟩:=h.seq rfl
  exact⟨p,xs,rfl,s1,fun _=>by rw[<-r1.length];exact W.flat M.m rfl⟩
 ·obtain⟨v,rfl,h,_⟩:=M.one
  obtain⟨p,xs,rfl,s1,r1,_⟩:=h.seq rfl
  exact⟨p,xs,rfl,s1,fun _=>by rw[<-r1.length];exact W.flat M.m rfl⟩
 ·exact wfl W
theorem zfG:z1g G F (fun xs H Q=> ∃i,xs=[.int i]/\Q (.int (if i<0 then -i else i)) H) absD:=by
 intro ρ s ts vs H σv tv Q M W
 unfold absD at W
 split at W
 ·obtain⟨v,rfl,h,_⟩:=M.one
  simp only[RD] at h
  subst h
  exact⟨_,rfl,fun _=>W.flat M.m rfl⟩
 ·exact wfl W
theorem zfH:z1g G F (fun xs H Q=> ∃i j,xs=[.int i, .int j]/\Q (.int (if j<i then j else i)) H) minD:=by
 intro ρ s ts vs H σv tv Q M W
 unfold minD at W
 split at W
 ·obtain⟨v,u,rfl,h,h'⟩:=M.two
  simp only[RD] at h h'
  subst h h'
  exact⟨_,_,rfl,fun _=>W.flat M.m rfl⟩
 ·exact wfl W
theorem zfI:z1g G F (fun xs H Q=> ∃i j,xs=[.int i, .int j]/\Q (.int (if j>i then j else i)) H) maxD:=by
 intro ρ s ts vs H σv tv Q M W
 unfold maxD at W
 split at W
 ·obtain⟨v,u,rfl,h,h'⟩:=M.two
  simp only[RD] at h h'
  subst h h'
  exact⟨_,_,rfl,fun _=>W.flat M.m rfl⟩
 ·exact wfl W
theorem z8a{ρ:Nat->Addr}{H:Hp}: ∀{ds:List D} {xs:List V} {bs:List Bool},RDs G ρ H ds xs->z2S ds=some bs->xs=bs.map V.bl
 |[],xs,bs,r,e=>by simp only[RDs] at r;simp only[z2S,Option.some.injEq] at e;subst r e;rfl
 |d::ds,xs,bs,r,e=>by
  simp only[RDs] at r
  obtain⟨x,q,rfl,h1,h2⟩:=r
  cases d with
  |bool b=>
   simp only[z2S] at e
   cases e1:z2S ds with
   |none=>rw[e1] at e;cases e
   |some cs=>
    rw[e1] at e
    cases e
    simp only[RD] at h1
    rw[h1,z8a h2 e1];rfl
  |_=>simp only[z2S] at e;cases e
theorem zfJ:z1g G F (fun xs H Q=> ∃(p:Addr) (bs:List Bool),xs=[.ref p]/\SqL G.K H p (bs.map V.bl)/\Q (.bl (bs.all id)) H) allD:=by
 intro ρ s ts vs H σv tv Q M W
 unfold allD at W
 split at W
 ·rename_i l ds
  cases e1:z2S ds with
  |none=>rw[e1] at W;exact False.elim W
  |some bs=>
   rw[e1] at W
   obtain⟨v,rfl,h,_⟩:=M.one
   obtain⟨p,xs,rfl,s1,r1,_⟩:=h.lstq (ds:=ds) rfl
   rw[z8a r1 e1] at s1
   exact⟨p,bs,rfl,s1,fun _=>W.flat M.m rfl⟩
 ·exact wfl W
theorem zcp:z1g G F (fun xs H Q=>(∃i,xs=[.int i]/\Q (.int i) H)\/∃k,xs=[.bl k]/\Q (.int (if k then 1 else 0)) H) intD:=by
 intro ρ s ts vs H σv tv Q M W
 unfold intD at W
 split at W
 ·obtain⟨v,rfl,h,_⟩:=M.one
  simp only[RD] at h
  subst h
  exact .inl ⟨_,rfl,fun _=>W.flat M.m rfl⟩
 ·obtain⟨v,rfl,h,_⟩:=M.one
  simp only[RD] at h
  subst h
  exact .inr ⟨_,rfl,fun _=>W.flat M.m rfl⟩
 ·exact wfl W
theorem zdI:z1g G F (fun xs H Q=> ∃(p:Addr) (ys:List V),xs=[.ref p]/\(SqL G.K H p ys\/H p=some (.tup ys))/\NewX G.K H ys Q) tupF:=by
 intro ρ s ts vs H σv tv Q M W
 have fin: ∀(t:D) (ds:List D),ts=[t]->seqD t=some ds->wM G F σv tv (.ok (.tup ds) s) Q->∃(p:Addr) (ys:List V),vs=[.ref p]/\(SqL G.K H p ys\/H p=some (.tup ys))/\NewX G.K H ys (fun w H'=>KD G.K H'->Q w H'):=fun t ds et es W'=>by
  subst et
  obtain⟨v,rfl,h,lb⟩:=M.one
  obtain⟨p,xs,rfl,s1,r1,sub⟩:=h.seqx es
  exact⟨p,xs,rfl,s1,z5Y W' M.m r1 fun l hl=>lb l (sub l hl)⟩
 unfold tupF at W
 split at W
 ·exact fin _ _ rfl rfl W
 ·exact fin _ _ rfl rfl W
 ·exact fin _ _ rfl rfl W
 ·exact wfl W
theorem zbz:z1g G F (fun xs H Q=> ∃p ys,xs=[.ref p]/\(SqL G.K H p ys\/SqT G.K H p ys)/\∀l,H l=none->Q (.ref l) (upd H l (.lst ys))) z5k:=by
 intro ρ s ts vs H σv tv Q M W
 have fin: ∀(t:D) (ds:List D),ts=[t]->seqD t=some ds->wM G F σv tv (.ok (.lst s.n ds) s.nxt) Q->∃p ys,vs=[.ref p]/\(SqL G.K H p ys\/SqT G.K H p ys)/\∀l,H l=none->KD G.K (upd H l (.lst ys))->Q (.ref l) (upd H l (.lst ys)):=fun t ds et es W'=>by
  subst et
  obtain⟨v,rfl,h,lb⟩:=M.one
  obtain⟨p,xs,rfl,s1,r1,sub⟩:=h.seq es
  exact⟨p,xs,rfl,s1,fun l hl k=>z3x W' M.m r1 (fun l hl=>lb l (sub l hl)) hl k⟩
 unfold z5k at W
 split at W
 ·exact fin _ _ rfl rfl W
 ·exact fin _ _ rfl rfl W
 ·exact fin _ _ rfl rfl W
 ·exact wfl W
noncomputable def isiD(T:String):D->Option Bool
 | .non=>some false
 | .bool _=>some (T== "int" ||T== "bool")
 | .int _=>some (T== "int")
 | .str _=>some (T== "str")
 | .tup _=>some (T== "tuple")
 | .ro _=>some (T== "list")
 | .lst _ _=>some (T== "list")
 |_=>none
noncomputable def mIsi(T:String)(m:M D):M D:=bd m fun d=>match isiD T d with|some b=>rt (.bool b)|none=>fl
theorem zfK{ρ:Nat->Addr}{H:Hp}{t:D}{v:V}{T:String}{b:Bool}(h:RD G ρ H t v)(e:isiD T t=some b):isiV G.K H T b v:=by
 cases t<;>simp only[isiD,Option.some.injEq] at e<;>try cases e
 ·simp only[RD] at h;subst h;exact rfl
 ·simp only[RD] at h;subst h;exact rfl
 ·simp only[RD] at h;subst h;exact rfl
 ·simp only[RD] at h;subst h;exact rfl
 ·obtain⟨p,xs,rfl,s1,r1⟩:=h.tupq
  exact .inl ⟨xs,s1,rfl⟩
 ·obtain⟨p,xs,rfl,s1,r1,_⟩:=h.lstq rfl
  exact .inr ⟨xs,s1,rfl⟩
 ·obtain⟨p,xs,rfl,s1,r1,_⟩:=h.lstq rfl
  exact .inr ⟨xs,s1,rfl⟩
theorem se_isi{p:Pos}{x y:Expr}{T:String}{m:M D}(hk:X.K=G.K)(hT:T= "int" \/T= "bool" \/T= "tuple" \/T= "list" \/T= "str")(hgl:Gl X "isinstance")(hm:X.mg "isinstance" =none)(ha:SE X G F x m)(hy:PE X y (tC (.ty T)))
 (he:starEach [x,y] X.env=(false,eval x X.env)::starEach [y] X.env:=by rfl) (he2:starEach [y] X.env=(false,eval y X.env)::starEach [] X.env:=by rfl) (hpl:(backTo pos (starEach [y] X.env)).any (·.1)=false:=by rfl):SE X G F (.Call (.Name "isinstance" p) [x,y] [] pos) (mIsi T m):=by
 refine PE.imp hk (z83 zbu hgl hm PyProof.Rows.Boot.«isinstance» (z7m ha (z7m hy zcm he2) he) (by decide) (by decide) he hpl) fun σ H Q ⟨tv,h⟩=>⟨tv,(z5W h).mono fun v H1 ⟨ρ1,s1,t,M1,W⟩=> ?_⟩
 cases e:isiD T t with
 |none=>simp only[e] at W;exact False.elim W
 |some b=>
  simp only[e] at W
  rw[hk]
  exact⟨v,T,b,rfl,hT,zfK M1.rd1 e,fun _=>W.flat M1.m rfl⟩
end
inductive RS where
 |nx (s:Stt)|rt (d:D) (s:Stt)|bk (s:Stt)|ct (s:Stt)|ex (d:D) (s:Stt)|no
noncomputable abbrev MS:=Stt->RS
noncomputable def lift{α:Type}(m:M α)(f:α->MS):MS:=fun s=>match m s with
 | .ok a s'=>f a s'
 | .ex d s'=> .ex d s'
 | .no=> .no
noncomputable def seqS(m m':MS):MS:=fun s=>match m s with
 | .nx s'=>m' s'
 |r=>r
noncomputable def sNx:MS:=fun s=> .nx s
noncomputable def z2n(m:M D):MS:=lift m fun _=>sNx
noncomputable def sRet(m:M D):MS:=lift m fun d s=> .rt d s
noncomputable def iteS(b:Bool)(m m':MS):MS:=match b with|true=>m|false=>m'
noncomputable def sIf(c:M Bool)(m m':MS):MS:=lift c fun b=>iteS b m m'
inductive Tg where
 |nm (i:Nat)|tp (ts:List Tg)
mutual
noncomputable def asg:Tg->D->List (Option D)->Option (List (Option D))
 | .nm i,t,σ=>some (σ.set i (some t))
 | .tp ts, .tup ds,σ=>asgL ts ds σ
 | .tp ts, .lst _ ds,σ=>asgL ts ds σ
 | .tp _,_,_=>none
noncomputable def asgL:List Tg->List D->List (Option D)->Option (List (Option D))
 |[],[],σ=>some σ
 |t::ts,d::ds,σ=>match asg t d σ with|some σ'=>asgL ts ds σ'|none=>none
 |_,_,_=>none
end
noncomputable def sAsg(g:Tg)(m:M D):MS:=lift m fun d s=>match asg g d s.σ with
 |some σ'=> .nx {s with σ:=σ'}
 |none=> .no
section
variable{X:Cx}{G:Gx}{F:Fy}{e a b c:Expr}{st:Stmt}{sts rest:List Stmt}{pos:Pos}
noncomputable def wS(G:Gx)(F:Fy)(tv:List (Option V))(r:RS)(D:Ends):Prop:=match r with
 | .nx s'=> ∀ρ' σv' H',MR G F.toFx ρ' H' σv' tv s'->D.nx σv' H'
 | .rt t s'=> ∀ρ' σv' v H',MRL G F.toFx ρ' H' σv' tv s' [t] [v]->D.rt v H'
 | .bk s'=> ∀ρ' σv' H',MR G F.toFx ρ' H' σv' tv s'->D.bk σv' H'
 | .ct s'=> ∀ρ' σv' H',MR G F.toFx ρ' H' σv' tv s'->D.ct σv' H'
 | .ex d s'=>F.xw d s'
 | .no=>False
noncomputable def tSv(G:Gx)(F:Fy)(m:MS)(tv:List (Option V))(D:Ends)(σv:St)(H:Hp):Prop:=F.tv0<:+tv/\∃ρ s,MR G F.toFx ρ H σv tv s/\wS G F tv (m s) D
noncomputable def tS(G:Gx)(F:Fy)(m:MS):TS:=fun D σv H=> ∃tv,tSv G F m tv D σv H
noncomputable def SS(X:Cx)(G:Gx)(F:Fy)(st:Stmt)(m:MS):Prop:=PS X st (tS G F m)
noncomputable def SSs(X:Cx)(G:Gx)(F:Fy)(sts:List Stmt)(m:MS):Prop:=PSs X sts (tS G F m)
theorem PS.imp0{t t':TS}(h:PS X st t)(hi: ∀D σ H,t' D σ H->t D σ H):PS X st t':=fun pins s σ H D I q=>h pins s σ H D I (hi D σ H q)
theorem PSs.imp0{t t':TS}(h:PSs X sts t)(hi: ∀D σ H,t' D σ H->t D σ H):PSs X sts t':=fun pins s σ H D I q=>h pins s σ H D I (hi D σ H q)
theorem ss_nil:SSs X G F [] sNx:=PSs.imp0 zdd fun D σ H ⟨tv,hs,ρ,s,M,W⟩=>W ρ σ H M
theorem ss_cons{m m':MS}(h1:SS X G F st m)(h2:SSs X G F rest m'):SSs X G F (st::rest) (seqS m m'):=by
 refine PSs.imp0 (zbj h1 h2) fun D σ H ⟨tv,hs,ρ,s,M,W⟩=>⟨tv,hs,ρ,s,M, ?_⟩
 unfold seqS at W
 cases e:m s with
 |nx s'=>rw[e] at W;exact fun ρ' σv' H' M'=>⟨tv,hs,ρ',s',M',W⟩
 |rt d s'=>rw[e] at W;exact W
 |bk s'=>rw[e] at W;exact W
 |ct s'=>rw[e] at W;exact W
 |ex d s'=>rw[e] at W;exact W
 |no=>rw[e] at W;exact W
theorem ss_one{m:MS}(h1:SS X G F st m):SSs X G F [st] m:=zde h1
theorem z3f{m:M D}{f:D->MS}{tv:List (Option V)}{D:Ends}{σ:St}{H:Hp}(h:tSv G F (lift m f) tv D σ H):tMv G F m σ tv H fun v H1=> ∃ρ1 s1 t,MRL G F.toFx ρ1 H1 σ tv s1 [t] [v]/\wS G F tv (f t s1) D:=by
 obtain⟨hs,ρ,s,M,W⟩:=h
 refine⟨hs,ρ,s,M, ?_⟩
 unfold lift at W
 cases e:m s with
 |ok t s1=>rw[e] at W;exact fun ρ1 v H1 M1=>⟨ρ1,s1,t,M1,W⟩
 |ex d s1=>rw[e] at W;exact W
 |no=>rw[e] at W;exact W
theorem z9P{m:M Bool}{f:Bool->MS}{tv:List (Option V)}{D:Ends}{σ:St}{H:Hp}(h:tSv G F (lift m f) tv D σ H):tBv G F m σ tv H fun b H1=> ∃ρ1 s1,MR G F.toFx ρ1 H1 σ tv s1/\wS G F tv (f b s1) D:=by
 obtain⟨hs,ρ,s,M,W⟩:=h
 refine⟨hs,ρ,s,M, ?_⟩
 unfold lift at W
 cases e:m s with
 |ok t s1=>rw[e] at W;exact fun ρ1 H1 M1=>⟨ρ1,s1,M1,W⟩
 |ex d s1=>rw[e] at W;exact W
 |no=>rw[e] at W;exact W
theorem ss_expr{m:M D}(he:SE X G F e m)(hs:swapsWith e none pos.line X.env=pure false:=by rfl):SS X G F (.Expr e pos) (z2n m):=
 PS.imp0 (zdf he hs) fun D σ H ⟨tv,h⟩=>⟨tv,(z3f h).mono fun v H1 ⟨ρ1,s1,t,M1,W⟩=>W ρ1 σ H1 M1.m⟩
theorem ss_ret{m:M D}(he:SE X G F e m):SS X G F (.Return (some e) pos) (sRet m):=
 PS.imp0 (zeZ he) fun D σ H ⟨tv,h⟩=>⟨tv,(z3f h).mono fun v H1 ⟨ρ1,s1,t,M1,W⟩=>W ρ1 σ v H1 M1⟩
theorem ss_if{x y:List Stmt}{mc:M Bool}{m m':MS}(hc:SB X G F c mc)(ha:SSs X G F x m)(hb:SSs X G F y m'):SS X G F (.If c x y pos) (sIf mc m m'):=by
 refine PS.imp0 (zhS hc ha hb) fun D σ H ⟨tv,h⟩=>⟨tv,(z9P h).mono fun k H1 ⟨ρ1,s1,M1,W⟩=> ?_⟩
 cases k with
 |true=>rw[if_pos rfl];exact⟨tv,h.1,ρ1,s1,M1,W⟩
 |false=>rw[if_neg Bool.false_ne_true];exact⟨tv,h.1,ρ1,s1,M1,W⟩
noncomputable def tGn(G:Gx)(F:Fy)(g:Tg):TG:=fun v σv H Q=> ∃tv ρ s t,MRL G F.toFx ρ H σv tv s [t] [v]/\∃σ',asg g t s.σ=some σ'/\∀σv',MR G F.toFx ρ H σv' tv {s with σ:=σ'}->Q σv' H
noncomputable def tGs(G:Gx)(F:Fy)(g:List Tg):TGs:=fun vs σv H Q=> ∃tv ρ s ts,MRL G F.toFx ρ H σv tv s ts vs/\∃σ',asgL g ts s.σ=some σ'/\∀σv',MR G F.toFx ρ H σv' tv {s with σ:=σ'}->Q σv' H
noncomputable def SG(X:Cx)(G:Gx)(F:Fy)(tg:Expr)(g:Tg):Prop:=PG X tg (tGn G F g)
noncomputable def SGs(X:Cx)(G:Gx)(F:Fy)(tgs:List Expr)(g:List Tg):Prop:=PGs X tgs (tGs G F g)
theorem MRL.setS{ρ:Nat->Addr}{H:Hp}{σv tv:List (Option V)}{s:Stt}{t:D}{v:V}{ts:List D}{vs:List V}(i:Nat)(M:MRL G F.toFx ρ H σv tv s (t::ts) (v::vs)):MRL G F.toFx ρ H (σv.set i (some v)) tv {s with σ:=s.σ.set i (some t)} ts vs:=by
 have h:=M.rd
 simp only[RDs] at h
 obtain⟨_,_,e,h1,h2⟩:=h
 cases e
 have lb1: ∀l∈labs t,l<s.n/\(F.A0 (ρ l)\/F.H0 (ρ l)=none):=fun l h=>M.lb l (by simp only[labsL];exact List.mem_append_left _ h)
 have all: ∀l∈z0T {s with σ:=s.σ.set i (some t)},l<s.n/\(F.A0 (ρ l)\/F.H0 (ρ l)=none):=fun l h=>by
  rcases List.mem_append.mp h with h|h
  ·rcases z4L l h with q|q
   ·exact⟨M.m.lab l (List.mem_append_left _ q),M.m.own l (List.mem_append_left _ q)⟩
   ·exact lb1 l q
  ·exact⟨M.m.lab l (List.mem_append_right _ h),M.m.own l (List.mem_append_right _ h)⟩
 exact⟨⟨M.m.sl.set i h1,M.m.tm,M.m.inj,M.m.dom,fun l h=>(all l h).1,fun l h=>(all l h).2,M.m.frm,M.m.kd,M.m.frb,M.m.bas⟩,h2,fun l h=>M.lb l (by simp only[labsL];exact List.mem_append_right _ h)⟩
theorem sg_name{i:Nat}{x:Str}{p:Pos}(h:PG X (.Name x p) (z8K i)):SG X G F (.Name x p) (.nm i):=by
 intro pins s σ H v u Q I r ⟨tv,ρ,ms,t,M,σ',e,k⟩
 simp only[asg,Option.some.injEq] at e
 subst e
 exact h pins s σ H v u Q I r (k _ (M.setS i).m)
theorem sgs_nil:SGs X G F [] []:=by
 intro pins s σ H vs us Q I r ⟨tv,ρ,ms,ts,M,σ',e,k⟩
 cases ts with
 |nil=>
  simp only[asgL,Option.some.injEq] at e
  subst e
  have h:=M.rd
  simp only[RDs] at h
  exact zdg pins s σ H vs us Q I r ⟨h,k _ M.m⟩
 |cons d ds=>simp only[asgL] at e;cases e
theorem MRL.cons_inv{ρ:Nat->Addr}{H:Hp}{σv tv:List (Option V)}{s:Stt}{t:D}{ts:List D}{vs:List V}(M:MRL G F.toFx ρ H σv tv s (t::ts) vs): ∃v r,vs=v::r/\MRL G F.toFx ρ H σv tv s [t] [v]/\RDs G ρ H ts r/\LB F.toFx ρ s.n (labsL ts):=by
 have h:=M.rd
 simp only[RDs] at h
 obtain⟨v,r,rfl,h1,h2⟩:=h
 exact⟨v,r,rfl,⟨M.m,RDs.one h1,fun l h=>M.lb l (by simp only[labsL,List.append_nil] at h⊢;exact List.mem_append_left _ h)⟩,h2,fun l h=>M.lb l (by simp only[labsL];exact List.mem_append_right _ h)⟩
theorem PGs.imp0{es:List Expr}{t t':TGs}(h:PGs X es t)(hi: ∀vs σ H Q,t' vs σ H Q->t vs σ H Q):PGs X es t':=fun pins s σ H vs us Q I r q=>h pins s σ H vs us Q I r (hi vs σ H Q q)
theorem PG.imp0{t t':TG}(h:PG X e t)(hi: ∀v σ H Q,t' v σ H Q->t v σ H Q):PG X e t':=fun pins s σ H v u Q I r q=>h pins s σ H v u Q I r (hi v σ H Q q)
theorem sgs_cons{es:List Expr}{g:Tg}{gs:List Tg}(h1:SG X G F e g)(h2:SGs X G F es gs)(hs:(assignEach (e::es) X.env).map (·.2)=assign e X.env::(assignEach es X.env).map (·.2):=by rfl):SGs X G F (e::es) (g::gs):=by
 refine PGs.imp0 (zbk h1 h2 hs) fun vs σv H Q ⟨tv,ρ,s,ts,M,σ',e,k⟩=> ?_
 cases ts with
 |nil=>simp only[asgL] at e;cases e
 |cons d ds=>
  simp only[asgL] at e
  cases e1:asg g d s.σ with
  |none=>rw[e1] at e;cases e
  |some σ1=>
   rw[e1] at e
   obtain⟨v,r,rfl,M1,h2,lb⟩:=M.cons_inv
   exact⟨v,r,rfl,tv,ρ,s,d,M1,σ1,e1,fun σv1 M2=>⟨tv,ρ,{s with σ:=σ1},ds,⟨M2,h2,lb⟩,σ',e,k⟩⟩
theorem sg_tup{es:List Expr}{k:Nat}{gs:List Tg}(hk:X.K=G.K)(hc:X.calm=true)(h:SGs X G F es gs)(hn:(assignEach es X.env).length=gs.length:=by rfl)(hst:(assignEach es X.env).findIdx? (·.1)=none:=by rfl):SG X G F (.Tuple es k pos) (.tp gs):=by
 refine PG.imp0 (zfq hc h hn hst) fun v σv H Q ⟨tv,ρ,s,t,M,σ',e,kk⟩=> ?_
 have len: ∀{gs:List Tg} {ds:List D} {σ σ':List (Option D)},asgL gs ds σ=some σ'->ds.length=gs.length:=by
  intro gs
  induction gs with
  |nil=>intro ds σ σ' e;cases ds with
   |nil=>rfl
   |cons _ _=>simp only[asgL] at e;cases e
  |cons g gs ih=>intro ds σ σ' e;cases ds with
   |nil=>simp only[asgL] at e;cases e
   |cons d ds=>
    simp only[asgL] at e
    cases e1:asg g d σ with
    |none=>rw[e1] at e;cases e
    |some σ1=>rw[e1] at e;rw[List.length_cons,List.length_cons,ih e]
 cases t with
 |tup ds=>
  simp only[asg] at e
  obtain⟨a,xs,rfl,sq,r⟩:=M.rd1.tupq
  refine⟨a,xs,rfl, .inl (hk▸sq),by rw[<-r.length];exact len e,tv,ρ,s,ds,⟨M.m,r,fun l h=>M.lb1 l (by simp only[labs];exact h)⟩,σ',e,kk⟩
 |lst l ds=>
  simp only[asg] at e
  obtain⟨a,xs,rfl,sq,r,sub⟩:=M.rd1.lstq (ds:=ds) rfl
  refine⟨a,xs,rfl, .inr (hk▸sq),by rw[<-r.length];exact len e,tv,ρ,s,ds,⟨M.m,r,fun l h=>M.lb1 l (sub l h)⟩,σ',e,kk⟩
 |_=>simp only[asg] at e;cases e
theorem ss_asg{tg:Expr}{g:Tg}{m:M D}(he:SE X G F e m)(hg:SG X G F tg g)(hs:swapsWithSole [tg] e pos.line X.env=pure false:=by rfl)(hw:swappedStores [tg] e X.env=pure none:=by rfl)
 (h1:(assignEach [tg] X.env).map (·.2)=[assign tg X.env]:=by rfl):SS X G F (.Assign [tg] e pos) (sAsg g m):=by
 refine PS.imp0 (zcj he hg hs hw h1) fun D σ H ⟨tv,h⟩=>⟨tv,(z3f h).mono fun v H1 ⟨ρ1,s1,t,M1,W⟩=> ?_⟩
 cases e:asg g t s1.σ with
 |none=>simp only[e] at W;exact False.elim W
 |some σ'=>
  simp only[e] at W
  exact⟨tv,ρ1,s1,t,M1,σ',e,fun σv' M2=>W ρ1 σv' H1 M2⟩
theorem ss_set{i:Nat}{x:Str}{p:Pos}{m:M D}(h: ∀{te:TE},PE X e te->PS X (.Assign [.Name x p] e pos) (tAsg te (z8K i)))(he:SE X G F e m):SS X G F (.Assign [.Name x p] e pos) (sAsg (.nm i) m):=by
 refine PS.imp0 (h he) fun D σ H ⟨tv,h⟩=>⟨tv,(z3f h).mono fun v H1 ⟨ρ1,s1,t,M1,W⟩=> ?_⟩
 simp only[asg] at W
 exact W ρ1 _ H1 (M1.setS i).m
end
end Mi
namespace L2
open PySem PySem.Spec PyProof.Rows
noncomputable abbrev z9Q(ifs:List Expr)(env:Env):Sem Bool:=forIn ifs true fun c r=>if r=true then do let ok<-isTrue c env (eval c env);pure (ForInStep.yield ok) else pure (ForInStep.yield r)
theorem z1w{prog:Program}{w:World}{A:Around}{R:Result->Shared->Prop}{s:Shared}{elt target iter:Expr}{ifs:List Expr}{scope:Scope}{pos:Pos}{it acc:Value}{env:Env}(I:Nat->Shared->Prop)
 (turn: ∀n s,I n s->wpAny (model prog w) A (pyNext it) (fun r s₁=>match r with
  |none=>R (.ok .next) s₁
  |some v=>wpAny (model prog w) A (letOwnedTupleGo target it v) (fun _ s₁=>wpAny (model prog w) A (assign target env v) (fun _ s₂=>wpAny (model prog w) A (z9Q ifs env) (fun ok s₃=>
   if ok=true then wpAny (model prog w) A (eval elt env) (fun x s₃=>
   wpAny (model prog w) A (call (.builtin "list.append") [acc,x]) (fun _ s₄=> ∃m,m<n/\I m s₄) (fun _ _=>False) s₃)
   (fun _ _=>False) s₃ else ∃m,m<n/\I m s₃) (fun _ _=>False) s₂) (fun _ _=>False) s₁) (fun _ _=>False) s₁) (fun _ _=>False) s)
 (n:Nat) (h:I n s):
 codeAny (model prog w) A (.compLoop (.ListComp elt [⟨target,iter,ifs,0⟩] scope pos) 0 it acc env) R s:=by
 refine codeAny_loop rfl I (fun n s hI=> ?_) n h
 show wpAny _ _ ((compTurn (.ListComp elt [⟨target,iter,ifs,0⟩] scope pos) 0 it acc env).onRaise (fun x=>do noteFrame x env;theTreesLotGoes x)) _ _ s
 refine wpAny_noted ?_
 rw[compTurn_list]
 refine wpAny_bind (wpAny_standAt (wpAny_bind (wpAny_mono (turn n s hI) (fun r s₁ h₁=> ?_) fun _ _ h'=>h'.elim)))
 cases r with
 |none=>exact wpAny_pure h₁
 |some v=>
  refine wpAny_bind (wpAny_mono h₁ (fun _ s₁ h₁=> ?_) fun _ _ h'=>h'.elim)
  refine wpAny_bind (wpAny_mono h₁ (fun _ s₂ h₂=>wpAny_bind (wpAny_mono h₂ (fun ok s₃ h₃=> ?_) fun _ _ h'=>h'.elim)) fun _ _ h'=>h'.elim)
  cases ok with
  |false=>exact wpAny_pure ⟨rfl,h₃⟩
  |true=>
   exact wpAny_bind (wpAny_bind (wpAny_mono h₃ (fun x s₄ h₄=>wpAny_bind (wpAny_mono h₄ (fun _ s₅ h₅=>wpAny_pure (wpAny_pure ⟨rfl,h₅⟩)) fun _ _ h'=>h'.elim)) fun _ _ h'=>h'.elim))
noncomputable def PTs(X:Cx)(ifs:List Expr)(t:TT):Prop:=
 ∀(pins:List (Addr×Obj)) (s:Shared) (σ:St) (H:Hp) (Q:Bool->Hp->Prop),Inv X pins σ H s->t σ H Q->wpAny (model X.prog X.w) X.A (z9Q ifs X.env) (TP X pins σ Q) X.xe s
theorem zdJ{X:Cx}:PTs X [] (fun _ H Q=>Q true H):=fun pins s σ H Q I h=>wpAny_tests_nil ⟨H,I,h⟩
theorem zdK{X:Cx}{c:Expr}{t:TT}(h:PT X c t):PTs X [c] t:=fun pins s σ H Q I q=>wpAny_tests_one (h pins s σ H Q I q)
section
variable{X:Cx}{tg iter elt:Expr}{ifs:List Expr}{pos:Pos}{scope:Scope}{own frees:List Str}{ix:List Nat}{wi:TI}{g:TG}{tt:TT}{te:TE}
noncomputable def z9R(K:W.Frag)(wi:TI)(g:TG)(tt:TT)(te:TE)(k:Nat)(ix:List Nat):TE:=fun σ H Q=>wi σ H fun J H1=> ∀D,H1 D=none->(∀a o,K.lookup a=some o->upd H1 D (.lst []) a=none)->
 ∃W:Nat->Nat->List V->St->Hp->Prop,(∃m,W 0 m [] (z3p k ix σ) (upd H1 D (.lst [])))/\
  ∀i m ys σ' H',W i m ys σ' H'->H' D=some (.lst ys)/\((J.stop i H'/\Q (.ref D) H')\/
   (J.go i H'/\∀x H2,J.yld i H' x H2->g x σ' H2 fun σ2 H3=>tt σ2 H3 fun ok H3=>if ok=true then te σ2 H3 fun y H4=>H4 D=some (.lst ys)/\ys.length<sizeLine/\∃m',m'<m/\W (i+1) m' (ys++[y]) σ2 (upd H4 D (.lst (ys++[y])))
    else ∃m',m'<m/\W (i+1) m' ys σ2 H3))
theorem z9S(hc:X.calm=true)(S:z1n X.env.scope scope own frees X.N ix)(hi:PI X tg iter wi)
 (hg: ∀cl C s₀ H₀ fp pn,PG (z0x X scope own frees cl C s₀ H₀ fp pn) tg g) (ht: ∀cl C s₀ H₀ fp pn,PTs (z0x X scope own frees cl C s₀ H₀ fp pn) ifs tt) (he: ∀cl C s₀ H₀ fp pn,PE (z0x X scope own frees cl C s₀ H₀ fp pn) elt te)
 (hs: ∀x,foldedSetIterable iter X.env x=pure x:=by intro _;rfl):
 PE X (.ListComp elt [⟨tg,iter,ifs,0⟩] scope pos) (z9R X.K wi g tt te own.length ix):=by
 intro pins s σ H Q I h
 have hclos:closureFor scope X.env=pure (z2h X.env scope.names []):=z3M fun y hy e=>I.ok.has y.1 (S.fr y hy e)
 rw[eval_ListComp]
 refine wpAny_comprehension_free (use:=none) rfl hs hclos S.kind S.names (thn (hi pins s σ H _ I h) fun v s1 h1=>thn h1 fun itv s2 h2=> ?_)
 obtain⟨it,fp,tn,J,H2,e,I2,T,st2,f2,hD⟩:=h2
 subst e
 refine wpAny_newObj_type ?_
 have I3:Inv X pins σ (upd H2 s2.heap.objs.size (.lst [])) {s2 with heap:=s2.heap.push {cls:= .type "list",data:= .seq ([]:List Value).toArray}}:=I2.lnew (t':=s2.toks) .nil (Nat.zero_le _)
 have nD:H2 s2.heap.objs.size=none:=I2.fresh
 obtain⟨W,⟨m0,w0⟩,turn⟩:=hD _ nD fun a o e=>(I3.bs a o (I3.ok.mod.kin a o e)).2
 have fpl: ∀b∈fp,b<s2.heap.objs.size:=fun b z=>by
  obtain⟨o,q,_⟩:=T.obj _ _ st2 b z
  exact Heap.lt_size q
 generalize hs3:({s2 with heap:=s2.heap.push {cls:= .type "list",data:= .seq ([]:List Value).toArray}}:Shared)=s3 at I3
 have hpush: ∀b o,s2.heap.get? b=some o->s3.heap.get? b=some o:=fun b o q=>by rw[<-hs3];exact Heap.get?_push_of_some _ q
 have hsz3:s2.heap.objs.size<s3.heap.objs.size:=by rw[<-hs3];show _<(s2.heap.push _).objs.size;rw[Heap.size_push];exact Nat.lt_succ_self _
 have f3: ∀b∈fp,FpOk X pins (upd H2 s2.heap.objs.size (.lst [])) b:=fun b z=>⟨by rw[z08 (Nat.ne_of_lt (fpl b z))];exact(f2 b z).1,(f2 b z).2⟩
 have st3:tn 0 s3.heap:=T.keep _ _ _ st2 fun b _ o q=>hpush b o q
 generalize hDd:s2.heap.objs.size=D at*
 generalize hH3:upd H2 D (.lst [])=H3 at*
 have goal:wpAny (model X.prog X.w) X.A (newFunctionEnv scope X.env.globals (z2h X.env scope.names []) [] X.env.qual none .none (some X.env)) (fun cenv s₄=>
  codeAny (model X.prog X.w) X.A (.compStart (.ListComp elt [⟨tg,iter,ifs,0⟩] scope pos) 0 (.ref it) (.ref D) {cenv with scope:=relabel scope X.env}) (compPost (model X.prog X.w) X.A X.xe none (EP X pins σ Q) (.ref D) cenv.locals) s₄) X.xe s3:=by
  refine wpAny_newFunctionEnv S.nocell (by intro y hy;simp at hy) (fun h1 hns hsb=> ?_) S.kind
  have hns:h1.Ns s3.heap.objs.size (fun _=>none):=hns
  have keep4: ∀b o,s3.heap.get? b=some o->h1.get? b=some o:=fun b o q=>hsb.extBut b o (Nat.ne_of_lt (Heap.lt_size q)) (Heap.get?_push_of_some _ q)
  have fpl3: ∀b∈fp,b<s3.heap.objs.size:=fun b z=>Nat.lt_trans (fpl b z) hsz3
  generalize hs4:({s3 with heap:=h1,toks:=s3.toks+([]:List (Str×Value)).length}:Shared)=s4
  have I4:Inv (z0x X scope own frees (z2h X.env scope.names []) s3.heap.objs.size s3 H3 fp (X.pn++pins)) [] (z3p own.length ix σ) H3 s4:=
   z5G S I3 f3 fpl3 (by rw[<-hs4]) (by rw[<-hs4]) (fun b o q=>by rw[<-hs4];exact keep4 b o q) (by rw[<-hs4];exact hns)
  have st4:tn 0 s4.heap:=T.keep _ _ _ st3 fun b _ o q=>by rw[<-hs4];exact keep4 b o q
  generalize hXc:z0x X scope own frees (z2h X.env scope.names []) s3.heap.objs.size s3 H3 fp (X.pn++pins)=Y at I4
  have eP:Y.prog=X.prog:=by rw[<-hXc];rfl
  have eW:Y.w=X.w:=by rw[<-hXc];rfl
  have eK:Y.K=X.K:=by rw[<-hXc];rfl
  have eA:Y.A=X.A:=by rw[<-hXc];rfl
  have eC:Y.calm=true:=by rw[<-hXc];exact hc
  have eE:Y.env=compEnvC scope (z2h X.env scope.names []) s3.heap.objs.size X.env:=by rw[<-hXc];rfl
  have eX:Y.xe=fun _ _=>False:=by rw[<-hXc];rfl
  have eF: ∀{H':Hp},(∀b∈fp,H' b=none)->∀b∈fp,FpOk Y [] H' b:=fun{H'} hn b hb=>by
   rw[<-hXc]
   obtain⟨g1,g2,g3,g4,g5,g6⟩:=f3 b hb
   refine⟨hn b hb,Nat.ne_of_lt (fpl3 b hb),fun q=> ?_, .inl hb,fun x c e=> ?_,fun p hp=> ?_⟩
   ·rcases List.mem_cons.mp (I3.stkSub b q) with r|r
    ·exact g2 r
    ·exact g3 r
   ·rcases z4x _ _ e with q|q
    ·exact nomatch q
    ·exact g5 x c q.1
   ·have hp:p∈(X.pn++pins)++[]:=hp
    rw[List.append_nil] at hp
    exact g6 p hp
  have gY:PG Y tg g:=by rw[<-hXc];exact hg _ _ _ _ _ _
  have tY:PE Y elt te:=by rw[<-hXc];exact he _ _ _ _ _ _
  have sY:PTs Y ifs tt:=by rw[<-hXc];exact ht _ _ _ _ _ _
  have loop:codeAny (model X.prog X.w) X.A (.compLoop (.ListComp elt [⟨tg,iter,ifs,0⟩] scope pos) 0 (.ref it) (.ref D) (compEnvC scope (z2h X.env scope.names []) s3.heap.objs.size X.env))
   (compPost (model X.prog X.w) X.A X.xe none (EP X pins σ Q) (.ref D) s3.heap.objs.size) s4:=by
   refine z1w (fun n s'=> ∃i ys σ' H',Inv Y [] σ' H' s'/\tn i s'.heap/\(∀b∈fp,H' b=none)/\W i n ys σ' H') ?_ m0 ⟨0,[],_,_,I4,st4,fun b hb=>(f3 b hb).1,w0⟩
   rintro n s5 ⟨i,ys,σ5,H5,I5,st5,fr5,w5⟩
   obtain⟨hD5,alt⟩:=turn i n ys σ5 H5 w5
   rcases alt with⟨stop,qn⟩|⟨go,step⟩
   ·have d:=T.done Y eP eW eK eC i [] s5 σ5 H5 (fun _ _=>False) I5 (eF fr5) st5 stop
    rw[eA] at d
    refine thn d fun r s6 ⟨hr,I6⟩=> ?_
    subst hr
    subst hXc
    obtain⟨m6,n6,_⟩:=I6.loc
    exact⟨m6,n6,fun h'' hs''=>⟨.ref D,H5,z88 I3 f3 (Nat.le_refl _) I6 hs'',rfl,qn⟩⟩
   ·have d:=T.item Y eP eW eK eC i [] s5 σ5 H5 (fun _ _=>False) I5 (eF fr5) st5 go
    rw[eA] at d
    refine thn d fun r s6 ⟨u,hr,h6⟩=> ?_
    subst hr
    refine thn h6 fun _ s7 ⟨x,H7,I7,r7,y7,st7,fr7⟩=> ?_
    have I7':=I7.pinned (eF fr7) (T.obj _ _ st7)
    have e1:=gY _ s7 σ5 H7 x u _ I7' r7 (step x H7 y7)
    rw[eP,eW,eA,eE,eX] at e1
    refine thn e1 fun _ s8 ⟨σ8,H8,I8,q8⟩=> ?_
    have e1':=sY _ s8 σ8 H8 _ I8 q8
    rw[eP,eW,eA,eE,eX] at e1'
    refine thn e1' fun ok s8 ⟨H8,I8,q8⟩=> ?_
    cases ok with
    |false=>
     rw[if_neg Bool.false_ne_true] at q8⊢
     obtain⟨m',hm',w9⟩:=q8
     refine⟨m',hm',i+1,_,σ8,_,I8.unpinned,T.keep _ _ _ st7 fun b hb o e=> ?_,fun b hb=> ?_,w9⟩
     ·exact(I8.pin (b,o) (List.mem_append_right _ (List.mem_append_right _ (z0p hb e)))).1
     ·obtain⟨o,e,d⟩:=T.obj _ _ st7 b hb
      exact(I8.pin (b,o) (List.mem_append_right _ (List.mem_append_right _ (z0p hb e)))).2.1
    |true=>
    rw[if_pos rfl] at q8⊢
    have e2:=tY _ s8 σ8 H8 _ I8 q8
    rw[eP,eW,eA,eE,eX] at e2
    refine thn e2 fun yv s9 ⟨y,H9,I9,r9,hD9,hz9,m',hm',w9⟩=> ?_
    have e3:=z4G (X:=Y) _ s9 σ8 H9 (.ref D) [y] (.ref D) [yv] (fun v H'=>v= .non/\H'=upd H9 D (.lst (ys++[y]))) I9 rfl (.cons r9 .nil) ⟨D,ys,y,rfl,rfl,hD9,hz9,rfl,rfl⟩
    rw[eP,eW,eA,eX] at e3
    refine thn e3 fun _ s10 ⟨v10,H10,I10,r10,_,e10⟩=> ?_
    subst e10
    refine⟨m',hm',i+1,_,σ8,_,I10.unpinned,T.keep _ _ _ st7 fun b hb o e=> ?_,fun b hb=> ?_,w9⟩
    ·exact(I10.pin (b,o) (List.mem_append_right _ (List.mem_append_right _ (z0p hb e)))).1
    ·obtain⟨o,e,d⟩:=T.obj _ _ st7 b hb
     exact(I10.pin (b,o) (List.mem_append_right _ (List.mem_append_right _ (z0p hb e)))).2.1
  exact codeAny_compStart_list loop (T.self _ 0 _ _ _ st4 loop)
 exact goal
theorem z9T{y:Str}{py spos:Pos}{i:Nat}(hN:X.N.Nodup)(hy:X.N[i]? =some y)(hx:Loc X.env.scope y)(hfn:X.fn y=true\/X.env.scope.names.lookup y=some .local)(hsw:swapsWith (.ListComp elt [⟨tg,iter,ifs,0⟩] scope pos) (some (.Name y py)) spos.line X.env=pure true)(hc:X.calm=true)(S:z1n X.env.scope scope own frees X.N ix)(hi:PI X tg iter wi)
 (hg: ∀cl C s₀ H₀ fp pn,PG (z0x X scope own frees cl C s₀ H₀ fp pn) tg g) (ht: ∀cl C s₀ H₀ fp pn,PTs (z0x X scope own frees cl C s₀ H₀ fp pn) ifs tt) (he: ∀cl C s₀ H₀ fp pn,PE (z0x X scope own frees cl C s₀ H₀ fp pn) elt te)
 (hs: ∀x,foldedSetIterable iter X.env x=pure x:=by intro _;rfl):
 PS X (.Assign [.Name y py] (.ListComp elt [⟨tg,iter,ifs,0⟩] scope pos) spos) (fun Dd σ H=>z9R X.K wi g tt te own.length ix σ H fun v H'=>Dd.nx (σ.set i (some v)) H'):=by
 intro pins s σ H Dd I h
 have hclos:closureFor scope X.env=pure (z2h X.env scope.names []):=z3M fun y hy e=>I.ok.has y.1 (S.fr y hy e)
 rw[exec_Assign_Name_used _ _ _ _ hsw]
 refine wpAny_bind (wpAny_standAt (wpAny_bind ?_))
 show wpAny _ X.A (do let _<-comprehension (.ListComp elt [⟨tg,iter,ifs,0⟩] scope pos) scope X.env _ (newList []) false (eval iter X.env) (some (assign (.Name y py) X.env))) _ _ s
 refine wpAny_bind (wpAny_mono (wpAny_comprehension_free (use:=some (assign (.Name y py) X.env)) (Q:=fun _ s'=>SP X pins Dd .next s') rfl hs hclos S.kind S.names (thn (hi pins s σ H _ I h) fun v s1 h1=>thn h1 fun itv s2 h2=> ?_)) (fun _ s' hq=>wpAny_pure (wpAny_pure hq)) fun _ _ e=>e)
 obtain⟨it,fp,tn,J,H2,e,I2,T,st2,f2,hD⟩:=h2
 subst e
 refine wpAny_newObj_type ?_
 have I3:Inv X pins σ (upd H2 s2.heap.objs.size (.lst [])) {s2 with heap:=s2.heap.push {cls:= .type "list",data:= .seq ([]:List Value).toArray}}:=I2.lnew (t':=s2.toks) .nil (Nat.zero_le _)
 have nD:H2 s2.heap.objs.size=none:=I2.fresh
 obtain⟨W,⟨m0,w0⟩,turn⟩:=hD _ nD fun a o e=>(I3.bs a o (I3.ok.mod.kin a o e)).2
 have fpl: ∀b∈fp,b<s2.heap.objs.size:=fun b z=>by
  obtain⟨o,q,_⟩:=T.obj _ _ st2 b z
  exact Heap.lt_size q
 generalize hs3:({s2 with heap:=s2.heap.push {cls:= .type "list",data:= .seq ([]:List Value).toArray}}:Shared)=s3 at I3
 have hpush: ∀b o,s2.heap.get? b=some o->s3.heap.get? b=some o:=fun b o q=>by rw[<-hs3];exact Heap.get?_push_of_some _ q
 have hsz3:s2.heap.objs.size<s3.heap.objs.size:=by rw[<-hs3];show _<(s2.heap.push _).objs.size;rw[Heap.size_push];exact Nat.lt_succ_self _
 have f3: ∀b∈fp,FpOk X pins (upd H2 s2.heap.objs.size (.lst [])) b:=fun b z=>⟨by rw[z08 (Nat.ne_of_lt (fpl b z))];exact(f2 b z).1,(f2 b z).2⟩
 have st3:tn 0 s3.heap:=T.keep _ _ _ st2 fun b _ o q=>hpush b o q
 generalize hDd:s2.heap.objs.size=D at*
 generalize hH3:upd H2 D (.lst [])=H3 at*
 have goal:wpAny (model X.prog X.w) X.A (newFunctionEnv scope X.env.globals (z2h X.env scope.names []) [] X.env.qual none .none (some X.env)) (fun cenv s₄=>
  codeAny (model X.prog X.w) X.A (.compStart (.ListComp elt [⟨tg,iter,ifs,0⟩] scope pos) 0 (.ref it) (.ref D) {cenv with scope:=relabel scope X.env}) (compPost (model X.prog X.w) X.A X.xe (some (assign (.Name y py) X.env)) (fun _ s'=>SP X pins Dd .next s') (.ref D) cenv.locals) s₄) X.xe s3:=by
  refine wpAny_newFunctionEnv S.nocell (by intro y hy;simp at hy) (fun h1 hns hsb=> ?_) S.kind
  have hns:h1.Ns s3.heap.objs.size (fun _=>none):=hns
  have keep4: ∀b o,s3.heap.get? b=some o->h1.get? b=some o:=fun b o q=>hsb.extBut b o (Nat.ne_of_lt (Heap.lt_size q)) (Heap.get?_push_of_some _ q)
  have fpl3: ∀b∈fp,b<s3.heap.objs.size:=fun b z=>Nat.lt_trans (fpl b z) hsz3
  generalize hs4:({s3 with heap:=h1,toks:=s3.toks+([]:List (Str×Value)).length}:Shared)=s4
  have I4:Inv (z0x X scope own frees (z2h X.env scope.names []) s3.heap.objs.size s3 H3 fp (X.pn++pins)) [] (z3p own.length ix σ) H3 s4:=
   z5G S I3 f3 fpl3 (by rw[<-hs4]) (by rw[<-hs4]) (fun b o q=>by rw[<-hs4];exact keep4 b o q) (by rw[<-hs4];exact hns)
  have st4:tn 0 s4.heap:=T.keep _ _ _ st3 fun b _ o q=>by rw[<-hs4];exact keep4 b o q
  generalize hXc:z0x X scope own frees (z2h X.env scope.names []) s3.heap.objs.size s3 H3 fp (X.pn++pins)=Y at I4
  have eP:Y.prog=X.prog:=by rw[<-hXc];rfl
  have eW:Y.w=X.w:=by rw[<-hXc];rfl
  have eK:Y.K=X.K:=by rw[<-hXc];rfl
  have eA:Y.A=X.A:=by rw[<-hXc];rfl
  have eC:Y.calm=true:=by rw[<-hXc];exact hc
  have eE:Y.env=compEnvC scope (z2h X.env scope.names []) s3.heap.objs.size X.env:=by rw[<-hXc];rfl
  have eX:Y.xe=fun _ _=>False:=by rw[<-hXc];rfl
  have eF: ∀{H':Hp},(∀b∈fp,H' b=none)->∀b∈fp,FpOk Y [] H' b:=fun{H'} hn b hb=>by
   rw[<-hXc]
   obtain⟨g1,g2,g3,g4,g5,g6⟩:=f3 b hb
   refine⟨hn b hb,Nat.ne_of_lt (fpl3 b hb),fun q=> ?_, .inl hb,fun x c e=> ?_,fun p hp=> ?_⟩
   ·rcases List.mem_cons.mp (I3.stkSub b q) with r|r
    ·exact g2 r
    ·exact g3 r
   ·rcases z4x _ _ e with q|q
    ·exact nomatch q
    ·exact g5 x c q.1
   ·have hp:p∈(X.pn++pins)++[]:=hp
    rw[List.append_nil] at hp
    exact g6 p hp
  have gY:PG Y tg g:=by rw[<-hXc];exact hg _ _ _ _ _ _
  have tY:PE Y elt te:=by rw[<-hXc];exact he _ _ _ _ _ _
  have sY:PTs Y ifs tt:=by rw[<-hXc];exact ht _ _ _ _ _ _
  have loop:codeAny (model X.prog X.w) X.A (.compLoop (.ListComp elt [⟨tg,iter,ifs,0⟩] scope pos) 0 (.ref it) (.ref D) (compEnvC scope (z2h X.env scope.names []) s3.heap.objs.size X.env))
   (compPost (model X.prog X.w) X.A X.xe (some (assign (.Name y py) X.env)) (fun _ s'=>SP X pins Dd .next s') (.ref D) s3.heap.objs.size) s4:=by
   refine z1w (fun n s'=> ∃i ys σ' H',Inv Y [] σ' H' s'/\tn i s'.heap/\(∀b∈fp,H' b=none)/\W i n ys σ' H') ?_ m0 ⟨0,[],_,_,I4,st4,fun b hb=>(f3 b hb).1,w0⟩
   rintro n s5 ⟨i,ys,σ5,H5,I5,st5,fr5,w5⟩
   obtain⟨hD5,alt⟩:=turn i n ys σ5 H5 w5
   rcases alt with⟨stop,qn⟩|⟨go,step⟩
   ·have d:=T.done Y eP eW eK eC i [] s5 σ5 H5 (fun _ _=>False) I5 (eF fr5) st5 stop
    rw[eA] at d
    refine thn d fun r s6 ⟨hr,I6⟩=> ?_
    subst hr
    subst hXc
    obtain⟨m6,n6,_⟩:=I6.loc
    have n6:s6.heap.Ns s3.heap.objs.size m6:=n6
    have I7:Inv X pins σ H5 s6:=z88 (h':=s6.heap) I3 f3 (Nat.le_refl _) I6 (Heap.SameBut.refl _ _)
    have fC:FpOk X pins H5 s3.heap.objs.size:=I3.fpOk (Nat.le_refl _) I6.free
    obtain⟨oC,eC,dC⟩: ∃o,s6.heap.get? s3.heap.objs.size=some o/\∀v,o.data≠ .cell v:=by
     obtain⟨o,es,ep,e1,e2,e3⟩:=n6
     exact⟨o,e1,fun v z=>by simp_all⟩
    have I8:=I7.pinned (fp:=[s3.heap.objs.size]) (fun b hb=>by
     have e:b=s3.heap.objs.size:=by simpa using hb
     rw[e];exact fC) (fun b hb=>by
     have e:b=s3.heap.objs.size:=by simpa using hb
     rw[e];exact⟨oC,eC,dC⟩)
    show wpAny _ _ (assign (.Name y py) X.env (.ref D)) _ _ s6
    refine wpAny_assign_Name (z5R (v:= .ref D) I8 hN hy hx rfl (fun s7 I9=> ?_) hfn)
    have e7:s7.heap.get? s3.heap.objs.size=some oC:=(I9.pin (s3.heap.objs.size,oC) (List.mem_append_right _ (List.mem_append_right _ (z0p (by simp) eC)))).1
    refine⟨m6,n6.at' fun o e=>by rw[eC] at e;cases e;exact e7,fun h3 hs3=>⟨_,H5, ?_,qn⟩⟩
    exact I9.unpinned.turned (t':=s7.toks) (fun b o hb e=>(hs3.2 b hb).trans e) fC.1 fC.2.1 fC.2.2.2.1 fC.2.2.2.2.1 fC.2.2.2.2.2
   ·have d:=T.item Y eP eW eK eC i [] s5 σ5 H5 (fun _ _=>False) I5 (eF fr5) st5 go
    rw[eA] at d
    refine thn d fun r s6 ⟨u,hr,h6⟩=> ?_
    subst hr
    refine thn h6 fun _ s7 ⟨x,H7,I7,r7,y7,st7,fr7⟩=> ?_
    have I7':=I7.pinned (eF fr7) (T.obj _ _ st7)
    have e1:=gY _ s7 σ5 H7 x u _ I7' r7 (step x H7 y7)
    rw[eP,eW,eA,eE,eX] at e1
    refine thn e1 fun _ s8 ⟨σ8,H8,I8,q8⟩=> ?_
    have e1':=sY _ s8 σ8 H8 _ I8 q8
    rw[eP,eW,eA,eE,eX] at e1'
    refine thn e1' fun ok s8 ⟨H8,I8,q8⟩=> ?_
    cases ok with
    |false=>
     rw[if_neg Bool.false_ne_true] at q8⊢
     obtain⟨m',hm',w9⟩:=q8
     refine⟨m',hm',i+1,_,σ8,_,I8.unpinned,T.keep _ _ _ st7 fun b hb o e=> ?_,fun b hb=> ?_,w9⟩
     ·exact(I8.pin (b,o) (List.mem_append_right _ (List.mem_append_right _ (z0p hb e)))).1
     ·obtain⟨o,e,d⟩:=T.obj _ _ st7 b hb
      exact(I8.pin (b,o) (List.mem_append_right _ (List.mem_append_right _ (z0p hb e)))).2.1
    |true=>
    rw[if_pos rfl] at q8⊢
    have e2:=tY _ s8 σ8 H8 _ I8 q8
    rw[eP,eW,eA,eE,eX] at e2
    refine thn e2 fun yv s9 ⟨y,H9,I9,r9,hD9,hz9,m',hm',w9⟩=> ?_
    have e3:=z4G (X:=Y) _ s9 σ8 H9 (.ref D) [y] (.ref D) [yv] (fun v H'=>v= .non/\H'=upd H9 D (.lst (ys++[y]))) I9 rfl (.cons r9 .nil) ⟨D,ys,y,rfl,rfl,hD9,hz9,rfl,rfl⟩
    rw[eP,eW,eA,eX] at e3
    refine thn e3 fun _ s10 ⟨v10,H10,I10,r10,_,e10⟩=> ?_
    subst e10
    refine⟨m',hm',i+1,_,σ8,_,I10.unpinned,T.keep _ _ _ st7 fun b hb o e=> ?_,fun b hb=> ?_,w9⟩
    ·exact(I10.pin (b,o) (List.mem_append_right _ (List.mem_append_right _ (z0p hb e)))).1
    ·obtain⟨o,e,d⟩:=T.obj _ _ st7 b hb
     exact(I10.pin (b,o) (List.mem_append_right _ (List.mem_append_right _ (z0p hb e)))).2.1
  exact codeAny_compStart_list loop (T.self _ 0 _ _ _ st4 loop)
 exact goal
end
structure zeK(osc sc:Scope)(own frees N:List Str)(ix:List Nat):Prop where
 kind:sc.kind= .function
 names: ∀y∈sc.names,y.2= .local->sc.names.lookup y.1=some .local
 fr: ∀y∈sc.names,y.2= .free->osc.names.lookup y.1=some .cell\/osc.names.lookup y.1=some .free
 nd:(own++frees).Nodup
 frl: ∀x∈frees,sc.names.lookup x=some .free
 ixs:ix.map (fun i=>N[i]?)=frees.map some
 frc: ∀y∈sc.names,y.2= .cell->y.1∉frees
 owf: ∀y∈sc.names,y.2= .free->y.1∉own
theorem Inv.turnedL{X:Cx}{pins:List (Addr×Obj)}{σ:List (Option V)}{H:Hp}{s:Shared}{h':Heap}{t':Nat}{fp:List Addr}(I:Inv X pins σ H s)(k: ∀b o,b∉fp->s.heap.get? b=some o->h'.get? b=some o)(hf: ∀b∈fp,FpOk X pins H b):Inv X pins σ H {s with heap:=h',toks:=t'}:=by
 have nit: ∀b u,H b=some u->b∉fp:=fun b u e z=>by rw[(hf b z).1] at e;cases e
 refine I.step (g':=s.gens) (d':=s.drawn) (ch:=fp) (fun b hb=> ?_) (fun b o _ _ hc e _=>k b o hc e) (fun b o _ _ hc e _=>⟨o.slots,k b o hc e⟩) (fun _ _ _ _ n=>n)
  (fun b o hc e=>⟨o,k b o hc e⟩) (fun _ _ e=>e) (fun _ _ _ e=>e) (fun b ps e=>⟨#[],by rw[e];simp⟩) (fun m hm=> ?_) (fun b u e=> ?_) I.bare
 ·obtain⟨f0,f1,f2,f3,f4,f5⟩:=hf b hb
  exact⟨f3,f1,f4,f5⟩
 ·obtain⟨o,es,ep,ho,r⟩:=hm
  exact⟨o,es,ep,k _ o (fun z=>(hf _ z).2.1 rfl) ho,r⟩
 ·refine(I.hok b u e).stay (fun c v hc q=>k c v ?_ q) (fun _ q=>q) fun _ _ q=>q
  rcases hc with z|z
  ·rw[z];exact nit b u e
  ·exact nit c _ z
noncomputable def Ite(K:W.Frag)(a:Addr):It:=
 ⟨fun i H=> ∃xs x,SqL K H a xs/\xs[i]? =some x,fun i H v H'=> ∃p x,H p=none/\v= .ref p/\H'=upd H p (.tup [.int i,x])/\(∀xs,SqL K H a xs->xs[i]? =some x)/\∀b o,K.lookup b=some o->H' b=none,fun i H=> ∃xs,SqL K H a xs/\xs.length<=i⟩
theorem z9U{P:Program}{w:World}{K:W.Frag}{elts:List Expr}{x1:Nat}{tpos:Pos}(a e it:Addr)(hne:e≠it):Turn P w K (.Tuple elts x1 tpos) (Ite K a) [e,it] e (fun i h=> ∃old,IsEnum h e it i old/\h.IsListIter it a i) where
 mem:=by simp
 obj:=fun i h st b hb=>by
  obtain⟨old,h1,h2⟩:=st
  have hb:b=e\/b=it:=by simpa using hb
  rcases hb with rfl|rfl
  ·exact⟨_,h1,fun v z=>by
    have z':Data.fields _=Data.cell v:=z
    cases z'⟩
  ·obtain⟨o,e,c,d⟩:=h2
   exact⟨o,e,fun v z=>by rw[d] at z;cases z⟩
 keep:=fun i h h' st k=>by
  obtain⟨old,h1,h2⟩:=st
  exact⟨old,k e (by simp) _ h1,h2.at fun o q=>k it (by simp) o q⟩
 item:=by
  intro X hP hw hK hc i pins s σ H E I hf st hg
  subst hP hw hK
  obtain⟨old,st1,st2⟩:=st
  obtain⟨xs,x,hq,hx⟩:=hg
  obtain⟨its,rv,p,hz⟩:=I.list hq
  obtain⟨u,hu,ru⟩:=rv.get hx
  refine wpAny_pyNext_enum_item st1 st2 p.isList (x:=u) (by simpa using hu) hne fun h1 heo hit ht hsz hk=> ?_
  refine⟨_,rfl,wpAny_letOwnedTupleGo_enum heo fun h2 he2 hs2=> ?_⟩
  have hs2:Heap.SameBut e h1 h2:=hs2
  have hel:e<s.heap.objs.size:=Heap.lt_size st1
  have ht2:h2.get? s.heap.objs.size=some {cls:= .type "tuple",data:= .seq #[.int i s.toks,u]}:=(hs2.2 _ (Nat.ne_of_gt hel)).trans ht
  have fr: ∀b∈[e,it],b≠s.heap.objs.size:=fun b hb=>by
   have hb:b=e\/b=it:=by simpa using hb
   rcases hb with rfl|rfl
   ·exact Nat.ne_of_lt hel
   ·obtain⟨o,q,_⟩:=st2
    exact Nat.ne_of_lt (Heap.lt_size q)
  have I1:Inv X pins σ (upd H s.heap.objs.size (.tup [.int i,x])) {s with heap:=s.heap.push {cls:= .type "tuple",data:= .seq #[.int i s.toks,u]},toks:=s.toks}:=I.laid (t':=s.toks) (o:= .tup [.int i,x]) (fun b ob q=>Heap.get?_push_of_some _ q) (Nat.le_refl _) ⟨by show 2<=sizeLine;decide,[.int i s.toks,u], .cons ⟨_,rfl⟩ (.cons ru .nil),IsTup.new _ _⟩
  have f1: ∀b∈[e,it],FpOk X pins (upd H s.heap.objs.size (.tup [.int i,x])) b:=fun b hb=>⟨by rw[z08 (fr b hb)];exact(hf b hb).1,(hf b hb).2⟩
  have I2:=I1.turnedL (h':=h2) (t':=s.toks+1) (fun b o hb q=>by
   have hb:b≠e/\b≠it:=by simpa using hb
   rcases Heap.get?_push_cases (show(s.heap.push {cls:= .type "tuple",data:= .seq #[.int i s.toks,u]}).get? b=some o from q) with⟨rfl,rfl⟩|q'
   ·exact ht2
   ·exact(hs2.2 b hb.1).trans (hk b o hb.1 hb.2 q')) f1
  refine⟨.ref s.heap.objs.size,_,I2,rfl,⟨_,x,I.hok.fresh (Nat.le_refl _),rfl,rfl,fun ys hy=>by rw[I.list_inj hy hq];exact hx,fun b o q=>(I2.bs b o (I2.ok.mod.kin b o q)).2⟩,⟨u, ?_, ?_⟩,fun b hb=>(f1 b hb).1⟩
  ·have:((i+1:Nat):Int)=(i:Int)+1:=by push_cast;rfl
   rw[this];exact he2
  ·obtain⟨o,q,r⟩:=hit
   exact⟨o,(hs2.2 it (Ne.symm hne)).trans q,r⟩
 done:=by
  intro X hP hw hK hc i pins s σ H E I hf st hg
  subst hP hw hK
  obtain⟨old,st1,st2⟩:=st
  obtain⟨xs,hq,hx⟩:=hg
  obtain⟨its,rv,p,hz⟩:=I.list hq
  have hl:=rv.length
  exact wpAny_pyNext_enum_end (I.ok.hd hc) st1 st2 p.isList (by simp;lia) fun h' eb=>⟨rfl,I.turnedL (t':=s.toks) (fun b o hb q=>eb b o (fun z=>hb (by simp[z])) q) hf⟩
 self:=fun A i s Q E st h=>by
  obtain⟨old,st1,_⟩:=st
  exact wpAny_pyIter_enum st1 h
section
variable{prog:Program}{w:World}{A:Around}{E:Value->Shared->Prop}{s:Shared}
noncomputable abbrev zik(h:Heap)(a t:Addr)(i:Nat):Prop:=h.IsTupleIter a t i
theorem z41{it t:Addr}{i:Nat}{items}{x:Value}{Q:Value->Shared->Prop}(hit:s.heap.IsTupleIter it t i)(hl:s.heap.IsTuple t items)(hx:items[i]? =some x)
 (hQ: ∀g,g.IsTupleIter it t (i+1)->Heap.SameBut it s.heap g->Q x {s with heap:=g}):wpAny (model prog w) A (Builtin.SmallTypes.nextOf (.ref it)) Q E s:=by
 obtain⟨oi,gi,ci,di⟩:=id hit
 obtain⟨ot,gt,_,kt,dt⟩:=hl
 have step: ∀u:Unit,zik (s.heap.update it (Obj.mapFields (·.setIfInBounds 1 (rawInt (i+1))))) it t (i+1):=fun _=>⟨_,Heap.get?_update_self _ gi (Obj.isFreed_of_fields (Obj.data_mapFields di _)),(Obj.cls_mapFields ..).trans ci,by rw[Obj.data_mapFields di];simp[rawInt]⟩
 unfold Builtin.SmallTypes.nextOf
 refine wpAny_bind (wpAny_callSpecial?_slot (name:=Str.ofString "__next__") hit.typeIs F.slot_tuple_iterator_next (wpAny_call_entry F.slot_tuple_iterator_next hit.typeIs F.entry_tuple_iterator_next (wpAny_bind (m:=field (.ref it) 0) (wpAny_field gi di (x:= .ref t) rfl ?_)) (F.args_tuple_iterator_next_1 _)))
 refine wpAny_bind (m:=field (.ref it) 1) (wpAny_field gi di (x:= .int i 0) rfl (wpAny_bind (m:=seqItems? (.ref t)) (wpAny_seqItems gt dt ?_)))
 simp only[Int.toNat_natCast,hx]
 exact wpAny_bind (wpAny_setField gi di (by simp) (wpAny_pure ⟨x,rfl,wpAny_pure (hQ _ (step ()) (Heap.SameBut.update ..))⟩))
theorem z2N{it t:Addr}{i:Nat}{items}{Q:Value->Shared->Prop}(hh:A.handled=none)(hit:s.heap.IsTupleIter it t i)(hl:s.heap.IsTuple t items)(hx:items[i]? =none)
 (hE: ∀g e,Heap.ExtBut it s.heap g->(∃o,g.get? e=some o/\o.cls= .type "StopIteration")->E (.ref e) {s with heap:=g}):wpAny (model prog w) A (Builtin.SmallTypes.nextOf (.ref it)) Q E s:=by
 obtain⟨oi,gi,ci,di⟩:=id hit
 obtain⟨ot,gt,_,kt,dt⟩:=hl
 unfold Builtin.SmallTypes.nextOf
 refine wpAny_bind (wpAny_callSpecial?_slot (name:=Str.ofString "__next__") hit.typeIs F.slot_tuple_iterator_next (wpAny_call_entry F.slot_tuple_iterator_next hit.typeIs F.entry_tuple_iterator_next (wpAny_bind (m:=field (.ref it) 0) (wpAny_field gi di (x:= .ref t) rfl ?_)) (F.args_tuple_iterator_next_1 _)))
 refine wpAny_bind (m:=field (.ref it) 1) (wpAny_field gi di (x:= .int i 0) rfl (wpAny_bind (m:=seqItems? (.ref t)) (wpAny_seqItems gt dt ?_)))
 simp only[Int.toNat_natCast,hx]
 refine wpAny_bind (wpAny_rule (wpAny_bind (wpAny_setField gi di (by simp) (wpAny_bind (m:=newExc (.type "StopIteration") []) ?_))))
 simp only[newExc,newTuple]
 refine wpAny_bind (wpAny_newObj_type (wpAny_bind (m:=firstArgMember _ _) (wpAny_of_eq (a:=Value.none) (by first|rfl|(simp only[firstArgMember];rfl)) (wpAny_newObj_type ?_ (by size_fits)))) (by size_fits))
 simp only[raiseNew]
 have h1:A.in1.handled=none:=hh
 exact wpAny_bind (wpAny_handled (by rw[h1];exact wpAny_bind (wpAny_pure (wpAny_throw (hE _ _ (((Heap.SameBut.update ..).extBut.push _).push _) ⟨_,Heap.get?_push_size _ rfl,rfl⟩)))))
end
theorem z7q{prog:Program}{w:World}{A:Around}(hh:A.handled=none)(it l:Addr)(hne:l≠it)(items:Array Value):Draws prog w A it [it,l] items.size (fun i v=>items[i]? =some v) (fun i h=>h.IsTupleIter it l i/\h.IsTuple l items) where
 live:=fun _ _ ⟨⟨o,g,_⟩,_⟩=>⟨o,g⟩
 frame:=fun _ _ _ ⟨⟨o,g,r⟩,⟨o',g',r'⟩⟩ keep=>⟨⟨o,keep it (by simp) o g,r⟩,⟨o',keep l (by simp) o' g',r'⟩⟩
 item:=fun i s Q E lt st go=>z41 st.1 st.2 (x:=items[i]) (by simp[lt]) fun g it' k=>go _ g s.toks (by simp[lt]) ⟨it',st.2.extBut k.extBut hne⟩ k
 done:=fun s Q E st go=>z2N hh st.1 st.2 (by simp) go
noncomputable abbrev eOb(p:Addr):Obj:={cls:= .type "enumerate",data:= .fields #[.none, .bool false, .ref p,rawInt 0, .none, .none]}
noncomputable abbrev pOb(l:Addr):Obj:={cls:= .type "tuple_iterator",data:= .fields #[.ref l, .int 0 0]}
theorem z3l(l:Addr)(items:Array Value)(n:Nat)(dct:Option Addr)(sl:Array (Option Value)):
 Meets (Builtin.«enumerate.__new__» ⟨[.type "enumerate", .ref l],[]⟩) (fun _ R s=>s.heap.get? l=some {cls:= .type "tuple",dict:=dct,data:= .seq items n,slots:=sl}/\R (.ok (.ret (.ref (s.heap.push (pOb l)).objs.size))) {s with heap:=(s.heap.push (pOb l)).push (eOb s.heap.objs.size)}):=
 .of_wp fun prog w A R s ⟨gl,fin⟩=>by
  obtain⟨hp,gn,dr,tk,os⟩:=s
  have sub:=sub_enumerate
  have T:Heap.IsTuple (Shared.heap ⟨hp,gn,dr,tk,os⟩) l items:=⟨_,gl,rfl,n,rfl⟩
  wp_walk using AutoSeq1.wpAny_loadPart' gl
  refine wpAny_stack_any fun st=>wpAny_pure ?_
  split
  ·rename_i c _ _ _ _ _
   cases(c==Value.type "enumerate")<;>(wp_walk using AutoSeq1.wpAny_loadPart' gl,wpAny_pyIter_tuple T;exact⟨_,rfl,fin⟩)
  ·wp_walk using AutoSeq1.wpAny_loadPart' gl,wpAny_pyIter_tuple T
   exact⟨_,rfl,fin⟩
theorem z3m{prog:Program}{w:World}{A:Around}{E:Value->Shared->Prop}{s:Shared}{l:Addr}{items:Array Value}{Q:Value->Shared->Prop}(hL:s.heap.IsTuple l items)
 (h: ∀g,IsEnum g (s.heap.objs.size+1) s.heap.objs.size 0 .none->g.IsTupleIter s.heap.objs.size l 0->g.objs.size=s.heap.objs.size+2->(∀b o,s.heap.get? b=some o->g.get? b=some o)->Q (.ref (s.heap.objs.size+1)) {s with heap:=g}):
 wpAny (model prog w) A (call (.type "enumerate") [.ref l]) Q E s:=by
 obtain⟨⟨c,dct,dt,sl⟩,gl,ec,n,ed⟩:=hL
 obtain rfl:c= .type "tuple" :=ec
 obtain rfl:dt= .seq items n:=ed
 have sz:(s.heap.push (pOb l)).objs.size=s.heap.objs.size+1:=Heap.size_push ..
 refine callType_new F.called_enumerate (by decide) (F.typeCall_enumerate_1 _) (F.newCall_enumerate_1 _) (fun obj=>F.args_object_init_2 obj _) F.entry_enumerate_new (z3l l items n dct sl) ⟨gl, ?_⟩
 show _/\_
 rw[sz]
 have en:IsEnum ((s.heap.push (pOb l)).push (eOb s.heap.objs.size)) (s.heap.objs.size+1) s.heap.objs.size 0 .none:=by
  have:=Heap.get?_push_size (s.heap.push (pOb l)) (o:=eOb s.heap.objs.size) rfl
  rw[sz] at this;exact this
 exact⟨⟨_,en,rfl⟩,h _ en ⟨_,Heap.get?_push_of_some _ (Heap.get?_push_size _ rfl),rfl,rfl⟩ (by rw[Heap.size_push,sz]) fun b o x=>Heap.get?_push_of_some _ (Heap.get?_push_of_some _ x)⟩
noncomputable def Itet(K:W.Frag)(a:Addr):It:=
 ⟨fun i H=> ∃xs x,SqT K H a xs/\xs[i]? =some x,fun i H v H'=> ∃p x,H p=none/\v= .ref p/\H'=upd H p (.tup [.int i,x])/\(∀xs,SqT K H a xs->xs[i]? =some x)/\∀b o,K.lookup b=some o->H' b=none,fun i H=> ∃xs,SqT K H a xs/\xs.length<=i⟩
theorem z8X{P:Program}{w:World}{K:W.Frag}{elts:List Expr}{x1:Nat}{tpos:Pos}(a e it:Addr)(hne:e≠it):Turn P w K (.Tuple elts x1 tpos) (Itet K a) [e,it] e (fun i h=> ∃old,IsEnum h e it i old/\h.IsTupleIter it a i) where
 mem:=by simp
 obj:=fun i h st b hb=>by
  obtain⟨old,h1,h2⟩:=st
  have hb:b=e\/b=it:=by simpa using hb
  rcases hb with rfl|rfl
  ·exact⟨_,h1,fun v z=>by
    have z':Data.fields _=Data.cell v:=z
    cases z'⟩
  ·obtain⟨o,e,c,d⟩:=h2
   exact⟨o,e,fun v z=>by rw[d] at z;cases z⟩
 keep:=fun i h h' st k=>by
  obtain⟨old,h1,h2⟩:=st
  exact⟨old,k e (by simp) _ h1,h2.at fun o q=>k it (by simp) o q⟩
 item:=by
  intro X hP hw hK hc i pins s σ H E I hf st hg
  subst hP hw hK
  obtain⟨old,st1,st2⟩:=st
  obtain⟨xs,x,hq,hx⟩:=hg
  obtain⟨its,rv,p,hz⟩:=I.tuple hq
  obtain⟨u,hu,ru⟩:=rv.get hx
  have p:s.heap.IsTuple a its.toArray:=p
  have nai:a≠it:=fun z=>by
   obtain⟨o,q,c,_⟩:=id p
   obtain⟨o',q',c',_⟩:=id st2
   rw[z,q'] at q;cases q
   rw[c] at c';exact absurd c' (by decide)
  have nea:e∉[it,a]:=fun z=>by
   have z:e=it\/e=a:=by simpa using z
   rcases z with z|z
   ·exact hne z
   ·obtain⟨o,q,c,_⟩:=id p
    rw[<-z,st1] at q;cases q
    have c:Value.type "enumerate" =Value.type "tuple" :=c
    exact absurd c (by decide)
  have hlt:i<its.toArray.size:=by
   have:=(List.getElem?_eq_some_iff.mp hu).1
   simpa using this
  refine wpAny_pyNext_enum_itemD (z7q (A:=X.A.in1) (I.ok.hd hc) it a nai its.toArray) st1 ⟨st2,p⟩ hlt hne nea fun u' h1 tk hP heo hst ht hsz hk=> ?_
  have eu:u'=u:=by
   have hu':its[i]? =some u:=hu
   have hP':its.toArray[i]? =some u':=hP
   rw[List.getElem?_toArray,hu'] at hP'
   exact(Option.some.inj hP').symm
  subst eu
  refine⟨_,rfl,wpAny_letOwnedTupleGo_enum heo fun h2 he2 hs2=> ?_⟩
  have hs2:Heap.SameBut e h1 h2:=hs2
  have hel:e<s.heap.objs.size:=Heap.lt_size st1
  have ht2:h2.get? s.heap.objs.size=some {cls:= .type "tuple",data:= .seq #[.int i tk,u']}:=(hs2.2 _ (Nat.ne_of_gt hel)).trans ht
  have fr: ∀b∈[e,it],b≠s.heap.objs.size:=fun b hb=>by
   have hb:b=e\/b=it:=by simpa using hb
   rcases hb with rfl|rfl
   ·exact Nat.ne_of_lt hel
   ·obtain⟨o,q,_⟩:=st2
    exact Nat.ne_of_lt (Heap.lt_size q)
  have I1:Inv X pins σ (upd H s.heap.objs.size (.tup [.int i,x])) {s with heap:=s.heap.push {cls:= .type "tuple",data:= .seq #[.int i tk,u']},toks:=s.toks}:=I.laid (t':=s.toks) (o:= .tup [.int i,x]) (fun b ob q=>Heap.get?_push_of_some _ q) (Nat.le_refl _) ⟨by show 2<=sizeLine;decide,[.int i tk,u'], .cons ⟨_,rfl⟩ (.cons ru .nil),IsTup.new _ _⟩
  have f1: ∀b∈[e,it],FpOk X pins (upd H s.heap.objs.size (.tup [.int i,x])) b:=fun b hb=>⟨by rw[z08 (fr b hb)];exact(hf b hb).1,(hf b hb).2⟩
  have I2:=I1.turnedL (h':=h2) (t':=tk+1) (fun b o hb q=>by
   have hb:b≠e/\b≠it:=by simpa using hb
   rcases Heap.get?_push_cases (show(s.heap.push {cls:= .type "tuple",data:= .seq #[.int i tk,u']}).get? b=some o from q) with⟨rfl,rfl⟩|q'
   ·exact ht2
   ·exact(hs2.2 b hb.1).trans (hk b o hb.1 hb.2 q')) f1
  refine⟨.ref s.heap.objs.size,_,I2,rfl,⟨_,x,I.hok.fresh (Nat.le_refl _),rfl,rfl,fun ys hy=>by rw[I.tuple_inj hy hq];exact hx,fun b o q=>(I2.bs b o (I2.ok.mod.kin b o q)).2⟩,⟨u', ?_, ?_⟩,fun b hb=>(f1 b hb).1⟩
  ·have:((i+1:Nat):Int)=(i:Int)+1:=by push_cast;rfl
   rw[this];exact he2
  ·obtain⟨o,q,r⟩:=hst.1
   exact⟨o,(hs2.2 it (Ne.symm hne)).trans q,r⟩
 done:=by
  intro X hP hw hK hc i pins s σ H E I hf st hg
  subst hP hw hK
  obtain⟨old,st1,st2⟩:=st
  obtain⟨xs,hq,hx⟩:=hg
  obtain⟨its,rv,p,hz⟩:=I.tuple hq
  have p:s.heap.IsTuple a its.toArray:=p
  have hl:=rv.length
  have hT:s.TypeIs (.ref e) "enumerate" :=⟨_,st1,rfl⟩
  unfold pyNext
  refine wpAny_bind (wpAny_attempt (wpAny_callSpecial?_slot (name:=Str.ofString "__next__") hT F.slot_enumerate_next
   (wpAny_call_entry F.slot_enumerate_next hT F.entry_enumerate_next ?_ (F.args_enumerate_next_1 _))))
  show wpAny _ _ (field (.ref e) 2>>=_) _ _ _
  refine wpAny_bind (wpAny_field st1 rfl (x:= .ref it) rfl ?_)
  refine wpAny_bind (z2N (A:=X.A.in1) (I.ok.hd hc) st2 p (by simp;lia) fun h' x he' hx'=> ?_)
  obtain⟨o,ho,hcc⟩:=hx'
  refine wpAny_bind (wpAny_isInstance (T:= "StopIteration") (b:=true) ⟨o,ho,hcc⟩ isSubtype_stop ?_)
  exact wpAny_pure ⟨rfl,I.turnedL (t':=s.toks) (fun b o hb q=>he' b o (fun z=>hb (by simp[z])) q) hf⟩
 self:=fun A i s Q E st h=>by
  obtain⟨old,st1,_⟩:=st
  exact wpAny_pyIter_enum st1 h
section
variable{X:Cx}
noncomputable def zil(K:W.Frag)(ta:TA):TI:=fun σ H R=>ta σ H fun vs H1=> ∃a,vs=[.ref a]/\(((∃xs,SqL K H1 a xs)/\R (Ite K a) H1)\/((∃xs,SqT K H1 a xs)/\R (Itet K a) H1))
theorem zbA{a:Expr}{ta:TA}{p pos tpos:Pos}{elts:List Expr}{x1:Nat}(hg:Gl X "enumerate")(hm:X.mg "enumerate" =none)(ha:PA X [a] ta)(hs:starEach [a] X.env=[(false,eval a X.env)]:=by rfl):PI X (.Tuple elts x1 tpos) (.Call (.Name "enumerate" p) [a] [] pos) (zil X.K ta):=by
 intro pins s σ H R I h
 refine Call_ (z5B I hg hm PyProof.Rows.Boot.«enumerate» (PyProof.Rows.callWith_type1 (thn (ha pos pins s σ H _ I h) fun us s1 ⟨vs,H1,I1,r1,q1⟩=> ?_) hs rfl))
 obtain⟨l,e,q⟩:=q1
 subst e
 cases r1 with
 |cons r rr=>
  cases rr
  cases r
  rcases q with⟨⟨xs,hq⟩,q⟩|⟨⟨xs,hq⟩,q⟩
  ·obtain⟨its,rv,p,hz⟩:=I1.list hq
   refine call_enumerate_list p.isList fun h' he hit hsz hk=> ?_
   refine wpAny_pyIter_enum he ?_
   have I2:Inv X pins σ H1 {s1 with heap:=h'}:=I1.kept (t':=s1.toks) hk
   refine⟨s1.heap.objs.size+1,[s1.heap.objs.size+1,s1.heap.objs.size],_,_,H1,rfl,I2,z9U l _ _ (by show ¬(s1.heap.objs.size+1=s1.heap.objs.size);lia),⟨_,he,hit⟩,fun b hb=> ?_,q⟩
   have hb:b=s1.heap.objs.size+1\/b=s1.heap.objs.size:=by simpa using hb
   rcases hb with rfl|rfl
   ·exact I1.fpOk (Nat.le_succ _) (I1.hok.fresh (Nat.le_succ _))
   ·exact I1.fpOk (Nat.le_refl _) (I1.hok.fresh (Nat.le_refl _))
  ·obtain⟨its,rv,p,hz⟩:=I1.tuple hq
   have p:s1.heap.IsTuple l its.toArray:=p
   refine z3m p fun h' he hit hsz hk=> ?_
   refine wpAny_pyIter_enum he ?_
   have I2:Inv X pins σ H1 {s1 with heap:=h'}:=I1.kept (t':=s1.toks) hk
   refine⟨s1.heap.objs.size+1,[s1.heap.objs.size+1,s1.heap.objs.size],_,_,H1,rfl,I2,z8X l _ _ (by show ¬(s1.heap.objs.size+1=s1.heap.objs.size);lia),⟨_,he,hit⟩,fun b hb=> ?_,q⟩
   have hb:b=s1.heap.objs.size+1\/b=s1.heap.objs.size:=by simpa using hb
   rcases hb with rfl|rfl
   ·exact I1.fpOk (Nat.le_succ _) (I1.hok.fresh (Nat.le_succ _))
   ·exact I1.fpOk (Nat.le_refl _) (I1.hok.fresh (Nat.le_refl _))
end
section
variable{X:Cx}{a b:Expr}{rest:List Expr}{pos:Pos}{ta tb:TE}
noncomputable def rStr(K:W.Frag)(xs:List V)(H:Hp)(Q:VK):Prop:= ∃p d,xs=[.ref p]/\Dp K H d (.ref p)/\d.hasDict=false/\d.showable=true/\d.depth<=60/\d.shown.length<=sizeLine/\Q (.str d.shown) H
theorem z9V(hg:X.A.guards=some [])(hu:X.A.units+64<cLine):CallR X (.type "str") (rStr X.K):=by
 intro pins s σ H xs us Q I r h
 obtain⟨p,d,rfl,hd,h1,h2,h3,h4,q⟩:=h
 obtain⟨u,rfl,r1⟩:=z2R r
 cases r1
 obtain⟨as,ra⟩:=hd.reads I _ _ _ rfl
 exact str_of_reads ra h2 (fun e=>by rw[h1] at e;cases e) hg (by lia) (fun _ _ h=>h) (fun h' u tk k=>⟨.str d.shown,H,I.kept k,⟨_,rfl⟩,q⟩) h4
theorem zfL:OpR X (compareOp .Eq) (fun x y H Q=> ∃i j,x= .str i/\y= .str j/\Q (.bl (i==j)) H):=by
 intro pins s σ H x y v u Q I rx ry h
 obtain⟨i,j,rfl,rfl,q⟩:=h
 exact zhY pins s σ H _ _ v u Q I rx ry ⟨rfl,by rw[z5S];exact q⟩
end
section
variable{X:Cx}{tg:Expr}
noncomputable def Rg3(i j c:Int):Prop:=c≠0/\c.natAbs<1073741824/\Builtin.Range.small i j c=true/\0<=Builtin.Range.rangeSize i j c
instance(i j c:Int):Decidable (Rg3 i j c):=by unfold Rg3;infer_instance
end
end L2
namespace Mi
open PySem L2
structure ItK where
 k:Nat
 at':Nat->List (Option D)->Option (Option D)
 len:List (Option D)->Nat
noncomputable def zfM(i:Nat):List (Option D)->Option (Option D)
 |some c::_=>(lstD c).map fun ds=>ds[i]?
 |_=>none
noncomputable def zbB(i:Nat):List (Option D)->Option (Option D)
 |some (.tup ds)::_=>some ds[i]?
 |_=>none
noncomputable def z4n:List (Option D)->Nat
 |some (.tup ds)::_=>ds.length
 |some (.lst _ ds)::_=>ds.length
 |some (.ro ds)::_=>ds.length
 |_=>0
noncomputable def kLst:ItK:=⟨1,zfM,z4n⟩
noncomputable def kTup:ItK:=⟨1,zbB,z4n⟩
noncomputable def kRng(lo:Int)(n:Nat):ItK:=⟨0,fun i _=>some (if i<n then some (.int (lo+i)) else none),fun _=>n⟩
noncomputable def Stt.popn(s:Stt)(k:Nat):Stt:={s with tm:=s.tm.drop k}
section
variable{X:Cx}{G:Gx}{F:Fy}{e a b c tg iter:Expr}{pos:Pos}
theorem MR.popn{F:Fx}{ρ:Nat->Addr}{H:Hp}{σv tvs tv:List (Option V)}{s:Stt}(M:MR G F ρ H σv (tvs++tv) s):MR G F ρ H σv tv (s.popn tvs.length):=by
 have sub: ∀l∈z0T (s.popn tvs.length),l∈z0T s:=fun l h=>by
  rcases List.mem_append.mp h with h|h
  ·exact List.mem_append_left _ h
  ·refine List.mem_append_right _ ?_
   have e:=z0c (s.tm.take tvs.length) (s.tm.drop tvs.length)
   rw[List.take_append_drop] at e
   rw[e]
   exact List.mem_append_right _ h
 exact⟨M.sl,(Sl.split tvs M.tm).2,M.inj,M.dom,fun l h=>M.lab l (sub l h),fun l h=>M.own l (sub l h),M.frm,M.kd,M.frb,M.bas⟩
noncomputable def ItOK(G:Gx)(J:It)(K:ItK)(tvs:List (Option V)):Prop:= ∀(F:Fx) ρ H σv tvp tv s i,MR G F ρ H σv (tvp++(tvs++tv)) s->match K.at' i (s.tm.drop tvp.length) with
 |none=>True
 |some none=>J.stop i H
 |some (some d)=>J.go i H/\∀x H',J.yld i H x H'->MRL G F ρ H' σv (tvp++(tvs++tv)) s [d] [x]
noncomputable def tI(G:Gx)(F:Fy)(m:M ItK):TI:=fun σv H R=> ∃tv,F.tv0<:+tv/\∃ρ s,MR G F.toFx ρ H σv tv s/\match m s with
 | .ok K s'=> ∀ρ' H' tvs J,tvs.length=K.k->MR G F.toFx ρ' H' σv (tvs++tv) s'->ItOK G J K tvs->R J H'
 | .ex d s'=>F.xw d s'
 | .no=>False
noncomputable def SI(X:Cx)(G:Gx)(F:Fy)(tg iter:Expr)(m:M ItK):Prop:=PI X tg iter (tI G F m)
theorem PI.imp0{w w':TI}(h:PI X tg iter w)(hi: ∀σ H R,w' σ H R->w σ H R):PI X tg iter w':=fun pins s σ H R I q=>h pins s σ H R I (hi σ H R q)
noncomputable def iSeq(K:W.Frag)(tl:TE):TI:=fun σ H R=>tl σ H fun x H1=> ∃a,x= .ref a/\(((∃xs,SqL K H1 a xs)/\R (Itl K a) H1)\/((∃xs,SqT K H1 a xs)/\R (Itt K a) H1))
theorem zfN{l:Expr}{tl:TE}(hl:PE X l tl):PI X tg l (iSeq X.K tl):=by
 intro pins s σ H R I h
 refine thn (hl pins s σ H _ I h) fun v s1 ⟨x,H1,I1,r1,q1⟩=> ?_
 obtain⟨a,e,q|q⟩:=q1
 ·subst e
  cases r1
  obtain⟨⟨xs,hq⟩,q⟩:=q
  obtain⟨its,rv,p,hz⟩:=I1.list hq
  refine wpAny_pyIter_list p.isList ?_
  refine⟨s1.heap.objs.size,[s1.heap.objs.size],_,_,H1,rfl,I1.kept (t':=s1.toks) fun b o e=>Heap.get?_push_of_some _ e,z9n a _,⟨_,Heap.get?_push_size _ rfl,rfl,rfl⟩,fun b hb=> ?_,q⟩
  have e:b=s1.heap.objs.size:=by simpa using hb
  subst e
  exact I1.fpOk (Nat.le_refl _) (I1.hok.fresh (Nat.le_refl _))
 ·subst e
  cases r1
  obtain⟨⟨xs,hq⟩,q⟩:=q
  obtain⟨its,rv,p,hz⟩:=I1.tuple hq
  refine wpAny_pyIter_tuple (show s1.heap.IsTuple a its.toArray from p) ?_
  refine⟨s1.heap.objs.size,[s1.heap.objs.size],_,_,H1,rfl,I1.kept (t':=s1.toks) fun b o e=>Heap.get?_push_of_some _ e,z8L a _,⟨_,Heap.get?_push_size _ rfl,rfl,rfl⟩,fun b hb=> ?_,q⟩
  have e:b=s1.heap.objs.size:=by simpa using hb
  subst e
  exact I1.fpOk (Nat.le_refl _) (I1.hok.fresh (Nat.le_refl _))
noncomputable def z0l(m:M D):M ItK:=bd m fun d s=>match d with
 | .tup _=> .ok kTup (s.psh d)
 | .lst _ _=> .ok kLst (s.psh d)
 | .ro _=> .ok kLst (s.psh d)
 |_=> .no
theorem SqT.two{K:W.Frag}{H:Hp}{a:Addr}{xs ys:List V}(k:KD K H)(h:SqT K H a xs)(h':SqT K H a ys):xs=ys:=by
 rcases h with(h|⟨o,h⟩)|⟨o,its,n,h,_,hd,_,r⟩<;>rcases h' with(h'|⟨o',h'⟩)|⟨o',its',n',h',_,hd',_,r'⟩
 ·rw[h] at h';cases h';rfl
 ·rw[h] at h';cases h'
 ·rw[k _ _ h'] at h;cases h
 ·rw[h] at h';cases h'
 ·rw[h] at h';cases h';rfl
 ·rw[k _ _ h'] at h;cases h
 ·rw[k _ _ h] at h';cases h'
 ·rw[k _ _ h] at h';cases h'
 ·rw[h] at h';cases h';rw[hd] at hd';cases hd';exact r.inj r'
theorem SqL.two{K:W.Frag}{H:Hp}{a:Addr}{xs ys:List V}(k:KD K H)(h:SqL K H a xs)(h':SqL K H a ys):xs=ys:=by
 rcases h with(h|⟨o,h⟩)|⟨o,its,n,h,_,_,hd,_,r⟩<;>rcases h' with(h'|⟨o',h'⟩)|⟨o',its',n',h',_,_,hd',_,r'⟩
 ·rw[h] at h';cases h';rfl
 ·rw[h] at h';cases h'
 ·rw[k _ _ h'] at h;cases h
 ·rw[h] at h';cases h'
 ·rw[h] at h';cases h';rfl
 ·rw[k _ _ h'] at h;cases h
 ·rw[k _ _ h] at h';cases h'
 ·rw[k _ _ h] at h';cases h'
 ·rw[h] at h';cases h';rw[hd] at hd';cases hd';exact r.inj r'
theorem MR.head{F:Fx}{ρ:Nat->Addr}{H:Hp}{σv tv:List (Option V)}{s:Stt}{v:V}{c:D}{r:List (Option D)}(M:MR G F ρ H σv (some v::tv) s)(e:s.tm=some c::r):RD G ρ H c v/\LB F ρ s.n (labs c):=by
 obtain⟨σ,tm,n⟩:=s
 have e:tm=some c::r:=e
 subst e
 exact⟨MR.top (s:=⟨σ,r,n⟩) M,MR.topl (s:=⟨σ,r,n⟩) M⟩
theorem z8b{a:Addr}:ItOK G (Itl G.K a) kLst [some (.ref a)]:=by
 intro F ρ H σv tvp tv s i M
 dsimp only[kLst]
 cases e:s.tm.drop tvp.length with
 |nil=>trivial
 |cons o r=>
  cases o with
  |none=>trivial
  |some c=>
   simp only[zfM]
   obtain⟨h,lb⟩:=MR.head (s:=s.popn tvp.length) M.popn e
   cases e1:lstD c with
   |none=>trivial
   |some ds=>
    simp only[Option.map_some]
    obtain⟨a',xs,ea,sq,rr,sub⟩:=h.lstq e1
    cases ea
    cases e2:ds[i]? with
    |none=>
     refine⟨xs,sq, ?_⟩
     rw[<-rr.length]
     exact List.getElem?_eq_none_iff.mp e2
    |some d=>
     obtain⟨x,ex,rx⟩:=rr.get i d e2
     refine⟨⟨xs,x,sq,ex⟩, ?_⟩
     rintro x' H' ⟨rfl,hx⟩
     rw[hx xs sq] at ex
     cases ex
     exact⟨M,RDs.one rx,fun l hl=>lb l (sub l (labsL_mem (List.mem_of_getElem? e2) l (by simpa only[labsL,List.append_nil] using hl)))⟩
theorem zbC{a:Addr}:ItOK G (Itt G.K a) kTup [some (.ref a)]:=by
 intro F ρ H σv tvp tv s i M
 dsimp only[kTup]
 cases e:s.tm.drop tvp.length with
 |nil=>trivial
 |cons o r=>
  cases o with
  |none=>trivial
  |some c=>
   obtain⟨h,lb⟩:=MR.head (s:=s.popn tvp.length) M.popn e
   cases c with
   |tup ds=>
    simp only[zbB]
    obtain⟨a',xs,ea,sq,rr⟩:=h.tupq
    cases ea
    cases e2:ds[i]? with
    |none=>
     refine⟨xs,sq, ?_⟩
     rw[<-rr.length]
     exact List.getElem?_eq_none_iff.mp e2
    |some d=>
     obtain⟨x,ex,rx⟩:=rr.get i d e2
     refine⟨⟨xs,x,sq,ex⟩, ?_⟩
     rintro x' H' ⟨rfl,hx⟩
     rw[hx xs sq] at ex
     cases ex
     exact⟨M,RDs.one rx,fun l hl=>lb l (by simp only[labs];exact labsL_mem (List.mem_of_getElem? e2) l (by simpa only[labsL,List.append_nil] using hl))⟩
   |_=>trivial
theorem si_seq{m:M D}(hk:X.K=G.K)(h:SE X G F e m):SI X G F tg e (z0l m):=by
 refine PI.imp0 (zfN h) fun σ H R ⟨tv,hs,ρ,s,M,W⟩=>⟨tv,hs,ρ,s,M, ?_⟩
 unfold z0l bd at W
 cases e:m s with
 |ex d s1=>rw[e] at W;exact W
 |no=>rw[e] at W;exact W
 |ok t s1=>
  rw[e] at W
  intro ρ1 v H1 M1
  rw[hk]
  cases t with
  |tup ds=>
   obtain⟨a,xs,rfl,sq,r⟩:=M1.rd1.tupq
   exact⟨a,rfl, .inr ⟨⟨xs,sq⟩,W ρ1 H1 [some (.ref a)] _ rfl M1.push zbC⟩⟩
  |lst n ds=>
   obtain⟨a,xs,rfl,sq,r,_⟩:=M1.rd1.lstq (ds:=ds) rfl
   exact⟨a,rfl, .inl ⟨⟨xs,sq⟩,W ρ1 H1 [some (.ref a)] _ rfl M1.push z8b⟩⟩
  |ro ds=>
   obtain⟨a,xs,rfl,sq,r,_⟩:=M1.rd1.lstq (ds:=ds) rfl
   exact⟨a,rfl, .inl ⟨⟨xs,sq⟩,W ρ1 H1 [some (.ref a)] _ rfl M1.push z8b⟩⟩
  |_=>exact False.elim W
noncomputable def rng1(ts:List D):M ItK:=match ts with
 |[.int j]=>if -(2^62)<=j/\j<2^62 then rt (kRng 0 j.toNat) else fl
 |_=>fl
noncomputable def z2Q(ms:List (M D)):M ItK:=bd (z03 ms) rng1
theorem zbD{lo:Int}{n:Nat}:ItOK G (Itr lo n) (kRng lo n) []:=by
 intro F ρ H σv tvp tv s i M
 simp only[kRng]
 by_cases h:i<n
 ·rw[if_pos h]
  refine⟨h, ?_⟩
  rintro x H' ⟨rfl,rfl⟩
  exact⟨M,RDs.one (by simp only[RD]),fun l hl=>by simp[labsL,labs] at hl⟩
 ·rw[if_neg h]
  exact Nat.not_lt.mp h
theorem si_rng1{p:Pos}{ms:List (M D)}(hg:Gl X "range")(hm:X.mg "range" =none)(ha:SA X G F [a] (z03 ms))(hs:starEach [a] X.env=[(false,eval a X.env)]:=by rfl):SI X G F tg (.Call (.Name "range" p) [a] [] pos) (z2Q ms):=by
 refine PI.imp0 (z9o hg hm ha hs) fun σ H R ⟨tv,hs,ρ,s,M,W⟩=>⟨tv,hs,ρ,s,M, ?_⟩
 unfold z2Q bd at W
 cases e:z03 ms s with
 |ex d s1=>rw[e] at W;exact W
 |no=>rw[e] at W;exact W
 |ok ts s1=>
  rw[e] at W
  intro ρ1 vs H1 M1
  unfold rng1 at W
  dsimp only at W
  split at W
  ·rename_i ts' j K s' hh
   split at hh
   ·split at hh
    ·rename_i j' hc
     cases hh
     obtain⟨v,rfl,h,_⟩:=M1.one
     simp only[RD] at h
     subst h
     exact⟨j',rfl,hc.1,hc.2,W ρ1 H1 [] _ rfl M1.m zbD⟩
    ·cases hh
   ·cases hh
  ·rename_i hh
   split at hh
   ·split at hh<;>cases hh
   ·cases hh
  ·exact False.elim W
noncomputable def forGo(K:ItK)(g:Tg)(b:MS):Nat->Nat->MS
 |f,i=>fun s=>match K.at' i s.tm with
  |none=> .no
  |some none=> .nx (s.popn K.k)
  |some (some d)=>match f with
   |0=> .no
   |f+1=>match asg g d s.σ with
    |none=> .no
    |some σ'=>match b {s with σ:=σ'} with
     | .nx s'=>forGo K g b f (i+1) s'
     | .ct s'=>forGo K g b f (i+1) s'
     | .bk s'=> .nx (s'.popn K.k)
     | .rt t s'=> .rt t (s'.popn K.k)
     | .ex d s'=> .ex d s'
     | .no=> .no
noncomputable def sFor(mi:M ItK)(g:Tg)(b:MS):MS:=lift mi fun K s=>forGo K g b (K.len s.tm) 0 s
theorem MRL.popn{ρ:Nat->Addr}{H:Hp}{σv tvs tv:List (Option V)}{s:Stt}{ts:List D}{vs:List V}(M:MRL G F.toFx ρ H σv (tvs++tv) s ts vs):MRL G F.toFx ρ H σv tv (s.popn tvs.length) ts vs:=⟨M.m.popn,M.rd,M.lb⟩
theorem suf2{tvs tv:List (Option V)}(h:F.tv0<:+tv):F.tv0<:+tvs++tv:=h.trans (List.suffix_append _ _)
theorem z9W{m:M ItK}{f:ItK->MS}{tv:List (Option V)}{D:Ends}{σ:St}{H:Hp}{R:It->Hp->Prop}(h:tSv G F (lift m f) tv D σ H)
 (k: ∀K ρ' H' tvs J s',tvs.length=K.k->MR G F.toFx ρ' H' σ (tvs++tv) s'->ItOK G J K tvs->wS G F tv (f K s') D->R J H'):tI G F m σ H R:=by
 obtain⟨hs,ρ,s,M,W⟩:=h
 refine⟨tv,hs,ρ,s,M, ?_⟩
 unfold lift at W
 cases e:m s with
 |ok K s1=>rw[e] at W;exact fun ρ' H' tvs J hl M' hok=>k K ρ' H' tvs J s1 hl M' hok W
 |ex d s1=>rw[e] at W;exact W
 |no=>rw[e] at W;exact W
theorem ss_for{body:List Stmt}{mi:M ItK}{g:Tg}{mb:MS}(hp:PassesOwn (model X.prog X.w) X.A X.env X.xe)(hc:X.calm=true)(hi:SI X G F tg iter mi)(hg:SG X G F tg g)(hb:SSs X G F body mb)(hst: ∀x,foldedSetIterable iter X.env x=pure x:=by intro _;rfl):SS X G F (.For tg iter body [] pos) (sFor mi g mb):=by
 refine PS.imp0 (zf1 hp hc hi hg hb hst) fun D σ H ⟨tv,h⟩=>z9W h fun K ρ' H' tvs J s' hl M' hok W=> ?_
 have hs:=h.1
 refine⟨fun i m σ H=> ∃ρ s,MR G F.toFx ρ H σ (tvs++tv) s/\wS G F tv (forGo K g mb m i s) D,⟨_,ρ',s',M',W⟩, ?_⟩
 rintro i m σ H ⟨ρ,s,M,W⟩
 have ok:=hok F.toFx ρ H σ [] tv s i M
 simp only[List.length_nil,List.drop_zero,List.nil_append] at ok
 unfold forGo at W
 cases e:K.at' i s.tm with
 |none=>simp only[e] at W;exact False.elim W
 |some o=>
  cases o with
  |none=>
   simp only[e] at W ok
   refine .inl ⟨ok,W ρ σ H ?_⟩
   rw[<-hl]
   exact M.popn
  |some d=>
   simp only[e] at W ok
   cases m with
   |zero=>exact False.elim W
   |succ f=>
    dsimp only at W
    cases e2:asg g d s.σ with
    |none=>simp only[e2] at W;exact False.elim W
    |some σ'=>
     simp only[e2] at W
     refine .inr ⟨ok.1,fun σ H=> ∃ρ s,MR G F.toFx ρ H σ (tvs++tv) s/\wS G F tv (forGo K g mb f (i+1) s) D,fun σ' H' q=>⟨f,Nat.lt_succ_self _,q⟩,fun x H2 y=> ?_⟩
     refine⟨tvs++tv,ρ,s,d,ok.2 x H2 y,σ',e2,fun σv' M2=>⟨tvs++tv,suf2 hs,ρ,_,M2, ?_⟩⟩
     cases e3:mb {s with σ:=σ'} with
     |nx s2=>simp only[e3] at W;exact fun ρ3 σ3 H3 M3=>⟨ρ3,s2,M3,W⟩
     |ct s2=>simp only[e3] at W;exact fun ρ3 σ3 H3 M3=>⟨ρ3,s2,M3,W⟩
     |bk s2=>simp only[e3] at W;exact fun ρ3 σ3 H3 M3=>W ρ3 σ3 H3 (by rw[<-hl];exact M3.popn)
     |rt t s2=>simp only[e3] at W;exact fun ρ3 σ3 v H3 M3=>W ρ3 σ3 v H3 (by rw[<-hl];exact M3.popn)
     |ex d s2=>simp only[e3] at W;exact W
     |no=>simp only[e3] at W;exact W
end
noncomputable def z09:List (Option D)->Option (List D)
 |[]=>some []
 |some d::r=>(z09 r).map (d:: ·)
 |none::_=>none
noncomputable def z1o(K:ItK)(g:Tg)(mt:M Bool)(me:M D)(ol:Nat):Nat->Nat->Nat->M D
 |f,i,k=>fun s=>match K.at' i (s.tm.drop (k+ol)) with
  |none=> .no
  |some none=>match z09 (s.tm.take k).reverse with
   |some ds=> .ok (.lst s.n ds) {σ:=(s.tm.drop k).take ol,tm:=s.tm.drop (k+ol+K.k),n:=s.n+1}
   |none=> .no
  |some (some d)=>match f with
   |0=> .no
   |f+1=>match asg g d s.σ with
    |none=> .no
    |some σ'=>match mt {s with σ:=σ'} with
     | .ok false s1=>z1o K g mt me ol f (i+1) k s1
     | .ok true s1=>if k<sizeLine then match me s1 with
      | .ok y s2=>z1o K g mt me ol f (i+1) (k+1) (s2.psh y)
      |_=> .no
      else .no
     |_=> .no
noncomputable def z8c(own:Nat)(ix:List Nat)(s:Stt):Stt:={σ:=List.replicate own none++ix.map (fun i=>(s.σ[i]?).getD none),tm:=s.σ++s.tm,n:=s.n}
noncomputable def z0D(mi:M ItK)(g:Tg)(mt:M Bool)(me:M D)(own:Nat)(ix:List Nat):M D:=bd mi fun K s=>z1o K g mt me s.σ.length (K.len s.tm) 0 0 (z8c own ix s)
section
variable{X:Cx}{G:Gx}{F:Fy}{e a b c tg iter elt:Expr}{pos:Pos}
noncomputable def Fy.prot(F:Fy)(D:Addr)(ys:List V)(h:F.H0 D=none):Fy where
 A0:=F.A0
 H0:=upd F.H0 D (.lst ys)
 Z:=fun a=>a=D\/F.Z a
 zA:=fun a z=>by
  rcases z with rfl|z
  ·exact⟨⟨_,z0f⟩,fun q=>by obtain⟨o,e⟩:=F.aH _ q;rw[h] at e;cases e⟩
  ·obtain⟨⟨o,e⟩,n⟩:=F.zA a z
   exact⟨⟨o,by rw[z08 (z0H e h)];exact e⟩,n⟩
 aH:=fun a q=>by
  obtain⟨o,e⟩:=F.aH a q
  exact⟨o,by rw[z08 (z0H e h)];exact e⟩
 n0:=F.n0
 ρ0:=F.ρ0
 tv0:=[]
 xw:=fun _ _=>False
theorem Sl.none_map{ρ:Nat->Addr}{H:Hp}: ∀k:Nat,Sl G ρ H (List.replicate k none) (List.replicate k none)
 |0=>by simp[Sl]
 |k+1=>by simp only[List.replicate_succ,Sl];exact⟨_,_,rfl,Sl.none_map k⟩
theorem Sl.pick{ρ:Nat->Addr}{H:Hp}{σ:List (Option D)}{σv:List (Option V)}(h:Sl G ρ H σ σv): ∀ix:List Nat,Sl G ρ H (ix.map fun i=>(σ[i]?).getD none) (ix.map fun i=>(σv[i]?).getD none)
 |[]=>by simp[Sl]
 |i::ix=>by
  simp only[List.map_cons]
  cases e:σ[i]? with
  |none=>simp only[Option.getD_none,Sl];exact⟨_,_,rfl,Sl.pick h ix⟩
  |some o=>
   cases o with
   |none=>simp only[Option.getD_some,Sl];exact⟨_,_,rfl,Sl.pick h ix⟩
   |some d=>
    obtain⟨v,e1,r⟩:=h.get i d e
    simp only[Option.getD_some,Sl,e1]
    exact⟨_,_,rfl,r,Sl.pick h ix⟩
theorem z3O{σ:List (Option D)}{l:Nat}: ∀{ix:List Nat},l∈z04 (ix.map fun i=>(σ[i]?).getD none)->l∈z04 σ
 |[],h=>by simp[z04] at h
 |i::ix,h=>by
  simp only[List.map_cons] at h
  cases e:σ[i]? with
  |none=>rw[e] at h;simp only[Option.getD_none,z04] at h;exact z3O h
  |some o=>
   rw[e] at h
   cases o with
   |none=>simp only[Option.getD_some,z04] at h;exact z3O h
   |some d=>
    simp only[Option.getD_some,z04] at h
    rcases List.mem_append.mp h with h|h
    ·exact z3N e l h
    ·exact z3O h
theorem z4N{l:Nat}: ∀k:Nat,¬l∈z04 (List.replicate k (none:Option D))
 |0,h=>by simp[z04] at h
 |k+1,h=>by simp only[List.replicate_succ,z04] at h;exact z4N k h
theorem MR.enter{ρ:Nat->Addr}{H:Hp}{σv tv:List (Option V)}{s:Stt}{D:Addr}(M:MR G F.toFx ρ H σv tv s)(hD:H D=none)(k:KD G.K (upd H D (.lst [])))(own:Nat)(ix:List Nat):
 MR G (F.prot D [] (M.fresh0 hD)).toFx ρ (upd H D (.lst [])) (z3p own ix σv) (σv++tv) (z8c own ix s):=by
 have sm:=Same.new (.lst []) hD
 have M1:=M.same sm k
 have nD: ∀l,l<s.n->ρ l≠D:=fun l hl e=>by
  obtain⟨o,q⟩:=M.dom l hl
  rw[e,hD] at q;cases q
 have sub: ∀l∈z0T (z8c own ix s),l∈z0T s:=fun l h=>by
  rcases List.mem_append.mp h with h|h
  ·have h:l∈z04 (List.replicate own none++ix.map (fun i=>(s.σ[i]?).getD none)):=h
   rw[z0c] at h
   rcases List.mem_append.mp h with h|h
   ·exact absurd h (z4N own)
   ·exact List.mem_append_left _ (z3O h)
  ·have h:l∈z04 (s.σ++s.tm):=h
   rw[z0c] at h
   exact h
 refine⟨?_,M1.sl.append M1.tm,M1.inj,M1.dom,fun l h=>M.lab l (sub l h),fun l h=> ?_,fun a o e=> ?_,k,fun l hl z=> ?_,M.bas⟩
 ·exact(Sl.none_map own).append (M1.sl.pick ix)
 ·rcases M.own l (sub l h) with q|q
  ·exact .inl q
  ·refine .inr ?_
   show upd F.H0 D (.lst []) (ρ l)=none
   rw[z08 (nD l (M.lab l (sub l h)))];exact q
 ·have e:upd F.H0 D (.lst []) a=some o:=e
  by_cases ha:a=D
  ·subst ha
   rw[z0f] at e;cases e
   exact⟨⟨_,z0f⟩,fun _=>z0f⟩
  ·rw[z08 ha] at e
   exact M1.frm a o e
 ·rcases z with z|z
  ·exact nD l hl z
  ·exact M.frb l hl z
theorem MR.turnD{ρ:Nat->Addr}{H:Hp}{σv tv:List (Option V)}{s:Stt}{D:Addr}{ys ys':List V}{hf:F.H0 D=none}(M:MR G (F.prot D ys hf).toFx ρ H σv tv s):
 H D=some (.lst ys)/\MR G (F.prot D ys' hf).toFx ρ (upd H D (.lst ys')) σv tv s:=by
 have hD:H D=some (.lst ys):=(M.frm D (.lst ys) z0f).2 ((F.prot D ys hf).zA D (.inl rfl)).2
 have nD: ∀l,l<s.n->ρ l≠D:=fun l hl e=>M.frb l hl (.inl e)
 have st:z1x H (upd H D (.lst ys')):=⟨fun b xs e=>by rw[z08 (zbg e hD (by intro z;cases z))];exact e,fun b o u e=>by rw[z08 (zbg e hD (by intro z;cases z))];exact e⟩
 refine⟨hD,⟨Sl.stay st M.sl fun l hl=>⟨rfl,fun o e=> ?_⟩,Sl.stay st M.tm fun l hl=>⟨rfl,fun o e=> ?_⟩,M.inj,fun l hl=> ?_,M.lab,fun l h=> ?_,fun a o e=> ?_,fun a o e=> ?_,fun l hl=>M.frb l hl,M.bas⟩⟩
 ·rw[z08 (nD l (M.lab l (List.mem_append_left _ hl)))];exact e
 ·rw[z08 (nD l (M.lab l (List.mem_append_right _ hl)))];exact e
 ·rw[z08 (nD l hl)];exact M.dom l hl
 ·rcases M.own l h with q|q
  ·exact .inl q
  ·refine .inr ?_
   have q:upd F.H0 D (.lst ys) (ρ l)=none:=q
   show upd F.H0 D (.lst ys') (ρ l)=none
   rw[z08 (nD l (M.lab l h))] at q⊢;exact q
 ·have e:upd F.H0 D (.lst ys') a=some o:=e
  by_cases ha:a=D
  ·subst ha
   rw[z0f] at e;cases e
   exact⟨⟨_,z0f⟩,fun _=>z0f⟩
  ·rw[z08 ha] at e⊢
   exact M.frm a o (by show upd F.H0 D (.lst ys) a=some o;rw[z08 ha];exact e)
 ·by_cases ha:a=D
  ·subst ha
   rw[M.kd a o e] at hD;cases hD
  ·rw[z08 ha];exact M.kd a o e
theorem Sl.all{ρ:Nat->Addr}{H:Hp}: ∀{tm:List (Option D)} {ys:List V} {ds:List D},Sl G ρ H tm (ys.map some)->z09 tm=some ds->RDs G ρ H ds ys/\labsL ds=z04 tm
 |[],ys,ds,h,e=>by
  simp only[Sl] at h
  simp only[z09,Option.some.injEq] at e
  subst e
  have:ys=[]:=by simpa using h
  subst this
  simp[RDs,labsL,z04]
 |none::r,ys,ds,h,e=>by simp only[z09] at e;cases e
 |some d::r,ys,ds,h,e=>by
  simp only[Sl] at h
  obtain⟨v,q,e1,h1,h2⟩:=h
  cases ys with
  |nil=>cases e1
  |cons y ys=>
   simp only[List.map_cons,List.cons.injEq,Option.some.injEq] at e1
   obtain⟨rfl,rfl⟩:=e1
   simp only[z09] at e
   cases e2:z09 r with
   |none=>rw[e2] at e;cases e
   |some es=>
    rw[e2] at e
    cases e
    obtain⟨r1,r2⟩:=Sl.all h2 e2
    refine⟨?_,by simp only[labsL,z04,r2]⟩
    simp only[RDs]
    exact⟨_,_,rfl,h1,r1⟩
theorem Sl.reverse{ρ:Nat->Addr}{H:Hp}: ∀{tm:List (Option D)} {ys:List (Option V)},Sl G ρ H tm ys->Sl G ρ H tm.reverse ys.reverse
 |[],ys,h=>by simp only[Sl] at h;subst h;simp[Sl]
 |none::r,ys,h=>by
  simp only[Sl] at h
  obtain⟨o,q,rfl,h⟩:=h
  rw[List.reverse_cons,List.reverse_cons]
  exact(Sl.reverse h).append (by simp only[Sl];exact⟨_,_,rfl,rfl⟩)
 |some d::r,ys,h=>by
  simp only[Sl] at h
  obtain⟨o,q,rfl,h1,h⟩:=h
  rw[List.reverse_cons,List.reverse_cons]
  exact(Sl.reverse h).append (by simp only[Sl];exact⟨_,_,rfl,h1,rfl⟩)
theorem z4O{l:Nat}: ∀{tm:List (Option D)},l∈z04 tm.reverse↔l∈z04 tm
 |[]=>by simp
 |none::r=>by
  rw[List.reverse_cons,z0c]
  simp only[z04,List.append_nil]
  exact z4O
 |some d::r=>by
  rw[List.reverse_cons,z0c]
  simp only[z04,List.append_nil,List.mem_append]
  rw[z4O]
  exact Or.comm
theorem MR.leave{ρ:Nat->Addr}{H:Hp}{σi σv tvs tv:List (Option V)}{s:Stt}{A1:Addr}{ys:List V}{hf:F.H0 A1=none}{ds:List D}{kk:Nat}
 (M:MR G (F.prot A1 ys hf).toFx ρ H σi ((ys.reverse.map some)++(σv++(tvs++tv))) s) (hk:tvs.length=kk) (ol:Nat) (ho:σv.length=ol) (e:z09 (s.tm.take ys.length).reverse=some ds):
 MRL G F.toFx (ext ρ s.n A1) H σv tv {σ:=(s.tm.drop ys.length).take ol,tm:=s.tm.drop (ys.length+ol+kk),n:=s.n+1} [.lst s.n ds] [.ref A1]:=by
 subst hk ho
 have hD:=(MR.turnD (ys':=ys) M).1
 have nD: ∀l,l<s.n->ρ l≠A1:=fun l hl e=>M.frb l hl (.inl e)
 have t0:=Sl.split (ys.reverse.map some) M.tm
 simp only[List.length_map,List.length_reverse] at t0
 obtain⟨t1,t2⟩:=t0
 obtain⟨t3,t4⟩:=Sl.split σv t2
 obtain⟨_,t6⟩:=Sl.split tvs t4
 rw[List.drop_drop] at t4
 rw[List.drop_drop,List.drop_drop] at t6
 have t6':Sl G ρ H (s.tm.drop (ys.length+σv.length+tvs.length)) tv:=by rw[Nat.add_assoc];exact t6
 have t1':=t1.reverse
 rw[<-List.map_reverse,List.reverse_reverse] at t1'
 obtain⟨r1,r2⟩:=Sl.all t1' e
 have lt: ∀l,l∈z04 (s.tm.take ys.length)->l∈z0T s:=fun l h=>List.mem_append_right _ (by
  have e:=z0c (s.tm.take ys.length) (s.tm.drop ys.length)
  rw[List.take_append_drop] at e
  rw[e];exact List.mem_append_left _ h)
 have ld: ∀l k,l∈z04 (s.tm.drop k)->l∈z0T s:=fun l k h=>List.mem_append_right _ (by
  have e:=z0c (s.tm.take k) (s.tm.drop k)
  rw[List.take_append_drop] at e
  rw[e];exact List.mem_append_right _ h)
 have ldt: ∀l k j,l∈z04 ((s.tm.drop k).take j)->l∈z0T s:=fun l k j h=>ld l k (by
  have e:=z0c ((s.tm.drop k).take j) ((s.tm.drop k).drop j)
  rw[List.take_append_drop] at e
  rw[e];exact List.mem_append_left _ h)
 have own: ∀l∈z0T s,F.A0 (ρ l)\/F.H0 (ρ l)=none:=fun l h=>by
  rcases M.own l h with q|q
  ·exact .inl q
  ·refine .inr ?_
   have q:upd F.H0 A1 (.lst ys) (ρ l)=none:=q
   rw[z08 (nD l (M.lab l h))] at q;exact q
 have st:=z1x.refl H
 have stay: ∀l,l<s.n->ext ρ s.n A1 l=ρ l/\∀o,H (ρ l)=some o->H (ρ l)=some o:=fun l hl=>⟨z0k hl,fun o e=>e⟩
 have all: ∀l∈z0T {σ:=(s.tm.drop ys.length).take σv.length,tm:=s.tm.drop (ys.length+σv.length+tvs.length),n:=s.n+1},l∈z0T s:=fun l h=>by
  rcases List.mem_append.mp h with h|h
  ·exact ldt l _ _ h
  ·exact ld l _ h
 have dsl: ∀l∈labsL ds,l∈z0T s:=fun l h=>lt l (by rw[r2] at h;exact z4O.mp h)
 refine⟨⟨Sl.stay st t3 fun l hl=>stay l (M.lab l (ldt l _ _ hl)),Sl.stay st t6' fun l hl=>stay l (M.lab l (ld l _ hl)),fun i j hi hj eq=> ?_,fun l hl=> ?_,fun l h=>Nat.lt_succ_of_lt (M.lab l (all l h)),fun l h=> ?_,fun a o e=> ?_,M.kd,fun l hl z=> ?_,⟨Nat.le_succ_of_le M.bas.1,fun l hl=>by rw[z0k (Nat.lt_of_lt_of_le hl M.bas.1)];exact M.bas.2 l hl⟩⟩, ?_,fun l h=> ?_⟩
 ·have hi:i<s.n+1:=hi
  have hj:j<s.n+1:=hj
  by_cases h1:i=s.n
  ·by_cases h2:j=s.n
   ·lia
   ·rw[h1,z1t,z0k (by lia)] at eq
    exact absurd eq.symm (nD j (by lia))
  ·by_cases h2:j=s.n
   ·rw[h2,z1t,z0k (by lia)] at eq
    exact absurd eq (nD i (by lia))
   ·rw[z0k (by lia),z0k (by lia)] at eq
    exact M.inj i j (by lia) (by lia) eq
 ·have hl:l<s.n+1:=hl
  by_cases h1:l=s.n
  ·subst h1;rw[z1t];exact⟨_,hD⟩
  ·rw[z0k (by lia)];exact M.dom l (by lia)
 ·rw[z0k (M.lab l (all l h))];exact own l (all l h)
 ·exact M.frm a o (by show upd F.H0 A1 (.lst ys) a=some o;rw[z08 (z0H e hf)];exact e)
 ·have hl:l<s.n+1:=hl
  by_cases h1:l=s.n
  ·subst h1;rw[z1t] at z
   obtain⟨⟨o,e⟩,_⟩:=F.zA A1 z
   rw[hf] at e;cases e
  ·rw[z0k (by lia)] at z
   exact M.frb l (by lia) (.inr z)
 ·refine RDs.one ?_
  simp only[RD]
  rw[z1t]
  exact⟨rfl,ys,hD,RDs.stay st ds ys r1 fun l hl=>stay l (M.lab l (dsl l hl))⟩
 ·simp only[labsL,labs,List.append_nil] at h
  rcases List.mem_cons.mp h with q|q
  ·rw[q,z1t];exact⟨Nat.lt_succ_self _, .inr hf⟩
  ·have q2:=dsl l q
   exact⟨Nat.lt_succ_of_lt (M.lab l q2),by rw[z0k (M.lab l q2)];exact own l q2⟩
noncomputable def tMx(G:Gx)(m:M D):TE:=fun σ H Q=> ∃F:Fy,tM G F m σ H Q
noncomputable def tBx(G:Gx)(m:M Bool):TT:=fun σ H Q=> ∃F:Fy,tMB G F m σ H Q
noncomputable def tGx(G:Gx)(g:Tg):TG:=fun v σ H Q=> ∃F:Fy,tGn G F g v σ H Q
noncomputable def STs(X:Cx)(G:Gx)(F:Fy)(ifs:List Expr)(m:M Bool):Prop:=PTs X ifs (tMB G F m)
theorem sts_nil:STs X G F [] (rt true):=fun pins s σ H Q I ⟨tv,hs,ρ,ms,M,W⟩=>zdJ pins s σ H Q I (W ρ H M)
theorem sts_one{m:M Bool}(h:SB X G F c m):STs X G F [c] m:=zdK h
theorem z8d{K:W.Frag}{k:Nat}{ix:List Nat}{mi:M ItK}{g:Tg}{mt:M Bool}{me:M D}{σ:St}{H:Hp}{Q:VK}(hk:K=G.K)(h:tM G F (z0D mi g mt me k ix) σ H Q):z9R K (tI G F mi) (tGx G g) (tBx G mt) (tMx G me) k ix σ H Q:=by
 obtain⟨tv,hsf,ρ,s,M,W⟩:=h
 refine⟨tv,hsf,ρ,s,M, ?_⟩
 unfold z0D bd at W
 cases em:mi s with
 |ex d s1=>rw[em] at W;exact W
 |no=>rw[em] at W;exact W
 |ok K s1=>
  rw[em] at W
  intro ρ1 H1 tvs J hl M1 hok A1 hA1 kd
  subst hk
  have kd:KD G.K (upd H1 A1 (.lst [])):=kd
  have hf:=M1.fresh0 hA1
  refine⟨fun i m ys σ' H'=> ∃ρ s,MR G (F.prot A1 ys hf).toFx ρ H' σ' ((ys.reverse.map some)++(σ++(tvs++tv))) s/\wM G F σ tv (z1o K g mt me s1.σ.length m i ys.length s) Q,⟨_,ρ1,_,M1.enter hA1 kd k ix,W⟩, ?_⟩
  rintro i m ys σ' H' ⟨ρ2,s2,M2,W2⟩
  have hD:=(MR.turnD (ys':=ys) M2).1
  refine⟨hD, ?_⟩
  have ol:s1.σ.length=σ.length:=M1.sl.length
  have ok:=hok (F.prot A1 ys hf).toFx ρ2 H' σ' ((ys.reverse.map some)++σ) tv s2 i (by rw[List.append_assoc];exact M2)
  simp only[List.length_append,List.length_map,List.length_reverse,<-ol,List.append_assoc] at ok
  unfold z1o at W2
  cases e:K.at' i (s2.tm.drop (ys.length+s1.σ.length)) with
  |none=>simp only[e] at W2;exact False.elim W2
  |some o=>
   rw[e] at ok
   cases o with
   |none=>
    simp only[e] at W2 ok
    refine .inl ⟨ok, ?_⟩
    cases ea:z09 (s2.tm.take ys.length).reverse with
    |none=>simp only[ea] at W2;exact False.elim W2
    |some ds=>
     simp only[ea] at W2
     exact W2 _ _ _ (MR.leave M2 hl _ ol.symm ea)
   |some d=>
    simp only[e] at W2 ok
    cases m with
    |zero=>exact False.elim W2
    |succ f=>
     dsimp only at W2
     cases e2:asg g d s2.σ with
     |none=>simp only[e2] at W2;exact False.elim W2
     |some σ3=>
      simp only[e2] at W2
      refine .inr ⟨ok.1,fun x H2 y=> ?_⟩
      have hx:=ok.2 x H2 y
      refine⟨F.prot A1 ys hf,_,ρ2,s2,d,hx,σ3,e2,fun σv' M3=>⟨F.prot A1 ys hf,_,List.nil_suffix,ρ2,_,M3, ?_⟩⟩
      cases e3:mt {s2 with σ:=σ3} with
      |ex d s4=>simp only[e3] at W2;exact False.elim W2
      |no=>simp only[e3] at W2;exact False.elim W2
      |ok b s4=>
       intro ρ4 H4 M4
       cases b with
       |false=>
        simp only[e3] at W2
        rw[if_neg Bool.false_ne_true]
        exact⟨f,Nat.lt_succ_self _,ρ4,s4,M4,W2⟩
       |true=>
        simp only[e3] at W2
        rw[if_pos rfl]
        by_cases hz:ys.length<sizeLine
        ·rw[if_pos hz] at W2
         refine⟨F.prot A1 ys hf,_,List.nil_suffix,ρ4,s4,M4, ?_⟩
         cases e5:me s4 with
         |ex d s5=>simp only[e5] at W2;exact False.elim W2
         |no=>simp only[e5] at W2;exact False.elim W2
         |ok y s5=>
          simp only[e5] at W2
          intro ρ5 v H5 M5
          obtain⟨hD5,M6⟩:=MR.turnD (ys':=ys++[v]) M5.push
          refine⟨hD5,hz,f,Nat.lt_succ_self _,ρ5,s5.psh y, ?_, ?_⟩
          ·rw[List.reverse_append,List.reverse_cons,List.reverse_nil,List.nil_append,List.map_append]
           exact M6
          ·rw[List.length_append];exact W2
        ·rw[if_neg hz] at W2;exact False.elim W2
theorem se_comp{scope:Scope}{own frees:List Str}{ix:List Nat}{ifs:List Expr}{mi:M ItK}{g:Tg}{mt:M Bool}{me:M D}(hk:X.K=G.K)(hc:X.calm=true)(S:z1n X.env.scope scope own frees X.N ix)(hi:SI X G F tg iter mi)
 (hg: ∀(F:Fy) cl C s₀ H₀ fp pn,SG (z0x X scope own frees cl C s₀ H₀ fp pn) G F tg g) (ht: ∀(F:Fy) cl C s₀ H₀ fp pn,STs (z0x X scope own frees cl C s₀ H₀ fp pn) G F ifs mt) (he: ∀(F:Fy) cl C s₀ H₀ fp pn,SE (z0x X scope own frees cl C s₀ H₀ fp pn) G F elt me)
 (hs: ∀x,foldedSetIterable iter X.env x=pure x:=by intro _;rfl):SE X G F (.ListComp elt [⟨tg,iter,ifs,0⟩] scope pos) (z0D mi g mt me own.length ix):=
 PE.imp0 (z9S (g:=tGx G g) (tt:=tBx G mt) (te:=tMx G me) hc S hi (fun cl C s₀ H₀ fp pn pins s σ H v u Q I r ⟨F',q⟩=>hg F' cl C s₀ H₀ fp pn pins s σ H v u Q I r q)
  (fun cl C s₀ H₀ fp pn pins s σ H Q I ⟨F',q⟩=>ht F' cl C s₀ H₀ fp pn pins s σ H Q I q) (fun cl C s₀ H₀ fp pn pins s σ H Q I ⟨F',q⟩=>he F' cl C s₀ H₀ fp pn pins s σ H Q I q) hs) fun σ H Q h=>z8d hk h
theorem ss_comp{y:Str}{py spos:Pos}{i:Nat}{scope:Scope}{own frees:List Str}{ix:List Nat}{ifs:List Expr}{mi:M ItK}{g:Tg}{mt:M Bool}{me:M D}(hk:X.K=G.K)(hN:X.N.Nodup)(hy:X.N[i]? =some y)(hx:Loc X.env.scope y)(hfn:X.fn y=true\/X.env.scope.names.lookup y=some .local)(hsw:swapsWith (.ListComp elt [⟨tg,iter,ifs,0⟩] scope pos) (some (.Name y py)) spos.line X.env=pure true)
 (hc:X.calm=true) (S:z1n X.env.scope scope own frees X.N ix) (hi:SI X G F tg iter mi)
 (hg: ∀(F:Fy) cl C s₀ H₀ fp pn,SG (z0x X scope own frees cl C s₀ H₀ fp pn) G F tg g) (ht: ∀(F:Fy) cl C s₀ H₀ fp pn,STs (z0x X scope own frees cl C s₀ H₀ fp pn) G F ifs mt) (he: ∀(F:Fy) cl C s₀ H₀ fp pn,SE (z0x X scope own frees cl C s₀ H₀ fp pn) G F elt me)
 (hs: ∀x,foldedSetIterable iter X.env x=pure x:=by intro _;rfl):SS X G F (.Assign [.Name y py] (.ListComp elt [⟨tg,iter,ifs,0⟩] scope pos) spos) (sAsg (.nm i) (z0D mi g mt me own.length ix)):=by
 refine PS.imp0 (z9T (i:=i) (g:=tGx G g) (tt:=tBx G mt) (te:=tMx G me) hN hy hx hfn hsw hc S hi (fun cl C s₀ H₀ fp pn pins s σ H v u Q I r ⟨F',q⟩=>hg F' cl C s₀ H₀ fp pn pins s σ H v u Q I r q)
  (fun cl C s₀ H₀ fp pn pins s σ H Q I ⟨F',q⟩=>ht F' cl C s₀ H₀ fp pn pins s σ H Q I q) (fun cl C s₀ H₀ fp pn pins s σ H Q I ⟨F',q⟩=>he F' cl C s₀ H₀ fp pn pins s σ H Q I q) hs) fun Dd σ H ⟨tv,h⟩=> ?_
 refine z8d hk ⟨tv,(z3f h).mono fun v H1 ⟨ρ1,s1,t,M1,W⟩=> ?_⟩
 simp only[asg] at W
 exact W ρ1 _ H1 (M1.setS i).m
end
mutual
noncomputable def z0e(l:Nat):D->Option D
 | .tup ds=>findL l ds
 | .ro ds=>findL l ds
 | .fdc _ vs=>findL l vs
 | .lst k ds=>if k=l then some (.lst k ds) else findL l ds
 | .dct k ks vs=>if k=l then some (.dct k ks vs) else findL l vs
 | .obj k c ns vs=>if k=l then some (.obj k c ns vs) else findL l vs
 | .non=>none| .bool _=>none| .int _=>none| .str _=>none| .exc _=>none| .fn _=>none
noncomputable def findL(l:Nat):List D->Option D
 |[]=>none
 |d::ds=>match z0e l d with
  |some x=>some x
  |none=>findL l ds
end
section
variable{G:Gx}{ρ:Nat->Addr}{H:Hp}
mutual
theorem zbE(l:Nat): ∀(t:D) (v:V) (d:D),RD G ρ H t v->z0e l t=some d->RD G ρ H d (.ref (ρ l))/\∀k∈labs d,k∈labs t
 | .non,v,d,h,e=>by simp only[z0e] at e;cases e
 | .bool b,v,d,h,e=>by simp only[z0e] at e;cases e
 | .int b,v,d,h,e=>by simp only[z0e] at e;cases e
 | .str b,v,d,h,e=>by simp only[z0e] at e;cases e
 | .exc b,v,d,h,e=>by simp only[z0e] at e;cases e
 | .fn b,v,d,h,e=>by simp only[z0e] at e;cases e
 | .tup ds,v,d,h,e=>by
  simp only[z0e,RD,labs] at h e⊢
  obtain⟨a,xs,_,_,r⟩:=h
  exact findL_rd l ds xs d r e
 | .ro ds,v,d,h,e=>by
  simp only[z0e,RD,labs] at h e⊢
  obtain⟨a,xs,_,_,r⟩:=h
  exact findL_rd l ds xs d r e
 | .fdc ks vs,v,d,h,e=>by
  simp only[z0e,RD,labs] at h e⊢
  obtain⟨a,o,kvs,_,_,_,r⟩:=h
  exact findL_rd l vs _ d r e
 | .lst k ds,v,d,h,e=>by
  simp only[z0e] at e
  by_cases hk:k=l
  ·rw[if_pos hk] at e;cases e
   subst hk
   have h':=h
   simp only[RD] at h'
   obtain⟨rfl,_⟩:=h'
   exact⟨h,fun _ q=>q⟩
  ·rw[if_neg hk] at e
   simp only[RD] at h
   obtain⟨_,xs,_,r⟩:=h
   obtain⟨q1,q2⟩:=findL_rd l ds xs d r e
   exact⟨q1,fun j hj=>by simp only[labs];exact List.mem_cons_of_mem _ (q2 j hj)⟩
 | .dct k ks vs,v,d,h,e=>by
  simp only[z0e] at e
  by_cases hk:k=l
  ·rw[if_pos hk] at e;cases e
   subst hk
   have h':=h
   simp only[RD] at h'
   obtain⟨rfl,_⟩:=h'
   exact⟨h,fun _ q=>q⟩
  ·rw[if_neg hk] at e
   simp only[RD] at h
   obtain⟨_,⟨kvs,_,_,r⟩|⟨kvs,_,_,r⟩⟩:=h
   ·obtain⟨q1,q2⟩:=findL_rd l vs _ d r e
    exact⟨q1,fun j hj=>by simp only[labs];exact List.mem_cons_of_mem _ (List.mem_append_right _ (q2 j hj))⟩
   ·obtain⟨q1,q2⟩:=findL_rd l vs _ d r e
    exact⟨q1,fun j hj=>by simp only[labs];exact List.mem_cons_of_mem _ (List.mem_append_right _ (q2 j hj))⟩
 | .obj k c ns vs,v,d,h,e=>by
  simp only[z0e] at e
  by_cases hk:k=l
  ·rw[if_pos hk] at e;cases e
   subst hk
   have h':=h
   simp only[RD] at h'
   obtain⟨rfl,_⟩:=h'
   exact⟨h,fun _ q=>q⟩
  ·rw[if_neg hk] at e
   simp only[RD] at h
   obtain⟨_,C,dx,fs,_,_,_,r⟩:=h
   obtain⟨q1,q2⟩:=findL_rd l vs _ d r e
   exact⟨q1,fun j hj=>by simp only[labs];exact List.mem_cons_of_mem _ (q2 j hj)⟩
theorem findL_rd(l:Nat): ∀(t:List D) (v:List V) (d:D),RDs G ρ H t v->findL l t=some d->RD G ρ H d (.ref (ρ l))/\∀k∈labs d,k∈labsL t
 |[],v,d,h,e=>by simp only[findL] at e;cases e
 |t::ts,v,d,h,e=>by
  simp only[findL,RDs,labsL] at h e⊢
  obtain⟨x,r,_,h1,h2⟩:=h
  cases e1:z0e l t with
  |some y=>
   rw[e1] at e;cases e
   obtain⟨q1,q2⟩:=zbE l t x _ h1 e1
   exact⟨q1,fun j hj=>List.mem_append_left _ (q2 j hj)⟩
  |none=>
   rw[e1] at e
   obtain⟨q1,q2⟩:=findL_rd l ts r d h2 e
   exact⟨q1,fun j hj=>List.mem_append_right _ (q2 j hj)⟩
end
theorem roL_two{K:W.Frag}{a:Addr}{xs ys:List V}(k:KD K H)(h:RoL K H a xs)(h':RoL K H a ys):xs=ys:=SqL.two k h.sq h'.sq
noncomputable def z8e(G:Gx)(H:Hp)(a:Addr):Nat->Prop
 |0=> ∃xs,SqT G.K H a xs
 |1=> ∃xs,RoL G.K H a xs
 |2=> ∃xs,H a=some (.lst xs)
 |3=>(∃kvs,H a=some (.dK kvs))\/∃kvs,H a=some (.dT kvs)
 |4=> ∃C dx fs,H a=some (.ins C dx fs)
 |5=> ∃o φ,H a=some (.frz o (.ext φ))
 |6=> ∃c,G.cl c=some a
 |_=> ∃o kvs,H a=some (.frz o (.dT kvs))
open Classical in
noncomputable def kd(K:W.Frag)(H:Hp)(a:Addr):Nat:=match H a with
 |some (.tup _)=>0|some (.frz _ (.tup _))=>0|some (.frz _ (.lst _))=>1|some (.lst _)=>2|some (.dK _)=>3|some (.dT _)=>3|some (.ins _ _ _)=>4|some (.frz _ (.ext _))=>5|some (.frz _ (.dT _))=>7
 |some _=>9
 |none=>match K.lookup a with
  |some o=>if(∃its n,o.data= .seq its n) then(if o.cls= .type "tuple" then 0 else 1) else 6
  |none=>8
theorem zfO{a:Addr}(k:KD G.K H): ∀{i:Nat},z8e G H a i->i<=7->kd G.K H a=i:=by
 have tl: ¬((.type "list" :Value)= .type "tuple"):=by intro h;injection h with h;exact absurd h (by decide)
 intro i hi li
 match i,hi,li with
 |0,⟨xs,h⟩,_=>
  rcases h with(h|⟨o,h⟩)|⟨o,its,n,h,hc,hd,_⟩
  ·unfold kd;rw[h]
  ·unfold kd;rw[h]
  ·unfold kd;rw[k _ _ h];dsimp only;rw[h];dsimp only;rw[if_pos ⟨its,n,hd⟩,if_pos hc]
 |1,⟨xs,h⟩,_=>
  rcases h with⟨o,h⟩|⟨o,its,n,h,hc,_,hd,_⟩
  ·unfold kd;rw[h]
  ·unfold kd;rw[k _ _ h];dsimp only;rw[h];dsimp only;rw[if_pos ⟨its,n,hd⟩,if_neg (by rw[hc];exact tl)]
 |2,⟨xs,h⟩,_=>unfold kd;rw[h]
 |3,h,_=>rcases h with⟨_,h⟩|⟨_,h⟩<;>(unfold kd;rw[h])
 |4,⟨_,_,_,h⟩,_=>unfold kd;rw[h]
 |5,⟨_,_,h⟩,_=>unfold kd;rw[h]
 |6,⟨c,h⟩,_=>
  obtain⟨o,h1,h2⟩:=G.ck c a h
  unfold kd;rw[k _ _ h1];dsimp only;rw[h1];dsimp only;rw[if_neg (fun⟨its,n,q⟩=>h2 its n q)]
 |7,⟨_,_,h⟩,_=>unfold kd;rw[h]
 |n+8,_,li=>lia
theorem zbF{a:Addr}(k:KD G.K H){i j:Nat}(hi:z8e G H a i)(hj:z8e G H a j)(li:i<=7)(lj:j<=7):i=j:=(zfO k hi li).symm.trans (zfO k hj lj)
noncomputable def ix:D->Nat
 | .tup _=>0| .ro _=>1| .lst _ _=>2| .dct _ _ _=>3| .obj _ _ _ _=>4| .exc _=>5| .fn _=>6| .fdc _ _=>7|_=>8
noncomputable def flD:V->D
 | .bl b=> .bool b| .int b=> .int b| .str b=> .str b|_=> .non
theorem RD.kind{t:D}{v:V}(h:RD G ρ H t v):(t=flD v/\∀a,v≠ .ref a)\/∃a,v= .ref a/\ix t<=7/\z8e G H a (ix t):=by
 cases t<;>simp only[RD] at h
 ·exact .inl (by rw[h];exact⟨rfl,nofun⟩)
 ·exact .inl (by rw[h];exact⟨rfl,nofun⟩)
 ·exact .inl (by rw[h];exact⟨rfl,nofun⟩)
 ·exact .inl (by rw[h];exact⟨rfl,nofun⟩)
 ·obtain⟨a',xs,e,s,r⟩:=h;exact .inr ⟨a',e,Nat.le_of_ble_eq_true rfl,xs,SqT.of s⟩
 ·obtain⟨a',xs,e,s,r⟩:=h;exact .inr ⟨a',e,Nat.le_of_ble_eq_true rfl,xs,s⟩
 ·obtain⟨e,xs,s,r⟩:=h;exact .inr ⟨_,e,Nat.le_of_ble_eq_true rfl,xs,s⟩
 ·obtain⟨e,⟨kvs,s,_⟩|⟨kvs,s,_⟩⟩:=h
  ·exact .inr ⟨_,e,Nat.le_of_ble_eq_true rfl, .inl ⟨kvs,s⟩⟩
  ·exact .inr ⟨_,e,Nat.le_of_ble_eq_true rfl, .inr ⟨kvs,s⟩⟩
 ·obtain⟨e,C,dx,fs,_,s,_⟩:=h;exact .inr ⟨_,e,Nat.le_of_ble_eq_true rfl,C,dx,fs,s⟩
 ·obtain⟨a',o,C,e,_,_,_,s⟩:=h;exact .inr ⟨a',e,Nat.le_of_ble_eq_true rfl,o,_,s⟩
 ·obtain⟨a',e,s⟩:=h;exact .inr ⟨a',e,Nat.le_of_ble_eq_true rfl,_,s⟩
 ·obtain⟨a',o,kvs,e,s,_⟩:=h;exact .inr ⟨a',e,Nat.le_of_ble_eq_true rfl,o,kvs,s⟩
theorem ix0{t:D}(h:ix t=0): ∃ds,t= .tup ds:=by cases t<;>first|exact⟨_,rfl⟩|cases h
theorem ix1{t:D}(h:ix t=1): ∃ds,t= .ro ds:=by cases t<;>first|exact⟨_,rfl⟩|cases h
theorem ix2{t:D}(h:ix t=2): ∃l ds,t= .lst l ds:=by cases t<;>first|exact⟨_,_,rfl⟩|cases h
theorem ix3{t:D}(h:ix t=3): ∃l ks vs,t= .dct l ks vs:=by cases t<;>first|exact⟨_,_,_,rfl⟩|cases h
theorem ix4{t:D}(h:ix t=4): ∃l c ns vs,t= .obj l c ns vs:=by cases t<;>first|exact⟨_,_,_,_,rfl⟩|cases h
theorem ix5{t:D}(h:ix t=5): ∃c,t= .exc c:=by cases t<;>first|exact⟨_,rfl⟩|cases h
theorem ix6{t:D}(h:ix t=6): ∃c,t= .fn c:=by cases t<;>first|exact⟨_,rfl⟩|cases h
theorem ix7{t:D}(h:ix t=7): ∃ks vs,t= .fdc ks vs:=by cases t<;>first|exact⟨_,_,rfl⟩|cases h
theorem RD.ixE{t t':D}{v:V}(k:KD G.K H)(h:RD G ρ H t v)(h':RD G ρ H t' v):t=t'\/ix t=ix t':=by
 rcases RD.kind h with⟨e,n⟩|⟨a,e,l,q⟩<;>rcases RD.kind h' with⟨e',n'⟩|⟨a',e',l',q'⟩
 ·exact .inl (e.trans e'.symm)
 ·exact absurd e' (n _)
 ·exact absurd e (n' _)
 ·cases e.symm.trans e';exact .inr (zbF k q q' l l')
section
variable(k:KD G.K H){n:Nat}(inj: ∀i j,i<n->j<n->ρ i=ρ j->i=j)
include k inj
mutual
theorem RD.uniq: ∀(t t':D) (v:V),RD G ρ H t v->RD G ρ H t' v->(∀l∈labs t,l<n)->(∀l∈labs t',l<n)->t=t'
 | .non,t',v,h,h',_,_=>(RD.kind h').elim (fun e=>by simp only[RD] at h;subst h;exact e.1.symm) fun⟨_,e,_⟩=>by simp only[RD] at h;subst h;cases e
 | .bool b,t',v,h,h',_,_=>(RD.kind h').elim (fun e=>by simp only[RD] at h;subst h;exact e.1.symm) fun⟨_,e,_⟩=>by simp only[RD] at h;subst h;cases e
 | .int b,t',v,h,h',_,_=>(RD.kind h').elim (fun e=>by simp only[RD] at h;subst h;exact e.1.symm) fun⟨_,e,_⟩=>by simp only[RD] at h;subst h;cases e
 | .str b,t',v,h,h',_,_=>(RD.kind h').elim (fun e=>by simp only[RD] at h;subst h;exact e.1.symm) fun⟨_,e,_⟩=>by simp only[RD] at h;subst h;cases e
 | .exc c,t',v,h,h',lb,lb'=>by
  rcases RD.ixE k h h' with e|e
  ·exact e
  obtain⟨c',rfl⟩:=ix5 e.symm
  simp only[RD] at h h'
  obtain⟨a,o,C,rfl,h1,h2,_,s⟩:=h
  obtain⟨a',o',C',e,h1',h2',_,s'⟩:=h'
  cases e
  rw[s] at s';cases s'
  rw[h2] at h2';cases h2'
  rw[G.ci c c' C h1 h1']
 | .fn c,t',v,h,h',lb,lb'=>by
  rcases RD.ixE k h h' with e|e
  ·exact e
  obtain⟨c',rfl⟩:=ix6 e.symm
  simp only[RD] at h h'
  obtain⟨a,rfl,h1⟩:=h
  obtain⟨a',e,h1'⟩:=h'
  cases e
  rw[G.ci c c' a h1 h1']
 | .tup ds,t',v,h,h',lb,lb'=>by
  rcases RD.ixE k h h' with e|e
  ·exact e
  obtain⟨es,rfl⟩:=ix0 e.symm
  obtain⟨a,xs,rfl,s,r⟩:=h.tupq
  obtain⟨a',ys,e,s',r'⟩:=h'.tupq
  cases e
  cases SqT.two k s s'
  rw[RDs.uniq ds es xs r r' lb lb']
 | .fdc ks vs,t',v,h,h',lb,lb'=>by
  rcases RD.ixE k h h' with e|e
  ·exact e
  obtain⟨ks',vs',rfl⟩:=ix7 e.symm
  simp only[RD] at h h'
  obtain⟨a,o,kvs,rfl,s,s2,r⟩:=h
  obtain⟨a',o',kvs',e,s',s2',r'⟩:=h'
  cases e
  rw[s] at s';cases s'
  rw[s2,s2',RDs.uniq vs vs' _ r r' lb lb']
 | .ro ds,t',v,h,h',lb,lb'=>by
  rcases RD.ixE k h h' with e|e
  ·exact e
  obtain⟨es,rfl⟩:=ix1 e.symm
  simp only[RD] at h h'
  obtain⟨a,xs,rfl,s,r⟩:=h
  obtain⟨a',ys,e,s',r'⟩:=h'
  cases e
  cases roL_two k s s'
  rw[RDs.uniq ds es xs r r' lb lb']
 | .lst l ds,t',v,h,h',lb,lb'=>by
  rcases RD.ixE k h h' with e|e
  ·exact e
  obtain⟨l',es,rfl⟩:=ix2 e.symm
  simp only[RD] at h h'
  obtain⟨rfl,xs,s,r⟩:=h
  obtain⟨e,ys,s',r'⟩:=h'
  cases inj l l' (lb l (.head _)) (lb' l' (.head _)) (V.ref.inj e)
  rw[s] at s';cases s'
  rw[RDs.uniq ds es xs r r' (fun j hj=>lb j (.tail _ hj)) fun j hj=>lb' j (.tail _ hj)]
 | .dct l ks vs,t',v,h,h',lb,lb'=>by
  rcases RD.ixE k h h' with e|e
  ·exact e
  obtain⟨l',ks',vs',rfl⟩:=ix3 e.symm
  simp only[RD] at h h'
  obtain⟨rfl,q⟩:=h
  obtain⟨e,q'⟩:=h'
  cases inj l l' (lb l (.head _)) (lb' l' (.head _)) (V.ref.inj e)
  have b1: ∀j∈labsL vs,j<n:=fun j hj=>lb j (.tail _ (List.mem_append_right _ hj))
  have b2: ∀j∈labsL vs',j<n:=fun j hj=>lb' j (.tail _ (List.mem_append_right _ hj))
  rcases q with⟨kvs,s,s2,r⟩|⟨kvs,s,s2,r⟩<;>rcases q' with⟨kvs',s',s2',r'⟩|⟨kvs',s',s2',r'⟩<;>rw[s] at s'<;>cases s'
  ·rw[s2,s2',RDs.uniq vs vs' _ r r' b1 b2]
  ·rw[s2,s2',RDs.uniq vs vs' _ r r' b1 b2]
 | .obj l c ns vs,t',v,h,h',lb,lb'=>by
  rcases RD.ixE k h h' with e|e
  ·exact e
  obtain⟨l',c',ns',vs',rfl⟩:=ix4 e.symm
  simp only[RD] at h h'
  obtain⟨rfl,C,dx,fs,hC,s,s2,r⟩:=h
  obtain⟨e,C',dx',fs',hC',s',s2',r'⟩:=h'
  cases inj l l' (lb l (.head _)) (lb' l' (.head _)) (V.ref.inj e)
  rw[s] at s';cases s'
  rw[s2,s2',G.ci c c' C hC hC',RDs.uniq vs vs' _ r r' (fun j hj=>lb j (.tail _ hj)) fun j hj=>lb' j (.tail _ hj)]
theorem RDs.uniq: ∀(t t':List D) (v:List V),RDs G ρ H t v->RDs G ρ H t' v->(∀l∈labsL t,l<n)->(∀l∈labsL t',l<n)->t=t'
 |[],t',v,h,h',_,_=>by
  simp only[RDs] at h;subst h
  cases t' with
  |nil=>rfl
  |cons d ds=>simp only[RDs] at h';obtain⟨_,_,e,_⟩:=h';cases e
 |d::ds,t',v,h,h',lb,lb'=>by
  simp only[RDs] at h
  obtain⟨x,q,rfl,h1,h2⟩:=h
  cases t' with
  |nil=>simp only[RDs] at h';cases h'
  |cons d' ds'=>
   simp only[RDs] at h'
   obtain⟨_,_,e,h1',h2'⟩:=h'
   cases e
   rw[RD.uniq d d' x h1 h1' (fun l hl=>lb l (by simp only[labsL];exact List.mem_append_left _ hl)) fun l hl=>lb' l (by simp only[labsL];exact List.mem_append_left _ hl),
    RDs.uniq ds ds' q h2 h2' (fun l hl=>lb l (by simp only[labsL];exact List.mem_append_right _ hl)) fun l hl=>lb' l (by simp only[labsL];exact List.mem_append_right _ hl)]
end
end
end
end Mi
namespace Mi
open PySem L2 PySem.Spec PyProof.Rows
inductive RF where
 |ok (t:D) (ts:List D) (n:Nat)|ex (d:D) (ts:List D) (n:Nat)|no
noncomputable abbrev FM:=List D->Nat->RF
structure z6T(G:Gx)(ρ:Nat->Addr)(n:Nat)(ts:List D)(vs:List V)(H:Hp)(ρ':Nat->Addr)(n':Nat)(ts':List D)(H':Hp):Prop where
 old: ∀l,l<n->ρ' l=ρ l
 le:n<=n'
 inj: ∀i j,i<n'->j<n'->ρ' i=ρ' j->i=j
 dom: ∀l,l<n'->∃o,H' (ρ' l)=some o
 rd:RDs G ρ' H' ts' vs
 lb: ∀l∈labsL ts',l<n'/\(l<n->l∈labsL ts)
 fr: ∀a o,H a=some o->(∃o',H' a=some o')/\((∀l∈labsL ts,a≠ρ l)->H' a=some o)
 new: ∀l,n<=l->l<n'->H (ρ' l)=none
 kd:KD G.K H'
section
variable{G:Gx}{ρ ρ':Nat->Addr}{H H':Hp}
theorem z9X(k:Key):labs (keyD k)=[]:=by cases k<;>simp only[keyD,labs]
theorem z9Y: ∀ks:List Key,labsL (ks.map keyD)=[]
 |[]=>by simp only[List.map_nil,labsL]
 |k::ks=>by simp only[List.map_cons,labsL,z9X,z9Y ks,List.append_nil]
theorem z9Z(z:Key⊕List Key):labs (nkD z)=[]:=by
 cases z with
 |inl k=>exact z9X k
 |inr ks=>simp only[nkD,labs,z9Y]
mutual
theorem zdL: ∀(t:D) (v:V),RD G ρ H t v->∀l∈labs t,∃o,H (ρ l)=some o/\(∀xs,o≠ .tup xs)/\∀u w,o≠ .frz u w
 | .non,v,h,l,hl=>by simp only[labs] at hl;cases hl
 | .bool b,v,h,l,hl=>by simp only[labs] at hl;cases hl
 | .int b,v,h,l,hl=>by simp only[labs] at hl;cases hl
 | .str b,v,h,l,hl=>by simp only[labs] at hl;cases hl
 | .exc b,v,h,l,hl=>by simp only[labs] at hl;cases hl
 | .fn b,v,h,l,hl=>by simp only[labs] at hl;cases hl
 | .tup ds,v,h,l,hl=>by
  simp only[labs,RD] at h hl
  obtain⟨a,xs,_,_,r⟩:=h
  exact labL_mut ds xs r l hl
 | .fdc ks vs,v,h,l,hl=>by
  simp only[labs,RD] at h hl
  obtain⟨a,o,kvs,_,_,_,r⟩:=h
  exact labL_mut vs _ r l hl
 | .ro ds,v,h,l,hl=>by
  simp only[labs,RD] at h hl
  obtain⟨a,xs,_,_,r⟩:=h
  exact labL_mut ds xs r l hl
 | .lst k ds,v,h,l,hl=>by
  simp only[labs,RD] at h hl
  obtain⟨_,xs,s,r⟩:=h
  rcases List.mem_cons.mp hl with rfl|hl
  ·exact⟨_,s,(fun _ q=>nomatch q),(fun _ _ q=>nomatch q)⟩
  ·exact labL_mut ds xs r l hl
 | .dct k ks vs,v,h,l,hl=>by
  simp only[labs,RD] at h hl
  obtain⟨_,⟨kvs,s,s2,r⟩|⟨kvs,s,s2,r⟩⟩:=h
  ·rcases List.mem_cons.mp hl with rfl|hl
   ·exact⟨_,s,(fun _ q=>nomatch q),(fun _ _ q=>nomatch q)⟩
   ·rcases List.mem_append.mp hl with hl|hl
    ·rw[s2] at hl
     obtain⟨d,hd,hl⟩:=z1y hl
     rcases List.mem_cons.mp hd with rfl|hd
     ·simp only[labs] at hl;cases hl
     obtain⟨p,_,rfl⟩:=List.mem_map.mp hd
     obtain⟨kk,_⟩:=p
     cases kk<;>simp only[keyD,labs] at hl<;>cases hl
    ·exact labL_mut vs _ r l hl
  ·rcases List.mem_cons.mp hl with rfl|hl
   ·exact⟨_,s,(fun _ q=>nomatch q),(fun _ _ q=>nomatch q)⟩
   ·rcases List.mem_append.mp hl with hl|hl
    ·rw[s2] at hl
     obtain⟨d,hd,hl⟩:=z1y hl
     obtain⟨p,_,rfl⟩:=List.mem_map.mp hd
     simp only[dkD,labs] at hl
     obtain⟨d,hd,hl⟩:=z1y hl
     obtain⟨kk,_,rfl⟩:=List.mem_map.mp hd
     rw[z9Z] at hl;cases hl
    ·exact labL_mut vs _ r l hl
 | .obj k c ns vs,v,h,l,hl=>by
  simp only[labs,RD] at h hl
  obtain⟨_,C,dx,fs,_,s,_,r⟩:=h
  rcases List.mem_cons.mp hl with rfl|hl
  ·exact⟨_,s,(fun _ q=>nomatch q),(fun _ _ q=>nomatch q)⟩
  ·exact labL_mut vs _ r l hl
theorem labL_mut: ∀(t:List D) (v:List V),RDs G ρ H t v->∀l∈labsL t,∃o,H (ρ l)=some o/\(∀xs,o≠ .tup xs)/\∀u w,o≠ .frz u w
 |[],v,h,l,hl=>by simp only[labsL] at hl;cases hl
 |d::ds,v,h,l,hl=>by
  simp only[labsL,RDs] at h hl
  obtain⟨x,r,_,h1,h2⟩:=h
  rcases List.mem_append.mp hl with hl|hl
  ·exact zdL d x h1 l hl
  ·exact labL_mut ds r h2 l hl
end
theorem z8Y{kvs:List (Key×V)}{l:Nat}(hl:l∈labsL (kvs.map fun p=>keyD p.1)):False:=by
 obtain⟨d,hd,hl⟩:=z1y hl
 obtain⟨p,_,rfl⟩:=List.mem_map.mp hd
 obtain⟨kk,_⟩:=p
 cases kk<;>simp only[keyD,labs] at hl<;>cases hl
theorem z7r{kvs:List (NK×V)}{l:Nat}(hl:l∈labsL (kvs.map fun p=>dkD p.1)):False:=by
 obtain⟨d,hd,hl⟩:=z1y hl
 obtain⟨p,_,rfl⟩:=List.mem_map.mp hd
 simp only[dkD,labs] at hl
 obtain⟨d,hd,hl⟩:=z1y hl
 obtain⟨kk,_,rfl⟩:=List.mem_map.mp hd
 rw[z9Z] at hl;cases hl
mutual
theorem z8Z(l:Nat): ∀(t:D) (v:V),RD G ρ H t v->l∈labs t->(z0e l t).isSome=true
 | .non,v,h,hl=>by simp only[labs] at hl;cases hl
 | .bool b,v,h,hl=>by simp only[labs] at hl;cases hl
 | .int b,v,h,hl=>by simp only[labs] at hl;cases hl
 | .str b,v,h,hl=>by simp only[labs] at hl;cases hl
 | .exc b,v,h,hl=>by simp only[labs] at hl;cases hl
 | .fn b,v,h,hl=>by simp only[labs] at hl;cases hl
 | .tup ds,v,h,hl=>by
  simp only[labs,RD,z0e] at h hl⊢
  obtain⟨a,xs,_,_,r⟩:=h
  exact findL_some l ds xs r hl
 | .fdc ks vs,v,h,hl=>by
  simp only[labs,RD,z0e] at h hl⊢
  obtain⟨a,o,kvs,_,_,_,r⟩:=h
  exact findL_some l vs _ r hl
 | .ro ds,v,h,hl=>by
  simp only[labs,RD,z0e] at h hl⊢
  obtain⟨a,xs,_,_,r⟩:=h
  exact findL_some l ds xs r hl
 | .lst k ds,v,h,hl=>by
  simp only[labs,RD,z0e] at h hl⊢
  obtain⟨_,xs,s,r⟩:=h
  by_cases e:k=l
  ·rw[if_pos e];rfl
  ·rw[if_neg e]
   rcases List.mem_cons.mp hl with q|q
   ·exact absurd q.symm e
   ·exact findL_some l ds xs r q
 | .dct k ks vs,v,h,hl=>by
  simp only[labs,RD,z0e] at h hl⊢
  obtain⟨_,⟨kvs,s,s2,r⟩|⟨kvs,s,s2,r⟩⟩:=h
  ·by_cases e:k=l
   ·rw[if_pos e];rfl
   ·rw[if_neg e]
    rcases List.mem_cons.mp hl with q|q
    ·exact absurd q.symm e
    ·rcases List.mem_append.mp q with q|q
     ·rw[s2] at q;exact(z8Y q).elim
     ·exact findL_some l vs _ r q
  ·by_cases e:k=l
   ·rw[if_pos e];rfl
   ·rw[if_neg e]
    rcases List.mem_cons.mp hl with q|q
    ·exact absurd q.symm e
    ·rcases List.mem_append.mp q with q|q
     ·rw[s2] at q;exact(z7r q).elim
     ·exact findL_some l vs _ r q
 | .obj k c ns vs,v,h,hl=>by
  simp only[labs,RD,z0e] at h hl⊢
  obtain⟨_,C,dx,fs,_,s,_,r⟩:=h
  by_cases e:k=l
  ·rw[if_pos e];rfl
  ·rw[if_neg e]
   rcases List.mem_cons.mp hl with q|q
   ·exact absurd q.symm e
   ·exact findL_some l vs _ r q
theorem findL_some(l:Nat): ∀(t:List D) (v:List V),RDs G ρ H t v->l∈labsL t->(findL l t).isSome=true
 |[],v,h,hl=>by simp only[labsL] at hl;cases hl
 |d::ds,v,h,hl=>by
  simp only[labsL,RDs,findL] at h hl⊢
  obtain⟨x,r,_,h1,h2⟩:=h
  cases e:z0e l d with
  |some y=>rfl
  |none=>
   rcases List.mem_append.mp hl with q|q
   ·have:=z8Z l d x h1 q
    rw[e] at this;cases this
   ·exact findL_some l ds r h2 q
end
theorem z6T.stays{n n':Nat}{ts ts':List D}{vs:List V}(P:z6T G ρ n ts vs H ρ' n' ts' H')(r:RDs G ρ H ts vs):z1x H H':=by
 refine⟨fun b xs e=>(P.fr b _ e).2 fun l hl z=> ?_,fun b o u e=>(P.fr b _ e).2 fun l hl z=> ?_⟩
 ·obtain⟨o,q,q1,_⟩:=labL_mut ts vs r l hl
  rw[<-z,e] at q;cases q;exact q1 _ rfl
 ·obtain⟨o,q,_,q1⟩:=labL_mut ts vs r l hl
  rw[<-z,e] at q;cases q;exact q1 _ _ rfl
section
variable(k:KD G.K H){n:Nat}(inj: ∀i j,i<n->j<n->ρ i=ρ j->i=j){ts:List D}{vs:List V}(r:RDs G ρ H ts vs)(lb: ∀l∈labsL ts,l<n)
include k inj r lb
mutual
theorem z5H: ∀(t:D) (v:V),RD G ρ H t v->(∀l∈labs t,l<n)->rp (fun l=>findL l ts) t=t
 | .non,v,h,hl=>rfl
 | .bool b,v,h,hl=>rfl
 | .int b,v,h,hl=>rfl
 | .str b,v,h,hl=>rfl
 | .exc b,v,h,hl=>rfl
 | .fn b,v,h,hl=>rfl
 | .tup ds,v,h,hl=>by
  simp only[labs,RD,rp] at h hl⊢
  obtain⟨a,xs,_,_,r1⟩:=h
  rw[rpL_find_id ds xs r1 hl]
 | .fdc ks vs,v,h,hl=>by
  simp only[labs,RD,rp] at h hl⊢
  obtain⟨a,o,kvs,_,_,_,r1⟩:=h
  rw[rpL_find_id vs _ r1 hl]
 | .ro ds,v,h,hl=>by
  simp only[labs,RD,rp] at h hl⊢
  obtain⟨a,xs,_,_,r1⟩:=h
  rw[rpL_find_id ds xs r1 hl]
 | .lst l ds,v,h,hl=>by
  simp only[rp]
  cases e:findL l ts with
  |some d=>
   dsimp only
   obtain⟨q1,q2⟩:=findL_rd l ts vs d r e
   have h':=h
   simp only[RD] at h'
   obtain⟨rfl,_⟩:=h'
   exact RD.uniq k inj _ _ _ q1 h (fun j hj=>lb j (q2 j hj)) hl
  |none=>
   dsimp only
   simp only[labs,RD] at h hl
   obtain⟨_,xs,s,r1⟩:=h
   rw[rpL_find_id ds xs r1 fun j hj=>hl j (List.mem_cons_of_mem _ hj)]
 | .dct l ks vs',v,h,hl=>by
  simp only[rp]
  cases e:findL l ts with
  |some d=>
   dsimp only
   obtain⟨q1,q2⟩:=findL_rd l ts vs d r e
   have h':=h
   simp only[RD] at h'
   obtain⟨rfl,_⟩:=h'
   exact RD.uniq k inj _ _ _ q1 h (fun j hj=>lb j (q2 j hj)) hl
  |none=>
   dsimp only
   simp only[labs,RD] at h hl
   obtain⟨_,⟨kvs,s,s2,r1⟩|⟨kvs,s,s2,r1⟩⟩:=h
   ·rw[rpL_find_id vs' _ r1 fun j hj=>hl j (List.mem_cons_of_mem _ (List.mem_append_right _ hj))]
   ·rw[rpL_find_id vs' _ r1 fun j hj=>hl j (List.mem_cons_of_mem _ (List.mem_append_right _ hj))]
 | .obj l c ns vs',v,h,hl=>by
  simp only[rp]
  cases e:findL l ts with
  |some d=>
   dsimp only
   obtain⟨q1,q2⟩:=findL_rd l ts vs d r e
   have h':=h
   simp only[RD] at h'
   obtain⟨rfl,_⟩:=h'
   exact RD.uniq k inj _ _ _ q1 h (fun j hj=>lb j (q2 j hj)) hl
  |none=>
   dsimp only
   simp only[labs,RD] at h hl
   obtain⟨_,C,dx,fs,_,s,_,r1⟩:=h
   rw[rpL_find_id vs' _ r1 fun j hj=>hl j (List.mem_cons_of_mem _ hj)]
theorem rpL_find_id: ∀(t:List D) (v:List V),RDs G ρ H t v->(∀l∈labsL t,l<n)->rpL (fun l=>findL l ts) t=t
 |[],v,h,hl=>rfl
 |d::ds,v,h,hl=>by
  simp only[labsL,RDs,rpL] at h hl⊢
  obtain⟨x,q,_,h1,h2⟩:=h
  rw[z5H d x h1 fun j hj=>hl j (List.mem_append_left _ hj),rpL_find_id ds q h2 fun j hj=>hl j (List.mem_append_right _ hj)]
end
theorem z2o: ∀(t:List (Option D)) (v:List (Option V)),Sl G ρ H t v->(∀l∈z04 t,l<n)->rpO (fun l=>findL l ts) t=t
 |[],v,h,hl=>rfl
 |none::r',v,h,hl=>by
  simp only[z04,Sl,rpO] at h hl⊢
  obtain⟨o,q,_,h⟩:=h
  rw[z2o r' q h hl]
 |some d::ds,v,h,hl=>by
  simp only[z04,Sl,rpO] at h hl⊢
  obtain⟨x,q,_,h1,h2⟩:=h
  rw[z5H k inj r lb d x h1 fun j hj=>hl j (List.mem_append_left _ hj),z2o ds q h2 fun j hj=>hl j (List.mem_append_right _ hj)]
end
variable{F:Fy}{σv tv:List (Option V)}{s:Stt}{np:Nat}
theorem MR.call{ts ts':List D}{vs:List V}{n':Nat}(M:MR G F.toFx ρ H σv tv s)(r:RDs G ρ H ts vs)(lb:LB F.toFx ρ s.n (labsL ts))(P:z6T G ρ s.n ts vs H ρ' n' ts' H')
 (hc: ∀l∈z0T s,l∈labsL ts->(findL l ts').isSome=true):MR G F.toFx ρ' H' σv tv {σ:=rpO (fun l=>findL l ts') s.σ,tm:=rpO (fun l=>findL l ts') s.tm,n:=n'}:=by
 have st:=P.stays r
 have step: ∀l∈z0T s,ρ' l=ρ l/\(match findL l ts' with|some d=>RD G ρ' H' d (.ref (ρ l))|none=> ∀o,H (ρ l)=some o->H' (ρ l)=some o):=fun l hl=>by
  have ol:=P.old l (M.lab l hl)
  refine⟨ol, ?_⟩
  cases e:findL l ts' with
  |some d=>
   have q:=(findL_rd l ts' vs d P.rd e).1
   rw[ol] at q;exact q
  |none=>
   intro o e1
   refine(P.fr _ _ e1).2 fun j hj z=> ?_
   have:l=j:=M.inj l j (M.lab l hl) (lb j hj).1 z
   subst this
   have:=hc l hl hj
   rw[e] at this;cases this
 have hn: ∀l,l<n'->l<s.n\/H (ρ' l)=none:=fun l hl=>by
  by_cases h:l<s.n
  ·exact .inl h
  ·exact .inr (P.new l (Nat.not_lt.mp h) hl)
 have hlab: ∀(xs:List (Option D)),(∀l∈z04 xs,l∈z0T s)->∀l∈z04 (rpO (fun l=>findL l ts') xs),l<n'/\(l<s.n->l∈z0T s\/l∈labsL ts):=fun xs hx l h=>by
  rcases z4y l xs h with q|⟨k,d,q1,q2,q3⟩
  ·exact⟨Nat.lt_of_lt_of_le (M.lab l (hx l q)) P.le,fun _=> .inl (hx l q)⟩
  ·obtain⟨b1,b2⟩:=P.lb l ((findL_rd k ts' vs d P.rd q2).2 l q3)
   exact⟨b1,fun z=> .inr (b2 z)⟩
 have all: ∀l∈z0T {σ:=rpO (fun l=>findL l ts') s.σ,tm:=rpO (fun l=>findL l ts') s.tm,n:=n'},l<n'/\(l<s.n->l∈z0T s\/l∈labsL ts):=fun l h=>by
  rcases List.mem_append.mp h with h|h
  ·exact hlab s.σ (fun l q=>List.mem_append_left _ q) l h
  ·exact hlab s.tm (fun l q=>List.mem_append_right _ q) l h
 refine⟨Sl.rp st M.sl fun l hl=>step l (List.mem_append_left _ hl),Sl.rp st M.tm fun l hl=>step l (List.mem_append_right _ hl),P.inj,P.dom,fun l h=>(all l h).1,fun l h=> ?_,fun a o e=> ?_,P.kd,fun l hl z=> ?_,⟨Nat.le_trans M.bas.1 P.le,fun l hl=> ?_⟩⟩
 ·rcases hn l (all l h).1 with q|q
  ·rw[P.old l q]
   rcases(all l h).2 q with z|z
   ·exact M.own l z
   ·exact(lb l z).2
  ·exact .inr (M.fresh0 q)
 ·obtain⟨⟨o1,e1⟩,e2⟩:=M.frm a o e
  obtain⟨e3,e4⟩:=P.fr a o1 e1
  refine⟨e3,fun nA=> ?_⟩
  have e5:=e2 nA
  rw[e1] at e5;cases e5
  refine e4 fun l hl z=> ?_
  rcases(lb l hl).2 with q|q
  ·exact nA (z▸q)
  ·rw[<-z,e] at q;cases q
 ·rcases hn l hl with q|q
  ·rw[P.old l q] at z;exact M.frb l q z
  ·obtain⟨⟨o,e⟩,_⟩:=F.zA _ z
   obtain⟨⟨o',e'⟩,_⟩:=M.frm _ o e
   rw[q] at e';cases e'
 ·rw[P.old l (Nat.lt_of_lt_of_le hl M.bas.1)];exact M.bas.2 l hl
theorem MR.call0{ts:List D}{vs:List V}{n':Nat}(M:MR G F.toFx ρ H σv tv s)(r:RDs G ρ H ts vs)(lb:LB F.toFx ρ s.n (labsL ts))(P:z6T G ρ s.n ts vs H ρ' n' ts H'):MR G F.toFx ρ' H' σv tv {s with n:=n'}:=by
 have hf: ∀l∈labsL ts,(findL l ts).isSome=true:=fun l hl=>findL_some l ts vs r hl
 have M2:=M.call r lb P fun l _ hl=>hf l hl
 rw[z2o M.kd M.inj r (fun l hl=>(lb l hl).1) s.σ σv M.sl fun l hl=>M.lab l (List.mem_append_left _ hl),z2o M.kd M.inj r (fun l hl=>(lb l hl).1) s.tm tv M.tm fun l hl=>M.lab l (List.mem_append_right _ hl)] at M2
 exact M2
open Classical in
noncomputable def z4u(r:RF)(ts:List D):M D:=fun s=>match r with
 | .ok t ts' n'=>if ts'=ts then .ok t {s with n:=n'} else
  if ∀l∈z0T s,l∈labsL ts->(findL l ts').isSome=true then .ok t {σ:=rpO (fun l=>findL l ts') s.σ,tm:=rpO (fun l=>findL l ts') s.tm,n:=n'} else .no
 |_=> .no
noncomputable def mCall(f:FM)(ms:List (M D)):M D:=bd (z03 ms) fun ts s=>z4u (f ts s.n) ts s
noncomputable def spM(G:Gx)(np:Nat)(f:FM):Sp:=fun vs H Q _=>vs.length=np/\∃ρ n ts,RDs G ρ H ts vs/\(∀i j,i<n->j<n->ρ i=ρ j->i=j)/\(∀l,l<n->∃o,H (ρ l)=some o)/\(∀l∈labsL ts,l<n)/\KD G.K H/\match f ts n with
 | .ok t ts' n'=> ∀ρ' v H',z6T G ρ n ts vs H ρ' n' ts' H'->RD G ρ' H' t v->(∀l∈labs t,l<n'/\(l<n->l∈labsL ts))->Q v H'
 |_=>False
theorem za0{ts:List D}{vs:List V}{f:FM}{Q:VK}{E:XK}(hl:vs.length=np)(M:MRL G F.toFx ρ H σv tv s ts vs)(W:wM G F σv tv (z4u (f ts s.n) ts s) Q):spM G np f vs H Q E:=by
 refine⟨hl,ρ,s.n,ts,M.rd,M.m.inj,M.m.dom,fun l h=>(M.lb l h).1,M.m.kd, ?_⟩
 cases e:f ts s.n with
 |no=>rw[e] at W;exact W
 |ex d ts' n'=>rw[e] at W;exact W
 |ok t ts' n'=>
  rw[e] at W
  intro ρ' v H' P rd lbt
  have own: ∀l∈labs t,F.A0 (ρ' l)\/F.H0 (ρ' l)=none:=fun l h=>by
   obtain⟨b1,b2⟩:=lbt l h
   by_cases hn:l<s.n
   ·rw[P.old l hn];exact(M.lb l (b2 hn)).2
   ·exact .inr (M.m.fresh0 (P.new l (Nat.not_lt.mp hn) b1))
  unfold z4u at W
  dsimp only at W
  split at W
  ·rename_i et
   subst et
   exact W.out (M.m.call0 M.rd M.lb P) rd fun l h=>⟨(lbt l h).1,own l h⟩
  ·split at W
   ·rename_i hc
    exact W.out (M.m.call M.rd M.lb P hc) rd fun l h=>⟨(lbt l h).1,own l h⟩
   ·exact False.elim W
theorem za1: ∀(ms:List (M D)) (s:Stt) (ts:List D) (s':Stt),z03 ms s= .ok ts s'->ts.length=ms.length:=by
 intro ms
 induction ms with
 |nil=>intro s ts s' e;simp only[z03,rt,Res.ok.injEq] at e;rw[<-e.1];rfl
 |cons m ms ih=>
  intro s ts s' e
  simp only[z03,bd,psh] at e
  cases e1:m s with
  |ok t s1=>
   simp only[e1] at e
   cases e2:z03 ms (s1.psh t) with
   |ok ys s2=>
    simp only[e2,pop] at e
    cases e3:s2.tm with
    |nil=>simp only[e3] at e;cases e
    |cons o r=>
     cases o with
     |none=>simp only[e3] at e;cases e
     |some t'=>
      simp only[e3,rt,Res.ok.injEq] at e
      rw[<-e.1,List.length_cons,List.length_cons,ih _ _ _ e2]
   |ex d s2=>simp only[e2] at e;cases e
   |no=>simp only[e2] at e;cases e
  |ex d s1=>simp only[e1] at e;cases e
  |no=>simp only[e1] at e;cases e
theorem se_call{X:Cx}{e:Expr}{es:List Expr}{pos p:Pos}{CX:CXT}{k:Nat}{fa:Addr}{fd:FuncData}{ps:List Str}{x:Str}{E:XK}{f:FM}{ms:List (M D)}(hk:X.K=G.K)(Fn:FnOk X.prog X.w X.K X.mg X.base CX k fa fd ps (spM G ps.length f))(hr:Room k X.A)(hg:Gl X x)(hm:X.mg x=some (.ref fa))(hkp:W.keepIn X.K (.ref fa)=true)(hb:z5h X.K fd ps [])(hx:z5E CX X E)
 (ha:SA X G F (e::es) (z03 ms)) (hln:ms.length=ps.length) (hdb:(x==("__debug__" :Str))=false:=by decide) (he:starEach (e::es) X.env=(false,eval e X.env)::starEach es X.env:=by rfl) (hpl:(backTo pos (starEach es X.env)).any (·.1)=false:=by rfl):
 SE X G F (.Call (.Name x p) (e::es) [] pos) (mCall f ms):=by
 refine PE.imp0 (zdl Fn hr hg hm hkp hb .nil hx ha hdb he hpl) fun σ H Q ⟨tv,hs,ρ,s,M,W⟩=>⟨tv,hs,ρ,s,M, ?_⟩
 unfold mCall bd at W
 cases e1:z03 ms s with
 |ex d s1=>rw[e1] at W;exact W
 |no=>rw[e1] at W;exact W
 |ok ts s1=>
  rw[e1] at W
  intro ρ1 vs H1 M1
  rw[List.append_nil]
  exact za0 (by rw[<-M1.rd.length,za1 ms s ts s1 e1,hln]) M1 W
noncomputable def runF(nl:Nat)(mb:MS):FM:=fun ts n=>match mb {σ:=ts.map some++List.replicate (nl -ts.length) none,tm:=ts.map some,n:=n} with
 | .nx s'=>match z09 s'.tm with|some ts'=> .ok .non ts' s'.n|none=> .no
 | .rt t s'=>match z09 s'.tm with|some ts'=> .ok t ts' s'.n|none=> .no
 | .ex d s'=>match z09 s'.tm with|some ts'=> .ex d ts' s'.n|none=> .no
 |_=> .no
noncomputable def zbG(G:Gx)(ρ:Nat->Addr)(n:Nat)(ts:List D)(vs:List V)(H:Hp)(lb: ∀l∈labsL ts,l<n)(dom: ∀l,l<n->∃o,H (ρ l)=some o):Fy where
 A0:=fun a=> ∃l∈labsL ts,a=ρ l
 H0:=H
 Z:=fun a=>(∃o,H a=some o)/\∀l,l<n->a≠ρ l
 zA:=fun a z=>⟨z.1,fun⟨l,hl,e⟩=>z.2 l (lb l hl) e⟩
 aH:=fun a ⟨l,hl,e⟩=>e▸dom l (lb l hl)
 n0:=n
 ρ0:=ρ
 tv0:=vs.map some
 xw:=fun _ _=>False
theorem RDs.sl: ∀{ts:List D} {vs:List V},RDs G ρ H ts vs->Sl G ρ H (ts.map some) (vs.map some)/\z04 (ts.map some)=labsL ts
 |[],vs,h=>by simp only[RDs] at h;subst h;simp[Sl,z04,labsL]
 |d::ds,vs,h=>by
  simp only[RDs] at h
  obtain⟨x,q,rfl,h1,h2⟩:=h
  obtain⟨q1,q2⟩:=RDs.sl h2
  refine⟨?_,by simp only[List.map_cons,z04,labsL,q2]⟩
  simp only[List.map_cons,Sl]
  exact⟨_,_,rfl,h1,q1⟩
theorem z8f{ts ts':List D}{vs:List V}{n:Nat}{lb: ∀l∈labsL ts,l<n}{dom: ∀l,l<n->∃o,H (ρ l)=some o}(inj: ∀i j,i<n->j<n->ρ i=ρ j->i=j)(M:MR G (zbG G ρ n ts vs H lb dom).toFx ρ' H' σv (vs.map some) s)(e:z09 s.tm=some ts'):
 z6T G ρ n ts vs H ρ' s.n ts' H'/\∀l,l<s.n->((zbG G ρ n ts vs H lb dom).A0 (ρ' l)\/H (ρ' l)=none)->l<n->l∈labsL ts:=by
 have own: ∀l,l<s.n->((zbG G ρ n ts vs H lb dom).A0 (ρ' l)\/H (ρ' l)=none)->l<n->l∈labsL ts:=fun l hl q hn=>by
  have ol:=M.bas.2 l hn
  have ol:ρ' l=ρ l:=ol
  rcases q with⟨j,hj,q⟩|q
  ·rw[ol] at q
   rw[inj l j hn (lb j hj) q];exact hj
  ·rw[ol] at q
   obtain⟨o,z⟩:=dom l hn
   rw[z] at q;cases q
 obtain⟨r1,r2⟩:=Sl.all M.tm e
 refine⟨⟨M.bas.2,M.bas.1,M.inj,M.dom,r1,fun l hl=> ?_,fun a o e1=> ?_,fun l h1 h2=> ?_,M.kd⟩,own⟩
 ·rw[r2] at hl
  have m:l∈z0T s:=List.mem_append_right _ hl
  exact⟨M.lab l m,own l (M.lab l m) (M.own l m)⟩
 ·obtain⟨q1,q2⟩:=M.frm a o e1
  exact⟨q1,fun z=>q2 fun⟨l,hl,e⟩=>z l hl e⟩
 ·cases q:H (ρ' l) with
  |none=>rfl
  |some o=>
   refine absurd ⟨⟨o,q⟩,fun j hj e=> ?_⟩ (M.frb l h2)
   have oj:ρ' j=ρ j:=M.bas.2 j hj
   have:=M.inj l j h2 (Nat.lt_of_lt_of_le hj M.bas.1) (e.trans oj.symm)
   lia
theorem fn_M{P:Program}{w:World}{K:W.Frag}{mg:Str->Option Value}{base:Heap}{x qual:Str}{st:Stmt}{fa:Addr}{fd:FuncData}{N ps:List Str}{k:Nat}{mb:MS}(Fn:Fun K x qual st fa fd)(S:z02 N ps (z01 st))(hG:G.K=K)
 (hb: ∀(cdv:Value) (A:Around) (outer:List Env) (s:Shared) (H:Hp) (E:XK) (F:Fy),Room k (A.deeper (envOfC qual (z01 st) s.heap.objs.size fa cdv))->SSs (cxOf CX0 P w K mg base N qual (z01 st) fa cdv A outer s H E).nox G F (z1C st) mb):
 FnOk P w K mg base CX0 (k+1) fa fd ps (spM G ps.length (runF N.length mb)):=by
 refine Fn.ok S (fun vs H Q E h=>h.1) fun cdv A outer s H vs Q E hr h=> ?_
 obtain⟨hl,ρ,n,ts,r,inj,dom,lb,kd,W⟩:=h
 refine⟨_,hb cdv A outer s H E (zbG G ρ n ts vs H lb dom) hr,vs.map some,List.suffix_refl _,ρ,{σ:=ts.map some++List.replicate (N.length -ts.length) none,tm:=ts.map some,n:=n}, ?_, ?_⟩
 ·obtain⟨r1,r2⟩:=RDs.sl r
  have hlen:=r.length
  have sub: ∀l∈z0T {σ:=ts.map some++List.replicate (N.length -ts.length) none,tm:=ts.map some,n:=n},l∈labsL ts:=fun l h=>by
   rcases List.mem_append.mp h with h|h
   ·have h:l∈z04 (ts.map some++List.replicate (N.length -ts.length) none):=h
    rw[z0c] at h
    rcases List.mem_append.mp h with h|h
    ·rw[<-r2];exact h
    ·exact absurd h (z4N _)
   ·rw[<-r2];exact h
  refine⟨?_,r1,inj,dom,fun l h=>lb l (sub l h),fun l h=> .inl ⟨l,sub l h,rfl⟩,fun a o e=>⟨⟨o,e⟩,fun _=>e⟩,kd,fun l hl z=>z.2 l hl rfl,⟨Nat.le_refl _,fun l _=>rfl⟩⟩
  show Sl G ρ H _ (vs.map some++List.replicate (N.length -vs.length) none)
  rw[<-hlen]
  exact r1.append (Sl.none_map _)
 ·unfold runF at W
  cases e:mb {σ:=ts.map some++List.replicate (N.length -ts.length) none,tm:=ts.map some,n:=n} with
  |nx s'=>
   simp only[e] at W
   cases ea:z09 s'.tm with
   |none=>simp only[ea] at W
   |some ts'=>
    simp only[ea] at W
    intro ρ' σv' H' M
    obtain⟨P,_⟩:=z8f inj M ea
    exact W ρ' .non H' P (by simp only[RD]) fun l h=>by simp[labs] at h
  |rt t s'=>
   simp only[e] at W
   cases ea:z09 s'.tm with
   |none=>simp only[ea] at W
   |some ts'=>
    simp only[ea] at W
    intro ρ' σv' v H' M
    obtain⟨P,own⟩:=z8f inj M.m ea
    exact W ρ' v H' P M.rd1 fun l h=>⟨(M.lb1 l h).1,own l (M.lb1 l h).1 (M.lb1 l h).2⟩
  |bk s'=>simp only[e] at W
  |ct s'=>simp only[e] at W
  |ex d s'=>
   simp only[e] at W
   cases ea:z09 s'.tm with
   |none=>simp only[ea] at W
   |some ts'=>simp only[ea] at W
  |no=>simp only[e] at W
end
mutual
noncomputable def sz:D->Nat
 | .tup ds=>szL ds+1
 | .ro ds=>szL ds+1
 | .fdc _ vs=>szL vs+1
 | .lst _ ds=>szL ds+1
 | .dct _ _ vs=>szL vs+1
 | .obj _ _ _ vs=>szL vs+1
 | .non=>1| .bool _=>1| .int _=>1| .str _=>1| .exc _=>1| .fn _=>1
noncomputable def szL:List D->Nat
 |[]=>0
 |d::ds=>sz d+szL ds
end
mutual
theorem zbH(l:Nat): ∀(t d:D),z0e l t=some d->sz d<=sz t
 | .non,d,e=>by simp only[z0e] at e;cases e
 | .bool b,d,e=>by simp only[z0e] at e;cases e
 | .int b,d,e=>by simp only[z0e] at e;cases e
 | .str b,d,e=>by simp only[z0e] at e;cases e
 | .exc b,d,e=>by simp only[z0e] at e;cases e
 | .fn b,d,e=>by simp only[z0e] at e;cases e
 | .tup ds,d,e=>by simp only[z0e,sz] at e⊢;have:=findL_sz l ds d e;lia
 | .ro ds,d,e=>by simp only[z0e,sz] at e⊢;have:=findL_sz l ds d e;lia
 | .fdc ks vs,d,e=>by simp only[z0e,sz] at e⊢;have:=findL_sz l vs d e;lia
 | .lst k ds,d,e=>by
  simp only[z0e] at e
  by_cases h:k=l
  ·rw[if_pos h] at e;cases e;exact Nat.le_refl _
  ·rw[if_neg h] at e;simp only[sz];have:=findL_sz l ds d e;lia
 | .dct k ks vs,d,e=>by
  simp only[z0e] at e
  by_cases h:k=l
  ·rw[if_pos h] at e;cases e;exact Nat.le_refl _
  ·rw[if_neg h] at e;simp only[sz];have:=findL_sz l vs d e;lia
 | .obj k c ns vs,d,e=>by
  simp only[z0e] at e
  by_cases h:k=l
  ·rw[if_pos h] at e;cases e;exact Nat.le_refl _
  ·rw[if_neg h] at e;simp only[sz];have:=findL_sz l vs d e;lia
theorem findL_sz(l:Nat): ∀(t:List D) (d:D),findL l t=some d->sz d<=szL t
 |[],d,e=>by simp only[findL] at e;cases e
 |t::ts,d,e=>by
  simp only[findL] at e
  simp only[szL]
  cases e1:z0e l t with
  |some y=>rw[e1] at e;cases e;have:=zbH l t _ e1;lia
  |none=>rw[e1] at e;have:=findL_sz l ts d e;lia
end
section
variable{G:Gx}{F:Fy}{ρ:Nat->Addr}{H:Hp}{σv tv:List (Option V)}{s:Stt}{t:D}{ts ds es:List D}{v:V}{vs xs ys:List V}{l:Nat}{Q:VK}
theorem z7s(M:MR G F.toFx ρ H σv tv s)(h:RD G ρ H (.lst l ds) v)(lb: ∀j∈labs (.lst l ds),j<s.n):l∉labsL ds:=fun hl=>by
 have h0:=h
 simp only[RD] at h0
 obtain⟨rfl,xs,q,r⟩:=h0
 have:=findL_some l ds xs r hl
 cases e:findL l ds with
 |none=>rw[e] at this;cases this
 |some d=>
  obtain⟨q1,q2⟩:=findL_rd l ds xs d r e
  have e2:=RD.uniq M.kd M.inj _ _ _ q1 h (fun j hj=>lb j (by simp only[labs];exact List.mem_cons_of_mem _ (q2 j hj))) lb
  have e3:=findL_sz l ds d e
  rw[e2] at e3
  simp only[sz] at e3
  lia
theorem MR.put2{o:HO}{d:D}(M:MR G F.toFx ρ H σv tv s)(ln:l<s.n)(ow:F.A0 (ρ l)\/F.H0 (ρ l)=none)(ts:z1x H (upd H (ρ l) o))(k:KD G.K (upd H (ρ l) o))(hd:RD G ρ (upd H (ρ l) o) d (.ref (ρ l)))(hb:LB F.toFx ρ s.n (labs d)):
 MR G F.toFx ρ (upd H (ρ l) o) σv tv (s.put l d):=by
 have step: ∀k,k∈z0T s->ρ k=ρ k/\(match (if k=l then some d else none:Option D) with|some d=>RD G ρ (upd H (ρ l) o) d (.ref (ρ k))|none=> ∀o',H (ρ k)=some o'->upd H (ρ l) o (ρ k)=some o'):=fun k hk=>by
  refine⟨rfl, ?_⟩
  by_cases e:k=l
  ·rw[if_pos e];subst e;exact hd
  ·rw[if_neg e]
   intro o' q
   rw[z08 (fun z=>e (M.inj k l (M.lab k hk) ln z))]
   exact q
 have sub: ∀(xs:List (Option D)) (j:Nat),j∈z04 (rpO (fun k=>if k=l then some d else none) xs)->(∀i∈z04 xs,i∈z0T s)->j<s.n/\(F.A0 (ρ j)\/F.H0 (ρ j)=none):=fun xs j h hx=>by
  rcases z4y j xs h with q|⟨k,d',q1,q2,q3⟩
  ·exact⟨M.lab j (hx j q),M.own j (hx j q)⟩
  ·by_cases e:k=l
   ·rw[if_pos e] at q2;cases q2;exact hb j q3
   ·rw[if_neg e] at q2;cases q2
 have all: ∀j∈z0T (s.put l d),j<s.n/\(F.A0 (ρ j)\/F.H0 (ρ j)=none):=fun j h=>by
  rcases List.mem_append.mp h with h|h
  ·exact sub s.σ j h fun i hi=>List.mem_append_left _ hi
  ·exact sub s.tm j h fun i hi=>List.mem_append_right _ hi
 refine⟨Sl.rp ts M.sl fun k hk=>step k (List.mem_append_left _ hk),Sl.rp ts M.tm fun k hk=>step k (List.mem_append_right _ hk),M.inj,fun k hk=> ?_,fun j h=>(all j h).1,fun j h=>(all j h).2,fun a o' e=> ?_,k,M.frb,M.bas⟩
 ·by_cases e:ρ k=ρ l
  ·rw[e];exact⟨o,z0f⟩
  ·rw[z08 e];exact M.dom k hk
 ·obtain⟨⟨o1,e1⟩,e2⟩:=M.frm a o' e
  by_cases ea:a=ρ l
  ·subst ea
   refine⟨⟨o,z0f⟩,fun n=> ?_⟩
   rcases ow with q|q
   ·exact absurd q n
   ·rw[e] at q;cases q
  ·rw[z08 ea]
   exact⟨⟨o1,e1⟩,e2⟩
theorem zfP{o o':HO}{a:Addr}(k:KD G.K H)(e:H a=some o):KD G.K (upd H a o'):=fun b ob q=>by
 by_cases h:b=a
 ·subst h;rw[k _ _ q] at e;cases e
 ·rw[z08 h];exact k _ _ q
theorem z6U{o':HO}{a:Addr}{xs:List V}(e:H a=some (.lst xs)):z1x H (upd H a o'):=
 ⟨fun b ys q=>by rw[z08 (zbg q e (by intro z;cases z))];exact q,fun b o u q=>by rw[z08 (zbg q e (by intro z;cases z))];exact q⟩
theorem RDs.upd{o:HO}{a:Addr}(st:z1x H (upd H (ρ l) o))(inj: ∀i j,i<s.n->j<s.n->ρ i=ρ j->i=j)(ln:l<s.n)(r:RDs G ρ H ds xs)(lb: ∀j∈labsL ds,j<s.n/\j≠l):RDs G ρ (L2.upd H (ρ l) o) ds xs:=
 RDs.stay st ds xs r fun j hj=>⟨rfl,fun o' e=>by rw[z08 (fun z=>(lb j hj).2 (inj j l (lb j hj).1 ln z))];exact e⟩
theorem MR.putL(M:MR G F.toFx ρ H σv tv s)(hl:H (ρ l)=some (.lst xs))(ln:l<s.n)(ow:F.A0 (ρ l)\/F.H0 (ρ l)=none)(r:RDs G ρ H es ys)(lb:LB F.toFx ρ s.n (labsL es))(ne:l∉labsL es):
 MR G F.toFx ρ (upd H (ρ l) (.lst ys)) σv tv (s.put l (.lst l es)):=by
 refine M.put2 ln ow (z6U hl) (zfP M.kd hl) ?_ fun j hj=> ?_
 ·simp only[RD]
  exact⟨trivial,ys,z0f,RDs.upd (a:=0) (z6U hl) M.inj ln r fun j hj=>⟨(lb j hj).1,fun z=>ne (z▸hj)⟩⟩
 ·simp only[labs] at hj
  rcases List.mem_cons.mp hj with q|q
  ·rw[q];exact⟨ln,ow⟩
  ·exact lb j q
end
noncomputable def appD:D->List D->M D
 | .lst l ds,[y]=>fun s=>if ds.length<sizeLine/\l∉labs y then .ok .non (s.put l (.lst l (ds++[y]))) else .no
 |_,_=>fl
noncomputable def extD:D->List D->M D
 | .lst l ds,[y]=>fun s=>match seqD y with
  |some es=>if ds.length+es.length<=sizeLine/\l∉labsL es then .ok .non (s.put l (.lst l (ds++es))) else .no
  |none=> .no
 |_,_=>fl
noncomputable def isL(x:D):M Unit:=fun s=>match lstD x with|some _=> .ok () s|none=> .no
noncomputable def z26(mo:M D)(ms:List (M D))(g:D->List D->M D):M D:=bd mo fun x=>bd (isL x) fun _=>bd (psh x) fun _=>bd (z03 ms) fun ys=>bd pop fun x'=>g x' ys
section
variable{X:Cx}{G:Gx}{F:Fy}{e o:Expr}{es:List Expr}{apos cpos:Pos}
noncomputable def MtOK(G:Gx)(F:Fy)(r:V->List V->Hp->VK->Prop)(g:D->List D->M D):Prop:= ∀ρ s t ts v vs H σv tv Q,MRL G F.toFx ρ H σv tv s (t::ts) (v::vs)->wM G F σv tv (g t ts s) Q->r v vs H (fun w H'=>KD G.K H'->Q w H')
theorem MRL.hd{ρ:Nat->Addr}{H:Hp}{σv tv:List (Option V)}{s:Stt}{t:D}{ts:List D}{v:V}{vs:List V}(M:MRL G F.toFx ρ H σv tv s (t::ts) (v::vs)):RD G ρ H t v/\RDs G ρ H ts vs/\LB F.toFx ρ s.n (labs t)/\LB F.toFx ρ s.n (labsL ts):=by
 have h:=M.rd
 simp only[RDs] at h
 obtain⟨_,_,e,h1,h2⟩:=h
 cases e
 exact⟨h1,h2,fun l h=>M.lb l (by simp only[labsL];exact List.mem_append_left _ h),fun l h=>M.lb l (by simp only[labsL];exact List.mem_append_right _ h)⟩
theorem zfQ:MtOK G F z9B appD:=by
 intro ρ s t ts v vs H σv tv Q M W
 obtain⟨h1,h2,b1,b2⟩:=M.hd
 unfold appD at W
 split at W
 ·rename_i l ds y
  split at W
  ·rename_i hc
   have h1':=h1
   simp only[RD] at h1
   obtain⟨rfl,xs,hx,r⟩:=h1
   simp only[RDs] at h2
   obtain⟨u,q,rfl,h2,rfl⟩:=h2
   have ns:=z7s M.m h1' fun j hj=>(b1 j hj).1
   have bl:=b1 l (by simp only[labs];exact List.mem_cons_self ..)
   refine⟨_,xs,u,rfl,rfl,hx,by rw[<-r.length];exact hc.1,fun _=>W.out (M.m.putL hx bl.1 bl.2 (r.append (RDs.one h2)) ?_ ?_) (by simp only[RD]) fun l h=>by simp[labs] at h⟩
   ·intro j hj
    rw[z0r] at hj
    rcases List.mem_append.mp hj with q|q
    ·exact b1 j (by simp only[labs];exact List.mem_cons_of_mem _ q)
    ·exact b2 j q
   ·intro hj
    rw[z0r] at hj
    rcases List.mem_append.mp hj with q|q
    ·exact ns q
    ·simp only[labsL,List.append_nil] at q;exact hc.2 q
  ·exact False.elim W
 ·exact wfl W
theorem zfR:MtOK G F (zfp G.K) extD:=by
 intro ρ s t ts v vs H σv tv Q M W
 obtain⟨h1,h2,b1,b2⟩:=M.hd
 unfold extD at W
 split at W
 ·rename_i l ds y
  cases ey:seqD y with
  |none=>simp only[ey] at W;exact False.elim W
  |some es=>
   simp only[ey] at W
   split at W
   ·rename_i hc
    have h1':=h1
    simp only[RD] at h1
    obtain⟨rfl,xs,hx,r⟩:=h1
    simp only[RDs] at h2
    obtain⟨u,q,rfl,h2,rfl⟩:=h2
    obtain⟨a,ys,rfl,sq,r2,sub⟩:=h2.seq ey
    have ns:=z7s M.m h1' fun j hj=>(b1 j hj).1
    have bl:=b1 l (by simp only[labs];exact List.mem_cons_self ..)
    refine⟨_,a,xs,ys,rfl,rfl,hx,sq.symm,by rw[<-r.length,<-r2.length];exact hc.1,fun _=>W.out (M.m.putL hx bl.1 bl.2 (r.append r2) ?_ ?_) (by simp only[RD]) fun l h=>by simp[labs] at h⟩
    ·intro j hj
     rw[z0r] at hj
     rcases List.mem_append.mp hj with q|q
     ·exact b1 j (by simp only[labs];exact List.mem_cons_of_mem _ q)
     ·exact b2 j (by simp only[labsL,List.append_nil];exact sub j q)
    ·intro hj
     rw[z0r] at hj
     rcases List.mem_append.mp hj with q|q
     ·exact ns q
     ·exact hc.2 q
   ·exact False.elim W
 ·exact wfl W
theorem zbI{T:String}{mo:M D}{ms:List (M D)}{g:D->List D->M D}{r:V->List V->Hp->VK->Prop}{σ:L2.St}{H:Hp}{Q:VK}(hT:T= "list")(hg:MtOK G F r g)(h:tM G F (z26 mo ms g) σ H Q):
 tM G F mo σ H fun x H1=>tyV G.K T x H1/\tML G F (z03 ms) σ H1 fun xs H2=>r x xs H2 fun w H'=>KD G.K H'->Q w H':=by
 obtain⟨tv,h⟩:=h
 have hs:=h.1
 refine⟨tv,(z5W h).mono fun v H1 ⟨ρ1,s1,t,M1,W⟩=> ?_⟩
 simp only[bd,isL] at W
 cases e1:lstD t with
 |none=>simp only[e1] at W;exact False.elim W
 |some ds=>
  simp only[e1,psh] at W
  obtain⟨a,xs,rfl,sq,_⟩:=M1.rd1.lstq e1
  refine⟨.inl ⟨hT,xs,sq⟩,some (.ref a)::tv,suf1 hs,ρ1,s1.psh t,M1.push, ?_⟩
  cases e2:z03 ms (s1.psh t) with
  |ex d s2=>simp only[e2] at W;exact W
  |no=>simp only[e2] at W;exact W
  |ok ys s2=>
   simp only[e2,pop] at W
   intro ρ2 us H2 M2
   cases e3:s2.tm with
   |nil=>simp only[e3] at W;exact False.elim W
   |cons o r=>
    cases o with
    |none=>simp only[e3] at W;exact False.elim W
    |some t'=>
     simp only[e3] at W
     exact hg _ _ _ _ _ _ _ _ _ _ (M2.down e3) W
theorem zdM{name:Str}{id:String}{r:V->List V->Hp->VK->Prop}{mo:M D}{ms:List (M D)}{g:D->List D->M D}(hk:X.K=G.K)(slot:Slot "list" name id)(hty:typeOf (.builtin id)=pure (.type "method_descriptor"))(hm:MtR X id r)(hg:MtOK G F r g)(ho:SE X G F o mo)(ha:SA X G F (e::es) (z03 ms))
 (hbase:attributeBase o name X.env (eval o X.env)=eval o X.env:=by rfl)
 (hfew:((backTo cpos (starEach (e::es) X.env)).all (fun x=> !x.1)&&(backToKw cpos (keywordEach [] X.env)).all (fun x=>x.1.isSome)
  &&decide ((e::es).length+([]:List Keyword).length+(if([]:List Keyword).isEmpty then 0 else 1)<30))=true:=by rfl)
 (hline:(apos.endLine==cpos.line)=true:=by rfl) (hs:starEach (e::es) X.env=(false,eval e X.env)::starEach es X.env:=by rfl) (hplain:(backTo cpos (starEach es X.env)).any (·.1)=false:=by rfl):SE X G F (.Call (.Attribute o name apos) (e::es) [] cpos) (z26 mo ms g):=by
 refine PE.imp hk (zfi PySem.F.plainAttrs_list slot hty hm ho ha hbase hfew hline hs hplain) fun σ H Q h=> ?_
 rw[hk]
 exact zbI rfl hg h
noncomputable def setD(o i v:D):MS:=fun s=>match o,i with
 | .lst l ds, .int k=>match ixN ds.length k with
  |some j=>if l∉labs v then .nx (s.put l (.lst l (ds.set j v))) else .no
  |none=> .no
 |_,_=> .no
noncomputable def mTri(me mo mi:M D)(g:D->D->D->MS):MS:=lift me fun v=>lift (psh v) fun _=>lift mo fun o=>lift (psh o) fun _=>lift mi fun i=>lift pop fun o'=>lift pop fun v'=>g o' i v'
theorem zbJ{mo mi:M D}{g:D->D->D->MS}{tv:List (Option V)}{Dd:Ends}{σ:L2.St}{H1:Hp}{ρ1:Nat->Addr}{s1:Stt}{t:D}{v:V}(hs:F.tv0<:+tv)(M1:MRL G F.toFx ρ1 H1 σ tv s1 [t] [v])
 (W:wS G F tv ((lift (psh t) fun _=>lift mo fun o=>lift (psh o) fun _=>lift mi fun i=>lift pop fun o'=>lift pop fun v'=>g o' i v') s1) Dd):
 tM G F mo σ H1 fun o H2=>tM G F mi σ H2 fun i H3=> ∃ρ s t1 t2 t3,MRL G F.toFx ρ H3 σ tv s [t1,t2,t3] [v,o,i]/\wS G F tv (g t2 t3 t1 s) Dd:=by
 refine⟨some v::tv,suf1 hs,ρ1,s1.psh t,M1.push, ?_⟩
 simp only[lift,psh] at W
 cases e1:mo (s1.psh t) with
 |ex d s2=>simp only[e1] at W;exact W
 |no=>simp only[e1] at W;exact W
 |ok o s2=>
  simp only[e1] at W
  intro ρ2 u H2 M2
  refine⟨some u::some v::tv,suf1 (suf1 hs),ρ2,s2.psh o,M2.push, ?_⟩
  cases e2:mi (s2.psh o) with
  |ex d s3=>simp only[e2] at W;exact W
  |no=>simp only[e2] at W;exact W
  |ok i s3=>
   simp only[e2,pop] at W
   intro ρ3 w H3 M3
   cases e3:s3.tm with
   |nil=>simp only[e3] at W;exact False.elim W
   |cons o3 r3=>
    cases o3 with
    |none=>simp only[e3] at W;exact False.elim W
    |some x3=>
     simp only[e3] at W
     cases r3 with
     |nil=>exact False.elim W
     |cons o4 r4=>
      cases o4 with
      |none=>exact False.elim W
      |some x4=>
       have M4:=M3.down e3
       have M5:=M4.down (s':={s3 with tm:=some x4::r4}) rfl
       exact⟨ρ3,_,x4,x3,i,M5,W⟩
theorem zdN{me mo mi:M D}{g:D->D->D->MS}{tv:List (Option V)}{Dd:Ends}{σ:L2.St}{H:Hp}(h:tSv G F (mTri me mo mi g) tv Dd σ H):
 tM G F me σ H fun v H1=>tM G F mo σ H1 fun o H2=>tM G F mi σ H2 fun i H3=> ∃ρ s t1 t2 t3,MRL G F.toFx ρ H3 σ tv s [t1,t2,t3] [v,o,i]/\wS G F tv (g t2 t3 t1 s) Dd:=
 ⟨tv,(z3f h).mono fun v H1 ⟨ρ1,s1,t,M1,W⟩=>zbJ h.1 M1 W⟩
theorem zfS{ρ:Nat->Addr}{s:Stt}{t1 t2 t3:D}{v o i:V}{H:Hp}{σv tv:List (Option V)}{Dd:Ends}(M:MRL G F.toFx ρ H σv tv s [t1,t2,t3] [v,o,i])(W:wS G F tv (setD t2 t3 t1 s) Dd):zbs o i v H fun H'=>Dd.nx σv H':=by
 have h:=M.rd
 simp only[RDs] at h
 obtain⟨_,_,e,h1,_,_,e2,h2,_,_,e3,h3,_⟩:=h
 cases e;cases e2;cases e3
 have b1:LB F.toFx ρ s.n (labs t1):=fun l h=>M.lb l (by simp only[labsL];exact List.mem_append_left _ h)
 have b2:LB F.toFx ρ s.n (labs t2):=fun l h=>M.lb l (by simp only[labsL];exact List.mem_append_right _ (List.mem_append_left _ h))
 cases t2 with
 |lst l ds=>
  cases t3 with
  |int k=>
   simp only[setD] at W
   cases ek:ixN ds.length k with
   |none=>simp only[ek] at W;exact False.elim W
   |some j=>
    simp only[ek] at W
    by_cases hc:l∉labs t1
    ·rw[if_pos hc] at W
     have h2':=h2
     simp only[RD] at h2 h3
     obtain⟨rfl,xs,hx,r⟩:=h2
     subst h3
     have ns:=z7s M.m h2' fun j hj=>(b2 j hj).1
     have bl:=b2 l (by simp only[labs];exact List.mem_cons_self ..)
     have mm: ∀q,q∈labsL (ds.set j t1)->q∈labsL ds\/q∈labs t1:=fun q hq=>by
      obtain⟨d,h1,h2⟩:=z1y hq
      rcases List.mem_or_eq_of_mem_set h1 with z|z
      ·exact .inl (labsL_mem z q h2)
      ·subst z;exact .inr h2
     refine⟨_,xs,k,j,rfl,rfl,hx,by rw[<-r.length];exact ek,W ρ σv _ (M.m.putL hx bl.1 bl.2 (r.set j h1) (fun q hq=> ?_) fun hq=> ?_)⟩
     ·rcases mm q hq with z|z
      ·exact b2 q (by simp only[labs];exact List.mem_cons_of_mem _ z)
      ·exact b1 q z
     ·rcases mm l hq with z|z
      ·exact ns z
      ·exact hc z
    ·rw[if_neg hc] at W;exact False.elim W
  |_=>exact False.elim W
 |_=>exact False.elim W
theorem ss_setI{ob ix:Expr}{pos tpos:Pos}{mo mi me:M D}(he:SE X G F e me)(ho:SE X G F ob mo)(hi:SE X G F ix mi)(hg: ∀{to ti:TE},PE X ob to->PE X ix ti->PG X (.Subscript ob ix tpos) (gSub to ti zbs))(hs:swapsWithSole [.Subscript ob ix tpos] e pos.line X.env=pure false:=by rfl)(hw:swappedStores [.Subscript ob ix tpos] e X.env=pure none:=by rfl)
 (h1:(assignEach [.Subscript ob ix tpos] X.env).map (·.2)=[assign (.Subscript ob ix tpos) X.env]:=by rfl):SS X G F (.Assign [.Subscript ob ix tpos] e pos) (mTri me mo mi setD):=by
 refine PS.imp0 (zcj he (hg ho hi) hs hw h1) fun Dd σ H ⟨tv,h⟩=> ?_
 exact(zdN h).mono fun v H1 h1=>h1.mono fun o H2 h2=>h2.mono fun i H3 ⟨ρ,s,t1,t2,t3,M,W⟩=>zfS M W
end
end Mi
namespace Mi
open PySem L2
section
variable{X:Cx}{G:Gx}{F:Fy}{e a b c:Expr}{pos:Pos}{ma mb mc m:M D}
theorem se_add(hk:X.K=G.K)(ha:SE X G F a ma)(hb:SE X G F b mb):SE X G F (.BinOp a .Add b pos) (mBin ma mb addD):=
 z7o hk (r:=fun x y H Q=>rI0 (fun i j=> .int (i+j)) x y H Q\/zdw G.K x y H Q\/rCat x y H Q\/∃i j,x= .str i/\y= .str j/\i.length+j.length<=sizeLine/\Q (.str (i++j)) H) (hk▸OpR.or zf2 (OpR.or zdx (OpR.or zfj z8O))) zft ha hb
theorem se_sub(hk:X.K=G.K)(ha:SE X G F a ma)(hb:SE X G F b mb):SE X G F (.BinOp a .Sub b pos) (mBin ma mb subD):=z7o hk zf3 zfu ha hb
theorem se_mul(hk:X.K=G.K)(ha:SE X G F a ma)(hb:SE X G F b mb):SE X G F (.BinOp a .Mult b pos) (mBin ma mb mulD):=z7o hk (r:=fun x y H Q=>rI CMul (fun i j=> .int (i*j)) x y H Q\/(rRep x y H Q\/zdy G.K x y H Q)) (OpR.or zf4 (OpR.or zfk (hk▸zdz))) zfB ha hb
theorem se_fdiv(hk:X.K=G.K)(ha:SE X G F a ma)(hb:SE X G F b mb):SE X G F (.BinOp a .FloorDiv b pos) (mBin ma mb z6R):=z7o hk zdh zdE ha hb
theorem se_mod(hk:X.K=G.K)(ha:SE X G F a ma)(hb:SE X G F b mb):SE X G F (.BinOp a .Mod b pos) (mBin ma mb modD):=z7o hk zf5 zfv ha hb
theorem se_pow(hk:X.K=G.K)(ha:SE X G F a ma)(hb:SE X G F b mb):SE X G F (.BinOp a .Pow b pos) (mBin ma mb powD):=z7o hk zf6 zfw ha hb
theorem se_neg(hk:X.K=G.K)(ha:SE X G F a ma):SE X G F (.UnaryOp .USub a pos) (bd ma negD):=zia hk zf7 zfA ha
structure Cm(X:Cx)(G:Gx)(F:Fy)(op:CmpOp)(g:D->D->M D):Prop where
 h: ∃r,OpR X (compareOp op) r/\z1Q G F r g
theorem z5l:Cm X G F .Lt ltD:=⟨_,zi0,zic⟩
theorem z4v:Cm X G F .LtE leD:=⟨_,zi1,zid⟩
theorem zbK:Cm X G F .Gt gtD:=⟨_,zi2,zie⟩
theorem z5m(hk:X.K=G.K)(hu:X.A.units+64<cLine):Cm X G F .Eq eqD:=⟨_,hk▸zfm hu,zif⟩
theorem z90(hk:X.K=G.K)(hu:X.A.units+64<cLine):Cm X G F .NotEq neD:=⟨_,hk▸zfn hu,zig⟩
theorem zim(hk:X.K=G.K)(hu:X.A.units+64<cLine):Cm X G F .In inD:=⟨_,hk▸zfo hu,zih⟩
theorem zfT(hk:X.K=G.K)(hu:X.A.units+64<cLine):Cm X G F .NotIn ninD:=⟨_,hk▸z9E hu,zfx⟩
theorem zcq:Cm X G F .Is isN:=⟨_,zf8,zfy⟩
theorem se_cmp{op:CmpOp}{g:D->D->M D}(hc:Cm X G F op g)(ha:SE X G F a ma)(hb:SE X G F b mb)(hm:behindInMarks op b=false):SE X G F (.Compare a [op] [b] pos) (mBin ma mb g):=by
 obtain⟨r,h1,h2⟩:=hc.h
 exact zdC h1 h2 ha hb hm
theorem sb_cmp{op:CmpOp}{g:D->D->M D}(hc:Cm X G F op g)(ha:SE X G F a ma)(hb:SE X G F b mb)(hm:behindInMarks op b=false):SB X G F (.Compare a [op] [b] pos) (mBoo (mBin ma mb g)):=by
 obtain⟨r,h1,h2⟩:=hc.h
 exact zdG h1 h2 ha hb hm
theorem se_cmp2{op op':CmpOp}{g g':D->D->M D}(hc:Cm X G F op g)(hc':Cm X G F op' g')(ha:SE X G F a ma)(hb:SE X G F b mb)(hcc:SE X G F c mc)(hm:lastMarks [op,op'] [b,c]=false:=by with_unfolding_all rfl):SE X G F (.Compare a [op,op'] [b,c] pos) (z0C ma mb mc g g'):=by
 obtain⟨r,h1,h2⟩:=hc.h
 obtain⟨r',h1',h2'⟩:=hc'.h
 exact zbx h1 h2 h1' h2' ha hb hcc hm
theorem sb_cmp2{op op':CmpOp}{g g':D->D->M D}(hc:Cm X G F op g)(hc':Cm X G F op' g')(ha:SE X G F a ma)(hb:SE X G F b mb)(hcc:SE X G F c mc)(hm:lastMarks [op,op'] [b,c]=false:=by with_unfolding_all rfl):SB X G F (.Compare a [op,op'] [b,c] pos) (mBoo (z0C ma mb mc g g')):=by
 obtain⟨r,h1,h2⟩:=hc.h
 obtain⟨r',h1',h2'⟩:=hc'.h
 exact zby h1 h2 h1' h2' ha hb hcc hm
theorem se_idx(hk:X.K=G.K)(ha:SE X G F a ma)(hb:SE X G F b mb)(hs:z3X b):SE X G F (.Subscript a b pos) (mBin ma mb ixD):=zib hk (hk▸IxR.or zdr zfg) zii ha hb hs
structure Cb(X:Cx)(G:Gx)(F:Fy)(f:Value)(g:List D->M D):Prop where
 h: ∃r,CallR X f r/\z1g G F r g
theorem zfU(hk:X.K=G.K):Cb X G F (.builtin "len") lenD:=⟨_,hk▸z4m,zco⟩
theorem zfV:Cb X G F (.builtin "abs") absD:=⟨_,zbq,zfG⟩
theorem z8g(hc:X.calm=true):Cb X G F (.builtin "min") minD:=⟨_,z9v hc,zfH⟩
theorem zfW(hc:X.calm=true):Cb X G F (.builtin "max") maxD:=⟨_,z9u hc,zfI⟩
theorem za2(hk:X.K=G.K)(hd:X.A.handled=none):Cb X G F (.builtin "all") allD:=⟨_,hk▸z9F hd,zfJ⟩
theorem zcr:Cb X G F (.type "int") intD:=⟨_,z6F,zcp⟩
theorem z3g(hk:X.K=G.K):Cb X G F (.type "tuple") tupF:=⟨_,hk▸z9I,zdI⟩
theorem z7t(hk:X.K=G.K):Cb X G F (.type "list") z5k:=⟨_,hk▸z6N,zbz⟩
theorem se_cb{x:Str}{p:Pos}{es:List Expr}{ms:List (M D)}{g:List D->M D}{id:String}(hk:X.K=G.K)(hc:Cb X G F (.builtin id) g)(hgl:Gl X x)(hm:X.mg x=none)(hv:bootBuiltins x=some (.builtin id))(ha:SA X G F (e::es) (z03 ms))(hn:x≠ "__name__" :=by decide)(hdb:(x==("__debug__" :Str))=false:=by decide)
 (he:starEach (e::es) X.env=(false,eval e X.env)::starEach es X.env:=by rfl) (hpl:(backTo pos (starEach es X.env)).any (·.1)=false:=by rfl):SE X G F (.Call (.Name x p) (e::es) [] pos) (mCB ms g):=by
 obtain⟨r,h1,h2⟩:=hc.h
 exact zbv hk h1 h2 hgl hm hv ha hn hdb he hpl
theorem se_ct{x:Str}{p:Pos}{es:List Expr}{ms:List (M D)}{g:List D->M D}{T:String}(hk:X.K=G.K)(hc:Cb X G F (.type T) g)(hgl:Gl X x)(hm:X.mg x=none)(hv:bootBuiltins x=some (.type T))(ha:SA X G F (e::es) (z03 ms))(hn:x≠ "__name__" :=by decide)(hdb:(x==("__debug__" :Str))=false:=by decide)
 (he:starEach (e::es) X.env=(false,eval e X.env)::starEach es X.env:=by rfl) (hpl:(backTo pos (starEach es X.env)).any (·.1)=false:=by rfl):SE X G F (.Call (.Name x p) (e::es) [] pos) (mCB ms g):=by
 obtain⟨r,h1,h2⟩:=hc.h
 exact z9M hk h1 h2 hgl hm hv ha hn hdb he hpl
structure Cl(X:Cx)(G:Gx)(F:Fy)(id:String)(g:D->List D->M D):Prop where
 h: ∃r,MtR X id r/\MtOK G F r g
theorem z1E:Cl X G F "list.append" appD:=⟨_,z4G,zfQ⟩
theorem z6V(hk:X.K=G.K):Cl X G F "list.extend" extD:=⟨_,hk▸zdu,zfR⟩
end
end Mi
namespace Mi
open PySem L2 PySem.Spec PyProof.Rows
end Mi
namespace Mi
open PySem L2
section
variable{X:Cx}{G:Gx}{F:Fy}{e o:Expr}{es:List Expr}{apos cpos:Pos}
theorem se_cl{name:Str}{id:String}{mo:M D}{ms:List (M D)}{g:D->List D->M D}(hk:X.K=G.K)(slot:Slot "list" name id)(hty:typeOf (.builtin id)=pure (.type "method_descriptor"))(hm:Cl X G F id g)(ho:SE X G F o mo)(ha:SA X G F (e::es) (z03 ms))
 (hbase:attributeBase o name X.env (eval o X.env)=eval o X.env:=by rfl)
 (hfew:((backTo cpos (starEach (e::es) X.env)).all (fun x=> !x.1)&&(backToKw cpos (keywordEach [] X.env)).all (fun x=>x.1.isSome)
  &&decide ((e::es).length+([]:List Keyword).length+(if([]:List Keyword).isEmpty then 0 else 1)<30))=true:=by rfl)
 (hline:(apos.endLine==cpos.line)=true:=by rfl) (hs:starEach (e::es) X.env=(false,eval e X.env)::starEach es X.env:=by rfl) (hplain:(backTo cpos (starEach es X.env)).any (·.1)=false:=by rfl):SE X G F (.Call (.Attribute o name apos) (e::es) [] cpos) (z26 mo ms g):=by
 obtain⟨r,h1,h2⟩:=hm.h
 exact zdM hk slot hty h1 h2 ho ha hbase hfew hline hs hplain
end
inductive SEs(X:Cx)(G:Gx)(F:Fy):List Expr->List (M D)->Prop
 |nil:SEs X G F [] []
 |cons {e:Expr} {m:M D} {es:List Expr} {ms:List (M D)}:SE X G F e m->nst e=true->SEs X G F es ms->SEs X G F (e::es) (m::ms)
theorem sa_of{X:Cx}{G:Gx}{F:Fy}{es:List Expr}{ms:List (M D)}(hk:X.K=G.K)(h:SEs X G F es ms):SA X G F es (z03 ms):=by
 induction h with
 |nil=>exact zfs hk
 |cons h1 h2 _ ih=>exact zdD hk h1 ih h2
section
variable{X:Cx}{G:Gx}{F:Fy}{a b tg:Expr}{pos:Pos}
noncomputable def zfX(i:Nat):List (Option D)->Option (Option D)
 |some c::_=>(lstD c).map fun ds=>(ds[i]?).map fun d=> .tup [.int i,d]
 |_=>none
noncomputable def kEnm:ItK:=⟨1,zfX,z4n⟩
theorem z8h{a:Addr}:ItOK G (Ite G.K a) kEnm [some (.ref a)]:=by
 intro F ρ H σv tvp tv s i M
 dsimp only[kEnm]
 cases e:s.tm.drop tvp.length with
 |nil=>trivial
 |cons o r=>
  cases o with
  |none=>trivial
  |some c=>
   simp only[zfX]
   obtain⟨h,lb⟩:=MR.head (s:=s.popn tvp.length) M.popn e
   cases e1:lstD c with
   |none=>trivial
   |some ds=>
    simp only[Option.map_some]
    obtain⟨a',xs,ea,sq,rr,sub⟩:=h.lstq e1
    cases ea
    cases e2:ds[i]? with
    |none=>
     simp only[Option.map_none]
     refine⟨xs,sq, ?_⟩
     rw[<-rr.length]
     exact List.getElem?_eq_none_iff.mp e2
    |some d=>
     simp only[Option.map_some]
     obtain⟨x,ex,rx⟩:=rr.get i d e2
     refine⟨⟨xs,x,sq,ex⟩, ?_⟩
     rintro x' H' ⟨p,y,hp,rfl,rfl,hx,kd⟩
     rw[hx xs sq] at ex
     cases ex
     have sm:=Same.new (.tup [.int i,x]) hp
     refine⟨M.same sm kd,RDs.one ?_,fun l hl=>lb l (sub l (labsL_mem (List.mem_of_getElem? e2) l (by simpa only[labsL,labs,List.append_nil,List.nil_append] using hl)))⟩
     simp only[RD]
     refine⟨p,_,rfl,z0f, ?_⟩
     have r1:=(RDs.one rx).same sm
     simp only[RDs] at r1⊢
     obtain⟨x,r,e,h1,h2⟩:=r1
     cases e
     exact⟨_,_,rfl,by simp only[RD],_,_,rfl,h1,rfl⟩
noncomputable def zcs(i:Nat):List (Option D)->Option (Option D)
 |some (.tup ds)::_=>some ((ds[i]?).map fun d=> .tup [.int i,d])
 |_=>none
noncomputable def zdO:ItK:=⟨1,zcs,z4n⟩
theorem za3{a:Addr}:ItOK G (Itet G.K a) zdO [some (.ref a)]:=by
 intro F ρ H σv tvp tv s i M
 dsimp only[zdO]
 cases e:s.tm.drop tvp.length with
 |nil=>trivial
 |cons o r=>
  cases o with
  |none=>trivial
  |some c=>
   obtain⟨h,lb⟩:=MR.head (s:=s.popn tvp.length) M.popn e
   cases c with
   |tup ds=>
    simp only[zcs]
    obtain⟨a',xs,ea,sq,rr⟩:=h.tupq
    cases ea
    cases e2:ds[i]? with
    |none=>
     simp only[Option.map_none]
     refine⟨xs,sq, ?_⟩
     rw[<-rr.length]
     exact List.getElem?_eq_none_iff.mp e2
    |some d=>
     simp only[Option.map_some]
     obtain⟨x,ex,rx⟩:=rr.get i d e2
     refine⟨⟨xs,x,sq,ex⟩, ?_⟩
     rintro x' H' ⟨p,y,hp,rfl,rfl,hx,kd⟩
     rw[hx xs sq] at ex
     cases ex
     have sm:=Same.new (.tup [.int i,x]) hp
     refine⟨M.same sm kd,RDs.one ?_,fun l hl=>lb l (by simp only[labs];exact labsL_mem (List.mem_of_getElem? e2) l (by simpa only[labsL,labs,List.append_nil,List.nil_append] using hl))⟩
     simp only[RD]
     refine⟨p,_,rfl,z0f, ?_⟩
     have r1:=(RDs.one rx).same sm
     simp only[RDs] at r1⊢
     obtain⟨x,r,e,h1,h2⟩:=r1
     cases e
     exact⟨_,_,rfl,by simp only[RD],_,_,rfl,h1,rfl⟩
   |_=>trivial
noncomputable def enmI(ts:List D):M ItK:=fun s=>match ts with
 |[.lst l ds]=> .ok kEnm (s.psh (.lst l ds))
 |[.ro ds]=> .ok kEnm (s.psh (.ro ds))
 |[.tup ds]=> .ok zdO (s.psh (.tup ds))
 |_=> .no
noncomputable def mEnm(ms:List (M D)):M ItK:=bd (z03 ms) enmI
theorem si_enm{p tpos:Pos}{elts:List Expr}{x1:Nat}{ms:List (M D)}(hk:X.K=G.K)(hg:Gl X "enumerate")(hm:X.mg "enumerate" =none)(ha:SA X G F [a] (z03 ms))(hs:starEach [a] X.env=[(false,eval a X.env)]:=by rfl):SI X G F (.Tuple elts x1 tpos) (.Call (.Name "enumerate" p) [a] [] pos) (mEnm ms):=by
 refine PI.imp0 (zbA hg hm ha hs) fun σ H R ⟨tv,hs,ρ,s,M,W⟩=>⟨tv,hs,ρ,s,M, ?_⟩
 unfold mEnm bd at W
 cases e:z03 ms s with
 |ex d s1=>rw[e] at W;exact W
 |no=>rw[e] at W;exact W
 |ok ts s1=>
  rw[e] at W
  intro ρ1 vs H1 M1
  rw[hk]
  unfold enmI at W
  dsimp only at W
  split at W
  ·rename_i ts' K s' hh
   split at hh
   ·cases hh
    obtain⟨v,rfl,h,_⟩:=M1.one
    obtain⟨a,xs,rfl,sq,r,_⟩:=h.lstq (ds:=_) rfl
    exact⟨a,rfl, .inl ⟨⟨xs,sq⟩,W ρ1 H1 [some (.ref a)] _ rfl M1.push z8h⟩⟩
   ·cases hh
    obtain⟨v,rfl,h,_⟩:=M1.one
    obtain⟨a,xs,rfl,sq,r,_⟩:=h.lstq (ds:=_) rfl
    exact⟨a,rfl, .inl ⟨⟨xs,sq⟩,W ρ1 H1 [some (.ref a)] _ rfl M1.push z8h⟩⟩
   ·cases hh
    obtain⟨v,rfl,h,_⟩:=M1.one
    obtain⟨a,xs,rfl,sq,r⟩:=h.tupq
    exact⟨a,rfl, .inr ⟨⟨xs,sq⟩,W ρ1 H1 [some (.ref a)] _ rfl M1.push za3⟩⟩
   ·cases hh
  ·rename_i hh
   split at hh<;>cases hh
  ·exact False.elim W
noncomputable def zdP(lo:Int)(n:Nat):List D:=(List.range n).map fun(k:Nat)=>D.int (lo+(k:Int))
noncomputable def lrM(ts:List D):M D:=match ts with
 |[.int i, .int j]=>if(-(2^62)<=i/\i<2^62/\-(2^62)<=j/\j<2^62)/\(j -i).toNat<=sizeLine then newL (zdP i (j -i).toNat) else fl
 |_=>fl
mutual
theorem z4P: ∀t:D,(er t).hasDict=false
 | .non| .bool _| .int _| .str _| .dct _ _ _| .obj _ _ _ _| .exc _| .fn _| .fdc _ _=>by simp only[er,PyData.hasDict]
 | .tup ds=>by simp only[er,PyData.hasDict];exact erL_noDict ds
 | .ro ds=>by simp only[er,PyData.hasDict];exact erL_noDict ds
 | .lst _ ds=>by simp only[er,PyData.hasDict];exact erL_noDict ds
theorem erL_noDict: ∀ts:List D,PyData.hasDictAll (erL ts)=false
 |[]=>by simp only[erL,PyData.hasDictAll]
 |t::ts=>by simp only[erL,PyData.hasDictAll,z4P t,erL_noDict ts,Bool.or_self]
end
noncomputable def strC(ds:List D):Bool:=plainL ds&&(er (.tup ds)).showable&&decide ((er (.tup ds)).depth<=60)&&decide ((er (.tup ds)).shown.length<=sizeLine)
noncomputable def strD:List D->M D
 |[.tup ds]=>if strC ds=true then rt (.str (er (.tup ds)).shown) else fl
 |_=>fl
theorem zfY:z1g G F (rStr G.K) strD:=by
 intro ρ s ts vs H σv tv Q M W
 unfold strD at W
 split at W
 ·rename_i ds
  split at W
  ·rename_i hc
   simp only[strC,Bool.and_eq_true,decide_eq_true_eq] at hc
   obtain⟨⟨⟨c1,c2⟩,c3⟩,c4⟩:=hc
   obtain⟨v,rfl,h,_⟩:=M.one
   obtain⟨p,xs,rfl,s1,r1⟩:=id h.tupq
   exact⟨p,er (.tup ds),rfl,RD.dp _ _ h (by simp only[plain];exact c1),z4P _,c2,c3,c4,fun _=>W.flat M.m rfl⟩
  ·exact wfl W
 ·exact wfl W
noncomputable def eqS:D->D->M D
 | .str i, .str j=>rt (.bool (i==j))
 |_,_=>fl
theorem zfZ:z1Q G F (fun x y H Q=> ∃i j,x= .str i/\y= .str j/\Q (.bl (i==j)) H) eqS:=by
 intro ρ s t t' v u H σv tv Q M W
 unfold eqS at W
 split at W
 ·obtain⟨h1,h2⟩:=M.rd2
  simp only[RD] at h1 h2
  exact⟨_,_,h1,h2,W.flat M.m rfl⟩
 ·exact wfl W
theorem z8i:Cm X G F .Eq eqS:=⟨_,zfL,zfZ⟩
end
end Mi
namespace L2
open PySem PySem.Spec PyProof.Rows
structure Fly(P:Program)(w:World)(outer:List Env)(H:Hp)(s:Shared)(H':Hp)(C:Value)(e:Addr)(s':Shared):Prop where
 os:s'.os=s.os
 bare:AllBare s'.gens
 un:Un (frs outer) [] H H' s.heap s'.heap
 hok:HOk P w H' s'.heap
 he:H' e=none
 se:s.heap.get? e=none
 tr: ∃oe vs a0 T oT ts,s'.heap.get? e=some oe/\(oe.cls=C/\vs[0]? =some a0)/\oe.data= .fields vs/\vs[1]? =some (.ref T)/\T≠e/\s'.heap.get? T=some oT/\oT.data= .fields ts/\ts[3]? =some .none/\H' T=none/\s.heap.get? T=none
noncomputable def CX1(P:Program)(w:World):CXT:=fun outer H s E e s'=> ∃a C H',e= .ref a/\Fly P w outer H s H' C a s'/\E C none H'
noncomputable def bmV:List Value:=[.type "ValueError", .type "Exception", .type "BaseException", .type "object"]
noncomputable def zin(X:Cx)(E:St->XK):Prop:= ∀(pins:List (Addr×Obj)) (σ:St) (H:Hp) (s:Shared) (e:Value) (s':Shared),Inv X pins σ H s->CX1 X.prog X.w X.stack H s (E σ) e s'->X.xe e s'
end L2
namespace L2
open PySem PySem.Spec PySem.Calls PyProof.Rows Builtin Builtin.ObjectAttr Builtin.Getset_descriptor
structure XCls(K:W.Frag)(C:Addr):Prop where
 ob:W.mroIn K C (.type "object")=some true
 ba:W.mroIn K C (.type "BaseException")=some true
 f1:W.findIn K (.ref C) "__getattribute__" =some (some (.builtin "BaseException.__getattribute__"))
 f2:W.findIn K (.ref C) "__getattr__" =some none
 f3:W.findIn K (.ref C) "__class__" =some (some (.builtin "object.__class__"))
end L2
namespace L2
open PySem PySem.Spec PySem.Calls PyProof.Rows
end L2
namespace L2
open PySem PySem.Spec PySem.SeqAt PySem.Calls PyProof.Rows
end L2
namespace L2
open PySem PySem.Spec PySem.Calls PyProof.Rows
structure zio(k:Nat)(A:Around):Prop where
 dp:A.depth+3*k+5<recursionLimit
 un:A.units+16*k+200<cLine
 gd:A.guards=some []
structure FnOkH(P:Program)(w:World)(K:W.Frag)(mg:Str->Option Value)(base:Heap)(CX:CXT)(k:Nat)(f:Addr)(fd:FuncData)(ps:List Str)(sp:Sp):Prop where
 len: ∀vs H Q E,sp vs H Q E->vs.length=ps.length
 run: ∀(A:Around) (outer:List Env) (s:Shared) (H:Hp) (args:Args) (us:List Value) (vs:List V) (Q:VK) (E:XK),zio k A->Env0 P w K mg base A outer s H->BindsTo s fd args (ps.zip us)->Vals vs us->sp vs H Q E->
  codeAny (model P w) A (.call (.ref f) args) (CR CX outer P w H s Q E) s
end L2
namespace L2
open PySem PySem.Spec PyProof.Rows
end L2
namespace Mi
open PySem L2 PySem.Spec
open PyProof.Rows (envOfC)
structure XP(X:Cx)(G:Gx)(F:Fy)(E:L2.St->XK):Prop where
 ps:zin X E
 xw: ∀c s',F.xw (.exc c) s'->∀ρ σv tv H C,F.tv0<:+tv->MR G F.toFx ρ H σv tv s'->G.cl c=some C->E σv (.ref C) none H
 no: ∀d s',F.xw d s'->∃c,d= .exc c
open Classical in
noncomputable def zjJ(r:RF)(ts:List D):M D:=fun s=>match r with
 | .ok t ts' n'=>if ts'=ts then .ok t {s with n:=n'} else
  if ∀l∈z0T s,l∈labsL ts->(findL l ts').isSome=true then .ok t {σ:=rpO (fun l=>findL l ts') s.σ,tm:=rpO (fun l=>findL l ts') s.tm,n:=n'} else .no
 | .ex d ts' n'=>if ts'=ts then .ex d {s with n:=n'} else
  if ∀l∈z0T s,l∈labsL ts->(findL l ts').isSome=true then .ex d {σ:=rpO (fun l=>findL l ts') s.σ,tm:=rpO (fun l=>findL l ts') s.tm,n:=n'} else .no
 | .no=> .no
noncomputable def spX(G:Gx)(np:Nat)(f:FM):Sp:=fun vs H Q E=>vs.length=np/\∃ρ n ts,RDs G ρ H ts vs/\(∀i j,i<n->j<n->ρ i=ρ j->i=j)/\(∀l,l<n->∃o,H (ρ l)=some o)/\(∀l∈labsL ts,l<n)/\KD G.K H/\match f ts n with
 | .ok t ts' n'=> ∀ρ' v H',z6T G ρ n ts vs H ρ' n' ts' H'->RD G ρ' H' t v->(∀l∈labs t,l<n'/\(l<n->l∈labsL ts))->Q v H'
 | .ex d ts' n'=> ∃c,d= .exc c/\∀ρ' H' C,z6T G ρ n ts vs H ρ' n' ts' H'->G.cl c=some C->E (.ref C) none H'
 | .no=>False
noncomputable def ziq(k:Nat)(tm:List (Option D)):List (Option D):=tm.drop (tm.length -k)
end Mi
namespace Mi
open PySem L2 PySem.Spec
inductive Al(Φ:Addr->Prop):List (Str×Addr)->Prop
 |nil:Al Φ []
 |cons {c:Str} {a:Addr} {l:List (Str×Addr)}:Φ a->Al Φ l->Al Φ ((c,a)::l)
theorem Al.at{Φ:Addr->Prop}{l:List (Str×Addr)}(h:Al Φ l){c:Str}{a:Addr}(e:l.lookup c=some a):Φ a:=by
 induction h with
 |nil=>cases e
 | @cons c' a' l h _ ih=>
  rw[List.lookup_cons] at e
  cases q:c==c' with
  |true=>rw[q] at e;cases e;exact h
  |false=>rw[q] at e;exact ih e
inductive Al2{β:Type}(Φ:Addr->β->Prop):List (Str×Addr)->List (Str×β)->Prop
 |nil:Al2 Φ [] []
 |cons {c:Str} {a:Addr} {b:β} {l:List (Str×Addr)} {r:List (Str×β)}:Φ a b->Al2 Φ l r->Al2 Φ ((c,a)::l) ((c,b)::r)
 |skip {c:Str} {a:Addr} {l:List (Str×Addr)} {r:List (Str×β)}:r.lookup c=none->Al2 Φ l r->Al2 Φ ((c,a)::l) r
theorem z42: ∀{l:List (Str×Addr)} {c:Str} {a:Addr},l.lookup c=some a->a∈l.map (·.2)
 |(c',a')::l,c,a,e=>by
  rw[List.lookup_cons] at e
  cases q:c==c' with
  |true=>rw[q] at e;cases e;exact List.mem_cons_self ..
  |false=>rw[q] at e;exact List.mem_cons_of_mem _ (z42 e)
theorem z5I: ∀{l:List (Str×Addr)},(l.map (·.2)).Nodup->∀{c c':Str} {a:Addr},l.lookup c=some a->l.lookup c'=some a->c=c'
 |(k,v)::l,nd,c,c',a,e,e'=>by
  rw[List.map_cons,List.nodup_cons] at nd
  rw[List.lookup_cons] at e e'
  cases q:c==k with
  |true=>
   rw[q] at e;cases e
   cases q':c'==k with
   |true=>rw[beq_iff_eq] at q q';rw[q,q']
   |false=>rw[q'] at e';exact absurd (z42 e') nd.1
  |false=>
   rw[q] at e
   cases q':c'==k with
   |true=>rw[q'] at e';cases e';exact absurd (z42 e) nd.1
   |false=>rw[q'] at e';exact z5I nd.2 e e'
noncomputable def NSq(K:W.Frag)(a:Addr):Prop:= ∃o,K.lookup a=some o/\∀its n,o.data≠ .seq its n
theorem zdQ{K:W.Frag}{C:Addr}{bm:List Value}{i:String}(q:W.excIn K C bm i=true):NSq K C:=by
 unfold W.excIn at q
 split at q
 ·rename_i dd cd sl ho
  exact⟨_,ho,fun its n z=>by cases z⟩
 ·cases q
noncomputable def mkG(K:W.Frag)(l:List (Str×Addr))(nd:(l.map (·.2)).Nodup)(ok:Al (NSq K) l):Gx:=⟨K,fun c=>l.lookup c,fun _ _ _ h h'=>z5I nd h h',fun _ _ h=>ok.at h⟩
section
variable{X:Cx}{G:Gx}{F:Fy}{E:L2.St->XK}
structure FnV(X:Cx)(G:Gx)(np:Nat)(a:Addr)(f:FM):Prop where
 ex: ∃k fd ps,ps.length=np/\FnOk X.prog X.w X.K X.mg X.base (CX1 X.prog X.w) k a fd ps (spX G np f)/\Room k X.A/\W.keepIn X.K (.ref a)=true/\z5h X.K fd ps []
end
end Mi
namespace Mi
open PySem L2 PySem.Spec
open PyProof.Rows (envOfC)
end Mi
namespace Mi
open PySem L2 PySem.Spec
noncomputable def isT:List D->Bool
 | .non::_=>false
 |_=>true
section
variable{G:Gx}{ρ:Nat->Addr}{H:Hp}
noncomputable def rdD:D->Option (List D×List D)
 | .dct _ ks vs=>if isT ks=true then some (ks,vs) else none
 | .fdc ks vs=>some (ks,vs)
 |_=>none
end
end Mi
namespace Mi
open PySem L2
end Mi
namespace PySem
end PySem
namespace L2
open PySem PySem.Spec PyProof.Rows
end L2
namespace Mi
open PySem L2 PySem.Spec
structure Dm(K:W.Frag)(C:Addr)(x qual:Str)(st:Stmt)(ps:List Str) where
 f:Addr
 d:FuncData
 F:Fun K x qual st f d
 b:z5h K d ps []
 h:Meth K C x f
end Mi
namespace Mi
open PySem L2 PySem.Spec PyProof.Rows
end Mi
namespace Mi
open PySem L2 PySem.Spec PySem.SeqAt PySem.Calls PyProof.Rows
end Mi
namespace Mi
open PySem L2 PySem.Spec PyProof.Rows
section
variable{X:Cx}{G:Gx}{F:Fy}
noncomputable def repD:List D->M D
 |[.tup ds]=>if strC ds=true then rt (.str (er (.tup ds)).shown) else fl
 |[.lst l ds]=>if(plainL ds&&(er (.lst l ds)).showable&&decide ((er (.lst l ds)).depth<=60)&&decide ((er (.lst l ds)).shown.length<=sizeLine))=true then rt (.str (er (.lst l ds)).shown) else fl
 |_=>fl
theorem zg0:z1g G F (rStr G.K) repD:=by
 intro ρ s ts vs H σv tv Q M W
 unfold repD at W
 split at W
 ·rename_i ds
  exact zfY ρ s [.tup ds] vs H σv tv Q M W
 ·rename_i l ds
  split at W
  ·rename_i hc
   simp only[Bool.and_eq_true,decide_eq_true_eq] at hc
   obtain⟨⟨⟨c1,c2⟩,c3⟩,c4⟩:=hc
   obtain⟨v,rfl,h,_⟩:=M.one
   obtain⟨p,xs,rfl,s1,r1,_⟩:=id (h.lstq (ds:=ds) rfl)
   exact⟨p,er (.lst l ds),rfl,RD.dp _ _ h (by simp only[plain];exact c1),z4P _,c2,c3,c4,fun _=>W.flat M.m rfl⟩
  ·exact wfl W
 ·exact wfl W
end
end Mi
namespace L2
open PySem PySem.Spec PyProof.Rows
end L2
namespace Mi
open PySem L2
noncomputable def sNo:MS:=fun _=> .no
section
variable{X:Cx}{G:Gx}{F:Fy}{st:Stmt}
theorem ss_no:SS X G F st sNo:=fun pins s σ H D I h=>by
 obtain⟨tv,hs,ρ,s,M,W⟩:=h
 exact False.elim W
end
end Mi
namespace Mi
open PySem L2 PySem.Spec PyProof.Rows PySem F P
section
variable{X:Cx}{G:Gx}{F:Fy}
noncomputable def z7u:V->Option Str
 | .non=>some "None"
 | .bl b=>some (if b then "True" else "False")
 | .int i=>if i.natAbs.log2<1920 then some (toString i:String) else none
 | .str x=>some x
 |_=>none
noncomputable def zg1(K:W.Frag)(xs:List V)(H:Hp)(Q:VK):Prop:=(∃x t,xs=[x]/\z7u x=some t/\Q (.str t) H)\/rStr K xs H Q
theorem za4(hg:X.A.guards=some [])(hu:X.A.units+64<cLine):CallR X (.type "str") (zg1 X.K):=by
 intro pins s σ H xs us Q I r h
 rcases h with⟨x,t,rfl,e,q⟩|h
 ·obtain⟨u,rfl,r1⟩:=z2R r
  cases x with
  |non=>
   cases r1
   simp only[z7u,Option.some.injEq] at e
   subst e
   exact str_of_none ⟨.str "None",H,I.tok _,⟨_,rfl⟩,q⟩
  |bl b=>
   cases r1
   simp only[z7u,Option.some.injEq] at e
   subst e
   exact str_of_bool ⟨.str (if b then "True" else "False"),H,I.tok _,⟨_,rfl⟩,q⟩
  |int i=>
   obtain⟨t',rfl⟩:=r1
   simp only[z7u] at e
   split at e
   ·rename_i hl
    simp only[Option.some.injEq] at e
    subst e
    exact str_of_int hl ⟨.str (toString i:String),H,I.tok _,⟨_,rfl⟩,q⟩
   ·cases e
  |str y=>
   obtain⟨t',rfl⟩:=r1
   simp only[z7u,Option.some.injEq] at e
   subst e
   exact str_of_str ⟨.str y,H,I,⟨_,rfl⟩,q⟩
  |_=>simp[z7u] at e
 ·exact z9V hg hu pins s σ H xs us Q I r h
noncomputable def strA:List D->M D
 |[.non]=>rt (.str "None")
 |[.bool b]=>rt (.str (if b then "True" else "False"))
 |[.int i]=>if i.natAbs.log2<1920 then rt (.str (toString i:String)) else fl
 |[.str x]=>rt (.str x)
 |ds=>repD ds
theorem zdR:z1g G F (zg1 G.K) strA:=by
 intro ρ s ts vs H σv tv Q M W
 unfold strA at W
 split at W
 ·obtain⟨v,rfl,h,_⟩:=M.one
  simp only[RD] at h;subst h
  exact .inl ⟨_,_,rfl,rfl,fun _=>W.flat M.m rfl⟩
 ·obtain⟨v,rfl,h,_⟩:=M.one
  simp only[RD] at h;subst h
  exact .inl ⟨_,_,rfl,rfl,fun _=>W.flat M.m rfl⟩
 ·split at W
  ·rename_i hl
   obtain⟨v,rfl,h,_⟩:=M.one
   simp only[RD] at h;subst h
   exact .inl ⟨_,_,rfl,by simp only[z7u,if_pos hl],fun _=>W.flat M.m rfl⟩
  ·exact wfl W
 ·obtain⟨v,rfl,h,_⟩:=M.one
  simp only[RD] at h;subst h
  exact .inl ⟨_,_,rfl,rfl,fun _=>W.flat M.m rfl⟩
 ·exact .inr (zg0 ρ s _ vs H σv tv Q M W)
theorem z1u(hk:X.K=G.K)(hg:X.A.guards=some [])(hu:X.A.units+64<cLine):Cb X G F (.type "str") strA:=⟨_,hk▸za4 hg hu,zdR⟩
theorem zg2:OpR X (compareOp .NotEq) (fun x y H Q=> ∃i j,x= .str i/\y= .str j/\Q (.bl (!(i==j))) H):=by
 intro pins s σ H x y v u Q I rx ry h
 obtain⟨i,j,rfl,rfl,q⟩:=h
 exact zhZ pins s σ H _ _ v u Q I rx ry ⟨rfl,by rw[z5S];exact q⟩
noncomputable def neS:D->D->M D
 | .str i, .str j=>rt (.bool (!(i==j)))
 |_,_=>fl
theorem zg3:z1Q G F (fun x y H Q=> ∃i j,x= .str i/\y= .str j/\Q (.bl (!(i==j))) H) neS:=by
 intro ρ s t t' v u H σv tv Q M W
 unfold neS at W
 split at W
 ·obtain⟨h1,h2⟩:=M.rd2
  simp only[RD] at h1 h2
  exact⟨_,_,h1,h2,W.flat M.m rfl⟩
 ·exact wfl W
theorem z4Q:Cm X G F .NotEq neS:=⟨_,zg2,zg3⟩
end
end Mi
namespace L2
open PySem PySem.Spec PyProof.Rows
end L2
namespace Mi
open PySem L2 PySem.Spec PyProof.Rows
end Mi
namespace L2
open PySem PySem.Spec PyProof.Rows
theorem z91{prog:Program}{w:World}{A:Around}(hh:A.handled=none)(I ax:Addr)(hne:ax≠I)(items:Array Value):
 WalksS prog w A I [I,ax] [I] (fun a b=>a=b) items.size (fun i v=>items[i]? =some v) (fun i s=>s.heap.IsListIter I ax i/\s.heap.IsList ax items) where
 sub:=fun b hb=>by simp at hb;simp[hb]
 grefl:=fun _=>rfl
 gtrans:=fun _ _ _ p q=>p.trans q
 frame:=fun _ _ _ _ st _ hk=>⟨st.1.at fun o e=>hk I (by simp) o e,st.2.at fun o e=>hk ax (by simp) o e⟩
 item:=fun i s Q E hi st hQ=>wpAny_pyNext_list_item st.1 st.2 (x:=items[i]) (by simp[hi]) fun h' hit' hs'=>
  hQ _ _ (by simp[hi]) ⟨hit',st.2.extBut hs'.extBut hne⟩ ⟨fun b o hb e=>hs'.extBut b o (fun h=>hb (by simp[h])) e,rfl,rfl,rfl,Nat.le_refl _⟩
 done:=fun s Q E st hQ=>wpAny_pyNext_list_end hh st.1 st.2 (by simp) fun h' he'=>hQ _ ⟨fun b o hb e=>he' b o (fun h=>hb (by simp[h])) e,rfl,rfl,rfl,Nat.le_refl _⟩
 self:=fun _ _ _ _ st hQ=>wpAny_pyIter_listiter st.1 hQ
theorem z5J(ns:List Int): ∀k,k<=ns.length->preSum (fun i=>(ns[i]?).getD 0) k=(ns.take k).sum
 |0,_=>by simp[preSum]
 |k+1,h=>by
  rw[preSum,z5J ns k (by lia),List.take_add_one,List.sum_append]
  simp[show k<ns.length by lia]
section
variable{X:Cx}
theorem za5(hc:X.A.handled=none):CallR X (.builtin "sum") (fun xs H Q=> ∃(p:Addr) (ns:List Int),xs=[.ref p]/\SqL X.K H p (ns.map V.int)/\Q (.int ns.sum) H):=by
 intro pins s σ H xs us Q I r h
 obtain⟨p,ns,rfl,hs,q⟩:=h
 obtain⟨u,rfl,ru⟩:=z2R r
 cases ru
 obtain⟨its,rv,pl,_⟩:=I.list hs
 have hl:=pl.isList
 have hlen:ns.length=its.length:=by have:=Paired.length rv;simpa using this
 have hlt:p<s.heap.objs.size:=by obtain⟨_,e,_⟩:=hl;exact Heap.lt_size e
 refine call_sum_walkAnyS (wpAny_pyIter_list hl ?_)
 refine⟨s.heap.objs.size,[s.heap.objs.size,p],[s.heap.objs.size],_,its.toArray.size,_,_,fun i=>(ns[i]?).getD 0,rfl,z91 (A:=X.A.in1) hc _ p (Nat.ne_of_lt hlt) its.toArray,
  ⟨⟨_,Heap.get?_push_size _ rfl,rfl,rfl⟩,hl.push _⟩,fun b hb=> ?_,fun i v hv=> ?_,fun s' t' hm=> ?_⟩
 ·simp only[List.mem_cons,List.not_mem_nil,or_false] at hb
  rcases hb with rfl|rfl
  ·rw[PyProof.Rows.size_push'];exact Nat.lt_succ_self _
  ·rw[PyProof.Rows.size_push'];exact Nat.lt_succ_of_lt hlt
 ·have hv:its[i]? =some v:=by simpa using hv
  have hi:i<ns.length:=by have:=(List.getElem?_eq_some_iff.mp hv).1;lia
  obtain⟨u,h1,h2⟩:=Vals.get (i:=i) (x:=V.int ns[i]) rv (by simp[hi])
  rw[h1] at hv
  cases hv
  obtain⟨t,rfl⟩:=h2
  exact⟨t,by simp[hi]⟩
 ·have e:preSum (fun i=>(ns[i]?).getD 0) its.toArray.size=ns.sum:=by
   rw[List.size_toArray,<-hlen,z5J ns _ (Nat.le_refl _),List.take_length]
  rw[e]
  obtain⟨hp,g,d,tk,os⟩:=s
  obtain⟨hp',g',d',tk',os'⟩:=s'
  obtain⟨m1,m2,m3,m4,m5⟩:=hm
  dsimp only at m1 m2 m3 m4 m5
  subst m2 m3 m4
  exact⟨.int _,H,I.kept (h':=hp') (t':=tk') (fun b o e=>m1 b o (by
   simp only[List.mem_singleton]
   exact Nat.ne_of_lt (Heap.lt_size e)) (Heap.get?_push_of_some _ e)),⟨_,rfl⟩,q⟩
end
end L2
namespace Mi
open PySem L2 PySem.Spec PyProof.Rows
section
variable{X:Cx}{G:Gx}{F:Fy}{e:Expr}{pos pos':Pos}
noncomputable def z3q:List D->Option (List Int)
 |[]=>some []
 | .int i::ds=>match z3q ds with|some ns=>some (i::ns)|none=>none
 |_=>none
theorem z6W{ρ:Nat->Addr}{H:Hp}: ∀{ds:List D} {xs:List V} {ns:List Int},RDs G ρ H ds xs->z3q ds=some ns->xs=ns.map V.int
 |[],xs,ns,h,e=>by simp only[RDs] at h;simp only[z3q] at e;cases e;exact h
 |d::ds,xs,ns,h,e=>by
  simp only[RDs] at h
  obtain⟨x,r,rfl,h1,h2⟩:=h
  cases d with
  |int i=>
   simp only[z3q] at e
   cases e2:z3q ds with
   |none=>rw[e2] at e;cases e
   |some ms=>
    rw[e2] at e
    cases e
    simp only[RD] at h1
    rw[h1,z6W h2 e2];rfl
  |_=>simp[z3q] at e
noncomputable def sumD:List D->M D
 |[.lst _ ds]=>match z3q ds with|some ns=>rt (.int ns.sum)|none=>fl
 |_=>fl
theorem zg4:z1g G F (fun xs H Q=> ∃(p:Addr) (ns:List Int),xs=[.ref p]/\SqL G.K H p (ns.map V.int)/\Q (.int ns.sum) H) sumD:=by
 intro ρ s ts vs H σv tv Q M W
 unfold sumD at W
 split at W
 ·rename_i l ds
  obtain⟨v,rfl,h,_⟩:=M.one
  obtain⟨p,xs,rfl,s1,r1,_⟩:=id (h.lstq (ds:=ds) rfl)
  cases e:z3q ds with
  |none=>rw[e] at W;exact wfl W
  |some ns=>
   rw[e] at W
   refine⟨p,ns,rfl, ?_,fun _=>W.flat M.m rfl⟩
   rw[<-z6W r1 e];exact s1
 ·exact wfl W
theorem zg5(hk:X.K=G.K)(hd:X.A.handled=none):Cb X G F (.builtin "sum") sumD:=⟨_,hk▸za5 hd,zg4⟩
end
end Mi
namespace L2
open PySem PySem.Spec PyProof.Rows
end L2
namespace Mi
open PySem L2
end Mi
namespace So
open PySem PySem.W PyProof.Rows PySem.SeqAt
end So
namespace L2
open PySem PySem.Spec PyProof.Rows
end L2
namespace Mi
open PySem L2 PySem.Spec PyProof.Rows
end Mi
namespace PySem
end PySem
namespace L2
open PySem PySem.Spec PyProof.Rows
end L2
namespace Mi
open PySem L2
end Mi
namespace So
open PySem PySem.W PyProof.Rows PySem.SeqAt
end So
namespace L2
open PySem PySem.Spec PyProof.Rows
end L2
namespace L2
open PySem PySem.Spec PyProof.Rows
open Sem (wp)
open AutoSeq1 (wpAny_loadPart')
section
variable{prog:Program}{w:World}{A:Around}{E:Value->Shared->Prop}{s:Shared}
theorem z7v{T newId initId:String}{Bn Bi:Builtin}{args:List Value}{kw:List (Str×Value)}{S:PySem.Spec}{Q Q₁:Value->Shared->Prop}(ft:TypeCalled T newId initId)
 (hct:checkTypeCall T ⟨args,kw⟩=pure ()) (hcn:checkBuiltinCall newId ⟨.type T::args,kw⟩=pure ())
 (entryN:entryFor table newId=some Bn) (entryI:entryFor table initId=some Bi) (g:Meets (Bn ⟨.type T::args,kw⟩) S)
 (h:S A.in1 (wants Q₁ E) s)
 (hnext: ∀obj s₁,Q₁ obj s₁->s₁.TypeIs obj T/\argsOk initId ⟨obj::args,kw⟩/\∃Si,Meets (Bi ⟨obj::args,kw⟩) Si/\Si A.in1 (wants (fun r s₂=>r= .none/\Q obj s₂) E) s₁):
 wpAny (model prog w) A (call (.type T) args kw) Q E s:=by
 obtain⟨c,tl,hmro⟩:=ft.mro
 have hmade:=ft.made
 have hsub:=ft.sub
 refine wpAny_call (codeAny_of_tree ?_)
 show wpAny _ _ (callAny (.type T) _) _ _ _
 refine wpAny_pure ⟨Code.quiet_builtin _ (by decide+kernel),codeAny_builtin F.entry_type_call ?_⟩
 rw[Around.under_plain (weight_type_call_type T args kw) (units_type_call_type T args kw)]
 have h1:=ft.notType
 have h2:=ft.canCreate
 repeat (any_goals (first|assumption|wp_step))
 refine codeAny_mono (codeAny_call_builtin ft.plain entryN (wpAny_of_eq hcn (g prog w A.in1 _ s h))) fun r s₁ hr=> ?_
 cases r with
 |error e=>exact hr
 |ok fl=>
  cases fl with
  |ret obj=>
   obtain⟨hT,hok,Si,gi,hsi⟩:=hnext _ _ hr
   have hli:=ft.init.lookup
   have hbi:=ft.init.bind obj
   repeat (any_goals (first|assumption|wp_step))
   refine codeAny_mono (codeAny_call_builtin ft.init.plain entryI (ft.init.check _ _ _ _ _ _ _ _ hT hok (gi prog w A.in1 _ s₁ hsi))) fun r₂ s₂ hr₂=> ?_
   cases r₂ with
   |error e=>exact hr₂
   |ok fl₂=>
    cases fl₂ with
    |ret r=>
     obtain⟨rfl,hq⟩:=hr₂
     repeat (any_goals (first|assumption|wp_step))
    |_=>exact hr₂.elim
  |_=>exact hr.elim
end
theorem z5n(a b:Value):checkTypeCall "enumerate" ⟨[a],[("start",b)]⟩=pure ():=by kernel_rfl
theorem z60(a b:Value):checkBuiltinCall "enumerate.__new__" ⟨[.type "enumerate",a],[("start",b)]⟩=pure ():=by kernel_rfl
theorem z92(a b c:Value):argsOk "object.__init__" ⟨[a,b],[("start",c)]⟩:=by
 unfold argsOk;kernel_rfl
theorem zir{T newId:String}{self a b:Value}(hl:typeLookup (.type T) "__init__" =pure (some (.builtin "object.__init__")))
 (hm:Bind.madeBy (.type T)=pure (some newId)) (hne:(some newId !=some "object.__new__")=true):
 Meets (Builtin.«object.__init__» ⟨[self,a],[("start",b)]⟩) (fun _ R s=>s.TypeIs self T/\R (.ok (.ret .none)) s):=by
 refine Meets.of_wp fun prog w A R s hs=> ?_
 obtain⟨hT,hq⟩:=hs
 repeat (any_goals (first|assumption|wp_step))
 exact⟨_,rfl,hq⟩
theorem z7w(l:Addr)(items:Array Value)(n:Nat)(dct:Option Addr)(sl:Array (Option Value))(t:Tok):
 Meets (Builtin.«enumerate.__new__» ⟨[.type "enumerate", .ref l],[("start", .int 1 t)]⟩) (fun _ R s=>s.heap.get? l=some {cls:= .type "list",dict:=dct,data:= .seq items n,slots:=sl}/\
  R (.ok (.ret (.ref (s.heap.push {cls:= .type "list_iterator",data:= .fields #[.ref l, .int 0 0]}).objs.size)))
   {s with heap:=(s.heap.push {cls:= .type "list_iterator",data:= .fields #[.ref l, .int 0 0]}).push {cls:= .type "enumerate",data:= .fields #[.none, .bool false, .ref s.heap.objs.size,rawInt 1, .none, .none]}}):=
 .of_wp fun prog w A R s h=>by
  obtain⟨hp,g,d,tk,os⟩:=s;obtain⟨hl,h⟩:=h
  have hsub:=sub_enumerate
  have hL:Heap.IsList (Shared.heap ⟨hp,g,d,tk,os⟩) l items:=⟨_,hl,rfl,n,rfl⟩
  wp_walk using wpAny_loadPart' hl
  refine wpAny_stack_any fun st=>wpAny_pure ?_
  split
  ·rename_i c _ _ _ _ _
   cases(c==Value.type "enumerate")
   ·wp_walk using wpAny_loadPart' hl,wpAny_pyIter_list hL
    exact⟨_,rfl,h⟩
   ·wp_walk using wpAny_loadPart' hl,wpAny_pyIter_list hL
    exact⟨_,rfl,h⟩
  ·wp_walk using wpAny_loadPart' hl,wpAny_pyIter_list hL
   exact⟨_,rfl,h⟩
end L2
namespace L2
open PySem PySem.Spec PyProof.Rows
open Sem (wp)
section
variable{prog:Program}{w:World}{A:Around}{E:Value->Shared->Prop}{s:Shared}
theorem z93{l:Addr}{items:Array Value}{t:Tok}{Q:Value->Shared->Prop}(hL:s.heap.IsList l items)
 (h: ∀h',IsEnum h' (s.heap.objs.size+1) s.heap.objs.size 1 .none->h'.IsListIter s.heap.objs.size l 0->h'.objs.size=s.heap.objs.size+2->
  (∀b o,s.heap.get? b=some o->h'.get? b=some o)->Q (.ref (s.heap.objs.size+1)) {s with heap:=h'}):
 wpAny (model prog w) A (call (.type "enumerate") [.ref l] [("start", .int 1 t)]) Q E s:=by
 obtain⟨⟨c,dct,dt,sl⟩,hl,hc,n,hd⟩:=hL
 replace hc:c= .type "list" :=hc
 replace hd:dt= .seq items n:=hd
 subst hc hd
 refine z7v (Q₁:=fun obj s₁=>s₁.TypeIs obj "enumerate" /\Q obj s₁) F.called_enumerate (z5n _ _) (z60 _ _) F.entry_enumerate_new F.entry_object_init
  (z7w l items n dct sl t) ⟨hl, ?_⟩ fun obj _ hq=>⟨hq.1,z92 obj _ _,_,zir F.called_enumerate.init.lookup F.called_enumerate.made (by decide),hq.1,rfl,hq.2⟩
 have hz:(s.heap.push {cls:= .type "list_iterator",data:= .fields #[.ref l, .int 0 0]}).objs.size=s.heap.objs.size+1:=Heap.size_push ..
 show _/\_
 rw[hz]
 have he:IsEnum ((s.heap.push {cls:= .type "list_iterator",data:= .fields #[.ref l, .int 0 0]}).push
  {cls:= .type "enumerate",data:= .fields #[.none, .bool false, .ref s.heap.objs.size,rawInt 1, .none, .none]}) (s.heap.objs.size+1) s.heap.objs.size 1 .none:=by
  have:=Heap.get?_push_size (s.heap.push {cls:= .type "list_iterator",data:= .fields #[.ref l, .int 0 0]})
   (o:={cls:= .type "enumerate",data:= .fields #[.none, .bool false, .ref s.heap.objs.size,rawInt 1, .none, .none]}) rfl
  rw[hz] at this;exact this
 refine⟨⟨_,he,rfl⟩,h _ he ⟨_,Heap.get?_push_of_some _ (Heap.get?_push_size _ rfl),rfl,rfl⟩ (by rw[Heap.size_push,hz]) fun b o x=>Heap.get?_push_of_some _ (Heap.get?_push_of_some _ x)⟩
end
theorem z7x{prog:Program}{w:World}{A:Around}(hh:A.handled=none)(it l:Addr)(hne:l≠it)(items:Array Value):
 Draws prog w A it [it,l] (items.size+1) (fun i v=>items[i - 1]? =some v) (fun i h=>0<i/\h.IsListIter it l (i - 1)/\h.IsList l items) where
 live:=fun _ _ st=>let⟨o,ho,_⟩:=st.2.1;⟨o,ho⟩
 frame:=fun _ _ _ st hk=>⟨st.1,st.2.1.at fun o e=>hk it (by simp) o e,let⟨o,ho,r⟩:=st.2.2;⟨o,hk l (by simp) o ho,r⟩⟩
 item:=fun i s Q E hi st hQ=>by
  have h0:=st.1
  refine wpAny_nextOf_list_item st.2.1 st.2.2 (x:=items[i - 1]'(by lia)) (by rw[Array.getElem?_eq_getElem (by lia)]) fun h' hit' hs'=> ?_
  exact hQ _ h' s.toks (by rw[Array.getElem?_eq_getElem (by lia)]) ⟨by lia,by rw[show i+1 - 1=i - 1+1 by lia];exact hit',st.2.2.extBut hs'.extBut hne⟩ hs'
 done:=fun s Q E st hE=>wpAny_nextOf_list_end hh st.2.1 st.2.2 (by simp) hE
noncomputable def Its(K:W.Frag)(a:Addr):It:=
 ⟨fun i H=> ∃xs x,SqL K H a xs/\xs[i]? =some x,fun i H v H'=> ∃p x,H p=none/\v= .ref p/\H'=upd H p (.tup [.int ((i+1:Nat):Int),x])/\(∀xs,SqL K H a xs->xs[i]? =some x)/\∀b o,K.lookup b=some o->H' b=none,fun i H=> ∃xs,SqL K H a xs/\xs.length<=i⟩
theorem z94{P:Program}{w:World}{K:W.Frag}{elts:List Expr}{x1:Nat}{tpos:Pos}(a e it:Addr)(hne:e≠it):Turn P w K (.Tuple elts x1 tpos) (Its K a) [e,it] e (fun i h=> ∃old,IsEnum h e it ((i+1:Nat):Int) old/\h.IsListIter it a i) where
 mem:=by simp
 obj:=fun i h st b hb=>by
  obtain⟨old,h1,h2⟩:=st
  have hb:b=e\/b=it:=by simpa using hb
  rcases hb with rfl|rfl
  ·exact⟨_,h1,fun v z=>by
    have z':Data.fields _=Data.cell v:=z
    cases z'⟩
  ·obtain⟨o,e,c,d⟩:=h2
   exact⟨o,e,fun v z=>by rw[d] at z;cases z⟩
 keep:=fun i h h' st k=>by
  obtain⟨old,h1,h2⟩:=st
  exact⟨old,k e (by simp) _ h1,h2.at fun o q=>k it (by simp) o q⟩
 item:=by
  intro X hP hw hK hc i pins s σ H E I hf st hg
  subst hP hw hK
  obtain⟨old,st1,st2⟩:=st
  obtain⟨xs,x,hq,hx⟩:=hg
  obtain⟨its,rv,p,hz⟩:=I.list hq
  obtain⟨u,hu,ru⟩:=rv.get hx
  have p:s.heap.IsList a its.toArray:=p.isList
  have nai:a≠it:=fun z=>by
   obtain⟨o,q,c,_⟩:=id p
   obtain⟨o',q',c',_⟩:=id st2
   rw[z,q'] at q;cases q
   rw[c] at c';exact absurd c' (by decide)
  have nea:e∉[it,a]:=fun z=>by
   have z:e=it\/e=a:=by simpa using z
   rcases z with z|z
   ·exact hne z
   ·obtain⟨o,q,c,_⟩:=id p
    rw[<-z,st1] at q;cases q
    have c:Value.type "enumerate" =Value.type "list" :=c
    exact absurd c (by decide)
  have hlt:i+1<its.toArray.size+1:=by
   have:=(List.getElem?_eq_some_iff.mp hu).1
   simpa using this
  refine wpAny_pyNext_enum_itemD (z7x (A:=X.A.in1) (I.ok.hd hc) it a nai its.toArray) st1 ⟨Nat.succ_pos _,st2,p⟩ hlt hne nea fun u' h1 tk hP heo hst ht hsz hk=> ?_
  have eu:u'=u:=by
   have hu':its[i]? =some u:=hu
   have hP':its.toArray[i]? =some u':=hP
   rw[List.getElem?_toArray,hu'] at hP'
   exact(Option.some.inj hP').symm
  subst eu
  refine⟨_,rfl,wpAny_letOwnedTupleGo_enum heo fun h2 he2 hs2=> ?_⟩
  have hs2:Heap.SameBut e h1 h2:=hs2
  have hel:e<s.heap.objs.size:=Heap.lt_size st1
  have ht2:h2.get? s.heap.objs.size=some {cls:= .type "tuple",data:= .seq #[.int ((i+1:Nat):Int) tk,u']}:=(hs2.2 _ (Nat.ne_of_gt hel)).trans ht
  have fr: ∀b∈[e,it],b≠s.heap.objs.size:=fun b hb=>by
   have hb:b=e\/b=it:=by simpa using hb
   rcases hb with rfl|rfl
   ·exact Nat.ne_of_lt hel
   ·obtain⟨o,q,_⟩:=st2
    exact Nat.ne_of_lt (Heap.lt_size q)
  have I1:Inv X pins σ (upd H s.heap.objs.size (.tup [.int ((i+1:Nat):Int),x])) {s with heap:=s.heap.push {cls:= .type "tuple",data:= .seq #[.int ((i+1:Nat):Int) tk,u']},toks:=s.toks}:=I.laid (t':=s.toks) (o:= .tup [.int ((i+1:Nat):Int),x]) (fun b ob q=>Heap.get?_push_of_some _ q) (Nat.le_refl _) ⟨by show 2<=sizeLine;decide,[.int ((i+1:Nat):Int) tk,u'], .cons ⟨_,rfl⟩ (.cons ru .nil),IsTup.new _ _⟩
  have f1: ∀b∈[e,it],FpOk X pins (upd H s.heap.objs.size (.tup [.int ((i+1:Nat):Int),x])) b:=fun b hb=>⟨by rw[z08 (fr b hb)];exact(hf b hb).1,(hf b hb).2⟩
  have I2:=I1.turnedL (h':=h2) (t':=tk+1) (fun b o hb q=>by
   have hb:b≠e/\b≠it:=by simpa using hb
   rcases Heap.get?_push_cases (show(s.heap.push {cls:= .type "tuple",data:= .seq #[.int ((i+1:Nat):Int) tk,u']}).get? b=some o from q) with⟨rfl,rfl⟩|q'
   ·exact ht2
   ·exact(hs2.2 b hb.1).trans (hk b o hb.1 hb.2 q')) f1
  refine⟨.ref s.heap.objs.size,_,I2,rfl,⟨_,x,I.hok.fresh (Nat.le_refl _),rfl,rfl,fun ys hy=>by rw[I.list_inj hy hq];exact hx,fun b o q=>(I2.bs b o (I2.ok.mod.kin b o q)).2⟩,⟨u', ?_, ?_⟩,fun b hb=>(f1 b hb).1⟩
  ·have:((i+1+1:Nat):Int)=((i+1:Nat):Int)+1:=by push_cast;rfl
   rw[this];exact he2
  ·obtain⟨o,q,r⟩:=hst.2.1
   exact⟨o,(hs2.2 it (Ne.symm hne)).trans q,r⟩
 done:=by
  intro X hP hw hK hc i pins s σ H E I hf st hg
  subst hP hw hK
  obtain⟨old,st1,st2⟩:=st
  obtain⟨xs,hq,hx⟩:=hg
  obtain⟨its,rv,p,hz⟩:=I.list hq
  have p:s.heap.IsList a its.toArray:=p.isList
  have hl:=rv.length
  have hT:s.TypeIs (.ref e) "enumerate" :=⟨_,st1,rfl⟩
  unfold pyNext
  refine wpAny_bind (wpAny_attempt (wpAny_callSpecial?_slot (name:=Str.ofString "__next__") hT F.slot_enumerate_next
   (wpAny_call_entry F.slot_enumerate_next hT F.entry_enumerate_next ?_ (F.args_enumerate_next_1 _))))
  show wpAny _ _ (field (.ref e) 2>>=_) _ _ _
  refine wpAny_bind (wpAny_field st1 rfl (x:= .ref it) rfl ?_)
  refine wpAny_bind (wpAny_nextOf_list_end (A:=X.A.in1) (I.ok.hd hc) st2 p (by simp;lia) fun h' x he' hx'=> ?_)
  obtain⟨o,ho,hcc⟩:=hx'
  refine wpAny_bind (wpAny_isInstance (T:= "StopIteration") (b:=true) ⟨o,ho,hcc⟩ isSubtype_stop ?_)
  exact wpAny_pure ⟨rfl,I.turnedL (t':=s.toks) (fun b o hb q=>he' b o (fun z=>hb (by simp[z])) q) hf⟩
 self:=fun A i s Q E st h=>by
  obtain⟨old,st1,_⟩:=st
  exact wpAny_pyIter_enum st1 h
section
variable{X:Cx}
noncomputable def zis(K:W.Frag)(ta:TA):TI:=fun σ H R=>ta σ H fun vs H1=> ∃a,vs=[.ref a]/\(∃xs,SqL K H1 a xs)/\R (Its K a) H1
theorem z61{M:Model}{A:Around}{E:Value->Shared->Prop}{s:Shared}{pos:Pos}{T:String}{first:List Value}{args:List (Bool×Sem Value)}{keywords:List (Option Str×Sem Value)}{Q:Value->Shared->Prop}
 (hplain:args.any (·.1)=false) (hkw:keywords.any (·.1.isNone)=false)
 (h:wpAny M A (evalArgs (.type T) true args keywords) (fun a s₁=>wpAny M A (call (.type T) (first++a.pos) a.kw) Q E s₁) E s):
 wpAny M A (callWith pos (.type T) first args keywords) Q E s:=by
 unfold callWith
 refine wpAny_bind (wpAny_holding (wpAny_mono h (fun a s₁ h₁=>wpAny_bind (wpAny_standAt ?_)) fun _ _ x=>x))
 simp only[hplain,hkw,Bool.or_false]
 refine wpAny_bind (wpAny_pure ?_)
 exact wpAny_bind (wpAny_mono h₁ (fun r s₂ hr=>wpAny_bind (wpAny_holding (wpAny_point (wpAny_pure hr)))) fun _ _ x=>x)
theorem zbL{a b:Expr}{ta:TA}{p pos tpos kp:Pos}{elts:List Expr}{x1:Nat}(hg:Gl X "enumerate")(hm:X.mg "enumerate" =none)(ha:PA X [a] ta)(hb:PE X b (tC (.int 1)))(hs:starEach [a] X.env=[(false,eval a X.env)]:=by rfl):PI X (.Tuple elts x1 tpos) (.Call (.Name "enumerate" p) [a] [⟨some "start",b,kp⟩] pos) (zis X.K ta):=by
 intro pins s σ H R I h
 refine wpAny_Call_Name_kw (z5B I hg hm PyProof.Rows.Boot.«enumerate» ?_)
 refine z61 (by rw[hs];rfl) rfl (evalArgs_kw2 rfl (thn (ha pos pins s σ H _ I h) fun us s1 ⟨vs,H1,I1,r1,q1⟩=> ?_) hs)
 refine kwAll_cons (thn (hb pins s1 σ H1 (fun v H'=>v= .int 1/\H'=H1) I1 ⟨rfl,rfl⟩) fun u s2 ⟨v,H2,I2,r2,ev,eh⟩=>kwAll_nil ?_)
 subst ev eh
 obtain⟨l,e,⟨xs,hq⟩,q⟩:=q1
 subst e
 cases r1 with
 |cons r rr=>
  cases rr
  cases r
  obtain⟨t,rfl⟩:=r2
  obtain⟨its,rv,p,hz⟩:=I2.list hq
  refine z93 p.isList fun h' he hit hsz hk=> ?_
  refine wpAny_pyIter_enum he ?_
  have I3:Inv X pins σ H2 {s2 with heap:=h'}:=I2.kept (t':=s2.toks) hk
  refine⟨s2.heap.objs.size+1,[s2.heap.objs.size+1,s2.heap.objs.size],_,_,H2,rfl,I3,z94 l _ _ (by show ¬(s2.heap.objs.size+1=s2.heap.objs.size);lia),⟨_,he,hit⟩,fun b hb=> ?_,q⟩
  have hb:b=s2.heap.objs.size+1\/b=s2.heap.objs.size:=by simpa using hb
  rcases hb with rfl|rfl
  ·exact I2.fpOk (Nat.le_succ _) (I2.hok.fresh (Nat.le_succ _))
  ·exact I2.fpOk (Nat.le_refl _) (I2.hok.fresh (Nat.le_refl _))
end
end L2
namespace Mi
open PySem L2 PySem.Spec PyProof.Rows
section
variable{X:Cx}{G:Gx}{F:Fy}{a b tg e o:Expr}{pos apos cpos:Pos}{mo mi mx:M D}
noncomputable def zg6(i:Nat):List (Option D)->Option (Option D)
 |some c::_=>(lstD c).map fun ds=>(ds[i]?).map fun d=> .tup [.int ((i+1:Nat):Int),d]
 |_=>none
noncomputable def kEns:ItK:=⟨1,zg6,z4n⟩
theorem z8j{a:Addr}:ItOK G (Its G.K a) kEns [some (.ref a)]:=by
 intro F ρ H σv tvp tv s i M
 dsimp only[kEns]
 cases e:s.tm.drop tvp.length with
 |nil=>trivial
 |cons o r=>
  cases o with
  |none=>trivial
  |some c=>
   simp only[zg6]
   obtain⟨h,lb⟩:=MR.head (s:=s.popn tvp.length) M.popn e
   cases e1:lstD c with
   |none=>trivial
   |some ds=>
    simp only[Option.map_some]
    obtain⟨a',xs,ea,sq,rr,sub⟩:=h.lstq e1
    cases ea
    cases e2:ds[i]? with
    |none=>
     simp only[Option.map_none]
     refine⟨xs,sq, ?_⟩
     rw[<-rr.length]
     exact List.getElem?_eq_none_iff.mp e2
    |some d=>
     simp only[Option.map_some]
     obtain⟨x,ex,rx⟩:=rr.get i d e2
     refine⟨⟨xs,x,sq,ex⟩, ?_⟩
     rintro x' H' ⟨p,y,hp,rfl,rfl,hx,kd⟩
     rw[hx xs sq] at ex
     cases ex
     have sm:=Same.new (.tup [.int ((i+1:Nat):Int),x]) hp
     refine⟨M.same sm kd,RDs.one ?_,fun l hl=>lb l (sub l (labsL_mem (List.mem_of_getElem? e2) l (by simpa only[labsL,labs,List.append_nil,List.nil_append] using hl)))⟩
     simp only[RD]
     refine⟨p,_,rfl,z0f, ?_⟩
     have r1:=(RDs.one rx).same sm
     simp only[RDs] at r1⊢
     obtain⟨x,r,e,h1,h2⟩:=r1
     cases e
     exact⟨_,_,rfl,by simp only[RD],_,_,rfl,h1,rfl⟩
noncomputable def ensI(ts:List D):M ItK:=fun s=>match ts with
 |[.lst l ds]=> .ok kEns (s.psh (.lst l ds))
 |[.ro ds]=> .ok kEns (s.psh (.ro ds))
 |_=> .no
noncomputable def mEns(ms:List (M D)):M ItK:=bd (z03 ms) ensI
theorem si_ens{p tpos kp:Pos}{elts:List Expr}{x1:Nat}{ms:List (M D)}(hk:X.K=G.K)(hg:Gl X "enumerate")(hm:X.mg "enumerate" =none)(ha:SA X G F [a] (z03 ms))(hb:PE X b (tC (.int 1)))(hs:starEach [a] X.env=[(false,eval a X.env)]:=by rfl):SI X G F (.Tuple elts x1 tpos) (.Call (.Name "enumerate" p) [a] [⟨some "start",b,kp⟩] pos) (mEns ms):=by
 refine PI.imp0 (zbL hg hm ha hb hs) fun σ H R ⟨tv,hs,ρ,s,M,W⟩=>⟨tv,hs,ρ,s,M, ?_⟩
 unfold mEns bd at W
 cases e:z03 ms s with
 |ex d s1=>rw[e] at W;exact W
 |no=>rw[e] at W;exact W
 |ok ts s1=>
  rw[e] at W
  intro ρ1 vs H1 M1
  rw[hk]
  unfold ensI at W
  dsimp only at W
  split at W
  ·rename_i ts' K s' hh
   split at hh
   ·cases hh
    obtain⟨v,rfl,h,_⟩:=M1.one
    obtain⟨a,xs,rfl,sq,r,_⟩:=h.lstq (ds:=_) rfl
    exact⟨a,rfl,⟨xs,sq⟩,W ρ1 H1 [some (.ref a)] _ rfl M1.push z8j⟩
   ·cases hh
    obtain⟨v,rfl,h,_⟩:=M1.one
    obtain⟨a,xs,rfl,sq,r,_⟩:=h.lstq (ds:=_) rfl
    exact⟨a,rfl,⟨xs,sq⟩,W ρ1 H1 [some (.ref a)] _ rfl M1.push z8j⟩
   ·cases hh
  ·rename_i hh
   split at hh<;>cases hh
  ·exact False.elim W
end
end Mi
namespace L2
open PySem PySem.Spec PyProof.Rows
end L2
namespace Mi
open PySem L2 PySem.Spec PyProof.Rows
end Mi
namespace L2
open PySem PySem.Spec PyProof.Rows
end L2
namespace Mi
open PySem L2 PySem.Spec PyProof.Rows
end Mi
namespace L2
open PySem PySem.Spec PyProof.Rows
section
variable{prog:Program}{w:World}{A:Around}{E:Value->Shared->Prop}{s:Shared}{z TI TO p q t u:Addr}{i j:Nat}{xs ys:Array Value}{a b:Value}
structure ZT(h:Heap)(z TI TO p q t u:Addr)(i j:Nat)(xs ys:Array Value)(a b:Value):Prop where
 z:IsZip h z TI TO .none
 ti:IsPair h TI (.ref p) (.ref q)
 to:IsPair h TO a b
 p:h.IsTupleIter p t i
 q:h.IsTupleIter q u j
 t:h.IsTuple t xs
 u:h.IsTuple u ys
end
end L2
namespace Mi
open PySem L2
end Mi
namespace L2
open PySem PySem.Spec PyProof.Rows
theorem z6X: ∀{ys:List Str} {us:List Value},Vals (ys.map V.str) us->StrsAre us ys
 |[],_, .nil=> .nil
 |y::ys,_, .cons ⟨t,e⟩ r=>by subst e;exact .cons y t (z6X r)
theorem z4R: ∀(l:List (Str×Tok)),Vals ((l.map (·.1)).map V.str) (strValues l)
 |[]=> .nil
 |(x,t)::l=> .cons ⟨t,rfl⟩ (z4R l)
section
variable{X:Cx}{tg:Expr}
noncomputable def zg7(K:W.Frag)(x:V)(xs:List V)(H:Hp)(Q:VK):Prop:= ∃(z:Str) (p:Addr) (ys:List Str),x= .str z/\xs=[.ref p]/\SqL K H p (ys.map V.str)/\(ys.map (·.length)).sum+ys.length*z.length<=sizeLine/\Q (.str (Txt.join z ys)) H
theorem zdS:MtR X "str.join" (zg7 X.K):=by
 intro pins s σ H x xs v us Q I rx rs h
 obtain⟨z,p,ys,rfl,rfl,hs,hz,q⟩:=h
 obtain⟨t,rfl⟩:=rx
 obtain⟨u,rfl,ru⟩:=z2R rs
 cases ru
 obtain⟨its,rv,pl,_⟩:=I.list hs
 exact join_list pl.isList (by rw[List.toList_toArray];exact z6X rv) (by rw[sizeLine_eq] at hz;exact hz) fun t' k=>⟨.str (Txt.join z ys),H,I.tok _,⟨_,rfl⟩,q⟩
noncomputable def zct(x:V)(xs:List V)(H:Hp)(Q:VK):Prop:= ∃(z y:Str),x= .str z/\xs=[.str y]/\(y.length==0)=false/\z.length+2<=sizeLine/\∀l,H l=none->Q (.ref l) (upd H l (.lst ((Txt.split z y).map V.str)))
theorem split_len{z y:Str}(hz:z.length+2<=sizeLine):(Txt.split z y).length<=sizeLine:=by
 unfold Txt.split
 split
 ·simp;lia
 ·split
  ·simp;lia
  ·have e1:=StrLaws.occ_length_le z y 0 z.length (z.length+1)
   rw[length_partsBetween]
   lia
theorem zbM:MtR X "str.split" zct:=by
 intro pins s σ H x xs v us Q I rx rs h
 obtain⟨z,y,rfl,rfl,hy,hz,q⟩:=h
 obtain⟨t,rfl⟩:=rx
 obtain⟨u,rfl,t',rfl⟩:=z2R rs
 have hn:=split_len (y:=y) hz
 have fin: ∀(l:List (Str×Tok)) (tk:Nat),l.map (·.1)=Txt.split z y->EP X pins σ Q (.ref s.heap.objs.size) {s with heap:=s.heap.push {cls:= .type "list",data:= .seq (strValues l).toArray},toks:=tk}:=by
  intro l tk e
  refine⟨.ref s.heap.objs.size,_,I.laid (t':=tk) (fun b o hb=>Heap.get?_push_of_some _ hb) (Nat.le_refl _) (show z3u X.prog X.w _ _ _ (.lst ((Txt.split z y).map V.str)) from⟨by rw[List.length_map];exact hn,strValues l,0,e▸z4R l,Heap.get?_push_size _ rfl⟩),rfl,q _ (I.hok.fresh (Nat.le_refl _))⟩
 by_cases h1:(decide (z.length<y.length)||decide (Builtin.Str.strKind z<Builtin.Str.strKind y))=true
 ·exact call_meets F.slot_str_split (typeIs_str _ _ _) F.entry_str_split (F.args_str_split_2 _ _) (meets_str_split_cannot_occur z y t t' h1) (fin [(z,t)] s.toks (if_pos h1).symm)
 ·have h1':=eq_false_of_ne_true h1
  by_cases hf:(Builtin.Str.occurrences z y 0 z.length (z.length+1)).isEmpty=true
  ·exact call_meets F.slot_str_split (typeIs_str _ _ _) F.entry_str_split (F.args_str_split_2 _ _) (meets_str_split_not_found z y t t' h1' hy hf) (fin [(z,t)] s.toks ((if_neg h1).trans (if_pos hf)).symm)
  ·have hf':=eq_false_of_ne_true hf
   have e:Txt.split z y=Builtin.Str.partsBetween z (Builtin.Str.occurrences z y 0 z.length (z.length+1)) y.length:=(if_neg h1).trans (if_neg hf)
   refine call_meets F.slot_str_split (typeIs_str _ _ _) F.entry_str_split (F.args_str_split_2 _ _) (meets_str_split_sep z y t t' h1' hy hf' (by lia) (by rw[<-e];exact hn)) ?_
   have z0:=fin (numbered s.toks (Builtin.Str.partsBetween z (Builtin.Str.occurrences z y 0 z.length (z.length+1)) y.length)) (s.toks+(Builtin.Str.partsBetween z (Builtin.Str.occurrences z y 0 z.length (z.length+1)) y.length).length) ((numbered_texts _ _).trans e.symm)
   rw[<-strsFrom_eq] at z0
   exact z0
theorem za6:CallR X (.type "int") (fun xs H Q=> ∃x n,xs=[.str x]/\x.length<=640/\PySem.intText? x=some n/\Q (.int n) H):=by
 intro pins s σ H xs us Q I r h
 obtain⟨x,n,rfl,hl,hn,q⟩:=h
 obtain⟨u,rfl,t,rfl⟩:=z2R r
 exact W.KIN.call_text hn hl ⟨.int n,H,I.tok _,⟨_,rfl⟩,q⟩
noncomputable def Itc(x:Str):It:=⟨fun i _=>i<x.cps.size,fun i H v H'=>H'=H/\∃c,x.cps[i]? =some c/\v= .str ⟨#[c]⟩,fun i _=>x.cps.size<=i⟩
theorem zbN{P:Program}{w:World}{K:W.Frag}(it:Addr)(x:Str)(t:Tok){ty:String}(hty:ty= "str_ascii_iterator" \/ty= "str_iterator"):Turn P w K tg (Itc x) [it] it (fun i h=>h.IsStrIter it ty x t i) where
 mem:=by simp
 obj:=fun i h st b hb=>by
  have e:b=it:=by simpa using hb
  subst e
  obtain⟨o,e,c,d⟩:=st
  exact⟨o,e,fun v z=>by rw[d] at z;cases z⟩
 keep:=fun i h h' ⟨o,ho,r⟩ k=>⟨o,k it (by simp) o ho,r⟩
 item:=by
  intro X hP hw hK hc i pins s σ H E I hf st hg
  subst hP hw hK
  obtain⟨f0,f1,f2,f3,f4,f5⟩:=hf it (by simp)
  have W:Walks X.prog X.w X.A it [it] [it] x.cps.size (SignAt x) (fun i h=>h.IsStrIter it ty x t i):=by
   rcases hty with rfl|rfl
   ·exact Walks.strAscii (I.ok.hd hc) it x t
   ·exact Walks.strWide (I.ok.hd hc) it x t
  refine W.item i s _ _ hg st fun v h' tk hv st' kk=> ?_
  obtain⟨c,u,hx,rfl⟩:=hv
  have I1:Inv X pins σ H {s with heap:=h',toks:=tk}:=I.turned (fun b o hb e=>kk b o (by simpa using hb) e) f0 f1 f3 f4 f5
  obtain⟨o,e,c1,d⟩:=id st'
  exact⟨_,rfl,zbl (s:={s with heap:=h',toks:=tk}) e c1 d (by rcases hty with rfl|rfl<;>decide) ⟨.str ⟨#[c]⟩,H,I1,⟨u,rfl⟩,⟨rfl,c,hx,rfl⟩,st',fun b hb=>(hf b hb).1⟩⟩
 done:=by
  intro X hP hw hK hc i pins s σ H E I hf st hg
  subst hP hw hK
  obtain⟨f0,f1,f2,f3,f4,f5⟩:=hf it (by simp)
  have hx:x.cps[i]? =none:=Array.getElem?_eq_none hg
  rcases hty with rfl|rfl
  ·exact wpAny_pyNext_ascii_end (I.ok.hd hc) st hx fun h' eb=>⟨rfl,I.turned (t':=s.toks) (fun b o hb e=>eb b o hb e) f0 f1 f3 f4 f5⟩
  ·exact wpAny_pyNext_wide_end (I.ok.hd hc) st hx fun h' eb=>⟨rfl,I.turned (t':=s.toks) (fun b o hb e=>eb b o hb e) f0 f1 f3 f4 f5⟩
 self:=fun _ _ _ _ _ st h=>by
  rcases hty with rfl|rfl
  ·exact wpAny_pyIter_striter_ascii st h
  ·exact wpAny_pyIter_striter_wide st h
noncomputable def iStr(tl:TE):TI:=fun σ H R=>tl σ H fun x H1=> ∃z,x= .str z/\R (Itc z) H1
theorem zg8{l:Expr}{tl:TE}(hl:PE X l tl):PI X tg l (iStr tl):=by
 intro pins s σ H R I h
 refine thn (hl pins s σ H _ I h) fun v s1 ⟨x,H1,I1,r1,q1⟩=> ?_
 obtain⟨z,rfl,q⟩:=q1
 obtain⟨t,rfl⟩:=r1
 have fin: ∀ty,ty= "str_ascii_iterator" \/ty= "str_iterator" ->PIE X pins σ tg R (.ref s1.heap.objs.size) {s1 with heap:=s1.heap.push {cls:= .type ty,data:= .fields #[.str z t, .int 0 0]}}:=by
  intro ty hty
  refine⟨s1.heap.objs.size,[s1.heap.objs.size],_,_,H1,rfl,I1.kept (t':=s1.toks) fun b o e=>Heap.get?_push_of_some _ e,zbN _ z t hty,⟨_,Heap.get?_push_size _ rfl,rfl,rfl⟩,fun b hb=> ?_,q⟩
  have e:b=s1.heap.objs.size:=by simpa using hb
  subst e
  exact I1.fpOk (Nat.le_refl _) (I1.hok.fresh (Nat.le_refl _))
 cases ha:z.cps.all (· <128)
 ·exact wpAny_pyIter_wide ha (fin _ (.inr rfl))
 ·exact wpAny_pyIter_ascii ha (fin _ (.inl rfl))
noncomputable def fmtV:V->Option Str
 | .int i=>if i.natAbs.log2<1920 then some (toString i:String) else none
 | .str x=>if x.length<=sizeLine then some x else none
 |_=>none
noncomputable def tFs:List (Str⊕TE)->Str->TE
 |[],z=>fun _ H Q=>z.length<=sizeLine/\Q (.str z) H
 | .inl y::ts,z=>fun σ H Q=>(z++y).length<=sizeLine/\tFs ts (z++y) σ H Q
 | .inr t::ts,z=>fun σ H Q=>t σ H fun v H1=> ∃y,fmtV v=some y/\(z++y).length<=sizeLine/\tFs ts (z++y) σ H1 Q
inductive PF(X:Cx):List Expr->List (Str⊕TE)->Prop where
 |nil:PF X [] []
 |lit {es:List Expr} {ts:List (Str⊕TE)} {x:Str} {j:Nat} {pos:Pos} (r:PF X es ts):PF X (.Constant (.str x) j pos::es) (.inl x::ts)
 |fld {e:Expr} {es:List Expr} {t:TE} {ts:List (Str⊕TE)} {pos:Pos} (h:PE X e t) (r:PF X es ts):PF X (.FormattedValue e (-1) none pos::es) (.inr t::ts)
theorem PF.go{es:List Expr}{ts:List (Str⊕TE)}(h:PF X es ts): ∀(z:Str) (pins:List (Addr×Obj)) (s:Shared) (σ:St) (H:Hp) (Q:VK),Inv X pins σ H s->tFs ts z σ H Q->wpAny (model X.prog X.w) X.A (joinParts z (evalEach es X.env)) (EP X pins σ Q) X.xe s:=by
 induction h with
 |nil=>
  intro z pins s σ H Q I h
  exact joinParts_nil ⟨.str z,H,I.tok _,⟨_,rfl⟩,h.2⟩ h.1
 |lit r ih=>
  intro z pins s σ H Q I h
  refine joinParts_cons (Calls.Constant_str ?_)
  exact⟨h.1,ih _ pins _ σ H Q (I.tok _) h.2⟩
 |fld he r ih=>
  intro z pins s σ H Q I h
  refine joinParts_cons (FormattedValue_plain (thn (he pins s σ H _ I h) fun v s1 ⟨x,H1,I1,r1,y,e,hz,q⟩=> ?_))
  cases x with
  |int i=>
   obtain⟨t,rfl⟩:=r1
   simp only[fmtV] at e
   split at e
   ·rename_i hl
    cases e
    exact formatField_int_small hl ⟨hz,ih _ pins _ σ H1 Q (I1.tok _) q⟩
   ·cases e
  |str w=>
   obtain⟨t,rfl⟩:=r1
   simp only[fmtV] at e
   split at e
   ·rename_i hl
    cases e
    exact formatField_str (fun t' tk=>⟨hz,ih _ pins _ σ H1 Q (I1.tok _) q⟩) hl
   ·cases e
  |_=>simp[fmtV] at e
theorem zit{v1 v2:Expr}{es:List Expr}{pos:Pos}{ts:List (Str⊕TE)}(h:PF X (v1::v2::es) ts):PE X (.JoinedStr (v1::v2::es) pos) (tFs ts Str.empty):=
 fun pins s σ H Q I q=>JoinedStr_many (h.go _ pins s σ H Q I q)
end
end L2
namespace Mi
open PySem L2 PySem.Spec PyProof.Rows
noncomputable def z5o:List D->Option (List Str)
 |[]=>some []
 | .str x::ds=>(z5o ds).map (x:: ·)
 |_=>none
noncomputable def z0w(mo:M D)(ms:List (M D))(g:Str->List D->M D):M D:=bd mo fun x=>match x with
 | .str z=>bd (z03 ms) (g z)
 |_=>fl
noncomputable def z1R(z:Str):List D->M D
 |[.lst _ ds]=>match z5o ds with
  |some ys=>if(ys.map (·.length)).sum+ys.length*z.length<=sizeLine then rt (.str (Txt.join z ys)) else fl
  |none=>fl
 |_=>fl
noncomputable def z1p(z:Str):List D->M D
 |[.str y]=>if(y.length==0)=false/\z.length+2<=sizeLine then newL ((Txt.split z y).map D.str) else fl
 |_=>fl
noncomputable def ixS(t t':D):M D:=match t,t' with
 | .str z, .int i=>if 0<=i/\i<2^63/\i<z.length then(match z.cps[i.toNat]? with|some c=>rt (.str ⟨#[c]⟩)|none=>fl) else fl
 |_,_=>fl
noncomputable def inS(t t':D):M D:=match t,t' with
 | .str i, .str j=>rt (.bool (!(Builtin.Str.occurrences j i 0 j.length 1).isEmpty))
 |_,_=>fl
noncomputable def lenS:List D->M D
 |[.str z]=>if z.length<=sizeLine then rt (.int z.length) else fl
 |ds=>lenD ds
noncomputable def intS:List D->M D
 |[.str x]=>if x.length<=640 then(match PySem.intText? x with|some n=>rt (.int n)|none=>fl) else fl
 |ds=>intD ds
noncomputable def kStr(z:Str):ItK:=⟨0,fun i _=>some ((z.cps[i]?).map fun c=> .str ⟨#[c]⟩),fun _=>z.cps.size⟩
noncomputable def za7(m:M D):M ItK:=bd m fun d=>match d with
 | .str z=>rt (kStr z)
 |_=>fl
noncomputable def fmtD:D->Option Str
 | .int i=>if i.natAbs.log2<1920 then some (toString i:String) else none
 | .str x=>if x.length<=sizeLine then some x else none
 |_=>none
noncomputable def mFs:List (Str⊕M D)->Str->M D
 |[],z=>if z.length<=sizeLine then rt (.str z) else fl
 | .inl y::ms,z=>if(z++y).length<=sizeLine then mFs ms (z++y) else fl
 | .inr m::ms,z=>bd m fun d=>match fmtD d with
  |some y=>if(z++y).length<=sizeLine then mFs ms (z++y) else fl
  |none=>fl
inductive SF(P:Expr->M D->Prop):List Expr->List (Str⊕M D)->Prop where
 |nil:SF P [] []
 |lit {es:List Expr} {ms:List (Str⊕M D)} {x:Str} {j:Nat} {pos:Pos} (r:SF P es ms):SF P (.Constant (.str x) j pos::es) (.inl x::ms)
 |fld {e:Expr} {es:List Expr} {m:M D} {ms:List (Str⊕M D)} {pos:Pos} (h:P e m) (r:SF P es ms):SF P (.FormattedValue e (-1) none pos::es) (.inr m::ms)
theorem SF.mono{P Q:Expr->M D->Prop}{es:List Expr}{ms:List (Str⊕M D)}(h:SF P es ms)(k: ∀e m,P e m->Q e m):SF Q es ms:=by
 induction h with
 |nil=>exact .nil
 |lit r ih=>exact .lit ih
 |fld h r ih=>exact .fld (k _ _ h) ih
section
variable{X:Cx}{G:Gx}{F:Fy}{e a b c o tg iter:Expr}{es:List Expr}{pos apos cpos:Pos}
theorem za8{ρ:Nat->Addr}{H:Hp}: ∀{ds:List D} {xs:List V} {ys:List Str},RDs G ρ H ds xs->z5o ds=some ys->xs=ys.map V.str
 |[],xs,ys,h,e=>by simp only[RDs] at h;simp only[z5o,Option.some.injEq] at e;subst h e;rfl
 |d::ds,xs,ys,h,e=>by
  simp only[RDs] at h
  obtain⟨x,r,rfl,h1,h2⟩:=h
  cases d with
  |str y=>
   simp only[z5o] at e
   cases e2:z5o ds with
   |none=>rw[e2] at e;cases e
   |some zs=>
    rw[e2] at e
    cases e
    simp only[RD] at h1
    rw[h1,za8 h2 e2];rfl
  |_=>simp[z5o] at e
noncomputable def StOK(G:Gx)(F:Fy)(r:V->List V->Hp->VK->Prop)(g:Str->List D->M D):Prop:= ∀ρ s z ts vs H σv tv Q,MRL G F.toFx ρ H σv tv s ts vs->wM G F σv tv (g z ts s) Q->r (.str z) vs H (fun w H'=>KD G.K H'->Q w H')
theorem zdT{name:Str}{id:String}{r:V->List V->Hp->VK->Prop}{mo:M D}{ms:List (M D)}{g:Str->List D->M D}(hk:X.K=G.K)(slot:Slot "str" name id)(hty:typeOf (.builtin id)=pure (.type "method_descriptor"))(hm:MtR X id r)(hg:StOK G F r g)(ho:SE X G F o mo)(ha:SA X G F (e::es) (z03 ms))
 (hbase:attributeBase o name X.env (eval o X.env)=eval o X.env:=by rfl)
 (hfew:((backTo cpos (starEach (e::es) X.env)).all (fun x=> !x.1)&&(backToKw cpos (keywordEach [] X.env)).all (fun x=>x.1.isSome)
  &&decide ((e::es).length+([]:List Keyword).length+(if([]:List Keyword).isEmpty then 0 else 1)<30))=true:=by rfl)
 (hline:(apos.endLine==cpos.line)=true:=by rfl) (hs:starEach (e::es) X.env=(false,eval e X.env)::starEach es X.env:=by rfl) (hplain:(backTo cpos (starEach es X.env)).any (·.1)=false:=by rfl):SE X G F (.Call (.Attribute o name apos) (e::es) [] cpos) (z0w mo ms g):=by
 refine PE.imp hk (zfi PySem.F.plainAttrs_str slot hty hm ho ha hbase hfew hline hs hplain) fun σ H Q h=> ?_
 obtain⟨tv,h⟩:=h
 have h0:=h.1
 refine⟨tv,(z5W h).mono fun v H1 ⟨ρ1,s1,t,M1,W⟩=> ?_⟩
 have rd:=M1.rd1
 cases t with
 |str z=>
  simp only[RD] at rd
  subst rd
  refine⟨(show("str" :String)= "str" from rfl),tv,h0,ρ1,s1,M1.m, ?_⟩
  dsimp only[bd] at W
  cases e2:z03 ms s1 with
  |ex d s2=>rw[e2] at W;exact W
  |no=>rw[e2] at W;exact W
  |ok ys s2=>rw[e2] at W;exact fun ρ2 us H2 M2=>hg _ _ _ _ _ _ _ _ _ M2 W
 |_=>exact False.elim W
structure Ct(X:Cx)(G:Gx)(F:Fy)(id:String)(g:Str->List D->M D):Prop where
 h: ∃r,MtR X id r/\StOK G F r g
theorem zdU:StOK G F (zg7 G.K) z1R:=by
 intro ρ s z ts vs H σv tv Q M W
 unfold z1R at W
 split at W
 ·rename_i l ds
  obtain⟨v,rfl,h,_⟩:=M.one
  obtain⟨p,xs,rfl,s1,r1,_⟩:=id (h.lstq (ds:=ds) rfl)
  cases e:z5o ds with
  |none=>rw[e] at W;exact wfl W
  |some ys=>
   rw[e] at W
   dsimp only at W
   split at W
   ·rename_i hz
    exact⟨z,p,ys,rfl,rfl,by rw[<-za8 r1 e];exact s1,hz,fun _=>W.flat M.m rfl⟩
   ·exact wfl W
 ·exact wfl W
theorem z1v(hk:X.K=G.K):Ct X G F "str.join" z1R:=⟨_,hk▸zdS,zdU⟩
theorem z62{ρ:Nat->Addr}{H:Hp}: ∀(ys:List Str),RDs G ρ H (ys.map D.str) (ys.map V.str)
 |[]=>by simp[RDs]
 |y::ys=>by
  simp only[List.map_cons,RDs]
  exact⟨_,_,rfl,by simp only[RD],z62 ys⟩
theorem z2T: ∀(ys:List Str),labsL (ys.map D.str)=[]
 |[]=>rfl
 |y::ys=>by simp only[List.map_cons,labsL,labs,List.nil_append];exact z2T ys
theorem zbO:StOK G F zct z1p:=by
 intro ρ s z ts vs H σv tv Q M W
 unfold z1p at W
 split at W
 ·rename_i y
  split at W
  ·rename_i hc
   obtain⟨v,rfl,h,_⟩:=M.one
   simp only[RD] at h
   subst h
   exact⟨z,y,rfl,rfl,hc.1,hc.2,fun l hl k=>z3x W M.m (z62 _) (fun l h=>by rw[z2T] at h;simp at h) hl k⟩
  ·exact wfl W
 ·exact wfl W
theorem z2p:Ct X G F "str.split" z1p:=⟨_,zbM,zbO⟩
theorem se_ctS{name:Str}{id:String}{mo:M D}{ms:List (M D)}{g:Str->List D->M D}(hk:X.K=G.K)(slot:Slot "str" name id)(hty:typeOf (.builtin id)=pure (.type "method_descriptor"))(hm:Ct X G F id g)(ho:SE X G F o mo)(ha:SA X G F (e::es) (z03 ms))
 (hbase:attributeBase o name X.env (eval o X.env)=eval o X.env:=by rfl)
 (hfew:((backTo cpos (starEach (e::es) X.env)).all (fun x=> !x.1)&&(backToKw cpos (keywordEach [] X.env)).all (fun x=>x.1.isSome)
  &&decide ((e::es).length+([]:List Keyword).length+(if([]:List Keyword).isEmpty then 0 else 1)<30))=true:=by rfl)
 (hline:(apos.endLine==cpos.line)=true:=by rfl) (hs:starEach (e::es) X.env=(false,eval e X.env)::starEach es X.env:=by rfl) (hplain:(backTo cpos (starEach es X.env)).any (·.1)=false:=by rfl):SE X G F (.Call (.Attribute o name apos) (e::es) [] cpos) (z0w mo ms g):=by
 obtain⟨r,h1,h2⟩:=hm.h
 exact zdT hk slot hty h1 h2 ho ha hbase hfew hline hs hplain
theorem zg9:z1Q G F (fun x y H Q=> ∃z i c,x= .str z/\y= .int i/\0<=i/\i<2^63/\i<z.length/\z.cps[i.toNat]? =some c/\Q (.str ⟨#[c]⟩) H) ixS:=by
 intro ρ s t t' v u H σv tv Q M W
 obtain⟨h1,h2⟩:=M.rd2
 unfold ixS at W
 split at W
 ·rename_i z i
  split at W
  ·rename_i hc
   simp only[RD] at h1 h2
   subst h1 h2
   cases e:z.cps[i.toNat]? with
   |none=>rw[e] at W;exact wfl W
   |some c=>rw[e] at W;exact⟨z,i,c,rfl,rfl,hc.1,hc.2.1,hc.2.2,e,W.flat M.m rfl⟩
  ·exact wfl W
 ·exact wfl W
theorem se_ixS{ma mb:M D}(ha:SE X G F a ma)(hb:SE X G F b mb)(hs:z5T b):SE X G F (.Subscript a b pos) (mBin ma mb ixS):=PE.imp0 (z7l ha hb hs) fun _ _ _ h=>z5X zg9 h
theorem zga:z1Q G F (fun x y H Q=> ∃i j,x= .str i/\y= .str j/\Q (.bl (!(Builtin.Str.occurrences j i 0 j.length 1).isEmpty)) H) inS:=by
 intro ρ s t t' v u H σv tv Q M W
 obtain⟨h1,h2⟩:=M.rd2
 unfold inS at W
 split at W
 ·simp only[RD] at h1 h2
  subst h1 h2
  exact⟨_,_,rfl,rfl,W.flat M.m rfl⟩
 ·exact wfl W
theorem zgb:Cm X G F .In inS:=⟨_,z9s,zga⟩
theorem z2U(hk:X.K=G.K):Cb X G F (.builtin "len") lenS:=⟨_,hk▸CallR.or z6M z4m,by
 intro ρ s ts vs H σv tv Q M W
 unfold lenS at W
 split at W
 ·obtain⟨v,rfl,h,_⟩:=M.one
  simp only[RD] at h;subst h
  split at W
  ·rename_i hz
   exact .inl ⟨_,rfl,hz,fun _=>W.flat M.m rfl⟩
  ·exact wfl W
 ·exact .inr (zco ρ s _ vs H σv tv Q M W)⟩
theorem z7y:Cb X G F (.type "int") intS:=⟨_,CallR.or za6 z6F,by
 intro ρ s ts vs H σv tv Q M W
 unfold intS at W
 split at W
 ·rename_i x
  obtain⟨v,rfl,h,_⟩:=M.one
  simp only[RD] at h;subst h
  split at W
  ·rename_i hz
   cases e:PySem.intText? x with
   |none=>rw[e] at W;exact wfl W
   |some n=>rw[e] at W;exact .inl ⟨_,_,rfl,hz,e,fun _=>W.flat M.m rfl⟩
  ·exact wfl W
 ·exact .inr (zcp ρ s _ vs H σv tv Q M W)⟩
theorem zbP{z:Str}:ItOK G (Itc z) (kStr z) []:=by
 intro F ρ H σv tvp tv s i M
 simp only[kStr]
 cases e:z.cps[i]? with
 |none=>exact Array.getElem?_eq_none_iff.mp e
 |some c=>
  refine⟨(Array.getElem?_eq_some_iff.mp e).1, ?_⟩
  rintro x H' ⟨rfl,c',e',rfl⟩
  rw[e] at e'
  cases e'
  exact⟨M,RDs.one (by simp only[RD]),fun l hl=>by simp[labsL,labs] at hl⟩
theorem si_str{m:M D}(h:SE X G F e m):SI X G F tg e (za7 m):=by
 refine PI.imp0 (zg8 h) fun σ H R ⟨tv,hs,ρ,s,M,W⟩=>⟨tv,hs,ρ,s,M, ?_⟩
 unfold za7 bd at W
 cases e1:m s with
 |ex d s1=>rw[e1] at W;exact W
 |no=>rw[e1] at W;exact W
 |ok t s1=>
  rw[e1] at W
  intro ρ1 v H1 M1
  have rd:=M1.rd1
  cases t with
  |str z=>
   simp only[RD] at rd
   subst rd
   exact⟨z,rfl,W ρ1 H1 [] _ rfl M1.m zbP⟩
  |_=>exact False.elim W
theorem zgc{ρ:Nat->Addr}{H:Hp}{d:D}{v:V}{y:Str}(h:RD G ρ H d v)(e:fmtD d=some y):fmtV v=some y:=by
 cases d<;>simp only[fmtD] at e<;>try cases e
 ·simp only[RD] at h;subst h;exact e
 ·simp only[RD] at h;subst h;exact e
theorem za9{σ:L2.St}{tv:List (Option V)}: ∀(ms:List (Str⊕M D)) (z:Str) (H:Hp) (Q:VK),tMv G F (mFs ms z) σ tv H Q->tFs (ms.map (Sum.map id (tM G F))) z σ H Q
 |[],z,H,Q,h=>by
  obtain⟨hs,ρ,s,M,W⟩:=h
  unfold mFs at W
  split at W
  ·rename_i hz
   exact⟨hz,W.flat M rfl⟩
  ·exact wfl W
 | .inl y::ms,z,H,Q,h=>by
  obtain⟨hs,ρ,s,M,W⟩:=h
  unfold mFs at W
  split at W
  ·rename_i hz
   exact⟨hz,za9 ms _ H Q ⟨hs,ρ,s,M,W⟩⟩
  ·exact wfl W
 | .inr m::ms,z,H,Q,h=>by
  have hs:=h.1
  unfold mFs at h
  refine⟨tv,(z5W h).mono fun v H1 ⟨ρ1,s1,t,M1,W⟩=> ?_⟩
  cases e:fmtD t with
  |none=>rw[e] at W;exact wfl W
  |some y=>
   rw[e] at W
   dsimp only at W
   split at W
   ·rename_i hz
    exact⟨y,zgc M1.rd1 e,hz,za9 ms _ H1 Q ⟨hs,ρ1,s1,M1.m,W⟩⟩
   ·exact wfl W
theorem SF.pf{ms:List (Str⊕M D)}(h:SF (SE X G F) es ms):PF X es (ms.map (Sum.map id (tM G F))):=by
 induction h with
 |nil=>exact .nil
 |lit r ih=>exact .lit ih
 |fld h r ih=>exact .fld h ih
theorem se_fs{ms:List (Str⊕M D)}(h:SF (SE X G F) (a::b::es) ms):SE X G F (.JoinedStr (a::b::es) pos) (mFs ms Str.empty):=
 PE.imp0 (zit h.pf) fun σ H Q ⟨tv,q⟩=>za9 ms _ H Q q
end
end Mi
namespace L2
open PySem PySem.Spec PyProof.Rows
section
variable{X:Cx}
noncomputable def rTxS(x:V)(xs:List V)(H:Hp)(Q:VK):Prop:= ∃z y:Str,x= .str z/\xs=[.str y]/\z.length<=sizeLine/\Q (.str (Txt.stripChars z y)) H
theorem zgd:MtR X "str.strip" rTxS:=by
 intro pins s σ H x xs v us Q I rx rs h
 obtain⟨z,y,rfl,rfl,hz,q⟩:=h
 obtain⟨t,rfl⟩:=rx
 obtain⟨u,rfl,t',rfl⟩:=z2R rs
 exact SC.stripChars (fun t' k=>⟨.str (Txt.stripChars z y),H,I.tok _,⟨_,rfl⟩,q⟩) hz
end
end L2
namespace Mi
open PySem L2 PySem.Spec PyProof.Rows
noncomputable def txS(z:Str):List D->M D
 |[.str y]=>if z.length<=sizeLine then rt (.str (Txt.stripChars z y)) else fl
 |_=>fl
section
variable{X:Cx}{G:Gx}{F:Fy}
theorem zge:Ct X G F "str.strip" txS:=⟨_,zgd,by
 intro ρ s z ts vs H σv tv Q M W
 unfold txS at W
 split at W
 ·obtain⟨v,rfl,h,_⟩:=M.one
  simp only[RD] at h
  subst h
  split at W
  ·rename_i hz
   exact⟨z,_,rfl,rfl,hz,fun _=>W.flat M.m rfl⟩
  ·exact wfl W
 ·exact wfl W⟩
end
end Mi
namespace L2
open PySem PySem.Spec PyProof.Rows
section
variable{X:Cx}
noncomputable def rSlS:V->Option Int->Option Int->Hp->VK->Prop:=fun x lo hi H Q=> ∃z:Str,x= .str z/\z.length<=sizeLine/\Q (.str (Txt.slice z lo hi)) H
theorem zaa{v:Value}{o:Option Int}(h:IsPart v o): ∃l:Option (Int×Tok),v=partValue l/\l.map (·.1)=o:=by
 cases h with
 |none=>exact⟨none,rfl,rfl⟩
 |int i t=>exact⟨some (i,t),rfl,rfl⟩
theorem zgf:SlR X rSlS:=by
 intro pins s σ H x v vl vu lo hi sl Q I rx hs pl pu h
 obtain⟨z,rfl,hz,q⟩:=h
 obtain⟨t,rfl⟩:=rx
 obtain⟨l,rfl,rfl⟩:=zaa pl
 obtain⟨u,rfl,rfl⟩:=zaa pu
 refine⟨"str",_,F.slot_str_getitem.lookup,typeIs_str _ _ _,wpAny_getItem_str_slice (l:=l) (u:=u) (st:=none) hs rfl ?_⟩
 exact post_val_or_str ⟨Nat.le_trans (Txt.slice_le z _ _) hz,fun t' k=>⟨.str (Txt.slice z (l.map (·.1)) (u.map (·.1))),H,I.tok _,⟨_,rfl⟩,q⟩⟩
noncomputable def rTxC(x:V)(xs:List V)(H:Hp)(Q:VK):Prop:= ∃z y:Str,x= .str z/\xs=[.str y]/\Q (.int (Txt.count z y)) H
theorem zgg:MtR X "str.count" rTxC:=by
 intro pins s σ H x xs v us Q I rx rs h
 obtain⟨z,y,rfl,rfl,q⟩:=h
 obtain⟨t,rfl⟩:=rx
 obtain⟨u,rfl,t',rfl⟩:=z2R rs
 exact SC.count ⟨.int (Txt.count z y),H,I.tok _,⟨_,rfl⟩,q⟩
noncomputable def prt(z y:Str):List Str:=match Builtin.Str.occurrences z y 0 z.length 1 with
 |i::_=>[Builtin.Str.strSub z 0 i,y,Builtin.Str.strSub z (i+y.length) z.length]
 |[]=>[z,Str.empty,Str.empty]
theorem zdV(z y:Str):(prt z y).length=3:=by unfold prt;split<;>rfl
noncomputable def rTxP(x:V)(xs:List V)(H:Hp)(Q:VK):Prop:= ∃z y:Str,x= .str z/\xs=[.str y]/\(y.length==0)=false/\z.length<=sizeLine/\∀l,H l=none->Q (.ref l) (upd H l (.tup ((prt z y).map V.str)))
theorem zgh:MtR X "str.partition" rTxP:=by
 intro pins s σ H x xs v us Q I rx rs h
 obtain⟨z,y,rfl,rfl,hy,hz,q⟩:=h
 obtain⟨t,rfl⟩:=rx
 obtain⟨u,rfl,t',rfl⟩:=z2R rs
 have fin: ∀(l:List (Str×Tok)) (tk:Nat),l.map (·.1)=prt z y->EP X pins σ Q (.ref s.heap.objs.size) {s with heap:=s.heap.push {cls:= .type "tuple",data:= .seq (strValues l).toArray},toks:=tk}:=by
  intro l tk e
  refine⟨.ref s.heap.objs.size,_,I.laid (t':=tk) (o:= .tup ((prt z y).map V.str)) (fun b ob q=>Heap.get?_push_of_some _ q) (Nat.le_refl _) ?_,rfl,q _ (I.hok.fresh (Nat.le_refl _))⟩
  exact⟨by rw[List.length_map,zdV];decide,_,e▸z4R l,IsTup.new _ _⟩
 refine call_meets F.slot_str_partition (typeIs_str _ _ _) F.entry_str_partition (F.args_str_partition_2 _ _) (meets_str_partition z y t t' hy hz) ?_
 cases e:Builtin.Str.occurrences z y 0 z.length 1 with
 |nil=>exact fin [(z,t),(Str.empty,s.toks),(Str.empty,s.toks)] (s.toks+1) (by unfold prt;rw[e];rfl)
 |cons i r=>exact fin [(Builtin.Str.strSub z 0 i,s.toks),(y,t'),(Builtin.Str.strSub z (i+y.length) z.length,s.toks+1)] (s.toks+1+1) (by unfold prt;rw[e];rfl)
noncomputable def rpt(z:Str)(n:Nat):Str:=⟨(List.replicate n z.cps).foldl (· ++ ·) #[]⟩
theorem zcu(a:Array Nat): ∀(n:Nat) (b:Array Nat),((List.replicate n a).foldl (· ++ ·) b).toList=b.toList++(List.replicate n a.toList).flatten
 |0,b=>by simp
 |n+1,b=>by
  rw[List.replicate_succ,List.foldl_cons,zcu a n,List.replicate_succ,List.flatten_cons,Array.toList_append,List.append_assoc]
theorem z8k(z:Str)(n:Nat):(rpt z n).cps.toList=(List.replicate n z.cps.toList).flatten:=by
 unfold rpt
 rw[zcu,List.nil_append]
theorem z63(z:Str)(n:Nat):(rpt z n).length=n*z.length:=by
 show(rpt z n).cps.size=n*z.cps.size
 rw[<-Array.length_toList,z8k,List.length_flatten,List.map_replicate,List.sum_replicate_nat,Array.length_toList]
noncomputable def zgi:R2:=fun x y H Q=> ∃(z:Str) (n:Int),x= .str z/\y= .int n/\(1<n/\n<1000/\0<z.length/\n.toNat*z.length<=sizeLine)/\Q (.str (rpt z n.toNat)) H
theorem z95:OpR X (binaryOp .Mult) zgi:=by
 intro pins s σ H x y v u Q I rx ry h
 obtain⟨z,n,rfl,rfl,⟨h1,h2,h0,hz⟩,q⟩:=h
 obtain⟨t,rfl⟩:=rx
 obtain⟨t',rfl⟩:=ry
 have hz':=hz
 rw[show sizeLine=16777216 from rfl] at hz
 have hn:((n.toNat:Nat):Int)=n:=Int.toNat_of_nonneg (by lia)
 have hm:(z.length:Int)*n<=16777216:=by
  have:((n.toNat*z.length:Nat):Int)<=((16777216:Nat):Int):=Int.ofNat_le.mpr hz
  rw[Int.natCast_mul,hn,Int.mul_comm] at this
  exact this
 refine P.mul_str (by rw[decide_eq_false (by lia),decide_eq_false (by lia)];rfl) (fun _ _=> ?_) (fun _ _=> ?_) ?_
 ·exact Int.not_lt.mpr (Int.le_ediv_of_mul_le (by lia) (by lia))
 ·exact decide_eq_false (by rw[Nat.mul_comm];exact Nat.not_lt.mpr hz')
 ·rw[if_neg (by lia),if_neg (by simp only[Bool.or_eq_true,beq_iff_eq];lia)]
  exact⟨(z63 z n.toNat).symm▸hz',⟨.str (rpt z n.toNat),H,I.tok _,⟨_,rfl⟩,q⟩⟩
end
end L2
namespace Mi
open PySem L2 PySem.Spec PyProof.Rows
noncomputable def txC(z:Str):List D->M D
 |[.str y]=>rt (.int (Txt.count z y))
 |_=>fl
noncomputable def txP(z:Str):List D->M D
 |[.str y]=>if(y.length==0)=false/\z.length<=sizeLine then rt (.tup ((prt z y).map D.str)) else fl
 |_=>fl
noncomputable def mulS:D->D->M D
 | .str z, .int n=>if 1<n/\n<1000/\0<z.length/\n.toNat*z.length<=sizeLine then rt (.str (rpt z n.toNat)) else fl
 |_,_=>fl
noncomputable def slS:D->Option Int->Option Int->M D
 | .str z,lo,hi=>if z.length<=sizeLine then rt (.str (Txt.slice z lo hi)) else fl
 |_,_,_=>fl
noncomputable def mSlS(m:M D)(lo hi:Option (M D)):M D:=bd m fun x=>bd (psh x) fun _=>bd (z3k lo) fun l=>bd (z3k hi) fun h=>bd pop fun x'=>slS x' l h
section
variable{X:Cx}{G:Gx}{F:Fy}{e:Expr}{pos:Pos}
theorem zgj:Ct X G F "str.count" txC:=⟨_,zgg,by
 intro ρ s z ts vs H σv tv Q M W
 unfold txC at W
 split at W
 ·obtain⟨v,rfl,h,_⟩:=M.one
  simp only[RD] at h
  subst h
  exact⟨z,_,rfl,rfl,fun _=>W.flat M.m rfl⟩
 ·exact wfl W⟩
theorem zgk:Ct X G F "str.partition" txP:=⟨_,zgh,by
 intro ρ s z ts vs H σv tv Q M W
 unfold txP at W
 split at W
 ·rename_i y
  obtain⟨v,rfl,h,_⟩:=M.one
  simp only[RD] at h
  subst h
  split at W
  ·rename_i hz
   exact⟨z,y,rfl,rfl,hz.1,hz.2,fun p hp k=>z7p W M.m (z62 _) (fun l h=>by rw[z2T] at h;simp at h) hp k⟩
  ·exact wfl W
 ·exact wfl W⟩
theorem zdW:OpOK G F zgi mulS:=by
 intro ρ s t t' v u H σv tv Q M W
 obtain⟨h1,h2⟩:=M.rd2
 unfold mulS at W
 split at W
 ·simp only[RD] at h1 h2
  subst h1 h2
  split at W
  ·rename_i hz
   exact⟨_,_,rfl,rfl,hz,fun _=>W.flat M.m rfl⟩
  ·exact wfl W
 ·exact wfl W
theorem se_mulS{a b:Expr}{ma mb:M D}(hk:X.K=G.K)(ha:SE X G F a ma)(hb:SE X G F b mb):SE X G F (.BinOp a .Mult b pos) (mBin ma mb mulS):=z7o hk z95 zdW ha hb
theorem zgl{ρ:Nat->Addr}{s:Stt}{t:D}{v:V}{H:Hp}{σv tv:List (Option V)}{lo hi:Option Int}{Q:VK}(M:MRL G F.toFx ρ H σv tv s [t] [v])(W:wM G F σv tv (slS t lo hi s) Q):
 rSlS v lo hi H (fun w H'=>KD G.K H'->Q w H'):=by
 have h:=M.rd1
 unfold slS at W
 split at W
 ·simp only[RD] at h
  subst h
  split at W
  ·rename_i hz
   exact⟨_,rfl,hz,fun _=>W.flat M.m rfl⟩
  ·exact wfl W
 ·exact wfl W
theorem se_sliceS{lo hi:Option Expr}{p2:Pos}{m:M D}{ml mh:Option (M D)}(hk:X.K=G.K)(he:SE X G F e m)(hl:SO X G F lo ml)(hh:SO X G F hi mh):SE X G F (.Subscript e (.Slice lo hi none p2) pos) (mSlS m ml mh):=by
 refine PE.imp hk (z84 (r:=rSlS) zgf he hl hh) fun σ H Q ⟨tv,h⟩=>⟨tv, ?_⟩
 obtain⟨hs,ρ,s,M,W⟩:=z5W h
 refine⟨hs,ρ,s,M,W.mono fun v H1 ⟨ρ1,s1,t,M1,W1⟩=>⟨some v::tv,suf1 hs,ρ1,s1.psh t,M1.push, ?_⟩⟩
 simp only[bd,psh] at W1
 cases e1:z3k ml (s1.psh t) with
 |ex d s2=>rw[e1] at W1;exact W1
 |no=>rw[e1] at W1;exact W1
 |ok l s2=>
  rw[e1] at W1
  intro ρ2 H2 M2
  refine⟨some v::tv,suf1 hs,ρ2,s2,M2, ?_⟩
  dsimp only at W1
  cases e2:z3k mh s2 with
  |ex d s3=>rw[e2] at W1;exact W1
  |no=>rw[e2] at W1;exact W1
  |ok h s3=>
   rw[e2] at W1
   intro ρ3 H3 M3
   simp only[pop] at W1
   cases e3:s3.tm with
   |nil=>rw[e3] at W1;exact W1.elim
   |cons o r=>
    cases o with
    |none=>rw[e3] at W1;exact W1.elim
    |some t'=>
     rw[e3] at W1
     have M4:MRL G F.toFx ρ3 H3 σ tv {s3 with tm:=r} [t'] [v]:=MRL.down (ts:=[]) (vs:=[]) ⟨M3,rfl,fun l h=>by simp[labsL] at h⟩ e3
     exact zgl M4 W1
end
end Mi
namespace My
open PySem L2 PySem.Spec PyProof.Rows Mi
@[irreducible] noncomputable def SE(X:Cx)(G:Gx)(F:Fy)(e:Expr)(m:M D):Prop:=Mi.SE X G F e m
theorem eSE(X:Cx)(G:Gx)(F:Fy)(e:Expr)(m:M D):SE X G F e m=Mi.SE X G F e m:=by unfold SE;rfl
@[irreducible] noncomputable def SA(X:Cx)(G:Gx)(F:Fy)(e:List Expr)(m:M (List D)):Prop:=Mi.SA X G F e m
theorem eSA(X:Cx)(G:Gx)(F:Fy)(e:List Expr)(m:M (List D)):SA X G F e m=Mi.SA X G F e m:=by unfold SA;rfl
@[irreducible] noncomputable def SB(X:Cx)(G:Gx)(F:Fy)(e:Expr)(m:M Bool):Prop:=Mi.SB X G F e m
theorem eSB(X:Cx)(G:Gx)(F:Fy)(e:Expr)(m:M Bool):SB X G F e m=Mi.SB X G F e m:=by unfold SB;rfl
@[irreducible] noncomputable def SW(X:Cx)(G:Gx)(F:Fy)(e:Expr)(m:M Bool):Prop:=Mi.SW X G F e m
theorem eSW(X:Cx)(G:Gx)(F:Fy)(e:Expr)(m:M Bool):SW X G F e m=Mi.SW X G F e m:=by unfold SW;rfl
@[irreducible] noncomputable def SS(X:Cx)(G:Gx)(F:Fy)(e:Stmt)(m:MS):Prop:=Mi.SS X G F e m
theorem eSS(X:Cx)(G:Gx)(F:Fy)(e:Stmt)(m:MS):SS X G F e m=Mi.SS X G F e m:=by unfold SS;rfl
@[irreducible] noncomputable def SSs(X:Cx)(G:Gx)(F:Fy)(e:List Stmt)(m:MS):Prop:=Mi.SSs X G F e m
theorem eSSs(X:Cx)(G:Gx)(F:Fy)(e:List Stmt)(m:MS):SSs X G F e m=Mi.SSs X G F e m:=by unfold SSs;rfl
@[irreducible] noncomputable def SG(X:Cx)(G:Gx)(F:Fy)(e:Expr)(m:Tg):Prop:=Mi.SG X G F e m
theorem eSG(X:Cx)(G:Gx)(F:Fy)(e:Expr)(m:Tg):SG X G F e m=Mi.SG X G F e m:=by unfold SG;rfl
@[irreducible] noncomputable def SGs(X:Cx)(G:Gx)(F:Fy)(e:List Expr)(m:List Tg):Prop:=Mi.SGs X G F e m
theorem eSGs(X:Cx)(G:Gx)(F:Fy)(e:List Expr)(m:List Tg):SGs X G F e m=Mi.SGs X G F e m:=by unfold SGs;rfl
@[irreducible] noncomputable def SI(X:Cx)(G:Gx)(F:Fy)(tg e:Expr)(m:M ItK):Prop:=Mi.SI X G F tg e m
theorem eSI(X:Cx)(G:Gx)(F:Fy)(tg e:Expr)(m:M ItK):SI X G F tg e m=Mi.SI X G F tg e m:=by unfold SI;rfl
@[irreducible] noncomputable def SO(X:Cx)(G:Gx)(F:Fy)(e:Option Expr)(m:Option (M D)):Prop:=Mi.SO X G F e m
theorem eSO(X:Cx)(G:Gx)(F:Fy)(e:Option Expr)(m:Option (M D)):SO X G F e m=Mi.SO X G F e m:=by unfold SO;rfl
@[irreducible] noncomputable def STs(X:Cx)(G:Gx)(F:Fy)(e:List Expr)(m:M Bool):Prop:=Mi.STs X G F e m
theorem eSTs(X:Cx)(G:Gx)(F:Fy)(e:List Expr)(m:M Bool):STs X G F e m=Mi.STs X G F e m:=by unfold STs;rfl
local macro_rules | `(tactic| walk_at "go") => `(tactic| (simp only [eSE, eSA, eSB, eSW, eSS, eSSs, eSG, eSGs, eSI, eSO, eSTs] at *))
section
variable{X:Cx}{G:Gx}{F:Fy}{e a b c:Expr}{pos:Pos}
theorem se_var(i:Nat){x:Str}(hk:X.K=G.K)(h:PE X (.Name x pos) (tVar i)):SE X G F (.Name x pos) (mVar i):=by
 walk_at "go"
 exact Mi.se_var i hk h
theorem se_c{d:D}{v:V}(hk:X.K=G.K)(h:PE X e (tC v))(hd:cV d=some v:=by rfl):SE X G F e (mC d):=by
 walk_at "go"
 exact Mi.se_c hk h hd
theorem so_none:SO X G F none none:=by
 walk_at "go"
 exact Mi.so_none
theorem so_some{m:M D}(h:SE X G F e m):SO X G F (some e) (some m):=by
 walk_at "go"
 exact Mi.so_some h
theorem se_slice{lo hi:Option Expr}{p2:Pos}{m:M D}{ml mh:Option (M D)}(hk:X.K=G.K)(he:SE X G F e m)(hl:SO X G F lo ml)(hh:SO X G F hi mh):SE X G F (.Subscript e (.Slice lo hi none p2) pos) (mSl m ml mh):=by
 walk_at "go"
 exact Mi.se_slice hk he hl hh
theorem se_tup{es:List Expr}{ms:List (M D)}{x1}(hk:X.K=G.K)(h:SA X G F es (z03 ms)):SE X G F (.Tuple es x1 pos) (mCB ms tupD):=by
 walk_at "go"
 exact Mi.se_tup hk h
theorem se_lst{es:List Expr}{ms:List (M D)}(hk:X.K=G.K)(h:SA X G F es (z03 ms)):SE X G F (.List es pos) (mCB ms lstM):=by
 walk_at "go"
 exact Mi.se_lst hk h
theorem sb_truth{m:M D}(hk:X.K=G.K)(ha:SE X G F a m)(he: ∀whole,isTrue a X.env whole=(do let v<-whole;standAt a.pos;holding [v] (truthy v)):=by intro _;rfl):SB X G F a (z0J m):=by
 walk_at "go"
 exact Mi.sb_truth hk ha he
theorem SW.sb{m:M Bool}(h:SW X G F e m):SB X G F e m:=by
 walk_at "go"
 exact Mi.SW.sb h
theorem sw_and1{m:M Bool}(h:SB X G F a m):SW X G F (.BoolOp .And [a] pos) m:=by
 walk_at "go"
 exact Mi.sw_and1 h
theorem sw_or1{m:M Bool}(h:SB X G F a m):SW X G F (.BoolOp .Or [a] pos) m:=by
 walk_at "go"
 exact Mi.sw_or1 h
theorem sw_and{rest:List Expr}{m m':M Bool}(ha:SB X G F a m)(hb:SW X G F (.BoolOp .And (b::rest) pos) m'):SW X G F (.BoolOp .And (a::b::rest) pos) (mAnd m m'):=by
 walk_at "go"
 exact Mi.sw_and ha hb
theorem sw_or{rest:List Expr}{m m':M Bool}(ha:SB X G F a m)(hb:SW X G F (.BoolOp .Or (b::rest) pos) m'):SW X G F (.BoolOp .Or (a::b::rest) pos) (mOr m m'):=by
 walk_at "go"
 exact Mi.sw_or ha hb
theorem sb_not{m:M Bool}(ha:SB X G F a m):SB X G F (.UnaryOp .Not a pos) (mNot m):=by
 walk_at "go"
 exact Mi.sb_not ha
theorem se_one{op}{m:M D}(h:SE X G F a m):SE X G F (.BoolOp op [a] pos) m:=by
 walk_at "go"
 exact Mi.se_one h
theorem se_and{rest:List Expr}{m m':M D}(ha:SE X G F a m)(hb:SE X G F (.BoolOp .And (b::rest) pos) m'):SE X G F (.BoolOp .And (a::b::rest) pos) (z5j m m'):=by
 walk_at "go"
 exact Mi.se_and ha hb
theorem se_not{m:M D}(ha:SE X G F a m):SE X G F (.UnaryOp .Not a pos) (z9O m):=by
 walk_at "go"
 exact Mi.se_not ha
theorem se_ifExp{mc:M Bool}{m m':M D}(hc:SB X G F c mc)(ha:SE X G F a m)(hb:SE X G F b m'):SE X G F (.IfExp c a b pos) (mIf mc m m'):=by
 walk_at "go"
 exact Mi.se_ifExp hc ha hb
theorem se_isi{p:Pos}{x y:Expr}{T:String}{m:M D}(hk:X.K=G.K)(hT:T= "int" \/T= "bool" \/T= "tuple" \/T= "list" \/T= "str")(hgl:Gl X "isinstance")(hm:X.mg "isinstance" =none)(ha:SE X G F x m)(hy:PE X y (tC (.ty T)))
 (he:starEach [x,y] X.env=(false,eval x X.env)::starEach [y] X.env:=by rfl) (he2:starEach [y] X.env=(false,eval y X.env)::starEach [] X.env:=by rfl) (hpl:(backTo pos (starEach [y] X.env)).any (·.1)=false:=by rfl):SE X G F (.Call (.Name "isinstance" p) [x,y] [] pos) (mIsi T m):=by
 walk_at "go"
 exact Mi.se_isi hk hT hgl hm ha hy he he2 hpl
end
section
variable{X:Cx}{G:Gx}{F:Fy}{e a b c:Expr}{st:Stmt}{sts rest:List Stmt}{pos:Pos}
theorem ss_nil:SSs X G F [] sNx:=by
 walk_at "go"
 exact Mi.ss_nil
theorem ss_cons{m m':MS}(h1:SS X G F st m)(h2:SSs X G F rest m'):SSs X G F (st::rest) (seqS m m'):=by
 walk_at "go"
 exact Mi.ss_cons h1 h2
theorem ss_one{m:MS}(h1:SS X G F st m):SSs X G F [st] m:=by
 walk_at "go"
 exact Mi.ss_one h1
theorem ss_expr{m:M D}(he:SE X G F e m)(hs:swapsWith e none pos.line X.env=pure false:=by rfl):SS X G F (.Expr e pos) (z2n m):=by
 walk_at "go"
 exact Mi.ss_expr he hs
theorem ss_ret{m:M D}(he:SE X G F e m):SS X G F (.Return (some e) pos) (sRet m):=by
 walk_at "go"
 exact Mi.ss_ret he
theorem ss_if{x y:List Stmt}{mc:M Bool}{m m':MS}(hc:SB X G F c mc)(ha:SSs X G F x m)(hb:SSs X G F y m'):SS X G F (.If c x y pos) (sIf mc m m'):=by
 walk_at "go"
 exact Mi.ss_if hc ha hb
theorem sg_name{i:Nat}{x:Str}{p:Pos}(h:PG X (.Name x p) (z8K i)):SG X G F (.Name x p) (.nm i):=by
 walk_at "go"
 exact Mi.sg_name h
theorem sgs_nil:SGs X G F [] []:=by
 walk_at "go"
 exact Mi.sgs_nil
theorem sgs_cons{es:List Expr}{g:Tg}{gs:List Tg}(h1:SG X G F e g)(h2:SGs X G F es gs)(hs:(assignEach (e::es) X.env).map (·.2)=assign e X.env::(assignEach es X.env).map (·.2):=by rfl):SGs X G F (e::es) (g::gs):=by
 walk_at "go"
 exact Mi.sgs_cons h1 h2 hs
theorem sg_tup{es:List Expr}{k:Nat}{gs:List Tg}(hk:X.K=G.K)(hc:X.calm=true)(h:SGs X G F es gs)(hn:(assignEach es X.env).length=gs.length:=by rfl)(hst:(assignEach es X.env).findIdx? (·.1)=none:=by rfl):SG X G F (.Tuple es k pos) (.tp gs):=by
 walk_at "go"
 exact Mi.sg_tup hk hc h hn hst
theorem ss_asg{tg:Expr}{g:Tg}{m:M D}(he:SE X G F e m)(hg:SG X G F tg g)(hs:swapsWithSole [tg] e pos.line X.env=pure false:=by rfl)(hw:swappedStores [tg] e X.env=pure none:=by rfl)
 (h1:(assignEach [tg] X.env).map (·.2)=[assign tg X.env]:=by rfl):SS X G F (.Assign [tg] e pos) (sAsg g m):=by
 walk_at "go"
 exact Mi.ss_asg he hg hs hw h1
theorem ss_set{i:Nat}{x:Str}{p:Pos}{m:M D}(h: ∀{te:TE},PE X e te->PS X (.Assign [.Name x p] e pos) (tAsg te (z8K i)))(he:SE X G F e m):SS X G F (.Assign [.Name x p] e pos) (sAsg (.nm i) m):=by
 walk_at "go"
 exact Mi.ss_set h he
end
section
variable{X:Cx}{G:Gx}{F:Fy}{e a b c tg iter:Expr}{pos:Pos}
theorem si_seq{m:M D}(hk:X.K=G.K)(h:SE X G F e m):SI X G F tg e (z0l m):=by
 walk_at "go"
 exact Mi.si_seq hk h
theorem si_rng1{p:Pos}{ms:List (M D)}(hg:Gl X "range")(hm:X.mg "range" =none)(ha:SA X G F [a] (z03 ms))(hs:starEach [a] X.env=[(false,eval a X.env)]:=by rfl):SI X G F tg (.Call (.Name "range" p) [a] [] pos) (z2Q ms):=by
 walk_at "go"
 exact Mi.si_rng1 hg hm ha hs
theorem ss_for{body:List Stmt}{mi:M ItK}{g:Tg}{mb:MS}(hp:PassesOwn (model X.prog X.w) X.A X.env X.xe)(hc:X.calm=true)(hi:SI X G F tg iter mi)(hg:SG X G F tg g)(hb:SSs X G F body mb)(hst: ∀x,foldedSetIterable iter X.env x=pure x:=by intro _;rfl):SS X G F (.For tg iter body [] pos) (sFor mi g mb):=by
 walk_at "go"
 exact Mi.ss_for hp hc hi hg hb hst
end
section
variable{X:Cx}{G:Gx}{F:Fy}{e a b c tg iter elt:Expr}{pos:Pos}
theorem sts_nil:STs X G F [] (rt true):=by
 walk_at "go"
 exact Mi.sts_nil
theorem sts_one{m:M Bool}(h:SB X G F c m):STs X G F [c] m:=by
 walk_at "go"
 exact Mi.sts_one h
theorem se_comp{scope:Scope}{own frees:List Str}{ix:List Nat}{ifs:List Expr}{mi:M ItK}{g:Tg}{mt:M Bool}{me:M D}(hk:X.K=G.K)(hc:X.calm=true)(S:z1n X.env.scope scope own frees X.N ix)(hi:SI X G F tg iter mi)
 (hg: ∀(F:Fy) cl C s₀ H₀ fp pn,SG (z0x X scope own frees cl C s₀ H₀ fp pn) G F tg g) (ht: ∀(F:Fy) cl C s₀ H₀ fp pn,STs (z0x X scope own frees cl C s₀ H₀ fp pn) G F ifs mt) (he: ∀(F:Fy) cl C s₀ H₀ fp pn,SE (z0x X scope own frees cl C s₀ H₀ fp pn) G F elt me)
 (hs: ∀x,foldedSetIterable iter X.env x=pure x:=by intro _;rfl):SE X G F (.ListComp elt [⟨tg,iter,ifs,0⟩] scope pos) (z0D mi g mt me own.length ix):=by
 walk_at "go"
 exact Mi.se_comp hk hc S hi hg ht he hs
theorem ss_comp{y:Str}{py spos:Pos}{i:Nat}{scope:Scope}{own frees:List Str}{ix:List Nat}{ifs:List Expr}{mi:M ItK}{g:Tg}{mt:M Bool}{me:M D}(hk:X.K=G.K)(hN:X.N.Nodup)(hy:X.N[i]? =some y)(hx:Loc X.env.scope y)(hfn:X.fn y=true\/X.env.scope.names.lookup y=some .local)(hsw:swapsWith (.ListComp elt [⟨tg,iter,ifs,0⟩] scope pos) (some (.Name y py)) spos.line X.env=pure true)
 (hc:X.calm=true) (S:z1n X.env.scope scope own frees X.N ix) (hi:SI X G F tg iter mi)
 (hg: ∀(F:Fy) cl C s₀ H₀ fp pn,SG (z0x X scope own frees cl C s₀ H₀ fp pn) G F tg g) (ht: ∀(F:Fy) cl C s₀ H₀ fp pn,STs (z0x X scope own frees cl C s₀ H₀ fp pn) G F ifs mt) (he: ∀(F:Fy) cl C s₀ H₀ fp pn,SE (z0x X scope own frees cl C s₀ H₀ fp pn) G F elt me)
 (hs: ∀x,foldedSetIterable iter X.env x=pure x:=by intro _;rfl):SS X G F (.Assign [.Name y py] (.ListComp elt [⟨tg,iter,ifs,0⟩] scope pos) spos) (sAsg (.nm i) (z0D mi g mt me own.length ix)):=by
 walk_at "go"
 exact Mi.ss_comp hk hN hy hx hfn hsw hc S hi hg ht he hs
end
section
variable{G:Gx}{ρ:Nat->Addr}{H:Hp}
section
variable(k:KD G.K H){n:Nat}(inj: ∀i j,i<n->j<n->ρ i=ρ j->i=j)
include k inj
end
end
section
variable{G:Gx}{ρ ρ':Nat->Addr}{H H':Hp}
section
variable(k:KD G.K H){n:Nat}(inj: ∀i j,i<n->j<n->ρ i=ρ j->i=j){ts:List D}{vs:List V}(r:RDs G ρ H ts vs)(lb: ∀l∈labsL ts,l<n)
include k inj r lb
end
variable{F:Fy}{σv tv:List (Option V)}{s:Stt}{np:Nat}
theorem se_call{X:Cx}{e:Expr}{es:List Expr}{pos p:Pos}{CX:CXT}{k:Nat}{fa:Addr}{fd:FuncData}{ps:List Str}{x:Str}{E:XK}{f:FM}{ms:List (M D)}(hk:X.K=G.K)(Fn:FnOk X.prog X.w X.K X.mg X.base CX k fa fd ps (spM G ps.length f))(hr:Room k X.A)(hg:Gl X x)(hm:X.mg x=some (.ref fa))(hkp:W.keepIn X.K (.ref fa)=true)(hb:z5h X.K fd ps [])(hx:z5E CX X E)
 (ha:SA X G F (e::es) (z03 ms)) (hln:ms.length=ps.length) (hdb:(x==("__debug__" :Str))=false:=by decide) (he:starEach (e::es) X.env=(false,eval e X.env)::starEach es X.env:=by rfl) (hpl:(backTo pos (starEach es X.env)).any (·.1)=false:=by rfl):
 SE X G F (.Call (.Name x p) (e::es) [] pos) (mCall f ms):=by
 walk_at "go"
 exact Mi.se_call hk Fn hr hg hm hkp hb hx ha hln hdb he hpl
theorem fn_M{P:Program}{w:World}{K:W.Frag}{mg:Str->Option Value}{base:Heap}{x qual:Str}{st:Stmt}{fa:Addr}{fd:FuncData}{N ps:List Str}{k:Nat}{mb:MS}(Fn:Fun K x qual st fa fd)(S:z02 N ps (z01 st))(hG:G.K=K)
 (hb: ∀(cdv:Value) (A:Around) (outer:List Env) (s:Shared) (H:Hp) (E:XK) (F:Fy),Room k (A.deeper (envOfC qual (z01 st) s.heap.objs.size fa cdv))->SSs (cxOf CX0 P w K mg base N qual (z01 st) fa cdv A outer s H E).nox G F (z1C st) mb):
 FnOk P w K mg base CX0 (k+1) fa fd ps (spM G ps.length (runF N.length mb)):=by
 walk_at "go"
 exact Mi.fn_M Fn S hG hb
end
section
variable{X:Cx}{G:Gx}{F:Fy}{e o:Expr}{es:List Expr}{apos cpos:Pos}
theorem ss_setI{ob ix:Expr}{pos tpos:Pos}{mo mi me:M D}(he:SE X G F e me)(ho:SE X G F ob mo)(hi:SE X G F ix mi)(hg: ∀{to ti:TE},PE X ob to->PE X ix ti->PG X (.Subscript ob ix tpos) (gSub to ti zbs))(hs:swapsWithSole [.Subscript ob ix tpos] e pos.line X.env=pure false:=by rfl)(hw:swappedStores [.Subscript ob ix tpos] e X.env=pure none:=by rfl)
 (h1:(assignEach [.Subscript ob ix tpos] X.env).map (·.2)=[assign (.Subscript ob ix tpos) X.env]:=by rfl):SS X G F (.Assign [.Subscript ob ix tpos] e pos) (mTri me mo mi setD):=by
 walk_at "go"
 exact Mi.ss_setI he ho hi hg hs hw h1
end
section
variable{X:Cx}{G:Gx}{F:Fy}{e a b c:Expr}{pos:Pos}{ma mb mc m:M D}
theorem se_add(hk:X.K=G.K)(ha:SE X G F a ma)(hb:SE X G F b mb):SE X G F (.BinOp a .Add b pos) (mBin ma mb addD):=by
 walk_at "go"
 exact Mi.se_add hk ha hb
theorem se_sub(hk:X.K=G.K)(ha:SE X G F a ma)(hb:SE X G F b mb):SE X G F (.BinOp a .Sub b pos) (mBin ma mb subD):=by
 walk_at "go"
 exact Mi.se_sub hk ha hb
theorem se_mul(hk:X.K=G.K)(ha:SE X G F a ma)(hb:SE X G F b mb):SE X G F (.BinOp a .Mult b pos) (mBin ma mb mulD):=by
 walk_at "go"
 exact Mi.se_mul hk ha hb
theorem se_fdiv(hk:X.K=G.K)(ha:SE X G F a ma)(hb:SE X G F b mb):SE X G F (.BinOp a .FloorDiv b pos) (mBin ma mb z6R):=by
 walk_at "go"
 exact Mi.se_fdiv hk ha hb
theorem se_mod(hk:X.K=G.K)(ha:SE X G F a ma)(hb:SE X G F b mb):SE X G F (.BinOp a .Mod b pos) (mBin ma mb modD):=by
 walk_at "go"
 exact Mi.se_mod hk ha hb
theorem se_pow(hk:X.K=G.K)(ha:SE X G F a ma)(hb:SE X G F b mb):SE X G F (.BinOp a .Pow b pos) (mBin ma mb powD):=by
 walk_at "go"
 exact Mi.se_pow hk ha hb
theorem se_neg(hk:X.K=G.K)(ha:SE X G F a ma):SE X G F (.UnaryOp .USub a pos) (bd ma negD):=by
 walk_at "go"
 exact Mi.se_neg hk ha
theorem se_cmp{op:CmpOp}{g:D->D->M D}(hc:Cm X G F op g)(ha:SE X G F a ma)(hb:SE X G F b mb)(hm:behindInMarks op b=false):SE X G F (.Compare a [op] [b] pos) (mBin ma mb g):=by
 walk_at "go"
 exact Mi.se_cmp hc ha hb hm
theorem sb_cmp{op:CmpOp}{g:D->D->M D}(hc:Cm X G F op g)(ha:SE X G F a ma)(hb:SE X G F b mb)(hm:behindInMarks op b=false):SB X G F (.Compare a [op] [b] pos) (mBoo (mBin ma mb g)):=by
 walk_at "go"
 exact Mi.sb_cmp hc ha hb hm
theorem se_cmp2{op op':CmpOp}{g g':D->D->M D}(hc:Cm X G F op g)(hc':Cm X G F op' g')(ha:SE X G F a ma)(hb:SE X G F b mb)(hcc:SE X G F c mc)(hm:lastMarks [op,op'] [b,c]=false:=by with_unfolding_all rfl):SE X G F (.Compare a [op,op'] [b,c] pos) (z0C ma mb mc g g'):=by
 walk_at "go"
 exact Mi.se_cmp2 hc hc' ha hb hcc hm
theorem sb_cmp2{op op':CmpOp}{g g':D->D->M D}(hc:Cm X G F op g)(hc':Cm X G F op' g')(ha:SE X G F a ma)(hb:SE X G F b mb)(hcc:SE X G F c mc)(hm:lastMarks [op,op'] [b,c]=false:=by with_unfolding_all rfl):SB X G F (.Compare a [op,op'] [b,c] pos) (mBoo (z0C ma mb mc g g')):=by
 walk_at "go"
 exact Mi.sb_cmp2 hc hc' ha hb hcc hm
theorem se_idx(hk:X.K=G.K)(ha:SE X G F a ma)(hb:SE X G F b mb)(hs:z3X b):SE X G F (.Subscript a b pos) (mBin ma mb ixD):=by
 walk_at "go"
 exact Mi.se_idx hk ha hb hs
theorem se_cb{x:Str}{p:Pos}{es:List Expr}{ms:List (M D)}{g:List D->M D}{id:String}(hk:X.K=G.K)(hc:Cb X G F (.builtin id) g)(hgl:Gl X x)(hm:X.mg x=none)(hv:bootBuiltins x=some (.builtin id))(ha:SA X G F (e::es) (z03 ms))(hn:x≠ "__name__" :=by decide)(hdb:(x==("__debug__" :Str))=false:=by decide)
 (he:starEach (e::es) X.env=(false,eval e X.env)::starEach es X.env:=by rfl) (hpl:(backTo pos (starEach es X.env)).any (·.1)=false:=by rfl):SE X G F (.Call (.Name x p) (e::es) [] pos) (mCB ms g):=by
 walk_at "go"
 exact Mi.se_cb hk hc hgl hm hv ha hn hdb he hpl
theorem se_ct{x:Str}{p:Pos}{es:List Expr}{ms:List (M D)}{g:List D->M D}{T:String}(hk:X.K=G.K)(hc:Cb X G F (.type T) g)(hgl:Gl X x)(hm:X.mg x=none)(hv:bootBuiltins x=some (.type T))(ha:SA X G F (e::es) (z03 ms))(hn:x≠ "__name__" :=by decide)(hdb:(x==("__debug__" :Str))=false:=by decide)
 (he:starEach (e::es) X.env=(false,eval e X.env)::starEach es X.env:=by rfl) (hpl:(backTo pos (starEach es X.env)).any (·.1)=false:=by rfl):SE X G F (.Call (.Name x p) (e::es) [] pos) (mCB ms g):=by
 walk_at "go"
 exact Mi.se_ct hk hc hgl hm hv ha hn hdb he hpl
end
section
variable{X:Cx}{G:Gx}{F:Fy}{e o:Expr}{es:List Expr}{apos cpos:Pos}
theorem se_cl{name:Str}{id:String}{mo:M D}{ms:List (M D)}{g:D->List D->M D}(hk:X.K=G.K)(slot:Slot "list" name id)(hty:typeOf (.builtin id)=pure (.type "method_descriptor"))(hm:Cl X G F id g)(ho:SE X G F o mo)(ha:SA X G F (e::es) (z03 ms))
 (hbase:attributeBase o name X.env (eval o X.env)=eval o X.env:=by rfl)
 (hfew:((backTo cpos (starEach (e::es) X.env)).all (fun x=> !x.1)&&(backToKw cpos (keywordEach [] X.env)).all (fun x=>x.1.isSome)
  &&decide ((e::es).length+([]:List Keyword).length+(if([]:List Keyword).isEmpty then 0 else 1)<30))=true:=by rfl)
 (hline:(apos.endLine==cpos.line)=true:=by rfl) (hs:starEach (e::es) X.env=(false,eval e X.env)::starEach es X.env:=by rfl) (hplain:(backTo cpos (starEach es X.env)).any (·.1)=false:=by rfl):SE X G F (.Call (.Attribute o name apos) (e::es) [] cpos) (z26 mo ms g):=by
 walk_at "go"
 exact Mi.se_cl hk slot hty hm ho ha hbase hfew hline hs hplain
end
section
variable{X:Cx}{G:Gx}{F:Fy}{a b tg:Expr}{pos:Pos}
theorem si_enm{p tpos:Pos}{elts:List Expr}{x1:Nat}{ms:List (M D)}(hk:X.K=G.K)(hg:Gl X "enumerate")(hm:X.mg "enumerate" =none)(ha:SA X G F [a] (z03 ms))(hs:starEach [a] X.env=[(false,eval a X.env)]:=by rfl):SI X G F (.Tuple elts x1 tpos) (.Call (.Name "enumerate" p) [a] [] pos) (mEnm ms):=by
 walk_at "go"
 exact Mi.si_enm hk hg hm ha hs
end
section
variable{X:Cx}{G:Gx}{F:Fy}{st:Stmt}
theorem ss_no:SS X G F st sNo:=by
 walk_at "go"
 exact Mi.ss_no
end
inductive SEs(X:Cx)(G:Gx)(F:Fy):List Expr->List (M D)->Prop
 |nil:SEs X G F [] []
 |cons {e:Expr} {m:M D} {es:List Expr} {ms:List (M D)}:SE X G F e m->nst e=true->SEs X G F es ms->SEs X G F (e::es) (m::ms)
theorem eSEs{X:Cx}{G:Gx}{F:Fy}{es:List Expr}{ms:List (M D)}(h:SEs X G F es ms):Mi.SEs X G F es ms:=by
 induction h with
 |nil=>exact .nil
 |cons h n _ ih=>rw[eSE] at h;exact .cons h n ih
theorem sa_of{X:Cx}{G:Gx}{F:Fy}{es:List Expr}{ms:List (M D)}(hk:X.K=G.K)(h:SEs X G F es ms):SA X G F es (z03 ms):=by
 rw[eSA];exact Mi.sa_of hk (eSEs h)
section
variable{X:Cx}{G:Gx}{F:Fy}{e a b c d:Expr}{pos p:Pos}{m ma mb mc md:M D}
theorem sv(i:Nat){x:Str}(hk:X.K=G.K:=by rfl)(hN:X.N[i]? =some x:=by rfl)(hv:Vis X.env.scope x:=by first|exact Or.inl rfl|exact Or.inr (Or.inl rfl)|exact Or.inr (Or.inr rfl))(hd:(x==("__debug__" :Str))=false:=by decide)(hcd:(x==("__classdict__" :Str))=false:=by decide):SE X G F (.Name x pos) (mVar i):=se_var i hk (pv i hN hv hd hcd)
theorem s1(h:SE X G F a ma)(n:nst a=true:=by rfl)(hk:X.K=G.K:=by rfl):SA X G F [a] (z03 [ma]):=sa_of hk (.cons h n .nil)
theorem s2(h:SE X G F a ma)(h2:SE X G F b mb)(n:nst a=true:=by rfl)(n2:nst b=true:=by rfl)(hk:X.K=G.K:=by rfl):SA X G F [a,b] (z03 [ma,mb]):=sa_of hk (.cons h n (.cons h2 n2 .nil))
theorem s3(h:SE X G F a ma)(h2:SE X G F b mb)(h3:SE X G F c mc)(n:nst a=true:=by rfl)(n2:nst b=true:=by rfl)(n3:nst c=true:=by rfl)(hk:X.K=G.K:=by rfl):SA X G F [a,b,c] (z03 [ma,mb,mc]):=sa_of hk (.cons h n (.cons h2 n2 (.cons h3 n3 .nil)))
theorem s4(h:SE X G F a ma)(h2:SE X G F b mb)(h3:SE X G F c mc)(h4:SE X G F d md)(n:nst a=true:=by rfl)(n2:nst b=true:=by rfl)(n3:nst c=true:=by rfl)(n4:nst d=true:=by rfl)(hk:X.K=G.K:=by rfl):SA X G F [a,b,c,d] (z03 [ma,mb,mc,md]):=sa_of hk (.cons h n (.cons h2 n2 (.cons h3 n3 (.cons h4 n4 .nil))))
theorem sst(i:Nat){x:Str}(hN:X.N.Nodup)(he:SE X G F e m)(hi:X.N[i]? =some x:=by rfl)(hx:Loc X.env.scope x:=by exact Or.inl rfl)(hs:swapsWith e (some (.Name x p)) pos.line X.env=pure false:=by rfl)(hf:X.fn x=true\/X.env.scope.names.lookup x=some .local:=by first|exact .inl rfl|exact .inr rfl|assumption):SS X G F (.Assign [.Name x p] e pos) (sAsg (.nm i) m):=
 ss_set (fun{te} h=>zck hN hi hx h hs hf) he
theorem sgn(i:Nat){x:Str}(hN:X.N.Nodup)(hi:X.N[i]? =some x:=by rfl)(hx:Loc X.env.scope x:=by exact Or.inl rfl)(hf:X.fn x=true\/X.env.scope.names.lookup x=some .local:=by first|exact .inl rfl|exact .inr rfl|assumption):SG X G F (.Name x pos) (.nm i):=sg_name (z0B hN hi hx hf)
theorem sln{es:List Expr}{ms:List (M D)}(hm:X.mg "len" =none)(ha:SA X G F (e::es) (z03 ms))(hgl:Gl X "len" :=by rfl)(he:starEach (e::es) X.env=(false,eval e X.env)::starEach es X.env:=by rfl)(hpl:(backTo pos (starEach es X.env)).any (·.1)=false:=by rfl)(hk:X.K=G.K:=by rfl):SE X G F (.Call (.Name "len" p) (e::es) [] pos) (mCB ms lenD):=
 se_cb hk (zfU hk) hgl hm PyProof.Rows.Boot.«len» ha (by decide) (by decide) he hpl
theorem sc0{v:V}{d:D}(h:PE X e (tC v))(hd:cV d=some v:=by rfl)(hk:X.K=G.K:=by rfl):SE X G F e (mC d):=se_c hk h hd
theorem sxc{v:V}{q:D}(ha:SE X G F a ma)(h:PE X b (tC v))(hd:cV q=some v:=by rfl)(hs:z3X b:=by exact fun _ _=>rfl)(hk:X.K=G.K:=by rfl):SE X G F (.Subscript a b pos) (mBin ma (mC q) ixD):=se_idx hk ha (se_c hk h hd) hs
theorem sxx(ha:SE X G F a ma)(hb:SE X G F b mb)(hs:z3X b:=by exact fun _ _=>rfl)(hk:X.K=G.K:=by rfl):SE X G F (.Subscript a b pos) (mBin ma mb ixD):=se_idx hk ha hb hs
end
section
variable{G:Gx}{P:Program}{w:World}{K:W.Frag}{mg:Str->Option Value}{base:Heap}{x qual:Str}{st:Stmt}{fa:Addr}{fd:FuncData}{N ps:List Str}{k np:Nat}{f:FM}
theorem okM(mb:MS)(Fn:Fun K x qual st fa fd)(S:z02 N ps (z01 st))(hb: ∀(cdv:Value) (A:Around) (outer:List Env) (s:Shared) (H:Hp) (E:XK) (F:Fy),Room k (A.deeper (envOfC qual (z01 st) s.heap.objs.size fa cdv))->SSs (cxOf CX0 P w K mg base N qual (z01 st) fa cdv A outer s H E).nox G F (z1C st) mb)(hG:G.K=K:=by rfl)(hf:f=runF N.length mb:=by rfl)(hn:np=ps.length:=by rfl):
 FnOk P w K mg base CX0 (k+1) fa fd ps (spM G np f):=by
 subst hf hn;exact fn_M Fn S hG hb
end
section
variable{X:Cx}{G:Gx}{F:Fy}{a b tg e o iter elt:Expr}{pos apos cpos:Pos}{mo mi mx:M D}
theorem si_ens{p tpos kp:Pos}{elts:List Expr}{x1:Nat}{ms:List (M D)}(hk:X.K=G.K)(hg:Gl X "enumerate")(hm:X.mg "enumerate" =none)(ha:SA X G F [a] (z03 ms))(hb:PE X b (tC (.int 1)))(hs:starEach [a] X.env=[(false,eval a X.env)]:=by rfl):SI X G F (.Tuple elts x1 tpos) (.Call (.Name "enumerate" p) [a] [⟨some "start",b,kp⟩] pos) (mEns ms):=by
 rw[eSI];rw[eSA] at ha
 exact Mi.si_ens hk hg hm ha hb hs
end
section
variable{X:Cx}{G:Gx}{F:Fy}{a b e o tg:Expr}{es:List Expr}{pos apos cpos:Pos}{mo m ma mb:M D}
theorem se_ctS{name:Str}{id:String}{ms:List (M D)}{g:Str->List D->M D}(hk:X.K=G.K)(slot:Slot "str" name id)(hty:typeOf (.builtin id)=pure (.type "method_descriptor"))(hm:Ct X G F id g)(ho:SE X G F o mo)(ha:SA X G F (e::es) (z03 ms))
 (hbase:attributeBase o name X.env (eval o X.env)=eval o X.env:=by rfl)
 (hfew:((backTo cpos (starEach (e::es) X.env)).all (fun x=> !x.1)&&(backToKw cpos (keywordEach [] X.env)).all (fun x=>x.1.isSome)
  &&decide ((e::es).length+([]:List Keyword).length+(if([]:List Keyword).isEmpty then 0 else 1)<30))=true:=by rfl)
 (hline:(apos.endLine==cpos.line)=true:=by rfl) (hs:starEach (e::es) X.env=(false,eval e X.env)::starEach es X.env:=by rfl) (hplain:(backTo cpos (starEach es X.env)).any (·.1)=false:=by rfl):SE X G F (.Call (.Attribute o name apos) (e::es) [] cpos) (z0w mo ms g):=by
 rw[eSE] at*;rw[eSA] at ha
 exact Mi.se_ctS hk slot hty hm ho ha hbase hfew hline hs hplain
theorem se_ixS(ha:SE X G F a ma)(hb:SE X G F b mb)(hs:z5T b):SE X G F (.Subscript a b pos) (mBin ma mb ixS):=by
 rw[eSE] at*
 exact Mi.se_ixS ha hb hs
theorem si_str(h:SE X G F e m):SI X G F tg e (za7 m):=by
 rw[eSI];rw[eSE] at h
 exact Mi.si_str h
theorem se_fs{ms:List (Str⊕M D)}(h:SF (SE X G F) (a::b::es) ms):SE X G F (.JoinedStr (a::b::es) pos) (mFs ms Str.empty):=by
 rw[eSE]
 exact Mi.se_fs (h.mono fun e m q=>by rw[eSE] at q;exact q)
end
section
variable{X:Cx}{G:Gx}{F:Fy}{a b e:Expr}{pos:Pos}{m ma mb:M D}
theorem se_sliceS{lo hi:Option Expr}{p2:Pos}{ml mh:Option (M D)}(hk:X.K=G.K)(he:SE X G F e m)(hl:SO X G F lo ml)(hh:SO X G F hi mh):SE X G F (.Subscript e (.Slice lo hi none p2) pos) (mSlS m ml mh):=by
 rw[eSE] at*;rw[eSO] at hl hh
 exact Mi.se_sliceS hk he hl hh
theorem se_mulS(hk:X.K=G.K)(ha:SE X G F a ma)(hb:SE X G F b mb):SE X G F (.BinOp a .Mult b pos) (mBin ma mb mulS):=by
 rw[eSE] at*
 exact Mi.se_mulS hk ha hb
end
end My
namespace My
open PySem L2 Mi
noncomputable def top(i:Nat):Stmt:=PySem.Challenge.pw_signbench_k58_journals_torn.main.body.getD i (.Pass ⟨0,0,0,0⟩)
noncomputable abbrev z2q:Stmt:=top 6
noncomputable abbrev z2V:Stmt:=top 7
noncomputable abbrev z43:Stmt:=top 8
noncomputable abbrev z2W:Stmt:=top 14
noncomputable abbrev z0U:Stmt:=top 15
noncomputable abbrev z0O:Stmt:=top 16
noncomputable abbrev z44:Stmt:=top 17
noncomputable abbrev z2r:Stmt:=top 19
noncomputable abbrev z2X:Stmt:=top 25
noncomputable abbrev z45:Stmt:=top 26
noncomputable abbrev z27:Stmt:=top 27
noncomputable abbrev z2Y:Stmt:=top 28
noncomputable abbrev z3y:Stmt:=top 29
noncomputable abbrev z2s:Stmt:=top 30
noncomputable abbrev z28:Stmt:=top 31
noncomputable abbrev z1F:Stmt:=top 32
noncomputable abbrev z1G:Stmt:=top 33
noncomputable abbrev z7z:Stmt:=top 35
noncomputable abbrev z64:Stmt:=top 36
noncomputable abbrev z29:Stmt:=top 37
noncomputable abbrev z46:Stmt:=top 38
noncomputable abbrev z3z:Stmt:=top 39
noncomputable abbrev z65:Stmt:=top 40
noncomputable abbrev z7A:Stmt:=top 41
noncomputable abbrev z47:Stmt:=top 42
noncomputable abbrev z3A:Stmt:=top 43
noncomputable abbrev z2t:Stmt:=top 44
noncomputable abbrev z2u:Stmt:=top 45
noncomputable abbrev z66:Stmt:=top 46
noncomputable abbrev z4S:Stmt:=top 47
noncomputable abbrev z67:Stmt:=top 48
noncomputable abbrev zdX:Stmt:=top 49
noncomputable abbrev z3P:List Str:=["thing"]
noncomputable abbrev z2v:List Str:=z3P
noncomputable abbrev z4o:List Str:=["thing", "low", "high"]
noncomputable abbrev z2Z:List Str:=z4o
noncomputable abbrev z5K:List Str:=["thing", "fewest", "most", "high"]
noncomputable abbrev z48:List Str:=z5K
noncomputable abbrev z6Y:List Str:=["thing", "begin", "length", "end", "signs", "kind", "cost"]
noncomputable abbrev z30:List Str:=["thing", "begin", "length"]
noncomputable abbrev z1T:List Str:=["thing"]
noncomputable abbrev z0V:List Str:=z1T
noncomputable abbrev z1H:List Str:=["thing"]
noncomputable abbrev z0P:List Str:=z1H
noncomputable abbrev z96:List Str:=["pieces", "length", "at", "piece"]
noncomputable abbrev z49:List Str:=["pieces", "length"]
noncomputable abbrev z68:List Str:=["thing", "sounds", "cutting", "wished"]
noncomputable abbrev z2w:List Str:=["thing"]
noncomputable abbrev z6Z:List Str:=["commit", "sounds", "cutting", "wished", "parts"]
noncomputable abbrev z31:List Str:=["commit"]
noncomputable abbrev z5L:List Str:=["row"]
noncomputable abbrev z4a:List Str:=z5L
noncomputable abbrev z5p:List Str:=["piece", "end", "signs", "kind", "cost"]
noncomputable abbrev z2a:List Str:=["piece"]
noncomputable abbrev z70:List Str:=["commit", "sounds", "cutting", "wished", "numbers", "end", "signs", "kind", "cost"]
noncomputable abbrev z32:List Str:=["commit"]
noncomputable abbrev z7B:List Str:=["text", "commits", "row", "commit"]
noncomputable abbrev z3B:List Str:=["text"]
noncomputable abbrev z69:List Str:=["row", "words", "cutting", "commit"]
noncomputable abbrev z2x:List Str:=["row"]
noncomputable abbrev z5q:List Str:=["word", "parts"]
noncomputable abbrev z2b:List Str:=["word"]
noncomputable abbrev z4T:List Str:=["word", "numbers"]
noncomputable abbrev z1I:List Str:=["word"]
noncomputable abbrev z33:List Str:=["word"]
noncomputable abbrev z1J:List Str:=z33
noncomputable abbrev zdY:List Str:=["_law_script", "_law_at", "_law_cell", "_law_mix", "_law_k"]
noncomputable abbrev z7C:List Str:=["_law_script", "_law_at"]
noncomputable abbrev zbQ:List Str:=["_law_bag_here", "_law_many", "_law_digit"]
noncomputable abbrev z6a:List Str:=["_law_bag_here", "_law_many"]
noncomputable abbrev z3r:List Str:=["_law_bag_here", "_law_many", "_law_most"]
noncomputable abbrev z2c:List Str:=z3r
noncomputable abbrev z97:List Str:=["_law_bag_here", "_law_most", "_law_wide", "_law_many", "_law_far", "_law_pieces", "_law_place", "_law_turn", "_law_signs"]
noncomputable abbrev z4b:List Str:=["_law_bag_here", "_law_most", "_law_wide"]
noncomputable abbrev z7D:List Str:=["_law_bag_here", "_law_way", "_law_many"]
noncomputable abbrev z3C:List Str:=["_law_bag_here"]
noncomputable abbrev z8l:List Str:=["_law_numbers_here"]
noncomputable abbrev z6b:List Str:=z8l
noncomputable abbrev zdZ:List Str:=["_law_commit_here", "_law_sounds", "_law_cutting", "_law_wished", "_law_numbers_here", "_law_words", "_law_end", "_law_signs", "_law_kind", "_law_cost", "_law_check", "_law_place", "_law_number_here"]
noncomputable abbrev z7E:List Str:=["_law_commit_here"]
noncomputable abbrev z5M:List Str:=["_law_word"]
noncomputable abbrev z4c:List Str:=z5M
noncomputable abbrev z4U:List Str:=["_law_word"]
noncomputable abbrev z3D:List Str:=z4U
noncomputable abbrev z6c:List Str:=["_law_sounds", "_law_pieces", "_law_place", "_law_end", "_law_signs", "_law_kind", "_law_cost"]
noncomputable abbrev z2y:List Str:=["_law_sounds", "_law_pieces"]
noncomputable abbrev z6d:List Str:=["_law_row_here", "_law_words", "_law_pieces", "_law_word", "_law_some", "_law_found"]
noncomputable abbrev z2z:List Str:=["_law_row_here"]
noncomputable abbrev zbR:List Str:=["_law_text", "_law_found", "_law_left", "_law_turn", "_law_row_here", "_law_end", "_law_commit_here"]
noncomputable abbrev z6e:List Str:=["_law_text"]
noncomputable abbrev zab:List Str:=["_law_text", "_law_due", "_law_turn", "_law_found"]
noncomputable abbrev z4V:List Str:=["_law_text"]
noncomputable abbrev zbS:List Str:=["_law_bag_here", "_law_rows", "_law_other", "_law_way", "_law_text", "_law_place", "_law_behind", "_law_one", "_law_far"]
noncomputable abbrev z6f:List Str:=["_law_bag_here", "_law_rows", "_law_other"]
noncomputable abbrev ziu:List Str:=["_law_script", "_law_at", "_law_bag_here", "_law_commits_here", "_law_rows", "_law_other", "_law_text", "_law_turn", "_law_cut"]
noncomputable abbrev ze0:List Str:=["_law_script"]
local macro_rules | `(tactic| walk_at "sc") => `(tactic| exact ⟨rfl, rfl, rfl, by decide +kernel, rfl, by decide +kernel, by decide +kernel⟩)
theorem z5r:z02 z3P z2v (z01 z2q):=by walk_at "sc"
theorem z6g:z02 z4o z2Z (z01 z2V):=by walk_at "sc"
theorem z7F:z02 z5K z48 (z01 z43):=by walk_at "sc"
theorem z0W:z02 z6Y z30 (z01 z2W):=by walk_at "sc"
theorem z3E:z02 z1T z0V (z01 z0U):=by walk_at "sc"
theorem z3n:z02 z1H z0P (z01 z0O):=by walk_at "sc"
theorem z2A:z02 z96 z49 (z01 z44):=by walk_at "sc"
theorem z1k:z02 z68 z2w (z01 z2r):=by walk_at "sc"
theorem z0X:z02 z6Z z31 (z01 z2X):=by walk_at "sc"
theorem z7G:z02 z5L z4a (z01 z45):=by walk_at "sc"
theorem z0E:z02 z5p z2a (z01 z27):=by walk_at "sc"
theorem z0h:z02 z70 z32 (z01 z2Y):=by walk_at "sc"
theorem z1U:z02 z7B z3B (z01 z3y):=by walk_at "sc"
theorem z1l:z02 z69 z2x (z01 z2s):=by walk_at "sc"
theorem z34:z02 z5q z2b (z01 z28):=by walk_at "sc"
theorem z2O:z02 z4T z1I (z01 z1F):=by walk_at "sc"
theorem z4w:z02 z33 z1J (z01 z1G):=by walk_at "sc"
theorem z2B:z02 zdY z7C (z01 z7z):=by walk_at "sc"
theorem z71:z02 zbQ z6a (z01 z64):=by walk_at "sc"
theorem z4W:z02 z3r z2c (z01 z29):=by walk_at "sc"
theorem z0F:z02 z97 z4b (z01 z46):=by walk_at "sc"
theorem z35:z02 z7D z3C (z01 z3z):=by walk_at "sc"
theorem zac:z02 z8l z6b (z01 z65):=by walk_at "sc"
theorem z0t:z02 zdZ z7E (z01 z7A):=by walk_at "sc"
theorem z7H:z02 z5M z4c (z01 z47):=by walk_at "sc"
theorem z72:z02 z4U z3D (z01 z3A):=by walk_at "sc"
theorem z0m:z02 z6c z2y (z01 z2t):=by walk_at "sc"
theorem z0v:z02 z6d z2z (z01 z2u):=by walk_at "sc"
theorem z1q:z02 zbR z6e (z01 z66):=by walk_at "sc"
theorem z3h:z02 zab z4V (z01 z4S):=by walk_at "sc"
theorem z1K:z02 zbS z6f (z01 z67):=by walk_at "sc"
theorem z3Q:z02 ziu ze0 (z01 zdX):=by walk_at "sc"
structure Dx(K:W.Frag)(mg:Str->Option Value)(x:Str)(st:Stmt)(ps:List Str) where
 f:Addr
 d:FuncData
 F:Fun K x x st f d
 b:z5h K d ps []
 m:mg x=some (.ref f)
theorem scl{X:Cx}{G:Gx}{F:Fy}{e:Expr}{es:List Expr}{pos p:Pos}{CX:CXT}{k j:Nat}{x:Str}{st:Stmt}{ps:List Str}{E:XK}{f:FM}{ms:List (M D)}(d:Dx X.K X.mg x st ps)(Fn:FnOk X.prog X.w X.K X.mg X.base CX j d.f d.d ps (spM G ps.length f))(hr:Room k X.A)(ha:SA X G F (e::es) (z03 ms))(hg:Gl X x:=by rfl)(hx:z5E CX X E:=by exact zi9)(hln:ms.length=ps.length:=by rfl)(hk:X.K=G.K:=by rfl)(hj:j<=k:=by lia)(hdb:(x==("__debug__" :Str))=false:=by decide)(he:starEach (e::es) X.env=(false,eval e X.env)::starEach es X.env:=by rfl)(hpl:(backTo pos (starEach es X.env)).any (·.1)=false:=by rfl):SE X G F (.Call (.Name x p) (e::es) [] pos) (mCall f ms):=se_call hk (Fn.mono hj) hr hg d.m d.F.kp d.b hx ha hln hdb he hpl
noncomputable abbrev kF(K:W.Frag)(a b:Addr)(r:Bool):Prop:=W.kitOne K (.ref a) (.ref b)=some r
noncomputable abbrev kN(K:W.Frag)(a:Addr)(l:List Addr):Prop:=W.kitAny K (.ref a) (l.map .ref)=some false
noncomputable abbrev kV(K:W.Frag)(a:Addr):Prop:=W.kitOne K (.ref a) (.type "ValueError")=some true
noncomputable abbrev fA(K:W.Frag)(a:Addr):Prop:=W.findIn K (.ref a) "__getattribute__" =some (some (.builtin "BaseException.__getattribute__"))
noncomputable abbrev fB(K:W.Frag)(a:Addr):Prop:=W.findIn K (.ref a) "__getattr__" =some none
noncomputable abbrev fC(K:W.Frag)(a:Addr):Prop:=W.findIn K (.ref a) "__class__" =some (some (.builtin "object.__class__"))
noncomputable abbrev xA(K:W.Frag)(a:Addr):Prop:=W.excIn K a bmV "ValueError.__new__" =true
noncomputable abbrev mO(K:W.Frag)(a:Addr)(s:String):Prop:=W.mroIn K a (.type s)=some true
noncomputable abbrev eB(K:W.Frag)(a b:Addr):Prop:=W.exmOne K (.ref a) (.ref b)=some true
noncomputable abbrev nI(K:W.Frag)(s:Str)(a:Addr):Prop:=W.nsIn K mainGlobals s=some (some (.ref a))
set_option genInjectivity false in
set_option genSizeOf false in
set_option genSizeOfSpec false in
structure Wd(K:W.Frag)(mg:Str->Option Value) where
 kaj:Dx K mg "is_number" z2q z2v
 kao:Dx K mg "is_whole" z2V z2Z
 kat:Dx K mg "is_row" z43 z48
 kam:Dx K mg "is_piece" z2W z30
 kab:Dx K mg "is_piece_signs" z0U z0V
 kaa:Dx K mg "has_piece_kinds" z0O z0P
 kax:Dx K mg "is_way" z44 z49
 kah:Dx K mg "is_commit" z2r z2w
 kan:Dx K mg "row_text" z2X z31
 kau:Dx K mg "dotted" z45 z4a
 kag:Dx K mg "piece_text" z27 z2a
 kap:Dx K mg "check_of" z2Y z32
 kar:Dx K mg "come_up" z3y z3B
 kai:Dx K mg "commit_of" z2s z2x
 kaf:Dx K mg "read_piece" z28 z2b
 kac:Dx K mg "read_dotted" z1F z1I
 kad:Dx K mg "read_number" z1G z1J
 kaH:Dx K mg "_law_bag" z7z z7C
 kaB:Dx K mg "_law_take" z64 z6a
 kae:Dx K mg "_law_numbers_of" z29 z2c
 kav:Dx K mg "_law_commit" z46 z4b
 kas:Dx K mg "_law_commits" z3z z3C
 kaC:Dx K mg "_law_dots" z65 z6b
 kaG:Dx K mg "_law_row" z7A z7E
 kaw:Dx K mg "_law_number" z47 z4c
 kaq:Dx K mg "_law_numbers" z3A z3D
 kak:Dx K mg "_law_is_commit" z2t z2y
 kal:Dx K mg "_law_commit_in" z2u z2z
 kaE:Dx K mg "_law_came" z66 z6e
 kaz:Dx K mg "_law_right" z4S z4V
 kaF:Dx K mg "_law_torn" z67 z6f
 x_law:Dx K mg "law" zdX ze0
 n_abs:mg "abs" =none
 n_all:mg "all" =none
 n_bool:mg "bool" =none
 c_CHECK_DIVISOR: ∃t,mg "CHECK_DIVISOR" =some (.int 997 t)
 c_FIGURES: ∃t,mg "FIGURES" =some (.str ("0123456789" :Str) t)
 c_LAST_PIECE_COST: ∃t,mg "LAST_PIECE_COST" =some (.int 99999 t)
 c_LAST_PIECE_KIND: ∃t,mg "LAST_PIECE_KIND" =some (.int 8 t)
 c_LAST_SIGN: ∃t,mg "LAST_SIGN" =some (.int 1039 t)
 c_LAST_SOUND: ∃t,mg "LAST_SOUND" =some (.int 39 t)
 c_MOST_FIGURES: ∃t,mg "MOST_FIGURES" =some (.int 5 t)
 c_MOST_PIECE_SIGNS: ∃t,mg "MOST_PIECE_SIGNS" =some (.int 24 t)
 c_MOST_PLACES: ∃t,mg "MOST_PLACES" =some (.int 24 t)
 c_MOST_ROWS: ∃t,mg "MOST_ROWS" =some (.int 60 t)
 n_enumerate:mg "enumerate" =none
 n_int:mg "int" =none
 n_isinstance:mg "isinstance" =none
 n_len:mg "len" =none
 n_list:mg "list" =none
 n_max:mg "max" =none
 n_min:mg "min" =none
 n_range:mg "range" =none
 n_str:mg "str" =none
 n_sum:mg "sum" =none
 n_tuple:mg "tuple" =none
 kaD:Addr
 kay:mg "NoText" =some (.ref kaD)
 kaA:xA K kaD
 cxob_NoText:mO K kaD "object"
 cxba_NoText:mO K kaD "BaseException"
 cxf1_NoText:fA K kaD
 cxf2_NoText:fB K kaD
 cxf3_NoText:fC K kaD
 cnd:[kaD].Nodup
section
variable{K:W.Frag}{mg:Str->Option Value}
noncomputable abbrev GT(T:Wd K mg):Gx:=mkG K [("NoText",T.kaD)] T.cnd (.cons (zdQ T.kaA) .nil)
theorem zgm(T:Wd K mg):(GT T).cl "NoText" =some T.kaD:=rfl
end
section
variable{P:Program}{w:World}{K:W.Frag}{mg:Str->Option Value}{base:Heap}
noncomputable def z2C:MS:=(sRet (z5j (mIsi "int" (mVar 0)) (z9O (mIsi "bool" (mVar 0)))))
noncomputable def z0I:FM:=runF 1 z2C
theorem z3s(T:Wd K mg):FnOk P w K mg base CX0 1 T.kaj.f T.kaj.d z2v (spM (GT T) 1 z0I):=okM z2C T.kaj.F z5r fun cdv A outer s H E F hr=>(ss_one (ss_ret (se_and (se_isi rfl (by decide) rfl T.n_isinstance (sv 0) (z25 (v:= .ty "int") rfl T.n_int PyProof.Rows.Boot.«int» rfl)) (se_one (se_not (se_isi rfl (by decide) rfl T.n_isinstance (sv 0) (z25 (v:= .ty "bool") rfl T.n_bool PyProof.Rows.Boot.«bool» rfl)))))))
noncomputable def z36:MS:=(sRet (z5j (mCall z0I [(mVar 0)]) (z0C (mVar 1) (mVar 0) (mVar 2) leD leD)))
noncomputable def z0s:FM:=runF 3 z36
theorem z1z(T:Wd K mg):FnOk P w K mg base CX0 2 T.kao.f T.kao.d z2Z (spM (GT T) 3 z0s):=okM z36 T.kao.F z6g fun cdv A outer s H E F hr=>(ss_one (ss_ret (se_and (scl T.kaj (z3s T) hr (s1 (sv 0))) (se_one (se_cmp2 z4v z4v (sv 1) (sv 0) (sv 2))))))
noncomputable def z4d:MS:=(seqS (sIf (mOr (mNot (z0J (mIsi "tuple" (mVar 0)))) (mNot (mBoo (z0C (mVar 1) (mCB [(mVar 0)] lenD) (mVar 2) leD leD)))) (sRet (mC (.bool false))) sNx)
 (sRet (mCB [(z0D (z0l (mVar 0)) (.nm 0) (rt true) (mCall z0s [(mVar 0),(mC (.int 0)),(mVar 1)]) 1 [3])] allD)))
noncomputable def z2j:FM:=runF 4 z4d
theorem z4X(T:Wd K mg):FnOk P w K mg base CX0 3 T.kat.f T.kat.d z48 (spM (GT T) 4 z2j):=okM z4d T.kat.F z7F fun cdv A outer s H E F hr=>(ss_cons (ss_if (SW.sb (sw_or (sb_not (sb_truth rfl (se_isi rfl (by decide) rfl T.n_isinstance (sv 0) (z25 (v:= .ty "tuple") rfl T.n_tuple PyProof.Rows.Boot.«tuple» rfl)))) (sw_or1 (sb_not (sb_cmp2 z4v z4v (sv 1) (sln T.n_len (s1 (sv 0))) (sv 2)))))) (ss_one (ss_ret (sc0 z3v))) ss_nil)
 (ss_one (ss_ret (se_cb rfl (za2 rfl hr.hd) rfl T.n_all PyProof.Rows.Boot.«all» (s1 (se_comp (own:=["part"]) (frees:=["high"]) (ix:=[3]) rfl rfl (z1f.sc (by kernel_rfl)) (si_seq rfl (sv 0)) (fun _ _ _ _ _ _ _=>(sg_name (z0B (i:=0) (show List.Nodup (["part", "high"]:List Str) by decide+kernel) rfl (Or.inl rfl)))) (fun _ _ _ _ _ _ _=>sts_nil) (fun _ _ _ _ _ _ _=>(scl T.kao (z1z T) hr (s3 (sv 0) (sc0 z00) (sv 1))))))))))
noncomputable def z0Q:MS:=(seqS (sIf (mOr (mNot (z0J (mIsi "tuple" (mVar 0)))) (mOr (mBoo (mBin (mCB [(mVar 0)] lenD) (mC (.int 4)) neD)) (mNot (z0J (mIsi "tuple" (mBin (mVar 0) (mC (.int 1)) ixD)))))) (sRet (mC (.bool false))) sNx)
 (sRet (mCB [(z0D (z0l (mBin (mCB [(mBin (mVar 0) (mC (.int 0)) ixD),(mBin (mVar 0) (mC (.int 2)) ixD),(mBin (mVar 0) (mC (.int 3)) ixD)] tupD) (mBin (mVar 0) (mC (.int 1)) ixD) addD)) (.nm 0) (rt true) (mCall z0I [(mVar 0)]) 1 [])] allD)))
noncomputable def z0u:FM:=runF 1 z0Q
theorem z3o(T:Wd K mg):FnOk P w K mg base CX0 2 T.kaa.f T.kaa.d z0P (spM (GT T) 1 z0u):=okM z0Q T.kaa.F z3n fun cdv A outer s H E F hr=>by
 have h64:=hr.units
 exact(ss_cons (ss_if (SW.sb (sw_or (sb_not (sb_truth rfl (se_isi rfl (by decide) rfl T.n_isinstance (sv 0) (z25 (v:= .ty "tuple") rfl T.n_tuple PyProof.Rows.Boot.«tuple» rfl)))) (sw_or (sb_cmp (z90 rfl h64) (sln T.n_len (s1 (sv 0))) (sc0 z00) (z0b _)) (sw_or1 (sb_not (sb_truth rfl (se_isi rfl (by decide) rfl T.n_isinstance (sxc (sv 0) z00) (z25 (v:= .ty "tuple") rfl T.n_tuple PyProof.Rows.Boot.«tuple» rfl)))))))) (ss_one (ss_ret (sc0 z3v))) ss_nil)
 (ss_one (ss_ret (se_cb rfl (za2 rfl hr.hd) rfl T.n_all PyProof.Rows.Boot.«all» (s1 (se_comp (own:=["part"]) (frees:=[]) (ix:=[]) rfl rfl (z1f.sc (by kernel_rfl)) (si_seq rfl (se_add rfl (se_tup rfl (s3 (sxc (sv 0) z00) (sxc (sv 0) z00) (sxc (sv 0) z00))) (sxc (sv 0) z00))) (fun _ _ _ _ _ _ _=>(sg_name (z0B (i:=0) (show List.Nodup (["part"]:List Str) by decide+kernel) rfl (Or.inl rfl)))) (fun _ _ _ _ _ _ _=>sts_nil) (fun _ _ _ _ _ _ _=>(scl T.kaj (z3s T) hr (s1 (sv 0))))))))))
noncomputable def z0Y:MS:=(sRet (mCall z2j [(mVar 0),(mC (.int 1)),(mC (.int 24)),(mC (.int 1039))]))
noncomputable def z0y:FM:=runF 1 z0Y
theorem z3F(T:Wd K mg):FnOk P w K mg base CX0 4 T.kab.f T.kab.d z0V (spM (GT T) 1 z0y):=okM z0Y T.kab.F z3E fun cdv A outer s H E F hr=>(ss_one (ss_ret (scl T.kat (z4X T) hr (s4 (sv 0) (sc0 z00) (se_c rfl (z24 (v:= .int 24) rfl T.c_MOST_PIECE_SIGNS.choose_spec ⟨_,rfl⟩)) (se_c rfl (z24 (v:= .int 1039) rfl T.c_LAST_SIGN.choose_spec ⟨_,rfl⟩))))))
noncomputable def z37:MS:=(seqS (sIf (mNot (z0J (mCall z0u [(mVar 0)]))) (sRet (mC (.bool false))) sNx)
 (seqS (sAsg (.tp [(.nm 3),(.nm 4),(.nm 5),(.nm 6)]) (mVar 0))
 (seqS (sIf (mOr (mNot (z0J (mCall z0s [(mVar 3),(mBin (mVar 1) (mC (.int 1)) addD),(mVar 2)]))) (mNot (z0J (mCall z0y [(mVar 4)])))) (sRet (mC (.bool false))) sNx)
 (sRet (z5j (mCall z0s [(mVar 5),(mC (.int 0)),(mC (.int 8))]) (mCall z0s [(mVar 6),(mC (.int 0)),(mC (.int 99999))]))))))
noncomputable def z1r:FM:=runF 7 z37
theorem z6h(T:Wd K mg):FnOk P w K mg base CX0 5 T.kam.f T.kam.d z30 (spM (GT T) 3 z1r):=okM z37 T.kam.F z0W fun cdv A outer s H E F hr=>(ss_cons (ss_if (sb_not (sb_truth rfl (scl T.kaa (z3o T) hr (s1 (sv 0))))) (ss_one (ss_ret (sc0 z3v))) ss_nil)
 (ss_cons (ss_asg (sv 0) (sg_tup rfl rfl (sgs_cons (sgn 3 z0W.nd) (sgs_cons (sgn 4 z0W.nd) (sgs_cons (sgn 5 z0W.nd) (sgs_cons (sgn 6 z0W.nd) sgs_nil))))))
 (ss_cons (ss_if (SW.sb (sw_or (sb_not (sb_truth rfl (scl T.kao (z1z T) hr (s3 (sv 3) (se_add rfl (sv 1) (sc0 z00)) (sv 2))))) (sw_or1 (sb_not (sb_truth rfl (scl T.kab (z3F T) hr (s1 (sv 4)))))))) (ss_one (ss_ret (sc0 z3v))) ss_nil)
 (ss_one (ss_ret (se_and (scl T.kao (z1z T) hr (s3 (sv 5) (sc0 z00) (se_c rfl (z24 (v:= .int 8) rfl T.c_LAST_PIECE_KIND.choose_spec ⟨_,rfl⟩)))) (se_one (scl T.kao (z1z T) hr (s3 (sv 6) (sc0 z00) (se_c rfl (z24 (v:= .int 99999) rfl T.c_LAST_PIECE_COST.choose_spec ⟨_,rfl⟩)))))))))))
noncomputable def z4e:MS:=(seqS (sAsg (.nm 2) (mC (.int 0)))
 (seqS (sFor (z0l (mVar 0)) (.nm 3) (seqS (sIf (mNot (z0J (mCall z1r [(mVar 3),(mVar 2),(mVar 1)]))) (sRet (mC (.bool false))) sNx)
 (sAsg (.nm 2) (mBin (mVar 3) (mC (.int 0)) ixD))))
 (sRet (mBin (mVar 2) (mVar 1) eqD))))
noncomputable def z3i:FM:=runF 4 z4e
theorem z7I(T:Wd K mg):FnOk P w K mg base CX0 6 T.kax.f T.kax.d z49 (spM (GT T) 2 z3i):=okM z4e T.kax.F z2A fun cdv A outer s H E F hr=>by
 have h64:=hr.units
 exact(ss_cons (sst 2 z2A.nd (sc0 z00))
 (ss_cons (ss_for PassesOwn.never rfl (si_seq rfl (sv 0)) (sgn 3 z2A.nd) (ss_cons (ss_if (sb_not (sb_truth rfl (scl T.kam (z6h T) hr (s3 (sv 3) (sv 2) (sv 1))))) (ss_one (ss_ret (sc0 z3v))) ss_nil)
 (ss_one (sst 2 z2A.nd (sxc (sv 3) z00)))))
 (ss_one (ss_ret (se_cmp (z5m rfl h64) (sv 2) (sv 1) (z0b _))))))
noncomputable def z2D:MS:=(seqS (sIf (mOr (mNot (z0J (mIsi "tuple" (mVar 0)))) (mBoo (mBin (mCB [(mVar 0)] lenD) (mC (.int 3)) neD))) (sRet (mC (.bool false))) sNx)
 (seqS (sAsg (.tp [(.nm 1),(.nm 2),(.nm 3)]) (mVar 0))
 (seqS (sIf (mOr (mNot (z0J (mCall z2j [(mVar 1),(mC (.int 1)),(mC (.int 24)),(mC (.int 39))]))) (mNot (z0J (mIsi "bool" (mVar 3))))) (sRet (mC (.bool false))) sNx)
 (sRet (z5j (mIsi "tuple" (mVar 2)) (mCall z3i [(mVar 2),(mCB [(mVar 1)] lenD)]))))))
noncomputable def z1A:FM:=runF 4 z2D
theorem z5s(T:Wd K mg):FnOk P w K mg base CX0 7 T.kah.f T.kah.d z2w (spM (GT T) 1 z1A):=okM z2D T.kah.F z1k fun cdv A outer s H E F hr=>by
 have h64:=hr.units
 exact(ss_cons (ss_if (SW.sb (sw_or (sb_not (sb_truth rfl (se_isi rfl (by decide) rfl T.n_isinstance (sv 0) (z25 (v:= .ty "tuple") rfl T.n_tuple PyProof.Rows.Boot.«tuple» rfl)))) (sw_or1 (sb_cmp (z90 rfl h64) (sln T.n_len (s1 (sv 0))) (sc0 z00) (z0b _))))) (ss_one (ss_ret (sc0 z3v))) ss_nil)
 (ss_cons (ss_asg (sv 0) (sg_tup rfl rfl (sgs_cons (sgn 1 z1k.nd) (sgs_cons (sgn 2 z1k.nd) (sgs_cons (sgn 3 z1k.nd) sgs_nil)))))
 (ss_cons (ss_if (SW.sb (sw_or (sb_not (sb_truth rfl (scl T.kat (z4X T) hr (s4 (sv 1) (sc0 z00) (se_c rfl (z24 (v:= .int 24) rfl T.c_MOST_PLACES.choose_spec ⟨_,rfl⟩)) (se_c rfl (z24 (v:= .int 39) rfl T.c_LAST_SOUND.choose_spec ⟨_,rfl⟩)))))) (sw_or1 (sb_not (sb_truth rfl (se_isi rfl (by decide) rfl T.n_isinstance (sv 3) (z25 (v:= .ty "bool") rfl T.n_bool PyProof.Rows.Boot.«bool» rfl))))))) (ss_one (ss_ret (sc0 z3v))) ss_nil)
 (ss_one (ss_ret (se_and (se_isi rfl (by decide) rfl T.n_isinstance (sv 2) (z25 (v:= .ty "tuple") rfl T.n_tuple PyProof.Rows.Boot.«tuple» rfl)) (se_one (scl T.kax (z7I T) hr (s2 (sv 2) (sln T.n_len (s1 (sv 1))))))))))))
noncomputable def z4f:MS:=(sRet (z0w (mC (.str ("." :Str))) [(z0D (z0l (mVar 0)) (.nm 0) (rt true) (mCB [(mVar 0)] strA) 1 [])] z1R))
noncomputable def f_p_dotted:FM:=runF 1 z4f
theorem z4Y(T:Wd K mg):FnOk P w K mg base CX0 1 T.kau.f T.kau.d z4a (spM (GT T) 1 f_p_dotted):=okM z4f T.kau.F z7G fun cdv A outer s H E F hr=>by
 have h64:=hr.units
 exact(ss_one (ss_ret (se_ctS rfl PySem.F.slot_str_join PySem.F.type_str_join (z1v rfl) (sc0 z0a) (s1 (se_comp (own:=["number"]) (frees:=[]) (ix:=[]) rfl rfl (z1f.sc (by kernel_rfl)) (si_seq rfl (sv 0)) (fun _ _ _ _ _ _ _=>(sg_name (z0B (i:=0) (show List.Nodup (["number"]:List Str) by decide+kernel) rfl (Or.inl rfl)))) (fun _ _ _ _ _ _ _=>sts_nil) (fun _ _ _ _ _ _ _=>(se_ct rfl (z1u rfl hr.gd h64) rfl T.n_str PyProof.Rows.Boot.«str» (s1 (sv 0)))))))))
noncomputable def z2d:MS:=(seqS (sAsg (.tp [(.nm 1),(.nm 2),(.nm 3),(.nm 4)]) (mVar 0))
 (sRet (mFs [.inr (mVar 1), .inl (":" :Str), .inr (mCall f_p_dotted [(mVar 2)]), .inl (":" :Str), .inr (mVar 3), .inl (":" :Str), .inr (mVar 4)] Str.empty)))
noncomputable def z0L:FM:=runF 5 z2d
theorem z4Z(T:Wd K mg):FnOk P w K mg base CX0 2 T.kag.f T.kag.d z2a (spM (GT T) 1 z0L):=okM z2d T.kag.F z0E fun cdv A outer s H E F hr=>(ss_cons (ss_asg (sv 0) (sg_tup rfl rfl (sgs_cons (sgn 1 z0E.nd) (sgs_cons (sgn 2 z0E.nd) (sgs_cons (sgn 3 z0E.nd) (sgs_cons (sgn 4 z0E.nd) sgs_nil))))))
 (ss_one (ss_ret (se_fs (.fld (sv 1) (.lit (.fld (scl T.kau (z4Y T) hr (s1 (sv 2))) (.lit (.fld (sv 3) (.lit (.fld (sv 4) .nil)))))))))))
noncomputable def z38:MS:=(seqS (sAsg (.tp [(.nm 1),(.nm 2),(.nm 3)]) (mVar 0))
 (seqS (sAsg (.nm 4) (mBin (mCB [(mVar 1)] z5k) (mCB [(mIf (z0J (mVar 3)) (mC (.int 1)) (mC (.int 0)))] lstM) addD))
 (seqS (sFor (z0l (mVar 2)) (.tp [(.nm 5),(.nm 6),(.nm 7),(.nm 8)]) (z2n (z26 (mVar 4) [(mBin (mBin (mCB [(mVar 5)] tupD) (mVar 6) addD) (mCB [(mVar 7),(mVar 8)] tupD) addD)] extD)))
 (sRet (mBin (mCB [(z0D (mEns [(mVar 4)]) (.tp [(.nm 0),(.nm 1)]) (rt true) (mBin (mVar 0) (mVar 1) mulD) 2 [])] sumD) (mC (.int 997)) modD)))))
noncomputable def z0S:FM:=runF 9 z38
theorem z6i(T:Wd K mg):FnOk P w K mg base CX0 1 T.kap.f T.kap.d z32 (spM (GT T) 1 z0S):=okM z38 T.kap.F z0h fun cdv A outer s H E F hr=>(ss_cons (ss_asg (sv 0) (sg_tup rfl rfl (sgs_cons (sgn 1 z0h.nd) (sgs_cons (sgn 2 z0h.nd) (sgs_cons (sgn 3 z0h.nd) sgs_nil)))))
 (ss_cons (sst 4 z0h.nd (se_add rfl (se_ct rfl (z7t rfl) rfl T.n_list PyProof.Rows.Boot.«list» (s1 (sv 1))) (se_lst rfl (s1 (se_ifExp (sb_truth rfl (sv 3)) (sc0 z00) (sc0 z00))))))
 (ss_cons (ss_for PassesOwn.never rfl (si_seq rfl (sv 2)) (sg_tup rfl rfl (sgs_cons (sgn 5 z0h.nd) (sgs_cons (sgn 6 z0h.nd) (sgs_cons (sgn 7 z0h.nd) (sgs_cons (sgn 8 z0h.nd) sgs_nil))))) (ss_one (ss_expr (se_cl rfl PySem.F.slot_list_extend PySem.F.type_list_extend (z6V rfl) (sv 4) (s1 (se_add rfl (se_add rfl (se_tup rfl (s1 (sv 5))) (sv 6)) (se_tup rfl (s2 (sv 7) (sv 8)))))))))
 (ss_one (ss_ret (se_mod rfl (se_cb rfl (zg5 rfl hr.hd) rfl T.n_sum PyProof.Rows.Boot.«sum» (s1 (se_comp (own:=["place", "number"]) (frees:=[]) (ix:=[]) rfl rfl (z1f.sc (by kernel_rfl)) (si_ens rfl rfl T.n_enumerate (s1 (sv 4)) z00) (fun _ _ _ _ _ _ _=>(sg_tup rfl rfl (sgs_cons (sg_name (z0B (i:=0) (show List.Nodup (["place", "number"]:List Str) by decide+kernel) rfl (Or.inl rfl))) (sgs_cons (sg_name (z0B (i:=1) (show List.Nodup (["place", "number"]:List Str) by decide+kernel) rfl (Or.inl rfl))) sgs_nil)))) (fun _ _ _ _ _ _ _=>sts_nil) (fun _ _ _ _ _ _ _=>(se_mul rfl (sv 0) (sv 1)))))) (se_c rfl (z24 (v:= .int 997) rfl T.c_CHECK_DIVISOR.choose_spec ⟨_,rfl⟩))))))))
noncomputable def z39:MS:=(seqS (sAsg (.tp [(.nm 1),(.nm 2),(.nm 3)]) (mVar 0))
 (seqS (sAsg (.nm 4) (mCB [(mCall f_p_dotted [(mVar 1)]),(mIf (z0J (mVar 3)) (mC (.str ("1" :Str))) (mC (.str ("0" :Str))))] lstM))
 (seqS (z2n (z26 (mVar 4) [(z0D (z0l (mVar 2)) (.nm 0) (rt true) (mCall z0L [(mVar 0)]) 1 [])] extD))
 (seqS (z2n (z26 (mVar 4) [(mFs [.inl ("=" :Str), .inr (mCall z0S [(mVar 0)]), .inl (";" :Str)] Str.empty)] appD))
 (sRet (z0w (mC (.str (" " :Str))) [(mVar 4)] z1R))))))
noncomputable def z1V:FM:=runF 5 z39
theorem z6j(T:Wd K mg):FnOk P w K mg base CX0 3 T.kan.f T.kan.d z31 (spM (GT T) 1 z1V):=okM z39 T.kan.F z0X fun cdv A outer s H E F hr=>(ss_cons (ss_asg (sv 0) (sg_tup rfl rfl (sgs_cons (sgn 1 z0X.nd) (sgs_cons (sgn 2 z0X.nd) (sgs_cons (sgn 3 z0X.nd) sgs_nil)))))
 (ss_cons (sst 4 z0X.nd (se_lst rfl (s2 (scl T.kau (z4Y T) hr (s1 (sv 1))) (se_ifExp (sb_truth rfl (sv 3)) (sc0 z0a) (sc0 z0a)))))
 (ss_cons (ss_expr (se_cl rfl PySem.F.slot_list_extend PySem.F.type_list_extend (z6V rfl) (sv 4) (s1 (se_comp (own:=["piece"]) (frees:=[]) (ix:=[]) rfl rfl (z1f.sc (by kernel_rfl)) (si_seq rfl (sv 2)) (fun _ _ _ _ _ _ _=>(sg_name (z0B (i:=0) (show List.Nodup (["piece"]:List Str) by decide+kernel) rfl (Or.inl rfl)))) (fun _ _ _ _ _ _ _=>sts_nil) (fun _ _ _ _ _ _ _=>(scl T.kag (z4Z T) hr (s1 (sv 0))))))))
 (ss_cons (ss_expr (se_cl rfl PySem.F.slot_list_append PySem.F.type_list_append z1E (sv 4) (s1 (se_fs (.lit (.fld (scl T.kap (z6i T) hr (s1 (sv 0))) (.lit .nil)))))))
 (ss_one (ss_ret (se_ctS rfl PySem.F.slot_str_join PySem.F.type_str_join (z1v rfl) (sc0 z0a) (s1 (sv 4)))))))))
noncomputable def z1L:MS:=(seqS (sIf (mOr (mNot (mBoo (z0C (mC (.int 1)) (mCB [(mVar 0)] lenS) (mC (.int 5)) leD leD))) (mNot (z0J (mCB [(z0D (za7 (mVar 0)) (.nm 0) (rt true) (mBin (mVar 0) (mC (.str ("0123456789" :Str))) inS) 1 [])] allD)))) (sRet (mC .non)) sNx)
 (seqS (sIf (mAnd (mBoo (mBin (mBin (mVar 0) (mC (.int 0)) ixS) (mC (.str ("0" :Str))) eqS)) (mBoo (mBin (mVar 0) (mC (.str ("0" :Str))) neS))) (sRet (mC .non)) sNx)
 (sRet (mCB [(mVar 0)] intS))))
noncomputable def z0d:FM:=runF 1 z1L
theorem z0N(T:Wd K mg):FnOk P w K mg base CX0 1 T.kad.f T.kad.d z1J (spM (GT T) 1 z0d):=okM z1L T.kad.F z4w fun cdv A outer s H E F hr=>(ss_cons (ss_if (SW.sb (sw_or (sb_not (sb_cmp2 z4v z4v (sc0 z00) (se_cb rfl (z2U rfl) rfl T.n_len PyProof.Rows.Boot.«len» (s1 (sv 0))) (se_c rfl (z24 (v:= .int 5) rfl T.c_MOST_FIGURES.choose_spec ⟨_,rfl⟩)))) (sw_or1 (sb_not (sb_truth rfl (se_cb rfl (za2 rfl hr.hd) rfl T.n_all PyProof.Rows.Boot.«all» (s1 (se_comp (own:=["sign"]) (frees:=[]) (ix:=[]) rfl rfl (z1f.sc (by kernel_rfl)) (si_str (sv 0)) (fun _ _ _ _ _ _ _=>(sg_name (z0B (i:=0) (show List.Nodup (["sign"]:List Str) by decide+kernel) rfl (Or.inl rfl)))) (fun _ _ _ _ _ _ _=>sts_nil) (fun _ _ _ _ _ _ _=>(se_cmp zgb (sv 0) (se_c rfl (z24 (v:= .str ("0123456789" :Str)) rfl T.c_FIGURES.choose_spec ⟨_,rfl⟩)) (by with_unfolding_all rfl))))))))))) (ss_one (ss_ret (sc0 z2L))) ss_nil)
 (ss_cons (ss_if (SW.sb (sw_and (sb_cmp z8i (se_ixS (sv 0) (sc0 z00) (fun _ _=>rfl)) (sc0 z0a) (z0b _)) (sw_and1 (sb_cmp z4Q (sv 0) (sc0 z0a) (z0b _))))) (ss_one (ss_ret (sc0 z2L))) ss_nil)
 (ss_one (ss_ret (se_ct rfl z7y rfl T.n_int PyProof.Rows.Boot.«int» (s1 (sv 0)))))))
noncomputable def z1M:MS:=(seqS (sAsg (.nm 1) (z0D (z0l (z0w (mVar 0) [(mC (.str ("." :Str)))] z1p)) (.nm 0) (rt true) (mCall z0d [(mVar 0)]) 1 []))
 (sRet (mIf (mBoo (mBin (mC .non) (mVar 1) inD)) (mC .non) (mCB [(mVar 1)] tupF))))
noncomputable def z0G:FM:=runF 2 z1M
theorem z2P(T:Wd K mg):FnOk P w K mg base CX0 2 T.kac.f T.kac.d z1I (spM (GT T) 1 z0G):=okM z1M T.kac.F z2O fun cdv A outer s H E F hr=>by
 have h64:=hr.units
 exact(ss_cons (ss_comp (i:=1) (own:=["part"]) (frees:=[]) (ix:=[]) rfl z2O.nd rfl (Or.inl rfl) (Or.inl rfl) rfl rfl (z1f.sc (by kernel_rfl)) (si_seq rfl (se_ctS rfl PySem.F.slot_str_split PySem.F.type_str_split z2p (sv 0) (s1 (sc0 z0a)))) (fun _ _ _ _ _ _ _=>(sg_name (z0B (i:=0) (show List.Nodup (["part"]:List Str) by decide+kernel) rfl (Or.inl rfl)))) (fun _ _ _ _ _ _ _=>sts_nil) (fun _ _ _ _ _ _ _=>(scl T.kad (z0N T) hr (s1 (sv 0)))))
 (ss_one (ss_ret (se_ifExp (sb_cmp (zim rfl h64) (sc0 z2L) (sv 1) (by with_unfolding_all rfl)) (sc0 z2L) (se_ct rfl (z3g rfl) rfl T.n_tuple PyProof.Rows.Boot.«tuple» (s1 (sv 1)))))))
noncomputable def z2e:MS:=(seqS (sAsg (.nm 1) (z0w (mVar 0) [(mC (.str (":" :Str)))] z1p))
 (seqS (sIf (mBoo (mBin (mCB [(mVar 1)] lenD) (mC (.int 4)) neD)) (sRet (mC .non)) sNx)
 (sRet (mCB [(mCall z0d [(mBin (mVar 1) (mC (.int 0)) ixD)]),(mCall z0G [(mBin (mVar 1) (mC (.int 1)) ixD)]),(mCall z0d [(mBin (mVar 1) (mC (.int 2)) ixD)]),(mCall z0d [(mBin (mVar 1) (mC (.int 3)) ixD)])] tupD))))
noncomputable def z0M:FM:=runF 2 z2e
theorem z50(T:Wd K mg):FnOk P w K mg base CX0 3 T.kaf.f T.kaf.d z2b (spM (GT T) 1 z0M):=okM z2e T.kaf.F z34 fun cdv A outer s H E F hr=>by
 have h64:=hr.units
 exact(ss_cons (sst 1 z34.nd (se_ctS rfl PySem.F.slot_str_split PySem.F.type_str_split z2p (sv 0) (s1 (sc0 z0a))))
 (ss_cons (ss_if (sb_cmp (z90 rfl h64) (sln T.n_len (s1 (sv 1))) (sc0 z00) (z0b _)) (ss_one (ss_ret (sc0 z2L))) ss_nil)
 (ss_one (ss_ret (se_tup rfl (s4 (scl T.kad (z0N T) hr (s1 (sxc (sv 1) z00))) (scl T.kac (z2P T) hr (s1 (sxc (sv 1) z00))) (scl T.kad (z0N T) hr (s1 (sxc (sv 1) z00))) (scl T.kad (z0N T) hr (s1 (sxc (sv 1) z00)))))))))
noncomputable def z2E:MS:=(seqS (sAsg (.nm 1) (z0w (mVar 0) [(mC (.str (" " :Str)))] z1p))
 (seqS (sIf (mBoo (mBin (mCB [(mVar 1)] lenD) (mC (.int 4)) ltD)) (sRet (mC .non)) sNx)
 (seqS (sAsg (.nm 2) (mCB [(z0D (z0l (mSl (mVar 1) (some (mC (.int 2))) (some (bd (mC (.int 1)) negD)))) (.nm 0) (rt true) (mCall z0M [(mVar 0)]) 1 [])] tupF))
 (seqS (sAsg (.nm 3) (mCB [(mCall z0G [(mBin (mVar 1) (mC (.int 0)) ixD)]),(mVar 2),(mBin (mBin (mVar 1) (mC (.int 1)) ixD) (mC (.str ("1" :Str))) eqS)] tupD))
 (seqS (sIf (mOr (mNot (z0J (mCall z1A [(mVar 3)]))) (mBoo (mBin (mCall z1V [(mVar 3)]) (mBin (mVar 0) (mC (.str (";" :Str))) addD) neS))) (sRet (mC .non)) sNx)
 (sRet (mVar 3)))))))
noncomputable def z0Z:FM:=runF 4 z2E
theorem z5t(T:Wd K mg):FnOk P w K mg base CX0 8 T.kai.f T.kai.d z2x (spM (GT T) 1 z0Z):=okM z2E T.kai.F z1l fun cdv A outer s H E F hr=>(ss_cons (sst 1 z1l.nd (se_ctS rfl PySem.F.slot_str_split PySem.F.type_str_split z2p (sv 0) (s1 (sc0 z0a))))
 (ss_cons (ss_if (sb_cmp z5l (sln T.n_len (s1 (sv 1))) (sc0 z00) (z0b _)) (ss_one (ss_ret (sc0 z2L))) ss_nil)
 (ss_cons (sst 2 z1l.nd (se_ct rfl (z3g rfl) rfl T.n_tuple PyProof.Rows.Boot.«tuple» (s1 (se_comp (own:=["word"]) (frees:=[]) (ix:=[]) rfl rfl (z1f.sc (by kernel_rfl)) (si_seq rfl (se_slice rfl (sv 1) (so_some (sc0 z00)) (so_some (se_neg rfl (sc0 z00))))) (fun _ _ _ _ _ _ _=>(sg_name (z0B (i:=0) (show List.Nodup (["word"]:List Str) by decide+kernel) rfl (Or.inl rfl)))) (fun _ _ _ _ _ _ _=>sts_nil) (fun _ _ _ _ _ _ _=>(scl T.kaf (z50 T) hr (s1 (sv 0))))))))
 (ss_cons (sst 3 z1l.nd (se_tup rfl (s3 (scl T.kac (z2P T) hr (s1 (sxc (sv 1) z00))) (sv 2) (se_cmp z8i (sxc (sv 1) z00) (sc0 z0a) (z0b _)))))
 (ss_cons (ss_if (SW.sb (sw_or (sb_not (sb_truth rfl (scl T.kah (z5s T) hr (s1 (sv 3))))) (sw_or1 (sb_cmp z4Q (scl T.kan (z6j T) hr (s1 (sv 3))) (se_add rfl (sv 0) (sc0 z0a)) (z0b _))))) (ss_one (ss_ret (sc0 z2L))) ss_nil)
 (ss_one (ss_ret (sv 3))))))))
noncomputable def z2F:MS:=(seqS (sIf (mNot (z0J (mIsi "str" (mVar 0)))) sNo sNx)
 (seqS (sAsg (.nm 1) (mCB [] lstM))
 (seqS (sFor (z0l (mSl (mSl (z0w (mVar 0) [(mC (.str (";" :Str)))] z1p) none (some (bd (mC (.int 1)) negD))) none (some (mC (.int 60))))) (.nm 2) (seqS (sAsg (.nm 3) (mCall z0Z [(mVar 2)]))
 (seqS (sIf (mBoo (mBin (mVar 3) (mC .non) isN)) (sRet (mVar 1)) sNx)
 (z2n (z26 (mVar 1) [(mVar 3)] appD)))))
 (sRet (mVar 1)))))
noncomputable def z07:FM:=runF 4 z2F
theorem z1m(T:Wd K mg):FnOk P w K mg base CX0 9 T.kar.f T.kar.d z3B (spM (GT T) 1 z07):=okM z2F T.kar.F z1U fun cdv A outer s H E F hr=>(ss_cons (ss_if (sb_not (sb_truth rfl (se_isi rfl (by decide) rfl T.n_isinstance (sv 0) (z25 (v:= .ty "str") rfl T.n_str PyProof.Rows.Boot.«str» rfl)))) (ss_one ss_no) ss_nil)
 (ss_cons (sst 1 z1U.nd (se_lst rfl (sa_of rfl .nil)))
 (ss_cons (ss_for PassesOwn.never rfl (si_seq rfl (se_slice rfl (se_slice rfl (se_ctS rfl PySem.F.slot_str_split PySem.F.type_str_split z2p (sv 0) (s1 (sc0 z0a))) so_none (so_some (se_neg rfl (sc0 z00)))) so_none (so_some (se_c rfl (z24 (v:= .int 60) rfl T.c_MOST_ROWS.choose_spec ⟨_,rfl⟩))))) (sgn 2 z1U.nd) (ss_cons (sst 3 z1U.nd (scl T.kai (z5t T) hr (s1 (sv 2))))
 (ss_cons (ss_if (sb_cmp zcq (sv 3) (sc0 z2L) (z0b _)) (ss_one (ss_ret (sv 1))) ss_nil)
 (ss_one (ss_expr (se_cl rfl PySem.F.slot_list_append PySem.F.type_list_append z1E (sv 1) (s1 (sv 3))))))))
 (ss_one (ss_ret (sv 1))))))
noncomputable def z7J:MS:=(seqS (sAsg (.nm 2) (mC (.int 0)))
 (seqS (sIf (mBoo (mBin (mVar 1) (mCB [(mVar 0)] lenD) ltD)) (sAsg (.nm 2) (mCB [(mBin (mVar 0) (mVar 1) ixD)] absD)) sNx)
 (seqS (sAsg (.nm 3) (mBin (mBin (mBin (mBin (mBin (mVar 2) (mC (.int 2147483629)) modD) (mBin (mC (.int 104729)) (mVar 1) mulD) addD) (mC (.int 17)) addD) (mC (.int 5)) powD) (mC (.int 2147483647)) modD))
 (seqS (sFor (z2Q [(mCB [(mCB [(mVar 0)] lenD),(mC (.int 60))] minD)]) (.nm 4) (sAsg (.nm 3) (mBin (mBin (mBin (mBin (mVar 3) (mC (.int 48271)) mulD) (mBin (mBin (mBin (mVar 0) (mVar 4) ixD) (mC (.int 2147483587)) modD) (mBin (mVar 4) (mC (.int 3)) addD) mulD) addD) (mVar 4) addD) (mC (.int 2147483629)) modD)))
 (seqS (sIf (mBoo (mBin (mVar 2) (mBin (mC (.int 10)) (mC (.int 18)) powD) ltD)) (sAsg (.nm 2) (mC (.int 0))) sNx)
 (sRet (mCB [(mVar 2),(mVar 3)] lstM)))))))
noncomputable def z51:FM:=runF 5 z7J
theorem zbT(T:Wd K mg):FnOk P w K mg base CX0 1 T.kaH.f T.kaH.d z7C (spM (GT T) 2 z51):=okM z7J T.kaH.F z2B fun cdv A outer s H E F hr=>(ss_cons (sst 2 z2B.nd (sc0 z00))
 (ss_cons (ss_if (sb_cmp z5l (sv 1) (sln T.n_len (s1 (sv 0))) (z0b _)) (ss_one (sst 2 z2B.nd (se_cb rfl zfV rfl T.n_abs PyProof.Rows.Boot.«abs» (s1 (sxx (sv 0) (sv 1)))))) ss_nil)
 (ss_cons (sst 3 z2B.nd (se_mod rfl (se_pow rfl (se_add rfl (se_add rfl (se_mod rfl (sv 2) (sc0 z00)) (se_mul rfl (sc0 z00) (sv 1))) (sc0 z00)) (sc0 z00)) (sc0 z00)))
 (ss_cons (ss_for PassesOwn.never rfl (si_rng1 rfl T.n_range (s1 (se_cb rfl (z8g rfl) rfl T.n_min PyProof.Rows.Boot.«min» (s2 (sln T.n_len (s1 (sv 0))) (sc0 z00))))) (sgn 4 z2B.nd) (ss_one (sst 3 z2B.nd (se_mod rfl (se_add rfl (se_add rfl (se_mul rfl (sv 3) (sc0 z00)) (se_mul rfl (se_mod rfl (sxx (sv 0) (sv 4)) (sc0 z00)) (se_add rfl (sv 4) (sc0 z00)))) (sv 4)) (sc0 z00)))))
 (ss_cons (ss_if (sb_cmp z5l (sv 2) (se_pow rfl (sc0 z00) (sc0 z00)) (z0b _)) (ss_one (sst 2 z2B.nd (sc0 z00))) ss_nil)
 (ss_one (ss_ret (se_lst rfl (s2 (sv 2) (sv 3))))))))))
noncomputable def z6k:MS:=(seqS (sIf (mBoo (mBin (mBin (mVar 0) (mC (.int 0)) ixD) (mC (.int 0)) gtD)) (seqS (sAsg (.nm 2) (mBin (mBin (mVar 0) (mC (.int 0)) ixD) (mVar 1) modD))
 (seqS (mTri (mBin (mBin (mVar 0) (mC (.int 0)) ixD) (mVar 1) z6R) (mVar 0) (mC (.int 0)) setD)
 (sRet (mVar 2)))) sNx)
 (seqS (mTri (mBin (mBin (mBin (mBin (mVar 0) (mC (.int 1)) ixD) (mC (.int 48271)) mulD) (mC (.int 7919)) addD) (mC (.int 2147483647)) modD) (mVar 0) (mC (.int 1)) setD)
 (sRet (mBin (mBin (mBin (mBin (mBin (mBin (mBin (mVar 0) (mC (.int 1)) ixD) (mC (.int 3)) powD) (mC (.int 2147483587)) modD) (mC (.int 7)) z6R) (mC (.int 69621)) mulD) (mC (.int 1073741789)) modD) (mVar 1) modD))))
noncomputable def z05:FM:=runF 3 z6k
theorem z0g(T:Wd K mg):FnOk P w K mg base CX0 1 T.kaB.f T.kaB.d z6a (spM (GT T) 2 z05):=okM z6k T.kaB.F z71 fun cdv A outer s H E F hr=>(ss_cons (ss_if (sb_cmp zbK (sxc (sv 0) z00) (sc0 z00) (z0b _)) (ss_cons (sst 2 z71.nd (se_mod rfl (sxc (sv 0) z00) (sv 1)))
 (ss_cons (ss_setI (se_fdiv rfl (sxc (sv 0) z00) (sv 1)) (sv 0) (sc0 z00) (fun{to ti} h1 h2=>zci h1 h2 z85))
 (ss_one (ss_ret (sv 2))))) ss_nil)
 (ss_cons (ss_setI (se_mod rfl (se_add rfl (se_mul rfl (sxc (sv 0) z00) (sc0 z00)) (sc0 z00)) (sc0 z00)) (sv 0) (sc0 z00) (fun{to ti} h1 h2=>zci h1 h2 z85))
 (ss_one (ss_ret (se_mod rfl (se_mod rfl (se_mul rfl (se_fdiv rfl (se_mod rfl (se_pow rfl (sxc (sv 0) z00) (sc0 z00)) (sc0 z00)) (sc0 z00)) (sc0 z00)) (sc0 z00)) (sv 1))))))
noncomputable def z2f:MS:=(sRet (mCB [(z0D (z2Q [(mVar 1)]) (.nm 0) (rt true) (mCall z05 [(mVar 1),(mVar 2)]) 1 [0,2])] tupF))
noncomputable def z0n:FM:=runF 3 z2f
theorem z3a(T:Wd K mg):FnOk P w K mg base CX0 2 T.kae.f T.kae.d z2c (spM (GT T) 3 z0n):=okM z2f T.kae.F z4W fun cdv A outer s H E F hr=>(ss_one (ss_ret (se_ct rfl (z3g rfl) rfl T.n_tuple PyProof.Rows.Boot.«tuple» (s1 (se_comp (own:=["_law_k"]) (frees:=["_law_bag_here", "_law_most"]) (ix:=[0,2]) rfl rfl (z1f.sc (by kernel_rfl)) (si_rng1 rfl T.n_range (s1 (sv 1))) (fun _ _ _ _ _ _ _=>(sg_name (z0B (i:=0) (show List.Nodup (["_law_k", "_law_bag_here", "_law_most"]:List Str) by decide+kernel) rfl (Or.inl rfl)))) (fun _ _ _ _ _ _ _=>sts_nil) (fun _ _ _ _ _ _ _=>(scl T.kaB (z0g T) hr (s2 (sv 1) (sv 2)))))))))
noncomputable def z4g:MS:=(seqS (sAsg (.nm 3) (mBin (mC (.int 1)) (mCall z05 [(mVar 0),(mVar 1)]) addD))
 (seqS (sAsg (.nm 4) (mBin (mCB [(mC (.int 10)),(mC (.int 10000)),(mC (.int 100000))] lstM) (mCall z05 [(mVar 0),(mC (.int 3))]) ixD))
 (seqS (sAsg (.nm 5) (mCB [] lstM))
 (seqS (sAsg (.nm 6) (mC (.int 0)))
 (seqS (sFor (z2Q [(mVar 3)]) (.nm 7) (sIf (mBoo (mBin (mVar 6) (mVar 3) ltD)) (seqS (sAsg (.nm 6) (mBin (mBin (mVar 6) (mC (.int 1)) addD) (mCall z05 [(mVar 0),(mCB [(mC (.int 3)),(mBin (mVar 3) (mVar 6) subD)] minD)]) addD))
 (seqS (sAsg (.nm 8) (mCall z0n [(mVar 0),(mBin (mC (.int 1)) (mCall z05 [(mVar 0),(mVar 2)]) addD),(mC (.int 1040))]))
 (z2n (z26 (mVar 5) [(mCB [(mVar 6),(mVar 8),(mCall z05 [(mVar 0),(mC (.int 9))]),(mCall z05 [(mVar 0),(mVar 4)])] tupD)] appD)))) sNx))
 (sRet (mCB [(mCall z0n [(mVar 0),(mVar 3),(mC (.int 40))]),(mCB [(mVar 5)] tupF),(mBin (mCall z05 [(mVar 0),(mC (.int 2))]) (mC (.int 1)) eqD)] tupD)))))))
noncomputable def z1i:FM:=runF 9 z4g
theorem z52(T:Wd K mg):FnOk P w K mg base CX0 3 T.kav.f T.kav.d z4b (spM (GT T) 3 z1i):=okM z4g T.kav.F z0F fun cdv A outer s H E F hr=>by
 have h64:=hr.units
 exact(ss_cons (sst 3 z0F.nd (se_add rfl (sc0 z00) (scl T.kaB (z0g T) hr (s2 (sv 0) (sv 1)))))
 (ss_cons (sst 4 z0F.nd (sxx (se_lst rfl (s3 (sc0 z00) (sc0 z00) (sc0 z00))) (scl T.kaB (z0g T) hr (s2 (sv 0) (sc0 z00)))))
 (ss_cons (sst 5 z0F.nd (se_lst rfl (sa_of rfl .nil)))
 (ss_cons (sst 6 z0F.nd (sc0 z00))
 (ss_cons (ss_for PassesOwn.never rfl (si_rng1 rfl T.n_range (s1 (sv 3))) (sgn 7 z0F.nd) (ss_one (ss_if (sb_cmp z5l (sv 6) (sv 3) (z0b _)) (ss_cons (sst 6 z0F.nd (se_add rfl (se_add rfl (sv 6) (sc0 z00)) (scl T.kaB (z0g T) hr (s2 (sv 0) (se_cb rfl (z8g rfl) rfl T.n_min PyProof.Rows.Boot.«min» (s2 (sc0 z00) (se_sub rfl (sv 3) (sv 6))))))))
 (ss_cons (sst 8 z0F.nd (scl T.kae (z3a T) hr (s3 (sv 0) (se_add rfl (sc0 z00) (scl T.kaB (z0g T) hr (s2 (sv 0) (sv 2)))) (sc0 z00))))
 (ss_one (ss_expr (se_cl rfl PySem.F.slot_list_append PySem.F.type_list_append z1E (sv 5) (s1 (se_tup rfl (s4 (sv 6) (sv 8) (scl T.kaB (z0g T) hr (s2 (sv 0) (sc0 z00))) (scl T.kaB (z0g T) hr (s2 (sv 0) (sv 4))))))))))) ss_nil)))
 (ss_one (ss_ret (se_tup rfl (s3 (scl T.kae (z3a T) hr (s3 (sv 0) (sv 3) (sc0 z00))) (se_ct rfl (z3g rfl) rfl T.n_tuple PyProof.Rows.Boot.«tuple» (s1 (sv 5))) (se_cmp (z5m rfl h64) (scl T.kaB (z0g T) hr (s2 (sv 0) (sc0 z00))) (sc0 z00) (z0b _)))))))))))
noncomputable def z3G:MS:=(seqS (sAsg (.nm 1) (mCall z05 [(mVar 0),(mC (.int 8))]))
 (seqS (sAsg (.nm 2) (mCall z05 [(mVar 0),(mBin (mCB [(mC (.int 61)),(mC (.int 3)),(mC (.int 6)),(mC (.int 6)),(mC (.int 9)),(mC (.int 2)),(mC (.int 4)),(mC (.int 6))] lstM) (mVar 1) ixD)]))
 (sRet (z0D (z2Q [(mVar 2)]) (.nm 0) (rt true) (mCall z1i [(mVar 1),(mBin (mCB [(mC (.int 3)),(mC (.int 24)),(mC (.int 6)),(mC (.int 6)),(mC (.int 6)),(mC (.int 6)),(mC (.int 6)),(mC (.int 6))] lstM) (mVar 2) ixD),(mBin (mCB [(mC (.int 2)),(mC (.int 24)),(mC (.int 4)),(mC (.int 4)),(mC (.int 4)),(mC (.int 4)),(mC (.int 4)),(mC (.int 4))] lstM) (mVar 2) ixD)]) 1 [0,1]))))
noncomputable def z1N:FM:=runF 3 z3G
theorem z73(T:Wd K mg):FnOk P w K mg base CX0 4 T.kas.f T.kas.d z3C (spM (GT T) 1 z1N):=okM z3G T.kas.F z35 fun cdv A outer s H E F hr=>(ss_cons (ss_set (fun{te} h=>zck (i:=1) z35.nd rfl (Or.inr rfl) h) (scl T.kaB (z0g T) hr (s2 (sv 0) (sc0 z00))))
 (ss_cons (sst 2 z35.nd (scl T.kaB (z0g T) hr (s2 (sv 0) (sxx (se_lst rfl (sa_of rfl (.cons (sc0 z00) rfl (.cons (sc0 z00) rfl (.cons (sc0 z00) rfl (.cons (sc0 z00) rfl (.cons (sc0 z00) rfl (.cons (sc0 z00) rfl (.cons (sc0 z00) rfl (.cons (sc0 z00) rfl .nil)))))))))) (sv 1)))))
 (ss_one (ss_ret (se_comp (own:=["_law_k"]) (frees:=["_law_bag_here", "_law_way"]) (ix:=[0,1]) rfl rfl (z1f.sc (by kernel_rfl)) (si_rng1 rfl T.n_range (s1 (sv 2))) (fun _ _ _ _ _ _ _=>(sg_name (z0B (i:=0) (show List.Nodup (["_law_k", "_law_bag_here", "_law_way"]:List Str) by decide+kernel) rfl (Or.inl rfl)))) (fun _ _ _ _ _ _ _=>sts_nil) (fun _ _ _ _ _ _ _=>(scl T.kav (z52 T) hr (s3 (sv 1) (sxx (se_lst rfl (sa_of rfl (.cons (sc0 z00) rfl (.cons (sc0 z00) rfl (.cons (sc0 z00) rfl (.cons (sc0 z00) rfl (.cons (sc0 z00) rfl (.cons (sc0 z00) rfl (.cons (sc0 z00) rfl (.cons (sc0 z00) rfl .nil)))))))))) (sv 2)) (sxx (se_lst rfl (sa_of rfl (.cons (sc0 z00) rfl (.cons (sc0 z00) rfl (.cons (sc0 z00) rfl (.cons (sc0 z00) rfl (.cons (sc0 z00) rfl (.cons (sc0 z00) rfl (.cons (sc0 z00) rfl (.cons (sc0 z00) rfl .nil)))))))))) (sv 2))))))))))
noncomputable def z8m:MS:=(sRet (z0w (mC (.str ("." :Str))) [(z0D (z0l (mVar 0)) (.nm 0) (rt true) (mCB [(mVar 0)] strA) 1 [])] z1R))
noncomputable def z3j:FM:=runF 1 z8m
theorem z74(T:Wd K mg):FnOk P w K mg base CX0 1 T.kaC.f T.kaC.d z6b (spM (GT T) 1 z3j):=okM z8m T.kaC.F zac fun cdv A outer s H E F hr=>by
 have h64:=hr.units
 exact(ss_one (ss_ret (se_ctS rfl PySem.F.slot_str_join PySem.F.type_str_join (z1v rfl) (sc0 z0a) (s1 (se_comp (own:=["_law_number_here"]) (frees:=[]) (ix:=[]) rfl rfl (z1f.sc (by kernel_rfl)) (si_seq rfl (sv 0)) (fun _ _ _ _ _ _ _=>(sg_name (z0B (i:=0) (show List.Nodup (["_law_number_here"]:List Str) by decide+kernel) rfl (Or.inl rfl)))) (fun _ _ _ _ _ _ _=>sts_nil) (fun _ _ _ _ _ _ _=>(se_ct rfl (z1u rfl hr.gd h64) rfl T.n_str PyProof.Rows.Boot.«str» (s1 (sv 0)))))))))
noncomputable def z7K:MS:=(seqS (sAsg (.tp [(.nm 1),(.nm 2),(.nm 3)]) (mVar 0))
 (seqS (sAsg (.nm 4) (mBin (mCB [(mVar 1)] z5k) (mCB [(mCB [(mVar 3)] intD)] lstM) addD))
 (seqS (sAsg (.nm 5) (mCB [(mCall z3j [(mVar 1)]),(mCB [(mCB [(mVar 3)] intD)] strA)] lstM))
 (seqS (sFor (z0l (mVar 2)) (.tp [(.nm 6),(.nm 7),(.nm 8),(.nm 9)]) (seqS (sAsg (.nm 4) (mBin (mBin (mBin (mVar 4) (mCB [(mVar 6)] lstM) addD) (mCB [(mVar 7)] z5k) addD) (mCB [(mVar 8),(mVar 9)] lstM) addD))
 (z2n (z26 (mVar 5) [(z0w (mC (.str (":" :Str))) [(mCB [(mCB [(mVar 6)] strA),(mCall z3j [(mVar 7)]),(mCB [(mVar 8)] strA),(mCB [(mVar 9)] strA)] lstM)] z1R)] appD))))
 (seqS (sAsg (.nm 10) (mC (.int 0)))
 (seqS (sFor (mEnm [(mVar 4)]) (.tp [(.nm 11),(.nm 12)]) (sAsg (.nm 10) (mBin (mBin (mBin (mVar 10) (mBin (mVar 11) (mVar 12) mulD) addD) (mVar 12) addD) (mC (.int 997)) modD)))
 (sRet (mBin (mBin (mBin (z0w (mC (.str (" " :Str))) [(mVar 5)] z1R) (mC (.str (" =" :Str))) addD) (mCB [(mVar 10)] strA) addD) (mC (.str (";" :Str))) addD))))))))
noncomputable def z2g:FM:=runF 13 z7K
theorem z6l(T:Wd K mg):FnOk P w K mg base CX0 2 T.kaG.f T.kaG.d z7E (spM (GT T) 1 z2g):=okM z7K T.kaG.F z0t fun cdv A outer s H E F hr=>by
 have h64:=hr.units
 exact(ss_cons (ss_asg (sv 0) (sg_tup rfl rfl (sgs_cons (sgn 1 z0t.nd) (sgs_cons (sgn 2 z0t.nd) (sgs_cons (sgn 3 z0t.nd) sgs_nil)))))
 (ss_cons (sst 4 z0t.nd (se_add rfl (se_ct rfl (z7t rfl) rfl T.n_list PyProof.Rows.Boot.«list» (s1 (sv 1))) (se_lst rfl (s1 (se_ct rfl zcr rfl T.n_int PyProof.Rows.Boot.«int» (s1 (sv 3)))))))
 (ss_cons (sst 5 z0t.nd (se_lst rfl (s2 (scl T.kaC (z74 T) hr (s1 (sv 1))) (se_ct rfl (z1u rfl hr.gd h64) rfl T.n_str PyProof.Rows.Boot.«str» (s1 (se_ct rfl zcr rfl T.n_int PyProof.Rows.Boot.«int» (s1 (sv 3))))))))
 (ss_cons (ss_for PassesOwn.never rfl (si_seq rfl (sv 2)) (sg_tup rfl rfl (sgs_cons (sgn 6 z0t.nd) (sgs_cons (sgn 7 z0t.nd) (sgs_cons (sgn 8 z0t.nd) (sgs_cons (sgn 9 z0t.nd) sgs_nil))))) (ss_cons (sst 4 z0t.nd (se_add rfl (se_add rfl (se_add rfl (sv 4) (se_lst rfl (s1 (sv 6)))) (se_ct rfl (z7t rfl) rfl T.n_list PyProof.Rows.Boot.«list» (s1 (sv 7)))) (se_lst rfl (s2 (sv 8) (sv 9)))))
 (ss_one (ss_expr (se_cl rfl PySem.F.slot_list_append PySem.F.type_list_append z1E (sv 5) (s1 (se_ctS rfl PySem.F.slot_str_join PySem.F.type_str_join (z1v rfl) (sc0 z0a) (s1 (se_lst rfl (s4 (se_ct rfl (z1u rfl hr.gd h64) rfl T.n_str PyProof.Rows.Boot.«str» (s1 (sv 6))) (scl T.kaC (z74 T) hr (s1 (sv 7))) (se_ct rfl (z1u rfl hr.gd h64) rfl T.n_str PyProof.Rows.Boot.«str» (s1 (sv 8))) (se_ct rfl (z1u rfl hr.gd h64) rfl T.n_str PyProof.Rows.Boot.«str» (s1 (sv 9)))))))))))))
 (ss_cons (sst 10 z0t.nd (sc0 z00))
 (ss_cons (ss_for PassesOwn.never rfl (si_enm rfl rfl T.n_enumerate (s1 (sv 4))) (sg_tup rfl rfl (sgs_cons (sgn 11 z0t.nd) (sgs_cons (sgn 12 z0t.nd) sgs_nil))) (ss_one (sst 10 z0t.nd (se_mod rfl (se_add rfl (se_add rfl (sv 10) (se_mul rfl (sv 11) (sv 12))) (sv 12)) (sc0 z00)))))
 (ss_one (ss_ret (se_add rfl (se_add rfl (se_add rfl (se_ctS rfl PySem.F.slot_str_join PySem.F.type_str_join (z1v rfl) (sc0 z0a) (s1 (sv 5))) (sc0 z0a)) (se_ct rfl (z1u rfl hr.gd h64) rfl T.n_str PyProof.Rows.Boot.«str» (s1 (sv 10)))) (sc0 z0a))))))))))
noncomputable def z4h:MS:=(seqS (sIf (mOr (mNot (mBoo (z0C (mC (.int 1)) (mCB [(mVar 0)] lenS) (mC (.int 5)) leD leD))) (mOr (mBoo (mBin (z0w (mVar 0) [(mC (.str ("0123456789" :Str)))] txS) (mC (.str ("" :Str))) neS)) (mBoo (mBin (mCB [(mCB [(mVar 0)] intS)] strA) (mVar 0) neS)))) (sRet (bd (mC (.int 1)) negD)) sNx)
 (sRet (mCB [(mVar 0)] intS)))
noncomputable def z0q:FM:=runF 1 z4h
theorem z2G(T:Wd K mg):FnOk P w K mg base CX0 1 T.kaw.f T.kaw.d z4c (spM (GT T) 1 z0q):=okM z4h T.kaw.F z7H fun cdv A outer s H E F hr=>by
 have h64:=hr.units
 exact(ss_cons (ss_if (SW.sb (sw_or (sb_not (sb_cmp2 z4v z4v (sc0 z00) (se_cb rfl (z2U rfl) rfl T.n_len PyProof.Rows.Boot.«len» (s1 (sv 0))) (sc0 z00))) (sw_or (sb_cmp z4Q (se_ctS rfl PySem.F.slot_str_strip PySem.F.type_str_strip zge (sv 0) (s1 (sc0 z0a))) (sc0 z0a) (z0b _)) (sw_or1 (sb_cmp z4Q (se_ct rfl (z1u rfl hr.gd h64) rfl T.n_str PyProof.Rows.Boot.«str» (s1 (se_ct rfl z7y rfl T.n_int PyProof.Rows.Boot.«int» (s1 (sv 0))))) (sv 0) (z0b _)))))) (ss_one (ss_ret (se_neg rfl (sc0 z00)))) ss_nil)
 (ss_one (ss_ret (se_ct rfl z7y rfl T.n_int PyProof.Rows.Boot.«int» (s1 (sv 0))))))
noncomputable def z3H:MS:=(sRet (mCB [(z0D (z0l (z0w (mVar 0) [(mC (.str ("." :Str)))] z1p)) (.nm 0) (rt true) (mCall z0q [(mVar 0)]) 1 [])] tupF))
noncomputable def z0R:FM:=runF 1 z3H
theorem z4p(T:Wd K mg):FnOk P w K mg base CX0 2 T.kaq.f T.kaq.d z3D (spM (GT T) 1 z0R):=okM z3H T.kaq.F z72 fun cdv A outer s H E F hr=>(ss_one (ss_ret (se_ct rfl (z3g rfl) rfl T.n_tuple PyProof.Rows.Boot.«tuple» (s1 (se_comp (own:=["_law_part"]) (frees:=[]) (ix:=[]) rfl rfl (z1f.sc (by kernel_rfl)) (si_seq rfl (se_ctS rfl PySem.F.slot_str_split PySem.F.type_str_split z2p (sv 0) (s1 (sc0 z0a)))) (fun _ _ _ _ _ _ _=>(sg_name (z0B (i:=0) (show List.Nodup (["_law_part"]:List Str) by decide+kernel) rfl (Or.inl rfl)))) (fun _ _ _ _ _ _ _=>sts_nil) (fun _ _ _ _ _ _ _=>(scl T.kaw (z2G T) hr (s1 (sv 0)))))))))
noncomputable def z2H:MS:=(seqS (sIf (mOr (mBoo (mBin (mCB [(mVar 0)] lenD) (mC (.int 24)) gtD)) (mBoo (mBin (z0D (z0l (mVar 0)) (.nm 0) (mNot (mBoo (z0C (mC (.int 0)) (mVar 0) (mC (.int 40)) leD ltD))) (mVar 0) 1 []) (mCB [] lstM) neD))) (sRet (mC (.bool false))) sNx)
 (seqS (sAsg (.nm 2) (mC (.int 0)))
 (seqS (sFor (z0l (mVar 1)) (.tp [(.nm 3),(.nm 4),(.nm 5),(.nm 6)]) (seqS (sIf (mOr (mNot (mBoo (z0C (mVar 2) (mVar 3) (mCB [(mVar 0)] lenD) ltD leD))) (mOr (mNot (mBoo (z0C (mC (.int 0)) (mVar 5) (mC (.int 9)) leD ltD))) (mOr (mBoo (mBin (mVar 6) (mC (.int 0)) ltD)) (mBoo (mBin (mCB [(mVar 4)] lenD) (mC (.int 24)) gtD))))) (sRet (mC (.bool false))) sNx)
 (seqS (sIf (mBoo (mBin (z0D (z0l (mVar 4)) (.nm 0) (mNot (mBoo (z0C (mC (.int 0)) (mVar 0) (mC (.int 1040)) leD ltD))) (mVar 0) 1 []) (mCB [] lstM) neD)) (sRet (mC (.bool false))) sNx)
 (sAsg (.nm 2) (mVar 3)))))
 (sRet (mBin (mVar 2) (mCB [(mVar 0)] lenD) eqD)))))
noncomputable def z1a:FM:=runF 7 z2H
theorem z5u(T:Wd K mg):FnOk P w K mg base CX0 1 T.kak.f T.kak.d z2y (spM (GT T) 2 z1a):=okM z2H T.kak.F z0m fun cdv A outer s H E F hr=>by
 have h64:=hr.units
 exact(ss_cons (ss_if (SW.sb (sw_or (sb_cmp zbK (sln T.n_len (s1 (sv 0))) (sc0 z00) (z0b _)) (sw_or1 (sb_cmp (z90 rfl h64) (se_comp (own:=["_law_one"]) (frees:=[]) (ix:=[]) rfl rfl (z1f.sc (by kernel_rfl)) (si_seq rfl (sv 0)) (fun _ _ _ _ _ _ _=>(sg_name (z0B (i:=0) (show List.Nodup (["_law_one"]:List Str) by decide+kernel) rfl (Or.inl rfl)))) (fun _ _ _ _ _ _ _=>(sts_one (sb_not (sb_cmp2 z4v z5l (sc0 z00) (sv 0) (sc0 z00))))) (fun _ _ _ _ _ _ _=>(sv 0))) (se_lst rfl (sa_of rfl .nil)) (z0b _))))) (ss_one (ss_ret (sc0 z3v))) ss_nil)
 (ss_cons (sst 2 z0m.nd (sc0 z00))
 (ss_cons (ss_for PassesOwn.never rfl (si_seq rfl (sv 1)) (sg_tup rfl rfl (sgs_cons (sgn 3 z0m.nd) (sgs_cons (sgn 4 z0m.nd) (sgs_cons (sgn 5 z0m.nd) (sgs_cons (sgn 6 z0m.nd) sgs_nil))))) (ss_cons (ss_if (SW.sb (sw_or (sb_not (sb_cmp2 z5l z4v (sv 2) (sv 3) (sln T.n_len (s1 (sv 0))))) (sw_or (sb_not (sb_cmp2 z4v z5l (sc0 z00) (sv 5) (sc0 z00))) (sw_or (sb_cmp z5l (sv 6) (sc0 z00) (z0b _)) (sw_or1 (sb_cmp zbK (sln T.n_len (s1 (sv 4))) (sc0 z00) (z0b _))))))) (ss_one (ss_ret (sc0 z3v))) ss_nil)
 (ss_cons (ss_if (sb_cmp (z90 rfl h64) (se_comp (own:=["_law_one"]) (frees:=[]) (ix:=[]) rfl rfl (z1f.sc (by kernel_rfl)) (si_seq rfl (sv 4)) (fun _ _ _ _ _ _ _=>(sg_name (z0B (i:=0) (show List.Nodup (["_law_one"]:List Str) by decide+kernel) rfl (Or.inl rfl)))) (fun _ _ _ _ _ _ _=>(sts_one (sb_not (sb_cmp2 z4v z5l (sc0 z00) (sv 0) (sc0 z00))))) (fun _ _ _ _ _ _ _=>(sv 0))) (se_lst rfl (sa_of rfl .nil)) (z0b _)) (ss_one (ss_ret (sc0 z3v))) ss_nil)
 (ss_one (sst 2 z0m.nd (sv 3))))))
 (ss_one (ss_ret (se_cmp (z5m rfl h64) (sv 2) (sln T.n_len (s1 (sv 0))) (z0b _)))))))
noncomputable def z2I:MS:=(seqS (sAsg (.nm 1) (z0w (mVar 0) [(mC (.str (" " :Str)))] z1p))
 (seqS (sIf (mOr (mBoo (mBin (mCB [(mVar 1)] lenD) (mC (.int 4)) ltD)) (mBoo (mBin (mBin (mVar 1) (mC (.int 1)) ixD) (mCB [(mC (.str ("0" :Str))),(mC (.str ("1" :Str)))] lstM) ninD))) (sRet (mC .non)) sNx)
 (seqS (sAsg (.nm 2) (mCB [] lstM))
 (seqS (sFor (z0l (mSl (mVar 1) (some (mC (.int 2))) (some (bd (mC (.int 1)) negD)))) (.nm 3) (seqS (sAsg (.nm 4) (z0w (mVar 3) [(mC (.str (":" :Str)))] z1p))
 (seqS (sIf (mBoo (mBin (mCB [(mVar 4)] lenD) (mC (.int 4)) neD)) (sRet (mC .non)) sNx)
 (z2n (z26 (mVar 2) [(mCB [(mCall z0q [(mBin (mVar 4) (mC (.int 0)) ixD)]),(mCall z0R [(mBin (mVar 4) (mC (.int 1)) ixD)]),(mCall z0q [(mBin (mVar 4) (mC (.int 2)) ixD)]),(mCall z0q [(mBin (mVar 4) (mC (.int 3)) ixD)])] tupD)] appD)))))
 (seqS (sAsg (.nm 5) (mCB [(mCall z0R [(mBin (mVar 1) (mC (.int 0)) ixD)]),(mCB [(mVar 2)] tupF),(mBin (mBin (mVar 1) (mC (.int 1)) ixD) (mC (.str ("1" :Str))) eqS)] tupD))
 (seqS (sIf (mOr (mNot (z0J (mCall z1a [(mBin (mVar 5) (mC (.int 0)) ixD),(mVar 2)]))) (mBoo (mBin (mCall z2g [(mVar 5)]) (mBin (mVar 0) (mC (.str (";" :Str))) addD) neS))) (sRet (mC .non)) sNx)
 (sRet (mVar 5))))))))
noncomputable def z1b:FM:=runF 6 z2I
theorem z5v(T:Wd K mg):FnOk P w K mg base CX0 3 T.kal.f T.kal.d z2z (spM (GT T) 1 z1b):=okM z2I T.kal.F z0v fun cdv A outer s H E F hr=>by
 have h64:=hr.units
 exact(ss_cons (sst 1 z0v.nd (se_ctS rfl PySem.F.slot_str_split PySem.F.type_str_split z2p (sv 0) (s1 (sc0 z0a))))
 (ss_cons (ss_if (SW.sb (sw_or (sb_cmp z5l (sln T.n_len (s1 (sv 1))) (sc0 z00) (z0b _)) (sw_or1 (sb_cmp (zfT rfl h64) (sxc (sv 1) z00) (se_lst rfl (s2 (sc0 z0a) (sc0 z0a))) (by with_unfolding_all rfl))))) (ss_one (ss_ret (sc0 z2L))) ss_nil)
 (ss_cons (sst 2 z0v.nd (se_lst rfl (sa_of rfl .nil)))
 (ss_cons (ss_for PassesOwn.never rfl (si_seq rfl (se_slice rfl (sv 1) (so_some (sc0 z00)) (so_some (se_neg rfl (sc0 z00))))) (sgn 3 z0v.nd) (ss_cons (sst 4 z0v.nd (se_ctS rfl PySem.F.slot_str_split PySem.F.type_str_split z2p (sv 3) (s1 (sc0 z0a))))
 (ss_cons (ss_if (sb_cmp (z90 rfl h64) (sln T.n_len (s1 (sv 4))) (sc0 z00) (z0b _)) (ss_one (ss_ret (sc0 z2L))) ss_nil)
 (ss_one (ss_expr (se_cl rfl PySem.F.slot_list_append PySem.F.type_list_append z1E (sv 2) (s1 (se_tup rfl (s4 (scl T.kaw (z2G T) hr (s1 (sxc (sv 4) z00))) (scl T.kaq (z4p T) hr (s1 (sxc (sv 4) z00))) (scl T.kaw (z2G T) hr (s1 (sxc (sv 4) z00))) (scl T.kaw (z2G T) hr (s1 (sxc (sv 4) z00))))))))))))
 (ss_cons (sst 5 z0v.nd (se_tup rfl (s3 (scl T.kaq (z4p T) hr (s1 (sxc (sv 1) z00))) (se_ct rfl (z3g rfl) rfl T.n_tuple PyProof.Rows.Boot.«tuple» (s1 (sv 2))) (se_cmp z8i (sxc (sv 1) z00) (sc0 z0a) (z0b _)))))
 (ss_cons (ss_if (SW.sb (sw_or (sb_not (sb_truth rfl (scl T.kak (z5u T) hr (s2 (sxc (sv 5) z00) (sv 2))))) (sw_or1 (sb_cmp z4Q (scl T.kaG (z6l T) hr (s1 (sv 5))) (se_add rfl (sv 0) (sc0 z0a)) (z0b _))))) (ss_one (ss_ret (sc0 z2L))) ss_nil)
 (ss_one (ss_ret (sv 5)))))))))
noncomputable def z6m:MS:=(seqS (sAsg (.nm 1) (mCB [] lstM))
 (seqS (sAsg (.nm 2) (mVar 0))
 (seqS (sFor (z2Q [(mC (.int 60))]) (.nm 3) (seqS (sAsg (.tp [(.nm 4),(.nm 5),(.nm 2)]) (z0w (mVar 2) [(mC (.str (";" :Str)))] txP))
 (seqS (sAsg (.nm 6) (mCall z1b [(mVar 4)]))
 (seqS (sIf (mOr (mBoo (mBin (mVar 5) (mC (.str ("" :Str))) eqS)) (mBoo (mBin (mVar 6) (mC .non) isN))) (sRet (mVar 1)) sNx)
 (z2n (z26 (mVar 1) [(mVar 6)] appD))))))
 (sRet (mVar 1)))))
noncomputable def z3R:FM:=runF 7 z6m
theorem zad(T:Wd K mg):FnOk P w K mg base CX0 4 T.kaE.f T.kaE.d z6e (spM (GT T) 1 z3R):=okM z6m T.kaE.F z1q fun cdv A outer s H E F hr=>(ss_cons (sst 1 z1q.nd (se_lst rfl (sa_of rfl .nil)))
 (ss_cons (sst 2 z1q.nd (sv 0))
 (ss_cons (ss_for PassesOwn.never rfl (si_rng1 rfl T.n_range (s1 (sc0 z00))) (sgn 3 z1q.nd) (ss_cons (ss_asg (se_ctS rfl PySem.F.slot_str_partition PySem.F.type_str_partition zgk (sv 2) (s1 (sc0 z0a))) (sg_tup rfl rfl (sgs_cons (sgn 4 z1q.nd) (sgs_cons (sgn 5 z1q.nd) (sgs_cons (sgn 2 z1q.nd) sgs_nil)))))
 (ss_cons (sst 6 z1q.nd (scl T.kal (z5v T) hr (s1 (sv 4))))
 (ss_cons (ss_if (SW.sb (sw_or (sb_cmp z8i (sv 5) (sc0 z0a) (z0b _)) (sw_or1 (sb_cmp zcq (sv 6) (sc0 z2L) (z0b _))))) (ss_one (ss_ret (sv 1))) ss_nil)
 (ss_one (ss_expr (se_cl rfl PySem.F.slot_list_append PySem.F.type_list_append z1E (sv 1) (s1 (sv 6)))))))))
 (ss_one (ss_ret (sv 1))))))
noncomputable def z53:MS:=(seqS (sAsg (.nm 1) (mCall z3R [(mVar 0)]))
 (seqS (sFor (z2Q [(mC (.int 2))]) (.nm 2) (seqS (sAsg (.nm 3) (mCall z07 [(mVar 0)]))
 (seqS (sIf (mOr (mNot (z0J (mIsi "list" (mVar 3)))) (mBoo (mBin (mCB [(mVar 3)] strA) (mCB [(mVar 1)] strA) neS))) (sRet (mC (.bool false))) sNx)
 (z2n (z26 (mVar 3) [(mC (.int 7))] appD)))))
 (sRet (mC (.bool true)))))
noncomputable def z1c:FM:=runF 4 z53
theorem z4i(T:Wd K mg):FnOk P w K mg base CX0 10 T.kaz.f T.kaz.d z4V (spM (GT T) 1 z1c):=okM z53 T.kaz.F z3h fun cdv A outer s H E F hr=>by
 have h64:=hr.units
 exact(ss_cons (sst 1 z3h.nd (scl T.kaE (zad T) hr (s1 (sv 0))))
 (ss_cons (ss_for PassesOwn.never rfl (si_rng1 rfl T.n_range (s1 (sc0 z00))) (sgn 2 z3h.nd) (ss_cons (sst 3 z3h.nd (scl T.kar (z1m T) hr (s1 (sv 0))))
 (ss_cons (ss_if (SW.sb (sw_or (sb_not (sb_truth rfl (se_isi rfl (by decide) rfl T.n_isinstance (sv 3) (z25 (v:= .ty "list") rfl T.n_list PyProof.Rows.Boot.«list» rfl)))) (sw_or1 (sb_cmp z4Q (se_ct rfl (z1u rfl hr.gd h64) rfl T.n_str PyProof.Rows.Boot.«str» (s1 (sv 3))) (se_ct rfl (z1u rfl hr.gd h64) rfl T.n_str PyProof.Rows.Boot.«str» (s1 (sv 1))) (z0b _))))) (ss_one (ss_ret (sc0 z3v))) ss_nil)
 (ss_one (ss_expr (se_cl rfl PySem.F.slot_list_append PySem.F.type_list_append z1E (sv 3) (s1 (sc0 z00))))))))
 (ss_one (ss_ret (sc0 z3v)))))
noncomputable def z6n:MS:=(seqS (sAsg (.nm 3) (mCall z05 [(mVar 0),(mC (.int 6))]))
 (seqS (sAsg (.nm 4) (z0w (mC (.str ("" :Str))) [(mVar 1)] z1R))
 (seqS (sAsg (.nm 5) (mCall z05 [(mVar 0),(mBin (mCB [(mVar 4)] lenS) (mC (.int 1)) addD)]))
 (seqS (sAsg (.nm 6) (mBin (mVar 5) (mCall z05 [(mVar 0),(mCB [(mC (.int 40)),(mBin (mBin (mCB [(mVar 4)] lenS) (mVar 5) subD) (mC (.int 1)) addD)] minD)]) addD))
 (seqS (sAsg (.nm 7) (mCall z05 [(mVar 0),(mBin (mCB [(mVar 1)] lenS) (mC (.int 1)) addD)]))
 (seqS (sAsg (.nm 8) (mCall z05 [(mVar 0),(mBin (mCB [(mVar 1)] lenS) (mC (.int 1)) addD)]))
 (seqS (sIf (mBoo (mBin (mVar 3) (mC (.int 0)) eqD)) (sRet (mBin (mSlS (mVar 4) none (some (mVar 5))) (mSlS (mVar 4) (some (mVar 6)) none) addD)) sNx)
 (seqS (sIf (mBoo (mBin (mVar 3) (mC (.int 1)) eqD)) (sRet (z0w (mC (.str ("" :Str))) [(mBin (mSl (mVar 1) none (some (mVar 7))) (mSl (mVar 1) (some (mVar 8)) none) addD)] z1R)) sNx)
 (seqS (sIf (mBoo (mBin (mVar 3) (mC (.int 2)) eqD)) (sRet (mBin (mBin (mVar 4) (mSlS (mVar 4) none (some (mVar 5))) addD) (mVar 4) addD)) sNx)
 (seqS (sIf (mBoo (mBin (mVar 3) (mC (.int 3)) eqD)) (sRet (z0w (mC (.str ("" :Str))) [(mBin (mBin (mSl (mVar 1) none (some (mVar 7))) (mSl (mVar 1) (some (mVar 7)) (some (mBin (mVar 7) (mC (.int 1)) addD))) addD) (mSl (mVar 1) (some (mVar 7)) none) addD)] z1R)) sNx)
 (seqS (sIf (mBoo (mBin (mVar 3) (mC (.int 4)) eqD)) (sRet (mBin (mBin (z0w (mC (.str ("" :Str))) [(mVar 2)] z1R) (mVar 4) addD) (z0w (mC (.str ("" :Str))) [(mVar 2)] z1R) addD)) sNx)
 (sRet (mIf (mBoo (mBin (mVar 5) (mC (.int 0)) gtD)) (mBin (mSlS (mVar 4) none (some (mVar 5))) (mSlS (mVar 4) (some (mBin (mVar 5) (mC (.int 1)) subD)) none) addD) (mBin (mVar 4) (mC (.str (";" :Str))) addD))))))))))))))
noncomputable def z3S:FM:=runF 9 z6n
theorem zae(T:Wd K mg):FnOk P w K mg base CX0 2 T.kaF.f T.kaF.d z6f (spM (GT T) 3 z3S):=okM z6n T.kaF.F z1K fun cdv A outer s H E F hr=>by
 have h64:=hr.units
 exact(ss_cons (sst 3 z1K.nd (scl T.kaB (z0g T) hr (s2 (sv 0) (sc0 z00))))
 (ss_cons (sst 4 z1K.nd (se_ctS rfl PySem.F.slot_str_join PySem.F.type_str_join (z1v rfl) (sc0 z0a) (s1 (sv 1))))
 (ss_cons (sst 5 z1K.nd (scl T.kaB (z0g T) hr (s2 (sv 0) (se_add rfl (se_cb rfl (z2U rfl) rfl T.n_len PyProof.Rows.Boot.«len» (s1 (sv 4))) (sc0 z00)))))
 (ss_cons (sst 6 z1K.nd (se_add rfl (sv 5) (scl T.kaB (z0g T) hr (s2 (sv 0) (se_cb rfl (z8g rfl) rfl T.n_min PyProof.Rows.Boot.«min» (s2 (sc0 z00) (se_add rfl (se_sub rfl (se_cb rfl (z2U rfl) rfl T.n_len PyProof.Rows.Boot.«len» (s1 (sv 4))) (sv 5)) (sc0 z00))))))))
 (ss_cons (sst 7 z1K.nd (scl T.kaB (z0g T) hr (s2 (sv 0) (se_add rfl (se_cb rfl (z2U rfl) rfl T.n_len PyProof.Rows.Boot.«len» (s1 (sv 1))) (sc0 z00)))))
 (ss_cons (sst 8 z1K.nd (scl T.kaB (z0g T) hr (s2 (sv 0) (se_add rfl (se_cb rfl (z2U rfl) rfl T.n_len PyProof.Rows.Boot.«len» (s1 (sv 1))) (sc0 z00)))))
 (ss_cons (ss_if (sb_cmp (z5m rfl h64) (sv 3) (sc0 z00) (z0b _)) (ss_one (ss_ret (se_add rfl (se_sliceS rfl (sv 4) so_none (so_some (sv 5))) (se_sliceS rfl (sv 4) (so_some (sv 6)) so_none)))) ss_nil)
 (ss_cons (ss_if (sb_cmp (z5m rfl h64) (sv 3) (sc0 z00) (z0b _)) (ss_one (ss_ret (se_ctS rfl PySem.F.slot_str_join PySem.F.type_str_join (z1v rfl) (sc0 z0a) (s1 (se_add rfl (se_slice rfl (sv 1) so_none (so_some (sv 7))) (se_slice rfl (sv 1) (so_some (sv 8)) so_none)))))) ss_nil)
 (ss_cons (ss_if (sb_cmp (z5m rfl h64) (sv 3) (sc0 z00) (z0b _)) (ss_one (ss_ret (se_add rfl (se_add rfl (sv 4) (se_sliceS rfl (sv 4) so_none (so_some (sv 5)))) (sv 4)))) ss_nil)
 (ss_cons (ss_if (sb_cmp (z5m rfl h64) (sv 3) (sc0 z00) (z0b _)) (ss_one (ss_ret (se_ctS rfl PySem.F.slot_str_join PySem.F.type_str_join (z1v rfl) (sc0 z0a) (s1 (se_add rfl (se_add rfl (se_slice rfl (sv 1) so_none (so_some (sv 7))) (se_slice rfl (sv 1) (so_some (sv 7)) (so_some (se_add rfl (sv 7) (sc0 z00))))) (se_slice rfl (sv 1) (so_some (sv 7)) so_none)))))) ss_nil)
 (ss_cons (ss_if (sb_cmp (z5m rfl h64) (sv 3) (sc0 z00) (z0b _)) (ss_one (ss_ret (se_add rfl (se_add rfl (se_ctS rfl PySem.F.slot_str_join PySem.F.type_str_join (z1v rfl) (sc0 z0a) (s1 (sv 2))) (sv 4)) (se_ctS rfl PySem.F.slot_str_join PySem.F.type_str_join (z1v rfl) (sc0 z0a) (s1 (sv 2)))))) ss_nil)
 (ss_one (ss_ret (se_ifExp (sb_cmp zbK (sv 5) (sc0 z00) (z0b _)) (se_add rfl (se_sliceS rfl (sv 4) so_none (so_some (sv 5))) (se_sliceS rfl (sv 4) (so_some (se_sub rfl (sv 5) (sc0 z00))) so_none)) (se_add rfl (sv 4) (sc0 z0a))))))))))))))))
noncomputable def ze1:MS:=(seqS (sFor (z2Q [(mCB [(mC (.int 2)),(mCB [(mCB [(mVar 0)] lenS),(mC (.int 5))] minD)] maxD)]) (.nm 1) (seqS (sAsg (.nm 2) (mCall z51 [(mVar 0),(mVar 1)]))
 (seqS (sAsg (.nm 3) (mCall z1N [(mVar 2)]))
 (seqS (sAsg (.nm 4) (z0D (z0l (mVar 3)) (.nm 0) (rt true) (mCall z2g [(mVar 0)]) 1 []))
 (seqS (sAsg (.nm 5) (mCB [(mCall z2g [(mCall z1i [(mVar 2),(mC (.int 3)),(mC (.int 2))])])] lstM))
 (seqS (sAsg (.nm 6) (z0w (mC (.str ("" :Str))) [(mVar 4)] z1R))
 (seqS (sFor (z2Q [(mC (.int 12))]) (.nm 7) (seqS (sAsg (.nm 8) (mCall z05 [(mVar 2),(mBin (mCB [(mVar 6)] lenS) (mC (.int 1)) addD)]))
 (seqS (sIf (mBoo (mBin (mCB [(mCall z07 [(mSlS (mVar 6) none (some (mVar 8)))])] strA) (mCB [(mSl (mVar 3) none (some (z0w (mSlS (mVar 6) none (some (mVar 8))) [(mC (.str (";" :Str)))] txC)))] strA) neS)) (sRet (mC (.bool false))) sNx)
 (sIf (mNot (z0J (mCall z1c [(mCall z3S [(mVar 2),(mVar 4),(mVar 5)])]))) (sRet (mC (.bool false))) sNx))))
 (sIf (mOr (mNot (z0J (mCall z1c [(mBin (mBin (mBin (mVar 5) (mC (.int 0)) ixD) (mC (.int 59)) mulS) (z0w (mC (.str ("" :Str))) [(mVar 4)] z1R) addD)]))) (mNot (z0J (mCall z1c [(mBin (mBin (mVar 5) (mC (.int 0)) ixD) (mC (.int 61)) mulS)])))) (sRet (mC (.bool false))) sNx))))))))
 (sRet (z5j (mBin (mCall z07 [(mC (.str ("" :Str)))]) (mCB [] lstM) eqD) (mBin (mCall z07 [(mC (.str (";" :Str)))]) (mCB [] lstM) eqD))))
noncomputable def f_law:FM:=runF 9 ze1
theorem zgn(T:Wd K mg):FnOk P w K mg base CX0 11 T.x_law.f T.x_law.d ze0 (spM (GT T) 1 f_law):=okM ze1 T.x_law.F z3Q fun cdv A outer s H E F hr=>by
 have h64:=hr.units
 exact(ss_cons (ss_for PassesOwn.never rfl (si_rng1 rfl T.n_range (s1 (se_cb rfl (zfW rfl) rfl T.n_max PyProof.Rows.Boot.«max» (s2 (sc0 z00) (se_cb rfl (z8g rfl) rfl T.n_min PyProof.Rows.Boot.«min» (s2 (se_cb rfl (z2U rfl) rfl T.n_len PyProof.Rows.Boot.«len» (s1 (sv 0))) (sc0 z00))))))) (sgn 1 z3Q.nd) (ss_cons (sst 2 z3Q.nd (scl T.kaH (zbT T) hr (s2 (sv 0) (sv 1))))
 (ss_cons (sst 3 z3Q.nd (scl T.kas (z73 T) hr (s1 (sv 2))))
 (ss_cons (ss_comp (i:=4) (own:=["_law_commit_here"]) (frees:=[]) (ix:=[]) rfl z3Q.nd rfl (Or.inl rfl) (Or.inl rfl) rfl rfl (z1f.sc (by kernel_rfl)) (si_seq rfl (sv 3)) (fun _ _ _ _ _ _ _=>(sg_name (z0B (i:=0) (show List.Nodup (["_law_commit_here"]:List Str) by decide+kernel) rfl (Or.inl rfl)))) (fun _ _ _ _ _ _ _=>sts_nil) (fun _ _ _ _ _ _ _=>(scl T.kaG (z6l T) hr (s1 (sv 0)))))
 (ss_cons (sst 5 z3Q.nd (se_lst rfl (s1 (scl T.kaG (z6l T) hr (s1 (scl T.kav (z52 T) hr (s3 (sv 2) (sc0 z00) (sc0 z00))))))))
 (ss_cons (sst 6 z3Q.nd (se_ctS rfl PySem.F.slot_str_join PySem.F.type_str_join (z1v rfl) (sc0 z0a) (s1 (sv 4))))
 (ss_cons (ss_for PassesOwn.never rfl (si_rng1 rfl T.n_range (s1 (sc0 z00))) (sgn 7 z3Q.nd) (ss_cons (sst 8 z3Q.nd (scl T.kaB (z0g T) hr (s2 (sv 2) (se_add rfl (se_cb rfl (z2U rfl) rfl T.n_len PyProof.Rows.Boot.«len» (s1 (sv 6))) (sc0 z00)))))
 (ss_cons (ss_if (sb_cmp z4Q (se_ct rfl (z1u rfl hr.gd h64) rfl T.n_str PyProof.Rows.Boot.«str» (s1 (scl T.kar (z1m T) hr (s1 (se_sliceS rfl (sv 6) so_none (so_some (sv 8))))))) (se_ct rfl (z1u rfl hr.gd h64) rfl T.n_str PyProof.Rows.Boot.«str» (s1 (se_slice rfl (sv 3) so_none (so_some (se_ctS rfl PySem.F.slot_str_count PySem.F.type_str_count zgj (se_sliceS rfl (sv 6) so_none (so_some (sv 8))) (s1 (sc0 z0a))))))) (z0b _)) (ss_one (ss_ret (sc0 z3v))) ss_nil)
 (ss_one (ss_if (sb_not (sb_truth rfl (scl T.kaz (z4i T) hr (s1 (scl T.kaF (zae T) hr (s3 (sv 2) (sv 4) (sv 5))))))) (ss_one (ss_ret (sc0 z3v))) ss_nil)))))
 (ss_one (ss_if (SW.sb (sw_or (sb_not (sb_truth rfl (scl T.kaz (z4i T) hr (s1 (se_add rfl (se_mulS rfl (sxc (sv 5) z00) (sc0 z00)) (se_ctS rfl PySem.F.slot_str_join PySem.F.type_str_join (z1v rfl) (sc0 z0a) (s1 (sv 4)))))))) (sw_or1 (sb_not (sb_truth rfl (scl T.kaz (z4i T) hr (s1 (se_mulS rfl (sxc (sv 5) z00) (sc0 z00))))))))) (ss_one (ss_ret (sc0 z3v))) ss_nil)))))))))
 (ss_one (ss_ret (se_and (se_cmp (z5m rfl h64) (scl T.kar (z1m T) hr (s1 (sc0 z0a))) (se_lst rfl (sa_of rfl .nil)) (z0b _)) (se_one (se_cmp (z5m rfl h64) (scl T.kar (z1m T) hr (s1 (sc0 z0a))) (se_lst rfl (sa_of rfl .nil)) (z0b _)))))))
end
end My
namespace Mi
open PySem L2
theorem z0z{α:Type}(xs ys:List α)(k:Nat)(h:xs.length=k):(xs++ys).drop k=ys:=by subst h;simp
theorem z1W{α:Type}(xs ys:List α)(k:Nat)(h:xs.length=k):(xs++ys).take k=xs:=by subst h;simp
theorem z1O: ∀ds:List D,z09 (ds.map some)=some ds
 |[]=>rfl
 |d::ds=>by simp[z09,z1O ds]
theorem z98{me:M D}{g:D->D}{ds:List D}{fr σ0 tm0:List (Option D)}{ol:Nat}(hol:σ0.length=ol)(hz:ds.length<sizeLine)
 (hme: ∀d∈ds,∀tm n,∃n',n<=n'/\me ⟨some d::fr,tm,n⟩= .ok (g d) ⟨some d::fr,tm,n'⟩):
 ∀(f i:Nat) (o:Option D) (n:Nat),i+f=ds.length->∃n',n<=n'/\z1o kTup (.nm 0) (rt true) me ol f i i ⟨o::fr,(((ds.take i).map g).reverse.map some)++(σ0++(some (.tup ds)::tm0)),n⟩= .ok (.lst n' (ds.map g)) ⟨σ0,tm0,n'+1⟩:=by
 intro f
 induction f with
 |zero=>
  intro i o n hi
  have hi:i=ds.length:=by lia
  subst hi
  refine⟨n,Nat.le_refl _, ?_⟩
  have l1:(((ds.take ds.length).map g).reverse.map some).length=ds.length:=by simp
  unfold z1o
  have e1:(((((ds.take ds.length).map g).reverse.map some)++(σ0++(some (D.tup ds)::tm0))).drop (ds.length+ol))=some (D.tup ds)::tm0:=by
   rw[<-List.append_assoc];exact z0z _ _ _ (by simp[hol])
  simp only[e1,kTup,zbB,List.getElem?_eq_none (Nat.le_refl ds.length)]
  rw[z1W _ _ _ l1]
  have e2:(((ds.take ds.length).map g).reverse.map some).reverse=(ds.map g).map some:=by simp
  rw[e2,z1O]
  simp only[Res.ok.injEq,true_and,Stt.mk.injEq,and_true]
  constructor
  ·rw[z0z _ _ _ l1,z1W _ _ _ hol]
  ·rw[<-List.append_assoc]
   have:(((((ds.take ds.length).map g).reverse.map some)++σ0)++(some (D.tup ds)::tm0)).drop (ds.length+ol+1)=((((((ds.take ds.length).map g).reverse.map some)++σ0)++(some (D.tup ds)::tm0)).drop (ds.length+ol)).drop 1:=by rw[List.drop_drop]
   rw[this,z0z _ _ _ (by simp[hol])]
   rfl
 |succ f ih=>
  intro i o n hi
  have hlt:i<ds.length:=by lia
  have l1:(((ds.take i).map g).reverse.map some).length=i:=by simp;lia
  unfold z1o
  have e1:(((((ds.take i).map g).reverse.map some)++(σ0++(some (D.tup ds)::tm0))).drop (i+ol))=some (D.tup ds)::tm0:=by
   rw[<-List.append_assoc];exact z0z _ _ _ (by simp[hol];lia)
  simp only[e1,kTup,zbB,List.getElem?_eq_getElem hlt,asg,List.set_cons_zero,rt]
  rw[if_pos (by lia)]
  obtain⟨n1,hn1,h1⟩:=hme ds[i] (List.getElem_mem hlt) ((((ds.take i).map g).reverse.map some)++(σ0++(some (D.tup ds)::tm0))) n
  rw[h1]
  obtain⟨n2,hn2,h2⟩:=ih (i+1) (some ds[i]) n1 (by lia)
  refine⟨n2,by lia, ?_⟩
  rw[<-h2]
  simp only[Stt.psh]
  have e3:ds.take (i+1)=ds.take i++[ds[i]]:=by rw[List.take_add_one,List.getElem?_eq_getElem hlt];rfl
  rw[e3]
  simp only[List.map_append,List.map_cons,List.map_nil,List.reverse_append,List.reverse_cons,List.reverse_nil,List.nil_append,List.cons_append]
  rfl
theorem z75{mc me:M D}{g:D->D}{ds:List D}{ix:List Nat}{s s1:Stt}(hc:mc s= .ok (.tup ds) s1)(hz:ds.length<sizeLine)
 (hme: ∀d∈ds,∀tm n,∃n',n<=n'/\me ⟨some d::(ix.map fun i=>(s1.σ[i]?).getD none),tm,n⟩= .ok (g d) ⟨some d::(ix.map fun i=>(s1.σ[i]?).getD none),tm,n'⟩):
 ∃n',s1.n<=n'/\z0D (z0l mc) (.nm 0) (rt true) me 1 ix s= .ok (.lst n' (ds.map g)) {s1 with n:=n'+1}:=by
 obtain⟨n',h1,h2⟩:=z98 (me:=me) (g:=g) (ds:=ds) (σ0:=s1.σ) (tm0:=s1.tm) rfl hz hme ds.length 0 none s1.n (by lia)
 refine⟨n',h1, ?_⟩
 unfold z0D z0l
 simp only[bd,hc,Stt.psh]
 simp only[List.take_zero,List.map_nil,List.reverse_nil,List.nil_append] at h2
 simp only[kTup,z4n,z8c,List.replicate] at h2⊢
 exact h2
theorem z54(ds:List D)(g:D->Bool):z2S (ds.map fun d=> .bool (g d))=some (ds.map g):=by
 induction ds with
 |nil=>rfl
 |cons d ds ih=>simp[z2S,ih]
theorem z99{t:D}{ts:List D}{n':Nat}{s:Stt}:z4u (.ok t ts n') ts s= .ok t {s with n:=n'}:=by
 unfold z4u;simp
end Mi
set_option maxHeartbeats 40000
namespace Mi
open PySem L2
class Kq{α:Type}(f:α):Type where
instance kq{α:Type}(f:α):Kq f:=⟨⟩
noncomputable def Res.bnd{α β:Type}(f:α->Stt->Res β)[Kq f](r:Res α):Res β:=match r with
 | .ok a s=>f a s
 | .ex d s=> .ex d s
 | .no=> .no
theorem z3T{α β:Type}{a:α}{s:Stt}{f:α->Stt->Res β}:((Res.ok a s).bnd f:Res β)=f a s:=(rfl)
noncomputable def Res.lf{α:Type}(f:α->MS)[Kq f](r:Res α):RS:=match r with
 | .ok a s=>f a s
 | .ex d s=> .ex d s
 | .no=> .no
theorem ziv{α:Type}{a:α}{s:Stt}{f:α->MS}:((Res.ok a s).lf f:RS)=f a s:=(rfl)
noncomputable def RS.sq(m:MS)[Kq m](r:RS):RS:=match r with
 | .nx s=>m s
 |r=>r
theorem ziw{s:Stt}{m:MS}:((RS.nx s).sq m:RS)=m s:=(rfl)
theorem zix{d:D}{s:Stt}{m:MS}:((RS.rt d s).sq m:RS)= .rt d s:=(rfl)
noncomputable def RS.fin(r:RS):RF:=match r with
 | .nx s'=>match z09 s'.tm with|some ts'=> .ok .non ts' s'.n|none=> .no
 | .rt t s'=>match z09 s'.tm with|some ts'=> .ok t ts' s'.n|none=> .no
 | .ex d s'=>match z09 s'.tm with|some ts'=> .ex d ts' s'.n|none=> .no
 |_=> .no
noncomputable def finO(o:Option (List D))(t:D)(n:Nat):RF:=match o with|some ts=> .ok t ts n|none=> .no
theorem zaf{ts:List D}{t:D}{n:Nat}:finO (some ts) t n= .ok t ts n:=(rfl)
theorem ziy{t:D}{σ tm:List (Option D)}{n:Nat}:(RS.rt t ⟨σ,tm,n⟩).fin=finO (z09 tm) t n:=(rfl)
theorem ziz{nl:Nat}{mb:MS}{ts:List D}{n:Nat}:runF nl mb ts n=(mb ⟨ts.map some++List.replicate (nl -ts.length) none,ts.map some,n⟩).fin:=(rfl)
section
variable{α β:Type}{m ma mb mc:M D}{s:Stt}{ms:List (M D)}{σ tm:List (Option D)}{n:Nat}
theorem x_bd{m:M α}{f:α->M β}:bd m f s=(m s).bnd f:=(rfl)
theorem x_rt{a:α}:rt a s= .ok a s:=(rfl)
theorem zgo{t:D}:Stt.psh ⟨σ,tm,n⟩ t=⟨σ,some t::tm,n⟩:=(rfl)
theorem ziA:Stt.nxt ⟨σ,tm,n⟩=⟨σ,tm,n+1⟩:=(rfl)
theorem ziB{t:D}{r:List (Option D)}:pop ⟨σ,some t::r,n⟩= .ok t ⟨σ,r,n⟩:=(rfl)
noncomputable def vOf(o:Option (Option D))(s:Stt):Res D:=match o with
 |some (some t)=> .ok t s
 |_=> .no
theorem zbU{t:D}:vOf (some (some t)) s= .ok t s:=(rfl)
theorem ziC{i:Nat}:mVar i ⟨σ,tm,n⟩=vOf (σ[i]?) ⟨σ,tm,n⟩:=by
 unfold mVar vOf
 cases σ[i]? with
 |none=>rfl
 |some o=>cases o<;>rfl
theorem x_C{d:D}:mC d s= .ok d s:=(rfl)
theorem ze2{g:D->D->M D}:mBin ma mb g s=(ma s).bnd fun x s1=>(mb (s1.psh x)).bnd fun y s2=>(pop s2).bnd fun x' s3=>g x' y s3:=(rfl)
theorem ziD:mBoo m s=(m s).bnd booD:=(rfl)
theorem zgp{b:Bool}:booD (.bool b) s= .ok b s:=(rfl)
theorem zgq:z0J m s=(m s).bnd truD:=(rfl)
theorem x_tB{b:Bool}:truD (.bool b) s= .ok b s:=(rfl)
theorem ziE{m m':M Bool}:mAnd m m' s=(m s).bnd fun b=>iteM b m' (rt false):=(rfl)
theorem x_or{m m':M Bool}:mOr m m' s=(m s).bnd fun b=>iteM b (rt true) m':=(rfl)
theorem ziF{m:M Bool}:mNot m s=(m s).bnd fun b s1=> .ok (!b) s1:=(rfl)
theorem zgr{m m':M D}:z5j m m' s=(m s).bnd fun d s1=>(booD d s1).bnd fun b=>iteM b m' (rt (.bool false)):=by
 unfold z5j mBoo bd Res.bnd
 cases m s<;>rfl
theorem zgs{m:M D}:z9O m s=(m s).bnd fun d s1=>(booD d s1).bnd fun b=>rt (.bool (!b)):=by
 unfold z9O mBoo bd Res.bnd
 cases m s<;>rfl
theorem ziG{c:M Bool}{m m':M D}:mIf c m m' s=(c s).bnd fun b=>iteM b m m':=(rfl)
theorem x_it{m m':M α}:iteM true m m' s=m s:=(rfl)
theorem x_if{m m':M α}:iteM false m m' s=m' s:=(rfl)
theorem ze3:z03 [] s= .ok [] s:=(rfl)
theorem z4j:z03 (m::ms) s=(m s).bnd fun x s1=>(z03 ms (s1.psh x)).bnd fun ys s2=>(pop s2).bnd fun x' s3=> .ok (x'::ys) s3:=(rfl)
theorem x_cb{g:List D->M D}:mCB ms g s=(z03 ms s).bnd g:=(rfl)
theorem zgt{f:FM}:mCall f ms s=(z03 ms s).bnd fun ts s1=>z4u (f ts s1.n) ts s1:=(rfl)
noncomputable def isiK(o:Option Bool)(s:Stt):Res D:=match o with
 |some b=> .ok (.bool b) s
 |none=> .no
theorem zag{b:Bool}:isiK (some b) s= .ok (.bool b) s:=(rfl)
theorem ziH{T:String}:mIsi T m s=(m s).bnd fun d s1=>isiK (isiD T d) s1:=by
 unfold mIsi bd Res.bnd isiK
 cases m s with
 |ok d s1=>dsimp only;cases isiD T d<;>rfl
 |ex d s1=>rfl
 |no=>rfl
theorem zah{g g':D->D->M D}:z0C ma mb mc g g' s=(ma s).bnd fun x s1=>(mb (s1.psh x)).bnd fun y s2=>(pop s2).bnd fun x' s3=>z8W y (bd (mBoo (g x' y)) fun k=>iteM k (bd mc fun z=>g' y z) (rt (.bool false))) s3:=(rfl)
theorem ziI{i:Int}{m:M D}:z8W (.int i) m s=m s:=(rfl)
noncomputable def intK(o:Option Int)(s:Stt):Res (Option Int):=match o with
 |some i=> .ok (some i) s
 |none=> .no
theorem zai{i:Int}:intK (some i) s= .ok (some i) s:=(rfl)
theorem ze4:z3k none s= .ok none s:=(rfl)
theorem ze5:z3k (some m) s=(m s).bnd fun d s1=>intK (mInt d) s1:=by
 show bd m (fun d=>match mInt d with|some i=>rt (some i)|none=>fl) s=_
 unfold bd Res.bnd
 cases m s with
 |ok d s1=>show(match mInt d with|some i=>rt (some i)|none=>fl:M (Option Int)) s1=intK (mInt d) s1;cases mInt d<;>rfl
 |ex d s1=>rfl
 |no=>rfl
theorem zgu{i:Int}:mInt (.int i)=some i:=(rfl)
theorem x_sl{lo hi:Option (M D)}:mSl m lo hi s=(m s).bnd fun x s1=>(z3k lo (s1.psh x)).bnd fun l s2=>(z3k hi s2).bnd fun h s3=>(pop s3).bnd fun x' s4=>slD x' l h s4:=(rfl)
theorem zgv{i j:Int}:addD (.int i) (.int j) s= .ok (.int (i+j)) s:=(rfl)
theorem zaj{a b:List D}(h:a.length+b.length<=sizeLine):addD (.tup a) (.tup b) s= .ok (.tup (a++b)) s:=by simp only[addD,if_pos h];rfl
theorem z4q{k l:Nat}{a b:List D}(h:a.length+b.length<=sizeLine):addD (.lst k a) (.lst l b) s= .ok (.lst s.n (a++b)) s.nxt:=by simp only[addD,if_pos h];rfl
theorem ziJ{i j:Int}:subD (.int i) (.int j) s= .ok (.int (i -j)) s:=(rfl)
theorem z7L{i j:Int}(h:CMul i j):mulD (.int i) (.int j) s= .ok (.int (i*j)) s:=by simp only[mulD,if_pos h];rfl
theorem zcv{i j:Int}(h:CDiv i j):z6R (.int i) (.int j) s= .ok (.int (i/j)) s:=by simp only[z6R,if_pos h];rfl
theorem z55{i j:Int}(h:0<j):modD (.int i) (.int j) s= .ok (.int (i %j)) s:=by simp only[modD,if_pos h];rfl
theorem ze6{i j:Int}(h:CPow i j):powD (.int i) (.int j) s= .ok (.int (i^j.toNat)) s:=by simp only[powD,if_pos h];rfl
theorem y_lt{i j:Int}:ltD (.int i) (.int j) s= .ok (.bool (decide (i<j))) s:=(rfl)
theorem y_le{i j:Int}:leD (.int i) (.int j) s= .ok (.bool (decide (i<=j))) s:=(rfl)
theorem y_gt{i j:Int}:gtD (.int i) (.int j) s= .ok (.bool (decide (j<i))) s:=(rfl)
theorem ziK{i:Int}:negD (.int i) s= .ok (.int (-i)) s:=(rfl)
theorem y_eq{t t':D}(h:eqC t t'=true):eqD t t' s= .ok (.bool (PyData.eqv (er t) (er t'))) s:=by simp only[eqD,if_pos h];rfl
theorem y_ne{t t':D}(h:eqC t t'=true):neD t t' s= .ok (.bool (!PyData.eqv (er t) (er t'))) s:=by simp only[neD,if_pos h];rfl
theorem y_in{t t':D}{ds:List D}(e:seqD t'=some ds)(h:inC t ds=true):inD t t' s= .ok (.bool ((erL ds).any fun y=>PyData.eqv y (er t))) s:=by simp only[inD,e,if_pos h];rfl
theorem ziL{t t':D}{ds:List D}(e:seqD t'=some ds)(h:inC t ds=true):ninD t t' s= .ok (.bool (!(erL ds).any fun y=>PyData.eqv y (er t))) s:=by simp only[ninD,e,if_pos h];rfl
theorem ziM{ds:List D}{i:Int}:ixD (.tup ds) (.int i) s=optM (atI ds i) s:=(rfl)
theorem ziN{l:Nat}{ds:List D}{i:Int}:ixD (.lst l ds) (.int i) s=optM (atI ds i) s:=(rfl)
theorem ziO{ds:List D}{i:Int}:ixD (.ro ds) (.int i) s=optM (atI ds i) s:=(rfl)
theorem ziP{d:D}:optM (some d) s= .ok d s:=(rfl)
theorem ziQ{l:Nat}{ds:List D}{lo hi:Option Int}:slD (.lst l ds) lo hi s= .ok (.lst s.n (cutA ds lo hi)) s.nxt:=(rfl)
theorem zak{ts:List D}(h:ts.length<=sizeLine):tupD ts s= .ok (.tup ts) s:=by simp only[tupD,if_pos h];rfl
theorem zal{ts:List D}(h:ts.length<=sizeLine):lstM ts s= .ok (.lst s.n ts) s.nxt:=by simp only[lstM,if_pos h];rfl
theorem zgw{ds:List D}:lenD [.tup ds] s= .ok (.int ds.length) s:=(rfl)
theorem zgx{l:Nat}{ds:List D}:lenD [.lst l ds] s= .ok (.int ds.length) s:=(rfl)
theorem zgy{ds:List D}:lenD [.ro ds] s= .ok (.int ds.length) s:=(rfl)
theorem ziR{i:Int}:absD [.int i] s= .ok (.int (if i<0 then -i else i)) s:=(rfl)
theorem ziS{i j:Int}:minD [.int i, .int j] s= .ok (.int (if j<i then j else i)) s:=(rfl)
theorem ziT{i j:Int}:maxD [.int i, .int j] s= .ok (.int (if j>i then j else i)) s:=(rfl)
theorem zgz{b:Bool}:intD [.bool b] s= .ok (.int (if b then 1 else 0)) s:=(rfl)
theorem zgA{l:Nat}{ds:List D}:tupF [.lst l ds] s= .ok (.tup ds) s:=(rfl)
theorem ze7{ds:List D}:z5k [.tup ds] s= .ok (.lst s.n ds) s.nxt:=(rfl)
theorem ze8{l:Nat}{ds:List D}{bs:List Bool}(h:z2S ds=some bs):allD [.lst l ds] s= .ok (.bool (bs.all id)) s:=by simp only[allD,h];rfl
theorem ziU{a b:MS}:seqS a b s=(a s).sq b:=by
 unfold seqS RS.sq
 cases a s<;>rfl
theorem ziV:sNx s= .nx s:=(rfl)
theorem zgB:sRet m s=(m s).lf fun d s1=> .rt d s1:=(rfl)
theorem ze9:z2n m s=(m s).lf fun _ s1=> .nx s1:=(rfl)
theorem ziW{c:M Bool}{a b:MS}:sIf c a b s=(c s).lf fun k=>iteS k a b:=(rfl)
theorem x_sT{a b:MS}:iteS true a b s=a s:=(rfl)
theorem x_sF{a b:MS}:iteS false a b s=b s:=(rfl)
noncomputable def asgK(o:Option (List (Option D)))(s:Stt):RS:=match o with
 |some σ'=> .nx {s with σ:=σ'}
 |none=> .no
theorem zam{σ':List (Option D)}:asgK (some σ') ⟨σ,tm,n⟩= .nx ⟨σ',tm,n⟩:=(rfl)
theorem zgC{g:Tg}:sAsg g m s=(m s).lf fun d s1=>asgK (asg g d s1.σ) s1:=by
 unfold sAsg lift Res.lf asgK
 cases m s with
 |ok d s1=>first|(dsimp only;cases asg g d s1.σ<;>rfl)|(dsimp only;done)|rfl
 |ex d s1=>rfl
 |no=>rfl
theorem ziX{me mo mi:M D}{g:D->D->D->MS}:mTri me mo mi g s=(me s).lf fun v s1=>(mo (s1.psh v)).lf fun o s2=>(mi (s2.psh o)).lf fun i s3=>(pop s3).lf fun o' s4=>(pop s4).lf fun v' s5=>g o' i v' s5:=(rfl)
theorem zgD{l:Nat}{ds:List D}{k:Int}{v:D}{j:Nat}(e:ixN ds.length k=some j)(h:l∉labs v):setD (.lst l ds) (.int k) v s= .nx (s.put l (.lst l (ds.set j v))):=by simp only[setD,e,if_pos h]
theorem zgE{mo:M D}{g:D->List D->M D}:z26 mo ms g s=(mo s).bnd fun x s1=>(isL x s1).bnd fun _ s2=>(z03 ms (s2.psh x)).bnd fun ys s3=>(pop s3).bnd fun x' s4=>g x' ys s4:=(rfl)
theorem ziY{l:Nat}{ds:List D}:isL (.lst l ds) s= .ok () s:=(rfl)
theorem z7M{l:Nat}{ds:List D}{y:D}(h:ds.length<sizeLine/\l∉labs y):appD (.lst l ds) [y] s= .ok .non (s.put l (.lst l (ds++[y]))):=by simp only[appD,if_pos h]
end
theorem z76{α:Type}{xs:List α}{i:Int}{d:α}(h0:0<=i)(h:xs[i.toNat]? =some d):atI xs i=some d:=by
 obtain⟨j,rfl⟩:=Int.eq_ofNat_of_zero_le h0
 exact zdq (by simpa using h)
end Mi
set_option maxHeartbeats 400000
namespace Mi
open PySem L2
noncomputable def pl(l:Nat)(d:D):Nat->Option D:=fun k=>if k=l then some d else none
theorem zgF{σ tm:List (Option D)}{n l:Nat}{d:D}:Stt.put ⟨σ,tm,n⟩ l d=⟨rpO (pl l d) σ,rpO (pl l d) tm,n⟩:=(rfl)
theorem z8n{l:Nat}{d t:D}(h:l∉labs t):rp (pl l d) t=t:=zdA t fun k hk=>by
 unfold pl;rw[if_neg];intro e;subst e;exact h hk
theorem zea{f:Nat->Option D}:rpO f []=[]:=(rfl)
theorem zbV{f:Nat->Option D}{r:List (Option D)}:rpO f (none::r)=none::rpO f r:=(rfl)
theorem zbW{f:Nat->Option D}{d:D}{r:List (Option D)}:rpO f (some d::r)=some (rp f d)::rpO f r:=(rfl)
theorem zgG{l:Nat}{d:D}{b:List D}:rp (pl l d) (.lst l b)=d:=by simp only[rp,pl,if_true]
theorem zan{f:Nat->Option D}{i:Int}:rp f (.int i)= .int i:=(rfl)
theorem zao{f:Nat->Option D}{i:Str}:rp f (.str i)= .str i:=(rfl)
theorem zap{f:Nat->Option D}{i:Bool}:rp f (.bool i)= .bool i:=(rfl)
theorem z8o{f:Nat->Option D}{ds:List D}:rp f (.tup ds)= .tup (rpL f ds):=(rfl)
theorem z6o{f:Nat->Option D}:rpL f []=[]:=(rfl)
theorem z2J{f:Nat->Option D}{d:D}{ds:List D}:rpL f (d::ds)=rp f d::rpL f ds:=(rfl)
mutual
theorem z9a{l:Nat}: ∀t:D,l∉labs t->z0e l t=none
 | .non,_=>rfl
 | .bool _,_=>rfl
 | .int _,_=>rfl
 | .str _,_=>rfl
 | .exc _,_=>rfl
 | .fn _,_=>rfl
 | .tup ds,h=>by simp only[labs] at h;simp only[z0e];exact findL_none ds h
 | .ro ds,h=>by simp only[labs] at h;simp only[z0e];exact findL_none ds h
 | .fdc ks ds,h=>by simp only[labs] at h;simp only[z0e];exact findL_none ds h
 | .lst k ds,h=>by
  simp only[labs,List.mem_cons,not_or] at h;simp only[z0e];rw[if_neg fun e=>h.1 e.symm];exact findL_none ds h.2
 | .dct k ks ds,h=>by
  simp only[labs,List.mem_cons,List.mem_append,not_or] at h;simp only[z0e];rw[if_neg fun e=>h.1 e.symm];exact findL_none ds h.2.2
 | .obj k c ks ds,h=>by
  simp only[labs,List.mem_cons,not_or] at h;simp only[z0e];rw[if_neg fun e=>h.1 e.symm];exact findL_none ds h.2
theorem findL_none{l:Nat}: ∀t:List D,l∉labsL t->findL l t=none
 |[],_=>rfl
 |d::ds,h=>by
  simp only[labsL,List.mem_append,not_or] at h
  simp only[findL,z9a d h.1,findL_none ds h.2]
end
theorem z56{t:D}{l n' n:Nat}{b b' r:List D}{σ tm:List (Option D)}(hb:labsL b=[])(hb':labsL b'=[])(hr:labsL r=[])(f1:rpO (pl l (.lst l b)) σ=σ)(f2:rpO (pl l (.lst l b)) tm=tm):
 z4u (.ok t (.lst l b'::r) n') (.lst l b::r) ⟨σ,tm,n⟩= .ok t ⟨rpO (pl l (.lst l b')) σ,rpO (pl l (.lst l b')) tm,n'⟩:=by
 have e:(fun k=>findL k (.lst l b'::r))=pl l (.lst l b'):=by
  funext k
  simp only[findL,z0e,pl]
  by_cases h:l=k
  ·subst h;rw[if_pos rfl,if_pos rfl]
  ·rw[if_neg h,if_neg fun q=>h q.symm,findL_none b' (by rw[hb'];exact List.not_mem_nil),findL_none r (by rw[hr];exact List.not_mem_nil)]
 unfold z4u
 by_cases h:(D.lst l b'::r)=(D.lst l b::r)
 ·have hh:b'=b:=by injection h with h _;injection h
  subst hh
  simp only[if_true]
  rw[f1,f2]
 ·simp only[if_neg h]
  rw[if_pos,e]
  intro k _ hk
  simp only[labsL,labs,hb,hr,List.append_nil,List.mem_singleton] at hk
  subst hk
  have:=congrFun e k
  rw[show findL k (D.lst k b'::r)=pl k (D.lst k b') k from this];simp[pl]
theorem ziZ{mi:M ItK}{g:Tg}{b:MS}{s:Stt}:sFor mi g b s=(mi s).lf fun K s=>forGo K g b (K.len s.tm) 0 s:=(rfl)
theorem zcw{ms:List (M D)}{s:Stt}:z2Q ms s=(z03 ms s).bnd rng1:=(rfl)
theorem z57{j:Int}{s:Stt}(h: -(2^62)<=j/\j<2^62):rng1 [.int j] s= .ok (kRng 0 j.toNat) s:=by simp only[rng1,if_pos h];rfl
theorem zgH{lo:Int}{N:Nat}{tm:List (Option D)}:(kRng lo N).len tm=N:=(rfl)
theorem z58{P:Nat->Stt->Prop}{lo:Int}{N:Nat}{g:Tg}{b:MS}
 (body: ∀i,i<N->∀s,P i s->∃σ',asg g (.int (lo+i)) s.σ=some σ'/\∃s',b {s with σ:=σ'}= .nx s'/\P (i+1) s'):
 ∀(f i:Nat) (s:Stt),i+f=N->P i s->∃s',forGo (kRng lo N) g b f i s= .nx s'/\P N s':=by
 intro f
 induction f with
 |zero=>
  intro i s hi h
  have e:i=N:=by lia
  subst e
  refine⟨s, ?_,h⟩
  unfold forGo
  simp only[kRng,Nat.lt_irrefl,if_false]
  rfl
 |succ f ih=>
  intro i s hi h
  have hl:i<N:=by lia
  obtain⟨σ',e1,s',e2,h'⟩:=body i hl s h
  obtain⟨s2,e3,h2⟩:=ih (i+1) s' (by lia) h'
  refine⟨s2, ?_,h2⟩
  unfold forGo
  simp only[kRng,if_pos hl,e1,e2]
  exact e3
mutual
theorem zgI{l:Nat}{b:List D}{d:D}: ∀t:D,rp (pl l d) (rp (pl l (.lst l b)) t)=rp (pl l d) t
 | .non=>rfl
 | .bool _=>rfl
 | .int _=>rfl
 | .str _=>rfl
 | .exc _=>rfl
 | .fn _=>rfl
 | .tup ds=>by simp only[rp];rw[rpL_rp ds]
 | .ro ds=>by simp only[rp];rw[rpL_rp ds]
 | .fdc ks ds=>by simp only[rp];rw[rpL_rp ds]
 | .lst k ds=>by
  by_cases h:k=l
  ·subst h;simp only[rp,pl,if_true]
  ·have e: ∀x,pl l x k=none:=fun x=>by simp only[pl,if_neg h]
   simp only[rp,e];rw[rpL_rp ds]
 | .dct k ks ds=>by
  by_cases h:k=l
  ·subst h;simp only[rp,pl,if_true]
  ·have e: ∀x,pl l x k=none:=fun x=>by simp only[pl,if_neg h]
   simp only[rp,e];rw[rpL_rp ds]
 | .obj k c ks ds=>by
  by_cases h:k=l
  ·subst h;simp only[rp,pl,if_true]
  ·have e: ∀x,pl l x k=none:=fun x=>by simp only[pl,if_neg h]
   simp only[rp,e];rw[rpL_rp ds]
theorem rpL_rp{l:Nat}{b:List D}{d:D}: ∀t:List D,rpL (pl l d) (rpL (pl l (.lst l b)) t)=rpL (pl l d) t
 |[]=>rfl
 |t::ts=>by simp only[rpL];rw[zgI t,rpL_rp ts]
end
theorem z77{l:Nat}{b:List D}{d:D}: ∀t:List (Option D),rpO (pl l d) (rpO (pl l (.lst l b)) t)=rpO (pl l d) t
 |[]=>rfl
 |none::ts=>by simp only[rpO];rw[z77 ts]
 |some t::ts=>by simp only[rpO];rw[zgI t,z77 ts]
theorem z59{f:Nat->Option D}: ∀(a b:List (Option D)),rpO f (a++b)=rpO f a++rpO f b
 |[],b=>rfl
 |none::a,b=>by simp only[List.cons_append,rpO,z59 a b]
 |some d::a,b=>by simp only[List.cons_append,rpO,z59 a b]
theorem z6p{f:Nat->Option D}: ∀(a:List (Option D)),(rpO f a).length=a.length
 |[]=>rfl
 |none::a=>by simp only[rpO,List.length_cons,z6p a]
 |some d::a=>by simp only[rpO,List.length_cons,z6p a]
theorem z78: ∀ds:List D,z04 (ds.map some)=labsL ds
 |[]=>rfl
 |d::ds=>by simp only[List.map_cons,z04,labsL,z78 ds]
theorem z5a: ∀a b:List D,labsL (a++b)=labsL a++labsL b
 |[],b=>rfl
 |d::ds,b=>by simp only[List.cons_append,labsL,z5a ds b,List.append_assoc]
theorem zaq{l:Nat}: ∀ds:List D,l∈labsL ds.reverse↔l∈labsL ds
 |[]=>Iff.rfl
 |d::ds=>by simp only[List.reverse_cons,z5a,labsL,List.mem_append,zaq ds,List.append_nil];exact Or.comm
theorem z79{l:Nat}{d:D}{ds:List D}(h:l∉labsL ds):rpO (pl l d) (ds.reverse.map some)=ds.reverse.map some:=z9J _ fun k hk=>by
 rw[z78,zaq] at hk
 unfold pl;rw[if_neg];intro e;subst e;exact h hk
theorem z9b{me:M D}{N:Nat}{cap σ0 tm0:List (Option D)}{l ol:Nat}{Bg:List D->Prop}{Q:Nat->D->Prop}(mono: ∀a b,a<=b->∀y,Q a y->Q b y)(hol:σ0.length=ol)(hz:N<sizeLine)
 (hme: ∀i,i<N->∀b tm n,Bg b->l<n->rpO (pl l (.lst l b)) tm=tm->∃y b' n',Bg b'/\Q n' y/\n<=n'/\l∉labs y/\me ⟨some (.int (0+(i:Nat)))::rpO (pl l (.lst l b)) cap,tm,n⟩= .ok y ⟨some (.int (0+(i:Nat)))::rpO (pl l (.lst l b')) cap,rpO (pl l (.lst l b')) tm,n'⟩):
 ∀(f:Nat) (acc:List D) (o:Option D) (b:List D) (n:Nat),acc.length+f=N->Bg b->l<n->(∀y∈acc,Q n y)->l∉labsL acc->
  ∃ys b' n',ys.length=N/\(∀y∈ys,Q n' y)/\l∉labsL ys/\Bg b'/\n<=n'/\
   z1o (kRng 0 N) (.nm 0) (rt true) me ol f acc.length acc.length ⟨o::rpO (pl l (.lst l b)) cap,(acc.reverse.map some)++(rpO (pl l (.lst l b)) σ0++rpO (pl l (.lst l b)) tm0),n⟩= .ok (.lst n' ys) ⟨rpO (pl l (.lst l b')) σ0,rpO (pl l (.lst l b')) tm0,n'+1⟩:=by
 intro f
 induction f with
 |zero=>
  intro acc o b n hi hb hn hq hf
  have hi:acc.length=N:=by lia
  refine⟨acc,b,n,hi,hq,hf,hb,Nat.le_refl _, ?_⟩
  have l1:(acc.reverse.map some).length=acc.length:=by simp
  unfold z1o
  simp only[kRng,hi,Nat.lt_irrefl,if_false]
  rw[<-hi,z1W _ _ _ l1]
  have e2:(acc.reverse.map some).reverse=acc.map some:=by simp
  rw[e2,z1O]
  simp only[Res.ok.injEq,true_and,Stt.mk.injEq,and_true]
  constructor
  ·rw[z0z _ _ _ l1,z1W _ _ _ (by rw[z6p];exact hol)]
  ·rw[<-List.append_assoc,Nat.add_zero]
   exact z0z _ _ _ (by simp[z6p,hol])
 |succ f ih=>
  intro acc o b n hi hb hn hq hf
  have hlt:acc.length<N:=by lia
  unfold z1o
  simp only[kRng,if_pos hlt,asg,List.set_cons_zero,rt]
  rw[if_pos (by lia)]
  obtain⟨y,b',n',h1,h2,h3,h4,h5⟩:=hme acc.length hlt b ((acc.reverse.map some)++(rpO (pl l (.lst l b)) σ0++rpO (pl l (.lst l b)) tm0)) n hb hn (by rw[z59,z59,z77,z77,z79 hf])
  rw[h5]
  obtain⟨ys,b2,n2,g1,g2,g3,g4,g5,g6⟩:=ih (acc++[y]) (some (.int (0+(acc.length:Nat)))) b' n' (by simp;lia) h1 (by lia) (by
   intro z hz
   rcases List.mem_append.mp hz with hz|hz
   ·exact mono _ _ h3 z (hq z hz)
   ·rw[List.mem_singleton.mp hz];exact h2) (by
   rw[z5a]
   simp only[labsL,List.append_nil,List.mem_append,not_or]
   exact⟨hf,h4⟩)
  refine⟨ys,b2,n2,g1,g2,g3,g4,by lia, ?_⟩
  rw[<-g6]
  simp only[Stt.psh,z59,z77,z79 hf,List.length_append,List.length_cons,List.length_nil,Nat.zero_add,List.reverse_append,List.reverse_cons,List.reverse_nil,List.nil_append,List.map_append,List.map_cons,List.map_nil,List.cons_append]
  rfl
theorem z7a{ms:List (M D)}{me:M D}{N:Nat}{ix:List Nat}{s:Stt}{l n:Nat}{j:Int}{σ0 tm0:List (Option D)}{b:List D}{Bg:List D->Prop}{Q:Nat->D->Prop}(mono: ∀a b,a<=b->∀y,Q a y->Q b y)(hms:z03 ms s= .ok [.int j] ⟨σ0,tm0,n⟩)(hj:j.toNat=N)(hj': -(2^62)<=j/\j<2^62)(hz:N<sizeLine)
 (hb:Bg b) (hn:l<n) (f1:rpO (pl l (.lst l b)) σ0=σ0) (f2:rpO (pl l (.lst l b)) tm0=tm0) (f3:rpO (pl l (.lst l b)) (ix.map fun i=>(σ0[i]?).getD none)=ix.map fun i=>(σ0[i]?).getD none)
 (hme: ∀i,i<N->∀b tm n,Bg b->l<n->rpO (pl l (.lst l b)) tm=tm->∃y b' n',Bg b'/\Q n' y/\n<=n'/\l∉labs y/\me ⟨some (.int (0+(i:Nat)))::rpO (pl l (.lst l b)) (ix.map fun i=>(σ0[i]?).getD none),tm,n⟩= .ok y ⟨some (.int (0+(i:Nat)))::rpO (pl l (.lst l b')) (ix.map fun i=>(σ0[i]?).getD none),rpO (pl l (.lst l b')) tm,n'⟩):
 ∃ys b' n',ys.length=N/\(∀y∈ys,Q n' y)/\l∉labsL ys/\Bg b'/\n<=n'/\z0D (z2Q ms) (.nm 0) (rt true) me 1 ix s= .ok (.lst n' ys) ⟨rpO (pl l (.lst l b')) σ0,rpO (pl l (.lst l b')) tm0,n'+1⟩:=by
 obtain⟨ys,b',n',h1,h2,h3,h4,h5,h6⟩:=z9b (me:=me) (N:=N) (cap:=ix.map fun i=>(σ0[i]?).getD none) (σ0:=σ0) (tm0:=tm0) (l:=l) (Bg:=Bg) (Q:=Q) mono rfl hz hme N [] none b n (by simp) hb hn (by intro y h;cases h) (by simp[labsL])
 refine⟨ys,b',n',h1,h2,h3,h4,h5, ?_⟩
 unfold z0D
 rw[x_bd,zcw,hms,z3T,z57 hj',z3T,hj]
 rw[f1,f2,f3] at h6
 exact h6
inductive All2(Q:D->D->Prop):List D->List D->Prop
 |nil:All2 Q [] []
 |cons {a b:D} {as bs:List D}:Q a b->All2 Q as bs->All2 Q (a::as) (b::bs)
theorem z7b{m:M D}{s:Stt}{l:Nat}{ds:List D}{σ tm:List (Option D)}{n:Nat}(h:m s= .ok (.lst l ds) ⟨σ,tm,n⟩):z0l m s= .ok kLst ⟨σ,some (.lst l ds)::tm,n⟩:=by
 unfold z0l;rw[x_bd,h];rfl
theorem z9c{K:ItK}{mt:M Bool}{me:M D}{p:D->Bool}{g:D->D}{items:List D}{its fr σ0 tm0:List (Option D)}{ol:Nat}(hk:its.length=K.k)(hol:σ0.length=ol)(hz:items.length<sizeLine)(hat: ∀i rest,K.at' i (its++rest)=some items[i]?)
 (hmt: ∀d∈items,∀tm n,∃n',n<=n'/\mt ⟨some d::fr,tm,n⟩= .ok (p d) ⟨some d::fr,tm,n'⟩)
 (hme: ∀d∈items,p d=true->∀tm n,∃n',n<=n'/\me ⟨some d::fr,tm,n⟩= .ok (g d) ⟨some d::fr,tm,n'⟩):
 ∀(f i:Nat) (acc:List D) (o:Option D) (n:Nat),i+f=items.length->acc.length<=i->∃n',n<=n'/\z1o K (.nm 0) mt me ol f i acc.length ⟨o::fr,(acc.reverse.map some)++(σ0++(its++tm0)),n⟩= .ok (.lst n' (acc++((items.drop i).filter p).map g)) ⟨σ0,tm0,n'+1⟩:=by
 intro f
 induction f with
 |zero=>
  intro i acc o n hi ha
  have hi:i=items.length:=by lia
  refine⟨n,Nat.le_refl _, ?_⟩
  have l1:(acc.reverse.map some).length=acc.length:=by simp
  have e1:((acc.reverse.map some)++(σ0++(its++tm0))).drop (acc.length+ol)=its++tm0:=by
   rw[<-List.append_assoc];exact z0z _ _ _ (by simp[hol])
  unfold z1o
  simp only[e1,hat,List.getElem?_eq_none (show items.length<=i by lia)]
  rw[z1W _ _ _ l1]
  have e2:(acc.reverse.map some).reverse=acc.map some:=by simp
  rw[e2,z1O]
  simp only[Res.ok.injEq,Stt.mk.injEq,and_true,List.drop_eq_nil_of_le (show items.length<=i by lia),List.filter_nil,List.map_nil,List.append_nil,true_and]
  constructor
  ·rw[z0z _ _ _ l1,z1W _ _ _ hol]
  ·have:((acc.reverse.map some)++(σ0++(its++tm0))).drop (acc.length+ol+K.k)=(((acc.reverse.map some)++(σ0++(its++tm0))).drop (acc.length+ol)).drop K.k:=by rw[List.drop_drop]
   rw[this,e1]
   exact z0z _ _ _ hk
 |succ f ih=>
  intro i acc o n hi ha
  have hlt:i<items.length:=by lia
  have e1:((acc.reverse.map some)++(σ0++(its++tm0))).drop (acc.length+ol)=its++tm0:=by
   rw[<-List.append_assoc];exact z0z _ _ _ (by simp[hol])
  obtain⟨n1,hn1,h1⟩:=hmt items[i] (List.getElem_mem hlt) ((acc.reverse.map some)++(σ0++(its++tm0))) n
  rw[List.drop_eq_getElem_cons hlt,List.filter_cons]
  unfold z1o
  simp only[e1,hat,List.getElem?_eq_getElem hlt,asg,List.set_cons_zero,h1]
  cases hp:p items[i] with
  |false=>
   obtain⟨n2,hn2,h2⟩:=ih (i+1) acc (some items[i]) n1 (by lia) (by lia)
   exact⟨n2,by lia,h2⟩
  |true=>
   obtain⟨n2,hn2,h2⟩:=hme items[i] (List.getElem_mem hlt) hp ((acc.reverse.map some)++(σ0++(its++tm0))) n1
   obtain⟨n3,hn3,h3⟩:=ih (i+1) (acc++[g items[i]]) (some items[i]) n2 (by lia) (by simp;lia)
   refine⟨n3,by lia, ?_⟩
   simp only[if_pos (show acc.length<sizeLine by lia),h2]
   simp only[List.length_append,List.length_cons,List.length_nil,Nat.zero_add,List.reverse_append,List.reverse_cons,List.reverse_nil,List.nil_append,List.map_append,List.map_cons,List.map_nil,List.cons_append,List.append_assoc] at h3⊢
   exact h3
theorem zar{mi:M ItK}{K:ItK}{mt:M Bool}{me:M D}{p:D->Bool}{g:D->D}{items:List D}{its:List (Option D)}{ix:List Nat}{s:Stt}{σ tm:List (Option D)}{n:Nat}(hc:mi s= .ok K ⟨σ,its++tm,n⟩)(hk:its.length=K.k)(hz:items.length<sizeLine)(hat: ∀i rest,K.at' i (its++rest)=some items[i]?)(hlen:K.len (its++tm)=items.length)
 (hmt: ∀d∈items,∀tm n,∃n',n<=n'/\mt ⟨some d::(ix.map fun i=>(σ[i]?).getD none),tm,n⟩= .ok (p d) ⟨some d::(ix.map fun i=>(σ[i]?).getD none),tm,n'⟩)
 (hme: ∀d∈items,p d=true->∀tm n,∃n',n<=n'/\me ⟨some d::(ix.map fun i=>(σ[i]?).getD none),tm,n⟩= .ok (g d) ⟨some d::(ix.map fun i=>(σ[i]?).getD none),tm,n'⟩):
 ∃n',n<=n'/\z0D mi (.nm 0) mt me 1 ix s= .ok (.lst n' ((items.filter p).map g)) ⟨σ,tm,n'+1⟩:=by
 obtain⟨n',h2,h3⟩:=z9c (K:=K) (mt:=mt) (me:=me) (σ0:=σ) (tm0:=tm) hk rfl hz hat hmt hme items.length 0 [] none n (by simp) (by simp)
 refine⟨n',h2, ?_⟩
 unfold z0D
 simp only[bd,hc,hlen]
 simp only[List.map_nil,List.reverse_nil,List.nil_append,List.length_nil,List.drop_zero] at h3
 exact h3
theorem z9d{mc:M D}{mt:M Bool}{me:M D}{p:D->Bool}{g:D->D}{ds:List D}{ix:List Nat}{s:Stt}{σ tm:List (Option D)}{n:Nat}(hc:mc s= .ok (.tup ds) ⟨σ,tm,n⟩)(hz:ds.length<sizeLine)
 (hmt: ∀d∈ds,∀tm n,∃n',n<=n'/\mt ⟨some d::(ix.map fun i=>(σ[i]?).getD none),tm,n⟩= .ok (p d) ⟨some d::(ix.map fun i=>(σ[i]?).getD none),tm,n'⟩)
 (hme: ∀d∈ds,p d=true->∀tm n,∃n',n<=n'/\me ⟨some d::(ix.map fun i=>(σ[i]?).getD none),tm,n⟩= .ok (g d) ⟨some d::(ix.map fun i=>(σ[i]?).getD none),tm,n'⟩):
 ∃n',n<=n'/\z0D (z0l mc) (.nm 0) mt me 1 ix s= .ok (.lst n' ((ds.filter p).map g)) ⟨σ,tm,n'+1⟩:=
 zar (K:=kTup) (its:=[some (.tup ds)]) (items:=ds) (by unfold z0l;rw[x_bd,hc];rfl) rfl hz (fun i rest=>rfl) rfl hmt hme
end Mi
set_option maxHeartbeats 1000000
namespace Mi
open PySem L2
noncomputable def zj0(o:Option (List D))(t:D)(n:Nat):RF:=match o with|some ts=> .ex t ts n|none=> .no
noncomputable def _root_.Mi.RS.finX(k:Nat):RS->RF
 | .nx s'=>finO (z09 s'.tm) .non s'.n
 | .rt t s'=>finO (z09 s'.tm) t s'.n
 | .ex d s'=>zj0 (z09 (ziq k s'.tm)) d s'.n
 |_=> .no
end Mi
set_option maxHeartbeats 4000000
namespace Mi
open PySem L2
theorem at_rng(lo:Int)(N i:Nat)(rest:List (Option D)):(kRng lo N).at' i ([]++rest)=some (zdP lo N)[i]? :=by
 simp only[kRng,zdP,List.getElem?_map]
 by_cases hi:i<N
 ·rw[if_pos hi,List.getElem?_range hi];rfl
 ·rw[if_neg hi,List.getElem?_eq_none (by simpa using hi)];rfl
end Mi
set_option maxHeartbeats 40000
namespace Mi
open PySem L2
section
variable{α β:Type}{m ma mb mc:M D}{s:Stt}{ms:List (M D)}{σ tm l:List (Option D)}{n i j k p:Nat}{x y z u d:D}{g g2:D->D->M D}{h:List D->M D}
variable{a0 a1 a2 a3 a4 a5 a6 a7 a8 a9 a10 a11 a12 a13 a14 a15 v:Option D}
theorem qg1:(a0::a1::l)[1]? =some a1:=(rfl)
theorem qg2:(a0::a1::a2::l)[2]? =some a2:=(rfl)
theorem qg3:(a0::a1::a2::a3::l)[3]? =some a3:=(rfl)
theorem qg4:(a0::a1::a2::a3::a4::l)[4]? =some a4:=(rfl)
theorem qg5:(a0::a1::a2::a3::a4::a5::l)[5]? =some a5:=(rfl)
theorem qg6:(a0::a1::a2::a3::a4::a5::a6::l)[6]? =some a6:=(rfl)
theorem qg7:(a0::a1::a2::a3::a4::a5::a6::a7::l)[7]? =some a7:=(rfl)
theorem qg8:(a0::a1::a2::a3::a4::a5::a6::a7::a8::l)[8]? =some a8:=(rfl)
theorem qg9:(a0::a1::a2::a3::a4::a5::a6::a7::a8::a9::l)[9]? =some a9:=(rfl)
theorem qg10:(a0::a1::a2::a3::a4::a5::a6::a7::a8::a9::a10::l)[10]? =some a10:=(rfl)
theorem qg11:(a0::a1::a2::a3::a4::a5::a6::a7::a8::a9::a10::a11::l)[11]? =some a11:=(rfl)
theorem qh1:(a0::a1::l).set 1 v=a0::v::l:=(rfl)
theorem qh2:(a0::a1::a2::l).set 2 v=a0::a1::v::l:=(rfl)
theorem qh3:(a0::a1::a2::a3::l).set 3 v=a0::a1::a2::v::l:=(rfl)
theorem qh4:(a0::a1::a2::a3::a4::l).set 4 v=a0::a1::a2::a3::v::l:=(rfl)
theorem qh5:(a0::a1::a2::a3::a4::a5::l).set 5 v=a0::a1::a2::a3::a4::v::l:=(rfl)
theorem qh6:(a0::a1::a2::a3::a4::a5::a6::l).set 6 v=a0::a1::a2::a3::a4::a5::v::l:=(rfl)
theorem qh7:(a0::a1::a2::a3::a4::a5::a6::a7::l).set 7 v=a0::a1::a2::a3::a4::a5::a6::v::l:=(rfl)
theorem qh9:(a0::a1::a2::a3::a4::a5::a6::a7::a8::a9::l).set 9 v=a0::a1::a2::a3::a4::a5::a6::a7::a8::v::l:=(rfl)
theorem qh10:(a0::a1::a2::a3::a4::a5::a6::a7::a8::a9::a10::l).set 10 v=a0::a1::a2::a3::a4::a5::a6::a7::a8::a9::v::l:=(rfl)
theorem qh11:(a0::a1::a2::a3::a4::a5::a6::a7::a8::a9::a10::a11::l).set 11 v=a0::a1::a2::a3::a4::a5::a6::a7::a8::a9::a10::v::l:=(rfl)
theorem ov:mVar i s=match s.σ[i]? with|some (some t)=> .ok t s|_=> .no:=rfl
noncomputable def cv(g:D->D->M D)(a:D)(b:Option (Option D))(s:Stt):Res D:=match b with
 |some (some b)=>g a b s
 |_=> .no
theorem zeb:cv g x (some (some y)) s=g x y s:=(rfl)
theorem x_bC:mBin m (mC y) g s=(m s).bnd fun x s1=>g x y s1:=by
 rw[ze2];cases m s<;>rfl
theorem x_bV:mBin m (mVar j) g s=(m s).bnd fun x s1=>cv g x s1.σ[j]? s1:=by
 rw[ze2];cases m s with
 |ok x s1=>rw[z3T,z3T];unfold mVar cv;dsimp only[Stt.psh];cases s1.σ[j]? with
  |none=>rfl
  |some o=>cases o<;>rfl
 |ex d s1=>rfl
 |no=>rfl
noncomputable def qc1(h:List D->M D)(a:Option (Option D))(s:Stt):Res D:=match a with
 |some (some a)=>h [a] s
 |_=> .no
theorem zbX:qc1 h (some (some x)) s=h [x] s:=(rfl)
theorem x_c1:mCB [mVar i] h ⟨σ,tm,n⟩=qc1 h σ[i]? ⟨σ,tm,n⟩:=by
 rw[x_cb];unfold mVar qc1 z03 bd;dsimp only
 cases σ[i]? with
 |none=>rfl
 |some o=>cases o<;>rfl
theorem zcx:z03 [m] s=(m s).bnd fun x s1=> .ok [x] s1:=by
 rw[z4j];cases m s<;>rfl
noncomputable def qa1(a:Option (Option D))(s:Stt):Res (List D):=match a with
 |some (some a)=> .ok [a] s
 |_=> .no
theorem x_a1:z03 [mVar i] ⟨σ,tm,n⟩=qa1 σ[i]? ⟨σ,tm,n⟩:=by
 rw[zcx];unfold mVar qa1;dsimp only
 cases σ[i]? with
 |none=>rfl
 |some o=>cases o<;>rfl
noncomputable def qa2(a b:Option (Option D))(s:Stt):Res (List D):=match a,b with
 |some (some a),some (some b)=> .ok [a,b] s
 |_,_=> .no
theorem zbY:qa2 (some (some x)) (some (some y)) s= .ok [x,y] s:=(rfl)
theorem x_a2:z03 [mVar i,mVar j] ⟨σ,tm,n⟩=qa2 σ[i]? σ[j]? ⟨σ,tm,n⟩:=by
 rw[z4j];unfold mVar qa2;dsimp only
 cases σ[i]? with
 |none=>rfl
 |some o=>cases o with
  |none=>rfl
  |some a=>rw[z3T];show Res.bnd _ (z03 [mVar j] ⟨σ,_,_⟩)=_;rw[x_a1];unfold qa1;cases σ[j]? with
   |none=>rfl
   |some o=>cases o<;>rfl
noncomputable def qa3(a b c:Option (Option D))(s:Stt):Res (List D):=match a,b,c with
 |some (some a),some (some b),some (some c)=> .ok [a,b,c] s
 |_,_,_=> .no
theorem zbZ:qa3 (some (some x)) (some (some y)) (some (some z)) s= .ok [x,y,z] s:=(rfl)
theorem x_a3:z03 [mVar i,mVar j,mVar k] ⟨σ,tm,n⟩=qa3 σ[i]? σ[j]? σ[k]? ⟨σ,tm,n⟩:=by
 rw[z4j];unfold mVar qa3;dsimp only
 cases σ[i]? with
 |none=>rfl
 |some o=>cases o with
  |none=>rfl
  |some a=>rw[z3T];show Res.bnd _ (z03 [mVar j,mVar k] ⟨σ,_,_⟩)=_;rw[x_a2];unfold qa2;cases σ[j]? with
   |none=>rfl
   |some o=>cases o with
    |none=>rfl
    |some b=>cases σ[k]? with
     |none=>rfl
     |some o=>cases o<;>rfl
theorem zj1:z03 [mVar i,mC y] ⟨σ,tm,n⟩=qa2 σ[i]? (some (some y)) ⟨σ,tm,n⟩:=by
 rw[z4j];unfold mVar qa2;dsimp only
 cases σ[i]? with
 |none=>rfl
 |some o=>cases o<;>rfl
theorem zgJ:z03 [mVar i,mC y,mC z] ⟨σ,tm,n⟩=qa3 σ[i]? (some (some y)) (some (some z)) ⟨σ,tm,n⟩:=by
 rw[z4j];unfold mVar qa3;dsimp only
 cases σ[i]? with
 |none=>rfl
 |some o=>cases o<;>rfl
theorem zj2:z0C ma (mVar i) mc g g2 s=(ma s).bnd fun x s1=>(mVar i s1).bnd fun y s3=>z8W y (bd (mBoo (g x y)) fun k=>iteM k (bd mc fun z=>g2 y z) (rt (.bool false))) s3:=by
 rw[zah];cases ma s with
 |ok x s1=>rw[z3T,z3T];unfold mVar;dsimp only[Stt.psh];cases s1.σ[i]? with
  |none=>rfl
  |some o=>cases o<;>rfl
 |ex d s1=>rfl
 |no=>rfl
theorem zj3:sAsg (.nm i) m s=(m s).lf fun d s1=> .nx ⟨s1.σ.set i (some d),s1.tm,s1.n⟩:=by
 rw[zgC];cases m s<;>rfl
end
theorem z06{t:D}{l n' n:Nat}{b b' r:List D}{σ tm:List (Option D)}{σ1 tm1:D->List (Option D)}(hb:labsL b=[])(hb':labsL b'=[])(hr:labsL r=[])(f1: ∀q,rpO (pl l q) σ=σ1 q)(f2: ∀q,rpO (pl l q) tm=tm1 q)(e1:σ1 (.lst l b)=σ:=by rfl)(e2:tm1 (.lst l b)=tm:=by rfl):
 z4u (.ok t (.lst l b'::r) n') (.lst l b::r) ⟨σ,tm,n⟩= .ok t ⟨σ1 (.lst l b'),tm1 (.lst l b'),n'⟩:=by
 rw[z56 hb hb' hr ((f1 _).trans e1) ((f2 _).trans e2),f1,f2]
end Mi
set_option maxHeartbeats 1000000
namespace Mi
open PySem L2
theorem zas{t:D}{ts ts':List D}{n' n:Nat}{σ tm:List (Option D)}(hs: ∀k∈labsL ts,(findL k ts').isSome=true)(h0:ts'=ts->rpO (fun k=>findL k ts') σ=σ/\rpO (fun k=>findL k ts') tm=tm):
 z4u (.ok t ts' n') ts ⟨σ,tm,n⟩= .ok t ⟨rpO (fun k=>findL k ts') σ,rpO (fun k=>findL k ts') tm,n'⟩:=by
 unfold z4u
 by_cases h:ts'=ts
 ·simp only[if_pos h,(h0 h).1,(h0 h).2]
 ·simp only[if_neg h]
  rw[if_pos fun k _ hk=>hs k hk]
theorem z8p{K:ItK}{g:Tg}{b:MS}{f i:Nat}{s s':Stt}{d:D}{σ':List (Option D)}(h1:K.at' i s.tm=some (some d))(h2:asg g d s.σ=some σ')(h3:b {s with σ:=σ'}= .nx s'):forGo K g b (f+1) i s=forGo K g b f (i+1) s':=by
 conv=>lhs;unfold forGo
 simp only[h1,h2,h3]
theorem z7N{K:ItK}{g:Tg}{b:MS}{f i:Nat}{s:Stt}(h1:K.at' i s.tm=some none):forGo K g b f i s= .nx (s.popn K.k):=by
 unfold forGo
 simp only[h1]
theorem zec{K:ItK}{g:Tg}{b:MS}{f i:Nat}{s s':Stt}{d t:D}{σ':List (Option D)}(h1:K.at' i s.tm=some (some d))(h2:asg g d s.σ=some σ')(h3:b {s with σ:=σ'}= .rt t s'):forGo K g b (f+1) i s= .rt t (s'.popn K.k):=by
 conv=>lhs;unfold forGo
 simp only[h1,h2,h3]
end Mi
namespace My
open PySem L2 Mi
theorem BA{a b:Prop}(h:a)(k:b):a/\b:=⟨h,k⟩
noncomputable def B_0:=BA (BA (BA (BA (BA (BA @ziz @x_bd) (BA @z3T (BA @ziv @ziw))) (BA (BA @zix (BA @x_rt @zgo)) (BA @ziA (BA @ziB @zbU)))) (BA (BA (BA @ziC (BA @x_C @ze2)) (BA @ziD (BA @zgp @zgq))) (BA (BA @x_tB (BA @ziE @x_or)) (BA @ziF (BA @zgr @zgs))))) (BA (BA (BA (BA @ziG @x_it) (BA @x_if (BA @ze3 @z4j))) (BA (BA @x_cb (BA @zgt @zag)) (BA @ziH (BA @zah @ziI)))) (BA (BA (BA @zai (BA @ze4 @ze5)) (BA @zgu (BA @x_sl @zgv))) (BA (BA @ziJ (BA @y_lt @y_le)) (BA @y_gt (BA @ziK @ziM)))))) (BA (BA (BA (BA (BA @ziN @ziO) (BA @ziP (BA @ziQ @zgw))) (BA (BA @zgx (BA @zgy @ziR)) (BA @ziS (BA @ziT @zgz)))) (BA (BA (BA @zgA (BA @ze7 @ziU)) (BA @ziV (BA @zgB @ze9))) (BA (BA @ziW (BA @x_sT @x_sF)) (BA @zam (BA @zgC @ziX))))) (BA (BA (BA (BA @zgE (BA @ziY @z99)) (BA @ziy (BA @zaf @List.map_cons.{0,0}))) (BA (BA @List.map_nil.{0,0} (BA @List.nil_append.{0} @List.cons_append.{0})) (BA @List.append_nil.{0} (BA @List.getElem?_cons_zero.{0} @List.getElem?_cons_succ.{0})))) (BA (BA (BA @List.getElem?_nil.{0} (BA @List.set_cons_zero.{0} @List.set_cons_succ.{0})) (BA @List.length_cons.{0} (BA @List.length_nil.{0} @Option.map_some.{0,0}))) (BA (BA @Option.map_none.{0,0} (BA @Bool.not_true @Bool.not_false)) (BA @beq_self_eq_true.{0} (BA @Nat.zero_add @Nat.sub_self))))))
local macro_rules | `(tactic| walk_at "") => `(tactic| (simp (config := { dsimp := false }) only [B_0, isiD, z09, asg, asgL, List.replicate, Nat.reduceAdd, Nat.reduceSub, String.reduceBEq]))
noncomputable def isInt:D->Bool
 | .int _=>true
 |_=>false
noncomputable def inR(lo hi:Int):D->Bool
 | .int i=>decide (lo<=i)&&decide (i<=hi)
 |_=>false
theorem zcy(t:D)(n:Nat)(h:plain t=true):z0I [t] n= .ok (.bool (isInt t)) [t] n:=by
 unfold z0I z2C
 cases t<;>first|(simp[Mi.plain] at h;done)|(walk_at "";first|done|rfl)
theorem z8q(t:D)(lo hi:Int)(n:Nat)(h:plain t=true):z0s [t, .int lo, .int hi] n= .ok (.bool (inR lo hi t)) [t, .int lo, .int hi] n:=by
 unfold z0s z36
 walk_at ""
 rw[zcy t n h]
 cases t<;>(try simp only[isInt,inR])<;>walk_at "" <;>try rfl
 rename_i i
 by_cases h1:lo<=i
 ·simp only[h1,decide_true];walk_at "";simp
 ·simp only[h1,decide_false];walk_at "";simp
noncomputable def rowB(lo hi top:Int):D->Bool
 | .tup ds=>decide (lo<=(ds.length:Int))&&decide ((ds.length:Int)<=hi)&&ds.all (inR 0 top)
 |_=>false
theorem z5N: ∀{ds:List D} {d:D},plainL ds=true->d∈ds->plain d=true
 |x::ds,d,h,m=>by
  simp only[plainL,Bool.and_eq_true] at h
  rcases List.mem_cons.mp m with rfl|m
  ·exact h.1
  ·exact z5N h.2 m
theorem zcz(t:D)(lo hi top:Int)(n:Nat)(h:plain t=true)(hh:hi<1000000): ∃n',n<=n'/\z2j [t, .int lo, .int hi, .int top] n= .ok (.bool (rowB lo hi top t)) [t, .int lo, .int hi, .int top] n':=by
 unfold z2j z4d
 walk_at ""
 cases t with
 |tup ds=>
  walk_at ""
  by_cases h1:lo<=(ds.length:Int)
  ·by_cases h2:(ds.length:Int)<=hi
   ·simp only[h1,h2,decide_true,rowB,Bool.true_and]
    walk_at ""
    simp only[h2,decide_true]
    walk_at ""
    have hz:ds.length<sizeLine:=by have:sizeLine=16777216:=rfl;lia
    obtain⟨n',hn,hc⟩:=z75 (mc:=mVar 0) (me:=mCall z0s [mVar 0,mC (D.int 0),mVar 1]) (g:=fun d=> .bool (inR 0 top d)) (ds:=ds) (ix:=[3]) (s:=⟨[some (.tup ds),some (.int lo),some (.int hi),some (.int top)],[some (.tup ds),some (.int lo),some (.int hi),some (.int top)],n⟩) (s1:=⟨[some (.tup ds),some (.int lo),some (.int hi),some (.int top)],[some (.tup ds),some (.int lo),some (.int hi),some (.int top)],n⟩) (by walk_at "") hz (by
     intro d hd tm m
     refine⟨m,Nat.le_refl _, ?_⟩
     show mCall _ _ ⟨[some d,some (.int top)],tm,m⟩=_
     walk_at ""
     rw[z8q d 0 top m (z5N (by simpa[Mi.plain] using h) hd)]
     walk_at ""
     rfl)
    refine⟨n'+1,by simp only at hn;lia, ?_⟩
    rw[hc]
    walk_at ""
    rw[ze8 (z54 ds (inR 0 top))]
    walk_at ""
    simp only[List.all_map]
    rfl
   ·refine⟨n,Nat.le_refl _, ?_⟩
    simp only[h1,h2,decide_true,decide_false,rowB,Bool.true_and,Bool.false_and]
    walk_at ""
    simp only[h2,decide_false]
    walk_at ""
  ·refine⟨n,Nat.le_refl _, ?_⟩
   simp only[h1,decide_false,rowB,Bool.false_and]
   walk_at ""
 |dct _ _ _=>simp[Mi.plain] at h
 |obj _ _ _ _=>simp[Mi.plain] at h
 |exc _=>simp[Mi.plain] at h
 |fn _=>simp[Mi.plain] at h
 |fdc _ _=>simp[Mi.plain] at h
 |_=>refine⟨n,Nat.le_refl _, ?_⟩;walk_at "";rfl
theorem at0{a:D}{l:List D}:atI (a::l) 0=some a:=z76 (by decide) rfl
theorem at1{a b:D}{l:List D}:atI (a::b::l) 1=some b:=z76 (by decide) rfl
theorem at2{a b c:D}{l:List D}:atI (a::b::c::l) 2=some c:=z76 (by decide) rfl
theorem at3{a b c d:D}{l:List D}:atI (a::b::c::d::l) 3=some d:=z76 (by decide) rfl
theorem zj4{i j:Int}{s:Stt}:eqD (.int i) (.int j) s= .ok (.bool (i==j)) s:=by
 rw[y_eq (by simp[eqC,Mi.plain,er,PyData.canLay0,PyData.depth])];simp only[er,PyData.eqv]
theorem c0:((0:Nat):Int)=0:=rfl
theorem c1:((1:Nat):Int)=1:=rfl
theorem c2:((2:Nat):Int)=2:=rfl
theorem c3:((3:Nat):Int)=3:=rfl
theorem c4:((4:Nat):Int)=4:=rfl
noncomputable def Gd(t:D):Prop:=plain t=true/\(er t).canLay0=true
noncomputable def GdL(ds:List D):Prop:=plainL ds=true/\PyData.canLayAll0 (erL ds)=true
theorem Gd.tup{ds:List D}:Gd (.tup ds)↔GdL ds:=by simp only[Gd,GdL,Mi.plain,er,PyData.canLay0]
theorem Gd.lst{l:Nat}{ds:List D}:Gd (.lst l ds)↔GdL ds:=by simp only[Gd,GdL,Mi.plain,er,PyData.canLay0]
theorem GdL.cons{d:D}{ds:List D}:GdL (d::ds)↔Gd d/\GdL ds:=by
 simp only[Gd,GdL,plainL,erL,PyData.canLayAll0,Bool.and_eq_true]
 constructor
 ·rintro ⟨⟨a,b⟩,c,d⟩;exact⟨⟨a,c⟩,b,d⟩
 ·rintro ⟨⟨a,c⟩,b,d⟩;exact⟨⟨a,b⟩,c,d⟩
noncomputable def zgK(x:Str):D->Bool
 | .str y=>y==x
 |_=>false
theorem eq_str{t:D}{x:Str}{s:Stt}(g:Gd t)(h:PyData.strOk x=true):eqD t (.str x) s= .ok (.bool (zgK x t)) s:=by
 have e:eqC t (.str x)=true:=by
  simp only[eqC,g.1,g.2,Mi.plain,er,PyData.canLay0,h,Bool.true_and,decide_eq_true_eq]
  simp[PyData.depth]
 rw[y_eq e]
 cases t<;>simp[er,PyData.eqv,zgK]
theorem zl:sizeLine=16777216:=rfl
section
variable{a b c d:D}{s:Stt}
theorem t0:tupD [] s= .ok (.tup []) s:=zak (by decide)
theorem t1:tupD [a] s= .ok (.tup [a]) s:=zak (by rw[zl];simp)
theorem t2:tupD [a,b] s= .ok (.tup [a,b]) s:=zak (by rw[zl];simp)
theorem t3:tupD [a,b,c] s= .ok (.tup [a,b,c]) s:=zak (by rw[zl];simp)
theorem t4:tupD [a,b,c,d] s= .ok (.tup [a,b,c,d]) s:=zak (by rw[zl];simp)
theorem k0{σ tm:List (Option D)}{n:Nat}:lstM [] ⟨σ,tm,n⟩= .ok (.lst n []) ⟨σ,tm,n+1⟩:=zal (by rw[zl];simp)
theorem k1{σ tm:List (Option D)}{n:Nat}:lstM [a] ⟨σ,tm,n⟩= .ok (.lst n [a]) ⟨σ,tm,n+1⟩:=zal (by rw[zl];simp)
theorem k2{σ tm:List (Option D)}{n:Nat}:lstM [a,b] ⟨σ,tm,n⟩= .ok (.lst n [a,b]) ⟨σ,tm,n+1⟩:=zal (by rw[zl];simp)
theorem k3{σ tm:List (Option D)}{n:Nat}:lstM [a,b,c] ⟨σ,tm,n⟩= .ok (.lst n [a,b,c]) ⟨σ,tm,n+1⟩:=zal (by rw[zl];simp)
theorem k4{σ tm:List (Option D)}{n:Nat}:lstM [a,b,c,d] ⟨σ,tm,n⟩= .ok (.lst n [a,b,c,d]) ⟨σ,tm,n+1⟩:=zal (by rw[zl];simp)
end
noncomputable def B_1:=BA (BA (BA (BA @t1 (BA @t2 @t3)) (BA (BA @t4 @k0) (BA @k1 @k2))) (BA (BA (BA @k3 @k4) (BA @Bool.or_false @Bool.false_or)) (BA (BA @Bool.true_or @Bool.or_true) (BA @Bool.and_true @Bool.true_and)))) (BA (BA (BA (BA @Bool.and_false @Bool.false_and) (BA @at0 @at1)) (BA (BA @at2 @at3) (BA @zj4 @zgF))) (BA (BA (BA @zea @zgG) (BA @zan @zao)) (BA (BA @zap @z8o) (BA @z6o @z2J))))
noncomputable def B_2:=BA @zbV @zbW
local macro_rules | `(tactic| walk_at "") => `(tactic| (simp (config := { dsimp := false }) only [B_0, B_1, B_2, isiD, z09, asg, asgL, List.replicate, Nat.reduceAdd, Nat.reduceSub, String.reduceBEq, Int.reduceBEq]))
noncomputable def Bg(c x:Int):Prop:=0<=c/\0<=x/\x<2147483647
theorem z0K(l:Nat)(c x top:Int)(n:Nat)(h:Bg c x)(ht:0<top)(ht':top<1000000): ∃r c' x',0<=r/\r<top/\Bg c' x'/\z05 [.lst l [.int c, .int x], .int top] n= .ok (.int r) [.lst l [.int c', .int x'], .int top] n:=by
 unfold z05 z6k
 obtain⟨h0,h1,h2⟩:=h
 by_cases hc:0<c
 ·refine⟨c %top,c/top,x,Int.emod_nonneg _ (by lia),Int.emod_lt_of_pos _ ht,⟨Int.ediv_nonneg h0 (by lia),h1,h2⟩, ?_⟩
  walk_at ""
  simp only[hc,decide_true]
  walk_at ""
  rw[z55 ht]
  walk_at ""
  rw[zcv ⟨ht,by lia⟩]
  walk_at ""
  rw[zgD (j:=0) rfl (by simp[labs])]
  walk_at ""
 ·have hx0:=Int.emod_nonneg (x*48271+7919) (show(2147483647:Int)≠0 by decide)
  have hx1:=Int.emod_lt_of_pos (x*48271+7919) (show(0:Int)<2147483647 by decide)
  generalize hy:(x*48271+7919) %2147483647=y at hx0 hx1
  refine⟨(y^(3:Int).toNat %2147483587/7*69621 %1073741789) %top,c,y,Int.emod_nonneg _ (by lia),Int.emod_lt_of_pos _ ht,⟨h0,hx0,hx1⟩, ?_⟩
  walk_at ""
  simp only[hc,decide_false]
  walk_at ""
  rw[z7L (.inl ⟨by lia,by lia⟩)]
  walk_at ""
  rw[z55 (by decide),hy]
  walk_at ""
  rw[zgD (j:=1) rfl (by simp[labs])]
  walk_at ""
  rw[ze6 ⟨by decide,by decide,by lia⟩]
  walk_at ""
  rw[z55 (by decide)]
  walk_at ""
  rw[zcv ⟨by decide,by decide⟩]
  walk_at ""
  rw[z7L (.inr ⟨by decide,by decide⟩)]
  walk_at ""
  rw[z55 (by decide)]
  walk_at ""
  rw[z55 ht]
  walk_at ""
noncomputable def B_3:=BA (BA @ziZ @zcw) (BA @zgH @Int.zero_add)
local macro_rules | `(tactic| walk_at "") => `(tactic| (simp (config := { dsimp := false }) only [B_0, B_1, B_2, B_3, isiD, z09, asg, asgL, List.replicate, Nat.reduceAdd, Nat.reduceSub, String.reduceBEq, Int.reduceBEq]))
theorem zcA{ns:List Int}{a:Nat}(h:a<ns.length):atI (ns.map D.int) (a:Int)=some (.int ns[a]):=z76 (by lia) (by simp[h])
theorem zgL(ns:List Int)(a n:Nat)(ha:a<1000)(hl:ns.length<1000): ∃c x,Bg c x/\z51 [.ro (ns.map .int), .int a] n= .ok (.lst n [.int c, .int x]) [.ro (ns.map .int), .int a] (n+1):=by
 unfold z51 z7J
 walk_at ""
 have key: ∃c:Int,0<=c/\iteS (decide ((a:Int)<((ns.map D.int).length:Int))) (sAsg (Tg.nm 2) (mCB [mBin (mVar 0) (mVar 1) ixD] absD)) sNx ⟨[some (.ro (ns.map .int)),some (.int a),some (.int 0),none,none],[some (.ro (ns.map .int)),some (.int a)],n⟩= .nx ⟨[some (.ro (ns.map .int)),some (.int a),some (.int c),none,none],[some (.ro (ns.map .int)),some (.int a)],n⟩:=by
  by_cases h:a<ns.length
  ·refine⟨if ns[a]<0 then -ns[a] else ns[a], ?_, ?_⟩
   rotate_left
   ·rw[show decide ((a:Int)<((ns.map D.int).length:Int))=true by simp[h]]
    walk_at ""
    rw[zcA h]
    walk_at ""
   ·split<;>lia
  ·refine⟨0,by decide, ?_⟩
   rw[show decide ((a:Int)<((ns.map D.int).length:Int))=false by simp;lia]
   walk_at ""
 obtain⟨c,hc,e1⟩:=key
 rw[e1]
 walk_at ""
 rw[z55 (by decide)]
 walk_at ""
 rw[z7L (.inl ⟨by decide,by decide⟩)]
 walk_at ""
 have q0:=Int.emod_nonneg c (show(2147483629:Int)≠0 by decide)
 have q1:=Int.emod_lt_of_pos c (show(0:Int)<2147483629 by decide)
 rw[ze6 ⟨by decide,by decide,by lia⟩]
 walk_at ""
 rw[z55 (by decide)]
 walk_at ""
 have w0:((ns.map D.int).length:Int)=ns.length:=by simp
 rw[w0]
 generalize hk:(if(60:Int)<(ns.length:Int) then(60:Int) else(ns.length:Int))=k
 have hk0:0<=k/\k<=60/\k<=ns.length:=by split at hk<;>lia
 rw[z57 ⟨by lia,by lia⟩]
 walk_at ""
 have p0:=Int.emod_nonneg ((c %2147483629+104729*(a:Int)+17)^(5:Int).toNat) (show(2147483647:Int)≠0 by decide)
 have p1:=Int.emod_lt_of_pos ((c %2147483629+104729*(a:Int)+17)^(5:Int).toNat) (show(0:Int)<2147483647 by decide)
 generalize (c %2147483629+104729*(a:Int)+17)^(5:Int).toNat %2147483647=x0 at p0 p1
 obtain⟨s',e2,x,o,hx0,hx1,rfl⟩:=z58 (P:=fun i s=> ∃(x:Int) (o:Option D),0<=x/\x<2147483647/\s=⟨[some (.ro (ns.map .int)),some (.int a),some (.int c),some (.int x),o],[some (.ro (ns.map .int)),some (.int a)],n⟩) (lo:=0) (N:=k.toNat) (g:= .nm 4) (b:=sAsg (.nm 3) (mBin (mBin (mBin (mBin (mVar 3) (mC (.int 48271)) mulD) (mBin (mBin (mBin (mVar 0) (mVar 4) ixD) (mC (.int 2147483587)) modD) (mBin (mVar 4) (mC (.int 3)) addD) mulD) addD) (mVar 4) addD) (mC (.int 2147483629)) modD)) (by
  rintro i hi s ⟨x,o,h0,h1,rfl⟩
  have hi':i<ns.length:=by lia
  refine⟨[some (.ro (ns.map .int)),some (.int a),some (.int c),some (.int x),some (.int i)],by simp only[Int.zero_add];rfl, ?_⟩
  refine⟨⟨[some (.ro (ns.map .int)),some (.int a),some (.int c),some (.int ((x*48271+ns[i] %2147483587*(i+3)+i) %2147483629)),some (.int i)],[some (.ro (ns.map .int)),some (.int a)],n⟩, ?_, ?_⟩
  ·walk_at ""
   rw[z7L (.inl ⟨by lia,by lia⟩)]
   walk_at ""
   rw[zcA hi']
   walk_at ""
   rw[z55 (by decide)]
   walk_at ""
   rw[z7L (.inr ⟨by lia,by lia⟩)]
   walk_at ""
   rw[z55 (by decide)]
   walk_at ""
  ·have r0:=Int.emod_nonneg (x*48271+ns[i] %2147483587*(i+3)+i) (show(2147483629:Int)≠0 by decide)
   have r1:=Int.emod_lt_of_pos (x*48271+ns[i] %2147483587*(i+3)+i) (show(0:Int)<2147483629 by decide)
   exact⟨_,_,r0,by lia,rfl⟩) k.toNat 0 ⟨[some (.ro (ns.map .int)),some (.int a),some (.int c),some (.int x0),none],[some (.ro (ns.map .int)),some (.int a)],n⟩ (by lia) ⟨x0,none,p0,p1,rfl⟩
 rw[e2]
 walk_at ""
 rw[ze6 ⟨by decide,by decide,by decide⟩]
 walk_at ""
 by_cases h:c<10^(18:Int).toNat
 ·refine⟨0,x,⟨by decide,hx0,hx1⟩, ?_⟩
  simp only[h,decide_true]
  walk_at ""
 ·refine⟨c,x,⟨hc,hx0,hx1⟩, ?_⟩
  simp only[h,decide_false]
  walk_at ""
theorem z5w{l k:Nat}{d:D}{ds:List D}(h:k≠l):rp (pl l d) (.lst k ds)= .lst k (rpL (pl l d) ds):=by simp only[rp,pl,if_neg h]
mutual
noncomputable def Rs(n:Nat):D->Bool
 | .non=>true| .bool _=>true| .int _=>true| .str x=>PyData.strOk x
 | .tup ds=>decide (ds.length<=2000)&&RsL n ds
 | .lst l ds=>decide (n<=l)&&(decide (ds.length<=2000)&&RsL n ds)
 | .ro _=>false| .dct _ _ _=>false| .obj _ _ _ _=>false| .exc _=>false| .fn _=>false| .fdc _ _=>false
noncomputable def RsL(n:Nat):List D->Bool
 |[]=>true
 |d::ds=>Rs n d&&RsL n ds
end
noncomputable def Up(m:Nat)(t:D):Prop:= ∀k∈labs t,k<m
mutual
noncomputable def Tr:D->Bool
 | .non=>true| .bool _=>true| .int _=>true| .str x=>PyData.strOk x
 | .tup ds=>decide (ds.length<=900)&&TrL ds
 | .lst _ _=>false| .ro _=>false| .dct _ _ _=>false| .obj _ _ _ _=>false| .exc _=>false| .fn _=>false| .fdc _ _=>false
noncomputable def TrL:List D->Bool
 |[]=>true
 |d::ds=>Tr d&&TrL ds
end
theorem z7O: ∀{ds:List D},TrL ds=true↔∀d∈ds,Tr d=true
 |[]=>by simp[TrL]
 |d::ds=>by simp only[TrL,Bool.and_eq_true,z7O (ds:=ds),List.forall_mem_cons]
theorem zat{n:Nat}: ∀{ds:List D},RsL n ds=true↔∀d∈ds,Rs n d=true
 |[]=>by simp[RsL]
 |d::ds=>by simp only[RsL,Bool.and_eq_true,zat (ds:=ds),List.forall_mem_cons]
theorem z7P{k:Nat}: ∀{ds:List D},PyData.depthAll (erL ds)<=k↔∀d∈ds,(er d).depth<=k
 |[]=>by simp[erL,PyData.depthAll]
 |d::ds=>by simp only[erL,PyData.depthAll,List.forall_mem_cons,<-z7P (ds:=ds)];lia
mutual
theorem zau: ∀t:D,Tr t=true->labs t=[]
 | .non,_=>rfl
 | .bool _,_=>rfl
 | .int _,_=>rfl
 | .str _,_=>rfl
 | .tup ds,h=>by simp only[Tr,Bool.and_eq_true] at h;simp only[labs];exact TrL_labs ds h.2
 | .lst _ _,h=>by simp[Tr] at h
 | .ro _,h=>by simp[Tr] at h
 | .dct _ _ _,h=>by simp[Tr] at h
 | .obj _ _ _ _,h=>by simp[Tr] at h
 | .exc _,h=>by simp[Tr] at h
 | .fn _,h=>by simp[Tr] at h
 | .fdc _ _,h=>by simp[Tr] at h
theorem TrL_labs: ∀t:List D,TrL t=true->labsL t=[]
 |[],_=>rfl
 |d::ds,h=>by simp only[TrL,Bool.and_eq_true] at h;simp only[labsL,zau d h.1,TrL_labs ds h.2,List.append_nil]
end
mutual
theorem zgM{n:Nat}: ∀t:D,Tr t=true->Rs n t=true
 | .non,_=>rfl
 | .bool _,_=>rfl
 | .int _,_=>rfl
 | .str _,h=>by simpa[Tr,Rs] using h
 | .tup ds,h=>by
  simp only[Tr,Bool.and_eq_true,decide_eq_true_eq] at h;simp only[Rs,Bool.and_eq_true,decide_eq_true_eq];exact⟨by lia,TrL_rs ds h.2⟩
 | .lst _ _,h=>by simp[Tr] at h
 | .ro _,h=>by simp[Tr] at h
 | .dct _ _ _,h=>by simp[Tr] at h
 | .obj _ _ _ _,h=>by simp[Tr] at h
 | .exc _,h=>by simp[Tr] at h
 | .fn _,h=>by simp[Tr] at h
 | .fdc _ _,h=>by simp[Tr] at h
theorem TrL_rs{n:Nat}: ∀t:List D,TrL t=true->RsL n t=true
 |[],_=>rfl
 |d::ds,h=>by simp only[TrL,Bool.and_eq_true] at h;simp only[RsL,zgM d h.1,TrL_rs ds h.2,Bool.and_true]
end
mutual
theorem zgN{n:Nat}: ∀t:D,Rs n t=true->Gd t
 | .non,_=>⟨rfl,rfl⟩
 | .bool _,_=>⟨rfl,rfl⟩
 | .int _,_=>⟨rfl,rfl⟩
 | .str _,h=>⟨rfl,by simpa[Rs,er,PyData.canLay0] using h⟩
 | .tup ds,h=>by simp only[Rs,Bool.and_eq_true] at h;exact Gd.tup.mpr (RsL_gd ds h.2)
 | .lst _ ds,h=>by simp only[Rs,Bool.and_eq_true] at h;exact Gd.lst.mpr (RsL_gd ds h.2.2)
 | .ro _,h=>by simp[Rs] at h
 | .dct _ _ _,h=>by simp[Rs] at h
 | .obj _ _ _ _,h=>by simp[Rs] at h
 | .exc _,h=>by simp[Rs] at h
 | .fn _,h=>by simp[Rs] at h
 | .fdc _ _,h=>by simp[Rs] at h
theorem RsL_gd{n:Nat}: ∀t:List D,RsL n t=true->GdL t
 |[],_=>⟨rfl,rfl⟩
 |d::ds,h=>by simp only[RsL,Bool.and_eq_true] at h;exact GdL.cons.mpr ⟨zgN d h.1,RsL_gd ds h.2⟩
end
mutual
theorem zgO{n k:Nat}: ∀t:D,Rs n t=true->k∈labs t->n<=k
 | .non,_,h=>by simp[labs] at h
 | .bool _,_,h=>by simp[labs] at h
 | .int _,_,h=>by simp[labs] at h
 | .str _,_,h=>by simp[labs] at h
 | .tup ds,h,m=>by simp only[Rs,Bool.and_eq_true] at h;simp only[labs] at m;exact RsL_low ds h.2 m
 | .lst _ ds,h,m=>by
  simp only[Rs,Bool.and_eq_true,decide_eq_true_eq] at h
  simp only[labs,List.mem_cons] at m
  rcases m with rfl|m
  ·exact h.1
  ·exact RsL_low ds h.2.2 m
 | .ro _,h,_=>by simp[Rs] at h
 | .dct _ _ _,h,_=>by simp[Rs] at h
 | .obj _ _ _ _,h,_=>by simp[Rs] at h
 | .exc _,h,_=>by simp[Rs] at h
 | .fn _,h,_=>by simp[Rs] at h
 | .fdc _ _,h,_=>by simp[Rs] at h
theorem RsL_low{n k:Nat}: ∀t:List D,RsL n t=true->k∈labsL t->n<=k
 |[],_,h=>by simp[labsL] at h
 |d::ds,h,m=>by
  simp only[RsL,Bool.and_eq_true] at h
  simp only[labsL,List.mem_append] at m
  rcases m with m|m
  ·exact zgO d h.1 m
  ·exact RsL_low ds h.2 m
end
theorem zgP{n k l:Nat}{es:List D}(hn:n<=l)(hl:es.length<=2000)(h: ∀e∈es,Rs n e=true/\(er e).depth<=k):Rs n (.lst l es)=true/\(er (.lst l es)).depth<=k+1:=by
 refine⟨?_, ?_⟩
 ·simp only[Rs,Bool.and_eq_true,decide_eq_true_eq];exact⟨hn,hl,zat.mpr fun d m=>(h d m).1⟩
 ·simp only[er,PyData.depth];exact Nat.succ_le_succ (z7P.mpr fun d m=>(h d m).2)
theorem labsL_mem{k:Nat}: ∀{es:List D},k∈labsL es->∃e∈es,k∈labs e
 |e::es,h=>by
  simp only[labsL,List.mem_append] at h
  rcases h with h|h
  ·exact⟨e,List.mem_cons_self,h⟩
  ·obtain⟨e',h1,h2⟩:=labsL_mem h
   exact⟨e',List.mem_cons_of_mem _ h1,h2⟩
theorem ne_bool{b:Bool}{s:Stt}:neD (.bool b) (.bool b) s= .ok (.bool false) s:=by
 rw[y_ne (by simp[eqC,Mi.plain,er,PyData.canLay0,PyData.depth])];simp[er,PyData.eqv]
theorem zc0{f:Nat->Option D}{o:Option D}{r:List (Option D)}:rpO f (o::r)=o.map (rp f)::rpO f r:=by cases o<;>rfl
noncomputable def UpO(n:Nat)(o:Option D):Prop:= ∀d,o=some d->Up n d
theorem UpO.fix{n:Nat}{o:Option D}(h:UpO n o)(d:D):Option.map (rp (pl n d)) o=o:=by
 cases o with
 |none=>rfl
 |some t=>simp only[Option.map_some];rw[z8n fun m=>Nat.lt_irrefl _ (h t rfl n m)]
theorem z8r{k:Nat}{es:List D}(hl:es.length<=900)(h: ∀e∈es,Tr e=true/\(er e).depth<=k):Tr (.tup es)=true/\(er (.tup es)).depth<=k+1:=by
 refine⟨?_, ?_⟩
 ·simp only[Tr,Bool.and_eq_true,decide_eq_true_eq];exact⟨hl,z7O.mpr fun d m=>(h d m).1⟩
 ·simp only[er,PyData.depth];exact Nat.succ_le_succ (z7P.mpr fun d m=>(h d m).2)
theorem z8s{k:Nat}{i:Int}:Tr (.int i)=true/\(er (.int i)).depth<=k:=⟨rfl,by simp[er,PyData.depth]⟩
theorem zed{k:Nat}{i:Bool}:Tr (.bool i)=true/\(er (.bool i)).depth<=k:=⟨rfl,by simp[er,PyData.depth]⟩
theorem zj5{i j:Int}{s:Stt}:neD (.int i) (.int j) s= .ok (.bool (!(i==j))) s:=by
 rw[y_ne (by simp[eqC,Mi.plain,er,PyData.canLay0,PyData.depth])];simp only[er,PyData.eqv]
noncomputable def iL(bs:List Int):List D:=bs.map D.int
theorem zav: ∀{ds:List D},(∀d∈ds,∃i:Int,d= .int i)->∃bs,ds=iL bs
 |[],_=>⟨[],rfl⟩
 |d::ds,h=>by
  obtain⟨i,rfl⟩:=h d (by simp)
  obtain⟨bs,rfl⟩:=zav (ds:=ds) fun d hd=>h d (by simp[hd])
  exact⟨i::bs,rfl⟩
structure Pz where
 e:Int
 ss:List Int
 k:Int
 c:Int
noncomputable def Pz.d(p:Pz):D:= .tup [.int p.e, .tup (iL p.ss), .int p.k, .int p.c]
noncomputable def psD(ps:List Pz):List D:=ps.map Pz.d
structure Cm where
 S:List Int
 C:List Pz
 b:Bool
noncomputable def Cm.d(c:Cm):D:= .tup [.tup (iL c.S), .tup (psD c.C), .bool c.b]
noncomputable def csD(cs:List Cm):List D:=cs.map Cm.d
noncomputable def sg(x:Str):List Nat:=x.cps.toList
theorem z1s(x y:Str):sg (x++y)=sg x++sg y:=by unfold sg;rw[Str.cps_append,Array.toList_append]
theorem z2k{x y:Str}(h:sg x=sg y):x=y:=by
 obtain⟨a⟩:=x
 obtain⟨b⟩:=y
 exact congrArg Str.mk (Array.toList_inj.mp h)
theorem z1h(x:Str):(sg x).length=x.length:=Array.length_toList
theorem z7c(c:Nat):sg ⟨#[c]⟩=[c]:=rfl
noncomputable def jn(c:List Nat):List (List Nat)->List Nat
 |[]=>[]
 |[x]=>x
 |x::y::r=>x++(c++jn c (y::r))
theorem z1j(z:Str): ∀(ys:List Str),sg (Txt.join z ys)=jn (sg z) (ys.map sg):=by
 intro ys
 show sg (Builtin.Str.glued z ys)=_
 rw[StrLaws.glued_eq_join]
 induction ys with
 |nil=>rfl
 |cons x r ih=>
  cases r with
  |nil=>rfl
  |cons y r=>
   show sg (x++z++z.join (y::r))=_
   rw[z1s,z1s,ih]
   simp only[List.map_cons,jn,List.append_assoc]
theorem cut1{c:Nat}: ∀{a b u v:List Nat},c∉a->c∉b->a++c::u=b++c::v->a=b/\u=v
 |[],[],u,v,_,_,h=>by simpa using h
 |[],y::b,u,v,_,hb,h=>by
  simp only[List.nil_append,List.cons_append,List.cons.injEq] at h
  exact absurd (by rw[h.1];simp) hb
 |x::a,[],u,v,ha,_,h=>by
  simp only[List.nil_append,List.cons_append,List.cons.injEq] at h
  exact absurd (by rw[<-h.1];simp) ha
 |x::a,y::b,u,v,ha,hb,h=>by
  simp only[List.cons_append,List.cons.injEq] at h
  obtain⟨h1,h2⟩:=cut1 (fun q=>ha (List.mem_cons_of_mem _ q)) (fun q=>hb (List.mem_cons_of_mem _ q)) h.2
  exact⟨by rw[h.1,h1],h2⟩
theorem cut0{c:Nat}{a b v:List Nat}(ha:c∉a):a≠b++c::v:=fun h=>ha (by rw[h];simp)
theorem zcB{c:Nat}: ∀{xs ys:List (List Nat)},xs≠[]->ys≠[]->(∀x∈xs,c∉x)->(∀y∈ys,c∉y)->jn [c] xs=jn [c] ys->xs=ys
 |[],_,h,_,_,_,_=>absurd rfl h
 |_::_,[],_,h,_,_,_=>absurd rfl h
 |[x],[y],_,_,_,_,h=>by simp only[jn] at h;rw[h]
 |[x],y::y'::ys,_,_,hx,_,h=>by
  simp only[jn,List.cons_append,List.nil_append] at h
  exact absurd h (cut0 (hx x (by simp)))
 |x::x'::xs,[y],_,_,_,hy,h=>by
  simp only[jn,List.cons_append,List.nil_append] at h
  exact absurd h.symm (cut0 (hy y (by simp)))
 |x::x'::xs,y::y'::ys,_,_,hx,hy,h=>by
  simp only[jn,List.cons_append,List.nil_append] at h
  obtain⟨h1,h2⟩:=cut1 (hx x (by simp)) (hy y (by simp)) h
  rw[h1,zcB (xs:=x'::xs) (ys:=y'::ys) (by simp) (by simp) (fun z hz=>hx z (List.mem_cons_of_mem _ hz)) (fun z hz=>hy z (List.mem_cons_of_mem _ hz)) h2]
theorem z3U{x y:Str}:Txt.split x y≠[]:=by
 unfold Txt.split
 split
 ·simp
 ·split
  ·simp
  ·intro h
   have:=congrArg List.length h
   rw[length_partsBetween] at this
   simp at this
theorem zcC: ∀{xs ys:List Str},xs.map sg=ys.map sg->xs=ys
 |[],[],_=>rfl
 |[],_::_,h=>by simp at h
 |_::_,[],h=>by simp at h
 |x::xs,y::ys,h=>by
  simp only[List.map_cons,List.cons.injEq] at h
  rw[z2k h.1,zcC h.2]
theorem z1X{x:Str}{c:Nat}{ys:List Str}(hn:ys≠[])(hf: ∀y∈ys,c∉sg y)(e:sg x=jn [c] (ys.map sg)):Txt.split x ⟨#[c]⟩=ys:=by
 refine zcC (zcB (c:=c) (by simp[z3U]) (by simpa using hn) (fun z hz=> ?_) (fun z hz=> ?_) ?_)
 ·obtain⟨p,hp,rfl⟩:=List.mem_map.mp hz
  exact StrLaws.split_free x c p hp
 ·obtain⟨p,hp,rfl⟩:=List.mem_map.mp hz
  exact hf p hp
 ·rw[<-e]
  have h:=z1j ⟨#[c]⟩ (Txt.split x ⟨#[c]⟩)
  rw[z7c] at h
  rw[<-h]
  show sg (Builtin.Str.glued _ _)=_
  rw[StrLaws.glued_eq_join,StrLaws.join_split]
noncomputable def num(i:Int):Str:=Str.ofString (toString i)
noncomputable def Dg(w:List Nat):Prop:= ∀c∈w,48<=c/\c<=57
theorem z7Q(m:Nat):sg (num m)=(Nat.toDigits 10 m).map Char.toNat:=W.KIN.signs_num m
theorem zee{m:Nat}(h:10<=m):Nat.toDigits 10 m=Nat.toDigits 10 (m/10)++[Nat.digitChar (m %10)]:=by
 have hm:m %10<10:=Nat.mod_lt m (by decide)
 have t:Nat.toDigits 10 (m/10)++Nat.toDigits 10 (m %10)=Nat.toDigits 10 (10*(m/10)+m %10):=Nat.toDigits_append_toDigits (by decide) (by lia) hm
 rw[Nat.div_add_mod,Nat.toDigits_of_lt_base hm] at t
 exact t.symm
theorem dc: ∀d:Nat,d<10->(Nat.digitChar d).toNat=48+d:=by decide
theorem z3b{m:Nat}(h:m<10):sg (num m)=[48+m]:=by
 rw[z7Q,Nat.toDigits_of_lt_base h,List.map_singleton,dc m h]
theorem z6q{m:Nat}(h:10<=m):sg (num m)=sg (num ((m/10:Nat):Int))++[48+m %10]:=by
 rw[z7Q,z7Q,zee h,List.map_append,List.map_singleton,dc _ (Nat.mod_lt _ (by decide))]
theorem z6r(m:Nat):Dg (sg (num m))/\sg (num m)≠[]/\(0<m->(sg (num m)).head? ≠some 48):=by
 induction m using Nat.strongRecOn with
 |_ m ih=>
  by_cases h:m<10
  ·rw[z3b h]
   refine⟨fun c hc=> ?_,by simp,fun h0=>by simp;lia⟩
   rw[List.mem_singleton.mp hc];lia
  ·obtain⟨h1,h2,h3⟩:=ih (m/10) (by lia)
   rw[z6q (by lia)]
   refine⟨fun c hc=> ?_,by simp,fun _=> ?_⟩
   ·rcases List.mem_append.mp hc with hc|hc
    ·exact h1 c hc
    ·rw[List.mem_singleton.mp hc];lia
   ·have h4:=h3 (by lia)
    cases e:sg (num ((m/10:Nat):Int)) with
    |nil=>exact absurd e h2
    |cons a r=>rw[e] at h4;simpa using h4
theorem zaw: ∀(k m:Nat),m<10^(k+1)->(sg (num m)).length<=k+1
 |0,m,h=>by rw[z3b (by simpa using h)];simp
 |k+1,m,h=>by
  by_cases hm:m<10
  ·rw[z3b hm];simp
  ·rw[z6q (by lia),List.length_append,List.length_singleton]
   have:=zaw k (m/10) (by rw[Nat.pow_succ] at h;lia)
   lia
theorem zax{i:Int}(h:0<=i):Dg (sg (num i)):=by
 obtain⟨m,rfl⟩:=Int.eq_ofNat_of_zero_le h
 exact(z6r m).1
theorem zgQ{i:Int}(h:0<=i):sg (num i)≠[]:=by
 obtain⟨m,rfl⟩:=Int.eq_ofNat_of_zero_le h
 exact(z6r m).2.1
theorem z1Y{i:Int}(h:0<=i)(h':i<100000):(num i).length<=5:=by
 obtain⟨m,rfl⟩:=Int.eq_ofNat_of_zero_le h
 rw[<-z1h]
 exact zaw 4 m (by rw[show(10:Nat)^(4+1)=100000 from rfl];lia)
theorem z3c{i:Int}(h:0<=i)(h':i<100000):i.natAbs.log2<1920:=by
 have h1:i.natAbs<2^1920:=Nat.lt_of_lt_of_le (show i.natAbs<2^17 by rw[show(2:Nat)^17=131072 from rfl];lia) (Nat.pow_le_pow_right (by decide) (by decide))
 by_cases h0:i.natAbs=0
 ·rw[h0];decide
 ·exact(Nat.log2_lt h0).mpr h1
theorem z1B{i:Int}{c:Nat}(h:0<=i)(hc:c<48\/57<c):c∉sg (num i):=fun q=>by
 have:=zax h c q
 lia
noncomputable def okN(w:Str):Bool:=decide (1<=w.length)&&(decide (w.length<=5)&&((sg w).all (fun c=>decide (48<=c/\c<=57))&& !((sg w).head? ==some 48&& !(w== "0"))))
noncomputable def z1S(w:Str):D:=if okN w=true then .int ((PySem.intText? w).getD 0) else .non
theorem z3V{i:Int}(h:0<=i)(h':i<100000):z1S (num i)= .int i:=by
 have hr:PySem.intText? (num i)=some i:=W.KIN.num_reads h (by rw[show(10:Int)^10=10000000000 from rfl];lia)
 have hk:okN (num i)=true:=by
  unfold okN
  have l5:=z1Y h h'
  have d:=zax h
  have ne:=zgQ h
  have l1:1<=(num i).length:=by
   rw[<-z1h]
   cases e:sg (num i) with
   |nil=>exact absurd e ne
   |cons _ _=>simp
  rw[decide_eq_true l1,decide_eq_true l5,List.all_eq_true.mpr fun c hc=>decide_eq_true (d c hc)]
  simp only[Bool.true_and]
  obtain⟨m,rfl⟩:=Int.eq_ofNat_of_zero_le h
  by_cases h0:0<m
  ·have:=(z6r m).2.2 h0
   simp[this]
  ·have:m=0:=by lia
   subst this
   decide
 unfold z1S
 rw[if_pos hk,hr]
 rfl
theorem z6s{K:ItK}{g:Tg}{b:MS}{P:Nat->Stt->Prop}{item:Nat->D}{N:Nat}(hat: ∀i s,P i s->K.at' i s.tm=some (if i<N then some (item i) else none))
 (body: ∀i,i<N->∀s,P i s->∃σ',asg g (item i) s.σ=some σ'/\∃s',b {s with σ:=σ'}= .nx s'/\P (i+1) s'):
 ∀(f i:Nat) (s:Stt),i+f=N->P i s->∃s',forGo K g b f i s= .nx (s'.popn K.k)/\P N s'
 |0,i,s,hi,h=>by
  have e:i=N:=by lia
  subst e
  exact⟨s,z7N (by rw[hat i s h,if_neg (Nat.lt_irrefl _)]),h⟩
 |f+1,i,s,hi,h=>by
  obtain⟨σ',h1,s1,h2,h3⟩:=body i (by lia) s h
  obtain⟨s2,h4,h5⟩:=z6s hat body f (i+1) s1 (by lia) h3
  exact⟨s2,by rw[z8p (by rw[hat i s h,if_pos (by lia)]) h1 h2,h4],h5⟩
theorem z5b{o:Option D}{σ tm:List (Option D)}{n:Nat}:Stt.popn ⟨σ,o::tm,n⟩ 1=⟨σ,tm,n⟩:=rfl
theorem rL_i(f:Nat->Option D)(s:List Int):rpL f (iL s)=iL s:=by
 induction s with
 |nil=>rfl
 |cons i s ih=>simp only[iL,List.map_cons,z2J,zan] at ih⊢;rw[ih]
theorem rL_p(f:Nat->Option D)(C:List Pz):rpL f (psD C)=psD C:=by
 induction C with
 |nil=>rfl
 |cons p C ih=>simp only[psD,List.map_cons,z2J,Pz.d,z8o,zan,rL_i,z6o] at ih⊢;rw[ih]
theorem z7R(f:Nat->Option D)(c:Cm):rp f c.d=c.d:=by
 simp only[Cm.d,z8o,z2J,rL_i,rL_p,zap,z6o]
theorem rL_c(f:Nat->Option D)(cs:List Cm):rpL f (csD cs)=csD cs:=by
 induction cs with
 |nil=>rfl
 |cons c cs ih=>simp only[csD,List.map_cons,z2J,z7R] at ih⊢;rw[ih]
theorem zef{L m:Nat}{d:D}{cs:List Cm}(h:L≠m):rp (pl m d) (.lst L (csD cs))= .lst L (csD cs):=by rw[z5w h,rL_c]
noncomputable def Fx(o:Option D):Prop:= ∀f,o.map (rp f)=o
theorem Fx.no:Fx none:=fun _=>rfl
theorem Fx.int{i:Int}:Fx (some (.int i)):=fun _=>rfl
theorem Fx.iL{s:List Int}:Fx (some (.tup (iL s))):=fun f=>by simp only[Option.map_some,z8o,rL_i]
theorem zc1:kTup.k=1:=rfl
theorem z9e:kLst.k=1:=rfl
theorem zj6:kEnm.k=1:=rfl
theorem zcD{ds:List D}{i:Nat}{tm:List (Option D)}:kTup.at' i (some (.tup ds)::tm)=some (if i<ds.length then some (ds.getD i .non) else none):=by
 show some (ds[i]?)=_
 by_cases h:i<ds.length
 ·rw[if_pos h];simp[h]
 ·rw[if_neg h];simp[Nat.le_of_not_lt h]
theorem zgR{l:Nat}{ds:List D}{i:Nat}{tm:List (Option D)}:kEnm.at' i (some (.lst l ds)::tm)=some (if i<ds.length then some (.tup [.int (i:Nat),ds.getD i .non]) else none):=by
 show some ((ds[i]?).map fun d=>D.tup [.int (i:Nat),d])=_
 by_cases h:i<ds.length
 ·rw[if_pos h];simp[h]
 ·rw[if_neg h];simp[Nat.le_of_not_lt h]
theorem zgS{C:List Pz}{i:Nat}(h:i<C.length):(psD C).getD i .non=C[i].d:=by simp[psD,h]
theorem z3d{C:List Pz}:(psD C).length=C.length:=by simp[psD]
theorem z5c{C:List Cm}:(csD C).length=C.length:=by simp[csD]
theorem zay{K:ItK}{tg:Tg}{me:M D}{g:D->D}{sl:D->List (Option D)}{k:Nat}{items:List D}{its fr σ0 tm0:List (Option D)}{ol:Nat}(hk:its.length=K.k)(hol:σ0.length=ol)(hz:items.length<sizeLine)(hat: ∀i rest,K.at' i (its++rest)=some items[i]?)
 (has: ∀d∈items,(sl d).length=k/\∀os:List (Option D),os.length=k->asg tg d (os++fr)=some (sl d++fr))
 (hme: ∀d∈items,∀tm n,∃n',n<=n'/\me ⟨sl d++fr,tm,n⟩= .ok (g d) ⟨sl d++fr,tm,n'⟩):
 ∀(f i:Nat) (acc:List D) (os:List (Option D)) (n:Nat),os.length=k->i+f=items.length->acc.length<=i->∃n',n<=n'/\z1o K tg (rt true) me ol f i acc.length ⟨os++fr,(acc.reverse.map some)++(σ0++(its++tm0)),n⟩= .ok (.lst n' (acc++(items.drop i).map g)) ⟨σ0,tm0,n'+1⟩:=by
 intro f
 induction f with
 |zero=>
  intro i acc os n ho hi ha
  have hi:i=items.length:=by lia
  refine⟨n,Nat.le_refl _, ?_⟩
  have l1:(acc.reverse.map some).length=acc.length:=by simp
  have e1:((acc.reverse.map some)++(σ0++(its++tm0))).drop (acc.length+ol)=its++tm0:=by
   rw[<-List.append_assoc];exact z0z _ _ _ (by simp[hol])
  have e0:K.at' i (its++tm0)=some none:=by
   rw[hat,List.getElem?_eq_none (show items.length<=i by lia)]
  unfold z1o
  simp only[e1,e0]
  rw[z1W _ _ _ l1]
  have e2:(acc.reverse.map some).reverse=acc.map some:=by simp
  rw[e2,z1O]
  simp only[Res.ok.injEq,Stt.mk.injEq,and_true,List.drop_eq_nil_of_le (show items.length<=i by lia),List.map_nil,List.append_nil,true_and]
  constructor
  ·rw[z0z _ _ _ l1,z1W _ _ _ hol]
  ·have:((acc.reverse.map some)++(σ0++(its++tm0))).drop (acc.length+ol+K.k)=(((acc.reverse.map some)++(σ0++(its++tm0))).drop (acc.length+ol)).drop K.k:=by rw[List.drop_drop]
   rw[this,e1]
   exact z0z _ _ _ hk
 |succ f ih=>
  intro i acc os n ho hi ha
  have hlt:i<items.length:=by lia
  have e1:((acc.reverse.map some)++(σ0++(its++tm0))).drop (acc.length+ol)=its++tm0:=by
   rw[<-List.append_assoc];exact z0z _ _ _ (by simp[hol])
  have e0:K.at' i (its++tm0)=some (some items[i]):=by
   rw[hat,List.getElem?_eq_getElem hlt]
  obtain⟨a1,a2⟩:=has items[i] (List.getElem_mem hlt)
  rw[List.drop_eq_getElem_cons hlt]
  obtain⟨n2,hn2,h2⟩:=hme items[i] (List.getElem_mem hlt) ((acc.reverse.map some)++(σ0++(its++tm0))) n
  obtain⟨n3,hn3,h3⟩:=ih (i+1) (acc++[g items[i]]) (sl items[i]) n2 a1 (by lia) (by simp;lia)
  refine⟨n3,by lia, ?_⟩
  unfold z1o
  simp only[e1,e0,a2 os ho,rt]
  simp only[if_pos (show acc.length<sizeLine by lia),h2]
  simp only[List.length_append,List.length_cons,List.length_nil,Nat.zero_add,List.reverse_append,List.reverse_cons,List.reverse_nil,List.nil_append,List.map_append,List.map_cons,List.map_nil,List.cons_append,List.append_assoc] at h3⊢
  exact h3
theorem z1Z{mi:M ItK}{K:ItK}{tg:Tg}{me:M D}{g:D->D}{sl:D->List (Option D)}{k:Nat}{items:List D}{its:List (Option D)}{ix:List Nat}{s:Stt}{σ tm:List (Option D)}{n:Nat}(hc:mi s= .ok K ⟨σ,its++tm,n⟩)(hk:its.length=K.k)(hz:items.length<sizeLine)(hat: ∀i rest,K.at' i (its++rest)=some items[i]?)(hlen:K.len (its++tm)=items.length)
 (has: ∀d∈items,(sl d).length=k/\∀os:List (Option D),os.length=k->asg tg d (os++(ix.map fun i=>(σ[i]?).getD none))=some (sl d++(ix.map fun i=>(σ[i]?).getD none)))
 (hme: ∀d∈items,∀tm n,∃n',n<=n'/\me ⟨sl d++(ix.map fun i=>(σ[i]?).getD none),tm,n⟩= .ok (g d) ⟨sl d++(ix.map fun i=>(σ[i]?).getD none),tm,n'⟩):
 ∃n',n<=n'/\z0D mi tg (rt true) me k ix s= .ok (.lst n' (items.map g)) ⟨σ,tm,n'+1⟩:=by
 obtain⟨n',h2,h3⟩:=zay (K:=K) (tg:=tg) (me:=me) (g:=g) (sl:=sl) (σ0:=σ) (tm0:=tm) hk rfl hz hat has hme items.length 0 [] (List.replicate k none) n (by simp) (by simp) (by simp)
 refine⟨n',h2, ?_⟩
 unfold z0D
 simp only[bd,hc,hlen]
 simp only[List.map_nil,List.reverse_nil,List.nil_append,List.length_nil,List.drop_zero] at h3
 exact h3
section
variable{s s1:Stt}{mo m:M D}{ms:List (M D)}{fs:List (Str⊕M D)}{g:Str->List D->M D}{z y:Str}{d:D}{l n:Nat}{σ tm:List (Option D)}
noncomputable def mthK(ms:List (M D))(g:Str->List D->M D)(x:D):M D:=match x with
 | .str z=>bd (z03 ms) (g z)
 |_=>fl
theorem zgT:z0w mo ms g s=(mo s).bnd (mthK ms g):=(rfl)
theorem zgU:mthK ms g (.str z) s=(z03 ms s).bnd (g z):=(rfl)
theorem z7d(h:z.length<=sizeLine):lenS [.str z] s= .ok (.int z.length) s:=by simp only[lenS,if_pos h];rfl
theorem zcE(h:z.length<=sizeLine):mFs [] z s= .ok (.str z) s:=by simp only[mFs,if_pos h];rfl
theorem z7e(h:(z++y).length<=sizeLine):mFs (.inl y::fs) z s=mFs fs (z++y) s:=by simp only[mFs,if_pos h]
theorem z7f(e:m s= .ok d s1)(hf:fmtD d=some y)(h:(z++y).length<=sizeLine):mFs (.inr m::fs) z s=mFs fs (z++y) s1:=by simp only[mFs,bd,e,hf,if_pos h]
theorem z8t: ∀(ys:List Str),z5o (ys.map D.str)=some ys
 |[]=>rfl
 |y::ys=>by simp only[List.map_cons,z5o,z8t ys];rfl
theorem z3t{ys:List Str}(h:(ys.map (·.length)).sum+ys.length*z.length<=sizeLine):z1R z [.lst l (ys.map D.str)] s= .ok (.str (Txt.join z ys)) s:=by
 simp only[z1R,z8t,if_pos h];rfl
theorem z3I(h:(y.length==0)=false)(hz:z.length+2<=sizeLine):z1p z [.str y] ⟨σ,tm,n⟩= .ok (.lst n ((Txt.split z y).map D.str)) ⟨σ,tm,n+1⟩:=by
 simp only[z1p,if_pos (And.intro h hz)];rfl
end
theorem zcF:sg ("0123456789" :Str)=List.range' 48 10:=by decide+kernel
theorem zj7{c:Nat}{s:Stt}:inS (.str ⟨#[c]⟩) (.str ("0123456789" :Str)) s= .ok (.bool (decide (48<=c/\c<=57))) s:=by
 unfold inS
 dsimp only
 rw[StrLaws.found_one,show("0123456789" :Str).cps.toList=List.range' 48 10 from zcF]
 show Res.ok _ s=_
 congr 3
 rw[List.mem_range'_1,eq_iff_iff]
 lia
theorem zj8{w:Str}{c:Nat}{r:List Nat}{s:Stt}(h:sg w=c::r)(hw:w.length<=1000000):ixS (.str w) (.int 0) s= .ok (.str ⟨#[c]⟩) s:=by
 have h0:w.cps[0]? =some c:=by
  rw[<-Array.getElem?_toList]
  show(sg w)[0]? =_
  rw[h];rfl
 have hl:(0:Int)<w.length:=by rw[<-z1h,h];simp
 unfold ixS
 dsimp only
 rw[if_pos ⟨by decide,by decide,hl⟩]
 show(match w.cps[0]? with|some c=>rt (.str ⟨#[c]⟩)|none=>fl:M D) s=_
 rw[h0]
 rfl
theorem zc2{w:Str}(h:(sg w).all (fun c=>decide (48<=c/\c<=57))=true)(h1:1<=w.length)(h2:w.length<=5): ∃n,PySem.intText? w=some n:=by
 refine⟨_,PySem.intText_digits (fun c hc=> ?_) (fun e=> ?_) (by lia)⟩
 ·exact of_decide_eq_true (List.all_eq_true.mp h c hc)
 ·have:=z1h w
  unfold sg at this
  rw[e] at this
  simp at this
  lia
theorem z8u(w:Str):((sg w).map fun c=>D.str ⟨#[c]⟩).length=w.length:=by rw[List.length_map,z1h]
noncomputable def digB:D->Bool
 | .str x=>(sg x).all fun c=>decide (48<=c/\c<=57)
 |_=>false
theorem z8v(c:Nat):digB (.str ⟨#[c]⟩)=decide (48<=c/\c<=57):=by
 simp[digB,z7c]
theorem zgV{w:Str}{i:Nat}{rest:List (Option D)}:(kStr w).at' i ([]++rest)=some ((sg w).map fun c=>D.str ⟨#[c]⟩)[i]? :=by
 show some ((w.cps[i]?).map _)=_
 rw[List.getElem?_map,<-Array.getElem?_toList]
 rfl
theorem zcG{w:Str}:(((sg w).map fun c=>D.str ⟨#[c]⟩).map digB).all id=(sg w).all fun c=>decide (48<=c/\c<=57):=by
 rw[List.all_map,List.all_map]
 congr 1
 funext c
 exact z8v c
theorem zaz{x y:Str}{s:Stt}:eqS (.str x) (.str y) s= .ok (.bool (x==y)) s:=(rfl)
theorem z7g{x y:Str}{s:Stt}:neS (.str x) (.str y) s= .ok (.bool (!(x==y))) s:=(rfl)
noncomputable def B_4:=BA (BA (BA (BA (BA @qg1 @qg2) (BA @qg3 @qg4)) (BA (BA @qg5 @qg6) (BA @qg7 @qg8))) (BA (BA (BA @qg9 @qg10) (BA @qg11 @qh1)) (BA (BA @qh2 @qh3) (BA @qh4 @qh5)))) (BA (BA (BA (BA @qh6 @qh7) (BA @qh9 @qh10)) (BA (BA @qh11 @x_bC) (BA @x_bV @x_c1))) (BA (BA (BA @x_a1 @x_a2) (BA @x_a3 @zj1)) (BA (BA @zgJ @zcx) (BA @zj2 @zj3))))
noncomputable def B_5:=BA (BA (BA @zeb @zbX) (BA @zbY @zbZ)) (BA (BA @zj5 @zc0) (BA @zgT @zgU))
local macro_rules | `(tactic| walk_at "") => `(tactic| (simp (config := { dsimp := false }) only [B_0, B_1, B_3, ↓B_4, B_5, isiD, z09, asg, asgL, List.replicate, Nat.reduceAdd, Nat.reduceSub, String.reduceBEq, Int.reduceBEq]))
noncomputable def B_6:=BA (BA @c0 @c1) (BA @c2 (BA @c3 @c4))
local macro_rules | `(tactic| walk_at "mh") => `(tactic| (simp (config := { dsimp := false }) only [B_0, B_1, B_3, ↓B_4, B_5, B_6, z09, asg, asgL, List.replicate, Nat.reduceAdd, Nat.reduceSub, String.reduceBEq, Int.reduceBEq, *]))
theorem zc3(w:Str)(hw:w.length<=1000000)(n:Nat): ∃n',n<=n'/\z0d [.str w] n= .ok (z1S w) [.str w] n':=by
 unfold z0d z1L
 walk_at ""
 rw[z7d (by rw[zl];lia)]
 walk_at ""
 have eA:decide (1<=(w.length:Int))=decide (1<=w.length):=by congr 1;simp only[eq_iff_iff];lia
 have eB:decide ((w.length:Int)<=5)=decide (w.length<=5):=by congr 1;simp only[eq_iff_iff];lia
 rw[eA]
 unfold z1S okN
 by_cases h1:1<=w.length
 ·rw[decide_eq_true h1]
  walk_at ""
  rw[eB]
  by_cases h5:w.length<=5
  ·rw[decide_eq_true h5]
   walk_at ""
   obtain⟨n1,g1,e1⟩:=z1Z (mi:=za7 (mVar 0)) (K:=kStr w) (tg:= .nm 0) (me:=mBin (mVar 0) (mC (.str ("0123456789" :Str))) inS) (g:=fun d=> .bool (digB d)) (sl:=fun d=>[some d]) (k:=1) (items:=(sg w).map fun c=>D.str ⟨#[c]⟩) (its:=[]) (ix:=[]) (s:=⟨[some (.str w)],[some (.str w)],n⟩) (σ:=[some (.str w)]) (tm:=[some (.str w)]) (n:=n) rfl rfl (by rw[zl,z8u];lia) (fun i rest=>zgV) (by rw[z8u];rfl) (by
    intro d hd
    refine⟨rfl,fun os ho=> ?_⟩
    match os,ho with
    |[a0],_=>rfl) (by
    intro d hd tm n
    obtain⟨c,_,rfl⟩:=List.mem_map.mp hd
    refine⟨n,Nat.le_refl _, ?_⟩
    simp only[List.map_nil,List.append_nil]
    walk_at ""
    rw[zj7,z8v])
   rw[e1]
   walk_at ""
   rw[ze8 (z54 _ digB)]
   walk_at ""
   cases ha:(sg w).all fun c=>decide (48<=c/\c<=57) with
   |false=>
    refine⟨n1+1,by lia, ?_⟩
    rw[zcG,ha]
    walk_at ""
    rfl
   |true=>
    refine⟨n1+1,by lia, ?_⟩
    rw[zcG,ha]
    walk_at ""
    obtain⟨c,r,hc⟩: ∃c r,sg w=c::r:=by
     cases e:sg w with
     |nil=>rw[<-z1h,e] at h1;simp at h1
     |cons c r=>exact⟨c,r,rfl⟩
    rw[zj8 hc hw]
    walk_at ""
    obtain⟨v,hv⟩:=zc2 ha h1 h5
    have ei: ∀s:Stt,intS [.str w] s= .ok (.int v) s:=fun s=>by simp only[intS,if_pos (show w.length<=640 by lia),hv];rfl
    rw[hc]
    simp only[List.head?_cons,zaz,z7g]
    have e0:((⟨#[c]⟩:Str)==Str.ofString "0")=(some c==some 48):=by
     rw[Bool.eq_iff_iff,beq_iff_eq,beq_iff_eq]
     constructor
     ·intro h
      have:=congrArg sg h
      rw[z7c,show sg (Str.ofString "0")=[48] by decide+kernel] at this
      simpa using this
     ·intro h
      cases h
      exact z2k (by rw[z7c];decide+kernel)
    rw[e0]
    walk_at ""
    rcases Bool.eq_false_or_eq_true (some c==some 48) with hq|hq
    ·simp only[hq]
     walk_at ""
     simp only[z7g]
     walk_at ""
     rcases Bool.eq_false_or_eq_true (w==Str.ofString "0") with hr|hr
     ·simp only[hr]
      walk_at ""
      rw[ei,hv]
      walk_at ""
      rfl
     ·simp only[hr]
      walk_at ""
      rfl
    ·simp only[hq]
     walk_at ""
     rw[ei,hv]
     walk_at ""
     rfl
  ·rw[decide_eq_false h5]
   refine⟨n,Nat.le_refl _, ?_⟩
   walk_at ""
   rfl
 ·rw[decide_eq_false h1]
  refine⟨n,Nat.le_refl _, ?_⟩
  walk_at ""
  rfl
noncomputable def z7S:D->Bool
 | .non=>true
 |_=>false
noncomputable def rE:D->D
 | .str x=>z1S x
 |_=> .non
theorem z6t(w:Str):z1S w= .non\/∃i:Int,z1S w= .int i:=by
 unfold z1S
 split
 ·exact .inr ⟨_,rfl⟩
 ·exact .inl rfl
noncomputable def Nn(ds:List D):Prop:= ∀d∈ds,d= .non\/∃i:Int,d= .int i
theorem zgW: ∀{ds:List D},Nn ds->Mi.plainL ds=true/\PyData.canLayAll0 (erL ds)=true/\((erL ds).any fun y=>PyData.eqv y (er .non))=ds.any z7S
 |[],_=>⟨rfl,rfl,rfl⟩
 |d::ds,h=>by
  obtain⟨h1,h2,h3⟩:=zgW (ds:=ds) fun e he=>h e (by simp[he])
  rcases h d (by simp) with rfl|⟨i,rfl⟩
  ·refine⟨by simp only[Mi.plainL,Mi.plain,h1];rfl,by simp only[erL,er,PyData.canLayAll0,PyData.canLay0,h2];rfl, ?_⟩
   simp only[erL,List.any_cons,h3,z7S,er,PyData.eqv]
   rfl
  ·refine⟨by simp only[Mi.plainL,Mi.plain,h1];rfl,by simp only[erL,er,PyData.canLayAll0,PyData.canLay0,h2];rfl, ?_⟩
   rw[erL,List.any_cons,List.any_cons,h3]
   rfl
theorem zj9{l:Nat}{ds:List D}{s:Stt}(h:Nn ds):inD .non (.lst l ds) s= .ok (.bool (ds.any z7S)) s:=by
 obtain⟨h1,h2,h3⟩:=zgW h
 rw[y_in (ds:=ds) rfl (by
  simp only[inC,h1,h2,Mi.plain,er,PyData.canLay0,Bool.and_self,Bool.true_and,decide_eq_true_eq,PyData.depth]
  exact Nat.le_trans (Nat.min_le_right _ _) (by decide)),h3]
noncomputable def z3e(w:Str):D:=if(((Txt.split w (Str.ofString ".")).map z1S).any z7S)=true then .non else .tup ((Txt.split w (Str.ofString ".")).map z1S)
noncomputable def z2l(w:Str):D:=match Txt.split w (Str.ofString ":") with
 |[a,b,c,d]=> .tup [z1S a,z3e b,z1S c,z1S d]
 |_=> .non
theorem zgX(ys:List Str):(ys.map D.str).map rE=ys.map z1S:=by rw[List.map_map];rfl
theorem z1P{w y:Str}(hw:w.length<=1000000):(Txt.split w y).length<=1000002:=by
 unfold Txt.split
 split
 ·simp
 ·split
  ·simp
  ·have e1:=StrLaws.occ_length_le w y 0 w.length (w.length+1)
   rw[length_partsBetween]
   lia
theorem p_sh{x y a:Str}(h:a∈Txt.split x y):a.length<=x.length:=PyProof.Rows.part_short h
theorem sep1(c:Nat)(x:Str)(h:sg x=[c]):x=⟨#[c]⟩/\(x.length==0)=false:=by
 have e:x=⟨#[c]⟩:=z2k (by rw[h];rfl)
 exact⟨e,by rw[e];rfl⟩
theorem zc4:sg (Str.ofString ".")=[46]:=by decide+kernel
theorem zaA:sg (Str.ofString ":")=[58]:=by decide+kernel
theorem z5x:sg (Str.ofString " ")=[32]:=by decide+kernel
theorem z3J:sg (Str.ofString ";")=[59]:=by decide+kernel
theorem zcH:((Str.ofString ".").length==0)=false:=(sep1 _ _ zc4).2
theorem zcI:((Str.ofString ":").length==0)=false:=(sep1 _ _ zaA).2
theorem zcJ:((Str.ofString " ").length==0)=false:=(sep1 _ _ z5x).2
theorem zcK:((Str.ofString ";").length==0)=false:=(sep1 _ _ z3J).2
theorem zgY(w:Str)(hw:w.length<=1000000)(n:Nat): ∃n',n<=n'/\z0G [.str w] n= .ok (z3e w) [.str w] n':=by
 have hc:=z1P (y:=Str.ofString ".") hw
 obtain⟨n1,g1,e1⟩:=z1Z (mi:=z0l (z0w (mVar 0) [(mC (.str ("." :Str)))] z1p)) (K:=kLst) (tg:= .nm 0) (me:=mCall z0d [(mVar 0)]) (g:=rE) (sl:=fun d=>[some d]) (k:=1) (items:=(Txt.split w (Str.ofString ".")).map D.str) (its:=[some (.lst n ((Txt.split w (Str.ofString ".")).map D.str))]) (ix:=[]) (s:=⟨[some (.str w),none],[some (.str w)],n⟩) (σ:=[some (.str w),none]) (tm:=[some (.str w)]) (n:=n+1) (z7b (by
  walk_at ""
  rw[z3I zcH (by rw[zl];lia)]
  rfl)) rfl (by rw[zl,List.length_map];lia) (fun i rest=>rfl) rfl (by
  intro d hd
  refine⟨rfl,fun os ho=> ?_⟩
  match os,ho with
  |[a0],_=>rfl) (by
  intro d hd tm n
  obtain⟨p,hp,rfl⟩:=List.mem_map.mp hd
  obtain⟨n',h1,e⟩:=zc3 p (Nat.le_trans (p_sh hp) hw) n
  refine⟨n',h1, ?_⟩
  simp only[List.map_nil,List.append_nil]
  walk_at ""
  rw[e]
  walk_at ""
  rfl)
 rw[zgX] at e1
 have hN:Nn ((Txt.split w (Str.ofString ".")).map z1S):=fun d hd=>by
  obtain⟨p,_,rfl⟩:=List.mem_map.mp hd
  exact z6t p
 refine⟨n1+1,by lia, ?_⟩
 unfold z0G z1M
 walk_at ""
 rw[e1]
 walk_at ""
 rw[zj9 hN]
 unfold z3e
 cases((Txt.split w (Str.ofString ".")).map z1S).any z7S with
 |true=>walk_at "";rfl
 |false=>walk_at "";rfl
theorem zgZ(w:Str)(hw:w.length<=1000000)(n:Nat): ∃n',n<=n'/\z0M [.str w] n= .ok (z2l w) [.str w] n':=by
 unfold z0M z2e
 walk_at ""
 rw[z3I zcI (by rw[zl];lia)]
 walk_at ""
 unfold z2l
 have hs: ∀p∈Txt.split w (Str.ofString ":"),p.length<=1000000:=fun p hp=>Nat.le_trans (p_sh hp) hw
 generalize Txt.split w (Str.ofString ":")=ps at hs
 by_cases hl:ps.length=4
 ·rcases ps with _|⟨a,_|⟨b,_|⟨c,_|⟨d,_|⟨e,r⟩⟩⟩⟩⟩<;>simp at hl
  walk_at ""
  rw[show(((4:Nat):Int)==4)=true from rfl]
  walk_at ""
  obtain⟨n1,g1,e1⟩:=zc3 a (hs a (by simp)) (n+1)
  obtain⟨n2,g2,e2⟩:=zgY b (hs b (by simp)) n1
  obtain⟨n3,g3,e3⟩:=zc3 c (hs c (by simp)) n2
  obtain⟨n4,g4,e4⟩:=zc3 d (hs d (by simp)) n3
  refine⟨n4,by lia, ?_⟩
  rw[e1]
  walk_at ""
  rw[e2]
  walk_at ""
  rw[e3]
  walk_at ""
  rw[e4]
  walk_at ""
 ·have e:(((ps.length:Nat):Int)==4)=false:=by simp;lia
  refine⟨n+1,by lia, ?_⟩
  simp only[List.length_map]
  simp only[e]
  walk_at ""
  congr 2
  rcases ps with _|⟨a,_|⟨b,_|⟨c,_|⟨d,_|⟨e,r⟩⟩⟩⟩⟩<;>first|rfl|(simp at hl)
theorem z5d{i:Int}{s:Stt}(h:i.natAbs.log2<1920):strA [.int i] s= .ok (.str (num i)) s:=by simp only[strA,if_pos h];rfl
noncomputable def Nm(s:List Int):Prop:= ∀i∈s,0<=i/\i<100000
noncomputable def dt(s:List Int):Str:=Txt.join (Str.ofString ".") (s.map num)
theorem zeg(s:List Int):(iL s).map (fun d=>match d with| .int i=>D.str (num i)|_=> .non)=(s.map num).map D.str:=by
 unfold iL
 rw[List.map_map,List.map_map]
 rfl
theorem zaB{z:Str}{ys:List Str}{B:Nat}(h: ∀y∈ys,y.length<=B):(Txt.join z ys).length<=ys.length*(B+z.length)/\(ys.map (·.length)).sum+ys.length*z.length<=ys.length*(B+z.length):=by
 have h1:=StrLaws.join_length_le z ys
 have h2:=StrLaws.sumLen_le ys h
 have e:Txt.join z ys=z.join ys:=StrLaws.glued_eq_join z ys
 rw[e]
 have h3:ys.length*(B+z.length)=ys.length*B+ys.length*z.length:=Nat.mul_add _ _ _
 lia
theorem zh0{s:List Int}(h:Nm s): ∀y∈s.map num,y.length<=5:=fun y hy=>by
 obtain⟨i,hi,rfl⟩:=List.mem_map.mp hy
 exact z1Y (h i hi).1 (h i hi).2
theorem zh1:(Str.ofString ".").length=1:=by rw[<-z1h,zc4];rfl
theorem z5y:(Str.ofString ":").length=1:=by rw[<-z1h,zaA];rfl
theorem zh2:(Str.ofString " ").length=1:=by rw[<-z1h,z5x];rfl
theorem z5z:(Str.ofString ";").length=1:=by rw[<-z1h,z3J];rfl
theorem z7h{s:List Int}(h:Nm s)(hl:s.length<=24):(dt s).length<=144/\((s.map num).map (·.length)).sum+(s.map num).length*(Str.ofString ".").length<=144:=by
 have:=zaB (z:=Str.ofString ".") (zh0 h)
 rw[zh1,List.length_map] at this
 unfold dt
 rw[zh1,List.length_map]
 lia
noncomputable def gN:D->D:=fun d=>match d with| .int i=>D.str (num i)|_=> .non
theorem zaC(s:List Int)(h:Nm s)(hl:s.length<=24)(n:Nat): ∃n',n<=n'/\f_p_dotted [.tup (iL s)] n= .ok (.str (dt s)) [.tup (iL s)] n':=by
 obtain⟨n1,g1,e1⟩:=z1Z (mi:=z0l (mVar 0)) (K:=kTup) (tg:= .nm 0) (me:=mCB [(mVar 0)] strA) (g:=gN) (sl:=fun d=>[some d]) (k:=1) (items:=iL s) (its:=[some (.tup (iL s))]) (ix:=[]) (s:=⟨[some (.tup (iL s))],[some (.tup (iL s))],n⟩) (σ:=[some (.tup (iL s))]) (tm:=[some (.tup (iL s))]) (n:=n) rfl rfl (by rw[zl];simp only[iL,List.length_map];lia) (fun i rest=>rfl) rfl (by
  intro d hd
  refine⟨rfl,fun os ho=> ?_⟩
  match os,ho with
  |[a0],_=>rfl) (by
  intro d hd tm n
  obtain⟨i,hi,rfl⟩:=List.mem_map.mp hd
  refine⟨n,Nat.le_refl _, ?_⟩
  simp only[List.map_nil,List.append_nil]
  walk_at ""
  rw[z5d (z3c (h i hi).1 (h i hi).2)]
  rfl)
 rw[show(iL s).map gN=(s.map num).map D.str from zeg s] at e1
 refine⟨n1+1,by lia, ?_⟩
 have hd:=z7h h hl
 unfold f_p_dotted z4f
 walk_at ""
 rw[e1]
 walk_at ""
 rw[z3t (by rw[zl];lia)]
 walk_at ""
 rfl
theorem zaD(s:List Int)(h:Nm s)(hl:s.length<=24)(n:Nat): ∃n',n<=n'/\z3j [.tup (iL s)] n= .ok (.str (dt s)) [.tup (iL s)] n':=zaC s h hl n
noncomputable def Pz.ok(p:Pz):Prop:=(0<=p.e/\p.e<100000)/\(Nm p.ss/\1<=p.ss.length/\p.ss.length<=24)/\(0<=p.k/\p.k<100000)/\(0<=p.c/\p.c<100000)
noncomputable def pT(p:Pz):Str:=Str.empty++num p.e++Str.ofString ":" ++dt p.ss++Str.ofString ":" ++num p.k++Str.ofString ":" ++num p.c
theorem zh3{p:Pz}(h:p.ok):(pT p).length<=162:=by
 have h1:=z1Y h.1.1 h.1.2
 have h2:=(z7h h.2.1.1 h.2.1.2.2).1
 have h3:=z1Y h.2.2.1.1 h.2.2.1.2
 have h4:=z1Y h.2.2.2.1 h.2.2.2.2
 unfold pT
 simp only[Str.length_append,z5y]
 have:Str.empty.length=0:=rfl
 lia
theorem fm_i{i:Int}(h:0<=i/\i<100000):fmtD (.int i)=some (num i):=by simp only[fmtD,if_pos (z3c h.1 h.2)];rfl
theorem fm_s{x:Str}(h:x.length<=sizeLine):fmtD (.str x)=some x:=by simp only[fmtD,if_pos h]
theorem zja(p:Pz)(h:p.ok)(n:Nat): ∃n',n<=n'/\z0L [p.d] n= .ok (.str (pT p)) [p.d] n':=by
 obtain⟨n1,g1,e1⟩:=zaC p.ss h.2.1.1 h.2.1.2.2 n
 have l1:=z1Y h.1.1 h.1.2
 have l2:=(z7h h.2.1.1 h.2.1.2.2).1
 have l3:=z1Y h.2.2.1.1 h.2.2.1.2
 have l4:=z1Y h.2.2.2.1 h.2.2.2.2
 have l0:Str.empty.length=0:=rfl
 have ec: ∀tm,mCall f_p_dotted [(mVar 2)] ⟨[some p.d,some (.int p.e),some (.tup (iL p.ss)),some (.int p.k),some (.int p.c)],tm,n⟩= .ok (.str (dt p.ss)) ⟨[some p.d,some (.int p.e),some (.tup (iL p.ss)),some (.int p.k),some (.int p.c)],tm,n1⟩:=fun tm=>by
  walk_at ""
  rw[e1]
  walk_at ""
 refine⟨n1,g1, ?_⟩
 unfold z0L z2d Pz.d
 walk_at ""
 show((mFs _ _ ⟨[some p.d,_,_,_,_],[some p.d],n⟩).lf _).fin=_
 rw[z7f (m:=mVar 1) (d:= .int p.e) rfl (fm_i h.1) (by rw[zl];simp only[Str.length_append,z5y];lia),z7e (by rw[zl];simp only[Str.length_append,z5y];lia),z7f (ec _) (fm_s (by rw[zl];lia)) (by rw[zl];simp only[Str.length_append,z5y];lia),z7e (by rw[zl];simp only[Str.length_append,z5y];lia),z7f (m:=mVar 3) (d:= .int p.k) rfl (fm_i h.2.2.1) (by rw[zl];simp only[Str.length_append,z5y];lia),z7e (by rw[zl];simp only[Str.length_append,z5y];lia),z7f (m:=mVar 4) (d:= .int p.c) rfl (fm_i h.2.2.2) (by rw[zl];simp only[Str.length_append,z5y];lia),zcE (by rw[zl];simp only[Str.length_append,z5y];lia)]
 walk_at ""
 rfl
noncomputable def bI(b:Bool):Int:=if b=true then 1 else 0
noncomputable def bT(b:Bool):Str:=if b=true then Str.ofString "1" else Str.ofString "0"
noncomputable def pn(p:Pz):List Int:=p.e::(p.ss++[p.k,p.c])
noncomputable def numI(c:Cm)(i:Nat):List Int:=c.S++(bI c.b::(c.C.take i).flatMap pn)
noncomputable def nums(c:Cm):List Int:=c.S++(bI c.b::c.C.flatMap pn)
noncomputable def z5e:Nat->List Int->List Int
 |_,[]=>[]
 |k,x::r=>(k:Int)*x::z5e (k+1) r
noncomputable def chk(c:Cm):Int:=(z5e 1 (nums c)).sum %997
noncomputable def enI:Nat->List Int->List D
 |_,[]=>[]
 |k,x::r=> .tup [.int (k:Nat), .int x]::enI (k+1) r
theorem zcL: ∀(k:Nat) (xs:List Int) (i:Nat),(enI k xs)[i]? =((iL xs)[i]?).map fun d=>D.tup [.int ((k+i:Nat):Int),d]
 |_,[],i=>by simp[enI,iL]
 |k,x::r,0=>by simp[enI,iL]
 |k,x::r,i+1=>by
  have:=zcL (k+1) r i
  simp only[enI,iL,List.map_cons,List.getElem?_cons_succ] at this⊢
  rw[this,show k+1+i=k+(i+1) by lia]
theorem zaE: ∀(k:Nat) (xs:List Int),(enI k xs).length=xs.length
 |_,[]=>rfl
 |k,x::r=>by simp[enI,zaE (k+1) r]
noncomputable def gM:D->D
 | .tup [.int a, .int b]=> .int (a*b)
 |_=> .non
theorem zcM: ∀(k:Nat) (xs:List Int),(enI k xs).map gM=iL (z5e k xs)
 |_,[]=>rfl
 |k,x::r=>by
  have:=zcM (k+1) r
  simp only[enI,List.map_cons,z5e,iL,gM] at this⊢
  rw[this]
theorem zaF: ∀{k:Nat} {xs:List Int} {d:D},d∈enI k xs->∃(j:Nat) (x:Int),j<k+xs.length/\d= .tup [.int (j:Nat), .int x]
 |_,[],d,h=>nomatch h
 |k,x::r,d,h=>by
  rcases List.mem_cons.mp (show d∈ .tup [.int (k:Nat), .int x]::enI (k+1) r from h) with rfl|h
  ·exact⟨k,x,by simp,rfl⟩
  ·obtain⟨j,y,h1,h2⟩:=zaF h
   exact⟨j,y,by simp only[List.length_cons];lia,h2⟩
theorem zaG: ∀(xs:List Int),z3q (iL xs)=some xs
 |[]=>rfl
 |x::xs=>by
  have:=zaG xs
  simp only[iL,List.map_cons,z3q] at this⊢
  rw[this]
theorem zjb{l:Nat}{xs:List Int}{s:Stt}:sumD [.lst l (iL xs)] s= .ok (.int xs.sum) s:=by simp only[sumD,zaG];rfl
theorem zjc{l:Nat}{ds es:List D}{s:Stt}(h:ds.length+es.length<=sizeLine/\l∉labsL es):extD (.lst l ds) [.tup es] s= .ok .non (s.put l (.lst l (ds++es))):=by
 simp only[extD,seqD,if_pos h]
theorem zh4{l k:Nat}{ds es:List D}{s:Stt}(h:ds.length+es.length<=sizeLine/\l∉labsL es):extD (.lst l ds) [.lst k es] s= .ok .non (s.put l (.lst l (ds++es))):=by
 simp only[extD,seqD,if_pos h]
theorem it_i{b:Bool}{s:Stt}:iteM b (mC (.int 1)) (mC (.int 0)) s= .ok (.int (bI b)) s:=by cases b<;>rfl
theorem it_s{b:Bool}{s:Stt}:iteM b (mC (.str (Str.ofString "1"))) (mC (.str (Str.ofString "0"))) s= .ok (.str (bT b)) s:=by cases b<;>rfl
noncomputable def Cm.ok(c:Cm):Prop:=(Nm c.S/\1<=c.S.length/\c.S.length<=24)/\(1<=c.C.length/\c.C.length<=24)/\∀p∈c.C,p.ok
theorem zh5(a b:List Int):iL a++iL b=iL (a++b):=by simp[iL]
theorem z7T(s:List Int):labsL (iL s)=[]:=by
 induction s with
 |nil=>rfl
 |cons x s ih=>simp only[iL,List.map_cons,labsL,labs,List.nil_append] at ih⊢;exact ih
theorem zcN{c:Cm}{i:Nat}(h:i<c.C.length):numI c (i+1)=numI c i++pn c.C[i]:=by
 unfold numI
 rw[List.take_succ,List.getElem?_eq_getElem h,Option.toList_some,List.flatMap_append,List.flatMap_singleton,<-List.cons_append,<-List.append_assoc]
theorem z8w{c:Cm}:numI c c.C.length=nums c:=by unfold numI nums;rw[List.take_of_length_le (Nat.le_refl _)]
theorem zaH{p:Pz}(h:p.ok):(pn p).length<=27:=by
 have:=h.2.1.2.2
 simp only[pn,List.length_cons,List.length_append,List.length_nil]
 lia
theorem z8x: ∀{C:List Pz},(∀p∈C,p.ok)->(C.flatMap pn).length<=27*C.length
 |[],_=>by simp
 |p::C,h=>by
  have h1:=zaH (h p (by simp))
  have h2:=z8x (C:=C) fun q hq=>h q (by simp[hq])
  simp only[List.flatMap_cons,List.length_append,List.length_cons]
  lia
theorem z4A{c:Cm}(h:c.ok){i:Nat}:(numI c i).length<=700:=by
 have h1:=z8x (C:=c.C.take i) fun p hp=>h.2.2 p (List.mem_of_mem_take hp)
 have h2:=h.1.2.2
 have h3:=h.2.1.2
 have h4:(c.C.take i).length<=c.C.length:=by simp only[List.length_take];lia
 simp only[numI,List.length_append,List.length_cons]
 lia
theorem z0o(s:List Int):(iL s).length=s.length:=by simp[iL]
theorem zeh{l:Nat}{ds:List D}{i:Nat}{tm:List (Option D)}:kEns.at' i (some (.lst l ds)::tm)=some ((ds[i]?).map fun d=>D.tup [.int ((i+1:Nat):Int),d]):=rfl
theorem zjd{L m:Nat}{d:D}{s:List Int}(h:L≠m):rp (pl m d) (.lst L (iL s))= .lst L (iL s):=by rw[z5w h,rL_i]
noncomputable def ckM:MS:=(z2n (z26 (mVar 4) [(mBin (mBin (mCB [(mVar 5)] tupD) (mVar 6) addD) (mCB [(mVar 7),(mVar 8)] tupD) addD)] extD))
theorem zh6(c:Cm)(hc:c.ok)(n:Nat): ∃n',n<=n'/\z0S [c.d] n= .ok (.int (chk c)) [c.d] n':=by
 obtain⟨s',e,o5,o6,o7,o8,y5,y6,y7,y8,rfl⟩:=z6s (K:=kTup) (g:= .tp [(.nm 5),(.nm 6),(.nm 7),(.nm 8)]) (b:=ckM) (item:=fun i=>(psD c.C).getD i .non) (N:=c.C.length) (P:=fun i s=> ∃(o5 o6 o7 o8:Option D),Fx o5/\Fx o6/\Fx o7/\Fx o8/\s=⟨[some c.d,some (.tup (iL c.S)),some (.tup (psD c.C)),some (.bool c.b),some (.lst (n+1+1) (iL (numI c i))),o5,o6,o7,o8],[some (.tup (psD c.C)),some c.d],n+1+1+1⟩)
  (by rintro i s ⟨_,_,_,_,_,_,_,_,rfl⟩;rw[zcD,z3d])
  (by
   rintro i hi s ⟨o5,o6,o7,o8,y5,y6,y7,y8,rfl⟩
   rw[zgS hi]
   refine⟨_,rfl, ?_⟩
   have hp:=hc.2.2 _ (List.getElem_mem hi)
   have l1:=z4A hc (i:=i)
   have l2:=zaH hp
   have l3:=hp.2.1.2.2
   have ee:[D.int c.C[i].e]++iL c.C[i].ss++[.int c.C[i].k, .int c.C[i].c]=iL (pn c.C[i]):=by simp[iL,pn]
   refine⟨_, ?_,some (.int c.C[i].e),some (.tup (iL c.C[i].ss)),some (.int c.C[i].k),some (.int c.C[i].c),Fx.int,Fx.iL,Fx.int,Fx.int,rfl⟩
   rw[zcN hi]
   unfold ckM
   walk_at ""
   rw[zaj (by rw[zl];simp only[List.length_cons,List.length_nil,z0o];lia)]
   walk_at ""
   rw[zaj (by rw[zl];simp only[List.length_cons,List.length_nil,List.length_append,z0o];lia)]
   walk_at ""
   rw[show D.int c.C[i].e::(iL c.C[i].ss++[.int c.C[i].k, .int c.C[i].c])=iL (pn c.C[i]) from ee,zjc ⟨by rw[zl,z0o,z0o];lia,by rw[z7T];exact List.not_mem_nil⟩]
   walk_at ""
   simp only[z7R,rL_p,rL_i,zh5])
  c.C.length 0 ⟨[some c.d,some (.tup (iL c.S)),some (.tup (psD c.C)),some (.bool c.b),some (.lst (n+1+1) (iL (numI c 0))),none,none,none,none],[some (.tup (psD c.C)),some c.d],n+1+1+1⟩ (by lia) ⟨none,none,none,none, .no, .no, .no, .no,rfl⟩
 rw[zc1,z5b,z8w] at e
 have hl:(nums c).length<=700:=by rw[<-z8w];exact z4A hc
 obtain⟨n1,g1,e1⟩:=z1Z (mi:=mEns [(mVar 4)]) (K:=kEns) (tg:= .tp [(.nm 0),(.nm 1)]) (me:=mBin (mVar 0) (mVar 1) mulD) (g:=gM) (sl:=fun d=>match d with| .tup [a,b]=>[some a,some b]|_=>[]) (k:=2) (items:=enI 1 (nums c)) (its:=[some (.lst (n+1+1) (iL (nums c)))]) (ix:=[]) (s:=⟨[some c.d,some (.tup (iL c.S)),some (.tup (psD c.C)),some (.bool c.b),some (.lst (n+1+1) (iL (nums c))),o5,o6,o7,o8],[some c.d],n+1+1+1⟩) (σ:=[some c.d,some (.tup (iL c.S)),some (.tup (psD c.C)),some (.bool c.b),some (.lst (n+1+1) (iL (nums c))),o5,o6,o7,o8]) (tm:=[some c.d]) (n:=n+1+1+1) rfl rfl (by rw[zl,zaE];lia) (fun i rest=>by
  rw[List.singleton_append,zeh,zcL,Nat.add_comm 1 i]) (by rw[zaE];exact z0o _) (by
  intro d hd
  obtain⟨j,x,_,rfl⟩:=zaF hd
  refine⟨rfl,fun os ho=> ?_⟩
  match os,ho with
  |[a0,a1],_=>rfl) (by
  intro d hd tm n
  obtain⟨j,x,hj,rfl⟩:=zaF hd
  refine⟨n,Nat.le_refl _, ?_⟩
  simp only[List.map_nil,List.append_nil]
  walk_at ""
  rw[z7L (.inl ⟨by lia,by lia⟩)]
  rfl)
 rw[zcM] at e1
 refine⟨n1+1,by lia, ?_⟩
 have e0:z38=(seqS (sAsg (.tp [(.nm 1),(.nm 2),(.nm 3)]) (mVar 0)) (seqS (sAsg (.nm 4) (mBin (mCB [(mVar 1)] z5k) (mCB [(mIf (z0J (mVar 3)) (mC (.int 1)) (mC (.int 0)))] lstM) addD)) (seqS (sFor (z0l (mVar 2)) (.tp [(.nm 5),(.nm 6),(.nm 7),(.nm 8)]) ckM) (sRet (mBin (mCB [(z0D (mEns [(mVar 4)]) (.tp [(.nm 0),(.nm 1)]) (rt true) (mBin (mVar 0) (mVar 1) mulD) 2 [])] sumD) (mC (.int 997)) modD))))):=rfl
 have hS:=hc.1.2.2
 unfold z0S
 rw[e0]
 unfold Cm.d
 walk_at ""
 rw[it_i]
 walk_at ""
 rw[z4q (by rw[zl];simp only[List.length_cons,List.length_nil,z0o];lia)]
 walk_at ""
 have e2:iL c.S++[D.int (bI c.b)]=iL (numI c 0):=by simp[iL,numI]
 rw[e2,show ∀σ tm n,z0l (mVar 2) ⟨some (.tup [.tup (iL c.S), .tup (psD c.C), .bool c.b])::some (.tup (iL c.S))::some (.tup (psD c.C))::σ,tm,n⟩= .ok kTup ⟨some (.tup [.tup (iL c.S), .tup (psD c.C), .bool c.b])::some (.tup (iL c.S))::some (.tup (psD c.C))::σ,some (.tup (psD c.C))::tm,n⟩ from fun _ _ _=>rfl]
 walk_at ""
 rw[show kTup.len [some (.tup (psD c.C)),some (.tup [.tup (iL c.S), .tup (psD c.C), .bool c.b])]=c.C.length from z3d]
 unfold Cm.d at e e1
 rw[e]
 walk_at ""
 rw[e1]
 walk_at ""
 rw[zjb]
 walk_at ""
 rw[z55 (by decide)]
 walk_at ""
 rfl
noncomputable def eT(k:Int):Str:=Str.empty++Str.ofString "=" ++num k++Str.ofString ";"
noncomputable def rP(c:Cm):List Str:=dt c.S::bT c.b::(c.C.map pT++[eT (chk c)])
noncomputable def rT(c:Cm):Str:=Txt.join (Str.ofString " ") (rP c)
theorem z9f(c:Cm):0<=chk c/\chk c<100000:=by
 unfold chk
 have h1:=Int.emod_nonneg (z5e 1 (nums c)).sum (show(997:Int)≠0 by decide)
 have h2:=Int.emod_lt_of_pos (z5e 1 (nums c)).sum (show(0:Int)<997 by decide)
 lia
theorem s_eq:sg (Str.ofString "=")=[61]:=by decide+kernel
theorem l_eq:(Str.ofString "=").length=1:=by rw[<-z1h,s_eq];rfl
theorem zh7(c:Cm):(eT (chk c)).length<=7:=by
 have:=z1Y (z9f c).1 (z9f c).2
 unfold eT
 simp only[Str.length_append,l_eq,z5z]
 have:Str.empty.length=0:=rfl
 lia
theorem zei(b:Bool):sg (bT b)=[if b=true then 49 else 48]:=by cases b<;>decide+kernel
theorem zh8(b:Bool):(bT b).length=1:=by rw[<-z1h,zei];rfl
theorem zaI{c:Cm}(h:c.ok):(∀y∈rP c,y.length<=162)/\(rP c).length<=27:=by
 refine⟨fun y hy=> ?_, ?_⟩
 ·simp only[rP,List.mem_cons,List.mem_append,List.not_mem_nil,or_false] at hy
  rcases hy with rfl|rfl|hy|rfl
  ·exact Nat.le_trans (z7h h.1.1 h.1.2.2).1 (by decide)
  ·rw[zh8];decide
  ·obtain⟨p,hp,rfl⟩:=List.mem_map.mp hy
   exact zh3 (h.2.2 p hp)
  ·exact Nat.le_trans (zh7 c) (by decide)
 ·have:=h.2.1.2
  simp only[rP,List.length_cons,List.length_append,List.length_map,List.length_nil]
  lia
theorem zaJ{c:Cm}(h:c.ok):(rT c).length<=5000/\((rP c).map (·.length)).sum+(rP c).length*(Str.ofString " ").length<=5000:=by
 have h1:=zaB (z:=Str.ofString " ") (zaI h).1
 have h2:=(zaI h).2
 rw[zh2] at h1⊢
 unfold rT
 have h3:(rP c).length*(162+1)<=27*163:=Nat.mul_le_mul_right _ h2
 lia
noncomputable def gP:D->D
 | .tup [.int e, .tup ss, .int k, .int c]=> .str (pT ⟨e,ss.map (fun d=>match d with| .int i=>i|_=>0),k,c⟩)
 |_=> .non
theorem gP_d(p:Pz):gP p.d= .str (pT p):=by
 have e: ∀s:List Int,(iL s).map (fun d:D=>match d with| .int i=>i|_=>0)=s:=fun s=>by
  induction s with
  |nil=>rfl
  |cons i s ih=>simp only[iL,List.map_cons] at ih⊢;rw[ih]
 simp only[Pz.d,gP]
 rw[e]
theorem zh9(C:List Pz):(psD C).map gP=(C.map pT).map D.str:=by
 unfold psD
 rw[List.map_map,List.map_map]
 exact List.map_congr_left fun p _=>gP_d p
theorem zje(f:Nat->Option D)(ys:List Str):rpL f (ys.map D.str)=ys.map D.str:=by
 induction ys with
 |nil=>rfl
 |cons y ys ih=>simp only[List.map_cons,z2J,zao] at ih⊢;rw[ih]
theorem zjf(c:Cm)(hc:c.ok)(n:Nat): ∃n',n<=n'/\z1V [c.d] n= .ok (.str (rT c)) [c.d] n':=by
 obtain⟨n1,g1,e1⟩:=zaC c.S hc.1.1 hc.1.2.2 n
 have l24:=hc.2.1.2
 obtain⟨n2,g2,e2⟩:=z1Z (mi:=z0l (mVar 2)) (K:=kTup) (tg:= .nm 0) (me:=mCall z0L [(mVar 0)]) (g:=gP) (sl:=fun d=>[some d]) (k:=1) (items:=psD c.C) (its:=[some (.tup (psD c.C))]) (ix:=[]) (s:=⟨[some c.d,some (.tup (iL c.S)),some (.tup (psD c.C)),some (.bool c.b),some (.lst n1 [.str (dt c.S), .str (bT c.b)])],[some (.lst n1 [.str (dt c.S), .str (bT c.b)]),some c.d],n1+1⟩) (σ:=[some c.d,some (.tup (iL c.S)),some (.tup (psD c.C)),some (.bool c.b),some (.lst n1 [.str (dt c.S), .str (bT c.b)])]) (tm:=[some (.lst n1 [.str (dt c.S), .str (bT c.b)]),some c.d]) (n:=n1+1) rfl rfl (by rw[zl,z3d];lia) (fun i rest=>rfl) rfl (by
  intro d hd
  refine⟨rfl,fun os ho=> ?_⟩
  match os,ho with
  |[a0],_=>rfl) (by
  intro d hd tm n
  obtain⟨p,hp,rfl⟩:=List.mem_map.mp hd
  obtain⟨n',h1,e⟩:=zja p (hc.2.2 p hp) n
  refine⟨n',h1, ?_⟩
  simp only[List.map_nil,List.append_nil]
  walk_at ""
  rw[e,gP_d]
  walk_at "")
 rw[zh9] at e2
 obtain⟨n3,g3,e3⟩:=zh6 c hc (n2+1)
 have hk:=z9f c
 have l5:=z1Y hk.1 hk.2
 have l0:Str.empty.length=0:=rfl
 have ef:mFs [.inl ("=" :Str), .inr (mCall z0S [(mVar 0)]), .inl (";" :Str)] Str.empty ⟨[some c.d,some (.tup (iL c.S)),some (.tup (psD c.C)),some (.bool c.b),some (.lst n1 (D.str (dt c.S):: .str (bT c.b)::(c.C.map pT).map D.str))],[some (.lst n1 (D.str (dt c.S):: .str (bT c.b)::(c.C.map pT).map D.str)),some c.d],n2+1⟩= .ok (.str (eT (chk c))) ⟨[some c.d,some (.tup (iL c.S)),some (.tup (psD c.C)),some (.bool c.b),some (.lst n1 (D.str (dt c.S):: .str (bT c.b)::(c.C.map pT).map D.str))],[some (.lst n1 (D.str (dt c.S):: .str (bT c.b)::(c.C.map pT).map D.str)),some c.d],n3⟩:=by
  rw[z7e (by rw[zl];simp only[Str.length_append,l_eq];lia),z7f (m:=mCall z0S [(mVar 0)]) (d:= .int (chk c)) (by
   walk_at ""
   rw[e3]
   walk_at ""
   rfl) (fm_i hk) (by rw[zl];simp only[Str.length_append,l_eq];lia),z7e (by rw[zl];simp only[Str.length_append,l_eq,z5z];lia),zcE (by rw[zl];simp only[Str.length_append,l_eq,z5z];lia)]
  rfl
 have hr:=zaJ hc
 refine⟨n3,by lia, ?_⟩
 have ed:c.d= .tup [.tup (iL c.S), .tup (psD c.C), .bool c.b]:=rfl
 unfold z1V z39
 rw[ed]
 walk_at ""
 rw[e1]
 walk_at ""
 rw[it_s]
 walk_at ""
 rw[<-ed,e2]
 walk_at ""
 rw[zh4 ⟨by rw[zl];simp only[List.length_cons,List.length_nil,List.length_map];lia,by rw[z2T];exact List.not_mem_nil⟩]
 walk_at ""
 simp only[z7R,rL_p,rL_i]
 rw[ef]
 walk_at ""
 rw[z7M ⟨by rw[zl];simp only[List.length_cons,List.length_nil,List.length_map];lia,by simp[labs]⟩]
 walk_at ""
 simp only[z7R,rL_p,rL_i]
 rw[show D.str (dt c.S):: .str (bT c.b)::((c.C.map pT).map D.str++[.str (eT (chk c))])=(rP c).map D.str by simp[rP]]
 rw[z3t (by rw[zl];lia)]
 walk_at ""
 rfl
theorem z2m{x y:Str}{s:Stt}(h:x.length+y.length<=sizeLine):addD (.str x) (.str y) s= .ok (.str (x++y)) s:=by simp only[addD,if_pos h];rfl
theorem z6u{c:List Nat}: ∀{xs:List (List Nat)} {y:List Nat},xs≠[]->jn c (xs++[y])=jn c xs++(c++y)
 |[],_,h=>absurd rfl h
 |[x],y,_=>by simp[jn]
 |x::x'::xs,y,_=>by
  have:=z6u (c:=c) (xs:=x'::xs) (y:=y) (by simp)
  simp only[List.cons_append,jn] at this⊢
  rw[this]
  simp
theorem sg_e:sg Str.empty=[]:=rfl
theorem zc5(p:Pz):sg (pT p)=jn [58] ([num p.e,dt p.ss,num p.k,num p.c].map sg):=by
 unfold pT
 simp only[z1s,zaA,sg_e,List.map_cons,List.map_nil,jn,List.nil_append,List.append_assoc]
theorem zej(p:Pz):Txt.join (Str.ofString ":") [num p.e,dt p.ss,num p.k,num p.c]=pT p:=z2k (by rw[z1j,zaA,zc5])
theorem s_se:sg (Str.ofString " =")=[32,61]:=by decide+kernel
theorem zha(c:Cm):Txt.join (Str.ofString " ") (dt c.S::bT c.b::c.C.map pT)++Str.ofString " =" ++num (chk c)++Str.ofString ";" =rT c:=z2k (by
 unfold rT rP
 rw[z1s,z1s,z1s,z1j,z1j,z5x,s_se,z3J,<-List.cons_append,<-List.cons_append,List.map_append,List.map_singleton,z6u (by simp)]
 unfold eT
 simp only[z1s,s_eq,z3J,sg_e,List.nil_append,List.append_assoc,List.cons_append])
theorem z5O: ∀(k:Nat) (xs:List Int) (x:Int),(z5e k (xs++[x])).sum=(z5e k xs).sum+((k+xs.length:Nat):Int)*x
 |k,[],x=>by simp[z5e]
 |k,y::xs,x=>by
  have:=z5O (k+1) xs x
  simp only[List.cons_append,z5e,List.sum_cons,List.length_cons] at this⊢
  rw[this,show k+1+xs.length=k+(xs.length+1) by lia]
  lia
noncomputable def ckI(xs:List Int)(i:Nat):Int:=(z5e 1 (xs.take i)).sum %997
theorem zjg{xs:List Int}{i:Nat}(h:i<xs.length):ckI xs (i+1)=(ckI xs i+(i:Int)*xs[i]+xs[i]) %997:=by
 unfold ckI
 rw[List.take_succ,List.getElem?_eq_getElem h,Option.toList_some,z5O,List.length_take,Nat.min_eq_left (by lia)]
 have e:((1+i:Nat):Int)*xs[i]=(i:Int)*xs[i]+xs[i]:=by
  push_cast
  rw[Int.add_mul,Int.one_mul,Int.add_comm]
 rw[e,Int.add_assoc,Int.emod_add_emod]
theorem zjh{c:Cm}:ckI (nums c) (nums c).length=chk c:=by unfold ckI chk;rw[List.take_of_length_le (Nat.le_refl _)]
theorem zji{xs:List Int}{i:Nat}(h:i<xs.length):(iL xs).getD i .non= .int xs[i]:=by simp[iL,h]
noncomputable def wI(c:Cm)(i:Nat):List Str:=dt c.S::bT c.b::(c.C.take i).map pT
theorem wI_s{c:Cm}{i:Nat}(h:i<c.C.length):wI c (i+1)=wI c i++[pT c.C[i]]:=by
 unfold wI
 rw[List.take_succ,List.getElem?_eq_getElem h,Option.toList_some,List.map_append]
 rfl
theorem wI_e{c:Cm}:wI c c.C.length=dt c.S::bT c.b::c.C.map pT:=by unfold wI;rw[List.take_of_length_le (Nat.le_refl _)]
theorem zhb{c:Cm}(h:c.ok){i:Nat}:(wI c i).length<=26:=by
 have:=h.2.1.2
 simp only[wI,List.length_cons,List.length_map,List.length_take]
 lia
theorem z9g{L m:Nat}{d:D}{ys:List Str}(h:L≠m):rp (pl m d) (.lst L (ys.map D.str))= .lst L (ys.map D.str):=by rw[z5w h,zje]
theorem zjj{b:Bool}{s:Stt}:strA [.int (if b=true then 1 else 0)] s= .ok (.str (bT b)) s:=by
 rw[z5d (by cases b<;>decide)]
 cases b<;>rfl
noncomputable def toI:D->Int
 | .int i=>i
 |_=>0
noncomputable def toP:D->Pz
 | .tup [.int e, .tup ss, .int k, .int c]=>⟨e,ss.map toI,k,c⟩
 |_=>⟨0,[],0,0⟩
noncomputable def gC:D->D
 | .tup [.tup s, .tup ps, .bool b]=> .str (rT ⟨s.map toI,ps.map toP,b⟩)
 |_=> .non
noncomputable def jT(cs:List Cm):Str:=Txt.join (Str.ofString "") (cs.map rT)
theorem zek:(Str.ofString "").length=0:=rfl
theorem zaK{cs:List Cm}(hc: ∀c∈cs,c.ok)(hz:cs.length<=60):(jT cs).length<=300000/\((cs.map rT).map (·.length)).sum+(cs.map rT).length*(Str.ofString "").length<=300000:=by
 have h1:=zaB (z:=Str.ofString "") (ys:=cs.map rT) (B:=5000) fun y hy=>by
  obtain⟨c,h,rfl⟩:=List.mem_map.mp hy
  exact(zaJ (hc c h)).1
 rw[zek,List.length_map] at h1
 rw[zek,List.length_map]
 unfold jT
 have h3:cs.length*(5000+0)<=60*5000:=Nat.mul_le_mul_right _ hz
 lia
theorem z8y: ∀s:List Int,(iL s).map toI=s
 |[]=>rfl
 |i::s=>by
  have:=z8y s
  simp only[iL,List.map_cons,toI] at this⊢
  rw[this]
theorem zjk(p:Pz):toP p.d=p:=by
 obtain⟨e,ss,k,c⟩:=p
 simp only[Pz.d,toP,z8y]
theorem zaL: ∀C:List Pz,(psD C).map toP=C
 |[]=>rfl
 |p::C=>by
  have:=zaL C
  simp only[psD,List.map_cons,zjk] at this⊢
  rw[this]
theorem gC_d(c:Cm):gC c.d= .str (rT c):=by
 obtain⟨S,C,b⟩:=c
 simp only[Cm.d,gC,z8y,zaL]
theorem zhc(cs:List Cm):(csD cs).map gC=(cs.map rT).map D.str:=by
 unfold csD
 rw[List.map_map,List.map_map]
 exact List.map_congr_left fun c _=>gC_d c
noncomputable def lcM:MS:=(sAsg (.nm 10) (mBin (mBin (mBin (mVar 10) (mBin (mVar 11) (mVar 12) mulD) addD) (mVar 12) addD) (mC (.int 997)) modD))
noncomputable def lrM:MS:=(seqS (sAsg (.nm 4) (mBin (mBin (mBin (mVar 4) (mCB [(mVar 6)] lstM) addD) (mCB [(mVar 7)] z5k) addD) (mCB [(mVar 8),(mVar 9)] lstM) addD))
 (z2n (z26 (mVar 5) [(z0w (mC (.str (":" :Str))) [(mCB [(mCB [(mVar 6)] strA),(mCall z3j [(mVar 7)]),(mCB [(mVar 8)] strA),(mCB [(mVar 9)] strA)] lstM)] z1R)] appD)))
theorem zhd(c:Cm)(hc:c.ok)(i:Nat)(hi:i<c.C.length)(Ln Lw n:Nat)(h1:Ln≠Lw)(h2:Ln<n)(h3:Lw<n)(o10 o11 o12:Option D)(x10:Fx o10)(x11:Fx o11)(x12:Fx o12): ∃Ln' n',Ln'≠Lw/\Ln'<n'/\n<=n'/\lrM ⟨[some c.d,some (.tup (iL c.S)),some (.tup (psD c.C)),some (.bool c.b),some (.lst Ln (iL (numI c i))),some (.lst Lw ((wI c i).map D.str)),some (.int c.C[i].e),some (.tup (iL c.C[i].ss)),some (.int c.C[i].k),some (.int c.C[i].c),o10,o11,o12],[some (.tup (psD c.C)),some c.d],n⟩= .nx ⟨[some c.d,some (.tup (iL c.S)),some (.tup (psD c.C)),some (.bool c.b),some (.lst Ln' (iL (numI c (i+1)))),some (.lst Lw ((wI c (i+1)).map D.str)),some (.int c.C[i].e),some (.tup (iL c.C[i].ss)),some (.int c.C[i].k),some (.int c.C[i].c),o10,o11,o12],[some (.tup (psD c.C)),some c.d],n'⟩:=by
 have hp:=hc.2.2 _ (List.getElem_mem hi)
 have l1:=z4A hc (i:=i)
 have l2:=zaH hp
 have l3:=hp.2.1.2.2
 have l4:=zhb hc (i:=i)
 have l5:=(z7h hp.2.1.1 hp.2.1.2.2).1
 have k1:=z1Y hp.1.1 hp.1.2
 have k3:=z1Y hp.2.2.1.1 hp.2.2.1.2
 have k4:=z1Y hp.2.2.2.1 hp.2.2.2.2
 have ed:c.d= .tup [.tup (iL c.S), .tup (psD c.C), .bool c.b]:=rfl
 obtain⟨n1,g1,e1⟩:=zaD c.C[i].ss hp.2.1.1 hp.2.1.2.2 (n+1+1+1+1+1+1)
 refine⟨n+1+1+1+1+1,n1+1,by lia,by lia,by lia, ?_⟩
 rw[zcN hi,wI_s hi]
 unfold lrM
 walk_at ""
 rw[z4q (by rw[zl];simp only[List.length_cons,List.length_nil,z0o];lia)]
 walk_at ""
 rw[z4q (by rw[zl];simp only[List.length_cons,List.length_append,List.length_nil,z0o];lia)]
 walk_at ""
 rw[z4q (by rw[zl];simp only[List.length_cons,List.length_append,List.length_nil,z0o];lia)]
 walk_at ""
 rw[show iL (numI c i)++[D.int c.C[i].e]++iL c.C[i].ss++[.int c.C[i].k, .int c.C[i].c]=iL (numI c i++pn c.C[i]) by simp[iL,pn]]
 rw[z5d (z3c hp.1.1 hp.1.2)]
 walk_at ""
 rw[e1]
 walk_at ""
 rw[z5d (z3c hp.2.2.1.1 hp.2.2.1.2)]
 walk_at ""
 rw[z5d (z3c hp.2.2.2.1 hp.2.2.2.2)]
 walk_at ""
 rw[show[D.str (num c.C[i].e), .str (dt c.C[i].ss), .str (num c.C[i].k), .str (num c.C[i].c)]=[num c.C[i].e,dt c.C[i].ss,num c.C[i].k,num c.C[i].c].map D.str from rfl,z3t (by
  rw[zl]
  simp only[List.map_cons,List.map_nil,List.sum_cons,List.sum_nil,List.length_cons,List.length_nil,z5y]
  lia),zej]
 walk_at ""
 rw[z7M ⟨by rw[zl,List.length_map];lia,by simp[labs]⟩]
 walk_at ""
 simp only[z7R,rL_p,rL_i,x10 _,x11 _,x12 _,zjd (show n+1+1+1+1+1≠Lw by lia)]
 rw[List.map_append]
 rfl
theorem zel(c:Cm)(hc:c.ok)(n:Nat): ∃n',n<=n'/\z2g [c.d] n= .ok (.str (rT c)) [c.d] n':=by
 have hS:=hc.1.2.2
 obtain⟨n1,g1,e1⟩:=zaD c.S hc.1.1 hc.1.2.2 (n+1+1+1)
 obtain⟨s',e,Ln,n2,o6,o7,o8,o9,h1,h2,h3,y6,y7,y8,y9,rfl⟩:=z6s (K:=kTup) (g:= .tp [(.nm 6),(.nm 7),(.nm 8),(.nm 9)]) (b:=lrM) (item:=fun i=>(psD c.C).getD i .non) (N:=c.C.length) (P:=fun i s=> ∃(Ln n2:Nat) (o6 o7 o8 o9:Option D),Ln≠n1/\Ln<n2/\n1+1<=n2/\Fx o6/\Fx o7/\Fx o8/\Fx o9/\s=⟨[some c.d,some (.tup (iL c.S)),some (.tup (psD c.C)),some (.bool c.b),some (.lst Ln (iL (numI c i))),some (.lst n1 ((wI c i).map D.str)),o6,o7,o8,o9,none,none,none],[some (.tup (psD c.C)),some c.d],n2⟩)
  (by rintro i s ⟨_,_,_,_,_,_,_,_,_,_,_,_,_,rfl⟩;rw[zcD,z3d])
  (by
   rintro i hi s ⟨Ln,n2,o6,o7,o8,o9,h1,h2,h3,y6,y7,y8,y9,rfl⟩
   rw[zgS hi]
   refine⟨_,rfl, ?_⟩
   obtain⟨Ln',n',g1,g2,g3,e⟩:=zhd c hc i hi Ln n1 n2 h1 h2 (by lia) none none none .no .no .no
   exact⟨_,e,Ln',n',_,_,_,_,g1,g2,by lia,Fx.int,Fx.iL,Fx.int,Fx.int,rfl⟩)
  c.C.length 0 ⟨[some c.d,some (.tup (iL c.S)),some (.tup (psD c.C)),some (.bool c.b),some (.lst (n+1+1) (iL (numI c 0))),some (.lst n1 ((wI c 0).map D.str)),none,none,none,none,none,none,none],[some (.tup (psD c.C)),some c.d],n1+1⟩ (by lia) ⟨n+1+1,n1+1,none,none,none,none,by lia,by lia,Nat.le_refl _, .no, .no, .no, .no,rfl⟩
 rw[zc1,z5b,z8w,wI_e] at e
 have hl:(nums c).length<=700:=by rw[<-z8w];exact z4A hc
 obtain⟨s',f,o11,o12,y11,y12,rfl⟩:=z6s (K:=kEnm) (g:= .tp [(.nm 11),(.nm 12)]) (b:=lcM) (item:=fun i=> .tup [.int (i:Nat),(iL (nums c)).getD i .non]) (N:=(nums c).length) (P:=fun i s=> ∃(o11 o12:Option D),Fx o11/\Fx o12/\s=⟨[some c.d,some (.tup (iL c.S)),some (.tup (psD c.C)),some (.bool c.b),some (.lst Ln (iL (nums c))),some (.lst n1 ((dt c.S::bT c.b::c.C.map pT).map D.str)),o6,o7,o8,o9,some (.int (ckI (nums c) i)),o11,o12],[some (.lst Ln (iL (nums c))),some c.d],n2⟩)
  (by rintro i s ⟨_,_,_,_,rfl⟩;rw[zgR,z0o])
  (by
   rintro i hi s ⟨o11,o12,y11,y12,rfl⟩
   rw[zji hi]
   refine⟨_,rfl, ?_⟩
   refine⟨_, ?_,some (.int (i:Nat)),some (.int (nums c)[i]),Fx.int,Fx.int,rfl⟩
   rw[zjg hi]
   unfold lcM
   walk_at ""
   rw[z7L (.inl ⟨by lia,by lia⟩)]
   walk_at ""
   rw[z55 (by decide)]
   walk_at "")
  (nums c).length 0 ⟨[some c.d,some (.tup (iL c.S)),some (.tup (psD c.C)),some (.bool c.b),some (.lst Ln (iL (nums c))),some (.lst n1 ((dt c.S::bT c.b::c.C.map pT).map D.str)),o6,o7,o8,o9,some (.int 0),none,none],[some (.lst Ln (iL (nums c))),some c.d],n2⟩ (by lia) ⟨none,none, .no, .no,rfl⟩
 rw[zj6,z5b,zjh] at f
 have e0:z7K=(seqS (sAsg (.tp [(.nm 1),(.nm 2),(.nm 3)]) (mVar 0)) (seqS (sAsg (.nm 4) (mBin (mCB [(mVar 1)] z5k) (mCB [(mCB [(mVar 3)] intD)] lstM) addD)) (seqS (sAsg (.nm 5) (mCB [(mCall z3j [(mVar 1)]),(mCB [(mCB [(mVar 3)] intD)] strA)] lstM)) (seqS (sFor (z0l (mVar 2)) (.tp [(.nm 6),(.nm 7),(.nm 8),(.nm 9)]) lrM) (seqS (sAsg (.nm 10) (mC (.int 0))) (seqS (sFor (mEnm [(mVar 4)]) (.tp [(.nm 11),(.nm 12)]) lcM) (sRet (mBin (mBin (mBin (z0w (mC (.str (" " :Str))) [(mVar 5)] z1R) (mC (.str (" =" :Str))) addD) (mCB [(mVar 10)] strA) addD) (mC (.str (";" :Str))) addD)))))))):=rfl
 have hk:=z9f c
 have l5:=z1Y hk.1 hk.2
 have hj:=zaB (z:=Str.ofString " ") (ys:=dt c.S::bT c.b::c.C.map pT) (B:=162) fun y hy=>(zaI hc).1 y (by
  simp only[rP,List.mem_cons,List.mem_append] at hy⊢
  rcases hy with h|h|h
  ·exact .inl h
  ·exact .inr (.inl h)
  ·exact .inr (.inr (.inl h)))
 have hm:(dt c.S::bT c.b::c.C.map pT).length*(162+(Str.ofString " ").length)<=26*163:=by
  rw[zh2]
  refine Nat.mul_le_mul_right _ ?_
  have:=hc.2.1.2
  simp only[List.length_cons,List.length_map]
  lia
 have lse:(Str.ofString " =").length=2:=by rw[<-z1h,s_se];rfl
 refine⟨n2,by lia, ?_⟩
 have ed:c.d= .tup [.tup (iL c.S), .tup (psD c.C), .bool c.b]:=rfl
 unfold z2g
 rw[e0,ed]
 walk_at ""
 rw[z4q (by rw[zl];simp only[List.length_cons,List.length_nil,z0o];lia)]
 walk_at ""
 rw[e1]
 walk_at ""
 rw[zjj]
 walk_at ""
 rw[show ∀σ tm n,z0l (mVar 2) ⟨some (.tup [.tup (iL c.S), .tup (psD c.C), .bool c.b])::some (.tup (iL c.S))::some (.tup (psD c.C))::σ,tm,n⟩= .ok kTup ⟨some (.tup [.tup (iL c.S), .tup (psD c.C), .bool c.b])::some (.tup (iL c.S))::some (.tup (psD c.C))::σ,some (.tup (psD c.C))::tm,n⟩ from fun _ _ _=>rfl]
 walk_at ""
 rw[show kTup.len [some (.tup (psD c.C)),some (.tup [.tup (iL c.S), .tup (psD c.C), .bool c.b])]=c.C.length from z3d,show iL c.S++[D.int (if c.b=true then 1 else 0)]=iL (numI c 0) by simp[iL,numI,bI],show[D.str (dt c.S), .str (bT c.b)]=(wI c 0).map D.str from rfl,<-ed,e]
 walk_at ""
 rw[show ∀σ tm n a0 a1 a2 a3 l,mEnm [mVar 4] ⟨a0::a1::a2::a3::some (.lst l (iL (nums c)))::σ,tm,n⟩= .ok kEnm ⟨a0::a1::a2::a3::some (.lst l (iL (nums c)))::σ,some (.lst l (iL (nums c)))::tm,n⟩ from fun _ _ _ _ _ _ _ _=>rfl]
 walk_at ""
 rw[show kEnm.len [some (.lst Ln (iL (nums c))),some c.d]=(nums c).length from z0o _,show D.str (dt c.S):: .str (bT c.b)::(c.C.map pT).map D.str=(dt c.S::bT c.b::c.C.map pT).map D.str from rfl,f]
 walk_at ""
 rw[show D.str (dt c.S):: .str (bT c.b)::(c.C.map pT).map D.str=(dt c.S::bT c.b::c.C.map pT).map D.str from rfl,z3t (by rw[zl];lia)]
 walk_at ""
 rw[z2m (by rw[zl,lse];lia)]
 walk_at ""
 rw[z5d (z3c hk.1 hk.2)]
 walk_at ""
 rw[z2m (by rw[zl];simp only[Str.length_append,lse];lia)]
 walk_at ""
 rw[z2m (by rw[zl];simp only[Str.length_append,lse,z5z];lia),zha]
 walk_at ""
mutual
noncomputable def Rw:D->Bool
 | .non=>true
 | .bool _=>true
 | .int _=>true
 | .tup ds=>decide (ds.length<=1000002)&&RwL ds
 |_=>false
noncomputable def RwL:List D->Bool
 |[]=>true
 |d::ds=>Rw d&&RwL ds
end
theorem z6v: ∀{ds:List D},RwL ds=true↔∀d∈ds,Rw d=true
 |[]=>by simp[RwL]
 |d::ds=>by rw[RwL,Bool.and_eq_true,z6v (ds:=ds),List.forall_mem_cons]
theorem z5f{ds:List D}(h:Rw (.tup ds)=true):ds.length<=1000002/\∀d∈ds,Rw d=true:=by
 simp only[Rw,Bool.and_eq_true,decide_eq_true_eq,z6v] at h;exact h
mutual
theorem z5A: ∀t:D,Rw t=true->Gd t
 | .non,_=>⟨rfl,rfl⟩
 | .bool _,_=>⟨rfl,rfl⟩
 | .int _,_=>⟨rfl,rfl⟩
 | .tup ds,h=>Gd.tup.mpr (RwL_gd ds (z6v.mpr (z5f h).2))
theorem RwL_gd: ∀ds:List D,RwL ds=true->GdL ds
 |[],_=>⟨rfl,rfl⟩
 |d::ds,h=>by rw[RwL,Bool.and_eq_true] at h;exact GdL.cons.mpr ⟨z5A d h.1,RwL_gd ds h.2⟩
end
theorem len4{ds:List D}(h:ds.length=4): ∃a b c d,ds=[a,b,c,d]:=by
 rcases ds with _|⟨a,_|⟨b,_|⟨c,_|⟨d,_|⟨e,r⟩⟩⟩⟩⟩<;>simp at h
 exact⟨a,b,c,d,rfl⟩
theorem len3{ds:List D}(h:ds.length=3): ∃a b c,ds=[a,b,c]:=by
 rcases ds with _|⟨a,_|⟨b,_|⟨c,_|⟨e,r⟩⟩⟩⟩<;>simp at h
 exact⟨a,b,c,rfl⟩
noncomputable def z4r:D->Bool
 | .tup [a, .tup ss,c,d]=>[a,c,d].all isInt&&ss.all isInt
 |_=>false
theorem zc6(t:D)(m:Nat)(h:Rw t=true): ∃m',m<=m'/\z0u [t] m= .ok (.bool (z4r t)) [t] m':=by
 unfold z0u z0Q
 walk_at ""
 cases t with
 |tup ds=>
  walk_at ""
  by_cases hl:ds.length=4
  ·obtain⟨a,b,c,d,rfl⟩:=len4 hl
   obtain⟨_,hm⟩:=z5f h
   have gb:Gd b:=z5A b (hm b (by simp))
   walk_at "mh"
   cases b with
   |tup ss=>
    have hs:=(z5f (hm (.tup ss) (by simp))).1
    have hsm:=(z5f (hm (.tup ss) (by simp))).2
    have ha:=z5A a (hm a (by simp))
    have hc:=z5A c (hm c (by simp))
    have hd:=z5A d (hm d (by simp))
    have es: ∀x∈[a,c,d]++ss,plain x=true:=by
     intro x hx
     rcases List.mem_append.mp hx with hx|hx
     ·simp only[List.mem_cons,List.not_mem_nil,or_false] at hx
      rcases hx with rfl|rfl|rfl
      ·exact ha.1
      ·exact hc.1
      ·exact hd.1
     ·exact(z5A x (hsm x hx)).1
    clear hm h ha hc hd gb hsm
    obtain⟨n',hn,hq⟩:=z75 (mc:=mBin (mCB [mBin (mVar 0) (mC (.int 0)) ixD,mBin (mVar 0) (mC (.int 2)) ixD,mBin (mVar 0) (mC (.int 3)) ixD] tupD) (mBin (mVar 0) (mC (.int 1)) ixD) addD) (me:=mCall z0I [mVar 0]) (g:=fun d=> .bool (isInt d)) (ds:=[a,c,d]++ss) (ix:=[]) (s:=⟨[some (.tup [a, .tup ss,c,d])],[some (.tup [a, .tup ss,c,d])],m⟩) (s1:=⟨[some (.tup [a, .tup ss,c,d])],[some (.tup [a, .tup ss,c,d])],m⟩) (by
     walk_at ""
     rw[zaj (by rw[zl];simp only[List.length_cons,List.length_nil];lia)]
     try (walk_at "")) (by rw[zl];simp only[List.length_append,List.length_cons,List.length_nil];lia) (by
     intro x hx tm n
     refine⟨n,Nat.le_refl _, ?_⟩
     show mCall _ _ ⟨[some x],tm,n⟩=_
     walk_at ""
     rw[zcy x n (es x hx)]
     walk_at "")
    refine⟨n'+1,by simp only at hn;lia, ?_⟩
    walk_at ""
    rw[hq]
    walk_at ""
    have eb:=z54 ([a,c,d]++ss) isInt
    simp only[List.map_append,List.map_cons,List.map_nil,List.cons_append,List.nil_append] at eb
    rw[ze8 eb]
    walk_at ""
    simp only[List.all_map,z4r,List.all_cons,List.all_nil,Function.comp_def,id,Bool.and_true,Bool.and_assoc]
   |dct _ _ _=>simp[Gd,Mi.plain] at gb
   |obj _ _ _ _=>simp[Gd,Mi.plain] at gb
   |exc _=>simp[Gd,Mi.plain] at gb
   |fn _=>simp[Gd,Mi.plain] at gb
   |fdc _ _=>simp[Gd,Mi.plain] at gb
   |_=>refine⟨m,Nat.le_refl _, ?_⟩;walk_at "";rfl
  ·have e:(((ds.length:Nat):Int)==4)=false:=by simp;lia
   refine⟨m,Nat.le_refl _, ?_⟩
   simp only[e]
   walk_at ""
   congr 2
   rcases ds with _|⟨a,_|⟨b,_|⟨c,_|⟨d,_|⟨e,r⟩⟩⟩⟩⟩<;>first|rfl|(cases b<;>rfl)|(simp at hl)
 |dct _ _ _=>simp[Rw] at h
 |obj _ _ _ _=>simp[Rw] at h
 |exc _=>simp[Rw] at h
 |fn _=>simp[Rw] at h
 |fdc _ _=>simp[Rw] at h
 |_=>refine⟨m,Nat.le_refl _, ?_⟩;walk_at "";rfl
noncomputable def z1d(b l:Int):D->Bool
 | .tup [a,s,c,d]=>inR (b+1) l a&&(rowB 1 24 1039 s&&(inR 0 8 c&&inR 0 99999 d))
 |_=>false
theorem z6w{lo hi:Int}{t:D}(h:inR lo hi t=true): ∃i:Int,t= .int i:=by
 cases t<;>first|(simp[inR] at h;done)|exact⟨_,rfl⟩
theorem z6x{lo hi top:Int}{t:D}(h:rowB lo hi top t=true): ∃ss,t= .tup ss/\ss.all isInt=true:=by
 cases t<;>first|(simp[rowB] at h;done)|skip
 rename_i ss
 refine⟨ss,rfl, ?_⟩
 simp only[rowB,Bool.and_eq_true,List.all_eq_true] at h⊢
 intro x hx
 obtain⟨i,rfl⟩:=z6w (h.2 x hx)
 rfl
theorem z3K{b l:Int}{t:D}(h:z1d b l t=true):z4r t=true:=by
 unfold z1d at h
 split at h
 ·simp only[Bool.and_eq_true] at h
  obtain⟨h1,h2,h3,h4⟩:=h
  obtain⟨a,rfl⟩:=z6w h1
  obtain⟨ss,rfl,q⟩:=z6x h2
  obtain⟨c,rfl⟩:=z6w h3
  obtain⟨d,rfl⟩:=z6w h4
  simp only[z4r,q,List.all_cons,List.all_nil,isInt,Bool.and_true]
 ·cases h
theorem z3L{t:D}(h:z4r t=true): ∃a ss c d,t= .tup [.int a, .tup ss, .int c, .int d]:=by
 unfold z4r at h
 split at h
 ·rename_i a ss c d
  simp only[List.all_cons,List.all_nil,Bool.and_eq_true] at h
  obtain⟨⟨h1,h2,h3,_⟩,_⟩:=h
  cases a<;>simp[isInt] at h1
  cases c<;>simp[isInt] at h2
  cases d<;>simp[isInt] at h3
  exact⟨_,_,_,_,rfl⟩
 ·cases h
theorem zc7(c:D)(m:Nat)(hc:Gd c): ∃m',m<=m'/\z0y [c] m= .ok (.bool (rowB 1 24 1039 c)) [c] m':=by
 obtain⟨m',h1,h2⟩:=zcz c 1 24 1039 m hc.1 (by decide)
 refine⟨m',h1, ?_⟩
 unfold z0y z0Y
 walk_at ""
 rw[h2]
 walk_at ""
theorem zaM(t:D)(b l:Int)(m:Nat)(h:Rw t=true): ∃m',m<=m'/\z1r [t, .int b, .int l] m= .ok (.bool (z1d b l t)) [t, .int b, .int l] m':=by
 unfold z1r z37
 walk_at ""
 obtain⟨m1,g1,e1⟩:=zc6 t m h
 rw[e1]
 cases hk:z4r t with
 |false=>
  refine⟨m1,g1, ?_⟩
  walk_at ""
  have:z1d b l t=false:=by
   cases q:z1d b l t with
   |false=>rfl
   |true=>rw[z3K q] at hk;cases hk
  rw[this]
 |true=>
  obtain⟨a,ss,c,d,rfl⟩:=z3L hk
  walk_at ""
  rw[z8q (.int a) (b+1) l m1 rfl]
  walk_at ""
  simp only[z1d]
  cases inR (b+1) l (.int a) with
  |false=>exact⟨m1,g1,by walk_at ""⟩
  |true=>
   walk_at ""
   obtain⟨m2,g2,e2⟩:=zc7 (.tup ss) m1 (z5A _ ((z5f h).2 (.tup ss) (by simp)))
   rw[e2]
   walk_at ""
   cases rowB 1 24 1039 (.tup ss) with
   |false=>exact⟨m2,by lia,by walk_at ""⟩
   |true=>
    refine⟨m2,by lia, ?_⟩
    walk_at ""
    rw[z8q (.int c) 0 8 m2 rfl]
    walk_at ""
    cases inR 0 8 (.int c) with
    |false=>walk_at ""
    |true=>
     walk_at ""
     rw[z8q (.int d) 0 99999 m2 rfl]
     walk_at ""
noncomputable def endB:D->Int
 | .tup (.int e::_)=>e
 |_=>0
noncomputable def wayB(l:Int):Int->List D->Bool
 |a,[]=>a==l
 |a,p::r=>z1d a l p&&wayB l (endB p) r
theorem zaN{a l:Int}{p:D}(h:z1d a l p=true): ∃(e:Int) (r:List D),p= .tup (.int e::r):=by
 obtain⟨a,ss,c,d,rfl⟩:=z3L (z3K h)
 exact⟨_,_,rfl⟩
theorem zaO{ps:List D}{i:Nat}{tm:List (Option D)}:kTup.at' i (some (.tup ps)::tm)=some ps[i]? :=rfl
theorem zhe{ps:List D}{i:Nat}(h:i<ps.length):ps.drop i=ps[i]::ps.drop (i+1):=List.drop_eq_getElem_cons h
noncomputable def zem:MS:=seqS (sIf (mNot (z0J (mCall z1r [mVar 3,mVar 2,mVar 1]))) (sRet (mC (.bool false))) sNx) (sAsg (.nm 2) (mBin (mVar 3) (mC (.int 0)) ixD))
theorem zen(ps:List D)(l:Int)(h: ∀p∈ps,Rw p=true): ∀(f i:Nat) (a:Int) (o:Option D) (n:Nat),i+f=ps.length->∃n',n<=n'/\((forGo kTup (.nm 3) zem f i ⟨[some (.tup ps),some (.int l),some (.int a),o],[some (.tup ps),some (.tup ps),some (.int l)],n⟩).sq (sRet (mBin (mVar 2) (mVar 1) eqD))).fin= .ok (.bool (wayB l a (ps.drop i))) [.tup ps, .int l] n':=by
 intro f
 induction f with
 |zero=>
  intro i a o n hi
  refine⟨n,Nat.le_refl _, ?_⟩
  unfold forGo
  simp only[zaO,List.getElem?_eq_none (show ps.length<=i by lia),zc1,z5b,List.drop_eq_nil_of_le (show ps.length<=i by lia),wayB]
  walk_at ""
 |succ f ih=>
  intro i a o n hi
  have hl:i<ps.length:=by lia
  obtain⟨m1,g1,e1⟩:=zaM ps[i] a l n (h _ (List.getElem_mem hl))
  unfold forGo
  simp only[zaO,List.getElem?_eq_getElem hl,asg,List.set_cons_succ,List.set_cons_zero]
  rw[zhe hl]
  unfold zem
  walk_at ""
  rw[e1]
  simp only[wayB]
  cases hp:z1d a l ps[i] with
  |false=>
   refine⟨m1,g1, ?_⟩
   walk_at ""
   simp only[zc1,z5b]
   walk_at ""
  |true=>
   obtain⟨e,r,hr⟩:=zaN hp
   obtain⟨n',g2,e2⟩:=ih (i+1) e (some ps[i]) m1 (by lia)
   refine⟨n',by lia, ?_⟩
   have hend:endB ps[i]=e:=by rw[hr];rfl
   walk_at ""
   rw[hend,<-e2]
   rw[hr]
   walk_at ""
   rw[<-hr]
   rfl
theorem zeo(ps:List D)(l:Int)(m:Nat)(h: ∀p∈ps,Rw p=true): ∃m',m<=m'/\z3i [.tup ps, .int l] m= .ok (.bool (wayB l 0 ps)) [.tup ps, .int l] m':=by
 obtain⟨n',g,e⟩:=zen ps l h ps.length 0 0 none m (by lia)
 refine⟨n',g, ?_⟩
 unfold z3i
 have e0:z4e=seqS (sAsg (.nm 2) (mC (.int 0))) (seqS (sFor (z0l (mVar 0)) (.nm 3) zem) (sRet (mBin (mVar 2) (mVar 1) eqD))):=rfl
 rw[e0]
 walk_at ""
 exact e
noncomputable def lenB:D->Int
 | .tup ss=>ss.length
 |_=>0
noncomputable def z1e:D->Bool
 | .tup [s, .tup ps, .bool _]=>rowB 1 24 39 s&&wayB (lenB s) 0 ps
 |_=>false
theorem zc8{lo hi top:Int}{t:D}(h:rowB lo hi top t=true): ∃ss,t= .tup ss:=by
 obtain⟨ss,rfl,_⟩:=z6x h;exact⟨ss,rfl⟩
theorem zjl{w:D}(h: ∀b,w≠ .bool b)(s p:D):z1e (.tup [s,p,w])=false:=by
 cases p<;>cases w<;>first|rfl|exact absurd rfl (h _)
theorem ntup{p:D}(h: ∀b,p≠ .tup b)(s w:D):z1e (.tup [s,p,w])=false:=by
 cases p<;>first|rfl|exact absurd rfl (h _)
theorem nrow{s:D}(h:rowB 1 24 39 s=false)(p w:D):z1e (.tup [s,p,w])=false:=by
 cases p<;>cases w<;>first|rfl|(simp only[z1e,h,Bool.false_and])
theorem zhf(t:D)(m:Nat)(h:Rw t=true): ∃m',m<=m'/\z1A [t] m= .ok (.bool (z1e t)) [t] m':=by
 unfold z1A z2D
 walk_at ""
 cases t with
 |tup ds=>
  walk_at ""
  by_cases hl:ds.length=3
  ·obtain⟨s,p,w,rfl⟩:=len3 hl
   obtain⟨_,hm⟩:=z5f h
   have gs:=z5A s (hm s (by simp))
   have gp:=z5A p (hm p (by simp))
   have gw:=z5A w (hm w (by simp))
   have hp:=hm p (by simp)
   clear hm h
   walk_at "mh"
   obtain⟨m1,g1,e1⟩:=zcz s 1 24 39 m gs.1 (by decide)
   rw[e1]
   cases hr:rowB 1 24 39 s with
   |false=>
    refine⟨m1,g1, ?_⟩
    walk_at ""
    rw[nrow hr]
   |true=>
    walk_at ""
    obtain⟨ss,rfl⟩:=zc8 hr
    cases w with
    |bool b=>
     walk_at ""
     cases p with
     |tup ps=>
      walk_at ""
      obtain⟨m2,g2,e2⟩:=zeo ps ss.length m1 (z5f hp).2
      refine⟨m2,by lia, ?_⟩
      rw[e2]
      walk_at ""
      simp only[z1e,hr,lenB,Bool.true_and]
     |dct _ _ _=>simp[Gd,Mi.plain] at gp
     |obj _ _ _ _=>simp[Gd,Mi.plain] at gp
     |exc _=>simp[Gd,Mi.plain] at gp
     |fn _=>simp[Gd,Mi.plain] at gp
     |fdc _ _=>simp[Gd,Mi.plain] at gp
     |_=>refine⟨m1,g1, ?_⟩;walk_at "";rw[ntup (by intro b;simp)]
    |dct _ _ _=>simp[Gd,Mi.plain] at gw
    |obj _ _ _ _=>simp[Gd,Mi.plain] at gw
    |exc _=>simp[Gd,Mi.plain] at gw
    |fn _=>simp[Gd,Mi.plain] at gw
    |fdc _ _=>simp[Gd,Mi.plain] at gw
    |_=>refine⟨m1,g1, ?_⟩;walk_at "";rw[zjl (by intro b;simp)]
  ·have e:(((ds.length:Nat):Int)==3)=false:=by simp;lia
   refine⟨m,Nat.le_refl _, ?_⟩
   simp only[e]
   walk_at ""
   congr 2
   rcases ds with _|⟨a,_|⟨b,_|⟨c,_|⟨d,r⟩⟩⟩⟩<;>first|rfl|(simp at hl;done)|(cases b<;>rfl)|(cases b<;>cases c<;>rfl)
 |dct _ _ _=>simp[Rw] at h
 |obj _ _ _ _=>simp[Rw] at h
 |exc _=>simp[Rw] at h
 |fn _=>simp[Rw] at h
 |fdc _ _=>simp[Rw] at h
 |_=>refine⟨m,Nat.le_refl _, ?_⟩;walk_at "";rfl
noncomputable def bP(c:Cm):List Str:=dt c.S::bT c.b::(c.C.map pT++[Str.ofString "=" ++num (chk c)])
noncomputable def bo(c:Cm):Str:=Txt.join (Str.ofString " ") (bP c)
theorem z7i{c:List Nat}{x:Nat}: ∀{xs:List (List Nat)},x∈jn c xs->x∈c\/∃y∈xs,x∈y
 |[],h=>nomatch h
 |[y],h=> .inr ⟨y,by simp,h⟩
 |y::z::r,h=>by
  simp only[jn,List.mem_append] at h
  rcases h with h|h|h
  ·exact .inr ⟨y,by simp,h⟩
  ·exact .inl h
  ·rcases z7i h with h|⟨w,hw,h⟩
   ·exact .inl h
   ·exact .inr ⟨w,List.mem_cons_of_mem _ hw,h⟩
theorem zep(s:List Int):sg (dt s)=jn [46] ((s.map num).map sg):=by unfold dt;rw[z1j,zc4]
theorem z7U{s:List Int}(h:Nm s){c:Nat}(hc:c<48\/57<c)(h46:c≠46):c∉sg (dt s):=fun q=>by
 rw[zep] at q
 rcases z7i q with q|⟨y,hy,q⟩
 ·exact h46 (by simpa using q)
 ·rw[List.map_map] at hy
  obtain⟨i,hi,rfl⟩:=List.mem_map.mp hy
  exact z1B (h i hi).1 hc q
theorem z8z{s:List Int}(h:Nm s)(hn:s≠[]):Txt.split (dt s) (Str.ofString ".")=s.map num:=by
 rw[(sep1 46 _ zc4).1]
 refine z1X (by simpa using hn) (fun y hy=> ?_) (zep s)
 obtain⟨i,hi,rfl⟩:=List.mem_map.mp hy
 exact z1B (h i hi).1 (by decide)
theorem zaP{s:List Int}(h:Nm s):(s.map num).map z1S=iL s:=by
 rw[List.map_map]
 exact List.map_congr_left fun i hi=>z3V (h i hi).1 (h i hi).2
theorem zcO: ∀s:List Int,(iL s).any z7S=false
 |[]=>rfl
 |i::s=>by
  have:=zcO s
  simp only[iL,List.map_cons,List.any_cons,z7S] at this⊢
  rw[this];rfl
theorem zaQ{s:List Int}(h:Nm s)(hn:s≠[]):z3e (dt s)= .tup (iL s):=by
 unfold z3e
 rw[z8z h hn,zaP h,zcO]
 rfl
theorem z3W{α:Type}{s:List α}(h:1<=s.length):s≠[]:=fun e=>by rw[e] at h;simp at h
theorem z8A{p:Pz}(h:p.ok):Txt.split (pT p) (Str.ofString ":")=[num p.e,dt p.ss,num p.k,num p.c]:=by
 rw[(sep1 58 _ zaA).1]
 refine z1X (by simp) (fun y hy=> ?_) (zc5 p)
 simp only[List.mem_cons,List.not_mem_nil,or_false] at hy
 rcases hy with rfl|rfl|rfl|rfl
 ·exact z1B h.1.1 (by decide)
 ·exact z7U h.2.1.1 (by decide) (by decide)
 ·exact z1B h.2.2.1.1 (by decide)
 ·exact z1B h.2.2.2.1 (by decide)
theorem zeq{p:Pz}(h:p.ok):z2l (pT p)=p.d:=by
 unfold z2l
 rw[z8A h]
 dsimp only
 rw[z3V h.1.1 h.1.2,zaQ h.2.1.1 (z3W h.2.1.2.1),z3V h.2.2.1.1 h.2.2.1.2,z3V h.2.2.2.1 h.2.2.2.2]
 rfl
theorem zer{p:Pz}(h:p.ok){c:Nat}(hc:c<48\/57<c)(h46:c≠46)(h58:c≠58):c∉sg (pT p):=fun q=>by
 rw[zc5] at q
 rcases z7i q with q|⟨y,hy,q⟩
 ·exact h58 (by simpa using q)
 ·simp only[List.map_cons,List.map_nil,List.mem_cons,List.not_mem_nil,or_false] at hy
  rcases hy with rfl|rfl|rfl|rfl
  ·exact z1B h.1.1 hc q
  ·exact z7U h.2.1.1 hc h46 q
  ·exact z1B h.2.2.1.1 hc q
  ·exact z1B h.2.2.2.1 hc q
theorem zaR{x:Cm}(h:x.ok){c:Nat}(hc:c<48\/57<c)(h46:c≠46)(h58:c≠58)(h61:c≠61): ∀y∈bP x,c∉sg y:=fun y hy=>by
 simp only[bP,List.mem_cons,List.mem_append,List.not_mem_nil,or_false] at hy
 rcases hy with rfl|rfl|hy|rfl
 ·exact z7U h.1.1 hc h46
 ·rw[zei]
  intro q
  rw[List.mem_singleton] at q
  split at q<;>lia
 ·obtain⟨p,hp,rfl⟩:=List.mem_map.mp hy
  exact zer (h.2.2 p hp) hc h46 h58
 ·rw[z1s,s_eq]
  intro q
  rcases List.mem_append.mp q with q|q
  ·exact h61 (by simpa using q)
  ·exact z1B (z9f x).1 hc q
theorem z8B{c:Cm}(h:c.ok):Txt.split (bo c) (Str.ofString " ")=bP c:=by
 rw[(sep1 32 _ z5x).1]
 exact z1X (by simp[bP]) (zaR h (by decide) (by decide) (by decide) (by decide)) (by unfold bo;rw[z1j,z5x])
theorem z5P(c:Cm):bo c++Str.ofString ";" =rT c:=z2k (by
 unfold bo rT bP rP
 rw[z1s,z1j,z1j,z5x,z3J,<-List.cons_append,<-List.cons_append,<-List.cons_append,<-List.cons_append,List.map_append,List.map_append,List.map_singleton,List.map_singleton,z6u (by simp),z6u (by simp)]
 unfold eT
 simp only[z1s,s_eq,z3J,sg_e,List.nil_append,List.append_assoc,List.cons_append])
theorem zaS{c:Cm}(h:c.ok):59∉sg (bo c):=fun q=>by
 unfold bo at q
 rw[z1j,z5x] at q
 rcases z7i q with q|⟨y,hy,q⟩
 ·exact absurd q (by decide)
 ·obtain⟨z,hz,rfl⟩:=List.mem_map.mp hy
  exact zaR h (by decide) (by decide) (by decide) (by decide) z hz q
theorem zaT{α:Type}{a b x:α}{l:List α}:cutA (a::b::(l++[x])) (some 2) (some (-1))=l:=by
 have h1:HT.sIx (a::b::(l++[x])).length 0 (some 2)=2:=by
  rw[show(2:Int)=((2:Nat):Int) from rfl,HT.sIx_nat]
  simp
 have h2:HT.sIx (a::b::(l++[x])).length (a::b::(l++[x])).length (some (-1))=l.length+2:=by
  show(if(-1:Int)<0 then((-1:Int)+((a::b::(l++[x])).length:Int)).toNat else min (-1:Int).toNat (a::b::(l++[x])).length)=_
  rw[if_pos (by decide)]
  simp only[List.length_cons,List.length_append,List.length_nil]
  lia
 unfold cutA
 rw[h1,h2]
 simp
theorem zhg(b:Bool):(bT b==Str.ofString "1")=b:=by cases b<;>decide+kernel
theorem zhh{k:Nat}{s:List Int}(h:s.length<=24):Tr (.tup (iL s))=true/\(er (.tup (iL s))).depth<=k+1:=z8r (by simp[iL];lia) fun e he=>by
 obtain⟨i,_,rfl⟩:=List.mem_map.mp he;exact z8s
theorem zc9{c:Cm}(h:c.ok):Tr c.d=true/\(er c.d).depth<=4:=z8r (by simp) (List.forall_mem_cons.mpr ⟨zhh h.1.2.2,List.forall_mem_cons.mpr ⟨z8r (by rw[z3d];have:=h.2.1.2;lia) (fun e he=>by
 obtain⟨p,hp,rfl⟩:=List.mem_map.mp he
 exact z8r (by simp) (List.forall_mem_cons.mpr ⟨z8s,List.forall_mem_cons.mpr ⟨zhh (h.2.2 p hp).2.1.2.2,List.forall_mem_cons.mpr ⟨z8s,List.forall_mem_cons.mpr ⟨z8s,fun _ h=>nomatch h⟩⟩⟩⟩)),List.forall_mem_cons.mpr ⟨zed,fun _ h=>nomatch h⟩⟩⟩)
theorem z7V(q:Cm)(h:q.ok):labs q.d=[]:=zau _ (zc9 h).1
noncomputable def Good(c:Cm):Prop:=c.ok/\z1e c.d=true
noncomputable def rPd:D->D
 | .str x=>z2l x
 |_=> .non
theorem zcP: ∀(cs:List Cm),jn [] ((cs.map rT).map sg)=jn [59] ((cs.map bo++[Str.empty]).map sg)
 |[]=>rfl
 |[c]=>by
  show sg (rT c)=sg (bo c)++([59]++[])
  rw[<-z5P,z1s,z3J]
  rfl
 |c::d::cs=>by
  have:=zcP (d::cs)
  simp only[List.map_cons,List.cons_append,jn,List.nil_append] at this⊢
  rw[this,<-z5P,z1s,z3J]
  cases cs<;>simp[jn]
theorem zhi:sg (Str.ofString "")=[]:=rfl
theorem zca{α:Type}{x:α}{l:List α}:cutA (l++[x]) none (some (-1))=l:=by
 have h2:HT.sIx (l++[x]).length (l++[x]).length (some (-1))=l.length:=by
  show(if(-1:Int)<0 then((-1:Int)+((l++[x]).length:Int)).toNat else min (-1:Int).toNat (l++[x]).length)=_
  rw[if_pos (by decide)]
  simp only[List.length_append,List.length_cons,List.length_nil]
  lia
 unfold cutA
 rw[HT.sIx_none,h2]
 simp
theorem zhj{c:Cm}{s:Stt}:isN c.d .non s= .ok (.bool false) s:=(rfl)
noncomputable def Bd(M:Int)(s:List Int):Prop:= ∀i∈s,0<=i/\i<M
theorem zhk{M:Int}: ∀{ds:List D},(∀d∈ds,∃i:Int,0<=i/\i<M/\d= .int i)->∃s,ds=iL s/\Bd M s
 |[],_=>⟨[],rfl,fun _ h=>nomatch h⟩
 |d::ds,h=>by
  obtain⟨i,h1,h2,rfl⟩:=h d (by simp)
  obtain⟨s,rfl,hs⟩:=zhk (ds:=ds) fun d hd=>h d (by simp[hd])
  exact⟨i::s,rfl,fun j hj=>(List.mem_cons.mp hj).elim (fun e=>e▸⟨h1,h2⟩) (hs j)⟩
theorem Bd.nm{M:Int}{s:List Int}(h:Bd M s)(hM:M<=100000):Nm s:=fun i hi=>by have:=h i hi;lia
theorem zcQ{M:Int}{s:List Int}{lo hi:Nat}(h:Bd M s)(h1:lo<=s.length)(h2:s.length<=hi):rowB lo hi (M - 1) (.tup (iL s))=true:=by
 simp only[rowB,Bool.and_eq_true,decide_eq_true_eq,List.all_eq_true,z0o]
 refine⟨⟨by lia,by lia⟩,fun d hd=> ?_⟩
 obtain⟨i,hi,rfl⟩:=List.mem_map.mp hd
 have:=h i hi
 simp only[inR,Bool.and_eq_true,decide_eq_true_eq]
 lia
noncomputable def Wy(N:Int):Int->List Pz->Int->Prop
 |a,[],p=>a=p
 |a,q::cs,p=>z1d a N q.d=true/\q.ok/\Wy N q.e cs p
theorem Wy.snoc{N:Int}: ∀{cs:List Pz} {a p:Int} {q:Pz},Wy N a cs p->z1d p N q.d=true->q.ok->Wy N a (cs++[q]) q.e
 |[],a,p,q,h,h1,h2=>by cases(show a=p from h);exact⟨h1,h2,rfl⟩
 |r::cs,a,p,q,h,h1,h2=>⟨h.1,h.2.1,Wy.snoc h.2.2 h1 h2⟩
theorem Wy.way{N:Int}: ∀{cs:List Pz} {a p:Int},Wy N a cs p->p=N->wayB N a (psD cs)=true
 |[],a,p,h,hp=>by
  cases(show a=p from h)
  simp only[psD,List.map_nil,wayB,hp,beq_self_eq_true]
 |r::cs,a,p,h,hp=>by
  have:=Wy.way h.2.2 hp
  simp only[psD,List.map_cons,wayB,h.1,Bool.true_and] at this⊢
  exact this
theorem Wy.all{N:Int}: ∀{cs:List Pz} {a p:Int},Wy N a cs p->∀q∈cs,q.ok
 |[],_,_,_,q,hq=>nomatch hq
 |r::cs,a,p,h,q,hq=>(List.mem_cons.mp hq).elim (fun e=>e▸h.2.1) (Wy.all h.2.2 q)
theorem zjm{a N e k w:Int}{ss:List Int}(h1:a+1<=e)(h2:e<=N)(hs:Bd 1040 ss)(l1:1<=ss.length)(l2:ss.length<=24)(k0:0<=k)(k1:k<9)(w0:0<=w)(w1:w<100000)(a0:0<=a)(hN:N<=24):z1d a N (Pz.mk e ss k w).d=true/\(Pz.mk e ss k w).ok:=by
 refine⟨?_,⟨⟨by dsimp only;lia,by dsimp only;lia⟩,⟨hs.nm (by decide),l1,l2⟩,⟨k0,by dsimp only;lia⟩,⟨w0,w1⟩⟩⟩
 have hr:=zcQ (lo:=1) (hi:=24) hs l1 l2
 simp only[Pz.d,z1d,inR,Bool.and_eq_true,decide_eq_true_eq]
 exact⟨⟨h1,h2⟩,hr,⟨k0,by lia⟩,⟨w0,by lia⟩⟩
theorem zcR(l:Nat)(c x N M:Int)(n:Nat)(h:Bg c x)(hn:l<n)(h0:0<=N)(h1:N<=1000)(m0:0<M)(m1:M<1000000): ∃(s:List Int) (c' x':Int) (n':Nat),s.length=N.toNat/\Bd M s/\Bg c' x'/\n<=n'/\z0n [.lst l [.int c, .int x], .int N, .int M] n= .ok (.tup (iL s)) [.lst l [.int c', .int x'], .int N, .int M] n':=by
 unfold z0n z2f
 walk_at ""
 obtain⟨ys,b',n',g1,g2,g3,⟨c3,x3,rfl,h3⟩,g5,g6⟩:=z7a (l:=l) (ms:=[mVar 1]) (me:=mCall z05 [mVar 1,mVar 2]) (N:=N.toNat) (ix:=[0,2]) (Q:=fun _ y=> ∃i:Int,0<=i/\i<M/\y= .int i) (Bg:=fun b=> ∃c x,b=[D.int c, .int x]/\Bg c x) (fun _ _ _ _ h=>h) (s:=⟨[some (.lst l [.int c, .int x]),some (.int N),some (.int M)],[some (.lst l [.int c, .int x]),some (.int N),some (.int M)],n⟩) (j:=N) (σ0:=[some (.lst l [.int c, .int x]),some (.int N),some (.int M)]) (tm0:=[some (.lst l [.int c, .int x]),some (.int N),some (.int M)]) (n:=n)
  (by walk_at "") rfl ⟨by lia,by lia⟩ (by rw[zl];lia) ⟨c,x,rfl,h⟩ (by lia) (by walk_at "") (by walk_at "") (by simp only[List.map_cons,List.map_nil,List.getElem?_cons_zero,List.getElem?_cons_succ,Option.getD_some];walk_at "") (by
   rintro i hi b tm m ⟨c,x,rfl,hb⟩ hm hf
   obtain⟨r,c',x',hs0,hs1,h',e'⟩:=z0K l c x M m hb m0 m1
   refine⟨.int r,[.int c', .int x'],m,⟨c',x',rfl,h'⟩,⟨r,hs0,hs1,rfl⟩,Nat.le_refl _,by simp[labs], ?_⟩
   simp only[List.map_cons,List.map_nil,List.getElem?_cons_zero,List.getElem?_cons_succ,Option.getD_some]
   walk_at ""
   rw[e',z56 rfl rfl rfl (by walk_at "") hf]
   walk_at "")
 rw[g6]
 walk_at ""
 obtain⟨s,rfl,hs⟩:=zhk g2
 exact⟨s,c3,x3,n'+1,by rw[<-g1,z0o],hs,h3,by lia,rfl⟩
noncomputable def cmtM:MS:=(sIf (mBoo (mBin (mVar 6) (mVar 3) ltD)) (seqS (sAsg (.nm 6) (mBin (mBin (mVar 6) (mC (.int 1)) addD) (mCall z05 [(mVar 0),(mCB [(mC (.int 3)),(mBin (mVar 3) (mVar 6) subD)] minD)]) addD))
 (seqS (sAsg (.nm 8) (mCall z0n [(mVar 0),(mBin (mC (.int 1)) (mCall z05 [(mVar 0),(mVar 2)]) addD),(mC (.int 1040))]))
 (z2n (z26 (mVar 5) [(mCB [(mVar 6),(mVar 8),(mCall z05 [(mVar 0),(mC (.int 9))]),(mCall z05 [(mVar 0),(mVar 4)])] tupD)] appD)))) sNx)
theorem zcS(l:Nat)(c x T W:Int)(n:Nat)(h:Bg c x)(hn:l<n)(t0:0<T)(t1:T<=24)(w0:0<W)(w1:W<=24): ∃(q:Cm) (c' x':Int) (n':Nat),Good q/\Bg c' x'/\n<=n'/\z1i [.lst l [.int c, .int x], .int T, .int W] n= .ok q.d [.lst l [.int c', .int x'], .int T, .int W] n':=by
 unfold z1i
 have e0:z4g=(seqS (sAsg (.nm 3) (mBin (mC (.int 1)) (mCall z05 [(mVar 0),(mVar 1)]) addD))
  (seqS (sAsg (.nm 4) (mBin (mCB [(mC (.int 10)),(mC (.int 10000)),(mC (.int 100000))] lstM) (mCall z05 [(mVar 0),(mC (.int 3))]) ixD))
  (seqS (sAsg (.nm 5) (mCB [] lstM))
  (seqS (sAsg (.nm 6) (mC (.int 0)))
  (seqS (sFor (z2Q [(mVar 3)]) (.nm 7) cmtM)
  (sRet (mCB [(mCall z0n [(mVar 0),(mVar 3),(mC (.int 40))]),(mCB [(mVar 5)] tupF),(mBin (mCall z05 [(mVar 0),(mC (.int 2))]) (mC (.int 1)) eqD)] tupD))))))):=rfl
 rw[e0]
 walk_at ""
 obtain⟨r,c1,x1,hr0,hr1,b1,e1⟩:=z0K l c x T n h (by lia) (by lia)
 rw[e1,z06 rfl rfl rfl (fun q=>by walk_at "";rfl) (fun q=>by walk_at "";rfl)]
 walk_at ""
 obtain⟨r2,c2,x2,s0,s1,b2,e2⟩:=z0K l c1 x1 3 (n+1) b1 (by decide) (by decide)
 have fl: ∀d,rp (pl l d) (.lst n [.int 10, .int 10000, .int 100000])= .lst n [.int 10, .int 10000, .int 100000]:=fun d=>by rw[z5w (by lia)];rfl
 rw[e2,z06 rfl rfl rfl (fun q=>by walk_at "";rfl) (fun q=>by walk_at "";simp only[fl];rfl)]
 walk_at ""
 have hv: ∃v:Int,0<v/\v<=100000/\atI [D.int 10,D.int 10000,D.int 100000] r2=some (.int v):=by
  have:r2=0\/r2=1\/r2=2:=by lia
  rcases this with rfl|rfl|rfl
  ·exact⟨_,by decide,by decide,at0⟩
  ·exact⟨_,by decide,by decide,at1⟩
  ·exact⟨_,by decide,by decide,at2⟩
 obtain⟨v,hv0,hv1,ev⟩:=hv
 rw[ev]
 walk_at ""
 generalize hN:1+r=N
 have N0:0<N/\N<=24:=by lia
 rw[z57 ⟨by lia,by lia⟩]
 walk_at ""
 obtain⟨s',e3,c3,x3,cs,p,o7,o8,n3,rfl,b3,hw,hp0,hp1,hp2,lc,hn3,ho7,ho8⟩:=z58 (P:=fun i s=> ∃(c x:Int) (cs:List Pz) (p:Int) (o7 o8:Option D) (m:Nat),s=⟨[some (.lst l [.int c, .int x]),some (.int T),some (.int W),some (.int N),some (.int v),some (.lst (n+1) (psD cs)),some (.int p),o7,o8],[some (.lst l [.int c, .int x]),some (.int T),some (.int W)],m⟩/\Bg c x/\Wy N 0 cs p/\0<=p/\p<=N/\((i:Int)<=p\/p=N)/\cs.length<=i/\n+1<m/\Fx o7/\Fx o8) (lo:=0) (N:=N.toNat) (g:= .nm 7) (b:=cmtM) (by
  rintro i hi s ⟨c,x,cs,p,o7,o8,m,rfl,hb,hw,hp0,hp1,hp2,lc,hm,ho7,ho8⟩
  have hcs: ∀k d,rpL (pl k d) (psD cs)=psD cs:=fun k d=>rL_p _ cs
  have hlc: ∀d,rp (pl l d) (.lst (n+1) (psD cs))= .lst (n+1) (psD cs):=fun d=>by rw[z5w (by lia),hcs]
  have hbg: ∀d c x,rp (pl (n+1) d) (.lst l [.int c, .int x])= .lst l [.int c, .int x]:=fun d c x=>by rw[z5w (by lia)];rfl
  refine⟨[some (.lst l [.int c, .int x]),some (.int T),some (.int W),some (.int N),some (.int v),some (.lst (n+1) (psD cs)),some (.int p),some (.int i),o8],by simp only[Int.zero_add];rfl, ?_⟩
  unfold cmtM
  walk_at ""
  by_cases hp:p<N
  ·simp only[hp,decide_true]
   walk_at ""
   obtain⟨r,c1,x1,hr0,hr1,b1,e1⟩:=z0K l c x (if N -p<3 then N -p else 3) m hb (by split<;>lia) (by split<;>lia)
   rw[e1,z06 rfl rfl rfl (fun q=>by walk_at "";simp only[hlc,ho8 _];rfl) (fun q=>by walk_at "";rfl)]
   walk_at ""
   have hr2:p+1+r<=N:=by split at hr1<;>lia
   obtain⟨r3,c2,x2,t0,t1,b2,e2⟩:=z0K l c1 x1 W m b1 (by lia) (by lia)
   rw[e2,z06 rfl rfl rfl (fun q=>by walk_at "";simp only[hlc,ho8 _];rfl) (fun q=>by walk_at "";rfl)]
   walk_at ""
   obtain⟨zs,c3,x3,n2,lz,iz,b3,g3,e3⟩:=zcR l c2 x2 (1+r3) 1040 m b2 (by lia) (by lia) (by lia) (by decide) (by decide)
   rw[e3,z06 rfl rfl rfl (fun q=>by walk_at "";simp only[hlc,ho8 _];rfl) (fun q=>by walk_at "";rfl)]
   walk_at ""
   obtain⟨k,c4,x4,hk0,hk1,b4,e4⟩:=z0K l c3 x3 9 n2 b3 (by decide) (by decide)
   rw[e4,z06 rfl rfl rfl (fun q=>by walk_at "";simp only[hlc,rL_i];rfl) (fun q=>by walk_at "";simp only[hlc,rL_i];rfl)]
   walk_at ""
   obtain⟨w,c5,x5,hw0,hw1,b5,e5⟩:=z0K l c4 x4 v n2 b4 (by lia) (by lia)
   rw[e5,z06 rfl rfl rfl (fun q=>by walk_at "";simp only[hlc,rL_i];rfl) (fun q=>by walk_at "";simp only[hlc,rL_i];rfl)]
   walk_at ""
   rw[z7M ⟨by rw[zl,z3d];lia,by simp only[labs,labsL,z7T,List.append_nil];exact List.not_mem_nil⟩]
   walk_at ""
   simp only[hbg,rL_i]
   obtain⟨q1,q2⟩:=zjm (a:=p) (N:=N) (e:=p+1+r) (k:=k) (w:=w) (ss:=zs) (by lia) hr2 iz (by lia) (by lia) hk0 hk1 hw0 (by lia) hp0 (by lia)
   exact⟨_,rfl,c5,x5,cs++[⟨p+1+r,zs,k,w⟩],p+1+r,some (.int i),some (.tup (iL zs)),n2,by simp[psD,Pz.d],b5,hw.snoc q1 q2,by lia,hr2,by lia,by simp only[List.length_append,List.length_cons,List.length_nil];lia,by lia,Fx.int,Fx.iL⟩
  ·simp only[hp,decide_false]
   walk_at ""
   exact⟨_,rfl,c,x,cs,p,_,_,m,rfl,hb,hw,hp0,hp1,by lia,by lia,hm,Fx.int,ho8⟩) N.toNat 0 ⟨[some (.lst l [.int c2, .int x2]),some (.int T),some (.int W),some (.int N),some (.int v),some (.lst (n+1) (psD [])),some (.int 0),none,none],[some (.lst l [.int c2, .int x2]),some (.int T),some (.int W)],n+1+1⟩ (by lia) ⟨c2,x2,[],0,none,none,n+1+1,rfl,b2,rfl,by lia,by lia,by lia,by simp,by lia, .no, .no⟩
 rw[show psD []=[] from rfl] at e3
 rw[e3]
 have hpN:p=N:=by lia
 have hcs: ∀k d,rpL (pl k d) (psD cs)=psD cs:=fun k d=>rL_p _ cs
 have hlc: ∀d,rp (pl l d) (.lst (n+1) (psD cs))= .lst (n+1) (psD cs):=fun d=>by rw[z5w (by lia),hcs]
 walk_at ""
 obtain⟨S,c4,x4,n4,lS,iS,b4,g4,e4⟩:=zcR l c3 x3 N 40 n3 b3 (by lia) (by lia) (by lia) (by decide) (by decide)
 rw[e4,z06 rfl rfl rfl (fun q=>by walk_at "";simp only[hlc,ho7 _,ho8 _];rfl) (fun q=>by walk_at "";rfl)]
 walk_at ""
 obtain⟨w,c5,x5,hw0,hw1,b5,e5⟩:=z0K l c4 x4 2 n4 b4 (by decide) (by decide)
 rw[e5,z06 rfl rfl rfl (fun q=>by walk_at "";simp only[hlc,ho7 _,ho8 _];rfl) (fun q=>by walk_at "";simp only[rL_i,hcs];rfl)]
 walk_at ""
 have hle:cs≠[]:=by
  intro q
  rw[q] at hw
  have:(0:Int)=p:=hw
  lia
 have hl1:1<=cs.length:=by
  cases cs with
  |nil=>exact absurd rfl hle
  |cons _ _=>simp
 have hS:((iL S).length:Int)=N:=by rw[z0o,lS];lia
 refine⟨⟨S,cs,w==1⟩,c5,x5,n4,⟨⟨⟨iS.nm (by decide),by dsimp only;lia,by dsimp only;lia⟩,⟨hl1,by dsimp only;lia⟩,hw.all⟩, ?_⟩,b5,by lia,rfl⟩
 have hr:=zcQ (lo:=1) (hi:=24) iS (by lia) (by lia)
 simp only[Cm.d,z1e,lenB,Bool.and_eq_true,hS]
 exact⟨hr,hw.way hpN⟩
theorem zcT: ∀{ys:List D},(∀y∈ys,∃q:Cm,Good q/\y=q.d)->∃cs:List Cm,(∀c∈cs,Good c)/\ys=csD cs
 |[],_=>⟨[],(fun _ h=>nomatch h),rfl⟩
 |y::ys,h=>by
  obtain⟨q,h1,rfl⟩:=h y (by simp)
  obtain⟨cs,h2,rfl⟩:=zcT (ys:=ys) fun z hz=>h z (by simp[hz])
  exact⟨q::cs,fun c hc=>(List.mem_cons.mp hc).elim (fun e=>e▸h1) (h2 c),rfl⟩
theorem at_8{a b c d e f g h:Int}{r:Int}(h0:0<=r)(h1:r<8)(lo hi:Int)(q: ∀v∈[a,b,c,d,e,f,g,h],lo<v/\v<=hi): ∃v:Int,lo<v/\v<=hi/\atI [D.int a, .int b, .int c, .int d, .int e, .int f, .int g, .int h] r=some (.int v):=by
 have:r=0\/r=1\/r=2\/r=3\/r=4\/r=5\/r=6\/r=7:=by lia
 rcases this with rfl|rfl|rfl|rfl|rfl|rfl|rfl|rfl
 ·exact⟨a,(q _ (by simp)).1,(q _ (by simp)).2,rfl⟩
 ·exact⟨b,(q _ (by simp)).1,(q _ (by simp)).2,rfl⟩
 ·exact⟨c,(q _ (by simp)).1,(q _ (by simp)).2,rfl⟩
 ·exact⟨d,(q _ (by simp)).1,(q _ (by simp)).2,rfl⟩
 ·exact⟨e,(q _ (by simp)).1,(q _ (by simp)).2,rfl⟩
 ·exact⟨f,(q _ (by simp)).1,(q _ (by simp)).2,rfl⟩
 ·exact⟨g,(q _ (by simp)).1,(q _ (by simp)).2,rfl⟩
 ·exact⟨h,(q _ (by simp)).1,(q _ (by simp)).2,rfl⟩
theorem k8{a b c d e f g h:D}{σ tm:List (Option D)}{n:Nat}:lstM [a,b,c,d,e,f,g,h] ⟨σ,tm,n⟩= .ok (.lst n [a,b,c,d,e,f,g,h]) ⟨σ,tm,n+1⟩:=(rfl)
theorem zes(l:Nat)(c x:Int)(n:Nat)(h:Bg c x)(hn:l<n): ∃(cs:List Cm) (c' x':Int) (L n':Nat),cs.length<=60/\(∀q∈cs,Good q)/\Bg c' x'/\n<=L/\L<n'/\z1N [.lst l [.int c, .int x]] n= .ok (.lst L (csD cs)) [.lst l [.int c', .int x']] n':=by
 unfold z1N z3G
 walk_at ""
 obtain⟨w,c1,x1,w0,w1,b1,e1⟩:=z0K l c x 8 n h (by decide) (by decide)
 rw[e1,z06 rfl rfl rfl (fun q=>by walk_at "";rfl) (fun q=>by walk_at "";rfl)]
 walk_at ""
 obtain⟨v,v0,v1,ev⟩:=at_8 (a:=61) (b:=3) (c:=6) (d:=6) (e:=9) (f:=2) (g:=4) (h:=6) w0 w1 1 61 (by decide)
 rw[k8]
 walk_at ""
 rw[ev]
 walk_at ""
 obtain⟨N,c2,x2,N0,N1,b2,e2⟩:=z0K l c1 x1 v (n+1) b1 (by lia) (by lia)
 rw[e2,z06 rfl rfl rfl (fun q=>by walk_at "";rfl) (fun q=>by walk_at "";rfl)]
 walk_at ""
 obtain⟨T,T0,T1,eT⟩:=at_8 (a:=3) (b:=24) (c:=6) (d:=6) (e:=6) (f:=6) (g:=6) (h:=6) w0 w1 0 24 (by decide)
 obtain⟨W,W0,W1,eW⟩:=at_8 (a:=2) (b:=24) (c:=4) (d:=4) (e:=4) (f:=4) (g:=4) (h:=4) w0 w1 0 24 (by decide)
 obtain⟨ys,b',n',g1,g2,g3,⟨c3,x3,rfl,h3⟩,g5,g6⟩:=z7a (l:=l) (ms:=[mVar 2]) (me:=mCall z1i [(mVar 1),(mBin (mCB [(mC (.int 3)),(mC (.int 24)),(mC (.int 6)),(mC (.int 6)),(mC (.int 6)),(mC (.int 6)),(mC (.int 6)),(mC (.int 6))] lstM) (mVar 2) ixD),(mBin (mCB [(mC (.int 2)),(mC (.int 24)),(mC (.int 4)),(mC (.int 4)),(mC (.int 4)),(mC (.int 4)),(mC (.int 4)),(mC (.int 4))] lstM) (mVar 2) ixD)]) (N:=N.toNat) (ix:=[0,1]) (Q:=fun _ y=> ∃q:Cm,Good q/\y=q.d) (Bg:=fun b=> ∃c x,b=[D.int c, .int x]/\Bg c x) (fun _ _ _ _ h=>h) (s:=⟨[some (.lst l [.int c2, .int x2]),some (.int w),some (.int N)],[some (.lst l [.int c2, .int x2])],n+1⟩) (j:=N) (σ0:=[some (.lst l [.int c2, .int x2]),some (.int w),some (.int N)]) (tm0:=[some (.lst l [.int c2, .int x2])]) (n:=n+1)
  (by walk_at "") rfl ⟨by lia,by lia⟩ (by rw[zl];lia) ⟨c2,x2,rfl,b2⟩ (by lia) (by walk_at "") (by walk_at "") (by simp only[List.map_cons,List.map_nil,List.getElem?_cons_zero,List.getElem?_cons_succ,Option.getD_some];walk_at "") (by
   rintro i hi b tm m ⟨c,x,rfl,hb⟩ hm hf
   obtain⟨q,c4,x4,n4,qo,b4,h4,e4⟩:=zcS l c x T W (m+1+1) hb (by lia) T0 T1 W0 W1
   refine⟨q.d,[.int c4, .int x4],n4,⟨c4,x4,rfl,b4⟩,⟨q,qo,rfl⟩,by lia,by rw[z7V q qo.1];exact List.not_mem_nil, ?_⟩
   simp only[List.map_cons,List.map_nil,List.getElem?_cons_zero,List.getElem?_cons_succ,Option.getD_some]
   walk_at ""
   rw[k8]
   walk_at ""
   rw[eT]
   walk_at ""
   rw[k8]
   walk_at ""
   rw[eW]
   walk_at ""
   rw[e4,z56 rfl rfl rfl (by walk_at "") hf]
   walk_at "")
 rw[g6]
 walk_at ""
 obtain⟨cs,h4,rfl⟩:=zcT g2
 exact⟨cs,c3,x3,n',n'+1,by rw[z5c] at g1;lia,h4,h3,by lia,by lia,rfl⟩
structure Sh(k:Nat)(E:PyData):Prop where
 a:PyData.leavesShort 64 E=true
 b:E.showable=true
 c:E.bulk<=k
theorem sh_i{i:Int}(h:0<=i/\i<100000):Sh 0 (.int i):=by
 have e:(PyData.int i).shown.length<=64:=by
  simp only[PyData.shown]
  have:= @PySem.int_text_length_le10 i 61 (by decide) (Nat.lt_of_le_of_lt (show i.natAbs<=100000 by lia) (by decide))
  rw[PySem.ofString_length];lia
 refine⟨?_, ?_,by simp[PyData.bulk]⟩
 ·simp only[PyData.leavesShort,decide_eq_true_eq];exact e
 ·simp only[PyData.showable,decide_eq_true_eq]
  exact z3c h.1 h.2
theorem shL{k:Nat}: ∀{es:List PyData},(∀e∈es,Sh k e)->PyData.leavesShortAll 64 es=true/\PyData.showableAll es=true/\PyData.bulkAll es<=(k+1)*es.length
 |[],_=>⟨rfl,rfl,Nat.le_refl _⟩
 |e::es,h=>by
  obtain⟨r1,r2,r3⟩:=shL (es:=es) fun x hx=>h x (by simp[hx])
  have q:=h e (by simp)
  have q3:=q.c
  refine⟨?_, ?_, ?_⟩
  ·simp only[PyData.leavesShortAll,Bool.and_eq_true];exact⟨q.a,r1⟩
  ·simp only[PyData.showableAll,Bool.and_eq_true];exact⟨q.b,r2⟩
  ·simp only[PyData.bulkAll,List.length_cons];rw[Nat.mul_add,Nat.mul_one];lia
theorem z4B{P:PyData->Prop}: ∀{ds:List D},(∀d∈ds,P (er d))->∀e∈erL ds,P e
 |[],_,e,h=>nomatch h
 |d::ds,hd,e,h=>by
  rcases List.mem_cons.mp (show e∈er d::erL ds from h) with rfl|h
  ·exact hd d (by simp)
  ·exact z4B (fun d' h'=>hd d' (by simp[h'])) e h
theorem z7W(ds:List D):(erL ds).length=ds.length:=by
 induction ds with
 |nil=>rfl
 |cons d ds ih=>simp only[erL,List.length_cons,ih]
theorem zhl{s:List Int}(h:Nm s)(hl:s.length<=24):Sh 24 (er (.tup (iL s))):=by
 obtain⟨r1,r2,r3⟩:=shL (k:=0) (es:=erL (iL s)) (z4B fun d hd=>by
  obtain⟨i,hi,rfl⟩:=List.mem_map.mp hd
  exact sh_i (h i hi))
 rw[z7W,z0o] at r3
 exact⟨by simp only[er,PyData.leavesShort];exact r1,by simp only[er,PyData.showable];exact r2,by simp only[er,PyData.bulk];lia⟩
theorem sh_p{p:Pz}(h:p.ok):Sh 28 (er p.d):=by
 have a:=sh_i h.1
 have b:=zhl h.2.1.1 h.2.1.2.2
 have c:=sh_i h.2.2.1
 have d:=sh_i h.2.2.2
 have e1:=a.c
 have e2:=b.c
 have e3:=c.c
 have e4:=d.c
 rw[show er p.d= .tuple [.int p.e,er (.tup (iL p.ss)), .int p.k, .int p.c] from rfl]
 generalize PyData.int p.e=A at*
 generalize PyData.int p.k=K at*
 generalize PyData.int p.c=C at*
 generalize er (.tup (iL p.ss))=B at*
 exact⟨by simp only[PyData.leavesShort,PyData.leavesShortAll,a.a,b.a,c.a,d.a,Bool.and_self],by simp only[PyData.showable,PyData.showableAll,a.b,b.b,c.b,d.b,Bool.and_self],by simp only[PyData.bulk,PyData.bulkAll];lia⟩
theorem sh_c{c:Cm}(h:c.ok):Sh 723 (er c.d):=by
 have a:=zhl h.1.1 h.1.2.2
 have l24:=h.2.1.2
 have b:Sh 696 (er (.tup (psD c.C))):=by
  obtain⟨r1,r2,r3⟩:=shL (k:=28) (es:=erL (psD c.C)) (z4B fun d hd=>by
   obtain⟨p,hp,rfl⟩:=List.mem_map.mp hd
   exact sh_p (h.2.2 p hp))
  rw[z7W,z3d] at r3
  exact⟨by simp only[er,PyData.leavesShort];exact r1,by simp only[er,PyData.showable];exact r2,by simp only[er,PyData.bulk];lia⟩
 have d:Sh 0 (.bool c.b):=by
  refine⟨?_,rfl,by simp[PyData.bulk]⟩
  cases c.b<;>decide+kernel
 have e1:=a.c
 have e2:=b.c
 have e3:=d.c
 rw[show er c.d= .tuple [er (.tup (iL c.S)),er (.tup (psD c.C)), .bool c.b] from rfl]
 generalize PyData.bool c.b=K at*
 generalize er (.tup (iL c.S))=A at*
 generalize er (.tup (psD c.C))=B at*
 exact⟨by simp only[PyData.leavesShort,PyData.leavesShortAll,a.a,b.a,d.a,Bool.and_self],by simp only[PyData.showable,PyData.showableAll,a.b,b.b,d.b,Bool.and_self],by simp only[PyData.bulk,PyData.bulkAll];lia⟩
theorem zjn{cs:List Cm}(hc: ∀c∈cs,c.ok)(hz:cs.length<=60){l:Nat}:Gd (.lst l (csD cs))/\(er (.lst l (csD cs))).depth<=5:=by
 have r:=zgP (n:=0) (k:=4) (l:=l) (Nat.zero_le _) (show(csD cs).length<=2000 by rw[z5c];lia) fun d hd=>by
  obtain⟨c,hc',rfl⟩:=List.mem_map.mp hd
  exact⟨zgM _ (zc9 (hc c hc')).1,(zc9 (hc c hc')).2⟩
 exact⟨zgN _ r.1,r.2⟩
noncomputable def shT(cs:List Cm):Str:=(PyData.list (erL (csD cs))).shown
theorem zcb{cs:List Cm}(hc: ∀c∈cs,c.ok)(hz:cs.length<=60){l:Nat}{s:Stt}:strA [.lst l (csD cs)] s= .ok (.str (shT cs)) s:=by
 obtain⟨r1,r2,r3⟩:=shL (k:=723) (es:=erL (csD cs)) (z4B fun d hd=>by
  obtain⟨c,h,rfl⟩:=List.mem_map.mp hd
  exact sh_c (hc c h))
 rw[z7W,z5c] at r3
 have b:=PyData.shown_le_bulk 64 (by decide) (er (.lst l (csD cs))) (by simp only[er,PyData.leavesShort];exact r1)
 have g:=zjn (l:=l) hc hz
 have g1:plainL (csD cs)=true:=g.1.1
 have hq:(plainL (csD cs)&&(er (.lst l (csD cs))).showable&&decide ((er (.lst l (csD cs))).depth<=60)&&decide ((er (.lst l (csD cs))).shown.length<=sizeLine))=true:=by
  simp only[Bool.and_eq_true,decide_eq_true_eq]
  refine⟨⟨⟨g1,by simp only[er,PyData.showable];exact r2⟩,by have:=g.2;lia⟩, ?_⟩
  rw[zl]
  have b2:(er (.lst l (csD cs))).bulk<=43440:=by simp only[er,PyData.bulk];lia
  lia
 show repD [.lst l (csD cs)] s=_
 simp only[repD]
 rw[if_pos hq]
 rfl
noncomputable def Lo(x:List Nat):Prop:= ∀c∈x,c<128
theorem zcc{z:List Nat}{xs:List (List Nat)}(hz:Lo z)(h: ∀x∈xs,Lo x):Lo (jn z xs):=fun c hc=>by
 rcases z7i hc with q|⟨y,hy,q⟩
 ·exact hz c q
 ·exact h y hy c q
theorem z7j{i:Int}(h:0<=i):Lo (sg (num i)):=fun c hc=>by have:=zax h c hc;lia
theorem zhm{s:List Int}(h:Nm s):Lo (sg (dt s)):=by
 rw[zep]
 refine zcc (by simp[Lo]) fun x hx=> ?_
 rw[List.map_map] at hx
 obtain⟨i,hi,rfl⟩:=List.mem_map.mp hx
 exact z7j (h i hi).1
theorem zjo{p:Pz}(h:p.ok):Lo (sg (pT p)):=by
 rw[zc5]
 refine zcc (by simp[Lo]) fun x hx=> ?_
 simp only[List.map_cons,List.map_nil,List.mem_cons,List.not_mem_nil,or_false] at hx
 rcases hx with rfl|rfl|rfl|rfl
 ·exact z7j h.1.1
 ·exact zhm h.2.1.1
 ·exact z7j h.2.2.1.1
 ·exact z7j h.2.2.2.1
theorem zjp{c:Cm}(h:c.ok):Lo (sg (bo c)):=by
 unfold bo
 rw[z1j,z5x]
 refine zcc (by simp[Lo]) fun x hx=> ?_
 obtain⟨y,hy,rfl⟩:=List.mem_map.mp hx
 simp only[bP,List.mem_cons,List.mem_append,List.not_mem_nil,or_false] at hy
 rcases hy with rfl|rfl|hy|rfl
 ·exact zhm h.1.1
 ·rw[zei];cases c.b<;>simp[Lo]
 ·obtain⟨p,hp,rfl⟩:=List.mem_map.mp hy
  exact zjo (h.2.2 p hp)
 ·rw[z1s,s_eq]
  intro d hd
  rcases List.mem_append.mp hd with hd|hd
  ·rw[List.mem_singleton.mp hd];decide
  ·exact z7j (z9f c).1 d hd
theorem zcU{α:Type}(p:α->Bool): ∀l:List α,(l.takeWhile p).length=l.length->∀a∈l,p a=true
 |[],_,a,h=>nomatch h
 |x::l,e,a,h=>by
  rw[List.takeWhile_cons] at e
  cases hx:p x with
  |false=>rw[hx] at e;simp at e
  |true=>
   rw[hx] at e
   simp only[if_true,List.length_cons,Nat.add_right_cancel_iff] at e
   rcases List.mem_cons.mp h with rfl|h
   ·exact hx
   ·exact zcU p l e a h
theorem zcV{α:Type}(p:α->Bool): ∀l:List α,(∀a∈l,p a=true)->l.takeWhile p=l
 |[],_=>rfl
 |x::l,h=>by
  rw[List.takeWhile_cons,h x (by simp),if_pos rfl,zcV p l fun a ha=>h a (by simp[ha])]
theorem zaU{α:Type}(p:α->Bool): ∀l:List α,∀a∈l.take (l.takeWhile p).length,p a=true
 |[],a,h=>by simp at h
 |x::l,a,h=>by
  rw[List.takeWhile_cons] at h
  cases hx:p x with
  |false=>rw[hx] at h;simp at h
  |true=>
   rw[hx] at h
   simp only[if_true,List.length_cons,List.take_succ_cons] at h
   rcases List.mem_cons.mp h with rfl|h
   ·exact hx
   ·exact zaU p l a h
theorem zaV(w y:Str):(Txt.stripChars w y==Str.ofString "")=(sg w).all fun c=>y.cps.contains c:=by
 unfold Txt.stripChars
 rw[PyProof.Rows.stripBy_eq,Bool.eq_iff_iff,beq_iff_eq,List.all_eq_true]
 generalize y.cps.contains=p
 have hlen:(sg w).length=w.length:=z1h w
 have hlo:stripLo p true w=((sg w).takeWhile p).length:=rfl
 have hhi: ∀lo,stripHi p true w lo=w.length -(((sg w).drop lo).reverse.takeWhile p).length:=fun _=>rfl
 have tl:((sg w).takeWhile p).length<=w.length:=by rw[<-hlen];exact(List.takeWhile_prefix p).length_le
 constructor
 ·intro h
  have h1:(w.cps.extract (stripLo p true w) (stripHi p true w (stripLo p true w))).size=0:=congrArg Str.length h
  rw[Array.size_extract,hhi,hlo] at h1
  have hw:w.cps.size=w.length:=rfl
  generalize hk:((sg w).takeWhile p).length=k at*
  have h2:(((sg w).drop k).reverse.takeWhile p).length<=((sg w).drop k).reverse.length:=(List.takeWhile_prefix p).length_le
  rw[List.length_reverse,List.length_drop,hlen] at h2
  have h3:(((sg w).drop k).reverse.takeWhile p).length=((sg w).drop k).reverse.length:=by
   rw[List.length_reverse,List.length_drop,hlen]
   lia
  intro c hc
  rw[<-List.take_append_drop k (sg w)] at hc
  rcases List.mem_append.mp hc with hc|hc
  ·rw[<-hk] at hc
   exact zaU p (sg w) c hc
  ·exact zcU p _ h3 c (List.mem_reverse.mpr hc)
 ·intro h
  have e:((sg w).takeWhile p).length=w.length:=by rw[zcV p _ h,hlen]
  refine z2k ?_
  show(w.cps.extract (stripLo p true w) (stripHi p true w (stripLo p true w))).toList=[]
  rw[<-List.length_eq_zero_iff,Array.length_toList,Array.size_extract,hhi,hlo,e]
  have hw:w.cps.size=w.length:=rfl
  lia
theorem zet(c:Nat):("0123456789" :Str).cps.contains c=decide (48<=c/\c<=57):=by
 rw[<-Array.contains_toList,show("0123456789" :Str).cps.toList=List.range' 48 10 from zcF,Bool.eq_iff_iff,List.contains_iff_mem,List.mem_range'_1,decide_eq_true_iff]
 lia
theorem zaW(w:Str):(Txt.stripChars w (Str.ofString "0123456789")==Str.ofString "")=(sg w).all fun c=>decide (48<=c/\c<=57):=by
 rw[zaV]
 congr 1
 funext c
 exact zet c
theorem z8C(ds:List Nat)(d:Nat):PySem.NumText.digitsVal (ds++[d])=PySem.NumText.digitsVal ds*10+(d - 48):=by
 unfold PySem.NumText.digitsVal
 rw[List.foldl_append]
 rfl
theorem zaX: ∀(k:Nat) (ds:List Nat),ds.length=k+1->Dg ds->ds.head? ≠some 48->0<PySem.NumText.digitsVal ds/\sg (num (PySem.NumText.digitsVal ds:Nat))=ds
 |0,ds,hl,hd,hh=>by
  match ds,hl with
  |[d],_=>
   have:=hd d (by simp)
   have h0:d≠48:=fun e=>hh (by rw[e];rfl)
   have e:PySem.NumText.digitsVal [d]=d - 48:=by simp[PySem.NumText.digitsVal]
   rw[e]
   refine⟨by lia, ?_⟩
   rw[z3b (by lia)]
   congr 1
   lia
 |k+1,ds,hl,hd,hh=>by
  obtain⟨es,d,rfl⟩: ∃es d,ds=es++[d]:=⟨ds.dropLast,ds.getLast (by intro e;rw[e] at hl;simp at hl),(List.dropLast_concat_getLast _).symm⟩
  have hd':=hd d (by simp)
  have hes:es.length=k+1:=by simpa using hl
  have hh':es.head? ≠some 48:=by
   match es,hes with
   |a::r,_=>simpa using hh
  obtain⟨h1,h2⟩:=zaX k es hes (fun c hc=>hd c (by simp[hc])) hh'
  rw[z8C]
  refine⟨by lia, ?_⟩
  rw[z6q (by lia),show(PySem.NumText.digitsVal es*10+(d - 48))/10=PySem.NumText.digitsVal es by lia,h2,show 48+(PySem.NumText.digitsVal es*10+(d - 48)) %10=d by lia]
theorem zcW: ∀(k:Nat) (ds:List Nat),ds.length=k->Dg ds->PySem.NumText.digitsVal ds<10^k
 |0,ds,hl,_=>by
  rw[List.length_eq_zero_iff.mp hl]
  exact Nat.one_pos
 |k+1,ds,hl,hd=>by
  obtain⟨es,d,rfl⟩: ∃es d,ds=es++[d]:=⟨ds.dropLast,ds.getLast (by intro e;rw[e] at hl;simp at hl),(List.dropLast_concat_getLast _).symm⟩
  have hd':=hd d (by simp)
  have h1:=zcW k es (by simpa using hl) (fun c hc=>hd c (by simp[hc]))
  rw[z8C,Nat.pow_succ]
  lia
theorem z8D{w:Str}(h:(sg w).all (fun c=>decide (48<=c/\c<=57))=true)(h1:1<=w.length)(h5:w.length<=5): ∃v:Nat,v<100000/\PySem.intText? w=some (v:Int)/\(num v==w)= !((sg w).head? ==some 48&& !(w== "0")):=by
 have hd:Dg (sg w):=fun c hc=>of_decide_eq_true (List.all_eq_true.mp h c hc)
 have hl:=z1h w
 have hne:sg w≠[]:=fun e=>by rw[e] at hl;simp at hl;lia
 refine⟨PySem.NumText.digitsVal (sg w),Nat.lt_of_lt_of_le (zcW _ _ rfl hd) (Nat.le_trans (Nat.pow_le_pow_right (by decide) (show(sg w).length<=5 by lia)) (by decide)),PySem.intText_digits hd hne (by lia), ?_⟩
 by_cases hh:(sg w).head? =some 48
 ·rw[hh]
  simp only[beq_self_eq_true,Bool.true_and,Bool.not_not]
  rw[Bool.eq_iff_iff,beq_iff_eq,beq_iff_eq]
  constructor
  ·intro e
   have e2:=congrArg sg e
   have h3:=(z6r (PySem.NumText.digitsVal (sg w))).2.2
   rw[e2] at h3
   have h0:PySem.NumText.digitsVal (sg w)=0:=by
    by_cases hz:0<PySem.NumText.digitsVal (sg w)
    ·exact absurd hh (h3 hz)
    ·lia
   rw[<-e,h0]
   exact z2k (by rw[z3b (by decide)];decide+kernel)
  ·intro e
   rw[e]
   exact z2k (by decide+kernel)
 ·have h2:=(zaX ((sg w).length - 1) (sg w) (by lia) hd hh).2
  rw[show((sg w).head? ==some 48)=false from beq_eq_false_iff_ne.mpr hh,Bool.false_and,Bool.not_false,beq_iff_eq]
  exact z2k h2
noncomputable def lawN(w:Str):D:=match z1S w with
 | .int i=> .int i
 |_=> .int (-1)
theorem zjq{w y:Str}{s:Stt}(h:w.length<=sizeLine):txS w [.str y] s= .ok (.str (Txt.stripChars w y)) s:=by simp only[txS,if_pos h];rfl
theorem zcd(w:Str)(hw:w.length<=1000000)(n:Nat):z0q [.str w] n= .ok (lawN w) [.str w] n:=by
 unfold z0q z4h
 walk_at ""
 rw[z7d (by rw[zl];lia)]
 walk_at ""
 have eA:decide (1<=(w.length:Int))=decide (1<=w.length):=by congr 1;simp only[eq_iff_iff];lia
 have eB:decide ((w.length:Int)<=5)=decide (w.length<=5):=by congr 1;simp only[eq_iff_iff];lia
 rw[eA]
 unfold lawN z1S okN
 by_cases h1:1<=w.length
 ·rw[decide_eq_true h1]
  walk_at ""
  rw[eB]
  by_cases h5:w.length<=5
  ·rw[decide_eq_true h5]
   walk_at ""
   rw[zjq (by rw[zl];lia)]
   walk_at ""
   rw[z7g,zaW]
   cases ha:(sg w).all fun c=>decide (48<=c/\c<=57) with
   |false=>
    walk_at ""
    rfl
   |true=>
    obtain⟨v,hv,ev,eq⟩:=z8D ha h1 h5
    have ei: ∀s:Stt,intS [.str w] s= .ok (.int v) s:=fun s=>by simp only[intS,if_pos (show w.length<=640 by lia),ev];rfl
    walk_at ""
    rw[ei]
    walk_at ""
    rw[z5d (z3c (by lia) (by lia))]
    walk_at ""
    rw[z7g,eq]
    cases((sg w).head? ==some 48&& !(w== "0")) with
    |true=>
     walk_at ""
     rfl
    |false=>
     walk_at ""
     rw[ei,ev]
     walk_at ""
     rfl
  ·rw[decide_eq_false h5]
   walk_at ""
   rfl
 ·rw[decide_eq_false h1]
  walk_at ""
  rfl
noncomputable def lawI(w:Str):Int:=match z1S w with
 | .int i=>i
 |_=> -1
theorem z8E(w:Str):lawN w= .int (lawI w):=by
 unfold lawN lawI
 rcases z6t w with h|⟨i,h⟩<;>rw[h]
noncomputable def lE:D->D
 | .str x=>lawN x
 |_=> .non
theorem zhn(ys:List Str):(ys.map D.str).map lE=iL (ys.map lawI):=by
 unfold iL
 rw[List.map_map,List.map_map]
 exact List.map_congr_left fun y _=>z8E y
theorem zho(w:Str): -1<=lawI w/\lawI w<100000:=by
 unfold lawI z1S
 by_cases h:okN w=true
 ·rw[if_pos h]
  unfold okN at h
  simp only[Bool.and_eq_true,decide_eq_true_eq] at h
  obtain⟨v,hv,ev,_⟩:=z8D h.2.2.1 h.1 h.2.1
  rw[ev]
  exact⟨by show(-1:Int)<=(v:Int);lia,by show(v:Int)<100000;lia⟩
 ·rw[if_neg h]
  exact⟨by decide,by decide⟩
noncomputable def lawD(w:Str):List Int:=(Txt.split w (Str.ofString ".")).map lawI
theorem zcX(w:Str)(hw:w.length<=1000000)(n:Nat): ∃n',n<=n'/\z0R [.str w] n= .ok (.tup (iL (lawD w))) [.str w] n':=by
 have hc:=z1P (y:=Str.ofString ".") hw
 obtain⟨n1,g1,e1⟩:=z1Z (mi:=z0l (z0w (mVar 0) [(mC (.str ("." :Str)))] z1p)) (K:=kLst) (tg:= .nm 0) (me:=mCall z0q [(mVar 0)]) (g:=lE) (sl:=fun d=>[some d]) (k:=1) (items:=(Txt.split w (Str.ofString ".")).map D.str) (its:=[some (.lst n ((Txt.split w (Str.ofString ".")).map D.str))]) (ix:=[]) (s:=⟨[some (.str w)],[some (.str w)],n⟩) (σ:=[some (.str w)]) (tm:=[some (.str w)]) (n:=n+1) (z7b (by
  walk_at ""
  rw[z3I zcH (by rw[zl];lia)]
  rfl)) rfl (by rw[zl,List.length_map];lia) (fun i rest=>rfl) rfl (by
  intro d hd
  refine⟨rfl,fun os ho=> ?_⟩
  match os,ho with
  |[a0],_=>rfl) (by
  intro d hd tm n
  obtain⟨p,hp,rfl⟩:=List.mem_map.mp hd
  refine⟨n,Nat.le_refl _, ?_⟩
  simp only[List.map_nil,List.append_nil]
  walk_at ""
  rw[zcd p (Nat.le_trans (p_sh hp) hw)]
  walk_at ""
  rfl)
 rw[zhn] at e1
 refine⟨n1+1,by lia, ?_⟩
 unfold z0R z3H
 walk_at ""
 rw[e1]
 walk_at ""
 rfl
theorem zhp: ∀s:List Int,GdL (iL s)
 |[]=>⟨rfl,rfl⟩
 |i::s=>by
  obtain⟨h1,h2⟩:=zhp s
  exact⟨by simp only[iL,List.map_cons,plainL,Mi.plain,Bool.true_and] at h1⊢;exact h1,by simp only[iL,List.map_cons,erL,er,PyData.canLayAll0,PyData.canLay0,Bool.true_and] at h2⊢;exact h2⟩
theorem zaY{l m:Nat}{s:List Int}{q:Stt}:neD (.lst l (iL s)) (.lst m []) q= .ok (.bool (!s.isEmpty)) q:=by
 have g:=(Gd.lst (l:=l)).mpr (zhp s)
 have g2:Gd (.lst m []):=⟨rfl,rfl⟩
 have d2:(er (.lst m [])).depth<=60:=show(PyData.list []).depth<=60 by decide
 rw[y_ne (by simp only[eqC,g.1,g.2,g2.1,g2.2,Bool.true_and,decide_eq_true_eq];exact Nat.le_trans (Nat.min_le_right _ _) d2)]
 cases s<;>rfl
noncomputable def out(M i:Int):Bool:= !(decide (0<=i)&&decide (i<M))
noncomputable def outD(M:Int):D->Bool
 | .int i=>out M i
 |_=>false
theorem zaZ(M:Int): ∀s:List Int,((iL s).filter (outD M)).map id=iL (s.filter (out M))
 |[]=>rfl
 |i::s=>by
  have:=zaZ M s
  simp only[iL,List.map_cons,List.map_id,List.filter_cons] at this⊢
  show(if out M i=true then D.int i::_ else _)=_
  cases out M i with
  |true=>simp only[if_true,List.map_cons];rw[this]
  |false=>simp only[Bool.false_eq_true,if_false];exact this
noncomputable def inB(M:Int)(s:List Int):Bool:=s.all fun i=> !out M i
theorem zb0(M:Int)(s:List Int):(!(s.filter (out M)).isEmpty)= !inB M s:=by
 unfold inB
 congr 1
 rw[Bool.eq_iff_iff,List.isEmpty_iff,List.filter_eq_nil_iff,List.all_eq_true]
 simp only[Bool.not_eq_true,Bool.not_eq_true']
noncomputable def lw(N:Int):Int->List Pz->Bool
 |a,[]=>a==N
 |a,p::C=>(decide (a<p.e)&&decide (p.e<=N))&&((decide (0<=p.k)&&decide (p.k<9))&&(!decide (p.c<0)&& !decide (24<(p.ss.length:Int))))&&inB 1040 p.ss&&lw N p.e C
theorem zhq{i:Nat}{s:List Int}{M:Int}(hs:s.length<=1000002){σ tm:List (Option D)}(hi:σ[i]? =some (some (.tup (iL s))))(n:Nat): ∃n',n<=n'/\z0D (z0l (mVar i)) (.nm 0) (mNot (mBoo (z0C (mC (.int 0)) (mVar 0) (mC (.int M)) leD ltD))) (mVar 0) 1 [] ⟨σ,tm,n⟩= .ok (.lst n' (iL (s.filter (out M)))) ⟨σ,tm,n'+1⟩:=by
 obtain⟨n1,g1,e1⟩:=z9d (mc:=mVar i) (mt:=mNot (mBoo (z0C (mC (.int 0)) (mVar 0) (mC (.int M)) leD ltD))) (me:=mVar 0) (p:=outD M) (g:=id) (ds:=iL s) (ix:=[]) (s:=⟨σ,tm,n⟩) (σ:=σ) (tm:=tm) (n:=n) (by unfold mVar;simp only[hi]) (by rw[zl,z0o];lia) (by
  intro d hd tm n
  obtain⟨j,_,rfl⟩:=List.mem_map.mp hd
  refine⟨n,Nat.le_refl _, ?_⟩
  simp only[List.map_nil]
  walk_at ""
  by_cases h0:0<=j
  ·simp only[h0,decide_true,outD,out]
   walk_at ""
  ·simp only[h0,decide_false,outD,out]
   walk_at "") (by
  intro d hd _ tm n
  refine⟨n,Nat.le_refl _, ?_⟩
  simp only[List.map_nil]
  walk_at ""
  rfl)
 rw[zaZ] at e1
 exact⟨n1,g1,e1⟩
theorem z4k{l:Nat}{ds:List D}{i:Nat}{tm:List (Option D)}:kLst.at' i (some (.lst l ds)::tm)=some ds[i]? :=rfl
theorem zjr{C:List Pz}{i:Nat}(h:i<C.length):(psD C)[i]? =some (.tup [.int C[i].e, .tup (iL C[i].ss), .int C[i].k, .int C[i].c]):=by
 unfold psD
 rw[List.getElem?_map,List.getElem?_eq_getElem h]
 rfl
noncomputable def okP(N a:Int)(p:Pz):Bool:=(decide (a<p.e)&&decide (p.e<=N))&&((decide (0<=p.k)&&decide (p.k<9))&&(!decide (p.c<0)&& !decide (24<(p.ss.length:Int))))&&inB 1040 p.ss
noncomputable def lwM:MS:=(seqS (sIf (mOr (mNot (mBoo (z0C (mVar 2) (mVar 3) (mCB [(mVar 0)] lenD) ltD leD))) (mOr (mNot (mBoo (z0C (mC (.int 0)) (mVar 5) (mC (.int 9)) leD ltD))) (mOr (mBoo (mBin (mVar 6) (mC (.int 0)) ltD)) (mBoo (mBin (mCB [(mVar 4)] lenD) (mC (.int 24)) gtD))))) (sRet (mC (.bool false))) sNx)
 (seqS (sIf (mBoo (mBin (z0D (z0l (mVar 4)) (.nm 0) (mNot (mBoo (z0C (mC (.int 0)) (mVar 0) (mC (.int 1040)) leD ltD))) (mVar 0) 1 []) (mCB [] lstM) neD)) (sRet (mC (.bool false))) sNx)
 (sAsg (.nm 2) (mVar 3))))
theorem zjs(S:List Int)(B:D)(p:Pz)(hps:p.ss.length<=1000002)(a:Int)(tm:List (Option D))(n:Nat): ∃n',n<=n'/\lwM ⟨[some (.tup (iL S)),some B,some (.int a),some (.int p.e),some (.tup (iL p.ss)),some (.int p.k),some (.int p.c)],tm,n⟩=if okP S.length a p=true then .nx ⟨[some (.tup (iL S)),some B,some (.int p.e),some (.int p.e),some (.tup (iL p.ss)),some (.int p.k),some (.int p.c)],tm,n'⟩ else .rt (.bool false) ⟨[some (.tup (iL S)),some B,some (.int a),some (.int p.e),some (.tup (iL p.ss)),some (.int p.k),some (.int p.c)],tm,n'⟩:=by
 unfold lwM
 walk_at ""
 (try simp only[z0o])
 by_cases h1:a<p.e
 ·simp only[h1,decide_true]
  (try walk_at "")
  (try simp only[z0o])
  by_cases h2:p.e<=S.length
  ·simp only[h2,decide_true]
   (try walk_at "")
   (try simp only[z0o])
   by_cases h3:0<=p.k
   ·simp only[h3,decide_true]
    (try walk_at "")
    (try simp only[z0o])
    by_cases h4:p.k<9
    ·simp only[h4,decide_true]
     (try walk_at "")
     by_cases h5:p.c<0
     ·refine⟨n,Nat.le_refl _, ?_⟩
      simp only[okP,h1,h2,h3,h4,h5,decide_true,Bool.not_true,Bool.false_and,Bool.and_false,Bool.true_and,if_false,Bool.false_eq_true]
      (try walk_at "")
     ·simp only[h5,decide_false]
      (try walk_at "")
      (try simp only[z0o])
      by_cases h6:(24:Int)<p.ss.length
      ·refine⟨n,Nat.le_refl _, ?_⟩
       simp only[okP,h1,h2,h3,h4,h5,h6,decide_true,decide_false,Bool.not_false,Bool.not_true,Bool.false_and,Bool.and_false,Bool.true_and,if_false,Bool.false_eq_true]
       (try walk_at "")
      ·simp only[h6,decide_false]
       (try walk_at "")
       obtain⟨n1,g1,e1⟩:=zhq (i:=4) (s:=p.ss) (M:=1040) hps (σ:=[some (.tup (iL S)),some B,some (.int a),some (.int p.e),some (.tup (iL p.ss)),some (.int p.k),some (.int p.c)]) (tm:=tm) rfl n
       rw[e1]
       walk_at ""
       rw[zaY,zb0]
       refine⟨n1+1+1,by lia, ?_⟩
       simp only[okP,h1,h2,h3,h4,h5,h6,decide_true,decide_false,Bool.not_false,Bool.true_and]
       cases inB 1040 p.ss with
       |true=>walk_at "";rfl
       |false=>walk_at "";rfl
    ·refine⟨n,Nat.le_refl _, ?_⟩
     simp only[okP,h1,h2,h3,h4,decide_false,decide_true,Bool.false_and,Bool.and_false,Bool.true_and,if_false,Bool.false_eq_true]
     (try walk_at "")
   ·refine⟨n,Nat.le_refl _, ?_⟩
    simp only[okP,h1,h2,h3,decide_false,decide_true,Bool.false_and,Bool.and_false,Bool.true_and,if_false,Bool.false_eq_true]
    (try walk_at "")
  ·refine⟨n,Nat.le_refl _, ?_⟩
   simp only[okP,h1,h2,decide_false,decide_true,Bool.false_and,Bool.and_false,Bool.true_and,if_false,Bool.false_eq_true]
   (try walk_at "")
 ·refine⟨n,Nat.le_refl _, ?_⟩
  simp only[okP,h1,decide_false,decide_true,Bool.false_and,Bool.and_false,Bool.true_and,if_false,Bool.false_eq_true]
  (try walk_at "")
noncomputable def lawB(S:List Int)(C:List Pz):Bool:= !decide (24<(S.length:Int))&&inB 40 S&&lw S.length 0 C
theorem zjt(S:List Int)(C:List Pz)(hC: ∀p∈C,p.ss.length<=1000002)(L:Nat): ∀(f i:Nat) (a:Int) (o3 o4 o5 o6:Option D) (n:Nat),i+f=C.length->∃n',n<=n'/\((forGo kLst (.tp [(.nm 3),(.nm 4),(.nm 5),(.nm 6)]) lwM f i ⟨[some (.tup (iL S)),some (.lst L (psD C)),some (.int a),o3,o4,o5,o6],[some (.lst L (psD C)),some (.tup (iL S)),some (.lst L (psD C))],n⟩).sq (sRet (mBin (mVar 2) (mCB [(mVar 0)] lenD) eqD))).fin= .ok (.bool (lw S.length a (C.drop i))) [.tup (iL S), .lst L (psD C)] n':=by
 intro f
 induction f with
 |zero=>
  intro i a o3 o4 o5 o6 n hi
  refine⟨n,Nat.le_refl _, ?_⟩
  unfold forGo
  simp only[z4k,List.getElem?_eq_none (show(psD C).length<=i by rw[z3d];lia),z9e,z5b,List.drop_eq_nil_of_le (show C.length<=i by lia),lw]
  walk_at ""
  rw[z0o]
 |succ f ih=>
  intro i a o3 o4 o5 o6 n hi
  have hl:i<C.length:=by lia
  obtain⟨n1,g1,e1⟩:=zjs S (.lst L (psD C)) C[i] (hC _ (List.getElem_mem hl)) a [some (.lst L (psD C)),some (.tup (iL S)),some (.lst L (psD C))] n
  unfold forGo
  simp only[z4k,zjr hl,asg,asgL,List.set_cons_succ,List.set_cons_zero]
  rw[List.drop_eq_getElem_cons hl,show lw S.length a (C[i]::C.drop (i+1))=(okP S.length a C[i]&&lw S.length C[i].e (C.drop (i+1))) from rfl]
  cases hk:okP S.length a C[i] with
  |false=>
   rw[hk,if_neg (by decide)] at e1
   rw[e1]
   refine⟨n1,g1, ?_⟩
   simp only[z9e,z5b,Bool.false_and]
   walk_at ""
  |true=>
   rw[hk,if_pos rfl] at e1
   rw[e1]
   obtain⟨n2,g2,e2⟩:=ih (i+1) C[i].e (some (.int C[i].e)) (some (.tup (iL C[i].ss))) (some (.int C[i].k)) (some (.int C[i].c)) n1 (by lia)
   refine⟨n2,by lia, ?_⟩
   rw[Bool.true_and]
   exact e2
theorem zhr(S:List Int)(hS:S.length<=1000002)(C:List Pz)(hC: ∀p∈C,p.ss.length<=1000002)(L n:Nat): ∃n',n<=n'/\z1a [.tup (iL S), .lst L (psD C)] n= .ok (.bool (lawB S C)) [.tup (iL S), .lst L (psD C)] n':=by
 unfold z1a
 have e0:z2H=(seqS (sIf (mOr (mBoo (mBin (mCB [(mVar 0)] lenD) (mC (.int 24)) gtD)) (mBoo (mBin (z0D (z0l (mVar 0)) (.nm 0) (mNot (mBoo (z0C (mC (.int 0)) (mVar 0) (mC (.int 40)) leD ltD))) (mVar 0) 1 []) (mCB [] lstM) neD))) (sRet (mC (.bool false))) sNx)
  (seqS (sAsg (.nm 2) (mC (.int 0)))
  (seqS (sFor (z0l (mVar 1)) (.tp [(.nm 3),(.nm 4),(.nm 5),(.nm 6)]) lwM)
  (sRet (mBin (mVar 2) (mCB [(mVar 0)] lenD) eqD))))):=rfl
 rw[e0]
 walk_at ""
 unfold lawB
 simp only[z0o]
 by_cases h1:(24:Int)<S.length
 ·refine⟨n,Nat.le_refl _, ?_⟩
  simp only[h1,decide_true]
  walk_at ""
 ·simp only[h1,decide_false]
  walk_at ""
  obtain⟨n1,g1,e1⟩:=zhq (i:=0) (s:=S) (M:=40) hS (σ:=[some (.tup (iL S)),some (.lst L (psD C)),none,none,none,none,none]) (tm:=[some (.tup (iL S)),some (.lst L (psD C))]) rfl n
  rw[e1]
  walk_at ""
  rw[zaY,zb0]
  cases inB 40 S with
  |false=>
   refine⟨n1+1+1,by lia, ?_⟩
   walk_at ""
  |true=>
   obtain⟨n2,g2,e2⟩:=zjt S C hC L C.length 0 0 none none none none (n1+1+1) (by lia)
   refine⟨n2,by lia, ?_⟩
   rw[List.drop_zero] at e2
   walk_at ""
   rw[<-e2,<-z3d]
   rfl
noncomputable def Nm'(M:Int)(s:List Int):Prop:= ∀i∈s,0<=i/\i<M
theorem zb1{M:Int}{s:List Int}:inB M s=true↔Nm' M s:=by
 unfold inB Nm' out
 rw[List.all_eq_true]
 constructor
 ·intro h i hi
  have:=h i hi
  simpa using this
 ·intro h i hi
  have:=h i hi
  simp[this.1,this.2]
theorem z6y{M:Int}{s:List Int}(h1:1<=s.length):rowB 1 24 (M - 1) (.tup (iL s))=true↔s.length<=24/\Nm' M s:=by
 simp only[rowB,Bool.and_eq_true,decide_eq_true_eq,List.all_eq_true,z0o]
 constructor
 ·rintro ⟨⟨_,h2⟩,h3⟩
  refine⟨by lia,fun i hi=> ?_⟩
  have:=h3 (.int i) (List.mem_map.mpr ⟨i,hi,rfl⟩)
  simp only[inR,Bool.and_eq_true,decide_eq_true_eq] at this
  lia
 ·rintro ⟨h2,h3⟩
  refine⟨⟨by lia,by lia⟩,fun d hd=> ?_⟩
  obtain⟨i,hi,rfl⟩:=List.mem_map.mp hd
  have:=h3 i hi
  simp only[inR,Bool.and_eq_true,decide_eq_true_eq]
  lia
theorem zhs{N a:Int}{p:Pz}(h1:1<=p.ss.length)(hc:p.c<=99999):okP N a p=z1d a N p.d:=by
 rw[Bool.eq_iff_iff]
 have hr:=z6y (M:=1040) h1
 have hr':rowB 1 24 1039 (.tup (iL p.ss))=true↔p.ss.length<=24/\Nm' 1040 p.ss:=hr
 simp only[okP,z1d,Pz.d,inR,Bool.and_eq_true,decide_eq_true_eq,Bool.not_eq_true',decide_eq_false_iff_not,hr',zb1]
 constructor
 ·rintro ⟨⟨⟨a1,a2⟩,⟨a3,a4⟩,a5,a6⟩,a7⟩
  exact⟨⟨by lia,a2⟩,⟨by lia,a7⟩,⟨a3,by lia⟩,by lia,hc⟩
 ·rintro ⟨⟨a1,a2⟩,⟨a3,a4⟩,⟨a5,a6⟩,a7,a8⟩
  exact⟨⟨⟨by lia,a2⟩,⟨a5,by lia⟩,by lia,by lia⟩,a4⟩
theorem zcY{N:Int}: ∀{C:List Pz} {a:Int},(∀p∈C,1<=p.ss.length/\p.c<=99999)->lw N a C=wayB N a (psD C)
 |[],a,_=>rfl
 |p::C,a,h=>by
  have hp:=h p (by simp)
  show(okP N a p&&lw N p.e C)=(z1d a N p.d&&wayB N (endB p.d) (psD C))
  rw[zhs hp.1 hp.2,zcY (C:=C) fun q hq=>h q (by simp[hq])]
  rfl
theorem zeu{S:List Int}{C:List Pz}(b:Bool)(hS:1<=S.length)(h: ∀p∈C,1<=p.ss.length/\p.c<=99999):lawB S C=z1e (Cm.mk S C b).d:=by
 unfold lawB
 show _=(rowB 1 24 39 (.tup (iL S))&&wayB (lenB (.tup (iL S))) 0 (psD C))
 rw[zcY h,show lenB (.tup (iL S))=S.length by simp only[lenB,z0o]]
 congr 1
 have hr:rowB 1 24 39 (.tup (iL S))=true↔S.length<=24/\Nm' 40 S:=z6y (M:=40) hS
 rw[Bool.eq_iff_iff,hr]
 simp only[Bool.and_eq_true,Bool.not_eq_true',decide_eq_false_iff_not,zb1]
 constructor
 ·rintro ⟨a1,a2⟩
  exact⟨by lia,a2⟩
 ·rintro ⟨a1,a2⟩
  exact⟨by lia,a2⟩
theorem z8F{M:Int}{s:List Int}(h:rowB 1 24 (M - 1) (.tup (iL s))=true):(1<=s.length/\s.length<=24)/\Nm' M s:=by
 have h1:1<=s.length:=by
  simp only[rowB,Bool.and_eq_true,decide_eq_true_eq,z0o] at h
  lia
 have:=(z6y h1).mp h
 exact⟨⟨h1,this.1⟩,this.2⟩
theorem zcZ{N:Int}(hN:N<=24): ∀{C:List Pz} {a:Int},0<=a->wayB N a (psD C)=true->(∀p∈C,p.ok)/\(C.length:Int)<=N -a
 |[],a,_,h=>by
  have:a=N:=by simpa[psD,wayB] using h
  exact⟨(fun _ h=>nomatch h),by simp;lia⟩
 |p::C,a,h0,h=>by
  have h':(z1d a N p.d&&wayB N p.e (psD C))=true:=h
  rw[Bool.and_eq_true] at h'
  obtain⟨h1,h2⟩:=h'
  simp only[z1d,Pz.d,inR,Bool.and_eq_true,decide_eq_true_eq] at h1
  obtain⟨⟨a1,a2⟩,a3,⟨a5,a6⟩,a7,a8⟩:=h1
  have a3':=z8F (M:=1040) a3
  obtain⟨r1,r2⟩:=zcZ hN (C:=C) (show 0<=p.e by lia) h2
  refine⟨fun q hq=> ?_,by simp only[List.length_cons];lia⟩
  rcases List.mem_cons.mp hq with rfl|hq
  ·exact⟨⟨by lia,by lia⟩,⟨fun i hi=>by have:=a3'.2 i hi;lia,a3'.1.1,a3'.1.2⟩,⟨a5,by lia⟩,⟨a7,by lia⟩⟩
  ·exact r1 q hq
theorem zb2{c:Cm}(h:z1e c.d=true):Good c:=by
 have h':(rowB 1 24 39 (.tup (iL c.S))&&wayB (lenB (.tup (iL c.S))) 0 (psD c.C))=true:=h
 rw[Bool.and_eq_true,show lenB (.tup (iL c.S))=c.S.length by simp only[lenB,z0o]] at h'
 have hs:=z8F (M:=40) h'.1
 obtain⟨r1,r2⟩:=zcZ (by lia) (by decide) h'.2
 refine⟨⟨⟨fun i hi=>by have:=hs.2 i hi;lia,hs.1.1,hs.1.2⟩,⟨?_,by lia⟩,r1⟩,h⟩
 cases hc:c.C with
 |nil=>
  have h3:=h'.2
  rw[hc] at h3
  have:(0:Int)=c.S.length:=by simpa[psD,wayB] using h3
  lia
 |cons _ _=>simp
theorem zd0{z:List Nat}{c:Nat}: ∀{xs:List (List Nat)} {y:List Nat},y∈xs->c∈y->c∈jn z xs
 |[x],y,hy,hc=>by
  rw[List.mem_singleton.mp hy] at hc
  exact hc
 |x::x'::xs,y,hy,hc=>by
  simp only[jn,List.mem_append]
  rcases List.mem_cons.mp hy with rfl|hy
  ·exact .inl hc
  ·exact .inr (.inr (zd0 hy hc))
theorem z8G(x:Str)(c:Nat):sg x=jn [c] ((Txt.split x ⟨#[c]⟩).map sg):=by
 have h:=z1j ⟨#[c]⟩ (Txt.split x ⟨#[c]⟩)
 rw[z7c] at h
 rw[<-h]
 show _=sg (Builtin.Str.glued _ _)
 rw[StrLaws.glued_eq_join,StrLaws.join_split]
theorem z8H{x:Str}{c:Nat}(h:Lo (sg x)): ∀p∈Txt.split x ⟨#[c]⟩,Lo (sg p):=fun p hp d hd=>h d (by
 rw[z8G x c]
 exact zd0 (List.mem_map.mpr ⟨p,hp,rfl⟩) hd)
noncomputable def rd(w:Str):Option Cm:= @dite _ (∃c,Good c/\bo c=w) (Classical.propDecidable _) (fun h=>some h.choose) (fun _=>none)
theorem z6z{w:Str}{c:Cm}(h:rd w=some c):Good c/\bo c=w:=by
 unfold rd at h
 split at h
 ·rename_i q
  cases h
  exact q.choose_spec
 ·cases h
theorem z2K{w:Str}(h: ∀c,Good c->bo c≠w):rd w=none:=by
 unfold rd
 rw[dif_neg]
 rintro ⟨c,h1,h2⟩
 exact h c h1 h2
noncomputable def ofC:D->Cm
 | .tup [.tup s, .tup ps, .bool b]=>⟨s.map toI,ps.map toP,b⟩
 |_=>⟨[],[],false⟩
theorem zce(c:Cm):ofC c.d=c:=by
 obtain⟨S,C,b⟩:=c
 simp only[Cm.d,ofC,z8y,zaL]
theorem zev{C:List Pz}(h: ∀p∈C,p.ok):(C.map pT).map z2l=psD C:=by
 rw[List.map_map]
 exact List.map_congr_left fun p hp=>zeq (h p hp)
theorem z4C{c:Cm}(h:c.ok){a b z:Str}{r:List Str}(e:Txt.split (bo c) (Str.ofString " ")=a::b::(r++[z])):D.tup [z3e a, .tup (r.map z2l), .bool (b==Str.ofString "1")]=c.d/\a=dt c.S/\b=bT c.b/\r=c.C.map pT:=by
 rw[z8B h] at e
 unfold bP at e
 simp only[List.cons.injEq] at e
 obtain⟨rfl,rfl,e⟩:=e
 have:=(List.append_inj' e rfl).1
 subst this
 refine⟨?_,rfl,rfl,rfl⟩
 rw[zaQ h.1.1 (z3W h.1.2.1),zev h.2.2,zhg]
 rfl
theorem z6A{c:Cm}(h:c.ok):4<=(Txt.split (bo c) (Str.ofString " ")).length:=by
 rw[z8B h]
 have:=h.2.1.1
 simp only[bP,List.length_cons,List.length_append,List.length_map,List.length_nil]
 lia
theorem z4l{l:List Str}(h:4<=l.length): ∃a b r z,l=a::b::(r++[z]):=by
 match l,h with
 |a::b::l,h=>
  have hl:l≠[]:=fun q=>by rw[q] at h;simp at h
  exact⟨a,b,l.dropLast,l.getLast hl,by rw[List.dropLast_concat_getLast]⟩
theorem zht{c c':Cm}(h:c.ok)(h':c'.ok)(e:bo c=bo c'):c=c':=by
 obtain⟨a,b,r,z,q⟩:=z4l (z6A h)
 have e1:=(z4C h q).1
 rw[e] at q
 have e2:=(z4C h' q).1
 rw[<-zce c,<-zce c',<-e1,<-e2]
theorem zew{c:Cm}(h:Good c):rd (bo c)=some c:=by
 cases e:rd (bo c) with
 |none=>
  unfold rd at e
  rw[dif_pos ⟨c,h,rfl⟩] at e
  cases e
 |some q=>
  obtain⟨h1,h2⟩:=z6z e
  rw[zht h1.1 h.1 h2]
noncomputable def rdD(w:Str):D:=match rd w with
 |some c=>c.d
 |none=> .non
theorem zb3{ss:List D}(h:ss.all isInt=true): ∃s,ss=iL s:=zav fun d hd=>by
 have:=List.all_eq_true.mp h d hd
 cases d<;>first|exact⟨_,rfl⟩|(simp[isInt] at this;done)
theorem zju{a l:Int}{t:D}(h:z1d a l t=true): ∃q:Pz,t=q.d:=by
 have hk:=z3K h
 obtain⟨e,ss,k,c,rfl⟩:=z3L hk
 simp only[z4r,Bool.and_eq_true] at hk
 obtain⟨s,rfl⟩:=zb3 hk.2
 exact⟨⟨e,s,k,c⟩,rfl⟩
theorem zd1{l:Int}: ∀{ps:List D} {a:Int},wayB l a ps=true->∃C,ps=psD C
 |[],_,_=>⟨[],rfl⟩
 |p::ps,a,h=>by
  simp only[wayB,Bool.and_eq_true] at h
  obtain⟨q,rfl⟩:=zju h.1
  obtain⟨C,rfl⟩:=zd1 h.2
  exact⟨q::C,rfl⟩
theorem zjv{t:D}(h:z1e t=true): ∃c:Cm,t=c.d:=by
 unfold z1e at h
 split at h
 ·rename_i s ps b
  rw[Bool.and_eq_true] at h
  obtain⟨ss,rfl,q⟩:=z6x h.1
  obtain⟨S,rfl⟩:=zb3 q
  obtain⟨C,rfl⟩:=zd1 h.2
  exact⟨⟨S,C,b⟩,rfl⟩
 ·cases h
theorem zcf(w:Str):Rw (z1S w)=true:=by
 rcases z6t w with h|⟨i,h⟩<;>rw[h]<;>rfl
theorem z8I{ds:List D}(h1:ds.length<=1000002)(h2: ∀d∈ds,Rw d=true):Rw (.tup ds)=true:=by
 simp only[Rw,Bool.and_eq_true,decide_eq_true_eq,z6v];exact⟨h1,h2⟩
theorem zd2{w:Str}(hw:w.length<=1000000):Rw (z3e w)=true:=by
 unfold z3e
 split
 ·rfl
 ·refine z8I (by rw[List.length_map];exact z1P hw) fun d hd=> ?_
  obtain⟨p,_,rfl⟩:=List.mem_map.mp hd
  exact zcf p
theorem zhu{w:Str}(hw:w.length<=1000000):Rw (z2l w)=true:=by
 unfold z2l
 have hs: ∀p∈Txt.split w (Str.ofString ":"),p.length<=1000000:=fun p hp=>Nat.le_trans (p_sh hp) hw
 split
 ·rename_i a b c d e
  have hb:=hs b (by rw[e];simp)
  refine z8I (by simp) fun x hx=> ?_
  simp only[List.mem_cons,List.not_mem_nil,or_false] at hx
  rcases hx with rfl|rfl|rfl|rfl
  ·exact zcf a
  ·exact zd2 hb
  ·exact zcf c
  ·exact zcf d
 ·rfl
theorem zb4{x y:Str}:(x++Str.ofString ";" ==y++Str.ofString ";")=(x==y):=by
 rw[Bool.eq_iff_iff,beq_iff_eq,beq_iff_eq]
 constructor
 ·intro h
  have:=congrArg sg h
  rw[z1s,z1s] at this
  exact z2k (List.append_cancel_right this)
 ·intro h
  rw[h]
theorem zex(r:List Str):(r.map D.str).map rPd=r.map z2l:=by rw[List.map_map];rfl
theorem zey(w:Str)(hw:w.length<=1000000)(n:Nat): ∃n',n<=n'/\z0Z [.str w] n= .ok (rdD w) [.str w] n':=by
 have hp: ∀p∈Txt.split w (Str.ofString " "),p.length<=1000000:=fun p h=>Nat.le_trans (p_sh h) hw
 have hq:=z1P (y:=Str.ofString " ") hw
 have hbo: ∀c,Good c->bo c=w->4<=(Txt.split w (Str.ofString " ")).length:=fun c hg e=>by rw[<-e];exact z6A hg.1
 have hpt: ∀c,Good c->bo c=w->∀a b r z,Txt.split w (Str.ofString " ")=a::b::(r++[z])->D.tup [z3e a, .tup (r.map z2l), .bool (b==Str.ofString "1")]=c.d:=fun c hg e a b r z q=>(z4C hg.1 (by rw[e];exact q)).1
 unfold z0Z z2E
 walk_at ""
 rw[z3I zcJ (by rw[zl];lia)]
 generalize Txt.split w (Str.ofString " ")=ws at hp hq hbo hpt
 walk_at ""
 rw[List.length_map]
 by_cases hl:4<=ws.length
 ·obtain⟨a,b,r,z,rfl⟩:=z4l hl
  rw[decide_eq_false (show ¬(((a::b::(r++[z])).length:Nat):Int)<4 by lia)]
  have hpt':=fun c hg e=>hpt c hg e a b r z rfl
  have hr:r.length<=1000002:=by simp only[List.length_cons,List.length_append] at hq;lia
  obtain⟨n1,g1,e1⟩:=z1Z (mi:=z0l (mSl (mVar 1) (some (mC (.int 2))) (some (bd (mC (.int 1)) negD)))) (K:=kLst) (tg:= .nm 0) (me:=mCall z0M [(mVar 0)]) (g:=rPd) (sl:=fun d=>[some d]) (k:=1) (items:=r.map D.str) (its:=[some (.lst (n+1) (r.map D.str))]) (ix:=[]) (s:=⟨[some (.str w),some (.lst n ((a::b::(r++[z])).map D.str)),none,none],[some (.str w)],n+1⟩) (σ:=[some (.str w),some (.lst n ((a::b::(r++[z])).map D.str)),none,none]) (tm:=[some (.str w)]) (n:=n+1+1) (z7b (by
   walk_at ""
   rw[List.map_append,List.map_singleton,zaT]
   rfl)) rfl (by rw[zl];simp only[List.length_map];lia) (fun i rest=>rfl) rfl (by
   intro d hd
   refine⟨rfl,fun os ho=> ?_⟩
   match os,ho with
   |[a0],_=>rfl) (by
   intro d hd tm n
   obtain⟨x,hx,rfl⟩:=List.mem_map.mp hd
   obtain⟨n',h1,e⟩:=zgZ x (hp x (by simp[hx])) n
   refine⟨n',h1, ?_⟩
   simp only[List.map_nil,List.append_nil]
   walk_at ""
   rw[e]
   walk_at ""
   rfl)
  rw[zex] at e1
  obtain⟨n2,g2,e2⟩:=zgY a (hp a (by simp)) (n1+1)
  obtain⟨n3,g3,e3⟩:=zhf (.tup [z3e a, .tup (r.map z2l), .bool (b==Str.ofString "1")]) n2 (z8I (by simp) (by
   intro x hx
   simp only[List.mem_cons,List.not_mem_nil,or_false] at hx
   rcases hx with rfl|rfl|rfl
   ·exact zd2 (hp a (by simp))
   ·refine z8I (by rw[List.length_map];exact hr) fun d hd=> ?_
    obtain⟨p,h,rfl⟩:=List.mem_map.mp hd
    exact zhu (hp p (by simp[h]))
   ·rfl))
  walk_at ""
  simp only[List.map_cons] at e1
  rw[e1]
  walk_at ""
  rw[e2]
  walk_at ""
  rw[zaz]
  walk_at ""
  rw[e3]
  generalize hT:D.tup [z3e a, .tup (r.map z2l), .bool (b==Str.ofString "1")]=T at*
  cases hB:z1e T with
  |false=>
   refine⟨n3,by lia, ?_⟩
   have:rd w=none:=z2K fun c hg e=>by
    rw[hpt' c hg e] at hB
    rw[hg.2] at hB
    cases hB
   walk_at ""
   unfold rdD
   rw[this]
  |true=>
   obtain⟨c,rfl⟩:=zjv hB
   have hg:=zb2 hB
   obtain⟨n4,g4,e4⟩:=zjf c hg.1 n3
   refine⟨n4,by lia, ?_⟩
   walk_at ""
   rw[e4]
   walk_at ""
   rw[z2m (by rw[zl,z5z];lia),<-z5P]
   walk_at ""
   rw[z7g,zb4]
   unfold rdD
   by_cases he:bo c=w
   ·rw[<-he,zew hg,beq_self_eq_true]
    walk_at ""
   ·rw[show(bo c==w)=false from beq_eq_false_iff_ne.mpr he]
    have:rd w=none:=z2K fun c' hg' e=>he (by
     have:=hpt' c' hg' e
     rw[<-zce c,this,zce,e])
    walk_at ""
    rw[this]
 ·rw[decide_eq_true (show((ws.length:Nat):Int)<4 by lia)]
  refine⟨n+1,by lia, ?_⟩
  have:rd w=none:=z2K fun c hg e=>hl (hbo c hg e)
  walk_at ""
  unfold rdD
  rw[this]
noncomputable def upR:List Str->List Cm
 |[]=>[]
 |w::r=>match rd w with
  |some c=>c::upR r
  |none=>[]
noncomputable def upF:Nat->List Str->List Cm
 |0,_=>[]
 |k+1,p::q::r=>match rd p with
  |some c=>c::upF k (q::r)
  |none=>[]
 |_+1,_=>[]
theorem zhv: ∀(k:Nat) (ps:List Str),upR (ps.dropLast.take k)=upF k ps
 |0,ps=>by rw[List.take_zero];rfl
 |k+1,[]=>rfl
 |k+1,[p]=>rfl
 |k+1,p::q::r=>by
  rw[List.dropLast_cons₂,List.take_succ_cons]
  simp only[upR,upF,zhv k (q::r)]
theorem zd3: ∀(k:Nat) (ps:List Str),(∀c∈upF k ps,Good c)/\(upF k ps).length<=k
 |0,ps=>⟨fun _ h=>(nomatch h),Nat.le_refl _⟩
 |k+1,[]=>⟨fun _ h=>(nomatch h),Nat.zero_le _⟩
 |k+1,[p]=>⟨fun _ h=>(nomatch h),Nat.zero_le _⟩
 |k+1,p::q::r=>by
  obtain⟨h1,h2⟩:=zd3 k (q::r)
  simp only[upF]
  cases e:rd p with
  |none=>exact⟨fun _ h=>(nomatch h),Nat.zero_le _⟩
  |some c=>exact⟨List.forall_mem_cons.mpr ⟨(z6z e).1,h1⟩,by simp only[List.length_cons];lia⟩
theorem cut_take{α:Type}{l:List α}{k:Nat}:cutA l none (some (k:Int))=l.take k:=by
 unfold cutA
 rw[HT.sIx_none,HT.sIx_nat,List.drop_zero,Nat.sub_zero]
 rcases Nat.le_total k l.length with h|h
 ·rw[Nat.min_eq_left h]
 ·rw[Nat.min_eq_right h,List.take_of_length_le (Nat.le_refl _),List.take_of_length_le h]
theorem zcg{l:List D}(h:l≠[]):cutA l none (some (-1))=l.dropLast:=by
 conv=>lhs;rw[<-List.dropLast_concat_getLast h]
 exact zca
theorem zb5(a b:List Cm):csD (a++b)=csD a++csD b:=by simp[csD]
theorem zhw{s:Stt}:isN .non .non s= .ok (.bool true) s:=(rfl)
noncomputable def cuM:MS:=(seqS (sAsg (.nm 3) (mCall z0Z [(mVar 2)])) (seqS (sIf (mBoo (mBin (mVar 3) (mC .non) isN)) (sRet (mVar 1)) sNx) (z2n (z26 (mVar 1) [(mVar 3)] appD))))
theorem zjw(x:Str)(rows:List Str)(hp: ∀p∈rows,p.length<=1000000)(hz:rows.length<=60)(L l:Nat)(hL:L≠l): ∀(f i:Nat) (acc:List Cm) (o2 o3:Option D) (n:Nat),i+f=rows.length->acc.length=i->∃n',n<=n'/\((forGo kLst (.nm 2) cuM f i ⟨[some (.str x),some (.lst l (csD acc)),o2,o3],[some (.lst L (rows.map D.str)),some (.str x)],n⟩).sq (sRet (mVar 1))).fin= .ok (.lst l (csD (acc++upR (rows.drop i)))) [.str x] n':=by
 intro f
 induction f with
 |zero=>
  intro i acc o2 o3 n hi ha
  refine⟨n,Nat.le_refl _, ?_⟩
  unfold forGo
  simp only[z4k,List.getElem?_eq_none (show(rows.map D.str).length<=i by rw[List.length_map];lia),z9e,z5b,List.drop_eq_nil_of_le (show rows.length<=i by lia),upR,List.append_nil]
  walk_at ""
 |succ f ih=>
  intro i acc o2 o3 n hi ha
  have hl:i<rows.length:=by lia
  obtain⟨n1,g1,e1⟩:=zey rows[i] (hp _ (List.getElem_mem hl)) n
  rw[List.drop_eq_getElem_cons hl]
  unfold forGo
  simp only[z4k,List.getElem?_map,List.getElem?_eq_getElem hl,Option.map_some,asg,List.set_cons_succ,List.set_cons_zero,upR]
  unfold cuM
  walk_at ""
  rw[e1]
  unfold rdD
  cases hr:rd rows[i] with
  |none=>
   refine⟨n1,g1, ?_⟩
   dsimp only
   walk_at ""
   rw[zhw]
   walk_at ""
   simp only[z9e,z5b]
   walk_at ""
  |some c=>
   have hg:=(z6z hr).1
   obtain⟨n2,g2,e2⟩:=ih (i+1) (acc++[c]) (some (.str rows[i])) (some c.d) n1 (by lia) (by simp only[List.length_append,List.length_cons,List.length_nil];lia)
   refine⟨n2,by lia, ?_⟩
   dsimp only
   walk_at ""
   rw[zhj]
   walk_at ""
   rw[z7M ⟨by rw[zl,z5c];lia,by rw[z7V _ hg.1];exact List.not_mem_nil⟩]
   walk_at ""
   simp only[z7R,z9g hL]
   rw[zb5,List.append_assoc] at e2
   exact e2
theorem z8J(x:Str)(hx:x.length<=1000000)(n:Nat): ∃n',n<n'/\z07 [.str x] n= .ok (.lst n (csD (upF 60 (Txt.split x (Str.ofString ";"))))) [.str x] n':=by
 have hp: ∀p∈Txt.split x (Str.ofString ";"),p.length<=1000000:=fun p h=>Nat.le_trans (p_sh h) hx
 have hne:Txt.split x (Str.ofString ";")≠[]:=z3U
 have e0:z2F=(seqS (sIf (mNot (z0J (mIsi "str" (mVar 0)))) sNo sNx) (seqS (sAsg (.nm 1) (mCB [] lstM)) (seqS (sFor (z0l (mSl (mSl (z0w (mVar 0) [(mC (.str (";" :Str)))] z1p) none (some (bd (mC (.int 1)) negD))) none (some (mC (.int 60))))) (.nm 2) cuM) (sRet (mVar 1))))):=rfl
 obtain⟨n1,g1,e1⟩:=zjw x ((Txt.split x (Str.ofString ";")).dropLast.take 60) (fun p h=>hp p ((List.dropLast_sublist _).subset (List.mem_of_mem_take h))) (by simp only[List.length_take];lia) (n+1+1+1) n (by lia) ((Txt.split x (Str.ofString ";")).dropLast.take 60).length 0 [] none none (n+1+1+1+1) (by lia) rfl
 rw[List.drop_zero,List.nil_append,zhv] at e1
 refine⟨n1,by lia, ?_⟩
 unfold z07
 rw[e0]
 walk_at ""
 rw[z7b (l:=n+1+1+1) (ds:=((Txt.split x (Str.ofString ";")).dropLast.take 60).map D.str) (σ:=[some (.str x),some (.lst n []),none,none]) (tm:=[some (.str x)]) (n:=n+1+1+1+1) (by
  walk_at ""
  rw[z3I zcK (by rw[zl];lia)]
  walk_at ""
  rw[zcg (by simpa using hne),<-List.map_dropLast]
  try (walk_at "")
  rw[show(60:Int)=((60:Nat):Int) from rfl,cut_take,<-List.map_take])]
 walk_at ""
 rw[show ∀tm,kLst.len (some (.lst (n+1+1+1) (((Txt.split x (Str.ofString ";")).dropLast.take 60).map D.str))::tm)=((Txt.split x (Str.ofString ";")).dropLast.take 60).length from fun tm=>by simp[kLst,z4n]]
 exact e1
noncomputable def four(w:Str):Bool:=(Txt.split w (Str.ofString ":")).length==4
noncomputable def pzL(w:Str):Pz:=match Txt.split w (Str.ofString ":") with
 |[a,b,c,d]=>⟨lawI a,lawD b,lawI c,lawI d⟩
 |_=>⟨0,[],0,0⟩
theorem z4D{i:Int}(h:0<=i/\i<100000):lawI (num i)=i:=by
 unfold lawI
 rw[z3V h.1 h.2]
theorem zb6{s:List Int}(h:Nm s)(hn:s≠[]):lawD (dt s)=s:=by
 unfold lawD
 rw[z8z h hn,List.map_map]
 conv=>rhs;rw[<-List.map_id s]
 exact List.map_congr_left fun i hi=>z4D (h i hi)
theorem zd4{p:Pz}(h:p.ok):pzL (pT p)=p/\four (pT p)=true:=by
 unfold pzL four
 rw[z8A h]
 refine⟨?_,rfl⟩
 dsimp only
 rw[z4D h.1,zb6 h.2.1.1 (z3W h.2.1.2.1),z4D h.2.2.1,z4D h.2.2.2]
theorem zjx{w:Str}(hw:w.length<=1000000)(h:four w=true):(1<=(pzL w).ss.length/\(pzL w).c<=99999)/\(pzL w).ss.length<=1000002:=by
 have hs: ∀p∈Txt.split w (Str.ofString ":"),p.length<=1000000:=fun p hp=>Nat.le_trans (p_sh hp) hw
 unfold four at h
 unfold pzL
 generalize Txt.split w (Str.ofString ":")=ps at h hs
 rcases ps with _|⟨a,_|⟨b,_|⟨c,_|⟨d,_|⟨e,r⟩⟩⟩⟩⟩<;>simp at h
 have h1:=zho d
 have h2:=z1P (y:=Str.ofString ".") (hs b (by simp))
 have h3:Txt.split b (Str.ofString ".")≠[]:=z3U
 have h4:1<=(Txt.split b (Str.ofString ".")).length:=by
  cases e:Txt.split b (Str.ofString ".") with
  |nil=>exact absurd e h3
  |cons _ _=>simp
 dsimp only[lawD]
 rw[List.length_map]
 exact⟨⟨h4,by lia⟩,h2⟩
theorem zez(a b:List Pz):psD (a++b)=psD a++psD b:=by simp[psD]
noncomputable def ciM:MS:=(seqS (sAsg (.nm 4) (z0w (mVar 3) [(mC (.str (":" :Str)))] z1p))
 (seqS (sIf (mBoo (mBin (mCB [(mVar 4)] lenD) (mC (.int 4)) neD)) (sRet (mC .non)) sNx)
 (z2n (z26 (mVar 2) [(mCB [(mCall z0q [(mBin (mVar 4) (mC (.int 0)) ixD)]),(mCall z0R [(mBin (mVar 4) (mC (.int 1)) ixD)]),(mCall z0q [(mBin (mVar 4) (mC (.int 2)) ixD)]),(mCall z0q [(mBin (mVar 4) (mC (.int 3)) ixD)])] tupD)] appD))))
theorem zeA(w p:Str)(hp:p.length<=1000000)(ws rows:List Str)(acc:List Pz)(ha:acc.length<=1000002)(Lw L l n:Nat)(h1:Lw≠l)(h2:L≠l)(h3:l<n)(o4:Option D): ∃n',n<=n'/\ciM ⟨[some (.str w),some (.lst Lw (ws.map D.str)),some (.lst l (psD acc)),some (.str p),o4,none],[some (.lst L (rows.map D.str)),some (.str w)],n⟩=if four p=true then .nx ⟨[some (.str w),some (.lst Lw (ws.map D.str)),some (.lst l (psD (acc++[pzL p]))),some (.str p),some (.lst n ((Txt.split p (Str.ofString ":")).map D.str)),none],[some (.lst L (rows.map D.str)),some (.str w)],n'⟩ else .rt .non ⟨[some (.str w),some (.lst Lw (ws.map D.str)),some (.lst l (psD acc)),some (.str p),some (.lst n ((Txt.split p (Str.ofString ":")).map D.str)),none],[some (.lst L (rows.map D.str)),some (.str w)],n'⟩:=by
 have hs: ∀q∈Txt.split p (Str.ofString ":"),q.length<=1000000:=fun q hq=>Nat.le_trans (p_sh hq) hp
 unfold ciM
 walk_at ""
 rw[z3I zcI (by rw[zl];lia)]
 walk_at ""
 unfold four pzL
 generalize Txt.split p (Str.ofString ":")=ps at hs
 simp only[List.length_map]
 by_cases hl:ps.length=4
 ·rcases ps with _|⟨a,_|⟨b,_|⟨c,_|⟨d,_|⟨e,r⟩⟩⟩⟩⟩<;>simp at hl
  obtain⟨n2,g2,e2⟩:=zcX b (hs b (by simp)) (n+1)
  refine⟨n2,by lia, ?_⟩
  walk_at ""
  rw[show(((4:Nat):Int)==4)=true from rfl]
  walk_at ""
  rw[zcd a (hs a (by simp)),z8E]
  walk_at ""
  rw[e2]
  walk_at ""
  rw[zcd c (hs c (by simp)),z8E]
  walk_at ""
  rw[zcd d (hs d (by simp)),z8E]
  walk_at ""
  rw[z7M ⟨by rw[zl,z3d];lia,by simp only[labs,labsL,z7T,List.append_nil];exact List.not_mem_nil⟩]
  walk_at ""
  simp only[z9g h1,z9g h2,rL_i,z5w (show n≠l by lia),z2J,zao,z6o]
  rw[if_pos trivial,zez]
  rfl
 ·have e:(((ps.length:Nat):Int)==4)=false:=by simp;lia
  refine⟨n+1,by lia, ?_⟩
  simp only[e]
  walk_at ""
  rw[if_neg (by simpa using hl)]
theorem zjy(w:Str)(ws rows:List Str)(hp: ∀p∈rows,p.length<=1000000)(hr:rows.length<=1000002)(Lw L l:Nat)(h1:Lw≠l)(h2:L≠l): ∀(f i:Nat) (acc:List Pz) (o3 o4:Option D) (n:Nat),i+f=rows.length->acc.length=i->l<n->∃n' p3 p4 σ',n<=n'/\forGo kLst (.nm 3) ciM f i ⟨[some (.str w),some (.lst Lw (ws.map D.str)),some (.lst l (psD acc)),o3,o4,none],[some (.lst L (rows.map D.str)),some (.str w)],n⟩=if(rows.drop i).all four=true then .nx ⟨[some (.str w),some (.lst Lw (ws.map D.str)),some (.lst l (psD (acc++(rows.drop i).map pzL))),p3,p4,none],[some (.str w)],n'⟩ else .rt .non ⟨σ',[some (.str w)],n'⟩:=by
 intro f
 induction f with
 |zero=>
  intro i acc o3 o4 n hi ha hn
  refine⟨n,o3,o4,[],Nat.le_refl _, ?_⟩
  rw[List.drop_eq_nil_of_le (show rows.length<=i by lia),z7N (by rw[z4k,List.getElem?_eq_none (show(rows.map D.str).length<=i by rw[List.length_map];lia)]),z9e,z5b,List.map_nil,List.append_nil]
  rfl
 |succ f ih=>
  intro i acc o3 o4 n hi ha hn
  have hl:i<rows.length:=by lia
  obtain⟨n1,g1,e1⟩:=zeA w rows[i] (hp _ (List.getElem_mem hl)) ws rows acc (by lia) Lw L l n h1 h2 hn o4
  have hat:kLst.at' i [some (.lst L (rows.map D.str)),some (.str w)]=some (some (.str rows[i])):=by rw[z4k,List.getElem?_map,List.getElem?_eq_getElem hl];rfl
  rw[List.drop_eq_getElem_cons hl,List.all_cons,List.map_cons]
  cases h4:four rows[i] with
  |true=>
   rw[h4,if_pos rfl] at e1
   obtain⟨n2,p3,p4,σ',g2,e2⟩:=ih (i+1) (acc++[pzL rows[i]]) (some (.str rows[i])) _ n1 (by lia) (by simp only[List.length_append,List.length_cons,List.length_nil];lia) (by lia)
   refine⟨n2,p3,p4,σ',by lia, ?_⟩
   rw[z8p hat rfl e1,e2,Bool.true_and,List.append_assoc]
   rfl
  |false=>
   rw[h4,if_neg (by decide)] at e1
   refine⟨n1,none,none,[some (.str w),some (.lst Lw (ws.map D.str)),some (.lst l (psD acc)),some (.str rows[i]),some (.lst n ((Txt.split rows[i] (Str.ofString ":")).map D.str)),none],g1, ?_⟩
   rw[zec hat rfl e1,z9e,z5b,Bool.false_and,if_neg (by decide)]
theorem z7X{x:Str}(h:Lo (sg x)):(er (.str x)).canLay0=true:=by
 simp only[er,PyData.canLay0,PyData.strOk,Array.all_eq_true',decide_eq_true_eq]
 intro c hc
 have:=h c (by unfold sg;simpa using hc)
 lia
noncomputable def oneB(b:Str):Bool:=b==Str.ofString "0" ||b==Str.ofString "1"
theorem zhx{b:Str}(h:Lo (sg b)){l:Nat}{s:Stt}:ninD (.str b) (.lst l [.str (Str.ofString "0"), .str (Str.ofString "1")]) s= .ok (.bool (!oneB b)) s:=by
 have hk:=z7X h
 have h0:=z7X (x:=Str.ofString "0") (by rw[show sg (Str.ofString "0")=[48] by decide+kernel];simp[Lo])
 have h1:=z7X (x:=Str.ofString "1") (by rw[show sg (Str.ofString "1")=[49] by decide+kernel];simp[Lo])
 rw[ziL (ds:=[.str (Str.ofString "0"), .str (Str.ofString "1")]) rfl (by
  simp only[inC,hk,Mi.plain,Mi.plainL,erL,PyData.canLayAll0,h0,h1,Bool.and_self,Bool.true_and,decide_eq_true_eq]
  exact decide_eq_true (Nat.le_trans (Nat.min_le_right _ _) (show(er (.str b)).depth<=60 by simp[er,PyData.depth])))]
 congr 2
 unfold oneB
 simp only[erL,er,List.any_cons,List.any_nil,Bool.or_false,PyData.eqv]
 rw[BEq.comm (a:=Str.ofString "0"),BEq.comm (a:=Str.ofString "1")]
theorem zhy(b:Bool):oneB (bT b)=true:=by cases b<;>decide+kernel
theorem zeB(w:Str)(hw:w.length<=1000000)(hlo:Lo (sg w))(n:Nat): ∃n',n<=n'/\z1b [.str w] n= .ok (rdD w) [.str w] n':=by
 have hp: ∀p∈Txt.split w (Str.ofString " "),p.length<=1000000:=fun p h=>Nat.le_trans (p_sh h) hw
 have hq:=z1P (y:=Str.ofString " ") hw
 have hL: ∀p∈Txt.split w (Str.ofString " "),Lo (sg p):=by
  rw[(sep1 32 _ z5x).1]
  exact z8H hlo
 have hbo: ∀c,Good c->bo c=w->4<=(Txt.split w (Str.ofString " ")).length:=fun c hg e=>by rw[<-e];exact z6A hg.1
 have hpt: ∀c,Good c->bo c=w->∀a b r z,Txt.split w (Str.ofString " ")=a::b::(r++[z])->a=dt c.S/\b=bT c.b/\r=c.C.map pT:=fun c hg e a b r z q=>(z4C hg.1 (by rw[e];exact q)).2
 have e0:z2I=(seqS (sAsg (.nm 1) (z0w (mVar 0) [(mC (.str (" " :Str)))] z1p))
  (seqS (sIf (mOr (mBoo (mBin (mCB [(mVar 1)] lenD) (mC (.int 4)) ltD)) (mBoo (mBin (mBin (mVar 1) (mC (.int 1)) ixD) (mCB [(mC (.str ("0" :Str))),(mC (.str ("1" :Str)))] lstM) ninD))) (sRet (mC .non)) sNx)
  (seqS (sAsg (.nm 2) (mCB [] lstM))
  (seqS (sFor (z0l (mSl (mVar 1) (some (mC (.int 2))) (some (bd (mC (.int 1)) negD)))) (.nm 3) ciM)
  (seqS (sAsg (.nm 5) (mCB [(mCall z0R [(mBin (mVar 1) (mC (.int 0)) ixD)]),(mCB [(mVar 2)] tupF),(mBin (mBin (mVar 1) (mC (.int 1)) ixD) (mC (.str ("1" :Str))) eqS)] tupD))
  (seqS (sIf (mOr (mNot (z0J (mCall z1a [(mBin (mVar 5) (mC (.int 0)) ixD),(mVar 2)]))) (mBoo (mBin (mCall z2g [(mVar 5)]) (mBin (mVar 0) (mC (.str (";" :Str))) addD) neS))) (sRet (mC .non)) sNx)
  (sRet (mVar 5)))))))):=rfl
 unfold z1b
 rw[e0]
 walk_at ""
 rw[z3I zcJ (by rw[zl];lia)]
 generalize Txt.split w (Str.ofString " ")=ws at hp hq hbo hpt hL
 walk_at ""
 rw[List.length_map]
 by_cases hl:4<=ws.length
 ·obtain⟨a,b,r,z,rfl⟩:=z4l hl
  rw[decide_eq_false (show ¬(((a::b::(r++[z])).length:Nat):Int)<4 by lia)]
  have hpt':=fun c hg e=>hpt c hg e a b r z rfl
  have hr:r.length<=1000002:=by simp only[List.length_cons,List.length_append] at hq;lia
  walk_at ""
  rw[zhx (hL b (by simp))]
  cases h01:oneB b with
  |false=>
   refine⟨n+1+1,by lia, ?_⟩
   have:rd w=none:=z2K fun c hg e=>by
    rw[(hpt' c hg e).2.1,zhy] at h01
    cases h01
   walk_at ""
   unfold rdD
   rw[this]
  |true=>
   obtain⟨n1,p3,p4,σ',g1,e1⟩:=zjy w (a::b::(r++[z])) r (fun p h=>hp p (by simp[h])) hr n (n+1+1+1) (n+1+1) (by lia) (by lia) r.length 0 [] none none (n+1+1+1+1) (by lia) rfl (by lia)
   rw[List.drop_zero,List.nil_append] at e1
   walk_at ""
   rw[z7b (l:=n+1+1+1) (ds:=r.map D.str) (σ:=[some (.str w),some (.lst n ((a::b::(r++[z])).map D.str)),some (.lst (n+1+1) (psD [])),none,none,none]) (tm:=[some (.str w)]) (n:=n+1+1+1+1) (by
    walk_at ""
    rw[List.map_append,List.map_singleton,zaT]
    rfl)]
   walk_at ""
   rw[show ∀tm,kLst.len (some (.lst (n+1+1+1) (r.map D.str))::tm)=r.length from fun tm=>by simp[kLst,z4n]]
   simp only[List.map_cons] at e1
   rw[e1]
   cases h4:r.all four with
   |false=>
    refine⟨n1,by lia, ?_⟩
    have:rd w=none:=z2K fun c hg e=>by
     rw[(hpt' c hg e).2.2] at h4
     have h5:(c.C.map pT).all four=true:=by
      rw[List.all_eq_true]
      intro x hx
      obtain⟨p,hp,rfl⟩:=List.mem_map.mp hx
      exact(zd4 (hg.1.2.2 p hp)).2
     rw[h5] at h4
     cases h4
    rw[if_neg (by decide)]
    walk_at ""
    unfold rdD
    rw[this]
   |true=>
    rw[if_pos rfl]
    have hS:=z1P (y:=Str.ofString ".") (hp a (by simp))
    have hS1:1<=(lawD a).length:=by
     have h3:Txt.split a (Str.ofString ".")≠[]:=z3U
     unfold lawD
     rw[List.length_map]
     cases e:Txt.split a (Str.ofString ".") with
     |nil=>exact absurd e h3
     |cons _ _=>simp
    have hS2:(lawD a).length<=1000002:=by unfold lawD;rw[List.length_map];exact hS
    have hC: ∀p∈r.map pzL,(1<=p.ss.length/\p.c<=99999)/\p.ss.length<=1000002:=fun p h=>by
     obtain⟨x,hx,rfl⟩:=List.mem_map.mp h
     exact zjx (hp x (by simp[hx])) (List.all_eq_true.mp h4 x hx)
    obtain⟨n2,g2,e2⟩:=zcX a (hp a (by simp)) n1
    obtain⟨n3,g3,e3⟩:=zhr (lawD a) hS2 (r.map pzL) (fun p h=>(hC p h).2) (n+1+1) n2
    have hrd: ∀c,Good c->bo c=w->Cm.mk (lawD a) (r.map pzL) (b==Str.ofString "1")=c:=fun c hg e=>by
     obtain⟨q1,q2,q3⟩:=hpt' c hg e
     rw[q1,q2,q3,zb6 hg.1.1.1 (z3W hg.1.1.2.1),zhg,List.map_map]
     have:c.C.map (pzL∘pT)=c.C:=by
      conv=>rhs;rw[<-List.map_id c.C]
      exact List.map_congr_left fun p hp=>(zd4 (hg.1.2.2 p hp)).1
     rw[this]
    rw[zeu (b==Str.ofString "1") hS1 fun p h=>(hC p h).1] at e3
    have ed:(Cm.mk (lawD a) (r.map pzL) (b==Str.ofString "1")).d= .tup [.tup (iL (lawD a)), .tup (psD (r.map pzL)), .bool (b==Str.ofString "1")]:=rfl
    walk_at ""
    rw[e2]
    walk_at ""
    rw[zaz]
    walk_at ""
    rw[e3]
    rw[<-ed]
    generalize Cm.mk (lawD a) (r.map pzL) (b==Str.ofString "1")=q at*
    cases hB:z1e q.d with
    |false=>
     refine⟨n3,by lia, ?_⟩
     have:rd w=none:=z2K fun c hg e=>by
      rw[hrd c hg e,hg.2] at hB
      cases hB
     walk_at ""
     unfold rdD
     rw[this]
    |true=>
     have hg:=zb2 hB
     obtain⟨n4,g4,e4⟩:=zel q hg.1 n3
     refine⟨n4,by lia, ?_⟩
     walk_at ""
     rw[e4]
     walk_at ""
     rw[z2m (by rw[zl,z5z];lia),<-z5P]
     walk_at ""
     rw[z7g,zb4]
     unfold rdD
     by_cases he:bo q=w
     ·rw[<-he,zew hg,beq_self_eq_true]
      walk_at ""
     ·rw[show(bo q==w)=false from beq_eq_false_iff_ne.mpr he]
      have:rd w=none:=z2K fun c' hg' e=>he (by rw[hrd c' hg' e,e])
      walk_at ""
      rw[this]
 ·rw[decide_eq_true (show((ws.length:Nat):Int)<4 by lia)]
  refine⟨n+1,by lia, ?_⟩
  have:rd w=none:=z2K fun c hg e=>hl (hbo c hg e)
  walk_at ""
  unfold rdD
  rw[this]
theorem zhz(x:Str)(i:Nat):sg (Builtin.Str.strSub x 0 i)=(sg x).take i:=by
 show(x.cps.extract 0 i).toList=_
 rw[Array.toList_extract]
 simp[sg,List.extract]
theorem z6B(x:Str)(i:Nat):sg (Builtin.Str.strSub x i x.length)=(sg x).drop i:=by
 show(x.cps.extract i x.length).toList=_
 rw[Array.toList_extract]
 show((sg x).drop i).take (x.length -i)=_
 rw[List.take_of_length_le (by rw[List.length_drop,z1h];exact Nat.le_refl _)]
theorem zb7{x:Str}{c:Nat}{p:Str}{ps:List Str}(h:Txt.split x ⟨#[c]⟩=p::ps):(ps=[]->prt x ⟨#[c]⟩=[p,Str.empty,Str.empty])/\(ps≠[]->∃b,prt x ⟨#[c]⟩=[p,⟨#[c]⟩,b]/\Txt.split b ⟨#[c]⟩=ps/\b.length<=x.length/\∀d∈sg b,d∈sg x):=by
 have hs:=z8G x c
 have hf: ∀q∈p::ps,c∉sg q:=by rw[<-h];exact StrLaws.split_free x c
 rw[h] at hs
 have hat: ∀i,StrLaws.At x ⟨#[c]⟩ x.length i↔(sg x)[i]? =some c:=fun i=>StrLaws.subAt_one x c i
 unfold prt
 rcases StrLaws.occ_head x ⟨#[c]⟩ 1 (Nat.le_refl _) with⟨h0,hn⟩|⟨i,r,h0,ha,hno⟩
 ·rw[h0]
  have hc:c∉sg x:=fun q=>by
   obtain⟨i,hi⟩:=List.mem_iff_getElem?.mp q
   exact hn i ((hat i).mpr hi)
  cases ps with
  |nil=>
   have:x=p:=z2k (by rw[hs];rfl)
   exact⟨fun _=>by rw[this],fun q=>absurd rfl q⟩
  |cons q r=>
   refine absurd ?_ hc
   rw[hs]
   simp[jn]
 ·rw[h0]
  have hi:=(hat i).mp ha
  have hl:i<(sg x).length:=(List.getElem?_eq_some_iff.mp hi).1
  have hm:c∈sg x:=List.mem_iff_getElem?.mpr ⟨i,hi⟩
  cases ps with
  |nil=>exact absurd (by rw[hs] at hm;exact hm) (hf p (by simp))
  |cons q r=>
   refine⟨fun e=>(nomatch e),fun _=> ?_⟩
   have e1:sg x=(sg x).take i++c::(sg x).drop (i+1):=by
    conv=>lhs;rw[<-List.take_append_drop i (sg x),List.drop_eq_getElem_cons hl]
    rw[(List.getElem?_eq_some_iff.mp hi).2]
   have hc:c∉(sg x).take i:=fun m=>by
    obtain⟨k,hk⟩:=List.mem_iff_getElem?.mp m
    have hk2:k<i:=by
     have:=(List.getElem?_eq_some_iff.mp hk).1
     rw[List.length_take] at this
     lia
    rw[List.getElem?_take_of_lt hk2] at hk
    exact hno k hk2 ((hat k).mpr hk)
   have e2:sg x=sg p++c::jn [c] ((q::r).map sg):=by rw[hs];simp[jn]
   obtain⟨h1,h2⟩:=cut1 hc (hf p (by simp)) (e1.symm.trans e2)
   have e3:Builtin.Str.strSub x 0 i=p:=z2k (by rw[zhz,h1])
   refine⟨Builtin.Str.strSub x (i+1) x.length,by rw[<-e3];rfl,z1X (by simp) (fun y hy=>hf y (by simp only[List.mem_cons] at hy⊢;exact .inr hy)) (by rw[z6B,h2]), ?_,fun d hd=> ?_⟩
   ·have e4:=congrArg List.length (z6B x (i+1))
    rw[z1h,List.length_drop,z1h] at e4
    lia
   ·rw[z6B] at hd
    exact List.mem_of_mem_drop hd
theorem zb8{cs:List Cm}(h: ∀c∈cs,Good c): ∀c∈cs,c.ok:=fun c hc=>(h c hc).1
theorem zjz{z y:Str}{s:Stt}(h:(y.length==0)=false)(hz:z.length<=sizeLine):txP z [.str y] s= .ok (.tup ((prt z y).map D.str)) s:=by simp only[txP,if_pos (And.intro h hz)];rfl
theorem zhA:((⟨#[59]⟩:Str)==Str.ofString "")=false:=by decide+kernel
theorem at_rng{lo:Int}{N i:Nat}{tm:List (Option D)}:(kRng lo N).at' i tm=some (if i<N then some (.int (lo+i)) else none):=rfl
theorem zeC{s:Stt}:s.popn 0=s:=rfl
noncomputable def caM:MS:=(seqS (sAsg (.tp [(.nm 4),(.nm 5),(.nm 2)]) (z0w (mVar 2) [(mC (.str (";" :Str)))] txP))
 (seqS (sAsg (.nm 6) (mCall z1b [(mVar 4)]))
 (seqS (sIf (mOr (mBoo (mBin (mVar 5) (mC (.str ("" :Str))) eqS)) (mBoo (mBin (mVar 6) (mC .non) isN))) (sRet (mVar 1)) sNx)
 (z2n (z26 (mVar 1) [(mVar 6)] appD)))))
theorem zjA(x:Str)(l:Nat): ∀(f i:Nat) (z:Str) (ps:List Str) (acc:List Cm) (o3 o4 o5 o6:Option D) (n:Nat),i+f=60->acc.length=i->Txt.split z (Str.ofString ";")=ps->z.length<=1000000->Lo (sg z)->∃n',n<=n'/\((forGo (kRng 0 60) (.nm 3) caM f i ⟨[some (.str x),some (.lst l (csD acc)),some (.str z),o3,o4,o5,o6],[some (.str x)],n⟩).sq (sRet (mVar 1))).fin= .ok (.lst l (csD (acc++upF f ps))) [.str x] n':=by
 have es:=(sep1 59 _ z3J).1
 intro f
 induction f with
 |zero=>
  intro i z ps acc o3 o4 o5 o6 n hi ha hs hz hlo
  refine⟨n,Nat.le_refl _, ?_⟩
  rw[z7N (by rw[at_rng,if_neg (by lia)]),show(kRng 0 60).k=0 from rfl,zeC]
  simp only[upF,List.append_nil]
  walk_at ""
 |succ f ih=>
  intro i z ps acc o3 o4 o5 o6 n hi ha hs hz hlo
  have hat: ∀tm,(kRng 0 60).at' i tm=some (some (.int (i:Nat))):=fun tm=>by rw[at_rng,if_pos (by lia),Int.zero_add]
  have hne:Txt.split z (Str.ofString ";")≠[]:=z3U
  unfold forGo
  simp only[hat,asg,List.set_cons_succ,List.set_cons_zero]
  unfold caM
  walk_at ""
  rw[zjz zcK (by rw[zl];lia)]
  obtain⟨p,r,hpr⟩: ∃p r,ps=p::r:=by
   cases ps with
   |nil=>exact absurd hs hne
   |cons p r=>exact⟨p,r,rfl⟩
  subst hpr
  have hs':=hs
  rw[es] at hs'
  obtain⟨q1,q2⟩:=zb7 hs'
  have hp:p.length<=1000000:=Nat.le_trans (p_sh (show p∈Txt.split z (Str.ofString ";") by rw[hs];simp)) hz
  have hL:Lo (sg p):=z8H (c:=59) hlo p (by rw[hs'];simp)
  obtain⟨n1,g1,e1⟩:=zeB p hp hL n
  cases r with
  |nil=>
   refine⟨n1,g1, ?_⟩
   rw[es,q1 rfl]
   walk_at ""
   rw[e1]
   walk_at ""
   rw[zaz,show(Str.empty==Str.ofString "")=true from by decide+kernel]
   walk_at ""
   rw[show(kRng 0 60).k=0 from rfl,zeC]
   walk_at ""
   simp only[upF,List.append_nil]
  |cons q r=>
   obtain⟨b,b1,b2,b3,b4⟩:=q2 (by simp)
   rw[es,b1]
   walk_at ""
   rw[e1]
   walk_at ""
   rw[zaz,zhA]
   walk_at ""
   simp only[upF]
   unfold rdD
   cases hr:rd p with
   |none=>
    refine⟨n1,g1, ?_⟩
    dsimp only
    rw[zhw]
    walk_at ""
    rw[show(kRng 0 60).k=0 from rfl,zeC]
    walk_at ""
   |some c=>
    have hg:=(z6z hr).1
    obtain⟨n2,g2,e2⟩:=ih (i+1) b (q::r) (acc++[c]) (some (.int i)) (some (.str p)) (some (.str ⟨#[59]⟩)) (some c.d) n1 (by lia) (by simp only[List.length_append,List.length_cons,List.length_nil];lia) (by rw[es];exact b2) (by lia) (fun d hd=>hlo d (b4 d hd))
    refine⟨n2,by lia, ?_⟩
    dsimp only
    rw[zhj]
    walk_at ""
    rw[z7M ⟨by rw[zl,z5c];lia,by rw[z7V _ hg.1];exact List.not_mem_nil⟩]
    walk_at ""
    simp only[z7R]
    rw[zb5,List.append_assoc] at e2
    exact e2
theorem zeD(x:Str)(hx:x.length<=1000000)(hlo:Lo (sg x))(n:Nat): ∃n',n<n'/\z3R [.str x] n= .ok (.lst n (csD (upF 60 (Txt.split x (Str.ofString ";"))))) [.str x] n':=by
 have e0:z6m=(seqS (sAsg (.nm 1) (mCB [] lstM)) (seqS (sAsg (.nm 2) (mVar 0)) (seqS (sFor (z2Q [(mC (.int 60))]) (.nm 3) caM) (sRet (mVar 1))))):=rfl
 obtain⟨n1,g1,e1⟩:=zjA x n 60 0 x _ [] none none none none (n+1) rfl rfl rfl hx hlo
 refine⟨n1,by lia, ?_⟩
 unfold z3R
 rw[e0]
 walk_at ""
 rw[z57 ⟨by decide,by decide⟩]
 walk_at ""
 exact e1
noncomputable def rgM:MS:=(seqS (sAsg (.nm 3) (mCall z07 [(mVar 0)]))
 (seqS (sIf (mOr (mNot (z0J (mIsi "list" (mVar 3)))) (mBoo (mBin (mCB [(mVar 3)] strA) (mCB [(mVar 1)] strA) neS))) (sRet (mC (.bool false))) sNx)
 (z2n (z26 (mVar 3) [(mC (.int 7))] appD))))
theorem z6C(x:Str)(hx:x.length<=1000000)(hlo:Lo (sg x))(n:Nat): ∃n',n<=n'/\z1c [.str x] n= .ok (.bool true) [.str x] n':=by
 obtain⟨h1,h2⟩:=zd3 60 (Txt.split x (Str.ofString ";"))
 obtain⟨n1,g1,e1⟩:=zeD x hx hlo n
 have hU: ∀m,∃n',m<n'/\z07 [.str x] m= .ok (.lst m (csD (upF 60 (Txt.split x (Str.ofString ";"))))) [.str x] n':=fun m=>z8J x hx m
 generalize upF 60 (Txt.split x (Str.ofString ";"))=U at*
 have ho:=zb8 h1
 obtain⟨s',e2,p2,p3,n2,hn2,rfl⟩:=z58 (P:=fun k s=> ∃(p2 p3:Option D) (n2:Nat),n1<=n2/\s=⟨[some (.str x),some (.lst n (csD U)),p2,p3],[some (.str x)],n2⟩) (lo:=0) (N:=2) (g:= .nm 2) (b:=rgM) (by
  rintro k hk s ⟨p2,p3,n2,hn2,rfl⟩
  refine⟨_,rfl, ?_⟩
  obtain⟨n3,g3,e3⟩:=hU n2
  refine⟨_, ?_,some (.int (0+(k:Int))),some (.lst n2 (csD U++[.int 7])),n3,by lia,rfl⟩
  unfold rgM
  walk_at ""
  rw[e3]
  walk_at ""
  rw[zcb ho h2]
  walk_at ""
  rw[zcb ho h2]
  walk_at ""
  rw[z7g]
  simp only[beq_self_eq_true]
  walk_at ""
  rw[z7M ⟨by rw[zl,z5c];lia,by simp[labs]⟩]
  walk_at ""
  simp only[zef (show n≠n2 by lia)]) 2 0 ⟨[some (.str x),some (.lst n (csD U)),none,none],[some (.str x)],n1⟩ (by lia) ⟨none,none,n1,Nat.le_refl _,rfl⟩
 have e0:z53=(seqS (sAsg (.nm 1) (mCall z3R [(mVar 0)])) (seqS (sFor (z2Q [(mC (.int 2))]) (.nm 2) rgM) (sRet (mC (.bool true))))):=rfl
 refine⟨n2,by lia, ?_⟩
 unfold z1c
 rw[e0]
 walk_at ""
 rw[e1]
 walk_at ""
 rw[z57 ⟨by decide,by decide⟩]
 walk_at ""
 rw[show Int.toNat 2=2 from rfl,e2]
 walk_at ""
noncomputable def Tx(B:Nat)(y:Str):Prop:=y.length<=B/\Lo (sg y)
theorem Tx.app{A B:Nat}{x y:Str}(h:Tx A x)(h':Tx B y):Tx (A+B) (x++y):=⟨by rw[Str.length_append];have:=h.1;have:=h'.1;lia,by
 rw[z1s]
 intro c hc
 rcases List.mem_append.mp hc with hc|hc
 ·exact h.2 c hc
 ·exact h'.2 c hc⟩
theorem Tx.up{A B:Nat}{x:Str}(h:Tx A x)(hB:A<=B):Tx B x:=⟨Nat.le_trans h.1 hB,h.2⟩
theorem zhB(x:Str)(l u:Option Int): ∀c∈sg (Txt.slice x l u),c∈sg x:=by
 intro c hc
 unfold Txt.slice at hc
 split at hc
 ·exact hc
 ·simp only[sg,List.mem_filterMap] at hc
  obtain⟨i,_,hi⟩:=hc
  rw[<-Array.getElem?_toList] at hi
  exact List.mem_iff_getElem?.mpr ⟨i,hi⟩
theorem Tx.sl{A:Nat}{x:Str}(h:Tx A x)(l u:Option Int):Tx A (Txt.slice x l u):=⟨Nat.le_trans (Txt.slice_le x l u) h.1,fun c hc=>h.2 c (zhB x l u c hc)⟩
theorem Tx.join{ys:List Str}{N:Nat}(h: ∀y∈ys,Tx 5000 y)(hl:ys.length<=N):Tx (N*5000) (Txt.join (Str.ofString "") ys)/\(ys.map (·.length)).sum+ys.length*(Str.ofString "").length<=N*5000:=by
 have h1:=zaB (z:=Str.ofString "") (ys:=ys) (B:=5000) fun y hy=>(h y hy).1
 have h3:ys.length*(5000+(Str.ofString "").length)<=N*5000:=by rw[zek];exact Nat.mul_le_mul_right _ hl
 refine⟨⟨by lia, ?_⟩,by lia⟩
 rw[z1j,zhi]
 refine zcc (by simp[Lo]) fun x hx=> ?_
 obtain⟨y,hy,rfl⟩:=List.mem_map.mp hx
 exact(h y hy).2
theorem z5g{α β:Type}(f:α->β)(l:List α)(lo hi:Option Int):cutA (l.map f) lo hi=(cutA l lo hi).map f:=by
 unfold cutA
 rw[List.length_map,List.map_take,List.map_drop]
theorem zeE{α:Type}{l:List α}{lo hi:Option Int}{x:α}(h:x∈cutA l lo hi):x∈l:=List.mem_of_mem_drop (List.mem_of_mem_take h)
theorem zeF{α:Type}(l:List α)(lo hi:Option Int):(cutA l lo hi).length<=l.length:=by
 unfold cutA
 rw[List.length_take,List.length_drop]
 lia
section
variable{s:Stt}{m:M D}{z:Str}{l:Nat}{ds:List D}
theorem z7Y{lo hi:Option (M D)}:mSlS m lo hi s=(m s).bnd fun x s1=>(z3k lo (s1.psh x)).bnd fun l s2=>(z3k hi s2).bnd fun h s3=>(pop s3).bnd fun x' s4=>slS x' l h s4:=(rfl)
theorem z7Z{lo hi:Option Int}(h:z.length<=sizeLine):slS (.str z) lo hi s= .ok (.str (Txt.slice z lo hi)) s:=by simp only[slS,if_pos h];rfl
theorem zb9:lenS [.lst l ds] s= .ok (.int ds.length) s:=(rfl)
theorem zeG:lenS [.ro ds] s= .ok (.int ds.length) s:=(rfl)
end
theorem zeH(l Lr Lq n:Nat)(c x:Int)(ys:List Str)(o:Str)(h:Bg c x)(hn:l<n)(h1:Lr≠l)(h2:Lq≠l)(hy: ∀y∈ys,Tx 5000 y)(hl:ys.length<=60)(ho:Tx 5000 o): ∃(y:Str) (c' x':Int) (n':Nat),Tx 1000000 y/\Bg c' x'/\n<=n'/\z3S [.lst l [.int c, .int x], .lst Lr (ys.map D.str), .lst Lq [.str o]] n= .ok (.str y) [.lst l [.int c', .int x'], .lst Lr (ys.map D.str), .lst Lq [.str o]] n':=by
 have hR: ∀d,rp (pl l d) (.lst Lr (ys.map D.str))= .lst Lr (ys.map D.str):=fun d=>z9g h1
 have hO: ∀d,rp (pl l d) (.lst Lq [.str o])= .lst Lq [.str o]:=fun d=>by rw[z5w h2];rfl
 obtain⟨hT,hj⟩:=Tx.join hy hl
 obtain⟨hO1,hj1⟩:=Tx.join (ys:=[o]) (N:=1) (fun y q=>by rw[List.mem_singleton.mp q];exact ho) (Nat.le_refl _)
 generalize eT:Txt.join (Str.ofString "") ys=T at hT
 generalize eO:Txt.join (Str.ofString "") [o]=O at hO1
 have tl:=hT.1
 have ol:=hO1.1
 unfold z3S z6n
 walk_at ""
 obtain⟨w,c1,x1,w0,w1,b1,e1⟩:=z0K l c x 6 n h (by decide) (by decide)
 rw[e1,z06 rfl rfl rfl (fun q=>by walk_at "";simp only[hR,hO];rfl) (fun q=>by walk_at "";simp only[hR,hO];rfl)]
 walk_at ""
 rw[z3t (by rw[zl];lia),eT]
 walk_at ""
 rw[z7d (by rw[zl];lia)]
 walk_at ""
 obtain⟨p,c2,x2,p0,p1,b2,e2⟩:=z0K l c1 x1 ((T.length:Int)+1) n b1 (by lia) (by lia)
 rw[e2,z06 rfl rfl rfl (fun q=>by walk_at "";simp only[hR,hO];rfl) (fun q=>by walk_at "";simp only[hR,hO];rfl)]
 walk_at ""
 rw[z7d (by rw[zl];lia)]
 walk_at ""
 generalize hM:(if(T.length:Int) -p+1<40 then(T.length:Int) -p+1 else 40)=M
 have M0:0<M/\M<=40:=by split at hM<;>lia
 obtain⟨k,c3,x3,k0,k1,b3,e3⟩:=z0K l c2 x2 M n b2 M0.1 (by lia)
 rw[e3,z06 rfl rfl rfl (fun q=>by walk_at "";simp only[hR,hO];rfl) (fun q=>by walk_at "";simp only[hR,hO];rfl)]
 walk_at ""
 rw[zb9]
 walk_at ""
 have el:(((ys.map D.str).length:Nat):Int)=ys.length:=by simp
 rw[el]
 obtain⟨u,c4,x4,u0,u1,b4,e4⟩:=z0K l c3 x3 ((ys.length:Int)+1) n b3 (by lia) (by lia)
 rw[e4,z06 rfl rfl rfl (fun q=>by walk_at "";simp only[hR,hO];rfl) (fun q=>by walk_at "";simp only[hR,hO];rfl)]
 walk_at ""
 rw[zb9]
 walk_at ""
 rw[el]
 obtain⟨v,c5,x5,v0,v1,b5,e5⟩:=z0K l c4 x4 ((ys.length:Int)+1) n b4 (by lia) (by lia)
 rw[e5,z06 rfl rfl rfl (fun q=>by walk_at "";simp only[hR,hO];rfl) (fun q=>by walk_at "";simp only[hR,hO];rfl)]
 walk_at ""
 have s1: ∀lo hi,(Txt.slice T lo hi).length<=300000:=fun lo hi=>Nat.le_trans (hT.sl lo hi).1 (by decide)
 have cm: ∀lo hi,∀y∈cutA ys lo hi,Tx 5000 y:=fun lo hi y q=>hy y (zeE q)
 have cl: ∀lo hi,(cutA ys lo hi).length<=60:=fun lo hi=>Nat.le_trans (zeF ys lo hi) hl
 have hw:w=0\/w=1\/w=2\/w=3\/w=4\/w=5:=by lia
 rcases hw with rfl|rfl|rfl|rfl|rfl|rfl
 ·refine⟨Txt.slice T none (some p)++Txt.slice T (some (p+k)) none,c5,x5,n,((hT.sl _ _).app (hT.sl _ _)).up (by decide),b5,Nat.le_refl _, ?_⟩
  walk_at ""
  rw[z7Y]
  walk_at ""
  rw[z7Z (by rw[zl];lia)]
  walk_at ""
  rw[z7Y]
  walk_at ""
  rw[z7Z (by rw[zl];lia)]
  walk_at ""
  rw[z2m (by rw[zl];have:=s1 none (some p);have:=s1 (some (p+k)) none;lia)]
  walk_at ""
 ·obtain⟨t1,t2⟩:=Tx.join (ys:=cutA ys none (some u)++cutA ys (some v) none) (N:=120) (fun y q=>(List.mem_append.mp q).elim (cm _ _ y) (cm _ _ y)) (by have:=cl none (some u);have:=cl (some v) none;rw[List.length_append];lia)
  refine⟨_,c5,x5,n+1+1+1,t1.up (by decide),b5,by lia, ?_⟩
  have q1:=cl none (some u)
  have q2:=cl (some v) none
  walk_at ""
  rw[z5g,z5g,z4q (by rw[zl];simp only[List.length_map];lia)]
  walk_at ""
  rw[<-List.map_append,z3t (by rw[zl];lia)]
  walk_at ""
 ·refine⟨T++Txt.slice T none (some p)++T,c5,x5,n,((hT.app (hT.sl _ _)).app hT).up (by decide),b5,Nat.le_refl _, ?_⟩
  have q1:=s1 none (some p)
  walk_at ""
  rw[z7Y]
  walk_at ""
  rw[z7Z (by rw[zl];lia)]
  walk_at ""
  rw[z2m (by rw[zl];lia)]
  walk_at ""
  rw[z2m (by rw[zl,Str.length_append];lia)]
  walk_at ""
 ·obtain⟨t1,t2⟩:=Tx.join (ys:=cutA ys none (some u)++cutA ys (some u) (some (u+1))++cutA ys (some u) none) (N:=180) (fun y q=>(List.mem_append.mp q).elim (fun q=>(List.mem_append.mp q).elim (cm _ _ y) (cm _ _ y)) (cm _ _ y)) (by have:=cl none (some u);have:=cl (some u) none;have:=cl (some u) (some (u+1));rw[List.length_append,List.length_append];lia)
  refine⟨_,c5,x5,n+1+1+1+1+1,t1.up (by decide),b5,by lia, ?_⟩
  have q1:=cl none (some u)
  have q2:=cl (some u) none
  have q3:=cl (some u) (some (u+1))
  walk_at ""
  rw[z5g,z5g,z4q (by rw[zl];simp only[List.length_map];lia)]
  walk_at ""
  rw[z5g,z4q (by rw[zl];simp only[List.length_append,List.length_map];lia)]
  walk_at ""
  rw[<-List.map_append,<-List.map_append,z3t (by rw[zl];lia)]
  walk_at ""
 ·refine⟨O++T++O,c5,x5,n,((hO1.app hT).app hO1).up (by decide),b5,Nat.le_refl _, ?_⟩
  have e6: ∀s:Stt,z1R (Str.ofString "") [.lst Lq [.str o]] s= .ok (.str O) s:=fun s=>by
   rw[<-eO]
   exact z3t (ys:=[o]) (by rw[zl];lia)
  walk_at ""
  rw[e6]
  walk_at ""
  rw[z2m (by rw[zl];lia)]
  walk_at ""
  rw[e6]
  walk_at ""
  rw[z2m (by rw[zl,Str.length_append];lia)]
  walk_at ""
 ·walk_at ""
  by_cases hp:p>0
  ·refine⟨Txt.slice T none (some p)++Txt.slice T (some (p - 1)) none,c5,x5,n,((hT.sl _ _).app (hT.sl _ _)).up (by decide),b5,Nat.le_refl _, ?_⟩
   have q1:=s1 none (some p)
   have q2:=s1 (some (p - 1)) none
   simp only[hp,decide_true]
   walk_at ""
   rw[z7Y]
   walk_at ""
   rw[z7Z (by rw[zl];lia)]
   walk_at ""
   rw[z7Y]
   walk_at ""
   rw[z7Z (by rw[zl];lia)]
   walk_at ""
   rw[z2m (by rw[zl];lia)]
   walk_at ""
  ·refine⟨T++Str.ofString ";",c5,x5,n,(hT.app (B:=1) ⟨by rw[z5z];exact Nat.le_refl _,by rw[z3J];simp[Lo]⟩).up (by decide),b5,Nat.le_refl _, ?_⟩
   simp only[hp,decide_false]
   walk_at ""
   rw[z2m (by rw[zl,z5z];lia)]
   walk_at ""
theorem zhC{x:Str}{q:Int}(h0:0<=q)(h1:q<=x.length):sg (Txt.slice x none (some q))=(sg x).take q.toNat:=by
 rw[beq_iff_eq.mp (PyProof.Rows.slice_closes_toL h0 h1)]
 simp[sg]
theorem zd5: ∀(cs:List Cm),(∀c∈cs,c.ok)->∀m:Nat,∃(k:Nat) (t:List Nat),k<=cs.length/\59∉t/\(jn [59] ((cs.map bo++[Str.empty]).map sg)).take m=jn [59] (((cs.take k).map bo).map sg++[t])
 |[],_,m=>⟨0,[],Nat.le_refl _,List.not_mem_nil,by simp[jn,sg_e]⟩
 |c::cs,h,m=>by
  have hc:=zaS (h c (by simp))
  have e:jn [59] (((c::cs).map bo++[Str.empty]).map sg)=sg (bo c)++59::jn [59] ((cs.map bo++[Str.empty]).map sg):=by
   cases cs<;>simp[jn]
  rw[e]
  by_cases hm:m<=(sg (bo c)).length
  ·refine⟨0,(sg (bo c)).take m,Nat.zero_le _,fun q=>hc (List.mem_of_mem_take q), ?_⟩
   rw[List.take_append_of_le_length hm]
   simp[jn]
  ·obtain⟨k,t,h1,h2,h3⟩:=zd5 cs (fun q hq=>h q (by simp[hq])) (m -(sg (bo c)).length - 1)
   refine⟨k+1,t,by simp only[List.length_cons];lia,h2, ?_⟩
   rw[List.take_append,List.take_of_length_le (by lia),show m -(sg (bo c)).length=(m -(sg (bo c)).length - 1)+1 by lia,List.take_succ_cons,h3]
   rw[List.take_succ_cons,List.map_cons,List.map_cons,List.cons_append]
   cases hk:((cs.take k).map bo).map sg++[t] with
   |nil=>simp at hk
   |cons a r=>simp[jn]
theorem zba: ∀(K:Nat) (cs:List Cm) (p:Str),(∀c∈cs,Good c)->cs.length<=K->upF K (cs.map bo++[p])=cs
 |0,[],p,_,_=>rfl
 |0,c::cs,p,_,h=>by simp at h
 |K+1,[],p,_,_=>rfl
 |K+1,c::cs,p,h,hl=>by
  have ih:=zba K cs p (fun q hq=>h q (by simp[hq])) (by simp only[List.length_cons] at hl;lia)
  rw[List.map_cons,List.cons_append]
  cases e:cs.map bo++[p] with
  |nil=>simp at e
  |cons a r=>
   rw[e] at ih
   simp only[upF,zew (h c (by simp)),ih]
theorem zhD{cs:List Cm}(h: ∀c∈cs,Good c)(hz:cs.length<=60){q:Int}(h0:0<=q)(h1:q<=(jT cs).length): ∃k:Nat,upF 60 (Txt.split (Txt.slice (jT cs) none (some q)) (Str.ofString ";"))=cs.take k/\Txt.count (Txt.slice (jT cs) none (some q)) (Str.ofString ";")=(k:Nat):=by
 have es:=(sep1 59 _ z3J).1
 obtain⟨k,t,a1,a2,a3⟩:=zd5 cs (fun c hc=>(h c hc).1) q.toNat
 have e1:sg (jT cs)=jn [59] ((cs.map bo++[Str.empty]).map sg):=by unfold jT;rw[z1j,zhi,zcP]
 have e2:Txt.split (Txt.slice (jT cs) none (some q)) (Str.ofString ";")=(cs.take k).map bo++[⟨t.toArray⟩]:=by
  rw[es]
  refine z1X (by simp) (fun y hy=> ?_) (by rw[zhC h0 h1,e1,a3,List.map_append];rfl)
  rcases List.mem_append.mp hy with hy|hy
  ·obtain⟨c,hc,rfl⟩:=List.mem_map.mp hy
   exact zaS (h c (List.mem_of_mem_take hc)).1
  ·rw[List.mem_singleton.mp hy]
   exact a2
 refine⟨k,by rw[e2];exact zba 60 _ _ (fun c hc=>h c (List.mem_of_mem_take hc)) (by rw[List.length_take];lia), ?_⟩
 have e3:=PyProof.Rows.split_len (Txt.slice (jT cs) none (some q)) 59
 rw[<-es,e2,List.length_append,List.length_map,List.length_take,List.length_singleton,Nat.min_eq_left a1] at e3
 rw[es,PyProof.Rows.count_cnt]
 lia
theorem zjB{z y:Str}{s:Stt}:txC z [.str y] s= .ok (.int (Txt.count z y)) s:=(rfl)
theorem zd6{z:Str}{n:Int}{s:Stt}(h:1<n/\n<1000/\0<z.length/\n.toNat*z.length<=sizeLine):mulS (.str z) (.int n) s= .ok (.str (rpt z n.toNat)) s:=by simp only[mulS,if_pos h];rfl
theorem Tx.rep{A N:Nat}{z:Str}(h:Tx A z):Tx (N*A) (rpt z N):=by
 refine⟨by rw[z63];exact Nat.mul_le_mul_left _ h.1,fun c hc=> ?_⟩
 have hc':c∈(rpt z N).cps.toList:=hc
 rw[z8k] at hc'
 obtain⟨w,hw,hm⟩:=List.mem_flatten.mp hc'
 rw[(List.mem_replicate.mp hw).2] at hm
 exact h.2 c hm
theorem zch{c:Cm}(h:c.ok):Tx 5000 (rT c):=⟨(zaJ h).1,by
 rw[<-z5P,z1s,z3J]
 intro d hd
 rcases List.mem_append.mp hd with hd|hd
 ·exact zjp h d hd
 ·rw[List.mem_singleton.mp hd];decide⟩
theorem zhE(c:Cm):0<(rT c).length:=by
 rw[<-z5P,Str.length_append,z5z]
 lia
theorem zeI{cs:List Cm}(hc: ∀c∈cs,c.ok):labsL (csD cs)=[]:=TrL_labs _ (z7O.mpr fun d hd=>by
 obtain⟨c,h,rfl⟩:=List.mem_map.mp hd
 exact(zc9 (hc c h)).1)
theorem zjC(ns:List Int){l:Nat}: ¬l∈labs (.ro (ns.map .int)):=fun h=>by
 simp only[labs] at h
 obtain⟨e,he,hk⟩:=labsL_mem h
 obtain⟨j,_,rfl⟩:=List.mem_map.mp he
 simp[labs] at hk
theorem zhF(ns:List Int): ∀k d,rp (pl k d) (.ro (ns.map .int))= .ro (ns.map .int):=fun k d=>z8n (zjC ns)
theorem zd7(ns:List Int)(f:Nat->Option D):rp f (.ro (ns.map .int))= .ro (ns.map .int):=by
 have:=rL_i f ns
 unfold iL at this
 simp only[rp,this]
theorem UpO.of{k:Nat}{d:D}(h:Up k d):UpO k (some d):=fun x hx=>by cases hx;exact h
theorem UpO.mono{k m:Nat}{o:Option D}(h:UpO k o)(hk:k<=m):UpO m o:=fun d hd j hj=>Nat.lt_of_lt_of_le (h d hd j hj) hk
theorem UpO.no{k:Nat}:UpO k none:=fun d hd=>nomatch hd
theorem zjD{cs:List Cm}(hc: ∀c∈cs,c.ok){l k:Nat}(h:l<k):Up k (.lst l (csD cs)):=fun j hj=>by
 simp only[labs,zeI hc,List.mem_cons,List.not_mem_nil,or_false] at hj;lia
theorem zbb(ys:List Str):labsL (ys.map D.str)=[]:=z2T ys
theorem zhG(ys:List Str){l k:Nat}(h:l<k):Up k (.lst l (ys.map D.str)):=fun j hj=>by
 simp only[labs,zbb,List.mem_cons,List.not_mem_nil,or_false] at hj;lia
theorem zhH{k:Nat}{i:Int}:UpO k (some (.int i)):=UpO.of fun j hj=>by simp only[labs] at hj;cases hj
theorem zjE{k:Nat}{x:Str}:UpO k (some (.str x)):=UpO.of fun j hj=>by simp only[labs] at hj;cases hj
theorem zjF{t:D}{l Lr Lq n' n:Nat}{b b' R O:List D}{σ tm σ' tm':List (Option D)}(hb':labsL b'=[])(hb:labsL b=[])(hR:labsL R=[])(hO:labsL O=[])(h1:l≠Lr)(h2:l≠Lq)(h3:Lr≠Lq)
 (f1: ∀φ:Nat->Option D,φ l=some (.lst l b')->φ Lr=some (.lst Lr R)->φ Lq=some (.lst Lq O)->(∀k,k≠l->k≠Lr->k≠Lq->φ k=none)->rpO φ σ=σ'/\rpO φ tm=tm') (e1:b'=b->σ'=σ/\tm'=tm):
 z4u (.ok t [.lst l b', .lst Lr R, .lst Lq O] n') [.lst l b, .lst Lr R, .lst Lq O] ⟨σ,tm,n⟩= .ok t ⟨σ',tm',n'⟩:=by
 have fb: ∀{x:List D} {k:Nat},labsL x=[]->findL k x=none:=fun hx=>findL_none _ (by rw[hx];exact List.not_mem_nil)
 have q:=f1 (fun k=>findL k [.lst l b', .lst Lr R, .lst Lq O])
  (by simp only[findL,z0e,if_true])
  (by simp only[findL,z0e,if_neg h1,fb hb',if_true])
  (by simp only[findL,z0e,if_neg h2,if_neg h3,fb hb',fb hR,if_true])
  (fun k k1 k2 k3=>by simp only[findL,z0e,if_neg (Ne.symm k1),if_neg (Ne.symm k2),if_neg (Ne.symm k3),fb hb',fb hR,fb hO])
 rw[zas (fun k hk=> ?_) (fun e=> ?_),q.1,q.2]
 ·simp only[labsL,labs,hb,hR,hO,List.append_nil,List.mem_append,List.mem_cons,List.not_mem_nil,or_false] at hk
  rcases hk with rfl|rfl|rfl
  ·simp only[findL,z0e,if_true,Option.isSome_some]
  ·simp only[findL,z0e,if_neg h1,fb hb',if_true,Option.isSome_some]
  ·simp only[findL,z0e,if_neg h2,if_neg h3,fb hb',fb hR,if_true,Option.isSome_some]
 ·simp only[List.cons.injEq,D.lst.injEq,and_true,true_and] at e
  have:=e1 e
  rw[q.1,q.2]
  exact this
noncomputable def inM:MS:=(seqS (sAsg (.nm 8) (mCall z05 [(mVar 2),(mBin (mCB [(mVar 6)] lenS) (mC (.int 1)) addD)]))
 (seqS (sIf (mBoo (mBin (mCB [(mCall z07 [(mSlS (mVar 6) none (some (mVar 8)))])] strA) (mCB [(mSl (mVar 3) none (some (z0w (mSlS (mVar 6) none (some (mVar 8))) [(mC (.str (";" :Str)))] txC)))] strA) neS)) (sRet (mC (.bool false))) sNx)
 (sIf (mNot (z0J (mCall z1c [(mCall z3S [(mVar 2),(mVar 4),(mVar 5)])]))) (sRet (mC (.bool false))) sNx)))
theorem zjG(ns:List Int)(i t c x:Int)(cs:List Cm)(hc: ∀c∈cs,Good c)(hz:cs.length<=60)(q:Cm)(hq:Good q)(l Lc Lr Lq n:Nat)(h:Bg c x)(h1:Lc≠l)(h2:Lr≠l)(h3:Lq≠l)(h4:Lr≠Lq)(h5:Lc≠Lr)(h6:Lc≠Lq)(hn:l<n)(o8:Option D)(s8: ∀d,Option.map (rp (pl l d)) o8=o8): ∃(c' x' p:Int) (n':Nat),Bg c' x'/\n<=n'/\inM ⟨[some (.ro (ns.map .int)),some (.int i),some (.lst l [.int c, .int x]),some (.lst Lc (csD cs)),some (.lst Lr ((cs.map rT).map D.str)),some (.lst Lq [.str (rT q)]),some (.str (jT cs)),some (.int t),o8],[some (.ro (ns.map .int))],n⟩= .nx ⟨[some (.ro (ns.map .int)),some (.int i),some (.lst l [.int c', .int x']),some (.lst Lc (csD cs)),some (.lst Lr ((cs.map rT).map D.str)),some (.lst Lq [.str (rT q)]),some (.str (jT cs)),some (.int t),some (.int p)],[some (.ro (ns.map .int))],n'⟩:=by
 have ho:=zb8 hc
 have sr:=zhF ns
 have hl:=(zaK ho hz).1
 have hC: ∀d,rp (pl l d) (.lst Lc (csD cs))= .lst Lc (csD cs):=fun d=>zef h1
 have hR: ∀d,rp (pl l d) (.lst Lr ((cs.map rT).map D.str))= .lst Lr ((cs.map rT).map D.str):=fun d=>z9g h2
 have hO: ∀d,rp (pl l d) (.lst Lq [.str (rT q)])= .lst Lq [.str (rT q)]:=fun d=>by rw[z5w h3];rfl
 obtain⟨p,c1,x1,p0,p1,b1,e1⟩:=z0K l c x (((jT cs).length:Int)+1) n h (by lia) (by lia)
 obtain⟨k,k1,k2⟩:=zhD hc hz p0 (show p<=(jT cs).length by lia)
 have lS:(Txt.slice (jT cs) none (some p)).length<=300000:=Nat.le_trans (Txt.slice_le _ _ _) hl
 obtain⟨n2,g2,e2⟩:=z8J (Txt.slice (jT cs) none (some p)) (by lia) n
 rw[k1] at e2
 have hk: ∀c∈cs.take k,c.ok:=fun c hc'=>ho c (List.mem_of_mem_take hc')
 have kz:(cs.take k).length<=60:=by rw[List.length_take];lia
 obtain⟨y,c3,x3,n3,ty,b3,g3,e3⟩:=zeH l Lr Lq (n2+1) c1 x1 (cs.map rT) (rT q) b1 (by lia) h2 h3 (fun y hy=>by
  obtain⟨c,hc',rfl⟩:=List.mem_map.mp hy
  exact zch (ho c hc')) (by rw[List.length_map];exact hz) (zch hq.1)
 obtain⟨n4,g4,e4⟩:=z6C y ty.1 ty.2 n3
 refine⟨c3,x3,p,n4,b3,by lia, ?_⟩
 unfold inM
 walk_at ""
 rw[z7d (by rw[zl];lia)]
 walk_at ""
 rw[e1,z06 rfl rfl rfl (fun q=>by walk_at "";simp only[sr,hC,hR,hO,s8];rfl) (fun q=>by walk_at "";simp only[sr];rfl)]
 walk_at ""
 rw[z7Y]
 walk_at ""
 rw[z7Z (by rw[zl];lia)]
 walk_at ""
 rw[e2]
 walk_at ""
 rw[zcb hk kz]
 walk_at ""
 rw[z7Y]
 walk_at ""
 rw[z7Z (by rw[zl];lia)]
 walk_at ""
 rw[zjB,k2]
 walk_at ""
 rw[show cutA (csD cs) none (some (k:Int))=csD (cs.take k) by rw[cut_take];unfold csD;rw[List.map_take],zcb hk kz]
 walk_at ""
 rw[z7g]
 simp only[beq_self_eq_true]
 walk_at ""
 rw[e3,zjF rfl rfl (zbb _) rfl (Ne.symm h2) (Ne.symm h3) h4 (σ':=[some (.ro (ns.map .int)),some (.int i),some (.lst l [.int c3, .int x3]),some (.lst Lc (csD cs)),some (.lst Lr ((cs.map rT).map D.str)),some (.lst Lq [.str (rT q)]),some (.str (jT cs)),some (.int t),some (.int p)]) (tm':=[some (.ro (ns.map .int))]) (fun φ f1 f2 f3 f4=>by
  have fc:rp φ (.lst Lc (csD cs))= .lst Lc (csD cs):=by simp only[rp,f4 Lc h1 h5 h6,rL_c]
  refine⟨?_, ?_⟩
  ·simp only[rpO,fc,zd7]
   simp only[rp,f1,f2,f3]
  ·simp only[rpO,zd7]) (fun e=>by
  simp only[List.cons.injEq,D.int.injEq,and_true] at e
  rw[e.1,e.2]
  exact⟨rfl,rfl⟩)]
 walk_at ""
 rw[e4]
 walk_at ""
noncomputable def turnM:MS:=(seqS (sAsg (.nm 2) (mCall z51 [(mVar 0),(mVar 1)]))
 (seqS (sAsg (.nm 3) (mCall z1N [(mVar 2)]))
 (seqS (sAsg (.nm 4) (z0D (z0l (mVar 3)) (.nm 0) (rt true) (mCall z2g [(mVar 0)]) 1 []))
 (seqS (sAsg (.nm 5) (mCB [(mCall z2g [(mCall z1i [(mVar 2),(mC (.int 3)),(mC (.int 2))])])] lstM))
 (seqS (sAsg (.nm 6) (z0w (mC (.str ("" :Str))) [(mVar 4)] z1R))
 (seqS (sFor (z2Q [(mC (.int 12))]) (.nm 7) inM)
 (sIf (mOr (mNot (z0J (mCall z1c [(mBin (mBin (mBin (mVar 5) (mC (.int 0)) ixD) (mC (.int 59)) mulS) (z0w (mC (.str ("" :Str))) [(mVar 4)] z1R) addD)]))) (mNot (z0J (mCall z1c [(mBin (mBin (mVar 5) (mC (.int 0)) ixD) (mC (.int 61)) mulS)])))) (sRet (mC (.bool false))) sNx)))))))
theorem zeJ(ns:List Int)(hl:ns.length<1000)(i:Nat)(hi:i<6)(n:Nat)(o2 o3 o4 o5 o6 o7 o8:Option D)(u3:UpO n o3)(u4:UpO n o4)(u5:UpO n o5)(u6:UpO n o6)(u7:UpO n o7)(u8:UpO n o8):
 ∃n' p2 p3 p4 p5 p6 p7 p8,turnM ⟨[some (.ro (ns.map .int)),some (.int i),o2,o3,o4,o5,o6,o7,o8],[some (.ro (ns.map .int))],n⟩= .nx ⟨[some (.ro (ns.map .int)),some (.int i),p2,p3,p4,p5,p6,p7,p8],[some (.ro (ns.map .int))],n'⟩/\UpO n' p3/\UpO n' p4/\UpO n' p5/\UpO n' p6/\UpO n' p7/\UpO n' p8:=by
 have s3:=u3.fix
 have s4:=u4.fix
 have s5:=u5.fix
 have s6:=u6.fix
 have s7:=u7.fix
 have s8:=u8.fix
 have sr:=zhF ns
 obtain⟨c,x,b0,e0⟩:=zgL ns i n (by lia) hl
 obtain⟨cs,c2,x2,L,n2,hz,hc,b2,g1,g2,e2⟩:=zes n c x (n+1) b0 (by lia)
 have ho:=zb8 hc
 obtain⟨n4,g4,e4⟩:=z1Z (mi:=z0l (mVar 3)) (K:=kLst) (tg:= .nm 0) (me:=mCall z2g [(mVar 0)]) (g:=gC) (sl:=fun d=>[some d]) (k:=1) (items:=csD cs) (its:=[some (.lst L (csD cs))]) (ix:=[]) (s:=⟨[some (.ro (ns.map .int)),some (.int i),some (.lst n [.int c2, .int x2]),some (.lst L (csD cs)),o4,o5,o6,o7,o8],[some (.ro (ns.map .int))],n2⟩) (σ:=[some (.ro (ns.map .int)),some (.int i),some (.lst n [.int c2, .int x2]),some (.lst L (csD cs)),o4,o5,o6,o7,o8]) (tm:=[some (.ro (ns.map .int))]) (n:=n2) rfl rfl (by rw[zl,z5c];lia) (fun i rest=>rfl) rfl (by
  intro d hd
  refine⟨rfl,fun os ho=> ?_⟩
  match os,ho with
  |[a0],_=>rfl) (by
  intro d hd tm n
  obtain⟨c,hp,rfl⟩:=List.mem_map.mp hd
  obtain⟨n',h1,e⟩:=zel c (ho c hp) n
  refine⟨n',h1, ?_⟩
  simp only[List.map_nil,List.append_nil]
  walk_at ""
  rw[e,gC_d]
  walk_at "")
 rw[zhc] at e4
 have hC: ∀d,rp (pl n d) (.lst L (csD cs))= .lst L (csD cs):=fun d=>zef (by lia)
 have hR: ∀d,rp (pl n d) (.lst n4 ((cs.map rT).map D.str))= .lst n4 ((cs.map rT).map D.str):=fun d=>z9g (by lia)
 obtain⟨q,c5,x5,n5,hq,b5,g5,e5⟩:=zcS n c2 x2 3 2 (n4+1) b2 (by lia) (by decide) (by decide) (by decide) (by decide)
 obtain⟨n6,g6,e6⟩:=zel q hq.1 n5
 obtain⟨s',e7,c7,x7,p7,p8,n7,b7,v7,v8,hn7,rfl⟩:=z58 (P:=fun k s=> ∃(c7 x7:Int) (p7 p8:Option D) (n7:Nat),Bg c7 x7/\UpO n p7/\UpO n p8/\n6+1<=n7/\s=⟨[some (.ro (ns.map .int)),some (.int i),some (.lst n [.int c7, .int x7]),some (.lst L (csD cs)),some (.lst n4 ((cs.map rT).map D.str)),some (.lst n6 [.str (rT q)]),some (.str (jT cs)),p7,p8],[some (.ro (ns.map .int))],n7⟩) (lo:=0) (N:=12) (g:= .nm 7) (b:=inM) (by
  rintro k hk s ⟨c7,x7,p7,p8,n7,b7,v7,v8,hn7,rfl⟩
  refine⟨_,rfl, ?_⟩
  obtain⟨c8,x8,p,n8,b8,g8,e8⟩:=zjG ns i (0+(k:Int)) c7 x7 cs hc hz q hq n L n4 n6 n7 b7 (by lia) (by lia) (by lia) (by lia) (by lia) (by lia) (by lia) p8 v8.fix
  exact⟨_,e8,c8,x8,_,_,n8,b8,zhH,zhH,by lia,rfl⟩) 12 0 ⟨[some (.ro (ns.map .int)),some (.int i),some (.lst n [.int c5, .int x5]),some (.lst L (csD cs)),some (.lst n4 ((cs.map rT).map D.str)),some (.lst n6 [.str (rT q)]),some (.str (jT cs)),o7,o8],[some (.ro (ns.map .int))],n6+1⟩ (by lia) ⟨c5,x5,o7,o8,n6+1,b5,u7,u8,Nat.le_refl _,rfl⟩
 have tq:=zch hq.1
 have lq:=tq.1
 have zq:=zhE q
 have t59:=tq.rep (N:=59)
 have t61:=tq.rep (N:=61)
 have tj:=(Tx.join (ys:=cs.map rT) (N:=60) (fun y hy=>by
  obtain⟨c,hc',rfl⟩:=List.mem_map.mp hy
  exact zch (ho c hc')) (by rw[List.length_map];exact hz)).1
 have tA:=(t59.app tj).up (show 59*5000+60*5000<=1000000 by decide)
 have tB:=t61.up (show 61*5000<=1000000 by decide)
 obtain⟨n8,g8,e8⟩:=z6C _ tA.1 tA.2 n7
 obtain⟨n9,g9,e9⟩:=z6C _ tB.1 tB.2 n8
 refine⟨n9,some (.lst n [.int c7, .int x7]),_,_,_,_,_,_, ?_,UpO.of (zjD ho (show L<n9 by lia)),UpO.of (zhG (cs.map rT) (show n4<n9 by lia)),UpO.of (zhG [rT q] (show n6<n9 by lia)),zjE (x:=jT cs),v7.mono (by lia),v8.mono (by lia)⟩
 unfold turnM
 walk_at ""
 rw[e0]
 walk_at ""
 rw[e2,z06 rfl rfl rfl (fun q=>by walk_at "";simp only[sr,s3,s4,s5,s6,s7,s8];rfl) (fun q=>by walk_at "";simp only[sr];rfl)]
 walk_at ""
 rw[e4]
 walk_at ""
 rw[e5,z06 rfl rfl rfl (fun q=>by walk_at "";simp only[sr,hC,hR,s5,s6,s7,s8];rfl) (fun q=>by walk_at "";simp only[sr];rfl)]
 walk_at ""
 rw[e6]
 walk_at ""
 rw[z3t (by rw[zl];exact Nat.le_trans (zaK ho hz).2 (by decide)),show Txt.join (Str.ofString "") (cs.map rT)=jT cs from rfl]
 walk_at ""
 rw[z57 ⟨by decide,by decide⟩]
 walk_at ""
 rw[show Int.toNat 12=12 from rfl,e7]
 walk_at ""
 rw[zd6 ⟨by decide,by decide,zq,by rw[zl];have:=t59.1;rw[z63] at this;exact Nat.le_trans this (by decide)⟩]
 walk_at ""
 rw[z3t (by rw[zl];exact Nat.le_trans (zaK ho hz).2 (by decide))]
 walk_at ""
 have l59:=t59.1
 have lj:=tj.1
 rw[z2m (by rw[zl];exact Nat.le_trans (Nat.add_le_add l59 lj) (by decide))]
 walk_at ""
 rw[show Int.toNat 59=59 from rfl,e8]
 walk_at ""
 rw[zd6 ⟨by decide,by decide,zq,by rw[zl];have:=t61.1;rw[z63] at this;exact Nat.le_trans this (by decide)⟩]
 walk_at ""
 rw[show Int.toNat 61=61 from rfl,e9]
 walk_at ""
theorem zhI{x:Str}(h:Txt.split x (Str.ofString ";")=[Str.empty]\/Txt.split x (Str.ofString ";")=[Str.empty,Str.empty]):upF 60 (Txt.split x (Str.ofString ";"))=[]:=by
 have he:rd Str.empty=none:=z2K fun c hg e=>by
  have:=z6A hg.1
  rw[e,show Txt.split Str.empty (Str.ofString " ")=[Str.empty] by
   rw[(sep1 32 _ z5x).1]
   exact z1X (by simp) (fun y hy=>by rw[List.mem_singleton.mp hy,sg_e];exact List.not_mem_nil) rfl] at this
  simp at this
 rcases h with h|h
 ·rw[h];rfl
 ·rw[h]
  simp only[upF,he]
theorem zhJ(ns:List Int)(hl:ns.length<1000)(n:Nat): ∃n',f_law [.ro (ns.map .int)] n= .ok (.bool true) [.ro (ns.map .int)] n':=by
 unfold f_law
 have e0:ze1=seqS (sFor (z2Q [(mCB [(mC (.int 2)),(mCB [(mCB [(mVar 0)] lenS),(mC (.int 5))] minD)] maxD)]) (.nm 1) turnM) (sRet (z5j (mBin (mCall z07 [(mC (.str ("" :Str)))]) (mCB [] lstM) eqD) (mBin (mCall z07 [(mC (.str (";" :Str)))]) (mCB [] lstM) eqD))):=rfl
 rw[e0]
 walk_at ""
 rw[zeG]
 walk_at ""
 have w0:((ns.map D.int).length:Int)=ns.length:=by simp
 rw[w0]
 generalize hk:(if(if(5:Int)<(ns.length:Int) then(5:Int) else(ns.length:Int))>2 then(if(5:Int)<(ns.length:Int) then(5:Int) else(ns.length:Int)) else(2:Int))=k
 have hk0:0<=k/\k<=5:=by split at hk<;>(try split at hk)<;>lia
 rw[z57 ⟨by lia,by lia⟩]
 walk_at ""
 obtain⟨s',e2,o1,o2,o3,o4,o5,o6,o7,o8,m,rfl,u3,u4,u5,u6,u7,u8⟩:=z58 (P:=fun i s=> ∃(o1 o2 o3 o4 o5 o6 o7 o8:Option D) (n:Nat),s=⟨[some (.ro (ns.map .int)),o1,o2,o3,o4,o5,o6,o7,o8],[some (.ro (ns.map .int))],n⟩/\UpO n o3/\UpO n o4/\UpO n o5/\UpO n o6/\UpO n o7/\UpO n o8) (lo:=0) (N:=k.toNat) (g:= .nm 1) (b:=turnM) (by
  rintro i hi s ⟨o1,o2,o3,o4,o5,o6,o7,o8,n,rfl,u3,u4,u5,u6,u7,u8⟩
  refine⟨[some (.ro (ns.map .int)),some (.int i),o2,o3,o4,o5,o6,o7,o8],by simp only[Int.zero_add];rfl, ?_⟩
  obtain⟨n',p2,p3,p4,p5,p6,p7,p8,e,v3,v4,v5,v6,v7,v8⟩:=zeJ ns hl i (by lia) n o2 o3 o4 o5 o6 o7 o8 u3 u4 u5 u6 u7 u8
  exact⟨_,e,_,p2,p3,p4,p5,p6,p7,p8,n',rfl,v3,v4,v5,v6,v7,v8⟩) k.toNat 0 ⟨[some (.ro (ns.map .int)),none,none,none,none,none,none,none,none],[some (.ro (ns.map .int))],n⟩ (by lia) ⟨none,none,none,none,none,none,none,none,n,rfl, .no, .no, .no, .no, .no, .no⟩
 rw[e2]
 walk_at ""
 obtain⟨n3,g3,e3⟩:=z8J (Str.ofString "") (by decide) m
 obtain⟨n4,g4,e4⟩:=z8J (Str.ofString ";") (by rw[z5z];decide) (n3+1)
 rw[zhI (.inl (by
  rw[(sep1 59 _ z3J).1]
  exact z1X (by simp) (fun y hy=>by rw[List.mem_singleton.mp hy,sg_e];exact List.not_mem_nil) rfl))] at e3
 rw[zhI (.inr (by
  conv=>lhs;arg 2;rw[(sep1 59 _ z3J).1]
  exact z1X (by simp) (fun y hy=>by
   simp only[List.mem_cons,List.not_mem_nil,or_false,or_self] at hy
   rw[hy,sg_e];exact List.not_mem_nil) (by rw[z3J];rfl)))] at e4
 rw[e3]
 walk_at ""
 rw[show csD []=[] from rfl] at e4⊢
 rw[y_eq (by rfl)]
 have q1:PyData.eqv (er (.lst m [])) (er (.lst n3 []))=true:=rfl
 rw[q1]
 walk_at ""
 rw[e4]
 walk_at ""
 rw[y_eq (by rfl)]
 exact⟨_,rfl⟩
end My
set_option maxHeartbeats 4000000
namespace Mi
open PySem L2 PySem.Spec PyProof.Rows
noncomputable def zbc(K:W.Frag)(np:Nat)(f:FM):Sp:=fun vs H Q E=>vs.length=np/\∀G:Gx,G.K=K->KD K H->spM G np f vs H Q E
theorem zhK{P:Program}{w:World}{K:W.Frag}{mg:Str->Option Value}{base:Heap}{CX:CXT}{k:Nat}{fa:Addr}{fd:FuncData}{x:Str}{f:FM}{G:Gx}(hG:G.K=K)(F:FnOk P w K mg base CX k fa fd [x] (spM G 1 f)):FnOk P w K mg base CX k fa fd [x] (zbc K 1 f):=
 ⟨fun _ _ _ _ h=>h.1,fun A outer s H args us vs Q E hr e0 hb hv h=>F.run A outer s H args us vs Q E hr e0 hb hv (h.2 G hG fun a o e=>(e0.bs a o (e0.mod.kin a o e)).2)⟩
theorem RDs.ints{G:Gx}{ρ:Nat->Addr}{H:Hp}: ∀ns:List Int,RDs G ρ H (ns.map D.int) (ns.map V.int)
 |[]=>by simp only[List.map_nil,RDs]
 |n::ns=>by
  simp only[List.map_cons,RDs]
  exact⟨_,_,rfl,by simp only[RD],RDs.ints ns⟩
theorem z7k: ∀ns:List Int,labsL (ns.map D.int)=[]
 |[]=>by simp only[List.map_nil,labsL]
 |n::ns=>by simp only[List.map_cons,labsL,labs,z7k ns,List.nil_append]
theorem zhL{K:W.Frag}{H:Hp}{a:Addr}{ns:List Int}{f:FM}{E:XK}(e: ∀n,∃n',f [.ro (ns.map D.int)] n= .ok (.bool true) [.ro (ns.map D.int)] n')(hO:Only H)(hS:SqL K H a (ns.map V.int)):zbc K 1 f [.ref a] H (fun v _=>v= .bl true) E:=by
 refine⟨rfl,fun G hG kd=> ?_⟩
 subst hG
 refine⟨rfl,fun _=>a,0,[.ro (ns.map D.int)], ?_,fun i j hi=>absurd hi (Nat.not_lt_zero _),fun l hl=>absurd hl (Nat.not_lt_zero _),fun l hl=> ?_,kd, ?_⟩
 ·simp only[RDs,RD]
  refine⟨_,_,rfl,⟨a,ns.map V.int,rfl, ?_,RDs.ints ns⟩,rfl⟩
  rcases hS with(h|h)|h
  ·rcases hO a with z|⟨o,xs,z⟩<;>rw[h] at z<;>cases z
  ·exact .inl h
  ·exact .inr h
 ·simp only[labsL,labs,z7k,List.append_nil] at hl
  cases hl
 ·obtain⟨n',e⟩:=e 0
  rw[e]
  intro ρ' v H' _ rd _
  simp only[RD] at rd
  exact rd
end Mi
namespace My
open PySem L2 Mi
structure DA(K:W.Frag)(x:Str)(st:Stmt)(f:Addr)(d:FuncData):Prop where
 a:W.nsIn K mainGlobals x=some (some (.ref f))
 F:Fun K x x st f d
theorem zjH{K:W.Frag}{x:Str}{st:Stmt}{f:Addr}{oc:Value}{od an:Option Addr}{sl:Array (Option Value)}{kV dc pm cd ct:Value}(a:W.nsIn K mainGlobals x=some (some (.ref f)))
 (l:K.lookup f=some ⟨oc,od, .func (W.fnOf x x (z3w st) (z1C st) (z01 st) .none kV dc pm an cd ct),sl⟩) (c:W.codeIn K cd x=true) (k:W.keepIn K (.ref f)=true):
 DA K x st f (W.fnOf x x (z3w st) (z1C st) (z01 st) .none kV dc pm an cd ct):=⟨a,zfl l c k⟩
noncomputable def dx{K:W.Frag}{h:Heap}{mg:Str->Option Value}{x:Str}{st:Stmt}{f:Addr}{d:FuncData}{ps:List Str}(X:K.In h)(G:h.Ns mainGlobals mg)(a:DA K x st f d)
 (b: ∀(kV dc pm:Value) (an:Option Addr) (cd ct:Value) (us:List Value),us.length=ps.length->bindArgs (W.fnOf x x (z3w st) (z1C st) (z01 st) .none kV dc pm an cd ct) ⟨us,[]⟩=pure (ps.zip us)):Dx K mg x st ps:=
 ⟨f,d,a.F,a.F.binds b,W.mg_of X G a.a⟩
theorem zhM{l:W.OpenLaw}{w:World}{K:W.Frag}{h:Heap}{mg:Str->Option Value}{fa f0 f1 f2 f3 f4 f5 f6 f7 f8 f9 f10 f11 f12 f13 f14 f15 f16 f17 f18 f19 f20 f21 f22 f23 f24 f25 f26 f27 f28 f29 f30 f31:Addr}{d0 d1 d2 d3 d4 d5 d6 d7 d8 d9 d10 d11 d12 d13 d14 d15 d16 d17 d18 d19 d20 d21 d22 d23 d24 d25 d26 d27 d28 d29 d30 d31:FuncData}(X:K.In h)(G:h.Ns mainGlobals mg)(hfa:mg "law" =some (.ref fa))
 (a0:DA K "is_number" z2q f0 d0)
 (a1:DA K "is_whole" z2V f1 d1)
 (a2:DA K "is_row" z43 f2 d2)
 (a3:DA K "is_piece" z2W f3 d3)
 (a4:DA K "is_piece_signs" z0U f4 d4)
 (a5:DA K "has_piece_kinds" z0O f5 d5)
 (a6:DA K "is_way" z44 f6 d6)
 (a7:DA K "is_commit" z2r f7 d7)
 (a8:DA K "row_text" z2X f8 d8)
 (a9:DA K "dotted" z45 f9 d9)
 (a10:DA K "piece_text" z27 f10 d10)
 (a11:DA K "check_of" z2Y f11 d11)
 (a12:DA K "come_up" z3y f12 d12)
 (a13:DA K "commit_of" z2s f13 d13)
 (a14:DA K "read_piece" z28 f14 d14)
 (a15:DA K "read_dotted" z1F f15 d15)
 (a16:DA K "read_number" z1G f16 d16)
 (a17:DA K "_law_bag" z7z f17 d17)
 (a18:DA K "_law_take" z64 f18 d18)
 (a19:DA K "_law_numbers_of" z29 f19 d19)
 (a20:DA K "_law_commit" z46 f20 d20)
 (a21:DA K "_law_commits" z3z f21 d21)
 (a22:DA K "_law_dots" z65 f22 d22)
 (a23:DA K "_law_row" z7A f23 d23)
 (a24:DA K "_law_number" z47 f24 d24)
 (a25:DA K "_law_numbers" z3A f25 d25)
 (a26:DA K "_law_is_commit" z2t f26 d26)
 (a27:DA K "_law_commit_in" z2u f27 d27)
 (a28:DA K "_law_came" z66 f28 d28)
 (a29:DA K "_law_right" z4S f29 d29)
 (a30:DA K "_law_torn" z67 f30 d30)
 (a31:DA K "law" zdX f31 d31)
 (z0:W.nsIn K mainGlobals "abs" =some none)
 (z1:W.nsIn K mainGlobals "all" =some none)
 (z2:W.nsIn K mainGlobals "bool" =some none)
 {tk3:Nat} (z3:W.nsIn K mainGlobals "CHECK_DIVISOR" =some (some (.int 997 tk3)))
 {tk4:Nat} (z4:W.nsIn K mainGlobals "FIGURES" =some (some (.str ("0123456789" :Str) tk4)))
 {tk5:Nat} (z5:W.nsIn K mainGlobals "LAST_PIECE_COST" =some (some (.int 99999 tk5)))
 {tk6:Nat} (z6:W.nsIn K mainGlobals "LAST_PIECE_KIND" =some (some (.int 8 tk6)))
 {tk7:Nat} (z7:W.nsIn K mainGlobals "LAST_SIGN" =some (some (.int 1039 tk7)))
 {tk8:Nat} (z8:W.nsIn K mainGlobals "LAST_SOUND" =some (some (.int 39 tk8)))
 {tk9:Nat} (z9:W.nsIn K mainGlobals "MOST_FIGURES" =some (some (.int 5 tk9)))
 {tk10:Nat} (z10:W.nsIn K mainGlobals "MOST_PIECE_SIGNS" =some (some (.int 24 tk10)))
 {tk11:Nat} (z11:W.nsIn K mainGlobals "MOST_PLACES" =some (some (.int 24 tk11)))
 {tk12:Nat} (z12:W.nsIn K mainGlobals "MOST_ROWS" =some (some (.int 60 tk12)))
 (z13:W.nsIn K mainGlobals "enumerate" =some none)
 (z14:W.nsIn K mainGlobals "int" =some none)
 (z15:W.nsIn K mainGlobals "isinstance" =some none)
 (z16:W.nsIn K mainGlobals "len" =some none)
 (z17:W.nsIn K mainGlobals "list" =some none)
 (z18:W.nsIn K mainGlobals "max" =some none)
 (z19:W.nsIn K mainGlobals "min" =some none)
 (z20:W.nsIn K mainGlobals "range" =some none)
 (z21:W.nsIn K mainGlobals "str" =some none)
 (z22:W.nsIn K mainGlobals "sum" =some none)
 (z23:W.nsIn K mainGlobals "tuple" =some none)
 {kaD:Addr}
 (q1:nI K "NoText" kaD)
 (q2:xA K kaD)
 (q3:mO K kaD "object")
 (q4:mO K kaD "BaseException")
 (q5:fA K kaD)
 (q6:fB K kaD)
 (q7:fC K kaD)
 (q8:[kaD].Nodup)
 : ∃fd:FuncData,(∀(s:Shared) (v:Value),BindsTo s fd ⟨[v],[]⟩ [("_law_script",v)])/\∀base:Heap,K.In base->base.Ns mainGlobals mg->FnOk l.prog w K mg base CX0 11 fa fd ["_law_script"] (zbc K 1 f_law):=by
 have e:=hfa.symm.trans (W.mg_of X G a31.a)
 cases e
 obtain⟨oc,od,kV,doc,pm,an,cdv,ct,osl,rfl,lk,hcd⟩:=a31.F.ex
 exact⟨_,fun s v=> .of_eq rfl,fun base _ _=>zhK rfl (zgn ⟨dx X G a0 fun _ _ _ _ _ _ us hl=>match us,hl with|[_],_=>rfl,dx X G a1 fun _ _ _ _ _ _ us hl=>match us,hl with|[_,_,_],_=>rfl,dx X G a2 fun _ _ _ _ _ _ us hl=>match us,hl with|[_,_,_,_],_=>rfl,dx X G a3 fun _ _ _ _ _ _ us hl=>match us,hl with|[_,_,_],_=>rfl,dx X G a4 fun _ _ _ _ _ _ us hl=>match us,hl with|[_],_=>rfl,dx X G a5 fun _ _ _ _ _ _ us hl=>match us,hl with|[_],_=>rfl,dx X G a6 fun _ _ _ _ _ _ us hl=>match us,hl with|[_,_],_=>rfl,dx X G a7 fun _ _ _ _ _ _ us hl=>match us,hl with|[_],_=>rfl,dx X G a8 fun _ _ _ _ _ _ us hl=>match us,hl with|[_],_=>rfl,dx X G a9 fun _ _ _ _ _ _ us hl=>match us,hl with|[_],_=>rfl,dx X G a10 fun _ _ _ _ _ _ us hl=>match us,hl with|[_],_=>rfl,dx X G a11 fun _ _ _ _ _ _ us hl=>match us,hl with|[_],_=>rfl,dx X G a12 fun _ _ _ _ _ _ us hl=>match us,hl with|[_],_=>rfl,dx X G a13 fun _ _ _ _ _ _ us hl=>match us,hl with|[_],_=>rfl,dx X G a14 fun _ _ _ _ _ _ us hl=>match us,hl with|[_],_=>rfl,dx X G a15 fun _ _ _ _ _ _ us hl=>match us,hl with|[_],_=>rfl,dx X G a16 fun _ _ _ _ _ _ us hl=>match us,hl with|[_],_=>rfl,dx X G a17 fun _ _ _ _ _ _ us hl=>match us,hl with|[_,_],_=>rfl,dx X G a18 fun _ _ _ _ _ _ us hl=>match us,hl with|[_,_],_=>rfl,dx X G a19 fun _ _ _ _ _ _ us hl=>match us,hl with|[_,_,_],_=>rfl,dx X G a20 fun _ _ _ _ _ _ us hl=>match us,hl with|[_,_,_],_=>rfl,dx X G a21 fun _ _ _ _ _ _ us hl=>match us,hl with|[_],_=>rfl,dx X G a22 fun _ _ _ _ _ _ us hl=>match us,hl with|[_],_=>rfl,dx X G a23 fun _ _ _ _ _ _ us hl=>match us,hl with|[_],_=>rfl,dx X G a24 fun _ _ _ _ _ _ us hl=>match us,hl with|[_],_=>rfl,dx X G a25 fun _ _ _ _ _ _ us hl=>match us,hl with|[_],_=>rfl,dx X G a26 fun _ _ _ _ _ _ us hl=>match us,hl with|[_,_],_=>rfl,dx X G a27 fun _ _ _ _ _ _ us hl=>match us,hl with|[_],_=>rfl,dx X G a28 fun _ _ _ _ _ _ us hl=>match us,hl with|[_],_=>rfl,dx X G a29 fun _ _ _ _ _ _ us hl=>match us,hl with|[_],_=>rfl,dx X G a30 fun _ _ _ _ _ _ us hl=>match us,hl with|[_,_,_],_=>rfl,dx X G a31 fun _ _ _ _ _ _ us hl=>match us,hl with|[_],_=>rfl,W.mg_none_of X G z0,W.mg_none_of X G z1,W.mg_none_of X G z2,⟨_,W.mg_of X G z3⟩,⟨_,W.mg_of X G z4⟩,⟨_,W.mg_of X G z5⟩,⟨_,W.mg_of X G z6⟩,⟨_,W.mg_of X G z7⟩,⟨_,W.mg_of X G z8⟩,⟨_,W.mg_of X G z9⟩,⟨_,W.mg_of X G z10⟩,⟨_,W.mg_of X G z11⟩,⟨_,W.mg_of X G z12⟩,W.mg_none_of X G z13,W.mg_none_of X G z14,W.mg_none_of X G z15,W.mg_none_of X G z16,W.mg_none_of X G z17,W.mg_none_of X G z18,W.mg_none_of X G z19,W.mg_none_of X G z20,W.mg_none_of X G z21,W.mg_none_of X G z22,W.mg_none_of X G z23,kaD,W.mg_of X G q1,q2,q3,q4,q5,q6,q7,q8⟩)⟩
theorem walk{l:W.OpenLaw}{q:Program}{loose:List Str}{XP:(Str->Option Value)->Heap->Prop}{YP:World->Heap->Prop}{d:DefRec}{K:Params->W.Frag}(hn:l.most=some 63)(hdf:d.params.defaults=[])
 (hY: ∀(w:World) (h:Heap),YP w h->(K w.params).In h)
 (F: ∀(w:World) (mg:Str->Option Value) (fa:Addr) (h:Heap),(K w.params).In h->h.Ns mainGlobals mg->mg d.name=some (.ref fa)->
  ∃fd:FuncData,(∀(s:Shared) (u:Value),BindsTo s fd ⟨[u],[]⟩ [("_law_script",u)])/\∀base:Heap,(K w.params).In base->base.Ns mainGlobals mg->FnOk l.prog w (K w.params) mg base CX0 11 fa fd ["_law_script"] (zbc (K w.params) 1 f_law)):
 W.WalkO q loose XP YP l.row.toRowW d [] (fun f vs=>PySem.call f vs):=
 L2.zdt (n:=63) (k:=11) (x:= "_law_script") (CX:=fun _=>CX0) (sp:=fun w=>zbc (K w.params) 1 f_law) hn (by decide) hdf ⟨rfl,by decide,by decide,rfl⟩ hY F (fun _ _ a ns hl hO hS=>zhL (fun n=>zhJ ns (by lia) n) hO hS) fun _ _ _ _ _ h=>h.elim
end My
inductive PySem.W.Fast:Prop|tw16110803380043483738|tw8769547302508774538|tw17270316158910808226|tw6036817450376688487|tw7345496097979839783|tw17809363529672571112|tw15347508611304847953|tw22931636288774205|tw6120085278329588025|tw991171787969384753|tw8042123997190631418|tw18141801296166044926|tw4729394681078441445|tw9880189130308437533|tw2287410494738297709|tw3752454061475061104|tw15775105919370671437|tw15835639962789622466|tw2231014314334505460|tw531866574372803115|tw11750435743649231089|tw511729168160729230|tw16252415615505444878|tw13000708793663471393|tw16354156406186019097|tw666203582856032083|tw6331505024539252715|tw7643688752135835491|tw13214928651942694290|tw5826093081528336140|tw13654661539141451574|tw15161622379613403686|tw11107083504053459199|tw5355559050340326842|tw10113909227168429357|tw2920837922013375065|tw7667449960614541691|tw9466584773204693414|tw15674143404262333617|tw308955180683968499|tw6020381382825095211|tw12197974007567992097|tw15143482947659331485|tw7992749318149757060|tw16257591710414523553|tw350145241457381342|tw14462451466395722621|tw6622634878713006577|tw461700284751950345|tw14855734145585047230|tw15111413405639710493|tw6570605972248288052|tw4099715801665701572|tw4735245972467509590|tw10050148068270144556|tw1288378077663970153|tw13990418078254520703|tw14125348261475184183|tw9717584507691344320|tw15801754729433687981|tw18038254492450555381|tw17809013092883351264|tw15653642462633887678|tw2157511060655081646|tw7137918442134432185|tw2385088640152389853|tw11386486654167818874|tw4686827591239317403
open PySem PySem.W PyProof.Rows
set_option maxRecDepth 100000 in
set_option maxHeartbeats 0 in
theorem PySem.Challenge.cw_signbench_k58_journals_torn_holds : PySem.Challenge.rw_signbench_k58_journals_torn.Holds := by
 w_on;o_law;k_head;(case hw=>w_witness2)
 k_fill
 refine My.walk (l:=PySem.Challenge.rw_signbench_k58_journals_torn) rfl rfl (fun w h Y=>PySem.W.kIn_of Y) ?F
 case F=>
  intro w mg fa h KX G hmg
  apply My.zhM KX G hmg<;>(try delta My.nI My.kF My.kN My.kV My.fA My.fB My.fC My.xA My.mO My.eB)<;>first|(apply My.zjH<;>k_is)|k_is|kernel_rfl|rfl|decide
