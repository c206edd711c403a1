import PyProof.Rows.All
import Wide.All
import OpenK.AllK
import Wide.FinOn
import Lean
import PyProof.EqAt
import PyProof.EqKinds
import PyProof.TupleCall
import PyProof.CallStr
import PyProof.Draws
import PyProof.EnumMake
import PyProof.ListRange
import PyProof.P3Eq
import PyProof.Rows.CallKw2
import PyProof.Rows.CountFlat
import PyProof.Rows.Range3
import PyProof.Rows.ZipGen
import PyProof.SumAny
import PyProof.ZipIter
import PySem.Challenge.RW_signbench_k33_what_is_learnt
set_option Elab.async false
set_option linter.all false
set_option maxRecDepth 100000
namespace L2
open PySem PySem.Spec PyProof.Rows
noncomputable abbrev Key:=Sum Int Str
noncomputable def z5T:Key->Value->Bool
 | .inl k,v=>Value.isInt k v
 | .inr x,v=>Value.isStrOf x v
noncomputable def keyH(w:World):Key->Int
 | .inl k=>hashInt k
 | .inr x=>hashStr w x
theorem z0k: ∀{k:Key} {v:Value},z5T k v=true->(∃i t,k=Sum.inl i/\v=Value.int i t)\/(∃x t,k=Sum.inr x/\v=Value.str x t)
 | .inl i,v,h=>by
  obtain⟨t,e⟩:=Value.isInt_shape (k:=i) (v:=v) h
  exact .inl ⟨i,t,rfl,e⟩
 | .inr x,v,h=>by
  obtain⟨t,e⟩:=Value.isStrOf_shape (x:=x) (v:=v) h
  exact .inr ⟨x,t,rfl,e⟩
theorem z6v(i:Int)(t:Tok):z5T (.inl i) (.int i t)=true:=by simp[z5T,Value.isInt]
theorem z6w(x:Str)(t:Tok):z5T (.inr x) (.str x t)=true:=by simp[z5T,Value.isStrOf]
theorem zb5(a b:Int):decide ((Sum.inl a:Key)=Sum.inl b)=(a==b):=by
 by_cases e:a=b
 ·subst e;simp
 ·have h: ¬(Sum.inl a:Key)=Sum.inl b:=fun q=>e (Sum.inl.inj q)
  rw[decide_eq_false h]
  exact(beq_eq_false_iff_ne.mpr e).symm
theorem zb6(a b:Str):decide ((Sum.inr a:Key)=Sum.inr b)=decide (a=b):=by
 by_cases e:a=b
 ·subst e;simp
 ·have h: ¬(Sum.inr a:Key)=Sum.inr b:=fun q=>e (Sum.inr.inj q)
  rw[decide_eq_false h,decide_eq_false e]
theorem zb7(a:Int)(b:Str):decide ((Sum.inl a:Key)=Sum.inr b)=false:=decide_eq_false (fun q=>nomatch q)
theorem zb8(a:Str)(b:Int):decide ((Sum.inr a:Key)=Sum.inl b)=false:=decide_eq_false (fun q=>nomatch q)
noncomputable def z0f(prog:Program)(w:World):PySem.KeyKind prog w Key where
 is:=z5T
 hash:=keyH w
 inj:=fun v a b ha hb=>by
  rcases z0k ha with⟨i,t,rfl,rfl⟩|⟨x,t,rfl,rfl⟩
  ·rcases z0k hb with⟨j,u,rfl,e⟩|⟨y,u,rfl,e⟩
   ·injection e with e1 _;rw[e1]
   ·exact nomatch e
  ·rcases z0k hb with⟨j,u,rfl,e⟩|⟨y,u,rfl,e⟩
   ·exact nomatch e
   ·injection e with e1 _;rw[e1]
 byValue:=fun k v h=>by
  rcases z0k h with⟨i,t,rfl,rfl⟩|⟨x,t,rfl,rfl⟩<;>rfl
 pyHash:=fun hv h=>by
  rcases z0k hv with⟨i,t,rfl,rfl⟩|⟨x,t,rfl,rfl⟩
  ·exact wpAny_pyHash_int h
  ·exact wpAny_pyHash_str h
 eqBool:=fun hu hv h=>by
  rcases z0k hu with⟨i,t,rfl,rfl⟩|⟨x,t,rfl,rfl⟩
  ·rcases z0k hv with⟨j,u,rfl,rfl⟩|⟨y,u,rfl,rfl⟩
   ·rw[zb5] at h;exact wpAny_eqBool_int h
   ·rw[zb7] at h;exact SeqAt.EqAt.int_str i t y u _ _ _ _ h
  ·rcases z0k hv with⟨j,u,rfl,rfl⟩|⟨y,u,rfl,rfl⟩
   ·rw[zb8] at h;exact SeqAt.EqAt.str_int x t j u _ _ _ _ h
   ·rw[zb6] at h;exact wpAny_eqBool_str h
 «strs» :=fun k x t v h=>by
  rcases z0k h with⟨i,u,rfl,e⟩|⟨y,u,rfl,e⟩
  ·exact nomatch e
  ·injection e with e1 _
   subst e1
   cases v<;>rfl
theorem z4N(prog:Program)(w:World)(i:Int)(t:Tok):(z0f prog w).is (.inl i) (.int i t)=true:=z6v i t
theorem z4O(prog:Program)(w:World)(x:Str)(t:Tok):(z0f prog w).is (.inr x) (.str x t)=true:=z6w x t
inductive V where
 |non|bl (b:Bool)|int (i:Int)|str (x:Str)|byt (b:Array UInt8)|flt (b:UInt64)|ref (a:Addr)|ty (n:String)
 deriving DecidableEq
noncomputable def RelV:V->Value->Prop
 | .non,u=>u=Value.none
 | .bl b,u=>u=Value.bool b
 | .int i,u=> ∃t,u=Value.int i t
 | .str x,u=> ∃t,u=Value.str x t
 | .byt b,u=> ∃t,u=Value.bytes b t
 | .flt b,u=> ∃t,u=Value.float b t
 | .ref a,u=>u=Value.ref a
 | .ty n,u=>u=Value.type n
noncomputable abbrev Vals:List V->List Value->Prop:=Paired RelV
theorem Vals.length{xs:List V}{us:List Value}(r:Vals xs us):xs.length=us.length:=Paired.length r
theorem Vals.get: ∀{xs:List V} {us:List Value} {i:Nat} {x:V},Vals xs us->xs[i]? =some x->∃u,us[i]? =some u/\RelV x u
 |_,_,_,_, .nil,e=>by simp at e
 |_,_,0,_, .cons r _,e=>by simp at e;subst e;exact⟨_,rfl,r⟩
 |_,_,i+1,x, .cons _ t,e=>by
  obtain⟨u,h1,h2⟩:=Vals.get (i:=i) (x:=x) t (by simpa using e)
  exact⟨u,by simpa using h1,h2⟩
theorem Vals.set{x:V}{u:Value}(r:RelV x u): ∀{xs:List V} {us:List Value} (i:Nat),Vals xs us->Vals (xs.set i x) (us.set i u)
 |_,_,_, .nil=> .nil
 |_,_,0, .cons _ t=> .cons r t
 |_,_,i+1, .cons q t=> .cons q (Vals.set r i t)
theorem Vals.append: ∀{xs ys:List V} {us ws:List Value},Vals xs us->Vals ys ws->Vals (xs++ys) (us++ws)
 |_,_,_,_, .nil,s=>s
 |_,_,_,_, .cons r t,s=> .cons r (Vals.append t s)
theorem Vals.take: ∀{xs:List V} {us:List Value} (n:Nat),Vals xs us->Vals (xs.take n) (us.take n)
 |_,_,0,_=> .nil
 |_,_,_+1, .nil=> .nil
 |_,_,n+1, .cons r t=> .cons r (Vals.take n t)
theorem Vals.drop: ∀{xs:List V} {us:List Value} (n:Nat),Vals xs us->Vals (xs.drop n) (us.drop n)
 |_,_,0,r=>r
 |_,_,_+1, .nil=> .nil
 |_,_,n+1, .cons _ t=>Vals.drop n t
noncomputable def RelO:Option V->Option Value->Prop
 |some v,some u=>RelV v u
 |none,none=>True
 |_,_=>False
noncomputable def KV{κ:Type}:List (κ×V)->List (κ×Value)->Prop:=Paired fun(p:κ×V) (q:κ×Value)=>p.1=q.1/\RelV p.2 q.2
noncomputable def kV:Key->V
 | .inl i=> .int i
 | .inr x=> .str x
theorem Paired.mapP{α β:Type}{F G:α->β->Prop}: ∀{l₁:List α} {l₂:List β},Paired F l₁ l₂->(∀a b,F a b->G a b)->Paired G l₁ l₂
 |_,_, .nil,_=> .nil
 |_,_, .cons r t,f=> .cons (f _ _ r) (Paired.mapP t f)
noncomputable abbrev NK:=List (Key⊕List Key)
section
variable(P:Program)(w:World)
noncomputable def ItN(h:Heap):Key⊕List Key->Value->Prop
 | .inl k,v=>(z0f P w).is k v=true
 | .inr ks,v=> ∃c,v= .ref c/\IsTupleKey (z0f P w) h ks c
noncomputable def IsN(h:Heap)(k:NK)(a:Addr):Prop:= ∃o items n,h.get? a=some o/\o.cls= .type "tuple" /\o.data= .seq items n/\Paired (ItN P w h) k items.toList
noncomputable def hsN:Key⊕List Key->Int
 | .inl k=>(z0f P w).hash k
 | .inr ks=>tupleKeyHash (z0f P w) ks
noncomputable def drN:Key⊕List Key->Nat
 | .inl _=>1
 | .inr ks=>ks.length+1
end
section
variable{P:Program}{w:World}{h:Heap}
theorem z9y{x y:Key⊕List Key}{v:Value}(hx:ItN P w h x v)(hy:ItN P w h y v):x=y:=by
 cases x with
 |inl k=>
  cases y with
  |inl k'=>rw[(z0f P w).inj v k k' hx hy]
  |inr ks=>obtain⟨c,rfl,_⟩:=hy;have:=(z0f P w).byValue _ _ hx;simp[carriedByValue] at this
 |inr ks=>
  obtain⟨c,rfl,hc⟩:=hx
  cases y with
  |inl k'=>have:=(z0f P w).byValue _ _ hy;simp[carriedByValue] at this
  |inr ks'=>obtain⟨c',e,hc'⟩:=hy;cases e;rw[hc.inj hc']
theorem z3u: ∀{x y:NK} {vs:List Value},Paired (ItN P w h) x vs->Paired (ItN P w h) y vs->x=y
 |_,_,_, .nil, .nil=>rfl
 |_,_,_, .cons a b, .cons c d=>by rw[z9y a c,z3u b d]
variable{A:Around}{E:Value->Shared->Prop}{s:Shared}
theorem z40{M:Model}{a:Addr}{o:Obj}{items:Array Value}{n m:Nat}{Q:Bool->Shared->Prop}(ho:s.heap.get? a=some o)(hc:o.cls= .type "tuple")(hd:o.data= .seq items n)(hi: ∀v∈items.toList,∀(R:Bool->Shared->Prop) E,R true s->wpAny M A (eqIsQuiet m v) R E s)(q:Q true s):wpAny M A (eqIsQuiet (m+1) (.ref a)) Q E s:=by
 have hT:s.TypeIs (.ref a) "tuple" :=⟨o,ho,hc⟩
 rw[eqIsQuiet]
 refine wpAny_bind (wpAny_specialOf hT PySem.F.slot_tuple_eq.lookup ?_)
 dsimp only
 refine wpAny_bind (wpAny_isInstance hT isSubtype_tuple_tuple ?_)
 rw[if_neg (by decide)]
 refine wpAny_bind (wpAny_seqItems ho hd ?_)
 refine wpAny_bind ?_
 dsimp only[Option.getD_some]
 rw[<-Array.forIn_toList]
 refine wpAny_forIn_list _ (fun r b s'=>b.1=none/\s'=s/\∀v∈r,v∈items.toList) _ ?_ ?_ _ _ ⟨rfl,rfl,fun v hv=>hv⟩
 ·rintro v r b s' ⟨_,rfl,hm⟩
  refine wpAny_bind (hi v (hm v List.mem_cons_self) _ _ ?_)
  rw[if_neg (by decide)]
  exact wpAny_pure ⟨rfl,rfl,fun u hu=>hm u (List.mem_cons_of_mem _ hu)⟩
 ·rintro ⟨b1,b2⟩ s' ⟨hb,rfl,_⟩
  dsimp only at hb
  subst hb
  exact wpAny_pure q
theorem z41{P':Program}{w':World}: ∀{ks:List Key} {vs:List Value},ItemsAre (z0f P w) ks vs->ItemsAre (z0f P' w') ks vs
 |_,_, .nil=> .nil
 |_,_, .cons a b=> .cons a (z41 b)
theorem z6x{P':Program}{w':World}{ks:List Key}{c:Addr}(hk:IsTupleKey (z0f P w) h ks c):IsTupleKey (z0f P' w') h ks c:=by
 obtain⟨o,items,n,h1,h2,h3,h4⟩:=hk
 exact⟨o,items,n,h1,h2,h3,z41 h4⟩
theorem zb9{x y:Key⊕List Key}{u v:Value}(hu:A.units<cLine)(hx:ItN P w s.heap x u)(hy:ItN P w s.heap y v):SeqAt.EqAt A s u v (decide (x=y)):=fun prog w' E Q q=>by
 cases x with
 |inl k=>
  cases y with
  |inl k'=>exact(z0f prog w').eqBool (a:=k) (b:=k') hx hy (by rw[show decide (k=k')=decide ((Sum.inl k:Key⊕List Key)=Sum.inl k') by by_cases e:k=k'<;>simp[e]];exact q)
  |inr ks=>
   obtain⟨c,rfl,o,items,n,h1,h2,h3,_⟩:=hy
   rw[decide_eq_false (fun e=>nomatch e)] at q
   rcases z0k hx with⟨i,t,rfl,rfl⟩|⟨z,t,rfl,rfl⟩
   ·exact SeqAt.EqAt.int_tuple i t ⟨o,h1,h2,n,h3⟩ hu prog w' E Q q
   ·exact SeqAt.EqAt.str_tuple z t ⟨o,h1,h2,n,h3⟩ hu prog w' E Q q
 |inr ks=>
  obtain⟨c,rfl,hc⟩:=hx
  cases y with
  |inl k'=>
   obtain⟨o,items,n,h1,h2,h3,_⟩:=hc
   rw[decide_eq_false (fun e=>nomatch e)] at q
   rcases z0k hy with⟨i,t,rfl,rfl⟩|⟨z,t,rfl,rfl⟩
   ·exact SeqAt.EqAt.tuple_int i t ⟨o,h1,h2,n,h3⟩ hu prog w' E Q q
   ·exact SeqAt.EqAt.tuple_str z t ⟨o,h1,h2,n,h3⟩ hu prog w' E Q q
  |inr ks'=>
   obtain⟨c',rfl,hc'⟩:=hy
   refine wpAny_eqBool_tuple (knd:=z0f prog w') hu (z6x hc) (z6x hc') ?_
   rw[show decide (ks=ks')=decide ((Sum.inr ks:Key⊕List Key)=Sum.inr ks') by by_cases e:ks=ks'<;>simp[e]];exact q
theorem rows_eq{α:Type}[DecidableEq α](x y:List α):((List.range (min x.length y.length)).all (fun j=>decide (x[j]? =y[j]?))&&x.length==y.length)=decide (x=y):=by
 rw[Bool.eq_iff_iff]
 simp only[Bool.and_eq_true,List.all_eq_true,List.mem_range,decide_eq_true_eq,beq_iff_eq]
 constructor
 ·rintro ⟨h1,h2⟩
  apply List.ext_getElem?
  intro j
  by_cases hj:j<x.length
  ·exact h1 j (by lia)
  ·rw[List.getElem?_eq_none (by lia),List.getElem?_eq_none (by lia)]
 ·rintro rfl;exact⟨fun _ _=>rfl,rfl⟩
theorem Paired.get2{α β:Type}{F:α->β->Prop}: ∀{l:List α} {m:List β},Paired F l m->∀j (h1:j<l.length) (h2:j<m.length),F l[j] m[j]
 |_,_, .cons a b,0,_,_=>a
 |_,_, .cons a b,j+1,h1,h2=>Paired.get2 b j (by simpa using h1) (by simpa using h2)
theorem zba{x y:NK}{a b:Addr}{Q:Bool->Shared->Prop}(hu:A.units+1<cLine)(hx:IsN P w s.heap x a)(hy:IsN P w s.heap y b)(q:Q (decide (x=y)) s):wpAny (model P w) A (eqBool (.ref a) (.ref b)) Q E s:=by
 by_cases e:a=b
 ·subst e
  obtain⟨o,items,n,h1,h2,h3,h4⟩:=hx
  obtain⟨o',items',n',k1,k2,k3,k4⟩:=hy
  obtain rfl:o=o':=Option.some.inj (h1.symm.trans k1)
  rw[h3] at k3
  injection k3 with k3 _
  subst k3
  obtain rfl:=z3u h4 k4
  exact SeqAt.EqAt.same _ P w E Q (by simpa using q)
 ·obtain⟨o,items,n,h1,h2,h3,h4⟩:=hx
  obtain⟨o',items',n',k1,k2,k3,k4⟩:=hy
  have l1:x.length=items.size:=by have:=Paired.length h4;simpa using this
  have l2:y.length=items'.size:=by have:=Paired.length k4;simpa using this
  refine SeqAt.EqAt.of_refs e (SeqAt.RcAt.tuples (e:=fun j=>decide (x[j]? =y[j]?)) ⟨o,h1,h2,n,h3⟩ ⟨o',k1,k2,n',k3⟩ (by lia) fun j j1 j2=> ?_) P w E Q ?_
  ·have:=zb9 (A:=A.in1) (show A.units+1<cLine from hu) (Paired.get2 h4 j (by lia) (by simpa using j1)) (Paired.get2 k4 j (by lia) (by simpa using j2))
   rw[List.getElem?_eq_getElem (by lia),List.getElem?_eq_getElem (by lia)]
   simpa using this
  ·rw[<-l1,<-l2,rows_eq];exact q
theorem z81{k:Key⊕List Key}{v:Value}{Q:Int->Shared->Prop}(hu:A.units<cLine)(hk:ItN P w s.heap k v)(q:Q (hsN P w k) {s with toks:=s.toks+drN k}):wpAny (model P w) A (pyHash v) Q E s:=by
 cases k with
 |inl k=>exact(z0f P w).pyHash hk q
 |inr ks=>obtain⟨c,rfl,hc⟩:=hk;exact wpAny_pyHash_tuple hu hc q
theorem z82{k:NK}{a:Addr}{Q:Int->Shared->Prop}(hu:A.units+1<cLine)(hk:IsN P w s.heap k a)(q:Q (reduceHash (Builtin.Tuple.tupleHashOf (k.map (hsN P w)))) {s with toks:=s.toks+((k.map drN).sum+1)}):wpAny (model P w) A (pyHash (.ref a)) Q E s:=by
 obtain⟨o,items,n,ho,hc,hd,hi⟩:=hk
 have hT:s.TypeIs (.ref a) "tuple" :=⟨o,ho,hc⟩
 unfold pyHash
 unfold pyHashByItsType
 refine wpAny_bind (wpAny_cRoomFor_or (.inr (by lia)) ?_)
 refine wpAny_bind (wpAny_specialOf hT PySem.F.slot_tuple_hash.lookup ?_)
 rw[if_neg (show ¬(some (Value.builtin "tuple.__hash__")==some Value.none)=true by rw[beq_builtin_none];decide)]
 refine wpAny_bind (wpAny_specialOf hT PySem.F.slot_tuple_hash.lookup ?_)
 refine wpAny_bind (wpAny_callSpecialIfBoundUnlessNone?_slot hT PySem.F.slot_tuple_hash (wpAny_call_entry PySem.F.slot_tuple_hash hT PySem.F.entry_tuple_hash ?_ (PySem.F.args_tuple_hash_1 _)))
 change wpAny _ A.in1 (Builtin.Tuple.tupleItemsOf (Value.ref a)>>=_) _ _ s
 refine wpAny_bind (wpAny_tupleItemsOf ho hd (wpAny_bind ?_))
 rw[<-Array.forIn_toList]
 refine wpAny_forIn_list _ (fun r (b:Array Int) s'=> ∃d l,k=d++l/\Paired (ItN P w s.heap) l r/\b.toList=d.map (hsN P w)/\s'={s with toks:=s.toks+(d.map drN).sum}) _ ?_ ?_ _ _ ⟨[],k,rfl,hi,rfl,rfl⟩
 ·rintro x r b s' ⟨d,l,rfl,hl,hb,rfl⟩
  cases hl with
  | @cons z _ l' _ h1 hl'=>
   refine wpAny_bind (z81 (A:=A.in1) (s:={s with toks:=s.toks+(d.map drN).sum}) (show A.units+1<cLine from hu) h1 ?_)
   have fin: ∃d' l2,d++z::l'=d'++l2/\Paired (ItN P w s.heap) l2 r/\(b.push (hsN P w z)).toList=d'.map (hsN P w)/\({s with toks:=s.toks+(d.map drN).sum+drN z}:Shared)={s with toks:=s.toks+(d'.map drN).sum}:=⟨d++[z],l',by simp,hl',by simp[hb],by simp[Nat.add_assoc]⟩
   exact wpAny_pure fin
 ·rintro b s' ⟨d,l,rfl,hl,hb,rfl⟩
  cases hl
  rw[List.append_nil] at q
  change wpAny _ A.in1 (retInt (Builtin.Tuple.tupleHashOf b.toList)) _ _ _
  rw[hb]
  refine wpAny_ret_mkInt ?_
  unfold reduceHash at q
  show wpAny _ _ (if(decide (-(2:Int)^63<=Builtin.Tuple.tupleHashOf (d.map (hsN P w)))&&decide (Builtin.Tuple.tupleHashOf (d.map (hsN P w))<2^63))=true then _ else _) Q E _
  split
  ·rename_i hr
   rw[if_pos hr] at q
   exact wpAny_pure (by simpa[Nat.add_assoc] using q)
  ·rename_i hr
   rw[if_neg hr] at q
   exact wpAny_bind (wpAny_rule (wpAny_pure (by simpa[Nat.add_assoc] using q)))
theorem z6y{k:NK}{a:Addr}{Q:Bool->Shared->Prop}(hk:IsN P w s.heap k a)(q:Q true s):wpAny (model P w) A (eqIsQuiet 8 (.ref a)) Q E s:=by
 obtain⟨o,items,n,h1,h2,h3,h4⟩:=hk
 refine z40 h1 h2 h3 (fun v hv R E' r=> ?_) q
 have all: ∀{k:NK} {vs:List Value},Paired (ItN P w s.heap) k vs->∀v∈vs,∃z,ItN P w s.heap z v:=by
  intro k vs p
  induction p with
  |nil=>intro v hv;cases hv
  |cons a b ih=>
   intro v hv
   rcases List.mem_cons.mp hv with rfl|hv
   ·exact⟨_,a⟩
   ·exact ih v hv
 obtain⟨z,hz⟩:=all h4 v hv
 cases z with
 |inl k=>rw[eqIsQuiet_byValue _ ((z0f P w).byValue _ _ hz)];exact wpAny_pure r
 |inr ks=>
  obtain⟨c,rfl,o,items,n,h1,h2,h3,h4⟩:=hz
  exact z40 h1 h2 h3 (fun v hv R E' r=>by rw[eqIsQuiet_byValue _ (h4.byValue v hv)];exact wpAny_pure r) r
theorem z6z{h':Heap}{d:Addr}{o:Obj}{es:Array DictEntry}{ep:Nat}(ho:h.get? d=some o)(hd:o.data= .dict es ep)(hs:Heap.SameBut d h h'): ∀{k:NK} {vs:List Value},Paired (ItN P w h) k vs->Paired (ItN P w h') k vs:=fun p=>Paired.mapP p fun z v q=>by
 cases z with
 |inl k=>exact q
 |inr ks=>obtain⟨c,rfl,hc⟩:=q;exact⟨c,rfl,hc.keeps ho hd hs⟩
end
noncomputable def z1b(P:Program)(w:World):HeapKind P w NK where
 is:=IsN P w
 hash:=fun k=>reduceHash (Builtin.Tuple.tupleHashOf (k.map (hsN P w)))
 draws:=fun k=>(k.map drN).sum+1
 room:=fun A=>A.units+1<cLine
 inj:=fun⟨o,items,n,h1,_,h3,h4⟩ ⟨o',items',n',k1,_,k3,k4⟩=>by
  obtain rfl:o=o':=Option.some.inj (h1.symm.trans k1)
  rw[h3] at k3
  injection k3 with k3 _
  subst k3
  exact z3u h4 k4
 keeps:=fun{h h' k a d o es ep} ⟨o',items,n,h1,h2,h3,h4⟩ ho hd hs=>by
  have hne:a≠d:=by
   rintro rfl
   obtain rfl:o'=o:=Option.some.inj (h1.symm.trans ho)
   rw[hd] at h3;cases h3
  exact⟨o',items,n,(hs.2 a hne).trans h1,h2,h3,z6z ho hd hs h4⟩
 pyHash:=fun hu hk q=>z82 hu hk q
 eqBool:=fun hu hx hy q=>zba hu hx hy q
 quiet:=fun hk q=>z6y hk q
theorem z1K{P:Program}{w:World}{A:Around}(hu:A.units+2<cLine):(z1b P w).room A.in1:=hu
inductive HO where
 |lst (xs:List V)
 |tup (xs:List V)
 |dK (kvs:List (Key×V))|dT (kvs:List (NK×V))
 |set (S:Int->Bool) (n:Nat)
 |ins (C dx:Addr) (fs:List (Str×V))
 |own (x:Addr)
 |xd (fs:List (Str×V))
 |met (f x:Addr)
 |rng (lo hi:Int)
 |frz (o:Obj) (u:HO)
 |tbl (ps:Array Value)
 |ext (φ:Heap->Prop)
noncomputable abbrev Hp:=Addr->Option HO
noncomputable def upd(H:Hp)(a:Addr)(o:HO):Hp:=fun b=>if b=a then some o else H b
theorem z04{H:Hp}{a:Addr}{o:HO}:upd H a o a=some o:=by unfold upd;rw[if_pos rfl]
theorem z02{H:Hp}{a b:Addr}{o:HO}(h:b≠a):upd H a o b=H b:=by unfold upd;rw[if_neg h]
theorem z2f{H:Hp}{a b:Addr}{o u:HO}(h:H a=some o)(h':H b=some u)(d:o≠u):a≠b:=by
 intro e;subst e;rw[h] at h';exact d (Option.some.inj h')
theorem z0w{H:Hp}{a b:Addr}{o:HO}(h:H a=some o)(h':H b=none):a≠b:=by
 intro e;subst e;rw[h] at h';cases h'
noncomputable def TKi(H:Hp):Key⊕List Key->V->Prop
 | .inl k,x=>x=kV k
 | .inr ks,x=> ∃c,x= .ref c/\H c=some (.tup (ks.map kV))
noncomputable def TK(H:Hp)(k:NK)(b:Addr):Prop:= ∃xs,H b=some (.tup xs)/\Paired (TKi H) k xs
theorem TK.stay{H H':Hp}{k:NK}{b:Addr}(ht: ∀b xs,H b=some (.tup xs)->H' b=some (.tup xs))(h:TK H k b):TK H' k b:=by
 obtain⟨xs,h1,h2⟩:=h
 refine⟨xs,ht _ _ h1,Paired.mapP h2 fun z x q=> ?_⟩
 cases z with
 |inl k=>exact q
 |inr ks=>obtain⟨c,e,q⟩:=q;exact⟨c,e,ht _ _ q⟩
section
variable(P:Program)(w:World)
noncomputable def z0Y(H:Hp)(h:Heap)(a:Addr):HO->Prop
 | .lst xs=>xs.length<=sizeLine/\∃(its:List Value) (n:Nat),Vals xs its/\h.get? a=some {cls:= .type "list",data:= .seq its.toArray n}
 | .tup xs=>xs.length<=sizeLine/\∃its:List Value,Vals xs its/\IsTup h a its.toArray
 | .dK kvs=>kvs.length<=sizeLine/\(a==sysModules)=false/\∃vs,KV kvs vs/\h.DictOf (z0f P w) a vs
 | .dT kvs=>kvs.length<=sizeLine/\(a==sysModules)=false/\∃xs:List (NK×Addr×Value),
  Paired (fun(p:NK×V) (q:NK×Addr×Value)=>p.1=q.1/\TK H p.1 q.2.1/\RelV p.2 q.2.2) kvs xs/\
  ∃o es ep,h.get? a=some o/\o.ExactDict/\o.data= .dict es ep/\es.toList=xs.map (entryOfKey (z1b P w))/\(xs.map (·.1)).Nodup
 | .set S n=>h.SetOf (intKind P w) a S n
 | .ins C dx fs=>H dx=some (.own a)/\fs.length<=1000/\dx≠a/\h.get? a=some (W.instObj C dx)/\
  ∃mA,h.Ns1 dx mA/\(∀f,RelO (fs.lookup f) (mA f))/\PySem.Within mA (fs.map (·.1))
 | .own _=> ∃o,h.get? a=some o
 | .xd fs=> ∃mA,h.Ns1 a mA/\∀f,RelO (fs.lookup f) (mA f)
 | .rng lo hi=> ∃t u v,h.get? a=some {cls:= .type "range",data:= .fields #[.int lo t, .int hi u, .int 1 v]}
 | .frz o u=>h.get? a=some o/\z0Y H h a u
 | .tbl ps=>h.get? a=some {cls:= .none,data:= .fields ps}
 | .met f x=>h.get? a=some (W.methodObj (.ref f) (.ref x))
 | .ext φ=>φ h/\(∃o,h.get? a=some o)/\∀h1 h2:Heap,φ h1->(∀o,h1.get? a=some o->h2.get? a=some o)->φ h2
noncomputable def HOk(H:Hp)(h:Heap):Prop:= ∀a o,H a=some o->z0Y P w H h a o
end
section
variable{P:Program}{w:World}{H H':Hp}{h h':Heap}{a:Addr}{o:HO}
theorem z0Y.lt(x:z0Y P w H h a o):a<h.objs.size:=by
 cases o with
 |lst xs=>obtain⟨_,_,_,_,e⟩:=x;exact Heap.lt_size e
 |tup xs=>obtain⟨_,_,_,p⟩:=x;exact p.lt
 |dK kvs=>obtain⟨_,_,_,_,o,_,_,e,_⟩:=x;exact Heap.lt_size e
 |dT kvs=>obtain⟨_,_,_,_,o,_,_,e,_⟩:=x;exact Heap.lt_size e
 |set S n=>obtain⟨o,_,_,_,e,_⟩:=x;exact Heap.lt_size e
 |ins C dx fs=>obtain⟨_,_,_,e,_⟩:=x;exact Heap.lt_size e
 |own y=>obtain⟨_,e⟩:=x;exact Heap.lt_size e
 |xd fs=>obtain⟨_,⟨_,_,_,e,_⟩,_⟩:=x;exact Heap.lt_size e
 |rng lo hi=>obtain⟨_,_,_,e⟩:=x;exact Heap.lt_size e
 |frz ob u=>obtain⟨e,_⟩:=x;exact Heap.lt_size e
 |tbl ps=>exact Heap.lt_size (show h.get? a=some _ from x)
 |met f y=>exact Heap.lt_size (show h.get? a=some _ from x)
 |ext φ=>obtain⟨_,⟨_,e⟩,_⟩:=x;exact Heap.lt_size e
theorem z0Y.stay(x:z0Y P w H h a o)(k: ∀b u,(b=a\/H b=some (.own a))->h.get? b=some u->h'.get? b=some u)
 (ho: ∀b,H b=some (.own a)->H' b=some (.own a)) (ht: ∀b xs,H b=some (.tup xs)->H' b=some (.tup xs)):z0Y P w H' h' a o:=by
 induction o with
 |lst xs=>obtain⟨z,its,n,r,e⟩:=x;exact⟨z,its,n,r,k _ _ (.inl rfl) e⟩
 |tup xs=>obtain⟨z,its,r,ob,e,c⟩:=x;exact⟨z,its,r,ob,k _ _ (.inl rfl) e,c⟩
 |dK kvs=>obtain⟨z,y,vs,r,ob,es,ep,e,c⟩:=x;exact⟨z,y,vs,r,ob,es,ep,k _ _ (.inl rfl) e,c⟩
 |dT kvs=>
  obtain⟨z,y,xs,r,ob,es,ep,e,c⟩:=x
  exact⟨z,y,xs,Paired.mapP r fun p q z=>⟨z.1,z.2.1.stay ht,z.2.2⟩,ob,es,ep,k _ _ (.inl rfl) e,c⟩
 |set S n=>obtain⟨ob,es,ep,t,e,c⟩:=x;exact⟨ob,es,ep,t,k _ _ (.inl rfl) e,c⟩
 |ins C dx fs=>
  obtain⟨d,z,ne,e,mA,⟨od,es,ep,e2,c⟩,r⟩:=x
  exact⟨ho _ d,z,ne,k _ _ (.inl rfl) e,mA,⟨od,es,ep,k _ _ (.inr d) e2,c⟩,r⟩
 |own y=>obtain⟨ob,e⟩:=x;exact⟨ob,k _ _ (.inl rfl) e⟩
 |xd fs=>obtain⟨mA,⟨od,es,ep,e,c⟩,r⟩:=x;exact⟨mA,⟨od,es,ep,k _ _ (.inl rfl) e,c⟩,r⟩
 |rng lo hi=>obtain⟨t,u,v,e⟩:=x;exact⟨t,u,v,k _ _ (.inl rfl) e⟩
 |frz ob u ih=>obtain⟨e,q⟩:=x;exact⟨k _ _ (.inl rfl) e,ih q⟩
 |tbl ps=>
  have e:h.get? a=some {cls:= .none,data:= .fields ps}:=x
  show h'.get? a=some {cls:= .none,data:= .fields ps}
  exact k a _ (.inl rfl) e
 |met f y=>
  have e:h.get? a=some (W.methodObj (.ref f) (.ref y)):=x
  show h'.get? a=some (W.methodObj (.ref f) (.ref y))
  exact k a _ (.inl rfl) e
 |ext φ=>obtain⟨p,⟨o,e⟩,st⟩:=x;exact⟨st _ _ p fun o q=>k _ _ (.inl rfl) q,⟨o,k _ _ (.inl rfl) e⟩,st⟩
theorem HOk.lt(x:HOk P w H h)(e:H a=some o):a<h.objs.size:=(x a o e).lt
theorem HOk.fresh(x:HOk P w H h)(e:h.objs.size<=a):H a=none:=by
 cases q:H a with
 |none=>rfl
 |some u=>exact absurd (Nat.lt_of_lt_of_le (x.lt q) e) (Nat.lt_irrefl _)
theorem HOk.kept(x:HOk P w H h)(k: ∀b u,h.get? b=some u->h'.get? b=some u):HOk P w H h':=fun a o e=>
 (x a o e).stay (fun b u _ q=>k b u q) (fun _ q=>q) fun _ _ q=>q
theorem HOk.laid(x:HOk P w H h)(k: ∀b u,h.get? b=some u->h'.get? b=some u)(hp:h.objs.size<=a)(new:z0Y P w (upd H a o) h' a o):HOk P w (upd H a o) h':=fun b u e=>by
 have hn:=x.fresh hp
 by_cases hb:b=a
 ·subst hb;rw[z04] at e;cases e;exact new
 ·rw[z02 hb] at e
  exact(x b u e).stay (fun c v _ q=>k c v q) (fun c q=>by rw[z02 (z0w q hn)];exact q) fun c xs q=>by rw[z02 (z0w q hn)];exact q
end
noncomputable def Rd(H:Hp)(a:Addr)(u:HO):Prop:=H a=some u\/∃o,H a=some (.frz o u)
theorem Rd.ok{P:Program}{w:World}{H:Hp}{h:Heap}{a:Addr}{u:HO}(r:Rd H a u)(x:HOk P w H h):z0Y P w H h a u:=by
 rcases r with r|⟨o,r⟩
 ·exact x a u r
 ·obtain⟨_,q⟩:=x a _ r
  exact q
noncomputable def Mut:Option HO->Prop
 |some (.lst _)=>True
 |some (.dK _)=>True
 |some (.dT _)=>True
 |some (.set _ _)=>True
 |some (.ins _ _ _)=>True
 |some (.ext _)=>True
 |_=>False
section
variable{P:Program}{w:World}{H:Hp}{h h':Heap}{x e:Addr}{o':HO}
theorem HOk.write(ok:HOk P w H h)(mu:Mut (H x))(he:e=x\/H e=some (.own x))(k: ∀b u,b≠e->h.get? b=some u->h'.get? b=some u)(heo: ∃u,h'.get? e=some u)
 (new:z0Y P w (upd H x o') h' x o'):HOk P w (upd H x o') h':=fun b u q=>by
 have nown: ∀c y,H c=some (.own y)->c≠x:=fun c y r z=>by subst z;rw[r] at mu;exact mu
 have ntup: ∀c xs,H c=some (.tup xs)->c≠x:=fun c xs r z=>by subst z;rw[r] at mu;exact mu
 by_cases hb:b=x
 ·subst hb;rw[z04] at q;cases q;exact new
 ·rw[z02 hb] at q
  by_cases hbe:b=e
  ·have q':H b=some (.own x):=by
    rcases he with z|z
    ·exact absurd (hbe.trans z) hb
    ·rw[hbe];exact z
   rw[q] at q';cases q'
   obtain⟨v,hv⟩:=heo
   exact⟨v,by rw[hbe];exact hv⟩
  ·refine(ok b u q).stay (fun c v hc r=>k c v ?_ r) (fun c r=>by rw[z02 (nown c b r)];exact r) fun c xs r=>by rw[z02 (ntup c xs r)];exact r
   rcases hc with rfl|hc
   ·exact hbe
   ·rintro rfl
    rcases he with z|z
    ·exact nown c b hc z
    ·rw[hc] at z;cases z;exact hb rfl
end
structure Un(fs ex:List Addr)(H H':Hp)(h h':Heap):Prop where
 keep: ∀b o,h.get? b=some o->H b=none->b∉fs->b∉ex->h'.get? b=some o
 slot: ∀b o,h.get? b=some o->H b=none->b∈fs->b∉ex->∃sl,h'.get? b=some {o with slots:=sl}
 free: ∀b o,h.get? b=some o->H b=none->b∉ex->H' b=none
 there: ∀b o,h.get? b=some o->b∉ex->∃o',h'.get? b=some o'
 tups: ∀b xs,H b=some (.tup xs)->H' b=some (.tup xs)
 frzs: ∀b o u,H b=some (.frz o u)->H' b=some (.frz o u)
 tbls: ∀b ps,H b=some (.tbl ps)->∃more,H' b=some (.tbl (ps++more))
section
variable{fs fs' ex ex':List Addr}{H H1 H2:Hp}{h h1 h2 h':Heap}{a x e:Addr}{o:HO}
theorem Un.any(u:Un fs ex H H1 h h1){b:Addr}{ob:Obj}(q:h.get? b=some ob)(n:H b=none)(hx:b∉ex): ∃sl,h1.get? b=some {ob with slots:=sl}:=by
 by_cases hb:b∈fs
 ·exact u.slot b ob q n hb hx
 ·exact⟨ob.slots,u.keep b ob q n hb hx⟩
theorem Un.kept(k: ∀b u,h.get? b=some u->h'.get? b=some u):Un fs ex H H h h':=
 ⟨fun b ob q _ _ _=>k b ob q,fun b ob q _ _ _=>⟨ob.slots,k b ob q⟩,fun _ _ _ n _=>n,fun b ob q _=>⟨ob,k b ob q⟩,fun _ _ q=>q,fun _ _ _ q=>q,fun _ ps q=>⟨#[],by rw[q];simp⟩⟩
theorem Un.refl:Un fs ex H H h h:=Un.kept fun _ _ q=>q
theorem Un.laid(k: ∀b u,h.get? b=some u->h'.get? b=some u)(hp:h.objs.size<=a)(hn:H a=none):Un fs ex H (upd H a o) h h' where
 keep:=fun b u q _ _ _=>k b u q
 slot:=fun b u q _ _ _=>⟨u.slots,k b u q⟩
 free:=fun b u q n _=>by rw[z02 (Nat.ne_of_lt (Nat.lt_of_lt_of_le (Heap.lt_size q) hp))];exact n
 there:=fun b u q _=>⟨u,k b u q⟩
 tups:=fun b xs q=>by rw[z02 (z0w q hn)];exact q
 frzs:=fun b u xs q=>by rw[z02 (z0w q hn)];exact q
 tbls:=fun b ps q=>⟨#[],by rw[z02 (z0w q hn),q];simp⟩
theorem Un.write(mu:Mut (H x))(he:e=x\/H e=some (.own x))(k: ∀b u,b≠e->h.get? b=some u->h'.get? b=some u)(heo: ∃u,h'.get? e=some u):Un fs ex H (upd H x o) h h':=by
 have hx: ∀b,H b=none->b≠x:=fun b n z=>by subst z;rw[n] at mu;exact mu
 have hb: ∀b,H b=none->b≠e:=fun b n z=>by
  subst z
  rcases he with r|r
  ·exact hx b n r
  ·rw[n] at r;cases r
 have hm: ∀b u,H b=some u->¬Mut (some u)->b≠x:=fun b u q nm z=>by subst z;rw[q] at mu;exact nm mu
 refine⟨fun b u q n _ _=>k b u (hb b n) q,fun b u q n _ _=>⟨u.slots,k b u (hb b n) q⟩,fun b u q n _=>by rw[z02 (hx b n)];exact n,fun b u q _=> ?_,
  fun b xs q=>by rw[z02 (hm b _ q fun z=>z)];exact q,fun b u xs q=>by rw[z02 (hm b _ q fun z=>z)];exact q,fun b ps q=>⟨#[],by rw[z02 (hm b _ q fun z=>z),q];simp⟩⟩
 by_cases hbe:b=e
 ·subst hbe;exact heo
 ·exact⟨u,k b u hbe q⟩
end
noncomputable def trk(h:Heap)(H:Hp):List Addr:=(List.range h.objs.size).filter fun a=>(H a).isSome
noncomputable def hidT(h:Heap)(H:Hp):Heap:=W.hideAll h (trk h H)
theorem z6A(h:Heap)(H:Hp):(hidT h H).objs.size=h.objs.size:=W.hideAll_size _ _
theorem z83{h:Heap}{H:Hp}{b:Addr}{o:Obj}(e:h.get? b=some o)(n:H b=none):(hidT h H).get? b=some o:=
 W.hideAll_get _ e fun hm=>by
  have q:(H b).isSome=true:=(List.mem_filter.mp hm).2
  rw[n] at q;simp at q
theorem z9z{h:Heap}{H:Hp}{b:Addr}{o:Obj}(e:(hidT h H).get? b=some o):h.get? b=some o/\H b=none:=by
 have e':h.get? b=some o:=W.of_hideAll (trk h H) e
 refine⟨e', ?_⟩
 cases q:H b with
 |none=>rfl
 |some x=>
  have hm:b∈trk h H:=List.mem_filter.mpr ⟨List.mem_range.mpr (Heap.lt_size e'),by simp[q]⟩
  have z:(hidT h H).get? b=none:=W.hideAll_none (trk h H) hm
  rw[z] at e;cases e
noncomputable def z9A(g h:Heap)(L:Addr):List (Addr×Obj):=(List.range h.objs.size).filterMap fun a=>if a=L\/(g.get? a).isSome=true then none else(h.get? a).map fun o=>(a,o)
noncomputable def rest(g h:Heap)(L d:Addr):List (Addr×Obj):=(z9A g h L).filter fun p=>decide (p.1≠d)
structure Mod(K:W.Frag)(mg:Str->Option Value)(base:Heap):Prop where
 kin:K.In base
 glob:base.Ns mainGlobals mg
 blt: ∃mb,base.Ns builtinsNs mb/\∀x:Str,x≠ "__name__" ->mb x=bootBuiltins x
 nolimit:base.NoLimit
structure Cx where
 prog:Program
 w:World
 K:W.Frag
 mg:Str->Option Value
 base:Heap
 A:Around
 N:List Str
 s₀:Shared
 H₀:Hp
 env:Env
 outer:List Env
 stack:List Env
 ex:List Addr
 fn:Str->Bool
 calm:Bool
 pn:List (Addr×Obj)
 xe:Value->Shared->Prop
noncomputable def frs(l:List Env):List Addr:=l.filterMap (·.frame)
noncomputable abbrev Cx.fs(X:Cx):List Addr:=frs X.outer
noncomputable def Vis(sc:Scope)(x:Str):Prop:=sc.names.lookup x=some .local\/sc.names.lookup x=some .cell\/sc.names.lookup x=some .free
noncomputable def Loc(sc:Scope)(x:Str):Prop:=sc.names.lookup x=some .local\/sc.names.lookup x=some .cell
noncomputable def Look(env:Env)(h:Heap)(m:Str->Option Value)(x:Str)(u:Value):Prop:=
 (env.kindOf x=some .local/\m x=some u)\/((env.kindOf x=some .cell\/env.kindOf x=some .free)/\∃c,env.cells.lookup x=some c/\h.IsCell c (some u))
structure Cx.Ok(X:Cx):Prop where
 mod:Mod X.K X.mg X.base
 kind:X.env.scope.kind= .function
 glob:X.env.globals=mainGlobals
 blt:X.env.builtins=builtinsNs
 above:X.s₀.heap.objs.size<=X.env.locals
 inj: ∀x y c,X.env.cells.lookup x=some c->X.env.cells.lookup y=some c->x=y
 has: ∀x,(X.env.kindOf x=some .cell\/X.env.kindOf x=some .free)->∃c,X.env.cells.lookup x=some c
 cab: ∀x c,X.fn x=true->X.env.cells.lookup x=some c->X.s₀.heap.objs.size<=c
 hd:X.calm=true->X.A.handled=none
 frames:X.A.frames=some X.stack
 stk:X.stack=X.outer\/(X.stack=X.env::X.outer/\X.env.frame=some X.env.locals)
 exf: ∀b∈X.ex,b≠X.env.locals/\∀x c,X.env.cells.lookup x=some c->c≠b
 bs: ∀b o,X.base.get? b=some o->X.s₀.heap.get? b=some o/\X.H₀ b=none
 bsz:X.base.objs.size<=X.s₀.heap.objs.size
 noex: ∀b o,X.base.get? b=some o->b∉X.ex
 exfs: ∀b∈X.ex,b∉X.fs
 funs:X.s₀.heap.FunFrames X.base X.outer
 frf: ∀b∈X.fs,X.H₀ b=none
structure Inv(X:Cx)(pins:List (Addr×Obj))(σ:List (Option V))(H:Hp)(s:Shared):Prop where
 ok:X.Ok
 os:s.os=X.s₀.os
 bare:AllBare s.gens
 base:Un X.fs X.ex X.H₀ H X.s₀.heap s.heap
 loc: ∃m,s.heap.Ns X.env.locals m/\∀(i:Nat) (x:Str) (v:V),X.N[i]? =some x->σ[i]? =some (some v)->Vis X.env.scope x->∃u,RelV v u/\Look X.env s.heap m x u
 cell: ∀x c,X.env.cells.lookup x=some c->∃v,s.heap.IsCell c v
 free:H X.env.locals=none
 freeC: ∀x c,X.env.cells.lookup x=some c->H c=none
 pin: ∀p∈X.pn++pins,s.heap.get? p.1=some p.2/\H p.1=none/\p.1≠X.env.locals/\p.1∉X.fs/\∀v,p.2.data≠ .cell v
 hok:HOk X.prog X.w H s.heap
 len:σ.length=X.N.length
section
variable{X:Cx}{pins:List (Addr×Obj)}{σ:List (Option V)}{H H':Hp}{s:Shared}{h':Heap}
theorem Cx.Ok.nofr(ok:X.Ok){b:Addr}{o:Obj}(e:X.base.get? b=some o):b∉X.fs:=fun hb=>by
 have:=(ok.funs.mem hb).1
 rw[e] at this;cases this
theorem Inv.bs(I:Inv X pins σ H s): ∀b o,X.base.get? b=some o->s.heap.get? b=some o/\H b=none:=fun b o e=>
 ⟨I.base.keep b o (I.ok.bs b o e).1 (I.ok.bs b o e).2 (I.ok.nofr e) (I.ok.noex b o e),I.base.free b o (I.ok.bs b o e).1 (I.ok.bs b o e).2 (I.ok.noex b o e)⟩
theorem Inv.bk(I:Inv X pins σ H s): ∀b o,X.base.get? b=some o->s.heap.get? b=some o:=fun b o e=>(I.bs b o e).1
theorem Inv.mod(I:Inv X pins σ H s):Mod X.K X.mg X.base:=I.ok.mod
theorem Inv.kIn(I:Inv X pins σ H s):X.K.In s.heap:=I.ok.mod.kin.keeps I.bk
theorem Inv.lt(I:Inv X pins σ H s):X.env.locals<s.heap.objs.size:=let⟨_,hn,_⟩:=I.loc;hn.lt
theorem Inv.sz(I:Inv X pins σ H s):X.s₀.heap.objs.size<=s.heap.objs.size:=Nat.le_trans I.ok.above (Nat.le_of_lt I.lt)
theorem Inv.nofs(I:Inv X pins σ H s){a:Addr}(h:s.heap.objs.size<=a):a∉X.fs:=fun hb=>by
 obtain⟨_,o,ho,_⟩:=I.ok.funs.mem hb
 exact absurd (Nat.lt_of_lt_of_le (Heap.lt_size ho) (Nat.le_trans I.sz h)) (Nat.lt_irrefl _)
theorem Inv.cne(I:Inv X pins σ H s): ∀x c,X.env.cells.lookup x=some c->c≠X.env.locals:=fun x c e z=>by
 obtain⟨v,o,ho,hd⟩:=I.cell x c e
 obtain⟨m,⟨o',es,ep,ho',hd',_⟩,_⟩:=I.loc
 rw[z,ho'] at ho;cases ho;rw[hd'] at hd;cases hd
theorem Inv.funs(I:Inv X pins σ H s):s.heap.FunFrames X.base X.outer:=by
 have all: ∀(l:List Env),(∀b∈frs l,b∈X.fs)->X.s₀.heap.FunFrames X.base l->s.heap.FunFrames X.base l:=by
  intro l
  induction l with
  |nil=>intro _ _;trivial
  |cons env r ih=>
   intro hs hl
   obtain⟨hk,⟨L,o,hf,hn,ho,hd⟩,hr⟩:=hl
   have hL:L∈X.fs:=hs L (by unfold frs;rw[List.filterMap_cons,hf];exact List.mem_cons_self)
   obtain⟨sl,e⟩:=I.base.slot L o ho (I.ok.frf L hL) hL fun z=>I.ok.exfs L z hL
   exact⟨hk,⟨L,_,hf,hn,e,hd⟩,ih (fun b hb=>hs b (by unfold frs;rw[List.filterMap_cons,hf];exact List.mem_cons_of_mem _ hb)) hr⟩
 exact all X.outer (fun _ hb=>hb) I.ok.funs
theorem Inv.stack(I:Inv X pins σ H s):s.heap.FunFrames X.base X.stack:=by
 rcases I.ok.stk with e|⟨e,hf⟩
 ·rw[e];exact I.funs
 ·rw[e]
  obtain⟨m,hn,_⟩:=I.loc
  refine .cons (by rw[I.ok.kind];decide) hf hn ?_ I.funs
  exact Heap.get?_none_of_le (Nat.le_trans I.ok.bsz I.ok.above)
theorem Inv.stkSub(I:Inv X pins σ H s): ∀b∈frs X.stack,b∈X.env.locals::X.fs:=fun b hb=>by
 rcases I.ok.stk with e|⟨e,hf⟩
 ·rw[e] at hb;exact List.mem_cons_of_mem _ hb
 ·rw[e] at hb
  unfold frs at hb
  rw[List.filterMap_cons,hf] at hb
  exact hb
theorem Inv.stkFree(I:Inv X pins σ H s): ∀b∈frs X.stack,H b=none:=fun b hb=>by
 rcases List.mem_cons.mp (I.stkSub b hb) with e|hb
 ·rw[e];exact I.free
 ·obtain⟨_,o,ho,_⟩:=I.ok.funs.mem hb
  exact I.base.free b o ho (I.ok.frf b hb) fun z=>I.ok.exfs b z hb
theorem Inv.step{g':Array GenState}{t':Nat}{d':Drawn}{ch:List Addr}(I:Inv X pins σ H s)
 (hch: ∀b∈ch,(b∈X.ex\/X.s₀.heap.objs.size<=b)/\b≠X.env.locals/\(∀x c,X.env.cells.lookup x=some c->c≠b)/\∀p∈X.pn++pins,p.1≠b)
 (keep: ∀b o,b≠X.env.locals->b∉X.fs->b∉ch->s.heap.get? b=some o->H b=none->h'.get? b=some o)
 (slot: ∀b o,b≠X.env.locals->b∈X.fs->b∉ch->s.heap.get? b=some o->H b=none->∃sl,h'.get? b=some {o with slots:=sl}) (free: ∀b o,b∉ch->s.heap.get? b=some o->H b=none->H' b=none)
 (there: ∀b o,b∉ch->s.heap.get? b=some o->∃o',h'.get? b=some o')
 (tups: ∀b xs,H b=some (.tup xs)->H' b=some (.tup xs)) (frzs: ∀b o u,H b=some (.frz o u)->H' b=some (.frz o u)) (tbls: ∀b ps,H b=some (.tbl ps)->∃more,H' b=some (.tbl (ps++more)))
 (ns: ∀m,s.heap.Ns X.env.locals m->h'.Ns X.env.locals m) (hok:HOk X.prog X.w H' h') (hg:AllBare g'):
 Inv X pins σ H' {s with heap:=h',gens:=g',drawn:=d',toks:=t'}:=by
 have neL: ∀b o,X.s₀.heap.get? b=some o->b≠X.env.locals:=fun b o e=>Nat.ne_of_lt (Nat.lt_of_lt_of_le (Heap.lt_size e) I.ok.above)
 have neC: ∀b o,X.s₀.heap.get? b=some o->b∉X.ex->b∉ch:=fun b o e hx hb=>by
  rcases(hch b hb).1 with z|z
  ·exact hx z
  ·exact absurd (Nat.lt_of_lt_of_le (Heap.lt_size e) z) (Nat.lt_irrefl _)
 have cellK: ∀x c,X.env.cells.lookup x=some c->∀v,s.heap.IsCell c v->h'.IsCell c v:=fun x c e v ⟨o,ho,hd⟩=>by
  have nch:c∉ch:=fun z=>(hch c z).2.2.1 x c e rfl
  by_cases hc:c∈X.fs
  ·obtain⟨sl,q⟩:=slot c o (I.cne x c e) hc nch ho (I.freeC x c e)
   exact⟨_,q,hd⟩
  ·exact⟨o,keep c o (I.cne x c e) hc nch ho (I.freeC x c e),hd⟩
 refine⟨I.ok,I.os,hg,⟨fun b o e n hb hx=> ?_,fun b o e n hb hx=> ?_,fun b o e n hx=> ?_,fun b o e hx=> ?_,fun b xs e=>tups b xs (I.base.tups b xs e),fun b o xs e=>frzs b o xs (I.base.frzs b o xs e),fun b ps e=> ?_⟩, ?_,fun x c e=> ?_, ?_,fun x c e=> ?_,fun p hp=> ?_,hok,I.len⟩
 ·exact keep b o (neL b o e) hb (neC b o e hx) (I.base.keep b o e n hb hx) (I.base.free b o e n hx)
 ·obtain⟨sl,e1⟩:=I.base.slot b o e n hb hx
  obtain⟨sl',e2⟩:=slot b _ (neL b o e) hb (neC b o e hx) e1 (I.base.free b o e n hx)
  exact⟨sl',e2⟩
 ·obtain⟨o',e1⟩:=I.base.there b o e hx
  exact free b o' (neC b o e hx) e1 (I.base.free b o e n hx)
 ·obtain⟨o',e1⟩:=I.base.there b o e hx
  exact there b o' (neC b o e hx) e1
 ·obtain⟨m1,e1⟩:=I.base.tbls b ps e
  obtain⟨m2,e2⟩:=tbls b _ e1
  exact⟨m1++m2,by rw[e2,Array.append_assoc]⟩
 ·obtain⟨m,hn,hl⟩:=I.loc
  refine⟨m,ns m hn,fun i x v e1 e2 e3=> ?_⟩
  obtain⟨u,r,l⟩:=hl i x v e1 e2 e3
  refine⟨u,r, ?_⟩
  rcases l with l|⟨k,c,e,z⟩
  ·exact .inl l
  ·exact .inr ⟨k,c,e,cellK x c e _ z⟩
 ·obtain⟨v,z⟩:=I.cell x c e
  exact⟨v,cellK x c e v z⟩
 ·obtain⟨m,⟨o,_,_,ho,_⟩,_⟩:=I.loc
  exact free _ o (fun z=>(hch _ z).2.1 rfl) ho I.free
 ·obtain⟨v,o,ho,hd⟩:=I.cell x c e
  exact free c o (fun z=>(hch c z).2.2.1 x c e rfl) ho (I.freeC x c e)
 ·obtain⟨e,n,ne,nf,d⟩:=I.pin p hp
  have nch:p.1∉ch:=fun z=>(hch p.1 z).2.2.2 p hp rfl
  exact⟨keep p.1 p.2 ne nf nch e n,free p.1 p.2 nch e n,ne,nf,d⟩
theorem Inv.un{t':Nat}(I:Inv X pins σ H s)(u:Un X.fs [] H H' s.heap h')(hok:HOk X.prog X.w H' h'):Inv X pins σ H' {s with heap:=h',toks:=t'}:=by
 obtain⟨m,⟨o,es,ep,ho,r⟩,_⟩:=id I.loc
 obtain⟨sl,hL⟩:=u.any ho I.free (by simp)
 exact I.step (g':=s.gens) (d':=s.drawn) (ch:=[]) (fun _ z=>nomatch z) (fun b o _ hb _ e n=>u.keep b o e n hb (by simp)) (fun b o _ hb _ e n=>u.slot b o e n hb (by simp)) (fun b o _ e n=>u.free b o e n (by simp)) (fun b o _ e=>u.there b o e (by simp)) u.tups u.frzs u.tbls (fun m' hm=>by
  obtain⟨o',es',ep',ho',r'⟩:=hm
  rw[ho] at ho';cases ho'
  exact⟨_,es',ep',hL,r'⟩) hok I.bare
theorem Inv.call{g':Array GenState}{t':Nat}{d':Drawn}{ch:List Addr}(I:Inv X pins σ H s)(u:Un (frs X.stack) ch H H' s.heap h')(hok:HOk X.prog X.w H' h')(hg:AllBare g')
 (hch: ∀b∈ch,(b∈X.ex\/X.s₀.heap.objs.size<=b)/\b≠X.env.locals/\(∀x c,X.env.cells.lookup x=some c->c≠b)/\∀p∈X.pn++pins,p.1≠b):
 Inv X pins σ H' {s with heap:=h',gens:=g',drawn:=d',toks:=t'}:=by
 obtain⟨m,⟨o,es,ep,ho,r⟩,_⟩:=id I.loc
 obtain⟨sl,hL⟩:=u.any ho I.free fun z=>(hch _ z).2.1 rfl
 exact I.step (ch:=ch) hch (fun b o hL hb hc e n=>u.keep b o e n (fun z=>(List.mem_cons.mp (I.stkSub b z)).elim hL hb) hc) (fun b o _ _ hc e n=>u.any e n hc) (fun b o hc e n=>u.free b o e n hc) (fun b o hc e=>u.there b o e hc) u.tups u.frzs u.tbls (fun m' hm=>by
  obtain⟨o',es',ep',ho',r'⟩:=hm
  rw[ho] at ho';cases ho'
  exact⟨_,es',ep',hL,r'⟩) hok hg
theorem Inv.turned{t':Nat}{it:Addr}(I:Inv X pins σ H s)(k: ∀b o,b≠it->s.heap.get? b=some o->h'.get? b=some o)(hn:H it=none)(hL:it≠X.env.locals)
 (h1:it∈X.ex\/X.s₀.heap.objs.size<=it) (h2: ∀x c,X.env.cells.lookup x=some c->c≠it) (h3: ∀p∈X.pn++pins,p.1≠it):Inv X pins σ H {s with heap:=h',toks:=t'}:=by
 have nit: ∀b u,H b=some u->b≠it:=fun b u e z=>by rw[z,hn] at e;cases e
 refine I.step (g':=s.gens) (d':=s.drawn) (ch:=[it]) (fun b hb=> ?_) (fun b o _ _ hc e _=>k b o (fun z=>hc (by simp[z])) e) (fun b o _ _ hc e _=>⟨o.slots,k b o (fun z=>hc (by simp[z])) e⟩) (fun _ _ _ _ n=>n)
  (fun b o hc e=>⟨o,k b o (fun z=>hc (by simp[z])) e⟩) (fun _ _ e=>e) (fun _ _ _ e=>e) (fun b ps e=>⟨#[],by rw[e];simp⟩) (fun m hm=> ?_) (fun b u e=> ?_) I.bare
 ·have e:b=it:=by simpa using hb
  subst e
  exact⟨h1,hL,h2,h3⟩
 ·obtain⟨o,es,ep,ho,r⟩:=hm
  exact⟨o,es,ep,k _ o (Ne.symm hL) ho,r⟩
 ·refine(I.hok b u e).stay (fun c v hc q=>k c v ?_ q) (fun _ q=>q) fun _ _ q=>q
  rcases hc with z|z
  ·rw[z];exact nit b u e
  ·exact nit c _ z
theorem Inv.tok(I:Inv X pins σ H s)(t:Nat):Inv X pins σ H {s with toks:=t}:=I.un (h':=s.heap) (t':=t) Un.refl I.hok
theorem Inv.kept{t':Nat}(I:Inv X pins σ H s)(k: ∀b u,s.heap.get? b=some u->h'.get? b=some u):Inv X pins σ H {s with heap:=h',toks:=t'}:=I.un (Un.kept k) (I.hok.kept k)
theorem Inv.laid{a:Addr}{o:HO}{t':Nat}(I:Inv X pins σ H s)(k: ∀b u,s.heap.get? b=some u->h'.get? b=some u)(hp:s.heap.objs.size<=a)(new:z0Y X.prog X.w (upd H a o) h' a o):
 Inv X pins σ (upd H a o) {s with heap:=h',toks:=t'}:=I.un (Un.laid k hp (I.hok.fresh hp)) (I.hok.laid k hp new)
theorem Inv.write{x e:Addr}{o:HO}{t':Nat}(I:Inv X pins σ H s)(mu:Mut (H x))(he:e=x\/H e=some (.own x))(k: ∀b u,b≠e->s.heap.get? b=some u->h'.get? b=some u)(heo: ∃u,h'.get? e=some u)
 (new:z0Y X.prog X.w (upd H x o) h' x o):Inv X pins σ (upd H x o) {s with heap:=h',toks:=t'}:=I.un (Un.write mu he k heo) (I.hok.write mu he k heo new)
theorem Inv.pins_of{pins':List (Addr×Obj)}(I:Inv X pins σ H s)(h: ∀p∈pins',s.heap.get? p.1=some p.2/\H p.1=none/\p.1≠X.env.locals/\p.1∉X.fs/\∀v,p.2.data≠ .cell v):Inv X pins' σ H s:=
 ⟨I.ok,I.os,I.bare,I.base,I.loc,I.cell,I.free,I.freeC,fun p hp=>(List.mem_append.mp hp).elim (fun z=>I.pin p (List.mem_append_left _ z)) (h p),I.hok,I.len⟩
theorem z5o{N:List Str}(hN:N.Nodup){i j:Nat}{x:Str}(a:N[i]? =some x)(b:N[j]? =some x):i=j:=by
 obtain⟨h1,e1⟩:=List.getElem?_eq_some_iff.mp a
 obtain⟨h2,e2⟩:=List.getElem?_eq_some_iff.mp b
 exact(List.getElem_inj hN).mp (e1.trans e2.symm)
theorem z6B{M:Model}{A:Around}{E:Value->Shared->Prop}{i:Nat}{x:Str}{v:V}{u:Value}{Q:Unit->Shared->Prop}(I:Inv X pins σ H s)(hN:X.N.Nodup)(hi:X.N[i]? =some x)(hx:Loc X.env.scope x)(r:RelV v u)
 (h: ∀s',Inv X pins (σ.set i (some v)) H s'->(∃a,Heap.SameBut a s.heap s'.heap/\(a=X.env.locals\/X.env.cells.lookup x=some a))->Q () s') (hf:X.fn x=true\/X.env.scope.names.lookup x=some .local:=by first|exact .inl rfl|exact .inr rfl|assumption):wpAny M A (storeName X.env x u) Q E s:=by
 obtain⟨m,hn,hl⟩:=id I.loc
 have hcls:(X.env.scope.kind== .class||(X.env.scope.kind== .module&&X.env.locals !=X.env.globals))=false:=by rw[I.ok.kind];rfl
 have hiσ:i<σ.length:=by rw[I.len];exact(List.getElem?_eq_some_iff.mp hi).1
 have cne:=I.cne
 have tracked: ∀{a:Addr} {h':Heap},(∃o,s.heap.get? a=some o/\H a=none)->Heap.SameBut a s.heap h'->HOk X.prog X.w H h':=fun{a h'} ha hs b ob e=>by
  obtain⟨_,_,hfree⟩:=ha
  refine(I.hok b ob e).stay (fun c w' hc q=>(hs.2 c ?_).trans q) (fun _ q=>q) fun _ _ q=>q
  rintro rfl
  rcases hc with rfl|hc
  ·rw[hfree] at e;cases e
  ·rw[hfree] at hc;cases hc
 rcases hx with hk|hk
 ·refine wpAny_storeName_local hk hn (fun h' hn' hs=> ?_) hcls
  obtain⟨oL,_,_,hoL,_⟩:=id hn
  refine h _ ⟨I.ok,I.os,I.bare,⟨fun b o e n hb hx=> ?_,fun b o e n hb hx=> ?_,I.base.free,fun b o e hx=> ?_,I.base.tups,I.base.frzs,I.base.tbls⟩,⟨_,hn',fun j y v' e1 e2 e3=> ?_⟩,fun y c e=> ?_,I.free,I.freeC,fun p hp=> ?_,tracked ⟨oL,hoL,I.free⟩ hs,by simpa using I.len⟩ ⟨_,hs, .inl rfl⟩
  ·exact(hs.2 b (Nat.ne_of_lt (Nat.lt_of_lt_of_le (Heap.lt_size e) I.ok.above))).trans (I.base.keep b o e n hb hx)
  ·obtain⟨sl,e1⟩:=I.base.slot b o e n hb hx
   exact⟨sl,(hs.2 b (Nat.ne_of_lt (Nat.lt_of_lt_of_le (Heap.lt_size e) I.ok.above))).trans e1⟩
  ·obtain⟨o',e1⟩:=I.base.there b o e hx
   exact⟨o',(hs.2 b (Nat.ne_of_lt (Nat.lt_of_lt_of_le (Heap.lt_size e) I.ok.above))).trans e1⟩
  ·by_cases hj:j=i
   ·subst hj
    rw[hi] at e1;cases e1
    rw[List.getElem?_set_self hiσ] at e2
    cases e2
    exact⟨u,r, .inl ⟨hk,by simp⟩⟩
   ·rw[List.getElem?_set_ne (Ne.symm hj)] at e2
    obtain⟨u',r',q⟩:=hl j y v' e1 e2 e3
    refine⟨u',r', ?_⟩
    rcases q with⟨k,e⟩|⟨k,c,e,z⟩
    ·refine .inl ⟨k, ?_⟩
     have:y≠x:=fun e=>hj (z5o hN e1 (e▸hi))
     simp[this,e]
    ·exact .inr ⟨k,c,e,z.sameBut hs (cne y c e)⟩
  ·obtain⟨w',z⟩:=I.cell y c e
   exact⟨w',z.sameBut hs (cne y c e)⟩
  ·obtain⟨e,n,ne,nf,d⟩:=I.pin p hp
   exact⟨(hs.2 p.1 ne).trans e,n,ne,nf,d⟩
 ·have hfn:X.fn x=true:=by
   rcases hf with z|z
   ·exact z
   ·rw[z] at hk;cases hk
  obtain⟨c,hc⟩:=I.ok.has x (.inl hk)
  obtain⟨w',z⟩:=I.cell x c hc
  refine wpAny_storeName_cell I.ok.kind hk hc z (fun h' hc' hs=> ?_)
  obtain⟨oc,hoc,hocd⟩:=id z
  refine h {s with heap:=h'} ⟨I.ok,I.os,I.bare,⟨fun b o e n hb hx=> ?_,fun b o e n hb hx=> ?_,I.base.free,fun b o e hx=> ?_,I.base.tups,I.base.frzs,I.base.tbls⟩,⟨m,hn.sameBut hs (Ne.symm (cne x c hc)),fun j y v' e1 e2 e3=> ?_⟩,fun y c' e=> ?_,I.free,I.freeC,fun p hp=> ?_,tracked ⟨oc,hoc,I.freeC x c hc⟩ hs,by simpa using I.len⟩ ⟨c,hs, .inr hc⟩
  ·exact(hs.2 b (Nat.ne_of_lt (Nat.lt_of_lt_of_le (Heap.lt_size e) (I.ok.cab x c hfn hc)))).trans (I.base.keep b o e n hb hx)
  ·obtain⟨sl,e1⟩:=I.base.slot b o e n hb hx
   exact⟨sl,(hs.2 b (Nat.ne_of_lt (Nat.lt_of_lt_of_le (Heap.lt_size e) (I.ok.cab x c hfn hc)))).trans e1⟩
  ·obtain⟨o',e1⟩:=I.base.there b o e hx
   exact⟨o',(hs.2 b (Nat.ne_of_lt (Nat.lt_of_lt_of_le (Heap.lt_size e) (I.ok.cab x c hfn hc)))).trans e1⟩
  ·by_cases hj:j=i
   ·subst hj
    rw[hi] at e1;cases e1
    rw[List.getElem?_set_self hiσ] at e2
    cases e2
    exact⟨u,r, .inr ⟨.inl hk,c,hc,hc'⟩⟩
   ·rw[List.getElem?_set_ne (Ne.symm hj)] at e2
    obtain⟨u',r',q⟩:=hl j y v' e1 e2 e3
    refine⟨u',r', ?_⟩
    rcases q with q|⟨k,c',e,z'⟩
    ·exact .inl q
    ·refine .inr ⟨k,c',e,z'.sameBut hs ?_⟩
     rintro rfl
     exact hj (z5o hN e1 (I.ok.inj _ _ _ e hc▸hi))
  ·by_cases hcc:c'=c
   ·subst hcc;exact⟨_,hc'⟩
   ·obtain⟨w2,z2⟩:=I.cell y c' e
    exact⟨w2,z2.sameBut hs hcc⟩
  ·obtain⟨e,n,ne,nf,d⟩:=I.pin p hp
   refine⟨(hs.2 p.1 ?_).trans e,n,ne,nf,d⟩
   intro q
   rw[q,hoc] at e
   have q':oc=p.2:=Option.some.inj e
   exact d w' (by rw[<-q'];exact hocd)
theorem z5p{M:Model}{A:Around}{E:Value->Shared->Prop}{i:Nat}{x:Str}{v:V}{u:Value}{Q:Unit->Shared->Prop}(I:Inv X pins σ H s)(hN:X.N.Nodup)(hi:X.N[i]? =some x)(hx:Loc X.env.scope x)(r:RelV v u)
 (h: ∀s',Inv X pins (σ.set i (some v)) H s'->Q () s') (hf:X.fn x=true\/X.env.scope.names.lookup x=some .local:=by first|exact .inl rfl|exact .inr rfl|assumption):wpAny M A (storeName X.env x u) Q E s:=
 z6B I hN hi hx r (fun s' I' _=>h s' I') hf
theorem Inv.call'{s':Shared}{ch:List Addr}(I:Inv X pins σ H s)(ho:s'.os=s.os)(u:Un (frs X.stack) ch H H' s.heap s'.heap)(hok:HOk X.prog X.w H' s'.heap)(hg:AllBare s'.gens)
 (hch: ∀b∈ch,(b∈X.ex\/X.s₀.heap.objs.size<=b)/\b≠X.env.locals/\(∀x c,X.env.cells.lookup x=some c->c≠b)/\∀p∈X.pn++pins,p.1≠b):Inv X pins σ H' s':=by
 obtain⟨h',g',d',t',o'⟩:=s'
 have e:o'=s.os:=ho
 subst e
 exact I.call (g':=g') (t':=t') (d':=d') u hok hg hch
end
noncomputable abbrev XK:=Value->Option Addr->Hp->Prop
noncomputable abbrev St:=List (Option V)
noncomputable abbrev VK:=V->Hp->Prop
noncomputable abbrev TE:=St->Hp->VK->Prop
noncomputable abbrev TT:=St->Hp->(Bool->Hp->Prop)->Prop
noncomputable abbrev TA:=St->Hp->(List V->Hp->Prop)->Prop
structure Ends where
 nx:St->Hp->Prop
 rt:VK
 bk:St->Hp->Prop:=fun _ _=>False
 ct:St->Hp->Prop:=fun _ _=>False
noncomputable abbrev TS:=Ends->St->Hp->Prop
noncomputable def EP(X:Cx)(pins:List (Addr×Obj))(σ:St)(Q:VK)(u:Value)(s':Shared):Prop:= ∃v H',Inv X pins σ H' s'/\RelV v u/\Q v H'
noncomputable def TP(X:Cx)(pins:List (Addr×Obj))(σ:St)(Q:Bool->Hp->Prop)(b:Bool)(s':Shared):Prop:= ∃H',Inv X pins σ H' s'/\Q b H'
noncomputable def AP(X:Cx)(pins:List (Addr×Obj))(σ:St)(Q:List V->Hp->Prop)(us:List Value)(s':Shared):Prop:= ∃vs H',Inv X pins σ H' s'/\Vals vs us/\Q vs H'
noncomputable def SP(X:Cx)(pins:List (Addr×Obj))(D:Ends)(f:Flow)(s':Shared):Prop:=
 match f with
 | .next=> ∃σ' H',Inv X pins σ' H' s'/\D.nx σ' H'
 | .brk=> ∃σ' H',Inv X pins σ' H' s'/\D.bk σ' H'
 | .cont=> ∃σ' H',Inv X pins σ' H' s'/\D.ct σ' H'
 | .ret u=> ∃v σ' H',Inv X pins σ' H' s'/\RelV v u/\D.rt v H'
noncomputable def PE(X:Cx)(e:Expr)(t:TE):Prop:=
 ∀(pins:List (Addr×Obj)) (s:Shared) (σ:St) (H:Hp) (Q:VK),Inv X pins σ H s->t σ H Q->wpAny (model X.prog X.w) X.A (eval e X.env) (EP X pins σ Q) X.xe s
noncomputable def PT(X:Cx)(e:Expr)(t:TT):Prop:=
 ∀(pins:List (Addr×Obj)) (s:Shared) (σ:St) (H:Hp) (Q:Bool->Hp->Prop),Inv X pins σ H s->t σ H Q->wpAny (model X.prog X.w) X.A (isTrue e X.env (eval e X.env)) (TP X pins σ Q) X.xe s
noncomputable def PW(X:Cx)(e:Expr)(t:TT):Prop:=
 ∀(whole:Sem Value) (pins:List (Addr×Obj)) (s:Shared) (σ:St) (H:Hp) (Q:Bool->Hp->Prop),Inv X pins σ H s->t σ H Q->wpAny (model X.prog X.w) X.A (isTrue e X.env whole) (TP X pins σ Q) X.xe s
theorem PW.pt{X:Cx}{e:Expr}{t:TT}(h:PW X e t):PT X e t:=h _
noncomputable def PA(X:Cx)(es:List Expr)(t:TA):Prop:=
 ∀(pos:Pos) (pins:List (Addr×Obj)) (s:Shared) (σ:St) (H:Hp) (Q:List V->Hp->Prop),Inv X pins σ H s->t σ H Q->wpAny (model X.prog X.w) X.A (spliced (backTo pos (starEach es X.env))) (AP X pins σ Q) X.xe s
noncomputable def PS(X:Cx)(st:Stmt)(t:TS):Prop:=
 ∀(pins:List (Addr×Obj)) (s:Shared) (σ:St) (H:Hp) (D:Ends),Inv X pins σ H s->t D σ H->wpAny (model X.prog X.w) X.A (exec st X.env) (SP X pins D) X.xe s
noncomputable def PSs(X:Cx)(st:List Stmt)(t:TS):Prop:=
 ∀(pins:List (Addr×Obj)) (s:Shared) (σ:St) (H:Hp) (D:Ends),Inv X pins σ H s->t D σ H->wpAny (model X.prog X.w) X.A (execs st X.env) (SP X pins D) X.xe s
theorem thn{α:Type}{t:Sem α}{Q Q':α->Shared->Prop}{M:Model}{A:Around}{E:Value->Shared->Prop}{s:Shared}(h:wpAny M A t Q E s)(hQ: ∀a s,Q a s->Q' a s):wpAny M A t Q' E s:=wpAny_mono h hQ fun _ _ x=>x
section
variable{X:Cx}
noncomputable def tVar(i:Nat):TE:=fun σ H Q=> ∃v,σ[i]? =some (some v)/\Q v H
noncomputable def tC(v:V):TE:=fun _ H Q=>Q v H
theorem zbb{i:Nat}{x:Str}{pos:Pos}(hN:X.N[i]? =some x)(hv:Vis X.env.scope x)(hd:(x==("__debug__" :Str))=false:=by decide)(hcd:(x==("__classdict__" :Str))=false:=by decide):PE X (.Name x pos) (tVar i):=by
 intro pins s σ H Q I h
 obtain⟨v,e,h⟩:=h
 obtain⟨m,hn,hl⟩:=I.loc
 obtain⟨u,r,l⟩:=hl i x v hN e hv
 have fin:EP X pins σ Q u s:=⟨v,H,I,r,h⟩
 rcases l with⟨hk,hm⟩|⟨hk,c,hc,hcell⟩
 ·exact wpAny_Name (wpAny_loadName_local I.ok.kind hk hn hm fin) hd
 ·rcases hk with hk|hk
  ·exact wpAny_Name (wpAny_loadName_cell I.ok.kind hk hc hcell fin) hd
  ·exact wpAny_Name (wpAny_loadName_free I.ok.kind hk hc hcell fin hcd) hd
theorem z01{i j pos}:PE X (.Constant (.int i) j pos) (tC (.int i)):=fun _ _ _ H _ I h=>wpAny_Constant_int ⟨.int i,H,I.tok _,⟨_,rfl⟩,h⟩
theorem z6C{b j pos}:PE X (.Constant (.bool b) j pos) (tC (.bl b)):=fun _ _ _ H _ I h=>Constant_bool ⟨.bl b,H,I,rfl,h⟩
noncomputable def Gl(X:Cx)(x:Str):Prop:=X.env.kindOf x=some .globalImplicit
theorem z9B{E:Value->Shared->Prop}{pins:List (Addr×Obj)}{s:Shared}{σ:St}{H:Hp}{x:Str}{u:Value}{pos:Pos}{Q:Value->Shared->Prop}(I:Inv X pins σ H s)(hg:Gl X x)(hm:X.mg x=some u)(h:Q u s)
 (hd:(x==("__debug__" :Str))=false:=by decide):wpAny (model X.prog X.w) X.A (eval (.Name x pos) X.env) Q E s:=
 Calls.Name_function_global I.ok.kind hg (Calls.loadGlobal_global (by rw[I.ok.glob];exact I.mod.glob.keeps I.bk) hm h) hd
theorem z3e{E:Value->Shared->Prop}{pins:List (Addr×Obj)}{s:Shared}{σ:St}{H:Hp}{x:Str}{u:Value}{pos:Pos}{Q:Value->Shared->Prop}(I:Inv X pins σ H s)(hg:Gl X x)(hm:X.mg x=none)(hv:bootBuiltins x=some u)(h:Q u s)
 (hn:x≠ "__name__" :=by decide) (hd:(x==("__debug__" :Str))=false:=by decide):wpAny (model X.prog X.w) X.A (eval (.Name x pos) X.env) Q E s:=by
 obtain⟨mb,h1,h2⟩:=I.mod.blt
 exact Calls.Name_function_global I.ok.kind hg (Calls.loadGlobal_builtin (by rw[I.ok.glob];exact I.mod.glob.keeps I.bk) hm (by rw[I.ok.blt];exact h1.keeps I.bk) ((h2 x hn).trans hv) h) hd
theorem z4P{x:Str}{v:V}{u:Value}{pos:Pos}(hg:Gl X x)(hm:X.mg x=none)(hv:bootBuiltins x=some u)(r:RelV v u)(hn:x≠ "__name__" :=by decide)(hd:(x==("__debug__" :Str))=false:=by decide):PE X (.Name x pos) (tC v):=
 fun _ _ _ H _ I h=>z3e I hg hm hv ⟨v,H,I,r,h⟩ hn hd
variable{a b:Expr}{ta tb:TE}{pos:Pos}
variable{tA tB':TT}{rest:List Expr}
noncomputable def tAnd(t u:TT):TT:=fun σ H Q=>t σ H fun c H1=>if c=true then u σ H1 Q else Q false H1
noncomputable def tOr(t u:TT):TT:=fun σ H Q=>t σ H fun c H1=>if c=true then Q true H1 else u σ H1 Q
noncomputable def tNot(t:TT):TT:=fun σ H Q=>t σ H fun c H1=>Q (!c) H1
theorem z9C(ha:PT X a tA):PW X (.BoolOp .And [a] pos) tA:=by
 intro wh pins s σ H Q I h
 refine isTrue_and (thn (ha pins s σ H Q I h) fun c s1 e=> ?_)
 cases c with
 |true=>exact isTrue_and_nil e
 |false=>exact e
theorem zbc(ha:PT X a tA):PW X (.BoolOp .Or [a] pos) tA:=by
 intro wh pins s σ H Q I h
 refine isTrue_or (thn (ha pins s σ H Q I h) fun c s1 e=> ?_)
 cases c with
 |false=>exact isTrue_or_nil e
 |true=>exact e
theorem zbd(ha:PT X a tA)(hb:PW X (.BoolOp .And (b::rest) pos) tB'):PW X (.BoolOp .And (a::b::rest) pos) (tAnd tA tB'):=by
 intro wh pins s σ H Q I h
 refine isTrue_and (thn (ha pins s σ H _ I h) fun c s1 ⟨H1,I1,q1⟩=> ?_)
 cases c with
 |true=>exact hb wh pins s1 σ H1 Q I1 q1
 |false=>exact⟨H1,I1,q1⟩
theorem zdv(ha:PT X a tA)(hb:PW X (.BoolOp .Or (b::rest) pos) tB'):PW X (.BoolOp .Or (a::b::rest) pos) (tOr tA tB'):=by
 intro wh pins s σ H Q I h
 refine isTrue_or (thn (ha pins s σ H _ I h) fun c s1 ⟨H1,I1,q1⟩=> ?_)
 cases c with
 |true=>exact⟨H1,I1,q1⟩
 |false=>exact hb wh pins s1 σ H1 Q I1 q1
theorem zbe(ha:PT X a tA):PT X (.UnaryOp .Not a pos) (tNot tA):=by
 intro pins s σ H Q I h
 exact isTrue_not (ha pins s σ H (fun c H1=>Q (!c) H1) I h)
noncomputable def zdw(ta tb:TE):TE:=fun σ H Q=>ta σ H fun x H1=> ∃c,x= .bl c/\if c=true then tb σ H1 Q else Q (.bl false) H1
noncomputable def zdx(ta:TE):TE:=fun σ H Q=>ta σ H fun x H1=> ∃c,x= .bl c/\Q (.bl (!c)) H1
theorem zbf{op}{t:TE}(h:PE X a t):PE X (.BoolOp op [a] pos) t:=fun pins s σ H Q I hw=>BoolOp_one (h pins s σ H Q I hw)
theorem zbg(ha:PE X a ta)(hb:PE X (.BoolOp .And (b::rest) pos) tb):PE X (.BoolOp .And (a::b::rest) pos) (zdw ta tb):=by
 intro pins s σ H Q I h
 refine BoolOp_and (thn (ha pins s σ H _ I h) fun v s1 ⟨x,H1,I1,r1,q1⟩=> ?_)
 obtain⟨c,rfl,q1⟩:=q1
 cases r1
 refine wpAny_truthy_bool ?_
 cases c with
 |true=>exact hb pins s1 σ H1 Q I1 q1
 |false=>exact⟨.bl false,H1,I1,rfl,q1⟩
theorem zbh(ha:PE X a ta):PE X (.UnaryOp .Not a pos) (zdx ta):=by
 intro pins s σ H Q I h
 refine UnaryOp_ (thn (ha pins s σ H _ I h) fun v s1 ⟨x,H1,I1,r1,q1⟩=> ?_)
 obtain⟨c,rfl,q1⟩:=q1
 cases r1
 exact not_of (wpAny_truthy_bool ⟨.bl (!c),H1,I1,rfl,q1⟩)
noncomputable def tIf(t:TT)(ta tb:TE):TE:=fun σ H Q=>t σ H fun c H1=>if c=true then ta σ H1 Q else tb σ H1 Q
theorem z84{c:Expr}(hc:PT X c tA)(ha:PE X a ta)(hb:PE X b tb):PE X (.IfExp c a b pos) (tIf tA ta tb):=by
 intro pins s σ H Q I h
 refine wpAny_IfExp (thn (hc pins s σ H _ I h) fun d s1 ⟨H1,I1,q1⟩=> ?_)
 cases d with
 |true=>exact ha pins s1 σ H1 Q I1 q1
 |false=>exact hb pins s1 σ H1 Q I1 q1
end
noncomputable def SqL(K:W.Frag)(H:Hp)(a:Addr)(xs:List V):Prop:=
 Rd H a (.lst xs)\/
  ∃(o:Obj) (its:Array Value) (n:Nat),K.lookup a=some o/\o.cls= .type "list" /\o.dict=none/\o.data= .seq its n/\its.size<=sizeLine/\Vals xs its.toList
noncomputable def SqT(K:W.Frag)(H:Hp)(a:Addr)(xs:List V):Prop:=
 Rd H a (.tup xs)\/
  ∃(o:Obj) (its:Array Value) (n:Nat),K.lookup a=some o/\o.cls= .type "tuple" /\o.data= .seq its n/\its.size<=sizeLine/\Vals xs its.toList
noncomputable def absV:Value->Option V
 | .none=>some .non
 | .bool b=>some (.bl b)
 | .int i _=>some (.int i)
 | .str x _=>some (.str x)
 | .bytes b _=>some (.byt b)
 | .float b _=>some (.flt b)
 | .ref a=>some (.ref a)
 | .type n=>some (.ty n)
 |_=>none
theorem RelV.abs{x:V}{u:Value}(r:RelV x u):absV u=some x:=by
 cases x with
 |non=>cases r;rfl
 |bl _=>cases r;rfl
 |int _=>obtain⟨t,rfl⟩:=r;rfl
 |str _=>obtain⟨t,rfl⟩:=r;rfl
 |byt _=>obtain⟨t,rfl⟩:=r;rfl
 |flt _=>obtain⟨t,rfl⟩:=r;rfl
 |ref _=>cases r;rfl
 |ty _=>cases r;rfl
theorem RelV.inj{x y:V}{u:Value}(r:RelV x u)(q:RelV y u):x=y:=Option.some.inj (r.abs.symm.trans q.abs)
theorem Vals.inj: ∀{xs ys:List V} {us:List Value},Vals xs us->Vals ys us->xs=ys
 |_,_,_, .nil, .nil=>rfl
 |_,_,_, .cons r t, .cons r' t'=>by rw[r.inj r',Vals.inj t t']
section
variable{X:Cx}{pins:List (Addr×Obj)}{σ:St}{H:Hp}{s:Shared}{a:Addr}{xs ys:List V}
theorem SqL.of{K:W.Frag}(h:H a=some (.lst xs)):SqL K H a xs:= .inl (.inl h)
theorem SqT.of{K:W.Frag}(h:H a=some (.tup xs)):SqT K H a xs:= .inl (.inl h)
theorem Inv.list(I:Inv X pins σ H s)(h:SqL X.K H a xs): ∃its:List Value,Vals xs its/\PlainL s.heap a its.toArray/\xs.length<=sizeLine:=by
 rcases h with h|⟨o,its,n,hk,hc,hd,hs,hz,r⟩
 ·obtain⟨z,its,n,r,e⟩:=h.ok I.hok
  exact⟨its,r,⟨_,n,e,rfl,rfl,rfl⟩,z⟩
 ·refine⟨its.toList,r,⟨o,n,I.kIn a o hk,hc,hd,by simpa using hs⟩, ?_⟩
  have e:=r.length
  simp only[Array.length_toList] at e
  lia
theorem Inv.tuple(I:Inv X pins σ H s)(h:SqT X.K H a xs): ∃its:List Value,Vals xs its/\IsTup s.heap a its.toArray/\xs.length<=sizeLine:=by
 rcases h with h|⟨o,its,n,hk,hc,hs,hz,r⟩
 ·obtain⟨z,its,r,p⟩:=h.ok I.hok
  exact⟨its,r,p,z⟩
 ·refine⟨its.toList,r,⟨o,I.kIn a o hk,hc,n,by simpa using hs⟩, ?_⟩
  have e:=r.length
  simp only[Array.length_toList] at e
  lia
theorem Inv.list_inj(I:Inv X pins σ H s)(h:SqL X.K H a xs)(h':SqL X.K H a ys):xs=ys:=by
 obtain⟨its,r,⟨o,n,e,_,_,d⟩,_⟩:=I.list h
 obtain⟨its',r',⟨o',n',e',_,_,d'⟩,_⟩:=I.list h'
 rw[e] at e';cases e'
 rw[d] at d'
 injection d' with d1 _
 have:its=its':=by simpa using congrArg Array.toList d1
 subst this
 exact r.inj r'
theorem Inv.tuple_inj(I:Inv X pins σ H s)(h:SqT X.K H a xs)(h':SqT X.K H a ys):xs=ys:=by
 obtain⟨its,r,⟨o,e,_,n,d⟩,_⟩:=I.tuple h
 obtain⟨its',r',⟨o',e',_,n',d'⟩,_⟩:=I.tuple h'
 rw[e] at e';cases e'
 rw[d] at d'
 injection d' with d1 _
 have:its=its':=by simpa using congrArg Array.toList d1
 subst this
 exact r.inj r'
end
noncomputable abbrev Cx.wish(X:Cx)(E:Value->Shared->Prop):Cx:={X with xe:=E}
noncomputable abbrev Cx.nox(X:Cx):Cx:=X.wish fun _ _=>False
theorem Cx.Ok.wish{X:Cx}(ok:X.Ok)(E:Value->Shared->Prop):(X.wish E).Ok:=
 ⟨ok.mod,ok.kind,ok.glob,ok.blt,ok.above,ok.inj,ok.has,ok.cab,ok.hd,ok.frames,ok.stk,ok.exf,ok.bs,ok.bsz,ok.noex,ok.exfs,ok.funs,ok.frf⟩
theorem Cx.Ok.unwish{X:Cx}{E:Value->Shared->Prop}(ok:(X.wish E).Ok):X.Ok:=
 ⟨ok.mod,ok.kind,ok.glob,ok.blt,ok.above,ok.inj,ok.has,ok.cab,ok.hd,ok.frames,ok.stk,ok.exf,ok.bs,ok.bsz,ok.noex,ok.exfs,ok.funs,ok.frf⟩
section
variable{X:Cx}{pins:List (Addr×Obj)}{σ:St}{H:Hp}{s:Shared}{E:Value->Shared->Prop}
theorem Inv.wish(I:Inv X pins σ H s)(E:Value->Shared->Prop):Inv (X.wish E) pins σ H s:=⟨I.ok.wish E,I.os,I.bare,I.base,I.loc,I.cell,I.free,I.freeC,I.pin,I.hok,I.len⟩
theorem Inv.unwish(I:Inv (X.wish E) pins σ H s):Inv X pins σ H s:=⟨I.ok.unwish,I.os,I.bare,I.base,I.loc,I.cell,I.free,I.freeC,I.pin,I.hok,I.len⟩
theorem SP.unwish{D:Ends}{f:Flow}{s':Shared}(h:SP (X.wish E) pins D f s'):SP X pins D f s':=by
 cases f with
 |next=>obtain⟨σ',H',I,q⟩:=h;exact⟨σ',H',I.unwish,q⟩
 |brk=>obtain⟨σ',H',I,q⟩:=h;exact⟨σ',H',I.unwish,q⟩
 |cont=>obtain⟨σ',H',I,q⟩:=h;exact⟨σ',H',I.unwish,q⟩
 |ret u=>obtain⟨v,σ',H',I,r,q⟩:=h;exact⟨v,σ',H',I.unwish,r,q⟩
theorem PSs.nox{st:List Stmt}{t:TS}(h:PSs X.nox st t):PSs X st t:=fun pins s σ H D I hw=>
 wpAny_mono (h pins s σ H D (I.wish _) hw) (fun _ _ q=>q.unwish) fun _ _ z=>False.elim z
end
section
variable{X:Cx}{st:Stmt}{rest:List Stmt}{t u:TS}{e:Expr}{te:TE}{pos:Pos}
noncomputable def zdy:TS:=fun D σ H=>D.nx σ H
noncomputable def tSeq(t u:TS):TS:=fun D σ H=>t {D with nx:=u D} σ H
theorem z9D:PSs X [] zdy:=fun _ _ σ H _ I h=>wpAny_execs_nil ⟨σ,H,I,h⟩
theorem z85(h1:PS X st t)(h2:PSs X rest u):PSs X (st::rest) (tSeq t u):=by
 intro pins s σ H D I h
 refine wpAny_execs_cons (thn (h1 pins s σ H {D with nx:=u D} I h) fun f s1 q=> ?_)
 cases f with
 |next=>
  obtain⟨σ',H',I',q⟩:=q
  exact h2 pins s1 σ' H' D I' q
 |ret v=>exact q
 |brk=>exact q
 |cont=>exact q
theorem z9E(h1:PS X st t):PSs X [st] t:=by
 intro pins s σ H D I h
 refine wpAny_execs_cons (thn (h1 pins s σ H D I h) fun f s1 q=> ?_)
 cases f with
 |next=>exact wpAny_execs_nil q
 |ret v=>exact q
 |brk=>exact q
 |cont=>exact q
theorem Inv.quiet{pins:List (Addr×Obj)}{σ:St}{H:Hp}{s:Shared}(I:Inv X pins σ H s):interactive X.env=false:=by simp[interactive,I.ok.kind]
noncomputable def zdz(te:TE):TS:=fun D σ H=>te σ H fun _ H1=>D.nx σ H1
theorem z9F(he:PE X e te)(hs:swapsWith e none pos.line X.env=pure false:=by rfl):PS X (.Expr e pos) (zdz te):=by
 intro pins s σ H D I h
 exact wpAny_Expr_any (thn (he pins s σ H _ I h) fun v s1 ⟨x,H1,I1,r1,q1⟩=>⟨σ,H1,I1,q1⟩) I.quiet hs
noncomputable def tRet(te:TE):TS:=fun D σ H=>te σ H D.rt
theorem zbi(he:PE X e te):PS X (.Return (some e) pos) (tRet te):=by
 intro pins s σ H D I h
 exact wpAny_Return_some (thn (he pins s σ H _ I h) fun v s1 ⟨x,H1,I1,r1,q1⟩=>⟨x,σ,H1,I1,r1,q1⟩)
noncomputable def tIfS(c:TT)(t u:TS):TS:=fun D σ H=>c σ H fun b H1=>if b=true then t D σ H1 else u D σ H1
theorem zdA{c:Expr}{a b:List Stmt}{tc:TT}(hc:PT X c tc)(ha:PSs X a t)(hb:PSs X b u):PS X (.If c a b pos) (tIfS tc t u):=by
 intro pins s σ H D I h
 refine wpAny_If (thn (hc pins s σ H _ I h) fun d s1 ⟨H1,I1,q1⟩=> ?_)
 cases d with
 |true=>exact ha pins s1 σ H1 D I1 q1
 |false=>exact hb pins s1 σ H1 D I1 q1
end
noncomputable abbrev TG:=V->St->Hp->(St->Hp->Prop)->Prop
noncomputable abbrev TGs:=List V->St->Hp->(St->Hp->Prop)->Prop
noncomputable def PG(X:Cx)(target:Expr)(t:TG):Prop:=
 ∀(pins:List (Addr×Obj)) (s:Shared) (σ:St) (H:Hp) (v:V) (u:Value) (Q:St->Hp->Prop),Inv X pins σ H s->RelV v u->t v σ H Q->
  wpAny (model X.prog X.w) X.A (assign target X.env u) (fun _ s'=> ∃σ' H',Inv X pins σ' H' s'/\Q σ' H') X.xe s
noncomputable def PGs(X:Cx)(ts:List Expr)(t:TGs):Prop:=
 ∀(pins:List (Addr×Obj)) (s:Shared) (σ:St) (H:Hp) (vs:List V) (us:List Value) (Q:St->Hp->Prop),Inv X pins σ H s->Vals vs us->t vs σ H Q->
  wpAny (model X.prog X.w) X.A (assignInOrder ((assignEach ts X.env).map (·.2)) us) (fun _ s'=> ∃σ' H',Inv X pins σ' H' s'/\Q σ' H') X.xe s
noncomputable abbrev TSet:=V->V->V->Hp->(Hp->Prop)->Prop
noncomputable def PSet(X:Cx)(t:TSet):Prop:=
 ∀(pins:List (Addr×Obj)) (s:Shared) (σ:St) (H:Hp) (o i v:V) (ov iv u:Value) (Q:Hp->Prop),Inv X pins σ H s->RelV o ov->RelV i iv->RelV v u->t o i v H Q->
  wpAny (model X.prog X.w) X.A (setItem ov iv u) (fun _ s'=> ∃H',Inv X pins σ H' s'/\Q H') X.xe s
section
variable{X:Cx}{pos:Pos}
noncomputable def z5U(i:Nat):TG:=fun v σ H Q=>Q (σ.set i (some v)) H
theorem z0O{i:Nat}{x:Str}(hN:X.N.Nodup)(hi:X.N[i]? =some x)(hx:Loc X.env.scope x)(hf:X.fn x=true\/X.env.scope.names.lookup x=some .local:=by first|exact .inl rfl|exact .inr rfl|assumption):PG X (.Name x pos) (z5U i):=by
 intro pins s σ H v u Q I r h
 exact wpAny_assign_Name (z5p I hN hi hx r (fun s' I'=>⟨_,H,I',h⟩) hf)
noncomputable def gNil:TGs:=fun vs σ H Q=>vs=[]/\Q σ H
noncomputable def zdB(t:TG)(u:TGs):TGs:=fun vs σ H Q=> ∃v r,vs=v::r/\t v σ H fun σ' H'=>u r σ' H' Q
theorem z9G:PGs X [] gNil:=by
 intro pins s σ H vs us Q I r h
 obtain⟨e,h⟩:=h
 subst e
 cases r
 exact assignInOrder_nil ⟨σ,H,I,h⟩
theorem z86{e:Expr}{es:List Expr}{t:TG}{u:TGs}(h1:PG X e t)(h2:PGs X es u)
 (hs:(assignEach (e::es) X.env).map (·.2)=assign e X.env::(assignEach es X.env).map (·.2):=by rfl):PGs X (e::es) (zdB t u):=by
 intro pins s σ H vs us Q I r h
 obtain⟨v,vr,e1,h⟩:=h
 subst e1
 cases r with
 |cons r rr=>
  rw[hs]
  refine assignInOrder_cons (thn (h1 pins s σ H _ _ _ I r h) fun _ s1 ⟨σ1,H1,I1,q1⟩=> ?_)
  exact h2 pins s1 σ1 H1 _ _ Q I1 rr q1
noncomputable def gTup(K:W.Frag)(n:Nat)(t:TGs):TG:=fun v σ H Q=> ∃a xs,v= .ref a/\SqT K H a xs/\xs.length=n/\t xs σ H Q
theorem zbj{es:List Expr}{k:Nat}{t:TGs}{n:Nat}(hc:X.calm=true)(h:PGs X es t)
 (hn:(assignEach es X.env).length=n:=by rfl) (hst:(assignEach es X.env).findIdx? (·.1)=none:=by rfl):PG X (.Tuple es k pos) (gTup X.K n t):=by
 intro pins s σ H v u Q I r hw
 obtain⟨a,xs,e1,hq,hl,hw⟩:=hw
 subst e1
 cases r
 obtain⟨its,rv,ht,hz⟩:=I.tuple hq
 refine assign_Tuple_tuple (I.ok.hd hc) ht (by simp[hn,<-hl,rv.length]) hst fun h' hx=> ?_
 have I1:Inv X pins σ H {s with heap:=h'}:=I.kept (t':=s.toks) fun b o e=>hx b o (Nat.ne_of_lt (Heap.lt_size e)) e
 exact h pins _ σ H xs _ Q I1 (by simpa using rv) hw
noncomputable def gSub(to ti:TE)(t:TSet):TG:=fun v σ H Q=>to σ H fun o H1=>ti σ H1 fun i H2=>t o i v H2 fun H3=>Q σ H3
theorem z8Z{o i:Expr}{to ti:TE}{t:TSet}(ho:PE X o to)(hi:PE X i ti)(hs:PSet X t)
 (ha: ∀v,assign (.Subscript o i pos) X.env v=(do
  let ov<-holding [v] (eval o X.env)
  let iv<-holding [v,ov] (eval i X.env)
  standAt pos
  holding [v,ov,iv] (setItem ov iv v)
  release [v,ov,iv] []):=by intro _;rfl):PG X (.Subscript o i pos) (gSub to ti t):=by
 intro pins s σ H v u Q I r h
 rw[ha]
 refine wpAny_bind (wpAny_holding (thn (ho pins s σ H _ I h) fun ov s1 ⟨x,H1,I1,r1,q1⟩=> ?_))
 refine wpAny_bind (wpAny_holding (thn (hi pins s1 σ H1 _ I1 q1) fun iv s2 ⟨y,H2,I2,r2,q2⟩=> ?_))
 refine wpAny_bind (wpAny_standAt (wpAny_bind (wpAny_holding (thn (hs pins s2 σ H2 x y v ov iv u _ I2 r1 r2 r q2) fun _ s3 ⟨H3,I3,q3⟩=> ?_))))
 exact wpAny_release ⟨σ,H3,I3,q3⟩
noncomputable def tAsg(te:TE)(g:TG):TS:=fun D σ H=>te σ H fun x H1=>g x σ H1 D.nx
theorem zbk{tg e:Expr}{te:TE}{g:TG}(he:PE X e te)(hg:PG X tg g)(hs:swapsWithSole [tg] e pos.line X.env=pure false:=by rfl)(hw:swappedStores [tg] e X.env=pure none:=by rfl)
 (h1:(assignEach [tg] X.env).map (·.2)=[assign tg X.env]:=by rfl):PS X (.Assign [tg] e pos) (tAsg te g):=by
 intro pins s σ H D I h
 refine wpAny_Assign_stores (thn (he pins s σ H _ I h) fun v s1 ⟨x,H1,I1,r1,q1⟩=> ?_) hs hw
 rw[h1]
 exact thn (hg pins s1 σ H1 x v _ I1 r1 q1) fun _ s2 q=>q
theorem z42{i:Nat}{x:Str}{e:Expr}{te:TE}{pos':Pos}(hN:X.N.Nodup)(hi:X.N[i]? =some x)(hx:Loc X.env.scope x)(he:PE X e te)(hs:swapsWith e (some (.Name x pos')) pos.line X.env=pure false:=by rfl)(hf:X.fn x=true\/X.env.scope.names.lookup x=some .local:=by first|exact .inl rfl|exact .inr rfl|assumption):
 PS X (.Assign [.Name x pos'] e pos) (tAsg te (z5U i)):=by
 intro pins s σ H D I h
 refine wpAny_Assign_Name (thn (he pins s σ H _ I h) fun v s1 ⟨y,H1,I1,r1,q1⟩=> ?_) hs
 exact z5p I1 hN hi hx r1 (fun s2 I2=>⟨_,H1,I2,q1⟩) hf
end
structure It where
 go:Nat->Hp->Prop
 yld:Nat->Hp->V->Hp->Prop
 stop:Nat->Hp->Prop
noncomputable def FpOk(X:Cx)(pins:List (Addr×Obj))(H:Hp)(b:Addr):Prop:=
 H b=none/\b≠X.env.locals/\b∉X.fs/\(b∈X.ex\/X.s₀.heap.objs.size<=b)/\(∀x c,X.env.cells.lookup x=some c->c≠b)/\∀p∈X.pn++pins,p.1≠b
theorem Inv.fpOk{X:Cx}{pins:List (Addr×Obj)}{σ:St}{H H':Hp}{s:Shared}{b:Addr}(I:Inv X pins σ H s)(hb:s.heap.objs.size<=b)(hn:H' b=none):FpOk X pins H' b:=by
 refine⟨hn,Nat.ne_of_gt (Nat.lt_of_lt_of_le I.lt hb),I.nofs hb, .inr (Nat.le_trans I.sz hb),fun x c e z=> ?_,fun p hp z=> ?_⟩
 ·obtain⟨v,q⟩:=I.cell x c e
  exact absurd (Nat.lt_of_lt_of_le q.lt (by rw[z];exact hb)) (Nat.lt_irrefl _)
 ·exact absurd (Nat.lt_of_lt_of_le (Heap.lt_size (I.pin p hp).1) (by rw[z];exact hb)) (Nat.lt_irrefl _)
structure Turn(P:Program)(w:World)(K:W.Frag)(tg:Expr)(J:It)(fp:List Addr)(it:Addr)(tn:Nat->Heap->Prop):Prop where
 mem:it∈fp
 obj: ∀i h,tn i h->∀b∈fp,∃o,h.get? b=some o/\∀v,o.data≠ .cell v
 keep: ∀i h h',tn i h->(∀b∈fp,∀o,h.get? b=some o->h'.get? b=some o)->tn i h'
 item: ∀(X:Cx),X.prog=P->X.w=w->X.K=K->X.calm=true->∀(i:Nat) (pins:List (Addr×Obj)) (s:Shared) (σ:St) (H:Hp) (E:Value->Shared->Prop),Inv X pins σ H s->(∀b∈fp,FpOk X pins H b)->tn i s.heap->J.go i H->
  wpAny (model P w) X.A (pyNext (.ref it)) (fun r s1=> ∃u,r=some u/\
   wpAny (model P w) X.A (letOwnedTupleGo tg (.ref it) u) (fun _ s2=> ∃x H',Inv X pins σ H' s2/\RelV x u/\J.yld i H x H'/\tn (i+1) s2.heap/\∀b∈fp,H' b=none) E s1) E s
 done: ∀(X:Cx),X.prog=P->X.w=w->X.K=K->X.calm=true->∀(i:Nat) (pins:List (Addr×Obj)) (s:Shared) (σ:St) (H:Hp) (E:Value->Shared->Prop),Inv X pins σ H s->(∀b∈fp,FpOk X pins H b)->tn i s.heap->J.stop i H->
  wpAny (model P w) X.A (pyNext (.ref it)) (fun r s1=>r=none/\Inv X pins σ H s1) E s
 self: ∀(A:Around) (i:Nat) (s:Shared) (Q:Value->Shared->Prop) (E:Value->Shared->Prop),tn i s.heap->Q (.ref it) s->wpAny (model P w) A (pyIter (.ref it)) Q E s
noncomputable abbrev TI:=St->Hp->(It->Hp->Prop)->Prop
noncomputable def PIE(X:Cx)(pins:List (Addr×Obj))(σ:St)(tg:Expr)(R:It->Hp->Prop)(itv:Value)(s2:Shared):Prop:=
 ∃(it:Addr) (fp:List Addr) (tn:Nat->Heap->Prop) (J:It) (H':Hp),itv= .ref it/\Inv X pins σ H' s2/\Turn X.prog X.w X.K tg J fp it tn/\tn 0 s2.heap/\(∀b∈fp,FpOk X pins H' b)/\R J H'
noncomputable def PI(X:Cx)(tg iter:Expr)(wi:TI):Prop:=
 ∀(pins:List (Addr×Obj)) (s:Shared) (σ:St) (H:Hp) (R:It->Hp->Prop),Inv X pins σ H s->wi σ H R->
  wpAny (model X.prog X.w) X.A (eval iter X.env) (fun v s1=>wpAny (model X.prog X.w) X.A (pyIter v) (PIE X pins σ tg R) X.xe s1) X.xe s
theorem z87{M:Model}{A:Around}{E:Value->Shared->Prop}{s:Shared}{tg:Expr}{it:Addr}{u:Value}{o:Obj}{n:String}{vs:Array Value}{Q:Unit->Shared->Prop}(ho:s.heap.get? it=some o)(hc:o.cls= .type n)(hd:o.data= .fields vs)
 (hn:["enumerate", "zip", "dict_itemiterator", "dict_reverseitemiterator", "odict_iterator", "itertools.zip_longest", "itertools.pairwise"].contains n=false) (hQ:Q () s):wpAny M A (letOwnedTupleGo tg (.ref it) u) Q E s:=by
 unfold letOwnedTupleGo
 cases tg<;>first
  |exact wpAny_pure hQ
  |(cases u<;>first
   |exact wpAny_pure hQ
   |(refine wpAny_bind (wpAny_load ho ?_)
     rw[hc,hd]
     show wpAny M A (if(["enumerate", "zip", "dict_itemiterator", "dict_reverseitemiterator", "odict_iterator", "itertools.zip_longest", "itertools.pairwise"].contains n&&vs[0]? ==some (rawInt _))=true then _ else _) Q E s
     rw[if_neg (by intro h;rw[hn,Bool.false_and] at h;cases h)]
     exact wpAny_pure hQ))
noncomputable def Itl(K:W.Frag)(a:Addr):It:=
 ⟨fun i H=> ∃xs x,SqL K H a xs/\xs[i]? =some x,fun i H x H'=>H'=H/\∀xs,SqL K H a xs->xs[i]? =some x,fun i H=> ∃xs,SqL K H a xs/\xs.length<=i⟩
noncomputable def Itt(K:W.Frag)(a:Addr):It:=
 ⟨fun i H=> ∃xs x,SqT K H a xs/\xs[i]? =some x,fun i H x H'=>H'=H/\∀xs,SqT K H a xs->xs[i]? =some x,fun i H=> ∃xs,SqT K H a xs/\xs.length<=i⟩
noncomputable def Itr(lo:Int)(n:Nat):It:=⟨fun i _=>i<n,fun i H x H'=>H'=H/\x= .int (lo+i),fun i _=>n<=i⟩
theorem z6D{P:Program}{w:World}{K:W.Frag}{tg:Expr}(a it:Addr):Turn P w K tg (Itl K a) [it] it (fun i h=>h.IsListIter it a i) where
 mem:=by simp
 obj:=fun i h st b hb=>by
  have e:b=it:=by simpa using hb
  subst e
  obtain⟨o,e,c,d⟩:=st
  exact⟨o,e,fun v z=>by rw[d] at z;cases z⟩
 keep:=fun i h h' st k=>st.at fun o e=>k it (by simp) o e
 item:=by
  intro X hP hw hK hc i pins s σ H E I hf st hg
  subst hP hw hK
  obtain⟨xs,x,hq,hx⟩:=hg
  obtain⟨its,rv,p,hz⟩:=I.list hq
  obtain⟨u,hu,ru⟩:=rv.get hx
  obtain⟨f0,f1,f2,f3,f4,f5⟩:=hf it (by simp)
  refine wpAny_pyNext_list_item st p.isList (x:=u) (by simpa using hu) fun h' st' sb=> ?_
  have I1:Inv X pins σ H {s with heap:=h'}:=I.turned (t':=s.toks) (fun b o hb e=>(sb.2 b hb).trans e) f0 f1 f3 f4 f5
  obtain⟨o,e,c,d⟩:=id st'
  exact⟨u,rfl,z87 (s:={s with heap:=h'}) e c d (by decide) ⟨x,H,I1,ru,⟨rfl,fun ys hy=>by rw[I.list_inj hy hq];exact hx⟩,st',fun b hb=>(hf b hb).1⟩⟩
 done:=by
  intro X hP hw hK hc i pins s σ H E I hf st hg
  subst hP hw hK
  obtain⟨xs,hq,hx⟩:=hg
  obtain⟨its,rv,p,hz⟩:=I.list hq
  obtain⟨f0,f1,f2,f3,f4,f5⟩:=hf it (by simp)
  have hl:=rv.length
  exact wpAny_pyNext_list_end (I.ok.hd hc) st p.isList (by simp;lia) fun h' eb=>⟨rfl,I.turned (t':=s.toks) (fun b o hb e=>eb b o hb e) f0 f1 f3 f4 f5⟩
 self:=fun _ _ _ _ _ st h=>wpAny_pyIter_listiter st h
theorem z5V{P:Program}{w:World}{K:W.Frag}{tg:Expr}(a it:Addr):Turn P w K tg (Itt K a) [it] it (fun i h=>h.IsTupleIter it a i) where
 mem:=by simp
 obj:=fun i h st b hb=>by
  have e:b=it:=by simpa using hb
  subst e
  obtain⟨o,e,c,d⟩:=st
  exact⟨o,e,fun v z=>by rw[d] at z;cases z⟩
 keep:=fun i h h' st k=>st.at fun o e=>k it (by simp) o e
 item:=by
  intro X hP hw hK hc i pins s σ H E I hf st hg
  subst hP hw hK
  obtain⟨xs,x,hq,hx⟩:=hg
  obtain⟨its,rv,p,hz⟩:=I.tuple hq
  obtain⟨u,hu,ru⟩:=rv.get hx
  obtain⟨f0,f1,f2,f3,f4,f5⟩:=hf it (by simp)
  refine wpAny_pyNext_tuple_item st (show s.heap.IsTuple a its.toArray from p) (x:=u) (by simpa using hu) fun h' st' sb=> ?_
  have I1:Inv X pins σ H {s with heap:=h'}:=I.turned (t':=s.toks) (fun b o hb e=>(sb.2 b hb).trans e) f0 f1 f3 f4 f5
  obtain⟨o,e,c,d⟩:=id st'
  exact⟨u,rfl,z87 (s:={s with heap:=h'}) e c d (by decide) ⟨x,H,I1,ru,⟨rfl,fun ys hy=>by rw[I.tuple_inj hy hq];exact hx⟩,st',fun b hb=>(hf b hb).1⟩⟩
 done:=by
  intro X hP hw hK hc i pins s σ H E I hf st hg
  subst hP hw hK
  obtain⟨xs,hq,hx⟩:=hg
  obtain⟨its,rv,p,hz⟩:=I.tuple hq
  obtain⟨f0,f1,f2,f3,f4,f5⟩:=hf it (by simp)
  have hl:=rv.length
  exact wpAny_pyNext_tuple_end (I.ok.hd hc) st (show s.heap.IsTuple a its.toArray from p) (by simp;lia) fun h' eb=>⟨rfl,I.turned (t':=s.toks) (fun b o hb e=>eb b o hb e) f0 f1 f3 f4 f5⟩
 self:=fun _ _ _ _ _ st h=>wpAny_pyIter_tupleiter st h
theorem z5W{P:Program}{w:World}{K:W.Frag}{tg:Expr}(it:Addr)(lo:Int)(n:Nat):Turn P w K tg (Itr lo n) [it] it (fun i h=>IsRangeIter h it (lo+(i:Nat)*1) ((n:Int) -(i:Nat)) 1) where
 mem:=by simp
 obj:=fun i h st b hb=>by
  have e:b=it:=by simpa using hb
  subst e
  exact⟨_,st,fun v z=>by
   have z':Data.fields _=Data.cell v:=z
   cases z'⟩
 keep:=fun i h h' st k=>k it (by simp) _ st
 item:=by
  intro X hP hw hK hc i pins s σ H E I hf st hg
  subst hP hw hK
  obtain⟨f0,f1,f2,f3,f4,f5⟩:=hf it (by simp)
  have W:=Walks.range (prog:=X.prog) (w:=X.w) (I.ok.hd hc) it lo 1 n
  refine W.item i s _ _ hg st fun v h' tk hv st' kk=> ?_
  obtain⟨t,rfl⟩:=hv
  have I1:Inv X pins σ H {s with heap:=h',toks:=tk}:=I.turned (fun b o hb e=>kk b o (by simpa using hb) e) f0 f1 f3 f4 f5
  refine⟨_,rfl,z87 (s:={s with heap:=h',toks:=tk}) (n:= "range_iterator") st' rfl rfl (by decide) ⟨.int (lo+i),H,I1,⟨t, ?_⟩,⟨rfl,rfl⟩,st',fun b hb=>(hf b hb).1⟩⟩
  rw[Int.mul_one]
 done:=by
  intro X hP hw hK hc i pins s σ H E I hf st hg
  subst hP hw hK
  obtain⟨f0,f1,f2,f3,f4,f5⟩:=hf it (by simp)
  exact wpAny_pyNext_range_end (I.ok.hd hc) st (by have:n<=i:=hg;lia) fun h' eb=>⟨rfl,I.turned (t':=s.toks) (fun b o hb e=>eb b o hb e) f0 f1 f3 f4 f5⟩
 self:=fun _ _ _ _ _ st h=>wpAny_pyIter_rangeiter st h
section
variable{X:Cx}{tg:Expr}
theorem z88{pins:List (Addr×Obj)}{σ:St}{H:Hp}{s:Shared}{R:It->Hp->Prop}{E:Value->Shared->Prop}{lo hi:Int}{t u v:Tok}{tk:Nat}(I:Inv X pins σ H s)(h1: -(2^62)<=lo)(h2:lo<2^62)(h3: -(2^62)<=hi)(h4:hi<2^62)
 (q:R (Itr lo (hi -lo).toNat) H):wpAny (model X.prog X.w) X.A (pyIter (.ref s.heap.objs.size)) (PIE X pins σ tg R) E {s with heap:=s.heap.push {cls:= .type "range",data:= .fields #[.int lo t, .int hi u, .int 1 v]},toks:=tk}:=by
 refine wpAny_pyIter_range (IsRange.new ..) (small_one h1 h2 h3 h4) ?_
 have I1:Inv X pins σ H {s with heap:=s.heap.push {cls:= .type "range",data:= .fields #[.int lo t, .int hi u, .int 1 v]},toks:=tk}:=I.kept fun b o e=>Heap.get?_push_of_some _ e
 refine⟨(s.heap.push {cls:= .type "range",data:= .fields #[.int lo t, .int hi u, .int 1 v]}).objs.size,[(s.heap.push {cls:= .type "range",data:= .fields #[.int lo t, .int hi u, .int 1 v]}).objs.size],_,_,H,rfl,
  I1.kept (t':=tk) fun b o e=>Heap.get?_push_of_some _ e,z5W _ lo (hi -lo).toNat, ?_,fun b hb=> ?_,q⟩
 ·have e1:lo+((0:Nat):Int)*1=lo:=by simp
  have e2:(((hi -lo).toNat:Nat):Int) -((0:Nat):Int)=Builtin.Range.rangeSize lo hi 1:=by rw[rangeSize_one];split<;>lia
  show IsRangeIter _ _ (lo+((0:Nat):Int)*1) ((((hi -lo).toNat:Nat):Int) -((0:Nat):Int)) 1
  rw[e1,e2]
  exact Heap.get?_push_size _ rfl
 ·have e:b=(s.heap.push {cls:= .type "range",data:= .fields #[.int lo t, .int hi u, .int 1 v]}).objs.size:=by simpa using hb
  subst e
  exact I1.fpOk (Nat.le_refl _) (I1.hok.fresh (Nat.le_refl _))
noncomputable def zdC(ta:TA):TI:=fun σ H R=>ta σ H fun vs H1=> ∃j:Int,vs=[.int j]/\-(2^62)<=j/\j<2^62/\R (Itr 0 j.toNat) H1
theorem z6E{a:Expr}{ta:TA}{p pos:Pos}(hg:Gl X "range")(hm:X.mg "range" =none)(ha:PA X [a] ta)(hs:starEach [a] X.env=[(false,eval a X.env)]:=by rfl):PI X tg (.Call (.Name "range" p) [a] [] pos) (zdC ta):=by
 intro pins s σ H R I h
 refine Call_ (z3e I hg hm boot_range (PyProof.Rows.callWith_type1 (thn (ha pos pins s σ H _ I h) fun us s1 ⟨vs,H1,I1,r1,q1⟩=> ?_) hs rfl))
 obtain⟨j,e,q1,q2,q⟩:=q1
 subst e
 cases r1 with
 |cons r rr=>
  cases rr
  obtain⟨t,rfl⟩:=r
  exact call_range_1 (z88 I1 (by lia) (by lia) q1 q2 (by simpa using q))
noncomputable def tFor(wi:TI)(g:TG)(tb:TS):TS:=fun D σ H=>wi σ H fun J H1=> ∃W:Nat->Nat->St->Hp->Prop,(∃m,W 0 m σ H1)/\∀i m σ H,W i m σ H->
 (J.stop i H/\D.nx σ H)\/(J.go i H/\∃N:St->Hp->Prop,(∀σ' H',N σ' H'->∃m',m'<m/\W (i+1) m' σ' H')/\∀x H',J.yld i H x H'->g x σ H' fun σ2 H2=>tb {D with nx:=N,ct:=N,bk:=D.nx} σ2 H2)
noncomputable def z5q(fp:List Addr)(h:Heap):List (Addr×Obj):=fp.filterMap fun b=>(h.get? b).map fun o=>(b,o)
theorem z0R{fp:List Addr}{h:Heap}{b:Addr}{o:Obj}(hb:b∈fp)(e:h.get? b=some o):(b,o)∈z5q fp h:=List.mem_filterMap.mpr ⟨b,hb,by rw[e];rfl⟩
theorem z6F{fp:List Addr}{h:Heap}{p:Addr×Obj}(hp:p∈z5q fp h):p.1∈fp/\h.get? p.1=some p.2:=by
 obtain⟨b,hb,e⟩:=List.mem_filterMap.mp hp
 cases q:h.get? b with
 |none=>rw[q] at e;cases e
 |some o=>
  rw[q] at e
  have e':(b,o)=p:=Option.some.inj e
  subst e'
  exact⟨hb,q⟩
theorem Inv.pinned{pins:List (Addr×Obj)}{σ:St}{H:Hp}{s:Shared}{fp:List Addr}(I:Inv X pins σ H s)(hf: ∀b∈fp,FpOk X pins H b)(ho: ∀b∈fp,∃o,s.heap.get? b=some o/\∀v,o.data≠ .cell v):Inv X (pins++z5q fp s.heap) σ H s:=
 I.pins_of fun p hp=>(List.mem_append.mp hp).elim (fun z=>I.pin p (List.mem_append_right _ z)) fun z=>by
  obtain⟨hb,e⟩:=z6F z
  obtain⟨f0,f1,f2,_⟩:=hf p.1 hb
  obtain⟨o,e',d⟩:=ho p.1 hb
  rw[e] at e';cases e'
  exact⟨e,f0,f1,f2,d⟩
theorem Inv.unpinned{pins pl:List (Addr×Obj)}{σ:St}{H:Hp}{s:Shared}(I:Inv X (pins++pl) σ H s):Inv X pins σ H s:=I.pins_of fun p hp=>I.pin p (List.mem_append_right _ (List.mem_append_left _ hp))
theorem zbl{iter:Expr}{body:List Stmt}{wi:TI}{g:TG}{tb:TS}{pos:Pos}(hp:PassesOwn (model X.prog X.w) X.A X.env X.xe)(hc:X.calm=true)(hi:PI X tg iter wi)(hg:PG X tg g)(hb:PSs X body tb)
 (hs: ∀x,foldedSetIterable iter X.env x=pure x:=by intro _;rfl):PS X (.For tg iter body [] pos) (tFor wi g tb):=by
 intro pins s σ H D I h
 refine wpAny_For (thn (hi pins s σ H _ I h) fun v s1 h1=>thn h1 fun itv s2 h2=> ?_) hs
 obtain⟨it,fp,tn,J,H2,e,I2,T,st2,f2,W,⟨m0,w0⟩,turn⟩:=h2
 subst e
 have stat: ∀{H':Hp},(∀b∈fp,H' b=none)->∀b∈fp,FpOk X pins H' b:=fun hn b hb=>⟨hn b hb,(f2 b hb).2⟩
 refine codeAny_forLoop_any (fun n s'=> ∃i σ' H',Inv X pins σ' H' s'/\tn i s'.heap/\(∀b∈fp,H' b=none)/\W i n σ' H') ?_ m0 ⟨0,σ,H2,I2,st2,fun b hb=>(f2 b hb).1,w0⟩
 rintro n s3 ⟨i,σ3,H3,I3,st3,fr3,w3⟩
 rcases turn i n σ3 H3 w3 with⟨stop,qn⟩|⟨go,N,hN,step⟩
 ·refine wpAny_passesOwn hp (thn (T.done X rfl rfl rfl hc i pins s3 σ3 H3 X.xe I3 (stat fr3) st3 stop) fun r s4 ⟨hr,I4⟩=> ?_)
  subst hr
  exact wpAny_execs_nil ⟨σ3,H3,I4,qn⟩
 ·refine wpAny_passesOwn hp (thn (T.item X rfl rfl rfl hc i pins s3 σ3 H3 X.xe I3 (stat fr3) st3 go) fun r s4 ⟨u,hr,h4⟩=> ?_)
  subst hr
  refine wpAny_passesOwn hp (thn h4 fun _ s5 ⟨x,H5,I5,r5,y5,st5,fr5⟩=> ?_)
  have I5':=I5.pinned (stat fr5) (T.obj _ _ st5)
  refine wpAny_passesOwn hp (thn (hg _ s5 σ3 H5 x u _ I5' r5 (step x H5 y5)) fun _ s6 ⟨σ6,H6,I6,q6⟩=> ?_)
  refine wpAny_passesOwn hp (thn (hb _ s6 σ6 H6 _ I6 q6) fun f s7 q7=> ?_)
  have again: ∀{σ7:St} {H7:Hp},Inv X (pins++z5q fp s5.heap) σ7 H7 s7->N σ7 H7->∃m,m<n/\∃i σ' H',Inv X pins σ' H' s7/\tn i s7.heap/\(∀b∈fp,H' b=none)/\W i m σ' H':=fun{σ7 H7} I7 n7=>by
   obtain⟨m',hm,w7⟩:=hN σ7 H7 n7
   refine⟨m',hm,i+1,σ7,H7,I7.unpinned,T.keep _ _ _ st5 fun b hb o e=>(I7.pin (b,o) (List.mem_append_right _ (List.mem_append_right _ (z0R hb e)))).1,fun b hb=> ?_,w7⟩
   obtain⟨o,e,d⟩:=T.obj _ _ st5 b hb
   exact(I7.pin (b,o) (List.mem_append_right _ (List.mem_append_right _ (z0R hb e)))).2.1
  cases f with
  |next=>obtain⟨σ7,H7,I7,n7⟩:=q7;exact again I7 n7
  |cont=>obtain⟨σ7,H7,I7,n7⟩:=q7;exact again I7 n7
  |brk=>obtain⟨σ7,H7,I7,q7⟩:=q7;exact⟨σ7,H7,I7.unpinned,q7⟩
  |ret v=>obtain⟨x7,σ7,H7,I7,r7,q7⟩:=q7;exact⟨x7,σ7,H7,I7.unpinned,r7,q7⟩
end
noncomputable abbrev R2:=V->V->Hp->VK->Prop
noncomputable def OpR(X:Cx)(f:Value->Value->Sem Value)(r:R2):Prop:=
 ∀(pins:List (Addr×Obj)) (s:Shared) (σ:St) (H:Hp) (x y:V) (v u:Value) (Q:VK),Inv X pins σ H s->RelV x v->RelV y u->r x y H Q->
  wpAny (model X.prog X.w) X.A (f v u) (EP X pins σ Q) X.xe s
noncomputable def UnR(X:Cx)(f:Value->Sem Value)(r:V->Hp->VK->Prop):Prop:=
 ∀(pins:List (Addr×Obj)) (s:Shared) (σ:St) (H:Hp) (x:V) (v:Value) (Q:VK),Inv X pins σ H s->RelV x v->r x H Q->
  wpAny (model X.prog X.w) X.A (f v) (EP X pins σ Q) X.xe s
noncomputable def CallR(X:Cx)(f:Value)(r:List V->Hp->VK->Prop):Prop:=
 ∀(pins:List (Addr×Obj)) (s:Shared) (σ:St) (H:Hp) (xs:List V) (us:List Value) (Q:VK),Inv X pins σ H s->Vals xs us->r xs H Q->
  wpAny (model X.prog X.w) X.A (call f us) (EP X pins σ Q) X.xe s
noncomputable def TruR(X:Cx)(r:V->Hp->(Bool->Hp->Prop)->Prop):Prop:=
 ∀(pins:List (Addr×Obj)) (s:Shared) (σ:St) (H:Hp) (x:V) (v:Value) (Q:Bool->Hp->Prop),Inv X pins σ H s->RelV x v->r x H Q->
  wpAny (model X.prog X.w) X.A (truthy v) (TP X pins σ Q) X.xe s
noncomputable def tOp(r:R2)(ta tb:TE):TE:=fun σ H Q=>ta σ H fun x H1=>tb σ H1 fun y H2=>r x y H2 Q
noncomputable def tUn(r:V->Hp->VK->Prop)(ta:TE):TE:=fun σ H Q=>ta σ H fun x H1=>r x H1 Q
noncomputable def rI(C:Int->Int->Prop)(g:Int->Int->V):R2:=fun x y H Q=> ∃i j,x= .int i/\y= .int j/\C i j/\Q (g i j) H
noncomputable def rI0(g:Int->Int->V):R2:=fun x y H Q=> ∃i j,x= .int i/\y= .int j/\Q (g i j) H
noncomputable def rU(g:Int->V):V->Hp->VK->Prop:=fun x H Q=> ∃i,x= .int i/\Q (g i) H
section
variable{X:Cx}{a b c:Expr}{ta tb tc:TE}{pos:Pos}
theorem binT(ha:PE X a ta)(hb:PE X b tb){pins:List (Addr×Obj)}{s:Shared}{σ:St}{H:Hp}{R:V->V->Hp->Prop}(I:Inv X pins σ H s)
 (h:ta σ H fun x H1=>tb σ H1 fun y H2=>R x y H2) {Q:Value->Shared->Prop} {f:Value->Value->Sem Value}
 (hf: ∀v u s2 x y H2,Inv X pins σ H2 s2->RelV x v->RelV y u->R x y H2->wpAny (model X.prog X.w) X.A (f v u) Q X.xe s2):
 wpAny (model X.prog X.w) X.A (eval a X.env) (fun v s₁=>wpAny (model X.prog X.w) X.A (eval b X.env) (fun u s₂=>wpAny (model X.prog X.w) X.A (f v u) Q X.xe s₂) X.xe s₁) X.xe s:=by
 refine thn (ha pins s σ H _ I h) fun v s1 ⟨x,H1,I1,r1,q1⟩=> ?_
 refine thn (hb pins s1 σ H1 _ I1 q1) fun u s2 ⟨y,H2,I2,r2,q2⟩=> ?_
 exact hf v u s2 x y H2 I2 r1 r2 q2
theorem zdD{op:Operator}{r:R2}(ho:OpR X (binaryOp op) r)(ha:PE X a ta)(hb:PE X b tb):PE X (.BinOp a op b pos) (tOp r ta tb):=by
 intro pins s σ H Q I h
 exact wpAny_BinOp (binT ha hb I h fun v u s2 x y H2 I2 rx ry q=>ho pins s2 σ H2 x y v u Q I2 rx ry q)
theorem zbm{op:UnaryOp}{r:V->Hp->VK->Prop}(ho:UnR X (unaryOp op) r)(ha:PE X a ta):PE X (.UnaryOp op a pos) (tUn r ta):=by
 intro pins s σ H Q I h
 exact UnaryOp_ (thn (ha pins s σ H _ I h) fun v s1 ⟨x,H1,I1,r1,q1⟩=>ho pins s1 σ H1 x v Q I1 r1 q1)
theorem opI{f:Value->Value->Sem Value}{C:Int->Int->Prop}{g:Int->Int->Int}
 (rule: ∀(i j:Int) (t u:Tok) (s:Shared) (Q:Value->Shared->Prop) (E:Value->Shared->Prop),C i j->Q (.int (g i j) s.toks) {s with toks:=s.toks+1}->wpAny (model X.prog X.w) X.A (f (.int i t) (.int j u)) Q E s):
 OpR X f (rI C fun i j=> .int (g i j)):=by
 intro pins s σ H x y v u Q I rx ry h
 obtain⟨i,j,rfl,rfl,hc,q⟩:=h
 obtain⟨t,rfl⟩:=rx
 obtain⟨t',rfl⟩:=ry
 exact rule i j t t' s _ _ hc ⟨.int (g i j),H,I.tok _,⟨_,rfl⟩,q⟩
theorem opI0{f:Value->Value->Sem Value}{g:Int->Int->Int}
 (rule: ∀(i j:Int) (t u:Tok) (s:Shared) (Q:Value->Shared->Prop) (E:Value->Shared->Prop),Q (.int (g i j) s.toks) {s with toks:=s.toks+1}->wpAny (model X.prog X.w) X.A (f (.int i t) (.int j u)) Q E s):
 OpR X f (rI0 fun i j=> .int (g i j)):=by
 intro pins s σ H x y v u Q I rx ry h
 obtain⟨i,j,rfl,rfl,q⟩:=h
 obtain⟨t,rfl⟩:=rx
 obtain⟨t',rfl⟩:=ry
 exact rule i j t t' s _ _ ⟨.int (g i j),H,I.tok _,⟨_,rfl⟩,q⟩
theorem opB0{f:Value->Value->Sem Value}{g:Int->Int->Bool}
 (rule: ∀(i j:Int) (t u:Tok) (s:Shared) (Q:Value->Shared->Prop) (E:Value->Shared->Prop),Q (.bool (g i j)) s->wpAny (model X.prog X.w) X.A (f (.int i t) (.int j u)) Q E s):
 OpR X f (rI0 fun i j=> .bl (g i j)):=by
 intro pins s σ H x y v u Q I rx ry h
 obtain⟨i,j,rfl,rfl,q⟩:=h
 obtain⟨t,rfl⟩:=rx
 obtain⟨t',rfl⟩:=ry
 exact rule i j t t' s _ _ ⟨.bl (g i j),H,I,rfl,q⟩
noncomputable def CDiv(i j:Int):Prop:=0<j/\j<2^200
theorem zdE{x j:Int}(h1:0<j)(h2:j<2^200):Builtin.divisionGoesByPylong x j=false:=by
 refine PyProof.noPylong_of_log2 ?_
 have h3:j.natAbs.log2<200:=(Nat.log2_lt (by lia)).mpr (by lia)
 lia
noncomputable def CPow(i j:Int):Prop:=0<=j/\j<=1000000/\i.natAbs<2^64
noncomputable def CMul(i j:Int):Prop:=(-(2^64)<i/\i<2^64)\/(-(2^64)<j/\j<2^64)
theorem CMul.ok{i j:Int}(h:CMul i j):IntMulOk i j:=by
 rcases h with⟨h1,h2⟩|⟨h1,h2⟩
 ·exact .of_left (intBits_le_64 h1 h2)
 ·exact .of_right (intBits_le_64 h1 h2)
theorem zbn:OpR X (binaryOp .Add) (rI0 fun i j=> .int (i+j)):=opI0 fun _ _ _ _ _ _ _ q=>add_int q
theorem zbo:OpR X (binaryOp .Sub) (rI0 fun i j=> .int (i -j)):=opI0 fun _ _ _ _ _ _ _ q=>sub_int q
theorem zbp:OpR X (binaryOp .Mult) (rI CMul fun i j=> .int (i*j)):=opI fun _ _ _ _ _ _ _ hc q=>mul_int q hc.ok
theorem z9H:OpR X (binaryOp .FloorDiv) (rI CDiv fun i j=> .int (i/j)):=opI fun i j _ _ _ _ _ hc q=>by
 have h1:(0:Int)<j:=hc.1
 have h2:j<2^200:=hc.2
 exact floordiv_int (by lia) (by rw[Int.fdiv_eq_ediv_of_nonneg i (by lia)];exact q) (.inl (zdE h1 h2))
theorem zbq:OpR X (binaryOp .Mod) (rI (fun _ j=>0<j) fun i j=> .int (i %j)):=opI fun i j _ _ _ _ _ hc q=>by
 have h1:(0:Int)<j:=hc
 exact mod_int' (by lia) (by rw[Int.fmod_eq_emod_of_nonneg i (by lia)];exact q)
theorem zbr:OpR X (binaryOp .Pow) (rI CPow fun i j=> .int (i^j.toNat)):=opI fun _ _ _ _ _ _ _ hc q=>pow_int_small hc.1 hc.2.1 hc.2.2 q
theorem unI{f:Value->Sem Value}{g:Int->Int}
 (rule: ∀(i:Int) (t:Tok) (s:Shared) (Q:Value->Shared->Prop) (E:Value->Shared->Prop),Q (.int (g i) s.toks) {s with toks:=s.toks+1}->wpAny (model X.prog X.w) X.A (f (.int i t)) Q E s):
 UnR X f (rU fun i=> .int (g i)):=by
 intro pins s σ H x v Q I rx h
 obtain⟨i,rfl,q⟩:=h
 obtain⟨t,rfl⟩:=rx
 exact rule i t s _ _ ⟨.int (g i),H,I.tok _,⟨_,rfl⟩,q⟩
theorem z90:UnR X (unaryOp .USub) (rU fun i=> .int (-i)):=unI fun _ _ _ _ _ q=>neg_int q
theorem zdF:OpR X (compareOp .Lt) (rI0 fun i j=> .bl (decide (i<j))):=opB0 fun _ _ _ _ _ _ _ q=>lt_int q
theorem zdG:OpR X (compareOp .Gt) (rI0 fun i j=> .bl (decide (j<i))):=opB0 fun _ _ _ _ _ _ _ q=>gt_int q
theorem OpR.or{f:Value->Value->Sem Value}{r r':R2}(h:OpR X f r)(h':OpR X f r'):OpR X f (fun x y H Q=>r x y H Q\/r' x y H Q):=by
 intro pins s σ H x y v u Q I rx ry q
 rcases q with q|q
 ·exact h pins s σ H x y v u Q I rx ry q
 ·exact h' pins s σ H x y v u Q I rx ry q
theorem z1k(b:Expr){op:CmpOp}(h:op≠ .In:=by decide)(h2:op≠ .NotIn:=by decide):behindInMarks op b=false:=by
 have e1:(op==CmpOp.In)=false:=by cases op<;>first|rfl|exact absurd rfl h
 have e2:(op==CmpOp.NotIn)=false:=by cases op<;>first|rfl|exact absurd rfl h2
 cases b<;>simp[behindInMarks,e1,e2]
theorem z9I{op:CmpOp}{r:R2}(ho:OpR X (compareOp op) r)(ha:PE X a ta)(hb:PE X b tb)(hm:behindInMarks op b=false):PE X (.Compare a [op] [b] pos) (tOp r ta tb):=by
 intro pins s σ H Q I h
 exact wpAny_Compare1 (binT ha hb I h fun v u s2 x y H2 I2 rx ry q=>ho pins s2 σ H2 x y v u Q I2 rx ry q) hm
noncomputable def zdH(t:TE):TT:=fun σ H Q=>t σ H fun x H'=> ∃k,x= .bl k/\Q k H'
theorem z9J{op:CmpOp}{r:R2}(ho:OpR X (compareOp op) r)(ha:PE X a ta)(hb:PE X b tb)(hm:behindInMarks op b=false):PT X (.Compare a [op] [b] pos) (zdH (tOp r ta tb)):=by
 intro pins s σ H Q I h
 refine wpAny_isTrue_Compare1 (thn (ha pins s σ H _ I h) fun v s1 ⟨x,H1,I1,r1,q1⟩=>thn (hb pins s1 σ H1 _ I1 q1) fun u s2 ⟨y,H2,I2,r2,q2⟩=>
  thn (ho pins s2 σ H2 x y v u _ I2 r1 r2 q2) fun c s3 ⟨z,H3,I3,r3,k,e,q3⟩=> ?_) hm
 subst e
 cases r3
 exact wpAny_truthy_bool ⟨H3,I3,q3⟩
noncomputable def TruV(K:W.Frag)(x:V)(H:Hp)(k:Bool):Prop:=
 match x with
 | .non=>k=false
 | .bl b=>k=b
 | .int i=>k=(i !=0)
 | .str y=>y.length<=sizeLine/\k=((y.length:Int) !=0)
 | .byt y=>y.size<=sizeLine/\k=((y.size:Int) !=0)
 | .ref p=>(∃xs,SqL K H p xs/\k= !xs.isEmpty)\/(∃xs,SqT K H p xs/\k= !xs.isEmpty)\/∃kvs,H p=some (.dK kvs)/\k= !kvs.isEmpty
 |_=>False
theorem z5X{κ:Type}{kvs:List (κ×V)}{vs:List (κ×Value)}(r:KV kvs vs):(!vs.isEmpty)= !kvs.isEmpty:=by
 cases r<;>rfl
theorem z3f{xs:List V}{its:List Value}(r:Vals xs its):(!its.toArray.isEmpty)= !xs.isEmpty:=by
 cases r<;>simp
theorem z43:(sizeLine:Nat)<2^63:=by rw[sizeLine_eq];decide
theorem zbs:TruR X (fun x H Q=> ∃k,TruV X.K x H k/\Q k H):=by
 intro pins s σ H x v Q I rx h
 obtain⟨k,e,q⟩:=h
 have hl:=z43
 have hs:sizeLine=16777216:=sizeLine_eq
 cases x with
 |non=>
  cases rx
  have e':k=false:=e
  subst e'
  exact truthy_none ⟨H,I,q⟩
 |bl b=>
  cases rx
  have e':k=b:=e
  subst e'
  exact wpAny_truthy_bool ⟨H,I,q⟩
 |int i=>
  obtain⟨t,rfl⟩:=rx
  have e':k=(i !=0):=e
  subst e'
  exact PySem.P.truthy_int ⟨H,I,q⟩
 |str y=>
  obtain⟨t,rfl⟩:=rx
  obtain⟨hy,e'⟩:y.length<=sizeLine/\k=((y.length:Int) !=0):=e
  subst e'
  exact PySem.P.truthy_str (by lia) ⟨H,I.tok _,q⟩
 |byt y=>
  obtain⟨t,rfl⟩:=rx
  obtain⟨hy,e'⟩:y.size<=sizeLine/\k=((y.size:Int) !=0):=e
  subst e'
  exact W.truthy_bytes (by lia) ⟨H,I.tok _,q⟩
 |ref p=>
  cases rx
  have e':(∃xs,SqL X.K H p xs/\k= !xs.isEmpty)\/(∃xs,SqT X.K H p xs/\k= !xs.isEmpty)\/∃kvs,H p=some (.dK kvs)/\k= !kvs.isEmpty:=e
  rcases e' with⟨xs,hx,e'⟩|⟨xs,hx,e'⟩|⟨kvs,hx,e'⟩
  ·subst e'
   obtain⟨its,r,pl,hz⟩:=I.list hx
   have hlen:=r.length
   exact wpAny_truthy_list pl.isList (by simp only[List.size_toArray];lia) ⟨H,I.tok _,by rw[z3f r];exact q⟩
  ·subst e'
   obtain⟨its,r,pl,hz⟩:=I.tuple hx
   have hlen:=r.length
   exact truthy_tuple pl (by simp only[List.size_toArray];lia) ⟨H,I.tok _,by rw[z3f r];exact q⟩
  ·subst e'
   obtain⟨hz,hS,vs,r,m⟩:kvs.length<=sizeLine/\(p==sysModules)=false/\∃vs,KV kvs vs/\s.heap.DictOf (z0f X.prog X.w) p vs:=I.hok p _ hx
   have hlen:kvs.length=vs.length:=Paired.length r
   exact wpAny_truthy_dict hS m (by lia) ⟨H,I.tok _,by rw[z5X r];exact q⟩
 |_=>exact(show False from e).elim
theorem z89(ha:PE X a ta)(he: ∀whole,isTrue a X.env whole=(do let v<-whole;standAt a.pos;holding [v] (truthy v))):
 PT X a (fun σ H Q=>ta σ H fun x H'=> ∃k,TruV X.K x H' k/\Q k H'):=by
 intro pins s σ H Q I h
 exact isTrue_plain (thn (ha pins s σ H _ I h) fun v s1 ⟨x,H1,I1,r1,q1⟩=>zbs pins s1 σ H1 x v Q I1 r1 q1) (he _)
theorem z5Y:OpR X (binaryOp .Add) (fun x y H Q=> ∃i j,x= .str i/\y= .str j/\i.length+j.length<=sizeLine/\Q (.str (i++j)) H):=by
 intro pins s σ H x y v u Q I rx ry h
 obtain⟨i,j,rfl,rfl,hz,q⟩:=h
 obtain⟨t,rfl⟩:=rx
 obtain⟨t',rfl⟩:=ry
 exact add_str (fun t' tk=>⟨.str (i++j),H,I.tok _,⟨_,rfl⟩,q⟩) hz
theorem z44{x:V}{us:List Value}(r:Vals [x] us): ∃u,us=[u]/\RelV x u:=by
 cases r with
 |cons r1 r2=>cases r2;exact⟨_,rfl,r1⟩
theorem z9K{x y:V}{us:List Value}(r:Vals [x,y] us): ∃u w',us=[u,w']/\RelV x u/\RelV y w':=by
 cases r with
 |cons r1 r2=>
  cases r2 with
  |cons r3 r4=>cases r4;exact⟨_,_,rfl,r1,r3⟩
theorem z8a:CallR X (.builtin "abs") (fun xs H Q=> ∃i,xs=[.int i]/\Q (.int (if i<0 then -i else i)) H):=by
 intro pins s σ H xs us Q I r h
 obtain⟨i,rfl,q⟩:=h
 obtain⟨u,rfl,t,rfl⟩:=z44 r
 exact call_abs_int fun u tk=>⟨.int (if i<0 then -i else i),H,I.tok _,⟨_,rfl⟩,q⟩
theorem z6G(hc:X.calm=true):CallR X (.builtin "max") (fun xs H Q=> ∃i j,xs=[.int i, .int j]/\Q (.int (if j>i then j else i)) H):=by
 intro pins s σ H xs us Q I r h
 obtain⟨i,j,rfl,q⟩:=h
 obtain⟨u,w',rfl,⟨t,rfl⟩,⟨t',rfl⟩⟩:=z9K r
 refine max_two_ints (I.ok.hd hc) fun h' tk k=>⟨_,H,I.kept k, ?_,q⟩
 by_cases hj:j>i
 ·rw[if_pos hj,if_pos hj];exact⟨_,rfl⟩
 ·rw[if_neg hj,if_neg hj];exact⟨_,rfl⟩
theorem z6H(hc:X.calm=true):CallR X (.builtin "min") (fun xs H Q=> ∃i j,xs=[.int i, .int j]/\Q (.int (if j<i then j else i)) H):=by
 intro pins s σ H xs us Q I r h
 obtain⟨i,j,rfl,q⟩:=h
 obtain⟨u,w',rfl,⟨t,rfl⟩,⟨t',rfl⟩⟩:=z9K r
 refine min_two_ints (I.ok.hd hc) fun h' tk k=>⟨_,H,I.kept k, ?_,q⟩
 by_cases hj:j<i
 ·rw[if_pos hj,if_pos hj];exact⟨_,rfl⟩
 ·rw[if_neg hj,if_neg hj];exact⟨_,rfl⟩
theorem z6I:CallR X (.type "int") (fun xs H Q=>(∃i,xs=[.int i]/\Q (.int i) H)\/∃k,xs=[.bl k]/\Q (.int (if k then 1 else 0)) H):=by
 intro pins s σ H xs us Q I r h
 rcases h with⟨i,rfl,q⟩|⟨k,rfl,q⟩
 ·obtain⟨u,rfl,t,rfl⟩:=z44 r
  exact call_int_int ⟨.int i,H,I,⟨_,rfl⟩,q⟩
 ·obtain⟨u,rfl,r1⟩:=z44 r
  cases r1
  exact call_int_bool ⟨.int (if k then 1 else 0),H,I.tok _,⟨_,rfl⟩,q⟩
end
structure ObjM(h:Heap)(x dx C:Addr)(mA:Str->Option Value):Prop where
 obj:h.get? x=some (W.instObj C dx)
 ns:h.Ns1 dx mA
 ne:dx≠x
theorem RelO.some_of{v:V}{o:Option Value}(r:RelO (some v) o): ∃u,o=some u/\RelV v u:=by
 cases o with
 |none=>exact(show False from r).elim
 |some u=>exact⟨u,rfl,r⟩
structure Cls(K:W.Frag)(C:Addr):Prop where
 pg:W.plainGet K C Str.empty=true
 hd:W.hasDictIn K C=true
 po:W.plainOver K C=true
 sa:W.findIn K (.ref C) "__setattr__" =some (some (.builtin "object.__setattr__"))
structure Con(K:W.Frag)(C:Addr)(f:Str)(v:V)(u:Value):Prop where
 at_:W.findIn K (.ref C) f=some (some u)
 rel:RelV v u
 get:W.specialIn K u "__get__" =some none
 cp:W.copiedNames.contains f=false
structure Meth(K:W.Frag)(C:Addr)(m:Str)(f:Addr):Prop where
 at_:W.findIn K (.ref C) m=some (some (.ref f))
 fn:W.isFn K (.ref f)=true
 kp:W.keepIn K (.ref f)=true
section
variable{X:Cx}{pins:List (Addr×Obj)}{σ:St}{H:Hp}{s:Shared}{A:Around}{E:Value->Shared->Prop}{Q:Value->Shared->Prop}{c:Value}{b:Bool}
inductive TyOf(K:W.Frag)(H:Hp):V->Value->Prop where
 |non:TyOf K H .non (.type "NoneType")
 |bl (x:Bool):TyOf K H (.bl x) (.type "bool")
 |int (i:Int):TyOf K H (.int i) (.type "int")
 |str (x:Str):TyOf K H (.str x) (.type "str")
 |flt (x:UInt64):TyOf K H (.flt x) (.type "float")
 |lst {a:Addr} {xs:List V} (e:H a=some (.lst xs)):TyOf K H (.ref a) (.type "list")
 |frz {a:Addr} {o:Obj} {xs:List V} (e:H a=some (.frz o (.lst xs))):TyOf K H (.ref a) (.type "list")
 |tup {a:Addr} {xs:List V} (e:H a=some (.tup xs)):TyOf K H (.ref a) (.type "tuple")
 |dK {a:Addr} {kvs:List (Key×V)} (e:H a=some (.dK kvs)):TyOf K H (.ref a) (.type "dict")
 |dT {a:Addr} {kvs:List (NK×V)} (e:H a=some (.dT kvs)):TyOf K H (.ref a) (.type "dict")
 |ins {a C dx:Addr} {fs:List (Str×V)} (e:H a=some (.ins C dx fs)) (cl:Cls K C) (ha:W.findIn K (.ref C) "__class__" =some (some (.builtin "object.__class__")))
  (hn:W.specialIn K (.builtin "object.__class__") "__get__" =some (some (.builtin "getset_descriptor.__get__"))) (htk:W.takesIn K (.builtin "object.__class__")=some true)
  (hm:W.mroIn K C (.type "object")=some true):TyOf K H (.ref a) (.ref C)
end
structure Room(k:Nat)(A:Around):Prop where
 hd:A.handled=none
 dp:A.depth+3*k+5<recursionLimit
 un:A.units+16*k+200<cLine
 gd:A.guards=some []
theorem Room.mono{j k:Nat}{A:Around}(r:Room k A)(h:j<=k):Room j A:=⟨r.hd,by have:=r.dp;lia,by have:=r.un;lia,r.gd⟩
theorem Room.deeper{k:Nat}{A:Around}(r:Room (k+1) A)(env:Env):Room k (A.deeper env):=
 ⟨r.hd,by have:=r.dp;show A.depth+1+3*k+5<_;lia,by have:=r.un;show A.units+3+16*k+200<_;lia,r.gd⟩
theorem Room.depth{k:Nat}{A:Around}(r:Room k A):A.depth<recursionLimit:=by have:=r.dp;lia
theorem Room.units{k:Nat}{A:Around}(r:Room k A):A.units+64<cLine:=by have:=r.un;lia
noncomputable def tNil:TA:=fun _ H Q=>Q [] H
noncomputable def zdI(ta:TE)(tr:TA):TA:=fun σ H Q=>ta σ H fun x H1=>tr σ H1 fun xs H2=>Q (x::xs) H2
section
variable{X:Cx}{e:Expr}{es:List Expr}{te:TE}{t:TA}{pos:Pos}
theorem z91:PA X [] tNil:=fun _ _ _ _ H Q I h=>Calls.spliced_nil ⟨[],H,I, .nil,h⟩
theorem z4Q(ha:PE X e te)(hr:PA X es t)(hs:starEach (e::es) X.env=(false,eval e X.env)::starEach es X.env:=by rfl):PA X (e::es) (zdI te t):=by
 intro pos pins s σ H Q I h
 rw[hs]
 show wpAny _ _ (spliced ((false,eval e X.env)::backTo pos (starEach es X.env))) _ _ s
 refine Calls.spliced_cons (thn (ha pins s σ H _ I h) fun u s1 ⟨x,H1,I1,r1,q1⟩=> ?_)
 exact thn (hr pos pins s1 σ H1 _ I1 q1) fun us s2 ⟨xs,H2,I2,r2,q2⟩=>⟨x::xs,H2,I2, .cons r1 r2,q2⟩
noncomputable def tTup(t:TA):TE:=fun σ H Q=>t σ H fun xs H1=>xs.length<=sizeLine/\∀p,H1 p=none->Q (.ref p) (upd H1 p (.tup xs))
noncomputable def tLst(t:TA):TE:=fun σ H Q=>t σ H fun xs H1=>xs.length<=sizeLine/\∀p,H1 p=none->Q (.ref p) (upd H1 p (.lst xs))
theorem zbt{x1}(h:PA X es t):PE X (.Tuple es x1 pos) (tTup t):=by
 intro pins s σ H Q I hq
 refine wpAny_Tuple_spliced (thn (h pos pins s σ H _ I hq) fun us s1 ⟨xs,H1,I1,r,z,q⟩=>⟨by rw[<-r.length];exact z, ?_⟩)
 have hf:H1 s1.heap.objs.size=none:=I1.hok.fresh (Nat.le_refl _)
 refine⟨.ref s1.heap.objs.size,upd H1 s1.heap.objs.size (.tup xs),I1.laid (t':=s1.toks) (fun b u e=>Heap.get?_push_of_some _ e) (Nat.le_refl _) ?_,rfl,q _ hf⟩
 exact⟨z,us,r,⟨_,Heap.get?_push_size _ rfl,rfl,_,rfl⟩⟩
theorem zbu(h:PA X es t):PE X (.List es pos) (tLst t):=by
 intro pins s σ H Q I hq
 refine wpAny_List_spliced (thn (h pos pins s σ H _ I hq) fun us s1 ⟨xs,H1,I1,r,z,q⟩=>⟨by rw[<-r.length];exact z, ?_⟩)
 have hf:H1 s1.heap.objs.size=none:=I1.hok.fresh (Nat.le_refl _)
 refine⟨.ref s1.heap.objs.size,upd H1 s1.heap.objs.size (.lst xs),I1.laid (t':=s1.toks) (fun b u e=>Heap.get?_push_of_some _ e) (Nat.le_refl _) ?_,rfl,q _ hf⟩
 exact⟨z,us,0,r,Heap.get?_push_size _ rfl⟩
end
noncomputable abbrev Sp:=List V->Hp->VK->XK->Prop
noncomputable abbrev CXT:=List Env->Hp->Shared->XK->Value->Shared->Prop
structure Env0(P:Program)(w:World)(K:W.Frag)(mg:Str->Option Value)(base:Heap)(A:Around)(outer:List Env)(s:Shared)(H:Hp):Prop where
 frames:A.frames=some outer
 mod:Mod K mg base
 bs: ∀b o,base.get? b=some o->s.heap.get? b=some o/\H b=none
 bsz:base.objs.size<=s.heap.objs.size
 funs:s.heap.FunFrames base outer
 frf: ∀b∈frs outer,H b=none
 hok:HOk P w H s.heap
 bare:AllBare s.gens
noncomputable def CE(outer:List Env)(P:Program)(w:World)(H:Hp)(s:Shared)(Q:VK)(u:Value)(s':Shared):Prop:=
 ∃v H',s'.os=s.os/\AllBare s'.gens/\Un (frs outer) [] H H' s.heap s'.heap/\HOk P w H' s'.heap/\RelV v u/\Q v H'
noncomputable def CR(CX:CXT)(outer:List Env)(P:Program)(w:World)(H:Hp)(s:Shared)(Q:VK)(E:XK)(r:Result)(s':Shared):Prop:=
 match r with
 | .ok (.ret u)=>CE outer P w H s Q u s'
 | .ok _=>False
 | .error e=>CX outer H s E e s'
structure FnOk(P:Program)(w:World)(K:W.Frag)(mg:Str->Option Value)(base:Heap)(CX:CXT)(k:Nat)(f:Addr)(fd:FuncData)(ps:List Str)(sp:Sp):Prop where
 len: ∀vs H Q E,sp vs H Q E->vs.length=ps.length
 run: ∀(A:Around) (outer:List Env) (s:Shared) (H:Hp) (args:Args) (us:List Value) (vs:List V) (Q:VK) (E:XK),Room k A->Env0 P w K mg base A outer s H->BindsTo s fd args (ps.zip us)->Vals vs us->sp vs H Q E->
  codeAny (model P w) A (.call (.ref f) args) (CR CX outer P w H s Q E) s
theorem FnOk.mono{P:Program}{w:World}{K:W.Frag}{mg:Str->Option Value}{base:Heap}{CX:CXT}{j k:Nat}{f:Addr}{fd:FuncData}{ps:List Str}{sp:Sp}(F:FnOk P w K mg base CX j f fd ps sp)(h:j<=k):
 FnOk P w K mg base CX k f fd ps sp:=⟨F.len,fun A outer s H args us vs Q E hr=>F.run A outer s H args us vs Q E (hr.mono h)⟩
section
variable{X:Cx}{pins:List (Addr×Obj)}{σ:St}{H:Hp}{s s':Shared}
theorem Inv.env0(I:Inv X pins σ H s):Env0 X.prog X.w X.K X.mg X.base X.A X.stack s H:=
 ⟨I.ok.frames,I.ok.mod,I.bs,Nat.le_trans I.ok.bsz I.sz,I.stack,I.stkFree,I.hok,I.bare⟩
theorem Inv.after{Q:VK}{u:Value}(I:Inv X pins σ H s)(h:CE X.stack X.prog X.w H s Q u s'):EP X pins σ Q u s':=by
 obtain⟨v,H',os,bare,un,hok,r,q⟩:=h
 obtain⟨hh,g,d,t,os'⟩:=s'
 obtain rfl:os'=s.os:=os
 exact⟨v,H',I.call (h':=hh) (g':=g) (d':=d) (t':=t) (ch:=[]) un hok bare (fun b z=>absurd z (by simp)),r,q⟩
end
noncomputable def zdJ(sp:Sp)(dvs:List V)(E:XK)(t:TA):TE:=fun σ H Q=>t σ H fun vs H1=>sp (vs++dvs) H1 Q E
noncomputable def z38(K:W.Frag)(fd:FuncData)(ps:List Str)(ds:List Value):Prop:=
 ∀(s:Shared) (us:List Value),K.In s.heap->(us++ds).length=ps.length->BindsTo s fd ⟨us,[]⟩ (ps.zip (us++ds))
theorem z38.all{K:W.Frag}{fd:FuncData}{ps:List Str}(h: ∀us:List Value,us.length=ps.length->bindArgs fd ⟨us,[]⟩=pure (ps.zip us)):z38 K fd ps []:=fun s us _ hl=>by
 rw[List.append_nil] at hl⊢
 exact .of_eq (h us hl)
noncomputable def z3g(CX:CXT)(X:Cx)(E:XK):Prop:= ∀(pins:List (Addr×Obj)) (σ:St) (H:Hp) (s:Shared) (e:Value) (s':Shared),Inv X pins σ H s->CX X.stack H s E e s'->X.xe e s'
section
variable{X:Cx}{CX:CXT}{k:Nat}{f C:Addr}{fd:FuncData}{ps:List Str}{sp:Sp}{dvs:List V}{ds:List Value}{E:XK}{x m:Str}{p pos apos:Pos}{e o:Expr}{es:List Expr}{ta:TE}{t:TA}
theorem zbv{pins:List (Addr×Obj)}{σ:St}{H:Hp}{s:Shared}{Q:VK}{us:List Value}{vs:List V}(F:FnOk X.prog X.w X.K X.mg X.base CX k f fd ps sp)(hr:Room k X.A)(hb:z38 X.K fd ps ds)(hd:Vals dvs ds)(hx:z3g CX X E)
 (I:Inv X pins σ H s) (r:Vals vs us) (h:sp (vs++dvs) H Q E):wpAny (model X.prog X.w) X.A (call (.ref f) us) (EP X pins σ Q) X.xe s:=by
 have r2:Vals (vs++dvs) (us++ds):=r.append hd
 have hl:(us++ds).length=ps.length:=by rw[<-r2.length];exact F.len _ _ _ _ h
 refine wpAny_call (codeAny_mono (F.run X.A X.stack s H ⟨us,[]⟩ (us++ds) (vs++dvs) Q E hr I.env0 (hb s us I.kIn hl) r2 h) fun r s' hq=> ?_)
 cases r with
 |error e=>exact hx pins σ H s e s' I hq
 |ok fl=>
  cases fl with
  |ret u=>exact I.after hq
  |next=>exact False.elim hq
  |brk=>exact False.elim hq
  |cont=>exact False.elim hq
theorem z9L(F:FnOk X.prog X.w X.K X.mg X.base CX k f fd ps sp)(hr:Room k X.A)(hg:Gl X x)(hm:X.mg x=some (.ref f))(hk:W.keepIn X.K (.ref f)=true)(hb:z38 X.K fd ps ds)(hd:Vals dvs ds)(hx:z3g CX X E)
 (ha:PA X (e::es) t) (hdb:(x==("__debug__" :Str))=false:=by decide) (he:starEach (e::es) X.env=(false,eval e X.env)::starEach es X.env:=by rfl) (hpl:(backTo pos (starEach es X.env)).any (·.1)=false:=by rfl):
 PE X (.Call (.Name x p) (e::es) [] pos) (zdJ sp dvs E t):=by
 intro pins s σ H Q I h
 refine wpAny_Call_Name_kw (z9B I hg hm ?_ hdb)
 refine W.callWith_K (h₀:=X.base) I.ok.mod.kin hk (thn (ha pos pins s σ H _ I h) fun us s1 ⟨vs,H1,I1,r,q⟩=>⟨I1.kIn, ?_⟩) he hpl
 exact zbv F hr hb hd hx I1 r q
structure Mk(K:W.Frag)(C f:Addr):Prop where
 makes:W.makesIn K C=true
 init:W.findIn K (.ref C) "__init__" =some (some (.ref f))
 fn:W.isFn K (.ref f)=true
 kp:W.keepIn K (.ref C)=true
end
section
variable{X:Cx}{CX:CXT}{k:Nat}{f C:Addr}{fd:FuncData}{ps ks:List Str}{sp:Sp}{E:XK}{x m:Str}{p pos apos kpos:Pos}{e o:Expr}{es:List Expr}{kws:List Keyword}{te ta:TE}{t tk:TA}{nm:Option Str}
structure zf6(K:W.Frag)(fd:FuncData)(ps ks:List Str)(g:List Value->List Value->List Value)(gV:List V->List V->List V):Prop where
 to: ∀(s:Shared) (us ws:List Value),K.In s.heap->(g us ws).length=ps.length->BindsTo s fd ⟨us,ks.zip ws⟩ (ps.zip (g us ws))
 rel: ∀{vs:List V} {us:List Value} {zs:List V} {ws:List Value},Vals vs us->Vals zs ws->Vals (gV vs zs) (g us ws)
variable{g:List Value->List Value->List Value}{gV:List V->List V->List V}
end
structure z0p(N P:List Str)(sc:Scope):Prop where
 kind:sc.kind= .function
 co:sc.isCoroutine=false
 gen:sc.isGenerator=false
 nd:N.Nodup
 pre:N.take P.length=P
 par: ∀x∈P,sc.names.lookup x=some .local\/sc.names.lookup x=some .cell
 nofree: ∀y∈sc.names,y.2≠ .free
theorem z45{kindOf:Str->Option NameKind}{x:Str}: ∀{binds:List (Str×Value)} {m:Str->Option Value},(∀v,(x,v)∉binds)->bindL kindOf binds m x=m x
 |[],_,_=>rfl
 |(n,v)::r,m,h=>by
  unfold bindL
  rw[z45 fun w hw=>h w (List.mem_cons_of_mem _ hw)]
  split
  ·have:x≠n:=by rintro rfl;exact h v List.mem_cons_self
   simp[this]
  ·rfl
theorem z46{kindOf:Str->Option NameKind}{x:Str}: ∀{binds:List (Str×Value)} {m:Str->Option Value},(∀v,(x,v)∉binds)->bindC kindOf binds m x=m x
 |[],_,_=>rfl
 |(n,v)::r,m,h=>by
  unfold bindC
  rw[z46 fun w hw=>h w (List.mem_cons_of_mem _ hw)]
  split
  ·rfl
  ·have:x≠n:=by rintro rfl;exact h v List.mem_cons_self
   simp[this]
theorem z47{kindOf:Str->Option NameKind}{x:Str}{v:Value}: ∀{P:List Str} {vs:List Value} {i:Nat} {m:Str->Option Value},P.Nodup->P[i]? =some x->vs[i]? =some v->kindOf x=some .local->
 bindL kindOf (P.zip vs) m x=some v
 |[],_,_,_,_,h,_,_=>by simp at h
 |_::_,[],_,_,_,_,h,_=>by simp at h
 |p::P,w::vs,0,m,nd,h1,h2,hk=>by
  simp at h1 h2;subst h1;subst h2
  show bindL kindOf ((p,w)::P.zip vs) m p=_
  unfold bindL
  rw[z45 fun v hv=>(List.nodup_cons.mp nd).1 (List.of_mem_zip hv).1,if_pos hk]
  simp
 |p::P,w::vs,i+1,m,nd,h1,h2,hk=>by
  show bindL kindOf ((p,w)::P.zip vs) m x=_
  unfold bindL
  exact z47 (i:=i) (List.nodup_cons.mp nd).2 (by simpa using h1) (by simpa using h2) hk
theorem z48{kindOf:Str->Option NameKind}{x:Str}{v:Value}: ∀{P:List Str} {vs:List Value} {i:Nat} {m:Str->Option Value},P.Nodup->P[i]? =some x->vs[i]? =some v->kindOf x≠some .local->
 bindC kindOf (P.zip vs) m x=some v
 |[],_,_,_,_,h,_,_=>by simp at h
 |_::_,[],_,_,_,_,h,_=>by simp at h
 |p::P,w::vs,0,m,nd,h1,h2,hk=>by
  simp at h1 h2;subst h1;subst h2
  show bindC kindOf ((p,w)::P.zip vs) m p=_
  unfold bindC
  rw[z46 fun v hv=>(List.nodup_cons.mp nd).1 (List.of_mem_zip hv).1,if_neg hk]
  simp
 |p::P,w::vs,i+1,m,nd,h1,h2,hk=>by
  show bindC kindOf ((p,w)::P.zip vs) m x=_
  unfold bindC
  exact z48 (i:=i) (List.nodup_cons.mp nd).2 (by simpa using h1) (by simpa using h2) hk
noncomputable def z49(N:List Str)(vs:List V):St:=vs.map some++List.replicate (N.length -vs.length) none
noncomputable def cxOf(CX:CXT)(P:Program)(w:World)(K:W.Frag)(mg:Str->Option Value)(base:Heap)(N:List Str)(qual:Str)(scope:Scope)(f:Addr)(cd:Value)(A:Around)(outer:List Env)(s:Shared)(H:Hp)(E:XK):Cx where
 prog:=P
 w:=w
 K:=K
 mg:=mg
 base:=base
 A:=A.deeper (envOfC qual scope s.heap.objs.size f cd)
 N:=N
 s₀:=s
 H₀:=H
 env:=envOfC qual scope s.heap.objs.size f cd
 outer:=outer
 stack:=envOfC qual scope s.heap.objs.size f cd::outer
 ex:=[]
 calm:=true
 fn:=fun _=>true
 pn:=[]
 xe:=fun e s'=>wpAny (model P w) (A.deeper (envOfC qual scope s.heap.objs.size f cd)) (leaving (envOfC qual scope s.heap.objs.size f cd) e) (fun _ s''=>CX outer H s E e s'') (fun e' s''=>CX outer H s E e' s'') s'
theorem z5r{sc:Scope}{n:Nat}{x:Str}(h:sc.names.lookup x=some .cell): ∃c,(cellsFrom n sc.names []).lookup x=some c:=by
 have q:=W.cellsFrom_some sc.names n [] (.inl h)
 exact Option.isSome_iff_exists.mp q
theorem z6J{CX:CXT}{P:Program}{w:World}{K:W.Frag}{mg:Str->Option Value}{base:Heap}{N ps:List Str}{qual:Str}{scope:Scope}{f:Addr}{cd:Value}{A:Around}{outer:List Env}{s s1:Shared}{H:Hp}{E:XK}{us:List Value}{vs:List V}
 (S:z0p N ps scope) (hd:A.handled=none) (e0:Env0 P w K mg base A outer s H) (hl:vs.length=ps.length) (r:Vals vs us)
 (x:InCallC s s.heap.objs.size (bindL (envOfC qual scope s.heap.objs.size f cd).kindOf (ps.zip us) fun _=>none) (cellsFrom (s.heap.objs.size+1) scope.names []) (bindC (envOfC qual scope s.heap.objs.size f cd).kindOf (ps.zip us) fun _=>none) s1):
 Inv (cxOf CX P w K mg base N qual scope f cd A outer s H E) [] (z49 N vs) H s1:=by
 have hpl:ps.length<=N.length:=by have:=congrArg List.length S.pre;rw[List.length_take] at this;lia
 obtain⟨h1,tk,rfl,hk⟩:=x.done
 have noA: ∀b:Addr,b∉(cxOf CX P w K mg base N qual scope f cd A outer s H E).ex:=fun b z=>absurd (show b∈([]:List Addr) from z) (by simp)
 refine⟨⟨e0.mod,S.kind,rfl,rfl,Nat.le_refl _,fun y z c h1 h2=> ?_,fun y hy=> ?_,fun y c _ h=> ?_,fun _=>hd,Around.frames_deeper e0.frames, .inr ⟨rfl,rfl⟩,fun b z=>absurd z (noA b),e0.bs,e0.bsz,fun b _ _=>noA b,fun b z=>absurd z (noA b),e0.funs,e0.frf⟩,
  rfl,e0.bare,Un.kept hk,⟨_,x.toInCall.ns,fun i y v h1 h2 h3=> ?_⟩,fun y c h=>⟨_,x.cell y c h⟩,e0.hok.fresh (Nat.le_refl _),fun y c h=> ?_,fun p hp=>absurd (show p∈([]:List (Addr×Obj)) from hp) (by simp),e0.hok.kept hk, ?_⟩
 ·exact name_of_addr x.apart (PySem.mem_of_lookup h1) (PySem.mem_of_lookup h2)
 ·have hy:scope.names.lookup y=some .cell\/scope.names.lookup y=some .free:=hy
  rcases hy with hy|hy
  ·exact z5r hy
  ·exact absurd rfl (S.nofree _ (PySem.mem_of_lookup hy))
 ·exact Nat.le_of_lt (x.above y c (PySem.mem_of_lookup h))
 ·have hi:i<vs.length:=by
   unfold z49 at h2
   by_cases hi:i<vs.length
   ·exact hi
   ·rw[List.getElem?_append_right (by simpa using hi)] at h2
    rw[List.getElem?_replicate] at h2
    split at h2<;>cases h2
  have ha:vs[i]? =some v:=by
   unfold z49 at h2
   rw[List.getElem?_append_left (by simpa using hi),List.getElem?_map] at h2
   cases e:vs[i]? with
   |none=>rw[e] at h2;cases h2
   |some a=>rw[e] at h2;cases h2;rfl
  obtain⟨u,hu,rv⟩:=r.get ha
  have hp:ps[i]? =some y:=by
   rw[<-S.pre,List.getElem?_take_of_lt (by lia)];exact h1
  have ndP:ps.Nodup:=by rw[<-S.pre];exact S.nd.sublist (List.take_sublist _ _)
  refine⟨u,rv, ?_⟩
  rcases S.par y (List.mem_of_getElem? hp) with k|k
  ·exact .inl ⟨k,z47 ndP hp hu k⟩
  ·obtain⟨c,e⟩:=z5r (n:=s.heap.objs.size+1) k
   refine .inr ⟨.inl k,c,e, ?_⟩
   have q:=x.cell y c e
   rw[z48 ndP hp hu (by show scope.names.lookup y≠_;rw[k];decide)] at q
   exact q
 ·exact e0.hok.fresh (Nat.le_of_lt (x.above y c (PySem.mem_of_lookup h)))
 ·unfold z49
  show _=N.length
  rw[List.length_append,List.length_map,List.length_replicate]
  lia
theorem zdK{CX:CXT}{P:Program}{w:World}{K:W.Frag}{mg:Str->Option Value}{base:Heap}{k:Nat}{f:Addr}{name qual:Str}{params:Arguments}{body:List Stmt}{scope:Scope}{dV kV doc pm cdv ct oc:Value}{an od:Option Addr}
 {osl:Array (Option Value)} {N ps:List Str} {sp:Sp} (lk:K.lookup f=some ⟨oc,od, .func (W.fnOf name qual params body scope dV kV doc pm an cdv ct),osl⟩) (hcd:W.codeIn K cdv qual=true) (S:z0p N ps scope)
 (len: ∀vs H Q E,sp vs H Q E->vs.length=ps.length)
 (hbody: ∀(A:Around) (outer:List Env) (s:Shared) (H:Hp) (vs:List V) (Q:VK) (E:XK),Room k (A.deeper (envOfC qual scope s.heap.objs.size f cdv))->sp vs H Q E->
  ∃t,PSs (cxOf CX P w K mg base N qual scope f cdv A outer s H E) body t/\t {nx:=fun _ H'=>Q .non H',rt:=Q} (z49 N vs) H):
 FnOk P w K mg base CX (k+1) f (W.fnOf name qual params body scope dV kV doc pm an cdv ct) ps sp:=by
 refine⟨len,fun A outer s H args us vs Q E hr e0 hb r hsp=> ?_⟩
 have hl:=len _ _ _ _ hsp
 have KX:K.In s.heap:=e0.mod.kin.keeps fun b o e=>(e0.bs b o e).1
 have lim:s.heap.NoLimit:=e0.mod.nolimit.keeps fun b o e=>(e0.bs b o e).1
 have hkind: ∀y∈ps.zip us,scope.names.lookup y.1=some .local\/(scope.names.lookup y.1=some .cell/\((cellsFrom (s.heap.objs.size+1) scope.names []).lookup y.1).isSome=true):=fun⟨n,v⟩ hy=>by
  rcases S.par n (List.of_mem_zip hy).1 with q|q
  ·exact .inl q
  ·exact .inr ⟨q,W.cellsFrom_some _ _ _ (.inl q)⟩
 refine codeAny_call_function hr.depth (KX _ _ lk) rfl S.co S.gen rfl (W.codeRec_of KX hcd) (hb _ _ _ _ ?_)
 refine wpAny_newFunctionEnv_cells S.kind hkind fun env he s1 x=> ?_
 subst he
 refine⟨lim.keeps x.toInCall.keep,codeAny_func ?_⟩
 obtain⟨t,ht,hq⟩:=hbody A outer s H vs Q E (hr.deeper _) hsp
 have I:Inv (cxOf CX P w K mg base N qual scope f cdv A outer s H E) [] (z49 N vs) H s1:=z6J S hr.hd e0 hl r x
 refine wpAny_mono (ht [] s1 (z49 N vs) H _ I hq) (fun fl s' hs=> ?_) fun e s' hs=>hs
 have fin: ∀{σ':St} {H':Hp} {v:V} {u:Value},Inv (cxOf CX P w K mg base N qual scope f cdv A outer s H E) [] σ' H' s'->RelV v u->Q v H'->CE outer P w H s Q u s':=
  fun{σ' H' v u} J rv q=>⟨v,H',J.os,J.bare,J.base,J.hok,rv,q⟩
 cases fl with
 |ret u=>
  obtain⟨v,σ',H',J,rv,q⟩:=hs
  exact fin J rv q
 |next=>
  obtain⟨σ',H',J,q⟩:=hs
  exact fin (v:=V.non) (u:=Value.none) J rfl q
 |brk=>
  obtain⟨_,_,_,q⟩:=hs
  exact False.elim q
 |cont=>
  obtain⟨_,_,_,q⟩:=hs
  exact False.elim q
section
variable{X:Cx}{x:Str}{p pos:Pos}{e:Expr}{es:List Expr}{t:TA}{id T:String}{r:List V->Hp->VK->Prop}
noncomputable def tCB(r:List V->Hp->VK->Prop)(t:TA):TE:=fun σ H Q=>t σ H fun vs H1=>r vs H1 Q
theorem z5s(hc:CallR X (.builtin id) r)(hg:Gl X x)(hm:X.mg x=none)(hv:bootBuiltins x=some (.builtin id))(ha:PA X (e::es) t)(hn:x≠ "__name__" :=by decide)(hdb:(x==("__debug__" :Str))=false:=by decide)
 (he:starEach (e::es) X.env=(false,eval e X.env)::starEach es X.env:=by rfl) (hpl:(backTo pos (starEach es X.env)).any (·.1)=false:=by rfl):PE X (.Call (.Name x p) (e::es) [] pos) (tCB r t):=by
 intro pins s σ H Q I h
 refine wpAny_Call_Name_kw (z3e I hg hm hv ?_ hn hdb)
 exact PyProof.Rows.callWith_builtin1 (thn (ha pos pins s σ H _ I h) fun us s1 ⟨vs,H1,I1,r1,q1⟩=>hc pins s1 σ H1 vs us Q I1 r1 q1) he hpl
theorem z6K(hc:CallR X (.type T) r)(hg:Gl X x)(hm:X.mg x=none)(hv:bootBuiltins x=some (.type T))(ha:PA X (e::es) t)(hn:x≠ "__name__" :=by decide)(hdb:(x==("__debug__" :Str))=false:=by decide)
 (he:starEach (e::es) X.env=(false,eval e X.env)::starEach es X.env:=by rfl) (hpl:(backTo pos (starEach es X.env)).any (·.1)=false:=by rfl):PE X (.Call (.Name x p) (e::es) [] pos) (tCB r t):=by
 intro pins s σ H Q I h
 refine wpAny_Call_Name_kw (z3e I hg hm hv ?_ hn hdb)
 exact PyProof.Rows.callWith_type1 (thn (ha pos pins s σ H _ I h) fun us s1 ⟨vs,H1,I1,r1,q1⟩=>hc pins s1 σ H1 vs us Q I1 r1 q1) he hpl
end
end L2
namespace HT
open PySem PyProof.Rows
section
open PySem.SeqAt
open PySem.AutoSeq1 (wpAny_loadPart')
open PySem.MeetsSeq PySem.MeetsSeq2 PySem.MeetsSeq3
end
section
variable{prog:Program}{w:World}{A:Around}{E:Value->Shared->Prop}{s:Shared}
theorem cat_tup{t b:Addr}{vs ws:List Value}{Q:Value->Shared->Prop}(ht:IsTup s.heap t vs.toArray)(hb:IsTup s.heap b ws.toArray)(hv:vs≠[])
 (h1:ws=[]->Q (.ref t) s) (h2:ws≠[]->Q (.ref s.heap.objs.size) {s with heap:=s.heap.push {cls:= .type "tuple",data:= .seq (vs++ws).toArray}})
 (hsz:vs.length+ws.length<=sizeLine):wpAny (model prog w) A (binaryOp .Add (.ref t) (.ref b)) Q E s:=by
 obtain⟨⟨cls,dd,data,sl⟩,ho,hc,n,hd⟩:=id ht
 obtain⟨⟨cls2,dd2,data2,sl2⟩,ho2,hc2,n2,hd2⟩:=id hb
 simp only at hc hd hc2 hd2
 subst hc hd hc2 hd2
 have e:vs.toArray++ws.toArray=(vs++ws).toArray:=by simp
 by_cases hw:ws=[]
 ·exact concat_meets ⟨_,ho,rfl⟩ ⟨_,ho2,rfl⟩ noFill_tuple_add seq_tuple_add PySem.F.slot_tuple_add PySem.F.entry_tuple_add (PySem.F.args_tuple_add_2 _ _)
   (tuple_addW1 t b vs.toArray ws.toArray n n2 dd dd2 sl sl2 (by simpa using hv) (by simp[hw])) ⟨ho,ho2,h1 hw⟩
 ·refine concat_meets ⟨_,ho,rfl⟩ ⟨_,ho2,rfl⟩ noFill_tuple_add seq_tuple_add PySem.F.slot_tuple_add PySem.F.entry_tuple_add (PySem.F.args_tuple_add_2 _ _)
   (tuple_addW2 t b vs.toArray ws.toArray n n2 dd dd2 sl sl2 (by simpa using hv) (by simpa using hw) (by rw[List.size_toArray,List.size_toArray];exact hsz)) ⟨ho,ho2, ?_⟩
  rw[e]
  exact h2 hw
noncomputable def sIx(n d:Nat):Option Int->Nat
 |none=>d
 |some v=>if v<0 then(v+(n:Int)).toNat else min v.toNat n
theorem sIx_none(n d:Nat):sIx n d none=d:=rfl
theorem sIx_nat(n d k:Nat):sIx n d (some (k:Int))=min k n:=by
 show(if(k:Int)<0 then((k:Int)+(n:Int)).toNat else min (k:Int).toNat n)=min k n
 rw[if_neg (by lia),Int.toNat_natCast]
theorem zbw(n d:Nat)(hd:d<=n)(o:Option Int):sIx n d o<=n:=by
 cases o with
 |none=>exact hd
 |some v=>
  show(if v<0 then(v+(n:Int)).toNat else min v.toNat n)<=n
  by_cases hv:v<0
  ·rw[if_pos hv];lia
  ·rw[if_neg hv];exact Nat.min_le_right _ _
theorem z6L(v:Int)(n d:Nat):(if v<0 then max (v+(n:Int)) 0 else min v (n:Int))=((sIx n d (some v):Nat):Int):=by
 show(if v<0 then max (v+(n:Int)) 0 else min v (n:Int))=(((if v<0 then(v+(n:Int)).toNat else min v.toNat n):Nat):Int)
 by_cases hv:v<0
 ·simp only[if_pos hv];lia
 ·simp only[if_neg hv];lia
theorem z5Z(lo hi:Option Int)(n:Nat):Builtin.Slice.sliceAdjust lo hi 1 (n:Int)=(((sIx n 0 lo:Nat):Int),((sIx n n hi:Nat):Int)):=by
 have h1: ¬((1:Int)<0):=by lia
 unfold Builtin.Slice.sliceAdjust
 simp only[h1,if_false]
 refine Prod.ext ?_ ?_
 ·cases lo with
  |none=>rfl
  |some v=>exact z6L v n 0
 ·cases hi with
  |none=>rfl
  |some v=>exact z6L v n n
theorem z60(i j:Nat):Builtin.Slice.slicePlaces (i:Int) (j:Int) 1=j -i:=by
 unfold Builtin.Slice.slicePlaces
 have h1:(1:Int)>0:=by lia
 simp only[h1,if_true,Int.ediv_one]
 split<;>lia
theorem z3h{v:Value}{o:Option Int}{Q:Option Int->Shared->Prop}(p:IsPart v o)(h:Q o s):wpAny (model prog w) A (Builtin.Slice.slicePartIndex v) Q E s:=by
 cases p with
 |none=>exact slicePart_none h
 |int i t=>exact slicePart_int h
theorem z1i{sl:Addr}{vl vu:Value}{lo hi:Option Int}{n:Nat}{Q:Int×Int×Nat->Shared->Prop}(hs:s.heap.IsSliceOf sl vl vu .none)(pl:IsPart vl lo)(pu:IsPart vu hi)
 (h:Q (((sIx n 0 lo:Nat):Int),1,sIx n n hi -sIx n 0 lo) s):wpAny (model prog w) A (Builtin.Slice.sliceApplied (.ref sl) (pure (n:Int))) Q E s:=by
 obtain⟨os,hos,hcs,hds⟩:=id hs
 unfold Builtin.Slice.sliceApplied Builtin.Slice.sliceFields
 refine wpAny_bind (wpAny_bind (wpAny_field hos hds (x:=vl) rfl (wpAny_bind (wpAny_field hos hds (x:=vu) rfl (wpAny_bind (wpAny_field hos hds (x:= .none) rfl (wpAny_pure ?_)))))))
 refine wpAny_bind (slicePart_none ?_)
 show wpAny _ _ (if((1:Int)==0)=true then _ else _) _ _ s
 rw[if_neg (by decide)]
 refine wpAny_bind (z3h pl (wpAny_bind (z3h pu (wpAny_bind (wpAny_pure ?_)))))
 show wpAny _ _ (match Builtin.Slice.sliceAdjust lo hi 1 (n:Int) with|(lo,hi)=>pure (lo,(1:Int),Builtin.Slice.slicePlaces lo hi 1)) _ _ s
 rw[z5Z lo hi n]
 show wpAny _ _ (pure (((sIx n 0 lo:Nat):Int),(1:Int),Builtin.Slice.slicePlaces ((sIx n 0 lo:Nat):Int) ((sIx n n hi:Nat):Int) 1)) _ _ s
 rw[z60]
 exact wpAny_pure h
theorem z8b(xs:Array Value)(i k:Nat):((List.range k).filterMap fun(m:Nat)=>xs[((i:Int)+(m:Int)*1).toNat]?).toArray=((xs.toList.drop i).take k).toArray:=by
 have e:(fun(m:Nat)=>xs[((i:Int)+(m:Int)*1).toNat]?)=fun m=>xs[i+m]? :=by
  funext m
  have:((i:Int)+(m:Int)*1).toNat=i+m:=by lia
  rw[this]
 rw[e]
 have:=pick_run xs i k
 rw[List.filterMap_map] at this
 have e2:((fun x=>xs[x]?)∘fun x=>i+x)=fun m=>xs[i+m]? :=rfl
 rw[e2] at this
 rw[this]
theorem getItem_tuple_cut{t sl:Addr}{items:Array Value}{vl vu:Value}{lo hi:Option Int}{Q:Value->Shared->Prop}(ht:IsTup s.heap t items)(hs:s.heap.IsSliceOf sl vl vu .none)(pl:IsPart vl lo)(pu:IsPart vu hi)
 (hw: ¬(sIx items.size 0 lo=0/\sIx items.size items.size hi=items.size))
 (h:Q (.ref s.heap.objs.size) {s with heap:=s.heap.push {cls:= .type "tuple",data:= .seq ((items.toList.drop (sIx items.size 0 lo)).take (sIx items.size items.size hi -sIx items.size 0 lo)).toArray}})
 (hsz:items.size<=sizeLine):wpAny (model prog w) A (getItem (.ref t) (.ref sl)) Q E s:=by
 have htake:sizeOk (.seq ((items.toList.drop (sIx items.size 0 lo)).take (sIx items.size items.size hi -sIx items.size 0 lo)).toArray):=by
  show((items.toList.drop (sIx items.size 0 lo)).take (sIx items.size items.size hi -sIx items.size 0 lo)).toArray.size<=sizeLine
  rw[List.size_toArray,List.length_take,List.length_drop,Array.length_toList]
  lia
 have hj:sIx items.size items.size hi<=items.size:=zbw _ _ (Nat.le_refl _) hi
 obtain⟨os,hos,hcs,hds⟩:=id hs
 have hTs:s.TypeIs (.ref sl) "slice" :=⟨os,hos,hcs⟩
 unfold getItem
 try with_reducible refine wpAny_holding ?_
 first|refine wpAny_bind (wpAny_pure ?_)|skip
 refine wpAny_bind (wpAny_sequenceKey ht.typeIs (by decide) ?_)
 refine wpAny_bind (wpAny_callSpecial?_slot (name:=Str.ofString "__getitem__") ht.typeIs PyProof.Rows.slot_tuple_getitem
  (wpAny_call_entry PyProof.Rows.slot_tuple_getitem ht.typeIs entry_tuple_getitem ?_ (args_tuple_getitem _ _)))
 show wpAny _ _ (Builtin.Tuple.tupleItemsOf (.ref t)>>=_) _ _ s
 refine wpAny_bind (tupleItemsOf_ ht ?_)
 refine wpAny_bind (wpAny_typeOf hTs ?_)
 rw[if_pos (by decide)]
 refine wpAny_bind (z1i hs pl pu ?_)
 have hno: ¬((((sIx items.size 0 lo:Nat):Int)==0&&(1:Int)==1&&(sIx items.size items.size hi -sIx items.size 0 lo)==items.size)=true):=by
  intro q
  rw[Bool.and_eq_true,Bool.and_eq_true] at q
  have q1:((sIx items.size 0 lo:Nat):Int)=0:=eq_of_beq q.1.1
  have q2:sIx items.size items.size hi -sIx items.size 0 lo=items.size:=eq_of_beq q.2
  exact hw ⟨by lia,by lia⟩
 show wpAny _ _ (if(((sIx items.size 0 lo:Nat):Int)==0&&(1:Int)==1&&(sIx items.size items.size hi -sIx items.size 0 lo)==items.size)=true then _ else _) _ _ s
 rw[if_neg hno,z8b]
 first
  |exact wpAny_bind (m:=Builtin.Tuple.tupleExact _) (wpAny_newObj_type (wpAny_pure ⟨_,rfl,wpAny_pure h⟩) htake)
  |exact wpAny_bind (m:=Builtin.Tuple.tupleExact _) (wpAny_newObj_type (wpAny_bind (wpAny_pure (wpAny_pure ⟨_,rfl,wpAny_pure h⟩))) htake)
  |exact wpAny_bind (wpAny_bind (m:=Builtin.Tuple.tupleExact _) (wpAny_newObj_type (wpAny_pure (wpAny_pure ⟨_,rfl,wpAny_pure h⟩)) htake))
  |exact wpAny_bind (wpAny_bind (m:=Builtin.Tuple.tupleExact _) (wpAny_newObj_type (wpAny_pure ⟨_,rfl,wpAny_pure h⟩) htake))
end
end HT
namespace L2
open PySem PySem.Spec PyProof.Rows
noncomputable abbrev TO:=St->Hp->(Option Int->Hp->Prop)->Prop
noncomputable def PO(X:Cx)(e:Option Expr)(t:TO):Prop:=
 ∀(pins:List (Addr×Obj)) (s:Shared) (σ:St) (H:Hp) (Q:Option Int->Hp->Prop),Inv X pins σ H s->t σ H Q->
  wpAny (model X.prog X.w) X.A (evalPart e X.env) (fun u s'=> ∃o H',Inv X pins σ H' s'/\IsPart u o/\Q o H') X.xe s
noncomputable def z9M:TO:=fun _ H Q=>Q none H
noncomputable def z8c(t:TE):TO:=fun σ H Q=>t σ H fun x H1=> ∃i,x= .int i/\Q (some i) H1
section
variable{X:Cx}{e:Expr}{te:TE}{lo hi:Option Expr}{tl th:TO}{pos p2:Pos}
theorem z9N:PO X none z9M:=by
 intro pins s σ H Q I h
 rw[evalPart_none]
 exact wpAny_pure ⟨none,H,I, .none,h⟩
theorem z6M(h:PE X e te):PO X (some e) (z8c te):=by
 intro pins s σ H Q I hw
 rw[evalPart_some]
 refine thn (h pins s σ H _ I hw) fun u s1 ⟨x,H1,I1,r1,q1⟩=> ?_
 obtain⟨i,rfl,q⟩:=q1
 obtain⟨t,rfl⟩:=r1
 exact⟨some i,H1,I1, .int i t,q⟩
noncomputable def SlR(X:Cx)(r:V->Option Int->Option Int->Hp->VK->Prop):Prop:=
 ∀(pins:List (Addr×Obj)) (s:Shared) (σ:St) (H:Hp) (x:V) (v vl vu:Value) (lo hi:Option Int) (sl:Addr) (Q:VK),Inv X pins σ H s->RelV x v->s.heap.IsSliceOf sl vl vu .none->IsPart vl lo->IsPart vu hi->r x lo hi H Q->
  ∃T id,typeLookup (.type T) "__getitem__" =pure (some (.builtin id))/\s.TypeIs v T/\wpAny (model X.prog X.w) X.A (getItem v (.ref sl)) (EP X pins σ Q) X.xe s
theorem SlR.or{r r':V->Option Int->Option Int->Hp->VK->Prop}(h:SlR X r)(h':SlR X r'):SlR X (fun x lo hi H Q=>r x lo hi H Q\/r' x lo hi H Q):=by
 intro pins s σ H x v vl vu lo hi sl Q I rx hs pl pu q
 rcases q with q|q
 ·exact h pins s σ H x v vl vu lo hi sl Q I rx hs pl pu q
 ·exact h' pins s σ H x v vl vu lo hi sl Q I rx hs pl pu q
noncomputable def tSl(r:V->Option Int->Option Int->Hp->VK->Prop)(te:TE)(tl th:TO):TE:=fun σ H Q=>te σ H fun x H1=>tl σ H1 fun l H2=>th σ H2 fun u H3=>r x l u H3 Q
theorem z8d{r:V->Option Int->Option Int->Hp->VK->Prop}(hr:SlR X r)(he:PE X e te)(hl:PO X lo tl)(hu:PO X hi th):PE X (.Subscript e (.Slice lo hi none p2) pos) (tSl r te tl th):=by
 intro pins s σ H Q I h
 refine Subscript_ (thn (he pins s σ H _ I h) fun v s1 ⟨x,H1,I1,r1,q1⟩=> ?_)
 refine wpAny_Slice (thn (hl pins s1 σ H1 _ I1 q1) fun vl s2 ⟨l,H2,I2,pl,q2⟩=>thn (hu pins s2 σ H2 _ I2 q2) fun vu s3 ⟨u,H3,I3,pu,q3⟩=> ?_)
 rw[evalPart_none]
 refine wpAny_pure ?_
 have I4:Inv X pins σ H3 {s3 with heap:=s3.heap.push {cls:= .type "slice",data:= .fields #[vl,vu, .none]}}:=I3.kept (t':=s3.toks) fun b ob q=>Heap.get?_push_of_some _ q
 obtain⟨T,id,hT,ht,hg⟩:=hr pins {s3 with heap:=s3.heap.push {cls:= .type "slice",data:= .fields #[vl,vu, .none]}} σ H3 x v vl vu l u s3.heap.objs.size Q I4 r1 (Heap.IsSliceOf.new ..) pl pu q3
 show wpAny (model X.prog X.w) X.A (subscriptTail e (.Slice lo hi none p2) v (.ref s3.heap.objs.size)) (EP X pins σ Q) X.xe {s3 with heap:=s3.heap.push {cls:= .type "slice",data:= .fields #[vl,vu, .none]}}
 exact tail_any (ops:=[.ref s3.heap.objs.size,v]) ht hT hg (by with_unfolding_all rfl)
noncomputable def cutV(xs:List V)(lo hi:Option Int):List V:=(xs.drop (HT.sIx xs.length 0 lo)).take (HT.sIx xs.length xs.length hi -HT.sIx xs.length 0 lo)
theorem z2o(xs:List V)(lo hi:Option Int):(cutV xs lo hi).length<=xs.length:=by
 unfold cutV
 rw[List.length_take,List.length_drop]
 lia
noncomputable def rSlT(K:W.Frag):V->Option Int->Option Int->Hp->VK->Prop:=fun x lo hi H Q=> ∃a xs,x= .ref a/\SqT K H a xs/\
 ¬(HT.sIx xs.length 0 lo=0/\HT.sIx xs.length xs.length hi=xs.length)/\∀p,H p=none->Q (.ref p) (upd H p (.tup (cutV xs lo hi)))
theorem zbx:SlR X (rSlT X.K):=by
 intro pins s σ H x v vl vu lo hi sl Q I rx hs pl pu h
 obtain⟨a,xs,rfl,hx,hw,q⟩:=h
 cases rx
 obtain⟨its,r,ht,hz⟩:=I.tuple hx
 have hlen:its.toArray.size=xs.length:=by rw[List.size_toArray];exact r.length.symm
 refine⟨"tuple",_,PyProof.Rows.slot_tuple_getitem.lookup,ht.typeIs, ?_⟩
 refine HT.getItem_tuple_cut ht hs pl pu (by rw[hlen];exact hw) ?_ (by rw[hlen];exact hz)
 rw[hlen]
 refine⟨.ref s.heap.objs.size,_,I.laid (t':=s.toks) (o:= .tup (cutV xs lo hi)) (fun b ob q=>Heap.get?_push_of_some _ q) (Nat.le_refl _) ?_,rfl,q _ (I.hok.fresh (Nat.le_refl _))⟩
 exact⟨Nat.le_trans (z2o xs lo hi) hz,_,(r.drop (HT.sIx xs.length 0 lo)).take (HT.sIx xs.length xs.length hi -HT.sIx xs.length 0 lo),IsTup.new _ _⟩
noncomputable def zdL(K:W.Frag):R2:=fun x y H Q=> ∃a b xs ys,x= .ref a/\y= .ref b/\SqT K H a xs/\SqT K H b ys/\xs≠[]/\xs.length+ys.length<=sizeLine/\
 (ys=[]->Q (.ref a) H)/\(ys≠[]->∀p,H p=none->Q (.ref p) (upd H p (.tup (xs++ys))))
theorem Vals.nil_iff{xs:List V}{us:List Value}(r:Vals xs us):us=[]↔xs=[]:=by
 cases r with
 |nil=>simp
 |cons _ _=>simp
theorem z9O:OpR X (binaryOp .Add) (zdL X.K):=by
 intro pins s σ H x y v u Q I rx ry h
 obtain⟨a,b,xs,ys,rfl,rfl,ha,hb,hx,hz,q1,q2⟩:=h
 cases rx
 cases ry
 obtain⟨its,r1,p1,_⟩:=I.tuple ha
 obtain⟨its2,r2,p2,_⟩:=I.tuple hb
 refine HT.cat_tup p1 p2 (fun z=>hx (r1.nil_iff.mp z)) (fun z=>⟨.ref a,H,I,rfl,q1 (r2.nil_iff.mp z)⟩) (fun z=> ?_) (by rw[<-r1.length,<-r2.length];exact hz)
 refine⟨.ref s.heap.objs.size,_,I.laid (t':=s.toks) (o:= .tup (xs++ys)) (fun b ob q=>Heap.get?_push_of_some _ q) (Nat.le_refl _) ?_,rfl,q2 (fun w=>z (r2.nil_iff.mpr w)) _ (I.hok.fresh (Nat.le_refl _))⟩
 exact⟨by rw[List.length_append];exact hz,_,r1.append r2,IsTup.new _ _⟩
end
noncomputable def ixN(n:Nat)(i:Int):Option Nat:=if 0<=i then(if i<n then some i.toNat else none) else if -(n:Int)<=i then some (i+n).toNat else none
noncomputable def atI{α:Type}(xs:List α)(i:Int):Option α:=(ixN xs.length i).bind fun j=>xs[j]?
theorem z6N{n:Nat}{i:Int}{j:Nat}(h:ixN n i=some j):seqIndex? i n=some j/\j<n/\-(n:Int)<=i/\i<n:=by
 unfold ixN at h
 by_cases h0:0<=i
 ·rw[if_pos h0] at h
  by_cases h1:i<n
  ·rw[if_pos h1] at h
   have e:i.toNat=j:=Option.some.inj h
   exact⟨by rw[seqIndex_of h0 h1,e],by lia,by lia,h1⟩
  ·rw[if_neg h1] at h;cases h
 ·rw[if_neg h0] at h
  by_cases h1: -(n:Int)<=i
  ·rw[if_pos h1] at h
   have e:(i+n).toNat=j:=Option.some.inj h
   exact⟨by rw[seqIndex_neg (by lia) h1,e],by lia,h1,by lia⟩
  ·rw[if_neg h1] at h;cases h
theorem z6O{α:Type}{xs:List α}{i:Int}{v:α}(h:atI xs i=some v): ∃j,seqIndex? i xs.length=some j/\xs[j]? =some v/\j<xs.length/\-(xs.length:Int)<=i/\i<xs.length:=by
 unfold atI at h
 cases e:ixN xs.length i with
 |none=>rw[e] at h;cases h
 |some j=>
  rw[e] at h
  obtain⟨h1,h2,h3,h4⟩:=z6N e
  exact⟨j,h1,h,h2,h3,h4⟩
theorem z9P{α:Type}{xs:List α}{j:Nat}{v:α}(h:xs[j]? =some v):atI xs (j:Int)=some v:=by
 have hj:j<xs.length:=(List.getElem?_eq_some_iff.mp h).1
 have e:ixN xs.length (j:Int)=some j:=by
  unfold ixN
  rw[if_pos (by lia),if_pos (by lia)];simp
 unfold atI;rw[e];exact h
noncomputable def z1l(b:Expr):Prop:= ∀o i,subscripted b false o i=operate [o,i] (getItem o i)
noncomputable def IxR(X:Cx)(r:R2):Prop:=
 ∀(value slice:Expr) (pins:List (Addr×Obj)) (s:Shared) (σ:St) (H:Hp) (x y:V) (v u:Value) (Q:VK),Inv X pins σ H s->RelV x v->RelV y u->r x y H Q->
  subscripted slice false v u=operate [v,u] (getItem v u)->wpAny (model X.prog X.w) X.A (subscriptTail value slice v u) (EP X pins σ Q) X.xe s
noncomputable def MtR(X:Cx)(id:String)(r:V->List V->Hp->VK->Prop):Prop:=
 ∀(pins:List (Addr×Obj)) (s:Shared) (σ:St) (H:Hp) (x:V) (xs:List V) (v:Value) (us:List Value) (Q:VK),Inv X pins σ H s->RelV x v->Vals xs us->r x xs H Q->
  wpAny (model X.prog X.w) X.A (call (.builtin id) (v::us)) (EP X pins σ Q) X.xe s
section
variable{X:Cx}{a b:Expr}{ta tb:TE}{pos:Pos}
theorem IxR.or{r r':R2}(h:IxR X r)(h':IxR X r'):IxR X (fun x y H Q=>r x y H Q\/r' x y H Q):=by
 intro value slice pins s σ H x y v u Q I rx ry q hs
 rcases q with q|q
 ·exact h value slice pins s σ H x y v u Q I rx ry q hs
 ·exact h' value slice pins s σ H x y v u Q I rx ry q hs
theorem zdM{r:R2}(hr:IxR X r)(ha:PE X a ta)(hb:PE X b tb)(hs:z1l b):PE X (.Subscript a b pos) (tOp r ta tb):=by
 intro pins s σ H Q I h
 exact Subscript_ (binT ha hb I h fun v u s2 x y H2 I2 rx ry q=>hr a b pins s2 σ H2 x y v u Q I2 rx ry q (hs _ _))
noncomputable def rIxL(K:W.Frag):R2:=fun x y H Q=> ∃p xs i v,x= .ref p/\y= .int i/\SqL K H p xs/\atI xs i=some v/\Q v H
noncomputable def rIxT(K:W.Frag):R2:=fun x y H Q=> ∃p xs i v,x= .ref p/\y= .int i/\SqT K H p xs/\atI xs i=some v/\Q v H
theorem z9Q:IxR X (rIxL X.K):=by
 intro value slice pins s σ H x y v u Q I rx ry h hs
 obtain⟨p,xs,i,z,rfl,rfl,hq,he,q⟩:=h
 cases rx
 obtain⟨t,rfl⟩:=ry
 obtain⟨its,r,pl,hz⟩:=I.list hq
 obtain⟨j,h1,h2,h3,h4,h5⟩:=z6O he
 obtain⟨w,ew,rw'⟩:=r.get h2
 have hl:=r.length
 have hn:=z43
 have fin:EP X pins σ Q w s:=⟨z,H,I,rw',q⟩
 by_cases h0:0<=i
 ·have hj:i.toNat=j:=by
   rw[seqIndex_of h0 h5] at h1
   exact Option.some.inj h1
  exact item_listR pl.isList h0 (by lia) (by rw[hj];simpa using ew) fin hs
 ·have hj:(i+(its.toArray.size:Int)).toNat=j:=by
   rw[seqIndex_neg (by lia) h4] at h1
   rw[List.size_toArray,<-hl]
   exact Option.some.inj h1
  exact subscriptTail_builtinR (x:=w) pl.isList.typeIs slot_list_getitem.lookup
   (wpAny_getItem_list_neg (Q:=fun r s'=>r=w/\EP X pins σ Q r s') pl.isList (by lia) (by rw[List.size_toArray]<;>lia) (by lia) (by rw[hj];simpa using ew) ⟨rfl,fin⟩) hs
theorem zby:IxR X (rIxT X.K):=by
 intro value slice pins s σ H x y v u Q I rx ry h hs
 obtain⟨p,xs,i,z,rfl,rfl,hq,he,q⟩:=h
 cases rx
 obtain⟨t,rfl⟩:=ry
 obtain⟨its,r,pl,hz⟩:=I.tuple hq
 obtain⟨j,h1,h2,h3,h4,h5⟩:=z6O he
 obtain⟨w,ew,rw'⟩:=r.get h2
 have hl:=r.length
 have hn:=z43
 have fin:EP X pins σ Q w s:=⟨z,H,I,rw',q⟩
 exact subscriptTail_builtinR (x:=w) pl.typeIs slot_tuple_getitem.lookup
  (getItem_tuple (j:=j) (Q:=fun r s'=>r=w/\EP X pins σ Q r s') pl (by lia) (by lia) (by rw[List.size_toArray,<-hl];exact h1) (by simpa using ew) ⟨rfl,fin⟩) hs
theorem z61(its:List Value)(n j:Nat)(u:Value):Obj.mapSeq (·.setIfInBounds j u) {cls:= .type "list",data:= .seq its.toArray n}={cls:= .type "list",data:= .seq (its.set j u).toArray n}:=by
 simp[Obj.mapSeq]
theorem Inv.lst{pins:List (Addr×Obj)}{σ:St}{H:Hp}{s:Shared}{p:Addr}{xs:List V}(I:Inv X pins σ H s)(h:H p=some (.lst xs)):
 ∃(its:List Value) (n:Nat),Vals xs its/\s.heap.get? p=some {cls:= .type "list",data:= .seq its.toArray n}/\xs.length<=sizeLine:=by
 obtain⟨z,its,n,r,e⟩:=I.hok p _ h
 exact⟨its,n,r,e,z⟩
theorem Inv.lstUpd{pins:List (Addr×Obj)}{σ:St}{H:Hp}{s:Shared}{p:Addr}{xs ys:List V}{its its':List Value}{n n':Nat}{f:Obj->Obj}(I:Inv X pins σ H s)(h:H p=some (.lst xs))
 (ho:s.heap.get? p=some {cls:= .type "list",data:= .seq its.toArray n}) (hf:f {cls:= .type "list",data:= .seq its.toArray n}={cls:= .type "list",data:= .seq its'.toArray n'}) (r:Vals ys its') (hz:ys.length<=sizeLine) (t:Nat):
 Inv X pins σ (upd H p (.lst ys)) {s with heap:=s.heap.update p f,toks:=t}:=by
 have e:(s.heap.update p f).get? p=some {cls:= .type "list",data:= .seq its'.toArray n'}:=by
  rw[Heap.get?_update_self f ho (by rw[hf]<;>rfl),hf]
 refine I.write (x:=p) (e:=p) (by rw[h];trivial) (.inl rfl) (fun b u hb q=>(Heap.get?_update_other _ _ (Ne.symm hb)).trans q) ⟨_,e⟩ ?_
 exact⟨hz,its',n',r,e⟩
noncomputable def z8e:V->V->V->Hp->(Hp->Prop)->Prop:=fun o i v H Q=> ∃p xs k j,o= .ref p/\i= .int k/\H p=some (.lst xs)/\ixN xs.length k=some j/\Q (upd H p (.lst (xs.set j v)))
theorem z5t:PSet X z8e:=by
 intro pins s σ H o i v ov iv u Q I ro ri rv h
 obtain⟨p,xs,k,j,rfl,rfl,hp,hj,q⟩:=h
 cases ro
 obtain⟨t,rfl⟩:=ri
 obtain⟨its,n,r,ho,hz⟩:=I.lst hp
 obtain⟨h1,h2,h3,h4⟩:=z6N hj
 have hl:=r.length
 have hn:=z43
 have I':Inv X pins σ (upd H p (.lst (xs.set j v))) {s with heap:=s.heap.update p (Obj.mapSeq (·.setIfInBounds j u))}:=
  I.lstUpd hp ho (z61 its n j u) (r.set rv j) (by rw[List.length_set];exact hz) s.toks
 by_cases h0:0<=k
 ·have hk:k.toNat=j:=by
   rw[seqIndex_of h0 h4] at h1
   exact Option.some.inj h1
  exact W.ki_setAt ho h0 (by lia) (by rw[List.size_toArray,<-hl];exact h4) (by rw[hk];exact⟨_,I',q⟩)
 ·have hk:(k+(its.toArray.size:Int)).toNat=j:=by
   rw[seqIndex_neg (by lia) h3] at h1
   rw[List.size_toArray,<-hl]
   exact Option.some.inj h1
  exact W.ki_setBack ho (by lia) (by rw[List.size_toArray,<-hl];exact h3) (by lia) (by rw[hk];exact⟨_,I',q⟩)
theorem z4a(lo hi:Option Int)(n:Nat):(sliceBounds lo hi none n).1=((HT.sIx n 0 lo:Nat):Int)/\(sliceBounds lo hi none n).2.1=((HT.sIx n n hi:Nat):Int)/\(sliceBounds lo hi none n).2.2=1:=by
 refine⟨?_, ?_,rfl⟩
 ·cases lo with
  |none=>simp[sliceBounds,HT.sIx]
  |some i=>
   simp only[sliceBounds,HT.sIx,Option.getD_none,show(1:Int)>0 by decide,if_true]
   by_cases h:i<0
   ·simp only[h,if_true]<;>lia
   ·simp only[h,if_false]<;>lia
 ·cases hi with
  |none=>simp[sliceBounds,HT.sIx]
  |some i=>
   simp only[sliceBounds,HT.sIx,Option.getD_none,show(1:Int)>0 by decide,if_true]
   by_cases h:i<0
   ·simp only[h,if_true]<;>lia
   ·simp only[h,if_false]<;>lia
theorem z3v(its:List Value)(lo hi:Option Int):slicePick its.toArray lo hi none=((its.drop (HT.sIx its.length 0 lo)).take (HT.sIx its.length its.length hi -HT.sIx its.length 0 lo)).toArray:=by
 obtain⟨h1,h2,h3⟩:=z4a lo hi its.toArray.size
 unfold slicePick
 rw[h1,h2,h3]
 simp only[sliceRange_one,pick_run,List.size_toArray]<;>rfl
noncomputable def rSlL(K:W.Frag):V->Option Int->Option Int->Hp->VK->Prop:=fun x lo hi H Q=> ∃a xs,x= .ref a/\SqL K H a xs/\∀p,H p=none->Q (.ref p) (upd H p (.lst (cutV xs lo hi)))
theorem z9R:SlR X (rSlL X.K):=by
 intro pins s σ H x v vl vu lo hi sl Q I rx hs pl pu h
 obtain⟨a,xs,rfl,hx,q⟩:=h
 cases rx
 obtain⟨its,r,ht,hz⟩:=I.list hx
 have hlen:=r.length
 refine⟨"list",_,slot_list_getitem.lookup,ht.isList.typeIs, ?_⟩
 refine wpAny_getItem_list_slice ht.isList hs pl pu .none (by simp) ?_ (by rw[List.size_toArray]<;>lia)
 rw[z3v,<-hlen]
 refine⟨.ref s.heap.objs.size,_,I.laid (t':=s.toks) (o:= .lst (cutV xs lo hi)) (fun b ob q=>Heap.get?_push_of_some _ q) (Nat.le_refl _) ?_,rfl,q _ (I.hok.fresh (Nat.le_refl _))⟩
 exact⟨Nat.le_trans (z2o xs lo hi) hz,_,0,(r.drop (HT.sIx xs.length 0 lo)).take (HT.sIx xs.length xs.length hi -HT.sIx xs.length 0 lo),Heap.get?_push_size _ rfl⟩
theorem z4b:CallR X (.builtin "len") (fun xs H Q=> ∃p ys,xs=[.ref p]/\(SqL X.K H p ys\/SqT X.K H p ys)/\Q (.int ys.length) H):=by
 intro pins s σ H xs us Q I r h
 obtain⟨p,ys,rfl,hq,q⟩:=h
 obtain⟨u,rfl,rx⟩:=z44 r
 cases rx
 have hn:=z43
 rcases hq with hq|hq
 ·obtain⟨its,r',pl,hz⟩:=I.list hq
  have hlen:=r'.length
  exact Calls.call_len_list pl.isList (by simp only[List.size_toArray]<;>lia) ⟨.int ys.length,H,I.tok _,⟨s.toks+1,by rw[List.size_toArray,hlen]⟩,q⟩
 ·obtain⟨its,r',pl,hz⟩:=I.tuple hq
  have hlen:=r'.length
  exact len_tuple pl (by simp only[List.size_toArray]<;>lia) ⟨.int ys.length,H,I.tok _,⟨s.toks+1,by rw[List.size_toArray,hlen]⟩,q⟩
theorem z4c:CallR X (.type "list") (fun xs H Q=> ∃p ys,xs=[.ref p]/\(SqL X.K H p ys\/SqT X.K H p ys)/\∀l,H l=none->Q (.ref l) (upd H l (.lst ys))):=by
 intro pins s σ H xs us Q I r h
 obtain⟨p,ys,rfl,hq,q⟩:=h
 obtain⟨u,rfl,rx⟩:=z44 r
 cases rx
 have fin: ∀(its:List Value),Vals ys its->ys.length<=sizeLine->∀(h':Heap) (c':Nat),(∀b o',s.heap.get? b=some o'->h'.get? b=some o')->
  h'.get? s.heap.objs.size=some {cls:= .type "list",dict:=none,data:= .seq its.toArray c',slots:= #[]}->EP X pins σ Q (.ref s.heap.objs.size) {s with heap:=h'}:=fun its r' hz h' c' kp e=>
  ⟨.ref s.heap.objs.size,_,I.laid (t':=s.toks) kp (Nat.le_refl _) (show z0Y X.prog X.w _ h' _ (.lst ys) from⟨hz,its,c',r',e⟩),rfl,q _ (I.hok.fresh (Nat.le_refl _))⟩
 rcases hq with hq|hq
 ·obtain⟨its,r',pl,hz⟩:=I.list hq
  have hlen:=r'.length
  obtain⟨o,ho,hc,n,hd⟩:=pl.isList
  exact call_list_seq p (.inl rfl) ho hc hd (fun h' c' kp e=>fin its r' hz h' c' kp e) (by simp only[List.size_toArray]<;>lia)
 ·obtain⟨its,r',pl,hz⟩:=I.tuple hq
  have hlen:=r'.length
  obtain⟨o,ho,hc,n,hd⟩:=pl
  exact call_list_seq p (.inr rfl) ho hc hd (fun h' c' kp e=>fin its r' hz h' c' kp e) (by simp only[List.size_toArray]<;>lia)
theorem z3w:CallR X (.type "tuple") (fun xs H Q=> ∃p ys,xs=[.ref p]/\((SqL X.K H p ys/\∀l,H l=none->Q (.ref l) (upd H l (.tup ys)))\/(SqT X.K H p ys/\Q (.ref p) H))):=by
 intro pins s σ H xs us Q I r h
 obtain⟨p,ys,rfl,h⟩:=h
 obtain⟨u,rfl,rx⟩:=z44 r
 cases rx
 rcases h with⟨hq,q⟩|⟨hq,q⟩
 ·obtain⟨its,r',pl,hz⟩:=I.list hq
  have hlen:=r'.length
  refine call_tuple_list pl.isList (fun h' kp=> ?_) (by simp only[List.size_toArray]<;>lia)
  have I1:Inv X pins σ H {s with heap:=h'}:=I.kept (t':=s.toks) kp
  have I2:Inv X pins σ (upd H h'.objs.size (.tup ys)) {s with heap:=h'.push {cls:= .type "tuple",data:= .seq its.toArray}}:=
   I1.laid (t':=s.toks) (fun b o e=>Heap.get?_push_of_some _ e) (Nat.le_refl _) (show z0Y X.prog X.w _ _ _ (.tup ys) from⟨hz,its,r',IsTup.new _ _⟩)
  exact⟨.ref h'.objs.size,_,I2,rfl,q _ (I1.hok.fresh (Nat.le_refl _))⟩
 ·obtain⟨its,r',pl,hz⟩:=I.tuple hq
  exact call_tuple_same pl ⟨.ref p,H,I,rfl,q⟩
noncomputable def tyV(K:W.Frag)(T:String)(x:V)(H:Hp):Prop:=match x with
 | .str _=>T= "str"
 | .int _=>T= "int"
 | .ref p=>(T= "list" /\∃xs,SqL K H p xs)\/(T= "tuple" /\∃o,K.lookup p=some o/\o.cls= .type "tuple" /\o.dict=none)\/
  (T= "dict" /\((∃kvs,H p=some (.dK kvs))\/∃kvs,H p=some (.dT kvs)))\/(T= "set" /\∃S n,H p=some (.set S n))
 |_=>False
theorem zbz{pins:List (Addr×Obj)}{σ:St}{H:Hp}{s:Shared}{T:String}{x:V}{v:Value}(I:Inv X pins σ H s)(r:RelV x v)(ty:tyV X.K T x H):
 s.TypeIs v T/\∀a,v= .ref a->∃ob,s.heap.get? a=some ob/\ob.dict=none:=by
 cases x with
 |str z=>
  obtain⟨t,rfl⟩:=r
  cases(show T= "str" from ty)
  exact⟨typeIs_str s z t,fun _ e=>nomatch e⟩
 |int i=>
  obtain⟨t,rfl⟩:=r
  cases(show T= "int" from ty)
  exact⟨typeIs_int s i t,fun _ e=>nomatch e⟩
 |ref p=>
  cases r
  rcases ty with⟨rfl,xs,hq⟩|⟨rfl,o,hk,hc,hd⟩|⟨rfl,hk⟩|⟨rfl,S,n,hk⟩
  ·obtain⟨its,_,pl,_⟩:=I.list hq
   refine⟨pl.isList.typeIs,fun a e=> ?_⟩
   cases e
   obtain⟨o,n,e,c,hd,_⟩:=pl
   exact⟨o,e,hd⟩
  ·refine⟨⟨o,I.kIn p o hk,hc⟩,fun a e=> ?_⟩
   cases e
   exact⟨o,I.kIn _ o hk,hd⟩
  ·have z: ∃o,s.heap.get? p=some o/\o.ExactDict:=by
    rcases hk with⟨kvs,hk⟩|⟨kvs,hk⟩
    ·obtain⟨_,_,_,_,o,_,_,e,ex,_⟩:=I.hok p _ hk
     exact⟨o,e,ex⟩
    ·obtain⟨_,_,_,_,o,_,_,e,ex,_⟩:=I.hok p _ hk
     exact⟨o,e,ex⟩
   obtain⟨o,e,ex⟩:=z
   refine⟨⟨o,e,ex.1⟩,fun a e2=> ?_⟩
   cases e2
   exact⟨o,e,ex.2.1⟩
  ·obtain⟨o,_,_,_,e,ex,_⟩:=I.hok p _ hk
   refine⟨⟨o,e,ex.1⟩,fun a e2=> ?_⟩
   cases e2
   exact⟨o,e,ex.2.1⟩
 |_=>exact False.elim ty
noncomputable def tBM(K:W.Frag)(T:String)(r:V->List V->Hp->VK->Prop)(to:TE)(t:TA):TE:=fun σ H Q=>to σ H fun x H1=>tyV K T x H1/\t σ H1 fun xs H2=>r x xs H2 Q
variable{o e:Expr}{es:List Expr}{to:TE}{t:TA}{name:Str}{apos cpos:Pos}{T id:String}{r:V->List V->Hp->VK->Prop}
theorem zdN(pa:PlainAttrs T)(slot:Slot T name id)(hty:typeOf (.builtin id)=pure (.type "method_descriptor"))(hm:MtR X id r)(ho:PE X o to)(ha:PA X (e::es) t)
 (hbase:attributeBase o name X.env (eval o X.env)=eval o X.env:=by rfl)
 (hfew:((backTo cpos (starEach (e::es) X.env)).all (fun x=> !x.1)&&(backToKw cpos (keywordEach [] X.env)).all (fun x=>x.1.isSome)
  &&decide ((e::es).length+([]:List Keyword).length+(if([]:List Keyword).isEmpty then 0 else 1)<30))=true:=by rfl)
 (hline:(apos.endLine==cpos.line)=true:=by rfl) (hs:starEach (e::es) X.env=(false,eval e X.env)::starEach es X.env:=by rfl) (hplain:(backTo cpos (starEach es X.env)).any (·.1)=false:=by rfl):
 PE X (.Call (.Attribute o name apos) (e::es) [] cpos) (tBM X.K T r to t):=by
 intro pins s σ H Q I h
 refine wpAny_Call_method_late hbase hfew hline rfl (thn (ho pins s σ H _ I h) fun v s1 ⟨x,H1,I1,r1,ty,q1⟩=> ?_)
 obtain⟨h1,h2⟩:=zbz I1 r1 ty
 refine⟨T,id,pa,slot,hty,h1,h2, ?_⟩
 have hA:=ha cpos pins s1 σ H1 _ I1 q1
 rw[hs] at hA⊢
 refine Calls.callWith_builtin (by show(false||(backTo cpos (starEach es X.env)).any (·.1))=false;rw[hplain]<;>rfl) (Calls.evalArgs_plain ?_)
 exact thn hA fun us s2 ⟨vs,H2,I2,r2,q2⟩=>hm pins s2 σ H2 x vs v us Q I2 r1 r2 q2
end
noncomputable def MtM(X:Cx)(id:String)(r:V->List V->Hp->VK->Prop):Prop:=
 ∀(pins:List (Addr×Obj)) (s:Shared) (σ:St) (H:Hp) (x:V) (xs:List V) (v:Value) (us:List Value) (Q:VK),Inv X pins σ H s->RelV x v->Vals xs us->r x xs H Q->
  wpAny (model X.prog X.w) X.A (call (.builtin id) (v::us)) (EP X pins σ Q) X.xe s
theorem Vals.one: ∀{x:V} {us:List Value},Vals [x] us->∃u,us=[u]/\RelV x u
 |_,_, .cons r .nil=>⟨_,rfl,r⟩
theorem Vals.reverse{xs:List V}{us:List Value}(h:Vals xs us):Vals xs.reverse us.reverse:=by
 induction h with
 |nil=>exact .nil
 |cons r t ih=>rw[List.reverse_cons,List.reverse_cons];exact Vals.append ih (.cons r .nil)
theorem Vals.rep{xs:List V}{us:List Value}(h:Vals xs us): ∀k:Nat,Vals (List.replicate k xs).flatten (List.replicate k us).flatten
 |0=> .nil
 |k+1=>by
  rw[List.replicate_succ,List.replicate_succ,List.flatten_cons,List.flatten_cons]
  exact Vals.append h (Vals.rep h k)
theorem z2p(its:List Value): ∀(k:Nat) (acc:List Value),
 List.foldl (fun x1 x2=>x1++x2) acc.toArray (List.replicate k its.toArray)=(acc++(List.replicate k its).flatten).toArray
 |0,acc=>by simp
 |k+1,acc=>by
  have e:acc.toArray++its.toArray=(acc++its).toArray:=by simp
  have e2:(acc++its)++(List.replicate k its).flatten=acc++(List.replicate (k+1) its).flatten:=by
   rw[List.replicate_succ,List.flatten_cons,List.append_assoc]
  rw[<-e2,<-z2p its k (acc++its),<-e,List.replicate_succ,List.foldl_cons]
section
variable{X:Cx}{pins:List (Addr×Obj)}{σ:St}{H:Hp}{s:Shared}{l b:Addr}{xs ys zs:List V}
theorem Inv.lset{its its':List Value}{n:Nat}{f:Array Value->Array Value}{t':Nat}(I:Inv X pins σ H s)(hH:H l=some (.lst xs))
 (e:s.heap.get? l=some {cls:= .type "list",data:= .seq its.toArray n}) (hf:f its.toArray=its'.toArray) (hv:Vals ys its') (hz:ys.length<=sizeLine):
 Inv X pins σ (upd H l (.lst ys)) {s with heap:=s.heap.update l (Obj.mapSeq f),toks:=t'}:=by
 have q:=PySem.IsL.update e f
 rw[hf] at q
 refine I.write (x:=l) (e:=l) (by rw[hH];exact trivial) (.inl rfl) (fun b' u hb hu=>(Heap.get?_update_other s.heap (Obj.mapSeq f) (Ne.symm hb)).trans hu) ⟨_,q⟩ ?_
 exact⟨hz,its',_,hv,q⟩
theorem Inv.lnew{its:List Value}{t':Nat}(I:Inv X pins σ H s)(hv:Vals ys its)(hz:ys.length<=sizeLine):
 Inv X pins σ (upd H s.heap.objs.size (.lst ys)) {s with heap:=s.heap.push {cls:= .type "list",data:= .seq its.toArray},toks:=t'}:=
 I.laid (fun _ _ q=>Heap.get?_push_of_some _ q) (Nat.le_refl _) ⟨hz,its,0,hv,Heap.get?_push_size _ rfl⟩
theorem Inv.fresh(I:Inv X pins σ H s):H s.heap.objs.size=none:=I.hok.fresh (Nat.le_refl _)
theorem Inv.lstM(I:Inv X pins σ H s)(hH:H l=some (.lst xs)):xs.length<=sizeLine/\∃(its:List Value) (n:Nat),Vals xs its/\xs.length=its.length/\s.heap.get? l=some {cls:= .type "list",data:= .seq its.toArray n}:=by
 obtain⟨z,its,n,r,e⟩:=I.hok l _ hH
 exact⟨z,its,n,r,r.length,e⟩
theorem z8f{n:Nat}(h:n<=sizeLine):Builtin.List.listTooLong n=false:=by
 unfold Builtin.List.listTooLong
 exact decide_eq_false (by lia)
end
section
variable{X:Cx}
noncomputable def z6P:V->List V->Hp->VK->Prop:=fun x vs H Q=> ∃l xs y,x= .ref l/\vs=[y]/\H l=some (.lst xs)/\xs.length<sizeLine/\Q .non (upd H l (.lst (xs++[y])))
theorem z4d:MtM X "list.append" z6P:=by
 intro pins s σ H x vs v us Q I rx rv h
 obtain⟨l,xs,y,rfl,rfl,hH,hz,q⟩:=h
 cases rx
 obtain⟨u,rfl,ru⟩:=rv.one
 obtain⟨z,its,n,r,hl,e⟩:=I.lstM hH
 refine call_meets F.slot_list_append ⟨_,e,rfl⟩ F.entry_list_append (F.args_list_append_2 _ _) (PySem.list_append l its.toArray n u (by rw[List.size_toArray];lia)) ⟨e, ?_⟩
 refine⟨.non,_,I.lset (its':=its++[u]) hH e (by simp) (r.append (.cons ru .nil)) ?_,rfl,q⟩
 rw[List.length_append,List.length_singleton]
 lia
noncomputable def rCat:R2:=fun x y H Q=> ∃l b xs zs,x= .ref l/\y= .ref b/\H l=some (.lst xs)/\H b=some (.lst zs)/\xs.length+zs.length<=sizeLine/\∀p,H p=none->Q (.ref p) (upd H p (.lst (xs++zs)))
theorem zbA:OpR X (binaryOp .Add) rCat:=by
 intro pins s σ H x y v u Q I rx ry h
 obtain⟨l,b,xs,zs,rfl,rfl,hH,hB,hz,q⟩:=h
 cases rx
 cases ry
 obtain⟨z,its,n,r,hl,e⟩:=I.lstM hH
 obtain⟨z2,its2,n2,r2,hl2,e2⟩:=I.lstM hB
 refine PySem.P.add_list e e2 ?_ (by rw[List.size_toArray,List.size_toArray];lia)
 have ea:its.toArray++its2.toArray=(its++its2).toArray:=by simp
 rw[ea]
 exact⟨.ref _,_,I.lnew (t':=s.toks) (r.append r2) (by rw[List.length_append];lia),rfl,q _ I.fresh⟩
noncomputable def rRep:R2:=fun x y H Q=> ∃l k xs,x= .ref l/\y= .int k/\H l=some (.lst xs)/\-(2^63)<=k/\k<2^63/\xs.length*k.toNat<=sizeLine/\
 ∀p,H p=none->Q (.ref p) (upd H p (.lst (List.replicate k.toNat xs).flatten))
theorem z4R{α:Type}(xs:List α)(k:Nat):(List.replicate k xs).flatten.length=k*xs.length:=by
 induction k with
 |zero=>simp
 |succ k ih=>rw[List.replicate_succ,List.flatten_cons,List.length_append,ih,Nat.succ_mul,Nat.add_comm]
theorem zbB:OpR X (binaryOp .Mult) rRep:=by
 intro pins s σ H x y v u Q I rx ry h
 obtain⟨l,k,xs,rfl,rfl,hH,h1,h2,hz,q⟩:=h
 cases rx
 obtain⟨t,rfl⟩:=ry
 obtain⟨z,its,n,r,hl,e⟩:=I.lstM hH
 have hlen:its.toArray.size*k.toNat<=sizeLine:=by rw[List.size_toArray,<-hl];exact hz
 have hcap: ¬its.toArray.size*k.toNat>(2^63 - 1)/8:=by
  have:(sizeLine:Nat)<=(2^63 - 1)/8:=by decide
  lia
 have hfit: ¬(!Builtin.List.listFitsIndex k)=true:=by
  rw[fitsIndex_both h1 h2]
  exact Bool.false_ne_true
 have hlong: ¬Builtin.List.listTooLong (its.toArray.size*k.toNat)=true:=by
  rw[z8f hlen]
  exact Bool.false_ne_true
 have hnew:List.foldl (fun x1 x2=>x1++x2) #[] (List.replicate (if its.toArray.isEmpty=true then 0 else k.toNat) its.toArray)=(List.replicate k.toNat its).flatten.toArray:=by
  have f0: ∀m:Nat,List.foldl (fun x1 x2=>x1++x2) #[] (List.replicate m its.toArray)=(List.replicate m its).flatten.toArray:=fun m=>by
   have:=z2p its m []
   rw[List.nil_append] at this
   exact this
  rw[f0]
  cases its with
  |nil=>simp
  |cons a r'=>rw[if_neg (by simp)]
 refine wpAny_binaryOp_repeat_ref (T:= "list") (U:= "int") (by decide) ⟨_,e,rfl⟩ (fun s'=>typeIs_int s' k t) noFill_list_mul F.fills_int_mul F.slot_int_rmul repeat_list F.slot_int_index.lookup
  (call_meets F.slot_int_rmul (typeIs_int s k t) F.entry_int_rmul (F.args_int_rmul_2 _ _) (int___rmul___int_list k t l its.toArray n)
   ⟨e,rfl,⟨_,e,rfl⟩,call_meets F.slot_list_mul ⟨_,e,rfl⟩ F.entry_list_mul (F.args_list_mul_2 _ _) (AutoListH.list___mul___list_int_3 l its.toArray n k t hfit hcap hlong) ⟨e, ?_⟩⟩)
 rw[hnew]
 exact⟨.ref _,_,I.lnew (t':=s.toks) (r.rep k.toNat) (by rw[z4R,Nat.mul_comm];exact hz),rfl,q _ I.fresh⟩
end
section
variable{prog:Program}{w:World}{A:Around}{E:Value->Shared->Prop}{s:Shared}
set_option maxRecDepth 100000 in
end
section
variable{κ:Type}[DecidableEq κ]
noncomputable def valV(kvs:List (κ×V))(k:κ):Option V:=(kvs.find? fun kv=>decide (kv.1=k)).map (·.2)
noncomputable def putK(kvs:List (κ×V))(k:κ)(v:V):List (κ×V):=
 if(kvs.any fun kv=>decide (kv.1=k))=true then kvs.map (fun kv=>if kv.1=k then(kv.1,v) else kv) else kvs++[(k,v)]
theorem z2i{p:κ×V}{r:List (κ×V)}{k:κ}(e:p.1=k):valV (p::r) k=some p.2:=by simp[valV,List.find?_cons,e]
theorem z1L{p:κ×V}{r:List (κ×V)}{k:κ}(e: ¬p.1=k):valV (p::r) k=valV r k:=by simp[valV,List.find?_cons,e]
theorem z5u(k:κ): ∀kvs:List (κ×V),(kvs.any fun kv=>decide (kv.1=k))=(valV kvs k).isSome
 |[]=>rfl
 |p::r=>by
  rw[List.any_cons]
  by_cases e:p.1=k
  ·simp only[z2i e,decide_eq_true e,Bool.true_or,Option.isSome_some]
  ·rw[z1L e,decide_eq_false e,Bool.false_or];exact z5u k r
theorem z2q(kvs:List (κ×V))(k:κ)(v:V):(putK kvs k v).length<=kvs.length+1:=by
 unfold putK
 split
 ·rw[List.length_map];lia
 ·rw[List.length_append,List.length_cons,List.length_nil];lia
theorem RelO.isSome_eq{o:Option V}{u:Option Value}(r:RelO o u):o.isSome=u.isSome:=by
 cases o with
 |none=>cases u with
  |none=>rfl
  |some _=>exact(show False from r).elim
 |some _=>cases u with
  |none=>exact(show False from r).elim
  |some _=>rfl
theorem RelO.getD{o:Option V}{u:Option Value}{d:V}{d':Value}(r:RelO o u)(rd:RelV d d'):RelV (o.getD d) (u.getD d'):=by
 cases o with
 |none=>cases u with
  |none=>exact rd
  |some _=>exact(show False from r).elim
 |some _=>cases u with
  |none=>exact(show False from r).elim
  |some _=>exact r
theorem KV.val{kvs:List (κ×V)}{vs:List (κ×Value)}(r:KV kvs vs)(k:κ):RelO (valV kvs k) (valueAt vs k):=by
 unfold KV at r
 induction r with
 |nil=>exact True.intro
 | @cons p q ps qs h t ih=>
  obtain⟨h1,h2⟩:=h
  by_cases e:p.1=k
  ·have e':q.1=k:=h1.symm.trans e
   have b:valueAt (q::qs) k=some q.2:=by simp[valueAt,List.find?_cons,e']
   rw[z2i e,b];exact h2
  ·have e': ¬q.1=k:=fun z=>e (h1.trans z)
   have b:valueAt (q::qs) k=valueAt qs k:=by simp[valueAt,List.find?_cons,e']
   rw[z1L e,b];exact ih
theorem KV.any{kvs:List (κ×V)}{vs:List (κ×Value)}(r:KV kvs vs)(k:κ):(kvs.any fun kv=>decide (kv.1=k))=vs.any fun kv=>decide (kv.1=k):=by
 unfold KV at r
 induction r with
 |nil=>rfl
 |cons h t ih=>rw[List.any_cons,List.any_cons,ih,h.1]
theorem KV.repl{kvs:List (κ×V)}{vs:List (κ×Value)}(r:KV kvs vs)(k:κ){y:V}{u:Value}(ry:RelV y u):
 KV (kvs.map fun kv=>if kv.1=k then(kv.1,y) else kv) (vs.map fun kv=>if kv.1=k then(kv.1,u) else kv):=by
 unfold KV at r⊢
 induction r with
 |nil=>exact .nil
 | @cons p q ps qs h t ih=>
  rw[List.map_cons,List.map_cons]
  refine .cons ?_ ih
  obtain⟨h1,h2⟩:=h
  by_cases e:p.1=k
  ·rw[if_pos e,if_pos (h1.symm.trans e)];exact⟨h1,ry⟩
  ·rw[if_neg e,if_neg (fun z=>e (h1.trans z))];exact⟨h1,h2⟩
theorem KV.put{kvs:List (κ×V)}{vs:List (κ×Value)}(r:KV kvs vs)(k:κ){y:V}{u:Value}(ry:RelV y u):KV (putK kvs k y) (stored vs k u):=by
 unfold putK stored
 rw[r.any k]
 by_cases e:(vs.any fun kv=>decide (kv.1=k))=true
 ·rw[if_pos e,if_pos e];exact r.repl k ry
 ·rw[if_neg e,if_neg e];exact Paired.snoc r ⟨rfl,ry⟩
theorem KV.length{kvs:List (κ×V)}{vs:List (κ×Value)}(r:KV kvs vs):kvs.length=vs.length:=Paired.length r
end
theorem z62{P:Program}{w:World}{k:Key}{u:Value}(r:RelV (kV k) u):(z0f P w).is k u=true:=by
 cases k with
 |inl i=>obtain⟨t,e⟩:=(show ∃t,u=Value.int i t from r);subst e;exact z4N P w i t
 |inr x=>obtain⟨t,e⟩:=(show ∃t,u=Value.str x t from r);subst e;exact z4O P w x t
theorem z4e{P:Program}{w:World}: ∀{ks:List Key} {us:List Value},Vals (ks.map kV) us->ItemsAre (z0f P w) ks us
 |[],_,r=>by rw[List.map_nil] at r;cases r;exact .nil
 |k::ks,_,r=>by
  rw[List.map_cons] at r
  cases r with
  |cons h t=>exact .cons (z62 h) (z4e t)
noncomputable abbrev KT(H:Hp):List (NK×V)->List (NK×Addr×Value)->Prop:=Paired fun p q=>p.1=q.1/\TK H p.1 q.2.1/\RelV p.2 q.2.2
theorem KT.val{H:Hp}{kvs:List (NK×V)}{xs:List (NK×Addr×Value)}(r:KT H kvs xs)(k:NK):RelO (valV kvs k) ((atKey xs k).map (·.2)):=by
 induction r with
 |nil=>exact True.intro
 | @cons p q ps qs h t ih=>
  obtain⟨h1,_,h2⟩:=h
  by_cases e:p.1=k
  ·have e':q.1=k:=h1.symm.trans e
   have b:atKey (q::qs) k=some q.2:=by simp[atKey,List.find?_cons,e']
   rw[z2i e,b];exact h2
  ·have e': ¬q.1=k:=fun z=>e (h1.trans z)
   have b:atKey (q::qs) k=atKey qs k:=by simp[atKey,List.find?_cons,e']
   rw[z1L e,b];exact ih
theorem KT.repl{H:Hp}{kvs:List (NK×V)}{xs:List (NK×Addr×Value)}(r:KT H kvs xs)(k:NK){y:V}{u:Value}(ry:RelV y u):
 KT H (kvs.map fun kv=>if kv.1=k then(kv.1,y) else kv) (xs.map (putAt k u)):=by
 induction r with
 |nil=>exact .nil
 | @cons p q ps qs h t ih=>
  rw[List.map_cons,List.map_cons]
  refine .cons ?_ ih
  obtain⟨h1,h2,h3⟩:=h
  unfold putAt
  by_cases e:p.1=k
  ·rw[if_pos e,if_pos (h1.symm.trans e)];exact⟨h1,h2,ry⟩
  ·rw[if_neg e,if_neg (fun z=>e (h1.trans z))];exact⟨h1,h2,h3⟩
theorem KT.put{H:Hp}{kvs:List (NK×V)}{xs:List (NK×Addr×Value)}(r:KT H kvs xs)(k:NK){b:Addr}{y:V}{u:Value}(hb:TK H k b)(ry:RelV y u):
 KT H (putK kvs k y) (storedH xs k b u):=by
 have e:(kvs.any fun kv=>decide (kv.1=k))=(atKey xs k).isSome:=by
  rw[z5u,(r.val k).isSome_eq,Option.isSome_map]
 unfold putK storedH
 rw[e]
 by_cases q:(atKey xs k).isSome=true
 ·rw[if_pos q,if_pos q];exact r.repl k ry
 ·rw[if_neg q,if_neg q];exact Paired.snoc r ⟨rfl,hb,ry⟩
theorem KT.keeps{H H':Hp}{kvs:List (NK×V)}{xs:List (NK×Addr×Value)}(r:KT H kvs xs)(ht: ∀b ys,H b=some (.tup ys)->H' b=some (.tup ys)):KT H' kvs xs:=
 Paired.mapP r fun _ _ z=>⟨z.1,z.2.1.stay ht,z.2.2⟩
section
variable{P:Program}{w:World}{H:Hp}{h:Heap}{a:Addr}
theorem zbC{u:HO}(ok:HOk P w H h)(e:Rd H a u):z0Y P w H h a u:=e.ok ok
theorem z63{kvs:List (Key×V)}(ok:HOk P w H h)(e:Rd H a (.dK kvs)):kvs.length<=sizeLine/\(a==sysModules)=false/\∃vs,KV kvs vs/\h.DictOf (z0f P w) a vs:=
 show z0Y P w H h a (.dK kvs) from zbC ok e
theorem zdO{kvs:List (Key×V)}(ok:HOk P w H h)(e:H a=some (.dK kvs)):kvs.length<=sizeLine/\(a==sysModules)=false/\∃vs,KV kvs vs/\h.DictOf (z0f P w) a vs:=z63 ok (.inl e)
theorem z9S{ks:List Key}(ok:HOk P w H h)(e:H a=some (.tup (ks.map kV))):IsTupleKey (z0f P w) h ks a:=by
 obtain⟨_,its,r,o,h1,h2,n,h3⟩:=(show z0Y P w H h a (.tup (ks.map kV)) from ok a _ e)
 exact⟨o,its.toArray,n,h1,h2,h3,by simpa using z4e r⟩
theorem z4S(ok:HOk P w H h): ∀{k:NK} {xs:List V} {us:List Value},Paired (TKi H) k xs->Vals xs us->Paired (ItN P w h) k us
 |_,_,_, .nil, .nil=> .nil
 | .inl k::_,_,_, .cons a b, .cons c d=>by
  have e:=(show _=kV k from a)
  subst e
  exact .cons (z62 c) (z4S ok b d)
 | .inr ks::_,_,_, .cons a b, .cons c d=>by
  obtain⟨x,rfl,hx⟩:=a
  cases c
  exact .cons ⟨x,rfl,z9S ok hx⟩ (z4S ok b d)
theorem z4f{k:NK}(ok:HOk P w H h)(e:TK H k a):(z1b P w).is h k a:=by
 obtain⟨xs,e,p⟩:=e
 obtain⟨_,its,r,o,h1,h2,n,h3⟩:=(show z0Y P w H h a (.tup xs) from ok a _ e)
 exact⟨o,its.toArray,n,h1,h2,h3,by simpa using z4S ok p r⟩
theorem z64{kvs:List (NK×V)}(ok:HOk P w H h)(e:Rd H a (.dT kvs)):kvs.length<=sizeLine/\(a==sysModules)=false/\
 ∃xs,KT H kvs xs/\h.DictOfH (z1b P w) a xs:=by
 obtain⟨z,y,xs,r,o,es,ep,h1,h2,h3,h4,h5⟩:=(show z0Y P w H h a (.dT kvs) from zbC ok e)
 refine⟨z,y,xs,r,o,es,ep,h1,h2,h3,h4,fun x hx=> ?_,h5⟩
 have all: ∀{l:List (NK×V)} {m:List (NK×Addr×Value)},KT H l m->∀x∈m,(z1b P w).is h x.1 x.2.1:=by
  intro l m q
  induction q with
  |nil=>intro x hx;exact nomatch hx
  | @cons p q ps qs hq t ih=>
   intro x hx
   rcases List.mem_cons.mp hx with e|hx
   ·subst e
    exact z4f ok (by rw[<-hq.1];exact hq.2.1)
   ·exact ih x hx
 exact all r x hx
theorem zdP{kvs:List (NK×V)}(ok:HOk P w H h)(e:H a=some (.dT kvs)):kvs.length<=sizeLine/\(a==sysModules)=false/\
 ∃xs,KT H kvs xs/\h.DictOfH (z1b P w) a xs:=z64 ok (.inl e)
end
noncomputable def DGet(H:Hp)(a:Addr)(y:V)(r:Option V):Prop:=
 (∃kvs k,Rd H a (.dK kvs)/\y=kV k/\r=valV kvs k)\/∃kvs k b,Rd H a (.dT kvs)/\y= .ref b/\TK H k b/\r=valV kvs k
noncomputable def DPut(H:Hp)(a:Addr)(y v:V)(H':Hp):Prop:=
 (∃kvs k,H a=some (.dK kvs)/\y=kV k/\kvs.length<sizeLine/\H'=upd H a (.dK (putK kvs k v)))\/
 ∃kvs k b,H a=some (.dT kvs)/\y= .ref b/\TK H k b/\kvs.length<sizeLine/\H'=upd H a (.dT (putK kvs k v))
theorem DPut.t{H:Hp}{a b:Addr}{kvs:List (NK×V)}{k:NK}{v:V}(e:H a=some (.dT kvs))(eb:TK H k b)(hl:kvs.length<sizeLine):
 DPut H a (.ref b) v (upd H a (.dT (putK kvs k v))):= .inr ⟨kvs,k,b,e,rfl,eb,hl,rfl⟩
section
variable{X:Cx}{pins:List (Addr×Obj)}{σ:St}{H:Hp}{s:Shared}{a:Addr}{y v:V}{u r:Value}{o:Option V}{A:Around}{E:Value->Shared->Prop}
theorem Inv.big(I:Inv X pins σ H s):sysModules<s.heap.objs.size:=by
 have h:mainGlobals<s.heap.objs.size:=(I.mod.glob.keeps I.bk).lt
 exact Nat.lt_trans (by decide) h
theorem z6Q{Q:Value->Shared->Prop}(hu:A.units+2<cLine)(I:Inv X pins σ H s)(g:DGet H a y (some v))(ry:RelV y u)(h: ∀w' s',Inv X pins σ H s'->RelV v w'->Q w' s'):
 wpAny (model X.prog X.w) A (getItem (.ref a) u) Q E s:=by
 rcases g with⟨kvs,k,e,ey,l⟩|⟨kvs,k,b,e,ey,eb,l⟩
 ·subst ey
  obtain⟨z,hd,vs,rel,dd⟩:=z63 I.hok e
  obtain⟨w',hw,rw'⟩:=RelO.some_of (v:=v) (o:=valueAt vs k) (by rw[l];exact rel.val k)
  exact wpAny_getItem_of (z62 ry) dd.mapOf hw (h w' _ (I.tok _) rw')
 ·subst ey
  cases(show u=Value.ref b from ry)
  obtain⟨z,hd,xs,rel,dd⟩:=z64 I.hok e
  obtain⟨w',hw,rw'⟩:=RelO.some_of (v:=v) (o:=(atKey xs k).map (·.2)) (by rw[l];exact rel.val k)
  obtain⟨p,hp,hp2⟩:=Option.map_eq_some_iff.mp hw
  refine wpAny_getItem_heap (z1K hu) (z4f I.hok eb) dd hp ?_
  rw[hp2]
  exact h w' _ (I.tok _) rw'
theorem d_in{Q:Value->Shared->Prop}(hu:A.units+2<cLine)(I:Inv X pins σ H s)(g:DGet H a y o)(ry:RelV y u)(h: ∀s',Inv X pins σ H s'->Q (.bool o.isSome) s'):
 wpAny (model X.prog X.w) A (compareOp .In u (.ref a)) Q E s:=by
 rcases g with⟨kvs,k,e,ey,l⟩|⟨kvs,k,b,e,ey,eb,l⟩
 ·subst ey
  obtain⟨z,hd,vs,rel,dd⟩:=z63 I.hok e
  refine wpAny_in_of (z62 ry) hd dd.mapOf ?_
  rw[<-(rel.val k).isSome_eq,<-l]
  exact h _ (I.tok _)
 ·subst ey
  cases(show u=Value.ref b from ry)
  obtain⟨z,hd,xs,rel,dd⟩:=z64 I.hok e
  refine wpAny_in_heap (z1K hu) (z4f I.hok eb) hd dd ?_
  have q:=(rel.val k).isSome_eq
  rw[Option.isSome_map] at q
  rw[<-q,<-l]
  exact h _ (I.tok _)
theorem z6R{h':Heap}{t':Nat}{ob:HO}(I:Inv X pins σ H s)(mu:Mut (H a))(hs:Heap.SameBut a s.heap h')(he: ∃q,h'.get? a=some q)(new:z0Y X.prog X.w (upd H a ob) h' a ob):
 Inv X pins σ (upd H a ob) {s with heap:=h',toks:=t'}:=
 I.write (x:=a) (e:=a) mu (.inl rfl) (fun b q hb z=>(hs.2 b hb).trans z) he new
theorem zbD{P:Program}{w:World}{H':Hp}{h':Heap}{kvs:List (Key×V)}{vs:List (Key×Value)}(z:kvs.length<=sizeLine)(hd:(a==sysModules)=false)(rel:KV kvs vs)(dd:h'.DictOf (z0f P w) a vs):
 z0Y P w H' h' a (.dK kvs):=⟨z,hd,vs,rel,dd⟩
theorem z6S{H':Hp}{Q:Unit->Shared->Prop}(hu:A.units+2<cLine)(I:Inv X pins σ H s)(g:DPut H a y v H')(ry:RelV y u)(rv:RelV v r)(h: ∀s',Inv X pins σ H' s'->Q () s'):
 wpAny (model X.prog X.w) A (setItem (.ref a) u r) Q E s:=by
 rcases g with⟨kvs,k,e,ey,l,eH⟩|⟨kvs,k,b,e,ey,eb,l,eH⟩
 ·subst ey eH
  obtain⟨z,hd,vs,rel,dd⟩:=zdO I.hok e
  have hz:vs.length<=sizeLine:=by rw[<-rel.length];exact z
  have hl:(putK kvs k v).length<=sizeLine:=by have:=z2q kvs k v;lia
  refine wpAny_setItem_pairs (hsz:=hz) (z62 ry) dd fun h' dd' hs=>h _ ?_
  have he: ∃q,h'.get? a=some q:=let⟨q,_,_,hq,_⟩:=dd';⟨q,hq⟩
  exact z6R I (by rw[e];exact True.intro) hs he (zbD hl hd (rel.put k rv) dd')
 ·subst ey eH
  cases(show u=Value.ref b from ry)
  obtain⟨z,hd,xs,rel,dd⟩:=zdP I.hok e
  have hz:xs.length<=sizeLine:=by rw[<-Paired.length rel];exact z
  have hl:(putK kvs k v).length<=sizeLine:=by have:=z2q kvs k v;lia
  refine wpAny_setItem_heap (hsz:=hz) (z1K hu) (z4f I.hok eb) dd fun h' dd' hs=>h _ ?_
  obtain⟨q,es,ep,hq,h2,h3,h4,_,h5⟩:=dd'
  refine z6R I (by rw[e];exact True.intro) hs ⟨q,hq⟩ ⟨hl,hd,_,(rel.put k eb rv).keeps fun c ys ec=> ?_,q,es,ep,hq,h2,h3,h4,h5⟩
  rw[z02 (z2f ec e (fun z=>nomatch z))]
  exact ec
end
noncomputable def NoSl(i:Expr):Prop:= ∀ov iv,subscripted i false ov iv=operate [ov,iv] (getItem ov iv)
theorem z9T{prog:Program}{w:World}{A:Around}{E:Value->Shared->Prop}{s:Shared}{env:Env}{value slice:Expr}{pos:Pos}{T id:String}{Q:Value->Shared->Prop}
 (hl:typeLookup (.type T) "__getitem__" =pure (some (.builtin id))) (hs:NoSl slice)
 (h:wpAny (model prog w) A (eval value env) (fun o s₁=>wpAny (model prog w) A (eval slice env) (fun i s₂=>s₂.TypeIs o T/\wpAny (model prog w) A (getItem o i) Q E s₂) E s₁) E s):
 wpAny (model prog w) A (eval (.Subscript value slice pos) env) Q E s:=by
 refine Subscript_ (wpAny_mono h (fun o s₁ h₁=>wpAny_mono h₁ (fun i s₂ h₂=> ?_) fun _ _ x=>x) fun _ _ x=>x)
 obtain⟨hT,h₂⟩:=h₂
 unfold subscriptTail
 refine wpAny_bind ?_
 rw[getitemInPython_of_ne hT.not_modules]
 refine wpAny_bind (wpAny_specialOf hT hl ?_)
 have fin:wpAny (model prog w) A (subscripted slice false o i) (fun r s₃=>wpAny (model prog w) A (letTemporaryGo value o r>>=fun _=>pure r) Q E s₃) E s₂:=by
  rw[hs o i]
  exact wpAny_operating (wpAny_mono h₂ (fun r s₃ h₃=>wpAny_bind (wpAny_letTemporaryGo (wpAny_pure h₃))) fun _ _ x=>x)
 first
  |exact wpAny_pure (wpAny_bind fin)
  |exact wpAny_bind (wpAny_pure (wpAny_bind fin))
  |exact wpAny_bind fin
theorem z4T{X:Cx}{pins:List (Addr×Obj)}{σ:St}{H:Hp}{s:Shared}{a:Addr}{y:V}{o:Option V}(I:Inv X pins σ H s)(g:DGet H a y o):s.TypeIs (.ref a) "dict" :=by
 rcases g with⟨kvs,k,e,_,_⟩|⟨kvs,k,b,e,_,_,_⟩
 ·obtain⟨_,_,vs,_,dd⟩:=z63 I.hok e
  exact dd.typeIs
 ·obtain⟨_,_,xs,_,dd⟩:=z64 I.hok e
  exact dd.typeIs
noncomputable def zdQ(td ty:TE):TE:=fun σ H Q=>td σ H fun x H1=>ty σ H1 fun y H2=> ∃a v,x= .ref a/\DGet H2 a y (some v)/\Q v H2
noncomputable def zdR(td ty tv:TE):TS:=fun D σ H=>tv σ H fun v H1=>td σ H1 fun x H2=>ty σ H2 fun y H3=> ∃a H4,x= .ref a/\DPut H3 a y v H4/\D.nx σ H4
section
variable{X:Cx}{o i e value:Expr}{pos pos' tpos:Pos}{td ty tv:TE}
theorem z9U(hu:X.A.units+2<cLine)(ho:PE X o td)(hi:PE X i ty)(hs:NoSl i):PE X (.Subscript o i pos) (zdQ td ty):=by
 intro pins s σ H Q I h
 refine z9T PySem.F.slot_dict_getitem.lookup hs (thn (ho pins s σ H _ I h) fun u s1 ⟨x,H1,I1,rx,q1⟩=>thn (hi pins s1 σ H1 _ I1 q1) fun iv s2 ⟨y,H2,I2,ry,a,v,ex,g,q2⟩=> ?_)
 subst ex
 obtain rfl:u=Value.ref a:=rx
 exact⟨z4T I2 g,z6Q hu I2 g ry fun w' s3 I3 rw'=>⟨v,H2,I3,rw',q2⟩⟩
theorem z9V(hu:X.A.units+2<cLine)(ho:PE X o td)(hi:PE X i ty)(hv:PE X value tv)(hs:swapsWith value (some (.Subscript o i pos')) pos.line X.env=pure false):
 PS X (.Assign [.Subscript o i pos'] value pos) (zdR td ty tv):=by
 intro pins s σ H D I h
 refine wpAny_Assign_Subscript (thn (hv pins s σ H _ I h) fun r s1 ⟨v,H1,I1,rv,q1⟩=>thn (ho pins s1 σ H1 _ I1 q1) fun u s2 ⟨x,H2,I2,rx,q2⟩=>thn (hi pins s2 σ H2 _ I2 q2) fun iv s3 ⟨y,H3,I3,ry,a,H4,ex,g,q3⟩=> ?_) hs
 subst ex
 obtain rfl:u=Value.ref a:=rx
 exact z6S hu I3 g ry rv fun s4 I4=>⟨σ,H4,I4,q3⟩
end
theorem z8g{P:Program}{w:World}{H:Hp}(h:Heap)(hb:sysModules<h.objs.size):z0Y P w H (h.push {cls:= .type "dict",data:= .dict #[]}) h.objs.size (.dT []):=
 ⟨Nat.zero_le _,beq_eq_false_iff_ne.mpr (Ne.symm (Nat.ne_of_lt hb)),[], .nil,_, #[],0,Heap.get?_push_size _ rfl,⟨rfl,rfl,rfl⟩,rfl,rfl,List.nodup_nil⟩
noncomputable def zbE:TE:=fun _ H Q=> ∀p,H p=none->Q (.ref p) (upd H p (.dT []))
section
variable{X:Cx}{pos:Pos}
theorem z8h:PE X (.Dict [] [] pos) zbE:=fun pins s σ H Q I h=>
 wpAny_Dict_empty ⟨.ref s.heap.objs.size,_,I.laid (a:=s.heap.objs.size) (o:= .dT []) (t':=s.toks) (fun _ _ q=>Heap.get?_push_of_some _ q) (Nat.le_refl _) (z8g s.heap I.big),rfl,h _ (I.hok.fresh (Nat.le_refl _))⟩
end
structure M1(X:Cx)(o:Expr)(m:Str)(apos:Pos)(e:Expr)(cpos:Pos):Prop where
 base:attributeBase o m X.env (eval o X.env)=eval o X.env
 few:((backTo cpos (starEach [e] X.env)).all (fun x=> !x.1)&&(backToKw cpos (keywordEach [] X.env)).all (fun x=>x.1.isSome)
  &&decide (([e]:List Expr).length+([]:List Keyword).length+(if([]:List Keyword).isEmpty then 0 else 1)<30))=true
 line:(apos.endLine==cpos.line)=true
 trees:backTo cpos (starEach [e] X.env)=[(false,eval e X.env)]
structure M2(X:Cx)(o:Expr)(m:Str)(apos:Pos)(e f:Expr)(cpos:Pos):Prop where
 base:attributeBase o m X.env (eval o X.env)=eval o X.env
 few:((backTo cpos (starEach [e,f] X.env)).all (fun x=> !x.1)&&(backToKw cpos (keywordEach [] X.env)).all (fun x=>x.1.isSome)
  &&decide (([e,f]:List Expr).length+([]:List Keyword).length+(if([]:List Keyword).isEmpty then 0 else 1)<30))=true
 line:(apos.endLine==cpos.line)=true
 trees:backTo cpos (starEach [e,f] X.env)=[(false,eval e X.env),(false,eval f X.env)]
noncomputable def IsD(H:Hp)(a:Addr):Prop:=(∃kvs,Rd H a (.dK kvs))\/∃kvs,Rd H a (.dT kvs)
theorem z92{X:Cx}{pins:List (Addr×Obj)}{σ:St}{H:Hp}{s:Shared}{a:Addr}(I:Inv X pins σ H s)(d:IsD H a):
 s.TypeIs (.ref a) "dict" /\(∀b,Value.ref a= .ref b->∃ob,s.heap.get? b=some ob/\ob.dict=none)/\(a==sysModules)=false:=by
 rcases d with⟨kvs,e⟩|⟨kvs,e⟩
 ·obtain⟨_,hd,vs,_,dd⟩:=z63 I.hok e
  refine⟨dd.typeIs,fun b q=> ?_,hd⟩
  cases q
  obtain⟨ob,_,_,h1,h2,_⟩:=dd
  exact⟨ob,h1,h2.2.1⟩
 ·obtain⟨_,hd,xs,_,dd⟩:=z64 I.hok e
  refine⟨dd.typeIs,fun b q=> ?_,hd⟩
  cases q
  obtain⟨ob,_,_,h1,h2,_⟩:=dd
  exact⟨ob,h1,h2.2.1⟩
section
variable{X:Cx}{pins:List (Addr×Obj)}{σ:St}{H:Hp}{s:Shared}{a:Addr}{y d:V}{u r:Value}{o:Option V}{A:Around}{E:Value->Shared->Prop}
theorem zbF{Q:Value->Shared->Prop}(hu:A.units+2<cLine)(I:Inv X pins σ H s)(g:DGet H a y o)(ry:RelV y u)(rd:RelV d r)(h: ∀w' s',Inv X pins σ H s'->RelV (o.getD d) w'->Q w' s'):
 wpAny (model X.prog X.w) A (call (.builtin "dict.get") [.ref a,u,r]) Q E s:=by
 rcases g with⟨kvs,k,e,ey,l⟩|⟨kvs,k,b,e,ey,eb,l⟩
 ·subst ey
  obtain⟨z,hd,vs,rel,dd⟩:=z63 I.hok e
  refine call_meetsIn PySem.F.slot_dict_get dd.typeIs PySem.F.entry_dict_get (PySem.F.args_dict_get_3 _ _ _) (meets_dict_get_default (z0f X.prog X.w) a (z62 ry) hd r) ⟨_,dd.mapOf,h _ _ (I.tok _) ?_⟩
  rw[l]
  exact(rel.val k).getD rd
 ·subst ey
  cases(show u=Value.ref b from ry)
  obtain⟨z,hd,xs,rel,dd⟩:=z64 I.hok e
  refine call_meetsIn PySem.F.slot_dict_get dd.typeIs PySem.F.entry_dict_get (PySem.F.args_dict_get_3 _ _ _) (meetsH_dict_get_default (z1b X.prog X.w) a b hd r) ⟨z1K hu,k,xs,z4f I.hok eb,dd,h _ _ (I.tok _) ?_⟩
  rw[l]
  exact(rel.val k).getD rd
end
noncomputable def z93(td ty tx:TE):TE:=fun σ H Q=>td σ H fun x H1=> ∃a,x= .ref a/\IsD H1 a/\ty σ H1 fun y H2=>tx σ H2 fun z H3=> ∃o,DGet H3 a y o/\Q (o.getD z) H3
section
variable{X:Cx}{o e f:Expr}{apos cpos:Pos}{td ty tx:TE}
theorem z8i(hu:X.A.units+2<cLine)(ho:PE X o td)(he:PE X e ty)(hf:PE X f tx)(m:M2 X o "get" apos e f cpos):PE X (.Call (.Attribute o "get" apos) [e,f] [] cpos) (z93 td ty tx):=by
 intro pins s σ H Q I h
 refine wpAny_Call_method m.base m.few m.line PySem.F.plainAttrs_dict PySem.F.slot_dict_get PySem.F.type_dict_get (thn (ho pins s σ H _ I h) fun u s1 ⟨x,H1,I1,rx,a,ex,d,q1⟩=> ?_)
 subst ex
 obtain rfl:u=Value.ref a:=rx
 obtain⟨t1,t2,_⟩:=z92 I1 d
 refine⟨t1,t2, ?_⟩
 rw[m.trees]
 refine Calls.callWith_builtin rfl (Calls.evalArgs_plain (Calls.spliced_cons (thn (he pins s1 σ H1 _ I1 q1) fun iv s2 ⟨y,H2,I2,ry,q2⟩=>
  Calls.spliced_cons (thn (hf pins s2 σ H2 _ I2 q2) fun fv s3 ⟨z,H3,I3,rz,ov,g,q3⟩=>Calls.spliced_nil ?_))))
 exact zbF hu I3 g ry rz fun w' s4 I4 rw'=>⟨_,H3,I4,rw',q3⟩
end
end L2
namespace Att
open PySem PySem.W PySem.Calls PyProof.Rows
theorem z2r{P:Params}{h:Heap}: ∀(ns:List Int) (vs:List Value),WellAll P h vs (ns.map WData.int)->IntsAre vs ns:=by
 intro ns
 induction ns with
 |nil=>
  intro vs w
  rw[List.map_nil] at w
  cases w
  exact .nil
 |cons n ns ih=>
  intro vs w
  rw[List.map_cons] at w
  cases w with
  |cons a b=>
   cases a
   exact .cons _ _ (ih _ b)
theorem z6T{l:OpenLaw}{n:Nat}(hn:l.most=some n){P:Params}{h:Heap}{args:List WData}{vals:List Value}
 (hpre:l.row.toRowW.claim.pre args=true) (hwl:WellAll P h vals args):
 ∃a vs ns,vals=[Value.ref a]/\args=[WData.list (ns.map WData.int)]/\h.get? a=some {cls:= .type "list",data:= .seq vs.toArray}/\IntsAre vs ns/\ns.length<=n:=by
 have hsh:WShape.hasAll [] args [.list .int]=true:=(pre_splitW hpre).1
 have hc:l.pre.holds [] {args:=args}=true:=(pre_splitW hpre).2
 obtain⟨d,r,rfl,h1,h2⟩:=hasAllW_cons hsh
 obtain rfl:=hasAllW_nil h2
 obtain⟨xs,rfl,h3⟩:=hasW_list h1
 obtain⟨ns,rfl⟩:=items_int h3
 have hlen:ns.length<=n:=by
  unfold OpenLaw.pre at hc
  have h4:(WTm.not (.lt (.lit (.int (n:Int))) (.len (.arg 0)))).holds [] {args:=[.list (ns.map .int)]}=true:=by
   have h4:=(holds_andW hc).1
   rw[hn] at h4
   exact h4
  have h5:=condW_of h4 (w_not (w_lt w_lit (w_len_list (w_arg rfl))))
  rw[List.length_map] at h5
  refine Nat.le_of_not_lt fun q=> ?_
  have q':(n:Int)<((ns.length:Nat):Int):=by lia
  first
   |(rw[decide_eq_true q'] at h5;exact absurd h5 (by decide))
   |(simp at h5;lia)
 cases hwl with
 |cons w1 w2=>
  cases w2
  cases w1 with
  |list ho hall=>exact⟨_,_,ns,rfl,rfl,ho,z2r ns _ hall,hlen⟩
theorem z6U(l:OpenLaw)(args:List WData):l.row.toRowW.claim.post args (.bool true) args=true:=
 postW_of (r:=l.row.toRowW) (X:=(true==true))
  (show WShape.has [] (.bool true) .bool=true by first|rfl|decide|simp[WShape.has,WShape.arms,WShape.armsAll])
  (show(WTm.eq .res (.lit (.bool true))).value [] {args:=args,res:=some (.bool true),after:=args}=some (.bool (true==true)) from w_eq_bool (w_res rfl) w_lit) rfl
theorem attach_call{l:OpenLaw}{n:Nat}{q:Program}{loose:List Str}{XP:(Str->Option Value)->Heap->Prop}{YP:World->Heap->Prop}{d:DefRec}
 (hn:l.most=some n) (hdf:d.params.defaults=[])
 (call: ∀(w:World) (s₀ s₁:Shared) (mg mb:Str->Option Value) (fa:Addr) (o:Obj) (pm cd doc:Value) (a:Addr) (vs:List Value) (ns:List Int),
  Ground q loose [] XP w s₀ mg mb s₁.heap->YP w s₁.heap->
  s₁.heap.get? fa=some o->o.data= .func (docDef d.name d.params d.body d.scope pm cd doc)->s₁.heap.CodeRec cd d.name->mg d.name=some (.ref fa)->
  s₁.heap.get? a=some {cls:= .type "list",data:= .seq vs.toArray}->IntsAre vs ns->ns.length<=n->s₁.gens= #[]->
  codeAny (model l.prog w) callerA (.call (.ref fa) ⟨[.ref a],[]⟩) (fun r s'=>r= .ok (.ret (.bool true))/\OldK s₁.heap s'.heap/\s'.os=s₁.os/\AllBare s'.gens) s₁):
 WalkO q loose XP YP l.row.toRowW d [] (fun f vs=>PySem.call f vs):=by
 intro w s₀ s₁ mg mb G Y fa o pm cd doc dV kV ho hd hcd hD hmg hg args vals as hpre hlay hrd hwl hlo
 obtain rfl:dV= .none:=Dflts.none hD hdf
 obtain rfl:kV= .none:=Dflts.noKw hD
 obtain⟨a,vs,ns,rfl,rfl,hobj,hints,hlen⟩:=z6T hn hpre hwl
 refine enter_call (codeAny_mono (call w s₀ s₁ mg mb fa o pm cd doc a vs ns G Y ho (fd_plain hd) hcd hmg hobj hints hlen hg) fun r s' hq=> ?_)
 obtain⟨rfl,h2,h3,h4⟩:=hq
 exact⟨.inl ⟨.bool true, .bool true,[],rfl,fun _=>rfl, .bool true,z6U l _,fun _=>⟨List.Pairwise.nil,fun _ hm=>(nomatch hm)⟩⟩,h2,h3,h4⟩
end Att
namespace L2
open PySem PySem.Spec PyProof.Rows
theorem z4g: ∀{vs:List Value} {ns:List Int},IntsAre vs ns->Vals (ns.map V.int) vs
 |_,_, .nil=> .nil
 |_,_, .cons n t h=> .cons ⟨t,rfl⟩ (z4g h)
noncomputable def Only(H:Hp):Prop:= ∀b,H b=none\/∃o xs,H b=some (.frz o (.lst xs))
theorem z8j{P:Program}{w:World}{K:W.Frag}{mg mb:Str->Option Value}{CX:CXT}{k:Nat}{fa a:Addr}{fd:FuncData}{x:Str}{sp:Sp}{s₁:Shared}{vs:List Value}{ns:List Int}
 (KX:K.In s₁.heap) (hns:s₁.heap.Ns mainGlobals mg) (hb:s₁.heap.Ns builtinsNs mb) (hbb: ∀x:Str,x≠ "__name__" ->mb x=bootBuiltins x) (hlim:s₁.heap.NoLimit) (hg:s₁.gens= #[])
 (ha:s₁.heap.get? a=some {cls:= .type "list",data:= .seq vs.toArray}) (hi:IntsAre vs ns) (hl:ns.length<=sizeLine) (hr:Room k callerA)
 (F: ∀base:Heap,K.In base->base.Ns mainGlobals mg->FnOk P w K mg base CX k fa fd [x] sp) (hbind: ∀(s:Shared) (u:Value),BindsTo s fd ⟨[u],[]⟩ [(x,u)])
 (hsp: ∀H:Hp,Only H->SqL K H a (ns.map V.int)->sp [.ref a] H (fun v _=>v= .bl true) fun _ _ _=>False)
 (hCX: ∀H e s',CX [] H s₁ (fun _ _ _=>False) e s'->False):
 codeAny (model P w) callerA (.call (.ref fa) ⟨[.ref a],[]⟩) (fun r s'=>r= .ok (.ret (.bool true))/\OldK s₁.heap s'.heap/\s'.os=s₁.os/\AllBare s'.gens) s₁:=by
 have rv:=z4g hi
 have lenV:=hi.length
 have core: ∀H:Hp,Only H->SqL K H a (ns.map V.int)->HOk P w H s₁.heap->(∀b,H b≠none->b=a)->(H a≠none->K.lookup a=none)->
  codeAny (model P w) callerA (.call (.ref fa) ⟨[.ref a],[]⟩) (fun r s'=>r= .ok (.ret (.bool true))/\OldK s₁.heap s'.heap/\s'.os=s₁.os/\AllBare s'.gens) s₁:=by
  intro H hO hS hok hA hK
  have base_of: ∀{b:Addr} {o:Obj},s₁.heap.get? b=some o->H b=none->(hidT s₁.heap H).get? b=some o:=fun e n=>z83 e n
  have noA: ∀{b:Addr} {o:Obj} {es:Array DictEntry} {ep:Nat},s₁.heap.get? b=some o->o.data= .dict es ep->H b=none:=fun{b o es ep} e d=>by
   cases q:H b with
   |none=>rfl
   |some u=>
    have e':b=a:=hA b (by rw[q];simp)
    subst e'
    rw[ha] at e;cases e
    have d':Data.seq vs.toArray _=Data.dict es ep:=d
    cases d'
  have nsK: ∀{b:Addr} {m:Str->Option Value},s₁.heap.Ns b m->(hidT s₁.heap H).Ns b m:=fun{b m} ⟨o,es,ep,e,d,r⟩=>⟨o,es,ep,base_of e (noA e d),d,r⟩
  have hKb:K.In (hidT s₁.heap H):=fun b o e=>base_of (KX b o e) (by
   cases q:H b with
   |none=>rfl
   |some u=>
    have e':b=a:=hA b (by rw[q];simp)
    subst e'
    rw[hK (by rw[q];simp)] at e;cases e)
  have hM:Mod K mg (hidT s₁.heap H):=⟨hKb,nsK hns,⟨mb,nsK hb,hbb⟩,let⟨mc,h1,h2⟩:=hlim;⟨mc,nsK h1,h2⟩⟩
  have e0:Env0 P w K mg (hidT s₁.heap H) callerA [] s₁ H:=⟨rfl,hM,fun b o e=>z9z e,Nat.le_of_eq (z6A _ _),trivial,fun b hb=>absurd (show b∈([]:List Addr) from hb) (by simp),hok, .of_eq hg⟩
  refine codeAny_mono ((F _ hKb (nsK hns)).run callerA [] s₁ H ⟨[.ref a],[]⟩ [.ref a] [.ref a] _ _ hr e0 (hbind s₁ (.ref a)) (.cons rfl .nil) (hsp H hO hS)) fun r s' h=> ?_
  cases r with
  |error e=>exact(hCX H e s' h).elim
  |ok fl=>
   cases fl with
   |next=>exact False.elim h
   |brk=>exact False.elim h
   |cont=>exact False.elim h
   |ret u=>
    obtain⟨v,H',os,bare,un,hok',r',q⟩:=h
    have q':v= .bl true:=q
    subst q'
    obtain rfl:u=Value.bool true:=r'
    refine⟨rfl,OldK.of_keep fun b o e=> ?_,os,bare⟩
    cases q:H b with
    |none=>exact un.keep b o e q (by intro z;exact absurd (show b∈([]:List Addr) from z) (by simp)) (by simp)
    |some u=>
     rcases hO b with z|⟨ob,xs,z⟩
     ·rw[q] at z;cases z
     ·have z2:=un.frzs b ob _ z
      obtain⟨e1,_⟩:=hok b _ z
      obtain⟨e2,_⟩:=hok' b _ z2
      rw[e] at e1;cases e1
      exact e2
 cases hk:K.lookup a with
 |some o=>
  have e:=KX a o hk
  rw[ha] at e
  cases e
  refine core (fun _=>none) (fun _=> .inl rfl) (.inr ⟨_,vs.toArray,_,hk,rfl,rfl,rfl,by rw[List.size_toArray,lenV];exact hl,by simpa using rv⟩) (fun b u z=>by have z':(none:Option HO)=some u:=z;cases z') (fun b z=>absurd rfl z) fun z=>absurd rfl z
 |none=>
  refine core (fun b=>if b=a then some (.frz {cls:= .type "list",data:= .seq vs.toArray} (.lst (ns.map V.int))) else none) (fun b=> ?_) (.inl (.inr ⟨{cls:= .type "list",data:= .seq vs.toArray},if_pos rfl⟩)) (fun b u z=> ?_) (fun b z=> ?_) fun _=>hk
  ·by_cases hb:b=a
   ·exact .inr ⟨_,_,if_pos hb⟩
   ·exact .inl (if_neg hb)
  ·by_cases hb:b=a
   ·have z':=(if_pos hb).symm.trans z
    cases z'
    subst hb
    exact⟨ha,by rw[List.length_map];exact hl,vs,_,rv,ha⟩
   ·have z':=(if_neg hb).symm.trans z
    cases z'
  ·by_cases hb:b=a
   ·exact hb
   ·exact absurd (if_neg hb) z
theorem z9W{l:W.OpenLaw}{n k:Nat}{q:Program}{loose:List Str}{XP:(Str->Option Value)->Heap->Prop}{YP:World->Heap->Prop}{d:DefRec}{K:Params->W.Frag}{CX:World->CXT}{sp:World->Sp}{x:Str}
 (hn:l.most=some n) (hn2:n<=sizeLine) (hdf:d.params.defaults=[]) (hr:Room k callerA)
 (hY: ∀(w:World) (h:Heap),YP w h->(K w.params).In h)
 (F: ∀(w:World) (mg:Str->Option Value) (fa:Addr) (h:Heap),(K w.params).In h->h.Ns mainGlobals mg->mg d.name=some (.ref fa)->
  ∃fd:FuncData,(∀(s:Shared) (u:Value),BindsTo s fd ⟨[u],[]⟩ [(x,u)])/\
   ∀base:Heap,(K w.params).In base->base.Ns mainGlobals mg->FnOk l.prog w (K w.params) mg base (CX w) k fa fd [x] (sp w))
 (hsp: ∀(w:World) (H:Hp) (a:Addr) (ns:List Int),ns.length<=n->Only H->SqL (K w.params) H a (ns.map V.int)->sp w [.ref a] H (fun v _=>v= .bl true) fun _ _ _=>False)
 (hCX: ∀(w:World) (H:Hp) (s:Shared) (e:Value) (s':Shared),CX w [] H s (fun _ _ _=>False) e s'->False):
 W.WalkO q loose XP YP l.row.toRowW d [] (fun f vs=>PySem.call f vs):=by
 refine Att.attach_call hn hdf fun w s₀ s₁ mg mb fa o pm cd doc a vs ns G Y ho hd hcd hmg hobj hints hlen hg=> ?_
 have KX:=hY w _ Y
 obtain⟨fd,hb,hF⟩:=F w mg fa _ KX G.T.g hmg
 exact z8j KX G.T.g G.T.b G.T.builtins G.T.nolimit hg hobj hints (Nat.le_trans hlen hn2) hr hF hb (fun H hO hS=>hsp w H a ns hlen hO hS) fun H e s'=>hCX w H s₁ e s'
noncomputable def z1D(s:Stmt):Arguments:=match s with
 | .FunctionDef _ a _ _ _ _ _ _ _ _=>a
 |_=>{posonlyargs:=[],args:=[],vararg:=none,kwonlyargs:=[],kw_defaults:=[],kwarg:=none,defaults:=[]}
noncomputable def z0S(s:Stmt):List Stmt:=match s with
 | .FunctionDef _ _ b _ _ _ _ _ _ _=>b
 |_=>[]
noncomputable def z03(s:Stmt):Scope:=match s with
 | .FunctionDef _ _ _ _ _ _ sc _ _ _=>sc
 |_=>{kind:= .function,names:=[],isGenerator:=false,isCoroutine:=false}
noncomputable abbrev CX0:CXT:=fun _ _ _ _ _ _=>False
noncomputable abbrev E0:XK:=fun _ _ _=>False
theorem zdS{X:Cx}:z3g CX0 X E0:=fun _ _ _ _ _ _ _ h=>h.elim
structure Fun(K:W.Frag)(x qual:Str)(st:Stmt)(f:Addr)(fd:FuncData):Prop where
 ex: ∃(oc:Value) (od:Option Addr) (kV doc pm:Value) (an:Option Addr) (cdv ct:Value) (osl:Array (Option Value)),
  fd=W.fnOf x qual (z1D st) (z0S st) (z03 st) .none kV doc pm an cdv ct/\K.lookup f=some ⟨oc,od, .func fd,osl⟩/\W.codeIn K cdv qual=true
 kp:W.keepIn K (.ref f)=true
section
variable{P:Program}{w:World}{K:W.Frag}{mg:Str->Option Value}{base:Heap}
theorem Fun.ok{x qual:Str}{st:Stmt}{f:Addr}{fd:FuncData}{N ps:List Str}{k:Nat}{sp:Sp}(F:Fun K x qual st f fd)(S:z0p N ps (z03 st))(len: ∀vs H Q E,sp vs H Q E->vs.length=ps.length)
 (hbody: ∀(cdv:Value) (A:Around) (outer:List Env) (s:Shared) (H:Hp) (vs:List V) (Q:VK) (E:XK),Room k (A.deeper (envOfC qual (z03 st) s.heap.objs.size f cdv))->sp vs H Q E->
  ∃t,PSs (cxOf CX0 P w K mg base N qual (z03 st) f cdv A outer s H E).nox (z0S st) t/\t {nx:=fun _ H'=>Q .non H',rt:=Q} (z49 N vs) H):FnOk P w K mg base CX0 (k+1) f fd ps sp:=by
 obtain⟨oc,od,kV,doc,pm,an,cdv,ct,osl,rfl,lk,hcd⟩:=F.ex
 refine zdK lk hcd S len fun A outer s H vs Q E hr hsp=> ?_
 obtain⟨t,h,q⟩:=hbody cdv A outer s H vs Q E hr hsp
 exact⟨t,h.nox,q⟩
theorem Fun.binds{x qual:Str}{st:Stmt}{f:Addr}{fd:FuncData}{ps:List Str}(F:Fun K x qual st f fd)
 (h: ∀(kV doc pm:Value) (an:Option Addr) (cdv ct:Value) (us:List Value),us.length=ps.length->bindArgs (W.fnOf x qual (z1D st) (z0S st) (z03 st) .none kV doc pm an cdv ct) ⟨us,[]⟩=pure (ps.zip us)):z38 K fd ps []:=by
 obtain⟨oc,od,kV,doc,pm,an,cdv,ct,osl,rfl,lk,hcd⟩:=F.ex
 exact .all (h kV doc pm an cdv ct)
theorem zbG{x qual:Str}{st:Stmt}{f:Addr}{oc:Value}{od an:Option Addr}{osl:Array (Option Value)}{kV doc pm cdv ct:Value}(l:K.lookup f=some ⟨oc,od, .func (W.fnOf x qual (z1D st) (z0S st) (z03 st) .none kV doc pm an cdv ct),osl⟩)
 (c:W.codeIn K cdv qual=true) (k:W.keepIn K (.ref f)=true):Fun K x qual st f (W.fnOf x qual (z1D st) (z0S st) (z03 st) .none kV doc pm an cdv ct):=⟨⟨oc,od,kV,doc,pm,an,cdv,ct,osl,rfl,l,c⟩,k⟩
end
section
variable{X:Cx}
theorem pv(i:Nat){x:Str}{pos:Pos}(hN:X.N[i]? =some x:=by rfl)(hv:Vis X.env.scope x:=by first|exact Or.inl rfl|exact Or.inr (Or.inl rfl)|exact Or.inr (Or.inr rfl))(hd:(x==("__debug__" :Str))=false:=by decide)
 (hcd:(x==("__classdict__" :Str))=false:=by decide):PE X (.Name x pos) (tVar i):=zbb hN hv hd hcd
end
noncomputable def Same(H H':Hp):Prop:= ∀b o,H b=some o->H' b=some o
theorem Same.refl(H:Hp):Same H H:=fun _ _ h=>h
end L2
namespace So
open PySem PySem.W PyProof.Rows
noncomputable abbrev En:=SortKind×Array Keyed
noncomputable def im(i:Nat)(e:En):Keyed:=kas_item e.2 (i %e.2.size)
noncomputable def ar(q:Array Nat)(e:En):Array Keyed:=q.map fun i=>im i e
noncomputable def sst(q:Array Nat)(p:Array (Nat×Nat×Nat))(g:Nat)(e:En):SortSt:=SortSt.mk' e.1 (ar q e) p g none
noncomputable def Cmp(prog:Program)(w:World)(A:Around)(cmp:Nat->Nat->Bool)(G:Shared->Prop)(e:En):Prop:=
 ∀i j C s,G s->(∀s',G s'->C (cmp i j) s')->kas_cmp prog w A e.1 e.2 (i %e.2.size) (j %e.2.size) C s
noncomputable def Det(cmp:Nat->Nat->Bool){α:Type}(m:En->StateT SortSt Sem α)(st:En->SortSt)(P:(En->α)->(En->SortSt)->Prop):Prop:=
 ∃v st',P v st'/\∀(prog:Program) (w:World) (A:Around) (E:Value->Shared->Prop) (e:En) (G:Shared->Prop) (Q:α->SortSt->Shared->Prop) (s:Shared),Cmp prog w A cmp G e->G s->(∀s',G s'->Q (v e) (st' e) s')->kasC (model prog w) A E (m e) Q (st e) s
variable{cmp:Nat->Nat->Bool}{α β:Type}{st:En->SortSt}
theorem z0F{a:En->α}{P:(En->α)->(En->SortSt)->Prop}(h:P a st):Det cmp (fun e=>pure (a e)) st P:=
 ⟨a,st,h,fun _ _ _ _ _ _ _ s _ hg hq=>kasC_pure (hq s hg)⟩
theorem z00{m:En->StateT SortSt Sem α}{f:En->α->StateT SortSt Sem β}{P:(En->β)->(En->SortSt)->Prop}(h:Det cmp m st fun v st'=>Det cmp (fun e=>f e (v e)) st' P):Det cmp (fun e=>m e>>=f e) st P:=by
 obtain⟨v,st1,⟨u,st2,hp,h2⟩,h1⟩:=h
 exact⟨u,st2,hp,fun prog w A E e G Q s hc hg hq=>kasC_bind (h1 prog w A E e G _ s hc hg fun s' hg'=>h2 prog w A E e G Q s' hc hg' hq)⟩
theorem z0B{m:En->StateT SortSt Sem α}{P P':(En->α)->(En->SortSt)->Prop}(h:Det cmp m st P)(hp: ∀v s,P v s->P' v s):Det cmp m st P':=by
 obtain⟨v,st',p,h⟩:=h
 exact⟨v,st',hp _ _ p,h⟩
theorem z2s{P:(En->SortSt)->(En->SortSt)->Prop}(h:P st st):Det cmp (fun _=>get) st P:=
 ⟨st,st,h,fun _ _ _ _ _ _ _ s _ hg hq=>kasC_get (hq s hg)⟩
theorem zdT{a:En->SortSt}{P:(En->PUnit)->(En->SortSt)->Prop}(h:P (fun _=>⟨⟩) a):Det cmp (fun e=>set (a e)) st P:=
 ⟨_,a,h,fun _ _ _ _ _ _ _ s _ hg hq=>by
  unfold kasC;rw[StateT.run_set];exact wpAny_pure (hq s hg)⟩
theorem z1c{f:En->SortSt->SortSt}{P:(En->PUnit)->(En->SortSt)->Prop}(h:P (fun _=>⟨⟩) (fun e=>f e (st e))):Det cmp (fun e=>modify (f e)) st P:=
 ⟨_,_,h,fun _ _ _ _ _ _ _ s _ hg hq=>kasC_modify (hq s hg)⟩
theorem z2t{x:String}{P:(En->Unit)->(En->SortSt)->Prop}(h:P (fun _=>()) st):Det cmp (fun _=>liftM (rule x)) st P:=
 ⟨_,st,h,fun _ _ _ _ _ _ _ s _ hg hq=>kasC_lift (wpAny_rule (hq s hg))⟩
theorem z0c{c:Prop}{i:En->Decidable c}{m m':En->StateT SortSt Sem α}{P:(En->α)->(En->SortSt)->Prop}(h1:c->Det cmp m st P)(h2: ¬c->Det cmp m' st P):Det cmp (fun e=> @ite _ c (i e) (m e) (m' e)) st P:=by
 by_cases h:c
 ·simp only[if_pos h];exact h1 h
 ·simp only[if_neg h];exact h2 h
theorem z0t{q:Array Nat}{i:Nat}{P:(En->Keyed)->(En->SortSt)->Prop}(hi:i<q.size)(h:P (im q[i]) st):Det cmp (fun e=>elem' (ar q e) i) st P:=
 ⟨_,st,h,fun _ _ _ _ e _ _ s _ hg hq=>by
  have e1:(ar q e)[i]? =some (im q[i] e):=by simp[ar,hi]
  simp only[elem'_eq,e1]
  exact kasC_pure (hq s hg)⟩
theorem d_lt{q:Array Nat}{p:Array (Nat×Nat×Nat)}{g i j:Nat}{P:(En->Option Bool)->(En->SortSt)->Prop}(h:P (fun _=>some (cmp i j)) (sst q p g)):Det cmp (fun e=>lt' (im i e) (im j e)) (sst q p g) P:=
 ⟨_,_,h,fun prog w A E e G Q s hc hg hq=>by
  simp only[lt'_eq]
  refine kasC_bind (kasC_get ?_)
  refine kasC_bind (kasC_lift (wpAny_attempt (wpAny_mono (hc i j (fun b s'=>b=cmp i j/\G s') s hg fun s' h=>⟨rfl,h⟩) (fun c s' hc'=> ?_) fun _ _ hF=>hF.elim)))
  obtain⟨rfl,hg'⟩:=hc'
  exact kasC_pure (hq s' hg')⟩
theorem z2d{q:Array Nat}{p:Array (Nat×Nat×Nat)}{g i j:Nat}{P:(En->Option Bool)->(En->SortSt)->Prop}(hi:i<q.size)(hj:j<q.size)(h:P (fun _=>some (cmp q[i] q[j])) (sst q p g)):Det cmp (fun _=>ltAt' i j) (sst q p g) P:=by
 simp only[ltAt'_eq]
 exact z00 (z2s (z00 (z0t hi (z00 (z0t hj (d_lt h))))))
theorem z5v(u v:Nat->Nat)(l:List Nat)(q:Array Nat)(e:En):l.foldl (fun a k=>a.swapIfInBounds (u k) (v k)) (ar q e)=ar (l.foldl (fun a k=>a.swapIfInBounds (u k) (v k)) q) e:=kas_swaps_map _ u v l q
theorem z3x{q:Array Nat}{p:Array (Nat×Nat×Nat)}{g i j:Nat}{P:(En->Unit)->(En->SortSt)->Prop}(h:P (fun _=>()) (sst (mirror q i j ((j -i)/2)) p g)):Det cmp (fun _=>reverseSlice' i j) (sst q p g) P:=by
 simp only[reverseSlice'_eq]
 refine z1c ?_
 have e:(fun e=>setArr (sst q p g e) (mirror (arrOf (sst q p g e)) i j ((j -i)/2)))=sst (mirror q i j ((j -i)/2)) p g:=by
  funext e
  show SortSt.mk' e.1 (mirror (ar q e) i j ((j -i)/2)) p g none=SortSt.mk' e.1 (ar (mirror q i j ((j -i)/2)) e) p g none
  rw[show mirror (ar q e) i j ((j -i)/2)=ar (mirror q i j ((j -i)/2)) e from z5v (fun k=>i+k) (fun k=>j - 1 -k) _ q e]
 rw[e];exact h
theorem zbH{q:Array Nat}{p:Array (Nat×Nat×Nat)}{g k l:Nat}{P:(En->Unit)->(En->SortSt)->Prop}(h:P (fun _=>()) (sst (bubble q k (k -l)) p g)):Det cmp (fun _=>moveDown' k l) (sst q p g) P:=by
 simp only[moveDown'_eq]
 refine z1c ?_
 have e:(fun e=>setArr (sst q p g e) (bubble (arrOf (sst q p g e)) k (k -l)))=sst (bubble q k (k -l)) p g:=by
  funext e
  show SortSt.mk' e.1 (bubble (ar q e) k (k -l)) p g none=SortSt.mk' e.1 (ar (bubble q k (k -l)) e) p g none
  rw[show bubble (ar q e) k (k -l)=ar (bubble q k (k -l)) e from z5v (fun i=>k -i) (fun i=>k -i - 1) _ q e]
 rw[e];exact h
theorem z94{f:En->Nat->β->StateT SortSt Sem (ForInStep β)}{I:Nat->(En->β)->(En->SortSt)->Prop}{Q:(En->β)->(En->SortSt)->Prop}(hb: ∀(x:Nat) (k:Nat) (b:En->β) (st:En->SortSt),I (k+1) b st->Det cmp (fun e=>f e x (b e)) st fun v st'=>(∃c,v=(fun e=> .done (c e))/\Q c st')\/∃c,v=(fun e=> .yield (c e))/\I k c st')(hf: ∀b st,I 0 b st->Q b st):
 ∀(l:List Nat) (b:En->β) (st:En->SortSt),I l.length b st->Det cmp (fun e=>forIn l (b e) (f e)) st Q
 |[],b,st,h=>⟨b,st,hf b st h,fun _ _ _ _ _ _ _ s _ hg hq=>kasC_nil (hq s hg)⟩
 |x::l,b,st,h=>by
  obtain⟨v,st1,hp,h1⟩:=hb x l.length b st h
  rcases hp with⟨c,rfl,hp⟩|⟨c,rfl,hp⟩
  ·exact⟨c,st1,hp,fun prog w A E e G Q s hc hg hq=>kasC_cons (h1 prog w A E e G _ s hc hg fun s' hg'=>hq s' hg')⟩
  ·obtain⟨c2,st2,hp2,h2⟩:=z94 hb hf l c st1 hp
   exact⟨c2,st2,hp2,fun prog w A E e G Q s hc hg hq=>kasC_cons (h1 prog w A E e G _ s hc hg fun s' hg'=>h2 prog w A E e G Q s' hc hg' hq)⟩
theorem z1d{lo hi:Nat}{f:En->Nat->β->StateT SortSt Sem (ForInStep β)}{b:En->β}(I:Nat->(En->β)->(En->SortSt)->Prop){Q:(En->β)->(En->SortSt)->Prop}(h0:I (hi -lo) b st)(hb: ∀(x:Nat) (k:Nat) (b:En->β) (st:En->SortSt),I (k+1) b st->Det cmp (fun e=>f e x (b e)) st fun v st'=>(∃c,v=(fun e=> .done (c e))/\Q c st')\/∃c,v=(fun e=> .yield (c e))/\I k c st')(hf: ∀b st,I 0 b st->Q b st):
 Det cmp (fun e=>forIn [lo:hi] (b e) (f e)) st Q:=by
 obtain⟨v,st',hp,h⟩:=z94 (cmp:=cmp) (f:=f) (I:=I) (Q:=Q) hb hf (List.range' lo (hi -lo)) b st (by rw[List.length_range'];exact h0)
 exact⟨v,st',hp,fun prog w A E e G Q s hc hg hq=>kasC_range (h prog w A E e G Q s hc hg hq)⟩
theorem z0b{c:En->β}{I:(En->β)->(En->SortSt)->Prop}{Q:(En->β)->(En->SortSt)->Prop}(h:Q c st):Det cmp (fun e=>pure (ForInStep.done (c e))) st fun v st'=>(∃c,v=(fun e=> .done (c e))/\Q c st')\/∃c,v=(fun e=> .yield (c e))/\I c st':=
 z0F (.inl ⟨c,rfl,h⟩)
theorem z0e{c:En->β}{I:(En->β)->(En->SortSt)->Prop}{Q:(En->β)->(En->SortSt)->Prop}(h:I c st):Det cmp (fun e=>pure (ForInStep.yield (c e))) st fun v st'=>(∃c,v=(fun e=> .done (c e))/\Q c st')\/∃c,v=(fun e=> .yield (c e))/\I c st':=
 z0F (.inr ⟨c,rfl,h⟩)
theorem z95{c:Prop}{i:En->Decidable c}{v:En->β}{I Q:(En->β)->(En->SortSt)->Prop}(h:I v st):Det cmp (fun e=> @ite _ c (i e) (pure (ForInStep.done (v e))) (pure (ForInStep.yield (v e)))) st fun u st'=>(∃c,u=(fun e=> .done (c e))/\(Q c st'\/I c st'))\/∃c,u=(fun e=> .yield (c e))/\I c st':=
 z0c (fun _=>z0b (.inr h)) fun _=>z0e h
theorem zbI{Q:Nat->Array Nat->Prop}(R:Nat->Array Nat->Prop){G:Prop}(h:(∀a o,R a o->Q a o)->G)(k: ∀a o,R a o->Q a o):G:=h k
theorem zbJ{Q:Nat->Prop}{G:Prop}(h:(∀mm,Q mm)->G)(k: ∀mm,Q mm):G:=h k
end So
namespace So
open PySem PySem.W PyProof.Rows
noncomputable def gal:Bool->Keyed->Array Keyed->Nat->Nat->Nat->StateT SortSt Sem (Option Nat):=sortPriv%PySem.Builtin.gallop
variable{cmp:Nat->Nat->Bool}{α β:Type}{q:Array Nat}{p:Array (Nat×Nat×Nat)}{g:Nat}
theorem z4h{left:Bool}{r:Array Nat}{i x:Nat}{P:(En->Option Bool)->(En->SortSt)->Prop}(hi:i<r.size)(h: ∀b,P (fun _=>some b) (sst q p g)):
 Det cmp (fun e=>elem' (ar r e) i>>=fun y=>if left=true then lt' y (im x e) else lt' (im x e) y>>=fun o=>pure (o.map fun b=> !b)) (sst q p g) P:=by
 refine z00 (z0t hi ?_)
 cases left with
 |true=>exact d_lt (h _)
 |false=>exact z00 (d_lt (z0F (h _)))
theorem z1u{left:Bool}{r:Array Nat}{x base n hint:Nat}{P:(En->Option Nat)->(En->SortSt)->Prop}(hn:base+n<=r.size)(hh:hint<n)(h: ∀k,k<=n->P (fun _=>some k) (sst q p g)):
 Det cmp (fun e=>gal left (im x e) (ar r e) base n hint) (sst q p g) P:=by
 refine z00 (z4h (left:=left) (r:=r) (i:=base+hint) (x:=x) (by lia) fun b=> ?_)
 cases b with
 |true=>
  refine z00 (z0B (P:=fun v st'=>st'=sst q p g/\∃lo hi:Nat,v=(fun _=>(none,lo,hi))) (z1d (I:=fun _ v st'=>st'=sst q p g/\∃lo hi:Nat,v=(fun _=>(none,lo,hi))) ⟨rfl,0,1,rfl⟩ ?_ fun _ _ h=>h) ?_)
  ·rintro _ k b st ⟨rfl,lo,hi,rfl⟩
   dsimp only
   refine z0c (fun _=>z0b ⟨rfl,lo,hi,rfl⟩) fun hlt=> ?_
   refine z00 (z4h (left:=left) (r:=r) (i:=base+(hint+hi)) (x:=x) (by lia) fun b=> ?_)
   cases b with
   |true=>exact z0e ⟨rfl,_,_,rfl⟩
   |false=>exact z0b ⟨rfl,lo,hi,rfl⟩
  ·rintro v st ⟨rfl,lo,hi,rfl⟩
   dsimp only
   refine z00 (z0B (P:=fun v st'=>st'=sst q p g/\∃lo hi:Nat,v=(fun _=>(none,lo,hi))/\hi<=n) (z1d (I:=fun _ v st'=>st'=sst q p g/\∃lo hi:Nat,v=(fun _=>(none,lo,hi))/\hi<=n) ⟨rfl,_,_,rfl,by lia⟩ ?_ fun _ _ h=>h) ?_)
   ·rintro _ k b st ⟨rfl,lo,hi,rfl,hl⟩
    dsimp only
    refine z0c (fun _=>z0b ⟨rfl,lo,hi,rfl,hl⟩) fun hlt=> ?_
    refine z00 (z4h (left:=left) (r:=r) (x:=x) (by lia) fun b=> ?_)
    cases b with
    |true=>exact z0e ⟨rfl,_,hi,rfl,hl⟩
    |false=>exact z0e ⟨rfl,lo,_,rfl,by lia⟩
   ·rintro v st ⟨rfl,lo,hi,rfl,hl⟩
    exact z0F (h hi hl)
 |false=>
  refine z00 (z0B (P:=fun v st'=>st'=sst q p g/\∃lo hi:Nat,v=(fun _=>(none,lo,hi))) (z1d (I:=fun _ v st'=>st'=sst q p g/\∃lo hi:Nat,v=(fun _=>(none,lo,hi))) ⟨rfl,0,1,rfl⟩ ?_ fun _ _ h=>h) ?_)
  ·rintro _ k b st ⟨rfl,lo,hi,rfl⟩
   dsimp only
   refine z0c (fun _=>z0b ⟨rfl,lo,hi,rfl⟩) fun hlt=> ?_
   refine z00 (z4h (left:=left) (r:=r) (i:=base+(hint -hi)) (x:=x) (by lia) fun b=> ?_)
   cases b with
   |true=>exact z0b ⟨rfl,lo,hi,rfl⟩
   |false=>exact z0e ⟨rfl,_,_,rfl⟩
  ·rintro v st ⟨rfl,lo,hi,rfl⟩
   dsimp only
   refine z00 (z0B (P:=fun v st'=>st'=sst q p g/\∃lo hi:Nat,v=(fun _=>(none,lo,hi))/\hi<=n) (z1d (I:=fun _ v st'=>st'=sst q p g/\∃lo hi:Nat,v=(fun _=>(none,lo,hi))/\hi<=n) ⟨rfl,_,_,rfl,by lia⟩ ?_ fun _ _ h=>h) ?_)
   ·rintro _ k b st ⟨rfl,lo,hi,rfl,hl⟩
    dsimp only
    refine z0c (fun _=>z0b ⟨rfl,lo,hi,rfl,hl⟩) fun hlt=> ?_
    refine z00 (z4h (left:=left) (r:=r) (x:=x) (by lia) fun b=> ?_)
    cases b with
    |true=>exact z0e ⟨rfl,_,hi,rfl,hl⟩
    |false=>exact z0e ⟨rfl,lo,_,rfl,by lia⟩
   ·rintro v st ⟨rfl,lo,hi,rfl,hl⟩
    exact z0F (h hi hl)
end So
set_option linter.unusedSimpArgs false
namespace So
open PySem PySem.W PyProof.Rows
noncomputable def mlo:Array Keyed->Array Keyed->StateT SortSt Sem (Array Keyed):=sortPriv%PySem.Builtin.mergeLo
theorem z1V{q:Array Nat}{e:En}:(ar q e).size=q.size:=by simp[ar]
theorem z1m{q:Array Nat}{i:Nat}{e:En}:(ar q e).push (im i e)=ar (q.push i) e:=by simp[ar]
theorem z0Z{q r:Array Nat}{e:En}:ar q e++ar r e=ar (q++r) e:=by simp[ar]
theorem z0P{q:Array Nat}{i j:Nat}{e:En}:(ar q e).extract i j=ar (q.extract i j) e:=by simp[ar]
theorem z2u{q:Array Nat}{e:En}:(ar q e).reverse=ar q.reverse e:=by simp[ar]
theorem z96{i:Nat}{e:En}: #[im i e]=ar #[i] e:=by simp[ar]
noncomputable def Al(T:Nat->Prop)(q:Array Nat):Prop:= ∀i∈q,T i
section
variable{T:Nat->Prop}{q r:Array Nat}
theorem z0h{i:Nat}(h:Al T q)(hi:T i):Al T (q.push i):=fun j hj=>by
 rcases Array.mem_push.mp hj with hj|rfl
 ·exact h j hj
 ·exact hi
theorem z0o(h:Al T q)(h':Al T r):Al T (q++r):=fun j hj=>by
 rcases Array.mem_append.mp hj with hj|hj
 ·exact h j hj
 ·exact h' j hj
theorem z0i{i j:Nat}(h:Al T q):Al T (q.extract i j):=fun k hk=>h k (by
 obtain⟨n,hn,rfl⟩:=Array.mem_iff_getElem.mp hk
 rw[Array.getElem_extract]
 exact Array.getElem_mem _)
theorem z1n(h:Al T q):Al T q.reverse:=fun k hk=>h k (Array.mem_reverse.mp hk)
theorem z08{i:Nat}(h:Al T q)(hi:i<q.size):T q[i]:=h _ (Array.getElem_mem hi)
theorem z3i{i:Nat}(h:T i):Al T #[i]:=fun j hj=>by
 rw[Array.mem_singleton.mp hj];exact h
end
variable{cmp:Nat->Nat->Bool}{α β:Type}{q:Array Nat}{p:Array (Nat×Nat×Nat)}{g:Nat}
theorem z5w{g':Nat}{P:(En->Unit)->(En->SortSt)->Prop}(h:P (fun _=>()) (sst q p g')):Det cmp (fun _=>(sortPriv%PySem.Builtin.setMinGallop) g') (sst q p g) P:=z1c h
noncomputable def Rt(T:Nat->Prop)(q:Array Nat)(p:Array (Nat×Nat×Nat)){β:Type}(v:En->Option (Array Keyed)×β)(st:En->SortSt):Prop:= ∃(mq:Array Nat) (b:En->β) (g:Nat),v=(fun e=>(some (ar mq e),b e))/\Al T mq/\st=sst q p g
theorem zdU{T:Nat->Prop}{qa qb:Array Nat}{P:(En->Array Keyed)->(En->SortSt)->Prop}(ha:Al T qa)(hb:Al T qb)(a1:1<=qa.size)(b1:1<=qb.size)(h: ∀mq g',Al T mq->P (ar mq) (sst q p g')):
 Det cmp (fun e=>mlo (ar qa e) (ar qb e)) (sst q p g) P:=by
 refine z00 (z2t ?_)
 refine z00 (z0t (by lia) ?_)
 simp only[z1V,z96,z0Z,z0P]
 refine z0c (fun _=>z0F (h _ _ ?_)) fun c1=>z0c (fun _=>z0F (h _ _ ?_)) fun c2=> ?_
 ·exact z0o (z0o (z3i (z08 hb _)) (z0i ha)) (z0i hb)
 ·exact z0o (z0o (z3i (z08 hb _)) (z0i hb)) (z0i ha)
 simp only[beq_iff_eq] at c1 c2
 refine z00 (z2s ?_)
 try dsimp only
 refine z00 (z0B (P:=fun v st'=>Rt T q p v st') (z1d (I:=fun k v st'=> ∃(out:Array Nat) (ia ib mg g':Nat),v=(fun e=>(none,ar out e,ia,ib,mg))/\st'=sst q p g'/\Al T out/\ia+1<qa.size/\ib<qb.size/\qa.size+qb.size+1<=ia+ib+k) ⟨_,0,1,g,g,rfl,rfl,z3i (z08 hb (by lia)),by lia,by lia,by lia⟩ ?_ ?_) ?_)
 ·rintro _ k b st ⟨out,ia,ib,mg,g',rfl,rfl,ho,hia,hib,hk⟩
  try dsimp only
  refine z00 (z0B (P:=fun v st'=>Rt T q p v st'\/∃(out:Array Nat) (ja jb ac bc:Nat),v=(fun e=>(none,ar out e,ja,jb,ac,bc))/\st'=sst q p g'/\Al T out/\ja+1<qa.size/\jb<qb.size/\ia+ib+1<=ja+jb)
   (z1d (I:=fun k v st'=> ∃(out:Array Nat) (ja jb ac bc:Nat),v=(fun e=>(none,ar out e,ja,jb,ac,bc))/\st'=sst q p g'/\Al T out/\ja+1<qa.size/\jb<qb.size/\ia+ib+(qa.size+qb.size)<=ja+jb+k/\k<=qa.size+qb.size) ⟨out,ia,ib,0,0,rfl,rfl,ho,hia,hib,by lia,by lia⟩ ?_ ?_) ?_)
  ·rintro _ k b st ⟨out,ja,jb,ac,bc,rfl,rfl,ho,hja,hjb,hp,hk2⟩
   try dsimp only
   refine z00 (z0t hjb (z00 (z0t (by lia) (z00 (d_lt ?_)))))
   try dsimp only
   cases cmp qb[jb] qa[ja] with
   |true=>
    refine z00 (z0t hjb ?_)
    try dsimp only
    simp only[z1m,z0Z,z0P]
    refine z0c (fun _=>z0b (.inl ⟨_,_,_,rfl,z0o (z0o (z0h ho (z08 hb _)) (z0i ha)) (z0i hb),rfl⟩)) fun c=> ?_
    simp only[beq_iff_eq] at c
    refine z0c (fun _=>z0b (.inr ⟨_,_,_,_,_,rfl,rfl,z0h ho (z08 hb _),hja,by lia,by lia⟩)) fun _=>z0e ⟨_,_,_,_,_,rfl,rfl,z0h ho (z08 hb _),hja,by lia,by lia,by lia⟩
   |false=>
    refine z00 (z0t (by lia) ?_)
    try dsimp only
    simp only[z1m,z0Z,z0P]
    refine z0c (fun _=>z0b (.inl ⟨_,_,_,rfl,z0o (z0o (z0h ho (z08 ha _)) (z0i hb)) (z0i ha),rfl⟩)) fun c=> ?_
    simp only[beq_iff_eq] at c
    refine z0c (fun _=>z0b (.inr ⟨_,_,_,_,_,rfl,rfl,z0h ho (z08 ha _),by lia,hjb,by lia⟩)) fun _=>z0e ⟨_,_,_,_,_,rfl,rfl,z0h ho (z08 ha _),by lia,hjb,by lia,by lia⟩
  ·rintro b st ⟨out,ja,jb,ac,bc,rfl,rfl,ho,hja,hjb,hp,hk2⟩
   exact .inr ⟨_,_,_,_,_,rfl,rfl,ho,hja,hjb,by lia⟩
  ·rintro v st (⟨mq,b,g2,rfl,hm,rfl⟩|⟨out,ja,jb,ac,bc,rfl,rfl,ho,hja,hjb,hp⟩)
   ·exact z0b ⟨_,_,_,rfl,hm,rfl⟩
   try dsimp only
   refine z00 (z2t ?_)
   refine z00 (z0B (P:=fun v st'=>Rt T q p v st'\/∃(out:Array Nat) (ka kb mg ac bc g':Nat),v=(fun e=>(none,ar out e,ka,kb,mg,ac,bc))/\st'=sst q p g'/\Al T out/\ka+1<qa.size/\kb<qb.size/\ja+jb<=ka+kb)
    (z1d (I:=fun k v st'=> ∃(out:Array Nat) (ka kb mg ac bc g':Nat),v=(fun e=>(none,ar out e,ka,kb,mg,ac,bc))/\st'=sst q p g'/\Al T out/\ka+1<qa.size/\kb<qb.size/\ja+jb<=ka+kb) ⟨out,ja,jb,_,ac,bc,_,rfl,rfl,ho,hja,hjb,by lia⟩ ?_ fun b st h=> .inr h) ?_)
   ·rintro _ k b st ⟨out,ka,kb,mg,ac,bc,g2,rfl,rfl,ho,hka,hkb,hp2⟩
    try dsimp only
    try simp only[z1V]
    apply zbJ
    ·intro key
     refine z0c (c:=mg>1) (fun _=> ?_) (fun _=> ?_)
     rotate_left
     ·generalize mg=z
      exact key z
     ·exact key _
    ·intro mm
     try dsimp only
     refine z00 (z5w (z00 (z0t hkb (z00 (z1u (by lia) (by lia) fun k hk=> ?_)))))
     try dsimp only
     try simp only[z0Z,z0P]
     refine z0c (fun k0=>z0c (fun _=>z0b (.inl ⟨_,_,_,rfl, ?_,rfl⟩)) fun c1=>z0c (fun _=>z0b (.inl ⟨_,_,_,rfl, ?_,rfl⟩)) fun c2=> ?_) (fun k0=> ?_)
     ·(repeat' first|with_reducible assumption|with_reducible exact z08 ha _|with_reducible exact z08 hb _|with_reducible apply z0h|with_reducible apply z0o|with_reducible apply z0i)
     ·(repeat' first|with_reducible assumption|with_reducible exact z08 ha _|with_reducible exact z08 hb _|with_reducible apply z0h|with_reducible apply z0o|with_reducible apply z0i)
     all_goals
      try simp only[beq_iff_eq] at c1 c2
      refine z00 (z0t hkb ?_)
      try dsimp only
      try simp only[z1m,z0Z,z0P]
      refine z0c (fun _=>z0b (.inl ⟨_,_,_,rfl, ?_,rfl⟩)) fun c3=> ?_
      ·(repeat' first|with_reducible assumption|with_reducible exact z08 ha _|with_reducible exact z08 hb _|with_reducible apply z0h|with_reducible apply z0o|with_reducible apply z0i)
      simp only[beq_iff_eq] at c3
      refine z00 (z0t (by lia) (z00 (z1u (by lia) (by lia) fun k' hk'=> ?_)))
      try dsimp only
      try simp only[z0Z,z0P]
      refine z0c (fun k1=>z0c (fun _=>z0b (.inl ⟨_,_,_,rfl, ?_,rfl⟩)) fun c4=> ?_) (fun k1=> ?_)
      ·(repeat' first|with_reducible assumption|with_reducible exact z08 ha _|with_reducible exact z08 hb _|with_reducible apply z0h|with_reducible apply z0o|with_reducible apply z0i)
      all_goals
       try simp only[beq_iff_eq] at c4
       refine z00 (z0t (by lia) ?_)
       try dsimp only
       try simp only[z1m,z0Z,z0P]
       refine z0c (fun _=>z0b (.inl ⟨_,_,_,rfl, ?_,rfl⟩)) fun c5=> ?_
       ·(repeat' first|with_reducible assumption|with_reducible exact z08 ha _|with_reducible exact z08 hb _|with_reducible apply z0h|with_reducible apply z0o|with_reducible apply z0i)
       simp only[beq_iff_eq] at c5
       refine z95 ⟨_,_,_,_,_,_,_,rfl,rfl, ?_,by lia,by lia,by lia⟩
       (repeat' first|with_reducible assumption|with_reducible exact z08 ha _|with_reducible exact z08 hb _|with_reducible apply z0h|with_reducible apply z0o|with_reducible apply z0i)
   ·rintro v st (⟨mq,b,g2,rfl,hm,rfl⟩|⟨out,ka,kb,mg,ac,bc,g2,rfl,rfl,ho,hka,hkb,hp2⟩)
    ·exact z0b ⟨_,_,_,rfl,hm,rfl⟩
    ·try dsimp only
     exact z00 (z5w (z0e ⟨_,_,_,_,_,rfl,rfl,ho,hka,hkb,by lia⟩))
 ·rintro b st ⟨out,ia,ib,mg,g',rfl,rfl,ho,hia,hib,hk⟩
  lia
 ·rintro v st ⟨mq,b,g',rfl,hm,rfl⟩
  exact z0F (h _ _ hm)
end So
namespace So
open PySem PySem.W PyProof.Rows
noncomputable def mhi:Array Keyed->Array Keyed->StateT SortSt Sem (Array Keyed):=sortPriv%PySem.Builtin.mergeHi
variable{cmp:Nat->Nat->Bool}{α β:Type}{q:Array Nat}{p:Array (Nat×Nat×Nat)}{g:Nat}
theorem zdV{T:Nat->Prop}{qa qb:Array Nat}{P:(En->Array Keyed)->(En->SortSt)->Prop}(ha:Al T qa)(hb:Al T qb)(a1:1<=qa.size)(b1:1<=qb.size)(h: ∀mq g',Al T mq->P (ar mq) (sst q p g')):
 Det cmp (fun e=>mhi (ar qa e) (ar qb e)) (sst q p g) P:=by
 refine z00 (z2t ?_)
 try dsimp only
 try simp only[z1V]
 refine z00 (z0t (by lia) ?_)
 simp only[z1V,z96,z0Z,z0P,z2u]
 refine z0c (fun _=>z0F (h _ _ ?_)) fun c1=>z0c (fun _=>z0F (h _ _ ?_)) fun c2=> ?_
 ·exact z0o (z0o (z0i ha) (z0i hb)) (z1n (z3i (z08 ha _)))
 ·exact z0o (z0o (z0i hb) (z0i ha)) (z1n (z3i (z08 ha _)))
 simp only[beq_iff_eq] at c1 c2
 refine z00 (z2s ?_)
 try dsimp only
 refine z00 (z0B (P:=fun v st'=>Rt T q p v st') (z1d (I:=fun k v st'=> ∃(na nb:Nat) (out:Array Nat) (mg g':Nat),v=(fun e=>(none,na,nb,ar out e,mg))/\st'=sst q p g'/\Al T out/\1<=na/\na<=qa.size/\2<=nb/\nb<=qb.size/\na+nb+1<=k) ⟨qa.size - 1,qb.size,_,g,g,rfl,rfl,z3i (z08 ha (by lia)),by lia,by lia,by lia,by lia,by lia⟩ ?_ ?_) ?_)
 ·rintro _ k b st ⟨na,nb,out,mg,g',rfl,rfl,ho,na1,na2,nb1,nb2,hk⟩
  try dsimp only
  refine z00 (z0B (P:=fun v st'=>Rt T q p v st'\/∃(ja jb:Nat) (out:Array Nat) (ac bc:Nat),v=(fun e=>(none,ja,jb,ar out e,ac,bc))/\st'=sst q p g'/\Al T out/\1<=ja/\ja<=qa.size/\2<=jb/\jb<=qb.size/\ja+jb+1<=na+nb)
   (z1d (I:=fun k v st'=> ∃(ja jb:Nat) (out:Array Nat) (ac bc:Nat),v=(fun e=>(none,ja,jb,ar out e,ac,bc))/\st'=sst q p g'/\Al T out/\1<=ja/\ja<=qa.size/\2<=jb/\jb<=qb.size/\ja+jb+(qa.size+qb.size)<=na+nb+k/\k<=qa.size+qb.size) ⟨na,nb,out,0,0,rfl,rfl,ho,na1,na2,nb1,nb2,by lia,by lia⟩ ?_ ?_) ?_)
  ·rintro _ k b st ⟨ja,jb,out,ac,bc,rfl,rfl,ho,ja1,ja2,jb1,jb2,hp,hk2⟩
   try dsimp only
   refine z00 (z0t (by lia) (z00 (z0t (by lia) (z00 (d_lt ?_)))))
   try dsimp only
   cases cmp qb[jb - 1] qa[ja - 1] with
   |true=>
    refine z00 (z0t (by lia) ?_)
    try dsimp only
    try simp only[z1m,z0Z,z0P,z2u]
    refine z0c (fun _=>z0b (.inl ⟨_,_,_,rfl,z0o (z0o (z0i ha) (z0i hb)) (z1n (z0h ho (z08 ha _))),rfl⟩)) fun c=> ?_
    simp only[beq_iff_eq] at c
    refine z0c (fun _=>z0b (.inr ⟨_,_,_,_,_,rfl,rfl,z0h ho (z08 ha _),by lia,by lia,by lia,by lia,by lia⟩)) fun _=>z0e ⟨_,_,_,_,_,rfl,rfl,z0h ho (z08 ha _),by lia,by lia,by lia,by lia,by lia,by lia⟩
   |false=>
    refine z00 (z0t (by lia) ?_)
    try dsimp only
    try simp only[z1m,z0Z,z0P,z2u]
    refine z0c (fun _=>z0b (.inl ⟨_,_,_,rfl,z0o (z0o (z0i hb) (z0i ha)) (z1n (z0h ho (z08 hb _))),rfl⟩)) fun c=> ?_
    simp only[beq_iff_eq] at c
    refine z0c (fun _=>z0b (.inr ⟨_,_,_,_,_,rfl,rfl,z0h ho (z08 hb _),by lia,by lia,by lia,by lia,by lia⟩)) fun _=>z0e ⟨_,_,_,_,_,rfl,rfl,z0h ho (z08 hb _),by lia,by lia,by lia,by lia,by lia,by lia⟩
  ·rintro b st ⟨ja,jb,out,ac,bc,rfl,rfl,ho,ja1,ja2,jb1,jb2,hp,hk2⟩
   exact .inr ⟨_,_,_,_,_,rfl,rfl,ho,ja1,ja2,jb1,jb2,by lia⟩
  ·rintro v st (⟨mq,b,g2,rfl,hm,rfl⟩|⟨ja,jb,out,ac,bc,rfl,rfl,ho,ja1,ja2,jb1,jb2,hp⟩)
   ·exact z0b ⟨_,_,_,rfl,hm,rfl⟩
   try dsimp only
   refine z00 (z2t ?_)
   refine z00 (z0B (P:=fun v st'=>Rt T q p v st'\/∃(ka kb:Nat) (out:Array Nat) (mg ac bc g':Nat),v=(fun e=>(none,ka,kb,ar out e,mg,ac,bc))/\st'=sst q p g'/\Al T out/\1<=ka/\ka<=qa.size/\2<=kb/\kb<=qb.size/\ka+kb<=ja+jb)
    (z1d (I:=fun k v st'=> ∃(ka kb:Nat) (out:Array Nat) (mg ac bc g':Nat),v=(fun e=>(none,ka,kb,ar out e,mg,ac,bc))/\st'=sst q p g'/\Al T out/\1<=ka/\ka<=qa.size/\2<=kb/\kb<=qb.size/\ka+kb<=ja+jb) ⟨ja,jb,out,_,ac,bc,_,rfl,rfl,ho,ja1,ja2,jb1,jb2,by lia⟩ ?_ fun b st h=> .inr h) ?_)
   ·rintro _ k b st ⟨ka,kb,out,mg,ac,bc,g2,rfl,rfl,ho,ka1,ka2,kb1,kb2,hp2⟩
    try dsimp only
    try simp only[z1V]
    apply zbJ
    ·intro key
     refine z0c (c:=mg>1) (fun _=> ?_) (fun _=> ?_)
     rotate_left
     ·generalize mg=z
      exact key z
     ·exact key _
    ·intro mm
     try dsimp only
     refine z00 (z5w (z00 (z0t (by lia) (z00 (z1u (by lia) (by lia) fun k hk=> ?_)))))
     try dsimp only
     try simp only[z0Z,z0P,z2u]
     obtain⟨W,hW⟩: ∃W,ka -k=W:=⟨_,rfl⟩
     simp only[hW]
     obtain⟨KA,hKA⟩: ∃KA,KA=ka:=⟨_,rfl⟩
     apply zbI (fun a o=>Al T o/\1<=a/\a<=KA)
     ·intro key
      refine z0c (fun k0=>z0c (fun _=>z0b (.inl ⟨_,_,_,rfl, ?_,rfl⟩)) fun c1=> ?_) (fun k0=> ?_)
      ·(repeat' first|with_reducible assumption|with_reducible exact z08 ha _|with_reducible exact z08 hb _|with_reducible apply z0h|with_reducible apply z0o|with_reducible apply z0i|with_reducible apply z1n)
      rotate_left
      ·have r:Al T out/\1<=ka/\ka<=KA:=⟨ho,ka1,by lia⟩
       revert r
       generalize out=z2
       generalize ka=z1
       intro r
       exact key z1 z2 r
      ·simp only[beq_iff_eq] at c1
       refine key _ _ ⟨?_,by lia,by lia⟩
       (repeat' first|with_reducible assumption|with_reducible exact z08 ha _|with_reducible exact z08 hb _|with_reducible apply z0h|with_reducible apply z0o|with_reducible apply z0i|with_reducible apply z1n)
     ·intro ka0 out0 r0
      obtain⟨ho0,ka01,ka02⟩:=r0
      try dsimp only
      refine z00 (z0t (by lia) ?_)
      try dsimp only
      try simp only[z1m,z0Z,z0P,z2u]
      refine z0c (fun _=>z0b (.inl ⟨_,_,_,rfl, ?_,rfl⟩)) fun c3=> ?_
      ·(repeat' first|with_reducible assumption|with_reducible exact z08 ha _|with_reducible exact z08 hb _|with_reducible apply z0h|with_reducible apply z0o|with_reducible apply z0i|with_reducible apply z1n)
      simp only[beq_iff_eq] at c3
      refine z00 (z0t (by lia) (z00 (z1u (by lia) (by lia) fun k' hk'=> ?_)))
      try dsimp only
      try simp only[z0Z,z0P,z2u]
      refine z0c (fun k1=>z0c (fun _=>z0b (.inl ⟨_,_,_,rfl, ?_,rfl⟩)) fun c4=>z0c (fun _=>z0b (.inl ⟨_,_,_,rfl, ?_,rfl⟩)) fun c6=> ?_) (fun k1=> ?_)
      ·(repeat' first|with_reducible assumption|with_reducible exact z08 ha _|with_reducible exact z08 hb _|with_reducible apply z0h|with_reducible apply z0o|with_reducible apply z0i|with_reducible apply z1n)
      ·(repeat' first|with_reducible assumption|with_reducible exact z08 ha _|with_reducible exact z08 hb _|with_reducible apply z0h|with_reducible apply z0o|with_reducible apply z0i|with_reducible apply z1n)
      all_goals
       try simp only[beq_iff_eq] at c4 c6
       refine z00 (z0t (by lia) ?_)
       try dsimp only
       try simp only[z1m,z0Z,z0P,z2u]
       refine z0c (fun _=>z0b (.inl ⟨_,_,_,rfl, ?_,rfl⟩)) fun c5=> ?_
       ·(repeat' first|with_reducible assumption|with_reducible exact z08 ha _|with_reducible exact z08 hb _|with_reducible apply z0h|with_reducible apply z0o|with_reducible apply z0i|with_reducible apply z1n)
       simp only[beq_iff_eq] at c5
       simp only[Bool.and_eq_true,decide_eq_true_eq]
       refine z95 ⟨_,_,_,_,_,_,_,rfl,rfl, ?_,by lia,by lia,by lia,by lia,by lia⟩
       (repeat' first|with_reducible assumption|with_reducible exact z08 ha _|with_reducible exact z08 hb _|with_reducible apply z0h|with_reducible apply z0o|with_reducible apply z0i|with_reducible apply z1n)
   ·rintro v st (⟨mq,b,g2,rfl,hm,rfl⟩|⟨ka,kb,out,mg,ac,bc,g2,rfl,rfl,ho,ka1,ka2,kb1,kb2,hp2⟩)
    ·exact z0b ⟨_,_,_,rfl,hm,rfl⟩
    ·try dsimp only
     exact z00 (z5w (z0e ⟨_,_,_,_,_,rfl,rfl,ho,ka1,ka2,kb1,kb2,by lia⟩))
 ·rintro b st ⟨na,nb,out,mg,g',rfl,rfl,ho,na1,na2,nb1,nb2,hk⟩
  lia
 ·rintro v st ⟨mq,b,g',rfl,hm,rfl⟩
  exact z0F (h _ _ hm)
end So
namespace So
open PySem PySem.W PyProof.Rows
variable{cmp:Nat->Nat->Bool}{α β:Type}{q:Array Nat}{p:Array (Nat×Nat×Nat)}{g:Nat}{T:Nat->Prop}{st:En->SortSt}
theorem z9X{i j:Nat}(h:Al T q):Al T (q.swapIfInBounds i j):=by
 rw[Array.swapIfInBounds_def]
 split
 ·split
  ·exact fun k hk=>h k ((Array.Perm.mem_iff (Array.swap_perm _ _)).mp hk)
  ·exact h
 ·exact h
theorem z3y(u v:Nat->Nat): ∀(l:List Nat) (q:Array Nat),Al T q->Al T (l.foldl (fun a k=>a.swapIfInBounds (u k) (v k)) q)
 |[],_,h=>h
 |k::l,q,h=>z3y u v l _ (z9X h)
theorem z3z(u v:Nat->Nat): ∀(l:List Nat) (q:Array Nat),(l.foldl (fun a k=>a.swapIfInBounds (u k) (v k)) q).size=q.size
 |[],_=>rfl
 |k::l,q=>by
  show(l.foldl _ (q.swapIfInBounds (u k) (v k))).size=_
  rw[z3z u v l,Array.size_swapIfInBounds]
theorem z1M{i j k:Nat}(h:Al T q):Al T (mirror q i j k):=z3y (fun k=>i+k) (fun k=>j - 1 -k) _ q h
theorem z0T{i j k:Nat}:(mirror q i j k).size=q.size:=z3z (fun k=>i+k) (fun k=>j - 1 -k) _ q
theorem zbK{i k:Nat}(h:Al T q):Al T (bubble q i k):=z3y (fun k=>i -k) (fun k=>i -k - 1) _ q h
theorem zbL{i k:Nat}:(bubble q i k).size=q.size:=z3z (fun k=>i -k) (fun k=>i -k - 1) _ q
theorem z97{f:En->Nat->β->StateT SortSt Sem (ForInStep β)}{I:Nat->(En->β)->(En->SortSt)->Prop}{Q:(En->β)->(En->SortSt)->Prop}{hi:Nat}(hb: ∀(x:Nat) (b:En->β) (st:En->SortSt),x<hi->I x b st->Det cmp (fun e=>f e x (b e)) st fun v st'=>(∃c,v=(fun e=> .done (c e))/\Q c st')\/∃c,v=(fun e=> .yield (c e))/\I (x+1) c st')(hf: ∀x b st,I x b st->Q b st):
 ∀(n lo:Nat) (b:En->β) (st:En->SortSt),lo+n<=hi->I lo b st->Det cmp (fun e=>forIn (List.range' lo n) (b e) (f e)) st Q
 |0,lo,b,st,_,h=>⟨b,st,hf lo b st h,fun _ _ _ _ _ _ _ s _ hg hq=>kasC_nil (hq s hg)⟩
 |n+1,lo,b,st,hl,h=>by
  obtain⟨v,st1,hp,h1⟩:=hb lo b st (by lia) h
  rcases hp with⟨c,rfl,hp⟩|⟨c,rfl,hp⟩
  ·exact⟨c,st1,hp,fun prog w A E e G Q s hc hg hq=>kasC_cons (h1 prog w A E e G _ s hc hg fun s' hg'=>hq s' hg')⟩
  ·obtain⟨c2,st2,hp2,h2⟩:=z97 hb hf n (lo+1) c st1 (by lia) hp
   exact⟨c2,st2,hp2,fun prog w A E e G Q s hc hg hq=>kasC_cons (h1 prog w A E e G _ s hc hg fun s' hg'=>h2 prog w A E e G Q s' hc hg' hq)⟩
theorem zbM{lo hi:Nat}{f:En->Nat->β->StateT SortSt Sem (ForInStep β)}{b:En->β}(I:Nat->(En->β)->(En->SortSt)->Prop){Q:(En->β)->(En->SortSt)->Prop}(h0:I lo b st)(hb: ∀(x:Nat) (b:En->β) (st:En->SortSt),x<hi->I x b st->Det cmp (fun e=>f e x (b e)) st fun v st'=>(∃c,v=(fun e=> .done (c e))/\Q c st')\/∃c,v=(fun e=> .yield (c e))/\I (x+1) c st')(hf: ∀x b st,I x b st->Q b st):
 Det cmp (fun e=>forIn [lo:hi] (b e) (f e)) st Q:=by
 by_cases hl:lo<=hi
 ·obtain⟨v,st',hp,h⟩:=z97 (cmp:=cmp) (f:=f) (I:=I) (Q:=Q) hb hf (hi -lo) lo b st (by lia) h0
  exact⟨v,st',hp,fun prog w A E e G Q s hc hg hq=>kasC_range (h prog w A E e G Q s hc hg hq)⟩
 ·refine⟨b,st,hf lo b st h0,fun prog w A E e G Q s hc hg hq=>kasC_range ?_⟩
  rw[show hi -lo=0 by lia]
  exact kasC_nil (hq s hg)
theorem z5x{lo nrem n m:Nat}{P:(En->Option Nat)->(En->SortSt)->Prop}{f:Nat->Option (Option Nat)×Nat->StateT SortSt Sem (ForInStep (Option (Option Nat)×Nat))}{k:Option (Option Nat)×Nat->StateT SortSt Sem (Option Nat)}(hf: ∀x m,f x (none,m)=ltAt' (lo+m) (lo+m - 1)>>=fun o=>match o with|some b=>if b=true then pure (.done (none,m)) else pure (.yield (none,m+1))|_=>pure (.done (some none,m)))(hk: ∀m,k (none,m)=pure (some m))(hs:q.size=n)(hl:lo+nrem<=n)(m1:1<=m)(m2:m<=nrem)(h: ∀k,1<=k->k<=nrem->P (fun _=>some k) (sst q p g)):
 Det cmp (fun _=>forIn [m:nrem] ((none,m):Option (Option Nat)×Nat) f>>=k) (sst q p g) P:=by
 refine z00 (z0B (P:=fun v st'=> ∃m:Nat,v=(fun _=>(none,m))/\st'=sst q p g/\1<=m/\m<=nrem) (z1d (I:=fun k v st'=> ∃m:Nat,v=(fun _=>(none,m))/\st'=sst q p g/\1<=m/\m+k=nrem) ⟨m,rfl,rfl,m1,by lia⟩ ?_ ?_) ?_)
 ·rintro _ k b st ⟨m,rfl,rfl,m1,hm⟩
  simp only[hf]
  refine z00 (z2d (by lia) (by lia) ?_)
  try dsimp only
  exact z0c (fun _=>z0b ⟨m,rfl,rfl,m1,by lia⟩) fun _=>z0e ⟨m+1,rfl,rfl,by lia,by lia⟩
 ·rintro b st ⟨m,rfl,rfl,m1,hm⟩
  exact⟨m,rfl,rfl,m1,by lia⟩
 ·rintro v st ⟨m,rfl,rfl,m1,m2⟩
  simp only[hk]
  exact z0F (h m m1 m2)
theorem zdW{lo nrem n:Nat}{P:(En->Option Nat)->(En->SortSt)->Prop}(ha:Al T q)(hs:q.size=n)(hl:lo+nrem<=n)(h1:1<=nrem)(h: ∀k q',1<=k->k<=nrem->Al T q'->q'.size=n->P (fun _=>some k) (sst q' p g)):
 Det cmp (fun _=>countRun' lo nrem) (sst q p g) P:=by
 refine z00 (z0B (P:=fun v st'=> ∃m:Nat,v=(fun _=>(none,m))/\st'=sst q p g/\1<=m/\m<=nrem) (z1d (I:=fun k v st'=> ∃m:Nat,v=(fun _=>(none,m))/\st'=sst q p g/\1<=m/\m+k=nrem) ⟨1,rfl,rfl,Nat.le_refl _,by lia⟩ ?_ ?_) ?_)
 ·rintro _ k b st ⟨m,rfl,rfl,m1,hm⟩
  refine z00 (z2d (by lia) (by lia) ?_)
  try dsimp only
  exact z0c (fun _=>z0b ⟨m,rfl,rfl,m1,by lia⟩) fun _=>z0e ⟨m+1,rfl,rfl,by lia,by lia⟩
 ·rintro b st ⟨m,rfl,rfl,m1,hm⟩
  exact⟨m,rfl,rfl,m1,by lia⟩
 rintro v st ⟨m,rfl,rfl,m1,m2⟩
 try dsimp only
 refine z0c (fun _=>z0F (h m q m1 m2 ha hs)) fun c1=> ?_
 simp only[beq_iff_eq] at c1
 have m3:m<nrem:=by lia
 clear c1 m2
 refine z0c (fun c2=> ?_) fun c2=> ?_
 ·refine z00 (z2d (by lia) (by lia) ?_)
  try dsimp only
  refine z0c (fun _=>z0F (h m q m1 (by lia) ha hs)) fun c3=> ?_
  refine z00 (z3x ?_)
  have ha:=z1M (i:=lo) (j:=lo+m) (k:=(lo+m -lo)/2) ha
  have hs:=(z0T (i:=lo) (j:=lo+m) (k:=(lo+m -lo)/2)).trans hs
  generalize mirror q lo (lo+m) ((lo+m -lo)/2)=q at ha hs⊢
  refine z00 (z2t ?_)
  refine z00 (z0B (P:=fun v st'=> ∃(m z:Nat) (q:Array Nat),v=(fun _=>(none,m,z))/\st'=sst q p g/\1<=m/\m<=nrem/\Al T q/\q.size=n) (z1d (I:=fun k v st'=> ∃(m z:Nat) (q:Array Nat),v=(fun _=>(none,m,z))/\st'=sst q p g/\1<=m/\m+k=nrem/\Al T q/\q.size=n) ⟨m+1,0,q,rfl,rfl,by lia,by lia,ha,hs⟩ ?_ ?_) ?_)
  ·rintro _ k b st ⟨m,z,q,rfl,rfl,m1,hm,ha,hs⟩
   try dsimp only
   refine z00 (z2d (by lia) (by lia) ?_)
   try dsimp only
   refine z0c (fun _=> ?_) fun _=> ?_
   ·refine z0c (fun _=>z00 (z3x (z0e ⟨m+1,0,_,rfl,rfl,by lia,by lia,z1M ha,z0T.trans hs⟩))) fun _=>z0e ⟨m+1,0,_,rfl,rfl,by lia,by lia,ha,hs⟩
   ·refine z00 (z2d (by lia) (by lia) ?_)
    try dsimp only
    exact z0c (fun _=>z0b ⟨m,z,_,rfl,rfl,m1,by lia,ha,hs⟩) fun _=>z0e ⟨m+1,_,_,rfl,rfl,by lia,by lia,ha,hs⟩
  ·rintro b st ⟨m,z,q,rfl,rfl,m1,hm,ha,hs⟩
   exact⟨m,z,q,rfl,rfl,m1,by lia,ha,hs⟩
  rintro v st ⟨m,z,q,rfl,rfl,m1,m2,ha,hs⟩
  try dsimp only
  refine z0c (fun _=>z00 (z3x ?_)) fun _=> ?_
  ·refine z00 (z3x ?_)
   exact z5x (fun _ _=>rfl) (fun _=>rfl) (z0T.trans (z0T.trans hs)) hl m1 m2 fun k k1 k2=>h k _ k1 k2 (z1M (z1M ha)) (z0T.trans (z0T.trans hs))
  ·refine z00 (z3x ?_)
   exact z5x (fun _ _=>rfl) (fun _=>rfl) (z0T.trans hs) hl m1 m2 fun k k1 k2=>h k _ k1 k2 (z1M ha) (z0T.trans hs)
 ·refine z00 (z2t ?_)
  refine z00 (z0B (P:=fun v st'=> ∃(m z:Nat) (q:Array Nat),v=(fun _=>(none,m,z))/\st'=sst q p g/\1<=m/\m<=nrem/\Al T q/\q.size=n) (z1d (I:=fun k v st'=> ∃(m z:Nat) (q:Array Nat),v=(fun _=>(none,m,z))/\st'=sst q p g/\1<=m/\m+k=nrem/\Al T q/\q.size=n) ⟨m+1,0,q,rfl,rfl,by lia,by lia,ha,hs⟩ ?_ ?_) ?_)
  ·rintro _ k b st ⟨m,z,q,rfl,rfl,m1,hm,ha,hs⟩
   try dsimp only
   refine z00 (z2d (by lia) (by lia) ?_)
   try dsimp only
   refine z0c (fun _=> ?_) fun _=> ?_
   ·refine z0c (fun _=>z00 (z3x (z0e ⟨m+1,0,_,rfl,rfl,by lia,by lia,z1M ha,z0T.trans hs⟩))) fun _=>z0e ⟨m+1,0,_,rfl,rfl,by lia,by lia,ha,hs⟩
   ·refine z00 (z2d (by lia) (by lia) ?_)
    try dsimp only
    exact z0c (fun _=>z0b ⟨m,z,_,rfl,rfl,m1,by lia,ha,hs⟩) fun _=>z0e ⟨m+1,_,_,rfl,rfl,by lia,by lia,ha,hs⟩
  ·rintro b st ⟨m,z,q,rfl,rfl,m1,hm,ha,hs⟩
   exact⟨m,z,q,rfl,rfl,m1,by lia,ha,hs⟩
  rintro v st ⟨m,z,q,rfl,rfl,m1,m2,ha,hs⟩
  try dsimp only
  refine z0c (fun _=>z00 (z3x ?_)) fun _=> ?_
  ·refine z00 (z3x ?_)
   exact z5x (fun _ _=>rfl) (fun _=>rfl) (z0T.trans (z0T.trans hs)) hl m1 m2 fun k k1 k2=>h k _ k1 k2 (z1M (z1M ha)) (z0T.trans (z0T.trans hs))
  ·refine z00 (z3x ?_)
   exact z5x (fun _ _=>rfl) (fun _=>rfl) (z0T.trans hs) hl m1 m2 fun k k1 k2=>h k _ k1 k2 (z1M ha) (z0T.trans hs)
end So
set_option linter.unusedVariables false
namespace So
open PySem PySem.W PyProof.Rows
variable{cmp:Nat->Nat->Bool}{α β:Type}{q:Array Nat}{p:Array (Nat×Nat×Nat)}{g:Nat}{T:Nat->Prop}{st:En->SortSt}
theorem zdX{lo n ok N:Nat}{P:(En->Bool)->(En->SortSt)->Prop}(ha:Al T q)(hs:q.size=N)(hl:lo+n<=N)(h: ∀q',Al T q'->q'.size=N->P (fun _=>true) (sst q' p g)):
 Det cmp (fun _=>binarySort' lo n ok) (sst q p g) P:=by
 refine z00 (z0B (P:=fun v st'=> ∃q:Array Nat,v=(fun _=>(none,()))/\st'=sst q p g/\Al T q/\q.size=N) (zbM (I:=fun k v st'=> ∃q:Array Nat,v=(fun _=>(none,()))/\st'=sst q p g/\Al T q/\q.size=N) ⟨q,rfl,rfl,ha,hs⟩ ?_ fun _ _ _ h=>h) ?_)
 ·rintro k b st hk ⟨q,rfl,rfl,ha,hs⟩
  try dsimp only
  refine z00 (z0B (P:=fun v st'=> ∃l r:Nat,v=(fun _=>(none,l,r))/\st'=sst q p g) (z1d (I:=fun _ v st'=> ∃l r:Nat,v=(fun _=>(none,l,r))/\st'=sst q p g/\r<=k) ⟨0,k,rfl,rfl,Nat.le_refl _⟩ ?_ ?_) ?_)
  ·rintro _ _ b st ⟨l,r,rfl,rfl,hr⟩
   try dsimp only
   refine z0c (fun _=>z0b ⟨l,r,rfl,rfl⟩) fun c=>z00 (z2d (by lia) (by lia) ?_)
   try dsimp only
   exact z0c (fun _=>z0e ⟨_,_,rfl,rfl,by lia⟩) fun _=>z0e ⟨_,_,rfl,rfl,hr⟩
  ·rintro b st ⟨l,r,rfl,rfl,_⟩
   exact⟨l,r,rfl,rfl⟩
  ·rintro v st ⟨l,r,rfl,rfl⟩
   try dsimp only
   exact z00 (zbH (z0e ⟨_,rfl,rfl,zbK ha,zbL.trans hs⟩))
 ·rintro v st ⟨q,rfl,rfl,ha,hs⟩
  exact z0F (h q ha hs)
noncomputable def Ch:Nat->List (Nat×Nat×Nat)->Nat->Prop
 |a,[],b=>a=b
 |a,r::l,b=>r.1=a/\1<=r.2.1/\Ch (a+r.2.1) l b
theorem zbN: ∀{l:List (Nat×Nat×Nat)} {a b:Nat},Ch a l b->a<=b
 |[],_,_,h=>Nat.le_of_eq h
 |r::l,a,b,h=>Nat.le_trans (Nat.le_add_right _ _) (zbN h.2.2)
theorem z6V: ∀{l:List (Nat×Nat×Nat)} {a b n w:Nat},Ch a l b->1<=n->Ch a (l++[(b,n,w)]) (b+n)
 |[],a,b,n,w,h,hn=>by cases(show a=b from h);exact⟨rfl,hn,rfl⟩
 |r::l,a,b,n,w,h,hn=>⟨h.1,h.2.1,z6V h.2.2 hn⟩
theorem z98: ∀{l:List (Nat×Nat×Nat)} {a b i:Nat} {x y:Nat×Nat×Nat},Ch a l b->l[i]? =some x->l[i+1]? =some y->y.1=x.1+x.2.1/\1<=x.2.1/\1<=y.2.1/\y.1+y.2.1<=b/\∀w,Ch a ((l.set i (x.1,x.2.1+y.2.1,w)).eraseIdx (i+1)) b
 |[],_,_,_,_,_,_,h,_=>by simp at h
 |[_],_,_,0,_,_,_,_,h=>by simp at h
 |[_],_,_,_+1,_,_,_,h,_=>by simp at h
 |u::v::l,a,b,0,x,y,hc,hx,hy=>by
  simp only[List.getElem?_cons_zero,Option.some.injEq] at hx
  simp only[Nat.zero_add,List.getElem?_cons_succ,List.getElem?_cons_zero,Option.some.injEq] at hy
  subst hx hy
  obtain⟨h1,h2,h3,h4,h5⟩:=hc
  refine⟨by lia,h2,h4,by have:=zbN h5;lia,fun w=> ?_⟩
  simp only[List.set_cons_zero,Nat.zero_add,List.eraseIdx_cons_succ,List.eraseIdx_cons_zero]
  refine⟨h1,by show 1<=_+_;lia, ?_⟩
  show Ch (a+(u.2.1+v.2.1)) l b
  rw[<-Nat.add_assoc];exact h5
 |u::v::l,a,b,i+1,x,y,hc,hx,hy=>by
  simp only[List.getElem?_cons_succ] at hx hy
  obtain⟨q1,q2,q3,q4,q5⟩:=z98 hc.2.2 hx hy
  refine⟨q1,q2,q3,q4,fun w=> ?_⟩
  rw[List.set_cons_succ,List.eraseIdx_cons_succ]
  exact⟨hc.1,hc.2.1,q5 w⟩
theorem z6W{f:Nat×Nat×Nat->Nat×Nat×Nat}(hf: ∀x,(f x).1=x.1/\(f x).2.1=x.2.1): ∀{l:List (Nat×Nat×Nat)} {a b:Nat} (i:Nat),Ch a l b->Ch a (l.modify i f) b
 |[],_,_,i,h=>by rw[List.modify_nil];exact h
 |r::l,a,b,0,h=>by
  rw[List.modify_zero_cons]
  exact⟨(hf r).1.trans h.1,by rw[(hf r).2];exact h.2.1,by rw[(hf r).2];exact h.2.2⟩
 |r::l,a,b,i+1,h=>by
  rw[List.modify_succ_cons]
  exact⟨h.1,h.2.1,z6W hf i h.2.2⟩
theorem z6X(sa:Nat)(e:En): ∀(m:List Nat) (j:Nat) (q:Array Nat),((m.map fun i=>im i e).zipIdx j).foldl (fun a x=>match x with|(p,j)=>a.setIfInBounds (sa+j) p) (ar q e)=ar ((m.zipIdx j).foldl (fun a x=>match x with|(p,j)=>a.setIfInBounds (sa+j) p) q) e
 |[],_,_=>rfl
 |i::m,j,q=>by
  rw[List.map_cons,List.zipIdx_cons,List.zipIdx_cons,List.foldl_cons,List.foldl_cons]
  have:(ar q e).setIfInBounds (sa+j) (im i e)=ar (q.setIfInBounds (sa+j) i) e:=by simp[ar,Array.map_setIfInBounds]
  dsimp only
  rw[this]
  exact z6X sa e m (j+1) _
theorem zbO{i x:Nat}(h:Al T q)(hx:T x):Al T (q.setIfInBounds i x):=fun k hk=>by
 rcases Array.mem_or_eq_of_mem_setIfInBounds hk with hk|rfl
 ·exact h k hk
 ·exact hx
theorem z6Y(sa:Nat): ∀(m:List Nat) (j:Nat) (q:Array Nat),(∀i∈m,T i)->Al T q->Al T ((m.zipIdx j).foldl (fun a x=>match x with|(p,j)=>a.setIfInBounds (sa+j) p) q)/\((m.zipIdx j).foldl (fun a x=>match x with|(p,j)=>a.setIfInBounds (sa+j) p) q).size=q.size
 |[],_,_,_,h=>⟨h,rfl⟩
 |i::m,j,q,hm,h=>by
  rw[List.zipIdx_cons,List.foldl_cons]
  obtain⟨h1,h2⟩:=z6Y sa m (j+1) (q.setIfInBounds (sa+j) i) (fun k hk=>hm k (List.mem_cons_of_mem _ hk)) (zbO h (hm i List.mem_cons_self))
  exact⟨h1,h2.trans Array.size_setIfInBounds⟩
end So
namespace So
open PySem PySem.W PyProof.Rows
variable{cmp:Nat->Nat->Bool}{α β:Type}{q:Array Nat}{p:Array (Nat×Nat×Nat)}{g:Nat}{T:Nat->Prop}{st:En->SortSt}
theorem z1N{e:En}:pendingOf (sst q p g e)=p:=rfl
theorem z9Y{i lo N:Nat}{P:(En->Bool)->(En->SortSt)->Prop}(ha:Al T q)(hs:q.size=N)(hc:Ch 0 p.toList lo)(hl:lo<=N)(hi:i+1<p.size)(h: ∀q' p' g',Al T q'->q'.size=N->Ch 0 p'.toList lo->P (fun _=>true) (sst q' p' g')):
 Det cmp (fun _=>mergeAt' i) (sst q p g) P:=by
 refine z00 (z2s ?_)
 obtain⟨x,hx⟩: ∃x,p[i]? =some x:=⟨p[i],Array.getElem?_eq_getElem (by lia)⟩
 obtain⟨y,hy⟩: ∃y,p[i+1]? =some y:=⟨p[i+1],Array.getElem?_eq_getElem hi⟩
 obtain⟨sa,na,pw⟩:=x
 obtain⟨sb,nb,pw'⟩:=y
 obtain⟨c1,c2,c3,c4,c5⟩:=z98 hc (by rw[Array.getElem?_toList];exact hx) (by rw[Array.getElem?_toList];exact hy)
 dsimp only at c1 c2 c3 c4 c5
 have hp':Ch 0 ((p.setIfInBounds i (sa,na+nb,pw)).eraseIdxIfInBounds (i+1)).toList lo:=by
  have e:((p.setIfInBounds i (sa,na+nb,pw)).eraseIdxIfInBounds (i+1)).toList=(p.toList.set i (sa,na+nb,pw)).eraseIdx (i+1):=by simp
  rw[e];exact c5 pw
 have e1: ∀e,(pendingOf (sst q p g e))[i]? =some (sa,na,pw):=fun _=>hx
 have e2: ∀e,(pendingOf (sst q p g e))[i+1]? =some (sb,nb,pw'):=fun _=>hy
 simp only[e1,e2]
 refine z00 (zdT (a:=sst q ((p.setIfInBounds i (sa,na+nb,pw)).eraseIdxIfInBounds (i+1)) g) ?_)
 generalize (p.setIfInBounds i (sa,na+nb,pw)).eraseIdxIfInBounds (i+1)=p' at hp'⊢
 refine z00 (z0t (q:=q) (by lia) ?_)
 refine z00 (z1u (r:=q) (by lia) (by lia) fun k hk=> ?_)
 try dsimp only
 refine z0c (fun _=>z0F (h _ _ _ ha hs hp')) fun c6=> ?_
 simp only[beq_iff_eq] at c6
 refine z00 (z0t (q:=q) (by lia) ?_)
 refine z00 (z1u (r:=q) (by lia) (by lia) fun k2 hk2=> ?_)
 try dsimp only
 refine z0c (fun _=>z0F (h _ _ _ ha hs hp')) fun c7=> ?_
 simp only[beq_iff_eq] at c7
 have sx:(q.extract (sa+k) sb).size=na -k:=by rw[Array.size_extract];lia
 have sy:(q.extract sb (sb+k2)).size=k2:=by rw[Array.size_extract];lia
 have ex: ∀e,(arrOf (sst q p g e)).extract (sa+k) sb=ar (q.extract (sa+k) sb) e:=fun e=>z0P
 have ey: ∀e,(arrOf (sst q p g e)).extract sb (sb+k2)=ar (q.extract sb (sb+k2)) e:=fun e=>z0P
 simp only[ex,ey]
 have fin: ∀(mq:Array Nat) (g':Nat),Al T mq->∀(f:En->SortSt->SortSt),(∀e,f e (sst q p' g' e)=SortSt.mk' e.1 ((ar mq e).toList.zipIdx.foldl (fun a x=>match x with|(p,j)=>a.setIfInBounds (sa+k+j) p) (ar q e)) p' g' none)->Det cmp (fun e=>(modify (f e):StateT SortSt Sem PUnit)>>=fun _=>get>>=fun s=>pure (failedOf s).isNone) (sst q p' g') P:=by
  intro mq g' hm f hf
  obtain⟨h1,h2⟩:=z6Y (T:=T) (sa+k) mq.toList 0 q (fun i hi=>hm i (by simpa using hi)) ha
  refine z00 (z1c ?_)
  have e3:(fun e=>f e (sst q p' g' e))=sst ((mq.toList.zipIdx 0).foldl (fun a x=>match x with|(p,j)=>a.setIfInBounds (sa+k+j) p) q) p' g':=by
   funext e
   rw[hf]
   unfold sst
   have:(ar mq e).toList=mq.toList.map fun i=>im i e:=by simp[ar]
   rw[this,z6X]
  rw[e3]
  exact z00 (z2s (z0F (h _ _ _ h1 (h2.trans hs) hp')))
 refine z0c (fun _=> ?_) fun _=> ?_
 ·refine z00 (zdU (T:=T) (z0i ha) (z0i ha) (by lia) (by lia) fun mq g' hm=> ?_)
  exact fin mq g' hm _ fun e=>rfl
 ·refine z00 (zdV (T:=T) (z0i ha) (z0i ha) (by lia) (by lia) fun mq g' hm=> ?_)
  exact fin mq g' hm _ fun e=>rfl
end So
namespace So
open PySem PySem.W PyProof.Rows
variable{cmp:Nat->Nat->Bool}{α β:Type}{q:Array Nat}{p:Array (Nat×Nat×Nat)}{g:Nat}{T:Nat->Prop}{st:En->SortSt}
theorem zbP{c:Prop}{i:Decidable c}{n:Nat}(h:2<=n): @ite Nat c i (n - 2 - 1) (n - 2)+1<n:=by
 by_cases hc:c
 ·rw[if_pos hc];lia
 ·rw[if_neg hc];lia
theorem zbQ{i:En->Nat}{lo N:Nat}{P:(En->Bool)->(En->SortSt)->Prop}(hE: ∀e e',i e=i e')(ha:Al T q)(hs:q.size=N)(hc:Ch 0 p.toList lo)(hl:lo<=N)(hi: ∀e,i e+1<p.size)(h: ∀q' p' g',Al T q'->q'.size=N->Ch 0 p'.toList lo->P (fun _=>true) (sst q' p' g')):
 Det cmp (fun e=>mergeAt' (i e)) (sst q p g) P:=by
 have e0:i=fun _=>i (general', #[]):=funext fun e=>hE e _
 rw[e0]
 exact z9Y ha hs hc hl (hi _) h
theorem zbR{N:Nat}{P:(En->Unit)->(En->SortSt)->Prop}(ha:Al T q)(hs:q.size=N)(h: ∀q' p' g',Al T q'->q'.size=N->P (fun _=>()) (sst q' p' g')):
 Det cmp (fun _=>sortRuns') (sst q #[] g) P:=by
 refine z00 (z2s ?_)
 have e0: ∀e,(arrOf (sst q #[] g e)).size=N:=fun e=>z1V.trans hs
 simp only[e0]
 refine z00 (z0B (P:=fun v st'=> ∃(lo:Nat) (q:Array Nat) (p:Array (Nat×Nat×Nat)) (g:Nat),v=(fun _=>(none,lo))/\st'=sst q p g/\Al T q/\q.size=N/\Ch 0 p.toList lo/\lo<=N) (z1d (I:=fun _ v st'=> ∃(lo:Nat) (q:Array Nat) (p:Array (Nat×Nat×Nat)) (g:Nat),v=(fun _=>(none,lo))/\st'=sst q p g/\Al T q/\q.size=N/\Ch 0 p.toList lo/\lo<=N) ⟨0,q, #[],g,rfl,rfl,ha,hs,rfl,Nat.zero_le _⟩ ?_ fun _ _ h=>h) ?_)
 ·rintro _ _ b st ⟨lo,q,p,g,rfl,rfl,ha,hs,hc,hl⟩
  try dsimp only
  refine z0c (fun _=>z0b ⟨lo,q,p,g,rfl,rfl,ha,hs,hc,hl⟩) fun c1=> ?_
  refine z00 (zdW (T:=T) (n:=N) ha hs (by lia) (by lia) fun k q k1 k2 ha hs=> ?_)
  try dsimp only
  have tail: ∀(n:Nat) (q:Array Nat) (p:Array (Nat×Nat×Nat)) (g:Nat),1<=n->lo+n<=N->Al T q->q.size=N->Ch 0 p.toList lo->∀(f:SortSt->SortSt),(∀e,f (sst q p g e)=SortSt.mk' e.1 (ar q e) (p.push (lo,n,0)) g none)->Det cmp (fun _=>(modify f:StateT SortSt Sem PUnit)>>=fun _=>pure (ForInStep.yield ((none,lo+n):Option Unit×Nat))) (sst q p g) fun v st'=>(∃c,v=(fun e=> .done (c e))/\∃(lo:Nat) (q:Array Nat) (p:Array (Nat×Nat×Nat)) (g:Nat),c=(fun _=>(none,lo))/\st'=sst q p g/\Al T q/\q.size=N/\Ch 0 p.toList lo/\lo<=N)\/∃c,v=(fun e=> .yield (c e))/\∃(lo:Nat) (q:Array Nat) (p:Array (Nat×Nat×Nat)) (g:Nat),c=(fun _=>(none,lo))/\st'=sst q p g/\Al T q/\q.size=N/\Ch 0 p.toList lo/\lo<=N:=by
   intro n q p g n1 n2 ha hs hc f hf
   refine z00 (z1c ?_)
   simp only[hf]
   exact z0e ⟨lo+n,q,p.push (lo,n,0),g,rfl,rfl,ha,hs,by rw[Array.toList_push];exact z6V hc n1,n2⟩
  refine z0c (fun c2=> ?_) fun c2=> ?_
  ·refine z00 (z2t ?_)
   refine z00 (zdX (T:=T) (N:=N) ha hs (by lia) fun q ha hs=> ?_)
   try dsimp only
   refine z0c (fun c=>by cases c) fun _=> ?_
   refine z00 (z2s ?_)
   try dsimp only
   simp only[z1N]
   cases hb:p.back? with
   |none=>exact tail _ q p g (by lia) (by lia) ha hs hc _ fun e=>rfl
   |some x=>
    obtain⟨s1,n1,w⟩:=x
    try dsimp only
    refine z00 (z0B (P:=fun v st'=> ∃(q:Array Nat) (p:Array (Nat×Nat×Nat)) (g:Nat),v=(fun _=>(none,()))/\st'=sst q p g/\Al T q/\q.size=N/\Ch 0 p.toList lo) (z1d (I:=fun _ v st'=> ∃(q:Array Nat) (p:Array (Nat×Nat×Nat)) (g:Nat),v=(fun _=>(none,()))/\st'=sst q p g/\Al T q/\q.size=N/\Ch 0 p.toList lo) ⟨q,p,g,rfl,rfl,ha,hs,hc⟩ ?_ fun _ _ h=>h) ?_)
    ·rintro _ _ b st ⟨q,p,g,rfl,rfl,ha,hs,hc⟩
     refine z00 (z2s ?_)
     try dsimp only
     simp only[z1N]
     by_cases hp:p.size>1
     ·have hp':(p.size>1)=True:=eq_true hp
      simp only[hp',if_true]
      obtain⟨x,hx⟩: ∃x,p[p.size - 2]? =some x:=⟨p[p.size - 2],Array.getElem?_eq_getElem (by lia)⟩
      obtain⟨s1,n1,w⟩:=x
      simp only[hx]
      refine z0c (fun _=>z0b ⟨q,p,g,rfl,rfl,ha,hs,hc⟩) fun _=> ?_
      refine z00 (z9Y (T:=T) (N:=N) ha hs hc hl (by lia) fun q p g ha hs hc=> ?_)
      try dsimp only
      exact z0c (fun c=>by cases c) fun _=>z0e ⟨q,p,g,rfl,rfl,ha,hs,hc⟩
     ·have hp':(p.size>1)=False:=eq_false hp
      simp only[hp',if_false]
      exact z0b ⟨q,p,g,rfl,rfl,ha,hs,hc⟩
    ·rintro v st ⟨q,p,g,rfl,rfl,ha,hs,hc⟩
     try dsimp only
     refine z00 (z1c ?_)
     exact tail _ q (p.modify (p.size - 1) fun x=>(x.1,x.2.1,_)) g (by lia) (by lia) ha hs (by rw[Array.toList_modify];refine z6W ?_ _ hc;exact fun x=>⟨rfl,rfl⟩) _ fun e=>rfl
  ·refine z00 (z2s ?_)
   try dsimp only
   simp only[z1N]
   cases hb:p.back? with
   |none=>exact tail _ q p g (by lia) (by lia) ha hs hc _ fun e=>rfl
   |some x=>
    obtain⟨s1,n1,w⟩:=x
    try dsimp only
    refine z00 (z0B (P:=fun v st'=> ∃(q:Array Nat) (p:Array (Nat×Nat×Nat)) (g:Nat),v=(fun _=>(none,()))/\st'=sst q p g/\Al T q/\q.size=N/\Ch 0 p.toList lo) (z1d (I:=fun _ v st'=> ∃(q:Array Nat) (p:Array (Nat×Nat×Nat)) (g:Nat),v=(fun _=>(none,()))/\st'=sst q p g/\Al T q/\q.size=N/\Ch 0 p.toList lo) ⟨q,p,g,rfl,rfl,ha,hs,hc⟩ ?_ fun _ _ h=>h) ?_)
    ·rintro _ _ b st ⟨q,p,g,rfl,rfl,ha,hs,hc⟩
     refine z00 (z2s ?_)
     try dsimp only
     simp only[z1N]
     by_cases hp:p.size>1
     ·have hp':(p.size>1)=True:=eq_true hp
      simp only[hp',if_true]
      obtain⟨x,hx⟩: ∃x,p[p.size - 2]? =some x:=⟨p[p.size - 2],Array.getElem?_eq_getElem (by lia)⟩
      obtain⟨s1,n1,w⟩:=x
      simp only[hx]
      refine z0c (fun _=>z0b ⟨q,p,g,rfl,rfl,ha,hs,hc⟩) fun _=> ?_
      refine z00 (z9Y (T:=T) (N:=N) ha hs hc hl (by lia) fun q p g ha hs hc=> ?_)
      try dsimp only
      exact z0c (fun c=>by cases c) fun _=>z0e ⟨q,p,g,rfl,rfl,ha,hs,hc⟩
     ·have hp':(p.size>1)=False:=eq_false hp
      simp only[hp',if_false]
      exact z0b ⟨q,p,g,rfl,rfl,ha,hs,hc⟩
    ·rintro v st ⟨q,p,g,rfl,rfl,ha,hs,hc⟩
     try dsimp only
     refine z00 (z1c ?_)
     exact tail _ q (p.modify (p.size - 1) fun x=>(x.1,x.2.1,_)) g (by lia) (by lia) ha hs (by rw[Array.toList_modify];refine z6W ?_ _ hc;exact fun x=>⟨rfl,rfl⟩) _ fun e=>rfl
 ·rintro v st ⟨lo,q,p,g,rfl,rfl,ha,hs,hc,hl⟩
  try dsimp only
  refine z00 (z0B (P:=fun v st'=> ∃(q:Array Nat) (p:Array (Nat×Nat×Nat)) (g:Nat),v=(fun _=>(none,()))/\st'=sst q p g/\Al T q/\q.size=N/\Ch 0 p.toList lo) (z1d (I:=fun _ v st'=> ∃(q:Array Nat) (p:Array (Nat×Nat×Nat)) (g:Nat),v=(fun _=>(none,()))/\st'=sst q p g/\Al T q/\q.size=N/\Ch 0 p.toList lo) ⟨q,p,g,rfl,rfl,ha,hs,hc⟩ ?_ fun _ _ h=>h) ?_)
  ·rintro _ _ b st ⟨q,p,g,rfl,rfl,ha,hs,hc⟩
   refine z00 (z2s ?_)
   try dsimp only
   simp only[z1N]
   refine z0c (fun _=>z0b ⟨q,p,g,rfl,rfl,ha,hs,hc⟩) fun c1=> ?_
   refine z00 (zbQ (T:=T) (N:=N) (fun _ _=>rfl) ha hs hc hl (fun e=> ?_) fun q p g ha hs hc=> ?_)
   ·exact zbP (by lia)
   try dsimp only
   exact z0c (fun c=>by cases c) fun _=>z0e ⟨q,p,g,rfl,rfl,ha,hs,hc⟩
  ·rintro v st ⟨q,p,g,rfl,rfl,ha,hs,hc⟩
   exact z0F (h q p g ha hs)
end So
namespace So
open PySem PySem.W PyProof.Rows PySem.SeqAt
open AutoSeq1 (wpAny_loadPart')
noncomputable def LtAt(A:Around)(s:Shared)(y x:Value)(b:Bool):Prop:=
 ∀(prog:Program) (w:World) (E:Value->Shared->Prop) (Q:Value->Shared->Prop),Q (.bool b) s->wpAny (model prog w) A (richCompare .Lt y x) Q E s
noncomputable def z4U(A:Around)(s:Shared):List Value->List Value->Bool->Prop
 |v::vs,u::us,r=> ∃e,EqAt A s v u e/\if e=true then z4U A s vs us r else LtAt A s v u r
 |[],us,r=>r=decide (0<us.length)
 |_::_,[],r=>r=false
theorem z9Z{A:Around}{s:Shared}: ∀{vs us:List Value} {r:Bool},vs.zip us=[]->z4U A s vs us r->r=decide (vs.length<us.length)
 |[],us,r,_,h=>h
 |v::vs,[],r,_,h=>by rw[show r=false from h];simp
theorem z65(l b:Addr)(items items2:Array Value)(n n2:Nat)(dd dd2:Option Addr)(sl sl2:Array (Option Value))(r:Bool):
 Meets (Builtin.«tuple.__lt__» ⟨[.ref l, .ref b],[]⟩)
  (fun A R s=>s.heap.get? l=some {cls:= .type "tuple",dict:=dd,data:= .seq items n,slots:=sl}/\s.heap.get? b=some {cls:= .type "tuple",dict:=dd2,data:= .seq items2 n2,slots:=sl2}/\
   z4U A.in1 s items.toList items2.toList r/\R (.ok (.ret (.bool r))) s):=
 .of_wp fun prog w A R s h=>by
  obtain⟨hp,g,d,tk,os⟩:=s;obtain⟨hl,hb,he,h⟩:=h
  have f2:=AutoSeq1.sub_tuple_tuple
  wp_walk using wpAny_loadPart' hl,wpAny_loadPart' hb,wpAny_forIn_list _ (fun rest b s'=>b.1=none/\s'=⟨hp,g,d,tk,os⟩/\∃vs us,rest=vs.zip us/\z4U A.in1 ⟨hp,g,d,tk,os⟩ vs us r/\(vs.length<us.length↔items.size<items2.size)) _
  case turn=>
   rintro ⟨y,x⟩ rest b s' ⟨hb',rfl,vs,us,hz,hR,hs⟩
   match vs,us,hz,hR with
   |v::vs,u::us,hz,hR=>
    rw[List.zip_cons_cons] at hz
    injection hz with h1 h2
    injection h1 with h3 h4
    subst h2 h3 h4
    obtain⟨e,q1,q2⟩:=hR
    refine wpAny_bind (q1 prog w _ _ ?_)
    cases e with
    |true=>
     wp_walk
     exact⟨rfl,rfl,vs,us,rfl,q2,by simpa using hs⟩
    |false=>
     simp only[Bool.false_eq_true,if_false] at q2
     simp only[Bool.not_false,if_true]
     refine wpAny_bind (wpAny_rule (wpAny_bind (q2 prog w _ _ ?_)))
     exact wpAny_bind (wpAny_pure (wpAny_pure (wpAny_pure ⟨_,rfl,h⟩)))
   |[],_,hz,_=>simp at hz
   |_::_,[],hz,_=>simp at hz
  case fin=>
   rintro ⟨b1,b2⟩ s' ⟨hb',rfl,vs,us,hz,hR,hs⟩
   simp only at hb'
   subst hb'
   have:=z9Z hz.symm hR
   wp_walk
   refine⟨_,rfl, ?_⟩
   have e:r=decide (items.size<items2.size):=by rw[this];exact decide_eq_decide.mpr hs
   rw[e] at h
   exact h
  case h=>
   exact⟨rfl,rfl,_,_,rfl,he,by simp⟩
theorem LtAt.int{A:Around}{s:Shared}(a b:Int)(t u:Tok):LtAt A s (.int a t) (.int b u) (decide (a<b)):=fun prog w E Q h=>wpAny_lt_int h
theorem LtAt.tuples{A:Around}{s:Shared}{l b:Addr}{items items2:Array Value}{r:Bool}(hl:s.heap.IsTuple l items)(hb:s.heap.IsTuple b items2)(hu:A.units<cLine)(he:z4U A.in1 s items.toList items2.toList r):LtAt A s (.ref l) (.ref b) r:=fun prog w E Q h=>by
 obtain⟨⟨cls,dd,data,sl⟩,ho,hc,n,hd⟩:=id hl
 obtain⟨⟨cls2,dd2,data2,sl2⟩,ho2,hc2,n2,hd2⟩:=id hb
 simp only at hc hd hc2 hd2
 subst hc hd hc2 hd2
 exact richCompare_meets_room (op:= .Lt) ⟨_,ho,rfl⟩ ⟨_,ho2,rfl⟩ F.slot_tuple_lt F.entry_tuple_lt (F.args_tuple_lt_2 _ _) (z65 l b items items2 n n2 dd dd2 sl sl2 r)
  ⟨ho,ho2,he,show Value.bool r≠Value.notImplemented/\Q (.bool r) s from⟨(fun x=>nomatch x),h⟩⟩ hu
mutual
noncomputable def ltD:PyData->PyData->Option Bool
 | .int a, .int b=>some (decide (a<b))
 | .tuple xs, .tuple ys=>ltL xs ys
 |_,_=>none
noncomputable def ltL:List PyData->List PyData->Option Bool
 |x::xs,y::ys=>if PyData.eqv x y=true then ltL xs ys else ltD x y
 |[],ys=>some (decide (0<ys.length))
 |_::_,[]=>some false
end
end So
namespace So
open PySem PySem.W PyProof.Rows PySem.SeqAt
mutual
theorem z8k: ∀(da db:PyData) (A:Around) (s:Shared) (a b:Value) (as bs:List Addr) (r:Bool),Reads s.heap a da as->Reads s.heap b db bs->da.canLay0=true->db.canLay0=true->A.units+min da.depth db.depth<cLine->ltD da db=some r->LtAt A s a b r
 | .int x,_,A,s,_,_,_,_,r,ra,rb,_,_,_,h=>by
  cases ra with
  |int _ t=>
   cases rb with
   |int y u=>
    simp only[ltD,Option.some.injEq] at h
    subst h
    exact LtAt.int _ _ _ _
   |_=>simp[ltD] at h
 | .tuple xs,_,A,s,_,_,_,_,r,ra,rb,ha,hb,hu,h=>by
  cases ra with
  | @tuple l o vs n _ as₁ h1 h2 h3 h4=>
   cases rb with
   | @tuple l' o' vs' n' ys as' k1 k2 k3 k4=>
    have ha:PyData.canLayAll0 xs=true:=by simpa[PyData.canLay0] using ha
    have hb:PyData.canLayAll0 ys=true:=by simpa[PyData.canLay0] using hb
    simp only[ltD] at h
    exact LtAt.tuples ⟨_,h1,h2,_,h3⟩ ⟨_,k1,k2,_,k3⟩ (room_here hu) (lex_reads xs ys A.in1 s _ _ _ _ r h4 k4 ha hb (room_in hu) h)
   |_=>simp[ltD] at h
 | .none,_,A,s,_,_,_,_,r,ra,rb,ha,hb,hu,h=>by simp[ltD] at h
 | .bool _,_,A,s,_,_,_,_,r,ra,rb,ha,hb,hu,h=>by simp[ltD] at h
 | .str _,_,A,s,_,_,_,_,r,ra,rb,ha,hb,hu,h=>by simp[ltD] at h
 | .list _,_,A,s,_,_,_,_,r,ra,rb,ha,hb,hu,h=>by simp[ltD] at h
 | .dict _,_,A,s,_,_,_,_,r,ra,rb,ha,hb,hu,h=>by simp[ltD] at h
theorem lex_reads: ∀(xs ys:List PyData) (A:Around) (s:Shared) (vs ws:List Value) (as bs:List Addr) (r:Bool),ReadsAll s.heap vs xs as->ReadsAll s.heap ws ys bs->PyData.canLayAll0 xs=true->PyData.canLayAll0 ys=true->
 A.units+min (PyData.depthAll xs) (PyData.depthAll ys)<cLine->ltL xs ys=some r->z4U A s vs ws r
 |[],ys,A,s,vs,ws,_,_,r,ra,rb,_,_,_,h=>by
  cases ra
  simp only[ltL,Option.some.injEq] at h
  subst h
  show _=decide (0<ws.length)
  have e: ∀{ws:List Value} {ys:List PyData} {bs:List Addr},ReadsAll s.heap ws ys bs->ws.length=ys.length:=fun{ws}=>by
   induction ws with
   |nil=>intro ys bs q;cases q;rfl
   |cons v vs ih=>intro ys bs q;cases q with|cons q1 q2=>rw[List.length_cons,List.length_cons,ih q2]
  rw[e rb]
 |_::_,[],A,s,vs,ws,_,_,r,ra,rb,_,_,_,h=>by
  cases rb
  cases ra
  simp only[ltL,Option.some.injEq] at h
  exact h.symm
 |x::xs,y::ys,A,s,_,_,_,_,r,ra,rb,ha,hb,hu,h=>by
  have ha':x.canLay0=true/\PyData.canLayAll0 xs=true:=by simpa[PyData.canLayAll0] using ha
  have hb':y.canLay0=true/\PyData.canLayAll0 ys=true:=by simpa[PyData.canLayAll0] using hb
  cases ra with
  |cons r1 rs=>
  cases rb with
  |cons r1' rs'=>
   refine⟨PyData.eqv x y,eqAt_reads x y A s _ _ _ _ r1 r1' ha'.1 hb'.1 (room_head hu), ?_⟩
   rw[ltL] at h
   split
   ·rename_i e
    rw[if_pos e] at h
    exact lex_reads xs ys A s _ _ _ _ r rs rs' ha'.2 hb'.2 (room_tail hu) h
   ·rename_i e
    rw[if_neg e] at h
    exact z8k x y A s _ _ _ _ r r1 r1' ha'.1 hb'.1 (room_head hu) h
end
theorem z1E(n:Nat)(cmp:Nat->Nat->Bool): ∃q:Array Nat,(q.size=n/\Al (· <n) q)/\∃p g,∀(prog:Program) (w:World) (A:Around) (E:Value->Shared->Prop) (e:En) (G:Shared->Prop) (Q:Unit->SortSt->Shared->Prop) (s:Shared),Cmp prog w A cmp G e->G s->(∀s',G s'->Q () (sst q p g e) s')->kasC (model prog w) A E sortRuns' Q (sst (List.range n).toArray #[] 7 e) s:=by
 obtain⟨v,st',⟨q,p,g,rfl,h1,h2⟩,h⟩:=zbR (cmp:=cmp) (T:=(· <n)) (q:=(List.range n).toArray) (g:=7) (N:=n) (P:=fun _ st'=> ∃q p g,st'=sst q p g/\q.size=n/\Al (· <n) q) (fun i hi=>by simpa using hi) (by simp) fun q' p' g' a b=>⟨q',p',g',rfl,b,a⟩
 exact⟨q,⟨h1,h2⟩,p,g,h⟩
open Classical in
noncomputable def perm(n:Nat)(cmp:Nat->Nat->Bool):List Nat:=if n<2 then List.range n else(z1E n fun i j=>cmp (i %n) (j %n)).choose.toList
theorem perm_len{n:Nat}{cmp:Nat->Nat->Bool}:(perm n cmp).length=n:=by
 unfold perm
 split
 ·simp
 ·rw[Array.length_toList];exact(z1E n fun i j=>cmp (i %n) (j %n)).choose_spec.1.1
theorem perm_lt{n:Nat}{cmp:Nat->Nat->Bool}: ∀i∈perm n cmp,i<n:=by
 unfold perm
 split
 ·intro i hi;simpa using hi
 ·intro i hi;exact(z1E n fun i j=>cmp (i %n) (j %n)).choose_spec.1.2 i (by simpa using hi)
theorem za0{vs:List Value}:(vs.toArray.zip vs.toArray).map (·.2)=vs.toArray:=by
 apply Array.ext_getElem?
 intro i
 by_cases hi:i<vs.length<;>simp[hi]
theorem z66{vs:List Value}:(List.range vs.length).map (fun i=>vs.getD i Value.none)=vs:=by
 apply List.ext_getElem?
 intro i
 by_cases hi:i<vs.length<;>simp[hi]
section
variable{prog:Program}{w:World}{A:Around}{E:Value->Shared->Prop}{s:Shared}
theorem z3A{a:Addr}{vs:List Value}{n:Nat}{cmp:Nat->Nat->Bool}{P:PySem.Fin->Shared->Prop}(ho:s.heap.get? a=some (seqObj "list" vs.toArray n))(hz:vs.length<=sizeLine)
 (hk: ∀h',(∀b o,b≠a->s.heap.get? b=some o->h'.get? b=some o)->2<=vs.length->∃κ,(∀(Q:SortKind->Shared->Prop) E,Q κ {s with heap:=h'}->wpAny (model prog w) A (keyKind' vs.toArray) Q E {s with heap:=h'})/\
  ∀i j (hi:i<vs.length) (hj:j<vs.length) (C:Bool->Shared->Prop),C (cmp i j) {s with heap:=h'}->wpAny (model prog w) A (keyLt' κ vs[i] vs[j]) C (fun _ _=>False) {s with heap:=h'})
 (h: ∀h' e1,(∀b o,b≠a->s.heap.get? b=some o->h'.get? b=some o)->h'.get? a=some (seqObj "list" ((perm vs.length cmp).map fun i=>vs.getD i Value.none).toArray e1)->P (.done (.ret .none)) {s with heap:=h'}):
 wpAny (model prog w) A (Builtin.«list.sort» ⟨[.ref a],[]⟩) P E s:=by
 have ha:a<s.heap.objs.size:=Heap.lt_size ho
 obtain⟨e1,ho1⟩: ∃e1,(s.heap.update a (Obj.mapSeq fun _=>(#[]:Array Value))).get? a=some (seqObj "list" #[] e1):=⟨_,get?_update_seq ho fun _=> #[]⟩
 have ho3:(((s.heap.update a (Obj.mapSeq fun _=>(#[]:Array Value))).push (seqObj "tuple" vs.toArray 0)).push (seqObj "list" #[] 0)).get? a=some (seqObj "list" #[] e1):=Heap.get?_push_of_some _ (Heap.get?_push_of_some _ ho1)
 have kept: ∀b o,b≠a->s.heap.get? b=some o->(((s.heap.update a (Obj.mapSeq fun _=>(#[]:Array Value))).push (seqObj "tuple" vs.toArray 0)).push (seqObj "list" #[] 0)).get? b=some o:=fun b o hb q=>
  Heap.get?_push_of_some _ (Heap.get?_push_of_some _ ((Heap.get?_update_ne _ _ _ _ hb).trans q))
 rw[list_sort_plain]
 refine wpAny_bind (listItems_at ho rfl ?_)
 refine wpAny_bind (listUpdate_at ho rfl ?_ (by rw[List.size_toArray];exact hz) (Nat.zero_le _))
 refine wpAny_bind (seqEpoch_at ho1 rfl ?_)
 refine wpAny_bind (wpAny_newTuple ?_ (by show vs.length<=_;exact hz))
 refine wpAny_bind (wpAny_newList ?_ (Nat.zero_le _))
 refine wpAny_holding ?_
 show wpAny (model prog w) A _ P E {s with heap:=((s.heap.update a (Obj.mapSeq fun _=>(#[]:Array Value))).push (seqObj "tuple" vs.toArray 0)).push (seqObj "list" #[] 0)}
 dsimp only
 generalize ((s.heap.update a (Obj.mapSeq fun _=>(#[]:Array Value))).push (seqObj "tuple" vs.toArray 0)).push (seqObj "list" #[] 0)=h1 at ho3 kept⊢
 have fin: ∀st':SortSt,(arrOf st').map (·.2)=((perm vs.length cmp).map fun i=>vs.getD i Value.none).toArray->failedOf st'=none->wpAny (model prog w) A (do
  let touched<-seqEpoch a
  Builtin.List.listUpdate (.ref a) fun _=>(arrOf st').map (·.2)
  if let some e:=failedOf st' then rule "list.sort.comparison-raised";throw e
  if(touched !=e1)=true then rule "list.sort.modified";raiseError "ValueError" "list modified during sort"
  ret .none) P E {s with heap:=h1}:=by
  intro st' har hf
  refine wpAny_bind (seqEpoch_at ho3 rfl ?_)
  rw[har]
  have hsz:((perm vs.length cmp).map fun i=>vs.getD i Value.none).toArray.size=vs.length:=by rw[List.size_toArray,List.length_map,perm_len]
  refine wpAny_bind (listUpdate_at ho3 rfl ?_ (Nat.zero_le _) (Nat.le_trans (Nat.le_of_eq hsz) (by lia)))
  rw[hf]
  simp only[bne_self_eq_false,Bool.false_eq_true,if_false]
  obtain⟨c2,hc2⟩: ∃c2,(h1.update a (Obj.mapSeq fun _=>((perm vs.length cmp).map fun i=>vs.getD i Value.none).toArray)).get? a=some (seqObj "list" ((perm vs.length cmp).map fun i=>vs.getD i Value.none).toArray c2):=⟨_,get?_update_seq ho3 fun _=>_⟩
  exact wpAny_pure (h _ c2 (fun b o hb q=>(Heap.get?_update_ne _ _ _ _ hb).trans (kept b o hb q)) hc2)
 by_cases h2:vs.length<2
 ·have h2':vs.toArray.size<2:=by simpa using h2
  rw[if_pos h2',if_pos h2']
  refine wpAny_bind (wpAny_pure ?_)
  rw[StateT.run_pure]
  refine wpAny_bind (wpAny_pure ?_)
  refine fin _ ?_ rfl
  show(vs.toArray.zip vs.toArray).map (·.2)=_
  unfold perm
  rw[if_pos h2,za0,z66]
 ·have h2': ¬vs.toArray.size<2:=by simpa using h2
  rw[if_neg h2',if_neg h2']
  obtain⟨κ,k1,k2⟩:=hk h1 kept (by lia)
  refine wpAny_bind (k1 _ _ ?_)
  have sz:(vs.toArray.zip vs.toArray).size=vs.length:=by simp
  have im_eq: ∀i,i<vs.length->im i (κ,vs.toArray.zip vs.toArray)=(vs.getD i Value.none,vs.getD i Value.none):=fun i hi=>by
   unfold im
   rw[sz,Nat.mod_eq_of_lt hi,kat_item rfl]
  have est:SortSt.mk' κ (vs.toArray.zip vs.toArray) #[] 7 none=sst (List.range vs.length).toArray #[] 7 (κ,vs.toArray.zip vs.toArray):=by
   unfold sst ar
   have e:(List.range vs.length).toArray.map (fun i=>im i (κ,vs.toArray.zip vs.toArray))=vs.toArray.zip vs.toArray:=by
    apply Array.ext_getElem?
    intro i
    by_cases hi:i<vs.length
    ·rw[Array.getElem?_map]
     have:=im_eq i hi
     simp only[List.getElem?_toArray,List.getElem?_range hi,Option.map_some,this]
     simp[hi]
    ·simp[hi]
   rw[e]
  obtain⟨p,g,run⟩:=(z1E vs.length fun i j=>cmp (i %vs.length) (j %vs.length)).choose_spec.2
  have hpe:perm vs.length cmp=(z1E vs.length fun i j=>cmp (i %vs.length) (j %vs.length)).choose.toList:=by unfold perm;rw[if_neg h2]
  have hlt:=(z1E vs.length fun i j=>cmp (i %vs.length) (j %vs.length)).choose_spec.1.2
  generalize (z1E vs.length fun i j=>cmp (i %vs.length) (j %vs.length)).choose=q at run hpe hlt
  rw[est]
  have go:=run prog w A E (κ,vs.toArray.zip vs.toArray) (fun s'=>s'={s with heap:=h1}) (fun _ st' s'=>st'=sst q p g (κ,vs.toArray.zip vs.toArray)/\s'={s with heap:=h1}) {s with heap:=h1} (fun i j C s' hs hc=>by
   subst hs
   have l1:i %vs.length<vs.length:=Nat.mod_lt _ (by lia)
   have l2:j %vs.length<vs.length:=Nat.mod_lt _ (by lia)
   have hq:=k2 (i %vs.length) (j %vs.length) l1 l2 C (hc _ rfl)
   unfold kas_cmp
   simp only[sz,kat_item rfl]
   rw[show vs.getD (i %vs.length) Value.none=vs[i %vs.length] by simp[l1],show vs.getD (j %vs.length) Value.none=vs[j %vs.length] by simp[l2]]
   exact hq) rfl fun s' hs=>⟨rfl,hs⟩
  refine wpAny_bind (wpAny_mono go ?_ fun _ _ e=>e)
  rintro ⟨⟨⟩,st'⟩ s' ⟨hst,hs⟩
  dsimp only at hst⊢
  subst hst hs
  refine fin _ ?_ rfl
  rw[hpe]
  apply Array.toList_inj.mp
  show((ar q (κ,vs.toArray.zip vs.toArray)).map (·.2)).toList=_
  unfold ar
  rw[Array.map_map,Array.toList_map]
  exact List.map_congr_left fun i hi=>by show(im i (κ,vs.toArray.zip vs.toArray)).2=_;rw[im_eq i (hlt i (by simpa using hi))]
theorem call_sorted{l:Addr}{vs:List Value}{cmp:Nat->Nat->Bool}{Q:Value->Shared->Prop}(hl:s.heap.IsList l vs.toArray)(hz:vs.length<=sizeLine)
 (hk: ∀h',(∀b o,s.heap.get? b=some o->h'.get? b=some o)->2<=vs.length->∃κ,(∀(Q:SortKind->Shared->Prop) E,Q κ {s with heap:=h'}->wpAny (model prog w) A.in1.in1 (keyKind' vs.toArray) Q E {s with heap:=h'})/\
  ∀i j (hi:i<vs.length) (hj:j<vs.length) (C:Bool->Shared->Prop),C (cmp i j) {s with heap:=h'}->wpAny (model prog w) A.in1.in1 (keyLt' κ vs[i] vs[j]) C (fun _ _=>False) {s with heap:=h'})
 (h: ∀h' D e1,(∀b o,s.heap.get? b=some o->h'.get? b=some o)->s.heap.objs.size<=D->h'.get? D=some (seqObj "list" ((perm vs.length cmp).map fun i=>vs.getD i Value.none).toArray e1)->Q (.ref D) {s with heap:=h'}):
 wpAny (model prog w) A (call (.builtin "sorted") [.ref l]) Q E s:=by
 refine Calls.call_function_entry kind_sorted plain_sorted entry_sorted (args_sorted1 _) ?_
 unfold Builtin.«sorted»
 refine wpAny_bind (m:=checkCount "sorted" 1 1 _) (wpAny_pure ?_)
 refine wpAny_bind (collect_list hl ?_ hz)
 refine wpAny_bind (wpAny_newList ?_ hz)
 have hsz:((s.heap.push (seqObj "list" #[] 0)).update s.heap.objs.size (Obj.mapSeq (· ++vs.toArray))).objs.size=s.heap.objs.size+1:=by
  rw[Heap.size_update,size_push']
 have hoL:(((s.heap.push (seqObj "list" #[] 0)).update s.heap.objs.size (Obj.mapSeq (· ++vs.toArray))).push (seqObj "list" vs.toArray 0)).get? (s.heap.objs.size+1)=some (seqObj "list" vs.toArray 0):=by
  rw[<-hsz];exact Heap.get?_push_size _ rfl
 have keep: ∀b o,s.heap.get? b=some o->(((s.heap.push (seqObj "list" #[] 0)).update s.heap.objs.size (Obj.mapSeq (· ++vs.toArray))).push (seqObj "list" vs.toArray 0)).get? b=some o:=fun b o q=>by
  have hlt:b<s.heap.objs.size:=Heap.lt_size q
  rw[Heap.get?_push_ne _ _ _ (by rw[hsz];exact Nat.ne_of_lt (Nat.lt_succ_of_lt hlt)),Heap.get?_update_ne _ _ _ _ (Nat.ne_of_lt hlt),Heap.get?_push_ne _ _ _ (Nat.ne_of_lt hlt)]
  exact q
 show wpAny _ _ _ _ _ {s with heap:=((s.heap.push (seqObj "list" #[] 0)).update s.heap.objs.size (Obj.mapSeq (· ++vs.toArray))).push (seqObj "list" vs.toArray 0)}
 rw[hsz]
 have ne: ∀{b o},s.heap.get? b=some o->b≠s.heap.objs.size+1:=fun q=>Nat.ne_of_lt (Nat.lt_succ_of_lt (Heap.lt_size q))
 refine wpAny_bind (wpAny_holding (wpAny_call_entry slot_list_sort ⟨_,hoL,rfl⟩ entry_list_sort ?body (args_list_sort _)))
 case body=>
  refine z3A (s:={s with heap:=((s.heap.push (seqObj "list" #[] 0)).update s.heap.objs.size (Obj.mapSeq (· ++vs.toArray))).push (seqObj "list" vs.toArray 0)}) (cmp:=cmp) hoL hz (fun h' kp h2=> ?_) fun h' e1 kp hD=> ?_
  ·exact hk h' (fun b o q=>kp b o (ne q) (keep b o q)) h2
  ·exact⟨_,rfl,wpAny_pure ⟨_,rfl,h h' _ e1 (fun b o q=>kp b o (ne q) (keep b o q)) (Nat.le_succ _) hD⟩⟩
end
end So
set_option maxHeartbeats 4000000
namespace L2
open PySem PySem.Spec PyProof.Rows
mutual
noncomputable def Dp(K:W.Frag)(H:Hp):PyData->V->Prop
 | .none,v=>v= .non
 | .bool b,v=>v= .bl b
 | .int i,v=>v= .int i
 | .str x,v=>v= .str x
 | .list ds,v=> ∃a xs,v= .ref a/\SqL K H a xs/\DpAll K H ds xs
 | .tuple ds,v=> ∃a xs,v= .ref a/\SqT K H a xs/\DpAll K H ds xs
 | .dict _,_=>False
noncomputable def DpAll(K:W.Frag)(H:Hp):List PyData->List V->Prop
 |[],xs=>xs=[]
 |d::ds,xs=> ∃x r,xs=x::r/\Dp K H d x/\DpAll K H ds r
end
section
variable{X:Cx}{pins:List (Addr×Obj)}{σ:St}{H:Hp}{s:Shared}
mutual
theorem Dp.reads(I:Inv X pins σ H s): ∀(d:PyData) (v:V) (u:Value),Dp X.K H d v->RelV v u->∃as,Reads s.heap u d as
 | .none,v,u,h,r=>by
  simp only[Dp] at h;subst h;cases r;exact⟨_, .none⟩
 | .bool b,v,u,h,r=>by
  simp only[Dp] at h;subst h;cases r;exact⟨_, .bool b⟩
 | .int i,v,u,h,r=>by
  simp only[Dp] at h;subst h;obtain⟨t,rfl⟩:=r;exact⟨_, .int i t⟩
 | .str x,v,u,h,r=>by
  simp only[Dp] at h;subst h;obtain⟨t,rfl⟩:=r;exact⟨_, .str x t⟩
 | .list ds,v,u,h,r=>by
  simp only[Dp] at h
  obtain⟨a,xs,rfl,hs,hd⟩:=h
  cases r
  obtain⟨its,rv,⟨o,n,e,c,_,dd⟩,_⟩:=I.list hs
  obtain⟨as,ra⟩:=DpAll.reads I ds xs its hd rv
  exact⟨_, .list e c dd (by simpa using ra)⟩
 | .tuple ds,v,u,h,r=>by
  simp only[Dp] at h
  obtain⟨a,xs,rfl,hs,hd⟩:=h
  cases r
  obtain⟨its,rv,⟨o,e,c,n,dd⟩,_⟩:=I.tuple hs
  obtain⟨as,ra⟩:=DpAll.reads I ds xs its hd rv
  exact⟨_, .tuple e c dd (by simpa using ra)⟩
 | .dict _,v,u,h,r=>by
  simp only[Dp] at h
theorem DpAll.reads(I:Inv X pins σ H s): ∀(ds:List PyData) (vs:List V) (us:List Value),DpAll X.K H ds vs->Vals vs us->∃as,ReadsAll s.heap us ds as
 |[],vs,us,h,r=>by
  simp only[DpAll] at h;subst h
  cases r
  exact⟨_, .nil⟩
 |d::ds,vs,us,h,r=>by
  simp only[DpAll] at h
  obtain⟨x,q,rfl,h1,h2⟩:=h
  cases r with
  |cons r1 r2=>
   obtain⟨as,ra⟩:=Dp.reads I d _ _ h1 r1
   obtain⟨bs,rb⟩:=DpAll.reads I ds _ _ h2 r2
   exact⟨_, .cons ra rb⟩
end
noncomputable def rEqD(K:W.Frag)(neg:Bool):R2:=fun x y H Q=> ∃d e,Dp K H d x/\Dp K H e y/\d.canLay0=true/\e.canLay0=true/\min d.depth e.depth<=60/\
 Q (.bl (if neg then !PyData.eqv d e else PyData.eqv d e)) H
theorem zbS(hu:X.A.units+64<cLine):OpR X (compareOp .Eq) (rEqD X.K false):=by
 intro pins s σ H x y v u Q I rx ry h
 obtain⟨d,e,hx,hy,c1,c2,hd,q⟩:=h
 obtain⟨as,ra⟩:=hx.reads I _ _ _ rx
 obtain⟨bs,rb⟩:=hy.reads I _ _ _ ry
 exact SeqAt.compareEq_reads ra rb c1 c2 (by lia) ⟨.bl _,H,I,rfl,q⟩
theorem zbT(hu:X.A.units+64<cLine):OpR X (compareOp .NotEq) (rEqD X.K true):=by
 intro pins s σ H x y v u Q I rx ry h
 obtain⟨d,e,hx,hy,c1,c2,hd,q⟩:=h
 obtain⟨as,ra⟩:=hx.reads I _ _ _ rx
 obtain⟨bs,rb⟩:=hy.reads I _ _ _ ry
 exact SeqAt.compareNe_reads ra rb c1 c2 (by lia) ⟨.bl _,H,I,rfl,q⟩
noncomputable def isiV(K:W.Frag)(H:Hp)(T:String)(r:Bool):V->Prop
 | .non=>r=false
 | .bl _=>r=(T== "int" ||T== "bool")
 | .int _=>r=(T== "int")
 | .str _=>r=(T== "str")
 | .ref a=>(∃xs,SqT K H a xs/\r=(T== "tuple"))\/(∃xs,SqL K H a xs/\r=(T== "list"))
 |_=>False
noncomputable def rIsi(K:W.Frag):List V->Hp->VK->Prop:=fun xs H Q=> ∃x T r,xs=[x, .ty T]/\(T= "int" \/T= "bool" \/T= "tuple" \/T= "list" \/T= "str")/\isiV K H T r x/\Q (.bl r) H
theorem z8l:CallR X (.builtin "isinstance") (rIsi X.K):=by
 intro pins s σ H xs us Q I r h
 obtain⟨x,T,b,rfl,hT,hx,q⟩:=h
 obtain⟨u,u',rfl,ru,ru'⟩:=z9K r
 cases ru'
 have fin: ∀t,EP X pins σ Q (.bool b) {s with toks:=t}:=fun t=>⟨.bl b,H,I.tok t,rfl,q⟩
 have fin0:EP X pins σ Q (.bool b) s:=⟨.bl b,H,I,rfl,q⟩
 cases x with
 |non=>
  cases ru
  have hx:b=false:=hx
  subst hx
  rcases hT with rfl|rfl|rfl|rfl|rfl
  ·exact IsiPair.NoneType_int (fin _)
  ·exact IsiPair.NoneType_bool (fin _)
  ·exact IsiPair.NoneType_tuple (fin _)
  ·exact IsiPair.NoneType_list (fin _)
  ·exact IsiPair.NoneType_str (fin _)
 |bl k=>
  cases ru
  rcases hT with rfl|rfl|rfl|rfl|rfl
  ·have hx:b=true:=hx
   subst hx;exact IsiPair.bool_int fin0
  ·have hx:b=true:=hx
   subst hx;exact IsiPair.bool_bool fin0
  ·have hx:b=false:=hx
   subst hx;exact IsiPair.bool_tuple (fin _)
  ·have hx:b=false:=hx
   subst hx;exact IsiPair.bool_list (fin _)
  ·have hx:b=false:=hx
   subst hx;exact IsiPair.bool_str (fin _)
 |int k=>
  obtain⟨t,rfl⟩:=ru
  rcases hT with rfl|rfl|rfl|rfl|rfl
  ·have hx:b=true:=hx
   subst hx;exact IsiPair.int_int fin0
  ·have hx:b=false:=hx
   subst hx;exact IsiPair.int_bool (fin _)
  ·have hx:b=false:=hx
   subst hx;exact IsiPair.int_tuple (fin _)
  ·have hx:b=false:=hx
   subst hx;exact IsiPair.int_list (fin _)
  ·have hx:b=false:=hx
   subst hx;exact IsiPair.int_str (fin _)
 |str k=>
  obtain⟨t,rfl⟩:=ru
  rcases hT with rfl|rfl|rfl|rfl|rfl
  ·have hx:b=false:=hx
   subst hx;exact IsiPair.str_int (fin _)
  ·have hx:b=false:=hx
   subst hx;exact IsiPair.str_bool (fin _)
  ·have hx:b=false:=hx
   subst hx;exact IsiPair.str_tuple (fin _)
  ·have hx:b=false:=hx
   subst hx;exact IsiPair.str_list (fin _)
  ·have hx:b=true:=hx
   subst hx;exact IsiPair.str_str fin0
 |ref a=>
  cases ru
  rcases hx with⟨ys,hs,hb⟩|⟨ys,hs,hb⟩
  ·obtain⟨its,rv,⟨o,e,c,n,dd⟩,_⟩:=I.tuple hs
   rcases hT with rfl|rfl|rfl|rfl|rfl
   ·have hx:b=false:=hb
    subst hx;exact IsiPair.tuple_int e c (fin _)
   ·have hx:b=false:=hb
    subst hx;exact IsiPair.tuple_bool e c (fin _)
   ·have hx:b=true:=hb
    subst hx;exact IsiPair.tuple_tuple e c fin0
   ·have hx:b=false:=hb
    subst hx;exact IsiPair.tuple_list e c (fin _)
   ·have hx:b=false:=hb
    subst hx;exact IsiPair.tuple_str e c (fin _)
  ·obtain⟨its,rv,⟨o,n,e,c,_,dd⟩,_⟩:=I.list hs
   rcases hT with rfl|rfl|rfl|rfl|rfl
   ·have hx:b=false:=hb
    subst hx;exact IsiPair.list_int e c (fin _)
   ·have hx:b=false:=hb
    subst hx;exact IsiPair.list_bool e c (fin _)
   ·have hx:b=false:=hb
    subst hx;exact IsiPair.list_tuple e c (fin _)
   ·have hx:b=true:=hb
    subst hx;exact IsiPair.list_list e c fin0
   ·have hx:b=false:=hb
    subst hx;exact IsiPair.list_str e c (fin _)
 |byt _=>exact hx.elim
 |flt _=>exact hx.elim
 |ty _=>exact hx.elim
theorem z2v: ∀{bs:List Bool} {us:List Value},Vals (bs.map V.bl) us->LSm.BoolsAre us bs
 |[],_, .nil=> .nil
 |b::bs,_, .cons r t=>by
  cases r
  exact .cons b (z2v t)
theorem z6Z(hc:X.A.handled=none):CallR X (.builtin "all") (fun xs H Q=> ∃(p:Addr) (bs:List Bool),xs=[.ref p]/\SqL X.K H p (bs.map V.bl)/\Q (.bl (bs.all id)) H):=by
 intro pins s σ H xs us Q I r h
 obtain⟨p,bs,rfl,hs,q⟩:=h
 obtain⟨u,rfl,ru⟩:=z44 r
 cases ru
 obtain⟨its,rv,pl,_⟩:=I.list hs
 have hb:=z2v rv
 have hl:=pl.isList
 have hlt:p<s.heap.objs.size:=by obtain⟨_,e,_⟩:=hl;exact Heap.lt_size e
 refine call_all_walk (wpAny_pyIter_list hl ?_)
 refine⟨s.heap.objs.size,[s.heap.objs.size,p],[s.heap.objs.size],its.toArray.size,_,_,fun i=>(bs[i]?).getD true,rfl,Walks.list (A:=X.A.in1) hc _ p (Nat.ne_of_lt hlt) its.toArray,
  ⟨⟨_,Heap.get?_push_size _ rfl,rfl,rfl⟩,hl.push _⟩,fun i v s' Q' E' hP hQ=> ?_,fun h' tk hk=> ?_⟩
 ·obtain⟨b,e,rfl⟩:=hb.get i v (by simpa using hP)
  simp only[e,Option.getD_some] at hQ
  exact wpAny_truthy_bool hQ
 ·have e:((List.range its.toArray.size).all fun i=>(bs[i]?).getD true)=bs.all id:=by
   rw[List.size_toArray,hb.length];exact LSm.range_all bs
  rw[e]
  exact⟨.bl _,H,I.kept (LSm.kept_iter hk),rfl,q⟩
end
end L2
namespace HT
open PySem PyProof.Rows
section
variable{prog:Program}{w:World}{A:Around}{E:Value->Shared->Prop}{s:Shared}
theorem getItem_tuple_whole{t sl:Addr}{items:Array Value}{vl vu:Value}{lo hi:Option Int}{Q:Value->Shared->Prop}(ht:IsTup s.heap t items)(hs:s.heap.IsSliceOf sl vl vu .none)(pl:IsPart vl lo)(pu:IsPart vu hi)
 (hw:sIx items.size 0 lo=0/\sIx items.size items.size hi=items.size) (h:Q (.ref t) s):wpAny (model prog w) A (getItem (.ref t) (.ref sl)) Q E s:=by
 obtain⟨os,hos,hcs,hds⟩:=id hs
 have hTs:s.TypeIs (.ref sl) "slice" :=⟨os,hos,hcs⟩
 unfold getItem
 try with_reducible refine wpAny_holding ?_
 first|refine wpAny_bind (wpAny_pure ?_)|skip
 refine wpAny_bind (wpAny_sequenceKey ht.typeIs (by decide) ?_)
 refine wpAny_bind (wpAny_callSpecial?_slot (name:=Str.ofString "__getitem__") ht.typeIs PyProof.Rows.slot_tuple_getitem
  (wpAny_call_entry PyProof.Rows.slot_tuple_getitem ht.typeIs entry_tuple_getitem ?_ (args_tuple_getitem _ _)))
 show wpAny _ _ (Builtin.Tuple.tupleItemsOf (.ref t)>>=_) _ _ s
 refine wpAny_bind (tupleItemsOf_ ht ?_)
 refine wpAny_bind (wpAny_typeOf hTs ?_)
 rw[if_pos (by decide)]
 refine wpAny_bind (z1i hs pl pu ?_)
 have hyes:((((sIx items.size 0 lo:Nat):Int)==0&&(1:Int)==1&&(sIx items.size items.size hi -sIx items.size 0 lo)==items.size)=true):=by
  rw[hw.1,hw.2]
  simp
 show wpAny _ _ (if(((sIx items.size 0 lo:Nat):Int)==0&&(1:Int)==1&&(sIx items.size items.size hi -sIx items.size 0 lo)==items.size)=true then _ else _) _ _ s
 rw[if_pos hyes]
 obtain⟨o,ho,hc,n,hd⟩:=id ht
 have ex:Builtin.Tuple.tupleIsExact (.ref t)=(typeOf (.ref t)>>=fun T=>pure (T== .type "tuple")):=rfl
 refine wpAny_bind (m:=Builtin.Tuple.tupleIsExact (.ref t)) ?_
 rw[ex]
 refine wpAny_bind (wpAny_typeOf ht.typeIs (wpAny_pure ?_))
 rw[if_pos (by decide)]
 exact wpAny_bind (wpAny_rule (wpAny_pure ⟨_,rfl,wpAny_pure h⟩))
end
end HT
namespace L2
open PySem PySem.Spec PyProof.Rows
section
variable{X:Cx}
theorem z67{xs:List V}{lo hi:Option Int}(h:HT.sIx xs.length 0 lo=0/\HT.sIx xs.length xs.length hi=xs.length):cutV xs lo hi=xs:=by
 unfold cutV
 rw[h.1,h.2]
 simp
end
noncomputable def z1O(env:Env):List (Str×NameKind)->List (Str×Addr)->List (Str×Addr)
 |[],cs=>cs
 |(n,k)::r,cs=>z1O env r (if k== .free then(match env.cells.lookup n with|some a=>(n,a)::cs|none=>cs) else cs)
theorem z5y{env:Env}: ∀(names:List (Str×NameKind)) (cs:List (Str×Addr)),(∀y∈names,y.2= .free->∃a,env.cells.lookup y.1=some a)->
 (forIn names cs fun(x:Str×NameKind) (r:List (Str×Addr))=>if(x.2==NameKind.free)=true then cellOf env x.1>>=fun a=>pure (ForInStep.yield ((x.1,a)::r)) else pure (ForInStep.yield r))=(pure (z1O env names cs):Sem _)
 |[],cs,_=>rfl
 |(n,k)::r,cs,h=>by
  have ih:=fun cs=>z5y (env:=env) r cs fun y hy=>h y (List.mem_cons_of_mem _ hy)
  rw[List.forIn_cons]
  show((if(k==NameKind.free)=true then cellOf env n>>=fun a=>pure (ForInStep.yield ((n,a)::cs)) else pure (ForInStep.yield cs))>>=_)=pure (z1O env r (if k== .free then(match env.cells.lookup n with|some a=>(n,a)::cs|none=>cs) else cs))
  by_cases hk:(k==NameKind.free)=true
  ·obtain⟨a,e⟩:=h (n,k) List.mem_cons_self (by simpa using hk)
   have e:env.cells.lookup n=some a:=e
   rw[if_pos hk,if_pos hk,e]
   have e2:cellOf env n=pure a:=by unfold cellOf;rw[e]
   rw[e2]
   exact ih _
  ·rw[if_neg hk,if_neg hk]
   exact ih _
theorem z3B{env:Env}{scope:Scope}(h: ∀y∈scope.names,y.2= .free->∃a,env.cells.lookup y.1=some a):closureFor scope env=pure (z1O env scope.names []):=by
 have e:=z5y (env:=env) scope.names [] h
 exact congrArg (fun(m:Sem (List (Str×Addr)))=>m>>=fun cs=>pure cs) e
theorem z3C{env:Env}{x:Str}{c:Addr}: ∀(names:List (Str×NameKind)) (cs:List (Str×Addr)),(z1O env names cs).lookup x=some c->
 cs.lookup x=some c\/(env.cells.lookup x=some c/\(x,NameKind.free)∈names)
 |[],cs,h=> .inl h
 |(n,k)::r,cs,h=>by
  rcases z3C r _ h with q|⟨q,m⟩
  ·by_cases hk:(k==NameKind.free)=true
   ·rw[if_pos hk] at q
    cases e:env.cells.lookup n with
    |none=>rw[e] at q;exact .inl q
    |some a=>
     rw[e] at q
     have q:((n,a)::cs).lookup x=some c:=q
     rw[List.lookup_cons] at q
     by_cases hx:(x==n)=true
     ·rw[hx] at q
      have q:some a=some c:=q
      cases q
      have hx:x=n:=eq_of_beq hx
      subst hx
      have hk:k= .free:=eq_of_beq hk
      subst hk
      exact .inr ⟨e,List.mem_cons_self⟩
     ·have hx:(x==n)=false:=by simpa using hx
      rw[hx] at q
      exact .inl q
   ·rw[if_neg hk] at q
    exact .inl q
  ·exact .inr ⟨q,List.mem_cons_of_mem _ m⟩
theorem z2w{env:Env}{x:Str}: ∀(names:List (Str×NameKind)) (cs:List (Str×Addr)),(((∃c,cs.lookup x=some c))\/((x,NameKind.free)∈names/\∃c,env.cells.lookup x=some c))->
 ∃c,(z1O env names cs).lookup x=some c
 |[],cs,h=>by
  rcases h with h|⟨m,_⟩
  ·exact h
  ·cases m
 |(n,k)::r,cs,h=>by
  refine z2w r _ ?_
  rcases h with⟨c,hc⟩|⟨m,c,hc⟩
  ·left
   by_cases hk:(k==NameKind.free)=true
   ·rw[if_pos hk]
    cases e:env.cells.lookup n with
    |none=>exact⟨c,hc⟩
    |some a=>
     by_cases hx:(x==n)=true
     ·exact⟨a,by show((n,a)::cs).lookup x=some a;rw[List.lookup_cons,hx]⟩
     ·have hx:(x==n)=false:=by simpa using hx
      exact⟨c,by show((n,a)::cs).lookup x=some c;rw[List.lookup_cons,hx];exact hc⟩
   ·rw[if_neg hk]
    exact⟨c,hc⟩
  ·rcases List.mem_cons.mp m with e|m
   ·left
    cases e
    rw[if_pos (by decide),hc]
    exact⟨c,by show((x,c)::cs).lookup x=some c;rw[List.lookup_cons,beq_self_eq_true]⟩
   ·exact .inr ⟨m,c,hc⟩
theorem z0U{env:Env}: ∀{names:List (Str×NameKind)} {x:Str},names.lookup x=some .free->
 (names.map fun(n,k)=>if(k==NameKind.free&&env.scope.kind== .function&&env.kindOf n==some .cell) then(n,NameKind.cell) else(n,k)).lookup x=some .cell\/
 (names.map fun(n,k)=>if(k==NameKind.free&&env.scope.kind== .function&&env.kindOf n==some .cell) then(n,NameKind.cell) else(n,k)).lookup x=some .free
 |[],_,h=>by simp at h
 |(n,k)::r,x,h=>by
  have ih:= @z0U env r x
  rw[List.map_cons]
  show List.lookup x ((if(k==NameKind.free&&env.scope.kind== .function&&env.kindOf n==some .cell)=true then(n,NameKind.cell) else(n,k))::_)=_\/List.lookup x ((if(k==NameKind.free&&env.scope.kind== .function&&env.kindOf n==some .cell)=true then(n,NameKind.cell) else(n,k))::_)=_
  cases hx:x==n with
  |true=>
   simp only[List.lookup_cons,hx] at h
   cases h
   by_cases hc:(NameKind.free==NameKind.free&&env.scope.kind== .function&&env.kindOf n==some .cell)=true
   ·rw[if_pos hc];left;simp only[List.lookup_cons,hx]
   ·rw[if_neg hc];right;simp only[List.lookup_cons,hx]
  |false=>
   simp only[List.lookup_cons,hx] at h
   by_cases hc:(k==NameKind.free&&env.scope.kind== .function&&env.kindOf n==some .cell)=true
   ·rw[if_pos hc];simp only[List.lookup_cons,hx];exact ih h
   ·rw[if_neg hc];simp only[List.lookup_cons,hx];exact ih h
theorem z16{env:Env}: ∀{names:List (Str×NameKind)} {x:Str},((names.map fun(n,k)=>if(k==NameKind.free&&env.scope.kind== .function&&env.kindOf n==some .cell) then(n,NameKind.cell) else(n,k)).lookup x=some .cell\/
 (names.map fun(n,k)=>if(k==NameKind.free&&env.scope.kind== .function&&env.kindOf n==some .cell) then(n,NameKind.cell) else(n,k)).lookup x=some .free)->names.lookup x=some .free\/names.lookup x=some .cell
 |[],_,h=>by simp at h
 |(n,k)::r,x,h=>by
  have ih:= @z16 env r x
  rw[List.map_cons] at h
  have h:List.lookup x ((if(k==NameKind.free&&env.scope.kind== .function&&env.kindOf n==some .cell)=true then(n,NameKind.cell) else(n,k))::_)=_\/List.lookup x ((if(k==NameKind.free&&env.scope.kind== .function&&env.kindOf n==some .cell)=true then(n,NameKind.cell) else(n,k))::_)=_:=h
  cases hx:x==n with
  |true=>
   simp only[List.lookup_cons,hx]
   by_cases hc:(k==NameKind.free&&env.scope.kind== .function&&env.kindOf n==some .cell)=true
   ·have:k= .free:=by
     simp only[Bool.and_eq_true,beq_iff_eq] at hc
     exact hc.1.1
    subst this
    exact .inl rfl
   ·rw[if_neg hc] at h
    simp only[List.lookup_cons,hx] at h
    exact h.symm
  |false=>
   simp only[List.lookup_cons,hx]
   refine ih ?_
   by_cases hc:(k==NameKind.free&&env.scope.kind== .function&&env.kindOf n==some .cell)=true
   ·rw[if_pos hc] at h;simp only[List.lookup_cons,hx] at h;exact h
   ·rw[if_neg hc] at h;simp only[List.lookup_cons,hx] at h;exact h
structure z0G(osc sc:Scope)(own frees N:List Str)(ix:List Nat):Prop where
 kind:sc.kind= .function
 nocell: ∀y∈sc.names,y.2≠ .cell
 names: ∀y∈sc.names,y.2= .local->sc.names.lookup y.1=some .local
 fr: ∀y∈sc.names,y.2= .free->osc.names.lookup y.1=some .cell\/osc.names.lookup y.1=some .free
 nd:(own++frees).Nodup
 frl: ∀x∈frees,sc.names.lookup x=some .free
 ixs:ix.map (fun i=>N[i]?)=frees.map some
noncomputable def z0r(X:Cx)(scope:Scope)(own frees:List Str)(cl:List (Str×Addr))(C:Addr)(s₀:Shared)(H₀:Hp)(fp:List Addr)(pn:List (Addr×Obj)):Cx:=
 {X with N:=own++frees,s₀:=s₀,H₀:=H₀,env:=compEnvC scope cl C X.env,outer:=X.stack,stack:=X.stack,ex:=fp,fn:=fun _=>false,pn:=pn,xe:=fun _ _=>False}
noncomputable def z1P(k:Nat)(ix:List Nat)(σ:St):St:=List.replicate k none++ix.map fun i=>(σ[i]?).getD none
section
variable{X:Cx}{tg iter elt:Expr}{pos:Pos}{scope:Scope}{own frees:List Str}{ix:List Nat}{wi:TI}{g:TG}{te:TE}
theorem z68(k:Nat)(ix:List Nat)(σ:St):(z1P k ix σ).length=k+ix.length:=by
 unfold z1P
 simp
theorem z69{pins:List (Addr×Obj)}{σ:St}{H:Hp}{s s1:Shared}{fp:List Addr}(S:z0G X.env.scope scope own frees X.N ix)(I:Inv X pins σ H s)(hf: ∀b∈fp,FpOk X pins H b)(hb: ∀b∈fp,b<s.heap.objs.size)
 (ho:s1.os=s.os) (hg:s1.gens=s.gens) (hk: ∀b o,s.heap.get? b=some o->s1.heap.get? b=some o) (hn:s1.heap.Ns s.heap.objs.size (fun _=>none)):
 Inv (z0r X scope own frees (z1O X.env scope.names []) s.heap.objs.size s H fp (X.pn++pins)) [] (z1P own.length ix σ) H s1:=by
 have clos: ∀x c,(z1O X.env scope.names []).lookup x=some c->X.env.cells.lookup x=some c/\(x,NameKind.free)∈scope.names:=fun x c h=>by
  rcases z3C _ _ h with q|q
  ·exact nomatch q
  ·exact q
 have hlen:ix.length=frees.length:=by
  have:=congrArg List.length S.ixs
  simpa using this
 have cne: ∀x c,X.env.cells.lookup x=some c->c<s.heap.objs.size:=fun x c e=>by
  obtain⟨v,o,q,_⟩:=I.cell x c e
  exact Heap.lt_size q
 refine⟨⟨I.ok.mod,S.kind,I.ok.glob,I.ok.blt,Nat.le_refl _,fun x y c h1 h2=>I.ok.inj x y c (clos x c h1).1 (clos y c h2).1,fun x hx=> ?_,fun x c z=>Bool.noConfusion z,I.ok.hd,I.ok.frames, .inl rfl,fun b z=>⟨Nat.ne_of_lt (hb b z),fun x c e=>(hf b z).2.2.2.2.1 x c (clos x c e).1⟩,I.bs,
  Nat.le_trans I.ok.bsz I.sz,fun b o e z=> ?_,fun b z=> ?_,I.stack,I.stkFree⟩,ho, ?_,Un.kept hk,⟨_,hn,fun i x v h1 h2 h3=> ?_⟩,fun x c e=> ?_,I.fresh,fun x c e=>I.freeC x c (clos x c e).1,fun p hp=> ?_,I.hok.kept hk, ?_⟩
 ·have hx:(relabel scope X.env).names.lookup x=some .cell\/(relabel scope X.env).names.lookup x=some .free:=hx
  rcases z16 hx with q|q
  ·have m:(x,NameKind.free)∈scope.names:=PySem.mem_of_lookup q
   obtain⟨c,hc⟩:=I.ok.has x (S.fr _ m rfl)
   exact z2w _ _ (.inr ⟨m,c,hc⟩)
  ·exact absurd rfl (S.nocell _ (PySem.mem_of_lookup q))
 ·rcases(hf b z).2.2.2.1 with q|q
  ·exact I.ok.noex b o e q
  ·exact absurd (Heap.lt_size (I.ok.bs b o e).1) (Nat.not_lt.mpr q)
 ·intro q
  rcases List.mem_cons.mp (I.stkSub b q) with r|r
  ·exact(hf b z).2.1 r
  ·exact(hf b z).2.2.1 r
 ·rw[hg];exact I.bare
 ·have h2:(z1P own.length ix σ)[i]? =some (some v):=h2
  have h1:(own++frees)[i]? =some x:=h1
  unfold z1P at h2
  by_cases hi:i<own.length
  ·rw[List.getElem?_append_left (by simpa using hi),List.getElem?_replicate] at h2
   rw[if_pos hi] at h2
   cases h2
  ·have hi:own.length<=i:=Nat.not_lt.mp hi
   rw[List.getElem?_append_right (by simpa using hi),List.length_replicate,List.getElem?_map] at h2
   rw[List.getElem?_append_right hi] at h1
   cases e:ix[i -own.length]? with
   |none=>rw[e] at h2;cases h2
   |some j=>
    rw[e] at h2
    have h2:some ((σ[j]?).getD none)=some (some v):=h2
    have hσ:σ[j]? =some (some v):=by
     cases q:σ[j]? with
     |none=>rw[q] at h2;cases h2
     |some z=>rw[q] at h2;exact h2
    have hN:X.N[j]? =some x:=by
     have:=congrArg (fun l:List (Option Str)=>l[i -own.length]?) S.ixs
     simp only[List.getElem?_map,e,h1,Option.map_some] at this
     exact Option.some.inj this
    have mf:x∈frees:=List.mem_of_getElem? h1
    have lf:=S.frl x mf
    have m:(x,NameKind.free)∈scope.names:=PySem.mem_of_lookup lf
    have hos:=S.fr _ m rfl
    obtain⟨mm,hns,hl⟩:=I.loc
    obtain⟨u,ru,look⟩:=hl j x v hN hσ (hos.elim (fun q=> .inr (.inl q)) fun q=> .inr (.inr q))
    refine⟨u,ru, ?_⟩
    rcases look with⟨kk,_⟩|⟨kk,c,hc,ic⟩
    ·have kk:X.env.scope.names.lookup x=some .local:=kk
     have hos:X.env.scope.names.lookup x=some .cell\/X.env.scope.names.lookup x=some .free:=hos
     rw[kk] at hos
     rcases hos with q|q<;>cases q
    ·obtain⟨c',hc'⟩:=z2w (env:=X.env) scope.names [] (.inr ⟨m,c,hc⟩)
     have e2:=(clos x c' hc').1
     rw[hc] at e2
     cases e2
     refine .inr ⟨z0U lf,c,hc', ?_⟩
     obtain⟨o,q1,q2⟩:=ic
     exact⟨o,hk _ _ q1,q2⟩
 ·obtain⟨v,o,q1,q2⟩:=I.cell x c (clos x c e).1
  exact⟨v,o,hk _ _ q1,q2⟩
 ·have hp:p∈(X.pn++pins)++[]:=hp
  rw[List.append_nil] at hp
  obtain⟨e,n,ne,nf,d⟩:=I.pin p hp
  refine⟨hk _ _ e,n,Nat.ne_of_lt (Heap.lt_size e),fun q=> ?_,d⟩
  rcases List.mem_cons.mp (I.stkSub p.1 q) with r|r
  ·exact ne r
  ·exact nf r
 ·show(z1P own.length ix σ).length=(own++frees).length
  rw[z68,hlen,List.length_append]
theorem z8m{pins pins':List (Addr×Obj)}{σ σ':St}{H H':Hp}{s s':Shared}{h':Heap}{fp:List Addr}{cl:List (Str×Addr)}{C:Addr}(I:Inv X pins σ H s)(hf: ∀b∈fp,FpOk X pins H b)(hC:s.heap.objs.size<=C)
 (J:Inv (z0r X scope own frees cl C s H fp (X.pn++pins)) pins' σ' H' s') (hs:Heap.SameBut C s'.heap h'):Inv X pins σ H' {s' with heap:=h'}:=by
 have nC: ∀b,b<s.heap.objs.size->b≠C:=fun b q e=>by subst e;exact absurd q (Nat.not_lt.mpr hC)
 refine I.call' (ch:=fp) J.os ⟨fun b o e n hb hx=> ?_,fun b o e n hb hx=> ?_,J.base.free,fun b o e hx=> ?_,J.base.tups,J.base.frzs,J.base.tbls⟩ ?_ J.bare fun b z=>⟨(hf b z).2.2.2.1,(hf b z).2.1,(hf b z).2.2.2.2.1,(hf b z).2.2.2.2.2⟩
 ·exact(hs.2 b (nC b (Heap.lt_size e))).trans (J.base.keep b o e n hb hx)
 ·obtain⟨sl,q⟩:=J.base.slot b o e n hb hx
  exact⟨sl,(hs.2 b (nC b (Heap.lt_size e))).trans q⟩
 ·obtain⟨o',q⟩:=J.base.there b o e hx
  exact⟨o',(hs.2 b (nC b (Heap.lt_size e))).trans q⟩
 ·intro a o e
  refine(J.hok a o e).stay (fun b u hbu q=> ?_) (fun _ q=>q) fun _ _ q=>q
  refine(hs.2 b ?_).trans q
  intro eb
  subst eb
  have hfree:H' b=none:=J.free
  rcases hbu with rfl|z
  ·rw[e] at hfree;cases hfree
  ·rw[z] at hfree;cases hfree
end
end L2
namespace PySem
section
variable{prog:Program}{w:World}{A:Around}{E:Value->Shared->Prop}{s:Shared}
theorem z2x{d:Addr}{o:Obj}{es:Array DictEntry}{ep:Nat}{Q:Value->Shared->Prop}(hd:(d==sysModules)=false)(ho:s.heap.get? d=some o)(hc:o.ExactDict)(hdat:o.data= .dict es ep)
 (hQ:Q (.ref s.heap.objs.size) {s with heap:=s.heap.push {cls:= .type "dict_keyiterator",data:= .fields #[.ref d, .int 0 0, .int es.size 0, .int ep 0]}}):
 wpAny (model prog w) A (pyIter (.ref d)) Q E s:=by
 have hT:s.TypeIs (.ref d) "dict" :=⟨o,ho,hc.1⟩
 refine wpAny_pyIter_slot hT F.slot_dict_iter (wpAny_call_entry F.slot_dict_iter hT F.entry_dict_iter ?_ (F.args_dict_iter_1 _))
 unfold Builtin.«dict.__iter__»
 refine wpAny_bind ?_
 unfold Builtin.Dict.dictSlotNone
 refine wpAny_bind (wpAny_notOrdered_dict hT ?_)
 show wpAny _ _ (pure (Value.ref d)) _ _ s
 refine wpAny_pure ?_
 show wpAny _ _ (Builtin.Dict.showsAll d>>=_) _ _ s
 unfold Builtin.Dict.showsAll
 rw[if_neg (by rw[hd];exact Bool.false_ne_true)]
 refine wpAny_bind (wpAny_pure ?_)
 refine wpAny_bind (wpAny_dictEntries ho hdat ?_)
 refine wpAny_bind (wpAny_dictEpoch ho hdat ?_)
 refine wpAny_bind (wpAny_newObj_type (wpAny_pure ⟨_,rfl, "dict_keyiterator",_,⟨_,Heap.get?_push_size _ rfl,rfl⟩,F.slot_dict_keyiterator_next.lookup, ?_⟩))
 simpa[rawInt] using hQ
theorem z2y{it d:Addr}{i ep:Nat}{od:Obj}{es:Array DictEntry}{en:DictEntry}{Q:Option Value->Shared->Prop}(hit:s.heap.IsKeyIter it d i es.size ep)
 (hod:s.heap.get? d=some od) (hdd:od.data= .dict es ep) (hx:es[i]? =some en)
 (hQ: ∀h',h'.IsKeyIter it d (i+1) es.size ep->Heap.SameBut it s.heap h'->Q (some en.key) {s with heap:=h'}):
 wpAny (model prog w) A (pyNext (.ref it)) Q E s:=by
 obtain⟨o,ho,hc,hd⟩:=id hit
 unfold pyNext
 refine wpAny_bind (wpAny_attempt (wpAny_callSpecial?_slot (name:=Str.ofString "__next__") hit.typeIs F.slot_dict_keyiterator_next
  (wpAny_call_entry F.slot_dict_keyiterator_next hit.typeIs F.entry_dict_keyiterator_next ?_ (F.args_dict_keyiterator_next_1 _))))
 refine wpAny_bind (wpAny_pure ?_)
 refine wpAny_bind ?_
 refine wpAny_bind ?_
 first|refine wpAny_bind (wpAny_typeNameOfWhole_keyiter hit.typeIs (wpAny_pure ?_))|refine wpAny_bind (wpAny_typeNameOf_keyiter hit.typeIs (wpAny_pure ?_))
 refine wpAny_bind (wpAny_fieldsOf ho hd ?_)
 have hown:Builtin.Dict_items.ownsTuple "dict_keyiterator" =false:=by decide
 simp only[hown,Bool.false_eq_true,if_false]
 show wpAny _ _ (if(Value.ref d==Value.none)=true then _ else _) _ _ s
 rw[if_neg (show ¬((Value.ref d==Value.none)=true) from Bool.false_ne_true)]
 refine wpAny_bind (wpAny_pure ?_)
 refine wpAny_bind (wpAny_dictEntries hod hdd ?_)
 rw[if_neg (by simp)]
 refine wpAny_bind (wpAny_pure ?_)
 refine wpAny_bind (wpAny_dictEpoch hod hdd ?_)
 rw[if_neg (by simp)]
 refine wpAny_pure ?_
 have hlt':i<es.size:=by
  rcases Nat.lt_or_ge i es.size with h|h
  ·exact h
  ·simp[Array.getElem?_eq_none h] at hx
 have hkey:es[i]=en:=by
  rw[Array.getElem?_eq_getElem hlt'] at hx
  exact Option.some.inj hx
 simp only[show ¬((i:Int)<0) from by lia,if_false,Int.toNat_natCast,Array.getElem?_eq_getElem hlt']
 refine wpAny_bind ?_
 first|refine wpAny_bind (wpAny_typeNameOfWhole_keyiter hit.typeIs (wpAny_pure ?_))|refine wpAny_bind (wpAny_typeNameOf_keyiter hit.typeIs (wpAny_pure ?_))
 refine wpAny_bind (wpAny_isOneOf_keyiter hit.typeIs ?_)
 show wpAny _ _ (setField (.ref it) 1 (rawInt ((i:Int)+1))>>=_) _ _ s
 refine wpAny_bind (wpAny_setField ho hd (by simp) ?_)
 have hit':(s.heap.update it (Obj.mapFields (·.setIfInBounds 1 (rawInt ((i:Int)+1))))).IsKeyIter it d (i+1) es.size ep:=
  ⟨_,Heap.get?_update_self _ ho (Obj.isFreed_of_fields (Obj.data_mapFields hd _)),(Obj.cls_mapFields ..).trans hc,by rw[Obj.data_mapFields hd];simp[rawInt]⟩
 refine wpAny_bind (wpAny_holding ?_)
 refine wpAny_bind (wpAny_isOneOf_keyiter (s:={s with heap:=s.heap.update it (Obj.mapFields (·.setIfInBounds 1 (rawInt ((i:Int)+1))))}) hit'.typeIs ?_)
 show wpAny _ _ (pure es[i].key) _ _ _
 rw[hkey]
 exact wpAny_pure (wpAny_pure ⟨_,rfl,wpAny_pure (hQ _ hit' (Heap.SameBut.update ..))⟩)
theorem z39{it d:Addr}{i ep:Nat}{od:Obj}{es:Array DictEntry}{Q:Option Value->Shared->Prop}(hh:A.handled=none)(hit:s.heap.IsKeyIter it d i es.size ep)
 (hod:s.heap.get? d=some od) (hdd:od.data= .dict es ep) (hge:es.size<=i)
 (hQ: ∀h',Heap.ExtBut it s.heap h'->Q none {s with heap:=h'}):wpAny (model prog w) A (pyNext (.ref it)) Q E s:=by
 obtain⟨o,ho,hc,hd⟩:=id hit
 unfold pyNext
 refine wpAny_bind (wpAny_attempt (wpAny_callSpecial?_slot (name:=Str.ofString "__next__") hit.typeIs F.slot_dict_keyiterator_next
  (wpAny_call_entry F.slot_dict_keyiterator_next hit.typeIs F.entry_dict_keyiterator_next ?_ (F.args_dict_keyiterator_next_1 _))))
 refine wpAny_bind (wpAny_pure ?_)
 refine wpAny_bind ?_
 refine wpAny_bind ?_
 first|refine wpAny_bind (wpAny_typeNameOfWhole_keyiter hit.typeIs (wpAny_pure ?_))|refine wpAny_bind (wpAny_typeNameOf_keyiter hit.typeIs (wpAny_pure ?_))
 refine wpAny_bind (wpAny_fieldsOf ho hd ?_)
 have hown:Builtin.Dict_items.ownsTuple "dict_keyiterator" =false:=by decide
 simp only[hown,Bool.false_eq_true,if_false]
 show wpAny _ _ (if(Value.ref d==Value.none)=true then _ else _) _ _ s
 rw[if_neg (show ¬((Value.ref d==Value.none)=true) from Bool.false_ne_true)]
 refine wpAny_bind (wpAny_pure ?_)
 refine wpAny_bind (wpAny_dictEntries hod hdd ?_)
 rw[if_neg (by simp)]
 refine wpAny_bind (wpAny_pure ?_)
 refine wpAny_bind (wpAny_dictEpoch hod hdd ?_)
 rw[if_neg (by simp)]
 refine wpAny_pure ?_
 simp only[show ¬((i:Int)<0) from by lia,if_false,Int.toNat_natCast,Array.getElem?_eq_none hge]
 refine wpAny_bind ?_
 first|refine wpAny_bind (wpAny_typeNameOfWhole_keyiter hit.typeIs (wpAny_pure ?_))|refine wpAny_bind (wpAny_typeNameOf_keyiter hit.typeIs (wpAny_pure ?_))
 show wpAny _ _ (setField (.ref it) 0 .none>>=_) _ _ s
 refine wpAny_bind (wpAny_setField ho hd (by simp) ?_)
 show wpAny _ _ (newExc (.type "StopIteration") []>>=_) _ _ _
 refine wpAny_bind ?_
 simp only[newExc,newTuple]
 refine wpAny_bind (wpAny_newObj_type ?_ (by size_fits))
 refine wpAny_bind (m:=firstArgMember _ _) (wpAny_of_eq (a:=Value.none) (by first|rfl|(simp only[firstArgMember];rfl)) ?_)
 refine wpAny_newObj_type ?_ (by size_fits)
 simp only[raiseNew]
 refine wpAny_bind (wpAny_handled ?_)
 rw[show A.in1.handled=none from hh]
 refine wpAny_bind (wpAny_pure (wpAny_throw ?_))
 refine wpAny_bind (wpAny_isInstance (T:= "StopIteration") (b:=true) ⟨_,Heap.get?_push_size _ rfl,rfl⟩ isSubtype_stop ?_)
 exact wpAny_pure (hQ _ (((Heap.SameBut.update ..).extBut.push _).push _))
end
end PySem
namespace L2
open PySem PySem.Spec PyProof.Rows
noncomputable def ItD(a:Addr)(o:Obj)(kvs:List (NK×V)):It:=
 ⟨fun i H=>i<kvs.length/\H a=some (.frz o (.dT kvs)),fun i H x H'=>H'=H/\∃b k v,x= .ref b/\kvs[i]? =some (k,v)/\TK H k b,fun i H=>kvs.length<=i/\H a=some (.frz o (.dT kvs))⟩
theorem z99{P:Program}{w:World}{H:Hp}{h:Heap}{a:Addr}{o:Obj}{kvs:List (NK×V)}(ok:HOk P w H h)(e:H a=some (.frz o (.dT kvs))):
 h.get? a=some o/\(a==sysModules)=false/\o.ExactDict/\∃es ep,o.data= .dict es ep/\es.size=kvs.length/\
  ∀(i:Nat) (k:NK) (v:V),kvs[i]? =some (k,v)->∃en b,es[i]? =some en/\en.key= .ref b/\TK H k b:=by
 obtain⟨ho,z,y,xs,r,o',es,ep,e',c,d,l,nd⟩:=ok a _ e
 rw[ho] at e'
 cases e'
 have hl:kvs.length=xs.length:=Paired.length r
 have hs:es.size=xs.length:=size_of_entries l
 refine⟨ho,y,c,es,ep,d,by lia,fun i k v q=> ?_⟩
 have key: ∀{kvs:List (NK×V)} {xs:List (NK×Addr×Value)},Paired (fun(p:NK×V) (q:NK×Addr×Value)=>p.1=q.1/\TK H p.1 q.2.1/\RelV p.2 q.2.2) kvs xs->
  ∀(i:Nat),kvs[i]? =some (k,v)->∃b u,xs[i]? =some (k,b,u)/\TK H k b:=by
  intro kvs xs r
  induction r with
  |nil=>intro i q;simp at q
  | @cons p x l1 l2 h1 h2 ih=>
   intro i q
   cases i with
   |zero=>
    simp only[List.getElem?_cons_zero,Option.some.injEq] at q
    subst q
    obtain⟨e1,e2,_⟩:=h1
    obtain⟨x1,x2,x3⟩:=x
    have e1:k=x1:=e1
    subst e1
    exact⟨x2,x3,rfl,e2⟩
   |succ j=>
    simp only[List.getElem?_cons_succ] at q
    obtain⟨b,u,q1,q2⟩:=ih j q
    exact⟨b,u,by simpa using q1,q2⟩
 obtain⟨b,u,q1,q2⟩:=key r i q
 have hi:=entry_at l i
 rw[q1] at hi
 exact⟨_,b,hi,rfl,q2⟩
theorem z70{P:Program}{w:World}{K:W.Frag}{tg:Expr}(a it:Addr)(o:Obj)(es:Array DictEntry)(ep:Nat)(hd:o.data= .dict es ep)(kvs:List (NK×V)):
 Turn P w K tg (ItD a o kvs) [it] it (fun i h=>h.IsKeyIter it a i es.size ep) where
 mem:=by simp
 obj:=fun i h st b hb=>by
  have e:b=it:=by simpa using hb
  subst e
  obtain⟨o,e,c,d⟩:=st
  exact⟨o,e,fun v z=>by rw[d] at z;cases z⟩
 keep:=fun i h h' st k=>st.at fun o e=>k it (by simp) o e
 item:=by
  intro X hP hw hK hc i pins s σ H E I hf st hg
  subst hP hw hK
  obtain⟨hi,hq⟩:=hg
  obtain⟨ho,_,_,es',ep',hd',hsz,hat⟩:=z99 I.hok hq
  rw[hd] at hd'
  cases hd'
  obtain⟨f0,f1,f2,f3,f4,f5⟩:=hf it (by simp)
  obtain⟨⟨k,v⟩,hk⟩: ∃p,kvs[i]? =some p:=⟨kvs[i],by simp[hi]⟩
  obtain⟨en,b,he,hb,hB⟩:=hat i k v hk
  refine z2y st ho hd he fun h' st' sb=> ?_
  have I1:Inv X pins σ H {s with heap:=h'}:=I.turned (t':=s.toks) (fun b o hb e=>(sb.2 b hb).trans e) f0 f1 f3 f4 f5
  obtain⟨o2,e2,c2,d2⟩:=id st'
  exact⟨_,rfl,z87 (s:={s with heap:=h'}) e2 c2 d2 (by decide) ⟨.ref b,H,I1,hb,⟨rfl,b,k,v,rfl,hk,hB⟩,st',fun b hb=>(hf b hb).1⟩⟩
 done:=by
  intro X hP hw hK hc i pins s σ H E I hf st hg
  subst hP hw hK
  obtain⟨hi,hq⟩:=hg
  obtain⟨ho,_,_,es',ep',hd',hsz,hat⟩:=z99 I.hok hq
  rw[hd] at hd'
  cases hd'
  obtain⟨f0,f1,f2,f3,f4,f5⟩:=hf it (by simp)
  exact z39 (I.ok.hd hc) st ho hd (by lia) fun h' eb=>⟨rfl,I.turned (t':=s.toks) (fun b o hb e=>eb b o hb e) f0 f1 f3 f4 f5⟩
 self:=fun _ _ _ _ _ st h=>wpAny_pyIter_keyiter st h
section
variable{X:Cx}{tg:Expr}
theorem Inv.freeze{pins:List (Addr×Obj)}{σ:St}{H:Hp}{s:Shared}{a:Addr}{kvs:List (NK×V)}(I:Inv X pins σ H s)(h:H a=some (.dT kvs)):
 ∃o es ep,s.heap.get? a=some o/\o.ExactDict/\o.data= .dict es ep/\(a==sysModules)=false/\es.size=kvs.length/\Inv X pins σ (upd H a (.frz o (.dT kvs))) s:=by
 obtain⟨z,y,xs,r,o,es,ep,e,c,d,l,nd⟩:=I.hok a _ h
 have hs:es.size=xs.length:=size_of_entries l
 have hl:kvs.length=xs.length:=Paired.length r
 refine⟨o,es,ep,e,c,d,y,by lia, ?_⟩
 have tn: ∀b xs,H b=some (.tup xs)->(upd H a (.frz o (.dT kvs))) b=some (.tup xs):=fun b xs q=>by
  rw[z02 (z2f q h (by intro z;cases z))];exact q
 have hw:=I.write (x:=a) (e:=a) (o:= .frz o (.dT kvs)) (h':=s.heap) (t':=s.toks) (by rw[h];trivial) (.inl rfl) (fun b u _ q=>q) ⟨o,e⟩
  ⟨e,z,y,xs,Paired.mapP r fun p q z=>⟨z.1,z.2.1.stay tn,z.2.2⟩,o,es,ep,e,c,d,l,nd⟩
 exact hw
noncomputable def zbU(td:TE):TI:=fun σ H R=>td σ H fun x H1=> ∃a kvs,x= .ref a/\H1 a=some (.dT kvs)/\∀o,R (ItD a o kvs) (upd H1 a (.frz o (.dT kvs)))
theorem za1{l:Expr}{tl:TE}(hl:PE X l tl):PI X tg l (zbU tl):=by
 intro pins s σ H R I h
 refine thn (hl pins s σ H _ I h) fun v s1 ⟨x,H1,I1,r1,a,kvs,e,ha,q⟩=> ?_
 subst e
 cases r1
 obtain⟨o,es,ep,ho,hc,hd,hy,hsz,I2⟩:=I1.freeze ha
 refine z2x hy ho hc hd ?_
 have I3:Inv X pins σ (upd H1 a (.frz o (.dT kvs))) {s1 with heap:=s1.heap.push {cls:= .type "dict_keyiterator",data:= .fields #[.ref a, .int 0 0, .int es.size 0, .int ep 0]}}:=
  I2.kept (t':=s1.toks) fun b u q=>Heap.get?_push_of_some _ q
 refine⟨s1.heap.objs.size,[s1.heap.objs.size],_,ItD a o kvs,_,rfl,I3,z70 a _ o es ep hd kvs,⟨_,Heap.get?_push_size _ rfl,rfl,rfl⟩,fun b hb=> ?_,q o⟩
 have e:b=s1.heap.objs.size:=by simpa using hb
 subst e
 exact I2.fpOk (Nat.le_refl _) I2.fresh
end
noncomputable def z1C(osc sc:Scope)(own frees N:List Str)(ix:List Nat):Bool:=
 decide (sc.kind= .function)&&sc.names.all (fun y=>decide (y.2≠ .cell))&&sc.names.all (fun y=>decide (y.2= .local->sc.names.lookup y.1=some .local))&&
  sc.names.all (fun y=>decide (y.2= .free->osc.names.lookup y.1=some .cell\/osc.names.lookup y.1=some .free))&&decide (own++frees).Nodup&&frees.all (fun x=>decide (sc.names.lookup x=some .free))&&
  decide (ix.map (fun i=>N[i]?)=frees.map some)
theorem z1C.sc{osc sc:Scope}{own frees N:List Str}{ix:List Nat}(h:z1C osc sc own frees N ix=true):z0G osc sc own frees N ix:=by
 unfold z1C at h
 simp only[Bool.and_eq_true,List.all_eq_true,decide_eq_true_eq] at h
 obtain⟨⟨⟨⟨⟨⟨h1,h2⟩,h3⟩,h4⟩,h5⟩,h6⟩,h7⟩:=h
 exact⟨h1,h2,h3,h4,h5,h6,h7⟩
theorem Same.new{H:Hp}{p:Addr}(o:HO)(h:H p=none):Same H (upd H p o):=fun x u e=>by rw[z02 (z0w e h)];exact e
noncomputable def dT(ns:List Int):PyData:= .tuple (ns.map PyData.int)
theorem Paired.get{α β:Type}{F:α->β->Prop}: ∀{l₁:List α} {l₂:List β},Paired F l₁ l₂->∀(i:Nat) (a:α),l₁[i]? =some a->∃b,l₂[i]? =some b/\F a b
 |_,_, .nil,i,a,e=>by simp at e
 |_,_, .cons r t,0,a,e=>by simp at e;subst e;exact⟨_,rfl,r⟩
 |_,_, .cons r t,i+1,a,e=>by
  obtain⟨b,h1,h2⟩:=Paired.get t i a (by simpa using e)
  exact⟨b,by simpa using h1,h2⟩
theorem Paired.snoc{α β:Type}{F:α->β->Prop}: ∀{l₁:List α} {l₂:List β} {a:α} {b:β},Paired F l₁ l₂->F a b->Paired F (l₁++[a]) (l₂++[b])
 |_,_,_,_, .nil,h=> .cons h .nil
 |_,_,_,_, .cons r t,h=> .cons r (Paired.snoc t h)
section
variable{X:Cx}{e st:Expr}{te:TE}{p2 pos:Pos}
noncomputable def tRev(K:W.Frag)(te:TE):TE:=fun σ H Q=>te σ H fun x H1=> ∃a xs,x= .ref a/\SqL K H1 a xs/\∀p,H1 p=none->Q (.ref p) (upd H1 p (.lst xs.reverse))
theorem zbV(hst:PO X (some st) (z8c (tUn (rU fun i=>V.int (-i)) (tC (.int 1)))))(he:PE X e te):PE X (.Subscript e (.Slice none none (some st) p2) pos) (tRev X.K te):=by
 intro pins s σ H Q I h
 refine Subscript_ (thn (he pins s σ H _ I h) fun v s1 ⟨x,H1,I1,r1,a,xs,ex,hx,q⟩=> ?_)
 subst ex
 cases r1
 refine wpAny_Slice ?_
 rw[evalPart_none]
 refine wpAny_pure (wpAny_pure ?_)
 refine thn (hst pins s1 σ H1 (fun o H'=>o=some (-1)/\H'=H1) I1 ⟨1,rfl,-1,rfl,rfl,rfl⟩) fun u s2 ⟨o,H2,I2,pu,eo,eH⟩=> ?_
 subst eo eH
 have I3:Inv X pins σ H2 {s2 with heap:=s2.heap.push {cls:= .type "slice",data:= .fields #[.none, .none,u]}}:=I2.kept (t':=s2.toks) fun b ob q=>Heap.get?_push_of_some _ q
 obtain⟨its,r,ht,hz⟩:=I3.list hx
 have hlen:=r.length
 refine tail_any (ops:=[.ref a, .ref s2.heap.objs.size]) ht.isList.typeIs slot_list_getitem.lookup ?_ (by with_unfolding_all rfl)
 refine wpAny_getItem_list_slice ht.isList (Heap.IsSliceOf.new ..) .none .none pu (by simp) ?_ (by rw[List.size_toArray]<;>lia)
 rw[W.krv_pick]
 refine⟨.ref _,_,I3.lnew (t':=s2.toks) (ys:=xs.reverse) (its:=its.reverse) (Vals.reverse r) (by rw[List.length_reverse];exact hz),rfl,q _ I3.fresh⟩
end
noncomputable def NewX(K:W.Frag)(H:Hp)(xs:List V)(Q:VK):Prop:= ∀p H',(H'=H/\H p=some (.tup xs))\/(H p=none/\H'=upd H p (.tup xs))->Q (.ref p) H'
theorem NewX.intro{K:W.Frag}{H:Hp}{xs:List V}{Q:VK}(h: ∀p H',H' p=some (.tup xs)->Same H H'->Q (.ref p) H'):NewX K H xs Q:=by
 intro p H' e
 rcases e with⟨rfl,s⟩|⟨n,rfl⟩
 ·exact h p H' s (Same.refl _)
 ·exact h p _ z04 (Same.new _ n)
section
variable{X:Cx}
noncomputable def rSlX(K:W.Frag):V->Option Int->Option Int->Hp->VK->Prop:=fun x lo hi H Q=> ∃a xs,x= .ref a/\H a=some (.tup xs)/\NewX K H (cutV xs lo hi) Q
theorem za2:SlR X (rSlX X.K):=by
 intro pins s σ H x v vl vu lo hi sl Q I rx hs pl pu h
 obtain⟨a,xs,rfl,hx0,q⟩:=h
 have hx:SqT X.K H a xs:=SqT.of hx0
 by_cases hw:HT.sIx xs.length 0 lo=0/\HT.sIx xs.length xs.length hi=xs.length
 ·cases rx
  obtain⟨its,r,ht,hz⟩:=I.tuple hx
  have hlen:its.toArray.size=xs.length:=by rw[List.size_toArray];exact r.length.symm
  refine⟨"tuple",_,PyProof.Rows.slot_tuple_getitem.lookup,ht.typeIs, ?_⟩
  refine HT.getItem_tuple_whole ht hs pl pu (by rw[hlen];exact hw) ⟨.ref a,H,I,rfl,q a H (.inl ⟨rfl, ?_⟩)⟩
  rw[z67 hw]
  exact hx0
 ·exact zbx pins s σ H _ v vl vu lo hi sl Q I rx hs pl pu ⟨a,xs,rfl,hx,hw,fun p hp=>q p _ (.inr ⟨hp,rfl⟩)⟩
noncomputable def za3(K:W.Frag):R2:=fun x y H Q=> ∃a b xs ys,x= .ref a/\y= .ref b/\H a=some (.tup xs)/\H b=some (.tup ys)/\xs.length+ys.length<=sizeLine/\NewX K H (xs++ys) Q
theorem za4:OpR X (binaryOp .Add) (za3 X.K):=by
 intro pins s σ H x y v u Q I rx ry h
 obtain⟨a,b,xs,ys,rfl,rfl,ha0,hb0,hz,q⟩:=h
 have ha:SqT X.K H a xs:=SqT.of ha0
 have hb:SqT X.K H b ys:=SqT.of hb0
 by_cases hx:xs=[]
 ·subst hx
  cases rx
  cases ry
  obtain⟨its,r1,p1,_⟩:=I.tuple ha
  obtain⟨its2,r2,p2,_⟩:=I.tuple hb
  have e0:its=[]:=(Vals.nil_iff r1).mpr rfl
  subst e0
  obtain⟨⟨cls,dd,data,sl⟩,ho,hc,n,hd⟩:=id p1
  obtain⟨⟨cls2,dd2,data2,sl2⟩,ho2,hc2,n2,hd2⟩:=id p2
  simp only at hc hd hc2 hd2
  subst hc hd hc2 hd2
  exact concat_meets ⟨_,ho,rfl⟩ ⟨_,ho2,rfl⟩ noFill_tuple_add seq_tuple_add PySem.F.slot_tuple_add PySem.F.entry_tuple_add (PySem.F.args_tuple_add_2 _ _)
   (tuple_addW0 a b _ _ n n2 dd dd2 sl sl2 (by simp)) ⟨ho,ho2, .ref b,H,I,rfl,q b H (.inl ⟨rfl,hb0⟩)⟩
 ·refine z9O pins s σ H _ _ v u Q I rx ry ⟨a,b,xs,ys,rfl,rfl,ha,hb,hx,hz,fun e=> ?_,fun _ p hp=>q p _ (.inr ⟨hp,rfl⟩)⟩
  refine q a H (.inl ⟨rfl, ?_⟩)
  rw[e,List.append_nil]
  exact ha0
theorem z71:CallR X (.type "tuple") (fun xs H Q=> ∃(p:Addr) (ys:List V),xs=[.ref p]/\(SqL X.K H p ys\/H p=some (.tup ys))/\NewX X.K H ys Q):=by
 intro pins s σ H xs us Q I r h
 obtain⟨p,ys,rfl,hs,q⟩:=h
 refine z3w pins s σ H _ us Q I r ⟨p,ys,rfl, ?_⟩
 rcases hs with hs|hs
 ·exact .inl ⟨hs,fun l hl=>q l _ (.inr ⟨hl,rfl⟩)⟩
 ·exact .inr ⟨SqT.of hs,q p H (.inl ⟨rfl,hs⟩)⟩
end
end L2
namespace PyProof.Rows
open PySem
section
variable{prog:Program}{w:World}{A:Around}{E:Value->Shared->Prop}{s:Shared}
theorem z2z{h h':Heap}{t:Addr}{items:Array Value}(hl:h.IsList t items)(k: ∀o,h.get? t=some o->h'.get? t=some o):h'.IsList t items:=by
 obtain⟨o,ho,hc,n,hd⟩:=hl
 exact⟨o,k o ho,hc,n,hd⟩
theorem z4i{it t:Addr}{items:Array Value}(hne:t≠it): ∀(n i:Nat) (s:Shared) (Q:List Value->Shared->Prop),s.heap.IsListIter it t i->s.heap.IsList t items->i+n<=items.size->
 (∀h',h'.IsListIter it t (i+n)->Heap.SameBut it s.heap h'->Q ((items.toList.drop i).take n) {s with heap:=h'})->wpAny (model prog w) A (draw (.ref it) n) Q E s
 |0,i,s,Q,hit,_,_,hQ=>by
  show wpAny _ _ (pure []) Q E s
  exact wpAny_pure (by simpa using hQ s.heap hit (Heap.SameBut.refl ..))
 |n+1,i,s,Q,hit,ht,hle,hQ=>by
  have hlt:i<items.size:=by lia
  show wpAny _ _ (pyNext (.ref it)>>=_) Q E s
  refine wpAny_bind (wpAny_pyNext_list_item hit ht (x:=items[i]) (by simp[hlt]) fun h₁ hit₁ hs₁=> ?_)
  refine wpAny_bind (wpAny_holding (z4i hne n (i+1) _ _ hit₁ (z2z ht fun o e=>(hs₁.2 t hne).trans e) (by lia) fun h₂ hit₂ hs₂=>wpAny_pure ?_))
  have hd:items.toList.drop i=items[i]::items.toList.drop (i+1):=by simp[List.drop_eq_getElem_cons,hlt]
  have:=hQ h₂ (by rw[show i+(n+1)=i+1+n by lia];exact hit₂) (hs₁.trans hs₂)
  rw[hd,List.take_succ_cons] at this
  exact this
theorem z2g{t:Addr}{items:Array Value}{Q:List Value->Shared->Prop}(hh:A.handled=none)(ht:s.heap.IsList t items)
 (hQ: ∀h',Heap.ExtBut s.heap.objs.size s.heap h'->Q items.toList {s with heap:=h'}):wpAny (model prog w) A (unpackItems (.ref t) items.size none) Q E s:=by
 have hlt:t≠s.heap.objs.size:=by obtain⟨o,ho,_⟩:=ht;exact Nat.ne_of_lt (Heap.lt_size ho)
 have hT:s.TypeIs (.ref t) "list" :=by obtain⟨o,ho,hc,_⟩:=ht;exact⟨o,ho,hc⟩
 unfold unpackItems
 refine wpAny_bind ?_
 ·unfold notIterableAtAll
  refine wpAny_bind (wpAny_specialOf hT PySem.F.slot_list_iter.lookup ?_)
  refine wpAny_pure ?_
  simp only[Bool.false_eq_true,if_false]
  refine wpAny_bind (wpAny_holding (wpAny_pyIter_list ht ?_))
  refine wpAny_bind (wpAny_holding (z4i hlt items.size 0 _ _ ⟨_,Heap.get?_push_size _ rfl,rfl,rfl⟩ (z2z ht fun o e=>Heap.get?_push_of_some _ e) (by lia) fun h₁ hit₁ hs₁=> ?_))
  have hall:List.take items.size (List.drop 0 items.toList)=items.toList:=by
   rw[List.drop_zero];exact List.take_of_length_le (by simp)
  rw[hall]
  rw[if_neg (by simp)]
  have ht₁:h₁.IsList t items:=z2z ht fun o e=>(hs₁.2 t hlt).trans (Heap.get?_push_of_some _ e)
  refine wpAny_bind (wpAny_holding (wpAny_pyNext_list_end hh hit₁ ht₁ (by simp) fun h₂ he₂=> ?_))
  simp only[Option.isSome_none,Bool.false_eq_true,if_false]
  refine wpAny_pure (hQ h₂ fun b o hb e=>he₂ b o hb (hs₁.extBut b o hb (Heap.get?_push_of_some _ e)))
theorem z1W{env:Env}{elts:List Expr}{x1}{pos:Pos}{t:Addr}{items:Array Value}{Q:Unit->Shared->Prop}(hh:A.handled=none)(ht:s.heap.IsList t items)
 (hn:(assignEach elts env).length=items.size) (hstar:(assignEach elts env).findIdx? (·.1)=none)
 (h: ∀h',Heap.ExtBut s.heap.objs.size s.heap h'->wpAny (model prog w) A (assignInOrder ((assignEach elts env).map (·.2)) items.toList) Q E {s with heap:=h'}):
 wpAny (model prog w) A (assign (.Tuple elts x1 pos) env (.ref t)) Q E s:=by
 rw[assign_Tuple]
 refine wpAny_bind (wpAny_standAt ?_)
 unfold unpack
 rw[hn,hstar]
 exact wpAny_bind (wpAny_holding (z2g hh ht h))
end
end PyProof.Rows
namespace L2
open PySem PySem.Spec PyProof.Rows
section
variable{X:Cx}{pos:Pos}
noncomputable def gSeq(K:W.Frag)(n:Nat)(t:TGs):TG:=fun v σ H Q=> ∃a xs,v= .ref a/\(SqT K H a xs\/SqL K H a xs)/\xs.length=n/\t xs σ H Q
theorem zbW{es:List Expr}{k:Nat}{t:TGs}{n:Nat}(hc:X.calm=true)(h:PGs X es t)
 (hn:(assignEach es X.env).length=n:=by rfl) (hst:(assignEach es X.env).findIdx? (·.1)=none:=by rfl):PG X (.Tuple es k pos) (gSeq X.K n t):=by
 intro pins s σ H v u Q I r hw
 obtain⟨a,xs,e1,hq|hq,hl,hw⟩:=hw
 ·exact zbj hc h hn hst pins s σ H v u Q I r ⟨a,xs,e1,hq,hl,hw⟩
 ·subst e1
  cases r
  obtain⟨its,rv,ht,hz⟩:=I.list hq
  refine z1W (I.ok.hd hc) ht.isList (by simp[hn,<-hl,rv.length]) hst fun h' hx=> ?_
  have I1:Inv X pins σ H {s with heap:=h'}:=I.kept (t':=s.toks) fun b o e=>hx b o (Nat.ne_of_lt (Heap.lt_size e)) e
  exact h pins _ σ H xs _ Q I1 (by simpa using rv) hw
end
theorem z2h:fillsNumberSlot (.type "tuple") "mul" =pure false:=
 PySem.fillsNumberSlot_seq (id:= "tuple.__mul__") (r:=some (.builtin "tuple.__rmul__")) F.slot_tuple_mul.lookup (by decide+kernel) F.slot_tuple_rmul.lookup (by decide+kernel)
theorem z4j:seqRepeat? (.type "tuple")=pure (some (.builtin "tuple.__mul__")):=by
 unfold seqRepeat?
 rw[PySem.seqSlot_of (T:= "tuple") (name:= "__mul__") (id:= "tuple.__mul__") F.slot_tuple_mul.lookup (by decide+kernel),PySem.seqSlot_of (T:= "tuple") (name:= "__rmul__") (id:= "tuple.__rmul__") F.slot_tuple_rmul.lookup (by decide+kernel)]
 rfl
theorem z3a(a:Int)(t:Tok)(l:Addr)(items:Array Value)(n:Nat)(dd:Option Addr)(sl:Array (Option Value)):
 Meets (Builtin.«int.__rmul__» ⟨[.int a t, .ref l],[]⟩) (fun _ R s=>s.heap.get? l=some {cls:= .type "tuple",dict:=dd,data:= .seq items n,slots:=sl}/\R (.ok (.ret Value.notImplemented)) s):=
 .of_wp fun prog w A R s h=>by obtain⟨hp,g,d,tk,os⟩:=s;obtain⟨hl,h⟩:=h;wp_walk;exact⟨_,rfl,h⟩
theorem z6a(l:Addr)(items:Array Value)(n:Nat)(dd:Option Addr)(sl:Array (Option Value))(x:Int)(u:Tok)(hc0: ¬(decide (x< -(2^63))||decide (x≥2^63))=true)(hc1: ¬(items.isEmpty||x==1)=true)(hc2: ¬(decide (x<=0)||items.isEmpty)=true)(hc3: ¬((items.size:Int)*x>(2^63 - 1)/8))(hc4: ¬Builtin.Tuple.tupleTooMany ((items.size:Int)*x)=true)(hsz:(List.foldl (fun x1 x2=>x1++x2) #[] (List.replicate x.toNat items)).size<=sizeLine):
 Meets (Builtin.«tuple.__mul__» ⟨[.ref l, .int x u],[]⟩) (fun _ R s=>s.heap.get? l=some {cls:= .type "tuple",dict:=dd,data:= .seq items n,slots:=sl}/\R (.ok (.ret (Value.ref s.heap.objs.size))) {s with heap:=s.heap.push {cls:=Value.type "tuple",data:=Data.seq (List.foldl (fun x1 x2=>x1++x2) #[] (List.replicate x.toNat items))},toks:=s.toks}):=
 .of_wp fun prog w A R s h=>by
  obtain⟨hp,g,d,tk,os⟩:=s;obtain⟨hl,h⟩:=h
  have f1:=AutoSeq1.idx_int;have f2:=AutoSeq1.sub_tuple_tuple
  wp_walk using AutoSeq1.wpAny_loadPart' hl
  rw[if_neg hc0]
  wp_walk using AutoSeq1.wpAny_loadPart' hl
  rw[if_neg hc3]
  wp_walk using AutoSeq1.wpAny_loadPart' hl
  exact⟨_,rfl,h⟩
section
variable{X:Cx}
noncomputable def za5(K:W.Frag):R2:=fun x y H Q=> ∃a k xs,x= .ref a/\y= .int k/\SqT K H a xs/\0<xs.length/\2<=k/\k<2^63/\xs.length*k.toNat<=sizeLine/\
 ∀p,H p=none->Q (.ref p) (upd H p (.tup (List.replicate k.toNat xs).flatten))
theorem za6:OpR X (binaryOp .Mult) (za5 X.K):=by
 intro pins s σ H x y v u Q I rx ry h
 obtain⟨a,k,xs,rfl,rfl,ha,h0,h1,h2,hz,q⟩:=h
 cases rx
 obtain⟨t,rfl⟩:=ry
 obtain⟨its,r,p1,_⟩:=I.tuple ha
 obtain⟨⟨cls,dd,data,sl⟩,e,hc,n,hd⟩:=id p1
 simp only at hc hd
 subst hc hd
 have hlen:its.length=xs.length:=r.length.symm
 have hne:its.toArray.isEmpty=false:=by
  cases its with
  |nil=>simp at hlen;lia
  |cons a r=>simp
 have hnew:List.foldl (fun x1 x2=>x1++x2) #[] (List.replicate k.toNat its.toArray)=(List.replicate k.toNat its).flatten.toArray:=by
  have:=z2p its k.toNat []
  rw[List.nil_append] at this
  exact this
 have hl2:((its.toArray.size:Nat):Int)*k=((xs.length*k.toNat:Nat):Int):=by
  rw[List.size_toArray,hlen,Int.natCast_mul,Int.toNat_of_nonneg (by lia)]
 have hs:(sizeLine:Nat)=16777216:=rfl
 refine wpAny_binaryOp_repeat_ref (T:= "tuple") (U:= "int") (by decide) ⟨_,e,rfl⟩ (fun s'=>typeIs_int s' k t) z2h F.fills_int_mul F.slot_int_rmul z4j F.slot_int_index.lookup
  (call_meets F.slot_int_rmul (typeIs_int s k t) F.entry_int_rmul (F.args_int_rmul_2 _ _) (z3a k t a its.toArray n dd sl)
   ⟨e,rfl,⟨_,e,rfl⟩,call_meets F.slot_tuple_mul ⟨_,e,rfl⟩ F.entry_tuple_mul (F.args_tuple_mul_2 _ _) (z6a a its.toArray n dd sl k t (by simp;lia) (by rw[hne];simp;lia) (by rw[hne];simp;lia) (by rw[hl2];clear hl2;generalize xs.length*k.toNat=m at hz⊢;lia) (by rw[hl2];clear hl2;generalize xs.length*k.toNat=m at hz⊢;unfold Builtin.Tuple.tupleTooMany;rw[decide_eq_true_eq];lia) (by rw[hnew,List.size_toArray,z4R,hlen,Nat.mul_comm];exact hz)) ⟨e, ?_⟩⟩)
 rw[hnew]
 refine⟨.ref s.heap.objs.size,_,I.laid (t':=s.toks) (o:= .tup (List.replicate k.toNat xs).flatten) (fun b ob q=>Heap.get?_push_of_some _ q) (Nat.le_refl _) ?_,rfl,q _ (I.hok.fresh (Nat.le_refl _))⟩
 exact⟨by rw[z4R,Nat.mul_comm];exact hz,_,r.rep k.toNat,IsTup.new _ _⟩
end
end L2
namespace Mi
open PySem L2
inductive D where
 |non|bool (b:Bool)|int (i:Int)|str (x:Str)
 |tup (ds:List D)|ro (ds:List D)|lst (l:Nat) (ds:List D)
 |dct (l:Nat) (ks vs:List D)|obj (l:Nat) (c:Str) (ns:List Str) (vs:List D)
 |exc (c:Str)|fn (c:Str)|fdc (ks vs:List D)
deriving Inhabited
mutual
noncomputable def labs:D->List Nat
 | .tup ds=>labsL ds
 | .ro ds=>labsL ds
 | .fdc _ vs=>labsL vs
 | .lst l ds=>l::labsL ds
 | .dct l ks vs=>l::(labsL ks++labsL vs)
 | .obj l _ _ vs=>l::labsL vs
 | .non=>[]| .bool _=>[]| .int _=>[]| .str _=>[]| .exc _=>[]| .fn _=>[]
noncomputable def labsL:List D->List Nat
 |[]=>[]
 |d::ds=>labs d++labsL ds
end
noncomputable def z06:List (Option D)->List Nat
 |[]=>[]
 |none::r=>z06 r
 |some d::r=>labs d++z06 r
structure Gx where
 K:W.Frag
 cl:Str->Option Addr
 ci: ∀c c' a,cl c=some a->cl c'=some a->c=c'
 ck: ∀c a,cl c=some a->∃o,K.lookup a=some o/\∀its n,o.data≠ .seq its n
noncomputable def keyD:Key->D
 | .inl i=> .int i
 | .inr x=> .str x
noncomputable def nkD:Key⊕List Key->D
 | .inl k=>keyD k
 | .inr ks=> .tup (ks.map keyD)
noncomputable def dkD(k:NK):D:= .tup (k.map nkD)
noncomputable def RoL(K:W.Frag)(H:Hp)(a:Addr)(xs:List V):Prop:=
 (∃o,H a=some (.frz o (.lst xs)))\/∃(o:Obj) (its:Array Value) (n:Nat),K.lookup a=some o/\o.cls= .type "list" /\o.dict=none/\o.data= .seq its n/\its.size<=sizeLine/\Vals xs its.toList
theorem RoL.sq{K:W.Frag}{H:Hp}{a:Addr}{xs:List V}(h:RoL K H a xs):SqL K H a xs:=by
 rcases h with⟨o,h⟩|h
 ·exact .inl (.inr ⟨o,h⟩)
 ·exact .inr h
mutual
noncomputable def RD(G:Gx)(ρ:Nat->Addr)(H:Hp):D->V->Prop
 | .non,v=>v= .non
 | .bool b,v=>v= .bl b
 | .int i,v=>v= .int i
 | .str x,v=>v= .str x
 | .exc c,v=> ∃a o C,v= .ref a/\G.cl c=some C/\o.cls= .ref C/\(∃vs,o.data= .fields vs)/\H a=some (.frz o (.ext fun _=>True))
 | .fn c,v=> ∃a,v= .ref a/\G.cl c=some a
 | .tup ds,v=> ∃a xs,v= .ref a/\H a=some (.tup xs)/\RDs G ρ H ds xs
 | .ro ds,v=> ∃a xs,v= .ref a/\RoL G.K H a xs/\RDs G ρ H ds xs
 | .fdc ks vs,v=> ∃(a:Addr) (o:Obj) (kvs:List (NK×V)),v= .ref a/\H a=some (.frz o (.dT kvs))/\ks=kvs.map (fun p=>dkD p.1)/\RDs G ρ H vs (kvs.map (·.2))
 | .lst l ds,v=>v= .ref (ρ l)/\∃xs,H (ρ l)=some (.lst xs)/\RDs G ρ H ds xs
 | .dct l ks vs,v=>v= .ref (ρ l)/\((∃kvs:List (Key×V),H (ρ l)=some (.dK kvs)/\ks=D.non::kvs.map (fun p=>keyD p.1)/\RDs G ρ H vs (kvs.map (·.2)))\/
  (∃kvs:List (NK×V),H (ρ l)=some (.dT kvs)/\ks=kvs.map (fun p=>dkD p.1)/\RDs G ρ H vs (kvs.map (·.2))))
 | .obj l c ns vs,v=>v= .ref (ρ l)/\∃C dx fs,G.cl c=some C/\H (ρ l)=some (.ins C dx fs)/\ns=fs.map (·.1)/\RDs G ρ H vs (fs.map (·.2))
noncomputable def RDs(G:Gx)(ρ:Nat->Addr)(H:Hp):List D->List V->Prop
 |[],xs=>xs=[]
 |d::ds,xs=> ∃x r,xs=x::r/\RD G ρ H d x/\RDs G ρ H ds r
end
structure z0L(H H':Hp):Prop where
 t: ∀b xs,H b=some (.tup xs)->H' b=some (.tup xs)
 f: ∀b o u,H b=some (.frz o u)->H' b=some (.frz o u)
theorem z0L.refl(H:Hp):z0L H H:=⟨fun _ _ h=>h,fun _ _ _ h=>h⟩
theorem z0L.of{H H':Hp}(h:Same H H'):z0L H H':=⟨fun _ _ e=>h _ _ e,fun _ _ _ e=>h _ _ e⟩
theorem z0L.ro{K:W.Frag}{H H':Hp}(t:z0L H H'){a:Addr}{xs:List V}(h:RoL K H a xs):RoL K H' a xs:=by
 rcases h with⟨o,h⟩|h
 ·exact .inl ⟨o,t.f _ _ _ h⟩
 ·exact .inr h
section
variable{G:Gx}{ρ ρ':Nat->Addr}{H H':Hp}
mutual
theorem RD.stay(ts:z0L H H'): ∀(t:D) (v:V),RD G ρ H t v->(∀l∈labs t,ρ' l=ρ l/\∀o,H (ρ l)=some o->H' (ρ l)=some o)->RD G ρ' H' t v
 | .non,v,h,_=>by simp only[RD] at h⊢;exact h
 | .bool b,v,h,_=>by simp only[RD] at h⊢;exact h
 | .int b,v,h,_=>by simp only[RD] at h⊢;exact h
 | .str b,v,h,_=>by simp only[RD] at h⊢;exact h
 | .exc b,v,h,_=>by
  simp only[RD] at h⊢
  obtain⟨a,o,C,e,h1,h2,h3,h5⟩:=h
  exact⟨a,o,C,e,h1,h2,h3,ts.f _ _ _ h5⟩
 | .fn b,v,h,_=>by simp only[RD] at h⊢;exact h
 | .tup ds,v,h,hl=>by
  simp only[RD,labs] at h hl⊢
  obtain⟨a,xs,e,s,r⟩:=h
  exact⟨a,xs,e,ts.t _ _ s,RDs.stay ts ds xs r hl⟩
 | .ro ds,v,h,hl=>by
  simp only[RD,labs] at h hl⊢
  obtain⟨a,xs,e,s,r⟩:=h
  exact⟨a,xs,e,ts.ro s,RDs.stay ts ds xs r hl⟩
 | .fdc ks vs,v,h,hl=>by
  simp only[RD,labs] at h hl⊢
  obtain⟨a,o,kvs,e,s,s2,r⟩:=h
  exact⟨a,o,kvs,e,ts.f _ _ _ s,s2,RDs.stay ts vs _ r hl⟩
 | .lst l ds,v,h,hl=>by
  simp only[RD,labs] at h hl⊢
  obtain⟨e,xs,s,r⟩:=h
  obtain⟨e1,e2⟩:=hl l (List.mem_cons_self ..)
  rw[e1]
  exact⟨e,xs,e2 _ s,RDs.stay ts ds xs r fun k hk=>hl k (List.mem_cons_of_mem _ hk)⟩
 | .dct l ks vs,v,h,hl=>by
  simp only[RD,labs] at h hl⊢
  obtain⟨e,s⟩:=h
  obtain⟨e1,e2⟩:=hl l (List.mem_cons_self ..)
  rw[e1]
  refine⟨e, ?_⟩
  rcases s with⟨kvs,s,s2,r⟩|⟨kvs,s,s2,r⟩
  ·exact .inl ⟨kvs,e2 _ s,s2,RDs.stay ts vs _ r fun k hk=>hl k (List.mem_cons_of_mem _ (List.mem_append_right _ hk))⟩
  ·exact .inr ⟨kvs,e2 _ s,s2,RDs.stay ts vs _ r fun k hk=>hl k (List.mem_cons_of_mem _ (List.mem_append_right _ hk))⟩
 | .obj l c ns vs,v,h,hl=>by
  simp only[RD,labs] at h hl⊢
  obtain⟨e,C,dx,fs,hC,s,s2,r⟩:=h
  obtain⟨e1,e2⟩:=hl l (List.mem_cons_self ..)
  rw[e1]
  exact⟨e,C,dx,fs,hC,e2 _ s,s2,RDs.stay ts vs _ r fun k hk=>hl k (List.mem_cons_of_mem _ hk)⟩
theorem RDs.stay(ts:z0L H H'): ∀(t:List D) (v:List V),RDs G ρ H t v->(∀l∈labsL t,ρ' l=ρ l/\∀o,H (ρ l)=some o->H' (ρ l)=some o)->RDs G ρ' H' t v
 |[],v,h,_=>by simp only[RDs] at h⊢;exact h
 |d::ds,v,h,hl=>by
  simp only[RDs,labsL] at h hl⊢
  obtain⟨x,r,e,h1,h2⟩:=h
  exact⟨x,r,e,RD.stay ts d x h1 fun l hk=>hl l (List.mem_append_left _ hk),RDs.stay ts ds r h2 fun l hk=>hl l (List.mem_append_right _ hk)⟩
end
end
mutual
noncomputable def rp(f:Nat->Option D):D->D
 | .tup ds=> .tup (rpL f ds)
 | .ro ds=> .ro (rpL f ds)
 | .fdc ks vs=> .fdc ks (rpL f vs)
 | .lst l ds=>match f l with|some d=>d|none=> .lst l (rpL f ds)
 | .dct l ks vs=>match f l with|some d=>d|none=> .dct l ks (rpL f vs)
 | .obj l c ns vs=>match f l with|some d=>d|none=> .obj l c ns (rpL f vs)
 | .non=> .non| .bool b=> .bool b| .int i=> .int i| .str x=> .str x| .exc x=> .exc x| .fn x=> .fn x
noncomputable def rpL(f:Nat->Option D):List D->List D
 |[]=>[]
 |d::ds=>rp f d::rpL f ds
end
noncomputable def rpO(f:Nat->Option D):List (Option D)->List (Option D)
 |[]=>[]
 |none::r=>none::rpO f r
 |some d::r=>some (rp f d)::rpO f r
section
variable{f:Nat->Option D}
mutual
theorem za7: ∀t:D,(∀l∈labs t,f l=none)->rp f t=t
 | .non,_=>rfl
 | .bool b,_=>rfl
 | .int b,_=>rfl
 | .str b,_=>rfl
 | .exc b,_=>rfl
 | .fn b,_=>rfl
 | .tup ds,h=>by simp only[rp,labs] at h⊢;rw[rpL_id ds h]
 | .ro ds,h=>by simp only[rp,labs] at h⊢;rw[rpL_id ds h]
 | .fdc ks vs,h=>by simp only[rp,labs] at h⊢;rw[rpL_id vs h]
 | .lst l ds,h=>by
  simp only[rp,labs] at h⊢
  rw[h l (List.mem_cons_self ..),rpL_id ds fun k hk=>h k (List.mem_cons_of_mem _ hk)]
 | .dct l ks vs,h=>by
  simp only[rp,labs] at h⊢
  rw[h l (List.mem_cons_self ..),rpL_id vs fun k hk=>h k (List.mem_cons_of_mem _ (List.mem_append_right _ hk))]
 | .obj l c ns vs,h=>by
  simp only[rp,labs] at h⊢
  rw[h l (List.mem_cons_self ..),rpL_id vs fun k hk=>h k (List.mem_cons_of_mem _ hk)]
theorem rpL_id: ∀t:List D,(∀l∈labsL t,f l=none)->rpL f t=t
 |[],_=>rfl
 |d::ds,h=>by
  simp only[rpL,labsL] at h⊢
  rw[za7 d fun l hk=>h l (List.mem_append_left _ hk),rpL_id ds fun l hk=>h l (List.mem_append_right _ hk)]
end
theorem z72: ∀t:List (Option D),(∀l∈z06 t,f l=none)->rpO f t=t
 |[],_=>rfl
 |none::r,h=>by simp only[rpO,z06] at h⊢;rw[z72 r h]
 |some d::r,h=>by
  simp only[rpO,z06] at h⊢
  rw[za7 d fun l hk=>h l (List.mem_append_left _ hk),z72 r fun l hk=>h l (List.mem_append_right _ hk)]
end
section
variable{G:Gx}{ρ ρ':Nat->Addr}{H H':Hp}{f:Nat->Option D}
mutual
theorem RD.rp(ts:z0L H H'): ∀(t:D) (v:V),RD G ρ H t v->(∀l∈labs t,ρ' l=ρ l/\(match f l with|some d=>RD G ρ' H' d (.ref (ρ l))|none=> ∀o,H (ρ l)=some o->H' (ρ l)=some o))->RD G ρ' H' (rp f t) v
 | .non,v,h,_=>by simp only[Mi.rp,RD] at h⊢;exact h
 | .bool b,v,h,_=>by simp only[Mi.rp,RD] at h⊢;exact h
 | .int b,v,h,_=>by simp only[Mi.rp,RD] at h⊢;exact h
 | .str b,v,h,_=>by simp only[Mi.rp,RD] at h⊢;exact h
 | .exc b,v,h,_=>by
  simp only[Mi.rp,RD] at h⊢
  obtain⟨a,o,C,e,h1,h2,h3,h5⟩:=h
  exact⟨a,o,C,e,h1,h2,h3,ts.f _ _ _ h5⟩
 | .fn b,v,h,_=>by simp only[Mi.rp,RD] at h⊢;exact h
 | .tup ds,v,h,hl=>by
  simp only[Mi.rp,RD,labs] at h hl⊢
  obtain⟨a,xs,e,s,r⟩:=h
  exact⟨a,xs,e,ts.t _ _ s,RDs.rp ts ds xs r hl⟩
 | .ro ds,v,h,hl=>by
  simp only[Mi.rp,RD,labs] at h hl⊢
  obtain⟨a,xs,e,s,r⟩:=h
  exact⟨a,xs,e,ts.ro s,RDs.rp ts ds xs r hl⟩
 | .fdc ks vs,v,h,hl=>by
  simp only[Mi.rp,RD,labs] at h hl⊢
  obtain⟨a,o,kvs,e,s,s2,r⟩:=h
  exact⟨a,o,kvs,e,ts.f _ _ _ s,s2,RDs.rp ts vs _ r hl⟩
 | .lst l ds,v,h,hl=>by
  simp only[Mi.rp,RD,labs] at h hl⊢
  obtain⟨e,xs,s,r⟩:=h
  obtain⟨e1,e2⟩:=hl l (List.mem_cons_self ..)
  cases ef:f l with
  |some d=>rw[ef] at e2;subst e;exact e2
  |none=>
   rw[ef] at e2
   simp only[RD]
   rw[e1]
   exact⟨e,xs,e2 _ s,RDs.rp ts ds xs r fun k hk=>hl k (List.mem_cons_of_mem _ hk)⟩
 | .dct l ks vs,v,h,hl=>by
  simp only[Mi.rp,RD,labs] at h hl⊢
  obtain⟨e,s⟩:=h
  obtain⟨e1,e2⟩:=hl l (List.mem_cons_self ..)
  cases ef:f l with
  |some d=>rw[ef] at e2;subst e;exact e2
  |none=>
   rw[ef] at e2
   simp only[RD]
   rw[e1]
   refine⟨e, ?_⟩
   rcases s with⟨kvs,s,s2,r⟩|⟨kvs,s,s2,r⟩
   ·exact .inl ⟨kvs,e2 _ s,s2,RDs.rp ts vs _ r fun k hk=>hl k (List.mem_cons_of_mem _ (List.mem_append_right _ hk))⟩
   ·exact .inr ⟨kvs,e2 _ s,s2,RDs.rp ts vs _ r fun k hk=>hl k (List.mem_cons_of_mem _ (List.mem_append_right _ hk))⟩
 | .obj l c ns vs,v,h,hl=>by
  simp only[Mi.rp,RD,labs] at h hl⊢
  obtain⟨e,C,dx,fs,hC,s,s2,r⟩:=h
  obtain⟨e1,e2⟩:=hl l (List.mem_cons_self ..)
  cases ef:f l with
  |some d=>rw[ef] at e2;subst e;exact e2
  |none=>
   rw[ef] at e2
   simp only[RD]
   rw[e1]
   exact⟨e,C,dx,fs,hC,e2 _ s,s2,RDs.rp ts vs _ r fun k hk=>hl k (List.mem_cons_of_mem _ hk)⟩
theorem RDs.rp(ts:z0L H H'): ∀(t:List D) (v:List V),RDs G ρ H t v->(∀l∈labsL t,ρ' l=ρ l/\(match f l with|some d=>RD G ρ' H' d (.ref (ρ l))|none=> ∀o,H (ρ l)=some o->H' (ρ l)=some o))->RDs G ρ' H' (rpL f t) v
 |[],v,h,_=>by simp only[rpL,RDs] at h⊢;exact h
 |d::ds,v,h,hl=>by
  simp only[rpL,RDs,labsL] at h hl⊢
  obtain⟨x,r,e,h1,h2⟩:=h
  exact⟨x,r,e,RD.rp ts d x h1 fun l hk=>hl l (List.mem_append_left _ hk),RDs.rp ts ds r h2 fun l hk=>hl l (List.mem_append_right _ hk)⟩
end
end
section
variable{f:Nat->Option D}
mutual
theorem z73(l:Nat): ∀t:D,l∈labs (rp f t)->l∈labs t\/∃k d,k∈labs t/\f k=some d/\l∈labs d
 | .non,h=>by simp only[rp,labs] at h;cases h
 | .bool b,h=>by simp only[rp,labs] at h;cases h
 | .int b,h=>by simp only[rp,labs] at h;cases h
 | .str b,h=>by simp only[rp,labs] at h;cases h
 | .exc b,h=>by simp only[rp,labs] at h;cases h
 | .fn b,h=>by simp only[rp,labs] at h;cases h
 | .tup ds,h=>by
  simp only[rp,labs] at h⊢
  exact labsL_rp l ds h
 | .ro ds,h=>by
  simp only[rp,labs] at h⊢
  exact labsL_rp l ds h
 | .fdc ks vs,h=>by
  simp only[rp,labs] at h⊢
  exact labsL_rp l vs h
 | .lst k ds,h=>by
  simp only[rp] at h
  cases e:f k with
  |some d=>rw[e] at h;exact .inr ⟨k,d,by simp only[labs];exact List.mem_cons_self ..,e,h⟩
  |none=>
   rw[e] at h
   simp only[labs] at h⊢
   rcases List.mem_cons.mp h with h|h
   ·exact .inl (List.mem_cons.mpr (.inl h))
   ·rcases labsL_rp l ds h with q|⟨k',d,q1,q2,q3⟩
    ·exact .inl (List.mem_cons_of_mem _ q)
    ·exact .inr ⟨k',d,List.mem_cons_of_mem _ q1,q2,q3⟩
 | .dct k ks vs,h=>by
  simp only[rp] at h
  cases e:f k with
  |some d=>rw[e] at h;exact .inr ⟨k,d,by simp only[labs];exact List.mem_cons_self ..,e,h⟩
  |none=>
   rw[e] at h
   simp only[labs] at h⊢
   rcases List.mem_cons.mp h with h|h
   ·exact .inl (List.mem_cons.mpr (.inl h))
   ·rcases List.mem_append.mp h with h|h
    ·exact .inl (List.mem_cons_of_mem _ (List.mem_append_left _ h))
    ·rcases labsL_rp l vs h with q|⟨k',d,q1,q2,q3⟩
     ·exact .inl (List.mem_cons_of_mem _ (List.mem_append_right _ q))
     ·exact .inr ⟨k',d,List.mem_cons_of_mem _ (List.mem_append_right _ q1),q2,q3⟩
 | .obj k c ns vs,h=>by
  simp only[rp] at h
  cases e:f k with
  |some d=>rw[e] at h;exact .inr ⟨k,d,by simp only[labs];exact List.mem_cons_self ..,e,h⟩
  |none=>
   rw[e] at h
   simp only[labs] at h⊢
   rcases List.mem_cons.mp h with h|h
   ·exact .inl (List.mem_cons.mpr (.inl h))
   ·rcases labsL_rp l vs h with q|⟨k',d,q1,q2,q3⟩
    ·exact .inl (List.mem_cons_of_mem _ q)
    ·exact .inr ⟨k',d,List.mem_cons_of_mem _ q1,q2,q3⟩
theorem labsL_rp(l:Nat): ∀t:List D,l∈labsL (rpL f t)->l∈labsL t\/∃k d,k∈labsL t/\f k=some d/\l∈labs d
 |[],h=>by simp only[rpL,labsL] at h;cases h
 |d::ds,h=>by
  simp only[rpL,labsL] at h⊢
  rcases List.mem_append.mp h with h|h
  ·rcases z73 l d h with q|⟨k',d,q1,q2,q3⟩
   ·exact .inl (List.mem_append_left _ q)
   ·exact .inr ⟨k',d,List.mem_append_left _ q1,q2,q3⟩
  ·rcases labsL_rp l ds h with q|⟨k',d,q1,q2,q3⟩
   ·exact .inl (List.mem_append_right _ q)
   ·exact .inr ⟨k',d,List.mem_append_right _ q1,q2,q3⟩
end
theorem z2j(l:Nat): ∀t:List (Option D),l∈z06 (rpO f t)->l∈z06 t\/∃k d,k∈z06 t/\f k=some d/\l∈labs d
 |[],h=>by simp only[rpO,z06] at h;cases h
 |none::r,h=>by simp only[rpO,z06] at h⊢;exact z2j l r h
 |some d::ds,h=>by
  simp only[rpO,z06] at h⊢
  rcases List.mem_append.mp h with h|h
  ·rcases z73 l d h with q|⟨k',d,q1,q2,q3⟩
   ·exact .inl (List.mem_append_left _ q)
   ·exact .inr ⟨k',d,List.mem_append_left _ q1,q2,q3⟩
  ·rcases z2j l ds h with q|⟨k',d,q1,q2,q3⟩
   ·exact .inl (List.mem_append_right _ q)
   ·exact .inr ⟨k',d,List.mem_append_right _ q1,q2,q3⟩
end
structure Stt where
 σ:List (Option D)
 tm:List (Option D)
 n:Nat
structure Fx where
 A0:Addr->Prop
 H0:Hp
 Z:Addr->Prop
 zA: ∀a,Z a->(∃o,H0 a=some o)/\¬A0 a
 aH: ∀a,A0 a->∃o,H0 a=some o
 n0:Nat
 ρ0:Nat->Addr
noncomputable def KD(K:W.Frag)(H:Hp):Prop:= ∀a o,K.lookup a=some o->H a=none
section
variable(G:Gx)(ρ:Nat->Addr)(H:Hp)
noncomputable def Sl:List (Option D)->List (Option V)->Prop
 |[],vs=>vs=[]
 |none::r,vs=> ∃o q,vs=o::q/\Sl r q
 |some d::r,vs=> ∃v q,vs=some v::q/\RD G ρ H d v/\Sl r q
end
noncomputable def z0E(s:Stt):List Nat:=z06 s.σ++z06 s.tm
structure MR(G:Gx)(F:Fx)(ρ:Nat->Addr)(H:Hp)(σv tv:List (Option V))(s:Stt):Prop where
 sl:Sl G ρ H s.σ σv
 tm:Sl G ρ H s.tm tv
 inj: ∀i j,i<s.n->j<s.n->ρ i=ρ j->i=j
 dom: ∀l,l<s.n->∃o,H (ρ l)=some o
 lab: ∀l∈z0E s,l<s.n
 own: ∀l∈z0E s,F.A0 (ρ l)\/F.H0 (ρ l)=none
 frm: ∀a o,F.H0 a=some o->(∃o',H a=some o')/\(¬F.A0 a->H a=some o)
 kd:KD G.K H
 frb: ∀l,l<s.n->¬F.Z (ρ l)
 bas:F.n0<=s.n/\∀l,l<F.n0->ρ l=F.ρ0 l
noncomputable def Stt.psh(s:Stt)(t:D):Stt:={s with tm:=some t::s.tm}
noncomputable def Stt.nxt(s:Stt):Stt:={s with n:=s.n+1}
section
variable{G:Gx}{F:Fx}{ρ ρ':Nat->Addr}{H H':Hp}{σv tv:List (Option V)}{s:Stt}{t:D}{v:V}
theorem Sl.stay(ts:z0L H H'): ∀{σ:List (Option D)} {σv:List (Option V)},Sl G ρ H σ σv->(∀l∈z06 σ,ρ' l=ρ l/\∀o,H (ρ l)=some o->H' (ρ l)=some o)->Sl G ρ' H' σ σv
 |[],_,h,_=>h
 |none::r,_,h,hl=>by
  simp only[Sl,z06] at h hl⊢
  obtain⟨o,q,e,h⟩:=h
  exact⟨o,q,e,Sl.stay ts h hl⟩
 |some d::r,_,h,hl=>by
  simp only[Sl,z06] at h hl⊢
  obtain⟨o,q,e,h1,h⟩:=h
  exact⟨o,q,e,RD.stay ts d o h1 fun l hk=>hl l (List.mem_append_left _ hk),Sl.stay ts h fun l hk=>hl l (List.mem_append_right _ hk)⟩
theorem Sl.rp{f:Nat->Option D}(ts:z0L H H'): ∀{σ:List (Option D)} {σv:List (Option V)},Sl G ρ H σ σv->
 (∀l∈z06 σ,ρ' l=ρ l/\(match f l with|some d=>RD G ρ' H' d (.ref (ρ l))|none=> ∀o,H (ρ l)=some o->H' (ρ l)=some o))->Sl G ρ' H' (rpO f σ) σv
 |[],_,h,_=>h
 |none::r,_,h,hl=>by
  simp only[Sl,z06,rpO] at h hl⊢
  obtain⟨o,q,e,h⟩:=h
  exact⟨o,q,e,Sl.rp ts h hl⟩
 |some d::r,_,h,hl=>by
  simp only[Sl,z06,rpO] at h hl⊢
  obtain⟨o,q,e,h1,h⟩:=h
  exact⟨o,q,e,RD.rp ts d o h1 fun l hk=>hl l (List.mem_append_left _ hk),Sl.rp ts h fun l hk=>hl l (List.mem_append_right _ hk)⟩
theorem Sl.get: ∀{σ:List (Option D)} {σv:List (Option V)},Sl G ρ H σ σv->∀(i:Nat) (d:D),σ[i]? =some (some d)->∃v,σv[i]? =some (some v)/\RD G ρ H d v
 |[],_,_,i,d,e=>by simp at e
 |none::r,_,h,i,d,e=>by
  simp only[Sl] at h
  obtain⟨o,q,rfl,h⟩:=h
  cases i with
  |zero=>simp at e
  |succ i=>simpa using Sl.get h i d (by simpa using e)
 |some d'::r,_,h,i,d,e=>by
  simp only[Sl] at h
  obtain⟨v,q,rfl,h1,h⟩:=h
  cases i with
  |zero=>simp at e;subst e;exact⟨v,rfl,h1⟩
  |succ i=>simpa using Sl.get h i d (by simpa using e)
theorem Sl.length: ∀{σ:List (Option D)} {σv:List (Option V)},Sl G ρ H σ σv->σ.length=σv.length
 |[],_,h=>by simp only[Sl] at h;subst h;rfl
 |none::r,_,h=>by
  simp only[Sl] at h
  obtain⟨o,q,rfl,h⟩:=h
  simp[Sl.length h]
 |some d'::r,_,h=>by
  simp only[Sl] at h
  obtain⟨v,q,rfl,h1,h⟩:=h
  simp[Sl.length h]
theorem Sl.set: ∀{σ:List (Option D)} {σv:List (Option V)} (i:Nat),Sl G ρ H σ σv->RD G ρ H t v->Sl G ρ H (σ.set i (some t)) (σv.set i (some v))
 |[],_,i,h,_=>by simp only[Sl] at h;subst h;simp[Sl]
 |none::r,_,i,h,ht=>by
  simp only[Sl] at h
  obtain⟨o,q,rfl,h⟩:=h
  cases i with
  |zero=>simp only[List.set_cons_zero,Sl];exact⟨_,_,rfl,ht,h⟩
  |succ i=>simp only[List.set_cons_succ,Sl];exact⟨_,_,rfl,Sl.set i h ht⟩
 |some d'::r,_,i,h,ht=>by
  simp only[Sl] at h
  obtain⟨v',q,rfl,h1,h⟩:=h
  cases i with
  |zero=>simp only[List.set_cons_zero,Sl];exact⟨_,_,rfl,ht,h⟩
  |succ i=>simp only[List.set_cons_succ,Sl];exact⟨_,_,rfl,h1,Sl.set i h ht⟩
theorem Sl.append: ∀{σ σ':List (Option D)} {σv σv':List (Option V)},Sl G ρ H σ σv->Sl G ρ H σ' σv'->Sl G ρ H (σ++σ') (σv++σv')
 |[],_,_,_,h,h'=>by simp only[Sl] at h;subst h;exact h'
 |none::r,_,_,_,h,h'=>by
  simp only[Sl] at h
  obtain⟨o,q,rfl,h⟩:=h
  simp only[List.cons_append,Sl];exact⟨_,_,rfl,Sl.append h h'⟩
 |some d'::r,_,_,_,h,h'=>by
  simp only[Sl] at h
  obtain⟨v,q,rfl,h1,h⟩:=h
  simp only[List.cons_append,Sl];exact⟨_,_,rfl,h1,Sl.append h h'⟩
theorem Sl.split: ∀(σv:List (Option V)) {σ:List (Option D)} {tv:List (Option V)},Sl G ρ H σ (σv++tv)->Sl G ρ H (σ.take σv.length) σv/\Sl G ρ H (σ.drop σv.length) tv
 |[],σ,tv,h=>⟨by simp[Sl],by simpa using h⟩
 |o::σv,[],tv,h=>by simp[Sl] at h
 |o::σv,none::r,tv,h=>by
  simp only[List.cons_append,Sl] at h
  obtain⟨o',q,e,h⟩:=h
  cases e
  obtain⟨h1,h2⟩:=Sl.split σv h
  simp only[List.length_cons,List.take_succ_cons,List.drop_succ_cons,Sl]
  exact⟨⟨_,_,rfl,h1⟩,h2⟩
 |o::σv,some d::r,tv,h=>by
  simp only[List.cons_append,Sl] at h
  obtain⟨o',q,e,h0,h⟩:=h
  cases e
  obtain⟨h1,h2⟩:=Sl.split σv h
  simp only[List.length_cons,List.take_succ_cons,List.drop_succ_cons,Sl]
  exact⟨⟨_,_,rfl,h0,h1⟩,h2⟩
theorem z1Q: ∀{σ:List (Option D)} {i:Nat} {d:D},σ[i]? =some (some d)->∀l∈labs d,l∈z06 σ
 |[],i,d,e,l,h=>by simp at e
 |none::r,i,d,e,l,h=>by
  simp only[z06]
  cases i with
  |zero=>simp at e
  |succ i=>exact z1Q (i:=i) (by simpa using e) l h
 |some d'::r,i,d,e,l,h=>by
  simp only[z06]
  cases i with
  |zero=>simp at e;subst e;exact List.mem_append_left _ h
  |succ i=>exact List.mem_append_right _ (z1Q (i:=i) (by simpa using e) l h)
theorem z2A: ∀{σ:List (Option D)} {i:Nat} {d:D} (l:Nat),l∈z06 (σ.set i (some d))->l∈z06 σ\/l∈labs d
 |[],i,d,l,h=>by simp[z06] at h
 |none::r,i,d,l,h=>by
  cases i with
  |zero=>
   simp only[List.set_cons_zero,z06] at h⊢
   rcases List.mem_append.mp h with h|h
   ·exact .inr h
   ·exact .inl h
  |succ i=>
   simp only[List.set_cons_succ,z06] at h⊢
   exact z2A l h
 |some d'::r,i,d,l,h=>by
  cases i with
  |zero=>
   simp only[List.set_cons_zero,z06] at h⊢
   rcases List.mem_append.mp h with h|h
   ·exact .inr h
   ·exact .inl (List.mem_append_right _ h)
  |succ i=>
   simp only[List.set_cons_succ,z06] at h⊢
   rcases List.mem_append.mp h with h|h
   ·exact .inl (List.mem_append_left _ h)
   ·rcases z2A l h with q|q
    ·exact .inl (List.mem_append_right _ q)
    ·exact .inr q
theorem z0g: ∀(σ σ':List (Option D)),z06 (σ++σ')=z06 σ++z06 σ'
 |[],_=>rfl
 |none::r,σ'=>by simp only[List.cons_append,z06,z0g r σ']
 |some d::r,σ'=>by simp only[List.cons_append,z06,z0g r σ',List.append_assoc]
theorem z0u: ∀(σ σ':List D),labsL (σ++σ')=labsL σ++labsL σ'
 |[],_=>rfl
 |d::r,σ'=>by simp only[List.cons_append,labsL,z0u r σ',List.append_assoc]
theorem labsL_mem: ∀{ds:List D} {d:D},d∈ds->∀l∈labs d,l∈labsL ds
 |_::ds,d,h,l,hl=>by
  simp only[labsL]
  rcases List.mem_cons.mp h with rfl|h
  ·exact List.mem_append_left _ hl
  ·exact List.mem_append_right _ (labsL_mem h l hl)
theorem z0Q: ∀{ds:List D} {l:Nat},l∈labsL ds->∃d∈ds,l∈labs d
 |d::ds,l,h=>by
  simp only[labsL] at h
  rcases List.mem_append.mp h with h|h
  ·exact⟨d,List.mem_cons_self ..,h⟩
  ·obtain⟨x,h1,h2⟩:=z0Q h
   exact⟨x,List.mem_cons_of_mem _ h1,h2⟩
theorem RDs.get: ∀{ds:List D} {xs:List V},RDs G ρ H ds xs->∀(i:Nat) (d:D),ds[i]? =some d->∃x,xs[i]? =some x/\RD G ρ H d x
 |[],_,_,i,d,e=>by simp at e
 |d'::r,_,h,i,d,e=>by
  simp only[RDs] at h
  obtain⟨x,q,rfl,h1,h2⟩:=h
  cases i with
  |zero=>simp at e;subst e;exact⟨x,rfl,h1⟩
  |succ i=>simpa using RDs.get h2 i d (by simpa using e)
theorem RDs.length: ∀{ds:List D} {xs:List V},RDs G ρ H ds xs->ds.length=xs.length
 |[],_,h=>by simp only[RDs] at h;subst h;rfl
 |d'::r,_,h=>by
  simp only[RDs] at h
  obtain⟨x,q,rfl,h1,h2⟩:=h
  simp[RDs.length h2]
theorem RDs.append: ∀{ds es:List D} {xs ys:List V},RDs G ρ H ds xs->RDs G ρ H es ys->RDs G ρ H (ds++es) (xs++ys)
 |[],_,_,_,h,h'=>by simp only[RDs] at h;subst h;exact h'
 |d'::r,_,_,_,h,h'=>by
  simp only[RDs] at h
  obtain⟨x,q,rfl,h1,h2⟩:=h
  simp only[List.cons_append,RDs]
  exact⟨_,_,rfl,h1,RDs.append h2 h'⟩
theorem RDs.one{d:D}{x:V}(h:RD G ρ H d x):RDs G ρ H [d] [x]:=by simp only[RDs];exact⟨_,_,rfl,h,rfl⟩
theorem RDs.take: ∀{ds:List D} {xs:List V} (k:Nat),RDs G ρ H ds xs->RDs G ρ H (ds.take k) (xs.take k)
 |_,_,0,_=>by simp[RDs]
 |[],_,k+1,h=>by simp only[RDs] at h;subst h;simp[RDs]
 |d'::r,_,k+1,h=>by
  simp only[RDs] at h
  obtain⟨x,q,rfl,h1,h2⟩:=h
  simp only[List.take_succ_cons,RDs]
  exact⟨_,_,rfl,h1,RDs.take k h2⟩
theorem RDs.drop: ∀{ds:List D} {xs:List V} (k:Nat),RDs G ρ H ds xs->RDs G ρ H (ds.drop k) (xs.drop k)
 |_,_,0,h=>h
 |[],_,k+1,h=>by simp only[RDs] at h;subst h;simp[RDs]
 |d'::r,_,k+1,h=>by
  simp only[RDs] at h
  obtain⟨x,q,rfl,h1,h2⟩:=h
  simp only[List.drop_succ_cons]
  exact RDs.drop k h2
theorem RDs.set: ∀{ds:List D} {xs:List V} (k:Nat),RDs G ρ H ds xs->RD G ρ H t v->RDs G ρ H (ds.set k t) (xs.set k v)
 |[],_,k,h,_=>by simp only[RDs] at h;subst h;simp[RDs]
 |d'::r,_,0,h,ht=>by
  simp only[RDs] at h
  obtain⟨x,q,rfl,h1,h2⟩:=h
  simp only[List.set_cons_zero,RDs];exact⟨_,_,rfl,ht,h2⟩
 |d'::r,_,k+1,h,ht=>by
  simp only[RDs] at h
  obtain⟨x,q,rfl,h1,h2⟩:=h
  simp only[List.set_cons_succ,RDs];exact⟨_,_,rfl,h1,RDs.set k h2 ht⟩
theorem MR.pop{o:Option V}{r:Option D}(M:MR G F ρ H σv (o::tv) {s with tm:=r::s.tm}):MR G F ρ H σv tv s where
 sl:=M.sl
 tm:=by
  have h:=M.tm
  cases r with
  |none=>simp only[Sl] at h;obtain⟨_,_,e,h⟩:=h;cases e;exact h
  |some t=>simp only[Sl] at h;obtain⟨_,_,e,_,h⟩:=h;cases e;exact h
 inj:=M.inj
 dom:=M.dom
 lab:=fun l h=>M.lab l (by
  rcases List.mem_append.mp h with h|h
  ·exact List.mem_append_left _ h
  ·refine List.mem_append_right _ ?_
   cases r with
   |none=>exact h
   |some t=>exact List.mem_append_right _ h)
 own:=fun l h=>M.own l (by
  rcases List.mem_append.mp h with h|h
  ·exact List.mem_append_left _ h
  ·refine List.mem_append_right _ ?_
   cases r with
   |none=>exact h
   |some t=>exact List.mem_append_right _ h)
 frm:=M.frm
 kd:=M.kd
 frb:=M.frb
 bas:=M.bas
theorem MR.top(M:MR G F ρ H σv (some v::tv) (s.psh t)):RD G ρ H t v:=by
 have h:=M.tm
 have h:Sl G ρ H (some t::s.tm) (some v::tv):=h
 simp only[Sl] at h
 obtain⟨_,_,e,h,_⟩:=h
 cases e
 exact h
theorem MR.topl(M:MR G F ρ H σv tv (s.psh t)): ∀l∈labs t,l<s.n/\(F.A0 (ρ l)\/F.H0 (ρ l)=none):=fun l h=>
 have m:l∈z0E (s.psh t):=List.mem_append_right _ (List.mem_append_left _ h)
 ⟨M.lab l m,M.own l m⟩
theorem MR.same(M:MR G F ρ H σv tv s)(h:Same H H')(k:KD G.K H'):MR G F ρ H' σv tv s where
 sl:=Sl.stay (z0L.of h) M.sl fun l _=>⟨rfl,fun o e=>h _ _ e⟩
 tm:=Sl.stay (z0L.of h) M.tm fun l _=>⟨rfl,fun o e=>h _ _ e⟩
 inj:=M.inj
 dom:=fun l hl=>let⟨o,e⟩:=M.dom l hl;⟨o,h _ _ e⟩
 lab:=M.lab
 own:=M.own
 frm:=fun a o e=>let⟨⟨o',e1⟩,e2⟩:=M.frm a o e;⟨⟨o',h _ _ e1⟩,fun n=>h _ _ (e2 n)⟩
 kd:=k
 frb:=M.frb
 bas:=M.bas
theorem RDs.same{ts:List D}{vs:List V}(h:Same H H')(r:RDs G ρ H ts vs):RDs G ρ H' ts vs:=RDs.stay (z0L.of h) ts vs r fun l _=>⟨rfl,fun o e=>h _ _ e⟩
noncomputable def ext(ρ:Nat->Addr)(n:Nat)(p:Addr):Nat->Addr:=fun l=>if l=n then p else ρ l
theorem z0m{n l:Nat}{p:Addr}(h:l<n):ext ρ n p l=ρ l:=by unfold ext;rw[if_neg (by lia)]
theorem z0H{n:Nat}{p:Addr}:ext ρ n p n=p:=by unfold ext;rw[if_pos rfl]
theorem MR.new{p:Addr}{o:HO}(M:MR G F ρ H σv tv s)(hp:H p=none)(k:KD G.K (upd H p o)):MR G F (ext ρ s.n p) (upd H p o) σv tv s.nxt where
 sl:=Sl.stay (z0L.of (Same.new o hp)) M.sl fun l hl=>⟨z0m (M.lab l (List.mem_append_left _ hl)),fun o e=>Same.new _ hp _ _ e⟩
 tm:=Sl.stay (z0L.of (Same.new o hp)) M.tm fun l hl=>⟨z0m (M.lab l (List.mem_append_right _ hl)),fun o e=>Same.new _ hp _ _ e⟩
 inj:=fun i j hi hj e=>by
  have hi:i<s.n+1:=hi
  have hj:j<s.n+1:=hj
  have nn: ∀i,i<s.n->ρ i≠p:=fun i h e=>by
   obtain⟨o,q⟩:=M.dom i h
   rw[e,hp] at q;cases q
  by_cases h1:i=s.n
  ·by_cases h2:j=s.n
   ·lia
   ·rw[h1,z0H,z0m (by lia)] at e
    exact absurd e.symm (nn j (by lia))
  ·by_cases h2:j=s.n
   ·rw[h2,z0H,z0m (by lia)] at e
    exact absurd e (nn i (by lia))
   ·rw[z0m (by lia),z0m (by lia)] at e
    exact M.inj i j (by lia) (by lia) e
 dom:=fun l hl=>by
  have hl:l<s.n+1:=hl
  by_cases h1:l=s.n
  ·subst h1;rw[z0H];exact⟨o,z04⟩
  ·rw[z0m (by lia)]
   obtain⟨o',e⟩:=M.dom l (by lia)
   exact⟨o',Same.new _ hp _ _ e⟩
 lab:=fun l h=>Nat.lt_succ_of_lt (M.lab l h)
 own:=fun l h=>by rw[z0m (M.lab l h)];exact M.own l h
 frm:=fun a o e=>let⟨⟨o',e1⟩,e2⟩:=M.frm a o e;⟨⟨o',Same.new _ hp _ _ e1⟩,fun n=>Same.new _ hp _ _ (e2 n)⟩
 kd:=k
 frb:=fun l hl=>by
  have hl:l<s.n+1:=hl
  by_cases h1:l=s.n
  ·subst h1;rw[z0H]
   intro z
   obtain⟨⟨o,e⟩,_⟩:=F.zA p z
   obtain⟨⟨o',e'⟩,_⟩:=M.frm p o e
   rw[hp] at e';cases e'
  ·rw[z0m (by lia)]
   exact M.frb l (by lia)
 bas:=⟨Nat.le_succ_of_le M.bas.1,fun l hl=>by rw[z0m (Nat.lt_of_lt_of_le hl M.bas.1)];exact M.bas.2 l hl⟩
theorem MR.fresh0{p:Addr}(M:MR G F ρ H σv tv s)(hp:H p=none):F.H0 p=none:=by
 cases q:F.H0 p with
 |none=>rfl
 |some o=>
  obtain⟨⟨o',e⟩,_⟩:=M.frm p o q
  rw[hp] at e;cases e
noncomputable def Stt.put(s:Stt)(l:Nat)(d:D):Stt:={s with σ:=rpO (fun k=>if k=l then some d else none) s.σ,tm:=rpO (fun k=>if k=l then some d else none) s.tm}
end
inductive Res(α:Type) where
 |ok (a:α) (s:Stt)|ex (d:D) (s:Stt)|no
noncomputable abbrev M(α:Type):=Stt->Res α
noncomputable def bd{α β:Type}(m:M α)(f:α->M β):M β:=fun s=>match m s with
 | .ok a s'=>f a s'
 | .ex d s'=> .ex d s'
 | .no=> .no
noncomputable def rt{α:Type}(a:α):M α:=fun s=> .ok a s
noncomputable def fl{α:Type}:M α:=fun _=> .no
noncomputable def psh(t:D):M Unit:=fun s=> .ok () (s.psh t)
noncomputable def pop:M D:=fun s=>match s.tm with
 |some t::r=> .ok t {s with tm:=r}
 |_=> .no
structure Fy extends Fx where
 tv0:List (Option V)
 xw:D->Stt->Prop
structure MRL(G:Gx)(F:Fx)(ρ:Nat->Addr)(H:Hp)(σv tv:List (Option V))(s:Stt)(ts:List D)(vs:List V):Prop where
 m:MR G F ρ H σv tv s
 rd:RDs G ρ H ts vs
 lb: ∀l∈labsL ts,l<s.n/\(F.A0 (ρ l)\/F.H0 (ρ l)=none)
section
variable{G:Gx}{F:Fy}{ρ ρ':Nat->Addr}{H H':Hp}{σv tv:List (Option V)}{s:Stt}{t t':D}{v u:V}{ts:List D}{vs:List V}{Q:VK}
theorem MRL.rd1(M:MRL G F.toFx ρ H σv tv s [t] [v]):RD G ρ H t v:=by
 have h:=M.rd
 simp only[RDs] at h
 obtain⟨_,_,e,h,_⟩:=h
 cases e;exact h
theorem MRL.rd2(M:MRL G F.toFx ρ H σv tv s [t,t'] [v,u]):RD G ρ H t v/\RD G ρ H t' u:=by
 have h:=M.rd
 simp only[RDs] at h
 obtain⟨_,_,e,h,_,_,e',h',_⟩:=h
 cases e;cases e';exact⟨h,h'⟩
theorem MRL.push(M:MRL G F.toFx ρ H σv tv s [t] [v]):MR G F.toFx ρ H σv (some v::tv) (s.psh t):=by
 have hl: ∀l∈labs t,l<s.n/\(F.A0 (ρ l)\/F.H0 (ρ l)=none):=fun l h=>M.lb l (by simp only[labsL,List.append_nil];exact h)
 refine⟨M.m.sl, ?_,M.m.inj,M.m.dom,fun l h=> ?_,fun l h=> ?_,M.m.frm,M.m.kd,M.m.frb,M.m.bas⟩
 ·show Sl G ρ H (some t::s.tm) _
  simp only[Sl]
  exact⟨v,tv,rfl,M.rd1,M.m.tm⟩
 ·have h:l∈z06 s.σ++(labs t++z06 s.tm):=h
  rcases List.mem_append.mp h with h|h
  ·exact M.m.lab l (List.mem_append_left _ h)
  ·rcases List.mem_append.mp h with h|h
   ·exact(hl l h).1
   ·exact M.m.lab l (List.mem_append_right _ h)
 ·have h:l∈z06 s.σ++(labs t++z06 s.tm):=h
  rcases List.mem_append.mp h with h|h
  ·exact M.m.own l (List.mem_append_left _ h)
  ·rcases List.mem_append.mp h with h|h
   ·exact(hl l h).2
   ·exact M.m.own l (List.mem_append_right _ h)
theorem MRL.down{s':Stt}{r:List (Option D)}(M:MRL G F.toFx ρ H σv (some v::tv) s' ts vs)(e:s'.tm=some t::r):MRL G F.toFx ρ H σv tv {s' with tm:=r} (t::ts) (v::vs):=by
 obtain⟨σ,tm,n⟩:=s'
 have e:tm=some t::r:=e
 subst e
 refine⟨MR.pop (s:=⟨σ,r,n⟩) M.m, ?_,fun l h=> ?_⟩
 ·simp only[RDs]
  exact⟨v,vs,rfl,MR.top (s:=⟨σ,r,n⟩) M.m,M.rd⟩
 ·simp only[labsL] at h
  rcases List.mem_append.mp h with h|h
  ·exact MR.topl (s:=⟨σ,r,n⟩) M.m l h
  ·exact M.lb l h
noncomputable def wM(G:Gx)(F:Fy)(σv tv:List (Option V))(r:Res D)(Q:VK):Prop:=match r with
 | .ok t s'=> ∀ρ' v H',MRL G F.toFx ρ' H' σv tv s' [t] [v]->Q v H'
 | .ex d s'=>F.xw d s'
 | .no=>False
noncomputable def wL(G:Gx)(F:Fy)(σv tv:List (Option V))(r:Res (List D))(Q:List V->Hp->Prop):Prop:=match r with
 | .ok ts s'=> ∀ρ' vs H',MRL G F.toFx ρ' H' σv tv s' ts vs->Q vs H'
 | .ex d s'=>F.xw d s'
 | .no=>False
noncomputable def wB(G:Gx)(F:Fy)(σv tv:List (Option V))(r:Res Bool)(Q:Bool->Hp->Prop):Prop:=match r with
 | .ok b s'=> ∀ρ' H',MR G F.toFx ρ' H' σv tv s'->Q b H'
 | .ex d s'=>F.xw d s'
 | .no=>False
noncomputable def tMv(G:Gx)(F:Fy)(m:M D)(σv tv:List (Option V))(H:Hp)(Q:VK):Prop:=F.tv0<:+tv/\∃ρ s,MR G F.toFx ρ H σv tv s/\wM G F σv tv (m s) Q
noncomputable def tLv(G:Gx)(F:Fy)(m:M (List D))(σv tv:List (Option V))(H:Hp)(Q:List V->Hp->Prop):Prop:=F.tv0<:+tv/\∃ρ s,MR G F.toFx ρ H σv tv s/\wL G F σv tv (m s) Q
noncomputable def tBv(G:Gx)(F:Fy)(m:M Bool)(σv tv:List (Option V))(H:Hp)(Q:Bool->Hp->Prop):Prop:=F.tv0<:+tv/\∃ρ s,MR G F.toFx ρ H σv tv s/\wB G F σv tv (m s) Q
noncomputable def tM(G:Gx)(F:Fy)(m:M D):TE:=fun σv H Q=> ∃tv,tMv G F m σv tv H Q
noncomputable def tML(G:Gx)(F:Fy)(m:M (List D)):TA:=fun σv H Q=> ∃tv,tLv G F m σv tv H Q
noncomputable def tMB(G:Gx)(F:Fy)(m:M Bool):TT:=fun σv H Q=> ∃tv,tBv G F m σv tv H Q
noncomputable def SE(X:Cx)(G:Gx)(F:Fy)(e:Expr)(m:M D):Prop:=PE X e (tM G F m)
noncomputable def SA(X:Cx)(G:Gx)(F:Fy)(es:List Expr)(m:M (List D)):Prop:=PA X es (tML G F m)
noncomputable def SB(X:Cx)(G:Gx)(F:Fy)(e:Expr)(m:M Bool):Prop:=PT X e (tMB G F m)
theorem suf1{o:Option V}(h:F.tv0<:+tv):F.tv0<:+o::tv:=h.trans (List.suffix_cons _ _)
theorem z74{m:M D}{f:D->M D}(h:tMv G F (bd m f) σv tv H Q):tMv G F m σv tv H (fun v H1=> ∃ρ1 s1 t,MRL G F.toFx ρ1 H1 σv tv s1 [t] [v]/\wM G F σv tv (f t s1) Q):=by
 obtain⟨hs,ρ,s,M,W⟩:=h
 refine⟨hs,ρ,s,M, ?_⟩
 unfold bd at W
 cases e:m s with
 |ok t s1=>rw[e] at W;exact fun ρ1 v H1 M1=>⟨ρ1,s1,t,M1,W⟩
 |ex d s1=>rw[e] at W;exact W
 |no=>rw[e] at W;exact W
noncomputable def mBin(ma mb:M D)(g:D->D->M D):M D:=bd ma fun x=>bd (psh x) fun _=>bd mb fun y=>bd pop fun x'=>g x' y
theorem z75{ma mb:M D}{g:D->D->M D}(h:tMv G F (mBin ma mb g) σv tv H Q):
 tMv G F ma σv tv H (fun v H1=>tMv G F mb σv (some v::tv) H1 (fun u H2=> ∃ρ2 s2 t t',MRL G F.toFx ρ2 H2 σv tv s2 [t,t'] [v,u]/\wM G F σv tv (g t t' s2) Q)):=by
 have h':=z74 h
 obtain⟨hs,ρ,s,M,W⟩:=h'
 refine⟨hs,ρ,s,M, ?_⟩
 cases e:ma s with
 |ok t s1=>
  rw[e] at W
  intro ρ1 v H1 M1
  obtain⟨ρ1,s1,t,M1,W⟩:=W ρ1 v H1 M1
  refine⟨suf1 hs,ρ1,s1.psh t,M1.push, ?_⟩
  simp only[bd,psh] at W
  cases e2:mb (s1.psh t) with
  |ok y s2=>
   rw[e2] at W
   intro ρ2 u H2 M2
   simp only[pop] at W
   cases e3:s2.tm with
   |nil=>rw[e3] at W;exact W.elim
   |cons o r=>
    cases o with
    |none=>rw[e3] at W;exact W.elim
    |some t'=>
     rw[e3] at W
     exact⟨ρ2,{s2 with tm:=r},t',y,M2.down e3,W⟩
  |ex d s2=>rw[e2] at W;exact W
  |no=>rw[e2] at W;exact W
 |ex d s1=>rw[e] at W;exact W
 |no=>rw[e] at W;exact W
noncomputable def z09:List (M D)->M (List D)
 |[]=>rt []
 |m::ms=>bd m fun x=>bd (psh x) fun _=>bd (z09 ms) fun ys=>bd pop fun x'=>rt (x'::ys)
end
section
variable{X:Cx}{G:Gx}{F:Fy}{e a b c:Expr}{pos:Pos}
theorem Inv.kd{pins:List (Addr×Obj)}{σ:St}{H:Hp}{s:Shared}(I:Inv X pins σ H s):KD X.K H:=fun a o e=>(I.bs a o (I.ok.mod.kin a o e)).2
theorem PE.imp{t t':TE}(hk:X.K=G.K)(h:PE X e t)(hi: ∀σ H Q,t' σ H Q->t σ H (fun v H'=>KD G.K H'->Q v H')):PE X e t':=fun pins s σ H Q I q=>
 thn (h pins s σ H _ I (hi σ H Q q)) fun u s' ⟨v,H',I',r,k⟩=>⟨v,H',I',r,k (hk▸Inv.kd I')⟩
theorem PT.imp{t t':TT}(hk:X.K=G.K)(h:PT X e t)(hi: ∀σ H Q,t' σ H Q->t σ H (fun v H'=>KD G.K H'->Q v H')):PT X e t':=fun pins s σ H Q I q=>
 thn (h pins s σ H _ I (hi σ H Q q)) fun u s' ⟨H',I',k⟩=>⟨H',I',k (hk▸Inv.kd I')⟩
theorem PA.imp{es:List Expr}{t t':TA}(hk:X.K=G.K)(h:PA X es t)(hi: ∀σ H Q,t' σ H Q->t σ H (fun v H'=>KD G.K H'->Q v H')):PA X es t':=fun pos pins s σ H Q I q=>
 thn (h pos pins s σ H _ I (hi σ H Q q)) fun u s' ⟨v,H',I',r,k⟩=>⟨v,H',I',r,k (hk▸Inv.kd I')⟩
noncomputable def OpOK(G:Gx)(F:Fy)(r:R2)(g:D->D->M D):Prop:= ∀ρ s t t' v u H σv tv Q,MRL G F.toFx ρ H σv tv s [t,t'] [v,u]->wM G F σv tv (g t t' s) Q->r v u H (fun w H'=>KD G.K H'->Q w H')
noncomputable def z3D(G:Gx)(F:Fy)(r:R2)(g:D->D->M D):Prop:= ∀ρ s t t' v u H σv tv Q,MRL G F.toFx ρ H σv tv s [t,t'] [v,u]->wM G F σv tv (g t t' s) Q->r v u H Q
noncomputable def UnOK(G:Gx)(F:Fy)(r:V->Hp->VK->Prop)(g:D->M D):Prop:= ∀ρ s t v H σv tv Q,MRL G F.toFx ρ H σv tv s [t] [v]->wM G F σv tv (g t s) Q->r v H (fun w H'=>KD G.K H'->Q w H')
noncomputable def z0V(G:Gx)(F:Fy)(r:List V->Hp->VK->Prop)(g:List D->M D):Prop:= ∀ρ s ts vs H σv tv Q,MRL G F.toFx ρ H σv tv s ts vs->wM G F σv tv (g ts s) Q->r vs H (fun w H'=>KD G.K H'->Q w H')
theorem z6b{op:Operator}{r:R2}{ma mb:M D}{g:D->D->M D}(hk:X.K=G.K)(ho:OpR X (binaryOp op) r)(hg:OpOK G F r g)(ha:SE X G F a ma)(hb:SE X G F b mb):SE X G F (.BinOp a op b pos) (mBin ma mb g):=by
 refine PE.imp hk (zdD ho ha hb) fun σ H Q ⟨tv,h⟩=>⟨tv, ?_⟩
 obtain⟨hs,ρ,s,M,W⟩:=z75 h
 refine⟨hs,ρ,s,M, ?_⟩
 cases e:ma s with
 |ok t s1=>
  rw[e] at W
  intro ρ1 v H1 M1
  refine⟨some v::tv, ?_⟩
  obtain⟨hs2,ρ2,s2,M2,W2⟩:=W ρ1 v H1 M1
  refine⟨hs2,ρ2,s2,M2, ?_⟩
  cases e2:mb s2 with
  |ok t2 s3=>
   rw[e2] at W2
   intro ρ3 u H3 M3
   obtain⟨ρ4,s4,x,y,M4,W4⟩:=W2 ρ3 u H3 M3
   exact hg _ _ _ _ _ _ _ _ _ _ M4 W4
  |ex d s3=>rw[e2] at W2;exact W2
  |no=>rw[e2] at W2;exact W2
 |ex d s1=>rw[e] at W;exact W
 |no=>rw[e] at W;exact W
theorem wM.mono{σv tv:List (Option V)}{r:Res D}{Q Q':VK}(h:wM G F σv tv r Q)(k: ∀v H,Q v H->Q' v H):wM G F σv tv r Q':=by
 cases r with
 |ok t s=>exact fun ρ v H M=>k _ _ (h ρ v H M)
 |ex d s=>exact h
 |no=>exact h
theorem tMv.mono{m:M D}{σv tv:List (Option V)}{H:Hp}{Q Q':VK}(h:tMv G F m σv tv H Q)(k: ∀v H,Q v H->Q' v H):tMv G F m σv tv H Q':=by
 obtain⟨hs,ρ,s,M,W⟩:=h
 exact⟨hs,ρ,s,M,W.mono k⟩
theorem z76{ma mb:M D}{g:D->D->M D}{R:V->V->Hp->VK->Prop}{σv:St}{H:Hp}{Q:VK}(hg:OpOK G F R g)(h:tM G F (mBin ma mb g) σv H Q):
 tM G F ma σv H fun x H1=>tM G F mb σv H1 fun y H2=>R x y H2 fun w H'=>KD G.K H'->Q w H':=by
 obtain⟨tv,h⟩:=h
 exact⟨tv,(z75 h).mono fun v H1 h1=>⟨_,h1.mono fun u H2 ⟨ρ,s,t,t',M,W⟩=>hg _ _ _ _ _ _ _ _ _ _ M W⟩⟩
theorem zbX{ma:M D}{g:D->M D}{R:V->Hp->VK->Prop}{σv:St}{H:Hp}{Q:VK}(hg:UnOK G F R g)(h:tM G F (bd ma g) σv H Q):
 tM G F ma σv H fun x H1=>R x H1 fun w H'=>KD G.K H'->Q w H':=by
 obtain⟨tv,h⟩:=h
 exact⟨tv,(z74 h).mono fun v H1 ⟨ρ,s,t,M,W⟩=>hg _ _ _ _ _ _ _ _ M W⟩
theorem zdY{op:UnaryOp}{r:V->Hp->VK->Prop}{ma:M D}{g:D->M D}(hk:X.K=G.K)(ho:UnR X (unaryOp op) r)(hg:UnOK G F r g)(ha:SE X G F a ma):SE X G F (.UnaryOp op a pos) (bd ma g):=
 PE.imp hk (zbm ho ha) fun _ _ _ h=>zbX hg h
theorem z5z{ma mb:M D}{g:D->D->M D}{R:V->V->Hp->VK->Prop}{σv:St}{H:Hp}{Q:VK}(hg:z3D G F R g)(h:tM G F (mBin ma mb g) σv H Q):
 tM G F ma σv H fun x H1=>tM G F mb σv H1 fun y H2=>R x y H2 Q:=by
 obtain⟨tv,h⟩:=h
 exact⟨tv,(z75 h).mono fun v H1 h1=>⟨_,h1.mono fun u H2 ⟨ρ,s,t,t',M,W⟩=>hg _ _ _ _ _ _ _ _ _ _ M W⟩⟩
theorem PE.imp0{t t':TE}(h:PE X e t)(hi: ∀σ H Q,t' σ H Q->t σ H Q):PE X e t':=fun pins s σ H Q I q=>h pins s σ H _ I (hi σ H Q q)
theorem PT.imp0{t t':TT}(h:PT X e t)(hi: ∀σ H Q,t' σ H Q->t σ H Q):PT X e t':=fun pins s σ H Q I q=>h pins s σ H _ I (hi σ H Q q)
theorem za8{op:CmpOp}{r:R2}{ma mb:M D}{g:D->D->M D}(ho:OpR X (compareOp op) r)(hg:z3D G F r g)(ha:SE X G F a ma)(hb:SE X G F b mb)(hm:behindInMarks op b=false):SE X G F (.Compare a [op] [b] pos) (mBin ma mb g):=
 PE.imp0 (z9I ho ha hb hm) fun _ _ _ h=>z5z hg h
theorem zdZ{r:R2}{ma mb:M D}{g:D->D->M D}(hk:X.K=G.K)(ho:IxR X r)(hg:OpOK G F r g)(ha:SE X G F a ma)(hb:SE X G F b mb)(hs:z1l b):SE X G F (.Subscript a b pos) (mBin ma mb g):=
 PE.imp hk (zdM ho ha hb hs) fun _ _ _ h=>z76 hg h
theorem zbY(hk:X.K=G.K):SA X G F [] (z09 []):=by
 refine PA.imp hk z91 fun σ H Q ⟨tv,hs,ρ,s,M,W⟩ _=>W ρ [] H ⟨M,rfl,fun l h=>by simp[labsL] at h⟩
noncomputable def nst:Expr->Bool
 | .Starred _ _=>false
 |_=>true
theorem z77{es:List Expr}{env:Env}(h:nst e=true):starEach (e::es) env=(false,eval e env)::starEach es env:=by
 cases e<;>first|rfl|exact Bool.noConfusion h
theorem za9{es:List Expr}{m:M D}{ms:List (M D)}(hk:X.K=G.K)(ha:SE X G F e m)(hr:SA X G F es (z09 ms))(hs:nst e=true:=by rfl):SA X G F (e::es) (z09 (m::ms)):=by
 refine PA.imp hk (z4Q ha hr (z77 hs)) fun σ H Q ⟨tv,hs,ρ,s,M,W⟩=>⟨tv,hs,ρ,s,M, ?_⟩
 unfold z09 at W
 simp only[bd,psh] at W
 cases e:m s with
 |ok t s1=>
  rw[e] at W
  intro ρ1 v H1 M1
  refine⟨some v::tv,suf1 hs,ρ1,s1.psh t,M1.push, ?_⟩
  dsimp only at W
  cases e2:z09 ms (s1.psh t) with
  |ok ys s2=>
   rw[e2] at W
   intro ρ2 us H2 M2 _
   simp only[pop,rt] at W
   cases e3:s2.tm with
   |nil=>rw[e3] at W;exact W.elim
   |cons o r=>
    cases o with
    |none=>rw[e3] at W;exact W.elim
    |some t'=>
     rw[e3] at W
     exact W ρ2 (v::us) H2 (M2.down e3)
  |ex d s2=>rw[e2] at W;exact W
  |no=>rw[e2] at W;exact W
 |ex d s1=>rw[e] at W;exact W
 |no=>rw[e] at W;exact W
noncomputable def mCB(ms:List (M D))(g:List D->M D):M D:=bd (z09 ms) g
theorem z2k{ma:M (List D)}{g:List D->M D}{R:List V->Hp->VK->Prop}{σv:St}{H:Hp}{Q:VK}(hg:z0V G F R g)(h:tM G F (bd ma g) σv H Q):
 tML G F ma σv H fun xs H1=>R xs H1 fun w H'=>KD G.K H'->Q w H':=by
 obtain⟨tv,hs,ρ,s,M,W⟩:=h
 refine⟨tv,hs,ρ,s,M, ?_⟩
 unfold bd at W
 cases e:ma s with
 |ok ts s1=>rw[e] at W;exact fun ρ1 vs H1 M1=>hg _ _ _ _ _ _ _ _ M1 W
 |ex d s1=>rw[e] at W;exact W
 |no=>rw[e] at W;exact W
theorem z8n{x:Str}{p:Pos}{es:List Expr}{ms:List (M D)}{g:List D->M D}{id:String}{r:List V->Hp->VK->Prop}(hk:X.K=G.K)(hc:CallR X (.builtin id) r)(hg:z0V G F r g)(hgl:Gl X x)(hm:X.mg x=none)(hv:bootBuiltins x=some (.builtin id))(ha:SA X G F (e::es) (z09 ms))(hn:x≠ "__name__" :=by decide)(hdb:(x==("__debug__" :Str))=false:=by decide)
 (he:starEach (e::es) X.env=(false,eval e X.env)::starEach es X.env:=by rfl) (hpl:(backTo pos (starEach es X.env)).any (·.1)=false:=by rfl):SE X G F (.Call (.Name x p) (e::es) [] pos) (mCB ms g):=
 PE.imp hk (z5s hc hgl hm hv ha hn hdb he hpl) fun _ _ _ h=>z2k hg h
theorem z78{x:Str}{p:Pos}{es:List Expr}{ms:List (M D)}{g:List D->M D}{T:String}{r:List V->Hp->VK->Prop}(hk:X.K=G.K)(hc:CallR X (.type T) r)(hg:z0V G F r g)(hgl:Gl X x)(hm:X.mg x=none)(hv:bootBuiltins x=some (.type T))(ha:SA X G F (e::es) (z09 ms))(hn:x≠ "__name__" :=by decide)(hdb:(x==("__debug__" :Str))=false:=by decide)
 (he:starEach (e::es) X.env=(false,eval e X.env)::starEach es X.env:=by rfl) (hpl:(backTo pos (starEach es X.env)).any (·.1)=false:=by rfl):SE X G F (.Call (.Name x p) (e::es) [] pos) (mCB ms g):=
 PE.imp hk (z6K hc hgl hm hv ha hn hdb he hpl) fun _ _ _ h=>z2k hg h
noncomputable def mVar(i:Nat):M D:=fun s=>match s.σ[i]? with
 |some (some t)=> .ok t s
 |_=> .no
theorem se_var(i:Nat){x:Str}(hk:X.K=G.K)(h:PE X (.Name x pos) (tVar i)):SE X G F (.Name x pos) (mVar i):=by
 refine PE.imp hk h fun σ H Q ⟨tv,hs,ρ,s,M,W⟩=> ?_
 unfold mVar at W
 cases e:s.σ[i]? with
 |none=>rw[e] at W;exact W.elim
 |some o=>
  cases o with
  |none=>rw[e] at W;exact W.elim
  |some t=>
   rw[e] at W
   obtain⟨v,h1,h2⟩:=M.sl.get i t e
   refine⟨v,h1,fun _=>W ρ v H ⟨M,RDs.one h2,fun l hl=> ?_⟩⟩
   simp only[labsL,List.append_nil] at hl
   have:=z1Q e l hl
   exact⟨M.lab l (List.mem_append_left _ this),M.own l (List.mem_append_left _ this)⟩
noncomputable def cV:D->Option V
 | .non=>some .non| .bool b=>some (.bl b)| .int i=>some (.int i)| .str x=>some (.str x)|_=>none
theorem z8o{d:D}{v:V}{ρ:Nat->Addr}{H:Hp}(h:cV d=some v):RD G ρ H d v/\labs d=[]:=by
 cases d<;>simp only[cV,Option.some.injEq] at h<;>first|(subst h;exact⟨by simp only[RD],by simp only[labs]⟩)|cases h
noncomputable def mC(d:D):M D:=rt d
theorem se_c{d:D}{v:V}(hk:X.K=G.K)(h:PE X e (tC v))(hd:cV d=some v:=by rfl):SE X G F e (mC d):=by
 refine PE.imp hk h fun σ H Q ⟨tv,hs,ρ,s,M,W⟩ _=>W ρ v H ⟨M,RDs.one (z8o hd).1,fun l hl=> ?_⟩
 simp only[labsL,(z8o (G:=G) (ρ:=ρ) (H:=H) hd).2] at hl
 cases hl
theorem wM.out{σv tv:List (Option V)}{s:Stt}{t:D}{v:V}{ρ:Nat->Addr}{H:Hp}{Q:VK}(W:wM G F σv tv (.ok t s) Q)(M:MR G F.toFx ρ H σv tv s)(h:RD G ρ H t v)(hl: ∀l∈labs t,l<s.n/\(F.A0 (ρ l)\/F.H0 (ρ l)=none)):Q v H:=
 W ρ v H ⟨M,RDs.one h,fun l q=>hl l (by simpa only[labsL,List.append_nil] using q)⟩
theorem wM.flat{σv tv:List (Option V)}{s:Stt}{t:D}{v:V}{ρ:Nat->Addr}{H:Hp}{Q:VK}(W:wM G F σv tv (.ok t s) Q)(M:MR G F.toFx ρ H σv tv s)(h:cV t=some v):Q v H:=
 W.out M (z8o h).1 fun l q=>by rw[(z8o (G:=G) (ρ:=ρ) (H:=H) h).2] at q;cases q
end
mutual
noncomputable def er:D->PyData
 | .non=> .none| .bool b=> .bool b| .int i=> .int i| .str x=> .str x
 | .tup ds=> .tuple (erL ds)
 | .ro ds=> .list (erL ds)
 | .lst _ ds=> .list (erL ds)
 | .dct _ _ _=> .none
 | .obj _ _ _ _=> .none
 | .exc _=> .none| .fn _=> .none| .fdc _ _=> .none
noncomputable def erL:List D->List PyData
 |[]=>[]
 |d::ds=>er d::erL ds
end
mutual
noncomputable def plain:D->Bool
 | .non=>true| .bool _=>true| .int _=>true| .str _=>true
 | .tup ds=>plainL ds
 | .ro ds=>plainL ds
 | .lst _ ds=>plainL ds
 | .dct _ _ _=>false
 | .obj _ _ _ _=>false
 | .exc _=>false| .fn _=>false| .fdc _ _=>false
noncomputable def plainL:List D->Bool
 |[]=>true
 |d::ds=>plain d&&plainL ds
end
noncomputable def seqD:D->Option (List D)
 | .tup ds=>some ds| .ro ds=>some ds| .lst _ ds=>some ds|_=>none
noncomputable def lstD:D->Option (List D)
 | .ro ds=>some ds| .lst _ ds=>some ds|_=>none
section
variable{G:Gx}{F:Fy}{ρ:Nat->Addr}{H H':Hp}{σv tv:List (Option V)}{s:Stt}{t t':D}{v u:V}{ts ds:List D}{vs xs:List V}{Q:VK}
mutual
theorem RD.dp: ∀(t:D) (v:V),RD G ρ H t v->plain t=true->Dp G.K H (er t) v
 | .non,v,h,_=>by simp only[RD,er,Dp] at h⊢;exact h
 | .bool b,v,h,_=>by simp only[RD,er,Dp] at h⊢;exact h
 | .int b,v,h,_=>by simp only[RD,er,Dp] at h⊢;exact h
 | .str b,v,h,_=>by simp only[RD,er,Dp] at h⊢;exact h
 | .tup ds,v,h,p=>by
  simp only[RD,er,Dp,plain] at h p⊢
  obtain⟨a,xs,e,s,r⟩:=h
  exact⟨a,xs,e,SqT.of s,RDs.dp ds xs r p⟩
 | .ro ds,v,h,p=>by
  simp only[RD,er,Dp,plain] at h p⊢
  obtain⟨a,xs,e,s,r⟩:=h
  exact⟨a,xs,e,s.sq,RDs.dp ds xs r p⟩
 | .lst l ds,v,h,p=>by
  simp only[RD,er,Dp,plain] at h p⊢
  obtain⟨e,xs,s,r⟩:=h
  exact⟨_,xs,e,SqL.of s,RDs.dp ds xs r p⟩
 | .dct l ks vs,v,h,p=>by simp only[plain] at p;cases p
 | .fdc ks vs,v,h,p=>by simp only[plain] at p;cases p
 | .obj l c ns vs,v,h,p=>by simp only[plain] at p;cases p
 | .exc c,v,h,p=>by simp only[plain] at p;cases p
 | .fn c,v,h,p=>by simp only[plain] at p;cases p
theorem RDs.dp: ∀(t:List D) (v:List V),RDs G ρ H t v->plainL t=true->DpAll G.K H (erL t) v
 |[],v,h,_=>by simp only[RDs,erL,DpAll] at h⊢;exact h
 |d::ds,v,h,p=>by
  simp only[RDs,erL,DpAll,plainL,Bool.and_eq_true] at h p⊢
  obtain⟨x,r,e,h1,h2⟩:=h
  exact⟨x,r,e,RD.dp d x h1 p.1,RDs.dp ds r h2 p.2⟩
end
theorem RD.seq(h:RD G ρ H t v)(e:seqD t=some ds): ∃a xs,v= .ref a/\(SqL G.K H a xs\/SqT G.K H a xs)/\RDs G ρ H ds xs/\∀l∈labsL ds,l∈labs t:=by
 cases t<;>simp only[seqD,Option.some.injEq] at e<;>try cases e
 ·simp only[RD] at h
  obtain⟨a,xs,e,s,r⟩:=h
  exact⟨a,xs,e, .inr (SqT.of s),r,fun l hl=>by simp only[labs];exact hl⟩
 ·simp only[RD] at h
  obtain⟨a,xs,e,s,r⟩:=h
  exact⟨a,xs,e, .inl s.sq,r,fun l hl=>by simp only[labs];exact hl⟩
 ·simp only[RD] at h
  obtain⟨e,xs,s,r⟩:=h
  exact⟨_,xs,e, .inl (SqL.of s),r,fun l hl=>by simp only[labs];exact List.mem_cons_of_mem _ hl⟩
theorem RD.lstq(h:RD G ρ H t v)(e:lstD t=some ds): ∃a xs,v= .ref a/\SqL G.K H a xs/\RDs G ρ H ds xs/\∀l∈labsL ds,l∈labs t:=by
 cases t<;>simp only[lstD,Option.some.injEq] at e<;>try cases e
 ·simp only[RD] at h
  obtain⟨a,xs,e,s,r⟩:=h
  exact⟨a,xs,e,s.sq,r,fun l hl=>by simp only[labs];exact hl⟩
 ·simp only[RD] at h
  obtain⟨e,xs,s,r⟩:=h
  exact⟨_,xs,e,SqL.of s,r,fun l hl=>by simp only[labs];exact List.mem_cons_of_mem _ hl⟩
theorem RD.tupx(h:RD G ρ H (.tup ds) v): ∃a xs,v= .ref a/\H a=some (.tup xs)/\RDs G ρ H ds xs:=by
 simp only[RD] at h;exact h
theorem RD.tupq(h:RD G ρ H (.tup ds) v): ∃a xs,v= .ref a/\SqT G.K H a xs/\RDs G ρ H ds xs:=by
 obtain⟨a,xs,e,s,r⟩:=h.tupx
 exact⟨a,xs,e,SqT.of s,r⟩
theorem RD.seqx(h:RD G ρ H t v)(e:seqD t=some ds): ∃a xs,v= .ref a/\(SqL G.K H a xs\/H a=some (.tup xs))/\RDs G ρ H ds xs/\∀l∈labsL ds,l∈labs t:=by
 cases t<;>simp only[seqD,Option.some.injEq] at e<;>try cases e
 ·simp only[RD] at h
  obtain⟨a,xs,e,s,r⟩:=h
  exact⟨a,xs,e, .inr s,r,fun l hl=>by simp only[labs];exact hl⟩
 ·simp only[RD] at h
  obtain⟨a,xs,e,s,r⟩:=h
  exact⟨a,xs,e, .inl s.sq,r,fun l hl=>by simp only[labs];exact hl⟩
 ·simp only[RD] at h
  obtain⟨e,xs,s,r⟩:=h
  exact⟨_,xs,e, .inl (SqL.of s),r,fun l hl=>by simp only[labs];exact List.mem_cons_of_mem _ hl⟩
theorem MRL.lb1(M:MRL G F.toFx ρ H σv tv s [t] [v]): ∀l∈labs t,l<s.n/\(F.A0 (ρ l)\/F.H0 (ρ l)=none):=fun l h=>M.lb l (by simp only[labsL,List.append_nil];exact h)
theorem MRL.lb2(M:MRL G F.toFx ρ H σv tv s [t,t'] [v,u]):(∀l∈labs t,l<s.n/\(F.A0 (ρ l)\/F.H0 (ρ l)=none))/\(∀l∈labs t',l<s.n/\(F.A0 (ρ l)\/F.H0 (ρ l)=none)):=
 ⟨fun l h=>M.lb l (by simp only[labsL,List.append_nil];exact List.mem_append_left _ h),fun l h=>M.lb l (by simp only[labsL,List.append_nil];exact List.mem_append_right _ h)⟩
noncomputable abbrev LB(F:Fx)(ρ:Nat->Addr)(n:Nat)(ls:List Nat):Prop:= ∀l∈ls,l<n/\(F.A0 (ρ l)\/F.H0 (ρ l)=none)
theorem z3E(W:wM G F σv tv (.ok (.tup ds) s) Q)(M:MR G F.toFx ρ H σv tv s)(r:RDs G ρ H ds xs)(lb:LB F.toFx ρ s.n (labsL ds)):NewX G.K H xs (fun w H'=>KD G.K H'->Q w H'):=by
 refine NewX.intro fun p H' sq sm k=> ?_
 exact W.out (M.same sm k) (by simp only[RD];exact⟨p,xs,rfl,sq,r.same sm⟩) (by simp only[labs];exact lb)
theorem z79{p:Addr}(W:wM G F σv tv (.ok (.tup ds) s) Q)(M:MR G F.toFx ρ H σv tv s)(r:RDs G ρ H ds xs)(lb:LB F.toFx ρ s.n (labsL ds))(hp:H p=none)(k:KD G.K (upd H p (.tup xs))):Q (.ref p) (upd H p (.tup xs)):=by
 have sm:=Same.new (.tup xs) hp
 exact W.out (M.same sm k) (by simp only[RD];exact⟨p,xs,rfl,z04,r.same sm⟩) (by simp only[labs];exact lb)
theorem RDs.ext{p:Addr}{o:HO}(M:MR G F.toFx ρ H σv tv s)(r:RDs G ρ H ds xs)(lb:LB F.toFx ρ s.n (labsL ds))(hp:H p=none):RDs G (ext ρ s.n p) (upd H p o) ds xs:=
 RDs.stay (z0L.of (Same.new o hp)) ds xs r fun l hl=>⟨z0m (lb l hl).1,fun o e=>Same.new _ hp _ _ e⟩
theorem z1e{p:Addr}(W:wM G F σv tv (.ok (.lst s.n ds) s.nxt) Q)(M:MR G F.toFx ρ H σv tv s)(r:RDs G ρ H ds xs)(lb:LB F.toFx ρ s.n (labsL ds))(hp:H p=none)(k:KD G.K (upd H p (.lst xs))):Q (.ref p) (upd H p (.lst xs)):=by
 refine W.out (M.new hp k) ?_ fun l hl=> ?_
 ·simp only[RD]
  rw[z0H]
  exact⟨rfl,xs,z04,RDs.ext M r lb hp⟩
 ·simp only[labs] at hl
  rcases List.mem_cons.mp hl with q|q
  ·rw[q]
   exact⟨Nat.lt_succ_self _,by rw[z0H];exact .inr (M.fresh0 hp)⟩
  ·obtain⟨h1,h2⟩:=lb l q
   exact⟨Nat.lt_succ_of_lt h1,by rw[z0m h1];exact h2⟩
end
noncomputable def newL(ds:List D):M D:=fun s=> .ok (.lst s.n ds) s.nxt
noncomputable def addD:D->D->M D
 | .int i, .int j=>rt (.int (i+j))
 | .tup a, .tup b=>if a.length+b.length<=sizeLine then rt (.tup (a++b)) else fl
 | .lst _ a, .lst _ b=>if a.length+b.length<=sizeLine then newL (a++b) else fl
 | .str a, .str b=>if a.length+b.length<=sizeLine then rt (.str (a++b)) else fl
 |_,_=>fl
noncomputable def subD:D->D->M D
 | .int i, .int j=>rt (.int (i -j))
 |_,_=>fl
instance(i j:Int):Decidable (CMul i j):=by unfold CMul;infer_instance
instance(i j:Int):Decidable (CDiv i j):=by unfold CDiv;infer_instance
instance(i j:Int):Decidable (CPow i j):=by unfold CPow;infer_instance
noncomputable def mulD:D->D->M D
 | .int i, .int j=>if CMul i j then rt (.int (i*j)) else fl
 | .lst _ a, .int k=>if -(2^63)<=k/\k<2^63/\a.length*k.toNat<=sizeLine then newL (List.flatten (List.replicate k.toNat a)) else fl
 | .tup a, .int k=>if 0<a.length/\2<=k/\k<2^63/\a.length*k.toNat<=sizeLine then rt (.tup (List.flatten (List.replicate k.toNat a))) else fl
 |_,_=>fl
noncomputable def z4k:D->D->M D
 | .int i, .int j=>if CDiv i j then rt (.int (i/j)) else fl
 |_,_=>fl
noncomputable def modD:D->D->M D
 | .int i, .int j=>if 0<j then rt (.int (i %j)) else fl
 |_,_=>fl
noncomputable def powD:D->D->M D
 | .int i, .int j=>if CPow i j then rt (.int (i^j.toNat)) else fl
 |_,_=>fl
noncomputable def ltD:D->D->M D
 | .int i, .int j=>rt (.bool (decide (i<j)))
 |_,_=>fl
noncomputable def gtD:D->D->M D
 | .int i, .int j=>rt (.bool (decide (j<i)))
 |_,_=>fl
noncomputable def eqC(t t':D):Bool:=plain t&&plain t'&&(er t).canLay0&&(er t').canLay0&&decide (min (er t).depth (er t').depth<=60)
noncomputable def eqD(t t':D):M D:=if eqC t t'=true then rt (.bool (PyData.eqv (er t) (er t'))) else fl
noncomputable def neD(t t':D):M D:=if eqC t t'=true then rt (.bool (!PyData.eqv (er t) (er t'))) else fl
noncomputable def optM:Option D->M D
 |some d=>rt d
 |none=>fl
noncomputable def ixG:Option (List D)->D->M D
 |some ds, .int i=>optM (atI ds i)
 |_,_=>fl
noncomputable def ixD(t t':D):M D:=ixG (seqD t) t'
noncomputable def negD:D->M D
 | .int i=>rt (.int (-i))
 |_=>fl
section
variable{G:Gx}{F:Fy}
theorem wfl{σv tv:List (Option V)}{s:Stt}{Q:VK}{A:Prop}(h:wM G F σv tv ((fl:M D) s) Q):A:=False.elim h
theorem z4l{ρ:Nat->Addr}{H:Hp}{σv tv:List (Option V)}{s:Stt}{i j:Int}{v u:V}(M:MRL G F.toFx ρ H σv tv s [.int i, .int j] [v,u]):v= .int i/\u= .int j:=by
 obtain⟨h1,h2⟩:=M.rd2
 simp only[RD] at h1 h2
 exact⟨h1,h2⟩
theorem zbZ:OpOK G F (fun x y H Q=>rI0 (fun i j=> .int (i+j)) x y H Q\/za3 G.K x y H Q\/rCat x y H Q\/∃i j,x= .str i/\y= .str j/\i.length+j.length<=sizeLine/\Q (.str (i++j)) H) addD:=by
 intro ρ s t t' v u H σv tv Q M W
 unfold addD at W
 split at W
 ·obtain⟨rfl,rfl⟩:=z4l M
  exact .inl ⟨_,_,rfl,rfl,fun _=>W.flat M.m rfl⟩
 ·split at W
  ·rename_i a b hz
   obtain⟨h1,h2⟩:=M.rd2
   obtain⟨l1,l2⟩:=M.lb2
   obtain⟨p,xs,rfl,s1,r1⟩:=h1.tupx
   obtain⟨q,ys,rfl,s2,r2⟩:=h2.tupx
   refine .inr (.inl ⟨p,q,xs,ys,rfl,rfl,s1,s2,by rw[<-r1.length,<-r2.length];exact hz,z3E W M.m (r1.append r2) ?_⟩)
   rw[z0u]
   intro l hl
   rcases List.mem_append.mp hl with q|q
   ·exact l1 l (by simpa only[labs] using q)
   ·exact l2 l (by simpa only[labs] using q)
  ·exact wfl W
 ·split at W
  ·rename_i la a lb b hz
   obtain⟨h1,h2⟩:=M.rd2
   obtain⟨l1,l2⟩:=M.lb2
   simp only[RD] at h1 h2
   obtain⟨rfl,xs,s1,r1⟩:=h1
   obtain⟨rfl,ys,s2,r2⟩:=h2
   refine .inr (.inr (.inl ⟨_,_,xs,ys,rfl,rfl,s1,s2,by rw[<-r1.length,<-r2.length];exact hz,fun p hp k=>z1e W M.m (r1.append r2) ?_ hp k⟩))
   rw[z0u]
   intro l hl
   rcases List.mem_append.mp hl with q|q
   ·exact l1 l (by simp only[labs];exact List.mem_cons_of_mem _ q)
   ·exact l2 l (by simp only[labs];exact List.mem_cons_of_mem _ q)
  ·exact wfl W
 ·split at W
  ·rename_i a b hz
   obtain⟨h1,h2⟩:=M.rd2
   simp only[RD] at h1 h2
   subst h1 h2
   exact .inr (.inr (.inr ⟨_,_,rfl,rfl,hz,fun _=>W.flat M.m rfl⟩))
  ·exact wfl W
 ·exact wfl W
theorem zc0:OpOK G F (rI0 fun i j=> .int (i -j)) subD:=by
 intro ρ s t t' v u H σv tv Q M W
 unfold subD at W
 split at W
 ·obtain⟨rfl,rfl⟩:=z4l M
  exact⟨_,_,rfl,rfl,fun _=>W.flat M.m rfl⟩
 ·exact wfl W
theorem zaa:OpOK G F (rI CDiv fun i j=> .int (i/j)) z4k:=by
 intro ρ s t t' v u H σv tv Q M W
 unfold z4k at W
 split at W
 ·split at W
  ·rename_i hc
   obtain⟨rfl,rfl⟩:=z4l M
   exact⟨_,_,rfl,rfl,hc,fun _=>W.flat M.m rfl⟩
  ·exact wfl W
 ·exact wfl W
theorem zc1:OpOK G F (rI (fun _ j=>0<j) fun i j=> .int (i %j)) modD:=by
 intro ρ s t t' v u H σv tv Q M W
 unfold modD at W
 split at W
 ·split at W
  ·rename_i hc
   obtain⟨rfl,rfl⟩:=z4l M
   exact⟨_,_,rfl,rfl,hc,fun _=>W.flat M.m rfl⟩
  ·exact wfl W
 ·exact wfl W
theorem zc2:OpOK G F (rI CPow fun i j=> .int (i^j.toNat)) powD:=by
 intro ρ s t t' v u H σv tv Q M W
 unfold powD at W
 split at W
 ·split at W
  ·rename_i hc
   obtain⟨rfl,rfl⟩:=z4l M
   exact⟨_,_,rfl,rfl,hc,fun _=>W.flat M.m rfl⟩
  ·exact wfl W
 ·exact wfl W
theorem ze0:z3D G F (rI0 fun i j=> .bl (decide (i<j))) ltD:=by
 intro ρ s t t' v u H σv tv Q M W
 unfold ltD at W
 split at W
 ·obtain⟨rfl,rfl⟩:=z4l M
  exact⟨_,_,rfl,rfl,W.flat M.m rfl⟩
 ·exact wfl W
theorem ze1:z3D G F (rI0 fun i j=> .bl (decide (j<i))) gtD:=by
 intro ρ s t t' v u H σv tv Q M W
 unfold gtD at W
 split at W
 ·obtain⟨rfl,rfl⟩:=z4l M
  exact⟨_,_,rfl,rfl,W.flat M.m rfl⟩
 ·exact wfl W
theorem ze2:z3D G F (rEqD G.K false) eqD:=by
 intro ρ s t t' v u H σv tv Q M W
 unfold eqD at W
 split at W
 ·rename_i hc
  simp only[eqC,Bool.and_eq_true,decide_eq_true_eq] at hc
  obtain⟨⟨⟨⟨c1,c2⟩,c3⟩,c4⟩,c5⟩:=hc
  obtain⟨h1,h2⟩:=M.rd2
  exact⟨er t,er t',RD.dp _ _ h1 c1,RD.dp _ _ h2 c2,c3,c4,c5,W.flat M.m rfl⟩
 ·exact wfl W
theorem ze3:z3D G F (rEqD G.K true) neD:=by
 intro ρ s t t' v u H σv tv Q M W
 unfold neD at W
 split at W
 ·rename_i hc
  simp only[eqC,Bool.and_eq_true,decide_eq_true_eq] at hc
  obtain⟨⟨⟨⟨c1,c2⟩,c3⟩,c4⟩,c5⟩:=hc
  obtain⟨h1,h2⟩:=M.rd2
  exact⟨er t,er t',RD.dp _ _ h1 c1,RD.dp _ _ h2 c2,c3,c4,c5,W.flat M.m rfl⟩
 ·exact wfl W
theorem zc3{ρ:Nat->Addr}{H:Hp}{ds:List D}{xs:List V}{i:Int}{d:D}(r:RDs G ρ H ds xs)(e:atI ds i=some d): ∃x,atI xs i=some x/\RD G ρ H d x:=by
 unfold atI at e⊢
 rw[<-r.length]
 cases e1:ixN ds.length i with
 |none=>rw[e1] at e;cases e
 |some j=>
  rw[e1] at e
  exact r.get j d e
theorem zab{α:Type}{ds:List α}{i:Int}{d:α}(e:atI ds i=some d):d∈ds:=by
 unfold atI at e
 cases e1:ixN ds.length i with
 |none=>rw[e1] at e;cases e
 |some j=>
  rw[e1] at e
  exact List.mem_of_getElem? e
theorem ze4:OpOK G F (fun x y H Q=>rIxL G.K x y H Q\/rIxT G.K x y H Q) ixD:=by
 intro ρ s t t' v u H σv tv Q M W
 obtain⟨h1,h2⟩:=M.rd2
 unfold ixD at W
 cases e:seqD t with
 |none=>rw[e] at W;exact False.elim W
 |some ds=>
  rw[e] at W
  cases t' with
  |int i=>
   have W:wM G F σv tv (optM (atI ds i) s) Q:=W
   cases ea:atI ds i with
   |some d=>
    rw[ea] at W
    obtain⟨a,xs,rfl,sq,r,sub⟩:=h1.seq e
    obtain⟨x,ex,rx⟩:=zc3 r ea
    simp only[RD] at h2
    subst h2
    have fin:KD G.K H->Q x H:=fun _=>W.out M.m rx fun l hl=>M.lb2.1 l (sub l (labsL_mem (zab ea) l hl))
    rcases sq with sq|sq
    ·exact .inl ⟨a,xs,i,x,rfl,rfl,sq,ex,fin⟩
    ·exact .inr ⟨a,xs,i,x,rfl,rfl,sq,ex,fin⟩
   |none=>rw[ea] at W;exact False.elim W
  |_=>exact False.elim W
theorem zc4:UnOK G F (rU fun i=> .int (-i)) negD:=by
 intro ρ s t v H σv tv Q M W
 unfold negD at W
 split at W
 ·have h:=M.rd1
  simp only[RD] at h
  exact⟨_,h,fun _=>W.flat M.m rfl⟩
 ·exact wfl W
end
section
variable{X:Cx}{G:Gx}{F:Fy}{e a b c:Expr}{pos:Pos}
theorem RDs.flat{ρ:Nat->Addr}{H:Hp}{ds:List D}{xs:List V}(r:RDs G ρ H ds xs): ∀k:Nat,RDs G ρ H (List.replicate k ds).flatten (List.replicate k xs).flatten
 |0=>by simp[RDs]
 |k+1=>by
  rw[List.replicate_succ,List.replicate_succ,List.flatten_cons,List.flatten_cons]
  exact r.append (RDs.flat r k)
theorem z1X{ds:List D}{l:Nat}: ∀k:Nat,l∈labsL (List.replicate k ds).flatten->l∈labsL ds
 |0,h=>by simp[labsL] at h
 |k+1,h=>by
  rw[List.replicate_succ,List.flatten_cons,z0u] at h
  rcases List.mem_append.mp h with h|h
  ·exact h
  ·exact z1X k h
theorem zc5:OpOK G F (fun x y H Q=>rI CMul (fun i j=> .int (i*j)) x y H Q\/(rRep x y H Q\/za5 G.K x y H Q)) mulD:=by
 intro ρ s t t' v u H σv tv Q M W
 unfold mulD at W
 split at W
 ·split at W
  ·rename_i hc
   obtain⟨rfl,rfl⟩:=z4l M
   exact .inl ⟨_,_,rfl,rfl,hc,fun _=>W.flat M.m rfl⟩
  ·exact wfl W
 ·split at W
  ·rename_i la a k hc
   obtain⟨h1,h2⟩:=M.rd2
   obtain⟨l1,l2⟩:=M.lb2
   simp only[RD] at h1 h2
   obtain⟨rfl,xs,s1,r1⟩:=h1
   subst h2
   refine .inr (.inl ⟨_,k,xs,rfl,rfl,s1,hc.1,hc.2.1,by rw[<-r1.length];exact hc.2.2,fun p hp kd=>z1e W M.m (r1.flat _) (fun l hl=> ?_) hp kd⟩)
   exact l1 l (by simp only[labs];exact List.mem_cons_of_mem _ (z1X _ hl))
  ·exact wfl W
 ·split at W
  ·rename_i a k hc
   obtain⟨h1,h2⟩:=M.rd2
   obtain⟨l1,l2⟩:=M.lb2
   simp only[RD] at h1 h2
   obtain⟨a',xs,rfl,s1,r1⟩:=h1
   subst h2
   refine .inr (.inr ⟨_,k,xs,rfl,rfl,SqT.of s1,by rw[<-r1.length];exact hc.1,hc.2.1,hc.2.2.1,by rw[<-r1.length];exact hc.2.2.2,fun p hp kd=>z79 W M.m (r1.flat _) (fun l hl=> ?_) hp kd⟩)
   exact l1 l (by simp only[labs];exact z1X _ hl)
  ·exact wfl W
 ·exact wfl W
noncomputable def cutA{α:Type}(xs:List α)(lo hi:Option Int):List α:=(xs.drop (HT.sIx xs.length 0 lo)).take (HT.sIx xs.length xs.length hi -HT.sIx xs.length 0 lo)
noncomputable def slD:D->Option Int->Option Int->M D
 | .tup ds,lo,hi=>rt (.tup (cutA ds lo hi))
 | .lst _ ds,lo,hi=>newL (cutA ds lo hi)
 | .ro ds,lo,hi=>newL (cutA ds lo hi)
 |_,_,_=>fl
theorem RDs.cut{ρ:Nat->Addr}{H:Hp}{ds:List D}{xs:List V}(r:RDs G ρ H ds xs)(lo hi:Option Int):RDs G ρ H (cutA ds lo hi) (cutV xs lo hi):=by
 unfold cutA cutV
 rw[r.length]
 exact(r.drop _).take _
theorem z2B{ds:List D}{lo hi:Option Int}{l:Nat}(h:l∈labsL (cutA ds lo hi)):l∈labsL ds:=by
 obtain⟨d,h1,h2⟩:=z0Q h
 exact labsL_mem (List.mem_of_mem_drop (List.mem_of_mem_take h1)) l h2
noncomputable def mInt(d:D):Option Int:=match d with| .int i=>some i|_=>none
noncomputable def z3b:Option (M D)->M (Option Int)
 |none=>rt none
 |some m=>bd m fun d=>match mInt d with|some i=>rt (some i)|none=>fl
noncomputable def tP(G:Gx)(F:Fy)(m:M (Option Int)):TO:=fun σv H Q=> ∃tv,F.tv0<:+tv/\∃ρ s,MR G F.toFx ρ H σv tv s/\(match m s with
 | .ok o s'=> ∀ρ' H',MR G F.toFx ρ' H' σv tv s'->Q o H'
 | .ex d s'=>F.xw d s'
 | .no=>False)
noncomputable def SO(X:Cx)(G:Gx)(F:Fy)(e:Option Expr)(m:Option (M D)):Prop:=PO X e (tP G F (z3b m))
theorem so_none:SO X G F none none:=by
 intro pins s σ H Q I ⟨tv,hs,ρ,ms,M,W⟩
 exact z9N pins s σ H Q I (W ρ H M)
theorem so_some{m:M D}(h:SE X G F e m):SO X G F (some e) (some m):=by
 intro pins s σ H Q I ⟨tv,hs,ρ,ms,M,W⟩
 refine z6M h pins s σ H Q I ⟨tv,hs,ρ,ms,M, ?_⟩
 simp only[z3b,bd] at W
 cases e1:m ms with
 |ok d s1=>
  rw[e1] at W
  intro ρ' v H' M'
  cases d with
  |int i=>
   have h:=M'.rd1
   simp only[RD] at h
   exact⟨i,h,W ρ' H' M'.m⟩
  |_=>exact False.elim W
 |ex d s1=>rw[e1] at W;exact W
 |no=>rw[e1] at W;exact W
noncomputable def mSl(m:M D)(lo hi:Option (M D)):M D:=bd m fun x=>bd (psh x) fun _=>bd (z3b lo) fun l=>bd (z3b hi) fun h=>bd pop fun x'=>slD x' l h
theorem ze5{ρ:Nat->Addr}{s:Stt}{t:D}{v:V}{H:Hp}{σv tv:List (Option V)}{lo hi:Option Int}{Q:VK}(M:MRL G F.toFx ρ H σv tv s [t] [v])(W:wM G F σv tv (slD t lo hi s) Q):
 rSlX G.K v lo hi H (fun w H'=>KD G.K H'->Q w H')\/rSlL G.K v lo hi H (fun w H'=>KD G.K H'->Q w H'):=by
 have h:=M.rd1
 cases t with
 |tup ds=>
  obtain⟨p,xs,rfl,s1,r1⟩:=h.tupx
  exact .inl ⟨p,xs,rfl,s1,z3E W M.m (r1.cut lo hi) fun l hl=>M.lb1 l (by simp only[labs];exact z2B hl)⟩
 |lst n ds=>
  obtain⟨p,xs,rfl,s1,r1,_⟩:=h.lstq (ds:=ds) rfl
  exact .inr ⟨p,xs,rfl,s1,fun q hq k=>z1e W M.m (r1.cut lo hi) (fun l hl=>M.lb1 l (by simp only[labs];exact List.mem_cons_of_mem _ (z2B hl))) hq k⟩
 |ro ds=>
  obtain⟨p,xs,rfl,s1,r1,_⟩:=h.lstq (ds:=ds) rfl
  exact .inr ⟨p,xs,rfl,s1,fun q hq k=>z1e W M.m (r1.cut lo hi) (fun l hl=>M.lb1 l (by simp only[labs];exact z2B hl)) hq k⟩
 |_=>exact False.elim W
theorem se_slice{lo hi:Option Expr}{p2:Pos}{m:M D}{ml mh:Option (M D)}(hk:X.K=G.K)(he:SE X G F e m)(hl:SO X G F lo ml)(hh:SO X G F hi mh):SE X G F (.Subscript e (.Slice lo hi none p2) pos) (mSl m ml mh):=by
 refine PE.imp hk (z8d (r:=fun x lo hi H Q=>rSlX X.K x lo hi H Q\/rSlL X.K x lo hi H Q) (SlR.or za2 z9R) he hl hh) fun σ H Q ⟨tv,h⟩=>⟨tv, ?_⟩
 obtain⟨hs,ρ,s,M,W⟩:=z74 h
 refine⟨hs,ρ,s,M,W.mono fun v H1 ⟨ρ1,s1,t,M1,W1⟩=>⟨some v::tv,suf1 hs,ρ1,s1.psh t,M1.push, ?_⟩⟩
 simp only[bd,psh] at W1
 cases e1:z3b ml (s1.psh t) with
 |ex d s2=>rw[e1] at W1;exact W1
 |no=>rw[e1] at W1;exact W1
 |ok l s2=>
  rw[e1] at W1
  intro ρ2 H2 M2
  refine⟨some v::tv,suf1 hs,ρ2,s2,M2, ?_⟩
  dsimp only at W1
  cases e2:z3b mh s2 with
  |ex d s3=>rw[e2] at W1;exact W1
  |no=>rw[e2] at W1;exact W1
  |ok h s3=>
   rw[e2] at W1
   intro ρ3 H3 M3
   simp only[pop] at W1
   cases e3:s3.tm with
   |nil=>rw[e3] at W1;exact W1.elim
   |cons o r=>
    cases o with
    |none=>rw[e3] at W1;exact W1.elim
    |some t'=>
     rw[e3] at W1
     have M4:MRL G F.toFx ρ3 H3 σ tv {s3 with tm:=r} [t'] [v]:=MRL.down (ts:=[]) (vs:=[]) ⟨M3,rfl,fun l h=>by simp[labsL] at h⟩ e3
     rw[hk]
     exact ze5 M4 W1
noncomputable def tupD(ts:List D):M D:=if ts.length<=sizeLine then rt (.tup ts) else fl
noncomputable def lstM(ts:List D):M D:=if ts.length<=sizeLine then newL ts else fl
theorem zc6:z0V G F (fun xs H1 Q=>xs.length<=sizeLine/\∀p,H1 p=none->Q (.ref p) (upd H1 p (.tup xs))) tupD:=by
 intro ρ s ts vs H σv tv Q M W
 unfold tupD at W
 split at W
 ·rename_i hz
  exact⟨by rw[<-M.rd.length];exact hz,fun p hp k=>z79 W M.m M.rd M.lb hp k⟩
 ·exact wfl W
theorem zc7:z0V G F (fun xs H1 Q=>xs.length<=sizeLine/\∀p,H1 p=none->Q (.ref p) (upd H1 p (.lst xs))) lstM:=by
 intro ρ s ts vs H σv tv Q M W
 unfold lstM at W
 split at W
 ·rename_i hz
  exact⟨by rw[<-M.rd.length];exact hz,fun p hp k=>z1e W M.m M.rd M.lb hp k⟩
 ·exact wfl W
theorem se_tup{es:List Expr}{ms:List (M D)}{x1}(hk:X.K=G.K)(h:SA X G F es (z09 ms)):SE X G F (.Tuple es x1 pos) (mCB ms tupD):=
 PE.imp hk (zbt h) fun _ _ _ h=>z2k zc6 h
theorem se_lst{es:List Expr}{ms:List (M D)}(hk:X.K=G.K)(h:SA X G F es (z09 ms)):SE X G F (.List es pos) (mCB ms lstM):=
 PE.imp hk (zbu h) fun _ _ _ h=>z2k zc7 h
noncomputable def truD:D->M Bool
 | .non=>rt false
 | .bool b=>rt b
 | .int i=>rt (i !=0)
 | .str x=>if x.length<=sizeLine then rt ((x.length:Int) !=0) else fl
 | .tup ds=>rt (!ds.isEmpty)
 | .ro ds=>rt (!ds.isEmpty)
 | .lst _ ds=>rt (!ds.isEmpty)
 |_=>fl
noncomputable def z2C(m:M D):M Bool:=bd m truD
theorem z1Y{ρ:Nat->Addr}{H:Hp}{ds:List D}{xs:List V}(r:RDs G ρ H ds xs):(!ds.isEmpty)= !xs.isEmpty:=by
 have:=r.length
 cases ds<;>cases xs<;>simp at this⊢
theorem zc8{ρ:Nat->Addr}{s:Stt}{t:D}{v:V}{H:Hp}{σv tv:List (Option V)}{Q:Bool->Hp->Prop}(M:MRL G F.toFx ρ H σv tv s [t] [v])(W:wB G F σv tv (truD t s) Q): ∃k,TruV G.K v H k/\Q k H:=by
 have h:=M.rd1
 cases t with
 |non=>simp only[RD] at h;subst h;exact⟨false,rfl,W ρ H M.m⟩
 |bool b=>simp only[RD] at h;subst h;exact⟨b,rfl,W ρ H M.m⟩
 |int i=>simp only[RD] at h;subst h;exact⟨_,rfl,W ρ H M.m⟩
 |str x=>
  simp only[RD] at h;subst h
  unfold truD at W
  by_cases hz:x.length<=sizeLine
  ·simp only[if_pos hz] at W;exact⟨_,⟨hz,rfl⟩,W ρ H M.m⟩
  ·simp only[if_neg hz] at W;exact False.elim W
 |tup ds=>
  obtain⟨p,xs,rfl,s1,r1⟩:=h.tupq
  exact⟨_, .inr (.inl ⟨xs,s1,z1Y r1⟩),W ρ H M.m⟩
 |ro ds=>
  obtain⟨p,xs,rfl,s1,r1,_⟩:=h.lstq (ds:=ds) rfl
  exact⟨_, .inl ⟨xs,s1,z1Y r1⟩,W ρ H M.m⟩
 |lst n ds=>
  obtain⟨p,xs,rfl,s1,r1,_⟩:=h.lstq (ds:=ds) rfl
  exact⟨_, .inl ⟨xs,s1,z1Y r1⟩,W ρ H M.m⟩
 |dct _ _ _=>exact False.elim W
 |fdc _ _=>exact False.elim W
 |obj _ _ _ _=>exact False.elim W
 |exc _=>exact False.elim W
 |fn _=>exact False.elim W
theorem z8p{m:M D}{σ:St}{H:Hp}{Q:Bool->Hp->Prop}(h:tMB G F (z2C m) σ H Q):tM G F m σ H fun x H'=> ∃k,TruV G.K x H' k/\Q k H':=by
 obtain⟨tv,hs,ρ,s,M,W⟩:=h
 refine⟨tv,hs,ρ,s,M, ?_⟩
 unfold z2C bd at W
 cases e:m s with
 |ok t s1=>rw[e] at W;exact fun ρ1 v H1 M1=>zc8 M1 W
 |ex d s1=>rw[e] at W;exact W
 |no=>rw[e] at W;exact W
theorem sb_truth{m:M D}(hk:X.K=G.K)(ha:SE X G F a m)(he: ∀whole,isTrue a X.env whole=(do let v<-whole;standAt a.pos;holding [v] (truthy v)):=by intro _;rfl):SB X G F a (z2C m):=by
 refine PT.imp hk (z89 ha he) fun σ H Q h=> ?_
 rw[hk]
 obtain⟨tv,h'⟩:=z8p h
 exact⟨tv,h'.mono fun v H1 ⟨k,q1,q2⟩=>⟨k,q1,fun _=>q2⟩⟩
noncomputable def booD:D->M Bool
 | .bool b=>rt b
 |_=>fl
noncomputable def mBoo(m:M D):M Bool:=bd m booD
theorem zac{m:M D}{σ:St}{H:Hp}{Q:Bool->Hp->Prop}(h:tMB G F (mBoo m) σ H Q):tM G F m σ H fun x H'=> ∃k,x= .bl k/\Q k H':=by
 obtain⟨tv,hs,ρ,s,M,W⟩:=h
 refine⟨tv,hs,ρ,s,M, ?_⟩
 unfold mBoo bd at W
 cases e:m s with
 |ok t s1=>
  rw[e] at W
  intro ρ1 v H1 M1
  have h:=M1.rd1
  cases t with
  |bool b=>simp only[RD] at h;exact⟨b,h,W ρ1 H1 M1.m⟩
  |_=>exact False.elim W
 |ex d s1=>rw[e] at W;exact W
 |no=>rw[e] at W;exact W
theorem zad{op:CmpOp}{r:R2}{ma mb:M D}{g:D->D->M D}(ho:OpR X (compareOp op) r)(hg:z3D G F r g)(ha:SE X G F a ma)(hb:SE X G F b mb)(hm:behindInMarks op b=false):SB X G F (.Compare a [op] [b] pos) (mBoo (mBin ma mb g)):=
 PT.imp0 (z9J ho ha hb hm) fun _ _ _ h=>z5z hg (zac h)
theorem zae{m:M Bool}{f:Bool->M Bool}{σ:St}{tv:List (Option V)}{H:Hp}{Q:Bool->Hp->Prop}(h:tBv G F (bd m f) σ tv H Q):tBv G F m σ tv H fun b H1=> ∃ρ1 s1,MR G F.toFx ρ1 H1 σ tv s1/\wB G F σ tv (f b s1) Q:=by
 obtain⟨hs,ρ,s,M,W⟩:=h
 refine⟨hs,ρ,s,M, ?_⟩
 unfold bd at W
 cases e:m s with
 |ok b s1=>rw[e] at W;exact fun ρ1 H1 M1=>⟨ρ1,s1,M1,W⟩
 |ex d s1=>rw[e] at W;exact W
 |no=>rw[e] at W;exact W
theorem wB.mono{σv tv:List (Option V)}{r:Res Bool}{Q Q':Bool->Hp->Prop}(h:wB G F σv tv r Q)(k: ∀v H,Q v H->Q' v H):wB G F σv tv r Q':=by
 cases r with
 |ok t s=>exact fun ρ H M=>k _ _ (h ρ H M)
 |ex d s=>exact h
 |no=>exact h
theorem tBv.mono{m:M Bool}{σv tv:List (Option V)}{H:Hp}{Q Q':Bool->Hp->Prop}(h:tBv G F m σv tv H Q)(k: ∀v H,Q v H->Q' v H):tBv G F m σv tv H Q':=by
 obtain⟨hs,ρ,s,M,W⟩:=h
 exact⟨hs,ρ,s,M,W.mono k⟩
noncomputable def iteM{α:Type}(b:Bool)(m m':M α):M α:=match b with|true=>m|false=>m'
noncomputable def mAnd(m m':M Bool):M Bool:=bd m fun b=>iteM b m' (rt false)
noncomputable def mOr(m m':M Bool):M Bool:=bd m fun b=>iteM b (rt true) m'
noncomputable def mNot(m:M Bool):M Bool:=bd m fun b=>rt (!b)
noncomputable def SW(X:Cx)(G:Gx)(F:Fy)(e:Expr)(m:M Bool):Prop:=PW X e (tMB G F m)
theorem SW.sb{m:M Bool}(h:SW X G F e m):SB X G F e m:=PW.pt h
theorem PW.imp0{t t':TT}(h:PW X e t)(hi: ∀σ H Q,t' σ H Q->t σ H Q):PW X e t':=fun wh pins s σ H Q I q=>h wh pins s σ H _ I (hi σ H Q q)
theorem sw_and1{m:M Bool}(h:SB X G F a m):SW X G F (.BoolOp .And [a] pos) m:=z9C h
theorem sw_or1{m:M Bool}(h:SB X G F a m):SW X G F (.BoolOp .Or [a] pos) m:=zbc h
theorem sw_and{rest:List Expr}{m m':M Bool}(ha:SB X G F a m)(hb:SW X G F (.BoolOp .And (b::rest) pos) m'):SW X G F (.BoolOp .And (a::b::rest) pos) (mAnd m m'):=by
 refine PW.imp0 (zbd ha hb) fun σ H Q ⟨tv,h⟩=>⟨tv,(zae h).mono fun b H1 ⟨ρ1,s1,M1,W⟩=> ?_⟩
 cases b with
 |true=>rw[if_pos rfl];exact⟨tv,h.1,ρ1,s1,M1,W⟩
 |false=>rw[if_neg Bool.false_ne_true];exact W ρ1 H1 M1
theorem sw_or{rest:List Expr}{m m':M Bool}(ha:SB X G F a m)(hb:SW X G F (.BoolOp .Or (b::rest) pos) m'):SW X G F (.BoolOp .Or (a::b::rest) pos) (mOr m m'):=by
 refine PW.imp0 (zdv ha hb) fun σ H Q ⟨tv,h⟩=>⟨tv,(zae h).mono fun b H1 ⟨ρ1,s1,M1,W⟩=> ?_⟩
 cases b with
 |true=>rw[if_pos rfl];exact W ρ1 H1 M1
 |false=>rw[if_neg Bool.false_ne_true];exact⟨tv,h.1,ρ1,s1,M1,W⟩
theorem sb_not{m:M Bool}(ha:SB X G F a m):SB X G F (.UnaryOp .Not a pos) (mNot m):=by
 refine PT.imp0 (zbe ha) fun σ H Q ⟨tv,h⟩=>⟨tv,(zae h).mono fun b H1 ⟨ρ1,s1,M1,W⟩=>W ρ1 H1 M1⟩
noncomputable def z4m(m m':M D):M D:=bd (mBoo m) fun b=>iteM b m' (rt (.bool false))
noncomputable def z7a(m:M D):M D:=bd (mBoo m) fun b=>rt (.bool (!b))
theorem z9a{m:M D}{f:Bool->M D}{σ:St}{H:Hp}{Q:VK}(h:tM G F (bd (mBoo m) f) σ H Q):tM G F m σ H fun x H1=> ∃k,x= .bl k/\∃ρ1 s1 tv,F.tv0<:+tv/\MR G F.toFx ρ1 H1 σ tv s1/\wM G F σ tv (f k s1) Q:=by
 obtain⟨tv,hs,ρ,s,M,W⟩:=h
 refine⟨tv,hs,ρ,s,M, ?_⟩
 unfold mBoo bd at W
 cases e:m s with
 |ok t s1=>
  rw[e] at W
  intro ρ1 v H1 M1
  have h:=M1.rd1
  cases t with
  |bool b=>simp only[RD] at h;exact⟨b,h,ρ1,s1,tv,hs,M1.m,W⟩
  |_=>exact False.elim W
 |ex d s1=>rw[e] at W;exact W
 |no=>rw[e] at W;exact W
theorem tM.mono{m:M D}{σ:St}{H:Hp}{Q Q':VK}(h:tM G F m σ H Q)(k: ∀v H,Q v H->Q' v H):tM G F m σ H Q':=by
 obtain⟨tv,h⟩:=h
 exact⟨tv,h.mono k⟩
theorem se_one{op}{m:M D}(h:SE X G F a m):SE X G F (.BoolOp op [a] pos) m:=zbf h
theorem se_and{rest:List Expr}{m m':M D}(ha:SE X G F a m)(hb:SE X G F (.BoolOp .And (b::rest) pos) m'):SE X G F (.BoolOp .And (a::b::rest) pos) (z4m m m'):=by
 refine PE.imp0 (zbg ha hb) fun σ H Q h=>(z9a h).mono fun x H1 ⟨k,e,ρ1,s1,tv,hs,M1,W⟩=>⟨k,e, ?_⟩
 cases k with
 |true=>rw[if_pos rfl];exact⟨tv,hs,ρ1,s1,M1,W⟩
 |false=>rw[if_neg Bool.false_ne_true];exact W.flat M1 rfl
theorem se_not{m:M D}(ha:SE X G F a m):SE X G F (.UnaryOp .Not a pos) (z7a m):=by
 refine PE.imp0 (zbh ha) fun σ H Q h=>(z9a h).mono fun x H1 ⟨k,e,ρ1,s1,tv,hs,M1,W⟩=>⟨k,e,W.flat M1 rfl⟩
noncomputable def mIf(c:M Bool)(m m':M D):M D:=bd c fun b=>iteM b m m'
theorem zc9{m:M Bool}{f:Bool->M D}{σ:St}{H:Hp}{Q:VK}(h:tM G F (bd m f) σ H Q):tMB G F m σ H fun b H1=> ∃ρ1 s1 tv,F.tv0<:+tv/\MR G F.toFx ρ1 H1 σ tv s1/\wM G F σ tv (f b s1) Q:=by
 obtain⟨tv,hs,ρ,s,M,W⟩:=h
 refine⟨tv,hs,ρ,s,M, ?_⟩
 unfold bd at W
 cases e:m s with
 |ok b s1=>rw[e] at W;exact fun ρ1 H1 M1=>⟨ρ1,s1,tv,hs,M1,W⟩
 |ex d s1=>rw[e] at W;exact W
 |no=>rw[e] at W;exact W
theorem tMB.mono{m:M Bool}{σ:St}{H:Hp}{Q Q':Bool->Hp->Prop}(h:tMB G F m σ H Q)(k: ∀v H,Q v H->Q' v H):tMB G F m σ H Q':=by
 obtain⟨tv,h⟩:=h
 exact⟨tv,h.mono k⟩
theorem se_ifExp{mc:M Bool}{m m':M D}(hc:SB X G F c mc)(ha:SE X G F a m)(hb:SE X G F b m'):SE X G F (.IfExp c a b pos) (mIf mc m m'):=by
 refine PE.imp0 (z84 hc ha hb) fun σ H Q h=>(zc9 h).mono fun k H1 ⟨ρ1,s1,tv,hs,M1,W⟩=> ?_
 cases k with
 |true=>rw[if_pos rfl];exact⟨tv,hs,ρ1,s1,M1,W⟩
 |false=>rw[if_neg Bool.false_ne_true];exact⟨tv,hs,ρ1,s1,M1,W⟩
end
noncomputable def lenD:List D->M D
 |[.tup ds]=>rt (.int ds.length)
 |[.ro ds]=>rt (.int ds.length)
 |[.lst _ ds]=>rt (.int ds.length)
 |_=>fl
noncomputable def absD:List D->M D
 |[.int i]=>rt (.int (if i<0 then -i else i))
 |_=>fl
noncomputable def minD:List D->M D
 |[.int i, .int j]=>rt (.int (if j<i then j else i))
 |_=>fl
noncomputable def maxD:List D->M D
 |[.int i, .int j]=>rt (.int (if j>i then j else i))
 |_=>fl
noncomputable def z1o:List D->Option (List Bool)
 |[]=>some []
 | .bool b::r=>(z1o r).map (b:: ·)
 |_=>none
noncomputable def allD:List D->M D
 |[.lst _ ds]=>match z1o ds with|some bs=>rt (.bool (bs.all id))|none=>fl
 |_=>fl
noncomputable def intD:List D->M D
 |[.int i]=>rt (.int i)
 |[.bool b]=>rt (.int (if b then 1 else 0))
 |_=>fl
noncomputable def tupF:List D->M D
 |[.tup ds]=>rt (.tup ds)
 |[.ro ds]=>rt (.tup ds)
 |[.lst _ ds]=>rt (.tup ds)
 |_=>fl
noncomputable def z6c:List D->M D
 |[.tup ds]=>newL ds
 |[.ro ds]=>newL ds
 |[.lst _ ds]=>newL ds
 |_=>fl
section
variable{X:Cx}{G:Gx}{F:Fy}{e a b c:Expr}{pos:Pos}
theorem MRL.one{ρ:Nat->Addr}{H:Hp}{σv tv:List (Option V)}{s:Stt}{t:D}{vs:List V}(M:MRL G F.toFx ρ H σv tv s [t] vs): ∃v,vs=[v]/\RD G ρ H t v/\LB F.toFx ρ s.n (labs t):=by
 have h:=M.rd
 simp only[RDs] at h
 obtain⟨v,r,rfl,h,rfl⟩:=h
 exact⟨v,rfl,h,M.lb1⟩
theorem MRL.two{ρ:Nat->Addr}{H:Hp}{σv tv:List (Option V)}{s:Stt}{t t':D}{vs:List V}(M:MRL G F.toFx ρ H σv tv s [t,t'] vs): ∃v u,vs=[v,u]/\RD G ρ H t v/\RD G ρ H t' u:=by
 have h:=M.rd
 simp only[RDs] at h
 obtain⟨v,r,rfl,h,u,q,rfl,h',rfl⟩:=h
 exact⟨v,u,rfl,h,h'⟩
theorem zca:z0V G F (fun xs H Q=> ∃p ys,xs=[.ref p]/\(SqL G.K H p ys\/SqT G.K H p ys)/\Q (.int ys.length) H) lenD:=by
 intro ρ s ts vs H σv tv Q M W
 unfold lenD at W
 split at W
 ·obtain⟨v,rfl,h,_⟩:=M.one
  obtain⟨p,xs,rfl,s1,r1,_⟩:=h.seq rfl
  exact⟨p,xs,rfl,s1,fun _=>by rw[<-r1.length];exact W.flat M.m rfl⟩
 ·obtain⟨v,rfl,h,_⟩:=M.one
  obtain⟨p,xs,rfl,s1,r1,_⟩:=h.seq rfl
  exact⟨p,xs,rfl,s1,fun _=>by rw[<-r1.length];exact W.flat M.m rfl⟩
 ·obtain⟨v,rfl,h,_⟩:=M.one
  obtain⟨p,xs,rfl,s1,r1,_⟩:=h.seq rfl
  exact⟨p,xs,rfl,s1,fun _=>by rw[<-r1.length];exact W.flat M.m rfl⟩
 ·exact wfl W
theorem zcb:z0V G F (fun xs H Q=> ∃i,xs=[.int i]/\Q (.int (if i<0 then -i else i)) H) absD:=by
 intro ρ s ts vs H σv tv Q M W
 unfold absD at W
 split at W
 ·obtain⟨v,rfl,h,_⟩:=M.one
  simp only[RD] at h
  subst h
  exact⟨_,rfl,fun _=>W.flat M.m rfl⟩
 ·exact wfl W
theorem zcc:z0V G F (fun xs H Q=> ∃i j,xs=[.int i, .int j]/\Q (.int (if j<i then j else i)) H) minD:=by
 intro ρ s ts vs H σv tv Q M W
 unfold minD at W
 split at W
 ·obtain⟨v,u,rfl,h,h'⟩:=M.two
  simp only[RD] at h h'
  subst h h'
  exact⟨_,_,rfl,fun _=>W.flat M.m rfl⟩
 ·exact wfl W
theorem zcd:z0V G F (fun xs H Q=> ∃i j,xs=[.int i, .int j]/\Q (.int (if j>i then j else i)) H) maxD:=by
 intro ρ s ts vs H σv tv Q M W
 unfold maxD at W
 split at W
 ·obtain⟨v,u,rfl,h,h'⟩:=M.two
  simp only[RD] at h h'
  subst h h'
  exact⟨_,_,rfl,fun _=>W.flat M.m rfl⟩
 ·exact wfl W
theorem z5A{ρ:Nat->Addr}{H:Hp}: ∀{ds:List D} {xs:List V} {bs:List Bool},RDs G ρ H ds xs->z1o ds=some bs->xs=bs.map V.bl
 |[],xs,bs,r,e=>by simp only[RDs] at r;simp only[z1o,Option.some.injEq] at e;subst r e;rfl
 |d::ds,xs,bs,r,e=>by
  simp only[RDs] at r
  obtain⟨x,q,rfl,h1,h2⟩:=r
  cases d with
  |bool b=>
   simp only[z1o] at e
   cases e1:z1o ds with
   |none=>rw[e1] at e;cases e
   |some cs=>
    rw[e1] at e
    cases e
    simp only[RD] at h1
    rw[h1,z5A h2 e1];rfl
  |_=>simp only[z1o] at e;cases e
theorem zce:z0V G F (fun xs H Q=> ∃(p:Addr) (bs:List Bool),xs=[.ref p]/\SqL G.K H p (bs.map V.bl)/\Q (.bl (bs.all id)) H) allD:=by
 intro ρ s ts vs H σv tv Q M W
 unfold allD at W
 split at W
 ·rename_i l ds
  cases e1:z1o ds with
  |none=>rw[e1] at W;exact False.elim W
  |some bs=>
   rw[e1] at W
   obtain⟨v,rfl,h,_⟩:=M.one
   obtain⟨p,xs,rfl,s1,r1,_⟩:=h.lstq (ds:=ds) rfl
   rw[z5A r1 e1] at s1
   exact⟨p,bs,rfl,s1,fun _=>W.flat M.m rfl⟩
 ·exact wfl W
theorem zcf:z0V G F (fun xs H Q=>(∃i,xs=[.int i]/\Q (.int i) H)\/∃k,xs=[.bl k]/\Q (.int (if k then 1 else 0)) H) intD:=by
 intro ρ s ts vs H σv tv Q M W
 unfold intD at W
 split at W
 ·obtain⟨v,rfl,h,_⟩:=M.one
  simp only[RD] at h
  subst h
  exact .inl ⟨_,rfl,fun _=>W.flat M.m rfl⟩
 ·obtain⟨v,rfl,h,_⟩:=M.one
  simp only[RD] at h
  subst h
  exact .inr ⟨_,rfl,fun _=>W.flat M.m rfl⟩
 ·exact wfl W
theorem zaf:z0V G F (fun xs H Q=> ∃(p:Addr) (ys:List V),xs=[.ref p]/\(SqL G.K H p ys\/H p=some (.tup ys))/\NewX G.K H ys Q) tupF:=by
 intro ρ s ts vs H σv tv Q M W
 have fin: ∀(t:D) (ds:List D),ts=[t]->seqD t=some ds->wM G F σv tv (.ok (.tup ds) s) Q->∃(p:Addr) (ys:List V),vs=[.ref p]/\(SqL G.K H p ys\/H p=some (.tup ys))/\NewX G.K H ys (fun w H'=>KD G.K H'->Q w H'):=fun t ds et es W'=>by
  subst et
  obtain⟨v,rfl,h,lb⟩:=M.one
  obtain⟨p,xs,rfl,s1,r1,sub⟩:=h.seqx es
  exact⟨p,xs,rfl,s1,z3E W' M.m r1 fun l hl=>lb l (sub l hl)⟩
 unfold tupF at W
 split at W
 ·exact fin _ _ rfl rfl W
 ·exact fin _ _ rfl rfl W
 ·exact fin _ _ rfl rfl W
 ·exact wfl W
theorem z8q:z0V G F (fun xs H Q=> ∃p ys,xs=[.ref p]/\(SqL G.K H p ys\/SqT G.K H p ys)/\∀l,H l=none->Q (.ref l) (upd H l (.lst ys))) z6c:=by
 intro ρ s ts vs H σv tv Q M W
 have fin: ∀(t:D) (ds:List D),ts=[t]->seqD t=some ds->wM G F σv tv (.ok (.lst s.n ds) s.nxt) Q->∃p ys,vs=[.ref p]/\(SqL G.K H p ys\/SqT G.K H p ys)/\∀l,H l=none->KD G.K (upd H l (.lst ys))->Q (.ref l) (upd H l (.lst ys)):=fun t ds et es W'=>by
  subst et
  obtain⟨v,rfl,h,lb⟩:=M.one
  obtain⟨p,xs,rfl,s1,r1,sub⟩:=h.seq es
  exact⟨p,xs,rfl,s1,fun l hl k=>z1e W' M.m r1 (fun l hl=>lb l (sub l hl)) hl k⟩
 unfold z6c at W
 split at W
 ·exact fin _ _ rfl rfl W
 ·exact fin _ _ rfl rfl W
 ·exact fin _ _ rfl rfl W
 ·exact wfl W
noncomputable def isiD(T:String):D->Option Bool
 | .non=>some false
 | .bool _=>some (T== "int" ||T== "bool")
 | .int _=>some (T== "int")
 | .str _=>some (T== "str")
 | .tup _=>some (T== "tuple")
 | .ro _=>some (T== "list")
 | .lst _ _=>some (T== "list")
 |_=>none
noncomputable def mIsi(T:String)(m:M D):M D:=bd m fun d=>match isiD T d with|some b=>rt (.bool b)|none=>fl
theorem zcg{ρ:Nat->Addr}{H:Hp}{t:D}{v:V}{T:String}{b:Bool}(h:RD G ρ H t v)(e:isiD T t=some b):isiV G.K H T b v:=by
 cases t<;>simp only[isiD,Option.some.injEq] at e<;>try cases e
 ·simp only[RD] at h;subst h;exact rfl
 ·simp only[RD] at h;subst h;exact rfl
 ·simp only[RD] at h;subst h;exact rfl
 ·simp only[RD] at h;subst h;exact rfl
 ·obtain⟨p,xs,rfl,s1,r1⟩:=h.tupq
  exact .inl ⟨xs,s1,rfl⟩
 ·obtain⟨p,xs,rfl,s1,r1,_⟩:=h.lstq rfl
  exact .inr ⟨xs,s1,rfl⟩
 ·obtain⟨p,xs,rfl,s1,r1,_⟩:=h.lstq rfl
  exact .inr ⟨xs,s1,rfl⟩
theorem se_isi{p:Pos}{x y:Expr}{T:String}{m:M D}(hk:X.K=G.K)(hT:T= "int" \/T= "bool" \/T= "tuple" \/T= "list" \/T= "str")(hgl:Gl X "isinstance")(hm:X.mg "isinstance" =none)(ha:SE X G F x m)(hy:PE X y (tC (.ty T)))
 (he:starEach [x,y] X.env=(false,eval x X.env)::starEach [y] X.env:=by rfl) (he2:starEach [y] X.env=(false,eval y X.env)::starEach [] X.env:=by rfl) (hpl:(backTo pos (starEach [y] X.env)).any (·.1)=false:=by rfl):SE X G F (.Call (.Name "isinstance" p) [x,y] [] pos) (mIsi T m):=by
 refine PE.imp hk (z5s z8l hgl hm PyProof.Rows.Boot.«isinstance» (z4Q ha (z4Q hy z91 he2) he) (by decide) (by decide) he hpl) fun σ H Q ⟨tv,h⟩=>⟨tv,(z74 h).mono fun v H1 ⟨ρ1,s1,t,M1,W⟩=> ?_⟩
 cases e:isiD T t with
 |none=>simp only[e] at W;exact False.elim W
 |some b=>
  simp only[e] at W
  rw[hk]
  exact⟨v,T,b,rfl,hT,zcg M1.rd1 e,fun _=>W.flat M1.m rfl⟩
end
inductive RS where
 |nx (s:Stt)|rt (d:D) (s:Stt)|bk (s:Stt)|ct (s:Stt)|ex (d:D) (s:Stt)|no
noncomputable abbrev MS:=Stt->RS
noncomputable def lift{α:Type}(m:M α)(f:α->MS):MS:=fun s=>match m s with
 | .ok a s'=>f a s'
 | .ex d s'=> .ex d s'
 | .no=> .no
noncomputable def seqS(m m':MS):MS:=fun s=>match m s with
 | .nx s'=>m' s'
 |r=>r
noncomputable def sNx:MS:=fun s=> .nx s
noncomputable def z3F(m:M D):MS:=lift m fun _=>sNx
noncomputable def sRet(m:M D):MS:=lift m fun d s=> .rt d s
noncomputable def iteS(b:Bool)(m m':MS):MS:=match b with|true=>m|false=>m'
noncomputable def sIf(c:M Bool)(m m':MS):MS:=lift c fun b=>iteS b m m'
inductive Tg where
 |nm (i:Nat)|tp (ts:List Tg)
mutual
noncomputable def asg:Tg->D->List (Option D)->Option (List (Option D))
 | .nm i,t,σ=>some (σ.set i (some t))
 | .tp ts, .tup ds,σ=>asgL ts ds σ
 | .tp ts, .lst _ ds,σ=>asgL ts ds σ
 | .tp _,_,_=>none
noncomputable def asgL:List Tg->List D->List (Option D)->Option (List (Option D))
 |[],[],σ=>some σ
 |t::ts,d::ds,σ=>match asg t d σ with|some σ'=>asgL ts ds σ'|none=>none
 |_,_,_=>none
end
noncomputable def sAsg(g:Tg)(m:M D):MS:=lift m fun d s=>match asg g d s.σ with
 |some σ'=> .nx {s with σ:=σ'}
 |none=> .no
section
variable{X:Cx}{G:Gx}{F:Fy}{e a b c:Expr}{st:Stmt}{sts rest:List Stmt}{pos:Pos}
noncomputable def wS(G:Gx)(F:Fy)(tv:List (Option V))(r:RS)(D:Ends):Prop:=match r with
 | .nx s'=> ∀ρ' σv' H',MR G F.toFx ρ' H' σv' tv s'->D.nx σv' H'
 | .rt t s'=> ∀ρ' σv' v H',MRL G F.toFx ρ' H' σv' tv s' [t] [v]->D.rt v H'
 | .bk s'=> ∀ρ' σv' H',MR G F.toFx ρ' H' σv' tv s'->D.bk σv' H'
 | .ct s'=> ∀ρ' σv' H',MR G F.toFx ρ' H' σv' tv s'->D.ct σv' H'
 | .ex d s'=>F.xw d s'
 | .no=>False
noncomputable def tSv(G:Gx)(F:Fy)(m:MS)(tv:List (Option V))(D:Ends)(σv:St)(H:Hp):Prop:=F.tv0<:+tv/\∃ρ s,MR G F.toFx ρ H σv tv s/\wS G F tv (m s) D
noncomputable def tS(G:Gx)(F:Fy)(m:MS):TS:=fun D σv H=> ∃tv,tSv G F m tv D σv H
noncomputable def SS(X:Cx)(G:Gx)(F:Fy)(st:Stmt)(m:MS):Prop:=PS X st (tS G F m)
noncomputable def SSs(X:Cx)(G:Gx)(F:Fy)(sts:List Stmt)(m:MS):Prop:=PSs X sts (tS G F m)
theorem PS.imp0{t t':TS}(h:PS X st t)(hi: ∀D σ H,t' D σ H->t D σ H):PS X st t':=fun pins s σ H D I q=>h pins s σ H D I (hi D σ H q)
theorem PSs.imp0{t t':TS}(h:PSs X sts t)(hi: ∀D σ H,t' D σ H->t D σ H):PSs X sts t':=fun pins s σ H D I q=>h pins s σ H D I (hi D σ H q)
theorem ss_nil:SSs X G F [] sNx:=PSs.imp0 z9D fun D σ H ⟨tv,hs,ρ,s,M,W⟩=>W ρ σ H M
theorem ss_cons{m m':MS}(h1:SS X G F st m)(h2:SSs X G F rest m'):SSs X G F (st::rest) (seqS m m'):=by
 refine PSs.imp0 (z85 h1 h2) fun D σ H ⟨tv,hs,ρ,s,M,W⟩=>⟨tv,hs,ρ,s,M, ?_⟩
 unfold seqS at W
 cases e:m s with
 |nx s'=>rw[e] at W;exact fun ρ' σv' H' M'=>⟨tv,hs,ρ',s',M',W⟩
 |rt d s'=>rw[e] at W;exact W
 |bk s'=>rw[e] at W;exact W
 |ct s'=>rw[e] at W;exact W
 |ex d s'=>rw[e] at W;exact W
 |no=>rw[e] at W;exact W
theorem ss_one{m:MS}(h1:SS X G F st m):SSs X G F [st] m:=z9E h1
theorem z2l{m:M D}{f:D->MS}{tv:List (Option V)}{D:Ends}{σ:St}{H:Hp}(h:tSv G F (lift m f) tv D σ H):tMv G F m σ tv H fun v H1=> ∃ρ1 s1 t,MRL G F.toFx ρ1 H1 σ tv s1 [t] [v]/\wS G F tv (f t s1) D:=by
 obtain⟨hs,ρ,s,M,W⟩:=h
 refine⟨hs,ρ,s,M, ?_⟩
 unfold lift at W
 cases e:m s with
 |ok t s1=>rw[e] at W;exact fun ρ1 v H1 M1=>⟨ρ1,s1,t,M1,W⟩
 |ex d s1=>rw[e] at W;exact W
 |no=>rw[e] at W;exact W
theorem z7b{m:M Bool}{f:Bool->MS}{tv:List (Option V)}{D:Ends}{σ:St}{H:Hp}(h:tSv G F (lift m f) tv D σ H):tBv G F m σ tv H fun b H1=> ∃ρ1 s1,MR G F.toFx ρ1 H1 σ tv s1/\wS G F tv (f b s1) D:=by
 obtain⟨hs,ρ,s,M,W⟩:=h
 refine⟨hs,ρ,s,M, ?_⟩
 unfold lift at W
 cases e:m s with
 |ok t s1=>rw[e] at W;exact fun ρ1 H1 M1=>⟨ρ1,s1,M1,W⟩
 |ex d s1=>rw[e] at W;exact W
 |no=>rw[e] at W;exact W
theorem ss_expr{m:M D}(he:SE X G F e m)(hs:swapsWith e none pos.line X.env=pure false:=by rfl):SS X G F (.Expr e pos) (z3F m):=
 PS.imp0 (z9F he hs) fun D σ H ⟨tv,h⟩=>⟨tv,(z2l h).mono fun v H1 ⟨ρ1,s1,t,M1,W⟩=>W ρ1 σ H1 M1.m⟩
theorem ss_ret{m:M D}(he:SE X G F e m):SS X G F (.Return (some e) pos) (sRet m):=
 PS.imp0 (zbi he) fun D σ H ⟨tv,h⟩=>⟨tv,(z2l h).mono fun v H1 ⟨ρ1,s1,t,M1,W⟩=>W ρ1 σ v H1 M1⟩
theorem ss_if{x y:List Stmt}{mc:M Bool}{m m':MS}(hc:SB X G F c mc)(ha:SSs X G F x m)(hb:SSs X G F y m'):SS X G F (.If c x y pos) (sIf mc m m'):=by
 refine PS.imp0 (zdA hc ha hb) fun D σ H ⟨tv,h⟩=>⟨tv,(z7b h).mono fun k H1 ⟨ρ1,s1,M1,W⟩=> ?_⟩
 cases k with
 |true=>rw[if_pos rfl];exact⟨tv,h.1,ρ1,s1,M1,W⟩
 |false=>rw[if_neg Bool.false_ne_true];exact⟨tv,h.1,ρ1,s1,M1,W⟩
noncomputable def tGn(G:Gx)(F:Fy)(g:Tg):TG:=fun v σv H Q=> ∃tv ρ s t,MRL G F.toFx ρ H σv tv s [t] [v]/\∃σ',asg g t s.σ=some σ'/\∀σv',MR G F.toFx ρ H σv' tv {s with σ:=σ'}->Q σv' H
noncomputable def tGs(G:Gx)(F:Fy)(g:List Tg):TGs:=fun vs σv H Q=> ∃tv ρ s ts,MRL G F.toFx ρ H σv tv s ts vs/\∃σ',asgL g ts s.σ=some σ'/\∀σv',MR G F.toFx ρ H σv' tv {s with σ:=σ'}->Q σv' H
noncomputable def SG(X:Cx)(G:Gx)(F:Fy)(tg:Expr)(g:Tg):Prop:=PG X tg (tGn G F g)
noncomputable def SGs(X:Cx)(G:Gx)(F:Fy)(tgs:List Expr)(g:List Tg):Prop:=PGs X tgs (tGs G F g)
theorem MRL.setS{ρ:Nat->Addr}{H:Hp}{σv tv:List (Option V)}{s:Stt}{t:D}{v:V}{ts:List D}{vs:List V}(i:Nat)(M:MRL G F.toFx ρ H σv tv s (t::ts) (v::vs)):MRL G F.toFx ρ H (σv.set i (some v)) tv {s with σ:=s.σ.set i (some t)} ts vs:=by
 have h:=M.rd
 simp only[RDs] at h
 obtain⟨_,_,e,h1,h2⟩:=h
 cases e
 have lb1: ∀l∈labs t,l<s.n/\(F.A0 (ρ l)\/F.H0 (ρ l)=none):=fun l h=>M.lb l (by simp only[labsL];exact List.mem_append_left _ h)
 have all: ∀l∈z0E {s with σ:=s.σ.set i (some t)},l<s.n/\(F.A0 (ρ l)\/F.H0 (ρ l)=none):=fun l h=>by
  rcases List.mem_append.mp h with h|h
  ·rcases z2A l h with q|q
   ·exact⟨M.m.lab l (List.mem_append_left _ q),M.m.own l (List.mem_append_left _ q)⟩
   ·exact lb1 l q
  ·exact⟨M.m.lab l (List.mem_append_right _ h),M.m.own l (List.mem_append_right _ h)⟩
 exact⟨⟨M.m.sl.set i h1,M.m.tm,M.m.inj,M.m.dom,fun l h=>(all l h).1,fun l h=>(all l h).2,M.m.frm,M.m.kd,M.m.frb,M.m.bas⟩,h2,fun l h=>M.lb l (by simp only[labsL];exact List.mem_append_right _ h)⟩
theorem sg_name{i:Nat}{x:Str}{p:Pos}(h:PG X (.Name x p) (z5U i)):SG X G F (.Name x p) (.nm i):=by
 intro pins s σ H v u Q I r ⟨tv,ρ,ms,t,M,σ',e,k⟩
 simp only[asg,Option.some.injEq] at e
 subst e
 exact h pins s σ H v u Q I r (k _ (M.setS i).m)
theorem sgs_nil:SGs X G F [] []:=by
 intro pins s σ H vs us Q I r ⟨tv,ρ,ms,ts,M,σ',e,k⟩
 cases ts with
 |nil=>
  simp only[asgL,Option.some.injEq] at e
  subst e
  have h:=M.rd
  simp only[RDs] at h
  exact z9G pins s σ H vs us Q I r ⟨h,k _ M.m⟩
 |cons d ds=>simp only[asgL] at e;cases e
theorem MRL.cons_inv{ρ:Nat->Addr}{H:Hp}{σv tv:List (Option V)}{s:Stt}{t:D}{ts:List D}{vs:List V}(M:MRL G F.toFx ρ H σv tv s (t::ts) vs): ∃v r,vs=v::r/\MRL G F.toFx ρ H σv tv s [t] [v]/\RDs G ρ H ts r/\LB F.toFx ρ s.n (labsL ts):=by
 have h:=M.rd
 simp only[RDs] at h
 obtain⟨v,r,rfl,h1,h2⟩:=h
 exact⟨v,r,rfl,⟨M.m,RDs.one h1,fun l h=>M.lb l (by simp only[labsL,List.append_nil] at h⊢;exact List.mem_append_left _ h)⟩,h2,fun l h=>M.lb l (by simp only[labsL];exact List.mem_append_right _ h)⟩
theorem PGs.imp0{es:List Expr}{t t':TGs}(h:PGs X es t)(hi: ∀vs σ H Q,t' vs σ H Q->t vs σ H Q):PGs X es t':=fun pins s σ H vs us Q I r q=>h pins s σ H vs us Q I r (hi vs σ H Q q)
theorem PG.imp0{t t':TG}(h:PG X e t)(hi: ∀v σ H Q,t' v σ H Q->t v σ H Q):PG X e t':=fun pins s σ H v u Q I r q=>h pins s σ H v u Q I r (hi v σ H Q q)
theorem sgs_cons{es:List Expr}{g:Tg}{gs:List Tg}(h1:SG X G F e g)(h2:SGs X G F es gs)(hs:(assignEach (e::es) X.env).map (·.2)=assign e X.env::(assignEach es X.env).map (·.2):=by rfl):SGs X G F (e::es) (g::gs):=by
 refine PGs.imp0 (z86 h1 h2 hs) fun vs σv H Q ⟨tv,ρ,s,ts,M,σ',e,k⟩=> ?_
 cases ts with
 |nil=>simp only[asgL] at e;cases e
 |cons d ds=>
  simp only[asgL] at e
  cases e1:asg g d s.σ with
  |none=>rw[e1] at e;cases e
  |some σ1=>
   rw[e1] at e
   obtain⟨v,r,rfl,M1,h2,lb⟩:=M.cons_inv
   exact⟨v,r,rfl,tv,ρ,s,d,M1,σ1,e1,fun σv1 M2=>⟨tv,ρ,{s with σ:=σ1},ds,⟨M2,h2,lb⟩,σ',e,k⟩⟩
theorem sg_tup{es:List Expr}{k:Nat}{gs:List Tg}(hk:X.K=G.K)(hc:X.calm=true)(h:SGs X G F es gs)(hn:(assignEach es X.env).length=gs.length:=by rfl)(hst:(assignEach es X.env).findIdx? (·.1)=none:=by rfl):SG X G F (.Tuple es k pos) (.tp gs):=by
 refine PG.imp0 (zbW hc h hn hst) fun v σv H Q ⟨tv,ρ,s,t,M,σ',e,kk⟩=> ?_
 have len: ∀{gs:List Tg} {ds:List D} {σ σ':List (Option D)},asgL gs ds σ=some σ'->ds.length=gs.length:=by
  intro gs
  induction gs with
  |nil=>intro ds σ σ' e;cases ds with
   |nil=>rfl
   |cons _ _=>simp only[asgL] at e;cases e
  |cons g gs ih=>intro ds σ σ' e;cases ds with
   |nil=>simp only[asgL] at e;cases e
   |cons d ds=>
    simp only[asgL] at e
    cases e1:asg g d σ with
    |none=>rw[e1] at e;cases e
    |some σ1=>rw[e1] at e;rw[List.length_cons,List.length_cons,ih e]
 cases t with
 |tup ds=>
  simp only[asg] at e
  obtain⟨a,xs,rfl,sq,r⟩:=M.rd1.tupq
  refine⟨a,xs,rfl, .inl (hk▸sq),by rw[<-r.length];exact len e,tv,ρ,s,ds,⟨M.m,r,fun l h=>M.lb1 l (by simp only[labs];exact h)⟩,σ',e,kk⟩
 |lst l ds=>
  simp only[asg] at e
  obtain⟨a,xs,rfl,sq,r,sub⟩:=M.rd1.lstq (ds:=ds) rfl
  refine⟨a,xs,rfl, .inr (hk▸sq),by rw[<-r.length];exact len e,tv,ρ,s,ds,⟨M.m,r,fun l h=>M.lb1 l (sub l h)⟩,σ',e,kk⟩
 |_=>simp only[asg] at e;cases e
theorem ss_set{i:Nat}{x:Str}{p:Pos}{m:M D}(h: ∀{te:TE},PE X e te->PS X (.Assign [.Name x p] e pos) (tAsg te (z5U i)))(he:SE X G F e m):SS X G F (.Assign [.Name x p] e pos) (sAsg (.nm i) m):=by
 refine PS.imp0 (h he) fun D σ H ⟨tv,h⟩=>⟨tv,(z2l h).mono fun v H1 ⟨ρ1,s1,t,M1,W⟩=> ?_⟩
 simp only[asg] at W
 exact W ρ1 _ H1 (M1.setS i).m
end
end Mi
namespace L2
open PySem PySem.Spec PyProof.Rows
noncomputable abbrev z7c(ifs:List Expr)(env:Env):Sem Bool:=forIn ifs true fun c r=>if r=true then do let ok<-isTrue c env (eval c env);pure (ForInStep.yield ok) else pure (ForInStep.yield r)
theorem z1y{prog:Program}{w:World}{A:Around}{R:Result->Shared->Prop}{s:Shared}{elt target iter:Expr}{ifs:List Expr}{scope:Scope}{pos:Pos}{it acc:Value}{env:Env}(I:Nat->Shared->Prop)
 (turn: ∀n s,I n s->wpAny (model prog w) A (pyNext it) (fun r s₁=>match r with
  |none=>R (.ok .next) s₁
  |some v=>wpAny (model prog w) A (letOwnedTupleGo target it v) (fun _ s₁=>wpAny (model prog w) A (assign target env v) (fun _ s₂=>wpAny (model prog w) A (z7c ifs env) (fun ok s₃=>
   if ok=true then wpAny (model prog w) A (eval elt env) (fun x s₃=>
   wpAny (model prog w) A (call (.builtin "list.append") [acc,x]) (fun _ s₄=> ∃m,m<n/\I m s₄) (fun _ _=>False) s₃)
   (fun _ _=>False) s₃ else ∃m,m<n/\I m s₃) (fun _ _=>False) s₂) (fun _ _=>False) s₁) (fun _ _=>False) s₁) (fun _ _=>False) s)
 (n:Nat) (h:I n s):
 codeAny (model prog w) A (.compLoop (.ListComp elt [⟨target,iter,ifs,0⟩] scope pos) 0 it acc env) R s:=by
 refine codeAny_loop rfl I (fun n s hI=> ?_) n h
 show wpAny _ _ ((compTurn (.ListComp elt [⟨target,iter,ifs,0⟩] scope pos) 0 it acc env).onRaise (fun x=>do noteFrame x env;theTreesLotGoes x)) _ _ s
 refine wpAny_noted ?_
 rw[compTurn_list]
 refine wpAny_bind (wpAny_standAt (wpAny_bind (wpAny_mono (turn n s hI) (fun r s₁ h₁=> ?_) fun _ _ h'=>h'.elim)))
 cases r with
 |none=>exact wpAny_pure h₁
 |some v=>
  refine wpAny_bind (wpAny_mono h₁ (fun _ s₁ h₁=> ?_) fun _ _ h'=>h'.elim)
  refine wpAny_bind (wpAny_mono h₁ (fun _ s₂ h₂=>wpAny_bind (wpAny_mono h₂ (fun ok s₃ h₃=> ?_) fun _ _ h'=>h'.elim)) fun _ _ h'=>h'.elim)
  cases ok with
  |false=>exact wpAny_pure ⟨rfl,h₃⟩
  |true=>
   exact wpAny_bind (wpAny_bind (wpAny_mono h₃ (fun x s₄ h₄=>wpAny_bind (wpAny_mono h₄ (fun _ s₅ h₅=>wpAny_pure (wpAny_pure ⟨rfl,h₅⟩)) fun _ _ h'=>h'.elim)) fun _ _ h'=>h'.elim))
noncomputable def PTs(X:Cx)(ifs:List Expr)(t:TT):Prop:=
 ∀(pins:List (Addr×Obj)) (s:Shared) (σ:St) (H:Hp) (Q:Bool->Hp->Prop),Inv X pins σ H s->t σ H Q->wpAny (model X.prog X.w) X.A (z7c ifs X.env) (TP X pins σ Q) X.xe s
theorem zag{X:Cx}:PTs X [] (fun _ H Q=>Q true H):=fun pins s σ H Q I h=>wpAny_tests_nil ⟨H,I,h⟩
section
variable{X:Cx}{tg iter elt:Expr}{ifs:List Expr}{pos:Pos}{scope:Scope}{own frees:List Str}{ix:List Nat}{wi:TI}{g:TG}{tt:TT}{te:TE}
noncomputable def z5B(K:W.Frag)(wi:TI)(g:TG)(tt:TT)(te:TE)(k:Nat)(ix:List Nat):TE:=fun σ H Q=>wi σ H fun J H1=> ∀D,H1 D=none->(∀a o,K.lookup a=some o->upd H1 D (.lst []) a=none)->
 ∃W:Nat->Nat->List V->St->Hp->Prop,(∃m,W 0 m [] (z1P k ix σ) (upd H1 D (.lst [])))/\
  ∀i m ys σ' H',W i m ys σ' H'->H' D=some (.lst ys)/\((J.stop i H'/\Q (.ref D) H')\/
   (J.go i H'/\∀x H2,J.yld i H' x H2->g x σ' H2 fun σ2 H3=>tt σ2 H3 fun ok H3=>if ok=true then te σ2 H3 fun y H4=>H4 D=some (.lst ys)/\ys.length<sizeLine/\∃m',m'<m/\W (i+1) m' (ys++[y]) σ2 (upd H4 D (.lst (ys++[y])))
    else ∃m',m'<m/\W (i+1) m' ys σ2 H3))
theorem z2D(hc:X.calm=true)(S:z0G X.env.scope scope own frees X.N ix)(hi:PI X tg iter wi)
 (hg: ∀cl C s₀ H₀ fp pn,PG (z0r X scope own frees cl C s₀ H₀ fp pn) tg g) (ht: ∀cl C s₀ H₀ fp pn,PTs (z0r X scope own frees cl C s₀ H₀ fp pn) ifs tt) (he: ∀cl C s₀ H₀ fp pn,PE (z0r X scope own frees cl C s₀ H₀ fp pn) elt te)
 (hs: ∀x,foldedSetIterable iter X.env x=pure x:=by intro _;rfl):
 PE X (.ListComp elt [⟨tg,iter,ifs,0⟩] scope pos) (z5B X.K wi g tt te own.length ix):=by
 intro pins s σ H Q I h
 have hclos:closureFor scope X.env=pure (z1O X.env scope.names []):=z3B fun y hy e=>I.ok.has y.1 (S.fr y hy e)
 rw[eval_ListComp]
 refine wpAny_comprehension_free (use:=none) rfl hs hclos S.kind S.names (thn (hi pins s σ H _ I h) fun v s1 h1=>thn h1 fun itv s2 h2=> ?_)
 obtain⟨it,fp,tn,J,H2,e,I2,T,st2,f2,hD⟩:=h2
 subst e
 refine wpAny_newObj_type ?_
 have I3:Inv X pins σ (upd H2 s2.heap.objs.size (.lst [])) {s2 with heap:=s2.heap.push {cls:= .type "list",data:= .seq ([]:List Value).toArray}}:=I2.lnew (t':=s2.toks) .nil (Nat.zero_le _)
 have nD:H2 s2.heap.objs.size=none:=I2.fresh
 obtain⟨W,⟨m0,w0⟩,turn⟩:=hD _ nD fun a o e=>(I3.bs a o (I3.ok.mod.kin a o e)).2
 have fpl: ∀b∈fp,b<s2.heap.objs.size:=fun b z=>by
  obtain⟨o,q,_⟩:=T.obj _ _ st2 b z
  exact Heap.lt_size q
 generalize hs3:({s2 with heap:=s2.heap.push {cls:= .type "list",data:= .seq ([]:List Value).toArray}}:Shared)=s3 at I3
 have hpush: ∀b o,s2.heap.get? b=some o->s3.heap.get? b=some o:=fun b o q=>by rw[<-hs3];exact Heap.get?_push_of_some _ q
 have hsz3:s2.heap.objs.size<s3.heap.objs.size:=by rw[<-hs3];show _<(s2.heap.push _).objs.size;rw[Heap.size_push];exact Nat.lt_succ_self _
 have f3: ∀b∈fp,FpOk X pins (upd H2 s2.heap.objs.size (.lst [])) b:=fun b z=>⟨by rw[z02 (Nat.ne_of_lt (fpl b z))];exact(f2 b z).1,(f2 b z).2⟩
 have st3:tn 0 s3.heap:=T.keep _ _ _ st2 fun b _ o q=>hpush b o q
 generalize hDd:s2.heap.objs.size=D at*
 generalize hH3:upd H2 D (.lst [])=H3 at*
 have goal:wpAny (model X.prog X.w) X.A (newFunctionEnv scope X.env.globals (z1O X.env scope.names []) [] X.env.qual none .none (some X.env)) (fun cenv s₄=>
  codeAny (model X.prog X.w) X.A (.compStart (.ListComp elt [⟨tg,iter,ifs,0⟩] scope pos) 0 (.ref it) (.ref D) {cenv with scope:=relabel scope X.env}) (compPost (model X.prog X.w) X.A X.xe none (EP X pins σ Q) (.ref D) cenv.locals) s₄) X.xe s3:=by
  refine wpAny_newFunctionEnv S.nocell (by intro y hy;simp at hy) (fun h1 hns hsb=> ?_) S.kind
  have hns:h1.Ns s3.heap.objs.size (fun _=>none):=hns
  have keep4: ∀b o,s3.heap.get? b=some o->h1.get? b=some o:=fun b o q=>hsb.extBut b o (Nat.ne_of_lt (Heap.lt_size q)) (Heap.get?_push_of_some _ q)
  have fpl3: ∀b∈fp,b<s3.heap.objs.size:=fun b z=>Nat.lt_trans (fpl b z) hsz3
  generalize hs4:({s3 with heap:=h1,toks:=s3.toks+([]:List (Str×Value)).length}:Shared)=s4
  have I4:Inv (z0r X scope own frees (z1O X.env scope.names []) s3.heap.objs.size s3 H3 fp (X.pn++pins)) [] (z1P own.length ix σ) H3 s4:=
   z69 S I3 f3 fpl3 (by rw[<-hs4]) (by rw[<-hs4]) (fun b o q=>by rw[<-hs4];exact keep4 b o q) (by rw[<-hs4];exact hns)
  have st4:tn 0 s4.heap:=T.keep _ _ _ st3 fun b _ o q=>by rw[<-hs4];exact keep4 b o q
  generalize hXc:z0r X scope own frees (z1O X.env scope.names []) s3.heap.objs.size s3 H3 fp (X.pn++pins)=Y at I4
  have eP:Y.prog=X.prog:=by rw[<-hXc];rfl
  have eW:Y.w=X.w:=by rw[<-hXc];rfl
  have eK:Y.K=X.K:=by rw[<-hXc];rfl
  have eA:Y.A=X.A:=by rw[<-hXc];rfl
  have eC:Y.calm=true:=by rw[<-hXc];exact hc
  have eE:Y.env=compEnvC scope (z1O X.env scope.names []) s3.heap.objs.size X.env:=by rw[<-hXc];rfl
  have eX:Y.xe=fun _ _=>False:=by rw[<-hXc];rfl
  have eF: ∀{H':Hp},(∀b∈fp,H' b=none)->∀b∈fp,FpOk Y [] H' b:=fun{H'} hn b hb=>by
   rw[<-hXc]
   obtain⟨g1,g2,g3,g4,g5,g6⟩:=f3 b hb
   refine⟨hn b hb,Nat.ne_of_lt (fpl3 b hb),fun q=> ?_, .inl hb,fun x c e=> ?_,fun p hp=> ?_⟩
   ·rcases List.mem_cons.mp (I3.stkSub b q) with r|r
    ·exact g2 r
    ·exact g3 r
   ·rcases z3C _ _ e with q|q
    ·exact nomatch q
    ·exact g5 x c q.1
   ·have hp:p∈(X.pn++pins)++[]:=hp
    rw[List.append_nil] at hp
    exact g6 p hp
  have gY:PG Y tg g:=by rw[<-hXc];exact hg _ _ _ _ _ _
  have tY:PE Y elt te:=by rw[<-hXc];exact he _ _ _ _ _ _
  have sY:PTs Y ifs tt:=by rw[<-hXc];exact ht _ _ _ _ _ _
  have loop:codeAny (model X.prog X.w) X.A (.compLoop (.ListComp elt [⟨tg,iter,ifs,0⟩] scope pos) 0 (.ref it) (.ref D) (compEnvC scope (z1O X.env scope.names []) s3.heap.objs.size X.env))
   (compPost (model X.prog X.w) X.A X.xe none (EP X pins σ Q) (.ref D) s3.heap.objs.size) s4:=by
   refine z1y (fun n s'=> ∃i ys σ' H',Inv Y [] σ' H' s'/\tn i s'.heap/\(∀b∈fp,H' b=none)/\W i n ys σ' H') ?_ m0 ⟨0,[],_,_,I4,st4,fun b hb=>(f3 b hb).1,w0⟩
   rintro n s5 ⟨i,ys,σ5,H5,I5,st5,fr5,w5⟩
   obtain⟨hD5,alt⟩:=turn i n ys σ5 H5 w5
   rcases alt with⟨stop,qn⟩|⟨go,step⟩
   ·have d:=T.done Y eP eW eK eC i [] s5 σ5 H5 (fun _ _=>False) I5 (eF fr5) st5 stop
    rw[eA] at d
    refine thn d fun r s6 ⟨hr,I6⟩=> ?_
    subst hr
    subst hXc
    obtain⟨m6,n6,_⟩:=I6.loc
    exact⟨m6,n6,fun h'' hs''=>⟨.ref D,H5,z8m I3 f3 (Nat.le_refl _) I6 hs'',rfl,qn⟩⟩
   ·have d:=T.item Y eP eW eK eC i [] s5 σ5 H5 (fun _ _=>False) I5 (eF fr5) st5 go
    rw[eA] at d
    refine thn d fun r s6 ⟨u,hr,h6⟩=> ?_
    subst hr
    refine thn h6 fun _ s7 ⟨x,H7,I7,r7,y7,st7,fr7⟩=> ?_
    have I7':=I7.pinned (eF fr7) (T.obj _ _ st7)
    have e1:=gY _ s7 σ5 H7 x u _ I7' r7 (step x H7 y7)
    rw[eP,eW,eA,eE,eX] at e1
    refine thn e1 fun _ s8 ⟨σ8,H8,I8,q8⟩=> ?_
    have e1':=sY _ s8 σ8 H8 _ I8 q8
    rw[eP,eW,eA,eE,eX] at e1'
    refine thn e1' fun ok s8 ⟨H8,I8,q8⟩=> ?_
    cases ok with
    |false=>
     rw[if_neg Bool.false_ne_true] at q8⊢
     obtain⟨m',hm',w9⟩:=q8
     refine⟨m',hm',i+1,_,σ8,_,I8.unpinned,T.keep _ _ _ st7 fun b hb o e=> ?_,fun b hb=> ?_,w9⟩
     ·exact(I8.pin (b,o) (List.mem_append_right _ (List.mem_append_right _ (z0R hb e)))).1
     ·obtain⟨o,e,d⟩:=T.obj _ _ st7 b hb
      exact(I8.pin (b,o) (List.mem_append_right _ (List.mem_append_right _ (z0R hb e)))).2.1
    |true=>
    rw[if_pos rfl] at q8⊢
    have e2:=tY _ s8 σ8 H8 _ I8 q8
    rw[eP,eW,eA,eE,eX] at e2
    refine thn e2 fun yv s9 ⟨y,H9,I9,r9,hD9,hz9,m',hm',w9⟩=> ?_
    have e3:=z4d (X:=Y) _ s9 σ8 H9 (.ref D) [y] (.ref D) [yv] (fun v H'=>v= .non/\H'=upd H9 D (.lst (ys++[y]))) I9 rfl (.cons r9 .nil) ⟨D,ys,y,rfl,rfl,hD9,hz9,rfl,rfl⟩
    rw[eP,eW,eA,eX] at e3
    refine thn e3 fun _ s10 ⟨v10,H10,I10,r10,_,e10⟩=> ?_
    subst e10
    refine⟨m',hm',i+1,_,σ8,_,I10.unpinned,T.keep _ _ _ st7 fun b hb o e=> ?_,fun b hb=> ?_,w9⟩
    ·exact(I10.pin (b,o) (List.mem_append_right _ (List.mem_append_right _ (z0R hb e)))).1
    ·obtain⟨o,e,d⟩:=T.obj _ _ st7 b hb
     exact(I10.pin (b,o) (List.mem_append_right _ (List.mem_append_right _ (z0R hb e)))).2.1
  exact codeAny_compStart_list loop (T.self _ 0 _ _ _ st4 loop)
 exact goal
end
structure zb4(osc sc:Scope)(own frees N:List Str)(ix:List Nat):Prop where
 kind:sc.kind= .function
 names: ∀y∈sc.names,y.2= .local->sc.names.lookup y.1=some .local
 fr: ∀y∈sc.names,y.2= .free->osc.names.lookup y.1=some .cell\/osc.names.lookup y.1=some .free
 nd:(own++frees).Nodup
 frl: ∀x∈frees,sc.names.lookup x=some .free
 ixs:ix.map (fun i=>N[i]?)=frees.map some
 frc: ∀y∈sc.names,y.2= .cell->y.1∉frees
 owf: ∀y∈sc.names,y.2= .free->y.1∉own
theorem Inv.turnedL{X:Cx}{pins:List (Addr×Obj)}{σ:List (Option V)}{H:Hp}{s:Shared}{h':Heap}{t':Nat}{fp:List Addr}(I:Inv X pins σ H s)(k: ∀b o,b∉fp->s.heap.get? b=some o->h'.get? b=some o)(hf: ∀b∈fp,FpOk X pins H b):Inv X pins σ H {s with heap:=h',toks:=t'}:=by
 have nit: ∀b u,H b=some u->b∉fp:=fun b u e z=>by rw[(hf b z).1] at e;cases e
 refine I.step (g':=s.gens) (d':=s.drawn) (ch:=fp) (fun b hb=> ?_) (fun b o _ _ hc e _=>k b o hc e) (fun b o _ _ hc e _=>⟨o.slots,k b o hc e⟩) (fun _ _ _ _ n=>n)
  (fun b o hc e=>⟨o,k b o hc e⟩) (fun _ _ e=>e) (fun _ _ _ e=>e) (fun b ps e=>⟨#[],by rw[e];simp⟩) (fun m hm=> ?_) (fun b u e=> ?_) I.bare
 ·obtain⟨f0,f1,f2,f3,f4,f5⟩:=hf b hb
  exact⟨f3,f1,f4,f5⟩
 ·obtain⟨o,es,ep,ho,r⟩:=hm
  exact⟨o,es,ep,k _ o (fun z=>(hf _ z).2.1 rfl) ho,r⟩
 ·refine(I.hok b u e).stay (fun c v hc q=>k c v ?_ q) (fun _ q=>q) fun _ _ q=>q
  rcases hc with z|z
  ·rw[z];exact nit b u e
  ·exact nit c _ z
noncomputable def Ite(K:W.Frag)(a:Addr):It:=
 ⟨fun i H=> ∃xs x,SqL K H a xs/\xs[i]? =some x,fun i H v H'=> ∃p x,H p=none/\v= .ref p/\H'=upd H p (.tup [.int i,x])/\(∀xs,SqL K H a xs->xs[i]? =some x)/\∀b o,K.lookup b=some o->H' b=none,fun i H=> ∃xs,SqL K H a xs/\xs.length<=i⟩
theorem z7d{P:Program}{w:World}{K:W.Frag}{elts:List Expr}{x1:Nat}{tpos:Pos}(a e it:Addr)(hne:e≠it):Turn P w K (.Tuple elts x1 tpos) (Ite K a) [e,it] e (fun i h=> ∃old,IsEnum h e it i old/\h.IsListIter it a i) where
 mem:=by simp
 obj:=fun i h st b hb=>by
  obtain⟨old,h1,h2⟩:=st
  have hb:b=e\/b=it:=by simpa using hb
  rcases hb with rfl|rfl
  ·exact⟨_,h1,fun v z=>by
    have z':Data.fields _=Data.cell v:=z
    cases z'⟩
  ·obtain⟨o,e,c,d⟩:=h2
   exact⟨o,e,fun v z=>by rw[d] at z;cases z⟩
 keep:=fun i h h' st k=>by
  obtain⟨old,h1,h2⟩:=st
  exact⟨old,k e (by simp) _ h1,h2.at fun o q=>k it (by simp) o q⟩
 item:=by
  intro X hP hw hK hc i pins s σ H E I hf st hg
  subst hP hw hK
  obtain⟨old,st1,st2⟩:=st
  obtain⟨xs,x,hq,hx⟩:=hg
  obtain⟨its,rv,p,hz⟩:=I.list hq
  obtain⟨u,hu,ru⟩:=rv.get hx
  refine wpAny_pyNext_enum_item st1 st2 p.isList (x:=u) (by simpa using hu) hne fun h1 heo hit ht hsz hk=> ?_
  refine⟨_,rfl,wpAny_letOwnedTupleGo_enum heo fun h2 he2 hs2=> ?_⟩
  have hs2:Heap.SameBut e h1 h2:=hs2
  have hel:e<s.heap.objs.size:=Heap.lt_size st1
  have ht2:h2.get? s.heap.objs.size=some {cls:= .type "tuple",data:= .seq #[.int i s.toks,u]}:=(hs2.2 _ (Nat.ne_of_gt hel)).trans ht
  have fr: ∀b∈[e,it],b≠s.heap.objs.size:=fun b hb=>by
   have hb:b=e\/b=it:=by simpa using hb
   rcases hb with rfl|rfl
   ·exact Nat.ne_of_lt hel
   ·obtain⟨o,q,_⟩:=st2
    exact Nat.ne_of_lt (Heap.lt_size q)
  have I1:Inv X pins σ (upd H s.heap.objs.size (.tup [.int i,x])) {s with heap:=s.heap.push {cls:= .type "tuple",data:= .seq #[.int i s.toks,u]},toks:=s.toks}:=I.laid (t':=s.toks) (o:= .tup [.int i,x]) (fun b ob q=>Heap.get?_push_of_some _ q) (Nat.le_refl _) ⟨by show 2<=sizeLine;decide,[.int i s.toks,u], .cons ⟨_,rfl⟩ (.cons ru .nil),IsTup.new _ _⟩
  have f1: ∀b∈[e,it],FpOk X pins (upd H s.heap.objs.size (.tup [.int i,x])) b:=fun b hb=>⟨by rw[z02 (fr b hb)];exact(hf b hb).1,(hf b hb).2⟩
  have I2:=I1.turnedL (h':=h2) (t':=s.toks+1) (fun b o hb q=>by
   have hb:b≠e/\b≠it:=by simpa using hb
   rcases Heap.get?_push_cases (show(s.heap.push {cls:= .type "tuple",data:= .seq #[.int i s.toks,u]}).get? b=some o from q) with⟨rfl,rfl⟩|q'
   ·exact ht2
   ·exact(hs2.2 b hb.1).trans (hk b o hb.1 hb.2 q')) f1
  refine⟨.ref s.heap.objs.size,_,I2,rfl,⟨_,x,I.hok.fresh (Nat.le_refl _),rfl,rfl,fun ys hy=>by rw[I.list_inj hy hq];exact hx,fun b o q=>(I2.bs b o (I2.ok.mod.kin b o q)).2⟩,⟨u, ?_, ?_⟩,fun b hb=>(f1 b hb).1⟩
  ·have:((i+1:Nat):Int)=(i:Int)+1:=by push_cast;rfl
   rw[this];exact he2
  ·obtain⟨o,q,r⟩:=hit
   exact⟨o,(hs2.2 it (Ne.symm hne)).trans q,r⟩
 done:=by
  intro X hP hw hK hc i pins s σ H E I hf st hg
  subst hP hw hK
  obtain⟨old,st1,st2⟩:=st
  obtain⟨xs,hq,hx⟩:=hg
  obtain⟨its,rv,p,hz⟩:=I.list hq
  have hl:=rv.length
  exact wpAny_pyNext_enum_end (I.ok.hd hc) st1 st2 p.isList (by simp;lia) fun h' eb=>⟨rfl,I.turnedL (t':=s.toks) (fun b o hb q=>eb b o (fun z=>hb (by simp[z])) q) hf⟩
 self:=fun A i s Q E st h=>by
  obtain⟨old,st1,_⟩:=st
  exact wpAny_pyIter_enum st1 h
section
variable{prog:Program}{w:World}{A:Around}{E:Value->Shared->Prop}{s:Shared}
theorem z1Z{it t:Addr}{i:Nat}{items}{x:Value}{Q:Value->Shared->Prop}(hit:s.heap.IsTupleIter it t i)
 (hl:s.heap.IsTuple t items) (hx:items[i]? =some x)
 (hQ: ∀h',h'.IsTupleIter it t (i+1)->Heap.SameBut it s.heap h'->Q x {s with heap:=h'}):
 wpAny (model prog w) A (Builtin.SmallTypes.nextOf (.ref it)) Q E s:=by
 obtain⟨o,ho,hc,hd⟩:=id hit
 obtain⟨ol,hol,_,nl,hdl⟩:=hl
 unfold Builtin.SmallTypes.nextOf
 refine wpAny_bind (wpAny_callSpecial?_slot (name:=Str.ofString "__next__") hit.typeIs F.slot_tuple_iterator_next
  (wpAny_call_entry F.slot_tuple_iterator_next hit.typeIs F.entry_tuple_iterator_next ?_ (F.args_tuple_iterator_next_1 _)))
 show wpAny _ _ (field (.ref it) 0>>=_) _ _ s
 refine wpAny_bind (wpAny_field ho hd (x:= .ref t) rfl ?_)
 show wpAny _ _ (if(Value.ref t==Value.none)=true then _ else _) _ _ s
 rw[if_neg (show ¬((Value.ref t==Value.none)=true) from Bool.false_ne_true)]
 show wpAny _ _ (field (.ref it) 1>>=_) _ _ s
 refine wpAny_bind (wpAny_field ho hd (x:= .int i 0) rfl ?_)
 show wpAny _ _ (seqItems? (.ref t)>>=_) _ _ s
 refine wpAny_bind (wpAny_seqItems hol hdl ?_)
 simp only[Int.toNat_natCast,hx]
 refine wpAny_bind (wpAny_setField ho hd (by simp) (wpAny_pure ⟨x,rfl,wpAny_pure (hQ _ ?_ (Heap.SameBut.update ..))⟩))
 exact⟨_,Heap.get?_update_self _ ho (Obj.isFreed_of_fields (Obj.data_mapFields hd _)),(Obj.cls_mapFields ..).trans hc,by
  rw[Obj.data_mapFields hd];simp[rawInt]⟩
theorem z1j{it t:Addr}{i:Nat}{items}{Q:Value->Shared->Prop}(hh:A.handled=none)
 (hit:s.heap.IsTupleIter it t i) (hl:s.heap.IsTuple t items) (hx:items[i]? =none)
 (hE: ∀h' e,Heap.ExtBut it s.heap h'->(∃o,h'.get? e=some o/\o.cls= .type "StopIteration")->E (.ref e) {s with heap:=h'}):
 wpAny (model prog w) A (Builtin.SmallTypes.nextOf (.ref it)) Q E s:=by
 obtain⟨o,ho,hc,hd⟩:=id hit
 obtain⟨ol,hol,_,nl,hdl⟩:=hl
 unfold Builtin.SmallTypes.nextOf
 refine wpAny_bind (wpAny_callSpecial?_slot (name:=Str.ofString "__next__") hit.typeIs F.slot_tuple_iterator_next
  (wpAny_call_entry F.slot_tuple_iterator_next hit.typeIs F.entry_tuple_iterator_next ?_ (F.args_tuple_iterator_next_1 _)))
 show wpAny _ _ (field (.ref it) 0>>=_) _ _ s
 refine wpAny_bind (wpAny_field ho hd (x:= .ref t) rfl ?_)
 show wpAny _ _ (if(Value.ref t==Value.none)=true then _ else _) _ _ s
 rw[if_neg (show ¬((Value.ref t==Value.none)=true) from Bool.false_ne_true)]
 show wpAny _ _ (field (.ref it) 1>>=_) _ _ s
 refine wpAny_bind (wpAny_field ho hd (x:= .int i 0) rfl ?_)
 show wpAny _ _ (seqItems? (.ref t)>>=_) _ _ s
 refine wpAny_bind (wpAny_seqItems hol hdl ?_)
 simp only[Int.toNat_natCast,hx]
 refine wpAny_bind (wpAny_rule (wpAny_bind (wpAny_setField ho hd (by simp) ?_)))
 show wpAny _ _ (newExc (.type "StopIteration") []>>=_) _ _ _
 refine wpAny_bind ?_
 simp only[newExc,newTuple]
 refine wpAny_bind (wpAny_newObj_type ?_ (by size_fits))
 refine wpAny_bind (m:=firstArgMember _ _) (wpAny_of_eq (a:=Value.none) (by first|rfl|(simp only[firstArgMember];rfl)) ?_)
 refine wpAny_newObj_type ?_ (by size_fits)
 simp only[raiseNew]
 refine wpAny_bind (wpAny_handled ?_)
 first|rw[show A.in1.handled=none from hh]|rw[hh]
 refine wpAny_bind (wpAny_pure (wpAny_throw ?_))
 exact hE _ _ (((Heap.SameBut.update ..).extBut.push _).push _) ⟨_,Heap.get?_push_size _ rfl,rfl⟩
end
theorem z4V{prog:Program}{w:World}{A:Around}(hh:A.handled=none)(it l:Addr)(hne:l≠it)(items:Array Value):
 Draws prog w A it [it,l] items.size (fun i v=>items[i]? =some v) (fun i h=>h.IsTupleIter it l i/\h.IsTuple l items) where
 live:=fun _ _ st=>let⟨o,ho,_⟩:=st.1;⟨o,ho⟩
 frame:=fun _ _ _ st hk=>⟨st.1.at fun o e=>hk it (by simp) o e,let⟨o,ho,r⟩:=st.2;⟨o,hk l (by simp) o ho,r⟩⟩
 item:=fun i s Q E hi st hQ=>by
  refine z1Z st.1 st.2 (x:=items[i]) (by simp[hi]) fun h' hit' hs'=> ?_
  exact hQ _ h' s.toks (by simp[hi]) ⟨hit',st.2.extBut hs'.extBut hne⟩ hs'
 done:=fun s Q E st hE=>z1j hh st.1 st.2 (by simp) hE
theorem z1z(l:Addr)(items:Array Value)(n:Nat)(dct:Option Addr)(sl:Array (Option Value)):
 Meets (Builtin.«enumerate.__new__» ⟨[.type "enumerate", .ref l],[]⟩) (fun _ R s=>s.heap.get? l=some {cls:= .type "tuple",dict:=dct,data:= .seq items n,slots:=sl}/\
  R (.ok (.ret (.ref (s.heap.push {cls:= .type "tuple_iterator",data:= .fields #[.ref l, .int 0 0]}).objs.size)))
   {s with heap:=(s.heap.push {cls:= .type "tuple_iterator",data:= .fields #[.ref l, .int 0 0]}).push {cls:= .type "enumerate",data:= .fields #[.none, .bool false, .ref s.heap.objs.size,rawInt 0, .none, .none]}}):=
 .of_wp fun prog w A R s h=>by
  obtain⟨hp,g,d,tk,os⟩:=s;obtain⟨hl,h⟩:=h
  have hsub:=sub_enumerate
  have hL:Heap.IsTuple (Shared.heap ⟨hp,g,d,tk,os⟩) l items:=⟨_,hl,rfl,n,rfl⟩
  wp_walk using AutoSeq1.wpAny_loadPart' hl
  refine wpAny_stack_any fun st=>wpAny_pure ?_
  split
  ·rename_i c _ _ _ _ _
   cases(c==Value.type "enumerate")
   ·wp_walk using AutoSeq1.wpAny_loadPart' hl,wpAny_pyIter_tuple hL
    exact⟨_,rfl,h⟩
   ·wp_walk using AutoSeq1.wpAny_loadPart' hl,wpAny_pyIter_tuple hL
    exact⟨_,rfl,h⟩
  ·wp_walk using AutoSeq1.wpAny_loadPart' hl,wpAny_pyIter_tuple hL
   exact⟨_,rfl,h⟩
theorem z1A{prog:Program}{w:World}{A:Around}{E:Value->Shared->Prop}{s:Shared}{l:Addr}{items:Array Value}{Q:Value->Shared->Prop}(hL:s.heap.IsTuple l items)
 (h: ∀h',IsEnum h' (s.heap.objs.size+1) s.heap.objs.size 0 .none->h'.IsTupleIter s.heap.objs.size l 0->h'.objs.size=s.heap.objs.size+2->
  (∀b o,s.heap.get? b=some o->h'.get? b=some o)->Q (.ref (s.heap.objs.size+1)) {s with heap:=h'}):
 wpAny (model prog w) A (call (.type "enumerate") [.ref l]) Q E s:=by
 obtain⟨⟨c,dct,dt,sl⟩,hl,hc,n,hd⟩:=hL
 replace hc:c= .type "tuple" :=hc
 replace hd:dt= .seq items n:=hd
 subst hc hd
 refine callType_new F.called_enumerate (by decide) (F.typeCall_enumerate_1 _) (F.newCall_enumerate_1 _) (fun obj=>F.args_object_init_2 obj _) F.entry_enumerate_new
  (z1z l items n dct sl) ⟨hl, ?_⟩
 have hz:(s.heap.push {cls:= .type "tuple_iterator",data:= .fields #[.ref l, .int 0 0]}).objs.size=s.heap.objs.size+1:=Heap.size_push ..
 show _/\_
 rw[hz]
 have he:IsEnum ((s.heap.push {cls:= .type "tuple_iterator",data:= .fields #[.ref l, .int 0 0]}).push
  {cls:= .type "enumerate",data:= .fields #[.none, .bool false, .ref s.heap.objs.size,rawInt 0, .none, .none]}) (s.heap.objs.size+1) s.heap.objs.size 0 .none:=by
  have:=Heap.get?_push_size (s.heap.push {cls:= .type "tuple_iterator",data:= .fields #[.ref l, .int 0 0]})
   (o:={cls:= .type "enumerate",data:= .fields #[.none, .bool false, .ref s.heap.objs.size,rawInt 0, .none, .none]}) rfl
  rw[hz] at this;exact this
 refine⟨⟨_,he,rfl⟩,h _ he ⟨_,Heap.get?_push_of_some _ (Heap.get?_push_size _ rfl),rfl,rfl⟩ (by rw[Heap.size_push,hz]) fun b o x=>Heap.get?_push_of_some _ (Heap.get?_push_of_some _ x)⟩
noncomputable def Itet(K:W.Frag)(a:Addr):It:=
 ⟨fun i H=> ∃xs x,SqT K H a xs/\xs[i]? =some x,fun i H v H'=> ∃p x,H p=none/\v= .ref p/\H'=upd H p (.tup [.int i,x])/\(∀xs,SqT K H a xs->xs[i]? =some x)/\∀b o,K.lookup b=some o->H' b=none,fun i H=> ∃xs,SqT K H a xs/\xs.length<=i⟩
theorem z6d{P:Program}{w:World}{K:W.Frag}{elts:List Expr}{x1:Nat}{tpos:Pos}(a e it:Addr)(hne:e≠it):Turn P w K (.Tuple elts x1 tpos) (Itet K a) [e,it] e (fun i h=> ∃old,IsEnum h e it i old/\h.IsTupleIter it a i) where
 mem:=by simp
 obj:=fun i h st b hb=>by
  obtain⟨old,h1,h2⟩:=st
  have hb:b=e\/b=it:=by simpa using hb
  rcases hb with rfl|rfl
  ·exact⟨_,h1,fun v z=>by
    have z':Data.fields _=Data.cell v:=z
    cases z'⟩
  ·obtain⟨o,e,c,d⟩:=h2
   exact⟨o,e,fun v z=>by rw[d] at z;cases z⟩
 keep:=fun i h h' st k=>by
  obtain⟨old,h1,h2⟩:=st
  exact⟨old,k e (by simp) _ h1,h2.at fun o q=>k it (by simp) o q⟩
 item:=by
  intro X hP hw hK hc i pins s σ H E I hf st hg
  subst hP hw hK
  obtain⟨old,st1,st2⟩:=st
  obtain⟨xs,x,hq,hx⟩:=hg
  obtain⟨its,rv,p,hz⟩:=I.tuple hq
  obtain⟨u,hu,ru⟩:=rv.get hx
  have p:s.heap.IsTuple a its.toArray:=p
  have nai:a≠it:=fun z=>by
   obtain⟨o,q,c,_⟩:=id p
   obtain⟨o',q',c',_⟩:=id st2
   rw[z,q'] at q;cases q
   rw[c] at c';exact absurd c' (by decide)
  have nea:e∉[it,a]:=fun z=>by
   have z:e=it\/e=a:=by simpa using z
   rcases z with z|z
   ·exact hne z
   ·obtain⟨o,q,c,_⟩:=id p
    rw[<-z,st1] at q;cases q
    have c:Value.type "enumerate" =Value.type "tuple" :=c
    exact absurd c (by decide)
  have hlt:i<its.toArray.size:=by
   have:=(List.getElem?_eq_some_iff.mp hu).1
   simpa using this
  refine wpAny_pyNext_enum_itemD (z4V (A:=X.A.in1) (I.ok.hd hc) it a nai its.toArray) st1 ⟨st2,p⟩ hlt hne nea fun u' h1 tk hP heo hst ht hsz hk=> ?_
  have eu:u'=u:=by
   have hu':its[i]? =some u:=hu
   have hP':its.toArray[i]? =some u':=hP
   rw[List.getElem?_toArray,hu'] at hP'
   exact(Option.some.inj hP').symm
  subst eu
  refine⟨_,rfl,wpAny_letOwnedTupleGo_enum heo fun h2 he2 hs2=> ?_⟩
  have hs2:Heap.SameBut e h1 h2:=hs2
  have hel:e<s.heap.objs.size:=Heap.lt_size st1
  have ht2:h2.get? s.heap.objs.size=some {cls:= .type "tuple",data:= .seq #[.int i tk,u']}:=(hs2.2 _ (Nat.ne_of_gt hel)).trans ht
  have fr: ∀b∈[e,it],b≠s.heap.objs.size:=fun b hb=>by
   have hb:b=e\/b=it:=by simpa using hb
   rcases hb with rfl|rfl
   ·exact Nat.ne_of_lt hel
   ·obtain⟨o,q,_⟩:=st2
    exact Nat.ne_of_lt (Heap.lt_size q)
  have I1:Inv X pins σ (upd H s.heap.objs.size (.tup [.int i,x])) {s with heap:=s.heap.push {cls:= .type "tuple",data:= .seq #[.int i tk,u']},toks:=s.toks}:=I.laid (t':=s.toks) (o:= .tup [.int i,x]) (fun b ob q=>Heap.get?_push_of_some _ q) (Nat.le_refl _) ⟨by show 2<=sizeLine;decide,[.int i tk,u'], .cons ⟨_,rfl⟩ (.cons ru .nil),IsTup.new _ _⟩
  have f1: ∀b∈[e,it],FpOk X pins (upd H s.heap.objs.size (.tup [.int i,x])) b:=fun b hb=>⟨by rw[z02 (fr b hb)];exact(hf b hb).1,(hf b hb).2⟩
  have I2:=I1.turnedL (h':=h2) (t':=tk+1) (fun b o hb q=>by
   have hb:b≠e/\b≠it:=by simpa using hb
   rcases Heap.get?_push_cases (show(s.heap.push {cls:= .type "tuple",data:= .seq #[.int i tk,u']}).get? b=some o from q) with⟨rfl,rfl⟩|q'
   ·exact ht2
   ·exact(hs2.2 b hb.1).trans (hk b o hb.1 hb.2 q')) f1
  refine⟨.ref s.heap.objs.size,_,I2,rfl,⟨_,x,I.hok.fresh (Nat.le_refl _),rfl,rfl,fun ys hy=>by rw[I.tuple_inj hy hq];exact hx,fun b o q=>(I2.bs b o (I2.ok.mod.kin b o q)).2⟩,⟨u', ?_, ?_⟩,fun b hb=>(f1 b hb).1⟩
  ·have:((i+1:Nat):Int)=(i:Int)+1:=by push_cast;rfl
   rw[this];exact he2
  ·obtain⟨o,q,r⟩:=hst.1
   exact⟨o,(hs2.2 it (Ne.symm hne)).trans q,r⟩
 done:=by
  intro X hP hw hK hc i pins s σ H E I hf st hg
  subst hP hw hK
  obtain⟨old,st1,st2⟩:=st
  obtain⟨xs,hq,hx⟩:=hg
  obtain⟨its,rv,p,hz⟩:=I.tuple hq
  have p:s.heap.IsTuple a its.toArray:=p
  have hl:=rv.length
  have hT:s.TypeIs (.ref e) "enumerate" :=⟨_,st1,rfl⟩
  unfold pyNext
  refine wpAny_bind (wpAny_attempt (wpAny_callSpecial?_slot (name:=Str.ofString "__next__") hT F.slot_enumerate_next
   (wpAny_call_entry F.slot_enumerate_next hT F.entry_enumerate_next ?_ (F.args_enumerate_next_1 _))))
  show wpAny _ _ (field (.ref e) 2>>=_) _ _ _
  refine wpAny_bind (wpAny_field st1 rfl (x:= .ref it) rfl ?_)
  refine wpAny_bind (z1j (A:=X.A.in1) (I.ok.hd hc) st2 p (by simp;lia) fun h' x he' hx'=> ?_)
  obtain⟨o,ho,hcc⟩:=hx'
  refine wpAny_bind (wpAny_isInstance (T:= "StopIteration") (b:=true) ⟨o,ho,hcc⟩ isSubtype_stop ?_)
  exact wpAny_pure ⟨rfl,I.turnedL (t':=s.toks) (fun b o hb q=>he' b o (fun z=>hb (by simp[z])) q) hf⟩
 self:=fun A i s Q E st h=>by
  obtain⟨old,st1,_⟩:=st
  exact wpAny_pyIter_enum st1 h
section
variable{X:Cx}
noncomputable def ze6(K:W.Frag)(ta:TA):TI:=fun σ H R=>ta σ H fun vs H1=> ∃a,vs=[.ref a]/\(((∃xs,SqL K H1 a xs)/\R (Ite K a) H1)\/((∃xs,SqT K H1 a xs)/\R (Itet K a) H1))
theorem z8r{a:Expr}{ta:TA}{p pos tpos:Pos}{elts:List Expr}{x1:Nat}(hg:Gl X "enumerate")(hm:X.mg "enumerate" =none)(ha:PA X [a] ta)(hs:starEach [a] X.env=[(false,eval a X.env)]:=by rfl):PI X (.Tuple elts x1 tpos) (.Call (.Name "enumerate" p) [a] [] pos) (ze6 X.K ta):=by
 intro pins s σ H R I h
 refine Call_ (z3e I hg hm PyProof.Rows.Boot.«enumerate» (PyProof.Rows.callWith_type1 (thn (ha pos pins s σ H _ I h) fun us s1 ⟨vs,H1,I1,r1,q1⟩=> ?_) hs rfl))
 obtain⟨l,e,q⟩:=q1
 subst e
 cases r1 with
 |cons r rr=>
  cases rr
  cases r
  rcases q with⟨⟨xs,hq⟩,q⟩|⟨⟨xs,hq⟩,q⟩
  ·obtain⟨its,rv,p,hz⟩:=I1.list hq
   refine call_enumerate_list p.isList fun h' he hit hsz hk=> ?_
   refine wpAny_pyIter_enum he ?_
   have I2:Inv X pins σ H1 {s1 with heap:=h'}:=I1.kept (t':=s1.toks) hk
   refine⟨s1.heap.objs.size+1,[s1.heap.objs.size+1,s1.heap.objs.size],_,_,H1,rfl,I2,z7d l _ _ (by show ¬(s1.heap.objs.size+1=s1.heap.objs.size);lia),⟨_,he,hit⟩,fun b hb=> ?_,q⟩
   have hb:b=s1.heap.objs.size+1\/b=s1.heap.objs.size:=by simpa using hb
   rcases hb with rfl|rfl
   ·exact I1.fpOk (Nat.le_succ _) (I1.hok.fresh (Nat.le_succ _))
   ·exact I1.fpOk (Nat.le_refl _) (I1.hok.fresh (Nat.le_refl _))
  ·obtain⟨its,rv,p,hz⟩:=I1.tuple hq
   have p:s1.heap.IsTuple l its.toArray:=p
   refine z1A p fun h' he hit hsz hk=> ?_
   refine wpAny_pyIter_enum he ?_
   have I2:Inv X pins σ H1 {s1 with heap:=h'}:=I1.kept (t':=s1.toks) hk
   refine⟨s1.heap.objs.size+1,[s1.heap.objs.size+1,s1.heap.objs.size],_,_,H1,rfl,I2,z6d l _ _ (by show ¬(s1.heap.objs.size+1=s1.heap.objs.size);lia),⟨_,he,hit⟩,fun b hb=> ?_,q⟩
   have hb:b=s1.heap.objs.size+1\/b=s1.heap.objs.size:=by simpa using hb
   rcases hb with rfl|rfl
   ·exact I1.fpOk (Nat.le_succ _) (I1.hok.fresh (Nat.le_succ _))
   ·exact I1.fpOk (Nat.le_refl _) (I1.hok.fresh (Nat.le_refl _))
end
section
variable{X:Cx}{tg:Expr}
noncomputable def Rg3(i j c:Int):Prop:=c≠0/\c.natAbs<1073741824/\Builtin.Range.small i j c=true/\0<=Builtin.Range.rangeSize i j c
instance(i j c:Int):Decidable (Rg3 i j c):=by unfold Rg3;infer_instance
end
end L2
namespace Mi
open PySem L2
structure ItK where
 k:Nat
 at':Nat->List (Option D)->Option (Option D)
 len:List (Option D)->Nat
noncomputable def zch(i:Nat):List (Option D)->Option (Option D)
 |some c::_=>(lstD c).map fun ds=>ds[i]?
 |_=>none
noncomputable def zci(i:Nat):List (Option D)->Option (Option D)
 |some (.tup ds)::_=>some ds[i]?
 |_=>none
noncomputable def z4n:List (Option D)->Nat
 |some (.tup ds)::_=>ds.length
 |some (.lst _ ds)::_=>ds.length
 |some (.ro ds)::_=>ds.length
 |_=>0
noncomputable def kLst:ItK:=⟨1,zch,z4n⟩
noncomputable def kTup:ItK:=⟨1,zci,z4n⟩
noncomputable def kRng(lo:Int)(n:Nat):ItK:=⟨0,fun i _=>some (if i<n then some (.int (lo+i)) else none),fun _=>n⟩
noncomputable def Stt.popn(s:Stt)(k:Nat):Stt:={s with tm:=s.tm.drop k}
section
variable{X:Cx}{G:Gx}{F:Fy}{e a b c tg iter:Expr}{pos:Pos}
theorem MR.popn{F:Fx}{ρ:Nat->Addr}{H:Hp}{σv tvs tv:List (Option V)}{s:Stt}(M:MR G F ρ H σv (tvs++tv) s):MR G F ρ H σv tv (s.popn tvs.length):=by
 have sub: ∀l∈z0E (s.popn tvs.length),l∈z0E s:=fun l h=>by
  rcases List.mem_append.mp h with h|h
  ·exact List.mem_append_left _ h
  ·refine List.mem_append_right _ ?_
   have e:=z0g (s.tm.take tvs.length) (s.tm.drop tvs.length)
   rw[List.take_append_drop] at e
   rw[e]
   exact List.mem_append_right _ h
 exact⟨M.sl,(Sl.split tvs M.tm).2,M.inj,M.dom,fun l h=>M.lab l (sub l h),fun l h=>M.own l (sub l h),M.frm,M.kd,M.frb,M.bas⟩
noncomputable def ItOK(G:Gx)(J:It)(K:ItK)(tvs:List (Option V)):Prop:= ∀(F:Fx) ρ H σv tvp tv s i,MR G F ρ H σv (tvp++(tvs++tv)) s->match K.at' i (s.tm.drop tvp.length) with
 |none=>True
 |some none=>J.stop i H
 |some (some d)=>J.go i H/\∀x H',J.yld i H x H'->MRL G F ρ H' σv (tvp++(tvs++tv)) s [d] [x]
noncomputable def tI(G:Gx)(F:Fy)(m:M ItK):TI:=fun σv H R=> ∃tv,F.tv0<:+tv/\∃ρ s,MR G F.toFx ρ H σv tv s/\match m s with
 | .ok K s'=> ∀ρ' H' tvs J,tvs.length=K.k->MR G F.toFx ρ' H' σv (tvs++tv) s'->ItOK G J K tvs->R J H'
 | .ex d s'=>F.xw d s'
 | .no=>False
noncomputable def SI(X:Cx)(G:Gx)(F:Fy)(tg iter:Expr)(m:M ItK):Prop:=PI X tg iter (tI G F m)
theorem PI.imp0{w w':TI}(h:PI X tg iter w)(hi: ∀σ H R,w' σ H R->w σ H R):PI X tg iter w':=fun pins s σ H R I q=>h pins s σ H R I (hi σ H R q)
noncomputable def iSeq(K:W.Frag)(tl:TE):TI:=fun σ H R=>tl σ H fun x H1=> ∃a,x= .ref a/\(((∃xs,SqL K H1 a xs)/\R (Itl K a) H1)\/((∃xs,SqT K H1 a xs)/\R (Itt K a) H1))
theorem zcj{l:Expr}{tl:TE}(hl:PE X l tl):PI X tg l (iSeq X.K tl):=by
 intro pins s σ H R I h
 refine thn (hl pins s σ H _ I h) fun v s1 ⟨x,H1,I1,r1,q1⟩=> ?_
 obtain⟨a,e,q|q⟩:=q1
 ·subst e
  cases r1
  obtain⟨⟨xs,hq⟩,q⟩:=q
  obtain⟨its,rv,p,hz⟩:=I1.list hq
  refine wpAny_pyIter_list p.isList ?_
  refine⟨s1.heap.objs.size,[s1.heap.objs.size],_,_,H1,rfl,I1.kept (t':=s1.toks) fun b o e=>Heap.get?_push_of_some _ e,z6D a _,⟨_,Heap.get?_push_size _ rfl,rfl,rfl⟩,fun b hb=> ?_,q⟩
  have e:b=s1.heap.objs.size:=by simpa using hb
  subst e
  exact I1.fpOk (Nat.le_refl _) (I1.hok.fresh (Nat.le_refl _))
 ·subst e
  cases r1
  obtain⟨⟨xs,hq⟩,q⟩:=q
  obtain⟨its,rv,p,hz⟩:=I1.tuple hq
  refine wpAny_pyIter_tuple (show s1.heap.IsTuple a its.toArray from p) ?_
  refine⟨s1.heap.objs.size,[s1.heap.objs.size],_,_,H1,rfl,I1.kept (t':=s1.toks) fun b o e=>Heap.get?_push_of_some _ e,z5V a _,⟨_,Heap.get?_push_size _ rfl,rfl,rfl⟩,fun b hb=> ?_,q⟩
  have e:b=s1.heap.objs.size:=by simpa using hb
  subst e
  exact I1.fpOk (Nat.le_refl _) (I1.hok.fresh (Nat.le_refl _))
noncomputable def z0K(m:M D):M ItK:=bd m fun d s=>match d with
 | .tup _=> .ok kTup (s.psh d)
 | .lst _ _=> .ok kLst (s.psh d)
 | .ro _=> .ok kLst (s.psh d)
 |_=> .no
theorem SqT.two{K:W.Frag}{H:Hp}{a:Addr}{xs ys:List V}(k:KD K H)(h:SqT K H a xs)(h':SqT K H a ys):xs=ys:=by
 rcases h with(h|⟨o,h⟩)|⟨o,its,n,h,_,hd,_,r⟩<;>rcases h' with(h'|⟨o',h'⟩)|⟨o',its',n',h',_,hd',_,r'⟩
 ·rw[h] at h';cases h';rfl
 ·rw[h] at h';cases h'
 ·rw[k _ _ h'] at h;cases h
 ·rw[h] at h';cases h'
 ·rw[h] at h';cases h';rfl
 ·rw[k _ _ h'] at h;cases h
 ·rw[k _ _ h] at h';cases h'
 ·rw[k _ _ h] at h';cases h'
 ·rw[h] at h';cases h';rw[hd] at hd';cases hd';exact r.inj r'
theorem SqL.two{K:W.Frag}{H:Hp}{a:Addr}{xs ys:List V}(k:KD K H)(h:SqL K H a xs)(h':SqL K H a ys):xs=ys:=by
 rcases h with(h|⟨o,h⟩)|⟨o,its,n,h,_,_,hd,_,r⟩<;>rcases h' with(h'|⟨o',h'⟩)|⟨o',its',n',h',_,_,hd',_,r'⟩
 ·rw[h] at h';cases h';rfl
 ·rw[h] at h';cases h'
 ·rw[k _ _ h'] at h;cases h
 ·rw[h] at h';cases h'
 ·rw[h] at h';cases h';rfl
 ·rw[k _ _ h'] at h;cases h
 ·rw[k _ _ h] at h';cases h'
 ·rw[k _ _ h] at h';cases h'
 ·rw[h] at h';cases h';rw[hd] at hd';cases hd';exact r.inj r'
theorem MR.head{F:Fx}{ρ:Nat->Addr}{H:Hp}{σv tv:List (Option V)}{s:Stt}{v:V}{c:D}{r:List (Option D)}(M:MR G F ρ H σv (some v::tv) s)(e:s.tm=some c::r):RD G ρ H c v/\LB F ρ s.n (labs c):=by
 obtain⟨σ,tm,n⟩:=s
 have e:tm=some c::r:=e
 subst e
 exact⟨MR.top (s:=⟨σ,r,n⟩) M,MR.topl (s:=⟨σ,r,n⟩) M⟩
theorem z5C{a:Addr}:ItOK G (Itl G.K a) kLst [some (.ref a)]:=by
 intro F ρ H σv tvp tv s i M
 dsimp only[kLst]
 cases e:s.tm.drop tvp.length with
 |nil=>trivial
 |cons o r=>
  cases o with
  |none=>trivial
  |some c=>
   simp only[zch]
   obtain⟨h,lb⟩:=MR.head (s:=s.popn tvp.length) M.popn e
   cases e1:lstD c with
   |none=>trivial
   |some ds=>
    simp only[Option.map_some]
    obtain⟨a',xs,ea,sq,rr,sub⟩:=h.lstq e1
    cases ea
    cases e2:ds[i]? with
    |none=>
     refine⟨xs,sq, ?_⟩
     rw[<-rr.length]
     exact List.getElem?_eq_none_iff.mp e2
    |some d=>
     obtain⟨x,ex,rx⟩:=rr.get i d e2
     refine⟨⟨xs,x,sq,ex⟩, ?_⟩
     rintro x' H' ⟨rfl,hx⟩
     rw[hx xs sq] at ex
     cases ex
     exact⟨M,RDs.one rx,fun l hl=>lb l (sub l (labsL_mem (List.mem_of_getElem? e2) l (by simpa only[labsL,List.append_nil] using hl)))⟩
theorem z8s{a:Addr}:ItOK G (Itt G.K a) kTup [some (.ref a)]:=by
 intro F ρ H σv tvp tv s i M
 dsimp only[kTup]
 cases e:s.tm.drop tvp.length with
 |nil=>trivial
 |cons o r=>
  cases o with
  |none=>trivial
  |some c=>
   obtain⟨h,lb⟩:=MR.head (s:=s.popn tvp.length) M.popn e
   cases c with
   |tup ds=>
    simp only[zci]
    obtain⟨a',xs,ea,sq,rr⟩:=h.tupq
    cases ea
    cases e2:ds[i]? with
    |none=>
     refine⟨xs,sq, ?_⟩
     rw[<-rr.length]
     exact List.getElem?_eq_none_iff.mp e2
    |some d=>
     obtain⟨x,ex,rx⟩:=rr.get i d e2
     refine⟨⟨xs,x,sq,ex⟩, ?_⟩
     rintro x' H' ⟨rfl,hx⟩
     rw[hx xs sq] at ex
     cases ex
     exact⟨M,RDs.one rx,fun l hl=>lb l (by simp only[labs];exact labsL_mem (List.mem_of_getElem? e2) l (by simpa only[labsL,List.append_nil] using hl))⟩
   |_=>trivial
theorem si_seq{m:M D}(hk:X.K=G.K)(h:SE X G F e m):SI X G F tg e (z0K m):=by
 refine PI.imp0 (zcj h) fun σ H R ⟨tv,hs,ρ,s,M,W⟩=>⟨tv,hs,ρ,s,M, ?_⟩
 unfold z0K bd at W
 cases e:m s with
 |ex d s1=>rw[e] at W;exact W
 |no=>rw[e] at W;exact W
 |ok t s1=>
  rw[e] at W
  intro ρ1 v H1 M1
  rw[hk]
  cases t with
  |tup ds=>
   obtain⟨a,xs,rfl,sq,r⟩:=M1.rd1.tupq
   exact⟨a,rfl, .inr ⟨⟨xs,sq⟩,W ρ1 H1 [some (.ref a)] _ rfl M1.push z8s⟩⟩
  |lst n ds=>
   obtain⟨a,xs,rfl,sq,r,_⟩:=M1.rd1.lstq (ds:=ds) rfl
   exact⟨a,rfl, .inl ⟨⟨xs,sq⟩,W ρ1 H1 [some (.ref a)] _ rfl M1.push z5C⟩⟩
  |ro ds=>
   obtain⟨a,xs,rfl,sq,r,_⟩:=M1.rd1.lstq (ds:=ds) rfl
   exact⟨a,rfl, .inl ⟨⟨xs,sq⟩,W ρ1 H1 [some (.ref a)] _ rfl M1.push z5C⟩⟩
  |_=>exact False.elim W
noncomputable def rng1(ts:List D):M ItK:=match ts with
 |[.int j]=>if -(2^62)<=j/\j<2^62 then rt (kRng 0 j.toNat) else fl
 |_=>fl
noncomputable def z1F(ms:List (M D)):M ItK:=bd (z09 ms) rng1
theorem z8t{lo:Int}{n:Nat}:ItOK G (Itr lo n) (kRng lo n) []:=by
 intro F ρ H σv tvp tv s i M
 simp only[kRng]
 by_cases h:i<n
 ·rw[if_pos h]
  refine⟨h, ?_⟩
  rintro x H' ⟨rfl,rfl⟩
  exact⟨M,RDs.one (by simp only[RD]),fun l hl=>by simp[labsL,labs] at hl⟩
 ·rw[if_neg h]
  exact Nat.not_lt.mp h
theorem si_rng1{p:Pos}{ms:List (M D)}(hg:Gl X "range")(hm:X.mg "range" =none)(ha:SA X G F [a] (z09 ms))(hs:starEach [a] X.env=[(false,eval a X.env)]:=by rfl):SI X G F tg (.Call (.Name "range" p) [a] [] pos) (z1F ms):=by
 refine PI.imp0 (z6E hg hm ha hs) fun σ H R ⟨tv,hs,ρ,s,M,W⟩=>⟨tv,hs,ρ,s,M, ?_⟩
 unfold z1F bd at W
 cases e:z09 ms s with
 |ex d s1=>rw[e] at W;exact W
 |no=>rw[e] at W;exact W
 |ok ts s1=>
  rw[e] at W
  intro ρ1 vs H1 M1
  unfold rng1 at W
  dsimp only at W
  split at W
  ·rename_i ts' j K s' hh
   split at hh
   ·split at hh
    ·rename_i j' hc
     cases hh
     obtain⟨v,rfl,h,_⟩:=M1.one
     simp only[RD] at h
     subst h
     exact⟨j',rfl,hc.1,hc.2,W ρ1 H1 [] _ rfl M1.m z8t⟩
    ·cases hh
   ·cases hh
  ·rename_i hh
   split at hh
   ·split at hh<;>cases hh
   ·cases hh
  ·exact False.elim W
noncomputable def forGo(K:ItK)(g:Tg)(b:MS):Nat->Nat->MS
 |f,i=>fun s=>match K.at' i s.tm with
  |none=> .no
  |some none=> .nx (s.popn K.k)
  |some (some d)=>match f with
   |0=> .no
   |f+1=>match asg g d s.σ with
    |none=> .no
    |some σ'=>match b {s with σ:=σ'} with
     | .nx s'=>forGo K g b f (i+1) s'
     | .ct s'=>forGo K g b f (i+1) s'
     | .bk s'=> .nx (s'.popn K.k)
     | .rt t s'=> .rt t (s'.popn K.k)
     | .ex d s'=> .ex d s'
     | .no=> .no
noncomputable def sFor(mi:M ItK)(g:Tg)(b:MS):MS:=lift mi fun K s=>forGo K g b (K.len s.tm) 0 s
theorem MRL.popn{ρ:Nat->Addr}{H:Hp}{σv tvs tv:List (Option V)}{s:Stt}{ts:List D}{vs:List V}(M:MRL G F.toFx ρ H σv (tvs++tv) s ts vs):MRL G F.toFx ρ H σv tv (s.popn tvs.length) ts vs:=⟨M.m.popn,M.rd,M.lb⟩
theorem suf2{tvs tv:List (Option V)}(h:F.tv0<:+tv):F.tv0<:+tvs++tv:=h.trans (List.suffix_append _ _)
theorem z7e{m:M ItK}{f:ItK->MS}{tv:List (Option V)}{D:Ends}{σ:St}{H:Hp}{R:It->Hp->Prop}(h:tSv G F (lift m f) tv D σ H)
 (k: ∀K ρ' H' tvs J s',tvs.length=K.k->MR G F.toFx ρ' H' σ (tvs++tv) s'->ItOK G J K tvs->wS G F tv (f K s') D->R J H'):tI G F m σ H R:=by
 obtain⟨hs,ρ,s,M,W⟩:=h
 refine⟨tv,hs,ρ,s,M, ?_⟩
 unfold lift at W
 cases e:m s with
 |ok K s1=>rw[e] at W;exact fun ρ' H' tvs J hl M' hok=>k K ρ' H' tvs J s1 hl M' hok W
 |ex d s1=>rw[e] at W;exact W
 |no=>rw[e] at W;exact W
theorem ss_for{body:List Stmt}{mi:M ItK}{g:Tg}{mb:MS}(hp:PassesOwn (model X.prog X.w) X.A X.env X.xe)(hc:X.calm=true)(hi:SI X G F tg iter mi)(hg:SG X G F tg g)(hb:SSs X G F body mb)(hst: ∀x,foldedSetIterable iter X.env x=pure x:=by intro _;rfl):SS X G F (.For tg iter body [] pos) (sFor mi g mb):=by
 refine PS.imp0 (zbl hp hc hi hg hb hst) fun D σ H ⟨tv,h⟩=>z7e h fun K ρ' H' tvs J s' hl M' hok W=> ?_
 have hs:=h.1
 refine⟨fun i m σ H=> ∃ρ s,MR G F.toFx ρ H σ (tvs++tv) s/\wS G F tv (forGo K g mb m i s) D,⟨_,ρ',s',M',W⟩, ?_⟩
 rintro i m σ H ⟨ρ,s,M,W⟩
 have ok:=hok F.toFx ρ H σ [] tv s i M
 simp only[List.length_nil,List.drop_zero,List.nil_append] at ok
 unfold forGo at W
 cases e:K.at' i s.tm with
 |none=>simp only[e] at W;exact False.elim W
 |some o=>
  cases o with
  |none=>
   simp only[e] at W ok
   refine .inl ⟨ok,W ρ σ H ?_⟩
   rw[<-hl]
   exact M.popn
  |some d=>
   simp only[e] at W ok
   cases m with
   |zero=>exact False.elim W
   |succ f=>
    dsimp only at W
    cases e2:asg g d s.σ with
    |none=>simp only[e2] at W;exact False.elim W
    |some σ'=>
     simp only[e2] at W
     refine .inr ⟨ok.1,fun σ H=> ∃ρ s,MR G F.toFx ρ H σ (tvs++tv) s/\wS G F tv (forGo K g mb f (i+1) s) D,fun σ' H' q=>⟨f,Nat.lt_succ_self _,q⟩,fun x H2 y=> ?_⟩
     refine⟨tvs++tv,ρ,s,d,ok.2 x H2 y,σ',e2,fun σv' M2=>⟨tvs++tv,suf2 hs,ρ,_,M2, ?_⟩⟩
     cases e3:mb {s with σ:=σ'} with
     |nx s2=>simp only[e3] at W;exact fun ρ3 σ3 H3 M3=>⟨ρ3,s2,M3,W⟩
     |ct s2=>simp only[e3] at W;exact fun ρ3 σ3 H3 M3=>⟨ρ3,s2,M3,W⟩
     |bk s2=>simp only[e3] at W;exact fun ρ3 σ3 H3 M3=>W ρ3 σ3 H3 (by rw[<-hl];exact M3.popn)
     |rt t s2=>simp only[e3] at W;exact fun ρ3 σ3 v H3 M3=>W ρ3 σ3 v H3 (by rw[<-hl];exact M3.popn)
     |ex d s2=>simp only[e3] at W;exact W
     |no=>simp only[e3] at W;exact W
end
noncomputable def z0a:List (Option D)->Option (List D)
 |[]=>some []
 |some d::r=>(z0a r).map (d:: ·)
 |none::_=>none
noncomputable def z0s(K:ItK)(g:Tg)(mt:M Bool)(me:M D)(ol:Nat):Nat->Nat->Nat->M D
 |f,i,k=>fun s=>match K.at' i (s.tm.drop (k+ol)) with
  |none=> .no
  |some none=>match z0a (s.tm.take k).reverse with
   |some ds=> .ok (.lst s.n ds) {σ:=(s.tm.drop k).take ol,tm:=s.tm.drop (k+ol+K.k),n:=s.n+1}
   |none=> .no
  |some (some d)=>match f with
   |0=> .no
   |f+1=>match asg g d s.σ with
    |none=> .no
    |some σ'=>match mt {s with σ:=σ'} with
     | .ok false s1=>z0s K g mt me ol f (i+1) k s1
     | .ok true s1=>if k<sizeLine then match me s1 with
      | .ok y s2=>z0s K g mt me ol f (i+1) (k+1) (s2.psh y)
      |_=> .no
      else .no
     |_=> .no
noncomputable def z7f(own:Nat)(ix:List Nat)(s:Stt):Stt:={σ:=List.replicate own none++ix.map (fun i=>(s.σ[i]?).getD none),tm:=s.σ++s.tm,n:=s.n}
noncomputable def z0x(mi:M ItK)(g:Tg)(mt:M Bool)(me:M D)(own:Nat)(ix:List Nat):M D:=bd mi fun K s=>z0s K g mt me s.σ.length (K.len s.tm) 0 0 (z7f own ix s)
section
variable{X:Cx}{G:Gx}{F:Fy}{e a b c tg iter elt:Expr}{pos:Pos}
noncomputable def Fy.prot(F:Fy)(D:Addr)(ys:List V)(h:F.H0 D=none):Fy where
 A0:=F.A0
 H0:=upd F.H0 D (.lst ys)
 Z:=fun a=>a=D\/F.Z a
 zA:=fun a z=>by
  rcases z with rfl|z
  ·exact⟨⟨_,z04⟩,fun q=>by obtain⟨o,e⟩:=F.aH _ q;rw[h] at e;cases e⟩
  ·obtain⟨⟨o,e⟩,n⟩:=F.zA a z
   exact⟨⟨o,by rw[z02 (z0w e h)];exact e⟩,n⟩
 aH:=fun a q=>by
  obtain⟨o,e⟩:=F.aH a q
  exact⟨o,by rw[z02 (z0w e h)];exact e⟩
 n0:=F.n0
 ρ0:=F.ρ0
 tv0:=[]
 xw:=fun _ _=>False
theorem Sl.none_map{ρ:Nat->Addr}{H:Hp}: ∀k:Nat,Sl G ρ H (List.replicate k none) (List.replicate k none)
 |0=>by simp[Sl]
 |k+1=>by simp only[List.replicate_succ,Sl];exact⟨_,_,rfl,Sl.none_map k⟩
theorem Sl.pick{ρ:Nat->Addr}{H:Hp}{σ:List (Option D)}{σv:List (Option V)}(h:Sl G ρ H σ σv): ∀ix:List Nat,Sl G ρ H (ix.map fun i=>(σ[i]?).getD none) (ix.map fun i=>(σv[i]?).getD none)
 |[]=>by simp[Sl]
 |i::ix=>by
  simp only[List.map_cons]
  cases e:σ[i]? with
  |none=>simp only[Option.getD_none,Sl];exact⟨_,_,rfl,Sl.pick h ix⟩
  |some o=>
   cases o with
   |none=>simp only[Option.getD_some,Sl];exact⟨_,_,rfl,Sl.pick h ix⟩
   |some d=>
    obtain⟨v,e1,r⟩:=h.get i d e
    simp only[Option.getD_some,Sl,e1]
    exact⟨_,_,rfl,r,Sl.pick h ix⟩
theorem z1R{σ:List (Option D)}{l:Nat}: ∀{ix:List Nat},l∈z06 (ix.map fun i=>(σ[i]?).getD none)->l∈z06 σ
 |[],h=>by simp[z06] at h
 |i::ix,h=>by
  simp only[List.map_cons] at h
  cases e:σ[i]? with
  |none=>rw[e] at h;simp only[Option.getD_none,z06] at h;exact z1R h
  |some o=>
   rw[e] at h
   cases o with
   |none=>simp only[Option.getD_some,z06] at h;exact z1R h
   |some d=>
    simp only[Option.getD_some,z06] at h
    rcases List.mem_append.mp h with h|h
    ·exact z1Q e l h
    ·exact z1R h
theorem z2E{l:Nat}: ∀k:Nat,¬l∈z06 (List.replicate k (none:Option D))
 |0,h=>by simp[z06] at h
 |k+1,h=>by simp only[List.replicate_succ,z06] at h;exact z2E k h
theorem MR.enter{ρ:Nat->Addr}{H:Hp}{σv tv:List (Option V)}{s:Stt}{D:Addr}(M:MR G F.toFx ρ H σv tv s)(hD:H D=none)(k:KD G.K (upd H D (.lst [])))(own:Nat)(ix:List Nat):
 MR G (F.prot D [] (M.fresh0 hD)).toFx ρ (upd H D (.lst [])) (z1P own ix σv) (σv++tv) (z7f own ix s):=by
 have sm:=Same.new (.lst []) hD
 have M1:=M.same sm k
 have nD: ∀l,l<s.n->ρ l≠D:=fun l hl e=>by
  obtain⟨o,q⟩:=M.dom l hl
  rw[e,hD] at q;cases q
 have sub: ∀l∈z0E (z7f own ix s),l∈z0E s:=fun l h=>by
  rcases List.mem_append.mp h with h|h
  ·have h:l∈z06 (List.replicate own none++ix.map (fun i=>(s.σ[i]?).getD none)):=h
   rw[z0g] at h
   rcases List.mem_append.mp h with h|h
   ·exact absurd h (z2E own)
   ·exact List.mem_append_left _ (z1R h)
  ·have h:l∈z06 (s.σ++s.tm):=h
   rw[z0g] at h
   exact h
 refine⟨?_,M1.sl.append M1.tm,M1.inj,M1.dom,fun l h=>M.lab l (sub l h),fun l h=> ?_,fun a o e=> ?_,k,fun l hl z=> ?_,M.bas⟩
 ·exact(Sl.none_map own).append (M1.sl.pick ix)
 ·rcases M.own l (sub l h) with q|q
  ·exact .inl q
  ·refine .inr ?_
   show upd F.H0 D (.lst []) (ρ l)=none
   rw[z02 (nD l (M.lab l (sub l h)))];exact q
 ·have e:upd F.H0 D (.lst []) a=some o:=e
  by_cases ha:a=D
  ·subst ha
   rw[z04] at e;cases e
   exact⟨⟨_,z04⟩,fun _=>z04⟩
  ·rw[z02 ha] at e
   exact M1.frm a o e
 ·rcases z with z|z
  ·exact nD l hl z
  ·exact M.frb l hl z
theorem MR.turnD{ρ:Nat->Addr}{H:Hp}{σv tv:List (Option V)}{s:Stt}{D:Addr}{ys ys':List V}{hf:F.H0 D=none}(M:MR G (F.prot D ys hf).toFx ρ H σv tv s):
 H D=some (.lst ys)/\MR G (F.prot D ys' hf).toFx ρ (upd H D (.lst ys')) σv tv s:=by
 have hD:H D=some (.lst ys):=(M.frm D (.lst ys) z04).2 ((F.prot D ys hf).zA D (.inl rfl)).2
 have nD: ∀l,l<s.n->ρ l≠D:=fun l hl e=>M.frb l hl (.inl e)
 have st:z0L H (upd H D (.lst ys')):=⟨fun b xs e=>by rw[z02 (z2f e hD (by intro z;cases z))];exact e,fun b o u e=>by rw[z02 (z2f e hD (by intro z;cases z))];exact e⟩
 refine⟨hD,⟨Sl.stay st M.sl fun l hl=>⟨rfl,fun o e=> ?_⟩,Sl.stay st M.tm fun l hl=>⟨rfl,fun o e=> ?_⟩,M.inj,fun l hl=> ?_,M.lab,fun l h=> ?_,fun a o e=> ?_,fun a o e=> ?_,fun l hl=>M.frb l hl,M.bas⟩⟩
 ·rw[z02 (nD l (M.lab l (List.mem_append_left _ hl)))];exact e
 ·rw[z02 (nD l (M.lab l (List.mem_append_right _ hl)))];exact e
 ·rw[z02 (nD l hl)];exact M.dom l hl
 ·rcases M.own l h with q|q
  ·exact .inl q
  ·refine .inr ?_
   have q:upd F.H0 D (.lst ys) (ρ l)=none:=q
   show upd F.H0 D (.lst ys') (ρ l)=none
   rw[z02 (nD l (M.lab l h))] at q⊢;exact q
 ·have e:upd F.H0 D (.lst ys') a=some o:=e
  by_cases ha:a=D
  ·subst ha
   rw[z04] at e;cases e
   exact⟨⟨_,z04⟩,fun _=>z04⟩
  ·rw[z02 ha] at e⊢
   exact M.frm a o (by show upd F.H0 D (.lst ys) a=some o;rw[z02 ha];exact e)
 ·by_cases ha:a=D
  ·subst ha
   rw[M.kd a o e] at hD;cases hD
  ·rw[z02 ha];exact M.kd a o e
theorem Sl.all{ρ:Nat->Addr}{H:Hp}: ∀{tm:List (Option D)} {ys:List V} {ds:List D},Sl G ρ H tm (ys.map some)->z0a tm=some ds->RDs G ρ H ds ys/\labsL ds=z06 tm
 |[],ys,ds,h,e=>by
  simp only[Sl] at h
  simp only[z0a,Option.some.injEq] at e
  subst e
  have:ys=[]:=by simpa using h
  subst this
  simp[RDs,labsL,z06]
 |none::r,ys,ds,h,e=>by simp only[z0a] at e;cases e
 |some d::r,ys,ds,h,e=>by
  simp only[Sl] at h
  obtain⟨v,q,e1,h1,h2⟩:=h
  cases ys with
  |nil=>cases e1
  |cons y ys=>
   simp only[List.map_cons,List.cons.injEq,Option.some.injEq] at e1
   obtain⟨rfl,rfl⟩:=e1
   simp only[z0a] at e
   cases e2:z0a r with
   |none=>rw[e2] at e;cases e
   |some es=>
    rw[e2] at e
    cases e
    obtain⟨r1,r2⟩:=Sl.all h2 e2
    refine⟨?_,by simp only[labsL,z06,r2]⟩
    simp only[RDs]
    exact⟨_,_,rfl,h1,r1⟩
theorem Sl.reverse{ρ:Nat->Addr}{H:Hp}: ∀{tm:List (Option D)} {ys:List (Option V)},Sl G ρ H tm ys->Sl G ρ H tm.reverse ys.reverse
 |[],ys,h=>by simp only[Sl] at h;subst h;simp[Sl]
 |none::r,ys,h=>by
  simp only[Sl] at h
  obtain⟨o,q,rfl,h⟩:=h
  rw[List.reverse_cons,List.reverse_cons]
  exact(Sl.reverse h).append (by simp only[Sl];exact⟨_,_,rfl,rfl⟩)
 |some d::r,ys,h=>by
  simp only[Sl] at h
  obtain⟨o,q,rfl,h1,h⟩:=h
  rw[List.reverse_cons,List.reverse_cons]
  exact(Sl.reverse h).append (by simp only[Sl];exact⟨_,_,rfl,h1,rfl⟩)
theorem z2F{l:Nat}: ∀{tm:List (Option D)},l∈z06 tm.reverse↔l∈z06 tm
 |[]=>by simp
 |none::r=>by
  rw[List.reverse_cons,z0g]
  simp only[z06,List.append_nil]
  exact z2F
 |some d::r=>by
  rw[List.reverse_cons,z0g]
  simp only[z06,List.append_nil,List.mem_append]
  rw[z2F]
  exact Or.comm
theorem MR.leave{ρ:Nat->Addr}{H:Hp}{σi σv tvs tv:List (Option V)}{s:Stt}{A1:Addr}{ys:List V}{hf:F.H0 A1=none}{ds:List D}{kk:Nat}
 (M:MR G (F.prot A1 ys hf).toFx ρ H σi ((ys.reverse.map some)++(σv++(tvs++tv))) s) (hk:tvs.length=kk) (ol:Nat) (ho:σv.length=ol) (e:z0a (s.tm.take ys.length).reverse=some ds):
 MRL G F.toFx (ext ρ s.n A1) H σv tv {σ:=(s.tm.drop ys.length).take ol,tm:=s.tm.drop (ys.length+ol+kk),n:=s.n+1} [.lst s.n ds] [.ref A1]:=by
 subst hk ho
 have hD:=(MR.turnD (ys':=ys) M).1
 have nD: ∀l,l<s.n->ρ l≠A1:=fun l hl e=>M.frb l hl (.inl e)
 have t0:=Sl.split (ys.reverse.map some) M.tm
 simp only[List.length_map,List.length_reverse] at t0
 obtain⟨t1,t2⟩:=t0
 obtain⟨t3,t4⟩:=Sl.split σv t2
 obtain⟨_,t6⟩:=Sl.split tvs t4
 rw[List.drop_drop] at t4
 rw[List.drop_drop,List.drop_drop] at t6
 have t6':Sl G ρ H (s.tm.drop (ys.length+σv.length+tvs.length)) tv:=by rw[Nat.add_assoc];exact t6
 have t1':=t1.reverse
 rw[<-List.map_reverse,List.reverse_reverse] at t1'
 obtain⟨r1,r2⟩:=Sl.all t1' e
 have lt: ∀l,l∈z06 (s.tm.take ys.length)->l∈z0E s:=fun l h=>List.mem_append_right _ (by
  have e:=z0g (s.tm.take ys.length) (s.tm.drop ys.length)
  rw[List.take_append_drop] at e
  rw[e];exact List.mem_append_left _ h)
 have ld: ∀l k,l∈z06 (s.tm.drop k)->l∈z0E s:=fun l k h=>List.mem_append_right _ (by
  have e:=z0g (s.tm.take k) (s.tm.drop k)
  rw[List.take_append_drop] at e
  rw[e];exact List.mem_append_right _ h)
 have ldt: ∀l k j,l∈z06 ((s.tm.drop k).take j)->l∈z0E s:=fun l k j h=>ld l k (by
  have e:=z0g ((s.tm.drop k).take j) ((s.tm.drop k).drop j)
  rw[List.take_append_drop] at e
  rw[e];exact List.mem_append_left _ h)
 have own: ∀l∈z0E s,F.A0 (ρ l)\/F.H0 (ρ l)=none:=fun l h=>by
  rcases M.own l h with q|q
  ·exact .inl q
  ·refine .inr ?_
   have q:upd F.H0 A1 (.lst ys) (ρ l)=none:=q
   rw[z02 (nD l (M.lab l h))] at q;exact q
 have st:=z0L.refl H
 have stay: ∀l,l<s.n->ext ρ s.n A1 l=ρ l/\∀o,H (ρ l)=some o->H (ρ l)=some o:=fun l hl=>⟨z0m hl,fun o e=>e⟩
 have all: ∀l∈z0E {σ:=(s.tm.drop ys.length).take σv.length,tm:=s.tm.drop (ys.length+σv.length+tvs.length),n:=s.n+1},l∈z0E s:=fun l h=>by
  rcases List.mem_append.mp h with h|h
  ·exact ldt l _ _ h
  ·exact ld l _ h
 have dsl: ∀l∈labsL ds,l∈z0E s:=fun l h=>lt l (by rw[r2] at h;exact z2F.mp h)
 refine⟨⟨Sl.stay st t3 fun l hl=>stay l (M.lab l (ldt l _ _ hl)),Sl.stay st t6' fun l hl=>stay l (M.lab l (ld l _ hl)),fun i j hi hj eq=> ?_,fun l hl=> ?_,fun l h=>Nat.lt_succ_of_lt (M.lab l (all l h)),fun l h=> ?_,fun a o e=> ?_,M.kd,fun l hl z=> ?_,⟨Nat.le_succ_of_le M.bas.1,fun l hl=>by rw[z0m (Nat.lt_of_lt_of_le hl M.bas.1)];exact M.bas.2 l hl⟩⟩, ?_,fun l h=> ?_⟩
 ·have hi:i<s.n+1:=hi
  have hj:j<s.n+1:=hj
  by_cases h1:i=s.n
  ·by_cases h2:j=s.n
   ·lia
   ·rw[h1,z0H,z0m (by lia)] at eq
    exact absurd eq.symm (nD j (by lia))
  ·by_cases h2:j=s.n
   ·rw[h2,z0H,z0m (by lia)] at eq
    exact absurd eq (nD i (by lia))
   ·rw[z0m (by lia),z0m (by lia)] at eq
    exact M.inj i j (by lia) (by lia) eq
 ·have hl:l<s.n+1:=hl
  by_cases h1:l=s.n
  ·subst h1;rw[z0H];exact⟨_,hD⟩
  ·rw[z0m (by lia)];exact M.dom l (by lia)
 ·rw[z0m (M.lab l (all l h))];exact own l (all l h)
 ·exact M.frm a o (by show upd F.H0 A1 (.lst ys) a=some o;rw[z02 (z0w e hf)];exact e)
 ·have hl:l<s.n+1:=hl
  by_cases h1:l=s.n
  ·subst h1;rw[z0H] at z
   obtain⟨⟨o,e⟩,_⟩:=F.zA A1 z
   rw[hf] at e;cases e
  ·rw[z0m (by lia)] at z
   exact M.frb l (by lia) (.inr z)
 ·refine RDs.one ?_
  simp only[RD]
  rw[z0H]
  exact⟨rfl,ys,hD,RDs.stay st ds ys r1 fun l hl=>stay l (M.lab l (dsl l hl))⟩
 ·simp only[labsL,labs,List.append_nil] at h
  rcases List.mem_cons.mp h with q|q
  ·rw[q,z0H];exact⟨Nat.lt_succ_self _, .inr hf⟩
  ·have q2:=dsl l q
   exact⟨Nat.lt_succ_of_lt (M.lab l q2),by rw[z0m (M.lab l q2)];exact own l q2⟩
noncomputable def tMx(G:Gx)(m:M D):TE:=fun σ H Q=> ∃F:Fy,tM G F m σ H Q
noncomputable def tBx(G:Gx)(m:M Bool):TT:=fun σ H Q=> ∃F:Fy,tMB G F m σ H Q
noncomputable def tGx(G:Gx)(g:Tg):TG:=fun v σ H Q=> ∃F:Fy,tGn G F g v σ H Q
noncomputable def STs(X:Cx)(G:Gx)(F:Fy)(ifs:List Expr)(m:M Bool):Prop:=PTs X ifs (tMB G F m)
theorem sts_nil:STs X G F [] (rt true):=fun pins s σ H Q I ⟨tv,hs,ρ,ms,M,W⟩=>zag pins s σ H Q I (W ρ H M)
theorem z8u{K:W.Frag}{k:Nat}{ix:List Nat}{mi:M ItK}{g:Tg}{mt:M Bool}{me:M D}{σ:St}{H:Hp}{Q:VK}(hk:K=G.K)(h:tM G F (z0x mi g mt me k ix) σ H Q):z5B K (tI G F mi) (tGx G g) (tBx G mt) (tMx G me) k ix σ H Q:=by
 obtain⟨tv,hsf,ρ,s,M,W⟩:=h
 refine⟨tv,hsf,ρ,s,M, ?_⟩
 unfold z0x bd at W
 cases em:mi s with
 |ex d s1=>rw[em] at W;exact W
 |no=>rw[em] at W;exact W
 |ok K s1=>
  rw[em] at W
  intro ρ1 H1 tvs J hl M1 hok A1 hA1 kd
  subst hk
  have kd:KD G.K (upd H1 A1 (.lst [])):=kd
  have hf:=M1.fresh0 hA1
  refine⟨fun i m ys σ' H'=> ∃ρ s,MR G (F.prot A1 ys hf).toFx ρ H' σ' ((ys.reverse.map some)++(σ++(tvs++tv))) s/\wM G F σ tv (z0s K g mt me s1.σ.length m i ys.length s) Q,⟨_,ρ1,_,M1.enter hA1 kd k ix,W⟩, ?_⟩
  rintro i m ys σ' H' ⟨ρ2,s2,M2,W2⟩
  have hD:=(MR.turnD (ys':=ys) M2).1
  refine⟨hD, ?_⟩
  have ol:s1.σ.length=σ.length:=M1.sl.length
  have ok:=hok (F.prot A1 ys hf).toFx ρ2 H' σ' ((ys.reverse.map some)++σ) tv s2 i (by rw[List.append_assoc];exact M2)
  simp only[List.length_append,List.length_map,List.length_reverse,<-ol,List.append_assoc] at ok
  unfold z0s at W2
  cases e:K.at' i (s2.tm.drop (ys.length+s1.σ.length)) with
  |none=>simp only[e] at W2;exact False.elim W2
  |some o=>
   rw[e] at ok
   cases o with
   |none=>
    simp only[e] at W2 ok
    refine .inl ⟨ok, ?_⟩
    cases ea:z0a (s2.tm.take ys.length).reverse with
    |none=>simp only[ea] at W2;exact False.elim W2
    |some ds=>
     simp only[ea] at W2
     exact W2 _ _ _ (MR.leave M2 hl _ ol.symm ea)
   |some d=>
    simp only[e] at W2 ok
    cases m with
    |zero=>exact False.elim W2
    |succ f=>
     dsimp only at W2
     cases e2:asg g d s2.σ with
     |none=>simp only[e2] at W2;exact False.elim W2
     |some σ3=>
      simp only[e2] at W2
      refine .inr ⟨ok.1,fun x H2 y=> ?_⟩
      have hx:=ok.2 x H2 y
      refine⟨F.prot A1 ys hf,_,ρ2,s2,d,hx,σ3,e2,fun σv' M3=>⟨F.prot A1 ys hf,_,List.nil_suffix,ρ2,_,M3, ?_⟩⟩
      cases e3:mt {s2 with σ:=σ3} with
      |ex d s4=>simp only[e3] at W2;exact False.elim W2
      |no=>simp only[e3] at W2;exact False.elim W2
      |ok b s4=>
       intro ρ4 H4 M4
       cases b with
       |false=>
        simp only[e3] at W2
        rw[if_neg Bool.false_ne_true]
        exact⟨f,Nat.lt_succ_self _,ρ4,s4,M4,W2⟩
       |true=>
        simp only[e3] at W2
        rw[if_pos rfl]
        by_cases hz:ys.length<sizeLine
        ·rw[if_pos hz] at W2
         refine⟨F.prot A1 ys hf,_,List.nil_suffix,ρ4,s4,M4, ?_⟩
         cases e5:me s4 with
         |ex d s5=>simp only[e5] at W2;exact False.elim W2
         |no=>simp only[e5] at W2;exact False.elim W2
         |ok y s5=>
          simp only[e5] at W2
          intro ρ5 v H5 M5
          obtain⟨hD5,M6⟩:=MR.turnD (ys':=ys++[v]) M5.push
          refine⟨hD5,hz,f,Nat.lt_succ_self _,ρ5,s5.psh y, ?_, ?_⟩
          ·rw[List.reverse_append,List.reverse_cons,List.reverse_nil,List.nil_append,List.map_append]
           exact M6
          ·rw[List.length_append];exact W2
        ·rw[if_neg hz] at W2;exact False.elim W2
theorem se_comp{scope:Scope}{own frees:List Str}{ix:List Nat}{ifs:List Expr}{mi:M ItK}{g:Tg}{mt:M Bool}{me:M D}(hk:X.K=G.K)(hc:X.calm=true)(S:z0G X.env.scope scope own frees X.N ix)(hi:SI X G F tg iter mi)
 (hg: ∀(F:Fy) cl C s₀ H₀ fp pn,SG (z0r X scope own frees cl C s₀ H₀ fp pn) G F tg g) (ht: ∀(F:Fy) cl C s₀ H₀ fp pn,STs (z0r X scope own frees cl C s₀ H₀ fp pn) G F ifs mt) (he: ∀(F:Fy) cl C s₀ H₀ fp pn,SE (z0r X scope own frees cl C s₀ H₀ fp pn) G F elt me)
 (hs: ∀x,foldedSetIterable iter X.env x=pure x:=by intro _;rfl):SE X G F (.ListComp elt [⟨tg,iter,ifs,0⟩] scope pos) (z0x mi g mt me own.length ix):=
 PE.imp0 (z2D (g:=tGx G g) (tt:=tBx G mt) (te:=tMx G me) hc S hi (fun cl C s₀ H₀ fp pn pins s σ H v u Q I r ⟨F',q⟩=>hg F' cl C s₀ H₀ fp pn pins s σ H v u Q I r q)
  (fun cl C s₀ H₀ fp pn pins s σ H Q I ⟨F',q⟩=>ht F' cl C s₀ H₀ fp pn pins s σ H Q I q) (fun cl C s₀ H₀ fp pn pins s σ H Q I ⟨F',q⟩=>he F' cl C s₀ H₀ fp pn pins s σ H Q I q) hs) fun σ H Q h=>z8u hk h
end
mutual
noncomputable def z0n(l:Nat):D->Option D
 | .tup ds=>findL l ds
 | .ro ds=>findL l ds
 | .fdc _ vs=>findL l vs
 | .lst k ds=>if k=l then some (.lst k ds) else findL l ds
 | .dct k ks vs=>if k=l then some (.dct k ks vs) else findL l vs
 | .obj k c ns vs=>if k=l then some (.obj k c ns vs) else findL l vs
 | .non=>none| .bool _=>none| .int _=>none| .str _=>none| .exc _=>none| .fn _=>none
noncomputable def findL(l:Nat):List D->Option D
 |[]=>none
 |d::ds=>match z0n l d with
  |some x=>some x
  |none=>findL l ds
end
section
variable{G:Gx}{ρ:Nat->Addr}{H:Hp}
mutual
theorem z8v(l:Nat): ∀(t:D) (v:V) (d:D),RD G ρ H t v->z0n l t=some d->RD G ρ H d (.ref (ρ l))/\∀k∈labs d,k∈labs t
 | .non,v,d,h,e=>by simp only[z0n] at e;cases e
 | .bool b,v,d,h,e=>by simp only[z0n] at e;cases e
 | .int b,v,d,h,e=>by simp only[z0n] at e;cases e
 | .str b,v,d,h,e=>by simp only[z0n] at e;cases e
 | .exc b,v,d,h,e=>by simp only[z0n] at e;cases e
 | .fn b,v,d,h,e=>by simp only[z0n] at e;cases e
 | .tup ds,v,d,h,e=>by
  simp only[z0n,RD,labs] at h e⊢
  obtain⟨a,xs,_,_,r⟩:=h
  exact findL_rd l ds xs d r e
 | .ro ds,v,d,h,e=>by
  simp only[z0n,RD,labs] at h e⊢
  obtain⟨a,xs,_,_,r⟩:=h
  exact findL_rd l ds xs d r e
 | .fdc ks vs,v,d,h,e=>by
  simp only[z0n,RD,labs] at h e⊢
  obtain⟨a,o,kvs,_,_,_,r⟩:=h
  exact findL_rd l vs _ d r e
 | .lst k ds,v,d,h,e=>by
  simp only[z0n] at e
  by_cases hk:k=l
  ·rw[if_pos hk] at e;cases e
   subst hk
   have h':=h
   simp only[RD] at h'
   obtain⟨rfl,_⟩:=h'
   exact⟨h,fun _ q=>q⟩
  ·rw[if_neg hk] at e
   simp only[RD] at h
   obtain⟨_,xs,_,r⟩:=h
   obtain⟨q1,q2⟩:=findL_rd l ds xs d r e
   exact⟨q1,fun j hj=>by simp only[labs];exact List.mem_cons_of_mem _ (q2 j hj)⟩
 | .dct k ks vs,v,d,h,e=>by
  simp only[z0n] at e
  by_cases hk:k=l
  ·rw[if_pos hk] at e;cases e
   subst hk
   have h':=h
   simp only[RD] at h'
   obtain⟨rfl,_⟩:=h'
   exact⟨h,fun _ q=>q⟩
  ·rw[if_neg hk] at e
   simp only[RD] at h
   obtain⟨_,⟨kvs,_,_,r⟩|⟨kvs,_,_,r⟩⟩:=h
   ·obtain⟨q1,q2⟩:=findL_rd l vs _ d r e
    exact⟨q1,fun j hj=>by simp only[labs];exact List.mem_cons_of_mem _ (List.mem_append_right _ (q2 j hj))⟩
   ·obtain⟨q1,q2⟩:=findL_rd l vs _ d r e
    exact⟨q1,fun j hj=>by simp only[labs];exact List.mem_cons_of_mem _ (List.mem_append_right _ (q2 j hj))⟩
 | .obj k c ns vs,v,d,h,e=>by
  simp only[z0n] at e
  by_cases hk:k=l
  ·rw[if_pos hk] at e;cases e
   subst hk
   have h':=h
   simp only[RD] at h'
   obtain⟨rfl,_⟩:=h'
   exact⟨h,fun _ q=>q⟩
  ·rw[if_neg hk] at e
   simp only[RD] at h
   obtain⟨_,C,dx,fs,_,_,_,r⟩:=h
   obtain⟨q1,q2⟩:=findL_rd l vs _ d r e
   exact⟨q1,fun j hj=>by simp only[labs];exact List.mem_cons_of_mem _ (q2 j hj)⟩
theorem findL_rd(l:Nat): ∀(t:List D) (v:List V) (d:D),RDs G ρ H t v->findL l t=some d->RD G ρ H d (.ref (ρ l))/\∀k∈labs d,k∈labsL t
 |[],v,d,h,e=>by simp only[findL] at e;cases e
 |t::ts,v,d,h,e=>by
  simp only[findL,RDs,labsL] at h e⊢
  obtain⟨x,r,_,h1,h2⟩:=h
  cases e1:z0n l t with
  |some y=>
   rw[e1] at e;cases e
   obtain⟨q1,q2⟩:=z8v l t x _ h1 e1
   exact⟨q1,fun j hj=>List.mem_append_left _ (q2 j hj)⟩
  |none=>
   rw[e1] at e
   obtain⟨q1,q2⟩:=findL_rd l ts r d h2 e
   exact⟨q1,fun j hj=>List.mem_append_right _ (q2 j hj)⟩
end
theorem roL_two{K:W.Frag}{a:Addr}{xs ys:List V}(k:KD K H)(h:RoL K H a xs)(h':RoL K H a ys):xs=ys:=SqL.two k h.sq h'.sq
noncomputable def z5D(G:Gx)(H:Hp)(a:Addr):Nat->Prop
 |0=> ∃xs,SqT G.K H a xs
 |1=> ∃xs,RoL G.K H a xs
 |2=> ∃xs,H a=some (.lst xs)
 |3=>(∃kvs,H a=some (.dK kvs))\/∃kvs,H a=some (.dT kvs)
 |4=> ∃C dx fs,H a=some (.ins C dx fs)
 |5=> ∃o φ,H a=some (.frz o (.ext φ))
 |6=> ∃c,G.cl c=some a
 |_=> ∃o kvs,H a=some (.frz o (.dT kvs))
open Classical in
noncomputable def kd(K:W.Frag)(H:Hp)(a:Addr):Nat:=match H a with
 |some (.tup _)=>0|some (.frz _ (.tup _))=>0|some (.frz _ (.lst _))=>1|some (.lst _)=>2|some (.dK _)=>3|some (.dT _)=>3|some (.ins _ _ _)=>4|some (.frz _ (.ext _))=>5|some (.frz _ (.dT _))=>7
 |some _=>9
 |none=>match K.lookup a with
  |some o=>if(∃its n,o.data= .seq its n) then(if o.cls= .type "tuple" then 0 else 1) else 6
  |none=>8
theorem zck{a:Addr}(k:KD G.K H): ∀{i:Nat},z5D G H a i->i<=7->kd G.K H a=i:=by
 have tl: ¬((.type "list" :Value)= .type "tuple"):=by intro h;injection h with h;exact absurd h (by decide)
 intro i hi li
 match i,hi,li with
 |0,⟨xs,h⟩,_=>
  rcases h with(h|⟨o,h⟩)|⟨o,its,n,h,hc,hd,_⟩
  ·unfold kd;rw[h]
  ·unfold kd;rw[h]
  ·unfold kd;rw[k _ _ h];dsimp only;rw[h];dsimp only;rw[if_pos ⟨its,n,hd⟩,if_pos hc]
 |1,⟨xs,h⟩,_=>
  rcases h with⟨o,h⟩|⟨o,its,n,h,hc,_,hd,_⟩
  ·unfold kd;rw[h]
  ·unfold kd;rw[k _ _ h];dsimp only;rw[h];dsimp only;rw[if_pos ⟨its,n,hd⟩,if_neg (by rw[hc];exact tl)]
 |2,⟨xs,h⟩,_=>unfold kd;rw[h]
 |3,h,_=>rcases h with⟨_,h⟩|⟨_,h⟩<;>(unfold kd;rw[h])
 |4,⟨_,_,_,h⟩,_=>unfold kd;rw[h]
 |5,⟨_,_,h⟩,_=>unfold kd;rw[h]
 |6,⟨c,h⟩,_=>
  obtain⟨o,h1,h2⟩:=G.ck c a h
  unfold kd;rw[k _ _ h1];dsimp only;rw[h1];dsimp only;rw[if_neg (fun⟨its,n,q⟩=>h2 its n q)]
 |7,⟨_,_,h⟩,_=>unfold kd;rw[h]
 |n+8,_,li=>lia
theorem z8w{a:Addr}(k:KD G.K H){i j:Nat}(hi:z5D G H a i)(hj:z5D G H a j)(li:i<=7)(lj:j<=7):i=j:=(zck k hi li).symm.trans (zck k hj lj)
noncomputable def ix:D->Nat
 | .tup _=>0| .ro _=>1| .lst _ _=>2| .dct _ _ _=>3| .obj _ _ _ _=>4| .exc _=>5| .fn _=>6| .fdc _ _=>7|_=>8
noncomputable def flD:V->D
 | .bl b=> .bool b| .int b=> .int b| .str b=> .str b|_=> .non
theorem RD.kind{t:D}{v:V}(h:RD G ρ H t v):(t=flD v/\∀a,v≠ .ref a)\/∃a,v= .ref a/\ix t<=7/\z5D G H a (ix t):=by
 cases t<;>simp only[RD] at h
 ·exact .inl (by rw[h];exact⟨rfl,nofun⟩)
 ·exact .inl (by rw[h];exact⟨rfl,nofun⟩)
 ·exact .inl (by rw[h];exact⟨rfl,nofun⟩)
 ·exact .inl (by rw[h];exact⟨rfl,nofun⟩)
 ·obtain⟨a',xs,e,s,r⟩:=h;exact .inr ⟨a',e,Nat.le_of_ble_eq_true rfl,xs,SqT.of s⟩
 ·obtain⟨a',xs,e,s,r⟩:=h;exact .inr ⟨a',e,Nat.le_of_ble_eq_true rfl,xs,s⟩
 ·obtain⟨e,xs,s,r⟩:=h;exact .inr ⟨_,e,Nat.le_of_ble_eq_true rfl,xs,s⟩
 ·obtain⟨e,⟨kvs,s,_⟩|⟨kvs,s,_⟩⟩:=h
  ·exact .inr ⟨_,e,Nat.le_of_ble_eq_true rfl, .inl ⟨kvs,s⟩⟩
  ·exact .inr ⟨_,e,Nat.le_of_ble_eq_true rfl, .inr ⟨kvs,s⟩⟩
 ·obtain⟨e,C,dx,fs,_,s,_⟩:=h;exact .inr ⟨_,e,Nat.le_of_ble_eq_true rfl,C,dx,fs,s⟩
 ·obtain⟨a',o,C,e,_,_,_,s⟩:=h;exact .inr ⟨a',e,Nat.le_of_ble_eq_true rfl,o,_,s⟩
 ·obtain⟨a',e,s⟩:=h;exact .inr ⟨a',e,Nat.le_of_ble_eq_true rfl,_,s⟩
 ·obtain⟨a',o,kvs,e,s,_⟩:=h;exact .inr ⟨a',e,Nat.le_of_ble_eq_true rfl,o,kvs,s⟩
theorem ix0{t:D}(h:ix t=0): ∃ds,t= .tup ds:=by cases t<;>first|exact⟨_,rfl⟩|cases h
theorem ix1{t:D}(h:ix t=1): ∃ds,t= .ro ds:=by cases t<;>first|exact⟨_,rfl⟩|cases h
theorem ix2{t:D}(h:ix t=2): ∃l ds,t= .lst l ds:=by cases t<;>first|exact⟨_,_,rfl⟩|cases h
theorem ix3{t:D}(h:ix t=3): ∃l ks vs,t= .dct l ks vs:=by cases t<;>first|exact⟨_,_,_,rfl⟩|cases h
theorem ix4{t:D}(h:ix t=4): ∃l c ns vs,t= .obj l c ns vs:=by cases t<;>first|exact⟨_,_,_,_,rfl⟩|cases h
theorem ix5{t:D}(h:ix t=5): ∃c,t= .exc c:=by cases t<;>first|exact⟨_,rfl⟩|cases h
theorem ix6{t:D}(h:ix t=6): ∃c,t= .fn c:=by cases t<;>first|exact⟨_,rfl⟩|cases h
theorem ix7{t:D}(h:ix t=7): ∃ks vs,t= .fdc ks vs:=by cases t<;>first|exact⟨_,_,rfl⟩|cases h
theorem RD.ixE{t t':D}{v:V}(k:KD G.K H)(h:RD G ρ H t v)(h':RD G ρ H t' v):t=t'\/ix t=ix t':=by
 rcases RD.kind h with⟨e,n⟩|⟨a,e,l,q⟩<;>rcases RD.kind h' with⟨e',n'⟩|⟨a',e',l',q'⟩
 ·exact .inl (e.trans e'.symm)
 ·exact absurd e' (n _)
 ·exact absurd e (n' _)
 ·cases e.symm.trans e';exact .inr (z8w k q q' l l')
section
variable(k:KD G.K H){n:Nat}(inj: ∀i j,i<n->j<n->ρ i=ρ j->i=j)
include k inj
mutual
theorem RD.uniq: ∀(t t':D) (v:V),RD G ρ H t v->RD G ρ H t' v->(∀l∈labs t,l<n)->(∀l∈labs t',l<n)->t=t'
 | .non,t',v,h,h',_,_=>(RD.kind h').elim (fun e=>by simp only[RD] at h;subst h;exact e.1.symm) fun⟨_,e,_⟩=>by simp only[RD] at h;subst h;cases e
 | .bool b,t',v,h,h',_,_=>(RD.kind h').elim (fun e=>by simp only[RD] at h;subst h;exact e.1.symm) fun⟨_,e,_⟩=>by simp only[RD] at h;subst h;cases e
 | .int b,t',v,h,h',_,_=>(RD.kind h').elim (fun e=>by simp only[RD] at h;subst h;exact e.1.symm) fun⟨_,e,_⟩=>by simp only[RD] at h;subst h;cases e
 | .str b,t',v,h,h',_,_=>(RD.kind h').elim (fun e=>by simp only[RD] at h;subst h;exact e.1.symm) fun⟨_,e,_⟩=>by simp only[RD] at h;subst h;cases e
 | .exc c,t',v,h,h',lb,lb'=>by
  rcases RD.ixE k h h' with e|e
  ·exact e
  obtain⟨c',rfl⟩:=ix5 e.symm
  simp only[RD] at h h'
  obtain⟨a,o,C,rfl,h1,h2,_,s⟩:=h
  obtain⟨a',o',C',e,h1',h2',_,s'⟩:=h'
  cases e
  rw[s] at s';cases s'
  rw[h2] at h2';cases h2'
  rw[G.ci c c' C h1 h1']
 | .fn c,t',v,h,h',lb,lb'=>by
  rcases RD.ixE k h h' with e|e
  ·exact e
  obtain⟨c',rfl⟩:=ix6 e.symm
  simp only[RD] at h h'
  obtain⟨a,rfl,h1⟩:=h
  obtain⟨a',e,h1'⟩:=h'
  cases e
  rw[G.ci c c' a h1 h1']
 | .tup ds,t',v,h,h',lb,lb'=>by
  rcases RD.ixE k h h' with e|e
  ·exact e
  obtain⟨es,rfl⟩:=ix0 e.symm
  obtain⟨a,xs,rfl,s,r⟩:=h.tupq
  obtain⟨a',ys,e,s',r'⟩:=h'.tupq
  cases e
  cases SqT.two k s s'
  rw[RDs.uniq ds es xs r r' lb lb']
 | .fdc ks vs,t',v,h,h',lb,lb'=>by
  rcases RD.ixE k h h' with e|e
  ·exact e
  obtain⟨ks',vs',rfl⟩:=ix7 e.symm
  simp only[RD] at h h'
  obtain⟨a,o,kvs,rfl,s,s2,r⟩:=h
  obtain⟨a',o',kvs',e,s',s2',r'⟩:=h'
  cases e
  rw[s] at s';cases s'
  rw[s2,s2',RDs.uniq vs vs' _ r r' lb lb']
 | .ro ds,t',v,h,h',lb,lb'=>by
  rcases RD.ixE k h h' with e|e
  ·exact e
  obtain⟨es,rfl⟩:=ix1 e.symm
  simp only[RD] at h h'
  obtain⟨a,xs,rfl,s,r⟩:=h
  obtain⟨a',ys,e,s',r'⟩:=h'
  cases e
  cases roL_two k s s'
  rw[RDs.uniq ds es xs r r' lb lb']
 | .lst l ds,t',v,h,h',lb,lb'=>by
  rcases RD.ixE k h h' with e|e
  ·exact e
  obtain⟨l',es,rfl⟩:=ix2 e.symm
  simp only[RD] at h h'
  obtain⟨rfl,xs,s,r⟩:=h
  obtain⟨e,ys,s',r'⟩:=h'
  cases inj l l' (lb l (.head _)) (lb' l' (.head _)) (V.ref.inj e)
  rw[s] at s';cases s'
  rw[RDs.uniq ds es xs r r' (fun j hj=>lb j (.tail _ hj)) fun j hj=>lb' j (.tail _ hj)]
 | .dct l ks vs,t',v,h,h',lb,lb'=>by
  rcases RD.ixE k h h' with e|e
  ·exact e
  obtain⟨l',ks',vs',rfl⟩:=ix3 e.symm
  simp only[RD] at h h'
  obtain⟨rfl,q⟩:=h
  obtain⟨e,q'⟩:=h'
  cases inj l l' (lb l (.head _)) (lb' l' (.head _)) (V.ref.inj e)
  have b1: ∀j∈labsL vs,j<n:=fun j hj=>lb j (.tail _ (List.mem_append_right _ hj))
  have b2: ∀j∈labsL vs',j<n:=fun j hj=>lb' j (.tail _ (List.mem_append_right _ hj))
  rcases q with⟨kvs,s,s2,r⟩|⟨kvs,s,s2,r⟩<;>rcases q' with⟨kvs',s',s2',r'⟩|⟨kvs',s',s2',r'⟩<;>rw[s] at s'<;>cases s'
  ·rw[s2,s2',RDs.uniq vs vs' _ r r' b1 b2]
  ·rw[s2,s2',RDs.uniq vs vs' _ r r' b1 b2]
 | .obj l c ns vs,t',v,h,h',lb,lb'=>by
  rcases RD.ixE k h h' with e|e
  ·exact e
  obtain⟨l',c',ns',vs',rfl⟩:=ix4 e.symm
  simp only[RD] at h h'
  obtain⟨rfl,C,dx,fs,hC,s,s2,r⟩:=h
  obtain⟨e,C',dx',fs',hC',s',s2',r'⟩:=h'
  cases inj l l' (lb l (.head _)) (lb' l' (.head _)) (V.ref.inj e)
  rw[s] at s';cases s'
  rw[s2,s2',G.ci c c' C hC hC',RDs.uniq vs vs' _ r r' (fun j hj=>lb j (.tail _ hj)) fun j hj=>lb' j (.tail _ hj)]
theorem RDs.uniq: ∀(t t':List D) (v:List V),RDs G ρ H t v->RDs G ρ H t' v->(∀l∈labsL t,l<n)->(∀l∈labsL t',l<n)->t=t'
 |[],t',v,h,h',_,_=>by
  simp only[RDs] at h;subst h
  cases t' with
  |nil=>rfl
  |cons d ds=>simp only[RDs] at h';obtain⟨_,_,e,_⟩:=h';cases e
 |d::ds,t',v,h,h',lb,lb'=>by
  simp only[RDs] at h
  obtain⟨x,q,rfl,h1,h2⟩:=h
  cases t' with
  |nil=>simp only[RDs] at h';cases h'
  |cons d' ds'=>
   simp only[RDs] at h'
   obtain⟨_,_,e,h1',h2'⟩:=h'
   cases e
   rw[RD.uniq d d' x h1 h1' (fun l hl=>lb l (by simp only[labsL];exact List.mem_append_left _ hl)) fun l hl=>lb' l (by simp only[labsL];exact List.mem_append_left _ hl),
    RDs.uniq ds ds' q h2 h2' (fun l hl=>lb l (by simp only[labsL];exact List.mem_append_right _ hl)) fun l hl=>lb' l (by simp only[labsL];exact List.mem_append_right _ hl)]
end
end
end
end Mi
namespace Mi
open PySem L2 PySem.Spec PyProof.Rows
inductive RF where
 |ok (t:D) (ts:List D) (n:Nat)|ex (d:D) (ts:List D) (n:Nat)|no
noncomputable abbrev FM:=List D->Nat->RF
structure z4o(G:Gx)(ρ:Nat->Addr)(n:Nat)(ts:List D)(vs:List V)(H:Hp)(ρ':Nat->Addr)(n':Nat)(ts':List D)(H':Hp):Prop where
 old: ∀l,l<n->ρ' l=ρ l
 le:n<=n'
 inj: ∀i j,i<n'->j<n'->ρ' i=ρ' j->i=j
 dom: ∀l,l<n'->∃o,H' (ρ' l)=some o
 rd:RDs G ρ' H' ts' vs
 lb: ∀l∈labsL ts',l<n'/\(l<n->l∈labsL ts)
 fr: ∀a o,H a=some o->(∃o',H' a=some o')/\((∀l∈labsL ts,a≠ρ l)->H' a=some o)
 new: ∀l,n<=l->l<n'->H (ρ' l)=none
 kd:KD G.K H'
section
variable{G:Gx}{ρ ρ':Nat->Addr}{H H':Hp}
theorem z7g(k:Key):labs (keyD k)=[]:=by cases k<;>simp only[keyD,labs]
theorem z7h: ∀ks:List Key,labsL (ks.map keyD)=[]
 |[]=>by simp only[List.map_nil,labsL]
 |k::ks=>by simp only[List.map_cons,labsL,z7g,z7h ks,List.append_nil]
theorem z4W(z:Key⊕List Key):labs (nkD z)=[]:=by
 cases z with
 |inl k=>exact z7g k
 |inr ks=>simp only[nkD,labs,z7h]
mutual
theorem z7i: ∀(t:D) (v:V),RD G ρ H t v->∀l∈labs t,∃o,H (ρ l)=some o/\(∀xs,o≠ .tup xs)/\∀u w,o≠ .frz u w
 | .non,v,h,l,hl=>by simp only[labs] at hl;cases hl
 | .bool b,v,h,l,hl=>by simp only[labs] at hl;cases hl
 | .int b,v,h,l,hl=>by simp only[labs] at hl;cases hl
 | .str b,v,h,l,hl=>by simp only[labs] at hl;cases hl
 | .exc b,v,h,l,hl=>by simp only[labs] at hl;cases hl
 | .fn b,v,h,l,hl=>by simp only[labs] at hl;cases hl
 | .tup ds,v,h,l,hl=>by
  simp only[labs,RD] at h hl
  obtain⟨a,xs,_,_,r⟩:=h
  exact labL_mut ds xs r l hl
 | .fdc ks vs,v,h,l,hl=>by
  simp only[labs,RD] at h hl
  obtain⟨a,o,kvs,_,_,_,r⟩:=h
  exact labL_mut vs _ r l hl
 | .ro ds,v,h,l,hl=>by
  simp only[labs,RD] at h hl
  obtain⟨a,xs,_,_,r⟩:=h
  exact labL_mut ds xs r l hl
 | .lst k ds,v,h,l,hl=>by
  simp only[labs,RD] at h hl
  obtain⟨_,xs,s,r⟩:=h
  rcases List.mem_cons.mp hl with rfl|hl
  ·exact⟨_,s,(fun _ q=>nomatch q),(fun _ _ q=>nomatch q)⟩
  ·exact labL_mut ds xs r l hl
 | .dct k ks vs,v,h,l,hl=>by
  simp only[labs,RD] at h hl
  obtain⟨_,⟨kvs,s,s2,r⟩|⟨kvs,s,s2,r⟩⟩:=h
  ·rcases List.mem_cons.mp hl with rfl|hl
   ·exact⟨_,s,(fun _ q=>nomatch q),(fun _ _ q=>nomatch q)⟩
   ·rcases List.mem_append.mp hl with hl|hl
    ·rw[s2] at hl
     obtain⟨d,hd,hl⟩:=z0Q hl
     rcases List.mem_cons.mp hd with rfl|hd
     ·simp only[labs] at hl;cases hl
     obtain⟨p,_,rfl⟩:=List.mem_map.mp hd
     obtain⟨kk,_⟩:=p
     cases kk<;>simp only[keyD,labs] at hl<;>cases hl
    ·exact labL_mut vs _ r l hl
  ·rcases List.mem_cons.mp hl with rfl|hl
   ·exact⟨_,s,(fun _ q=>nomatch q),(fun _ _ q=>nomatch q)⟩
   ·rcases List.mem_append.mp hl with hl|hl
    ·rw[s2] at hl
     obtain⟨d,hd,hl⟩:=z0Q hl
     obtain⟨p,_,rfl⟩:=List.mem_map.mp hd
     simp only[dkD,labs] at hl
     obtain⟨d,hd,hl⟩:=z0Q hl
     obtain⟨kk,_,rfl⟩:=List.mem_map.mp hd
     rw[z4W] at hl;cases hl
    ·exact labL_mut vs _ r l hl
 | .obj k c ns vs,v,h,l,hl=>by
  simp only[labs,RD] at h hl
  obtain⟨_,C,dx,fs,_,s,_,r⟩:=h
  rcases List.mem_cons.mp hl with rfl|hl
  ·exact⟨_,s,(fun _ q=>nomatch q),(fun _ _ q=>nomatch q)⟩
  ·exact labL_mut vs _ r l hl
theorem labL_mut: ∀(t:List D) (v:List V),RDs G ρ H t v->∀l∈labsL t,∃o,H (ρ l)=some o/\(∀xs,o≠ .tup xs)/\∀u w,o≠ .frz u w
 |[],v,h,l,hl=>by simp only[labsL] at hl;cases hl
 |d::ds,v,h,l,hl=>by
  simp only[labsL,RDs] at h hl
  obtain⟨x,r,_,h1,h2⟩:=h
  rcases List.mem_append.mp hl with hl|hl
  ·exact z7i d x h1 l hl
  ·exact labL_mut ds r h2 l hl
end
theorem z6e{kvs:List (Key×V)}{l:Nat}(hl:l∈labsL (kvs.map fun p=>keyD p.1)):False:=by
 obtain⟨d,hd,hl⟩:=z0Q hl
 obtain⟨p,_,rfl⟩:=List.mem_map.mp hd
 obtain⟨kk,_⟩:=p
 cases kk<;>simp only[keyD,labs] at hl<;>cases hl
theorem z4X{kvs:List (NK×V)}{l:Nat}(hl:l∈labsL (kvs.map fun p=>dkD p.1)):False:=by
 obtain⟨d,hd,hl⟩:=z0Q hl
 obtain⟨p,_,rfl⟩:=List.mem_map.mp hd
 simp only[dkD,labs] at hl
 obtain⟨d,hd,hl⟩:=z0Q hl
 obtain⟨kk,_,rfl⟩:=List.mem_map.mp hd
 rw[z4W] at hl;cases hl
mutual
theorem z6f(l:Nat): ∀(t:D) (v:V),RD G ρ H t v->l∈labs t->(z0n l t).isSome=true
 | .non,v,h,hl=>by simp only[labs] at hl;cases hl
 | .bool b,v,h,hl=>by simp only[labs] at hl;cases hl
 | .int b,v,h,hl=>by simp only[labs] at hl;cases hl
 | .str b,v,h,hl=>by simp only[labs] at hl;cases hl
 | .exc b,v,h,hl=>by simp only[labs] at hl;cases hl
 | .fn b,v,h,hl=>by simp only[labs] at hl;cases hl
 | .tup ds,v,h,hl=>by
  simp only[labs,RD,z0n] at h hl⊢
  obtain⟨a,xs,_,_,r⟩:=h
  exact findL_some l ds xs r hl
 | .fdc ks vs,v,h,hl=>by
  simp only[labs,RD,z0n] at h hl⊢
  obtain⟨a,o,kvs,_,_,_,r⟩:=h
  exact findL_some l vs _ r hl
 | .ro ds,v,h,hl=>by
  simp only[labs,RD,z0n] at h hl⊢
  obtain⟨a,xs,_,_,r⟩:=h
  exact findL_some l ds xs r hl
 | .lst k ds,v,h,hl=>by
  simp only[labs,RD,z0n] at h hl⊢
  obtain⟨_,xs,s,r⟩:=h
  by_cases e:k=l
  ·rw[if_pos e];rfl
  ·rw[if_neg e]
   rcases List.mem_cons.mp hl with q|q
   ·exact absurd q.symm e
   ·exact findL_some l ds xs r q
 | .dct k ks vs,v,h,hl=>by
  simp only[labs,RD,z0n] at h hl⊢
  obtain⟨_,⟨kvs,s,s2,r⟩|⟨kvs,s,s2,r⟩⟩:=h
  ·by_cases e:k=l
   ·rw[if_pos e];rfl
   ·rw[if_neg e]
    rcases List.mem_cons.mp hl with q|q
    ·exact absurd q.symm e
    ·rcases List.mem_append.mp q with q|q
     ·rw[s2] at q;exact(z6e q).elim
     ·exact findL_some l vs _ r q
  ·by_cases e:k=l
   ·rw[if_pos e];rfl
   ·rw[if_neg e]
    rcases List.mem_cons.mp hl with q|q
    ·exact absurd q.symm e
    ·rcases List.mem_append.mp q with q|q
     ·rw[s2] at q;exact(z4X q).elim
     ·exact findL_some l vs _ r q
 | .obj k c ns vs,v,h,hl=>by
  simp only[labs,RD,z0n] at h hl⊢
  obtain⟨_,C,dx,fs,_,s,_,r⟩:=h
  by_cases e:k=l
  ·rw[if_pos e];rfl
  ·rw[if_neg e]
   rcases List.mem_cons.mp hl with q|q
   ·exact absurd q.symm e
   ·exact findL_some l vs _ r q
theorem findL_some(l:Nat): ∀(t:List D) (v:List V),RDs G ρ H t v->l∈labsL t->(findL l t).isSome=true
 |[],v,h,hl=>by simp only[labsL] at hl;cases hl
 |d::ds,v,h,hl=>by
  simp only[labsL,RDs,findL] at h hl⊢
  obtain⟨x,r,_,h1,h2⟩:=h
  cases e:z0n l d with
  |some y=>rfl
  |none=>
   rcases List.mem_append.mp hl with q|q
   ·have:=z6f l d x h1 q
    rw[e] at this;cases this
   ·exact findL_some l ds r h2 q
end
theorem z4o.stays{n n':Nat}{ts ts':List D}{vs:List V}(P:z4o G ρ n ts vs H ρ' n' ts' H')(r:RDs G ρ H ts vs):z0L H H':=by
 refine⟨fun b xs e=>(P.fr b _ e).2 fun l hl z=> ?_,fun b o u e=>(P.fr b _ e).2 fun l hl z=> ?_⟩
 ·obtain⟨o,q,q1,_⟩:=labL_mut ts vs r l hl
  rw[<-z,e] at q;cases q;exact q1 _ rfl
 ·obtain⟨o,q,_,q1⟩:=labL_mut ts vs r l hl
  rw[<-z,e] at q;cases q;exact q1 _ _ rfl
section
variable(k:KD G.K H){n:Nat}(inj: ∀i j,i<n->j<n->ρ i=ρ j->i=j){ts:List D}{vs:List V}(r:RDs G ρ H ts vs)(lb: ∀l∈labsL ts,l<n)
include k inj r lb
mutual
theorem z3j: ∀(t:D) (v:V),RD G ρ H t v->(∀l∈labs t,l<n)->rp (fun l=>findL l ts) t=t
 | .non,v,h,hl=>rfl
 | .bool b,v,h,hl=>rfl
 | .int b,v,h,hl=>rfl
 | .str b,v,h,hl=>rfl
 | .exc b,v,h,hl=>rfl
 | .fn b,v,h,hl=>rfl
 | .tup ds,v,h,hl=>by
  simp only[labs,RD,rp] at h hl⊢
  obtain⟨a,xs,_,_,r1⟩:=h
  rw[rpL_find_id ds xs r1 hl]
 | .fdc ks vs,v,h,hl=>by
  simp only[labs,RD,rp] at h hl⊢
  obtain⟨a,o,kvs,_,_,_,r1⟩:=h
  rw[rpL_find_id vs _ r1 hl]
 | .ro ds,v,h,hl=>by
  simp only[labs,RD,rp] at h hl⊢
  obtain⟨a,xs,_,_,r1⟩:=h
  rw[rpL_find_id ds xs r1 hl]
 | .lst l ds,v,h,hl=>by
  simp only[rp]
  cases e:findL l ts with
  |some d=>
   dsimp only
   obtain⟨q1,q2⟩:=findL_rd l ts vs d r e
   have h':=h
   simp only[RD] at h'
   obtain⟨rfl,_⟩:=h'
   exact RD.uniq k inj _ _ _ q1 h (fun j hj=>lb j (q2 j hj)) hl
  |none=>
   dsimp only
   simp only[labs,RD] at h hl
   obtain⟨_,xs,s,r1⟩:=h
   rw[rpL_find_id ds xs r1 fun j hj=>hl j (List.mem_cons_of_mem _ hj)]
 | .dct l ks vs',v,h,hl=>by
  simp only[rp]
  cases e:findL l ts with
  |some d=>
   dsimp only
   obtain⟨q1,q2⟩:=findL_rd l ts vs d r e
   have h':=h
   simp only[RD] at h'
   obtain⟨rfl,_⟩:=h'
   exact RD.uniq k inj _ _ _ q1 h (fun j hj=>lb j (q2 j hj)) hl
  |none=>
   dsimp only
   simp only[labs,RD] at h hl
   obtain⟨_,⟨kvs,s,s2,r1⟩|⟨kvs,s,s2,r1⟩⟩:=h
   ·rw[rpL_find_id vs' _ r1 fun j hj=>hl j (List.mem_cons_of_mem _ (List.mem_append_right _ hj))]
   ·rw[rpL_find_id vs' _ r1 fun j hj=>hl j (List.mem_cons_of_mem _ (List.mem_append_right _ hj))]
 | .obj l c ns vs',v,h,hl=>by
  simp only[rp]
  cases e:findL l ts with
  |some d=>
   dsimp only
   obtain⟨q1,q2⟩:=findL_rd l ts vs d r e
   have h':=h
   simp only[RD] at h'
   obtain⟨rfl,_⟩:=h'
   exact RD.uniq k inj _ _ _ q1 h (fun j hj=>lb j (q2 j hj)) hl
  |none=>
   dsimp only
   simp only[labs,RD] at h hl
   obtain⟨_,C,dx,fs,_,s,_,r1⟩:=h
   rw[rpL_find_id vs' _ r1 fun j hj=>hl j (List.mem_cons_of_mem _ hj)]
theorem rpL_find_id: ∀(t:List D) (v:List V),RDs G ρ H t v->(∀l∈labsL t,l<n)->rpL (fun l=>findL l ts) t=t
 |[],v,h,hl=>rfl
 |d::ds,v,h,hl=>by
  simp only[labsL,RDs,rpL] at h hl⊢
  obtain⟨x,q,_,h1,h2⟩:=h
  rw[z3j d x h1 fun j hj=>hl j (List.mem_append_left _ hj),rpL_find_id ds q h2 fun j hj=>hl j (List.mem_append_right _ hj)]
end
theorem z1f: ∀(t:List (Option D)) (v:List (Option V)),Sl G ρ H t v->(∀l∈z06 t,l<n)->rpO (fun l=>findL l ts) t=t
 |[],v,h,hl=>rfl
 |none::r',v,h,hl=>by
  simp only[z06,Sl,rpO] at h hl⊢
  obtain⟨o,q,_,h⟩:=h
  rw[z1f r' q h hl]
 |some d::ds,v,h,hl=>by
  simp only[z06,Sl,rpO] at h hl⊢
  obtain⟨x,q,_,h1,h2⟩:=h
  rw[z3j k inj r lb d x h1 fun j hj=>hl j (List.mem_append_left _ hj),z1f ds q h2 fun j hj=>hl j (List.mem_append_right _ hj)]
end
variable{F:Fy}{σv tv:List (Option V)}{s:Stt}{np:Nat}
theorem MR.call{ts ts':List D}{vs:List V}{n':Nat}(M:MR G F.toFx ρ H σv tv s)(r:RDs G ρ H ts vs)(lb:LB F.toFx ρ s.n (labsL ts))(P:z4o G ρ s.n ts vs H ρ' n' ts' H')
 (hc: ∀l∈z0E s,l∈labsL ts->(findL l ts').isSome=true):MR G F.toFx ρ' H' σv tv {σ:=rpO (fun l=>findL l ts') s.σ,tm:=rpO (fun l=>findL l ts') s.tm,n:=n'}:=by
 have st:=P.stays r
 have step: ∀l∈z0E s,ρ' l=ρ l/\(match findL l ts' with|some d=>RD G ρ' H' d (.ref (ρ l))|none=> ∀o,H (ρ l)=some o->H' (ρ l)=some o):=fun l hl=>by
  have ol:=P.old l (M.lab l hl)
  refine⟨ol, ?_⟩
  cases e:findL l ts' with
  |some d=>
   have q:=(findL_rd l ts' vs d P.rd e).1
   rw[ol] at q;exact q
  |none=>
   intro o e1
   refine(P.fr _ _ e1).2 fun j hj z=> ?_
   have:l=j:=M.inj l j (M.lab l hl) (lb j hj).1 z
   subst this
   have:=hc l hl hj
   rw[e] at this;cases this
 have hn: ∀l,l<n'->l<s.n\/H (ρ' l)=none:=fun l hl=>by
  by_cases h:l<s.n
  ·exact .inl h
  ·exact .inr (P.new l (Nat.not_lt.mp h) hl)
 have hlab: ∀(xs:List (Option D)),(∀l∈z06 xs,l∈z0E s)->∀l∈z06 (rpO (fun l=>findL l ts') xs),l<n'/\(l<s.n->l∈z0E s\/l∈labsL ts):=fun xs hx l h=>by
  rcases z2j l xs h with q|⟨k,d,q1,q2,q3⟩
  ·exact⟨Nat.lt_of_lt_of_le (M.lab l (hx l q)) P.le,fun _=> .inl (hx l q)⟩
  ·obtain⟨b1,b2⟩:=P.lb l ((findL_rd k ts' vs d P.rd q2).2 l q3)
   exact⟨b1,fun z=> .inr (b2 z)⟩
 have all: ∀l∈z0E {σ:=rpO (fun l=>findL l ts') s.σ,tm:=rpO (fun l=>findL l ts') s.tm,n:=n'},l<n'/\(l<s.n->l∈z0E s\/l∈labsL ts):=fun l h=>by
  rcases List.mem_append.mp h with h|h
  ·exact hlab s.σ (fun l q=>List.mem_append_left _ q) l h
  ·exact hlab s.tm (fun l q=>List.mem_append_right _ q) l h
 refine⟨Sl.rp st M.sl fun l hl=>step l (List.mem_append_left _ hl),Sl.rp st M.tm fun l hl=>step l (List.mem_append_right _ hl),P.inj,P.dom,fun l h=>(all l h).1,fun l h=> ?_,fun a o e=> ?_,P.kd,fun l hl z=> ?_,⟨Nat.le_trans M.bas.1 P.le,fun l hl=> ?_⟩⟩
 ·rcases hn l (all l h).1 with q|q
  ·rw[P.old l q]
   rcases(all l h).2 q with z|z
   ·exact M.own l z
   ·exact(lb l z).2
  ·exact .inr (M.fresh0 q)
 ·obtain⟨⟨o1,e1⟩,e2⟩:=M.frm a o e
  obtain⟨e3,e4⟩:=P.fr a o1 e1
  refine⟨e3,fun nA=> ?_⟩
  have e5:=e2 nA
  rw[e1] at e5;cases e5
  refine e4 fun l hl z=> ?_
  rcases(lb l hl).2 with q|q
  ·exact nA (z▸q)
  ·rw[<-z,e] at q;cases q
 ·rcases hn l hl with q|q
  ·rw[P.old l q] at z;exact M.frb l q z
  ·obtain⟨⟨o,e⟩,_⟩:=F.zA _ z
   obtain⟨⟨o',e'⟩,_⟩:=M.frm _ o e
   rw[q] at e';cases e'
 ·rw[P.old l (Nat.lt_of_lt_of_le hl M.bas.1)];exact M.bas.2 l hl
theorem MR.call0{ts:List D}{vs:List V}{n':Nat}(M:MR G F.toFx ρ H σv tv s)(r:RDs G ρ H ts vs)(lb:LB F.toFx ρ s.n (labsL ts))(P:z4o G ρ s.n ts vs H ρ' n' ts H'):MR G F.toFx ρ' H' σv tv {s with n:=n'}:=by
 have hf: ∀l∈labsL ts,(findL l ts).isSome=true:=fun l hl=>findL_some l ts vs r hl
 have M2:=M.call r lb P fun l _ hl=>hf l hl
 rw[z1f M.kd M.inj r (fun l hl=>(lb l hl).1) s.σ σv M.sl fun l hl=>M.lab l (List.mem_append_left _ hl),z1f M.kd M.inj r (fun l hl=>(lb l hl).1) s.tm tv M.tm fun l hl=>M.lab l (List.mem_append_right _ hl)] at M2
 exact M2
open Classical in
noncomputable def z3G(r:RF)(ts:List D):M D:=fun s=>match r with
 | .ok t ts' n'=>if ts'=ts then .ok t {s with n:=n'} else
  if ∀l∈z0E s,l∈labsL ts->(findL l ts').isSome=true then .ok t {σ:=rpO (fun l=>findL l ts') s.σ,tm:=rpO (fun l=>findL l ts') s.tm,n:=n'} else .no
 |_=> .no
noncomputable def z07(f:FM)(ms:List (M D)):M D:=bd (z09 ms) fun ts s=>z3G (f ts s.n) ts s
noncomputable def spM(G:Gx)(np:Nat)(f:FM):Sp:=fun vs H Q _=>vs.length=np/\∃ρ n ts,RDs G ρ H ts vs/\(∀i j,i<n->j<n->ρ i=ρ j->i=j)/\(∀l,l<n->∃o,H (ρ l)=some o)/\(∀l∈labsL ts,l<n)/\KD G.K H/\match f ts n with
 | .ok t ts' n'=> ∀ρ' v H',z4o G ρ n ts vs H ρ' n' ts' H'->RD G ρ' H' t v->(∀l∈labs t,l<n'/\(l<n->l∈labsL ts))->Q v H'
 |_=>False
theorem z7j{ts:List D}{vs:List V}{f:FM}{Q:VK}{E:XK}(hl:vs.length=np)(M:MRL G F.toFx ρ H σv tv s ts vs)(W:wM G F σv tv (z3G (f ts s.n) ts s) Q):spM G np f vs H Q E:=by
 refine⟨hl,ρ,s.n,ts,M.rd,M.m.inj,M.m.dom,fun l h=>(M.lb l h).1,M.m.kd, ?_⟩
 cases e:f ts s.n with
 |no=>rw[e] at W;exact W
 |ex d ts' n'=>rw[e] at W;exact W
 |ok t ts' n'=>
  rw[e] at W
  intro ρ' v H' P rd lbt
  have own: ∀l∈labs t,F.A0 (ρ' l)\/F.H0 (ρ' l)=none:=fun l h=>by
   obtain⟨b1,b2⟩:=lbt l h
   by_cases hn:l<s.n
   ·rw[P.old l hn];exact(M.lb l (b2 hn)).2
   ·exact .inr (M.m.fresh0 (P.new l (Nat.not_lt.mp hn) b1))
  unfold z3G at W
  dsimp only at W
  split at W
  ·rename_i et
   subst et
   exact W.out (M.m.call0 M.rd M.lb P) rd fun l h=>⟨(lbt l h).1,own l h⟩
  ·split at W
   ·rename_i hc
    exact W.out (M.m.call M.rd M.lb P hc) rd fun l h=>⟨(lbt l h).1,own l h⟩
   ·exact False.elim W
theorem z7k: ∀(ms:List (M D)) (s:Stt) (ts:List D) (s':Stt),z09 ms s= .ok ts s'->ts.length=ms.length:=by
 intro ms
 induction ms with
 |nil=>intro s ts s' e;simp only[z09,rt,Res.ok.injEq] at e;rw[<-e.1];rfl
 |cons m ms ih=>
  intro s ts s' e
  simp only[z09,bd,psh] at e
  cases e1:m s with
  |ok t s1=>
   simp only[e1] at e
   cases e2:z09 ms (s1.psh t) with
   |ok ys s2=>
    simp only[e2,pop] at e
    cases e3:s2.tm with
    |nil=>simp only[e3] at e;cases e
    |cons o r=>
     cases o with
     |none=>simp only[e3] at e;cases e
     |some t'=>
      simp only[e3,rt,Res.ok.injEq] at e
      rw[<-e.1,List.length_cons,List.length_cons,ih _ _ _ e2]
   |ex d s2=>simp only[e2] at e;cases e
   |no=>simp only[e2] at e;cases e
  |ex d s1=>simp only[e1] at e;cases e
  |no=>simp only[e1] at e;cases e
theorem se_call{X:Cx}{e:Expr}{es:List Expr}{pos p:Pos}{CX:CXT}{k:Nat}{fa:Addr}{fd:FuncData}{ps:List Str}{x:Str}{E:XK}{f:FM}{ms:List (M D)}(hk:X.K=G.K)(Fn:FnOk X.prog X.w X.K X.mg X.base CX k fa fd ps (spM G ps.length f))(hr:Room k X.A)(hg:Gl X x)(hm:X.mg x=some (.ref fa))(hkp:W.keepIn X.K (.ref fa)=true)(hb:z38 X.K fd ps [])(hx:z3g CX X E)
 (ha:SA X G F (e::es) (z09 ms)) (hln:ms.length=ps.length) (hdb:(x==("__debug__" :Str))=false:=by decide) (he:starEach (e::es) X.env=(false,eval e X.env)::starEach es X.env:=by rfl) (hpl:(backTo pos (starEach es X.env)).any (·.1)=false:=by rfl):
 SE X G F (.Call (.Name x p) (e::es) [] pos) (z07 f ms):=by
 refine PE.imp0 (z9L Fn hr hg hm hkp hb .nil hx ha hdb he hpl) fun σ H Q ⟨tv,hs,ρ,s,M,W⟩=>⟨tv,hs,ρ,s,M, ?_⟩
 unfold z07 bd at W
 cases e1:z09 ms s with
 |ex d s1=>rw[e1] at W;exact W
 |no=>rw[e1] at W;exact W
 |ok ts s1=>
  rw[e1] at W
  intro ρ1 vs H1 M1
  rw[List.append_nil]
  exact z7j (by rw[<-M1.rd.length,z7k ms s ts s1 e1,hln]) M1 W
noncomputable def runF(nl:Nat)(mb:MS):FM:=fun ts n=>match mb {σ:=ts.map some++List.replicate (nl -ts.length) none,tm:=ts.map some,n:=n} with
 | .nx s'=>match z0a s'.tm with|some ts'=> .ok .non ts' s'.n|none=> .no
 | .rt t s'=>match z0a s'.tm with|some ts'=> .ok t ts' s'.n|none=> .no
 | .ex d s'=>match z0a s'.tm with|some ts'=> .ex d ts' s'.n|none=> .no
 |_=> .no
noncomputable def z8x(G:Gx)(ρ:Nat->Addr)(n:Nat)(ts:List D)(vs:List V)(H:Hp)(lb: ∀l∈labsL ts,l<n)(dom: ∀l,l<n->∃o,H (ρ l)=some o):Fy where
 A0:=fun a=> ∃l∈labsL ts,a=ρ l
 H0:=H
 Z:=fun a=>(∃o,H a=some o)/\∀l,l<n->a≠ρ l
 zA:=fun a z=>⟨z.1,fun⟨l,hl,e⟩=>z.2 l (lb l hl) e⟩
 aH:=fun a ⟨l,hl,e⟩=>e▸dom l (lb l hl)
 n0:=n
 ρ0:=ρ
 tv0:=vs.map some
 xw:=fun _ _=>False
theorem RDs.sl: ∀{ts:List D} {vs:List V},RDs G ρ H ts vs->Sl G ρ H (ts.map some) (vs.map some)/\z06 (ts.map some)=labsL ts
 |[],vs,h=>by simp only[RDs] at h;subst h;simp[Sl,z06,labsL]
 |d::ds,vs,h=>by
  simp only[RDs] at h
  obtain⟨x,q,rfl,h1,h2⟩:=h
  obtain⟨q1,q2⟩:=RDs.sl h2
  refine⟨?_,by simp only[List.map_cons,z06,labsL,q2]⟩
  simp only[List.map_cons,Sl]
  exact⟨_,_,rfl,h1,q1⟩
theorem z5E{ts ts':List D}{vs:List V}{n:Nat}{lb: ∀l∈labsL ts,l<n}{dom: ∀l,l<n->∃o,H (ρ l)=some o}(inj: ∀i j,i<n->j<n->ρ i=ρ j->i=j)(M:MR G (z8x G ρ n ts vs H lb dom).toFx ρ' H' σv (vs.map some) s)(e:z0a s.tm=some ts'):
 z4o G ρ n ts vs H ρ' s.n ts' H'/\∀l,l<s.n->((z8x G ρ n ts vs H lb dom).A0 (ρ' l)\/H (ρ' l)=none)->l<n->l∈labsL ts:=by
 have own: ∀l,l<s.n->((z8x G ρ n ts vs H lb dom).A0 (ρ' l)\/H (ρ' l)=none)->l<n->l∈labsL ts:=fun l hl q hn=>by
  have ol:=M.bas.2 l hn
  have ol:ρ' l=ρ l:=ol
  rcases q with⟨j,hj,q⟩|q
  ·rw[ol] at q
   rw[inj l j hn (lb j hj) q];exact hj
  ·rw[ol] at q
   obtain⟨o,z⟩:=dom l hn
   rw[z] at q;cases q
 obtain⟨r1,r2⟩:=Sl.all M.tm e
 refine⟨⟨M.bas.2,M.bas.1,M.inj,M.dom,r1,fun l hl=> ?_,fun a o e1=> ?_,fun l h1 h2=> ?_,M.kd⟩,own⟩
 ·rw[r2] at hl
  have m:l∈z0E s:=List.mem_append_right _ hl
  exact⟨M.lab l m,own l (M.lab l m) (M.own l m)⟩
 ·obtain⟨q1,q2⟩:=M.frm a o e1
  exact⟨q1,fun z=>q2 fun⟨l,hl,e⟩=>z l hl e⟩
 ·cases q:H (ρ' l) with
  |none=>rfl
  |some o=>
   refine absurd ⟨⟨o,q⟩,fun j hj e=> ?_⟩ (M.frb l h2)
   have oj:ρ' j=ρ j:=M.bas.2 j hj
   have:=M.inj l j h2 (Nat.lt_of_lt_of_le hj M.bas.1) (e.trans oj.symm)
   lia
theorem fn_M{P:Program}{w:World}{K:W.Frag}{mg:Str->Option Value}{base:Heap}{x qual:Str}{st:Stmt}{fa:Addr}{fd:FuncData}{N ps:List Str}{k:Nat}{mb:MS}(Fn:Fun K x qual st fa fd)(S:z0p N ps (z03 st))(hG:G.K=K)
 (hb: ∀(cdv:Value) (A:Around) (outer:List Env) (s:Shared) (H:Hp) (E:XK) (F:Fy),Room k (A.deeper (envOfC qual (z03 st) s.heap.objs.size fa cdv))->SSs (cxOf CX0 P w K mg base N qual (z03 st) fa cdv A outer s H E).nox G F (z0S st) mb):
 FnOk P w K mg base CX0 (k+1) fa fd ps (spM G ps.length (runF N.length mb)):=by
 refine Fn.ok S (fun vs H Q E h=>h.1) fun cdv A outer s H vs Q E hr h=> ?_
 obtain⟨hl,ρ,n,ts,r,inj,dom,lb,kd,W⟩:=h
 refine⟨_,hb cdv A outer s H E (z8x G ρ n ts vs H lb dom) hr,vs.map some,List.suffix_refl _,ρ,{σ:=ts.map some++List.replicate (N.length -ts.length) none,tm:=ts.map some,n:=n}, ?_, ?_⟩
 ·obtain⟨r1,r2⟩:=RDs.sl r
  have hlen:=r.length
  have sub: ∀l∈z0E {σ:=ts.map some++List.replicate (N.length -ts.length) none,tm:=ts.map some,n:=n},l∈labsL ts:=fun l h=>by
   rcases List.mem_append.mp h with h|h
   ·have h:l∈z06 (ts.map some++List.replicate (N.length -ts.length) none):=h
    rw[z0g] at h
    rcases List.mem_append.mp h with h|h
    ·rw[<-r2];exact h
    ·exact absurd h (z2E _)
   ·rw[<-r2];exact h
  refine⟨?_,r1,inj,dom,fun l h=>lb l (sub l h),fun l h=> .inl ⟨l,sub l h,rfl⟩,fun a o e=>⟨⟨o,e⟩,fun _=>e⟩,kd,fun l hl z=>z.2 l hl rfl,⟨Nat.le_refl _,fun l _=>rfl⟩⟩
  show Sl G ρ H _ (vs.map some++List.replicate (N.length -vs.length) none)
  rw[<-hlen]
  exact r1.append (Sl.none_map _)
 ·unfold runF at W
  cases e:mb {σ:=ts.map some++List.replicate (N.length -ts.length) none,tm:=ts.map some,n:=n} with
  |nx s'=>
   simp only[e] at W
   cases ea:z0a s'.tm with
   |none=>simp only[ea] at W
   |some ts'=>
    simp only[ea] at W
    intro ρ' σv' H' M
    obtain⟨P,_⟩:=z5E inj M ea
    exact W ρ' .non H' P (by simp only[RD]) fun l h=>by simp[labs] at h
  |rt t s'=>
   simp only[e] at W
   cases ea:z0a s'.tm with
   |none=>simp only[ea] at W
   |some ts'=>
    simp only[ea] at W
    intro ρ' σv' v H' M
    obtain⟨P,own⟩:=z5E inj M.m ea
    exact W ρ' v H' P M.rd1 fun l h=>⟨(M.lb1 l h).1,own l (M.lb1 l h).1 (M.lb1 l h).2⟩
  |bk s'=>simp only[e] at W
  |ct s'=>simp only[e] at W
  |ex d s'=>
   simp only[e] at W
   cases ea:z0a s'.tm with
   |none=>simp only[ea] at W
   |some ts'=>simp only[ea] at W
  |no=>simp only[e] at W
end
mutual
noncomputable def sz:D->Nat
 | .tup ds=>szL ds+1
 | .ro ds=>szL ds+1
 | .fdc _ vs=>szL vs+1
 | .lst _ ds=>szL ds+1
 | .dct _ _ vs=>szL vs+1
 | .obj _ _ _ vs=>szL vs+1
 | .non=>1| .bool _=>1| .int _=>1| .str _=>1| .exc _=>1| .fn _=>1
noncomputable def szL:List D->Nat
 |[]=>0
 |d::ds=>sz d+szL ds
end
mutual
theorem z8y(l:Nat): ∀(t d:D),z0n l t=some d->sz d<=sz t
 | .non,d,e=>by simp only[z0n] at e;cases e
 | .bool b,d,e=>by simp only[z0n] at e;cases e
 | .int b,d,e=>by simp only[z0n] at e;cases e
 | .str b,d,e=>by simp only[z0n] at e;cases e
 | .exc b,d,e=>by simp only[z0n] at e;cases e
 | .fn b,d,e=>by simp only[z0n] at e;cases e
 | .tup ds,d,e=>by simp only[z0n,sz] at e⊢;have:=findL_sz l ds d e;lia
 | .ro ds,d,e=>by simp only[z0n,sz] at e⊢;have:=findL_sz l ds d e;lia
 | .fdc ks vs,d,e=>by simp only[z0n,sz] at e⊢;have:=findL_sz l vs d e;lia
 | .lst k ds,d,e=>by
  simp only[z0n] at e
  by_cases h:k=l
  ·rw[if_pos h] at e;cases e;exact Nat.le_refl _
  ·rw[if_neg h] at e;simp only[sz];have:=findL_sz l ds d e;lia
 | .dct k ks vs,d,e=>by
  simp only[z0n] at e
  by_cases h:k=l
  ·rw[if_pos h] at e;cases e;exact Nat.le_refl _
  ·rw[if_neg h] at e;simp only[sz];have:=findL_sz l vs d e;lia
 | .obj k c ns vs,d,e=>by
  simp only[z0n] at e
  by_cases h:k=l
  ·rw[if_pos h] at e;cases e;exact Nat.le_refl _
  ·rw[if_neg h] at e;simp only[sz];have:=findL_sz l vs d e;lia
theorem findL_sz(l:Nat): ∀(t:List D) (d:D),findL l t=some d->sz d<=szL t
 |[],d,e=>by simp only[findL] at e;cases e
 |t::ts,d,e=>by
  simp only[findL] at e
  simp only[szL]
  cases e1:z0n l t with
  |some y=>rw[e1] at e;cases e;have:=z8y l t _ e1;lia
  |none=>rw[e1] at e;have:=findL_sz l ts d e;lia
end
section
variable{G:Gx}{F:Fy}{ρ:Nat->Addr}{H:Hp}{σv tv:List (Option V)}{s:Stt}{t:D}{ts ds es:List D}{v:V}{vs xs ys:List V}{l:Nat}{Q:VK}
theorem z7l(M:MR G F.toFx ρ H σv tv s)(h:RD G ρ H (.lst l ds) v)(lb: ∀j∈labs (.lst l ds),j<s.n):l∉labsL ds:=fun hl=>by
 have h0:=h
 simp only[RD] at h0
 obtain⟨rfl,xs,q,r⟩:=h0
 have:=findL_some l ds xs r hl
 cases e:findL l ds with
 |none=>rw[e] at this;cases this
 |some d=>
  obtain⟨q1,q2⟩:=findL_rd l ds xs d r e
  have e2:=RD.uniq M.kd M.inj _ _ _ q1 h (fun j hj=>lb j (by simp only[labs];exact List.mem_cons_of_mem _ (q2 j hj))) lb
  have e3:=findL_sz l ds d e
  rw[e2] at e3
  simp only[sz] at e3
  lia
theorem MR.put2{o:HO}{d:D}(M:MR G F.toFx ρ H σv tv s)(ln:l<s.n)(ow:F.A0 (ρ l)\/F.H0 (ρ l)=none)(ts:z0L H (upd H (ρ l) o))(k:KD G.K (upd H (ρ l) o))(hd:RD G ρ (upd H (ρ l) o) d (.ref (ρ l)))(hb:LB F.toFx ρ s.n (labs d)):
 MR G F.toFx ρ (upd H (ρ l) o) σv tv (s.put l d):=by
 have step: ∀k,k∈z0E s->ρ k=ρ k/\(match (if k=l then some d else none:Option D) with|some d=>RD G ρ (upd H (ρ l) o) d (.ref (ρ k))|none=> ∀o',H (ρ k)=some o'->upd H (ρ l) o (ρ k)=some o'):=fun k hk=>by
  refine⟨rfl, ?_⟩
  by_cases e:k=l
  ·rw[if_pos e];subst e;exact hd
  ·rw[if_neg e]
   intro o' q
   rw[z02 (fun z=>e (M.inj k l (M.lab k hk) ln z))]
   exact q
 have sub: ∀(xs:List (Option D)) (j:Nat),j∈z06 (rpO (fun k=>if k=l then some d else none) xs)->(∀i∈z06 xs,i∈z0E s)->j<s.n/\(F.A0 (ρ j)\/F.H0 (ρ j)=none):=fun xs j h hx=>by
  rcases z2j j xs h with q|⟨k,d',q1,q2,q3⟩
  ·exact⟨M.lab j (hx j q),M.own j (hx j q)⟩
  ·by_cases e:k=l
   ·rw[if_pos e] at q2;cases q2;exact hb j q3
   ·rw[if_neg e] at q2;cases q2
 have all: ∀j∈z0E (s.put l d),j<s.n/\(F.A0 (ρ j)\/F.H0 (ρ j)=none):=fun j h=>by
  rcases List.mem_append.mp h with h|h
  ·exact sub s.σ j h fun i hi=>List.mem_append_left _ hi
  ·exact sub s.tm j h fun i hi=>List.mem_append_right _ hi
 refine⟨Sl.rp ts M.sl fun k hk=>step k (List.mem_append_left _ hk),Sl.rp ts M.tm fun k hk=>step k (List.mem_append_right _ hk),M.inj,fun k hk=> ?_,fun j h=>(all j h).1,fun j h=>(all j h).2,fun a o' e=> ?_,k,M.frb,M.bas⟩
 ·by_cases e:ρ k=ρ l
  ·rw[e];exact⟨o,z04⟩
  ·rw[z02 e];exact M.dom k hk
 ·obtain⟨⟨o1,e1⟩,e2⟩:=M.frm a o' e
  by_cases ea:a=ρ l
  ·subst ea
   refine⟨⟨o,z04⟩,fun n=> ?_⟩
   rcases ow with q|q
   ·exact absurd q n
   ·rw[e] at q;cases q
  ·rw[z02 ea]
   exact⟨⟨o1,e1⟩,e2⟩
theorem z5F{o o':HO}{a:Addr}(k:KD G.K H)(e:H a=some o):KD G.K (upd H a o'):=fun b ob q=>by
 by_cases h:b=a
 ·subst h;rw[k _ _ q] at e;cases e
 ·rw[z02 h];exact k _ _ q
theorem z4p{o':HO}{a:Addr}{xs:List V}(e:H a=some (.lst xs)):z0L H (upd H a o'):=
 ⟨fun b ys q=>by rw[z02 (z2f q e (by intro z;cases z))];exact q,fun b o u q=>by rw[z02 (z2f q e (by intro z;cases z))];exact q⟩
theorem RDs.upd{o:HO}{a:Addr}(st:z0L H (upd H (ρ l) o))(inj: ∀i j,i<s.n->j<s.n->ρ i=ρ j->i=j)(ln:l<s.n)(r:RDs G ρ H ds xs)(lb: ∀j∈labsL ds,j<s.n/\j≠l):RDs G ρ (L2.upd H (ρ l) o) ds xs:=
 RDs.stay st ds xs r fun j hj=>⟨rfl,fun o' e=>by rw[z02 (fun z=>(lb j hj).2 (inj j l (lb j hj).1 ln z))];exact e⟩
theorem MR.putL(M:MR G F.toFx ρ H σv tv s)(hl:H (ρ l)=some (.lst xs))(ln:l<s.n)(ow:F.A0 (ρ l)\/F.H0 (ρ l)=none)(r:RDs G ρ H es ys)(lb:LB F.toFx ρ s.n (labsL es))(ne:l∉labsL es):
 MR G F.toFx ρ (upd H (ρ l) (.lst ys)) σv tv (s.put l (.lst l es)):=by
 refine M.put2 ln ow (z4p hl) (z5F M.kd hl) ?_ fun j hj=> ?_
 ·simp only[RD]
  exact⟨trivial,ys,z04,RDs.upd (a:=0) (z4p hl) M.inj ln r fun j hj=>⟨(lb j hj).1,fun z=>ne (z▸hj)⟩⟩
 ·simp only[labs] at hj
  rcases List.mem_cons.mp hj with q|q
  ·rw[q];exact⟨ln,ow⟩
  ·exact lb j q
end
noncomputable def appD:D->List D->M D
 | .lst l ds,[y]=>fun s=>if ds.length<sizeLine/\l∉labs y then .ok .non (s.put l (.lst l (ds++[y]))) else .no
 |_,_=>fl
noncomputable def isL(x:D):M Unit:=fun s=>match lstD x with|some _=> .ok () s|none=> .no
noncomputable def z2G(mo:M D)(ms:List (M D))(g:D->List D->M D):M D:=bd mo fun x=>bd (isL x) fun _=>bd (psh x) fun _=>bd (z09 ms) fun ys=>bd pop fun x'=>g x' ys
section
variable{X:Cx}{G:Gx}{F:Fy}{e o:Expr}{es:List Expr}{apos cpos:Pos}
noncomputable def MtOK(G:Gx)(F:Fy)(r:V->List V->Hp->VK->Prop)(g:D->List D->M D):Prop:= ∀ρ s t ts v vs H σv tv Q,MRL G F.toFx ρ H σv tv s (t::ts) (v::vs)->wM G F σv tv (g t ts s) Q->r v vs H (fun w H'=>KD G.K H'->Q w H')
theorem MRL.hd{ρ:Nat->Addr}{H:Hp}{σv tv:List (Option V)}{s:Stt}{t:D}{ts:List D}{v:V}{vs:List V}(M:MRL G F.toFx ρ H σv tv s (t::ts) (v::vs)):RD G ρ H t v/\RDs G ρ H ts vs/\LB F.toFx ρ s.n (labs t)/\LB F.toFx ρ s.n (labsL ts):=by
 have h:=M.rd
 simp only[RDs] at h
 obtain⟨_,_,e,h1,h2⟩:=h
 cases e
 exact⟨h1,h2,fun l h=>M.lb l (by simp only[labsL];exact List.mem_append_left _ h),fun l h=>M.lb l (by simp only[labsL];exact List.mem_append_right _ h)⟩
theorem zcl:MtOK G F z6P appD:=by
 intro ρ s t ts v vs H σv tv Q M W
 obtain⟨h1,h2,b1,b2⟩:=M.hd
 unfold appD at W
 split at W
 ·rename_i l ds y
  split at W
  ·rename_i hc
   have h1':=h1
   simp only[RD] at h1
   obtain⟨rfl,xs,hx,r⟩:=h1
   simp only[RDs] at h2
   obtain⟨u,q,rfl,h2,rfl⟩:=h2
   have ns:=z7l M.m h1' fun j hj=>(b1 j hj).1
   have bl:=b1 l (by simp only[labs];exact List.mem_cons_self ..)
   refine⟨_,xs,u,rfl,rfl,hx,by rw[<-r.length];exact hc.1,fun _=>W.out (M.m.putL hx bl.1 bl.2 (r.append (RDs.one h2)) ?_ ?_) (by simp only[RD]) fun l h=>by simp[labs] at h⟩
   ·intro j hj
    rw[z0u] at hj
    rcases List.mem_append.mp hj with q|q
    ·exact b1 j (by simp only[labs];exact List.mem_cons_of_mem _ q)
    ·exact b2 j q
   ·intro hj
    rw[z0u] at hj
    rcases List.mem_append.mp hj with q|q
    ·exact ns q
    ·simp only[labsL,List.append_nil] at q;exact hc.2 q
  ·exact False.elim W
 ·exact wfl W
theorem z8z{T:String}{mo:M D}{ms:List (M D)}{g:D->List D->M D}{r:V->List V->Hp->VK->Prop}{σ:L2.St}{H:Hp}{Q:VK}(hT:T= "list")(hg:MtOK G F r g)(h:tM G F (z2G mo ms g) σ H Q):
 tM G F mo σ H fun x H1=>tyV G.K T x H1/\tML G F (z09 ms) σ H1 fun xs H2=>r x xs H2 fun w H'=>KD G.K H'->Q w H':=by
 obtain⟨tv,h⟩:=h
 have hs:=h.1
 refine⟨tv,(z74 h).mono fun v H1 ⟨ρ1,s1,t,M1,W⟩=> ?_⟩
 simp only[bd,isL] at W
 cases e1:lstD t with
 |none=>simp only[e1] at W;exact False.elim W
 |some ds=>
  simp only[e1,psh] at W
  obtain⟨a,xs,rfl,sq,_⟩:=M1.rd1.lstq e1
  refine⟨.inl ⟨hT,xs,sq⟩,some (.ref a)::tv,suf1 hs,ρ1,s1.psh t,M1.push, ?_⟩
  cases e2:z09 ms (s1.psh t) with
  |ex d s2=>simp only[e2] at W;exact W
  |no=>simp only[e2] at W;exact W
  |ok ys s2=>
   simp only[e2,pop] at W
   intro ρ2 us H2 M2
   cases e3:s2.tm with
   |nil=>simp only[e3] at W;exact False.elim W
   |cons o r=>
    cases o with
    |none=>simp only[e3] at W;exact False.elim W
    |some t'=>
     simp only[e3] at W
     exact hg _ _ _ _ _ _ _ _ _ _ (M2.down e3) W
theorem zah{name:Str}{id:String}{r:V->List V->Hp->VK->Prop}{mo:M D}{ms:List (M D)}{g:D->List D->M D}(hk:X.K=G.K)(slot:Slot "list" name id)(hty:typeOf (.builtin id)=pure (.type "method_descriptor"))(hm:MtR X id r)(hg:MtOK G F r g)(ho:SE X G F o mo)(ha:SA X G F (e::es) (z09 ms))
 (hbase:attributeBase o name X.env (eval o X.env)=eval o X.env:=by rfl)
 (hfew:((backTo cpos (starEach (e::es) X.env)).all (fun x=> !x.1)&&(backToKw cpos (keywordEach [] X.env)).all (fun x=>x.1.isSome)
  &&decide ((e::es).length+([]:List Keyword).length+(if([]:List Keyword).isEmpty then 0 else 1)<30))=true:=by rfl)
 (hline:(apos.endLine==cpos.line)=true:=by rfl) (hs:starEach (e::es) X.env=(false,eval e X.env)::starEach es X.env:=by rfl) (hplain:(backTo cpos (starEach es X.env)).any (·.1)=false:=by rfl):SE X G F (.Call (.Attribute o name apos) (e::es) [] cpos) (z2G mo ms g):=by
 refine PE.imp hk (zdN PySem.F.plainAttrs_list slot hty hm ho ha hbase hfew hline hs hplain) fun σ H Q h=> ?_
 rw[hk]
 exact z8z rfl hg h
noncomputable def setD(o i v:D):MS:=fun s=>match o,i with
 | .lst l ds, .int k=>match ixN ds.length k with
  |some j=>if l∉labs v then .nx (s.put l (.lst l (ds.set j v))) else .no
  |none=> .no
 |_,_=> .no
noncomputable def mTri(me mo mi:M D)(g:D->D->D->MS):MS:=lift me fun v=>lift (psh v) fun _=>lift mo fun o=>lift (psh o) fun _=>lift mi fun i=>lift pop fun o'=>lift pop fun v'=>g o' i v'
theorem z8A{mo mi:M D}{g:D->D->D->MS}{tv:List (Option V)}{Dd:Ends}{σ:L2.St}{H1:Hp}{ρ1:Nat->Addr}{s1:Stt}{t:D}{v:V}(hs:F.tv0<:+tv)(M1:MRL G F.toFx ρ1 H1 σ tv s1 [t] [v])
 (W:wS G F tv ((lift (psh t) fun _=>lift mo fun o=>lift (psh o) fun _=>lift mi fun i=>lift pop fun o'=>lift pop fun v'=>g o' i v') s1) Dd):
 tM G F mo σ H1 fun o H2=>tM G F mi σ H2 fun i H3=> ∃ρ s t1 t2 t3,MRL G F.toFx ρ H3 σ tv s [t1,t2,t3] [v,o,i]/\wS G F tv (g t2 t3 t1 s) Dd:=by
 refine⟨some v::tv,suf1 hs,ρ1,s1.psh t,M1.push, ?_⟩
 simp only[lift,psh] at W
 cases e1:mo (s1.psh t) with
 |ex d s2=>simp only[e1] at W;exact W
 |no=>simp only[e1] at W;exact W
 |ok o s2=>
  simp only[e1] at W
  intro ρ2 u H2 M2
  refine⟨some u::some v::tv,suf1 (suf1 hs),ρ2,s2.psh o,M2.push, ?_⟩
  cases e2:mi (s2.psh o) with
  |ex d s3=>simp only[e2] at W;exact W
  |no=>simp only[e2] at W;exact W
  |ok i s3=>
   simp only[e2,pop] at W
   intro ρ3 w H3 M3
   cases e3:s3.tm with
   |nil=>simp only[e3] at W;exact False.elim W
   |cons o3 r3=>
    cases o3 with
    |none=>simp only[e3] at W;exact False.elim W
    |some x3=>
     simp only[e3] at W
     cases r3 with
     |nil=>exact False.elim W
     |cons o4 r4=>
      cases o4 with
      |none=>exact False.elim W
      |some x4=>
       have M4:=M3.down e3
       have M5:=M4.down (s':={s3 with tm:=some x4::r4}) rfl
       exact⟨ρ3,_,x4,x3,i,M5,W⟩
theorem z7m{me mo mi:M D}{g:D->D->D->MS}{tv:List (Option V)}{Dd:Ends}{σ:L2.St}{H:Hp}(h:tSv G F (mTri me mo mi g) tv Dd σ H):
 tM G F me σ H fun v H1=>tM G F mo σ H1 fun o H2=>tM G F mi σ H2 fun i H3=> ∃ρ s t1 t2 t3,MRL G F.toFx ρ H3 σ tv s [t1,t2,t3] [v,o,i]/\wS G F tv (g t2 t3 t1 s) Dd:=
 ⟨tv,(z2l h).mono fun v H1 ⟨ρ1,s1,t,M1,W⟩=>z8A h.1 M1 W⟩
theorem zcm{ρ:Nat->Addr}{s:Stt}{t1 t2 t3:D}{v o i:V}{H:Hp}{σv tv:List (Option V)}{Dd:Ends}(M:MRL G F.toFx ρ H σv tv s [t1,t2,t3] [v,o,i])(W:wS G F tv (setD t2 t3 t1 s) Dd):z8e o i v H fun H'=>Dd.nx σv H':=by
 have h:=M.rd
 simp only[RDs] at h
 obtain⟨_,_,e,h1,_,_,e2,h2,_,_,e3,h3,_⟩:=h
 cases e;cases e2;cases e3
 have b1:LB F.toFx ρ s.n (labs t1):=fun l h=>M.lb l (by simp only[labsL];exact List.mem_append_left _ h)
 have b2:LB F.toFx ρ s.n (labs t2):=fun l h=>M.lb l (by simp only[labsL];exact List.mem_append_right _ (List.mem_append_left _ h))
 cases t2 with
 |lst l ds=>
  cases t3 with
  |int k=>
   simp only[setD] at W
   cases ek:ixN ds.length k with
   |none=>simp only[ek] at W;exact False.elim W
   |some j=>
    simp only[ek] at W
    by_cases hc:l∉labs t1
    ·rw[if_pos hc] at W
     have h2':=h2
     simp only[RD] at h2 h3
     obtain⟨rfl,xs,hx,r⟩:=h2
     subst h3
     have ns:=z7l M.m h2' fun j hj=>(b2 j hj).1
     have bl:=b2 l (by simp only[labs];exact List.mem_cons_self ..)
     have mm: ∀q,q∈labsL (ds.set j t1)->q∈labsL ds\/q∈labs t1:=fun q hq=>by
      obtain⟨d,h1,h2⟩:=z0Q hq
      rcases List.mem_or_eq_of_mem_set h1 with z|z
      ·exact .inl (labsL_mem z q h2)
      ·subst z;exact .inr h2
     refine⟨_,xs,k,j,rfl,rfl,hx,by rw[<-r.length];exact ek,W ρ σv _ (M.m.putL hx bl.1 bl.2 (r.set j h1) (fun q hq=> ?_) fun hq=> ?_)⟩
     ·rcases mm q hq with z|z
      ·exact b2 q (by simp only[labs];exact List.mem_cons_of_mem _ z)
      ·exact b1 q z
     ·rcases mm l hq with z|z
      ·exact ns z
      ·exact hc z
    ·rw[if_neg hc] at W;exact False.elim W
  |_=>exact False.elim W
 |_=>exact False.elim W
theorem ss_setI{ob ix:Expr}{pos tpos:Pos}{mo mi me:M D}(he:SE X G F e me)(ho:SE X G F ob mo)(hi:SE X G F ix mi)(hg: ∀{to ti:TE},PE X ob to->PE X ix ti->PG X (.Subscript ob ix tpos) (gSub to ti z8e))(hs:swapsWithSole [.Subscript ob ix tpos] e pos.line X.env=pure false:=by rfl)(hw:swappedStores [.Subscript ob ix tpos] e X.env=pure none:=by rfl)
 (h1:(assignEach [.Subscript ob ix tpos] X.env).map (·.2)=[assign (.Subscript ob ix tpos) X.env]:=by rfl):SS X G F (.Assign [.Subscript ob ix tpos] e pos) (mTri me mo mi setD):=by
 refine PS.imp0 (zbk he (hg ho hi) hs hw h1) fun Dd σ H ⟨tv,h⟩=> ?_
 exact(z7m h).mono fun v H1 h1=>h1.mono fun o H2 h2=>h2.mono fun i H3 ⟨ρ,s,t1,t2,t3,M,W⟩=>zcm M W
end
end Mi
namespace Mi
open PySem L2
section
variable{X:Cx}{G:Gx}{F:Fy}{e a b c:Expr}{pos:Pos}{ma mb mc m:M D}
theorem se_add(hk:X.K=G.K)(ha:SE X G F a ma)(hb:SE X G F b mb):SE X G F (.BinOp a .Add b pos) (mBin ma mb addD):=
 z6b hk (r:=fun x y H Q=>rI0 (fun i j=> .int (i+j)) x y H Q\/za3 G.K x y H Q\/rCat x y H Q\/∃i j,x= .str i/\y= .str j/\i.length+j.length<=sizeLine/\Q (.str (i++j)) H) (hk▸OpR.or zbn (OpR.or za4 (OpR.or zbA z5Y))) zbZ ha hb
theorem se_sub(hk:X.K=G.K)(ha:SE X G F a ma)(hb:SE X G F b mb):SE X G F (.BinOp a .Sub b pos) (mBin ma mb subD):=z6b hk zbo zc0 ha hb
theorem se_mul(hk:X.K=G.K)(ha:SE X G F a ma)(hb:SE X G F b mb):SE X G F (.BinOp a .Mult b pos) (mBin ma mb mulD):=z6b hk (r:=fun x y H Q=>rI CMul (fun i j=> .int (i*j)) x y H Q\/(rRep x y H Q\/za5 G.K x y H Q)) (OpR.or zbp (OpR.or zbB (hk▸za6))) zc5 ha hb
theorem se_fdiv(hk:X.K=G.K)(ha:SE X G F a ma)(hb:SE X G F b mb):SE X G F (.BinOp a .FloorDiv b pos) (mBin ma mb z4k):=z6b hk z9H zaa ha hb
theorem se_mod(hk:X.K=G.K)(ha:SE X G F a ma)(hb:SE X G F b mb):SE X G F (.BinOp a .Mod b pos) (mBin ma mb modD):=z6b hk zbq zc1 ha hb
theorem se_pow(hk:X.K=G.K)(ha:SE X G F a ma)(hb:SE X G F b mb):SE X G F (.BinOp a .Pow b pos) (mBin ma mb powD):=z6b hk zbr zc2 ha hb
theorem se_neg(hk:X.K=G.K)(ha:SE X G F a ma):SE X G F (.UnaryOp .USub a pos) (bd ma negD):=zdY hk z90 zc4 ha
structure Cm(X:Cx)(G:Gx)(F:Fy)(op:CmpOp)(g:D->D->M D):Prop where
 h: ∃r,OpR X (compareOp op) r/\z3D G F r g
theorem zai:Cm X G F .Lt ltD:=⟨_,zdF,ze0⟩
theorem ze7:Cm X G F .Gt gtD:=⟨_,zdG,ze1⟩
theorem z8B(hk:X.K=G.K)(hu:X.A.units+64<cLine):Cm X G F .Eq eqD:=⟨_,hk▸zbS hu,ze2⟩
theorem zaj(hk:X.K=G.K)(hu:X.A.units+64<cLine):Cm X G F .NotEq neD:=⟨_,hk▸zbT hu,ze3⟩
theorem se_cmp{op:CmpOp}{g:D->D->M D}(hc:Cm X G F op g)(ha:SE X G F a ma)(hb:SE X G F b mb)(hm:behindInMarks op b=false):SE X G F (.Compare a [op] [b] pos) (mBin ma mb g):=by
 obtain⟨r,h1,h2⟩:=hc.h
 exact za8 h1 h2 ha hb hm
theorem sb_cmp{op:CmpOp}{g:D->D->M D}(hc:Cm X G F op g)(ha:SE X G F a ma)(hb:SE X G F b mb)(hm:behindInMarks op b=false):SB X G F (.Compare a [op] [b] pos) (mBoo (mBin ma mb g)):=by
 obtain⟨r,h1,h2⟩:=hc.h
 exact zad h1 h2 ha hb hm
theorem se_idx(hk:X.K=G.K)(ha:SE X G F a ma)(hb:SE X G F b mb)(hs:z1l b):SE X G F (.Subscript a b pos) (mBin ma mb ixD):=zdZ hk (hk▸IxR.or z9Q zby) ze4 ha hb hs
structure Cb(X:Cx)(G:Gx)(F:Fy)(f:Value)(g:List D->M D):Prop where
 h: ∃r,CallR X f r/\z0V G F r g
theorem zcn(hk:X.K=G.K):Cb X G F (.builtin "len") lenD:=⟨_,hk▸z4b,zca⟩
theorem zco:Cb X G F (.builtin "abs") absD:=⟨_,z8a,zcb⟩
theorem z7n(hc:X.calm=true):Cb X G F (.builtin "min") minD:=⟨_,z6H hc,zcc⟩
theorem zcp(hc:X.calm=true):Cb X G F (.builtin "max") maxD:=⟨_,z6G hc,zcd⟩
theorem z9b(hk:X.K=G.K)(hd:X.A.handled=none):Cb X G F (.builtin "all") allD:=⟨_,hk▸z6Z hd,zce⟩
theorem z9c:Cb X G F (.type "int") intD:=⟨_,z6I,zcf⟩
theorem z3H(hk:X.K=G.K):Cb X G F (.type "tuple") tupF:=⟨_,hk▸z71,zaf⟩
theorem zak(hk:X.K=G.K):Cb X G F (.type "list") z6c:=⟨_,hk▸z4c,z8q⟩
theorem se_cb{x:Str}{p:Pos}{es:List Expr}{ms:List (M D)}{g:List D->M D}{id:String}(hk:X.K=G.K)(hc:Cb X G F (.builtin id) g)(hgl:Gl X x)(hm:X.mg x=none)(hv:bootBuiltins x=some (.builtin id))(ha:SA X G F (e::es) (z09 ms))(hn:x≠ "__name__" :=by decide)(hdb:(x==("__debug__" :Str))=false:=by decide)
 (he:starEach (e::es) X.env=(false,eval e X.env)::starEach es X.env:=by rfl) (hpl:(backTo pos (starEach es X.env)).any (·.1)=false:=by rfl):SE X G F (.Call (.Name x p) (e::es) [] pos) (mCB ms g):=by
 obtain⟨r,h1,h2⟩:=hc.h
 exact z8n hk h1 h2 hgl hm hv ha hn hdb he hpl
theorem se_ct{x:Str}{p:Pos}{es:List Expr}{ms:List (M D)}{g:List D->M D}{T:String}(hk:X.K=G.K)(hc:Cb X G F (.type T) g)(hgl:Gl X x)(hm:X.mg x=none)(hv:bootBuiltins x=some (.type T))(ha:SA X G F (e::es) (z09 ms))(hn:x≠ "__name__" :=by decide)(hdb:(x==("__debug__" :Str))=false:=by decide)
 (he:starEach (e::es) X.env=(false,eval e X.env)::starEach es X.env:=by rfl) (hpl:(backTo pos (starEach es X.env)).any (·.1)=false:=by rfl):SE X G F (.Call (.Name x p) (e::es) [] pos) (mCB ms g):=by
 obtain⟨r,h1,h2⟩:=hc.h
 exact z78 hk h1 h2 hgl hm hv ha hn hdb he hpl
structure Cl(X:Cx)(G:Gx)(F:Fy)(id:String)(g:D->List D->M D):Prop where
 h: ∃r,MtR X id r/\MtOK G F r g
theorem z2H:Cl X G F "list.append" appD:=⟨_,z4d,zcl⟩
end
end Mi
namespace Mi
open PySem L2 PySem.Spec PyProof.Rows
end Mi
namespace Mi
open PySem L2
noncomputable def G0(K:W.Frag):Gx:=⟨K,fun _=>none,fun _ _ _ h=>(by cases h),fun _ _ h=>(by cases h)⟩
section
variable{X:Cx}{G:Gx}{F:Fy}{e o:Expr}{es:List Expr}{apos cpos:Pos}
theorem se_cl{name:Str}{id:String}{mo:M D}{ms:List (M D)}{g:D->List D->M D}(hk:X.K=G.K)(slot:Slot "list" name id)(hty:typeOf (.builtin id)=pure (.type "method_descriptor"))(hm:Cl X G F id g)(ho:SE X G F o mo)(ha:SA X G F (e::es) (z09 ms))
 (hbase:attributeBase o name X.env (eval o X.env)=eval o X.env:=by rfl)
 (hfew:((backTo cpos (starEach (e::es) X.env)).all (fun x=> !x.1)&&(backToKw cpos (keywordEach [] X.env)).all (fun x=>x.1.isSome)
  &&decide ((e::es).length+([]:List Keyword).length+(if([]:List Keyword).isEmpty then 0 else 1)<30))=true:=by rfl)
 (hline:(apos.endLine==cpos.line)=true:=by rfl) (hs:starEach (e::es) X.env=(false,eval e X.env)::starEach es X.env:=by rfl) (hplain:(backTo cpos (starEach es X.env)).any (·.1)=false:=by rfl):SE X G F (.Call (.Attribute o name apos) (e::es) [] cpos) (z2G mo ms g):=by
 obtain⟨r,h1,h2⟩:=hm.h
 exact zah hk slot hty h1 h2 ho ha hbase hfew hline hs hplain
end
inductive SEs(X:Cx)(G:Gx)(F:Fy):List Expr->List (M D)->Prop
 |nil:SEs X G F [] []
 |cons {e:Expr} {m:M D} {es:List Expr} {ms:List (M D)}:SE X G F e m->nst e=true->SEs X G F es ms->SEs X G F (e::es) (m::ms)
theorem sa_of{X:Cx}{G:Gx}{F:Fy}{es:List Expr}{ms:List (M D)}(hk:X.K=G.K)(h:SEs X G F es ms):SA X G F es (z09 ms):=by
 induction h with
 |nil=>exact zbY hk
 |cons h1 h2 _ ih=>exact za9 hk h1 ih h2
section
variable{X:Cx}{G:Gx}{F:Fy}{a b tg:Expr}{pos:Pos}
noncomputable def zcq(i:Nat):List (Option D)->Option (Option D)
 |some c::_=>(lstD c).map fun ds=>(ds[i]?).map fun d=> .tup [.int i,d]
 |_=>none
noncomputable def kEnm:ItK:=⟨1,zcq,z4n⟩
theorem z5G{a:Addr}:ItOK G (Ite G.K a) kEnm [some (.ref a)]:=by
 intro F ρ H σv tvp tv s i M
 dsimp only[kEnm]
 cases e:s.tm.drop tvp.length with
 |nil=>trivial
 |cons o r=>
  cases o with
  |none=>trivial
  |some c=>
   simp only[zcq]
   obtain⟨h,lb⟩:=MR.head (s:=s.popn tvp.length) M.popn e
   cases e1:lstD c with
   |none=>trivial
   |some ds=>
    simp only[Option.map_some]
    obtain⟨a',xs,ea,sq,rr,sub⟩:=h.lstq e1
    cases ea
    cases e2:ds[i]? with
    |none=>
     simp only[Option.map_none]
     refine⟨xs,sq, ?_⟩
     rw[<-rr.length]
     exact List.getElem?_eq_none_iff.mp e2
    |some d=>
     simp only[Option.map_some]
     obtain⟨x,ex,rx⟩:=rr.get i d e2
     refine⟨⟨xs,x,sq,ex⟩, ?_⟩
     rintro x' H' ⟨p,y,hp,rfl,rfl,hx,kd⟩
     rw[hx xs sq] at ex
     cases ex
     have sm:=Same.new (.tup [.int i,x]) hp
     refine⟨M.same sm kd,RDs.one ?_,fun l hl=>lb l (sub l (labsL_mem (List.mem_of_getElem? e2) l (by simpa only[labsL,labs,List.append_nil,List.nil_append] using hl)))⟩
     simp only[RD]
     refine⟨p,_,rfl,z04, ?_⟩
     have r1:=(RDs.one rx).same sm
     simp only[RDs] at r1⊢
     obtain⟨x,r,e,h1,h2⟩:=r1
     cases e
     exact⟨_,_,rfl,by simp only[RD],_,_,rfl,h1,rfl⟩
noncomputable def z9d(i:Nat):List (Option D)->Option (Option D)
 |some (.tup ds)::_=>some ((ds[i]?).map fun d=> .tup [.int i,d])
 |_=>none
noncomputable def zal:ItK:=⟨1,z9d,z4n⟩
theorem z7o{a:Addr}:ItOK G (Itet G.K a) zal [some (.ref a)]:=by
 intro F ρ H σv tvp tv s i M
 dsimp only[zal]
 cases e:s.tm.drop tvp.length with
 |nil=>trivial
 |cons o r=>
  cases o with
  |none=>trivial
  |some c=>
   obtain⟨h,lb⟩:=MR.head (s:=s.popn tvp.length) M.popn e
   cases c with
   |tup ds=>
    simp only[z9d]
    obtain⟨a',xs,ea,sq,rr⟩:=h.tupq
    cases ea
    cases e2:ds[i]? with
    |none=>
     simp only[Option.map_none]
     refine⟨xs,sq, ?_⟩
     rw[<-rr.length]
     exact List.getElem?_eq_none_iff.mp e2
    |some d=>
     simp only[Option.map_some]
     obtain⟨x,ex,rx⟩:=rr.get i d e2
     refine⟨⟨xs,x,sq,ex⟩, ?_⟩
     rintro x' H' ⟨p,y,hp,rfl,rfl,hx,kd⟩
     rw[hx xs sq] at ex
     cases ex
     have sm:=Same.new (.tup [.int i,x]) hp
     refine⟨M.same sm kd,RDs.one ?_,fun l hl=>lb l (by simp only[labs];exact labsL_mem (List.mem_of_getElem? e2) l (by simpa only[labsL,labs,List.append_nil,List.nil_append] using hl))⟩
     simp only[RD]
     refine⟨p,_,rfl,z04, ?_⟩
     have r1:=(RDs.one rx).same sm
     simp only[RDs] at r1⊢
     obtain⟨x,r,e,h1,h2⟩:=r1
     cases e
     exact⟨_,_,rfl,by simp only[RD],_,_,rfl,h1,rfl⟩
   |_=>trivial
noncomputable def enmI(ts:List D):M ItK:=fun s=>match ts with
 |[.lst l ds]=> .ok kEnm (s.psh (.lst l ds))
 |[.ro ds]=> .ok kEnm (s.psh (.ro ds))
 |[.tup ds]=> .ok zal (s.psh (.tup ds))
 |_=> .no
noncomputable def mEnm(ms:List (M D)):M ItK:=bd (z09 ms) enmI
theorem si_enm{p tpos:Pos}{elts:List Expr}{x1:Nat}{ms:List (M D)}(hk:X.K=G.K)(hg:Gl X "enumerate")(hm:X.mg "enumerate" =none)(ha:SA X G F [a] (z09 ms))(hs:starEach [a] X.env=[(false,eval a X.env)]:=by rfl):SI X G F (.Tuple elts x1 tpos) (.Call (.Name "enumerate" p) [a] [] pos) (mEnm ms):=by
 refine PI.imp0 (z8r hg hm ha hs) fun σ H R ⟨tv,hs,ρ,s,M,W⟩=>⟨tv,hs,ρ,s,M, ?_⟩
 unfold mEnm bd at W
 cases e:z09 ms s with
 |ex d s1=>rw[e] at W;exact W
 |no=>rw[e] at W;exact W
 |ok ts s1=>
  rw[e] at W
  intro ρ1 vs H1 M1
  rw[hk]
  unfold enmI at W
  dsimp only at W
  split at W
  ·rename_i ts' K s' hh
   split at hh
   ·cases hh
    obtain⟨v,rfl,h,_⟩:=M1.one
    obtain⟨a,xs,rfl,sq,r,_⟩:=h.lstq (ds:=_) rfl
    exact⟨a,rfl, .inl ⟨⟨xs,sq⟩,W ρ1 H1 [some (.ref a)] _ rfl M1.push z5G⟩⟩
   ·cases hh
    obtain⟨v,rfl,h,_⟩:=M1.one
    obtain⟨a,xs,rfl,sq,r,_⟩:=h.lstq (ds:=_) rfl
    exact⟨a,rfl, .inl ⟨⟨xs,sq⟩,W ρ1 H1 [some (.ref a)] _ rfl M1.push z5G⟩⟩
   ·cases hh
    obtain⟨v,rfl,h,_⟩:=M1.one
    obtain⟨a,xs,rfl,sq,r⟩:=h.tupq
    exact⟨a,rfl, .inr ⟨⟨xs,sq⟩,W ρ1 H1 [some (.ref a)] _ rfl M1.push z7o⟩⟩
   ·cases hh
  ·rename_i hh
   split at hh<;>cases hh
  ·exact False.elim W
noncomputable def rvsD:D->M D
 | .lst _ ds=>newL ds.reverse
 | .ro ds=>newL ds.reverse
 |_=>fl
theorem RDs.rev{ρ:Nat->Addr}{H:Hp}: ∀{ds:List D} {xs:List V},RDs G ρ H ds xs->RDs G ρ H ds.reverse xs.reverse
 |[],xs,h=>by simp only[RDs] at h;subst h;simp only[List.reverse_nil,RDs]
 |d::ds,xs,h=>by
  simp only[RDs] at h
  obtain⟨x,r,rfl,h1,h2⟩:=h
  rw[List.reverse_cons,List.reverse_cons]
  exact(RDs.rev h2).append (RDs.one h1)
theorem z2I{l:Nat}: ∀{ds:List D},l∈labsL ds.reverse->l∈labsL ds
 |[],h=>h
 |d::ds,h=>by
  rw[List.reverse_cons,z0u] at h
  simp only[labsL,List.append_nil,List.mem_append] at h⊢
  rcases h with h|h
  ·exact .inr (z2I h)
  ·exact .inl h
theorem se_rev{e st:Expr}{p2:Pos}{m:M D}(hk:X.K=G.K)(hst:PO X (some st) (z8c (tUn (rU fun i=>V.int (-i)) (tC (.int 1)))))(he:SE X G F e m):SE X G F (.Subscript e (.Slice none none (some st) p2) pos) (bd m rvsD):=by
 refine PE.imp hk (zbV hst he) fun σ H Q ⟨tv,hs,ρ,s,M,W⟩=>⟨tv,hs,ρ,s,M, ?_⟩
 unfold bd at W
 cases e:m s with
 |ex d s1=>rw[e] at W;exact W
 |no=>rw[e] at W;exact W
 |ok t s1=>
  rw[e] at W
  intro ρ1 v H1 M1
  rw[hk]
  cases t with
  |lst n ds=>
   obtain⟨a,xs,rfl,sq,r,sub⟩:=M1.rd1.lstq (ds:=ds) rfl
   exact⟨a,xs,rfl,sq,fun p hp kd=>z1e W M1.m r.rev (fun l hl=>M1.lb l (by simp only[labsL,List.append_nil];exact sub l (z2I hl))) hp kd⟩
  |ro ds=>
   obtain⟨a,xs,rfl,sq,r,sub⟩:=M1.rd1.lstq (ds:=ds) rfl
   exact⟨a,xs,rfl,sq,fun p hp kd=>z1e W M1.m r.rev (fun l hl=>M1.lb l (by simp only[labsL,List.append_nil];exact sub l (z2I hl))) hp kd⟩
  |_=>exact False.elim W
end
end Mi
namespace L2
open PySem PySem.Spec PyProof.Rows
structure Fly(P:Program)(w:World)(outer:List Env)(H:Hp)(s:Shared)(H':Hp)(C:Value)(e:Addr)(s':Shared):Prop where
 os:s'.os=s.os
 bare:AllBare s'.gens
 un:Un (frs outer) [] H H' s.heap s'.heap
 hok:HOk P w H' s'.heap
 he:H' e=none
 se:s.heap.get? e=none
 tr: ∃oe vs a0 T oT ts,s'.heap.get? e=some oe/\(oe.cls=C/\vs[0]? =some a0)/\oe.data= .fields vs/\vs[1]? =some (.ref T)/\T≠e/\s'.heap.get? T=some oT/\oT.data= .fields ts/\ts[3]? =some .none/\H' T=none/\s.heap.get? T=none
noncomputable def CX1(P:Program)(w:World):CXT:=fun outer H s E e s'=> ∃a C H',e= .ref a/\Fly P w outer H s H' C a s'/\E C none H'
noncomputable def ze8(X:Cx)(E:St->XK):Prop:= ∀(pins:List (Addr×Obj)) (σ:St) (H:Hp) (s:Shared) (e:Value) (s':Shared),Inv X pins σ H s->CX1 X.prog X.w X.stack H s (E σ) e s'->X.xe e s'
end L2
namespace L2
open PySem PySem.Spec PySem.Calls PyProof.Rows Builtin Builtin.ObjectAttr Builtin.Getset_descriptor
structure XCls(K:W.Frag)(C:Addr):Prop where
 ob:W.mroIn K C (.type "object")=some true
 ba:W.mroIn K C (.type "BaseException")=some true
 f1:W.findIn K (.ref C) "__getattribute__" =some (some (.builtin "BaseException.__getattribute__"))
 f2:W.findIn K (.ref C) "__getattr__" =some none
 f3:W.findIn K (.ref C) "__class__" =some (some (.builtin "object.__class__"))
end L2
namespace L2
open PySem PySem.Spec PySem.Calls PyProof.Rows
end L2
namespace L2
open PySem PySem.Spec PySem.SeqAt PySem.Calls PyProof.Rows
end L2
namespace L2
open PySem PySem.Spec PySem.Calls PyProof.Rows
structure ze9(k:Nat)(A:Around):Prop where
 dp:A.depth+3*k+5<recursionLimit
 un:A.units+16*k+200<cLine
 gd:A.guards=some []
structure FnOkH(P:Program)(w:World)(K:W.Frag)(mg:Str->Option Value)(base:Heap)(CX:CXT)(k:Nat)(f:Addr)(fd:FuncData)(ps:List Str)(sp:Sp):Prop where
 len: ∀vs H Q E,sp vs H Q E->vs.length=ps.length
 run: ∀(A:Around) (outer:List Env) (s:Shared) (H:Hp) (args:Args) (us:List Value) (vs:List V) (Q:VK) (E:XK),ze9 k A->Env0 P w K mg base A outer s H->BindsTo s fd args (ps.zip us)->Vals vs us->sp vs H Q E->
  codeAny (model P w) A (.call (.ref f) args) (CR CX outer P w H s Q E) s
end L2
namespace L2
open PySem PySem.Spec PyProof.Rows
end L2
namespace Mi
open PySem L2 PySem.Spec
open PyProof.Rows (envOfC)
structure XP(X:Cx)(G:Gx)(F:Fy)(E:L2.St->XK):Prop where
 ps:ze8 X E
 xw: ∀c s',F.xw (.exc c) s'->∀ρ σv tv H C,F.tv0<:+tv->MR G F.toFx ρ H σv tv s'->G.cl c=some C->E σv (.ref C) none H
 no: ∀d s',F.xw d s'->∃c,d= .exc c
open Classical in
noncomputable def zf7(r:RF)(ts:List D):M D:=fun s=>match r with
 | .ok t ts' n'=>if ts'=ts then .ok t {s with n:=n'} else
  if ∀l∈z0E s,l∈labsL ts->(findL l ts').isSome=true then .ok t {σ:=rpO (fun l=>findL l ts') s.σ,tm:=rpO (fun l=>findL l ts') s.tm,n:=n'} else .no
 | .ex d ts' n'=>if ts'=ts then .ex d {s with n:=n'} else
  if ∀l∈z0E s,l∈labsL ts->(findL l ts').isSome=true then .ex d {σ:=rpO (fun l=>findL l ts') s.σ,tm:=rpO (fun l=>findL l ts') s.tm,n:=n'} else .no
 | .no=> .no
noncomputable def spX(G:Gx)(np:Nat)(f:FM):Sp:=fun vs H Q E=>vs.length=np/\∃ρ n ts,RDs G ρ H ts vs/\(∀i j,i<n->j<n->ρ i=ρ j->i=j)/\(∀l,l<n->∃o,H (ρ l)=some o)/\(∀l∈labsL ts,l<n)/\KD G.K H/\match f ts n with
 | .ok t ts' n'=> ∀ρ' v H',z4o G ρ n ts vs H ρ' n' ts' H'->RD G ρ' H' t v->(∀l∈labs t,l<n'/\(l<n->l∈labsL ts))->Q v H'
 | .ex d ts' n'=> ∃c,d= .exc c/\∀ρ' H' C,z4o G ρ n ts vs H ρ' n' ts' H'->G.cl c=some C->E (.ref C) none H'
 | .no=>False
noncomputable def zea(k:Nat)(tm:List (Option D)):List (Option D):=tm.drop (tm.length -k)
end Mi
namespace Mi
open PySem L2 PySem.Spec
inductive Al(Φ:Addr->Prop):List (Str×Addr)->Prop
 |nil:Al Φ []
 |cons {c:Str} {a:Addr} {l:List (Str×Addr)}:Φ a->Al Φ l->Al Φ ((c,a)::l)
inductive Al2{β:Type}(Φ:Addr->β->Prop):List (Str×Addr)->List (Str×β)->Prop
 |nil:Al2 Φ [] []
 |cons {c:Str} {a:Addr} {b:β} {l:List (Str×Addr)} {r:List (Str×β)}:Φ a b->Al2 Φ l r->Al2 Φ ((c,a)::l) ((c,b)::r)
 |skip {c:Str} {a:Addr} {l:List (Str×Addr)} {r:List (Str×β)}:r.lookup c=none->Al2 Φ l r->Al2 Φ ((c,a)::l) r
section
variable{X:Cx}{G:Gx}{F:Fy}{E:L2.St->XK}
structure FnV(X:Cx)(G:Gx)(np:Nat)(a:Addr)(f:FM):Prop where
 ex: ∃k fd ps,ps.length=np/\FnOk X.prog X.w X.K X.mg X.base (CX1 X.prog X.w) k a fd ps (spX G np f)/\Room k X.A/\W.keepIn X.K (.ref a)=true/\z38 X.K fd ps []
end
end Mi
namespace Mi
open PySem L2 PySem.Spec
open PyProof.Rows (envOfC)
end Mi
namespace Mi
open PySem L2 PySem.Spec
noncomputable def z4q:D->Option Key
 | .int i=>some (.inl i)
 | .str x=>some (.inr x)
 |_=>none
noncomputable def z1S:List D->Option (List Key)
 |[]=>some []
 |d::ds=>match z4q d with
  |some k=>match z1S ds with
   |some ks=>some (k::ks)
   |none=>none
  |none=>none
noncomputable def nkOf:D->Option (Key⊕List Key)
 | .tup ds=>match z1S ds with|some ks=>some (.inr ks)|none=>none
 |d=>match z4q d with|some k=>some (.inl k)|none=>none
noncomputable def z4r:List D->Option NK
 |[]=>some []
 |d::ds=>match nkOf d with
  |some k=>match z4r ds with
   |some ks=>some (k::ks)
   |none=>none
  |none=>none
noncomputable def tkey:D->Option NK
 | .tup ds=>z4r ds
 |_=>none
noncomputable def isT:List D->Bool
 | .non::_=>false
 |_=>true
section
variable{G:Gx}{ρ:Nat->Addr}{H:Hp}
theorem z5H{d:D}{v:V}{k:Key}(h:RD G ρ H d v)(e:z4q d=some k):v=kV k/\d=keyD k:=by
 cases d<;>simp only[z4q] at e<;>cases e<;>(simp only[RD] at h;exact⟨h,rfl⟩)
theorem z4s: ∀{ds:List D} {xs:List V} {ks:List Key},RDs G ρ H ds xs->z1S ds=some ks->xs=ks.map kV/\ds=ks.map keyD
 |[],xs,ks,h,e=>by simp only[RDs] at h;simp only[z1S] at e;cases e;exact⟨h,rfl⟩
 |d::ds,xs,ks,h,e=>by
  simp only[RDs] at h
  obtain⟨x,r,rfl,h1,h2⟩:=h
  simp only[z1S] at e
  cases e1:z4q d with
  |none=>rw[e1] at e;cases e
  |some k=>
   rw[e1] at e
   cases e2:z1S ds with
   |none=>simp only[e2] at e;cases e
   |some ks'=>
    simp only[e2] at e
    cases e
    obtain⟨a1,a2⟩:=z5H h1 e1
    obtain⟨b1,b2⟩:=z4s h2 e2
    rw[a1,b1,a2,b2]
    exact⟨rfl,rfl⟩
theorem zam{d:D}{v:V}{k:Key⊕List Key}(h:RD G ρ H d v)(e:nkOf d=some k):TKi H k v/\d=nkD k:=by
 have flat: ∀{d:D} {v:V},RD G ρ H d v->(match z4q d with|some k=>some (Sum.inl k:Key⊕List Key)|none=>none)=some k->TKi H k v/\d=nkD k:=by
  intro d v h e
  cases e1:z4q d with
  |none=>rw[e1] at e;cases e
  |some k'=>
   rw[e1] at e
   cases e
   obtain⟨a1,a2⟩:=z5H h e1
   exact⟨a1,a2⟩
 cases d with
 |tup ds=>
  simp only[nkOf] at e
  cases e1:z1S ds with
  |none=>rw[e1] at e;cases e
  |some ks=>
   rw[e1] at e
   cases e
   simp only[RD] at h
   obtain⟨a,xs,e2,s,r⟩:=h
   obtain⟨b1,b2⟩:=z4s r e1
   exact⟨⟨a,e2,b1▸s⟩,by rw[b2];rfl⟩
 |_=>exact flat h e
theorem z5I: ∀{ds:List D} {xs:List V} {ks:NK},RDs G ρ H ds xs->z4r ds=some ks->Paired (TKi H) ks xs/\ds=ks.map nkD
 |[],xs,ks,h,e=>by simp only[RDs] at h;simp only[z4r] at e;cases e;subst h;exact⟨.nil,rfl⟩
 |d::ds,xs,ks,h,e=>by
  simp only[RDs] at h
  obtain⟨x,r,rfl,h1,h2⟩:=h
  simp only[z4r] at e
  cases e1:nkOf d with
  |none=>rw[e1] at e;cases e
  |some k=>
   rw[e1] at e
   cases e2:z4r ds with
   |none=>simp only[e2] at e;cases e
   |some ks'=>
    simp only[e2] at e
    cases e
    obtain⟨a1,a2⟩:=zam h1 e1
    obtain⟨b1,b2⟩:=z5I h2 e2
    rw[a2,b2]
    exact⟨.cons a1 b1,rfl⟩
theorem z3I{t:D}{v:V}{k:NK}(h:RD G ρ H t v)(e:tkey t=some k): ∃b,v= .ref b/\TK H k b/\t=dkD k:=by
 cases t<;>simp only[tkey] at e<;>try cases e
 simp only[RD] at h
 obtain⟨a,xs,e1,s,r⟩:=h
 obtain⟨b1,b2⟩:=z5I r e
 exact⟨a,e1,⟨xs,s,b1⟩,by rw[b2];rfl⟩
theorem z3k: ∀k:List Key,z1S (k.map keyD)=some k
 |[]=>rfl
 |k::ks=>by
  simp only[List.map_cons,z1S]
  have:z4q (keyD k)=some k:=by cases k<;>rfl
  rw[this,z3k ks]
theorem zan(z:Key⊕List Key):nkOf (nkD z)=some z:=by
 cases z with
 |inl k=>cases k<;>rfl
 |inr ks=>simp only[nkD,nkOf,z3k]
theorem z4t: ∀k:NK,z4r (k.map nkD)=some k
 |[]=>rfl
 |k::ks=>by simp only[List.map_cons,z4r,zan,z4t ks]
theorem z0I(k:NK):tkey (dkD k)=some k:=z4t k
theorem z4Y{ρ:Nat->Addr}: ∀k:List Key,RDs G ρ H (k.map keyD) (k.map kV)
 |[]=>by simp only[List.map_nil,RDs]
 | .inl i::k=>by simp only[List.map_cons,RDs];exact⟨_,_,rfl,by simp only[keyD,RD];rfl,z4Y k⟩
 | .inr i::k=>by simp only[List.map_cons,RDs];exact⟨_,_,rfl,by simp only[keyD,RD];rfl,z4Y k⟩
theorem z7p{ρ:Nat->Addr}: ∀{k:NK} {xs:List V},Paired (TKi H) k xs->RDs G ρ H (k.map nkD) xs
 |_,_, .nil=>by simp only[List.map_nil,RDs]
 | .inl i::k,_, .cons a b=>by
  have e:=(show _=kV i from a)
  simp only[List.map_cons,RDs]
  refine⟨_,_,rfl, ?_,z7p b⟩
  rw[e]
  cases i<;>(simp only[nkD,keyD,RD];rfl)
 | .inr ks::k,_, .cons a b=>by
  obtain⟨c,e,hc⟩:=a
  simp only[List.map_cons,RDs]
  refine⟨_,_,rfl, ?_,z7p b⟩
  simp only[nkD,RD]
  exact⟨c,_,e,hc,z4Y ks⟩
theorem zcr{ρ:Nat->Addr}{k:NK}{b:Addr}(h:TK H k b):RD G ρ H (dkD k) (.ref b):=by
 obtain⟨xs,h1,h2⟩:=h
 simp only[dkD,RD]
 exact⟨b,xs,rfl,h1,z7p h2⟩
noncomputable def rdD:D->Option (List D×List D)
 | .dct _ ks vs=>if isT ks=true then some (ks,vs) else none
 | .fdc ks vs=>some (ks,vs)
 |_=>none
theorem RD.rdq{t:D}{ks vs:List D}{v:V}(h:RD G ρ H t v)(e:rdD t=some (ks,vs)): ∃a kvs,v= .ref a/\Rd H a (.dT kvs)/\ks=kvs.map (fun p:NK×V=>dkD p.1)/\RDs G ρ H vs (kvs.map (·.2))/\∀l∈labsL vs,l∈labs t:=by
 cases t<;>simp only[rdD] at e<;>try cases e
 ·rename_i l ks' vs'
  by_cases hT:isT ks'=true
  ·rw[if_pos hT] at e;cases e
   simp only[RD] at h
   obtain⟨e,⟨kvs,s,s2,r⟩|⟨kvs,s,s2,r⟩⟩:=h
   ·rw[s2] at hT;cases hT
   ·exact⟨ρ l,kvs,e, .inl s,s2,r,fun j hj=>by simp only[labs];exact List.mem_cons_of_mem _ (List.mem_append_right _ hj)⟩
  ·rw[if_neg hT] at e;cases e
 ·simp only[RD] at h
  obtain⟨a,o,kvs,e,s,s2,r⟩:=h
  exact⟨a,kvs,e, .inr ⟨o,s⟩,s2,r,fun j hj=>by simp only[labs];exact hj⟩
theorem RD.dctq{l:Nat}{ks vs:List D}{v:V}(h:RD G ρ H (.dct l ks vs) v)(hn:isT ks=true):v= .ref (ρ l)/\∃kvs:List (NK×V),H (ρ l)=some (.dT kvs)/\ks=kvs.map (fun p=>dkD p.1)/\RDs G ρ H vs (kvs.map (·.2)):=by
 simp only[RD] at h
 obtain⟨e,⟨kvs,s,s2,r⟩|h⟩:=h
 ·rw[s2] at hn;cases hn
 ·exact⟨e,h⟩
noncomputable def z1B:List D->List D->NK->Option D
 |d::ks,v::vs,k=>if tkey d=some k then some v else z1B ks vs k
 |_,_,_=>none
theorem z1v{k:NK}: ∀(kvs:List (NK×V)) (vs:List D) (t:D),RDs G ρ H vs (kvs.map (·.2))->z1B (kvs.map fun p=>dkD p.1) vs k=some t->∃v,valV kvs k=some v/\RD G ρ H t v/\t∈vs
 |[],_,_,_,e=>by simp only[List.map_nil,z1B] at e;cases e
 |p::kvs,[],_,_,e=>by simp only[List.map_cons,z1B] at e;cases e
 |p::kvs,w::vs,t,h,e=>by
  simp only[List.map_cons,RDs] at h
  obtain⟨x,r,e1,h1,h2⟩:=h
  cases e1
  simp only[List.map_cons,z1B,z0I,Option.some.injEq] at e
  by_cases hk:p.1=k
  ·rw[if_pos hk] at e;cases e
   exact⟨_,z2i hk,h1,List.mem_cons_self ..⟩
  ·rw[if_neg hk] at e
   obtain⟨v,a,b,c⟩:=z1v kvs vs t h2 e
   exact⟨v,by rw[z1L hk];exact a,b,List.mem_cons_of_mem _ c⟩
theorem z20{k:NK}: ∀(kvs:List (NK×V)) (vs:List D),RDs G ρ H vs (kvs.map (·.2))->z1B (kvs.map fun p=>dkD p.1) vs k=none->valV kvs k=none
 |[],_,_,_=>rfl
 |p::kvs,[],h,_=>by simp only[List.map_cons,RDs] at h;cases h
 |p::kvs,w::vs,h,e=>by
  simp only[List.map_cons,RDs] at h
  obtain⟨x,r,e1,h1,h2⟩:=h
  cases e1
  simp only[List.map_cons,z1B,z0I,Option.some.injEq] at e
  by_cases hk:p.1=k
  ·rw[if_pos hk] at e;cases e
  ·rw[if_neg hk] at e
   rw[z1L hk];exact z20 kvs vs h2 e
noncomputable def z7q(ks:List D)(k:NK):List D:=if(ks.any fun d=>decide (tkey d=some k))=true then ks else ks++[dkD k]
noncomputable def z4Z(ks vs:List D)(k:NK)(v:D):List D:=if(ks.any fun d=>decide (tkey d=some k))=true then List.zipWith (fun d w=>if tkey d=some k then v else w) ks vs else vs++[v]
theorem zcs{k:NK}(kvs:List (NK×V)):((kvs.map fun p=>dkD p.1).any fun d=>decide (tkey d=some k))=kvs.any fun kv=>decide (kv.1=k):=by
 rw[List.any_map]
 congr 1
 funext p
 simp only[Function.comp,z0I,Option.some.injEq]
theorem z50{k:NK}{t:D}{v:V}(h:RD G ρ H t v): ∀(kvs:List (NK×V)) (vs:List D),RDs G ρ H vs (kvs.map (·.2))->
 RDs G ρ H (List.zipWith (fun d w=>if tkey d=some k then t else w) (kvs.map fun p=>dkD p.1) vs) ((kvs.map (fun kv=>if kv.1=k then(kv.1,v) else kv)).map (·.2))
 |[],[],_=>by simp[RDs]
 |[],_::_,h=>by simp only[List.map_nil,RDs] at h;obtain⟨_,_,e,_⟩:=h;cases e
 |p::kvs,[],h=>by simp only[List.map_cons,RDs] at h;cases h
 |p::kvs,w::vs,h'=>by
  simp only[List.map_cons,RDs] at h'
  obtain⟨x,r,e1,h1,h2⟩:=h'
  cases e1
  simp only[List.map_cons,List.zipWith_cons_cons,RDs,z0I,Option.some.injEq]
  by_cases hk:p.1=k
  ·rw[if_pos hk,if_pos hk];exact⟨_,_,rfl,h,z50 h kvs vs h2⟩
  ·rw[if_neg hk,if_neg hk];exact⟨_,_,rfl,h1,z50 h kvs vs h2⟩
theorem zct{k:NK}{t:D}{v:V}{kvs:List (NK×V)}{vs:List D}(h:RD G ρ H t v)(r:RDs G ρ H vs (kvs.map (·.2))):
 z7q (kvs.map fun p=>dkD p.1) k=(putK kvs k v).map (fun p=>dkD p.1)/\RDs G ρ H (z4Z (kvs.map fun p=>dkD p.1) vs k t) ((putK kvs k v).map (·.2)):=by
 unfold z7q z4Z putK
 rw[zcs]
 cases e:kvs.any fun kv=>decide (kv.1=k) with
 |true=>
  simp only[if_true]
  refine⟨?_,z50 h kvs vs r⟩
  rw[List.map_map]
  refine List.map_congr_left fun p _=> ?_
  simp only[Function.comp]
  split<;>rfl
 |false=>
  simp only[Bool.false_eq_true,if_false,List.map_append,List.map_cons,List.map_nil]
  exact⟨trivial,r.append (RDs.one h)⟩
end
section
variable{X:Cx}{G:Gx}{F:Fy}{a b e:Expr}{ma mb:M D}{pos:Pos}
noncomputable def dgtD(o t:D):M D:=match rdD o with
 |some (ks,vs)=>match tkey t with
  |some k=>(match z1B ks vs k with|some d=>rt d|none=>fl)
  |none=>fl
 |none=>fl
theorem zcu:OpOK G F (fun x y H Q=> ∃a v,x= .ref a/\DGet H a y (some v)/\Q v H) dgtD:=by
 intro ρ s t t' v u H σv tv Q M W
 obtain⟨h1,h2⟩:=M.rd2
 obtain⟨l1,l2⟩:=M.lb2
 unfold dgtD at W
 cases er:rdD t with
 |none=>rw[er] at W;exact False.elim W
 |some p=>
  obtain⟨ks,vs⟩:=p
  rw[er] at W
  dsimp only at W
  cases ek:tkey t' with
  |none=>rw[ek] at W;exact False.elim W
  |some k=>
   rw[ek] at W
   dsimp only at W
   obtain⟨a,kvs,rfl,hx,rfl,r,sub⟩:=h1.rdq er
   obtain⟨b,rfl,hb,_⟩:=z3I h2 ek
   cases ef:z1B (kvs.map fun p=>dkD p.1) vs k with
   |none=>rw[ef] at W;exact False.elim W
   |some d=>
    rw[ef] at W
    obtain⟨w,hv,hd,hm⟩:=z1v kvs vs d r ef
    exact⟨a,w,rfl, .inr ⟨kvs,k,b,hx,rfl,hb,hv.symm⟩,fun _=>W.out M.m hd fun j hj=>l1 j (sub j (labsL_mem hm j hj))⟩
theorem se_dgt(hk:X.K=G.K)(hu:X.A.units+64<cLine)(ha:SE X G F a ma)(hb:SE X G F b mb)(hs:z1l b):SE X G F (.Subscript a b pos) (mBin ma mb dgtD):=
 PE.imp hk (z9U (show X.A.units+2<cLine by lia) ha hb hs) fun _ _ _ h=>z76 zcu h
noncomputable def dinD(t o:D):M D:=match rdD o with
 |some (ks,vs)=>match tkey t with
  |some k=>rt (.bool (z1B ks vs k).isSome)
  |none=>fl
 |none=>fl
theorem zeb{ρ:Nat->Addr}{H:Hp}{k:NK}{kvs:List (NK×V)}{vs:List D}(r:RDs G ρ H vs (kvs.map (·.2))):(z1B (kvs.map fun p=>dkD p.1) vs k).isSome=(valV kvs k).isSome:=by
 cases ef:z1B (kvs.map fun p=>dkD p.1) vs k with
 |none=>rw[z20 kvs vs r ef];rfl
 |some d=>obtain⟨w,hv,_⟩:=z1v kvs vs d r ef;rw[hv];rfl
theorem zcv:z3D G F (fun y x H Q=> ∃a o,x= .ref a/\DGet H a y o/\Q (.bl o.isSome) H) dinD:=by
 intro ρ s t t' v u H σv tv Q M W
 obtain⟨h1,h2⟩:=M.rd2
 unfold dinD at W
 cases er:rdD t' with
 |none=>rw[er] at W;exact False.elim W
 |some p=>
  obtain⟨ks,vs⟩:=p
  rw[er] at W
  dsimp only at W
  cases ek:tkey t with
  |none=>rw[ek] at W;exact False.elim W
  |some k=>
   rw[ek] at W
   dsimp only at W
   obtain⟨a,kvs,rfl,hx,rfl,r,sub⟩:=h2.rdq er
   obtain⟨b,rfl,hb,_⟩:=z3I h1 ek
   refine⟨a,_,rfl, .inr ⟨kvs,k,b,hx,rfl,hb,rfl⟩, ?_⟩
   rw[<-zeb r]
   exact W.flat M.m rfl
theorem zcw(hu:X.A.units+64<cLine):OpR X (compareOp .In) (fun y x H Q=> ∃a o,x= .ref a/\DGet H a y o/\Q (.bl o.isSome) H):=by
 intro pins s σ H y x iv u Q I ry rx h
 obtain⟨a,o,rfl,g,q⟩:=h
 obtain rfl:u=Value.ref a:=rx
 exact d_in (show X.A.units+2<cLine by lia) I g ry fun s3 I3=>⟨.bl o.isSome,H,I3,rfl,q⟩
theorem zcx(hu:X.A.units+64<cLine):Cm X G F .In dinD:=⟨_,zcw hu,zcv⟩
noncomputable def z2J:M D:=fun s=> .ok (.dct s.n [] []) s.nxt
theorem se_dnew(hk:X.K=G.K):SE X G F (.Dict [] [] pos) z2J:=
 PE.imp hk z8h fun σ H Q ⟨tv,hs,ρ,s,M,W⟩ p hp k=>by
  refine wM.out (ρ:=ext ρ s.n p) W (M.new hp k) ?_ fun l hl=> ?_
  ·simp only[RD]
   rw[z0H]
   exact⟨rfl, .inr ⟨[],z04,rfl,by simp[RDs]⟩⟩
  ·simp only[labs,labsL,List.append_nil,List.mem_singleton] at hl
   rw[hl]
   exact⟨Nat.lt_succ_self _,by rw[z0H];exact .inr (M.fresh0 hp)⟩
noncomputable def z21(o i v:D):MS:=fun s=>match o with
 | .dct l ks vs=>match tkey i with
  |some k=>if isT ks=true/\ks.length<sizeLine/\labs v=[]/\labsL vs=[] then .nx (s.put l (.dct l (z7q ks k) (z4Z ks vs k v))) else .no
  |none=> .no
 |_=> .no
theorem z2K(k:NK):labs (dkD k)=[]:=by
 have h: ∀k:NK,labsL (k.map nkD)=[]:=fun k=>by
  induction k with
  |nil=>rfl
  |cons z k ih=>simp only[List.map_cons,labsL,z4W,ih,List.append_nil]
 simp only[dkD,labs,h]
theorem z5J: ∀kvs:List (NK×V),labsL (kvs.map fun p=>dkD p.1)=[]
 |[]=>rfl
 |p::kvs=>by
  have e:labs (dkD p.1)=[]:=z2K p.1
  simp only[List.map_cons,labsL,e,z5J kvs];rfl
theorem z2L: ∀{ds:List D},(∀d∈ds,labs d=[])->labsL ds=[]
 |[],_=>rfl
 |d::ds,h=>by simp only[labsL,h d (List.mem_cons_self ..),z2L fun x hx=>h x (List.mem_cons_of_mem _ hx)];rfl
theorem z4u{ds:List D}(h:labsL ds=[]): ∀d∈ds,labs d=[]:=fun d hd=>by
 cases e:labs d with
 |nil=>rfl
 |cons l r=>exact absurd (labsL_mem hd l (by rw[e];exact List.mem_cons_self ..)) (by rw[h];exact List.not_mem_nil)
theorem z5K{ks vs:List D}{k:NK}{v:D}(hv:labs v=[])(h:labsL vs=[]):labsL (z4Z ks vs k v)=[]:=by
 have h':=z4u h
 unfold z4Z
 split
 ·refine z2L fun d hd=> ?_
  obtain⟨i,hi,e⟩:=List.getElem_of_mem hd
  rw[List.getElem_zipWith] at e
  subst e
  split
  ·exact hv
  ·exact h' _ (List.getElem_mem _)
 ·refine z2L fun d hd=> ?_
  rcases List.mem_append.mp hd with q|q
  ·exact h' d q
  ·rw[List.mem_singleton.mp q];exact hv
theorem zao{ρ:Nat->Addr}{s:Stt}{t1 t2 t3:D}{v o i:V}{H:Hp}{σv tv:List (Option V)}{Dd:Ends}(M:MRL G F.toFx ρ H σv tv s [t1,t2,t3] [v,o,i])(W:wS G F tv (z21 t2 t3 t1 s) Dd): ∃a H4,o= .ref a/\DPut H a i v H4/\Dd.nx σv H4:=by
 have h:=M.rd
 simp only[RDs] at h
 obtain⟨_,_,e,h1,_,_,e2,h2,_,_,e3,h3,_⟩:=h
 cases e;cases e2;cases e3
 have b2:LB F.toFx ρ s.n (labs t2):=fun l h=>M.lb l (by simp only[labsL];exact List.mem_append_right _ (List.mem_append_left _ h))
 unfold z21 at W
 cases t2 with
 |dct l ks vs=>
  dsimp only at W
  cases ek:tkey t3 with
  |none=>rw[ek] at W;exact False.elim W
  |some k=>
   rw[ek] at W
   dsimp only at W
   by_cases hc:isT ks=true/\ks.length<sizeLine/\labs t1=[]/\labsL vs=[]
   ·rw[if_pos hc] at W
    obtain⟨hT,hz,hv,hvs⟩:=hc
    obtain⟨rfl,kvs,hx,rfl,r⟩:=h2.dctq hT
    obtain⟨b,rfl,hb,_⟩:=z3I h3 ek
    have bl:=b2 l (by simp only[labs];exact List.mem_cons_self ..)
    have st:z0L H (upd H (ρ l) (.dT (putK kvs k v))):=
     ⟨fun b ys q=>by rw[z02 (z2f q hx (by intro z;cases z))];exact q,fun b o u q=>by rw[z02 (z2f q hx (by intro z;cases z))];exact q⟩
    have pr:=zct (k:=k) h1 r
    refine⟨ρ l,_,rfl,DPut.t hx hb (by simpa using hz),W ρ σv _ (M.m.put2 bl.1 bl.2 st (z5F M.m.kd hx) ?_ fun j hj=> ?_)⟩
    ·simp only[RD]
     refine⟨trivial, .inr ⟨putK kvs k v,z04,pr.1, ?_⟩⟩
     exact RDs.stay st _ _ pr.2 fun j hj=>by rw[z5K hv hvs] at hj;cases hj
    ·simp only[labs,pr.1,z5J,z5K hv hvs,List.append_nil,List.mem_singleton] at hj
     rw[hj];exact bl
   ·rw[if_neg hc] at W;exact False.elim W
 |_=>exact False.elim W
theorem ss_dput{ob ix:Expr}{pos tpos:Pos}{mo mi me:M D}(hu:X.A.units+64<cLine)(he:SE X G F e me)(ho:SE X G F ob mo)(hi:SE X G F ix mi)(hs:swapsWith e (some (.Subscript ob ix tpos)) pos.line X.env=pure false:=by rfl):
 SS X G F (.Assign [.Subscript ob ix tpos] e pos) (mTri me mo mi z21):=by
 refine PS.imp0 (z9V (show X.A.units+2<cLine by lia) ho hi he hs) fun Dd σ H ⟨tv,h⟩=> ?_
 exact(z7m h).mono fun v H1 h1=>h1.mono fun o H2 h2=>h2.mono fun i H3 ⟨ρ,s,t1,t2,t3,M,W⟩=>zao M W
end
noncomputable def zcy(i:Nat):List (Option D)->Option (Option D)
 |some (.fdc ks _)::_=>some ks[i]?
 |_=>none
noncomputable def z9e:List (Option D)->Nat
 |some (.fdc ks _)::_=>ks.length
 |_=>0
noncomputable def kDct:ItK:=⟨1,zcy,z9e⟩
noncomputable def z4v(m:M D):M ItK:=bd m fun d s=>match d with
 | .dct l ks vs=>if isT ks=true/\labsL vs=[] then .ok kDct ((s.put l (.fdc ks vs)).psh (.fdc ks vs)) else .no
 |_=> .no
noncomputable def Fy.frz(F:Fy)(a:Addr)(o:HO)(ha:F.A0 a\/F.H0 a=none)(hz: ¬F.Z a):Fy where
 A0:=fun x=>F.A0 x/\x≠a
 H0:=upd F.H0 a o
 Z:=F.Z
 zA:=fun x z=>by
  have hn:x≠a:=fun e=>hz (e▸z)
  obtain⟨⟨o',e⟩,n⟩:=F.zA x z
  exact⟨⟨o',by rw[z02 hn];exact e⟩,fun q=>n q.1⟩
 aH:=fun x q=>by
  obtain⟨o',e⟩:=F.aH x q.1
  exact⟨o',by rw[z02 q.2];exact e⟩
 n0:=F.n0
 ρ0:=F.ρ0
 tv0:=F.tv0
 xw:=F.xw
section
variable{G:Gx}{F:Fy}{ρ:Nat->Addr}{H:Hp}{σv tv:List (Option V)}{s:Stt}{a:Addr}{o:HO}{ha:F.A0 a\/F.H0 a=none}{hz: ¬F.Z a}
theorem z5L: ∀{os:List (Option D)} {vs:List (Option V)},Sl G ρ H os vs->∀l∈z06 os,∃o,H (ρ l)=some o/\(∀xs,o≠ .tup xs)/\∀u w,o≠ .frz u w
 |[],_,_,l,hl=>by simp only[z06] at hl;cases hl
 |none::os,_,h,l,hl=>by
  simp only[Sl,z06] at h hl
  obtain⟨_,_,_,h⟩:=h
  exact z5L h l hl
 |some d::os,_,h,l,hl=>by
  simp only[Sl,z06] at h hl
  obtain⟨v,_,_,h1,h2⟩:=h
  rcases List.mem_append.mp hl with q|q
  ·exact z7i d v h1 l q
  ·exact z5L h2 l q
theorem MR.frzIn(M:MR G F.toFx ρ H σv tv s)(h:H a=some o)(hm: ∃u w,o= .frz u w):MR G (F.frz a o ha hz).toFx ρ H σv tv s:=by
 have ne: ∀l∈z0E s,ρ l≠a:=fun l hl e=>by
  obtain⟨u,w,rfl⟩:=hm
  have: ∃o,H (ρ l)=some o/\(∀xs,o≠ .tup xs)/\∀u w,o≠ .frz u w:=by
   rcases List.mem_append.mp hl with q|q
   ·exact z5L M.sl l q
   ·exact z5L M.tm l q
  obtain⟨o',e1,_,e3⟩:=this
  rw[e,h] at e1
  cases e1
  exact e3 _ _ rfl
 refine⟨M.sl,M.tm,M.inj,M.dom,M.lab,fun l hl=> ?_,fun x o' e=> ?_,M.kd,M.frb,M.bas⟩
 ·rcases M.own l hl with q|q
  ·exact .inl ⟨q,ne l hl⟩
  ·exact .inr (by show upd F.H0 a o (ρ l)=none;rw[z02 (ne l hl)];exact q)
 ·have e:upd F.H0 a o x=some o':=e
  by_cases hx:x=a
  ·subst hx
   rw[z04] at e
   cases e
   exact⟨⟨o,h⟩,fun _=>h⟩
  ·rw[z02 hx] at e
   obtain⟨q1,q2⟩:=M.frm x o' e
   exact⟨q1,fun n=>q2 fun z=>n ⟨z,hx⟩⟩
theorem MR.frzOut(M:MR G (F.frz a o ha hz).toFx ρ H σv tv s):MR G F.toFx ρ H σv tv s:=by
 refine⟨M.sl,M.tm,M.inj,M.dom,M.lab,fun l hl=> ?_,fun x o' e=> ?_,M.kd,M.frb,M.bas⟩
 ·rcases M.own l hl with q|q
  ·exact .inl q.1
  ·have q:upd F.H0 a o (ρ l)=none:=q
   by_cases hx:ρ l=a
   ·rw[hx,z04] at q;cases q
   ·rw[z02 hx] at q;exact .inr q
 ·by_cases hx:x=a
  ·subst hx
   have q:=(M.frm x o z04).1
   refine⟨q,fun n=> ?_⟩
   rcases ha with z|z
   ·exact absurd z n
   ·rw[z] at e;cases e
  ·obtain⟨q1,q2⟩:=M.frm x o' (by show upd F.H0 a o x=some o';rw[z02 hx];exact e)
   exact⟨q1,fun n=>q2 fun z=>n z.1⟩
theorem MRL.frzOut{ts:List D}{vs:List V}(M:MRL G (F.frz a o ha hz).toFx ρ H σv tv s ts vs):MRL G F.toFx ρ H σv tv s ts vs:=by
 refine⟨M.m.frzOut,M.rd,fun l hl=> ?_⟩
 obtain⟨q1,q⟩:=M.lb l hl
 refine⟨q1, ?_⟩
 rcases q with q|q
 ·exact .inl q.1
 ·have q:upd F.H0 a o (ρ l)=none:=q
  by_cases hx:ρ l=a
  ·rw[hx,z04] at q;cases q
  ·rw[z02 hx] at q;exact .inr q
theorem MR.frzAt'{A1:Addr}{ys:List V}{hf:(F.frz a o ha hz).H0 A1=none}(M:MR G ((F.frz a o ha hz).prot A1 ys hf).toFx ρ H σv tv s):H a=some o:=by
 have hne:a≠A1:=fun e=>by
  have:upd F.H0 a o A1=none:=hf
  rw[e,z04] at this;cases this
 exact(M.frm a o (by show upd (upd F.H0 a o) A1 (.lst ys) a=some o;rw[z02 hne,z04])).2 fun z=>z.2 rfl
theorem zcz{u:Obj}{kvs:List (NK×V)}{tvp:List (Option V)}{F':Fx}(M:MR G F' ρ H σv (tvp++([some (.ref a)]++tv)) s)(h:H a=some (.frz u (.dT kvs)))(i:Nat):match kDct.at' i (s.tm.drop tvp.length) with
 |none=>True
 |some none=>(ItD a u kvs).stop i H
 |some (some d)=>(ItD a u kvs).go i H/\∀x H',(ItD a u kvs).yld i H x H'->MRL G F' ρ H' σv (tvp++([some (.ref a)]++tv)) s [d] [x]:=by
 dsimp only[kDct]
 cases e:s.tm.drop tvp.length with
 |nil=>trivial
 |cons c0 r=>
  cases c0 with
  |none=>trivial
  |some c=>
   obtain⟨hc,lb⟩:=MR.head (s:=s.popn tvp.length) M.popn e
   cases c with
   |fdc ks vs=>
    simp only[zcy]
    simp only[RD] at hc
    obtain⟨a',u',kvs',ea,hx,hk,_⟩:=hc
    cases ea
    rw[h] at hx
    cases hx
    subst hk
    cases e2:(kvs.map fun p=>dkD p.1)[i]? with
    |none=>
     refine⟨?_,h⟩
     have:=List.getElem?_eq_none_iff.mp e2
     simpa using this
    |some d=>
     rw[List.getElem?_map] at e2
     cases e3:kvs[i]? with
     |none=>rw[e3] at e2;cases e2
     |some p=>
      rw[e3] at e2
      cases e2
      refine⟨⟨(List.getElem?_eq_some_iff.mp e3).1,h⟩, ?_⟩
      rintro x H' ⟨rfl,b,k,v,rfl,hk,hb⟩
      rw[hk] at e3
      cases e3
      refine⟨M,RDs.one ?_,fun l hl=> ?_⟩
      ·exact zcr hb
      ·have e:labsL [dkD k]=[]:=by simp only[labsL,List.append_nil];exact z2K k
       rw[e] at hl;cases hl
   |_=>trivial
end
section
variable{X:Cx}{G:Gx}{F:Fy}{tg iter elt:Expr}{pos:Pos}
theorem z7r{K:W.Frag}{k:Nat}{ix:List Nat}{m0:M D}{g:Tg}{mt:M Bool}{me:M D}{σ:St}{H:Hp}{Q:VK}(hk:K=G.K)(h:tM G F (z0x (z4v m0) g mt me k ix) σ H Q):z5B K (zbU (tM G F m0)) (tGx G g) (tBx G mt) (tMx G me) k ix σ H Q:=by
 obtain⟨tv,hsf,ρ,s,M,W⟩:=h
 refine⟨tv,hsf,ρ,s,M, ?_⟩
 unfold z0x z4v bd at W
 cases em:m0 s with
 |ex d s1=>rw[em] at W;exact W
 |no=>rw[em] at W;exact W
 |ok t s0=>
  rw[em] at W
  dsimp only at W
  intro ρ1 v H1 M0
  cases t with
  |dct l ks vs=>
   dsimp only at W
   by_cases hc:isT ks=true/\labsL vs=[]
   ·rw[if_pos hc] at W
    dsimp only at W
    obtain⟨hT,hvs⟩:=hc
    have rd0:=M0.rd1
    obtain⟨rfl,kvs,hx,hks,r⟩:=rd0.dctq hT
    have bl:=M0.lb1 l (by simp only[labs];exact List.mem_cons_self ..)
    refine⟨ρ1 l,kvs,rfl,hx,fun u A1 hA1 kd=> ?_⟩
    have st:z0L H1 (upd H1 (ρ1 l) (.frz u (.dT kvs))):=
     ⟨fun b ys q=>by rw[z02 (z2f q hx (by intro z;cases z))];exact q,fun b o w q=>by rw[z02 (z2f q hx (by intro z;cases z))];exact q⟩
    have rdF:RD G ρ1 (upd H1 (ρ1 l) (.frz u (.dT kvs))) (.fdc ks vs) (.ref (ρ1 l)):=by
     simp only[RD]
     exact⟨ρ1 l,u,kvs,rfl,z04,hks,RDs.stay st _ _ r fun j hj=>by rw[hvs] at hj;cases hj⟩
    have lbF: ∀j∈labs (.fdc ks vs),j<s0.n/\(F.A0 (ρ1 j)\/F.H0 (ρ1 j)=none):=fun j hj=>by simp only[labs,hvs] at hj;cases hj
    have M2:MR G F.toFx ρ1 (upd H1 (ρ1 l) (.frz u (.dT kvs))) σ tv (s0.put l (.fdc ks vs)):=M0.m.put2 bl.1 bl.2 st (z5F M0.m.kd hx) rdF lbF
    have M3:MR G F.toFx ρ1 (upd H1 (ρ1 l) (.frz u (.dT kvs))) σ (some (.ref (ρ1 l))::tv) ((s0.put l (.fdc ks vs)).psh (.fdc ks vs)):=
     MRL.push ⟨M2,RDs.one rdF,fun j hj=>by simp only[labsL,List.append_nil] at hj;exact lbF j hj⟩
    have M1:MR G (F.frz (ρ1 l) (.frz u (.dT kvs)) bl.2 (M0.m.frb l bl.1)).toFx ρ1 (upd H1 (ρ1 l) (.frz u (.dT kvs))) σ ([some (.ref (ρ1 l))]++tv) ((s0.put l (.fdc ks vs)).psh (.fdc ks vs)):=M3.frzIn z04 ⟨_,_,rfl⟩
    generalize hs1:(s0.put l (.fdc ks vs)).psh (.fdc ks vs)=s1 at M1 W
    generalize hF1:F.frz (ρ1 l) (.frz u (.dT kvs)) bl.2 (M0.m.frb l bl.1)=F1 at M1
    have out: ∀{ρ H s ts vs},MRL G F1.toFx ρ H σ tv s ts vs->MRL G F.toFx ρ H σ tv s ts vs:=by subst hF1;exact fun h=>h.frzOut
    subst hk
    have kd:KD G.K (upd (upd H1 (ρ1 l) (.frz u (.dT kvs))) A1 (.lst [])):=kd
    have hf:=M1.fresh0 hA1
    refine⟨fun i m ys σ' H'=> ∃ρ s,MR G (F1.prot A1 ys hf).toFx ρ H' σ' ((ys.reverse.map some)++(σ++([some (.ref (ρ1 l))]++tv))) s/\wM G F σ tv (z0s kDct g mt me s1.σ.length m i ys.length s) Q,⟨_,ρ1,_,M1.enter hA1 kd k ix,W⟩, ?_⟩
    rintro i m ys σ' H' ⟨ρ2,s2,M2',W2⟩
    have hD:=(MR.turnD (ys':=ys) M2').1
    refine⟨hD, ?_⟩
    have ol:s1.σ.length=σ.length:=M1.sl.length
    have hfz:H' (ρ1 l)=some (.frz u (.dT kvs)):=by subst hF1;exact MR.frzAt' M2'
    have ok:=zcz (tvp:=(ys.reverse.map some)++σ) (a:=ρ1 l) (tv:=tv) (by rw[List.append_assoc];exact M2') hfz i
    simp only[List.length_append,List.length_map,List.length_reverse,<-ol,List.append_assoc] at ok
    unfold z0s at W2
    cases e:kDct.at' i (s2.tm.drop (ys.length+s1.σ.length)) with
    |none=>simp only[e] at W2;exact False.elim W2
    |some o=>
     rw[e] at ok
     cases o with
     |none=>
      simp only[e] at W2 ok
      refine .inl ⟨ok, ?_⟩
      cases ea:z0a (s2.tm.take ys.length).reverse with
      |none=>simp only[ea] at W2;exact False.elim W2
      |some ds=>
       simp only[ea] at W2
       exact W2 _ _ _ (out (MR.leave M2' (kk:=kDct.k) rfl _ ol.symm ea))
     |some d=>
      simp only[e] at W2 ok
      cases m with
      |zero=>exact False.elim W2
      |succ f=>
       dsimp only at W2
       cases e2:asg g d s2.σ with
       |none=>simp only[e2] at W2;exact False.elim W2
       |some σ3=>
        simp only[e2] at W2
        refine .inr ⟨ok.1,fun x H2 y=> ?_⟩
        have hx:=ok.2 x H2 y
        refine⟨F1.prot A1 ys hf,_,ρ2,s2,d,hx,σ3,e2,fun σv' M3=>⟨F1.prot A1 ys hf,_,List.nil_suffix,ρ2,_,M3, ?_⟩⟩
        cases e3:mt {s2 with σ:=σ3} with
        |ex d s4=>simp only[e3] at W2;exact False.elim W2
        |no=>simp only[e3] at W2;exact False.elim W2
        |ok b s4=>
         intro ρ4 H4 M4
         cases b with
         |false=>
          simp only[e3] at W2
          rw[if_neg Bool.false_ne_true]
          exact⟨f,Nat.lt_succ_self _,ρ4,s4,M4,W2⟩
         |true=>
          simp only[e3] at W2
          rw[if_pos rfl]
          by_cases hz:ys.length<sizeLine
          ·rw[if_pos hz] at W2
           refine⟨F1.prot A1 ys hf,_,List.nil_suffix,ρ4,s4,M4, ?_⟩
           cases e5:me s4 with
           |ex d s5=>simp only[e5] at W2;exact False.elim W2
           |no=>simp only[e5] at W2;exact False.elim W2
           |ok y s5=>
            simp only[e5] at W2
            intro ρ5 v H5 M5
            obtain⟨hD5,M6⟩:=MR.turnD (ys':=ys++[v]) M5.push
            refine⟨hD5,hz,f,Nat.lt_succ_self _,ρ5,s5.psh y, ?_, ?_⟩
            ·rw[List.reverse_append,List.reverse_cons,List.reverse_nil,List.nil_append,List.map_append]
             exact M6
            ·rw[List.length_append];exact W2
          ·rw[if_neg hz] at W2;exact False.elim W2
   ·rw[if_neg hc] at W;exact False.elim W
  |_=>exact False.elim W
theorem se_compD{scope:Scope}{own frees:List Str}{ix:List Nat}{ifs:List Expr}{m0:M D}{g:Tg}{mt:M Bool}{me:M D}(hk:X.K=G.K)(hc:X.calm=true)(S:z0G X.env.scope scope own frees X.N ix)(hi:SE X G F iter m0)
 (hg: ∀(F:Fy) cl C s₀ H₀ fp pn,SG (z0r X scope own frees cl C s₀ H₀ fp pn) G F tg g) (ht: ∀(F:Fy) cl C s₀ H₀ fp pn,STs (z0r X scope own frees cl C s₀ H₀ fp pn) G F ifs mt) (he: ∀(F:Fy) cl C s₀ H₀ fp pn,SE (z0r X scope own frees cl C s₀ H₀ fp pn) G F elt me)
 (hs: ∀x,foldedSetIterable iter X.env x=pure x:=by intro _;rfl):SE X G F (.ListComp elt [⟨tg,iter,ifs,0⟩] scope pos) (z0x (z4v m0) g mt me own.length ix):=
 PE.imp0 (z2D (g:=tGx G g) (tt:=tBx G mt) (te:=tMx G me) hc S (za1 hi) (fun cl C s₀ H₀ fp pn pins s σ H v u Q I r ⟨F',q⟩=>hg F' cl C s₀ H₀ fp pn pins s σ H v u Q I r q)
  (fun cl C s₀ H₀ fp pn pins s σ H Q I ⟨F',q⟩=>ht F' cl C s₀ H₀ fp pn pins s σ H Q I q) (fun cl C s₀ H₀ fp pn pins s σ H Q I ⟨F',q⟩=>he F' cl C s₀ H₀ fp pn pins s σ H Q I q) hs) fun σ H Q h=>z7r hk h
end
end Mi
namespace Mi
open PySem L2
end Mi
namespace PySem
end PySem
namespace L2
open PySem PySem.Spec PyProof.Rows
end L2
namespace Mi
open PySem L2 PySem.Spec
structure Dm(K:W.Frag)(C:Addr)(x qual:Str)(st:Stmt)(ps:List Str) where
 f:Addr
 d:FuncData
 F:Fun K x qual st f d
 b:z38 K d ps []
 h:Meth K C x f
end Mi
namespace Mi
open PySem L2 PySem.Spec PyProof.Rows
end Mi
namespace Mi
open PySem L2 PySem.Spec PySem.SeqAt PySem.Calls PyProof.Rows
end Mi
namespace Mi
open PySem L2 PySem.Spec PyProof.Rows
section
variable{X:Cx}{G:Gx}{F:Fy}
theorem RDs.at'{ρ:Nat->Addr}{H:Hp}: ∀{ds:List D} {xs:List V} {i:Nat} {d:D},RDs G ρ H ds xs->ds[i]? =some d->∃x,xs[i]? =some x/\RD G ρ H d x
 |[],xs,i,d,h,e=>by simp at e
 |d::ds,xs,0,d',h,e=>by simp only[RDs] at h;obtain⟨x,q,rfl,h1,_⟩:=h;simp at e;subst e;exact⟨x,rfl,h1⟩
 |d::ds,xs,i+1,d',h,e=>by
  simp only[RDs] at h
  obtain⟨x,q,rfl,h1,h2⟩:=h
  simp only[List.getElem?_cons_succ] at e⊢
  exact RDs.at' h2 e
end
end Mi
namespace L2
open PySem PySem.Spec PyProof.Rows
end L2
namespace Mi
open PySem L2
end Mi
namespace Mi
open PySem L2 PySem.Spec PyProof.Rows PySem F P
end Mi
namespace L2
open PySem PySem.Spec PyProof.Rows
section
variable{X:Cx}
noncomputable def cmpD(ds:List PyData)(i j:Nat):Bool:=(So.ltD (ds.getD i .none) (ds.getD j .none)).getD false
theorem z1p{h:Heap}: ∀{its:List Value} {ds:List PyData} {as:List Addr},ReadsAll h its ds as->∀i (hi:i<its.length),∃bs,Reads h its[i] (ds.getD i .none) bs/\ds.getD i .none∈ds
 |v::its,d::ds,_, .cons r rs,0,_=>⟨_,r,by simp⟩
 |v::its,d::ds,_, .cons r rs,i+1,hi=>by
  obtain⟨bs,h1,h2⟩:=z1p rs i (by simpa using hi)
  exact⟨bs,by simpa using h1,by simpa using Or.inr h2⟩
theorem z4w{ys:List V}{its:List Value}(h:Vals ys its): ∀(q:List Nat),(∀i∈q,i<its.length)->Vals (q.map fun i=>ys.getD i .non) (q.map fun i=>its.getD i Value.none)
 |[],_=> .nil
 |i::q,hq=>by
  refine .cons ?_ (z4w h q fun j hj=>hq j (List.mem_cons_of_mem _ hj))
  have hi:=hq i List.mem_cons_self
  clear hq
  induction h generalizing i with
  |nil=>simp at hi
  |cons r t ih=>
   cases i with
   |zero=>simpa using r
   |succ i=>simpa using ih i (by simpa using hi)
end
end L2
namespace Mi
open PySem L2 PySem.Spec PyProof.Rows
section
variable{X:Cx}{G:Gx}{F:Fy}
noncomputable def srtL(ds:List D):List D:=(So.perm ds.length (cmpD (erL ds))).map fun i=>ds.getD i .non
theorem RDs.len2{ρ:Nat->Addr}{H:Hp}: ∀{ds:List D} {xs:List V},RDs G ρ H ds xs->ds.length=xs.length
 |[],xs,h=>by simp only[RDs] at h;subst h;rfl
 |d::ds,xs,h=>by simp only[RDs] at h;obtain⟨x,q,rfl,_,h2⟩:=h;rw[List.length_cons,List.length_cons,RDs.len2 h2]
theorem RDs.perm{ρ:Nat->Addr}{H:Hp}{ds:List D}{xs:List V}(h:RDs G ρ H ds xs): ∀q:List Nat,(∀i∈q,i<ds.length)->RDs G ρ H (q.map fun i=>ds.getD i .non) (q.map fun i=>xs.getD i .non)
 |[],_=>by simp only[List.map_nil,RDs]
 |i::q,hq=>by
  simp only[List.map_cons,RDs]
  refine⟨_,_,rfl, ?_,RDs.perm h q fun j hj=>hq j (List.mem_cons_of_mem _ hj)⟩
  have hi:=hq i List.mem_cons_self
  obtain⟨x,ex,rx⟩:=RDs.at' (i:=i) (d:=ds.getD i .non) h (by simp[hi])
  rw[show xs.getD i .non=x by rw[List.getD_eq_getElem?_getD,ex];rfl]
  exact rx
theorem z4x{ds:List D}(h:labsL ds=[]): ∀q:List Nat,labsL (q.map fun i=>ds.getD i .non)=[]
 |[]=>by simp only[List.map_nil,labsL]
 |i::q=>by
  simp only[List.map_cons,labsL]
  rw[z4x h q,List.append_nil]
  have gen: ∀(ds:List D) (i:Nat),labsL ds=[]->labs (ds.getD i .non)=[]:=by
   intro ds
   induction ds with
   |nil=>intro i _;simp[labs]
   |cons d ds ih=>
    intro i h
    simp only[labsL,List.append_eq_nil_iff] at h
    cases i with
    |zero=>simpa using h.1
    |succ i=>simpa using ih i h.2
  exact gen ds i h
end
end Mi
namespace L2
open PySem PySem.Spec PyProof.Rows
end L2
namespace Mi
open PySem L2 PySem.Spec PyProof.Rows
end Mi
namespace L2
open PySem PySem.Spec PyProof.Rows
end L2
namespace Mi
open PySem L2
section
variable{X:Cx}{G:Gx}{F:Fy}{a b tg:Expr}{pos:Pos}
noncomputable def zipL(i:Nat)(ds es:List D):Option D:=match ds[i]?,es[i]? with
 |some d,some e=>some (.tup [d,e])
 |_,_=>none
end
end Mi
namespace So
open PySem PySem.W PyProof.Rows PySem.SeqAt
end So
namespace L2
open PySem PySem.Spec PyProof.Rows
section
variable{X:Cx}
noncomputable def prD(ps:List (Int×Int)):List PyData:=ps.map fun q=> .tuple [.int q.1, .int q.2]
end
end L2
namespace Mi
open PySem L2 PySem.Spec PyProof.Rows
end Mi
namespace PySem
section
variable{prog:Program}{w:World}{A:Around}{E:Value->Shared->Prop}{s:Shared}
theorem z7s{d:Addr}{Q:Value->Shared->Prop}(hd:(d==sysModules)=false)(hT:s.TypeIs (.ref d) "dict")(hQ: ∀h',h'.IsItemsView s.heap.objs.size d->(∀b o,s.heap.get? b=some o->h'.get? b=some o)->Q (.ref s.heap.objs.size) {s with heap:=h'}):wpAny (model prog w) A (call (.builtin "dict.items") [.ref d]) Q E s:=by
 refine wpAny_call_entry F.slot_dict_items hT F.entry_dict_items ?_ (F.args_dict_items_1 _)
 unfold Builtin.«dict.items» Builtin.Dict.noArgs
 refine wpAny_bind (wpAny_bind (wpAny_notOrdered_dict hT (show wpAny _ _ (pure d) _ _ s from wpAny_pure ?_)))
 unfold Builtin.Dict.showsAll
 rw[if_neg (by rw[hd];exact Bool.false_ne_true)]
 exact wpAny_bind (wpAny_pure (wpAny_bind (wpAny_newObj_type (wpAny_pure ⟨_,rfl,hQ _ ⟨_,Heap.get?_push_size _ rfl,rfl,rfl⟩ fun _ _ q=>Heap.get?_push_of_some _ q⟩))))
theorem z7t{v d:Addr}{o:Obj}{es:Array DictEntry}{ep:Nat}{Q:Value->Shared->Prop}(hv:s.heap.IsItemsView v d)(ho:s.heap.get? d=some o)(hdat:o.data= .dict es ep)
 (hQ: ∀h',IsItemIter h' s.heap.objs.size d 0 es.size ep .none .none->(∀b o,s.heap.get? b=some o->h'.get? b=some o)->Q (.ref s.heap.objs.size) {s with heap:=h'}):wpAny (model prog w) A (pyIter (.ref v)) Q E s:=by
 obtain⟨ov,hov,hcv,hdv⟩:=id hv
 have hown:Builtin.Dict_items.ownsTuple "dict_itemiterator" =true:=by decide
 refine wpAny_pyIter_slot hv.typeIs F.slot_dict_items_iter (wpAny_call_entry F.slot_dict_items_iter hv.typeIs F.entry_dict_items_iter ?_ (F.args_dict_items_iter_1 _))
 unfold Builtin.«dict_items.__iter__» Builtin.Dict_items.dictOf Builtin.Dict_items.newIterator
 refine wpAny_bind (wpAny_pure (wpAny_bind (wpAny_bind (wpAny_field hov hdv (x:= .ref d) rfl ?_))))
 refine wpAny_pure (wpAny_bind (wpAny_bind (wpAny_dictEntries ho hdat (wpAny_bind (wpAny_dictEpoch ho hdat ?_)))))
 simp only[hown,if_true]
 refine wpAny_newObj_type (wpAny_pure ?_) (by simp only[sizeOk,Builtin.Dict_items.ownedTupleFields,List.size_toArray,List.length_append,List.length_cons,List.length_nil,sizeLine_eq];lia)
 refine⟨_,rfl, "dict_itemiterator",_,⟨_,Heap.get?_push_size _ rfl,rfl⟩,F.slot_dict_itemiterator_next.lookup,hQ _ ?_ fun _ _ q=>Heap.get?_push_of_some _ q⟩
 have:=Heap.get?_push_size s.heap (o:={cls:= .type "dict_itemiterator",data:= .fields #[.none, .bool false, .ref d, .int 0 0, .int es.size 0, .int ep 0, .none, .none]}) rfl
 unfold IsItemIter
 simpa[rawInt,Builtin.Dict_items.ownedTupleFields] using this
theorem z7u{it d:Addr}{i ep:Nat}{od:Obj}{es:Array DictEntry}{en:DictEntry}{ok ov:Value}{Q:Option Value->Shared->Prop}(hit:IsItemIter s.heap it d i es.size ep ok ov)(hod:s.heap.get? d=some od)(hdd:od.data= .dict es ep)(hx:es[i]? =some en)
 (hQ: ∀h',IsItemIterOut h' it d (i+1) es.size ep en.key en.val s.heap.objs.size->h'.get? s.heap.objs.size=some {cls:= .type "tuple",data:= .seq #[en.key,en.val]}->(∀b o,b≠it->s.heap.get? b=some o->h'.get? b=some o)->Q (some (.ref s.heap.objs.size)) {s with heap:=h'}):
 wpAny (model prog w) A (pyNext (.ref it)) Q E s:=by
 obtain⟨hp,g,dr,tk,os⟩:=s
 have hT:Shared.TypeIs ⟨hp,g,dr,tk,os⟩ (.ref it) "dict_itemiterator" :=⟨_,hit,rfl⟩
 have hown:Builtin.Dict_items.ownsTuple "dict_itemiterator" =true:=by decide
 have hlt:i<es.size:=by
  rcases Nat.lt_or_ge i es.size with h|h
  ·exact h
  ·simp[Array.getElem?_eq_none h] at hx
 have hen:es[i]=en:=by rw[Array.getElem?_eq_getElem hlt] at hx;exact Option.some.inj hx
 unfold pyNext
 refine wpAny_bind (wpAny_attempt (wpAny_callSpecial?_slot (name:=Str.ofString "__next__") hT F.slot_dict_itemiterator_next (wpAny_call_entry F.slot_dict_itemiterator_next hT F.entry_dict_itemiterator_next ?_ (F.args_dict_itemiterator_next_1 _))))
 refine wpAny_bind (wpAny_pure (wpAny_bind (wpAny_bind ?_)))
 first|refine wpAny_bind (wpAny_typeNameOfWhole_itemiter hT (wpAny_pure (wpAny_bind (wpAny_fieldsOf hit rfl ?_))))|refine wpAny_bind (wpAny_typeNameOf_itemiter hT (wpAny_pure (wpAny_bind (wpAny_fieldsOf hit rfl ?_))))
 simp only[hown,if_true]
 show wpAny _ _ (if(Value.ref d==Value.none)=true then _ else _) _ _ _
 rw[if_neg (show ¬((Value.ref d==Value.none)=true) from Bool.false_ne_true)]
 refine wpAny_bind (wpAny_pure (wpAny_bind (wpAny_dictEntries hod hdd ?_)))
 rw[if_neg (by simp)]
 refine wpAny_bind (wpAny_pure (wpAny_bind (wpAny_dictEpoch hod hdd ?_)))
 rw[if_neg (by simp)]
 refine wpAny_pure ?_
 simp only[show ¬((i:Int)<0) from by lia,if_false,Int.toNat_natCast,Array.getElem?_eq_getElem hlt,hen]
 refine wpAny_bind ?_
 first|refine wpAny_bind (wpAny_typeNameOfWhole_itemiter hT (wpAny_pure (wpAny_bind (wpAny_isOneOf_itemiter hT ?_))))|refine wpAny_bind (wpAny_typeNameOf_itemiter hT (wpAny_pure (wpAny_bind (wpAny_isOneOf_itemiter hT ?_))))
 show wpAny _ _ (setField (.ref it) 3 (rawInt ((i:Int)+1))>>=_) _ _ ⟨hp,g,dr,tk,os⟩
 refine wpAny_bind (wpAny_setField_rec hit (by simp) fun k1 f1 t1=> ?_)
 have t1:Heap.SameBut it hp k1:=t1
 have f1:IsItemIter k1 it d (i+1) es.size ep ok ov:=by
  have e:((i+1:Nat):Int)=(i:Int)+1:=by lia
  unfold IsItemIter;rw[e];simpa[rawInt] using f1
 have hT1:Shared.TypeIs ⟨k1,g,dr,tk,os⟩ (.ref it) "dict_itemiterator" :=⟨_,f1,rfl⟩
 refine wpAny_bind (wpAny_holding (wpAny_bind (wpAny_isOneOf_itemiter hT1 (wpAny_bind (wpAny_isOneOf_itemiter hT1 ?_)))))
 show wpAny _ _ (Builtin.Dict_items.pairFromOwner (.ref it) 6 en.key en.val) _ _ ⟨k1,g,dr,tk,os⟩
 unfold Builtin.Dict_items.pairFromOwner
 refine wpAny_bind (wpAny_newTuple ?_)
 have z1:k1.objs.size=hp.objs.size:=t1.1
 have hil:it<hp.objs.size:=Heap.lt_size hit
 have f2:IsItemIter (k1.push {cls:= .type "tuple",data:= .seq #[en.key,en.val]}) it d (i+1) es.size ep ok ov:=Heap.get?_push_of_some _ f1
 generalize hk2:k1.push {cls:= .type "tuple",data:= .seq #[en.key,en.val]}=k2 at f2
 have p2:k2.get? hp.objs.size=some {cls:= .type "tuple",data:= .seq #[en.key,en.val]}:=by rw[<-hk2,<-z1];exact Heap.get?_push_size _ rfl
 have o2: ∀b o,b≠it->hp.get? b=some o->k2.get? b=some o:=fun b o hb e=>by rw[<-hk2];exact Heap.get?_push_of_some _ (t1.extBut b o hb e)
 show wpAny _ _ (Builtin.Dict_items.ownedTupleIsFree (.ref it)>>=_) _ _ ⟨k2,g,dr,tk,os⟩
 rw[z1]
 unfold Builtin.Dict_items.ownedTupleIsFree
 refine wpAny_bind (wpAny_bind (wpAny_field f2 rfl (x:= .none) rfl (wpAny_pure ?_)))
 simp only[if_true]
 refine wpAny_bind (wpAny_field f2 rfl (x:=ok) rfl (wpAny_bind (wpAny_field f2 rfl (x:=ov) rfl (wpAny_bind (wpAny_setField_rec f2 (by simp) fun k3 f3 t3=> ?_)))))
 have t3:Heap.SameBut it k2 k3:=t3
 have f3:IsItemIter k3 it d (i+1) es.size ep en.key ov:=f3
 refine wpAny_bind (wpAny_setField_rec f3 (by simp) fun k4 f4 t4=> ?_)
 have t4:Heap.SameBut it k3 k4:=t4
 have f4:IsItemIter k4 it d (i+1) es.size ep en.key en.val:=f4
 refine wpAny_bind (wpAny_setField_rec f4 (by simp) fun k5 f5 t5=> ?_)
 have t5:Heap.SameBut it k4 k5:=t5
 have f5:IsItemIterOut k5 it d (i+1) es.size ep en.key en.val hp.objs.size:=f5
 refine wpAny_bind (wpAny_setField_rec f5 (by simp) fun k6 f6 t6=> ?_)
 have t6:Heap.SameBut it k5 k6:=t6
 have f6:IsItemIterOut k6 it d (i+1) es.size ep en.key en.val hp.objs.size:=f6
 have on: ∀b o,b≠it->k2.get? b=some o->k6.get? b=some o:=fun b o hb e=>t6.extBut b o hb (t5.extBut b o hb (t4.extBut b o hb (t3.extBut b o hb e)))
 exact wpAny_bind (wpAny_letGo (wpAny_pure (wpAny_pure ⟨_,rfl,wpAny_pure (hQ k6 f6 (on _ _ (Nat.ne_of_gt hil) p2) fun b o hb e=>on b o hb (o2 b o hb e))⟩)))
theorem z8C{it d:Addr}{i ep:Nat}{od:Obj}{es:Array DictEntry}{ok ov:Value}{Q:Option Value->Shared->Prop}(hh:A.handled=none)(hit:IsItemIter s.heap it d i es.size ep ok ov)(hod:s.heap.get? d=some od)(hdd:od.data= .dict es ep)(hge:es.size<=i)
 (hQ: ∀h',Heap.ExtBut it s.heap h'->Q none {s with heap:=h'}):wpAny (model prog w) A (pyNext (.ref it)) Q E s:=by
 have hT:s.TypeIs (.ref it) "dict_itemiterator" :=⟨_,hit,rfl⟩
 have hown:Builtin.Dict_items.ownsTuple "dict_itemiterator" =true:=by decide
 unfold pyNext
 refine wpAny_bind (wpAny_attempt (wpAny_callSpecial?_slot (name:=Str.ofString "__next__") hT F.slot_dict_itemiterator_next (wpAny_call_entry F.slot_dict_itemiterator_next hT F.entry_dict_itemiterator_next ?_ (F.args_dict_itemiterator_next_1 _))))
 refine wpAny_bind (wpAny_pure (wpAny_bind (wpAny_bind ?_)))
 first|refine wpAny_bind (wpAny_typeNameOfWhole_itemiter hT (wpAny_pure (wpAny_bind (wpAny_fieldsOf hit rfl ?_))))|refine wpAny_bind (wpAny_typeNameOf_itemiter hT (wpAny_pure (wpAny_bind (wpAny_fieldsOf hit rfl ?_))))
 simp only[hown,if_true]
 show wpAny _ _ (if(Value.ref d==Value.none)=true then _ else _) _ _ s
 rw[if_neg (show ¬((Value.ref d==Value.none)=true) from Bool.false_ne_true)]
 refine wpAny_bind (wpAny_pure (wpAny_bind (wpAny_dictEntries hod hdd ?_)))
 rw[if_neg (by simp)]
 refine wpAny_bind (wpAny_pure (wpAny_bind (wpAny_dictEpoch hod hdd ?_)))
 rw[if_neg (by simp)]
 refine wpAny_pure ?_
 simp only[show ¬((i:Int)<0) from by lia,if_false,Int.toNat_natCast,Array.getElem?_eq_none hge]
 refine wpAny_bind ?_
 first|refine wpAny_bind (wpAny_typeNameOfWhole_itemiter hT (wpAny_pure ?_))|refine wpAny_bind (wpAny_typeNameOf_itemiter hT (wpAny_pure ?_))
 show wpAny _ _ (setField (.ref it) 2 .none>>=_) _ _ s
 refine wpAny_bind (wpAny_setField hit rfl (by simp) ?_)
 show wpAny _ _ (newExc (.type "StopIteration") []>>=_) _ _ _
 simp only[newExc,newTuple]
 refine wpAny_bind (wpAny_bind (wpAny_newObj_type (wpAny_bind (m:=firstArgMember _ _) (wpAny_of_eq (a:=Value.none) (by first|rfl|(simp only[firstArgMember];rfl)) (wpAny_newObj_type ?_ (by size_fits)))) (by size_fits)))
 simp only[raiseNew]
 refine wpAny_bind (wpAny_handled ?_)
 rw[show A.in1.handled=none from hh]
 refine wpAny_bind (wpAny_pure (wpAny_throw ?_))
 refine wpAny_bind (wpAny_isInstance (T:= "StopIteration") (b:=true) ⟨_,Heap.get?_push_size _ rfl,rfl⟩ isSubtype_stop (wpAny_pure (hQ _ ?_)))
 exact((Heap.SameBut.update ..).extBut.push _).push _
end
end PySem
namespace L2
open PySem PySem.Spec PyProof.Rows
noncomputable def ItDI(K:W.Frag)(a:Addr)(o:Obj)(kvs:List (NK×V)):It:=
 ⟨fun i H=>i<kvs.length/\H a=some (.frz o (.dT kvs)),fun i H x H'=> ∃p b k v,H p=none/\x= .ref p/\H'=upd H p (.tup [.ref b,v])/\kvs[i]? =some (k,v)/\TK H k b/\∀c ob,K.lookup c=some ob->H' c=none,fun i H=>kvs.length<=i/\H a=some (.frz o (.dT kvs))⟩
theorem z7v{P:Program}{w:World}{H:Hp}{h:Heap}{a:Addr}{o:Obj}{kvs:List (NK×V)}(ok:HOk P w H h)(e:H a=some (.frz o (.dT kvs))):
 h.get? a=some o/\∃es ep,o.data= .dict es ep/\es.size=kvs.length/\
  ∀(i:Nat) (k:NK) (v:V),kvs[i]? =some (k,v)->∃en b,es[i]? =some en/\en.key= .ref b/\TK H k b/\RelV v en.val:=by
 obtain⟨ho,z,y,xs,r,o',es,ep,e',c,d,l,nd⟩:=ok a _ e
 rw[ho] at e'
 cases e'
 have hl:kvs.length=xs.length:=Paired.length r
 have hs:es.size=xs.length:=size_of_entries l
 refine⟨ho,es,ep,d,by lia,fun i k v q=> ?_⟩
 obtain⟨⟨k',b,u⟩,q1,q2,q3,q4⟩:=Paired.get r i _ q
 have q2:k=k':=q2
 subst q2
 have hi:=entry_at l i
 rw[q1] at hi
 exact⟨_,b,hi,rfl,q3,q4⟩
theorem z7w{P:Program}{w:World}{K:W.Frag}{elts:List Expr}{x1:Nat}{tpos:Pos}(a it:Addr)(o:Obj)(es:Array DictEntry)(ep:Nat)(hd:o.data= .dict es ep)(kvs:List (NK×V)):
 Turn P w K (.Tuple elts x1 tpos) (ItDI K a o kvs) [it] it (fun i h=> ∃ok ov,IsItemIter h it a i es.size ep ok ov) where
 mem:=by simp
 obj:=fun i h st b hb=>by
  have e:b=it:=by simpa using hb
  subst e
  obtain⟨_,_,st⟩:=st
  exact⟨_,st,fun v z=>by
   have z':Data.fields _=Data.cell v:=z
   cases z'⟩
 keep:=fun i h h' st k=>by
  obtain⟨ok,ov,st⟩:=st
  exact⟨ok,ov,k it (by simp) _ st⟩
 item:=by
  intro X hP hw hK hc i pins s σ H E I hf st hg
  subst hP hw hK
  obtain⟨hi,hq⟩:=hg
  obtain⟨ok,ov,st⟩:=st
  obtain⟨ho,es',ep',hd',hsz,hat⟩:=z7v I.hok hq
  rw[hd] at hd'
  cases hd'
  obtain⟨⟨k,v⟩,hk⟩: ∃p,kvs[i]? =some p:=⟨kvs[i],by simp[hi]⟩
  obtain⟨en,b,he,hb,hB,hv⟩:=hat i k v hk
  refine z7u st ho hd he fun h1 f1 p1 k1=>⟨_,rfl,wpAny_letOwnedTupleGo_items f1 fun h2 f2 t2=> ?_⟩
  have t2:Heap.SameBut it h1 h2:=t2
  have hil:it<s.heap.objs.size:=Heap.lt_size st
  have p2:h2.get? s.heap.objs.size=some {cls:= .type "tuple",data:= .seq #[en.key,en.val]}:=(t2.2 _ (Nat.ne_of_gt hil)).trans p1
  have fr: ∀c∈[it],c≠s.heap.objs.size:=fun c hc=>by
   have hc:c=it:=by simpa using hc
   subst hc;exact Nat.ne_of_lt hil
  have I1:Inv X pins σ (upd H s.heap.objs.size (.tup [.ref b,v])) {s with heap:=s.heap.push {cls:= .type "tuple",data:= .seq #[en.key,en.val]},toks:=s.toks}:=I.laid (t':=s.toks) (o:= .tup [.ref b,v]) (fun b ob q=>Heap.get?_push_of_some _ q) (Nat.le_refl _) ⟨by show 2<=sizeLine;decide,[en.key,en.val], .cons hb (.cons hv .nil),IsTup.new _ _⟩
  have f3: ∀c∈[it],FpOk X pins (upd H s.heap.objs.size (.tup [.ref b,v])) c:=fun c hc=>⟨by rw[z02 (fr c hc)];exact(hf c hc).1,(hf c hc).2⟩
  have I2:=I1.turnedL (h':=h2) (t':=s.toks) (fun c ob hc q=>by
   have hc:c≠it:=by simpa using hc
   rcases Heap.get?_push_cases (show(s.heap.push {cls:= .type "tuple",data:= .seq #[en.key,en.val]}).get? c=some ob from q) with⟨rfl,rfl⟩|q'
   ·exact p2
   ·exact(t2.2 c hc).trans (k1 c ob hc q')) f3
  exact⟨.ref s.heap.objs.size,_,I2,rfl,⟨_,b,k,v,I.hok.fresh (Nat.le_refl _),rfl,rfl,hk,hB,fun c ob q=>(I2.bs c ob (I2.ok.mod.kin c ob q)).2⟩,⟨_,_,f2⟩,fun c hc=>(f3 c hc).1⟩
 done:=by
  intro X hP hw hK hc i pins s σ H E I hf st hg
  subst hP hw hK
  obtain⟨hi,hq⟩:=hg
  obtain⟨ok,ov,st⟩:=st
  obtain⟨ho,es',ep',hd',hsz,hat⟩:=z7v I.hok hq
  rw[hd] at hd'
  cases hd'
  exact z8C (I.ok.hd hc) st ho hd (by lia) fun h' eb=>⟨rfl,I.turnedL (t':=s.toks) (fun c ob hb q=>eb c ob (by simpa using hb) q) hf⟩
 self:=fun A i s Q E st h=>by
  obtain⟨_,_,st⟩:=st
  exact W.kcp_self st h
section
variable{X:Cx}
noncomputable def zcA(K:W.Frag)(td:TE):TI:=fun σ H R=>td σ H fun x H1=> ∃a kvs,x= .ref a/\H1 a=some (.dT kvs)/\∀o,R (ItDI K a o kvs) (upd H1 a (.frz o (.dT kvs)))
theorem zap{l:Expr}{tl:TE}{elts:List Expr}{x1:Nat}{tpos apos cpos:Pos}(hl:PE X l tl)(hbase:attributeBase l "items" X.env (eval l X.env)=eval l X.env:=by rfl)
 (hfew:((backTo cpos (starEach [] X.env)).all (fun x=> !x.1)&&(backToKw cpos (keywordEach [] X.env)).all (fun x=>x.1.isSome)&&decide (([]:List Expr).length+([]:List Keyword).length+(if([]:List Keyword).isEmpty then 0 else 1)<30))=true:=by rfl)
 (hline:(apos.endLine==cpos.line)=true:=by rfl):PI X (.Tuple elts x1 tpos) (.Call (.Attribute l "items" apos) [] [] cpos) (zcA X.K tl):=by
 intro pins s σ H R I h
 refine wpAny_Call_method hbase hfew hline PySem.F.plainAttrs_dict PySem.F.slot_dict_items PySem.F.type_dict_items (thn (hl pins s σ H _ I h) fun u s1 ⟨x,H1,I1,rx,a,kvs,ex,ha,q⟩=> ?_)
 subst ex
 obtain rfl:u=Value.ref a:=rx
 obtain⟨t1,t2,_⟩:=z92 I1 (.inr ⟨kvs, .inl ha⟩)
 refine⟨t1,t2,PyProof.Rows.callWith_method0 ?_⟩
 obtain⟨o,es,ep,ho,hc,hd,hy,hsz,I2⟩:=I1.freeze ha
 refine z7s hy t1 fun h1 hv k1=> ?_
 refine z7t hv (k1 _ _ ho) hd fun h2 f2 k2=> ?_
 have I3:Inv X pins σ (upd H1 a (.frz o (.dT kvs))) {s1 with heap:=h1}:=I2.kept (t':=s1.toks) k1
 have I4:Inv X pins σ (upd H1 a (.frz o (.dT kvs))) {s1 with heap:=h2}:=I3.kept (t':=s1.toks) k2
 refine⟨h1.objs.size,[h1.objs.size],_,ItDI X.K a o kvs,_,rfl,I4,z7w a _ o es ep hd kvs,⟨_,_,f2⟩,fun b hb=> ?_,q o⟩
 have e:b=h1.objs.size:=by simpa using hb
 subst e
 exact I3.fpOk (Nat.le_refl _) I3.fresh
end
end L2
namespace Mi
open PySem L2
noncomputable def zcB(i:Nat):List (Option D)->Option (Option D)
 |some (.fdc ks vs)::_=>some (zipL i ks vs)
 |_=>none
noncomputable def kDit:ItK:=⟨1,zcB,z9e⟩
noncomputable def z4y(m:M D):M ItK:=bd m fun d s=>match d with
 | .dct l ks vs=>if isT ks=true/\labsL vs=[] then .ok kDit ((s.put l (.fdc ks vs)).psh (.fdc ks vs)) else .no
 |_=> .no
section
variable{G:Gx}{F:Fy}{ρ:Nat->Addr}{H:Hp}{σv tv:List (Option V)}{s:Stt}{a:Addr}
theorem zcC{u:Obj}{kvs:List (NK×V)}{tvp:List (Option V)}{F':Fx}(M:MR G F' ρ H σv (tvp++([some (.ref a)]++tv)) s)(h:H a=some (.frz u (.dT kvs)))(i:Nat):match kDit.at' i (s.tm.drop tvp.length) with
 |none=>True
 |some none=>(ItDI G.K a u kvs).stop i H
 |some (some d)=>(ItDI G.K a u kvs).go i H/\∀x H',(ItDI G.K a u kvs).yld i H x H'->MRL G F' ρ H' σv (tvp++([some (.ref a)]++tv)) s [d] [x]:=by
 dsimp only[kDit]
 cases e:s.tm.drop tvp.length with
 |nil=>trivial
 |cons c0 r=>
  cases c0 with
  |none=>trivial
  |some c=>
   obtain⟨hc,lb⟩:=MR.head (s:=s.popn tvp.length) M.popn e
   cases c with
   |fdc ks vs=>
    simp only[zcB]
    simp only[RD] at hc
    obtain⟨a',u',kvs',ea,hx,hk,rv⟩:=hc
    cases ea
    rw[h] at hx
    cases hx
    subst hk
    have lv:=RDs.len2 rv
    simp only[List.length_map] at lv
    simp only[zipL]
    cases e3:kvs[i]? with
    |none=>
     rw[List.getElem?_map,e3]
     exact⟨List.getElem?_eq_none_iff.mp e3,h⟩
    |some p=>
     have hi:=(List.getElem?_eq_some_iff.mp e3).1
     cases e4:vs[i]? with
     |none=>exact absurd (List.getElem?_eq_none_iff.mp e4) (by lia)
     |some d=>
      rw[List.getElem?_map,e3]
      refine⟨⟨hi,h⟩, ?_⟩
      rintro x H' ⟨q,b,k,v,hq,rfl,rfl,hk,hb,kd⟩
      rw[hk] at e3
      cases e3
      have sm:=Same.new (.tup [.ref b,v]) hq
      obtain⟨w,ew,rw'⟩:=rv.get i d e4
      have ev:w=v:=by
       rw[List.getElem?_map,hk] at ew
       exact(Option.some.inj ew).symm
      subst ev
      refine⟨M.same sm kd,RDs.one ?_,fun l hl=> ?_⟩
      ·simp only[RD]
       refine⟨q,_,rfl,z04, ?_⟩
       have r1:=(RDs.one rw').same sm
       have r2:=(RDs.one (zcr (G:=G) (ρ:=ρ) hb)).same sm
       simp only[RDs] at r1 r2⊢
       obtain⟨_,_,e5,h1,_⟩:=r1
       cases e5
       obtain⟨_,_,e6,h2,_⟩:=r2
       cases e6
       exact⟨_,_,rfl,h2,_,_,rfl,h1,rfl⟩
      ·simp only[labsL,labs,List.append_nil,z2K,List.nil_append] at hl
       exact lb l (by simp only[labs];exact labsL_mem (List.mem_of_getElem? e4) l hl)
   |_=>trivial
end
section
variable{X:Cx}{G:Gx}{F:Fy}{tg iter elt:Expr}{pos:Pos}
theorem z6g{K:W.Frag}{k:Nat}{ix:List Nat}{m0:M D}{g:Tg}{mt:M Bool}{me:M D}{σ:St}{H:Hp}{Q:VK}(hk:K=G.K)(h:tM G F (z0x (z4y m0) g mt me k ix) σ H Q):z5B K (zcA K (tM G F m0)) (tGx G g) (tBx G mt) (tMx G me) k ix σ H Q:=by
 obtain⟨tv,hsf,ρ,s,M,W⟩:=h
 refine⟨tv,hsf,ρ,s,M, ?_⟩
 unfold z0x z4y bd at W
 cases em:m0 s with
 |ex d s1=>rw[em] at W;exact W
 |no=>rw[em] at W;exact W
 |ok t s0=>
  rw[em] at W
  dsimp only at W
  intro ρ1 v H1 M0
  cases t with
  |dct l ks vs=>
   dsimp only at W
   by_cases hc:isT ks=true/\labsL vs=[]
   ·rw[if_pos hc] at W
    dsimp only at W
    obtain⟨hT,hvs⟩:=hc
    have rd0:=M0.rd1
    obtain⟨rfl,kvs,hx,hks,r⟩:=rd0.dctq hT
    have bl:=M0.lb1 l (by simp only[labs];exact List.mem_cons_self ..)
    refine⟨ρ1 l,kvs,rfl,hx,fun u A1 hA1 kd=> ?_⟩
    have st:z0L H1 (upd H1 (ρ1 l) (.frz u (.dT kvs))):=
     ⟨fun b ys q=>by rw[z02 (z2f q hx (by intro z;cases z))];exact q,fun b o w q=>by rw[z02 (z2f q hx (by intro z;cases z))];exact q⟩
    have rdF:RD G ρ1 (upd H1 (ρ1 l) (.frz u (.dT kvs))) (.fdc ks vs) (.ref (ρ1 l)):=by
     simp only[RD]
     exact⟨ρ1 l,u,kvs,rfl,z04,hks,RDs.stay st _ _ r fun j hj=>by rw[hvs] at hj;cases hj⟩
    have lbF: ∀j∈labs (.fdc ks vs),j<s0.n/\(F.A0 (ρ1 j)\/F.H0 (ρ1 j)=none):=fun j hj=>by simp only[labs,hvs] at hj;cases hj
    have M2:MR G F.toFx ρ1 (upd H1 (ρ1 l) (.frz u (.dT kvs))) σ tv (s0.put l (.fdc ks vs)):=M0.m.put2 bl.1 bl.2 st (z5F M0.m.kd hx) rdF lbF
    have M3:MR G F.toFx ρ1 (upd H1 (ρ1 l) (.frz u (.dT kvs))) σ (some (.ref (ρ1 l))::tv) ((s0.put l (.fdc ks vs)).psh (.fdc ks vs)):=
     MRL.push ⟨M2,RDs.one rdF,fun j hj=>by simp only[labsL,List.append_nil] at hj;exact lbF j hj⟩
    have M1:MR G (F.frz (ρ1 l) (.frz u (.dT kvs)) bl.2 (M0.m.frb l bl.1)).toFx ρ1 (upd H1 (ρ1 l) (.frz u (.dT kvs))) σ ([some (.ref (ρ1 l))]++tv) ((s0.put l (.fdc ks vs)).psh (.fdc ks vs)):=M3.frzIn z04 ⟨_,_,rfl⟩
    generalize hs1:(s0.put l (.fdc ks vs)).psh (.fdc ks vs)=s1 at M1 W
    generalize hF1:F.frz (ρ1 l) (.frz u (.dT kvs)) bl.2 (M0.m.frb l bl.1)=F1 at M1
    have out: ∀{ρ H s ts vs},MRL G F1.toFx ρ H σ tv s ts vs->MRL G F.toFx ρ H σ tv s ts vs:=by subst hF1;exact fun h=>h.frzOut
    subst hk
    have kd:KD G.K (upd (upd H1 (ρ1 l) (.frz u (.dT kvs))) A1 (.lst [])):=kd
    have hf:=M1.fresh0 hA1
    refine⟨fun i m ys σ' H'=> ∃ρ s,MR G (F1.prot A1 ys hf).toFx ρ H' σ' ((ys.reverse.map some)++(σ++([some (.ref (ρ1 l))]++tv))) s/\wM G F σ tv (z0s kDit g mt me s1.σ.length m i ys.length s) Q,⟨_,ρ1,_,M1.enter hA1 kd k ix,W⟩, ?_⟩
    rintro i m ys σ' H' ⟨ρ2,s2,M2',W2⟩
    have hD:=(MR.turnD (ys':=ys) M2').1
    refine⟨hD, ?_⟩
    have ol:s1.σ.length=σ.length:=M1.sl.length
    have hfz:H' (ρ1 l)=some (.frz u (.dT kvs)):=by subst hF1;exact MR.frzAt' M2'
    have ok:=zcC (tvp:=(ys.reverse.map some)++σ) (a:=ρ1 l) (tv:=tv) (by rw[List.append_assoc];exact M2') hfz i
    simp only[List.length_append,List.length_map,List.length_reverse,<-ol,List.append_assoc] at ok
    unfold z0s at W2
    cases e:kDit.at' i (s2.tm.drop (ys.length+s1.σ.length)) with
    |none=>simp only[e] at W2;exact False.elim W2
    |some o=>
     rw[e] at ok
     cases o with
     |none=>
      simp only[e] at W2 ok
      refine .inl ⟨ok, ?_⟩
      cases ea:z0a (s2.tm.take ys.length).reverse with
      |none=>simp only[ea] at W2;exact False.elim W2
      |some ds=>
       simp only[ea] at W2
       exact W2 _ _ _ (out (MR.leave M2' (kk:=kDit.k) rfl _ ol.symm ea))
     |some d=>
      simp only[e] at W2 ok
      cases m with
      |zero=>exact False.elim W2
      |succ f=>
       dsimp only at W2
       cases e2:asg g d s2.σ with
       |none=>simp only[e2] at W2;exact False.elim W2
       |some σ3=>
        simp only[e2] at W2
        refine .inr ⟨ok.1,fun x H2 y=> ?_⟩
        have hx:=ok.2 x H2 y
        refine⟨F1.prot A1 ys hf,_,ρ2,s2,d,hx,σ3,e2,fun σv' M3=>⟨F1.prot A1 ys hf,_,List.nil_suffix,ρ2,_,M3, ?_⟩⟩
        cases e3:mt {s2 with σ:=σ3} with
        |ex d s4=>simp only[e3] at W2;exact False.elim W2
        |no=>simp only[e3] at W2;exact False.elim W2
        |ok b s4=>
         intro ρ4 H4 M4
         cases b with
         |false=>
          simp only[e3] at W2
          rw[if_neg Bool.false_ne_true]
          exact⟨f,Nat.lt_succ_self _,ρ4,s4,M4,W2⟩
         |true=>
          simp only[e3] at W2
          rw[if_pos rfl]
          by_cases hz:ys.length<sizeLine
          ·rw[if_pos hz] at W2
           refine⟨F1.prot A1 ys hf,_,List.nil_suffix,ρ4,s4,M4, ?_⟩
           cases e5:me s4 with
           |ex d s5=>simp only[e5] at W2;exact False.elim W2
           |no=>simp only[e5] at W2;exact False.elim W2
           |ok y s5=>
            simp only[e5] at W2
            intro ρ5 v H5 M5
            obtain⟨hD5,M6⟩:=MR.turnD (ys':=ys++[v]) M5.push
            refine⟨hD5,hz,f,Nat.lt_succ_self _,ρ5,s5.psh y, ?_, ?_⟩
            ·rw[List.reverse_append,List.reverse_cons,List.reverse_nil,List.nil_append,List.map_append]
             exact M6
            ·rw[List.length_append];exact W2
          ·rw[if_neg hz] at W2;exact False.elim W2
   ·rw[if_neg hc] at W;exact False.elim W
  |_=>exact False.elim W
theorem se_compDI{scope:Scope}{own frees:List Str}{ix:List Nat}{ifs:List Expr}{m0:M D}{g:Tg}{mt:M Bool}{me:M D}{elts:List Expr}{x1:Nat}{tpos apos cpos:Pos}(hk:X.K=G.K)(hc:X.calm=true)(S:z0G X.env.scope scope own frees X.N ix)(hi:SE X G F iter m0)
 (hg: ∀(F:Fy) cl C s₀ H₀ fp pn,SG (z0r X scope own frees cl C s₀ H₀ fp pn) G F (.Tuple elts x1 tpos) g) (ht: ∀(F:Fy) cl C s₀ H₀ fp pn,STs (z0r X scope own frees cl C s₀ H₀ fp pn) G F ifs mt) (he: ∀(F:Fy) cl C s₀ H₀ fp pn,SE (z0r X scope own frees cl C s₀ H₀ fp pn) G F elt me)
 (hs: ∀x,foldedSetIterable (.Call (.Attribute iter "items" apos) [] [] cpos) X.env x=pure x:=by intro _;rfl) (hbase:attributeBase iter "items" X.env (eval iter X.env)=eval iter X.env:=by rfl)
 (hfew:((backTo cpos (starEach [] X.env)).all (fun x=> !x.1)&&(backToKw cpos (keywordEach [] X.env)).all (fun x=>x.1.isSome)&&decide (([]:List Expr).length+([]:List Keyword).length+(if([]:List Keyword).isEmpty then 0 else 1)<30))=true:=by rfl)
 (hline:(apos.endLine==cpos.line)=true:=by rfl):SE X G F (.ListComp elt [⟨.Tuple elts x1 tpos, .Call (.Attribute iter "items" apos) [] [] cpos,ifs,0⟩] scope pos) (z0x (z4y m0) g mt me own.length ix):=
 PE.imp0 (z2D (g:=tGx G g) (tt:=tBx G mt) (te:=tMx G me) hc S (zap hi hbase hfew hline) (fun cl C s₀ H₀ fp pn pins s σ H v u Q I r ⟨F',q⟩=>hg F' cl C s₀ H₀ fp pn pins s σ H v u Q I r q)
  (fun cl C s₀ H₀ fp pn pins s σ H Q I ⟨F',q⟩=>ht F' cl C s₀ H₀ fp pn pins s σ H Q I q) (fun cl C s₀ H₀ fp pn pins s σ H Q I ⟨F',q⟩=>he F' cl C s₀ H₀ fp pn pins s σ H Q I q) hs) fun σ H Q h=>z6g hk h
end
end Mi
namespace So
open PySem PySem.W PyProof.Rows PySem.SeqAt
noncomputable def hdT:PyData->Bool
 | .tuple (.tuple _::_)=>true
 |_=>false
theorem hd_tup{d:PyData}(h:hdT d=true): ∃zs xs,d= .tuple (.tuple zs::xs):=by
 cases d with
 |tuple xs=>
  cases xs with
  |nil=>simp[hdT] at h
  |cons x xs=>cases x<;>first|exact⟨_,_,rfl⟩|simp[hdT] at h
 |_=>simp[hdT] at h
theorem z7x{prog:Program}{w:World}{A:Around}{fin:Bool}{Q:Bool->Shared->Prop}{s:Shared}: ∀(vs us:List Value) (i:Nat) (r:Bool),z4U A s vs us r->fin=decide (vs.length<us.length)->Q r s->KatLex prog w A false fin Q (vs.zip us) i s
 |[],us,i,r,h,hf,q=>by
  have:r=decide (0<us.length):=h
  subst hf
  rw[List.zip_nil_left]
  exact kat_nil (by rw[this] at q;exact q)
 |_::_,[],i,r,h,hf,q=>by
  have:r=false:=h
  subst hf
  rw[List.zip_nil_right]
  exact kat_nil (by rw[this] at q;simpa using q)
 |v::vs,u::us,i,r,h,hf,q=>by
  rw[List.zip_cons_cons]
  obtain⟨e,h1,h2⟩:=h
  refine kat_cons (h1 prog w _ _ ?_)
  cases e with
  |true=>exact kat_yes (z7x vs us (i+1) r h2 (by simpa using hf) q)
  |false=>exact kat_no (by rw[Bool.false_and];exact kat_one v u (h2 prog w _ _ q))
theorem key_ltF{prog:Program}{w:World}{A:Around}{E:Value->Shared->Prop}{Q:Bool->Shared->Prop}{s:Shared}{x y:Value}{dx dy:PyData}{as bs:List Addr}{r:Bool}(rx:Reads s.heap x dx as)(ry:Reads s.heap y dy bs)(hx:dx.canLay0=true)(hy:dy.canLay0=true)(ix:hdT dx=true)(iy:hdT dy=true)(hu:A.units+min dx.depth dy.depth<cLine)(hr:ltD dx dy=some r)(q:Q r s):
 wpAny (model prog w) A (keyLt' (tuples' false) x y) Q E s:=by
 obtain⟨i,xs,rfl⟩:=hd_tup ix
 obtain⟨j,ys,rfl⟩:=hd_tup iy
 cases rx with
 | @tuple l o vs n _ as₁ h1 h2 h3 h4=>
  cases ry with
  | @tuple l' o' vs' n' _ as' k1 k2 k3 k4=>
   refine kat_lt h1 h3 k1 k3 ?_
   have sz:decide (vs.size<vs'.size)=decide (vs.toList.length<vs'.toList.length):=by simp
   rw[sz]
   simp only[ltD] at hr
   exact z7x _ _ 0 r (lex_reads (.tuple i::xs) (.tuple j::ys) A s _ _ _ _ r h4 k4 (by simpa[PyData.canLay0] using hx) (by simpa[PyData.canLay0] using hy) (by simp only[PyData.depth] at hu;lia) hr) rfl q
end So
namespace L2
open PySem PySem.Spec PyProof.Rows
section
variable{X:Cx}
noncomputable def z4z(ds:List PyData):Bool:=ds.all (fun d=>So.hdT d&&d.canLay0&&decide (d.depth<=60))&&ds.all fun d=>ds.all fun e=>(So.ltD d e).isSome
theorem z5M{h:Heap}{M:Model}: ∀{its:List Value} {ds:List PyData} {as:List Addr},ReadsAll h its ds as->(∀d∈ds,So.hdT d=true)->∃fs:List Value,W.KatTups h its fs/\fs.length=ds.length/\∀f∈fs,W.Looks M h (typeOf f) (.type "tuple")
 |[],_,_, .nil,_=>⟨[], .nil,rfl,by simp⟩
 |v::its,d::ds,_, .cons r rs,hd=>by
  obtain⟨fs,t,hl,hf⟩:=z5M (M:=M) rs fun d hd'=>hd d (List.mem_cons_of_mem _ hd')
  obtain⟨i,xs,rfl⟩:=So.hd_tup (hd _ List.mem_cons_self)
  cases r with
  | @tuple l o vs n _ as₁ h1 h2 h3 h4=>
   generalize hv:vs.toList=us at h4
   cases h4 with
   |cons r1 r2=>
    cases r1 with
    | @tuple l2 o2 vs2 n2 _ as2 k1 k2 k3 k4=>
     refine⟨.ref l2::fs, .cons h1 h2 h3 ?_ t,by simp[hl],fun f hf'=> ?_⟩
     ·rw[<-Array.getElem?_toList,hv];rfl
     ·rcases List.mem_cons.mp hf' with rfl|hf'
      ·show W.Looks M h (loadPart l2 (some headPart)>>=fun o=>pure o.cls) (.type "tuple")
       rw[<-k2]
       exact W.Looks.andThen (W.Looks.ld k1) W.Looks.now
      ·exact hf f hf'
noncomputable def z9f(K:W.Frag):List V->Hp->VK->Prop:=fun xs H Q=> ∃p ys ds,xs=[.ref p]/\SqL K H p ys/\DpAll K H ds ys/\z4z ds=true/\∀l,H l=none->Q (.ref l) (upd H l (.lst ((So.perm ys.length (cmpD ds)).map fun i=>ys.getD i .non)))
theorem z7y(hu:X.A.units+64<cLine):CallR X (.builtin "sorted") (z9f X.K):=by
 intro pins s σ H xs us Q I r h
 obtain⟨p,ys,ds,rfl,hs,hd,ok,q⟩:=h
 obtain⟨u,rfl,ru⟩:=z44 r
 cases ru
 obtain⟨its,rv,pl,hz⟩:=I.list hs
 have hl:its.length=ys.length:=(Paired.length rv).symm
 unfold z4z at ok
 simp only[Bool.and_eq_true,List.all_eq_true,decide_eq_true_eq] at ok
 obtain⟨ok1,ok2⟩:=ok
 refine So.call_sorted (cmp:=cmpD ds) pl.isList (by lia) (fun h' kp h2=> ?_) fun h' D e1 kp hD hget=> ?_
 ·have I':Inv X pins σ H {s with heap:=h'}:=I.kept (t':=s.toks) kp
  obtain⟨as,ra⟩:=DpAll.reads I' ds ys its hd rv
  refine⟨tuples' false,fun Q E hq=> ?_,fun i j hi hj C hC=> ?_⟩
  ·obtain⟨fs,t,hfl,hf⟩:=z5M ra fun d hd'=>(ok1 d hd').1.1
   have hdl:=SeqAt.ReadsAll.length _ _ _ ra
   exact W.kat_kind (T:= .type "tuple") t (by lia) hf rfl hq
  ·obtain⟨bs,r1,m1⟩:=z1p ra i hi
   obtain⟨cs,r2,m2⟩:=z1p ra j hj
   obtain⟨b,hb⟩:=Option.isSome_iff_exists.mp (ok2 _ m1 _ m2)
   have o1:=ok1 _ m1
   have o2:=ok1 _ m2
   refine So.key_ltF r1 r2 o1.1.2 o2.1.2 o1.1.1 o2.1.1 ?_ hb ?_
   ·show X.A.units+1+1+_<_
    have:=Nat.min_le_left (ds.getD i .none).depth (ds.getD j .none).depth
    lia
   ·have:cmpD ds i j=b:=by unfold cmpD;rw[hb];rfl
    rw[<-this];exact hC
 ·refine⟨.ref D,_,I.laid (t':=s.toks) (o:= .lst ((So.perm ys.length (cmpD ds)).map fun i=>ys.getD i .non)) kp hD ⟨by rw[List.length_map,So.perm_len];exact hz,_,e1,z4w rv _ fun i hi=> ?_, ?_⟩,rfl,q _ (I.hok.fresh hD)⟩
  ·rw[hl];exact So.perm_lt i hi
  ·rw[hl] at hget;exact hget
end
end L2
namespace L2
open PySem PySem.Spec PyProof.Rows
open Sem (wp)
open AutoSeq1 (wpAny_loadPart')
section
variable{prog:Program}{w:World}{A:Around}{E:Value->Shared->Prop}{s:Shared}
theorem z51{T newId initId:String}{Bn Bi:Builtin}{args:List Value}{kw:List (Str×Value)}{S:PySem.Spec}{Q Q₁:Value->Shared->Prop}(ft:TypeCalled T newId initId)
 (hct:checkTypeCall T ⟨args,kw⟩=pure ()) (hcn:checkBuiltinCall newId ⟨.type T::args,kw⟩=pure ())
 (entryN:entryFor table newId=some Bn) (entryI:entryFor table initId=some Bi) (g:Meets (Bn ⟨.type T::args,kw⟩) S)
 (h:S A.in1 (wants Q₁ E) s)
 (hnext: ∀obj s₁,Q₁ obj s₁->s₁.TypeIs obj T/\argsOk initId ⟨obj::args,kw⟩/\∃Si,Meets (Bi ⟨obj::args,kw⟩) Si/\Si A.in1 (wants (fun r s₂=>r= .none/\Q obj s₂) E) s₁):
 wpAny (model prog w) A (call (.type T) args kw) Q E s:=by
 obtain⟨c,tl,hmro⟩:=ft.mro
 have hmade:=ft.made
 have hsub:=ft.sub
 refine wpAny_call (codeAny_of_tree ?_)
 show wpAny _ _ (callAny (.type T) _) _ _ _
 refine wpAny_pure ⟨Code.quiet_builtin _ (by decide+kernel),codeAny_builtin F.entry_type_call ?_⟩
 rw[Around.under_plain (weight_type_call_type T args kw) (units_type_call_type T args kw)]
 have h1:=ft.notType
 have h2:=ft.canCreate
 repeat (any_goals (first|assumption|wp_step))
 refine codeAny_mono (codeAny_call_builtin ft.plain entryN (wpAny_of_eq hcn (g prog w A.in1 _ s h))) fun r s₁ hr=> ?_
 cases r with
 |error e=>exact hr
 |ok fl=>
  cases fl with
  |ret obj=>
   obtain⟨hT,hok,Si,gi,hsi⟩:=hnext _ _ hr
   have hli:=ft.init.lookup
   have hbi:=ft.init.bind obj
   repeat (any_goals (first|assumption|wp_step))
   refine codeAny_mono (codeAny_call_builtin ft.init.plain entryI (ft.init.check _ _ _ _ _ _ _ _ hT hok (gi prog w A.in1 _ s₁ hsi))) fun r₂ s₂ hr₂=> ?_
   cases r₂ with
   |error e=>exact hr₂
   |ok fl₂=>
    cases fl₂ with
    |ret r=>
     obtain⟨rfl,hq⟩:=hr₂
     repeat (any_goals (first|assumption|wp_step))
    |_=>exact hr₂.elim
  |_=>exact hr.elim
end
theorem z3c(a b:Value):checkTypeCall "enumerate" ⟨[a],[("start",b)]⟩=pure ():=by kernel_rfl
theorem z3J(a b:Value):checkBuiltinCall "enumerate.__new__" ⟨[.type "enumerate",a],[("start",b)]⟩=pure ():=by kernel_rfl
theorem z6h(a b c:Value):argsOk "object.__init__" ⟨[a,b],[("start",c)]⟩:=by
 unfold argsOk;kernel_rfl
theorem zec{T newId:String}{self a b:Value}(hl:typeLookup (.type T) "__init__" =pure (some (.builtin "object.__init__")))
 (hm:Bind.madeBy (.type T)=pure (some newId)) (hne:(some newId !=some "object.__new__")=true):
 Meets (Builtin.«object.__init__» ⟨[self,a],[("start",b)]⟩) (fun _ R s=>s.TypeIs self T/\R (.ok (.ret .none)) s):=by
 refine Meets.of_wp fun prog w A R s hs=> ?_
 obtain⟨hT,hq⟩:=hs
 repeat (any_goals (first|assumption|wp_step))
 exact⟨_,rfl,hq⟩
theorem z52(l:Addr)(items:Array Value)(n:Nat)(dct:Option Addr)(sl:Array (Option Value))(t:Tok):
 Meets (Builtin.«enumerate.__new__» ⟨[.type "enumerate", .ref l],[("start", .int 1 t)]⟩) (fun _ R s=>s.heap.get? l=some {cls:= .type "list",dict:=dct,data:= .seq items n,slots:=sl}/\
  R (.ok (.ret (.ref (s.heap.push {cls:= .type "list_iterator",data:= .fields #[.ref l, .int 0 0]}).objs.size)))
   {s with heap:=(s.heap.push {cls:= .type "list_iterator",data:= .fields #[.ref l, .int 0 0]}).push {cls:= .type "enumerate",data:= .fields #[.none, .bool false, .ref s.heap.objs.size,rawInt 1, .none, .none]}}):=
 .of_wp fun prog w A R s h=>by
  obtain⟨hp,g,d,tk,os⟩:=s;obtain⟨hl,h⟩:=h
  have hsub:=sub_enumerate
  have hL:Heap.IsList (Shared.heap ⟨hp,g,d,tk,os⟩) l items:=⟨_,hl,rfl,n,rfl⟩
  wp_walk using wpAny_loadPart' hl
  refine wpAny_stack_any fun st=>wpAny_pure ?_
  split
  ·rename_i c _ _ _ _ _
   cases(c==Value.type "enumerate")
   ·wp_walk using wpAny_loadPart' hl,wpAny_pyIter_list hL
    exact⟨_,rfl,h⟩
   ·wp_walk using wpAny_loadPart' hl,wpAny_pyIter_list hL
    exact⟨_,rfl,h⟩
  ·wp_walk using wpAny_loadPart' hl,wpAny_pyIter_list hL
   exact⟨_,rfl,h⟩
end L2
namespace L2
open PySem PySem.Spec PyProof.Rows
open Sem (wp)
section
variable{prog:Program}{w:World}{A:Around}{E:Value->Shared->Prop}{s:Shared}
theorem z6i{l:Addr}{items:Array Value}{t:Tok}{Q:Value->Shared->Prop}(hL:s.heap.IsList l items)
 (h: ∀h',IsEnum h' (s.heap.objs.size+1) s.heap.objs.size 1 .none->h'.IsListIter s.heap.objs.size l 0->h'.objs.size=s.heap.objs.size+2->
  (∀b o,s.heap.get? b=some o->h'.get? b=some o)->Q (.ref (s.heap.objs.size+1)) {s with heap:=h'}):
 wpAny (model prog w) A (call (.type "enumerate") [.ref l] [("start", .int 1 t)]) Q E s:=by
 obtain⟨⟨c,dct,dt,sl⟩,hl,hc,n,hd⟩:=hL
 replace hc:c= .type "list" :=hc
 replace hd:dt= .seq items n:=hd
 subst hc hd
 refine z51 (Q₁:=fun obj s₁=>s₁.TypeIs obj "enumerate" /\Q obj s₁) F.called_enumerate (z3c _ _) (z3J _ _) F.entry_enumerate_new F.entry_object_init
  (z52 l items n dct sl t) ⟨hl, ?_⟩ fun obj _ hq=>⟨hq.1,z6h obj _ _,_,zec F.called_enumerate.init.lookup F.called_enumerate.made (by decide),hq.1,rfl,hq.2⟩
 have hz:(s.heap.push {cls:= .type "list_iterator",data:= .fields #[.ref l, .int 0 0]}).objs.size=s.heap.objs.size+1:=Heap.size_push ..
 show _/\_
 rw[hz]
 have he:IsEnum ((s.heap.push {cls:= .type "list_iterator",data:= .fields #[.ref l, .int 0 0]}).push
  {cls:= .type "enumerate",data:= .fields #[.none, .bool false, .ref s.heap.objs.size,rawInt 1, .none, .none]}) (s.heap.objs.size+1) s.heap.objs.size 1 .none:=by
  have:=Heap.get?_push_size (s.heap.push {cls:= .type "list_iterator",data:= .fields #[.ref l, .int 0 0]})
   (o:={cls:= .type "enumerate",data:= .fields #[.none, .bool false, .ref s.heap.objs.size,rawInt 1, .none, .none]}) rfl
  rw[hz] at this;exact this
 refine⟨⟨_,he,rfl⟩,h _ he ⟨_,Heap.get?_push_of_some _ (Heap.get?_push_size _ rfl),rfl,rfl⟩ (by rw[Heap.size_push,hz]) fun b o x=>Heap.get?_push_of_some _ (Heap.get?_push_of_some _ x)⟩
end
theorem z53{prog:Program}{w:World}{A:Around}(hh:A.handled=none)(it l:Addr)(hne:l≠it)(items:Array Value):
 Draws prog w A it [it,l] (items.size+1) (fun i v=>items[i - 1]? =some v) (fun i h=>0<i/\h.IsListIter it l (i - 1)/\h.IsList l items) where
 live:=fun _ _ st=>let⟨o,ho,_⟩:=st.2.1;⟨o,ho⟩
 frame:=fun _ _ _ st hk=>⟨st.1,st.2.1.at fun o e=>hk it (by simp) o e,let⟨o,ho,r⟩:=st.2.2;⟨o,hk l (by simp) o ho,r⟩⟩
 item:=fun i s Q E hi st hQ=>by
  have h0:=st.1
  refine wpAny_nextOf_list_item st.2.1 st.2.2 (x:=items[i - 1]'(by lia)) (by rw[Array.getElem?_eq_getElem (by lia)]) fun h' hit' hs'=> ?_
  exact hQ _ h' s.toks (by rw[Array.getElem?_eq_getElem (by lia)]) ⟨by lia,by rw[show i+1 - 1=i - 1+1 by lia];exact hit',st.2.2.extBut hs'.extBut hne⟩ hs'
 done:=fun s Q E st hE=>wpAny_nextOf_list_end hh st.2.1 st.2.2 (by simp) hE
noncomputable def Its(K:W.Frag)(a:Addr):It:=
 ⟨fun i H=> ∃xs x,SqL K H a xs/\xs[i]? =some x,fun i H v H'=> ∃p x,H p=none/\v= .ref p/\H'=upd H p (.tup [.int ((i+1:Nat):Int),x])/\(∀xs,SqL K H a xs->xs[i]? =some x)/\∀b o,K.lookup b=some o->H' b=none,fun i H=> ∃xs,SqL K H a xs/\xs.length<=i⟩
theorem z6j{P:Program}{w:World}{K:W.Frag}{elts:List Expr}{x1:Nat}{tpos:Pos}(a e it:Addr)(hne:e≠it):Turn P w K (.Tuple elts x1 tpos) (Its K a) [e,it] e (fun i h=> ∃old,IsEnum h e it ((i+1:Nat):Int) old/\h.IsListIter it a i) where
 mem:=by simp
 obj:=fun i h st b hb=>by
  obtain⟨old,h1,h2⟩:=st
  have hb:b=e\/b=it:=by simpa using hb
  rcases hb with rfl|rfl
  ·exact⟨_,h1,fun v z=>by
    have z':Data.fields _=Data.cell v:=z
    cases z'⟩
  ·obtain⟨o,e,c,d⟩:=h2
   exact⟨o,e,fun v z=>by rw[d] at z;cases z⟩
 keep:=fun i h h' st k=>by
  obtain⟨old,h1,h2⟩:=st
  exact⟨old,k e (by simp) _ h1,h2.at fun o q=>k it (by simp) o q⟩
 item:=by
  intro X hP hw hK hc i pins s σ H E I hf st hg
  subst hP hw hK
  obtain⟨old,st1,st2⟩:=st
  obtain⟨xs,x,hq,hx⟩:=hg
  obtain⟨its,rv,p,hz⟩:=I.list hq
  obtain⟨u,hu,ru⟩:=rv.get hx
  have p:s.heap.IsList a its.toArray:=p.isList
  have nai:a≠it:=fun z=>by
   obtain⟨o,q,c,_⟩:=id p
   obtain⟨o',q',c',_⟩:=id st2
   rw[z,q'] at q;cases q
   rw[c] at c';exact absurd c' (by decide)
  have nea:e∉[it,a]:=fun z=>by
   have z:e=it\/e=a:=by simpa using z
   rcases z with z|z
   ·exact hne z
   ·obtain⟨o,q,c,_⟩:=id p
    rw[<-z,st1] at q;cases q
    have c:Value.type "enumerate" =Value.type "list" :=c
    exact absurd c (by decide)
  have hlt:i+1<its.toArray.size+1:=by
   have:=(List.getElem?_eq_some_iff.mp hu).1
   simpa using this
  refine wpAny_pyNext_enum_itemD (z53 (A:=X.A.in1) (I.ok.hd hc) it a nai its.toArray) st1 ⟨Nat.succ_pos _,st2,p⟩ hlt hne nea fun u' h1 tk hP heo hst ht hsz hk=> ?_
  have eu:u'=u:=by
   have hu':its[i]? =some u:=hu
   have hP':its.toArray[i]? =some u':=hP
   rw[List.getElem?_toArray,hu'] at hP'
   exact(Option.some.inj hP').symm
  subst eu
  refine⟨_,rfl,wpAny_letOwnedTupleGo_enum heo fun h2 he2 hs2=> ?_⟩
  have hs2:Heap.SameBut e h1 h2:=hs2
  have hel:e<s.heap.objs.size:=Heap.lt_size st1
  have ht2:h2.get? s.heap.objs.size=some {cls:= .type "tuple",data:= .seq #[.int ((i+1:Nat):Int) tk,u']}:=(hs2.2 _ (Nat.ne_of_gt hel)).trans ht
  have fr: ∀b∈[e,it],b≠s.heap.objs.size:=fun b hb=>by
   have hb:b=e\/b=it:=by simpa using hb
   rcases hb with rfl|rfl
   ·exact Nat.ne_of_lt hel
   ·obtain⟨o,q,_⟩:=st2
    exact Nat.ne_of_lt (Heap.lt_size q)
  have I1:Inv X pins σ (upd H s.heap.objs.size (.tup [.int ((i+1:Nat):Int),x])) {s with heap:=s.heap.push {cls:= .type "tuple",data:= .seq #[.int ((i+1:Nat):Int) tk,u']},toks:=s.toks}:=I.laid (t':=s.toks) (o:= .tup [.int ((i+1:Nat):Int),x]) (fun b ob q=>Heap.get?_push_of_some _ q) (Nat.le_refl _) ⟨by show 2<=sizeLine;decide,[.int ((i+1:Nat):Int) tk,u'], .cons ⟨_,rfl⟩ (.cons ru .nil),IsTup.new _ _⟩
  have f1: ∀b∈[e,it],FpOk X pins (upd H s.heap.objs.size (.tup [.int ((i+1:Nat):Int),x])) b:=fun b hb=>⟨by rw[z02 (fr b hb)];exact(hf b hb).1,(hf b hb).2⟩
  have I2:=I1.turnedL (h':=h2) (t':=tk+1) (fun b o hb q=>by
   have hb:b≠e/\b≠it:=by simpa using hb
   rcases Heap.get?_push_cases (show(s.heap.push {cls:= .type "tuple",data:= .seq #[.int ((i+1:Nat):Int) tk,u']}).get? b=some o from q) with⟨rfl,rfl⟩|q'
   ·exact ht2
   ·exact(hs2.2 b hb.1).trans (hk b o hb.1 hb.2 q')) f1
  refine⟨.ref s.heap.objs.size,_,I2,rfl,⟨_,x,I.hok.fresh (Nat.le_refl _),rfl,rfl,fun ys hy=>by rw[I.list_inj hy hq];exact hx,fun b o q=>(I2.bs b o (I2.ok.mod.kin b o q)).2⟩,⟨u', ?_, ?_⟩,fun b hb=>(f1 b hb).1⟩
  ·have:((i+1+1:Nat):Int)=((i+1:Nat):Int)+1:=by push_cast;rfl
   rw[this];exact he2
  ·obtain⟨o,q,r⟩:=hst.2.1
   exact⟨o,(hs2.2 it (Ne.symm hne)).trans q,r⟩
 done:=by
  intro X hP hw hK hc i pins s σ H E I hf st hg
  subst hP hw hK
  obtain⟨old,st1,st2⟩:=st
  obtain⟨xs,hq,hx⟩:=hg
  obtain⟨its,rv,p,hz⟩:=I.list hq
  have p:s.heap.IsList a its.toArray:=p.isList
  have hl:=rv.length
  have hT:s.TypeIs (.ref e) "enumerate" :=⟨_,st1,rfl⟩
  unfold pyNext
  refine wpAny_bind (wpAny_attempt (wpAny_callSpecial?_slot (name:=Str.ofString "__next__") hT F.slot_enumerate_next
   (wpAny_call_entry F.slot_enumerate_next hT F.entry_enumerate_next ?_ (F.args_enumerate_next_1 _))))
  show wpAny _ _ (field (.ref e) 2>>=_) _ _ _
  refine wpAny_bind (wpAny_field st1 rfl (x:= .ref it) rfl ?_)
  refine wpAny_bind (wpAny_nextOf_list_end (A:=X.A.in1) (I.ok.hd hc) st2 p (by simp;lia) fun h' x he' hx'=> ?_)
  obtain⟨o,ho,hcc⟩:=hx'
  refine wpAny_bind (wpAny_isInstance (T:= "StopIteration") (b:=true) ⟨o,ho,hcc⟩ isSubtype_stop ?_)
  exact wpAny_pure ⟨rfl,I.turnedL (t':=s.toks) (fun b o hb q=>he' b o (fun z=>hb (by simp[z])) q) hf⟩
 self:=fun A i s Q E st h=>by
  obtain⟨old,st1,_⟩:=st
  exact wpAny_pyIter_enum st1 h
section
variable{X:Cx}
noncomputable def zed(K:W.Frag)(ta:TA):TI:=fun σ H R=>ta σ H fun vs H1=> ∃a,vs=[.ref a]/\(∃xs,SqL K H1 a xs)/\R (Its K a) H1
theorem z3K{M:Model}{A:Around}{E:Value->Shared->Prop}{s:Shared}{pos:Pos}{T:String}{first:List Value}{args:List (Bool×Sem Value)}{keywords:List (Option Str×Sem Value)}{Q:Value->Shared->Prop}
 (hplain:args.any (·.1)=false) (hkw:keywords.any (·.1.isNone)=false)
 (h:wpAny M A (evalArgs (.type T) true args keywords) (fun a s₁=>wpAny M A (call (.type T) (first++a.pos) a.kw) Q E s₁) E s):
 wpAny M A (callWith pos (.type T) first args keywords) Q E s:=by
 unfold callWith
 refine wpAny_bind (wpAny_holding (wpAny_mono h (fun a s₁ h₁=>wpAny_bind (wpAny_standAt ?_)) fun _ _ x=>x))
 simp only[hplain,hkw,Bool.or_false]
 refine wpAny_bind (wpAny_pure ?_)
 exact wpAny_bind (wpAny_mono h₁ (fun r s₂ hr=>wpAny_bind (wpAny_holding (wpAny_point (wpAny_pure hr)))) fun _ _ x=>x)
theorem z8D{a b:Expr}{ta:TA}{p pos tpos kp:Pos}{elts:List Expr}{x1:Nat}(hg:Gl X "enumerate")(hm:X.mg "enumerate" =none)(ha:PA X [a] ta)(hb:PE X b (tC (.int 1)))(hs:starEach [a] X.env=[(false,eval a X.env)]:=by rfl):PI X (.Tuple elts x1 tpos) (.Call (.Name "enumerate" p) [a] [⟨some "start",b,kp⟩] pos) (zed X.K ta):=by
 intro pins s σ H R I h
 refine wpAny_Call_Name_kw (z3e I hg hm PyProof.Rows.Boot.«enumerate» ?_)
 refine z3K (by rw[hs];rfl) rfl (evalArgs_kw2 rfl (thn (ha pos pins s σ H _ I h) fun us s1 ⟨vs,H1,I1,r1,q1⟩=> ?_) hs)
 refine kwAll_cons (thn (hb pins s1 σ H1 (fun v H'=>v= .int 1/\H'=H1) I1 ⟨rfl,rfl⟩) fun u s2 ⟨v,H2,I2,r2,ev,eh⟩=>kwAll_nil ?_)
 subst ev eh
 obtain⟨l,e,⟨xs,hq⟩,q⟩:=q1
 subst e
 cases r1 with
 |cons r rr=>
  cases rr
  cases r
  obtain⟨t,rfl⟩:=r2
  obtain⟨its,rv,p,hz⟩:=I2.list hq
  refine z6i p.isList fun h' he hit hsz hk=> ?_
  refine wpAny_pyIter_enum he ?_
  have I3:Inv X pins σ H2 {s2 with heap:=h'}:=I2.kept (t':=s2.toks) hk
  refine⟨s2.heap.objs.size+1,[s2.heap.objs.size+1,s2.heap.objs.size],_,_,H2,rfl,I3,z6j l _ _ (by show ¬(s2.heap.objs.size+1=s2.heap.objs.size);lia),⟨_,he,hit⟩,fun b hb=> ?_,q⟩
  have hb:b=s2.heap.objs.size+1\/b=s2.heap.objs.size:=by simpa using hb
  rcases hb with rfl|rfl
  ·exact I2.fpOk (Nat.le_succ _) (I2.hok.fresh (Nat.le_succ _))
  ·exact I2.fpOk (Nat.le_refl _) (I2.hok.fresh (Nat.le_refl _))
end
end L2
namespace Mi
open PySem L2 PySem.Spec PyProof.Rows
section
variable{X:Cx}{G:Gx}{F:Fy}{a b tg e o:Expr}{pos apos cpos:Pos}{mo mi mx:M D}
noncomputable def zcD(i:Nat):List (Option D)->Option (Option D)
 |some c::_=>(lstD c).map fun ds=>(ds[i]?).map fun d=> .tup [.int ((i+1:Nat):Int),d]
 |_=>none
noncomputable def kEns:ItK:=⟨1,zcD,z4n⟩
theorem z5N{a:Addr}:ItOK G (Its G.K a) kEns [some (.ref a)]:=by
 intro F ρ H σv tvp tv s i M
 dsimp only[kEns]
 cases e:s.tm.drop tvp.length with
 |nil=>trivial
 |cons o r=>
  cases o with
  |none=>trivial
  |some c=>
   simp only[zcD]
   obtain⟨h,lb⟩:=MR.head (s:=s.popn tvp.length) M.popn e
   cases e1:lstD c with
   |none=>trivial
   |some ds=>
    simp only[Option.map_some]
    obtain⟨a',xs,ea,sq,rr,sub⟩:=h.lstq e1
    cases ea
    cases e2:ds[i]? with
    |none=>
     simp only[Option.map_none]
     refine⟨xs,sq, ?_⟩
     rw[<-rr.length]
     exact List.getElem?_eq_none_iff.mp e2
    |some d=>
     simp only[Option.map_some]
     obtain⟨x,ex,rx⟩:=rr.get i d e2
     refine⟨⟨xs,x,sq,ex⟩, ?_⟩
     rintro x' H' ⟨p,y,hp,rfl,rfl,hx,kd⟩
     rw[hx xs sq] at ex
     cases ex
     have sm:=Same.new (.tup [.int ((i+1:Nat):Int),x]) hp
     refine⟨M.same sm kd,RDs.one ?_,fun l hl=>lb l (sub l (labsL_mem (List.mem_of_getElem? e2) l (by simpa only[labsL,labs,List.append_nil,List.nil_append] using hl)))⟩
     simp only[RD]
     refine⟨p,_,rfl,z04, ?_⟩
     have r1:=(RDs.one rx).same sm
     simp only[RDs] at r1⊢
     obtain⟨x,r,e,h1,h2⟩:=r1
     cases e
     exact⟨_,_,rfl,by simp only[RD],_,_,rfl,h1,rfl⟩
noncomputable def ensI(ts:List D):M ItK:=fun s=>match ts with
 |[.lst l ds]=> .ok kEns (s.psh (.lst l ds))
 |[.ro ds]=> .ok kEns (s.psh (.ro ds))
 |_=> .no
noncomputable def mEns(ms:List (M D)):M ItK:=bd (z09 ms) ensI
theorem si_ens{p tpos kp:Pos}{elts:List Expr}{x1:Nat}{ms:List (M D)}(hk:X.K=G.K)(hg:Gl X "enumerate")(hm:X.mg "enumerate" =none)(ha:SA X G F [a] (z09 ms))(hb:PE X b (tC (.int 1)))(hs:starEach [a] X.env=[(false,eval a X.env)]:=by rfl):SI X G F (.Tuple elts x1 tpos) (.Call (.Name "enumerate" p) [a] [⟨some "start",b,kp⟩] pos) (mEns ms):=by
 refine PI.imp0 (z8D hg hm ha hb hs) fun σ H R ⟨tv,hs,ρ,s,M,W⟩=>⟨tv,hs,ρ,s,M, ?_⟩
 unfold mEns bd at W
 cases e:z09 ms s with
 |ex d s1=>rw[e] at W;exact W
 |no=>rw[e] at W;exact W
 |ok ts s1=>
  rw[e] at W
  intro ρ1 vs H1 M1
  rw[hk]
  unfold ensI at W
  dsimp only at W
  split at W
  ·rename_i ts' K s' hh
   split at hh
   ·cases hh
    obtain⟨v,rfl,h,_⟩:=M1.one
    obtain⟨a,xs,rfl,sq,r,_⟩:=h.lstq (ds:=_) rfl
    exact⟨a,rfl,⟨xs,sq⟩,W ρ1 H1 [some (.ref a)] _ rfl M1.push z5N⟩
   ·cases hh
    obtain⟨v,rfl,h,_⟩:=M1.one
    obtain⟨a,xs,rfl,sq,r,_⟩:=h.lstq (ds:=_) rfl
    exact⟨a,rfl,⟨xs,sq⟩,W ρ1 H1 [some (.ref a)] _ rfl M1.push z5N⟩
   ·cases hh
  ·rename_i hh
   split at hh<;>cases hh
  ·exact False.elim W
noncomputable def pshT(o:D):M Unit:=fun s=>match o with
 | .dct l ks vs=>if isT ks=true then .ok () (s.psh (.dct l ks vs)) else .no
 |_=> .no
noncomputable def getT(o i x:D):M D:=match o with
 | .dct _ ks vs=>if isT ks=true then(match tkey i with
  |some k=>rt ((z1B ks vs k).getD x)
  |none=>fl) else fl
 |_=>fl
noncomputable def z4A(mo mi mx:M D):M D:=bd mo fun o=>bd (pshT o) fun _=>bd mi fun i=>bd (psh i) fun _=>bd mx fun x=>bd pop fun i'=>bd pop fun o'=>getT o' i' x
theorem z8E{σ:L2.St}{H:Hp}{Q:VK}(h:tM G F (z4A mo mi mx) σ H Q):z93 (tM G F mo) (tM G F mi) (tM G F mx) σ H (fun v H'=>KD G.K H'->Q v H'):=by
 obtain⟨tv,hs,ρ,s,M,W⟩:=h
 refine⟨tv,hs,ρ,s,M, ?_⟩
 unfold z4A at W
 simp only[bd] at W
 cases e0:mo s with
 |ex d s1=>simp only[e0] at W;exact W
 |no=>simp only[e0] at W;exact W
 |ok o s1=>
  simp only[e0] at W
  intro ρ1 v H1 M1
  cases o with
  |dct l ks vs=>
   by_cases hT:isT ks=true
   ·simp only[pshT,if_pos hT] at W
    have h1:=M1.rd1
    obtain⟨rfl,kvs,hx,rfl,r⟩:=h1.dctq hT
    refine⟨ρ1 l,rfl, .inr ⟨kvs, .inl hx⟩, ?_⟩
    refine⟨some (.ref (ρ1 l))::tv,suf1 hs,ρ1,_,M1.push, ?_⟩
    cases e2:mi (s1.psh (.dct l (kvs.map fun p=>dkD p.1) vs)) with
    |ex d s3=>simp only[e2] at W;exact W
    |no=>simp only[e2] at W;exact W
    |ok i s2=>
     simp only[e2,psh] at W
     intro ρ2 y H2 M2
     refine⟨some y::some (.ref (ρ1 l))::tv,suf1 (suf1 hs),ρ2,s2.psh i,M2.push, ?_⟩
     cases e3:mx (s2.psh i) with
     |ex d s4=>simp only[e3] at W;exact W
     |no=>simp only[e3] at W;exact W
     |ok x s3=>
      simp only[e3,pop] at W
      intro ρ3 z H3 M3
      cases e4:s3.tm with
      |nil=>simp only[e4] at W;exact False.elim W
      |cons o3 r3=>
       cases o3 with
       |none=>simp only[e4] at W;exact False.elim W
       |some x3=>
        simp only[e4] at W
        cases r3 with
        |nil=>exact False.elim W
        |cons o4 r4=>
         cases o4 with
         |none=>exact False.elim W
         |some x4=>
          have M4:=M3.down e4
          have M5:=M4.down (s':={s3 with tm:=some x4::r4}) rfl
          have h:=M5.rd
          simp only[RDs] at h
          obtain⟨_,_,e,g1,_,_,e2,g2,_,_,e3,g3,_⟩:=h
          cases e;cases e2;cases e3
          have b1:LB F.toFx ρ3 s3.n (labs x4):=fun l h=>M5.lb l (by simp only[labsL];exact List.mem_append_left _ h)
          have b3:LB F.toFx ρ3 s3.n (labs x):=fun l h=>M5.lb l (by simp only[labsL,List.append_nil];exact List.mem_append_right _ (List.mem_append_right _ h))
          cases x4 with
          |dct l' ks' vs'=>
           by_cases hT':isT ks'=true
           ·cases ek:tkey x3 with
            |none=>simp only[getT,if_pos hT',ek] at W;exact False.elim W
            |some k=>
             simp only[getT,if_pos hT',ek] at W
             obtain⟨el,kvs',hx',rfl,r'⟩:=g1.dctq hT'
             injection el with el
             obtain⟨b,rfl,hb,_⟩:=z3I g2 ek
             refine⟨valV kvs' k, .inr ⟨kvs',k,b, .inl (by rw[el];exact hx'),rfl,hb,rfl⟩,fun _=> ?_⟩
             cases ef:z1B (kvs'.map fun p=>dkD p.1) vs' k with
             |none=>
              rw[ef] at W
              rw[z20 kvs' vs' r' ef]
              exact wM.out (s:={s3 with tm:=r4}) W M5.m g3 b3
             |some d=>
              rw[ef] at W
              obtain⟨w,hv,hd,hm⟩:=z1v kvs' vs' d r' ef
              rw[hv]
              exact wM.out (s:={s3 with tm:=r4}) W M5.m hd fun j hj=>b1 j (by simp only[labs];exact List.mem_cons_of_mem _ (List.mem_append_right _ (labsL_mem hm j hj)))
           ·simp only[getT,if_neg hT'] at W;exact False.elim W
          |_=>exact False.elim W
   ·simp only[pshT,if_neg hT] at W;exact False.elim W
  |_=>exact False.elim W
theorem se_getT(hk:X.K=G.K)(hu:X.A.units+64<cLine)(ho:SE X G F o mo)(ha:SE X G F a mi)(hb:SE X G F b mx)(m:M2 X o "get" apos a b cpos):SE X G F (.Call (.Attribute o "get" apos) [a,b] [] cpos) (z4A mo mi mx):=
 PE.imp hk (z8i (show X.A.units+2<cLine by lia) ho ha hb m) fun _ _ _ h=>z8E h
noncomputable def srtT:List D->M D
 |[.lst l ds]=>fun s=>if(plainL ds&&z4z (erL ds)&&(labsL ds).isEmpty)=true then .ok (.lst s.n (srtL ds)) s.nxt else .no
 |_=>fl
theorem zaq:z0V G F (z9f G.K) srtT:=by
 intro ρ s ts vs H σv tv Q M W
 unfold srtT at W
 split at W
 ·rename_i l ds
  split at W
  ·rename_i hc
   simp only[Bool.and_eq_true,List.isEmpty_iff] at hc
   obtain⟨⟨c1,c2⟩,c3⟩:=hc
   obtain⟨v,rfl,h,_⟩:=M.one
   obtain⟨p,xs,rfl,s1,r1,_⟩:=id (h.lstq (ds:=ds) rfl)
   refine⟨p,xs,erL ds,rfl,s1,RDs.dp _ _ r1 c1,c2,fun l hl k=> ?_⟩
   have e:=RDs.len2 r1
   rw[<-e] at k⊢
   exact z1e W M.m (RDs.perm r1 _ So.perm_lt) (fun j hj=>by unfold srtL at hj;rw[z4x c3] at hj;cases hj) hl k
  ·exact False.elim W
 ·exact wfl W
theorem z7z(hk:X.K=G.K)(hu:X.A.units+64<cLine):Cb X G F (.builtin "sorted") srtT:=⟨_,hk▸z7y hu,zaq⟩
end
end Mi
namespace My
open PySem L2 PySem.Spec PyProof.Rows Mi
@[irreducible] noncomputable def SE(X:Cx)(G:Gx)(F:Fy)(e:Expr)(m:M D):Prop:=Mi.SE X G F e m
theorem eSE(X:Cx)(G:Gx)(F:Fy)(e:Expr)(m:M D):SE X G F e m=Mi.SE X G F e m:=by unfold SE;rfl
@[irreducible] noncomputable def SA(X:Cx)(G:Gx)(F:Fy)(e:List Expr)(m:M (List D)):Prop:=Mi.SA X G F e m
theorem eSA(X:Cx)(G:Gx)(F:Fy)(e:List Expr)(m:M (List D)):SA X G F e m=Mi.SA X G F e m:=by unfold SA;rfl
@[irreducible] noncomputable def SB(X:Cx)(G:Gx)(F:Fy)(e:Expr)(m:M Bool):Prop:=Mi.SB X G F e m
theorem eSB(X:Cx)(G:Gx)(F:Fy)(e:Expr)(m:M Bool):SB X G F e m=Mi.SB X G F e m:=by unfold SB;rfl
@[irreducible] noncomputable def SW(X:Cx)(G:Gx)(F:Fy)(e:Expr)(m:M Bool):Prop:=Mi.SW X G F e m
theorem eSW(X:Cx)(G:Gx)(F:Fy)(e:Expr)(m:M Bool):SW X G F e m=Mi.SW X G F e m:=by unfold SW;rfl
@[irreducible] noncomputable def SS(X:Cx)(G:Gx)(F:Fy)(e:Stmt)(m:MS):Prop:=Mi.SS X G F e m
theorem eSS(X:Cx)(G:Gx)(F:Fy)(e:Stmt)(m:MS):SS X G F e m=Mi.SS X G F e m:=by unfold SS;rfl
@[irreducible] noncomputable def SSs(X:Cx)(G:Gx)(F:Fy)(e:List Stmt)(m:MS):Prop:=Mi.SSs X G F e m
theorem eSSs(X:Cx)(G:Gx)(F:Fy)(e:List Stmt)(m:MS):SSs X G F e m=Mi.SSs X G F e m:=by unfold SSs;rfl
@[irreducible] noncomputable def SG(X:Cx)(G:Gx)(F:Fy)(e:Expr)(m:Tg):Prop:=Mi.SG X G F e m
theorem eSG(X:Cx)(G:Gx)(F:Fy)(e:Expr)(m:Tg):SG X G F e m=Mi.SG X G F e m:=by unfold SG;rfl
@[irreducible] noncomputable def SGs(X:Cx)(G:Gx)(F:Fy)(e:List Expr)(m:List Tg):Prop:=Mi.SGs X G F e m
theorem eSGs(X:Cx)(G:Gx)(F:Fy)(e:List Expr)(m:List Tg):SGs X G F e m=Mi.SGs X G F e m:=by unfold SGs;rfl
@[irreducible] noncomputable def SI(X:Cx)(G:Gx)(F:Fy)(tg e:Expr)(m:M ItK):Prop:=Mi.SI X G F tg e m
theorem eSI(X:Cx)(G:Gx)(F:Fy)(tg e:Expr)(m:M ItK):SI X G F tg e m=Mi.SI X G F tg e m:=by unfold SI;rfl
@[irreducible] noncomputable def SO(X:Cx)(G:Gx)(F:Fy)(e:Option Expr)(m:Option (M D)):Prop:=Mi.SO X G F e m
theorem eSO(X:Cx)(G:Gx)(F:Fy)(e:Option Expr)(m:Option (M D)):SO X G F e m=Mi.SO X G F e m:=by unfold SO;rfl
@[irreducible] noncomputable def STs(X:Cx)(G:Gx)(F:Fy)(e:List Expr)(m:M Bool):Prop:=Mi.STs X G F e m
theorem eSTs(X:Cx)(G:Gx)(F:Fy)(e:List Expr)(m:M Bool):STs X G F e m=Mi.STs X G F e m:=by unfold STs;rfl
local macro_rules | `(tactic| walk_at "go") => `(tactic| (simp only [eSE, eSA, eSB, eSW, eSS, eSSs, eSG, eSGs, eSI, eSO, eSTs] at *))
section
variable{X:Cx}{G:Gx}{F:Fy}{e a b c:Expr}{pos:Pos}
theorem se_var(i:Nat){x:Str}(hk:X.K=G.K)(h:PE X (.Name x pos) (tVar i)):SE X G F (.Name x pos) (mVar i):=by
 walk_at "go"
 exact Mi.se_var i hk h
theorem se_c{d:D}{v:V}(hk:X.K=G.K)(h:PE X e (tC v))(hd:cV d=some v:=by rfl):SE X G F e (mC d):=by
 walk_at "go"
 exact Mi.se_c hk h hd
theorem so_none:SO X G F none none:=by
 walk_at "go"
 exact Mi.so_none
theorem so_some{m:M D}(h:SE X G F e m):SO X G F (some e) (some m):=by
 walk_at "go"
 exact Mi.so_some h
theorem se_slice{lo hi:Option Expr}{p2:Pos}{m:M D}{ml mh:Option (M D)}(hk:X.K=G.K)(he:SE X G F e m)(hl:SO X G F lo ml)(hh:SO X G F hi mh):SE X G F (.Subscript e (.Slice lo hi none p2) pos) (mSl m ml mh):=by
 walk_at "go"
 exact Mi.se_slice hk he hl hh
theorem se_tup{es:List Expr}{ms:List (M D)}{x1}(hk:X.K=G.K)(h:SA X G F es (z09 ms)):SE X G F (.Tuple es x1 pos) (mCB ms tupD):=by
 walk_at "go"
 exact Mi.se_tup hk h
theorem se_lst{es:List Expr}{ms:List (M D)}(hk:X.K=G.K)(h:SA X G F es (z09 ms)):SE X G F (.List es pos) (mCB ms lstM):=by
 walk_at "go"
 exact Mi.se_lst hk h
theorem sb_truth{m:M D}(hk:X.K=G.K)(ha:SE X G F a m)(he: ∀whole,isTrue a X.env whole=(do let v<-whole;standAt a.pos;holding [v] (truthy v)):=by intro _;rfl):SB X G F a (z2C m):=by
 walk_at "go"
 exact Mi.sb_truth hk ha he
theorem SW.sb{m:M Bool}(h:SW X G F e m):SB X G F e m:=by
 walk_at "go"
 exact Mi.SW.sb h
theorem sw_and1{m:M Bool}(h:SB X G F a m):SW X G F (.BoolOp .And [a] pos) m:=by
 walk_at "go"
 exact Mi.sw_and1 h
theorem sw_or1{m:M Bool}(h:SB X G F a m):SW X G F (.BoolOp .Or [a] pos) m:=by
 walk_at "go"
 exact Mi.sw_or1 h
theorem sw_and{rest:List Expr}{m m':M Bool}(ha:SB X G F a m)(hb:SW X G F (.BoolOp .And (b::rest) pos) m'):SW X G F (.BoolOp .And (a::b::rest) pos) (mAnd m m'):=by
 walk_at "go"
 exact Mi.sw_and ha hb
theorem sw_or{rest:List Expr}{m m':M Bool}(ha:SB X G F a m)(hb:SW X G F (.BoolOp .Or (b::rest) pos) m'):SW X G F (.BoolOp .Or (a::b::rest) pos) (mOr m m'):=by
 walk_at "go"
 exact Mi.sw_or ha hb
theorem sb_not{m:M Bool}(ha:SB X G F a m):SB X G F (.UnaryOp .Not a pos) (mNot m):=by
 walk_at "go"
 exact Mi.sb_not ha
theorem se_one{op}{m:M D}(h:SE X G F a m):SE X G F (.BoolOp op [a] pos) m:=by
 walk_at "go"
 exact Mi.se_one h
theorem se_and{rest:List Expr}{m m':M D}(ha:SE X G F a m)(hb:SE X G F (.BoolOp .And (b::rest) pos) m'):SE X G F (.BoolOp .And (a::b::rest) pos) (z4m m m'):=by
 walk_at "go"
 exact Mi.se_and ha hb
theorem se_not{m:M D}(ha:SE X G F a m):SE X G F (.UnaryOp .Not a pos) (z7a m):=by
 walk_at "go"
 exact Mi.se_not ha
theorem se_ifExp{mc:M Bool}{m m':M D}(hc:SB X G F c mc)(ha:SE X G F a m)(hb:SE X G F b m'):SE X G F (.IfExp c a b pos) (mIf mc m m'):=by
 walk_at "go"
 exact Mi.se_ifExp hc ha hb
theorem se_isi{p:Pos}{x y:Expr}{T:String}{m:M D}(hk:X.K=G.K)(hT:T= "int" \/T= "bool" \/T= "tuple" \/T= "list" \/T= "str")(hgl:Gl X "isinstance")(hm:X.mg "isinstance" =none)(ha:SE X G F x m)(hy:PE X y (tC (.ty T)))
 (he:starEach [x,y] X.env=(false,eval x X.env)::starEach [y] X.env:=by rfl) (he2:starEach [y] X.env=(false,eval y X.env)::starEach [] X.env:=by rfl) (hpl:(backTo pos (starEach [y] X.env)).any (·.1)=false:=by rfl):SE X G F (.Call (.Name "isinstance" p) [x,y] [] pos) (mIsi T m):=by
 walk_at "go"
 exact Mi.se_isi hk hT hgl hm ha hy he he2 hpl
end
section
variable{X:Cx}{G:Gx}{F:Fy}{e a b c:Expr}{st:Stmt}{sts rest:List Stmt}{pos:Pos}
theorem ss_nil:SSs X G F [] sNx:=by
 walk_at "go"
 exact Mi.ss_nil
theorem ss_cons{m m':MS}(h1:SS X G F st m)(h2:SSs X G F rest m'):SSs X G F (st::rest) (seqS m m'):=by
 walk_at "go"
 exact Mi.ss_cons h1 h2
theorem ss_one{m:MS}(h1:SS X G F st m):SSs X G F [st] m:=by
 walk_at "go"
 exact Mi.ss_one h1
theorem ss_expr{m:M D}(he:SE X G F e m)(hs:swapsWith e none pos.line X.env=pure false:=by rfl):SS X G F (.Expr e pos) (z3F m):=by
 walk_at "go"
 exact Mi.ss_expr he hs
theorem ss_ret{m:M D}(he:SE X G F e m):SS X G F (.Return (some e) pos) (sRet m):=by
 walk_at "go"
 exact Mi.ss_ret he
theorem ss_if{x y:List Stmt}{mc:M Bool}{m m':MS}(hc:SB X G F c mc)(ha:SSs X G F x m)(hb:SSs X G F y m'):SS X G F (.If c x y pos) (sIf mc m m'):=by
 walk_at "go"
 exact Mi.ss_if hc ha hb
theorem sg_name{i:Nat}{x:Str}{p:Pos}(h:PG X (.Name x p) (z5U i)):SG X G F (.Name x p) (.nm i):=by
 walk_at "go"
 exact Mi.sg_name h
theorem sgs_nil:SGs X G F [] []:=by
 walk_at "go"
 exact Mi.sgs_nil
theorem sgs_cons{es:List Expr}{g:Tg}{gs:List Tg}(h1:SG X G F e g)(h2:SGs X G F es gs)(hs:(assignEach (e::es) X.env).map (·.2)=assign e X.env::(assignEach es X.env).map (·.2):=by rfl):SGs X G F (e::es) (g::gs):=by
 walk_at "go"
 exact Mi.sgs_cons h1 h2 hs
theorem sg_tup{es:List Expr}{k:Nat}{gs:List Tg}(hk:X.K=G.K)(hc:X.calm=true)(h:SGs X G F es gs)(hn:(assignEach es X.env).length=gs.length:=by rfl)(hst:(assignEach es X.env).findIdx? (·.1)=none:=by rfl):SG X G F (.Tuple es k pos) (.tp gs):=by
 walk_at "go"
 exact Mi.sg_tup hk hc h hn hst
theorem ss_set{i:Nat}{x:Str}{p:Pos}{m:M D}(h: ∀{te:TE},PE X e te->PS X (.Assign [.Name x p] e pos) (tAsg te (z5U i)))(he:SE X G F e m):SS X G F (.Assign [.Name x p] e pos) (sAsg (.nm i) m):=by
 walk_at "go"
 exact Mi.ss_set h he
end
section
variable{X:Cx}{G:Gx}{F:Fy}{e a b c tg iter:Expr}{pos:Pos}
theorem si_seq{m:M D}(hk:X.K=G.K)(h:SE X G F e m):SI X G F tg e (z0K m):=by
 walk_at "go"
 exact Mi.si_seq hk h
theorem si_rng1{p:Pos}{ms:List (M D)}(hg:Gl X "range")(hm:X.mg "range" =none)(ha:SA X G F [a] (z09 ms))(hs:starEach [a] X.env=[(false,eval a X.env)]:=by rfl):SI X G F tg (.Call (.Name "range" p) [a] [] pos) (z1F ms):=by
 walk_at "go"
 exact Mi.si_rng1 hg hm ha hs
theorem ss_for{body:List Stmt}{mi:M ItK}{g:Tg}{mb:MS}(hp:PassesOwn (model X.prog X.w) X.A X.env X.xe)(hc:X.calm=true)(hi:SI X G F tg iter mi)(hg:SG X G F tg g)(hb:SSs X G F body mb)(hst: ∀x,foldedSetIterable iter X.env x=pure x:=by intro _;rfl):SS X G F (.For tg iter body [] pos) (sFor mi g mb):=by
 walk_at "go"
 exact Mi.ss_for hp hc hi hg hb hst
end
section
variable{X:Cx}{G:Gx}{F:Fy}{e a b c tg iter elt:Expr}{pos:Pos}
theorem sts_nil:STs X G F [] (rt true):=by
 walk_at "go"
 exact Mi.sts_nil
theorem se_comp{scope:Scope}{own frees:List Str}{ix:List Nat}{ifs:List Expr}{mi:M ItK}{g:Tg}{mt:M Bool}{me:M D}(hk:X.K=G.K)(hc:X.calm=true)(S:z0G X.env.scope scope own frees X.N ix)(hi:SI X G F tg iter mi)
 (hg: ∀(F:Fy) cl C s₀ H₀ fp pn,SG (z0r X scope own frees cl C s₀ H₀ fp pn) G F tg g) (ht: ∀(F:Fy) cl C s₀ H₀ fp pn,STs (z0r X scope own frees cl C s₀ H₀ fp pn) G F ifs mt) (he: ∀(F:Fy) cl C s₀ H₀ fp pn,SE (z0r X scope own frees cl C s₀ H₀ fp pn) G F elt me)
 (hs: ∀x,foldedSetIterable iter X.env x=pure x:=by intro _;rfl):SE X G F (.ListComp elt [⟨tg,iter,ifs,0⟩] scope pos) (z0x mi g mt me own.length ix):=by
 walk_at "go"
 exact Mi.se_comp hk hc S hi hg ht he hs
end
section
variable{G:Gx}{ρ:Nat->Addr}{H:Hp}
section
variable(k:KD G.K H){n:Nat}(inj: ∀i j,i<n->j<n->ρ i=ρ j->i=j)
include k inj
end
end
section
variable{G:Gx}{ρ ρ':Nat->Addr}{H H':Hp}
section
variable(k:KD G.K H){n:Nat}(inj: ∀i j,i<n->j<n->ρ i=ρ j->i=j){ts:List D}{vs:List V}(r:RDs G ρ H ts vs)(lb: ∀l∈labsL ts,l<n)
include k inj r lb
end
variable{F:Fy}{σv tv:List (Option V)}{s:Stt}{np:Nat}
theorem se_call{X:Cx}{e:Expr}{es:List Expr}{pos p:Pos}{CX:CXT}{k:Nat}{fa:Addr}{fd:FuncData}{ps:List Str}{x:Str}{E:XK}{f:FM}{ms:List (M D)}(hk:X.K=G.K)(Fn:FnOk X.prog X.w X.K X.mg X.base CX k fa fd ps (spM G ps.length f))(hr:Room k X.A)(hg:Gl X x)(hm:X.mg x=some (.ref fa))(hkp:W.keepIn X.K (.ref fa)=true)(hb:z38 X.K fd ps [])(hx:z3g CX X E)
 (ha:SA X G F (e::es) (z09 ms)) (hln:ms.length=ps.length) (hdb:(x==("__debug__" :Str))=false:=by decide) (he:starEach (e::es) X.env=(false,eval e X.env)::starEach es X.env:=by rfl) (hpl:(backTo pos (starEach es X.env)).any (·.1)=false:=by rfl):
 SE X G F (.Call (.Name x p) (e::es) [] pos) (z07 f ms):=by
 walk_at "go"
 exact Mi.se_call hk Fn hr hg hm hkp hb hx ha hln hdb he hpl
theorem fn_M{P:Program}{w:World}{K:W.Frag}{mg:Str->Option Value}{base:Heap}{x qual:Str}{st:Stmt}{fa:Addr}{fd:FuncData}{N ps:List Str}{k:Nat}{mb:MS}(Fn:Fun K x qual st fa fd)(S:z0p N ps (z03 st))(hG:G.K=K)
 (hb: ∀(cdv:Value) (A:Around) (outer:List Env) (s:Shared) (H:Hp) (E:XK) (F:Fy),Room k (A.deeper (envOfC qual (z03 st) s.heap.objs.size fa cdv))->SSs (cxOf CX0 P w K mg base N qual (z03 st) fa cdv A outer s H E).nox G F (z0S st) mb):
 FnOk P w K mg base CX0 (k+1) fa fd ps (spM G ps.length (runF N.length mb)):=by
 walk_at "go"
 exact Mi.fn_M Fn S hG hb
end
section
variable{X:Cx}{G:Gx}{F:Fy}{e o:Expr}{es:List Expr}{apos cpos:Pos}
theorem ss_setI{ob ix:Expr}{pos tpos:Pos}{mo mi me:M D}(he:SE X G F e me)(ho:SE X G F ob mo)(hi:SE X G F ix mi)(hg: ∀{to ti:TE},PE X ob to->PE X ix ti->PG X (.Subscript ob ix tpos) (gSub to ti z8e))(hs:swapsWithSole [.Subscript ob ix tpos] e pos.line X.env=pure false:=by rfl)(hw:swappedStores [.Subscript ob ix tpos] e X.env=pure none:=by rfl)
 (h1:(assignEach [.Subscript ob ix tpos] X.env).map (·.2)=[assign (.Subscript ob ix tpos) X.env]:=by rfl):SS X G F (.Assign [.Subscript ob ix tpos] e pos) (mTri me mo mi setD):=by
 walk_at "go"
 exact Mi.ss_setI he ho hi hg hs hw h1
end
section
variable{X:Cx}{G:Gx}{F:Fy}{e a b c:Expr}{pos:Pos}{ma mb mc m:M D}
theorem se_add(hk:X.K=G.K)(ha:SE X G F a ma)(hb:SE X G F b mb):SE X G F (.BinOp a .Add b pos) (mBin ma mb addD):=by
 walk_at "go"
 exact Mi.se_add hk ha hb
theorem se_sub(hk:X.K=G.K)(ha:SE X G F a ma)(hb:SE X G F b mb):SE X G F (.BinOp a .Sub b pos) (mBin ma mb subD):=by
 walk_at "go"
 exact Mi.se_sub hk ha hb
theorem se_mul(hk:X.K=G.K)(ha:SE X G F a ma)(hb:SE X G F b mb):SE X G F (.BinOp a .Mult b pos) (mBin ma mb mulD):=by
 walk_at "go"
 exact Mi.se_mul hk ha hb
theorem se_fdiv(hk:X.K=G.K)(ha:SE X G F a ma)(hb:SE X G F b mb):SE X G F (.BinOp a .FloorDiv b pos) (mBin ma mb z4k):=by
 walk_at "go"
 exact Mi.se_fdiv hk ha hb
theorem se_mod(hk:X.K=G.K)(ha:SE X G F a ma)(hb:SE X G F b mb):SE X G F (.BinOp a .Mod b pos) (mBin ma mb modD):=by
 walk_at "go"
 exact Mi.se_mod hk ha hb
theorem se_pow(hk:X.K=G.K)(ha:SE X G F a ma)(hb:SE X G F b mb):SE X G F (.BinOp a .Pow b pos) (mBin ma mb powD):=by
 walk_at "go"
 exact Mi.se_pow hk ha hb
theorem se_neg(hk:X.K=G.K)(ha:SE X G F a ma):SE X G F (.UnaryOp .USub a pos) (bd ma negD):=by
 walk_at "go"
 exact Mi.se_neg hk ha
theorem se_cmp{op:CmpOp}{g:D->D->M D}(hc:Cm X G F op g)(ha:SE X G F a ma)(hb:SE X G F b mb)(hm:behindInMarks op b=false):SE X G F (.Compare a [op] [b] pos) (mBin ma mb g):=by
 walk_at "go"
 exact Mi.se_cmp hc ha hb hm
theorem sb_cmp{op:CmpOp}{g:D->D->M D}(hc:Cm X G F op g)(ha:SE X G F a ma)(hb:SE X G F b mb)(hm:behindInMarks op b=false):SB X G F (.Compare a [op] [b] pos) (mBoo (mBin ma mb g)):=by
 walk_at "go"
 exact Mi.sb_cmp hc ha hb hm
theorem se_idx(hk:X.K=G.K)(ha:SE X G F a ma)(hb:SE X G F b mb)(hs:z1l b):SE X G F (.Subscript a b pos) (mBin ma mb ixD):=by
 walk_at "go"
 exact Mi.se_idx hk ha hb hs
theorem se_cb{x:Str}{p:Pos}{es:List Expr}{ms:List (M D)}{g:List D->M D}{id:String}(hk:X.K=G.K)(hc:Cb X G F (.builtin id) g)(hgl:Gl X x)(hm:X.mg x=none)(hv:bootBuiltins x=some (.builtin id))(ha:SA X G F (e::es) (z09 ms))(hn:x≠ "__name__" :=by decide)(hdb:(x==("__debug__" :Str))=false:=by decide)
 (he:starEach (e::es) X.env=(false,eval e X.env)::starEach es X.env:=by rfl) (hpl:(backTo pos (starEach es X.env)).any (·.1)=false:=by rfl):SE X G F (.Call (.Name x p) (e::es) [] pos) (mCB ms g):=by
 walk_at "go"
 exact Mi.se_cb hk hc hgl hm hv ha hn hdb he hpl
theorem se_ct{x:Str}{p:Pos}{es:List Expr}{ms:List (M D)}{g:List D->M D}{T:String}(hk:X.K=G.K)(hc:Cb X G F (.type T) g)(hgl:Gl X x)(hm:X.mg x=none)(hv:bootBuiltins x=some (.type T))(ha:SA X G F (e::es) (z09 ms))(hn:x≠ "__name__" :=by decide)(hdb:(x==("__debug__" :Str))=false:=by decide)
 (he:starEach (e::es) X.env=(false,eval e X.env)::starEach es X.env:=by rfl) (hpl:(backTo pos (starEach es X.env)).any (·.1)=false:=by rfl):SE X G F (.Call (.Name x p) (e::es) [] pos) (mCB ms g):=by
 walk_at "go"
 exact Mi.se_ct hk hc hgl hm hv ha hn hdb he hpl
end
section
variable{X:Cx}{G:Gx}{F:Fy}{e o:Expr}{es:List Expr}{apos cpos:Pos}
theorem se_cl{name:Str}{id:String}{mo:M D}{ms:List (M D)}{g:D->List D->M D}(hk:X.K=G.K)(slot:Slot "list" name id)(hty:typeOf (.builtin id)=pure (.type "method_descriptor"))(hm:Cl X G F id g)(ho:SE X G F o mo)(ha:SA X G F (e::es) (z09 ms))
 (hbase:attributeBase o name X.env (eval o X.env)=eval o X.env:=by rfl)
 (hfew:((backTo cpos (starEach (e::es) X.env)).all (fun x=> !x.1)&&(backToKw cpos (keywordEach [] X.env)).all (fun x=>x.1.isSome)
  &&decide ((e::es).length+([]:List Keyword).length+(if([]:List Keyword).isEmpty then 0 else 1)<30))=true:=by rfl)
 (hline:(apos.endLine==cpos.line)=true:=by rfl) (hs:starEach (e::es) X.env=(false,eval e X.env)::starEach es X.env:=by rfl) (hplain:(backTo cpos (starEach es X.env)).any (·.1)=false:=by rfl):SE X G F (.Call (.Attribute o name apos) (e::es) [] cpos) (z2G mo ms g):=by
 walk_at "go"
 exact Mi.se_cl hk slot hty hm ho ha hbase hfew hline hs hplain
end
section
variable{X:Cx}{G:Gx}{F:Fy}{a b tg:Expr}{pos:Pos}
theorem si_enm{p tpos:Pos}{elts:List Expr}{x1:Nat}{ms:List (M D)}(hk:X.K=G.K)(hg:Gl X "enumerate")(hm:X.mg "enumerate" =none)(ha:SA X G F [a] (z09 ms))(hs:starEach [a] X.env=[(false,eval a X.env)]:=by rfl):SI X G F (.Tuple elts x1 tpos) (.Call (.Name "enumerate" p) [a] [] pos) (mEnm ms):=by
 walk_at "go"
 exact Mi.si_enm hk hg hm ha hs
theorem se_rev{e st:Expr}{p2:Pos}{m:M D}(hk:X.K=G.K)(hst:PO X (some st) (z8c (tUn (rU fun i=>V.int (-i)) (tC (.int 1)))))(he:SE X G F e m):SE X G F (.Subscript e (.Slice none none (some st) p2) pos) (bd m rvsD):=by
 walk_at "go"
 exact Mi.se_rev hk hst he
end
section
variable{X:Cx}{G:Gx}{F:Fy}{a b e:Expr}{ma mb:M D}{pos:Pos}
theorem se_dgt(hk:X.K=G.K)(hu:X.A.units+64<cLine)(ha:SE X G F a ma)(hb:SE X G F b mb)(hs:z1l b):SE X G F (.Subscript a b pos) (mBin ma mb dgtD):=by
 walk_at "go"
 exact Mi.se_dgt hk hu ha hb hs
theorem se_dnew(hk:X.K=G.K):SE X G F (.Dict [] [] pos) z2J:=by
 walk_at "go"
 exact Mi.se_dnew hk
theorem ss_dput{ob ix:Expr}{pos tpos:Pos}{mo mi me:M D}(hu:X.A.units+64<cLine)(he:SE X G F e me)(ho:SE X G F ob mo)(hi:SE X G F ix mi)(hs:swapsWith e (some (.Subscript ob ix tpos)) pos.line X.env=pure false:=by rfl):
 SS X G F (.Assign [.Subscript ob ix tpos] e pos) (mTri me mo mi z21):=by
 walk_at "go"
 exact Mi.ss_dput hu he ho hi hs
end
section
variable{X:Cx}{G:Gx}{F:Fy}{tg iter elt:Expr}{pos:Pos}
theorem se_compD{scope:Scope}{own frees:List Str}{ix:List Nat}{ifs:List Expr}{m0:M D}{g:Tg}{mt:M Bool}{me:M D}(hk:X.K=G.K)(hc:X.calm=true)(S:z0G X.env.scope scope own frees X.N ix)(hi:SE X G F iter m0)
 (hg: ∀(F:Fy) cl C s₀ H₀ fp pn,SG (z0r X scope own frees cl C s₀ H₀ fp pn) G F tg g) (ht: ∀(F:Fy) cl C s₀ H₀ fp pn,STs (z0r X scope own frees cl C s₀ H₀ fp pn) G F ifs mt) (he: ∀(F:Fy) cl C s₀ H₀ fp pn,SE (z0r X scope own frees cl C s₀ H₀ fp pn) G F elt me)
 (hs: ∀x,foldedSetIterable iter X.env x=pure x:=by intro _;rfl):SE X G F (.ListComp elt [⟨tg,iter,ifs,0⟩] scope pos) (z0x (z4v m0) g mt me own.length ix):=by
 walk_at "go"
 exact Mi.se_compD hk hc S hi hg ht he hs
end
inductive SEs(X:Cx)(G:Gx)(F:Fy):List Expr->List (M D)->Prop
 |nil:SEs X G F [] []
 |cons {e:Expr} {m:M D} {es:List Expr} {ms:List (M D)}:SE X G F e m->nst e=true->SEs X G F es ms->SEs X G F (e::es) (m::ms)
theorem eSEs{X:Cx}{G:Gx}{F:Fy}{es:List Expr}{ms:List (M D)}(h:SEs X G F es ms):Mi.SEs X G F es ms:=by
 induction h with
 |nil=>exact .nil
 |cons h n _ ih=>rw[eSE] at h;exact .cons h n ih
theorem sa_of{X:Cx}{G:Gx}{F:Fy}{es:List Expr}{ms:List (M D)}(hk:X.K=G.K)(h:SEs X G F es ms):SA X G F es (z09 ms):=by
 rw[eSA];exact Mi.sa_of hk (eSEs h)
section
variable{X:Cx}{G:Gx}{F:Fy}{e a b c d:Expr}{pos p:Pos}{m ma mb mc md:M D}
theorem sv(i:Nat){x:Str}(hk:X.K=G.K:=by rfl)(hN:X.N[i]? =some x:=by rfl)(hv:Vis X.env.scope x:=by first|exact Or.inl rfl|exact Or.inr (Or.inl rfl)|exact Or.inr (Or.inr rfl))(hd:(x==("__debug__" :Str))=false:=by decide)(hcd:(x==("__classdict__" :Str))=false:=by decide):SE X G F (.Name x pos) (mVar i):=se_var i hk (pv i hN hv hd hcd)
theorem s1(h:SE X G F a ma)(n:nst a=true:=by rfl)(hk:X.K=G.K:=by rfl):SA X G F [a] (z09 [ma]):=sa_of hk (.cons h n .nil)
theorem s2(h:SE X G F a ma)(h2:SE X G F b mb)(n:nst a=true:=by rfl)(n2:nst b=true:=by rfl)(hk:X.K=G.K:=by rfl):SA X G F [a,b] (z09 [ma,mb]):=sa_of hk (.cons h n (.cons h2 n2 .nil))
theorem s3(h:SE X G F a ma)(h2:SE X G F b mb)(h3:SE X G F c mc)(n:nst a=true:=by rfl)(n2:nst b=true:=by rfl)(n3:nst c=true:=by rfl)(hk:X.K=G.K:=by rfl):SA X G F [a,b,c] (z09 [ma,mb,mc]):=sa_of hk (.cons h n (.cons h2 n2 (.cons h3 n3 .nil)))
theorem s4(h:SE X G F a ma)(h2:SE X G F b mb)(h3:SE X G F c mc)(h4:SE X G F d md)(n:nst a=true:=by rfl)(n2:nst b=true:=by rfl)(n3:nst c=true:=by rfl)(n4:nst d=true:=by rfl)(hk:X.K=G.K:=by rfl):SA X G F [a,b,c,d] (z09 [ma,mb,mc,md]):=sa_of hk (.cons h n (.cons h2 n2 (.cons h3 n3 (.cons h4 n4 .nil))))
theorem sst(i:Nat){x:Str}(hN:X.N.Nodup)(he:SE X G F e m)(hi:X.N[i]? =some x:=by rfl)(hx:Loc X.env.scope x:=by exact Or.inl rfl)(hs:swapsWith e (some (.Name x p)) pos.line X.env=pure false:=by rfl)(hf:X.fn x=true\/X.env.scope.names.lookup x=some .local:=by first|exact .inl rfl|exact .inr rfl|assumption):SS X G F (.Assign [.Name x p] e pos) (sAsg (.nm i) m):=
 ss_set (fun{te} h=>z42 hN hi hx h hs hf) he
theorem sgn(i:Nat){x:Str}(hN:X.N.Nodup)(hi:X.N[i]? =some x:=by rfl)(hx:Loc X.env.scope x:=by exact Or.inl rfl)(hf:X.fn x=true\/X.env.scope.names.lookup x=some .local:=by first|exact .inl rfl|exact .inr rfl|assumption):SG X G F (.Name x pos) (.nm i):=sg_name (z0O hN hi hx hf)
theorem sln{es:List Expr}{ms:List (M D)}(hm:X.mg "len" =none)(ha:SA X G F (e::es) (z09 ms))(hgl:Gl X "len" :=by rfl)(he:starEach (e::es) X.env=(false,eval e X.env)::starEach es X.env:=by rfl)(hpl:(backTo pos (starEach es X.env)).any (·.1)=false:=by rfl)(hk:X.K=G.K:=by rfl):SE X G F (.Call (.Name "len" p) (e::es) [] pos) (mCB ms lenD):=
 se_cb hk (zcn hk) hgl hm PyProof.Rows.Boot.«len» ha (by decide) (by decide) he hpl
theorem sc0{v:V}{d:D}(h:PE X e (tC v))(hd:cV d=some v:=by rfl)(hk:X.K=G.K:=by rfl):SE X G F e (mC d):=se_c hk h hd
theorem sxc{v:V}{q:D}(ha:SE X G F a ma)(h:PE X b (tC v))(hd:cV q=some v:=by rfl)(hs:z1l b:=by exact fun _ _=>rfl)(hk:X.K=G.K:=by rfl):SE X G F (.Subscript a b pos) (mBin ma (mC q) ixD):=se_idx hk ha (se_c hk h hd) hs
theorem sxx(ha:SE X G F a ma)(hb:SE X G F b mb)(hs:z1l b:=by exact fun _ _=>rfl)(hk:X.K=G.K:=by rfl):SE X G F (.Subscript a b pos) (mBin ma mb ixD):=se_idx hk ha hb hs
end
section
variable{G:Gx}{P:Program}{w:World}{K:W.Frag}{mg:Str->Option Value}{base:Heap}{x qual:Str}{st:Stmt}{fa:Addr}{fd:FuncData}{N ps:List Str}{k np:Nat}{f:FM}
theorem okM(mb:MS)(Fn:Fun K x qual st fa fd)(S:z0p N ps (z03 st))(hb: ∀(cdv:Value) (A:Around) (outer:List Env) (s:Shared) (H:Hp) (E:XK) (F:Fy),Room k (A.deeper (envOfC qual (z03 st) s.heap.objs.size fa cdv))->SSs (cxOf CX0 P w K mg base N qual (z03 st) fa cdv A outer s H E).nox G F (z0S st) mb)(hG:G.K=K:=by rfl)(hf:f=runF N.length mb:=by rfl)(hn:np=ps.length:=by rfl):
 FnOk P w K mg base CX0 (k+1) fa fd ps (spM G np f):=by
 subst hf hn;exact fn_M Fn S hG hb
end
section
variable{X:Cx}{G:Gx}{F:Fy}{a b tg e o iter elt:Expr}{pos apos cpos:Pos}{mo mi mx:M D}
theorem si_ens{p tpos kp:Pos}{elts:List Expr}{x1:Nat}{ms:List (M D)}(hk:X.K=G.K)(hg:Gl X "enumerate")(hm:X.mg "enumerate" =none)(ha:SA X G F [a] (z09 ms))(hb:PE X b (tC (.int 1)))(hs:starEach [a] X.env=[(false,eval a X.env)]:=by rfl):SI X G F (.Tuple elts x1 tpos) (.Call (.Name "enumerate" p) [a] [⟨some "start",b,kp⟩] pos) (mEns ms):=by
 rw[eSI];rw[eSA] at ha
 exact Mi.si_ens hk hg hm ha hb hs
theorem se_getT(hk:X.K=G.K)(hu:X.A.units+64<cLine)(ho:SE X G F o mo)(ha:SE X G F a mi)(hb:SE X G F b mx)(m:M2 X o "get" apos a b cpos):SE X G F (.Call (.Attribute o "get" apos) [a,b] [] cpos) (z4A mo mi mx):=by
 rw[eSE];rw[eSE] at ho ha hb
 exact Mi.se_getT hk hu ho ha hb m
theorem se_compDI{scope:Scope}{own frees:List Str}{ix:List Nat}{ifs:List Expr}{m0:M D}{g:Tg}{mt:M Bool}{me:M D}{elts:List Expr}{x1:Nat}{tpos apos cpos:Pos}(hk:X.K=G.K)(hc:X.calm=true)(S:z0G X.env.scope scope own frees X.N ix)(hi:SE X G F iter m0)
 (hg: ∀(F:Fy) cl C s₀ H₀ fp pn,SG (z0r X scope own frees cl C s₀ H₀ fp pn) G F (.Tuple elts x1 tpos) g) (ht: ∀(F:Fy) cl C s₀ H₀ fp pn,STs (z0r X scope own frees cl C s₀ H₀ fp pn) G F ifs mt) (he: ∀(F:Fy) cl C s₀ H₀ fp pn,SE (z0r X scope own frees cl C s₀ H₀ fp pn) G F elt me)
 (hs: ∀x,foldedSetIterable (.Call (.Attribute iter "items" apos) [] [] cpos) X.env x=pure x:=by intro _;rfl) (hbase:attributeBase iter "items" X.env (eval iter X.env)=eval iter X.env:=by rfl)
 (hfew:((backTo cpos (starEach [] X.env)).all (fun x=> !x.1)&&(backToKw cpos (keywordEach [] X.env)).all (fun x=>x.1.isSome)&&decide (([]:List Expr).length+([]:List Keyword).length+(if([]:List Keyword).isEmpty then 0 else 1)<30))=true:=by rfl)
 (hline:(apos.endLine==cpos.line)=true:=by rfl):SE X G F (.ListComp elt [⟨.Tuple elts x1 tpos, .Call (.Attribute iter "items" apos) [] [] cpos,ifs,0⟩] scope pos) (z0x (z4y m0) g mt me own.length ix):=by
 simp only[eSE,eSA,eSB,eSW,eSS,eSSs,eSG,eSGs,eSI,eSO,eSTs] at*
 exact Mi.se_compDI hk hc S hi hg ht he hs hbase hfew hline
end
end My
namespace My
open PySem L2 Mi
noncomputable def top(i:Nat):Stmt:=PySem.Challenge.pw_signbench_k33_what_is_learnt.main.body.getD i (.Pass ⟨0,0,0,0⟩)
noncomputable abbrev z22:Stmt:=top 1
noncomputable abbrev z54:Stmt:=top 3
noncomputable abbrev z3L:Stmt:=top 4
noncomputable abbrev z2M:Stmt:=top 5
noncomputable abbrev z3M:Stmt:=top 6
noncomputable abbrev z23:Stmt:=top 7
noncomputable abbrev z24:Stmt:=top 8
noncomputable abbrev z13:Stmt:=top 9
noncomputable abbrev z25:Stmt:=top 10
noncomputable abbrev z1G:Stmt:=top 11
noncomputable abbrev z2N:Stmt:=top 12
noncomputable abbrev z2O:Stmt:=top 13
noncomputable abbrev z55:Stmt:=top 14
noncomputable abbrev z2P:Stmt:=top 15
noncomputable abbrev zar:Stmt:=top 16
noncomputable abbrev z6k:List Str:=["commits", "counted", "number", "sounds", "cutting", "wished", "begin", "end", "signs", "kind", "cost", "name", "many"]
noncomputable abbrev z26:List Str:=["commits"]
noncomputable abbrev zas:List Str:=["_law_script", "_law_at", "_law_cell", "_law_mix", "_law_k"]
noncomputable abbrev z56:List Str:=["_law_script", "_law_at"]
noncomputable abbrev z8F:List Str:=["_law_bag_here", "_law_many", "_law_digit"]
noncomputable abbrev z3N:List Str:=["_law_bag_here", "_law_many"]
noncomputable abbrev z4B:List Str:=["_law_thing"]
noncomputable abbrev z2Q:List Str:=z4B
noncomputable abbrev z5O:List Str:=["_law_thing", "_law_least", "_law_most"]
noncomputable abbrev z5P:List Str:=z5O
noncomputable abbrev z3l:List Str:=["_law_thing", "_law_least", "_law_most", "_law_top"]
noncomputable abbrev z3m:List Str:=z3l
noncomputable abbrev z6l:List Str:=["_law_bag_here", "_law_n", "_law_top"]
noncomputable abbrev z27:List Str:=["_law_bag_here", "_law_n"]
noncomputable abbrev z3d:List Str:=["_law_bag_here", "_law_top"]
noncomputable abbrev z14:List Str:=["_law_bag_here"]
noncomputable abbrev z6m:List Str:=["_law_bag_here", "_law_n", "_law_sounds_here", "_law_far", "_law_cutting", "_law_place", "_law_turn"]
noncomputable abbrev z28:List Str:=["_law_bag_here", "_law_n"]
noncomputable abbrev z57:List Str:=["_law_bag_here", "_law_many"]
noncomputable abbrev z1H:List Str:=["_law_bag_here"]
noncomputable abbrev z7A:List Str:=["_law_commit_here", "_law_found", "_law_begin", "_law_end", "_law_signs", "_law_kind", "_law_cost"]
noncomputable abbrev z2R:List Str:=["_law_commit_here"]
noncomputable abbrev z7B:List Str:=["_law_commits_here", "_law_found", "_law_commit_here", "_law_pair"]
noncomputable abbrev z2S:List Str:=["_law_commits_here"]
noncomputable abbrev zat:List Str:=["_law_commits_here", "_law_times_here", "_law_last", "_law_place", "_law_commit_here", "_law_pair"]
noncomputable abbrev z58:List Str:=["_law_commits_here"]
noncomputable abbrev z7C:List Str:=["_law_commits_here", "_law_due_here", "_law_handed", "_law_turn", "_law_told"]
noncomputable abbrev z2T:List Str:=["_law_commits_here"]
noncomputable abbrev zee:List Str:=["_law_script", "_law_k", "_law_bag_here", "_law_again", "_law_commits_here"]
noncomputable abbrev zau:List Str:=["_law_script"]
local macro_rules | `(tactic| walk_at "sc") => `(tactic| exact ⟨rfl, rfl, rfl, by decide +kernel, rfl, by decide +kernel, by decide +kernel⟩)
theorem z0d:z0p z6k z26 (z03 z22):=by walk_at "sc"
theorem z1g:z0p zas z56 (z03 z54):=by walk_at "sc"
theorem z4C:z0p z8F z3N (z03 z3L):=by walk_at "sc"
theorem z6n:z0p z4B z2Q (z03 z2M):=by walk_at "sc"
theorem zcE:z0p z5O z5P (z03 z3M):=by walk_at "sc"
theorem zav:z0p z3l z3m (z03 z23):=by walk_at "sc"
theorem z2U:z0p z6l z27 (z03 z24):=by walk_at "sc"
theorem z1q:z0p z3d z14 (z03 z13):=by walk_at "sc"
theorem z0A:z0p z6m z28 (z03 z25):=by walk_at "sc"
theorem z2e:z0p z57 z1H (z03 z1G):=by walk_at "sc"
theorem z0C:z0p z7A z2R (z03 z2N):=by walk_at "sc"
theorem z1w:z0p z7B z2S (z03 z2O):=by walk_at "sc"
theorem z1x:z0p zat z58 (z03 z55):=by walk_at "sc"
theorem z17:z0p z7C z2T (z03 z2P):=by walk_at "sc"
theorem z3n:z0p zee zau (z03 zar):=by walk_at "sc"
structure Dx(K:W.Frag)(mg:Str->Option Value)(x:Str)(st:Stmt)(ps:List Str) where
 f:Addr
 d:FuncData
 F:Fun K x x st f d
 b:z38 K d ps []
 m:mg x=some (.ref f)
theorem scl{X:Cx}{G:Gx}{F:Fy}{e:Expr}{es:List Expr}{pos p:Pos}{CX:CXT}{k j:Nat}{x:Str}{st:Stmt}{ps:List Str}{E:XK}{f:FM}{ms:List (M D)}(d:Dx X.K X.mg x st ps)(Fn:FnOk X.prog X.w X.K X.mg X.base CX j d.f d.d ps (spM G ps.length f))(hr:Room k X.A)(ha:SA X G F (e::es) (z09 ms))(hg:Gl X x:=by rfl)(hx:z3g CX X E:=by exact zdS)(hln:ms.length=ps.length:=by rfl)(hk:X.K=G.K:=by rfl)(hj:j<=k:=by lia)(hdb:(x==("__debug__" :Str))=false:=by decide)(he:starEach (e::es) X.env=(false,eval e X.env)::starEach es X.env:=by rfl)(hpl:(backTo pos (starEach es X.env)).any (·.1)=false:=by rfl):SE X G F (.Call (.Name x p) (e::es) [] pos) (z07 f ms):=se_call hk (Fn.mono hj) hr hg d.m d.F.kp d.b hx ha hln hdb he hpl
set_option genInjectivity false in
set_option genSizeOf false in
set_option genSizeOfSpec false in
structure Wd(K:W.Frag)(mg:Str->Option Value) where
 x_p_learnt:Dx K mg "learnt" z22 z26
 x_l_bag:Dx K mg "_law_bag" z54 z56
 x_l_take:Dx K mg "_law_take" z3L z3N
 x_l_whole:Dx K mg "_law_whole" z2M z2Q
 x_l_from:Dx K mg "_law_from" z3M z5P
 x_l_is_row:Dx K mg "_law_is_row" z23 z3m
 x_l_sounds:Dx K mg "_law_sounds" z24 z27
 x_l_some_signs:Dx K mg "_law_some_signs" z13 z14
 x_l_commit:Dx K mg "_law_commit" z25 z28
 x_l_commits:Dx K mg "_law_commits" z1G z1H
 x_l_parts:Dx K mg "_law_parts" z2N z2R
 x_l_times:Dx K mg "_law_times" z2O z2S
 x_l_due:Dx K mg "_law_due" z55 z58
 x_l_right:Dx K mg "_law_right" z2P z2T
 x_law:Dx K mg "law" zar zau
 n_abs:mg "abs" =none
 n_all:mg "all" =none
 n_bool:mg "bool" =none
 n_enumerate:mg "enumerate" =none
 n_int:mg "int" =none
 n_isinstance:mg "isinstance" =none
 n_len:mg "len" =none
 n_list:mg "list" =none
 n_max:mg "max" =none
 n_min:mg "min" =none
 n_range:mg "range" =none
 n_sorted:mg "sorted" =none
 n_tuple:mg "tuple" =none
section
variable{P:Program}{w:World}{K:W.Frag}{mg:Str->Option Value}{base:Heap}
noncomputable def z29:MS:=(seqS (sAsg (.nm 1) z2J)
 (seqS (sFor (mEns [(mVar 0)]) (.tp [(.nm 2),(.tp [(.nm 3),(.nm 4),(.nm 5)])]) (seqS (sAsg (.nm 6) (mC (.int 0)))
 (sFor (z0K (mVar 4)) (.tp [(.nm 7),(.nm 8),(.nm 9),(.nm 10)]) (seqS (sAsg (.nm 11) (mCB [(mSl (mVar 3) (some (mVar 6)) (some (mVar 7))),(mVar 8)] tupD))
 (seqS (sAsg (.nm 12) (mIf (mBoo (mBin (mVar 11) (mVar 1) dinD)) (mBin (mBin (mVar 1) (mVar 11) dgtD) (mC (.int 0)) ixD) (mC (.int 0))))
 (seqS (mTri (mCB [(mBin (mVar 12) (mC (.int 1)) addD),(mVar 2)] tupD) (mVar 1) (mVar 11) z21)
 (sAsg (.nm 6) (mVar 7))))))))
 (sRet (mCB [(z0x (z4y (mVar 1)) (.tp [(.nm 0),(.nm 1)]) (rt true) (mBin (mVar 0) (mVar 1) addD) 2 [])] srtT))))
noncomputable def z18:FM:=runF 13 z29
theorem z59(T:Wd K mg):FnOk P w K mg base CX0 1 T.x_p_learnt.f T.x_p_learnt.d z26 (spM (G0 K) 1 z18):=okM z29 T.x_p_learnt.F z0d fun cdv A outer s H E F hr=>by
 have h64:=hr.units
 exact(ss_cons (sst 1 z0d.nd (se_dnew rfl))
 (ss_cons (ss_for PassesOwn.never rfl (si_ens rfl rfl T.n_enumerate (s1 (sv 0)) z01) (sg_tup rfl rfl (sgs_cons (sgn 2 z0d.nd) (sgs_cons (sg_tup rfl rfl (sgs_cons (sgn 3 z0d.nd) (sgs_cons (sgn 4 z0d.nd) (sgs_cons (sgn 5 z0d.nd) sgs_nil)))) sgs_nil))) (ss_cons (sst 6 z0d.nd (sc0 z01))
 (ss_one (ss_for PassesOwn.never rfl (si_seq rfl (sv 4)) (sg_tup rfl rfl (sgs_cons (sgn 7 z0d.nd) (sgs_cons (sgn 8 z0d.nd) (sgs_cons (sgn 9 z0d.nd) (sgs_cons (sgn 10 z0d.nd) sgs_nil))))) (ss_cons (sst 11 z0d.nd (se_tup rfl (s2 (se_slice rfl (sv 3) (so_some (sv 6)) (so_some (sv 7))) (sv 8))))
 (ss_cons (sst 12 z0d.nd (se_ifExp (sb_cmp (zcx h64) (sv 11) (sv 1) (by with_unfolding_all rfl)) (sxc (se_dgt rfl h64 (sv 1) (sv 11) (fun _ _=>rfl)) z01) (sc0 z01)))
 (ss_cons (ss_dput h64 (se_tup rfl (s2 (se_add rfl (sv 12) (sc0 z01)) (sv 2))) (sv 1) (sv 11))
 (ss_one (sst 6 z0d.nd (sv 7))))))))))
 (ss_one (ss_ret (se_cb rfl (z7z rfl h64) rfl T.n_sorted PyProof.Rows.Boot.«sorted» (s1 (se_compDI (own:=["name", "found"]) (frees:=[]) (ix:=[]) rfl rfl (z1C.sc (by kernel_rfl)) (sv 1) (fun _ _ _ _ _ _ _=>(sg_tup rfl rfl (sgs_cons (sg_name (z0O (i:=0) (show List.Nodup (["name", "found"]:List Str) by decide+kernel) rfl (Or.inl rfl))) (sgs_cons (sg_name (z0O (i:=1) (show List.Nodup (["name", "found"]:List Str) by decide+kernel) rfl (Or.inl rfl))) sgs_nil)))) (fun _ _ _ _ _ _ _=>sts_nil) (fun _ _ _ _ _ _ _=>(se_add rfl (sv 0) (sv 1))))))))))
noncomputable def z5a:MS:=(seqS (sAsg (.nm 2) (mC (.int 0)))
 (seqS (sIf (mBoo (mBin (mVar 1) (mCB [(mVar 0)] lenD) ltD)) (sAsg (.nm 2) (mCB [(mBin (mVar 0) (mVar 1) ixD)] absD)) sNx)
 (seqS (sAsg (.nm 3) (mBin (mBin (mBin (mBin (mBin (mVar 2) (mC (.int 2147483629)) modD) (mBin (mC (.int 104729)) (mVar 1) mulD) addD) (mC (.int 17)) addD) (mC (.int 5)) powD) (mC (.int 2147483647)) modD))
 (seqS (sFor (z1F [(mCB [(mCB [(mVar 0)] lenD),(mC (.int 60))] minD)]) (.nm 4) (sAsg (.nm 3) (mBin (mBin (mBin (mBin (mVar 3) (mC (.int 48271)) mulD) (mBin (mBin (mBin (mVar 0) (mVar 4) ixD) (mC (.int 2147483587)) modD) (mBin (mVar 4) (mC (.int 3)) addD) mulD) addD) (mVar 4) addD) (mC (.int 2147483629)) modD)))
 (seqS (sIf (mBoo (mBin (mVar 2) (mBin (mC (.int 10)) (mC (.int 18)) powD) ltD)) (sAsg (.nm 2) (mC (.int 0))) sNx)
 (sRet (mCB [(mVar 2),(mVar 3)] lstM)))))))
noncomputable def z2V:FM:=runF 5 z5a
theorem z8G(T:Wd K mg):FnOk P w K mg base CX0 1 T.x_l_bag.f T.x_l_bag.d z56 (spM (G0 K) 2 z2V):=okM z5a T.x_l_bag.F z1g fun cdv A outer s H E F hr=>(ss_cons (sst 2 z1g.nd (sc0 z01))
 (ss_cons (ss_if (sb_cmp zai (sv 1) (sln T.n_len (s1 (sv 0))) (z1k _)) (ss_one (sst 2 z1g.nd (se_cb rfl zco rfl T.n_abs PyProof.Rows.Boot.«abs» (s1 (sxx (sv 0) (sv 1)))))) ss_nil)
 (ss_cons (sst 3 z1g.nd (se_mod rfl (se_pow rfl (se_add rfl (se_add rfl (se_mod rfl (sv 2) (sc0 z01)) (se_mul rfl (sc0 z01) (sv 1))) (sc0 z01)) (sc0 z01)) (sc0 z01)))
 (ss_cons (ss_for PassesOwn.never rfl (si_rng1 rfl T.n_range (s1 (se_cb rfl (z7n rfl) rfl T.n_min PyProof.Rows.Boot.«min» (s2 (sln T.n_len (s1 (sv 0))) (sc0 z01))))) (sgn 4 z1g.nd) (ss_one (sst 3 z1g.nd (se_mod rfl (se_add rfl (se_add rfl (se_mul rfl (sv 3) (sc0 z01)) (se_mul rfl (se_mod rfl (sxx (sv 0) (sv 4)) (sc0 z01)) (se_add rfl (sv 4) (sc0 z01)))) (sv 4)) (sc0 z01)))))
 (ss_cons (ss_if (sb_cmp zai (sv 2) (se_pow rfl (sc0 z01) (sc0 z01)) (z1k _)) (ss_one (sst 2 z1g.nd (sc0 z01))) ss_nil)
 (ss_one (ss_ret (se_lst rfl (s2 (sv 2) (sv 3))))))))))
noncomputable def z3O:MS:=(seqS (sIf (mBoo (mBin (mBin (mVar 0) (mC (.int 0)) ixD) (mC (.int 0)) gtD)) (seqS (sAsg (.nm 2) (mBin (mBin (mVar 0) (mC (.int 0)) ixD) (mVar 1) modD))
 (seqS (mTri (mBin (mBin (mVar 0) (mC (.int 0)) ixD) (mVar 1) z4k) (mVar 0) (mC (.int 0)) setD)
 (sRet (mVar 2)))) sNx)
 (seqS (mTri (mBin (mBin (mBin (mBin (mVar 0) (mC (.int 1)) ixD) (mC (.int 48271)) mulD) (mC (.int 7919)) addD) (mC (.int 2147483647)) modD) (mVar 0) (mC (.int 1)) setD)
 (sRet (mBin (mBin (mBin (mBin (mBin (mBin (mBin (mVar 0) (mC (.int 1)) ixD) (mC (.int 3)) powD) (mC (.int 2147483587)) modD) (mC (.int 7)) z4k) (mC (.int 69621)) mulD) (mC (.int 1073741789)) modD) (mVar 1) modD))))
noncomputable def z05:FM:=runF 3 z3O
theorem z0j(T:Wd K mg):FnOk P w K mg base CX0 1 T.x_l_take.f T.x_l_take.d z3N (spM (G0 K) 2 z05):=okM z3O T.x_l_take.F z4C fun cdv A outer s H E F hr=>(ss_cons (ss_if (sb_cmp ze7 (sxc (sv 0) z01) (sc0 z01) (z1k _)) (ss_cons (sst 2 z4C.nd (se_mod rfl (sxc (sv 0) z01) (sv 1)))
 (ss_cons (ss_setI (se_fdiv rfl (sxc (sv 0) z01) (sv 1)) (sv 0) (sc0 z01) (fun{to ti} h1 h2=>z8Z h1 h2 z5t))
 (ss_one (ss_ret (sv 2))))) ss_nil)
 (ss_cons (ss_setI (se_mod rfl (se_add rfl (se_mul rfl (sxc (sv 0) z01) (sc0 z01)) (sc0 z01)) (sc0 z01)) (sv 0) (sc0 z01) (fun{to ti} h1 h2=>z8Z h1 h2 z5t))
 (ss_one (ss_ret (se_mod rfl (se_mod rfl (se_mul rfl (se_fdiv rfl (se_mod rfl (se_pow rfl (sxc (sv 0) z01) (sc0 z01)) (sc0 z01)) (sc0 z01)) (sc0 z01)) (sc0 z01)) (sv 1))))))
noncomputable def z2W:MS:=(sRet (z4m (mIsi "int" (mVar 0)) (z7a (mIsi "bool" (mVar 0)))))
noncomputable def z0J:FM:=runF 1 z2W
theorem z3o(T:Wd K mg):FnOk P w K mg base CX0 1 T.x_l_whole.f T.x_l_whole.d z2Q (spM (G0 K) 1 z0J):=okM z2W T.x_l_whole.F z6n fun cdv A outer s H E F hr=>(ss_one (ss_ret (se_and (se_isi rfl (by decide) rfl T.n_isinstance (sv 0) (z4P (v:= .ty "int") rfl T.n_int PyProof.Rows.Boot.«int» rfl)) (se_one (se_not (se_isi rfl (by decide) rfl T.n_isinstance (sv 0) (z4P (v:= .ty "bool") rfl T.n_bool PyProof.Rows.Boot.«bool» rfl)))))))
noncomputable def z2a:MS:=(seqS (sAsg (.nm 2) (mBin (mCB [(mC (.int 2)),(mC (.int 3)),(mC (.int 40))] lstM) (z07 z05 [(mVar 0),(mC (.int 3))]) ixD))
 (sRet (mCB [(z0x (z1F [(mVar 1)]) (.nm 0) (rt true) (z07 z05 [(mVar 1),(mVar 2)]) 1 [0,2])] tupF)))
noncomputable def z19:FM:=runF 3 z2a
theorem z5b(T:Wd K mg):FnOk P w K mg base CX0 2 T.x_l_sounds.f T.x_l_sounds.d z27 (spM (G0 K) 2 z19):=okM z2a T.x_l_sounds.F z2U fun cdv A outer s H E F hr=>(ss_cons (ss_set (fun{te} h=>z42 (i:=2) z2U.nd rfl (Or.inr rfl) h) (sxx (se_lst rfl (s3 (sc0 z01) (sc0 z01) (sc0 z01))) (scl T.x_l_take (z0j T) hr (s2 (sv 0) (sc0 z01)))))
 (ss_one (ss_ret (se_ct rfl (z3H rfl) rfl T.n_tuple PyProof.Rows.Boot.«tuple» (s1 (se_comp (own:=["_law_k"]) (frees:=["_law_bag_here", "_law_top"]) (ix:=[0,2]) rfl rfl (z1C.sc (by kernel_rfl)) (si_rng1 rfl T.n_range (s1 (sv 1))) (fun _ _ _ _ _ _ _=>(sg_name (z0O (i:=0) (show List.Nodup (["_law_k", "_law_bag_here", "_law_top"]:List Str) by decide+kernel) rfl (Or.inl rfl)))) (fun _ _ _ _ _ _ _=>sts_nil) (fun _ _ _ _ _ _ _=>(scl T.x_l_take (z0j T) hr (s2 (sv 1) (sv 2))))))))))
noncomputable def z15:MS:=(seqS (sAsg (.nm 1) (mBin (mCB [(mC (.int 2)),(mC (.int 3)),(mC (.int 1000)),(mC (.int 1040))] lstM) (z07 z05 [(mVar 0),(mC (.int 4))]) ixD))
 (sRet (mCB [(z0x (z1F [(mBin (mC (.int 1)) (z07 z05 [(mVar 0),(mC (.int 4))]) addD)]) (.nm 0) (rt true) (z07 z05 [(mVar 1),(mVar 2)]) 1 [0,1])] tupF)))
noncomputable def z0z:FM:=runF 2 z15
theorem z2X(T:Wd K mg):FnOk P w K mg base CX0 2 T.x_l_some_signs.f T.x_l_some_signs.d z14 (spM (G0 K) 1 z0z):=okM z15 T.x_l_some_signs.F z1q fun cdv A outer s H E F hr=>(ss_cons (ss_set (fun{te} h=>z42 (i:=1) z1q.nd rfl (Or.inr rfl) h) (sxx (se_lst rfl (s4 (sc0 z01) (sc0 z01) (sc0 z01) (sc0 z01))) (scl T.x_l_take (z0j T) hr (s2 (sv 0) (sc0 z01)))))
 (ss_one (ss_ret (se_ct rfl (z3H rfl) rfl T.n_tuple PyProof.Rows.Boot.«tuple» (s1 (se_comp (own:=["_law_k"]) (frees:=["_law_bag_here", "_law_top"]) (ix:=[0,1]) rfl rfl (z1C.sc (by kernel_rfl)) (si_rng1 rfl T.n_range (s1 (se_add rfl (sc0 z01) (scl T.x_l_take (z0j T) hr (s2 (sv 0) (sc0 z01)))))) (fun _ _ _ _ _ _ _=>(sg_name (z0O (i:=0) (show List.Nodup (["_law_k", "_law_bag_here", "_law_top"]:List Str) by decide+kernel) rfl (Or.inl rfl)))) (fun _ _ _ _ _ _ _=>sts_nil) (fun _ _ _ _ _ _ _=>(scl T.x_l_take (z0j T) hr (s2 (sv 1) (sv 2))))))))))
noncomputable def z2b:MS:=(seqS (sAsg (.nm 2) (z07 z19 [(mVar 0),(mVar 1)]))
 (seqS (sAsg (.nm 3) (mBin (mCB [(mVar 1),(mC (.int 2))] lstM) (z07 z05 [(mVar 0),(mC (.int 2))]) ixD))
 (seqS (sAsg (.nm 4) (mCB [] lstM))
 (seqS (sAsg (.nm 5) (mC (.int 0)))
 (seqS (sFor (z1F [(mVar 1)]) (.nm 6) (sIf (mBoo (mBin (mVar 5) (mVar 1) ltD)) (seqS (sAsg (.nm 5) (mBin (mBin (mVar 5) (mC (.int 1)) addD) (z07 z05 [(mVar 0),(mCB [(mVar 3),(mBin (mVar 1) (mVar 5) subD)] minD)]) addD))
 (z3F (z2G (mVar 4) [(mCB [(mVar 5),(z07 z0z [(mVar 0)]),(z07 z05 [(mVar 0),(mC (.int 9))]),(z07 z05 [(mVar 0),(mC (.int 100000))])] tupD)] appD))) sNx))
 (sRet (mCB [(mVar 2),(mCB [(mVar 4)] tupF),(mBin (z07 z05 [(mVar 0),(mC (.int 2))]) (mC (.int 1)) eqD)] tupD)))))))
noncomputable def z1a:FM:=runF 7 z2b
theorem z5c(T:Wd K mg):FnOk P w K mg base CX0 3 T.x_l_commit.f T.x_l_commit.d z28 (spM (G0 K) 2 z1a):=okM z2b T.x_l_commit.F z0A fun cdv A outer s H E F hr=>by
 have h64:=hr.units
 exact(ss_cons (sst 2 z0A.nd (scl T.x_l_sounds (z5b T) hr (s2 (sv 0) (sv 1))))
 (ss_cons (sst 3 z0A.nd (sxx (se_lst rfl (s2 (sv 1) (sc0 z01))) (scl T.x_l_take (z0j T) hr (s2 (sv 0) (sc0 z01)))))
 (ss_cons (sst 4 z0A.nd (se_lst rfl (sa_of rfl .nil)))
 (ss_cons (sst 5 z0A.nd (sc0 z01))
 (ss_cons (ss_for PassesOwn.never rfl (si_rng1 rfl T.n_range (s1 (sv 1))) (sgn 6 z0A.nd) (ss_one (ss_if (sb_cmp zai (sv 5) (sv 1) (z1k _)) (ss_cons (sst 5 z0A.nd (se_add rfl (se_add rfl (sv 5) (sc0 z01)) (scl T.x_l_take (z0j T) hr (s2 (sv 0) (se_cb rfl (z7n rfl) rfl T.n_min PyProof.Rows.Boot.«min» (s2 (sv 3) (se_sub rfl (sv 1) (sv 5))))))))
 (ss_one (ss_expr (se_cl rfl PySem.F.slot_list_append PySem.F.type_list_append z2H (sv 4) (s1 (se_tup rfl (s4 (sv 5) (scl T.x_l_some_signs (z2X T) hr (s1 (sv 0))) (scl T.x_l_take (z0j T) hr (s2 (sv 0) (sc0 z01))) (scl T.x_l_take (z0j T) hr (s2 (sv 0) (sc0 z01)))))))))) ss_nil)))
 (ss_one (ss_ret (se_tup rfl (s3 (sv 2) (se_ct rfl (z3H rfl) rfl T.n_tuple PyProof.Rows.Boot.«tuple» (s1 (sv 4))) (se_cmp (z8B rfl h64) (scl T.x_l_take (z0j T) hr (s2 (sv 0) (sc0 z01))) (sc0 z01) (z1k _)))))))))))
noncomputable def z1I:MS:=(seqS (sAsg (.nm 1) (mBin (mCB [(z07 z05 [(mVar 0),(mC (.int 7))]),(mC (.int 60))] lstM) (mCB [(mBin (z07 z05 [(mVar 0),(mC (.int 8))]) (mC (.int 5)) eqD)] intD) ixD))
 (sRet (z0x (z1F [(mVar 1)]) (.nm 0) (rt true) (z07 z1a [(mVar 1),(mBin (mCB [(mBin (mC (.int 1)) (z07 z05 [(mVar 1),(mC (.int 7))]) addD),(mC (.int 24))] lstM) (mCB [(mBin (z07 z05 [(mVar 1),(mC (.int 8))]) (mC (.int 5)) eqD)] intD) ixD)]) 1 [0])))
noncomputable def z0W:FM:=runF 2 z1I
theorem z4D(T:Wd K mg):FnOk P w K mg base CX0 4 T.x_l_commits.f T.x_l_commits.d z1H (spM (G0 K) 1 z0W):=okM z1I T.x_l_commits.F z2e fun cdv A outer s H E F hr=>by
 have h64:=hr.units
 exact(ss_cons (sst 1 z2e.nd (sxx (se_lst rfl (s2 (scl T.x_l_take (z0j T) hr (s2 (sv 0) (sc0 z01))) (sc0 z01))) (se_ct rfl z9c rfl T.n_int PyProof.Rows.Boot.«int» (s1 (se_cmp (z8B rfl h64) (scl T.x_l_take (z0j T) hr (s2 (sv 0) (sc0 z01))) (sc0 z01) (z1k _))))))
 (ss_one (ss_ret (se_comp (own:=["_law_turn"]) (frees:=["_law_bag_here"]) (ix:=[0]) rfl rfl (z1C.sc (by kernel_rfl)) (si_rng1 rfl T.n_range (s1 (sv 1))) (fun _ _ _ _ _ _ _=>(sg_name (z0O (i:=0) (show List.Nodup (["_law_turn", "_law_bag_here"]:List Str) by decide+kernel) rfl (Or.inl rfl)))) (fun _ _ _ _ _ _ _=>sts_nil) (fun _ _ _ _ _ _ _=>(scl T.x_l_commit (z5c T) hr (s2 (sv 1) (sxx (se_lst rfl (s2 (se_add rfl (sc0 z01) (scl T.x_l_take (z0j T) hr (s2 (sv 1) (sc0 z01)))) (sc0 z01))) (se_ct rfl z9c rfl T.n_int PyProof.Rows.Boot.«int» (s1 (se_cmp (z8B rfl h64) (scl T.x_l_take (z0j T) hr (s2 (sv 1) (sc0 z01))) (sc0 z01) (z1k _))))))))))))
noncomputable def z2Y:MS:=(seqS (sAsg (.nm 1) (mCB [] lstM))
 (seqS (sAsg (.nm 2) (mC (.int 0)))
 (seqS (sFor (z0K (mBin (mVar 0) (mC (.int 1)) ixD)) (.tp [(.nm 3),(.nm 4),(.nm 5),(.nm 6)]) (seqS (z3F (z2G (mVar 1) [(mCB [(mSl (mBin (mVar 0) (mC (.int 0)) ixD) (some (mVar 2)) (some (mVar 3))),(mVar 4)] tupD)] appD))
 (sAsg (.nm 2) (mVar 3))))
 (sRet (mVar 1)))))
noncomputable def z0v:FM:=runF 7 z2Y
theorem z3p(T:Wd K mg):FnOk P w K mg base CX0 1 T.x_l_parts.f T.x_l_parts.d z2R (spM (G0 K) 1 z0v):=okM z2Y T.x_l_parts.F z0C fun cdv A outer s H E F hr=>(ss_cons (sst 1 z0C.nd (se_lst rfl (sa_of rfl .nil)))
 (ss_cons (sst 2 z0C.nd (sc0 z01))
 (ss_cons (ss_for PassesOwn.never rfl (si_seq rfl (sxc (sv 0) z01)) (sg_tup rfl rfl (sgs_cons (sgn 3 z0C.nd) (sgs_cons (sgn 4 z0C.nd) (sgs_cons (sgn 5 z0C.nd) (sgs_cons (sgn 6 z0C.nd) sgs_nil))))) (ss_cons (ss_expr (se_cl rfl PySem.F.slot_list_append PySem.F.type_list_append z2H (sv 1) (s1 (se_tup rfl (s2 (se_slice rfl (sxc (sv 0) z01) (so_some (sv 2)) (so_some (sv 3))) (sv 4))))))
 (ss_one (sst 2 z0C.nd (sv 3)))))
 (ss_one (ss_ret (sv 1))))))
noncomputable def z2Z:MS:=(seqS (sAsg (.nm 1) z2J)
 (seqS (sFor (z0K (mVar 0)) (.nm 2) (sFor (z0K (z07 z0v [(mVar 2)])) (.nm 3) (mTri (mBin (z4A (mVar 1) (mVar 3) (mC (.int 0))) (mC (.int 1)) addD) (mVar 1) (mVar 3) z21)))
 (sRet (mVar 1))))
noncomputable def z1r:FM:=runF 4 z2Z
theorem z6o(T:Wd K mg):FnOk P w K mg base CX0 2 T.x_l_times.f T.x_l_times.d z2S (spM (G0 K) 1 z1r):=okM z2Z T.x_l_times.F z1w fun cdv A outer s H E F hr=>by
 have h64:=hr.units
 exact(ss_cons (sst 1 z1w.nd (se_dnew rfl))
 (ss_cons (ss_for PassesOwn.never rfl (si_seq rfl (sv 0)) (sgn 2 z1w.nd) (ss_one (ss_for PassesOwn.never rfl (si_seq rfl (scl T.x_l_parts (z3p T) hr (s1 (sv 2)))) (sgn 3 z1w.nd) (ss_one (ss_dput h64 (se_add rfl (se_getT rfl h64 (sv 1) (sv 3) (sc0 z01) ⟨rfl,rfl,rfl,rfl⟩) (sc0 z01)) (sv 1) (sv 3))))))
 (ss_one (ss_ret (sv 1)))))
noncomputable def z5d:MS:=(seqS (sAsg (.nm 1) (z07 z1r [(mVar 0)]))
 (seqS (sAsg (.nm 2) z2J)
 (seqS (sFor (mEnm [(mVar 0)]) (.tp [(.nm 3),(.nm 4)]) (sFor (z0K (z07 z0v [(mVar 4)])) (.nm 5) (mTri (mBin (mVar 3) (mC (.int 1)) addD) (mVar 2) (mVar 5) z21)))
 (sRet (mCB [(z0x (z4v (mVar 1)) (.nm 0) (rt true) (mBin (mVar 0) (mCB [(mBin (mVar 1) (mVar 0) dgtD),(mBin (mVar 2) (mVar 0) dgtD)] tupD) addD) 1 [1,2])] srtT)))))
noncomputable def z30:FM:=runF 6 z5d
theorem z8H(T:Wd K mg):FnOk P w K mg base CX0 3 T.x_l_due.f T.x_l_due.d z58 (spM (G0 K) 1 z30):=okM z5d T.x_l_due.F z1x fun cdv A outer s H E F hr=>by
 have h64:=hr.units
 exact(ss_cons (ss_set (fun{te} h=>z42 (i:=1) z1x.nd rfl (Or.inr rfl) h) (scl T.x_l_times (z6o T) hr (s1 (sv 0))))
 (ss_cons (ss_set (fun{te} h=>z42 (i:=2) z1x.nd rfl (Or.inr rfl) h) (se_dnew rfl))
 (ss_cons (ss_for PassesOwn.never rfl (si_enm rfl rfl T.n_enumerate (s1 (sv 0))) (sg_tup rfl rfl (sgs_cons (sgn 3 z1x.nd) (sgs_cons (sgn 4 z1x.nd) sgs_nil))) (ss_one (ss_for PassesOwn.never rfl (si_seq rfl (scl T.x_l_parts (z3p T) hr (s1 (sv 4)))) (sgn 5 z1x.nd) (ss_one (ss_dput h64 (se_add rfl (sv 3) (sc0 z01)) (sv 2) (sv 5))))))
 (ss_one (ss_ret (se_cb rfl (z7z rfl h64) rfl T.n_sorted PyProof.Rows.Boot.«sorted» (s1 (se_compD (own:=["_law_pair"]) (frees:=["_law_times_here", "_law_last"]) (ix:=[1,2]) rfl rfl (z1C.sc (by kernel_rfl)) (sv 1) (fun _ _ _ _ _ _ _=>(sg_name (z0O (i:=0) (show List.Nodup (["_law_pair", "_law_times_here", "_law_last"]:List Str) by decide+kernel) rfl (Or.inl rfl)))) (fun _ _ _ _ _ _ _=>sts_nil) (fun _ _ _ _ _ _ _=>(se_add rfl (sv 0) (se_tup rfl (s2 (se_dgt rfl h64 (sv 1) (sv 0) (fun _ _=>rfl)) (se_dgt rfl h64 (sv 2) (sv 0) (fun _ _=>rfl))))))))))))))
noncomputable def z31:MS:=(seqS (sAsg (.nm 1) (z07 z30 [(mVar 0)]))
 (seqS (sAsg (.nm 2) (mCB [(mVar 0)] z6c))
 (seqS (sFor (z1F [(mC (.int 2))]) (.nm 3) (seqS (sAsg (.nm 4) (z07 z18 [(mVar 2)]))
 (seqS (sIf (mOr (mNot (z2C (mIsi "list" (mVar 4)))) (mOr (mBoo (mBin (mVar 4) (mVar 1) neD)) (mBoo (mBin (mVar 2) (mVar 0) neD)))) (sRet (mC (.bool false))) sNx)
 (seqS (sIf (mNot (z2C (mCB [(z0x (z0K (mVar 4)) (.tp [(.nm 0),(.nm 1),(.nm 2),(.nm 3)]) (rt true) (z4m (z07 z0J [(mVar 2)]) (z07 z0J [(mVar 3)])) 4 [])] allD))) (sRet (mC (.bool false))) sNx)
 (z3F (z2G (mVar 4) [(mCB [(mCB [] tupD),(mCB [] tupD),(mC (.int 1)),(mC (.int 1))] tupD)] appD))))))
 (sRet (mC (.bool true))))))
noncomputable def z0X:FM:=runF 5 z31
theorem z6p(T:Wd K mg):FnOk P w K mg base CX0 4 T.x_l_right.f T.x_l_right.d z2T (spM (G0 K) 1 z0X):=okM z31 T.x_l_right.F z17 fun cdv A outer s H E F hr=>by
 have h64:=hr.units
 exact(ss_cons (sst 1 z17.nd (scl T.x_l_due (z8H T) hr (s1 (sv 0))))
 (ss_cons (sst 2 z17.nd (se_ct rfl (zak rfl) rfl T.n_list PyProof.Rows.Boot.«list» (s1 (sv 0))))
 (ss_cons (ss_for PassesOwn.never rfl (si_rng1 rfl T.n_range (s1 (sc0 z01))) (sgn 3 z17.nd) (ss_cons (sst 4 z17.nd (scl T.x_p_learnt (z59 T) hr (s1 (sv 2))))
 (ss_cons (ss_if (SW.sb (sw_or (sb_not (sb_truth rfl (se_isi rfl (by decide) rfl T.n_isinstance (sv 4) (z4P (v:= .ty "list") rfl T.n_list PyProof.Rows.Boot.«list» rfl)))) (sw_or (sb_cmp (zaj rfl h64) (sv 4) (sv 1) (z1k _)) (sw_or1 (sb_cmp (zaj rfl h64) (sv 2) (sv 0) (z1k _)))))) (ss_one (ss_ret (sc0 z6C))) ss_nil)
 (ss_cons (ss_if (sb_not (sb_truth rfl (se_cb rfl (z9b rfl hr.hd) rfl T.n_all PyProof.Rows.Boot.«all» (s1 (se_comp (own:=["_law_sounds_here", "_law_signs", "_law_many", "_law_last"]) (frees:=[]) (ix:=[]) rfl rfl (z1C.sc (by kernel_rfl)) (si_seq rfl (sv 4)) (fun _ _ _ _ _ _ _=>(sg_tup rfl rfl (sgs_cons (sg_name (z0O (i:=0) (show List.Nodup (["_law_sounds_here", "_law_signs", "_law_many", "_law_last"]:List Str) by decide+kernel) rfl (Or.inl rfl))) (sgs_cons (sg_name (z0O (i:=1) (show List.Nodup (["_law_sounds_here", "_law_signs", "_law_many", "_law_last"]:List Str) by decide+kernel) rfl (Or.inl rfl))) (sgs_cons (sg_name (z0O (i:=2) (show List.Nodup (["_law_sounds_here", "_law_signs", "_law_many", "_law_last"]:List Str) by decide+kernel) rfl (Or.inl rfl))) (sgs_cons (sg_name (z0O (i:=3) (show List.Nodup (["_law_sounds_here", "_law_signs", "_law_many", "_law_last"]:List Str) by decide+kernel) rfl (Or.inl rfl))) sgs_nil)))))) (fun _ _ _ _ _ _ _=>sts_nil) (fun _ _ _ _ _ _ _=>(se_and (scl T.x_l_whole (z3o T) hr (s1 (sv 2))) (se_one (scl T.x_l_whole (z3o T) hr (s1 (sv 3))))))))))) (ss_one (ss_ret (sc0 z6C))) ss_nil)
 (ss_one (ss_expr (se_cl rfl PySem.F.slot_list_append PySem.F.type_list_append z2H (sv 4) (s1 (se_tup rfl (s4 (se_tup rfl (sa_of rfl .nil)) (se_tup rfl (sa_of rfl .nil)) (sc0 z01) (sc0 z01)))))))))))
 (ss_one (ss_ret (sc0 z6C))))))
noncomputable def zaw:MS:=(seqS (sFor (z1F [(mCB [(mC (.int 1)),(mCB [(mC (.int 3)),(mCB [(mVar 0)] lenD)] minD)] maxD)]) (.nm 1) (seqS (sAsg (.nm 2) (z07 z2V [(mVar 0),(mVar 1)]))
 (seqS (sAsg (.nm 3) (z07 z05 [(mVar 2),(mC (.int 2))]))
 (seqS (sAsg (.nm 4) (z07 z0W [(mVar 2)]))
 (seqS (sIf (mAnd (mBoo (mBin (mVar 3) (mC (.int 1)) eqD)) (mBoo (mBin (mVar 4) (mCB [] lstM) neD))) (sAsg (.nm 4) (mSl (mBin (mSl (mVar 4) (some (z07 z05 [(mVar 2),(mCB [(mVar 4)] lenD)])) none) (mVar 4) addD) none (some (mC (.int 60))))) sNx)
 (sIf (mNot (z2C (mCB [(z0x (z0K (mCB [(mVar 4),(mSl (mVar 4) none (some (bd (mC (.int 1)) negD))),(bd (mVar 4) rvsD),(mSl (mVar 4) none (some (mC (.int 1))))] lstM)) (.nm 0) (rt true) (z07 z0X [(mVar 0)]) 1 [])] allD))) (sRet (mC (.bool false))) sNx))))))
 (sRet (mC (.bool true))))
noncomputable def f_law:FM:=runF 5 zaw
theorem zcF(T:Wd K mg):FnOk P w K mg base CX0 5 T.x_law.f T.x_law.d zau (spM (G0 K) 1 f_law):=okM zaw T.x_law.F z3n fun cdv A outer s H E F hr=>by
 have h64:=hr.units
 exact(ss_cons (ss_for PassesOwn.never rfl (si_rng1 rfl T.n_range (s1 (se_cb rfl (zcp rfl) rfl T.n_max PyProof.Rows.Boot.«max» (s2 (sc0 z01) (se_cb rfl (z7n rfl) rfl T.n_min PyProof.Rows.Boot.«min» (s2 (sc0 z01) (sln T.n_len (s1 (sv 0))))))))) (sgn 1 z3n.nd) (ss_cons (sst 2 z3n.nd (scl T.x_l_bag (z8G T) hr (s2 (sv 0) (sv 1))))
 (ss_cons (sst 3 z3n.nd (scl T.x_l_take (z0j T) hr (s2 (sv 2) (sc0 z01))))
 (ss_cons (sst 4 z3n.nd (scl T.x_l_commits (z4D T) hr (s1 (sv 2))))
 (ss_cons (ss_if (SW.sb (sw_and (sb_cmp (z8B rfl h64) (sv 3) (sc0 z01) (z1k _)) (sw_and1 (sb_cmp (zaj rfl h64) (sv 4) (se_lst rfl (sa_of rfl .nil)) (z1k _))))) (ss_one (sst 4 z3n.nd (se_slice rfl (se_add rfl (se_slice rfl (sv 4) (so_some (scl T.x_l_take (z0j T) hr (s2 (sv 2) (sln T.n_len (s1 (sv 4)))))) so_none) (sv 4)) so_none (so_some (sc0 z01))))) ss_nil)
 (ss_one (ss_if (sb_not (sb_truth rfl (se_cb rfl (z9b rfl hr.hd) rfl T.n_all PyProof.Rows.Boot.«all» (s1 (se_comp (own:=["_law_some"]) (frees:=[]) (ix:=[]) rfl rfl (z1C.sc (by kernel_rfl)) (si_seq rfl (se_lst rfl (s4 (sv 4) (se_slice rfl (sv 4) so_none (so_some (se_neg rfl (sc0 z01)))) (se_rev rfl (z6M (zbm z90 z01)) (sv 4)) (se_slice rfl (sv 4) so_none (so_some (sc0 z01)))))) (fun _ _ _ _ _ _ _=>(sg_name (z0O (i:=0) (show List.Nodup (["_law_some"]:List Str) by decide+kernel) rfl (Or.inl rfl)))) (fun _ _ _ _ _ _ _=>sts_nil) (fun _ _ _ _ _ _ _=>(scl T.x_l_right (z6p T) hr (s1 (sv 0))))))))) (ss_one (ss_ret (sc0 z6C))) ss_nil)))))))
 (ss_one (ss_ret (sc0 z6C))))
end
end My
namespace Mi
open PySem L2
theorem z0l{α:Type}(xs ys:List α)(k:Nat)(h:xs.length=k):(xs++ys).drop k=ys:=by subst h;simp
theorem z0N{α:Type}(xs ys:List α)(k:Nat)(h:xs.length=k):(xs++ys).take k=xs:=by subst h;simp
theorem z0M: ∀ds:List D,z0a (ds.map some)=some ds
 |[]=>rfl
 |d::ds=>by simp[z0a,z0M ds]
theorem z6q{t:D}{ts:List D}{n':Nat}{s:Stt}:z3G (.ok t ts n') ts s= .ok t {s with n:=n'}:=by
 unfold z3G;simp
end Mi
set_option maxHeartbeats 40000
namespace Mi
open PySem L2
class Kq{α:Type}(f:α):Type where
instance kq{α:Type}(f:α):Kq f:=⟨⟩
noncomputable def Res.bnd{α β:Type}(f:α->Stt->Res β)[Kq f](r:Res α):Res β:=match r with
 | .ok a s=>f a s
 | .ex d s=> .ex d s
 | .no=> .no
theorem z3q{α β:Type}{a:α}{s:Stt}{f:α->Stt->Res β}:((Res.ok a s).bnd f:Res β)=f a s:=(rfl)
noncomputable def Res.lf{α:Type}(f:α->MS)[Kq f](r:Res α):RS:=match r with
 | .ok a s=>f a s
 | .ex d s=> .ex d s
 | .no=> .no
theorem zef{α:Type}{a:α}{s:Stt}{f:α->MS}:((Res.ok a s).lf f:RS)=f a s:=(rfl)
noncomputable def RS.sq(m:MS)[Kq m](r:RS):RS:=match r with
 | .nx s=>m s
 |r=>r
theorem zeg{s:Stt}{m:MS}:((RS.nx s).sq m:RS)=m s:=(rfl)
theorem zeh{d:D}{s:Stt}{m:MS}:((RS.rt d s).sq m:RS)= .rt d s:=(rfl)
noncomputable def RS.fin(r:RS):RF:=match r with
 | .nx s'=>match z0a s'.tm with|some ts'=> .ok .non ts' s'.n|none=> .no
 | .rt t s'=>match z0a s'.tm with|some ts'=> .ok t ts' s'.n|none=> .no
 | .ex d s'=>match z0a s'.tm with|some ts'=> .ex d ts' s'.n|none=> .no
 |_=> .no
noncomputable def finO(o:Option (List D))(t:D)(n:Nat):RF:=match o with|some ts=> .ok t ts n|none=> .no
theorem z7D{ts:List D}{t:D}{n:Nat}:finO (some ts) t n= .ok t ts n:=(rfl)
theorem zei{t:D}{σ tm:List (Option D)}{n:Nat}:(RS.rt t ⟨σ,tm,n⟩).fin=finO (z0a tm) t n:=(rfl)
theorem zej{nl:Nat}{mb:MS}{ts:List D}{n:Nat}:runF nl mb ts n=(mb ⟨ts.map some++List.replicate (nl -ts.length) none,ts.map some,n⟩).fin:=(rfl)
section
variable{α β:Type}{m ma mb mc:M D}{s:Stt}{ms:List (M D)}{σ tm:List (Option D)}{n:Nat}
theorem x_bd{m:M α}{f:α->M β}:bd m f s=(m s).bnd f:=(rfl)
theorem x_rt{a:α}:rt a s= .ok a s:=(rfl)
theorem zcG{t:D}:Stt.psh ⟨σ,tm,n⟩ t=⟨σ,some t::tm,n⟩:=(rfl)
theorem zek:Stt.nxt ⟨σ,tm,n⟩=⟨σ,tm,n+1⟩:=(rfl)
theorem zel{t:D}{r:List (Option D)}:pop ⟨σ,some t::r,n⟩= .ok t ⟨σ,r,n⟩:=(rfl)
noncomputable def vOf(o:Option (Option D))(s:Stt):Res D:=match o with
 |some (some t)=> .ok t s
 |_=> .no
theorem z8I{t:D}:vOf (some (some t)) s= .ok t s:=(rfl)
theorem zem{i:Nat}:mVar i ⟨σ,tm,n⟩=vOf (σ[i]?) ⟨σ,tm,n⟩:=by
 unfold mVar vOf
 cases σ[i]? with
 |none=>rfl
 |some o=>cases o<;>rfl
theorem x_C{d:D}:mC d s= .ok d s:=(rfl)
theorem zax{g:D->D->M D}:mBin ma mb g s=(ma s).bnd fun x s1=>(mb (s1.psh x)).bnd fun y s2=>(pop s2).bnd fun x' s3=>g x' y s3:=(rfl)
theorem zen:mBoo m s=(m s).bnd booD:=(rfl)
theorem zcH{b:Bool}:booD (.bool b) s= .ok b s:=(rfl)
theorem zcI:z2C m s=(m s).bnd truD:=(rfl)
theorem x_tB{b:Bool}:truD (.bool b) s= .ok b s:=(rfl)
theorem zeo{m m':M Bool}:mAnd m m' s=(m s).bnd fun b=>iteM b m' (rt false):=(rfl)
theorem x_or{m m':M Bool}:mOr m m' s=(m s).bnd fun b=>iteM b (rt true) m':=(rfl)
theorem zep{m:M Bool}:mNot m s=(m s).bnd fun b s1=> .ok (!b) s1:=(rfl)
theorem zcJ{m m':M D}:z4m m m' s=(m s).bnd fun d s1=>(booD d s1).bnd fun b=>iteM b m' (rt (.bool false)):=by
 unfold z4m mBoo bd Res.bnd
 cases m s<;>rfl
theorem zcK{m:M D}:z7a m s=(m s).bnd fun d s1=>(booD d s1).bnd fun b=>rt (.bool (!b)):=by
 unfold z7a mBoo bd Res.bnd
 cases m s<;>rfl
theorem zeq{c:M Bool}{m m':M D}:mIf c m m' s=(c s).bnd fun b=>iteM b m m':=(rfl)
theorem x_it{m m':M α}:iteM true m m' s=m s:=(rfl)
theorem x_if{m m':M α}:iteM false m m' s=m' s:=(rfl)
theorem zay:z09 [] s= .ok [] s:=(rfl)
theorem z3P:z09 (m::ms) s=(m s).bnd fun x s1=>(z09 ms (s1.psh x)).bnd fun ys s2=>(pop s2).bnd fun x' s3=> .ok (x'::ys) s3:=(rfl)
theorem x_cb{g:List D->M D}:mCB ms g s=(z09 ms s).bnd g:=(rfl)
theorem zcL{f:FM}:z07 f ms s=(z09 ms s).bnd fun ts s1=>z3G (f ts s1.n) ts s1:=(rfl)
noncomputable def isiK(o:Option Bool)(s:Stt):Res D:=match o with
 |some b=> .ok (.bool b) s
 |none=> .no
theorem z7E{b:Bool}:isiK (some b) s= .ok (.bool b) s:=(rfl)
theorem zer{T:String}:mIsi T m s=(m s).bnd fun d s1=>isiK (isiD T d) s1:=by
 unfold mIsi bd Res.bnd isiK
 cases m s with
 |ok d s1=>dsimp only;cases isiD T d<;>rfl
 |ex d s1=>rfl
 |no=>rfl
noncomputable def intK(o:Option Int)(s:Stt):Res (Option Int):=match o with
 |some i=> .ok (some i) s
 |none=> .no
theorem z7F{i:Int}:intK (some i) s= .ok (some i) s:=(rfl)
theorem zaz:z3b none s= .ok none s:=(rfl)
theorem zaA:z3b (some m) s=(m s).bnd fun d s1=>intK (mInt d) s1:=by
 show bd m (fun d=>match mInt d with|some i=>rt (some i)|none=>fl) s=_
 unfold bd Res.bnd
 cases m s with
 |ok d s1=>show(match mInt d with|some i=>rt (some i)|none=>fl:M (Option Int)) s1=intK (mInt d) s1;cases mInt d<;>rfl
 |ex d s1=>rfl
 |no=>rfl
theorem zcM{i:Int}:mInt (.int i)=some i:=(rfl)
theorem x_sl{lo hi:Option (M D)}:mSl m lo hi s=(m s).bnd fun x s1=>(z3b lo (s1.psh x)).bnd fun l s2=>(z3b hi s2).bnd fun h s3=>(pop s3).bnd fun x' s4=>slD x' l h s4:=(rfl)
theorem zcN{i j:Int}:addD (.int i) (.int j) s= .ok (.int (i+j)) s:=(rfl)
theorem z9g{a b:List D}(h:a.length+b.length<=sizeLine):addD (.tup a) (.tup b) s= .ok (.tup (a++b)) s:=by simp only[addD,if_pos h];rfl
theorem zcO{k l:Nat}{a b:List D}(h:a.length+b.length<=sizeLine):addD (.lst k a) (.lst l b) s= .ok (.lst s.n (a++b)) s.nxt:=by simp only[addD,if_pos h];rfl
theorem zes{i j:Int}:subD (.int i) (.int j) s= .ok (.int (i -j)) s:=(rfl)
theorem z7G{i j:Int}(h:CMul i j):mulD (.int i) (.int j) s= .ok (.int (i*j)) s:=by simp only[mulD,if_pos h];rfl
theorem z9h{i j:Int}(h:CDiv i j):z4k (.int i) (.int j) s= .ok (.int (i/j)) s:=by simp only[z4k,if_pos h];rfl
theorem z3Q{i j:Int}(h:0<j):modD (.int i) (.int j) s= .ok (.int (i %j)) s:=by simp only[modD,if_pos h];rfl
theorem zaB{i j:Int}(h:CPow i j):powD (.int i) (.int j) s= .ok (.int (i^j.toNat)) s:=by simp only[powD,if_pos h];rfl
theorem y_lt{i j:Int}:ltD (.int i) (.int j) s= .ok (.bool (decide (i<j))) s:=(rfl)
theorem y_gt{i j:Int}:gtD (.int i) (.int j) s= .ok (.bool (decide (j<i))) s:=(rfl)
theorem zet{i:Int}:negD (.int i) s= .ok (.int (-i)) s:=(rfl)
theorem y_eq{t t':D}(h:eqC t t'=true):eqD t t' s= .ok (.bool (PyData.eqv (er t) (er t'))) s:=by simp only[eqD,if_pos h];rfl
theorem y_ne{t t':D}(h:eqC t t'=true):neD t t' s= .ok (.bool (!PyData.eqv (er t) (er t'))) s:=by simp only[neD,if_pos h];rfl
theorem zeu{ds:List D}{i:Int}:ixD (.tup ds) (.int i) s=optM (atI ds i) s:=(rfl)
theorem zev{l:Nat}{ds:List D}{i:Int}:ixD (.lst l ds) (.int i) s=optM (atI ds i) s:=(rfl)
theorem zew{ds:List D}{i:Int}:ixD (.ro ds) (.int i) s=optM (atI ds i) s:=(rfl)
theorem zex{d:D}:optM (some d) s= .ok d s:=(rfl)
theorem zey{ds:List D}{lo hi:Option Int}:slD (.tup ds) lo hi s= .ok (.tup (cutA ds lo hi)) s:=(rfl)
theorem zez{l:Nat}{ds:List D}{lo hi:Option Int}:slD (.lst l ds) lo hi s= .ok (.lst s.n (cutA ds lo hi)) s.nxt:=(rfl)
theorem z7H{ts:List D}(h:ts.length<=sizeLine):tupD ts s= .ok (.tup ts) s:=by simp only[tupD,if_pos h];rfl
theorem z5e{ts:List D}(h:ts.length<=sizeLine):lstM ts s= .ok (.lst s.n ts) s.nxt:=by simp only[lstM,if_pos h];rfl
theorem zcP{l:Nat}{ds:List D}:lenD [.lst l ds] s= .ok (.int ds.length) s:=(rfl)
theorem zcQ{ds:List D}:lenD [.ro ds] s= .ok (.int ds.length) s:=(rfl)
theorem zeA{i:Int}:absD [.int i] s= .ok (.int (if i<0 then -i else i)) s:=(rfl)
theorem zeB{i j:Int}:minD [.int i, .int j] s= .ok (.int (if j<i then j else i)) s:=(rfl)
theorem zeC{i j:Int}:maxD [.int i, .int j] s= .ok (.int (if j>i then j else i)) s:=(rfl)
theorem zcR{b:Bool}:intD [.bool b] s= .ok (.int (if b then 1 else 0)) s:=(rfl)
theorem zcS{l:Nat}{ds:List D}:tupF [.lst l ds] s= .ok (.tup ds) s:=(rfl)
theorem zaC{l:Nat}{ds:List D}:z6c [.lst l ds] s= .ok (.lst s.n ds) s.nxt:=(rfl)
theorem zeD{l:Nat}{ds:List D}{bs:List Bool}(h:z1o ds=some bs):allD [.lst l ds] s= .ok (.bool (bs.all id)) s:=by simp only[allD,h];rfl
theorem zeE{a b:MS}:seqS a b s=(a s).sq b:=by
 unfold seqS RS.sq
 cases a s<;>rfl
theorem zeF:sNx s= .nx s:=(rfl)
theorem zcT:sRet m s=(m s).lf fun d s1=> .rt d s1:=(rfl)
theorem zaD:z3F m s=(m s).lf fun _ s1=> .nx s1:=(rfl)
theorem zeG{c:M Bool}{a b:MS}:sIf c a b s=(c s).lf fun k=>iteS k a b:=(rfl)
theorem x_sT{a b:MS}:iteS true a b s=a s:=(rfl)
theorem x_sF{a b:MS}:iteS false a b s=b s:=(rfl)
noncomputable def asgK(o:Option (List (Option D)))(s:Stt):RS:=match o with
 |some σ'=> .nx {s with σ:=σ'}
 |none=> .no
theorem z7I{σ':List (Option D)}:asgK (some σ') ⟨σ,tm,n⟩= .nx ⟨σ',tm,n⟩:=(rfl)
theorem zcU{g:Tg}:sAsg g m s=(m s).lf fun d s1=>asgK (asg g d s1.σ) s1:=by
 unfold sAsg lift Res.lf asgK
 cases m s with
 |ok d s1=>first|(dsimp only;cases asg g d s1.σ<;>rfl)|(dsimp only;done)|rfl
 |ex d s1=>rfl
 |no=>rfl
theorem zeH{me mo mi:M D}{g:D->D->D->MS}:mTri me mo mi g s=(me s).lf fun v s1=>(mo (s1.psh v)).lf fun o s2=>(mi (s2.psh o)).lf fun i s3=>(pop s3).lf fun o' s4=>(pop s4).lf fun v' s5=>g o' i v' s5:=(rfl)
theorem zcV{l:Nat}{ds:List D}{k:Int}{v:D}{j:Nat}(e:ixN ds.length k=some j)(h:l∉labs v):setD (.lst l ds) (.int k) v s= .nx (s.put l (.lst l (ds.set j v))):=by simp only[setD,e,if_pos h]
theorem zcW{mo:M D}{g:D->List D->M D}:z2G mo ms g s=(mo s).bnd fun x s1=>(isL x s1).bnd fun _ s2=>(z09 ms (s2.psh x)).bnd fun ys s3=>(pop s3).bnd fun x' s4=>g x' ys s4:=(rfl)
theorem zeI{l:Nat}{ds:List D}:isL (.lst l ds) s= .ok () s:=(rfl)
theorem zaE{l:Nat}{ds:List D}{y:D}(h:ds.length<sizeLine/\l∉labs y):appD (.lst l ds) [y] s= .ok .non (s.put l (.lst l (ds++[y]))):=by simp only[appD,if_pos h]
end
theorem z4E{α:Type}{xs:List α}{i:Int}{d:α}(h0:0<=i)(h:xs[i.toNat]? =some d):atI xs i=some d:=by
 obtain⟨j,rfl⟩:=Int.eq_ofNat_of_zero_le h0
 exact z9P (by simpa using h)
end Mi
set_option maxHeartbeats 400000
namespace Mi
open PySem L2
noncomputable def pl(l:Nat)(d:D):Nat->Option D:=fun k=>if k=l then some d else none
theorem zcX{σ tm:List (Option D)}{n l:Nat}{d:D}:Stt.put ⟨σ,tm,n⟩ l d=⟨rpO (pl l d) σ,rpO (pl l d) tm,n⟩:=(rfl)
theorem z3R{l:Nat}{d t:D}(h:l∉labs t):rp (pl l d) t=t:=za7 t fun k hk=>by
 unfold pl;rw[if_neg];intro e;subst e;exact h hk
theorem zaF{f:Nat->Option D}:rpO f []=[]:=(rfl)
theorem z8J{f:Nat->Option D}{r:List (Option D)}:rpO f (none::r)=none::rpO f r:=(rfl)
theorem z8K{f:Nat->Option D}{d:D}{r:List (Option D)}:rpO f (some d::r)=some (rp f d)::rpO f r:=(rfl)
theorem zcY{l:Nat}{d:D}{b:List D}:rp (pl l d) (.lst l b)=d:=by simp only[rp,pl,if_true]
theorem z5Q{f:Nat->Option D}{i:Int}:rp f (.int i)= .int i:=(rfl)
theorem z7J{f:Nat->Option D}{i:Bool}:rp f (.bool i)= .bool i:=(rfl)
theorem z32{f:Nat->Option D}{ds:List D}:rp f (.tup ds)= .tup (rpL f ds):=(rfl)
theorem z3S{f:Nat->Option D}:rpL f []=[]:=(rfl)
theorem z1h{f:Nat->Option D}{d:D}{ds:List D}:rpL f (d::ds)=rp f d::rpL f ds:=(rfl)
mutual
theorem z6r{l:Nat}: ∀t:D,l∉labs t->z0n l t=none
 | .non,_=>rfl
 | .bool _,_=>rfl
 | .int _,_=>rfl
 | .str _,_=>rfl
 | .exc _,_=>rfl
 | .fn _,_=>rfl
 | .tup ds,h=>by simp only[labs] at h;simp only[z0n];exact findL_none ds h
 | .ro ds,h=>by simp only[labs] at h;simp only[z0n];exact findL_none ds h
 | .fdc ks ds,h=>by simp only[labs] at h;simp only[z0n];exact findL_none ds h
 | .lst k ds,h=>by
  simp only[labs,List.mem_cons,not_or] at h;simp only[z0n];rw[if_neg fun e=>h.1 e.symm];exact findL_none ds h.2
 | .dct k ks ds,h=>by
  simp only[labs,List.mem_cons,List.mem_append,not_or] at h;simp only[z0n];rw[if_neg fun e=>h.1 e.symm];exact findL_none ds h.2.2
 | .obj k c ks ds,h=>by
  simp only[labs,List.mem_cons,not_or] at h;simp only[z0n];rw[if_neg fun e=>h.1 e.symm];exact findL_none ds h.2
theorem findL_none{l:Nat}: ∀t:List D,l∉labsL t->findL l t=none
 |[],_=>rfl
 |d::ds,h=>by
  simp only[labsL,List.mem_append,not_or] at h
  simp only[findL,z6r d h.1,findL_none ds h.2]
end
theorem z0q{t:D}{l n' n:Nat}{b b' r:List D}{σ tm:List (Option D)}(hb:labsL b=[])(hb':labsL b'=[])(hr:labsL r=[])(f1:rpO (pl l (.lst l b)) σ=σ)(f2:rpO (pl l (.lst l b)) tm=tm):
 z3G (.ok t (.lst l b'::r) n') (.lst l b::r) ⟨σ,tm,n⟩= .ok t ⟨rpO (pl l (.lst l b')) σ,rpO (pl l (.lst l b')) tm,n'⟩:=by
 have e:(fun k=>findL k (.lst l b'::r))=pl l (.lst l b'):=by
  funext k
  simp only[findL,z0n,pl]
  by_cases h:l=k
  ·subst h;rw[if_pos rfl,if_pos rfl]
  ·rw[if_neg h,if_neg fun q=>h q.symm,findL_none b' (by rw[hb'];exact List.not_mem_nil),findL_none r (by rw[hr];exact List.not_mem_nil)]
 unfold z3G
 by_cases h:(D.lst l b'::r)=(D.lst l b::r)
 ·have hh:b'=b:=by injection h with h _;injection h
  subst hh
  simp only[if_true]
  rw[f1,f2]
 ·simp only[if_neg h]
  rw[if_pos,e]
  intro k _ hk
  simp only[labsL,labs,hb,hr,List.append_nil,List.mem_singleton] at hk
  subst hk
  have:=congrFun e k
  rw[show findL k (D.lst k b'::r)=pl k (D.lst k b') k from this];simp[pl]
theorem zeJ{mi:M ItK}{g:Tg}{b:MS}{s:Stt}:sFor mi g b s=(mi s).lf fun K s=>forGo K g b (K.len s.tm) 0 s:=(rfl)
theorem z9i{ms:List (M D)}{s:Stt}:z1F ms s=(z09 ms s).bnd rng1:=(rfl)
theorem z4F{j:Int}{s:Stt}(h: -(2^62)<=j/\j<2^62):rng1 [.int j] s= .ok (kRng 0 j.toNat) s:=by simp only[rng1,if_pos h];rfl
theorem zcZ{lo:Int}{N:Nat}{tm:List (Option D)}:(kRng lo N).len tm=N:=(rfl)
theorem z3T{P:Nat->Stt->Prop}{lo:Int}{N:Nat}{g:Tg}{b:MS}
 (body: ∀i,i<N->∀s,P i s->∃σ',asg g (.int (lo+i)) s.σ=some σ'/\∃s',b {s with σ:=σ'}= .nx s'/\P (i+1) s'):
 ∀(f i:Nat) (s:Stt),i+f=N->P i s->∃s',forGo (kRng lo N) g b f i s= .nx s'/\P N s':=by
 intro f
 induction f with
 |zero=>
  intro i s hi h
  have e:i=N:=by lia
  subst e
  refine⟨s, ?_,h⟩
  unfold forGo
  simp only[kRng,Nat.lt_irrefl,if_false]
  rfl
 |succ f ih=>
  intro i s hi h
  have hl:i<N:=by lia
  obtain⟨σ',e1,s',e2,h'⟩:=body i hl s h
  obtain⟨s2,e3,h2⟩:=ih (i+1) s' (by lia) h'
  refine⟨s2, ?_,h2⟩
  unfold forGo
  simp only[kRng,if_pos hl,e1,e2]
  exact e3
mutual
theorem zd0{l:Nat}{b:List D}{d:D}: ∀t:D,rp (pl l d) (rp (pl l (.lst l b)) t)=rp (pl l d) t
 | .non=>rfl
 | .bool _=>rfl
 | .int _=>rfl
 | .str _=>rfl
 | .exc _=>rfl
 | .fn _=>rfl
 | .tup ds=>by simp only[rp];rw[rpL_rp ds]
 | .ro ds=>by simp only[rp];rw[rpL_rp ds]
 | .fdc ks ds=>by simp only[rp];rw[rpL_rp ds]
 | .lst k ds=>by
  by_cases h:k=l
  ·subst h;simp only[rp,pl,if_true]
  ·have e: ∀x,pl l x k=none:=fun x=>by simp only[pl,if_neg h]
   simp only[rp,e];rw[rpL_rp ds]
 | .dct k ks ds=>by
  by_cases h:k=l
  ·subst h;simp only[rp,pl,if_true]
  ·have e: ∀x,pl l x k=none:=fun x=>by simp only[pl,if_neg h]
   simp only[rp,e];rw[rpL_rp ds]
 | .obj k c ks ds=>by
  by_cases h:k=l
  ·subst h;simp only[rp,pl,if_true]
  ·have e: ∀x,pl l x k=none:=fun x=>by simp only[pl,if_neg h]
   simp only[rp,e];rw[rpL_rp ds]
theorem rpL_rp{l:Nat}{b:List D}{d:D}: ∀t:List D,rpL (pl l d) (rpL (pl l (.lst l b)) t)=rpL (pl l d) t
 |[]=>rfl
 |t::ts=>by simp only[rpL];rw[zd0 t,rpL_rp ts]
end
theorem z33{l:Nat}{b:List D}{d:D}: ∀t:List (Option D),rpO (pl l d) (rpO (pl l (.lst l b)) t)=rpO (pl l d) t
 |[]=>rfl
 |none::ts=>by simp only[rpO];rw[z33 ts]
 |some t::ts=>by simp only[rpO];rw[zd0 t,z33 ts]
theorem z34{f:Nat->Option D}: ∀(a b:List (Option D)),rpO f (a++b)=rpO f a++rpO f b
 |[],b=>rfl
 |none::a,b=>by simp only[List.cons_append,rpO,z34 a b]
 |some d::a,b=>by simp only[List.cons_append,rpO,z34 a b]
theorem z3U{f:Nat->Option D}: ∀(a:List (Option D)),(rpO f a).length=a.length
 |[]=>rfl
 |none::a=>by simp only[rpO,List.length_cons,z3U a]
 |some d::a=>by simp only[rpO,List.length_cons,z3U a]
theorem z4G: ∀ds:List D,z06 (ds.map some)=labsL ds
 |[]=>rfl
 |d::ds=>by simp only[List.map_cons,z06,labsL,z4G ds]
theorem z35: ∀a b:List D,labsL (a++b)=labsL a++labsL b
 |[],b=>rfl
 |d::ds,b=>by simp only[List.cons_append,labsL,z35 ds b,List.append_assoc]
theorem z7K{l:Nat}: ∀ds:List D,l∈labsL ds.reverse↔l∈labsL ds
 |[]=>Iff.rfl
 |d::ds=>by simp only[List.reverse_cons,z35,labsL,List.mem_append,z7K ds,List.append_nil];exact Or.comm
theorem z4H{l:Nat}{d:D}{ds:List D}(h:l∉labsL ds):rpO (pl l d) (ds.reverse.map some)=ds.reverse.map some:=z72 _ fun k hk=>by
 rw[z4G,z7K] at hk
 unfold pl;rw[if_neg];intro e;subst e;exact h hk
theorem z6s{me:M D}{N:Nat}{cap σ0 tm0:List (Option D)}{l ol:Nat}{Bg:List D->Prop}{Q:Nat->D->Prop}(mono: ∀a b,a<=b->∀y,Q a y->Q b y)(hol:σ0.length=ol)(hz:N<sizeLine)
 (hme: ∀i,i<N->∀b tm n,Bg b->l<n->rpO (pl l (.lst l b)) tm=tm->∃y b' n',Bg b'/\Q n' y/\n<=n'/\l∉labs y/\me ⟨some (.int (0+(i:Nat)))::rpO (pl l (.lst l b)) cap,tm,n⟩= .ok y ⟨some (.int (0+(i:Nat)))::rpO (pl l (.lst l b')) cap,rpO (pl l (.lst l b')) tm,n'⟩):
 ∀(f:Nat) (acc:List D) (o:Option D) (b:List D) (n:Nat),acc.length+f=N->Bg b->l<n->(∀y∈acc,Q n y)->l∉labsL acc->
  ∃ys b' n',ys.length=N/\(∀y∈ys,Q n' y)/\l∉labsL ys/\Bg b'/\n<=n'/\
   z0s (kRng 0 N) (.nm 0) (rt true) me ol f acc.length acc.length ⟨o::rpO (pl l (.lst l b)) cap,(acc.reverse.map some)++(rpO (pl l (.lst l b)) σ0++rpO (pl l (.lst l b)) tm0),n⟩= .ok (.lst n' ys) ⟨rpO (pl l (.lst l b')) σ0,rpO (pl l (.lst l b')) tm0,n'+1⟩:=by
 intro f
 induction f with
 |zero=>
  intro acc o b n hi hb hn hq hf
  have hi:acc.length=N:=by lia
  refine⟨acc,b,n,hi,hq,hf,hb,Nat.le_refl _, ?_⟩
  have l1:(acc.reverse.map some).length=acc.length:=by simp
  unfold z0s
  simp only[kRng,hi,Nat.lt_irrefl,if_false]
  rw[<-hi,z0N _ _ _ l1]
  have e2:(acc.reverse.map some).reverse=acc.map some:=by simp
  rw[e2,z0M]
  simp only[Res.ok.injEq,true_and,Stt.mk.injEq,and_true]
  constructor
  ·rw[z0l _ _ _ l1,z0N _ _ _ (by rw[z3U];exact hol)]
  ·rw[<-List.append_assoc,Nat.add_zero]
   exact z0l _ _ _ (by simp[z3U,hol])
 |succ f ih=>
  intro acc o b n hi hb hn hq hf
  have hlt:acc.length<N:=by lia
  unfold z0s
  simp only[kRng,if_pos hlt,asg,List.set_cons_zero,rt]
  rw[if_pos (by lia)]
  obtain⟨y,b',n',h1,h2,h3,h4,h5⟩:=hme acc.length hlt b ((acc.reverse.map some)++(rpO (pl l (.lst l b)) σ0++rpO (pl l (.lst l b)) tm0)) n hb hn (by rw[z34,z34,z33,z33,z4H hf])
  rw[h5]
  obtain⟨ys,b2,n2,g1,g2,g3,g4,g5,g6⟩:=ih (acc++[y]) (some (.int (0+(acc.length:Nat)))) b' n' (by simp;lia) h1 (by lia) (by
   intro z hz
   rcases List.mem_append.mp hz with hz|hz
   ·exact mono _ _ h3 z (hq z hz)
   ·rw[List.mem_singleton.mp hz];exact h2) (by
   rw[z35]
   simp only[labsL,List.append_nil,List.mem_append,not_or]
   exact⟨hf,h4⟩)
  refine⟨ys,b2,n2,g1,g2,g3,g4,by lia, ?_⟩
  rw[<-g6]
  simp only[Stt.psh,z34,z33,z4H hf,List.length_append,List.length_cons,List.length_nil,Nat.zero_add,List.reverse_append,List.reverse_cons,List.reverse_nil,List.nil_append,List.map_append,List.map_cons,List.map_nil,List.cons_append]
  rfl
theorem z36{ms:List (M D)}{me:M D}{N:Nat}{ix:List Nat}{s:Stt}{l n:Nat}{j:Int}{σ0 tm0:List (Option D)}{b:List D}{Bg:List D->Prop}{Q:Nat->D->Prop}(mono: ∀a b,a<=b->∀y,Q a y->Q b y)(hms:z09 ms s= .ok [.int j] ⟨σ0,tm0,n⟩)(hj:j.toNat=N)(hj': -(2^62)<=j/\j<2^62)(hz:N<sizeLine)
 (hb:Bg b) (hn:l<n) (f1:rpO (pl l (.lst l b)) σ0=σ0) (f2:rpO (pl l (.lst l b)) tm0=tm0) (f3:rpO (pl l (.lst l b)) (ix.map fun i=>(σ0[i]?).getD none)=ix.map fun i=>(σ0[i]?).getD none)
 (hme: ∀i,i<N->∀b tm n,Bg b->l<n->rpO (pl l (.lst l b)) tm=tm->∃y b' n',Bg b'/\Q n' y/\n<=n'/\l∉labs y/\me ⟨some (.int (0+(i:Nat)))::rpO (pl l (.lst l b)) (ix.map fun i=>(σ0[i]?).getD none),tm,n⟩= .ok y ⟨some (.int (0+(i:Nat)))::rpO (pl l (.lst l b')) (ix.map fun i=>(σ0[i]?).getD none),rpO (pl l (.lst l b')) tm,n'⟩):
 ∃ys b' n',ys.length=N/\(∀y∈ys,Q n' y)/\l∉labsL ys/\Bg b'/\n<=n'/\z0x (z1F ms) (.nm 0) (rt true) me 1 ix s= .ok (.lst n' ys) ⟨rpO (pl l (.lst l b')) σ0,rpO (pl l (.lst l b')) tm0,n'+1⟩:=by
 obtain⟨ys,b',n',h1,h2,h3,h4,h5,h6⟩:=z6s (me:=me) (N:=N) (cap:=ix.map fun i=>(σ0[i]?).getD none) (σ0:=σ0) (tm0:=tm0) (l:=l) (Bg:=Bg) (Q:=Q) mono rfl hz hme N [] none b n (by simp) hb hn (by intro y h;cases h) (by simp[labsL])
 refine⟨ys,b',n',h1,h2,h3,h4,h5, ?_⟩
 unfold z0x
 rw[x_bd,z9i,hms,z3q,z4F hj',z3q,hj]
 rw[f1,f2,f3] at h6
 exact h6
inductive All2(Q:D->D->Prop):List D->List D->Prop
 |nil:All2 Q [] []
 |cons {a b:D} {as bs:List D}:Q a b->All2 Q as bs->All2 Q (a::as) (b::bs)
theorem z7L{m:M D}{s:Stt}{l:Nat}{ds:List D}{σ tm:List (Option D)}{n:Nat}(h:m s= .ok (.lst l ds) ⟨σ,tm,n⟩):z0K m s= .ok kLst ⟨σ,some (.lst l ds)::tm,n⟩:=by
 unfold z0K;rw[x_bd,h];rfl
theorem z6t{K:ItK}{mt:M Bool}{me:M D}{p:D->Bool}{g:D->D}{items:List D}{its fr σ0 tm0:List (Option D)}{ol:Nat}(hk:its.length=K.k)(hol:σ0.length=ol)(hz:items.length<sizeLine)(hat: ∀i rest,K.at' i (its++rest)=some items[i]?)
 (hmt: ∀d∈items,∀tm n,∃n',n<=n'/\mt ⟨some d::fr,tm,n⟩= .ok (p d) ⟨some d::fr,tm,n'⟩)
 (hme: ∀d∈items,p d=true->∀tm n,∃n',n<=n'/\me ⟨some d::fr,tm,n⟩= .ok (g d) ⟨some d::fr,tm,n'⟩):
 ∀(f i:Nat) (acc:List D) (o:Option D) (n:Nat),i+f=items.length->acc.length<=i->∃n',n<=n'/\z0s K (.nm 0) mt me ol f i acc.length ⟨o::fr,(acc.reverse.map some)++(σ0++(its++tm0)),n⟩= .ok (.lst n' (acc++((items.drop i).filter p).map g)) ⟨σ0,tm0,n'+1⟩:=by
 intro f
 induction f with
 |zero=>
  intro i acc o n hi ha
  have hi:i=items.length:=by lia
  refine⟨n,Nat.le_refl _, ?_⟩
  have l1:(acc.reverse.map some).length=acc.length:=by simp
  have e1:((acc.reverse.map some)++(σ0++(its++tm0))).drop (acc.length+ol)=its++tm0:=by
   rw[<-List.append_assoc];exact z0l _ _ _ (by simp[hol])
  unfold z0s
  simp only[e1,hat,List.getElem?_eq_none (show items.length<=i by lia)]
  rw[z0N _ _ _ l1]
  have e2:(acc.reverse.map some).reverse=acc.map some:=by simp
  rw[e2,z0M]
  simp only[Res.ok.injEq,Stt.mk.injEq,and_true,List.drop_eq_nil_of_le (show items.length<=i by lia),List.filter_nil,List.map_nil,List.append_nil,true_and]
  constructor
  ·rw[z0l _ _ _ l1,z0N _ _ _ hol]
  ·have:((acc.reverse.map some)++(σ0++(its++tm0))).drop (acc.length+ol+K.k)=(((acc.reverse.map some)++(σ0++(its++tm0))).drop (acc.length+ol)).drop K.k:=by rw[List.drop_drop]
   rw[this,e1]
   exact z0l _ _ _ hk
 |succ f ih=>
  intro i acc o n hi ha
  have hlt:i<items.length:=by lia
  have e1:((acc.reverse.map some)++(σ0++(its++tm0))).drop (acc.length+ol)=its++tm0:=by
   rw[<-List.append_assoc];exact z0l _ _ _ (by simp[hol])
  obtain⟨n1,hn1,h1⟩:=hmt items[i] (List.getElem_mem hlt) ((acc.reverse.map some)++(σ0++(its++tm0))) n
  rw[List.drop_eq_getElem_cons hlt,List.filter_cons]
  unfold z0s
  simp only[e1,hat,List.getElem?_eq_getElem hlt,asg,List.set_cons_zero,h1]
  cases hp:p items[i] with
  |false=>
   obtain⟨n2,hn2,h2⟩:=ih (i+1) acc (some items[i]) n1 (by lia) (by lia)
   exact⟨n2,by lia,h2⟩
  |true=>
   obtain⟨n2,hn2,h2⟩:=hme items[i] (List.getElem_mem hlt) hp ((acc.reverse.map some)++(σ0++(its++tm0))) n1
   obtain⟨n3,hn3,h3⟩:=ih (i+1) (acc++[g items[i]]) (some items[i]) n2 (by lia) (by simp;lia)
   refine⟨n3,by lia, ?_⟩
   simp only[if_pos (show acc.length<sizeLine by lia),h2]
   simp only[List.length_append,List.length_cons,List.length_nil,Nat.zero_add,List.reverse_append,List.reverse_cons,List.reverse_nil,List.nil_append,List.map_append,List.map_cons,List.map_nil,List.cons_append,List.append_assoc] at h3⊢
   exact h3
theorem z7M{mi:M ItK}{K:ItK}{mt:M Bool}{me:M D}{p:D->Bool}{g:D->D}{items:List D}{its:List (Option D)}{ix:List Nat}{s:Stt}{σ tm:List (Option D)}{n:Nat}(hc:mi s= .ok K ⟨σ,its++tm,n⟩)(hk:its.length=K.k)(hz:items.length<sizeLine)(hat: ∀i rest,K.at' i (its++rest)=some items[i]?)(hlen:K.len (its++tm)=items.length)
 (hmt: ∀d∈items,∀tm n,∃n',n<=n'/\mt ⟨some d::(ix.map fun i=>(σ[i]?).getD none),tm,n⟩= .ok (p d) ⟨some d::(ix.map fun i=>(σ[i]?).getD none),tm,n'⟩)
 (hme: ∀d∈items,p d=true->∀tm n,∃n',n<=n'/\me ⟨some d::(ix.map fun i=>(σ[i]?).getD none),tm,n⟩= .ok (g d) ⟨some d::(ix.map fun i=>(σ[i]?).getD none),tm,n'⟩):
 ∃n',n<=n'/\z0x mi (.nm 0) mt me 1 ix s= .ok (.lst n' ((items.filter p).map g)) ⟨σ,tm,n'+1⟩:=by
 obtain⟨n',h2,h3⟩:=z6t (K:=K) (mt:=mt) (me:=me) (σ0:=σ) (tm0:=tm) hk rfl hz hat hmt hme items.length 0 [] none n (by simp) (by simp)
 refine⟨n',h2, ?_⟩
 unfold z0x
 simp only[bd,hc,hlen]
 simp only[List.map_nil,List.reverse_nil,List.nil_append,List.length_nil,List.drop_zero] at h3
 exact h3
end Mi
set_option maxHeartbeats 1000000
namespace Mi
open PySem L2
noncomputable def zeK(o:Option (List D))(t:D)(n:Nat):RF:=match o with|some ts=> .ex t ts n|none=> .no
noncomputable def _root_.Mi.RS.finX(k:Nat):RS->RF
 | .nx s'=>finO (z0a s'.tm) .non s'.n
 | .rt t s'=>finO (z0a s'.tm) t s'.n
 | .ex d s'=>zeK (z0a (zea k s'.tm)) d s'.n
 |_=> .no
end Mi
set_option maxHeartbeats 4000000
namespace Mi
open PySem L2
end Mi
set_option maxHeartbeats 40000
namespace Mi
open PySem L2
section
variable{α β:Type}{m ma mb mc:M D}{s:Stt}{ms:List (M D)}{σ tm l:List (Option D)}{n i j k p:Nat}{x y z u d:D}{g g2:D->D->M D}{h:List D->M D}
variable{a0 a1 a2 a3 a4 a5 a6 a7 a8 a9 a10 a11 a12 a13 a14 a15 v:Option D}
theorem qg1:(a0::a1::l)[1]? =some a1:=(rfl)
theorem qg2:(a0::a1::a2::l)[2]? =some a2:=(rfl)
theorem qg3:(a0::a1::a2::a3::l)[3]? =some a3:=(rfl)
theorem qg4:(a0::a1::a2::a3::a4::l)[4]? =some a4:=(rfl)
theorem qg5:(a0::a1::a2::a3::a4::a5::l)[5]? =some a5:=(rfl)
theorem qg6:(a0::a1::a2::a3::a4::a5::a6::l)[6]? =some a6:=(rfl)
theorem qg7:(a0::a1::a2::a3::a4::a5::a6::a7::l)[7]? =some a7:=(rfl)
theorem qg8:(a0::a1::a2::a3::a4::a5::a6::a7::a8::l)[8]? =some a8:=(rfl)
theorem qg10:(a0::a1::a2::a3::a4::a5::a6::a7::a8::a9::a10::l)[10]? =some a10:=(rfl)
theorem qg11:(a0::a1::a2::a3::a4::a5::a6::a7::a8::a9::a10::a11::l)[11]? =some a11:=(rfl)
theorem qg12:(a0::a1::a2::a3::a4::a5::a6::a7::a8::a9::a10::a11::a12::l)[12]? =some a12:=(rfl)
theorem qh1:(a0::a1::l).set 1 v=a0::v::l:=(rfl)
theorem qh2:(a0::a1::a2::l).set 2 v=a0::a1::v::l:=(rfl)
theorem qh3:(a0::a1::a2::a3::l).set 3 v=a0::a1::a2::v::l:=(rfl)
theorem qh4:(a0::a1::a2::a3::a4::l).set 4 v=a0::a1::a2::a3::v::l:=(rfl)
theorem qh5:(a0::a1::a2::a3::a4::a5::l).set 5 v=a0::a1::a2::a3::a4::v::l:=(rfl)
theorem qh10:(a0::a1::a2::a3::a4::a5::a6::a7::a8::a9::a10::l).set 10 v=a0::a1::a2::a3::a4::a5::a6::a7::a8::a9::v::l:=(rfl)
theorem qh11:(a0::a1::a2::a3::a4::a5::a6::a7::a8::a9::a10::a11::l).set 11 v=a0::a1::a2::a3::a4::a5::a6::a7::a8::a9::a10::v::l:=(rfl)
theorem ov:mVar i s=match s.σ[i]? with|some (some t)=> .ok t s|_=> .no:=rfl
noncomputable def cv(g:D->D->M D)(a:D)(b:Option (Option D))(s:Stt):Res D:=match b with
 |some (some b)=>g a b s
 |_=> .no
theorem zaG:cv g x (some (some y)) s=g x y s:=(rfl)
theorem x_bC:mBin m (mC y) g s=(m s).bnd fun x s1=>g x y s1:=by
 rw[zax];cases m s<;>rfl
theorem x_bV:mBin m (mVar j) g s=(m s).bnd fun x s1=>cv g x s1.σ[j]? s1:=by
 rw[zax];cases m s with
 |ok x s1=>rw[z3q,z3q];unfold mVar cv;dsimp only[Stt.psh];cases s1.σ[j]? with
  |none=>rfl
  |some o=>cases o<;>rfl
 |ex d s1=>rfl
 |no=>rfl
noncomputable def qc1(h:List D->M D)(a:Option (Option D))(s:Stt):Res D:=match a with
 |some (some a)=>h [a] s
 |_=> .no
theorem z8L:qc1 h (some (some x)) s=h [x] s:=(rfl)
theorem x_c1:mCB [mVar i] h ⟨σ,tm,n⟩=qc1 h σ[i]? ⟨σ,tm,n⟩:=by
 rw[x_cb];unfold mVar qc1 z09 bd;dsimp only
 cases σ[i]? with
 |none=>rfl
 |some o=>cases o<;>rfl
theorem z9j:z09 [m] s=(m s).bnd fun x s1=> .ok [x] s1:=by
 rw[z3P];cases m s<;>rfl
noncomputable def qa1(a:Option (Option D))(s:Stt):Res (List D):=match a with
 |some (some a)=> .ok [a] s
 |_=> .no
theorem x_a1:z09 [mVar i] ⟨σ,tm,n⟩=qa1 σ[i]? ⟨σ,tm,n⟩:=by
 rw[z9j];unfold mVar qa1;dsimp only
 cases σ[i]? with
 |none=>rfl
 |some o=>cases o<;>rfl
noncomputable def qa2(a b:Option (Option D))(s:Stt):Res (List D):=match a,b with
 |some (some a),some (some b)=> .ok [a,b] s
 |_,_=> .no
theorem z8M:qa2 (some (some x)) (some (some y)) s= .ok [x,y] s:=(rfl)
theorem x_a2:z09 [mVar i,mVar j] ⟨σ,tm,n⟩=qa2 σ[i]? σ[j]? ⟨σ,tm,n⟩:=by
 rw[z3P];unfold mVar qa2;dsimp only
 cases σ[i]? with
 |none=>rfl
 |some o=>cases o with
  |none=>rfl
  |some a=>rw[z3q];show Res.bnd _ (z09 [mVar j] ⟨σ,_,_⟩)=_;rw[x_a1];unfold qa1;cases σ[j]? with
   |none=>rfl
   |some o=>cases o<;>rfl
theorem zeL:z09 [mVar i,mC y] ⟨σ,tm,n⟩=qa2 σ[i]? (some (some y)) ⟨σ,tm,n⟩:=by
 rw[z3P];unfold mVar qa2;dsimp only
 cases σ[i]? with
 |none=>rfl
 |some o=>cases o<;>rfl
theorem zeM:sAsg (.nm i) m s=(m s).lf fun d s1=> .nx ⟨s1.σ.set i (some d),s1.tm,s1.n⟩:=by
 rw[zcU];cases m s<;>rfl
end
theorem z0D{t:D}{l n' n:Nat}{b b' r:List D}{σ tm:List (Option D)}{σ1 tm1:D->List (Option D)}(hb:labsL b=[])(hb':labsL b'=[])(hr:labsL r=[])(f1: ∀q,rpO (pl l q) σ=σ1 q)(f2: ∀q,rpO (pl l q) tm=tm1 q)(e1:σ1 (.lst l b)=σ:=by rfl)(e2:tm1 (.lst l b)=tm:=by rfl):
 z3G (.ok t (.lst l b'::r) n') (.lst l b::r) ⟨σ,tm,n⟩= .ok t ⟨σ1 (.lst l b'),tm1 (.lst l b'),n'⟩:=by
 rw[z0q hb hb' hr ((f1 _).trans e1) ((f2 _).trans e2),f1,f2]
end Mi
set_option maxHeartbeats 1000000
namespace Mi
open PySem L2
theorem z8N{K:ItK}{g:Tg}{b:MS}{f i:Nat}{s s':Stt}{d:D}{σ':List (Option D)}(h1:K.at' i s.tm=some (some d))(h2:asg g d s.σ=some σ')(h3:b {s with σ:=σ'}= .nx s'):forGo K g b (f+1) i s=forGo K g b f (i+1) s':=by
 conv=>lhs;unfold forGo
 simp only[h1,h2,h3]
theorem zaH{K:ItK}{g:Tg}{b:MS}{f i:Nat}{s:Stt}(h1:K.at' i s.tm=some none):forGo K g b f i s= .nx (s.popn K.k):=by
 unfold forGo
 simp only[h1]
theorem z8O{K:ItK}{me:M D}{Q:Nat->D->Prop}(mono: ∀a b,a<=b->∀y,Q a y->Q b y){n0:Nat}{items:List D}{its fr σ0 tm0:List (Option D)}{ol:Nat}(hk:its.length=K.k)(hol:σ0.length=ol)(hz:items.length<sizeLine)(hat: ∀i rest,K.at' i (its++rest)=some items[i]?)
 (hme: ∀d∈items,∀tm n,n0<=n->∃y n',n<=n'/\Q n' y/\me ⟨some d::fr,tm,n⟩= .ok y ⟨some d::fr,tm,n'⟩):
 ∀(f i:Nat) (acc:List D) (o:Option D) (n:Nat),i+f=items.length->acc.length=i->n0<=n->(∀y∈acc,Q n y)->∃ys n',ys.length=items.length/\(∀y∈ys,Q n' y)/\n<=n'/\z0s K (.nm 0) (rt true) me ol f i acc.length ⟨o::fr,(acc.reverse.map some)++(σ0++(its++tm0)),n⟩= .ok (.lst n' ys) ⟨σ0,tm0,n'+1⟩:=by
 intro f
 induction f with
 |zero=>
  intro i acc o n hi ha hn hq
  have hi:i=items.length:=by lia
  have l1:(acc.reverse.map some).length=acc.length:=by simp
  have e1:((acc.reverse.map some)++(σ0++(its++tm0))).drop (acc.length+ol)=its++tm0:=by
   rw[<-List.append_assoc];exact z0l _ _ _ (by simp[hol])
  refine⟨acc,n,by lia,hq,Nat.le_refl _, ?_⟩
  unfold z0s
  simp only[e1,hat,List.getElem?_eq_none (show items.length<=i by lia)]
  rw[z0N _ _ _ l1]
  have e2:(acc.reverse.map some).reverse=acc.map some:=by simp
  rw[e2,z0M]
  simp only[Res.ok.injEq,Stt.mk.injEq,and_true,true_and]
  constructor
  ·rw[z0l _ _ _ l1,z0N _ _ _ hol]
  ·have:((acc.reverse.map some)++(σ0++(its++tm0))).drop (acc.length+ol+K.k)=(((acc.reverse.map some)++(σ0++(its++tm0))).drop (acc.length+ol)).drop K.k:=by rw[List.drop_drop]
   rw[this,e1]
   exact z0l _ _ _ hk
 |succ f ih=>
  intro i acc o n hi ha hn hq
  have hlt:i<items.length:=by lia
  have e1:((acc.reverse.map some)++(σ0++(its++tm0))).drop (acc.length+ol)=its++tm0:=by
   rw[<-List.append_assoc];exact z0l _ _ _ (by simp[hol])
  obtain⟨y,n1,hn1,q1,h2⟩:=hme items[i] (List.getElem_mem hlt) ((acc.reverse.map some)++(σ0++(its++tm0))) n hn
  obtain⟨ys,n2,g0,g1,g2,h3⟩:=ih (i+1) (acc++[y]) (some items[i]) n1 (by lia) (by simp;lia) (by lia) (fun z hz=>by
   rcases List.mem_append.1 hz with hz|hz
   ·exact mono _ _ hn1 z (hq z hz)
   ·rw[List.mem_singleton.1 hz];exact q1)
  refine⟨ys,n2,g0,g1,by lia, ?_⟩
  unfold z0s
  simp only[e1,hat,List.getElem?_eq_getElem hlt,asg,List.set_cons_zero,rt,if_pos (show acc.length<sizeLine by lia),h2]
  simp only[List.length_append,List.length_cons,List.length_nil,Nat.zero_add,List.reverse_append,List.reverse_cons,List.reverse_nil,List.nil_append,List.map_append,List.map_cons,List.map_nil,List.cons_append,List.append_assoc] at h3
  simp only[Stt.psh]
  exact h3
theorem zaI{mi:M ItK}{K:ItK}{me:M D}{Q:Nat->D->Prop}(mono: ∀a b,a<=b->∀y,Q a y->Q b y){items:List D}{its:List (Option D)}{ix:List Nat}{s:Stt}{σ tm:List (Option D)}{n:Nat}(hc:mi s= .ok K ⟨σ,its++tm,n⟩)(hk:its.length=K.k)(hz:items.length<sizeLine)(hat: ∀i rest,K.at' i (its++rest)=some items[i]?)(hlen:K.len (its++tm)=items.length)
 (hme: ∀d∈items,∀tm m,n<=m->∃y n',m<=n'/\Q n' y/\me ⟨some d::(ix.map fun i=>(σ[i]?).getD none),tm,m⟩= .ok y ⟨some d::(ix.map fun i=>(σ[i]?).getD none),tm,n'⟩):
 ∃ys n',ys.length=items.length/\(∀y∈ys,Q n' y)/\n<=n'/\z0x mi (.nm 0) (rt true) me 1 ix s= .ok (.lst n' ys) ⟨σ,tm,n'+1⟩:=by
 obtain⟨ys,n',g0,g1,g2,h3⟩:=z8O (K:=K) (me:=me) (Q:=Q) mono (n0:=n) (σ0:=σ) (tm0:=tm) hk rfl hz hat hme items.length 0 [] none n (by simp) (by simp) (Nat.le_refl _) (fun _ h=>nomatch h)
 refine⟨ys,n',g0,g1,g2, ?_⟩
 unfold z0x
 simp only[bd,hc,hlen]
 simp only[List.map_nil,List.reverse_nil,List.nil_append,List.length_nil,Nat.zero_add] at h3
 exact h3
end Mi
namespace My
open PySem L2 Mi
theorem BA{a b:Prop}(h:a)(k:b):a/\b:=⟨h,k⟩
noncomputable def B_0:=BA (BA (BA (BA (BA (BA @zej @x_bd) (BA @z3q (BA @zef @zeg))) (BA (BA @zeh (BA @x_rt @zcG)) (BA @zek (BA @zel @z8I)))) (BA (BA (BA @zem @x_C) (BA @zax (BA @zen @zcH))) (BA (BA @zcI (BA @x_tB @zeo)) (BA @x_or (BA @zep @zcJ))))) (BA (BA (BA (BA @zcK @zeq) (BA @x_it (BA @x_if @zay))) (BA (BA @z3P (BA @x_cb @zcL)) (BA @z7E (BA @zer @z7F)))) (BA (BA (BA @zaz (BA @zaA @zcM)) (BA @x_sl (BA @zcN @zes))) (BA (BA @y_lt (BA @y_gt @zet)) (BA @zeu (BA @zev @zew)))))) (BA (BA (BA (BA (BA @zex @zey) (BA @zez (BA @zcP @zcQ))) (BA (BA @zeA (BA @zeB @zeC)) (BA @zcR (BA @zcS @zaC)))) (BA (BA (BA @zeE @zeF) (BA @zcT (BA @zaD @zeG))) (BA (BA @x_sT (BA @x_sF @z7I)) (BA @zcU (BA @zeH @zcW))))) (BA (BA (BA (BA @zeI @z6q) (BA @zei (BA @z7D @List.map_cons.{0,0}))) (BA (BA @List.map_nil.{0,0} (BA @List.nil_append.{0} @List.cons_append.{0})) (BA @List.append_nil.{0} (BA @List.getElem?_cons_zero.{0} @List.getElem?_cons_succ.{0})))) (BA (BA (BA @List.getElem?_nil.{0} (BA @List.set_cons_zero.{0} @List.set_cons_succ.{0})) (BA @List.length_cons.{0} (BA @List.length_nil.{0} @Option.map_some.{0,0}))) (BA (BA @Option.map_none.{0,0} (BA @Bool.not_true @Bool.not_false)) (BA @beq_self_eq_true.{0} (BA @Nat.zero_add @Nat.sub_self))))))
local macro_rules | `(tactic| walk_at "") => `(tactic| (simp (config := { dsimp := false }) only [B_0, isiD, z0a, asg, asgL, List.replicate, Nat.reduceAdd, Nat.reduceSub, String.reduceBEq]))
noncomputable def isInt:D->Bool
 | .int _=>true
 |_=>false
theorem z5R(t:D)(n:Nat)(h:plain t=true):z0J [t] n= .ok (.bool (isInt t)) [t] n:=by
 unfold z0J z2W
 cases t<;>first|(simp[Mi.plain] at h;done)|(walk_at "";first|done|rfl)
theorem at0{a:D}{l:List D}:atI (a::l) 0=some a:=z4E (by decide) rfl
theorem at1{a b:D}{l:List D}:atI (a::b::l) 1=some b:=z4E (by decide) rfl
theorem at2{a b c:D}{l:List D}:atI (a::b::c::l) 2=some c:=z4E (by decide) rfl
theorem at3{a b c d:D}{l:List D}:atI (a::b::c::d::l) 3=some d:=z4E (by decide) rfl
theorem zeN{i j:Int}{s:Stt}:eqD (.int i) (.int j) s= .ok (.bool (i==j)) s:=by
 rw[y_eq (by simp[eqC,Mi.plain,er,PyData.canLay0,PyData.depth])];simp only[er,PyData.eqv]
theorem c0:((0:Nat):Int)=0:=rfl
theorem c1:((1:Nat):Int)=1:=rfl
theorem c2:((2:Nat):Int)=2:=rfl
theorem c3:((3:Nat):Int)=3:=rfl
theorem c4:((4:Nat):Int)=4:=rfl
noncomputable def Gd(t:D):Prop:=plain t=true/\(er t).canLay0=true
noncomputable def GdL(ds:List D):Prop:=plainL ds=true/\PyData.canLayAll0 (erL ds)=true
theorem Gd.tup{ds:List D}:Gd (.tup ds)↔GdL ds:=by simp only[Gd,GdL,Mi.plain,er,PyData.canLay0]
theorem Gd.lst{l:Nat}{ds:List D}:Gd (.lst l ds)↔GdL ds:=by simp only[Gd,GdL,Mi.plain,er,PyData.canLay0]
theorem GdL.cons{d:D}{ds:List D}:GdL (d::ds)↔Gd d/\GdL ds:=by
 simp only[Gd,GdL,plainL,erL,PyData.canLayAll0,Bool.and_eq_true]
 constructor
 ·rintro ⟨⟨a,b⟩,c,d⟩;exact⟨⟨a,c⟩,b,d⟩
 ·rintro ⟨⟨a,c⟩,b,d⟩;exact⟨⟨a,b⟩,c,d⟩
theorem zl:sizeLine=16777216:=rfl
section
variable{a b c d:D}{s:Stt}
theorem t0:tupD [] s= .ok (.tup []) s:=z7H (by decide)
theorem t1:tupD [a] s= .ok (.tup [a]) s:=z7H (by rw[zl];simp)
theorem t2:tupD [a,b] s= .ok (.tup [a,b]) s:=z7H (by rw[zl];simp)
theorem t3:tupD [a,b,c] s= .ok (.tup [a,b,c]) s:=z7H (by rw[zl];simp)
theorem t4:tupD [a,b,c,d] s= .ok (.tup [a,b,c,d]) s:=z7H (by rw[zl];simp)
theorem k0{σ tm:List (Option D)}{n:Nat}:lstM [] ⟨σ,tm,n⟩= .ok (.lst n []) ⟨σ,tm,n+1⟩:=z5e (by rw[zl];simp)
theorem k1{σ tm:List (Option D)}{n:Nat}:lstM [a] ⟨σ,tm,n⟩= .ok (.lst n [a]) ⟨σ,tm,n+1⟩:=z5e (by rw[zl];simp)
theorem k2{σ tm:List (Option D)}{n:Nat}:lstM [a,b] ⟨σ,tm,n⟩= .ok (.lst n [a,b]) ⟨σ,tm,n+1⟩:=z5e (by rw[zl];simp)
theorem k3{σ tm:List (Option D)}{n:Nat}:lstM [a,b,c] ⟨σ,tm,n⟩= .ok (.lst n [a,b,c]) ⟨σ,tm,n+1⟩:=z5e (by rw[zl];simp)
theorem k4{σ tm:List (Option D)}{n:Nat}:lstM [a,b,c,d] ⟨σ,tm,n⟩= .ok (.lst n [a,b,c,d]) ⟨σ,tm,n+1⟩:=z5e (by rw[zl];simp)
end
noncomputable def B_1:=BA (BA (BA (BA @t0 (BA @t2 @t3)) (BA (BA @t4 @k0) (BA @k2 @k3))) (BA (BA @k4 (BA @Bool.or_false @Bool.false_or)) (BA (BA @Bool.true_or @Bool.or_true) (BA @Bool.and_true @Bool.true_and)))) (BA (BA (BA @Bool.and_false (BA @Bool.false_and @at0)) (BA (BA @at1 @at2) (BA @at3 @zeN))) (BA (BA (BA @zcX @zaF) (BA @zcY @z5Q)) (BA (BA @z7J @z32) (BA @z3S @z1h))))
noncomputable def B_2:=BA @z8J @z8K
local macro_rules | `(tactic| walk_at "") => `(tactic| (simp (config := { dsimp := false }) only [B_0, B_1, B_2, isiD, z0a, asg, asgL, List.replicate, Nat.reduceAdd, Nat.reduceSub, String.reduceBEq, Int.reduceBEq]))
noncomputable def Bg(c x:Int):Prop:=0<=c/\0<=x/\x<2147483647
theorem z0y(l:Nat)(c x top:Int)(n:Nat)(h:Bg c x)(ht:0<top)(ht':top<1000000): ∃r c' x',0<=r/\r<top/\Bg c' x'/\z05 [.lst l [.int c, .int x], .int top] n= .ok (.int r) [.lst l [.int c', .int x'], .int top] n:=by
 unfold z05 z3O
 obtain⟨h0,h1,h2⟩:=h
 by_cases hc:0<c
 ·refine⟨c %top,c/top,x,Int.emod_nonneg _ (by lia),Int.emod_lt_of_pos _ ht,⟨Int.ediv_nonneg h0 (by lia),h1,h2⟩, ?_⟩
  walk_at ""
  simp only[hc,decide_true]
  walk_at ""
  rw[z3Q ht]
  walk_at ""
  rw[z9h ⟨ht,by lia⟩]
  walk_at ""
  rw[zcV (j:=0) rfl (by simp[labs])]
  walk_at ""
 ·have hx0:=Int.emod_nonneg (x*48271+7919) (show(2147483647:Int)≠0 by decide)
  have hx1:=Int.emod_lt_of_pos (x*48271+7919) (show(0:Int)<2147483647 by decide)
  generalize hy:(x*48271+7919) %2147483647=y at hx0 hx1
  refine⟨(y^(3:Int).toNat %2147483587/7*69621 %1073741789) %top,c,y,Int.emod_nonneg _ (by lia),Int.emod_lt_of_pos _ ht,⟨h0,hx0,hx1⟩, ?_⟩
  walk_at ""
  simp only[hc,decide_false]
  walk_at ""
  rw[z7G (.inl ⟨by lia,by lia⟩)]
  walk_at ""
  rw[z3Q (by decide),hy]
  walk_at ""
  rw[zcV (j:=1) rfl (by simp[labs])]
  walk_at ""
  rw[zaB ⟨by decide,by decide,by lia⟩]
  walk_at ""
  rw[z3Q (by decide)]
  walk_at ""
  rw[z9h ⟨by decide,by decide⟩]
  walk_at ""
  rw[z7G (.inr ⟨by decide,by decide⟩)]
  walk_at ""
  rw[z3Q (by decide)]
  walk_at ""
  rw[z3Q ht]
  walk_at ""
noncomputable def B_3:=BA (BA @zeJ @z9i) (BA @zcZ @Int.zero_add)
local macro_rules | `(tactic| walk_at "") => `(tactic| (simp (config := { dsimp := false }) only [B_0, B_1, B_2, B_3, isiD, z0a, asg, asgL, List.replicate, Nat.reduceAdd, Nat.reduceSub, String.reduceBEq, Int.reduceBEq]))
theorem z9k{ns:List Int}{a:Nat}(h:a<ns.length):atI (ns.map D.int) (a:Int)=some (.int ns[a]):=z4E (by lia) (by simp[h])
theorem zd1(ns:List Int)(a n:Nat)(ha:a<1000)(hl:ns.length<1000): ∃c x,Bg c x/\z2V [.ro (ns.map .int), .int a] n= .ok (.lst n [.int c, .int x]) [.ro (ns.map .int), .int a] (n+1):=by
 unfold z2V z5a
 walk_at ""
 have key: ∃c:Int,0<=c/\iteS (decide ((a:Int)<((ns.map D.int).length:Int))) (sAsg (Tg.nm 2) (mCB [mBin (mVar 0) (mVar 1) ixD] absD)) sNx ⟨[some (.ro (ns.map .int)),some (.int a),some (.int 0),none,none],[some (.ro (ns.map .int)),some (.int a)],n⟩= .nx ⟨[some (.ro (ns.map .int)),some (.int a),some (.int c),none,none],[some (.ro (ns.map .int)),some (.int a)],n⟩:=by
  by_cases h:a<ns.length
  ·refine⟨if ns[a]<0 then -ns[a] else ns[a], ?_, ?_⟩
   rotate_left
   ·rw[show decide ((a:Int)<((ns.map D.int).length:Int))=true by simp[h]]
    walk_at ""
    rw[z9k h]
    walk_at ""
   ·split<;>lia
  ·refine⟨0,by decide, ?_⟩
   rw[show decide ((a:Int)<((ns.map D.int).length:Int))=false by simp;lia]
   walk_at ""
 obtain⟨c,hc,e1⟩:=key
 rw[e1]
 walk_at ""
 rw[z3Q (by decide)]
 walk_at ""
 rw[z7G (.inl ⟨by decide,by decide⟩)]
 walk_at ""
 have q0:=Int.emod_nonneg c (show(2147483629:Int)≠0 by decide)
 have q1:=Int.emod_lt_of_pos c (show(0:Int)<2147483629 by decide)
 rw[zaB ⟨by decide,by decide,by lia⟩]
 walk_at ""
 rw[z3Q (by decide)]
 walk_at ""
 have w0:((ns.map D.int).length:Int)=ns.length:=by simp
 rw[w0]
 generalize hk:(if(60:Int)<(ns.length:Int) then(60:Int) else(ns.length:Int))=k
 have hk0:0<=k/\k<=60/\k<=ns.length:=by split at hk<;>lia
 rw[z4F ⟨by lia,by lia⟩]
 walk_at ""
 have p0:=Int.emod_nonneg ((c %2147483629+104729*(a:Int)+17)^(5:Int).toNat) (show(2147483647:Int)≠0 by decide)
 have p1:=Int.emod_lt_of_pos ((c %2147483629+104729*(a:Int)+17)^(5:Int).toNat) (show(0:Int)<2147483647 by decide)
 generalize (c %2147483629+104729*(a:Int)+17)^(5:Int).toNat %2147483647=x0 at p0 p1
 obtain⟨s',e2,x,o,hx0,hx1,rfl⟩:=z3T (P:=fun i s=> ∃(x:Int) (o:Option D),0<=x/\x<2147483647/\s=⟨[some (.ro (ns.map .int)),some (.int a),some (.int c),some (.int x),o],[some (.ro (ns.map .int)),some (.int a)],n⟩) (lo:=0) (N:=k.toNat) (g:= .nm 4) (b:=sAsg (.nm 3) (mBin (mBin (mBin (mBin (mVar 3) (mC (.int 48271)) mulD) (mBin (mBin (mBin (mVar 0) (mVar 4) ixD) (mC (.int 2147483587)) modD) (mBin (mVar 4) (mC (.int 3)) addD) mulD) addD) (mVar 4) addD) (mC (.int 2147483629)) modD)) (by
  rintro i hi s ⟨x,o,h0,h1,rfl⟩
  have hi':i<ns.length:=by lia
  refine⟨[some (.ro (ns.map .int)),some (.int a),some (.int c),some (.int x),some (.int i)],by simp only[Int.zero_add];rfl, ?_⟩
  refine⟨⟨[some (.ro (ns.map .int)),some (.int a),some (.int c),some (.int ((x*48271+ns[i] %2147483587*(i+3)+i) %2147483629)),some (.int i)],[some (.ro (ns.map .int)),some (.int a)],n⟩, ?_, ?_⟩
  ·walk_at ""
   rw[z7G (.inl ⟨by lia,by lia⟩)]
   walk_at ""
   rw[z9k hi']
   walk_at ""
   rw[z3Q (by decide)]
   walk_at ""
   rw[z7G (.inr ⟨by lia,by lia⟩)]
   walk_at ""
   rw[z3Q (by decide)]
   walk_at ""
  ·have r0:=Int.emod_nonneg (x*48271+ns[i] %2147483587*(i+3)+i) (show(2147483629:Int)≠0 by decide)
   have r1:=Int.emod_lt_of_pos (x*48271+ns[i] %2147483587*(i+3)+i) (show(0:Int)<2147483629 by decide)
   exact⟨_,_,r0,by lia,rfl⟩) k.toNat 0 ⟨[some (.ro (ns.map .int)),some (.int a),some (.int c),some (.int x0),none],[some (.ro (ns.map .int)),some (.int a)],n⟩ (by lia) ⟨x0,none,p0,p1,rfl⟩
 rw[e2]
 walk_at ""
 rw[zaB ⟨by decide,by decide,by decide⟩]
 walk_at ""
 by_cases h:c<10^(18:Int).toNat
 ·refine⟨0,x,⟨by decide,hx0,hx1⟩, ?_⟩
  simp only[h,decide_true]
  walk_at ""
 ·refine⟨c,x,⟨hc,hx0,hx1⟩, ?_⟩
  simp only[h,decide_false]
  walk_at ""
theorem z1T{l k:Nat}{d:D}{ds:List D}(h:k≠l):rp (pl l d) (.lst k ds)= .lst k (rpL (pl l d) ds):=by simp only[rp,pl,if_neg h]
mutual
noncomputable def Rs(n:Nat):D->Bool
 | .non=>true| .bool _=>true| .int _=>true| .str x=>PyData.strOk x
 | .tup ds=>decide (ds.length<=2000)&&RsL n ds
 | .lst l ds=>decide (n<=l)&&(decide (ds.length<=2000)&&RsL n ds)
 | .ro _=>false| .dct _ _ _=>false| .obj _ _ _ _=>false| .exc _=>false| .fn _=>false| .fdc _ _=>false
noncomputable def RsL(n:Nat):List D->Bool
 |[]=>true
 |d::ds=>Rs n d&&RsL n ds
end
noncomputable def Up(m:Nat)(t:D):Prop:= ∀k∈labs t,k<m
theorem ok1:PyData.strOk ("1" :Str)=true:=by decide+kernel
mutual
noncomputable def Tr:D->Bool
 | .non=>true| .bool _=>true| .int _=>true| .str x=>PyData.strOk x
 | .tup ds=>decide (ds.length<=900)&&TrL ds
 | .lst _ _=>false| .ro _=>false| .dct _ _ _=>false| .obj _ _ _ _=>false| .exc _=>false| .fn _=>false| .fdc _ _=>false
noncomputable def TrL:List D->Bool
 |[]=>true
 |d::ds=>Tr d&&TrL ds
end
theorem z37: ∀{ds:List D},TrL ds=true↔∀d∈ds,Tr d=true
 |[]=>by simp[TrL]
 |d::ds=>by simp only[TrL,Bool.and_eq_true,z37 (ds:=ds),List.forall_mem_cons]
theorem z5f{n:Nat}: ∀{ds:List D},RsL n ds=true↔∀d∈ds,Rs n d=true
 |[]=>by simp[RsL]
 |d::ds=>by simp only[RsL,Bool.and_eq_true,z5f (ds:=ds),List.forall_mem_cons]
theorem z5g{k:Nat}: ∀{ds:List D},PyData.depthAll (erL ds)<=k↔∀d∈ds,(er d).depth<=k
 |[]=>by simp[erL,PyData.depthAll]
 |d::ds=>by simp only[erL,PyData.depthAll,List.forall_mem_cons,<-z5g (ds:=ds)];lia
mutual
theorem z7N: ∀t:D,Tr t=true->labs t=[]
 | .non,_=>rfl
 | .bool _,_=>rfl
 | .int _,_=>rfl
 | .str _,_=>rfl
 | .tup ds,h=>by simp only[Tr,Bool.and_eq_true] at h;simp only[labs];exact TrL_labs ds h.2
 | .lst _ _,h=>by simp[Tr] at h
 | .ro _,h=>by simp[Tr] at h
 | .dct _ _ _,h=>by simp[Tr] at h
 | .obj _ _ _ _,h=>by simp[Tr] at h
 | .exc _,h=>by simp[Tr] at h
 | .fn _,h=>by simp[Tr] at h
 | .fdc _ _,h=>by simp[Tr] at h
theorem TrL_labs: ∀t:List D,TrL t=true->labsL t=[]
 |[],_=>rfl
 |d::ds,h=>by simp only[TrL,Bool.and_eq_true] at h;simp only[labsL,z7N d h.1,TrL_labs ds h.2,List.append_nil]
end
mutual
theorem z7O{n:Nat}: ∀t:D,Tr t=true->Rs n t=true
 | .non,_=>rfl
 | .bool _,_=>rfl
 | .int _,_=>rfl
 | .str _,h=>by simpa[Tr,Rs] using h
 | .tup ds,h=>by
  simp only[Tr,Bool.and_eq_true,decide_eq_true_eq] at h;simp only[Rs,Bool.and_eq_true,decide_eq_true_eq];exact⟨by lia,TrL_rs ds h.2⟩
 | .lst _ _,h=>by simp[Tr] at h
 | .ro _,h=>by simp[Tr] at h
 | .dct _ _ _,h=>by simp[Tr] at h
 | .obj _ _ _ _,h=>by simp[Tr] at h
 | .exc _,h=>by simp[Tr] at h
 | .fn _,h=>by simp[Tr] at h
 | .fdc _ _,h=>by simp[Tr] at h
theorem TrL_rs{n:Nat}: ∀t:List D,TrL t=true->RsL n t=true
 |[],_=>rfl
 |d::ds,h=>by simp only[TrL,Bool.and_eq_true] at h;simp only[RsL,z7O d h.1,TrL_rs ds h.2,Bool.and_true]
end
mutual
theorem z8P{n:Nat}: ∀t:D,Rs n t=true->Gd t
 | .non,_=>⟨rfl,rfl⟩
 | .bool _,_=>⟨rfl,rfl⟩
 | .int _,_=>⟨rfl,rfl⟩
 | .str _,h=>⟨rfl,by simpa[Rs,er,PyData.canLay0] using h⟩
 | .tup ds,h=>by simp only[Rs,Bool.and_eq_true] at h;exact Gd.tup.mpr (RsL_gd ds h.2)
 | .lst _ ds,h=>by simp only[Rs,Bool.and_eq_true] at h;exact Gd.lst.mpr (RsL_gd ds h.2.2)
 | .ro _,h=>by simp[Rs] at h
 | .dct _ _ _,h=>by simp[Rs] at h
 | .obj _ _ _ _,h=>by simp[Rs] at h
 | .exc _,h=>by simp[Rs] at h
 | .fn _,h=>by simp[Rs] at h
 | .fdc _ _,h=>by simp[Rs] at h
theorem RsL_gd{n:Nat}: ∀t:List D,RsL n t=true->GdL t
 |[],_=>⟨rfl,rfl⟩
 |d::ds,h=>by simp only[RsL,Bool.and_eq_true] at h;exact GdL.cons.mpr ⟨z8P d h.1,RsL_gd ds h.2⟩
end
mutual
theorem zd2{n k:Nat}: ∀t:D,Rs n t=true->k∈labs t->n<=k
 | .non,_,h=>by simp[labs] at h
 | .bool _,_,h=>by simp[labs] at h
 | .int _,_,h=>by simp[labs] at h
 | .str _,_,h=>by simp[labs] at h
 | .tup ds,h,m=>by simp only[Rs,Bool.and_eq_true] at h;simp only[labs] at m;exact RsL_low ds h.2 m
 | .lst _ ds,h,m=>by
  simp only[Rs,Bool.and_eq_true,decide_eq_true_eq] at h
  simp only[labs,List.mem_cons] at m
  rcases m with rfl|m
  ·exact h.1
  ·exact RsL_low ds h.2.2 m
 | .ro _,h,_=>by simp[Rs] at h
 | .dct _ _ _,h,_=>by simp[Rs] at h
 | .obj _ _ _ _,h,_=>by simp[Rs] at h
 | .exc _,h,_=>by simp[Rs] at h
 | .fn _,h,_=>by simp[Rs] at h
 | .fdc _ _,h,_=>by simp[Rs] at h
theorem RsL_low{n k:Nat}: ∀t:List D,RsL n t=true->k∈labsL t->n<=k
 |[],_,h=>by simp[labsL] at h
 |d::ds,h,m=>by
  simp only[RsL,Bool.and_eq_true] at h
  simp only[labsL,List.mem_append] at m
  rcases m with m|m
  ·exact zd2 d h.1 m
  ·exact RsL_low ds h.2 m
end
theorem z9l{n k l:Nat}{es:List D}(hn:n<=l)(hl:es.length<=2000)(h: ∀e∈es,Rs n e=true/\(er e).depth<=k):Rs n (.lst l es)=true/\(er (.lst l es)).depth<=k+1:=by
 refine⟨?_, ?_⟩
 ·simp only[Rs,Bool.and_eq_true,decide_eq_true_eq];exact⟨hn,hl,z5f.mpr fun d m=>(h d m).1⟩
 ·simp only[er,PyData.depth];exact Nat.succ_le_succ (z5g.mpr fun d m=>(h d m).2)
theorem labsL_mem{k:Nat}: ∀{es:List D},k∈labsL es->∃e∈es,k∈labs e
 |e::es,h=>by
  simp only[labsL,List.mem_append] at h
  rcases h with h|h
  ·exact⟨e,List.mem_cons_self,h⟩
  ·obtain⟨e',h1,h2⟩:=labsL_mem h
   exact⟨e',List.mem_cons_of_mem _ h1,h2⟩
theorem z7P{y d:D}{s:Stt}(gy:Gd y)(gd:Gd d)(e:er y=er d)(hd:(er d).depth<=60):neD y d s= .ok (.bool false) s:=by
 rw[y_ne (by simp only[eqC,gy.1,gd.1,gy.2,gd.2,e,Bool.true_and,decide_eq_true_eq];lia),e,PySem.SeqAt.eqv_refl _ gd.2];rfl
theorem z8Q{f:Nat->Option D}{o:Option D}{r:List (Option D)}:rpO f (o::r)=o.map (rp f)::rpO f r:=by cases o<;>rfl
noncomputable def UpO(n:Nat)(o:Option D):Prop:= ∀d,o=some d->Up n d
theorem UpO.fix{n:Nat}{o:Option D}(h:UpO n o)(d:D):Option.map (rp (pl n d)) o=o:=by
 cases o with
 |none=>rfl
 |some t=>simp only[Option.map_some];rw[z3R fun m=>Nat.lt_irrefl _ (h t rfl n m)]
theorem k5{a b c d e:D}{σ tm:List (Option D)}{n:Nat}:lstM [a,b,c,d,e] ⟨σ,tm,n⟩= .ok (.lst n [a,b,c,d,e]) ⟨σ,tm,n+1⟩:=z5e (by rw[zl];simp)
theorem k6{a b c d e f:D}{σ tm:List (Option D)}{n:Nat}:lstM [a,b,c,d,e,f] ⟨σ,tm,n⟩= .ok (.lst n [a,b,c,d,e,f]) ⟨σ,tm,n+1⟩:=z5e (by rw[zl];simp)
theorem z4I{k:Nat}{es:List D}(hl:es.length<=900)(h: ∀e∈es,Tr e=true/\(er e).depth<=k):Tr (.tup es)=true/\(er (.tup es)).depth<=k+1:=by
 refine⟨?_, ?_⟩
 ·simp only[Tr,Bool.and_eq_true,decide_eq_true_eq];exact⟨hl,z37.mpr fun d m=>(h d m).1⟩
 ·simp only[er,PyData.depth];exact Nat.succ_le_succ (z5g.mpr fun d m=>(h d m).2)
theorem z3r{k:Nat}{i:Int}:Tr (.int i)=true/\(er (.int i)).depth<=k:=⟨rfl,by simp[er,PyData.depth]⟩
theorem zaJ{k:Nat}{i:Bool}:Tr (.bool i)=true/\(er (.bool i)).depth<=k:=⟨rfl,by simp[er,PyData.depth]⟩
noncomputable def B_4:=BA (BA (BA (BA @qg1 (BA @qg2 @qg3)) (BA @qg4 (BA @qg5 @qg6))) (BA (BA @qg7 (BA @qg8 @qg10)) (BA (BA @qg11 @qg12) (BA @qh1 @qh2)))) (BA (BA (BA @qh3 (BA @qh4 @qh5)) (BA @qh10 (BA @qh11 @x_bC))) (BA (BA @x_bV (BA @x_c1 @x_a1)) (BA (BA @x_a2 @zeL) (BA @z9j @zeM))))
noncomputable def B_5:=BA (BA @zaG @z8L) (BA @z8M @z8Q)
local macro_rules | `(tactic| walk_at "") => `(tactic| (simp (config := { dsimp := false }) only [B_0, B_1, B_3, ↓B_4, B_5, isiD, z0a, asg, asgL, List.replicate, Nat.reduceAdd, Nat.reduceSub, String.reduceBEq, Int.reduceBEq]))
noncomputable def iL(bs:List Int):List D:=bs.map D.int
theorem z5h: ∀{ds:List D},(∀d∈ds,∃i:Int,d= .int i)->∃bs,ds=iL bs
 |[],_=>⟨[],rfl⟩
 |d::ds,h=>by
  obtain⟨i,rfl⟩:=h d (by simp)
  obtain⟨bs,rfl⟩:=z5h (ds:=ds) fun d hd=>h d (by simp[hd])
  exact⟨i::bs,rfl⟩
structure Pz where
 e:Int
 ss:List Int
 k:Int
 c:Int
noncomputable def Pz.d(p:Pz):D:= .tup [.int p.e, .tup (iL p.ss), .int p.k, .int p.c]
noncomputable def psD(ps:List Pz):List D:=ps.map Pz.d
structure Cm where
 S:List Int
 C:List Pz
 b:Bool
noncomputable def Cm.d(c:Cm):D:= .tup [.tup (iL c.S), .tup (psD c.C), .bool c.b]
noncomputable def csD(cs:List Cm):List D:=cs.map Cm.d
noncomputable def nk(s g:List Int):NK:=[.inr (s.map .inl), .inr (g.map .inl)]
theorem z7Q(s g:List Int):dkD (nk s g)= .tup [.tup (iL s), .tup (iL g)]:=by
 simp[dkD,nk,nkD,keyD,iL,Function.comp_def]
section
variable{α β:Type}
noncomputable def aput(kv:List (NK×α))(k:NK)(v:α):List (NK×α):=if(kv.any fun p=>decide (p.1=k))=true then kv.map (fun p=>if p.1=k then(p.1,v) else p) else kv++[(k,v)]
noncomputable def aget:List (NK×α)->NK->Option α
 |[],_=>none
 |p::kv,k=>if p.1=k then some p.2 else aget kv k
noncomputable def ksA(kv:List (NK×α)):List D:=kv.map fun p=>dkD p.1
noncomputable def vsA(f:α->D)(kv:List (NK×α)):List D:=kv.map fun p=>f p.2
theorem z9m{k:NK}(kv:List (NK×α)):((ksA kv).any fun d=>decide (tkey d=some k))=kv.any fun p=>decide (p.1=k):=by
 unfold ksA
 rw[List.any_map]
 congr 1
 funext p
 simp only[Function.comp,z0I,Option.some.injEq]
theorem zd3{kv:List (NK×α)}{k:NK}{v:α}:z7q (ksA kv) k=ksA (aput kv k v):=by
 unfold z7q aput
 rw[z9m]
 split
 ·simp only[ksA,List.map_map]
  exact(List.map_congr_left fun p _=>by simp only[Function.comp];split<;>rfl).symm
 ·simp[ksA]
theorem zd4{f:α->D}{kv:List (NK×α)}{k:NK}{v:α}:z4Z (ksA kv) (vsA f kv) k (f v)=vsA f (aput kv k v):=by
 unfold z4Z aput
 rw[z9m]
 split
 ·rename_i hh;clear hh
  induction kv with
  |nil=>rfl
  |cons p kv ih=>
   simp only[ksA,vsA,List.map_cons,List.zipWith_cons_cons,z0I,Option.some.injEq] at ih⊢
   rw[ih]
   split<;>rfl
 ·simp[vsA]
theorem z4J{f:α->D}{k:NK}: ∀{kv:List (NK×α)},z1B (ksA kv) (vsA f kv) k=(aget kv k).map f
 |[]=>rfl
 |p::kv=>by
  have ih:=z4J (f:=f) (k:=k) (kv:=kv)
  simp only[ksA,vsA,List.map_cons,z1B,z0I,Option.some.injEq,aget] at ih⊢
  split
  ·rfl
  ·exact ih
theorem zd5(g:α->β){kv:List (NK×α)}{k:NK}{v:α}:(aput kv k v).map (fun p=>(p.1,g p.2))=aput (kv.map fun p=>(p.1,g p.2)) k (g v):=by
 unfold aput
 rw[List.any_map]
 have e:((fun p:NK×β=>decide (p.1=k))∘fun p:NK×α=>(p.1,g p.2))=fun p=>decide (p.1=k):=rfl
 rw[e]
 split
 ·rw[List.map_map,List.map_map]
  exact List.map_congr_left fun p _=>by simp only[Function.comp];split<;>rfl
 ·simp
theorem z8R(g:α->β){k:NK}: ∀{kv:List (NK×α)},aget (kv.map fun p=>(p.1,g p.2)) k=(aget kv k).map g
 |[]=>rfl
 |p::kv=>by
  simp only[List.map_cons,aget]
  split
  ·rfl
  ·exact z8R g
theorem zaK: ∀{kv:List (NK×α)},(kv.map (·.1)).Nodup->∀p∈kv,aget kv p.1=some p.2
 |q::kv,hn,p,hp=>by
  have hn':=List.nodup_cons.mp (show(q.1::kv.map (·.1)).Nodup from hn)
  rcases List.mem_cons.mp hp with rfl|hp
  ·simp only[aget,if_true]
  ·rw[aget,if_neg fun e:q.1=p.1=>hn'.1 (e▸List.mem_map.mpr ⟨p,hp,rfl⟩)]
   exact zaK hn'.2 p hp
theorem zeO{kv:List (NK×α)}{k:NK}{v:α}:(aput kv k v).map (·.1)=if(kv.any fun p=>decide (p.1=k))=true then kv.map (·.1) else kv.map (·.1)++[k]:=by
 unfold aput
 split
 ·rw[List.map_map]
  exact List.map_congr_left fun p _=>by simp only[Function.comp];split<;>rfl
 ·simp
theorem apnd{kv:List (NK×α)}{k:NK}{v:α}(h:(kv.map (·.1)).Nodup):((aput kv k v).map (·.1)).Nodup:=by
 rw[zeO]
 split
 ·exact h
 ·rename_i hk
  refine List.nodup_append.mpr ⟨h,by simp,fun a ha b hb e=> ?_⟩
  obtain⟨p,hp,rfl⟩:=List.mem_map.mp ha
  rw[List.mem_singleton.mp hb] at e
  exact hk (List.any_eq_true.mpr ⟨p,hp,by simpa using e⟩)
theorem zeP{kv:List (NK×α)}{k:NK}{v:α}:(aput kv k v).length<=kv.length+1:=by
 unfold aput
 split
 ·simp
 ·simp
theorem zeQ{P:NK×α->Prop}{kv:List (NK×α)}{k:NK}{v:α}(h: ∀p∈kv,P p)(hv:P (k,v)): ∀p∈aput kv k v,P p:=by
 unfold aput
 split
 ·intro p hp
  obtain⟨q,hq,rfl⟩:=List.mem_map.mp hp
  split
  ·rename_i e;rw[e];exact hv
  ·exact h q hq
 ·intro p hp
  rcases List.mem_append.mp hp with hp|hp
  ·exact h p hp
  ·rw[List.mem_singleton.mp hp];exact hv
end
noncomputable def ev1(kv:List (NK×(Int×Int)))(e:NK×Int):List (NK×(Int×Int)):=aput kv e.1 (((aget kv e.1).map (·.1)).getD 0+1,e.2)
noncomputable def prt(S:List Int):Int->List Pz->List NK
 |_,[]=>[]
 |b,p::C=>nk (cutA S (some b) (some p.e)) p.ss::prt S p.e C
noncomputable def evC(c:Cm)(i:Int):List (NK×Int):=(prt c.S 0 c.C).map fun k=>(k,i)
noncomputable def evs:List Cm->Int->List (NK×Int)
 |[],_=>[]
 |c::cs,i=>evC c i++evs cs (i+1)
noncomputable def cnt(cs:List Cm):List (NK×(Int×Int)):=(evs cs 1).foldl ev1 []
noncomputable def NkOk(k:NK):Prop:= ∃s g,k=nk s g/\s.length<=24/\g.length<=4
noncomputable def Kv(kv:List (NK×(Int×Int))):Prop:=(kv.map (·.1)).Nodup/\∀p∈kv,NkOk p.1
theorem Kv.nil:Kv []:=⟨List.nodup_nil,fun _ h=>nomatch h⟩
theorem Kv.put{kv:List (NK×(Int×Int))}{e:NK×Int}(h:Kv kv)(he:NkOk e.1):Kv (ev1 kv e):=⟨apnd h.1,zeQ h.2 he⟩
noncomputable def Cm.ok(c:Cm):Prop:=c.S.length<=24/\c.C.length<=24/\∀p∈c.C,p.ss.length<=4
theorem z3V(S:List Int): ∀(b:Int) (C:List Pz),(prt S b C).length=C.length
 |_,[]=>rfl
 |_,p::C=>by simp[prt,z3V S p.e C]
theorem z2m{α:Type}{ds:List α}{lo hi:Option Int}:(cutA ds lo hi).length<=ds.length:=by unfold cutA;simp only[List.length_take,List.length_drop];lia
theorem z9n{S:List Int}{lo hi:Option Int}:cutA (iL S) lo hi=iL (cutA S lo hi):=by
 unfold cutA iL
 simp
theorem z9o{S:List Int}(hS:S.length<=24): ∀(b:Int) (C:List Pz),(∀p∈C,p.ss.length<=4)->∀k∈prt S b C,NkOk k
 |_,[],_,k,h=>nomatch h
 |b,p::C,hC,k,h=>by
  rcases List.mem_cons.mp h with rfl|h
  ·exact⟨_,_,rfl,Nat.le_trans z2m hS,hC p (by simp)⟩
  ·exact z9o hS p.e C (fun q hq=>hC q (by simp[hq])) k h
theorem z7R: ∀(es:List (NK×Int)) (kv:List (NK×(Int×Int))),Kv kv->(∀e∈es,NkOk e.1)->Kv (es.foldl ev1 kv)
 |[],kv,h,_=>h
 |e::es,kv,h,he=>z7R es (ev1 kv e) (h.put (he e (by simp))) fun e' h'=>he e' (by simp[h'])
theorem z3W: ∀(es:List (NK×Int)) (kv:List (NK×(Int×Int))),(es.foldl ev1 kv).length<=kv.length+es.length
 |[],kv=>by simp
 |e::es,kv=>by
  have h1:=z3W es (ev1 kv e)
  have h2:(ev1 kv e).length<=kv.length+1:=zeP
  simp only[List.foldl_cons,List.length_cons]
  lia
theorem z9p: ∀(cs:List Cm) (i:Int),(∀c∈cs,c.ok)->∀e∈evs cs i,NkOk e.1
 |[],_,_,e,h=>nomatch h
 |c::cs,i,hc,e,h=>by
  rcases List.mem_append.mp (show e∈evC c i++evs cs (i+1) from h) with h|h
  ·obtain⟨k,hk,rfl⟩:=List.mem_map.mp h
   have:=hc c (by simp)
   exact z9o this.1 0 c.C this.2.2 k hk
  ·exact z9p cs (i+1) (fun c' h'=>hc c' (by simp[h'])) e h
theorem z7S: ∀(cs:List Cm) (i:Int),(∀c∈cs,c.ok)->(evs cs i).length<=24*cs.length
 |[],_,_=>by simp[evs]
 |c::cs,i,hc=>by
  have h1:=z7S cs (i+1) fun c' h'=>hc c' (by simp[h'])
  have h2:=(hc c (by simp)).2.1
  simp only[evs,List.length_append,evC,List.length_map,z3V,List.length_cons]
  lia
noncomputable def g1(q:Int×Int):Int:=q.1
noncomputable def g2(q:Int×Int):Int:=q.2
noncomputable abbrev m1(kv:List (NK×(Int×Int))):List (NK×Int):=kv.map fun p=>(p.1,g1 p.2)
noncomputable abbrev m2(kv:List (NK×(Int×Int))):List (NK×Int):=kv.map fun p=>(p.1,g2 p.2)
theorem zeR{kv:List (NK×(Int×Int))}{e:NK×Int}:m1 (ev1 kv e)=aput (m1 kv) e.1 ((aget (m1 kv) e.1).getD 0+1):=by
 unfold ev1 m1
 rw[zd5 g1,z8R g1]
 rfl
theorem zeS{kv:List (NK×(Int×Int))}{e:NK×Int}:m2 (ev1 kv e)=aput (m2 kv) e.1 e.2:=by
 unfold ev1 m2
 rw[zd5 g2]
 rfl
noncomputable def bAt(b:Int)(C:List Pz):Nat->Int
 |0=>b
 |i+1=>(C[i]?.map Pz.e).getD 0
theorem z3X(S:List Int): ∀(b:Int) (C:List Pz) (i:Nat) (h:i<C.length),(prt S b C)[i]? =some (nk (cutA S (some (bAt b C i)) (some C[i].e)) C[i].ss)
 |b,p::C,0,h=>rfl
 |b,p::C,i+1,h=>by
  simp only[prt,List.getElem?_cons_succ,List.getElem_cons_succ]
  rw[z3X S p.e C i (by simpa using h)]
  cases i with
  |zero=>rfl
  |succ i=>simp[bAt]
noncomputable def kvI(kv:List (NK×(Int×Int)))(S:List Int)(C:List Pz)(num:Int)(i:Nat):List (NK×(Int×Int)):=(((prt S 0 C).take i).map fun k=>(k,num)).foldl ev1 kv
theorem zaL{kv:List (NK×(Int×Int))}{S:List Int}{C:List Pz}{num:Int}{i:Nat}(h:i<C.length):kvI kv S C num (i+1)=ev1 (kvI kv S C num i) (nk (cutA S (some (bAt 0 C i)) (some C[i].e)) C[i].ss,num):=by
 unfold kvI
 rw[List.take_succ,z3X S 0 C i h]
 simp
theorem zaM{kv:List (NK×(Int×Int))}{c:Cm}{num:Int}:kvI kv c.S c.C num c.C.length=(evC c num).foldl ev1 kv:=by
 unfold kvI evC
 rw[List.take_of_length_le (by rw[z3V];exact Nat.le_refl _)]
theorem z5i{kv:List (NK×(Int×Int))}{S:List Int}{C:List Pz}{num:Int}{i:Nat}:(kvI kv S C num i).length<=kv.length+i:=by
 unfold kvI
 refine Nat.le_trans (z3W _ _) ?_
 simp only[List.length_map,List.length_take]
 lia
theorem z7T: ∀(a b:List Cm) (i:Int),evs (a++b) i=evs a i++evs b (i+(a.length:Nat))
 |[],b,i=>by simp[evs]
 |c::a,b,i=>by
  simp only[List.cons_append,evs,z7T a b (i+1),List.append_assoc,List.length_cons]
  rw[show i+1+(a.length:Int)=i+((a.length+1:Nat):Int) by push_cast;lia]
noncomputable def kvO(cs:List Cm)(i:Nat):List (NK×(Int×Int)):=(evs (cs.take i) 1).foldl ev1 []
theorem zaN{cs:List Cm}{i:Nat}(h:i<cs.length):kvO cs (i+1)=(evC cs[i] ((i+1:Nat):Int)).foldl ev1 (kvO cs i):=by
 unfold kvO
 rw[List.take_succ,List.getElem?_eq_getElem h,z7T,List.foldl_append]
 simp only[Option.toList_some,evs,List.append_nil,List.length_take]
 rw[show(1:Int)+((min i cs.length:Nat):Int)=((i+1:Nat):Int) by rw[Nat.min_eq_left (by lia)];push_cast;lia]
theorem z6u{cs:List Cm}:kvO cs cs.length=cnt cs:=by
 unfold kvO cnt
 rw[List.take_of_length_le (Nat.le_refl _)]
theorem z2c{cs:List Cm}{i:Nat}(hc: ∀c∈cs,c.ok):(kvO cs i).length<=24*cs.length:=by
 unfold kvO
 refine Nat.le_trans (z3W _ _) ?_
 have:=z7S (cs.take i) 1 fun c h=>hc c (List.mem_of_mem_take h)
 have h2:(cs.take i).length<=cs.length:=by simp only[List.length_take];lia
 simp only[List.length_nil]
 lia
theorem z7U{cs:List Cm}(hc: ∀c∈cs,c.ok):Kv (cnt cs):=z7R _ _ .nil (z9p cs 1 hc)
noncomputable def rowA(p:NK×(Int×Int)):D:= .tup (p.1.map nkD++[.int p.2.1, .int p.2.2])
noncomputable def rows(cs:List Cm):List D:=(cnt cs).map rowA
noncomputable def rw4(s g:List Int)(a b:Int):D:= .tup [.tup (iL s), .tup (iL g), .int a, .int b]
theorem zaO(s g:List Int)(q:Int×Int):rowA (nk s g,q)=rw4 s g q.1 q.2:=by
 simp[rowA,nk,nkD,keyD,iL,rw4,Function.comp_def]
theorem z1J{cs:List Cm}(hc: ∀c∈cs,c.ok){d:D}(h:d∈rows cs): ∃s g a b,d=rw4 s g a b/\s.length<=24/\g.length<=4:=by
 obtain⟨p,hp,rfl⟩:=List.mem_map.mp h
 obtain⟨s,g,e,h1,h2⟩:=(z7U hc).2 p hp
 obtain⟨k,q⟩:=p
 simp only at e
 subst e
 exact⟨s,g,q.1,q.2,zaO s g q,h1,h2⟩
theorem z5S{cs:List Cm}(hc: ∀c∈cs,c.ok):(rows cs).length<=24*cs.length:=by
 unfold rows
 rw[List.length_map,<-z6u]
 exact z2c hc
theorem z8S{k:Nat}{s:List Int}(h:s.length<=24):Tr (.tup (iL s))=true/\(er (.tup (iL s))).depth<=k+1:=z4I (by simp[iL];lia) fun e he=>by
 obtain⟨i,_,rfl⟩:=List.mem_map.mp he;exact z3r
theorem z9q{s g:List Int}{a b:Int}(h:s.length<=24)(h':g.length<=4):Tr (rw4 s g a b)=true/\(er (rw4 s g a b)).depth<=2:=z4I (by simp) (List.forall_mem_cons.mpr ⟨z8S h,List.forall_mem_cons.mpr ⟨z8S (by lia),List.forall_mem_cons.mpr ⟨z3r,List.forall_mem_cons.mpr ⟨z3r,fun _ h=>nomatch h⟩⟩⟩⟩)
theorem zaP: ∀a b:List Int,(So.ltL (erL (iL a)) (erL (iL b))).isSome=true
 |[],b=>by simp[iL,erL,So.ltL]
 |x::a,[]=>by simp[iL,erL,So.ltL]
 |x::a,y::b=>by
  have ih:=zaP a b
  simp only[iL,List.map_cons,erL,er,So.ltL] at ih⊢
  split
  ·exact ih
  ·simp[So.ltD]
theorem zeT{s g s' g':List Int}{a b a' b':Int}:(So.ltD (er (rw4 s g a b)) (er (rw4 s' g' a' b'))).isSome=true:=by
 simp only[rw4,er,erL,So.ltD,So.ltL]
 split
 ·split
  ·split
   ·split
    ·simp
    ·simp
   ·simp
  ·exact zaP g g'
 ·exact zaP s s'
theorem z3Y{P:PyData->Prop}: ∀{ds:List D},(∀d∈ds,P (er d))->∀e∈erL ds,P e
 |[],_,e,h=>nomatch h
 |d::ds,hd,e,h=>by
  rcases List.mem_cons.mp (show e∈er d::erL ds from h) with rfl|h
  ·exact hd d (by simp)
  ·exact z3Y (fun d' h'=>hd d' (by simp[h'])) e h
theorem zaQ{cs:List Cm}(hc: ∀c∈cs,c.ok):plainL (rows cs)=true/\z4z (erL (rows cs))=true/\labsL (rows cs)=[]:=by
 have tr: ∀d∈rows cs,Tr d=true/\(er d).depth<=2:=fun d hd=>by
  obtain⟨s,g,a,b,rfl,h1,h2⟩:=z1J hc hd
  exact z9q h1 h2
 have gd:GdL (rows cs):=RsL_gd (n:=0) _ (z5f.mpr fun d hd=>z7O d (tr d hd).1)
 refine⟨gd.1, ?_,TrL_labs _ (z37.mpr fun d hd=>(tr d hd).1)⟩
 unfold z4z
 simp only[Bool.and_eq_true,List.all_eq_true,decide_eq_true_eq]
 refine⟨z3Y fun d hd=> ?_,z3Y fun d hd=>z3Y fun d' hd'=> ?_⟩
 ·have t:=tr d hd
  have g':Gd d:=z8P (n:=0) d (z7O d t.1)
  obtain⟨s,g,a,b,rfl,h1,h2⟩:=z1J hc hd
  exact⟨⟨rfl,g'.2⟩,by lia⟩
 ·obtain⟨s,g,a,b,rfl,_⟩:=z1J hc hd
  obtain⟨s',g',a',b',rfl,_⟩:=z1J hc hd'
  exact zeT
theorem z9r{l n:Nat}{cs:List Cm}{σ tm:List (Option D)}(hc: ∀c∈cs,c.ok):srtT [.lst l (rows cs)] ⟨σ,tm,n⟩= .ok (.lst n (srtL (rows cs))) ⟨σ,tm,n+1⟩:=by
 obtain⟨h1,h2,h3⟩:=zaQ hc
 simp only[srtT]
 rw[if_pos (by rw[h1,h2,h3];rfl)]
 rfl
theorem z5j{ds:List D}{d:D}(h:d∈srtL ds):d∈ds:=by
 unfold srtL at h
 obtain⟨i,hi,rfl⟩:=List.mem_map.mp h
 have:=So.perm_lt i hi
 simp[this]
theorem z5k{ds:List D}:(srtL ds).length=ds.length:=by
 unfold srtL
 rw[List.length_map,So.perm_len]
theorem z1s{K:ItK}{g:Tg}{b:MS}{P:Nat->Stt->Prop}{item:Nat->D}{N:Nat}(hat: ∀i s,P i s->K.at' i s.tm=some (if i<N then some (item i) else none))
 (body: ∀i,i<N->∀s,P i s->∃σ',asg g (item i) s.σ=some σ'/\∃s',b {s with σ:=σ'}= .nx s'/\P (i+1) s'):
 ∀(f i:Nat) (s:Stt),i+f=N->P i s->∃s',forGo K g b f i s= .nx (s'.popn K.k)/\P N s'
 |0,i,s,hi,h=>by
  have e:i=N:=by lia
  subst e
  exact⟨s,zaH (by rw[hat i s h,if_neg (Nat.lt_irrefl _)]),h⟩
 |f+1,i,s,hi,h=>by
  obtain⟨σ',h1,s1,h2,h3⟩:=body i (by lia) s h
  obtain⟨s2,h4,h5⟩:=z1s hat body f (i+1) s1 (by lia) h3
  exact⟨s2,by rw[z8N (by rw[hat i s h,if_pos (by lia)]) h1 h2,h4],h5⟩
theorem z5l{o:Option D}{σ tm:List (Option D)}{n:Nat}:Stt.popn ⟨σ,o::tm,n⟩ 1=⟨σ,tm,n⟩:=rfl
theorem rL_i(f:Nat->Option D)(s:List Int):rpL f (iL s)=iL s:=by
 induction s with
 |nil=>rfl
 |cons i s ih=>simp only[iL,List.map_cons,z1h,z5Q] at ih⊢;rw[ih]
theorem rL_p(f:Nat->Option D)(C:List Pz):rpL f (psD C)=psD C:=by
 induction C with
 |nil=>rfl
 |cons p C ih=>simp only[psD,List.map_cons,z1h,Pz.d,z32,z5Q,rL_i,z3S] at ih⊢;rw[ih]
theorem z7V(f:Nat->Option D)(c:Cm):rp f c.d=c.d:=by
 simp only[Cm.d,z32,z1h,rL_i,rL_p,z7J,z3S]
theorem rL_c(f:Nat->Option D)(cs:List Cm):rpL f (csD cs)=csD cs:=by
 induction cs with
 |nil=>rfl
 |cons c cs ih=>simp only[csD,List.map_cons,z1h,z7V] at ih⊢;rw[ih]
theorem z5m{L m:Nat}{d:D}{cs:List Cm}(h:L≠m):rp (pl m d) (.lst L (csD cs))= .lst L (csD cs):=by rw[z1T h,rL_c]
theorem z3s{m:Nat}{d:D}{ks vs:List D}:rp (pl m d) (.dct m ks vs)=d:=by simp only[rp,pl,if_true]
theorem z8T(f:Nat->Option D)(s g:List Int):rp f (dkD (nk s g))=dkD (nk s g):=by rw[z7Q];simp only[z32,z1h,rL_i,z3S]
noncomputable def Fx(o:Option D):Prop:= ∀f,o.map (rp f)=o
theorem Fx.no:Fx none:=fun _=>rfl
theorem Fx.int{i:Int}:Fx (some (.int i)):=fun _=>rfl
theorem Fx.bool{i:Bool}:Fx (some (.bool i)):=fun _=>rfl
theorem Fx.iL{s:List Int}:Fx (some (.tup (iL s))):=fun f=>by simp only[Option.map_some,z32,rL_i]
theorem Fx.psD{s:List Pz}:Fx (some (.tup (psD s))):=fun f=>by simp only[Option.map_some,z32,rL_p]
theorem Fx.cm{s:Cm}:Fx (some s.d):=fun f=>by simp only[Option.map_some,z7V]
theorem Fx.dk{s g:List Int}:Fx (some (dkD (nk s g))):=fun f=>by simp only[Option.map_some,z8T]
section
variable{α:Type}{f:α->D}{kv:List (NK×α)}{k:NK}{m:Nat}{s:Stt}
theorem ks_T:isT (ksA kv)=true:=by cases kv<;>rfl
theorem zeU:dinD (dkD k) (.dct m (ksA kv) (vsA f kv)) s= .ok (.bool (aget kv k).isSome) s:=by
 unfold dinD
 simp only[rdD,if_pos (ks_T (kv:=kv)),z0I,z4J,Option.isSome_map]
 rfl
theorem z9s{v:α}(h:aget kv k=some v):dgtD (.dct m (ksA kv) (vsA f kv)) (dkD k) s= .ok (f v) s:=by
 unfold dgtD
 simp only[rdD,if_pos (ks_T (kv:=kv)),z0I,z4J,h,Option.map_some]
 rfl
theorem zd6{v:α}(h:aget kv k=some v):dgtD (.fdc (ksA kv) (vsA f kv)) (dkD k) s= .ok (f v) s:=by
 unfold dgtD
 simp only[rdD,z0I,z4J,h,Option.map_some]
 rfl
theorem z5n{v:α}(hf: ∀v,labs (f v)=[])(h:kv.length<=100000):z21 (.dct m (ksA kv) (vsA f kv)) (dkD k) (f v) s= .nx (s.put m (.dct m (ksA (aput kv k v)) (vsA f (aput kv k v)))):=by
 have lv:labsL (vsA f kv)=[]:=by
  clear h
  induction kv with
  |nil=>rfl
  |cons p kv ih=>simp only[vsA,List.map_cons,labsL,hf,List.nil_append] at ih⊢;exact ih
 unfold z21
 simp only[z0I]
 rw[if_pos ⟨ks_T,by rw[zl];simp only[ksA,List.length_map];lia,hf v,lv⟩,zd3 (v:=v),zd4]
end
noncomputable def pD(q:Int×Int):D:= .tup [.int q.1, .int q.2]
noncomputable def pbM:MS:=(seqS (sAsg (.nm 11) (mCB [(mSl (mVar 3) (some (mVar 6)) (some (mVar 7))),(mVar 8)] tupD))
 (seqS (sAsg (.nm 12) (mIf (mBoo (mBin (mVar 11) (mVar 1) dinD)) (mBin (mBin (mVar 1) (mVar 11) dgtD) (mC (.int 0)) ixD) (mC (.int 0))))
 (seqS (mTri (mCB [(mBin (mVar 12) (mC (.int 1)) addD),(mVar 2)] tupD) (mVar 1) (mVar 11) z21)
 (sAsg (.nm 6) (mVar 7)))))
theorem zeV(L m:Nat)(hL:L≠m)(cs:List Cm)(num:Int)(S:List Int)(C:List Pz)(o5:Option D)(x5:Fx o5)(b:Int)(p:Pz)(kv:List (NK×(Int×Int)))(hkv:kv.length<=5000)(o11 o12:Option D)(x11:Fx o11)(x12:Fx o12)(n:Nat):
 ∃o11' o12',Fx o11'/\Fx o12'/\pbM ⟨[some (.lst L (csD cs)),some (.dct m (ksA kv) (vsA pD kv)),some (.int num),some (.tup (iL S)),some (.tup (psD C)),o5,some (.int b),some (.int p.e),some (.tup (iL p.ss)),some (.int p.k),some (.int p.c),o11,o12],[some (.tup (psD C)),some (.lst L (csD cs)),some (.lst L (csD cs))],n⟩
  = .nx ⟨[some (.lst L (csD cs)),some (.dct m (ksA (ev1 kv (nk (cutA S (some b) (some p.e)) p.ss,num))) (vsA pD (ev1 kv (nk (cutA S (some b) (some p.e)) p.ss,num)))),some (.int num),some (.tup (iL S)),some (.tup (psD C)),o5,some (.int p.e),some (.int p.e),some (.tup (iL p.ss)),some (.int p.k),some (.int p.c),o11',o12'],[some (.tup (psD C)),some (.lst L (csD cs)),some (.lst L (csD cs))],n⟩:=by
 generalize hk:nk (cutA S (some b) (some p.e)) p.ss=k
 have ek:D.tup [.tup (cutA (iL S) (some b) (some p.e)), .tup (iL p.ss)]=dkD k:=by rw[z9n,<-hk,z7Q]
 have fk: ∀f,rp f (dkD k)=dkD k:=fun f=>by rw[<-hk,z8T]
 generalize hm:((aget kv k).map (·.1)).getD 0=many
 refine⟨some (dkD k),some (.int many),fun f=>by rw[Option.map_some,fk],Fx.int, ?_⟩
 have fC:=rL_p
 have fI:=rL_i
 have fcs: ∀d,rp (pl m d) (.lst L (csD cs))= .lst L (csD cs):=fun d=>z5m hL
 have e3: ∀s:Stt,z21 (.dct m (ksA kv) (vsA pD kv)) (dkD k) (.tup [.int (many+1), .int num]) s= .nx (s.put m (.dct m (ksA (ev1 kv (k,num))) (vsA pD (ev1 kv (k,num))))):=fun s=>by
  have:=z5n (f:=pD) (kv:=kv) (k:=k) (m:=m) (s:=s) (v:=(many+1,num)) (fun _=>rfl) (by lia)
  unfold ev1
  rw[hm];exact this
 unfold pbM
 walk_at ""
 rw[ek]
 rw[zeU]
 cases ha:aget kv k with
 |none=>
  rw[ha] at hm
  simp only[Option.map_none,Option.getD_none] at hm
  subst hm
  simp only[Option.isSome_none]
  walk_at ""
  rw[show(1:Int)=0+1 from rfl,e3]
  walk_at ""
  simp only[fcs,z3s,fI,fC,fk,x5 _]
 |some v=>
  rw[ha] at hm
  simp only[Option.map_some,Option.getD_some] at hm
  subst hm
  simp only[Option.isSome_some]
  walk_at ""
  rw[z9s ha,pD]
  walk_at ""
  rw[e3]
  walk_at ""
  simp only[fcs,z3s,fI,fC,fk,x5 _]
theorem z7W{K:ItK}{mt:M Bool}{me:M D}{p:D->D->Bool}{g:D->D->D}{items:List (D×D)}{its fr σ0 tm0:List (Option D)}{ol:Nat}(hk:its.length=K.k)(hol:σ0.length=ol)(hz:items.length<sizeLine)(hat: ∀i rest,K.at' i (its++rest)=some ((items[i]?).map fun q=> .tup [q.1,q.2]))
 (hmt: ∀q∈items,∀tm n,∃n',n<=n'/\mt ⟨some q.1::some q.2::fr,tm,n⟩= .ok (p q.1 q.2) ⟨some q.1::some q.2::fr,tm,n'⟩)
 (hme: ∀q∈items,p q.1 q.2=true->∀tm n,∃n',n<=n'/\me ⟨some q.1::some q.2::fr,tm,n⟩= .ok (g q.1 q.2) ⟨some q.1::some q.2::fr,tm,n'⟩):
 ∀(f i:Nat) (acc:List D) (o o':Option D) (n:Nat),i+f=items.length->acc.length<=i->∃n',n<=n'/\z0s K (.tp [.nm 0, .nm 1]) mt me ol f i acc.length ⟨o::o'::fr,(acc.reverse.map some)++(σ0++(its++tm0)),n⟩= .ok (.lst n' (acc++((items.drop i).filter fun q=>p q.1 q.2).map fun q=>g q.1 q.2)) ⟨σ0,tm0,n'+1⟩:=by
 intro f
 induction f with
 |zero=>
  intro i acc o o' n hi ha
  have hi:i=items.length:=by lia
  refine⟨n,Nat.le_refl _, ?_⟩
  have l1:(acc.reverse.map some).length=acc.length:=by simp
  have e1:((acc.reverse.map some)++(σ0++(its++tm0))).drop (acc.length+ol)=its++tm0:=by
   rw[<-List.append_assoc];exact z0l _ _ _ (by simp[hol])
  have e0:K.at' i (its++tm0)=some none:=by
   rw[hat,List.getElem?_eq_none (show items.length<=i by lia)];rfl
  unfold z0s
  simp only[e1,e0]
  rw[z0N _ _ _ l1]
  have e2:(acc.reverse.map some).reverse=acc.map some:=by simp
  rw[e2,z0M]
  simp only[Res.ok.injEq,Stt.mk.injEq,and_true,List.drop_eq_nil_of_le (show items.length<=i by lia),List.filter_nil,List.map_nil,List.append_nil,true_and]
  constructor
  ·rw[z0l _ _ _ l1,z0N _ _ _ hol]
  ·have:((acc.reverse.map some)++(σ0++(its++tm0))).drop (acc.length+ol+K.k)=(((acc.reverse.map some)++(σ0++(its++tm0))).drop (acc.length+ol)).drop K.k:=by rw[List.drop_drop]
   rw[this,e1]
   exact z0l _ _ _ hk
 |succ f ih=>
  intro i acc o o' n hi ha
  have hlt:i<items.length:=by lia
  have e1:((acc.reverse.map some)++(σ0++(its++tm0))).drop (acc.length+ol)=its++tm0:=by
   rw[<-List.append_assoc];exact z0l _ _ _ (by simp[hol])
  have e0:K.at' i (its++tm0)=some (some (.tup [items[i].1,items[i].2])):=by
   rw[hat,List.getElem?_eq_getElem hlt];rfl
  obtain⟨n1,hn1,h1⟩:=hmt items[i] (List.getElem_mem hlt) ((acc.reverse.map some)++(σ0++(its++tm0))) n
  rw[List.drop_eq_getElem_cons hlt,List.filter_cons]
  unfold z0s
  simp only[e1,e0,asg,asgL,List.set_cons_zero,List.set_cons_succ,h1]
  cases hp:p items[i].1 items[i].2 with
  |false=>
   obtain⟨n2,hn2,h2⟩:=ih (i+1) acc (some items[i].1) (some items[i].2) n1 (by lia) (by lia)
   exact⟨n2,by lia,h2⟩
  |true=>
   obtain⟨n2,hn2,h2⟩:=hme items[i] (List.getElem_mem hlt) hp ((acc.reverse.map some)++(σ0++(its++tm0))) n1
   obtain⟨n3,hn3,h3⟩:=ih (i+1) (acc++[g items[i].1 items[i].2]) (some items[i].1) (some items[i].2) n2 (by lia) (by simp;lia)
   refine⟨n3,by lia, ?_⟩
   simp only[if_pos (show acc.length<sizeLine by lia),h2]
   simp only[List.length_append,List.length_cons,List.length_nil,Nat.zero_add,List.reverse_append,List.reverse_cons,List.reverse_nil,List.nil_append,List.map_append,List.map_cons,List.map_nil,List.cons_append,List.append_assoc,if_true] at h3⊢
   exact h3
theorem z8U{mi:M ItK}{K:ItK}{mt:M Bool}{me:M D}{p:D->D->Bool}{g:D->D->D}{items:List (D×D)}{its:List (Option D)}{ix:List Nat}{s:Stt}{σ tm:List (Option D)}{n:Nat}(hc:mi s= .ok K ⟨σ,its++tm,n⟩)(hk:its.length=K.k)(hz:items.length<sizeLine)(hat: ∀i rest,K.at' i (its++rest)=some ((items[i]?).map fun q=> .tup [q.1,q.2]))(hlen:K.len (its++tm)=items.length)
 (hmt: ∀q∈items,∀tm n,∃n',n<=n'/\mt ⟨some q.1::some q.2::(ix.map fun i=>(σ[i]?).getD none),tm,n⟩= .ok (p q.1 q.2) ⟨some q.1::some q.2::(ix.map fun i=>(σ[i]?).getD none),tm,n'⟩)
 (hme: ∀q∈items,p q.1 q.2=true->∀tm n,∃n',n<=n'/\me ⟨some q.1::some q.2::(ix.map fun i=>(σ[i]?).getD none),tm,n⟩= .ok (g q.1 q.2) ⟨some q.1::some q.2::(ix.map fun i=>(σ[i]?).getD none),tm,n'⟩):
 ∃n',n<=n'/\z0x mi (.tp [.nm 0, .nm 1]) mt me 2 ix s= .ok (.lst n' ((items.filter fun q=>p q.1 q.2).map fun q=>g q.1 q.2)) ⟨σ,tm,n'+1⟩:=by
 obtain⟨n',h2,h3⟩:=z7W (K:=K) (mt:=mt) (me:=me) (p:=p) (g:=g) (σ0:=σ) (tm0:=tm) hk rfl hz hat hmt hme items.length 0 [] none none n (by simp) (by simp)
 refine⟨n',h2, ?_⟩
 unfold z0x
 simp only[bd,hc,hlen]
 simp only[List.map_nil,List.reverse_nil,List.nil_append,List.length_nil,List.drop_zero] at h3
 exact h3
theorem zaR{i:Nat}{ds es:List D}:zipL i ds es=((ds.zip es)[i]?).map fun q=> .tup [q.1,q.2]:=by
 unfold zipL List.zip
 rw[List.getElem?_zipWith]
 cases ds[i]? <;>cases es[i]? <;>rfl
theorem zd7:kTup.k=1:=rfl
theorem zaS:kLst.k=1:=rfl
theorem zeW:kEns.k=1:=rfl
theorem zeX:kEnm.k=1:=rfl
theorem z9t{ds:List D}{i:Nat}{tm:List (Option D)}:kTup.at' i (some (.tup ds)::tm)=some (if i<ds.length then some (ds.getD i .non) else none):=by
 show some (ds[i]?)=_
 by_cases h:i<ds.length
 ·rw[if_pos h];simp[h]
 ·rw[if_neg h];simp[Nat.le_of_not_lt h]
theorem z7X{l:Nat}{ds:List D}{i:Nat}{tm:List (Option D)}:kLst.at' i (some (.lst l ds)::tm)=some (if i<ds.length then some (ds.getD i .non) else none):=by
 show some (ds[i]?)=_
 by_cases h:i<ds.length
 ·rw[if_pos h];simp[h]
 ·rw[if_neg h];simp[Nat.le_of_not_lt h]
theorem zd8{l:Nat}{ds:List D}{i:Nat}{tm:List (Option D)}:kEns.at' i (some (.lst l ds)::tm)=some (if i<ds.length then some (.tup [.int ((i+1:Nat):Int),ds.getD i .non]) else none):=by
 show some ((ds[i]?).map fun d=>D.tup [.int ((i+1:Nat):Int),d])=_
 by_cases h:i<ds.length
 ·rw[if_pos h];simp[h]
 ·rw[if_neg h];simp[Nat.le_of_not_lt h]
theorem zd9{l:Nat}{ds:List D}{i:Nat}{tm:List (Option D)}:kEnm.at' i (some (.lst l ds)::tm)=some (if i<ds.length then some (.tup [.int (i:Nat),ds.getD i .non]) else none):=by
 show some ((ds[i]?).map fun d=>D.tup [.int (i:Nat),d])=_
 by_cases h:i<ds.length
 ·rw[if_pos h];simp[h]
 ·rw[if_neg h];simp[Nat.le_of_not_lt h]
theorem zda{C:List Pz}{i:Nat}(h:i<C.length):(psD C).getD i .non=C[i].d:=by simp[psD,h]
theorem zaT{cs:List Cm}{i:Nat}(h:i<cs.length):(csD cs).getD i .non=cs[i].d:=by simp[csD,h]
theorem z3t{C:List Pz}:(psD C).length=C.length:=by simp[psD]
theorem z1t{C:List Cm}:(csD C).length=C.length:=by simp[csD]
theorem zdb(L m:Nat)(hL:L≠m)(cs:List Cm)(num:Int)(c:Cm)(hc:c.ok)(kv:List (NK×(Int×Int)))(hkv:kv.length<=4000)(o7 o8 o9 o10 o11 o12:Option D)(x7:Fx o7)(x8:Fx o8)(x9:Fx o9)(x10:Fx o10)(x11:Fx o11)(x12:Fx o12)(n:Nat):
 ∃b p7 p8 p9 p10 p11 p12,Fx p7/\Fx p8/\Fx p9/\Fx p10/\Fx p11/\Fx p12/\forGo kTup (.tp [(.nm 7),(.nm 8),(.nm 9),(.nm 10)]) pbM c.C.length 0 ⟨[some (.lst L (csD cs)),some (.dct m (ksA kv) (vsA pD kv)),some (.int num),some (.tup (iL c.S)),some (.tup (psD c.C)),some (.bool c.b),some (.int 0),o7,o8,o9,o10,o11,o12],[some (.tup (psD c.C)),some (.lst L (csD cs)),some (.lst L (csD cs))],n⟩
  = .nx ⟨[some (.lst L (csD cs)),some (.dct m (ksA ((evC c num).foldl ev1 kv)) (vsA pD ((evC c num).foldl ev1 kv))),some (.int num),some (.tup (iL c.S)),some (.tup (psD c.C)),some (.bool c.b),some (.int b),p7,p8,p9,p10,p11,p12],[some (.lst L (csD cs)),some (.lst L (csD cs))],n⟩:=by
 obtain⟨s',e,p7,p8,p9,p10,p11,p12,y7,y8,y9,y10,y11,y12,rfl⟩:=z1s (K:=kTup) (g:= .tp [(.nm 7),(.nm 8),(.nm 9),(.nm 10)]) (b:=pbM) (item:=fun i=>(psD c.C).getD i .non) (N:=c.C.length) (P:=fun i s=> ∃(p7 p8 p9 p10 p11 p12:Option D),Fx p7/\Fx p8/\Fx p9/\Fx p10/\Fx p11/\Fx p12/\s=⟨[some (.lst L (csD cs)),some (.dct m (ksA (kvI kv c.S c.C num i)) (vsA pD (kvI kv c.S c.C num i))),some (.int num),some (.tup (iL c.S)),some (.tup (psD c.C)),some (.bool c.b),some (.int (bAt 0 c.C i)),p7,p8,p9,p10,p11,p12],[some (.tup (psD c.C)),some (.lst L (csD cs)),some (.lst L (csD cs))],n⟩)
  (by rintro i s ⟨_,_,_,_,_,_,_,_,_,_,_,_,rfl⟩;rw[z9t,z3t])
  (by
   rintro i hi s ⟨p7,p8,p9,p10,p11,p12,y7,y8,y9,y10,y11,y12,rfl⟩
   rw[zda hi]
   refine⟨_,rfl, ?_⟩
   have:=hc.2.1
   obtain⟨q11,q12,z11,z12,e⟩:=zeV L m hL cs num c.S c.C (some (.bool c.b)) Fx.bool (bAt 0 c.C i) c.C[i] (kvI kv c.S c.C num i) (Nat.le_trans z5i (by lia)) p11 p12 y11 y12 n
   refine⟨_,e,some (.int c.C[i].e),some (.tup (iL c.C[i].ss)),some (.int c.C[i].k),some (.int c.C[i].c),q11,q12,Fx.int,Fx.iL,Fx.int,Fx.int,z11,z12, ?_⟩
   rw[zaL hi,show bAt 0 c.C (i+1)=c.C[i].e by simp[bAt,hi]])
  c.C.length 0 ⟨[some (.lst L (csD cs)),some (.dct m (ksA kv) (vsA pD kv)),some (.int num),some (.tup (iL c.S)),some (.tup (psD c.C)),some (.bool c.b),some (.int 0),o7,o8,o9,o10,o11,o12],[some (.tup (psD c.C)),some (.lst L (csD cs)),some (.lst L (csD cs))],n⟩ (by lia) ⟨o7,o8,o9,o10,o11,o12,x7,x8,x9,x10,x11,x12,rfl⟩
 refine⟨bAt 0 c.C c.C.length,p7,p8,p9,p10,p11,p12,y7,y8,y9,y10,y11,y12, ?_⟩
 rw[e,zaM,zd7,z5l]
noncomputable def poM:MS:=(seqS (sAsg (.nm 6) (mC (.int 0))) (sFor (z0K (mVar 4)) (.tp [(.nm 7),(.nm 8),(.nm 9),(.nm 10)]) pbM))
theorem zdc(L m:Nat)(hL:L≠m)(cs:List Cm)(hc: ∀c∈cs,c.ok)(hz:cs.length<=60)(n:Nat):
 ∃o2 o3 o4 o5 o6 o7 o8 o9 o10 o11 o12,forGo kEns (.tp [(.nm 2),(.tp [(.nm 3),(.nm 4),(.nm 5)])]) poM cs.length 0 ⟨[some (.lst L (csD cs)),some (.dct m [] []),none,none,none,none,none,none,none,none,none,none,none],[some (.lst L (csD cs)),some (.lst L (csD cs))],n⟩
  = .nx ⟨[some (.lst L (csD cs)),some (.dct m (ksA (cnt cs)) (vsA pD (cnt cs))),o2,o3,o4,o5,o6,o7,o8,o9,o10,o11,o12],[some (.lst L (csD cs))],n⟩/\Fx o2/\Fx o3/\Fx o4/\Fx o5/\Fx o6/\Fx o7/\Fx o8/\Fx o9/\Fx o10/\Fx o11/\Fx o12:=by
 obtain⟨s',e,o2,o3,o4,o5,o6,p7,p8,p9,p10,p11,p12,y2,y3,y4,y5,y6,y7,y8,y9,y10,y11,y12,rfl⟩:=z1s (K:=kEns) (g:= .tp [(.nm 2),(.tp [(.nm 3),(.nm 4),(.nm 5)])]) (b:=poM) (item:=fun i=> .tup [.int ((i+1:Nat):Int),(csD cs).getD i .non]) (N:=cs.length) (P:=fun i s=> ∃(o2 o3 o4 o5 o6 p7 p8 p9 p10 p11 p12:Option D),Fx o2/\Fx o3/\Fx o4/\Fx o5/\Fx o6/\Fx p7/\Fx p8/\Fx p9/\Fx p10/\Fx p11/\Fx p12/\s=⟨[some (.lst L (csD cs)),some (.dct m (ksA (kvO cs i)) (vsA pD (kvO cs i))),o2,o3,o4,o5,o6,p7,p8,p9,p10,p11,p12],[some (.lst L (csD cs)),some (.lst L (csD cs))],n⟩)
  (by rintro i s ⟨_,_,_,_,_,_,_,_,_,_,_,_,_,_,_,_,_,_,_,_,_,_,rfl⟩;rw[zd8,z1t])
  (by
   rintro i hi s ⟨o2,o3,o4,o5,o6,p7,p8,p9,p10,p11,p12,y2,y3,y4,y5,y6,y7,y8,y9,y10,y11,y12,rfl⟩
   rw[zaT hi]
   refine⟨_,rfl, ?_⟩
   have hl:=z2c (i:=i) hc
   obtain⟨b,q7,q8,q9,q10,q11,q12,z7,z8,z9,z10,z11,z12,e⟩:=zdb L m hL cs ((i+1:Nat):Int) cs[i] (hc _ (List.getElem_mem hi)) (kvO cs i) (by lia) p7 p8 p9 p10 p11 p12 y7 y8 y9 y10 y11 y12 n
   refine⟨_, ?_,some (.int ((i+1:Nat):Int)),some (.tup (iL cs[i].S)),some (.tup (psD cs[i].C)),some (.bool cs[i].b),some (.int b),q7,q8,q9,q10,q11,q12,Fx.int,Fx.iL,Fx.psD,Fx.bool,Fx.int,z7,z8,z9,z10,z11,z12,rfl⟩
   unfold poM
   walk_at ""
   rw[show z0K (mVar 4) ⟨[some (.lst L (csD cs)),some (.dct m (ksA (kvO cs i)) (vsA pD (kvO cs i))),some (.int ((i+1:Nat):Int)),some (.tup (iL cs[i].S)),some (.tup (psD cs[i].C)),some (.bool cs[i].b),some (.int 0),p7,p8,p9,p10,p11,p12],[some (.lst L (csD cs)),some (.lst L (csD cs))],n⟩= .ok kTup ⟨[some (.lst L (csD cs)),some (.dct m (ksA (kvO cs i)) (vsA pD (kvO cs i))),some (.int ((i+1:Nat):Int)),some (.tup (iL cs[i].S)),some (.tup (psD cs[i].C)),some (.bool cs[i].b),some (.int 0),p7,p8,p9,p10,p11,p12],[some (.tup (psD cs[i].C)),some (.lst L (csD cs)),some (.lst L (csD cs))],n⟩ from rfl]
   walk_at ""
   rw[show kTup.len [some (.tup (psD cs[i].C)),some (.lst L (csD cs)),some (.lst L (csD cs))]=cs[i].C.length from z3t,e,zaN hi])
  cs.length 0 ⟨[some (.lst L (csD cs)),some (.dct m [] []),none,none,none,none,none,none,none,none,none,none,none],[some (.lst L (csD cs)),some (.lst L (csD cs))],n⟩ (by lia) ⟨none,none,none,none,none,none,none,none,none,none,none, .no, .no, .no, .no, .no, .no, .no, .no, .no, .no, .no,rfl⟩
 refine⟨o2,o3,o4,o5,o6,p7,p8,p9,p10,p11,p12, ?_,y2,y3,y4,y5,y6,y7,y8,y9,y10,y11,y12⟩
 rw[e,z6u,zeW,z5l]
theorem rows_eq(cs:List Cm):((cnt cs).map fun p=>(dkD p.1,pD p.2)).map (fun q=>match q.1,q.2 with| .tup a, .tup b=>D.tup (a++b)|_,_=> .non)=rows cs:=by
 rw[List.map_map]
 exact List.map_congr_left fun p _=>rfl
noncomputable def cat2(a b:D):D:=match a,b with| .tup a, .tup b=> .tup (a++b)|_,_=> .non
theorem zdd(L:Nat)(cs:List Cm)(hc: ∀c∈cs,c.ok)(hz:cs.length<=60)(n:Nat)(hn:L<n): ∃n',n<=n'/\z18 [.lst L (csD cs)] n= .ok (.lst n' (srtL (rows cs))) [.lst L (csD cs)] (n'+1):=by
 obtain⟨o2,o3,o4,o5,o6,o7,o8,o9,o10,o11,o12,e,y2,y3,y4,y5,y6,y7,y8,y9,y10,y11,y12⟩:=zdc L n (by lia) cs hc hz (n+1)
 have hk:=z7U hc
 have hl:(cnt cs).length<=24*cs.length:=by rw[<-z6u];exact z2c hc
 have lv:labsL (vsA pD (cnt cs))=[]:=by
  generalize cnt cs=kv
  induction kv with
  |nil=>rfl
  |cons p kv ih=>simp only[vsA,List.map_cons,labsL,pD,labs,List.nil_append] at ih⊢;exact ih
 obtain⟨n1,h1,e1⟩:=z8U (mi:=z4y (mVar 1)) (K:=kDit) (mt:=rt true) (me:=mBin (mVar 0) (mVar 1) addD) (p:=fun _ _=>true) (g:=cat2) (items:=(cnt cs).map fun p=>(dkD p.1,pD p.2)) (its:=[some (.fdc (ksA (cnt cs)) (vsA pD (cnt cs)))]) (ix:=[]) (s:=⟨[some (.lst L (csD cs)),some (.dct n (ksA (cnt cs)) (vsA pD (cnt cs))),o2,o3,o4,o5,o6,o7,o8,o9,o10,o11,o12],[some (.lst L (csD cs))],n+1⟩) (σ:=[some (.lst L (csD cs)),some (.fdc (ksA (cnt cs)) (vsA pD (cnt cs))),o2,o3,o4,o5,o6,o7,o8,o9,o10,o11,o12]) (tm:=[some (.lst L (csD cs))]) (n:=n+1) (by
  unfold z4y
  walk_at ""
  rw[if_pos ⟨ks_T,lv⟩]
  have fcs: ∀d,rp (pl n d) (.lst L (csD cs))= .lst L (csD cs):=fun d=>z5m (by lia)
  simp only[fcs,z3s,y2 _,y3 _,y4 _,y5 _,y6 _,y7 _,y8 _,y9 _,y10 _,y11 _,y12 _]) rfl (by rw[zl];simp only[List.length_map];lia) (fun i rest=>by
  show some (zipL i (ksA (cnt cs)) (vsA pD (cnt cs)))=_
  rw[zaR,ksA,vsA,List.zip_map']) (by
  show(ksA (cnt cs)).length=_
  simp[ksA]) (fun q _ tm n=>⟨n,Nat.le_refl _,rfl⟩) (fun q hq _ tm n=>by
  obtain⟨p,hp,rfl⟩:=List.mem_map.mp hq
  obtain⟨s,g,e,g1,g2⟩:=hk.2 p hp
  refine⟨n,Nat.le_refl _, ?_⟩
  walk_at ""
  rw[e,z7Q,pD,z9g (by rw[zl];simp)]
  rfl)
 rw[List.filter_eq_self.mpr fun _ _=>rfl] at e1
 have er:((cnt cs).map fun p=>(dkD p.1,pD p.2)).map (fun q=>cat2 q.1 q.2)=rows cs:=rows_eq cs
 rw[er] at e1
 refine⟨n1+1,by lia, ?_⟩
 unfold z18
 have e0:z29=(seqS (sAsg (.nm 1) z2J) (seqS (sFor (mEns [(mVar 0)]) (.tp [(.nm 2),(.tp [(.nm 3),(.nm 4),(.nm 5)])]) poM) (sRet (mCB [(z0x (z4y (mVar 1)) (.tp [(.nm 0),(.nm 1)]) (rt true) (mBin (mVar 0) (mVar 1) addD) 2 [])] srtT)))):=rfl
 rw[e0]
 have en: ∀σ tm n,mEns [mVar 0] ⟨some (.lst L (csD cs))::σ,tm,n⟩= .ok kEns ⟨some (.lst L (csD cs))::σ,some (.lst L (csD cs))::tm,n⟩:=fun σ tm n=>rfl
 have dn: ∀σ tm n,z2J ⟨σ,tm,n⟩= .ok (.dct n [] []) ⟨σ,tm,n+1⟩:=fun σ tm n=>rfl
 walk_at ""
 rw[dn]
 walk_at ""
 rw[en]
 walk_at ""
 rw[show kEns.len [some (.lst L (csD cs)),some (.lst L (csD cs))]=cs.length from z1t,e]
 walk_at ""
 rw[e1]
 walk_at ""
 rw[z9r hc]
 walk_at ""
noncomputable def prD(c:Cm):List D:=(prt c.S 0 c.C).map dkD
theorem z4K{c:Cm}:(prD c).length=c.C.length:=by simp[prD,z3V]
theorem zde{c:Cm}{i:Nat}(h:i<c.C.length):(prD c).getD i .non=dkD (nk (cutA c.S (some (bAt 0 c.C i)) (some c.C[i].e)) c.C[i].ss):=by
 unfold prD
 rw[List.getD_eq_getElem?_getD,List.getElem?_map,z3X c.S 0 c.C i h]
 rfl
theorem zaU(c:Cm):labsL (prD c)=[]:=by
 unfold prD
 generalize prt c.S 0 c.C=l
 induction l with
 |nil=>rfl
 |cons k l ih=>simp only[List.map_cons,labsL,z2K,List.nil_append] at ih⊢;exact ih
theorem zeY{f:Nat->Option D}(c:Cm):rpL f (prD c)=prD c:=rpL_id _ fun j hj=>by rw[zaU] at hj;cases hj
theorem zaV{c:Cm}{i:Nat}(h:i<c.C.length):(prD c).take (i+1)=(prD c).take i++[dkD (nk (cutA c.S (some (bAt 0 c.C i)) (some c.C[i].e)) c.C[i].ss)]:=by
 rw[List.take_succ,show(prD c)[i]? =some (dkD (nk (cutA c.S (some (bAt 0 c.C i)) (some c.C[i].e)) c.C[i].ss)) by unfold prD;rw[List.getElem?_map,z3X c.S 0 c.C i h];rfl]
 rfl
noncomputable def ptM:MS:=(seqS (z3F (z2G (mVar 1) [(mCB [(mSl (mBin (mVar 0) (mC (.int 0)) ixD) (some (mVar 2)) (some (mVar 3))),(mVar 4)] tupD)] appD)) (sAsg (.nm 2) (mVar 3)))
theorem z9u(c:Cm)(hc:c.ok)(n:Nat):z0v [c.d] n= .ok (.lst n (prD c)) [c.d] (n+1):=by
 have h24:=hc.2.1
 obtain⟨s',e,o3,o4,o5,o6,y3,y4,y5,y6,rfl⟩:=z1s (K:=kTup) (g:= .tp [(.nm 3),(.nm 4),(.nm 5),(.nm 6)]) (b:=ptM) (item:=fun i=>(psD c.C).getD i .non) (N:=c.C.length) (P:=fun i s=> ∃(o3 o4 o5 o6:Option D),Fx o3/\Fx o4/\Fx o5/\Fx o6/\s=⟨[some c.d,some (.lst n ((prD c).take i)),some (.int (bAt 0 c.C i)),o3,o4,o5,o6],[some (.tup (psD c.C)),some c.d],n+1⟩)
  (by rintro i s ⟨_,_,_,_,_,_,_,_,rfl⟩;rw[z9t,z3t])
  (by
   rintro i hi s ⟨o3,o4,o5,o6,y3,y4,y5,y6,rfl⟩
   rw[zda hi]
   refine⟨_,rfl, ?_⟩
   refine⟨_, ?_,some (.int c.C[i].e),some (.tup (iL c.C[i].ss)),some (.int c.C[i].k),some (.int c.C[i].c),Fx.int,Fx.iL,Fx.int,Fx.int,rfl⟩
   rw[zaV hi,show bAt 0 c.C (i+1)=c.C[i].e by simp[bAt,hi]]
   generalize hk:nk (cutA c.S (some (bAt 0 c.C i)) (some c.C[i].e)) c.C[i].ss=k
   have ek:D.tup [.tup (cutA (iL c.S) (some (bAt 0 c.C i)) (some c.C[i].e)), .tup (iL c.C[i].ss)]=dkD k:=by rw[z9n,<-hk,z7Q]
   have e0: ∀s:Stt,ixD c.d (.int 0) s= .ok (.tup (iL c.S)) s:=fun s=>rfl
   unfold ptM
   walk_at ""
   rw[e0]
   walk_at ""
   rw[ek,zaE ⟨by rw[zl];simp only[List.length_take];lia,by rw[z2K];exact List.not_mem_nil⟩]
   walk_at ""
   simp only[z7V,rL_p,rL_i])
  c.C.length 0 ⟨[some c.d,some (.lst n []),some (.int 0),none,none,none,none],[some (.tup (psD c.C)),some c.d],n+1⟩ (by lia) ⟨none,none,none,none, .no, .no, .no, .no,rfl⟩
 rw[zd7,z5l,List.take_of_length_le (by rw[z4K];exact Nat.le_refl _)] at e
 have e0:z2Y=(seqS (sAsg (.nm 1) (mCB [] lstM)) (seqS (sAsg (.nm 2) (mC (.int 0))) (seqS (sFor (z0K (mBin (mVar 0) (mC (.int 1)) ixD)) (.tp [(.nm 3),(.nm 4),(.nm 5),(.nm 6)]) ptM) (sRet (mVar 1))))):=rfl
 have em: ∀σ tm n,z0K (mBin (mVar 0) (mC (.int 1)) ixD) ⟨some c.d::σ,tm,n⟩= .ok kTup ⟨some c.d::σ,some (.tup (psD c.C))::tm,n⟩:=fun σ tm n=>rfl
 unfold z0v
 rw[e0]
 walk_at ""
 rw[em]
 walk_at ""
 rw[show kTup.len [some (.tup (psD c.C)),some c.d]=c.C.length from z3t,e]
 walk_at ""
noncomputable def tiM:MS:=(mTri (mBin (z4A (mVar 1) (mVar 3) (mC (.int 0))) (mC (.int 1)) addD) (mVar 1) (mVar 3) z21)
theorem zdf{m:Nat}{kv:List (NK×Int)}{k:NK}{x:D}{σ tm:List (Option D)}{n i j:Nat}(h1:σ[i]? =some (some (.dct m (ksA kv) (vsA D.int kv))))(h2:σ[j]? =some (some (dkD k))):z4A (mVar i) (mVar j) (mC x) ⟨σ,tm,n⟩= .ok (((aget kv k).map D.int).getD x) ⟨σ,tm,n⟩:=by
 unfold z4A
 simp only[bd,mVar,h1,h2,pshT,if_pos (ks_T (kv:=kv)),psh,Stt.psh,mC,rt,pop,getT,z0I,z4J]
theorem rL_v{f:Nat->Option D}(kv:List (NK×Int)):rpL f (vsA D.int kv)=vsA D.int kv:=by
 induction kv with
 |nil=>rfl
 |cons p kv ih=>simp only[vsA,List.map_cons,z1h,z5Q] at ih⊢;rw[ih]
theorem z9v{l m:Nat}{d:D}{kv:List (NK×Int)}(h:l≠m):rp (pl m d) (.dct l (ksA kv) (vsA D.int kv))= .dct l (ksA kv) (vsA D.int kv):=by
 simp only[rp,pl,if_neg h,rL_v]
theorem z9w{l m:Nat}{d:D}{c:Cm}(h:l≠m):rp (pl m d) (.lst l (prD c))= .lst l (prD c):=by rw[z1T h,zeY]
theorem zdg{kv:List (NK×(Int×Int))}:(m1 kv).length=kv.length:=by simp
theorem zdh{kv:List (NK×(Int×Int))}:(m2 kv).length=kv.length:=by simp
theorem zeZ(L m Lp:Nat)(hL:L≠m)(hp:Lp≠m)(cs:List Cm)(c:Cm)(num:Int)(s g:List Int)(kv:List (NK×(Int×Int)))(hkv:kv.length<=5000)(n:Nat):
 tiM ⟨[some (.lst L (csD cs)),some (.dct m (ksA (m1 kv)) (vsA D.int (m1 kv))),some c.d,some (dkD (nk s g))],[some (.lst Lp (prD c)),some (.lst L (csD cs)),some (.lst L (csD cs))],n⟩
  = .nx ⟨[some (.lst L (csD cs)),some (.dct m (ksA (m1 (ev1 kv (nk s g,num)))) (vsA D.int (m1 (ev1 kv (nk s g,num))))),some c.d,some (dkD (nk s g))],[some (.lst Lp (prD c)),some (.lst L (csD cs)),some (.lst L (csD cs))],n⟩:=by
 have fcs: ∀d,rp (pl m d) (.lst L (csD cs))= .lst L (csD cs):=fun d=>z5m hL
 have fp: ∀d,rp (pl m d) (.lst Lp (prD c))= .lst Lp (prD c):=fun d=>z9w hp
 have fk: ∀f,rp f (dkD (nk s g))=dkD (nk s g):=fun f=>z8T f s g
 have eg:(((aget (m1 kv) (nk s g)).map D.int).getD (.int 0))= .int ((aget (m1 kv) (nk s g)).getD 0):=by cases aget (m1 kv) (nk s g)<;>rfl
 rw[zeR]
 unfold tiM
 walk_at ""
 rw[zdf rfl rfl,eg]
 walk_at ""
 rw[z5n (fun _=>rfl) (by rw[zdg];lia)]
 walk_at ""
 simp only[fcs,fp,fk,z3s,z7V]
theorem zdi(L m Lp:Nat)(hL:L≠m)(hp:Lp≠m)(cs:List Cm)(c:Cm)(hc:c.ok)(num:Int)(kv:List (NK×(Int×Int)))(hkv:kv.length<=4000)(o3:Option D)(x3:Fx o3)(n:Nat):
 ∃p3,Fx p3/\forGo kLst (.nm 3) tiM c.C.length 0 ⟨[some (.lst L (csD cs)),some (.dct m (ksA (m1 kv)) (vsA D.int (m1 kv))),some c.d,o3],[some (.lst Lp (prD c)),some (.lst L (csD cs)),some (.lst L (csD cs))],n⟩
  = .nx ⟨[some (.lst L (csD cs)),some (.dct m (ksA (m1 ((evC c num).foldl ev1 kv))) (vsA D.int (m1 ((evC c num).foldl ev1 kv)))),some c.d,p3],[some (.lst L (csD cs)),some (.lst L (csD cs))],n⟩:=by
 obtain⟨s',e,p3,y3,rfl⟩:=z1s (K:=kLst) (g:= .nm 3) (b:=tiM) (item:=fun i=>(prD c).getD i .non) (N:=c.C.length) (P:=fun i s=> ∃(p3:Option D),Fx p3/\s=⟨[some (.lst L (csD cs)),some (.dct m (ksA (m1 (kvI kv c.S c.C num i))) (vsA D.int (m1 (kvI kv c.S c.C num i)))),some c.d,p3],[some (.lst Lp (prD c)),some (.lst L (csD cs)),some (.lst L (csD cs))],n⟩)
  (by rintro i s ⟨_,_,rfl⟩;rw[z7X,z4K])
  (by
   rintro i hi s ⟨p3,y3,rfl⟩
   rw[zde hi]
   refine⟨_,rfl, ?_⟩
   have:=hc.2.1
   have e:=zeZ L m Lp hL hp cs c num (cutA c.S (some (bAt 0 c.C i)) (some c.C[i].e)) c.C[i].ss (kvI kv c.S c.C num i) (Nat.le_trans z5i (by lia)) n
   exact⟨_,e,_,Fx.dk,by rw[zaL hi]⟩)
  c.C.length 0 ⟨[some (.lst L (csD cs)),some (.dct m (ksA (m1 kv)) (vsA D.int (m1 kv))),some c.d,o3],[some (.lst Lp (prD c)),some (.lst L (csD cs)),some (.lst L (csD cs))],n⟩ (by lia) ⟨o3,x3,rfl⟩
 exact⟨p3,y3,by rw[e,zaM,zaS,z5l]⟩
noncomputable def toM:MS:=(sFor (z0K (z07 z0v [(mVar 2)])) (.nm 3) tiM)
theorem zaW(L:Nat)(cs:List Cm)(hc: ∀c∈cs,c.ok)(hz:cs.length<=60)(n:Nat)(hn:L<n): ∃m n',n<=m/\m<n'/\z1r [.lst L (csD cs)] n= .ok (.dct m (ksA (m1 (cnt cs))) (vsA D.int (m1 (cnt cs)))) [.lst L (csD cs)] n':=by
 obtain⟨s',e,o2,o3,n',y2,y3,hn',rfl⟩:=z1s (K:=kLst) (g:= .nm 2) (b:=toM) (item:=fun i=>(csD cs).getD i .non) (N:=cs.length) (P:=fun i s=> ∃(o2 o3:Option D) (n':Nat),Fx o2/\Fx o3/\n+1<=n'/\s=⟨[some (.lst L (csD cs)),some (.dct n (ksA (m1 (kvO cs i))) (vsA D.int (m1 (kvO cs i)))),o2,o3],[some (.lst L (csD cs)),some (.lst L (csD cs))],n'⟩)
  (by rintro i s ⟨_,_,_,_,_,_,rfl⟩;rw[z7X,z1t])
  (by
   rintro i hi s ⟨o2,o3,n',y2,y3,hn',rfl⟩
   rw[zaT hi]
   refine⟨_,rfl, ?_⟩
   have hl:=z2c (i:=i) hc
   obtain⟨p3,z3,e⟩:=zdi L n n' (by lia) (by lia) cs cs[i] (hc _ (List.getElem_mem hi)) ((i+1:Nat):Int) (kvO cs i) (by lia) o3 y3 (n'+1)
   refine⟨_, ?_,some cs[i].d,p3,n'+1,Fx.cm,z3,by lia,rfl⟩
   have e1:=z9u cs[i] (hc _ (List.getElem_mem hi)) n'
   have e2:z0K (z07 z0v [mVar 2]) ⟨[some (.lst L (csD cs)),some (.dct n (ksA (m1 (kvO cs i))) (vsA D.int (m1 (kvO cs i)))),some cs[i].d,o3],[some (.lst L (csD cs)),some (.lst L (csD cs))],n'⟩= .ok kLst ⟨[some (.lst L (csD cs)),some (.dct n (ksA (m1 (kvO cs i))) (vsA D.int (m1 (kvO cs i)))),some cs[i].d,o3],[some (.lst n' (prD cs[i])),some (.lst L (csD cs)),some (.lst L (csD cs))],n'+1⟩:=z7L (by walk_at "";rw[e1];walk_at "")
   unfold toM
   show sFor (z0K (z07 z0v [mVar 2])) (.nm 3) tiM ⟨[some (.lst L (csD cs)),some (.dct n (ksA (m1 (kvO cs i))) (vsA D.int (m1 (kvO cs i)))),some cs[i].d,o3],[some (.lst L (csD cs)),some (.lst L (csD cs))],n'⟩=_
   walk_at ""
   rw[e2]
   walk_at ""
   rw[show kLst.len [some (.lst n' (prD cs[i])),some (.lst L (csD cs)),some (.lst L (csD cs))]=cs[i].C.length from z4K,e,zaN hi])
  cs.length 0 ⟨[some (.lst L (csD cs)),some (.dct n [] []),none,none],[some (.lst L (csD cs)),some (.lst L (csD cs))],n+1⟩ (by lia) ⟨none,none,n+1, .no, .no,Nat.le_refl _,rfl⟩
 rw[z6u,zaS,z5l] at e
 refine⟨n,n',Nat.le_refl _,by lia, ?_⟩
 have e0:z2Z=(seqS (sAsg (.nm 1) z2J) (seqS (sFor (z0K (mVar 0)) (.nm 2) toM) (sRet (mVar 1)))):=rfl
 have dn: ∀σ tm n,z2J ⟨σ,tm,n⟩= .ok (.dct n [] []) ⟨σ,tm,n+1⟩:=fun σ tm n=>rfl
 have em: ∀σ tm n,z0K (mVar 0) ⟨some (.lst L (csD cs))::σ,tm,n⟩= .ok kLst ⟨some (.lst L (csD cs))::σ,some (.lst L (csD cs))::tm,n⟩:=fun σ tm n=>rfl
 unfold z1r
 rw[e0]
 walk_at ""
 rw[dn]
 walk_at ""
 rw[em]
 walk_at ""
 rw[show kLst.len [some (.lst L (csD cs)),some (.lst L (csD cs))]=cs.length from z1t,e]
 walk_at ""
noncomputable def gR(kv:List (NK×(Int×Int)))(d:D):D:=match tkey d with
 |some k=>(match aget kv k with|some q=>cat2 d (pD q)|none=> .non)
 |none=> .non
theorem zf0{kv:List (NK×(Int×Int))}(h:Kv kv):(ksA (m1 kv)).map (gR kv)=kv.map rowA:=by
 simp only[ksA,m1,List.map_map]
 refine List.map_congr_left fun p hp=> ?_
 simp only[Function.comp,gR,z0I,zaK h.1 p hp]
 rfl
noncomputable def liM:MS:=(mTri (mBin (mVar 3) (mC (.int 1)) addD) (mVar 2) (mVar 5) z21)
theorem zf1(L mt m Lp:Nat)(hL:L≠m)(ht:mt≠m)(hp:Lp≠m)(cs:List Cm)(T:List (NK×Int))(c:Cm)(pl0:Int)(s g:List Int)(kv:List (NK×(Int×Int)))(hkv:kv.length<=5000)(n:Nat):
 liM ⟨[some (.lst L (csD cs)),some (.dct mt (ksA T) (vsA D.int T)),some (.dct m (ksA (m2 kv)) (vsA D.int (m2 kv))),some (.int pl0),some c.d,some (dkD (nk s g))],[some (.lst Lp (prD c)),some (.lst L (csD cs)),some (.lst L (csD cs))],n⟩
  = .nx ⟨[some (.lst L (csD cs)),some (.dct mt (ksA T) (vsA D.int T)),some (.dct m (ksA (m2 (ev1 kv (nk s g,pl0+1)))) (vsA D.int (m2 (ev1 kv (nk s g,pl0+1))))),some (.int pl0),some c.d,some (dkD (nk s g))],[some (.lst Lp (prD c)),some (.lst L (csD cs)),some (.lst L (csD cs))],n⟩:=by
 have fcs: ∀d,rp (pl m d) (.lst L (csD cs))= .lst L (csD cs):=fun d=>z5m hL
 have fp: ∀d,rp (pl m d) (.lst Lp (prD c))= .lst Lp (prD c):=fun d=>z9w hp
 have fT: ∀d,rp (pl m d) (.dct mt (ksA T) (vsA D.int T))= .dct mt (ksA T) (vsA D.int T):=fun d=>z9v ht
 have fk: ∀f,rp f (dkD (nk s g))=dkD (nk s g):=fun f=>z8T f s g
 rw[zeS]
 unfold liM
 walk_at ""
 rw[z5n (fun _=>rfl) (by rw[zdh];lia)]
 walk_at ""
 simp only[fcs,fp,fT,fk,z3s,z7V]
theorem zdj(L mt m Lp:Nat)(hL:L≠m)(ht:mt≠m)(hp:Lp≠m)(cs:List Cm)(T:List (NK×Int))(c:Cm)(hc:c.ok)(pl0:Int)(kv:List (NK×(Int×Int)))(hkv:kv.length<=4000)(o5:Option D)(x5:Fx o5)(n:Nat):
 ∃p5,Fx p5/\forGo kLst (.nm 5) liM c.C.length 0 ⟨[some (.lst L (csD cs)),some (.dct mt (ksA T) (vsA D.int T)),some (.dct m (ksA (m2 kv)) (vsA D.int (m2 kv))),some (.int pl0),some c.d,o5],[some (.lst Lp (prD c)),some (.lst L (csD cs)),some (.lst L (csD cs))],n⟩
  = .nx ⟨[some (.lst L (csD cs)),some (.dct mt (ksA T) (vsA D.int T)),some (.dct m (ksA (m2 ((evC c (pl0+1)).foldl ev1 kv))) (vsA D.int (m2 ((evC c (pl0+1)).foldl ev1 kv)))),some (.int pl0),some c.d,p5],[some (.lst L (csD cs)),some (.lst L (csD cs))],n⟩:=by
 obtain⟨s',e,p3,y3,rfl⟩:=z1s (K:=kLst) (g:= .nm 5) (b:=liM) (item:=fun i=>(prD c).getD i .non) (N:=c.C.length) (P:=fun i s=> ∃(p3:Option D),Fx p3/\s=⟨[some (.lst L (csD cs)),some (.dct mt (ksA T) (vsA D.int T)),some (.dct m (ksA (m2 (kvI kv c.S c.C (pl0+1) i))) (vsA D.int (m2 (kvI kv c.S c.C (pl0+1) i)))),some (.int pl0),some c.d,p3],[some (.lst Lp (prD c)),some (.lst L (csD cs)),some (.lst L (csD cs))],n⟩)
  (by rintro i s ⟨_,_,rfl⟩;rw[z7X,z4K])
  (by
   rintro i hi s ⟨p3,y3,rfl⟩
   rw[zde hi]
   refine⟨_,rfl, ?_⟩
   have:=hc.2.1
   have e:=zf1 L mt m Lp hL ht hp cs T c pl0 (cutA c.S (some (bAt 0 c.C i)) (some c.C[i].e)) c.C[i].ss (kvI kv c.S c.C (pl0+1) i) (Nat.le_trans z5i (by lia)) n
   exact⟨_,e,_,Fx.dk,by rw[zaL hi]⟩)
  c.C.length 0 ⟨[some (.lst L (csD cs)),some (.dct mt (ksA T) (vsA D.int T)),some (.dct m (ksA (m2 kv)) (vsA D.int (m2 kv))),some (.int pl0),some c.d,o5],[some (.lst Lp (prD c)),some (.lst L (csD cs)),some (.lst L (csD cs))],n⟩ (by lia) ⟨o5,x5,rfl⟩
 exact⟨p3,y3,by rw[e,zaM,zaS,z5l]⟩
noncomputable def loM:MS:=(sFor (z0K (z07 z0v [(mVar 4)])) (.nm 5) liM)
theorem zdk(L:Nat)(cs:List Cm)(hc: ∀c∈cs,c.ok)(hz:cs.length<=60)(n:Nat)(hn:L<n): ∃n',n<=n'/\z30 [.lst L (csD cs)] n= .ok (.lst n' (srtL (rows cs))) [.lst L (csD cs)] (n'+1):=by
 obtain⟨mt,n0,h0,h1,e1⟩:=zaW L cs hc hz n hn
 have hk:=z7U hc
 have hl:(cnt cs).length<=24*cs.length:=by rw[<-z6u];exact z2c hc
 generalize hT:m1 (cnt cs)=T at e1
 obtain⟨s',e,o3,o4,o5,n',y3,y4,y5,hn',rfl⟩:=z1s (K:=kEnm) (g:= .tp [.nm 3, .nm 4]) (b:=loM) (item:=fun i=> .tup [.int (i:Nat),(csD cs).getD i .non]) (N:=cs.length) (P:=fun i s=> ∃(o3 o4 o5:Option D) (n':Nat),Fx o3/\Fx o4/\Fx o5/\n0+1<=n'/\s=⟨[some (.lst L (csD cs)),some (.dct mt (ksA T) (vsA D.int T)),some (.dct n0 (ksA (m2 (kvO cs i))) (vsA D.int (m2 (kvO cs i)))),o3,o4,o5],[some (.lst L (csD cs)),some (.lst L (csD cs))],n'⟩)
  (by rintro i s ⟨_,_,_,_,_,_,_,_,rfl⟩;rw[zd9,z1t])
  (by
   rintro i hi s ⟨o3,o4,o5,n',y3,y4,y5,hn',rfl⟩
   rw[zaT hi]
   refine⟨_,rfl, ?_⟩
   have hl:=z2c (i:=i) hc
   obtain⟨p5,z5,e⟩:=zdj L mt n0 n' (by lia) (by lia) (by lia) cs T cs[i] (hc _ (List.getElem_mem hi)) (i:Nat) (kvO cs i) (by lia) o5 y5 (n'+1)
   rw[show((i:Nat):Int)+1=((i+1:Nat):Int) by push_cast;rfl,<-zaN hi] at e
   refine⟨_, ?_,some (.int (i:Nat)),some cs[i].d,p5,n'+1,Fx.int,Fx.cm,z5,by lia,rfl⟩
   have e1:=z9u cs[i] (hc _ (List.getElem_mem hi)) n'
   have e2:z0K (z07 z0v [mVar 4]) ⟨[some (.lst L (csD cs)),some (.dct mt (ksA T) (vsA D.int T)),some (.dct n0 (ksA (m2 (kvO cs i))) (vsA D.int (m2 (kvO cs i)))),some (.int (i:Nat)),some cs[i].d,o5],[some (.lst L (csD cs)),some (.lst L (csD cs))],n'⟩= .ok kLst ⟨[some (.lst L (csD cs)),some (.dct mt (ksA T) (vsA D.int T)),some (.dct n0 (ksA (m2 (kvO cs i))) (vsA D.int (m2 (kvO cs i)))),some (.int (i:Nat)),some cs[i].d,o5],[some (.lst n' (prD cs[i])),some (.lst L (csD cs)),some (.lst L (csD cs))],n'+1⟩:=z7L (by walk_at "";rw[e1];walk_at "")
   unfold loM
   show sFor (z0K (z07 z0v [mVar 4])) (.nm 5) liM ⟨[some (.lst L (csD cs)),some (.dct mt (ksA T) (vsA D.int T)),some (.dct n0 (ksA (m2 (kvO cs i))) (vsA D.int (m2 (kvO cs i)))),some (.int (i:Nat)),some cs[i].d,o5],[some (.lst L (csD cs)),some (.lst L (csD cs))],n'⟩=_
   walk_at ""
   rw[e2]
   walk_at ""
   rw[show kLst.len [some (.lst n' (prD cs[i])),some (.lst L (csD cs)),some (.lst L (csD cs))]=cs[i].C.length from z4K,e])
  cs.length 0 ⟨[some (.lst L (csD cs)),some (.dct mt (ksA T) (vsA D.int T)),some (.dct n0 [] []),none,none,none],[some (.lst L (csD cs)),some (.lst L (csD cs))],n0+1⟩ (by lia) ⟨none,none,none,n0+1, .no, .no, .no,Nat.le_refl _,rfl⟩
 rw[z6u,zeX,z5l] at e
 have lv:labsL (vsA D.int T)=[]:=by
  clear hT e1 e
  induction T with
  |nil=>rfl
  |cons p kv ih=>simp only[vsA,List.map_cons,labsL,labs,List.nil_append] at ih⊢;exact ih
 obtain⟨n1,h2,e2⟩:=z7M (mi:=z4v (mVar 1)) (K:=kDct) (mt:=rt true) (me:=mBin (mVar 0) (mCB [(mBin (mVar 1) (mVar 0) dgtD),(mBin (mVar 2) (mVar 0) dgtD)] tupD) addD) (p:=fun _=>true) (g:=gR (cnt cs)) (items:=ksA T) (its:=[some (.fdc (ksA T) (vsA D.int T))]) (ix:=[1,2]) (s:=⟨[some (.lst L (csD cs)),some (.dct mt (ksA T) (vsA D.int T)),some (.dct n0 (ksA (m2 (cnt cs))) (vsA D.int (m2 (cnt cs)))),o3,o4,o5],[some (.lst L (csD cs))],n'⟩) (σ:=[some (.lst L (csD cs)),some (.fdc (ksA T) (vsA D.int T)),some (.dct n0 (ksA (m2 (cnt cs))) (vsA D.int (m2 (cnt cs)))),o3,o4,o5]) (tm:=[some (.lst L (csD cs))]) (n:=n') (by
  unfold z4v
  walk_at ""
  rw[if_pos ⟨ks_T,lv⟩]
  have fcs: ∀d,rp (pl mt d) (.lst L (csD cs))= .lst L (csD cs):=fun d=>z5m (by lia)
  have fT: ∀d,rp (pl mt d) (.dct n0 (ksA (m2 (cnt cs))) (vsA D.int (m2 (cnt cs))))= .dct n0 (ksA (m2 (cnt cs))) (vsA D.int (m2 (cnt cs))):=fun d=>z9v (by lia)
  simp only[fcs,z3s,fT,y3 _,y4 _,y5 _]) rfl (by rw[zl,<-hT];simp only[ksA,List.length_map];lia) (fun i rest=>rfl) rfl (fun d _ tm n=>⟨n,Nat.le_refl _,rfl⟩) (by
  intro d hd _ tm n
  rw[<-hT] at hd
  obtain⟨p,hp,rfl⟩:=List.mem_map.mp hd
  obtain⟨p,hp',rfl⟩:=List.mem_map.mp hp
  obtain⟨s,g,ek,g1',g2'⟩:=hk.2 p hp'
  have a:=zaK hk.1 p hp'
  have a1:aget T p.1=some p.2.1:=by rw[<-hT,m1,z8R g1,a];rfl
  have a2:aget (m2 (cnt cs)) p.1=some p.2.2:=by rw[m2,z8R g2,a];rfl
  refine⟨n,Nat.le_refl _, ?_⟩
  simp only[List.map_cons,List.map_nil,List.getElem?_cons_zero,List.getElem?_cons_succ,Option.getD_some]
  walk_at ""
  rw[zd6 a1]
  walk_at ""
  rw[z9s a2]
  walk_at ""
  rw[show gR (cnt cs) (dkD p.1)=cat2 (dkD p.1) (pD p.2) by simp only[gR,z0I,a],ek,z7Q,pD,z9g (by rw[zl];simp)]
  rfl)
 rw[List.filter_eq_self.mpr fun _ _=>rfl,<-hT,zf0 hk] at e2
 refine⟨n1+1,by lia, ?_⟩
 have e0:z5d=(seqS (sAsg (.nm 1) (z07 z1r [(mVar 0)])) (seqS (sAsg (.nm 2) z2J) (seqS (sFor (mEnm [(mVar 0)]) (.tp [(.nm 3),(.nm 4)]) loM) (sRet (mCB [(z0x (z4v (mVar 1)) (.nm 0) (rt true) (mBin (mVar 0) (mCB [(mBin (mVar 1) (mVar 0) dgtD),(mBin (mVar 2) (mVar 0) dgtD)] tupD) addD) 1 [1,2])] srtT))))):=rfl
 have dn: ∀σ tm n,z2J ⟨σ,tm,n⟩= .ok (.dct n [] []) ⟨σ,tm,n+1⟩:=fun σ tm n=>rfl
 have em: ∀σ tm n,mEnm [mVar 0] ⟨some (.lst L (csD cs))::σ,tm,n⟩= .ok kEnm ⟨some (.lst L (csD cs))::σ,some (.lst L (csD cs))::tm,n⟩:=fun σ tm n=>rfl
 unfold z30
 rw[e0]
 walk_at ""
 rw[e1]
 walk_at ""
 rw[dn]
 walk_at ""
 rw[em]
 walk_at ""
 rw[show kEnm.len [some (.lst L (csD cs)),some (.lst L (csD cs))]=cs.length from z1t,e]
 walk_at ""
 rw[<-hT,e2]
 walk_at ""
 rw[show(cnt cs).map rowA=rows cs from rfl,z9r hc]
 walk_at ""
theorem z7Y{K:ItK}{tg:Tg}{me:M D}{g:D->D}{sl:D->List (Option D)}{k:Nat}{items:List D}{its fr σ0 tm0:List (Option D)}{ol:Nat}(hk:its.length=K.k)(hol:σ0.length=ol)(hz:items.length<sizeLine)(hat: ∀i rest,K.at' i (its++rest)=some items[i]?)
 (has: ∀d∈items,(sl d).length=k/\∀os:List (Option D),os.length=k->asg tg d (os++fr)=some (sl d++fr))
 (hme: ∀d∈items,∀tm n,∃n',n<=n'/\me ⟨sl d++fr,tm,n⟩= .ok (g d) ⟨sl d++fr,tm,n'⟩):
 ∀(f i:Nat) (acc:List D) (os:List (Option D)) (n:Nat),os.length=k->i+f=items.length->acc.length<=i->∃n',n<=n'/\z0s K tg (rt true) me ol f i acc.length ⟨os++fr,(acc.reverse.map some)++(σ0++(its++tm0)),n⟩= .ok (.lst n' (acc++(items.drop i).map g)) ⟨σ0,tm0,n'+1⟩:=by
 intro f
 induction f with
 |zero=>
  intro i acc os n ho hi ha
  have hi:i=items.length:=by lia
  refine⟨n,Nat.le_refl _, ?_⟩
  have l1:(acc.reverse.map some).length=acc.length:=by simp
  have e1:((acc.reverse.map some)++(σ0++(its++tm0))).drop (acc.length+ol)=its++tm0:=by
   rw[<-List.append_assoc];exact z0l _ _ _ (by simp[hol])
  have e0:K.at' i (its++tm0)=some none:=by
   rw[hat,List.getElem?_eq_none (show items.length<=i by lia)]
  unfold z0s
  simp only[e1,e0]
  rw[z0N _ _ _ l1]
  have e2:(acc.reverse.map some).reverse=acc.map some:=by simp
  rw[e2,z0M]
  simp only[Res.ok.injEq,Stt.mk.injEq,and_true,List.drop_eq_nil_of_le (show items.length<=i by lia),List.map_nil,List.append_nil,true_and]
  constructor
  ·rw[z0l _ _ _ l1,z0N _ _ _ hol]
  ·have:((acc.reverse.map some)++(σ0++(its++tm0))).drop (acc.length+ol+K.k)=(((acc.reverse.map some)++(σ0++(its++tm0))).drop (acc.length+ol)).drop K.k:=by rw[List.drop_drop]
   rw[this,e1]
   exact z0l _ _ _ hk
 |succ f ih=>
  intro i acc os n ho hi ha
  have hlt:i<items.length:=by lia
  have e1:((acc.reverse.map some)++(σ0++(its++tm0))).drop (acc.length+ol)=its++tm0:=by
   rw[<-List.append_assoc];exact z0l _ _ _ (by simp[hol])
  have e0:K.at' i (its++tm0)=some (some items[i]):=by
   rw[hat,List.getElem?_eq_getElem hlt]
  obtain⟨a1,a2⟩:=has items[i] (List.getElem_mem hlt)
  rw[List.drop_eq_getElem_cons hlt]
  obtain⟨n2,hn2,h2⟩:=hme items[i] (List.getElem_mem hlt) ((acc.reverse.map some)++(σ0++(its++tm0))) n
  obtain⟨n3,hn3,h3⟩:=ih (i+1) (acc++[g items[i]]) (sl items[i]) n2 a1 (by lia) (by simp;lia)
  refine⟨n3,by lia, ?_⟩
  unfold z0s
  simp only[e1,e0,a2 os ho,rt]
  simp only[if_pos (show acc.length<sizeLine by lia),h2]
  simp only[List.length_append,List.length_cons,List.length_nil,Nat.zero_add,List.reverse_append,List.reverse_cons,List.reverse_nil,List.nil_append,List.map_append,List.map_cons,List.map_nil,List.cons_append,List.append_assoc] at h3⊢
  exact h3
theorem z8V{mi:M ItK}{K:ItK}{tg:Tg}{me:M D}{g:D->D}{sl:D->List (Option D)}{k:Nat}{items:List D}{its:List (Option D)}{ix:List Nat}{s:Stt}{σ tm:List (Option D)}{n:Nat}(hc:mi s= .ok K ⟨σ,its++tm,n⟩)(hk:its.length=K.k)(hz:items.length<sizeLine)(hat: ∀i rest,K.at' i (its++rest)=some items[i]?)(hlen:K.len (its++tm)=items.length)
 (has: ∀d∈items,(sl d).length=k/\∀os:List (Option D),os.length=k->asg tg d (os++(ix.map fun i=>(σ[i]?).getD none))=some (sl d++(ix.map fun i=>(σ[i]?).getD none)))
 (hme: ∀d∈items,∀tm n,∃n',n<=n'/\me ⟨sl d++(ix.map fun i=>(σ[i]?).getD none),tm,n⟩= .ok (g d) ⟨sl d++(ix.map fun i=>(σ[i]?).getD none),tm,n'⟩):
 ∃n',n<=n'/\z0x mi tg (rt true) me k ix s= .ok (.lst n' (items.map g)) ⟨σ,tm,n'+1⟩:=by
 obtain⟨n',h2,h3⟩:=z7Y (K:=K) (tg:=tg) (me:=me) (g:=g) (sl:=sl) (σ0:=σ) (tm0:=tm) hk rfl hz hat has hme items.length 0 [] (List.replicate k none) n (by simp) (by simp) (by simp)
 refine⟨n',h2, ?_⟩
 unfold z0x
 simp only[bd,hc,hlen]
 simp only[List.map_nil,List.reverse_nil,List.nil_append,List.length_nil,List.drop_zero] at h3
 exact h3
theorem z8W{α:Type}(xs:List α):z1o (xs.map fun _=>D.bool true)=some (xs.map fun _=>true):=by
 induction xs with
 |nil=>rfl
 |cons x xs ih=>simp only[List.map_cons,z1o,ih];rfl
theorem z7Z{α:Type}{l:Nat}{xs:List α}{s:Stt}:allD [.lst l (xs.map fun _=>D.bool true)] s= .ok (.bool true) s:=by
 rw[zeD (z8W xs)]
 congr 2
 simp
theorem zdl{cs:List Cm}(hc: ∀c∈cs,c.ok)(hz:cs.length<=60){l:Nat}:Gd (.lst l (srtL (rows cs)))/\(er (.lst l (srtL (rows cs)))).depth<=60/\labsL (srtL (rows cs))=[]:=by
 have tr: ∀d∈srtL (rows cs),Tr d=true/\(er d).depth<=2:=fun d hd=>by
  obtain⟨s,g,a,b,rfl,h1,h2⟩:=z1J hc (z5j hd)
  exact z9q h1 h2
 have hl:=z5S hc
 have r:=z9l (n:=0) (k:=2) (l:=l) (Nat.zero_le _) (show(srtL (rows cs)).length<=2000 by rw[z5k];lia) fun d hd=>⟨z7O d (tr d hd).1,(tr d hd).2⟩
 exact⟨z8P _ r.1,by have:=r.2;lia,TrL_labs _ (z37.mpr fun d hd=>(tr d hd).1)⟩
theorem z8X{c:Cm}(h:c.ok):Tr c.d=true/\(er c.d).depth<=4:=z4I (by simp) (List.forall_mem_cons.mpr ⟨z8S h.1,List.forall_mem_cons.mpr ⟨z4I (by rw[z3t];have:=h.2.1;lia) (fun e he=>by
 obtain⟨p,hp,rfl⟩:=List.mem_map.mp he
 exact z4I (by simp) (List.forall_mem_cons.mpr ⟨z3r,List.forall_mem_cons.mpr ⟨z8S (Nat.le_trans (h.2.2 p hp) (by decide)),List.forall_mem_cons.mpr ⟨z3r,List.forall_mem_cons.mpr ⟨z3r,fun _ h=>nomatch h⟩⟩⟩⟩)),List.forall_mem_cons.mpr ⟨zaJ,fun _ h=>nomatch h⟩⟩⟩)
theorem z8Y{cs:List Cm}(hc: ∀c∈cs,c.ok)(hz:cs.length<=60){l:Nat}:Gd (.lst l (csD cs))/\(er (.lst l (csD cs))).depth<=60:=by
 have r:=z9l (n:=0) (k:=4) (l:=l) (Nat.zero_le _) (show(csD cs).length<=2000 by rw[z1t];lia) fun d hd=>by
  obtain⟨c,hc',rfl⟩:=List.mem_map.mp hd
  exact⟨z7O _ (z8X (hc c hc')).1,(z8X (hc c hc')).2⟩
 exact⟨z8P _ r.1,by have:=r.2;lia⟩
noncomputable def sl4:D->List (Option D)
 | .tup [a,b,c,d]=>[some a,some b,some c,some d]
 |_=>[]
noncomputable def rtM:MS:=(seqS (sAsg (.nm 4) (z07 z18 [(mVar 2)]))
 (seqS (sIf (mOr (mNot (z2C (mIsi "list" (mVar 4)))) (mOr (mBoo (mBin (mVar 4) (mVar 1) neD)) (mBoo (mBin (mVar 2) (mVar 0) neD)))) (sRet (mC (.bool false))) sNx)
 (seqS (sIf (mNot (z2C (mCB [(z0x (z0K (mVar 4)) (.tp [(.nm 0),(.nm 1),(.nm 2),(.nm 3)]) (rt true) (z4m (z07 z0J [(mVar 2)]) (z07 z0J [(mVar 3)])) 4 [])] allD))) (sRet (mC (.bool false))) sNx)
 (z3F (z2G (mVar 4) [(mCB [(mCB [] tupD),(mCB [] tupD),(mC (.int 1)),(mC (.int 1))] tupD)] appD)))))
theorem zf2(L ld lh n:Nat)(cs:List Cm)(hc: ∀c∈cs,c.ok)(hz:cs.length<=60)(hL:L<n)(hd:ld<n)(hh:lh<n)(t:Int)(o4:Option D):
 ∃p4 n',n<=n'/\rtM ⟨[some (.lst L (csD cs)),some (.lst ld (srtL (rows cs))),some (.lst lh (csD cs)),some (.int t),o4],[some (.lst L (csD cs))],n⟩= .nx ⟨[some (.lst L (csD cs)),some (.lst ld (srtL (rows cs))),some (.lst lh (csD cs)),some (.int t),p4],[some (.lst L (csD cs))],n'⟩:=by
 obtain⟨m,h1,e1⟩:=zdd lh cs hc hz n hh
 have hl:=z5S hc
 have so:=fun l=>zdl (l:=l) hc hz
 have ne1: ∀s:Stt,neD (.lst m (srtL (rows cs))) (.lst ld (srtL (rows cs))) s= .ok (.bool false) s:=fun s=>z7P (so m).1 (so ld).1 rfl (so ld).2.1
 have ne2: ∀s:Stt,neD (.lst lh (csD cs)) (.lst L (csD cs)) s= .ok (.bool false) s:=fun s=>z7P (z8Y hc hz).1 (z8Y hc hz).1 rfl (z8Y (l:=L) hc hz).2
 obtain⟨n2,h2,e2⟩:=z8V (mi:=z0K (mVar 4)) (K:=kLst) (tg:= .tp [(.nm 0),(.nm 1),(.nm 2),(.nm 3)]) (me:=z4m (z07 z0J [(mVar 2)]) (z07 z0J [(mVar 3)])) (g:=fun _=> .bool true) (sl:=sl4) (k:=4) (items:=srtL (rows cs)) (its:=[some (.lst m (srtL (rows cs)))]) (ix:=[]) (s:=⟨[some (.lst L (csD cs)),some (.lst ld (srtL (rows cs))),some (.lst lh (csD cs)),some (.int t),some (.lst m (srtL (rows cs)))],[some (.lst L (csD cs))],m+1⟩) (σ:=[some (.lst L (csD cs)),some (.lst ld (srtL (rows cs))),some (.lst lh (csD cs)),some (.int t),some (.lst m (srtL (rows cs)))]) (tm:=[some (.lst L (csD cs))]) (n:=m+1) rfl rfl (by rw[zl,z5k];lia) (fun i rest=>rfl) rfl (by
  intro d hd
  obtain⟨s,g,a,b,rfl,g1,g2⟩:=z1J hc (z5j hd)
  refine⟨rfl,fun os ho=> ?_⟩
  match os,ho with
  |[a0,a1,a2,a3],_=>rfl) (by
  intro d hd tm n
  obtain⟨s,g,a,b,rfl,g1,g2⟩:=z1J hc (z5j hd)
  refine⟨n,Nat.le_refl _, ?_⟩
  simp only[sl4,rw4,List.map_nil,List.append_nil]
  walk_at ""
  rw[z5R _ _ rfl]
  walk_at ""
  simp only[isInt]
  walk_at ""
  rw[z5R _ _ rfl]
  walk_at ""
  simp only[isInt])
 have fcs: ∀d l,l<n->rp (pl m d) (.lst l (csD cs))= .lst l (csD cs):=fun d l h=>z5m (by lia)
 have fd: ∀d,rp (pl m d) (.lst ld (srtL (rows cs)))= .lst ld (srtL (rows cs)):=fun d=>by rw[z1T (by lia),rpL_id _ fun j hj=>by rw[(so m).2.2] at hj;cases hj]
 refine⟨some (.lst m (srtL (rows cs)++[.tup [.tup [], .tup [], .int 1, .int 1]])),n2+1,by lia, ?_⟩
 unfold rtM
 walk_at ""
 rw[e1]
 walk_at ""
 rw[ne1]
 walk_at ""
 rw[ne2]
 walk_at ""
 rw[e2]
 walk_at ""
 rw[z7Z]
 walk_at ""
 rw[zaE ⟨by rw[zl,z5k];lia,by simp[labs,labsL]⟩]
 walk_at ""
 simp only[fcs _ _ hL,fcs _ _ hh,fd]
theorem zdm(L n:Nat)(cs:List Cm)(hc: ∀c∈cs,c.ok)(hz:cs.length<=60)(hL:L<n): ∃n',n<=n'/\z0X [.lst L (csD cs)] n= .ok (.bool true) [.lst L (csD cs)] n':=by
 obtain⟨m,h1,e1⟩:=zdk L cs hc hz n hL
 obtain⟨s',e2,o3,o4,n2,hn2,rfl⟩:=z3T (P:=fun k s=> ∃(o3 o4:Option D) (n2:Nat),m+1+1<=n2/\s=⟨[some (.lst L (csD cs)),some (.lst m (srtL (rows cs))),some (.lst (m+1) (csD cs)),o3,o4],[some (.lst L (csD cs))],n2⟩) (lo:=0) (N:=2) (g:= .nm 3) (b:=rtM) (by
  rintro k hk s ⟨o3,o4,n2,hn2,rfl⟩
  refine⟨_,rfl, ?_⟩
  obtain⟨p4,n3,h3,e⟩:=zf2 L m (m+1) n2 cs hc hz (by lia) (by lia) (by lia) (0+(k:Int)) o4
  exact⟨_,e,_,p4,n3,by lia,rfl⟩) 2 0 ⟨[some (.lst L (csD cs)),some (.lst m (srtL (rows cs))),some (.lst (m+1) (csD cs)),none,none],[some (.lst L (csD cs))],m+1+1⟩ (by lia) ⟨none,none,m+1+1,Nat.le_refl _,rfl⟩
 refine⟨n2,by lia, ?_⟩
 have e0:z31=(seqS (sAsg (.nm 1) (z07 z30 [(mVar 0)])) (seqS (sAsg (.nm 2) (mCB [(mVar 0)] z6c)) (seqS (sFor (z1F [(mC (.int 2))]) (.nm 3) rtM) (sRet (mC (.bool true)))))):=rfl
 unfold z0X
 rw[e0]
 walk_at ""
 rw[e1]
 walk_at ""
 rw[z4F ⟨by decide,by decide⟩]
 walk_at ""
 rw[show Int.toNat 2=2 from rfl,e2]
 walk_at ""
noncomputable def Ints(ys:List D):Prop:= ∀y∈ys,∃i:Int,y= .int i
theorem z1U: ∀{ys:List D},Ints ys->labsL ys=[]
 |[],_=>rfl
 |y::ys,h=>by
  obtain⟨i,rfl⟩:=h y (by simp)
  simp only[labsL,labs,List.nil_append]
  exact z1U fun z hz=>h z (by simp[hz])
theorem zdn(l:Nat)(c x N:Int)(n:Nat)(h:Bg c x)(hn:l<n)(h0:0<=N)(h1:N<=1000): ∃ys c' x' n',ys.length=N.toNat/\Ints ys/\Bg c' x'/\n<=n'/\z19 [.lst l [.int c, .int x], .int N] n= .ok (.tup ys) [.lst l [.int c', .int x'], .int N] n':=by
 unfold z19 z2a
 walk_at ""
 obtain⟨r,c1,x1,hr0,hr1,b1,e1⟩:=z0y l c x 3 (n+1) h (by decide) (by decide)
 rw[e1,z0q rfl rfl rfl (by walk_at "") (by walk_at "";rw[z1T (by lia)];walk_at "")]
 walk_at ""
 rw[z1T (by lia)]
 walk_at ""
 have hv: ∃v:Int,0<v/\v<1000000/\atI [D.int 2,D.int 3,D.int 40] r=some (.int v):=by
  have:r=0\/r=1\/r=2:=by lia
  rcases this with rfl|rfl|rfl
  ·exact⟨_,by decide,by decide,at0⟩
  ·exact⟨_,by decide,by decide,at1⟩
  ·exact⟨_,by decide,by decide,at2⟩
 obtain⟨v,hv0,hv1,ev⟩:=hv
 rw[ev]
 walk_at ""
 obtain⟨ys,b',n',g1,g2,g3,⟨c3,x3,rfl,h3⟩,g5,g6⟩:=z36 (ms:=[mVar 1]) (me:=z07 z05 [mVar 1,mVar 2]) (N:=N.toNat) (ix:=[0,2]) (s:=⟨[some (.lst l [.int c1, .int x1]),some (.int N),some (.int v)],[some (.lst l [.int c1, .int x1]),some (.int N)],n+1⟩) (l:=l) (n:=n+1) (j:=N) (σ0:=[some (.lst l [.int c1, .int x1]),some (.int N),some (.int v)]) (tm0:=[some (.lst l [.int c1, .int x1]),some (.int N)]) (b:=[.int c1, .int x1]) (Bg:=fun b=> ∃c x,b=[.int c, .int x]/\Bg c x) (Q:=fun _ d=> ∃i:Int,d= .int i) (fun _ _ _ _ h=>h)
  (by walk_at "") rfl ⟨by lia,by lia⟩ (by rw[zl];lia) ⟨c1,x1,rfl,b1⟩ (by lia) (by walk_at "") (by walk_at "") (by simp only[List.map_cons,List.map_nil,List.getElem?_cons_zero,List.getElem?_cons_succ,Option.getD_some];walk_at "") (by
   rintro i hi b tm m ⟨c,x,rfl,hb⟩ hm hf
   obtain⟨r,c',x',hs0,hs1,h',e'⟩:=z0y l c x v m hb hv0 hv1
   refine⟨.int r,[.int c', .int x'],m,⟨c',x',rfl,h'⟩,⟨r,rfl⟩,Nat.le_refl _,by simp[labs], ?_⟩
   simp only[List.map_cons,List.map_nil,List.getElem?_cons_zero,List.getElem?_cons_succ,Option.getD_some]
   walk_at ""
   rw[e',z0q rfl rfl rfl (by walk_at "") hf]
   walk_at "")
 rw[g6]
 walk_at ""
 exact⟨ys,c3,x3,n'+1,g1,g2,h3,by lia,rfl⟩
theorem zdo(l:Nat)(c x:Int)(n:Nat)(h:Bg c x)(hn:l<n): ∃ys c' x' n',ys.length<=4/\Ints ys/\Bg c' x'/\n<=n'/\z0z [.lst l [.int c, .int x]] n= .ok (.tup ys) [.lst l [.int c', .int x']] n':=by
 unfold z0z z15
 walk_at ""
 obtain⟨r,c1,x1,hr0,hr1,b1,e1⟩:=z0y l c x 4 (n+1) h (by decide) (by decide)
 rw[e1,z0q rfl rfl rfl (by walk_at "") (by walk_at "";rw[z1T (by lia)];walk_at "")]
 walk_at ""
 rw[z1T (by lia)]
 walk_at ""
 have hv: ∃v:Int,0<v/\v<1000000/\atI [D.int 2,D.int 3,D.int 1000,D.int 1040] r=some (.int v):=by
  have:r=0\/r=1\/r=2\/r=3:=by lia
  rcases this with rfl|rfl|rfl|rfl
  ·exact⟨_,by decide,by decide,at0⟩
  ·exact⟨_,by decide,by decide,at1⟩
  ·exact⟨_,by decide,by decide,at2⟩
  ·exact⟨_,by decide,by decide,at3⟩
 obtain⟨v,hv0,hv1,ev⟩:=hv
 rw[ev]
 walk_at ""
 obtain⟨r',c2,x2,hs0,hs1,h2,e2⟩:=z0y l c1 x1 4 (n+1) b1 (by decide) (by decide)
 obtain⟨ys,b',n',g1,g2,g3,⟨c3,x3,rfl,h3⟩,g5,g6⟩:=z36 (ms:=[mBin (mC (.int 1)) (z07 z05 [mVar 0,mC (.int 4)]) addD]) (me:=z07 z05 [mVar 1,mVar 2]) (N:=(1+r').toNat) (ix:=[0,1]) (s:=⟨[some (.lst l [.int c1, .int x1]),some (.int v)],[some (.lst l [.int c1, .int x1])],n+1⟩) (l:=l) (n:=n+1) (j:=1+r') (σ0:=[some (.lst l [.int c2, .int x2]),some (.int v)]) (tm0:=[some (.lst l [.int c2, .int x2])]) (b:=[.int c2, .int x2]) (Bg:=fun b=> ∃c x,b=[.int c, .int x]/\Bg c x) (Q:=fun _ d=> ∃i:Int,d= .int i) (fun _ _ _ _ h=>h)
  (by
   walk_at ""
   rw[e2,z0q rfl rfl rfl (by walk_at "") (by walk_at "")]
   walk_at "") rfl ⟨by lia,by lia⟩ (by rw[zl];lia) ⟨c2,x2,rfl,h2⟩ (by lia) (by walk_at "") (by walk_at "") (by simp only[List.map_cons,List.map_nil,List.getElem?_cons_zero,List.getElem?_cons_succ,Option.getD_some];walk_at "") (by
   rintro i hi b tm m ⟨c,x,rfl,hb⟩ hm hf
   obtain⟨r,c',x',hs0,hs1,h',e'⟩:=z0y l c x v m hb hv0 hv1
   refine⟨.int r,[.int c', .int x'],m,⟨c',x',rfl,h'⟩,⟨r,rfl⟩,Nat.le_refl _,by simp[labs], ?_⟩
   simp only[List.map_cons,List.map_nil,List.getElem?_cons_zero,List.getElem?_cons_succ,Option.getD_some]
   walk_at ""
   rw[e',z0q rfl rfl rfl (by walk_at "") hf]
   walk_at "")
 rw[g6]
 walk_at ""
 exact⟨ys,c3,x3,n'+1,by lia,g2,h3,by lia,rfl⟩
theorem z4L{l:Nat}{d:D}{ts:List D}(h:labsL ts=[]):rpL (pl l d) ts=ts:=by
 have e:=z3R (l:=l) (d:=d) (t:= .tup ts) (by simp only[labs,h];exact List.not_mem_nil)
 simp only[z32,D.tup.injEq] at e;exact e
noncomputable def cmtM:MS:=sIf (mBoo (mBin (mVar 5) (mVar 1) ltD)) (seqS (sAsg (.nm 5) (mBin (mBin (mVar 5) (mC (.int 1)) addD) (z07 z05 [(mVar 0),(mCB [(mVar 3),(mBin (mVar 1) (mVar 5) subD)] minD)]) addD))
 (z3F (z2G (mVar 4) [(mCB [(mVar 5),(z07 z0z [(mVar 0)]),(z07 z05 [(mVar 0),(mC (.int 9))]),(z07 z05 [(mVar 0),(mC (.int 100000))])] tupD)] appD))) sNx
theorem zdp(l:Nat)(c x N:Int)(n:Nat)(h:Bg c x)(hn:l<n)(h0:0<N)(h1:N<=24): ∃(q:Cm) (c' x':Int) (n':Nat),q.ok/\Bg c' x'/\n<=n'/\z1a [.lst l [.int c, .int x], .int N] n= .ok q.d [.lst l [.int c', .int x'], .int N] n':=by
 unfold z1a
 have e0:z2b=(seqS (sAsg (.nm 2) (z07 z19 [(mVar 0),(mVar 1)]))
  (seqS (sAsg (.nm 3) (mBin (mCB [(mVar 1),(mC (.int 2))] lstM) (z07 z05 [(mVar 0),(mC (.int 2))]) ixD))
  (seqS (sAsg (.nm 4) (mCB [] lstM))
  (seqS (sAsg (.nm 5) (mC (.int 0)))
  (seqS (sFor (z1F [(mVar 1)]) (.nm 6) cmtM)
  (sRet (mCB [(mVar 2),(mCB [(mVar 4)] tupF),(mBin (z07 z05 [(mVar 0),(mC (.int 2))]) (mC (.int 1)) eqD)] tupD))))))):=rfl
 rw[e0]
 walk_at ""
 obtain⟨ys,c1,x1,n1,ly,iy,b1,g1,e1⟩:=zdn l c x N n h hn (by lia) (by lia)
 rw[e1,z0q rfl rfl rfl (by walk_at "") (by walk_at "")]
 have hy: ∀k d,rpL (pl k d) ys=ys:=fun k d=>z4L (z1U iy)
 walk_at ""
 obtain⟨r,c2,x2,hr0,hr1,b2,e2⟩:=z0y l c1 x1 2 (n1+1) b1 (by decide) (by decide)
 rw[e2,z0q rfl rfl rfl (by walk_at "";simp only[hy]) (by walk_at "";rw[z1T (by lia)];walk_at "")]
 walk_at ""
 rw[z1T (by lia)]
 walk_at ""
 simp only[hy]
 have hv: ∃v:Int,0<v/\v<1000000/\atI [D.int N,D.int 2] r=some (.int v):=by
  have:r=0\/r=1:=by lia
  rcases this with rfl|rfl
  ·exact⟨_,by lia,by lia,at0⟩
  ·exact⟨_,by decide,by decide,at1⟩
 obtain⟨v,hv0,hv1,ev⟩:=hv
 rw[ev]
 walk_at ""
 rw[z4F ⟨by lia,by lia⟩]
 walk_at ""
 obtain⟨s',e3,c3,x3,cs,p,o,n3,rfl,b3,hp0,hp1,lc,tc,hn3,ho⟩:=z3T (P:=fun i s=> ∃(c x:Int) (cs:List Pz) (p:Int) (o:Option D) (n:Nat),s=⟨[some (.lst l [.int c, .int x]),some (.int N),some (.tup ys),some (.int v),some (.lst (n1+1) (psD cs)),some (.int p),o],[some (.lst l [.int c, .int x]),some (.int N)],n⟩/\Bg c x/\0<=p/\p<=N/\cs.length<=i/\(∀p∈cs,p.ss.length<=4)/\n1+1<n/\∀k d,o.map (rp (pl k d))=o) (lo:=0) (N:=N.toNat) (g:= .nm 6) (b:=cmtM) (by
  rintro i hi s ⟨c,x,cs,p,o,n,rfl,hb,hp0,hp1,lc,tc,hn',ho⟩
  have hcs: ∀k d,rpL (pl k d) (psD cs)=psD cs:=fun k d=>rL_p _ cs
  have hlc: ∀d,rp (pl l d) (.lst (n1+1) (psD cs))= .lst (n1+1) (psD cs):=fun d=>by rw[z1T (by lia),hcs]
  have hbg: ∀d c x,rp (pl (n1+1) d) (.lst l [.int c, .int x])= .lst l [.int c, .int x]:=fun d c x=>by rw[z1T (by lia)];walk_at ""
  refine⟨[some (.lst l [.int c, .int x]),some (.int N),some (.tup ys),some (.int v),some (.lst (n1+1) (psD cs)),some (.int p),some (.int i)],by simp only[Int.zero_add];rfl, ?_⟩
  unfold cmtM
  walk_at ""
  by_cases hp:p<N
  ·simp only[hp,decide_true]
   walk_at ""
   obtain⟨r,c1,x1,hr0,hr1,b1,e1⟩:=z0y l c x (if N -p<v then N -p else v) n hb (by split<;>lia) (by split<;>lia)
   rw[e1,z0q rfl rfl rfl (by walk_at "";simp only[hy,hlc]) (by walk_at "")]
   walk_at ""
   simp only[hy,hlc]
   walk_at ""
   simp only[hlc]
   try (walk_at "")
   have hr2:p+1+r<=N:=by split at hr1<;>lia
   obtain⟨zs,c2,x2,n2,lz,iz,b2,g2,e2⟩:=zdo l c1 x1 n b1 (by lia)
   have hz: ∀k d,rpL (pl k d) zs=zs:=fun k d=>z4L (z1U iz)
   rw[e2,z0q rfl rfl rfl (by walk_at "";simp only[hy,hlc]) (by walk_at "";simp only[hy,hlc])]
   walk_at ""
   simp only[hy,hlc]
   obtain⟨k,c3,x3,hk0,hk1,b3,e3⟩:=z0y l c2 x2 9 n2 b2 (by decide) (by decide)
   rw[e3,z0q rfl rfl rfl (by walk_at "";simp only[hy,hlc]) (by walk_at "";simp only[hy,hlc,hz])]
   walk_at ""
   simp only[hy,hlc,hz]
   obtain⟨w,c4,x4,hw0,hw1,b4,e4⟩:=z0y l c3 x3 100000 n2 b3 (by decide) (by decide)
   rw[e4,z0q rfl rfl rfl (by walk_at "";simp only[hy,hlc]) (by walk_at "";simp only[hy,hlc,hz])]
   walk_at ""
   simp only[hy,hlc,hz]
   try (walk_at "")
   obtain⟨zs,rfl⟩:=z5h iz
   rw[zaE ⟨by rw[zl,z3t];lia,by simp only[labs,labsL,z1U iz,List.append_nil];exact List.not_mem_nil⟩]
   walk_at ""
   simp only[hy,hbg,hz]
   refine⟨_,rfl,c4,x4,cs++[⟨p+1+r,zs,k,w⟩],p+1+r,some (.int i),n2,by simp[psD,Pz.d],b4,by lia,hr2,by simp only[List.length_append,List.length_cons,List.length_nil];lia, ?_,by lia,fun _ _=>rfl⟩
   intro q hq
   rcases List.mem_append.mp hq with hq|hq
   ·exact tc q hq
   ·rw[List.mem_singleton.mp hq]
    simpa[iL] using lz
  ·simp only[hp,decide_false]
   walk_at ""
   exact⟨_,rfl,c,x,cs,p,_,n,rfl,hb,hp0,hp1,by lia,tc,hn',fun _ _=>rfl⟩) N.toNat 0 ⟨[some (.lst l [.int c2, .int x2]),some (.int N),some (.tup ys),some (.int v),some (.lst (n1+1) (psD [])),some (.int 0),none],[some (.lst l [.int c2, .int x2]),some (.int N)],n1+1+1⟩ (by lia) ⟨c2,x2,[],0,none,n1+1+1,rfl,b2,by lia,by lia,by simp,(fun _ h=>nomatch h),by lia,fun _ _=>rfl⟩
 rw[show psD []=[] from rfl] at e3
 rw[e3]
 have hcs: ∀k d,rpL (pl k d) (psD cs)=psD cs:=fun k d=>rL_p _ cs
 have hlc: ∀d,rp (pl l d) (.lst (n1+1) (psD cs))= .lst (n1+1) (psD cs):=fun d=>by rw[z1T (by lia),hcs]
 walk_at ""
 obtain⟨w,c4,x4,hw0,hw1,b4,e4⟩:=z0y l c3 x3 2 n3 b3 (by decide) (by decide)
 rw[e4,z0q rfl rfl rfl (by walk_at "";simp only[hy,hlc,ho]) (by walk_at "";simp only[hy,hlc,hcs])]
 walk_at ""
 simp only[hy,hlc,hcs]
 obtain⟨S,rfl⟩:=z5h iy
 have lS:(iL S).length=S.length:=by simp[iL]
 have q1:S.length<=24:=by lia
 have q2:cs.length<=24:=by lia
 exact⟨⟨S,cs,w==1⟩,c4,x4,n3,⟨q1,q2,tc⟩,b4,by lia,rfl⟩
theorem z9x: ∀{ys:List D},(∀y∈ys,∃q:Cm,q.ok/\y=q.d)->∃cs:List Cm,(∀c∈cs,c.ok)/\ys=csD cs
 |[],_=>⟨[],(fun _ h=>nomatch h),rfl⟩
 |y::ys,h=>by
  obtain⟨q,h1,rfl⟩:=h y (by simp)
  obtain⟨cs,h2,rfl⟩:=z9x (ys:=ys) fun z hz=>h z (by simp[hz])
  exact⟨q::cs,fun c hc=>(List.mem_cons.mp hc).elim (fun e=>e▸h1) (h2 c),rfl⟩
theorem zaX(q:Cm)(h:q.ok):labs q.d=[]:=z7N _ (z8X h).1
theorem atI2{a b:Int}{t:Bool}:atI [D.int a,D.int b] (if t=true then 1 else 0)=some (.int (if t=true then b else a)):=by
 cases t
 ·exact at0
 ·exact at1
theorem zaY(l:Nat)(c x:Int)(n:Nat)(h:Bg c x)(hn:l<n): ∃(cs:List Cm) (c' x':Int) (L n':Nat),cs.length<=60/\(∀q∈cs,q.ok)/\Bg c' x'/\n<=L/\L<n'/\z0W [.lst l [.int c, .int x]] n= .ok (.lst L (csD cs)) [.lst l [.int c', .int x']] n':=by
 unfold z0W z1I
 walk_at ""
 obtain⟨r,c1,x1,r0,r1,b1,e1⟩:=z0y l c x 7 n h (by decide) (by decide)
 rw[e1,z0D rfl rfl rfl (fun q=>by walk_at "";rfl) (fun q=>by walk_at "";rfl)]
 walk_at ""
 obtain⟨r2,c2,x2,s0,s1,b2,e2⟩:=z0y l c1 x1 8 (n+1) b1 (by decide) (by decide)
 have fl: ∀d (u w:Int),rp (pl l d) (.lst n [.int u, .int w])= .lst n [.int u, .int w]:=fun d u w=>by rw[z1T (by lia)];rfl
 rw[e2,z0D rfl rfl rfl (fun q=>by walk_at "";rfl) (fun q=>by walk_at "";simp only[fl];rfl)]
 walk_at ""
 rw[atI2]
 walk_at ""
 generalize hN:(if(r2==5)=true then(60:Int) else r)=N
 have N0:0<=N/\N<=60:=by split at hN<;>lia
 obtain⟨ys,b',n',g1,g2,g3,⟨c3,x3,rfl,h3⟩,g5,g6⟩:=z36 (ms:=[mVar 1]) (me:=z07 z1a [(mVar 1),(mBin (mCB [(mBin (mC (.int 1)) (z07 z05 [(mVar 1),(mC (.int 7))]) addD),(mC (.int 24))] lstM) (mCB [(mBin (z07 z05 [(mVar 1),(mC (.int 8))]) (mC (.int 5)) eqD)] intD) ixD)]) (N:=N.toNat) (ix:=[0]) (s:=⟨[some (.lst l [.int c2, .int x2]),some (.int N)],[some (.lst l [.int c2, .int x2])],n+1⟩) (l:=l) (n:=n+1) (j:=N) (σ0:=[some (.lst l [.int c2, .int x2]),some (.int N)]) (tm0:=[some (.lst l [.int c2, .int x2])]) (b:=[.int c2, .int x2]) (Bg:=fun b=> ∃c x,b=[.int c, .int x]/\Bg c x) (Q:=fun _ d=> ∃q:Cm,q.ok/\d=q.d) (fun _ _ _ _ h=>h)
  (by walk_at "") rfl ⟨by lia,by lia⟩ (by rw[zl];lia) ⟨c2,x2,rfl,b2⟩ (by lia) (by walk_at "") (by walk_at "") (by simp only[List.map_cons,List.map_nil,List.getElem?_cons_zero,List.getElem?_cons_succ,Option.getD_some];walk_at "") (by
   rintro i hi b tm m ⟨c,x,rfl,hb⟩ hm hf
   obtain⟨r,c1,x1,r0,r1,b1,e1⟩:=z0y l c x 7 m hb (by decide) (by decide)
   obtain⟨r2,c2,x2,s0,s1,b2,e2⟩:=z0y l c1 x1 8 (m+1) b1 (by decide) (by decide)
   generalize hV:(if(r2==5)=true then(24:Int) else 1+r)=V
   have V0:0<V/\V<=24:=by split at hV<;>lia
   obtain⟨q,c4,x4,n4,qo,b4,h4,e4⟩:=zdp l c2 x2 V (m+1) b2 (by lia) V0.1 V0.2
   refine⟨q.d,[.int c4, .int x4],n4,⟨c4,x4,rfl,b4⟩,⟨q,qo,rfl⟩,by lia,by rw[zaX q qo];exact List.not_mem_nil, ?_⟩
   simp only[List.map_cons,List.map_nil,List.getElem?_cons_zero,List.getElem?_cons_succ,Option.getD_some]
   have fm: ∀d (u w:Int),rp (pl l d) (.lst m [.int u, .int w])= .lst m [.int u, .int w]:=fun d u w=>by rw[z1T (by lia)];rfl
   walk_at ""
   rw[e1,z0D (σ1:=fun q=>[some (.int (i:Int)),some q]) (tm1:=fun q=>some (.int 1)::some q::rpO (pl l q) tm) rfl rfl rfl (fun q=>by walk_at "") (fun q=>by walk_at "") rfl (by rw[hf])]
   walk_at ""
   rw[e2,z0D (σ1:=fun q=>[some (.int (i:Int)),some q]) (tm1:=fun q=>some (.lst m [.int (1+r), .int 24])::some q::rpO (pl l q) tm) rfl rfl rfl (fun q=>by walk_at "") (fun q=>by walk_at "";simp only[fm];rw[z33]) rfl rfl]
   walk_at ""
   rw[atI2]
   walk_at ""
   rw[hV,e4,z0D (σ1:=fun q=>[some (.int (i:Int)),some q]) (tm1:=fun q=>rpO (pl l q) tm) rfl rfl rfl (fun q=>by walk_at "") (fun q=>by rw[z33]) rfl rfl])
 rw[g6]
 walk_at ""
 obtain⟨cs,h4,rfl⟩:=z9x g2
 exact⟨cs,c3,x3,n',n'+1,by rw[z1t] at g1;lia,h4,h3,by lia,by lia,rfl⟩
theorem z3Z{cs:List Cm}{lo hi:Option Int}:cutA (csD cs) lo hi=csD (cutA cs lo hi):=by
 unfold cutA csD
 simp
theorem z2n{cs:List Cm}{lo hi:Option Int}{c:Cm}(h:c∈cutA cs lo hi):c∈cs:=List.mem_of_mem_drop (List.mem_of_mem_take h)
theorem zaZ{ws:List Cm}{l:Nat}:cutA ws none (some (l:Int))=ws.take l:=by
 unfold cutA
 rw[HT.sIx_nat,HT.sIx_none,List.drop_zero,Nat.sub_zero]
 rcases Nat.le_total l ws.length with h|h
 ·rw[Nat.min_eq_left h]
 ·rw[Nat.min_eq_right h,List.take_of_length_le h,List.take_of_length_le (Nat.le_refl _)]
theorem zf3{l n:Nat}{ds:List D}{σ tm:List (Option D)}:rvsD (.lst l ds) ⟨σ,tm,n⟩= .ok (.lst n ds.reverse) ⟨σ,tm,n+1⟩:=(rfl)
theorem zf4(ns:List Int): ∀k d,rp (pl k d) (.ro (ns.map .int))= .ro (ns.map .int):=fun k d=>z3R (by
 simp only[labs];intro h;obtain⟨e,he,hk⟩:=labsL_mem h;obtain⟨j,_,rfl⟩:=List.mem_map.mp he;simp[labs] at hk)
theorem UpO.of{k:Nat}{d:D}(h:Up k d):UpO k (some d):=fun x hx=>by cases hx;exact h
theorem zb0{cs:List Cm}(hc: ∀c∈cs,c.ok):labsL (csD cs)=[]:=TrL_labs _ (z37.mpr fun d hd=>by
 obtain⟨c,h,rfl⟩:=List.mem_map.mp hd
 exact(z8X (hc c h)).1)
theorem zb1{cs:List Cm}(hc: ∀c∈cs,c.ok){l k:Nat}(h:l<k):Up k (.lst l (csD cs)):=fun j hj=>by
 simp only[labs,zb0 hc,List.mem_cons,List.not_mem_nil,or_false] at hj;lia
theorem zdq{l m:Nat}{cs:List Cm}(hc: ∀c∈cs,c.ok)(hz:cs.length<=60){s:Stt}:neD (.lst l (csD cs)) (.lst m []) s= .ok (.bool (!cs.isEmpty)) s:=by
 rw[y_ne (by
  have g:=z8Y (l:=l) hc hz
  have g0:(er (.lst m [])).canLay0=true/\Mi.plain (.lst m [])=true:=⟨rfl,rfl⟩
  simp only[eqC,g.1.1,g.1.2,g0.1,g0.2,Bool.and_true,Bool.true_and,decide_eq_true_eq]
  have:=Nat.min_le_left (er (.lst l (csD cs))).depth (er (.lst m [])).depth
  lia)]
 congr 2
 cases cs with
 |nil=>rfl
 |cons c cs=>rfl
noncomputable def alM:MS:=(sIf (mNot (z2C (mCB [(z0x (z0K (mCB [(mVar 4),(mSl (mVar 4) none (some (bd (mC (.int 1)) negD))),(bd (mVar 4) rvsD),(mSl (mVar 4) none (some (mC (.int 1))))] lstM)) (.nm 0) (rt true) (z07 z0X [(mVar 0)]) 1 [])] allD))) (sRet (mC (.bool false))) sNx)
theorem zb2(a0 a1 a2 a3:Option D)(tm:List (Option D))(L n:Nat)(cs:List Cm)(hc: ∀c∈cs,c.ok)(hz:cs.length<=60)(hL:L<n): ∃n',n<=n'/\alM ⟨[a0,a1,a2,a3,some (.lst L (csD cs))],tm,n⟩= .nx ⟨[a0,a1,a2,a3,some (.lst L (csD cs))],tm,n'⟩:=by
 have r1:(csD cs).reverse=csD cs.reverse:=(List.map_reverse).symm
 obtain⟨ys,n',l1,h2,h3,e⟩:=zaI (mi:=z0K (mCB [(mVar 4),(mSl (mVar 4) none (some (bd (mC (.int 1)) negD))),(bd (mVar 4) rvsD),(mSl (mVar 4) none (some (mC (.int 1))))] lstM)) (K:=kLst) (me:=z07 z0X [(mVar 0)]) (Q:=fun _ y=>y= .bool true) (fun _ _ _ _ h=>h) (items:=[.lst L (csD cs), .lst n (csD (cutA cs none (some (-1)))), .lst (n+1) (csD cs.reverse), .lst (n+1+1) (csD (cutA cs none (some 1)))]) (its:=[some (.lst (n+1+1+1) [.lst L (csD cs), .lst n (csD (cutA cs none (some (-1)))), .lst (n+1) (csD cs.reverse), .lst (n+1+1) (csD (cutA cs none (some 1)))])]) (ix:=[]) (s:=⟨[a0,a1,a2,a3,some (.lst L (csD cs))],tm,n⟩) (σ:=[a0,a1,a2,a3,some (.lst L (csD cs))]) (tm:=tm) (n:=n+1+1+1+1) (z7L (by
  walk_at ""
  rw[zf3]
  walk_at ""
  rw[z3Z,r1,z3Z]
  rfl)) rfl (by rw[zl];simp) (fun i rest=>rfl) rfl (by
  have go: ∀(l:Nat) (ds:List Cm),l<n+1+1+1->(∀c∈ds,c∈cs)->ds.length<=60->∀tm m,n+1+1+1+1<=m->∃y n',m<=n'/\y=D.bool true/\z07 z0X [(mVar 0)] ⟨[some (.lst l (csD ds))],tm,m⟩= .ok y ⟨[some (.lst l (csD ds))],tm,n'⟩:=fun l ds hl hd hz tm m hm=>by
   obtain⟨n',g1,g2⟩:=zdm l m ds (fun c h=>hc c (hd c h)) hz (by lia)
   refine⟨_,n',g1,rfl, ?_⟩
   walk_at ""
   rw[g2]
   walk_at ""
  intro d hd
  simp only[List.mem_cons,List.not_mem_nil,or_false] at hd
  rcases hd with rfl|rfl|rfl|rfl
  ·exact go L cs (by lia) (fun _ h=>h) hz
  ·exact go _ _ (by lia) (fun _ h=>z2n h) (Nat.le_trans z2m hz)
  ·exact go _ _ (by lia) (fun _ h=>List.mem_reverse.mp h) (by simpa using hz)
  ·exact go _ _ (by lia) (fun _ h=>z2n h) (Nat.le_trans z2m hz))
 have ey:ys=ys.map fun _=>D.bool true:=(List.map_id ys).symm.trans (List.map_congr_left fun y hy=>h2 y hy)
 refine⟨n'+1,by lia, ?_⟩
 unfold alM
 walk_at ""
 rw[e]
 walk_at ""
 rw[ey,z7Z]
 walk_at ""
noncomputable def turnM:MS:=(seqS (sAsg (.nm 2) (z07 z2V [(mVar 0),(mVar 1)]))
 (seqS (sAsg (.nm 3) (z07 z05 [(mVar 2),(mC (.int 2))]))
 (seqS (sAsg (.nm 4) (z07 z0W [(mVar 2)]))
 (seqS (sIf (mAnd (mBoo (mBin (mVar 3) (mC (.int 1)) eqD)) (mBoo (mBin (mVar 4) (mCB [] lstM) neD))) (sAsg (.nm 4) (mSl (mBin (mSl (mVar 4) (some (z07 z05 [(mVar 2),(mCB [(mVar 4)] lenD)])) none) (mVar 4) addD) none (some (mC (.int 60))))) sNx)
 alM))))
theorem zb3(ns:List Int)(hl:ns.length<1000)(i:Nat)(hi:i<4)(n:Nat)(o2 o3 o4:Option D)(u2:UpO n o2)(u3:UpO n o3)(u4:UpO n o4):
 ∃n' p2 p3 p4,turnM ⟨[some (.ro (ns.map .int)),some (.int i),o2,o3,o4],[some (.ro (ns.map .int))],n⟩= .nx ⟨[some (.ro (ns.map .int)),some (.int i),p2,p3,p4],[some (.ro (ns.map .int))],n'⟩/\UpO n' p2/\UpO n' p3/\UpO n' p4:=by
 have s3:=u3.fix
 have s4:=u4.fix
 have sr:=zf4 ns
 obtain⟨c,x,b0,e0⟩:=zd1 ns i n (by lia) hl
 obtain⟨r,c1,x1,r0,r1,b1,e1⟩:=z0y n c x 2 (n+1) b0 (by decide) (by decide)
 obtain⟨cs,c2,x2,L,n2,hz,hc,b2,g1,g2,e2⟩:=zaY n c1 x1 (n+1) b1 (by lia)
 have fcs: ∀d,rp (pl n d) (.lst L (csD cs))= .lst L (csD cs):=fun d=>z5m (by lia)
 have bu: ∀(k:Nat) (u w:Int),n<k->UpO k (some (.lst n [.int u, .int w])):=fun k u w h=>UpO.of fun j hj=>by simp only[labs,labsL,List.append_nil,List.mem_cons,List.not_mem_nil,or_false] at hj;lia
 have iu: ∀(k:Nat) (u:Int),UpO k (some (.int u)):=fun k u=>UpO.of fun j hj=>by simp only[labs] at hj;cases hj
 unfold turnM
 walk_at ""
 rw[e0]
 walk_at ""
 rw[e1,z0D rfl rfl rfl (fun q=>by walk_at "";simp only[sr,s3,s4];rfl) (fun q=>by walk_at "";simp only[sr];rfl)]
 walk_at ""
 rw[e2,z0D rfl rfl rfl (fun q=>by walk_at "";simp only[sr,s3,s4];rfl) (fun q=>by walk_at "";simp only[sr];rfl)]
 walk_at ""
 have plain: ∃n' p2 p3 p4,alM ⟨[some (.ro (ns.map .int)),some (.int i),some (.lst n [.int c2, .int x2]),some (.int r),some (.lst L (csD cs))],[some (.ro (ns.map .int))],n2+1⟩= .nx ⟨[some (.ro (ns.map .int)),some (.int i),p2,p3,p4],[some (.ro (ns.map .int))],n'⟩/\UpO n' p2/\UpO n' p3/\UpO n' p4:=by
  obtain⟨n',h1,h2⟩:=zb2 (some (.ro (ns.map .int))) (some (.int i)) (some (.lst n [.int c2, .int x2])) (some (.int r)) [some (.ro (ns.map .int))] L (n2+1) cs hc hz (by lia)
  exact⟨n',_,_,_,h2,bu _ _ _ (by lia),iu _ _,UpO.of (zb1 hc (by lia))⟩
 have plain': ∃n' p2 p3 p4,alM ⟨[some (.ro (ns.map .int)),some (.int i),some (.lst n [.int c2, .int x2]),some (.int r),some (.lst L (csD cs))],[some (.ro (ns.map .int))],n2⟩= .nx ⟨[some (.ro (ns.map .int)),some (.int i),p2,p3,p4],[some (.ro (ns.map .int))],n'⟩/\UpO n' p2/\UpO n' p3/\UpO n' p4:=by
  obtain⟨n',h1,h2⟩:=zb2 (some (.ro (ns.map .int))) (some (.int i)) (some (.lst n [.int c2, .int x2])) (some (.int r)) [some (.ro (ns.map .int))] L n2 cs hc hz (by lia)
  exact⟨n',_,_,_,h2,bu _ _ _ (by lia),iu _ _,UpO.of (zb1 hc (by lia))⟩
 by_cases hr:r=1
 ·subst hr
  walk_at ""
  rw[zdq hc hz]
  cases hcs:cs with
  |nil=>
   rw[hcs] at plain
   simp only[List.isEmpty_nil]
   walk_at ""
   exact plain
  |cons q cs0=>
   rw[<-hcs]
   have he:cs.isEmpty=false:=by rw[hcs];rfl
   have hp:0<cs.length:=by rw[hcs];simp
   simp only[he]
   walk_at ""
   obtain⟨w,c3,x3,w0,w1,b3,e3⟩:=z0y n c2 x2 cs.length (n2+1) b2 (by lia) (by lia)
   rw[show((csD cs).length:Int)=cs.length by rw[z1t],e3,z0D rfl rfl rfl (fun q=>by walk_at "";simp only[sr,fcs];rfl) (fun q=>by walk_at "";simp only[sr,fcs];rfl)]
   walk_at ""
   rw[z3Z,zcO (by rw[zl,z1t,z1t];have:=z2m (ds:=cs) (lo:=some w) (hi:=none);lia)]
   walk_at ""
   rw[show csD (cutA cs (some w) none)++csD cs=csD (cutA cs (some w) none++cs) by simp[csD],z3Z]
   generalize hq:cutA (cutA cs (some w) none++cs) none (some 60)=q
   have q1: ∀z∈q,z.ok:=fun z h=>by
    rw[<-hq] at h
    rcases List.mem_append.mp (z2n h) with h|h
    ·exact hc z (z2n h)
    ·exact hc z h
   have q2:q.length<=60:=by
    rw[<-hq,show(some (60:Int))=some ((60:Nat):Int) from rfl,zaZ,List.length_take];lia
   obtain⟨n',h1,h2⟩:=zb2 (some (.ro (ns.map .int))) (some (.int i)) (some (.lst n [.int c3, .int x3])) (some (.int 1)) [some (.ro (ns.map .int))] (n2+1+1+1) (n2+1+1+1+1) q q1 q2 (by lia)
   exact⟨n',_,_,_,h2,bu _ _ _ (by lia),iu _ _,UpO.of (zb1 q1 (by lia))⟩
 ·have hr':(r==1)=false:=by simpa using hr
  rw[hr']
  walk_at ""
  exact plain'
theorem zdr(ns:List Int)(hl:ns.length<1000)(n:Nat): ∃n',f_law [.ro (ns.map .int)] n= .ok (.bool true) [.ro (ns.map .int)] n':=by
 unfold f_law
 have e0:zaw=seqS (sFor (z1F [mCB [mC (.int 1),mCB [mC (.int 3),mCB [mVar 0] lenD] minD] maxD]) (.nm 1) turnM) (sRet (mC (.bool true))):=rfl
 rw[e0]
 walk_at ""
 have w0:((ns.map D.int).length:Int)=ns.length:=by simp
 rw[w0]
 generalize hk:(if(if(ns.length:Int)<3 then(ns.length:Int) else 3)>1 then(if(ns.length:Int)<3 then(ns.length:Int) else 3) else(1:Int))=k
 have hk0:0<=k/\k<=3:=by split at hk<;>(try split at hk)<;>lia
 rw[z4F ⟨by lia,by lia⟩]
 walk_at ""
 obtain⟨s',e2,o1,o2,o3,o4,m,rfl,u2,u3,u4⟩:=z3T (P:=fun i s=> ∃(o1 o2 o3 o4:Option D) (n:Nat),s=⟨[some (.ro (ns.map .int)),o1,o2,o3,o4],[some (.ro (ns.map .int))],n⟩/\UpO n o2/\UpO n o3/\UpO n o4) (lo:=0) (N:=k.toNat) (g:= .nm 1) (b:=turnM) (by
  rintro i hi s ⟨o1,o2,o3,o4,n,rfl,u2,u3,u4⟩
  refine⟨[some (.ro (ns.map .int)),some (.int i),o2,o3,o4],by simp only[Int.zero_add];rfl, ?_⟩
  obtain⟨n',p2,p3,p4,e,v2,v3,v4⟩:=zb3 ns hl i (by lia) n o2 o3 o4 u2 u3 u4
  exact⟨_,e,_,p2,p3,p4,n',rfl,v2,v3,v4⟩) k.toNat 0 ⟨[some (.ro (ns.map .int)),none,none,none,none],[some (.ro (ns.map .int))],n⟩ (by lia) ⟨none,none,none,none,n,rfl,nofun,nofun,nofun⟩
 rw[e2]
 walk_at ""
 exact⟨m,rfl⟩
end My
set_option maxHeartbeats 4000000
namespace Mi
open PySem L2 PySem.Spec PyProof.Rows
noncomputable def z80(K:W.Frag)(np:Nat)(f:FM):Sp:=fun vs H Q E=>vs.length=np/\∀G:Gx,G.K=K->KD K H->spM G np f vs H Q E
theorem zds{P:Program}{w:World}{K:W.Frag}{mg:Str->Option Value}{base:Heap}{CX:CXT}{k:Nat}{fa:Addr}{fd:FuncData}{x:Str}{f:FM}{G:Gx}(hG:G.K=K)(F:FnOk P w K mg base CX k fa fd [x] (spM G 1 f)):FnOk P w K mg base CX k fa fd [x] (z80 K 1 f):=
 ⟨fun _ _ _ _ h=>h.1,fun A outer s H args us vs Q E hr e0 hb hv h=>F.run A outer s H args us vs Q E hr e0 hb hv (h.2 G hG fun a o e=>(e0.bs a o (e0.mod.kin a o e)).2)⟩
theorem RDs.ints{G:Gx}{ρ:Nat->Addr}{H:Hp}: ∀ns:List Int,RDs G ρ H (ns.map D.int) (ns.map V.int)
 |[]=>by simp only[List.map_nil,RDs]
 |n::ns=>by
  simp only[List.map_cons,RDs]
  exact⟨_,_,rfl,by simp only[RD],RDs.ints ns⟩
theorem z4M: ∀ns:List Int,labsL (ns.map D.int)=[]
 |[]=>by simp only[List.map_nil,labsL]
 |n::ns=>by simp only[List.map_cons,labsL,labs,z4M ns,List.nil_append]
theorem zdt{K:W.Frag}{H:Hp}{a:Addr}{ns:List Int}{f:FM}{E:XK}(e: ∀n,∃n',f [.ro (ns.map D.int)] n= .ok (.bool true) [.ro (ns.map D.int)] n')(hO:Only H)(hS:SqL K H a (ns.map V.int)):z80 K 1 f [.ref a] H (fun v _=>v= .bl true) E:=by
 refine⟨rfl,fun G hG kd=> ?_⟩
 subst hG
 refine⟨rfl,fun _=>a,0,[.ro (ns.map D.int)], ?_,fun i j hi=>absurd hi (Nat.not_lt_zero _),fun l hl=>absurd hl (Nat.not_lt_zero _),fun l hl=> ?_,kd, ?_⟩
 ·simp only[RDs,RD]
  refine⟨_,_,rfl,⟨a,ns.map V.int,rfl, ?_,RDs.ints ns⟩,rfl⟩
  rcases hS with(h|h)|h
  ·rcases hO a with z|⟨o,xs,z⟩<;>rw[h] at z<;>cases z
  ·exact .inl h
  ·exact .inr h
 ·simp only[labsL,labs,z4M,List.append_nil] at hl
  cases hl
 ·obtain⟨n',e⟩:=e 0
  rw[e]
  intro ρ' v H' _ rd _
  simp only[RD] at rd
  exact rd
end Mi
namespace My
open PySem L2 Mi
structure DA(K:W.Frag)(x:Str)(st:Stmt)(f:Addr)(d:FuncData):Prop where
 a:W.nsIn K mainGlobals x=some (some (.ref f))
 F:Fun K x x st f d
theorem zf5{K:W.Frag}{x:Str}{st:Stmt}{f:Addr}{oc:Value}{od an:Option Addr}{sl:Array (Option Value)}{kV dc pm cd ct:Value}(a:W.nsIn K mainGlobals x=some (some (.ref f)))
 (l:K.lookup f=some ⟨oc,od, .func (W.fnOf x x (z1D st) (z0S st) (z03 st) .none kV dc pm an cd ct),sl⟩) (c:W.codeIn K cd x=true) (k:W.keepIn K (.ref f)=true):
 DA K x st f (W.fnOf x x (z1D st) (z0S st) (z03 st) .none kV dc pm an cd ct):=⟨a,zbG l c k⟩
noncomputable def dx{K:W.Frag}{h:Heap}{mg:Str->Option Value}{x:Str}{st:Stmt}{f:Addr}{d:FuncData}{ps:List Str}(X:K.In h)(G:h.Ns mainGlobals mg)(a:DA K x st f d)
 (b: ∀(kV dc pm:Value) (an:Option Addr) (cd ct:Value) (us:List Value),us.length=ps.length->bindArgs (W.fnOf x x (z1D st) (z0S st) (z03 st) .none kV dc pm an cd ct) ⟨us,[]⟩=pure (ps.zip us)):Dx K mg x st ps:=
 ⟨f,d,a.F,a.F.binds b,W.mg_of X G a.a⟩
theorem zdu{l:W.OpenLaw}{w:World}{K:W.Frag}{h:Heap}{mg:Str->Option Value}{fa f0 f1 f2 f3 f4 f5 f6 f7 f8 f9 f10 f11 f12 f13 f14:Addr}{d0 d1 d2 d3 d4 d5 d6 d7 d8 d9 d10 d11 d12 d13 d14:FuncData}(X:K.In h)(G:h.Ns mainGlobals mg)(hfa:mg "law" =some (.ref fa))
 (a0:DA K "learnt" z22 f0 d0)
 (a1:DA K "_law_bag" z54 f1 d1)
 (a2:DA K "_law_take" z3L f2 d2)
 (a3:DA K "_law_whole" z2M f3 d3)
 (a4:DA K "_law_from" z3M f4 d4)
 (a5:DA K "_law_is_row" z23 f5 d5)
 (a6:DA K "_law_sounds" z24 f6 d6)
 (a7:DA K "_law_some_signs" z13 f7 d7)
 (a8:DA K "_law_commit" z25 f8 d8)
 (a9:DA K "_law_commits" z1G f9 d9)
 (a10:DA K "_law_parts" z2N f10 d10)
 (a11:DA K "_law_times" z2O f11 d11)
 (a12:DA K "_law_due" z55 f12 d12)
 (a13:DA K "_law_right" z2P f13 d13)
 (a14:DA K "law" zar f14 d14)
 (z0:W.nsIn K mainGlobals "abs" =some none)
 (z1:W.nsIn K mainGlobals "all" =some none)
 (z2:W.nsIn K mainGlobals "bool" =some none)
 (z3:W.nsIn K mainGlobals "enumerate" =some none)
 (z4:W.nsIn K mainGlobals "int" =some none)
 (z5:W.nsIn K mainGlobals "isinstance" =some none)
 (z6:W.nsIn K mainGlobals "len" =some none)
 (z7:W.nsIn K mainGlobals "list" =some none)
 (z8:W.nsIn K mainGlobals "max" =some none)
 (z9:W.nsIn K mainGlobals "min" =some none)
 (z10:W.nsIn K mainGlobals "range" =some none)
 (z11:W.nsIn K mainGlobals "sorted" =some none)
 (z12:W.nsIn K mainGlobals "tuple" =some none)
 : ∃fd:FuncData,(∀(s:Shared) (v:Value),BindsTo s fd ⟨[v],[]⟩ [("_law_script",v)])/\∀base:Heap,K.In base->base.Ns mainGlobals mg->FnOk l.prog w K mg base CX0 5 fa fd ["_law_script"] (z80 K 1 f_law):=by
 have e:=hfa.symm.trans (W.mg_of X G a14.a)
 cases e
 obtain⟨oc,od,kV,doc,pm,an,cdv,ct,osl,rfl,lk,hcd⟩:=a14.F.ex
 exact⟨_,fun s v=> .of_eq rfl,fun base _ _=>zds rfl (zcF ⟨dx X G a0 fun _ _ _ _ _ _ us hl=>match us,hl with|[_],_=>rfl,dx X G a1 fun _ _ _ _ _ _ us hl=>match us,hl with|[_,_],_=>rfl,dx X G a2 fun _ _ _ _ _ _ us hl=>match us,hl with|[_,_],_=>rfl,dx X G a3 fun _ _ _ _ _ _ us hl=>match us,hl with|[_],_=>rfl,dx X G a4 fun _ _ _ _ _ _ us hl=>match us,hl with|[_,_,_],_=>rfl,dx X G a5 fun _ _ _ _ _ _ us hl=>match us,hl with|[_,_,_,_],_=>rfl,dx X G a6 fun _ _ _ _ _ _ us hl=>match us,hl with|[_,_],_=>rfl,dx X G a7 fun _ _ _ _ _ _ us hl=>match us,hl with|[_],_=>rfl,dx X G a8 fun _ _ _ _ _ _ us hl=>match us,hl with|[_,_],_=>rfl,dx X G a9 fun _ _ _ _ _ _ us hl=>match us,hl with|[_],_=>rfl,dx X G a10 fun _ _ _ _ _ _ us hl=>match us,hl with|[_],_=>rfl,dx X G a11 fun _ _ _ _ _ _ us hl=>match us,hl with|[_],_=>rfl,dx X G a12 fun _ _ _ _ _ _ us hl=>match us,hl with|[_],_=>rfl,dx X G a13 fun _ _ _ _ _ _ us hl=>match us,hl with|[_],_=>rfl,dx X G a14 fun _ _ _ _ _ _ us hl=>match us,hl with|[_],_=>rfl,W.mg_none_of X G z0,W.mg_none_of X G z1,W.mg_none_of X G z2,W.mg_none_of X G z3,W.mg_none_of X G z4,W.mg_none_of X G z5,W.mg_none_of X G z6,W.mg_none_of X G z7,W.mg_none_of X G z8,W.mg_none_of X G z9,W.mg_none_of X G z10,W.mg_none_of X G z11,W.mg_none_of X G z12⟩)⟩
theorem walk{l:W.OpenLaw}{q:Program}{loose:List Str}{XP:(Str->Option Value)->Heap->Prop}{YP:World->Heap->Prop}{d:DefRec}{K:Params->W.Frag}(hn:l.most=some 63)(hdf:d.params.defaults=[])
 (hY: ∀(w:World) (h:Heap),YP w h->(K w.params).In h)
 (F: ∀(w:World) (mg:Str->Option Value) (fa:Addr) (h:Heap),(K w.params).In h->h.Ns mainGlobals mg->mg d.name=some (.ref fa)->
  ∃fd:FuncData,(∀(s:Shared) (u:Value),BindsTo s fd ⟨[u],[]⟩ [("_law_script",u)])/\∀base:Heap,(K w.params).In base->base.Ns mainGlobals mg->FnOk l.prog w (K w.params) mg base CX0 5 fa fd ["_law_script"] (z80 (K w.params) 1 f_law)):
 W.WalkO q loose XP YP l.row.toRowW d [] (fun f vs=>PySem.call f vs):=
 L2.z9W (n:=63) (k:=5) (x:= "_law_script") (CX:=fun _=>CX0) (sp:=fun w=>z80 (K w.params) 1 f_law) hn (by decide) hdf ⟨rfl,by decide,by decide,rfl⟩ hY F (fun _ _ a ns hl hO hS=>zdt (fun n=>zdr ns (by lia) n) hO hS) fun _ _ _ _ _ h=>h.elim
end My
inductive PySem.W.Fast:Prop|tw1068694248475362947|tw16865722333718333875|tw2940419164973636953|tw11336933681465590610|tw4135549290019847473|tw13615868102069689842|tw7211987454049796841|tw14152308242076823045|tw16392357343884688222|tw9716366035855956029|tw11830288048513988587|tw7909139718592317906|tw1223198378464416730|tw1445432264893833034|tw12228885180145958791|tw5913975868173512251|tw17454098791848093996|tw10363096318965249368|tw11133145221962381845|tw7762006808780465634|tw15326233184861261316|tw14247149433944476895|tw16718783238179489670|tw1627333917509546148|tw10139285313005037371|tw11338844370969228079|tw3605063902876568691|tw12983357037575245084|tw2257047673020807701|tw10495736360182247879|tw7472778066213470482|tw7905521559154437275|tw10266142806029369947|tw5563338830407702026|tw8246621622710065655|tw12917353425015578748
open PySem PySem.W PyProof.Rows
set_option maxRecDepth 100000 in
set_option maxHeartbeats 0 in
theorem PySem.Challenge.cw_signbench_k33_what_is_learnt_holds : PySem.Challenge.rw_signbench_k33_what_is_learnt.Holds := by
 w_on;o_law;k_head;(case hw=>w_witness2)
 k_fill
 refine My.walk (l:=PySem.Challenge.rw_signbench_k33_what_is_learnt) rfl rfl (fun w h Y=>PySem.W.kIn_of Y) ?F
 case F=>
  intro w mg fa h KX G hmg
  apply My.zdu KX G hmg<;>first|(apply My.zf5<;>k_is)|k_is|kernel_rfl|rfl|decide
