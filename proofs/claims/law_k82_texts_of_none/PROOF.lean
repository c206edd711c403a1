import PyProof.Rows.All
import Wide.All
import OpenK.AllK
import Wide.FinOn
import Lean
import PyProof.EqAt
import PyProof.EqKinds
import PyProof.TupleCall
import PyProof.CallStr
import PyProof.DictTruth
import PyProof.Draws
import PyProof.EnumMake
import PyProof.ListRange
import PyProof.MeetsStr
import PyProof.P3Eq
import PyProof.Rows.CallKw2
import PyProof.Rows.CountFlat
import PyProof.Rows.FStr
import PyProof.Rows.Range3
import PyProof.Rows.StrJoin2
import PyProof.Rows.StrNews
import PyProof.Rows.ZipGen
import PyProof.StrBlockI
import PyProof.StrCalls
import PyProof.StrCalls5
import PyProof.StrOps2
import PyProof.StrWalks
import PyProof.SumAny
import PyProof.ZipIter
import PySem.Challenge.RW_signbench_k82_texts_of_none
set_option Elab.async false
set_option linter.all false
set_option maxRecDepth 100000
namespace L2
open PySem PySem.Spec PyProof.Rows
noncomputable abbrev Key:=Sum Int Str
noncomputable def z8m:Key->Value->Bool
 | .inl k,v=>Value.isInt k v
 | .inr x,v=>Value.isStrOf x v
noncomputable def keyH(w:World):Key->Int
 | .inl k=>hashInt k
 | .inr x=>hashStr w x
theorem z0o: ∀{k:Key} {v:Value},z8m k v=true->(∃i t,k=Sum.inl i/\v=Value.int i t)\/(∃x t,k=Sum.inr x/\v=Value.str x t)
 | .inl i,v,h=>by
  obtain⟨t,e⟩:=Value.isInt_shape (k:=i) (v:=v) h
  exact .inl ⟨i,t,rfl,e⟩
 | .inr x,v,h=>by
  obtain⟨t,e⟩:=Value.isStrOf_shape (x:=x) (v:=v) h
  exact .inr ⟨x,t,rfl,e⟩
theorem z8M(i:Int)(t:Tok):z8m (.inl i) (.int i t)=true:=by simp[z8m,Value.isInt]
theorem z8N(x:Str)(t:Tok):z8m (.inr x) (.str x t)=true:=by simp[z8m,Value.isStrOf]
theorem zep(a b:Int):decide ((Sum.inl a:Key)=Sum.inl b)=(a==b):=by
 by_cases e:a=b
 ·subst e;simp
 ·have h: ¬(Sum.inl a:Key)=Sum.inl b:=fun q=>e (Sum.inl.inj q)
  rw[decide_eq_false h]
  exact(beq_eq_false_iff_ne.mpr e).symm
theorem zeq(a b:Str):decide ((Sum.inr a:Key)=Sum.inr b)=decide (a=b):=by
 by_cases e:a=b
 ·subst e;simp
 ·have h: ¬(Sum.inr a:Key)=Sum.inr b:=fun q=>e (Sum.inr.inj q)
  rw[decide_eq_false h,decide_eq_false e]
theorem zer(a:Int)(b:Str):decide ((Sum.inl a:Key)=Sum.inr b)=false:=decide_eq_false (fun q=>nomatch q)
theorem zes(a:Str)(b:Int):decide ((Sum.inr a:Key)=Sum.inl b)=false:=decide_eq_false (fun q=>nomatch q)
noncomputable def z0j(prog:Program)(w:World):PySem.KeyKind prog w Key where
 is:=z8m
 hash:=keyH w
 inj:=fun v a b ha hb=>by
  rcases z0o ha with⟨i,t,rfl,rfl⟩|⟨x,t,rfl,rfl⟩
  ·rcases z0o hb with⟨j,u,rfl,e⟩|⟨y,u,rfl,e⟩
   ·injection e with e1 _;rw[e1]
   ·exact nomatch e
  ·rcases z0o hb with⟨j,u,rfl,e⟩|⟨y,u,rfl,e⟩
   ·exact nomatch e
   ·injection e with e1 _;rw[e1]
 byValue:=fun k v h=>by
  rcases z0o h with⟨i,t,rfl,rfl⟩|⟨x,t,rfl,rfl⟩<;>rfl
 pyHash:=fun hv h=>by
  rcases z0o hv with⟨i,t,rfl,rfl⟩|⟨x,t,rfl,rfl⟩
  ·exact wpAny_pyHash_int h
  ·exact wpAny_pyHash_str h
 eqBool:=fun hu hv h=>by
  rcases z0o hu with⟨i,t,rfl,rfl⟩|⟨x,t,rfl,rfl⟩
  ·rcases z0o hv with⟨j,u,rfl,rfl⟩|⟨y,u,rfl,rfl⟩
   ·rw[zep] at h;exact wpAny_eqBool_int h
   ·rw[zer] at h;exact SeqAt.EqAt.int_str i t y u _ _ _ _ h
  ·rcases z0o hv with⟨j,u,rfl,rfl⟩|⟨y,u,rfl,rfl⟩
   ·rw[zes] at h;exact SeqAt.EqAt.str_int x t j u _ _ _ _ h
   ·rw[zeq] at h;exact wpAny_eqBool_str h
 «strs» :=fun k x t v h=>by
  rcases z0o h with⟨i,u,rfl,e⟩|⟨y,u,rfl,e⟩
  ·exact nomatch e
  ·injection e with e1 _
   subst e1
   cases v<;>rfl
theorem z7a(prog:Program)(w:World)(i:Int)(t:Tok):(z0j prog w).is (.inl i) (.int i t)=true:=z8M i t
theorem z7b(prog:Program)(w:World)(x:Str)(t:Tok):(z0j prog w).is (.inr x) (.str x t)=true:=z8N x t
inductive V where
 |non|bl (b:Bool)|int (i:Int)|str (x:Str)|byt (b:Array UInt8)|flt (b:UInt64)|ref (a:Addr)|ty (n:String)
 deriving DecidableEq
noncomputable def RelV:V->Value->Prop
 | .non,u=>u=Value.none
 | .bl b,u=>u=Value.bool b
 | .int i,u=> ∃t,u=Value.int i t
 | .str x,u=> ∃t,u=Value.str x t
 | .byt b,u=> ∃t,u=Value.bytes b t
 | .flt b,u=> ∃t,u=Value.float b t
 | .ref a,u=>u=Value.ref a
 | .ty n,u=>u=Value.type n
noncomputable abbrev Vals:List V->List Value->Prop:=Paired RelV
theorem Vals.length{xs:List V}{us:List Value}(r:Vals xs us):xs.length=us.length:=Paired.length r
theorem Vals.get: ∀{xs:List V} {us:List Value} {i:Nat} {x:V},Vals xs us->xs[i]? =some x->∃u,us[i]? =some u/\RelV x u
 |_,_,_,_, .nil,e=>by simp at e
 |_,_,0,_, .cons r _,e=>by simp at e;subst e;exact⟨_,rfl,r⟩
 |_,_,i+1,x, .cons _ t,e=>by
  obtain⟨u,h1,h2⟩:=Vals.get (i:=i) (x:=x) t (by simpa using e)
  exact⟨u,by simpa using h1,h2⟩
theorem Vals.set{x:V}{u:Value}(r:RelV x u): ∀{xs:List V} {us:List Value} (i:Nat),Vals xs us->Vals (xs.set i x) (us.set i u)
 |_,_,_, .nil=> .nil
 |_,_,0, .cons _ t=> .cons r t
 |_,_,i+1, .cons q t=> .cons q (Vals.set r i t)
theorem Vals.append: ∀{xs ys:List V} {us ws:List Value},Vals xs us->Vals ys ws->Vals (xs++ys) (us++ws)
 |_,_,_,_, .nil,s=>s
 |_,_,_,_, .cons r t,s=> .cons r (Vals.append t s)
theorem Vals.take: ∀{xs:List V} {us:List Value} (n:Nat),Vals xs us->Vals (xs.take n) (us.take n)
 |_,_,0,_=> .nil
 |_,_,_+1, .nil=> .nil
 |_,_,n+1, .cons r t=> .cons r (Vals.take n t)
theorem Vals.drop: ∀{xs:List V} {us:List Value} (n:Nat),Vals xs us->Vals (xs.drop n) (us.drop n)
 |_,_,0,r=>r
 |_,_,_+1, .nil=> .nil
 |_,_,n+1, .cons _ t=>Vals.drop n t
noncomputable def RelO:Option V->Option Value->Prop
 |some v,some u=>RelV v u
 |none,none=>True
 |_,_=>False
noncomputable def KV{κ:Type}:List (κ×V)->List (κ×Value)->Prop:=Paired fun(p:κ×V) (q:κ×Value)=>p.1=q.1/\RelV p.2 q.2
noncomputable def kV:Key->V
 | .inl i=> .int i
 | .inr x=> .str x
theorem Paired.mapP{α β:Type}{F G:α->β->Prop}: ∀{l₁:List α} {l₂:List β},Paired F l₁ l₂->(∀a b,F a b->G a b)->Paired G l₁ l₂
 |_,_, .nil,_=> .nil
 |_,_, .cons r t,f=> .cons (f _ _ r) (Paired.mapP t f)
noncomputable abbrev NK:=List (Key⊕List Key)
section
variable(P:Program)(w:World)
noncomputable def ItN(h:Heap):Key⊕List Key->Value->Prop
 | .inl k,v=>(z0j P w).is k v=true
 | .inr ks,v=> ∃c,v= .ref c/\IsTupleKey (z0j P w) h ks c
noncomputable def IsN(h:Heap)(k:NK)(a:Addr):Prop:= ∃o items n,h.get? a=some o/\o.cls= .type "tuple" /\o.data= .seq items n/\Paired (ItN P w h) k items.toList
noncomputable def hsN:Key⊕List Key->Int
 | .inl k=>(z0j P w).hash k
 | .inr ks=>tupleKeyHash (z0j P w) ks
noncomputable def drN:Key⊕List Key->Nat
 | .inl _=>1
 | .inr ks=>ks.length+1
end
section
variable{P:Program}{w:World}{h:Heap}
theorem zcJ{x y:Key⊕List Key}{v:Value}(hx:ItN P w h x v)(hy:ItN P w h y v):x=y:=by
 cases x with
 |inl k=>
  cases y with
  |inl k'=>rw[(z0j P w).inj v k k' hx hy]
  |inr ks=>obtain⟨c,rfl,_⟩:=hy;have:=(z0j P w).byValue _ _ hx;simp[carriedByValue] at this
 |inr ks=>
  obtain⟨c,rfl,hc⟩:=hx
  cases y with
  |inl k'=>have:=(z0j P w).byValue _ _ hy;simp[carriedByValue] at this
  |inr ks'=>obtain⟨c',e,hc'⟩:=hy;cases e;rw[hc.inj hc']
theorem z5y: ∀{x y:NK} {vs:List Value},Paired (ItN P w h) x vs->Paired (ItN P w h) y vs->x=y
 |_,_,_, .nil, .nil=>rfl
 |_,_,_, .cons a b, .cons c d=>by rw[zcJ a c,z5y b d]
variable{A:Around}{E:Value->Shared->Prop}{s:Shared}
theorem z6r{M:Model}{a:Addr}{o:Obj}{items:Array Value}{n m:Nat}{Q:Bool->Shared->Prop}(ho:s.heap.get? a=some o)(hc:o.cls= .type "tuple")(hd:o.data= .seq items n)(hi: ∀v∈items.toList,∀(R:Bool->Shared->Prop) E,R true s->wpAny M A (eqIsQuiet m v) R E s)(q:Q true s):wpAny M A (eqIsQuiet (m+1) (.ref a)) Q E s:=by
 have hT:s.TypeIs (.ref a) "tuple" :=⟨o,ho,hc⟩
 rw[eqIsQuiet]
 refine wpAny_bind (wpAny_specialOf hT PySem.F.slot_tuple_eq.lookup ?_)
 dsimp only
 refine wpAny_bind (wpAny_isInstance hT isSubtype_tuple_tuple ?_)
 rw[if_neg (by decide)]
 refine wpAny_bind (wpAny_seqItems ho hd ?_)
 refine wpAny_bind ?_
 dsimp only[Option.getD_some]
 rw[<-Array.forIn_toList]
 refine wpAny_forIn_list _ (fun r b s'=>b.1=none/\s'=s/\∀v∈r,v∈items.toList) _ ?_ ?_ _ _ ⟨rfl,rfl,fun v hv=>hv⟩
 ·rintro v r b s' ⟨_,rfl,hm⟩
  refine wpAny_bind (hi v (hm v List.mem_cons_self) _ _ ?_)
  rw[if_neg (by decide)]
  exact wpAny_pure ⟨rfl,rfl,fun u hu=>hm u (List.mem_cons_of_mem _ hu)⟩
 ·rintro ⟨b1,b2⟩ s' ⟨hb,rfl,_⟩
  dsimp only at hb
  subst hb
  exact wpAny_pure q
theorem z6s{P':Program}{w':World}: ∀{ks:List Key} {vs:List Value},ItemsAre (z0j P w) ks vs->ItemsAre (z0j P' w') ks vs
 |_,_, .nil=> .nil
 |_,_, .cons a b=> .cons a (z6s b)
theorem z8O{P':Program}{w':World}{ks:List Key}{c:Addr}(hk:IsTupleKey (z0j P w) h ks c):IsTupleKey (z0j P' w') h ks c:=by
 obtain⟨o,items,n,h1,h2,h3,h4⟩:=hk
 exact⟨o,items,n,h1,h2,h3,z6s h4⟩
theorem zet{x y:Key⊕List Key}{u v:Value}(hu:A.units<cLine)(hx:ItN P w s.heap x u)(hy:ItN P w s.heap y v):SeqAt.EqAt A s u v (decide (x=y)):=fun prog w' E Q q=>by
 cases x with
 |inl k=>
  cases y with
  |inl k'=>exact(z0j prog w').eqBool (a:=k) (b:=k') hx hy (by rw[show decide (k=k')=decide ((Sum.inl k:Key⊕List Key)=Sum.inl k') by by_cases e:k=k'<;>simp[e]];exact q)
  |inr ks=>
   obtain⟨c,rfl,o,items,n,h1,h2,h3,_⟩:=hy
   rw[decide_eq_false (fun e=>nomatch e)] at q
   rcases z0o hx with⟨i,t,rfl,rfl⟩|⟨z,t,rfl,rfl⟩
   ·exact SeqAt.EqAt.int_tuple i t ⟨o,h1,h2,n,h3⟩ hu prog w' E Q q
   ·exact SeqAt.EqAt.str_tuple z t ⟨o,h1,h2,n,h3⟩ hu prog w' E Q q
 |inr ks=>
  obtain⟨c,rfl,hc⟩:=hx
  cases y with
  |inl k'=>
   obtain⟨o,items,n,h1,h2,h3,_⟩:=hc
   rw[decide_eq_false (fun e=>nomatch e)] at q
   rcases z0o hy with⟨i,t,rfl,rfl⟩|⟨z,t,rfl,rfl⟩
   ·exact SeqAt.EqAt.tuple_int i t ⟨o,h1,h2,n,h3⟩ hu prog w' E Q q
   ·exact SeqAt.EqAt.tuple_str z t ⟨o,h1,h2,n,h3⟩ hu prog w' E Q q
  |inr ks'=>
   obtain⟨c',rfl,hc'⟩:=hy
   refine wpAny_eqBool_tuple (knd:=z0j prog w') hu (z8O hc) (z8O hc') ?_
   rw[show decide (ks=ks')=decide ((Sum.inr ks:Key⊕List Key)=Sum.inr ks') by by_cases e:ks=ks'<;>simp[e]];exact q
theorem zcK{α:Type}[DecidableEq α](x y:List α):((List.range (min x.length y.length)).all (fun j=>decide (x[j]? =y[j]?))&&x.length==y.length)=decide (x=y):=by
 rw[Bool.eq_iff_iff]
 simp only[Bool.and_eq_true,List.all_eq_true,List.mem_range,decide_eq_true_eq,beq_iff_eq]
 constructor
 ·rintro ⟨h1,h2⟩
  apply List.ext_getElem?
  intro j
  by_cases hj:j<x.length
  ·exact h1 j (by lia)
  ·rw[List.getElem?_eq_none (by lia),List.getElem?_eq_none (by lia)]
 ·rintro rfl;exact⟨fun _ _=>rfl,rfl⟩
theorem Paired.get2{α β:Type}{F:α->β->Prop}: ∀{l:List α} {m:List β},Paired F l m->∀j (h1:j<l.length) (h2:j<m.length),F l[j] m[j]
 |_,_, .cons a b,0,_,_=>a
 |_,_, .cons a b,j+1,h1,h2=>Paired.get2 b j (by simpa using h1) (by simpa using h2)
theorem zeu{x y:NK}{a b:Addr}{Q:Bool->Shared->Prop}(hu:A.units+1<cLine)(hx:IsN P w s.heap x a)(hy:IsN P w s.heap y b)(q:Q (decide (x=y)) s):wpAny (model P w) A (eqBool (.ref a) (.ref b)) Q E s:=by
 by_cases e:a=b
 ·subst e
  obtain⟨o,items,n,h1,h2,h3,h4⟩:=hx
  obtain⟨o',items',n',k1,k2,k3,k4⟩:=hy
  obtain rfl:o=o':=Option.some.inj (h1.symm.trans k1)
  rw[h3] at k3
  injection k3 with k3 _
  subst k3
  obtain rfl:=z5y h4 k4
  exact SeqAt.EqAt.same _ P w E Q (by simpa using q)
 ·obtain⟨o,items,n,h1,h2,h3,h4⟩:=hx
  obtain⟨o',items',n',k1,k2,k3,k4⟩:=hy
  have l1:x.length=items.size:=by have:=Paired.length h4;simpa using this
  have l2:y.length=items'.size:=by have:=Paired.length k4;simpa using this
  refine SeqAt.EqAt.of_refs e (SeqAt.RcAt.tuples (e:=fun j=>decide (x[j]? =y[j]?)) ⟨o,h1,h2,n,h3⟩ ⟨o',k1,k2,n',k3⟩ (by lia) fun j j1 j2=> ?_) P w E Q ?_
  ·have:=zet (A:=A.in1) (show A.units+1<cLine from hu) (Paired.get2 h4 j (by lia) (by simpa using j1)) (Paired.get2 k4 j (by lia) (by simpa using j2))
   rw[List.getElem?_eq_getElem (by lia),List.getElem?_eq_getElem (by lia)]
   simpa using this
  ·rw[<-l1,<-l2,zcK];exact q
theorem zaJ{k:Key⊕List Key}{v:Value}{Q:Int->Shared->Prop}(hu:A.units<cLine)(hk:ItN P w s.heap k v)(q:Q (hsN P w k) {s with toks:=s.toks+drN k}):wpAny (model P w) A (pyHash v) Q E s:=by
 cases k with
 |inl k=>exact(z0j P w).pyHash hk q
 |inr ks=>obtain⟨c,rfl,hc⟩:=hk;exact wpAny_pyHash_tuple hu hc q
theorem zaK{k:NK}{a:Addr}{Q:Int->Shared->Prop}(hu:A.units+1<cLine)(hk:IsN P w s.heap k a)(q:Q (reduceHash (Builtin.Tuple.tupleHashOf (k.map (hsN P w)))) {s with toks:=s.toks+((k.map drN).sum+1)}):wpAny (model P w) A (pyHash (.ref a)) Q E s:=by
 obtain⟨o,items,n,ho,hc,hd,hi⟩:=hk
 have hT:s.TypeIs (.ref a) "tuple" :=⟨o,ho,hc⟩
 unfold pyHash
 unfold pyHashByItsType
 refine wpAny_bind (wpAny_cRoomFor_or (.inr (by lia)) ?_)
 refine wpAny_bind (wpAny_specialOf hT PySem.F.slot_tuple_hash.lookup ?_)
 rw[if_neg (show ¬(some (Value.builtin "tuple.__hash__")==some Value.none)=true by rw[beq_builtin_none];decide)]
 refine wpAny_bind (wpAny_specialOf hT PySem.F.slot_tuple_hash.lookup ?_)
 refine wpAny_bind (wpAny_callSpecialIfBoundUnlessNone?_slot hT PySem.F.slot_tuple_hash (wpAny_call_entry PySem.F.slot_tuple_hash hT PySem.F.entry_tuple_hash ?_ (PySem.F.args_tuple_hash_1 _)))
 change wpAny _ A.in1 (Builtin.Tuple.tupleItemsOf (Value.ref a)>>=_) _ _ s
 refine wpAny_bind (wpAny_tupleItemsOf ho hd (wpAny_bind ?_))
 rw[<-Array.forIn_toList]
 refine wpAny_forIn_list _ (fun r (b:Array Int) s'=> ∃d l,k=d++l/\Paired (ItN P w s.heap) l r/\b.toList=d.map (hsN P w)/\s'={s with toks:=s.toks+(d.map drN).sum}) _ ?_ ?_ _ _ ⟨[],k,rfl,hi,rfl,rfl⟩
 ·rintro x r b s' ⟨d,l,rfl,hl,hb,rfl⟩
  cases hl with
  | @cons z _ l' _ h1 hl'=>
   refine wpAny_bind (zaJ (A:=A.in1) (s:={s with toks:=s.toks+(d.map drN).sum}) (show A.units+1<cLine from hu) h1 ?_)
   have fin: ∃d' l2,d++z::l'=d'++l2/\Paired (ItN P w s.heap) l2 r/\(b.push (hsN P w z)).toList=d'.map (hsN P w)/\({s with toks:=s.toks+(d.map drN).sum+drN z}:Shared)={s with toks:=s.toks+(d'.map drN).sum}:=⟨d++[z],l',by simp,hl',by simp[hb],by simp[Nat.add_assoc]⟩
   exact wpAny_pure fin
 ·rintro b s' ⟨d,l,rfl,hl,hb,rfl⟩
  cases hl
  rw[List.append_nil] at q
  change wpAny _ A.in1 (retInt (Builtin.Tuple.tupleHashOf b.toList)) _ _ _
  rw[hb]
  refine wpAny_ret_mkInt ?_
  unfold reduceHash at q
  show wpAny _ _ (if(decide (-(2:Int)^63<=Builtin.Tuple.tupleHashOf (d.map (hsN P w)))&&decide (Builtin.Tuple.tupleHashOf (d.map (hsN P w))<2^63))=true then _ else _) Q E _
  split
  ·rename_i hr
   rw[if_pos hr] at q
   exact wpAny_pure (by simpa[Nat.add_assoc] using q)
  ·rename_i hr
   rw[if_neg hr] at q
   exact wpAny_bind (wpAny_rule (wpAny_pure (by simpa[Nat.add_assoc] using q)))
theorem z8P{k:NK}{a:Addr}{Q:Bool->Shared->Prop}(hk:IsN P w s.heap k a)(q:Q true s):wpAny (model P w) A (eqIsQuiet 8 (.ref a)) Q E s:=by
 obtain⟨o,items,n,h1,h2,h3,h4⟩:=hk
 refine z6r h1 h2 h3 (fun v hv R E' r=> ?_) q
 have all: ∀{k:NK} {vs:List Value},Paired (ItN P w s.heap) k vs->∀v∈vs,∃z,ItN P w s.heap z v:=by
  intro k vs p
  induction p with
  |nil=>intro v hv;cases hv
  |cons a b ih=>
   intro v hv
   rcases List.mem_cons.mp hv with rfl|hv
   ·exact⟨_,a⟩
   ·exact ih v hv
 obtain⟨z,hz⟩:=all h4 v hv
 cases z with
 |inl k=>rw[eqIsQuiet_byValue _ ((z0j P w).byValue _ _ hz)];exact wpAny_pure r
 |inr ks=>
  obtain⟨c,rfl,o,items,n,h1,h2,h3,h4⟩:=hz
  exact z6r h1 h2 h3 (fun v hv R E' r=>by rw[eqIsQuiet_byValue _ (h4.byValue v hv)];exact wpAny_pure r) r
theorem z8Q{h':Heap}{d:Addr}{o:Obj}{es:Array DictEntry}{ep:Nat}(ho:h.get? d=some o)(hd:o.data= .dict es ep)(hs:Heap.SameBut d h h'): ∀{k:NK} {vs:List Value},Paired (ItN P w h) k vs->Paired (ItN P w h') k vs:=fun p=>Paired.mapP p fun z v q=>by
 cases z with
 |inl k=>exact q
 |inr ks=>obtain⟨c,rfl,hc⟩:=q;exact⟨c,rfl,hc.keeps ho hd hs⟩
end
noncomputable def z3q(P:Program)(w:World):HeapKind P w NK where
 is:=IsN P w
 hash:=fun k=>reduceHash (Builtin.Tuple.tupleHashOf (k.map (hsN P w)))
 draws:=fun k=>(k.map drN).sum+1
 room:=fun A=>A.units+1<cLine
 inj:=fun⟨o,items,n,h1,_,h3,h4⟩ ⟨o',items',n',k1,_,k3,k4⟩=>by
  obtain rfl:o=o':=Option.some.inj (h1.symm.trans k1)
  rw[h3] at k3
  injection k3 with k3 _
  subst k3
  exact z5y h4 k4
 keeps:=fun{h h' k a d o es ep} ⟨o',items,n,h1,h2,h3,h4⟩ ho hd hs=>by
  have hne:a≠d:=by
   rintro rfl
   obtain rfl:o'=o:=Option.some.inj (h1.symm.trans ho)
   rw[hd] at h3;cases h3
  exact⟨o',items,n,(hs.2 a hne).trans h1,h2,h3,z8Q ho hd hs h4⟩
 pyHash:=fun hu hk q=>zaK hu hk q
 eqBool:=fun hu hx hy q=>zeu hu hx hy q
 quiet:=fun hk q=>z8P hk q
theorem z6t{P:Program}{w:World}{A:Around}(hu:A.units+2<cLine):(z3q P w).room A.in1:=hu
inductive HO where
 |lst (xs:List V)
 |tup (xs:List V)
 |dK (kvs:List (Key×V))|dT (kvs:List (NK×V))
 |set (S:Int->Bool) (n:Nat)
 |ins (C dx:Addr) (fs:List (Str×V))
 |own (x:Addr)
 |xd (fs:List (Str×V))
 |met (f x:Addr)
 |rng (lo hi:Int)
 |frz (o:Obj) (u:HO)
 |tbl (ps:Array Value)
 |ext (φ:Heap->Prop)
noncomputable abbrev Hp:=Addr->Option HO
noncomputable def upd(H:Hp)(a:Addr)(o:HO):Hp:=fun b=>if b=a then some o else H b
theorem z0i{H:Hp}{a:Addr}{o:HO}:upd H a o a=some o:=by unfold upd;rw[if_pos rfl]
theorem z0c{H:Hp}{a b:Addr}{o:HO}(h:b≠a):upd H a o b=H b:=by unfold upd;rw[if_neg h]
theorem zcL{H:Hp}{a:Addr}{o u:HO}:upd (upd H a o) a u=upd H a u:=by
 funext b;unfold upd;split<;>rfl
theorem zaL{H:Hp}{a b:Addr}{o u:HO}(h:H a=some o)(h':H b=some u)(d:o≠u):a≠b:=by
 intro e;subst e;rw[h] at h';exact d (Option.some.inj h')
theorem z0G{H:Hp}{a b:Addr}{o:HO}(h:H a=some o)(h':H b=none):a≠b:=by
 intro e;subst e;rw[h] at h';cases h'
noncomputable def TKi(H:Hp):Key⊕List Key->V->Prop
 | .inl k,x=>x=kV k
 | .inr ks,x=> ∃c,x= .ref c/\H c=some (.tup (ks.map kV))
noncomputable def TK(H:Hp)(k:NK)(b:Addr):Prop:= ∃xs,H b=some (.tup xs)/\Paired (TKi H) k xs
theorem TK.stay{H H':Hp}{k:NK}{b:Addr}(ht: ∀b xs,H b=some (.tup xs)->H' b=some (.tup xs))(h:TK H k b):TK H' k b:=by
 obtain⟨xs,h1,h2⟩:=h
 refine⟨xs,ht _ _ h1,Paired.mapP h2 fun z x q=> ?_⟩
 cases z with
 |inl k=>exact q
 |inr ks=>obtain⟨c,e,q⟩:=q;exact⟨c,e,ht _ _ q⟩
section
variable(P:Program)(w:World)
noncomputable def z1o(H:Hp)(h:Heap)(a:Addr):HO->Prop
 | .lst xs=>xs.length<=sizeLine/\∃(its:List Value) (n:Nat),Vals xs its/\h.get? a=some {cls:= .type "list",data:= .seq its.toArray n}
 | .tup xs=>xs.length<=sizeLine/\∃its:List Value,Vals xs its/\IsTup h a its.toArray
 | .dK kvs=>kvs.length<=sizeLine/\(a==sysModules)=false/\∃vs,KV kvs vs/\h.DictOf (z0j P w) a vs
 | .dT kvs=>kvs.length<=sizeLine/\(a==sysModules)=false/\∃xs:List (NK×Addr×Value),
  Paired (fun(p:NK×V) (q:NK×Addr×Value)=>p.1=q.1/\TK H p.1 q.2.1/\RelV p.2 q.2.2) kvs xs/\
  ∃o es ep,h.get? a=some o/\o.ExactDict/\o.data= .dict es ep/\es.toList=xs.map (entryOfKey (z3q P w))/\(xs.map (·.1)).Nodup
 | .set S n=>h.SetOf (intKind P w) a S n
 | .ins C dx fs=>H dx=some (.own a)/\fs.length<=1000/\dx≠a/\h.get? a=some (W.instObj C dx)/\
  ∃mA,h.Ns1 dx mA/\(∀f,RelO (fs.lookup f) (mA f))/\PySem.Within mA (fs.map (·.1))
 | .own _=> ∃o,h.get? a=some o
 | .xd fs=> ∃mA,h.Ns1 a mA/\∀f,RelO (fs.lookup f) (mA f)
 | .rng lo hi=> ∃t u v,h.get? a=some {cls:= .type "range",data:= .fields #[.int lo t, .int hi u, .int 1 v]}
 | .frz o u=>h.get? a=some o/\z1o H h a u
 | .tbl ps=>h.get? a=some {cls:= .none,data:= .fields ps}
 | .met f x=>h.get? a=some (W.methodObj (.ref f) (.ref x))
 | .ext φ=>φ h/\(∃o,h.get? a=some o)/\∀h1 h2:Heap,φ h1->(∀o,h1.get? a=some o->h2.get? a=some o)->φ h2
noncomputable def HOk(H:Hp)(h:Heap):Prop:= ∀a o,H a=some o->z1o P w H h a o
end
section
variable{P:Program}{w:World}{H H':Hp}{h h':Heap}{a:Addr}{o:HO}
theorem z1o.lt(x:z1o P w H h a o):a<h.objs.size:=by
 cases o with
 |lst xs=>obtain⟨_,_,_,_,e⟩:=x;exact Heap.lt_size e
 |tup xs=>obtain⟨_,_,_,p⟩:=x;exact p.lt
 |dK kvs=>obtain⟨_,_,_,_,o,_,_,e,_⟩:=x;exact Heap.lt_size e
 |dT kvs=>obtain⟨_,_,_,_,o,_,_,e,_⟩:=x;exact Heap.lt_size e
 |set S n=>obtain⟨o,_,_,_,e,_⟩:=x;exact Heap.lt_size e
 |ins C dx fs=>obtain⟨_,_,_,e,_⟩:=x;exact Heap.lt_size e
 |own y=>obtain⟨_,e⟩:=x;exact Heap.lt_size e
 |xd fs=>obtain⟨_,⟨_,_,_,e,_⟩,_⟩:=x;exact Heap.lt_size e
 |rng lo hi=>obtain⟨_,_,_,e⟩:=x;exact Heap.lt_size e
 |frz ob u=>obtain⟨e,_⟩:=x;exact Heap.lt_size e
 |tbl ps=>exact Heap.lt_size (show h.get? a=some _ from x)
 |met f y=>exact Heap.lt_size (show h.get? a=some _ from x)
 |ext φ=>obtain⟨_,⟨_,e⟩,_⟩:=x;exact Heap.lt_size e
theorem z1o.stay(x:z1o P w H h a o)(k: ∀b u,(b=a\/H b=some (.own a))->h.get? b=some u->h'.get? b=some u)
 (ho: ∀b,H b=some (.own a)->H' b=some (.own a)) (ht: ∀b xs,H b=some (.tup xs)->H' b=some (.tup xs)):z1o P w H' h' a o:=by
 induction o with
 |lst xs=>obtain⟨z,its,n,r,e⟩:=x;exact⟨z,its,n,r,k _ _ (.inl rfl) e⟩
 |tup xs=>obtain⟨z,its,r,ob,e,c⟩:=x;exact⟨z,its,r,ob,k _ _ (.inl rfl) e,c⟩
 |dK kvs=>obtain⟨z,y,vs,r,ob,es,ep,e,c⟩:=x;exact⟨z,y,vs,r,ob,es,ep,k _ _ (.inl rfl) e,c⟩
 |dT kvs=>
  obtain⟨z,y,xs,r,ob,es,ep,e,c⟩:=x
  exact⟨z,y,xs,Paired.mapP r fun p q z=>⟨z.1,z.2.1.stay ht,z.2.2⟩,ob,es,ep,k _ _ (.inl rfl) e,c⟩
 |set S n=>obtain⟨ob,es,ep,t,e,c⟩:=x;exact⟨ob,es,ep,t,k _ _ (.inl rfl) e,c⟩
 |ins C dx fs=>
  obtain⟨d,z,ne,e,mA,⟨od,es,ep,e2,c⟩,r⟩:=x
  exact⟨ho _ d,z,ne,k _ _ (.inl rfl) e,mA,⟨od,es,ep,k _ _ (.inr d) e2,c⟩,r⟩
 |own y=>obtain⟨ob,e⟩:=x;exact⟨ob,k _ _ (.inl rfl) e⟩
 |xd fs=>obtain⟨mA,⟨od,es,ep,e,c⟩,r⟩:=x;exact⟨mA,⟨od,es,ep,k _ _ (.inl rfl) e,c⟩,r⟩
 |rng lo hi=>obtain⟨t,u,v,e⟩:=x;exact⟨t,u,v,k _ _ (.inl rfl) e⟩
 |frz ob u ih=>obtain⟨e,q⟩:=x;exact⟨k _ _ (.inl rfl) e,ih q⟩
 |tbl ps=>
  have e:h.get? a=some {cls:= .none,data:= .fields ps}:=x
  show h'.get? a=some {cls:= .none,data:= .fields ps}
  exact k a _ (.inl rfl) e
 |met f y=>
  have e:h.get? a=some (W.methodObj (.ref f) (.ref y)):=x
  show h'.get? a=some (W.methodObj (.ref f) (.ref y))
  exact k a _ (.inl rfl) e
 |ext φ=>obtain⟨p,⟨o,e⟩,st⟩:=x;exact⟨st _ _ p fun o q=>k _ _ (.inl rfl) q,⟨o,k _ _ (.inl rfl) e⟩,st⟩
theorem HOk.lt(x:HOk P w H h)(e:H a=some o):a<h.objs.size:=(x a o e).lt
theorem HOk.fresh(x:HOk P w H h)(e:h.objs.size<=a):H a=none:=by
 cases q:H a with
 |none=>rfl
 |some u=>exact absurd (Nat.lt_of_lt_of_le (x.lt q) e) (Nat.lt_irrefl _)
theorem HOk.kept(x:HOk P w H h)(k: ∀b u,h.get? b=some u->h'.get? b=some u):HOk P w H h':=fun a o e=>
 (x a o e).stay (fun b u _ q=>k b u q) (fun _ q=>q) fun _ _ q=>q
theorem HOk.laid(x:HOk P w H h)(k: ∀b u,h.get? b=some u->h'.get? b=some u)(hp:h.objs.size<=a)(new:z1o P w (upd H a o) h' a o):HOk P w (upd H a o) h':=fun b u e=>by
 have hn:=x.fresh hp
 by_cases hb:b=a
 ·subst hb;rw[z0i] at e;cases e;exact new
 ·rw[z0c hb] at e
  exact(x b u e).stay (fun c v _ q=>k c v q) (fun c q=>by rw[z0c (z0G q hn)];exact q) fun c xs q=>by rw[z0c (z0G q hn)];exact q
end
noncomputable def Rd(H:Hp)(a:Addr)(u:HO):Prop:=H a=some u\/∃o,H a=some (.frz o u)
theorem Rd.ok{P:Program}{w:World}{H:Hp}{h:Heap}{a:Addr}{u:HO}(r:Rd H a u)(x:HOk P w H h):z1o P w H h a u:=by
 rcases r with r|⟨o,r⟩
 ·exact x a u r
 ·obtain⟨_,q⟩:=x a _ r
  exact q
noncomputable def Mut:Option HO->Prop
 |some (.lst _)=>True
 |some (.dK _)=>True
 |some (.dT _)=>True
 |some (.set _ _)=>True
 |some (.ins _ _ _)=>True
 |some (.ext _)=>True
 |_=>False
section
variable{P:Program}{w:World}{H:Hp}{h h':Heap}{x e:Addr}{o':HO}
theorem HOk.write(ok:HOk P w H h)(mu:Mut (H x))(he:e=x\/H e=some (.own x))(k: ∀b u,b≠e->h.get? b=some u->h'.get? b=some u)(heo: ∃u,h'.get? e=some u)
 (new:z1o P w (upd H x o') h' x o'):HOk P w (upd H x o') h':=fun b u q=>by
 have nown: ∀c y,H c=some (.own y)->c≠x:=fun c y r z=>by subst z;rw[r] at mu;exact mu
 have ntup: ∀c xs,H c=some (.tup xs)->c≠x:=fun c xs r z=>by subst z;rw[r] at mu;exact mu
 by_cases hb:b=x
 ·subst hb;rw[z0i] at q;cases q;exact new
 ·rw[z0c hb] at q
  by_cases hbe:b=e
  ·have q':H b=some (.own x):=by
    rcases he with z|z
    ·exact absurd (hbe.trans z) hb
    ·rw[hbe];exact z
   rw[q] at q';cases q'
   obtain⟨v,hv⟩:=heo
   exact⟨v,by rw[hbe];exact hv⟩
  ·refine(ok b u q).stay (fun c v hc r=>k c v ?_ r) (fun c r=>by rw[z0c (nown c b r)];exact r) fun c xs r=>by rw[z0c (ntup c xs r)];exact r
   rcases hc with rfl|hc
   ·exact hbe
   ·rintro rfl
    rcases he with z|z
    ·exact nown c b hc z
    ·rw[hc] at z;cases z;exact hb rfl
end
structure Un(fs ex:List Addr)(H H':Hp)(h h':Heap):Prop where
 keep: ∀b o,h.get? b=some o->H b=none->b∉fs->b∉ex->h'.get? b=some o
 slot: ∀b o,h.get? b=some o->H b=none->b∈fs->b∉ex->∃sl,h'.get? b=some {o with slots:=sl}
 free: ∀b o,h.get? b=some o->H b=none->b∉ex->H' b=none
 there: ∀b o,h.get? b=some o->b∉ex->∃o',h'.get? b=some o'
 tups: ∀b xs,H b=some (.tup xs)->H' b=some (.tup xs)
 frzs: ∀b o u,H b=some (.frz o u)->H' b=some (.frz o u)
 tbls: ∀b ps,H b=some (.tbl ps)->∃more,H' b=some (.tbl (ps++more))
section
variable{fs fs' ex ex':List Addr}{H H1 H2:Hp}{h h1 h2 h':Heap}{a x e:Addr}{o:HO}
theorem Un.any(u:Un fs ex H H1 h h1){b:Addr}{ob:Obj}(q:h.get? b=some ob)(n:H b=none)(hx:b∉ex): ∃sl,h1.get? b=some {ob with slots:=sl}:=by
 by_cases hb:b∈fs
 ·exact u.slot b ob q n hb hx
 ·exact⟨ob.slots,u.keep b ob q n hb hx⟩
theorem Un.kept(k: ∀b u,h.get? b=some u->h'.get? b=some u):Un fs ex H H h h':=
 ⟨fun b ob q _ _ _=>k b ob q,fun b ob q _ _ _=>⟨ob.slots,k b ob q⟩,fun _ _ _ n _=>n,fun b ob q _=>⟨ob,k b ob q⟩,fun _ _ q=>q,fun _ _ _ q=>q,fun _ ps q=>⟨#[],by rw[q];simp⟩⟩
theorem Un.refl:Un fs ex H H h h:=Un.kept fun _ _ q=>q
theorem Un.laid(k: ∀b u,h.get? b=some u->h'.get? b=some u)(hp:h.objs.size<=a)(hn:H a=none):Un fs ex H (upd H a o) h h' where
 keep:=fun b u q _ _ _=>k b u q
 slot:=fun b u q _ _ _=>⟨u.slots,k b u q⟩
 free:=fun b u q n _=>by rw[z0c (Nat.ne_of_lt (Nat.lt_of_lt_of_le (Heap.lt_size q) hp))];exact n
 there:=fun b u q _=>⟨u,k b u q⟩
 tups:=fun b xs q=>by rw[z0c (z0G q hn)];exact q
 frzs:=fun b u xs q=>by rw[z0c (z0G q hn)];exact q
 tbls:=fun b ps q=>⟨#[],by rw[z0c (z0G q hn),q];simp⟩
theorem Un.write(mu:Mut (H x))(he:e=x\/H e=some (.own x))(k: ∀b u,b≠e->h.get? b=some u->h'.get? b=some u)(heo: ∃u,h'.get? e=some u):Un fs ex H (upd H x o) h h':=by
 have hx: ∀b,H b=none->b≠x:=fun b n z=>by subst z;rw[n] at mu;exact mu
 have hb: ∀b,H b=none->b≠e:=fun b n z=>by
  subst z
  rcases he with r|r
  ·exact hx b n r
  ·rw[n] at r;cases r
 have hm: ∀b u,H b=some u->¬Mut (some u)->b≠x:=fun b u q nm z=>by subst z;rw[q] at mu;exact nm mu
 refine⟨fun b u q n _ _=>k b u (hb b n) q,fun b u q n _ _=>⟨u.slots,k b u (hb b n) q⟩,fun b u q n _=>by rw[z0c (hx b n)];exact n,fun b u q _=> ?_,
  fun b xs q=>by rw[z0c (hm b _ q fun z=>z)];exact q,fun b u xs q=>by rw[z0c (hm b _ q fun z=>z)];exact q,fun b ps q=>⟨#[],by rw[z0c (hm b _ q fun z=>z),q];simp⟩⟩
 by_cases hbe:b=e
 ·subst hbe;exact heo
 ·exact⟨u,k b u hbe q⟩
end
noncomputable def trk(h:Heap)(H:Hp):List Addr:=(List.range h.objs.size).filter fun a=>(H a).isSome
noncomputable def hidT(h:Heap)(H:Hp):Heap:=W.hideAll h (trk h H)
theorem z8R(h:Heap)(H:Hp):(hidT h H).objs.size=h.objs.size:=W.hideAll_size _ _
theorem zaM{h:Heap}{H:Hp}{b:Addr}{o:Obj}(e:h.get? b=some o)(n:H b=none):(hidT h H).get? b=some o:=
 W.hideAll_get _ e fun hm=>by
  have q:(H b).isSome=true:=(List.mem_filter.mp hm).2
  rw[n] at q;simp at q
theorem zcM{h:Heap}{H:Hp}{b:Addr}{o:Obj}(e:(hidT h H).get? b=some o):h.get? b=some o/\H b=none:=by
 have e':h.get? b=some o:=W.of_hideAll (trk h H) e
 refine⟨e', ?_⟩
 cases q:H b with
 |none=>rfl
 |some x=>
  have hm:b∈trk h H:=List.mem_filter.mpr ⟨List.mem_range.mpr (Heap.lt_size e'),by simp[q]⟩
  have z:(hidT h H).get? b=none:=W.hideAll_none (trk h H) hm
  rw[z] at e;cases e
noncomputable def zcN(g h:Heap)(L:Addr):List (Addr×Obj):=(List.range h.objs.size).filterMap fun a=>if a=L\/(g.get? a).isSome=true then none else(h.get? a).map fun o=>(a,o)
noncomputable def rest(g h:Heap)(L d:Addr):List (Addr×Obj):=(zcN g h L).filter fun p=>decide (p.1≠d)
structure Mod(K:W.Frag)(mg:Str->Option Value)(base:Heap):Prop where
 kin:K.In base
 glob:base.Ns mainGlobals mg
 blt: ∃mb,base.Ns builtinsNs mb/\∀x:Str,x≠ "__name__" ->mb x=bootBuiltins x
 nolimit:base.NoLimit
structure Cx where
 prog:Program
 w:World
 K:W.Frag
 mg:Str->Option Value
 base:Heap
 A:Around
 N:List Str
 s₀:Shared
 H₀:Hp
 env:Env
 outer:List Env
 stack:List Env
 ex:List Addr
 fn:Str->Bool
 calm:Bool
 pn:List (Addr×Obj)
 xe:Value->Shared->Prop
noncomputable def frs(l:List Env):List Addr:=l.filterMap (·.frame)
noncomputable abbrev Cx.fs(X:Cx):List Addr:=frs X.outer
noncomputable def Vis(sc:Scope)(x:Str):Prop:=sc.names.lookup x=some .local\/sc.names.lookup x=some .cell\/sc.names.lookup x=some .free
noncomputable def Loc(sc:Scope)(x:Str):Prop:=sc.names.lookup x=some .local\/sc.names.lookup x=some .cell
noncomputable def Look(env:Env)(h:Heap)(m:Str->Option Value)(x:Str)(u:Value):Prop:=
 (env.kindOf x=some .local/\m x=some u)\/((env.kindOf x=some .cell\/env.kindOf x=some .free)/\∃c,env.cells.lookup x=some c/\h.IsCell c (some u))
structure Cx.Ok(X:Cx):Prop where
 mod:Mod X.K X.mg X.base
 kind:X.env.scope.kind= .function
 glob:X.env.globals=mainGlobals
 blt:X.env.builtins=builtinsNs
 above:X.s₀.heap.objs.size<=X.env.locals
 inj: ∀x y c,X.env.cells.lookup x=some c->X.env.cells.lookup y=some c->x=y
 has: ∀x,(X.env.kindOf x=some .cell\/X.env.kindOf x=some .free)->∃c,X.env.cells.lookup x=some c
 cab: ∀x c,X.fn x=true->X.env.cells.lookup x=some c->X.s₀.heap.objs.size<=c
 hd:X.calm=true->X.A.handled=none
 frames:X.A.frames=some X.stack
 stk:X.stack=X.outer\/(X.stack=X.env::X.outer/\X.env.frame=some X.env.locals)
 exf: ∀b∈X.ex,b≠X.env.locals/\∀x c,X.env.cells.lookup x=some c->c≠b
 bs: ∀b o,X.base.get? b=some o->X.s₀.heap.get? b=some o/\X.H₀ b=none
 bsz:X.base.objs.size<=X.s₀.heap.objs.size
 noex: ∀b o,X.base.get? b=some o->b∉X.ex
 exfs: ∀b∈X.ex,b∉X.fs
 funs:X.s₀.heap.FunFrames X.base X.outer
 frf: ∀b∈X.fs,X.H₀ b=none
structure Inv(X:Cx)(pins:List (Addr×Obj))(σ:List (Option V))(H:Hp)(s:Shared):Prop where
 ok:X.Ok
 os:s.os=X.s₀.os
 bare:AllBare s.gens
 base:Un X.fs X.ex X.H₀ H X.s₀.heap s.heap
 loc: ∃m,s.heap.Ns X.env.locals m/\∀(i:Nat) (x:Str) (v:V),X.N[i]? =some x->σ[i]? =some (some v)->Vis X.env.scope x->∃u,RelV v u/\Look X.env s.heap m x u
 cell: ∀x c,X.env.cells.lookup x=some c->∃v,s.heap.IsCell c v
 free:H X.env.locals=none
 freeC: ∀x c,X.env.cells.lookup x=some c->H c=none
 pin: ∀p∈X.pn++pins,s.heap.get? p.1=some p.2/\H p.1=none/\p.1≠X.env.locals/\p.1∉X.fs/\∀v,p.2.data≠ .cell v
 hok:HOk X.prog X.w H s.heap
 len:σ.length=X.N.length
section
variable{X:Cx}{pins:List (Addr×Obj)}{σ:List (Option V)}{H H':Hp}{s:Shared}{h':Heap}
theorem Cx.Ok.nofr(ok:X.Ok){b:Addr}{o:Obj}(e:X.base.get? b=some o):b∉X.fs:=fun hb=>by
 have:=(ok.funs.mem hb).1
 rw[e] at this;cases this
theorem Inv.bs(I:Inv X pins σ H s): ∀b o,X.base.get? b=some o->s.heap.get? b=some o/\H b=none:=fun b o e=>
 ⟨I.base.keep b o (I.ok.bs b o e).1 (I.ok.bs b o e).2 (I.ok.nofr e) (I.ok.noex b o e),I.base.free b o (I.ok.bs b o e).1 (I.ok.bs b o e).2 (I.ok.noex b o e)⟩
theorem Inv.bk(I:Inv X pins σ H s): ∀b o,X.base.get? b=some o->s.heap.get? b=some o:=fun b o e=>(I.bs b o e).1
theorem Inv.mod(I:Inv X pins σ H s):Mod X.K X.mg X.base:=I.ok.mod
theorem Inv.kIn(I:Inv X pins σ H s):X.K.In s.heap:=I.ok.mod.kin.keeps I.bk
theorem Inv.lt(I:Inv X pins σ H s):X.env.locals<s.heap.objs.size:=let⟨_,hn,_⟩:=I.loc;hn.lt
theorem Inv.sz(I:Inv X pins σ H s):X.s₀.heap.objs.size<=s.heap.objs.size:=Nat.le_trans I.ok.above (Nat.le_of_lt I.lt)
theorem Inv.nofs(I:Inv X pins σ H s){a:Addr}(h:s.heap.objs.size<=a):a∉X.fs:=fun hb=>by
 obtain⟨_,o,ho,_⟩:=I.ok.funs.mem hb
 exact absurd (Nat.lt_of_lt_of_le (Heap.lt_size ho) (Nat.le_trans I.sz h)) (Nat.lt_irrefl _)
theorem Inv.cne(I:Inv X pins σ H s): ∀x c,X.env.cells.lookup x=some c->c≠X.env.locals:=fun x c e z=>by
 obtain⟨v,o,ho,hd⟩:=I.cell x c e
 obtain⟨m,⟨o',es,ep,ho',hd',_⟩,_⟩:=I.loc
 rw[z,ho'] at ho;cases ho;rw[hd'] at hd;cases hd
theorem Inv.funs(I:Inv X pins σ H s):s.heap.FunFrames X.base X.outer:=by
 have all: ∀(l:List Env),(∀b∈frs l,b∈X.fs)->X.s₀.heap.FunFrames X.base l->s.heap.FunFrames X.base l:=by
  intro l
  induction l with
  |nil=>intro _ _;trivial
  |cons env r ih=>
   intro hs hl
   obtain⟨hk,⟨L,o,hf,hn,ho,hd⟩,hr⟩:=hl
   have hL:L∈X.fs:=hs L (by unfold frs;rw[List.filterMap_cons,hf];exact List.mem_cons_self)
   obtain⟨sl,e⟩:=I.base.slot L o ho (I.ok.frf L hL) hL fun z=>I.ok.exfs L z hL
   exact⟨hk,⟨L,_,hf,hn,e,hd⟩,ih (fun b hb=>hs b (by unfold frs;rw[List.filterMap_cons,hf];exact List.mem_cons_of_mem _ hb)) hr⟩
 exact all X.outer (fun _ hb=>hb) I.ok.funs
theorem Inv.stack(I:Inv X pins σ H s):s.heap.FunFrames X.base X.stack:=by
 rcases I.ok.stk with e|⟨e,hf⟩
 ·rw[e];exact I.funs
 ·rw[e]
  obtain⟨m,hn,_⟩:=I.loc
  refine .cons (by rw[I.ok.kind];decide) hf hn ?_ I.funs
  exact Heap.get?_none_of_le (Nat.le_trans I.ok.bsz I.ok.above)
theorem Inv.stkSub(I:Inv X pins σ H s): ∀b∈frs X.stack,b∈X.env.locals::X.fs:=fun b hb=>by
 rcases I.ok.stk with e|⟨e,hf⟩
 ·rw[e] at hb;exact List.mem_cons_of_mem _ hb
 ·rw[e] at hb
  unfold frs at hb
  rw[List.filterMap_cons,hf] at hb
  exact hb
theorem Inv.stkFree(I:Inv X pins σ H s): ∀b∈frs X.stack,H b=none:=fun b hb=>by
 rcases List.mem_cons.mp (I.stkSub b hb) with e|hb
 ·rw[e];exact I.free
 ·obtain⟨_,o,ho,_⟩:=I.ok.funs.mem hb
  exact I.base.free b o ho (I.ok.frf b hb) fun z=>I.ok.exfs b z hb
theorem Inv.step{g':Array GenState}{t':Nat}{d':Drawn}{ch:List Addr}(I:Inv X pins σ H s)
 (hch: ∀b∈ch,(b∈X.ex\/X.s₀.heap.objs.size<=b)/\b≠X.env.locals/\(∀x c,X.env.cells.lookup x=some c->c≠b)/\∀p∈X.pn++pins,p.1≠b)
 (keep: ∀b o,b≠X.env.locals->b∉X.fs->b∉ch->s.heap.get? b=some o->H b=none->h'.get? b=some o)
 (slot: ∀b o,b≠X.env.locals->b∈X.fs->b∉ch->s.heap.get? b=some o->H b=none->∃sl,h'.get? b=some {o with slots:=sl}) (free: ∀b o,b∉ch->s.heap.get? b=some o->H b=none->H' b=none)
 (there: ∀b o,b∉ch->s.heap.get? b=some o->∃o',h'.get? b=some o')
 (tups: ∀b xs,H b=some (.tup xs)->H' b=some (.tup xs)) (frzs: ∀b o u,H b=some (.frz o u)->H' b=some (.frz o u)) (tbls: ∀b ps,H b=some (.tbl ps)->∃more,H' b=some (.tbl (ps++more)))
 (ns: ∀m,s.heap.Ns X.env.locals m->h'.Ns X.env.locals m) (hok:HOk X.prog X.w H' h') (hg:AllBare g'):
 Inv X pins σ H' {s with heap:=h',gens:=g',drawn:=d',toks:=t'}:=by
 have neL: ∀b o,X.s₀.heap.get? b=some o->b≠X.env.locals:=fun b o e=>Nat.ne_of_lt (Nat.lt_of_lt_of_le (Heap.lt_size e) I.ok.above)
 have neC: ∀b o,X.s₀.heap.get? b=some o->b∉X.ex->b∉ch:=fun b o e hx hb=>by
  rcases(hch b hb).1 with z|z
  ·exact hx z
  ·exact absurd (Nat.lt_of_lt_of_le (Heap.lt_size e) z) (Nat.lt_irrefl _)
 have cellK: ∀x c,X.env.cells.lookup x=some c->∀v,s.heap.IsCell c v->h'.IsCell c v:=fun x c e v ⟨o,ho,hd⟩=>by
  have nch:c∉ch:=fun z=>(hch c z).2.2.1 x c e rfl
  by_cases hc:c∈X.fs
  ·obtain⟨sl,q⟩:=slot c o (I.cne x c e) hc nch ho (I.freeC x c e)
   exact⟨_,q,hd⟩
  ·exact⟨o,keep c o (I.cne x c e) hc nch ho (I.freeC x c e),hd⟩
 refine⟨I.ok,I.os,hg,⟨fun b o e n hb hx=> ?_,fun b o e n hb hx=> ?_,fun b o e n hx=> ?_,fun b o e hx=> ?_,fun b xs e=>tups b xs (I.base.tups b xs e),fun b o xs e=>frzs b o xs (I.base.frzs b o xs e),fun b ps e=> ?_⟩, ?_,fun x c e=> ?_, ?_,fun x c e=> ?_,fun p hp=> ?_,hok,I.len⟩
 ·exact keep b o (neL b o e) hb (neC b o e hx) (I.base.keep b o e n hb hx) (I.base.free b o e n hx)
 ·obtain⟨sl,e1⟩:=I.base.slot b o e n hb hx
  obtain⟨sl',e2⟩:=slot b _ (neL b o e) hb (neC b o e hx) e1 (I.base.free b o e n hx)
  exact⟨sl',e2⟩
 ·obtain⟨o',e1⟩:=I.base.there b o e hx
  exact free b o' (neC b o e hx) e1 (I.base.free b o e n hx)
 ·obtain⟨o',e1⟩:=I.base.there b o e hx
  exact there b o' (neC b o e hx) e1
 ·obtain⟨m1,e1⟩:=I.base.tbls b ps e
  obtain⟨m2,e2⟩:=tbls b _ e1
  exact⟨m1++m2,by rw[e2,Array.append_assoc]⟩
 ·obtain⟨m,hn,hl⟩:=I.loc
  refine⟨m,ns m hn,fun i x v e1 e2 e3=> ?_⟩
  obtain⟨u,r,l⟩:=hl i x v e1 e2 e3
  refine⟨u,r, ?_⟩
  rcases l with l|⟨k,c,e,z⟩
  ·exact .inl l
  ·exact .inr ⟨k,c,e,cellK x c e _ z⟩
 ·obtain⟨v,z⟩:=I.cell x c e
  exact⟨v,cellK x c e v z⟩
 ·obtain⟨m,⟨o,_,_,ho,_⟩,_⟩:=I.loc
  exact free _ o (fun z=>(hch _ z).2.1 rfl) ho I.free
 ·obtain⟨v,o,ho,hd⟩:=I.cell x c e
  exact free c o (fun z=>(hch c z).2.2.1 x c e rfl) ho (I.freeC x c e)
 ·obtain⟨e,n,ne,nf,d⟩:=I.pin p hp
  have nch:p.1∉ch:=fun z=>(hch p.1 z).2.2.2 p hp rfl
  exact⟨keep p.1 p.2 ne nf nch e n,free p.1 p.2 nch e n,ne,nf,d⟩
theorem Inv.un{t':Nat}(I:Inv X pins σ H s)(u:Un X.fs [] H H' s.heap h')(hok:HOk X.prog X.w H' h'):Inv X pins σ H' {s with heap:=h',toks:=t'}:=by
 obtain⟨m,⟨o,es,ep,ho,r⟩,_⟩:=id I.loc
 obtain⟨sl,hL⟩:=u.any ho I.free (by simp)
 exact I.step (g':=s.gens) (d':=s.drawn) (ch:=[]) (fun _ z=>nomatch z) (fun b o _ hb _ e n=>u.keep b o e n hb (by simp)) (fun b o _ hb _ e n=>u.slot b o e n hb (by simp)) (fun b o _ e n=>u.free b o e n (by simp)) (fun b o _ e=>u.there b o e (by simp)) u.tups u.frzs u.tbls (fun m' hm=>by
  obtain⟨o',es',ep',ho',r'⟩:=hm
  rw[ho] at ho';cases ho'
  exact⟨_,es',ep',hL,r'⟩) hok I.bare
theorem Inv.call{g':Array GenState}{t':Nat}{d':Drawn}{ch:List Addr}(I:Inv X pins σ H s)(u:Un (frs X.stack) ch H H' s.heap h')(hok:HOk X.prog X.w H' h')(hg:AllBare g')
 (hch: ∀b∈ch,(b∈X.ex\/X.s₀.heap.objs.size<=b)/\b≠X.env.locals/\(∀x c,X.env.cells.lookup x=some c->c≠b)/\∀p∈X.pn++pins,p.1≠b):
 Inv X pins σ H' {s with heap:=h',gens:=g',drawn:=d',toks:=t'}:=by
 obtain⟨m,⟨o,es,ep,ho,r⟩,_⟩:=id I.loc
 obtain⟨sl,hL⟩:=u.any ho I.free fun z=>(hch _ z).2.1 rfl
 exact I.step (ch:=ch) hch (fun b o hL hb hc e n=>u.keep b o e n (fun z=>(List.mem_cons.mp (I.stkSub b z)).elim hL hb) hc) (fun b o _ _ hc e n=>u.any e n hc) (fun b o hc e n=>u.free b o e n hc) (fun b o hc e=>u.there b o e hc) u.tups u.frzs u.tbls (fun m' hm=>by
  obtain⟨o',es',ep',ho',r'⟩:=hm
  rw[ho] at ho';cases ho'
  exact⟨_,es',ep',hL,r'⟩) hok hg
theorem Inv.turned{t':Nat}{it:Addr}(I:Inv X pins σ H s)(k: ∀b o,b≠it->s.heap.get? b=some o->h'.get? b=some o)(hn:H it=none)(hL:it≠X.env.locals)
 (h1:it∈X.ex\/X.s₀.heap.objs.size<=it) (h2: ∀x c,X.env.cells.lookup x=some c->c≠it) (h3: ∀p∈X.pn++pins,p.1≠it):Inv X pins σ H {s with heap:=h',toks:=t'}:=by
 have nit: ∀b u,H b=some u->b≠it:=fun b u e z=>by rw[z,hn] at e;cases e
 refine I.step (g':=s.gens) (d':=s.drawn) (ch:=[it]) (fun b hb=> ?_) (fun b o _ _ hc e _=>k b o (fun z=>hc (by simp[z])) e) (fun b o _ _ hc e _=>⟨o.slots,k b o (fun z=>hc (by simp[z])) e⟩) (fun _ _ _ _ n=>n)
  (fun b o hc e=>⟨o,k b o (fun z=>hc (by simp[z])) e⟩) (fun _ _ e=>e) (fun _ _ _ e=>e) (fun b ps e=>⟨#[],by rw[e];simp⟩) (fun m hm=> ?_) (fun b u e=> ?_) I.bare
 ·have e:b=it:=by simpa using hb
  subst e
  exact⟨h1,hL,h2,h3⟩
 ·obtain⟨o,es,ep,ho,r⟩:=hm
  exact⟨o,es,ep,k _ o (Ne.symm hL) ho,r⟩
 ·refine(I.hok b u e).stay (fun c v hc q=>k c v ?_ q) (fun _ q=>q) fun _ _ q=>q
  rcases hc with z|z
  ·rw[z];exact nit b u e
  ·exact nit c _ z
theorem Inv.tok(I:Inv X pins σ H s)(t:Nat):Inv X pins σ H {s with toks:=t}:=I.un (h':=s.heap) (t':=t) Un.refl I.hok
theorem Inv.kept{t':Nat}(I:Inv X pins σ H s)(k: ∀b u,s.heap.get? b=some u->h'.get? b=some u):Inv X pins σ H {s with heap:=h',toks:=t'}:=I.un (Un.kept k) (I.hok.kept k)
theorem Inv.laid{a:Addr}{o:HO}{t':Nat}(I:Inv X pins σ H s)(k: ∀b u,s.heap.get? b=some u->h'.get? b=some u)(hp:s.heap.objs.size<=a)(new:z1o X.prog X.w (upd H a o) h' a o):
 Inv X pins σ (upd H a o) {s with heap:=h',toks:=t'}:=I.un (Un.laid k hp (I.hok.fresh hp)) (I.hok.laid k hp new)
theorem Inv.write{x e:Addr}{o:HO}{t':Nat}(I:Inv X pins σ H s)(mu:Mut (H x))(he:e=x\/H e=some (.own x))(k: ∀b u,b≠e->s.heap.get? b=some u->h'.get? b=some u)(heo: ∃u,h'.get? e=some u)
 (new:z1o X.prog X.w (upd H x o) h' x o):Inv X pins σ (upd H x o) {s with heap:=h',toks:=t'}:=I.un (Un.write mu he k heo) (I.hok.write mu he k heo new)
theorem Inv.pins_of{pins':List (Addr×Obj)}(I:Inv X pins σ H s)(h: ∀p∈pins',s.heap.get? p.1=some p.2/\H p.1=none/\p.1≠X.env.locals/\p.1∉X.fs/\∀v,p.2.data≠ .cell v):Inv X pins' σ H s:=
 ⟨I.ok,I.os,I.bare,I.base,I.loc,I.cell,I.free,I.freeC,fun p hp=>(List.mem_append.mp hp).elim (fun z=>I.pin p (List.mem_append_left _ z)) (h p),I.hok,I.len⟩
theorem z7O{N:List Str}(hN:N.Nodup){i j:Nat}{x:Str}(a:N[i]? =some x)(b:N[j]? =some x):i=j:=by
 obtain⟨h1,e1⟩:=List.getElem?_eq_some_iff.mp a
 obtain⟨h2,e2⟩:=List.getElem?_eq_some_iff.mp b
 exact(List.getElem_inj hN).mp (e1.trans e2.symm)
theorem z8S{M:Model}{A:Around}{E:Value->Shared->Prop}{i:Nat}{x:Str}{v:V}{u:Value}{Q:Unit->Shared->Prop}(I:Inv X pins σ H s)(hN:X.N.Nodup)(hi:X.N[i]? =some x)(hx:Loc X.env.scope x)(r:RelV v u)
 (h: ∀s',Inv X pins (σ.set i (some v)) H s'->(∃a,Heap.SameBut a s.heap s'.heap/\(a=X.env.locals\/X.env.cells.lookup x=some a))->Q () s') (hf:X.fn x=true\/X.env.scope.names.lookup x=some .local:=by first|exact .inl rfl|exact .inr rfl|assumption):wpAny M A (storeName X.env x u) Q E s:=by
 obtain⟨m,hn,hl⟩:=id I.loc
 have hcls:(X.env.scope.kind== .class||(X.env.scope.kind== .module&&X.env.locals !=X.env.globals))=false:=by rw[I.ok.kind];rfl
 have hiσ:i<σ.length:=by rw[I.len];exact(List.getElem?_eq_some_iff.mp hi).1
 have cne:=I.cne
 have tracked: ∀{a:Addr} {h':Heap},(∃o,s.heap.get? a=some o/\H a=none)->Heap.SameBut a s.heap h'->HOk X.prog X.w H h':=fun{a h'} ha hs b ob e=>by
  obtain⟨_,_,hfree⟩:=ha
  refine(I.hok b ob e).stay (fun c w' hc q=>(hs.2 c ?_).trans q) (fun _ q=>q) fun _ _ q=>q
  rintro rfl
  rcases hc with rfl|hc
  ·rw[hfree] at e;cases e
  ·rw[hfree] at hc;cases hc
 rcases hx with hk|hk
 ·refine wpAny_storeName_local hk hn (fun h' hn' hs=> ?_) hcls
  obtain⟨oL,_,_,hoL,_⟩:=id hn
  refine h _ ⟨I.ok,I.os,I.bare,⟨fun b o e n hb hx=> ?_,fun b o e n hb hx=> ?_,I.base.free,fun b o e hx=> ?_,I.base.tups,I.base.frzs,I.base.tbls⟩,⟨_,hn',fun j y v' e1 e2 e3=> ?_⟩,fun y c e=> ?_,I.free,I.freeC,fun p hp=> ?_,tracked ⟨oL,hoL,I.free⟩ hs,by simpa using I.len⟩ ⟨_,hs, .inl rfl⟩
  ·exact(hs.2 b (Nat.ne_of_lt (Nat.lt_of_lt_of_le (Heap.lt_size e) I.ok.above))).trans (I.base.keep b o e n hb hx)
  ·obtain⟨sl,e1⟩:=I.base.slot b o e n hb hx
   exact⟨sl,(hs.2 b (Nat.ne_of_lt (Nat.lt_of_lt_of_le (Heap.lt_size e) I.ok.above))).trans e1⟩
  ·obtain⟨o',e1⟩:=I.base.there b o e hx
   exact⟨o',(hs.2 b (Nat.ne_of_lt (Nat.lt_of_lt_of_le (Heap.lt_size e) I.ok.above))).trans e1⟩
  ·by_cases hj:j=i
   ·subst hj
    rw[hi] at e1;cases e1
    rw[List.getElem?_set_self hiσ] at e2
    cases e2
    exact⟨u,r, .inl ⟨hk,by simp⟩⟩
   ·rw[List.getElem?_set_ne (Ne.symm hj)] at e2
    obtain⟨u',r',q⟩:=hl j y v' e1 e2 e3
    refine⟨u',r', ?_⟩
    rcases q with⟨k,e⟩|⟨k,c,e,z⟩
    ·refine .inl ⟨k, ?_⟩
     have:y≠x:=fun e=>hj (z7O hN e1 (e▸hi))
     simp[this,e]
    ·exact .inr ⟨k,c,e,z.sameBut hs (cne y c e)⟩
  ·obtain⟨w',z⟩:=I.cell y c e
   exact⟨w',z.sameBut hs (cne y c e)⟩
  ·obtain⟨e,n,ne,nf,d⟩:=I.pin p hp
   exact⟨(hs.2 p.1 ne).trans e,n,ne,nf,d⟩
 ·have hfn:X.fn x=true:=by
   rcases hf with z|z
   ·exact z
   ·rw[z] at hk;cases hk
  obtain⟨c,hc⟩:=I.ok.has x (.inl hk)
  obtain⟨w',z⟩:=I.cell x c hc
  refine wpAny_storeName_cell I.ok.kind hk hc z (fun h' hc' hs=> ?_)
  obtain⟨oc,hoc,hocd⟩:=id z
  refine h {s with heap:=h'} ⟨I.ok,I.os,I.bare,⟨fun b o e n hb hx=> ?_,fun b o e n hb hx=> ?_,I.base.free,fun b o e hx=> ?_,I.base.tups,I.base.frzs,I.base.tbls⟩,⟨m,hn.sameBut hs (Ne.symm (cne x c hc)),fun j y v' e1 e2 e3=> ?_⟩,fun y c' e=> ?_,I.free,I.freeC,fun p hp=> ?_,tracked ⟨oc,hoc,I.freeC x c hc⟩ hs,by simpa using I.len⟩ ⟨c,hs, .inr hc⟩
  ·exact(hs.2 b (Nat.ne_of_lt (Nat.lt_of_lt_of_le (Heap.lt_size e) (I.ok.cab x c hfn hc)))).trans (I.base.keep b o e n hb hx)
  ·obtain⟨sl,e1⟩:=I.base.slot b o e n hb hx
   exact⟨sl,(hs.2 b (Nat.ne_of_lt (Nat.lt_of_lt_of_le (Heap.lt_size e) (I.ok.cab x c hfn hc)))).trans e1⟩
  ·obtain⟨o',e1⟩:=I.base.there b o e hx
   exact⟨o',(hs.2 b (Nat.ne_of_lt (Nat.lt_of_lt_of_le (Heap.lt_size e) (I.ok.cab x c hfn hc)))).trans e1⟩
  ·by_cases hj:j=i
   ·subst hj
    rw[hi] at e1;cases e1
    rw[List.getElem?_set_self hiσ] at e2
    cases e2
    exact⟨u,r, .inr ⟨.inl hk,c,hc,hc'⟩⟩
   ·rw[List.getElem?_set_ne (Ne.symm hj)] at e2
    obtain⟨u',r',q⟩:=hl j y v' e1 e2 e3
    refine⟨u',r', ?_⟩
    rcases q with q|⟨k,c',e,z'⟩
    ·exact .inl q
    ·refine .inr ⟨k,c',e,z'.sameBut hs ?_⟩
     rintro rfl
     exact hj (z7O hN e1 (I.ok.inj _ _ _ e hc▸hi))
  ·by_cases hcc:c'=c
   ·subst hcc;exact⟨_,hc'⟩
   ·obtain⟨w2,z2⟩:=I.cell y c' e
    exact⟨w2,z2.sameBut hs hcc⟩
  ·obtain⟨e,n,ne,nf,d⟩:=I.pin p hp
   refine⟨(hs.2 p.1 ?_).trans e,n,ne,nf,d⟩
   intro q
   rw[q,hoc] at e
   have q':oc=p.2:=Option.some.inj e
   exact d w' (by rw[<-q'];exact hocd)
theorem z4h{M:Model}{A:Around}{E:Value->Shared->Prop}{i:Nat}{x:Str}{v:V}{u:Value}{Q:Unit->Shared->Prop}(I:Inv X pins σ H s)(hN:X.N.Nodup)(hi:X.N[i]? =some x)(hx:Loc X.env.scope x)(r:RelV v u)
 (h: ∀s',Inv X pins (σ.set i (some v)) H s'->Q () s') (hf:X.fn x=true\/X.env.scope.names.lookup x=some .local:=by first|exact .inl rfl|exact .inr rfl|assumption):wpAny M A (storeName X.env x u) Q E s:=
 z8S I hN hi hx r (fun s' I' _=>h s' I') hf
theorem Inv.call'{s':Shared}{ch:List Addr}(I:Inv X pins σ H s)(ho:s'.os=s.os)(u:Un (frs X.stack) ch H H' s.heap s'.heap)(hok:HOk X.prog X.w H' s'.heap)(hg:AllBare s'.gens)
 (hch: ∀b∈ch,(b∈X.ex\/X.s₀.heap.objs.size<=b)/\b≠X.env.locals/\(∀x c,X.env.cells.lookup x=some c->c≠b)/\∀p∈X.pn++pins,p.1≠b):Inv X pins σ H' s':=by
 obtain⟨h',g',d',t',o'⟩:=s'
 have e:o'=s.os:=ho
 subst e
 exact I.call (g':=g') (t':=t') (d':=d') u hok hg hch
end
noncomputable abbrev XK:=Value->Option Addr->Hp->Prop
noncomputable abbrev St:=List (Option V)
noncomputable abbrev VK:=V->Hp->Prop
noncomputable abbrev TE:=St->Hp->VK->Prop
noncomputable abbrev TT:=St->Hp->(Bool->Hp->Prop)->Prop
noncomputable abbrev TA:=St->Hp->(List V->Hp->Prop)->Prop
structure Ends where
 nx:St->Hp->Prop
 rt:VK
 bk:St->Hp->Prop:=fun _ _=>False
 ct:St->Hp->Prop:=fun _ _=>False
noncomputable abbrev TS:=Ends->St->Hp->Prop
noncomputable def EP(X:Cx)(pins:List (Addr×Obj))(σ:St)(Q:VK)(u:Value)(s':Shared):Prop:= ∃v H',Inv X pins σ H' s'/\RelV v u/\Q v H'
noncomputable def TP(X:Cx)(pins:List (Addr×Obj))(σ:St)(Q:Bool->Hp->Prop)(b:Bool)(s':Shared):Prop:= ∃H',Inv X pins σ H' s'/\Q b H'
noncomputable def AP(X:Cx)(pins:List (Addr×Obj))(σ:St)(Q:List V->Hp->Prop)(us:List Value)(s':Shared):Prop:= ∃vs H',Inv X pins σ H' s'/\Vals vs us/\Q vs H'
noncomputable def SP(X:Cx)(pins:List (Addr×Obj))(D:Ends)(f:Flow)(s':Shared):Prop:=
 match f with
 | .next=> ∃σ' H',Inv X pins σ' H' s'/\D.nx σ' H'
 | .brk=> ∃σ' H',Inv X pins σ' H' s'/\D.bk σ' H'
 | .cont=> ∃σ' H',Inv X pins σ' H' s'/\D.ct σ' H'
 | .ret u=> ∃v σ' H',Inv X pins σ' H' s'/\RelV v u/\D.rt v H'
noncomputable def PE(X:Cx)(e:Expr)(t:TE):Prop:=
 ∀(pins:List (Addr×Obj)) (s:Shared) (σ:St) (H:Hp) (Q:VK),Inv X pins σ H s->t σ H Q->wpAny (model X.prog X.w) X.A (eval e X.env) (EP X pins σ Q) X.xe s
noncomputable def PT(X:Cx)(e:Expr)(t:TT):Prop:=
 ∀(pins:List (Addr×Obj)) (s:Shared) (σ:St) (H:Hp) (Q:Bool->Hp->Prop),Inv X pins σ H s->t σ H Q->wpAny (model X.prog X.w) X.A (isTrue e X.env (eval e X.env)) (TP X pins σ Q) X.xe s
noncomputable def PW(X:Cx)(e:Expr)(t:TT):Prop:=
 ∀(whole:Sem Value) (pins:List (Addr×Obj)) (s:Shared) (σ:St) (H:Hp) (Q:Bool->Hp->Prop),Inv X pins σ H s->t σ H Q->wpAny (model X.prog X.w) X.A (isTrue e X.env whole) (TP X pins σ Q) X.xe s
theorem PW.pt{X:Cx}{e:Expr}{t:TT}(h:PW X e t):PT X e t:=h _
noncomputable def PA(X:Cx)(es:List Expr)(t:TA):Prop:=
 ∀(pos:Pos) (pins:List (Addr×Obj)) (s:Shared) (σ:St) (H:Hp) (Q:List V->Hp->Prop),Inv X pins σ H s->t σ H Q->wpAny (model X.prog X.w) X.A (spliced (backTo pos (starEach es X.env))) (AP X pins σ Q) X.xe s
noncomputable def PS(X:Cx)(st:Stmt)(t:TS):Prop:=
 ∀(pins:List (Addr×Obj)) (s:Shared) (σ:St) (H:Hp) (D:Ends),Inv X pins σ H s->t D σ H->wpAny (model X.prog X.w) X.A (exec st X.env) (SP X pins D) X.xe s
noncomputable def PSs(X:Cx)(st:List Stmt)(t:TS):Prop:=
 ∀(pins:List (Addr×Obj)) (s:Shared) (σ:St) (H:Hp) (D:Ends),Inv X pins σ H s->t D σ H->wpAny (model X.prog X.w) X.A (execs st X.env) (SP X pins D) X.xe s
theorem thn{α:Type}{t:Sem α}{Q Q':α->Shared->Prop}{M:Model}{A:Around}{E:Value->Shared->Prop}{s:Shared}(h:wpAny M A t Q E s)(hQ: ∀a s,Q a s->Q' a s):wpAny M A t Q' E s:=wpAny_mono h hQ fun _ _ x=>x
section
variable{X:Cx}
noncomputable def tVar(i:Nat):TE:=fun σ H Q=> ∃v,σ[i]? =some (some v)/\Q v H
noncomputable def tC(v:V):TE:=fun _ H Q=>Q v H
theorem zev{i:Nat}{x:Str}{pos:Pos}(hN:X.N[i]? =some x)(hv:Vis X.env.scope x)(hd:(x==("__debug__" :Str))=false:=by decide)(hcd:(x==("__classdict__" :Str))=false:=by decide):PE X (.Name x pos) (tVar i):=by
 intro pins s σ H Q I h
 obtain⟨v,e,h⟩:=h
 obtain⟨m,hn,hl⟩:=I.loc
 obtain⟨u,r,l⟩:=hl i x v hN e hv
 have fin:EP X pins σ Q u s:=⟨v,H,I,r,h⟩
 rcases l with⟨hk,hm⟩|⟨hk,c,hc,hcell⟩
 ·exact wpAny_Name (wpAny_loadName_local I.ok.kind hk hn hm fin) hd
 ·rcases hk with hk|hk
  ·exact wpAny_Name (wpAny_loadName_cell I.ok.kind hk hc hcell fin) hd
  ·exact wpAny_Name (wpAny_loadName_free I.ok.kind hk hc hcell fin hcd) hd
theorem z00{i j pos}:PE X (.Constant (.int i) j pos) (tC (.int i)):=fun _ _ _ H _ I h=>wpAny_Constant_int ⟨.int i,H,I.tok _,⟨_,rfl⟩,h⟩
theorem z5z{b j pos}:PE X (.Constant (.bool b) j pos) (tC (.bl b)):=fun _ _ _ H _ I h=>Constant_bool ⟨.bl b,H,I,rfl,h⟩
theorem z1i{j pos}:PE X (.Constant .none j pos) (tC .non):=fun _ _ _ H _ I h=>Constant_none ⟨.non,H,I,rfl,h⟩
theorem z0d{x j pos}:PE X (.Constant (.str x) j pos) (tC (.str x)):=fun _ _ _ H _ I h=>Calls.Constant_str ⟨.str x,H,I.tok _,⟨_,rfl⟩,h⟩
noncomputable def Gl(X:Cx)(x:Str):Prop:=X.env.kindOf x=some .globalImplicit
theorem z4q{E:Value->Shared->Prop}{pins:List (Addr×Obj)}{s:Shared}{σ:St}{H:Hp}{x:Str}{u:Value}{pos:Pos}{Q:Value->Shared->Prop}(I:Inv X pins σ H s)(hg:Gl X x)(hm:X.mg x=some u)(h:Q u s)
 (hd:(x==("__debug__" :Str))=false:=by decide):wpAny (model X.prog X.w) X.A (eval (.Name x pos) X.env) Q E s:=
 Calls.Name_function_global I.ok.kind hg (Calls.loadGlobal_global (by rw[I.ok.glob];exact I.mod.glob.keeps I.bk) hm h) hd
theorem z7P{E:Value->Shared->Prop}{pins:List (Addr×Obj)}{s:Shared}{σ:St}{H:Hp}{x:Str}{u:Value}{pos:Pos}{Q:Value->Shared->Prop}(I:Inv X pins σ H s)(hg:Gl X x)(hm:X.mg x=none)(hv:bootBuiltins x=some u)(h:Q u s)
 (hn:x≠ "__name__" :=by decide) (hd:(x==("__debug__" :Str))=false:=by decide):wpAny (model X.prog X.w) X.A (eval (.Name x pos) X.env) Q E s:=by
 obtain⟨mb,h1,h2⟩:=I.mod.blt
 exact Calls.Name_function_global I.ok.kind hg (Calls.loadGlobal_builtin (by rw[I.ok.glob];exact I.mod.glob.keeps I.bk) hm (by rw[I.ok.blt];exact h1.keeps I.bk) ((h2 x hn).trans hv) h) hd
theorem z05{x:Str}{v:V}{u:Value}{pos:Pos}(hg:Gl X x)(hm:X.mg x=some u)(r:RelV v u)(hd:(x==("__debug__" :Str))=false:=by decide):PE X (.Name x pos) (tC v):=
 fun _ _ _ H _ I h=>z4q I hg hm ⟨v,H,I,r,h⟩ hd
theorem z36{x:Str}{v:V}{u:Value}{pos:Pos}(hg:Gl X x)(hm:X.mg x=none)(hv:bootBuiltins x=some u)(r:RelV v u)(hn:x≠ "__name__" :=by decide)(hd:(x==("__debug__" :Str))=false:=by decide):PE X (.Name x pos) (tC v):=
 fun _ _ _ H _ I h=>z7P I hg hm hv ⟨v,H,I,r,h⟩ hn hd
variable{a b:Expr}{ta tb:TE}{pos:Pos}
variable{tA tB':TT}{rest:List Expr}
noncomputable def tAnd(t u:TT):TT:=fun σ H Q=>t σ H fun c H1=>if c=true then u σ H1 Q else Q false H1
noncomputable def tOr(t u:TT):TT:=fun σ H Q=>t σ H fun c H1=>if c=true then Q true H1 else u σ H1 Q
noncomputable def tNot(t:TT):TT:=fun σ H Q=>t σ H fun c H1=>Q (!c) H1
theorem zcO(ha:PT X a tA):PW X (.BoolOp .And [a] pos) tA:=by
 intro wh pins s σ H Q I h
 refine isTrue_and (thn (ha pins s σ H Q I h) fun c s1 e=> ?_)
 cases c with
 |true=>exact isTrue_and_nil e
 |false=>exact e
theorem zew(ha:PT X a tA):PW X (.BoolOp .Or [a] pos) tA:=by
 intro wh pins s σ H Q I h
 refine isTrue_or (thn (ha pins s σ H Q I h) fun c s1 e=> ?_)
 cases c with
 |false=>exact isTrue_or_nil e
 |true=>exact e
theorem zex(ha:PT X a tA)(hb:PW X (.BoolOp .And (b::rest) pos) tB'):PW X (.BoolOp .And (a::b::rest) pos) (tAnd tA tB'):=by
 intro wh pins s σ H Q I h
 refine isTrue_and (thn (ha pins s σ H _ I h) fun c s1 ⟨H1,I1,q1⟩=> ?_)
 cases c with
 |true=>exact hb wh pins s1 σ H1 Q I1 q1
 |false=>exact⟨H1,I1,q1⟩
theorem zhk(ha:PT X a tA)(hb:PW X (.BoolOp .Or (b::rest) pos) tB'):PW X (.BoolOp .Or (a::b::rest) pos) (tOr tA tB'):=by
 intro wh pins s σ H Q I h
 refine isTrue_or (thn (ha pins s σ H _ I h) fun c s1 ⟨H1,I1,q1⟩=> ?_)
 cases c with
 |true=>exact⟨H1,I1,q1⟩
 |false=>exact hb wh pins s1 σ H1 Q I1 q1
theorem zey(ha:PT X a tA):PT X (.UnaryOp .Not a pos) (tNot tA):=by
 intro pins s σ H Q I h
 exact isTrue_not (ha pins s σ H (fun c H1=>Q (!c) H1) I h)
noncomputable def zhl(ta tb:TE):TE:=fun σ H Q=>ta σ H fun x H1=> ∃c,x= .bl c/\if c=true then tb σ H1 Q else Q (.bl false) H1
noncomputable def tOrV(ta tb:TE):TE:=fun σ H Q=>ta σ H fun x H1=> ∃c,x= .bl c/\if c=true then Q (.bl true) H1 else tb σ H1 Q
noncomputable def zhm(ta:TE):TE:=fun σ H Q=>ta σ H fun x H1=> ∃c,x= .bl c/\Q (.bl (!c)) H1
theorem zez{op}{t:TE}(h:PE X a t):PE X (.BoolOp op [a] pos) t:=fun pins s σ H Q I hw=>BoolOp_one (h pins s σ H Q I hw)
theorem zeA(ha:PE X a ta)(hb:PE X (.BoolOp .And (b::rest) pos) tb):PE X (.BoolOp .And (a::b::rest) pos) (zhl ta tb):=by
 intro pins s σ H Q I h
 refine BoolOp_and (thn (ha pins s σ H _ I h) fun v s1 ⟨x,H1,I1,r1,q1⟩=> ?_)
 obtain⟨c,rfl,q1⟩:=q1
 cases r1
 refine wpAny_truthy_bool ?_
 cases c with
 |true=>exact hb pins s1 σ H1 Q I1 q1
 |false=>exact⟨.bl false,H1,I1,rfl,q1⟩
theorem zhn(ha:PE X a ta)(hb:PE X (.BoolOp .Or (b::rest) pos) tb):PE X (.BoolOp .Or (a::b::rest) pos) (tOrV ta tb):=by
 intro pins s σ H Q I h
 refine BoolOp_or (thn (ha pins s σ H _ I h) fun v s1 ⟨x,H1,I1,r1,q1⟩=> ?_)
 obtain⟨c,rfl,q1⟩:=q1
 cases r1
 refine wpAny_truthy_bool ?_
 cases c with
 |false=>exact hb pins s1 σ H1 Q I1 q1
 |true=>exact⟨.bl true,H1,I1,rfl,q1⟩
theorem zeB(ha:PE X a ta):PE X (.UnaryOp .Not a pos) (zhm ta):=by
 intro pins s σ H Q I h
 refine UnaryOp_ (thn (ha pins s σ H _ I h) fun v s1 ⟨x,H1,I1,r1,q1⟩=> ?_)
 obtain⟨c,rfl,q1⟩:=q1
 cases r1
 exact not_of (wpAny_truthy_bool ⟨.bl (!c),H1,I1,rfl,q1⟩)
noncomputable def tIf(t:TT)(ta tb:TE):TE:=fun σ H Q=>t σ H fun c H1=>if c=true then ta σ H1 Q else tb σ H1 Q
theorem zaN{c:Expr}(hc:PT X c tA)(ha:PE X a ta)(hb:PE X b tb):PE X (.IfExp c a b pos) (tIf tA ta tb):=by
 intro pins s σ H Q I h
 refine wpAny_IfExp (thn (hc pins s σ H _ I h) fun d s1 ⟨H1,I1,q1⟩=> ?_)
 cases d with
 |true=>exact ha pins s1 σ H1 Q I1 q1
 |false=>exact hb pins s1 σ H1 Q I1 q1
end
noncomputable def SqL(K:W.Frag)(H:Hp)(a:Addr)(xs:List V):Prop:=
 Rd H a (.lst xs)\/
  ∃(o:Obj) (its:Array Value) (n:Nat),K.lookup a=some o/\o.cls= .type "list" /\o.dict=none/\o.data= .seq its n/\its.size<=sizeLine/\Vals xs its.toList
noncomputable def SqT(K:W.Frag)(H:Hp)(a:Addr)(xs:List V):Prop:=
 Rd H a (.tup xs)\/
  ∃(o:Obj) (its:Array Value) (n:Nat),K.lookup a=some o/\o.cls= .type "tuple" /\o.data= .seq its n/\its.size<=sizeLine/\Vals xs its.toList
noncomputable def absV:Value->Option V
 | .none=>some .non
 | .bool b=>some (.bl b)
 | .int i _=>some (.int i)
 | .str x _=>some (.str x)
 | .bytes b _=>some (.byt b)
 | .float b _=>some (.flt b)
 | .ref a=>some (.ref a)
 | .type n=>some (.ty n)
 |_=>none
theorem RelV.abs{x:V}{u:Value}(r:RelV x u):absV u=some x:=by
 cases x with
 |non=>cases r;rfl
 |bl _=>cases r;rfl
 |int _=>obtain⟨t,rfl⟩:=r;rfl
 |str _=>obtain⟨t,rfl⟩:=r;rfl
 |byt _=>obtain⟨t,rfl⟩:=r;rfl
 |flt _=>obtain⟨t,rfl⟩:=r;rfl
 |ref _=>cases r;rfl
 |ty _=>cases r;rfl
theorem RelV.inj{x y:V}{u:Value}(r:RelV x u)(q:RelV y u):x=y:=Option.some.inj (r.abs.symm.trans q.abs)
theorem Vals.inj: ∀{xs ys:List V} {us:List Value},Vals xs us->Vals ys us->xs=ys
 |_,_,_, .nil, .nil=>rfl
 |_,_,_, .cons r t, .cons r' t'=>by rw[r.inj r',Vals.inj t t']
section
variable{X:Cx}{pins:List (Addr×Obj)}{σ:St}{H:Hp}{s:Shared}{a:Addr}{xs ys:List V}
theorem SqL.of{K:W.Frag}(h:H a=some (.lst xs)):SqL K H a xs:= .inl (.inl h)
theorem SqT.of{K:W.Frag}(h:H a=some (.tup xs)):SqT K H a xs:= .inl (.inl h)
theorem Inv.list(I:Inv X pins σ H s)(h:SqL X.K H a xs): ∃its:List Value,Vals xs its/\PlainL s.heap a its.toArray/\xs.length<=sizeLine:=by
 rcases h with h|⟨o,its,n,hk,hc,hd,hs,hz,r⟩
 ·obtain⟨z,its,n,r,e⟩:=h.ok I.hok
  exact⟨its,r,⟨_,n,e,rfl,rfl,rfl⟩,z⟩
 ·refine⟨its.toList,r,⟨o,n,I.kIn a o hk,hc,hd,by simpa using hs⟩, ?_⟩
  have e:=r.length
  simp only[Array.length_toList] at e
  lia
theorem Inv.tuple(I:Inv X pins σ H s)(h:SqT X.K H a xs): ∃its:List Value,Vals xs its/\IsTup s.heap a its.toArray/\xs.length<=sizeLine:=by
 rcases h with h|⟨o,its,n,hk,hc,hs,hz,r⟩
 ·obtain⟨z,its,r,p⟩:=h.ok I.hok
  exact⟨its,r,p,z⟩
 ·refine⟨its.toList,r,⟨o,I.kIn a o hk,hc,n,by simpa using hs⟩, ?_⟩
  have e:=r.length
  simp only[Array.length_toList] at e
  lia
theorem Inv.list_inj(I:Inv X pins σ H s)(h:SqL X.K H a xs)(h':SqL X.K H a ys):xs=ys:=by
 obtain⟨its,r,⟨o,n,e,_,_,d⟩,_⟩:=I.list h
 obtain⟨its',r',⟨o',n',e',_,_,d'⟩,_⟩:=I.list h'
 rw[e] at e';cases e'
 rw[d] at d'
 injection d' with d1 _
 have:its=its':=by simpa using congrArg Array.toList d1
 subst this
 exact r.inj r'
theorem Inv.tuple_inj(I:Inv X pins σ H s)(h:SqT X.K H a xs)(h':SqT X.K H a ys):xs=ys:=by
 obtain⟨its,r,⟨o,e,_,n,d⟩,_⟩:=I.tuple h
 obtain⟨its',r',⟨o',e',_,n',d'⟩,_⟩:=I.tuple h'
 rw[e] at e';cases e'
 rw[d] at d'
 injection d' with d1 _
 have:its=its':=by simpa using congrArg Array.toList d1
 subst this
 exact r.inj r'
end
noncomputable abbrev Cx.wish(X:Cx)(E:Value->Shared->Prop):Cx:={X with xe:=E}
noncomputable abbrev Cx.nox(X:Cx):Cx:=X.wish fun _ _=>False
theorem Cx.Ok.wish{X:Cx}(ok:X.Ok)(E:Value->Shared->Prop):(X.wish E).Ok:=
 ⟨ok.mod,ok.kind,ok.glob,ok.blt,ok.above,ok.inj,ok.has,ok.cab,ok.hd,ok.frames,ok.stk,ok.exf,ok.bs,ok.bsz,ok.noex,ok.exfs,ok.funs,ok.frf⟩
theorem Cx.Ok.unwish{X:Cx}{E:Value->Shared->Prop}(ok:(X.wish E).Ok):X.Ok:=
 ⟨ok.mod,ok.kind,ok.glob,ok.blt,ok.above,ok.inj,ok.has,ok.cab,ok.hd,ok.frames,ok.stk,ok.exf,ok.bs,ok.bsz,ok.noex,ok.exfs,ok.funs,ok.frf⟩
section
variable{X:Cx}{pins:List (Addr×Obj)}{σ:St}{H:Hp}{s:Shared}{E:Value->Shared->Prop}
theorem Inv.wish(I:Inv X pins σ H s)(E:Value->Shared->Prop):Inv (X.wish E) pins σ H s:=⟨I.ok.wish E,I.os,I.bare,I.base,I.loc,I.cell,I.free,I.freeC,I.pin,I.hok,I.len⟩
theorem Inv.unwish(I:Inv (X.wish E) pins σ H s):Inv X pins σ H s:=⟨I.ok.unwish,I.os,I.bare,I.base,I.loc,I.cell,I.free,I.freeC,I.pin,I.hok,I.len⟩
theorem SP.unwish{D:Ends}{f:Flow}{s':Shared}(h:SP (X.wish E) pins D f s'):SP X pins D f s':=by
 cases f with
 |next=>obtain⟨σ',H',I,q⟩:=h;exact⟨σ',H',I.unwish,q⟩
 |brk=>obtain⟨σ',H',I,q⟩:=h;exact⟨σ',H',I.unwish,q⟩
 |cont=>obtain⟨σ',H',I,q⟩:=h;exact⟨σ',H',I.unwish,q⟩
 |ret u=>obtain⟨v,σ',H',I,r,q⟩:=h;exact⟨v,σ',H',I.unwish,r,q⟩
theorem PSs.nox{st:List Stmt}{t:TS}(h:PSs X.nox st t):PSs X st t:=fun pins s σ H D I hw=>
 wpAny_mono (h pins s σ H D (I.wish _) hw) (fun _ _ q=>q.unwish) fun _ _ z=>False.elim z
end
section
variable{X:Cx}{st:Stmt}{rest:List Stmt}{t u:TS}{e:Expr}{te:TE}{pos:Pos}
noncomputable def zho:TS:=fun D σ H=>D.nx σ H
noncomputable def tSeq(t u:TS):TS:=fun D σ H=>t {D with nx:=u D} σ H
theorem zcP:PSs X [] zho:=fun _ _ σ H _ I h=>wpAny_execs_nil ⟨σ,H,I,h⟩
theorem zaO(h1:PS X st t)(h2:PSs X rest u):PSs X (st::rest) (tSeq t u):=by
 intro pins s σ H D I h
 refine wpAny_execs_cons (thn (h1 pins s σ H {D with nx:=u D} I h) fun f s1 q=> ?_)
 cases f with
 |next=>
  obtain⟨σ',H',I',q⟩:=q
  exact h2 pins s1 σ' H' D I' q
 |ret v=>exact q
 |brk=>exact q
 |cont=>exact q
theorem zcQ(h1:PS X st t):PSs X [st] t:=by
 intro pins s σ H D I h
 refine wpAny_execs_cons (thn (h1 pins s σ H D I h) fun f s1 q=> ?_)
 cases f with
 |next=>exact wpAny_execs_nil q
 |ret v=>exact q
 |brk=>exact q
 |cont=>exact q
theorem Inv.quiet{pins:List (Addr×Obj)}{σ:St}{H:Hp}{s:Shared}(I:Inv X pins σ H s):interactive X.env=false:=by simp[interactive,I.ok.kind]
noncomputable def zhp(te:TE):TS:=fun D σ H=>te σ H fun _ H1=>D.nx σ H1
theorem zcR(he:PE X e te)(hs:swapsWith e none pos.line X.env=pure false:=by rfl):PS X (.Expr e pos) (zhp te):=by
 intro pins s σ H D I h
 exact wpAny_Expr_any (thn (he pins s σ H _ I h) fun v s1 ⟨x,H1,I1,r1,q1⟩=>⟨σ,H1,I1,q1⟩) I.quiet hs
noncomputable def tRet(te:TE):TS:=fun D σ H=>te σ H D.rt
theorem zeC(he:PE X e te):PS X (.Return (some e) pos) (tRet te):=by
 intro pins s σ H D I h
 exact wpAny_Return_some (thn (he pins s σ H _ I h) fun v s1 ⟨x,H1,I1,r1,q1⟩=>⟨x,σ,H1,I1,r1,q1⟩)
noncomputable def tIfS(c:TT)(t u:TS):TS:=fun D σ H=>c σ H fun b H1=>if b=true then t D σ H1 else u D σ H1
theorem zhq{c:Expr}{a b:List Stmt}{tc:TT}(hc:PT X c tc)(ha:PSs X a t)(hb:PSs X b u):PS X (.If c a b pos) (tIfS tc t u):=by
 intro pins s σ H D I h
 refine wpAny_If (thn (hc pins s σ H _ I h) fun d s1 ⟨H1,I1,q1⟩=> ?_)
 cases d with
 |true=>exact ha pins s1 σ H1 D I1 q1
 |false=>exact hb pins s1 σ H1 D I1 q1
end
noncomputable abbrev TG:=V->St->Hp->(St->Hp->Prop)->Prop
noncomputable abbrev TGs:=List V->St->Hp->(St->Hp->Prop)->Prop
noncomputable def PG(X:Cx)(target:Expr)(t:TG):Prop:=
 ∀(pins:List (Addr×Obj)) (s:Shared) (σ:St) (H:Hp) (v:V) (u:Value) (Q:St->Hp->Prop),Inv X pins σ H s->RelV v u->t v σ H Q->
  wpAny (model X.prog X.w) X.A (assign target X.env u) (fun _ s'=> ∃σ' H',Inv X pins σ' H' s'/\Q σ' H') X.xe s
noncomputable def PGs(X:Cx)(ts:List Expr)(t:TGs):Prop:=
 ∀(pins:List (Addr×Obj)) (s:Shared) (σ:St) (H:Hp) (vs:List V) (us:List Value) (Q:St->Hp->Prop),Inv X pins σ H s->Vals vs us->t vs σ H Q->
  wpAny (model X.prog X.w) X.A (assignInOrder ((assignEach ts X.env).map (·.2)) us) (fun _ s'=> ∃σ' H',Inv X pins σ' H' s'/\Q σ' H') X.xe s
noncomputable abbrev TSet:=V->V->V->Hp->(Hp->Prop)->Prop
noncomputable def PSet(X:Cx)(t:TSet):Prop:=
 ∀(pins:List (Addr×Obj)) (s:Shared) (σ:St) (H:Hp) (o i v:V) (ov iv u:Value) (Q:Hp->Prop),Inv X pins σ H s->RelV o ov->RelV i iv->RelV v u->t o i v H Q->
  wpAny (model X.prog X.w) X.A (setItem ov iv u) (fun _ s'=> ∃H',Inv X pins σ H' s'/\Q H') X.xe s
section
variable{X:Cx}{pos:Pos}
noncomputable def z8n(i:Nat):TG:=fun v σ H Q=>Q (σ.set i (some v)) H
theorem z0t{i:Nat}{x:Str}(hN:X.N.Nodup)(hi:X.N[i]? =some x)(hx:Loc X.env.scope x)(hf:X.fn x=true\/X.env.scope.names.lookup x=some .local:=by first|exact .inl rfl|exact .inr rfl|assumption):PG X (.Name x pos) (z8n i):=by
 intro pins s σ H v u Q I r h
 exact wpAny_assign_Name (z4h I hN hi hx r (fun s' I'=>⟨_,H,I',h⟩) hf)
noncomputable def gNil:TGs:=fun vs σ H Q=>vs=[]/\Q σ H
noncomputable def zhr(t:TG)(u:TGs):TGs:=fun vs σ H Q=> ∃v r,vs=v::r/\t v σ H fun σ' H'=>u r σ' H' Q
theorem zcS:PGs X [] gNil:=by
 intro pins s σ H vs us Q I r h
 obtain⟨e,h⟩:=h
 subst e
 cases r
 exact assignInOrder_nil ⟨σ,H,I,h⟩
theorem zaP{e:Expr}{es:List Expr}{t:TG}{u:TGs}(h1:PG X e t)(h2:PGs X es u)
 (hs:(assignEach (e::es) X.env).map (·.2)=assign e X.env::(assignEach es X.env).map (·.2):=by rfl):PGs X (e::es) (zhr t u):=by
 intro pins s σ H vs us Q I r h
 obtain⟨v,vr,e1,h⟩:=h
 subst e1
 cases r with
 |cons r rr=>
  rw[hs]
  refine assignInOrder_cons (thn (h1 pins s σ H _ _ _ I r h) fun _ s1 ⟨σ1,H1,I1,q1⟩=> ?_)
  exact h2 pins s1 σ1 H1 _ _ Q I1 rr q1
noncomputable def gTup(K:W.Frag)(n:Nat)(t:TGs):TG:=fun v σ H Q=> ∃a xs,v= .ref a/\SqT K H a xs/\xs.length=n/\t xs σ H Q
theorem zeD{es:List Expr}{k:Nat}{t:TGs}{n:Nat}(hc:X.calm=true)(h:PGs X es t)
 (hn:(assignEach es X.env).length=n:=by rfl) (hst:(assignEach es X.env).findIdx? (·.1)=none:=by rfl):PG X (.Tuple es k pos) (gTup X.K n t):=by
 intro pins s σ H v u Q I r hw
 obtain⟨a,xs,e1,hq,hl,hw⟩:=hw
 subst e1
 cases r
 obtain⟨its,rv,ht,hz⟩:=I.tuple hq
 refine assign_Tuple_tuple (I.ok.hd hc) ht (by simp[hn,<-hl,rv.length]) hst fun h' hx=> ?_
 have I1:Inv X pins σ H {s with heap:=h'}:=I.kept (t':=s.toks) fun b o e=>hx b o (Nat.ne_of_lt (Heap.lt_size e)) e
 exact h pins _ σ H xs _ Q I1 (by simpa using rv) hw
noncomputable def gSub(to ti:TE)(t:TSet):TG:=fun v σ H Q=>to σ H fun o H1=>ti σ H1 fun i H2=>t o i v H2 fun H3=>Q σ H3
theorem zbR{o i:Expr}{to ti:TE}{t:TSet}(ho:PE X o to)(hi:PE X i ti)(hs:PSet X t)
 (ha: ∀v,assign (.Subscript o i pos) X.env v=(do
  let ov<-holding [v] (eval o X.env)
  let iv<-holding [v,ov] (eval i X.env)
  standAt pos
  holding [v,ov,iv] (setItem ov iv v)
  release [v,ov,iv] []):=by intro _;rfl):PG X (.Subscript o i pos) (gSub to ti t):=by
 intro pins s σ H v u Q I r h
 rw[ha]
 refine wpAny_bind (wpAny_holding (thn (ho pins s σ H _ I h) fun ov s1 ⟨x,H1,I1,r1,q1⟩=> ?_))
 refine wpAny_bind (wpAny_holding (thn (hi pins s1 σ H1 _ I1 q1) fun iv s2 ⟨y,H2,I2,r2,q2⟩=> ?_))
 refine wpAny_bind (wpAny_standAt (wpAny_bind (wpAny_holding (thn (hs pins s2 σ H2 x y v ov iv u _ I2 r1 r2 r q2) fun _ s3 ⟨H3,I3,q3⟩=> ?_))))
 exact wpAny_release ⟨σ,H3,I3,q3⟩
noncomputable def tAsg(te:TE)(g:TG):TS:=fun D σ H=>te σ H fun x H1=>g x σ H1 D.nx
theorem zbS{tg e:Expr}{te:TE}{g:TG}(he:PE X e te)(hg:PG X tg g)(hs:swapsWithSole [tg] e pos.line X.env=pure false:=by rfl)(hw:swappedStores [tg] e X.env=pure none:=by rfl)
 (h1:(assignEach [tg] X.env).map (·.2)=[assign tg X.env]:=by rfl):PS X (.Assign [tg] e pos) (tAsg te g):=by
 intro pins s σ H D I h
 refine wpAny_Assign_stores (thn (he pins s σ H _ I h) fun v s1 ⟨x,H1,I1,r1,q1⟩=> ?_) hs hw
 rw[h1]
 exact thn (hg pins s1 σ H1 x v _ I1 r1 q1) fun _ s2 q=>q
theorem z8T{i:Nat}{x:Str}{e:Expr}{te:TE}{pos':Pos}(hN:X.N.Nodup)(hi:X.N[i]? =some x)(hx:Loc X.env.scope x)(he:PE X e te)(hs:swapsWith e (some (.Name x pos')) pos.line X.env=pure false:=by rfl)(hf:X.fn x=true\/X.env.scope.names.lookup x=some .local:=by first|exact .inl rfl|exact .inr rfl|assumption):
 PS X (.Assign [.Name x pos'] e pos) (tAsg te (z8n i)):=by
 intro pins s σ H D I h
 refine wpAny_Assign_Name (thn (he pins s σ H _ I h) fun v s1 ⟨y,H1,I1,r1,q1⟩=> ?_) hs
 exact z4h I1 hN hi hx r1 (fun s2 I2=>⟨_,H1,I2,q1⟩) hf
end
structure It where
 go:Nat->Hp->Prop
 yld:Nat->Hp->V->Hp->Prop
 stop:Nat->Hp->Prop
noncomputable def FpOk(X:Cx)(pins:List (Addr×Obj))(H:Hp)(b:Addr):Prop:=
 H b=none/\b≠X.env.locals/\b∉X.fs/\(b∈X.ex\/X.s₀.heap.objs.size<=b)/\(∀x c,X.env.cells.lookup x=some c->c≠b)/\∀p∈X.pn++pins,p.1≠b
theorem Inv.fpOk{X:Cx}{pins:List (Addr×Obj)}{σ:St}{H H':Hp}{s:Shared}{b:Addr}(I:Inv X pins σ H s)(hb:s.heap.objs.size<=b)(hn:H' b=none):FpOk X pins H' b:=by
 refine⟨hn,Nat.ne_of_gt (Nat.lt_of_lt_of_le I.lt hb),I.nofs hb, .inr (Nat.le_trans I.sz hb),fun x c e z=> ?_,fun p hp z=> ?_⟩
 ·obtain⟨v,q⟩:=I.cell x c e
  exact absurd (Nat.lt_of_lt_of_le q.lt (by rw[z];exact hb)) (Nat.lt_irrefl _)
 ·exact absurd (Nat.lt_of_lt_of_le (Heap.lt_size (I.pin p hp).1) (by rw[z];exact hb)) (Nat.lt_irrefl _)
structure Turn(P:Program)(w:World)(K:W.Frag)(tg:Expr)(J:It)(fp:List Addr)(it:Addr)(tn:Nat->Heap->Prop):Prop where
 mem:it∈fp
 obj: ∀i h,tn i h->∀b∈fp,∃o,h.get? b=some o/\∀v,o.data≠ .cell v
 keep: ∀i h h',tn i h->(∀b∈fp,∀o,h.get? b=some o->h'.get? b=some o)->tn i h'
 item: ∀(X:Cx),X.prog=P->X.w=w->X.K=K->X.calm=true->∀(i:Nat) (pins:List (Addr×Obj)) (s:Shared) (σ:St) (H:Hp) (E:Value->Shared->Prop),Inv X pins σ H s->(∀b∈fp,FpOk X pins H b)->tn i s.heap->J.go i H->
  wpAny (model P w) X.A (pyNext (.ref it)) (fun r s1=> ∃u,r=some u/\
   wpAny (model P w) X.A (letOwnedTupleGo tg (.ref it) u) (fun _ s2=> ∃x H',Inv X pins σ H' s2/\RelV x u/\J.yld i H x H'/\tn (i+1) s2.heap/\∀b∈fp,H' b=none) E s1) E s
 done: ∀(X:Cx),X.prog=P->X.w=w->X.K=K->X.calm=true->∀(i:Nat) (pins:List (Addr×Obj)) (s:Shared) (σ:St) (H:Hp) (E:Value->Shared->Prop),Inv X pins σ H s->(∀b∈fp,FpOk X pins H b)->tn i s.heap->J.stop i H->
  wpAny (model P w) X.A (pyNext (.ref it)) (fun r s1=>r=none/\Inv X pins σ H s1) E s
 self: ∀(A:Around) (i:Nat) (s:Shared) (Q:Value->Shared->Prop) (E:Value->Shared->Prop),tn i s.heap->Q (.ref it) s->wpAny (model P w) A (pyIter (.ref it)) Q E s
noncomputable abbrev TI:=St->Hp->(It->Hp->Prop)->Prop
noncomputable def PIE(X:Cx)(pins:List (Addr×Obj))(σ:St)(tg:Expr)(R:It->Hp->Prop)(itv:Value)(s2:Shared):Prop:=
 ∃(it:Addr) (fp:List Addr) (tn:Nat->Heap->Prop) (J:It) (H':Hp),itv= .ref it/\Inv X pins σ H' s2/\Turn X.prog X.w X.K tg J fp it tn/\tn 0 s2.heap/\(∀b∈fp,FpOk X pins H' b)/\R J H'
noncomputable def PI(X:Cx)(tg iter:Expr)(wi:TI):Prop:=
 ∀(pins:List (Addr×Obj)) (s:Shared) (σ:St) (H:Hp) (R:It->Hp->Prop),Inv X pins σ H s->wi σ H R->
  wpAny (model X.prog X.w) X.A (eval iter X.env) (fun v s1=>wpAny (model X.prog X.w) X.A (pyIter v) (PIE X pins σ tg R) X.xe s1) X.xe s
theorem zaQ{M:Model}{A:Around}{E:Value->Shared->Prop}{s:Shared}{tg:Expr}{it:Addr}{u:Value}{o:Obj}{n:String}{vs:Array Value}{Q:Unit->Shared->Prop}(ho:s.heap.get? it=some o)(hc:o.cls= .type n)(hd:o.data= .fields vs)
 (hn:["enumerate", "zip", "dict_itemiterator", "dict_reverseitemiterator", "odict_iterator", "itertools.zip_longest", "itertools.pairwise"].contains n=false) (hQ:Q () s):wpAny M A (letOwnedTupleGo tg (.ref it) u) Q E s:=by
 unfold letOwnedTupleGo
 cases tg<;>first
  |exact wpAny_pure hQ
  |(cases u<;>first
   |exact wpAny_pure hQ
   |(refine wpAny_bind (wpAny_load ho ?_)
     rw[hc,hd]
     show wpAny M A (if(["enumerate", "zip", "dict_itemiterator", "dict_reverseitemiterator", "odict_iterator", "itertools.zip_longest", "itertools.pairwise"].contains n&&vs[0]? ==some (rawInt _))=true then _ else _) Q E s
     rw[if_neg (by intro h;rw[hn,Bool.false_and] at h;cases h)]
     exact wpAny_pure hQ))
noncomputable def Itl(K:W.Frag)(a:Addr):It:=
 ⟨fun i H=> ∃xs x,SqL K H a xs/\xs[i]? =some x,fun i H x H'=>H'=H/\∀xs,SqL K H a xs->xs[i]? =some x,fun i H=> ∃xs,SqL K H a xs/\xs.length<=i⟩
noncomputable def Itt(K:W.Frag)(a:Addr):It:=
 ⟨fun i H=> ∃xs x,SqT K H a xs/\xs[i]? =some x,fun i H x H'=>H'=H/\∀xs,SqT K H a xs->xs[i]? =some x,fun i H=> ∃xs,SqT K H a xs/\xs.length<=i⟩
noncomputable def Itr(lo:Int)(n:Nat):It:=⟨fun i _=>i<n,fun i H x H'=>H'=H/\x= .int (lo+i),fun i _=>n<=i⟩
theorem z8U{P:Program}{w:World}{K:W.Frag}{tg:Expr}(a it:Addr):Turn P w K tg (Itl K a) [it] it (fun i h=>h.IsListIter it a i) where
 mem:=by simp
 obj:=fun i h st b hb=>by
  have e:b=it:=by simpa using hb
  subst e
  obtain⟨o,e,c,d⟩:=st
  exact⟨o,e,fun v z=>by rw[d] at z;cases z⟩
 keep:=fun i h h' st k=>st.at fun o e=>k it (by simp) o e
 item:=by
  intro X hP hw hK hc i pins s σ H E I hf st hg
  subst hP hw hK
  obtain⟨xs,x,hq,hx⟩:=hg
  obtain⟨its,rv,p,hz⟩:=I.list hq
  obtain⟨u,hu,ru⟩:=rv.get hx
  obtain⟨f0,f1,f2,f3,f4,f5⟩:=hf it (by simp)
  refine wpAny_pyNext_list_item st p.isList (x:=u) (by simpa using hu) fun h' st' sb=> ?_
  have I1:Inv X pins σ H {s with heap:=h'}:=I.turned (t':=s.toks) (fun b o hb e=>(sb.2 b hb).trans e) f0 f1 f3 f4 f5
  obtain⟨o,e,c,d⟩:=id st'
  exact⟨u,rfl,zaQ (s:={s with heap:=h'}) e c d (by decide) ⟨x,H,I1,ru,⟨rfl,fun ys hy=>by rw[I.list_inj hy hq];exact hx⟩,st',fun b hb=>(hf b hb).1⟩⟩
 done:=by
  intro X hP hw hK hc i pins s σ H E I hf st hg
  subst hP hw hK
  obtain⟨xs,hq,hx⟩:=hg
  obtain⟨its,rv,p,hz⟩:=I.list hq
  obtain⟨f0,f1,f2,f3,f4,f5⟩:=hf it (by simp)
  have hl:=rv.length
  exact wpAny_pyNext_list_end (I.ok.hd hc) st p.isList (by simp;lia) fun h' eb=>⟨rfl,I.turned (t':=s.toks) (fun b o hb e=>eb b o hb e) f0 f1 f3 f4 f5⟩
 self:=fun _ _ _ _ _ st h=>wpAny_pyIter_listiter st h
theorem z8o{P:Program}{w:World}{K:W.Frag}{tg:Expr}(a it:Addr):Turn P w K tg (Itt K a) [it] it (fun i h=>h.IsTupleIter it a i) where
 mem:=by simp
 obj:=fun i h st b hb=>by
  have e:b=it:=by simpa using hb
  subst e
  obtain⟨o,e,c,d⟩:=st
  exact⟨o,e,fun v z=>by rw[d] at z;cases z⟩
 keep:=fun i h h' st k=>st.at fun o e=>k it (by simp) o e
 item:=by
  intro X hP hw hK hc i pins s σ H E I hf st hg
  subst hP hw hK
  obtain⟨xs,x,hq,hx⟩:=hg
  obtain⟨its,rv,p,hz⟩:=I.tuple hq
  obtain⟨u,hu,ru⟩:=rv.get hx
  obtain⟨f0,f1,f2,f3,f4,f5⟩:=hf it (by simp)
  refine wpAny_pyNext_tuple_item st (show s.heap.IsTuple a its.toArray from p) (x:=u) (by simpa using hu) fun h' st' sb=> ?_
  have I1:Inv X pins σ H {s with heap:=h'}:=I.turned (t':=s.toks) (fun b o hb e=>(sb.2 b hb).trans e) f0 f1 f3 f4 f5
  obtain⟨o,e,c,d⟩:=id st'
  exact⟨u,rfl,zaQ (s:={s with heap:=h'}) e c d (by decide) ⟨x,H,I1,ru,⟨rfl,fun ys hy=>by rw[I.tuple_inj hy hq];exact hx⟩,st',fun b hb=>(hf b hb).1⟩⟩
 done:=by
  intro X hP hw hK hc i pins s σ H E I hf st hg
  subst hP hw hK
  obtain⟨xs,hq,hx⟩:=hg
  obtain⟨its,rv,p,hz⟩:=I.tuple hq
  obtain⟨f0,f1,f2,f3,f4,f5⟩:=hf it (by simp)
  have hl:=rv.length
  exact wpAny_pyNext_tuple_end (I.ok.hd hc) st (show s.heap.IsTuple a its.toArray from p) (by simp;lia) fun h' eb=>⟨rfl,I.turned (t':=s.toks) (fun b o hb e=>eb b o hb e) f0 f1 f3 f4 f5⟩
 self:=fun _ _ _ _ _ st h=>wpAny_pyIter_tupleiter st h
theorem z8p{P:Program}{w:World}{K:W.Frag}{tg:Expr}(it:Addr)(lo:Int)(n:Nat):Turn P w K tg (Itr lo n) [it] it (fun i h=>IsRangeIter h it (lo+(i:Nat)*1) ((n:Int) -(i:Nat)) 1) where
 mem:=by simp
 obj:=fun i h st b hb=>by
  have e:b=it:=by simpa using hb
  subst e
  exact⟨_,st,fun v z=>by
   have z':Data.fields _=Data.cell v:=z
   cases z'⟩
 keep:=fun i h h' st k=>k it (by simp) _ st
 item:=by
  intro X hP hw hK hc i pins s σ H E I hf st hg
  subst hP hw hK
  obtain⟨f0,f1,f2,f3,f4,f5⟩:=hf it (by simp)
  have W:=Walks.range (prog:=X.prog) (w:=X.w) (I.ok.hd hc) it lo 1 n
  refine W.item i s _ _ hg st fun v h' tk hv st' kk=> ?_
  obtain⟨t,rfl⟩:=hv
  have I1:Inv X pins σ H {s with heap:=h',toks:=tk}:=I.turned (fun b o hb e=>kk b o (by simpa using hb) e) f0 f1 f3 f4 f5
  refine⟨_,rfl,zaQ (s:={s with heap:=h',toks:=tk}) (n:= "range_iterator") st' rfl rfl (by decide) ⟨.int (lo+i),H,I1,⟨t, ?_⟩,⟨rfl,rfl⟩,st',fun b hb=>(hf b hb).1⟩⟩
  rw[Int.mul_one]
 done:=by
  intro X hP hw hK hc i pins s σ H E I hf st hg
  subst hP hw hK
  obtain⟨f0,f1,f2,f3,f4,f5⟩:=hf it (by simp)
  exact wpAny_pyNext_range_end (I.ok.hd hc) st (by have:n<=i:=hg;lia) fun h' eb=>⟨rfl,I.turned (t':=s.toks) (fun b o hb e=>eb b o hb e) f0 f1 f3 f4 f5⟩
 self:=fun _ _ _ _ _ st h=>wpAny_pyIter_rangeiter st h
section
variable{X:Cx}{tg:Expr}
theorem zaR{pins:List (Addr×Obj)}{σ:St}{H:Hp}{s:Shared}{R:It->Hp->Prop}{E:Value->Shared->Prop}{lo hi:Int}{t u v:Tok}{tk:Nat}(I:Inv X pins σ H s)(h1: -(2^62)<=lo)(h2:lo<2^62)(h3: -(2^62)<=hi)(h4:hi<2^62)
 (q:R (Itr lo (hi -lo).toNat) H):wpAny (model X.prog X.w) X.A (pyIter (.ref s.heap.objs.size)) (PIE X pins σ tg R) E {s with heap:=s.heap.push {cls:= .type "range",data:= .fields #[.int lo t, .int hi u, .int 1 v]},toks:=tk}:=by
 refine wpAny_pyIter_range (IsRange.new ..) (small_one h1 h2 h3 h4) ?_
 have I1:Inv X pins σ H {s with heap:=s.heap.push {cls:= .type "range",data:= .fields #[.int lo t, .int hi u, .int 1 v]},toks:=tk}:=I.kept fun b o e=>Heap.get?_push_of_some _ e
 refine⟨(s.heap.push {cls:= .type "range",data:= .fields #[.int lo t, .int hi u, .int 1 v]}).objs.size,[(s.heap.push {cls:= .type "range",data:= .fields #[.int lo t, .int hi u, .int 1 v]}).objs.size],_,_,H,rfl,
  I1.kept (t':=tk) fun b o e=>Heap.get?_push_of_some _ e,z8p _ lo (hi -lo).toNat, ?_,fun b hb=> ?_,q⟩
 ·have e1:lo+((0:Nat):Int)*1=lo:=by simp
  have e2:(((hi -lo).toNat:Nat):Int) -((0:Nat):Int)=Builtin.Range.rangeSize lo hi 1:=by rw[rangeSize_one];split<;>lia
  show IsRangeIter _ _ (lo+((0:Nat):Int)*1) ((((hi -lo).toNat:Nat):Int) -((0:Nat):Int)) 1
  rw[e1,e2]
  exact Heap.get?_push_size _ rfl
 ·have e:b=(s.heap.push {cls:= .type "range",data:= .fields #[.int lo t, .int hi u, .int 1 v]}).objs.size:=by simpa using hb
  subst e
  exact I1.fpOk (Nat.le_refl _) (I1.hok.fresh (Nat.le_refl _))
noncomputable def zhs(ta:TA):TI:=fun σ H R=>ta σ H fun vs H1=> ∃j:Int,vs=[.int j]/\-(2^62)<=j/\j<2^62/\R (Itr 0 j.toNat) H1
theorem z8V{a:Expr}{ta:TA}{p pos:Pos}(hg:Gl X "range")(hm:X.mg "range" =none)(ha:PA X [a] ta)(hs:starEach [a] X.env=[(false,eval a X.env)]:=by rfl):PI X tg (.Call (.Name "range" p) [a] [] pos) (zhs ta):=by
 intro pins s σ H R I h
 refine Call_ (z7P I hg hm boot_range (PyProof.Rows.callWith_type1 (thn (ha pos pins s σ H _ I h) fun us s1 ⟨vs,H1,I1,r1,q1⟩=> ?_) hs rfl))
 obtain⟨j,e,q1,q2,q⟩:=q1
 subst e
 cases r1 with
 |cons r rr=>
  cases rr
  obtain⟨t,rfl⟩:=r
  exact call_range_1 (zaR I1 (by lia) (by lia) q1 q2 (by simpa using q))
noncomputable def tFor(wi:TI)(g:TG)(tb:TS):TS:=fun D σ H=>wi σ H fun J H1=> ∃W:Nat->Nat->St->Hp->Prop,(∃m,W 0 m σ H1)/\∀i m σ H,W i m σ H->
 (J.stop i H/\D.nx σ H)\/(J.go i H/\∃N:St->Hp->Prop,(∀σ' H',N σ' H'->∃m',m'<m/\W (i+1) m' σ' H')/\∀x H',J.yld i H x H'->g x σ H' fun σ2 H2=>tb {D with nx:=N,ct:=N,bk:=D.nx} σ2 H2)
noncomputable def z7Q(fp:List Addr)(h:Heap):List (Addr×Obj):=fp.filterMap fun b=>(h.get? b).map fun o=>(b,o)
theorem z0v{fp:List Addr}{h:Heap}{b:Addr}{o:Obj}(hb:b∈fp)(e:h.get? b=some o):(b,o)∈z7Q fp h:=List.mem_filterMap.mpr ⟨b,hb,by rw[e];rfl⟩
theorem z8W{fp:List Addr}{h:Heap}{p:Addr×Obj}(hp:p∈z7Q fp h):p.1∈fp/\h.get? p.1=some p.2:=by
 obtain⟨b,hb,e⟩:=List.mem_filterMap.mp hp
 cases q:h.get? b with
 |none=>rw[q] at e;cases e
 |some o=>
  rw[q] at e
  have e':(b,o)=p:=Option.some.inj e
  subst e'
  exact⟨hb,q⟩
theorem Inv.pinned{pins:List (Addr×Obj)}{σ:St}{H:Hp}{s:Shared}{fp:List Addr}(I:Inv X pins σ H s)(hf: ∀b∈fp,FpOk X pins H b)(ho: ∀b∈fp,∃o,s.heap.get? b=some o/\∀v,o.data≠ .cell v):Inv X (pins++z7Q fp s.heap) σ H s:=
 I.pins_of fun p hp=>(List.mem_append.mp hp).elim (fun z=>I.pin p (List.mem_append_right _ z)) fun z=>by
  obtain⟨hb,e⟩:=z8W z
  obtain⟨f0,f1,f2,_⟩:=hf p.1 hb
  obtain⟨o,e',d⟩:=ho p.1 hb
  rw[e] at e';cases e'
  exact⟨e,f0,f1,f2,d⟩
theorem Inv.unpinned{pins pl:List (Addr×Obj)}{σ:St}{H:Hp}{s:Shared}(I:Inv X (pins++pl) σ H s):Inv X pins σ H s:=I.pins_of fun p hp=>I.pin p (List.mem_append_right _ (List.mem_append_left _ hp))
theorem zeE{iter:Expr}{body:List Stmt}{wi:TI}{g:TG}{tb:TS}{pos:Pos}(hp:PassesOwn (model X.prog X.w) X.A X.env X.xe)(hc:X.calm=true)(hi:PI X tg iter wi)(hg:PG X tg g)(hb:PSs X body tb)
 (hs: ∀x,foldedSetIterable iter X.env x=pure x:=by intro _;rfl):PS X (.For tg iter body [] pos) (tFor wi g tb):=by
 intro pins s σ H D I h
 refine wpAny_For (thn (hi pins s σ H _ I h) fun v s1 h1=>thn h1 fun itv s2 h2=> ?_) hs
 obtain⟨it,fp,tn,J,H2,e,I2,T,st2,f2,W,⟨m0,w0⟩,turn⟩:=h2
 subst e
 have stat: ∀{H':Hp},(∀b∈fp,H' b=none)->∀b∈fp,FpOk X pins H' b:=fun hn b hb=>⟨hn b hb,(f2 b hb).2⟩
 refine codeAny_forLoop_any (fun n s'=> ∃i σ' H',Inv X pins σ' H' s'/\tn i s'.heap/\(∀b∈fp,H' b=none)/\W i n σ' H') ?_ m0 ⟨0,σ,H2,I2,st2,fun b hb=>(f2 b hb).1,w0⟩
 rintro n s3 ⟨i,σ3,H3,I3,st3,fr3,w3⟩
 rcases turn i n σ3 H3 w3 with⟨stop,qn⟩|⟨go,N,hN,step⟩
 ·refine wpAny_passesOwn hp (thn (T.done X rfl rfl rfl hc i pins s3 σ3 H3 X.xe I3 (stat fr3) st3 stop) fun r s4 ⟨hr,I4⟩=> ?_)
  subst hr
  exact wpAny_execs_nil ⟨σ3,H3,I4,qn⟩
 ·refine wpAny_passesOwn hp (thn (T.item X rfl rfl rfl hc i pins s3 σ3 H3 X.xe I3 (stat fr3) st3 go) fun r s4 ⟨u,hr,h4⟩=> ?_)
  subst hr
  refine wpAny_passesOwn hp (thn h4 fun _ s5 ⟨x,H5,I5,r5,y5,st5,fr5⟩=> ?_)
  have I5':=I5.pinned (stat fr5) (T.obj _ _ st5)
  refine wpAny_passesOwn hp (thn (hg _ s5 σ3 H5 x u _ I5' r5 (step x H5 y5)) fun _ s6 ⟨σ6,H6,I6,q6⟩=> ?_)
  refine wpAny_passesOwn hp (thn (hb _ s6 σ6 H6 _ I6 q6) fun f s7 q7=> ?_)
  have again: ∀{σ7:St} {H7:Hp},Inv X (pins++z7Q fp s5.heap) σ7 H7 s7->N σ7 H7->∃m,m<n/\∃i σ' H',Inv X pins σ' H' s7/\tn i s7.heap/\(∀b∈fp,H' b=none)/\W i m σ' H':=fun{σ7 H7} I7 n7=>by
   obtain⟨m',hm,w7⟩:=hN σ7 H7 n7
   refine⟨m',hm,i+1,σ7,H7,I7.unpinned,T.keep _ _ _ st5 fun b hb o e=>(I7.pin (b,o) (List.mem_append_right _ (List.mem_append_right _ (z0v hb e)))).1,fun b hb=> ?_,w7⟩
   obtain⟨o,e,d⟩:=T.obj _ _ st5 b hb
   exact(I7.pin (b,o) (List.mem_append_right _ (List.mem_append_right _ (z0v hb e)))).2.1
  cases f with
  |next=>obtain⟨σ7,H7,I7,n7⟩:=q7;exact again I7 n7
  |cont=>obtain⟨σ7,H7,I7,n7⟩:=q7;exact again I7 n7
  |brk=>obtain⟨σ7,H7,I7,q7⟩:=q7;exact⟨σ7,H7,I7.unpinned,q7⟩
  |ret v=>obtain⟨x7,σ7,H7,I7,r7,q7⟩:=q7;exact⟨x7,σ7,H7,I7.unpinned,r7,q7⟩
end
noncomputable abbrev R2:=V->V->Hp->VK->Prop
noncomputable def OpR(X:Cx)(f:Value->Value->Sem Value)(r:R2):Prop:=
 ∀(pins:List (Addr×Obj)) (s:Shared) (σ:St) (H:Hp) (x y:V) (v u:Value) (Q:VK),Inv X pins σ H s->RelV x v->RelV y u->r x y H Q->
  wpAny (model X.prog X.w) X.A (f v u) (EP X pins σ Q) X.xe s
noncomputable def UnR(X:Cx)(f:Value->Sem Value)(r:V->Hp->VK->Prop):Prop:=
 ∀(pins:List (Addr×Obj)) (s:Shared) (σ:St) (H:Hp) (x:V) (v:Value) (Q:VK),Inv X pins σ H s->RelV x v->r x H Q->
  wpAny (model X.prog X.w) X.A (f v) (EP X pins σ Q) X.xe s
noncomputable def CallR(X:Cx)(f:Value)(r:List V->Hp->VK->Prop):Prop:=
 ∀(pins:List (Addr×Obj)) (s:Shared) (σ:St) (H:Hp) (xs:List V) (us:List Value) (Q:VK),Inv X pins σ H s->Vals xs us->r xs H Q->
  wpAny (model X.prog X.w) X.A (call f us) (EP X pins σ Q) X.xe s
noncomputable def TruR(X:Cx)(r:V->Hp->(Bool->Hp->Prop)->Prop):Prop:=
 ∀(pins:List (Addr×Obj)) (s:Shared) (σ:St) (H:Hp) (x:V) (v:Value) (Q:Bool->Hp->Prop),Inv X pins σ H s->RelV x v->r x H Q->
  wpAny (model X.prog X.w) X.A (truthy v) (TP X pins σ Q) X.xe s
noncomputable def tOp(r:R2)(ta tb:TE):TE:=fun σ H Q=>ta σ H fun x H1=>tb σ H1 fun y H2=>r x y H2 Q
noncomputable def tUn(r:V->Hp->VK->Prop)(ta:TE):TE:=fun σ H Q=>ta σ H fun x H1=>r x H1 Q
noncomputable def rI(C:Int->Int->Prop)(g:Int->Int->V):R2:=fun x y H Q=> ∃i j,x= .int i/\y= .int j/\C i j/\Q (g i j) H
noncomputable def rI0(g:Int->Int->V):R2:=fun x y H Q=> ∃i j,x= .int i/\y= .int j/\Q (g i j) H
noncomputable def rU(g:Int->V):V->Hp->VK->Prop:=fun x H Q=> ∃i,x= .int i/\Q (g i) H
section
variable{X:Cx}{a b c:Expr}{ta tb tc:TE}{pos:Pos}
theorem binT(ha:PE X a ta)(hb:PE X b tb){pins:List (Addr×Obj)}{s:Shared}{σ:St}{H:Hp}{R:V->V->Hp->Prop}(I:Inv X pins σ H s)
 (h:ta σ H fun x H1=>tb σ H1 fun y H2=>R x y H2) {Q:Value->Shared->Prop} {f:Value->Value->Sem Value}
 (hf: ∀v u s2 x y H2,Inv X pins σ H2 s2->RelV x v->RelV y u->R x y H2->wpAny (model X.prog X.w) X.A (f v u) Q X.xe s2):
 wpAny (model X.prog X.w) X.A (eval a X.env) (fun v s₁=>wpAny (model X.prog X.w) X.A (eval b X.env) (fun u s₂=>wpAny (model X.prog X.w) X.A (f v u) Q X.xe s₂) X.xe s₁) X.xe s:=by
 refine thn (ha pins s σ H _ I h) fun v s1 ⟨x,H1,I1,r1,q1⟩=> ?_
 refine thn (hb pins s1 σ H1 _ I1 q1) fun u s2 ⟨y,H2,I2,r2,q2⟩=> ?_
 exact hf v u s2 x y H2 I2 r1 r2 q2
theorem zht{op:Operator}{r:R2}(ho:OpR X (binaryOp op) r)(ha:PE X a ta)(hb:PE X b tb):PE X (.BinOp a op b pos) (tOp r ta tb):=by
 intro pins s σ H Q I h
 exact wpAny_BinOp (binT ha hb I h fun v u s2 x y H2 I2 rx ry q=>ho pins s2 σ H2 x y v u Q I2 rx ry q)
theorem zhu{op:UnaryOp}{r:V->Hp->VK->Prop}(ho:UnR X (unaryOp op) r)(ha:PE X a ta):PE X (.UnaryOp op a pos) (tUn r ta):=by
 intro pins s σ H Q I h
 exact UnaryOp_ (thn (ha pins s σ H _ I h) fun v s1 ⟨x,H1,I1,r1,q1⟩=>ho pins s1 σ H1 x v Q I1 r1 q1)
theorem opI{f:Value->Value->Sem Value}{C:Int->Int->Prop}{g:Int->Int->Int}
 (rule: ∀(i j:Int) (t u:Tok) (s:Shared) (Q:Value->Shared->Prop) (E:Value->Shared->Prop),C i j->Q (.int (g i j) s.toks) {s with toks:=s.toks+1}->wpAny (model X.prog X.w) X.A (f (.int i t) (.int j u)) Q E s):
 OpR X f (rI C fun i j=> .int (g i j)):=by
 intro pins s σ H x y v u Q I rx ry h
 obtain⟨i,j,rfl,rfl,hc,q⟩:=h
 obtain⟨t,rfl⟩:=rx
 obtain⟨t',rfl⟩:=ry
 exact rule i j t t' s _ _ hc ⟨.int (g i j),H,I.tok _,⟨_,rfl⟩,q⟩
theorem opI0{f:Value->Value->Sem Value}{g:Int->Int->Int}
 (rule: ∀(i j:Int) (t u:Tok) (s:Shared) (Q:Value->Shared->Prop) (E:Value->Shared->Prop),Q (.int (g i j) s.toks) {s with toks:=s.toks+1}->wpAny (model X.prog X.w) X.A (f (.int i t) (.int j u)) Q E s):
 OpR X f (rI0 fun i j=> .int (g i j)):=by
 intro pins s σ H x y v u Q I rx ry h
 obtain⟨i,j,rfl,rfl,q⟩:=h
 obtain⟨t,rfl⟩:=rx
 obtain⟨t',rfl⟩:=ry
 exact rule i j t t' s _ _ ⟨.int (g i j),H,I.tok _,⟨_,rfl⟩,q⟩
theorem opB0{f:Value->Value->Sem Value}{g:Int->Int->Bool}
 (rule: ∀(i j:Int) (t u:Tok) (s:Shared) (Q:Value->Shared->Prop) (E:Value->Shared->Prop),Q (.bool (g i j)) s->wpAny (model X.prog X.w) X.A (f (.int i t) (.int j u)) Q E s):
 OpR X f (rI0 fun i j=> .bl (g i j)):=by
 intro pins s σ H x y v u Q I rx ry h
 obtain⟨i,j,rfl,rfl,q⟩:=h
 obtain⟨t,rfl⟩:=rx
 obtain⟨t',rfl⟩:=ry
 exact rule i j t t' s _ _ ⟨.bl (g i j),H,I,rfl,q⟩
noncomputable def CDiv(i j:Int):Prop:=0<j/\j<2^200
theorem zhv{x j:Int}(h1:0<j)(h2:j<2^200):Builtin.divisionGoesByPylong x j=false:=by
 refine PyProof.noPylong_of_log2 ?_
 have h3:j.natAbs.log2<200:=(Nat.log2_lt (by lia)).mpr (by lia)
 lia
noncomputable def CPow(i j:Int):Prop:=0<=j/\j<=1000000/\i.natAbs<2^64
noncomputable def CMul(i j:Int):Prop:=(-(2^64)<i/\i<2^64)\/(-(2^64)<j/\j<2^64)
theorem CMul.ok{i j:Int}(h:CMul i j):IntMulOk i j:=by
 rcases h with⟨h1,h2⟩|⟨h1,h2⟩
 ·exact .of_left (intBits_le_64 h1 h2)
 ·exact .of_right (intBits_le_64 h1 h2)
theorem zbT:OpR X (binaryOp .Add) (rI0 fun i j=> .int (i+j)):=opI0 fun _ _ _ _ _ _ _ q=>add_int q
theorem zeF:OpR X (binaryOp .Sub) (rI0 fun i j=> .int (i -j)):=opI0 fun _ _ _ _ _ _ _ q=>sub_int q
theorem zeG:OpR X (binaryOp .Mult) (rI CMul fun i j=> .int (i*j)):=opI fun _ _ _ _ _ _ _ hc q=>mul_int q hc.ok
theorem zcT:OpR X (binaryOp .FloorDiv) (rI CDiv fun i j=> .int (i/j)):=opI fun i j _ _ _ _ _ hc q=>by
 have h1:(0:Int)<j:=hc.1
 have h2:j<2^200:=hc.2
 exact floordiv_int (by lia) (by rw[Int.fdiv_eq_ediv_of_nonneg i (by lia)];exact q) (.inl (zhv h1 h2))
theorem zeH:OpR X (binaryOp .Mod) (rI (fun _ j=>0<j) fun i j=> .int (i %j)):=opI fun i j _ _ _ _ _ hc q=>by
 have h1:(0:Int)<j:=hc
 exact mod_int' (by lia) (by rw[Int.fmod_eq_emod_of_nonneg i (by lia)];exact q)
theorem zeI:OpR X (binaryOp .Pow) (rI CPow fun i j=> .int (i^j.toNat)):=opI fun _ _ _ _ _ _ _ hc q=>pow_int_small hc.1 hc.2.1 hc.2.2 q
theorem unI{f:Value->Sem Value}{g:Int->Int}
 (rule: ∀(i:Int) (t:Tok) (s:Shared) (Q:Value->Shared->Prop) (E:Value->Shared->Prop),Q (.int (g i) s.toks) {s with toks:=s.toks+1}->wpAny (model X.prog X.w) X.A (f (.int i t)) Q E s):
 UnR X f (rU fun i=> .int (g i)):=by
 intro pins s σ H x v Q I rx h
 obtain⟨i,rfl,q⟩:=h
 obtain⟨t,rfl⟩:=rx
 exact rule i t s _ _ ⟨.int (g i),H,I.tok _,⟨_,rfl⟩,q⟩
theorem zeJ:UnR X (unaryOp .USub) (rU fun i=> .int (-i)):=unI fun _ _ _ _ _ q=>neg_int q
end
noncomputable def scal:V->V->Bool
 | .non, .non=>true| .non, .int _=>true| .int _, .non=>true| .non, .bl _=>true| .bl _, .non=>true| .non, .str _=>true| .str _, .non=>true
 | .int _, .int _=>true| .bl _, .bl _=>true| .str _, .str _=>true| .byt _, .byt _=>true
 | .int _, .str _=>true| .str _, .int _=>true| .bl _, .str _=>true| .str _, .bl _=>true
 |_,_=>false
noncomputable def rEq:R2:=fun x y H Q=>scal x y=true/\Q (.bl (decide (x=y))) H
noncomputable def rNe:R2:=fun x y H Q=>scal x y=true/\Q (.bl (!decide (x=y))) H
theorem z8X{i j:Int}:decide (V.int i=V.int j)=(i==j):=by
 rw[Bool.eq_iff_iff]
 simp
theorem zbU{i j:Bool}:decide (V.bl i=V.bl j)=(i==j):=by
 rw[Bool.eq_iff_iff]
 simp
theorem z5A{i j:Str}:decide (V.str i=V.str j)=(i==j):=by
 rw[Bool.eq_iff_iff]
 simp
theorem z8Y{i j:Array UInt8}:decide (V.byt i=V.byt j)=(i.toList==j.toList):=by
 rw[Bool.eq_iff_iff]
 cases i
 cases j
 simp
section
variable{X:Cx}{a b c:Expr}{ta tb tc:TE}{pos:Pos}
theorem z0n{pins:List (Addr×Obj)}{σ:St}{H:Hp}{s:Shared}{Q:VK}{k k':Bool}(I:Inv X pins σ H s)(q:Q (.bl k) H)(e:k=k'):EP X pins σ Q (.bool k') s:=by
 subst e
 exact⟨.bl k,H,I,rfl,q⟩
theorem zhw:OpR X (compareOp .Eq) rEq:=by
 intro pins s σ H x y v u Q I rx ry h
 obtain⟨hs,q⟩:=h
 cases x with
 |non=>
  cases rx
  cases y with
  |non=>cases ry;exact PySem.EqNone.eq_none_none (z0n I q (by simp))
  |bl j=>cases ry;exact PySem.EqNone.eq_none_bool (z0n I q (by simp))
  |int j=>obtain⟨t',rfl⟩:=ry;exact PySem.EqNone.eq_none_int (z0n I q (by simp))
  |str j=>obtain⟨t',rfl⟩:=ry;exact PySem.EqNone.eq_none_str (z0n I q (by simp))
  |_=>exact absurd (show false=true from hs) Bool.false_ne_true
 |bl i=>
  cases rx
  cases y with
  |non=>cases ry;exact PySem.EqNone.eq_bool_none (z0n I q (by simp))
  |bl j=>cases ry;exact eq_bool (z0n I q zbU)
  |str j=>obtain⟨t',rfl⟩:=ry;exact PySem.EqMixed.eq_bool_str (z0n I q (by simp))
  |_=>exact absurd (show false=true from hs) Bool.false_ne_true
 |int i=>
  obtain⟨t,rfl⟩:=rx
  cases y with
  |non=>cases ry;exact PySem.EqNone.eq_int_none (z0n I q (by simp))
  |int j=>obtain⟨t',rfl⟩:=ry;exact eq_int (z0n I q z8X)
  |str j=>obtain⟨t',rfl⟩:=ry;exact PySem.EqMixed.eq_int_str (z0n I q (by simp))
  |_=>exact absurd (show false=true from hs) Bool.false_ne_true
 |str i=>
  obtain⟨t,rfl⟩:=rx
  cases y with
  |non=>cases ry;exact PySem.EqNone.eq_str_none (z0n I q (by simp))
  |bl j=>cases ry;exact PySem.EqMixed.eq_str_bool (z0n I q (by simp))
  |int j=>obtain⟨t',rfl⟩:=ry;exact PySem.EqMixed.eq_str_int (z0n I q (by simp))
  |str j=>obtain⟨t',rfl⟩:=ry;exact eq_str (z0n I q z5A)
  |_=>exact absurd (show false=true from hs) Bool.false_ne_true
 |byt i=>
  obtain⟨t,rfl⟩:=rx
  cases y with
  |byt j=>obtain⟨t',rfl⟩:=ry;exact W.eq_bytes (z0n I q z8Y)
  |_=>exact absurd (show false=true from hs) Bool.false_ne_true
 |_=>cases y<;>exact absurd (show false=true from hs) Bool.false_ne_true
theorem zhx:OpR X (compareOp .NotEq) rNe:=by
 intro pins s σ H x y v u Q I rx ry h
 obtain⟨hs,q⟩:=h
 cases x with
 |non=>
  cases rx
  cases y with
  |non=>cases ry;exact PySem.EqNone.ne_none_none (z0n I q (by simp))
  |bl j=>cases ry;exact PySem.EqNone.ne_none_bool (z0n I q (by simp))
  |int j=>obtain⟨t',rfl⟩:=ry;exact PySem.EqNone.ne_none_int (z0n I q (by simp))
  |str j=>obtain⟨t',rfl⟩:=ry;exact PySem.EqNone.ne_none_str (z0n I q (by simp))
  |_=>exact absurd (show false=true from hs) Bool.false_ne_true
 |bl i=>
  cases rx
  cases y with
  |non=>cases ry;exact PySem.EqNone.ne_bool_none (z0n I q (by simp))
  |bl j=>cases ry;exact ne_bool (z0n I q (congrArg not zbU))
  |str j=>obtain⟨t',rfl⟩:=ry;exact PySem.EqMixed.ne_bool_str (z0n I q (by simp))
  |_=>exact absurd (show false=true from hs) Bool.false_ne_true
 |int i=>
  obtain⟨t,rfl⟩:=rx
  cases y with
  |non=>cases ry;exact PySem.EqNone.ne_int_none (z0n I q (by simp))
  |int j=>obtain⟨t',rfl⟩:=ry;exact ne_int (z0n I q (congrArg not z8X))
  |str j=>obtain⟨t',rfl⟩:=ry;exact PySem.EqMixed.ne_int_str (z0n I q (by simp))
  |_=>exact absurd (show false=true from hs) Bool.false_ne_true
 |str i=>
  obtain⟨t,rfl⟩:=rx
  cases y with
  |non=>cases ry;exact PySem.EqNone.ne_str_none (z0n I q (by simp))
  |bl j=>cases ry;exact PySem.EqMixed.ne_str_bool (z0n I q (by simp))
  |int j=>obtain⟨t',rfl⟩:=ry;exact PySem.EqMixed.ne_str_int (z0n I q (by simp))
  |str j=>obtain⟨t',rfl⟩:=ry;exact ne_str (z0n I q (congrArg not z5A))
  |_=>exact absurd (show false=true from hs) Bool.false_ne_true
 |byt i=>
  obtain⟨t,rfl⟩:=rx
  cases y with
  |byt j=>obtain⟨t',rfl⟩:=ry;exact W.ne_bytes (z0n I q (congrArg not z8Y))
  |_=>exact absurd (show false=true from hs) Bool.false_ne_true
 |_=>cases y<;>exact absurd (show false=true from hs) Bool.false_ne_true
theorem zhy:OpR X (compareOp .Lt) (rI0 fun i j=> .bl (decide (i<j))):=opB0 fun _ _ _ _ _ _ _ q=>lt_int q
theorem zhz:OpR X (compareOp .LtE) (rI0 fun i j=> .bl (decide (i<=j))):=opB0 fun _ _ _ _ _ _ _ q=>le_int q
theorem zhA:OpR X (compareOp .Gt) (rI0 fun i j=> .bl (decide (j<i))):=opB0 fun _ _ _ _ _ _ _ q=>gt_int q
theorem z8Z:OpR X (compareOp .In) (fun x y H Q=> ∃i j,x= .str i/\y= .str j/\Q (.bl (!(Builtin.Str.occurrences j i 0 j.length 1).isEmpty)) H):=by
 intro pins s σ H x y v u Q I rx ry h
 obtain⟨i,j,rfl,rfl,q⟩:=h
 obtain⟨t,rfl⟩:=rx
 obtain⟨t',rfl⟩:=ry
 exact in_str (z0n I q rfl)
theorem zeK:OpR X (compareOp .Is) (fun x y H Q=>y= .non/\Q (.bl (decide (x= .non))) H):=by
 intro pins s σ H x y v u Q I rx ry h
 obtain⟨rfl,q⟩:=h
 cases ry
 refine is_none_gen (z0n I q ?_)
 cases x<;>first
  |(cases rx;rfl)
  |(obtain⟨t,rfl⟩:=rx;rfl)
theorem OpR.or{f:Value->Value->Sem Value}{r r':R2}(h:OpR X f r)(h':OpR X f r'):OpR X f (fun x y H Q=>r x y H Q\/r' x y H Q):=by
 intro pins s σ H x y v u Q I rx ry q
 rcases q with q|q
 ·exact h pins s σ H x y v u Q I rx ry q
 ·exact h' pins s σ H x y v u Q I rx ry q
theorem z0h(b:Expr){op:CmpOp}(h:op≠ .In:=by decide)(h2:op≠ .NotIn:=by decide):behindInMarks op b=false:=by
 have e1:(op==CmpOp.In)=false:=by cases op<;>first|rfl|exact absurd rfl h
 have e2:(op==CmpOp.NotIn)=false:=by cases op<;>first|rfl|exact absurd rfl h2
 cases b<;>simp[behindInMarks,e1,e2]
theorem zcU{op:CmpOp}{r:R2}(ho:OpR X (compareOp op) r)(ha:PE X a ta)(hb:PE X b tb)(hm:behindInMarks op b=false):PE X (.Compare a [op] [b] pos) (tOp r ta tb):=by
 intro pins s σ H Q I h
 exact wpAny_Compare1 (binT ha hb I h fun v u s2 x y H2 I2 rx ry q=>ho pins s2 σ H2 x y v u Q I2 rx ry q) hm
noncomputable def zcV(t:TE):TT:=fun σ H Q=>t σ H fun x H'=> ∃k,x= .bl k/\Q k H'
theorem zcW{op:CmpOp}{r:R2}(ho:OpR X (compareOp op) r)(ha:PE X a ta)(hb:PE X b tb)(hm:behindInMarks op b=false):PT X (.Compare a [op] [b] pos) (zcV (tOp r ta tb)):=by
 intro pins s σ H Q I h
 refine wpAny_isTrue_Compare1 (thn (ha pins s σ H _ I h) fun v s1 ⟨x,H1,I1,r1,q1⟩=>thn (hb pins s1 σ H1 _ I1 q1) fun u s2 ⟨y,H2,I2,r2,q2⟩=>
  thn (ho pins s2 σ H2 x y v u _ I2 r1 r2 q2) fun c s3 ⟨z,H3,I3,r3,k,e,q3⟩=> ?_) hm
 subst e
 cases r3
 exact wpAny_truthy_bool ⟨H3,I3,q3⟩
noncomputable def z90(r r':R2)(ta tb tc:TE):TE:=fun σ H Q=>ta σ H fun x H1=>tb σ H1 fun y H2=>r x y H2 fun z H3=> ∃k,z= .bl k/\
 (if k=true then tc σ H3 fun w' H4=>r' y w' H4 Q else Q (.bl false) H3)
theorem zaS{op op':CmpOp}{r r':R2}(ho:OpR X (compareOp op) r)(ho':OpR X (compareOp op') r')(ha:PE X a ta)(hb:PE X b tb)(hc:PE X c tc)
 (hm:lastMarks [op,op'] [b,c]=false:=by with_unfolding_all rfl):PE X (.Compare a [op,op'] [b,c] pos) (z90 r r' ta tb tc):=by
 intro pins s σ H Q I h
 refine Compare_chain (thn (ha pins s σ H _ I h) fun v s1 ⟨x,H1,I1,r1,q1⟩=>chain_link (thn (hb pins s1 σ H1 _ I1 q1) fun u s2 ⟨y,H2,I2,r2,q2⟩=>
  thn (ho pins s2 σ H2 x y v u _ I2 r1 r2 q2) fun d s3 ⟨z,H3,I3,r3,k,e,q3⟩=> ?_)) hm
 subst e
 cases r3
 refine wpAny_truthy_bool ?_
 cases k with
 |false=>exact ite_ff ⟨.bl false,H3,I3,rfl,q3⟩
 |true=>exact ite_tt (chain_last (thn (hc pins s3 σ H3 _ I3 q3) fun w' s4 ⟨z',H4,I4,r4,q4⟩=>ho' pins s4 σ H4 y z' u w' Q I4 r2 r4 q4))
theorem zaT{op op':CmpOp}{r r':R2}(ho:OpR X (compareOp op) r)(ho':OpR X (compareOp op') r')(ha:PE X a ta)(hb:PE X b tb)(hc:PE X c tc)
 (hm:lastMarks [op,op'] [b,c]=false:=by with_unfolding_all rfl):PT X (.Compare a [op,op'] [b,c] pos) (zcV (z90 r r' ta tb tc)):=by
 intro pins s σ H Q I h
 refine isTrue_chain (thn (ha pins s σ H _ I h) fun v s1 ⟨x,H1,I1,r1,q1⟩=>test_link (thn (hb pins s1 σ H1 _ I1 q1) fun u s2 ⟨y,H2,I2,r2,q2⟩=>
  thn (ho pins s2 σ H2 x y v u _ I2 r1 r2 q2) fun d s3 ⟨z,H3,I3,r3,k,e,q3⟩=> ?_)) hm
 subst e
 cases r3
 refine wpAny_truthy_bool ?_
 cases k with
 |false=>
  obtain⟨k',e',q'⟩:=q3
  cases e'
  exact ite_ff ⟨H3,I3,q'⟩
 |true=>
  refine ite_tt (test_last (thn (hc pins s3 σ H3 _ I3 q3) fun w' s4 ⟨z',H4,I4,r4,q4⟩=>thn (ho' pins s4 σ H4 y z' u w' _ I4 r2 r4 q4) fun d' s5 ⟨z2,H5,I5,r5,k2,e2,q5⟩=> ?_))
  subst e2
  cases r5
  exact wpAny_truthy_bool ⟨H5,I5,q5⟩
noncomputable def TruV(K:W.Frag)(x:V)(H:Hp)(k:Bool):Prop:=
 match x with
 | .non=>k=false
 | .bl b=>k=b
 | .int i=>k=(i !=0)
 | .str y=>y.length<=sizeLine/\k=((y.length:Int) !=0)
 | .byt y=>y.size<=sizeLine/\k=((y.size:Int) !=0)
 | .ref p=>(∃xs,SqL K H p xs/\k= !xs.isEmpty)\/(∃xs,SqT K H p xs/\k= !xs.isEmpty)\/∃kvs,H p=some (.dK kvs)/\k= !kvs.isEmpty
 |_=>False
theorem z8q{κ:Type}{kvs:List (κ×V)}{vs:List (κ×Value)}(r:KV kvs vs):(!vs.isEmpty)= !kvs.isEmpty:=by
 cases r<;>rfl
theorem z5g{xs:List V}{its:List Value}(r:Vals xs its):(!its.toArray.isEmpty)= !xs.isEmpty:=by
 cases r<;>simp
theorem z5h:(sizeLine:Nat)<2^63:=by rw[sizeLine_eq];decide
theorem zeL:TruR X (fun x H Q=> ∃k,TruV X.K x H k/\Q k H):=by
 intro pins s σ H x v Q I rx h
 obtain⟨k,e,q⟩:=h
 have hl:=z5h
 have hs:sizeLine=16777216:=sizeLine_eq
 cases x with
 |non=>
  cases rx
  have e':k=false:=e
  subst e'
  exact truthy_none ⟨H,I,q⟩
 |bl b=>
  cases rx
  have e':k=b:=e
  subst e'
  exact wpAny_truthy_bool ⟨H,I,q⟩
 |int i=>
  obtain⟨t,rfl⟩:=rx
  have e':k=(i !=0):=e
  subst e'
  exact PySem.P.truthy_int ⟨H,I,q⟩
 |str y=>
  obtain⟨t,rfl⟩:=rx
  obtain⟨hy,e'⟩:y.length<=sizeLine/\k=((y.length:Int) !=0):=e
  subst e'
  exact PySem.P.truthy_str (by lia) ⟨H,I.tok _,q⟩
 |byt y=>
  obtain⟨t,rfl⟩:=rx
  obtain⟨hy,e'⟩:y.size<=sizeLine/\k=((y.size:Int) !=0):=e
  subst e'
  exact W.truthy_bytes (by lia) ⟨H,I.tok _,q⟩
 |ref p=>
  cases rx
  have e':(∃xs,SqL X.K H p xs/\k= !xs.isEmpty)\/(∃xs,SqT X.K H p xs/\k= !xs.isEmpty)\/∃kvs,H p=some (.dK kvs)/\k= !kvs.isEmpty:=e
  rcases e' with⟨xs,hx,e'⟩|⟨xs,hx,e'⟩|⟨kvs,hx,e'⟩
  ·subst e'
   obtain⟨its,r,pl,hz⟩:=I.list hx
   have hlen:=r.length
   exact wpAny_truthy_list pl.isList (by simp only[List.size_toArray];lia) ⟨H,I.tok _,by rw[z5g r];exact q⟩
  ·subst e'
   obtain⟨its,r,pl,hz⟩:=I.tuple hx
   have hlen:=r.length
   exact truthy_tuple pl (by simp only[List.size_toArray];lia) ⟨H,I.tok _,by rw[z5g r];exact q⟩
  ·subst e'
   obtain⟨hz,hS,vs,r,m⟩:kvs.length<=sizeLine/\(p==sysModules)=false/\∃vs,KV kvs vs/\s.heap.DictOf (z0j X.prog X.w) p vs:=I.hok p _ hx
   have hlen:kvs.length=vs.length:=Paired.length r
   exact wpAny_truthy_dict hS m (by lia) ⟨H,I.tok _,by rw[z8q r];exact q⟩
 |_=>exact(show False from e).elim
theorem zaU(ha:PE X a ta)(he: ∀whole,isTrue a X.env whole=(do let v<-whole;standAt a.pos;holding [v] (truthy v))):
 PT X a (fun σ H Q=>ta σ H fun x H'=> ∃k,TruV X.K x H' k/\Q k H'):=by
 intro pins s σ H Q I h
 exact isTrue_plain (thn (ha pins s σ H _ I h) fun v s1 ⟨x,H1,I1,r1,q1⟩=>zeL pins s1 σ H1 x v Q I1 r1 q1) (he _)
theorem z5i:OpR X (binaryOp .Add) (fun x y H Q=> ∃i j,x= .str i/\y= .str j/\i.length+j.length<=sizeLine/\Q (.str (i++j)) H):=by
 intro pins s σ H x y v u Q I rx ry h
 obtain⟨i,j,rfl,rfl,hz,q⟩:=h
 obtain⟨t,rfl⟩:=rx
 obtain⟨t',rfl⟩:=ry
 exact add_str (fun t' tk=>⟨.str (i++j),H,I.tok _,⟨_,rfl⟩,q⟩) hz
noncomputable def z5B(b:Expr):Prop:= ∀o i,subscripted b false o i=operate [o,i] (getItem o i)
theorem z7c(ha:PE X a ta)(hb:PE X b tb)(hs:z5B b):
 PE X (.Subscript a b pos) (tOp (fun x y H Q=> ∃z i c,x= .str z/\y= .int i/\0<=i/\i<2^63/\i<z.length/\z.cps[i.toNat]? =some c/\Q (.str ⟨#[c]⟩) H) ta tb):=by
 intro pins s σ H Q I h
 refine Subscript_ (binT ha hb I h fun v u s2 x y H2 I2 rx ry q=> ?_)
 obtain⟨z,i,c,rfl,rfl,h0,h63,h1,hc,q⟩:=q
 obtain⟨t,rfl⟩:=rx
 obtain⟨t',rfl⟩:=ry
 have e:seqIndex? i z.length=some i.toNat:=PySem.StrLaws.seqIndex_nonneg h0 h1
 exact tail_any (typeIs_str s2 z t) slot_str_getitem.lookup (getItem_str (c:=c) (by
  have e1:decide (i< -(2^63:Int))=false:=decide_eq_false (by lia)
  have e2:decide (i≥2^63)=false:=decide_eq_false (by lia)
  rw[e1,e2]<;>rfl) (by rw[e];exact hc) ⟨.str ⟨#[c]⟩,H2,I2.tok _,⟨_,rfl⟩,q⟩) (hs _ _)
theorem z37{x:V}{us:List Value}(r:Vals [x] us): ∃u,us=[u]/\RelV x u:=by
 cases r with
 |cons r1 r2=>cases r2;exact⟨_,rfl,r1⟩
theorem zcX{x y:V}{us:List Value}(r:Vals [x,y] us): ∃u w',us=[u,w']/\RelV x u/\RelV y w':=by
 cases r with
 |cons r1 r2=>
  cases r2 with
  |cons r3 r4=>cases r4;exact⟨_,_,rfl,r1,r3⟩
theorem zaV:CallR X (.builtin "abs") (fun xs H Q=> ∃i,xs=[.int i]/\Q (.int (if i<0 then -i else i)) H):=by
 intro pins s σ H xs us Q I r h
 obtain⟨i,rfl,q⟩:=h
 obtain⟨u,rfl,t,rfl⟩:=z37 r
 exact call_abs_int fun u tk=>⟨.int (if i<0 then -i else i),H,I.tok _,⟨_,rfl⟩,q⟩
theorem z91(hc:X.calm=true):CallR X (.builtin "max") (fun xs H Q=> ∃i j,xs=[.int i, .int j]/\Q (.int (if j>i then j else i)) H):=by
 intro pins s σ H xs us Q I r h
 obtain⟨i,j,rfl,q⟩:=h
 obtain⟨u,w',rfl,⟨t,rfl⟩,⟨t',rfl⟩⟩:=zcX r
 refine max_two_ints (I.ok.hd hc) fun h' tk k=>⟨_,H,I.kept k, ?_,q⟩
 by_cases hj:j>i
 ·rw[if_pos hj,if_pos hj];exact⟨_,rfl⟩
 ·rw[if_neg hj,if_neg hj];exact⟨_,rfl⟩
theorem z92(hc:X.calm=true):CallR X (.builtin "min") (fun xs H Q=> ∃i j,xs=[.int i, .int j]/\Q (.int (if j<i then j else i)) H):=by
 intro pins s σ H xs us Q I r h
 obtain⟨i,j,rfl,q⟩:=h
 obtain⟨u,w',rfl,⟨t,rfl⟩,⟨t',rfl⟩⟩:=zcX r
 refine min_two_ints (I.ok.hd hc) fun h' tk k=>⟨_,H,I.kept k, ?_,q⟩
 by_cases hj:j<i
 ·rw[if_pos hj,if_pos hj];exact⟨_,rfl⟩
 ·rw[if_neg hj,if_neg hj];exact⟨_,rfl⟩
theorem z6u:CallR X (.type "int") (fun xs H Q=>(∃i,xs=[.int i]/\Q (.int i) H)\/∃k,xs=[.bl k]/\Q (.int (if k then 1 else 0)) H):=by
 intro pins s σ H xs us Q I r h
 rcases h with⟨i,rfl,q⟩|⟨k,rfl,q⟩
 ·obtain⟨u,rfl,t,rfl⟩:=z37 r
  exact call_int_int ⟨.int i,H,I,⟨_,rfl⟩,q⟩
 ·obtain⟨u,rfl,r1⟩:=z37 r
  cases r1
  exact call_int_bool ⟨.int (if k then 1 else 0),H,I.tok _,⟨_,rfl⟩,q⟩
end
structure ObjM(h:Heap)(x dx C:Addr)(mA:Str->Option Value):Prop where
 obj:h.get? x=some (W.instObj C dx)
 ns:h.Ns1 dx mA
 ne:dx≠x
theorem RelO.some_of{v:V}{o:Option Value}(r:RelO (some v) o): ∃u,o=some u/\RelV v u:=by
 cases o with
 |none=>exact(show False from r).elim
 |some u=>exact⟨u,rfl,r⟩
structure Cls(K:W.Frag)(C:Addr):Prop where
 pg:W.plainGet K C Str.empty=true
 hd:W.hasDictIn K C=true
 po:W.plainOver K C=true
 sa:W.findIn K (.ref C) "__setattr__" =some (some (.builtin "object.__setattr__"))
structure Con(K:W.Frag)(C:Addr)(f:Str)(v:V)(u:Value):Prop where
 at_:W.findIn K (.ref C) f=some (some u)
 rel:RelV v u
 get:W.specialIn K u "__get__" =some none
 cp:W.copiedNames.contains f=false
structure Meth(K:W.Frag)(C:Addr)(m:Str)(f:Addr):Prop where
 at_:W.findIn K (.ref C) m=some (some (.ref f))
 fn:W.isFn K (.ref f)=true
 kp:W.keepIn K (.ref f)=true
section
variable{X:Cx}{pins:List (Addr×Obj)}{σ:St}{H:Hp}{s:Shared}{A:Around}{E:Value->Shared->Prop}{Q:Value->Shared->Prop}{c:Value}{b:Bool}
inductive TyOf(K:W.Frag)(H:Hp):V->Value->Prop where
 |non:TyOf K H .non (.type "NoneType")
 |bl (x:Bool):TyOf K H (.bl x) (.type "bool")
 |int (i:Int):TyOf K H (.int i) (.type "int")
 |str (x:Str):TyOf K H (.str x) (.type "str")
 |flt (x:UInt64):TyOf K H (.flt x) (.type "float")
 |lst {a:Addr} {xs:List V} (e:H a=some (.lst xs)):TyOf K H (.ref a) (.type "list")
 |frz {a:Addr} {o:Obj} {xs:List V} (e:H a=some (.frz o (.lst xs))):TyOf K H (.ref a) (.type "list")
 |tup {a:Addr} {xs:List V} (e:H a=some (.tup xs)):TyOf K H (.ref a) (.type "tuple")
 |dK {a:Addr} {kvs:List (Key×V)} (e:H a=some (.dK kvs)):TyOf K H (.ref a) (.type "dict")
 |dT {a:Addr} {kvs:List (NK×V)} (e:H a=some (.dT kvs)):TyOf K H (.ref a) (.type "dict")
 |ins {a C dx:Addr} {fs:List (Str×V)} (e:H a=some (.ins C dx fs)) (cl:Cls K C) (ha:W.findIn K (.ref C) "__class__" =some (some (.builtin "object.__class__")))
  (hn:W.specialIn K (.builtin "object.__class__") "__get__" =some (some (.builtin "getset_descriptor.__get__"))) (htk:W.takesIn K (.builtin "object.__class__")=some true)
  (hm:W.mroIn K C (.type "object")=some true):TyOf K H (.ref a) (.ref C)
end
structure Room(k:Nat)(A:Around):Prop where
 hd:A.handled=none
 dp:A.depth+3*k+5<recursionLimit
 un:A.units+16*k+200<cLine
 gd:A.guards=some []
theorem Room.mono{j k:Nat}{A:Around}(r:Room k A)(h:j<=k):Room j A:=⟨r.hd,by have:=r.dp;lia,by have:=r.un;lia,r.gd⟩
theorem Room.deeper{k:Nat}{A:Around}(r:Room (k+1) A)(env:Env):Room k (A.deeper env):=
 ⟨r.hd,by have:=r.dp;show A.depth+1+3*k+5<_;lia,by have:=r.un;show A.units+3+16*k+200<_;lia,r.gd⟩
theorem Room.depth{k:Nat}{A:Around}(r:Room k A):A.depth<recursionLimit:=by have:=r.dp;lia
theorem Room.units{k:Nat}{A:Around}(r:Room k A):A.units+64<cLine:=by have:=r.un;lia
noncomputable def tNil:TA:=fun _ H Q=>Q [] H
noncomputable def zhB(ta:TE)(tr:TA):TA:=fun σ H Q=>ta σ H fun x H1=>tr σ H1 fun xs H2=>Q (x::xs) H2
section
variable{X:Cx}{e:Expr}{es:List Expr}{te:TE}{t:TA}{pos:Pos}
theorem z42:PA X [] tNil:=fun _ _ _ _ H Q I h=>Calls.spliced_nil ⟨[],H,I, .nil,h⟩
theorem z0g(ha:PE X e te)(hr:PA X es t)(hs:starEach (e::es) X.env=(false,eval e X.env)::starEach es X.env:=by rfl):PA X (e::es) (zhB te t):=by
 intro pos pins s σ H Q I h
 rw[hs]
 show wpAny _ _ (spliced ((false,eval e X.env)::backTo pos (starEach es X.env))) _ _ s
 refine Calls.spliced_cons (thn (ha pins s σ H _ I h) fun u s1 ⟨x,H1,I1,r1,q1⟩=> ?_)
 exact thn (hr pos pins s1 σ H1 _ I1 q1) fun us s2 ⟨xs,H2,I2,r2,q2⟩=>⟨x::xs,H2,I2, .cons r1 r2,q2⟩
noncomputable def tTup(t:TA):TE:=fun σ H Q=>t σ H fun xs H1=>xs.length<=sizeLine/\∀p,H1 p=none->Q (.ref p) (upd H1 p (.tup xs))
noncomputable def tLst(t:TA):TE:=fun σ H Q=>t σ H fun xs H1=>xs.length<=sizeLine/\∀p,H1 p=none->Q (.ref p) (upd H1 p (.lst xs))
theorem zeM{x1}(h:PA X es t):PE X (.Tuple es x1 pos) (tTup t):=by
 intro pins s σ H Q I hq
 refine wpAny_Tuple_spliced (thn (h pos pins s σ H _ I hq) fun us s1 ⟨xs,H1,I1,r,z,q⟩=>⟨by rw[<-r.length];exact z, ?_⟩)
 have hf:H1 s1.heap.objs.size=none:=I1.hok.fresh (Nat.le_refl _)
 refine⟨.ref s1.heap.objs.size,upd H1 s1.heap.objs.size (.tup xs),I1.laid (t':=s1.toks) (fun b u e=>Heap.get?_push_of_some _ e) (Nat.le_refl _) ?_,rfl,q _ hf⟩
 exact⟨z,us,r,⟨_,Heap.get?_push_size _ rfl,rfl,_,rfl⟩⟩
theorem zeN(h:PA X es t):PE X (.List es pos) (tLst t):=by
 intro pins s σ H Q I hq
 refine wpAny_List_spliced (thn (h pos pins s σ H _ I hq) fun us s1 ⟨xs,H1,I1,r,z,q⟩=>⟨by rw[<-r.length];exact z, ?_⟩)
 have hf:H1 s1.heap.objs.size=none:=I1.hok.fresh (Nat.le_refl _)
 refine⟨.ref s1.heap.objs.size,upd H1 s1.heap.objs.size (.lst xs),I1.laid (t':=s1.toks) (fun b u e=>Heap.get?_push_of_some _ e) (Nat.le_refl _) ?_,rfl,q _ hf⟩
 exact⟨z,us,0,r,Heap.get?_push_size _ rfl⟩
end
noncomputable abbrev Sp:=List V->Hp->VK->XK->Prop
noncomputable abbrev CXT:=List Env->Hp->Shared->XK->Value->Shared->Prop
structure Env0(P:Program)(w:World)(K:W.Frag)(mg:Str->Option Value)(base:Heap)(A:Around)(outer:List Env)(s:Shared)(H:Hp):Prop where
 frames:A.frames=some outer
 mod:Mod K mg base
 bs: ∀b o,base.get? b=some o->s.heap.get? b=some o/\H b=none
 bsz:base.objs.size<=s.heap.objs.size
 funs:s.heap.FunFrames base outer
 frf: ∀b∈frs outer,H b=none
 hok:HOk P w H s.heap
 bare:AllBare s.gens
noncomputable def CE(outer:List Env)(P:Program)(w:World)(H:Hp)(s:Shared)(Q:VK)(u:Value)(s':Shared):Prop:=
 ∃v H',s'.os=s.os/\AllBare s'.gens/\Un (frs outer) [] H H' s.heap s'.heap/\HOk P w H' s'.heap/\RelV v u/\Q v H'
noncomputable def CR(CX:CXT)(outer:List Env)(P:Program)(w:World)(H:Hp)(s:Shared)(Q:VK)(E:XK)(r:Result)(s':Shared):Prop:=
 match r with
 | .ok (.ret u)=>CE outer P w H s Q u s'
 | .ok _=>False
 | .error e=>CX outer H s E e s'
structure FnOk(P:Program)(w:World)(K:W.Frag)(mg:Str->Option Value)(base:Heap)(CX:CXT)(k:Nat)(f:Addr)(fd:FuncData)(ps:List Str)(sp:Sp):Prop where
 len: ∀vs H Q E,sp vs H Q E->vs.length=ps.length
 run: ∀(A:Around) (outer:List Env) (s:Shared) (H:Hp) (args:Args) (us:List Value) (vs:List V) (Q:VK) (E:XK),Room k A->Env0 P w K mg base A outer s H->BindsTo s fd args (ps.zip us)->Vals vs us->sp vs H Q E->
  codeAny (model P w) A (.call (.ref f) args) (CR CX outer P w H s Q E) s
theorem FnOk.mono{P:Program}{w:World}{K:W.Frag}{mg:Str->Option Value}{base:Heap}{CX:CXT}{j k:Nat}{f:Addr}{fd:FuncData}{ps:List Str}{sp:Sp}(F:FnOk P w K mg base CX j f fd ps sp)(h:j<=k):
 FnOk P w K mg base CX k f fd ps sp:=⟨F.len,fun A outer s H args us vs Q E hr=>F.run A outer s H args us vs Q E (hr.mono h)⟩
section
variable{X:Cx}{pins:List (Addr×Obj)}{σ:St}{H:Hp}{s s':Shared}
theorem Inv.env0(I:Inv X pins σ H s):Env0 X.prog X.w X.K X.mg X.base X.A X.stack s H:=
 ⟨I.ok.frames,I.ok.mod,I.bs,Nat.le_trans I.ok.bsz I.sz,I.stack,I.stkFree,I.hok,I.bare⟩
theorem Inv.after{Q:VK}{u:Value}(I:Inv X pins σ H s)(h:CE X.stack X.prog X.w H s Q u s'):EP X pins σ Q u s':=by
 obtain⟨v,H',os,bare,un,hok,r,q⟩:=h
 obtain⟨hh,g,d,t,os'⟩:=s'
 obtain rfl:os'=s.os:=os
 exact⟨v,H',I.call (h':=hh) (g':=g) (d':=d) (t':=t) (ch:=[]) un hok bare (fun b z=>absurd z (by simp)),r,q⟩
end
noncomputable def zhC(sp:Sp)(dvs:List V)(E:XK)(t:TA):TE:=fun σ H Q=>t σ H fun vs H1=>sp (vs++dvs) H1 Q E
noncomputable def z3H(K:W.Frag)(fd:FuncData)(ps:List Str)(ds:List Value):Prop:=
 ∀(s:Shared) (us:List Value),K.In s.heap->(us++ds).length=ps.length->BindsTo s fd ⟨us,[]⟩ (ps.zip (us++ds))
theorem z3H.all{K:W.Frag}{fd:FuncData}{ps:List Str}(h: ∀us:List Value,us.length=ps.length->bindArgs fd ⟨us,[]⟩=pure (ps.zip us)):z3H K fd ps []:=fun s us _ hl=>by
 rw[List.append_nil] at hl⊢
 exact .of_eq (h us hl)
noncomputable def z4r(CX:CXT)(X:Cx)(E:XK):Prop:= ∀(pins:List (Addr×Obj)) (σ:St) (H:Hp) (s:Shared) (e:Value) (s':Shared),Inv X pins σ H s->CX X.stack H s E e s'->X.xe e s'
section
variable{X:Cx}{CX:CXT}{k:Nat}{f C:Addr}{fd:FuncData}{ps:List Str}{sp:Sp}{dvs:List V}{ds:List Value}{E:XK}{x m:Str}{p pos apos:Pos}{e o:Expr}{es:List Expr}{ta:TE}{t:TA}
theorem zeO{pins:List (Addr×Obj)}{σ:St}{H:Hp}{s:Shared}{Q:VK}{us:List Value}{vs:List V}(F:FnOk X.prog X.w X.K X.mg X.base CX k f fd ps sp)(hr:Room k X.A)(hb:z3H X.K fd ps ds)(hd:Vals dvs ds)(hx:z4r CX X E)
 (I:Inv X pins σ H s) (r:Vals vs us) (h:sp (vs++dvs) H Q E):wpAny (model X.prog X.w) X.A (call (.ref f) us) (EP X pins σ Q) X.xe s:=by
 have r2:Vals (vs++dvs) (us++ds):=r.append hd
 have hl:(us++ds).length=ps.length:=by rw[<-r2.length];exact F.len _ _ _ _ h
 refine wpAny_call (codeAny_mono (F.run X.A X.stack s H ⟨us,[]⟩ (us++ds) (vs++dvs) Q E hr I.env0 (hb s us I.kIn hl) r2 h) fun r s' hq=> ?_)
 cases r with
 |error e=>exact hx pins σ H s e s' I hq
 |ok fl=>
  cases fl with
  |ret u=>exact I.after hq
  |next=>exact False.elim hq
  |brk=>exact False.elim hq
  |cont=>exact False.elim hq
theorem zcY(F:FnOk X.prog X.w X.K X.mg X.base CX k f fd ps sp)(hr:Room k X.A)(hg:Gl X x)(hm:X.mg x=some (.ref f))(hk:W.keepIn X.K (.ref f)=true)(hb:z3H X.K fd ps ds)(hd:Vals dvs ds)(hx:z4r CX X E)
 (ha:PA X (e::es) t) (hdb:(x==("__debug__" :Str))=false:=by decide) (he:starEach (e::es) X.env=(false,eval e X.env)::starEach es X.env:=by rfl) (hpl:(backTo pos (starEach es X.env)).any (·.1)=false:=by rfl):
 PE X (.Call (.Name x p) (e::es) [] pos) (zhC sp dvs E t):=by
 intro pins s σ H Q I h
 refine wpAny_Call_Name_kw (z4q I hg hm ?_ hdb)
 refine W.callWith_K (h₀:=X.base) I.ok.mod.kin hk (thn (ha pos pins s σ H _ I h) fun us s1 ⟨vs,H1,I1,r,q⟩=>⟨I1.kIn, ?_⟩) he hpl
 exact zeO F hr hb hd hx I1 r q
structure Mk(K:W.Frag)(C f:Addr):Prop where
 makes:W.makesIn K C=true
 init:W.findIn K (.ref C) "__init__" =some (some (.ref f))
 fn:W.isFn K (.ref f)=true
 kp:W.keepIn K (.ref C)=true
end
section
variable{X:Cx}{CX:CXT}{k:Nat}{f C:Addr}{fd:FuncData}{ps ks:List Str}{sp:Sp}{E:XK}{x m:Str}{p pos apos kpos:Pos}{e o:Expr}{es:List Expr}{kws:List Keyword}{te ta:TE}{t tk:TA}{nm:Option Str}
structure zju(K:W.Frag)(fd:FuncData)(ps ks:List Str)(g:List Value->List Value->List Value)(gV:List V->List V->List V):Prop where
 to: ∀(s:Shared) (us ws:List Value),K.In s.heap->(g us ws).length=ps.length->BindsTo s fd ⟨us,ks.zip ws⟩ (ps.zip (g us ws))
 rel: ∀{vs:List V} {us:List Value} {zs:List V} {ws:List Value},Vals vs us->Vals zs ws->Vals (gV vs zs) (g us ws)
variable{g:List Value->List Value->List Value}{gV:List V->List V->List V}
end
structure z06(N P:List Str)(sc:Scope):Prop where
 kind:sc.kind= .function
 co:sc.isCoroutine=false
 gen:sc.isGenerator=false
 nd:N.Nodup
 pre:N.take P.length=P
 par: ∀x∈P,sc.names.lookup x=some .local\/sc.names.lookup x=some .cell
 nofree: ∀y∈sc.names,y.2≠ .free
theorem z6v{kindOf:Str->Option NameKind}{x:Str}: ∀{binds:List (Str×Value)} {m:Str->Option Value},(∀v,(x,v)∉binds)->bindL kindOf binds m x=m x
 |[],_,_=>rfl
 |(n,v)::r,m,h=>by
  unfold bindL
  rw[z6v fun w hw=>h w (List.mem_cons_of_mem _ hw)]
  split
  ·have:x≠n:=by rintro rfl;exact h v List.mem_cons_self
   simp[this]
  ·rfl
theorem z6w{kindOf:Str->Option NameKind}{x:Str}: ∀{binds:List (Str×Value)} {m:Str->Option Value},(∀v,(x,v)∉binds)->bindC kindOf binds m x=m x
 |[],_,_=>rfl
 |(n,v)::r,m,h=>by
  unfold bindC
  rw[z6w fun w hw=>h w (List.mem_cons_of_mem _ hw)]
  split
  ·rfl
  ·have:x≠n:=by rintro rfl;exact h v List.mem_cons_self
   simp[this]
theorem z6x{kindOf:Str->Option NameKind}{x:Str}{v:Value}: ∀{P:List Str} {vs:List Value} {i:Nat} {m:Str->Option Value},P.Nodup->P[i]? =some x->vs[i]? =some v->kindOf x=some .local->
 bindL kindOf (P.zip vs) m x=some v
 |[],_,_,_,_,h,_,_=>by simp at h
 |_::_,[],_,_,_,_,h,_=>by simp at h
 |p::P,w::vs,0,m,nd,h1,h2,hk=>by
  simp at h1 h2;subst h1;subst h2
  show bindL kindOf ((p,w)::P.zip vs) m p=_
  unfold bindL
  rw[z6v fun v hv=>(List.nodup_cons.mp nd).1 (List.of_mem_zip hv).1,if_pos hk]
  simp
 |p::P,w::vs,i+1,m,nd,h1,h2,hk=>by
  show bindL kindOf ((p,w)::P.zip vs) m x=_
  unfold bindL
  exact z6x (i:=i) (List.nodup_cons.mp nd).2 (by simpa using h1) (by simpa using h2) hk
theorem z6y{kindOf:Str->Option NameKind}{x:Str}{v:Value}: ∀{P:List Str} {vs:List Value} {i:Nat} {m:Str->Option Value},P.Nodup->P[i]? =some x->vs[i]? =some v->kindOf x≠some .local->
 bindC kindOf (P.zip vs) m x=some v
 |[],_,_,_,_,h,_,_=>by simp at h
 |_::_,[],_,_,_,_,h,_=>by simp at h
 |p::P,w::vs,0,m,nd,h1,h2,hk=>by
  simp at h1 h2;subst h1;subst h2
  show bindC kindOf ((p,w)::P.zip vs) m p=_
  unfold bindC
  rw[z6w fun v hv=>(List.nodup_cons.mp nd).1 (List.of_mem_zip hv).1,if_neg hk]
  simp
 |p::P,w::vs,i+1,m,nd,h1,h2,hk=>by
  show bindC kindOf ((p,w)::P.zip vs) m x=_
  unfold bindC
  exact z6y (i:=i) (List.nodup_cons.mp nd).2 (by simpa using h1) (by simpa using h2) hk
noncomputable def z6z(N:List Str)(vs:List V):St:=vs.map some++List.replicate (N.length -vs.length) none
noncomputable def cxOf(CX:CXT)(P:Program)(w:World)(K:W.Frag)(mg:Str->Option Value)(base:Heap)(N:List Str)(qual:Str)(scope:Scope)(f:Addr)(cd:Value)(A:Around)(outer:List Env)(s:Shared)(H:Hp)(E:XK):Cx where
 prog:=P
 w:=w
 K:=K
 mg:=mg
 base:=base
 A:=A.deeper (envOfC qual scope s.heap.objs.size f cd)
 N:=N
 s₀:=s
 H₀:=H
 env:=envOfC qual scope s.heap.objs.size f cd
 outer:=outer
 stack:=envOfC qual scope s.heap.objs.size f cd::outer
 ex:=[]
 calm:=true
 fn:=fun _=>true
 pn:=[]
 xe:=fun e s'=>wpAny (model P w) (A.deeper (envOfC qual scope s.heap.objs.size f cd)) (leaving (envOfC qual scope s.heap.objs.size f cd) e) (fun _ s''=>CX outer H s E e s'') (fun e' s''=>CX outer H s E e' s'') s'
theorem z7R{sc:Scope}{n:Nat}{x:Str}(h:sc.names.lookup x=some .cell): ∃c,(cellsFrom n sc.names []).lookup x=some c:=by
 have q:=W.cellsFrom_some sc.names n [] (.inl h)
 exact Option.isSome_iff_exists.mp q
theorem z93{CX:CXT}{P:Program}{w:World}{K:W.Frag}{mg:Str->Option Value}{base:Heap}{N ps:List Str}{qual:Str}{scope:Scope}{f:Addr}{cd:Value}{A:Around}{outer:List Env}{s s1:Shared}{H:Hp}{E:XK}{us:List Value}{vs:List V}
 (S:z06 N ps scope) (hd:A.handled=none) (e0:Env0 P w K mg base A outer s H) (hl:vs.length=ps.length) (r:Vals vs us)
 (x:InCallC s s.heap.objs.size (bindL (envOfC qual scope s.heap.objs.size f cd).kindOf (ps.zip us) fun _=>none) (cellsFrom (s.heap.objs.size+1) scope.names []) (bindC (envOfC qual scope s.heap.objs.size f cd).kindOf (ps.zip us) fun _=>none) s1):
 Inv (cxOf CX P w K mg base N qual scope f cd A outer s H E) [] (z6z N vs) H s1:=by
 have hpl:ps.length<=N.length:=by have:=congrArg List.length S.pre;rw[List.length_take] at this;lia
 obtain⟨h1,tk,rfl,hk⟩:=x.done
 have noA: ∀b:Addr,b∉(cxOf CX P w K mg base N qual scope f cd A outer s H E).ex:=fun b z=>absurd (show b∈([]:List Addr) from z) (by simp)
 refine⟨⟨e0.mod,S.kind,rfl,rfl,Nat.le_refl _,fun y z c h1 h2=> ?_,fun y hy=> ?_,fun y c _ h=> ?_,fun _=>hd,Around.frames_deeper e0.frames, .inr ⟨rfl,rfl⟩,fun b z=>absurd z (noA b),e0.bs,e0.bsz,fun b _ _=>noA b,fun b z=>absurd z (noA b),e0.funs,e0.frf⟩,
  rfl,e0.bare,Un.kept hk,⟨_,x.toInCall.ns,fun i y v h1 h2 h3=> ?_⟩,fun y c h=>⟨_,x.cell y c h⟩,e0.hok.fresh (Nat.le_refl _),fun y c h=> ?_,fun p hp=>absurd (show p∈([]:List (Addr×Obj)) from hp) (by simp),e0.hok.kept hk, ?_⟩
 ·exact name_of_addr x.apart (PySem.mem_of_lookup h1) (PySem.mem_of_lookup h2)
 ·have hy:scope.names.lookup y=some .cell\/scope.names.lookup y=some .free:=hy
  rcases hy with hy|hy
  ·exact z7R hy
  ·exact absurd rfl (S.nofree _ (PySem.mem_of_lookup hy))
 ·exact Nat.le_of_lt (x.above y c (PySem.mem_of_lookup h))
 ·have hi:i<vs.length:=by
   unfold z6z at h2
   by_cases hi:i<vs.length
   ·exact hi
   ·rw[List.getElem?_append_right (by simpa using hi)] at h2
    rw[List.getElem?_replicate] at h2
    split at h2<;>cases h2
  have ha:vs[i]? =some v:=by
   unfold z6z at h2
   rw[List.getElem?_append_left (by simpa using hi),List.getElem?_map] at h2
   cases e:vs[i]? with
   |none=>rw[e] at h2;cases h2
   |some a=>rw[e] at h2;cases h2;rfl
  obtain⟨u,hu,rv⟩:=r.get ha
  have hp:ps[i]? =some y:=by
   rw[<-S.pre,List.getElem?_take_of_lt (by lia)];exact h1
  have ndP:ps.Nodup:=by rw[<-S.pre];exact S.nd.sublist (List.take_sublist _ _)
  refine⟨u,rv, ?_⟩
  rcases S.par y (List.mem_of_getElem? hp) with k|k
  ·exact .inl ⟨k,z6x ndP hp hu k⟩
  ·obtain⟨c,e⟩:=z7R (n:=s.heap.objs.size+1) k
   refine .inr ⟨.inl k,c,e, ?_⟩
   have q:=x.cell y c e
   rw[z6y ndP hp hu (by show scope.names.lookup y≠_;rw[k];decide)] at q
   exact q
 ·exact e0.hok.fresh (Nat.le_of_lt (x.above y c (PySem.mem_of_lookup h)))
 ·unfold z6z
  show _=N.length
  rw[List.length_append,List.length_map,List.length_replicate]
  lia
theorem zeP{CX:CXT}{P:Program}{w:World}{K:W.Frag}{mg:Str->Option Value}{base:Heap}{k:Nat}{f:Addr}{name qual:Str}{params:Arguments}{body:List Stmt}{scope:Scope}{dV kV doc pm cdv ct oc:Value}{an od:Option Addr}
 {osl:Array (Option Value)} {N ps:List Str} {sp:Sp} (lk:K.lookup f=some ⟨oc,od, .func (W.fnOf name qual params body scope dV kV doc pm an cdv ct),osl⟩) (hcd:W.codeIn K cdv qual=true) (S:z06 N ps scope)
 (len: ∀vs H Q E,sp vs H Q E->vs.length=ps.length)
 (hbody: ∀(A:Around) (outer:List Env) (s:Shared) (H:Hp) (vs:List V) (Q:VK) (E:XK),Room k (A.deeper (envOfC qual scope s.heap.objs.size f cdv))->sp vs H Q E->
  ∃t,PSs (cxOf CX P w K mg base N qual scope f cdv A outer s H E) body t/\t {nx:=fun _ H'=>Q .non H',rt:=Q} (z6z N vs) H):
 FnOk P w K mg base CX (k+1) f (W.fnOf name qual params body scope dV kV doc pm an cdv ct) ps sp:=by
 refine⟨len,fun A outer s H args us vs Q E hr e0 hb r hsp=> ?_⟩
 have hl:=len _ _ _ _ hsp
 have KX:K.In s.heap:=e0.mod.kin.keeps fun b o e=>(e0.bs b o e).1
 have lim:s.heap.NoLimit:=e0.mod.nolimit.keeps fun b o e=>(e0.bs b o e).1
 have hkind: ∀y∈ps.zip us,scope.names.lookup y.1=some .local\/(scope.names.lookup y.1=some .cell/\((cellsFrom (s.heap.objs.size+1) scope.names []).lookup y.1).isSome=true):=fun⟨n,v⟩ hy=>by
  rcases S.par n (List.of_mem_zip hy).1 with q|q
  ·exact .inl q
  ·exact .inr ⟨q,W.cellsFrom_some _ _ _ (.inl q)⟩
 refine codeAny_call_function hr.depth (KX _ _ lk) rfl S.co S.gen rfl (W.codeRec_of KX hcd) (hb _ _ _ _ ?_)
 refine wpAny_newFunctionEnv_cells S.kind hkind fun env he s1 x=> ?_
 subst he
 refine⟨lim.keeps x.toInCall.keep,codeAny_func ?_⟩
 obtain⟨t,ht,hq⟩:=hbody A outer s H vs Q E (hr.deeper _) hsp
 have I:Inv (cxOf CX P w K mg base N qual scope f cdv A outer s H E) [] (z6z N vs) H s1:=z93 S hr.hd e0 hl r x
 refine wpAny_mono (ht [] s1 (z6z N vs) H _ I hq) (fun fl s' hs=> ?_) fun e s' hs=>hs
 have fin: ∀{σ':St} {H':Hp} {v:V} {u:Value},Inv (cxOf CX P w K mg base N qual scope f cdv A outer s H E) [] σ' H' s'->RelV v u->Q v H'->CE outer P w H s Q u s':=
  fun{σ' H' v u} J rv q=>⟨v,H',J.os,J.bare,J.base,J.hok,rv,q⟩
 cases fl with
 |ret u=>
  obtain⟨v,σ',H',J,rv,q⟩:=hs
  exact fin J rv q
 |next=>
  obtain⟨σ',H',J,q⟩:=hs
  exact fin (v:=V.non) (u:=Value.none) J rfl q
 |brk=>
  obtain⟨_,_,_,q⟩:=hs
  exact False.elim q
 |cont=>
  obtain⟨_,_,_,q⟩:=hs
  exact False.elim q
section
variable{X:Cx}{x:Str}{p pos:Pos}{e:Expr}{es:List Expr}{t:TA}{id T:String}{r:List V->Hp->VK->Prop}
noncomputable def tCB(r:List V->Hp->VK->Prop)(t:TA):TE:=fun σ H Q=>t σ H fun vs H1=>r vs H1 Q
theorem z4i(hc:CallR X (.builtin id) r)(hg:Gl X x)(hm:X.mg x=none)(hv:bootBuiltins x=some (.builtin id))(ha:PA X (e::es) t)(hn:x≠ "__name__" :=by decide)(hdb:(x==("__debug__" :Str))=false:=by decide)
 (he:starEach (e::es) X.env=(false,eval e X.env)::starEach es X.env:=by rfl) (hpl:(backTo pos (starEach es X.env)).any (·.1)=false:=by rfl):PE X (.Call (.Name x p) (e::es) [] pos) (tCB r t):=by
 intro pins s σ H Q I h
 refine wpAny_Call_Name_kw (z7P I hg hm hv ?_ hn hdb)
 exact PyProof.Rows.callWith_builtin1 (thn (ha pos pins s σ H _ I h) fun us s1 ⟨vs,H1,I1,r1,q1⟩=>hc pins s1 σ H1 vs us Q I1 r1 q1) he hpl
theorem z94(hc:CallR X (.type T) r)(hg:Gl X x)(hm:X.mg x=none)(hv:bootBuiltins x=some (.type T))(ha:PA X (e::es) t)(hn:x≠ "__name__" :=by decide)(hdb:(x==("__debug__" :Str))=false:=by decide)
 (he:starEach (e::es) X.env=(false,eval e X.env)::starEach es X.env:=by rfl) (hpl:(backTo pos (starEach es X.env)).any (·.1)=false:=by rfl):PE X (.Call (.Name x p) (e::es) [] pos) (tCB r t):=by
 intro pins s σ H Q I h
 refine wpAny_Call_Name_kw (z7P I hg hm hv ?_ hn hdb)
 exact PyProof.Rows.callWith_type1 (thn (ha pos pins s σ H _ I h) fun us s1 ⟨vs,H1,I1,r1,q1⟩=>hc pins s1 σ H1 vs us Q I1 r1 q1) he hpl
end
end L2
namespace HT
open PySem PyProof.Rows
section
open PySem.SeqAt
open PySem.AutoSeq1 (wpAny_loadPart')
open PySem.MeetsSeq PySem.MeetsSeq2 PySem.MeetsSeq3
end
section
variable{prog:Program}{w:World}{A:Around}{E:Value->Shared->Prop}{s:Shared}
theorem cat_tup{t b:Addr}{vs ws:List Value}{Q:Value->Shared->Prop}(ht:IsTup s.heap t vs.toArray)(hb:IsTup s.heap b ws.toArray)(hv:vs≠[])
 (h1:ws=[]->Q (.ref t) s) (h2:ws≠[]->Q (.ref s.heap.objs.size) {s with heap:=s.heap.push {cls:= .type "tuple",data:= .seq (vs++ws).toArray}})
 (hsz:vs.length+ws.length<=sizeLine):wpAny (model prog w) A (binaryOp .Add (.ref t) (.ref b)) Q E s:=by
 obtain⟨⟨cls,dd,data,sl⟩,ho,hc,n,hd⟩:=id ht
 obtain⟨⟨cls2,dd2,data2,sl2⟩,ho2,hc2,n2,hd2⟩:=id hb
 simp only at hc hd hc2 hd2
 subst hc hd hc2 hd2
 have e:vs.toArray++ws.toArray=(vs++ws).toArray:=by simp
 by_cases hw:ws=[]
 ·exact concat_meets ⟨_,ho,rfl⟩ ⟨_,ho2,rfl⟩ noFill_tuple_add seq_tuple_add PySem.F.slot_tuple_add PySem.F.entry_tuple_add (PySem.F.args_tuple_add_2 _ _)
   (tuple_addW1 t b vs.toArray ws.toArray n n2 dd dd2 sl sl2 (by simpa using hv) (by simp[hw])) ⟨ho,ho2,h1 hw⟩
 ·refine concat_meets ⟨_,ho,rfl⟩ ⟨_,ho2,rfl⟩ noFill_tuple_add seq_tuple_add PySem.F.slot_tuple_add PySem.F.entry_tuple_add (PySem.F.args_tuple_add_2 _ _)
   (tuple_addW2 t b vs.toArray ws.toArray n n2 dd dd2 sl sl2 (by simpa using hv) (by simpa using hw) (by rw[List.size_toArray,List.size_toArray];exact hsz)) ⟨ho,ho2, ?_⟩
  rw[e]
  exact h2 hw
noncomputable def sIx(n d:Nat):Option Int->Nat
 |none=>d
 |some v=>if v<0 then(v+(n:Int)).toNat else min v.toNat n
theorem sIx_none(n d:Nat):sIx n d none=d:=rfl
theorem sIx_nat(n d k:Nat):sIx n d (some (k:Int))=min k n:=by
 show(if(k:Int)<0 then((k:Int)+(n:Int)).toNat else min (k:Int).toNat n)=min k n
 rw[if_neg (by lia),Int.toNat_natCast]
theorem zeQ(n d:Nat)(hd:d<=n)(o:Option Int):sIx n d o<=n:=by
 cases o with
 |none=>exact hd
 |some v=>
  show(if v<0 then(v+(n:Int)).toNat else min v.toNat n)<=n
  by_cases hv:v<0
  ·rw[if_pos hv];lia
  ·rw[if_neg hv];exact Nat.min_le_right _ _
theorem z95(v:Int)(n d:Nat):(if v<0 then max (v+(n:Int)) 0 else min v (n:Int))=((sIx n d (some v):Nat):Int):=by
 show(if v<0 then max (v+(n:Int)) 0 else min v (n:Int))=(((if v<0 then(v+(n:Int)).toNat else min v.toNat n):Nat):Int)
 by_cases hv:v<0
 ·simp only[if_pos hv];lia
 ·simp only[if_neg hv];lia
theorem z8r(lo hi:Option Int)(n:Nat):Builtin.Slice.sliceAdjust lo hi 1 (n:Int)=(((sIx n 0 lo:Nat):Int),((sIx n n hi:Nat):Int)):=by
 have h1: ¬((1:Int)<0):=by lia
 unfold Builtin.Slice.sliceAdjust
 simp only[h1,if_false]
 refine Prod.ext ?_ ?_
 ·cases lo with
  |none=>rfl
  |some v=>exact z95 v n 0
 ·cases hi with
  |none=>rfl
  |some v=>exact z95 v n n
theorem z8s(i j:Nat):Builtin.Slice.slicePlaces (i:Int) (j:Int) 1=j -i:=by
 unfold Builtin.Slice.slicePlaces
 have h1:(1:Int)>0:=by lia
 simp only[h1,if_true,Int.ediv_one]
 split<;>lia
theorem z5j{v:Value}{o:Option Int}{Q:Option Int->Shared->Prop}(p:IsPart v o)(h:Q o s):wpAny (model prog w) A (Builtin.Slice.slicePartIndex v) Q E s:=by
 cases p with
 |none=>exact slicePart_none h
 |int i t=>exact slicePart_int h
theorem z2F{sl:Addr}{vl vu:Value}{lo hi:Option Int}{n:Nat}{Q:Int×Int×Nat->Shared->Prop}(hs:s.heap.IsSliceOf sl vl vu .none)(pl:IsPart vl lo)(pu:IsPart vu hi)
 (h:Q (((sIx n 0 lo:Nat):Int),1,sIx n n hi -sIx n 0 lo) s):wpAny (model prog w) A (Builtin.Slice.sliceApplied (.ref sl) (pure (n:Int))) Q E s:=by
 obtain⟨os,hos,hcs,hds⟩:=id hs
 unfold Builtin.Slice.sliceApplied Builtin.Slice.sliceFields
 refine wpAny_bind (wpAny_bind (wpAny_field hos hds (x:=vl) rfl (wpAny_bind (wpAny_field hos hds (x:=vu) rfl (wpAny_bind (wpAny_field hos hds (x:= .none) rfl (wpAny_pure ?_)))))))
 refine wpAny_bind (slicePart_none ?_)
 show wpAny _ _ (if((1:Int)==0)=true then _ else _) _ _ s
 rw[if_neg (by decide)]
 refine wpAny_bind (z5j pl (wpAny_bind (z5j pu (wpAny_bind (wpAny_pure ?_)))))
 show wpAny _ _ (match Builtin.Slice.sliceAdjust lo hi 1 (n:Int) with|(lo,hi)=>pure (lo,(1:Int),Builtin.Slice.slicePlaces lo hi 1)) _ _ s
 rw[z8r lo hi n]
 show wpAny _ _ (pure (((sIx n 0 lo:Nat):Int),(1:Int),Builtin.Slice.slicePlaces ((sIx n 0 lo:Nat):Int) ((sIx n n hi:Nat):Int) 1)) _ _ s
 rw[z8s]
 exact wpAny_pure h
theorem zaW(xs:Array Value)(i k:Nat):((List.range k).filterMap fun(m:Nat)=>xs[((i:Int)+(m:Int)*1).toNat]?).toArray=((xs.toList.drop i).take k).toArray:=by
 have e:(fun(m:Nat)=>xs[((i:Int)+(m:Int)*1).toNat]?)=fun m=>xs[i+m]? :=by
  funext m
  have:((i:Int)+(m:Int)*1).toNat=i+m:=by lia
  rw[this]
 rw[e]
 have:=pick_run xs i k
 rw[List.filterMap_map] at this
 have e2:((fun x=>xs[x]?)∘fun x=>i+x)=fun m=>xs[i+m]? :=rfl
 rw[e2] at this
 rw[this]
theorem getItem_tuple_cut{t sl:Addr}{items:Array Value}{vl vu:Value}{lo hi:Option Int}{Q:Value->Shared->Prop}(ht:IsTup s.heap t items)(hs:s.heap.IsSliceOf sl vl vu .none)(pl:IsPart vl lo)(pu:IsPart vu hi)
 (hw: ¬(sIx items.size 0 lo=0/\sIx items.size items.size hi=items.size))
 (h:Q (.ref s.heap.objs.size) {s with heap:=s.heap.push {cls:= .type "tuple",data:= .seq ((items.toList.drop (sIx items.size 0 lo)).take (sIx items.size items.size hi -sIx items.size 0 lo)).toArray}})
 (hsz:items.size<=sizeLine):wpAny (model prog w) A (getItem (.ref t) (.ref sl)) Q E s:=by
 have htake:sizeOk (.seq ((items.toList.drop (sIx items.size 0 lo)).take (sIx items.size items.size hi -sIx items.size 0 lo)).toArray):=by
  show((items.toList.drop (sIx items.size 0 lo)).take (sIx items.size items.size hi -sIx items.size 0 lo)).toArray.size<=sizeLine
  rw[List.size_toArray,List.length_take,List.length_drop,Array.length_toList]
  lia
 have hj:sIx items.size items.size hi<=items.size:=zeQ _ _ (Nat.le_refl _) hi
 obtain⟨os,hos,hcs,hds⟩:=id hs
 have hTs:s.TypeIs (.ref sl) "slice" :=⟨os,hos,hcs⟩
 unfold getItem
 try with_reducible refine wpAny_holding ?_
 first|refine wpAny_bind (wpAny_pure ?_)|skip
 refine wpAny_bind (wpAny_sequenceKey ht.typeIs (by decide) ?_)
 refine wpAny_bind (wpAny_callSpecial?_slot (name:=Str.ofString "__getitem__") ht.typeIs PyProof.Rows.slot_tuple_getitem
  (wpAny_call_entry PyProof.Rows.slot_tuple_getitem ht.typeIs entry_tuple_getitem ?_ (args_tuple_getitem _ _)))
 show wpAny _ _ (Builtin.Tuple.tupleItemsOf (.ref t)>>=_) _ _ s
 refine wpAny_bind (tupleItemsOf_ ht ?_)
 refine wpAny_bind (wpAny_typeOf hTs ?_)
 rw[if_pos (by decide)]
 refine wpAny_bind (z2F hs pl pu ?_)
 have hno: ¬((((sIx items.size 0 lo:Nat):Int)==0&&(1:Int)==1&&(sIx items.size items.size hi -sIx items.size 0 lo)==items.size)=true):=by
  intro q
  rw[Bool.and_eq_true,Bool.and_eq_true] at q
  have q1:((sIx items.size 0 lo:Nat):Int)=0:=eq_of_beq q.1.1
  have q2:sIx items.size items.size hi -sIx items.size 0 lo=items.size:=eq_of_beq q.2
  exact hw ⟨by lia,by lia⟩
 show wpAny _ _ (if(((sIx items.size 0 lo:Nat):Int)==0&&(1:Int)==1&&(sIx items.size items.size hi -sIx items.size 0 lo)==items.size)=true then _ else _) _ _ s
 rw[if_neg hno,zaW]
 first
  |exact wpAny_bind (m:=Builtin.Tuple.tupleExact _) (wpAny_newObj_type (wpAny_pure ⟨_,rfl,wpAny_pure h⟩) htake)
  |exact wpAny_bind (m:=Builtin.Tuple.tupleExact _) (wpAny_newObj_type (wpAny_bind (wpAny_pure (wpAny_pure ⟨_,rfl,wpAny_pure h⟩))) htake)
  |exact wpAny_bind (wpAny_bind (m:=Builtin.Tuple.tupleExact _) (wpAny_newObj_type (wpAny_pure (wpAny_pure ⟨_,rfl,wpAny_pure h⟩)) htake))
  |exact wpAny_bind (wpAny_bind (m:=Builtin.Tuple.tupleExact _) (wpAny_newObj_type (wpAny_pure ⟨_,rfl,wpAny_pure h⟩) htake))
end
end HT
namespace L2
open PySem PySem.Spec PyProof.Rows
noncomputable abbrev TO:=St->Hp->(Option Int->Hp->Prop)->Prop
noncomputable def PO(X:Cx)(e:Option Expr)(t:TO):Prop:=
 ∀(pins:List (Addr×Obj)) (s:Shared) (σ:St) (H:Hp) (Q:Option Int->Hp->Prop),Inv X pins σ H s->t σ H Q->
  wpAny (model X.prog X.w) X.A (evalPart e X.env) (fun u s'=> ∃o H',Inv X pins σ H' s'/\IsPart u o/\Q o H') X.xe s
noncomputable def zcZ:TO:=fun _ H Q=>Q none H
noncomputable def zhD(t:TE):TO:=fun σ H Q=>t σ H fun x H1=> ∃i,x= .int i/\Q (some i) H1
section
variable{X:Cx}{e:Expr}{te:TE}{lo hi:Option Expr}{tl th:TO}{pos p2:Pos}
theorem zd0:PO X none zcZ:=by
 intro pins s σ H Q I h
 rw[evalPart_none]
 exact wpAny_pure ⟨none,H,I, .none,h⟩
theorem zd1(h:PE X e te):PO X (some e) (zhD te):=by
 intro pins s σ H Q I hw
 rw[evalPart_some]
 refine thn (h pins s σ H _ I hw) fun u s1 ⟨x,H1,I1,r1,q1⟩=> ?_
 obtain⟨i,rfl,q⟩:=q1
 obtain⟨t,rfl⟩:=r1
 exact⟨some i,H1,I1, .int i t,q⟩
noncomputable def SlR(X:Cx)(r:V->Option Int->Option Int->Hp->VK->Prop):Prop:=
 ∀(pins:List (Addr×Obj)) (s:Shared) (σ:St) (H:Hp) (x:V) (v vl vu:Value) (lo hi:Option Int) (sl:Addr) (Q:VK),Inv X pins σ H s->RelV x v->s.heap.IsSliceOf sl vl vu .none->IsPart vl lo->IsPart vu hi->r x lo hi H Q->
  ∃T id,typeLookup (.type T) "__getitem__" =pure (some (.builtin id))/\s.TypeIs v T/\wpAny (model X.prog X.w) X.A (getItem v (.ref sl)) (EP X pins σ Q) X.xe s
theorem SlR.or{r r':V->Option Int->Option Int->Hp->VK->Prop}(h:SlR X r)(h':SlR X r'):SlR X (fun x lo hi H Q=>r x lo hi H Q\/r' x lo hi H Q):=by
 intro pins s σ H x v vl vu lo hi sl Q I rx hs pl pu q
 rcases q with q|q
 ·exact h pins s σ H x v vl vu lo hi sl Q I rx hs pl pu q
 ·exact h' pins s σ H x v vl vu lo hi sl Q I rx hs pl pu q
noncomputable def tSl(r:V->Option Int->Option Int->Hp->VK->Prop)(te:TE)(tl th:TO):TE:=fun σ H Q=>te σ H fun x H1=>tl σ H1 fun l H2=>th σ H2 fun u H3=>r x l u H3 Q
theorem z7S{r:V->Option Int->Option Int->Hp->VK->Prop}(hr:SlR X r)(he:PE X e te)(hl:PO X lo tl)(hu:PO X hi th):PE X (.Subscript e (.Slice lo hi none p2) pos) (tSl r te tl th):=by
 intro pins s σ H Q I h
 refine Subscript_ (thn (he pins s σ H _ I h) fun v s1 ⟨x,H1,I1,r1,q1⟩=> ?_)
 refine wpAny_Slice (thn (hl pins s1 σ H1 _ I1 q1) fun vl s2 ⟨l,H2,I2,pl,q2⟩=>thn (hu pins s2 σ H2 _ I2 q2) fun vu s3 ⟨u,H3,I3,pu,q3⟩=> ?_)
 rw[evalPart_none]
 refine wpAny_pure ?_
 have I4:Inv X pins σ H3 {s3 with heap:=s3.heap.push {cls:= .type "slice",data:= .fields #[vl,vu, .none]}}:=I3.kept (t':=s3.toks) fun b ob q=>Heap.get?_push_of_some _ q
 obtain⟨T,id,hT,ht,hg⟩:=hr pins {s3 with heap:=s3.heap.push {cls:= .type "slice",data:= .fields #[vl,vu, .none]}} σ H3 x v vl vu l u s3.heap.objs.size Q I4 r1 (Heap.IsSliceOf.new ..) pl pu q3
 show wpAny (model X.prog X.w) X.A (subscriptTail e (.Slice lo hi none p2) v (.ref s3.heap.objs.size)) (EP X pins σ Q) X.xe {s3 with heap:=s3.heap.push {cls:= .type "slice",data:= .fields #[vl,vu, .none]}}
 exact tail_any (ops:=[.ref s3.heap.objs.size,v]) ht hT hg (by with_unfolding_all rfl)
noncomputable def cutV(xs:List V)(lo hi:Option Int):List V:=(xs.drop (HT.sIx xs.length 0 lo)).take (HT.sIx xs.length xs.length hi -HT.sIx xs.length 0 lo)
theorem z4s(xs:List V)(lo hi:Option Int):(cutV xs lo hi).length<=xs.length:=by
 unfold cutV
 rw[List.length_take,List.length_drop]
 lia
noncomputable def rSlT(K:W.Frag):V->Option Int->Option Int->Hp->VK->Prop:=fun x lo hi H Q=> ∃a xs,x= .ref a/\SqT K H a xs/\
 ¬(HT.sIx xs.length 0 lo=0/\HT.sIx xs.length xs.length hi=xs.length)/\∀p,H p=none->Q (.ref p) (upd H p (.tup (cutV xs lo hi)))
theorem zeR:SlR X (rSlT X.K):=by
 intro pins s σ H x v vl vu lo hi sl Q I rx hs pl pu h
 obtain⟨a,xs,rfl,hx,hw,q⟩:=h
 cases rx
 obtain⟨its,r,ht,hz⟩:=I.tuple hx
 have hlen:its.toArray.size=xs.length:=by rw[List.size_toArray];exact r.length.symm
 refine⟨"tuple",_,PyProof.Rows.slot_tuple_getitem.lookup,ht.typeIs, ?_⟩
 refine HT.getItem_tuple_cut ht hs pl pu (by rw[hlen];exact hw) ?_ (by rw[hlen];exact hz)
 rw[hlen]
 refine⟨.ref s.heap.objs.size,_,I.laid (t':=s.toks) (o:= .tup (cutV xs lo hi)) (fun b ob q=>Heap.get?_push_of_some _ q) (Nat.le_refl _) ?_,rfl,q _ (I.hok.fresh (Nat.le_refl _))⟩
 exact⟨Nat.le_trans (z4s xs lo hi) hz,_,(r.drop (HT.sIx xs.length 0 lo)).take (HT.sIx xs.length xs.length hi -HT.sIx xs.length 0 lo),IsTup.new _ _⟩
noncomputable def zhE(K:W.Frag):R2:=fun x y H Q=> ∃a b xs ys,x= .ref a/\y= .ref b/\SqT K H a xs/\SqT K H b ys/\xs≠[]/\xs.length+ys.length<=sizeLine/\
 (ys=[]->Q (.ref a) H)/\(ys≠[]->∀p,H p=none->Q (.ref p) (upd H p (.tup (xs++ys))))
theorem Vals.nil_iff{xs:List V}{us:List Value}(r:Vals xs us):us=[]↔xs=[]:=by
 cases r with
 |nil=>simp
 |cons _ _=>simp
theorem zd2:OpR X (binaryOp .Add) (zhE X.K):=by
 intro pins s σ H x y v u Q I rx ry h
 obtain⟨a,b,xs,ys,rfl,rfl,ha,hb,hx,hz,q1,q2⟩:=h
 cases rx
 cases ry
 obtain⟨its,r1,p1,_⟩:=I.tuple ha
 obtain⟨its2,r2,p2,_⟩:=I.tuple hb
 refine HT.cat_tup p1 p2 (fun z=>hx (r1.nil_iff.mp z)) (fun z=>⟨.ref a,H,I,rfl,q1 (r2.nil_iff.mp z)⟩) (fun z=> ?_) (by rw[<-r1.length,<-r2.length];exact hz)
 refine⟨.ref s.heap.objs.size,_,I.laid (t':=s.toks) (o:= .tup (xs++ys)) (fun b ob q=>Heap.get?_push_of_some _ q) (Nat.le_refl _) ?_,rfl,q2 (fun w=>z (r2.nil_iff.mpr w)) _ (I.hok.fresh (Nat.le_refl _))⟩
 exact⟨by rw[List.length_append];exact hz,_,r1.append r2,IsTup.new _ _⟩
end
noncomputable def ixN(n:Nat)(i:Int):Option Nat:=if 0<=i then(if i<n then some i.toNat else none) else if -(n:Int)<=i then some (i+n).toNat else none
noncomputable def atI{α:Type}(xs:List α)(i:Int):Option α:=(ixN xs.length i).bind fun j=>xs[j]?
theorem z96{n:Nat}{i:Int}{j:Nat}(h:ixN n i=some j):seqIndex? i n=some j/\j<n/\-(n:Int)<=i/\i<n:=by
 unfold ixN at h
 by_cases h0:0<=i
 ·rw[if_pos h0] at h
  by_cases h1:i<n
  ·rw[if_pos h1] at h
   have e:i.toNat=j:=Option.some.inj h
   exact⟨by rw[seqIndex_of h0 h1,e],by lia,by lia,h1⟩
  ·rw[if_neg h1] at h;cases h
 ·rw[if_neg h0] at h
  by_cases h1: -(n:Int)<=i
  ·rw[if_pos h1] at h
   have e:(i+n).toNat=j:=Option.some.inj h
   exact⟨by rw[seqIndex_neg (by lia) h1,e],by lia,h1,by lia⟩
  ·rw[if_neg h1] at h;cases h
theorem z97{α:Type}{xs:List α}{i:Int}{v:α}(h:atI xs i=some v): ∃j,seqIndex? i xs.length=some j/\xs[j]? =some v/\j<xs.length/\-(xs.length:Int)<=i/\i<xs.length:=by
 unfold atI at h
 cases e:ixN xs.length i with
 |none=>rw[e] at h;cases h
 |some j=>
  rw[e] at h
  obtain⟨h1,h2,h3,h4⟩:=z96 e
  exact⟨j,h1,h,h2,h3,h4⟩
theorem zd3{α:Type}{xs:List α}{j:Nat}{v:α}(h:xs[j]? =some v):atI xs (j:Int)=some v:=by
 have hj:j<xs.length:=(List.getElem?_eq_some_iff.mp h).1
 have e:ixN xs.length (j:Int)=some j:=by
  unfold ixN
  rw[if_pos (by lia),if_pos (by lia)];simp
 unfold atI;rw[e];exact h
noncomputable def z2K(b:Expr):Prop:= ∀o i,subscripted b false o i=operate [o,i] (getItem o i)
noncomputable def IxR(X:Cx)(r:R2):Prop:=
 ∀(value slice:Expr) (pins:List (Addr×Obj)) (s:Shared) (σ:St) (H:Hp) (x y:V) (v u:Value) (Q:VK),Inv X pins σ H s->RelV x v->RelV y u->r x y H Q->
  subscripted slice false v u=operate [v,u] (getItem v u)->wpAny (model X.prog X.w) X.A (subscriptTail value slice v u) (EP X pins σ Q) X.xe s
noncomputable def MtR(X:Cx)(id:String)(r:V->List V->Hp->VK->Prop):Prop:=
 ∀(pins:List (Addr×Obj)) (s:Shared) (σ:St) (H:Hp) (x:V) (xs:List V) (v:Value) (us:List Value) (Q:VK),Inv X pins σ H s->RelV x v->Vals xs us->r x xs H Q->
  wpAny (model X.prog X.w) X.A (call (.builtin id) (v::us)) (EP X pins σ Q) X.xe s
section
variable{X:Cx}{a b:Expr}{ta tb:TE}{pos:Pos}
theorem IxR.or{r r':R2}(h:IxR X r)(h':IxR X r'):IxR X (fun x y H Q=>r x y H Q\/r' x y H Q):=by
 intro value slice pins s σ H x y v u Q I rx ry q hs
 rcases q with q|q
 ·exact h value slice pins s σ H x y v u Q I rx ry q hs
 ·exact h' value slice pins s σ H x y v u Q I rx ry q hs
theorem zhF{r:R2}(hr:IxR X r)(ha:PE X a ta)(hb:PE X b tb)(hs:z2K b):PE X (.Subscript a b pos) (tOp r ta tb):=by
 intro pins s σ H Q I h
 exact Subscript_ (binT ha hb I h fun v u s2 x y H2 I2 rx ry q=>hr a b pins s2 σ H2 x y v u Q I2 rx ry q (hs _ _))
noncomputable def rIxL(K:W.Frag):R2:=fun x y H Q=> ∃p xs i v,x= .ref p/\y= .int i/\SqL K H p xs/\atI xs i=some v/\Q v H
noncomputable def rIxT(K:W.Frag):R2:=fun x y H Q=> ∃p xs i v,x= .ref p/\y= .int i/\SqT K H p xs/\atI xs i=some v/\Q v H
theorem zd4:IxR X (rIxL X.K):=by
 intro value slice pins s σ H x y v u Q I rx ry h hs
 obtain⟨p,xs,i,z,rfl,rfl,hq,he,q⟩:=h
 cases rx
 obtain⟨t,rfl⟩:=ry
 obtain⟨its,r,pl,hz⟩:=I.list hq
 obtain⟨j,h1,h2,h3,h4,h5⟩:=z97 he
 obtain⟨w,ew,rw'⟩:=r.get h2
 have hl:=r.length
 have hn:=z5h
 have fin:EP X pins σ Q w s:=⟨z,H,I,rw',q⟩
 by_cases h0:0<=i
 ·have hj:i.toNat=j:=by
   rw[seqIndex_of h0 h5] at h1
   exact Option.some.inj h1
  exact item_listR pl.isList h0 (by lia) (by rw[hj];simpa using ew) fin hs
 ·have hj:(i+(its.toArray.size:Int)).toNat=j:=by
   rw[seqIndex_neg (by lia) h4] at h1
   rw[List.size_toArray,<-hl]
   exact Option.some.inj h1
  exact subscriptTail_builtinR (x:=w) pl.isList.typeIs slot_list_getitem.lookup
   (wpAny_getItem_list_neg (Q:=fun r s'=>r=w/\EP X pins σ Q r s') pl.isList (by lia) (by rw[List.size_toArray]<;>lia) (by lia) (by rw[hj];simpa using ew) ⟨rfl,fin⟩) hs
theorem zeS:IxR X (rIxT X.K):=by
 intro value slice pins s σ H x y v u Q I rx ry h hs
 obtain⟨p,xs,i,z,rfl,rfl,hq,he,q⟩:=h
 cases rx
 obtain⟨t,rfl⟩:=ry
 obtain⟨its,r,pl,hz⟩:=I.tuple hq
 obtain⟨j,h1,h2,h3,h4,h5⟩:=z97 he
 obtain⟨w,ew,rw'⟩:=r.get h2
 have hl:=r.length
 have hn:=z5h
 have fin:EP X pins σ Q w s:=⟨z,H,I,rw',q⟩
 exact subscriptTail_builtinR (x:=w) pl.typeIs slot_tuple_getitem.lookup
  (getItem_tuple (j:=j) (Q:=fun r s'=>r=w/\EP X pins σ Q r s') pl (by lia) (by lia) (by rw[List.size_toArray,<-hl];exact h1) (by simpa using ew) ⟨rfl,fin⟩) hs
theorem z8t(its:List Value)(n j:Nat)(u:Value):Obj.mapSeq (·.setIfInBounds j u) {cls:= .type "list",data:= .seq its.toArray n}={cls:= .type "list",data:= .seq (its.set j u).toArray n}:=by
 simp[Obj.mapSeq]
theorem Inv.lst{pins:List (Addr×Obj)}{σ:St}{H:Hp}{s:Shared}{p:Addr}{xs:List V}(I:Inv X pins σ H s)(h:H p=some (.lst xs)):
 ∃(its:List Value) (n:Nat),Vals xs its/\s.heap.get? p=some {cls:= .type "list",data:= .seq its.toArray n}/\xs.length<=sizeLine:=by
 obtain⟨z,its,n,r,e⟩:=I.hok p _ h
 exact⟨its,n,r,e,z⟩
theorem Inv.lstUpd{pins:List (Addr×Obj)}{σ:St}{H:Hp}{s:Shared}{p:Addr}{xs ys:List V}{its its':List Value}{n n':Nat}{f:Obj->Obj}(I:Inv X pins σ H s)(h:H p=some (.lst xs))
 (ho:s.heap.get? p=some {cls:= .type "list",data:= .seq its.toArray n}) (hf:f {cls:= .type "list",data:= .seq its.toArray n}={cls:= .type "list",data:= .seq its'.toArray n'}) (r:Vals ys its') (hz:ys.length<=sizeLine) (t:Nat):
 Inv X pins σ (upd H p (.lst ys)) {s with heap:=s.heap.update p f,toks:=t}:=by
 have e:(s.heap.update p f).get? p=some {cls:= .type "list",data:= .seq its'.toArray n'}:=by
  rw[Heap.get?_update_self f ho (by rw[hf]<;>rfl),hf]
 refine I.write (x:=p) (e:=p) (by rw[h];trivial) (.inl rfl) (fun b u hb q=>(Heap.get?_update_other _ _ (Ne.symm hb)).trans q) ⟨_,e⟩ ?_
 exact⟨hz,its',n',r,e⟩
noncomputable def zaX:V->V->V->Hp->(Hp->Prop)->Prop:=fun o i v H Q=> ∃p xs k j,o= .ref p/\i= .int k/\H p=some (.lst xs)/\ixN xs.length k=some j/\Q (upd H p (.lst (xs.set j v)))
theorem z7T:PSet X zaX:=by
 intro pins s σ H o i v ov iv u Q I ro ri rv h
 obtain⟨p,xs,k,j,rfl,rfl,hp,hj,q⟩:=h
 cases ro
 obtain⟨t,rfl⟩:=ri
 obtain⟨its,n,r,ho,hz⟩:=I.lst hp
 obtain⟨h1,h2,h3,h4⟩:=z96 hj
 have hl:=r.length
 have hn:=z5h
 have I':Inv X pins σ (upd H p (.lst (xs.set j v))) {s with heap:=s.heap.update p (Obj.mapSeq (·.setIfInBounds j u))}:=
  I.lstUpd hp ho (z8t its n j u) (r.set rv j) (by rw[List.length_set];exact hz) s.toks
 by_cases h0:0<=k
 ·have hk:k.toNat=j:=by
   rw[seqIndex_of h0 h4] at h1
   exact Option.some.inj h1
  exact W.ki_setAt ho h0 (by lia) (by rw[List.size_toArray,<-hl];exact h4) (by rw[hk];exact⟨_,I',q⟩)
 ·have hk:(k+(its.toArray.size:Int)).toNat=j:=by
   rw[seqIndex_neg (by lia) h3] at h1
   rw[List.size_toArray,<-hl]
   exact Option.some.inj h1
  exact W.ki_setBack ho (by lia) (by rw[List.size_toArray,<-hl];exact h3) (by lia) (by rw[hk];exact⟨_,I',q⟩)
theorem z6A(lo hi:Option Int)(n:Nat):(sliceBounds lo hi none n).1=((HT.sIx n 0 lo:Nat):Int)/\(sliceBounds lo hi none n).2.1=((HT.sIx n n hi:Nat):Int)/\(sliceBounds lo hi none n).2.2=1:=by
 refine⟨?_, ?_,rfl⟩
 ·cases lo with
  |none=>simp[sliceBounds,HT.sIx]
  |some i=>
   simp only[sliceBounds,HT.sIx,Option.getD_none,show(1:Int)>0 by decide,if_true]
   by_cases h:i<0
   ·simp only[h,if_true]<;>lia
   ·simp only[h,if_false]<;>lia
 ·cases hi with
  |none=>simp[sliceBounds,HT.sIx]
  |some i=>
   simp only[sliceBounds,HT.sIx,Option.getD_none,show(1:Int)>0 by decide,if_true]
   by_cases h:i<0
   ·simp only[h,if_true]<;>lia
   ·simp only[h,if_false]<;>lia
theorem z5C(its:List Value)(lo hi:Option Int):slicePick its.toArray lo hi none=((its.drop (HT.sIx its.length 0 lo)).take (HT.sIx its.length its.length hi -HT.sIx its.length 0 lo)).toArray:=by
 obtain⟨h1,h2,h3⟩:=z6A lo hi its.toArray.size
 unfold slicePick
 rw[h1,h2,h3]
 simp only[sliceRange_one,pick_run,List.size_toArray]<;>rfl
noncomputable def rSlL(K:W.Frag):V->Option Int->Option Int->Hp->VK->Prop:=fun x lo hi H Q=> ∃a xs,x= .ref a/\SqL K H a xs/\∀p,H p=none->Q (.ref p) (upd H p (.lst (cutV xs lo hi)))
theorem zd5:SlR X (rSlL X.K):=by
 intro pins s σ H x v vl vu lo hi sl Q I rx hs pl pu h
 obtain⟨a,xs,rfl,hx,q⟩:=h
 cases rx
 obtain⟨its,r,ht,hz⟩:=I.list hx
 have hlen:=r.length
 refine⟨"list",_,slot_list_getitem.lookup,ht.isList.typeIs, ?_⟩
 refine wpAny_getItem_list_slice ht.isList hs pl pu .none (by simp) ?_ (by rw[List.size_toArray]<;>lia)
 rw[z5C,<-hlen]
 refine⟨.ref s.heap.objs.size,_,I.laid (t':=s.toks) (o:= .lst (cutV xs lo hi)) (fun b ob q=>Heap.get?_push_of_some _ q) (Nat.le_refl _) ?_,rfl,q _ (I.hok.fresh (Nat.le_refl _))⟩
 exact⟨Nat.le_trans (z4s xs lo hi) hz,_,0,(r.drop (HT.sIx xs.length 0 lo)).take (HT.sIx xs.length xs.length hi -HT.sIx xs.length 0 lo),Heap.get?_push_size _ rfl⟩
theorem z43:CallR X (.builtin "len") (fun xs H Q=> ∃p ys,xs=[.ref p]/\(SqL X.K H p ys\/SqT X.K H p ys)/\Q (.int ys.length) H):=by
 intro pins s σ H xs us Q I r h
 obtain⟨p,ys,rfl,hq,q⟩:=h
 obtain⟨u,rfl,rx⟩:=z37 r
 cases rx
 have hn:=z5h
 rcases hq with hq|hq
 ·obtain⟨its,r',pl,hz⟩:=I.list hq
  have hlen:=r'.length
  exact Calls.call_len_list pl.isList (by simp only[List.size_toArray]<;>lia) ⟨.int ys.length,H,I.tok _,⟨s.toks+1,by rw[List.size_toArray,hlen]⟩,q⟩
 ·obtain⟨its,r',pl,hz⟩:=I.tuple hq
  have hlen:=r'.length
  exact len_tuple pl (by simp only[List.size_toArray]<;>lia) ⟨.int ys.length,H,I.tok _,⟨s.toks+1,by rw[List.size_toArray,hlen]⟩,q⟩
theorem z6B:CallR X (.builtin "len") (fun xs H Q=> ∃z,xs=[.str z]/\z.length<=sizeLine/\Q (.int z.length) H):=by
 intro pins s σ H xs us Q I r h
 obtain⟨z,rfl,hz,q⟩:=h
 obtain⟨u,rfl,t,rfl⟩:=z37 r
 have hn:=z5h
 exact len_str (by lia) ⟨.int z.length,H,I.tok _,⟨_,rfl⟩,q⟩
theorem CallR.or{f:Value}{r r':List V->Hp->VK->Prop}(h:CallR X f r)(h':CallR X f r'):CallR X f (fun xs H Q=>r xs H Q\/r' xs H Q):=by
 intro pins s σ H xs us Q I rs q
 rcases q with q|q
 ·exact h pins s σ H xs us Q I rs q
 ·exact h' pins s σ H xs us Q I rs q
theorem z5D:CallR X (.type "tuple") (fun xs H Q=> ∃p ys,xs=[.ref p]/\((SqL X.K H p ys/\∀l,H l=none->Q (.ref l) (upd H l (.tup ys)))\/(SqT X.K H p ys/\Q (.ref p) H))):=by
 intro pins s σ H xs us Q I r h
 obtain⟨p,ys,rfl,h⟩:=h
 obtain⟨u,rfl,rx⟩:=z37 r
 cases rx
 rcases h with⟨hq,q⟩|⟨hq,q⟩
 ·obtain⟨its,r',pl,hz⟩:=I.list hq
  have hlen:=r'.length
  refine call_tuple_list pl.isList (fun h' kp=> ?_) (by simp only[List.size_toArray]<;>lia)
  have I1:Inv X pins σ H {s with heap:=h'}:=I.kept (t':=s.toks) kp
  have I2:Inv X pins σ (upd H h'.objs.size (.tup ys)) {s with heap:=h'.push {cls:= .type "tuple",data:= .seq its.toArray}}:=
   I1.laid (t':=s.toks) (fun b o e=>Heap.get?_push_of_some _ e) (Nat.le_refl _) (show z1o X.prog X.w _ _ _ (.tup ys) from⟨hz,its,r',IsTup.new _ _⟩)
  exact⟨.ref h'.objs.size,_,I2,rfl,q _ (I1.hok.fresh (Nat.le_refl _))⟩
 ·obtain⟨its,r',pl,hz⟩:=I.tuple hq
  exact call_tuple_same pl ⟨.ref p,H,I,rfl,q⟩
noncomputable def tyV(K:W.Frag)(T:String)(x:V)(H:Hp):Prop:=match x with
 | .str _=>T= "str"
 | .int _=>T= "int"
 | .ref p=>(T= "list" /\∃xs,SqL K H p xs)\/(T= "tuple" /\∃o,K.lookup p=some o/\o.cls= .type "tuple" /\o.dict=none)\/
  (T= "dict" /\((∃kvs,H p=some (.dK kvs))\/∃kvs,H p=some (.dT kvs)))\/(T= "set" /\∃S n,H p=some (.set S n))
 |_=>False
theorem zeT{pins:List (Addr×Obj)}{σ:St}{H:Hp}{s:Shared}{T:String}{x:V}{v:Value}(I:Inv X pins σ H s)(r:RelV x v)(ty:tyV X.K T x H):
 s.TypeIs v T/\∀a,v= .ref a->∃ob,s.heap.get? a=some ob/\ob.dict=none:=by
 cases x with
 |str z=>
  obtain⟨t,rfl⟩:=r
  cases(show T= "str" from ty)
  exact⟨typeIs_str s z t,fun _ e=>nomatch e⟩
 |int i=>
  obtain⟨t,rfl⟩:=r
  cases(show T= "int" from ty)
  exact⟨typeIs_int s i t,fun _ e=>nomatch e⟩
 |ref p=>
  cases r
  rcases ty with⟨rfl,xs,hq⟩|⟨rfl,o,hk,hc,hd⟩|⟨rfl,hk⟩|⟨rfl,S,n,hk⟩
  ·obtain⟨its,_,pl,_⟩:=I.list hq
   refine⟨pl.isList.typeIs,fun a e=> ?_⟩
   cases e
   obtain⟨o,n,e,c,hd,_⟩:=pl
   exact⟨o,e,hd⟩
  ·refine⟨⟨o,I.kIn p o hk,hc⟩,fun a e=> ?_⟩
   cases e
   exact⟨o,I.kIn _ o hk,hd⟩
  ·have z: ∃o,s.heap.get? p=some o/\o.ExactDict:=by
    rcases hk with⟨kvs,hk⟩|⟨kvs,hk⟩
    ·obtain⟨_,_,_,_,o,_,_,e,ex,_⟩:=I.hok p _ hk
     exact⟨o,e,ex⟩
    ·obtain⟨_,_,_,_,o,_,_,e,ex,_⟩:=I.hok p _ hk
     exact⟨o,e,ex⟩
   obtain⟨o,e,ex⟩:=z
   refine⟨⟨o,e,ex.1⟩,fun a e2=> ?_⟩
   cases e2
   exact⟨o,e,ex.2.1⟩
  ·obtain⟨o,_,_,_,e,ex,_⟩:=I.hok p _ hk
   refine⟨⟨o,e,ex.1⟩,fun a e2=> ?_⟩
   cases e2
   exact⟨o,e,ex.2.1⟩
 |_=>exact False.elim ty
noncomputable def tBM(K:W.Frag)(T:String)(r:V->List V->Hp->VK->Prop)(to:TE)(t:TA):TE:=fun σ H Q=>to σ H fun x H1=>tyV K T x H1/\t σ H1 fun xs H2=>r x xs H2 Q
variable{o e:Expr}{es:List Expr}{to:TE}{t:TA}{name:Str}{apos cpos:Pos}{T id:String}{r:V->List V->Hp->VK->Prop}
theorem zhG(pa:PlainAttrs T)(slot:Slot T name id)(hty:typeOf (.builtin id)=pure (.type "method_descriptor"))(hm:MtR X id r)(ho:PE X o to)(ha:PA X (e::es) t)
 (hbase:attributeBase o name X.env (eval o X.env)=eval o X.env:=by rfl)
 (hfew:((backTo cpos (starEach (e::es) X.env)).all (fun x=> !x.1)&&(backToKw cpos (keywordEach [] X.env)).all (fun x=>x.1.isSome)
  &&decide ((e::es).length+([]:List Keyword).length+(if([]:List Keyword).isEmpty then 0 else 1)<30))=true:=by rfl)
 (hline:(apos.endLine==cpos.line)=true:=by rfl) (hs:starEach (e::es) X.env=(false,eval e X.env)::starEach es X.env:=by rfl) (hplain:(backTo cpos (starEach es X.env)).any (·.1)=false:=by rfl):
 PE X (.Call (.Attribute o name apos) (e::es) [] cpos) (tBM X.K T r to t):=by
 intro pins s σ H Q I h
 refine wpAny_Call_method_late hbase hfew hline rfl (thn (ho pins s σ H _ I h) fun v s1 ⟨x,H1,I1,r1,ty,q1⟩=> ?_)
 obtain⟨h1,h2⟩:=zeT I1 r1 ty
 refine⟨T,id,pa,slot,hty,h1,h2, ?_⟩
 have hA:=ha cpos pins s1 σ H1 _ I1 q1
 rw[hs] at hA⊢
 refine Calls.callWith_builtin (by show(false||(backTo cpos (starEach es X.env)).any (·.1))=false;rw[hplain]<;>rfl) (Calls.evalArgs_plain ?_)
 exact thn hA fun us s2 ⟨vs,H2,I2,r2,q2⟩=>hm pins s2 σ H2 x vs v us Q I2 r1 r2 q2
end
noncomputable def MtM(X:Cx)(id:String)(r:V->List V->Hp->VK->Prop):Prop:=
 ∀(pins:List (Addr×Obj)) (s:Shared) (σ:St) (H:Hp) (x:V) (xs:List V) (v:Value) (us:List Value) (Q:VK),Inv X pins σ H s->RelV x v->Vals xs us->r x xs H Q->
  wpAny (model X.prog X.w) X.A (call (.builtin id) (v::us)) (EP X pins σ Q) X.xe s
theorem Vals.one: ∀{x:V} {us:List Value},Vals [x] us->∃u,us=[u]/\RelV x u
 |_,_, .cons r .nil=>⟨_,rfl,r⟩
theorem Vals.rep{xs:List V}{us:List Value}(h:Vals xs us): ∀k:Nat,Vals (List.replicate k xs).flatten (List.replicate k us).flatten
 |0=> .nil
 |k+1=>by
  rw[List.replicate_succ,List.replicate_succ,List.flatten_cons,List.flatten_cons]
  exact Vals.append h (Vals.rep h k)
theorem z4t(its:List Value): ∀(k:Nat) (acc:List Value),
 List.foldl (fun x1 x2=>x1++x2) acc.toArray (List.replicate k its.toArray)=(acc++(List.replicate k its).flatten).toArray
 |0,acc=>by simp
 |k+1,acc=>by
  have e:acc.toArray++its.toArray=(acc++its).toArray:=by simp
  have e2:(acc++its)++(List.replicate k its).flatten=acc++(List.replicate (k+1) its).flatten:=by
   rw[List.replicate_succ,List.flatten_cons,List.append_assoc]
  rw[<-e2,<-z4t its k (acc++its),<-e,List.replicate_succ,List.foldl_cons]
section
variable{X:Cx}{pins:List (Addr×Obj)}{σ:St}{H:Hp}{s:Shared}{l b:Addr}{xs ys zs:List V}
theorem Inv.lset{its its':List Value}{n:Nat}{f:Array Value->Array Value}{t':Nat}(I:Inv X pins σ H s)(hH:H l=some (.lst xs))
 (e:s.heap.get? l=some {cls:= .type "list",data:= .seq its.toArray n}) (hf:f its.toArray=its'.toArray) (hv:Vals ys its') (hz:ys.length<=sizeLine):
 Inv X pins σ (upd H l (.lst ys)) {s with heap:=s.heap.update l (Obj.mapSeq f),toks:=t'}:=by
 have q:=PySem.IsL.update e f
 rw[hf] at q
 refine I.write (x:=l) (e:=l) (by rw[hH];exact trivial) (.inl rfl) (fun b' u hb hu=>(Heap.get?_update_other s.heap (Obj.mapSeq f) (Ne.symm hb)).trans hu) ⟨_,q⟩ ?_
 exact⟨hz,its',_,hv,q⟩
theorem Inv.lnew{its:List Value}{t':Nat}(I:Inv X pins σ H s)(hv:Vals ys its)(hz:ys.length<=sizeLine):
 Inv X pins σ (upd H s.heap.objs.size (.lst ys)) {s with heap:=s.heap.push {cls:= .type "list",data:= .seq its.toArray},toks:=t'}:=
 I.laid (fun _ _ q=>Heap.get?_push_of_some _ q) (Nat.le_refl _) ⟨hz,its,0,hv,Heap.get?_push_size _ rfl⟩
theorem Inv.fresh(I:Inv X pins σ H s):H s.heap.objs.size=none:=I.hok.fresh (Nat.le_refl _)
theorem Inv.lstM(I:Inv X pins σ H s)(hH:H l=some (.lst xs)):xs.length<=sizeLine/\∃(its:List Value) (n:Nat),Vals xs its/\xs.length=its.length/\s.heap.get? l=some {cls:= .type "list",data:= .seq its.toArray n}:=by
 obtain⟨z,its,n,r,e⟩:=I.hok l _ hH
 exact⟨z,its,n,r,r.length,e⟩
theorem zaY{n:Nat}(h:n<=sizeLine):Builtin.List.listTooLong n=false:=by
 unfold Builtin.List.listTooLong
 exact decide_eq_false (by lia)
end
section
variable{X:Cx}
noncomputable def zd6:V->List V->Hp->VK->Prop:=fun x vs H Q=> ∃l xs y,x= .ref l/\vs=[y]/\H l=some (.lst xs)/\xs.length<sizeLine/\Q .non (upd H l (.lst (xs++[y])))
theorem z6C:MtM X "list.append" zd6:=by
 intro pins s σ H x vs v us Q I rx rv h
 obtain⟨l,xs,y,rfl,rfl,hH,hz,q⟩:=h
 cases rx
 obtain⟨u,rfl,ru⟩:=rv.one
 obtain⟨z,its,n,r,hl,e⟩:=I.lstM hH
 refine call_meets F.slot_list_append ⟨_,e,rfl⟩ F.entry_list_append (F.args_list_append_2 _ _) (PySem.list_append l its.toArray n u (by rw[List.size_toArray];lia)) ⟨e, ?_⟩
 refine⟨.non,_,I.lset (its':=its++[u]) hH e (by simp) (r.append (.cons ru .nil)) ?_,rfl,q⟩
 rw[List.length_append,List.length_singleton]
 lia
noncomputable def rCat:R2:=fun x y H Q=> ∃l b xs zs,x= .ref l/\y= .ref b/\H l=some (.lst xs)/\H b=some (.lst zs)/\xs.length+zs.length<=sizeLine/\∀p,H p=none->Q (.ref p) (upd H p (.lst (xs++zs)))
theorem zbV:OpR X (binaryOp .Add) rCat:=by
 intro pins s σ H x y v u Q I rx ry h
 obtain⟨l,b,xs,zs,rfl,rfl,hH,hB,hz,q⟩:=h
 cases rx
 cases ry
 obtain⟨z,its,n,r,hl,e⟩:=I.lstM hH
 obtain⟨z2,its2,n2,r2,hl2,e2⟩:=I.lstM hB
 refine PySem.P.add_list e e2 ?_ (by rw[List.size_toArray,List.size_toArray];lia)
 have ea:its.toArray++its2.toArray=(its++its2).toArray:=by simp
 rw[ea]
 exact⟨.ref _,_,I.lnew (t':=s.toks) (r.append r2) (by rw[List.length_append];lia),rfl,q _ I.fresh⟩
noncomputable def rRep:R2:=fun x y H Q=> ∃l k xs,x= .ref l/\y= .int k/\H l=some (.lst xs)/\-(2^63)<=k/\k<2^63/\xs.length*k.toNat<=sizeLine/\
 ∀p,H p=none->Q (.ref p) (upd H p (.lst (List.replicate k.toNat xs).flatten))
theorem z7d{α:Type}(xs:List α)(k:Nat):(List.replicate k xs).flatten.length=k*xs.length:=by
 induction k with
 |zero=>simp
 |succ k ih=>rw[List.replicate_succ,List.flatten_cons,List.length_append,ih,Nat.succ_mul,Nat.add_comm]
theorem zeU:OpR X (binaryOp .Mult) rRep:=by
 intro pins s σ H x y v u Q I rx ry h
 obtain⟨l,k,xs,rfl,rfl,hH,h1,h2,hz,q⟩:=h
 cases rx
 obtain⟨t,rfl⟩:=ry
 obtain⟨z,its,n,r,hl,e⟩:=I.lstM hH
 have hlen:its.toArray.size*k.toNat<=sizeLine:=by rw[List.size_toArray,<-hl];exact hz
 have hcap: ¬its.toArray.size*k.toNat>(2^63 - 1)/8:=by
  have:(sizeLine:Nat)<=(2^63 - 1)/8:=by decide
  lia
 have hfit: ¬(!Builtin.List.listFitsIndex k)=true:=by
  rw[fitsIndex_both h1 h2]
  exact Bool.false_ne_true
 have hlong: ¬Builtin.List.listTooLong (its.toArray.size*k.toNat)=true:=by
  rw[zaY hlen]
  exact Bool.false_ne_true
 have hnew:List.foldl (fun x1 x2=>x1++x2) #[] (List.replicate (if its.toArray.isEmpty=true then 0 else k.toNat) its.toArray)=(List.replicate k.toNat its).flatten.toArray:=by
  have f0: ∀m:Nat,List.foldl (fun x1 x2=>x1++x2) #[] (List.replicate m its.toArray)=(List.replicate m its).flatten.toArray:=fun m=>by
   have:=z4t its m []
   rw[List.nil_append] at this
   exact this
  rw[f0]
  cases its with
  |nil=>simp
  |cons a r'=>rw[if_neg (by simp)]
 refine wpAny_binaryOp_repeat_ref (T:= "list") (U:= "int") (by decide) ⟨_,e,rfl⟩ (fun s'=>typeIs_int s' k t) noFill_list_mul F.fills_int_mul F.slot_int_rmul repeat_list F.slot_int_index.lookup
  (call_meets F.slot_int_rmul (typeIs_int s k t) F.entry_int_rmul (F.args_int_rmul_2 _ _) (int___rmul___int_list k t l its.toArray n)
   ⟨e,rfl,⟨_,e,rfl⟩,call_meets F.slot_list_mul ⟨_,e,rfl⟩ F.entry_list_mul (F.args_list_mul_2 _ _) (AutoListH.list___mul___list_int_3 l its.toArray n k t hfit hcap hlong) ⟨e, ?_⟩⟩)
 rw[hnew]
 exact⟨.ref _,_,I.lnew (t':=s.toks) (r.rep k.toNat) (by rw[z7d,Nat.mul_comm];exact hz),rfl,q _ I.fresh⟩
end
section
variable{prog:Program}{w:World}{A:Around}{E:Value->Shared->Prop}{s:Shared}
set_option maxRecDepth 100000 in
end
section
variable{κ:Type}[DecidableEq κ]
noncomputable def valV(kvs:List (κ×V))(k:κ):Option V:=(kvs.find? fun kv=>decide (kv.1=k)).map (·.2)
noncomputable def putK(kvs:List (κ×V))(k:κ)(v:V):List (κ×V):=
 if(kvs.any fun kv=>decide (kv.1=k))=true then kvs.map (fun kv=>if kv.1=k then(kv.1,v) else kv) else kvs++[(k,v)]
theorem z5E{p:κ×V}{r:List (κ×V)}{k:κ}(e:p.1=k):valV (p::r) k=some p.2:=by simp[valV,List.find?_cons,e]
theorem z4j{p:κ×V}{r:List (κ×V)}{k:κ}(e: ¬p.1=k):valV (p::r) k=valV r k:=by simp[valV,List.find?_cons,e]
theorem z7e(kvs:List (κ×V))(k:κ)(v:V):(putK kvs k v).length<=kvs.length+1:=by
 unfold putK
 split
 ·rw[List.length_map];lia
 ·rw[List.length_append,List.length_cons,List.length_nil];lia
theorem RelO.isSome_eq{o:Option V}{u:Option Value}(r:RelO o u):o.isSome=u.isSome:=by
 cases o with
 |none=>cases u with
  |none=>rfl
  |some _=>exact(show False from r).elim
 |some _=>cases u with
  |none=>exact(show False from r).elim
  |some _=>rfl
theorem KV.val{kvs:List (κ×V)}{vs:List (κ×Value)}(r:KV kvs vs)(k:κ):RelO (valV kvs k) (valueAt vs k):=by
 unfold KV at r
 induction r with
 |nil=>exact True.intro
 | @cons p q ps qs h t ih=>
  obtain⟨h1,h2⟩:=h
  by_cases e:p.1=k
  ·have e':q.1=k:=h1.symm.trans e
   have b:valueAt (q::qs) k=some q.2:=by simp[valueAt,List.find?_cons,e']
   rw[z5E e,b];exact h2
  ·have e': ¬q.1=k:=fun z=>e (h1.trans z)
   have b:valueAt (q::qs) k=valueAt qs k:=by simp[valueAt,List.find?_cons,e']
   rw[z4j e,b];exact ih
theorem KV.any{kvs:List (κ×V)}{vs:List (κ×Value)}(r:KV kvs vs)(k:κ):(kvs.any fun kv=>decide (kv.1=k))=vs.any fun kv=>decide (kv.1=k):=by
 unfold KV at r
 induction r with
 |nil=>rfl
 |cons h t ih=>rw[List.any_cons,List.any_cons,ih,h.1]
theorem KV.repl{kvs:List (κ×V)}{vs:List (κ×Value)}(r:KV kvs vs)(k:κ){y:V}{u:Value}(ry:RelV y u):
 KV (kvs.map fun kv=>if kv.1=k then(kv.1,y) else kv) (vs.map fun kv=>if kv.1=k then(kv.1,u) else kv):=by
 unfold KV at r⊢
 induction r with
 |nil=>exact .nil
 | @cons p q ps qs h t ih=>
  rw[List.map_cons,List.map_cons]
  refine .cons ?_ ih
  obtain⟨h1,h2⟩:=h
  by_cases e:p.1=k
  ·rw[if_pos e,if_pos (h1.symm.trans e)];exact⟨h1,ry⟩
  ·rw[if_neg e,if_neg (fun z=>e (h1.trans z))];exact⟨h1,h2⟩
theorem KV.put{kvs:List (κ×V)}{vs:List (κ×Value)}(r:KV kvs vs)(k:κ){y:V}{u:Value}(ry:RelV y u):KV (putK kvs k y) (stored vs k u):=by
 unfold putK stored
 rw[r.any k]
 by_cases e:(vs.any fun kv=>decide (kv.1=k))=true
 ·rw[if_pos e,if_pos e];exact r.repl k ry
 ·rw[if_neg e,if_neg e];exact Paired.snoc r ⟨rfl,ry⟩
end
theorem z98{P:Program}{w:World}{k:Key}{u:Value}(r:RelV (kV k) u):(z0j P w).is k u=true:=by
 cases k with
 |inl i=>obtain⟨t,e⟩:=(show ∃t,u=Value.int i t from r);subst e;exact z7a P w i t
 |inr x=>obtain⟨t,e⟩:=(show ∃t,u=Value.str x t from r);subst e;exact z7b P w x t
theorem z6D{P:Program}{w:World}: ∀{ks:List Key} {us:List Value},Vals (ks.map kV) us->ItemsAre (z0j P w) ks us
 |[],_,r=>by rw[List.map_nil] at r;cases r;exact .nil
 |k::ks,_,r=>by
  rw[List.map_cons] at r
  cases r with
  |cons h t=>exact .cons (z98 h) (z6D t)
noncomputable abbrev KT(H:Hp):List (NK×V)->List (NK×Addr×Value)->Prop:=Paired fun p q=>p.1=q.1/\TK H p.1 q.2.1/\RelV p.2 q.2.2
theorem KT.val{H:Hp}{kvs:List (NK×V)}{xs:List (NK×Addr×Value)}(r:KT H kvs xs)(k:NK):RelO (valV kvs k) ((atKey xs k).map (·.2)):=by
 induction r with
 |nil=>exact True.intro
 | @cons p q ps qs h t ih=>
  obtain⟨h1,_,h2⟩:=h
  by_cases e:p.1=k
  ·have e':q.1=k:=h1.symm.trans e
   have b:atKey (q::qs) k=some q.2:=by simp[atKey,List.find?_cons,e']
   rw[z5E e,b];exact h2
  ·have e': ¬q.1=k:=fun z=>e (h1.trans z)
   have b:atKey (q::qs) k=atKey qs k:=by simp[atKey,List.find?_cons,e']
   rw[z4j e,b];exact ih
section
variable{P:Program}{w:World}{H:Hp}{h:Heap}{a:Addr}
theorem zeV{u:HO}(ok:HOk P w H h)(e:Rd H a u):z1o P w H h a u:=e.ok ok
theorem zaZ{kvs:List (Key×V)}(ok:HOk P w H h)(e:Rd H a (.dK kvs)):kvs.length<=sizeLine/\(a==sysModules)=false/\∃vs,KV kvs vs/\h.DictOf (z0j P w) a vs:=
 show z1o P w H h a (.dK kvs) from zeV ok e
theorem zhH{kvs:List (Key×V)}(ok:HOk P w H h)(e:H a=some (.dK kvs)):kvs.length<=sizeLine/\(a==sysModules)=false/\∃vs,KV kvs vs/\h.DictOf (z0j P w) a vs:=zaZ ok (.inl e)
theorem zd7{ks:List Key}(ok:HOk P w H h)(e:H a=some (.tup (ks.map kV))):IsTupleKey (z0j P w) h ks a:=by
 obtain⟨_,its,r,o,h1,h2,n,h3⟩:=(show z1o P w H h a (.tup (ks.map kV)) from ok a _ e)
 exact⟨o,its.toArray,n,h1,h2,h3,by simpa using z6D r⟩
theorem z7f(ok:HOk P w H h): ∀{k:NK} {xs:List V} {us:List Value},Paired (TKi H) k xs->Vals xs us->Paired (ItN P w h) k us
 |_,_,_, .nil, .nil=> .nil
 | .inl k::_,_,_, .cons a b, .cons c d=>by
  have e:=(show _=kV k from a)
  subst e
  exact .cons (z98 c) (z7f ok b d)
 | .inr ks::_,_,_, .cons a b, .cons c d=>by
  obtain⟨x,rfl,hx⟩:=a
  cases c
  exact .cons ⟨x,rfl,zd7 ok hx⟩ (z7f ok b d)
theorem z99{k:NK}(ok:HOk P w H h)(e:TK H k a):(z3q P w).is h k a:=by
 obtain⟨xs,e,p⟩:=e
 obtain⟨_,its,r,o,h1,h2,n,h3⟩:=(show z1o P w H h a (.tup xs) from ok a _ e)
 exact⟨o,its.toArray,n,h1,h2,h3,by simpa using z7f ok p r⟩
theorem zd8{kvs:List (NK×V)}(ok:HOk P w H h)(e:Rd H a (.dT kvs)):kvs.length<=sizeLine/\(a==sysModules)=false/\
 ∃xs,KT H kvs xs/\h.DictOfH (z3q P w) a xs:=by
 obtain⟨z,y,xs,r,o,es,ep,h1,h2,h3,h4,h5⟩:=(show z1o P w H h a (.dT kvs) from zeV ok e)
 refine⟨z,y,xs,r,o,es,ep,h1,h2,h3,h4,fun x hx=> ?_,h5⟩
 have all: ∀{l:List (NK×V)} {m:List (NK×Addr×Value)},KT H l m->∀x∈m,(z3q P w).is h x.1 x.2.1:=by
  intro l m q
  induction q with
  |nil=>intro x hx;exact nomatch hx
  | @cons p q ps qs hq t ih=>
   intro x hx
   rcases List.mem_cons.mp hx with e|hx
   ·subst e
    exact z99 ok (by rw[<-hq.1];exact hq.2.1)
   ·exact ih x hx
 exact all r x hx
end
noncomputable def DGet(H:Hp)(a:Addr)(y:V)(r:Option V):Prop:=
 (∃kvs k,Rd H a (.dK kvs)/\y=kV k/\r=valV kvs k)\/∃kvs k b,Rd H a (.dT kvs)/\y= .ref b/\TK H k b/\r=valV kvs k
section
variable{X:Cx}{pins:List (Addr×Obj)}{σ:St}{H:Hp}{s:Shared}{a:Addr}{y v:V}{u r:Value}{o:Option V}{A:Around}{E:Value->Shared->Prop}
theorem Inv.big(I:Inv X pins σ H s):sysModules<s.heap.objs.size:=by
 have h:mainGlobals<s.heap.objs.size:=(I.mod.glob.keeps I.bk).lt
 exact Nat.lt_trans (by decide) h
theorem z9a{Q:Value->Shared->Prop}(hu:A.units+2<cLine)(I:Inv X pins σ H s)(g:DGet H a y (some v))(ry:RelV y u)(h: ∀w' s',Inv X pins σ H s'->RelV v w'->Q w' s'):
 wpAny (model X.prog X.w) A (getItem (.ref a) u) Q E s:=by
 rcases g with⟨kvs,k,e,ey,l⟩|⟨kvs,k,b,e,ey,eb,l⟩
 ·subst ey
  obtain⟨z,hd,vs,rel,dd⟩:=zaZ I.hok e
  obtain⟨w',hw,rw'⟩:=RelO.some_of (v:=v) (o:=valueAt vs k) (by rw[l];exact rel.val k)
  exact wpAny_getItem_of (z98 ry) dd.mapOf hw (h w' _ (I.tok _) rw')
 ·subst ey
  cases(show u=Value.ref b from ry)
  obtain⟨z,hd,xs,rel,dd⟩:=zd8 I.hok e
  obtain⟨w',hw,rw'⟩:=RelO.some_of (v:=v) (o:=(atKey xs k).map (·.2)) (by rw[l];exact rel.val k)
  obtain⟨p,hp,hp2⟩:=Option.map_eq_some_iff.mp hw
  refine wpAny_getItem_heap (z6t hu) (z99 I.hok eb) dd hp ?_
  rw[hp2]
  exact h w' _ (I.tok _) rw'
theorem zd9{Q:Value->Shared->Prop}(hu:A.units+2<cLine)(I:Inv X pins σ H s)(g:DGet H a y o)(ry:RelV y u)(h: ∀s',Inv X pins σ H s'->Q (.bool (!o.isSome)) s'):
 wpAny (model X.prog X.w) A (compareOp .NotIn u (.ref a)) Q E s:=by
 rcases g with⟨kvs,k,e,ey,l⟩|⟨kvs,k,b,e,ey,eb,l⟩
 ·subst ey
  obtain⟨z,hd,vs,rel,dd⟩:=zaZ I.hok e
  refine wpAny_notIn_of (z98 ry) hd dd.mapOf ?_
  rw[<-(rel.val k).isSome_eq,<-l]
  exact h _ (I.tok _)
 ·subst ey
  cases(show u=Value.ref b from ry)
  obtain⟨z,hd,xs,rel,dd⟩:=zd8 I.hok e
  refine wpAny_notIn_heap (z6t hu) (z99 I.hok eb) hd dd ?_
  have q:=(rel.val k).isSome_eq
  rw[Option.isSome_map] at q
  rw[<-q,<-l]
  exact h _ (I.tok _)
theorem zda{h':Heap}{t':Nat}{ob:HO}(I:Inv X pins σ H s)(mu:Mut (H a))(hs:Heap.SameBut a s.heap h')(he: ∃q,h'.get? a=some q)(new:z1o X.prog X.w (upd H a ob) h' a ob):
 Inv X pins σ (upd H a ob) {s with heap:=h',toks:=t'}:=
 I.write (x:=a) (e:=a) mu (.inl rfl) (fun b q hb z=>(hs.2 b hb).trans z) he new
theorem zeW{P:Program}{w:World}{H':Hp}{h':Heap}{kvs:List (Key×V)}{vs:List (Key×Value)}(z:kvs.length<=sizeLine)(hd:(a==sysModules)=false)(rel:KV kvs vs)(dd:h'.DictOf (z0j P w) a vs):
 z1o P w H' h' a (.dK kvs):=⟨z,hd,vs,rel,dd⟩
end
noncomputable def NoSl(i:Expr):Prop:= ∀ov iv,subscripted i false ov iv=operate [ov,iv] (getItem ov iv)
theorem zdb{prog:Program}{w:World}{A:Around}{E:Value->Shared->Prop}{s:Shared}{env:Env}{value slice:Expr}{pos:Pos}{T id:String}{Q:Value->Shared->Prop}
 (hl:typeLookup (.type T) "__getitem__" =pure (some (.builtin id))) (hs:NoSl slice)
 (h:wpAny (model prog w) A (eval value env) (fun o s₁=>wpAny (model prog w) A (eval slice env) (fun i s₂=>s₂.TypeIs o T/\wpAny (model prog w) A (getItem o i) Q E s₂) E s₁) E s):
 wpAny (model prog w) A (eval (.Subscript value slice pos) env) Q E s:=by
 refine Subscript_ (wpAny_mono h (fun o s₁ h₁=>wpAny_mono h₁ (fun i s₂ h₂=> ?_) fun _ _ x=>x) fun _ _ x=>x)
 obtain⟨hT,h₂⟩:=h₂
 unfold subscriptTail
 refine wpAny_bind ?_
 rw[getitemInPython_of_ne hT.not_modules]
 refine wpAny_bind (wpAny_specialOf hT hl ?_)
 have fin:wpAny (model prog w) A (subscripted slice false o i) (fun r s₃=>wpAny (model prog w) A (letTemporaryGo value o r>>=fun _=>pure r) Q E s₃) E s₂:=by
  rw[hs o i]
  exact wpAny_operating (wpAny_mono h₂ (fun r s₃ h₃=>wpAny_bind (wpAny_letTemporaryGo (wpAny_pure h₃))) fun _ _ x=>x)
 first
  |exact wpAny_pure (wpAny_bind fin)
  |exact wpAny_bind (wpAny_pure (wpAny_bind fin))
  |exact wpAny_bind fin
theorem z7g{X:Cx}{pins:List (Addr×Obj)}{σ:St}{H:Hp}{s:Shared}{a:Addr}{y:V}{o:Option V}(I:Inv X pins σ H s)(g:DGet H a y o):s.TypeIs (.ref a) "dict" :=by
 rcases g with⟨kvs,k,e,_,_⟩|⟨kvs,k,b,e,_,_,_⟩
 ·obtain⟨_,_,vs,_,dd⟩:=zaZ I.hok e
  exact dd.typeIs
 ·obtain⟨_,_,xs,_,dd⟩:=zd8 I.hok e
  exact dd.typeIs
noncomputable def zhI(td ty:TE):TE:=fun σ H Q=>td σ H fun x H1=>ty σ H1 fun y H2=> ∃a v,x= .ref a/\DGet H2 a y (some v)/\Q v H2
section
variable{X:Cx}{o i e value:Expr}{pos pos' tpos:Pos}{td ty tv:TE}
theorem zdc(hu:X.A.units+2<cLine)(ho:PE X o td)(hi:PE X i ty)(hs:NoSl i):PE X (.Subscript o i pos) (zhI td ty):=by
 intro pins s σ H Q I h
 refine zdb PySem.F.slot_dict_getitem.lookup hs (thn (ho pins s σ H _ I h) fun u s1 ⟨x,H1,I1,rx,q1⟩=>thn (hi pins s1 σ H1 _ I1 q1) fun iv s2 ⟨y,H2,I2,ry,a,v,ex,g,q2⟩=> ?_)
 subst ex
 obtain rfl:u=Value.ref a:=rx
 exact⟨z7g I2 g,z9a hu I2 g ry fun w' s3 I3 rw'=>⟨v,H2,I3,rw',q2⟩⟩
end
theorem zb0{P:Program}{w:World}{H:Hp}(h:Heap)(hb:sysModules<h.objs.size):z1o P w H (h.push {cls:= .type "dict",data:= .dict #[]}) h.objs.size (.dK []):=
 ⟨Nat.zero_le _,beq_eq_false_iff_ne.mpr (Ne.symm (Nat.ne_of_lt hb)),[], .nil,Heap.DictOf.new h⟩
noncomputable def z7U:List (TE×TE)->St->Hp->(List (V×V)->Hp->Prop)->Prop
 |[],_,H,Q=>Q [] H
 |(tk,tv)::r,σ,H,Q=>tk σ H fun x H1=>tv σ H1 fun y H2=>z7U r σ H2 fun ps H3=>Q ((x,y)::ps) H3
noncomputable abbrev VV:List (V×V)->List (Value×Value)->Prop:=Paired fun p q=>RelV p.1 q.1/\RelV p.2 q.2
noncomputable def PPs(X:Cx)(pos:Pos)(keys:List (Option Expr))(values:List Expr)(trs:List (TE×TE)):Prop:=
 ∀(pins:List (Addr×Obj)) (s:Shared) (σ:St) (H:Hp) (Q:List (V×V)->Hp->Prop),Inv X pins σ H s->z7U trs σ H Q->
  wpAny (model X.prog X.w) X.A (evalPairs (pairTrees keys values X.env pos)) (fun vs s'=> ∃ps H',Inv X pins σ H' s'/\VV ps vs/\Q ps H') X.xe s
theorem zdd{X:Cx}{pos:Pos}:PPs X pos [] [] []:=fun pins s σ H Q I h=>pairTrees_nil_walk ⟨[],H,I, .nil,h⟩
theorem z4k{X:Cx}{pos:Pos}{k v:Expr}{ks:List (Option Expr)}{vs:List Expr}{tk tv:TE}{trs:List (TE×TE)}(hk:PE X k tk)(hv:PE X v tv)(hr:PPs X pos ks vs trs):
 PPs X pos (some k::ks) (v::vs) ((tk,tv)::trs):=fun pins s σ H Q I h=>
 pairTrees_cons_walk (thn (hk pins s σ H _ I h) fun u s1 ⟨x,H1,I1,rx,q1⟩=>thn (hv pins s1 σ H1 _ I1 q1) fun w2 s2 ⟨y,H2,I2,ry,q2⟩=>
  thn (hr pins s2 σ H2 _ I2 q2) fun ws s3 ⟨ps,H3,I3,rel,q3⟩=>⟨(x,y)::ps,H3,I3, .cons ⟨rx,ry⟩ rel,q3⟩)
noncomputable def z44(kvs more:List (Key×V)):List (Key×V):=more.foldl (fun acc kv=>putK acc kv.1 kv.2) kvs
theorem KV.merge: ∀{more:List (Key×V)} {rs:List (Key×Value)} {kvs:List (Key×V)} {vs:List (Key×Value)},KV more rs->KV kvs vs->KV (z44 kvs more) (merged vs rs):=by
 intro more rs kvs vs r
 unfold KV at r
 induction r generalizing kvs vs with
 |nil=>intro q;exact q
 | @cons p q ps qs h t ih=>
  intro r0
  have e:KV (putK kvs p.1 p.2) (stored vs q.1 q.2):=by
   have:=r0.put p.1 h.2
   rw[<-h.1];exact this
  exact ih e
theorem z3r: ∀(more kvs:List (Key×V)),(z44 kvs more).length<=kvs.length+more.length
 |[],kvs=>by show kvs.length<=kvs.length+0;lia
 |p::r,kvs=>by
  have h1:=z3r r (putK kvs p.1 p.2)
  have h2:=z7e kvs p.1 p.2
  show(z44 (putK kvs p.1 p.2) r).length<=_
  rw[List.length_cons];lia
theorem z5k{P:Program}{w:World}: ∀{kvs:List (Key×V)} {ws:List (Value×Value)},VV (kvs.map fun kv=>(kV kv.1,kv.2)) ws->∃rs,Carries (z0j P w) ws rs/\KV kvs rs
 |[],_,r=>by rw[List.map_nil] at r;cases r;exact⟨[],True.intro, .nil⟩
 |p::kvs,_,r=>by
  rw[List.map_cons] at r
  cases r with
  | @cons a b as bs h t=>
   obtain⟨rs,c,q⟩:=z5k (P:=P) (w:=w) t
   obtain⟨b1,b2⟩:=b
   exact⟨(p.1,b2)::rs,⟨z98 h.1,rfl,c⟩, .cons ⟨rfl,h.2⟩ q⟩
noncomputable def zhJ(trs:List (TE×TE)):TE:=fun σ H Q=> ∀p,H p=none->z7U trs σ (upd H p (.dK [])) fun ps H2=>H2 p=some (.dK [])/\∃kvs:List (Key×V),ps=kvs.map (fun kv=>(kV kv.1,kv.2))/\kvs.length<=15/\Q (.ref p) (upd H2 p (.dK (z44 [] kvs)))
theorem zde{X:Cx}{pos:Pos}{keys:List (Option Expr)}{values:List Expr}{trs:List (TE×TE)}(h:PPs X pos keys values trs)(hall:keys.all (·.isSome)=true)(hl:keys.length=values.length)(h0:keys≠[])
 (h15:keys.length<=15):PE X (.Dict keys values pos) (zhJ trs):=by
 intro pins s σ H Q I q
 have hn:=I.hok.fresh (Nat.le_refl s.heap.objs.size)
 have I1:=I.laid (a:=s.heap.objs.size) (o:= .dK []) (h':=s.heap.push {cls:= .type "dict",data:= .dict #[]}) (t':=s.toks) (fun _ _ q=>Heap.get?_push_of_some _ q) (Nat.le_refl _) (zb0 s.heap I.big)
 refine wpAny_Dict_walk (knd:=z0j X.prog X.w) hall hl h0 h15 (thn (h pins _ σ _ _ I1 (q _ hn)) fun ws s2 ⟨ps,H2,I2,rel,e,kvs,ep,lk,q2⟩=> ?_)
 subst ep
 obtain⟨rs,c,rk⟩:=z5k (P:=X.prog) (w:=X.w) rel
 obtain⟨z,hd,vs0,r0,dd⟩:=zhH I2.hok e
 cases r0
 refine⟨rs,c,dd,fun h' dd' hs=>⟨.ref s.heap.objs.size,_, ?_,rfl,q2⟩⟩
 have hz:(z44 [] kvs).length<=sizeLine:=by
  have h1:=z3r kvs []
  rw[List.length_nil] at h1
  rw[sizeLine_eq];lia
 have he: ∃q,h'.get? s.heap.objs.size=some q:=let⟨q,_,_,hq,_⟩:=dd';⟨q,hq⟩
 exact zda I2 (by rw[e];exact True.intro) hs he (zeW hz hd (rk.merge .nil) dd')
structure M1(X:Cx)(o:Expr)(m:Str)(apos:Pos)(e:Expr)(cpos:Pos):Prop where
 base:attributeBase o m X.env (eval o X.env)=eval o X.env
 few:((backTo cpos (starEach [e] X.env)).all (fun x=> !x.1)&&(backToKw cpos (keywordEach [] X.env)).all (fun x=>x.1.isSome)
  &&decide (([e]:List Expr).length+([]:List Keyword).length+(if([]:List Keyword).isEmpty then 0 else 1)<30))=true
 line:(apos.endLine==cpos.line)=true
 trees:backTo cpos (starEach [e] X.env)=[(false,eval e X.env)]
structure M2(X:Cx)(o:Expr)(m:Str)(apos:Pos)(e f:Expr)(cpos:Pos):Prop where
 base:attributeBase o m X.env (eval o X.env)=eval o X.env
 few:((backTo cpos (starEach [e,f] X.env)).all (fun x=> !x.1)&&(backToKw cpos (keywordEach [] X.env)).all (fun x=>x.1.isSome)
  &&decide (([e,f]:List Expr).length+([]:List Keyword).length+(if([]:List Keyword).isEmpty then 0 else 1)<30))=true
 line:(apos.endLine==cpos.line)=true
 trees:backTo cpos (starEach [e,f] X.env)=[(false,eval e X.env),(false,eval f X.env)]
end L2
namespace Att
open PySem PySem.W PySem.Calls PyProof.Rows
theorem z4u{P:Params}{h:Heap}: ∀(ns:List Int) (vs:List Value),WellAll P h vs (ns.map WData.int)->IntsAre vs ns:=by
 intro ns
 induction ns with
 |nil=>
  intro vs w
  rw[List.map_nil] at w
  cases w
  exact .nil
 |cons n ns ih=>
  intro vs w
  rw[List.map_cons] at w
  cases w with
  |cons a b=>
   cases a
   exact .cons _ _ (ih _ b)
theorem z9b{l:OpenLaw}{n:Nat}(hn:l.most=some n){P:Params}{h:Heap}{args:List WData}{vals:List Value}
 (hpre:l.row.toRowW.claim.pre args=true) (hwl:WellAll P h vals args):
 ∃a vs ns,vals=[Value.ref a]/\args=[WData.list (ns.map WData.int)]/\h.get? a=some {cls:= .type "list",data:= .seq vs.toArray}/\IntsAre vs ns/\ns.length<=n:=by
 have hsh:WShape.hasAll [] args [.list .int]=true:=(pre_splitW hpre).1
 have hc:l.pre.holds [] {args:=args}=true:=(pre_splitW hpre).2
 obtain⟨d,r,rfl,h1,h2⟩:=hasAllW_cons hsh
 obtain rfl:=hasAllW_nil h2
 obtain⟨xs,rfl,h3⟩:=hasW_list h1
 obtain⟨ns,rfl⟩:=items_int h3
 have hlen:ns.length<=n:=by
  unfold OpenLaw.pre at hc
  have h4:(WTm.not (.lt (.lit (.int (n:Int))) (.len (.arg 0)))).holds [] {args:=[.list (ns.map .int)]}=true:=by
   have h4:=(holds_andW hc).1
   rw[hn] at h4
   exact h4
  have h5:=condW_of h4 (w_not (w_lt w_lit (w_len_list (w_arg rfl))))
  rw[List.length_map] at h5
  refine Nat.le_of_not_lt fun q=> ?_
  have q':(n:Int)<((ns.length:Nat):Int):=by lia
  first
   |(rw[decide_eq_true q'] at h5;exact absurd h5 (by decide))
   |(simp at h5;lia)
 cases hwl with
 |cons w1 w2=>
  cases w2
  cases w1 with
  |list ho hall=>exact⟨_,_,ns,rfl,rfl,ho,z4u ns _ hall,hlen⟩
theorem z9c(l:OpenLaw)(args:List WData):l.row.toRowW.claim.post args (.bool true) args=true:=
 postW_of (r:=l.row.toRowW) (X:=(true==true))
  (show WShape.has [] (.bool true) .bool=true by first|rfl|decide|simp[WShape.has,WShape.arms,WShape.armsAll])
  (show(WTm.eq .res (.lit (.bool true))).value [] {args:=args,res:=some (.bool true),after:=args}=some (.bool (true==true)) from w_eq_bool (w_res rfl) w_lit) rfl
theorem attach_call{l:OpenLaw}{n:Nat}{q:Program}{loose:List Str}{XP:(Str->Option Value)->Heap->Prop}{YP:World->Heap->Prop}{d:DefRec}
 (hn:l.most=some n) (hdf:d.params.defaults=[])
 (call: ∀(w:World) (s₀ s₁:Shared) (mg mb:Str->Option Value) (fa:Addr) (o:Obj) (pm cd doc:Value) (a:Addr) (vs:List Value) (ns:List Int),
  Ground q loose [] XP w s₀ mg mb s₁.heap->YP w s₁.heap->
  s₁.heap.get? fa=some o->o.data= .func (docDef d.name d.params d.body d.scope pm cd doc)->s₁.heap.CodeRec cd d.name->mg d.name=some (.ref fa)->
  s₁.heap.get? a=some {cls:= .type "list",data:= .seq vs.toArray}->IntsAre vs ns->ns.length<=n->s₁.gens= #[]->
  codeAny (model l.prog w) callerA (.call (.ref fa) ⟨[.ref a],[]⟩) (fun r s'=>r= .ok (.ret (.bool true))/\OldK s₁.heap s'.heap/\s'.os=s₁.os/\AllBare s'.gens) s₁):
 WalkO q loose XP YP l.row.toRowW d [] (fun f vs=>PySem.call f vs):=by
 intro w s₀ s₁ mg mb G Y fa o pm cd doc dV kV ho hd hcd hD hmg hg args vals as hpre hlay hrd hwl hlo
 obtain rfl:dV= .none:=Dflts.none hD hdf
 obtain rfl:kV= .none:=Dflts.noKw hD
 obtain⟨a,vs,ns,rfl,rfl,hobj,hints,hlen⟩:=z9b hn hpre hwl
 refine enter_call (codeAny_mono (call w s₀ s₁ mg mb fa o pm cd doc a vs ns G Y ho (fd_plain hd) hcd hmg hobj hints hlen hg) fun r s' hq=> ?_)
 obtain⟨rfl,h2,h3,h4⟩:=hq
 exact⟨.inl ⟨.bool true, .bool true,[],rfl,fun _=>rfl, .bool true,z9c l _,fun _=>⟨List.Pairwise.nil,fun _ hm=>(nomatch hm)⟩⟩,h2,h3,h4⟩
end Att
namespace L2
open PySem PySem.Spec PyProof.Rows
theorem z6E: ∀{vs:List Value} {ns:List Int},IntsAre vs ns->Vals (ns.map V.int) vs
 |_,_, .nil=> .nil
 |_,_, .cons n t h=> .cons ⟨t,rfl⟩ (z6E h)
noncomputable def Only(H:Hp):Prop:= ∀b,H b=none\/∃o xs,H b=some (.frz o (.lst xs))
theorem zb1{P:Program}{w:World}{K:W.Frag}{mg mb:Str->Option Value}{CX:CXT}{k:Nat}{fa a:Addr}{fd:FuncData}{x:Str}{sp:Sp}{s₁:Shared}{vs:List Value}{ns:List Int}
 (KX:K.In s₁.heap) (hns:s₁.heap.Ns mainGlobals mg) (hb:s₁.heap.Ns builtinsNs mb) (hbb: ∀x:Str,x≠ "__name__" ->mb x=bootBuiltins x) (hlim:s₁.heap.NoLimit) (hg:s₁.gens= #[])
 (ha:s₁.heap.get? a=some {cls:= .type "list",data:= .seq vs.toArray}) (hi:IntsAre vs ns) (hl:ns.length<=sizeLine) (hr:Room k callerA)
 (F: ∀base:Heap,K.In base->base.Ns mainGlobals mg->FnOk P w K mg base CX k fa fd [x] sp) (hbind: ∀(s:Shared) (u:Value),BindsTo s fd ⟨[u],[]⟩ [(x,u)])
 (hsp: ∀H:Hp,Only H->SqL K H a (ns.map V.int)->sp [.ref a] H (fun v _=>v= .bl true) fun _ _ _=>False)
 (hCX: ∀H e s',CX [] H s₁ (fun _ _ _=>False) e s'->False):
 codeAny (model P w) callerA (.call (.ref fa) ⟨[.ref a],[]⟩) (fun r s'=>r= .ok (.ret (.bool true))/\OldK s₁.heap s'.heap/\s'.os=s₁.os/\AllBare s'.gens) s₁:=by
 have rv:=z6E hi
 have lenV:=hi.length
 have core: ∀H:Hp,Only H->SqL K H a (ns.map V.int)->HOk P w H s₁.heap->(∀b,H b≠none->b=a)->(H a≠none->K.lookup a=none)->
  codeAny (model P w) callerA (.call (.ref fa) ⟨[.ref a],[]⟩) (fun r s'=>r= .ok (.ret (.bool true))/\OldK s₁.heap s'.heap/\s'.os=s₁.os/\AllBare s'.gens) s₁:=by
  intro H hO hS hok hA hK
  have base_of: ∀{b:Addr} {o:Obj},s₁.heap.get? b=some o->H b=none->(hidT s₁.heap H).get? b=some o:=fun e n=>zaM e n
  have noA: ∀{b:Addr} {o:Obj} {es:Array DictEntry} {ep:Nat},s₁.heap.get? b=some o->o.data= .dict es ep->H b=none:=fun{b o es ep} e d=>by
   cases q:H b with
   |none=>rfl
   |some u=>
    have e':b=a:=hA b (by rw[q];simp)
    subst e'
    rw[ha] at e;cases e
    have d':Data.seq vs.toArray _=Data.dict es ep:=d
    cases d'
  have nsK: ∀{b:Addr} {m:Str->Option Value},s₁.heap.Ns b m->(hidT s₁.heap H).Ns b m:=fun{b m} ⟨o,es,ep,e,d,r⟩=>⟨o,es,ep,base_of e (noA e d),d,r⟩
  have hKb:K.In (hidT s₁.heap H):=fun b o e=>base_of (KX b o e) (by
   cases q:H b with
   |none=>rfl
   |some u=>
    have e':b=a:=hA b (by rw[q];simp)
    subst e'
    rw[hK (by rw[q];simp)] at e;cases e)
  have hM:Mod K mg (hidT s₁.heap H):=⟨hKb,nsK hns,⟨mb,nsK hb,hbb⟩,let⟨mc,h1,h2⟩:=hlim;⟨mc,nsK h1,h2⟩⟩
  have e0:Env0 P w K mg (hidT s₁.heap H) callerA [] s₁ H:=⟨rfl,hM,fun b o e=>zcM e,Nat.le_of_eq (z8R _ _),trivial,fun b hb=>absurd (show b∈([]:List Addr) from hb) (by simp),hok, .of_eq hg⟩
  refine codeAny_mono ((F _ hKb (nsK hns)).run callerA [] s₁ H ⟨[.ref a],[]⟩ [.ref a] [.ref a] _ _ hr e0 (hbind s₁ (.ref a)) (.cons rfl .nil) (hsp H hO hS)) fun r s' h=> ?_
  cases r with
  |error e=>exact(hCX H e s' h).elim
  |ok fl=>
   cases fl with
   |next=>exact False.elim h
   |brk=>exact False.elim h
   |cont=>exact False.elim h
   |ret u=>
    obtain⟨v,H',os,bare,un,hok',r',q⟩:=h
    have q':v= .bl true:=q
    subst q'
    obtain rfl:u=Value.bool true:=r'
    refine⟨rfl,OldK.of_keep fun b o e=> ?_,os,bare⟩
    cases q:H b with
    |none=>exact un.keep b o e q (by intro z;exact absurd (show b∈([]:List Addr) from z) (by simp)) (by simp)
    |some u=>
     rcases hO b with z|⟨ob,xs,z⟩
     ·rw[q] at z;cases z
     ·have z2:=un.frzs b ob _ z
      obtain⟨e1,_⟩:=hok b _ z
      obtain⟨e2,_⟩:=hok' b _ z2
      rw[e] at e1;cases e1
      exact e2
 cases hk:K.lookup a with
 |some o=>
  have e:=KX a o hk
  rw[ha] at e
  cases e
  refine core (fun _=>none) (fun _=> .inl rfl) (.inr ⟨_,vs.toArray,_,hk,rfl,rfl,rfl,by rw[List.size_toArray,lenV];exact hl,by simpa using rv⟩) (fun b u z=>by have z':(none:Option HO)=some u:=z;cases z') (fun b z=>absurd rfl z) fun z=>absurd rfl z
 |none=>
  refine core (fun b=>if b=a then some (.frz {cls:= .type "list",data:= .seq vs.toArray} (.lst (ns.map V.int))) else none) (fun b=> ?_) (.inl (.inr ⟨{cls:= .type "list",data:= .seq vs.toArray},if_pos rfl⟩)) (fun b u z=> ?_) (fun b z=> ?_) fun _=>hk
  ·by_cases hb:b=a
   ·exact .inr ⟨_,_,if_pos hb⟩
   ·exact .inl (if_neg hb)
  ·by_cases hb:b=a
   ·have z':=(if_pos hb).symm.trans z
    cases z'
    subst hb
    exact⟨ha,by rw[List.length_map];exact hl,vs,_,rv,ha⟩
   ·have z':=(if_neg hb).symm.trans z
    cases z'
  ·by_cases hb:b=a
   ·exact hb
   ·exact absurd (if_neg hb) z
theorem zdf{l:W.OpenLaw}{n k:Nat}{q:Program}{loose:List Str}{XP:(Str->Option Value)->Heap->Prop}{YP:World->Heap->Prop}{d:DefRec}{K:Params->W.Frag}{CX:World->CXT}{sp:World->Sp}{x:Str}
 (hn:l.most=some n) (hn2:n<=sizeLine) (hdf:d.params.defaults=[]) (hr:Room k callerA)
 (hY: ∀(w:World) (h:Heap),YP w h->(K w.params).In h)
 (F: ∀(w:World) (mg:Str->Option Value) (fa:Addr) (h:Heap),(K w.params).In h->h.Ns mainGlobals mg->mg d.name=some (.ref fa)->
  ∃fd:FuncData,(∀(s:Shared) (u:Value),BindsTo s fd ⟨[u],[]⟩ [(x,u)])/\
   ∀base:Heap,(K w.params).In base->base.Ns mainGlobals mg->FnOk l.prog w (K w.params) mg base (CX w) k fa fd [x] (sp w))
 (hsp: ∀(w:World) (H:Hp) (a:Addr) (ns:List Int),ns.length<=n->Only H->SqL (K w.params) H a (ns.map V.int)->sp w [.ref a] H (fun v _=>v= .bl true) fun _ _ _=>False)
 (hCX: ∀(w:World) (H:Hp) (s:Shared) (e:Value) (s':Shared),CX w [] H s (fun _ _ _=>False) e s'->False):
 W.WalkO q loose XP YP l.row.toRowW d [] (fun f vs=>PySem.call f vs):=by
 refine Att.attach_call hn hdf fun w s₀ s₁ mg mb fa o pm cd doc a vs ns G Y ho hd hcd hmg hobj hints hlen hg=> ?_
 have KX:=hY w _ Y
 obtain⟨fd,hb,hF⟩:=F w mg fa _ KX G.T.g hmg
 exact zb1 KX G.T.g G.T.b G.T.builtins G.T.nolimit hg hobj hints (Nat.le_trans hlen hn2) hr hF hb (fun H hO hS=>hsp w H a ns hlen hO hS) fun H e s'=>hCX w H s₁ e s'
noncomputable def z38(s:Stmt):Arguments:=match s with
 | .FunctionDef _ a _ _ _ _ _ _ _ _=>a
 |_=>{posonlyargs:=[],args:=[],vararg:=none,kwonlyargs:=[],kw_defaults:=[],kwarg:=none,defaults:=[]}
noncomputable def z0R(s:Stmt):List Stmt:=match s with
 | .FunctionDef _ _ b _ _ _ _ _ _ _=>b
 |_=>[]
noncomputable def z01(s:Stmt):Scope:=match s with
 | .FunctionDef _ _ _ _ _ _ sc _ _ _=>sc
 |_=>{kind:= .function,names:=[],isGenerator:=false,isCoroutine:=false}
noncomputable abbrev CX0:CXT:=fun _ _ _ _ _ _=>False
noncomputable abbrev E0:XK:=fun _ _ _=>False
theorem zhK{X:Cx}:z4r CX0 X E0:=fun _ _ _ _ _ _ _ h=>h.elim
structure Fun(K:W.Frag)(x qual:Str)(st:Stmt)(f:Addr)(fd:FuncData):Prop where
 ex: ∃(oc:Value) (od:Option Addr) (kV doc pm:Value) (an:Option Addr) (cdv ct:Value) (osl:Array (Option Value)),
  fd=W.fnOf x qual (z38 st) (z0R st) (z01 st) .none kV doc pm an cdv ct/\K.lookup f=some ⟨oc,od, .func fd,osl⟩/\W.codeIn K cdv qual=true
 kp:W.keepIn K (.ref f)=true
section
variable{P:Program}{w:World}{K:W.Frag}{mg:Str->Option Value}{base:Heap}
theorem Fun.ok{x qual:Str}{st:Stmt}{f:Addr}{fd:FuncData}{N ps:List Str}{k:Nat}{sp:Sp}(F:Fun K x qual st f fd)(S:z06 N ps (z01 st))(len: ∀vs H Q E,sp vs H Q E->vs.length=ps.length)
 (hbody: ∀(cdv:Value) (A:Around) (outer:List Env) (s:Shared) (H:Hp) (vs:List V) (Q:VK) (E:XK),Room k (A.deeper (envOfC qual (z01 st) s.heap.objs.size f cdv))->sp vs H Q E->
  ∃t,PSs (cxOf CX0 P w K mg base N qual (z01 st) f cdv A outer s H E).nox (z0R st) t/\t {nx:=fun _ H'=>Q .non H',rt:=Q} (z6z N vs) H):FnOk P w K mg base CX0 (k+1) f fd ps sp:=by
 obtain⟨oc,od,kV,doc,pm,an,cdv,ct,osl,rfl,lk,hcd⟩:=F.ex
 refine zeP lk hcd S len fun A outer s H vs Q E hr hsp=> ?_
 obtain⟨t,h,q⟩:=hbody cdv A outer s H vs Q E hr hsp
 exact⟨t,h.nox,q⟩
theorem Fun.binds{x qual:Str}{st:Stmt}{f:Addr}{fd:FuncData}{ps:List Str}(F:Fun K x qual st f fd)
 (h: ∀(kV doc pm:Value) (an:Option Addr) (cdv ct:Value) (us:List Value),us.length=ps.length->bindArgs (W.fnOf x qual (z38 st) (z0R st) (z01 st) .none kV doc pm an cdv ct) ⟨us,[]⟩=pure (ps.zip us)):z3H K fd ps []:=by
 obtain⟨oc,od,kV,doc,pm,an,cdv,ct,osl,rfl,lk,hcd⟩:=F.ex
 exact .all (h kV doc pm an cdv ct)
theorem zeX{x qual:Str}{st:Stmt}{f:Addr}{oc:Value}{od an:Option Addr}{osl:Array (Option Value)}{kV doc pm cdv ct:Value}(l:K.lookup f=some ⟨oc,od, .func (W.fnOf x qual (z38 st) (z0R st) (z01 st) .none kV doc pm an cdv ct),osl⟩)
 (c:W.codeIn K cdv qual=true) (k:W.keepIn K (.ref f)=true):Fun K x qual st f (W.fnOf x qual (z38 st) (z0R st) (z01 st) .none kV doc pm an cdv ct):=⟨⟨oc,od,kV,doc,pm,an,cdv,ct,osl,rfl,l,c⟩,k⟩
end
section
variable{X:Cx}
theorem pv(i:Nat){x:Str}{pos:Pos}(hN:X.N[i]? =some x:=by rfl)(hv:Vis X.env.scope x:=by first|exact Or.inl rfl|exact Or.inr (Or.inl rfl)|exact Or.inr (Or.inr rfl))(hd:(x==("__debug__" :Str))=false:=by decide)
 (hcd:(x==("__classdict__" :Str))=false:=by decide):PE X (.Name x pos) (tVar i):=zev hN hv hd hcd
end
noncomputable def Same(H H':Hp):Prop:= ∀b o,H b=some o->H' b=some o
theorem Same.refl(H:Hp):Same H H:=fun _ _ h=>h
end L2
set_option linter.unusedSimpArgs false
set_option linter.unusedVariables false
namespace So
open PySem PySem.W PyProof.Rows PySem.SeqAt
open AutoSeq1 (wpAny_loadPart')
end So
namespace So
open PySem PySem.W PyProof.Rows PySem.SeqAt
end So
set_option maxHeartbeats 4000000
namespace L2
open PySem PySem.Spec PyProof.Rows
mutual
noncomputable def Dp(K:W.Frag)(H:Hp):PyData->V->Prop
 | .none,v=>v= .non
 | .bool b,v=>v= .bl b
 | .int i,v=>v= .int i
 | .str x,v=>v= .str x
 | .list ds,v=> ∃a xs,v= .ref a/\SqL K H a xs/\DpAll K H ds xs
 | .tuple ds,v=> ∃a xs,v= .ref a/\SqT K H a xs/\DpAll K H ds xs
 | .dict _,_=>False
noncomputable def DpAll(K:W.Frag)(H:Hp):List PyData->List V->Prop
 |[],xs=>xs=[]
 |d::ds,xs=> ∃x r,xs=x::r/\Dp K H d x/\DpAll K H ds r
end
section
variable{X:Cx}{pins:List (Addr×Obj)}{σ:St}{H:Hp}{s:Shared}
mutual
theorem Dp.reads(I:Inv X pins σ H s): ∀(d:PyData) (v:V) (u:Value),Dp X.K H d v->RelV v u->∃as,Reads s.heap u d as
 | .none,v,u,h,r=>by
  simp only[Dp] at h;subst h;cases r;exact⟨_, .none⟩
 | .bool b,v,u,h,r=>by
  simp only[Dp] at h;subst h;cases r;exact⟨_, .bool b⟩
 | .int i,v,u,h,r=>by
  simp only[Dp] at h;subst h;obtain⟨t,rfl⟩:=r;exact⟨_, .int i t⟩
 | .str x,v,u,h,r=>by
  simp only[Dp] at h;subst h;obtain⟨t,rfl⟩:=r;exact⟨_, .str x t⟩
 | .list ds,v,u,h,r=>by
  simp only[Dp] at h
  obtain⟨a,xs,rfl,hs,hd⟩:=h
  cases r
  obtain⟨its,rv,⟨o,n,e,c,_,dd⟩,_⟩:=I.list hs
  obtain⟨as,ra⟩:=DpAll.reads I ds xs its hd rv
  exact⟨_, .list e c dd (by simpa using ra)⟩
 | .tuple ds,v,u,h,r=>by
  simp only[Dp] at h
  obtain⟨a,xs,rfl,hs,hd⟩:=h
  cases r
  obtain⟨its,rv,⟨o,e,c,n,dd⟩,_⟩:=I.tuple hs
  obtain⟨as,ra⟩:=DpAll.reads I ds xs its hd rv
  exact⟨_, .tuple e c dd (by simpa using ra)⟩
 | .dict _,v,u,h,r=>by
  simp only[Dp] at h
theorem DpAll.reads(I:Inv X pins σ H s): ∀(ds:List PyData) (vs:List V) (us:List Value),DpAll X.K H ds vs->Vals vs us->∃as,ReadsAll s.heap us ds as
 |[],vs,us,h,r=>by
  simp only[DpAll] at h;subst h
  cases r
  exact⟨_, .nil⟩
 |d::ds,vs,us,h,r=>by
  simp only[DpAll] at h
  obtain⟨x,q,rfl,h1,h2⟩:=h
  cases r with
  |cons r1 r2=>
   obtain⟨as,ra⟩:=Dp.reads I d _ _ h1 r1
   obtain⟨bs,rb⟩:=DpAll.reads I ds _ _ h2 r2
   exact⟨_, .cons ra rb⟩
end
noncomputable def rEqD(K:W.Frag)(neg:Bool):R2:=fun x y H Q=> ∃d e,Dp K H d x/\Dp K H e y/\d.canLay0=true/\e.canLay0=true/\min d.depth e.depth<=60/\
 Q (.bl (if neg then !PyData.eqv d e else PyData.eqv d e)) H
theorem zeY(hu:X.A.units+64<cLine):OpR X (compareOp .Eq) (rEqD X.K false):=by
 intro pins s σ H x y v u Q I rx ry h
 obtain⟨d,e,hx,hy,c1,c2,hd,q⟩:=h
 obtain⟨as,ra⟩:=hx.reads I _ _ _ rx
 obtain⟨bs,rb⟩:=hy.reads I _ _ _ ry
 exact SeqAt.compareEq_reads ra rb c1 c2 (by lia) ⟨.bl _,H,I,rfl,q⟩
theorem zeZ(hu:X.A.units+64<cLine):OpR X (compareOp .NotEq) (rEqD X.K true):=by
 intro pins s σ H x y v u Q I rx ry h
 obtain⟨d,e,hx,hy,c1,c2,hd,q⟩:=h
 obtain⟨as,ra⟩:=hx.reads I _ _ _ rx
 obtain⟨bs,rb⟩:=hy.reads I _ _ _ ry
 exact SeqAt.compareNe_reads ra rb c1 c2 (by lia) ⟨.bl _,H,I,rfl,q⟩
noncomputable def rInD(K:W.Frag)(neg:Bool):R2:=fun x y H Q=> ∃d ds,Dp K H d x/\(Dp K H (.list ds) y\/Dp K H (.tuple ds) y)/\d.canLay0=true/\PyData.canLayAll0 ds=true/\min (PyData.depthAll ds) d.depth<=60/\
 Q (.bl (if neg then !(ds.any fun y=>PyData.eqv y d) else ds.any fun y=>PyData.eqv y d)) H
theorem zf0(hu:X.A.units+64<cLine):OpR X (compareOp .In) (rInD X.K false):=by
 intro pins s σ H x y v u Q I rx ry h
 obtain⟨d,ds,hx,hy,c1,c2,hd,q⟩:=h
 obtain⟨as,ra⟩:=hx.reads I _ _ _ rx
 rcases hy with hy|hy
 ·obtain⟨bs,rb⟩:=hy.reads I _ _ _ ry
  exact SeqAt.in_list_reads rb ra c2 c1 (by lia) ⟨.bl _,H,I,rfl,q⟩
 ·obtain⟨bs,rb⟩:=hy.reads I _ _ _ ry
  exact SeqAt.in_tuple_reads rb ra c2 c1 (by lia) ⟨.bl _,H,I,rfl,q⟩
noncomputable def isiV(K:W.Frag)(H:Hp)(T:String)(r:Bool):V->Prop
 | .non=>r=false
 | .bl _=>r=(T== "int" ||T== "bool")
 | .int _=>r=(T== "int")
 | .str _=>r=(T== "str")
 | .ref a=>(∃xs,SqT K H a xs/\r=(T== "tuple"))\/(∃xs,SqL K H a xs/\r=(T== "list"))
 |_=>False
noncomputable def rIsi(K:W.Frag):List V->Hp->VK->Prop:=fun xs H Q=> ∃x T r,xs=[x, .ty T]/\(T= "int" \/T= "bool" \/T= "tuple" \/T= "list" \/T= "str")/\isiV K H T r x/\Q (.bl r) H
theorem zb2:CallR X (.builtin "isinstance") (rIsi X.K):=by
 intro pins s σ H xs us Q I r h
 obtain⟨x,T,b,rfl,hT,hx,q⟩:=h
 obtain⟨u,u',rfl,ru,ru'⟩:=zcX r
 cases ru'
 have fin: ∀t,EP X pins σ Q (.bool b) {s with toks:=t}:=fun t=>⟨.bl b,H,I.tok t,rfl,q⟩
 have fin0:EP X pins σ Q (.bool b) s:=⟨.bl b,H,I,rfl,q⟩
 cases x with
 |non=>
  cases ru
  have hx:b=false:=hx
  subst hx
  rcases hT with rfl|rfl|rfl|rfl|rfl
  ·exact IsiPair.NoneType_int (fin _)
  ·exact IsiPair.NoneType_bool (fin _)
  ·exact IsiPair.NoneType_tuple (fin _)
  ·exact IsiPair.NoneType_list (fin _)
  ·exact IsiPair.NoneType_str (fin _)
 |bl k=>
  cases ru
  rcases hT with rfl|rfl|rfl|rfl|rfl
  ·have hx:b=true:=hx
   subst hx;exact IsiPair.bool_int fin0
  ·have hx:b=true:=hx
   subst hx;exact IsiPair.bool_bool fin0
  ·have hx:b=false:=hx
   subst hx;exact IsiPair.bool_tuple (fin _)
  ·have hx:b=false:=hx
   subst hx;exact IsiPair.bool_list (fin _)
  ·have hx:b=false:=hx
   subst hx;exact IsiPair.bool_str (fin _)
 |int k=>
  obtain⟨t,rfl⟩:=ru
  rcases hT with rfl|rfl|rfl|rfl|rfl
  ·have hx:b=true:=hx
   subst hx;exact IsiPair.int_int fin0
  ·have hx:b=false:=hx
   subst hx;exact IsiPair.int_bool (fin _)
  ·have hx:b=false:=hx
   subst hx;exact IsiPair.int_tuple (fin _)
  ·have hx:b=false:=hx
   subst hx;exact IsiPair.int_list (fin _)
  ·have hx:b=false:=hx
   subst hx;exact IsiPair.int_str (fin _)
 |str k=>
  obtain⟨t,rfl⟩:=ru
  rcases hT with rfl|rfl|rfl|rfl|rfl
  ·have hx:b=false:=hx
   subst hx;exact IsiPair.str_int (fin _)
  ·have hx:b=false:=hx
   subst hx;exact IsiPair.str_bool (fin _)
  ·have hx:b=false:=hx
   subst hx;exact IsiPair.str_tuple (fin _)
  ·have hx:b=false:=hx
   subst hx;exact IsiPair.str_list (fin _)
  ·have hx:b=true:=hx
   subst hx;exact IsiPair.str_str fin0
 |ref a=>
  cases ru
  rcases hx with⟨ys,hs,hb⟩|⟨ys,hs,hb⟩
  ·obtain⟨its,rv,⟨o,e,c,n,dd⟩,_⟩:=I.tuple hs
   rcases hT with rfl|rfl|rfl|rfl|rfl
   ·have hx:b=false:=hb
    subst hx;exact IsiPair.tuple_int e c (fin _)
   ·have hx:b=false:=hb
    subst hx;exact IsiPair.tuple_bool e c (fin _)
   ·have hx:b=true:=hb
    subst hx;exact IsiPair.tuple_tuple e c fin0
   ·have hx:b=false:=hb
    subst hx;exact IsiPair.tuple_list e c (fin _)
   ·have hx:b=false:=hb
    subst hx;exact IsiPair.tuple_str e c (fin _)
  ·obtain⟨its,rv,⟨o,n,e,c,_,dd⟩,_⟩:=I.list hs
   rcases hT with rfl|rfl|rfl|rfl|rfl
   ·have hx:b=false:=hb
    subst hx;exact IsiPair.list_int e c (fin _)
   ·have hx:b=false:=hb
    subst hx;exact IsiPair.list_bool e c (fin _)
   ·have hx:b=false:=hb
    subst hx;exact IsiPair.list_tuple e c (fin _)
   ·have hx:b=true:=hb
    subst hx;exact IsiPair.list_list e c fin0
   ·have hx:b=false:=hb
    subst hx;exact IsiPair.list_str e c (fin _)
 |byt _=>exact hx.elim
 |flt _=>exact hx.elim
 |ty _=>exact hx.elim
theorem z4v: ∀{bs:List Bool} {us:List Value},Vals (bs.map V.bl) us->LSm.BoolsAre us bs
 |[],_, .nil=> .nil
 |b::bs,_, .cons r t=>by
  cases r
  exact .cons b (z4v t)
theorem z9d(hc:X.A.handled=none):CallR X (.builtin "all") (fun xs H Q=> ∃(p:Addr) (bs:List Bool),xs=[.ref p]/\SqL X.K H p (bs.map V.bl)/\Q (.bl (bs.all id)) H):=by
 intro pins s σ H xs us Q I r h
 obtain⟨p,bs,rfl,hs,q⟩:=h
 obtain⟨u,rfl,ru⟩:=z37 r
 cases ru
 obtain⟨its,rv,pl,_⟩:=I.list hs
 have hb:=z4v rv
 have hl:=pl.isList
 have hlt:p<s.heap.objs.size:=by obtain⟨_,e,_⟩:=hl;exact Heap.lt_size e
 refine call_all_walk (wpAny_pyIter_list hl ?_)
 refine⟨s.heap.objs.size,[s.heap.objs.size,p],[s.heap.objs.size],its.toArray.size,_,_,fun i=>(bs[i]?).getD true,rfl,Walks.list (A:=X.A.in1) hc _ p (Nat.ne_of_lt hlt) its.toArray,
  ⟨⟨_,Heap.get?_push_size _ rfl,rfl,rfl⟩,hl.push _⟩,fun i v s' Q' E' hP hQ=> ?_,fun h' tk hk=> ?_⟩
 ·obtain⟨b,e,rfl⟩:=hb.get i v (by simpa using hP)
  simp only[e,Option.getD_some] at hQ
  exact wpAny_truthy_bool hQ
 ·have e:((List.range its.toArray.size).all fun i=>(bs[i]?).getD true)=bs.all id:=by
   rw[List.size_toArray,hb.length];exact LSm.range_all bs
  rw[e]
  exact⟨.bl _,H,I.kept (LSm.kept_iter hk),rfl,q⟩
end
end L2
namespace HT
open PySem PyProof.Rows
section
variable{prog:Program}{w:World}{A:Around}{E:Value->Shared->Prop}{s:Shared}
theorem getItem_tuple_whole{t sl:Addr}{items:Array Value}{vl vu:Value}{lo hi:Option Int}{Q:Value->Shared->Prop}(ht:IsTup s.heap t items)(hs:s.heap.IsSliceOf sl vl vu .none)(pl:IsPart vl lo)(pu:IsPart vu hi)
 (hw:sIx items.size 0 lo=0/\sIx items.size items.size hi=items.size) (h:Q (.ref t) s):wpAny (model prog w) A (getItem (.ref t) (.ref sl)) Q E s:=by
 obtain⟨os,hos,hcs,hds⟩:=id hs
 have hTs:s.TypeIs (.ref sl) "slice" :=⟨os,hos,hcs⟩
 unfold getItem
 try with_reducible refine wpAny_holding ?_
 first|refine wpAny_bind (wpAny_pure ?_)|skip
 refine wpAny_bind (wpAny_sequenceKey ht.typeIs (by decide) ?_)
 refine wpAny_bind (wpAny_callSpecial?_slot (name:=Str.ofString "__getitem__") ht.typeIs PyProof.Rows.slot_tuple_getitem
  (wpAny_call_entry PyProof.Rows.slot_tuple_getitem ht.typeIs entry_tuple_getitem ?_ (args_tuple_getitem _ _)))
 show wpAny _ _ (Builtin.Tuple.tupleItemsOf (.ref t)>>=_) _ _ s
 refine wpAny_bind (tupleItemsOf_ ht ?_)
 refine wpAny_bind (wpAny_typeOf hTs ?_)
 rw[if_pos (by decide)]
 refine wpAny_bind (z2F hs pl pu ?_)
 have hyes:((((sIx items.size 0 lo:Nat):Int)==0&&(1:Int)==1&&(sIx items.size items.size hi -sIx items.size 0 lo)==items.size)=true):=by
  rw[hw.1,hw.2]
  simp
 show wpAny _ _ (if(((sIx items.size 0 lo:Nat):Int)==0&&(1:Int)==1&&(sIx items.size items.size hi -sIx items.size 0 lo)==items.size)=true then _ else _) _ _ s
 rw[if_pos hyes]
 obtain⟨o,ho,hc,n,hd⟩:=id ht
 have ex:Builtin.Tuple.tupleIsExact (.ref t)=(typeOf (.ref t)>>=fun T=>pure (T== .type "tuple")):=rfl
 refine wpAny_bind (m:=Builtin.Tuple.tupleIsExact (.ref t)) ?_
 rw[ex]
 refine wpAny_bind (wpAny_typeOf ht.typeIs (wpAny_pure ?_))
 rw[if_pos (by decide)]
 exact wpAny_bind (wpAny_rule (wpAny_pure ⟨_,rfl,wpAny_pure h⟩))
end
end HT
namespace L2
open PySem PySem.Spec PyProof.Rows
section
variable{X:Cx}
theorem z8u{xs:List V}{lo hi:Option Int}(h:HT.sIx xs.length 0 lo=0/\HT.sIx xs.length xs.length hi=xs.length):cutV xs lo hi=xs:=by
 unfold cutV
 rw[h.1,h.2]
 simp
end
noncomputable def z1W(env:Env):List (Str×NameKind)->List (Str×Addr)->List (Str×Addr)
 |[],cs=>cs
 |(n,k)::r,cs=>z1W env r (if k== .free then(match env.cells.lookup n with|some a=>(n,a)::cs|none=>cs) else cs)
theorem z7V{env:Env}: ∀(names:List (Str×NameKind)) (cs:List (Str×Addr)),(∀y∈names,y.2= .free->∃a,env.cells.lookup y.1=some a)->
 (forIn names cs fun(x:Str×NameKind) (r:List (Str×Addr))=>if(x.2==NameKind.free)=true then cellOf env x.1>>=fun a=>pure (ForInStep.yield ((x.1,a)::r)) else pure (ForInStep.yield r))=(pure (z1W env names cs):Sem _)
 |[],cs,_=>rfl
 |(n,k)::r,cs,h=>by
  have ih:=fun cs=>z7V (env:=env) r cs fun y hy=>h y (List.mem_cons_of_mem _ hy)
  rw[List.forIn_cons]
  show((if(k==NameKind.free)=true then cellOf env n>>=fun a=>pure (ForInStep.yield ((n,a)::cs)) else pure (ForInStep.yield cs))>>=_)=pure (z1W env r (if k== .free then(match env.cells.lookup n with|some a=>(n,a)::cs|none=>cs) else cs))
  by_cases hk:(k==NameKind.free)=true
  ·obtain⟨a,e⟩:=h (n,k) List.mem_cons_self (by simpa using hk)
   have e:env.cells.lookup n=some a:=e
   rw[if_pos hk,if_pos hk,e]
   have e2:cellOf env n=pure a:=by unfold cellOf;rw[e]
   rw[e2]
   exact ih _
  ·rw[if_neg hk,if_neg hk]
   exact ih _
theorem z3s{env:Env}{scope:Scope}(h: ∀y∈scope.names,y.2= .free->∃a,env.cells.lookup y.1=some a):closureFor scope env=pure (z1W env scope.names []):=by
 have e:=z7V (env:=env) scope.names [] h
 exact congrArg (fun(m:Sem (List (Str×Addr)))=>m>>=fun cs=>pure cs) e
theorem z4l{env:Env}{x:Str}{c:Addr}: ∀(names:List (Str×NameKind)) (cs:List (Str×Addr)),(z1W env names cs).lookup x=some c->
 cs.lookup x=some c\/(env.cells.lookup x=some c/\(x,NameKind.free)∈names)
 |[],cs,h=> .inl h
 |(n,k)::r,cs,h=>by
  rcases z4l r _ h with q|⟨q,m⟩
  ·by_cases hk:(k==NameKind.free)=true
   ·rw[if_pos hk] at q
    cases e:env.cells.lookup n with
    |none=>rw[e] at q;exact .inl q
    |some a=>
     rw[e] at q
     have q:((n,a)::cs).lookup x=some c:=q
     rw[List.lookup_cons] at q
     by_cases hx:(x==n)=true
     ·rw[hx] at q
      have q:some a=some c:=q
      cases q
      have hx:x=n:=eq_of_beq hx
      subst hx
      have hk:k= .free:=eq_of_beq hk
      subst hk
      exact .inr ⟨e,List.mem_cons_self⟩
     ·have hx:(x==n)=false:=by simpa using hx
      rw[hx] at q
      exact .inl q
   ·rw[if_neg hk] at q
    exact .inl q
  ·exact .inr ⟨q,List.mem_cons_of_mem _ m⟩
theorem z4w{env:Env}{x:Str}: ∀(names:List (Str×NameKind)) (cs:List (Str×Addr)),(((∃c,cs.lookup x=some c))\/((x,NameKind.free)∈names/\∃c,env.cells.lookup x=some c))->
 ∃c,(z1W env names cs).lookup x=some c
 |[],cs,h=>by
  rcases h with h|⟨m,_⟩
  ·exact h
  ·cases m
 |(n,k)::r,cs,h=>by
  refine z4w r _ ?_
  rcases h with⟨c,hc⟩|⟨m,c,hc⟩
  ·left
   by_cases hk:(k==NameKind.free)=true
   ·rw[if_pos hk]
    cases e:env.cells.lookup n with
    |none=>exact⟨c,hc⟩
    |some a=>
     by_cases hx:(x==n)=true
     ·exact⟨a,by show((n,a)::cs).lookup x=some a;rw[List.lookup_cons,hx]⟩
     ·have hx:(x==n)=false:=by simpa using hx
      exact⟨c,by show((n,a)::cs).lookup x=some c;rw[List.lookup_cons,hx];exact hc⟩
   ·rw[if_neg hk]
    exact⟨c,hc⟩
  ·rcases List.mem_cons.mp m with e|m
   ·left
    cases e
    rw[if_pos (by decide),hc]
    exact⟨c,by show((x,c)::cs).lookup x=some c;rw[List.lookup_cons,beq_self_eq_true]⟩
   ·exact .inr ⟨m,c,hc⟩
theorem z1z{env:Env}: ∀{names:List (Str×NameKind)} {x:Str},names.lookup x=some .free->
 (names.map fun(n,k)=>if(k==NameKind.free&&env.scope.kind== .function&&env.kindOf n==some .cell) then(n,NameKind.cell) else(n,k)).lookup x=some .cell\/
 (names.map fun(n,k)=>if(k==NameKind.free&&env.scope.kind== .function&&env.kindOf n==some .cell) then(n,NameKind.cell) else(n,k)).lookup x=some .free
 |[],_,h=>by simp at h
 |(n,k)::r,x,h=>by
  have ih:= @z1z env r x
  rw[List.map_cons]
  show List.lookup x ((if(k==NameKind.free&&env.scope.kind== .function&&env.kindOf n==some .cell)=true then(n,NameKind.cell) else(n,k))::_)=_\/List.lookup x ((if(k==NameKind.free&&env.scope.kind== .function&&env.kindOf n==some .cell)=true then(n,NameKind.cell) else(n,k))::_)=_
  cases hx:x==n with
  |true=>
   simp only[List.lookup_cons,hx] at h
   cases h
   by_cases hc:(NameKind.free==NameKind.free&&env.scope.kind== .function&&env.kindOf n==some .cell)=true
   ·rw[if_pos hc];left;simp only[List.lookup_cons,hx]
   ·rw[if_neg hc];right;simp only[List.lookup_cons,hx]
  |false=>
   simp only[List.lookup_cons,hx] at h
   by_cases hc:(k==NameKind.free&&env.scope.kind== .function&&env.kindOf n==some .cell)=true
   ·rw[if_pos hc];simp only[List.lookup_cons,hx];exact ih h
   ·rw[if_neg hc];simp only[List.lookup_cons,hx];exact ih h
theorem z1X{env:Env}: ∀{names:List (Str×NameKind)} {x:Str},((names.map fun(n,k)=>if(k==NameKind.free&&env.scope.kind== .function&&env.kindOf n==some .cell) then(n,NameKind.cell) else(n,k)).lookup x=some .cell\/
 (names.map fun(n,k)=>if(k==NameKind.free&&env.scope.kind== .function&&env.kindOf n==some .cell) then(n,NameKind.cell) else(n,k)).lookup x=some .free)->names.lookup x=some .free\/names.lookup x=some .cell
 |[],_,h=>by simp at h
 |(n,k)::r,x,h=>by
  have ih:= @z1X env r x
  rw[List.map_cons] at h
  have h:List.lookup x ((if(k==NameKind.free&&env.scope.kind== .function&&env.kindOf n==some .cell)=true then(n,NameKind.cell) else(n,k))::_)=_\/List.lookup x ((if(k==NameKind.free&&env.scope.kind== .function&&env.kindOf n==some .cell)=true then(n,NameKind.cell) else(n,k))::_)=_:=h
  cases hx:x==n with
  |true=>
   simp only[List.lookup_cons,hx]
   by_cases hc:(k==NameKind.free&&env.scope.kind== .function&&env.kindOf n==some .cell)=true
   ·have:k= .free:=by
     simp only[Bool.and_eq_true,beq_iff_eq] at hc
     exact hc.1.1
    subst this
    exact .inl rfl
   ·rw[if_neg hc] at h
    simp only[List.lookup_cons,hx] at h
    exact h.symm
  |false=>
   simp only[List.lookup_cons,hx]
   refine ih ?_
   by_cases hc:(k==NameKind.free&&env.scope.kind== .function&&env.kindOf n==some .cell)=true
   ·rw[if_pos hc] at h;simp only[List.lookup_cons,hx] at h;exact h
   ·rw[if_neg hc] at h;simp only[List.lookup_cons,hx] at h;exact h
structure z1k(osc sc:Scope)(own frees N:List Str)(ix:List Nat):Prop where
 kind:sc.kind= .function
 nocell: ∀y∈sc.names,y.2≠ .cell
 names: ∀y∈sc.names,y.2= .local->sc.names.lookup y.1=some .local
 fr: ∀y∈sc.names,y.2= .free->osc.names.lookup y.1=some .cell\/osc.names.lookup y.1=some .free
 nd:(own++frees).Nodup
 frl: ∀x∈frees,sc.names.lookup x=some .free
 ixs:ix.map (fun i=>N[i]?)=frees.map some
noncomputable def z0z(X:Cx)(scope:Scope)(own frees:List Str)(cl:List (Str×Addr))(C:Addr)(s₀:Shared)(H₀:Hp)(fp:List Addr)(pn:List (Addr×Obj)):Cx:=
 {X with N:=own++frees,s₀:=s₀,H₀:=H₀,env:=compEnvC scope cl C X.env,outer:=X.stack,stack:=X.stack,ex:=fp,fn:=fun _=>false,pn:=pn,xe:=fun _ _=>False}
noncomputable def z32(k:Nat)(ix:List Nat)(σ:St):St:=List.replicate k none++ix.map fun i=>(σ[i]?).getD none
section
variable{X:Cx}{tg iter elt:Expr}{pos:Pos}{scope:Scope}{own frees:List Str}{ix:List Nat}{wi:TI}{g:TG}{te:TE}
theorem z8v(k:Nat)(ix:List Nat)(σ:St):(z32 k ix σ).length=k+ix.length:=by
 unfold z32
 simp
theorem z5l{pins:List (Addr×Obj)}{σ:St}{H:Hp}{s s1:Shared}{fp:List Addr}(S:z1k X.env.scope scope own frees X.N ix)(I:Inv X pins σ H s)(hf: ∀b∈fp,FpOk X pins H b)(hb: ∀b∈fp,b<s.heap.objs.size)
 (ho:s1.os=s.os) (hg:s1.gens=s.gens) (hk: ∀b o,s.heap.get? b=some o->s1.heap.get? b=some o) (hn:s1.heap.Ns s.heap.objs.size (fun _=>none)):
 Inv (z0z X scope own frees (z1W X.env scope.names []) s.heap.objs.size s H fp (X.pn++pins)) [] (z32 own.length ix σ) H s1:=by
 have clos: ∀x c,(z1W X.env scope.names []).lookup x=some c->X.env.cells.lookup x=some c/\(x,NameKind.free)∈scope.names:=fun x c h=>by
  rcases z4l _ _ h with q|q
  ·exact nomatch q
  ·exact q
 have hlen:ix.length=frees.length:=by
  have:=congrArg List.length S.ixs
  simpa using this
 have cne: ∀x c,X.env.cells.lookup x=some c->c<s.heap.objs.size:=fun x c e=>by
  obtain⟨v,o,q,_⟩:=I.cell x c e
  exact Heap.lt_size q
 refine⟨⟨I.ok.mod,S.kind,I.ok.glob,I.ok.blt,Nat.le_refl _,fun x y c h1 h2=>I.ok.inj x y c (clos x c h1).1 (clos y c h2).1,fun x hx=> ?_,fun x c z=>Bool.noConfusion z,I.ok.hd,I.ok.frames, .inl rfl,fun b z=>⟨Nat.ne_of_lt (hb b z),fun x c e=>(hf b z).2.2.2.2.1 x c (clos x c e).1⟩,I.bs,
  Nat.le_trans I.ok.bsz I.sz,fun b o e z=> ?_,fun b z=> ?_,I.stack,I.stkFree⟩,ho, ?_,Un.kept hk,⟨_,hn,fun i x v h1 h2 h3=> ?_⟩,fun x c e=> ?_,I.fresh,fun x c e=>I.freeC x c (clos x c e).1,fun p hp=> ?_,I.hok.kept hk, ?_⟩
 ·have hx:(relabel scope X.env).names.lookup x=some .cell\/(relabel scope X.env).names.lookup x=some .free:=hx
  rcases z1X hx with q|q
  ·have m:(x,NameKind.free)∈scope.names:=PySem.mem_of_lookup q
   obtain⟨c,hc⟩:=I.ok.has x (S.fr _ m rfl)
   exact z4w _ _ (.inr ⟨m,c,hc⟩)
  ·exact absurd rfl (S.nocell _ (PySem.mem_of_lookup q))
 ·rcases(hf b z).2.2.2.1 with q|q
  ·exact I.ok.noex b o e q
  ·exact absurd (Heap.lt_size (I.ok.bs b o e).1) (Nat.not_lt.mpr q)
 ·intro q
  rcases List.mem_cons.mp (I.stkSub b q) with r|r
  ·exact(hf b z).2.1 r
  ·exact(hf b z).2.2.1 r
 ·rw[hg];exact I.bare
 ·have h2:(z32 own.length ix σ)[i]? =some (some v):=h2
  have h1:(own++frees)[i]? =some x:=h1
  unfold z32 at h2
  by_cases hi:i<own.length
  ·rw[List.getElem?_append_left (by simpa using hi),List.getElem?_replicate] at h2
   rw[if_pos hi] at h2
   cases h2
  ·have hi:own.length<=i:=Nat.not_lt.mp hi
   rw[List.getElem?_append_right (by simpa using hi),List.length_replicate,List.getElem?_map] at h2
   rw[List.getElem?_append_right hi] at h1
   cases e:ix[i -own.length]? with
   |none=>rw[e] at h2;cases h2
   |some j=>
    rw[e] at h2
    have h2:some ((σ[j]?).getD none)=some (some v):=h2
    have hσ:σ[j]? =some (some v):=by
     cases q:σ[j]? with
     |none=>rw[q] at h2;cases h2
     |some z=>rw[q] at h2;exact h2
    have hN:X.N[j]? =some x:=by
     have:=congrArg (fun l:List (Option Str)=>l[i -own.length]?) S.ixs
     simp only[List.getElem?_map,e,h1,Option.map_some] at this
     exact Option.some.inj this
    have mf:x∈frees:=List.mem_of_getElem? h1
    have lf:=S.frl x mf
    have m:(x,NameKind.free)∈scope.names:=PySem.mem_of_lookup lf
    have hos:=S.fr _ m rfl
    obtain⟨mm,hns,hl⟩:=I.loc
    obtain⟨u,ru,look⟩:=hl j x v hN hσ (hos.elim (fun q=> .inr (.inl q)) fun q=> .inr (.inr q))
    refine⟨u,ru, ?_⟩
    rcases look with⟨kk,_⟩|⟨kk,c,hc,ic⟩
    ·have kk:X.env.scope.names.lookup x=some .local:=kk
     have hos:X.env.scope.names.lookup x=some .cell\/X.env.scope.names.lookup x=some .free:=hos
     rw[kk] at hos
     rcases hos with q|q<;>cases q
    ·obtain⟨c',hc'⟩:=z4w (env:=X.env) scope.names [] (.inr ⟨m,c,hc⟩)
     have e2:=(clos x c' hc').1
     rw[hc] at e2
     cases e2
     refine .inr ⟨z1z lf,c,hc', ?_⟩
     obtain⟨o,q1,q2⟩:=ic
     exact⟨o,hk _ _ q1,q2⟩
 ·obtain⟨v,o,q1,q2⟩:=I.cell x c (clos x c e).1
  exact⟨v,o,hk _ _ q1,q2⟩
 ·have hp:p∈(X.pn++pins)++[]:=hp
  rw[List.append_nil] at hp
  obtain⟨e,n,ne,nf,d⟩:=I.pin p hp
  refine⟨hk _ _ e,n,Nat.ne_of_lt (Heap.lt_size e),fun q=> ?_,d⟩
  rcases List.mem_cons.mp (I.stkSub p.1 q) with r|r
  ·exact ne r
  ·exact nf r
 ·show(z32 own.length ix σ).length=(own++frees).length
  rw[z8v,hlen,List.length_append]
theorem z7W{pins pins':List (Addr×Obj)}{σ σ':St}{H H':Hp}{s s':Shared}{h':Heap}{fp:List Addr}{cl:List (Str×Addr)}{C:Addr}(I:Inv X pins σ H s)(hf: ∀b∈fp,FpOk X pins H b)(hC:s.heap.objs.size<=C)
 (J:Inv (z0z X scope own frees cl C s H fp (X.pn++pins)) pins' σ' H' s') (hs:Heap.SameBut C s'.heap h'):Inv X pins σ H' {s' with heap:=h'}:=by
 have nC: ∀b,b<s.heap.objs.size->b≠C:=fun b q e=>by subst e;exact absurd q (Nat.not_lt.mpr hC)
 refine I.call' (ch:=fp) J.os ⟨fun b o e n hb hx=> ?_,fun b o e n hb hx=> ?_,J.base.free,fun b o e hx=> ?_,J.base.tups,J.base.frzs,J.base.tbls⟩ ?_ J.bare fun b z=>⟨(hf b z).2.2.2.1,(hf b z).2.1,(hf b z).2.2.2.2.1,(hf b z).2.2.2.2.2⟩
 ·exact(hs.2 b (nC b (Heap.lt_size e))).trans (J.base.keep b o e n hb hx)
 ·obtain⟨sl,q⟩:=J.base.slot b o e n hb hx
  exact⟨sl,(hs.2 b (nC b (Heap.lt_size e))).trans q⟩
 ·obtain⟨o',q⟩:=J.base.there b o e hx
  exact⟨o',(hs.2 b (nC b (Heap.lt_size e))).trans q⟩
 ·intro a o e
  refine(J.hok a o e).stay (fun b u hbu q=> ?_) (fun _ q=>q) fun _ _ q=>q
  refine(hs.2 b ?_).trans q
  intro eb
  subst eb
  have hfree:H' b=none:=J.free
  rcases hbu with rfl|z
  ·rw[e] at hfree;cases hfree
  ·rw[z] at hfree;cases hfree
end
end L2
namespace PySem
end PySem
namespace L2
open PySem PySem.Spec PyProof.Rows
noncomputable def z0K(osc sc:Scope)(own frees N:List Str)(ix:List Nat):Bool:=
 decide (sc.kind= .function)&&sc.names.all (fun y=>decide (y.2≠ .cell))&&sc.names.all (fun y=>decide (y.2= .local->sc.names.lookup y.1=some .local))&&
  sc.names.all (fun y=>decide (y.2= .free->osc.names.lookup y.1=some .cell\/osc.names.lookup y.1=some .free))&&decide (own++frees).Nodup&&frees.all (fun x=>decide (sc.names.lookup x=some .free))&&
  decide (ix.map (fun i=>N[i]?)=frees.map some)
theorem z0K.sc{osc sc:Scope}{own frees N:List Str}{ix:List Nat}(h:z0K osc sc own frees N ix=true):z1k osc sc own frees N ix:=by
 unfold z0K at h
 simp only[Bool.and_eq_true,List.all_eq_true,decide_eq_true_eq] at h
 obtain⟨⟨⟨⟨⟨⟨h1,h2⟩,h3⟩,h4⟩,h5⟩,h6⟩,h7⟩:=h
 exact⟨h1,h2,h3,h4,h5,h6,h7⟩
theorem Same.new{H:Hp}{p:Addr}(o:HO)(h:H p=none):Same H (upd H p o):=fun x u e=>by rw[z0c (z0G e h)];exact e
noncomputable def dT(ns:List Int):PyData:= .tuple (ns.map PyData.int)
theorem cut_take(xs:List V)(k:Nat):cutV xs none (some (k:Int))=xs.take k:=by
 unfold cutV
 rw[HT.sIx_none,HT.sIx_nat]
 simp only[List.drop_zero,Nat.sub_zero]
 rw[List.take_eq_take_iff]
 lia
theorem cut_drop(xs:List V)(k:Nat):cutV xs (some (k:Int)) none=xs.drop k:=by
 unfold cutV
 rw[HT.sIx_none,HT.sIx_nat]
 by_cases h:k<=xs.length
 ·rw[Nat.min_eq_left h,List.take_of_length_le (by rw[List.length_drop];lia)]
 ·have h:xs.length<=k:=by lia
  rw[Nat.min_eq_right h,Nat.sub_self,List.take_zero,List.drop_eq_nil_of_le h]
theorem map_take{α β:Type}(f:α->β)(xs:List α)(k:Nat):(xs.map f).take k=(xs.take k).map f:=by rw[List.map_take]
theorem map_drop{α β:Type}(f:α->β)(xs:List α)(k:Nat):(xs.map f).drop k=(xs.drop k).map f:=by rw[List.map_drop]
theorem Paired.snoc{α β:Type}{F:α->β->Prop}: ∀{l₁:List α} {l₂:List β} {a:α} {b:β},Paired F l₁ l₂->F a b->Paired F (l₁++[a]) (l₂++[b])
 |_,_,_,_, .nil,h=> .cons h .nil
 |_,_,_,_, .cons r t,h=> .cons r (Paired.snoc t h)
noncomputable def NewX(K:W.Frag)(H:Hp)(xs:List V)(Q:VK):Prop:= ∀p H',(H'=H/\H p=some (.tup xs))\/(H p=none/\H'=upd H p (.tup xs))->Q (.ref p) H'
theorem NewX.intro{K:W.Frag}{H:Hp}{xs:List V}{Q:VK}(h: ∀p H',H' p=some (.tup xs)->Same H H'->Q (.ref p) H'):NewX K H xs Q:=by
 intro p H' e
 rcases e with⟨rfl,s⟩|⟨n,rfl⟩
 ·exact h p H' s (Same.refl _)
 ·exact h p _ z0i (Same.new _ n)
section
variable{X:Cx}
noncomputable def rSlX(K:W.Frag):V->Option Int->Option Int->Hp->VK->Prop:=fun x lo hi H Q=> ∃a xs,x= .ref a/\H a=some (.tup xs)/\NewX K H (cutV xs lo hi) Q
theorem zdg:SlR X (rSlX X.K):=by
 intro pins s σ H x v vl vu lo hi sl Q I rx hs pl pu h
 obtain⟨a,xs,rfl,hx0,q⟩:=h
 have hx:SqT X.K H a xs:=SqT.of hx0
 by_cases hw:HT.sIx xs.length 0 lo=0/\HT.sIx xs.length xs.length hi=xs.length
 ·cases rx
  obtain⟨its,r,ht,hz⟩:=I.tuple hx
  have hlen:its.toArray.size=xs.length:=by rw[List.size_toArray];exact r.length.symm
  refine⟨"tuple",_,PyProof.Rows.slot_tuple_getitem.lookup,ht.typeIs, ?_⟩
  refine HT.getItem_tuple_whole ht hs pl pu (by rw[hlen];exact hw) ⟨.ref a,H,I,rfl,q a H (.inl ⟨rfl, ?_⟩)⟩
  rw[z8u hw]
  exact hx0
 ·exact zeR pins s σ H _ v vl vu lo hi sl Q I rx hs pl pu ⟨a,xs,rfl,hx,hw,fun p hp=>q p _ (.inr ⟨hp,rfl⟩)⟩
noncomputable def z9e(K:W.Frag):R2:=fun x y H Q=> ∃a b xs ys,x= .ref a/\y= .ref b/\H a=some (.tup xs)/\H b=some (.tup ys)/\xs.length+ys.length<=sizeLine/\NewX K H (xs++ys) Q
theorem z9f:OpR X (binaryOp .Add) (z9e X.K):=by
 intro pins s σ H x y v u Q I rx ry h
 obtain⟨a,b,xs,ys,rfl,rfl,ha0,hb0,hz,q⟩:=h
 have ha:SqT X.K H a xs:=SqT.of ha0
 have hb:SqT X.K H b ys:=SqT.of hb0
 by_cases hx:xs=[]
 ·subst hx
  cases rx
  cases ry
  obtain⟨its,r1,p1,_⟩:=I.tuple ha
  obtain⟨its2,r2,p2,_⟩:=I.tuple hb
  have e0:its=[]:=(Vals.nil_iff r1).mpr rfl
  subst e0
  obtain⟨⟨cls,dd,data,sl⟩,ho,hc,n,hd⟩:=id p1
  obtain⟨⟨cls2,dd2,data2,sl2⟩,ho2,hc2,n2,hd2⟩:=id p2
  simp only at hc hd hc2 hd2
  subst hc hd hc2 hd2
  exact concat_meets ⟨_,ho,rfl⟩ ⟨_,ho2,rfl⟩ noFill_tuple_add seq_tuple_add PySem.F.slot_tuple_add PySem.F.entry_tuple_add (PySem.F.args_tuple_add_2 _ _)
   (tuple_addW0 a b _ _ n n2 dd dd2 sl sl2 (by simp)) ⟨ho,ho2, .ref b,H,I,rfl,q b H (.inl ⟨rfl,hb0⟩)⟩
 ·refine zd2 pins s σ H _ _ v u Q I rx ry ⟨a,b,xs,ys,rfl,rfl,ha,hb,hx,hz,fun e=> ?_,fun _ p hp=>q p _ (.inr ⟨hp,rfl⟩)⟩
  refine q a H (.inl ⟨rfl, ?_⟩)
  rw[e,List.append_nil]
  exact ha0
theorem z9g:CallR X (.type "tuple") (fun xs H Q=> ∃(p:Addr) (ys:List V),xs=[.ref p]/\(SqL X.K H p ys\/H p=some (.tup ys))/\NewX X.K H ys Q):=by
 intro pins s σ H xs us Q I r h
 obtain⟨p,ys,rfl,hs,q⟩:=h
 refine z5D pins s σ H _ us Q I r ⟨p,ys,rfl, ?_⟩
 rcases hs with hs|hs
 ·exact .inl ⟨hs,fun l hl=>q l _ (.inr ⟨hl,rfl⟩)⟩
 ·exact .inr ⟨SqT.of hs,q p H (.inl ⟨rfl,hs⟩)⟩
end
end L2
namespace PyProof.Rows
open PySem
section
variable{prog:Program}{w:World}{A:Around}{E:Value->Shared->Prop}{s:Shared}
theorem z4x{h h':Heap}{t:Addr}{items:Array Value}(hl:h.IsList t items)(k: ∀o,h.get? t=some o->h'.get? t=some o):h'.IsList t items:=by
 obtain⟨o,ho,hc,n,hd⟩:=hl
 exact⟨o,k o ho,hc,n,hd⟩
theorem z6F{it t:Addr}{items:Array Value}(hne:t≠it): ∀(n i:Nat) (s:Shared) (Q:List Value->Shared->Prop),s.heap.IsListIter it t i->s.heap.IsList t items->i+n<=items.size->
 (∀h',h'.IsListIter it t (i+n)->Heap.SameBut it s.heap h'->Q ((items.toList.drop i).take n) {s with heap:=h'})->wpAny (model prog w) A (draw (.ref it) n) Q E s
 |0,i,s,Q,hit,_,_,hQ=>by
  show wpAny _ _ (pure []) Q E s
  exact wpAny_pure (by simpa using hQ s.heap hit (Heap.SameBut.refl ..))
 |n+1,i,s,Q,hit,ht,hle,hQ=>by
  have hlt:i<items.size:=by lia
  show wpAny _ _ (pyNext (.ref it)>>=_) Q E s
  refine wpAny_bind (wpAny_pyNext_list_item hit ht (x:=items[i]) (by simp[hlt]) fun h₁ hit₁ hs₁=> ?_)
  refine wpAny_bind (wpAny_holding (z6F hne n (i+1) _ _ hit₁ (z4x ht fun o e=>(hs₁.2 t hne).trans e) (by lia) fun h₂ hit₂ hs₂=>wpAny_pure ?_))
  have hd:items.toList.drop i=items[i]::items.toList.drop (i+1):=by simp[List.drop_eq_getElem_cons,hlt]
  have:=hQ h₂ (by rw[show i+(n+1)=i+1+n by lia];exact hit₂) (hs₁.trans hs₂)
  rw[hd,List.take_succ_cons] at this
  exact this
theorem z4c{t:Addr}{items:Array Value}{Q:List Value->Shared->Prop}(hh:A.handled=none)(ht:s.heap.IsList t items)
 (hQ: ∀h',Heap.ExtBut s.heap.objs.size s.heap h'->Q items.toList {s with heap:=h'}):wpAny (model prog w) A (unpackItems (.ref t) items.size none) Q E s:=by
 have hlt:t≠s.heap.objs.size:=by obtain⟨o,ho,_⟩:=ht;exact Nat.ne_of_lt (Heap.lt_size ho)
 have hT:s.TypeIs (.ref t) "list" :=by obtain⟨o,ho,hc,_⟩:=ht;exact⟨o,ho,hc⟩
 unfold unpackItems
 refine wpAny_bind ?_
 ·unfold notIterableAtAll
  refine wpAny_bind (wpAny_specialOf hT PySem.F.slot_list_iter.lookup ?_)
  refine wpAny_pure ?_
  simp only[Bool.false_eq_true,if_false]
  refine wpAny_bind (wpAny_holding (wpAny_pyIter_list ht ?_))
  refine wpAny_bind (wpAny_holding (z6F hlt items.size 0 _ _ ⟨_,Heap.get?_push_size _ rfl,rfl,rfl⟩ (z4x ht fun o e=>Heap.get?_push_of_some _ e) (by lia) fun h₁ hit₁ hs₁=> ?_))
  have hall:List.take items.size (List.drop 0 items.toList)=items.toList:=by
   rw[List.drop_zero];exact List.take_of_length_le (by simp)
  rw[hall]
  rw[if_neg (by simp)]
  have ht₁:h₁.IsList t items:=z4x ht fun o e=>(hs₁.2 t hlt).trans (Heap.get?_push_of_some _ e)
  refine wpAny_bind (wpAny_holding (wpAny_pyNext_list_end hh hit₁ ht₁ (by simp) fun h₂ he₂=> ?_))
  simp only[Option.isSome_none,Bool.false_eq_true,if_false]
  refine wpAny_pure (hQ h₂ fun b o hb e=>he₂ b o hb (hs₁.extBut b o hb (Heap.get?_push_of_some _ e)))
theorem z3I{env:Env}{elts:List Expr}{x1}{pos:Pos}{t:Addr}{items:Array Value}{Q:Unit->Shared->Prop}(hh:A.handled=none)(ht:s.heap.IsList t items)
 (hn:(assignEach elts env).length=items.size) (hstar:(assignEach elts env).findIdx? (·.1)=none)
 (h: ∀h',Heap.ExtBut s.heap.objs.size s.heap h'->wpAny (model prog w) A (assignInOrder ((assignEach elts env).map (·.2)) items.toList) Q E {s with heap:=h'}):
 wpAny (model prog w) A (assign (.Tuple elts x1 pos) env (.ref t)) Q E s:=by
 rw[assign_Tuple]
 refine wpAny_bind (wpAny_standAt ?_)
 unfold unpack
 rw[hn,hstar]
 exact wpAny_bind (wpAny_holding (z4c hh ht h))
end
end PyProof.Rows
namespace L2
open PySem PySem.Spec PyProof.Rows
section
variable{X:Cx}{pos:Pos}
noncomputable def gSeq(K:W.Frag)(n:Nat)(t:TGs):TG:=fun v σ H Q=> ∃a xs,v= .ref a/\(SqT K H a xs\/SqL K H a xs)/\xs.length=n/\t xs σ H Q
theorem zf1{es:List Expr}{k:Nat}{t:TGs}{n:Nat}(hc:X.calm=true)(h:PGs X es t)
 (hn:(assignEach es X.env).length=n:=by rfl) (hst:(assignEach es X.env).findIdx? (·.1)=none:=by rfl):PG X (.Tuple es k pos) (gSeq X.K n t):=by
 intro pins s σ H v u Q I r hw
 obtain⟨a,xs,e1,hq|hq,hl,hw⟩:=hw
 ·exact zeD hc h hn hst pins s σ H v u Q I r ⟨a,xs,e1,hq,hl,hw⟩
 ·subst e1
  cases r
  obtain⟨its,rv,ht,hz⟩:=I.list hq
  refine z3I (I.ok.hd hc) ht.isList (by simp[hn,<-hl,rv.length]) hst fun h' hx=> ?_
  have I1:Inv X pins σ H {s with heap:=h'}:=I.kept (t':=s.toks) fun b o e=>hx b o (Nat.ne_of_lt (Heap.lt_size e)) e
  exact h pins _ σ H xs _ Q I1 (by simpa using rv) hw
end
theorem z4d:fillsNumberSlot (.type "tuple") "mul" =pure false:=
 PySem.fillsNumberSlot_seq (id:= "tuple.__mul__") (r:=some (.builtin "tuple.__rmul__")) F.slot_tuple_mul.lookup (by decide+kernel) F.slot_tuple_rmul.lookup (by decide+kernel)
theorem z6G:seqRepeat? (.type "tuple")=pure (some (.builtin "tuple.__mul__")):=by
 unfold seqRepeat?
 rw[PySem.seqSlot_of (T:= "tuple") (name:= "__mul__") (id:= "tuple.__mul__") F.slot_tuple_mul.lookup (by decide+kernel),PySem.seqSlot_of (T:= "tuple") (name:= "__rmul__") (id:= "tuple.__rmul__") F.slot_tuple_rmul.lookup (by decide+kernel)]
 rfl
theorem z4Z(a:Int)(t:Tok)(l:Addr)(items:Array Value)(n:Nat)(dd:Option Addr)(sl:Array (Option Value)):
 Meets (Builtin.«int.__rmul__» ⟨[.int a t, .ref l],[]⟩) (fun _ R s=>s.heap.get? l=some {cls:= .type "tuple",dict:=dd,data:= .seq items n,slots:=sl}/\R (.ok (.ret Value.notImplemented)) s):=
 .of_wp fun prog w A R s h=>by obtain⟨hp,g,d,tk,os⟩:=s;obtain⟨hl,h⟩:=h;wp_walk;exact⟨_,rfl,h⟩
theorem z8w(l:Addr)(items:Array Value)(n:Nat)(dd:Option Addr)(sl:Array (Option Value))(x:Int)(u:Tok)(hc0: ¬(decide (x< -(2^63))||decide (x≥2^63))=true)(hc1: ¬(items.isEmpty||x==1)=true)(hc2: ¬(decide (x<=0)||items.isEmpty)=true)(hc3: ¬((items.size:Int)*x>(2^63 - 1)/8))(hc4: ¬Builtin.Tuple.tupleTooMany ((items.size:Int)*x)=true)(hsz:(List.foldl (fun x1 x2=>x1++x2) #[] (List.replicate x.toNat items)).size<=sizeLine):
 Meets (Builtin.«tuple.__mul__» ⟨[.ref l, .int x u],[]⟩) (fun _ R s=>s.heap.get? l=some {cls:= .type "tuple",dict:=dd,data:= .seq items n,slots:=sl}/\R (.ok (.ret (Value.ref s.heap.objs.size))) {s with heap:=s.heap.push {cls:=Value.type "tuple",data:=Data.seq (List.foldl (fun x1 x2=>x1++x2) #[] (List.replicate x.toNat items))},toks:=s.toks}):=
 .of_wp fun prog w A R s h=>by
  obtain⟨hp,g,d,tk,os⟩:=s;obtain⟨hl,h⟩:=h
  have f1:=AutoSeq1.idx_int;have f2:=AutoSeq1.sub_tuple_tuple
  wp_walk using AutoSeq1.wpAny_loadPart' hl
  rw[if_neg hc0]
  wp_walk using AutoSeq1.wpAny_loadPart' hl
  rw[if_neg hc3]
  wp_walk using AutoSeq1.wpAny_loadPart' hl
  exact⟨_,rfl,h⟩
section
variable{X:Cx}
noncomputable def zdh(K:W.Frag):R2:=fun x y H Q=> ∃a k xs,x= .ref a/\y= .int k/\SqT K H a xs/\0<xs.length/\2<=k/\k<2^63/\xs.length*k.toNat<=sizeLine/\
 ∀p,H p=none->Q (.ref p) (upd H p (.tup (List.replicate k.toNat xs).flatten))
theorem zdi:OpR X (binaryOp .Mult) (zdh X.K):=by
 intro pins s σ H x y v u Q I rx ry h
 obtain⟨a,k,xs,rfl,rfl,ha,h0,h1,h2,hz,q⟩:=h
 cases rx
 obtain⟨t,rfl⟩:=ry
 obtain⟨its,r,p1,_⟩:=I.tuple ha
 obtain⟨⟨cls,dd,data,sl⟩,e,hc,n,hd⟩:=id p1
 simp only at hc hd
 subst hc hd
 have hlen:its.length=xs.length:=r.length.symm
 have hne:its.toArray.isEmpty=false:=by
  cases its with
  |nil=>simp at hlen;lia
  |cons a r=>simp
 have hnew:List.foldl (fun x1 x2=>x1++x2) #[] (List.replicate k.toNat its.toArray)=(List.replicate k.toNat its).flatten.toArray:=by
  have:=z4t its k.toNat []
  rw[List.nil_append] at this
  exact this
 have hl2:((its.toArray.size:Nat):Int)*k=((xs.length*k.toNat:Nat):Int):=by
  rw[List.size_toArray,hlen,Int.natCast_mul,Int.toNat_of_nonneg (by lia)]
 have hs:(sizeLine:Nat)=16777216:=rfl
 refine wpAny_binaryOp_repeat_ref (T:= "tuple") (U:= "int") (by decide) ⟨_,e,rfl⟩ (fun s'=>typeIs_int s' k t) z4d F.fills_int_mul F.slot_int_rmul z6G F.slot_int_index.lookup
  (call_meets F.slot_int_rmul (typeIs_int s k t) F.entry_int_rmul (F.args_int_rmul_2 _ _) (z4Z k t a its.toArray n dd sl)
   ⟨e,rfl,⟨_,e,rfl⟩,call_meets F.slot_tuple_mul ⟨_,e,rfl⟩ F.entry_tuple_mul (F.args_tuple_mul_2 _ _) (z8w a its.toArray n dd sl k t (by simp;lia) (by rw[hne];simp;lia) (by rw[hne];simp;lia) (by rw[hl2];clear hl2;generalize xs.length*k.toNat=m at hz⊢;lia) (by rw[hl2];clear hl2;generalize xs.length*k.toNat=m at hz⊢;unfold Builtin.Tuple.tupleTooMany;rw[decide_eq_true_eq];lia) (by rw[hnew,List.size_toArray,z7d,hlen,Nat.mul_comm];exact hz)) ⟨e, ?_⟩⟩)
 rw[hnew]
 refine⟨.ref s.heap.objs.size,_,I.laid (t':=s.toks) (o:= .tup (List.replicate k.toNat xs).flatten) (fun b ob q=>Heap.get?_push_of_some _ q) (Nat.le_refl _) ?_,rfl,q _ (I.hok.fresh (Nat.le_refl _))⟩
 exact⟨by rw[z7d,Nat.mul_comm];exact hz,_,r.rep k.toNat,IsTup.new _ _⟩
end
end L2
namespace Mi
open PySem L2
inductive D where
 |non|bool (b:Bool)|int (i:Int)|str (x:Str)
 |tup (ds:List D)|ro (ds:List D)|lst (l:Nat) (ds:List D)
 |dct (l:Nat) (ks vs:List D)|obj (l:Nat) (c:Str) (ns:List Str) (vs:List D)
 |exc (c:Str)|fn (c:Str)|fdc (ks vs:List D)
deriving Inhabited
mutual
noncomputable def labs:D->List Nat
 | .tup ds=>labsL ds
 | .ro ds=>labsL ds
 | .fdc _ vs=>labsL vs
 | .lst l ds=>l::labsL ds
 | .dct l ks vs=>l::(labsL ks++labsL vs)
 | .obj l _ _ vs=>l::labsL vs
 | .non=>[]| .bool _=>[]| .int _=>[]| .str _=>[]| .exc _=>[]| .fn _=>[]
noncomputable def labsL:List D->List Nat
 |[]=>[]
 |d::ds=>labs d++labsL ds
end
noncomputable def z07:List (Option D)->List Nat
 |[]=>[]
 |none::r=>z07 r
 |some d::r=>labs d++z07 r
structure Gx where
 K:W.Frag
 cl:Str->Option Addr
 ci: ∀c c' a,cl c=some a->cl c'=some a->c=c'
 ck: ∀c a,cl c=some a->∃o,K.lookup a=some o/\∀its n,o.data≠ .seq its n
noncomputable def keyD:Key->D
 | .inl i=> .int i
 | .inr x=> .str x
noncomputable def nkD:Key⊕List Key->D
 | .inl k=>keyD k
 | .inr ks=> .tup (ks.map keyD)
noncomputable def dkD(k:NK):D:= .tup (k.map nkD)
noncomputable def RoL(K:W.Frag)(H:Hp)(a:Addr)(xs:List V):Prop:=
 (∃o,H a=some (.frz o (.lst xs)))\/∃(o:Obj) (its:Array Value) (n:Nat),K.lookup a=some o/\o.cls= .type "list" /\o.dict=none/\o.data= .seq its n/\its.size<=sizeLine/\Vals xs its.toList
theorem RoL.sq{K:W.Frag}{H:Hp}{a:Addr}{xs:List V}(h:RoL K H a xs):SqL K H a xs:=by
 rcases h with⟨o,h⟩|h
 ·exact .inl (.inr ⟨o,h⟩)
 ·exact .inr h
mutual
noncomputable def RD(G:Gx)(ρ:Nat->Addr)(H:Hp):D->V->Prop
 | .non,v=>v= .non
 | .bool b,v=>v= .bl b
 | .int i,v=>v= .int i
 | .str x,v=>v= .str x
 | .exc c,v=> ∃a o C,v= .ref a/\G.cl c=some C/\o.cls= .ref C/\(∃vs,o.data= .fields vs)/\H a=some (.frz o (.ext fun _=>True))
 | .fn c,v=> ∃a,v= .ref a/\G.cl c=some a
 | .tup ds,v=> ∃a xs,v= .ref a/\H a=some (.tup xs)/\RDs G ρ H ds xs
 | .ro ds,v=> ∃a xs,v= .ref a/\RoL G.K H a xs/\RDs G ρ H ds xs
 | .fdc ks vs,v=> ∃(a:Addr) (o:Obj) (kvs:List (NK×V)),v= .ref a/\H a=some (.frz o (.dT kvs))/\ks=kvs.map (fun p=>dkD p.1)/\RDs G ρ H vs (kvs.map (·.2))
 | .lst l ds,v=>v= .ref (ρ l)/\∃xs,H (ρ l)=some (.lst xs)/\RDs G ρ H ds xs
 | .dct l ks vs,v=>v= .ref (ρ l)/\((∃kvs:List (Key×V),H (ρ l)=some (.dK kvs)/\ks=D.non::kvs.map (fun p=>keyD p.1)/\RDs G ρ H vs (kvs.map (·.2)))\/
  (∃kvs:List (NK×V),H (ρ l)=some (.dT kvs)/\ks=kvs.map (fun p=>dkD p.1)/\RDs G ρ H vs (kvs.map (·.2))))
 | .obj l c ns vs,v=>v= .ref (ρ l)/\∃C dx fs,G.cl c=some C/\H (ρ l)=some (.ins C dx fs)/\ns=fs.map (·.1)/\RDs G ρ H vs (fs.map (·.2))
noncomputable def RDs(G:Gx)(ρ:Nat->Addr)(H:Hp):List D->List V->Prop
 |[],xs=>xs=[]
 |d::ds,xs=> ∃x r,xs=x::r/\RD G ρ H d x/\RDs G ρ H ds r
end
structure z1t(H H':Hp):Prop where
 t: ∀b xs,H b=some (.tup xs)->H' b=some (.tup xs)
 f: ∀b o u,H b=some (.frz o u)->H' b=some (.frz o u)
theorem z1t.refl(H:Hp):z1t H H:=⟨fun _ _ h=>h,fun _ _ _ h=>h⟩
theorem z1t.of{H H':Hp}(h:Same H H'):z1t H H':=⟨fun _ _ e=>h _ _ e,fun _ _ _ e=>h _ _ e⟩
theorem z1t.ro{K:W.Frag}{H H':Hp}(t:z1t H H'){a:Addr}{xs:List V}(h:RoL K H a xs):RoL K H' a xs:=by
 rcases h with⟨o,h⟩|h
 ·exact .inl ⟨o,t.f _ _ _ h⟩
 ·exact .inr h
section
variable{G:Gx}{ρ ρ':Nat->Addr}{H H':Hp}
mutual
theorem RD.stay(ts:z1t H H'): ∀(t:D) (v:V),RD G ρ H t v->(∀l∈labs t,ρ' l=ρ l/\∀o,H (ρ l)=some o->H' (ρ l)=some o)->RD G ρ' H' t v
 | .non,v,h,_=>by simp only[RD] at h⊢;exact h
 | .bool b,v,h,_=>by simp only[RD] at h⊢;exact h
 | .int b,v,h,_=>by simp only[RD] at h⊢;exact h
 | .str b,v,h,_=>by simp only[RD] at h⊢;exact h
 | .exc b,v,h,_=>by
  simp only[RD] at h⊢
  obtain⟨a,o,C,e,h1,h2,h3,h5⟩:=h
  exact⟨a,o,C,e,h1,h2,h3,ts.f _ _ _ h5⟩
 | .fn b,v,h,_=>by simp only[RD] at h⊢;exact h
 | .tup ds,v,h,hl=>by
  simp only[RD,labs] at h hl⊢
  obtain⟨a,xs,e,s,r⟩:=h
  exact⟨a,xs,e,ts.t _ _ s,RDs.stay ts ds xs r hl⟩
 | .ro ds,v,h,hl=>by
  simp only[RD,labs] at h hl⊢
  obtain⟨a,xs,e,s,r⟩:=h
  exact⟨a,xs,e,ts.ro s,RDs.stay ts ds xs r hl⟩
 | .fdc ks vs,v,h,hl=>by
  simp only[RD,labs] at h hl⊢
  obtain⟨a,o,kvs,e,s,s2,r⟩:=h
  exact⟨a,o,kvs,e,ts.f _ _ _ s,s2,RDs.stay ts vs _ r hl⟩
 | .lst l ds,v,h,hl=>by
  simp only[RD,labs] at h hl⊢
  obtain⟨e,xs,s,r⟩:=h
  obtain⟨e1,e2⟩:=hl l (List.mem_cons_self ..)
  rw[e1]
  exact⟨e,xs,e2 _ s,RDs.stay ts ds xs r fun k hk=>hl k (List.mem_cons_of_mem _ hk)⟩
 | .dct l ks vs,v,h,hl=>by
  simp only[RD,labs] at h hl⊢
  obtain⟨e,s⟩:=h
  obtain⟨e1,e2⟩:=hl l (List.mem_cons_self ..)
  rw[e1]
  refine⟨e, ?_⟩
  rcases s with⟨kvs,s,s2,r⟩|⟨kvs,s,s2,r⟩
  ·exact .inl ⟨kvs,e2 _ s,s2,RDs.stay ts vs _ r fun k hk=>hl k (List.mem_cons_of_mem _ (List.mem_append_right _ hk))⟩
  ·exact .inr ⟨kvs,e2 _ s,s2,RDs.stay ts vs _ r fun k hk=>hl k (List.mem_cons_of_mem _ (List.mem_append_right _ hk))⟩
 | .obj l c ns vs,v,h,hl=>by
  simp only[RD,labs] at h hl⊢
  obtain⟨e,C,dx,fs,hC,s,s2,r⟩:=h
  obtain⟨e1,e2⟩:=hl l (List.mem_cons_self ..)
  rw[e1]
  exact⟨e,C,dx,fs,hC,e2 _ s,s2,RDs.stay ts vs _ r fun k hk=>hl k (List.mem_cons_of_mem _ hk)⟩
theorem RDs.stay(ts:z1t H H'): ∀(t:List D) (v:List V),RDs G ρ H t v->(∀l∈labsL t,ρ' l=ρ l/\∀o,H (ρ l)=some o->H' (ρ l)=some o)->RDs G ρ' H' t v
 |[],v,h,_=>by simp only[RDs] at h⊢;exact h
 |d::ds,v,h,hl=>by
  simp only[RDs,labsL] at h hl⊢
  obtain⟨x,r,e,h1,h2⟩:=h
  exact⟨x,r,e,RD.stay ts d x h1 fun l hk=>hl l (List.mem_append_left _ hk),RDs.stay ts ds r h2 fun l hk=>hl l (List.mem_append_right _ hk)⟩
end
end
mutual
noncomputable def rp(f:Nat->Option D):D->D
 | .tup ds=> .tup (rpL f ds)
 | .ro ds=> .ro (rpL f ds)
 | .fdc ks vs=> .fdc ks (rpL f vs)
 | .lst l ds=>match f l with|some d=>d|none=> .lst l (rpL f ds)
 | .dct l ks vs=>match f l with|some d=>d|none=> .dct l ks (rpL f vs)
 | .obj l c ns vs=>match f l with|some d=>d|none=> .obj l c ns (rpL f vs)
 | .non=> .non| .bool b=> .bool b| .int i=> .int i| .str x=> .str x| .exc x=> .exc x| .fn x=> .fn x
noncomputable def rpL(f:Nat->Option D):List D->List D
 |[]=>[]
 |d::ds=>rp f d::rpL f ds
end
noncomputable def rpO(f:Nat->Option D):List (Option D)->List (Option D)
 |[]=>[]
 |none::r=>none::rpO f r
 |some d::r=>some (rp f d)::rpO f r
section
variable{f:Nat->Option D}
mutual
theorem zdj: ∀t:D,(∀l∈labs t,f l=none)->rp f t=t
 | .non,_=>rfl
 | .bool b,_=>rfl
 | .int b,_=>rfl
 | .str b,_=>rfl
 | .exc b,_=>rfl
 | .fn b,_=>rfl
 | .tup ds,h=>by simp only[rp,labs] at h⊢;rw[rpL_id ds h]
 | .ro ds,h=>by simp only[rp,labs] at h⊢;rw[rpL_id ds h]
 | .fdc ks vs,h=>by simp only[rp,labs] at h⊢;rw[rpL_id vs h]
 | .lst l ds,h=>by
  simp only[rp,labs] at h⊢
  rw[h l (List.mem_cons_self ..),rpL_id ds fun k hk=>h k (List.mem_cons_of_mem _ hk)]
 | .dct l ks vs,h=>by
  simp only[rp,labs] at h⊢
  rw[h l (List.mem_cons_self ..),rpL_id vs fun k hk=>h k (List.mem_cons_of_mem _ (List.mem_append_right _ hk))]
 | .obj l c ns vs,h=>by
  simp only[rp,labs] at h⊢
  rw[h l (List.mem_cons_self ..),rpL_id vs fun k hk=>h k (List.mem_cons_of_mem _ hk)]
theorem rpL_id: ∀t:List D,(∀l∈labsL t,f l=none)->rpL f t=t
 |[],_=>rfl
 |d::ds,h=>by
  simp only[rpL,labsL] at h⊢
  rw[zdj d fun l hk=>h l (List.mem_append_left _ hk),rpL_id ds fun l hk=>h l (List.mem_append_right _ hk)]
end
theorem z9h: ∀t:List (Option D),(∀l∈z07 t,f l=none)->rpO f t=t
 |[],_=>rfl
 |none::r,h=>by simp only[rpO,z07] at h⊢;rw[z9h r h]
 |some d::r,h=>by
  simp only[rpO,z07] at h⊢
  rw[zdj d fun l hk=>h l (List.mem_append_left _ hk),z9h r fun l hk=>h l (List.mem_append_right _ hk)]
end
section
variable{G:Gx}{ρ ρ':Nat->Addr}{H H':Hp}{f:Nat->Option D}
mutual
theorem RD.rp(ts:z1t H H'): ∀(t:D) (v:V),RD G ρ H t v->(∀l∈labs t,ρ' l=ρ l/\(match f l with|some d=>RD G ρ' H' d (.ref (ρ l))|none=> ∀o,H (ρ l)=some o->H' (ρ l)=some o))->RD G ρ' H' (rp f t) v
 | .non,v,h,_=>by simp only[Mi.rp,RD] at h⊢;exact h
 | .bool b,v,h,_=>by simp only[Mi.rp,RD] at h⊢;exact h
 | .int b,v,h,_=>by simp only[Mi.rp,RD] at h⊢;exact h
 | .str b,v,h,_=>by simp only[Mi.rp,RD] at h⊢;exact h
 | .exc b,v,h,_=>by
  simp only[Mi.rp,RD] at h⊢
  obtain⟨a,o,C,e,h1,h2,h3,h5⟩:=h
  exact⟨a,o,C,e,h1,h2,h3,ts.f _ _ _ h5⟩
 | .fn b,v,h,_=>by simp only[Mi.rp,RD] at h⊢;exact h
 | .tup ds,v,h,hl=>by
  simp only[Mi.rp,RD,labs] at h hl⊢
  obtain⟨a,xs,e,s,r⟩:=h
  exact⟨a,xs,e,ts.t _ _ s,RDs.rp ts ds xs r hl⟩
 | .ro ds,v,h,hl=>by
  simp only[Mi.rp,RD,labs] at h hl⊢
  obtain⟨a,xs,e,s,r⟩:=h
  exact⟨a,xs,e,ts.ro s,RDs.rp ts ds xs r hl⟩
 | .fdc ks vs,v,h,hl=>by
  simp only[Mi.rp,RD,labs] at h hl⊢
  obtain⟨a,o,kvs,e,s,s2,r⟩:=h
  exact⟨a,o,kvs,e,ts.f _ _ _ s,s2,RDs.rp ts vs _ r hl⟩
 | .lst l ds,v,h,hl=>by
  simp only[Mi.rp,RD,labs] at h hl⊢
  obtain⟨e,xs,s,r⟩:=h
  obtain⟨e1,e2⟩:=hl l (List.mem_cons_self ..)
  cases ef:f l with
  |some d=>rw[ef] at e2;subst e;exact e2
  |none=>
   rw[ef] at e2
   simp only[RD]
   rw[e1]
   exact⟨e,xs,e2 _ s,RDs.rp ts ds xs r fun k hk=>hl k (List.mem_cons_of_mem _ hk)⟩
 | .dct l ks vs,v,h,hl=>by
  simp only[Mi.rp,RD,labs] at h hl⊢
  obtain⟨e,s⟩:=h
  obtain⟨e1,e2⟩:=hl l (List.mem_cons_self ..)
  cases ef:f l with
  |some d=>rw[ef] at e2;subst e;exact e2
  |none=>
   rw[ef] at e2
   simp only[RD]
   rw[e1]
   refine⟨e, ?_⟩
   rcases s with⟨kvs,s,s2,r⟩|⟨kvs,s,s2,r⟩
   ·exact .inl ⟨kvs,e2 _ s,s2,RDs.rp ts vs _ r fun k hk=>hl k (List.mem_cons_of_mem _ (List.mem_append_right _ hk))⟩
   ·exact .inr ⟨kvs,e2 _ s,s2,RDs.rp ts vs _ r fun k hk=>hl k (List.mem_cons_of_mem _ (List.mem_append_right _ hk))⟩
 | .obj l c ns vs,v,h,hl=>by
  simp only[Mi.rp,RD,labs] at h hl⊢
  obtain⟨e,C,dx,fs,hC,s,s2,r⟩:=h
  obtain⟨e1,e2⟩:=hl l (List.mem_cons_self ..)
  cases ef:f l with
  |some d=>rw[ef] at e2;subst e;exact e2
  |none=>
   rw[ef] at e2
   simp only[RD]
   rw[e1]
   exact⟨e,C,dx,fs,hC,e2 _ s,s2,RDs.rp ts vs _ r fun k hk=>hl k (List.mem_cons_of_mem _ hk)⟩
theorem RDs.rp(ts:z1t H H'): ∀(t:List D) (v:List V),RDs G ρ H t v->(∀l∈labsL t,ρ' l=ρ l/\(match f l with|some d=>RD G ρ' H' d (.ref (ρ l))|none=> ∀o,H (ρ l)=some o->H' (ρ l)=some o))->RDs G ρ' H' (rpL f t) v
 |[],v,h,_=>by simp only[rpL,RDs] at h⊢;exact h
 |d::ds,v,h,hl=>by
  simp only[rpL,RDs,labsL] at h hl⊢
  obtain⟨x,r,e,h1,h2⟩:=h
  exact⟨x,r,e,RD.rp ts d x h1 fun l hk=>hl l (List.mem_append_left _ hk),RDs.rp ts ds r h2 fun l hk=>hl l (List.mem_append_right _ hk)⟩
end
end
section
variable{f:Nat->Option D}
mutual
theorem z9i(l:Nat): ∀t:D,l∈labs (rp f t)->l∈labs t\/∃k d,k∈labs t/\f k=some d/\l∈labs d
 | .non,h=>by simp only[rp,labs] at h;cases h
 | .bool b,h=>by simp only[rp,labs] at h;cases h
 | .int b,h=>by simp only[rp,labs] at h;cases h
 | .str b,h=>by simp only[rp,labs] at h;cases h
 | .exc b,h=>by simp only[rp,labs] at h;cases h
 | .fn b,h=>by simp only[rp,labs] at h;cases h
 | .tup ds,h=>by
  simp only[rp,labs] at h⊢
  exact labsL_rp l ds h
 | .ro ds,h=>by
  simp only[rp,labs] at h⊢
  exact labsL_rp l ds h
 | .fdc ks vs,h=>by
  simp only[rp,labs] at h⊢
  exact labsL_rp l vs h
 | .lst k ds,h=>by
  simp only[rp] at h
  cases e:f k with
  |some d=>rw[e] at h;exact .inr ⟨k,d,by simp only[labs];exact List.mem_cons_self ..,e,h⟩
  |none=>
   rw[e] at h
   simp only[labs] at h⊢
   rcases List.mem_cons.mp h with h|h
   ·exact .inl (List.mem_cons.mpr (.inl h))
   ·rcases labsL_rp l ds h with q|⟨k',d,q1,q2,q3⟩
    ·exact .inl (List.mem_cons_of_mem _ q)
    ·exact .inr ⟨k',d,List.mem_cons_of_mem _ q1,q2,q3⟩
 | .dct k ks vs,h=>by
  simp only[rp] at h
  cases e:f k with
  |some d=>rw[e] at h;exact .inr ⟨k,d,by simp only[labs];exact List.mem_cons_self ..,e,h⟩
  |none=>
   rw[e] at h
   simp only[labs] at h⊢
   rcases List.mem_cons.mp h with h|h
   ·exact .inl (List.mem_cons.mpr (.inl h))
   ·rcases List.mem_append.mp h with h|h
    ·exact .inl (List.mem_cons_of_mem _ (List.mem_append_left _ h))
    ·rcases labsL_rp l vs h with q|⟨k',d,q1,q2,q3⟩
     ·exact .inl (List.mem_cons_of_mem _ (List.mem_append_right _ q))
     ·exact .inr ⟨k',d,List.mem_cons_of_mem _ (List.mem_append_right _ q1),q2,q3⟩
 | .obj k c ns vs,h=>by
  simp only[rp] at h
  cases e:f k with
  |some d=>rw[e] at h;exact .inr ⟨k,d,by simp only[labs];exact List.mem_cons_self ..,e,h⟩
  |none=>
   rw[e] at h
   simp only[labs] at h⊢
   rcases List.mem_cons.mp h with h|h
   ·exact .inl (List.mem_cons.mpr (.inl h))
   ·rcases labsL_rp l vs h with q|⟨k',d,q1,q2,q3⟩
    ·exact .inl (List.mem_cons_of_mem _ q)
    ·exact .inr ⟨k',d,List.mem_cons_of_mem _ q1,q2,q3⟩
theorem labsL_rp(l:Nat): ∀t:List D,l∈labsL (rpL f t)->l∈labsL t\/∃k d,k∈labsL t/\f k=some d/\l∈labs d
 |[],h=>by simp only[rpL,labsL] at h;cases h
 |d::ds,h=>by
  simp only[rpL,labsL] at h⊢
  rcases List.mem_append.mp h with h|h
  ·rcases z9i l d h with q|⟨k',d,q1,q2,q3⟩
   ·exact .inl (List.mem_append_left _ q)
   ·exact .inr ⟨k',d,List.mem_append_left _ q1,q2,q3⟩
  ·rcases labsL_rp l ds h with q|⟨k',d,q1,q2,q3⟩
   ·exact .inl (List.mem_append_right _ q)
   ·exact .inr ⟨k',d,List.mem_append_right _ q1,q2,q3⟩
end
theorem z4m(l:Nat): ∀t:List (Option D),l∈z07 (rpO f t)->l∈z07 t\/∃k d,k∈z07 t/\f k=some d/\l∈labs d
 |[],h=>by simp only[rpO,z07] at h;cases h
 |none::r,h=>by simp only[rpO,z07] at h⊢;exact z4m l r h
 |some d::ds,h=>by
  simp only[rpO,z07] at h⊢
  rcases List.mem_append.mp h with h|h
  ·rcases z9i l d h with q|⟨k',d,q1,q2,q3⟩
   ·exact .inl (List.mem_append_left _ q)
   ·exact .inr ⟨k',d,List.mem_append_left _ q1,q2,q3⟩
  ·rcases z4m l ds h with q|⟨k',d,q1,q2,q3⟩
   ·exact .inl (List.mem_append_right _ q)
   ·exact .inr ⟨k',d,List.mem_append_right _ q1,q2,q3⟩
end
structure Stt where
 σ:List (Option D)
 tm:List (Option D)
 n:Nat
structure Fx where
 A0:Addr->Prop
 H0:Hp
 Z:Addr->Prop
 zA: ∀a,Z a->(∃o,H0 a=some o)/\¬A0 a
 aH: ∀a,A0 a->∃o,H0 a=some o
 n0:Nat
 ρ0:Nat->Addr
noncomputable def KD(K:W.Frag)(H:Hp):Prop:= ∀a o,K.lookup a=some o->H a=none
section
variable(G:Gx)(ρ:Nat->Addr)(H:Hp)
noncomputable def Sl:List (Option D)->List (Option V)->Prop
 |[],vs=>vs=[]
 |none::r,vs=> ∃o q,vs=o::q/\Sl r q
 |some d::r,vs=> ∃v q,vs=some v::q/\RD G ρ H d v/\Sl r q
end
noncomputable def z0Q(s:Stt):List Nat:=z07 s.σ++z07 s.tm
structure MR(G:Gx)(F:Fx)(ρ:Nat->Addr)(H:Hp)(σv tv:List (Option V))(s:Stt):Prop where
 sl:Sl G ρ H s.σ σv
 tm:Sl G ρ H s.tm tv
 inj: ∀i j,i<s.n->j<s.n->ρ i=ρ j->i=j
 dom: ∀l,l<s.n->∃o,H (ρ l)=some o
 lab: ∀l∈z0Q s,l<s.n
 own: ∀l∈z0Q s,F.A0 (ρ l)\/F.H0 (ρ l)=none
 frm: ∀a o,F.H0 a=some o->(∃o',H a=some o')/\(¬F.A0 a->H a=some o)
 kd:KD G.K H
 frb: ∀l,l<s.n->¬F.Z (ρ l)
 bas:F.n0<=s.n/\∀l,l<F.n0->ρ l=F.ρ0 l
noncomputable def Stt.psh(s:Stt)(t:D):Stt:={s with tm:=some t::s.tm}
noncomputable def Stt.nxt(s:Stt):Stt:={s with n:=s.n+1}
section
variable{G:Gx}{F:Fx}{ρ ρ':Nat->Addr}{H H':Hp}{σv tv:List (Option V)}{s:Stt}{t:D}{v:V}
theorem Sl.stay(ts:z1t H H'): ∀{σ:List (Option D)} {σv:List (Option V)},Sl G ρ H σ σv->(∀l∈z07 σ,ρ' l=ρ l/\∀o,H (ρ l)=some o->H' (ρ l)=some o)->Sl G ρ' H' σ σv
 |[],_,h,_=>h
 |none::r,_,h,hl=>by
  simp only[Sl,z07] at h hl⊢
  obtain⟨o,q,e,h⟩:=h
  exact⟨o,q,e,Sl.stay ts h hl⟩
 |some d::r,_,h,hl=>by
  simp only[Sl,z07] at h hl⊢
  obtain⟨o,q,e,h1,h⟩:=h
  exact⟨o,q,e,RD.stay ts d o h1 fun l hk=>hl l (List.mem_append_left _ hk),Sl.stay ts h fun l hk=>hl l (List.mem_append_right _ hk)⟩
theorem Sl.rp{f:Nat->Option D}(ts:z1t H H'): ∀{σ:List (Option D)} {σv:List (Option V)},Sl G ρ H σ σv->
 (∀l∈z07 σ,ρ' l=ρ l/\(match f l with|some d=>RD G ρ' H' d (.ref (ρ l))|none=> ∀o,H (ρ l)=some o->H' (ρ l)=some o))->Sl G ρ' H' (rpO f σ) σv
 |[],_,h,_=>h
 |none::r,_,h,hl=>by
  simp only[Sl,z07,rpO] at h hl⊢
  obtain⟨o,q,e,h⟩:=h
  exact⟨o,q,e,Sl.rp ts h hl⟩
 |some d::r,_,h,hl=>by
  simp only[Sl,z07,rpO] at h hl⊢
  obtain⟨o,q,e,h1,h⟩:=h
  exact⟨o,q,e,RD.rp ts d o h1 fun l hk=>hl l (List.mem_append_left _ hk),Sl.rp ts h fun l hk=>hl l (List.mem_append_right _ hk)⟩
theorem Sl.get: ∀{σ:List (Option D)} {σv:List (Option V)},Sl G ρ H σ σv->∀(i:Nat) (d:D),σ[i]? =some (some d)->∃v,σv[i]? =some (some v)/\RD G ρ H d v
 |[],_,_,i,d,e=>by simp at e
 |none::r,_,h,i,d,e=>by
  simp only[Sl] at h
  obtain⟨o,q,rfl,h⟩:=h
  cases i with
  |zero=>simp at e
  |succ i=>simpa using Sl.get h i d (by simpa using e)
 |some d'::r,_,h,i,d,e=>by
  simp only[Sl] at h
  obtain⟨v,q,rfl,h1,h⟩:=h
  cases i with
  |zero=>simp at e;subst e;exact⟨v,rfl,h1⟩
  |succ i=>simpa using Sl.get h i d (by simpa using e)
theorem Sl.length: ∀{σ:List (Option D)} {σv:List (Option V)},Sl G ρ H σ σv->σ.length=σv.length
 |[],_,h=>by simp only[Sl] at h;subst h;rfl
 |none::r,_,h=>by
  simp only[Sl] at h
  obtain⟨o,q,rfl,h⟩:=h
  simp[Sl.length h]
 |some d'::r,_,h=>by
  simp only[Sl] at h
  obtain⟨v,q,rfl,h1,h⟩:=h
  simp[Sl.length h]
theorem Sl.set: ∀{σ:List (Option D)} {σv:List (Option V)} (i:Nat),Sl G ρ H σ σv->RD G ρ H t v->Sl G ρ H (σ.set i (some t)) (σv.set i (some v))
 |[],_,i,h,_=>by simp only[Sl] at h;subst h;simp[Sl]
 |none::r,_,i,h,ht=>by
  simp only[Sl] at h
  obtain⟨o,q,rfl,h⟩:=h
  cases i with
  |zero=>simp only[List.set_cons_zero,Sl];exact⟨_,_,rfl,ht,h⟩
  |succ i=>simp only[List.set_cons_succ,Sl];exact⟨_,_,rfl,Sl.set i h ht⟩
 |some d'::r,_,i,h,ht=>by
  simp only[Sl] at h
  obtain⟨v',q,rfl,h1,h⟩:=h
  cases i with
  |zero=>simp only[List.set_cons_zero,Sl];exact⟨_,_,rfl,ht,h⟩
  |succ i=>simp only[List.set_cons_succ,Sl];exact⟨_,_,rfl,h1,Sl.set i h ht⟩
theorem Sl.append: ∀{σ σ':List (Option D)} {σv σv':List (Option V)},Sl G ρ H σ σv->Sl G ρ H σ' σv'->Sl G ρ H (σ++σ') (σv++σv')
 |[],_,_,_,h,h'=>by simp only[Sl] at h;subst h;exact h'
 |none::r,_,_,_,h,h'=>by
  simp only[Sl] at h
  obtain⟨o,q,rfl,h⟩:=h
  simp only[List.cons_append,Sl];exact⟨_,_,rfl,Sl.append h h'⟩
 |some d'::r,_,_,_,h,h'=>by
  simp only[Sl] at h
  obtain⟨v,q,rfl,h1,h⟩:=h
  simp only[List.cons_append,Sl];exact⟨_,_,rfl,h1,Sl.append h h'⟩
theorem Sl.split: ∀(σv:List (Option V)) {σ:List (Option D)} {tv:List (Option V)},Sl G ρ H σ (σv++tv)->Sl G ρ H (σ.take σv.length) σv/\Sl G ρ H (σ.drop σv.length) tv
 |[],σ,tv,h=>⟨by simp[Sl],by simpa using h⟩
 |o::σv,[],tv,h=>by simp[Sl] at h
 |o::σv,none::r,tv,h=>by
  simp only[List.cons_append,Sl] at h
  obtain⟨o',q,e,h⟩:=h
  cases e
  obtain⟨h1,h2⟩:=Sl.split σv h
  simp only[List.length_cons,List.take_succ_cons,List.drop_succ_cons,Sl]
  exact⟨⟨_,_,rfl,h1⟩,h2⟩
 |o::σv,some d::r,tv,h=>by
  simp only[List.cons_append,Sl] at h
  obtain⟨o',q,e,h0,h⟩:=h
  cases e
  obtain⟨h1,h2⟩:=Sl.split σv h
  simp only[List.length_cons,List.take_succ_cons,List.drop_succ_cons,Sl]
  exact⟨⟨_,_,rfl,h0,h1⟩,h2⟩
theorem z3t: ∀{σ:List (Option D)} {i:Nat} {d:D},σ[i]? =some (some d)->∀l∈labs d,l∈z07 σ
 |[],i,d,e,l,h=>by simp at e
 |none::r,i,d,e,l,h=>by
  simp only[z07]
  cases i with
  |zero=>simp at e
  |succ i=>exact z3t (i:=i) (by simpa using e) l h
 |some d'::r,i,d,e,l,h=>by
  simp only[z07]
  cases i with
  |zero=>simp at e;subst e;exact List.mem_append_left _ h
  |succ i=>exact List.mem_append_right _ (z3t (i:=i) (by simpa using e) l h)
theorem z4y: ∀{σ:List (Option D)} {i:Nat} {d:D} (l:Nat),l∈z07 (σ.set i (some d))->l∈z07 σ\/l∈labs d
 |[],i,d,l,h=>by simp[z07] at h
 |none::r,i,d,l,h=>by
  cases i with
  |zero=>
   simp only[List.set_cons_zero,z07] at h⊢
   rcases List.mem_append.mp h with h|h
   ·exact .inr h
   ·exact .inl h
  |succ i=>
   simp only[List.set_cons_succ,z07] at h⊢
   exact z4y l h
 |some d'::r,i,d,l,h=>by
  cases i with
  |zero=>
   simp only[List.set_cons_zero,z07] at h⊢
   rcases List.mem_append.mp h with h|h
   ·exact .inr h
   ·exact .inl (List.mem_append_right _ h)
  |succ i=>
   simp only[List.set_cons_succ,z07] at h⊢
   rcases List.mem_append.mp h with h|h
   ·exact .inl (List.mem_append_left _ h)
   ·rcases z4y l h with q|q
    ·exact .inl (List.mem_append_right _ q)
    ·exact .inr q
theorem z0f: ∀(σ σ':List (Option D)),z07 (σ++σ')=z07 σ++z07 σ'
 |[],_=>rfl
 |none::r,σ'=>by simp only[List.cons_append,z07,z0f r σ']
 |some d::r,σ'=>by simp only[List.cons_append,z07,z0f r σ',List.append_assoc]
theorem z1K: ∀(σ σ':List D),labsL (σ++σ')=labsL σ++labsL σ'
 |[],_=>rfl
 |d::r,σ'=>by simp only[List.cons_append,labsL,z1K r σ',List.append_assoc]
theorem labsL_mem: ∀{ds:List D} {d:D},d∈ds->∀l∈labs d,l∈labsL ds
 |_::ds,d,h,l,hl=>by
  simp only[labsL]
  rcases List.mem_cons.mp h with rfl|h
  ·exact List.mem_append_left _ hl
  ·exact List.mem_append_right _ (labsL_mem h l hl)
theorem z1u: ∀{ds:List D} {l:Nat},l∈labsL ds->∃d∈ds,l∈labs d
 |d::ds,l,h=>by
  simp only[labsL] at h
  rcases List.mem_append.mp h with h|h
  ·exact⟨d,List.mem_cons_self ..,h⟩
  ·obtain⟨x,h1,h2⟩:=z1u h
   exact⟨x,List.mem_cons_of_mem _ h1,h2⟩
theorem RDs.get: ∀{ds:List D} {xs:List V},RDs G ρ H ds xs->∀(i:Nat) (d:D),ds[i]? =some d->∃x,xs[i]? =some x/\RD G ρ H d x
 |[],_,_,i,d,e=>by simp at e
 |d'::r,_,h,i,d,e=>by
  simp only[RDs] at h
  obtain⟨x,q,rfl,h1,h2⟩:=h
  cases i with
  |zero=>simp at e;subst e;exact⟨x,rfl,h1⟩
  |succ i=>simpa using RDs.get h2 i d (by simpa using e)
theorem RDs.length: ∀{ds:List D} {xs:List V},RDs G ρ H ds xs->ds.length=xs.length
 |[],_,h=>by simp only[RDs] at h;subst h;rfl
 |d'::r,_,h=>by
  simp only[RDs] at h
  obtain⟨x,q,rfl,h1,h2⟩:=h
  simp[RDs.length h2]
theorem RDs.append: ∀{ds es:List D} {xs ys:List V},RDs G ρ H ds xs->RDs G ρ H es ys->RDs G ρ H (ds++es) (xs++ys)
 |[],_,_,_,h,h'=>by simp only[RDs] at h;subst h;exact h'
 |d'::r,_,_,_,h,h'=>by
  simp only[RDs] at h
  obtain⟨x,q,rfl,h1,h2⟩:=h
  simp only[List.cons_append,RDs]
  exact⟨_,_,rfl,h1,RDs.append h2 h'⟩
theorem RDs.one{d:D}{x:V}(h:RD G ρ H d x):RDs G ρ H [d] [x]:=by simp only[RDs];exact⟨_,_,rfl,h,rfl⟩
theorem RDs.take: ∀{ds:List D} {xs:List V} (k:Nat),RDs G ρ H ds xs->RDs G ρ H (ds.take k) (xs.take k)
 |_,_,0,_=>by simp[RDs]
 |[],_,k+1,h=>by simp only[RDs] at h;subst h;simp[RDs]
 |d'::r,_,k+1,h=>by
  simp only[RDs] at h
  obtain⟨x,q,rfl,h1,h2⟩:=h
  simp only[List.take_succ_cons,RDs]
  exact⟨_,_,rfl,h1,RDs.take k h2⟩
theorem RDs.drop: ∀{ds:List D} {xs:List V} (k:Nat),RDs G ρ H ds xs->RDs G ρ H (ds.drop k) (xs.drop k)
 |_,_,0,h=>h
 |[],_,k+1,h=>by simp only[RDs] at h;subst h;simp[RDs]
 |d'::r,_,k+1,h=>by
  simp only[RDs] at h
  obtain⟨x,q,rfl,h1,h2⟩:=h
  simp only[List.drop_succ_cons]
  exact RDs.drop k h2
theorem RDs.set: ∀{ds:List D} {xs:List V} (k:Nat),RDs G ρ H ds xs->RD G ρ H t v->RDs G ρ H (ds.set k t) (xs.set k v)
 |[],_,k,h,_=>by simp only[RDs] at h;subst h;simp[RDs]
 |d'::r,_,0,h,ht=>by
  simp only[RDs] at h
  obtain⟨x,q,rfl,h1,h2⟩:=h
  simp only[List.set_cons_zero,RDs];exact⟨_,_,rfl,ht,h2⟩
 |d'::r,_,k+1,h,ht=>by
  simp only[RDs] at h
  obtain⟨x,q,rfl,h1,h2⟩:=h
  simp only[List.set_cons_succ,RDs];exact⟨_,_,rfl,h1,RDs.set k h2 ht⟩
theorem MR.pop{o:Option V}{r:Option D}(M:MR G F ρ H σv (o::tv) {s with tm:=r::s.tm}):MR G F ρ H σv tv s where
 sl:=M.sl
 tm:=by
  have h:=M.tm
  cases r with
  |none=>simp only[Sl] at h;obtain⟨_,_,e,h⟩:=h;cases e;exact h
  |some t=>simp only[Sl] at h;obtain⟨_,_,e,_,h⟩:=h;cases e;exact h
 inj:=M.inj
 dom:=M.dom
 lab:=fun l h=>M.lab l (by
  rcases List.mem_append.mp h with h|h
  ·exact List.mem_append_left _ h
  ·refine List.mem_append_right _ ?_
   cases r with
   |none=>exact h
   |some t=>exact List.mem_append_right _ h)
 own:=fun l h=>M.own l (by
  rcases List.mem_append.mp h with h|h
  ·exact List.mem_append_left _ h
  ·refine List.mem_append_right _ ?_
   cases r with
   |none=>exact h
   |some t=>exact List.mem_append_right _ h)
 frm:=M.frm
 kd:=M.kd
 frb:=M.frb
 bas:=M.bas
theorem MR.top(M:MR G F ρ H σv (some v::tv) (s.psh t)):RD G ρ H t v:=by
 have h:=M.tm
 have h:Sl G ρ H (some t::s.tm) (some v::tv):=h
 simp only[Sl] at h
 obtain⟨_,_,e,h,_⟩:=h
 cases e
 exact h
theorem MR.topl(M:MR G F ρ H σv tv (s.psh t)): ∀l∈labs t,l<s.n/\(F.A0 (ρ l)\/F.H0 (ρ l)=none):=fun l h=>
 have m:l∈z0Q (s.psh t):=List.mem_append_right _ (List.mem_append_left _ h)
 ⟨M.lab l m,M.own l m⟩
theorem MR.same(M:MR G F ρ H σv tv s)(h:Same H H')(k:KD G.K H'):MR G F ρ H' σv tv s where
 sl:=Sl.stay (z1t.of h) M.sl fun l _=>⟨rfl,fun o e=>h _ _ e⟩
 tm:=Sl.stay (z1t.of h) M.tm fun l _=>⟨rfl,fun o e=>h _ _ e⟩
 inj:=M.inj
 dom:=fun l hl=>let⟨o,e⟩:=M.dom l hl;⟨o,h _ _ e⟩
 lab:=M.lab
 own:=M.own
 frm:=fun a o e=>let⟨⟨o',e1⟩,e2⟩:=M.frm a o e;⟨⟨o',h _ _ e1⟩,fun n=>h _ _ (e2 n)⟩
 kd:=k
 frb:=M.frb
 bas:=M.bas
theorem RDs.same{ts:List D}{vs:List V}(h:Same H H')(r:RDs G ρ H ts vs):RDs G ρ H' ts vs:=RDs.stay (z1t.of h) ts vs r fun l _=>⟨rfl,fun o e=>h _ _ e⟩
noncomputable def ext(ρ:Nat->Addr)(n:Nat)(p:Addr):Nat->Addr:=fun l=>if l=n then p else ρ l
theorem z0q{n l:Nat}{p:Addr}(h:l<n):ext ρ n p l=ρ l:=by unfold ext;rw[if_neg (by lia)]
theorem z0S{n:Nat}{p:Addr}:ext ρ n p n=p:=by unfold ext;rw[if_pos rfl]
theorem MR.new{p:Addr}{o:HO}(M:MR G F ρ H σv tv s)(hp:H p=none)(k:KD G.K (upd H p o)):MR G F (ext ρ s.n p) (upd H p o) σv tv s.nxt where
 sl:=Sl.stay (z1t.of (Same.new o hp)) M.sl fun l hl=>⟨z0q (M.lab l (List.mem_append_left _ hl)),fun o e=>Same.new _ hp _ _ e⟩
 tm:=Sl.stay (z1t.of (Same.new o hp)) M.tm fun l hl=>⟨z0q (M.lab l (List.mem_append_right _ hl)),fun o e=>Same.new _ hp _ _ e⟩
 inj:=fun i j hi hj e=>by
  have hi:i<s.n+1:=hi
  have hj:j<s.n+1:=hj
  have nn: ∀i,i<s.n->ρ i≠p:=fun i h e=>by
   obtain⟨o,q⟩:=M.dom i h
   rw[e,hp] at q;cases q
  by_cases h1:i=s.n
  ·by_cases h2:j=s.n
   ·lia
   ·rw[h1,z0S,z0q (by lia)] at e
    exact absurd e.symm (nn j (by lia))
  ·by_cases h2:j=s.n
   ·rw[h2,z0S,z0q (by lia)] at e
    exact absurd e (nn i (by lia))
   ·rw[z0q (by lia),z0q (by lia)] at e
    exact M.inj i j (by lia) (by lia) e
 dom:=fun l hl=>by
  have hl:l<s.n+1:=hl
  by_cases h1:l=s.n
  ·subst h1;rw[z0S];exact⟨o,z0i⟩
  ·rw[z0q (by lia)]
   obtain⟨o',e⟩:=M.dom l (by lia)
   exact⟨o',Same.new _ hp _ _ e⟩
 lab:=fun l h=>Nat.lt_succ_of_lt (M.lab l h)
 own:=fun l h=>by rw[z0q (M.lab l h)];exact M.own l h
 frm:=fun a o e=>let⟨⟨o',e1⟩,e2⟩:=M.frm a o e;⟨⟨o',Same.new _ hp _ _ e1⟩,fun n=>Same.new _ hp _ _ (e2 n)⟩
 kd:=k
 frb:=fun l hl=>by
  have hl:l<s.n+1:=hl
  by_cases h1:l=s.n
  ·subst h1;rw[z0S]
   intro z
   obtain⟨⟨o,e⟩,_⟩:=F.zA p z
   obtain⟨⟨o',e'⟩,_⟩:=M.frm p o e
   rw[hp] at e';cases e'
  ·rw[z0q (by lia)]
   exact M.frb l (by lia)
 bas:=⟨Nat.le_succ_of_le M.bas.1,fun l hl=>by rw[z0q (Nat.lt_of_lt_of_le hl M.bas.1)];exact M.bas.2 l hl⟩
theorem MR.fresh0{p:Addr}(M:MR G F ρ H σv tv s)(hp:H p=none):F.H0 p=none:=by
 cases q:F.H0 p with
 |none=>rfl
 |some o=>
  obtain⟨⟨o',e⟩,_⟩:=M.frm p o q
  rw[hp] at e;cases e
noncomputable def Stt.put(s:Stt)(l:Nat)(d:D):Stt:={s with σ:=rpO (fun k=>if k=l then some d else none) s.σ,tm:=rpO (fun k=>if k=l then some d else none) s.tm}
end
inductive Res(α:Type) where
 |ok (a:α) (s:Stt)|ex (d:D) (s:Stt)|no
noncomputable abbrev M(α:Type):=Stt->Res α
noncomputable def bd{α β:Type}(m:M α)(f:α->M β):M β:=fun s=>match m s with
 | .ok a s'=>f a s'
 | .ex d s'=> .ex d s'
 | .no=> .no
noncomputable def rt{α:Type}(a:α):M α:=fun s=> .ok a s
noncomputable def fl{α:Type}:M α:=fun _=> .no
noncomputable def psh(t:D):M Unit:=fun s=> .ok () (s.psh t)
noncomputable def pop:M D:=fun s=>match s.tm with
 |some t::r=> .ok t {s with tm:=r}
 |_=> .no
structure Fy extends Fx where
 tv0:List (Option V)
 xw:D->Stt->Prop
structure MRL(G:Gx)(F:Fx)(ρ:Nat->Addr)(H:Hp)(σv tv:List (Option V))(s:Stt)(ts:List D)(vs:List V):Prop where
 m:MR G F ρ H σv tv s
 rd:RDs G ρ H ts vs
 lb: ∀l∈labsL ts,l<s.n/\(F.A0 (ρ l)\/F.H0 (ρ l)=none)
section
variable{G:Gx}{F:Fy}{ρ ρ':Nat->Addr}{H H':Hp}{σv tv:List (Option V)}{s:Stt}{t t':D}{v u:V}{ts:List D}{vs:List V}{Q:VK}
theorem MRL.rd1(M:MRL G F.toFx ρ H σv tv s [t] [v]):RD G ρ H t v:=by
 have h:=M.rd
 simp only[RDs] at h
 obtain⟨_,_,e,h,_⟩:=h
 cases e;exact h
theorem MRL.rd2(M:MRL G F.toFx ρ H σv tv s [t,t'] [v,u]):RD G ρ H t v/\RD G ρ H t' u:=by
 have h:=M.rd
 simp only[RDs] at h
 obtain⟨_,_,e,h,_,_,e',h',_⟩:=h
 cases e;cases e';exact⟨h,h'⟩
theorem MRL.push(M:MRL G F.toFx ρ H σv tv s [t] [v]):MR G F.toFx ρ H σv (some v::tv) (s.psh t):=by
 have hl: ∀l∈labs t,l<s.n/\(F.A0 (ρ l)\/F.H0 (ρ l)=none):=fun l h=>M.lb l (by simp only[labsL,List.append_nil];exact h)
 refine⟨M.m.sl, ?_,M.m.inj,M.m.dom,fun l h=> ?_,fun l h=> ?_,M.m.frm,M.m.kd,M.m.frb,M.m.bas⟩
 ·show Sl G ρ H (some t::s.tm) _
  simp only[Sl]
  exact⟨v,tv,rfl,M.rd1,M.m.tm⟩
 ·have h:l∈z07 s.σ++(labs t++z07 s.tm):=h
  rcases List.mem_append.mp h with h|h
  ·exact M.m.lab l (List.mem_append_left _ h)
  ·rcases List.mem_append.mp h with h|h
   ·exact(hl l h).1
   ·exact M.m.lab l (List.mem_append_right _ h)
 ·have h:l∈z07 s.σ++(labs t++z07 s.tm):=h
  rcases List.mem_append.mp h with h|h
  ·exact M.m.own l (List.mem_append_left _ h)
  ·rcases List.mem_append.mp h with h|h
   ·exact(hl l h).2
   ·exact M.m.own l (List.mem_append_right _ h)
theorem MRL.down{s':Stt}{r:List (Option D)}(M:MRL G F.toFx ρ H σv (some v::tv) s' ts vs)(e:s'.tm=some t::r):MRL G F.toFx ρ H σv tv {s' with tm:=r} (t::ts) (v::vs):=by
 obtain⟨σ,tm,n⟩:=s'
 have e:tm=some t::r:=e
 subst e
 refine⟨MR.pop (s:=⟨σ,r,n⟩) M.m, ?_,fun l h=> ?_⟩
 ·simp only[RDs]
  exact⟨v,vs,rfl,MR.top (s:=⟨σ,r,n⟩) M.m,M.rd⟩
 ·simp only[labsL] at h
  rcases List.mem_append.mp h with h|h
  ·exact MR.topl (s:=⟨σ,r,n⟩) M.m l h
  ·exact M.lb l h
noncomputable def wM(G:Gx)(F:Fy)(σv tv:List (Option V))(r:Res D)(Q:VK):Prop:=match r with
 | .ok t s'=> ∀ρ' v H',MRL G F.toFx ρ' H' σv tv s' [t] [v]->Q v H'
 | .ex d s'=>F.xw d s'
 | .no=>False
noncomputable def wL(G:Gx)(F:Fy)(σv tv:List (Option V))(r:Res (List D))(Q:List V->Hp->Prop):Prop:=match r with
 | .ok ts s'=> ∀ρ' vs H',MRL G F.toFx ρ' H' σv tv s' ts vs->Q vs H'
 | .ex d s'=>F.xw d s'
 | .no=>False
noncomputable def wB(G:Gx)(F:Fy)(σv tv:List (Option V))(r:Res Bool)(Q:Bool->Hp->Prop):Prop:=match r with
 | .ok b s'=> ∀ρ' H',MR G F.toFx ρ' H' σv tv s'->Q b H'
 | .ex d s'=>F.xw d s'
 | .no=>False
noncomputable def tMv(G:Gx)(F:Fy)(m:M D)(σv tv:List (Option V))(H:Hp)(Q:VK):Prop:=F.tv0<:+tv/\∃ρ s,MR G F.toFx ρ H σv tv s/\wM G F σv tv (m s) Q
noncomputable def tLv(G:Gx)(F:Fy)(m:M (List D))(σv tv:List (Option V))(H:Hp)(Q:List V->Hp->Prop):Prop:=F.tv0<:+tv/\∃ρ s,MR G F.toFx ρ H σv tv s/\wL G F σv tv (m s) Q
noncomputable def tBv(G:Gx)(F:Fy)(m:M Bool)(σv tv:List (Option V))(H:Hp)(Q:Bool->Hp->Prop):Prop:=F.tv0<:+tv/\∃ρ s,MR G F.toFx ρ H σv tv s/\wB G F σv tv (m s) Q
noncomputable def tM(G:Gx)(F:Fy)(m:M D):TE:=fun σv H Q=> ∃tv,tMv G F m σv tv H Q
noncomputable def tML(G:Gx)(F:Fy)(m:M (List D)):TA:=fun σv H Q=> ∃tv,tLv G F m σv tv H Q
noncomputable def tMB(G:Gx)(F:Fy)(m:M Bool):TT:=fun σv H Q=> ∃tv,tBv G F m σv tv H Q
noncomputable def SE(X:Cx)(G:Gx)(F:Fy)(e:Expr)(m:M D):Prop:=PE X e (tM G F m)
noncomputable def SA(X:Cx)(G:Gx)(F:Fy)(es:List Expr)(m:M (List D)):Prop:=PA X es (tML G F m)
noncomputable def SB(X:Cx)(G:Gx)(F:Fy)(e:Expr)(m:M Bool):Prop:=PT X e (tMB G F m)
theorem suf1{o:Option V}(h:F.tv0<:+tv):F.tv0<:+o::tv:=h.trans (List.suffix_cons _ _)
theorem z4e{m:M D}{f:D->M D}(h:tMv G F (bd m f) σv tv H Q):tMv G F m σv tv H (fun v H1=> ∃ρ1 s1 t,MRL G F.toFx ρ1 H1 σv tv s1 [t] [v]/\wM G F σv tv (f t s1) Q):=by
 obtain⟨hs,ρ,s,M,W⟩:=h
 refine⟨hs,ρ,s,M, ?_⟩
 unfold bd at W
 cases e:m s with
 |ok t s1=>rw[e] at W;exact fun ρ1 v H1 M1=>⟨ρ1,s1,t,M1,W⟩
 |ex d s1=>rw[e] at W;exact W
 |no=>rw[e] at W;exact W
noncomputable def mBin(ma mb:M D)(g:D->D->M D):M D:=bd ma fun x=>bd (psh x) fun _=>bd mb fun y=>bd pop fun x'=>g x' y
theorem z6H{ma mb:M D}{g:D->D->M D}(h:tMv G F (mBin ma mb g) σv tv H Q):
 tMv G F ma σv tv H (fun v H1=>tMv G F mb σv (some v::tv) H1 (fun u H2=> ∃ρ2 s2 t t',MRL G F.toFx ρ2 H2 σv tv s2 [t,t'] [v,u]/\wM G F σv tv (g t t' s2) Q)):=by
 have h':=z4e h
 obtain⟨hs,ρ,s,M,W⟩:=h'
 refine⟨hs,ρ,s,M, ?_⟩
 cases e:ma s with
 |ok t s1=>
  rw[e] at W
  intro ρ1 v H1 M1
  obtain⟨ρ1,s1,t,M1,W⟩:=W ρ1 v H1 M1
  refine⟨suf1 hs,ρ1,s1.psh t,M1.push, ?_⟩
  simp only[bd,psh] at W
  cases e2:mb (s1.psh t) with
  |ok y s2=>
   rw[e2] at W
   intro ρ2 u H2 M2
   simp only[pop] at W
   cases e3:s2.tm with
   |nil=>rw[e3] at W;exact W.elim
   |cons o r=>
    cases o with
    |none=>rw[e3] at W;exact W.elim
    |some t'=>
     rw[e3] at W
     exact⟨ρ2,{s2 with tm:=r},t',y,M2.down e3,W⟩
  |ex d s2=>rw[e2] at W;exact W
  |no=>rw[e2] at W;exact W
 |ex d s1=>rw[e] at W;exact W
 |no=>rw[e] at W;exact W
noncomputable def mArgs:List (M D)->M (List D)
 |[]=>rt []
 |m::ms=>bd m fun x=>bd (psh x) fun _=>bd (mArgs ms) fun ys=>bd pop fun x'=>rt (x'::ys)
end
section
variable{X:Cx}{G:Gx}{F:Fy}{e a b c:Expr}{pos:Pos}
theorem Inv.kd{pins:List (Addr×Obj)}{σ:St}{H:Hp}{s:Shared}(I:Inv X pins σ H s):KD X.K H:=fun a o e=>(I.bs a o (I.ok.mod.kin a o e)).2
theorem PE.imp{t t':TE}(hk:X.K=G.K)(h:PE X e t)(hi: ∀σ H Q,t' σ H Q->t σ H (fun v H'=>KD G.K H'->Q v H')):PE X e t':=fun pins s σ H Q I q=>
 thn (h pins s σ H _ I (hi σ H Q q)) fun u s' ⟨v,H',I',r,k⟩=>⟨v,H',I',r,k (hk▸Inv.kd I')⟩
theorem PT.imp{t t':TT}(hk:X.K=G.K)(h:PT X e t)(hi: ∀σ H Q,t' σ H Q->t σ H (fun v H'=>KD G.K H'->Q v H')):PT X e t':=fun pins s σ H Q I q=>
 thn (h pins s σ H _ I (hi σ H Q q)) fun u s' ⟨H',I',k⟩=>⟨H',I',k (hk▸Inv.kd I')⟩
theorem PA.imp{es:List Expr}{t t':TA}(hk:X.K=G.K)(h:PA X es t)(hi: ∀σ H Q,t' σ H Q->t σ H (fun v H'=>KD G.K H'->Q v H')):PA X es t':=fun pos pins s σ H Q I q=>
 thn (h pos pins s σ H _ I (hi σ H Q q)) fun u s' ⟨v,H',I',r,k⟩=>⟨v,H',I',r,k (hk▸Inv.kd I')⟩
noncomputable def OpOK(G:Gx)(F:Fy)(r:R2)(g:D->D->M D):Prop:= ∀ρ s t t' v u H σv tv Q,MRL G F.toFx ρ H σv tv s [t,t'] [v,u]->wM G F σv tv (g t t' s) Q->r v u H (fun w H'=>KD G.K H'->Q w H')
noncomputable def z1p(G:Gx)(F:Fy)(r:R2)(g:D->D->M D):Prop:= ∀ρ s t t' v u H σv tv Q,MRL G F.toFx ρ H σv tv s [t,t'] [v,u]->wM G F σv tv (g t t' s) Q->r v u H Q
noncomputable def UnOK(G:Gx)(F:Fy)(r:V->Hp->VK->Prop)(g:D->M D):Prop:= ∀ρ s t v H σv tv Q,MRL G F.toFx ρ H σv tv s [t] [v]->wM G F σv tv (g t s) Q->r v H (fun w H'=>KD G.K H'->Q w H')
noncomputable def z1r(G:Gx)(F:Fy)(r:List V->Hp->VK->Prop)(g:List D->M D):Prop:= ∀ρ s ts vs H σv tv Q,MRL G F.toFx ρ H σv tv s ts vs->wM G F σv tv (g ts s) Q->r vs H (fun w H'=>KD G.K H'->Q w H')
theorem z7h{op:Operator}{r:R2}{ma mb:M D}{g:D->D->M D}(hk:X.K=G.K)(ho:OpR X (binaryOp op) r)(hg:OpOK G F r g)(ha:SE X G F a ma)(hb:SE X G F b mb):SE X G F (.BinOp a op b pos) (mBin ma mb g):=by
 refine PE.imp hk (zht ho ha hb) fun σ H Q ⟨tv,h⟩=>⟨tv, ?_⟩
 obtain⟨hs,ρ,s,M,W⟩:=z6H h
 refine⟨hs,ρ,s,M, ?_⟩
 cases e:ma s with
 |ok t s1=>
  rw[e] at W
  intro ρ1 v H1 M1
  refine⟨some v::tv, ?_⟩
  obtain⟨hs2,ρ2,s2,M2,W2⟩:=W ρ1 v H1 M1
  refine⟨hs2,ρ2,s2,M2, ?_⟩
  cases e2:mb s2 with
  |ok t2 s3=>
   rw[e2] at W2
   intro ρ3 u H3 M3
   obtain⟨ρ4,s4,x,y,M4,W4⟩:=W2 ρ3 u H3 M3
   exact hg _ _ _ _ _ _ _ _ _ _ M4 W4
  |ex d s3=>rw[e2] at W2;exact W2
  |no=>rw[e2] at W2;exact W2
 |ex d s1=>rw[e] at W;exact W
 |no=>rw[e] at W;exact W
theorem wM.mono{σv tv:List (Option V)}{r:Res D}{Q Q':VK}(h:wM G F σv tv r Q)(k: ∀v H,Q v H->Q' v H):wM G F σv tv r Q':=by
 cases r with
 |ok t s=>exact fun ρ v H M=>k _ _ (h ρ v H M)
 |ex d s=>exact h
 |no=>exact h
theorem tMv.mono{m:M D}{σv tv:List (Option V)}{H:Hp}{Q Q':VK}(h:tMv G F m σv tv H Q)(k: ∀v H,Q v H->Q' v H):tMv G F m σv tv H Q':=by
 obtain⟨hs,ρ,s,M,W⟩:=h
 exact⟨hs,ρ,s,M,W.mono k⟩
theorem z9j{ma mb:M D}{g:D->D->M D}{R:V->V->Hp->VK->Prop}{σv:St}{H:Hp}{Q:VK}(hg:OpOK G F R g)(h:tM G F (mBin ma mb g) σv H Q):
 tM G F ma σv H fun x H1=>tM G F mb σv H1 fun y H2=>R x y H2 fun w H'=>KD G.K H'->Q w H':=by
 obtain⟨tv,h⟩:=h
 exact⟨tv,(z6H h).mono fun v H1 h1=>⟨_,h1.mono fun u H2 ⟨ρ,s,t,t',M,W⟩=>hg _ _ _ _ _ _ _ _ _ _ M W⟩⟩
theorem zf2{ma:M D}{g:D->M D}{R:V->Hp->VK->Prop}{σv:St}{H:Hp}{Q:VK}(hg:UnOK G F R g)(h:tM G F (bd ma g) σv H Q):
 tM G F ma σv H fun x H1=>R x H1 fun w H'=>KD G.K H'->Q w H':=by
 obtain⟨tv,h⟩:=h
 exact⟨tv,(z4e h).mono fun v H1 ⟨ρ,s,t,M,W⟩=>hg _ _ _ _ _ _ _ _ M W⟩
theorem zhL{op:UnaryOp}{r:V->Hp->VK->Prop}{ma:M D}{g:D->M D}(hk:X.K=G.K)(ho:UnR X (unaryOp op) r)(hg:UnOK G F r g)(ha:SE X G F a ma):SE X G F (.UnaryOp op a pos) (bd ma g):=
 PE.imp hk (zhu ho ha) fun _ _ _ h=>zf2 hg h
theorem z5F{ma mb:M D}{g:D->D->M D}{R:V->V->Hp->VK->Prop}{σv:St}{H:Hp}{Q:VK}(hg:z1p G F R g)(h:tM G F (mBin ma mb g) σv H Q):
 tM G F ma σv H fun x H1=>tM G F mb σv H1 fun y H2=>R x y H2 Q:=by
 obtain⟨tv,h⟩:=h
 exact⟨tv,(z6H h).mono fun v H1 h1=>⟨_,h1.mono fun u H2 ⟨ρ,s,t,t',M,W⟩=>hg _ _ _ _ _ _ _ _ _ _ M W⟩⟩
theorem PE.imp0{t t':TE}(h:PE X e t)(hi: ∀σ H Q,t' σ H Q->t σ H Q):PE X e t':=fun pins s σ H Q I q=>h pins s σ H _ I (hi σ H Q q)
theorem PT.imp0{t t':TT}(h:PT X e t)(hi: ∀σ H Q,t' σ H Q->t σ H Q):PT X e t':=fun pins s σ H Q I q=>h pins s σ H _ I (hi σ H Q q)
theorem zdk{op:CmpOp}{r:R2}{ma mb:M D}{g:D->D->M D}(ho:OpR X (compareOp op) r)(hg:z1p G F r g)(ha:SE X G F a ma)(hb:SE X G F b mb)(hm:behindInMarks op b=false):SE X G F (.Compare a [op] [b] pos) (mBin ma mb g):=
 PE.imp0 (zcU ho ha hb hm) fun _ _ _ h=>z5F hg h
theorem zhM{r:R2}{ma mb:M D}{g:D->D->M D}(hk:X.K=G.K)(ho:IxR X r)(hg:OpOK G F r g)(ha:SE X G F a ma)(hb:SE X G F b mb)(hs:z2K b):SE X G F (.Subscript a b pos) (mBin ma mb g):=
 PE.imp hk (zhF ho ha hb hs) fun _ _ _ h=>z9j hg h
theorem zf3(hk:X.K=G.K):SA X G F [] (mArgs []):=by
 refine PA.imp hk z42 fun σ H Q ⟨tv,hs,ρ,s,M,W⟩ _=>W ρ [] H ⟨M,rfl,fun l h=>by simp[labsL] at h⟩
noncomputable def nst:Expr->Bool
 | .Starred _ _=>false
 |_=>true
theorem z9k{es:List Expr}{env:Env}(h:nst e=true):starEach (e::es) env=(false,eval e env)::starEach es env:=by
 cases e<;>first|rfl|exact Bool.noConfusion h
theorem zdl{es:List Expr}{m:M D}{ms:List (M D)}(hk:X.K=G.K)(ha:SE X G F e m)(hr:SA X G F es (mArgs ms))(hs:nst e=true:=by rfl):SA X G F (e::es) (mArgs (m::ms)):=by
 refine PA.imp hk (z0g ha hr (z9k hs)) fun σ H Q ⟨tv,hs,ρ,s,M,W⟩=>⟨tv,hs,ρ,s,M, ?_⟩
 unfold mArgs at W
 simp only[bd,psh] at W
 cases e:m s with
 |ok t s1=>
  rw[e] at W
  intro ρ1 v H1 M1
  refine⟨some v::tv,suf1 hs,ρ1,s1.psh t,M1.push, ?_⟩
  dsimp only at W
  cases e2:mArgs ms (s1.psh t) with
  |ok ys s2=>
   rw[e2] at W
   intro ρ2 us H2 M2 _
   simp only[pop,rt] at W
   cases e3:s2.tm with
   |nil=>rw[e3] at W;exact W.elim
   |cons o r=>
    cases o with
    |none=>rw[e3] at W;exact W.elim
    |some t'=>
     rw[e3] at W
     exact W ρ2 (v::us) H2 (M2.down e3)
  |ex d s2=>rw[e2] at W;exact W
  |no=>rw[e2] at W;exact W
 |ex d s1=>rw[e] at W;exact W
 |no=>rw[e] at W;exact W
noncomputable def mCB(ms:List (M D))(g:List D->M D):M D:=bd (mArgs ms) g
theorem z4n{ma:M (List D)}{g:List D->M D}{R:List V->Hp->VK->Prop}{σv:St}{H:Hp}{Q:VK}(hg:z1r G F R g)(h:tM G F (bd ma g) σv H Q):
 tML G F ma σv H fun xs H1=>R xs H1 fun w H'=>KD G.K H'->Q w H':=by
 obtain⟨tv,hs,ρ,s,M,W⟩:=h
 refine⟨tv,hs,ρ,s,M, ?_⟩
 unfold bd at W
 cases e:ma s with
 |ok ts s1=>rw[e] at W;exact fun ρ1 vs H1 M1=>hg _ _ _ _ _ _ _ _ M1 W
 |ex d s1=>rw[e] at W;exact W
 |no=>rw[e] at W;exact W
theorem zb3{x:Str}{p:Pos}{es:List Expr}{ms:List (M D)}{g:List D->M D}{id:String}{r:List V->Hp->VK->Prop}(hk:X.K=G.K)(hc:CallR X (.builtin id) r)(hg:z1r G F r g)(hgl:Gl X x)(hm:X.mg x=none)(hv:bootBuiltins x=some (.builtin id))(ha:SA X G F (e::es) (mArgs ms))(hn:x≠ "__name__" :=by decide)(hdb:(x==("__debug__" :Str))=false:=by decide)
 (he:starEach (e::es) X.env=(false,eval e X.env)::starEach es X.env:=by rfl) (hpl:(backTo pos (starEach es X.env)).any (·.1)=false:=by rfl):SE X G F (.Call (.Name x p) (e::es) [] pos) (mCB ms g):=
 PE.imp hk (z4i hc hgl hm hv ha hn hdb he hpl) fun _ _ _ h=>z4n hg h
theorem z9l{x:Str}{p:Pos}{es:List Expr}{ms:List (M D)}{g:List D->M D}{T:String}{r:List V->Hp->VK->Prop}(hk:X.K=G.K)(hc:CallR X (.type T) r)(hg:z1r G F r g)(hgl:Gl X x)(hm:X.mg x=none)(hv:bootBuiltins x=some (.type T))(ha:SA X G F (e::es) (mArgs ms))(hn:x≠ "__name__" :=by decide)(hdb:(x==("__debug__" :Str))=false:=by decide)
 (he:starEach (e::es) X.env=(false,eval e X.env)::starEach es X.env:=by rfl) (hpl:(backTo pos (starEach es X.env)).any (·.1)=false:=by rfl):SE X G F (.Call (.Name x p) (e::es) [] pos) (mCB ms g):=
 PE.imp hk (z94 hc hgl hm hv ha hn hdb he hpl) fun _ _ _ h=>z4n hg h
noncomputable def mVar(i:Nat):M D:=fun s=>match s.σ[i]? with
 |some (some t)=> .ok t s
 |_=> .no
theorem se_var(i:Nat){x:Str}(hk:X.K=G.K)(h:PE X (.Name x pos) (tVar i)):SE X G F (.Name x pos) (mVar i):=by
 refine PE.imp hk h fun σ H Q ⟨tv,hs,ρ,s,M,W⟩=> ?_
 unfold mVar at W
 cases e:s.σ[i]? with
 |none=>rw[e] at W;exact W.elim
 |some o=>
  cases o with
  |none=>rw[e] at W;exact W.elim
  |some t=>
   rw[e] at W
   obtain⟨v,h1,h2⟩:=M.sl.get i t e
   refine⟨v,h1,fun _=>W ρ v H ⟨M,RDs.one h2,fun l hl=> ?_⟩⟩
   simp only[labsL,List.append_nil] at hl
   have:=z3t e l hl
   exact⟨M.lab l (List.mem_append_left _ this),M.own l (List.mem_append_left _ this)⟩
noncomputable def cV:D->Option V
 | .non=>some .non| .bool b=>some (.bl b)| .int i=>some (.int i)| .str x=>some (.str x)|_=>none
theorem z5G{d:D}{v:V}{ρ:Nat->Addr}{H:Hp}(h:cV d=some v):RD G ρ H d v/\labs d=[]:=by
 cases d<;>simp only[cV,Option.some.injEq] at h<;>first|(subst h;exact⟨by simp only[RD],by simp only[labs]⟩)|cases h
noncomputable def mC(d:D):M D:=rt d
theorem se_c{d:D}{v:V}(hk:X.K=G.K)(h:PE X e (tC v))(hd:cV d=some v:=by rfl):SE X G F e (mC d):=by
 refine PE.imp hk h fun σ H Q ⟨tv,hs,ρ,s,M,W⟩ _=>W ρ v H ⟨M,RDs.one (z5G hd).1,fun l hl=> ?_⟩
 simp only[labsL,(z5G (G:=G) (ρ:=ρ) (H:=H) hd).2] at hl
 cases hl
theorem wM.out{σv tv:List (Option V)}{s:Stt}{t:D}{v:V}{ρ:Nat->Addr}{H:Hp}{Q:VK}(W:wM G F σv tv (.ok t s) Q)(M:MR G F.toFx ρ H σv tv s)(h:RD G ρ H t v)(hl: ∀l∈labs t,l<s.n/\(F.A0 (ρ l)\/F.H0 (ρ l)=none)):Q v H:=
 W ρ v H ⟨M,RDs.one h,fun l q=>hl l (by simpa only[labsL,List.append_nil] using q)⟩
theorem wM.flat{σv tv:List (Option V)}{s:Stt}{t:D}{v:V}{ρ:Nat->Addr}{H:Hp}{Q:VK}(W:wM G F σv tv (.ok t s) Q)(M:MR G F.toFx ρ H σv tv s)(h:cV t=some v):Q v H:=
 W.out M (z5G h).1 fun l q=>by rw[(z5G (G:=G) (ρ:=ρ) (H:=H) h).2] at q;cases q
end
mutual
noncomputable def er:D->PyData
 | .non=> .none| .bool b=> .bool b| .int i=> .int i| .str x=> .str x
 | .tup ds=> .tuple (erL ds)
 | .ro ds=> .list (erL ds)
 | .lst _ ds=> .list (erL ds)
 | .dct _ _ _=> .none
 | .obj _ _ _ _=> .none
 | .exc _=> .none| .fn _=> .none| .fdc _ _=> .none
noncomputable def erL:List D->List PyData
 |[]=>[]
 |d::ds=>er d::erL ds
end
mutual
noncomputable def plain:D->Bool
 | .non=>true| .bool _=>true| .int _=>true| .str _=>true
 | .tup ds=>plainL ds
 | .ro ds=>plainL ds
 | .lst _ ds=>plainL ds
 | .dct _ _ _=>false
 | .obj _ _ _ _=>false
 | .exc _=>false| .fn _=>false| .fdc _ _=>false
noncomputable def plainL:List D->Bool
 |[]=>true
 |d::ds=>plain d&&plainL ds
end
noncomputable def seqD:D->Option (List D)
 | .tup ds=>some ds| .ro ds=>some ds| .lst _ ds=>some ds|_=>none
noncomputable def lstD:D->Option (List D)
 | .ro ds=>some ds| .lst _ ds=>some ds|_=>none
section
variable{G:Gx}{F:Fy}{ρ:Nat->Addr}{H H':Hp}{σv tv:List (Option V)}{s:Stt}{t t':D}{v u:V}{ts ds:List D}{vs xs:List V}{Q:VK}
mutual
theorem RD.dp: ∀(t:D) (v:V),RD G ρ H t v->plain t=true->Dp G.K H (er t) v
 | .non,v,h,_=>by simp only[RD,er,Dp] at h⊢;exact h
 | .bool b,v,h,_=>by simp only[RD,er,Dp] at h⊢;exact h
 | .int b,v,h,_=>by simp only[RD,er,Dp] at h⊢;exact h
 | .str b,v,h,_=>by simp only[RD,er,Dp] at h⊢;exact h
 | .tup ds,v,h,p=>by
  simp only[RD,er,Dp,plain] at h p⊢
  obtain⟨a,xs,e,s,r⟩:=h
  exact⟨a,xs,e,SqT.of s,RDs.dp ds xs r p⟩
 | .ro ds,v,h,p=>by
  simp only[RD,er,Dp,plain] at h p⊢
  obtain⟨a,xs,e,s,r⟩:=h
  exact⟨a,xs,e,s.sq,RDs.dp ds xs r p⟩
 | .lst l ds,v,h,p=>by
  simp only[RD,er,Dp,plain] at h p⊢
  obtain⟨e,xs,s,r⟩:=h
  exact⟨_,xs,e,SqL.of s,RDs.dp ds xs r p⟩
 | .dct l ks vs,v,h,p=>by simp only[plain] at p;cases p
 | .fdc ks vs,v,h,p=>by simp only[plain] at p;cases p
 | .obj l c ns vs,v,h,p=>by simp only[plain] at p;cases p
 | .exc c,v,h,p=>by simp only[plain] at p;cases p
 | .fn c,v,h,p=>by simp only[plain] at p;cases p
theorem RDs.dp: ∀(t:List D) (v:List V),RDs G ρ H t v->plainL t=true->DpAll G.K H (erL t) v
 |[],v,h,_=>by simp only[RDs,erL,DpAll] at h⊢;exact h
 |d::ds,v,h,p=>by
  simp only[RDs,erL,DpAll,plainL,Bool.and_eq_true] at h p⊢
  obtain⟨x,r,e,h1,h2⟩:=h
  exact⟨x,r,e,RD.dp d x h1 p.1,RDs.dp ds r h2 p.2⟩
end
theorem RD.seq(h:RD G ρ H t v)(e:seqD t=some ds): ∃a xs,v= .ref a/\(SqL G.K H a xs\/SqT G.K H a xs)/\RDs G ρ H ds xs/\∀l∈labsL ds,l∈labs t:=by
 cases t<;>simp only[seqD,Option.some.injEq] at e<;>try cases e
 ·simp only[RD] at h
  obtain⟨a,xs,e,s,r⟩:=h
  exact⟨a,xs,e, .inr (SqT.of s),r,fun l hl=>by simp only[labs];exact hl⟩
 ·simp only[RD] at h
  obtain⟨a,xs,e,s,r⟩:=h
  exact⟨a,xs,e, .inl s.sq,r,fun l hl=>by simp only[labs];exact hl⟩
 ·simp only[RD] at h
  obtain⟨e,xs,s,r⟩:=h
  exact⟨_,xs,e, .inl (SqL.of s),r,fun l hl=>by simp only[labs];exact List.mem_cons_of_mem _ hl⟩
theorem RD.lstq(h:RD G ρ H t v)(e:lstD t=some ds): ∃a xs,v= .ref a/\SqL G.K H a xs/\RDs G ρ H ds xs/\∀l∈labsL ds,l∈labs t:=by
 cases t<;>simp only[lstD,Option.some.injEq] at e<;>try cases e
 ·simp only[RD] at h
  obtain⟨a,xs,e,s,r⟩:=h
  exact⟨a,xs,e,s.sq,r,fun l hl=>by simp only[labs];exact hl⟩
 ·simp only[RD] at h
  obtain⟨e,xs,s,r⟩:=h
  exact⟨_,xs,e,SqL.of s,r,fun l hl=>by simp only[labs];exact List.mem_cons_of_mem _ hl⟩
theorem RD.tupx(h:RD G ρ H (.tup ds) v): ∃a xs,v= .ref a/\H a=some (.tup xs)/\RDs G ρ H ds xs:=by
 simp only[RD] at h;exact h
theorem RD.tupq(h:RD G ρ H (.tup ds) v): ∃a xs,v= .ref a/\SqT G.K H a xs/\RDs G ρ H ds xs:=by
 obtain⟨a,xs,e,s,r⟩:=h.tupx
 exact⟨a,xs,e,SqT.of s,r⟩
theorem RD.seqx(h:RD G ρ H t v)(e:seqD t=some ds): ∃a xs,v= .ref a/\(SqL G.K H a xs\/H a=some (.tup xs))/\RDs G ρ H ds xs/\∀l∈labsL ds,l∈labs t:=by
 cases t<;>simp only[seqD,Option.some.injEq] at e<;>try cases e
 ·simp only[RD] at h
  obtain⟨a,xs,e,s,r⟩:=h
  exact⟨a,xs,e, .inr s,r,fun l hl=>by simp only[labs];exact hl⟩
 ·simp only[RD] at h
  obtain⟨a,xs,e,s,r⟩:=h
  exact⟨a,xs,e, .inl s.sq,r,fun l hl=>by simp only[labs];exact hl⟩
 ·simp only[RD] at h
  obtain⟨e,xs,s,r⟩:=h
  exact⟨_,xs,e, .inl (SqL.of s),r,fun l hl=>by simp only[labs];exact List.mem_cons_of_mem _ hl⟩
theorem MRL.lb1(M:MRL G F.toFx ρ H σv tv s [t] [v]): ∀l∈labs t,l<s.n/\(F.A0 (ρ l)\/F.H0 (ρ l)=none):=fun l h=>M.lb l (by simp only[labsL,List.append_nil];exact h)
theorem MRL.lb2(M:MRL G F.toFx ρ H σv tv s [t,t'] [v,u]):(∀l∈labs t,l<s.n/\(F.A0 (ρ l)\/F.H0 (ρ l)=none))/\(∀l∈labs t',l<s.n/\(F.A0 (ρ l)\/F.H0 (ρ l)=none)):=
 ⟨fun l h=>M.lb l (by simp only[labsL,List.append_nil];exact List.mem_append_left _ h),fun l h=>M.lb l (by simp only[labsL,List.append_nil];exact List.mem_append_right _ h)⟩
noncomputable abbrev LB(F:Fx)(ρ:Nat->Addr)(n:Nat)(ls:List Nat):Prop:= ∀l∈ls,l<n/\(F.A0 (ρ l)\/F.H0 (ρ l)=none)
theorem z5H(W:wM G F σv tv (.ok (.tup ds) s) Q)(M:MR G F.toFx ρ H σv tv s)(r:RDs G ρ H ds xs)(lb:LB F.toFx ρ s.n (labsL ds)):NewX G.K H xs (fun w H'=>KD G.K H'->Q w H'):=by
 refine NewX.intro fun p H' sq sm k=> ?_
 exact W.out (M.same sm k) (by simp only[RD];exact⟨p,xs,rfl,sq,r.same sm⟩) (by simp only[labs];exact lb)
theorem z9m{p:Addr}(W:wM G F σv tv (.ok (.tup ds) s) Q)(M:MR G F.toFx ρ H σv tv s)(r:RDs G ρ H ds xs)(lb:LB F.toFx ρ s.n (labsL ds))(hp:H p=none)(k:KD G.K (upd H p (.tup xs))):Q (.ref p) (upd H p (.tup xs)):=by
 have sm:=Same.new (.tup xs) hp
 exact W.out (M.same sm k) (by simp only[RD];exact⟨p,xs,rfl,z0i,r.same sm⟩) (by simp only[labs];exact lb)
theorem RDs.ext{p:Addr}{o:HO}(M:MR G F.toFx ρ H σv tv s)(r:RDs G ρ H ds xs)(lb:LB F.toFx ρ s.n (labsL ds))(hp:H p=none):RDs G (ext ρ s.n p) (upd H p o) ds xs:=
 RDs.stay (z1t.of (Same.new o hp)) ds xs r fun l hl=>⟨z0q (lb l hl).1,fun o e=>Same.new _ hp _ _ e⟩
theorem z3J{p:Addr}(W:wM G F σv tv (.ok (.lst s.n ds) s.nxt) Q)(M:MR G F.toFx ρ H σv tv s)(r:RDs G ρ H ds xs)(lb:LB F.toFx ρ s.n (labsL ds))(hp:H p=none)(k:KD G.K (upd H p (.lst xs))):Q (.ref p) (upd H p (.lst xs)):=by
 refine W.out (M.new hp k) ?_ fun l hl=> ?_
 ·simp only[RD]
  rw[z0S]
  exact⟨rfl,xs,z0i,RDs.ext M r lb hp⟩
 ·simp only[labs] at hl
  rcases List.mem_cons.mp hl with q|q
  ·rw[q]
   exact⟨Nat.lt_succ_self _,by rw[z0S];exact .inr (M.fresh0 hp)⟩
  ·obtain⟨h1,h2⟩:=lb l q
   exact⟨Nat.lt_succ_of_lt h1,by rw[z0q h1];exact h2⟩
end
noncomputable def newL(ds:List D):M D:=fun s=> .ok (.lst s.n ds) s.nxt
noncomputable def addD:D->D->M D
 | .int i, .int j=>rt (.int (i+j))
 | .tup a, .tup b=>if a.length+b.length<=sizeLine then rt (.tup (a++b)) else fl
 | .lst _ a, .lst _ b=>if a.length+b.length<=sizeLine then newL (a++b) else fl
 | .str a, .str b=>if a.length+b.length<=sizeLine then rt (.str (a++b)) else fl
 |_,_=>fl
noncomputable def subD:D->D->M D
 | .int i, .int j=>rt (.int (i -j))
 |_,_=>fl
instance(i j:Int):Decidable (CMul i j):=by unfold CMul;infer_instance
instance(i j:Int):Decidable (CDiv i j):=by unfold CDiv;infer_instance
instance(i j:Int):Decidable (CPow i j):=by unfold CPow;infer_instance
noncomputable def mulD:D->D->M D
 | .int i, .int j=>if CMul i j then rt (.int (i*j)) else fl
 | .lst _ a, .int k=>if -(2^63)<=k/\k<2^63/\a.length*k.toNat<=sizeLine then newL (List.flatten (List.replicate k.toNat a)) else fl
 | .tup a, .int k=>if 0<a.length/\2<=k/\k<2^63/\a.length*k.toNat<=sizeLine then rt (.tup (List.flatten (List.replicate k.toNat a))) else fl
 |_,_=>fl
noncomputable def z6I:D->D->M D
 | .int i, .int j=>if CDiv i j then rt (.int (i/j)) else fl
 |_,_=>fl
noncomputable def modD:D->D->M D
 | .int i, .int j=>if 0<j then rt (.int (i %j)) else fl
 |_,_=>fl
noncomputable def powD:D->D->M D
 | .int i, .int j=>if CPow i j then rt (.int (i^j.toNat)) else fl
 |_,_=>fl
noncomputable def ltD:D->D->M D
 | .int i, .int j=>rt (.bool (decide (i<j)))
 |_,_=>fl
noncomputable def leD:D->D->M D
 | .int i, .int j=>rt (.bool (decide (i<=j)))
 |_,_=>fl
noncomputable def gtD:D->D->M D
 | .int i, .int j=>rt (.bool (decide (j<i)))
 |_,_=>fl
noncomputable def eqC(t t':D):Bool:=plain t&&plain t'&&(er t).canLay0&&(er t').canLay0&&decide (min (er t).depth (er t').depth<=60)
noncomputable def eqD(t t':D):M D:=if eqC t t'=true then rt (.bool (PyData.eqv (er t) (er t'))) else fl
noncomputable def neD(t t':D):M D:=if eqC t t'=true then rt (.bool (!PyData.eqv (er t) (er t'))) else fl
noncomputable def inC(t:D)(ds:List D):Bool:=plain t&&plainL ds&&(er t).canLay0&&PyData.canLayAll0 (erL ds)&&decide (min (PyData.depthAll (erL ds)) (er t).depth<=60)
noncomputable def inD(t t':D):M D:=match seqD t' with
 |some ds=>if inC t ds=true then rt (.bool ((erL ds).any fun y=>PyData.eqv y (er t))) else fl
 |none=>fl
noncomputable def isN:D->D->M D
 | .non, .non=>rt (.bool true)
 |_, .non=>rt (.bool false)
 |_,_=>fl
noncomputable def optM:Option D->M D
 |some d=>rt d
 |none=>fl
noncomputable def ixG:Option (List D)->D->M D
 |some ds, .int i=>optM (atI ds i)
 |_,_=>fl
noncomputable def ixD(t t':D):M D:=ixG (seqD t) t'
noncomputable def negD:D->M D
 | .int i=>rt (.int (-i))
 |_=>fl
section
variable{G:Gx}{F:Fy}
theorem wfl{σv tv:List (Option V)}{s:Stt}{Q:VK}{A:Prop}(h:wM G F σv tv ((fl:M D) s) Q):A:=False.elim h
theorem z5I{ρ:Nat->Addr}{H:Hp}{σv tv:List (Option V)}{s:Stt}{i j:Int}{v u:V}(M:MRL G F.toFx ρ H σv tv s [.int i, .int j] [v,u]):v= .int i/\u= .int j:=by
 obtain⟨h1,h2⟩:=M.rd2
 simp only[RD] at h1 h2
 exact⟨h1,h2⟩
theorem zbW:OpOK G F (fun x y H Q=>rI0 (fun i j=> .int (i+j)) x y H Q\/z9e G.K x y H Q\/rCat x y H Q\/∃i j,x= .str i/\y= .str j/\i.length+j.length<=sizeLine/\Q (.str (i++j)) H) addD:=by
 intro ρ s t t' v u H σv tv Q M W
 unfold addD at W
 split at W
 ·obtain⟨rfl,rfl⟩:=z5I M
  exact .inl ⟨_,_,rfl,rfl,fun _=>W.flat M.m rfl⟩
 ·split at W
  ·rename_i a b hz
   obtain⟨h1,h2⟩:=M.rd2
   obtain⟨l1,l2⟩:=M.lb2
   obtain⟨p,xs,rfl,s1,r1⟩:=h1.tupx
   obtain⟨q,ys,rfl,s2,r2⟩:=h2.tupx
   refine .inr (.inl ⟨p,q,xs,ys,rfl,rfl,s1,s2,by rw[<-r1.length,<-r2.length];exact hz,z5H W M.m (r1.append r2) ?_⟩)
   rw[z1K]
   intro l hl
   rcases List.mem_append.mp hl with q|q
   ·exact l1 l (by simpa only[labs] using q)
   ·exact l2 l (by simpa only[labs] using q)
  ·exact wfl W
 ·split at W
  ·rename_i la a lb b hz
   obtain⟨h1,h2⟩:=M.rd2
   obtain⟨l1,l2⟩:=M.lb2
   simp only[RD] at h1 h2
   obtain⟨rfl,xs,s1,r1⟩:=h1
   obtain⟨rfl,ys,s2,r2⟩:=h2
   refine .inr (.inr (.inl ⟨_,_,xs,ys,rfl,rfl,s1,s2,by rw[<-r1.length,<-r2.length];exact hz,fun p hp k=>z3J W M.m (r1.append r2) ?_ hp k⟩))
   rw[z1K]
   intro l hl
   rcases List.mem_append.mp hl with q|q
   ·exact l1 l (by simp only[labs];exact List.mem_cons_of_mem _ q)
   ·exact l2 l (by simp only[labs];exact List.mem_cons_of_mem _ q)
  ·exact wfl W
 ·split at W
  ·rename_i a b hz
   obtain⟨h1,h2⟩:=M.rd2
   simp only[RD] at h1 h2
   subst h1 h2
   exact .inr (.inr (.inr ⟨_,_,rfl,rfl,hz,fun _=>W.flat M.m rfl⟩))
  ·exact wfl W
 ·exact wfl W
theorem zf4:OpOK G F (rI0 fun i j=> .int (i -j)) subD:=by
 intro ρ s t t' v u H σv tv Q M W
 unfold subD at W
 split at W
 ·obtain⟨rfl,rfl⟩:=z5I M
  exact⟨_,_,rfl,rfl,fun _=>W.flat M.m rfl⟩
 ·exact wfl W
theorem zdm:OpOK G F (rI CDiv fun i j=> .int (i/j)) z6I:=by
 intro ρ s t t' v u H σv tv Q M W
 unfold z6I at W
 split at W
 ·split at W
  ·rename_i hc
   obtain⟨rfl,rfl⟩:=z5I M
   exact⟨_,_,rfl,rfl,hc,fun _=>W.flat M.m rfl⟩
  ·exact wfl W
 ·exact wfl W
theorem zf5:OpOK G F (rI (fun _ j=>0<j) fun i j=> .int (i %j)) modD:=by
 intro ρ s t t' v u H σv tv Q M W
 unfold modD at W
 split at W
 ·split at W
  ·rename_i hc
   obtain⟨rfl,rfl⟩:=z5I M
   exact⟨_,_,rfl,rfl,hc,fun _=>W.flat M.m rfl⟩
  ·exact wfl W
 ·exact wfl W
theorem zf6:OpOK G F (rI CPow fun i j=> .int (i^j.toNat)) powD:=by
 intro ρ s t t' v u H σv tv Q M W
 unfold powD at W
 split at W
 ·split at W
  ·rename_i hc
   obtain⟨rfl,rfl⟩:=z5I M
   exact⟨_,_,rfl,rfl,hc,fun _=>W.flat M.m rfl⟩
  ·exact wfl W
 ·exact wfl W
theorem zhN:z1p G F (rI0 fun i j=> .bl (decide (i<j))) ltD:=by
 intro ρ s t t' v u H σv tv Q M W
 unfold ltD at W
 split at W
 ·obtain⟨rfl,rfl⟩:=z5I M
  exact⟨_,_,rfl,rfl,W.flat M.m rfl⟩
 ·exact wfl W
theorem zhO:z1p G F (rI0 fun i j=> .bl (decide (i<=j))) leD:=by
 intro ρ s t t' v u H σv tv Q M W
 unfold leD at W
 split at W
 ·obtain⟨rfl,rfl⟩:=z5I M
  exact⟨_,_,rfl,rfl,W.flat M.m rfl⟩
 ·exact wfl W
theorem zhP:z1p G F (rI0 fun i j=> .bl (decide (j<i))) gtD:=by
 intro ρ s t t' v u H σv tv Q M W
 unfold gtD at W
 split at W
 ·obtain⟨rfl,rfl⟩:=z5I M
  exact⟨_,_,rfl,rfl,W.flat M.m rfl⟩
 ·exact wfl W
theorem zhQ:z1p G F (rEqD G.K false) eqD:=by
 intro ρ s t t' v u H σv tv Q M W
 unfold eqD at W
 split at W
 ·rename_i hc
  simp only[eqC,Bool.and_eq_true,decide_eq_true_eq] at hc
  obtain⟨⟨⟨⟨c1,c2⟩,c3⟩,c4⟩,c5⟩:=hc
  obtain⟨h1,h2⟩:=M.rd2
  exact⟨er t,er t',RD.dp _ _ h1 c1,RD.dp _ _ h2 c2,c3,c4,c5,W.flat M.m rfl⟩
 ·exact wfl W
theorem zhR:z1p G F (rEqD G.K true) neD:=by
 intro ρ s t t' v u H σv tv Q M W
 unfold neD at W
 split at W
 ·rename_i hc
  simp only[eqC,Bool.and_eq_true,decide_eq_true_eq] at hc
  obtain⟨⟨⟨⟨c1,c2⟩,c3⟩,c4⟩,c5⟩:=hc
  obtain⟨h1,h2⟩:=M.rd2
  exact⟨er t,er t',RD.dp _ _ h1 c1,RD.dp _ _ h2 c2,c3,c4,c5,W.flat M.m rfl⟩
 ·exact wfl W
theorem RD.dpSeq{ρ:Nat->Addr}{H:Hp}{t:D}{v:V}{ds:List D}(h:RD G ρ H t v)(e:seqD t=some ds)(p:plainL ds=true):Dp G.K H (.list (erL ds)) v\/Dp G.K H (.tuple (erL ds)) v:=by
 obtain⟨a,xs,rfl,sq,r,_⟩:=h.seq e
 have d:=RDs.dp ds xs r p
 rcases sq with sq|sq
 ·exact .inl (by simp only[Dp];exact⟨a,xs,rfl,sq,d⟩)
 ·exact .inr (by simp only[Dp];exact⟨a,xs,rfl,sq,d⟩)
theorem zhS:z1p G F (rInD G.K false) inD:=by
 intro ρ s t t' v u H σv tv Q M W
 unfold inD at W
 cases e:seqD t' with
 |some ds=>
  rw[e] at W
  dsimp only at W
  split at W
  ·rename_i hc
   simp only[inC,Bool.and_eq_true,decide_eq_true_eq] at hc
   obtain⟨⟨⟨⟨c1,c2⟩,c3⟩,c4⟩,c5⟩:=hc
   obtain⟨h1,h2⟩:=M.rd2
   exact⟨er t,erL ds,RD.dp _ _ h1 c1,h2.dpSeq e c2,c3,c4,c5,W.flat M.m rfl⟩
  ·exact wfl W
 |none=>rw[e] at W;exact wfl W
theorem RD.non_iff{ρ:Nat->Addr}{H:Hp}{t:D}{v:V}(h:RD G ρ H t v):v= .non↔t= .non:=by
 cases t<;>simp only[RD] at h<;>(try (subst h;simp))<;>(try (obtain⟨a,xs,rfl,_⟩:=h;simp))<;>(try (obtain⟨rfl,_⟩:=h;simp))<;>(try (obtain⟨a,o,C,rfl,_⟩:=h;simp))<;>(try (obtain⟨a,rfl,_⟩:=h;simp))
theorem zf7:z1p G F (fun x y H Q=>y= .non/\Q (.bl (decide (x= .non))) H) isN:=by
 intro ρ s t t' v u H σv tv Q M W
 obtain⟨h1,h2⟩:=M.rd2
 have e1:=h1.non_iff
 unfold isN at W
 split at W
 ·simp only[RD] at h2
  exact⟨h2,by rw[decide_eq_true (e1.mpr rfl)];exact W.flat M.m rfl⟩
 ·rename_i ne
  simp only[RD] at h2
  exact⟨h2,by rw[decide_eq_false (fun z=>ne (e1.mp z))];exact W.flat M.m rfl⟩
 ·exact wfl W
theorem zf8{ρ:Nat->Addr}{H:Hp}{ds:List D}{xs:List V}{i:Int}{d:D}(r:RDs G ρ H ds xs)(e:atI ds i=some d): ∃x,atI xs i=some x/\RD G ρ H d x:=by
 unfold atI at e⊢
 rw[<-r.length]
 cases e1:ixN ds.length i with
 |none=>rw[e1] at e;cases e
 |some j=>
  rw[e1] at e
  exact r.get j d e
theorem zdn{α:Type}{ds:List α}{i:Int}{d:α}(e:atI ds i=some d):d∈ds:=by
 unfold atI at e
 cases e1:ixN ds.length i with
 |none=>rw[e1] at e;cases e
 |some j=>
  rw[e1] at e
  exact List.mem_of_getElem? e
theorem zhT:OpOK G F (fun x y H Q=>rIxL G.K x y H Q\/rIxT G.K x y H Q) ixD:=by
 intro ρ s t t' v u H σv tv Q M W
 obtain⟨h1,h2⟩:=M.rd2
 unfold ixD at W
 cases e:seqD t with
 |none=>rw[e] at W;exact False.elim W
 |some ds=>
  rw[e] at W
  cases t' with
  |int i=>
   have W:wM G F σv tv (optM (atI ds i) s) Q:=W
   cases ea:atI ds i with
   |some d=>
    rw[ea] at W
    obtain⟨a,xs,rfl,sq,r,sub⟩:=h1.seq e
    obtain⟨x,ex,rx⟩:=zf8 r ea
    simp only[RD] at h2
    subst h2
    have fin:KD G.K H->Q x H:=fun _=>W.out M.m rx fun l hl=>M.lb2.1 l (sub l (labsL_mem (zdn ea) l hl))
    rcases sq with sq|sq
    ·exact .inl ⟨a,xs,i,x,rfl,rfl,sq,ex,fin⟩
    ·exact .inr ⟨a,xs,i,x,rfl,rfl,sq,ex,fin⟩
   |none=>rw[ea] at W;exact False.elim W
  |_=>exact False.elim W
theorem zf9:UnOK G F (rU fun i=> .int (-i)) negD:=by
 intro ρ s t v H σv tv Q M W
 unfold negD at W
 split at W
 ·have h:=M.rd1
  simp only[RD] at h
  exact⟨_,h,fun _=>W.flat M.m rfl⟩
 ·exact wfl W
end
section
variable{X:Cx}{G:Gx}{F:Fy}{e a b c:Expr}{pos:Pos}
theorem RDs.flat{ρ:Nat->Addr}{H:Hp}{ds:List D}{xs:List V}(r:RDs G ρ H ds xs): ∀k:Nat,RDs G ρ H (List.replicate k ds).flatten (List.replicate k xs).flatten
 |0=>by simp[RDs]
 |k+1=>by
  rw[List.replicate_succ,List.replicate_succ,List.flatten_cons,List.flatten_cons]
  exact r.append (RDs.flat r k)
theorem z3K{ds:List D}{l:Nat}: ∀k:Nat,l∈labsL (List.replicate k ds).flatten->l∈labsL ds
 |0,h=>by simp[labsL] at h
 |k+1,h=>by
  rw[List.replicate_succ,List.flatten_cons,z1K] at h
  rcases List.mem_append.mp h with h|h
  ·exact h
  ·exact z3K k h
theorem zfa:OpOK G F (fun x y H Q=>rI CMul (fun i j=> .int (i*j)) x y H Q\/(rRep x y H Q\/zdh G.K x y H Q)) mulD:=by
 intro ρ s t t' v u H σv tv Q M W
 unfold mulD at W
 split at W
 ·split at W
  ·rename_i hc
   obtain⟨rfl,rfl⟩:=z5I M
   exact .inl ⟨_,_,rfl,rfl,hc,fun _=>W.flat M.m rfl⟩
  ·exact wfl W
 ·split at W
  ·rename_i la a k hc
   obtain⟨h1,h2⟩:=M.rd2
   obtain⟨l1,l2⟩:=M.lb2
   simp only[RD] at h1 h2
   obtain⟨rfl,xs,s1,r1⟩:=h1
   subst h2
   refine .inr (.inl ⟨_,k,xs,rfl,rfl,s1,hc.1,hc.2.1,by rw[<-r1.length];exact hc.2.2,fun p hp kd=>z3J W M.m (r1.flat _) (fun l hl=> ?_) hp kd⟩)
   exact l1 l (by simp only[labs];exact List.mem_cons_of_mem _ (z3K _ hl))
  ·exact wfl W
 ·split at W
  ·rename_i a k hc
   obtain⟨h1,h2⟩:=M.rd2
   obtain⟨l1,l2⟩:=M.lb2
   simp only[RD] at h1 h2
   obtain⟨a',xs,rfl,s1,r1⟩:=h1
   subst h2
   refine .inr (.inr ⟨_,k,xs,rfl,rfl,SqT.of s1,by rw[<-r1.length];exact hc.1,hc.2.1,hc.2.2.1,by rw[<-r1.length];exact hc.2.2.2,fun p hp kd=>z9m W M.m (r1.flat _) (fun l hl=> ?_) hp kd⟩)
   exact l1 l (by simp only[labs];exact z3K _ hl)
  ·exact wfl W
 ·exact wfl W
noncomputable def cutA{α:Type}(xs:List α)(lo hi:Option Int):List α:=(xs.drop (HT.sIx xs.length 0 lo)).take (HT.sIx xs.length xs.length hi -HT.sIx xs.length 0 lo)
noncomputable def slD:D->Option Int->Option Int->M D
 | .tup ds,lo,hi=>rt (.tup (cutA ds lo hi))
 | .lst _ ds,lo,hi=>newL (cutA ds lo hi)
 | .ro ds,lo,hi=>newL (cutA ds lo hi)
 |_,_,_=>fl
theorem RDs.cut{ρ:Nat->Addr}{H:Hp}{ds:List D}{xs:List V}(r:RDs G ρ H ds xs)(lo hi:Option Int):RDs G ρ H (cutA ds lo hi) (cutV xs lo hi):=by
 unfold cutA cutV
 rw[r.length]
 exact(r.drop _).take _
theorem z4z{ds:List D}{lo hi:Option Int}{l:Nat}(h:l∈labsL (cutA ds lo hi)):l∈labsL ds:=by
 obtain⟨d,h1,h2⟩:=z1u h
 exact labsL_mem (List.mem_of_mem_drop (List.mem_of_mem_take h1)) l h2
noncomputable def mInt(d:D):Option Int:=match d with| .int i=>some i|_=>none
noncomputable def z2Y:Option (M D)->M (Option Int)
 |none=>rt none
 |some m=>bd m fun d=>match mInt d with|some i=>rt (some i)|none=>fl
noncomputable def tP(G:Gx)(F:Fy)(m:M (Option Int)):TO:=fun σv H Q=> ∃tv,F.tv0<:+tv/\∃ρ s,MR G F.toFx ρ H σv tv s/\(match m s with
 | .ok o s'=> ∀ρ' H',MR G F.toFx ρ' H' σv tv s'->Q o H'
 | .ex d s'=>F.xw d s'
 | .no=>False)
noncomputable def SO(X:Cx)(G:Gx)(F:Fy)(e:Option Expr)(m:Option (M D)):Prop:=PO X e (tP G F (z2Y m))
theorem so_none:SO X G F none none:=by
 intro pins s σ H Q I ⟨tv,hs,ρ,ms,M,W⟩
 exact zd0 pins s σ H Q I (W ρ H M)
theorem so_some{m:M D}(h:SE X G F e m):SO X G F (some e) (some m):=by
 intro pins s σ H Q I ⟨tv,hs,ρ,ms,M,W⟩
 refine zd1 h pins s σ H Q I ⟨tv,hs,ρ,ms,M, ?_⟩
 simp only[z2Y,bd] at W
 cases e1:m ms with
 |ok d s1=>
  rw[e1] at W
  intro ρ' v H' M'
  cases d with
  |int i=>
   have h:=M'.rd1
   simp only[RD] at h
   exact⟨i,h,W ρ' H' M'.m⟩
  |_=>exact False.elim W
 |ex d s1=>rw[e1] at W;exact W
 |no=>rw[e1] at W;exact W
noncomputable def mSl(m:M D)(lo hi:Option (M D)):M D:=bd m fun x=>bd (psh x) fun _=>bd (z2Y lo) fun l=>bd (z2Y hi) fun h=>bd pop fun x'=>slD x' l h
theorem zhU{ρ:Nat->Addr}{s:Stt}{t:D}{v:V}{H:Hp}{σv tv:List (Option V)}{lo hi:Option Int}{Q:VK}(M:MRL G F.toFx ρ H σv tv s [t] [v])(W:wM G F σv tv (slD t lo hi s) Q):
 rSlX G.K v lo hi H (fun w H'=>KD G.K H'->Q w H')\/rSlL G.K v lo hi H (fun w H'=>KD G.K H'->Q w H'):=by
 have h:=M.rd1
 cases t with
 |tup ds=>
  obtain⟨p,xs,rfl,s1,r1⟩:=h.tupx
  exact .inl ⟨p,xs,rfl,s1,z5H W M.m (r1.cut lo hi) fun l hl=>M.lb1 l (by simp only[labs];exact z4z hl)⟩
 |lst n ds=>
  obtain⟨p,xs,rfl,s1,r1,_⟩:=h.lstq (ds:=ds) rfl
  exact .inr ⟨p,xs,rfl,s1,fun q hq k=>z3J W M.m (r1.cut lo hi) (fun l hl=>M.lb1 l (by simp only[labs];exact List.mem_cons_of_mem _ (z4z hl))) hq k⟩
 |ro ds=>
  obtain⟨p,xs,rfl,s1,r1,_⟩:=h.lstq (ds:=ds) rfl
  exact .inr ⟨p,xs,rfl,s1,fun q hq k=>z3J W M.m (r1.cut lo hi) (fun l hl=>M.lb1 l (by simp only[labs];exact z4z hl)) hq k⟩
 |_=>exact False.elim W
theorem se_slice{lo hi:Option Expr}{p2:Pos}{m:M D}{ml mh:Option (M D)}(hk:X.K=G.K)(he:SE X G F e m)(hl:SO X G F lo ml)(hh:SO X G F hi mh):SE X G F (.Subscript e (.Slice lo hi none p2) pos) (mSl m ml mh):=by
 refine PE.imp hk (z7S (r:=fun x lo hi H Q=>rSlX X.K x lo hi H Q\/rSlL X.K x lo hi H Q) (SlR.or zdg zd5) he hl hh) fun σ H Q ⟨tv,h⟩=>⟨tv, ?_⟩
 obtain⟨hs,ρ,s,M,W⟩:=z4e h
 refine⟨hs,ρ,s,M,W.mono fun v H1 ⟨ρ1,s1,t,M1,W1⟩=>⟨some v::tv,suf1 hs,ρ1,s1.psh t,M1.push, ?_⟩⟩
 simp only[bd,psh] at W1
 cases e1:z2Y ml (s1.psh t) with
 |ex d s2=>rw[e1] at W1;exact W1
 |no=>rw[e1] at W1;exact W1
 |ok l s2=>
  rw[e1] at W1
  intro ρ2 H2 M2
  refine⟨some v::tv,suf1 hs,ρ2,s2,M2, ?_⟩
  dsimp only at W1
  cases e2:z2Y mh s2 with
  |ex d s3=>rw[e2] at W1;exact W1
  |no=>rw[e2] at W1;exact W1
  |ok h s3=>
   rw[e2] at W1
   intro ρ3 H3 M3
   simp only[pop] at W1
   cases e3:s3.tm with
   |nil=>rw[e3] at W1;exact W1.elim
   |cons o r=>
    cases o with
    |none=>rw[e3] at W1;exact W1.elim
    |some t'=>
     rw[e3] at W1
     have M4:MRL G F.toFx ρ3 H3 σ tv {s3 with tm:=r} [t'] [v]:=MRL.down (ts:=[]) (vs:=[]) ⟨M3,rfl,fun l h=>by simp[labsL] at h⟩ e3
     rw[hk]
     exact zhU M4 W1
noncomputable def tupD(ts:List D):M D:=if ts.length<=sizeLine then rt (.tup ts) else fl
noncomputable def lstM(ts:List D):M D:=if ts.length<=sizeLine then newL ts else fl
theorem zfb:z1r G F (fun xs H1 Q=>xs.length<=sizeLine/\∀p,H1 p=none->Q (.ref p) (upd H1 p (.tup xs))) tupD:=by
 intro ρ s ts vs H σv tv Q M W
 unfold tupD at W
 split at W
 ·rename_i hz
  exact⟨by rw[<-M.rd.length];exact hz,fun p hp k=>z9m W M.m M.rd M.lb hp k⟩
 ·exact wfl W
theorem zfc:z1r G F (fun xs H1 Q=>xs.length<=sizeLine/\∀p,H1 p=none->Q (.ref p) (upd H1 p (.lst xs))) lstM:=by
 intro ρ s ts vs H σv tv Q M W
 unfold lstM at W
 split at W
 ·rename_i hz
  exact⟨by rw[<-M.rd.length];exact hz,fun p hp k=>z3J W M.m M.rd M.lb hp k⟩
 ·exact wfl W
theorem se_tup{es:List Expr}{ms:List (M D)}{x1}(hk:X.K=G.K)(h:SA X G F es (mArgs ms)):SE X G F (.Tuple es x1 pos) (mCB ms tupD):=
 PE.imp hk (zeM h) fun _ _ _ h=>z4n zfb h
theorem se_lst{es:List Expr}{ms:List (M D)}(hk:X.K=G.K)(h:SA X G F es (mArgs ms)):SE X G F (.List es pos) (mCB ms lstM):=
 PE.imp hk (zeN h) fun _ _ _ h=>z4n zfc h
noncomputable def truD:D->M Bool
 | .non=>rt false
 | .bool b=>rt b
 | .int i=>rt (i !=0)
 | .str x=>if x.length<=sizeLine then rt ((x.length:Int) !=0) else fl
 | .tup ds=>rt (!ds.isEmpty)
 | .ro ds=>rt (!ds.isEmpty)
 | .lst _ ds=>rt (!ds.isEmpty)
 |_=>fl
noncomputable def z25(m:M D):M Bool:=bd m truD
theorem z3L{ρ:Nat->Addr}{H:Hp}{ds:List D}{xs:List V}(r:RDs G ρ H ds xs):(!ds.isEmpty)= !xs.isEmpty:=by
 have:=r.length
 cases ds<;>cases xs<;>simp at this⊢
theorem zfd{ρ:Nat->Addr}{s:Stt}{t:D}{v:V}{H:Hp}{σv tv:List (Option V)}{Q:Bool->Hp->Prop}(M:MRL G F.toFx ρ H σv tv s [t] [v])(W:wB G F σv tv (truD t s) Q): ∃k,TruV G.K v H k/\Q k H:=by
 have h:=M.rd1
 cases t with
 |non=>simp only[RD] at h;subst h;exact⟨false,rfl,W ρ H M.m⟩
 |bool b=>simp only[RD] at h;subst h;exact⟨b,rfl,W ρ H M.m⟩
 |int i=>simp only[RD] at h;subst h;exact⟨_,rfl,W ρ H M.m⟩
 |str x=>
  simp only[RD] at h;subst h
  unfold truD at W
  by_cases hz:x.length<=sizeLine
  ·simp only[if_pos hz] at W;exact⟨_,⟨hz,rfl⟩,W ρ H M.m⟩
  ·simp only[if_neg hz] at W;exact False.elim W
 |tup ds=>
  obtain⟨p,xs,rfl,s1,r1⟩:=h.tupq
  exact⟨_, .inr (.inl ⟨xs,s1,z3L r1⟩),W ρ H M.m⟩
 |ro ds=>
  obtain⟨p,xs,rfl,s1,r1,_⟩:=h.lstq (ds:=ds) rfl
  exact⟨_, .inl ⟨xs,s1,z3L r1⟩,W ρ H M.m⟩
 |lst n ds=>
  obtain⟨p,xs,rfl,s1,r1,_⟩:=h.lstq (ds:=ds) rfl
  exact⟨_, .inl ⟨xs,s1,z3L r1⟩,W ρ H M.m⟩
 |dct _ _ _=>exact False.elim W
 |fdc _ _=>exact False.elim W
 |obj _ _ _ _=>exact False.elim W
 |exc _=>exact False.elim W
 |fn _=>exact False.elim W
theorem zb4{m:M D}{σ:St}{H:Hp}{Q:Bool->Hp->Prop}(h:tMB G F (z25 m) σ H Q):tM G F m σ H fun x H'=> ∃k,TruV G.K x H' k/\Q k H':=by
 obtain⟨tv,hs,ρ,s,M,W⟩:=h
 refine⟨tv,hs,ρ,s,M, ?_⟩
 unfold z25 bd at W
 cases e:m s with
 |ok t s1=>rw[e] at W;exact fun ρ1 v H1 M1=>zfd M1 W
 |ex d s1=>rw[e] at W;exact W
 |no=>rw[e] at W;exact W
theorem sb_truth{m:M D}(hk:X.K=G.K)(ha:SE X G F a m)(he: ∀whole,isTrue a X.env whole=(do let v<-whole;standAt a.pos;holding [v] (truthy v)):=by intro _;rfl):SB X G F a (z25 m):=by
 refine PT.imp hk (zaU ha he) fun σ H Q h=> ?_
 rw[hk]
 obtain⟨tv,h'⟩:=zb4 h
 exact⟨tv,h'.mono fun v H1 ⟨k,q1,q2⟩=>⟨k,q1,fun _=>q2⟩⟩
noncomputable def booD:D->M Bool
 | .bool b=>rt b
 |_=>fl
noncomputable def mBoo(m:M D):M Bool:=bd m booD
theorem z7i{m:M D}{σ:St}{H:Hp}{Q:Bool->Hp->Prop}(h:tMB G F (mBoo m) σ H Q):tM G F m σ H fun x H'=> ∃k,x= .bl k/\Q k H':=by
 obtain⟨tv,hs,ρ,s,M,W⟩:=h
 refine⟨tv,hs,ρ,s,M, ?_⟩
 unfold mBoo bd at W
 cases e:m s with
 |ok t s1=>
  rw[e] at W
  intro ρ1 v H1 M1
  have h:=M1.rd1
  cases t with
  |bool b=>simp only[RD] at h;exact⟨b,h,W ρ1 H1 M1.m⟩
  |_=>exact False.elim W
 |ex d s1=>rw[e] at W;exact W
 |no=>rw[e] at W;exact W
theorem zdo{op:CmpOp}{r:R2}{ma mb:M D}{g:D->D->M D}(ho:OpR X (compareOp op) r)(hg:z1p G F r g)(ha:SE X G F a ma)(hb:SE X G F b mb)(hm:behindInMarks op b=false):SB X G F (.Compare a [op] [b] pos) (mBoo (mBin ma mb g)):=
 PT.imp0 (zcW ho ha hb hm) fun _ _ _ h=>z5F hg (z7i h)
theorem zdp{m:M Bool}{f:Bool->M Bool}{σ:St}{tv:List (Option V)}{H:Hp}{Q:Bool->Hp->Prop}(h:tBv G F (bd m f) σ tv H Q):tBv G F m σ tv H fun b H1=> ∃ρ1 s1,MR G F.toFx ρ1 H1 σ tv s1/\wB G F σ tv (f b s1) Q:=by
 obtain⟨hs,ρ,s,M,W⟩:=h
 refine⟨hs,ρ,s,M, ?_⟩
 unfold bd at W
 cases e:m s with
 |ok b s1=>rw[e] at W;exact fun ρ1 H1 M1=>⟨ρ1,s1,M1,W⟩
 |ex d s1=>rw[e] at W;exact W
 |no=>rw[e] at W;exact W
theorem wB.mono{σv tv:List (Option V)}{r:Res Bool}{Q Q':Bool->Hp->Prop}(h:wB G F σv tv r Q)(k: ∀v H,Q v H->Q' v H):wB G F σv tv r Q':=by
 cases r with
 |ok t s=>exact fun ρ H M=>k _ _ (h ρ H M)
 |ex d s=>exact h
 |no=>exact h
theorem tBv.mono{m:M Bool}{σv tv:List (Option V)}{H:Hp}{Q Q':Bool->Hp->Prop}(h:tBv G F m σv tv H Q)(k: ∀v H,Q v H->Q' v H):tBv G F m σv tv H Q':=by
 obtain⟨hs,ρ,s,M,W⟩:=h
 exact⟨hs,ρ,s,M,W.mono k⟩
noncomputable def iteM{α:Type}(b:Bool)(m m':M α):M α:=match b with|true=>m|false=>m'
noncomputable def mAnd(m m':M Bool):M Bool:=bd m fun b=>iteM b m' (rt false)
noncomputable def mOr(m m':M Bool):M Bool:=bd m fun b=>iteM b (rt true) m'
noncomputable def mNot(m:M Bool):M Bool:=bd m fun b=>rt (!b)
noncomputable def SW(X:Cx)(G:Gx)(F:Fy)(e:Expr)(m:M Bool):Prop:=PW X e (tMB G F m)
theorem SW.sb{m:M Bool}(h:SW X G F e m):SB X G F e m:=PW.pt h
theorem PW.imp0{t t':TT}(h:PW X e t)(hi: ∀σ H Q,t' σ H Q->t σ H Q):PW X e t':=fun wh pins s σ H Q I q=>h wh pins s σ H _ I (hi σ H Q q)
theorem sw_and1{m:M Bool}(h:SB X G F a m):SW X G F (.BoolOp .And [a] pos) m:=zcO h
theorem sw_or1{m:M Bool}(h:SB X G F a m):SW X G F (.BoolOp .Or [a] pos) m:=zew h
theorem sw_and{rest:List Expr}{m m':M Bool}(ha:SB X G F a m)(hb:SW X G F (.BoolOp .And (b::rest) pos) m'):SW X G F (.BoolOp .And (a::b::rest) pos) (mAnd m m'):=by
 refine PW.imp0 (zex ha hb) fun σ H Q ⟨tv,h⟩=>⟨tv,(zdp h).mono fun b H1 ⟨ρ1,s1,M1,W⟩=> ?_⟩
 cases b with
 |true=>rw[if_pos rfl];exact⟨tv,h.1,ρ1,s1,M1,W⟩
 |false=>rw[if_neg Bool.false_ne_true];exact W ρ1 H1 M1
theorem sw_or{rest:List Expr}{m m':M Bool}(ha:SB X G F a m)(hb:SW X G F (.BoolOp .Or (b::rest) pos) m'):SW X G F (.BoolOp .Or (a::b::rest) pos) (mOr m m'):=by
 refine PW.imp0 (zhk ha hb) fun σ H Q ⟨tv,h⟩=>⟨tv,(zdp h).mono fun b H1 ⟨ρ1,s1,M1,W⟩=> ?_⟩
 cases b with
 |true=>rw[if_pos rfl];exact W ρ1 H1 M1
 |false=>rw[if_neg Bool.false_ne_true];exact⟨tv,h.1,ρ1,s1,M1,W⟩
theorem sb_not{m:M Bool}(ha:SB X G F a m):SB X G F (.UnaryOp .Not a pos) (mNot m):=by
 refine PT.imp0 (zey ha) fun σ H Q ⟨tv,h⟩=>⟨tv,(zdp h).mono fun b H1 ⟨ρ1,s1,M1,W⟩=>W ρ1 H1 M1⟩
noncomputable def z1J(m m':M D):M D:=bd (mBoo m) fun b=>iteM b m' (rt (.bool false))
noncomputable def mOrV(m m':M D):M D:=bd (mBoo m) fun b=>iteM b (rt (.bool true)) m'
noncomputable def z3M(m:M D):M D:=bd (mBoo m) fun b=>rt (.bool (!b))
theorem z9n{m:M D}{f:Bool->M D}{σ:St}{H:Hp}{Q:VK}(h:tM G F (bd (mBoo m) f) σ H Q):tM G F m σ H fun x H1=> ∃k,x= .bl k/\∃ρ1 s1 tv,F.tv0<:+tv/\MR G F.toFx ρ1 H1 σ tv s1/\wM G F σ tv (f k s1) Q:=by
 obtain⟨tv,hs,ρ,s,M,W⟩:=h
 refine⟨tv,hs,ρ,s,M, ?_⟩
 unfold mBoo bd at W
 cases e:m s with
 |ok t s1=>
  rw[e] at W
  intro ρ1 v H1 M1
  have h:=M1.rd1
  cases t with
  |bool b=>simp only[RD] at h;exact⟨b,h,ρ1,s1,tv,hs,M1.m,W⟩
  |_=>exact False.elim W
 |ex d s1=>rw[e] at W;exact W
 |no=>rw[e] at W;exact W
theorem tM.mono{m:M D}{σ:St}{H:Hp}{Q Q':VK}(h:tM G F m σ H Q)(k: ∀v H,Q v H->Q' v H):tM G F m σ H Q':=by
 obtain⟨tv,h⟩:=h
 exact⟨tv,h.mono k⟩
theorem se_one{op}{m:M D}(h:SE X G F a m):SE X G F (.BoolOp op [a] pos) m:=zez h
theorem se_and{rest:List Expr}{m m':M D}(ha:SE X G F a m)(hb:SE X G F (.BoolOp .And (b::rest) pos) m'):SE X G F (.BoolOp .And (a::b::rest) pos) (z1J m m'):=by
 refine PE.imp0 (zeA ha hb) fun σ H Q h=>(z9n h).mono fun x H1 ⟨k,e,ρ1,s1,tv,hs,M1,W⟩=>⟨k,e, ?_⟩
 cases k with
 |true=>rw[if_pos rfl];exact⟨tv,hs,ρ1,s1,M1,W⟩
 |false=>rw[if_neg Bool.false_ne_true];exact W.flat M1 rfl
theorem se_or{rest:List Expr}{m m':M D}(ha:SE X G F a m)(hb:SE X G F (.BoolOp .Or (b::rest) pos) m'):SE X G F (.BoolOp .Or (a::b::rest) pos) (mOrV m m'):=by
 refine PE.imp0 (zhn ha hb) fun σ H Q h=>(z9n h).mono fun x H1 ⟨k,e,ρ1,s1,tv,hs,M1,W⟩=>⟨k,e, ?_⟩
 cases k with
 |true=>rw[if_pos rfl];exact W.flat M1 rfl
 |false=>rw[if_neg Bool.false_ne_true];exact⟨tv,hs,ρ1,s1,M1,W⟩
theorem se_not{m:M D}(ha:SE X G F a m):SE X G F (.UnaryOp .Not a pos) (z3M m):=by
 refine PE.imp0 (zeB ha) fun σ H Q h=>(z9n h).mono fun x H1 ⟨k,e,ρ1,s1,tv,hs,M1,W⟩=>⟨k,e,W.flat M1 rfl⟩
noncomputable def mIf(c:M Bool)(m m':M D):M D:=bd c fun b=>iteM b m m'
theorem zfe{m:M Bool}{f:Bool->M D}{σ:St}{H:Hp}{Q:VK}(h:tM G F (bd m f) σ H Q):tMB G F m σ H fun b H1=> ∃ρ1 s1 tv,F.tv0<:+tv/\MR G F.toFx ρ1 H1 σ tv s1/\wM G F σ tv (f b s1) Q:=by
 obtain⟨tv,hs,ρ,s,M,W⟩:=h
 refine⟨tv,hs,ρ,s,M, ?_⟩
 unfold bd at W
 cases e:m s with
 |ok b s1=>rw[e] at W;exact fun ρ1 H1 M1=>⟨ρ1,s1,tv,hs,M1,W⟩
 |ex d s1=>rw[e] at W;exact W
 |no=>rw[e] at W;exact W
theorem tMB.mono{m:M Bool}{σ:St}{H:Hp}{Q Q':Bool->Hp->Prop}(h:tMB G F m σ H Q)(k: ∀v H,Q v H->Q' v H):tMB G F m σ H Q':=by
 obtain⟨tv,h⟩:=h
 exact⟨tv,h.mono k⟩
theorem se_ifExp{mc:M Bool}{m m':M D}(hc:SB X G F c mc)(ha:SE X G F a m)(hb:SE X G F b m'):SE X G F (.IfExp c a b pos) (mIf mc m m'):=by
 refine PE.imp0 (zaN hc ha hb) fun σ H Q h=>(zfe h).mono fun k H1 ⟨ρ1,s1,tv,hs,M1,W⟩=> ?_
 cases k with
 |true=>rw[if_pos rfl];exact⟨tv,hs,ρ1,s1,M1,W⟩
 |false=>rw[if_neg Bool.false_ne_true];exact⟨tv,hs,ρ1,s1,M1,W⟩
noncomputable def z3N(y:D)(m:M D):M D:=match cV y with|some _=>m|none=>fl
noncomputable def z0P(ma mb mc:M D)(g g':D->D->M D):M D:=bd ma fun x=>bd (psh x) fun _=>bd mb fun y=>bd pop fun x'=>z3N y (bd (mBoo (g x' y)) fun k=>iteM k (bd mc fun z=>g' y z) (rt (.bool false)))
theorem z6J{ma mb mc:M D}{g g':D->D->M D}{r r':R2}{σ:St}{H:Hp}{Q:VK}(hg:z1p G F r g)(hg':z1p G F r' g')(h:tM G F (z0P ma mb mc g g') σ H Q):z90 r r' (tM G F ma) (tM G F mb) (tM G F mc) σ H Q:=by
 obtain⟨tv,h⟩:=h
 have hs:=h.1
 refine⟨tv,(z6H (g:=fun x' y=>z3N y (bd (mBoo (g x' y)) fun k=>iteM k (bd mc fun z=>g' y z) (rt (.bool false)))) h).mono fun v H1 h1=>⟨_,h1.mono fun u H2 ⟨ρ,s,t,t',M,W⟩=> ?_⟩⟩
 unfold z3N at W
 cases e:cV t' with
 |none=>rw[e] at W;exact False.elim W
 |some u'=>
  rw[e] at W
  have hu:u=u':=by
   have h2:=M.rd2.2
   cases t'<;>simp only[cV,Option.some.injEq] at e<;>simp only[RD] at h2<;>first|(rw[h2,e])|cases e
  subst hu
  unfold bd mBoo at W
  dsimp only at W
  refine hg ρ s t t' v u H2 σ tv _ M ?_
  unfold bd at W
  cases e2:g t t' s with
  |ok z s1=>
   rw[e2] at W
   intro ρ1 w H3 M3
   have h3:=M3.rd1
   cases z with
   |bool k=>
    simp only[RD] at h3
    refine⟨k,h3, ?_⟩
    have W:wM G F σ tv (iteM k (bd mc fun z=>g' t' z) (rt (.bool false)) s1) Q:=W
    cases k with
    |false=>rw[if_neg Bool.false_ne_true];exact W.flat M3.m rfl
    |true=>
     rw[if_pos rfl]
     have h5:tMv G F (bd mc fun z=>g' t' z) σ tv H3 Q:=⟨hs,ρ1,s1,M3.m,W⟩
     refine⟨tv,(z4e h5).mono fun w' H4 ⟨ρ4,s4,t4,M4,W4⟩=>hg' ρ4 s4 t' t4 u w' H4 σ tv Q ⟨M4.m, ?_,fun l hl=> ?_⟩ W4⟩
     ·simp only[RDs];exact⟨_,_,rfl,(z5G e).1,_,_,rfl,M4.rd1,rfl⟩
     ·simp only[labsL,(z5G (G:=G) (ρ:=ρ4) (H:=H4) e).2,List.nil_append,List.append_nil] at hl
      exact M4.lb1 l hl
   |_=>exact False.elim W
  |ex d s1=>rw[e2] at W;exact W
  |no=>rw[e2] at W;exact W
theorem zb5{op op':CmpOp}{r r':R2}{ma mb mc:M D}{g g':D->D->M D}(ho:OpR X (compareOp op) r)(hg:z1p G F r g)(ho':OpR X (compareOp op') r')(hg':z1p G F r' g')(ha:SE X G F a ma)(hb:SE X G F b mb)(hc:SE X G F c mc)
 (hm:lastMarks [op,op'] [b,c]=false:=by with_unfolding_all rfl):SE X G F (.Compare a [op,op'] [b,c] pos) (z0P ma mb mc g g'):=
 PE.imp0 (zaS ho ho' ha hb hc hm) fun _ _ _ h=>z6J hg hg' h
theorem zb6{op op':CmpOp}{r r':R2}{ma mb mc:M D}{g g':D->D->M D}(ho:OpR X (compareOp op) r)(hg:z1p G F r g)(ho':OpR X (compareOp op') r')(hg':z1p G F r' g')(ha:SE X G F a ma)(hb:SE X G F b mb)(hc:SE X G F c mc)
 (hm:lastMarks [op,op'] [b,c]=false:=by with_unfolding_all rfl):SB X G F (.Compare a [op,op'] [b,c] pos) (mBoo (z0P ma mb mc g g')):=
 PT.imp0 (zaT ho ho' ha hb hc hm) fun _ _ _ h=>z6J hg hg' (z7i h)
end
noncomputable def lenD:List D->M D
 |[.tup ds]=>rt (.int ds.length)
 |[.ro ds]=>rt (.int ds.length)
 |[.lst _ ds]=>rt (.int ds.length)
 |_=>fl
noncomputable def absD:List D->M D
 |[.int i]=>rt (.int (if i<0 then -i else i))
 |_=>fl
noncomputable def minD:List D->M D
 |[.int i, .int j]=>rt (.int (if j<i then j else i))
 |_=>fl
noncomputable def maxD:List D->M D
 |[.int i, .int j]=>rt (.int (if j>i then j else i))
 |_=>fl
noncomputable def z1Y:List D->Option (List Bool)
 |[]=>some []
 | .bool b::r=>(z1Y r).map (b:: ·)
 |_=>none
noncomputable def allD:List D->M D
 |[.lst _ ds]=>match z1Y ds with|some bs=>rt (.bool (bs.all id))|none=>fl
 |_=>fl
noncomputable def intD:List D->M D
 |[.int i]=>rt (.int i)
 |[.bool b]=>rt (.int (if b then 1 else 0))
 |_=>fl
noncomputable def tupF:List D->M D
 |[.tup ds]=>rt (.tup ds)
 |[.ro ds]=>rt (.tup ds)
 |[.lst _ ds]=>rt (.tup ds)
 |_=>fl
section
variable{X:Cx}{G:Gx}{F:Fy}{e a b c:Expr}{pos:Pos}
theorem MRL.one{ρ:Nat->Addr}{H:Hp}{σv tv:List (Option V)}{s:Stt}{t:D}{vs:List V}(M:MRL G F.toFx ρ H σv tv s [t] vs): ∃v,vs=[v]/\RD G ρ H t v/\LB F.toFx ρ s.n (labs t):=by
 have h:=M.rd
 simp only[RDs] at h
 obtain⟨v,r,rfl,h,rfl⟩:=h
 exact⟨v,rfl,h,M.lb1⟩
theorem MRL.two{ρ:Nat->Addr}{H:Hp}{σv tv:List (Option V)}{s:Stt}{t t':D}{vs:List V}(M:MRL G F.toFx ρ H σv tv s [t,t'] vs): ∃v u,vs=[v,u]/\RD G ρ H t v/\RD G ρ H t' u:=by
 have h:=M.rd
 simp only[RDs] at h
 obtain⟨v,r,rfl,h,u,q,rfl,h',rfl⟩:=h
 exact⟨v,u,rfl,h,h'⟩
theorem zbX:z1r G F (fun xs H Q=> ∃p ys,xs=[.ref p]/\(SqL G.K H p ys\/SqT G.K H p ys)/\Q (.int ys.length) H) lenD:=by
 intro ρ s ts vs H σv tv Q M W
 unfold lenD at W
 split at W
 ·obtain⟨v,rfl,h,_⟩:=M.one
  obtain⟨p,xs,rfl,s1,r1,_⟩:=h.seq rfl
  exact⟨p,xs,rfl,s1,fun _=>by rw[<-r1.length];exact W.flat M.m rfl⟩
 ·obtain⟨v,rfl,h,_⟩:=M.one
  obtain⟨p,xs,rfl,s1,r1,_⟩:=h.seq rfl
  exact⟨p,xs,rfl,s1,fun _=>by rw[<-r1.length];exact W.flat M.m rfl⟩
 ·obtain⟨v,rfl,h,_⟩:=M.one
  obtain⟨p,xs,rfl,s1,r1,_⟩:=h.seq rfl
  exact⟨p,xs,rfl,s1,fun _=>by rw[<-r1.length];exact W.flat M.m rfl⟩
 ·exact wfl W
theorem zff:z1r G F (fun xs H Q=> ∃i,xs=[.int i]/\Q (.int (if i<0 then -i else i)) H) absD:=by
 intro ρ s ts vs H σv tv Q M W
 unfold absD at W
 split at W
 ·obtain⟨v,rfl,h,_⟩:=M.one
  simp only[RD] at h
  subst h
  exact⟨_,rfl,fun _=>W.flat M.m rfl⟩
 ·exact wfl W
theorem zfg:z1r G F (fun xs H Q=> ∃i j,xs=[.int i, .int j]/\Q (.int (if j<i then j else i)) H) minD:=by
 intro ρ s ts vs H σv tv Q M W
 unfold minD at W
 split at W
 ·obtain⟨v,u,rfl,h,h'⟩:=M.two
  simp only[RD] at h h'
  subst h h'
  exact⟨_,_,rfl,fun _=>W.flat M.m rfl⟩
 ·exact wfl W
theorem zfh:z1r G F (fun xs H Q=> ∃i j,xs=[.int i, .int j]/\Q (.int (if j>i then j else i)) H) maxD:=by
 intro ρ s ts vs H σv tv Q M W
 unfold maxD at W
 split at W
 ·obtain⟨v,u,rfl,h,h'⟩:=M.two
  simp only[RD] at h h'
  subst h h'
  exact⟨_,_,rfl,fun _=>W.flat M.m rfl⟩
 ·exact wfl W
theorem z7X{ρ:Nat->Addr}{H:Hp}: ∀{ds:List D} {xs:List V} {bs:List Bool},RDs G ρ H ds xs->z1Y ds=some bs->xs=bs.map V.bl
 |[],xs,bs,r,e=>by simp only[RDs] at r;simp only[z1Y,Option.some.injEq] at e;subst r e;rfl
 |d::ds,xs,bs,r,e=>by
  simp only[RDs] at r
  obtain⟨x,q,rfl,h1,h2⟩:=r
  cases d with
  |bool b=>
   simp only[z1Y] at e
   cases e1:z1Y ds with
   |none=>rw[e1] at e;cases e
   |some cs=>
    rw[e1] at e
    cases e
    simp only[RD] at h1
    rw[h1,z7X h2 e1];rfl
  |_=>simp only[z1Y] at e;cases e
theorem zfi:z1r G F (fun xs H Q=> ∃(p:Addr) (bs:List Bool),xs=[.ref p]/\SqL G.K H p (bs.map V.bl)/\Q (.bl (bs.all id)) H) allD:=by
 intro ρ s ts vs H σv tv Q M W
 unfold allD at W
 split at W
 ·rename_i l ds
  cases e1:z1Y ds with
  |none=>rw[e1] at W;exact False.elim W
  |some bs=>
   rw[e1] at W
   obtain⟨v,rfl,h,_⟩:=M.one
   obtain⟨p,xs,rfl,s1,r1,_⟩:=h.lstq (ds:=ds) rfl
   rw[z7X r1 e1] at s1
   exact⟨p,bs,rfl,s1,fun _=>W.flat M.m rfl⟩
 ·exact wfl W
theorem zbY:z1r G F (fun xs H Q=>(∃i,xs=[.int i]/\Q (.int i) H)\/∃k,xs=[.bl k]/\Q (.int (if k then 1 else 0)) H) intD:=by
 intro ρ s ts vs H σv tv Q M W
 unfold intD at W
 split at W
 ·obtain⟨v,rfl,h,_⟩:=M.one
  simp only[RD] at h
  subst h
  exact .inl ⟨_,rfl,fun _=>W.flat M.m rfl⟩
 ·obtain⟨v,rfl,h,_⟩:=M.one
  simp only[RD] at h
  subst h
  exact .inr ⟨_,rfl,fun _=>W.flat M.m rfl⟩
 ·exact wfl W
theorem zdq:z1r G F (fun xs H Q=> ∃(p:Addr) (ys:List V),xs=[.ref p]/\(SqL G.K H p ys\/H p=some (.tup ys))/\NewX G.K H ys Q) tupF:=by
 intro ρ s ts vs H σv tv Q M W
 have fin: ∀(t:D) (ds:List D),ts=[t]->seqD t=some ds->wM G F σv tv (.ok (.tup ds) s) Q->∃(p:Addr) (ys:List V),vs=[.ref p]/\(SqL G.K H p ys\/H p=some (.tup ys))/\NewX G.K H ys (fun w H'=>KD G.K H'->Q w H'):=fun t ds et es W'=>by
  subst et
  obtain⟨v,rfl,h,lb⟩:=M.one
  obtain⟨p,xs,rfl,s1,r1,sub⟩:=h.seqx es
  exact⟨p,xs,rfl,s1,z5H W' M.m r1 fun l hl=>lb l (sub l hl)⟩
 unfold tupF at W
 split at W
 ·exact fin _ _ rfl rfl W
 ·exact fin _ _ rfl rfl W
 ·exact fin _ _ rfl rfl W
 ·exact wfl W
noncomputable def isiD(T:String):D->Option Bool
 | .non=>some false
 | .bool _=>some (T== "int" ||T== "bool")
 | .int _=>some (T== "int")
 | .str _=>some (T== "str")
 | .tup _=>some (T== "tuple")
 | .ro _=>some (T== "list")
 | .lst _ _=>some (T== "list")
 |_=>none
noncomputable def mIsi(T:String)(m:M D):M D:=bd m fun d=>match isiD T d with|some b=>rt (.bool b)|none=>fl
theorem zfj{ρ:Nat->Addr}{H:Hp}{t:D}{v:V}{T:String}{b:Bool}(h:RD G ρ H t v)(e:isiD T t=some b):isiV G.K H T b v:=by
 cases t<;>simp only[isiD,Option.some.injEq] at e<;>try cases e
 ·simp only[RD] at h;subst h;exact rfl
 ·simp only[RD] at h;subst h;exact rfl
 ·simp only[RD] at h;subst h;exact rfl
 ·simp only[RD] at h;subst h;exact rfl
 ·obtain⟨p,xs,rfl,s1,r1⟩:=h.tupq
  exact .inl ⟨xs,s1,rfl⟩
 ·obtain⟨p,xs,rfl,s1,r1,_⟩:=h.lstq rfl
  exact .inr ⟨xs,s1,rfl⟩
 ·obtain⟨p,xs,rfl,s1,r1,_⟩:=h.lstq rfl
  exact .inr ⟨xs,s1,rfl⟩
theorem se_isi{p:Pos}{x y:Expr}{T:String}{m:M D}(hk:X.K=G.K)(hT:T= "int" \/T= "bool" \/T= "tuple" \/T= "list" \/T= "str")(hgl:Gl X "isinstance")(hm:X.mg "isinstance" =none)(ha:SE X G F x m)(hy:PE X y (tC (.ty T)))
 (he:starEach [x,y] X.env=(false,eval x X.env)::starEach [y] X.env:=by rfl) (he2:starEach [y] X.env=(false,eval y X.env)::starEach [] X.env:=by rfl) (hpl:(backTo pos (starEach [y] X.env)).any (·.1)=false:=by rfl):SE X G F (.Call (.Name "isinstance" p) [x,y] [] pos) (mIsi T m):=by
 refine PE.imp hk (z4i zb2 hgl hm PyProof.Rows.Boot.«isinstance» (z0g ha (z0g hy z42 he2) he) (by decide) (by decide) he hpl) fun σ H Q ⟨tv,h⟩=>⟨tv,(z4e h).mono fun v H1 ⟨ρ1,s1,t,M1,W⟩=> ?_⟩
 cases e:isiD T t with
 |none=>simp only[e] at W;exact False.elim W
 |some b=>
  simp only[e] at W
  rw[hk]
  exact⟨v,T,b,rfl,hT,zfj M1.rd1 e,fun _=>W.flat M1.m rfl⟩
end
inductive RS where
 |nx (s:Stt)|rt (d:D) (s:Stt)|bk (s:Stt)|ct (s:Stt)|ex (d:D) (s:Stt)|no
noncomputable abbrev MS:=Stt->RS
noncomputable def lift{α:Type}(m:M α)(f:α->MS):MS:=fun s=>match m s with
 | .ok a s'=>f a s'
 | .ex d s'=> .ex d s'
 | .no=> .no
noncomputable def seqS(m m':MS):MS:=fun s=>match m s with
 | .nx s'=>m' s'
 |r=>r
noncomputable def sNx:MS:=fun s=> .nx s
noncomputable def z7j(m:M D):MS:=lift m fun _=>sNx
noncomputable def sRet(m:M D):MS:=lift m fun d s=> .rt d s
noncomputable def iteS(b:Bool)(m m':MS):MS:=match b with|true=>m|false=>m'
noncomputable def sIf(c:M Bool)(m m':MS):MS:=lift c fun b=>iteS b m m'
inductive Tg where
 |nm (i:Nat)|tp (ts:List Tg)
mutual
noncomputable def asg:Tg->D->List (Option D)->Option (List (Option D))
 | .nm i,t,σ=>some (σ.set i (some t))
 | .tp ts, .tup ds,σ=>asgL ts ds σ
 | .tp ts, .lst _ ds,σ=>asgL ts ds σ
 | .tp _,_,_=>none
noncomputable def asgL:List Tg->List D->List (Option D)->Option (List (Option D))
 |[],[],σ=>some σ
 |t::ts,d::ds,σ=>match asg t d σ with|some σ'=>asgL ts ds σ'|none=>none
 |_,_,_=>none
end
noncomputable def sAsg(g:Tg)(m:M D):MS:=lift m fun d s=>match asg g d s.σ with
 |some σ'=> .nx {s with σ:=σ'}
 |none=> .no
section
variable{X:Cx}{G:Gx}{F:Fy}{e a b c:Expr}{st:Stmt}{sts rest:List Stmt}{pos:Pos}
noncomputable def wS(G:Gx)(F:Fy)(tv:List (Option V))(r:RS)(D:Ends):Prop:=match r with
 | .nx s'=> ∀ρ' σv' H',MR G F.toFx ρ' H' σv' tv s'->D.nx σv' H'
 | .rt t s'=> ∀ρ' σv' v H',MRL G F.toFx ρ' H' σv' tv s' [t] [v]->D.rt v H'
 | .bk s'=> ∀ρ' σv' H',MR G F.toFx ρ' H' σv' tv s'->D.bk σv' H'
 | .ct s'=> ∀ρ' σv' H',MR G F.toFx ρ' H' σv' tv s'->D.ct σv' H'
 | .ex d s'=>F.xw d s'
 | .no=>False
noncomputable def tSv(G:Gx)(F:Fy)(m:MS)(tv:List (Option V))(D:Ends)(σv:St)(H:Hp):Prop:=F.tv0<:+tv/\∃ρ s,MR G F.toFx ρ H σv tv s/\wS G F tv (m s) D
noncomputable def tS(G:Gx)(F:Fy)(m:MS):TS:=fun D σv H=> ∃tv,tSv G F m tv D σv H
noncomputable def SS(X:Cx)(G:Gx)(F:Fy)(st:Stmt)(m:MS):Prop:=PS X st (tS G F m)
noncomputable def SSs(X:Cx)(G:Gx)(F:Fy)(sts:List Stmt)(m:MS):Prop:=PSs X sts (tS G F m)
theorem PS.imp0{t t':TS}(h:PS X st t)(hi: ∀D σ H,t' D σ H->t D σ H):PS X st t':=fun pins s σ H D I q=>h pins s σ H D I (hi D σ H q)
theorem PSs.imp0{t t':TS}(h:PSs X sts t)(hi: ∀D σ H,t' D σ H->t D σ H):PSs X sts t':=fun pins s σ H D I q=>h pins s σ H D I (hi D σ H q)
theorem ss_nil:SSs X G F [] sNx:=PSs.imp0 zcP fun D σ H ⟨tv,hs,ρ,s,M,W⟩=>W ρ σ H M
theorem ss_cons{m m':MS}(h1:SS X G F st m)(h2:SSs X G F rest m'):SSs X G F (st::rest) (seqS m m'):=by
 refine PSs.imp0 (zaO h1 h2) fun D σ H ⟨tv,hs,ρ,s,M,W⟩=>⟨tv,hs,ρ,s,M, ?_⟩
 unfold seqS at W
 cases e:m s with
 |nx s'=>rw[e] at W;exact fun ρ' σv' H' M'=>⟨tv,hs,ρ',s',M',W⟩
 |rt d s'=>rw[e] at W;exact W
 |bk s'=>rw[e] at W;exact W
 |ct s'=>rw[e] at W;exact W
 |ex d s'=>rw[e] at W;exact W
 |no=>rw[e] at W;exact W
theorem ss_one{m:MS}(h1:SS X G F st m):SSs X G F [st] m:=zcQ h1
theorem z2V{m:M D}{f:D->MS}{tv:List (Option V)}{D:Ends}{σ:St}{H:Hp}(h:tSv G F (lift m f) tv D σ H):tMv G F m σ tv H fun v H1=> ∃ρ1 s1 t,MRL G F.toFx ρ1 H1 σ tv s1 [t] [v]/\wS G F tv (f t s1) D:=by
 obtain⟨hs,ρ,s,M,W⟩:=h
 refine⟨hs,ρ,s,M, ?_⟩
 unfold lift at W
 cases e:m s with
 |ok t s1=>rw[e] at W;exact fun ρ1 v H1 M1=>⟨ρ1,s1,t,M1,W⟩
 |ex d s1=>rw[e] at W;exact W
 |no=>rw[e] at W;exact W
theorem z9o{m:M Bool}{f:Bool->MS}{tv:List (Option V)}{D:Ends}{σ:St}{H:Hp}(h:tSv G F (lift m f) tv D σ H):tBv G F m σ tv H fun b H1=> ∃ρ1 s1,MR G F.toFx ρ1 H1 σ tv s1/\wS G F tv (f b s1) D:=by
 obtain⟨hs,ρ,s,M,W⟩:=h
 refine⟨hs,ρ,s,M, ?_⟩
 unfold lift at W
 cases e:m s with
 |ok t s1=>rw[e] at W;exact fun ρ1 H1 M1=>⟨ρ1,s1,M1,W⟩
 |ex d s1=>rw[e] at W;exact W
 |no=>rw[e] at W;exact W
theorem ss_expr{m:M D}(he:SE X G F e m)(hs:swapsWith e none pos.line X.env=pure false:=by rfl):SS X G F (.Expr e pos) (z7j m):=
 PS.imp0 (zcR he hs) fun D σ H ⟨tv,h⟩=>⟨tv,(z2V h).mono fun v H1 ⟨ρ1,s1,t,M1,W⟩=>W ρ1 σ H1 M1.m⟩
theorem ss_ret{m:M D}(he:SE X G F e m):SS X G F (.Return (some e) pos) (sRet m):=
 PS.imp0 (zeC he) fun D σ H ⟨tv,h⟩=>⟨tv,(z2V h).mono fun v H1 ⟨ρ1,s1,t,M1,W⟩=>W ρ1 σ v H1 M1⟩
theorem ss_if{x y:List Stmt}{mc:M Bool}{m m':MS}(hc:SB X G F c mc)(ha:SSs X G F x m)(hb:SSs X G F y m'):SS X G F (.If c x y pos) (sIf mc m m'):=by
 refine PS.imp0 (zhq hc ha hb) fun D σ H ⟨tv,h⟩=>⟨tv,(z9o h).mono fun k H1 ⟨ρ1,s1,M1,W⟩=> ?_⟩
 cases k with
 |true=>rw[if_pos rfl];exact⟨tv,h.1,ρ1,s1,M1,W⟩
 |false=>rw[if_neg Bool.false_ne_true];exact⟨tv,h.1,ρ1,s1,M1,W⟩
noncomputable def tGn(G:Gx)(F:Fy)(g:Tg):TG:=fun v σv H Q=> ∃tv ρ s t,MRL G F.toFx ρ H σv tv s [t] [v]/\∃σ',asg g t s.σ=some σ'/\∀σv',MR G F.toFx ρ H σv' tv {s with σ:=σ'}->Q σv' H
noncomputable def tGs(G:Gx)(F:Fy)(g:List Tg):TGs:=fun vs σv H Q=> ∃tv ρ s ts,MRL G F.toFx ρ H σv tv s ts vs/\∃σ',asgL g ts s.σ=some σ'/\∀σv',MR G F.toFx ρ H σv' tv {s with σ:=σ'}->Q σv' H
noncomputable def SG(X:Cx)(G:Gx)(F:Fy)(tg:Expr)(g:Tg):Prop:=PG X tg (tGn G F g)
noncomputable def SGs(X:Cx)(G:Gx)(F:Fy)(tgs:List Expr)(g:List Tg):Prop:=PGs X tgs (tGs G F g)
theorem MRL.setS{ρ:Nat->Addr}{H:Hp}{σv tv:List (Option V)}{s:Stt}{t:D}{v:V}{ts:List D}{vs:List V}(i:Nat)(M:MRL G F.toFx ρ H σv tv s (t::ts) (v::vs)):MRL G F.toFx ρ H (σv.set i (some v)) tv {s with σ:=s.σ.set i (some t)} ts vs:=by
 have h:=M.rd
 simp only[RDs] at h
 obtain⟨_,_,e,h1,h2⟩:=h
 cases e
 have lb1: ∀l∈labs t,l<s.n/\(F.A0 (ρ l)\/F.H0 (ρ l)=none):=fun l h=>M.lb l (by simp only[labsL];exact List.mem_append_left _ h)
 have all: ∀l∈z0Q {s with σ:=s.σ.set i (some t)},l<s.n/\(F.A0 (ρ l)\/F.H0 (ρ l)=none):=fun l h=>by
  rcases List.mem_append.mp h with h|h
  ·rcases z4y l h with q|q
   ·exact⟨M.m.lab l (List.mem_append_left _ q),M.m.own l (List.mem_append_left _ q)⟩
   ·exact lb1 l q
  ·exact⟨M.m.lab l (List.mem_append_right _ h),M.m.own l (List.mem_append_right _ h)⟩
 exact⟨⟨M.m.sl.set i h1,M.m.tm,M.m.inj,M.m.dom,fun l h=>(all l h).1,fun l h=>(all l h).2,M.m.frm,M.m.kd,M.m.frb,M.m.bas⟩,h2,fun l h=>M.lb l (by simp only[labsL];exact List.mem_append_right _ h)⟩
theorem sg_name{i:Nat}{x:Str}{p:Pos}(h:PG X (.Name x p) (z8n i)):SG X G F (.Name x p) (.nm i):=by
 intro pins s σ H v u Q I r ⟨tv,ρ,ms,t,M,σ',e,k⟩
 simp only[asg,Option.some.injEq] at e
 subst e
 exact h pins s σ H v u Q I r (k _ (M.setS i).m)
theorem sgs_nil:SGs X G F [] []:=by
 intro pins s σ H vs us Q I r ⟨tv,ρ,ms,ts,M,σ',e,k⟩
 cases ts with
 |nil=>
  simp only[asgL,Option.some.injEq] at e
  subst e
  have h:=M.rd
  simp only[RDs] at h
  exact zcS pins s σ H vs us Q I r ⟨h,k _ M.m⟩
 |cons d ds=>simp only[asgL] at e;cases e
theorem MRL.cons_inv{ρ:Nat->Addr}{H:Hp}{σv tv:List (Option V)}{s:Stt}{t:D}{ts:List D}{vs:List V}(M:MRL G F.toFx ρ H σv tv s (t::ts) vs): ∃v r,vs=v::r/\MRL G F.toFx ρ H σv tv s [t] [v]/\RDs G ρ H ts r/\LB F.toFx ρ s.n (labsL ts):=by
 have h:=M.rd
 simp only[RDs] at h
 obtain⟨v,r,rfl,h1,h2⟩:=h
 exact⟨v,r,rfl,⟨M.m,RDs.one h1,fun l h=>M.lb l (by simp only[labsL,List.append_nil] at h⊢;exact List.mem_append_left _ h)⟩,h2,fun l h=>M.lb l (by simp only[labsL];exact List.mem_append_right _ h)⟩
theorem PGs.imp0{es:List Expr}{t t':TGs}(h:PGs X es t)(hi: ∀vs σ H Q,t' vs σ H Q->t vs σ H Q):PGs X es t':=fun pins s σ H vs us Q I r q=>h pins s σ H vs us Q I r (hi vs σ H Q q)
theorem PG.imp0{t t':TG}(h:PG X e t)(hi: ∀v σ H Q,t' v σ H Q->t v σ H Q):PG X e t':=fun pins s σ H v u Q I r q=>h pins s σ H v u Q I r (hi v σ H Q q)
theorem sgs_cons{es:List Expr}{g:Tg}{gs:List Tg}(h1:SG X G F e g)(h2:SGs X G F es gs)(hs:(assignEach (e::es) X.env).map (·.2)=assign e X.env::(assignEach es X.env).map (·.2):=by rfl):SGs X G F (e::es) (g::gs):=by
 refine PGs.imp0 (zaP h1 h2 hs) fun vs σv H Q ⟨tv,ρ,s,ts,M,σ',e,k⟩=> ?_
 cases ts with
 |nil=>simp only[asgL] at e;cases e
 |cons d ds=>
  simp only[asgL] at e
  cases e1:asg g d s.σ with
  |none=>rw[e1] at e;cases e
  |some σ1=>
   rw[e1] at e
   obtain⟨v,r,rfl,M1,h2,lb⟩:=M.cons_inv
   exact⟨v,r,rfl,tv,ρ,s,d,M1,σ1,e1,fun σv1 M2=>⟨tv,ρ,{s with σ:=σ1},ds,⟨M2,h2,lb⟩,σ',e,k⟩⟩
theorem sg_tup{es:List Expr}{k:Nat}{gs:List Tg}(hk:X.K=G.K)(hc:X.calm=true)(h:SGs X G F es gs)(hn:(assignEach es X.env).length=gs.length:=by rfl)(hst:(assignEach es X.env).findIdx? (·.1)=none:=by rfl):SG X G F (.Tuple es k pos) (.tp gs):=by
 refine PG.imp0 (zf1 hc h hn hst) fun v σv H Q ⟨tv,ρ,s,t,M,σ',e,kk⟩=> ?_
 have len: ∀{gs:List Tg} {ds:List D} {σ σ':List (Option D)},asgL gs ds σ=some σ'->ds.length=gs.length:=by
  intro gs
  induction gs with
  |nil=>intro ds σ σ' e;cases ds with
   |nil=>rfl
   |cons _ _=>simp only[asgL] at e;cases e
  |cons g gs ih=>intro ds σ σ' e;cases ds with
   |nil=>simp only[asgL] at e;cases e
   |cons d ds=>
    simp only[asgL] at e
    cases e1:asg g d σ with
    |none=>rw[e1] at e;cases e
    |some σ1=>rw[e1] at e;rw[List.length_cons,List.length_cons,ih e]
 cases t with
 |tup ds=>
  simp only[asg] at e
  obtain⟨a,xs,rfl,sq,r⟩:=M.rd1.tupq
  refine⟨a,xs,rfl, .inl (hk▸sq),by rw[<-r.length];exact len e,tv,ρ,s,ds,⟨M.m,r,fun l h=>M.lb1 l (by simp only[labs];exact h)⟩,σ',e,kk⟩
 |lst l ds=>
  simp only[asg] at e
  obtain⟨a,xs,rfl,sq,r,sub⟩:=M.rd1.lstq (ds:=ds) rfl
  refine⟨a,xs,rfl, .inr (hk▸sq),by rw[<-r.length];exact len e,tv,ρ,s,ds,⟨M.m,r,fun l h=>M.lb1 l (sub l h)⟩,σ',e,kk⟩
 |_=>simp only[asg] at e;cases e
theorem ss_asg{tg:Expr}{g:Tg}{m:M D}(he:SE X G F e m)(hg:SG X G F tg g)(hs:swapsWithSole [tg] e pos.line X.env=pure false:=by rfl)(hw:swappedStores [tg] e X.env=pure none:=by rfl)
 (h1:(assignEach [tg] X.env).map (·.2)=[assign tg X.env]:=by rfl):SS X G F (.Assign [tg] e pos) (sAsg g m):=by
 refine PS.imp0 (zbS he hg hs hw h1) fun D σ H ⟨tv,h⟩=>⟨tv,(z2V h).mono fun v H1 ⟨ρ1,s1,t,M1,W⟩=> ?_⟩
 cases e:asg g t s1.σ with
 |none=>simp only[e] at W;exact False.elim W
 |some σ'=>
  simp only[e] at W
  exact⟨tv,ρ1,s1,t,M1,σ',e,fun σv' M2=>W ρ1 σv' H1 M2⟩
theorem ss_set{i:Nat}{x:Str}{p:Pos}{m:M D}(h: ∀{te:TE},PE X e te->PS X (.Assign [.Name x p] e pos) (tAsg te (z8n i)))(he:SE X G F e m):SS X G F (.Assign [.Name x p] e pos) (sAsg (.nm i) m):=by
 refine PS.imp0 (h he) fun D σ H ⟨tv,h⟩=>⟨tv,(z2V h).mono fun v H1 ⟨ρ1,s1,t,M1,W⟩=> ?_⟩
 simp only[asg] at W
 exact W ρ1 _ H1 (M1.setS i).m
end
end Mi
namespace L2
open PySem PySem.Spec PyProof.Rows
noncomputable abbrev z9p(ifs:List Expr)(env:Env):Sem Bool:=forIn ifs true fun c r=>if r=true then do let ok<-isTrue c env (eval c env);pure (ForInStep.yield ok) else pure (ForInStep.yield r)
theorem z1s{prog:Program}{w:World}{A:Around}{R:Result->Shared->Prop}{s:Shared}{elt target iter:Expr}{ifs:List Expr}{scope:Scope}{pos:Pos}{it acc:Value}{env:Env}(I:Nat->Shared->Prop)
 (turn: ∀n s,I n s->wpAny (model prog w) A (pyNext it) (fun r s₁=>match r with
  |none=>R (.ok .next) s₁
  |some v=>wpAny (model prog w) A (letOwnedTupleGo target it v) (fun _ s₁=>wpAny (model prog w) A (assign target env v) (fun _ s₂=>wpAny (model prog w) A (z9p ifs env) (fun ok s₃=>
   if ok=true then wpAny (model prog w) A (eval elt env) (fun x s₃=>
   wpAny (model prog w) A (call (.builtin "list.append") [acc,x]) (fun _ s₄=> ∃m,m<n/\I m s₄) (fun _ _=>False) s₃)
   (fun _ _=>False) s₃ else ∃m,m<n/\I m s₃) (fun _ _=>False) s₂) (fun _ _=>False) s₁) (fun _ _=>False) s₁) (fun _ _=>False) s)
 (n:Nat) (h:I n s):
 codeAny (model prog w) A (.compLoop (.ListComp elt [⟨target,iter,ifs,0⟩] scope pos) 0 it acc env) R s:=by
 refine codeAny_loop rfl I (fun n s hI=> ?_) n h
 show wpAny _ _ ((compTurn (.ListComp elt [⟨target,iter,ifs,0⟩] scope pos) 0 it acc env).onRaise (fun x=>do noteFrame x env;theTreesLotGoes x)) _ _ s
 refine wpAny_noted ?_
 rw[compTurn_list]
 refine wpAny_bind (wpAny_standAt (wpAny_bind (wpAny_mono (turn n s hI) (fun r s₁ h₁=> ?_) fun _ _ h'=>h'.elim)))
 cases r with
 |none=>exact wpAny_pure h₁
 |some v=>
  refine wpAny_bind (wpAny_mono h₁ (fun _ s₁ h₁=> ?_) fun _ _ h'=>h'.elim)
  refine wpAny_bind (wpAny_mono h₁ (fun _ s₂ h₂=>wpAny_bind (wpAny_mono h₂ (fun ok s₃ h₃=> ?_) fun _ _ h'=>h'.elim)) fun _ _ h'=>h'.elim)
  cases ok with
  |false=>exact wpAny_pure ⟨rfl,h₃⟩
  |true=>
   exact wpAny_bind (wpAny_bind (wpAny_mono h₃ (fun x s₄ h₄=>wpAny_bind (wpAny_mono h₄ (fun _ s₅ h₅=>wpAny_pure (wpAny_pure ⟨rfl,h₅⟩)) fun _ _ h'=>h'.elim)) fun _ _ h'=>h'.elim))
noncomputable def PTs(X:Cx)(ifs:List Expr)(t:TT):Prop:=
 ∀(pins:List (Addr×Obj)) (s:Shared) (σ:St) (H:Hp) (Q:Bool->Hp->Prop),Inv X pins σ H s->t σ H Q->wpAny (model X.prog X.w) X.A (z9p ifs X.env) (TP X pins σ Q) X.xe s
theorem zdr{X:Cx}:PTs X [] (fun _ H Q=>Q true H):=fun pins s σ H Q I h=>wpAny_tests_nil ⟨H,I,h⟩
theorem zds{X:Cx}{c:Expr}{t:TT}(h:PT X c t):PTs X [c] t:=fun pins s σ H Q I q=>wpAny_tests_one (h pins s σ H Q I q)
section
variable{X:Cx}{tg iter elt:Expr}{ifs:List Expr}{pos:Pos}{scope:Scope}{own frees:List Str}{ix:List Nat}{wi:TI}{g:TG}{tt:TT}{te:TE}
noncomputable def z9q(K:W.Frag)(wi:TI)(g:TG)(tt:TT)(te:TE)(k:Nat)(ix:List Nat):TE:=fun σ H Q=>wi σ H fun J H1=> ∀D,H1 D=none->(∀a o,K.lookup a=some o->upd H1 D (.lst []) a=none)->
 ∃W:Nat->Nat->List V->St->Hp->Prop,(∃m,W 0 m [] (z32 k ix σ) (upd H1 D (.lst [])))/\
  ∀i m ys σ' H',W i m ys σ' H'->H' D=some (.lst ys)/\((J.stop i H'/\Q (.ref D) H')\/
   (J.go i H'/\∀x H2,J.yld i H' x H2->g x σ' H2 fun σ2 H3=>tt σ2 H3 fun ok H3=>if ok=true then te σ2 H3 fun y H4=>H4 D=some (.lst ys)/\ys.length<sizeLine/\∃m',m'<m/\W (i+1) m' (ys++[y]) σ2 (upd H4 D (.lst (ys++[y])))
    else ∃m',m'<m/\W (i+1) m' ys σ2 H3))
theorem z9r(hc:X.calm=true)(S:z1k X.env.scope scope own frees X.N ix)(hi:PI X tg iter wi)
 (hg: ∀cl C s₀ H₀ fp pn,PG (z0z X scope own frees cl C s₀ H₀ fp pn) tg g) (ht: ∀cl C s₀ H₀ fp pn,PTs (z0z X scope own frees cl C s₀ H₀ fp pn) ifs tt) (he: ∀cl C s₀ H₀ fp pn,PE (z0z X scope own frees cl C s₀ H₀ fp pn) elt te)
 (hs: ∀x,foldedSetIterable iter X.env x=pure x:=by intro _;rfl):
 PE X (.ListComp elt [⟨tg,iter,ifs,0⟩] scope pos) (z9q X.K wi g tt te own.length ix):=by
 intro pins s σ H Q I h
 have hclos:closureFor scope X.env=pure (z1W X.env scope.names []):=z3s fun y hy e=>I.ok.has y.1 (S.fr y hy e)
 rw[eval_ListComp]
 refine wpAny_comprehension_free (use:=none) rfl hs hclos S.kind S.names (thn (hi pins s σ H _ I h) fun v s1 h1=>thn h1 fun itv s2 h2=> ?_)
 obtain⟨it,fp,tn,J,H2,e,I2,T,st2,f2,hD⟩:=h2
 subst e
 refine wpAny_newObj_type ?_
 have I3:Inv X pins σ (upd H2 s2.heap.objs.size (.lst [])) {s2 with heap:=s2.heap.push {cls:= .type "list",data:= .seq ([]:List Value).toArray}}:=I2.lnew (t':=s2.toks) .nil (Nat.zero_le _)
 have nD:H2 s2.heap.objs.size=none:=I2.fresh
 obtain⟨W,⟨m0,w0⟩,turn⟩:=hD _ nD fun a o e=>(I3.bs a o (I3.ok.mod.kin a o e)).2
 have fpl: ∀b∈fp,b<s2.heap.objs.size:=fun b z=>by
  obtain⟨o,q,_⟩:=T.obj _ _ st2 b z
  exact Heap.lt_size q
 generalize hs3:({s2 with heap:=s2.heap.push {cls:= .type "list",data:= .seq ([]:List Value).toArray}}:Shared)=s3 at I3
 have hpush: ∀b o,s2.heap.get? b=some o->s3.heap.get? b=some o:=fun b o q=>by rw[<-hs3];exact Heap.get?_push_of_some _ q
 have hsz3:s2.heap.objs.size<s3.heap.objs.size:=by rw[<-hs3];show _<(s2.heap.push _).objs.size;rw[Heap.size_push];exact Nat.lt_succ_self _
 have f3: ∀b∈fp,FpOk X pins (upd H2 s2.heap.objs.size (.lst [])) b:=fun b z=>⟨by rw[z0c (Nat.ne_of_lt (fpl b z))];exact(f2 b z).1,(f2 b z).2⟩
 have st3:tn 0 s3.heap:=T.keep _ _ _ st2 fun b _ o q=>hpush b o q
 generalize hDd:s2.heap.objs.size=D at*
 generalize hH3:upd H2 D (.lst [])=H3 at*
 have goal:wpAny (model X.prog X.w) X.A (newFunctionEnv scope X.env.globals (z1W X.env scope.names []) [] X.env.qual none .none (some X.env)) (fun cenv s₄=>
  codeAny (model X.prog X.w) X.A (.compStart (.ListComp elt [⟨tg,iter,ifs,0⟩] scope pos) 0 (.ref it) (.ref D) {cenv with scope:=relabel scope X.env}) (compPost (model X.prog X.w) X.A X.xe none (EP X pins σ Q) (.ref D) cenv.locals) s₄) X.xe s3:=by
  refine wpAny_newFunctionEnv S.nocell (by intro y hy;simp at hy) (fun h1 hns hsb=> ?_) S.kind
  have hns:h1.Ns s3.heap.objs.size (fun _=>none):=hns
  have keep4: ∀b o,s3.heap.get? b=some o->h1.get? b=some o:=fun b o q=>hsb.extBut b o (Nat.ne_of_lt (Heap.lt_size q)) (Heap.get?_push_of_some _ q)
  have fpl3: ∀b∈fp,b<s3.heap.objs.size:=fun b z=>Nat.lt_trans (fpl b z) hsz3
  generalize hs4:({s3 with heap:=h1,toks:=s3.toks+([]:List (Str×Value)).length}:Shared)=s4
  have I4:Inv (z0z X scope own frees (z1W X.env scope.names []) s3.heap.objs.size s3 H3 fp (X.pn++pins)) [] (z32 own.length ix σ) H3 s4:=
   z5l S I3 f3 fpl3 (by rw[<-hs4]) (by rw[<-hs4]) (fun b o q=>by rw[<-hs4];exact keep4 b o q) (by rw[<-hs4];exact hns)
  have st4:tn 0 s4.heap:=T.keep _ _ _ st3 fun b _ o q=>by rw[<-hs4];exact keep4 b o q
  generalize hXc:z0z X scope own frees (z1W X.env scope.names []) s3.heap.objs.size s3 H3 fp (X.pn++pins)=Y at I4
  have eP:Y.prog=X.prog:=by rw[<-hXc];rfl
  have eW:Y.w=X.w:=by rw[<-hXc];rfl
  have eK:Y.K=X.K:=by rw[<-hXc];rfl
  have eA:Y.A=X.A:=by rw[<-hXc];rfl
  have eC:Y.calm=true:=by rw[<-hXc];exact hc
  have eE:Y.env=compEnvC scope (z1W X.env scope.names []) s3.heap.objs.size X.env:=by rw[<-hXc];rfl
  have eX:Y.xe=fun _ _=>False:=by rw[<-hXc];rfl
  have eF: ∀{H':Hp},(∀b∈fp,H' b=none)->∀b∈fp,FpOk Y [] H' b:=fun{H'} hn b hb=>by
   rw[<-hXc]
   obtain⟨g1,g2,g3,g4,g5,g6⟩:=f3 b hb
   refine⟨hn b hb,Nat.ne_of_lt (fpl3 b hb),fun q=> ?_, .inl hb,fun x c e=> ?_,fun p hp=> ?_⟩
   ·rcases List.mem_cons.mp (I3.stkSub b q) with r|r
    ·exact g2 r
    ·exact g3 r
   ·rcases z4l _ _ e with q|q
    ·exact nomatch q
    ·exact g5 x c q.1
   ·have hp:p∈(X.pn++pins)++[]:=hp
    rw[List.append_nil] at hp
    exact g6 p hp
  have gY:PG Y tg g:=by rw[<-hXc];exact hg _ _ _ _ _ _
  have tY:PE Y elt te:=by rw[<-hXc];exact he _ _ _ _ _ _
  have sY:PTs Y ifs tt:=by rw[<-hXc];exact ht _ _ _ _ _ _
  have loop:codeAny (model X.prog X.w) X.A (.compLoop (.ListComp elt [⟨tg,iter,ifs,0⟩] scope pos) 0 (.ref it) (.ref D) (compEnvC scope (z1W X.env scope.names []) s3.heap.objs.size X.env))
   (compPost (model X.prog X.w) X.A X.xe none (EP X pins σ Q) (.ref D) s3.heap.objs.size) s4:=by
   refine z1s (fun n s'=> ∃i ys σ' H',Inv Y [] σ' H' s'/\tn i s'.heap/\(∀b∈fp,H' b=none)/\W i n ys σ' H') ?_ m0 ⟨0,[],_,_,I4,st4,fun b hb=>(f3 b hb).1,w0⟩
   rintro n s5 ⟨i,ys,σ5,H5,I5,st5,fr5,w5⟩
   obtain⟨hD5,alt⟩:=turn i n ys σ5 H5 w5
   rcases alt with⟨stop,qn⟩|⟨go,step⟩
   ·have d:=T.done Y eP eW eK eC i [] s5 σ5 H5 (fun _ _=>False) I5 (eF fr5) st5 stop
    rw[eA] at d
    refine thn d fun r s6 ⟨hr,I6⟩=> ?_
    subst hr
    subst hXc
    obtain⟨m6,n6,_⟩:=I6.loc
    exact⟨m6,n6,fun h'' hs''=>⟨.ref D,H5,z7W I3 f3 (Nat.le_refl _) I6 hs'',rfl,qn⟩⟩
   ·have d:=T.item Y eP eW eK eC i [] s5 σ5 H5 (fun _ _=>False) I5 (eF fr5) st5 go
    rw[eA] at d
    refine thn d fun r s6 ⟨u,hr,h6⟩=> ?_
    subst hr
    refine thn h6 fun _ s7 ⟨x,H7,I7,r7,y7,st7,fr7⟩=> ?_
    have I7':=I7.pinned (eF fr7) (T.obj _ _ st7)
    have e1:=gY _ s7 σ5 H7 x u _ I7' r7 (step x H7 y7)
    rw[eP,eW,eA,eE,eX] at e1
    refine thn e1 fun _ s8 ⟨σ8,H8,I8,q8⟩=> ?_
    have e1':=sY _ s8 σ8 H8 _ I8 q8
    rw[eP,eW,eA,eE,eX] at e1'
    refine thn e1' fun ok s8 ⟨H8,I8,q8⟩=> ?_
    cases ok with
    |false=>
     rw[if_neg Bool.false_ne_true] at q8⊢
     obtain⟨m',hm',w9⟩:=q8
     refine⟨m',hm',i+1,_,σ8,_,I8.unpinned,T.keep _ _ _ st7 fun b hb o e=> ?_,fun b hb=> ?_,w9⟩
     ·exact(I8.pin (b,o) (List.mem_append_right _ (List.mem_append_right _ (z0v hb e)))).1
     ·obtain⟨o,e,d⟩:=T.obj _ _ st7 b hb
      exact(I8.pin (b,o) (List.mem_append_right _ (List.mem_append_right _ (z0v hb e)))).2.1
    |true=>
    rw[if_pos rfl] at q8⊢
    have e2:=tY _ s8 σ8 H8 _ I8 q8
    rw[eP,eW,eA,eE,eX] at e2
    refine thn e2 fun yv s9 ⟨y,H9,I9,r9,hD9,hz9,m',hm',w9⟩=> ?_
    have e3:=z6C (X:=Y) _ s9 σ8 H9 (.ref D) [y] (.ref D) [yv] (fun v H'=>v= .non/\H'=upd H9 D (.lst (ys++[y]))) I9 rfl (.cons r9 .nil) ⟨D,ys,y,rfl,rfl,hD9,hz9,rfl,rfl⟩
    rw[eP,eW,eA,eX] at e3
    refine thn e3 fun _ s10 ⟨v10,H10,I10,r10,_,e10⟩=> ?_
    subst e10
    refine⟨m',hm',i+1,_,σ8,_,I10.unpinned,T.keep _ _ _ st7 fun b hb o e=> ?_,fun b hb=> ?_,w9⟩
    ·exact(I10.pin (b,o) (List.mem_append_right _ (List.mem_append_right _ (z0v hb e)))).1
    ·obtain⟨o,e,d⟩:=T.obj _ _ st7 b hb
     exact(I10.pin (b,o) (List.mem_append_right _ (List.mem_append_right _ (z0v hb e)))).2.1
  exact codeAny_compStart_list loop (T.self _ 0 _ _ _ st4 loop)
 exact goal
theorem z9s{y:Str}{py spos:Pos}{i:Nat}(hN:X.N.Nodup)(hy:X.N[i]? =some y)(hx:Loc X.env.scope y)(hfn:X.fn y=true\/X.env.scope.names.lookup y=some .local)(hsw:swapsWith (.ListComp elt [⟨tg,iter,ifs,0⟩] scope pos) (some (.Name y py)) spos.line X.env=pure true)(hc:X.calm=true)(S:z1k X.env.scope scope own frees X.N ix)(hi:PI X tg iter wi)
 (hg: ∀cl C s₀ H₀ fp pn,PG (z0z X scope own frees cl C s₀ H₀ fp pn) tg g) (ht: ∀cl C s₀ H₀ fp pn,PTs (z0z X scope own frees cl C s₀ H₀ fp pn) ifs tt) (he: ∀cl C s₀ H₀ fp pn,PE (z0z X scope own frees cl C s₀ H₀ fp pn) elt te)
 (hs: ∀x,foldedSetIterable iter X.env x=pure x:=by intro _;rfl):
 PS X (.Assign [.Name y py] (.ListComp elt [⟨tg,iter,ifs,0⟩] scope pos) spos) (fun Dd σ H=>z9q X.K wi g tt te own.length ix σ H fun v H'=>Dd.nx (σ.set i (some v)) H'):=by
 intro pins s σ H Dd I h
 have hclos:closureFor scope X.env=pure (z1W X.env scope.names []):=z3s fun y hy e=>I.ok.has y.1 (S.fr y hy e)
 rw[exec_Assign_Name_used _ _ _ _ hsw]
 refine wpAny_bind (wpAny_standAt (wpAny_bind ?_))
 show wpAny _ X.A (do let _<-comprehension (.ListComp elt [⟨tg,iter,ifs,0⟩] scope pos) scope X.env _ (newList []) false (eval iter X.env) (some (assign (.Name y py) X.env))) _ _ s
 refine wpAny_bind (wpAny_mono (wpAny_comprehension_free (use:=some (assign (.Name y py) X.env)) (Q:=fun _ s'=>SP X pins Dd .next s') rfl hs hclos S.kind S.names (thn (hi pins s σ H _ I h) fun v s1 h1=>thn h1 fun itv s2 h2=> ?_)) (fun _ s' hq=>wpAny_pure (wpAny_pure hq)) fun _ _ e=>e)
 obtain⟨it,fp,tn,J,H2,e,I2,T,st2,f2,hD⟩:=h2
 subst e
 refine wpAny_newObj_type ?_
 have I3:Inv X pins σ (upd H2 s2.heap.objs.size (.lst [])) {s2 with heap:=s2.heap.push {cls:= .type "list",data:= .seq ([]:List Value).toArray}}:=I2.lnew (t':=s2.toks) .nil (Nat.zero_le _)
 have nD:H2 s2.heap.objs.size=none:=I2.fresh
 obtain⟨W,⟨m0,w0⟩,turn⟩:=hD _ nD fun a o e=>(I3.bs a o (I3.ok.mod.kin a o e)).2
 have fpl: ∀b∈fp,b<s2.heap.objs.size:=fun b z=>by
  obtain⟨o,q,_⟩:=T.obj _ _ st2 b z
  exact Heap.lt_size q
 generalize hs3:({s2 with heap:=s2.heap.push {cls:= .type "list",data:= .seq ([]:List Value).toArray}}:Shared)=s3 at I3
 have hpush: ∀b o,s2.heap.get? b=some o->s3.heap.get? b=some o:=fun b o q=>by rw[<-hs3];exact Heap.get?_push_of_some _ q
 have hsz3:s2.heap.objs.size<s3.heap.objs.size:=by rw[<-hs3];show _<(s2.heap.push _).objs.size;rw[Heap.size_push];exact Nat.lt_succ_self _
 have f3: ∀b∈fp,FpOk X pins (upd H2 s2.heap.objs.size (.lst [])) b:=fun b z=>⟨by rw[z0c (Nat.ne_of_lt (fpl b z))];exact(f2 b z).1,(f2 b z).2⟩
 have st3:tn 0 s3.heap:=T.keep _ _ _ st2 fun b _ o q=>hpush b o q
 generalize hDd:s2.heap.objs.size=D at*
 generalize hH3:upd H2 D (.lst [])=H3 at*
 have goal:wpAny (model X.prog X.w) X.A (newFunctionEnv scope X.env.globals (z1W X.env scope.names []) [] X.env.qual none .none (some X.env)) (fun cenv s₄=>
  codeAny (model X.prog X.w) X.A (.compStart (.ListComp elt [⟨tg,iter,ifs,0⟩] scope pos) 0 (.ref it) (.ref D) {cenv with scope:=relabel scope X.env}) (compPost (model X.prog X.w) X.A X.xe (some (assign (.Name y py) X.env)) (fun _ s'=>SP X pins Dd .next s') (.ref D) cenv.locals) s₄) X.xe s3:=by
  refine wpAny_newFunctionEnv S.nocell (by intro y hy;simp at hy) (fun h1 hns hsb=> ?_) S.kind
  have hns:h1.Ns s3.heap.objs.size (fun _=>none):=hns
  have keep4: ∀b o,s3.heap.get? b=some o->h1.get? b=some o:=fun b o q=>hsb.extBut b o (Nat.ne_of_lt (Heap.lt_size q)) (Heap.get?_push_of_some _ q)
  have fpl3: ∀b∈fp,b<s3.heap.objs.size:=fun b z=>Nat.lt_trans (fpl b z) hsz3
  generalize hs4:({s3 with heap:=h1,toks:=s3.toks+([]:List (Str×Value)).length}:Shared)=s4
  have I4:Inv (z0z X scope own frees (z1W X.env scope.names []) s3.heap.objs.size s3 H3 fp (X.pn++pins)) [] (z32 own.length ix σ) H3 s4:=
   z5l S I3 f3 fpl3 (by rw[<-hs4]) (by rw[<-hs4]) (fun b o q=>by rw[<-hs4];exact keep4 b o q) (by rw[<-hs4];exact hns)
  have st4:tn 0 s4.heap:=T.keep _ _ _ st3 fun b _ o q=>by rw[<-hs4];exact keep4 b o q
  generalize hXc:z0z X scope own frees (z1W X.env scope.names []) s3.heap.objs.size s3 H3 fp (X.pn++pins)=Y at I4
  have eP:Y.prog=X.prog:=by rw[<-hXc];rfl
  have eW:Y.w=X.w:=by rw[<-hXc];rfl
  have eK:Y.K=X.K:=by rw[<-hXc];rfl
  have eA:Y.A=X.A:=by rw[<-hXc];rfl
  have eC:Y.calm=true:=by rw[<-hXc];exact hc
  have eE:Y.env=compEnvC scope (z1W X.env scope.names []) s3.heap.objs.size X.env:=by rw[<-hXc];rfl
  have eX:Y.xe=fun _ _=>False:=by rw[<-hXc];rfl
  have eF: ∀{H':Hp},(∀b∈fp,H' b=none)->∀b∈fp,FpOk Y [] H' b:=fun{H'} hn b hb=>by
   rw[<-hXc]
   obtain⟨g1,g2,g3,g4,g5,g6⟩:=f3 b hb
   refine⟨hn b hb,Nat.ne_of_lt (fpl3 b hb),fun q=> ?_, .inl hb,fun x c e=> ?_,fun p hp=> ?_⟩
   ·rcases List.mem_cons.mp (I3.stkSub b q) with r|r
    ·exact g2 r
    ·exact g3 r
   ·rcases z4l _ _ e with q|q
    ·exact nomatch q
    ·exact g5 x c q.1
   ·have hp:p∈(X.pn++pins)++[]:=hp
    rw[List.append_nil] at hp
    exact g6 p hp
  have gY:PG Y tg g:=by rw[<-hXc];exact hg _ _ _ _ _ _
  have tY:PE Y elt te:=by rw[<-hXc];exact he _ _ _ _ _ _
  have sY:PTs Y ifs tt:=by rw[<-hXc];exact ht _ _ _ _ _ _
  have loop:codeAny (model X.prog X.w) X.A (.compLoop (.ListComp elt [⟨tg,iter,ifs,0⟩] scope pos) 0 (.ref it) (.ref D) (compEnvC scope (z1W X.env scope.names []) s3.heap.objs.size X.env))
   (compPost (model X.prog X.w) X.A X.xe (some (assign (.Name y py) X.env)) (fun _ s'=>SP X pins Dd .next s') (.ref D) s3.heap.objs.size) s4:=by
   refine z1s (fun n s'=> ∃i ys σ' H',Inv Y [] σ' H' s'/\tn i s'.heap/\(∀b∈fp,H' b=none)/\W i n ys σ' H') ?_ m0 ⟨0,[],_,_,I4,st4,fun b hb=>(f3 b hb).1,w0⟩
   rintro n s5 ⟨i,ys,σ5,H5,I5,st5,fr5,w5⟩
   obtain⟨hD5,alt⟩:=turn i n ys σ5 H5 w5
   rcases alt with⟨stop,qn⟩|⟨go,step⟩
   ·have d:=T.done Y eP eW eK eC i [] s5 σ5 H5 (fun _ _=>False) I5 (eF fr5) st5 stop
    rw[eA] at d
    refine thn d fun r s6 ⟨hr,I6⟩=> ?_
    subst hr
    subst hXc
    obtain⟨m6,n6,_⟩:=I6.loc
    have n6:s6.heap.Ns s3.heap.objs.size m6:=n6
    have I7:Inv X pins σ H5 s6:=z7W (h':=s6.heap) I3 f3 (Nat.le_refl _) I6 (Heap.SameBut.refl _ _)
    have fC:FpOk X pins H5 s3.heap.objs.size:=I3.fpOk (Nat.le_refl _) I6.free
    obtain⟨oC,eC,dC⟩: ∃o,s6.heap.get? s3.heap.objs.size=some o/\∀v,o.data≠ .cell v:=by
     obtain⟨o,es,ep,e1,e2,e3⟩:=n6
     exact⟨o,e1,fun v z=>by simp_all⟩
    have I8:=I7.pinned (fp:=[s3.heap.objs.size]) (fun b hb=>by
     have e:b=s3.heap.objs.size:=by simpa using hb
     rw[e];exact fC) (fun b hb=>by
     have e:b=s3.heap.objs.size:=by simpa using hb
     rw[e];exact⟨oC,eC,dC⟩)
    show wpAny _ _ (assign (.Name y py) X.env (.ref D)) _ _ s6
    refine wpAny_assign_Name (z4h (v:= .ref D) I8 hN hy hx rfl (fun s7 I9=> ?_) hfn)
    have e7:s7.heap.get? s3.heap.objs.size=some oC:=(I9.pin (s3.heap.objs.size,oC) (List.mem_append_right _ (List.mem_append_right _ (z0v (by simp) eC)))).1
    refine⟨m6,n6.at' fun o e=>by rw[eC] at e;cases e;exact e7,fun h3 hs3=>⟨_,H5, ?_,qn⟩⟩
    exact I9.unpinned.turned (t':=s7.toks) (fun b o hb e=>(hs3.2 b hb).trans e) fC.1 fC.2.1 fC.2.2.2.1 fC.2.2.2.2.1 fC.2.2.2.2.2
   ·have d:=T.item Y eP eW eK eC i [] s5 σ5 H5 (fun _ _=>False) I5 (eF fr5) st5 go
    rw[eA] at d
    refine thn d fun r s6 ⟨u,hr,h6⟩=> ?_
    subst hr
    refine thn h6 fun _ s7 ⟨x,H7,I7,r7,y7,st7,fr7⟩=> ?_
    have I7':=I7.pinned (eF fr7) (T.obj _ _ st7)
    have e1:=gY _ s7 σ5 H7 x u _ I7' r7 (step x H7 y7)
    rw[eP,eW,eA,eE,eX] at e1
    refine thn e1 fun _ s8 ⟨σ8,H8,I8,q8⟩=> ?_
    have e1':=sY _ s8 σ8 H8 _ I8 q8
    rw[eP,eW,eA,eE,eX] at e1'
    refine thn e1' fun ok s8 ⟨H8,I8,q8⟩=> ?_
    cases ok with
    |false=>
     rw[if_neg Bool.false_ne_true] at q8⊢
     obtain⟨m',hm',w9⟩:=q8
     refine⟨m',hm',i+1,_,σ8,_,I8.unpinned,T.keep _ _ _ st7 fun b hb o e=> ?_,fun b hb=> ?_,w9⟩
     ·exact(I8.pin (b,o) (List.mem_append_right _ (List.mem_append_right _ (z0v hb e)))).1
     ·obtain⟨o,e,d⟩:=T.obj _ _ st7 b hb
      exact(I8.pin (b,o) (List.mem_append_right _ (List.mem_append_right _ (z0v hb e)))).2.1
    |true=>
    rw[if_pos rfl] at q8⊢
    have e2:=tY _ s8 σ8 H8 _ I8 q8
    rw[eP,eW,eA,eE,eX] at e2
    refine thn e2 fun yv s9 ⟨y,H9,I9,r9,hD9,hz9,m',hm',w9⟩=> ?_
    have e3:=z6C (X:=Y) _ s9 σ8 H9 (.ref D) [y] (.ref D) [yv] (fun v H'=>v= .non/\H'=upd H9 D (.lst (ys++[y]))) I9 rfl (.cons r9 .nil) ⟨D,ys,y,rfl,rfl,hD9,hz9,rfl,rfl⟩
    rw[eP,eW,eA,eX] at e3
    refine thn e3 fun _ s10 ⟨v10,H10,I10,r10,_,e10⟩=> ?_
    subst e10
    refine⟨m',hm',i+1,_,σ8,_,I10.unpinned,T.keep _ _ _ st7 fun b hb o e=> ?_,fun b hb=> ?_,w9⟩
    ·exact(I10.pin (b,o) (List.mem_append_right _ (List.mem_append_right _ (z0v hb e)))).1
    ·obtain⟨o,e,d⟩:=T.obj _ _ st7 b hb
     exact(I10.pin (b,o) (List.mem_append_right _ (List.mem_append_right _ (z0v hb e)))).2.1
  exact codeAny_compStart_list loop (T.self _ 0 _ _ _ st4 loop)
 exact goal
end
structure zeo(osc sc:Scope)(own frees N:List Str)(ix:List Nat):Prop where
 kind:sc.kind= .function
 names: ∀y∈sc.names,y.2= .local->sc.names.lookup y.1=some .local
 fr: ∀y∈sc.names,y.2= .free->osc.names.lookup y.1=some .cell\/osc.names.lookup y.1=some .free
 nd:(own++frees).Nodup
 frl: ∀x∈frees,sc.names.lookup x=some .free
 ixs:ix.map (fun i=>N[i]?)=frees.map some
 frc: ∀y∈sc.names,y.2= .cell->y.1∉frees
 owf: ∀y∈sc.names,y.2= .free->y.1∉own
section
variable{X:Cx}{a b:Expr}{rest:List Expr}{pos:Pos}{ta tb:TE}
noncomputable def rStr(K:W.Frag)(xs:List V)(H:Hp)(Q:VK):Prop:= ∃p d,xs=[.ref p]/\Dp K H d (.ref p)/\d.hasDict=false/\d.showable=true/\d.depth<=60/\d.shown.length<=sizeLine/\Q (.str d.shown) H
theorem z9t(hg:X.A.guards=some [])(hu:X.A.units+64<cLine):CallR X (.type "str") (rStr X.K):=by
 intro pins s σ H xs us Q I r h
 obtain⟨p,d,rfl,hd,h1,h2,h3,h4,q⟩:=h
 obtain⟨u,rfl,r1⟩:=z37 r
 cases r1
 obtain⟨as,ra⟩:=hd.reads I _ _ _ rfl
 exact str_of_reads ra h2 (fun e=>by rw[h1] at e;cases e) hg (by lia) (fun _ _ h=>h) (fun h' u tk k=>⟨.str d.shown,H,I.kept k,⟨_,rfl⟩,q⟩) h4
theorem zfk:OpR X (compareOp .Eq) (fun x y H Q=> ∃i j,x= .str i/\y= .str j/\Q (.bl (i==j)) H):=by
 intro pins s σ H x y v u Q I rx ry h
 obtain⟨i,j,rfl,rfl,q⟩:=h
 exact zhw pins s σ H _ _ v u Q I rx ry ⟨rfl,by rw[z5A];exact q⟩
theorem zdt:OpR X (binaryOp .Add) (fun x y H Q=> ∃k j,x= .bl k/\y= .int j/\Q (.int ((if k then 1 else 0)+j)) H):=by
 intro pins s σ H x y v u Q I rx ry h
 obtain⟨k,j,rfl,rfl,q⟩:=h
 cases rx
 obtain⟨t,rfl⟩:=ry
 exact PySem.IntBool.add_bool_int ⟨.int ((if k then 1 else 0)+j),H,I.tok _,⟨_,rfl⟩,q⟩
end
section
variable{X:Cx}{tg:Expr}
noncomputable def Rg3(i j c:Int):Prop:=c≠0/\c.natAbs<1073741824/\Builtin.Range.small i j c=true/\0<=Builtin.Range.rangeSize i j c
instance(i j c:Int):Decidable (Rg3 i j c):=by unfold Rg3;infer_instance
end
end L2
namespace Mi
open PySem L2
structure ItK where
 k:Nat
 at':Nat->List (Option D)->Option (Option D)
 len:List (Option D)->Nat
noncomputable def zfl(i:Nat):List (Option D)->Option (Option D)
 |some c::_=>(lstD c).map fun ds=>ds[i]?
 |_=>none
noncomputable def zb7(i:Nat):List (Option D)->Option (Option D)
 |some (.tup ds)::_=>some ds[i]?
 |_=>none
noncomputable def z9u:List (Option D)->Nat
 |some (.tup ds)::_=>ds.length
 |some (.lst _ ds)::_=>ds.length
 |some (.ro ds)::_=>ds.length
 |_=>0
noncomputable def kLst:ItK:=⟨1,zfl,z9u⟩
noncomputable def kTup:ItK:=⟨1,zb7,z9u⟩
noncomputable def kRng(lo:Int)(n:Nat):ItK:=⟨0,fun i _=>some (if i<n then some (.int (lo+i)) else none),fun _=>n⟩
noncomputable def Stt.popn(s:Stt)(k:Nat):Stt:={s with tm:=s.tm.drop k}
section
variable{X:Cx}{G:Gx}{F:Fy}{e a b c tg iter:Expr}{pos:Pos}
theorem MR.popn{F:Fx}{ρ:Nat->Addr}{H:Hp}{σv tvs tv:List (Option V)}{s:Stt}(M:MR G F ρ H σv (tvs++tv) s):MR G F ρ H σv tv (s.popn tvs.length):=by
 have sub: ∀l∈z0Q (s.popn tvs.length),l∈z0Q s:=fun l h=>by
  rcases List.mem_append.mp h with h|h
  ·exact List.mem_append_left _ h
  ·refine List.mem_append_right _ ?_
   have e:=z0f (s.tm.take tvs.length) (s.tm.drop tvs.length)
   rw[List.take_append_drop] at e
   rw[e]
   exact List.mem_append_right _ h
 exact⟨M.sl,(Sl.split tvs M.tm).2,M.inj,M.dom,fun l h=>M.lab l (sub l h),fun l h=>M.own l (sub l h),M.frm,M.kd,M.frb,M.bas⟩
noncomputable def ItOK(G:Gx)(J:It)(K:ItK)(tvs:List (Option V)):Prop:= ∀(F:Fx) ρ H σv tvp tv s i,MR G F ρ H σv (tvp++(tvs++tv)) s->match K.at' i (s.tm.drop tvp.length) with
 |none=>True
 |some none=>J.stop i H
 |some (some d)=>J.go i H/\∀x H',J.yld i H x H'->MRL G F ρ H' σv (tvp++(tvs++tv)) s [d] [x]
noncomputable def tI(G:Gx)(F:Fy)(m:M ItK):TI:=fun σv H R=> ∃tv,F.tv0<:+tv/\∃ρ s,MR G F.toFx ρ H σv tv s/\match m s with
 | .ok K s'=> ∀ρ' H' tvs J,tvs.length=K.k->MR G F.toFx ρ' H' σv (tvs++tv) s'->ItOK G J K tvs->R J H'
 | .ex d s'=>F.xw d s'
 | .no=>False
noncomputable def SI(X:Cx)(G:Gx)(F:Fy)(tg iter:Expr)(m:M ItK):Prop:=PI X tg iter (tI G F m)
theorem PI.imp0{w w':TI}(h:PI X tg iter w)(hi: ∀σ H R,w' σ H R->w σ H R):PI X tg iter w':=fun pins s σ H R I q=>h pins s σ H R I (hi σ H R q)
noncomputable def iSeq(K:W.Frag)(tl:TE):TI:=fun σ H R=>tl σ H fun x H1=> ∃a,x= .ref a/\(((∃xs,SqL K H1 a xs)/\R (Itl K a) H1)\/((∃xs,SqT K H1 a xs)/\R (Itt K a) H1))
theorem zfm{l:Expr}{tl:TE}(hl:PE X l tl):PI X tg l (iSeq X.K tl):=by
 intro pins s σ H R I h
 refine thn (hl pins s σ H _ I h) fun v s1 ⟨x,H1,I1,r1,q1⟩=> ?_
 obtain⟨a,e,q|q⟩:=q1
 ·subst e
  cases r1
  obtain⟨⟨xs,hq⟩,q⟩:=q
  obtain⟨its,rv,p,hz⟩:=I1.list hq
  refine wpAny_pyIter_list p.isList ?_
  refine⟨s1.heap.objs.size,[s1.heap.objs.size],_,_,H1,rfl,I1.kept (t':=s1.toks) fun b o e=>Heap.get?_push_of_some _ e,z8U a _,⟨_,Heap.get?_push_size _ rfl,rfl,rfl⟩,fun b hb=> ?_,q⟩
  have e:b=s1.heap.objs.size:=by simpa using hb
  subst e
  exact I1.fpOk (Nat.le_refl _) (I1.hok.fresh (Nat.le_refl _))
 ·subst e
  cases r1
  obtain⟨⟨xs,hq⟩,q⟩:=q
  obtain⟨its,rv,p,hz⟩:=I1.tuple hq
  refine wpAny_pyIter_tuple (show s1.heap.IsTuple a its.toArray from p) ?_
  refine⟨s1.heap.objs.size,[s1.heap.objs.size],_,_,H1,rfl,I1.kept (t':=s1.toks) fun b o e=>Heap.get?_push_of_some _ e,z8o a _,⟨_,Heap.get?_push_size _ rfl,rfl,rfl⟩,fun b hb=> ?_,q⟩
  have e:b=s1.heap.objs.size:=by simpa using hb
  subst e
  exact I1.fpOk (Nat.le_refl _) (I1.hok.fresh (Nat.le_refl _))
noncomputable def z0L(m:M D):M ItK:=bd m fun d s=>match d with
 | .tup _=> .ok kTup (s.psh d)
 | .lst _ _=> .ok kLst (s.psh d)
 | .ro _=> .ok kLst (s.psh d)
 |_=> .no
theorem SqT.two{K:W.Frag}{H:Hp}{a:Addr}{xs ys:List V}(k:KD K H)(h:SqT K H a xs)(h':SqT K H a ys):xs=ys:=by
 rcases h with(h|⟨o,h⟩)|⟨o,its,n,h,_,hd,_,r⟩<;>rcases h' with(h'|⟨o',h'⟩)|⟨o',its',n',h',_,hd',_,r'⟩
 ·rw[h] at h';cases h';rfl
 ·rw[h] at h';cases h'
 ·rw[k _ _ h'] at h;cases h
 ·rw[h] at h';cases h'
 ·rw[h] at h';cases h';rfl
 ·rw[k _ _ h'] at h;cases h
 ·rw[k _ _ h] at h';cases h'
 ·rw[k _ _ h] at h';cases h'
 ·rw[h] at h';cases h';rw[hd] at hd';cases hd';exact r.inj r'
theorem SqL.two{K:W.Frag}{H:Hp}{a:Addr}{xs ys:List V}(k:KD K H)(h:SqL K H a xs)(h':SqL K H a ys):xs=ys:=by
 rcases h with(h|⟨o,h⟩)|⟨o,its,n,h,_,_,hd,_,r⟩<;>rcases h' with(h'|⟨o',h'⟩)|⟨o',its',n',h',_,_,hd',_,r'⟩
 ·rw[h] at h';cases h';rfl
 ·rw[h] at h';cases h'
 ·rw[k _ _ h'] at h;cases h
 ·rw[h] at h';cases h'
 ·rw[h] at h';cases h';rfl
 ·rw[k _ _ h'] at h;cases h
 ·rw[k _ _ h] at h';cases h'
 ·rw[k _ _ h] at h';cases h'
 ·rw[h] at h';cases h';rw[hd] at hd';cases hd';exact r.inj r'
theorem MR.head{F:Fx}{ρ:Nat->Addr}{H:Hp}{σv tv:List (Option V)}{s:Stt}{v:V}{c:D}{r:List (Option D)}(M:MR G F ρ H σv (some v::tv) s)(e:s.tm=some c::r):RD G ρ H c v/\LB F ρ s.n (labs c):=by
 obtain⟨σ,tm,n⟩:=s
 have e:tm=some c::r:=e
 subst e
 exact⟨MR.top (s:=⟨σ,r,n⟩) M,MR.topl (s:=⟨σ,r,n⟩) M⟩
theorem z7Y{a:Addr}:ItOK G (Itl G.K a) kLst [some (.ref a)]:=by
 intro F ρ H σv tvp tv s i M
 dsimp only[kLst]
 cases e:s.tm.drop tvp.length with
 |nil=>trivial
 |cons o r=>
  cases o with
  |none=>trivial
  |some c=>
   simp only[zfl]
   obtain⟨h,lb⟩:=MR.head (s:=s.popn tvp.length) M.popn e
   cases e1:lstD c with
   |none=>trivial
   |some ds=>
    simp only[Option.map_some]
    obtain⟨a',xs,ea,sq,rr,sub⟩:=h.lstq e1
    cases ea
    cases e2:ds[i]? with
    |none=>
     refine⟨xs,sq, ?_⟩
     rw[<-rr.length]
     exact List.getElem?_eq_none_iff.mp e2
    |some d=>
     obtain⟨x,ex,rx⟩:=rr.get i d e2
     refine⟨⟨xs,x,sq,ex⟩, ?_⟩
     rintro x' H' ⟨rfl,hx⟩
     rw[hx xs sq] at ex
     cases ex
     exact⟨M,RDs.one rx,fun l hl=>lb l (sub l (labsL_mem (List.mem_of_getElem? e2) l (by simpa only[labsL,List.append_nil] using hl)))⟩
theorem zb8{a:Addr}:ItOK G (Itt G.K a) kTup [some (.ref a)]:=by
 intro F ρ H σv tvp tv s i M
 dsimp only[kTup]
 cases e:s.tm.drop tvp.length with
 |nil=>trivial
 |cons o r=>
  cases o with
  |none=>trivial
  |some c=>
   obtain⟨h,lb⟩:=MR.head (s:=s.popn tvp.length) M.popn e
   cases c with
   |tup ds=>
    simp only[zb7]
    obtain⟨a',xs,ea,sq,rr⟩:=h.tupq
    cases ea
    cases e2:ds[i]? with
    |none=>
     refine⟨xs,sq, ?_⟩
     rw[<-rr.length]
     exact List.getElem?_eq_none_iff.mp e2
    |some d=>
     obtain⟨x,ex,rx⟩:=rr.get i d e2
     refine⟨⟨xs,x,sq,ex⟩, ?_⟩
     rintro x' H' ⟨rfl,hx⟩
     rw[hx xs sq] at ex
     cases ex
     exact⟨M,RDs.one rx,fun l hl=>lb l (by simp only[labs];exact labsL_mem (List.mem_of_getElem? e2) l (by simpa only[labsL,List.append_nil] using hl))⟩
   |_=>trivial
theorem si_seq{m:M D}(hk:X.K=G.K)(h:SE X G F e m):SI X G F tg e (z0L m):=by
 refine PI.imp0 (zfm h) fun σ H R ⟨tv,hs,ρ,s,M,W⟩=>⟨tv,hs,ρ,s,M, ?_⟩
 unfold z0L bd at W
 cases e:m s with
 |ex d s1=>rw[e] at W;exact W
 |no=>rw[e] at W;exact W
 |ok t s1=>
  rw[e] at W
  intro ρ1 v H1 M1
  rw[hk]
  cases t with
  |tup ds=>
   obtain⟨a,xs,rfl,sq,r⟩:=M1.rd1.tupq
   exact⟨a,rfl, .inr ⟨⟨xs,sq⟩,W ρ1 H1 [some (.ref a)] _ rfl M1.push zb8⟩⟩
  |lst n ds=>
   obtain⟨a,xs,rfl,sq,r,_⟩:=M1.rd1.lstq (ds:=ds) rfl
   exact⟨a,rfl, .inl ⟨⟨xs,sq⟩,W ρ1 H1 [some (.ref a)] _ rfl M1.push z7Y⟩⟩
  |ro ds=>
   obtain⟨a,xs,rfl,sq,r,_⟩:=M1.rd1.lstq (ds:=ds) rfl
   exact⟨a,rfl, .inl ⟨⟨xs,sq⟩,W ρ1 H1 [some (.ref a)] _ rfl M1.push z7Y⟩⟩
  |_=>exact False.elim W
noncomputable def rng1(ts:List D):M ItK:=match ts with
 |[.int j]=>if -(2^62)<=j/\j<2^62 then rt (kRng 0 j.toNat) else fl
 |_=>fl
noncomputable def z2Z(ms:List (M D)):M ItK:=bd (mArgs ms) rng1
theorem zb9{lo:Int}{n:Nat}:ItOK G (Itr lo n) (kRng lo n) []:=by
 intro F ρ H σv tvp tv s i M
 simp only[kRng]
 by_cases h:i<n
 ·rw[if_pos h]
  refine⟨h, ?_⟩
  rintro x H' ⟨rfl,rfl⟩
  exact⟨M,RDs.one (by simp only[RD]),fun l hl=>by simp[labsL,labs] at hl⟩
 ·rw[if_neg h]
  exact Nat.not_lt.mp h
theorem si_rng1{p:Pos}{ms:List (M D)}(hg:Gl X "range")(hm:X.mg "range" =none)(ha:SA X G F [a] (mArgs ms))(hs:starEach [a] X.env=[(false,eval a X.env)]:=by rfl):SI X G F tg (.Call (.Name "range" p) [a] [] pos) (z2Z ms):=by
 refine PI.imp0 (z8V hg hm ha hs) fun σ H R ⟨tv,hs,ρ,s,M,W⟩=>⟨tv,hs,ρ,s,M, ?_⟩
 unfold z2Z bd at W
 cases e:mArgs ms s with
 |ex d s1=>rw[e] at W;exact W
 |no=>rw[e] at W;exact W
 |ok ts s1=>
  rw[e] at W
  intro ρ1 vs H1 M1
  unfold rng1 at W
  dsimp only at W
  split at W
  ·rename_i ts' j K s' hh
   split at hh
   ·split at hh
    ·rename_i j' hc
     cases hh
     obtain⟨v,rfl,h,_⟩:=M1.one
     simp only[RD] at h
     subst h
     exact⟨j',rfl,hc.1,hc.2,W ρ1 H1 [] _ rfl M1.m zb9⟩
    ·cases hh
   ·cases hh
  ·rename_i hh
   split at hh
   ·split at hh<;>cases hh
   ·cases hh
  ·exact False.elim W
noncomputable def forGo(K:ItK)(g:Tg)(b:MS):Nat->Nat->MS
 |f,i=>fun s=>match K.at' i s.tm with
  |none=> .no
  |some none=> .nx (s.popn K.k)
  |some (some d)=>match f with
   |0=> .no
   |f+1=>match asg g d s.σ with
    |none=> .no
    |some σ'=>match b {s with σ:=σ'} with
     | .nx s'=>forGo K g b f (i+1) s'
     | .ct s'=>forGo K g b f (i+1) s'
     | .bk s'=> .nx (s'.popn K.k)
     | .rt t s'=> .rt t (s'.popn K.k)
     | .ex d s'=> .ex d s'
     | .no=> .no
noncomputable def sFor(mi:M ItK)(g:Tg)(b:MS):MS:=lift mi fun K s=>forGo K g b (K.len s.tm) 0 s
theorem MRL.popn{ρ:Nat->Addr}{H:Hp}{σv tvs tv:List (Option V)}{s:Stt}{ts:List D}{vs:List V}(M:MRL G F.toFx ρ H σv (tvs++tv) s ts vs):MRL G F.toFx ρ H σv tv (s.popn tvs.length) ts vs:=⟨M.m.popn,M.rd,M.lb⟩
theorem suf2{tvs tv:List (Option V)}(h:F.tv0<:+tv):F.tv0<:+tvs++tv:=h.trans (List.suffix_append _ _)
theorem z9v{m:M ItK}{f:ItK->MS}{tv:List (Option V)}{D:Ends}{σ:St}{H:Hp}{R:It->Hp->Prop}(h:tSv G F (lift m f) tv D σ H)
 (k: ∀K ρ' H' tvs J s',tvs.length=K.k->MR G F.toFx ρ' H' σ (tvs++tv) s'->ItOK G J K tvs->wS G F tv (f K s') D->R J H'):tI G F m σ H R:=by
 obtain⟨hs,ρ,s,M,W⟩:=h
 refine⟨tv,hs,ρ,s,M, ?_⟩
 unfold lift at W
 cases e:m s with
 |ok K s1=>rw[e] at W;exact fun ρ' H' tvs J hl M' hok=>k K ρ' H' tvs J s1 hl M' hok W
 |ex d s1=>rw[e] at W;exact W
 |no=>rw[e] at W;exact W
theorem ss_for{body:List Stmt}{mi:M ItK}{g:Tg}{mb:MS}(hp:PassesOwn (model X.prog X.w) X.A X.env X.xe)(hc:X.calm=true)(hi:SI X G F tg iter mi)(hg:SG X G F tg g)(hb:SSs X G F body mb)(hst: ∀x,foldedSetIterable iter X.env x=pure x:=by intro _;rfl):SS X G F (.For tg iter body [] pos) (sFor mi g mb):=by
 refine PS.imp0 (zeE hp hc hi hg hb hst) fun D σ H ⟨tv,h⟩=>z9v h fun K ρ' H' tvs J s' hl M' hok W=> ?_
 have hs:=h.1
 refine⟨fun i m σ H=> ∃ρ s,MR G F.toFx ρ H σ (tvs++tv) s/\wS G F tv (forGo K g mb m i s) D,⟨_,ρ',s',M',W⟩, ?_⟩
 rintro i m σ H ⟨ρ,s,M,W⟩
 have ok:=hok F.toFx ρ H σ [] tv s i M
 simp only[List.length_nil,List.drop_zero,List.nil_append] at ok
 unfold forGo at W
 cases e:K.at' i s.tm with
 |none=>simp only[e] at W;exact False.elim W
 |some o=>
  cases o with
  |none=>
   simp only[e] at W ok
   refine .inl ⟨ok,W ρ σ H ?_⟩
   rw[<-hl]
   exact M.popn
  |some d=>
   simp only[e] at W ok
   cases m with
   |zero=>exact False.elim W
   |succ f=>
    dsimp only at W
    cases e2:asg g d s.σ with
    |none=>simp only[e2] at W;exact False.elim W
    |some σ'=>
     simp only[e2] at W
     refine .inr ⟨ok.1,fun σ H=> ∃ρ s,MR G F.toFx ρ H σ (tvs++tv) s/\wS G F tv (forGo K g mb f (i+1) s) D,fun σ' H' q=>⟨f,Nat.lt_succ_self _,q⟩,fun x H2 y=> ?_⟩
     refine⟨tvs++tv,ρ,s,d,ok.2 x H2 y,σ',e2,fun σv' M2=>⟨tvs++tv,suf2 hs,ρ,_,M2, ?_⟩⟩
     cases e3:mb {s with σ:=σ'} with
     |nx s2=>simp only[e3] at W;exact fun ρ3 σ3 H3 M3=>⟨ρ3,s2,M3,W⟩
     |ct s2=>simp only[e3] at W;exact fun ρ3 σ3 H3 M3=>⟨ρ3,s2,M3,W⟩
     |bk s2=>simp only[e3] at W;exact fun ρ3 σ3 H3 M3=>W ρ3 σ3 H3 (by rw[<-hl];exact M3.popn)
     |rt t s2=>simp only[e3] at W;exact fun ρ3 σ3 v H3 M3=>W ρ3 σ3 v H3 (by rw[<-hl];exact M3.popn)
     |ex d s2=>simp only[e3] at W;exact W
     |no=>simp only[e3] at W;exact W
end
noncomputable def z0a:List (Option D)->Option (List D)
 |[]=>some []
 |some d::r=>(z0a r).map (d:: ·)
 |none::_=>none
noncomputable def z1l(K:ItK)(g:Tg)(mt:M Bool)(me:M D)(ol:Nat):Nat->Nat->Nat->M D
 |f,i,k=>fun s=>match K.at' i (s.tm.drop (k+ol)) with
  |none=> .no
  |some none=>match z0a (s.tm.take k).reverse with
   |some ds=> .ok (.lst s.n ds) {σ:=(s.tm.drop k).take ol,tm:=s.tm.drop (k+ol+K.k),n:=s.n+1}
   |none=> .no
  |some (some d)=>match f with
   |0=> .no
   |f+1=>match asg g d s.σ with
    |none=> .no
    |some σ'=>match mt {s with σ:=σ'} with
     | .ok false s1=>z1l K g mt me ol f (i+1) k s1
     | .ok true s1=>if k<sizeLine then match me s1 with
      | .ok y s2=>z1l K g mt me ol f (i+1) (k+1) (s2.psh y)
      |_=> .no
      else .no
     |_=> .no
noncomputable def z7Z(own:Nat)(ix:List Nat)(s:Stt):Stt:={σ:=List.replicate own none++ix.map (fun i=>(s.σ[i]?).getD none),tm:=s.σ++s.tm,n:=s.n}
noncomputable def z0w(mi:M ItK)(g:Tg)(mt:M Bool)(me:M D)(own:Nat)(ix:List Nat):M D:=bd mi fun K s=>z1l K g mt me s.σ.length (K.len s.tm) 0 0 (z7Z own ix s)
section
variable{X:Cx}{G:Gx}{F:Fy}{e a b c tg iter elt:Expr}{pos:Pos}
noncomputable def Fy.prot(F:Fy)(D:Addr)(ys:List V)(h:F.H0 D=none):Fy where
 A0:=F.A0
 H0:=upd F.H0 D (.lst ys)
 Z:=fun a=>a=D\/F.Z a
 zA:=fun a z=>by
  rcases z with rfl|z
  ·exact⟨⟨_,z0i⟩,fun q=>by obtain⟨o,e⟩:=F.aH _ q;rw[h] at e;cases e⟩
  ·obtain⟨⟨o,e⟩,n⟩:=F.zA a z
   exact⟨⟨o,by rw[z0c (z0G e h)];exact e⟩,n⟩
 aH:=fun a q=>by
  obtain⟨o,e⟩:=F.aH a q
  exact⟨o,by rw[z0c (z0G e h)];exact e⟩
 n0:=F.n0
 ρ0:=F.ρ0
 tv0:=[]
 xw:=fun _ _=>False
theorem Sl.none_map{ρ:Nat->Addr}{H:Hp}: ∀k:Nat,Sl G ρ H (List.replicate k none) (List.replicate k none)
 |0=>by simp[Sl]
 |k+1=>by simp only[List.replicate_succ,Sl];exact⟨_,_,rfl,Sl.none_map k⟩
theorem Sl.pick{ρ:Nat->Addr}{H:Hp}{σ:List (Option D)}{σv:List (Option V)}(h:Sl G ρ H σ σv): ∀ix:List Nat,Sl G ρ H (ix.map fun i=>(σ[i]?).getD none) (ix.map fun i=>(σv[i]?).getD none)
 |[]=>by simp[Sl]
 |i::ix=>by
  simp only[List.map_cons]
  cases e:σ[i]? with
  |none=>simp only[Option.getD_none,Sl];exact⟨_,_,rfl,Sl.pick h ix⟩
  |some o=>
   cases o with
   |none=>simp only[Option.getD_some,Sl];exact⟨_,_,rfl,Sl.pick h ix⟩
   |some d=>
    obtain⟨v,e1,r⟩:=h.get i d e
    simp only[Option.getD_some,Sl,e1]
    exact⟨_,_,rfl,r,Sl.pick h ix⟩
theorem z3u{σ:List (Option D)}{l:Nat}: ∀{ix:List Nat},l∈z07 (ix.map fun i=>(σ[i]?).getD none)->l∈z07 σ
 |[],h=>by simp[z07] at h
 |i::ix,h=>by
  simp only[List.map_cons] at h
  cases e:σ[i]? with
  |none=>rw[e] at h;simp only[Option.getD_none,z07] at h;exact z3u h
  |some o=>
   rw[e] at h
   cases o with
   |none=>simp only[Option.getD_some,z07] at h;exact z3u h
   |some d=>
    simp only[Option.getD_some,z07] at h
    rcases List.mem_append.mp h with h|h
    ·exact z3t e l h
    ·exact z3u h
theorem z3v{l:Nat}: ∀k:Nat,¬l∈z07 (List.replicate k (none:Option D))
 |0,h=>by simp[z07] at h
 |k+1,h=>by simp only[List.replicate_succ,z07] at h;exact z3v k h
theorem MR.enter{ρ:Nat->Addr}{H:Hp}{σv tv:List (Option V)}{s:Stt}{D:Addr}(M:MR G F.toFx ρ H σv tv s)(hD:H D=none)(k:KD G.K (upd H D (.lst [])))(own:Nat)(ix:List Nat):
 MR G (F.prot D [] (M.fresh0 hD)).toFx ρ (upd H D (.lst [])) (z32 own ix σv) (σv++tv) (z7Z own ix s):=by
 have sm:=Same.new (.lst []) hD
 have M1:=M.same sm k
 have nD: ∀l,l<s.n->ρ l≠D:=fun l hl e=>by
  obtain⟨o,q⟩:=M.dom l hl
  rw[e,hD] at q;cases q
 have sub: ∀l∈z0Q (z7Z own ix s),l∈z0Q s:=fun l h=>by
  rcases List.mem_append.mp h with h|h
  ·have h:l∈z07 (List.replicate own none++ix.map (fun i=>(s.σ[i]?).getD none)):=h
   rw[z0f] at h
   rcases List.mem_append.mp h with h|h
   ·exact absurd h (z3v own)
   ·exact List.mem_append_left _ (z3u h)
  ·have h:l∈z07 (s.σ++s.tm):=h
   rw[z0f] at h
   exact h
 refine⟨?_,M1.sl.append M1.tm,M1.inj,M1.dom,fun l h=>M.lab l (sub l h),fun l h=> ?_,fun a o e=> ?_,k,fun l hl z=> ?_,M.bas⟩
 ·exact(Sl.none_map own).append (M1.sl.pick ix)
 ·rcases M.own l (sub l h) with q|q
  ·exact .inl q
  ·refine .inr ?_
   show upd F.H0 D (.lst []) (ρ l)=none
   rw[z0c (nD l (M.lab l (sub l h)))];exact q
 ·have e:upd F.H0 D (.lst []) a=some o:=e
  by_cases ha:a=D
  ·subst ha
   rw[z0i] at e;cases e
   exact⟨⟨_,z0i⟩,fun _=>z0i⟩
  ·rw[z0c ha] at e
   exact M1.frm a o e
 ·rcases z with z|z
  ·exact nD l hl z
  ·exact M.frb l hl z
theorem MR.turnD{ρ:Nat->Addr}{H:Hp}{σv tv:List (Option V)}{s:Stt}{D:Addr}{ys ys':List V}{hf:F.H0 D=none}(M:MR G (F.prot D ys hf).toFx ρ H σv tv s):
 H D=some (.lst ys)/\MR G (F.prot D ys' hf).toFx ρ (upd H D (.lst ys')) σv tv s:=by
 have hD:H D=some (.lst ys):=(M.frm D (.lst ys) z0i).2 ((F.prot D ys hf).zA D (.inl rfl)).2
 have nD: ∀l,l<s.n->ρ l≠D:=fun l hl e=>M.frb l hl (.inl e)
 have st:z1t H (upd H D (.lst ys')):=⟨fun b xs e=>by rw[z0c (zaL e hD (by intro z;cases z))];exact e,fun b o u e=>by rw[z0c (zaL e hD (by intro z;cases z))];exact e⟩
 refine⟨hD,⟨Sl.stay st M.sl fun l hl=>⟨rfl,fun o e=> ?_⟩,Sl.stay st M.tm fun l hl=>⟨rfl,fun o e=> ?_⟩,M.inj,fun l hl=> ?_,M.lab,fun l h=> ?_,fun a o e=> ?_,fun a o e=> ?_,fun l hl=>M.frb l hl,M.bas⟩⟩
 ·rw[z0c (nD l (M.lab l (List.mem_append_left _ hl)))];exact e
 ·rw[z0c (nD l (M.lab l (List.mem_append_right _ hl)))];exact e
 ·rw[z0c (nD l hl)];exact M.dom l hl
 ·rcases M.own l h with q|q
  ·exact .inl q
  ·refine .inr ?_
   have q:upd F.H0 D (.lst ys) (ρ l)=none:=q
   show upd F.H0 D (.lst ys') (ρ l)=none
   rw[z0c (nD l (M.lab l h))] at q⊢;exact q
 ·have e:upd F.H0 D (.lst ys') a=some o:=e
  by_cases ha:a=D
  ·subst ha
   rw[z0i] at e;cases e
   exact⟨⟨_,z0i⟩,fun _=>z0i⟩
  ·rw[z0c ha] at e⊢
   exact M.frm a o (by show upd F.H0 D (.lst ys) a=some o;rw[z0c ha];exact e)
 ·by_cases ha:a=D
  ·subst ha
   rw[M.kd a o e] at hD;cases hD
  ·rw[z0c ha];exact M.kd a o e
theorem Sl.all{ρ:Nat->Addr}{H:Hp}: ∀{tm:List (Option D)} {ys:List V} {ds:List D},Sl G ρ H tm (ys.map some)->z0a tm=some ds->RDs G ρ H ds ys/\labsL ds=z07 tm
 |[],ys,ds,h,e=>by
  simp only[Sl] at h
  simp only[z0a,Option.some.injEq] at e
  subst e
  have:ys=[]:=by simpa using h
  subst this
  simp[RDs,labsL,z07]
 |none::r,ys,ds,h,e=>by simp only[z0a] at e;cases e
 |some d::r,ys,ds,h,e=>by
  simp only[Sl] at h
  obtain⟨v,q,e1,h1,h2⟩:=h
  cases ys with
  |nil=>cases e1
  |cons y ys=>
   simp only[List.map_cons,List.cons.injEq,Option.some.injEq] at e1
   obtain⟨rfl,rfl⟩:=e1
   simp only[z0a] at e
   cases e2:z0a r with
   |none=>rw[e2] at e;cases e
   |some es=>
    rw[e2] at e
    cases e
    obtain⟨r1,r2⟩:=Sl.all h2 e2
    refine⟨?_,by simp only[labsL,z07,r2]⟩
    simp only[RDs]
    exact⟨_,_,rfl,h1,r1⟩
theorem Sl.reverse{ρ:Nat->Addr}{H:Hp}: ∀{tm:List (Option D)} {ys:List (Option V)},Sl G ρ H tm ys->Sl G ρ H tm.reverse ys.reverse
 |[],ys,h=>by simp only[Sl] at h;subst h;simp[Sl]
 |none::r,ys,h=>by
  simp only[Sl] at h
  obtain⟨o,q,rfl,h⟩:=h
  rw[List.reverse_cons,List.reverse_cons]
  exact(Sl.reverse h).append (by simp only[Sl];exact⟨_,_,rfl,rfl⟩)
 |some d::r,ys,h=>by
  simp only[Sl] at h
  obtain⟨o,q,rfl,h1,h⟩:=h
  rw[List.reverse_cons,List.reverse_cons]
  exact(Sl.reverse h).append (by simp only[Sl];exact⟨_,_,rfl,h1,rfl⟩)
theorem z4A{l:Nat}: ∀{tm:List (Option D)},l∈z07 tm.reverse↔l∈z07 tm
 |[]=>by simp
 |none::r=>by
  rw[List.reverse_cons,z0f]
  simp only[z07,List.append_nil]
  exact z4A
 |some d::r=>by
  rw[List.reverse_cons,z0f]
  simp only[z07,List.append_nil,List.mem_append]
  rw[z4A]
  exact Or.comm
theorem MR.leave{ρ:Nat->Addr}{H:Hp}{σi σv tvs tv:List (Option V)}{s:Stt}{A1:Addr}{ys:List V}{hf:F.H0 A1=none}{ds:List D}{kk:Nat}
 (M:MR G (F.prot A1 ys hf).toFx ρ H σi ((ys.reverse.map some)++(σv++(tvs++tv))) s) (hk:tvs.length=kk) (ol:Nat) (ho:σv.length=ol) (e:z0a (s.tm.take ys.length).reverse=some ds):
 MRL G F.toFx (ext ρ s.n A1) H σv tv {σ:=(s.tm.drop ys.length).take ol,tm:=s.tm.drop (ys.length+ol+kk),n:=s.n+1} [.lst s.n ds] [.ref A1]:=by
 subst hk ho
 have hD:=(MR.turnD (ys':=ys) M).1
 have nD: ∀l,l<s.n->ρ l≠A1:=fun l hl e=>M.frb l hl (.inl e)
 have t0:=Sl.split (ys.reverse.map some) M.tm
 simp only[List.length_map,List.length_reverse] at t0
 obtain⟨t1,t2⟩:=t0
 obtain⟨t3,t4⟩:=Sl.split σv t2
 obtain⟨_,t6⟩:=Sl.split tvs t4
 rw[List.drop_drop] at t4
 rw[List.drop_drop,List.drop_drop] at t6
 have t6':Sl G ρ H (s.tm.drop (ys.length+σv.length+tvs.length)) tv:=by rw[Nat.add_assoc];exact t6
 have t1':=t1.reverse
 rw[<-List.map_reverse,List.reverse_reverse] at t1'
 obtain⟨r1,r2⟩:=Sl.all t1' e
 have lt: ∀l,l∈z07 (s.tm.take ys.length)->l∈z0Q s:=fun l h=>List.mem_append_right _ (by
  have e:=z0f (s.tm.take ys.length) (s.tm.drop ys.length)
  rw[List.take_append_drop] at e
  rw[e];exact List.mem_append_left _ h)
 have ld: ∀l k,l∈z07 (s.tm.drop k)->l∈z0Q s:=fun l k h=>List.mem_append_right _ (by
  have e:=z0f (s.tm.take k) (s.tm.drop k)
  rw[List.take_append_drop] at e
  rw[e];exact List.mem_append_right _ h)
 have ldt: ∀l k j,l∈z07 ((s.tm.drop k).take j)->l∈z0Q s:=fun l k j h=>ld l k (by
  have e:=z0f ((s.tm.drop k).take j) ((s.tm.drop k).drop j)
  rw[List.take_append_drop] at e
  rw[e];exact List.mem_append_left _ h)
 have own: ∀l∈z0Q s,F.A0 (ρ l)\/F.H0 (ρ l)=none:=fun l h=>by
  rcases M.own l h with q|q
  ·exact .inl q
  ·refine .inr ?_
   have q:upd F.H0 A1 (.lst ys) (ρ l)=none:=q
   rw[z0c (nD l (M.lab l h))] at q;exact q
 have st:=z1t.refl H
 have stay: ∀l,l<s.n->ext ρ s.n A1 l=ρ l/\∀o,H (ρ l)=some o->H (ρ l)=some o:=fun l hl=>⟨z0q hl,fun o e=>e⟩
 have all: ∀l∈z0Q {σ:=(s.tm.drop ys.length).take σv.length,tm:=s.tm.drop (ys.length+σv.length+tvs.length),n:=s.n+1},l∈z0Q s:=fun l h=>by
  rcases List.mem_append.mp h with h|h
  ·exact ldt l _ _ h
  ·exact ld l _ h
 have dsl: ∀l∈labsL ds,l∈z0Q s:=fun l h=>lt l (by rw[r2] at h;exact z4A.mp h)
 refine⟨⟨Sl.stay st t3 fun l hl=>stay l (M.lab l (ldt l _ _ hl)),Sl.stay st t6' fun l hl=>stay l (M.lab l (ld l _ hl)),fun i j hi hj eq=> ?_,fun l hl=> ?_,fun l h=>Nat.lt_succ_of_lt (M.lab l (all l h)),fun l h=> ?_,fun a o e=> ?_,M.kd,fun l hl z=> ?_,⟨Nat.le_succ_of_le M.bas.1,fun l hl=>by rw[z0q (Nat.lt_of_lt_of_le hl M.bas.1)];exact M.bas.2 l hl⟩⟩, ?_,fun l h=> ?_⟩
 ·have hi:i<s.n+1:=hi
  have hj:j<s.n+1:=hj
  by_cases h1:i=s.n
  ·by_cases h2:j=s.n
   ·lia
   ·rw[h1,z0S,z0q (by lia)] at eq
    exact absurd eq.symm (nD j (by lia))
  ·by_cases h2:j=s.n
   ·rw[h2,z0S,z0q (by lia)] at eq
    exact absurd eq (nD i (by lia))
   ·rw[z0q (by lia),z0q (by lia)] at eq
    exact M.inj i j (by lia) (by lia) eq
 ·have hl:l<s.n+1:=hl
  by_cases h1:l=s.n
  ·subst h1;rw[z0S];exact⟨_,hD⟩
  ·rw[z0q (by lia)];exact M.dom l (by lia)
 ·rw[z0q (M.lab l (all l h))];exact own l (all l h)
 ·exact M.frm a o (by show upd F.H0 A1 (.lst ys) a=some o;rw[z0c (z0G e hf)];exact e)
 ·have hl:l<s.n+1:=hl
  by_cases h1:l=s.n
  ·subst h1;rw[z0S] at z
   obtain⟨⟨o,e⟩,_⟩:=F.zA A1 z
   rw[hf] at e;cases e
  ·rw[z0q (by lia)] at z
   exact M.frb l (by lia) (.inr z)
 ·refine RDs.one ?_
  simp only[RD]
  rw[z0S]
  exact⟨rfl,ys,hD,RDs.stay st ds ys r1 fun l hl=>stay l (M.lab l (dsl l hl))⟩
 ·simp only[labsL,labs,List.append_nil] at h
  rcases List.mem_cons.mp h with q|q
  ·rw[q,z0S];exact⟨Nat.lt_succ_self _, .inr hf⟩
  ·have q2:=dsl l q
   exact⟨Nat.lt_succ_of_lt (M.lab l q2),by rw[z0q (M.lab l q2)];exact own l q2⟩
noncomputable def tMx(G:Gx)(m:M D):TE:=fun σ H Q=> ∃F:Fy,tM G F m σ H Q
noncomputable def tBx(G:Gx)(m:M Bool):TT:=fun σ H Q=> ∃F:Fy,tMB G F m σ H Q
noncomputable def tGx(G:Gx)(g:Tg):TG:=fun v σ H Q=> ∃F:Fy,tGn G F g v σ H Q
noncomputable def STs(X:Cx)(G:Gx)(F:Fy)(ifs:List Expr)(m:M Bool):Prop:=PTs X ifs (tMB G F m)
theorem sts_nil:STs X G F [] (rt true):=fun pins s σ H Q I ⟨tv,hs,ρ,ms,M,W⟩=>zdr pins s σ H Q I (W ρ H M)
theorem sts_one{m:M Bool}(h:SB X G F c m):STs X G F [c] m:=zds h
theorem z80{K:W.Frag}{k:Nat}{ix:List Nat}{mi:M ItK}{g:Tg}{mt:M Bool}{me:M D}{σ:St}{H:Hp}{Q:VK}(hk:K=G.K)(h:tM G F (z0w mi g mt me k ix) σ H Q):z9q K (tI G F mi) (tGx G g) (tBx G mt) (tMx G me) k ix σ H Q:=by
 obtain⟨tv,hsf,ρ,s,M,W⟩:=h
 refine⟨tv,hsf,ρ,s,M, ?_⟩
 unfold z0w bd at W
 cases em:mi s with
 |ex d s1=>rw[em] at W;exact W
 |no=>rw[em] at W;exact W
 |ok K s1=>
  rw[em] at W
  intro ρ1 H1 tvs J hl M1 hok A1 hA1 kd
  subst hk
  have kd:KD G.K (upd H1 A1 (.lst [])):=kd
  have hf:=M1.fresh0 hA1
  refine⟨fun i m ys σ' H'=> ∃ρ s,MR G (F.prot A1 ys hf).toFx ρ H' σ' ((ys.reverse.map some)++(σ++(tvs++tv))) s/\wM G F σ tv (z1l K g mt me s1.σ.length m i ys.length s) Q,⟨_,ρ1,_,M1.enter hA1 kd k ix,W⟩, ?_⟩
  rintro i m ys σ' H' ⟨ρ2,s2,M2,W2⟩
  have hD:=(MR.turnD (ys':=ys) M2).1
  refine⟨hD, ?_⟩
  have ol:s1.σ.length=σ.length:=M1.sl.length
  have ok:=hok (F.prot A1 ys hf).toFx ρ2 H' σ' ((ys.reverse.map some)++σ) tv s2 i (by rw[List.append_assoc];exact M2)
  simp only[List.length_append,List.length_map,List.length_reverse,<-ol,List.append_assoc] at ok
  unfold z1l at W2
  cases e:K.at' i (s2.tm.drop (ys.length+s1.σ.length)) with
  |none=>simp only[e] at W2;exact False.elim W2
  |some o=>
   rw[e] at ok
   cases o with
   |none=>
    simp only[e] at W2 ok
    refine .inl ⟨ok, ?_⟩
    cases ea:z0a (s2.tm.take ys.length).reverse with
    |none=>simp only[ea] at W2;exact False.elim W2
    |some ds=>
     simp only[ea] at W2
     exact W2 _ _ _ (MR.leave M2 hl _ ol.symm ea)
   |some d=>
    simp only[e] at W2 ok
    cases m with
    |zero=>exact False.elim W2
    |succ f=>
     dsimp only at W2
     cases e2:asg g d s2.σ with
     |none=>simp only[e2] at W2;exact False.elim W2
     |some σ3=>
      simp only[e2] at W2
      refine .inr ⟨ok.1,fun x H2 y=> ?_⟩
      have hx:=ok.2 x H2 y
      refine⟨F.prot A1 ys hf,_,ρ2,s2,d,hx,σ3,e2,fun σv' M3=>⟨F.prot A1 ys hf,_,List.nil_suffix,ρ2,_,M3, ?_⟩⟩
      cases e3:mt {s2 with σ:=σ3} with
      |ex d s4=>simp only[e3] at W2;exact False.elim W2
      |no=>simp only[e3] at W2;exact False.elim W2
      |ok b s4=>
       intro ρ4 H4 M4
       cases b with
       |false=>
        simp only[e3] at W2
        rw[if_neg Bool.false_ne_true]
        exact⟨f,Nat.lt_succ_self _,ρ4,s4,M4,W2⟩
       |true=>
        simp only[e3] at W2
        rw[if_pos rfl]
        by_cases hz:ys.length<sizeLine
        ·rw[if_pos hz] at W2
         refine⟨F.prot A1 ys hf,_,List.nil_suffix,ρ4,s4,M4, ?_⟩
         cases e5:me s4 with
         |ex d s5=>simp only[e5] at W2;exact False.elim W2
         |no=>simp only[e5] at W2;exact False.elim W2
         |ok y s5=>
          simp only[e5] at W2
          intro ρ5 v H5 M5
          obtain⟨hD5,M6⟩:=MR.turnD (ys':=ys++[v]) M5.push
          refine⟨hD5,hz,f,Nat.lt_succ_self _,ρ5,s5.psh y, ?_, ?_⟩
          ·rw[List.reverse_append,List.reverse_cons,List.reverse_nil,List.nil_append,List.map_append]
           exact M6
          ·rw[List.length_append];exact W2
        ·rw[if_neg hz] at W2;exact False.elim W2
theorem se_comp{scope:Scope}{own frees:List Str}{ix:List Nat}{ifs:List Expr}{mi:M ItK}{g:Tg}{mt:M Bool}{me:M D}(hk:X.K=G.K)(hc:X.calm=true)(S:z1k X.env.scope scope own frees X.N ix)(hi:SI X G F tg iter mi)
 (hg: ∀(F:Fy) cl C s₀ H₀ fp pn,SG (z0z X scope own frees cl C s₀ H₀ fp pn) G F tg g) (ht: ∀(F:Fy) cl C s₀ H₀ fp pn,STs (z0z X scope own frees cl C s₀ H₀ fp pn) G F ifs mt) (he: ∀(F:Fy) cl C s₀ H₀ fp pn,SE (z0z X scope own frees cl C s₀ H₀ fp pn) G F elt me)
 (hs: ∀x,foldedSetIterable iter X.env x=pure x:=by intro _;rfl):SE X G F (.ListComp elt [⟨tg,iter,ifs,0⟩] scope pos) (z0w mi g mt me own.length ix):=
 PE.imp0 (z9r (g:=tGx G g) (tt:=tBx G mt) (te:=tMx G me) hc S hi (fun cl C s₀ H₀ fp pn pins s σ H v u Q I r ⟨F',q⟩=>hg F' cl C s₀ H₀ fp pn pins s σ H v u Q I r q)
  (fun cl C s₀ H₀ fp pn pins s σ H Q I ⟨F',q⟩=>ht F' cl C s₀ H₀ fp pn pins s σ H Q I q) (fun cl C s₀ H₀ fp pn pins s σ H Q I ⟨F',q⟩=>he F' cl C s₀ H₀ fp pn pins s σ H Q I q) hs) fun σ H Q h=>z80 hk h
theorem ss_comp{y:Str}{py spos:Pos}{i:Nat}{scope:Scope}{own frees:List Str}{ix:List Nat}{ifs:List Expr}{mi:M ItK}{g:Tg}{mt:M Bool}{me:M D}(hk:X.K=G.K)(hN:X.N.Nodup)(hy:X.N[i]? =some y)(hx:Loc X.env.scope y)(hfn:X.fn y=true\/X.env.scope.names.lookup y=some .local)(hsw:swapsWith (.ListComp elt [⟨tg,iter,ifs,0⟩] scope pos) (some (.Name y py)) spos.line X.env=pure true)
 (hc:X.calm=true) (S:z1k X.env.scope scope own frees X.N ix) (hi:SI X G F tg iter mi)
 (hg: ∀(F:Fy) cl C s₀ H₀ fp pn,SG (z0z X scope own frees cl C s₀ H₀ fp pn) G F tg g) (ht: ∀(F:Fy) cl C s₀ H₀ fp pn,STs (z0z X scope own frees cl C s₀ H₀ fp pn) G F ifs mt) (he: ∀(F:Fy) cl C s₀ H₀ fp pn,SE (z0z X scope own frees cl C s₀ H₀ fp pn) G F elt me)
 (hs: ∀x,foldedSetIterable iter X.env x=pure x:=by intro _;rfl):SS X G F (.Assign [.Name y py] (.ListComp elt [⟨tg,iter,ifs,0⟩] scope pos) spos) (sAsg (.nm i) (z0w mi g mt me own.length ix)):=by
 refine PS.imp0 (z9s (i:=i) (g:=tGx G g) (tt:=tBx G mt) (te:=tMx G me) hN hy hx hfn hsw hc S hi (fun cl C s₀ H₀ fp pn pins s σ H v u Q I r ⟨F',q⟩=>hg F' cl C s₀ H₀ fp pn pins s σ H v u Q I r q)
  (fun cl C s₀ H₀ fp pn pins s σ H Q I ⟨F',q⟩=>ht F' cl C s₀ H₀ fp pn pins s σ H Q I q) (fun cl C s₀ H₀ fp pn pins s σ H Q I ⟨F',q⟩=>he F' cl C s₀ H₀ fp pn pins s σ H Q I q) hs) fun Dd σ H ⟨tv,h⟩=> ?_
 refine z80 hk ⟨tv,(z2V h).mono fun v H1 ⟨ρ1,s1,t,M1,W⟩=> ?_⟩
 simp only[asg] at W
 exact W ρ1 _ H1 (M1.setS i).m
end
mutual
noncomputable def z0r(l:Nat):D->Option D
 | .tup ds=>findL l ds
 | .ro ds=>findL l ds
 | .fdc _ vs=>findL l vs
 | .lst k ds=>if k=l then some (.lst k ds) else findL l ds
 | .dct k ks vs=>if k=l then some (.dct k ks vs) else findL l vs
 | .obj k c ns vs=>if k=l then some (.obj k c ns vs) else findL l vs
 | .non=>none| .bool _=>none| .int _=>none| .str _=>none| .exc _=>none| .fn _=>none
noncomputable def findL(l:Nat):List D->Option D
 |[]=>none
 |d::ds=>match z0r l d with
  |some x=>some x
  |none=>findL l ds
end
section
variable{G:Gx}{ρ:Nat->Addr}{H:Hp}
mutual
theorem zba(l:Nat): ∀(t:D) (v:V) (d:D),RD G ρ H t v->z0r l t=some d->RD G ρ H d (.ref (ρ l))/\∀k∈labs d,k∈labs t
 | .non,v,d,h,e=>by simp only[z0r] at e;cases e
 | .bool b,v,d,h,e=>by simp only[z0r] at e;cases e
 | .int b,v,d,h,e=>by simp only[z0r] at e;cases e
 | .str b,v,d,h,e=>by simp only[z0r] at e;cases e
 | .exc b,v,d,h,e=>by simp only[z0r] at e;cases e
 | .fn b,v,d,h,e=>by simp only[z0r] at e;cases e
 | .tup ds,v,d,h,e=>by
  simp only[z0r,RD,labs] at h e⊢
  obtain⟨a,xs,_,_,r⟩:=h
  exact findL_rd l ds xs d r e
 | .ro ds,v,d,h,e=>by
  simp only[z0r,RD,labs] at h e⊢
  obtain⟨a,xs,_,_,r⟩:=h
  exact findL_rd l ds xs d r e
 | .fdc ks vs,v,d,h,e=>by
  simp only[z0r,RD,labs] at h e⊢
  obtain⟨a,o,kvs,_,_,_,r⟩:=h
  exact findL_rd l vs _ d r e
 | .lst k ds,v,d,h,e=>by
  simp only[z0r] at e
  by_cases hk:k=l
  ·rw[if_pos hk] at e;cases e
   subst hk
   have h':=h
   simp only[RD] at h'
   obtain⟨rfl,_⟩:=h'
   exact⟨h,fun _ q=>q⟩
  ·rw[if_neg hk] at e
   simp only[RD] at h
   obtain⟨_,xs,_,r⟩:=h
   obtain⟨q1,q2⟩:=findL_rd l ds xs d r e
   exact⟨q1,fun j hj=>by simp only[labs];exact List.mem_cons_of_mem _ (q2 j hj)⟩
 | .dct k ks vs,v,d,h,e=>by
  simp only[z0r] at e
  by_cases hk:k=l
  ·rw[if_pos hk] at e;cases e
   subst hk
   have h':=h
   simp only[RD] at h'
   obtain⟨rfl,_⟩:=h'
   exact⟨h,fun _ q=>q⟩
  ·rw[if_neg hk] at e
   simp only[RD] at h
   obtain⟨_,⟨kvs,_,_,r⟩|⟨kvs,_,_,r⟩⟩:=h
   ·obtain⟨q1,q2⟩:=findL_rd l vs _ d r e
    exact⟨q1,fun j hj=>by simp only[labs];exact List.mem_cons_of_mem _ (List.mem_append_right _ (q2 j hj))⟩
   ·obtain⟨q1,q2⟩:=findL_rd l vs _ d r e
    exact⟨q1,fun j hj=>by simp only[labs];exact List.mem_cons_of_mem _ (List.mem_append_right _ (q2 j hj))⟩
 | .obj k c ns vs,v,d,h,e=>by
  simp only[z0r] at e
  by_cases hk:k=l
  ·rw[if_pos hk] at e;cases e
   subst hk
   have h':=h
   simp only[RD] at h'
   obtain⟨rfl,_⟩:=h'
   exact⟨h,fun _ q=>q⟩
  ·rw[if_neg hk] at e
   simp only[RD] at h
   obtain⟨_,C,dx,fs,_,_,_,r⟩:=h
   obtain⟨q1,q2⟩:=findL_rd l vs _ d r e
   exact⟨q1,fun j hj=>by simp only[labs];exact List.mem_cons_of_mem _ (q2 j hj)⟩
theorem findL_rd(l:Nat): ∀(t:List D) (v:List V) (d:D),RDs G ρ H t v->findL l t=some d->RD G ρ H d (.ref (ρ l))/\∀k∈labs d,k∈labsL t
 |[],v,d,h,e=>by simp only[findL] at e;cases e
 |t::ts,v,d,h,e=>by
  simp only[findL,RDs,labsL] at h e⊢
  obtain⟨x,r,_,h1,h2⟩:=h
  cases e1:z0r l t with
  |some y=>
   rw[e1] at e;cases e
   obtain⟨q1,q2⟩:=zba l t x _ h1 e1
   exact⟨q1,fun j hj=>List.mem_append_left _ (q2 j hj)⟩
  |none=>
   rw[e1] at e
   obtain⟨q1,q2⟩:=findL_rd l ts r d h2 e
   exact⟨q1,fun j hj=>List.mem_append_right _ (q2 j hj)⟩
end
theorem roL_two{K:W.Frag}{a:Addr}{xs ys:List V}(k:KD K H)(h:RoL K H a xs)(h':RoL K H a ys):xs=ys:=SqL.two k h.sq h'.sq
noncomputable def z81(G:Gx)(H:Hp)(a:Addr):Nat->Prop
 |0=> ∃xs,SqT G.K H a xs
 |1=> ∃xs,RoL G.K H a xs
 |2=> ∃xs,H a=some (.lst xs)
 |3=>(∃kvs,H a=some (.dK kvs))\/∃kvs,H a=some (.dT kvs)
 |4=> ∃C dx fs,H a=some (.ins C dx fs)
 |5=> ∃o φ,H a=some (.frz o (.ext φ))
 |6=> ∃c,G.cl c=some a
 |_=> ∃o kvs,H a=some (.frz o (.dT kvs))
open Classical in
noncomputable def kd(K:W.Frag)(H:Hp)(a:Addr):Nat:=match H a with
 |some (.tup _)=>0|some (.frz _ (.tup _))=>0|some (.frz _ (.lst _))=>1|some (.lst _)=>2|some (.dK _)=>3|some (.dT _)=>3|some (.ins _ _ _)=>4|some (.frz _ (.ext _))=>5|some (.frz _ (.dT _))=>7
 |some _=>9
 |none=>match K.lookup a with
  |some o=>if(∃its n,o.data= .seq its n) then(if o.cls= .type "tuple" then 0 else 1) else 6
  |none=>8
theorem zfn{a:Addr}(k:KD G.K H): ∀{i:Nat},z81 G H a i->i<=7->kd G.K H a=i:=by
 have tl: ¬((.type "list" :Value)= .type "tuple"):=by intro h;injection h with h;exact absurd h (by decide)
 intro i hi li
 match i,hi,li with
 |0,⟨xs,h⟩,_=>
  rcases h with(h|⟨o,h⟩)|⟨o,its,n,h,hc,hd,_⟩
  ·unfold kd;rw[h]
  ·unfold kd;rw[h]
  ·unfold kd;rw[k _ _ h];dsimp only;rw[h];dsimp only;rw[if_pos ⟨its,n,hd⟩,if_pos hc]
 |1,⟨xs,h⟩,_=>
  rcases h with⟨o,h⟩|⟨o,its,n,h,hc,_,hd,_⟩
  ·unfold kd;rw[h]
  ·unfold kd;rw[k _ _ h];dsimp only;rw[h];dsimp only;rw[if_pos ⟨its,n,hd⟩,if_neg (by rw[hc];exact tl)]
 |2,⟨xs,h⟩,_=>unfold kd;rw[h]
 |3,h,_=>rcases h with⟨_,h⟩|⟨_,h⟩<;>(unfold kd;rw[h])
 |4,⟨_,_,_,h⟩,_=>unfold kd;rw[h]
 |5,⟨_,_,h⟩,_=>unfold kd;rw[h]
 |6,⟨c,h⟩,_=>
  obtain⟨o,h1,h2⟩:=G.ck c a h
  unfold kd;rw[k _ _ h1];dsimp only;rw[h1];dsimp only;rw[if_neg (fun⟨its,n,q⟩=>h2 its n q)]
 |7,⟨_,_,h⟩,_=>unfold kd;rw[h]
 |n+8,_,li=>lia
theorem zbb{a:Addr}(k:KD G.K H){i j:Nat}(hi:z81 G H a i)(hj:z81 G H a j)(li:i<=7)(lj:j<=7):i=j:=(zfn k hi li).symm.trans (zfn k hj lj)
noncomputable def ix:D->Nat
 | .tup _=>0| .ro _=>1| .lst _ _=>2| .dct _ _ _=>3| .obj _ _ _ _=>4| .exc _=>5| .fn _=>6| .fdc _ _=>7|_=>8
noncomputable def flD:V->D
 | .bl b=> .bool b| .int b=> .int b| .str b=> .str b|_=> .non
theorem RD.kind{t:D}{v:V}(h:RD G ρ H t v):(t=flD v/\∀a,v≠ .ref a)\/∃a,v= .ref a/\ix t<=7/\z81 G H a (ix t):=by
 cases t<;>simp only[RD] at h
 ·exact .inl (by rw[h];exact⟨rfl,nofun⟩)
 ·exact .inl (by rw[h];exact⟨rfl,nofun⟩)
 ·exact .inl (by rw[h];exact⟨rfl,nofun⟩)
 ·exact .inl (by rw[h];exact⟨rfl,nofun⟩)
 ·obtain⟨a',xs,e,s,r⟩:=h;exact .inr ⟨a',e,Nat.le_of_ble_eq_true rfl,xs,SqT.of s⟩
 ·obtain⟨a',xs,e,s,r⟩:=h;exact .inr ⟨a',e,Nat.le_of_ble_eq_true rfl,xs,s⟩
 ·obtain⟨e,xs,s,r⟩:=h;exact .inr ⟨_,e,Nat.le_of_ble_eq_true rfl,xs,s⟩
 ·obtain⟨e,⟨kvs,s,_⟩|⟨kvs,s,_⟩⟩:=h
  ·exact .inr ⟨_,e,Nat.le_of_ble_eq_true rfl, .inl ⟨kvs,s⟩⟩
  ·exact .inr ⟨_,e,Nat.le_of_ble_eq_true rfl, .inr ⟨kvs,s⟩⟩
 ·obtain⟨e,C,dx,fs,_,s,_⟩:=h;exact .inr ⟨_,e,Nat.le_of_ble_eq_true rfl,C,dx,fs,s⟩
 ·obtain⟨a',o,C,e,_,_,_,s⟩:=h;exact .inr ⟨a',e,Nat.le_of_ble_eq_true rfl,o,_,s⟩
 ·obtain⟨a',e,s⟩:=h;exact .inr ⟨a',e,Nat.le_of_ble_eq_true rfl,_,s⟩
 ·obtain⟨a',o,kvs,e,s,_⟩:=h;exact .inr ⟨a',e,Nat.le_of_ble_eq_true rfl,o,kvs,s⟩
theorem ix0{t:D}(h:ix t=0): ∃ds,t= .tup ds:=by cases t<;>first|exact⟨_,rfl⟩|cases h
theorem ix1{t:D}(h:ix t=1): ∃ds,t= .ro ds:=by cases t<;>first|exact⟨_,rfl⟩|cases h
theorem ix2{t:D}(h:ix t=2): ∃l ds,t= .lst l ds:=by cases t<;>first|exact⟨_,_,rfl⟩|cases h
theorem ix3{t:D}(h:ix t=3): ∃l ks vs,t= .dct l ks vs:=by cases t<;>first|exact⟨_,_,_,rfl⟩|cases h
theorem ix4{t:D}(h:ix t=4): ∃l c ns vs,t= .obj l c ns vs:=by cases t<;>first|exact⟨_,_,_,_,rfl⟩|cases h
theorem ix5{t:D}(h:ix t=5): ∃c,t= .exc c:=by cases t<;>first|exact⟨_,rfl⟩|cases h
theorem ix6{t:D}(h:ix t=6): ∃c,t= .fn c:=by cases t<;>first|exact⟨_,rfl⟩|cases h
theorem ix7{t:D}(h:ix t=7): ∃ks vs,t= .fdc ks vs:=by cases t<;>first|exact⟨_,_,rfl⟩|cases h
theorem RD.ixE{t t':D}{v:V}(k:KD G.K H)(h:RD G ρ H t v)(h':RD G ρ H t' v):t=t'\/ix t=ix t':=by
 rcases RD.kind h with⟨e,n⟩|⟨a,e,l,q⟩<;>rcases RD.kind h' with⟨e',n'⟩|⟨a',e',l',q'⟩
 ·exact .inl (e.trans e'.symm)
 ·exact absurd e' (n _)
 ·exact absurd e (n' _)
 ·cases e.symm.trans e';exact .inr (zbb k q q' l l')
section
variable(k:KD G.K H){n:Nat}(inj: ∀i j,i<n->j<n->ρ i=ρ j->i=j)
include k inj
mutual
theorem RD.uniq: ∀(t t':D) (v:V),RD G ρ H t v->RD G ρ H t' v->(∀l∈labs t,l<n)->(∀l∈labs t',l<n)->t=t'
 | .non,t',v,h,h',_,_=>(RD.kind h').elim (fun e=>by simp only[RD] at h;subst h;exact e.1.symm) fun⟨_,e,_⟩=>by simp only[RD] at h;subst h;cases e
 | .bool b,t',v,h,h',_,_=>(RD.kind h').elim (fun e=>by simp only[RD] at h;subst h;exact e.1.symm) fun⟨_,e,_⟩=>by simp only[RD] at h;subst h;cases e
 | .int b,t',v,h,h',_,_=>(RD.kind h').elim (fun e=>by simp only[RD] at h;subst h;exact e.1.symm) fun⟨_,e,_⟩=>by simp only[RD] at h;subst h;cases e
 | .str b,t',v,h,h',_,_=>(RD.kind h').elim (fun e=>by simp only[RD] at h;subst h;exact e.1.symm) fun⟨_,e,_⟩=>by simp only[RD] at h;subst h;cases e
 | .exc c,t',v,h,h',lb,lb'=>by
  rcases RD.ixE k h h' with e|e
  ·exact e
  obtain⟨c',rfl⟩:=ix5 e.symm
  simp only[RD] at h h'
  obtain⟨a,o,C,rfl,h1,h2,_,s⟩:=h
  obtain⟨a',o',C',e,h1',h2',_,s'⟩:=h'
  cases e
  rw[s] at s';cases s'
  rw[h2] at h2';cases h2'
  rw[G.ci c c' C h1 h1']
 | .fn c,t',v,h,h',lb,lb'=>by
  rcases RD.ixE k h h' with e|e
  ·exact e
  obtain⟨c',rfl⟩:=ix6 e.symm
  simp only[RD] at h h'
  obtain⟨a,rfl,h1⟩:=h
  obtain⟨a',e,h1'⟩:=h'
  cases e
  rw[G.ci c c' a h1 h1']
 | .tup ds,t',v,h,h',lb,lb'=>by
  rcases RD.ixE k h h' with e|e
  ·exact e
  obtain⟨es,rfl⟩:=ix0 e.symm
  obtain⟨a,xs,rfl,s,r⟩:=h.tupq
  obtain⟨a',ys,e,s',r'⟩:=h'.tupq
  cases e
  cases SqT.two k s s'
  rw[RDs.uniq ds es xs r r' lb lb']
 | .fdc ks vs,t',v,h,h',lb,lb'=>by
  rcases RD.ixE k h h' with e|e
  ·exact e
  obtain⟨ks',vs',rfl⟩:=ix7 e.symm
  simp only[RD] at h h'
  obtain⟨a,o,kvs,rfl,s,s2,r⟩:=h
  obtain⟨a',o',kvs',e,s',s2',r'⟩:=h'
  cases e
  rw[s] at s';cases s'
  rw[s2,s2',RDs.uniq vs vs' _ r r' lb lb']
 | .ro ds,t',v,h,h',lb,lb'=>by
  rcases RD.ixE k h h' with e|e
  ·exact e
  obtain⟨es,rfl⟩:=ix1 e.symm
  simp only[RD] at h h'
  obtain⟨a,xs,rfl,s,r⟩:=h
  obtain⟨a',ys,e,s',r'⟩:=h'
  cases e
  cases roL_two k s s'
  rw[RDs.uniq ds es xs r r' lb lb']
 | .lst l ds,t',v,h,h',lb,lb'=>by
  rcases RD.ixE k h h' with e|e
  ·exact e
  obtain⟨l',es,rfl⟩:=ix2 e.symm
  simp only[RD] at h h'
  obtain⟨rfl,xs,s,r⟩:=h
  obtain⟨e,ys,s',r'⟩:=h'
  cases inj l l' (lb l (.head _)) (lb' l' (.head _)) (V.ref.inj e)
  rw[s] at s';cases s'
  rw[RDs.uniq ds es xs r r' (fun j hj=>lb j (.tail _ hj)) fun j hj=>lb' j (.tail _ hj)]
 | .dct l ks vs,t',v,h,h',lb,lb'=>by
  rcases RD.ixE k h h' with e|e
  ·exact e
  obtain⟨l',ks',vs',rfl⟩:=ix3 e.symm
  simp only[RD] at h h'
  obtain⟨rfl,q⟩:=h
  obtain⟨e,q'⟩:=h'
  cases inj l l' (lb l (.head _)) (lb' l' (.head _)) (V.ref.inj e)
  have b1: ∀j∈labsL vs,j<n:=fun j hj=>lb j (.tail _ (List.mem_append_right _ hj))
  have b2: ∀j∈labsL vs',j<n:=fun j hj=>lb' j (.tail _ (List.mem_append_right _ hj))
  rcases q with⟨kvs,s,s2,r⟩|⟨kvs,s,s2,r⟩<;>rcases q' with⟨kvs',s',s2',r'⟩|⟨kvs',s',s2',r'⟩<;>rw[s] at s'<;>cases s'
  ·rw[s2,s2',RDs.uniq vs vs' _ r r' b1 b2]
  ·rw[s2,s2',RDs.uniq vs vs' _ r r' b1 b2]
 | .obj l c ns vs,t',v,h,h',lb,lb'=>by
  rcases RD.ixE k h h' with e|e
  ·exact e
  obtain⟨l',c',ns',vs',rfl⟩:=ix4 e.symm
  simp only[RD] at h h'
  obtain⟨rfl,C,dx,fs,hC,s,s2,r⟩:=h
  obtain⟨e,C',dx',fs',hC',s',s2',r'⟩:=h'
  cases inj l l' (lb l (.head _)) (lb' l' (.head _)) (V.ref.inj e)
  rw[s] at s';cases s'
  rw[s2,s2',G.ci c c' C hC hC',RDs.uniq vs vs' _ r r' (fun j hj=>lb j (.tail _ hj)) fun j hj=>lb' j (.tail _ hj)]
theorem RDs.uniq: ∀(t t':List D) (v:List V),RDs G ρ H t v->RDs G ρ H t' v->(∀l∈labsL t,l<n)->(∀l∈labsL t',l<n)->t=t'
 |[],t',v,h,h',_,_=>by
  simp only[RDs] at h;subst h
  cases t' with
  |nil=>rfl
  |cons d ds=>simp only[RDs] at h';obtain⟨_,_,e,_⟩:=h';cases e
 |d::ds,t',v,h,h',lb,lb'=>by
  simp only[RDs] at h
  obtain⟨x,q,rfl,h1,h2⟩:=h
  cases t' with
  |nil=>simp only[RDs] at h';cases h'
  |cons d' ds'=>
   simp only[RDs] at h'
   obtain⟨_,_,e,h1',h2'⟩:=h'
   cases e
   rw[RD.uniq d d' x h1 h1' (fun l hl=>lb l (by simp only[labsL];exact List.mem_append_left _ hl)) fun l hl=>lb' l (by simp only[labsL];exact List.mem_append_left _ hl),
    RDs.uniq ds ds' q h2 h2' (fun l hl=>lb l (by simp only[labsL];exact List.mem_append_right _ hl)) fun l hl=>lb' l (by simp only[labsL];exact List.mem_append_right _ hl)]
end
end
end
end Mi
namespace Mi
open PySem L2 PySem.Spec PyProof.Rows
inductive RF where
 |ok (t:D) (ts:List D) (n:Nat)|ex (d:D) (ts:List D) (n:Nat)|no
noncomputable abbrev FM:=List D->Nat->RF
structure z5J(G:Gx)(ρ:Nat->Addr)(n:Nat)(ts:List D)(vs:List V)(H:Hp)(ρ':Nat->Addr)(n':Nat)(ts':List D)(H':Hp):Prop where
 old: ∀l,l<n->ρ' l=ρ l
 le:n<=n'
 inj: ∀i j,i<n'->j<n'->ρ' i=ρ' j->i=j
 dom: ∀l,l<n'->∃o,H' (ρ' l)=some o
 rd:RDs G ρ' H' ts' vs
 lb: ∀l∈labsL ts',l<n'/\(l<n->l∈labsL ts)
 fr: ∀a o,H a=some o->(∃o',H' a=some o')/\((∀l∈labsL ts,a≠ρ l)->H' a=some o)
 new: ∀l,n<=l->l<n'->H (ρ' l)=none
 kd:KD G.K H'
section
variable{G:Gx}{ρ ρ':Nat->Addr}{H H':Hp}
theorem z9w(k:Key):labs (keyD k)=[]:=by cases k<;>simp only[keyD,labs]
theorem z9x: ∀ks:List Key,labsL (ks.map keyD)=[]
 |[]=>by simp only[List.map_nil,labsL]
 |k::ks=>by simp only[List.map_cons,labsL,z9w,z9x ks,List.append_nil]
theorem z9y(z:Key⊕List Key):labs (nkD z)=[]:=by
 cases z with
 |inl k=>exact z9w k
 |inr ks=>simp only[nkD,labs,z9x]
mutual
theorem zdu: ∀(t:D) (v:V),RD G ρ H t v->∀l∈labs t,∃o,H (ρ l)=some o/\(∀xs,o≠ .tup xs)/\∀u w,o≠ .frz u w
 | .non,v,h,l,hl=>by simp only[labs] at hl;cases hl
 | .bool b,v,h,l,hl=>by simp only[labs] at hl;cases hl
 | .int b,v,h,l,hl=>by simp only[labs] at hl;cases hl
 | .str b,v,h,l,hl=>by simp only[labs] at hl;cases hl
 | .exc b,v,h,l,hl=>by simp only[labs] at hl;cases hl
 | .fn b,v,h,l,hl=>by simp only[labs] at hl;cases hl
 | .tup ds,v,h,l,hl=>by
  simp only[labs,RD] at h hl
  obtain⟨a,xs,_,_,r⟩:=h
  exact labL_mut ds xs r l hl
 | .fdc ks vs,v,h,l,hl=>by
  simp only[labs,RD] at h hl
  obtain⟨a,o,kvs,_,_,_,r⟩:=h
  exact labL_mut vs _ r l hl
 | .ro ds,v,h,l,hl=>by
  simp only[labs,RD] at h hl
  obtain⟨a,xs,_,_,r⟩:=h
  exact labL_mut ds xs r l hl
 | .lst k ds,v,h,l,hl=>by
  simp only[labs,RD] at h hl
  obtain⟨_,xs,s,r⟩:=h
  rcases List.mem_cons.mp hl with rfl|hl
  ·exact⟨_,s,(fun _ q=>nomatch q),(fun _ _ q=>nomatch q)⟩
  ·exact labL_mut ds xs r l hl
 | .dct k ks vs,v,h,l,hl=>by
  simp only[labs,RD] at h hl
  obtain⟨_,⟨kvs,s,s2,r⟩|⟨kvs,s,s2,r⟩⟩:=h
  ·rcases List.mem_cons.mp hl with rfl|hl
   ·exact⟨_,s,(fun _ q=>nomatch q),(fun _ _ q=>nomatch q)⟩
   ·rcases List.mem_append.mp hl with hl|hl
    ·rw[s2] at hl
     obtain⟨d,hd,hl⟩:=z1u hl
     rcases List.mem_cons.mp hd with rfl|hd
     ·simp only[labs] at hl;cases hl
     obtain⟨p,_,rfl⟩:=List.mem_map.mp hd
     obtain⟨kk,_⟩:=p
     cases kk<;>simp only[keyD,labs] at hl<;>cases hl
    ·exact labL_mut vs _ r l hl
  ·rcases List.mem_cons.mp hl with rfl|hl
   ·exact⟨_,s,(fun _ q=>nomatch q),(fun _ _ q=>nomatch q)⟩
   ·rcases List.mem_append.mp hl with hl|hl
    ·rw[s2] at hl
     obtain⟨d,hd,hl⟩:=z1u hl
     obtain⟨p,_,rfl⟩:=List.mem_map.mp hd
     simp only[dkD,labs] at hl
     obtain⟨d,hd,hl⟩:=z1u hl
     obtain⟨kk,_,rfl⟩:=List.mem_map.mp hd
     rw[z9y] at hl;cases hl
    ·exact labL_mut vs _ r l hl
 | .obj k c ns vs,v,h,l,hl=>by
  simp only[labs,RD] at h hl
  obtain⟨_,C,dx,fs,_,s,_,r⟩:=h
  rcases List.mem_cons.mp hl with rfl|hl
  ·exact⟨_,s,(fun _ q=>nomatch q),(fun _ _ q=>nomatch q)⟩
  ·exact labL_mut vs _ r l hl
theorem labL_mut: ∀(t:List D) (v:List V),RDs G ρ H t v->∀l∈labsL t,∃o,H (ρ l)=some o/\(∀xs,o≠ .tup xs)/\∀u w,o≠ .frz u w
 |[],v,h,l,hl=>by simp only[labsL] at hl;cases hl
 |d::ds,v,h,l,hl=>by
  simp only[labsL,RDs] at h hl
  obtain⟨x,r,_,h1,h2⟩:=h
  rcases List.mem_append.mp hl with hl|hl
  ·exact zdu d x h1 l hl
  ·exact labL_mut ds r h2 l hl
end
theorem z8x{kvs:List (Key×V)}{l:Nat}(hl:l∈labsL (kvs.map fun p=>keyD p.1)):False:=by
 obtain⟨d,hd,hl⟩:=z1u hl
 obtain⟨p,_,rfl⟩:=List.mem_map.mp hd
 obtain⟨kk,_⟩:=p
 cases kk<;>simp only[keyD,labs] at hl<;>cases hl
theorem z7k{kvs:List (NK×V)}{l:Nat}(hl:l∈labsL (kvs.map fun p=>dkD p.1)):False:=by
 obtain⟨d,hd,hl⟩:=z1u hl
 obtain⟨p,_,rfl⟩:=List.mem_map.mp hd
 simp only[dkD,labs] at hl
 obtain⟨d,hd,hl⟩:=z1u hl
 obtain⟨kk,_,rfl⟩:=List.mem_map.mp hd
 rw[z9y] at hl;cases hl
mutual
theorem z8y(l:Nat): ∀(t:D) (v:V),RD G ρ H t v->l∈labs t->(z0r l t).isSome=true
 | .non,v,h,hl=>by simp only[labs] at hl;cases hl
 | .bool b,v,h,hl=>by simp only[labs] at hl;cases hl
 | .int b,v,h,hl=>by simp only[labs] at hl;cases hl
 | .str b,v,h,hl=>by simp only[labs] at hl;cases hl
 | .exc b,v,h,hl=>by simp only[labs] at hl;cases hl
 | .fn b,v,h,hl=>by simp only[labs] at hl;cases hl
 | .tup ds,v,h,hl=>by
  simp only[labs,RD,z0r] at h hl⊢
  obtain⟨a,xs,_,_,r⟩:=h
  exact findL_some l ds xs r hl
 | .fdc ks vs,v,h,hl=>by
  simp only[labs,RD,z0r] at h hl⊢
  obtain⟨a,o,kvs,_,_,_,r⟩:=h
  exact findL_some l vs _ r hl
 | .ro ds,v,h,hl=>by
  simp only[labs,RD,z0r] at h hl⊢
  obtain⟨a,xs,_,_,r⟩:=h
  exact findL_some l ds xs r hl
 | .lst k ds,v,h,hl=>by
  simp only[labs,RD,z0r] at h hl⊢
  obtain⟨_,xs,s,r⟩:=h
  by_cases e:k=l
  ·rw[if_pos e];rfl
  ·rw[if_neg e]
   rcases List.mem_cons.mp hl with q|q
   ·exact absurd q.symm e
   ·exact findL_some l ds xs r q
 | .dct k ks vs,v,h,hl=>by
  simp only[labs,RD,z0r] at h hl⊢
  obtain⟨_,⟨kvs,s,s2,r⟩|⟨kvs,s,s2,r⟩⟩:=h
  ·by_cases e:k=l
   ·rw[if_pos e];rfl
   ·rw[if_neg e]
    rcases List.mem_cons.mp hl with q|q
    ·exact absurd q.symm e
    ·rcases List.mem_append.mp q with q|q
     ·rw[s2] at q;exact(z8x q).elim
     ·exact findL_some l vs _ r q
  ·by_cases e:k=l
   ·rw[if_pos e];rfl
   ·rw[if_neg e]
    rcases List.mem_cons.mp hl with q|q
    ·exact absurd q.symm e
    ·rcases List.mem_append.mp q with q|q
     ·rw[s2] at q;exact(z7k q).elim
     ·exact findL_some l vs _ r q
 | .obj k c ns vs,v,h,hl=>by
  simp only[labs,RD,z0r] at h hl⊢
  obtain⟨_,C,dx,fs,_,s,_,r⟩:=h
  by_cases e:k=l
  ·rw[if_pos e];rfl
  ·rw[if_neg e]
   rcases List.mem_cons.mp hl with q|q
   ·exact absurd q.symm e
   ·exact findL_some l vs _ r q
theorem findL_some(l:Nat): ∀(t:List D) (v:List V),RDs G ρ H t v->l∈labsL t->(findL l t).isSome=true
 |[],v,h,hl=>by simp only[labsL] at hl;cases hl
 |d::ds,v,h,hl=>by
  simp only[labsL,RDs,findL] at h hl⊢
  obtain⟨x,r,_,h1,h2⟩:=h
  cases e:z0r l d with
  |some y=>rfl
  |none=>
   rcases List.mem_append.mp hl with q|q
   ·have:=z8y l d x h1 q
    rw[e] at this;cases this
   ·exact findL_some l ds r h2 q
end
theorem z5J.stays{n n':Nat}{ts ts':List D}{vs:List V}(P:z5J G ρ n ts vs H ρ' n' ts' H')(r:RDs G ρ H ts vs):z1t H H':=by
 refine⟨fun b xs e=>(P.fr b _ e).2 fun l hl z=> ?_,fun b o u e=>(P.fr b _ e).2 fun l hl z=> ?_⟩
 ·obtain⟨o,q,q1,_⟩:=labL_mut ts vs r l hl
  rw[<-z,e] at q;cases q;exact q1 _ rfl
 ·obtain⟨o,q,_,q1⟩:=labL_mut ts vs r l hl
  rw[<-z,e] at q;cases q;exact q1 _ _ rfl
section
variable(k:KD G.K H){n:Nat}(inj: ∀i j,i<n->j<n->ρ i=ρ j->i=j){ts:List D}{vs:List V}(r:RDs G ρ H ts vs)(lb: ∀l∈labsL ts,l<n)
include k inj r lb
mutual
theorem z5m: ∀(t:D) (v:V),RD G ρ H t v->(∀l∈labs t,l<n)->rp (fun l=>findL l ts) t=t
 | .non,v,h,hl=>rfl
 | .bool b,v,h,hl=>rfl
 | .int b,v,h,hl=>rfl
 | .str b,v,h,hl=>rfl
 | .exc b,v,h,hl=>rfl
 | .fn b,v,h,hl=>rfl
 | .tup ds,v,h,hl=>by
  simp only[labs,RD,rp] at h hl⊢
  obtain⟨a,xs,_,_,r1⟩:=h
  rw[rpL_find_id ds xs r1 hl]
 | .fdc ks vs,v,h,hl=>by
  simp only[labs,RD,rp] at h hl⊢
  obtain⟨a,o,kvs,_,_,_,r1⟩:=h
  rw[rpL_find_id vs _ r1 hl]
 | .ro ds,v,h,hl=>by
  simp only[labs,RD,rp] at h hl⊢
  obtain⟨a,xs,_,_,r1⟩:=h
  rw[rpL_find_id ds xs r1 hl]
 | .lst l ds,v,h,hl=>by
  simp only[rp]
  cases e:findL l ts with
  |some d=>
   dsimp only
   obtain⟨q1,q2⟩:=findL_rd l ts vs d r e
   have h':=h
   simp only[RD] at h'
   obtain⟨rfl,_⟩:=h'
   exact RD.uniq k inj _ _ _ q1 h (fun j hj=>lb j (q2 j hj)) hl
  |none=>
   dsimp only
   simp only[labs,RD] at h hl
   obtain⟨_,xs,s,r1⟩:=h
   rw[rpL_find_id ds xs r1 fun j hj=>hl j (List.mem_cons_of_mem _ hj)]
 | .dct l ks vs',v,h,hl=>by
  simp only[rp]
  cases e:findL l ts with
  |some d=>
   dsimp only
   obtain⟨q1,q2⟩:=findL_rd l ts vs d r e
   have h':=h
   simp only[RD] at h'
   obtain⟨rfl,_⟩:=h'
   exact RD.uniq k inj _ _ _ q1 h (fun j hj=>lb j (q2 j hj)) hl
  |none=>
   dsimp only
   simp only[labs,RD] at h hl
   obtain⟨_,⟨kvs,s,s2,r1⟩|⟨kvs,s,s2,r1⟩⟩:=h
   ·rw[rpL_find_id vs' _ r1 fun j hj=>hl j (List.mem_cons_of_mem _ (List.mem_append_right _ hj))]
   ·rw[rpL_find_id vs' _ r1 fun j hj=>hl j (List.mem_cons_of_mem _ (List.mem_append_right _ hj))]
 | .obj l c ns vs',v,h,hl=>by
  simp only[rp]
  cases e:findL l ts with
  |some d=>
   dsimp only
   obtain⟨q1,q2⟩:=findL_rd l ts vs d r e
   have h':=h
   simp only[RD] at h'
   obtain⟨rfl,_⟩:=h'
   exact RD.uniq k inj _ _ _ q1 h (fun j hj=>lb j (q2 j hj)) hl
  |none=>
   dsimp only
   simp only[labs,RD] at h hl
   obtain⟨_,C,dx,fs,_,s,_,r1⟩:=h
   rw[rpL_find_id vs' _ r1 fun j hj=>hl j (List.mem_cons_of_mem _ hj)]
theorem rpL_find_id: ∀(t:List D) (v:List V),RDs G ρ H t v->(∀l∈labsL t,l<n)->rpL (fun l=>findL l ts) t=t
 |[],v,h,hl=>rfl
 |d::ds,v,h,hl=>by
  simp only[labsL,RDs,rpL] at h hl⊢
  obtain⟨x,q,_,h1,h2⟩:=h
  rw[z5m d x h1 fun j hj=>hl j (List.mem_append_left _ hj),rpL_find_id ds q h2 fun j hj=>hl j (List.mem_append_right _ hj)]
end
theorem z26: ∀(t:List (Option D)) (v:List (Option V)),Sl G ρ H t v->(∀l∈z07 t,l<n)->rpO (fun l=>findL l ts) t=t
 |[],v,h,hl=>rfl
 |none::r',v,h,hl=>by
  simp only[z07,Sl,rpO] at h hl⊢
  obtain⟨o,q,_,h⟩:=h
  rw[z26 r' q h hl]
 |some d::ds,v,h,hl=>by
  simp only[z07,Sl,rpO] at h hl⊢
  obtain⟨x,q,_,h1,h2⟩:=h
  rw[z5m k inj r lb d x h1 fun j hj=>hl j (List.mem_append_left _ hj),z26 ds q h2 fun j hj=>hl j (List.mem_append_right _ hj)]
end
variable{F:Fy}{σv tv:List (Option V)}{s:Stt}{np:Nat}
theorem MR.call{ts ts':List D}{vs:List V}{n':Nat}(M:MR G F.toFx ρ H σv tv s)(r:RDs G ρ H ts vs)(lb:LB F.toFx ρ s.n (labsL ts))(P:z5J G ρ s.n ts vs H ρ' n' ts' H')
 (hc: ∀l∈z0Q s,l∈labsL ts->(findL l ts').isSome=true):MR G F.toFx ρ' H' σv tv {σ:=rpO (fun l=>findL l ts') s.σ,tm:=rpO (fun l=>findL l ts') s.tm,n:=n'}:=by
 have st:=P.stays r
 have step: ∀l∈z0Q s,ρ' l=ρ l/\(match findL l ts' with|some d=>RD G ρ' H' d (.ref (ρ l))|none=> ∀o,H (ρ l)=some o->H' (ρ l)=some o):=fun l hl=>by
  have ol:=P.old l (M.lab l hl)
  refine⟨ol, ?_⟩
  cases e:findL l ts' with
  |some d=>
   have q:=(findL_rd l ts' vs d P.rd e).1
   rw[ol] at q;exact q
  |none=>
   intro o e1
   refine(P.fr _ _ e1).2 fun j hj z=> ?_
   have:l=j:=M.inj l j (M.lab l hl) (lb j hj).1 z
   subst this
   have:=hc l hl hj
   rw[e] at this;cases this
 have hn: ∀l,l<n'->l<s.n\/H (ρ' l)=none:=fun l hl=>by
  by_cases h:l<s.n
  ·exact .inl h
  ·exact .inr (P.new l (Nat.not_lt.mp h) hl)
 have hlab: ∀(xs:List (Option D)),(∀l∈z07 xs,l∈z0Q s)->∀l∈z07 (rpO (fun l=>findL l ts') xs),l<n'/\(l<s.n->l∈z0Q s\/l∈labsL ts):=fun xs hx l h=>by
  rcases z4m l xs h with q|⟨k,d,q1,q2,q3⟩
  ·exact⟨Nat.lt_of_lt_of_le (M.lab l (hx l q)) P.le,fun _=> .inl (hx l q)⟩
  ·obtain⟨b1,b2⟩:=P.lb l ((findL_rd k ts' vs d P.rd q2).2 l q3)
   exact⟨b1,fun z=> .inr (b2 z)⟩
 have all: ∀l∈z0Q {σ:=rpO (fun l=>findL l ts') s.σ,tm:=rpO (fun l=>findL l ts') s.tm,n:=n'},l<n'/\(l<s.n->l∈z0Q s\/l∈labsL ts):=fun l h=>by
  rcases List.mem_append.mp h with h|h
  ·exact hlab s.σ (fun l q=>List.mem_append_left _ q) l h
  ·exact hlab s.tm (fun l q=>List.mem_append_right _ q) l h
 refine⟨Sl.rp st M.sl fun l hl=>step l (List.mem_append_left _ hl),Sl.rp st M.tm fun l hl=>step l (List.mem_append_right _ hl),P.inj,P.dom,fun l h=>(all l h).1,fun l h=> ?_,fun a o e=> ?_,P.kd,fun l hl z=> ?_,⟨Nat.le_trans M.bas.1 P.le,fun l hl=> ?_⟩⟩
 ·rcases hn l (all l h).1 with q|q
  ·rw[P.old l q]
   rcases(all l h).2 q with z|z
   ·exact M.own l z
   ·exact(lb l z).2
  ·exact .inr (M.fresh0 q)
 ·obtain⟨⟨o1,e1⟩,e2⟩:=M.frm a o e
  obtain⟨e3,e4⟩:=P.fr a o1 e1
  refine⟨e3,fun nA=> ?_⟩
  have e5:=e2 nA
  rw[e1] at e5;cases e5
  refine e4 fun l hl z=> ?_
  rcases(lb l hl).2 with q|q
  ·exact nA (z▸q)
  ·rw[<-z,e] at q;cases q
 ·rcases hn l hl with q|q
  ·rw[P.old l q] at z;exact M.frb l q z
  ·obtain⟨⟨o,e⟩,_⟩:=F.zA _ z
   obtain⟨⟨o',e'⟩,_⟩:=M.frm _ o e
   rw[q] at e';cases e'
 ·rw[P.old l (Nat.lt_of_lt_of_le hl M.bas.1)];exact M.bas.2 l hl
theorem MR.call0{ts:List D}{vs:List V}{n':Nat}(M:MR G F.toFx ρ H σv tv s)(r:RDs G ρ H ts vs)(lb:LB F.toFx ρ s.n (labsL ts))(P:z5J G ρ s.n ts vs H ρ' n' ts H'):MR G F.toFx ρ' H' σv tv {s with n:=n'}:=by
 have hf: ∀l∈labsL ts,(findL l ts).isSome=true:=fun l hl=>findL_some l ts vs r hl
 have M2:=M.call r lb P fun l _ hl=>hf l hl
 rw[z26 M.kd M.inj r (fun l hl=>(lb l hl).1) s.σ σv M.sl fun l hl=>M.lab l (List.mem_append_left _ hl),z26 M.kd M.inj r (fun l hl=>(lb l hl).1) s.tm tv M.tm fun l hl=>M.lab l (List.mem_append_right _ hl)] at M2
 exact M2
open Classical in
noncomputable def z5K(r:RF)(ts:List D):M D:=fun s=>match r with
 | .ok t ts' n'=>if ts'=ts then .ok t {s with n:=n'} else
  if ∀l∈z0Q s,l∈labsL ts->(findL l ts').isSome=true then .ok t {σ:=rpO (fun l=>findL l ts') s.σ,tm:=rpO (fun l=>findL l ts') s.tm,n:=n'} else .no
 |_=> .no
noncomputable def z02(f:FM)(ms:List (M D)):M D:=bd (mArgs ms) fun ts s=>z5K (f ts s.n) ts s
noncomputable def spM(G:Gx)(np:Nat)(f:FM):Sp:=fun vs H Q _=>vs.length=np/\∃ρ n ts,RDs G ρ H ts vs/\(∀i j,i<n->j<n->ρ i=ρ j->i=j)/\(∀l,l<n->∃o,H (ρ l)=some o)/\(∀l∈labsL ts,l<n)/\KD G.K H/\match f ts n with
 | .ok t ts' n'=> ∀ρ' v H',z5J G ρ n ts vs H ρ' n' ts' H'->RD G ρ' H' t v->(∀l∈labs t,l<n'/\(l<n->l∈labsL ts))->Q v H'
 |_=>False
theorem z9z{ts:List D}{vs:List V}{f:FM}{Q:VK}{E:XK}(hl:vs.length=np)(M:MRL G F.toFx ρ H σv tv s ts vs)(W:wM G F σv tv (z5K (f ts s.n) ts s) Q):spM G np f vs H Q E:=by
 refine⟨hl,ρ,s.n,ts,M.rd,M.m.inj,M.m.dom,fun l h=>(M.lb l h).1,M.m.kd, ?_⟩
 cases e:f ts s.n with
 |no=>rw[e] at W;exact W
 |ex d ts' n'=>rw[e] at W;exact W
 |ok t ts' n'=>
  rw[e] at W
  intro ρ' v H' P rd lbt
  have own: ∀l∈labs t,F.A0 (ρ' l)\/F.H0 (ρ' l)=none:=fun l h=>by
   obtain⟨b1,b2⟩:=lbt l h
   by_cases hn:l<s.n
   ·rw[P.old l hn];exact(M.lb l (b2 hn)).2
   ·exact .inr (M.m.fresh0 (P.new l (Nat.not_lt.mp hn) b1))
  unfold z5K at W
  dsimp only at W
  split at W
  ·rename_i et
   subst et
   exact W.out (M.m.call0 M.rd M.lb P) rd fun l h=>⟨(lbt l h).1,own l h⟩
  ·split at W
   ·rename_i hc
    exact W.out (M.m.call M.rd M.lb P hc) rd fun l h=>⟨(lbt l h).1,own l h⟩
   ·exact False.elim W
theorem z4B: ∀(ms:List (M D)) (s:Stt) (ts:List D) (s':Stt),mArgs ms s= .ok ts s'->ts.length=ms.length:=by
 intro ms
 induction ms with
 |nil=>intro s ts s' e;simp only[mArgs,rt,Res.ok.injEq] at e;rw[<-e.1];rfl
 |cons m ms ih=>
  intro s ts s' e
  simp only[mArgs,bd,psh] at e
  cases e1:m s with
  |ok t s1=>
   simp only[e1] at e
   cases e2:mArgs ms (s1.psh t) with
   |ok ys s2=>
    simp only[e2,pop] at e
    cases e3:s2.tm with
    |nil=>simp only[e3] at e;cases e
    |cons o r=>
     cases o with
     |none=>simp only[e3] at e;cases e
     |some t'=>
      simp only[e3,rt,Res.ok.injEq] at e
      rw[<-e.1,List.length_cons,List.length_cons,ih _ _ _ e2]
   |ex d s2=>simp only[e2] at e;cases e
   |no=>simp only[e2] at e;cases e
  |ex d s1=>simp only[e1] at e;cases e
  |no=>simp only[e1] at e;cases e
theorem se_call{X:Cx}{e:Expr}{es:List Expr}{pos p:Pos}{CX:CXT}{k:Nat}{fa:Addr}{fd:FuncData}{ps:List Str}{x:Str}{E:XK}{f:FM}{ms:List (M D)}(hk:X.K=G.K)(Fn:FnOk X.prog X.w X.K X.mg X.base CX k fa fd ps (spM G ps.length f))(hr:Room k X.A)(hg:Gl X x)(hm:X.mg x=some (.ref fa))(hkp:W.keepIn X.K (.ref fa)=true)(hb:z3H X.K fd ps [])(hx:z4r CX X E)
 (ha:SA X G F (e::es) (mArgs ms)) (hln:ms.length=ps.length) (hdb:(x==("__debug__" :Str))=false:=by decide) (he:starEach (e::es) X.env=(false,eval e X.env)::starEach es X.env:=by rfl) (hpl:(backTo pos (starEach es X.env)).any (·.1)=false:=by rfl):
 SE X G F (.Call (.Name x p) (e::es) [] pos) (z02 f ms):=by
 refine PE.imp0 (zcY Fn hr hg hm hkp hb .nil hx ha hdb he hpl) fun σ H Q ⟨tv,hs,ρ,s,M,W⟩=>⟨tv,hs,ρ,s,M, ?_⟩
 unfold z02 bd at W
 cases e1:mArgs ms s with
 |ex d s1=>rw[e1] at W;exact W
 |no=>rw[e1] at W;exact W
 |ok ts s1=>
  rw[e1] at W
  intro ρ1 vs H1 M1
  rw[List.append_nil]
  exact z9z (by rw[<-M1.rd.length,z4B ms s ts s1 e1,hln]) M1 W
noncomputable def runF(nl:Nat)(mb:MS):FM:=fun ts n=>match mb {σ:=ts.map some++List.replicate (nl -ts.length) none,tm:=ts.map some,n:=n} with
 | .nx s'=>match z0a s'.tm with|some ts'=> .ok .non ts' s'.n|none=> .no
 | .rt t s'=>match z0a s'.tm with|some ts'=> .ok t ts' s'.n|none=> .no
 | .ex d s'=>match z0a s'.tm with|some ts'=> .ex d ts' s'.n|none=> .no
 |_=> .no
noncomputable def z8z(G:Gx)(ρ:Nat->Addr)(n:Nat)(ts:List D)(vs:List V)(H:Hp)(lb: ∀l∈labsL ts,l<n)(dom: ∀l,l<n->∃o,H (ρ l)=some o):Fy where
 A0:=fun a=> ∃l∈labsL ts,a=ρ l
 H0:=H
 Z:=fun a=>(∃o,H a=some o)/\∀l,l<n->a≠ρ l
 zA:=fun a z=>⟨z.1,fun⟨l,hl,e⟩=>z.2 l (lb l hl) e⟩
 aH:=fun a ⟨l,hl,e⟩=>e▸dom l (lb l hl)
 n0:=n
 ρ0:=ρ
 tv0:=vs.map some
 xw:=fun _ _=>False
theorem RDs.sl: ∀{ts:List D} {vs:List V},RDs G ρ H ts vs->Sl G ρ H (ts.map some) (vs.map some)/\z07 (ts.map some)=labsL ts
 |[],vs,h=>by simp only[RDs] at h;subst h;simp[Sl,z07,labsL]
 |d::ds,vs,h=>by
  simp only[RDs] at h
  obtain⟨x,q,rfl,h1,h2⟩:=h
  obtain⟨q1,q2⟩:=RDs.sl h2
  refine⟨?_,by simp only[List.map_cons,z07,labsL,q2]⟩
  simp only[List.map_cons,Sl]
  exact⟨_,_,rfl,h1,q1⟩
theorem z3w{ts ts':List D}{vs:List V}{n:Nat}{lb: ∀l∈labsL ts,l<n}{dom: ∀l,l<n->∃o,H (ρ l)=some o}(inj: ∀i j,i<n->j<n->ρ i=ρ j->i=j)(M:MR G (z8z G ρ n ts vs H lb dom).toFx ρ' H' σv (vs.map some) s)(e:z0a s.tm=some ts'):
 z5J G ρ n ts vs H ρ' s.n ts' H'/\∀l,l<s.n->((z8z G ρ n ts vs H lb dom).A0 (ρ' l)\/H (ρ' l)=none)->l<n->l∈labsL ts:=by
 have own: ∀l,l<s.n->((z8z G ρ n ts vs H lb dom).A0 (ρ' l)\/H (ρ' l)=none)->l<n->l∈labsL ts:=fun l hl q hn=>by
  have ol:=M.bas.2 l hn
  have ol:ρ' l=ρ l:=ol
  rcases q with⟨j,hj,q⟩|q
  ·rw[ol] at q
   rw[inj l j hn (lb j hj) q];exact hj
  ·rw[ol] at q
   obtain⟨o,z⟩:=dom l hn
   rw[z] at q;cases q
 obtain⟨r1,r2⟩:=Sl.all M.tm e
 refine⟨⟨M.bas.2,M.bas.1,M.inj,M.dom,r1,fun l hl=> ?_,fun a o e1=> ?_,fun l h1 h2=> ?_,M.kd⟩,own⟩
 ·rw[r2] at hl
  have m:l∈z0Q s:=List.mem_append_right _ hl
  exact⟨M.lab l m,own l (M.lab l m) (M.own l m)⟩
 ·obtain⟨q1,q2⟩:=M.frm a o e1
  exact⟨q1,fun z=>q2 fun⟨l,hl,e⟩=>z l hl e⟩
 ·cases q:H (ρ' l) with
  |none=>rfl
  |some o=>
   refine absurd ⟨⟨o,q⟩,fun j hj e=> ?_⟩ (M.frb l h2)
   have oj:ρ' j=ρ j:=M.bas.2 j hj
   have:=M.inj l j h2 (Nat.lt_of_lt_of_le hj M.bas.1) (e.trans oj.symm)
   lia
theorem fn_M{P:Program}{w:World}{K:W.Frag}{mg:Str->Option Value}{base:Heap}{x qual:Str}{st:Stmt}{fa:Addr}{fd:FuncData}{N ps:List Str}{k:Nat}{mb:MS}(Fn:Fun K x qual st fa fd)(S:z06 N ps (z01 st))(hG:G.K=K)
 (hb: ∀(cdv:Value) (A:Around) (outer:List Env) (s:Shared) (H:Hp) (E:XK) (F:Fy),Room k (A.deeper (envOfC qual (z01 st) s.heap.objs.size fa cdv))->SSs (cxOf CX0 P w K mg base N qual (z01 st) fa cdv A outer s H E).nox G F (z0R st) mb):
 FnOk P w K mg base CX0 (k+1) fa fd ps (spM G ps.length (runF N.length mb)):=by
 refine Fn.ok S (fun vs H Q E h=>h.1) fun cdv A outer s H vs Q E hr h=> ?_
 obtain⟨hl,ρ,n,ts,r,inj,dom,lb,kd,W⟩:=h
 refine⟨_,hb cdv A outer s H E (z8z G ρ n ts vs H lb dom) hr,vs.map some,List.suffix_refl _,ρ,{σ:=ts.map some++List.replicate (N.length -ts.length) none,tm:=ts.map some,n:=n}, ?_, ?_⟩
 ·obtain⟨r1,r2⟩:=RDs.sl r
  have hlen:=r.length
  have sub: ∀l∈z0Q {σ:=ts.map some++List.replicate (N.length -ts.length) none,tm:=ts.map some,n:=n},l∈labsL ts:=fun l h=>by
   rcases List.mem_append.mp h with h|h
   ·have h:l∈z07 (ts.map some++List.replicate (N.length -ts.length) none):=h
    rw[z0f] at h
    rcases List.mem_append.mp h with h|h
    ·rw[<-r2];exact h
    ·exact absurd h (z3v _)
   ·rw[<-r2];exact h
  refine⟨?_,r1,inj,dom,fun l h=>lb l (sub l h),fun l h=> .inl ⟨l,sub l h,rfl⟩,fun a o e=>⟨⟨o,e⟩,fun _=>e⟩,kd,fun l hl z=>z.2 l hl rfl,⟨Nat.le_refl _,fun l _=>rfl⟩⟩
  show Sl G ρ H _ (vs.map some++List.replicate (N.length -vs.length) none)
  rw[<-hlen]
  exact r1.append (Sl.none_map _)
 ·unfold runF at W
  cases e:mb {σ:=ts.map some++List.replicate (N.length -ts.length) none,tm:=ts.map some,n:=n} with
  |nx s'=>
   simp only[e] at W
   cases ea:z0a s'.tm with
   |none=>simp only[ea] at W
   |some ts'=>
    simp only[ea] at W
    intro ρ' σv' H' M
    obtain⟨P,_⟩:=z3w inj M ea
    exact W ρ' .non H' P (by simp only[RD]) fun l h=>by simp[labs] at h
  |rt t s'=>
   simp only[e] at W
   cases ea:z0a s'.tm with
   |none=>simp only[ea] at W
   |some ts'=>
    simp only[ea] at W
    intro ρ' σv' v H' M
    obtain⟨P,own⟩:=z3w inj M.m ea
    exact W ρ' v H' P M.rd1 fun l h=>⟨(M.lb1 l h).1,own l (M.lb1 l h).1 (M.lb1 l h).2⟩
  |bk s'=>simp only[e] at W
  |ct s'=>simp only[e] at W
  |ex d s'=>
   simp only[e] at W
   cases ea:z0a s'.tm with
   |none=>simp only[ea] at W
   |some ts'=>simp only[ea] at W
  |no=>simp only[e] at W
end
mutual
noncomputable def sz:D->Nat
 | .tup ds=>szL ds+1
 | .ro ds=>szL ds+1
 | .fdc _ vs=>szL vs+1
 | .lst _ ds=>szL ds+1
 | .dct _ _ vs=>szL vs+1
 | .obj _ _ _ vs=>szL vs+1
 | .non=>1| .bool _=>1| .int _=>1| .str _=>1| .exc _=>1| .fn _=>1
noncomputable def szL:List D->Nat
 |[]=>0
 |d::ds=>sz d+szL ds
end
mutual
theorem zbc(l:Nat): ∀(t d:D),z0r l t=some d->sz d<=sz t
 | .non,d,e=>by simp only[z0r] at e;cases e
 | .bool b,d,e=>by simp only[z0r] at e;cases e
 | .int b,d,e=>by simp only[z0r] at e;cases e
 | .str b,d,e=>by simp only[z0r] at e;cases e
 | .exc b,d,e=>by simp only[z0r] at e;cases e
 | .fn b,d,e=>by simp only[z0r] at e;cases e
 | .tup ds,d,e=>by simp only[z0r,sz] at e⊢;have:=findL_sz l ds d e;lia
 | .ro ds,d,e=>by simp only[z0r,sz] at e⊢;have:=findL_sz l ds d e;lia
 | .fdc ks vs,d,e=>by simp only[z0r,sz] at e⊢;have:=findL_sz l vs d e;lia
 | .lst k ds,d,e=>by
  simp only[z0r] at e
  by_cases h:k=l
  ·rw[if_pos h] at e;cases e;exact Nat.le_refl _
  ·rw[if_neg h] at e;simp only[sz];have:=findL_sz l ds d e;lia
 | .dct k ks vs,d,e=>by
  simp only[z0r] at e
  by_cases h:k=l
  ·rw[if_pos h] at e;cases e;exact Nat.le_refl _
  ·rw[if_neg h] at e;simp only[sz];have:=findL_sz l vs d e;lia
 | .obj k c ns vs,d,e=>by
  simp only[z0r] at e
  by_cases h:k=l
  ·rw[if_pos h] at e;cases e;exact Nat.le_refl _
  ·rw[if_neg h] at e;simp only[sz];have:=findL_sz l vs d e;lia
theorem findL_sz(l:Nat): ∀(t:List D) (d:D),findL l t=some d->sz d<=szL t
 |[],d,e=>by simp only[findL] at e;cases e
 |t::ts,d,e=>by
  simp only[findL] at e
  simp only[szL]
  cases e1:z0r l t with
  |some y=>rw[e1] at e;cases e;have:=zbc l t _ e1;lia
  |none=>rw[e1] at e;have:=findL_sz l ts d e;lia
end
section
variable{G:Gx}{F:Fy}{ρ:Nat->Addr}{H:Hp}{σv tv:List (Option V)}{s:Stt}{t:D}{ts ds es:List D}{v:V}{vs xs ys:List V}{l:Nat}{Q:VK}
theorem zdv(M:MR G F.toFx ρ H σv tv s)(h:RD G ρ H (.lst l ds) v)(lb: ∀j∈labs (.lst l ds),j<s.n):l∉labsL ds:=fun hl=>by
 have h0:=h
 simp only[RD] at h0
 obtain⟨rfl,xs,q,r⟩:=h0
 have:=findL_some l ds xs r hl
 cases e:findL l ds with
 |none=>rw[e] at this;cases this
 |some d=>
  obtain⟨q1,q2⟩:=findL_rd l ds xs d r e
  have e2:=RD.uniq M.kd M.inj _ _ _ q1 h (fun j hj=>lb j (by simp only[labs];exact List.mem_cons_of_mem _ (q2 j hj))) lb
  have e3:=findL_sz l ds d e
  rw[e2] at e3
  simp only[sz] at e3
  lia
theorem MR.put2{o:HO}{d:D}(M:MR G F.toFx ρ H σv tv s)(ln:l<s.n)(ow:F.A0 (ρ l)\/F.H0 (ρ l)=none)(ts:z1t H (upd H (ρ l) o))(k:KD G.K (upd H (ρ l) o))(hd:RD G ρ (upd H (ρ l) o) d (.ref (ρ l)))(hb:LB F.toFx ρ s.n (labs d)):
 MR G F.toFx ρ (upd H (ρ l) o) σv tv (s.put l d):=by
 have step: ∀k,k∈z0Q s->ρ k=ρ k/\(match (if k=l then some d else none:Option D) with|some d=>RD G ρ (upd H (ρ l) o) d (.ref (ρ k))|none=> ∀o',H (ρ k)=some o'->upd H (ρ l) o (ρ k)=some o'):=fun k hk=>by
  refine⟨rfl, ?_⟩
  by_cases e:k=l
  ·rw[if_pos e];subst e;exact hd
  ·rw[if_neg e]
   intro o' q
   rw[z0c (fun z=>e (M.inj k l (M.lab k hk) ln z))]
   exact q
 have sub: ∀(xs:List (Option D)) (j:Nat),j∈z07 (rpO (fun k=>if k=l then some d else none) xs)->(∀i∈z07 xs,i∈z0Q s)->j<s.n/\(F.A0 (ρ j)\/F.H0 (ρ j)=none):=fun xs j h hx=>by
  rcases z4m j xs h with q|⟨k,d',q1,q2,q3⟩
  ·exact⟨M.lab j (hx j q),M.own j (hx j q)⟩
  ·by_cases e:k=l
   ·rw[if_pos e] at q2;cases q2;exact hb j q3
   ·rw[if_neg e] at q2;cases q2
 have all: ∀j∈z0Q (s.put l d),j<s.n/\(F.A0 (ρ j)\/F.H0 (ρ j)=none):=fun j h=>by
  rcases List.mem_append.mp h with h|h
  ·exact sub s.σ j h fun i hi=>List.mem_append_left _ hi
  ·exact sub s.tm j h fun i hi=>List.mem_append_right _ hi
 refine⟨Sl.rp ts M.sl fun k hk=>step k (List.mem_append_left _ hk),Sl.rp ts M.tm fun k hk=>step k (List.mem_append_right _ hk),M.inj,fun k hk=> ?_,fun j h=>(all j h).1,fun j h=>(all j h).2,fun a o' e=> ?_,k,M.frb,M.bas⟩
 ·by_cases e:ρ k=ρ l
  ·rw[e];exact⟨o,z0i⟩
  ·rw[z0c e];exact M.dom k hk
 ·obtain⟨⟨o1,e1⟩,e2⟩:=M.frm a o' e
  by_cases ea:a=ρ l
  ·subst ea
   refine⟨⟨o,z0i⟩,fun n=> ?_⟩
   rcases ow with q|q
   ·exact absurd q n
   ·rw[e] at q;cases q
  ·rw[z0c ea]
   exact⟨⟨o1,e1⟩,e2⟩
theorem zfo{o o':HO}{a:Addr}(k:KD G.K H)(e:H a=some o):KD G.K (upd H a o'):=fun b ob q=>by
 by_cases h:b=a
 ·subst h;rw[k _ _ q] at e;cases e
 ·rw[z0c h];exact k _ _ q
theorem z6K{o':HO}{a:Addr}{xs:List V}(e:H a=some (.lst xs)):z1t H (upd H a o'):=
 ⟨fun b ys q=>by rw[z0c (zaL q e (by intro z;cases z))];exact q,fun b o u q=>by rw[z0c (zaL q e (by intro z;cases z))];exact q⟩
theorem RDs.upd{o:HO}{a:Addr}(st:z1t H (upd H (ρ l) o))(inj: ∀i j,i<s.n->j<s.n->ρ i=ρ j->i=j)(ln:l<s.n)(r:RDs G ρ H ds xs)(lb: ∀j∈labsL ds,j<s.n/\j≠l):RDs G ρ (L2.upd H (ρ l) o) ds xs:=
 RDs.stay st ds xs r fun j hj=>⟨rfl,fun o' e=>by rw[z0c (fun z=>(lb j hj).2 (inj j l (lb j hj).1 ln z))];exact e⟩
theorem MR.putL(M:MR G F.toFx ρ H σv tv s)(hl:H (ρ l)=some (.lst xs))(ln:l<s.n)(ow:F.A0 (ρ l)\/F.H0 (ρ l)=none)(r:RDs G ρ H es ys)(lb:LB F.toFx ρ s.n (labsL es))(ne:l∉labsL es):
 MR G F.toFx ρ (upd H (ρ l) (.lst ys)) σv tv (s.put l (.lst l es)):=by
 refine M.put2 ln ow (z6K hl) (zfo M.kd hl) ?_ fun j hj=> ?_
 ·simp only[RD]
  exact⟨trivial,ys,z0i,RDs.upd (a:=0) (z6K hl) M.inj ln r fun j hj=>⟨(lb j hj).1,fun z=>ne (z▸hj)⟩⟩
 ·simp only[labs] at hj
  rcases List.mem_cons.mp hj with q|q
  ·rw[q];exact⟨ln,ow⟩
  ·exact lb j q
end
noncomputable def isL(x:D):M Unit:=fun s=>match lstD x with|some _=> .ok () s|none=> .no
section
variable{X:Cx}{G:Gx}{F:Fy}{e o:Expr}{es:List Expr}{apos cpos:Pos}
noncomputable def MtOK(G:Gx)(F:Fy)(r:V->List V->Hp->VK->Prop)(g:D->List D->M D):Prop:= ∀ρ s t ts v vs H σv tv Q,MRL G F.toFx ρ H σv tv s (t::ts) (v::vs)->wM G F σv tv (g t ts s) Q->r v vs H (fun w H'=>KD G.K H'->Q w H')
noncomputable def setD(o i v:D):MS:=fun s=>match o,i with
 | .lst l ds, .int k=>match ixN ds.length k with
  |some j=>if l∉labs v then .nx (s.put l (.lst l (ds.set j v))) else .no
  |none=> .no
 |_,_=> .no
noncomputable def mTri(me mo mi:M D)(g:D->D->D->MS):MS:=lift me fun v=>lift (psh v) fun _=>lift mo fun o=>lift (psh o) fun _=>lift mi fun i=>lift pop fun o'=>lift pop fun v'=>g o' i v'
theorem zbd{mo mi:M D}{g:D->D->D->MS}{tv:List (Option V)}{Dd:Ends}{σ:L2.St}{H1:Hp}{ρ1:Nat->Addr}{s1:Stt}{t:D}{v:V}(hs:F.tv0<:+tv)(M1:MRL G F.toFx ρ1 H1 σ tv s1 [t] [v])
 (W:wS G F tv ((lift (psh t) fun _=>lift mo fun o=>lift (psh o) fun _=>lift mi fun i=>lift pop fun o'=>lift pop fun v'=>g o' i v') s1) Dd):
 tM G F mo σ H1 fun o H2=>tM G F mi σ H2 fun i H3=> ∃ρ s t1 t2 t3,MRL G F.toFx ρ H3 σ tv s [t1,t2,t3] [v,o,i]/\wS G F tv (g t2 t3 t1 s) Dd:=by
 refine⟨some v::tv,suf1 hs,ρ1,s1.psh t,M1.push, ?_⟩
 simp only[lift,psh] at W
 cases e1:mo (s1.psh t) with
 |ex d s2=>simp only[e1] at W;exact W
 |no=>simp only[e1] at W;exact W
 |ok o s2=>
  simp only[e1] at W
  intro ρ2 u H2 M2
  refine⟨some u::some v::tv,suf1 (suf1 hs),ρ2,s2.psh o,M2.push, ?_⟩
  cases e2:mi (s2.psh o) with
  |ex d s3=>simp only[e2] at W;exact W
  |no=>simp only[e2] at W;exact W
  |ok i s3=>
   simp only[e2,pop] at W
   intro ρ3 w H3 M3
   cases e3:s3.tm with
   |nil=>simp only[e3] at W;exact False.elim W
   |cons o3 r3=>
    cases o3 with
    |none=>simp only[e3] at W;exact False.elim W
    |some x3=>
     simp only[e3] at W
     cases r3 with
     |nil=>exact False.elim W
     |cons o4 r4=>
      cases o4 with
      |none=>exact False.elim W
      |some x4=>
       have M4:=M3.down e3
       have M5:=M4.down (s':={s3 with tm:=some x4::r4}) rfl
       exact⟨ρ3,_,x4,x3,i,M5,W⟩
theorem zdw{me mo mi:M D}{g:D->D->D->MS}{tv:List (Option V)}{Dd:Ends}{σ:L2.St}{H:Hp}(h:tSv G F (mTri me mo mi g) tv Dd σ H):
 tM G F me σ H fun v H1=>tM G F mo σ H1 fun o H2=>tM G F mi σ H2 fun i H3=> ∃ρ s t1 t2 t3,MRL G F.toFx ρ H3 σ tv s [t1,t2,t3] [v,o,i]/\wS G F tv (g t2 t3 t1 s) Dd:=
 ⟨tv,(z2V h).mono fun v H1 ⟨ρ1,s1,t,M1,W⟩=>zbd h.1 M1 W⟩
theorem zfp{ρ:Nat->Addr}{s:Stt}{t1 t2 t3:D}{v o i:V}{H:Hp}{σv tv:List (Option V)}{Dd:Ends}(M:MRL G F.toFx ρ H σv tv s [t1,t2,t3] [v,o,i])(W:wS G F tv (setD t2 t3 t1 s) Dd):zaX o i v H fun H'=>Dd.nx σv H':=by
 have h:=M.rd
 simp only[RDs] at h
 obtain⟨_,_,e,h1,_,_,e2,h2,_,_,e3,h3,_⟩:=h
 cases e;cases e2;cases e3
 have b1:LB F.toFx ρ s.n (labs t1):=fun l h=>M.lb l (by simp only[labsL];exact List.mem_append_left _ h)
 have b2:LB F.toFx ρ s.n (labs t2):=fun l h=>M.lb l (by simp only[labsL];exact List.mem_append_right _ (List.mem_append_left _ h))
 cases t2 with
 |lst l ds=>
  cases t3 with
  |int k=>
   simp only[setD] at W
   cases ek:ixN ds.length k with
   |none=>simp only[ek] at W;exact False.elim W
   |some j=>
    simp only[ek] at W
    by_cases hc:l∉labs t1
    ·rw[if_pos hc] at W
     have h2':=h2
     simp only[RD] at h2 h3
     obtain⟨rfl,xs,hx,r⟩:=h2
     subst h3
     have ns:=zdv M.m h2' fun j hj=>(b2 j hj).1
     have bl:=b2 l (by simp only[labs];exact List.mem_cons_self ..)
     have mm: ∀q,q∈labsL (ds.set j t1)->q∈labsL ds\/q∈labs t1:=fun q hq=>by
      obtain⟨d,h1,h2⟩:=z1u hq
      rcases List.mem_or_eq_of_mem_set h1 with z|z
      ·exact .inl (labsL_mem z q h2)
      ·subst z;exact .inr h2
     refine⟨_,xs,k,j,rfl,rfl,hx,by rw[<-r.length];exact ek,W ρ σv _ (M.m.putL hx bl.1 bl.2 (r.set j h1) (fun q hq=> ?_) fun hq=> ?_)⟩
     ·rcases mm q hq with z|z
      ·exact b2 q (by simp only[labs];exact List.mem_cons_of_mem _ z)
      ·exact b1 q z
     ·rcases mm l hq with z|z
      ·exact ns z
      ·exact hc z
    ·rw[if_neg hc] at W;exact False.elim W
  |_=>exact False.elim W
 |_=>exact False.elim W
theorem ss_setI{ob ix:Expr}{pos tpos:Pos}{mo mi me:M D}(he:SE X G F e me)(ho:SE X G F ob mo)(hi:SE X G F ix mi)(hg: ∀{to ti:TE},PE X ob to->PE X ix ti->PG X (.Subscript ob ix tpos) (gSub to ti zaX))(hs:swapsWithSole [.Subscript ob ix tpos] e pos.line X.env=pure false:=by rfl)(hw:swappedStores [.Subscript ob ix tpos] e X.env=pure none:=by rfl)
 (h1:(assignEach [.Subscript ob ix tpos] X.env).map (·.2)=[assign (.Subscript ob ix tpos) X.env]:=by rfl):SS X G F (.Assign [.Subscript ob ix tpos] e pos) (mTri me mo mi setD):=by
 refine PS.imp0 (zbS he (hg ho hi) hs hw h1) fun Dd σ H ⟨tv,h⟩=> ?_
 exact(zdw h).mono fun v H1 h1=>h1.mono fun o H2 h2=>h2.mono fun i H3 ⟨ρ,s,t1,t2,t3,M,W⟩=>zfp M W
end
end Mi
namespace Mi
open PySem L2
section
variable{X:Cx}{G:Gx}{F:Fy}{e a b c:Expr}{pos:Pos}{ma mb mc m:M D}
theorem se_add(hk:X.K=G.K)(ha:SE X G F a ma)(hb:SE X G F b mb):SE X G F (.BinOp a .Add b pos) (mBin ma mb addD):=
 z7h hk (r:=fun x y H Q=>rI0 (fun i j=> .int (i+j)) x y H Q\/z9e G.K x y H Q\/rCat x y H Q\/∃i j,x= .str i/\y= .str j/\i.length+j.length<=sizeLine/\Q (.str (i++j)) H) (hk▸OpR.or zbT (OpR.or z9f (OpR.or zbV z5i))) zbW ha hb
theorem se_sub(hk:X.K=G.K)(ha:SE X G F a ma)(hb:SE X G F b mb):SE X G F (.BinOp a .Sub b pos) (mBin ma mb subD):=z7h hk zeF zf4 ha hb
theorem se_mul(hk:X.K=G.K)(ha:SE X G F a ma)(hb:SE X G F b mb):SE X G F (.BinOp a .Mult b pos) (mBin ma mb mulD):=z7h hk (r:=fun x y H Q=>rI CMul (fun i j=> .int (i*j)) x y H Q\/(rRep x y H Q\/zdh G.K x y H Q)) (OpR.or zeG (OpR.or zeU (hk▸zdi))) zfa ha hb
theorem se_fdiv(hk:X.K=G.K)(ha:SE X G F a ma)(hb:SE X G F b mb):SE X G F (.BinOp a .FloorDiv b pos) (mBin ma mb z6I):=z7h hk zcT zdm ha hb
theorem se_mod(hk:X.K=G.K)(ha:SE X G F a ma)(hb:SE X G F b mb):SE X G F (.BinOp a .Mod b pos) (mBin ma mb modD):=z7h hk zeH zf5 ha hb
theorem se_pow(hk:X.K=G.K)(ha:SE X G F a ma)(hb:SE X G F b mb):SE X G F (.BinOp a .Pow b pos) (mBin ma mb powD):=z7h hk zeI zf6 ha hb
theorem se_neg(hk:X.K=G.K)(ha:SE X G F a ma):SE X G F (.UnaryOp .USub a pos) (bd ma negD):=zhL hk zeJ zf9 ha
structure Cm(X:Cx)(G:Gx)(F:Fy)(op:CmpOp)(g:D->D->M D):Prop where
 h: ∃r,OpR X (compareOp op) r/\z1p G F r g
theorem z5L:Cm X G F .Lt ltD:=⟨_,zhy,zhN⟩
theorem z2J:Cm X G F .LtE leD:=⟨_,zhz,zhO⟩
theorem zdx:Cm X G F .Gt gtD:=⟨_,zhA,zhP⟩
theorem z30(hk:X.K=G.K)(hu:X.A.units+64<cLine):Cm X G F .Eq eqD:=⟨_,hk▸zeY hu,zhQ⟩
theorem z8A(hk:X.K=G.K)(hu:X.A.units+64<cLine):Cm X G F .NotEq neD:=⟨_,hk▸zeZ hu,zhR⟩
theorem zhV(hk:X.K=G.K)(hu:X.A.units+64<cLine):Cm X G F .In inD:=⟨_,hk▸zf0 hu,zhS⟩
theorem z9A:Cm X G F .Is isN:=⟨_,zeK,zf7⟩
theorem se_cmp{op:CmpOp}{g:D->D->M D}(hc:Cm X G F op g)(ha:SE X G F a ma)(hb:SE X G F b mb)(hm:behindInMarks op b=false):SE X G F (.Compare a [op] [b] pos) (mBin ma mb g):=by
 obtain⟨r,h1,h2⟩:=hc.h
 exact zdk h1 h2 ha hb hm
theorem sb_cmp{op:CmpOp}{g:D->D->M D}(hc:Cm X G F op g)(ha:SE X G F a ma)(hb:SE X G F b mb)(hm:behindInMarks op b=false):SB X G F (.Compare a [op] [b] pos) (mBoo (mBin ma mb g)):=by
 obtain⟨r,h1,h2⟩:=hc.h
 exact zdo h1 h2 ha hb hm
theorem se_cmp2{op op':CmpOp}{g g':D->D->M D}(hc:Cm X G F op g)(hc':Cm X G F op' g')(ha:SE X G F a ma)(hb:SE X G F b mb)(hcc:SE X G F c mc)(hm:lastMarks [op,op'] [b,c]=false:=by with_unfolding_all rfl):SE X G F (.Compare a [op,op'] [b,c] pos) (z0P ma mb mc g g'):=by
 obtain⟨r,h1,h2⟩:=hc.h
 obtain⟨r',h1',h2'⟩:=hc'.h
 exact zb5 h1 h2 h1' h2' ha hb hcc hm
theorem sb_cmp2{op op':CmpOp}{g g':D->D->M D}(hc:Cm X G F op g)(hc':Cm X G F op' g')(ha:SE X G F a ma)(hb:SE X G F b mb)(hcc:SE X G F c mc)(hm:lastMarks [op,op'] [b,c]=false:=by with_unfolding_all rfl):SB X G F (.Compare a [op,op'] [b,c] pos) (mBoo (z0P ma mb mc g g')):=by
 obtain⟨r,h1,h2⟩:=hc.h
 obtain⟨r',h1',h2'⟩:=hc'.h
 exact zb6 h1 h2 h1' h2' ha hb hcc hm
theorem se_idx(hk:X.K=G.K)(ha:SE X G F a ma)(hb:SE X G F b mb)(hs:z2K b):SE X G F (.Subscript a b pos) (mBin ma mb ixD):=zhM hk (hk▸IxR.or zd4 zeS) zhT ha hb hs
structure Cb(X:Cx)(G:Gx)(F:Fy)(f:Value)(g:List D->M D):Prop where
 h: ∃r,CallR X f r/\z1r G F r g
theorem zfq(hk:X.K=G.K):Cb X G F (.builtin "len") lenD:=⟨_,hk▸z43,zbX⟩
theorem zfr:Cb X G F (.builtin "abs") absD:=⟨_,zaV,zff⟩
theorem zbZ(hc:X.calm=true):Cb X G F (.builtin "min") minD:=⟨_,z92 hc,zfg⟩
theorem zc0(hc:X.calm=true):Cb X G F (.builtin "max") maxD:=⟨_,z91 hc,zfh⟩
theorem z9B(hk:X.K=G.K)(hd:X.A.handled=none):Cb X G F (.builtin "all") allD:=⟨_,hk▸z9d hd,zfi⟩
theorem zfs:Cb X G F (.type "int") intD:=⟨_,z6u,zbY⟩
theorem z27(hk:X.K=G.K):Cb X G F (.type "tuple") tupF:=⟨_,hk▸z9g,zdq⟩
theorem se_cb{x:Str}{p:Pos}{es:List Expr}{ms:List (M D)}{g:List D->M D}{id:String}(hk:X.K=G.K)(hc:Cb X G F (.builtin id) g)(hgl:Gl X x)(hm:X.mg x=none)(hv:bootBuiltins x=some (.builtin id))(ha:SA X G F (e::es) (mArgs ms))(hn:x≠ "__name__" :=by decide)(hdb:(x==("__debug__" :Str))=false:=by decide)
 (he:starEach (e::es) X.env=(false,eval e X.env)::starEach es X.env:=by rfl) (hpl:(backTo pos (starEach es X.env)).any (·.1)=false:=by rfl):SE X G F (.Call (.Name x p) (e::es) [] pos) (mCB ms g):=by
 obtain⟨r,h1,h2⟩:=hc.h
 exact zb3 hk h1 h2 hgl hm hv ha hn hdb he hpl
theorem se_ct{x:Str}{p:Pos}{es:List Expr}{ms:List (M D)}{g:List D->M D}{T:String}(hk:X.K=G.K)(hc:Cb X G F (.type T) g)(hgl:Gl X x)(hm:X.mg x=none)(hv:bootBuiltins x=some (.type T))(ha:SA X G F (e::es) (mArgs ms))(hn:x≠ "__name__" :=by decide)(hdb:(x==("__debug__" :Str))=false:=by decide)
 (he:starEach (e::es) X.env=(false,eval e X.env)::starEach es X.env:=by rfl) (hpl:(backTo pos (starEach es X.env)).any (·.1)=false:=by rfl):SE X G F (.Call (.Name x p) (e::es) [] pos) (mCB ms g):=by
 obtain⟨r,h1,h2⟩:=hc.h
 exact z9l hk h1 h2 hgl hm hv ha hn hdb he hpl
structure Cl(X:Cx)(G:Gx)(F:Fy)(id:String)(g:D->List D->M D):Prop where
 h: ∃r,MtR X id r/\MtOK G F r g
end
end Mi
namespace Mi
open PySem L2 PySem.Spec PyProof.Rows
end Mi
namespace Mi
open PySem L2
inductive SEs(X:Cx)(G:Gx)(F:Fy):List Expr->List (M D)->Prop
 |nil:SEs X G F [] []
 |cons {e:Expr} {m:M D} {es:List Expr} {ms:List (M D)}:SE X G F e m->nst e=true->SEs X G F es ms->SEs X G F (e::es) (m::ms)
theorem sa_of{X:Cx}{G:Gx}{F:Fy}{es:List Expr}{ms:List (M D)}(hk:X.K=G.K)(h:SEs X G F es ms):SA X G F es (mArgs ms):=by
 induction h with
 |nil=>exact zf3 hk
 |cons h1 h2 _ ih=>exact zdl hk h1 ih h2
section
variable{X:Cx}{G:Gx}{F:Fy}{a b tg:Expr}{pos:Pos}
mutual
theorem z4C: ∀t:D,(er t).hasDict=false
 | .non| .bool _| .int _| .str _| .dct _ _ _| .obj _ _ _ _| .exc _| .fn _| .fdc _ _=>by simp only[er,PyData.hasDict]
 | .tup ds=>by simp only[er,PyData.hasDict];exact erL_noDict ds
 | .ro ds=>by simp only[er,PyData.hasDict];exact erL_noDict ds
 | .lst _ ds=>by simp only[er,PyData.hasDict];exact erL_noDict ds
theorem erL_noDict: ∀ts:List D,PyData.hasDictAll (erL ts)=false
 |[]=>by simp only[erL,PyData.hasDictAll]
 |t::ts=>by simp only[erL,PyData.hasDictAll,z4C t,erL_noDict ts,Bool.or_self]
end
noncomputable def strC(ds:List D):Bool:=plainL ds&&(er (.tup ds)).showable&&decide ((er (.tup ds)).depth<=60)&&decide ((er (.tup ds)).shown.length<=sizeLine)
noncomputable def strD:List D->M D
 |[.tup ds]=>if strC ds=true then rt (.str (er (.tup ds)).shown) else fl
 |_=>fl
theorem zft:z1r G F (rStr G.K) strD:=by
 intro ρ s ts vs H σv tv Q M W
 unfold strD at W
 split at W
 ·rename_i ds
  split at W
  ·rename_i hc
   simp only[strC,Bool.and_eq_true,decide_eq_true_eq] at hc
   obtain⟨⟨⟨c1,c2⟩,c3⟩,c4⟩:=hc
   obtain⟨v,rfl,h,_⟩:=M.one
   obtain⟨p,xs,rfl,s1,r1⟩:=id h.tupq
   exact⟨p,er (.tup ds),rfl,RD.dp _ _ h (by simp only[plain];exact c1),z4C _,c2,c3,c4,fun _=>W.flat M.m rfl⟩
  ·exact wfl W
 ·exact wfl W
noncomputable def eqS:D->D->M D
 | .str i, .str j=>rt (.bool (i==j))
 |_,_=>fl
theorem zfu:z1p G F (fun x y H Q=> ∃i j,x= .str i/\y= .str j/\Q (.bl (i==j)) H) eqS:=by
 intro ρ s t t' v u H σv tv Q M W
 unfold eqS at W
 split at W
 ·obtain⟨h1,h2⟩:=M.rd2
  simp only[RD] at h1 h2
  exact⟨_,_,h1,h2,W.flat M.m rfl⟩
 ·exact wfl W
theorem z9C:Cm X G F .Eq eqS:=⟨_,zfk,zfu⟩
noncomputable def addE(x y:D):M D:=match x,y with
 | .bool k, .int j=>rt (.int ((if k then 1 else 0)+j))
 |x,y=>addD x y
theorem zdy:OpOK G F (fun x y H Q=>(∃k j,x= .bl k/\y= .int j/\Q (.int ((if k then 1 else 0)+j)) H)\/(rI0 (fun i j=> .int (i+j)) x y H Q\/z9e G.K x y H Q\/rCat x y H Q\/∃i j,x= .str i/\y= .str j/\i.length+j.length<=sizeLine/\Q (.str (i++j)) H)) addE:=by
 intro ρ s t t' v u H σv tv Q M W
 unfold addE at W
 split at W
 ·obtain⟨h1,h2⟩:=M.rd2
  simp only[RD] at h1 h2
  exact .inl ⟨_,_,h1,h2,fun _=>W.flat M.m rfl⟩
 ·exact .inr (zbW ρ s t t' v u H σv tv Q M W)
theorem se_addE{ma mb:M D}(hk:X.K=G.K)(ha:SE X G F a ma)(hb:SE X G F b mb):SE X G F (.BinOp a .Add b pos) (mBin ma mb addE):=
 z7h hk (r:=fun x y H Q=>(∃k j,x= .bl k/\y= .int j/\Q (.int ((if k then 1 else 0)+j)) H)\/(rI0 (fun i j=> .int (i+j)) x y H Q\/z9e G.K x y H Q\/rCat x y H Q\/∃i j,x= .str i/\y= .str j/\i.length+j.length<=sizeLine/\Q (.str (i++j)) H)) (OpR.or zdt (hk▸OpR.or zbT (OpR.or z9f (OpR.or zbV z5i)))) zdy ha hb
end
end Mi
namespace L2
open PySem PySem.Spec PyProof.Rows
section
variable{P:Program}{w:World}{H H':Hp}{h h':Heap}{a:Addr}{o:HO}
theorem z1o.here(x:z1o P w H h a o): ∃u,h.get? a=some u:=by
 cases o with
 |lst xs=>obtain⟨_,_,_,_,e⟩:=x;exact⟨_,e⟩
 |tup xs=>obtain⟨_,_,_,ob,e,_⟩:=x;exact⟨_,e⟩
 |dK kvs=>obtain⟨_,_,_,_,o,_,_,e,_⟩:=x;exact⟨_,e⟩
 |dT kvs=>obtain⟨_,_,_,_,o,_,_,e,_⟩:=x;exact⟨_,e⟩
 |set S n=>obtain⟨o,_,_,_,e,_⟩:=x;exact⟨_,e⟩
 |ins C dx fs=>obtain⟨_,_,_,e,_⟩:=x;exact⟨_,e⟩
 |own y=>obtain⟨_,e⟩:=x;exact⟨_,e⟩
 |xd fs=>obtain⟨_,⟨_,_,_,e,_⟩,_⟩:=x;exact⟨_,e⟩
 |rng lo hi=>obtain⟨_,_,_,e⟩:=x;exact⟨_,e⟩
 |frz o u=>exact⟨_,x.1⟩
 |tbl ps=>exact⟨_,x⟩
 |met f y=>exact⟨_,x⟩
 |ext φ=>obtain⟨_,⟨_,e⟩,_⟩:=x;exact⟨_,e⟩
theorem HOk.none_of(x:HOk P w H h)(e:h.get? a=none):H a=none:=by
 cases q:H a with
 |none=>rfl
 |some u=>obtain⟨v,z⟩:=(x a u q).here;rw[e] at z;cases z
end
structure Fly(P:Program)(w:World)(outer:List Env)(H:Hp)(s:Shared)(H':Hp)(C:Value)(e:Addr)(s':Shared):Prop where
 os:s'.os=s.os
 bare:AllBare s'.gens
 un:Un (frs outer) [] H H' s.heap s'.heap
 hok:HOk P w H' s'.heap
 he:H' e=none
 se:s.heap.get? e=none
 tr: ∃oe vs a0 T oT ts,s'.heap.get? e=some oe/\(oe.cls=C/\vs[0]? =some a0)/\oe.data= .fields vs/\vs[1]? =some (.ref T)/\T≠e/\s'.heap.get? T=some oT/\oT.data= .fields ts/\ts[3]? =some .none/\H' T=none/\s.heap.get? T=none
noncomputable def CX1(P:Program)(w:World):CXT:=fun outer H s E e s'=> ∃a C H',e= .ref a/\Fly P w outer H s H' C a s'/\E C none H'
section
variable{X:Cx}{pins:List (Addr×Obj)}{σ:St}{H:Hp}{s:Shared}{h':Heap}
theorem Inv.frmem(I:Inv X pins σ H s): ∀env∈X.stack,∀a,env.frame=some a->a∈frs X.stack:=fun env he a e=>List.mem_filterMap.mpr ⟨env,he,e⟩
theorem z82{ex:List Addr}(I:Inv X pins σ H s)(hx: ∀x∈ex,H x=none)(st:(W.hideAll s.heap (frs X.stack++ex)).StaysIn h'): ∀b u o,H b=some u->s.heap.get? b=some o->h'.get? b=some o:=fun b u o e q=>
 st b o (W.hideAll_get _ q fun hm=>by
  rcases List.mem_append.mp hm with z|z
  ·rw[I.stkFree b z] at e;cases e
  ·rw[hx b z] at e;cases e)
theorem z7l{ex:List Addr}(I:Inv X pins σ H s)(hx: ∀x∈ex,H x=none)(st:(W.hideAll s.heap (frs X.stack++ex)).StaysIn h'):HOk X.prog X.w H h':=fun a o e=>
 (I.hok a o e).stay (fun b u hb q=>by
  rcases hb with rfl|hb
  ·exact z82 I hx st _ _ _ e q
  ·exact z82 I hx st _ _ _ hb q) (fun _ q=>q) fun _ _ q=>q
theorem z7m{ex:List Addr}(I:Inv X pins σ H s)(hex:X.ex=[])(hx: ∀x∈ex,H x=none)(hx0: ∀x∈ex,X.s₀.heap.get? x=none)(st:(W.hideAll s.heap (frs X.stack++ex)).StaysIn h')(up:s.heap.UpToSlots h'):Un (frs X.outer) [] X.H₀ H X.s₀.heap h':=by
 have nx: ∀b:Addr,b∉X.ex:=fun b z=>by rw[hex] at z;cases z
 have nst: ∀b o,X.s₀.heap.get? b=some o->b∉frs X.outer->b∉frs X.stack++ex:=fun b o q hb hm=>by
  rcases List.mem_append.mp hm with z|z
  ·rcases List.mem_cons.mp (I.stkSub b z) with z|z
   ·subst z;exact absurd (Heap.lt_size q) (Nat.not_lt.mpr I.ok.above)
   ·exact hb z
  ·rw[hx0 b z] at q;cases q
 have sl: ∀b o,X.s₀.heap.get? b=some o->b∈frs X.outer->∃sl,h'.get? b=some {o with slots:=sl}:=fun b o q hb=>by
  obtain⟨sl,z⟩:=I.base.slot b o q (I.ok.frf b hb) hb (nx b)
  obtain⟨_,o',ho',hd⟩:=I.ok.funs.mem hb
  rw[q] at ho';cases ho'
  obtain⟨sl2,z2⟩:=up b {o with slots:=sl} z hd
  exact⟨sl2,z2⟩
 refine⟨fun b o q n hb _=> ?_,fun b o q n hb _=>sl b o q hb,fun b o q n _=>I.base.free b o q n (nx b),fun b o q _=> ?_,I.base.tups,I.base.frzs,I.base.tbls⟩
 ·exact st b o (W.hideAll_get _ (I.base.keep b o q n hb (nx b)) (nst b o q hb))
 ·by_cases hb:b∈frs X.outer
  ·obtain⟨sl,z⟩:=sl b o q hb;exact⟨_,z⟩
  ·obtain⟨o',z⟩:=I.base.there b o q (nx b)
   exact⟨o',st b o' (W.hideAll_get _ z (nst b o q hb))⟩
theorem z4D(I:Inv X pins σ H s)(hex:X.ex=[]){b:Addr}(e:s.heap.get? b=none):X.s₀.heap.get? b=none:=by
 cases q:X.s₀.heap.get? b with
 |none=>rfl
 |some o=>obtain⟨o',z⟩:=I.base.there b o q (by rw[hex];simp);rw[e] at z;cases z
theorem z83{ex:List Addr}{e:Addr}{cls a0:Value}(I:Inv X pins σ H s)(hex:X.ex=[])(hx: ∀x∈ex,H x=none)(hx0: ∀x∈ex,X.s₀.heap.get? x=none)(up:s.heap.UpToSlots h')(tr:h'.TracedW (W.hideAll s.heap (frs X.stack++ex)) e cls a0):
 ∃oe vs a0 T oT ts,h'.get? e=some oe/\(oe.cls=cls/\vs[0]? =some a0)/\oe.data= .fields vs/\vs[1]? =some (.ref T)/\T≠e/\h'.get? T=some oT/\oT.data= .fields ts/\ts[3]? =some .none/\H T=none/\X.s₀.heap.get? T=none:=by
 obtain⟨oe,vs,T,oT,ts,h1,h2,h3,h4,h5,h6,h7,h8,h9⟩:=tr
 have nm: ∀o,s.heap.get? T=some o->T∈ex:=fun o q=>by
  by_cases hm:T∈frs X.stack++ex
  ·rcases List.mem_append.mp hm with z|z
   ·obtain⟨_,o',ho',hd⟩:=I.stack.mem z
    obtain⟨sl,z'⟩:=up T o' ho' hd
    rw[h7] at z';cases z'
    exact absurd h8 (hd ts)
   ·exact z
  ·rw[W.hideAll_get _ q hm] at h5;cases h5
 have hT:H T=none:=by
  cases q:s.heap.get? T with
  |none=>exact I.hok.none_of q
  |some o=>exact hx T (nm o q)
 have hS:X.s₀.heap.get? T=none:=by
  cases q:s.heap.get? T with
  |none=>exact z4D I hex q
  |some o=>exact hx0 T (nm o q)
 exact⟨oe,vs,a0,T,oT,ts,h1,h2,h3,h4,h6,h7,h8,h9,hT,hS⟩
end
section
variable{P:Program}{w:World}{K:W.Frag}{mg:Str->Option Value}{base:Heap}{N:List Str}{qual:Str}{scope:Scope}{f:Addr}{cd:Value}{A:Around}{outer:List Env}{s:Shared}{H:Hp}{E:XK}
theorem z7n:z4r (CX1 P w) (cxOf (CX1 P w) P w K mg base N qual scope f cd A outer s H E) E:=by
 intro pins σ H1 s1 e s2 I ⟨a,C,H2,e1,F,hE⟩
 subst e1
 have I2:Inv (cxOf (CX1 P w) P w K mg base N qual scope f cd A outer s H E) pins σ H2 s2:=I.call' (ch:=[]) F.os F.un F.hok F.bare (fun b z=>absurd z (by simp))
 obtain⟨oe,vs,a0,T,oT,ts,h1,h2,h3,h4,h5,h6,h7,h8,h9,h10⟩:=F.tr
 have hx: ∀x∈[a,T],H2 x=none:=fun x hx=>by
  rcases List.mem_cons.mp hx with rfl|hx
  ·exact F.he
  ·rcases List.mem_cons.mp hx with rfl|hx
   ·exact h9
   ·cases hx
 have hx0: ∀x∈[a,T],s.heap.get? x=none:=fun x hx=>by
  rcases List.mem_cons.mp hx with rfl|hx
  ·exact z4D I rfl F.se
  ·rcases List.mem_cons.mp hx with rfl|hx
   ·exact z4D I rfl h10
   ·cases hx
 refine wpAny_leaves_onW (base:=W.hideAll s2.heap (frs (cxOf (CX1 P w) P w K mg base N qual scope f cd A outer s H E).stack++[a,T])) (L:=s.heap.objs.size) (cls:=C) (a0:=a0) I2.ok.frames rfl ⟨fun b o q=>W.of_hideAll _ q,W.hideAll_none _ (by simp),W.funFrames_hide I2.stack fun env he b hb=>List.mem_append_left _ (I2.frmem env he b hb),oe,vs,T,oT,ts,h1,h2,h3,h4,W.hideAll_none _ (by simp),h5,h6,h7,h8⟩ fun h' fl up=> ?_
 obtain⟨k1,k2,k3,k4⟩:=fl
 exact⟨a,C,H2,rfl,⟨F.os.trans I.os,F.bare,z7m I2 rfl hx hx0 k1 up,z7l I2 hx k1,F.he,hx0 a (by simp),z83 I2 rfl hx hx0 up k4⟩,hE⟩
theorem zfv{pins:List (Addr×Obj)}{σ:St}{H1:Hp}{s1:Shared}{h':Heap}{e:Addr}{C:Value}{args:List Value}(I:Inv (cxOf (CX1 P w) P w K mg base N qual scope f cd A outer s H E) pins σ H1 s1)(hx:Heap.MadeExcOf s1.heap h' e C args)(hE:E C none H1):
 (cxOf (CX1 P w) P w K mg base N qual scope f cd A outer s H E).xe (.ref e) {s1 with heap:=h'}:=by
 have nn: ∀x∈([]:List Addr),H1 x=none:=fun x z=>absurd z (by simp)
 have nn0: ∀x∈([]:List Addr),s.heap.get? x=none:=fun x z=>absurd z (by simp)
 refine wpAny_leaves_madeW (base:=W.hideAll s1.heap (frs (cxOf (CX1 P w) P w K mg base N qual scope f cd A outer s H E).stack++[])) (h:=s1.heap) (L:=s.heap.objs.size) I.ok.frames rfl (fun b o q=>W.of_hideAll _ q) (W.funFrames_hide I.stack fun env he b hb=>List.mem_append_left _ (I.frmem env he b hb)) hx fun h2 t fl tp bt up=> ?_
 obtain⟨k1,k2,k3,k4⟩:=fl
 have up2:s1.heap.UpToSlots h2:=(Heap.UpToSlots.of_keeps hx.keeps).trans up
 exact⟨e,C,H1,rfl,⟨I.os,I.bare,z7m I rfl nn nn0 k1 up2,z7l I nn k1,I.hok.none_of hx.new,z4D I rfl hx.new,z83 I rfl nn nn0 up2 k4⟩,hE⟩
end
section
variable{X:Cx}{pins:List (Addr×Obj)}{σ:St}{H:Hp}{s:Shared}{h':Heap}
theorem z9D{ex:List Addr}{t':Nat}(I:Inv X pins σ H s)(hex:X.ex=[])(hx: ∀x∈ex,H x=none)(hx0: ∀x∈ex,X.s₀.heap.get? x=none)(hxp: ∀p∈X.pn++pins,p.1∉ex)(st:(W.hideAll s.heap (frs X.stack++ex)).StaysIn h')(up:s.heap.UpToSlots h'):Inv X pins σ H {s with heap:=h',toks:=t'}:=by
 have cellK: ∀c v,s.heap.IsCell c v->h'.IsCell c v:=fun c v ⟨o,ho,hd⟩=>by
  obtain⟨sl,q⟩:=up c o ho (fun vs z=>by rw[hd] at z;cases z)
  exact⟨_,q,hd⟩
 have un:=z7m I hex hx hx0 st up
 refine⟨I.ok,I.os,I.bare,by rw[hex];exact un, ?_,fun y c e=> ?_,I.free,I.freeC,fun p hp=> ?_,z7l I hx st,I.len⟩
 ·obtain⟨m,hn,hl⟩:=I.loc
  refine⟨m,up.ns hn,fun i x v e1 e2 e3=> ?_⟩
  obtain⟨u,r,l⟩:=hl i x v e1 e2 e3
  refine⟨u,r, ?_⟩
  rcases l with l|⟨k,c,e,z⟩
  ·exact .inl l
  ·exact .inr ⟨k,c,e,cellK c _ z⟩
 ·obtain⟨v,z⟩:=I.cell y c e
  exact⟨v,cellK c v z⟩
 ·obtain⟨e,n,ne,nf,d⟩:=I.pin p hp
  refine⟨st p.1 p.2 (W.hideAll_get _ e fun hm=> ?_),n,ne,nf,d⟩
  rcases List.mem_append.mp hm with z|z
  ·rcases List.mem_cons.mp (I.stkSub p.1 z) with z|z
   ·exact ne z
   ·exact nf z
  ·exact hxp p hp z
theorem Inv.track{a:Addr}{o:HO}(I:Inv X pins σ H s)(hn:H a=none)(h0:X.s₀.heap.get? a=none)(hL:a≠X.env.locals)(hC: ∀x c,X.env.cells.lookup x=some c->c≠a)(hp: ∀p∈X.pn++pins,p.1≠a)(ok:z1o X.prog X.w (upd H a o) s.heap a o):Inv X pins σ (upd H a o) s:=by
 have ne: ∀b u,H b=some u->upd H a o b=some u:=fun b u e=>by
  by_cases hb:b=a
  ·subst hb;rw[hn] at e;cases e
  ·rw[z0c hb];exact e
 refine⟨I.ok,I.os,I.bare,⟨I.base.keep,I.base.slot,fun b ob q n hx=> ?_,I.base.there,fun b xs e=>ne _ _ (I.base.tups b xs e),fun b u xs e=>ne _ _ (I.base.frzs b u xs e),fun b ps e=> ?_⟩,I.loc,I.cell, ?_,fun x c e=> ?_,fun p q=> ?_,fun b u e=> ?_,I.len⟩
 ·rw[z0c (fun z=>by rw[z,h0] at q;cases q)];exact I.base.free b ob q n hx
 ·obtain⟨m,z⟩:=I.base.tbls b ps e
  exact⟨m,ne _ _ z⟩
 ·rw[z0c (Ne.symm hL)];exact I.free
 ·rw[z0c (hC x c e)];exact I.freeC x c e
 ·obtain⟨e,n,r⟩:=I.pin p q
  exact⟨e,by rw[z0c (hp p q)];exact n,r⟩
 ·by_cases hb:b=a
  ·subst hb;rw[z0i] at e;cases e;exact ok
  ·rw[z0c hb] at e
   exact(I.hok b u e).stay (fun _ _ _ q=>q) (fun c q=>ne _ _ q) fun c xs q=>ne _ _ q
noncomputable def zdz(N:List Str):St:=List.replicate N.length none
theorem Inv.forget{m':Str->Option Value}{t':Nat}(I:Inv X pins σ H s)(hn:h'.Ns X.env.locals m')(hs:Heap.SameBut X.env.locals s.heap h'):Inv X pins (zdz X.N) H {s with heap:=h',toks:=t'}:=by
 have neL: ∀b o,X.s₀.heap.get? b=some o->b≠X.env.locals:=fun b o e=>Nat.ne_of_lt (Nat.lt_of_lt_of_le (Heap.lt_size e) I.ok.above)
 refine⟨I.ok,I.os,I.bare,⟨fun b o e n hb hx=> ?_,fun b o e n hb hx=> ?_,I.base.free,fun b o e hx=> ?_,I.base.tups,I.base.frzs,I.base.tbls⟩,⟨m',hn,fun i x v _ e=> ?_⟩,fun y c e=> ?_,I.free,I.freeC,fun p hp=> ?_,fun b ob e=> ?_,by simp[zdz]⟩
 ·exact(hs.2 b (neL b o e)).trans (I.base.keep b o e n hb hx)
 ·obtain⟨sl,e1⟩:=I.base.slot b o e n hb hx
  exact⟨sl,(hs.2 b (neL b o e)).trans e1⟩
 ·obtain⟨o',e1⟩:=I.base.there b o e hx
  exact⟨o',(hs.2 b (neL b o e)).trans e1⟩
 ·unfold zdz at e
  rw[List.getElem?_replicate] at e
  split at e<;>cases e
 ·obtain⟨w',z⟩:=I.cell y c e
  exact⟨w',z.sameBut hs (I.cne y c e)⟩
 ·obtain⟨e,n,ne,nf,d⟩:=I.pin p hp
  exact⟨(hs.2 p.1 ne).trans e,n,ne,nf,d⟩
 ·refine(I.hok b ob e).stay (fun c w' hc q=>(hs.2 c ?_).trans q) (fun _ q=>q) fun _ _ q=>q
  rintro rfl
  rcases hc with rfl|hc
  ·rw[I.free] at e;cases e
  ·rw[I.free] at hc;cases hc
end
noncomputable def bmV:List Value:=[.type "ValueError", .type "Exception", .type "BaseException", .type "object"]
theorem zfw{K:W.Frag}{h:Heap}{C:Addr}{bmB:List Value}{newId:String}(X:K.In h)(q:W.excIn K C bmB newId=true):
 ∃bm N nm qn bs hd sn sub ab col dd k0 k1 k2 k3 k5 mN,h.get? C=some (excClassObj nm qn C N bs bm hd sn sub ab col dd k0 k1 k2 k3 k5 newId)/\h.Ns N mN/\mN "__init__" =none/\OwnTail h bmB bm:=by
 unfold W.excIn at q
 split at q
 ·rename_i dd cd sl ho
  split at q
  ·rename_i C' bm k0 k1 k2 k3 n k5 hm hs
   simp only[Bool.and_eq_true,beq_iff_eq,Bool.not_eq_true'] at q
   obtain⟨⟨⟨⟨⟨rfl,rfl⟩,hdel⟩,ht⟩,hok⟩,hni⟩:=q
   obtain⟨nm,bs,mro,ns,qn,hd,sn,sub,ab,col,del⟩:=cd
   dsimp only at hm hdel hok hni
   subst hm hdel
   have hsl:sl= #[k0,k1,k2,k3,some (.builtin n),k5]:=by
    obtain⟨l⟩:=sl
    simp only at hs
    rw[hs]
   subst hsl
   exact⟨bm,ns,nm,qn,bs,hd,sn,sub,ab,col,dd,k0,k1,k2,k3,k5,_,X _ _ ho, .of_isNs (W.isNs_of_in X hok),W.nsMap_none_of_in X hok hni,W.tail_of_in X ht⟩
  ·cases q
 ·cases q
noncomputable def z4E(X:Cx)(E:St->XK):Prop:= ∀(pins:List (Addr×Obj)) (σ:St) (H:Hp) (s:Shared) (h':Heap) (e:Addr) (C:Value) (args:List Value),Inv X pins σ H s->Heap.MadeExcOf s.heap h' e C args->E σ C none H->X.xe (.ref e) {s with heap:=h'}
noncomputable def zfx(X:Cx)(E:St->XK):Prop:= ∀(pins:List (Addr×Obj)) (σ:St) (H:Hp) (s:Shared) (e:Value) (s':Shared),Inv X pins σ H s->CX1 X.prog X.w X.stack H s (E σ) e s'->X.xe e s'
section
variable{X:Cx}{C:Addr}{x y:Str}{np cpos pos p:Pos}{j:Nat}{E:St->XK}
noncomputable def zfy(C:Addr)(E:St->XK):TS:=fun _ σ H=>E σ (.ref C) none H
theorem zbe(hh:X.A.handled=none)(hx:z4E X E)(hg:Gl X x)(hm:X.mg x=some (.ref C))(hq:W.excIn X.K C bmV "ValueError.__new__" =true)(hd:(x==("__debug__" :Str))=false:=by decide):
 PS X (.Raise (some (.Call (.Name x np) [.Constant (.str y) j p] [] cpos)) none pos) (zfy C E):=by
 intro pins s σ H D I h
 obtain⟨bm,N,nm,qn,bs,hdc,sn,sub,ab,col,dd,k0,k1,k2,k3,k5,mN,hC,hN,hni,T⟩:=zfw I.ok.mod.kin hq
 refine wpAny_Raise_call_subU (C:=C) (nm:=nm) (q:=qn) (N:=N) (bs:=bs) (bm:=bm) (hdct:=hdc) (sn:=sn) (sub:=sub) (ab:=ab) (col:=col) (dd:=dd) (k0:=k0) (k1:=k1) (k2:=k2) (k3:=k3) (k5:=k5)
  F.excBase_ValueError (by decide+kernel) F.excBase_ValueError (mN:=mN) (T.hasType (by decide+kernel)) hh rfl hni (z4q I hg hm ⟨rfl, ?_⟩ hd)
 have he:starEach [Expr.Constant (.str y) j p] X.env=(false,eval (.Constant (.str y) j p) X.env)::starEach [] X.env:=by rfl
 rw[he]
 refine Calls.evalArgs_plain ?_
 have ha:PA X [Expr.Constant (.str y) j p] _:=z0g z0d z42 he
 have hp:=ha cpos pins s σ H (fun vs H1=>vs.length<=sizeLine/\H1=H) I ⟨by show 1<=sizeLine;decide,rfl⟩
 rw[he] at hp
 refine wpAny_mono hp (fun us s2 ⟨vs,H1,I1,r,hl,e1⟩=> ?_) fun _ _ z=>z
 subst e1
 exact⟨rfl,by rw[<-r.length];exact hl,I1.bk _ _ hC,hN.keeps I1.bk,T.keeps I1.bk,fun h' e hm=>hx pins σ H1 s2 h' e (.ref C) us I1 hm h⟩
end
section
variable{X:Cx}{k:Nat}{f:Addr}{fd:FuncData}{ps:List Str}{sp:Sp}{E:St->XK}{x:Str}{p pos:Pos}{e:Expr}{es:List Expr}{t:TA}
noncomputable def zfz(sp:Sp)(E:St->XK)(t:TA):TE:=fun σ H Q=>t σ H fun vs H1=>sp vs H1 Q (E σ)
theorem zbf(F:FnOk X.prog X.w X.K X.mg X.base (CX1 X.prog X.w) k f fd ps sp)(hr:Room k X.A)(hg:Gl X x)(hm:X.mg x=some (.ref f))(hk:W.keepIn X.K (.ref f)=true)(hb:z3H X.K fd ps [])(hx:zfx X E)
 (ha:PA X (e::es) t) (hdb:(x==("__debug__" :Str))=false:=by decide) (he:starEach (e::es) X.env=(false,eval e X.env)::starEach es X.env:=by rfl) (hpl:(backTo pos (starEach es X.env)).any (·.1)=false:=by rfl):
 PE X (.Call (.Name x p) (e::es) [] pos) (zfz sp E t):=by
 intro pins s σ H Q I h
 refine wpAny_Call_Name_kw (z4q I hg hm ?_ hdb)
 refine W.callWith_K (h₀:=X.base) I.ok.mod.kin hk (thn (ha pos pins s σ H _ I h) fun us s1 ⟨vs,H1,I1,r,q⟩=>⟨I1.kIn, ?_⟩) he hpl
 have hl:us.length=ps.length:=by rw[<-r.length];exact F.len _ _ _ _ q
 have hb2:=hb s1 us I1.kIn (by rw[List.append_nil];exact hl)
 rw[List.append_nil] at hb2
 refine wpAny_call (codeAny_mono (F.run X.A X.stack s1 H1 ⟨us,[]⟩ us vs Q (E σ) hr I1.env0 hb2 r q) fun r s' hq=> ?_)
 cases r with
 |error e=>exact hx pins σ H1 s1 e s' I1 hq
 |ok fl=>
  cases fl with
  |ret u=>exact I1.after hq
  |next=>exact False.elim hq
  |brk=>exact False.elim hq
  |cont=>exact False.elim hq
end
noncomputable abbrev Xt(X:Cx)(pl:List (Addr×Obj))(E:Value->Shared->Prop):Cx:={X with pn:=pl,xe:=E}
theorem Cx.Ok.xt{X:Cx}(ok:X.Ok)(pl:List (Addr×Obj))(E:Value->Shared->Prop):(Xt X pl E).Ok:=
 ⟨ok.mod,ok.kind,ok.glob,ok.blt,ok.above,ok.inj,ok.has,ok.cab,ok.hd,ok.frames,ok.stk,ok.exf,ok.bs,ok.bsz,ok.noex,ok.exfs,ok.funs,ok.frf⟩
theorem Cx.Ok.unxt{X:Cx}{pl:List (Addr×Obj)}{E:Value->Shared->Prop}(ok:(Xt X pl E).Ok):X.Ok:=
 ⟨ok.mod,ok.kind,ok.glob,ok.blt,ok.above,ok.inj,ok.has,ok.cab,ok.hd,ok.frames,ok.stk,ok.exf,ok.bs,ok.bsz,ok.noex,ok.exfs,ok.funs,ok.frf⟩
theorem Inv.xt{X:Cx}{pins:List (Addr×Obj)}{σ:St}{H:Hp}{s:Shared}{E:Value->Shared->Prop}(I:Inv X pins σ H s):Inv (Xt X (X.pn++pins) E) [] σ H s:=⟨I.ok.xt _ _,I.os,I.bare,I.base,I.loc,I.cell,I.free,I.freeC,fun p hp=>I.pin p (by rw[List.append_nil] at hp;exact hp),I.hok,I.len⟩
theorem Inv.unxt{X:Cx}{pins pins':List (Addr×Obj)}{σ:St}{H:Hp}{s:Shared}{E:Value->Shared->Prop}(I:Inv (Xt X (X.pn++pins) E) pins' σ H s):Inv X pins σ H s:=⟨I.ok.unxt,I.os,I.bare,I.base,I.loc,I.cell,I.free,I.freeC,fun p hp=>I.pin p (List.mem_append_left _ hp),I.hok,I.len⟩
noncomputable abbrev Xm(X:Cx)(a:Addr):Cx:={X with A:=X.A.mark (some (.ref a)),calm:=false,xe:=fun _ _=>False}
theorem Cx.Ok.xm{X:Cx}(ok:X.Ok)(a:Addr):(Xm X a).Ok:=
 ⟨ok.mod,ok.kind,ok.glob,ok.blt,ok.above,ok.inj,ok.has,ok.cab,fun z=>Bool.noConfusion z,ok.frames,ok.stk,ok.exf,ok.bs,ok.bsz,ok.noex,ok.exfs,ok.funs,ok.frf⟩
section
variable{X:Cx}{pins:List (Addr×Obj)}{σ:St}{H:Hp}{s s':Shared}
theorem Inv.xm(I:Inv X pins σ H s)(a:Addr):Inv (Xm X a) pins σ H s:=⟨I.ok.xm a,I.os,I.bare,I.base,I.loc,I.cell,I.free,I.freeC,I.pin,I.hok,I.len⟩
theorem Inv.unxm{a:Addr}(ok:X.Ok)(I:Inv (Xm X a) pins σ H s):Inv X pins σ H s:=⟨ok,I.os,I.bare,I.base,I.loc,I.cell,I.free,I.freeC,I.pin,I.hok,I.len⟩
noncomputable def z6L(o:Obj):HO:= .frz o (.ext fun _=>True)
noncomputable def zfA(K:W.Frag)(CB:Addr)(ie:Nat)(th:TS)(D:Ends):St->XK:=fun σ C _ H=>W.exmOne K C (.ref CB)=some true/\∀a o,H a=none->K.lookup a=none->o.cls=C->(∃vs,o.data= .fields vs)->th {nx:=fun _ _=>False,rt:=D.rt} (σ.set ie (some (.ref a))) (upd H a (z6L o))
noncomputable def zbg(X:Cx)(hs:List ExceptHandler)(Q:Flow->Shared->Prop):Value->Shared->Prop:=fun e s₁=>
 wpAny (model X.prog X.w) X.A (noteFrame e X.env) (fun _ s₂=>wpAny (model X.prog X.w) X.A (setFlight e none) (fun _ s₃=>wpAny (model X.prog X.w) X.A (handleBy e X.env hs) Q X.xe s₃) X.xe s₂) X.xe s₁
theorem zbh{CB:Addr}{x n:Str}{ie:Nat}{np hpos:Pos}{b₀:Stmt}{suite:List Stmt}{th:TS}{D:Ends}(hst:X.stack=X.env::X.outer)(hfr:X.env.frame=some X.env.locals)(hex:X.ex=[])(hg:Gl X x)(hm:X.mg x=some (.ref CB))(hN:X.N.Nodup)(hi:X.N[ie]? =some n)(hloc:X.env.scope.names.lookup n=some .local)
 (hb: ∀a,PSs (Xm X a) (b₀::suite) th) (hd:(x==("__debug__" :Str))=false:=by decide) {e:Value} (I:Inv X pins σ H s) (hc:CX1 X.prog X.w X.stack H s (zfA X.K CB ie th D σ) e s'):
 zbg X [.ExceptHandler (some (.Name x np)) (some n) (b₀::suite) hpos] (SP X pins D) e s':=by
 obtain⟨a,C,H2,e1,F,hE⟩:=hc
 subst e1
 have I2:Inv X pins σ H2 s':=I.call' (ch:=[]) F.os F.un F.hok F.bare (fun b z=>absurd z (by simp))
 obtain⟨oe,vs,a0,T,oT,ts,h1,h2,h3,h4,h5,h6,h7,h8,h9,h10⟩:=F.tr
 have hx: ∀x∈[a,T],H2 x=none:=fun x hx=>by
  rcases List.mem_cons.mp hx with rfl|hx
  ·exact F.he
  ·rcases List.mem_cons.mp hx with rfl|hx
   ·exact h9
   ·cases hx
 have hs0: ∀x∈[a,T],s.heap.get? x=none:=fun x hx=>by
  rcases List.mem_cons.mp hx with rfl|hx
  ·exact F.se
  ·rcases List.mem_cons.mp hx with rfl|hx
   ·exact h10
   ·cases hx
 have hx0: ∀x∈[a,T],X.s₀.heap.get? x=none:=fun x hx=>z4D I hex (hs0 x hx)
 have hxp: ∀p∈X.pn++pins,p.1∉[a,T]:=fun p hp z=>by
  have:=(I.pin p hp).1
  rw[hs0 _ z] at this;cases this
 have aL:a≠X.env.locals:=fun z=>by
  obtain⟨m,⟨o,_,_,ho,_⟩,_⟩:=I.loc
  have:=F.se
  rw[z,ho] at this;cases this
 have aC: ∀x c,X.env.cells.lookup x=some c->c≠a:=fun x c e z=>by
  obtain⟨v,o,ho,_⟩:=I.cell x c e
  have:=F.se
  rw[<-z,ho] at this;cases this
 have fl0:Heap.FlyingW (W.hideAll s'.heap (frs X.stack++[a,T])) (X.env::X.outer) a C a0 s'.heap:=⟨fun b o q=>W.of_hideAll _ q,W.hideAll_none _ (by simp),by rw[<-hst];exact W.funFrames_hide I2.stack fun env he b hb=>List.mem_append_left _ (I2.frmem env he b hb),oe,vs,T,oT,ts,h1,h2,h3,h4,W.hideAll_none _ (by simp),h5,h6,h7,h8⟩
 unfold zbg
 refine wpAny_looks_onW (by rw[<-hst];exact I2.ok.frames) hfr fl0 fun h4' held up4=> ?_
 refine wpAny_landsW held fun h5' fl5 up5=> ?_
 have up:=up4.trans up5
 have I5:Inv X pins σ H2 {s' with heap:=h5'}:=z9D (t':=s'.toks) I2 hex hx hx0 hxp fl5.1 up
 obtain⟨ob,hob,hobc⟩:=fl5.there
 refine wpAny_handleBy_cons (codeAny_handlers_test (z4q (X:=Xm X a) (I5.xm a) hg hm ?_ hd)) (by intro q;cases q)
 have LT:W.Looks (model X.prog X.w) h5' (typeOf (.ref a)) C:=hobc▸(W.Looks.ld hob).andThen .now
 refine(W.exm_one I5.kIn LT hE.1).here ?_
 refine codeAny_handlers_suite_as ?_
 refine lands_againW fl5 fun h6' fl6 up6=> ?_
 have I6:Inv X pins σ H2 {s' with heap:=h6'}:=z9D (t':=s'.toks) I2 hex hx hx0 hxp fl6.1 (up.trans up6)
 obtain⟨oe6,vs6,hoe6,hoec6,hoed6,_⟩:=fl6.first
 have I7:Inv X pins σ (upd H2 a (z6L oe6)) {s' with heap:=h6'}:=I6.track F.he (hx0 a (by simp)) aL aC (fun p hp z=>hxp p hp (by rw[z];simp)) ⟨hoe6,trivial,⟨_,hoe6⟩,fun _ _ _ _=>trivial⟩
 refine z4h (X:=Xm X a) (I7.xm a) hN hi (.inl hloc) (v:= .ref a) rfl (fun s8 I8=> ?_) (.inr hloc)
 refine wpAny_mono (hb a pins s8 _ _ _ I8 (hE.2 a oe6 F.he (by cases q:X.K.lookup a with|none=>rfl|some u=>have z:=I.kIn _ _ q;rw[F.se] at z;cases z) hoec6 ⟨_,hoed6⟩)) (fun fl s9 hq=> ?_) fun _ _ z=>z.elim
 have hkn:X.env.kindOf n=some .local:=hloc
 cases fl with
 |ret u=>
  obtain⟨v,σ',H',I9,r,q⟩:=hq
  have J:=I9.unxm I.ok
  obtain⟨m,hn,_⟩:=id J.loc
  refine wpAny_nameGoes hkn hn (by rw[I.ok.kind];rfl) fun h10 m' hn' hs=> ?_
  exact⟨v,_,H',J.forget (t':=s9.toks+1) hn' hs,r,q⟩
 |next=>obtain⟨_,_,_,q⟩:=hq;exact q.elim
 |brk=>obtain⟨_,_,_,q⟩:=hq;exact q.elim
 |cont=>obtain⟨_,_,_,q⟩:=hq;exact q.elim
end
end L2
namespace L2
open PySem PySem.Spec PySem.Calls PyProof.Rows Builtin Builtin.ObjectAttr Builtin.Getset_descriptor
section
variable{prog:Program}{w:World}{A:Around}{E:Value->Shared->Prop}{h:Heap}{g:Array GenState}{d:Drawn}{t:Nat}{os:OsState}{a C:Addr}{K:W.Frag}
theorem zfB{R:Result->Shared->Prop}{tp:Value}(X:K.In h)(L0:W.Looks (model prog w) h (typeOf (.ref a)) (.ref C))(hm:W.mroIn K C (.type "object")=some true)(hq:R (.ok (.ret (.ref C))) ⟨h,g,d,t,os⟩):
 codeAny (model prog w) A (.call (.builtin "getset_descriptor.__get__") ⟨[.builtin "object.__class__", .ref a,tp],[]⟩) R ⟨h,g,d,t,os⟩:=by
 have L1:=W.looks_mroIn (M:=model prog w) X hm
 refine codeAny_call_builtin W.KF.slot_gs.plain W.KF.entry_gs (W.KF.slot_gs.check _ _ _ _ _ _ _ _ W.KF.type_class (W.KF.args_gs _ _ _) ?_)
 unfold Builtin.«getset_descriptor.__get__» descrGet
 rw[W.dga_obj]
 refine wpAny_bind (wpAny_pure ?_)
 unfold descrGetter descrCheckInstance descrNameAndClass isInstance
 simp only[W.KF.owner_class]
 repeat lk
 refine⟨Code.quiet_builtin _ (by decide+kernel),codeAny_builtin W.KF.entry_class ?_⟩
 unfold Builtin.«object.__class__» shownTypeOf
 repeat lk
 exact hq
theorem zbi{tk:Tok}{Q:Fin->Shared->Prop}(X:K.In h)(L0:W.Looks (model prog w) h (typeOf (.ref a)) (.ref C))(hm:W.mroIn K C (.type "object")=some true)(f3:W.findIn K (.ref C) "__class__" =some (some (.builtin "object.__class__")))(hq:Q (.done (.ret (.ref C))) ⟨h,g,d,t,os⟩):
 wpAny (model prog w) A (Builtin.«object.__getattribute__» ⟨[.ref a, .str "__class__" tk],[]⟩) Q E ⟨h,g,d,t,os⟩:=by
 have L3:=W.looks_findIn (M:=model prog w) X f3
 have hT5:(⟨h,g,d,t,os⟩:Shared).TypeIs (.builtin "object.__class__") "getset_descriptor" :=F.typeOf_object_class
 have f5:=F.typeOf_object_class
 have f6:=F.slot_gs_get.lookup
 have f7:=F.slot_gs_set.lookup
 repeat (any_goals (first|assumption|with_reducible refine L0.at ?_|with_reducible refine L3.at ?_|wp_step))
 refine zfB X L0 hm ?_
 repeat (any_goals (first|assumption|wp_step))
theorem zbj{M:Model}{nameV:Value}{Q:Unit->Shared->Prop}(X:K.In h)(L0:W.Looks M h (typeOf (.ref a)) (.ref C))(hm:W.mroIn K C (.type "BaseException")=some true)(hq:Q () ⟨h,g,d,t,os⟩):
 wpAny M A (checkBuiltinCall "BaseException.__getattribute__" ⟨[.ref a,nameV],[]⟩) Q E ⟨h,g,d,t,os⟩:=by
 have hk:builtinKind "BaseException.__getattribute__" =some .slot:=by decide+kernel
 have hsplit:splitId "BaseException.__getattribute__" =some ("BaseException", "__getattribute__"):=by decide+kernel
 have ha:=F.args_bexc_ga (.ref a) nameV
 have L1:=W.looks_mroIn (M:=M) X hm
 simp only[checkBuiltinCall,hk,hsplit]
 refine wpAny_bind ?_
 ·unfold isInstance
  repeat (first|with_reducible refine L0.at ?_|with_reducible refine L1.at ?_|wp_step)
  exact hq
theorem zdA{tk:Tok}{R:Result->Shared->Prop}(X:K.In h)(L0:W.Looks (model prog w) h (typeOf (.ref a)) (.ref C))(hm:W.mroIn K C (.type "object")=some true)(hb:W.mroIn K C (.type "BaseException")=some true)(f3:W.findIn K (.ref C) "__class__" =some (some (.builtin "object.__class__")))(hq:R (.ok (.ret (.ref C))) ⟨h,g,d,t,os⟩):
 codeAny (model prog w) A (.call (.builtin "BaseException.__getattribute__") ⟨[.ref a, .str "__class__" tk],[]⟩) R ⟨h,g,d,t,os⟩:=
 codeAny_call_builtin F.excAttr_ValueError.ga.plain F.entry_bexc_ga (zbj X L0 hb (zbi X L0 hm f3 hq))
theorem zhW{tk:Tok}{fill expr:Bool}{Q:Value->Shared->Prop}(X:K.In h)(L0:W.Looks (model prog w) h (typeOf (.ref a)) (.ref C))(hm:W.mroIn K C (.type "object")=some true)(hb:W.mroIn K C (.type "BaseException")=some true)(f1:W.findIn K (.ref C) "__getattribute__" =some (some (.builtin "BaseException.__getattribute__")))(f2:W.findIn K (.ref C) "__getattr__" =some none)(f3:W.findIn K (.ref C) "__class__" =some (some (.builtin "object.__class__")))(hq:Q (.ref C) ⟨h,g,d,t,os⟩):
 wpAny (model prog w) A (getAttrBy (.ref a) (.str "__class__" tk) fill expr) Q E ⟨h,g,d,t,os⟩:=by
 have L1:=W.looks_findIn (M:=model prog w) X f1
 have L2:=W.looks_findIn (M:=model prog w) X f2
 have f3':=F.excAttr_ValueError.ga.bind (.ref a)
 have hx0:(expr&&onTheHeap (Value.builtin "BaseException.__getattribute__"))=false:=by cases expr<;>rfl
 have hx2:(Value.builtin "BaseException.__getattribute__" ==Value.builtin "object.__getattribute__")=false:=by decide+kernel
 have hx1:(onTheHeap (Value.ref C)&&Value.builtin "BaseException.__getattribute__" ==Value.builtin "object.__getattribute__")=false:=by rw[hx2];rfl
 repeat (any_goals (first|assumption|with_reducible refine L0.at ?_|with_reducible refine L1.at ?_|with_reducible refine L2.at ?_|wp_step))
 refine zdA X L0 hm hb f3 ?_
 repeat (any_goals (first|assumption|wp_step))
theorem zdB{Q:Option Value->Shared->Prop}(X:K.In h)(L0:W.Looks (model prog w) h (typeOf (.ref a)) (.ref C))(hm:W.mroIn K C (.type "object")=some true)(hb:W.mroIn K C (.type "BaseException")=some true)(f1:W.findIn K (.ref C) "__getattribute__" =some (some (.builtin "BaseException.__getattribute__")))(f2:W.findIn K (.ref C) "__getattr__" =some none)(f3:W.findIn K (.ref C) "__class__" =some (some (.builtin "object.__class__")))(hq:Q (some (.ref C)) ⟨h,g,d,t+1,os⟩):
 wpAny (model prog w) A (getAttr? (.ref a) "__class__") Q E ⟨h,g,d,t,os⟩:=by
 unfold getAttr? getAttrBy?
 repeat (any_goals (first|assumption|with_reducible apply zhW X L0 hm hb f1 f2 f3|wp_step))
end
structure XCls(K:W.Frag)(C:Addr):Prop where
 ob:W.mroIn K C (.type "object")=some true
 ba:W.mroIn K C (.type "BaseException")=some true
 f1:W.findIn K (.ref C) "__getattribute__" =some (some (.builtin "BaseException.__getattribute__"))
 f2:W.findIn K (.ref C) "__getattr__" =some none
 f3:W.findIn K (.ref C) "__class__" =some (some (.builtin "object.__class__"))
theorem z84{K:W.Frag}{a C:Addr}(Z:XCls K C):W.KitX K (.ref a) (.ref C) (fun h=> ∃o,h.get? a=some o/\o.cls= .ref C) where
 ty:=fun M h _ ⟨o,e,c⟩=>c▸(W.Looks.ld e).andThen .now
 it:=fun M h X _=>by
  obtain⟨cd,hc,_⟩:=Option.bind_eq_some_iff.mp Z.ob
  unfold W.clsIn at hc
  split at hc
  ·rename_i c' d' cd' sl' ho
   intro A' Q' E' s' k q
   unfold isType loadHead
   exact wpAny_bind (wpAny_loadPart (k _ _ (X _ _ ho)) (wpAny_pure q))
  ·cases hc
 ne:=fun h tp dd its n sl X htp=>by
  obtain⟨cd,hc,_⟩:=Option.bind_eq_some_iff.mp Z.ob
  refine Bool.eq_false_iff.mpr fun q=> ?_
  have e:C=tp:=Value.ref.inj (beq_iff_eq.mp q)
  subst e
  unfold W.clsIn at hc
  split at hc
  ·rename_i c' d' cd' sl' ho
   have z:=(X _ _ ho).symm.trans htp
   cases z
  ·cases hc
 ca:=fun{prog w A E Q s} X ⟨o,e,c⟩ k=>by
  obtain⟨hh,g,d,t,os⟩:=s
  exact zdB X (c▸(W.Looks.ld e).andThen .now) Z.ob Z.ba Z.f1 Z.f2 Z.f3 k
end L2
namespace L2
open PySem PySem.Spec PySem.Calls PyProof.Rows
noncomputable def cvV:V->Value
 | .ref a=> .ref a| .ty n=> .type n|_=> .none
noncomputable def clsV:V->Bool
 | .ref _=>true| .ty _=>true|_=>false
theorem z5M: ∀{cs:List V} {us:List Value},(∀c∈cs,clsV c=true)->Vals cs us->us=cs.map cvV
 |[],_,_, .nil=>rfl
 |c::cs,_,h, .cons r rs=>by
  rw[List.map_cons,<-z5M (fun x hx=>h x (List.mem_cons_of_mem _ hx)) rs]
  have hc:=h c (List.mem_cons_self ..)
  cases c<;>first|(cases hc;done)|(have r:_=_:=r;rw[r];rfl)
noncomputable def clO(p:Addr)(us:List Value):HO:= .ext fun h=>h.get? p=some {cls:= .type "tuple",data:= .seq us.toArray}
section
variable{X:Cx}{pos:Pos}
noncomputable def tCls(us:List Value):TE:=fun _ H Q=> ∀p,H p=none->Q (.ref p) (upd H p (clO p us))
theorem z5N{es:List Expr}{k}{cs:List V}{t:TA}(h:PA X es t)(ht: ∀σ H Q,Q cs H->t σ H Q)(hca:cs.all clsV=true)(hl:Nat.ble cs.length 40=true):PE X (.Tuple es k pos) (tCls (cs.map cvV)):=by
 have hc: ∀c∈cs,clsV c=true:=List.all_eq_true.mp hca
 have hl:cs.length<=40:=Nat.le_of_ble_eq_true hl
 intro pins s σ H Q I hq
 refine wpAny_Tuple_spliced (thn (h pos pins s σ H (fun vs H1=>vs=cs/\H1=H) I (ht _ _ _ ⟨rfl,rfl⟩)) fun us s1 ⟨xs,H1,I1,r,e1,e2⟩=>⟨?_, ?_⟩)
 ·rw[<-r.length,e1,sizeLine_eq];lia
 ·subst e1 e2
  have hu:=z5M hc r
  subst hu
  have hf:H1 s1.heap.objs.size=none:=I1.hok.fresh (Nat.le_refl _)
  refine⟨.ref s1.heap.objs.size,upd H1 s1.heap.objs.size (clO s1.heap.objs.size (xs.map cvV)),I1.laid (t':=s1.toks) (fun b u e=>Heap.get?_push_of_some _ e) (Nat.le_refl _) ?_,rfl,hq _ hf⟩
  exact⟨Heap.get?_push_size _ rfl,⟨_,Heap.get?_push_size _ rfl⟩,fun h1 h2 q k=>k _ q⟩
noncomputable def zhX(K:W.Frag)(c:V):List V->Hp->VK->Prop:=fun xs H Q=> ∃a o C b,xs=[.ref a,c]/\H a=some (z6L o)/\o.cls= .ref C/\XCls K C/\W.kitOne K (.ref C) (cvV c)=some b/\Q (.bl b) H
theorem z9E{c:V}(hc:clsV c=true):CallR X (.builtin "isinstance") (zhX X.K c):=by
 intro pins s σ H xs us Q I r ⟨a,o,C,b,e,hx,ho,Z,hk,q⟩
 subst e
 cases r with
 |cons r1 r2=>
  cases r2 with
  |cons r2 r3=>
   cases r3
   have e1:_=Value.ref a:=r1
   subst e1
   have e2:=z5M (cs:=[c]) (fun x hx=>by cases hx with|head=>exact hc|tail _ h=>cases h) (.cons r2 .nil)
   cases e2
   have hob:s.heap.get? a=some o:=(I.hok a _ hx).1
   exact W.kia_one (z84 Z) I.kIn ⟨o,hob,ho⟩ hk (by intro z;cases z) fun tk=>⟨.bl b,H,I.tok tk,rfl,q⟩
noncomputable def zhY(K:W.Frag)(us:List Value):List V->Hp->VK->Prop:=fun xs H Q=> ∃a o C p b,xs=[.ref a, .ref p]/\H a=some (z6L o)/\o.cls= .ref C/\XCls K C/\H p=some (clO p us)/\W.kitAny K (.ref C) us=some b/\Q (.bl b) H
theorem z9F{us:List Value}:CallR X (.builtin "isinstance") (zhY X.K us):=by
 intro pins s σ H xs vs Q I r ⟨a,o,C,p,b,e,hx,ho,Z,hp,hk,q⟩
 subst e
 cases r with
 |cons r1 r2=>
  cases r2 with
  |cons r2 r3=>
   cases r3
   have e1:_=Value.ref a:=r1
   subst e1
   have e2:_=Value.ref p:=r2
   subst e2
   have hob:s.heap.get? a=some o:=(I.hok a _ hx).1
   have htp:s.heap.get? p=some {cls:= .type "tuple",data:= .seq us.toArray}:=(I.hok p _ hp).1
   exact W.kia_tup (z84 Z) I.kIn ⟨o,hob,ho⟩ htp hk (by intro z;cases z) fun tk=>⟨.bl b,H,I.tok tk,rfl,q⟩
end
end L2
namespace L2
open PySem PySem.Spec PySem.SeqAt PySem.Calls PyProof.Rows
end L2
namespace L2
open PySem PySem.Spec PySem.Calls PyProof.Rows
structure zhZ(k:Nat)(A:Around):Prop where
 dp:A.depth+3*k+5<recursionLimit
 un:A.units+16*k+200<cLine
 gd:A.guards=some []
structure FnOkH(P:Program)(w:World)(K:W.Frag)(mg:Str->Option Value)(base:Heap)(CX:CXT)(k:Nat)(f:Addr)(fd:FuncData)(ps:List Str)(sp:Sp):Prop where
 len: ∀vs H Q E,sp vs H Q E->vs.length=ps.length
 run: ∀(A:Around) (outer:List Env) (s:Shared) (H:Hp) (args:Args) (us:List Value) (vs:List V) (Q:VK) (E:XK),zhZ k A->Env0 P w K mg base A outer s H->BindsTo s fd args (ps.zip us)->Vals vs us->sp vs H Q E->
  codeAny (model P w) A (.call (.ref f) args) (CR CX outer P w H s Q E) s
end L2
namespace L2
open PySem PySem.Spec PyProof.Rows
end L2
namespace Mi
open PySem L2 PySem.Spec
open PyProof.Rows (envOfC)
structure XP(X:Cx)(G:Gx)(F:Fy)(E:L2.St->XK):Prop where
 ps:zfx X E
 xw: ∀c s',F.xw (.exc c) s'->∀ρ σv tv H C,F.tv0<:+tv->MR G F.toFx ρ H σv tv s'->G.cl c=some C->E σv (.ref C) none H
 no: ∀d s',F.xw d s'->∃c,d= .exc c
noncomputable def z45(c:Str):MS:=fun s=> .ex (.exc c) s
section
variable{X:Cx}{G:Gx}{F:Fy}{E:L2.St->XK}{C:Addr}{x y:Str}{np cpos pos p:Pos}{j:Nat}
theorem ss_raise(hh:X.A.handled=none)(hx:XP X G F E)(hr:z4E X E)(hcl:G.cl x=some C)(hg:Gl X x)(hm:X.mg x=some (.ref C))(hq:W.excIn X.K C bmV "ValueError.__new__" =true)(hd:(x==("__debug__" :Str))=false:=by decide):
 SS X G F (.Raise (some (.Call (.Name x np) [.Constant (.str y) j p] [] cpos)) none pos) (z45 x):=
 PS.imp0 (zbe hh hr hg hm hq hd) fun D σ H ⟨tv,hs,ρ,s,M,W⟩=>hx.xw x s W ρ σ tv H C hs M hcl
end
open Classical in
noncomputable def z2G(r:RF)(ts:List D):M D:=fun s=>match r with
 | .ok t ts' n'=>if ts'=ts then .ok t {s with n:=n'} else
  if ∀l∈z0Q s,l∈labsL ts->(findL l ts').isSome=true then .ok t {σ:=rpO (fun l=>findL l ts') s.σ,tm:=rpO (fun l=>findL l ts') s.tm,n:=n'} else .no
 | .ex d ts' n'=>if ts'=ts then .ex d {s with n:=n'} else
  if ∀l∈z0Q s,l∈labsL ts->(findL l ts').isSome=true then .ex d {σ:=rpO (fun l=>findL l ts') s.σ,tm:=rpO (fun l=>findL l ts') s.tm,n:=n'} else .no
 | .no=> .no
noncomputable def z1m(f:FM)(ms:List (M D)):M D:=bd (mArgs ms) fun ts s=>z2G (f ts s.n) ts s
noncomputable def spX(G:Gx)(np:Nat)(f:FM):Sp:=fun vs H Q E=>vs.length=np/\∃ρ n ts,RDs G ρ H ts vs/\(∀i j,i<n->j<n->ρ i=ρ j->i=j)/\(∀l,l<n->∃o,H (ρ l)=some o)/\(∀l∈labsL ts,l<n)/\KD G.K H/\match f ts n with
 | .ok t ts' n'=> ∀ρ' v H',z5J G ρ n ts vs H ρ' n' ts' H'->RD G ρ' H' t v->(∀l∈labs t,l<n'/\(l<n->l∈labsL ts))->Q v H'
 | .ex d ts' n'=> ∃c,d= .exc c/\∀ρ' H' C,z5J G ρ n ts vs H ρ' n' ts' H'->G.cl c=some C->E (.ref C) none H'
 | .no=>False
section
variable{X:Cx}{G:Gx}{F:Fy}{E:L2.St->XK}{ρ:Nat->Addr}{H:Hp}{σv tv:List (Option V)}{s:Stt}{np:Nat}
theorem z5n{ts:List D}{vs:List V}{f:FM}{Q:VK}(hx:XP X G F E)(hs:F.tv0<:+tv)(hl:vs.length=np)(M:MRL G F.toFx ρ H σv tv s ts vs)(W:wM G F σv tv (z2G (f ts s.n) ts s) Q):spX G np f vs H Q (E σv):=by
 refine⟨hl,ρ,s.n,ts,M.rd,M.m.inj,M.m.dom,fun l h=>(M.lb l h).1,M.m.kd, ?_⟩
 cases e:f ts s.n with
 |no=>rw[e] at W;exact W
 |ex d ts' n'=>
  rw[e] at W
  unfold z2G at W
  dsimp only at W
  split at W
  ·rename_i et
   subst et
   obtain⟨c,rfl⟩:=hx.no _ _ W
   exact⟨c,rfl,fun ρ' H' C P hc=>hx.xw c _ W ρ' σv tv H' C hs (M.m.call0 M.rd M.lb P) hc⟩
  ·split at W
   ·rename_i hc
    obtain⟨c,rfl⟩:=hx.no _ _ W
    exact⟨c,rfl,fun ρ' H' C P hcl=>hx.xw c _ W ρ' σv tv H' C hs (M.m.call M.rd M.lb P hc) hcl⟩
   ·exact False.elim W
 |ok t ts' n'=>
  rw[e] at W
  intro ρ' v H' P rd lbt
  have own: ∀l∈labs t,F.A0 (ρ' l)\/F.H0 (ρ' l)=none:=fun l h=>by
   obtain⟨b1,b2⟩:=lbt l h
   by_cases hn:l<s.n
   ·rw[P.old l hn];exact(M.lb l (b2 hn)).2
   ·exact .inr (M.m.fresh0 (P.new l (Nat.not_lt.mp hn) b1))
  unfold z2G at W
  dsimp only at W
  split at W
  ·rename_i et
   subst et
   exact W.out (M.m.call0 M.rd M.lb P) rd fun l h=>⟨(lbt l h).1,own l h⟩
  ·split at W
   ·rename_i hc
    exact W.out (M.m.call M.rd M.lb P hc) rd fun l h=>⟨(lbt l h).1,own l h⟩
   ·exact False.elim W
theorem se_callX{e:Expr}{es:List Expr}{pos p:Pos}{k:Nat}{fa:Addr}{fd:FuncData}{ps:List Str}{x:Str}{f:FM}{ms:List (M D)}(hx:XP X G F E)(Fn:FnOk X.prog X.w X.K X.mg X.base (CX1 X.prog X.w) k fa fd ps (spX G ps.length f))(hr:Room k X.A)(hg:Gl X x)(hm:X.mg x=some (.ref fa))(hkp:W.keepIn X.K (.ref fa)=true)(hb:z3H X.K fd ps [])
 (ha:SA X G F (e::es) (mArgs ms)) (hln:ms.length=ps.length) (hdb:(x==("__debug__" :Str))=false:=by decide) (he:starEach (e::es) X.env=(false,eval e X.env)::starEach es X.env:=by rfl) (hpl:(backTo pos (starEach es X.env)).any (·.1)=false:=by rfl):
 SE X G F (.Call (.Name x p) (e::es) [] pos) (z1m f ms):=by
 refine PE.imp0 (zbf Fn hr hg hm hkp hb hx.ps ha hdb he hpl) fun σ H Q ⟨tv,hs,ρ,s,M,W⟩=>⟨tv,hs,ρ,s,M, ?_⟩
 unfold z1m bd at W
 cases e1:mArgs ms s with
 |ex d s1=>rw[e1] at W;exact W
 |no=>rw[e1] at W;exact W
 |ok ts s1=>
  rw[e1] at W
  intro ρ1 vs H1 M1
  exact z5n hx hs (by rw[<-M1.rd.length,z4B ms s ts s1 e1,hln]) M1 W
end
noncomputable def z2L(k:Nat)(tm:List (Option D)):List (Option D):=tm.drop (tm.length -k)
noncomputable def runX(nl:Nat)(mb:MS):FM:=fun ts n=>match mb {σ:=ts.map some++List.replicate (nl -ts.length) none,tm:=ts.map some,n:=n} with
 | .nx s'=>match z0a s'.tm with|some ts'=> .ok .non ts' s'.n|none=> .no
 | .rt t s'=>match z0a s'.tm with|some ts'=> .ok t ts' s'.n|none=> .no
 | .ex d s'=>match z0a (z2L ts.length s'.tm) with|some ts'=> .ex d ts' s'.n|none=> .no
 |_=> .no
noncomputable def zfC(G:Gx)(ρ:Nat->Addr)(n:Nat)(ts:List D)(vs:List V)(H:Hp)(lb: ∀l∈labsL ts,l<n)(dom: ∀l,l<n->∃o,H (ρ l)=some o)(E:XK):Fy:=
 {(z8z G ρ n ts vs H lb dom) with xw:=fun d s'=> ∃c ts',d= .exc c/\z0a (z2L ts.length s'.tm)=some ts'/\∀ρ' H' C,z5J G ρ n ts vs H ρ' s'.n ts' H'->G.cl c=some C->E (.ref C) none H'}
theorem MR.last{G:Gx}{F:Fx}{ρ:Nat->Addr}{H:Hp}{σv tv t0:List (Option V)}{s:Stt}(M:MR G F ρ H σv tv s)(h:t0<:+tv):MR G F ρ H σv t0 {s with tm:=z2L t0.length s.tm}:=by
 obtain⟨t1,rfl⟩:=h
 have hl:=M.tm.length
 have e:z2L t0.length s.tm=s.tm.drop t1.length:=by
  unfold z2L
  rw[hl,List.length_append]
  congr 1
  lia
 have sub: ∀l∈z07 (s.tm.drop t1.length),l∈z07 s.tm:=fun l hm=>by
  rw[<-List.take_append_drop t1.length s.tm,z0f]
  exact List.mem_append_right _ hm
 rw[e]
 refine⟨M.sl,(Sl.split t1 M.tm).2,M.inj,M.dom,fun l h=>M.lab l ?_,fun l h=>M.own l ?_,M.frm,M.kd,M.frb,M.bas⟩
 ·rcases List.mem_append.mp h with h|h
  ·exact List.mem_append_left _ h
  ·exact List.mem_append_right _ (sub l h)
 ·rcases List.mem_append.mp h with h|h
  ·exact List.mem_append_left _ h
  ·exact List.mem_append_right _ (sub l h)
theorem fn_X{G:Gx}{P:Program}{w:World}{K:W.Frag}{mg:Str->Option Value}{base:Heap}{x qual:Str}{st:Stmt}{fa:Addr}{fd:FuncData}{N ps:List Str}{k:Nat}{mb:MS}(Fn:Fun K x qual st fa fd)(S:z06 N ps (z01 st))(hG:G.K=K)
 (hb: ∀(cdv:Value) (A:Around) (outer:List Env) (s:Shared) (H:Hp) (E:XK) (F:Fy),Room k (A.deeper (envOfC qual (z01 st) s.heap.objs.size fa cdv))->XP (cxOf (CX1 P w) P w K mg base N qual (z01 st) fa cdv A outer s H E) G F (fun _=>E)->z4E (cxOf (CX1 P w) P w K mg base N qual (z01 st) fa cdv A outer s H E) (fun _=>E)->SSs (cxOf (CX1 P w) P w K mg base N qual (z01 st) fa cdv A outer s H E) G F (z0R st) mb):
 FnOk P w K mg base (CX1 P w) (k+1) fa fd ps (spX G ps.length (runX N.length mb)):=by
 obtain⟨oc,od,kV,doc,pm,an,cdv,ct,osl,rfl,lk,hcd⟩:=Fn.ex
 refine zeP lk hcd S (fun vs H Q E h=>h.1) fun A outer s H vs Q E hr h=> ?_
 obtain⟨hl,ρ,n,ts,r,inj,dom,lb,kd,W⟩:=h
 have hlen:=r.length
 have hX:XP (cxOf (CX1 P w) P w K mg base N qual (z01 st) fa cdv A outer s H E) G (zfC G ρ n ts vs H lb dom E) (fun _=>E):=by
  refine⟨fun pins σ H1 s1 e s2 I h=>z7n pins σ H1 s1 e s2 I h,fun c s' ⟨c',ts',e1,e2,q⟩ ρ' σv tv H' C hs M hc=> ?_,fun d s' ⟨c,ts',e1,_⟩=>⟨c,e1⟩⟩
  cases e1
  have M2:MR G (z8z G ρ n ts vs H lb dom).toFx ρ' H' σv (vs.map some) {s' with tm:=z2L ts.length s'.tm}:=by
   have:=MR.last (t0:=vs.map some) M hs
   rw[List.length_map,<-hlen] at this
   exact this
  obtain⟨P,_⟩:=z3w inj M2 e2
  exact q ρ' H' C P hc
 have hR:z4E (cxOf (CX1 P w) P w K mg base N qual (z01 st) fa cdv A outer s H E) (fun _=>E):=fun pins σ H1 s1 h' e C args I hm hE=>zfv I hm hE
 refine⟨_,hb cdv A outer s H E (zfC G ρ n ts vs H lb dom E) hr hX hR,vs.map some,List.suffix_refl _,ρ,{σ:=ts.map some++List.replicate (N.length -ts.length) none,tm:=ts.map some,n:=n}, ?_, ?_⟩
 ·obtain⟨r1,r2⟩:=RDs.sl r
  have sub: ∀l∈z0Q {σ:=ts.map some++List.replicate (N.length -ts.length) none,tm:=ts.map some,n:=n},l∈labsL ts:=fun l h=>by
   rcases List.mem_append.mp h with h|h
   ·have h:l∈z07 (ts.map some++List.replicate (N.length -ts.length) none):=h
    rw[z0f] at h
    rcases List.mem_append.mp h with h|h
    ·rw[<-r2];exact h
    ·exact absurd h (z3v _)
   ·rw[<-r2];exact h
  refine⟨?_,r1,inj,dom,fun l h=>lb l (sub l h),fun l h=> .inl ⟨l,sub l h,rfl⟩,fun a o e=>⟨⟨o,e⟩,fun _=>e⟩,kd,fun l hl z=>z.2 l hl rfl,⟨Nat.le_refl _,fun l _=>rfl⟩⟩
  show Sl G ρ H _ (vs.map some++List.replicate (N.length -vs.length) none)
  rw[<-hlen]
  exact r1.append (Sl.none_map _)
 ·unfold runX at W
  cases e:mb {σ:=ts.map some++List.replicate (N.length -ts.length) none,tm:=ts.map some,n:=n} with
  |nx s'=>
   simp only[e] at W
   cases ea:z0a s'.tm with
   |none=>simp only[ea] at W
   |some ts'=>
    simp only[ea] at W
    intro ρ' σv' H' M
    obtain⟨P,_⟩:=z3w (lb:=lb) (dom:=dom) inj M ea
    exact W ρ' .non H' P (by simp only[RD]) fun l h=>by simp[labs] at h
  |rt t s'=>
   simp only[e] at W
   cases ea:z0a s'.tm with
   |none=>simp only[ea] at W
   |some ts'=>
    simp only[ea] at W
    intro ρ' σv' v H' M
    obtain⟨P,own⟩:=z3w (lb:=lb) (dom:=dom) inj M.m ea
    exact W ρ' v H' P M.rd1 fun l h=>⟨(M.lb1 l h).1,own l (M.lb1 l h).1 (M.lb1 l h).2⟩
  |bk s'=>simp only[e] at W
  |ct s'=>simp only[e] at W
  |ex d s'=>
   simp only[e] at W
   cases ea:z0a (z2L ts.length s'.tm) with
   |none=>simp only[ea] at W
   |some ts'=>
    simp only[ea] at W
    obtain⟨c,e1,q⟩:=W
    exact⟨c,ts',e1,ea,q⟩
  |no=>simp only[e] at W
noncomputable def sTry(k:Str->Bool)(ie:Nat)(mb mh:MS):MS:=fun s=>match mb s with
 | .ex (.exc c) s'=>if k c then(match mh {σ:=s'.σ.set ie (some (.exc c)),tm:=z2L s.tm.length s'.tm,n:=s'.n} with
  | .rt d s''=> .rt d s''
  |_=> .no) else .no
 | .ex _ _=> .no
 |r=>r
noncomputable def tryF(G:Gx)(F:Fy)(k:Str->Bool)(ie:Nat)(mh:MS)(tv:List (Option V))(D:Ends):Fy:=
 {F with tv0:=tv,xw:=fun d s'=> ∃c,d= .exc c/\k c=true/\wS G F tv (match mh {σ:=s'.σ.set ie (some (.exc c)),tm:=z2L tv.length s'.tm,n:=s'.n} with| .rt d s''=> .rt d s''|_=> .no) D}
section
variable{X:Cx}{G:Gx}{F:Fy}{np hpos pos:Pos}{b₀:Stmt}{suite body:List Stmt}{x n:Str}{ie:Nat}{CB:Addr}{mb mh:MS}{k:Str->Bool}
theorem ss_try(hst:X.stack=X.env::X.outer)(hfr:X.env.frame=some X.env.locals)(hex:X.ex=[])(hK:X.K=G.K)(hg:Gl X x)(hm:X.mg x=some (.ref CB))(hN:X.N.Nodup)(hi:X.N[ie]? =some n)(hloc:X.env.scope.names.lookup n=some .local)
 (hk: ∀c C,G.cl c=some C->k c=true->W.exmOne X.K (.ref C) (.ref CB)=some true)
 (hb: ∀(pl:List (Addr×Obj)) (E':Value->Shared->Prop) (F':Fy) (E:L2.St->XK),XP (Xt X pl E') G F' E->SSs (Xt X pl E') G F' body mb) (hh: ∀a,SSs (Xm X a) G F (b₀::suite) mh) (hd:(x==("__debug__" :Str))=false:=by decide):
 SS X G F (.Try body [.ExceptHandler (some (.Name x np)) (some n) (b₀::suite) hpos] [] [] pos) (sTry k ie mb mh):=by
 intro pins s σ H D I ⟨tv,hs,ρ,ms,M,W⟩
 refine wpAny_Try_except ?_
 have hlt:ms.tm.length=tv.length:=M.tm.length
 have hX:XP (Xt X (X.pn++pins) (zbg X [.ExceptHandler (some (.Name x np)) (some n) (b₀::suite) hpos] (SP X pins D))) G (tryF G F k ie mh tv D) (zfA X.K CB ie (tS G F mh) D):=by
  refine⟨fun pins' σ' H' s' e s2 I' h=> ?_,fun c s' ⟨c',e1,hkc,q⟩ ρ' σv tv' H' C hs' M' hc=> ?_,fun d s' ⟨c,e1,_⟩=>⟨c,e1⟩⟩
  ·exact zbh hst hfr hex hg hm hN hi hloc hh hd I'.unxt h
  ·cases e1
   refine⟨hk c C hc hkc,fun a o hn hKn ho hf=>⟨tv,hs,ρ',{σ:=s'.σ.set ie (some (.exc c)),tm:=z2L tv.length s'.tm,n:=s'.n}, ?_, ?_⟩⟩
   ·have M1:MR G F.toFx ρ' H' σv tv {s' with tm:=z2L tv.length s'.tm}:=MR.last (t0:=tv) M' hs'
    have kd:KD G.K (upd H' a (z6L o)):=fun b ob q=>by
     by_cases hb:b=a
     ·subst hb;rw[<-hK,hKn] at q;cases q
     ·rw[z0c hb];exact M1.kd b ob q
    have M2:=M1.same (Same.new (z6L o) hn) kd
    have rd:RD G ρ' (upd H' a (z6L o)) (.exc c) (.ref a):=by
     simp only[RD]
     exact⟨a,o,C,rfl,hc,ho,hf,z0i⟩
    have M3:=MRL.setS ie (⟨M2,RDs.one rd,fun l hl=>by simp[labsL,labs] at hl⟩:MRL G F.toFx ρ' (upd H' a (z6L o)) σv tv {s' with tm:=z2L tv.length s'.tm} [.exc c] [.ref a])
    exact M3.m
   ·revert q
    cases mh {σ:=s'.σ.set ie (some (.exc c)),tm:=z2L tv.length s'.tm,n:=s'.n} with
    |rt d s''=>exact fun q=>q
    |nx s''=>exact fun q=>q.elim
    |bk s''=>exact fun q=>q.elim
    |ct s''=>exact fun q=>q.elim
    |ex d s''=>exact fun q=>q.elim
    |no=>exact fun q=>q.elim
 have W':wS G (tryF G F k ie mh tv D) tv (mb ms) D:=by
  unfold sTry at W
  cases e:mb ms with
  |nx s'=>rw[e] at W;exact W
  |rt d s'=>rw[e] at W;exact W
  |bk s'=>rw[e] at W;exact W
  |ct s'=>rw[e] at W;exact W
  |no=>rw[e] at W;exact W
  |ex d s'=>
   rw[e] at W
   cases d with
   |exc c=>
    dsimp only at W
    by_cases hkc:k c=true
    ·rw[if_pos hkc,hlt] at W;exact⟨c,rfl,hkc,W⟩
    ·rw[if_neg hkc] at W;exact False.elim W
   |_=>exact False.elim W
 refine wpAny_mono (hb (X.pn++pins) (zbg X [.ExceptHandler (some (.Name x np)) (some n) (b₀::suite) hpos] (SP X pins D)) (tryF G F k ie mh tv D) _ hX [] s σ H D I.xt ⟨tv,List.suffix_refl _,ρ,ms,M,W'⟩) (fun f s1 q=> ?_) fun _ _ z=>z
 cases f with
 |next=>obtain⟨σ',H',I',q⟩:=q;exact wpAny_execs_nil ⟨σ',H',I'.unxt,q⟩
 |brk=>obtain⟨σ',H',I',q⟩:=q;exact⟨σ',H',I'.unxt,q⟩
 |cont=>obtain⟨σ',H',I',q⟩:=q;exact⟨σ',H',I'.unxt,q⟩
 |ret u=>obtain⟨v,σ',H',I',r,q⟩:=q;exact⟨v,σ',H',I'.unxt,r,q⟩
noncomputable def mIsX(tb:Str->Option Bool)(m:M D):M D:=bd m fun d=>match d with
 | .exc c=>(match tb c with|some b=>rt (.bool b)|none=>fl)
 |_=>fl
theorem se_isX1{p:Pos}{x y:Expr}{m:M D}{c:V}{tb:Str->Option Bool}(hK:X.K=G.K)(hc:clsV c=true)(ht: ∀r C b,G.cl r=some C->tb r=some b->XCls X.K C/\W.kitOne X.K (.ref C) (cvV c)=some b)(hgl:Gl X "isinstance")(hm:X.mg "isinstance" =none)(ha:SE X G F x m)(hy:PE X y (tC c))
 (he:starEach [x,y] X.env=(false,eval x X.env)::starEach [y] X.env:=by rfl) (he2:starEach [y] X.env=(false,eval y X.env)::starEach [] X.env:=by rfl) (hpl:(backTo pos (starEach [y] X.env)).any (·.1)=false:=by rfl):SE X G F (.Call (.Name "isinstance" p) [x,y] [] pos) (mIsX tb m):=by
 refine PE.imp hK (z4i (z9E (c:=c) hc) hgl hm PyProof.Rows.Boot.«isinstance» (z0g ha (z0g hy z42 he2) he) (by decide) (by decide) he hpl) fun σ H Q ⟨tv,h⟩=>⟨tv,(z4e h).mono fun v H1 ⟨ρ1,s1,t,M1,W⟩=> ?_⟩
 cases t with
 |exc r=>
  have h1:=M1.rd1
  simp only[RD] at h1
  obtain⟨a,o,C,e,hcl,ho,hf,hH⟩:=h1
  cases e
  cases eb:tb r with
  |none=>simp only[eb] at W;exact False.elim W
  |some b=>
   simp only[eb] at W
   obtain⟨z1,z2⟩:=ht r C b hcl eb
   exact⟨a,o,C,b,rfl,hH,ho,z1,z2,fun _=>W.flat M1.m rfl⟩
 |_=>exact False.elim W
theorem se_isXT{p:Pos}{x y:Expr}{m:M D}{us:List Value}{tb:Str->Option Bool}(hK:X.K=G.K)(ht: ∀r C b,G.cl r=some C->tb r=some b->XCls X.K C/\W.kitAny X.K (.ref C) us=some b)(hgl:Gl X "isinstance")(hm:X.mg "isinstance" =none)(ha:SE X G F x m)(hy:PE X y (tCls us))
 (he:starEach [x,y] X.env=(false,eval x X.env)::starEach [y] X.env:=by rfl) (he2:starEach [y] X.env=(false,eval y X.env)::starEach [] X.env:=by rfl) (hpl:(backTo pos (starEach [y] X.env)).any (·.1)=false:=by rfl):SE X G F (.Call (.Name "isinstance" p) [x,y] [] pos) (mIsX tb m):=by
 refine PE.imp hK (z4i (z9F (us:=us)) hgl hm PyProof.Rows.Boot.«isinstance» (z0g ha (z0g hy z42 he2) he) (by decide) (by decide) he hpl) fun σ H Q ⟨tv,h⟩=>⟨tv,(z4e h).mono fun v H1 ⟨ρ1,s1,t,M1,W⟩=> ?_⟩
 cases t with
 |exc r=>
  have h1:=M1.rd1
  simp only[RD] at h1
  obtain⟨a,o,C,e,hcl,ho,hf,hH⟩:=h1
  cases e
  cases eb:tb r with
  |none=>simp only[eb] at W;exact False.elim W
  |some b=>
   simp only[eb] at W
   obtain⟨z1,z2⟩:=ht r C b hcl eb
   intro q hq
   have sm:=Same.new (clO q us) hq
   exact⟨a,o,C,q,b,rfl,sm _ _ hH,ho,z1,z0i,z2,fun k=>W.flat (M1.m.same sm k) rfl⟩
 |_=>exact False.elim W
end
end Mi
namespace Mi
open PySem L2 PySem.Spec
inductive Al(Φ:Addr->Prop):List (Str×Addr)->Prop
 |nil:Al Φ []
 |cons {c:Str} {a:Addr} {l:List (Str×Addr)}:Φ a->Al Φ l->Al Φ ((c,a)::l)
theorem Al.at{Φ:Addr->Prop}{l:List (Str×Addr)}(h:Al Φ l){c:Str}{a:Addr}(e:l.lookup c=some a):Φ a:=by
 induction h with
 |nil=>cases e
 | @cons c' a' l h _ ih=>
  rw[List.lookup_cons] at e
  cases q:c==c' with
  |true=>rw[q] at e;cases e;exact h
  |false=>rw[q] at e;exact ih e
inductive Al2{β:Type}(Φ:Addr->β->Prop):List (Str×Addr)->List (Str×β)->Prop
 |nil:Al2 Φ [] []
 |cons {c:Str} {a:Addr} {b:β} {l:List (Str×Addr)} {r:List (Str×β)}:Φ a b->Al2 Φ l r->Al2 Φ ((c,a)::l) ((c,b)::r)
 |skip {c:Str} {a:Addr} {l:List (Str×Addr)} {r:List (Str×β)}:r.lookup c=none->Al2 Φ l r->Al2 Φ ((c,a)::l) r
theorem Al2.at{β:Type}{Φ:Addr->β->Prop}{l:List (Str×Addr)}{r:List (Str×β)}(h:Al2 Φ l r): ∀{c:Str} {a:Addr} {b:β},l.lookup c=some a->r.lookup c=some b->Φ a b:=by
 induction h with
 |nil=>intro c a b e;cases e
 | @cons c' a' b' l r h _ ih=>
  intro c a b e e2
  rw[List.lookup_cons] at e e2
  cases q:c==c' with
  |true=>rw[q] at e e2;cases e;cases e2;exact h
  |false=>rw[q] at e e2;exact ih e e2
 | @skip c' a' l r hn _ ih=>
  intro c a b e e2
  rw[List.lookup_cons] at e
  cases q:c==c' with
  |true=>rw[beq_iff_eq] at q;subst q;rw[hn] at e2;cases e2
  |false=>rw[q] at e;exact ih e e2
theorem z3O: ∀{l:List (Str×Addr)} {c:Str} {a:Addr},l.lookup c=some a->a∈l.map (·.2)
 |(c',a')::l,c,a,e=>by
  rw[List.lookup_cons] at e
  cases q:c==c' with
  |true=>rw[q] at e;cases e;exact List.mem_cons_self ..
  |false=>rw[q] at e;exact List.mem_cons_of_mem _ (z3O e)
theorem z5o: ∀{l:List (Str×Addr)},(l.map (·.2)).Nodup->∀{c c':Str} {a:Addr},l.lookup c=some a->l.lookup c'=some a->c=c'
 |(k,v)::l,nd,c,c',a,e,e'=>by
  rw[List.map_cons,List.nodup_cons] at nd
  rw[List.lookup_cons] at e e'
  cases q:c==k with
  |true=>
   rw[q] at e;cases e
   cases q':c'==k with
   |true=>rw[beq_iff_eq] at q q';rw[q,q']
   |false=>rw[q'] at e';exact absurd (z3O e') nd.1
  |false=>
   rw[q] at e
   cases q':c'==k with
   |true=>rw[q'] at e';cases e';exact absurd (z3O e) nd.1
   |false=>rw[q'] at e';exact z5o nd.2 e e'
noncomputable def NSq(K:W.Frag)(a:Addr):Prop:= ∃o,K.lookup a=some o/\∀its n,o.data≠ .seq its n
theorem zdC{K:W.Frag}{C:Addr}{bm:List Value}{i:String}(q:W.excIn K C bm i=true):NSq K C:=by
 unfold W.excIn at q
 split at q
 ·rename_i dd cd sl ho
  exact⟨_,ho,fun its n z=>by cases z⟩
 ·cases q
theorem zc1{K:W.Frag}{x qual:Str}{st:Stmt}{f:Addr}{fd:FuncData}(F:Fun K x qual st f fd):NSq K f:=by
 obtain⟨oc,od,kV,doc,pm,an,cdv,ct,osl,rfl,lk,hcd⟩:=F.ex
 exact⟨_,lk,fun its n z=>by cases z⟩
noncomputable def mkG(K:W.Frag)(l:List (Str×Addr))(nd:(l.map (·.2)).Nodup)(ok:Al (NSq K) l):Gx:=⟨K,fun c=>l.lookup c,fun _ _ _ h h'=>z5o nd h h',fun _ _ h=>ok.at h⟩
noncomputable def mFnv(c:Str):M D:=rt (.fn c)
section
variable{X:Cx}{G:Gx}{F:Fy}{E:L2.St->XK}
theorem se_fnv{e:Expr}{c:Str}{a:Addr}(hK:X.K=G.K)(hc:G.cl c=some a)(h:PE X e (tC (.ref a))):SE X G F e (mFnv c):=by
 refine PE.imp hK h fun σ H Q ⟨tv,hs,ρ,s,M,W⟩ _=>W ρ (.ref a) H ⟨M,RDs.one (by simp only[RD];exact⟨a,rfl,hc⟩),fun l hl=> ?_⟩
 simp[labsL,labs] at hl
structure FnV(X:Cx)(G:Gx)(np:Nat)(a:Addr)(f:FM):Prop where
 ex: ∃k fd ps,ps.length=np/\FnOk X.prog X.w X.K X.mg X.base (CX1 X.prog X.w) k a fd ps (spX G np f)/\Room k X.A/\W.keepIn X.K (.ref a)=true/\z3H X.K fd ps []
end
end Mi
namespace Mi
open PySem L2 PySem.Spec
open PyProof.Rows (envOfC)
end Mi
namespace Mi
open PySem L2 PySem.Spec
noncomputable def z4F:D->Option Key
 | .int i=>some (.inl i)
 | .str x=>some (.inr x)
 |_=>none
noncomputable def isT:List D->Bool
 | .non::_=>false
 |_=>true
section
variable{G:Gx}{ρ:Nat->Addr}{H:Hp}
theorem z85{d:D}{v:V}{k:Key}(h:RD G ρ H d v)(e:z4F d=some k):v=kV k/\d=keyD k:=by
 cases d<;>simp only[z4F] at e<;>cases e<;>(simp only[RD] at h;exact⟨h,rfl⟩)
end
section
variable{X:Cx}{G:Gx}{F:Fy}{a b e:Expr}{ma mb:M D}{pos:Pos}
theorem zdD(hu:X.A.units+64<cLine):OpR X (compareOp .NotIn) (fun y x H Q=> ∃a o,x= .ref a/\DGet H a y o/\Q (.bl (!o.isSome)) H):=by
 intro pins s σ H y x iv u Q I ry rx h
 obtain⟨a,o,rfl,g,q⟩:=h
 obtain rfl:u=Value.ref a:=rx
 exact zd9 (show X.A.units+2<cLine by lia) I g ry fun s3 I3=>⟨.bl (!o.isSome),H,I3,rfl,q⟩
theorem z86: ∀k:List Key,labsL (k.map keyD)=[]
 |[]=>rfl
 |k::ks=>by simp only[List.map_cons,labsL,z86 ks];cases k<;>rfl
end
end Mi
namespace Mi
open PySem L2
end Mi
namespace PySem
end PySem
namespace L2
open PySem PySem.Spec PyProof.Rows
end L2
namespace Mi
open PySem L2 PySem.Spec
section
variable{G:Gx}{ρ:Nat->Addr}{H:Hp}
noncomputable def rdP:D->Option (List D×List D)
 | .dct _ (.non::ks) vs=>some (ks,vs)
 |_=>none
theorem RD.rdp{t:D}{ks vs:List D}{v:V}(h:RD G ρ H t v)(e:rdP t=some (ks,vs)): ∃a kvs,v= .ref a/\Rd H a (.dK kvs)/\ks=kvs.map (fun p:Key×V=>keyD p.1)/\RDs G ρ H vs (kvs.map (·.2))/\∀l∈labsL vs,l∈labs t:=by
 unfold rdP at e
 split at e
 ·rename_i l ks' vs'
  cases e
  simp only[RD] at h
  obtain⟨e,⟨kvs,s,s2,r⟩|⟨kvs,s,s2,r⟩⟩:=h
  ·cases s2
   exact⟨ρ l,kvs,e, .inl s,rfl,r,fun j hj=>by simp only[labs];exact List.mem_cons_of_mem _ (List.mem_append_right _ hj)⟩
  ·cases kvs with
   |nil=>cases s2
   |cons p q=>cases s2
 ·cases e
theorem z6M(k:Key):z4F (keyD k)=some k:=by cases k<;>rfl
noncomputable def z31:List D->List D->Key->Option D
 |d::ks,v::vs,k=>if z4F d=some k then some v else z31 ks vs k
 |_,_,_=>none
theorem z3P{k:Key}: ∀(kvs:List (Key×V)) (vs:List D) (t:D),RDs G ρ H vs (kvs.map (·.2))->z31 (kvs.map fun p=>keyD p.1) vs k=some t->∃v,valV kvs k=some v/\RD G ρ H t v/\t∈vs
 |[],_,_,_,e=>by simp only[List.map_nil,z31] at e;cases e
 |p::kvs,[],_,_,e=>by simp only[List.map_cons,z31] at e;cases e
 |p::kvs,w::vs,t,h,e=>by
  simp only[List.map_cons,RDs] at h
  obtain⟨x,r,e1,h1,h2⟩:=h
  cases e1
  simp only[List.map_cons,z31,z6M,Option.some.injEq] at e
  by_cases hk:p.1=k
  ·rw[if_pos hk] at e;cases e
   exact⟨_,z5E hk,h1,List.mem_cons_self ..⟩
  ·rw[if_neg hk] at e
   obtain⟨v,a,b,c⟩:=z3P kvs vs t h2 e
   exact⟨v,by rw[z4j hk];exact a,b,List.mem_cons_of_mem _ c⟩
theorem z5p{k:Key}: ∀(kvs:List (Key×V)) (vs:List D),RDs G ρ H vs (kvs.map (·.2))->z31 (kvs.map fun p=>keyD p.1) vs k=none->valV kvs k=none
 |[],_,_,_=>rfl
 |p::kvs,[],h,_=>by simp only[List.map_cons,RDs] at h;cases h
 |p::kvs,w::vs,h,e=>by
  simp only[List.map_cons,RDs] at h
  obtain⟨x,r,e1,h1,h2⟩:=h
  cases e1
  simp only[List.map_cons,z31,z6M,Option.some.injEq] at e
  by_cases hk:p.1=k
  ·rw[if_pos hk] at e;cases e
  ·rw[if_neg hk] at e
   rw[z4j hk];exact z5p kvs vs h2 e
theorem zi0{k:Key}{kvs:List (Key×V)}{vs:List D}(r:RDs G ρ H vs (kvs.map (·.2))):(z31 (kvs.map fun p=>keyD p.1) vs k).isSome=(valV kvs k).isSome:=by
 cases ef:z31 (kvs.map fun p=>keyD p.1) vs k with
 |none=>rw[z5p kvs vs r ef];rfl
 |some d=>obtain⟨w,hv,_⟩:=z3P kvs vs d r ef;rw[hv];rfl
end
section
variable{X:Cx}{G:Gx}{F:Fy}{a b e:Expr}{ma mb:M D}{pos:Pos}
noncomputable def dgtP(o t:D):M D:=match rdP o with
 |some (ks,vs)=>match z4F t with
  |some k=>(match z31 ks vs k with|some d=>rt d|none=>fl)
  |none=>fl
 |none=>fl
theorem zdE:OpOK G F (fun x y H Q=> ∃a v,x= .ref a/\DGet H a y (some v)/\Q v H) dgtP:=by
 intro ρ s t t' v u H σv tv Q M W
 obtain⟨h1,h2⟩:=M.rd2
 obtain⟨l1,l2⟩:=M.lb2
 unfold dgtP at W
 cases er:rdP t with
 |none=>rw[er] at W;exact False.elim W
 |some p=>
  obtain⟨ks,vs⟩:=p
  rw[er] at W
  dsimp only at W
  cases ek:z4F t' with
  |none=>rw[ek] at W;exact False.elim W
  |some k=>
   rw[ek] at W
   dsimp only at W
   obtain⟨a,kvs,rfl,hx,rfl,r,sub⟩:=h1.rdp er
   obtain⟨rfl,_⟩:=z85 h2 ek
   cases ef:z31 (kvs.map fun p=>keyD p.1) vs k with
   |none=>rw[ef] at W;exact False.elim W
   |some d=>
    rw[ef] at W
    obtain⟨w,hv,hd,hm⟩:=z3P kvs vs d r ef
    exact⟨a,w,rfl, .inl ⟨kvs,k,hx,rfl,hv.symm⟩,fun _=>W.out M.m hd fun j hj=>l1 j (sub j (labsL_mem hm j hj))⟩
theorem se_dgtP(hk:X.K=G.K)(hu:X.A.units+64<cLine)(ha:SE X G F a ma)(hb:SE X G F b mb)(hs:z2K b):SE X G F (.Subscript a b pos) (mBin ma mb dgtP):=
 PE.imp hk (zdc (show X.A.units+2<cLine by lia) ha hb hs) fun _ _ _ h=>z9j zdE h
noncomputable def z9G(t o:D):M D:=match rdP o with
 |some (ks,vs)=>match z4F t with
  |some k=>rt (.bool (!(z31 ks vs k).isSome))
  |none=>fl
 |none=>fl
theorem zbk:z1p G F (fun y x H Q=> ∃a o,x= .ref a/\DGet H a y o/\Q (.bl (!o.isSome)) H) z9G:=by
 intro ρ s t t' v u H σv tv Q M W
 obtain⟨h1,h2⟩:=M.rd2
 unfold z9G at W
 cases er:rdP t' with
 |none=>rw[er] at W;exact False.elim W
 |some p=>
  obtain⟨ks,vs⟩:=p
  rw[er] at W
  dsimp only at W
  cases ek:z4F t with
  |none=>rw[ek] at W;exact False.elim W
  |some k=>
   rw[ek] at W
   dsimp only at W
   obtain⟨a,kvs,rfl,hx,rfl,r,sub⟩:=h2.rdp er
   obtain⟨rfl,_⟩:=z85 h1 ek
   refine⟨a,_,rfl, .inl ⟨kvs,k,hx,rfl,rfl⟩, ?_⟩
   rw[<-zi0 r]
   exact W.flat M.m rfl
theorem zbl(hu:X.A.units+64<cLine):Cm X G F .NotIn z9G:=⟨_,zdD hu,zbk⟩
noncomputable def dcM(ks:List Key)(ds:List D):M D:=fun s=> .ok (.dct s.n (.non::ks.map keyD) ds) s.nxt
noncomputable def cVs:List D->Option (List V)
 |[]=>some []
 |d::ds=>match cV d,cVs ds with
  |some v,some vs=>some (v::vs)
  |_,_=>none
theorem z9H{ρ:Nat->Addr}{H:Hp}: ∀{ds:List D} {vs:List V},cVs ds=some vs->RDs G ρ H ds vs/\labsL ds=[]
 |[],vs,e=>by simp only[cVs] at e;cases e;exact⟨by simp only[RDs],rfl⟩
 |d::ds,vs,e=>by
  simp only[cVs] at e
  cases e1:cV d with
  |none=>rw[e1] at e;cases e
  |some v=>
   rw[e1] at e
   cases e2:cVs ds with
   |none=>rw[e2] at e;cases e
   |some ws=>
    rw[e2] at e
    cases e
    obtain⟨a1,a2⟩:=z5G (G:=G) (ρ:=ρ) (H:=H) e1
    obtain⟨b1,b2⟩:=z9H (ρ:=ρ) (H:=H) e2
    exact⟨by simp only[RDs];exact⟨_,_,rfl,a1,b1⟩,by simp only[labsL,a2,b2,List.append_nil]⟩
theorem z87{σ:L2.St}{H:Hp}: ∀(kvs:List (Key×V)) (Q:List (V×V)->Hp->Prop),Q (kvs.map fun kv=>(kV kv.1,kv.2)) H->z7U (kvs.map fun kv=>(tC (kV kv.1),tC kv.2)) σ H Q
 |[],Q,h=>h
 |kv::r,Q,h=>z87 r (fun ps H3=>Q ((kV kv.1,kv.2)::ps) H3) h
theorem z88: ∀(more kvs:List (Key×V)),(kvs.map (·.1)++more.map (·.1)).Nodup->z44 kvs more=kvs++more
 |[],kvs,_=>by show kvs=kvs++[];rw[List.append_nil]
 |p::r,kvs,h=>by
  have h1:putK kvs p.1 p.2=kvs++[p]:=by
   unfold putK
   rw[if_neg]
   intro hz
   rw[List.any_eq_true] at hz
   obtain⟨q,hq,e⟩:=hz
   have e:=of_decide_eq_true e
   have hn:=(List.nodup_append.mp h).2.2
   exact hn q.1 (List.mem_map.mpr ⟨q,hq,rfl⟩) p.1 (by rw[List.map_cons];exact List.mem_cons_self ..) e
  have h2:=z88 r (kvs++[p]) (by simpa only[List.map_append,List.map_cons,List.map_nil,List.append_assoc,List.singleton_append] using h)
  show z44 (putK kvs p.1 p.2) r=_
  rw[h1,h2,List.append_assoc,List.singleton_append]
theorem se_dispC{keys:List (Option Expr)}{values:List Expr}{ds:List D}(kvs:List (Key×V))(hk:X.K=G.K)(h:PPs X pos keys values (kvs.map fun kv=>(tC (kV kv.1),tC kv.2)))(hall:keys.all (·.isSome)=true)(hl:keys.length=values.length)(h0:keys≠[])
 (h15:keys.length<=15) (hl2:kvs.length<=15) (hn:(kvs.map (·.1)).Nodup) (hd:cVs ds=some (kvs.map (·.2))):SE X G F (.Dict keys values pos) (dcM (kvs.map (·.1)) ds):=
 PE.imp hk (zde h hall hl h0 h15) fun σ H Q ⟨tv,hs,ρ,s,M,W⟩ p hp=>by
  refine z87 kvs _ ⟨z0i,kvs,rfl,hl2, ?_⟩
  rw[show z44 [] kvs=kvs from z88 kvs [] hn,zcL]
  intro k
  refine wM.out (ρ:=ext ρ s.n p) W (M.new hp k) ?_ fun l hl=> ?_
  ·simp only[RD]
   rw[z0S]
   exact⟨rfl, .inl ⟨kvs,z0i,by rw[List.map_map];rfl,(z9H hd).1⟩⟩
  ·have hz: ∀ks:List Key,labsL (ks.map keyD)=[]:=z86
   simp only[labs,labsL,hz,(z9H (G:=G) (ρ:=ρ) (H:=H) hd).2,List.append_nil,List.mem_singleton] at hl
   rw[hl]
   exact⟨Nat.lt_succ_self _,by rw[z0S];exact .inr (M.fresh0 hp)⟩
theorem ss_setN{i:Nat}{x:Str}{p:Pos}{m:M D}(hN:X.N.Nodup)(hi:X.N[i]? =some x)(hx:Loc X.env.scope x)(hf:X.fn x=true\/X.env.scope.names.lookup x=some .local)(he:SE X G F e m)(hs:swapsWith e (some (.Name x p)) pos.line X.env=pure false:=by rfl):SS X G F (.Assign [.Name x p] e pos) (sAsg (.nm i) m):=
 ss_set (fun{te} h=>z8T hN hi hx h hs hf) he
end
structure Dm(K:W.Frag)(C:Addr)(x qual:Str)(st:Stmt)(ps:List Str) where
 f:Addr
 d:FuncData
 F:Fun K x qual st f d
 b:z3H K d ps []
 h:Meth K C x f
end Mi
namespace Mi
open PySem L2 PySem.Spec PyProof.Rows
end Mi
namespace Mi
open PySem L2 PySem.Spec PySem.SeqAt PySem.Calls PyProof.Rows
end Mi
namespace Mi
open PySem L2 PySem.Spec PyProof.Rows
section
variable{X:Cx}{G:Gx}{F:Fy}
noncomputable def repD:List D->M D
 |[.tup ds]=>if strC ds=true then rt (.str (er (.tup ds)).shown) else fl
 |[.lst l ds]=>if(plainL ds&&(er (.lst l ds)).showable&&decide ((er (.lst l ds)).depth<=60)&&decide ((er (.lst l ds)).shown.length<=sizeLine))=true then rt (.str (er (.lst l ds)).shown) else fl
 |_=>fl
theorem zfD:z1r G F (rStr G.K) repD:=by
 intro ρ s ts vs H σv tv Q M W
 unfold repD at W
 split at W
 ·rename_i ds
  exact zft ρ s [.tup ds] vs H σv tv Q M W
 ·rename_i l ds
  split at W
  ·rename_i hc
   simp only[Bool.and_eq_true,decide_eq_true_eq] at hc
   obtain⟨⟨⟨c1,c2⟩,c3⟩,c4⟩:=hc
   obtain⟨v,rfl,h,_⟩:=M.one
   obtain⟨p,xs,rfl,s1,r1,_⟩:=id (h.lstq (ds:=ds) rfl)
   exact⟨p,er (.lst l ds),rfl,RD.dp _ _ h (by simp only[plain];exact c1),z4C _,c2,c3,c4,fun _=>W.flat M.m rfl⟩
  ·exact wfl W
 ·exact wfl W
end
end Mi
namespace L2
open PySem PySem.Spec PyProof.Rows
end L2
namespace Mi
open PySem L2
end Mi
namespace Mi
open PySem L2 PySem.Spec PyProof.Rows PySem F P
section
variable{X:Cx}{G:Gx}{F:Fy}
noncomputable def z7o:V->Option Str
 | .non=>some "None"
 | .bl b=>some (if b then "True" else "False")
 | .int i=>if i.natAbs.log2<1920 then some (toString i:String) else none
 | .str x=>some x
 |_=>none
noncomputable def zfE(K:W.Frag)(xs:List V)(H:Hp)(Q:VK):Prop:=(∃x t,xs=[x]/\z7o x=some t/\Q (.str t) H)\/rStr K xs H Q
theorem z9I(hg:X.A.guards=some [])(hu:X.A.units+64<cLine):CallR X (.type "str") (zfE X.K):=by
 intro pins s σ H xs us Q I r h
 rcases h with⟨x,t,rfl,e,q⟩|h
 ·obtain⟨u,rfl,r1⟩:=z37 r
  cases x with
  |non=>
   cases r1
   simp only[z7o,Option.some.injEq] at e
   subst e
   exact str_of_none ⟨.str "None",H,I.tok _,⟨_,rfl⟩,q⟩
  |bl b=>
   cases r1
   simp only[z7o,Option.some.injEq] at e
   subst e
   exact str_of_bool ⟨.str (if b then "True" else "False"),H,I.tok _,⟨_,rfl⟩,q⟩
  |int i=>
   obtain⟨t',rfl⟩:=r1
   simp only[z7o] at e
   split at e
   ·rename_i hl
    simp only[Option.some.injEq] at e
    subst e
    exact str_of_int hl ⟨.str (toString i:String),H,I.tok _,⟨_,rfl⟩,q⟩
   ·cases e
  |str y=>
   obtain⟨t',rfl⟩:=r1
   simp only[z7o,Option.some.injEq] at e
   subst e
   exact str_of_str ⟨.str y,H,I,⟨_,rfl⟩,q⟩
  |_=>simp[z7o] at e
 ·exact z9t hg hu pins s σ H xs us Q I r h
noncomputable def strA:List D->M D
 |[.non]=>rt (.str "None")
 |[.bool b]=>rt (.str (if b then "True" else "False"))
 |[.int i]=>if i.natAbs.log2<1920 then rt (.str (toString i:String)) else fl
 |[.str x]=>rt (.str x)
 |ds=>repD ds
theorem zdF:z1r G F (zfE G.K) strA:=by
 intro ρ s ts vs H σv tv Q M W
 unfold strA at W
 split at W
 ·obtain⟨v,rfl,h,_⟩:=M.one
  simp only[RD] at h;subst h
  exact .inl ⟨_,_,rfl,rfl,fun _=>W.flat M.m rfl⟩
 ·obtain⟨v,rfl,h,_⟩:=M.one
  simp only[RD] at h;subst h
  exact .inl ⟨_,_,rfl,rfl,fun _=>W.flat M.m rfl⟩
 ·split at W
  ·rename_i hl
   obtain⟨v,rfl,h,_⟩:=M.one
   simp only[RD] at h;subst h
   exact .inl ⟨_,_,rfl,by simp only[z7o,if_pos hl],fun _=>W.flat M.m rfl⟩
  ·exact wfl W
 ·obtain⟨v,rfl,h,_⟩:=M.one
  simp only[RD] at h;subst h
  exact .inl ⟨_,_,rfl,rfl,fun _=>W.flat M.m rfl⟩
 ·exact .inr (zfD ρ s _ vs H σv tv Q M W)
theorem z3Q(hk:X.K=G.K)(hg:X.A.guards=some [])(hu:X.A.units+64<cLine):Cb X G F (.type "str") strA:=⟨_,hk▸z9I hg hu,zdF⟩
theorem zfF:OpR X (compareOp .NotEq) (fun x y H Q=> ∃i j,x= .str i/\y= .str j/\Q (.bl (!(i==j))) H):=by
 intro pins s σ H x y v u Q I rx ry h
 obtain⟨i,j,rfl,rfl,q⟩:=h
 exact zhx pins s σ H _ _ v u Q I rx ry ⟨rfl,by rw[z5A];exact q⟩
noncomputable def neS:D->D->M D
 | .str i, .str j=>rt (.bool (!(i==j)))
 |_,_=>fl
theorem zfG:z1p G F (fun x y H Q=> ∃i j,x= .str i/\y= .str j/\Q (.bl (!(i==j))) H) neS:=by
 intro ρ s t t' v u H σv tv Q M W
 unfold neS at W
 split at W
 ·obtain⟨h1,h2⟩:=M.rd2
  simp only[RD] at h1 h2
  exact⟨_,_,h1,h2,W.flat M.m rfl⟩
 ·exact wfl W
theorem z89:Cm X G F .NotEq neS:=⟨_,zfF,zfG⟩
end
end Mi
namespace L2
open PySem PySem.Spec PyProof.Rows
end L2
namespace Mi
open PySem L2 PySem.Spec PyProof.Rows
end Mi
namespace L2
open PySem PySem.Spec PyProof.Rows
end L2
namespace Mi
open PySem L2 PySem.Spec PyProof.Rows
end Mi
namespace L2
open PySem PySem.Spec PyProof.Rows
end L2
namespace Mi
open PySem L2
end Mi
namespace So
open PySem PySem.W PyProof.Rows PySem.SeqAt
end So
namespace L2
open PySem PySem.Spec PyProof.Rows
end L2
namespace Mi
open PySem L2 PySem.Spec PyProof.Rows
end Mi
namespace PySem
end PySem
namespace L2
open PySem PySem.Spec PyProof.Rows
end L2
namespace Mi
open PySem L2
end Mi
namespace So
open PySem PySem.W PyProof.Rows PySem.SeqAt
end So
namespace L2
open PySem PySem.Spec PyProof.Rows
end L2
namespace L2
open PySem PySem.Spec PyProof.Rows
open Sem (wp)
open AutoSeq1 (wpAny_loadPart')
end L2
namespace L2
open PySem PySem.Spec PyProof.Rows
open Sem (wp)
end L2
namespace Mi
open PySem L2 PySem.Spec PyProof.Rows
end Mi
namespace L2
open PySem PySem.Spec PyProof.Rows
end L2
namespace Mi
open PySem L2 PySem.Spec PyProof.Rows
section
variable{X:Cx}{G:Gx}{F:Fy}{a b e o iter:Expr}{pos apos cpos:Pos}{mo mi:M D}
noncomputable def smlK:D->Bool
 | .tup xs=>decide (xs.length<1000)
 |_=>false
noncomputable def rowOk(ks vs:List D):Bool:=isT ks&&(labsL vs).isEmpty&&ks.all smlK&&decide (ks.length<sizeLine)
end
end Mi
namespace L2
open PySem PySem.Spec PyProof.Rows
end L2
namespace Mi
open PySem L2 PySem.Spec PyProof.Rows
end Mi
namespace L2
open PySem PySem.Spec PyProof.Rows
section
variable{prog:Program}{w:World}{A:Around}{E:Value->Shared->Prop}{s:Shared}{z TI TO p q t u:Addr}{i j:Nat}{xs ys:Array Value}{a b:Value}
structure ZT(h:Heap)(z TI TO p q t u:Addr)(i j:Nat)(xs ys:Array Value)(a b:Value):Prop where
 z:IsZip h z TI TO .none
 ti:IsPair h TI (.ref p) (.ref q)
 to:IsPair h TO a b
 p:h.IsTupleIter p t i
 q:h.IsTupleIter q u j
 t:h.IsTuple t xs
 u:h.IsTuple u ys
end
end L2
namespace Mi
open PySem L2
end Mi
namespace L2
open PySem PySem.Spec PyProof.Rows
theorem z6N: ∀{ys:List Str} {us:List Value},Vals (ys.map V.str) us->StrsAre us ys
 |[],_, .nil=> .nil
 |y::ys,_, .cons ⟨t,e⟩ r=>by subst e;exact .cons y t (z6N r)
theorem z6O: ∀(l:List (Str×Tok)),Vals ((l.map (·.1)).map V.str) (strValues l)
 |[]=> .nil
 |(x,t)::l=> .cons ⟨t,rfl⟩ (z6O l)
section
variable{X:Cx}{tg:Expr}
noncomputable def zfH(K:W.Frag)(x:V)(xs:List V)(H:Hp)(Q:VK):Prop:= ∃(z:Str) (p:Addr) (ys:List Str),x= .str z/\xs=[.ref p]/\SqL K H p (ys.map V.str)/\(ys.map (·.length)).sum+ys.length*z.length<=sizeLine/\Q (.str (Txt.join z ys)) H
theorem zdG:MtR X "str.join" (zfH X.K):=by
 intro pins s σ H x xs v us Q I rx rs h
 obtain⟨z,p,ys,rfl,rfl,hs,hz,q⟩:=h
 obtain⟨t,rfl⟩:=rx
 obtain⟨u,rfl,ru⟩:=z37 rs
 cases ru
 obtain⟨its,rv,pl,_⟩:=I.list hs
 exact join_list pl.isList (by rw[List.toList_toArray];exact z6N rv) (by rw[sizeLine_eq] at hz;exact hz) fun t' k=>⟨.str (Txt.join z ys),H,I.tok _,⟨_,rfl⟩,q⟩
noncomputable def zc2(x:V)(xs:List V)(H:Hp)(Q:VK):Prop:= ∃(z y:Str),x= .str z/\xs=[.str y]/\(y.length==0)=false/\z.length+2<=sizeLine/\∀l,H l=none->Q (.ref l) (upd H l (.lst ((Txt.split z y).map V.str)))
theorem z9J{z y:Str}(hz:z.length+2<=sizeLine):(Txt.split z y).length<=sizeLine:=by
 unfold Txt.split
 split
 ·simp;lia
 ·split
  ·simp;lia
  ·have e1:=StrLaws.occ_length_le z y 0 z.length (z.length+1)
   rw[length_partsBetween]
   lia
theorem zbm:MtR X "str.split" zc2:=by
 intro pins s σ H x xs v us Q I rx rs h
 obtain⟨z,y,rfl,rfl,hy,hz,q⟩:=h
 obtain⟨t,rfl⟩:=rx
 obtain⟨u,rfl,t',rfl⟩:=z37 rs
 have hn:=z9J (y:=y) hz
 have fin: ∀(l:List (Str×Tok)) (tk:Nat),l.map (·.1)=Txt.split z y->EP X pins σ Q (.ref s.heap.objs.size) {s with heap:=s.heap.push {cls:= .type "list",data:= .seq (strValues l).toArray},toks:=tk}:=by
  intro l tk e
  refine⟨.ref s.heap.objs.size,_,I.laid (t':=tk) (fun b o hb=>Heap.get?_push_of_some _ hb) (Nat.le_refl _) (show z1o X.prog X.w _ _ _ (.lst ((Txt.split z y).map V.str)) from⟨by rw[List.length_map];exact hn,strValues l,0,e▸z6O l,Heap.get?_push_size _ rfl⟩),rfl,q _ (I.hok.fresh (Nat.le_refl _))⟩
 by_cases h1:(decide (z.length<y.length)||decide (Builtin.Str.strKind z<Builtin.Str.strKind y))=true
 ·exact call_meets F.slot_str_split (typeIs_str _ _ _) F.entry_str_split (F.args_str_split_2 _ _) (meets_str_split_cannot_occur z y t t' h1) (fin [(z,t)] s.toks (if_pos h1).symm)
 ·have h1':=eq_false_of_ne_true h1
  by_cases hf:(Builtin.Str.occurrences z y 0 z.length (z.length+1)).isEmpty=true
  ·exact call_meets F.slot_str_split (typeIs_str _ _ _) F.entry_str_split (F.args_str_split_2 _ _) (meets_str_split_not_found z y t t' h1' hy hf) (fin [(z,t)] s.toks ((if_neg h1).trans (if_pos hf)).symm)
  ·have hf':=eq_false_of_ne_true hf
   have e:Txt.split z y=Builtin.Str.partsBetween z (Builtin.Str.occurrences z y 0 z.length (z.length+1)) y.length:=(if_neg h1).trans (if_neg hf)
   refine call_meets F.slot_str_split (typeIs_str _ _ _) F.entry_str_split (F.args_str_split_2 _ _) (meets_str_split_sep z y t t' h1' hy hf' (by lia) (by rw[<-e];exact hn)) ?_
   have z0:=fin (numbered s.toks (Builtin.Str.partsBetween z (Builtin.Str.occurrences z y 0 z.length (z.length+1)) y.length)) (s.toks+(Builtin.Str.partsBetween z (Builtin.Str.occurrences z y 0 z.length (z.length+1)) y.length).length) ((numbered_texts _ _).trans e.symm)
   rw[<-strsFrom_eq] at z0
   exact z0
theorem z9K:CallR X (.type "int") (fun xs H Q=> ∃x n,xs=[.str x]/\x.length<=640/\PySem.intText? x=some n/\Q (.int n) H):=by
 intro pins s σ H xs us Q I r h
 obtain⟨x,n,rfl,hl,hn,q⟩:=h
 obtain⟨u,rfl,t,rfl⟩:=z37 r
 exact W.KIN.call_text hn hl ⟨.int n,H,I.tok _,⟨_,rfl⟩,q⟩
noncomputable def Itc(x:Str):It:=⟨fun i _=>i<x.cps.size,fun i H v H'=>H'=H/\∃c,x.cps[i]? =some c/\v= .str ⟨#[c]⟩,fun i _=>x.cps.size<=i⟩
theorem zbn{P:Program}{w:World}{K:W.Frag}(it:Addr)(x:Str)(t:Tok){ty:String}(hty:ty= "str_ascii_iterator" \/ty= "str_iterator"):Turn P w K tg (Itc x) [it] it (fun i h=>h.IsStrIter it ty x t i) where
 mem:=by simp
 obj:=fun i h st b hb=>by
  have e:b=it:=by simpa using hb
  subst e
  obtain⟨o,e,c,d⟩:=st
  exact⟨o,e,fun v z=>by rw[d] at z;cases z⟩
 keep:=fun i h h' ⟨o,ho,r⟩ k=>⟨o,k it (by simp) o ho,r⟩
 item:=by
  intro X hP hw hK hc i pins s σ H E I hf st hg
  subst hP hw hK
  obtain⟨f0,f1,f2,f3,f4,f5⟩:=hf it (by simp)
  have W:Walks X.prog X.w X.A it [it] [it] x.cps.size (SignAt x) (fun i h=>h.IsStrIter it ty x t i):=by
   rcases hty with rfl|rfl
   ·exact Walks.strAscii (I.ok.hd hc) it x t
   ·exact Walks.strWide (I.ok.hd hc) it x t
  refine W.item i s _ _ hg st fun v h' tk hv st' kk=> ?_
  obtain⟨c,u,hx,rfl⟩:=hv
  have I1:Inv X pins σ H {s with heap:=h',toks:=tk}:=I.turned (fun b o hb e=>kk b o (by simpa using hb) e) f0 f1 f3 f4 f5
  obtain⟨o,e,c1,d⟩:=id st'
  exact⟨_,rfl,zaQ (s:={s with heap:=h',toks:=tk}) e c1 d (by rcases hty with rfl|rfl<;>decide) ⟨.str ⟨#[c]⟩,H,I1,⟨u,rfl⟩,⟨rfl,c,hx,rfl⟩,st',fun b hb=>(hf b hb).1⟩⟩
 done:=by
  intro X hP hw hK hc i pins s σ H E I hf st hg
  subst hP hw hK
  obtain⟨f0,f1,f2,f3,f4,f5⟩:=hf it (by simp)
  have hx:x.cps[i]? =none:=Array.getElem?_eq_none hg
  rcases hty with rfl|rfl
  ·exact wpAny_pyNext_ascii_end (I.ok.hd hc) st hx fun h' eb=>⟨rfl,I.turned (t':=s.toks) (fun b o hb e=>eb b o hb e) f0 f1 f3 f4 f5⟩
  ·exact wpAny_pyNext_wide_end (I.ok.hd hc) st hx fun h' eb=>⟨rfl,I.turned (t':=s.toks) (fun b o hb e=>eb b o hb e) f0 f1 f3 f4 f5⟩
 self:=fun _ _ _ _ _ st h=>by
  rcases hty with rfl|rfl
  ·exact wpAny_pyIter_striter_ascii st h
  ·exact wpAny_pyIter_striter_wide st h
noncomputable def iStr(tl:TE):TI:=fun σ H R=>tl σ H fun x H1=> ∃z,x= .str z/\R (Itc z) H1
theorem zfI{l:Expr}{tl:TE}(hl:PE X l tl):PI X tg l (iStr tl):=by
 intro pins s σ H R I h
 refine thn (hl pins s σ H _ I h) fun v s1 ⟨x,H1,I1,r1,q1⟩=> ?_
 obtain⟨z,rfl,q⟩:=q1
 obtain⟨t,rfl⟩:=r1
 have fin: ∀ty,ty= "str_ascii_iterator" \/ty= "str_iterator" ->PIE X pins σ tg R (.ref s1.heap.objs.size) {s1 with heap:=s1.heap.push {cls:= .type ty,data:= .fields #[.str z t, .int 0 0]}}:=by
  intro ty hty
  refine⟨s1.heap.objs.size,[s1.heap.objs.size],_,_,H1,rfl,I1.kept (t':=s1.toks) fun b o e=>Heap.get?_push_of_some _ e,zbn _ z t hty,⟨_,Heap.get?_push_size _ rfl,rfl,rfl⟩,fun b hb=> ?_,q⟩
  have e:b=s1.heap.objs.size:=by simpa using hb
  subst e
  exact I1.fpOk (Nat.le_refl _) (I1.hok.fresh (Nat.le_refl _))
 cases ha:z.cps.all (· <128)
 ·exact wpAny_pyIter_wide ha (fin _ (.inr rfl))
 ·exact wpAny_pyIter_ascii ha (fin _ (.inl rfl))
inductive PF(X:Cx):List Expr->List (Str⊕TE)->Prop where
 |nil:PF X [] []
 |lit {es:List Expr} {ts:List (Str⊕TE)} {x:Str} {j:Nat} {pos:Pos} (r:PF X es ts):PF X (.Constant (.str x) j pos::es) (.inl x::ts)
 |fld {e:Expr} {es:List Expr} {t:TE} {ts:List (Str⊕TE)} {pos:Pos} (h:PE X e t) (r:PF X es ts):PF X (.FormattedValue e (-1) none pos::es) (.inr t::ts)
end
end L2
namespace Mi
open PySem L2 PySem.Spec PyProof.Rows
noncomputable def z50:List D->Option (List Str)
 |[]=>some []
 | .str x::ds=>(z50 ds).map (x:: ·)
 |_=>none
noncomputable def z1h(mo:M D)(ms:List (M D))(g:Str->List D->M D):M D:=bd mo fun x=>match x with
 | .str z=>bd (mArgs ms) (g z)
 |_=>fl
noncomputable def z3R(z:Str):List D->M D
 |[.lst _ ds]=>match z50 ds with
  |some ys=>if(ys.map (·.length)).sum+ys.length*z.length<=sizeLine then rt (.str (Txt.join z ys)) else fl
  |none=>fl
 |_=>fl
noncomputable def z1A(z:Str):List D->M D
 |[.str y]=>if(y.length==0)=false/\z.length+2<=sizeLine then newL ((Txt.split z y).map D.str) else fl
 |_=>fl
noncomputable def ixS(t t':D):M D:=match t,t' with
 | .str z, .int i=>if 0<=i/\i<2^63/\i<z.length then(match z.cps[i.toNat]? with|some c=>rt (.str ⟨#[c]⟩)|none=>fl) else fl
 |_,_=>fl
noncomputable def inS(t t':D):M D:=match t,t' with
 | .str i, .str j=>rt (.bool (!(Builtin.Str.occurrences j i 0 j.length 1).isEmpty))
 |_,_=>fl
noncomputable def lenS:List D->M D
 |[.str z]=>if z.length<=sizeLine then rt (.int z.length) else fl
 |ds=>lenD ds
noncomputable def intS:List D->M D
 |[.str x]=>if x.length<=640 then(match PySem.intText? x with|some n=>rt (.int n)|none=>fl) else fl
 |ds=>intD ds
noncomputable def kStr(z:Str):ItK:=⟨0,fun i _=>some ((z.cps[i]?).map fun c=> .str ⟨#[c]⟩),fun _=>z.cps.size⟩
noncomputable def z4G(m:M D):M ItK:=bd m fun d=>match d with
 | .str z=>rt (kStr z)
 |_=>fl
inductive SF(P:Expr->M D->Prop):List Expr->List (Str⊕M D)->Prop where
 |nil:SF P [] []
 |lit {es:List Expr} {ms:List (Str⊕M D)} {x:Str} {j:Nat} {pos:Pos} (r:SF P es ms):SF P (.Constant (.str x) j pos::es) (.inl x::ms)
 |fld {e:Expr} {es:List Expr} {m:M D} {ms:List (Str⊕M D)} {pos:Pos} (h:P e m) (r:SF P es ms):SF P (.FormattedValue e (-1) none pos::es) (.inr m::ms)
section
variable{X:Cx}{G:Gx}{F:Fy}{e a b c o tg iter:Expr}{es:List Expr}{pos apos cpos:Pos}
theorem z9L{ρ:Nat->Addr}{H:Hp}: ∀{ds:List D} {xs:List V} {ys:List Str},RDs G ρ H ds xs->z50 ds=some ys->xs=ys.map V.str
 |[],xs,ys,h,e=>by simp only[RDs] at h;simp only[z50,Option.some.injEq] at e;subst h e;rfl
 |d::ds,xs,ys,h,e=>by
  simp only[RDs] at h
  obtain⟨x,r,rfl,h1,h2⟩:=h
  cases d with
  |str y=>
   simp only[z50] at e
   cases e2:z50 ds with
   |none=>rw[e2] at e;cases e
   |some zs=>
    rw[e2] at e
    cases e
    simp only[RD] at h1
    rw[h1,z9L h2 e2];rfl
  |_=>simp[z50] at e
noncomputable def StOK(G:Gx)(F:Fy)(r:V->List V->Hp->VK->Prop)(g:Str->List D->M D):Prop:= ∀ρ s z ts vs H σv tv Q,MRL G F.toFx ρ H σv tv s ts vs->wM G F σv tv (g z ts s) Q->r (.str z) vs H (fun w H'=>KD G.K H'->Q w H')
theorem zdH{name:Str}{id:String}{r:V->List V->Hp->VK->Prop}{mo:M D}{ms:List (M D)}{g:Str->List D->M D}(hk:X.K=G.K)(slot:Slot "str" name id)(hty:typeOf (.builtin id)=pure (.type "method_descriptor"))(hm:MtR X id r)(hg:StOK G F r g)(ho:SE X G F o mo)(ha:SA X G F (e::es) (mArgs ms))
 (hbase:attributeBase o name X.env (eval o X.env)=eval o X.env:=by rfl)
 (hfew:((backTo cpos (starEach (e::es) X.env)).all (fun x=> !x.1)&&(backToKw cpos (keywordEach [] X.env)).all (fun x=>x.1.isSome)
  &&decide ((e::es).length+([]:List Keyword).length+(if([]:List Keyword).isEmpty then 0 else 1)<30))=true:=by rfl)
 (hline:(apos.endLine==cpos.line)=true:=by rfl) (hs:starEach (e::es) X.env=(false,eval e X.env)::starEach es X.env:=by rfl) (hplain:(backTo cpos (starEach es X.env)).any (·.1)=false:=by rfl):SE X G F (.Call (.Attribute o name apos) (e::es) [] cpos) (z1h mo ms g):=by
 refine PE.imp hk (zhG PySem.F.plainAttrs_str slot hty hm ho ha hbase hfew hline hs hplain) fun σ H Q h=> ?_
 obtain⟨tv,h⟩:=h
 have h0:=h.1
 refine⟨tv,(z4e h).mono fun v H1 ⟨ρ1,s1,t,M1,W⟩=> ?_⟩
 have rd:=M1.rd1
 cases t with
 |str z=>
  simp only[RD] at rd
  subst rd
  refine⟨(show("str" :String)= "str" from rfl),tv,h0,ρ1,s1,M1.m, ?_⟩
  dsimp only[bd] at W
  cases e2:mArgs ms s1 with
  |ex d s2=>rw[e2] at W;exact W
  |no=>rw[e2] at W;exact W
  |ok ys s2=>rw[e2] at W;exact fun ρ2 us H2 M2=>hg _ _ _ _ _ _ _ _ _ M2 W
 |_=>exact False.elim W
structure Ct(X:Cx)(G:Gx)(F:Fy)(id:String)(g:Str->List D->M D):Prop where
 h: ∃r,MtR X id r/\StOK G F r g
theorem zdI:StOK G F (zfH G.K) z3R:=by
 intro ρ s z ts vs H σv tv Q M W
 unfold z3R at W
 split at W
 ·rename_i l ds
  obtain⟨v,rfl,h,_⟩:=M.one
  obtain⟨p,xs,rfl,s1,r1,_⟩:=id (h.lstq (ds:=ds) rfl)
  cases e:z50 ds with
  |none=>rw[e] at W;exact wfl W
  |some ys=>
   rw[e] at W
   dsimp only at W
   split at W
   ·rename_i hz
    exact⟨z,p,ys,rfl,rfl,by rw[<-z9L r1 e];exact s1,hz,fun _=>W.flat M.m rfl⟩
   ·exact wfl W
 ·exact wfl W
theorem z2M(hk:X.K=G.K):Ct X G F "str.join" z3R:=⟨_,hk▸zdG,zdI⟩
theorem z8a{ρ:Nat->Addr}{H:Hp}: ∀(ys:List Str),RDs G ρ H (ys.map D.str) (ys.map V.str)
 |[]=>by simp[RDs]
 |y::ys=>by
  simp only[List.map_cons,RDs]
  exact⟨_,_,rfl,by simp only[RD],z8a ys⟩
theorem z6P: ∀(ys:List Str),labsL (ys.map D.str)=[]
 |[]=>rfl
 |y::ys=>by simp only[List.map_cons,labsL,labs,List.nil_append];exact z6P ys
theorem zbo:StOK G F zc2 z1A:=by
 intro ρ s z ts vs H σv tv Q M W
 unfold z1A at W
 split at W
 ·rename_i y
  split at W
  ·rename_i hc
   obtain⟨v,rfl,h,_⟩:=M.one
   simp only[RD] at h
   subst h
   exact⟨z,y,rfl,rfl,hc.1,hc.2,fun l hl k=>z3J W M.m (z8a _) (fun l h=>by rw[z6P] at h;simp at h) hl k⟩
  ·exact wfl W
 ·exact wfl W
theorem z28:Ct X G F "str.split" z1A:=⟨_,zbm,zbo⟩
theorem se_ctS{name:Str}{id:String}{mo:M D}{ms:List (M D)}{g:Str->List D->M D}(hk:X.K=G.K)(slot:Slot "str" name id)(hty:typeOf (.builtin id)=pure (.type "method_descriptor"))(hm:Ct X G F id g)(ho:SE X G F o mo)(ha:SA X G F (e::es) (mArgs ms))
 (hbase:attributeBase o name X.env (eval o X.env)=eval o X.env:=by rfl)
 (hfew:((backTo cpos (starEach (e::es) X.env)).all (fun x=> !x.1)&&(backToKw cpos (keywordEach [] X.env)).all (fun x=>x.1.isSome)
  &&decide ((e::es).length+([]:List Keyword).length+(if([]:List Keyword).isEmpty then 0 else 1)<30))=true:=by rfl)
 (hline:(apos.endLine==cpos.line)=true:=by rfl) (hs:starEach (e::es) X.env=(false,eval e X.env)::starEach es X.env:=by rfl) (hplain:(backTo cpos (starEach es X.env)).any (·.1)=false:=by rfl):SE X G F (.Call (.Attribute o name apos) (e::es) [] cpos) (z1h mo ms g):=by
 obtain⟨r,h1,h2⟩:=hm.h
 exact zdH hk slot hty h1 h2 ho ha hbase hfew hline hs hplain
theorem zfJ:z1p G F (fun x y H Q=> ∃z i c,x= .str z/\y= .int i/\0<=i/\i<2^63/\i<z.length/\z.cps[i.toNat]? =some c/\Q (.str ⟨#[c]⟩) H) ixS:=by
 intro ρ s t t' v u H σv tv Q M W
 obtain⟨h1,h2⟩:=M.rd2
 unfold ixS at W
 split at W
 ·rename_i z i
  split at W
  ·rename_i hc
   simp only[RD] at h1 h2
   subst h1 h2
   cases e:z.cps[i.toNat]? with
   |none=>rw[e] at W;exact wfl W
   |some c=>rw[e] at W;exact⟨z,i,c,rfl,rfl,hc.1,hc.2.1,hc.2.2,e,W.flat M.m rfl⟩
  ·exact wfl W
 ·exact wfl W
theorem se_ixS{ma mb:M D}(ha:SE X G F a ma)(hb:SE X G F b mb)(hs:z5B b):SE X G F (.Subscript a b pos) (mBin ma mb ixS):=PE.imp0 (z7c ha hb hs) fun _ _ _ h=>z5F zfJ h
theorem zfK:z1p G F (fun x y H Q=> ∃i j,x= .str i/\y= .str j/\Q (.bl (!(Builtin.Str.occurrences j i 0 j.length 1).isEmpty)) H) inS:=by
 intro ρ s t t' v u H σv tv Q M W
 obtain⟨h1,h2⟩:=M.rd2
 unfold inS at W
 split at W
 ·simp only[RD] at h1 h2
  subst h1 h2
  exact⟨_,_,rfl,rfl,W.flat M.m rfl⟩
 ·exact wfl W
theorem zc3:Cm X G F .In inS:=⟨_,z8Z,zfK⟩
theorem z3S(hk:X.K=G.K):Cb X G F (.builtin "len") lenS:=⟨_,hk▸CallR.or z6B z43,by
 intro ρ s ts vs H σv tv Q M W
 unfold lenS at W
 split at W
 ·obtain⟨v,rfl,h,_⟩:=M.one
  simp only[RD] at h;subst h
  split at W
  ·rename_i hz
   exact .inl ⟨_,rfl,hz,fun _=>W.flat M.m rfl⟩
  ·exact wfl W
 ·exact .inr (zbX ρ s _ vs H σv tv Q M W)⟩
theorem z7p:Cb X G F (.type "int") intS:=⟨_,CallR.or z9K z6u,by
 intro ρ s ts vs H σv tv Q M W
 unfold intS at W
 split at W
 ·rename_i x
  obtain⟨v,rfl,h,_⟩:=M.one
  simp only[RD] at h;subst h
  split at W
  ·rename_i hz
   cases e:PySem.intText? x with
   |none=>rw[e] at W;exact wfl W
   |some n=>rw[e] at W;exact .inl ⟨_,_,rfl,hz,e,fun _=>W.flat M.m rfl⟩
  ·exact wfl W
 ·exact .inr (zbY ρ s _ vs H σv tv Q M W)⟩
theorem zbp{z:Str}:ItOK G (Itc z) (kStr z) []:=by
 intro F ρ H σv tvp tv s i M
 simp only[kStr]
 cases e:z.cps[i]? with
 |none=>exact Array.getElem?_eq_none_iff.mp e
 |some c=>
  refine⟨(Array.getElem?_eq_some_iff.mp e).1, ?_⟩
  rintro x H' ⟨rfl,c',e',rfl⟩
  rw[e] at e'
  cases e'
  exact⟨M,RDs.one (by simp only[RD]),fun l hl=>by simp[labsL,labs] at hl⟩
theorem si_str{m:M D}(h:SE X G F e m):SI X G F tg e (z4G m):=by
 refine PI.imp0 (zfI h) fun σ H R ⟨tv,hs,ρ,s,M,W⟩=>⟨tv,hs,ρ,s,M, ?_⟩
 unfold z4G bd at W
 cases e1:m s with
 |ex d s1=>rw[e1] at W;exact W
 |no=>rw[e1] at W;exact W
 |ok t s1=>
  rw[e1] at W
  intro ρ1 v H1 M1
  have rd:=M1.rd1
  cases t with
  |str z=>
   simp only[RD] at rd
   subst rd
   exact⟨z,rfl,W ρ1 H1 [] _ rfl M1.m zbp⟩
  |_=>exact False.elim W
end
end Mi
namespace L2
open PySem PySem.Spec PyProof.Rows
section
variable{X:Cx}
noncomputable def rTxI(x:V)(xs:List V)(H:Hp)(Q:VK):Prop:= ∃(z y:Str) (i:Nat) (r:List Nat),x= .str z/\xs=[.str y]/\Builtin.Str.occurrences z y 0 z.length 1=i::r/\Q (.int i) H
theorem zfL:MtR X "str.index" rTxI:=by
 intro pins s σ H x xs v us Q I rx rs h
 obtain⟨z,y,i,r,rfl,rfl,ho,q⟩:=h
 obtain⟨t,rfl⟩:=rx
 obtain⟨u,rfl,t',rfl⟩:=z37 rs
 exact SC.index ho ⟨.int i,H,I.tok _,⟨_,rfl⟩,q⟩
noncomputable def rTxF(x:V)(xs:List V)(H:Hp)(Q:VK):Prop:= ∃z y:Str,x= .str z/\xs=[.str y]/\Q (.int (Txt.find z y)) H
theorem zfM:MtR X "str.find" rTxF:=by
 intro pins s σ H x xs v us Q I rx rs h
 obtain⟨z,y,rfl,rfl,q⟩:=h
 obtain⟨t,rfl⟩:=rx
 obtain⟨u,rfl,t',rfl⟩:=z37 rs
 exact SC.find ⟨.int (Txt.find z y),H,I.tok _,⟨_,rfl⟩,q⟩
noncomputable def rTxS(x:V)(xs:List V)(H:Hp)(Q:VK):Prop:= ∃z y:Str,x= .str z/\xs=[.str y]/\z.length<=sizeLine/\Q (.str (Txt.stripChars z y)) H
theorem zfN:MtR X "str.strip" rTxS:=by
 intro pins s σ H x xs v us Q I rx rs h
 obtain⟨z,y,rfl,rfl,hz,q⟩:=h
 obtain⟨t,rfl⟩:=rx
 obtain⟨u,rfl,t',rfl⟩:=z37 rs
 exact SC.stripChars (fun t' k=>⟨.str (Txt.stripChars z y),H,I.tok _,⟨_,rfl⟩,q⟩) hz
end
end L2
namespace Mi
open PySem L2 PySem.Spec PyProof.Rows
noncomputable def txI(z:Str):List D->M D
 |[.str y]=>match Builtin.Str.occurrences z y 0 z.length 1 with
  |i::_=>rt (.int i)
  |[]=>fl
 |_=>fl
noncomputable def txF(z:Str):List D->M D
 |[.str y]=>rt (.int (Txt.find z y))
 |_=>fl
noncomputable def txS(z:Str):List D->M D
 |[.str y]=>if z.length<=sizeLine then rt (.str (Txt.stripChars z y)) else fl
 |_=>fl
section
variable{X:Cx}{G:Gx}{F:Fy}
theorem zfO:Ct X G F "str.index" txI:=⟨_,zfL,by
 intro ρ s z ts vs H σv tv Q M W
 unfold txI at W
 split at W
 ·rename_i y
  obtain⟨v,rfl,h,_⟩:=M.one
  simp only[RD] at h
  subst h
  cases e:Builtin.Str.occurrences z y 0 z.length 1 with
  |nil=>rw[e] at W;exact wfl W
  |cons i r=>rw[e] at W;exact⟨z,y,i,r,rfl,rfl,e,fun _=>W.flat M.m rfl⟩
 ·exact wfl W⟩
theorem zfP:Ct X G F "str.find" txF:=⟨_,zfM,by
 intro ρ s z ts vs H σv tv Q M W
 unfold txF at W
 split at W
 ·obtain⟨v,rfl,h,_⟩:=M.one
  simp only[RD] at h
  subst h
  exact⟨z,_,rfl,rfl,fun _=>W.flat M.m rfl⟩
 ·exact wfl W⟩
theorem zc4:Ct X G F "str.strip" txS:=⟨_,zfN,by
 intro ρ s z ts vs H σv tv Q M W
 unfold txS at W
 split at W
 ·obtain⟨v,rfl,h,_⟩:=M.one
  simp only[RD] at h
  subst h
  split at W
  ·rename_i hz
   exact⟨z,_,rfl,rfl,hz,fun _=>W.flat M.m rfl⟩
  ·exact wfl W
 ·exact wfl W⟩
end
end Mi
namespace L2
open PySem PySem.Spec PyProof.Rows
section
variable{X:Cx}
noncomputable def rSlS:V->Option Int->Option Int->Hp->VK->Prop:=fun x lo hi H Q=> ∃z:Str,x= .str z/\z.length<=sizeLine/\Q (.str (Txt.slice z lo hi)) H
theorem z9M{v:Value}{o:Option Int}(h:IsPart v o): ∃l:Option (Int×Tok),v=partValue l/\l.map (·.1)=o:=by
 cases h with
 |none=>exact⟨none,rfl,rfl⟩
 |int i t=>exact⟨some (i,t),rfl,rfl⟩
theorem zfQ:SlR X rSlS:=by
 intro pins s σ H x v vl vu lo hi sl Q I rx hs pl pu h
 obtain⟨z,rfl,hz,q⟩:=h
 obtain⟨t,rfl⟩:=rx
 obtain⟨l,rfl,rfl⟩:=z9M pl
 obtain⟨u,rfl,rfl⟩:=z9M pu
 refine⟨"str",_,F.slot_str_getitem.lookup,typeIs_str _ _ _,wpAny_getItem_str_slice (l:=l) (u:=u) (st:=none) hs rfl ?_⟩
 exact post_val_or_str ⟨Nat.le_trans (Txt.slice_le z _ _) hz,fun t' k=>⟨.str (Txt.slice z (l.map (·.1)) (u.map (·.1))),H,I.tok _,⟨_,rfl⟩,q⟩⟩
end
end L2
namespace Mi
open PySem L2 PySem.Spec PyProof.Rows
noncomputable def slS:D->Option Int->Option Int->M D
 | .str z,lo,hi=>if z.length<=sizeLine then rt (.str (Txt.slice z lo hi)) else fl
 |_,_,_=>fl
noncomputable def mSlS(m:M D)(lo hi:Option (M D)):M D:=bd m fun x=>bd (psh x) fun _=>bd (z2Y lo) fun l=>bd (z2Y hi) fun h=>bd pop fun x'=>slS x' l h
section
variable{X:Cx}{G:Gx}{F:Fy}{e:Expr}{pos:Pos}
theorem zfR{ρ:Nat->Addr}{s:Stt}{t:D}{v:V}{H:Hp}{σv tv:List (Option V)}{lo hi:Option Int}{Q:VK}(M:MRL G F.toFx ρ H σv tv s [t] [v])(W:wM G F σv tv (slS t lo hi s) Q):
 rSlS v lo hi H (fun w H'=>KD G.K H'->Q w H'):=by
 have h:=M.rd1
 unfold slS at W
 split at W
 ·simp only[RD] at h
  subst h
  split at W
  ·rename_i hz
   exact⟨_,rfl,hz,fun _=>W.flat M.m rfl⟩
  ·exact wfl W
 ·exact wfl W
theorem se_sliceS{lo hi:Option Expr}{p2:Pos}{m:M D}{ml mh:Option (M D)}(hk:X.K=G.K)(he:SE X G F e m)(hl:SO X G F lo ml)(hh:SO X G F hi mh):SE X G F (.Subscript e (.Slice lo hi none p2) pos) (mSlS m ml mh):=by
 refine PE.imp hk (z7S (r:=rSlS) zfQ he hl hh) fun σ H Q ⟨tv,h⟩=>⟨tv, ?_⟩
 obtain⟨hs,ρ,s,M,W⟩:=z4e h
 refine⟨hs,ρ,s,M,W.mono fun v H1 ⟨ρ1,s1,t,M1,W1⟩=>⟨some v::tv,suf1 hs,ρ1,s1.psh t,M1.push, ?_⟩⟩
 simp only[bd,psh] at W1
 cases e1:z2Y ml (s1.psh t) with
 |ex d s2=>rw[e1] at W1;exact W1
 |no=>rw[e1] at W1;exact W1
 |ok l s2=>
  rw[e1] at W1
  intro ρ2 H2 M2
  refine⟨some v::tv,suf1 hs,ρ2,s2,M2, ?_⟩
  dsimp only at W1
  cases e2:z2Y mh s2 with
  |ex d s3=>rw[e2] at W1;exact W1
  |no=>rw[e2] at W1;exact W1
  |ok h s3=>
   rw[e2] at W1
   intro ρ3 H3 M3
   simp only[pop] at W1
   cases e3:s3.tm with
   |nil=>rw[e3] at W1;exact W1.elim
   |cons o r=>
    cases o with
    |none=>rw[e3] at W1;exact W1.elim
    |some t'=>
     rw[e3] at W1
     have M4:MRL G F.toFx ρ3 H3 σ tv {s3 with tm:=r} [t'] [v]:=MRL.down (ts:=[]) (vs:=[]) ⟨M3,rfl,fun l h=>by simp[labsL] at h⟩ e3
     exact zfR M4 W1
end
end Mi
namespace Mi
open PySem L2 PySem.Spec
theorem z6Q(v sl:Expr)(p:Pos)(args:List Expr)(kws:List Keyword)(pos:Pos)(env:Env):eval (.Call (.Subscript v sl p) args kws pos) env=(do
 callWith pos (<-eval (.Subscript v sl p) env) [] (backTo pos (starEach args env)) (backToKw pos (keywordEach kws env))):=rfl
noncomputable def z4H(m:M D)(tb:Str->Option FM)(ms:List (M D)):M D:=bd m fun d=>match d with
 | .fn c=>(match tb c with|some f=>z1m f ms|none=>fl)
 |_=>fl
section
variable{X:Cx}{G:Gx}{F:Fy}{E:L2.St->XK}
theorem se_callE{e a1 a2:Expr}{es:List Expr}{pos p:Pos}{m:M D}{tb:Str->Option FM}{ms:List (M D)}(hx:XP X G F E)(hK:X.K=G.K){np:Nat}(ht: ∀c a f,G.cl c=some a->tb c=some f->FnV X G np a f)(hf:SE X G F (.Subscript a1 a2 p) m)
 (ha:SA X G F (e::es) (mArgs ms)) (hnp:ms.length=np) (he:starEach (e::es) X.env=(false,eval e X.env)::starEach es X.env:=by rfl) (hpl:(backTo pos (starEach es X.env)).any (·.1)=false:=by rfl):
 SE X G F (.Call (.Subscript a1 a2 p) (e::es) [] pos) (z4H m tb ms):=by
 subst hnp
 intro pins s σ H Q I ⟨tv,hs,ρ,ms0,M,Y⟩
 rw[z6Q]
 refine wpAny_bind (thn (hf pins s σ H _ I ⟨tv,z4e ⟨hs,ρ,ms0,M,Y⟩⟩) fun u s1 ⟨v',H1,I1,r1,ρ1,ms1,t,M1,W1⟩=> ?_)
 cases t with
 |fn c=>
  dsimp only at W1
  cases et:tb c with
  |none=>rw[et] at W1;exact False.elim W1
  |some f=>
   rw[et] at W1
   have h2:=M1.rd1
   simp only[RD] at h2
   obtain⟨a,rfl,hc⟩:=h2
   have e3:u= .ref a:=r1
   subst e3
   obtain⟨k,fd,ps,hl,Fn,hr,hkp,hb⟩:=(ht c a f hc et).ex
   refine W.callWith_K (h₀:=X.base) I1.ok.mod.kin hkp (thn (ha pos pins s1 σ H1 (fun vs H2=>spX G ms.length f vs H2 Q (E σ)) I1 ?_) fun us s2 ⟨vs,H2,I2,r,q⟩=>⟨I2.kIn, ?_⟩) he hpl
   ·refine⟨tv,hs,ρ1,ms1,M1.m, ?_⟩
    have W2:wM G F σ tv (z1m f ms ms1) Q:=W1
    unfold z1m bd at W2
    cases e4:mArgs ms ms1 with
    |ex d s1=>rw[e4] at W2;exact W2
    |no=>rw[e4] at W2;exact W2
    |ok ts s1=>
     rw[e4] at W2
     intro ρ2 vs H2 M2
     exact z5n hx hs (by rw[<-M2.rd.length,z4B ms ms1 ts s1 e4]) M2 W2
   ·have hl2:us.length=ps.length:=by rw[<-r.length];exact Fn.len _ _ _ _ q
    have hb2:=hb s2 us I2.kIn (by rw[List.append_nil];exact hl2)
    rw[List.append_nil] at hb2
    refine wpAny_call (codeAny_mono (Fn.run X.A X.stack s2 H2 ⟨us,[]⟩ us vs Q (E σ) hr I2.env0 hb2 r q) fun r s' hq=> ?_)
    cases r with
    |error e=>exact hx.ps pins σ H2 s2 e s' I2 hq
    |ok fl=>
     cases fl with
     |ret u=>exact I2.after hq
     |next=>exact False.elim hq
     |brk=>exact False.elim hq
     |cont=>exact False.elim hq
 |_=>exact False.elim W1
end
end Mi
namespace L2
open PySem PySem.Spec PyProof.Rows
section
variable{X:Cx}{a b c d:Expr}{pos:Pos}{ta tb tc td:TE}
noncomputable def z9N(r r' r'':R2)(ta tb tc td:TE):TE:=fun σ H Q=>ta σ H fun x H1=>tb σ H1 fun y H2=>r x y H2 fun z H3=> ∃k,z= .bl k/\
 (if k=true then tc σ H3 fun w H4=>r' y w H4 fun z' H5=> ∃k',z'= .bl k'/\(if k'=true then td σ H5 fun u H6=>r'' w u H6 Q else Q (.bl false) H5) else Q (.bl false) H3)
theorem z9O{op op' op'':CmpOp}{r r' r'':R2}(ho:OpR X (compareOp op) r)(ho':OpR X (compareOp op') r')(ho'':OpR X (compareOp op'') r'')(ha:PE X a ta)(hb:PE X b tb)(hc:PE X c tc)(hd:PE X d td)
 (hm:lastMarks [op,op',op''] [b,c,d]=false:=by with_unfolding_all rfl):PT X (.Compare a [op,op',op''] [b,c,d] pos) (zcV (z9N r r' r'' ta tb tc td)):=by
 intro pins s σ H Q I h
 refine isTrue_chain (thn (ha pins s σ H _ I h) fun v s1 ⟨x,H1,I1,r1,q1⟩=>test_link (thn (hb pins s1 σ H1 _ I1 q1) fun u s2 ⟨y,H2,I2,r2,q2⟩=>
  thn (ho pins s2 σ H2 x y v u _ I2 r1 r2 q2) fun d s3 ⟨z,H3,I3,r3,k,e,q3⟩=> ?_)) hm
 subst e
 cases r3
 refine wpAny_truthy_bool ?_
 cases k with
 |false=>
  obtain⟨k',e',q'⟩:=q3
  cases e'
  exact ite_ff ⟨H3,I3,q'⟩
 |true=>
  refine ite_tt (test_link (thn (hc pins s3 σ H3 _ I3 q3) fun w' s4 ⟨z',H4,I4,r4,q4⟩=>thn (ho' pins s4 σ H4 y z' u w' _ I4 r2 r4 q4) fun d' s5 ⟨z2,H5,I5,r5,k2,e2,q5⟩=> ?_))
  subst e2
  cases r5
  refine wpAny_truthy_bool ?_
  cases k2 with
  |false=>
   obtain⟨k',e',q'⟩:=q5
   cases e'
   exact ite_ff ⟨H5,I5,q'⟩
  |true=>
   refine ite_tt (test_last (thn (hd pins s5 σ H5 _ I5 q5) fun w6 s6 ⟨z6,H6,I6,r6,q6⟩=>thn (ho'' pins s6 σ H6 z' z6 w' w6 _ I6 r4 r6 q6) fun d7 s7 ⟨z7,H7,I7,r7,k7,e7,q7⟩=> ?_))
   subst e7
   cases r7
   exact wpAny_truthy_bool ⟨H7,I7,q7⟩
end
end L2
namespace Mi
open PySem L2 PySem.Spec
noncomputable def z6R(y:D)(mc:M D)(g:D->D->M D)(f:D->M D):M D:=bd mc fun z=>z3N z (bd (mBoo (g y z)) fun k=>iteM k (f z) (rt (.bool false)))
noncomputable def z4I(ma mb mc md:M D)(g g' g'':D->D->M D):M D:=bd ma fun x=>bd (psh x) fun _=>bd mb fun y=>bd pop fun x'=>z3N y (bd (mBoo (g x' y)) fun k=>iteM k (z6R y mc g' fun z=>bd md fun w=>g'' z w) (rt (.bool false)))
section
variable{X:Cx}{G:Gx}{F:Fy}{a b c d:Expr}{pos:Pos}
theorem z9P{ρ:Nat->Addr}{H:Hp}{t':D}{u u':V}(e:cV t'=some u')(h2:RD G ρ H t' u):u=u':=by
 cases t'<;>simp only[cV,Option.some.injEq] at e<;>simp only[RD] at h2<;>first|(rw[h2,e])|cases e
theorem z9Q{ρ:Nat->Addr}{H:Hp}{σ tv:List (Option V)}{s:Stt}{t t':D}{u u':V}(e:cV t=some u)(M:MRL G F.toFx ρ H σ tv s [t'] [u']):MRL G F.toFx ρ H σ tv s [t,t'] [u,u']:=by
 refine⟨M.m, ?_,fun l hl=> ?_⟩
 ·simp only[RDs];exact⟨_,_,rfl,(z5G e).1,_,_,rfl,M.rd1,rfl⟩
 ·simp only[labsL,(z5G (G:=G) (ρ:=ρ) (H:=H) e).2,List.nil_append,List.append_nil] at hl
  exact M.lb1 l hl
theorem z8B{ma mb mc md:M D}{g g' g'':D->D->M D}{r r' r'':R2}{σ:St}{H:Hp}{Q:VK}(hg:z1p G F r g)(hg':z1p G F r' g')(hg'':z1p G F r'' g'')(h:tM G F (z4I ma mb mc md g g' g'') σ H Q):z9N r r' r'' (tM G F ma) (tM G F mb) (tM G F mc) (tM G F md) σ H Q:=by
 obtain⟨tv,h⟩:=h
 have hs:=h.1
 refine⟨tv,(z6H (g:=fun x' y=>z3N y (bd (mBoo (g x' y)) fun k=>iteM k (z6R y mc g' fun z=>bd md fun w=>g'' z w) (rt (.bool false)))) h).mono fun v H1 h1=>⟨_,h1.mono fun u H2 ⟨ρ,s,t,t',M,W⟩=> ?_⟩⟩
 unfold z3N at W
 cases e:cV t' with
 |none=>rw[e] at W;exact False.elim W
 |some u'=>
  rw[e] at W
  have hu:u=u':=z9P e M.rd2.2
  subst hu
  unfold bd mBoo at W
  dsimp only at W
  refine hg ρ s t t' v u H2 σ tv _ M ?_
  unfold bd at W
  cases e2:g t t' s with
  |ok z s1=>
   rw[e2] at W
   intro ρ1 w H3 M3
   have h3:=M3.rd1
   cases z with
   |bool k=>
    simp only[RD] at h3
    refine⟨k,h3, ?_⟩
    have W:wM G F σ tv (iteM k (z6R t' mc g' fun z=>bd md fun w=>g'' z w) (rt (.bool false)) s1) Q:=W
    cases k with
    |false=>rw[if_neg Bool.false_ne_true];exact W.flat M3.m rfl
    |true=>
     rw[if_pos rfl]
     have W:wM G F σ tv (z6R t' mc g' (fun z=>bd md fun w=>g'' z w) s1) Q:=W
     have h5:tMv G F (z6R t' mc g' (fun z=>bd md fun w=>g'' z w)) σ tv H3 Q:=⟨hs,ρ1,s1,M3.m,W⟩
     unfold z6R at h5
     refine⟨tv,(z4e h5).mono fun w' H4 ⟨ρ4,s4,t4,M4,W4⟩=> ?_⟩
     unfold z3N at W4
     cases e4:cV t4 with
     |none=>rw[e4] at W4;exact False.elim W4
     |some u4=>
      rw[e4] at W4
      have hu4:w'=u4:=z9P e4 M4.rd1
      subst hu4
      unfold bd mBoo at W4
      dsimp only at W4
      refine hg' ρ4 s4 t' t4 u w' H4 σ tv _ (z9Q e M4) ?_
      unfold bd at W4
      cases e5:g' t' t4 s4 with
      |ok z5 s5=>
       rw[e5] at W4
       intro ρ5 w5 H5 M5
       have h6:=M5.rd1
       cases z5 with
       |bool k5=>
        simp only[RD] at h6
        refine⟨k5,h6, ?_⟩
        have W5:wM G F σ tv (iteM k5 (bd md fun w=>g'' t4 w) (rt (.bool false)) s5) Q:=W4
        cases k5 with
        |false=>rw[if_neg Bool.false_ne_true];exact W5.flat M5.m rfl
        |true=>
         rw[if_pos rfl]
         have h7:tMv G F (bd md fun w=>g'' t4 w) σ tv H5 Q:=⟨hs,ρ5,s5,M5.m,W5⟩
         exact⟨tv,(z4e h7).mono fun w8 H8 ⟨ρ8,s8,t8,M8,W8⟩=>hg'' ρ8 s8 t4 t8 w' w8 H8 σ tv Q (z9Q e4 M8) W8⟩
       |_=>exact False.elim W4
      |ex d s1=>rw[e5] at W4;exact W4
      |no=>rw[e5] at W4;exact W4
   |_=>exact False.elim W
  |ex d s1=>rw[e2] at W;exact W
  |no=>rw[e2] at W;exact W
theorem sb_cmp3{op op' op'':CmpOp}{ma mb mc md:M D}{g g' g'':D->D->M D}(hc:Cm X G F op g)(hc':Cm X G F op' g')(hc'':Cm X G F op'' g'')(ha:SE X G F a ma)(hb:SE X G F b mb)(hcc:SE X G F c mc)(hd:SE X G F d md)(hm:lastMarks [op,op',op''] [b,c,d]=false:=by with_unfolding_all rfl):SB X G F (.Compare a [op,op',op''] [b,c,d] pos) (mBoo (z4I ma mb mc md g g' g'')):=by
 obtain⟨r,h1,h2⟩:=hc.h
 obtain⟨r',h1',h2'⟩:=hc'.h
 obtain⟨r'',h1'',h2''⟩:=hc''.h
 exact PT.imp0 (z9O h1 h1' h1'' ha hb hcc hd hm) fun _ _ _ h=>z8B h2 h2' h2'' (z7i h)
end
end Mi
namespace My
open PySem L2 PySem.Spec PyProof.Rows Mi
@[irreducible] noncomputable def SE(X:Cx)(G:Gx)(F:Fy)(e:Expr)(m:M D):Prop:=Mi.SE X G F e m
theorem eSE(X:Cx)(G:Gx)(F:Fy)(e:Expr)(m:M D):SE X G F e m=Mi.SE X G F e m:=by unfold SE;rfl
@[irreducible] noncomputable def SA(X:Cx)(G:Gx)(F:Fy)(e:List Expr)(m:M (List D)):Prop:=Mi.SA X G F e m
theorem eSA(X:Cx)(G:Gx)(F:Fy)(e:List Expr)(m:M (List D)):SA X G F e m=Mi.SA X G F e m:=by unfold SA;rfl
@[irreducible] noncomputable def SB(X:Cx)(G:Gx)(F:Fy)(e:Expr)(m:M Bool):Prop:=Mi.SB X G F e m
theorem eSB(X:Cx)(G:Gx)(F:Fy)(e:Expr)(m:M Bool):SB X G F e m=Mi.SB X G F e m:=by unfold SB;rfl
@[irreducible] noncomputable def SW(X:Cx)(G:Gx)(F:Fy)(e:Expr)(m:M Bool):Prop:=Mi.SW X G F e m
theorem eSW(X:Cx)(G:Gx)(F:Fy)(e:Expr)(m:M Bool):SW X G F e m=Mi.SW X G F e m:=by unfold SW;rfl
@[irreducible] noncomputable def SS(X:Cx)(G:Gx)(F:Fy)(e:Stmt)(m:MS):Prop:=Mi.SS X G F e m
theorem eSS(X:Cx)(G:Gx)(F:Fy)(e:Stmt)(m:MS):SS X G F e m=Mi.SS X G F e m:=by unfold SS;rfl
@[irreducible] noncomputable def SSs(X:Cx)(G:Gx)(F:Fy)(e:List Stmt)(m:MS):Prop:=Mi.SSs X G F e m
theorem eSSs(X:Cx)(G:Gx)(F:Fy)(e:List Stmt)(m:MS):SSs X G F e m=Mi.SSs X G F e m:=by unfold SSs;rfl
@[irreducible] noncomputable def SG(X:Cx)(G:Gx)(F:Fy)(e:Expr)(m:Tg):Prop:=Mi.SG X G F e m
theorem eSG(X:Cx)(G:Gx)(F:Fy)(e:Expr)(m:Tg):SG X G F e m=Mi.SG X G F e m:=by unfold SG;rfl
@[irreducible] noncomputable def SGs(X:Cx)(G:Gx)(F:Fy)(e:List Expr)(m:List Tg):Prop:=Mi.SGs X G F e m
theorem eSGs(X:Cx)(G:Gx)(F:Fy)(e:List Expr)(m:List Tg):SGs X G F e m=Mi.SGs X G F e m:=by unfold SGs;rfl
@[irreducible] noncomputable def SI(X:Cx)(G:Gx)(F:Fy)(tg e:Expr)(m:M ItK):Prop:=Mi.SI X G F tg e m
theorem eSI(X:Cx)(G:Gx)(F:Fy)(tg e:Expr)(m:M ItK):SI X G F tg e m=Mi.SI X G F tg e m:=by unfold SI;rfl
@[irreducible] noncomputable def SO(X:Cx)(G:Gx)(F:Fy)(e:Option Expr)(m:Option (M D)):Prop:=Mi.SO X G F e m
theorem eSO(X:Cx)(G:Gx)(F:Fy)(e:Option Expr)(m:Option (M D)):SO X G F e m=Mi.SO X G F e m:=by unfold SO;rfl
@[irreducible] noncomputable def STs(X:Cx)(G:Gx)(F:Fy)(e:List Expr)(m:M Bool):Prop:=Mi.STs X G F e m
theorem eSTs(X:Cx)(G:Gx)(F:Fy)(e:List Expr)(m:M Bool):STs X G F e m=Mi.STs X G F e m:=by unfold STs;rfl
local macro_rules | `(tactic| walk_at "go") => `(tactic| (simp only [eSE, eSA, eSB, eSW, eSS, eSSs, eSG, eSGs, eSI, eSO, eSTs] at *))
section
variable{X:Cx}{G:Gx}{F:Fy}{e a b c:Expr}{pos:Pos}
theorem se_var(i:Nat){x:Str}(hk:X.K=G.K)(h:PE X (.Name x pos) (tVar i)):SE X G F (.Name x pos) (mVar i):=by
 walk_at "go"
 exact Mi.se_var i hk h
theorem se_c{d:D}{v:V}(hk:X.K=G.K)(h:PE X e (tC v))(hd:cV d=some v:=by rfl):SE X G F e (mC d):=by
 walk_at "go"
 exact Mi.se_c hk h hd
theorem so_none:SO X G F none none:=by
 walk_at "go"
 exact Mi.so_none
theorem so_some{m:M D}(h:SE X G F e m):SO X G F (some e) (some m):=by
 walk_at "go"
 exact Mi.so_some h
theorem se_slice{lo hi:Option Expr}{p2:Pos}{m:M D}{ml mh:Option (M D)}(hk:X.K=G.K)(he:SE X G F e m)(hl:SO X G F lo ml)(hh:SO X G F hi mh):SE X G F (.Subscript e (.Slice lo hi none p2) pos) (mSl m ml mh):=by
 walk_at "go"
 exact Mi.se_slice hk he hl hh
theorem se_tup{es:List Expr}{ms:List (M D)}{x1}(hk:X.K=G.K)(h:SA X G F es (mArgs ms)):SE X G F (.Tuple es x1 pos) (mCB ms tupD):=by
 walk_at "go"
 exact Mi.se_tup hk h
theorem se_lst{es:List Expr}{ms:List (M D)}(hk:X.K=G.K)(h:SA X G F es (mArgs ms)):SE X G F (.List es pos) (mCB ms lstM):=by
 walk_at "go"
 exact Mi.se_lst hk h
theorem sb_truth{m:M D}(hk:X.K=G.K)(ha:SE X G F a m)(he: ∀whole,isTrue a X.env whole=(do let v<-whole;standAt a.pos;holding [v] (truthy v)):=by intro _;rfl):SB X G F a (z25 m):=by
 walk_at "go"
 exact Mi.sb_truth hk ha he
theorem SW.sb{m:M Bool}(h:SW X G F e m):SB X G F e m:=by
 walk_at "go"
 exact Mi.SW.sb h
theorem sw_and1{m:M Bool}(h:SB X G F a m):SW X G F (.BoolOp .And [a] pos) m:=by
 walk_at "go"
 exact Mi.sw_and1 h
theorem sw_or1{m:M Bool}(h:SB X G F a m):SW X G F (.BoolOp .Or [a] pos) m:=by
 walk_at "go"
 exact Mi.sw_or1 h
theorem sw_and{rest:List Expr}{m m':M Bool}(ha:SB X G F a m)(hb:SW X G F (.BoolOp .And (b::rest) pos) m'):SW X G F (.BoolOp .And (a::b::rest) pos) (mAnd m m'):=by
 walk_at "go"
 exact Mi.sw_and ha hb
theorem sw_or{rest:List Expr}{m m':M Bool}(ha:SB X G F a m)(hb:SW X G F (.BoolOp .Or (b::rest) pos) m'):SW X G F (.BoolOp .Or (a::b::rest) pos) (mOr m m'):=by
 walk_at "go"
 exact Mi.sw_or ha hb
theorem sb_not{m:M Bool}(ha:SB X G F a m):SB X G F (.UnaryOp .Not a pos) (mNot m):=by
 walk_at "go"
 exact Mi.sb_not ha
theorem se_one{op}{m:M D}(h:SE X G F a m):SE X G F (.BoolOp op [a] pos) m:=by
 walk_at "go"
 exact Mi.se_one h
theorem se_and{rest:List Expr}{m m':M D}(ha:SE X G F a m)(hb:SE X G F (.BoolOp .And (b::rest) pos) m'):SE X G F (.BoolOp .And (a::b::rest) pos) (z1J m m'):=by
 walk_at "go"
 exact Mi.se_and ha hb
theorem se_or{rest:List Expr}{m m':M D}(ha:SE X G F a m)(hb:SE X G F (.BoolOp .Or (b::rest) pos) m'):SE X G F (.BoolOp .Or (a::b::rest) pos) (mOrV m m'):=by
 walk_at "go"
 exact Mi.se_or ha hb
theorem se_not{m:M D}(ha:SE X G F a m):SE X G F (.UnaryOp .Not a pos) (z3M m):=by
 walk_at "go"
 exact Mi.se_not ha
theorem se_ifExp{mc:M Bool}{m m':M D}(hc:SB X G F c mc)(ha:SE X G F a m)(hb:SE X G F b m'):SE X G F (.IfExp c a b pos) (mIf mc m m'):=by
 walk_at "go"
 exact Mi.se_ifExp hc ha hb
theorem se_isi{p:Pos}{x y:Expr}{T:String}{m:M D}(hk:X.K=G.K)(hT:T= "int" \/T= "bool" \/T= "tuple" \/T= "list" \/T= "str")(hgl:Gl X "isinstance")(hm:X.mg "isinstance" =none)(ha:SE X G F x m)(hy:PE X y (tC (.ty T)))
 (he:starEach [x,y] X.env=(false,eval x X.env)::starEach [y] X.env:=by rfl) (he2:starEach [y] X.env=(false,eval y X.env)::starEach [] X.env:=by rfl) (hpl:(backTo pos (starEach [y] X.env)).any (·.1)=false:=by rfl):SE X G F (.Call (.Name "isinstance" p) [x,y] [] pos) (mIsi T m):=by
 walk_at "go"
 exact Mi.se_isi hk hT hgl hm ha hy he he2 hpl
end
section
variable{X:Cx}{G:Gx}{F:Fy}{e a b c:Expr}{st:Stmt}{sts rest:List Stmt}{pos:Pos}
theorem ss_nil:SSs X G F [] sNx:=by
 walk_at "go"
 exact Mi.ss_nil
theorem ss_cons{m m':MS}(h1:SS X G F st m)(h2:SSs X G F rest m'):SSs X G F (st::rest) (seqS m m'):=by
 walk_at "go"
 exact Mi.ss_cons h1 h2
theorem ss_one{m:MS}(h1:SS X G F st m):SSs X G F [st] m:=by
 walk_at "go"
 exact Mi.ss_one h1
theorem ss_expr{m:M D}(he:SE X G F e m)(hs:swapsWith e none pos.line X.env=pure false:=by rfl):SS X G F (.Expr e pos) (z7j m):=by
 walk_at "go"
 exact Mi.ss_expr he hs
theorem ss_ret{m:M D}(he:SE X G F e m):SS X G F (.Return (some e) pos) (sRet m):=by
 walk_at "go"
 exact Mi.ss_ret he
theorem ss_if{x y:List Stmt}{mc:M Bool}{m m':MS}(hc:SB X G F c mc)(ha:SSs X G F x m)(hb:SSs X G F y m'):SS X G F (.If c x y pos) (sIf mc m m'):=by
 walk_at "go"
 exact Mi.ss_if hc ha hb
theorem sg_name{i:Nat}{x:Str}{p:Pos}(h:PG X (.Name x p) (z8n i)):SG X G F (.Name x p) (.nm i):=by
 walk_at "go"
 exact Mi.sg_name h
theorem sgs_nil:SGs X G F [] []:=by
 walk_at "go"
 exact Mi.sgs_nil
theorem sgs_cons{es:List Expr}{g:Tg}{gs:List Tg}(h1:SG X G F e g)(h2:SGs X G F es gs)(hs:(assignEach (e::es) X.env).map (·.2)=assign e X.env::(assignEach es X.env).map (·.2):=by rfl):SGs X G F (e::es) (g::gs):=by
 walk_at "go"
 exact Mi.sgs_cons h1 h2 hs
theorem sg_tup{es:List Expr}{k:Nat}{gs:List Tg}(hk:X.K=G.K)(hc:X.calm=true)(h:SGs X G F es gs)(hn:(assignEach es X.env).length=gs.length:=by rfl)(hst:(assignEach es X.env).findIdx? (·.1)=none:=by rfl):SG X G F (.Tuple es k pos) (.tp gs):=by
 walk_at "go"
 exact Mi.sg_tup hk hc h hn hst
theorem ss_asg{tg:Expr}{g:Tg}{m:M D}(he:SE X G F e m)(hg:SG X G F tg g)(hs:swapsWithSole [tg] e pos.line X.env=pure false:=by rfl)(hw:swappedStores [tg] e X.env=pure none:=by rfl)
 (h1:(assignEach [tg] X.env).map (·.2)=[assign tg X.env]:=by rfl):SS X G F (.Assign [tg] e pos) (sAsg g m):=by
 walk_at "go"
 exact Mi.ss_asg he hg hs hw h1
theorem ss_set{i:Nat}{x:Str}{p:Pos}{m:M D}(h: ∀{te:TE},PE X e te->PS X (.Assign [.Name x p] e pos) (tAsg te (z8n i)))(he:SE X G F e m):SS X G F (.Assign [.Name x p] e pos) (sAsg (.nm i) m):=by
 walk_at "go"
 exact Mi.ss_set h he
end
section
variable{X:Cx}{G:Gx}{F:Fy}{e a b c tg iter:Expr}{pos:Pos}
theorem si_seq{m:M D}(hk:X.K=G.K)(h:SE X G F e m):SI X G F tg e (z0L m):=by
 walk_at "go"
 exact Mi.si_seq hk h
theorem si_rng1{p:Pos}{ms:List (M D)}(hg:Gl X "range")(hm:X.mg "range" =none)(ha:SA X G F [a] (mArgs ms))(hs:starEach [a] X.env=[(false,eval a X.env)]:=by rfl):SI X G F tg (.Call (.Name "range" p) [a] [] pos) (z2Z ms):=by
 walk_at "go"
 exact Mi.si_rng1 hg hm ha hs
theorem ss_for{body:List Stmt}{mi:M ItK}{g:Tg}{mb:MS}(hp:PassesOwn (model X.prog X.w) X.A X.env X.xe)(hc:X.calm=true)(hi:SI X G F tg iter mi)(hg:SG X G F tg g)(hb:SSs X G F body mb)(hst: ∀x,foldedSetIterable iter X.env x=pure x:=by intro _;rfl):SS X G F (.For tg iter body [] pos) (sFor mi g mb):=by
 walk_at "go"
 exact Mi.ss_for hp hc hi hg hb hst
end
section
variable{X:Cx}{G:Gx}{F:Fy}{e a b c tg iter elt:Expr}{pos:Pos}
theorem sts_nil:STs X G F [] (rt true):=by
 walk_at "go"
 exact Mi.sts_nil
theorem sts_one{m:M Bool}(h:SB X G F c m):STs X G F [c] m:=by
 walk_at "go"
 exact Mi.sts_one h
theorem se_comp{scope:Scope}{own frees:List Str}{ix:List Nat}{ifs:List Expr}{mi:M ItK}{g:Tg}{mt:M Bool}{me:M D}(hk:X.K=G.K)(hc:X.calm=true)(S:z1k X.env.scope scope own frees X.N ix)(hi:SI X G F tg iter mi)
 (hg: ∀(F:Fy) cl C s₀ H₀ fp pn,SG (z0z X scope own frees cl C s₀ H₀ fp pn) G F tg g) (ht: ∀(F:Fy) cl C s₀ H₀ fp pn,STs (z0z X scope own frees cl C s₀ H₀ fp pn) G F ifs mt) (he: ∀(F:Fy) cl C s₀ H₀ fp pn,SE (z0z X scope own frees cl C s₀ H₀ fp pn) G F elt me)
 (hs: ∀x,foldedSetIterable iter X.env x=pure x:=by intro _;rfl):SE X G F (.ListComp elt [⟨tg,iter,ifs,0⟩] scope pos) (z0w mi g mt me own.length ix):=by
 walk_at "go"
 exact Mi.se_comp hk hc S hi hg ht he hs
theorem ss_comp{y:Str}{py spos:Pos}{i:Nat}{scope:Scope}{own frees:List Str}{ix:List Nat}{ifs:List Expr}{mi:M ItK}{g:Tg}{mt:M Bool}{me:M D}(hk:X.K=G.K)(hN:X.N.Nodup)(hy:X.N[i]? =some y)(hx:Loc X.env.scope y)(hfn:X.fn y=true\/X.env.scope.names.lookup y=some .local)(hsw:swapsWith (.ListComp elt [⟨tg,iter,ifs,0⟩] scope pos) (some (.Name y py)) spos.line X.env=pure true)
 (hc:X.calm=true) (S:z1k X.env.scope scope own frees X.N ix) (hi:SI X G F tg iter mi)
 (hg: ∀(F:Fy) cl C s₀ H₀ fp pn,SG (z0z X scope own frees cl C s₀ H₀ fp pn) G F tg g) (ht: ∀(F:Fy) cl C s₀ H₀ fp pn,STs (z0z X scope own frees cl C s₀ H₀ fp pn) G F ifs mt) (he: ∀(F:Fy) cl C s₀ H₀ fp pn,SE (z0z X scope own frees cl C s₀ H₀ fp pn) G F elt me)
 (hs: ∀x,foldedSetIterable iter X.env x=pure x:=by intro _;rfl):SS X G F (.Assign [.Name y py] (.ListComp elt [⟨tg,iter,ifs,0⟩] scope pos) spos) (sAsg (.nm i) (z0w mi g mt me own.length ix)):=by
 walk_at "go"
 exact Mi.ss_comp hk hN hy hx hfn hsw hc S hi hg ht he hs
end
section
variable{G:Gx}{ρ:Nat->Addr}{H:Hp}
section
variable(k:KD G.K H){n:Nat}(inj: ∀i j,i<n->j<n->ρ i=ρ j->i=j)
include k inj
end
end
section
variable{G:Gx}{ρ ρ':Nat->Addr}{H H':Hp}
section
variable(k:KD G.K H){n:Nat}(inj: ∀i j,i<n->j<n->ρ i=ρ j->i=j){ts:List D}{vs:List V}(r:RDs G ρ H ts vs)(lb: ∀l∈labsL ts,l<n)
include k inj r lb
end
variable{F:Fy}{σv tv:List (Option V)}{s:Stt}{np:Nat}
theorem se_call{X:Cx}{e:Expr}{es:List Expr}{pos p:Pos}{CX:CXT}{k:Nat}{fa:Addr}{fd:FuncData}{ps:List Str}{x:Str}{E:XK}{f:FM}{ms:List (M D)}(hk:X.K=G.K)(Fn:FnOk X.prog X.w X.K X.mg X.base CX k fa fd ps (spM G ps.length f))(hr:Room k X.A)(hg:Gl X x)(hm:X.mg x=some (.ref fa))(hkp:W.keepIn X.K (.ref fa)=true)(hb:z3H X.K fd ps [])(hx:z4r CX X E)
 (ha:SA X G F (e::es) (mArgs ms)) (hln:ms.length=ps.length) (hdb:(x==("__debug__" :Str))=false:=by decide) (he:starEach (e::es) X.env=(false,eval e X.env)::starEach es X.env:=by rfl) (hpl:(backTo pos (starEach es X.env)).any (·.1)=false:=by rfl):
 SE X G F (.Call (.Name x p) (e::es) [] pos) (z02 f ms):=by
 walk_at "go"
 exact Mi.se_call hk Fn hr hg hm hkp hb hx ha hln hdb he hpl
theorem fn_M{P:Program}{w:World}{K:W.Frag}{mg:Str->Option Value}{base:Heap}{x qual:Str}{st:Stmt}{fa:Addr}{fd:FuncData}{N ps:List Str}{k:Nat}{mb:MS}(Fn:Fun K x qual st fa fd)(S:z06 N ps (z01 st))(hG:G.K=K)
 (hb: ∀(cdv:Value) (A:Around) (outer:List Env) (s:Shared) (H:Hp) (E:XK) (F:Fy),Room k (A.deeper (envOfC qual (z01 st) s.heap.objs.size fa cdv))->SSs (cxOf CX0 P w K mg base N qual (z01 st) fa cdv A outer s H E).nox G F (z0R st) mb):
 FnOk P w K mg base CX0 (k+1) fa fd ps (spM G ps.length (runF N.length mb)):=by
 walk_at "go"
 exact Mi.fn_M Fn S hG hb
end
section
variable{X:Cx}{G:Gx}{F:Fy}{e o:Expr}{es:List Expr}{apos cpos:Pos}
theorem ss_setI{ob ix:Expr}{pos tpos:Pos}{mo mi me:M D}(he:SE X G F e me)(ho:SE X G F ob mo)(hi:SE X G F ix mi)(hg: ∀{to ti:TE},PE X ob to->PE X ix ti->PG X (.Subscript ob ix tpos) (gSub to ti zaX))(hs:swapsWithSole [.Subscript ob ix tpos] e pos.line X.env=pure false:=by rfl)(hw:swappedStores [.Subscript ob ix tpos] e X.env=pure none:=by rfl)
 (h1:(assignEach [.Subscript ob ix tpos] X.env).map (·.2)=[assign (.Subscript ob ix tpos) X.env]:=by rfl):SS X G F (.Assign [.Subscript ob ix tpos] e pos) (mTri me mo mi setD):=by
 walk_at "go"
 exact Mi.ss_setI he ho hi hg hs hw h1
end
section
variable{X:Cx}{G:Gx}{F:Fy}{e a b c:Expr}{pos:Pos}{ma mb mc m:M D}
theorem se_add(hk:X.K=G.K)(ha:SE X G F a ma)(hb:SE X G F b mb):SE X G F (.BinOp a .Add b pos) (mBin ma mb addD):=by
 walk_at "go"
 exact Mi.se_add hk ha hb
theorem se_sub(hk:X.K=G.K)(ha:SE X G F a ma)(hb:SE X G F b mb):SE X G F (.BinOp a .Sub b pos) (mBin ma mb subD):=by
 walk_at "go"
 exact Mi.se_sub hk ha hb
theorem se_mul(hk:X.K=G.K)(ha:SE X G F a ma)(hb:SE X G F b mb):SE X G F (.BinOp a .Mult b pos) (mBin ma mb mulD):=by
 walk_at "go"
 exact Mi.se_mul hk ha hb
theorem se_fdiv(hk:X.K=G.K)(ha:SE X G F a ma)(hb:SE X G F b mb):SE X G F (.BinOp a .FloorDiv b pos) (mBin ma mb z6I):=by
 walk_at "go"
 exact Mi.se_fdiv hk ha hb
theorem se_mod(hk:X.K=G.K)(ha:SE X G F a ma)(hb:SE X G F b mb):SE X G F (.BinOp a .Mod b pos) (mBin ma mb modD):=by
 walk_at "go"
 exact Mi.se_mod hk ha hb
theorem se_pow(hk:X.K=G.K)(ha:SE X G F a ma)(hb:SE X G F b mb):SE X G F (.BinOp a .Pow b pos) (mBin ma mb powD):=by
 walk_at "go"
 exact Mi.se_pow hk ha hb
theorem se_neg(hk:X.K=G.K)(ha:SE X G F a ma):SE X G F (.UnaryOp .USub a pos) (bd ma negD):=by
 walk_at "go"
 exact Mi.se_neg hk ha
theorem se_cmp{op:CmpOp}{g:D->D->M D}(hc:Cm X G F op g)(ha:SE X G F a ma)(hb:SE X G F b mb)(hm:behindInMarks op b=false):SE X G F (.Compare a [op] [b] pos) (mBin ma mb g):=by
 walk_at "go"
 exact Mi.se_cmp hc ha hb hm
theorem sb_cmp{op:CmpOp}{g:D->D->M D}(hc:Cm X G F op g)(ha:SE X G F a ma)(hb:SE X G F b mb)(hm:behindInMarks op b=false):SB X G F (.Compare a [op] [b] pos) (mBoo (mBin ma mb g)):=by
 walk_at "go"
 exact Mi.sb_cmp hc ha hb hm
theorem se_cmp2{op op':CmpOp}{g g':D->D->M D}(hc:Cm X G F op g)(hc':Cm X G F op' g')(ha:SE X G F a ma)(hb:SE X G F b mb)(hcc:SE X G F c mc)(hm:lastMarks [op,op'] [b,c]=false:=by with_unfolding_all rfl):SE X G F (.Compare a [op,op'] [b,c] pos) (z0P ma mb mc g g'):=by
 walk_at "go"
 exact Mi.se_cmp2 hc hc' ha hb hcc hm
theorem sb_cmp2{op op':CmpOp}{g g':D->D->M D}(hc:Cm X G F op g)(hc':Cm X G F op' g')(ha:SE X G F a ma)(hb:SE X G F b mb)(hcc:SE X G F c mc)(hm:lastMarks [op,op'] [b,c]=false:=by with_unfolding_all rfl):SB X G F (.Compare a [op,op'] [b,c] pos) (mBoo (z0P ma mb mc g g')):=by
 walk_at "go"
 exact Mi.sb_cmp2 hc hc' ha hb hcc hm
theorem se_idx(hk:X.K=G.K)(ha:SE X G F a ma)(hb:SE X G F b mb)(hs:z2K b):SE X G F (.Subscript a b pos) (mBin ma mb ixD):=by
 walk_at "go"
 exact Mi.se_idx hk ha hb hs
theorem se_cb{x:Str}{p:Pos}{es:List Expr}{ms:List (M D)}{g:List D->M D}{id:String}(hk:X.K=G.K)(hc:Cb X G F (.builtin id) g)(hgl:Gl X x)(hm:X.mg x=none)(hv:bootBuiltins x=some (.builtin id))(ha:SA X G F (e::es) (mArgs ms))(hn:x≠ "__name__" :=by decide)(hdb:(x==("__debug__" :Str))=false:=by decide)
 (he:starEach (e::es) X.env=(false,eval e X.env)::starEach es X.env:=by rfl) (hpl:(backTo pos (starEach es X.env)).any (·.1)=false:=by rfl):SE X G F (.Call (.Name x p) (e::es) [] pos) (mCB ms g):=by
 walk_at "go"
 exact Mi.se_cb hk hc hgl hm hv ha hn hdb he hpl
theorem se_ct{x:Str}{p:Pos}{es:List Expr}{ms:List (M D)}{g:List D->M D}{T:String}(hk:X.K=G.K)(hc:Cb X G F (.type T) g)(hgl:Gl X x)(hm:X.mg x=none)(hv:bootBuiltins x=some (.type T))(ha:SA X G F (e::es) (mArgs ms))(hn:x≠ "__name__" :=by decide)(hdb:(x==("__debug__" :Str))=false:=by decide)
 (he:starEach (e::es) X.env=(false,eval e X.env)::starEach es X.env:=by rfl) (hpl:(backTo pos (starEach es X.env)).any (·.1)=false:=by rfl):SE X G F (.Call (.Name x p) (e::es) [] pos) (mCB ms g):=by
 walk_at "go"
 exact Mi.se_ct hk hc hgl hm hv ha hn hdb he hpl
end
section
variable{X:Cx}{G:Gx}{F:Fy}{a b tg:Expr}{pos:Pos}
theorem se_addE{ma mb:M D}(hk:X.K=G.K)(ha:SE X G F a ma)(hb:SE X G F b mb):SE X G F (.BinOp a .Add b pos) (mBin ma mb addE):=by
 walk_at "go"
 exact Mi.se_addE hk ha hb
end
section
variable{X:Cx}{G:Gx}{F:Fy}{E:L2.St->XK}{C:Addr}{x y:Str}{np cpos pos p:Pos}{j:Nat}
theorem ss_raise(hh:X.A.handled=none)(hx:XP X G F E)(hr:z4E X E)(hcl:G.cl x=some C)(hg:Gl X x)(hm:X.mg x=some (.ref C))(hq:W.excIn X.K C bmV "ValueError.__new__" =true)(hd:(x==("__debug__" :Str))=false:=by decide):
 SS X G F (.Raise (some (.Call (.Name x np) [.Constant (.str y) j p] [] cpos)) none pos) (z45 x):=by
 walk_at "go"
 exact Mi.ss_raise hh hx hr hcl hg hm hq hd
end
section
variable{X:Cx}{G:Gx}{F:Fy}{E:L2.St->XK}{ρ:Nat->Addr}{H:Hp}{σv tv:List (Option V)}{s:Stt}{np:Nat}
theorem se_callX{e:Expr}{es:List Expr}{pos p:Pos}{k:Nat}{fa:Addr}{fd:FuncData}{ps:List Str}{x:Str}{f:FM}{ms:List (M D)}(hx:XP X G F E)(Fn:FnOk X.prog X.w X.K X.mg X.base (CX1 X.prog X.w) k fa fd ps (spX G ps.length f))(hr:Room k X.A)(hg:Gl X x)(hm:X.mg x=some (.ref fa))(hkp:W.keepIn X.K (.ref fa)=true)(hb:z3H X.K fd ps [])
 (ha:SA X G F (e::es) (mArgs ms)) (hln:ms.length=ps.length) (hdb:(x==("__debug__" :Str))=false:=by decide) (he:starEach (e::es) X.env=(false,eval e X.env)::starEach es X.env:=by rfl) (hpl:(backTo pos (starEach es X.env)).any (·.1)=false:=by rfl):
 SE X G F (.Call (.Name x p) (e::es) [] pos) (z1m f ms):=by
 walk_at "go"
 exact Mi.se_callX hx Fn hr hg hm hkp hb ha hln hdb he hpl
end
theorem fn_X{G:Gx}{P:Program}{w:World}{K:W.Frag}{mg:Str->Option Value}{base:Heap}{x qual:Str}{st:Stmt}{fa:Addr}{fd:FuncData}{N ps:List Str}{k:Nat}{mb:MS}(Fn:Fun K x qual st fa fd)(S:z06 N ps (z01 st))(hG:G.K=K)
 (hb: ∀(cdv:Value) (A:Around) (outer:List Env) (s:Shared) (H:Hp) (E:XK) (F:Fy),Room k (A.deeper (envOfC qual (z01 st) s.heap.objs.size fa cdv))->XP (cxOf (CX1 P w) P w K mg base N qual (z01 st) fa cdv A outer s H E) G F (fun _=>E)->z4E (cxOf (CX1 P w) P w K mg base N qual (z01 st) fa cdv A outer s H E) (fun _=>E)->SSs (cxOf (CX1 P w) P w K mg base N qual (z01 st) fa cdv A outer s H E) G F (z0R st) mb):
 FnOk P w K mg base (CX1 P w) (k+1) fa fd ps (spX G ps.length (runX N.length mb)):=by
 walk_at "go"
 exact Mi.fn_X Fn S hG hb
section
variable{X:Cx}{G:Gx}{F:Fy}{np hpos pos:Pos}{b₀:Stmt}{suite body:List Stmt}{x n:Str}{ie:Nat}{CB:Addr}{mb mh:MS}{k:Str->Bool}
theorem ss_try(hst:X.stack=X.env::X.outer)(hfr:X.env.frame=some X.env.locals)(hex:X.ex=[])(hK:X.K=G.K)(hg:Gl X x)(hm:X.mg x=some (.ref CB))(hN:X.N.Nodup)(hi:X.N[ie]? =some n)(hloc:X.env.scope.names.lookup n=some .local)
 (hk: ∀c C,G.cl c=some C->k c=true->W.exmOne X.K (.ref C) (.ref CB)=some true)
 (hb: ∀(pl:List (Addr×Obj)) (E':Value->Shared->Prop) (F':Fy) (E:L2.St->XK),XP (Xt X pl E') G F' E->SSs (Xt X pl E') G F' body mb) (hh: ∀a,SSs (Xm X a) G F (b₀::suite) mh) (hd:(x==("__debug__" :Str))=false:=by decide):
 SS X G F (.Try body [.ExceptHandler (some (.Name x np)) (some n) (b₀::suite) hpos] [] [] pos) (sTry k ie mb mh):=by
 walk_at "go"
 exact Mi.ss_try hst hfr hex hK hg hm hN hi hloc hk hb hh hd
theorem se_isX1{p:Pos}{x y:Expr}{m:M D}{c:V}{tb:Str->Option Bool}(hK:X.K=G.K)(hc:clsV c=true)(ht: ∀r C b,G.cl r=some C->tb r=some b->XCls X.K C/\W.kitOne X.K (.ref C) (cvV c)=some b)(hgl:Gl X "isinstance")(hm:X.mg "isinstance" =none)(ha:SE X G F x m)(hy:PE X y (tC c))
 (he:starEach [x,y] X.env=(false,eval x X.env)::starEach [y] X.env:=by rfl) (he2:starEach [y] X.env=(false,eval y X.env)::starEach [] X.env:=by rfl) (hpl:(backTo pos (starEach [y] X.env)).any (·.1)=false:=by rfl):SE X G F (.Call (.Name "isinstance" p) [x,y] [] pos) (mIsX tb m):=by
 walk_at "go"
 exact Mi.se_isX1 hK hc ht hgl hm ha hy he he2 hpl
theorem se_isXT{p:Pos}{x y:Expr}{m:M D}{us:List Value}{tb:Str->Option Bool}(hK:X.K=G.K)(ht: ∀r C b,G.cl r=some C->tb r=some b->XCls X.K C/\W.kitAny X.K (.ref C) us=some b)(hgl:Gl X "isinstance")(hm:X.mg "isinstance" =none)(ha:SE X G F x m)(hy:PE X y (tCls us))
 (he:starEach [x,y] X.env=(false,eval x X.env)::starEach [y] X.env:=by rfl) (he2:starEach [y] X.env=(false,eval y X.env)::starEach [] X.env:=by rfl) (hpl:(backTo pos (starEach [y] X.env)).any (·.1)=false:=by rfl):SE X G F (.Call (.Name "isinstance" p) [x,y] [] pos) (mIsX tb m):=by
 walk_at "go"
 exact Mi.se_isXT hK ht hgl hm ha hy he he2 hpl
end
section
variable{X:Cx}{G:Gx}{F:Fy}{E:L2.St->XK}
theorem se_fnv{e:Expr}{c:Str}{a:Addr}(hK:X.K=G.K)(hc:G.cl c=some a)(h:PE X e (tC (.ref a))):SE X G F e (mFnv c):=by
 walk_at "go"
 exact Mi.se_fnv hK hc h
end
section
variable{X:Cx}{G:Gx}{F:Fy}{a b e:Expr}{ma mb:M D}{pos:Pos}
theorem se_dgtP(hk:X.K=G.K)(hu:X.A.units+64<cLine)(ha:SE X G F a ma)(hb:SE X G F b mb)(hs:z2K b):SE X G F (.Subscript a b pos) (mBin ma mb dgtP):=by
 walk_at "go"
 exact Mi.se_dgtP hk hu ha hb hs
theorem se_dispC{keys:List (Option Expr)}{values:List Expr}{ds:List D}(kvs:List (Key×V))(hk:X.K=G.K)(h:PPs X pos keys values (kvs.map fun kv=>(tC (kV kv.1),tC kv.2)))(hall:keys.all (·.isSome)=true)(hl:keys.length=values.length)(h0:keys≠[])
 (h15:keys.length<=15) (hl2:kvs.length<=15) (hn:(kvs.map (·.1)).Nodup) (hd:cVs ds=some (kvs.map (·.2))):SE X G F (.Dict keys values pos) (dcM (kvs.map (·.1)) ds):=by
 walk_at "go"
 exact Mi.se_dispC kvs hk h hall hl h0 h15 hl2 hn hd
theorem ss_setN{i:Nat}{x:Str}{p:Pos}{m:M D}(hN:X.N.Nodup)(hi:X.N[i]? =some x)(hx:Loc X.env.scope x)(hf:X.fn x=true\/X.env.scope.names.lookup x=some .local)(he:SE X G F e m)(hs:swapsWith e (some (.Name x p)) pos.line X.env=pure false:=by rfl):SS X G F (.Assign [.Name x p] e pos) (sAsg (.nm i) m):=by
 walk_at "go"
 exact Mi.ss_setN hN hi hx hf he hs
end
inductive SEs(X:Cx)(G:Gx)(F:Fy):List Expr->List (M D)->Prop
 |nil:SEs X G F [] []
 |cons {e:Expr} {m:M D} {es:List Expr} {ms:List (M D)}:SE X G F e m->nst e=true->SEs X G F es ms->SEs X G F (e::es) (m::ms)
theorem eSEs{X:Cx}{G:Gx}{F:Fy}{es:List Expr}{ms:List (M D)}(h:SEs X G F es ms):Mi.SEs X G F es ms:=by
 induction h with
 |nil=>exact .nil
 |cons h n _ ih=>rw[eSE] at h;exact .cons h n ih
theorem sa_of{X:Cx}{G:Gx}{F:Fy}{es:List Expr}{ms:List (M D)}(hk:X.K=G.K)(h:SEs X G F es ms):SA X G F es (mArgs ms):=by
 rw[eSA];exact Mi.sa_of hk (eSEs h)
section
variable{X:Cx}{G:Gx}{F:Fy}{e a b c d:Expr}{pos p:Pos}{m ma mb mc md:M D}
theorem sv(i:Nat){x:Str}(hk:X.K=G.K:=by rfl)(hN:X.N[i]? =some x:=by rfl)(hv:Vis X.env.scope x:=by first|exact Or.inl rfl|exact Or.inr (Or.inl rfl)|exact Or.inr (Or.inr rfl))(hd:(x==("__debug__" :Str))=false:=by decide)(hcd:(x==("__classdict__" :Str))=false:=by decide):SE X G F (.Name x pos) (mVar i):=se_var i hk (pv i hN hv hd hcd)
theorem s1(h:SE X G F a ma)(n:nst a=true:=by rfl)(hk:X.K=G.K:=by rfl):SA X G F [a] (mArgs [ma]):=sa_of hk (.cons h n .nil)
theorem s2(h:SE X G F a ma)(h2:SE X G F b mb)(n:nst a=true:=by rfl)(n2:nst b=true:=by rfl)(hk:X.K=G.K:=by rfl):SA X G F [a,b] (mArgs [ma,mb]):=sa_of hk (.cons h n (.cons h2 n2 .nil))
theorem s3(h:SE X G F a ma)(h2:SE X G F b mb)(h3:SE X G F c mc)(n:nst a=true:=by rfl)(n2:nst b=true:=by rfl)(n3:nst c=true:=by rfl)(hk:X.K=G.K:=by rfl):SA X G F [a,b,c] (mArgs [ma,mb,mc]):=sa_of hk (.cons h n (.cons h2 n2 (.cons h3 n3 .nil)))
theorem s4(h:SE X G F a ma)(h2:SE X G F b mb)(h3:SE X G F c mc)(h4:SE X G F d md)(n:nst a=true:=by rfl)(n2:nst b=true:=by rfl)(n3:nst c=true:=by rfl)(n4:nst d=true:=by rfl)(hk:X.K=G.K:=by rfl):SA X G F [a,b,c,d] (mArgs [ma,mb,mc,md]):=sa_of hk (.cons h n (.cons h2 n2 (.cons h3 n3 (.cons h4 n4 .nil))))
theorem sst(i:Nat){x:Str}(hN:X.N.Nodup)(he:SE X G F e m)(hi:X.N[i]? =some x:=by rfl)(hx:Loc X.env.scope x:=by exact Or.inl rfl)(hs:swapsWith e (some (.Name x p)) pos.line X.env=pure false:=by rfl)(hf:X.fn x=true\/X.env.scope.names.lookup x=some .local:=by first|exact .inl rfl|exact .inr rfl|assumption):SS X G F (.Assign [.Name x p] e pos) (sAsg (.nm i) m):=
 ss_set (fun{te} h=>z8T hN hi hx h hs hf) he
theorem sgn(i:Nat){x:Str}(hN:X.N.Nodup)(hi:X.N[i]? =some x:=by rfl)(hx:Loc X.env.scope x:=by exact Or.inl rfl)(hf:X.fn x=true\/X.env.scope.names.lookup x=some .local:=by first|exact .inl rfl|exact .inr rfl|assumption):SG X G F (.Name x pos) (.nm i):=sg_name (z0t hN hi hx hf)
theorem sln{es:List Expr}{ms:List (M D)}(hm:X.mg "len" =none)(ha:SA X G F (e::es) (mArgs ms))(hgl:Gl X "len" :=by rfl)(he:starEach (e::es) X.env=(false,eval e X.env)::starEach es X.env:=by rfl)(hpl:(backTo pos (starEach es X.env)).any (·.1)=false:=by rfl)(hk:X.K=G.K:=by rfl):SE X G F (.Call (.Name "len" p) (e::es) [] pos) (mCB ms lenD):=
 se_cb hk (zfq hk) hgl hm PyProof.Rows.Boot.«len» ha (by decide) (by decide) he hpl
theorem sc0{v:V}{d:D}(h:PE X e (tC v))(hd:cV d=some v:=by rfl)(hk:X.K=G.K:=by rfl):SE X G F e (mC d):=se_c hk h hd
theorem sxc{v:V}{q:D}(ha:SE X G F a ma)(h:PE X b (tC v))(hd:cV q=some v:=by rfl)(hs:z2K b:=by exact fun _ _=>rfl)(hk:X.K=G.K:=by rfl):SE X G F (.Subscript a b pos) (mBin ma (mC q) ixD):=se_idx hk ha (se_c hk h hd) hs
theorem sxx(ha:SE X G F a ma)(hb:SE X G F b mb)(hs:z2K b:=by exact fun _ _=>rfl)(hk:X.K=G.K:=by rfl):SE X G F (.Subscript a b pos) (mBin ma mb ixD):=se_idx hk ha hb hs
end
section
variable{G:Gx}{P:Program}{w:World}{K:W.Frag}{mg:Str->Option Value}{base:Heap}{x qual:Str}{st:Stmt}{fa:Addr}{fd:FuncData}{N ps:List Str}{k np:Nat}{f:FM}
theorem okM(mb:MS)(Fn:Fun K x qual st fa fd)(S:z06 N ps (z01 st))(hb: ∀(cdv:Value) (A:Around) (outer:List Env) (s:Shared) (H:Hp) (E:XK) (F:Fy),Room k (A.deeper (envOfC qual (z01 st) s.heap.objs.size fa cdv))->SSs (cxOf CX0 P w K mg base N qual (z01 st) fa cdv A outer s H E).nox G F (z0R st) mb)(hG:G.K=K:=by rfl)(hf:f=runF N.length mb:=by rfl)(hn:np=ps.length:=by rfl):
 FnOk P w K mg base CX0 (k+1) fa fd ps (spM G np f):=by
 subst hf hn;exact fn_M Fn S hG hb
theorem okX(mb:MS)(Fn:Fun K x qual st fa fd)(S:z06 N ps (z01 st))(hb: ∀(cdv:Value) (A:Around) (outer:List Env) (s:Shared) (H:Hp) (E:XK) (F:Fy),Room k (A.deeper (envOfC qual (z01 st) s.heap.objs.size fa cdv))->XP (cxOf (CX1 P w) P w K mg base N qual (z01 st) fa cdv A outer s H E) G F (fun _=>E)->z4E (cxOf (CX1 P w) P w K mg base N qual (z01 st) fa cdv A outer s H E) (fun _=>E)->SSs (cxOf (CX1 P w) P w K mg base N qual (z01 st) fa cdv A outer s H E) G F (z0R st) mb)(hG:G.K=K:=by rfl)(hf:f=runX N.length mb:=by rfl)(hn:np=ps.length:=by rfl):
 FnOk P w K mg base (CX1 P w) (k+1) fa fd ps (spX G np f):=by
 subst hf hn;exact fn_X Fn S hG hb
end
section
variable{X:Cx}{G:Gx}{F:Fy}{a b e o tg:Expr}{es:List Expr}{pos apos cpos:Pos}{mo m ma mb:M D}
theorem se_ctS{name:Str}{id:String}{ms:List (M D)}{g:Str->List D->M D}(hk:X.K=G.K)(slot:Slot "str" name id)(hty:typeOf (.builtin id)=pure (.type "method_descriptor"))(hm:Ct X G F id g)(ho:SE X G F o mo)(ha:SA X G F (e::es) (mArgs ms))
 (hbase:attributeBase o name X.env (eval o X.env)=eval o X.env:=by rfl)
 (hfew:((backTo cpos (starEach (e::es) X.env)).all (fun x=> !x.1)&&(backToKw cpos (keywordEach [] X.env)).all (fun x=>x.1.isSome)
  &&decide ((e::es).length+([]:List Keyword).length+(if([]:List Keyword).isEmpty then 0 else 1)<30))=true:=by rfl)
 (hline:(apos.endLine==cpos.line)=true:=by rfl) (hs:starEach (e::es) X.env=(false,eval e X.env)::starEach es X.env:=by rfl) (hplain:(backTo cpos (starEach es X.env)).any (·.1)=false:=by rfl):SE X G F (.Call (.Attribute o name apos) (e::es) [] cpos) (z1h mo ms g):=by
 rw[eSE] at*;rw[eSA] at ha
 exact Mi.se_ctS hk slot hty hm ho ha hbase hfew hline hs hplain
theorem se_ixS(ha:SE X G F a ma)(hb:SE X G F b mb)(hs:z5B b):SE X G F (.Subscript a b pos) (mBin ma mb ixS):=by
 rw[eSE] at*
 exact Mi.se_ixS ha hb hs
theorem si_str(h:SE X G F e m):SI X G F tg e (z4G m):=by
 rw[eSI];rw[eSE] at h
 exact Mi.si_str h
end
section
variable{X:Cx}{G:Gx}{F:Fy}{a b e:Expr}{pos:Pos}{m ma mb:M D}
theorem se_sliceS{lo hi:Option Expr}{p2:Pos}{ml mh:Option (M D)}(hk:X.K=G.K)(he:SE X G F e m)(hl:SO X G F lo ml)(hh:SO X G F hi mh):SE X G F (.Subscript e (.Slice lo hi none p2) pos) (mSlS m ml mh):=by
 rw[eSE] at*;rw[eSO] at hl hh
 exact Mi.se_sliceS hk he hl hh
end
section
variable{X:Cx}{G:Gx}{F:Fy}{E:L2.St->XK}
theorem se_callE{e a1 a2:Expr}{es:List Expr}{pos p:Pos}{m:M D}{tb:Str->Option FM}{ms:List (M D)}(hx:XP X G F E)(hK:X.K=G.K){np:Nat}(ht: ∀c a f,G.cl c=some a->tb c=some f->FnV X G np a f)(hf:SE X G F (.Subscript a1 a2 p) m)
 (ha:SA X G F (e::es) (mArgs ms)) (hnp:ms.length=np) (he:starEach (e::es) X.env=(false,eval e X.env)::starEach es X.env:=by rfl) (hpl:(backTo pos (starEach es X.env)).any (·.1)=false:=by rfl):
 SE X G F (.Call (.Subscript a1 a2 p) (e::es) [] pos) (z4H m tb ms):=by
 rw[eSE] at*;rw[eSA] at ha
 exact Mi.se_callE hx hK ht hf ha hnp he hpl
theorem sb_cmp3{a b c d:Expr}{pos:Pos}{op op' op'':CmpOp}{ma mb mc md:M D}{g g' g'':D->D->M D}(hc:Cm X G F op g)(hc':Cm X G F op' g')(hc'':Cm X G F op'' g'')(ha:SE X G F a ma)(hb:SE X G F b mb)(hcc:SE X G F c mc)(hd:SE X G F d md)(hm:lastMarks [op,op',op''] [b,c,d]=false:=by with_unfolding_all rfl):SB X G F (.Compare a [op,op',op''] [b,c,d] pos) (mBoo (z4I ma mb mc md g g' g'')):=by
 rw[eSE] at*;rw[eSB]
 exact Mi.sb_cmp3 hc hc' hc'' ha hb hcc hd hm
end
end My
namespace My
open PySem L2 Mi
noncomputable def top(i:Nat):Stmt:=PySem.Challenge.pw_signbench_k82_texts_of_none.main.body.getD i (.Pass ⟨0,0,0,0⟩)
noncomputable abbrev z29:Stmt:=top 28
noncomputable abbrev z2N:Stmt:=top 29
noncomputable abbrev z3T:Stmt:=top 30
noncomputable abbrev z39:Stmt:=top 37
noncomputable abbrev z0T:Stmt:=top 40
noncomputable abbrev z1B:Stmt:=top 44
noncomputable abbrev z1C:Stmt:=top 45
noncomputable abbrev z3a:Stmt:=top 47
noncomputable abbrev z1R:Stmt:=top 48
noncomputable abbrev z0U:Stmt:=top 53
noncomputable abbrev z2a:Stmt:=top 54
noncomputable abbrev z2b:Stmt:=top 55
noncomputable abbrev z0V:Stmt:=top 56
noncomputable abbrev z7q:Stmt:=top 58
noncomputable abbrev z5O:Stmt:=top 59
noncomputable abbrev z5P:Stmt:=top 60
noncomputable abbrev z2c:Stmt:=top 61
noncomputable abbrev z2d:Stmt:=top 62
noncomputable abbrev z2e:Stmt:=top 64
noncomputable abbrev z3b:Stmt:=top 65
noncomputable abbrev z5Q:Stmt:=top 66
noncomputable abbrev z5R:Stmt:=top 67
noncomputable abbrev z3U:Stmt:=top 68
noncomputable abbrev z7r:Stmt:=top 69
noncomputable abbrev z2f:Stmt:=top 70
noncomputable abbrev z2g:Stmt:=top 71
noncomputable abbrev z2h:Stmt:=top 72
noncomputable abbrev z5S:Stmt:=top 73
noncomputable abbrev z5T:Stmt:=top 74
noncomputable abbrev zdJ:Stmt:=top 75
noncomputable abbrev z3x:List Str:=["thing"]
noncomputable abbrev z2i:List Str:=z3x
noncomputable abbrev z46:List Str:=["thing", "low", "high"]
noncomputable abbrev z2O:List Str:=z46
noncomputable abbrev z5q:List Str:=["thing", "fewest", "most", "high"]
noncomputable abbrev z3V:List Str:=z5q
noncomputable abbrev z7s:List Str:=["thing", "sounds", "signs", "kind", "cost"]
noncomputable abbrev z3c:List Str:=["thing"]
noncomputable abbrev z1L:List Str:=["thing"]
noncomputable abbrev z0W:List Str:=z1L
noncomputable abbrev z4J:List Str:=["word", "numbers"]
noncomputable abbrev z1D:List Str:=["word"]
noncomputable abbrev z2P:List Str:=["word"]
noncomputable abbrev z1E:List Str:=z2P
noncomputable abbrev z4K:List Str:=["n", "thing"]
noncomputable abbrev z3d:List Str:=z4K
noncomputable abbrev z33:List Str:=["begin", "end", "n"]
noncomputable abbrev z1S:List Str:=z33
noncomputable abbrev z1M:List Str:=["text"]
noncomputable abbrev z0X:List Str:=z1M
noncomputable abbrev z5U:List Str:=["text", "parts", "word"]
noncomputable abbrev z2j:List Str:=["text"]
noncomputable abbrev z5V:List Str:=["n", "text", "parts", "numbers", "wish"]
noncomputable abbrev z2k:List Str:=["n", "text"]
noncomputable abbrev z1N:List Str:=["thing"]
noncomputable abbrev z0Y:List Str:=z1N
noncomputable abbrev zdK:List Str:=["_law_script", "_law_at", "_law_cell", "_law_mix", "_law_k"]
noncomputable abbrev z7t:List Str:=["_law_script", "_law_at"]
noncomputable abbrev zbq:List Str:=["_law_bag_here", "_law_many", "_law_digit"]
noncomputable abbrev z5W:List Str:=["_law_bag_here", "_law_many"]
noncomputable abbrev z8b:List Str:=["_law_numbers_here"]
noncomputable abbrev z5X:List Str:=z8b
noncomputable abbrev z3y:List Str:=["_law_keys"]
noncomputable abbrev z2l:List Str:=z3y
noncomputable abbrev z3z:List Str:=["_law_word_here"]
noncomputable abbrev z2m:List Str:=z3z
noncomputable abbrev z5Y:List Str:=["_law_wish_here", "_law_places"]
noncomputable abbrev z2n:List Str:=["_law_wish_here"]
noncomputable abbrev z4L:List Str:=["_law_bag_here", "_law_many", "_law_most"]
noncomputable abbrev z3e:List Str:=z4L
noncomputable abbrev zbr:List Str:=["_law_bag_here", "_law_sounds", "_law_signs"]
noncomputable abbrev z5Z:List Str:=["_law_bag_here"]
noncomputable abbrev zbs:List Str:=["_law_bag_here", "_law_n", "_law_way", "_law_i", "_law_j"]
noncomputable abbrev z60:List Str:=["_law_bag_here", "_law_n"]
noncomputable abbrev z5r:List Str:=["_law_word_here"]
noncomputable abbrev z3W:List Str:=z5r
noncomputable abbrev zdL:List Str:=["_law_word_here", "_law_many", "_law_most", "_law_found"]
noncomputable abbrev z7u:List Str:=["_law_word_here", "_law_many", "_law_most"]
noncomputable abbrev z3A:List Str:=["_law_text"]
noncomputable abbrev z2o:List Str:=z3A
noncomputable abbrev z61:List Str:=["_law_text", "_law_some", "_law_found"]
noncomputable abbrev z2p:List Str:=["_law_text"]
noncomputable abbrev z62:List Str:=["_law_n", "_law_text", "_law_some", "_law_sizes", "_law_places", "_law_signs"]
noncomputable abbrev z2q:List Str:=["_law_n", "_law_text"]
noncomputable abbrev zbt:List Str:=["_law_bag_here", "_law_text", "_law_way", "_law_sign", "_law_number_here", "_law_word_here", "_law_at", "_law_between", "_law_parts", "_law_one"]
noncomputable abbrev z63:List Str:=["_law_bag_here", "_law_text"]
noncomputable abbrev zbu:List Str:=["_law_which", "_law_n", "_law_text", "e", "_law_one", "_law_other", "_law_more"]
noncomputable abbrev z64:List Str:=["_law_which", "_law_n", "_law_text"]
noncomputable abbrev zi1:List Str:=["_law_script", "_law_at", "_law_bag_here", "_law_n", "_law_keys", "_law_texts", "_law_turn", "_law_text", "_law_again", "_law_dues", "_law_which", "_law_thing"]
noncomputable abbrev zdM:List Str:=["_law_script"]
local macro_rules | `(tactic| walk_at "sc") => `(tactic| exact ⟨rfl, rfl, rfl, by decide +kernel, rfl, by decide +kernel, by decide +kernel⟩)
theorem z51:z06 z3x z2i (z01 z29):=by walk_at "sc"
theorem z65:z06 z46 z2O (z01 z2N):=by walk_at "sc"
theorem z7v:z06 z5q z3V (z01 z3T):=by walk_at "sc"
theorem z1n:z06 z7s z3c (z01 z39):=by walk_at "sc"
theorem z3f:z06 z1L z0W (z01 z0T):=by walk_at "sc"
theorem z2H:z06 z4J z1D (z01 z1B):=by walk_at "sc"
theorem z4f:z06 z2P z1E (z01 z1C):=by walk_at "sc"
theorem z6S:z06 z4K z3d (z01 z3a):=by walk_at "sc"
theorem z4M:z06 z33 z1S (z01 z1R):=by walk_at "sc"
theorem z3g:z06 z1M z0X (z01 z0U):=by walk_at "sc"
theorem z1T:z06 z5U z2j (z01 z2a):=by walk_at "sc"
theorem z1j:z06 z5V z2k (z01 z2b):=by walk_at "sc"
theorem z3h:z06 z1N z0Y (z01 z0V):=by walk_at "sc"
theorem z2r:z06 zdK z7t (z01 z7q):=by walk_at "sc"
theorem z6T:z06 zbq z5W (z01 z5O):=by walk_at "sc"
theorem z9R:z06 z8b z5X (z01 z5P):=by walk_at "sc"
theorem z52:z06 z3y z2l (z01 z2c):=by walk_at "sc"
theorem z53:z06 z3z z2m (z01 z2d):=by walk_at "sc"
theorem z34:z06 z5Y z2n (z01 z2e):=by walk_at "sc"
theorem z6U:z06 z4L z3e (z01 z3b):=by walk_at "sc"
theorem z4N:z06 zbr z5Z (z01 z5Q):=by walk_at "sc"
theorem z3B:z06 zbs z60 (z01 z5R):=by walk_at "sc"
theorem z7w:z06 z5r z3W (z01 z3U):=by walk_at "sc"
theorem z8c:z06 zdL z7u (z01 z7r):=by walk_at "sc"
theorem z54:z06 z3A z2o (z01 z2f):=by walk_at "sc"
theorem z1U:z06 z61 z2p (z01 z2g):=by walk_at "sc"
theorem z0M:z06 z62 z2q (z01 z2h):=by walk_at "sc"
theorem z0Z:z06 zbt z63 (z01 z5S):=by walk_at "sc"
theorem z2Q:z06 zbu z64 (z01 z5T):=by walk_at "sc"
theorem z1Z:z06 zi1 zdM (z01 zdJ):=by walk_at "sc"
structure Dx(K:W.Frag)(mg:Str->Option Value)(x:Str)(st:Stmt)(ps:List Str) where
 f:Addr
 d:FuncData
 F:Fun K x x st f d
 b:z3H K d ps []
 m:mg x=some (.ref f)
theorem scl{X:Cx}{G:Gx}{F:Fy}{e:Expr}{es:List Expr}{pos p:Pos}{CX:CXT}{k j:Nat}{x:Str}{st:Stmt}{ps:List Str}{E:XK}{f:FM}{ms:List (M D)}(d:Dx X.K X.mg x st ps)(Fn:FnOk X.prog X.w X.K X.mg X.base CX j d.f d.d ps (spM G ps.length f))(hr:Room k X.A)(ha:SA X G F (e::es) (mArgs ms))(hg:Gl X x:=by rfl)(hx:z4r CX X E:=by exact zhK)(hln:ms.length=ps.length:=by rfl)(hk:X.K=G.K:=by rfl)(hj:j<=k:=by lia)(hdb:(x==("__debug__" :Str))=false:=by decide)(he:starEach (e::es) X.env=(false,eval e X.env)::starEach es X.env:=by rfl)(hpl:(backTo pos (starEach es X.env)).any (·.1)=false:=by rfl):SE X G F (.Call (.Name x p) (e::es) [] pos) (z02 f ms):=se_call hk (Fn.mono hj) hr hg d.m d.F.kp d.b hx ha hln hdb he hpl
noncomputable abbrev kF(K:W.Frag)(a b:Addr)(r:Bool):Prop:=W.kitOne K (.ref a) (.ref b)=some r
noncomputable abbrev kN(K:W.Frag)(a:Addr)(l:List Addr):Prop:=W.kitAny K (.ref a) (l.map .ref)=some false
noncomputable abbrev kV(K:W.Frag)(a:Addr):Prop:=W.kitOne K (.ref a) (.type "ValueError")=some true
noncomputable abbrev fA(K:W.Frag)(a:Addr):Prop:=W.findIn K (.ref a) "__getattribute__" =some (some (.builtin "BaseException.__getattribute__"))
noncomputable abbrev fB(K:W.Frag)(a:Addr):Prop:=W.findIn K (.ref a) "__getattr__" =some none
noncomputable abbrev fC(K:W.Frag)(a:Addr):Prop:=W.findIn K (.ref a) "__class__" =some (some (.builtin "object.__class__"))
noncomputable abbrev xA(K:W.Frag)(a:Addr):Prop:=W.excIn K a bmV "ValueError.__new__" =true
noncomputable abbrev mO(K:W.Frag)(a:Addr)(s:String):Prop:=W.mroIn K a (.type s)=some true
noncomputable abbrev eB(K:W.Frag)(a b:Addr):Prop:=W.exmOne K (.ref a) (.ref b)=some true
noncomputable abbrev nI(K:W.Frag)(s:Str)(a:Addr):Prop:=W.nsIn K mainGlobals s=some (some (.ref a))
set_option genInjectivity false in
set_option genSizeOf false in
set_option genSizeOfSpec false in
structure Wd(K:W.Frag)(mg:Str->Option Value) where
 kap:Dx K mg "is_number" z29 z2i
 kat:Dx K mg "is_whole" z2N z2O
 kaB:Dx K mg "is_row" z3T z3V
 kax:Dx K mg "is_word" z39 z3c
 kac:Dx K mg "is_piece_signs" z0T z0W
 kae:Dx K mg "read_dotted" z1B z1D
 kad:Dx K mg "read_number" z1C z1E
 kaz:Dx K mg "is_wish" z3a z3d
 kaf:Dx K mg "is_stretch" z1R z1S
 kab:Dx K mg "read_keys_text" z0U z0X
 kao:Dx K mg "read_word" z2a z2j
 kam:Dx K mg "read_wish" z2b z2k
 kaa:Dx K mg "refuse_no_text" z0V z0Y
 kbm:Dx K mg "_law_bag" z7q z7t
 kbg:Dx K mg "_law_take" z5O z5W
 kbf:Dx K mg "_law_dots" z5P z5X
 kan:Dx K mg "_law_keys_text" z2c z2l
 kah:Dx K mg "_law_word_text" z2d z2m
 kai:Dx K mg "_law_wish_text" z2e z2n
 kaw:Dx K mg "_law_numbers" z3b z3e
 ka3:Dx K mg "_law_word" z5Q z5Z
 kbb:Dx K mg "_law_wish" z5R z60
 kaI:Dx K mg "_law_number" z3U z3W
 kbk:Dx K mg "_law_row" z7r z7u
 kaq:Dx K mg "_law_read_keys" z2f z2o
 kag:Dx K mg "_law_read_word" z2g z2p
 kal:Dx K mg "_law_read_wish" z2h z2q
 kbh:Dx K mg "_law_bent" z5S z63
 kba:Dx K mg "_law_told" z5T z64
 x_law:Dx K mg "law" zdJ zdM
 n_ValueError:mg "ValueError" =none
 n_abs:mg "abs" =none
 n_all:mg "all" =none
 n_bool:mg "bool" =none
 c_FIGURES: ∃t,mg "FIGURES" =some (.str ("0123456789" :Str) t)
 c_LAST_SIGN: ∃t,mg "LAST_SIGN" =some (.int 1039 t)
 c_LAST_SOUND: ∃t,mg "LAST_SOUND" =some (.int 39 t)
 c_LAST_WORD_COST: ∃t,mg "LAST_WORD_COST" =some (.int 9999 t)
 c_LAST_WORD_KIND: ∃t,mg "LAST_WORD_KIND" =some (.int 7 t)
 c_LAST_WORD_SIGN: ∃t,mg "LAST_WORD_SIGN" =some (.int 999 t)
 c_LETTERS: ∃t,mg "LETTERS" =some (.str ("abcdefghijklmnopqrstuvwxyz" :Str) t)
 c_MOST_FIGURES: ∃t,mg "MOST_FIGURES" =some (.int 5 t)
 c_MOST_KEYS: ∃t,mg "MOST_KEYS" =some (.int 60 t)
 c_MOST_PIECE_SIGNS: ∃t,mg "MOST_PIECE_SIGNS" =some (.int 24 t)
 c_MOST_WORD_SIGNS: ∃t,mg "MOST_WORD_SIGNS" =some (.int 4 t)
 c_MOST_WORD_SOUNDS: ∃t,mg "MOST_WORD_SOUNDS" =some (.int 6 t)
 c_NONE: ∃t,mg "NONE" =some (.str ("-" :Str) t)
 n_int:mg "int" =none
 n_isinstance:mg "isinstance" =none
 n_len:mg "len" =none
 n_max:mg "max" =none
 n_min:mg "min" =none
 n_range:mg "range" =none
 n_str:mg "str" =none
 n_tuple:mg "tuple" =none
 ka6:Addr
 kaQ:mg "Barred" =some (.ref ka6)
 kas:Addr
 kaj:mg "BenchError" =some (.ref kas)
 kbl:Addr
 ka7:mg "Fight" =some (.ref kbl)
 kbp:Addr
 kbn:mg "Full" =some (.ref kbp)
 kbi:Addr
 kaV:mg "Marked" =some (.ref kbi)
 kaS:Addr
 kaE:mg "Missing" =some (.ref kaS)
 kaF:Addr
 kaA:mg "NoChoice" =some (.ref kaF)
 kav:Addr
 kau:mg "NoCutting" =some (.ref kav)
 kbd:Addr
 kaL:mg "NoDeed" =some (.ref kbd)
 ka9:Addr
 kaR:mg "NoMark" =some (.ref ka9)
 kbe:Addr
 kaX:mg "NoNode" =some (.ref kbe)
 kaT:Addr
 kaJ:mg "NoPlace" =some (.ref kaT)
 kaD:Addr
 kay:mg "NoSaying" =some (.ref kaD)
 kar:Addr
 kak:mg "NoStanding" =some (.ref kar)
 kaP:Addr
 kaG:mg "NoTable" =some (.ref kaP)
 ka4:Addr
 kaU:mg "NoText" =some (.ref ka4)
 ka1:Addr
 kaN:mg "NoTurn" =some (.ref ka1)
 ka5:Addr
 kaO:mg "NoWish" =some (.ref ka5)
 ka2:Addr
 ka0:mg "NoWord" =some (.ref ka2)
 kaW:Addr
 kaH:mg "Nothing" =some (.ref kaW)
 kaY:Addr
 kaK:mg "TooLong" =some (.ref kaY)
 kaZ:Addr
 kaC:mg "TooMany" =some (.ref kaZ)
 kbo:Addr
 ka8:mg "Twice" =some (.ref kbo)
 kbj:Addr
 kbc:mg "Waits" =some (.ref kbj)
 kaM:xA K ka4
 cxob_NoText:mO K ka4 "object"
 cxba_NoText:mO K ka4 "BaseException"
 cxf1_NoText:fA K ka4
 cxf2_NoText:fB K ka4
 cxf3_NoText:fC K ka4
 ch_NoText_BenchError:eB K ka4 kas
 ck_0_NoText:kN K ka4 [ka6,kbi,kbd,ka9,kaT,kar,kaY,ka2,kbo,kaZ]
 ck_1_NoText:kN K ka4 [kaS,kaF,kbe,kaW,ka5,kbl,kav,kbj,ka1,kbp]
 ck_2_NoText:kN K ka4 [kaP,kaD]
 ck_3_NoText:kV K ka4
 ck_4_NoText:kF K ka4 ka4 true
 cnd:[ka4,kab.f,kao.f].Nodup
section
variable{K:W.Frag}{mg:Str->Option Value}
noncomputable abbrev GT(T:Wd K mg):Gx:=mkG K [("NoText",T.ka4),("read_keys_text",T.kab.f),("read_word",T.kao.f)] T.cnd (.cons (zdC T.kaM) (.cons (zc1 T.kab.F) (.cons (zc1 T.kao.F) .nil)))
theorem z3C(T:Wd K mg):(GT T).cl "NoText" =some T.ka4:=rfl
theorem z3i(T:Wd K mg):(GT T).cl "read_keys_text" =some T.kab.f:=rfl
theorem z55(T:Wd K mg):(GT T).cl "read_word" =some T.kao.f:=rfl
noncomputable def z1a(c:Str):Bool:=[("NoText" :Str)].contains c
theorem z66(T:Wd K mg): ∀c C,(GT T).cl c=some C->z1a c=true->eB K C T.kas:=fun c C h1 h2=>by
 have h3:([("NoText",())]:List (Str×Unit)).lookup c=some ():=by
  unfold z1a at h2;simp only[List.contains_cons,List.contains_nil,Bool.or_eq_true,Bool.or_false,beq_iff_eq] at h2
  subst h2;rfl
 exact Al2.at (Φ:=fun C (_:Unit)=>eB K C T.kas) (.cons (b:=()) T.ch_NoText_BenchError (.skip rfl (.skip rfl .nil))) h1 h3
noncomputable def tb_0(c:Str):Option Bool:=[(("NoText" :Str),false)].lookup c
theorem ht_0(T:Wd K mg): ∀r C b,(GT T).cl r=some C->tb_0 r=some b->XCls K C/\W.kitAny K (.ref C) ([V.ref T.ka6,V.ref T.kbi,V.ref T.kbd,V.ref T.ka9,V.ref T.kaT,V.ref T.kar,V.ref T.kaY,V.ref T.ka2,V.ref T.kbo,V.ref T.kaZ].map cvV)=some b:=fun r C b h1 h2=>Al2.at (Φ:=fun C b=>XCls K C/\W.kitAny K (.ref C) ([V.ref T.ka6,V.ref T.kbi,V.ref T.kbd,V.ref T.ka9,V.ref T.kaT,V.ref T.kar,V.ref T.kaY,V.ref T.ka2,V.ref T.kbo,V.ref T.kaZ].map cvV)=some b) (.cons ⟨⟨T.cxob_NoText,T.cxba_NoText,T.cxf1_NoText,T.cxf2_NoText,T.cxf3_NoText⟩,T.ck_0_NoText⟩ (.skip rfl (.skip rfl .nil))) h1 h2
noncomputable def tb_1(c:Str):Option Bool:=[(("NoText" :Str),false)].lookup c
theorem ht_1(T:Wd K mg): ∀r C b,(GT T).cl r=some C->tb_1 r=some b->XCls K C/\W.kitAny K (.ref C) ([V.ref T.kaS,V.ref T.kaF,V.ref T.kbe,V.ref T.kaW,V.ref T.ka5,V.ref T.kbl,V.ref T.kav,V.ref T.kbj,V.ref T.ka1,V.ref T.kbp].map cvV)=some b:=fun r C b h1 h2=>Al2.at (Φ:=fun C b=>XCls K C/\W.kitAny K (.ref C) ([V.ref T.kaS,V.ref T.kaF,V.ref T.kbe,V.ref T.kaW,V.ref T.ka5,V.ref T.kbl,V.ref T.kav,V.ref T.kbj,V.ref T.ka1,V.ref T.kbp].map cvV)=some b) (.cons ⟨⟨T.cxob_NoText,T.cxba_NoText,T.cxf1_NoText,T.cxf2_NoText,T.cxf3_NoText⟩,T.ck_1_NoText⟩ (.skip rfl (.skip rfl .nil))) h1 h2
noncomputable def tb_2(c:Str):Option Bool:=[(("NoText" :Str),false)].lookup c
theorem ht_2(T:Wd K mg): ∀r C b,(GT T).cl r=some C->tb_2 r=some b->XCls K C/\W.kitAny K (.ref C) ([V.ref T.kaP,V.ref T.kaD].map cvV)=some b:=fun r C b h1 h2=>Al2.at (Φ:=fun C b=>XCls K C/\W.kitAny K (.ref C) ([V.ref T.kaP,V.ref T.kaD].map cvV)=some b) (.cons ⟨⟨T.cxob_NoText,T.cxba_NoText,T.cxf1_NoText,T.cxf2_NoText,T.cxf3_NoText⟩,T.ck_2_NoText⟩ (.skip rfl (.skip rfl .nil))) h1 h2
noncomputable def tb_3(c:Str):Option Bool:=[(("NoText" :Str),true)].lookup c
theorem ht_3(T:Wd K mg): ∀r C b,(GT T).cl r=some C->tb_3 r=some b->XCls K C/\W.kitOne K (.ref C) (cvV (.ty "ValueError"))=some b:=fun r C b h1 h2=>Al2.at (Φ:=fun C b=>XCls K C/\W.kitOne K (.ref C) (cvV (.ty "ValueError"))=some b) (.cons ⟨⟨T.cxob_NoText,T.cxba_NoText,T.cxf1_NoText,T.cxf2_NoText,T.cxf3_NoText⟩,T.ck_3_NoText⟩ (.skip rfl (.skip rfl .nil))) h1 h2
noncomputable def tb_4(c:Str):Option Bool:=[(("NoText" :Str),true)].lookup c
theorem ht_4(T:Wd K mg): ∀r C b,(GT T).cl r=some C->tb_4 r=some b->XCls K C/\W.kitOne K (.ref C) (cvV (.ref T.ka4))=some b:=fun r C b h1 h2=>Al2.at (Φ:=fun C b=>XCls K C/\W.kitOne K (.ref C) (cvV (.ref T.ka4))=some b) (.cons ⟨⟨T.cxob_NoText,T.cxba_NoText,T.cxf1_NoText,T.cxf2_NoText,T.cxf3_NoText⟩,T.ck_4_NoText⟩ (.skip rfl (.skip rfl .nil))) h1 h2
end
section
variable{P:Program}{w:World}{K:W.Frag}{mg:Str->Option Value}{base:Heap}
noncomputable def z2s:MS:=(sRet (z1J (mIsi "int" (mVar 0)) (z3M (mIsi "bool" (mVar 0)))))
noncomputable def z1v:FM:=runF 1 z2s
theorem z56(T:Wd K mg):FnOk P w K mg base CX0 1 T.kap.f T.kap.d z2i (spM (GT T) 1 z1v):=okM z2s T.kap.F z51 fun cdv A outer s H E F hr=>(ss_one (ss_ret (se_and (se_isi rfl (by decide) rfl T.n_isinstance (sv 0) (z36 (v:= .ty "int") rfl T.n_int PyProof.Rows.Boot.«int» rfl)) (se_one (se_not (se_isi rfl (by decide) rfl T.n_isinstance (sv 0) (z36 (v:= .ty "bool") rfl T.n_bool PyProof.Rows.Boot.«bool» rfl)))))))
noncomputable def z2R:MS:=(sRet (z1J (z02 z1v [(mVar 0)]) (z0P (mVar 1) (mVar 0) (mVar 2) leD leD)))
noncomputable def z0k:FM:=runF 3 z2R
theorem z0H(T:Wd K mg):FnOk P w K mg base CX0 2 T.kat.f T.kat.d z2O (spM (GT T) 3 z0k):=okM z2R T.kat.F z65 fun cdv A outer s H E F hr=>(ss_one (ss_ret (se_and (scl T.kap (z56 T) hr (s1 (sv 0))) (se_one (se_cmp2 z2J z2J (sv 1) (sv 0) (sv 2))))))
noncomputable def z3X:MS:=(seqS (sIf (mOr (mNot (z25 (mIsi "tuple" (mVar 0)))) (mNot (mBoo (z0P (mVar 1) (mCB [(mVar 0)] lenD) (mVar 2) leD leD)))) (sRet (mC (.bool false))) sNx)
 (sRet (mCB [(z0w (z0L (mVar 0)) (.nm 0) (rt true) (z02 z0k [(mVar 0),(mC (.int 0)),(mVar 1)]) 1 [3])] allD)))
noncomputable def z1y:FM:=runF 4 z3X
theorem z3j(T:Wd K mg):FnOk P w K mg base CX0 3 T.kaB.f T.kaB.d z3V (spM (GT T) 4 z1y):=okM z3X T.kaB.F z7v fun cdv A outer s H E F hr=>(ss_cons (ss_if (SW.sb (sw_or (sb_not (sb_truth rfl (se_isi rfl (by decide) rfl T.n_isinstance (sv 0) (z36 (v:= .ty "tuple") rfl T.n_tuple PyProof.Rows.Boot.«tuple» rfl)))) (sw_or1 (sb_not (sb_cmp2 z2J z2J (sv 1) (sln T.n_len (s1 (sv 0))) (sv 2)))))) (ss_one (ss_ret (sc0 z5z))) ss_nil)
 (ss_one (ss_ret (se_cb rfl (z9B rfl hr.hd) rfl T.n_all PyProof.Rows.Boot.«all» (s1 (se_comp (own:=["part"]) (frees:=["high"]) (ix:=[3]) rfl rfl (z0K.sc (by kernel_rfl)) (si_seq rfl (sv 0)) (fun _ _ _ _ _ _ _=>(sg_name (z0t (i:=0) (show List.Nodup (["part", "high"]:List Str) by decide+kernel) rfl (Or.inl rfl)))) (fun _ _ _ _ _ _ _=>sts_nil) (fun _ _ _ _ _ _ _=>(scl T.kat (z0H T) hr (s3 (sv 0) (sc0 z00) (sv 1))))))))))
noncomputable def z2t:MS:=(seqS (sIf (mOr (mNot (z25 (mIsi "tuple" (mVar 0)))) (mBoo (mBin (mCB [(mVar 0)] lenD) (mC (.int 4)) neD))) (sRet (mC (.bool false))) sNx)
 (seqS (sAsg (.tp [(.nm 1),(.nm 2),(.nm 3),(.nm 4)]) (mVar 0))
 (seqS (sIf (mOr (mNot (z25 (z02 z1y [(mVar 1),(mC (.int 1)),(mC (.int 6)),(mC (.int 39))]))) (mNot (z25 (z02 z1y [(mVar 2),(mC (.int 1)),(mC (.int 4)),(mC (.int 999))])))) (sRet (mC (.bool false))) sNx)
 (sRet (z1J (z02 z0k [(mVar 3),(mC (.int 0)),(mC (.int 7))]) (z02 z0k [(mVar 4),(mC (.int 0)),(mC (.int 9999))]))))))
noncomputable def z0N:FM:=runF 5 z2t
theorem z6V(T:Wd K mg):FnOk P w K mg base CX0 4 T.kax.f T.kax.d z3c (spM (GT T) 1 z0N):=okM z2t T.kax.F z1n fun cdv A outer s H E F hr=>by
 have h64:=hr.units
 exact(ss_cons (ss_if (SW.sb (sw_or (sb_not (sb_truth rfl (se_isi rfl (by decide) rfl T.n_isinstance (sv 0) (z36 (v:= .ty "tuple") rfl T.n_tuple PyProof.Rows.Boot.«tuple» rfl)))) (sw_or1 (sb_cmp (z8A rfl h64) (sln T.n_len (s1 (sv 0))) (sc0 z00) (z0h _))))) (ss_one (ss_ret (sc0 z5z))) ss_nil)
 (ss_cons (ss_asg (sv 0) (sg_tup rfl rfl (sgs_cons (sgn 1 z1n.nd) (sgs_cons (sgn 2 z1n.nd) (sgs_cons (sgn 3 z1n.nd) (sgs_cons (sgn 4 z1n.nd) sgs_nil))))))
 (ss_cons (ss_if (SW.sb (sw_or (sb_not (sb_truth rfl (scl T.kaB (z3j T) hr (s4 (sv 1) (sc0 z00) (se_c rfl (z05 (v:= .int 6) rfl T.c_MOST_WORD_SOUNDS.choose_spec ⟨_,rfl⟩)) (se_c rfl (z05 (v:= .int 39) rfl T.c_LAST_SOUND.choose_spec ⟨_,rfl⟩)))))) (sw_or1 (sb_not (sb_truth rfl (scl T.kaB (z3j T) hr (s4 (sv 2) (sc0 z00) (se_c rfl (z05 (v:= .int 4) rfl T.c_MOST_WORD_SIGNS.choose_spec ⟨_,rfl⟩)) (se_c rfl (z05 (v:= .int 999) rfl T.c_LAST_WORD_SIGN.choose_spec ⟨_,rfl⟩))))))))) (ss_one (ss_ret (sc0 z5z))) ss_nil)
 (ss_one (ss_ret (se_and (scl T.kat (z0H T) hr (s3 (sv 3) (sc0 z00) (se_c rfl (z05 (v:= .int 7) rfl T.c_LAST_WORD_KIND.choose_spec ⟨_,rfl⟩)))) (se_one (scl T.kat (z0H T) hr (s3 (sv 4) (sc0 z00) (se_c rfl (z05 (v:= .int 9999) rfl T.c_LAST_WORD_COST.choose_spec ⟨_,rfl⟩)))))))))))
noncomputable def z1b:MS:=(sRet (z02 z1y [(mVar 0),(mC (.int 1)),(mC (.int 24)),(mC (.int 1039))]))
noncomputable def z0A:FM:=runF 1 z1b
theorem z3k(T:Wd K mg):FnOk P w K mg base CX0 4 T.kac.f T.kac.d z0W (spM (GT T) 1 z0A):=okM z1b T.kac.F z3f fun cdv A outer s H E F hr=>(ss_one (ss_ret (scl T.kaB (z3j T) hr (s4 (sv 0) (sc0 z00) (se_c rfl (z05 (v:= .int 24) rfl T.c_MOST_PIECE_SIGNS.choose_spec ⟨_,rfl⟩)) (se_c rfl (z05 (v:= .int 1039) rfl T.c_LAST_SIGN.choose_spec ⟨_,rfl⟩))))))
noncomputable def z1F:MS:=(seqS (sIf (mOr (mNot (mBoo (z0P (mC (.int 1)) (mCB [(mVar 0)] lenS) (mC (.int 5)) leD leD))) (mNot (z25 (mCB [(z0w (z4G (mVar 0)) (.nm 0) (rt true) (mBin (mVar 0) (mC (.str ("0123456789" :Str))) inS) 1 [])] allD)))) (sRet (mC .non)) sNx)
 (seqS (sIf (mAnd (mBoo (mBin (mBin (mVar 0) (mC (.int 0)) ixS) (mC (.str ("0" :Str))) eqS)) (mBoo (mBin (mVar 0) (mC (.str ("0" :Str))) neS))) (sRet (mC .non)) sNx)
 (sRet (mCB [(mVar 0)] intS))))
noncomputable def z0e:FM:=runF 1 z1F
theorem z1q(T:Wd K mg):FnOk P w K mg base CX0 1 T.kad.f T.kad.d z1E (spM (GT T) 1 z0e):=okM z1F T.kad.F z4f fun cdv A outer s H E F hr=>(ss_cons (ss_if (SW.sb (sw_or (sb_not (sb_cmp2 z2J z2J (sc0 z00) (se_cb rfl (z3S rfl) rfl T.n_len PyProof.Rows.Boot.«len» (s1 (sv 0))) (se_c rfl (z05 (v:= .int 5) rfl T.c_MOST_FIGURES.choose_spec ⟨_,rfl⟩)))) (sw_or1 (sb_not (sb_truth rfl (se_cb rfl (z9B rfl hr.hd) rfl T.n_all PyProof.Rows.Boot.«all» (s1 (se_comp (own:=["sign"]) (frees:=[]) (ix:=[]) rfl rfl (z0K.sc (by kernel_rfl)) (si_str (sv 0)) (fun _ _ _ _ _ _ _=>(sg_name (z0t (i:=0) (show List.Nodup (["sign"]:List Str) by decide+kernel) rfl (Or.inl rfl)))) (fun _ _ _ _ _ _ _=>sts_nil) (fun _ _ _ _ _ _ _=>(se_cmp zc3 (sv 0) (se_c rfl (z05 (v:= .str ("0123456789" :Str)) rfl T.c_FIGURES.choose_spec ⟨_,rfl⟩)) (by with_unfolding_all rfl))))))))))) (ss_one (ss_ret (sc0 z1i))) ss_nil)
 (ss_cons (ss_if (SW.sb (sw_and (sb_cmp z9C (se_ixS (sv 0) (sc0 z00) (fun _ _=>rfl)) (sc0 z0d) (z0h _)) (sw_and1 (sb_cmp z89 (sv 0) (sc0 z0d) (z0h _))))) (ss_one (ss_ret (sc0 z1i))) ss_nil)
 (ss_one (ss_ret (se_ct rfl z7p rfl T.n_int PyProof.Rows.Boot.«int» (s1 (sv 0)))))))
noncomputable def z1G:MS:=(seqS (sAsg (.nm 1) (z0w (z0L (z1h (mVar 0) [(mC (.str ("." :Str)))] z1A)) (.nm 0) (rt true) (z02 z0e [(mVar 0)]) 1 []))
 (sRet (mIf (mBoo (mBin (mC .non) (mVar 1) inD)) (mC .non) (mCB [(mVar 1)] tupF))))
noncomputable def z0l:FM:=runF 2 z1G
theorem z2I(T:Wd K mg):FnOk P w K mg base CX0 2 T.kae.f T.kae.d z1D (spM (GT T) 1 z0l):=okM z1G T.kae.F z2H fun cdv A outer s H E F hr=>by
 have h64:=hr.units
 exact(ss_cons (ss_comp (i:=1) (own:=["part"]) (frees:=[]) (ix:=[]) rfl z2H.nd rfl (Or.inl rfl) (Or.inl rfl) rfl rfl (z0K.sc (by kernel_rfl)) (si_seq rfl (se_ctS rfl PySem.F.slot_str_split PySem.F.type_str_split z28 (sv 0) (s1 (sc0 z0d)))) (fun _ _ _ _ _ _ _=>(sg_name (z0t (i:=0) (show List.Nodup (["part"]:List Str) by decide+kernel) rfl (Or.inl rfl)))) (fun _ _ _ _ _ _ _=>sts_nil) (fun _ _ _ _ _ _ _=>(scl T.kad (z1q T) hr (s1 (sv 0)))))
 (ss_one (ss_ret (se_ifExp (sb_cmp (zhV rfl h64) (sc0 z1i) (sv 1) (by with_unfolding_all rfl)) (sc0 z1i) (se_ct rfl (z27 rfl) rfl T.n_tuple PyProof.Rows.Boot.«tuple» (s1 (sv 1)))))))
noncomputable def z1V:MS:=(sRet (z1J (z02 z0k [(mVar 0),(mC (.int 0)),(mBin (mVar 2) (mC (.int 1)) subD)]) (z02 z0k [(mVar 1),(mBin (mVar 0) (mC (.int 1)) addD),(mVar 2)])))
noncomputable def z0u:FM:=runF 3 z1V
theorem z2S(T:Wd K mg):FnOk P w K mg base CX0 3 T.kaf.f T.kaf.d z1S (spM (GT T) 3 z0u):=okM z1V T.kaf.F z4M fun cdv A outer s H E F hr=>(ss_one (ss_ret (se_and (scl T.kat (z0H T) hr (s3 (sv 0) (sc0 z00) (se_sub rfl (sv 2) (sc0 z00)))) (se_one (scl T.kat (z0H T) hr (s3 (sv 1) (se_add rfl (sv 0) (sc0 z00)) (sv 2)))))))
noncomputable def z3l:MS:=(seqS (sIf (mOr (mNot (z25 (mIsi "tuple" (mVar 1)))) (mNot (z25 (mVar 1)))) (sRet (mC (.bool false))) sNx)
 (seqS (sIf (mOr (mBoo (mBin (mBin (mVar 1) (mC (.int 0)) ixD) (mC (.str ("border" :Str))) eqD)) (mBoo (mBin (mBin (mVar 1) (mC (.int 0)) ixD) (mC (.str ("joined" :Str))) eqD))) (sRet (z1J (mBin (mCB [(mVar 1)] lenD) (mC (.int 2)) eqD) (z02 z0k [(mBin (mVar 1) (mC (.int 1)) ixD),(mC (.int 1)),(mBin (mVar 0) (mC (.int 1)) subD)]))) sNx)
 (seqS (sIf (mBoo (mBin (mBin (mVar 1) (mC (.int 0)) ixD) (mC (.str ("span" :Str))) eqD)) (sRet (z1J (mBin (mCB [(mVar 1)] lenD) (mC (.int 3)) eqD) (z02 z0u [(mBin (mVar 1) (mC (.int 1)) ixD),(mBin (mVar 1) (mC (.int 2)) ixD),(mVar 0)]))) sNx)
 (seqS (sIf (mBoo (mBin (mBin (mVar 1) (mC (.int 0)) ixD) (mC (.str ("held" :Str))) eqD)) (sRet (z1J (mBin (mCB [(mVar 1)] lenD) (mC (.int 4)) eqD) (z1J (z02 z0u [(mBin (mVar 1) (mC (.int 1)) ixD),(mBin (mVar 1) (mC (.int 2)) ixD),(mVar 0)]) (z02 z0A [(mBin (mVar 1) (mC (.int 3)) ixD)])))) sNx)
 (sRet (mC (.bool false)))))))
noncomputable def z2u:FM:=runF 2 z3l
theorem z6W(T:Wd K mg):FnOk P w K mg base CX0 5 T.kaz.f T.kaz.d z3d (spM (GT T) 2 z2u):=okM z3l T.kaz.F z6S fun cdv A outer s H E F hr=>by
 have h64:=hr.units
 exact(ss_cons (ss_if (SW.sb (sw_or (sb_not (sb_truth rfl (se_isi rfl (by decide) rfl T.n_isinstance (sv 1) (z36 (v:= .ty "tuple") rfl T.n_tuple PyProof.Rows.Boot.«tuple» rfl)))) (sw_or1 (sb_not (sb_truth rfl (sv 1)))))) (ss_one (ss_ret (sc0 z5z))) ss_nil)
 (ss_cons (ss_if (SW.sb (sw_or (sb_cmp (z30 rfl h64) (sxc (sv 1) z00) (sc0 z0d) (z0h _)) (sw_or1 (sb_cmp (z30 rfl h64) (sxc (sv 1) z00) (sc0 z0d) (z0h _))))) (ss_one (ss_ret (se_and (se_cmp (z30 rfl h64) (sln T.n_len (s1 (sv 1))) (sc0 z00) (z0h _)) (se_one (scl T.kat (z0H T) hr (s3 (sxc (sv 1) z00) (sc0 z00) (se_sub rfl (sv 0) (sc0 z00)))))))) ss_nil)
 (ss_cons (ss_if (sb_cmp (z30 rfl h64) (sxc (sv 1) z00) (sc0 z0d) (z0h _)) (ss_one (ss_ret (se_and (se_cmp (z30 rfl h64) (sln T.n_len (s1 (sv 1))) (sc0 z00) (z0h _)) (se_one (scl T.kaf (z2S T) hr (s3 (sxc (sv 1) z00) (sxc (sv 1) z00) (sv 0))))))) ss_nil)
 (ss_cons (ss_if (sb_cmp (z30 rfl h64) (sxc (sv 1) z00) (sc0 z0d) (z0h _)) (ss_one (ss_ret (se_and (se_cmp (z30 rfl h64) (sln T.n_len (s1 (sv 1))) (sc0 z00) (z0h _)) (se_and (scl T.kaf (z2S T) hr (s3 (sxc (sv 1) z00) (sxc (sv 1) z00) (sv 0))) (se_one (scl T.kac (z3k T) hr (s1 (sxc (sv 1) z00)))))))) ss_nil)
 (ss_one (ss_ret (sc0 z5z)))))))
noncomputable def z0B:MS:=(sIf (mNot (z25 (mIsi "str" (mVar 0)))) (z45 "NoText") sNx)
noncomputable def z08:FM:=runX 1 z0B
theorem z0O(T:Wd K mg):FnOk P w K mg base (CX1 P w) 1 T.kaa.f T.kaa.d z0Y (spX (GT T) 1 z08):=okX z0B T.kaa.F z3h fun cdv A outer s H E F hr hx hrx=>(ss_one (ss_if (sb_not (sb_truth rfl (se_isi rfl (by decide) rfl T.n_isinstance (sv 0) (z36 (v:= .ty "str") rfl T.n_str PyProof.Rows.Boot.«str» rfl)))) (ss_one (ss_raise hr.hd hx hrx (z3C T) rfl T.kaU T.kaM)) ss_nil))
noncomputable def z0C:MS:=(seqS (z7j (z1m z08 [(mVar 0)]))
 (seqS (sIf (mBoo (mBin (mVar 0) (mC (.str ("-" :Str))) eqS)) (sRet (mCB [] lstM)) sNx)
 (seqS (sIf (mOr (mNot (mBoo (z0P (mC (.int 1)) (mCB [(mVar 0)] lenS) (mC (.int 60)) leD leD))) (mNot (z25 (mCB [(z0w (z4G (mVar 0)) (.nm 0) (rt true) (mBin (mVar 0) (mC (.str ("abcdefghijklmnopqrstuvwxyz" :Str))) inS) 1 [])] allD)))) (z45 "NoText") sNx)
 (sRet (z0w (z4G (mVar 0)) (.nm 0) (rt true) (z1h (mC (.str ("abcdefghijklmnopqrstuvwxyz" :Str))) [(mVar 0)] txI) 1 [])))))
noncomputable def z09:FM:=runX 1 z0C
theorem z3m(T:Wd K mg):FnOk P w K mg base (CX1 P w) 2 T.kab.f T.kab.d z0X (spX (GT T) 1 z09):=okX z0C T.kab.F z3g fun cdv A outer s H E F hr hx hrx=>(ss_cons (ss_expr (se_callX hx ((z0O T).mono (by lia)) hr rfl T.kaa.m T.kaa.F.kp T.kaa.b (s1 (sv 0)) rfl))
 (ss_cons (ss_if (sb_cmp z9C (sv 0) (se_c rfl (z05 (v:= .str ("-" :Str)) rfl T.c_NONE.choose_spec ⟨_,rfl⟩)) (z0h _)) (ss_one (ss_ret (se_lst rfl (sa_of rfl .nil)))) ss_nil)
 (ss_cons (ss_if (SW.sb (sw_or (sb_not (sb_cmp2 z2J z2J (sc0 z00) (se_cb rfl (z3S rfl) rfl T.n_len PyProof.Rows.Boot.«len» (s1 (sv 0))) (se_c rfl (z05 (v:= .int 60) rfl T.c_MOST_KEYS.choose_spec ⟨_,rfl⟩)))) (sw_or1 (sb_not (sb_truth rfl (se_cb rfl (z9B rfl hr.hd) rfl T.n_all PyProof.Rows.Boot.«all» (s1 (se_comp (own:=["sign"]) (frees:=[]) (ix:=[]) rfl rfl (z0K.sc (by kernel_rfl)) (si_str (sv 0)) (fun _ _ _ _ _ _ _=>(sg_name (z0t (i:=0) (show List.Nodup (["sign"]:List Str) by decide+kernel) rfl (Or.inl rfl)))) (fun _ _ _ _ _ _ _=>sts_nil) (fun _ _ _ _ _ _ _=>(se_cmp zc3 (sv 0) (se_c rfl (z05 (v:= .str ("abcdefghijklmnopqrstuvwxyz" :Str)) rfl T.c_LETTERS.choose_spec ⟨_,rfl⟩)) (by with_unfolding_all rfl))))))))))) (ss_one (ss_raise hr.hd hx hrx (z3C T) rfl T.kaU T.kaM)) ss_nil)
 (ss_one (ss_ret (se_comp (own:=["sign"]) (frees:=[]) (ix:=[]) rfl rfl (z0K.sc (by kernel_rfl)) (si_str (sv 0)) (fun _ _ _ _ _ _ _=>(sg_name (z0t (i:=0) (show List.Nodup (["sign"]:List Str) by decide+kernel) rfl (Or.inl rfl)))) (fun _ _ _ _ _ _ _=>sts_nil) (fun _ _ _ _ _ _ _=>(se_ctS rfl PySem.F.slot_str_index PySem.F.type_str_index zfO (se_c rfl (z05 (v:= .str ("abcdefghijklmnopqrstuvwxyz" :Str)) rfl T.c_LETTERS.choose_spec ⟨_,rfl⟩)) (s1 (sv 0))))))))))
noncomputable def z1w:MS:=(seqS (z7j (z1m z08 [(mVar 0)]))
 (seqS (sAsg (.nm 1) (z1h (mVar 0) [(mC (.str ("/" :Str)))] z1A))
 (seqS (sAsg (.nm 2) (mBin (mCB [(z0w (z0L (mSl (mVar 1) none (some (mC (.int 2))))) (.nm 0) (rt true) (z02 z0l [(mVar 0)]) 1 [])] tupF) (mCB [(z0w (z0L (mSl (mVar 1) (some (mC (.int 2))) none)) (.nm 0) (rt true) (z02 z0e [(mVar 0)]) 1 [])] tupF) addD))
 (seqS (sIf (mNot (z25 (z02 z0N [(mVar 2)]))) (z45 "NoText") sNx)
 (sRet (mVar 2))))))
noncomputable def z0m:FM:=runX 3 z1w
theorem z57(T:Wd K mg):FnOk P w K mg base (CX1 P w) 5 T.kao.f T.kao.d z2j (spX (GT T) 1 z0m):=okX z1w T.kao.F z1T fun cdv A outer s H E F hr hx hrx=>(ss_cons (ss_expr (se_callX hx ((z0O T).mono (by lia)) hr rfl T.kaa.m T.kaa.F.kp T.kaa.b (s1 (sv 0)) rfl))
 (ss_cons (sst 1 z1T.nd (se_ctS rfl PySem.F.slot_str_split PySem.F.type_str_split z28 (sv 0) (s1 (sc0 z0d))))
 (ss_cons (sst 2 z1T.nd (se_add rfl (se_ct rfl (z27 rfl) rfl T.n_tuple PyProof.Rows.Boot.«tuple» (s1 (se_comp (own:=["part"]) (frees:=[]) (ix:=[]) rfl rfl (z0K.sc (by kernel_rfl)) (si_seq rfl (se_slice rfl (sv 1) so_none (so_some (sc0 z00)))) (fun _ _ _ _ _ _ _=>(sg_name (z0t (i:=0) (show List.Nodup (["part"]:List Str) by decide+kernel) rfl (Or.inl rfl)))) (fun _ _ _ _ _ _ _=>sts_nil) (fun _ _ _ _ _ _ _=>(scl T.kae (z2I T) hr (s1 (sv 0))))))) (se_ct rfl (z27 rfl) rfl T.n_tuple PyProof.Rows.Boot.«tuple» (s1 (se_comp (own:=["part"]) (frees:=[]) (ix:=[]) rfl rfl (z0K.sc (by kernel_rfl)) (si_seq rfl (se_slice rfl (sv 1) (so_some (sc0 z00)) so_none)) (fun _ _ _ _ _ _ _=>(sg_name (z0t (i:=0) (show List.Nodup (["part"]:List Str) by decide+kernel) rfl (Or.inl rfl)))) (fun _ _ _ _ _ _ _=>sts_nil) (fun _ _ _ _ _ _ _=>(scl T.kad (z1q T) hr (s1 (sv 0)))))))))
 (ss_cons (ss_if (sb_not (sb_truth rfl (scl T.kax (z6V T) hr (s1 (sv 2))))) (ss_one (ss_raise hr.hd hx hrx (z3C T) rfl T.kaU T.kaM)) ss_nil)
 (ss_one (ss_ret (sv 2)))))))
noncomputable def z1x:MS:=(seqS (z7j (z1m z08 [(mVar 1)]))
 (seqS (sAsg (.nm 2) (z1h (mVar 1) [(mC (.str (":" :Str)))] z1A))
 (seqS (sAsg (.nm 3) (mCB [(z0w (z0L (mSl (mVar 2) (some (mC (.int 1))) (some (mC (.int 3))))) (.nm 0) (rt true) (z02 z0e [(mVar 0)]) 1 [])] tupF))
 (seqS (sAsg (.nm 4) (mBin (mBin (mCB [(mBin (mVar 2) (mC (.int 0)) ixD)] tupD) (mVar 3) addD) (mCB [(z0w (z0L (mSl (mVar 2) (some (mC (.int 3))) none)) (.nm 0) (rt true) (z02 z0l [(mVar 0)]) 1 [])] tupF) addD))
 (seqS (sIf (mNot (z25 (z02 z2u [(mVar 0),(mVar 4)]))) (z45 "NoText") sNx)
 (sRet (mVar 4)))))))
noncomputable def z0s:FM:=runX 5 z1x
theorem z58(T:Wd K mg):FnOk P w K mg base (CX1 P w) 6 T.kam.f T.kam.d z2k (spX (GT T) 2 z0s):=okX z1x T.kam.F z1j fun cdv A outer s H E F hr hx hrx=>(ss_cons (ss_expr (se_callX hx ((z0O T).mono (by lia)) hr rfl T.kaa.m T.kaa.F.kp T.kaa.b (s1 (sv 1)) rfl))
 (ss_cons (sst 2 z1j.nd (se_ctS rfl PySem.F.slot_str_split PySem.F.type_str_split z28 (sv 1) (s1 (sc0 z0d))))
 (ss_cons (sst 3 z1j.nd (se_ct rfl (z27 rfl) rfl T.n_tuple PyProof.Rows.Boot.«tuple» (s1 (se_comp (own:=["part"]) (frees:=[]) (ix:=[]) rfl rfl (z0K.sc (by kernel_rfl)) (si_seq rfl (se_slice rfl (sv 2) (so_some (sc0 z00)) (so_some (sc0 z00)))) (fun _ _ _ _ _ _ _=>(sg_name (z0t (i:=0) (show List.Nodup (["part"]:List Str) by decide+kernel) rfl (Or.inl rfl)))) (fun _ _ _ _ _ _ _=>sts_nil) (fun _ _ _ _ _ _ _=>(scl T.kad (z1q T) hr (s1 (sv 0))))))))
 (ss_cons (sst 4 z1j.nd (se_add rfl (se_add rfl (se_tup rfl (s1 (sxc (sv 2) z00))) (sv 3)) (se_ct rfl (z27 rfl) rfl T.n_tuple PyProof.Rows.Boot.«tuple» (s1 (se_comp (own:=["part"]) (frees:=[]) (ix:=[]) rfl rfl (z0K.sc (by kernel_rfl)) (si_seq rfl (se_slice rfl (sv 2) (so_some (sc0 z00)) so_none)) (fun _ _ _ _ _ _ _=>(sg_name (z0t (i:=0) (show List.Nodup (["part"]:List Str) by decide+kernel) rfl (Or.inl rfl)))) (fun _ _ _ _ _ _ _=>sts_nil) (fun _ _ _ _ _ _ _=>(scl T.kae (z2I T) hr (s1 (sv 0)))))))))
 (ss_cons (ss_if (sb_not (sb_truth rfl (scl T.kaz (z6W T) hr (s2 (sv 0) (sv 4))))) (ss_one (ss_raise hr.hd hx hrx (z3C T) rfl T.kaU T.kaM)) ss_nil)
 (ss_one (ss_ret (sv 4))))))))
noncomputable def z7x:MS:=(seqS (sAsg (.nm 2) (mC (.int 0)))
 (seqS (sIf (mBoo (mBin (mVar 1) (mCB [(mVar 0)] lenD) ltD)) (sAsg (.nm 2) (mCB [(mBin (mVar 0) (mVar 1) ixD)] absD)) sNx)
 (seqS (sAsg (.nm 3) (mBin (mBin (mBin (mBin (mBin (mVar 2) (mC (.int 2147483629)) modD) (mBin (mC (.int 104729)) (mVar 1) mulD) addD) (mC (.int 17)) addD) (mC (.int 5)) powD) (mC (.int 2147483647)) modD))
 (seqS (sFor (z2Z [(mCB [(mCB [(mVar 0)] lenD),(mC (.int 60))] minD)]) (.nm 4) (sAsg (.nm 3) (mBin (mBin (mBin (mBin (mVar 3) (mC (.int 48271)) mulD) (mBin (mBin (mBin (mVar 0) (mVar 4) ixD) (mC (.int 2147483587)) modD) (mBin (mVar 4) (mC (.int 3)) addD) mulD) addD) (mVar 4) addD) (mC (.int 2147483629)) modD)))
 (seqS (sIf (mBoo (mBin (mVar 2) (mBin (mC (.int 10)) (mC (.int 18)) powD) ltD)) (sAsg (.nm 2) (mC (.int 0))) sNx)
 (sRet (mCB [(mVar 2),(mVar 3)] lstM)))))))
noncomputable def z4O:FM:=runF 5 z7x
theorem zbv(T:Wd K mg):FnOk P w K mg base CX0 1 T.kbm.f T.kbm.d z7t (spM (GT T) 2 z4O):=okM z7x T.kbm.F z2r fun cdv A outer s H E F hr=>(ss_cons (sst 2 z2r.nd (sc0 z00))
 (ss_cons (ss_if (sb_cmp z5L (sv 1) (sln T.n_len (s1 (sv 0))) (z0h _)) (ss_one (sst 2 z2r.nd (se_cb rfl zfr rfl T.n_abs PyProof.Rows.Boot.«abs» (s1 (sxx (sv 0) (sv 1)))))) ss_nil)
 (ss_cons (sst 3 z2r.nd (se_mod rfl (se_pow rfl (se_add rfl (se_add rfl (se_mod rfl (sv 2) (sc0 z00)) (se_mul rfl (sc0 z00) (sv 1))) (sc0 z00)) (sc0 z00)) (sc0 z00)))
 (ss_cons (ss_for PassesOwn.never rfl (si_rng1 rfl T.n_range (s1 (se_cb rfl (zbZ rfl) rfl T.n_min PyProof.Rows.Boot.«min» (s2 (sln T.n_len (s1 (sv 0))) (sc0 z00))))) (sgn 4 z2r.nd) (ss_one (sst 3 z2r.nd (se_mod rfl (se_add rfl (se_add rfl (se_mul rfl (sv 3) (sc0 z00)) (se_mul rfl (se_mod rfl (sxx (sv 0) (sv 4)) (sc0 z00)) (se_add rfl (sv 4) (sc0 z00)))) (sv 4)) (sc0 z00)))))
 (ss_cons (ss_if (sb_cmp z5L (sv 2) (se_pow rfl (sc0 z00) (sc0 z00)) (z0h _)) (ss_one (sst 2 z2r.nd (sc0 z00))) ss_nil)
 (ss_one (ss_ret (se_lst rfl (s2 (sv 2) (sv 3))))))))))
noncomputable def z67:MS:=(seqS (sIf (mBoo (mBin (mBin (mVar 0) (mC (.int 0)) ixD) (mC (.int 0)) gtD)) (seqS (sAsg (.nm 2) (mBin (mBin (mVar 0) (mC (.int 0)) ixD) (mVar 1) modD))
 (seqS (mTri (mBin (mBin (mVar 0) (mC (.int 0)) ixD) (mVar 1) z6I) (mVar 0) (mC (.int 0)) setD)
 (sRet (mVar 2)))) sNx)
 (seqS (mTri (mBin (mBin (mBin (mBin (mVar 0) (mC (.int 1)) ixD) (mC (.int 48271)) mulD) (mC (.int 7919)) addD) (mC (.int 2147483647)) modD) (mVar 0) (mC (.int 1)) setD)
 (sRet (mBin (mBin (mBin (mBin (mBin (mBin (mBin (mVar 0) (mC (.int 1)) ixD) (mC (.int 3)) powD) (mC (.int 2147483587)) modD) (mC (.int 7)) z6I) (mC (.int 69621)) mulD) (mC (.int 1073741789)) modD) (mVar 1) modD))))
noncomputable def z04:FM:=runF 3 z67
theorem z0b(T:Wd K mg):FnOk P w K mg base CX0 1 T.kbg.f T.kbg.d z5W (spM (GT T) 2 z04):=okM z67 T.kbg.F z6T fun cdv A outer s H E F hr=>(ss_cons (ss_if (sb_cmp zdx (sxc (sv 0) z00) (sc0 z00) (z0h _)) (ss_cons (sst 2 z6T.nd (se_mod rfl (sxc (sv 0) z00) (sv 1)))
 (ss_cons (ss_setI (se_fdiv rfl (sxc (sv 0) z00) (sv 1)) (sv 0) (sc0 z00) (fun{to ti} h1 h2=>zbR h1 h2 z7T))
 (ss_one (ss_ret (sv 2))))) ss_nil)
 (ss_cons (ss_setI (se_mod rfl (se_add rfl (se_mul rfl (sxc (sv 0) z00) (sc0 z00)) (sc0 z00)) (sc0 z00)) (sv 0) (sc0 z00) (fun{to ti} h1 h2=>zbR h1 h2 z7T))
 (ss_one (ss_ret (se_mod rfl (se_mod rfl (se_mul rfl (se_fdiv rfl (se_mod rfl (se_pow rfl (sxc (sv 0) z00) (sc0 z00)) (sc0 z00)) (sc0 z00)) (sc0 z00)) (sc0 z00)) (sv 1))))))
noncomputable def z68:MS:=(seqS (sIf (mBoo (mBin (mCB [(mVar 0)] lenD) (mC (.int 0)) eqD)) (sRet (mC (.str ("-" :Str)))) sNx)
 (sRet (z1h (mC (.str ("." :Str))) [(z0w (z0L (mVar 0)) (.nm 0) (rt true) (mCB [(mVar 0)] strA) 1 [])] z3R)))
noncomputable def z2v:FM:=runF 1 z68
theorem z4P(T:Wd K mg):FnOk P w K mg base CX0 1 T.kbf.f T.kbf.d z5X (spM (GT T) 1 z2v):=okM z68 T.kbf.F z9R fun cdv A outer s H E F hr=>by
 have h64:=hr.units
 exact(ss_cons (ss_if (sb_cmp (z30 rfl h64) (sln T.n_len (s1 (sv 0))) (sc0 z00) (z0h _)) (ss_one (ss_ret (sc0 z0d))) ss_nil)
 (ss_one (ss_ret (se_ctS rfl PySem.F.slot_str_join PySem.F.type_str_join (z2M rfl) (sc0 z0d) (s1 (se_comp (own:=["_law_number_here"]) (frees:=[]) (ix:=[]) rfl rfl (z0K.sc (by kernel_rfl)) (si_seq rfl (sv 0)) (fun _ _ _ _ _ _ _=>(sg_name (z0t (i:=0) (show List.Nodup (["_law_number_here"]:List Str) by decide+kernel) rfl (Or.inl rfl)))) (fun _ _ _ _ _ _ _=>sts_nil) (fun _ _ _ _ _ _ _=>(se_ct rfl (z3Q rfl hr.gd h64) rfl T.n_str PyProof.Rows.Boot.«str» (s1 (sv 0))))))))))
noncomputable def z2w:MS:=(seqS (sIf (mBoo (mBin (mCB [(mVar 0)] lenD) (mC (.int 0)) eqD)) (sRet (mC (.str ("-" :Str)))) sNx)
 (sRet (z1h (mC (.str ("" :Str))) [(z0w (z0L (mVar 0)) (.nm 0) (rt true) (mBin (mC (.str ("abcdefghijklmnopqrstuvwxyz" :Str))) (mVar 0) ixS) 1 [])] z3R)))
noncomputable def z1c:FM:=runF 1 z2w
theorem z59(T:Wd K mg):FnOk P w K mg base CX0 1 T.kan.f T.kan.d z2l (spM (GT T) 1 z1c):=okM z2w T.kan.F z52 fun cdv A outer s H E F hr=>by
 have h64:=hr.units
 exact(ss_cons (ss_if (sb_cmp (z30 rfl h64) (sln T.n_len (s1 (sv 0))) (sc0 z00) (z0h _)) (ss_one (ss_ret (sc0 z0d))) ss_nil)
 (ss_one (ss_ret (se_ctS rfl PySem.F.slot_str_join PySem.F.type_str_join (z2M rfl) (sc0 z0d) (s1 (se_comp (own:=["_law_key"]) (frees:=[]) (ix:=[]) rfl rfl (z0K.sc (by kernel_rfl)) (si_seq rfl (sv 0)) (fun _ _ _ _ _ _ _=>(sg_name (z0t (i:=0) (show List.Nodup (["_law_key"]:List Str) by decide+kernel) rfl (Or.inl rfl)))) (fun _ _ _ _ _ _ _=>sts_nil) (fun _ _ _ _ _ _ _=>(se_ixS (sc0 z0d) (sv 0) (fun _ _=>rfl)))))))))
noncomputable def z2x:MS:=(sRet (z1h (mC (.str ("/" :Str))) [(mCB [(z02 z2v [(mBin (mVar 0) (mC (.int 0)) ixD)]),(z02 z2v [(mBin (mVar 0) (mC (.int 1)) ixD)]),(mCB [(mBin (mVar 0) (mC (.int 2)) ixD)] strA),(mCB [(mBin (mVar 0) (mC (.int 3)) ixD)] strA)] lstM)] z3R))
noncomputable def z1d:FM:=runF 1 z2x
theorem z5a(T:Wd K mg):FnOk P w K mg base CX0 2 T.kah.f T.kah.d z2m (spM (GT T) 1 z1d):=okM z2x T.kah.F z53 fun cdv A outer s H E F hr=>by
 have h64:=hr.units
 exact(ss_one (ss_ret (se_ctS rfl PySem.F.slot_str_join PySem.F.type_str_join (z2M rfl) (sc0 z0d) (s1 (se_lst rfl (s4 (scl T.kbf (z4P T) hr (s1 (sxc (sv 0) z00))) (scl T.kbf (z4P T) hr (s1 (sxc (sv 0) z00))) (se_ct rfl (z3Q rfl hr.gd h64) rfl T.n_str PyProof.Rows.Boot.«str» (s1 (sxc (sv 0) z00))) (se_ct rfl (z3Q rfl hr.gd h64) rfl T.n_str PyProof.Rows.Boot.«str» (s1 (sxc (sv 0) z00)))))))))
noncomputable def z2y:MS:=(seqS (sAsg (.nm 1) (z0w (z0L (mSl (mVar 0) (some (mC (.int 1))) (some (mC (.int 3))))) (.nm 0) (rt true) (mCB [(mVar 0)] strA) 1 []))
 (sRet (z1h (mC (.str (":" :Str))) [(mBin (mBin (mCB [(mBin (mVar 0) (mC (.int 0)) ixD)] lstM) (mVar 1) addD) (z0w (z0L (mSl (mVar 0) (some (mC (.int 3))) none)) (.nm 0) (rt true) (z02 z2v [(mVar 0)]) 1 []) addD)] z3R)))
noncomputable def z0I:FM:=runF 2 z2y
theorem z5b(T:Wd K mg):FnOk P w K mg base CX0 2 T.kai.f T.kai.d z2n (spM (GT T) 1 z0I):=okM z2y T.kai.F z34 fun cdv A outer s H E F hr=>by
 have h64:=hr.units
 exact(ss_cons (ss_comp (i:=1) (own:=["_law_place"]) (frees:=[]) (ix:=[]) rfl z34.nd rfl (Or.inl rfl) (Or.inl rfl) rfl rfl (z0K.sc (by kernel_rfl)) (si_seq rfl (se_slice rfl (sv 0) (so_some (sc0 z00)) (so_some (sc0 z00)))) (fun _ _ _ _ _ _ _=>(sg_name (z0t (i:=0) (show List.Nodup (["_law_place"]:List Str) by decide+kernel) rfl (Or.inl rfl)))) (fun _ _ _ _ _ _ _=>sts_nil) (fun _ _ _ _ _ _ _=>(se_ct rfl (z3Q rfl hr.gd h64) rfl T.n_str PyProof.Rows.Boot.«str» (s1 (sv 0)))))
 (ss_one (ss_ret (se_ctS rfl PySem.F.slot_str_join PySem.F.type_str_join (z2M rfl) (sc0 z0d) (s1 (se_add rfl (se_add rfl (se_lst rfl (s1 (sxc (sv 0) z00))) (sv 1)) (se_comp (own:=["_law_signs"]) (frees:=[]) (ix:=[]) rfl rfl (z0K.sc (by kernel_rfl)) (si_seq rfl (se_slice rfl (sv 0) (so_some (sc0 z00)) so_none)) (fun _ _ _ _ _ _ _=>(sg_name (z0t (i:=0) (show List.Nodup (["_law_signs"]:List Str) by decide+kernel) rfl (Or.inl rfl)))) (fun _ _ _ _ _ _ _=>sts_nil) (fun _ _ _ _ _ _ _=>(scl T.kbf (z4P T) hr (s1 (sv 0)))))))))))
noncomputable def z3n:MS:=(sRet (mCB [(z0w (z2Z [(mVar 1)]) (.nm 0) (rt true) (z02 z04 [(mVar 1),(mVar 2)]) 1 [0,2])] tupF))
noncomputable def z0x:FM:=runF 3 z3n
theorem z1O(T:Wd K mg):FnOk P w K mg base CX0 2 T.kaw.f T.kaw.d z3e (spM (GT T) 3 z0x):=okM z3n T.kaw.F z6U fun cdv A outer s H E F hr=>(ss_one (ss_ret (se_ct rfl (z27 rfl) rfl T.n_tuple PyProof.Rows.Boot.«tuple» (s1 (se_comp (own:=["_law_k"]) (frees:=["_law_bag_here", "_law_most"]) (ix:=[0,2]) rfl rfl (z0K.sc (by kernel_rfl)) (si_rng1 rfl T.n_range (s1 (sv 1))) (fun _ _ _ _ _ _ _=>(sg_name (z0t (i:=0) (show List.Nodup (["_law_k", "_law_bag_here", "_law_most"]:List Str) by decide+kernel) rfl (Or.inl rfl)))) (fun _ _ _ _ _ _ _=>sts_nil) (fun _ _ _ _ _ _ _=>(scl T.kbg (z0b T) hr (s2 (sv 1) (sv 2)))))))))
noncomputable def z69:MS:=(seqS (sAsg (.nm 1) (z02 z0x [(mVar 0),(mBin (mC (.int 1)) (z02 z04 [(mVar 0),(mC (.int 6))]) addD),(mC (.int 40))]))
 (seqS (sAsg (.nm 2) (z02 z0x [(mVar 0),(mBin (mC (.int 1)) (z02 z04 [(mVar 0),(mC (.int 4))]) addD),(mC (.int 1000))]))
 (sRet (mCB [(mVar 1),(mVar 2),(z02 z04 [(mVar 0),(mC (.int 8))]),(z02 z04 [(mVar 0),(mBin (mCB [(mC (.int 10)),(mC (.int 10000))] lstM) (z02 z04 [(mVar 0),(mC (.int 2))]) ixD)])] tupD))))
noncomputable def z3D:FM:=runF 3 z69
theorem z9S(T:Wd K mg):FnOk P w K mg base CX0 3 T.ka3.f T.ka3.d z5Z (spM (GT T) 1 z3D):=okM z69 T.ka3.F z4N fun cdv A outer s H E F hr=>(ss_cons (sst 1 z4N.nd (scl T.kaw (z1O T) hr (s3 (sv 0) (se_add rfl (sc0 z00) (scl T.kbg (z0b T) hr (s2 (sv 0) (sc0 z00)))) (sc0 z00))))
 (ss_cons (sst 2 z4N.nd (scl T.kaw (z1O T) hr (s3 (sv 0) (se_add rfl (sc0 z00) (scl T.kbg (z0b T) hr (s2 (sv 0) (sc0 z00)))) (sc0 z00))))
 (ss_one (ss_ret (se_tup rfl (s4 (sv 1) (sv 2) (scl T.kbg (z0b T) hr (s2 (sv 0) (sc0 z00))) (scl T.kbg (z0b T) hr (s2 (sv 0) (sxx (se_lst rfl (s2 (sc0 z00) (sc0 z00))) (scl T.kbg (z0b T) hr (s2 (sv 0) (sc0 z00))))))))))))
noncomputable def z6a:MS:=(seqS (sAsg (.nm 2) (z02 z04 [(mVar 0),(mC (.int 4))]))
 (seqS (sAsg (.nm 3) (z02 z04 [(mVar 0),(mVar 1)]))
 (seqS (sAsg (.nm 4) (mBin (mBin (mVar 3) (mC (.int 1)) addD) (z02 z04 [(mVar 0),(mBin (mVar 1) (mVar 3) subD)]) addD))
 (seqS (sIf (mAnd (mBoo (mBin (mVar 2) (mC (.int 2)) ltD)) (mBoo (mBin (mVar 1) (mC (.int 1)) gtD))) (sRet (mCB [(mBin (mCB [(mC (.str ("border" :Str))),(mC (.str ("joined" :Str)))] lstM) (mVar 2) ixD),(mBin (mC (.int 1)) (z02 z04 [(mVar 0),(mBin (mVar 1) (mC (.int 1)) subD)]) addD)] tupD)) sNx)
 (seqS (sIf (mBoo (mBin (mVar 2) (mC (.int 2)) eqD)) (sRet (mCB [(mC (.str ("span" :Str))),(mVar 3),(mVar 4)] tupD)) sNx)
 (sRet (mCB [(mC (.str ("held" :Str))),(mVar 3),(mVar 4),(z02 z0x [(mVar 0),(mBin (mC (.int 1)) (z02 z04 [(mVar 0),(mBin (mCB [(mC (.int 3)),(mC (.int 24))] lstM) (z02 z04 [(mVar 0),(mC (.int 2))]) ixD)]) addD),(mC (.int 1040))])] tupD)))))))
noncomputable def z3E:FM:=runF 5 z6a
theorem z9T(T:Wd K mg):FnOk P w K mg base CX0 3 T.kbb.f T.kbb.d z60 (spM (GT T) 2 z3E):=okM z6a T.kbb.F z3B fun cdv A outer s H E F hr=>by
 have h64:=hr.units
 exact(ss_cons (sst 2 z3B.nd (scl T.kbg (z0b T) hr (s2 (sv 0) (sc0 z00))))
 (ss_cons (sst 3 z3B.nd (scl T.kbg (z0b T) hr (s2 (sv 0) (sv 1))))
 (ss_cons (sst 4 z3B.nd (se_add rfl (se_add rfl (sv 3) (sc0 z00)) (scl T.kbg (z0b T) hr (s2 (sv 0) (se_sub rfl (sv 1) (sv 3))))))
 (ss_cons (ss_if (SW.sb (sw_and (sb_cmp z5L (sv 2) (sc0 z00) (z0h _)) (sw_and1 (sb_cmp zdx (sv 1) (sc0 z00) (z0h _))))) (ss_one (ss_ret (se_tup rfl (s2 (sxx (se_lst rfl (s2 (sc0 z0d) (sc0 z0d))) (sv 2)) (se_add rfl (sc0 z00) (scl T.kbg (z0b T) hr (s2 (sv 0) (se_sub rfl (sv 1) (sc0 z00))))))))) ss_nil)
 (ss_cons (ss_if (sb_cmp (z30 rfl h64) (sv 2) (sc0 z00) (z0h _)) (ss_one (ss_ret (se_tup rfl (s3 (sc0 z0d) (sv 3) (sv 4))))) ss_nil)
 (ss_one (ss_ret (se_tup rfl (s4 (sc0 z0d) (sv 3) (sv 4) (scl T.kaw (z1O T) hr (s3 (sv 0) (se_add rfl (sc0 z00) (scl T.kbg (z0b T) hr (s2 (sv 0) (sxx (se_lst rfl (s2 (sc0 z00) (sc0 z00))) (scl T.kbg (z0b T) hr (s2 (sv 0) (sc0 z00))))))) (sc0 z00))))))))))))
noncomputable def z3Y:MS:=(seqS (sIf (mOr (mNot (mBoo (z0P (mC (.int 1)) (mCB [(mVar 0)] lenS) (mC (.int 5)) leD leD))) (mOr (mBoo (mBin (z1h (mVar 0) [(mC (.str ("0123456789" :Str)))] txS) (mC (.str ("" :Str))) neS)) (mBoo (mBin (mCB [(mCB [(mVar 0)] intS)] strA) (mVar 0) neS)))) (sRet (bd (mC (.int 1)) negD)) sNx)
 (sRet (mCB [(mVar 0)] intS)))
noncomputable def z0J:FM:=runF 1 z3Y
theorem z2z(T:Wd K mg):FnOk P w K mg base CX0 1 T.kaI.f T.kaI.d z3W (spM (GT T) 1 z0J):=okM z3Y T.kaI.F z7w fun cdv A outer s H E F hr=>by
 have h64:=hr.units
 exact(ss_cons (ss_if (SW.sb (sw_or (sb_not (sb_cmp2 z2J z2J (sc0 z00) (se_cb rfl (z3S rfl) rfl T.n_len PyProof.Rows.Boot.«len» (s1 (sv 0))) (sc0 z00))) (sw_or (sb_cmp z89 (se_ctS rfl PySem.F.slot_str_strip PySem.F.type_str_strip zc4 (sv 0) (s1 (sc0 z0d))) (sc0 z0d) (z0h _)) (sw_or1 (sb_cmp z89 (se_ct rfl (z3Q rfl hr.gd h64) rfl T.n_str PyProof.Rows.Boot.«str» (s1 (se_ct rfl z7p rfl T.n_int PyProof.Rows.Boot.«int» (s1 (sv 0))))) (sv 0) (z0h _)))))) (ss_one (ss_ret (se_neg rfl (sc0 z00)))) ss_nil)
 (ss_one (ss_ret (se_ct rfl z7p rfl T.n_int PyProof.Rows.Boot.«int» (s1 (sv 0))))))
noncomputable def z7y:MS:=(seqS (sAsg (.nm 3) (mCB [(z0w (z0L (z1h (mVar 0) [(mC (.str ("." :Str)))] z1A)) (.nm 0) (rt true) (z02 z0J [(mVar 0)]) 1 [])] tupF))
 (seqS (sIf (mOr (mBoo (mBin (mCB [(mVar 3)] lenD) (mVar 1) gtD)) (mBoo (mBin (z0w (z0L (mVar 3)) (.nm 0) (mNot (mBoo (z0P (mC (.int 0)) (mVar 0) (mVar 1) leD leD))) (mVar 0) 1 [2]) (mCB [] lstM) neD))) (sRet (mC .non)) sNx)
 (sRet (mVar 3))))
noncomputable def z3Z:FM:=runF 4 z7y
theorem z6b(T:Wd K mg):FnOk P w K mg base CX0 2 T.kbk.f T.kbk.d z7u (spM (GT T) 3 z3Z):=okM z7y T.kbk.F z8c fun cdv A outer s H E F hr=>by
 have h64:=hr.units
 exact(ss_cons (sst 3 z8c.nd (se_ct rfl (z27 rfl) rfl T.n_tuple PyProof.Rows.Boot.«tuple» (s1 (se_comp (own:=["_law_part"]) (frees:=[]) (ix:=[]) rfl rfl (z0K.sc (by kernel_rfl)) (si_seq rfl (se_ctS rfl PySem.F.slot_str_split PySem.F.type_str_split z28 (sv 0) (s1 (sc0 z0d)))) (fun _ _ _ _ _ _ _=>(sg_name (z0t (i:=0) (show List.Nodup (["_law_part"]:List Str) by decide+kernel) rfl (Or.inl rfl)))) (fun _ _ _ _ _ _ _=>sts_nil) (fun _ _ _ _ _ _ _=>(scl T.kaI (z2z T) hr (s1 (sv 0))))))))
 (ss_cons (ss_if (SW.sb (sw_or (sb_cmp zdx (sln T.n_len (s1 (sv 3))) (sv 1) (z0h _)) (sw_or1 (sb_cmp (z8A rfl h64) (se_comp (own:=["_law_one"]) (frees:=["_law_most"]) (ix:=[2]) rfl rfl (z0K.sc (by kernel_rfl)) (si_seq rfl (sv 3)) (fun _ _ _ _ _ _ _=>(sg_name (z0t (i:=0) (show List.Nodup (["_law_one", "_law_most"]:List Str) by decide+kernel) rfl (Or.inl rfl)))) (fun _ _ _ _ _ _ _=>(sts_one (sb_not (sb_cmp2 z2J z2J (sc0 z00) (sv 0) (sv 1))))) (fun _ _ _ _ _ _ _=>(sv 0))) (se_lst rfl (sa_of rfl .nil)) (z0h _))))) (ss_one (ss_ret (sc0 z1i))) ss_nil)
 (ss_one (ss_ret (sv 3)))))
noncomputable def z2A:MS:=(seqS (sIf (mBoo (mBin (mVar 0) (mC (.str ("-" :Str))) eqS)) (sRet (mCB [] lstM)) sNx)
 (seqS (sIf (mOr (mNot (mBoo (z0P (mC (.int 1)) (mCB [(mVar 0)] lenS) (mC (.int 60)) leD leD))) (mBoo (mBin (z1h (mVar 0) [(mC (.str ("abcdefghijklmnopqrstuvwxyz" :Str)))] txS) (mC (.str ("" :Str))) neS))) (sRet (mC .non)) sNx)
 (sRet (z0w (z4G (mVar 0)) (.nm 0) (rt true) (z1h (mC (.str ("abcdefghijklmnopqrstuvwxyz" :Str))) [(mVar 0)] txF) 1 []))))
noncomputable def z1e:FM:=runF 1 z2A
theorem z5c(T:Wd K mg):FnOk P w K mg base CX0 1 T.kaq.f T.kaq.d z2o (spM (GT T) 1 z1e):=okM z2A T.kaq.F z54 fun cdv A outer s H E F hr=>(ss_cons (ss_if (sb_cmp z9C (sv 0) (sc0 z0d) (z0h _)) (ss_one (ss_ret (se_lst rfl (sa_of rfl .nil)))) ss_nil)
 (ss_cons (ss_if (SW.sb (sw_or (sb_not (sb_cmp2 z2J z2J (sc0 z00) (se_cb rfl (z3S rfl) rfl T.n_len PyProof.Rows.Boot.«len» (s1 (sv 0))) (sc0 z00))) (sw_or1 (sb_cmp z89 (se_ctS rfl PySem.F.slot_str_strip PySem.F.type_str_strip zc4 (sv 0) (s1 (sc0 z0d))) (sc0 z0d) (z0h _))))) (ss_one (ss_ret (sc0 z1i))) ss_nil)
 (ss_one (ss_ret (se_comp (own:=["_law_sign"]) (frees:=[]) (ix:=[]) rfl rfl (z0K.sc (by kernel_rfl)) (si_str (sv 0)) (fun _ _ _ _ _ _ _=>(sg_name (z0t (i:=0) (show List.Nodup (["_law_sign"]:List Str) by decide+kernel) rfl (Or.inl rfl)))) (fun _ _ _ _ _ _ _=>sts_nil) (fun _ _ _ _ _ _ _=>(se_ctS rfl PySem.F.slot_str_find PySem.F.type_str_find zfP (sc0 z0d) (s1 (sv 0)))))))))
noncomputable def z2B:MS:=(seqS (sAsg (.nm 1) (z1h (mVar 0) [(mC (.str ("/" :Str)))] z1A))
 (seqS (sIf (mBoo (mBin (mCB [(mVar 1)] lenD) (mC (.int 4)) neD)) (sRet (mC .non)) sNx)
 (seqS (sAsg (.nm 2) (mCB [(z02 z3Z [(mBin (mVar 1) (mC (.int 0)) ixD),(mC (.int 6)),(mC (.int 39))]),(z02 z3Z [(mBin (mVar 1) (mC (.int 1)) ixD),(mC (.int 4)),(mC (.int 999))]),(z02 z0J [(mBin (mVar 1) (mC (.int 2)) ixD)]),(z02 z0J [(mBin (mVar 1) (mC (.int 3)) ixD)])] tupD))
 (seqS (sIf (mOr (mBoo (mBin (mBin (mVar 2) (mC (.int 0)) ixD) (mC .non) isN)) (mOr (mBoo (mBin (mBin (mVar 2) (mC (.int 1)) ixD) (mC .non) isN)) (mOr (mNot (mBoo (z0P (mC (.int 0)) (mBin (mVar 2) (mC (.int 2)) ixD) (mC (.int 8)) leD ltD))) (mNot (mBoo (z0P (mC (.int 0)) (mBin (mVar 2) (mC (.int 3)) ixD) (mC (.int 10000)) leD ltD)))))) (sRet (mC .non)) sNx)
 (sRet (mVar 2))))))
noncomputable def z1f:FM:=runF 3 z2B
theorem z5d(T:Wd K mg):FnOk P w K mg base CX0 3 T.kag.f T.kag.d z2p (spM (GT T) 1 z1f):=okM z2B T.kag.F z1U fun cdv A outer s H E F hr=>by
 have h64:=hr.units
 exact(ss_cons (sst 1 z1U.nd (se_ctS rfl PySem.F.slot_str_split PySem.F.type_str_split z28 (sv 0) (s1 (sc0 z0d))))
 (ss_cons (ss_if (sb_cmp (z8A rfl h64) (sln T.n_len (s1 (sv 1))) (sc0 z00) (z0h _)) (ss_one (ss_ret (sc0 z1i))) ss_nil)
 (ss_cons (sst 2 z1U.nd (se_tup rfl (s4 (scl T.kbk (z6b T) hr (s3 (sxc (sv 1) z00) (sc0 z00) (sc0 z00))) (scl T.kbk (z6b T) hr (s3 (sxc (sv 1) z00) (sc0 z00) (sc0 z00))) (scl T.kaI (z2z T) hr (s1 (sxc (sv 1) z00))) (scl T.kaI (z2z T) hr (s1 (sxc (sv 1) z00))))))
 (ss_cons (ss_if (SW.sb (sw_or (sb_cmp z9A (sxc (sv 2) z00) (sc0 z1i) (z0h _)) (sw_or (sb_cmp z9A (sxc (sv 2) z00) (sc0 z1i) (z0h _)) (sw_or (sb_not (sb_cmp2 z2J z5L (sc0 z00) (sxc (sv 2) z00) (sc0 z00))) (sw_or1 (sb_not (sb_cmp2 z2J z5L (sc0 z00) (sxc (sv 2) z00) (sc0 z00)))))))) (ss_one (ss_ret (sc0 z1i))) ss_nil)
 (ss_one (ss_ret (sv 2)))))))
noncomputable def z2C:MS:=(seqS (sAsg (.nm 2) (z1h (mVar 1) [(mC (.str (":" :Str)))] z1A))
 (seqS (sAsg (.nm 3) (dcM [.inr ("border" :Str), .inr ("joined" :Str), .inr ("span" :Str), .inr ("held" :Str)] [.int 2, .int 2, .int 3, .int 4]))
 (seqS (sIf (mOr (mBoo (mBin (mBin (mVar 2) (mC (.int 0)) ixD) (mVar 3) z9G)) (mBoo (mBin (mBin (mVar 3) (mBin (mVar 2) (mC (.int 0)) ixD) dgtP) (mCB [(mVar 2)] lenD) neD))) (sRet (mC .non)) sNx)
 (seqS (sAsg (.nm 4) (z0w (z0L (mSl (mVar 2) (some (mC (.int 1))) (some (mC (.int 3))))) (.nm 0) (rt true) (z02 z0J [(mVar 0)]) 1 []))
 (seqS (sIf (mBoo (mBin (mCB [(mVar 2)] lenD) (mC (.int 2)) eqD)) (sRet (mIf (mBoo (z0P (mC (.int 0)) (mBin (mVar 4) (mC (.int 0)) ixD) (mVar 0) ltD ltD)) (mCB [(mBin (mVar 2) (mC (.int 0)) ixD),(mBin (mVar 4) (mC (.int 0)) ixD)] tupD) (mC .non))) sNx)
 (seqS (sIf (mNot (mBoo (z4I (mC (.int 0)) (mBin (mVar 4) (mC (.int 0)) ixD) (mBin (mVar 4) (mC (.int 1)) ixD) (mVar 0) leD ltD leD))) (sRet (mC .non)) sNx)
 (seqS (sIf (mBoo (mBin (mCB [(mVar 2)] lenD) (mC (.int 3)) eqD)) (sRet (mCB [(mBin (mVar 2) (mC (.int 0)) ixD),(mBin (mVar 4) (mC (.int 0)) ixD),(mBin (mVar 4) (mC (.int 1)) ixD)] tupD)) sNx)
 (seqS (sAsg (.nm 5) (z02 z3Z [(mBin (mVar 2) (mC (.int 3)) ixD),(mC (.int 24)),(mC (.int 1039))]))
 (sRet (mIf (mBoo (mBin (mVar 5) (mC .non) isN)) (mC .non) (mCB [(mBin (mVar 2) (mC (.int 0)) ixD),(mBin (mVar 4) (mC (.int 0)) ixD),(mBin (mVar 4) (mC (.int 1)) ixD),(mVar 5)] tupD)))))))))))
noncomputable def z1g:FM:=runF 6 z2C
theorem z5e(T:Wd K mg):FnOk P w K mg base CX0 3 T.kal.f T.kal.d z2q (spM (GT T) 2 z1g):=okM z2C T.kal.F z0M fun cdv A outer s H E F hr=>by
 have h64:=hr.units
 exact(ss_cons (sst 2 z0M.nd (se_ctS rfl PySem.F.slot_str_split PySem.F.type_str_split z28 (sv 1) (s1 (sc0 z0d))))
 (ss_cons (ss_setN (i:=3) z0M.nd rfl (Or.inl rfl) (Or.inl rfl) (se_dispC [(.inr ("border" :Str), .int 2),(.inr ("joined" :Str), .int 2),(.inr ("span" :Str), .int 3),(.inr ("held" :Str), .int 4)] rfl (z4k z0d z00 (z4k z0d z00 (z4k z0d z00 (z4k z0d z00 zdd)))) rfl rfl (fun z=>nomatch z) (by decide) (by decide) (by decide+kernel) rfl))
 (ss_cons (ss_if (SW.sb (sw_or (sb_cmp (zbl h64) (sxc (sv 2) z00) (sv 3) (by with_unfolding_all rfl)) (sw_or1 (sb_cmp (z8A rfl h64) (se_dgtP rfl h64 (sv 3) (sxc (sv 2) z00) (fun _ _=>rfl)) (sln T.n_len (s1 (sv 2))) (z0h _))))) (ss_one (ss_ret (sc0 z1i))) ss_nil)
 (ss_cons (ss_comp (i:=4) (own:=["_law_part"]) (frees:=[]) (ix:=[]) rfl z0M.nd rfl (Or.inl rfl) (Or.inl rfl) rfl rfl (z0K.sc (by kernel_rfl)) (si_seq rfl (se_slice rfl (sv 2) (so_some (sc0 z00)) (so_some (sc0 z00)))) (fun _ _ _ _ _ _ _=>(sg_name (z0t (i:=0) (show List.Nodup (["_law_part"]:List Str) by decide+kernel) rfl (Or.inl rfl)))) (fun _ _ _ _ _ _ _=>sts_nil) (fun _ _ _ _ _ _ _=>(scl T.kaI (z2z T) hr (s1 (sv 0)))))
 (ss_cons (ss_if (sb_cmp (z30 rfl h64) (sln T.n_len (s1 (sv 2))) (sc0 z00) (z0h _)) (ss_one (ss_ret (se_ifExp (sb_cmp2 z5L z5L (sc0 z00) (sxc (sv 4) z00) (sv 0)) (se_tup rfl (s2 (sxc (sv 2) z00) (sxc (sv 4) z00))) (sc0 z1i)))) ss_nil)
 (ss_cons (ss_if (sb_not (sb_cmp3 z2J z5L z2J (sc0 z00) (sxc (sv 4) z00) (sxc (sv 4) z00) (sv 0))) (ss_one (ss_ret (sc0 z1i))) ss_nil)
 (ss_cons (ss_if (sb_cmp (z30 rfl h64) (sln T.n_len (s1 (sv 2))) (sc0 z00) (z0h _)) (ss_one (ss_ret (se_tup rfl (s3 (sxc (sv 2) z00) (sxc (sv 4) z00) (sxc (sv 4) z00))))) ss_nil)
 (ss_cons (sst 5 z0M.nd (scl T.kbk (z6b T) hr (s3 (sxc (sv 2) z00) (sc0 z00) (sc0 z00))))
 (ss_one (ss_ret (se_ifExp (sb_cmp z9A (sv 5) (sc0 z1i) (z0h _)) (sc0 z1i) (se_tup rfl (s4 (sxc (sv 2) z00) (sxc (sv 4) z00) (sxc (sv 4) z00) (sv 5))))))))))))))
noncomputable def z6c:MS:=(seqS (sAsg (.nm 2) (z02 z04 [(mVar 0),(mC (.int 8))]))
 (seqS (sAsg (.nm 3) (mBin (mC (.str ("abzAZ019.:/- " :Str))) (z02 z04 [(mVar 0),(mC (.int 13))]) ixS))
 (seqS (sAsg (.nm 4) (mCB [(mC (.int 0)),(mC (.int 7)),(mC (.int 8)),(mC (.int 39)),(mC (.int 40)),(mC (.int 999)),(mC (.int 1000)),(mC (.int 1039)),(mC (.int 1040)),(mC (.int 9999)),(mC (.int 10000)),(mC (.int 99999)),(mC (.int 100000)),(z02 z04 [(mVar 0),(mBin (mC (.int 10)) (mC (.int 60)) powD)])] lstM))
 (seqS (sAsg (.nm 5) (mCB [(mBin (mVar 4) (z02 z04 [(mVar 0),(mC (.int 14))]) ixD)] strA))
 (seqS (sAsg (.nm 6) (z02 z04 [(mVar 0),(mBin (mCB [(mVar 1)] lenS) (mC (.int 1)) addD)]))
 (seqS (sIf (mBoo (mBin (mVar 2) (mC (.int 4)) ltD)) (sRet (mBin (mBin (mSlS (mVar 1) none (some (mVar 6))) (mBin (mCB [(mC (.str ("" :Str))),(mVar 3),(mVar 3),(mC (.str ("0" :Str)))] lstM) (mVar 2) ixD) addD) (mSlS (mVar 1) (some (mBin (mVar 6) (mBin (mCB [(mC (.int 1)),(mC (.int 0)),(mC (.int 1)),(mC (.int 0))] lstM) (mVar 2) ixD) addE)) none) addD)) sNx)
 (seqS (sAsg (.nm 7) (mBin (mCB [(mC (.str ("." :Str))),(mC (.str (":" :Str))),(mC (.str ("/" :Str))),(mC (.str ("1" :Str)))] lstM) (z02 z04 [(mVar 0),(mC (.int 4))]) ixD))
 (seqS (sAsg (.nm 8) (z1h (mVar 1) [(mVar 7)] z1A))
 (seqS (sAsg (.nm 9) (z02 z04 [(mVar 0),(mCB [(mVar 8)] lenS)]))
 (seqS (sIf (mBoo (mBin (mVar 2) (mC (.int 4)) eqD)) (sRet (z1h (mVar 7) [(mBin (mSl (mVar 8) none (some (mVar 9))) (mSl (mVar 8) (some (mBin (mVar 9) (mC (.int 1)) addD)) none) addD)] z3R)) sNx)
 (seqS (sIf (mBoo (mBin (mVar 2) (mC (.int 5)) eqD)) (sRet (z1h (mVar 7) [(mBin (mBin (mSl (mVar 8) none (some (mVar 9))) (mSl (mVar 8) (some (mVar 9)) (some (mBin (mVar 9) (mC (.int 1)) addD))) addD) (mSl (mVar 8) (some (mVar 9)) none) addD)] z3R)) sNx)
 (seqS (sIf (mBoo (mBin (mVar 2) (mC (.int 6)) eqD)) (sRet (z1h (mVar 7) [(mBin (mSl (mVar 8) (some (mVar 9)) none) (mSl (mVar 8) none (some (mVar 9))) addD)] z3R)) sNx)
 (sRet (z1h (mVar 7) [(mBin (mBin (mSl (mVar 8) none (some (mVar 9))) (mCB [(mVar 5)] lstM) addD) (mSl (mVar 8) (some (mBin (mVar 9) (mC (.int 1)) addD)) none) addD)] z3R))))))))))))))
noncomputable def z3F:FM:=runF 10 z6c
theorem z9U(T:Wd K mg):FnOk P w K mg base CX0 2 T.kbh.f T.kbh.d z63 (spM (GT T) 2 z3F):=okM z6c T.kbh.F z0Z fun cdv A outer s H E F hr=>by
 have h64:=hr.units
 exact(ss_cons (sst 2 z0Z.nd (scl T.kbg (z0b T) hr (s2 (sv 0) (sc0 z00))))
 (ss_cons (sst 3 z0Z.nd (se_ixS (sc0 z0d) (scl T.kbg (z0b T) hr (s2 (sv 0) (sc0 z00))) (fun _ _=>rfl)))
 (ss_cons (sst 4 z0Z.nd (se_lst rfl (sa_of rfl (.cons (sc0 z00) rfl (.cons (sc0 z00) rfl (.cons (sc0 z00) rfl (.cons (sc0 z00) rfl (.cons (sc0 z00) rfl (.cons (sc0 z00) rfl (.cons (sc0 z00) rfl (.cons (sc0 z00) rfl (.cons (sc0 z00) rfl (.cons (sc0 z00) rfl (.cons (sc0 z00) rfl (.cons (sc0 z00) rfl (.cons (sc0 z00) rfl (.cons (scl T.kbg (z0b T) hr (s2 (sv 0) (se_pow rfl (sc0 z00) (sc0 z00)))) rfl .nil)))))))))))))))))
 (ss_cons (sst 5 z0Z.nd (se_ct rfl (z3Q rfl hr.gd h64) rfl T.n_str PyProof.Rows.Boot.«str» (s1 (sxx (sv 4) (scl T.kbg (z0b T) hr (s2 (sv 0) (sc0 z00)))))))
 (ss_cons (sst 6 z0Z.nd (scl T.kbg (z0b T) hr (s2 (sv 0) (se_add rfl (se_cb rfl (z3S rfl) rfl T.n_len PyProof.Rows.Boot.«len» (s1 (sv 1))) (sc0 z00)))))
 (ss_cons (ss_if (sb_cmp z5L (sv 2) (sc0 z00) (z0h _)) (ss_one (ss_ret (se_add rfl (se_add rfl (se_sliceS rfl (sv 1) so_none (so_some (sv 6))) (sxx (se_lst rfl (s4 (sc0 z0d) (sv 3) (sv 3) (sc0 z0d))) (sv 2))) (se_sliceS rfl (sv 1) (so_some (se_addE rfl (sv 6) (sxx (se_lst rfl (s4 (sc0 z00) (sc0 z00) (sc0 z00) (sc0 z00))) (sv 2)))) so_none)))) ss_nil)
 (ss_cons (sst 7 z0Z.nd (sxx (se_lst rfl (s4 (sc0 z0d) (sc0 z0d) (sc0 z0d) (sc0 z0d))) (scl T.kbg (z0b T) hr (s2 (sv 0) (sc0 z00)))))
 (ss_cons (sst 8 z0Z.nd (se_ctS rfl PySem.F.slot_str_split PySem.F.type_str_split z28 (sv 1) (s1 (sv 7))))
 (ss_cons (sst 9 z0Z.nd (scl T.kbg (z0b T) hr (s2 (sv 0) (se_cb rfl (z3S rfl) rfl T.n_len PyProof.Rows.Boot.«len» (s1 (sv 8))))))
 (ss_cons (ss_if (sb_cmp (z30 rfl h64) (sv 2) (sc0 z00) (z0h _)) (ss_one (ss_ret (se_ctS rfl PySem.F.slot_str_join PySem.F.type_str_join (z2M rfl) (sv 7) (s1 (se_add rfl (se_slice rfl (sv 8) so_none (so_some (sv 9))) (se_slice rfl (sv 8) (so_some (se_add rfl (sv 9) (sc0 z00))) so_none)))))) ss_nil)
 (ss_cons (ss_if (sb_cmp (z30 rfl h64) (sv 2) (sc0 z00) (z0h _)) (ss_one (ss_ret (se_ctS rfl PySem.F.slot_str_join PySem.F.type_str_join (z2M rfl) (sv 7) (s1 (se_add rfl (se_add rfl (se_slice rfl (sv 8) so_none (so_some (sv 9))) (se_slice rfl (sv 8) (so_some (sv 9)) (so_some (se_add rfl (sv 9) (sc0 z00))))) (se_slice rfl (sv 8) (so_some (sv 9)) so_none)))))) ss_nil)
 (ss_cons (ss_if (sb_cmp (z30 rfl h64) (sv 2) (sc0 z00) (z0h _)) (ss_one (ss_ret (se_ctS rfl PySem.F.slot_str_join PySem.F.type_str_join (z2M rfl) (sv 7) (s1 (se_add rfl (se_slice rfl (sv 8) (so_some (sv 9)) so_none) (se_slice rfl (sv 8) so_none (so_some (sv 9)))))))) ss_nil)
 (ss_one (ss_ret (se_ctS rfl PySem.F.slot_str_join PySem.F.type_str_join (z2M rfl) (sv 7) (s1 (se_add rfl (se_add rfl (se_slice rfl (sv 8) so_none (so_some (sv 9))) (se_lst rfl (s1 (sv 5)))) (se_slice rfl (sv 8) (so_some (se_add rfl (sv 9) (sc0 z00))) so_none))))))))))))))))))
noncomputable def z6d:MS:=(sTry z1a 3 (seqS (sIf (mBoo (mBin (mVar 0) (mC (.int 2)) eqD)) (sRet (z1m z0s [(mVar 1),(mVar 2)])) sNx)
 (sRet (z4H (mBin (mCB [(mFnv "read_keys_text"),(mFnv "read_word")] lstM) (mVar 0) ixD) (fun c=>List.lookup c [("read_keys_text",z09),("read_word",z0m)]) [(mVar 2)]))) (seqS (sAsg (.nm 4) (mIsX tb_0 (mVar 3)))
 (seqS (sAsg (.nm 5) (mIsX tb_1 (mVar 3)))
 (seqS (sAsg (.nm 6) (mOrV (mIsX tb_2 (mVar 3)) (z3M (mIsX tb_3 (mVar 3)))))
 (sRet (mBin (mCB [(mC (.str ("other" :Str))),(mC .non)] lstM) (mCB [(z1J (mIsX tb_4 (mVar 3)) (z1J (z3M (mVar 4)) (z1J (z3M (mVar 5)) (z3M (mVar 6)))))] intD) ixD))))))
noncomputable def z0D:FM:=runF 7 z6d
theorem z6X(T:Wd K mg):FnOk P w K mg base CX0 7 T.kba.f T.kba.d z64 (spM (GT T) 3 z0D):=okM z6d T.kba.F z2Q fun cdv A outer s H E F hr=>by
 have h64:=hr.units
 exact(ss_one (ss_try rfl rfl rfl rfl rfl T.kaj z2Q.nd rfl rfl (z66 T) (fun pl E1 F1 E2 hx=>(ss_cons (ss_if (sb_cmp (z30 rfl h64) (sv 0) (sc0 z00) (z0h _)) (ss_one (ss_ret (se_callX hx ((z58 T).mono (by lia)) hr rfl T.kam.m T.kam.F.kp T.kam.b (s2 (sv 1) (sv 2)) rfl))) ss_nil)
 (ss_one (ss_ret (se_callE (np:=1) hx rfl (fun c a f h1 h2=>Al2.at (Φ:=FnV _ _ 1) (.skip rfl (.cons ⟨⟨_,_,["text"],rfl,FnOk.mono (j:=2) (k:=6) (z3m T) (by decide),hr,T.kab.F.kp,T.kab.b⟩⟩ (.cons ⟨⟨_,_,["text"],rfl,FnOk.mono (j:=5) (k:=6) (z57 T) (by decide),hr,T.kao.F.kp,T.kao.b⟩⟩ .nil))) h1 h2) (sxx (se_lst rfl (s2 (se_fnv rfl (z3i T) (z05 (v:= .ref T.kab.f) rfl T.kab.m rfl)) (se_fnv rfl (z55 T) (z05 (v:= .ref T.kao.f) rfl T.kao.m rfl)))) (sv 0)) (s1 (sv 2)) rfl))))) (fun ax=>(ss_cons (sst 4 z2Q.nd (se_isXT rfl (ht_0 T) rfl T.n_isinstance (sv 3) (z5N (cs:=[.ref T.ka6, .ref T.kbi, .ref T.kbd, .ref T.ka9, .ref T.kaT, .ref T.kar, .ref T.kaY, .ref T.ka2, .ref T.kbo, .ref T.kaZ]) (z0g (z05 (v:= .ref T.ka6) rfl T.kaQ rfl) (z0g (z05 (v:= .ref T.kbi) rfl T.kaV rfl) (z0g (z05 (v:= .ref T.kbd) rfl T.kaL rfl) (z0g (z05 (v:= .ref T.ka9) rfl T.kaR rfl) (z0g (z05 (v:= .ref T.kaT) rfl T.kaJ rfl) (z0g (z05 (v:= .ref T.kar) rfl T.kak rfl) (z0g (z05 (v:= .ref T.kaY) rfl T.kaK rfl) (z0g (z05 (v:= .ref T.ka2) rfl T.ka0 rfl) (z0g (z05 (v:= .ref T.kbo) rfl T.ka8 rfl) (z0g (z05 (v:= .ref T.kaZ) rfl T.kaC rfl) z42)))))))))) (fun _ _ _ q=>q) rfl rfl)))
 (ss_cons (sst 5 z2Q.nd (se_isXT rfl (ht_1 T) rfl T.n_isinstance (sv 3) (z5N (cs:=[.ref T.kaS, .ref T.kaF, .ref T.kbe, .ref T.kaW, .ref T.ka5, .ref T.kbl, .ref T.kav, .ref T.kbj, .ref T.ka1, .ref T.kbp]) (z0g (z05 (v:= .ref T.kaS) rfl T.kaE rfl) (z0g (z05 (v:= .ref T.kaF) rfl T.kaA rfl) (z0g (z05 (v:= .ref T.kbe) rfl T.kaX rfl) (z0g (z05 (v:= .ref T.kaW) rfl T.kaH rfl) (z0g (z05 (v:= .ref T.ka5) rfl T.kaO rfl) (z0g (z05 (v:= .ref T.kbl) rfl T.ka7 rfl) (z0g (z05 (v:= .ref T.kav) rfl T.kau rfl) (z0g (z05 (v:= .ref T.kbj) rfl T.kbc rfl) (z0g (z05 (v:= .ref T.ka1) rfl T.kaN rfl) (z0g (z05 (v:= .ref T.kbp) rfl T.kbn rfl) z42)))))))))) (fun _ _ _ q=>q) rfl rfl)))
 (ss_cons (sst 6 z2Q.nd (se_or (se_isXT rfl (ht_2 T) rfl T.n_isinstance (sv 3) (z5N (cs:=[.ref T.kaP, .ref T.kaD]) (z0g (z05 (v:= .ref T.kaP) rfl T.kaG rfl) (z0g (z05 (v:= .ref T.kaD) rfl T.kay rfl) z42)) (fun _ _ _ q=>q) rfl rfl)) (se_one (se_not (se_isX1 (c:= .ty "ValueError") rfl rfl (ht_3 T) rfl T.n_isinstance (sv 3) (z36 (v:= .ty "ValueError") rfl T.n_ValueError PyProof.Rows.Boot.«ValueError» rfl))))))
 (ss_one (ss_ret (sxx (se_lst rfl (s2 (sc0 z0d) (sc0 z1i))) (se_ct rfl zfs rfl T.n_int PyProof.Rows.Boot.«int» (s1 (se_and (se_isX1 (c:= .ref T.ka4) rfl rfl (ht_4 T) rfl T.n_isinstance (sv 3) (z05 (v:= .ref T.ka4) rfl T.kaU rfl)) (se_and (se_not (sv 4)) (se_and (se_not (sv 5)) (se_one (se_not (sv 6)))))))))))))))))
noncomputable def zdN:MS:=(seqS (sFor (z2Z [(mCB [(mC (.int 2)),(mCB [(mCB [(mVar 0)] lenD),(mC (.int 6))] minD)] maxD)]) (.nm 1) (seqS (sAsg (.nm 2) (z02 z4O [(mVar 0),(mVar 1)]))
 (seqS (sAsg (.nm 3) (z02 z04 [(mVar 2),(mC (.int 25))]))
 (seqS (sAsg (.nm 4) (z02 z0x [(mVar 2),(z02 z04 [(mVar 2),(mBin (mCB [(mC (.int 5)),(mC (.int 61))] lstM) (z02 z04 [(mVar 2),(mC (.int 2))]) ixD)]),(mC (.int 26))]))
 (seqS (sAsg (.nm 5) (mCB [(z02 z1c [(mVar 4)]),(z02 z1d [(z02 z3D [(mVar 2)])]),(z02 z0I [(z02 z3E [(mVar 2),(mCB [(mC (.int 1)),(mVar 3)] maxD)])])] lstM))
 (seqS (sFor (z2Z [(mC (.int 15))]) (.nm 6) (seqS (sAsg (.nm 7) (mBin (mVar 5) (mBin (mVar 6) (mC (.int 3)) modD) ixD))
 (seqS (sFor (z2Z [(mBin (mC (.int 1)) (z02 z04 [(mVar 2),(mC (.int 3))]) addD)]) (.nm 8) (sAsg (.nm 7) (z02 z3F [(mVar 2),(mVar 7)])))
 (seqS (sAsg (.nm 9) (mCB [(z02 z1e [(mVar 7)]),(z02 z1f [(mVar 7)]),(z02 z1g [(mVar 3),(mVar 7)])] lstM))
 (sFor (z0L (mCB [(mC (.int 0)),(mC (.int 1)),(mC (.int 2)),(mC (.int 0)),(mC (.int 1)),(mC (.int 2))] tupD)) (.nm 10) (sIf (mBoo (mBin (z02 z0D [(mVar 10),(mVar 3),(mVar 7)]) (mBin (mVar 9) (mVar 10) ixD) neD)) (sRet (mC (.bool false))) sNx))))))
 (sFor (z0L (mCB [(mC .non),(mC (.int 0)),(mC (.bool true)),(mCB [] lstM),(mCB [] tupD),(mCB [(mC (.str ("a" :Str)))] lstM),(mCB [(mC (.str ("span" :Str))),(mC (.int 0)),(mC (.int 1))] tupD),(mC (.str ("" :Str)))] lstM)) (.nm 11) (sIf (mBoo (mBin (z0w (z2Z [(mC (.int 3))]) (.nm 0) (rt true) (z02 z0D [(mVar 0),(mVar 1),(mVar 2)]) 1 [3,11]) (mBin (mCB [(mC .non)] lstM) (mC (.int 3)) mulD) neD)) (sRet (mC (.bool false))) sNx))))))))
 (sRet (mC (.bool true))))
noncomputable def f_law:FM:=runF 12 zdN
theorem zfS(T:Wd K mg):FnOk P w K mg base CX0 8 T.x_law.f T.x_law.d zdM (spM (GT T) 1 f_law):=okM zdN T.x_law.F z1Z fun cdv A outer s H E F hr=>by
 have h64:=hr.units
 exact(ss_cons (ss_for PassesOwn.never rfl (si_rng1 rfl T.n_range (s1 (se_cb rfl (zc0 rfl) rfl T.n_max PyProof.Rows.Boot.«max» (s2 (sc0 z00) (se_cb rfl (zbZ rfl) rfl T.n_min PyProof.Rows.Boot.«min» (s2 (sln T.n_len (s1 (sv 0))) (sc0 z00))))))) (sgn 1 z1Z.nd) (ss_cons (sst 2 z1Z.nd (scl T.kbm (zbv T) hr (s2 (sv 0) (sv 1))))
 (ss_cons (ss_set (fun{te} h=>z8T (i:=3) z1Z.nd rfl (Or.inr rfl) h) (scl T.kbg (z0b T) hr (s2 (sv 2) (sc0 z00))))
 (ss_cons (sst 4 z1Z.nd (scl T.kaw (z1O T) hr (s3 (sv 2) (scl T.kbg (z0b T) hr (s2 (sv 2) (sxx (se_lst rfl (s2 (sc0 z00) (sc0 z00))) (scl T.kbg (z0b T) hr (s2 (sv 2) (sc0 z00)))))) (sc0 z00))))
 (ss_cons (sst 5 z1Z.nd (se_lst rfl (s3 (scl T.kan (z59 T) hr (s1 (sv 4))) (scl T.kah (z5a T) hr (s1 (scl T.ka3 (z9S T) hr (s1 (sv 2))))) (scl T.kai (z5b T) hr (s1 (scl T.kbb (z9T T) hr (s2 (sv 2) (se_cb rfl (zc0 rfl) rfl T.n_max PyProof.Rows.Boot.«max» (s2 (sc0 z00) (sv 3))))))))))
 (ss_cons (ss_for PassesOwn.never rfl (si_rng1 rfl T.n_range (s1 (sc0 z00))) (sgn 6 z1Z.nd) (ss_cons (sst 7 z1Z.nd (sxx (sv 5) (se_mod rfl (sv 6) (sc0 z00))))
 (ss_cons (ss_for PassesOwn.never rfl (si_rng1 rfl T.n_range (s1 (se_add rfl (sc0 z00) (scl T.kbg (z0b T) hr (s2 (sv 2) (sc0 z00)))))) (sgn 8 z1Z.nd) (ss_one (sst 7 z1Z.nd (scl T.kbh (z9U T) hr (s2 (sv 2) (sv 7))))))
 (ss_cons (sst 9 z1Z.nd (se_lst rfl (s3 (scl T.kaq (z5c T) hr (s1 (sv 7))) (scl T.kag (z5d T) hr (s1 (sv 7))) (scl T.kal (z5e T) hr (s2 (sv 3) (sv 7))))))
 (ss_one (ss_for PassesOwn.never rfl (si_seq rfl (se_tup rfl (sa_of rfl (.cons (sc0 z00) rfl (.cons (sc0 z00) rfl (.cons (sc0 z00) rfl (.cons (sc0 z00) rfl (.cons (sc0 z00) rfl (.cons (sc0 z00) rfl .nil))))))))) (sgn 10 z1Z.nd) (ss_one (ss_if (sb_cmp (z8A rfl h64) (scl T.kba (z6X T) hr (s3 (sv 10) (sv 3) (sv 7))) (sxx (sv 9) (sv 10)) (z0h _)) (ss_one (ss_ret (sc0 z5z))) ss_nil))))))))
 (ss_one (ss_for PassesOwn.never rfl (si_seq rfl (se_lst rfl (sa_of rfl (.cons (sc0 z1i) rfl (.cons (sc0 z00) rfl (.cons (sc0 z5z) rfl (.cons (se_lst rfl (sa_of rfl .nil)) rfl (.cons (se_tup rfl (sa_of rfl .nil)) rfl (.cons (se_lst rfl (s1 (sc0 z0d))) rfl (.cons (se_tup rfl (s3 (sc0 z0d) (sc0 z00) (sc0 z00))) rfl (.cons (sc0 z0d) rfl .nil))))))))))) (sg_name (z0t (i:=11) z1Z.nd rfl (Or.inr rfl))) (ss_one (ss_if (sb_cmp (z8A rfl h64) (se_comp (own:=["_law_which"]) (frees:=["_law_n", "_law_thing"]) (ix:=[3,11]) rfl rfl (z0K.sc (by kernel_rfl)) (si_rng1 rfl T.n_range (s1 (sc0 z00))) (fun _ _ _ _ _ _ _=>(sg_name (z0t (i:=0) (show List.Nodup (["_law_which", "_law_n", "_law_thing"]:List Str) by decide+kernel) rfl (Or.inl rfl)))) (fun _ _ _ _ _ _ _=>sts_nil) (fun _ _ _ _ _ _ _=>(scl T.kba (z6X T) hr (s3 (sv 0) (sv 1) (sv 2))))) (se_mul rfl (se_lst rfl (s1 (sc0 z1i))) (sc0 z00)) (z0h _)) (ss_one (ss_ret (sc0 z5z))) ss_nil))))))))))
 (ss_one (ss_ret (sc0 z5z))))
end
end My
namespace Mi
open PySem L2
theorem z0E{α:Type}(xs ys:List α)(k:Nat)(h:xs.length=k):(xs++ys).drop k=ys:=by subst h;simp
theorem z1P{α:Type}(xs ys:List α)(k:Nat)(h:xs.length=k):(xs++ys).take k=xs:=by subst h;simp
theorem z1H: ∀ds:List D,z0a (ds.map some)=some ds
 |[]=>rfl
 |d::ds=>by simp[z0a,z1H ds]
theorem z8C{me:M D}{g:D->D}{ds:List D}{fr σ0 tm0:List (Option D)}{ol:Nat}(hol:σ0.length=ol)(hz:ds.length<sizeLine)
 (hme: ∀d∈ds,∀tm n,∃n',n<=n'/\me ⟨some d::fr,tm,n⟩= .ok (g d) ⟨some d::fr,tm,n'⟩):
 ∀(f i:Nat) (o:Option D) (n:Nat),i+f=ds.length->∃n',n<=n'/\z1l kTup (.nm 0) (rt true) me ol f i i ⟨o::fr,(((ds.take i).map g).reverse.map some)++(σ0++(some (.tup ds)::tm0)),n⟩= .ok (.lst n' (ds.map g)) ⟨σ0,tm0,n'+1⟩:=by
 intro f
 induction f with
 |zero=>
  intro i o n hi
  have hi:i=ds.length:=by lia
  subst hi
  refine⟨n,Nat.le_refl _, ?_⟩
  have l1:(((ds.take ds.length).map g).reverse.map some).length=ds.length:=by simp
  unfold z1l
  have e1:(((((ds.take ds.length).map g).reverse.map some)++(σ0++(some (D.tup ds)::tm0))).drop (ds.length+ol))=some (D.tup ds)::tm0:=by
   rw[<-List.append_assoc];exact z0E _ _ _ (by simp[hol])
  simp only[e1,kTup,zb7,List.getElem?_eq_none (Nat.le_refl ds.length)]
  rw[z1P _ _ _ l1]
  have e2:(((ds.take ds.length).map g).reverse.map some).reverse=(ds.map g).map some:=by simp
  rw[e2,z1H]
  simp only[Res.ok.injEq,true_and,Stt.mk.injEq,and_true]
  constructor
  ·rw[z0E _ _ _ l1,z1P _ _ _ hol]
  ·rw[<-List.append_assoc]
   have:(((((ds.take ds.length).map g).reverse.map some)++σ0)++(some (D.tup ds)::tm0)).drop (ds.length+ol+1)=((((((ds.take ds.length).map g).reverse.map some)++σ0)++(some (D.tup ds)::tm0)).drop (ds.length+ol)).drop 1:=by rw[List.drop_drop]
   rw[this,z0E _ _ _ (by simp[hol])]
   rfl
 |succ f ih=>
  intro i o n hi
  have hlt:i<ds.length:=by lia
  have l1:(((ds.take i).map g).reverse.map some).length=i:=by simp;lia
  unfold z1l
  have e1:(((((ds.take i).map g).reverse.map some)++(σ0++(some (D.tup ds)::tm0))).drop (i+ol))=some (D.tup ds)::tm0:=by
   rw[<-List.append_assoc];exact z0E _ _ _ (by simp[hol];lia)
  simp only[e1,kTup,zb7,List.getElem?_eq_getElem hlt,asg,List.set_cons_zero,rt]
  rw[if_pos (by lia)]
  obtain⟨n1,hn1,h1⟩:=hme ds[i] (List.getElem_mem hlt) ((((ds.take i).map g).reverse.map some)++(σ0++(some (D.tup ds)::tm0))) n
  rw[h1]
  obtain⟨n2,hn2,h2⟩:=ih (i+1) (some ds[i]) n1 (by lia)
  refine⟨n2,by lia, ?_⟩
  rw[<-h2]
  simp only[Stt.psh]
  have e3:ds.take (i+1)=ds.take i++[ds[i]]:=by rw[List.take_add_one,List.getElem?_eq_getElem hlt];rfl
  rw[e3]
  simp only[List.map_append,List.map_cons,List.map_nil,List.reverse_append,List.reverse_cons,List.reverse_nil,List.nil_append,List.cons_append]
  rfl
theorem z9V{mc me:M D}{g:D->D}{ds:List D}{ix:List Nat}{s s1:Stt}(hc:mc s= .ok (.tup ds) s1)(hz:ds.length<sizeLine)
 (hme: ∀d∈ds,∀tm n,∃n',n<=n'/\me ⟨some d::(ix.map fun i=>(s1.σ[i]?).getD none),tm,n⟩= .ok (g d) ⟨some d::(ix.map fun i=>(s1.σ[i]?).getD none),tm,n'⟩):
 ∃n',s1.n<=n'/\z0w (z0L mc) (.nm 0) (rt true) me 1 ix s= .ok (.lst n' (ds.map g)) {s1 with n:=n'+1}:=by
 obtain⟨n',h1,h2⟩:=z8C (me:=me) (g:=g) (ds:=ds) (σ0:=s1.σ) (tm0:=s1.tm) rfl hz hme ds.length 0 none s1.n (by lia)
 refine⟨n',h1, ?_⟩
 unfold z0w z0L
 simp only[bd,hc,Stt.psh]
 simp only[List.take_zero,List.map_nil,List.reverse_nil,List.nil_append] at h2
 simp only[kTup,z9u,z7Z,List.replicate] at h2⊢
 exact h2
theorem z6Y(ds:List D)(g:D->Bool):z1Y (ds.map fun d=> .bool (g d))=some (ds.map g):=by
 induction ds with
 |nil=>rfl
 |cons d ds ih=>simp[z1Y,ih]
theorem z8D{t:D}{ts:List D}{n':Nat}{s:Stt}:z5K (.ok t ts n') ts s= .ok t {s with n:=n'}:=by
 unfold z5K;simp
end Mi
set_option maxHeartbeats 40000
namespace Mi
open PySem L2
class Kq{α:Type}(f:α):Type where
instance kq{α:Type}(f:α):Kq f:=⟨⟩
noncomputable def Res.bnd{α β:Type}(f:α->Stt->Res β)[Kq f](r:Res α):Res β:=match r with
 | .ok a s=>f a s
 | .ex d s=> .ex d s
 | .no=> .no
theorem z3G{α β:Type}{a:α}{s:Stt}{f:α->Stt->Res β}:((Res.ok a s).bnd f:Res β)=f a s:=(rfl)
noncomputable def Res.lf{α:Type}(f:α->MS)[Kq f](r:Res α):RS:=match r with
 | .ok a s=>f a s
 | .ex d s=> .ex d s
 | .no=> .no
theorem zbw{α:Type}{a:α}{s:Stt}{f:α->MS}:((Res.ok a s).lf f:RS)=f a s:=(rfl)
noncomputable def RS.sq(m:MS)[Kq m](r:RS):RS:=match r with
 | .nx s=>m s
 |r=>r
theorem zi2{s:Stt}{m:MS}:((RS.nx s).sq m:RS)=m s:=(rfl)
theorem zfT{d:D}{s:Stt}{m:MS}:((RS.rt d s).sq m:RS)= .rt d s:=(rfl)
noncomputable def RS.fin(r:RS):RF:=match r with
 | .nx s'=>match z0a s'.tm with|some ts'=> .ok .non ts' s'.n|none=> .no
 | .rt t s'=>match z0a s'.tm with|some ts'=> .ok t ts' s'.n|none=> .no
 | .ex d s'=>match z0a s'.tm with|some ts'=> .ex d ts' s'.n|none=> .no
 |_=> .no
noncomputable def finO(o:Option (List D))(t:D)(n:Nat):RF:=match o with|some ts=> .ok t ts n|none=> .no
theorem z9W{ts:List D}{t:D}{n:Nat}:finO (some ts) t n= .ok t ts n:=(rfl)
theorem zi3{t:D}{σ tm:List (Option D)}{n:Nat}:(RS.rt t ⟨σ,tm,n⟩).fin=finO (z0a tm) t n:=(rfl)
theorem zi4{nl:Nat}{mb:MS}{ts:List D}{n:Nat}:runF nl mb ts n=(mb ⟨ts.map some++List.replicate (nl -ts.length) none,ts.map some,n⟩).fin:=(rfl)
section
variable{α β:Type}{m ma mb mc:M D}{s:Stt}{ms:List (M D)}{σ tm:List (Option D)}{n:Nat}
theorem x_bd{m:M α}{f:α->M β}:bd m f s=(m s).bnd f:=(rfl)
theorem x_rt{a:α}:rt a s= .ok a s:=(rfl)
theorem zfU{t:D}:Stt.psh ⟨σ,tm,n⟩ t=⟨σ,some t::tm,n⟩:=(rfl)
theorem zi5:Stt.nxt ⟨σ,tm,n⟩=⟨σ,tm,n+1⟩:=(rfl)
theorem zi6{t:D}{r:List (Option D)}:pop ⟨σ,some t::r,n⟩= .ok t ⟨σ,r,n⟩:=(rfl)
noncomputable def vOf(o:Option (Option D))(s:Stt):Res D:=match o with
 |some (some t)=> .ok t s
 |_=> .no
theorem zbx{t:D}:vOf (some (some t)) s= .ok t s:=(rfl)
theorem zi7{i:Nat}:mVar i ⟨σ,tm,n⟩=vOf (σ[i]?) ⟨σ,tm,n⟩:=by
 unfold mVar vOf
 cases σ[i]? with
 |none=>rfl
 |some o=>cases o<;>rfl
theorem x_C{d:D}:mC d s= .ok d s:=(rfl)
theorem zdO{g:D->D->M D}:mBin ma mb g s=(ma s).bnd fun x s1=>(mb (s1.psh x)).bnd fun y s2=>(pop s2).bnd fun x' s3=>g x' y s3:=(rfl)
theorem zi8:mBoo m s=(m s).bnd booD:=(rfl)
theorem zfV{b:Bool}:booD (.bool b) s= .ok b s:=(rfl)
theorem zfW:z25 m s=(m s).bnd truD:=(rfl)
theorem x_tB{b:Bool}:truD (.bool b) s= .ok b s:=(rfl)
theorem x_tT{ds:List D}:truD (.tup ds) s= .ok (!ds.isEmpty) s:=(rfl)
theorem zi9{m m':M Bool}:mAnd m m' s=(m s).bnd fun b=>iteM b m' (rt false):=(rfl)
theorem x_or{m m':M Bool}:mOr m m' s=(m s).bnd fun b=>iteM b (rt true) m':=(rfl)
theorem zia{m:M Bool}:mNot m s=(m s).bnd fun b s1=> .ok (!b) s1:=(rfl)
theorem zfX{m m':M D}:z1J m m' s=(m s).bnd fun d s1=>(booD d s1).bnd fun b=>iteM b m' (rt (.bool false)):=by
 unfold z1J mBoo bd Res.bnd
 cases m s<;>rfl
theorem zib{m m':M D}:mOrV m m' s=(m s).bnd fun d s1=>(booD d s1).bnd fun b=>iteM b (rt (.bool true)) m':=by
 unfold mOrV mBoo bd Res.bnd
 cases m s<;>rfl
theorem zfY{m:M D}:z3M m s=(m s).bnd fun d s1=>(booD d s1).bnd fun b=>rt (.bool (!b)):=by
 unfold z3M mBoo bd Res.bnd
 cases m s<;>rfl
theorem zic{c:M Bool}{m m':M D}:mIf c m m' s=(c s).bnd fun b=>iteM b m m':=(rfl)
theorem x_it{m m':M α}:iteM true m m' s=m s:=(rfl)
theorem x_if{m m':M α}:iteM false m m' s=m' s:=(rfl)
theorem zdP:mArgs [] s= .ok [] s:=(rfl)
theorem z40:mArgs (m::ms) s=(m s).bnd fun x s1=>(mArgs ms (s1.psh x)).bnd fun ys s2=>(pop s2).bnd fun x' s3=> .ok (x'::ys) s3:=(rfl)
theorem x_cb{g:List D->M D}:mCB ms g s=(mArgs ms s).bnd g:=(rfl)
theorem zfZ{f:FM}:z02 f ms s=(mArgs ms s).bnd fun ts s1=>z5K (f ts s1.n) ts s1:=(rfl)
noncomputable def isiK(o:Option Bool)(s:Stt):Res D:=match o with
 |some b=> .ok (.bool b) s
 |none=> .no
theorem z9X{b:Bool}:isiK (some b) s= .ok (.bool b) s:=(rfl)
theorem zid{T:String}:mIsi T m s=(m s).bnd fun d s1=>isiK (isiD T d) s1:=by
 unfold mIsi bd Res.bnd isiK
 cases m s with
 |ok d s1=>dsimp only;cases isiD T d<;>rfl
 |ex d s1=>rfl
 |no=>rfl
theorem z9Y{g g':D->D->M D}:z0P ma mb mc g g' s=(ma s).bnd fun x s1=>(mb (s1.psh x)).bnd fun y s2=>(pop s2).bnd fun x' s3=>z3N y (bd (mBoo (g x' y)) fun k=>iteM k (bd mc fun z=>g' y z) (rt (.bool false))) s3:=(rfl)
theorem zie{i:Int}{m:M D}:z3N (.int i) m s=m s:=(rfl)
noncomputable def intK(o:Option Int)(s:Stt):Res (Option Int):=match o with
 |some i=> .ok (some i) s
 |none=> .no
theorem z9Z{i:Int}:intK (some i) s= .ok (some i) s:=(rfl)
theorem zdQ:z2Y none s= .ok none s:=(rfl)
theorem zdR:z2Y (some m) s=(m s).bnd fun d s1=>intK (mInt d) s1:=by
 show bd m (fun d=>match mInt d with|some i=>rt (some i)|none=>fl) s=_
 unfold bd Res.bnd
 cases m s with
 |ok d s1=>show(match mInt d with|some i=>rt (some i)|none=>fl:M (Option Int)) s1=intK (mInt d) s1;cases mInt d<;>rfl
 |ex d s1=>rfl
 |no=>rfl
theorem zg0{i:Int}:mInt (.int i)=some i:=(rfl)
theorem x_sl{lo hi:Option (M D)}:mSl m lo hi s=(m s).bnd fun x s1=>(z2Y lo (s1.psh x)).bnd fun l s2=>(z2Y hi s2).bnd fun h s3=>(pop s3).bnd fun x' s4=>slD x' l h s4:=(rfl)
theorem zg1{i j:Int}:addD (.int i) (.int j) s= .ok (.int (i+j)) s:=(rfl)
theorem za0{a b:List D}(h:a.length+b.length<=sizeLine):addD (.tup a) (.tup b) s= .ok (.tup (a++b)) s:=by simp only[addD,if_pos h];rfl
theorem z47{k l:Nat}{a b:List D}(h:a.length+b.length<=sizeLine):addD (.lst k a) (.lst l b) s= .ok (.lst s.n (a++b)) s.nxt:=by simp only[addD,if_pos h];rfl
theorem zif{i j:Int}:subD (.int i) (.int j) s= .ok (.int (i -j)) s:=(rfl)
theorem za1{i j:Int}(h:CMul i j):mulD (.int i) (.int j) s= .ok (.int (i*j)) s:=by simp only[mulD,if_pos h];rfl
theorem zc5{i j:Int}(h:CDiv i j):z6I (.int i) (.int j) s= .ok (.int (i/j)) s:=by simp only[z6I,if_pos h];rfl
theorem z5f{i j:Int}(h:0<j):modD (.int i) (.int j) s= .ok (.int (i %j)) s:=by simp only[modD,if_pos h];rfl
theorem zby{i j:Int}(h:CPow i j):powD (.int i) (.int j) s= .ok (.int (i^j.toNat)) s:=by simp only[powD,if_pos h];rfl
theorem y_lt{i j:Int}:ltD (.int i) (.int j) s= .ok (.bool (decide (i<j))) s:=(rfl)
theorem y_le{i j:Int}:leD (.int i) (.int j) s= .ok (.bool (decide (i<=j))) s:=(rfl)
theorem y_gt{i j:Int}:gtD (.int i) (.int j) s= .ok (.bool (decide (j<i))) s:=(rfl)
theorem zig{i:Int}:negD (.int i) s= .ok (.int (-i)) s:=(rfl)
theorem y_eq{t t':D}(h:eqC t t'=true):eqD t t' s= .ok (.bool (PyData.eqv (er t) (er t'))) s:=by simp only[eqD,if_pos h];rfl
theorem y_ne{t t':D}(h:eqC t t'=true):neD t t' s= .ok (.bool (!PyData.eqv (er t) (er t'))) s:=by simp only[neD,if_pos h];rfl
theorem y_in{t t':D}{ds:List D}(e:seqD t'=some ds)(h:inC t ds=true):inD t t' s= .ok (.bool ((erL ds).any fun y=>PyData.eqv y (er t))) s:=by simp only[inD,e,if_pos h];rfl
theorem zih{ds:List D}{i:Int}:ixD (.tup ds) (.int i) s=optM (atI ds i) s:=(rfl)
theorem zii{l:Nat}{ds:List D}{i:Int}:ixD (.lst l ds) (.int i) s=optM (atI ds i) s:=(rfl)
theorem zij{ds:List D}{i:Int}:ixD (.ro ds) (.int i) s=optM (atI ds i) s:=(rfl)
theorem zik{d:D}:optM (some d) s= .ok d s:=(rfl)
theorem zil{ds:List D}{lo hi:Option Int}:slD (.tup ds) lo hi s= .ok (.tup (cutA ds lo hi)) s:=(rfl)
theorem zim{l:Nat}{ds:List D}{lo hi:Option Int}:slD (.lst l ds) lo hi s= .ok (.lst s.n (cutA ds lo hi)) s.nxt:=(rfl)
theorem z8E{ts:List D}(h:ts.length<=sizeLine):tupD ts s= .ok (.tup ts) s:=by simp only[tupD,if_pos h];rfl
theorem z8F{ts:List D}(h:ts.length<=sizeLine):lstM ts s= .ok (.lst s.n ts) s.nxt:=by simp only[lstM,if_pos h];rfl
theorem zg2{ds:List D}:lenD [.tup ds] s= .ok (.int ds.length) s:=(rfl)
theorem zg3{l:Nat}{ds:List D}:lenD [.lst l ds] s= .ok (.int ds.length) s:=(rfl)
theorem zg4{ds:List D}:lenD [.ro ds] s= .ok (.int ds.length) s:=(rfl)
theorem zin{i:Int}:absD [.int i] s= .ok (.int (if i<0 then -i else i)) s:=(rfl)
theorem zio{i j:Int}:minD [.int i, .int j] s= .ok (.int (if j<i then j else i)) s:=(rfl)
theorem ziq{i j:Int}:maxD [.int i, .int j] s= .ok (.int (if j>i then j else i)) s:=(rfl)
theorem zg5{b:Bool}:intD [.bool b] s= .ok (.int (if b then 1 else 0)) s:=(rfl)
theorem zg6{l:Nat}{ds:List D}:tupF [.lst l ds] s= .ok (.tup ds) s:=(rfl)
theorem zdS{l:Nat}{ds:List D}{bs:List Bool}(h:z1Y ds=some bs):allD [.lst l ds] s= .ok (.bool (bs.all id)) s:=by simp only[allD,h];rfl
theorem zir{a b:MS}:seqS a b s=(a s).sq b:=by
 unfold seqS RS.sq
 cases a s<;>rfl
theorem zis:sNx s= .nx s:=(rfl)
theorem zg7:sRet m s=(m s).lf fun d s1=> .rt d s1:=(rfl)
theorem zdT:z7j m s=(m s).lf fun _ s1=> .nx s1:=(rfl)
theorem zit{c:M Bool}{a b:MS}:sIf c a b s=(c s).lf fun k=>iteS k a b:=(rfl)
theorem x_sT{a b:MS}:iteS true a b s=a s:=(rfl)
theorem x_sF{a b:MS}:iteS false a b s=b s:=(rfl)
noncomputable def asgK(o:Option (List (Option D)))(s:Stt):RS:=match o with
 |some σ'=> .nx {s with σ:=σ'}
 |none=> .no
theorem za2{σ':List (Option D)}:asgK (some σ') ⟨σ,tm,n⟩= .nx ⟨σ',tm,n⟩:=(rfl)
theorem zg8{g:Tg}:sAsg g m s=(m s).lf fun d s1=>asgK (asg g d s1.σ) s1:=by
 unfold sAsg lift Res.lf asgK
 cases m s with
 |ok d s1=>first|(dsimp only;cases asg g d s1.σ<;>rfl)|(dsimp only;done)|rfl
 |ex d s1=>rfl
 |no=>rfl
theorem ziu{me mo mi:M D}{g:D->D->D->MS}:mTri me mo mi g s=(me s).lf fun v s1=>(mo (s1.psh v)).lf fun o s2=>(mi (s2.psh o)).lf fun i s3=>(pop s3).lf fun o' s4=>(pop s4).lf fun v' s5=>g o' i v' s5:=(rfl)
theorem zg9{l:Nat}{ds:List D}{k:Int}{v:D}{j:Nat}(e:ixN ds.length k=some j)(h:l∉labs v):setD (.lst l ds) (.int k) v s= .nx (s.put l (.lst l (ds.set j v))):=by simp only[setD,e,if_pos h]
end
theorem z5s{α:Type}{xs:List α}{i:Int}{d:α}(h0:0<=i)(h:xs[i.toNat]? =some d):atI xs i=some d:=by
 obtain⟨j,rfl⟩:=Int.eq_ofNat_of_zero_le h0
 exact zd3 (by simpa using h)
end Mi
set_option maxHeartbeats 400000
namespace Mi
open PySem L2
noncomputable def pl(l:Nat)(d:D):Nat->Option D:=fun k=>if k=l then some d else none
theorem zga{σ tm:List (Option D)}{n l:Nat}{d:D}:Stt.put ⟨σ,tm,n⟩ l d=⟨rpO (pl l d) σ,rpO (pl l d) tm,n⟩:=(rfl)
theorem z6e{l:Nat}{d t:D}(h:l∉labs t):rp (pl l d) t=t:=zdj t fun k hk=>by
 unfold pl;rw[if_neg];intro e;subst e;exact h hk
theorem zdU{f:Nat->Option D}:rpO f []=[]:=(rfl)
theorem zbz{f:Nat->Option D}{r:List (Option D)}:rpO f (none::r)=none::rpO f r:=(rfl)
theorem zbA{f:Nat->Option D}{d:D}{r:List (Option D)}:rpO f (some d::r)=some (rp f d)::rpO f r:=(rfl)
theorem zgb{l:Nat}{d:D}{b:List D}:rp (pl l d) (.lst l b)=d:=by simp only[rp,pl,if_true]
theorem zc6{f:Nat->Option D}{i:Int}:rp f (.int i)= .int i:=(rfl)
theorem zc7{f:Nat->Option D}{i:Str}:rp f (.str i)= .str i:=(rfl)
theorem zgc{f:Nat->Option D}{ds:List D}:rp f (.tup ds)= .tup (rpL f ds):=(rfl)
theorem z6f{f:Nat->Option D}{d:D}{ds:List D}:rpL f (d::ds)=rp f d::rpL f ds:=(rfl)
mutual
theorem z8G{l:Nat}: ∀t:D,l∉labs t->z0r l t=none
 | .non,_=>rfl
 | .bool _,_=>rfl
 | .int _,_=>rfl
 | .str _,_=>rfl
 | .exc _,_=>rfl
 | .fn _,_=>rfl
 | .tup ds,h=>by simp only[labs] at h;simp only[z0r];exact findL_none ds h
 | .ro ds,h=>by simp only[labs] at h;simp only[z0r];exact findL_none ds h
 | .fdc ks ds,h=>by simp only[labs] at h;simp only[z0r];exact findL_none ds h
 | .lst k ds,h=>by
  simp only[labs,List.mem_cons,not_or] at h;simp only[z0r];rw[if_neg fun e=>h.1 e.symm];exact findL_none ds h.2
 | .dct k ks ds,h=>by
  simp only[labs,List.mem_cons,List.mem_append,not_or] at h;simp only[z0r];rw[if_neg fun e=>h.1 e.symm];exact findL_none ds h.2.2
 | .obj k c ks ds,h=>by
  simp only[labs,List.mem_cons,not_or] at h;simp only[z0r];rw[if_neg fun e=>h.1 e.symm];exact findL_none ds h.2
theorem findL_none{l:Nat}: ∀t:List D,l∉labsL t->findL l t=none
 |[],_=>rfl
 |d::ds,h=>by
  simp only[labsL,List.mem_append,not_or] at h
  simp only[findL,z8G d h.1,findL_none ds h.2]
end
theorem z6Z{t:D}{l n' n:Nat}{b b' r:List D}{σ tm:List (Option D)}(hb:labsL b=[])(hb':labsL b'=[])(hr:labsL r=[])(f1:rpO (pl l (.lst l b)) σ=σ)(f2:rpO (pl l (.lst l b)) tm=tm):
 z5K (.ok t (.lst l b'::r) n') (.lst l b::r) ⟨σ,tm,n⟩= .ok t ⟨rpO (pl l (.lst l b')) σ,rpO (pl l (.lst l b')) tm,n'⟩:=by
 have e:(fun k=>findL k (.lst l b'::r))=pl l (.lst l b'):=by
  funext k
  simp only[findL,z0r,pl]
  by_cases h:l=k
  ·subst h;rw[if_pos rfl,if_pos rfl]
  ·rw[if_neg h,if_neg fun q=>h q.symm,findL_none b' (by rw[hb'];exact List.not_mem_nil),findL_none r (by rw[hr];exact List.not_mem_nil)]
 unfold z5K
 by_cases h:(D.lst l b'::r)=(D.lst l b::r)
 ·have hh:b'=b:=by injection h with h _;injection h
  subst hh
  simp only[if_true]
  rw[f1,f2]
 ·simp only[if_neg h]
  rw[if_pos,e]
  intro k _ hk
  simp only[labsL,labs,hb,hr,List.append_nil,List.mem_singleton] at hk
  subst hk
  have:=congrFun e k
  rw[show findL k (D.lst k b'::r)=pl k (D.lst k b') k from this];simp[pl]
theorem ziv{mi:M ItK}{g:Tg}{b:MS}{s:Stt}:sFor mi g b s=(mi s).lf fun K s=>forGo K g b (K.len s.tm) 0 s:=(rfl)
theorem zc8{ms:List (M D)}{s:Stt}:z2Z ms s=(mArgs ms s).bnd rng1:=(rfl)
theorem z5t{j:Int}{s:Stt}(h: -(2^62)<=j/\j<2^62):rng1 [.int j] s= .ok (kRng 0 j.toNat) s:=by simp only[rng1,if_pos h];rfl
theorem zgd{lo:Int}{N:Nat}{tm:List (Option D)}:(kRng lo N).len tm=N:=(rfl)
theorem z6g{P:Nat->Stt->Prop}{lo:Int}{N:Nat}{g:Tg}{b:MS}
 (body: ∀i,i<N->∀s,P i s->∃σ',asg g (.int (lo+i)) s.σ=some σ'/\∃s',b {s with σ:=σ'}= .nx s'/\P (i+1) s'):
 ∀(f i:Nat) (s:Stt),i+f=N->P i s->∃s',forGo (kRng lo N) g b f i s= .nx s'/\P N s':=by
 intro f
 induction f with
 |zero=>
  intro i s hi h
  have e:i=N:=by lia
  subst e
  refine⟨s, ?_,h⟩
  unfold forGo
  simp only[kRng,Nat.lt_irrefl,if_false]
  rfl
 |succ f ih=>
  intro i s hi h
  have hl:i<N:=by lia
  obtain⟨σ',e1,s',e2,h'⟩:=body i hl s h
  obtain⟨s2,e3,h2⟩:=ih (i+1) s' (by lia) h'
  refine⟨s2, ?_,h2⟩
  unfold forGo
  simp only[kRng,if_pos hl,e1,e2]
  exact e3
mutual
theorem zge{l:Nat}{b:List D}{d:D}: ∀t:D,rp (pl l d) (rp (pl l (.lst l b)) t)=rp (pl l d) t
 | .non=>rfl
 | .bool _=>rfl
 | .int _=>rfl
 | .str _=>rfl
 | .exc _=>rfl
 | .fn _=>rfl
 | .tup ds=>by simp only[rp];rw[rpL_rp ds]
 | .ro ds=>by simp only[rp];rw[rpL_rp ds]
 | .fdc ks ds=>by simp only[rp];rw[rpL_rp ds]
 | .lst k ds=>by
  by_cases h:k=l
  ·subst h;simp only[rp,pl,if_true]
  ·have e: ∀x,pl l x k=none:=fun x=>by simp only[pl,if_neg h]
   simp only[rp,e];rw[rpL_rp ds]
 | .dct k ks ds=>by
  by_cases h:k=l
  ·subst h;simp only[rp,pl,if_true]
  ·have e: ∀x,pl l x k=none:=fun x=>by simp only[pl,if_neg h]
   simp only[rp,e];rw[rpL_rp ds]
 | .obj k c ks ds=>by
  by_cases h:k=l
  ·subst h;simp only[rp,pl,if_true]
  ·have e: ∀x,pl l x k=none:=fun x=>by simp only[pl,if_neg h]
   simp only[rp,e];rw[rpL_rp ds]
theorem rpL_rp{l:Nat}{b:List D}{d:D}: ∀t:List D,rpL (pl l d) (rpL (pl l (.lst l b)) t)=rpL (pl l d) t
 |[]=>rfl
 |t::ts=>by simp only[rpL];rw[zge t,rpL_rp ts]
end
theorem z70{l:Nat}{b:List D}{d:D}: ∀t:List (Option D),rpO (pl l d) (rpO (pl l (.lst l b)) t)=rpO (pl l d) t
 |[]=>rfl
 |none::ts=>by simp only[rpO];rw[z70 ts]
 |some t::ts=>by simp only[rpO];rw[zge t,z70 ts]
theorem z4Q{f:Nat->Option D}: ∀(a b:List (Option D)),rpO f (a++b)=rpO f a++rpO f b
 |[],b=>rfl
 |none::a,b=>by simp only[List.cons_append,rpO,z4Q a b]
 |some d::a,b=>by simp only[List.cons_append,rpO,z4Q a b]
theorem z6h{f:Nat->Option D}: ∀(a:List (Option D)),(rpO f a).length=a.length
 |[]=>rfl
 |none::a=>by simp only[rpO,List.length_cons,z6h a]
 |some d::a=>by simp only[rpO,List.length_cons,z6h a]
theorem z71: ∀ds:List D,z07 (ds.map some)=labsL ds
 |[]=>rfl
 |d::ds=>by simp only[List.map_cons,z07,labsL,z71 ds]
theorem z4R: ∀a b:List D,labsL (a++b)=labsL a++labsL b
 |[],b=>rfl
 |d::ds,b=>by simp only[List.cons_append,labsL,z4R ds b,List.append_assoc]
theorem za3{l:Nat}: ∀ds:List D,l∈labsL ds.reverse↔l∈labsL ds
 |[]=>Iff.rfl
 |d::ds=>by simp only[List.reverse_cons,z4R,labsL,List.mem_append,za3 ds,List.append_nil];exact Or.comm
theorem z72{l:Nat}{d:D}{ds:List D}(h:l∉labsL ds):rpO (pl l d) (ds.reverse.map some)=ds.reverse.map some:=z9h _ fun k hk=>by
 rw[z71,za3] at hk
 unfold pl;rw[if_neg];intro e;subst e;exact h hk
theorem z8H{me:M D}{N:Nat}{cap σ0 tm0:List (Option D)}{l ol:Nat}{Bg:List D->Prop}{Q:Nat->D->Prop}(mono: ∀a b,a<=b->∀y,Q a y->Q b y)(hol:σ0.length=ol)(hz:N<sizeLine)
 (hme: ∀i,i<N->∀b tm n,Bg b->l<n->rpO (pl l (.lst l b)) tm=tm->∃y b' n',Bg b'/\Q n' y/\n<=n'/\l∉labs y/\me ⟨some (.int (0+(i:Nat)))::rpO (pl l (.lst l b)) cap,tm,n⟩= .ok y ⟨some (.int (0+(i:Nat)))::rpO (pl l (.lst l b')) cap,rpO (pl l (.lst l b')) tm,n'⟩):
 ∀(f:Nat) (acc:List D) (o:Option D) (b:List D) (n:Nat),acc.length+f=N->Bg b->l<n->(∀y∈acc,Q n y)->l∉labsL acc->
  ∃ys b' n',ys.length=N/\(∀y∈ys,Q n' y)/\l∉labsL ys/\Bg b'/\n<=n'/\
   z1l (kRng 0 N) (.nm 0) (rt true) me ol f acc.length acc.length ⟨o::rpO (pl l (.lst l b)) cap,(acc.reverse.map some)++(rpO (pl l (.lst l b)) σ0++rpO (pl l (.lst l b)) tm0),n⟩= .ok (.lst n' ys) ⟨rpO (pl l (.lst l b')) σ0,rpO (pl l (.lst l b')) tm0,n'+1⟩:=by
 intro f
 induction f with
 |zero=>
  intro acc o b n hi hb hn hq hf
  have hi:acc.length=N:=by lia
  refine⟨acc,b,n,hi,hq,hf,hb,Nat.le_refl _, ?_⟩
  have l1:(acc.reverse.map some).length=acc.length:=by simp
  unfold z1l
  simp only[kRng,hi,Nat.lt_irrefl,if_false]
  rw[<-hi,z1P _ _ _ l1]
  have e2:(acc.reverse.map some).reverse=acc.map some:=by simp
  rw[e2,z1H]
  simp only[Res.ok.injEq,true_and,Stt.mk.injEq,and_true]
  constructor
  ·rw[z0E _ _ _ l1,z1P _ _ _ (by rw[z6h];exact hol)]
  ·rw[<-List.append_assoc,Nat.add_zero]
   exact z0E _ _ _ (by simp[z6h,hol])
 |succ f ih=>
  intro acc o b n hi hb hn hq hf
  have hlt:acc.length<N:=by lia
  unfold z1l
  simp only[kRng,if_pos hlt,asg,List.set_cons_zero,rt]
  rw[if_pos (by lia)]
  obtain⟨y,b',n',h1,h2,h3,h4,h5⟩:=hme acc.length hlt b ((acc.reverse.map some)++(rpO (pl l (.lst l b)) σ0++rpO (pl l (.lst l b)) tm0)) n hb hn (by rw[z4Q,z4Q,z70,z70,z72 hf])
  rw[h5]
  obtain⟨ys,b2,n2,g1,g2,g3,g4,g5,g6⟩:=ih (acc++[y]) (some (.int (0+(acc.length:Nat)))) b' n' (by simp;lia) h1 (by lia) (by
   intro z hz
   rcases List.mem_append.mp hz with hz|hz
   ·exact mono _ _ h3 z (hq z hz)
   ·rw[List.mem_singleton.mp hz];exact h2) (by
   rw[z4R]
   simp only[labsL,List.append_nil,List.mem_append,not_or]
   exact⟨hf,h4⟩)
  refine⟨ys,b2,n2,g1,g2,g3,g4,by lia, ?_⟩
  rw[<-g6]
  simp only[Stt.psh,z4Q,z70,z72 hf,List.length_append,List.length_cons,List.length_nil,Nat.zero_add,List.reverse_append,List.reverse_cons,List.reverse_nil,List.nil_append,List.map_append,List.map_cons,List.map_nil,List.cons_append]
  rfl
theorem za4{ms:List (M D)}{me:M D}{N:Nat}{ix:List Nat}{s:Stt}{l n:Nat}{j:Int}{σ0 tm0:List (Option D)}{b:List D}{Bg:List D->Prop}{Q:Nat->D->Prop}(mono: ∀a b,a<=b->∀y,Q a y->Q b y)(hms:mArgs ms s= .ok [.int j] ⟨σ0,tm0,n⟩)(hj:j.toNat=N)(hj': -(2^62)<=j/\j<2^62)(hz:N<sizeLine)
 (hb:Bg b) (hn:l<n) (f1:rpO (pl l (.lst l b)) σ0=σ0) (f2:rpO (pl l (.lst l b)) tm0=tm0) (f3:rpO (pl l (.lst l b)) (ix.map fun i=>(σ0[i]?).getD none)=ix.map fun i=>(σ0[i]?).getD none)
 (hme: ∀i,i<N->∀b tm n,Bg b->l<n->rpO (pl l (.lst l b)) tm=tm->∃y b' n',Bg b'/\Q n' y/\n<=n'/\l∉labs y/\me ⟨some (.int (0+(i:Nat)))::rpO (pl l (.lst l b)) (ix.map fun i=>(σ0[i]?).getD none),tm,n⟩= .ok y ⟨some (.int (0+(i:Nat)))::rpO (pl l (.lst l b')) (ix.map fun i=>(σ0[i]?).getD none),rpO (pl l (.lst l b')) tm,n'⟩):
 ∃ys b' n',ys.length=N/\(∀y∈ys,Q n' y)/\l∉labsL ys/\Bg b'/\n<=n'/\z0w (z2Z ms) (.nm 0) (rt true) me 1 ix s= .ok (.lst n' ys) ⟨rpO (pl l (.lst l b')) σ0,rpO (pl l (.lst l b')) tm0,n'+1⟩:=by
 obtain⟨ys,b',n',h1,h2,h3,h4,h5,h6⟩:=z8H (me:=me) (N:=N) (cap:=ix.map fun i=>(σ0[i]?).getD none) (σ0:=σ0) (tm0:=tm0) (l:=l) (Bg:=Bg) (Q:=Q) mono rfl hz hme N [] none b n (by simp) hb hn (by intro y h;cases h) (by simp[labsL])
 refine⟨ys,b',n',h1,h2,h3,h4,h5, ?_⟩
 unfold z0w
 rw[x_bd,zc8,hms,z3G,z5t hj',z3G,hj]
 rw[f1,f2,f3] at h6
 exact h6
inductive All2(Q:D->D->Prop):List D->List D->Prop
 |nil:All2 Q [] []
 |cons {a b:D} {as bs:List D}:Q a b->All2 Q as bs->All2 Q (a::as) (b::bs)
theorem za5{m:M D}{s:Stt}{l:Nat}{ds:List D}{σ tm:List (Option D)}{n:Nat}(h:m s= .ok (.lst l ds) ⟨σ,tm,n⟩):z0L m s= .ok kLst ⟨σ,some (.lst l ds)::tm,n⟩:=by
 unfold z0L;rw[x_bd,h];rfl
theorem z8I{K:ItK}{mt:M Bool}{me:M D}{p:D->Bool}{g:D->D}{items:List D}{its fr σ0 tm0:List (Option D)}{ol:Nat}(hk:its.length=K.k)(hol:σ0.length=ol)(hz:items.length<sizeLine)(hat: ∀i rest,K.at' i (its++rest)=some items[i]?)
 (hmt: ∀d∈items,∀tm n,∃n',n<=n'/\mt ⟨some d::fr,tm,n⟩= .ok (p d) ⟨some d::fr,tm,n'⟩)
 (hme: ∀d∈items,p d=true->∀tm n,∃n',n<=n'/\me ⟨some d::fr,tm,n⟩= .ok (g d) ⟨some d::fr,tm,n'⟩):
 ∀(f i:Nat) (acc:List D) (o:Option D) (n:Nat),i+f=items.length->acc.length<=i->∃n',n<=n'/\z1l K (.nm 0) mt me ol f i acc.length ⟨o::fr,(acc.reverse.map some)++(σ0++(its++tm0)),n⟩= .ok (.lst n' (acc++((items.drop i).filter p).map g)) ⟨σ0,tm0,n'+1⟩:=by
 intro f
 induction f with
 |zero=>
  intro i acc o n hi ha
  have hi:i=items.length:=by lia
  refine⟨n,Nat.le_refl _, ?_⟩
  have l1:(acc.reverse.map some).length=acc.length:=by simp
  have e1:((acc.reverse.map some)++(σ0++(its++tm0))).drop (acc.length+ol)=its++tm0:=by
   rw[<-List.append_assoc];exact z0E _ _ _ (by simp[hol])
  unfold z1l
  simp only[e1,hat,List.getElem?_eq_none (show items.length<=i by lia)]
  rw[z1P _ _ _ l1]
  have e2:(acc.reverse.map some).reverse=acc.map some:=by simp
  rw[e2,z1H]
  simp only[Res.ok.injEq,Stt.mk.injEq,and_true,List.drop_eq_nil_of_le (show items.length<=i by lia),List.filter_nil,List.map_nil,List.append_nil,true_and]
  constructor
  ·rw[z0E _ _ _ l1,z1P _ _ _ hol]
  ·have:((acc.reverse.map some)++(σ0++(its++tm0))).drop (acc.length+ol+K.k)=(((acc.reverse.map some)++(σ0++(its++tm0))).drop (acc.length+ol)).drop K.k:=by rw[List.drop_drop]
   rw[this,e1]
   exact z0E _ _ _ hk
 |succ f ih=>
  intro i acc o n hi ha
  have hlt:i<items.length:=by lia
  have e1:((acc.reverse.map some)++(σ0++(its++tm0))).drop (acc.length+ol)=its++tm0:=by
   rw[<-List.append_assoc];exact z0E _ _ _ (by simp[hol])
  obtain⟨n1,hn1,h1⟩:=hmt items[i] (List.getElem_mem hlt) ((acc.reverse.map some)++(σ0++(its++tm0))) n
  rw[List.drop_eq_getElem_cons hlt,List.filter_cons]
  unfold z1l
  simp only[e1,hat,List.getElem?_eq_getElem hlt,asg,List.set_cons_zero,h1]
  cases hp:p items[i] with
  |false=>
   obtain⟨n2,hn2,h2⟩:=ih (i+1) acc (some items[i]) n1 (by lia) (by lia)
   exact⟨n2,by lia,h2⟩
  |true=>
   obtain⟨n2,hn2,h2⟩:=hme items[i] (List.getElem_mem hlt) hp ((acc.reverse.map some)++(σ0++(its++tm0))) n1
   obtain⟨n3,hn3,h3⟩:=ih (i+1) (acc++[g items[i]]) (some items[i]) n2 (by lia) (by simp;lia)
   refine⟨n3,by lia, ?_⟩
   simp only[if_pos (show acc.length<sizeLine by lia),h2]
   simp only[List.length_append,List.length_cons,List.length_nil,Nat.zero_add,List.reverse_append,List.reverse_cons,List.reverse_nil,List.nil_append,List.map_append,List.map_cons,List.map_nil,List.cons_append,List.append_assoc] at h3⊢
   exact h3
theorem za6{mi:M ItK}{K:ItK}{mt:M Bool}{me:M D}{p:D->Bool}{g:D->D}{items:List D}{its:List (Option D)}{ix:List Nat}{s:Stt}{σ tm:List (Option D)}{n:Nat}(hc:mi s= .ok K ⟨σ,its++tm,n⟩)(hk:its.length=K.k)(hz:items.length<sizeLine)(hat: ∀i rest,K.at' i (its++rest)=some items[i]?)(hlen:K.len (its++tm)=items.length)
 (hmt: ∀d∈items,∀tm n,∃n',n<=n'/\mt ⟨some d::(ix.map fun i=>(σ[i]?).getD none),tm,n⟩= .ok (p d) ⟨some d::(ix.map fun i=>(σ[i]?).getD none),tm,n'⟩)
 (hme: ∀d∈items,p d=true->∀tm n,∃n',n<=n'/\me ⟨some d::(ix.map fun i=>(σ[i]?).getD none),tm,n⟩= .ok (g d) ⟨some d::(ix.map fun i=>(σ[i]?).getD none),tm,n'⟩):
 ∃n',n<=n'/\z0w mi (.nm 0) mt me 1 ix s= .ok (.lst n' ((items.filter p).map g)) ⟨σ,tm,n'+1⟩:=by
 obtain⟨n',h2,h3⟩:=z8I (K:=K) (mt:=mt) (me:=me) (σ0:=σ) (tm0:=tm) hk rfl hz hat hmt hme items.length 0 [] none n (by simp) (by simp)
 refine⟨n',h2, ?_⟩
 unfold z0w
 simp only[bd,hc,hlen]
 simp only[List.map_nil,List.reverse_nil,List.nil_append,List.length_nil,List.drop_zero] at h3
 exact h3
theorem z8J{mc:M D}{mt:M Bool}{me:M D}{p:D->Bool}{g:D->D}{ds:List D}{ix:List Nat}{s:Stt}{σ tm:List (Option D)}{n:Nat}(hc:mc s= .ok (.tup ds) ⟨σ,tm,n⟩)(hz:ds.length<sizeLine)
 (hmt: ∀d∈ds,∀tm n,∃n',n<=n'/\mt ⟨some d::(ix.map fun i=>(σ[i]?).getD none),tm,n⟩= .ok (p d) ⟨some d::(ix.map fun i=>(σ[i]?).getD none),tm,n'⟩)
 (hme: ∀d∈ds,p d=true->∀tm n,∃n',n<=n'/\me ⟨some d::(ix.map fun i=>(σ[i]?).getD none),tm,n⟩= .ok (g d) ⟨some d::(ix.map fun i=>(σ[i]?).getD none),tm,n'⟩):
 ∃n',n<=n'/\z0w (z0L mc) (.nm 0) mt me 1 ix s= .ok (.lst n' ((ds.filter p).map g)) ⟨σ,tm,n'+1⟩:=
 za6 (K:=kTup) (its:=[some (.tup ds)]) (items:=ds) (by unfold z0L;rw[x_bd,hc];rfl) rfl hz (fun i rest=>rfl) rfl hmt hme
end Mi
set_option maxHeartbeats 1000000
namespace Mi
open PySem L2
noncomputable def zgf(o:Option (List D))(t:D)(n:Nat):RF:=match o with|some ts=> .ex t ts n|none=> .no
noncomputable def _root_.Mi.RS.finX(k:Nat):RS->RF
 | .nx s'=>finO (z0a s'.tm) .non s'.n
 | .rt t s'=>finO (z0a s'.tm) t s'.n
 | .ex d s'=>zgf (z0a (z2L k s'.tm)) d s'.n
 |_=> .no
theorem z48{nl:Nat}{mb:MS}{ts:List D}{n:Nat}:runX nl mb ts n=(mb ⟨ts.map some++List.replicate (nl -ts.length) none,ts.map some,n⟩).finX ts.length:=by
 unfold runX RS.finX finO zgf
 cases mb ⟨ts.map some++List.replicate (nl -ts.length) none,ts.map some,n⟩<;>rfl
theorem z2D{f:FM}{ms:List (M D)}{s:Stt}:z1m f ms s=(mArgs ms s).bnd fun ts s1=>z2G (f ts s1.n) ts s1:=by
 unfold z1m bd Res.bnd
 cases mArgs ms s<;>rfl
theorem z8K{t:D}{ts:List D}{n':Nat}{s:Stt}:z2G (.ok t ts n') ts s= .ok t {s with n:=n'}:=by
 unfold z2G;simp
theorem z6i{t:D}{ts:List D}{n':Nat}{s:Stt}:z2G (.ex t ts n') ts s= .ex t {s with n:=n'}:=by
 unfold z2G;simp
theorem zbB{c:Str}{s:Stt}:mFnv c s= .ok (.fn c) s:=(rfl)
noncomputable def vK(tb:Str->Option FM)(ms:List (M D)):D->M D
 | .fn c=>(match tb c with|some f=>z1m f ms|none=>fl)
 |_=>fl
theorem zgg{tb:Str->Option FM}{ms:List (M D)}{c:Str}{f:FM}{s:Stt}(h:tb c=some f):vK tb ms (.fn c) s=z1m f ms s:=by
 show(match tb c with|some f=>z1m f ms|none=>fl) s=_
 rw[h]
noncomputable def iK(tb:Str->Option Bool):D->M D
 | .exc c=>(match tb c with|some b=>rt (.bool b)|none=>fl)
 |_=>fl
theorem za7{tb:Str->Option Bool}{m:M D}{s:Stt}:mIsX tb m s=(m s).bnd (iK tb):=by
 unfold mIsX bd Res.bnd
 cases m s with
 |ok d s1=>cases d<;>rfl
 |ex d s1=>rfl
 |no=>rfl
theorem z73{tb:Str->Option Bool}{c:Str}{b:Bool}{s:Stt}(h:tb c=some b):iK tb (.exc c) s= .ok (.bool b) s:=by
 show(match tb c with|some b=>rt (D.bool b)|none=>fl) s=_
 rw[h];rfl
theorem z3o{c:Str}{s:Stt}:z45 c s= .ex (.exc c) s:=(rfl)
noncomputable def tK(k:Str->Bool)(ie N:Nat)(mh:MS):RS->RS
 | .ex (.exc c) s'=>if k c then(match mh {σ:=s'.σ.set ie (some (.exc c)),tm:=z2L N s'.tm,n:=s'.n} with
  | .rt d s''=> .rt d s''
  |_=> .no) else .no
 | .ex _ _=> .no
 |r=>r
theorem zgh{k:Str->Bool}{ie:Nat}{mb mh:MS}{s:Stt}:sTry k ie mb mh s=tK k ie s.tm.length mh (mb s):=by
 unfold sTry tK
 cases mb s with
 |ex d s'=>cases d<;>rfl
 |_=>rfl
theorem ziw{k:Str->Bool}{ie N:Nat}{mh:MS}{d:D}{s:Stt}:tK k ie N mh (.rt d s)= .rt d s:=(rfl)
noncomputable def rtO:RS->RS
 | .rt d s''=> .rt d s''
 |_=> .no
theorem zgi{d:D}{s:Stt}:rtO (.rt d s)= .rt d s:=(rfl)
theorem zix{k:Str->Bool}{ie N:Nat}{mh:MS}{c:Str}{σ tm:List (Option D)}{n:Nat}(h:k c=true):tK k ie N mh (.ex (.exc c) ⟨σ,tm,n⟩)=rtO (mh ⟨σ.set ie (some (.exc c)),z2L N tm,n⟩):=by
 unfold tK rtO;simp only[h,if_true]
theorem z6j{α:Type}{d:D}{s:Stt}{f:α->MS}:((Res.ex d s:Res α).lf f:RS)= .ex d s:=(rfl)
theorem za8{d:D}{s:Stt}{m:MS}:((RS.ex d s).sq m:RS)= .ex d s:=(rfl)
end Mi
set_option maxHeartbeats 4000000
namespace Mi
open PySem L2
end Mi
set_option maxHeartbeats 40000
namespace Mi
open PySem L2
section
variable{α β:Type}{m ma mb mc:M D}{s:Stt}{ms:List (M D)}{σ tm l:List (Option D)}{n i j k p:Nat}{x y z u d:D}{g g2:D->D->M D}{h:List D->M D}
variable{a0 a1 a2 a3 a4 a5 a6 a7 a8 a9 a10 a11 a12 a13 a14 a15 v:Option D}
theorem qg1:(a0::a1::l)[1]? =some a1:=(rfl)
theorem qg2:(a0::a1::a2::l)[2]? =some a2:=(rfl)
theorem qg3:(a0::a1::a2::a3::l)[3]? =some a3:=(rfl)
theorem qg4:(a0::a1::a2::a3::a4::l)[4]? =some a4:=(rfl)
theorem qg5:(a0::a1::a2::a3::a4::a5::l)[5]? =some a5:=(rfl)
theorem qg6:(a0::a1::a2::a3::a4::a5::a6::l)[6]? =some a6:=(rfl)
theorem qg7:(a0::a1::a2::a3::a4::a5::a6::a7::l)[7]? =some a7:=(rfl)
theorem qg8:(a0::a1::a2::a3::a4::a5::a6::a7::a8::l)[8]? =some a8:=(rfl)
theorem qg9:(a0::a1::a2::a3::a4::a5::a6::a7::a8::a9::l)[9]? =some a9:=(rfl)
theorem qg10:(a0::a1::a2::a3::a4::a5::a6::a7::a8::a9::a10::l)[10]? =some a10:=(rfl)
theorem qh1:(a0::a1::l).set 1 v=a0::v::l:=(rfl)
theorem qh2:(a0::a1::a2::l).set 2 v=a0::a1::v::l:=(rfl)
theorem qh3:(a0::a1::a2::a3::l).set 3 v=a0::a1::a2::v::l:=(rfl)
theorem qh4:(a0::a1::a2::a3::a4::l).set 4 v=a0::a1::a2::a3::v::l:=(rfl)
theorem qh5:(a0::a1::a2::a3::a4::a5::l).set 5 v=a0::a1::a2::a3::a4::v::l:=(rfl)
theorem qh6:(a0::a1::a2::a3::a4::a5::a6::l).set 6 v=a0::a1::a2::a3::a4::a5::v::l:=(rfl)
theorem qh7:(a0::a1::a2::a3::a4::a5::a6::a7::l).set 7 v=a0::a1::a2::a3::a4::a5::a6::v::l:=(rfl)
theorem qh8:(a0::a1::a2::a3::a4::a5::a6::a7::a8::l).set 8 v=a0::a1::a2::a3::a4::a5::a6::a7::v::l:=(rfl)
theorem qh10:(a0::a1::a2::a3::a4::a5::a6::a7::a8::a9::a10::l).set 10 v=a0::a1::a2::a3::a4::a5::a6::a7::a8::a9::v::l:=(rfl)
theorem ov:mVar i s=match s.σ[i]? with|some (some t)=> .ok t s|_=> .no:=rfl
noncomputable def cv(g:D->D->M D)(a:D)(b:Option (Option D))(s:Stt):Res D:=match b with
 |some (some b)=>g a b s
 |_=> .no
theorem zdV:cv g x (some (some y)) s=g x y s:=(rfl)
theorem x_bC:mBin m (mC y) g s=(m s).bnd fun x s1=>g x y s1:=by
 rw[zdO];cases m s<;>rfl
theorem x_bV:mBin m (mVar j) g s=(m s).bnd fun x s1=>cv g x s1.σ[j]? s1:=by
 rw[zdO];cases m s with
 |ok x s1=>rw[z3G,z3G];unfold mVar cv;dsimp only[Stt.psh];cases s1.σ[j]? with
  |none=>rfl
  |some o=>cases o<;>rfl
 |ex d s1=>rfl
 |no=>rfl
noncomputable def qc1(h:List D->M D)(a:Option (Option D))(s:Stt):Res D:=match a with
 |some (some a)=>h [a] s
 |_=> .no
theorem zbC:qc1 h (some (some x)) s=h [x] s:=(rfl)
theorem x_c1:mCB [mVar i] h ⟨σ,tm,n⟩=qc1 h σ[i]? ⟨σ,tm,n⟩:=by
 rw[x_cb];unfold mVar qc1 mArgs bd;dsimp only
 cases σ[i]? with
 |none=>rfl
 |some o=>cases o<;>rfl
theorem zc9:mArgs [m] s=(m s).bnd fun x s1=> .ok [x] s1:=by
 rw[z40];cases m s<;>rfl
noncomputable def qa1(a:Option (Option D))(s:Stt):Res (List D):=match a with
 |some (some a)=> .ok [a] s
 |_=> .no
theorem x_a1:mArgs [mVar i] ⟨σ,tm,n⟩=qa1 σ[i]? ⟨σ,tm,n⟩:=by
 rw[zc9];unfold mVar qa1;dsimp only
 cases σ[i]? with
 |none=>rfl
 |some o=>cases o<;>rfl
noncomputable def qa2(a b:Option (Option D))(s:Stt):Res (List D):=match a,b with
 |some (some a),some (some b)=> .ok [a,b] s
 |_,_=> .no
theorem zbD:qa2 (some (some x)) (some (some y)) s= .ok [x,y] s:=(rfl)
theorem x_a2:mArgs [mVar i,mVar j] ⟨σ,tm,n⟩=qa2 σ[i]? σ[j]? ⟨σ,tm,n⟩:=by
 rw[z40];unfold mVar qa2;dsimp only
 cases σ[i]? with
 |none=>rfl
 |some o=>cases o with
  |none=>rfl
  |some a=>rw[z3G];show Res.bnd _ (mArgs [mVar j] ⟨σ,_,_⟩)=_;rw[x_a1];unfold qa1;cases σ[j]? with
   |none=>rfl
   |some o=>cases o<;>rfl
noncomputable def qa3(a b c:Option (Option D))(s:Stt):Res (List D):=match a,b,c with
 |some (some a),some (some b),some (some c)=> .ok [a,b,c] s
 |_,_,_=> .no
theorem zbE:qa3 (some (some x)) (some (some y)) (some (some z)) s= .ok [x,y,z] s:=(rfl)
theorem x_a3:mArgs [mVar i,mVar j,mVar k] ⟨σ,tm,n⟩=qa3 σ[i]? σ[j]? σ[k]? ⟨σ,tm,n⟩:=by
 rw[z40];unfold mVar qa3;dsimp only
 cases σ[i]? with
 |none=>rfl
 |some o=>cases o with
  |none=>rfl
  |some a=>rw[z3G];show Res.bnd _ (mArgs [mVar j,mVar k] ⟨σ,_,_⟩)=_;rw[x_a2];unfold qa2;cases σ[j]? with
   |none=>rfl
   |some o=>cases o with
    |none=>rfl
    |some b=>cases σ[k]? with
     |none=>rfl
     |some o=>cases o<;>rfl
theorem ziy:mArgs [mVar i,mC y] ⟨σ,tm,n⟩=qa2 σ[i]? (some (some y)) ⟨σ,tm,n⟩:=by
 rw[z40];unfold mVar qa2;dsimp only
 cases σ[i]? with
 |none=>rfl
 |some o=>cases o<;>rfl
theorem zgj:mArgs [mVar i,mC y,mC z] ⟨σ,tm,n⟩=qa3 σ[i]? (some (some y)) (some (some z)) ⟨σ,tm,n⟩:=by
 rw[z40];unfold mVar qa3;dsimp only
 cases σ[i]? with
 |none=>rfl
 |some o=>cases o<;>rfl
theorem ziz:z0P ma (mVar i) mc g g2 s=(ma s).bnd fun x s1=>(mVar i s1).bnd fun y s3=>z3N y (bd (mBoo (g x y)) fun k=>iteM k (bd mc fun z=>g2 y z) (rt (.bool false))) s3:=by
 rw[z9Y];cases ma s with
 |ok x s1=>rw[z3G,z3G];unfold mVar;dsimp only[Stt.psh];cases s1.σ[i]? with
  |none=>rfl
  |some o=>cases o<;>rfl
 |ex d s1=>rfl
 |no=>rfl
theorem ziA:sAsg (.nm i) m s=(m s).lf fun d s1=> .nx ⟨s1.σ.set i (some d),s1.tm,s1.n⟩:=by
 rw[zg8];cases m s<;>rfl
end
theorem z03{t:D}{l n' n:Nat}{b b' r:List D}{σ tm:List (Option D)}{σ1 tm1:D->List (Option D)}(hb:labsL b=[])(hb':labsL b'=[])(hr:labsL r=[])(f1: ∀q,rpO (pl l q) σ=σ1 q)(f2: ∀q,rpO (pl l q) tm=tm1 q)(e1:σ1 (.lst l b)=σ:=by rfl)(e2:tm1 (.lst l b)=tm:=by rfl):
 z5K (.ok t (.lst l b'::r) n') (.lst l b::r) ⟨σ,tm,n⟩= .ok t ⟨σ1 (.lst l b'),tm1 (.lst l b'),n'⟩:=by
 rw[z6Z hb hb' hr ((f1 _).trans e1) ((f2 _).trans e2),f1,f2]
end Mi
set_option maxHeartbeats 1000000
namespace Mi
open PySem L2
theorem zbF{K:ItK}{g:Tg}{b:MS}{f i:Nat}{s s':Stt}{d:D}{σ':List (Option D)}(h1:K.at' i s.tm=some (some d))(h2:asg g d s.σ=some σ')(h3:b {s with σ:=σ'}= .nx s'):forGo K g b (f+1) i s=forGo K g b f (i+1) s':=by
 conv=>lhs;unfold forGo
 simp only[h1,h2,h3]
theorem zdW{K:ItK}{g:Tg}{b:MS}{f i:Nat}{s:Stt}(h1:K.at' i s.tm=some none):forGo K g b f i s= .nx (s.popn K.k):=by
 unfold forGo
 simp only[h1]
end Mi
namespace My
open PySem L2 Mi
theorem BA{a b:Prop}(h:a)(k:b):a/\b:=⟨h,k⟩
noncomputable def B_0:=BA (BA (BA (BA (BA (BA @zi4 @x_bd) (BA @z3G (BA @zbw @zi2))) (BA (BA @zfT (BA @x_rt @zfU)) (BA @zi5 (BA @zi6 @zbx)))) (BA (BA (BA @zi7 (BA @x_C @zdO)) (BA @zi8 (BA @zfV @zfW))) (BA (BA @x_tB (BA @x_tT @zi9)) (BA @x_or (BA @zia @zfX))))) (BA (BA (BA (BA @zib @zfY) (BA @zic (BA @x_it @x_if))) (BA (BA @zdP (BA @z40 @x_cb)) (BA @zfZ (BA @z9X @zid)))) (BA (BA (BA @z9Y (BA @zie @z9Z)) (BA @zdQ (BA @zdR @zg0))) (BA (BA @x_sl (BA @zg1 @zif)) (BA @y_lt (BA @y_le @y_gt)))))) (BA (BA (BA (BA (BA @zig @zih) (BA @zii (BA @zij @zik))) (BA (BA @zil (BA @zim @zg2)) (BA @zg3 (BA @zg4 @zin)))) (BA (BA (BA @zio (BA @ziq @zg5)) (BA @zg6 (BA @zir @zis))) (BA (BA @zg7 (BA @zdT @zit)) (BA @x_sT (BA @x_sF @za2))))) (BA (BA (BA (BA @zg8 (BA @ziu @z8D)) (BA @zi3 (BA @z9W @List.map_cons.{0,0}))) (BA (BA @List.map_nil.{0,0} (BA @List.nil_append.{0} @List.cons_append.{0})) (BA @List.append_nil.{0} (BA @List.getElem?_cons_zero.{0} @List.getElem?_cons_succ.{0})))) (BA (BA (BA @List.getElem?_nil.{0} (BA @List.set_cons_zero.{0} @List.set_cons_succ.{0})) (BA @List.length_cons.{0} (BA @List.length_nil.{0} @Option.map_some.{0,0}))) (BA (BA @Option.map_none.{0,0} (BA @Bool.not_true @Bool.not_false)) (BA @beq_self_eq_true.{0} (BA @Nat.zero_add @Nat.sub_self))))))
local macro_rules | `(tactic| walk_at "") => `(tactic| (simp (config := { dsimp := false }) only [B_0, isiD, z0a, asg, asgL, List.replicate, Nat.reduceAdd, Nat.reduceSub, String.reduceBEq]))
noncomputable def isInt:D->Bool
 | .int _=>true
 |_=>false
noncomputable def inR(lo hi:Int):D->Bool
 | .int i=>decide (lo<=i)&&decide (i<=hi)
 |_=>false
theorem zgk(t:D)(n:Nat)(h:plain t=true):z1v [t] n= .ok (.bool (isInt t)) [t] n:=by
 unfold z1v z2s
 cases t<;>first|(simp[Mi.plain] at h;done)|(walk_at "";first|done|rfl)
theorem z5u(t:D)(lo hi:Int)(n:Nat)(h:plain t=true):z0k [t, .int lo, .int hi] n= .ok (.bool (inR lo hi t)) [t, .int lo, .int hi] n:=by
 unfold z0k z2R
 walk_at ""
 rw[zgk t n h]
 cases t<;>(try simp only[isInt,inR])<;>walk_at "" <;>try rfl
 rename_i i
 by_cases h1:lo<=i
 ·simp only[h1,decide_true];walk_at "";simp
 ·simp only[h1,decide_false];walk_at "";simp
noncomputable def rowB(lo hi top:Int):D->Bool
 | .tup ds=>decide (lo<=(ds.length:Int))&&decide ((ds.length:Int)<=hi)&&ds.all (inR 0 top)
 |_=>false
theorem z5v: ∀{ds:List D} {d:D},plainL ds=true->d∈ds->plain d=true
 |x::ds,d,h,m=>by
  simp only[plainL,Bool.and_eq_true] at h
  rcases List.mem_cons.mp m with rfl|m
  ·exact h.1
  ·exact z5v h.2 m
theorem za9(t:D)(lo hi top:Int)(n:Nat)(h:plain t=true)(hh:hi<1000000): ∃n',n<=n'/\z1y [t, .int lo, .int hi, .int top] n= .ok (.bool (rowB lo hi top t)) [t, .int lo, .int hi, .int top] n':=by
 unfold z1y z3X
 walk_at ""
 cases t with
 |tup ds=>
  walk_at ""
  by_cases h1:lo<=(ds.length:Int)
  ·by_cases h2:(ds.length:Int)<=hi
   ·simp only[h1,h2,decide_true,rowB,Bool.true_and]
    walk_at ""
    simp only[h2,decide_true]
    walk_at ""
    have hz:ds.length<sizeLine:=by have:sizeLine=16777216:=rfl;lia
    obtain⟨n',hn,hc⟩:=z9V (mc:=mVar 0) (me:=z02 z0k [mVar 0,mC (D.int 0),mVar 1]) (g:=fun d=> .bool (inR 0 top d)) (ds:=ds) (ix:=[3]) (s:=⟨[some (.tup ds),some (.int lo),some (.int hi),some (.int top)],[some (.tup ds),some (.int lo),some (.int hi),some (.int top)],n⟩) (s1:=⟨[some (.tup ds),some (.int lo),some (.int hi),some (.int top)],[some (.tup ds),some (.int lo),some (.int hi),some (.int top)],n⟩) (by walk_at "") hz (by
     intro d hd tm m
     refine⟨m,Nat.le_refl _, ?_⟩
     show z02 _ _ ⟨[some d,some (.int top)],tm,m⟩=_
     walk_at ""
     rw[z5u d 0 top m (z5v (by simpa[Mi.plain] using h) hd)]
     walk_at ""
     rfl)
    refine⟨n'+1,by simp only at hn;lia, ?_⟩
    rw[hc]
    walk_at ""
    rw[zdS (z6Y ds (inR 0 top))]
    walk_at ""
    simp only[List.all_map]
    rfl
   ·refine⟨n,Nat.le_refl _, ?_⟩
    simp only[h1,h2,decide_true,decide_false,rowB,Bool.true_and,Bool.false_and]
    walk_at ""
    simp only[h2,decide_false]
    walk_at ""
  ·refine⟨n,Nat.le_refl _, ?_⟩
   simp only[h1,decide_false,rowB,Bool.false_and]
   walk_at ""
 |dct _ _ _=>simp[Mi.plain] at h
 |obj _ _ _ _=>simp[Mi.plain] at h
 |exc _=>simp[Mi.plain] at h
 |fn _=>simp[Mi.plain] at h
 |fdc _ _=>simp[Mi.plain] at h
 |_=>refine⟨n,Nat.le_refl _, ?_⟩;walk_at "";rfl
theorem at0{a:D}{l:List D}:atI (a::l) 0=some a:=z5s (by decide) rfl
theorem at1{a b:D}{l:List D}:atI (a::b::l) 1=some b:=z5s (by decide) rfl
theorem at2{a b c:D}{l:List D}:atI (a::b::c::l) 2=some c:=z5s (by decide) rfl
theorem at3{a b c d:D}{l:List D}:atI (a::b::c::d::l) 3=some d:=z5s (by decide) rfl
theorem ziB{i j:Int}{s:Stt}:eqD (.int i) (.int j) s= .ok (.bool (i==j)) s:=by
 rw[y_eq (by simp[eqC,Mi.plain,er,PyData.canLay0,PyData.depth])];simp only[er,PyData.eqv]
theorem c0:((0:Nat):Int)=0:=rfl
theorem c1:((1:Nat):Int)=1:=rfl
theorem c2:((2:Nat):Int)=2:=rfl
theorem c3:((3:Nat):Int)=3:=rfl
theorem c4:((4:Nat):Int)=4:=rfl
noncomputable def Gd(t:D):Prop:=plain t=true/\(er t).canLay0=true
noncomputable def GdL(ds:List D):Prop:=plainL ds=true/\PyData.canLayAll0 (erL ds)=true
theorem Gd.tup{ds:List D}:Gd (.tup ds)↔GdL ds:=by simp only[Gd,GdL,Mi.plain,er,PyData.canLay0]
theorem Gd.lst{l:Nat}{ds:List D}:Gd (.lst l ds)↔GdL ds:=by simp only[Gd,GdL,Mi.plain,er,PyData.canLay0]
theorem GdL.cons{d:D}{ds:List D}:GdL (d::ds)↔Gd d/\GdL ds:=by
 simp only[Gd,GdL,plainL,erL,PyData.canLayAll0,Bool.and_eq_true]
 constructor
 ·rintro ⟨⟨a,b⟩,c,d⟩;exact⟨⟨a,c⟩,b,d⟩
 ·rintro ⟨⟨a,c⟩,b,d⟩;exact⟨⟨a,b⟩,c,d⟩
noncomputable def zgl(x:Str):D->Bool
 | .str y=>y==x
 |_=>false
theorem eq_str{t:D}{x:Str}{s:Stt}(g:Gd t)(h:PyData.strOk x=true):eqD t (.str x) s= .ok (.bool (zgl x t)) s:=by
 have e:eqC t (.str x)=true:=by
  simp only[eqC,g.1,g.2,Mi.plain,er,PyData.canLay0,h,Bool.true_and,decide_eq_true_eq]
  simp[PyData.depth]
 rw[y_eq e]
 cases t<;>simp[er,PyData.eqv,zgl]
theorem zl:sizeLine=16777216:=rfl
section
variable{a b c d:D}{s:Stt}
theorem t0:tupD [] s= .ok (.tup []) s:=z8E (by decide)
theorem t1:tupD [a] s= .ok (.tup [a]) s:=z8E (by rw[zl];simp)
theorem t2:tupD [a,b] s= .ok (.tup [a,b]) s:=z8E (by rw[zl];simp)
theorem t3:tupD [a,b,c] s= .ok (.tup [a,b,c]) s:=z8E (by rw[zl];simp)
theorem t4:tupD [a,b,c,d] s= .ok (.tup [a,b,c,d]) s:=z8E (by rw[zl];simp)
theorem k0{σ tm:List (Option D)}{n:Nat}:lstM [] ⟨σ,tm,n⟩= .ok (.lst n []) ⟨σ,tm,n+1⟩:=z8F (by rw[zl];simp)
theorem k1{σ tm:List (Option D)}{n:Nat}:lstM [a] ⟨σ,tm,n⟩= .ok (.lst n [a]) ⟨σ,tm,n+1⟩:=z8F (by rw[zl];simp)
theorem k2{σ tm:List (Option D)}{n:Nat}:lstM [a,b] ⟨σ,tm,n⟩= .ok (.lst n [a,b]) ⟨σ,tm,n+1⟩:=z8F (by rw[zl];simp)
theorem k3{σ tm:List (Option D)}{n:Nat}:lstM [a,b,c] ⟨σ,tm,n⟩= .ok (.lst n [a,b,c]) ⟨σ,tm,n+1⟩:=z8F (by rw[zl];simp)
theorem k4{σ tm:List (Option D)}{n:Nat}:lstM [a,b,c,d] ⟨σ,tm,n⟩= .ok (.lst n [a,b,c,d]) ⟨σ,tm,n+1⟩:=z8F (by rw[zl];simp)
end
noncomputable def B_1:=BA (BA (BA (BA @t0 (BA @t1 @t2)) (BA (BA @t3 @t4) (BA @k0 @k1))) (BA (BA (BA @k2 @k3) (BA @k4 @Bool.or_false)) (BA (BA @Bool.false_or @Bool.true_or) (BA @Bool.or_true @Bool.and_true)))) (BA (BA (BA @Bool.true_and (BA @Bool.and_false @Bool.false_and)) (BA (BA @at0 @at1) (BA @at2 @at3))) (BA (BA (BA @ziB @zga) (BA @zdU @zgb)) (BA (BA @zc6 @zc7) (BA @zgc @z6f))))
noncomputable def B_2:=BA @zbz @zbA
local macro_rules | `(tactic| walk_at "") => `(tactic| (simp (config := { dsimp := false }) only [B_0, B_1, B_2, isiD, z0a, asg, asgL, List.replicate, Nat.reduceAdd, Nat.reduceSub, String.reduceBEq, Int.reduceBEq]))
noncomputable def Bg(c x:Int):Prop:=0<=c/\0<=x/\x<2147483647
theorem z0p(l:Nat)(c x top:Int)(n:Nat)(h:Bg c x)(ht:0<top)(ht':top<1000000000000000000000000000000000000000000000000000000000001): ∃r c' x',0<=r/\r<top/\Bg c' x'/\z04 [.lst l [.int c, .int x], .int top] n= .ok (.int r) [.lst l [.int c', .int x'], .int top] n:=by
 unfold z04 z67
 obtain⟨h0,h1,h2⟩:=h
 by_cases hc:0<c
 ·refine⟨c %top,c/top,x,Int.emod_nonneg _ (by lia),Int.emod_lt_of_pos _ ht,⟨Int.ediv_nonneg h0 (by lia),h1,h2⟩, ?_⟩
  walk_at ""
  simp only[hc,decide_true]
  walk_at ""
  rw[z5f ht]
  walk_at ""
  rw[zc5 ⟨ht,by lia⟩]
  walk_at ""
  rw[zg9 (j:=0) rfl (by simp[labs])]
  walk_at ""
 ·have hx0:=Int.emod_nonneg (x*48271+7919) (show(2147483647:Int)≠0 by decide)
  have hx1:=Int.emod_lt_of_pos (x*48271+7919) (show(0:Int)<2147483647 by decide)
  generalize hy:(x*48271+7919) %2147483647=y at hx0 hx1
  refine⟨(y^(3:Int).toNat %2147483587/7*69621 %1073741789) %top,c,y,Int.emod_nonneg _ (by lia),Int.emod_lt_of_pos _ ht,⟨h0,hx0,hx1⟩, ?_⟩
  walk_at ""
  simp only[hc,decide_false]
  walk_at ""
  rw[za1 (.inl ⟨by lia,by lia⟩)]
  walk_at ""
  rw[z5f (by decide),hy]
  walk_at ""
  rw[zg9 (j:=1) rfl (by simp[labs])]
  walk_at ""
  rw[zby ⟨by decide,by decide,by lia⟩]
  walk_at ""
  rw[z5f (by decide)]
  walk_at ""
  rw[zc5 ⟨by decide,by decide⟩]
  walk_at ""
  rw[za1 (.inr ⟨by decide,by decide⟩)]
  walk_at ""
  rw[z5f (by decide)]
  walk_at ""
  rw[z5f ht]
  walk_at ""
noncomputable def B_3:=BA (BA @ziv @zc8) (BA @zgd @Int.zero_add)
local macro_rules | `(tactic| walk_at "") => `(tactic| (simp (config := { dsimp := false }) only [B_0, B_1, B_2, B_3, isiD, z0a, asg, asgL, List.replicate, Nat.reduceAdd, Nat.reduceSub, String.reduceBEq, Int.reduceBEq]))
theorem zca{ns:List Int}{a:Nat}(h:a<ns.length):atI (ns.map D.int) (a:Int)=some (.int ns[a]):=z5s (by lia) (by simp[h])
theorem zgm(ns:List Int)(a n:Nat)(ha:a<1000)(hl:ns.length<1000): ∃c x,Bg c x/\z4O [.ro (ns.map .int), .int a] n= .ok (.lst n [.int c, .int x]) [.ro (ns.map .int), .int a] (n+1):=by
 unfold z4O z7x
 walk_at ""
 have key: ∃c:Int,0<=c/\iteS (decide ((a:Int)<((ns.map D.int).length:Int))) (sAsg (Tg.nm 2) (mCB [mBin (mVar 0) (mVar 1) ixD] absD)) sNx ⟨[some (.ro (ns.map .int)),some (.int a),some (.int 0),none,none],[some (.ro (ns.map .int)),some (.int a)],n⟩= .nx ⟨[some (.ro (ns.map .int)),some (.int a),some (.int c),none,none],[some (.ro (ns.map .int)),some (.int a)],n⟩:=by
  by_cases h:a<ns.length
  ·refine⟨if ns[a]<0 then -ns[a] else ns[a], ?_, ?_⟩
   rotate_left
   ·rw[show decide ((a:Int)<((ns.map D.int).length:Int))=true by simp[h]]
    walk_at ""
    rw[zca h]
    walk_at ""
   ·split<;>lia
  ·refine⟨0,by decide, ?_⟩
   rw[show decide ((a:Int)<((ns.map D.int).length:Int))=false by simp;lia]
   walk_at ""
 obtain⟨c,hc,e1⟩:=key
 rw[e1]
 walk_at ""
 rw[z5f (by decide)]
 walk_at ""
 rw[za1 (.inl ⟨by decide,by decide⟩)]
 walk_at ""
 have q0:=Int.emod_nonneg c (show(2147483629:Int)≠0 by decide)
 have q1:=Int.emod_lt_of_pos c (show(0:Int)<2147483629 by decide)
 rw[zby ⟨by decide,by decide,by lia⟩]
 walk_at ""
 rw[z5f (by decide)]
 walk_at ""
 have w0:((ns.map D.int).length:Int)=ns.length:=by simp
 rw[w0]
 generalize hk:(if(60:Int)<(ns.length:Int) then(60:Int) else(ns.length:Int))=k
 have hk0:0<=k/\k<=60/\k<=ns.length:=by split at hk<;>lia
 rw[z5t ⟨by lia,by lia⟩]
 walk_at ""
 have p0:=Int.emod_nonneg ((c %2147483629+104729*(a:Int)+17)^(5:Int).toNat) (show(2147483647:Int)≠0 by decide)
 have p1:=Int.emod_lt_of_pos ((c %2147483629+104729*(a:Int)+17)^(5:Int).toNat) (show(0:Int)<2147483647 by decide)
 generalize (c %2147483629+104729*(a:Int)+17)^(5:Int).toNat %2147483647=x0 at p0 p1
 obtain⟨s',e2,x,o,hx0,hx1,rfl⟩:=z6g (P:=fun i s=> ∃(x:Int) (o:Option D),0<=x/\x<2147483647/\s=⟨[some (.ro (ns.map .int)),some (.int a),some (.int c),some (.int x),o],[some (.ro (ns.map .int)),some (.int a)],n⟩) (lo:=0) (N:=k.toNat) (g:= .nm 4) (b:=sAsg (.nm 3) (mBin (mBin (mBin (mBin (mVar 3) (mC (.int 48271)) mulD) (mBin (mBin (mBin (mVar 0) (mVar 4) ixD) (mC (.int 2147483587)) modD) (mBin (mVar 4) (mC (.int 3)) addD) mulD) addD) (mVar 4) addD) (mC (.int 2147483629)) modD)) (by
  rintro i hi s ⟨x,o,h0,h1,rfl⟩
  have hi':i<ns.length:=by lia
  refine⟨[some (.ro (ns.map .int)),some (.int a),some (.int c),some (.int x),some (.int i)],by simp only[Int.zero_add];rfl, ?_⟩
  refine⟨⟨[some (.ro (ns.map .int)),some (.int a),some (.int c),some (.int ((x*48271+ns[i] %2147483587*(i+3)+i) %2147483629)),some (.int i)],[some (.ro (ns.map .int)),some (.int a)],n⟩, ?_, ?_⟩
  ·walk_at ""
   rw[za1 (.inl ⟨by lia,by lia⟩)]
   walk_at ""
   rw[zca hi']
   walk_at ""
   rw[z5f (by decide)]
   walk_at ""
   rw[za1 (.inr ⟨by lia,by lia⟩)]
   walk_at ""
   rw[z5f (by decide)]
   walk_at ""
  ·have r0:=Int.emod_nonneg (x*48271+ns[i] %2147483587*(i+3)+i) (show(2147483629:Int)≠0 by decide)
   have r1:=Int.emod_lt_of_pos (x*48271+ns[i] %2147483587*(i+3)+i) (show(0:Int)<2147483629 by decide)
   exact⟨_,_,r0,by lia,rfl⟩) k.toNat 0 ⟨[some (.ro (ns.map .int)),some (.int a),some (.int c),some (.int x0),none],[some (.ro (ns.map .int)),some (.int a)],n⟩ (by lia) ⟨x0,none,p0,p1,rfl⟩
 rw[e2]
 walk_at ""
 rw[zby ⟨by decide,by decide,by decide⟩]
 walk_at ""
 by_cases h:c<10^(18:Int).toNat
 ·refine⟨0,x,⟨by decide,hx0,hx1⟩, ?_⟩
  simp only[h,decide_true]
  walk_at ""
 ·refine⟨c,x,⟨hc,hx0,hx1⟩, ?_⟩
  simp only[h,decide_false]
  walk_at ""
theorem zaa{l k:Nat}{d:D}{ds:List D}(h:k≠l):rp (pl l d) (.lst k ds)= .lst k (rpL (pl l d) ds):=by simp only[rp,pl,if_neg h]
mutual
noncomputable def Rs(n:Nat):D->Bool
 | .non=>true| .bool _=>true| .int _=>true| .str x=>PyData.strOk x
 | .tup ds=>decide (ds.length<=2000)&&RsL n ds
 | .lst l ds=>decide (n<=l)&&(decide (ds.length<=2000)&&RsL n ds)
 | .ro _=>false| .dct _ _ _=>false| .obj _ _ _ _=>false| .exc _=>false| .fn _=>false| .fdc _ _=>false
noncomputable def RsL(n:Nat):List D->Bool
 |[]=>true
 |d::ds=>Rs n d&&RsL n ds
end
noncomputable def Up(m:Nat)(t:D):Prop:= ∀k∈labs t,k<m
theorem zgn{α:Type}{ds:List α}{r:Int}(h0:0<=r)(h1:r<ds.length): ∃d∈ds,atI ds r=some d:=by
 have h:r.toNat<ds.length:=by lia
 exact⟨ds[r.toNat],List.getElem_mem h,z5s h0 (by simp[h])⟩
mutual
noncomputable def Tr:D->Bool
 | .non=>true| .bool _=>true| .int _=>true| .str x=>PyData.strOk x
 | .tup ds=>decide (ds.length<=900)&&TrL ds
 | .lst _ _=>false| .ro _=>false| .dct _ _ _=>false| .obj _ _ _ _=>false| .exc _=>false| .fn _=>false| .fdc _ _=>false
noncomputable def TrL:List D->Bool
 |[]=>true
 |d::ds=>Tr d&&TrL ds
end
theorem zab: ∀{ds:List D},TrL ds=true↔∀d∈ds,Tr d=true
 |[]=>by simp[TrL]
 |d::ds=>by simp only[TrL,Bool.and_eq_true,zab (ds:=ds),List.forall_mem_cons]
theorem zac{n:Nat}: ∀{ds:List D},RsL n ds=true↔∀d∈ds,Rs n d=true
 |[]=>by simp[RsL]
 |d::ds=>by simp only[RsL,Bool.and_eq_true,zac (ds:=ds),List.forall_mem_cons]
theorem z7z{k:Nat}: ∀{ds:List D},PyData.depthAll (erL ds)<=k↔∀d∈ds,(er d).depth<=k
 |[]=>by simp[erL,PyData.depthAll]
 |d::ds=>by simp only[erL,PyData.depthAll,List.forall_mem_cons,<-z7z (ds:=ds)];lia
mutual
theorem z7A: ∀t:D,Tr t=true->labs t=[]
 | .non,_=>rfl
 | .bool _,_=>rfl
 | .int _,_=>rfl
 | .str _,_=>rfl
 | .tup ds,h=>by simp only[Tr,Bool.and_eq_true] at h;simp only[labs];exact TrL_labs ds h.2
 | .lst _ _,h=>by simp[Tr] at h
 | .ro _,h=>by simp[Tr] at h
 | .dct _ _ _,h=>by simp[Tr] at h
 | .obj _ _ _ _,h=>by simp[Tr] at h
 | .exc _,h=>by simp[Tr] at h
 | .fn _,h=>by simp[Tr] at h
 | .fdc _ _,h=>by simp[Tr] at h
theorem TrL_labs: ∀t:List D,TrL t=true->labsL t=[]
 |[],_=>rfl
 |d::ds,h=>by simp only[TrL,Bool.and_eq_true] at h;simp only[labsL,z7A d h.1,TrL_labs ds h.2,List.append_nil]
end
mutual
theorem zgo{n:Nat}: ∀t:D,Tr t=true->Rs n t=true
 | .non,_=>rfl
 | .bool _,_=>rfl
 | .int _,_=>rfl
 | .str _,h=>by simpa[Tr,Rs] using h
 | .tup ds,h=>by
  simp only[Tr,Bool.and_eq_true,decide_eq_true_eq] at h;simp only[Rs,Bool.and_eq_true,decide_eq_true_eq];exact⟨by lia,TrL_rs ds h.2⟩
 | .lst _ _,h=>by simp[Tr] at h
 | .ro _,h=>by simp[Tr] at h
 | .dct _ _ _,h=>by simp[Tr] at h
 | .obj _ _ _ _,h=>by simp[Tr] at h
 | .exc _,h=>by simp[Tr] at h
 | .fn _,h=>by simp[Tr] at h
 | .fdc _ _,h=>by simp[Tr] at h
theorem TrL_rs{n:Nat}: ∀t:List D,TrL t=true->RsL n t=true
 |[],_=>rfl
 |d::ds,h=>by simp only[TrL,Bool.and_eq_true] at h;simp only[RsL,zgo d h.1,TrL_rs ds h.2,Bool.and_true]
end
mutual
theorem zdX{n:Nat}: ∀t:D,Rs n t=true->Gd t
 | .non,_=>⟨rfl,rfl⟩
 | .bool _,_=>⟨rfl,rfl⟩
 | .int _,_=>⟨rfl,rfl⟩
 | .str _,h=>⟨rfl,by simpa[Rs,er,PyData.canLay0] using h⟩
 | .tup ds,h=>by simp only[Rs,Bool.and_eq_true] at h;exact Gd.tup.mpr (RsL_gd ds h.2)
 | .lst _ ds,h=>by simp only[Rs,Bool.and_eq_true] at h;exact Gd.lst.mpr (RsL_gd ds h.2.2)
 | .ro _,h=>by simp[Rs] at h
 | .dct _ _ _,h=>by simp[Rs] at h
 | .obj _ _ _ _,h=>by simp[Rs] at h
 | .exc _,h=>by simp[Rs] at h
 | .fn _,h=>by simp[Rs] at h
 | .fdc _ _,h=>by simp[Rs] at h
theorem RsL_gd{n:Nat}: ∀t:List D,RsL n t=true->GdL t
 |[],_=>⟨rfl,rfl⟩
 |d::ds,h=>by simp only[RsL,Bool.and_eq_true] at h;exact GdL.cons.mpr ⟨zdX d h.1,RsL_gd ds h.2⟩
end
mutual
theorem zgp{n k:Nat}: ∀t:D,Rs n t=true->k∈labs t->n<=k
 | .non,_,h=>by simp[labs] at h
 | .bool _,_,h=>by simp[labs] at h
 | .int _,_,h=>by simp[labs] at h
 | .str _,_,h=>by simp[labs] at h
 | .tup ds,h,m=>by simp only[Rs,Bool.and_eq_true] at h;simp only[labs] at m;exact RsL_low ds h.2 m
 | .lst _ ds,h,m=>by
  simp only[Rs,Bool.and_eq_true,decide_eq_true_eq] at h
  simp only[labs,List.mem_cons] at m
  rcases m with rfl|m
  ·exact h.1
  ·exact RsL_low ds h.2.2 m
 | .ro _,h,_=>by simp[Rs] at h
 | .dct _ _ _,h,_=>by simp[Rs] at h
 | .obj _ _ _ _,h,_=>by simp[Rs] at h
 | .exc _,h,_=>by simp[Rs] at h
 | .fn _,h,_=>by simp[Rs] at h
 | .fdc _ _,h,_=>by simp[Rs] at h
theorem RsL_low{n k:Nat}: ∀t:List D,RsL n t=true->k∈labsL t->n<=k
 |[],_,h=>by simp[labsL] at h
 |d::ds,h,m=>by
  simp only[RsL,Bool.and_eq_true] at h
  simp only[labsL,List.mem_append] at m
  rcases m with m|m
  ·exact zgp d h.1 m
  ·exact RsL_low ds h.2 m
end
theorem zgq{n k l:Nat}{es:List D}(hn:n<=l)(hl:es.length<=2000)(h: ∀e∈es,Rs n e=true/\(er e).depth<=k):Rs n (.lst l es)=true/\(er (.lst l es)).depth<=k+1:=by
 refine⟨?_, ?_⟩
 ·simp only[Rs,Bool.and_eq_true,decide_eq_true_eq];exact⟨hn,hl,zac.mpr fun d m=>(h d m).1⟩
 ·simp only[er,PyData.depth];exact Nat.succ_le_succ (z7z.mpr fun d m=>(h d m).2)
theorem labsL_mem{k:Nat}: ∀{es:List D},k∈labsL es->∃e∈es,k∈labs e
 |e::es,h=>by
  simp only[labsL,List.mem_append] at h
  rcases h with h|h
  ·exact⟨e,List.mem_cons_self,h⟩
  ·obtain⟨e',h1,h2⟩:=labsL_mem h
   exact⟨e',List.mem_cons_of_mem _ h1,h2⟩
theorem ne_bool{b:Bool}{s:Stt}:neD (.bool b) (.bool b) s= .ok (.bool false) s:=by
 rw[y_ne (by simp[eqC,Mi.plain,er,PyData.canLay0,PyData.depth])];simp[er,PyData.eqv]
theorem z7B{y d:D}{s:Stt}(gy:Gd y)(gd:Gd d)(e:er y=er d)(hd:(er d).depth<=60):neD y d s= .ok (.bool false) s:=by
 rw[y_ne (by simp only[eqC,gy.1,gd.1,gy.2,gd.2,e,Bool.true_and,decide_eq_true_eq];lia),e,PySem.SeqAt.eqv_refl _ gd.2];rfl
theorem zbG{f:Nat->Option D}{o:Option D}{r:List (Option D)}:rpO f (o::r)=o.map (rp f)::rpO f r:=by cases o<;>rfl
noncomputable def UpO(n:Nat)(o:Option D):Prop:= ∀d,o=some d->Up n d
theorem UpO.fix{n:Nat}{o:Option D}(h:UpO n o)(d:D):Option.map (rp (pl n d)) o=o:=by
 cases o with
 |none=>rfl
 |some t=>simp only[Option.map_some];rw[z6e fun m=>Nat.lt_irrefl _ (h t rfl n m)]
theorem k5{a b c d e:D}{σ tm:List (Option D)}{n:Nat}:lstM [a,b,c,d,e] ⟨σ,tm,n⟩= .ok (.lst n [a,b,c,d,e]) ⟨σ,tm,n+1⟩:=z8F (by rw[zl];simp)
theorem z74{k:Nat}{es:List D}(hl:es.length<=900)(h: ∀e∈es,Tr e=true/\(er e).depth<=k):Tr (.tup es)=true/\(er (.tup es)).depth<=k+1:=by
 refine⟨?_, ?_⟩
 ·simp only[Tr,Bool.and_eq_true,decide_eq_true_eq];exact⟨hl,zab.mpr fun d m=>(h d m).1⟩
 ·simp only[er,PyData.depth];exact Nat.succ_le_succ (z7z.mpr fun d m=>(h d m).2)
theorem z49{k:Nat}{i:Int}:Tr (.int i)=true/\(er (.int i)).depth<=k:=⟨rfl,by simp[er,PyData.depth]⟩
theorem zad{k:Nat}{x:Str}(h:PyData.strOk x=true):Tr (.str x)=true/\(er (.str x)).depth<=k:=⟨h,by simp[er,PyData.depth]⟩
theorem ziC{i j:Int}{s:Stt}:neD (.int i) (.int j) s= .ok (.bool (!(i==j))) s:=by
 rw[y_ne (by simp[eqC,Mi.plain,er,PyData.canLay0,PyData.depth])];simp only[er,PyData.eqv]
noncomputable def iL(bs:List Int):List D:=bs.map D.int
structure Pz where
 e:Int
 ss:List Int
 k:Int
 c:Int
structure Cm where
 S:List Int
 C:List Pz
 b:Bool
noncomputable def sg(x:Str):List Nat:=x.cps.toList
theorem zae(x y:Str):sg (x++y)=sg x++sg y:=by unfold sg;rw[Str.cps_append,Array.toList_append]
theorem z4S{x y:Str}(h:sg x=sg y):x=y:=by
 obtain⟨a⟩:=x
 obtain⟨b⟩:=y
 exact congrArg Str.mk (Array.toList_inj.mp h)
theorem z1Q(x:Str):(sg x).length=x.length:=Array.length_toList
theorem z4T(c:Nat):sg ⟨#[c]⟩=[c]:=rfl
noncomputable def jn(c:List Nat):List (List Nat)->List Nat
 |[]=>[]
 |[x]=>x
 |x::y::r=>x++(c++jn c (y::r))
theorem z4U(z:Str): ∀(ys:List Str),sg (Txt.join z ys)=jn (sg z) (ys.map sg):=by
 intro ys
 show sg (Builtin.Str.glued z ys)=_
 rw[StrLaws.glued_eq_join]
 induction ys with
 |nil=>rfl
 |cons x r ih=>
  cases r with
  |nil=>rfl
  |cons y r=>
   show sg (x++z++z.join (y::r))=_
   rw[zae,zae,ih]
   simp only[List.map_cons,jn,List.append_assoc]
theorem cut1{c:Nat}: ∀{a b u v:List Nat},c∉a->c∉b->a++c::u=b++c::v->a=b/\u=v
 |[],[],u,v,_,_,h=>by simpa using h
 |[],y::b,u,v,_,hb,h=>by
  simp only[List.nil_append,List.cons_append,List.cons.injEq] at h
  exact absurd (by rw[h.1];simp) hb
 |x::a,[],u,v,ha,_,h=>by
  simp only[List.nil_append,List.cons_append,List.cons.injEq] at h
  exact absurd (by rw[<-h.1];simp) ha
 |x::a,y::b,u,v,ha,hb,h=>by
  simp only[List.cons_append,List.cons.injEq] at h
  obtain⟨h1,h2⟩:=cut1 (fun q=>ha (List.mem_cons_of_mem _ q)) (fun q=>hb (List.mem_cons_of_mem _ q)) h.2
  exact⟨by rw[h.1,h1],h2⟩
theorem cut0{c:Nat}{a b v:List Nat}(ha:c∉a):a≠b++c::v:=fun h=>ha (by rw[h];simp)
theorem zcb{c:Nat}: ∀{xs ys:List (List Nat)},xs≠[]->ys≠[]->(∀x∈xs,c∉x)->(∀y∈ys,c∉y)->jn [c] xs=jn [c] ys->xs=ys
 |[],_,h,_,_,_,_=>absurd rfl h
 |_::_,[],_,h,_,_,_=>absurd rfl h
 |[x],[y],_,_,_,_,h=>by simp only[jn] at h;rw[h]
 |[x],y::y'::ys,_,_,hx,_,h=>by
  simp only[jn,List.cons_append,List.nil_append] at h
  exact absurd h (cut0 (hx x (by simp)))
 |x::x'::xs,[y],_,_,_,hy,h=>by
  simp only[jn,List.cons_append,List.nil_append] at h
  exact absurd h.symm (cut0 (hy y (by simp)))
 |x::x'::xs,y::y'::ys,_,_,hx,hy,h=>by
  simp only[jn,List.cons_append,List.nil_append] at h
  obtain⟨h1,h2⟩:=cut1 (hx x (by simp)) (hy y (by simp)) h
  rw[h1,zcb (xs:=x'::xs) (ys:=y'::ys) (by simp) (by simp) (fun z hz=>hx z (List.mem_cons_of_mem _ hz)) (fun z hz=>hy z (List.mem_cons_of_mem _ hz)) h2]
theorem z2W{x y:Str}:Txt.split x y≠[]:=by
 unfold Txt.split
 split
 ·simp
 ·split
  ·simp
  ·intro h
   have:=congrArg List.length h
   rw[length_partsBetween] at this
   simp at this
theorem zcc: ∀{xs ys:List Str},xs.map sg=ys.map sg->xs=ys
 |[],[],_=>rfl
 |[],_::_,h=>by simp at h
 |_::_,[],h=>by simp at h
 |x::xs,y::ys,h=>by
  simp only[List.map_cons,List.cons.injEq] at h
  rw[z4S h.1,zcc h.2]
theorem zbH{x:Str}{c:Nat}{ys:List Str}(hn:ys≠[])(hf: ∀y∈ys,c∉sg y)(e:sg x=jn [c] (ys.map sg)):Txt.split x ⟨#[c]⟩=ys:=by
 refine zcc (zcb (c:=c) (by simp[z2W]) (by simpa using hn) (fun z hz=> ?_) (fun z hz=> ?_) ?_)
 ·obtain⟨p,hp,rfl⟩:=List.mem_map.mp hz
  exact StrLaws.split_free x c p hp
 ·obtain⟨p,hp,rfl⟩:=List.mem_map.mp hz
  exact hf p hp
 ·rw[<-e]
  have h:=z4U ⟨#[c]⟩ (Txt.split x ⟨#[c]⟩)
  rw[z4T] at h
  rw[<-h]
  show sg (Builtin.Str.glued _ _)=_
  rw[StrLaws.glued_eq_join,StrLaws.join_split]
noncomputable def num(i:Int):Str:=Str.ofString (toString i)
noncomputable def Dg(w:List Nat):Prop:= ∀c∈w,48<=c/\c<=57
theorem z7C(m:Nat):sg (num m)=(Nat.toDigits 10 m).map Char.toNat:=W.KIN.signs_num m
theorem zdY{m:Nat}(h:10<=m):Nat.toDigits 10 m=Nat.toDigits 10 (m/10)++[Nat.digitChar (m %10)]:=by
 have hm:m %10<10:=Nat.mod_lt m (by decide)
 have t:Nat.toDigits 10 (m/10)++Nat.toDigits 10 (m %10)=Nat.toDigits 10 (10*(m/10)+m %10):=Nat.toDigits_append_toDigits (by decide) (by lia) hm
 rw[Nat.div_add_mod,Nat.toDigits_of_lt_base hm] at t
 exact t.symm
theorem dc: ∀d:Nat,d<10->(Nat.digitChar d).toNat=48+d:=by decide
theorem z2T{m:Nat}(h:m<10):sg (num m)=[48+m]:=by
 rw[z7C,Nat.toDigits_of_lt_base h,List.map_singleton,dc m h]
theorem z6k{m:Nat}(h:10<=m):sg (num m)=sg (num ((m/10:Nat):Int))++[48+m %10]:=by
 rw[z7C,z7C,zdY h,List.map_append,List.map_singleton,dc _ (Nat.mod_lt _ (by decide))]
theorem zaf(m:Nat):Dg (sg (num m))/\sg (num m)≠[]/\(0<m->(sg (num m)).head? ≠some 48):=by
 induction m using Nat.strongRecOn with
 |_ m ih=>
  by_cases h:m<10
  ·rw[z2T h]
   refine⟨fun c hc=> ?_,by simp,fun h0=>by simp;lia⟩
   rw[List.mem_singleton.mp hc];lia
  ·obtain⟨h1,h2,h3⟩:=ih (m/10) (by lia)
   rw[z6k (by lia)]
   refine⟨fun c hc=> ?_,by simp,fun _=> ?_⟩
   ·rcases List.mem_append.mp hc with hc|hc
    ·exact h1 c hc
    ·rw[List.mem_singleton.mp hc];lia
   ·have h4:=h3 (by lia)
    cases e:sg (num ((m/10:Nat):Int)) with
    |nil=>exact absurd e h2
    |cons a r=>rw[e] at h4;simpa using h4
theorem z7D: ∀(k m:Nat),m<10^(k+1)->(sg (num m)).length<=k+1
 |0,m,h=>by rw[z2T (by simpa using h)];simp
 |k+1,m,h=>by
  by_cases hm:m<10
  ·rw[z2T hm];simp
  ·rw[z6k (by lia),List.length_append,List.length_singleton]
   have:=z7D k (m/10) (by rw[Nat.pow_succ] at h;lia)
   lia
theorem zgr{i:Int}(h:0<=i):Dg (sg (num i)):=by
 obtain⟨m,rfl⟩:=Int.eq_ofNat_of_zero_le h
 exact(zaf m).1
theorem zcd{i:Int}(h:0<=i)(h':i<100000):(num i).length<=5:=by
 obtain⟨m,rfl⟩:=Int.eq_ofNat_of_zero_le h
 rw[<-z1Q]
 exact z7D 4 m (by rw[show(10:Nat)^(4+1)=100000 from rfl];lia)
theorem z4V{i:Int}(h:0<=i)(h':i<100000):i.natAbs.log2<1920:=by
 have h1:i.natAbs<2^1920:=Nat.lt_of_lt_of_le (show i.natAbs<2^17 by rw[show(2:Nat)^17=131072 from rfl];lia) (Nat.pow_le_pow_right (by decide) (by decide))
 by_cases h0:i.natAbs=0
 ·rw[h0];decide
 ·exact(Nat.log2_lt h0).mpr h1
noncomputable def okN(w:Str):Bool:=decide (1<=w.length)&&(decide (w.length<=5)&&((sg w).all (fun c=>decide (48<=c/\c<=57))&& !((sg w).head? ==some 48&& !(w== "0"))))
noncomputable def z0y(w:Str):D:=if okN w=true then .int ((PySem.intText? w).getD 0) else .non
theorem z7E{K:ItK}{g:Tg}{b:MS}{P:Nat->Stt->Prop}{item:Nat->D}{N:Nat}(hat: ∀i s,P i s->K.at' i s.tm=some (if i<N then some (item i) else none))
 (body: ∀i,i<N->∀s,P i s->∃σ',asg g (item i) s.σ=some σ'/\∃s',b {s with σ:=σ'}= .nx s'/\P (i+1) s'):
 ∀(f i:Nat) (s:Stt),i+f=N->P i s->∃s',forGo K g b f i s= .nx (s'.popn K.k)/\P N s'
 |0,i,s,hi,h=>by
  have e:i=N:=by lia
  subst e
  exact⟨s,zdW (by rw[hat i s h,if_neg (Nat.lt_irrefl _)]),h⟩
 |f+1,i,s,hi,h=>by
  obtain⟨σ',h1,s1,h2,h3⟩:=body i (by lia) s h
  obtain⟨s2,h4,h5⟩:=z7E hat body f (i+1) s1 (by lia) h3
  exact⟨s2,by rw[zbF (by rw[hat i s h,if_pos (by lia)]) h1 h2,h4],h5⟩
theorem zgs{o:Option D}{σ tm:List (Option D)}{n:Nat}:Stt.popn ⟨σ,o::tm,n⟩ 1=⟨σ,tm,n⟩:=rfl
theorem rL_i(f:Nat->Option D)(s:List Int):rpL f (iL s)=iL s:=by
 induction s with
 |nil=>rfl
 |cons i s ih=>simp only[iL,List.map_cons,z6f,zc6] at ih⊢;rw[ih]
noncomputable def Fx(o:Option D):Prop:= ∀f,o.map (rp f)=o
theorem ziD:kTup.k=1:=rfl
theorem ziE:kLst.k=1:=rfl
theorem zgt{ds:List D}{i:Nat}{tm:List (Option D)}:kTup.at' i (some (.tup ds)::tm)=some (if i<ds.length then some (ds.getD i .non) else none):=by
 show some (ds[i]?)=_
 by_cases h:i<ds.length
 ·rw[if_pos h];simp[h]
 ·rw[if_neg h];simp[Nat.le_of_not_lt h]
theorem zgu{l:Nat}{ds:List D}{i:Nat}{tm:List (Option D)}:kLst.at' i (some (.lst l ds)::tm)=some (if i<ds.length then some (ds.getD i .non) else none):=by
 show some (ds[i]?)=_
 by_cases h:i<ds.length
 ·rw[if_pos h];simp[h]
 ·rw[if_neg h];simp[Nat.le_of_not_lt h]
theorem zag{K:ItK}{tg:Tg}{me:M D}{g:D->D}{sl:D->List (Option D)}{k:Nat}{items:List D}{its fr σ0 tm0:List (Option D)}{ol:Nat}(hk:its.length=K.k)(hol:σ0.length=ol)(hz:items.length<sizeLine)(hat: ∀i rest,K.at' i (its++rest)=some items[i]?)
 (has: ∀d∈items,(sl d).length=k/\∀os:List (Option D),os.length=k->asg tg d (os++fr)=some (sl d++fr))
 (hme: ∀d∈items,∀tm n,∃n',n<=n'/\me ⟨sl d++fr,tm,n⟩= .ok (g d) ⟨sl d++fr,tm,n'⟩):
 ∀(f i:Nat) (acc:List D) (os:List (Option D)) (n:Nat),os.length=k->i+f=items.length->acc.length<=i->∃n',n<=n'/\z1l K tg (rt true) me ol f i acc.length ⟨os++fr,(acc.reverse.map some)++(σ0++(its++tm0)),n⟩= .ok (.lst n' (acc++(items.drop i).map g)) ⟨σ0,tm0,n'+1⟩:=by
 intro f
 induction f with
 |zero=>
  intro i acc os n ho hi ha
  have hi:i=items.length:=by lia
  refine⟨n,Nat.le_refl _, ?_⟩
  have l1:(acc.reverse.map some).length=acc.length:=by simp
  have e1:((acc.reverse.map some)++(σ0++(its++tm0))).drop (acc.length+ol)=its++tm0:=by
   rw[<-List.append_assoc];exact z0E _ _ _ (by simp[hol])
  have e0:K.at' i (its++tm0)=some none:=by
   rw[hat,List.getElem?_eq_none (show items.length<=i by lia)]
  unfold z1l
  simp only[e1,e0]
  rw[z1P _ _ _ l1]
  have e2:(acc.reverse.map some).reverse=acc.map some:=by simp
  rw[e2,z1H]
  simp only[Res.ok.injEq,Stt.mk.injEq,and_true,List.drop_eq_nil_of_le (show items.length<=i by lia),List.map_nil,List.append_nil,true_and]
  constructor
  ·rw[z0E _ _ _ l1,z1P _ _ _ hol]
  ·have:((acc.reverse.map some)++(σ0++(its++tm0))).drop (acc.length+ol+K.k)=(((acc.reverse.map some)++(σ0++(its++tm0))).drop (acc.length+ol)).drop K.k:=by rw[List.drop_drop]
   rw[this,e1]
   exact z0E _ _ _ hk
 |succ f ih=>
  intro i acc os n ho hi ha
  have hlt:i<items.length:=by lia
  have e1:((acc.reverse.map some)++(σ0++(its++tm0))).drop (acc.length+ol)=its++tm0:=by
   rw[<-List.append_assoc];exact z0E _ _ _ (by simp[hol])
  have e0:K.at' i (its++tm0)=some (some items[i]):=by
   rw[hat,List.getElem?_eq_getElem hlt]
  obtain⟨a1,a2⟩:=has items[i] (List.getElem_mem hlt)
  rw[List.drop_eq_getElem_cons hlt]
  obtain⟨n2,hn2,h2⟩:=hme items[i] (List.getElem_mem hlt) ((acc.reverse.map some)++(σ0++(its++tm0))) n
  obtain⟨n3,hn3,h3⟩:=ih (i+1) (acc++[g items[i]]) (sl items[i]) n2 a1 (by lia) (by simp;lia)
  refine⟨n3,by lia, ?_⟩
  unfold z1l
  simp only[e1,e0,a2 os ho,rt]
  simp only[if_pos (show acc.length<sizeLine by lia),h2]
  simp only[List.length_append,List.length_cons,List.length_nil,Nat.zero_add,List.reverse_append,List.reverse_cons,List.reverse_nil,List.nil_append,List.map_append,List.map_cons,List.map_nil,List.cons_append,List.append_assoc] at h3⊢
  exact h3
theorem z2X{mi:M ItK}{K:ItK}{tg:Tg}{me:M D}{g:D->D}{sl:D->List (Option D)}{k:Nat}{items:List D}{its:List (Option D)}{ix:List Nat}{s:Stt}{σ tm:List (Option D)}{n:Nat}(hc:mi s= .ok K ⟨σ,its++tm,n⟩)(hk:its.length=K.k)(hz:items.length<sizeLine)(hat: ∀i rest,K.at' i (its++rest)=some items[i]?)(hlen:K.len (its++tm)=items.length)
 (has: ∀d∈items,(sl d).length=k/\∀os:List (Option D),os.length=k->asg tg d (os++(ix.map fun i=>(σ[i]?).getD none))=some (sl d++(ix.map fun i=>(σ[i]?).getD none)))
 (hme: ∀d∈items,∀tm n,∃n',n<=n'/\me ⟨sl d++(ix.map fun i=>(σ[i]?).getD none),tm,n⟩= .ok (g d) ⟨sl d++(ix.map fun i=>(σ[i]?).getD none),tm,n'⟩):
 ∃n',n<=n'/\z0w mi tg (rt true) me k ix s= .ok (.lst n' (items.map g)) ⟨σ,tm,n'+1⟩:=by
 obtain⟨n',h2,h3⟩:=zag (K:=K) (tg:=tg) (me:=me) (g:=g) (sl:=sl) (σ0:=σ) (tm0:=tm) hk rfl hz hat has hme items.length 0 [] (List.replicate k none) n (by simp) (by simp) (by simp)
 refine⟨n',h2, ?_⟩
 unfold z0w
 simp only[bd,hc,hlen]
 simp only[List.map_nil,List.reverse_nil,List.nil_append,List.length_nil,List.drop_zero] at h3
 exact h3
section
variable{s s1:Stt}{mo m:M D}{ms:List (M D)}{fs:List (Str⊕M D)}{g:Str->List D->M D}{z y:Str}{d:D}{l n:Nat}{σ tm:List (Option D)}
noncomputable def mthK(ms:List (M D))(g:Str->List D->M D)(x:D):M D:=match x with
 | .str z=>bd (mArgs ms) (g z)
 |_=>fl
theorem zgv:z1h mo ms g s=(mo s).bnd (mthK ms g):=(rfl)
theorem zgw:mthK ms g (.str z) s=(mArgs ms s).bnd (g z):=(rfl)
theorem z75(h:z.length<=sizeLine):lenS [.str z] s= .ok (.int z.length) s:=by simp only[lenS,if_pos h];rfl
theorem z8d: ∀(ys:List Str),z50 (ys.map D.str)=some ys
 |[]=>rfl
 |y::ys=>by simp only[List.map_cons,z50,z8d ys];rfl
theorem z4a{ys:List Str}(h:(ys.map (·.length)).sum+ys.length*z.length<=sizeLine):z3R z [.lst l (ys.map D.str)] s= .ok (.str (Txt.join z ys)) s:=by
 simp only[z3R,z8d,if_pos h];rfl
theorem z3p(h:(y.length==0)=false)(hz:z.length+2<=sizeLine):z1A z [.str y] ⟨σ,tm,n⟩= .ok (.lst n ((Txt.split z y).map D.str)) ⟨σ,tm,n+1⟩:=by
 simp only[z1A,if_pos (And.intro h hz)];rfl
end
theorem zce:sg ("0123456789" :Str)=List.range' 48 10:=by decide+kernel
theorem ziF{c:Nat}{s:Stt}:inS (.str ⟨#[c]⟩) (.str ("0123456789" :Str)) s= .ok (.bool (decide (48<=c/\c<=57))) s:=by
 unfold inS
 dsimp only
 rw[StrLaws.found_one,show("0123456789" :Str).cps.toList=List.range' 48 10 from zce]
 show Res.ok _ s=_
 congr 3
 rw[List.mem_range'_1,eq_iff_iff]
 lia
theorem ziG{w:Str}{c:Nat}{r:List Nat}{s:Stt}(h:sg w=c::r)(hw:w.length<=1000000):ixS (.str w) (.int 0) s= .ok (.str ⟨#[c]⟩) s:=by
 have h0:w.cps[0]? =some c:=by
  rw[<-Array.getElem?_toList]
  show(sg w)[0]? =_
  rw[h];rfl
 have hl:(0:Int)<w.length:=by rw[<-z1Q,h];simp
 unfold ixS
 dsimp only
 rw[if_pos ⟨by decide,by decide,hl⟩]
 show(match w.cps[0]? with|some c=>rt (.str ⟨#[c]⟩)|none=>fl:M D) s=_
 rw[h0]
 rfl
theorem zbI{w:Str}(h:(sg w).all (fun c=>decide (48<=c/\c<=57))=true)(h1:1<=w.length)(h2:w.length<=5): ∃n,PySem.intText? w=some n:=by
 refine⟨_,PySem.intText_digits (fun c hc=> ?_) (fun e=> ?_) (by lia)⟩
 ·exact of_decide_eq_true (List.all_eq_true.mp h c hc)
 ·have:=z1Q w
  unfold sg at this
  rw[e] at this
  simp at this
  lia
theorem z4o(w:Str):((sg w).map fun c=>D.str ⟨#[c]⟩).length=w.length:=by rw[List.length_map,z1Q]
noncomputable def digB:D->Bool
 | .str x=>(sg x).all fun c=>decide (48<=c/\c<=57)
 |_=>false
theorem z8e(c:Nat):digB (.str ⟨#[c]⟩)=decide (48<=c/\c<=57):=by
 simp[digB,z4T]
theorem zcf{w:Str}{i:Nat}{rest:List (Option D)}:(kStr w).at' i ([]++rest)=some ((sg w).map fun c=>D.str ⟨#[c]⟩)[i]? :=by
 show some ((w.cps[i]?).map _)=_
 rw[List.getElem?_map,<-Array.getElem?_toList]
 rfl
theorem zcg{w:Str}:(((sg w).map fun c=>D.str ⟨#[c]⟩).map digB).all id=(sg w).all fun c=>decide (48<=c/\c<=57):=by
 rw[List.all_map,List.all_map]
 congr 1
 funext c
 exact z8e c
theorem zdZ{x y:Str}{s:Stt}:eqS (.str x) (.str y) s= .ok (.bool (x==y)) s:=(rfl)
theorem zah{x y:Str}{s:Stt}:neS (.str x) (.str y) s= .ok (.bool (!(x==y))) s:=(rfl)
noncomputable def B_4:=BA (BA (BA (BA @qg1 (BA @qg2 @qg3)) (BA (BA @qg4 @qg5) (BA @qg6 @qg7))) (BA (BA (BA @qg8 @qg9) (BA @qg10 @qh1)) (BA (BA @qh2 @qh3) (BA @qh4 @qh5)))) (BA (BA (BA @qh6 (BA @qh7 @qh8)) (BA (BA @qh10 @x_bC) (BA @x_bV @x_c1))) (BA (BA (BA @x_a1 @x_a2) (BA @x_a3 @ziy)) (BA (BA @zgj @zc9) (BA @ziz @ziA))))
noncomputable def B_5:=BA (BA (BA @zdV @zbC) (BA @zbD @zbE)) (BA (BA @ziC @zbG) (BA @zgv @zgw))
local macro_rules | `(tactic| walk_at "") => `(tactic| (simp (config := { dsimp := false }) only [B_0, B_1, B_3, ↓B_4, B_5, isiD, z0a, asg, asgL, List.replicate, Nat.reduceAdd, Nat.reduceSub, String.reduceBEq, Int.reduceBEq]))
theorem ze0(w:Str)(hw:w.length<=1000000)(n:Nat): ∃n',n<=n'/\z0e [.str w] n= .ok (z0y w) [.str w] n':=by
 unfold z0e z1F
 walk_at ""
 rw[z75 (by rw[zl];lia)]
 walk_at ""
 have eA:decide (1<=(w.length:Int))=decide (1<=w.length):=by congr 1;simp only[eq_iff_iff];lia
 have eB:decide ((w.length:Int)<=5)=decide (w.length<=5):=by congr 1;simp only[eq_iff_iff];lia
 rw[eA]
 unfold z0y okN
 by_cases h1:1<=w.length
 ·rw[decide_eq_true h1]
  walk_at ""
  rw[eB]
  by_cases h5:w.length<=5
  ·rw[decide_eq_true h5]
   walk_at ""
   obtain⟨n1,g1,e1⟩:=z2X (mi:=z4G (mVar 0)) (K:=kStr w) (tg:= .nm 0) (me:=mBin (mVar 0) (mC (.str ("0123456789" :Str))) inS) (g:=fun d=> .bool (digB d)) (sl:=fun d=>[some d]) (k:=1) (items:=(sg w).map fun c=>D.str ⟨#[c]⟩) (its:=[]) (ix:=[]) (s:=⟨[some (.str w)],[some (.str w)],n⟩) (σ:=[some (.str w)]) (tm:=[some (.str w)]) (n:=n) rfl rfl (by rw[zl,z4o];lia) (fun i rest=>zcf) (by rw[z4o];rfl) (by
    intro d hd
    refine⟨rfl,fun os ho=> ?_⟩
    match os,ho with
    |[a0],_=>rfl) (by
    intro d hd tm n
    obtain⟨c,_,rfl⟩:=List.mem_map.mp hd
    refine⟨n,Nat.le_refl _, ?_⟩
    simp only[List.map_nil,List.append_nil]
    walk_at ""
    rw[ziF,z8e])
   rw[e1]
   walk_at ""
   rw[zdS (z6Y _ digB)]
   walk_at ""
   cases ha:(sg w).all fun c=>decide (48<=c/\c<=57) with
   |false=>
    refine⟨n1+1,by lia, ?_⟩
    rw[zcg,ha]
    walk_at ""
    rfl
   |true=>
    refine⟨n1+1,by lia, ?_⟩
    rw[zcg,ha]
    walk_at ""
    obtain⟨c,r,hc⟩: ∃c r,sg w=c::r:=by
     cases e:sg w with
     |nil=>rw[<-z1Q,e] at h1;simp at h1
     |cons c r=>exact⟨c,r,rfl⟩
    rw[ziG hc hw]
    walk_at ""
    obtain⟨v,hv⟩:=zbI ha h1 h5
    have ei: ∀s:Stt,intS [.str w] s= .ok (.int v) s:=fun s=>by simp only[intS,if_pos (show w.length<=640 by lia),hv];rfl
    rw[hc]
    simp only[List.head?_cons,zdZ,zah]
    have e0:((⟨#[c]⟩:Str)==Str.ofString "0")=(some c==some 48):=by
     rw[Bool.eq_iff_iff,beq_iff_eq,beq_iff_eq]
     constructor
     ·intro h
      have:=congrArg sg h
      rw[z4T,show sg (Str.ofString "0")=[48] by decide+kernel] at this
      simpa using this
     ·intro h
      cases h
      exact z4S (by rw[z4T];decide+kernel)
    rw[e0]
    walk_at ""
    rcases Bool.eq_false_or_eq_true (some c==some 48) with hq|hq
    ·simp only[hq]
     walk_at ""
     simp only[zah]
     walk_at ""
     rcases Bool.eq_false_or_eq_true (w==Str.ofString "0") with hr|hr
     ·simp only[hr]
      walk_at ""
      rw[ei,hv]
      walk_at ""
      rfl
     ·simp only[hr]
      walk_at ""
      rfl
    ·simp only[hq]
     walk_at ""
     rw[ei,hv]
     walk_at ""
     rfl
  ·rw[decide_eq_false h5]
   refine⟨n,Nat.le_refl _, ?_⟩
   walk_at ""
   rfl
 ·rw[decide_eq_false h1]
  refine⟨n,Nat.le_refl _, ?_⟩
  walk_at ""
  rfl
noncomputable def z6l:D->Bool
 | .non=>true
 |_=>false
noncomputable def rE:D->D
 | .str x=>z0y x
 |_=> .non
theorem z4p(w:Str):z0y w= .non\/∃i:Int,z0y w= .int i:=by
 unfold z0y
 split
 ·exact .inr ⟨_,rfl⟩
 ·exact .inl rfl
noncomputable def Nn(ds:List D):Prop:= ∀d∈ds,d= .non\/∃i:Int,d= .int i
theorem zgx: ∀{ds:List D},Nn ds->Mi.plainL ds=true/\PyData.canLayAll0 (erL ds)=true/\((erL ds).any fun y=>PyData.eqv y (er .non))=ds.any z6l
 |[],_=>⟨rfl,rfl,rfl⟩
 |d::ds,h=>by
  obtain⟨h1,h2,h3⟩:=zgx (ds:=ds) fun e he=>h e (by simp[he])
  rcases h d (by simp) with rfl|⟨i,rfl⟩
  ·refine⟨by simp only[Mi.plainL,Mi.plain,h1];rfl,by simp only[erL,er,PyData.canLayAll0,PyData.canLay0,h2];rfl, ?_⟩
   simp only[erL,List.any_cons,h3,z6l,er,PyData.eqv]
   rfl
  ·refine⟨by simp only[Mi.plainL,Mi.plain,h1];rfl,by simp only[erL,er,PyData.canLayAll0,PyData.canLay0,h2];rfl, ?_⟩
   rw[erL,List.any_cons,List.any_cons,h3]
   rfl
theorem ziH{l:Nat}{ds:List D}{s:Stt}(h:Nn ds):inD .non (.lst l ds) s= .ok (.bool (ds.any z6l)) s:=by
 obtain⟨h1,h2,h3⟩:=zgx h
 rw[y_in (ds:=ds) rfl (by
  simp only[inC,h1,h2,Mi.plain,er,PyData.canLay0,Bool.and_self,Bool.true_and,decide_eq_true_eq,PyData.depth]
  exact Nat.le_trans (Nat.min_le_right _ _) (by decide)),h3]
noncomputable def z0F(w:Str):D:=if(((Txt.split w (Str.ofString ".")).map z0y).any z6l)=true then .non else .tup ((Txt.split w (Str.ofString ".")).map z0y)
theorem zai(ys:List Str):(ys.map D.str).map rE=ys.map z0y:=by rw[List.map_map];rfl
theorem z1I{w y:Str}(hw:w.length<=1000000):(Txt.split w y).length<=1000002:=by
 unfold Txt.split
 split
 ·simp
 ·split
  ·simp
  ·have e1:=StrLaws.occ_length_le w y 0 w.length (w.length+1)
   rw[length_partsBetween]
   lia
theorem p_sh{x y a:Str}(h:a∈Txt.split x y):a.length<=x.length:=PyProof.Rows.part_short h
theorem sep1(c:Nat)(x:Str)(h:sg x=[c]):x=⟨#[c]⟩/\(x.length==0)=false:=by
 have e:x=⟨#[c]⟩:=z4S (by rw[h];rfl)
 exact⟨e,by rw[e];rfl⟩
theorem zbJ:sg (Str.ofString ".")=[46]:=by decide+kernel
theorem z8L:sg (Str.ofString ":")=[58]:=by decide+kernel
theorem zch:((Str.ofString ".").length==0)=false:=(sep1 _ _ zbJ).2
theorem zci:((Str.ofString ":").length==0)=false:=(sep1 _ _ z8L).2
theorem zgy(w:Str)(hw:w.length<=1000000)(n:Nat): ∃n',n<=n'/\z0l [.str w] n= .ok (z0F w) [.str w] n':=by
 have hc:=z1I (y:=Str.ofString ".") hw
 obtain⟨n1,g1,e1⟩:=z2X (mi:=z0L (z1h (mVar 0) [(mC (.str ("." :Str)))] z1A)) (K:=kLst) (tg:= .nm 0) (me:=z02 z0e [(mVar 0)]) (g:=rE) (sl:=fun d=>[some d]) (k:=1) (items:=(Txt.split w (Str.ofString ".")).map D.str) (its:=[some (.lst n ((Txt.split w (Str.ofString ".")).map D.str))]) (ix:=[]) (s:=⟨[some (.str w),none],[some (.str w)],n⟩) (σ:=[some (.str w),none]) (tm:=[some (.str w)]) (n:=n+1) (za5 (by
  walk_at ""
  rw[z3p zch (by rw[zl];lia)]
  rfl)) rfl (by rw[zl,List.length_map];lia) (fun i rest=>rfl) rfl (by
  intro d hd
  refine⟨rfl,fun os ho=> ?_⟩
  match os,ho with
  |[a0],_=>rfl) (by
  intro d hd tm n
  obtain⟨p,hp,rfl⟩:=List.mem_map.mp hd
  obtain⟨n',h1,e⟩:=ze0 p (Nat.le_trans (p_sh hp) hw) n
  refine⟨n',h1, ?_⟩
  simp only[List.map_nil,List.append_nil]
  walk_at ""
  rw[e]
  walk_at ""
  rfl)
 rw[zai] at e1
 have hN:Nn ((Txt.split w (Str.ofString ".")).map z0y):=fun d hd=>by
  obtain⟨p,_,rfl⟩:=List.mem_map.mp hd
  exact z4p p
 refine⟨n1+1,by lia, ?_⟩
 unfold z0l z1G
 walk_at ""
 rw[e1]
 walk_at ""
 rw[ziH hN]
 unfold z0F
 cases((Txt.split w (Str.ofString ".")).map z0y).any z6l with
 |true=>walk_at "";rfl
 |false=>walk_at "";rfl
theorem ze1:sg (Str.ofString "")=[]:=rfl
section
variable{s:Stt}{m:M D}{z:Str}{l:Nat}{ds:List D}
theorem zgz{lo hi:Option (M D)}:mSlS m lo hi s=(m s).bnd fun x s1=>(z2Y lo (s1.psh x)).bnd fun l s2=>(z2Y hi s2).bnd fun h s3=>(pop s3).bnd fun x' s4=>slS x' l h s4:=(rfl)
theorem zgA{lo hi:Option Int}(h:z.length<=sizeLine):slS (.str z) lo hi s= .ok (.str (Txt.slice z lo hi)) s:=by simp only[slS,if_pos h];rfl
theorem ze2:lenS [.lst l ds] s= .ok (.int ds.length) s:=(rfl)
theorem zgB{i j:Int}:addE (.int i) (.int j) s= .ok (.int (i+j)) s:=(rfl)
end
theorem z5w{i:Int}{s:Stt}(h:i.natAbs.log2<1920):strA [.int i] s= .ok (.str (num i)) s:=by simp only[strA,if_pos h];rfl
noncomputable def Nm(s:List Int):Prop:= ∀i∈s,0<=i/\i<100000
noncomputable def dt(s:List Int):Str:=Txt.join (Str.ofString ".") (s.map num)
theorem zaj(s:List Int):(iL s).map (fun d=>match d with| .int i=>D.str (num i)|_=> .non)=(s.map num).map D.str:=by
 unfold iL
 rw[List.map_map,List.map_map]
 rfl
theorem zgC{z:Str}{ys:List Str}{B:Nat}(h: ∀y∈ys,y.length<=B):(Txt.join z ys).length<=ys.length*(B+z.length)/\(ys.map (·.length)).sum+ys.length*z.length<=ys.length*(B+z.length):=by
 have h1:=StrLaws.join_length_le z ys
 have h2:=StrLaws.sumLen_le ys h
 have e:Txt.join z ys=z.join ys:=StrLaws.glued_eq_join z ys
 rw[e]
 have h3:ys.length*(B+z.length)=ys.length*B+ys.length*z.length:=Nat.mul_add _ _ _
 lia
theorem zgD{s:List Int}(h:Nm s): ∀y∈s.map num,y.length<=5:=fun y hy=>by
 obtain⟨i,hi,rfl⟩:=List.mem_map.mp hy
 exact zcd (h i hi).1 (h i hi).2
theorem zgE:(Str.ofString ".").length=1:=by rw[<-z1Q,zbJ];rfl
theorem zcj{s:List Int}(h:Nm s)(hl:s.length<=24):(dt s).length<=144/\((s.map num).map (·.length)).sum+(s.map num).length*(Str.ofString ".").length<=144:=by
 have:=zgC (z:=Str.ofString ".") (zgD h)
 rw[zgE,List.length_map] at this
 unfold dt
 rw[zgE,List.length_map]
 lia
noncomputable def gN:D->D:=fun d=>match d with| .int i=>D.str (num i)|_=> .non
theorem zck{x y:Str}{s:Stt}(h:x.length+y.length<=sizeLine):addD (.str x) (.str y) s= .ok (.str (x++y)) s:=by simp only[addD,if_pos h];rfl
theorem ziI:(Str.ofString "").length=0:=rfl
theorem zcl{c:List Nat}{x:Nat}: ∀{xs:List (List Nat)},x∈jn c xs->x∈c\/∃y∈xs,x∈y
 |[],h=>nomatch h
 |[y],h=> .inr ⟨y,by simp,h⟩
 |y::z::r,h=>by
  simp only[jn,List.mem_append] at h
  rcases h with h|h|h
  ·exact .inr ⟨y,by simp,h⟩
  ·exact .inl h
  ·rcases zcl h with h|⟨w,hw,h⟩
   ·exact .inl h
   ·exact .inr ⟨w,List.mem_cons_of_mem _ hw,h⟩
theorem ziJ(s:List Int):sg (dt s)=jn [46] ((s.map num).map sg):=by unfold dt;rw[z4U,zbJ]
noncomputable def Lo(x:List Nat):Prop:= ∀c∈x,c<128
theorem ze3{z:List Nat}{xs:List (List Nat)}(hz:Lo z)(h: ∀x∈xs,Lo x):Lo (jn z xs):=fun c hc=>by
 rcases zcl hc with q|⟨y,hy,q⟩
 ·exact hz c q
 ·exact h y hy c q
theorem zak{i:Int}(h:0<=i):Lo (sg (num i)):=fun c hc=>by have:=zgr h c hc;lia
theorem ziK{s:List Int}(h:Nm s):Lo (sg (dt s)):=by
 rw[ziJ]
 refine ze3 (by simp[Lo]) fun x hx=> ?_
 rw[List.map_map] at hx
 obtain⟨i,hi,rfl⟩:=List.mem_map.mp hx
 exact zak (h i hi).1
theorem zcm{α:Type}(p:α->Bool): ∀l:List α,(l.takeWhile p).length=l.length->∀a∈l,p a=true
 |[],_,a,h=>nomatch h
 |x::l,e,a,h=>by
  rw[List.takeWhile_cons] at e
  cases hx:p x with
  |false=>rw[hx] at e;simp at e
  |true=>
   rw[hx] at e
   simp only[if_true,List.length_cons,Nat.add_right_cancel_iff] at e
   rcases List.mem_cons.mp h with rfl|h
   ·exact hx
   ·exact zcm p l e a h
theorem zcn{α:Type}(p:α->Bool): ∀l:List α,(∀a∈l,p a=true)->l.takeWhile p=l
 |[],_=>rfl
 |x::l,h=>by
  rw[List.takeWhile_cons,h x (by simp),if_pos rfl,zcn p l fun a ha=>h a (by simp[ha])]
theorem zal{α:Type}(p:α->Bool): ∀l:List α,∀a∈l.take (l.takeWhile p).length,p a=true
 |[],a,h=>by simp at h
 |x::l,a,h=>by
  rw[List.takeWhile_cons] at h
  cases hx:p x with
  |false=>rw[hx] at h;simp at h
  |true=>
   rw[hx] at h
   simp only[if_true,List.length_cons,List.take_succ_cons] at h
   rcases List.mem_cons.mp h with rfl|h
   ·exact hx
   ·exact zal p l a h
theorem z76(w y:Str):(Txt.stripChars w y==Str.ofString "")=(sg w).all fun c=>y.cps.contains c:=by
 unfold Txt.stripChars
 rw[PyProof.Rows.stripBy_eq,Bool.eq_iff_iff,beq_iff_eq,List.all_eq_true]
 generalize y.cps.contains=p
 have hlen:(sg w).length=w.length:=z1Q w
 have hlo:stripLo p true w=((sg w).takeWhile p).length:=rfl
 have hhi: ∀lo,stripHi p true w lo=w.length -(((sg w).drop lo).reverse.takeWhile p).length:=fun _=>rfl
 have tl:((sg w).takeWhile p).length<=w.length:=by rw[<-hlen];exact(List.takeWhile_prefix p).length_le
 constructor
 ·intro h
  have h1:(w.cps.extract (stripLo p true w) (stripHi p true w (stripLo p true w))).size=0:=congrArg Str.length h
  rw[Array.size_extract,hhi,hlo] at h1
  have hw:w.cps.size=w.length:=rfl
  generalize hk:((sg w).takeWhile p).length=k at*
  have h2:(((sg w).drop k).reverse.takeWhile p).length<=((sg w).drop k).reverse.length:=(List.takeWhile_prefix p).length_le
  rw[List.length_reverse,List.length_drop,hlen] at h2
  have h3:(((sg w).drop k).reverse.takeWhile p).length=((sg w).drop k).reverse.length:=by
   rw[List.length_reverse,List.length_drop,hlen]
   lia
  intro c hc
  rw[<-List.take_append_drop k (sg w)] at hc
  rcases List.mem_append.mp hc with hc|hc
  ·rw[<-hk] at hc
   exact zal p (sg w) c hc
  ·exact zcm p _ h3 c (List.mem_reverse.mpr hc)
 ·intro h
  have e:((sg w).takeWhile p).length=w.length:=by rw[zcn p _ h,hlen]
  refine z4S ?_
  show(w.cps.extract (stripLo p true w) (stripHi p true w (stripLo p true w))).toList=[]
  rw[<-List.length_eq_zero_iff,Array.length_toList,Array.size_extract,hhi,hlo,e]
  have hw:w.cps.size=w.length:=rfl
  lia
theorem ze4(c:Nat):("0123456789" :Str).cps.contains c=decide (48<=c/\c<=57):=by
 rw[<-Array.contains_toList,show("0123456789" :Str).cps.toList=List.range' 48 10 from zce,Bool.eq_iff_iff,List.contains_iff_mem,List.mem_range'_1,decide_eq_true_iff]
 lia
theorem zam(w:Str):(Txt.stripChars w (Str.ofString "0123456789")==Str.ofString "")=(sg w).all fun c=>decide (48<=c/\c<=57):=by
 rw[z76]
 congr 1
 funext c
 exact ze4 c
theorem z8f(ds:List Nat)(d:Nat):PySem.NumText.digitsVal (ds++[d])=PySem.NumText.digitsVal ds*10+(d - 48):=by
 unfold PySem.NumText.digitsVal
 rw[List.foldl_append]
 rfl
theorem zan: ∀(k:Nat) (ds:List Nat),ds.length=k+1->Dg ds->ds.head? ≠some 48->0<PySem.NumText.digitsVal ds/\sg (num (PySem.NumText.digitsVal ds:Nat))=ds
 |0,ds,hl,hd,hh=>by
  match ds,hl with
  |[d],_=>
   have:=hd d (by simp)
   have h0:d≠48:=fun e=>hh (by rw[e];rfl)
   have e:PySem.NumText.digitsVal [d]=d - 48:=by simp[PySem.NumText.digitsVal]
   rw[e]
   refine⟨by lia, ?_⟩
   rw[z2T (by lia)]
   congr 1
   lia
 |k+1,ds,hl,hd,hh=>by
  obtain⟨es,d,rfl⟩: ∃es d,ds=es++[d]:=⟨ds.dropLast,ds.getLast (by intro e;rw[e] at hl;simp at hl),(List.dropLast_concat_getLast _).symm⟩
  have hd':=hd d (by simp)
  have hes:es.length=k+1:=by simpa using hl
  have hh':es.head? ≠some 48:=by
   match es,hes with
   |a::r,_=>simpa using hh
  obtain⟨h1,h2⟩:=zan k es hes (fun c hc=>hd c (by simp[hc])) hh'
  rw[z8f]
  refine⟨by lia, ?_⟩
  rw[z6k (by lia),show(PySem.NumText.digitsVal es*10+(d - 48))/10=PySem.NumText.digitsVal es by lia,h2,show 48+(PySem.NumText.digitsVal es*10+(d - 48)) %10=d by lia]
theorem zco: ∀(k:Nat) (ds:List Nat),ds.length=k->Dg ds->PySem.NumText.digitsVal ds<10^k
 |0,ds,hl,_=>by
  rw[List.length_eq_zero_iff.mp hl]
  exact Nat.one_pos
 |k+1,ds,hl,hd=>by
  obtain⟨es,d,rfl⟩: ∃es d,ds=es++[d]:=⟨ds.dropLast,ds.getLast (by intro e;rw[e] at hl;simp at hl),(List.dropLast_concat_getLast _).symm⟩
  have hd':=hd d (by simp)
  have h1:=zco k es (by simpa using hl) (fun c hc=>hd c (by simp[hc]))
  rw[z8f,Nat.pow_succ]
  lia
theorem z6m{w:Str}(h:(sg w).all (fun c=>decide (48<=c/\c<=57))=true)(h1:1<=w.length)(h5:w.length<=5): ∃v:Nat,v<100000/\PySem.intText? w=some (v:Int)/\(num v==w)= !((sg w).head? ==some 48&& !(w== "0")):=by
 have hd:Dg (sg w):=fun c hc=>of_decide_eq_true (List.all_eq_true.mp h c hc)
 have hl:=z1Q w
 have hne:sg w≠[]:=fun e=>by rw[e] at hl;simp at hl;lia
 refine⟨PySem.NumText.digitsVal (sg w),Nat.lt_of_lt_of_le (zco _ _ rfl hd) (Nat.le_trans (Nat.pow_le_pow_right (by decide) (show(sg w).length<=5 by lia)) (by decide)),PySem.intText_digits hd hne (by lia), ?_⟩
 by_cases hh:(sg w).head? =some 48
 ·rw[hh]
  simp only[beq_self_eq_true,Bool.true_and,Bool.not_not]
  rw[Bool.eq_iff_iff,beq_iff_eq,beq_iff_eq]
  constructor
  ·intro e
   have e2:=congrArg sg e
   have h3:=(zaf (PySem.NumText.digitsVal (sg w))).2.2
   rw[e2] at h3
   have h0:PySem.NumText.digitsVal (sg w)=0:=by
    by_cases hz:0<PySem.NumText.digitsVal (sg w)
    ·exact absurd hh (h3 hz)
    ·lia
   rw[<-e,h0]
   exact z4S (by rw[z2T (by decide)];decide+kernel)
  ·intro e
   rw[e]
   exact z4S (by decide+kernel)
 ·have h2:=(zan ((sg w).length - 1) (sg w) (by lia) hd hh).2
  rw[show((sg w).head? ==some 48)=false from beq_eq_false_iff_ne.mpr hh,Bool.false_and,Bool.not_false,beq_iff_eq]
  exact z4S h2
noncomputable def lawN(w:Str):D:=match z0y w with
 | .int i=> .int i
 |_=> .int (-1)
theorem zgF{w y:Str}{s:Stt}(h:w.length<=sizeLine):txS w [.str y] s= .ok (.str (Txt.stripChars w y)) s:=by simp only[txS,if_pos h];rfl
noncomputable def lawI(w:Str):Int:=match z0y w with
 | .int i=>i
 |_=> -1
theorem zao(w:Str):lawN w= .int (lawI w):=by
 unfold lawN lawI
 rcases z4p w with h|⟨i,h⟩<;>rw[h]
theorem zcp(w:Str): -1<=lawI w/\lawI w<100000:=by
 unfold lawI z0y
 by_cases h:okN w=true
 ·rw[if_pos h]
  unfold okN at h
  simp only[Bool.and_eq_true,decide_eq_true_eq] at h
  obtain⟨v,hv,ev,_⟩:=z6m h.2.2.1 h.1 h.2.1
  rw[ev]
  exact⟨by show(-1:Int)<=(v:Int);lia,by show(v:Int)<100000;lia⟩
 ·rw[if_neg h]
  exact⟨by decide,by decide⟩
noncomputable def lawD(w:Str):List Int:=(Txt.split w (Str.ofString ".")).map lawI
theorem zcq{z:List Nat}{c:Nat}: ∀{xs:List (List Nat)} {y:List Nat},y∈xs->c∈y->c∈jn z xs
 |[x],y,hy,hc=>by
  rw[List.mem_singleton.mp hy] at hc
  exact hc
 |x::x'::xs,y,hy,hc=>by
  simp only[jn,List.mem_append]
  rcases List.mem_cons.mp hy with rfl|hy
  ·exact .inl hc
  ·exact .inr (.inr (zcq hy hc))
theorem z8g(x:Str)(c:Nat):sg x=jn [c] ((Txt.split x ⟨#[c]⟩).map sg):=by
 have h:=z4U ⟨#[c]⟩ (Txt.split x ⟨#[c]⟩)
 rw[z4T] at h
 rw[<-h]
 show _=sg (Builtin.Str.glued _ _)
 rw[StrLaws.glued_eq_join,StrLaws.join_split]
theorem z6n{x:Str}{c:Nat}(h:Lo (sg x)): ∀p∈Txt.split x ⟨#[c]⟩,Lo (sg p):=fun p hp d hd=>h d (by
 rw[z8g x c]
 exact zcq (List.mem_map.mpr ⟨p,hp,rfl⟩) hd)
theorem z7F{x:Str}(h:Lo (sg x)):(er (.str x)).canLay0=true:=by
 simp only[er,PyData.canLay0,PyData.strOk,Array.all_eq_true',decide_eq_true_eq]
 intro c hc
 have:=h c (by unfold sg;simpa using hc)
 lia
noncomputable def Tx(B:Nat)(y:Str):Prop:=y.length<=B/\Lo (sg y)
theorem Tx.app{A B:Nat}{x y:Str}(h:Tx A x)(h':Tx B y):Tx (A+B) (x++y):=⟨by rw[Str.length_append];have:=h.1;have:=h'.1;lia,by
 rw[zae]
 intro c hc
 rcases List.mem_append.mp hc with hc|hc
 ·exact h.2 c hc
 ·exact h'.2 c hc⟩
theorem Tx.up{A B:Nat}{x:Str}(h:Tx A x)(hB:A<=B):Tx B x:=⟨Nat.le_trans h.1 hB,h.2⟩
theorem zgG(x:Str)(l u:Option Int): ∀c∈sg (Txt.slice x l u),c∈sg x:=by
 intro c hc
 unfold Txt.slice at hc
 split at hc
 ·exact hc
 ·simp only[sg,List.mem_filterMap] at hc
  obtain⟨i,_,hi⟩:=hc
  rw[<-Array.getElem?_toList] at hi
  exact List.mem_iff_getElem?.mpr ⟨i,hi⟩
theorem Tx.sl{A:Nat}{x:Str}(h:Tx A x)(l u:Option Int):Tx A (Txt.slice x l u):=⟨Nat.le_trans (Txt.slice_le x l u) h.1,fun c hc=>h.2 c (zgG x l u c hc)⟩
theorem z2E{α β:Type}(f:α->β)(l:List α)(lo hi:Option Int):cutA (l.map f) lo hi=(cutA l lo hi).map f:=by
 unfold cutA
 rw[List.length_map,List.map_take,List.map_drop]
theorem ze5{α:Type}{l:List α}{lo hi:Option Int}{x:α}(h:x∈cutA l lo hi):x∈l:=List.mem_of_mem_drop (List.mem_of_mem_take h)
theorem z6o{α:Type}(l:List α)(lo hi:Option Int):(cutA l lo hi).length<=l.length:=by
 unfold cutA
 rw[List.length_take,List.length_drop]
 lia
theorem ze6{i:Int}(h:0<=i)(h':i<10^61):i.natAbs.log2<1920:=by
 have h1:i.natAbs<2^1920:=Nat.lt_of_lt_of_le (show i.natAbs<10^61 by lia) (Nat.le_trans (show(10:Nat)^61<=2^203 by decide+kernel) (Nat.pow_le_pow_right (by decide) (by decide)))
 by_cases h0:i.natAbs=0
 ·rw[h0];decide
 ·exact(Nat.log2_lt h0).mpr h1
theorem zgH{i:Int}(h:0<=i)(h':i<10^61):Tx 61 (num i):=by
 refine⟨?_,zak h⟩
 obtain⟨m,rfl⟩:=Int.eq_ofNat_of_zero_le h
 rw[<-z1Q]
 exact z7D 60 m (by lia)
theorem ze7{i:Int}{s:Stt}(h:0<=i)(h':i<10^61):strA [.int i] s= .ok (.str (num i)) s:=z5w (ze6 h h')
noncomputable def Wz(ws:List Str):Nat:=(ws.map (·.length)).sum+ws.length
theorem z4W(a b:List Str):Wz (a++b)=Wz a+Wz b:=by simp only[Wz,List.map_append,List.sum_append,List.length_append];lia
theorem zgI(w:Str):Wz [w]=w.length+1:=by simp[Wz]
theorem z7G(ws:List Str)(k:Nat):Wz (ws.take k)+Wz (ws.drop k)=Wz ws:=by
 rw[<-z4W,List.take_append_drop]
theorem zap{c:Nat}: ∀{xs:List (List Nat)},xs≠[]->(jn [c] xs).length+1=(xs.map List.length).sum+xs.length
 |[],h=>absurd rfl h
 |[x],_=>by simp[jn]
 |x::y::r,_=>by
  have:=zap (c:=c) (xs:=y::r) (by simp)
  simp only[jn,List.length_append,List.length_cons,List.length_nil,List.map_cons,List.sum_cons] at this⊢
  lia
theorem zbK(x:Str)(c:Nat):Wz (Txt.split x ⟨#[c]⟩)=x.length+1:=by
 have h1:=zap (c:=c) (xs:=(Txt.split x ⟨#[c]⟩).map sg) (by simp[z2W])
 rw[<-z8g,z1Q,List.map_map,List.length_map] at h1
 rw[h1]
 unfold Wz
 congr 2
theorem Tx.joinW{ws:List Str}{c:Nat}(hc:c<128)(h: ∀w∈ws,Lo (sg w)):Tx (Wz ws) (Txt.join ⟨#[c]⟩ ws)/\(ws.map (·.length)).sum+ws.length*(⟨#[c]⟩:Str).length<=Wz ws:=by
 have l1:(⟨#[c]⟩:Str).length=1:=rfl
 have h1:=StrLaws.join_length_le ⟨#[c]⟩ ws
 have e:Txt.join ⟨#[c]⟩ ws=(⟨#[c]⟩:Str).join ws:=StrLaws.glued_eq_join _ ws
 rw[l1,Nat.mul_one] at h1⊢
 refine⟨⟨by rw[e];exact h1, ?_⟩,Nat.le_refl _⟩
 rw[z4U]
 refine ze3 (by rw[z4T];intro d hd;rw[List.mem_singleton.mp hd];exact hc) fun x hx=> ?_
 obtain⟨y,hy,rfl⟩:=List.mem_map.mp hx
 exact h y hy
theorem cut_drop{α:Type}{l:List α}{k:Nat}(h:k<=l.length):cutA l (some (k:Int)) none=l.drop k:=by
 unfold cutA
 rw[HT.sIx_none,HT.sIx_nat,Nat.min_eq_left h,List.take_of_length_le (by rw[List.length_drop];exact Nat.le_refl _)]
theorem cut_take{α:Type}{l:List α}{k:Nat}:cutA l none (some (k:Int))=l.take k:=by
 unfold cutA
 rw[HT.sIx_none,HT.sIx_nat,List.drop_zero,Nat.sub_zero]
 rcases Nat.le_total k l.length with h|h
 ·rw[Nat.min_eq_left h]
 ·rw[Nat.min_eq_right h,List.take_of_length_le (Nat.le_refl _),List.take_of_length_le h]
theorem zbL{x y:Str}(hx:Lo (sg x))(hy:Lo (sg y)){s:Stt}:eqD (.str x) (.str y) s= .ok (.bool (x==y)) s:=by
 have hk: ∀{x:Str},Lo (sg x)->(er (.str x)).canLay0=true:=fun{x} h=>by
  simp only[er,PyData.canLay0,PyData.strOk,Array.all_eq_true',decide_eq_true_eq]
  intro c hc
  have:=h c (by unfold sg;simpa using hc)
  lia
 rw[y_eq (by simp only[eqC,hk hx,hk hy,Mi.plain,Bool.and_self,Bool.true_and,decide_eq_true_eq];simp[er,PyData.depth])]
 simp[er,PyData.eqv]
theorem z5x{m me:M D}{g:D->D}{items:List D}{l n n1:Nat}{σ tm:List (Option D)}(hm:m ⟨σ,tm,n⟩= .ok (.lst l items) ⟨σ,tm,n1⟩)(hz:items.length<sizeLine)(hg: ∀d∈items,∀tm n,∃n',n<=n'/\me ⟨[some d],tm,n⟩= .ok (g d) ⟨[some d],tm,n'⟩): ∃n',n1<=n'/\z0w (z0L m) (.nm 0) (rt true) me 1 [] ⟨σ,tm,n⟩= .ok (.lst n' (items.map g)) ⟨σ,tm,n'+1⟩:=
 z2X (K:=kLst) (sl:=fun d=>[some d]) (its:=[some (.lst l items)]) (za5 hm) rfl hz (fun i rest=>rfl) rfl (by
  intro d hd
  refine⟨rfl,fun os ho=> ?_⟩
  match os,ho with
  |[a0],_=>rfl) (by
  intro d hd tm n
  exact hg d hd tm n)
theorem zcr{m:M D}{s:Stt}{ds:List D}{σ tm:List (Option D)}{n:Nat}(h:m s= .ok (.tup ds) ⟨σ,tm,n⟩):z0L m s= .ok kTup ⟨σ,some (.tup ds)::tm,n⟩:=by
 unfold z0L;rw[x_bd,h];rfl
theorem z8h{m me:M D}{g:D->D}{items:List D}{n n1:Nat}{σ tm:List (Option D)}(hm:m ⟨σ,tm,n⟩= .ok (.tup items) ⟨σ,tm,n1⟩)(hz:items.length<sizeLine)(hg: ∀d∈items,∀tm n,∃n',n<=n'/\me ⟨[some d],tm,n⟩= .ok (g d) ⟨[some d],tm,n'⟩): ∃n',n1<=n'/\z0w (z0L m) (.nm 0) (rt true) me 1 [] ⟨σ,tm,n⟩= .ok (.lst n' (items.map g)) ⟨σ,tm,n'+1⟩:=
 z2X (K:=kTup) (sl:=fun d=>[some d]) (its:=[some (.tup items)]) (zcr hm) rfl hz (fun i rest=>rfl) rfl (by
  intro d hd
  refine⟨rfl,fun os ho=> ?_⟩
  match os,ho with
  |[a0],_=>rfl) (by
  intro d hd tm n
  exact hg d hd tm n)
mutual
noncomputable def Rw:D->Bool
 | .non=>true
 | .bool _=>true
 | .int _=>true
 | .tup ds=>decide (ds.length<=1000002)&&RwL ds
 |_=>false
noncomputable def RwL:List D->Bool
 |[]=>true
 |d::ds=>Rw d&&RwL ds
end
theorem z6p: ∀{ds:List D},RwL ds=true↔∀d∈ds,Rw d=true
 |[]=>by simp[RwL]
 |d::ds=>by rw[RwL,Bool.and_eq_true,z6p (ds:=ds),List.forall_mem_cons]
theorem zgJ{ds:List D}(h:Rw (.tup ds)=true):ds.length<=1000002/\∀d∈ds,Rw d=true:=by
 simp only[Rw,Bool.and_eq_true,decide_eq_true_eq,z6p] at h;exact h
mutual
theorem ze8: ∀t:D,Rw t=true->Gd t
 | .non,_=>⟨rfl,rfl⟩
 | .bool _,_=>⟨rfl,rfl⟩
 | .int _,_=>⟨rfl,rfl⟩
 | .tup ds,h=>Gd.tup.mpr (RwL_gd ds (z6p.mpr (zgJ h).2))
theorem RwL_gd: ∀ds:List D,RwL ds=true->GdL ds
 |[],_=>⟨rfl,rfl⟩
 |d::ds,h=>by rw[RwL,Bool.and_eq_true] at h;exact GdL.cons.mpr ⟨ze8 d h.1,RwL_gd ds h.2⟩
end
theorem zgK{w:Str}{i:Int}(h:z0y w= .int i):0<=i:=by
 unfold z0y at h
 by_cases hk:okN w=true
 ·rw[if_pos hk] at h
  unfold okN at hk
  simp only[Bool.and_eq_true,decide_eq_true_eq] at hk
  obtain⟨v,hv,ev,_⟩:=z6m hk.2.2.1 hk.1 hk.2.1
  rw[ev] at h
  simp only[Option.getD_some,D.int.injEq] at h
  lia
 ·rw[if_neg hk] at h
  cases h
theorem z4b(w:Str):z0y w=if 0<=lawI w then .int (lawI w) else .non:=by
 unfold lawI
 rcases z4p w with h|⟨i,h⟩
 ·rw[h];rfl
 ·rw[h]
  exact(if_pos (zgK h)).symm
noncomputable def inT(T:Int)(s:List Int):Bool:=s.all fun i=>decide (0<=i)&&decide (i<=T)
theorem z7H{T:Int}{s:List Int}:inT T s=true↔∀i∈s,0<=i/\i<=T:=by
 unfold inT
 simp only[List.all_eq_true,Bool.and_eq_true,decide_eq_true_eq]
theorem zcs: ∀(ps:List Str),(ps.map z0y).any z6l=true\/((ps.map z0y).any z6l=false/\ps.map z0y=iL (ps.map lawI)/\∀i∈ps.map lawI,0<=i)
 |[]=> .inr ⟨rfl,rfl,fun _ h=>(nomatch h)⟩
 |p::ps=>by
  have h1:=z4b p
  by_cases h0:0<=lawI p
  ·rw[if_pos h0] at h1
   rcases zcs ps with h|⟨h2,h3,h4⟩
   ·exact .inl (by rw[List.map_cons,List.any_cons,h,Bool.or_true])
   ·refine .inr ⟨by rw[List.map_cons,List.any_cons,h2,h1];rfl,by rw[List.map_cons,h1,h3];rfl, ?_⟩
    rw[List.map_cons]
    exact List.forall_mem_cons.mpr ⟨h0,h4⟩
  ·rw[if_neg h0] at h1
   exact .inl (by rw[List.map_cons,List.any_cons,h1];rfl)
theorem zct: ∀{ps:List Str},(ps.map z0y).any z6l=true->∃i∈ps.map lawI,i<0
 |p::ps,h=>by
  have h1:=z4b p
  by_cases h0:0<=lawI p
  ·rw[if_pos h0] at h1
   rw[List.map_cons,List.any_cons,h1] at h
   obtain⟨i,hi,hn⟩:=zct (ps:=ps) (by simpa[z6l] using h)
   exact⟨i,by rw[List.map_cons];exact List.mem_cons_of_mem _ hi,hn⟩
  ·exact⟨lawI p,by simp,by lia⟩
theorem zaq(w:Str):(z0F w= .non/\∃i∈lawD w,i<0)\/(z0F w= .tup (iL (lawD w))/\∀i∈lawD w,0<=i):=by
 unfold z0F lawD
 rcases zcs (Txt.split w (Str.ofString ".")) with h|⟨h1,h2,h3⟩
 ·exact .inl ⟨by rw[if_pos h],zct h⟩
 ·refine .inr ⟨?_,h3⟩
  rw[h1,if_neg (by decide),h2]
noncomputable def rowOk(w:Str)(M:Nat)(T:Int):Bool:=decide ((lawD w).length<=M)&&inT T (lawD w)
theorem zbM(w:Str):1<=(lawD w).length:=by
 have h3:Txt.split w (Str.ofString ".")≠[]:=z2W
 unfold lawD
 rw[List.length_map]
 cases e:Txt.split w (Str.ofString ".") with
 |nil=>exact absurd e h3
 |cons _ _=>simp
theorem zbN{w:Str}(hw:w.length<=1000000):(lawD w).length<=1000002:=by
 unfold lawD;rw[List.length_map];exact z1I hw
theorem z6q(w:Str)(M:Nat)(T:Int):rowB 1 M T (z0F w)=rowOk w M T:=by
 unfold rowOk
 rcases zaq w with⟨h1,i,hi,hn⟩|⟨h1,h2⟩
 ·rw[h1]
  have:inT T (lawD w)=false:=by
   cases e:inT T (lawD w) with
   |false=>rfl
   |true=>have:=(z7H.mp e) i hi;lia
  rw[this,Bool.and_false]
  rfl
 ·rw[h1]
  have hp:=zbM w
  have hl:(iL (lawD w)).length=(lawD w).length:=by simp[iL]
  rw[Bool.eq_iff_iff]
  simp only[rowB,Bool.and_eq_true,decide_eq_true_eq,List.all_eq_true,z7H,hl]
  constructor
  ·rintro ⟨⟨_,a⟩,b⟩
   refine⟨by lia,fun i hi=> ?_⟩
   have:=b (.int i) (List.mem_map.mpr ⟨i,hi,rfl⟩)
   simpa[inR] using this
  ·rintro ⟨a,b⟩
   refine⟨⟨by lia,by lia⟩,fun d hd=> ?_⟩
   obtain⟨i,hi,rfl⟩:=List.mem_map.mp hd
   have:=b i hi
   simp[inR,this.1,this.2]
theorem z7I{w:Str}{M:Nat}{T:Int}(h:rowOk w M T=true):z0F w= .tup (iL (lawD w)):=by
 unfold rowOk at h
 rw[Bool.and_eq_true] at h
 rcases zaq w with⟨_,i,hi,hn⟩|⟨h1,_⟩
 ·have:=(z7H.mp h.2) i hi
  lia
 ·exact h1
noncomputable def lE:D->D
 | .str x=>lawN x
 |_=> .non
theorem zcu(ys:List Str):(ys.map D.str).map lE=iL (ys.map lawI):=by
 unfold iL
 rw[List.map_map,List.map_map]
 exact List.map_congr_left fun y _=>zao y
noncomputable def outT(T:Int):D->Bool
 | .int i=> !(decide (0<=i)&&decide (i<=T))
 |_=>false
theorem z8i(T:Int): ∀s:List Int,((iL s).filter (outT T)).map id=iL (s.filter fun i=> !(decide (0<=i)&&decide (i<=T)))
 |[]=>rfl
 |i::s=>by
  have:=z8i T s
  simp only[iL,List.map_cons,List.map_id,List.filter_cons] at this⊢
  show(if(!(decide (0<=i)&&decide (i<=T)))=true then D.int i::_ else _)=_
  cases !(decide (0<=i)&&decide (i<=T)) with
  |true=>simp only[if_true,List.map_cons];rw[this]
  |false=>simp only[Bool.false_eq_true,if_false];exact this
theorem fltT(T:Int)(s:List Int):(!(s.filter fun i=> !(decide (0<=i)&&decide (i<=T))).isEmpty)= !inT T s:=by
 unfold inT
 congr 1
 rw[Bool.eq_iff_iff,List.isEmpty_iff,List.filter_eq_nil_iff,List.all_eq_true]
 exact⟨fun h a ha=>by have:=h a ha;revert this;cases(decide (0<=a)&&decide (a<=T))<;>simp,fun h a ha=>by rw[h a ha];simp⟩
theorem z35(s:List Int):(iL s).length=s.length:=by simp[iL]
theorem zgL: ∀s:List Int,GdL (iL s)
 |[]=>⟨rfl,rfl⟩
 |i::s=>by
  obtain⟨h1,h2⟩:=zgL s
  exact⟨by simp only[iL,List.map_cons,plainL,Mi.plain,Bool.true_and] at h1⊢;exact h1,by simp only[iL,List.map_cons,erL,er,PyData.canLayAll0,PyData.canLay0,Bool.true_and] at h2⊢;exact h2⟩
theorem ze9{l m:Nat}{s:List Int}{q:Stt}:neD (.lst l (iL s)) (.lst m []) q= .ok (.bool (!s.isEmpty)) q:=by
 have g:=(Gd.lst (l:=l)).mpr (zgL s)
 have g2:Gd (.lst m []):=⟨rfl,rfl⟩
 have d2:(er (.lst m [])).depth<=60:=show(PyData.list []).depth<=60 by decide
 rw[y_ne (by simp only[eqC,g.1,g.2,g2.1,g2.2,Bool.true_and,decide_eq_true_eq];exact Nat.le_trans (Nat.min_le_right _ _) d2)]
 cases s<;>rfl
theorem zbO(w:Str)(hw:w.length<=1000000)(n:Nat):z0J [.str w] n= .ok (lawN w) [.str w] n:=by
 unfold z0J z3Y
 walk_at ""
 rw[z75 (by rw[zl];lia)]
 walk_at ""
 have eA:decide (1<=(w.length:Int))=decide (1<=w.length):=by congr 1;simp only[eq_iff_iff];lia
 have eB:decide ((w.length:Int)<=5)=decide (w.length<=5):=by congr 1;simp only[eq_iff_iff];lia
 rw[eA]
 unfold lawN z0y okN
 by_cases h1:1<=w.length
 ·rw[decide_eq_true h1]
  walk_at ""
  rw[eB]
  by_cases h5:w.length<=5
  ·rw[decide_eq_true h5]
   walk_at ""
   rw[zgF (by rw[zl];lia)]
   walk_at ""
   rw[zah,zam]
   cases ha:(sg w).all fun c=>decide (48<=c/\c<=57) with
   |false=>
    walk_at ""
    rfl
   |true=>
    obtain⟨v,hv,ev,eq⟩:=z6m ha h1 h5
    have ei: ∀s:Stt,intS [.str w] s= .ok (.int v) s:=fun s=>by simp only[intS,if_pos (show w.length<=640 by lia),ev];rfl
    walk_at ""
    rw[ei]
    walk_at ""
    rw[z5w (z4V (by lia) (by lia))]
    walk_at ""
    rw[zah,eq]
    cases((sg w).head? ==some 48&& !(w== "0")) with
    |true=>
     walk_at ""
     rfl
    |false=>
     walk_at ""
     rw[ei,ev]
     walk_at ""
     rfl
  ·rw[decide_eq_false h5]
   walk_at ""
   rfl
 ·rw[decide_eq_false h1]
  walk_at ""
  rfl
noncomputable def rowL(w:Str)(M:Nat)(T:Int):D:=if rowOk w M T=true then .tup (iL (lawD w)) else .non
theorem zar(w:Str)(hw:w.length<=1000000)(M:Nat)(T:Int)(n:Nat): ∃n',n<=n'/\z3Z [.str w, .int (M:Nat), .int T] n= .ok (rowL w M T) [.str w, .int (M:Nat), .int T] n':=by
 have hc:=z1I (y:=Str.ofString ".") hw
 obtain⟨n1,g1,e1⟩:=z5x (m:=z1h (mVar 0) [(mC (.str ("." :Str)))] z1A) (me:=z02 z0J [(mVar 0)]) (g:=lE) (items:=(Txt.split w (Str.ofString ".")).map D.str) (l:=n) (n:=n) (n1:=n+1) (σ:=[some (.str w),some (.int (M:Nat)),some (.int T),none]) (tm:=[some (.str w),some (.int (M:Nat)),some (.int T)]) (by
  walk_at ""
  rw[z3p zch (by rw[zl];lia)]) (by rw[zl,List.length_map];lia) (by
  intro d hd tm n
  obtain⟨p,hp,rfl⟩:=List.mem_map.mp hd
  refine⟨n,Nat.le_refl _, ?_⟩
  walk_at ""
  rw[zbO p (Nat.le_trans (p_sh hp) hw)]
  walk_at ""
  rfl)
 rw[zcu] at e1
 obtain⟨n2,g2,e2⟩:=z8J (mc:=mVar 3) (mt:=mNot (mBoo (z0P (mC (.int 0)) (mVar 0) (mVar 1) leD leD))) (me:=mVar 0) (p:=outT T) (g:=id) (ds:=iL (lawD w)) (ix:=[2]) (s:=⟨[some (.str w),some (.int (M:Nat)),some (.int T),some (.tup (iL (lawD w)))],[some (.str w),some (.int (M:Nat)),some (.int T)],n1+1⟩) (σ:=[some (.str w),some (.int (M:Nat)),some (.int T),some (.tup (iL (lawD w)))]) (tm:=[some (.str w),some (.int (M:Nat)),some (.int T)]) (n:=n1+1) rfl (by rw[zl,z35];have:=zbN hw;lia) (by
  intro d hd tm n
  obtain⟨j,_,rfl⟩:=List.mem_map.mp hd
  refine⟨n,Nat.le_refl _, ?_⟩
  simp only[List.map_cons,List.map_nil,List.getElem?_cons_zero,List.getElem?_cons_succ,Option.getD_some]
  walk_at ""
  by_cases h0:0<=j
  ·simp only[h0,decide_true,outT]
   walk_at ""
  ·simp only[h0,decide_false,outT]
   walk_at "") (by
  intro d hd _ tm n
  refine⟨n,Nat.le_refl _, ?_⟩
  simp only[List.map_cons,List.map_nil,List.getElem?_cons_zero,List.getElem?_cons_succ,Option.getD_some]
  walk_at ""
  rfl)
 rw[z8i] at e2
 unfold z3Z z7y
 walk_at ""
 rw[e1]
 walk_at ""
 rw[show iL (List.map lawI (Txt.split w (Str.ofString ".")))=iL (lawD w) from rfl]
 simp only[z35]
 unfold rowL rowOk
 by_cases hm:((lawD w).length:Int)>(M:Nat)
 ·refine⟨n1+1,by lia, ?_⟩
  simp only[hm,decide_true]
  rw[decide_eq_false (show ¬(lawD w).length<=M by lia),Bool.false_and,if_neg (by decide)]
  walk_at ""
 ·simp only[hm,decide_false]
  rw[decide_eq_true (show(lawD w).length<=M by lia),Bool.true_and]
  walk_at ""
  rw[e2]
  walk_at ""
  rw[ze9,fltT]
  refine⟨n2+1+1,by lia, ?_⟩
  cases inT T (lawD w) with
  |true=>walk_at "";rfl
  |false=>walk_at "";rfl
noncomputable def inN(i T:Int):Bool:=decide (0<=i)&&decide (i<=T)
theorem zas(w:Str)(T:Int):inR 0 T (z0y w)=inN (lawI w) T:=by
 rw[z4b]
 unfold inN
 by_cases h:0<=lawI w
 ·rw[if_pos h];rfl
 ·rw[if_neg h,decide_eq_false h];rfl
theorem zat{w:Str}{T:Int}(h:inN (lawI w) T=true):z0y w= .int (lawI w):=by
 unfold inN at h
 rw[Bool.and_eq_true,decide_eq_true_eq] at h
 rw[z4b,if_pos h.1]
noncomputable def wOk:List Str->Bool
 |[a,b,c,d]=>rowOk a 6 39&&(rowOk b 4 999&&(inN (lawI c) 7&&inN (lawI d) 9999))
 |_=>false
noncomputable def wV:List Str->D
 |[a,b,c,d]=> .tup [.tup (iL (lawD a)), .tup (iL (lawD b)), .int (lawI c), .int (lawI d)]
 |_=> .non
theorem zcv{ws:List Str}(hl: ¬ws.length=4):wOk ws=false:=by
 rcases ws with _|⟨a,_|⟨b,_|⟨c,_|⟨d,_|⟨e,r⟩⟩⟩⟩⟩<;>first|rfl|(simp at hl)
noncomputable def z2U(w:Str):Bool:=wOk (Txt.split w (Str.ofString "/"))
noncomputable def z77(w:Str):D:=wV (Txt.split w (Str.ofString "/"))
theorem zbP:sg (Str.ofString "/")=[47]:=by decide+kernel
theorem zcw:((Str.ofString "/").length==0)=false:=(sep1 _ _ zbP).2
noncomputable def rDd:D->D
 | .str x=>z0F x
 |_=> .non
theorem zau(ys:List Str):(ys.map D.str).map rDd=ys.map z0F:=by rw[List.map_map];rfl
theorem zgM(w:Str):Rw (z0y w)=true:=by
 rcases z4p w with h|⟨i,h⟩<;>rw[h]<;>rfl
theorem zgN{ds:List D}(h1:ds.length<=1000002)(h2: ∀d∈ds,Rw d=true):Rw (.tup ds)=true:=by
 simp only[Rw,Bool.and_eq_true,decide_eq_true_eq,z6p];exact⟨h1,h2⟩
theorem zgO{w:Str}(hw:w.length<=1000000):Rw (z0F w)=true:=by
 unfold z0F
 split
 ·rfl
 ·refine zgN (by rw[List.length_map];exact z1I hw) fun d hd=> ?_
  obtain⟨p,_,rfl⟩:=List.mem_map.mp hd
  exact zgM p
theorem zea(w:Str):plain (z0y w)=true:=(ze8 _ (zgM w)).1
theorem zav{w:Str}(hw:w.length<=1000000):plain (z0F w)=true:=(ze8 _ (zgO hw)).1
theorem zeb{l:List Str}:cutA (l.map D.str) none (some 2)=(l.take 2).map D.str:=by
 rw[show(2:Int)=((2:Nat):Int) from rfl,cut_take,List.map_take]
theorem zcx(k:Nat){l:List Str}:cutA (l.map D.str) (some (k:Int)) none=(l.drop k).map D.str:=by
 by_cases h:k<=l.length
 ·rw[cut_drop (by rw[List.length_map];exact h),List.map_drop]
 ·unfold cutA
  rw[HT.sIx_nat,HT.sIx_none,List.length_map,Nat.min_eq_right (by lia),List.drop_eq_nil_of_le (show l.length<=k by lia)]
  simp
theorem zaw(x:Str)(n:Nat):z08 [.str x] n= .ok .non [.str x] n:=by
 unfold z08 z0B
 rw[z48]
 walk_at ""
 rfl
theorem zax(t:D)(n:Nat)(h:plain t=true)(hs: ∀x,t≠ .str x):z08 [t] n= .ex (.exc "NoText") [t] n:=by
 unfold z08 z0B
 rw[z48]
 walk_at ""
 cases t with
 |str x=>exact absurd rfl (hs x)
 |dct _ _ _=>simp[Mi.plain] at h
 |obj _ _ _ _=>simp[Mi.plain] at h
 |exc _=>simp[Mi.plain] at h
 |fn _=>simp[Mi.plain] at h
 |fdc _ _=>simp[Mi.plain] at h
 |_=>
  walk_at ""
  rw[z3o]
  rfl
theorem wrd4(a b c d:D)(ha:plain a=true)(hb:plain b=true)(hc:plain c=true)(hd:plain d=true)(n:Nat): ∃n',n<=n'/\z0N [.tup [a,b,c,d]] n= .ok (.bool (rowB 1 6 39 a&&(rowB 1 4 999 b&&(inR 0 7 c&&inR 0 9999 d)))) [.tup [a,b,c,d]] n':=by
 unfold z0N z2t
 walk_at ""
 rw[show(((4:Nat):Int)==4)=true from rfl]
 walk_at ""
 obtain⟨n1,g1,e1⟩:=za9 a 1 6 39 n ha (by decide)
 rw[e1]
 cases rowB 1 6 39 a with
 |false=>exact⟨n1,g1,by walk_at ""⟩
 |true=>
  walk_at ""
  obtain⟨n2,g2,e2⟩:=za9 b 1 4 999 n1 hb (by decide)
  rw[e2]
  cases rowB 1 4 999 b with
  |false=>exact⟨n2,by lia,by walk_at ""⟩
  |true=>
   refine⟨n2,by lia, ?_⟩
   walk_at ""
   rw[z5u c 0 7 n2 hc]
   walk_at ""
   cases inR 0 7 c with
   |false=>walk_at ""
   |true=>
    walk_at ""
    rw[z5u d 0 9999 n2 hd]
    walk_at ""
theorem wrdN(ds:List D)(h:ds.length≠4)(n:Nat):z0N [.tup ds] n= .ok (.bool false) [.tup ds] n:=by
 unfold z0N z2t
 walk_at ""
 have e:(((ds.length:Nat):Int)==4)=false:=by simp;lia
 simp only[e]
 walk_at ""
noncomputable def wdM:M D:=(mBin (mCB [(z0w (z0L (mSl (mVar 1) none (some (mC (.int 2))))) (.nm 0) (rt true) (z02 z0l [(mVar 0)]) 1 [])] tupF) (mCB [(z0w (z0L (mSl (mVar 1) (some (mC (.int 2))) none)) (.nm 0) (rt true) (z02 z0e [(mVar 0)]) 1 [])] tupF) addD)
theorem ziL(w:Str)(ws:List Str)(hp: ∀p∈ws,p.length<=1000000)(hz:ws.length<=1000002)(L n:Nat): ∃n',n<=n'/\wdM ⟨[some (.str w),some (.lst L (ws.map D.str)),none],[some (.str w)],n⟩= .ok (.tup ((ws.take 2).map z0F++(ws.drop 2).map z0y)) ⟨[some (.str w),some (.lst L (ws.map D.str)),none],[some (.str w)],n'⟩:=by
 obtain⟨n1,g1,e1⟩:=z5x (m:=mSl (mVar 1) none (some (mC (.int 2)))) (me:=z02 z0l [(mVar 0)]) (g:=rDd) (items:=(ws.take 2).map D.str) (l:=n) (n:=n) (n1:=n+1) (σ:=[some (.str w),some (.lst L (ws.map D.str)),none]) (tm:=[some (.str w)]) (by
  walk_at ""
  rw[zeb]) (by rw[zl,List.length_map,List.length_take];lia) (by
  intro d hd tm n
  obtain⟨p,h,rfl⟩:=List.mem_map.mp hd
  obtain⟨n',h1,e⟩:=zgy p (hp p (List.mem_of_mem_take h)) n
  refine⟨n',h1, ?_⟩
  walk_at ""
  rw[e]
  walk_at ""
  rfl)
 rw[zau] at e1
 obtain⟨n2,g2,e2⟩:=z5x (m:=mSl (mVar 1) (some (mC (.int 2))) none) (me:=z02 z0e [(mVar 0)]) (g:=rE) (items:=(ws.drop 2).map D.str) (l:=n1+1) (n:=n1+1) (n1:=n1+1+1) (σ:=[some (.str w),some (.lst L (ws.map D.str)),none]) (tm:=[some (.tup ((ws.take 2).map z0F)),some (.str w)]) (by
  walk_at ""
  rw[show(2:Int)=((2:Nat):Int) from rfl,zcx 2]) (by rw[zl,List.length_map,List.length_drop];lia) (by
  intro d hd tm n
  obtain⟨p,h,rfl⟩:=List.mem_map.mp hd
  obtain⟨n',h1,e⟩:=ze0 p (hp p (List.mem_of_mem_drop h)) n
  refine⟨n',h1, ?_⟩
  walk_at ""
  rw[e]
  walk_at ""
  rfl)
 rw[zai] at e2
 refine⟨n2+1,by lia, ?_⟩
 unfold wdM
 walk_at ""
 rw[e1]
 walk_at ""
 rw[e2]
 walk_at ""
 rw[za0 (by rw[zl];simp only[List.length_map,List.length_take,List.length_drop];lia)]
theorem ziM(w:Str)(hw:w.length<=1000000)(n:Nat): ∃n',n<=n'/\z0m [.str w] n=if z2U w=true then .ok (z77 w) [.str w] n' else .ex (.exc "NoText") [.str w] n':=by
 have hp: ∀p∈Txt.split w (Str.ofString "/"),p.length<=1000000:=fun p h=>Nat.le_trans (p_sh h) hw
 have hq:=z1I (y:=Str.ofString "/") hw
 have e0:z1w=(seqS (z7j (z1m z08 [(mVar 0)])) (seqS (sAsg (.nm 1) (z1h (mVar 0) [(mC (.str ("/" :Str)))] z1A)) (seqS (sAsg (.nm 2) wdM) (seqS (sIf (mNot (z25 (z02 z0N [(mVar 2)]))) (z45 "NoText") sNx) (sRet (mVar 2)))))):=rfl
 unfold z0m z2U z77
 rw[z48,e0]
 walk_at ""
 rw[z2D]
 walk_at ""
 rw[zaw,z8K]
 walk_at ""
 rw[z3p zcw (by rw[zl];lia)]
 walk_at ""
 generalize Txt.split w (Str.ofString "/")=ws at hp hq
 obtain⟨n1,g1,e1⟩:=ziL w ws hp hq n (n+1)
 rw[e1]
 walk_at ""
 by_cases hl:ws.length=4
 ·rcases ws with _|⟨a,_|⟨b,_|⟨c,_|⟨d,_|⟨e,r⟩⟩⟩⟩⟩<;>simp at hl
  have hO:wOk [a,b,c,d]=(rowOk a 6 39&&(rowOk b 4 999&&(inN (lawI c) 7&&inN (lawI d) 9999))):=rfl
  have hV:wV [a,b,c,d]= .tup [.tup (iL (lawD a)), .tup (iL (lawD b)), .int (lawI c), .int (lawI d)]:=rfl
  have pa:=hp a (by simp)
  have pb:=hp b (by simp)
  obtain⟨n2,g2,e2⟩:=wrd4 (z0F a) (z0F b) (z0y c) (z0y d) (zav pa) (zav pb) (zea c) (zea d) n1
  refine⟨n2,by lia, ?_⟩
  simp only[List.take_succ_cons,List.take_zero,List.drop_succ_cons,List.drop_zero,List.map_cons,List.map_nil,List.cons_append,List.nil_append]
  rw[e2,show rowB 1 6 39 (z0F a)=rowOk a 6 39 from z6q a 6 39,show rowB 1 4 999 (z0F b)=rowOk b 4 999 from z6q b 4 999,zas,zas]
  rw[<-hO]
  by_cases h:wOk [a,b,c,d]=true
  ·rw[if_pos h,h,hV]
   rw[hO] at h
   simp only[Bool.and_eq_true] at h
   rw[z7I h.1,z7I h.2.1,zat h.2.2.1,zat h.2.2.2]
   walk_at ""
   rfl
  ·rw[if_neg h,Bool.eq_false_iff.mpr h]
   walk_at ""
   rw[z3o]
   rfl
 ·have hm:=zcv hl
  refine⟨n1,by lia, ?_⟩
  rw[hm,if_neg (by decide),wrdN _ (by simp only[List.length_append,List.length_map,List.length_take,List.length_drop];lia)]
  walk_at ""
  rw[z3o]
  rfl
theorem zgP(w:Str)(hw:w.length<=1000000)(n:Nat): ∃n',n<=n'/\z1f [.str w] n= .ok (if z2U w=true then z77 w else .non) [.str w] n':=by
 have hp: ∀p∈Txt.split w (Str.ofString "/"),p.length<=1000000:=fun p h=>Nat.le_trans (p_sh h) hw
 unfold z1f z2B z2U z77
 walk_at ""
 rw[z3p zcw (by rw[zl];lia)]
 walk_at ""
 generalize Txt.split w (Str.ofString "/")=ws at hp
 simp only[List.length_map]
 by_cases hl:ws.length=4
 ·rcases ws with _|⟨a,_|⟨b,_|⟨c,_|⟨d,_|⟨e,r⟩⟩⟩⟩⟩<;>simp at hl
  have hO:wOk [a,b,c,d]=(rowOk a 6 39&&(rowOk b 4 999&&(inN (lawI c) 7&&inN (lawI d) 9999))):=rfl
  have hV:wV [a,b,c,d]= .tup [.tup (iL (lawD a)), .tup (iL (lawD b)), .int (lawI c), .int (lawI d)]:=rfl
  rw[hO,hV]
  walk_at ""
  rw[show(((4:Nat):Int)==4)=true from rfl]
  walk_at ""
  obtain⟨n1,g1,e1⟩:=zar a (hp a (by simp)) 6 39 (n+1)
  obtain⟨n2,g2,e2⟩:=zar b (hp b (by simp)) 4 999 n1
  rw[show((6:Nat):Int)=6 from rfl] at e1
  rw[show((4:Nat):Int)=4 from rfl] at e2
  refine⟨n2,by lia, ?_⟩
  rw[e1]
  walk_at ""
  rw[e2]
  walk_at ""
  rw[zbO c (hp c (by simp)),zao]
  walk_at ""
  rw[zbO d (hp d (by simp)),zao]
  walk_at ""
  unfold rowL inN
  cases rowOk a 6 39 with
  |false=>
   simp only[Bool.false_eq_true,if_false,Bool.false_and]
   rw[show ∀s,isN .non .non s= .ok (.bool true) s from fun _=>rfl]
   walk_at ""
  |true=>
   simp only[if_true,Bool.true_and]
   rw[show ∀ds s,isN (.tup ds) .non s= .ok (.bool false) s from fun _ _=>rfl]
   walk_at ""
   cases rowOk b 4 999 with
   |false=>
    simp only[Bool.false_eq_true,if_false,Bool.false_and]
    rw[show ∀s,isN .non .non s= .ok (.bool true) s from fun _=>rfl]
    walk_at ""
   |true=>
    simp only[if_true,Bool.true_and]
    rw[show ∀ds s,isN (.tup ds) .non s= .ok (.bool false) s from fun _ _=>rfl]
    walk_at ""
    rw[show decide (lawI c<=7)=decide (lawI c<8) by congr 1;rw[eq_iff_iff];lia,show decide (lawI d<=9999)=decide (lawI d<10000) by congr 1;rw[eq_iff_iff];lia]
    by_cases h1:0<=lawI c
    ·simp only[h1,decide_true,Bool.true_and]
     walk_at ""
     by_cases h2:lawI c<8
     ·simp only[h2,decide_true,Bool.true_and]
      walk_at ""
      by_cases h3:0<=lawI d
      ·simp only[h3,decide_true,Bool.true_and]
       walk_at ""
       by_cases h4:lawI d<10000
       ·simp only[h4,decide_true,if_true]
        walk_at ""
       ·simp only[h4,decide_false,Bool.false_eq_true,if_false]
        walk_at ""
      ·simp only[h3,decide_false,Bool.false_and,Bool.false_eq_true,if_false]
       walk_at ""
     ·simp only[h2,decide_false,Bool.false_and,Bool.false_eq_true,if_false]
      walk_at ""
    ·simp only[h1,decide_false,Bool.false_and,Bool.false_eq_true,if_false]
     walk_at ""
 ·have e:(((ws.length:Nat):Int)==4)=false:=by simp;lia
  have hm:=zcv hl
  refine⟨n+1,by lia, ?_⟩
  rw[hm,if_neg (by decide)]
  simp only[e]
  walk_at ""
noncomputable abbrev ABC:Str:=Str.ofString "abcdefghijklmnopqrstuvwxyz"
theorem z8j:sg ABC=List.range' 97 26:=by decide+kernel
theorem ziN{c:Nat}{s:Stt}:inS (.str ⟨#[c]⟩) (.str ABC) s= .ok (.bool (decide (97<=c/\c<=122))) s:=by
 unfold inS
 dsimp only
 rw[StrLaws.found_one,show ABC.cps.toList=List.range' 97 26 from z8j]
 show Res.ok _ s=_
 congr 3
 rw[List.mem_range'_1,eq_iff_iff]
 lia
theorem zgQ: ∀k:Nat,k<26->Builtin.Str.occurrences ABC ⟨#[97+k]⟩ 0 ABC.length 1=[k]:=by decide+kernel
theorem ziO{k:Nat}{s:Stt}(h:k<26):txI ABC [.str ⟨#[97+k]⟩] s= .ok (.int k) s:=by
 simp only[txI,zgQ k h]
 rfl
theorem ziP{k:Nat}{s:Stt}(h:k<26):txF ABC [.str ⟨#[97+k]⟩] s= .ok (.int k) s:=by
 simp only[txF,Txt.find,zgQ k h]
 rfl
theorem zec(c:Nat):ABC.cps.contains c=decide (97<=c/\c<=122):=by
 rw[<-Array.contains_toList,show ABC.cps.toList=List.range' 97 26 from z8j,Bool.eq_iff_iff,List.contains_iff_mem,List.mem_range'_1,decide_eq_true_iff]
 lia
noncomputable def isL(w:Str):Bool:=(sg w).all fun c=>decide (97<=c/\c<=122)
theorem zay(w:Str):(Txt.stripChars w ABC==Str.ofString "")=isL w:=by
 rw[z76]
 unfold isL
 congr 1
 funext c
 exact zec c
noncomputable def kyOk(w:Str):Bool:=(w==Str.ofString "-")||(decide (1<=w.length)&&(decide (w.length<=60)&&isL w))
noncomputable def kyV(w:Str):List Int:=if(w==Str.ofString "-")=true then[] else(sg w).map fun c=>((c - 97:Nat):Int)
theorem zed{α:Type}(g:α->Bool)(l:List α):z1Y (l.map fun d=> .bool (g d))=some (l.map g):=by
 induction l with
 |nil=>rfl
 |cons d ds ih=>simp[z1Y,ih]
noncomputable def onS(g:Nat->D):D->D
 | .str x=>g (x.cps.getD 0 0)
 |_=> .non
theorem zaz{me:M D}{g:Nat->D}{w:Str}{i n:Nat}{σ tm:List (Option D)}(hv:σ[i]? =some (some (.str w)))(hz:w.length<sizeLine)(hg: ∀c∈sg w,∀tm n,∃n',n<=n'/\me ⟨[some (.str ⟨#[c]⟩)],tm,n⟩= .ok (g c) ⟨[some (.str ⟨#[c]⟩)],tm,n'⟩): ∃n',n<=n'/\z0w (z4G (mVar i)) (.nm 0) (rt true) me 1 [] ⟨σ,tm,n⟩= .ok (.lst n' ((sg w).map g)) ⟨σ,tm,n'+1⟩:=by
 have h:=z2X (mi:=z4G (mVar i)) (K:=kStr w) (tg:= .nm 0) (me:=me) (g:=onS g) (sl:=fun d=>[some d]) (k:=1) (items:=(sg w).map fun c=>D.str ⟨#[c]⟩) (its:=[]) (ix:=[]) (s:=⟨σ,tm,n⟩) (σ:=σ) (tm:=tm) (n:=n) (by
  unfold z4G
  rw[x_bd]
  show(mVar i ⟨σ,tm,n⟩).bnd _=_
  unfold mVar
  simp only[hv]
  rfl) rfl (by rw[z4o];exact hz) (fun i rest=>zcf) (by rw[z4o];rfl) (by
  intro d hd
  refine⟨rfl,fun os ho=> ?_⟩
  match os,ho with
  |[a0],_=>rfl) (by
  intro d hd tm n
  obtain⟨c,hc,rfl⟩:=List.mem_map.mp hd
  exact hg c hc tm n)
 rw[List.map_map] at h
 exact h
theorem ziQ(w:Str)(hw:w.length<=1000000)(n:Nat): ∃L n',n<=n'/\z09 [.str w] n=if kyOk w=true then .ok (.lst L (iL (kyV w))) [.str w] n' else .ex (.exc "NoText") [.str w] n':=by
 unfold z09 z0C kyOk kyV
 rw[z48]
 walk_at ""
 rw[z2D]
 walk_at ""
 rw[zaw,z8K]
 walk_at ""
 rw[zdZ]
 cases hm:w==Str.ofString "-" with
 |true=>
  refine⟨n,n+1,by lia, ?_⟩
  walk_at ""
  rfl
 |false=>
  walk_at ""
  rw[z75 (by rw[zl];lia)]
  walk_at ""
  have eA:decide (1<=(w.length:Int))=decide (1<=w.length):=by congr 1;simp only[eq_iff_iff];lia
  have eB:decide ((w.length:Int)<=60)=decide (w.length<=60):=by congr 1;simp only[eq_iff_iff];lia
  rw[eA]
  by_cases h1:1<=w.length
  ·rw[decide_eq_true h1]
   walk_at ""
   rw[eB]
   by_cases h5:w.length<=60
   ·rw[decide_eq_true h5]
    walk_at ""
    obtain⟨n1,g1,e1⟩:=zaz (me:=mBin (mVar 0) (mC (.str ("abcdefghijklmnopqrstuvwxyz" :Str))) inS) (g:=fun c=> .bool (decide (97<=c/\c<=122))) (w:=w) (i:=0) (n:=n) (σ:=[some (.str w)]) (tm:=[some (.str w)]) rfl (by rw[zl];lia) (by
     intro c hc tm n
     refine⟨n,Nat.le_refl _, ?_⟩
     walk_at ""
     rw[ziN])
    rw[e1]
    walk_at ""
    rw[zdS (zed (fun c=>decide (97<=c/\c<=122)) (sg w))]
    walk_at ""
    have ha:(List.map (fun c=>decide (97<=c/\c<=122)) (sg w)).all id=isL w:=by unfold isL;rw[List.all_map];rfl
    rw[ha]
    cases hL:isL w with
    |false=>
     refine⟨0,n1+1,by lia, ?_⟩
     walk_at ""
     rw[z3o]
     rfl
    |true=>
     walk_at ""
     obtain⟨n2,g2,e2⟩:=zaz (me:=z1h (mC (.str ("abcdefghijklmnopqrstuvwxyz" :Str))) [(mVar 0)] txI) (g:=fun c=> .int ((c - 97:Nat):Int)) (w:=w) (i:=0) (n:=n1+1) (σ:=[some (.str w)]) (tm:=[some (.str w)]) rfl (by rw[zl];lia) (by
      intro c hc tm n
      refine⟨n,Nat.le_refl _, ?_⟩
      have:=of_decide_eq_true (List.all_eq_true.mp hL c hc)
      walk_at ""
      obtain⟨k,rfl⟩: ∃k,c=97+k:=⟨c - 97,by lia⟩
      rw[ziO (by lia),show 97+k - 97=k by lia])
     refine⟨n2,n2+1,by lia, ?_⟩
     rw[e2]
     walk_at ""
     rw[show(sg w).map (fun c=>D.int ((c - 97:Nat):Int))=iL ((sg w).map fun c=>((c - 97:Nat):Int)) by unfold iL;rw[List.map_map];rfl]
     rfl
   ·rw[decide_eq_false h5]
    refine⟨0,n,Nat.le_refl _, ?_⟩
    walk_at ""
    rw[z3o]
    rfl
  ·rw[decide_eq_false h1]
   refine⟨0,n,Nat.le_refl _, ?_⟩
   walk_at ""
   rw[z3o]
   rfl
theorem zgR(w:Str)(hw:w.length<=1000000)(n:Nat): ∃L n',n<=n'/\(kyOk w=true->n<=L/\L<n')/\z1e [.str w] n= .ok (if kyOk w=true then .lst L (iL (kyV w)) else .non) [.str w] n':=by
 unfold z1e z2A kyOk kyV
 walk_at ""
 rw[zdZ]
 cases hm:w==Str.ofString "-" with
 |true=>
  refine⟨n,n+1,by lia,fun _=>⟨by lia,by lia⟩, ?_⟩
  walk_at ""
  rfl
 |false=>
  walk_at ""
  rw[z75 (by rw[zl];lia)]
  walk_at ""
  have eA:decide (1<=(w.length:Int))=decide (1<=w.length):=by congr 1;simp only[eq_iff_iff];lia
  have eB:decide ((w.length:Int)<=60)=decide (w.length<=60):=by congr 1;simp only[eq_iff_iff];lia
  rw[eA]
  by_cases h1:1<=w.length
  ·rw[decide_eq_true h1]
   walk_at ""
   rw[eB]
   by_cases h5:w.length<=60
   ·rw[decide_eq_true h5]
    walk_at ""
    rw[zgF (by rw[zl];lia)]
    walk_at ""
    rw[zah,zay]
    cases hL:isL w with
    |false=>
     refine⟨0,n,Nat.le_refl _,fun q=>absurd q (by simp), ?_⟩
     walk_at ""
     rfl
    |true=>
     walk_at ""
     obtain⟨n2,g2,e2⟩:=zaz (me:=z1h (mC (.str ("abcdefghijklmnopqrstuvwxyz" :Str))) [(mVar 0)] txF) (g:=fun c=> .int ((c - 97:Nat):Int)) (w:=w) (i:=0) (n:=n) (σ:=[some (.str w)]) (tm:=[some (.str w)]) rfl (by rw[zl];lia) (by
      intro c hc tm n
      refine⟨n,Nat.le_refl _, ?_⟩
      have:=of_decide_eq_true (List.all_eq_true.mp hL c hc)
      walk_at ""
      obtain⟨k,rfl⟩: ∃k,c=97+k:=⟨c - 97,by lia⟩
      rw[ziP (by lia),show 97+k - 97=k by lia])
     refine⟨n2,n2+1,by lia,fun _=>⟨by lia,by lia⟩, ?_⟩
     rw[e2]
     walk_at ""
     rw[show(sg w).map (fun c=>D.int ((c - 97:Nat):Int))=iL ((sg w).map fun c=>((c - 97:Nat):Int)) by unfold iL;rw[List.map_map];rfl]
     rfl
   ·rw[decide_eq_false h5]
    refine⟨0,n,Nat.le_refl _,fun q=>absurd q (by simp), ?_⟩
    walk_at ""
    rfl
  ·rw[decide_eq_false h1]
   refine⟨0,n,Nat.le_refl _,fun q=>absurd q (by simp), ?_⟩
   walk_at ""
   rfl
theorem z8k{ma mb mc md:M D}{g g' g'':D->D->M D}{s:Stt}:z4I ma mb mc md g g' g'' s=(ma s).bnd fun x s1=>(mb (s1.psh x)).bnd fun y s2=>(pop s2).bnd fun x' s3=>z3N y (bd (mBoo (g x' y)) fun k=>iteM k (z6R y mc g' fun z=>bd md fun w=>g'' z w) (rt (.bool false))) s3:=(rfl)
theorem zcy{y:D}{mc:M D}{g:D->D->M D}{f:D->M D}{s:Stt}:z6R y mc g f s=(mc s).bnd fun z s1=>z3N z (bd (mBoo (g y z)) fun k=>iteM k (f z) (rt (.bool false))) s1:=(rfl)
noncomputable def strB(N:Int)(a b:D):Bool:=match a with
 | .int i=>inR 0 (N - 1) (.int i)&&inR (i+1) N b
 |_=>false
noncomputable def stL(i j N:Int):Bool:=decide (0<=i)&&(decide (i<j)&&decide (j<=N))
theorem zaA(a b:Str)(N:Int):strB N (z0y a) (z0y b)=stL (lawI a) (lawI b) N:=by
 unfold stL
 have ha:=z4b a
 have hb:=z4b b
 have ba:=zcp a
 have bb:=zcp b
 by_cases h:0<=lawI a
 ·rw[if_pos h] at ha
  rw[ha,decide_eq_true h,Bool.true_and]
  by_cases h':0<=lawI b
  ·rw[if_pos h'] at hb
   rw[hb]
   rw[Bool.eq_iff_iff]
   simp only[strB,inR,Bool.and_eq_true,decide_eq_true_eq]
   constructor
   ·rintro ⟨_,h1,h2⟩;exact⟨by lia,h2⟩
   ·rintro ⟨h1,h2⟩;exact⟨⟨h,by lia⟩,by lia,h2⟩
  ·rw[if_neg h'] at hb
   rw[hb,decide_eq_false (show ¬lawI a<lawI b by lia)]
   simp only[strB,inR,Bool.and_false,Bool.false_and]
 ·rw[if_neg h] at ha
  rw[ha,decide_eq_false h]
  rfl
noncomputable def W1:Str:=Str.ofString "border"
noncomputable def W2:Str:=Str.ofString "joined"
noncomputable def W3:Str:=Str.ofString "span"
noncomputable def W4:Str:=Str.ofString "held"
theorem lo_W:Lo (sg W1)/\Lo (sg W2)/\Lo (sg W3)/\Lo (sg W4):=by
 refine⟨?_, ?_, ?_, ?_⟩<;>(show ∀c∈_,c<128)<;>decide+kernel
noncomputable def isBJ(p:Str):Bool:=p==W1||p==W2
noncomputable def r2(N:Int):List D->Bool
 |[a]=>inR 1 (N - 1) a
 |_=>false
noncomputable def r3(N:Int):List D->Bool
 |[a,b]=>strB N a b
 |_=>false
noncomputable def r4(N:Int):List D->Bool
 |[a,b,c]=>strB N a b&&rowB 1 24 1039 c
 |_=>false
noncomputable def wisB(N:Int)(p:Str)(r:List D):Bool:=
 if isBJ p=true then(r2 N r)
 else if(p==W3)=true then(r3 N r)
 else if(p==W4)=true then(r4 N r) else false
noncomputable def vOk(N:Int):List Str->Bool
 |[p,a]=>isBJ p&&(decide (0<lawI a)&&decide (lawI a<N))
 |[p,a,b]=>p==W3&&stL (lawI a) (lawI b) N
 |[p,a,b,c]=>p==W4&&(stL (lawI a) (lawI b) N&&rowOk c 24 1039)
 |_=>false
noncomputable def vV:List Str->D
 |[p,a]=> .tup [.str p, .int (lawI a)]
 |[p,a,b]=> .tup [.str p, .int (lawI a), .int (lawI b)]
 |[p,a,b,c]=> .tup [.str p, .int (lawI a), .int (lawI b), .tup (iL (lawD c))]
 |_=> .non
noncomputable def vD:List Str->List D
 |p::r=> .str p::((r.take 2).map z0y++(r.drop 2).map z0F)
 |[]=>[]
theorem n34{p:Str}(h:(p==W3)=true):isBJ p=false/\(p==W4)=false:=by
 rw[beq_iff_eq] at h
 rw[h]
 decide+kernel
theorem n43{p:Str}(h:(p==W4)=true):isBJ p=false/\(p==W3)=false:=by
 rw[beq_iff_eq] at h
 rw[h]
 decide+kernel
theorem inR1(a:Str)(N:Int):inR 1 (N - 1) (z0y a)=(decide (0<lawI a)&&decide (lawI a<N)):=by
 rw[z4b]
 by_cases h:0<=lawI a
 ·rw[if_pos h]
  rw[Bool.eq_iff_iff]
  simp only[inR,Bool.and_eq_true,decide_eq_true_eq]
  lia
 ·rw[if_neg h,decide_eq_false (show ¬0<lawI a by lia)]
  rfl
theorem zee(N:Int): ∀(p:Str) (r:List Str),wisB N p ((r.take 2).map z0y++(r.drop 2).map z0F)=vOk N (p::r)
 |p,[]=>by
  unfold wisB vOk
  simp only[List.take_nil,List.drop_nil,List.map_nil,List.append_nil,r2,r3,r4,ite_self]
 |p,[a]=>by
  unfold wisB vOk
  simp only[List.take_succ_cons,List.take_nil,List.drop_succ_cons,List.drop_nil,List.map_cons,List.map_nil,List.append_nil,r2,r3,r4,ite_self,inR1]
  cases isBJ p<;>rfl
 |p,[a,b]=>by
  unfold wisB vOk
  simp only[List.take_succ_cons,List.take_zero,List.drop_succ_cons,List.drop_zero,List.map_cons,List.map_nil,List.append_nil,r2,r3,r4,ite_self,zaA]
  cases h:p==W3 with
  |true=>rw[(n34 h).1];rfl
  |false=>cases isBJ p<;>rfl
 |p,[a,b,c]=>by
  unfold wisB vOk
  simp only[List.take_succ_cons,List.take_zero,List.drop_succ_cons,List.drop_zero,List.map_cons,List.map_nil,List.cons_append,List.nil_append,r2,r3,r4,zaA]
  rw[show rowB 1 24 1039 (z0F c)=rowOk c 24 1039 from z6q c 24 1039]
  cases h:p==W4 with
  |true=>rw[(n43 h).1,(n43 h).2];rfl
  |false=>cases isBJ p<;>cases p==W3<;>rfl
 |p,a::b::c::d::r=>by
  unfold wisB vOk
  simp only[List.take_succ_cons,List.take_zero,List.drop_succ_cons,List.drop_zero,List.map_cons,List.map_nil,List.cons_append,List.nil_append,r2,r3,r4,ite_self]
theorem zaB{i j N:Int}(h:stL i j N=true):0<=i/\0<=j:=by
 simp only[stL,Bool.and_eq_true,decide_eq_true_eq] at h
 lia
theorem z4X{w:Str}(h:0<=lawI w):z0y w= .int (lawI w):=by rw[z4b,if_pos h]
theorem zgS(N:Int): ∀(ws:List Str),vOk N ws=true->D.tup (vD ws)=vV ws
 |[p,a],h=>by
  simp only[vOk,Bool.and_eq_true,decide_eq_true_eq] at h
  simp only[vD,vV,List.take_succ_cons,List.take_nil,List.drop_succ_cons,List.drop_nil,List.map_cons,List.map_nil,List.append_nil]
  rw[z4X (by lia)]
 |[p,a,b],h=>by
  simp only[vOk,Bool.and_eq_true] at h
  have:=zaB h.2
  simp only[vD,vV,List.take_succ_cons,List.take_zero,List.drop_succ_cons,List.drop_zero,List.map_cons,List.map_nil,List.append_nil]
  rw[z4X this.1,z4X this.2]
 |[p,a,b,c],h=>by
  simp only[vOk,Bool.and_eq_true] at h
  have:=zaB h.2.1
  simp only[vD,vV,List.take_succ_cons,List.take_zero,List.drop_succ_cons,List.drop_zero,List.map_cons,List.map_nil,List.cons_append,List.nil_append]
  rw[z4X this.1,z4X this.2,z7I h.2.2]
 |[],h=>by cases h
 |[_],h=>by cases h
 |_::_::_::_::_::_,h=>by cases h
theorem zcz: ∀(l:List Str),cutA (l.map D.str) (some 1) (some 3)=((l.drop 1).take 2).map D.str
 |[]=>rfl
 |[a]=>rfl
 |[a,b]=>rfl
 |a::b::c::r=>by
  unfold cutA
  rw[show(1:Int)=((1:Nat):Int) from rfl,show(3:Int)=((3:Nat):Int) from rfl,HT.sIx_nat,HT.sIx_nat,Nat.min_eq_left (by simp),Nat.min_eq_left (by simp)]
  simp
theorem zcA(a b:D)(N:Int)(n:Nat)(ha:plain a=true)(hb:plain b=true):z0u [a,b, .int N] n= .ok (.bool (strB N a b)) [a,b, .int N] n:=by
 unfold z0u z1V
 walk_at ""
 rw[z5u a 0 (N - 1) n ha]
 walk_at ""
 cases h:inR 0 (N - 1) a with
 |false=>
  walk_at ""
  unfold strB
  split
  ·rw[h];rfl
  ·rfl
 |true=>
  cases a<;>first|(simp[inR] at h;done)|skip
  rename_i i
  walk_at ""
  rw[z5u b (i+1) N n hb]
  walk_at ""
  simp only[strB,h,Bool.true_and]
noncomputable def w2M:M D:=(z1J (mBin (mCB [(mVar 1)] lenD) (mC (.int 2)) eqD) (z02 z0k [(mBin (mVar 1) (mC (.int 1)) ixD),(mC (.int 1)),(mBin (mVar 0) (mC (.int 1)) subD)]))
noncomputable def w3M:M D:=(z1J (mBin (mCB [(mVar 1)] lenD) (mC (.int 3)) eqD) (z02 z0u [(mBin (mVar 1) (mC (.int 1)) ixD),(mBin (mVar 1) (mC (.int 2)) ixD),(mVar 0)]))
noncomputable def w4M:M D:=(z1J (mBin (mCB [(mVar 1)] lenD) (mC (.int 4)) eqD) (z1J (z02 z0u [(mBin (mVar 1) (mC (.int 1)) ixD),(mBin (mVar 1) (mC (.int 2)) ixD),(mVar 0)]) (z02 z0A [(mBin (mVar 1) (mC (.int 3)) ixD)])))
theorem zgT(N:Int)(p:Str)(r:List D)(hr: ∀d∈r,plain d=true)(n:Nat):w2M ⟨[some (.int N),some (.tup (.str p::r))],[some (.int N),some (.tup (.str p::r))],n⟩= .ok (.bool (r2 N r)) ⟨[some (.int N),some (.tup (.str p::r))],[some (.int N),some (.tup (.str p::r))],n⟩:=by
 unfold w2M
 rcases r with _|⟨a,_|⟨b,r⟩⟩
 ·walk_at ""
  rfl
 ·walk_at ""
  rw[show(((2:Nat):Int)==2)=true from rfl]
  walk_at ""
  rw[z5u a 1 (N - 1) n (hr a (by simp))]
  walk_at ""
  rfl
 ·walk_at ""
  rw[show(((r.length+1+1+1:Nat):Int)==2)=false by simp;lia]
  walk_at ""
  rfl
theorem ziR(N:Int)(p:Str)(r:List D)(hr: ∀d∈r,plain d=true)(n:Nat):w3M ⟨[some (.int N),some (.tup (.str p::r))],[some (.int N),some (.tup (.str p::r))],n⟩= .ok (.bool (r3 N r)) ⟨[some (.int N),some (.tup (.str p::r))],[some (.int N),some (.tup (.str p::r))],n⟩:=by
 unfold w3M
 rcases r with _|⟨a,_|⟨b,_|⟨c,r⟩⟩⟩
 ·walk_at ""
  rfl
 ·walk_at ""
  rfl
 ·walk_at ""
  rw[show(((3:Nat):Int)==3)=true from rfl]
  walk_at ""
  rw[zcA a b N n (hr a (by simp)) (hr b (by simp))]
  walk_at ""
  rfl
 ·walk_at ""
  rw[show(((r.length+1+1+1+1:Nat):Int)==3)=false by simp;lia]
  walk_at ""
  rfl
theorem ziS(N:Int)(p:Str)(r:List D)(hr: ∀d∈r,plain d=true)(n:Nat): ∃n',n<=n'/\w4M ⟨[some (.int N),some (.tup (.str p::r))],[some (.int N),some (.tup (.str p::r))],n⟩= .ok (.bool (r4 N r)) ⟨[some (.int N),some (.tup (.str p::r))],[some (.int N),some (.tup (.str p::r))],n'⟩:=by
 unfold w4M
 rcases r with _|⟨a,_|⟨b,_|⟨c,_|⟨d,r⟩⟩⟩⟩
 ·refine⟨n,Nat.le_refl _, ?_⟩
  walk_at ""
  rfl
 ·refine⟨n,Nat.le_refl _, ?_⟩
  walk_at ""
  rfl
 ·refine⟨n,Nat.le_refl _, ?_⟩
  walk_at ""
  rfl
 ·obtain⟨n1,g1,e1⟩:=za9 c 1 24 1039 n (hr c (by simp)) (by decide)
  walk_at ""
  rw[show(((4:Nat):Int)==4)=true from rfl]
  walk_at ""
  rw[zcA a b N n (hr a (by simp)) (hr b (by simp))]
  walk_at ""
  rw[show r4 N [a,b,c]=(strB N a b&&rowB 1 24 1039 c) from rfl]
  cases strB N a b with
  |false=>
   refine⟨n,Nat.le_refl _, ?_⟩
   walk_at ""
  |true=>
   refine⟨n1,g1, ?_⟩
   walk_at ""
   unfold z0A z1b
   walk_at ""
   rw[e1]
   walk_at ""
 ·refine⟨n,Nat.le_refl _, ?_⟩
  walk_at ""
  rw[show(((r.length+1+1+1+1+1:Nat):Int)==4)=false by simp;lia]
  walk_at ""
  rfl
theorem ziT(N:Int)(p:Str)(hp:Lo (sg p))(r:List D)(hr: ∀d∈r,plain d=true)(n:Nat): ∃n',n<=n'/\z2u [.int N, .tup (.str p::r)] n= .ok (.bool (wisB N p r)) [.int N, .tup (.str p::r)] n':=by
 have e1: ∀s:Stt,eqD (.str p) (.str (Str.ofString "border")) s= .ok (.bool (p==W1)) s:=fun s=>zbL hp lo_W.1
 have e2: ∀s:Stt,eqD (.str p) (.str (Str.ofString "joined")) s= .ok (.bool (p==W2)) s:=fun s=>zbL hp lo_W.2.1
 have e3: ∀s:Stt,eqD (.str p) (.str (Str.ofString "span")) s= .ok (.bool (p==W3)) s:=fun s=>zbL hp lo_W.2.2.1
 have e4: ∀s:Stt,eqD (.str p) (.str (Str.ofString "held")) s= .ok (.bool (p==W4)) s:=fun s=>zbL hp lo_W.2.2.2
 have e0:z3l=(seqS (sIf (mOr (mNot (z25 (mIsi "tuple" (mVar 1)))) (mNot (z25 (mVar 1)))) (sRet (mC (.bool false))) sNx)
  (seqS (sIf (mOr (mBoo (mBin (mBin (mVar 1) (mC (.int 0)) ixD) (mC (.str ("border" :Str))) eqD)) (mBoo (mBin (mBin (mVar 1) (mC (.int 0)) ixD) (mC (.str ("joined" :Str))) eqD))) (sRet w2M) sNx)
  (seqS (sIf (mBoo (mBin (mBin (mVar 1) (mC (.int 0)) ixD) (mC (.str ("span" :Str))) eqD)) (sRet w3M) sNx)
  (seqS (sIf (mBoo (mBin (mBin (mVar 1) (mC (.int 0)) ixD) (mC (.str ("held" :Str))) eqD)) (sRet w4M) sNx)
  (sRet (mC (.bool false))))))):=rfl
 unfold z2u wisB isBJ
 rw[e0]
 walk_at ""
 rw[show(!!(D.str p::r).isEmpty)=false from rfl]
 walk_at ""
 rw[e1]
 cases p==W1 with
 |true=>
  refine⟨n,Nat.le_refl _, ?_⟩
  walk_at ""
  rw[zgT N p r hr]
  walk_at ""
  rfl
 |false=>
  walk_at ""
  rw[e2]
  cases p==W2 with
  |true=>
   refine⟨n,Nat.le_refl _, ?_⟩
   walk_at ""
   rw[zgT N p r hr]
   walk_at ""
   rfl
  |false=>
   walk_at ""
   rw[e3]
   cases p==W3 with
   |true=>
    refine⟨n,Nat.le_refl _, ?_⟩
    walk_at ""
    rw[ziR N p r hr]
    walk_at ""
    rfl
   |false=>
    walk_at ""
    rw[e4]
    cases p==W4 with
    |true=>
     obtain⟨n1,g1,q1⟩:=ziS N p r hr n
     refine⟨n1,g1, ?_⟩
     walk_at ""
     rw[q1]
     walk_at ""
     rfl
    |false=>
     refine⟨n,Nat.le_refl _, ?_⟩
     walk_at ""
     rfl
noncomputable def z4Y(N:Int)(w:Str):Bool:=vOk N (Txt.split w (Str.ofString ":"))
noncomputable def wshV(w:Str):D:=vV (Txt.split w (Str.ofString ":"))
theorem zef(r:List Str): ∀d∈r.map z0y,plain d=true:=fun d hd=>by
 obtain⟨p,_,rfl⟩:=List.mem_map.mp hd
 exact zea p
theorem zgU{r:List Str}(h: ∀p∈r,p.length<=1000000): ∀d∈r.map z0F,plain d=true:=fun d hd=>by
 obtain⟨p,hp,rfl⟩:=List.mem_map.mp hd
 exact zav (h p hp)
theorem ziU(N:Int)(w:Str)(hw:w.length<=1000000)(hlo:Lo (sg w))(n:Nat): ∃n',n<=n'/\z0s [.int N, .str w] n=if z4Y N w=true then .ok (wshV w) [.int N, .str w] n' else .ex (.exc "NoText") [.int N, .str w] n':=by
 have hp: ∀p∈Txt.split w (Str.ofString ":"),p.length<=1000000:=fun p h=>Nat.le_trans (p_sh h) hw
 have hL: ∀p∈Txt.split w (Str.ofString ":"),Lo (sg p):=by
  rw[(sep1 58 _ z8L).1]
  exact z6n hlo
 have hq:=z1I (y:=Str.ofString ":") hw
 have hne:Txt.split w (Str.ofString ":")≠[]:=z2W
 unfold z0s z1x z4Y wshV
 rw[z48]
 walk_at ""
 rw[z2D]
 walk_at ""
 rw[zaw,z8K]
 walk_at ""
 rw[z3p zci (by rw[zl];lia)]
 walk_at ""
 generalize Txt.split w (Str.ofString ":")=ws at hp hq hL hne
 obtain⟨p,r,rfl⟩: ∃p r,ws=p::r:=by
  cases ws with
  |nil=>exact absurd rfl hne
  |cons p r=>exact⟨p,r,rfl⟩
 have hr:r.length<=1000002:=by simp only[List.length_cons] at hq;lia
 obtain⟨n1,g1,e1⟩:=z5x (m:=mSl (mVar 2) (some (mC (.int 1))) (some (mC (.int 3)))) (me:=z02 z0e [(mVar 0)]) (g:=rE) (items:=(r.take 2).map D.str) (l:=n+1) (n:=n+1) (n1:=n+1+1) (σ:=[some (.int N),some (.str w),some (.lst n ((p::r).map D.str)),none,none]) (tm:=[some (.int N),some (.str w)]) (by
  walk_at ""
  rw[<-List.map_cons,zcz]
  rfl) (by rw[zl,List.length_map,List.length_take];lia) (by
  intro d hd tm n
  obtain⟨x,h,rfl⟩:=List.mem_map.mp hd
  obtain⟨n',h1,e⟩:=ze0 x (hp x (List.mem_cons_of_mem _ (List.mem_of_mem_take h))) n
  refine⟨n',h1, ?_⟩
  walk_at ""
  rw[e]
  walk_at ""
  rfl)
 rw[zai] at e1
 obtain⟨n2,g2,e2⟩:=z5x (m:=mSl (mVar 2) (some (mC (.int 3))) none) (me:=z02 z0l [(mVar 0)]) (g:=rDd) (items:=(r.drop 2).map D.str) (l:=n1+1) (n:=n1+1) (n1:=n1+1+1) (σ:=[some (.int N),some (.str w),some (.lst n ((p::r).map D.str)),some (.tup ((r.take 2).map z0y)),none]) (tm:=[some (.tup (.str p::(r.take 2).map z0y)),some (.int N),some (.str w)]) (by
  walk_at ""
  rw[<-List.map_cons,show(3:Int)=((3:Nat):Int) from rfl,zcx 3]
  rfl) (by rw[zl,List.length_map,List.length_drop];lia) (by
  intro d hd tm n
  obtain⟨x,h,rfl⟩:=List.mem_map.mp hd
  obtain⟨n',h1,e⟩:=zgy x (hp x (List.mem_cons_of_mem _ (List.mem_of_mem_drop h))) n
  refine⟨n',h1, ?_⟩
  walk_at ""
  rw[e]
  walk_at ""
  rfl)
 rw[zau] at e2
 obtain⟨n3,g3,e3⟩:=ziT N p (hL p (by simp)) ((r.take 2).map z0y++(r.drop 2).map z0F) (fun d hd=>(List.mem_append.mp hd).elim (zef _ d) (zgU (fun x hx=>hp x (List.mem_cons_of_mem _ (List.mem_of_mem_drop hx))) d)) (n2+1)
 rw[zee] at e3
 refine⟨n3,by lia, ?_⟩
 simp only[List.map_cons] at e1 e2⊢
 rw[e1]
 walk_at ""
 rw[za0 (by rw[zl];simp only[List.length_cons,List.length_nil,List.length_map,List.length_take];lia)]
 walk_at ""
 rw[e2]
 walk_at ""
 rw[za0 (by rw[zl];simp only[List.length_cons,List.length_map,List.length_take,List.length_drop];lia)]
 walk_at ""
 rw[e3]
 by_cases h:vOk N (p::r)=true
 ·rw[if_pos h,h]
  walk_at ""
  rw[<-zgS N _ h]
  rfl
 ·rw[if_neg h,Bool.eq_false_iff.mpr h]
  walk_at ""
  rw[z3o]
  rfl
noncomputable def szO(p:Str):Option Int:=if isBJ p=true then some 2 else if(p==W3)=true then some 3 else if(p==W4)=true then some 4 else none
theorem zgV(p:Str):z31 [.str (Str.ofString "border"), .str (Str.ofString "joined"), .str (Str.ofString "span"), .str (Str.ofString "held")] [.int 2, .int 2, .int 3, .int 4] (.inr p)=(szO p).map D.int:=by
 have hk: ∀(x:Str) (a b:Option D),(if z4F (.str x)=some (.inr p) then a else b)=if(p==x)=true then a else b:=fun x a b=>by
  have:(z4F (.str x)=some (.inr p))↔(p==x)=true:=by
   rw[beq_iff_eq]
   constructor
   ·intro h;simp only[z4F,Option.some.injEq,Sum.inr.injEq] at h;exact h.symm
   ·rintro rfl;rfl
  by_cases q:(p==x)=true
  ·rw[if_pos q,if_pos (this.mpr q)]
  ·rw[if_neg q,if_neg (fun z=>q (this.mp z))]
 simp only[z31,hk]
 unfold szO isBJ
 rw[show Str.ofString "border" =W1 from rfl,show Str.ofString "joined" =W2 from rfl,show Str.ofString "span" =W3 from rfl,show Str.ofString "held" =W4 from rfl]
 cases p==W1<;>cases p==W2<;>cases p==W3<;>cases p==W4<;>rfl
noncomputable abbrev dc4(n:Nat):D:= .dct n (.non::[.str (Str.ofString "border"), .str (Str.ofString "joined"), .str (Str.ofString "span"), .str (Str.ofString "held")]) [.int 2, .int 2, .int 3, .int 4]
theorem x_dc{σ tm:List (Option D)}{n:Nat}:dcM [.inr ("border" :Str), .inr ("joined" :Str), .inr ("span" :Str), .inr ("held" :Str)] [.int 2, .int 2, .int 3, .int 4] ⟨σ,tm,n⟩= .ok (dc4 n) ⟨σ,tm,n+1⟩:=(rfl)
theorem zgW{p:Str}{n:Nat}{s:Stt}:z9G (.str p) (dc4 n) s= .ok (.bool (!(szO p).isSome)) s:=by
 show rt (D.bool (!(z31 _ _ (.inr p)).isSome)) s=_
 rw[zgV,Option.isSome_map]
 rfl
theorem zgX{p:Str}{n:Nat}{k:Int}{s:Stt}(h:szO p=some k):dgtP (dc4 n) (.str p) s= .ok (.int k) s:=by
 show(match z31 _ _ (.inr p) with|some d=>rt d|none=>fl:M D) s=_
 rw[zgV,h]
 rfl
theorem zcB{N:Int}{p:Str}{r:List Str}(h:szO p≠some ((r.length+1:Nat):Int)):vOk N (p::r)=false:=by
 unfold szO at h
 rcases r with _|⟨a,_|⟨b,_|⟨c,_|⟨d,r⟩⟩⟩⟩
 ·rfl
 ·cases q:isBJ p with
  |true=>rw[q] at h;exact absurd rfl h
  |false=>simp only[vOk,q,Bool.false_and]
 ·cases q:p==W3 with
  |true=>rw[(n34 q).1,q] at h;exact absurd rfl h
  |false=>simp only[vOk,q,Bool.false_and]
 ·cases q:p==W4 with
  |true=>rw[(n43 q).1,(n43 q).2,q] at h;exact absurd rfl h
  |false=>simp only[vOk,q,Bool.false_and]
 ·rfl
theorem ziV{r:List Str}(h:r.length=2): ∃a b,r=[a,b]:=by
 match r,h with
 |[a,b],_=>exact⟨a,b,rfl⟩
theorem ziW{r:List Str}(h:r.length=3): ∃a b c,r=[a,b,c]:=by
 match r,h with
 |[a,b,c],_=>exact⟨a,b,c,rfl⟩
theorem zeg{p:Str}{k:Int}(h:szO p=some k):(k=2/\isBJ p=true)\/(k=3/\(p==W3)=true)\/(k=4/\(p==W4)=true):=by
 unfold szO at h
 split at h
 ·rename_i q;cases h;exact .inl ⟨rfl,q⟩
 ·split at h
  ·rename_i q;cases h;exact .inr (.inl ⟨rfl,q⟩)
  ·split at h
   ·rename_i q;cases h;exact .inr (.inr ⟨rfl,q⟩)
   ·cases h
theorem zgY(N:Int)(w:Str)(hw:w.length<=1000000)(n:Nat): ∃n',n<=n'/\z1g [.int N, .str w] n= .ok (if z4Y N w=true then wshV w else .non) [.int N, .str w] n':=by
 have hp: ∀p∈Txt.split w (Str.ofString ":"),p.length<=1000000:=fun p h=>Nat.le_trans (p_sh h) hw
 have hq:=z1I (y:=Str.ofString ":") hw
 have hne:Txt.split w (Str.ofString ":")≠[]:=z2W
 unfold z1g z2C z4Y wshV
 walk_at ""
 rw[z3p zci (by rw[zl];lia)]
 walk_at ""
 generalize Txt.split w (Str.ofString ":")=ws at hp hq hne
 obtain⟨p,r,rfl⟩: ∃p r,ws=p::r:=by
  cases ws with
  |nil=>exact absurd rfl hne
  |cons p r=>exact⟨p,r,rfl⟩
 rw[x_dc]
 walk_at ""
 rw[zgW]
 cases hs:szO p with
 |none=>
  refine⟨n+1+1,by lia, ?_⟩
  rw[zcB (by rw[hs];simp),if_neg (by decide),Option.isSome_none]
  walk_at ""
 |some k=>
  rw[Option.isSome_some]
  walk_at ""
  rw[zgX hs]
  walk_at ""
  simp only[List.length_map]
  by_cases hk:k=((r.length+1:Nat):Int)
  ·obtain⟨n1,g1,e1⟩:=z5x (m:=mSl (mVar 2) (some (mC (.int 1))) (some (mC (.int 3)))) (me:=z02 z0J [(mVar 0)]) (g:=lE) (items:=(r.take 2).map D.str) (l:=n+1+1) (n:=n+1+1) (n1:=n+1+1+1) (σ:=[some (.int N),some (.str w),some (.lst n ((p::r).map D.str)),some (dc4 (n+1)),none,none]) (tm:=[some (.int N),some (.str w)]) (by
    walk_at ""
    rw[<-List.map_cons,zcz]
    rfl) (by rw[zl,List.length_map,List.length_take];lia) (by
    intro d hd tm n
    obtain⟨x,h,rfl⟩:=List.mem_map.mp hd
    refine⟨n,Nat.le_refl _, ?_⟩
    walk_at ""
    rw[zbO x (hp x (List.mem_cons_of_mem _ (List.mem_of_mem_take h)))]
    walk_at ""
    rfl)
   rw[zcu] at e1
   simp only[List.map_cons] at e1
   rw[<-hk,beq_self_eq_true]
   walk_at ""
   rw[e1]
   walk_at ""
   rcases zeg hs with⟨rfl,hf⟩|⟨rfl,hf⟩|⟨rfl,hf⟩
   ·obtain⟨a,rfl⟩: ∃a,r=[a]:=List.length_eq_one_iff.mp (by lia)
    refine⟨n1+1,by lia, ?_⟩
    have hO:vOk N [p,a]=(isBJ p&&(decide (0<lawI a)&&decide (lawI a<N))):=rfl
    have hV:vV [p,a]= .tup [.str p, .int (lawI a)]:=rfl
    rw[hO,hV,hf,Bool.true_and]
    simp only[List.map_cons,List.map_nil,List.length_cons,List.length_nil,List.take_succ_cons,List.take_nil]
    rw[show(((0+1+1:Nat):Int)==2)=true from rfl,show iL [lawI a]=[D.int (lawI a)] from rfl]
    walk_at ""
    by_cases h1:0<lawI a
    ·simp only[h1,decide_true,Bool.true_and]
     walk_at ""
     by_cases h2:lawI a<N
     ·simp only[h2,decide_true,if_true]
      walk_at ""
     ·simp only[h2,decide_false,Bool.false_eq_true,if_false]
      walk_at ""
    ·simp only[h1,decide_false,Bool.false_and,Bool.false_eq_true,if_false]
     walk_at ""
   ·obtain⟨a,b,rfl⟩: ∃a b,r=[a,b]:=ziV (by lia)
    refine⟨n1+1,by lia, ?_⟩
    have hO:vOk N [p,a,b]=(p==W3&&stL (lawI a) (lawI b) N):=rfl
    have hV:vV [p,a,b]= .tup [.str p, .int (lawI a), .int (lawI b)]:=rfl
    rw[hO,hV,hf,Bool.true_and]
    simp only[List.map_cons,List.map_nil,List.length_cons,List.length_nil,List.take_succ_cons,List.take_zero]
    rw[show(((0+1+1+1:Nat):Int)==2)=false from rfl,show iL [lawI a,lawI b]=[D.int (lawI a), .int (lawI b)] from rfl]
    walk_at ""
    rw[z8k]
    walk_at ""
    unfold stL
    by_cases h1:0<=lawI a
    ·simp only[h1,decide_true,Bool.true_and]
     walk_at ""
     rw[zcy]
     walk_at ""
     by_cases h2:lawI a<lawI b
     ·simp only[h2,decide_true,Bool.true_and]
      walk_at ""
      by_cases h3:lawI b<=N
      ·simp only[h3,decide_true,if_true]
       walk_at ""
       rfl
      ·simp only[h3,decide_false,Bool.false_eq_true,if_false]
       walk_at ""
     ·simp only[h2,decide_false,Bool.false_and,Bool.false_eq_true,if_false]
      walk_at ""
    ·simp only[h1,decide_false,Bool.false_and,Bool.false_eq_true,if_false]
     walk_at ""
   ·obtain⟨a,b,c,rfl⟩: ∃a b c,r=[a,b,c]:=ziW (by lia)
    have hO:vOk N [p,a,b,c]=(p==W4&&(stL (lawI a) (lawI b) N&&rowOk c 24 1039)):=rfl
    have hV:vV [p,a,b,c]= .tup [.str p, .int (lawI a), .int (lawI b), .tup (iL (lawD c))]:=rfl
    obtain⟨n2,g2,e2⟩:=zar c (hp c (by simp)) 24 1039 (n1+1)
    rw[show((24:Nat):Int)=24 from rfl] at e2
    rw[hO,hV,hf,Bool.true_and]
    simp only[List.map_cons,List.map_nil,List.length_cons,List.length_nil,List.take_succ_cons,List.take_zero]
    rw[show(((0+1+1+1+1:Nat):Int)==2)=false from rfl,show iL [lawI a,lawI b]=[D.int (lawI a), .int (lawI b)] from rfl]
    walk_at ""
    rw[z8k]
    walk_at ""
    unfold stL
    by_cases h1:0<=lawI a
    ·simp only[h1,decide_true,Bool.true_and]
     walk_at ""
     rw[zcy]
     walk_at ""
     by_cases h2:lawI a<lawI b
     ·simp only[h2,decide_true,Bool.true_and]
      walk_at ""
      by_cases h3:lawI b<=N
      ·simp only[h3,decide_true,Bool.true_and]
       walk_at ""
       rw[show(((0+1+1+1+1:Nat):Int)==3)=false from rfl]
       walk_at ""
       rw[e2]
       refine⟨n2,by lia, ?_⟩
       walk_at ""
       unfold rowL
       cases rowOk c 24 1039 with
       |true=>
        simp only[if_true]
        rw[show ∀ds s,isN (.tup ds) .non s= .ok (.bool false) s from fun _ _=>rfl]
        walk_at ""
       |false=>
        simp only[Bool.false_eq_true,if_false]
        rw[show ∀s,isN .non .non s= .ok (.bool true) s from fun _=>rfl]
        walk_at ""
      ·simp only[h3,decide_false,Bool.false_and,Bool.false_eq_true,if_false]
       refine⟨n1+1,by lia, ?_⟩
       walk_at ""
     ·simp only[h2,decide_false,Bool.false_and,Bool.false_eq_true,if_false]
      refine⟨n1+1,by lia, ?_⟩
      walk_at ""
    ·simp only[h1,decide_false,Bool.false_and,Bool.false_eq_true,if_false]
     refine⟨n1+1,by lia, ?_⟩
     walk_at ""
  ·refine⟨n+1+1,by lia, ?_⟩
   rw[zcB (by rw[hs];intro q;exact hk (Option.some.inj q)),if_neg (by decide),show(k==((r.length+1:Nat):Int))=false from beq_eq_false_iff_ne.mpr hk]
   walk_at ""
theorem zaC{m:M D}{tb:Str->Option FM}{ms:List (M D)}{s:Stt}:z4H m tb ms s=(m s).bnd (vK tb ms):=by
 unfold z4H bd Res.bnd
 cases m s with
 |ok d s1=>cases d<;>rfl
 |ex d s1=>rfl
 |no=>rfl
theorem ziX{s:Stt}:iK tb_0 (.exc "NoText") s= .ok (.bool false) s:=z73 (by decide+kernel)
theorem ziY{s:Stt}:iK tb_1 (.exc "NoText") s= .ok (.bool false) s:=z73 (by decide+kernel)
theorem ziZ{s:Stt}:iK tb_2 (.exc "NoText") s= .ok (.bool false) s:=z73 (by decide+kernel)
theorem zj0{s:Stt}:iK tb_3 (.exc "NoText") s= .ok (.bool true) s:=z73 (by decide+kernel)
theorem zj1{s:Stt}:iK tb_4 (.exc "NoText") s= .ok (.bool true) s:=z73 (by decide+kernel)
theorem zj2:z1a "NoText" =true:=by decide+kernel
noncomputable def hdM:MS:=(seqS (sAsg (.nm 4) (mIsX tb_0 (mVar 3)))
 (seqS (sAsg (.nm 5) (mIsX tb_1 (mVar 3)))
 (seqS (sAsg (.nm 6) (mOrV (mIsX tb_2 (mVar 3)) (z3M (mIsX tb_3 (mVar 3)))))
 (sRet (mBin (mCB [(mC (.str ("other" :Str))),(mC .non)] lstM) (mCB [(z1J (mIsX tb_4 (mVar 3)) (z1J (z3M (mVar 4)) (z1J (z3M (mVar 5)) (z3M (mVar 6)))))] intD) ixD)))))
theorem zj3(a b c:Option D)(o4 o5 o6:Option D)(tm:List (Option D))(n:Nat): ∃σ,hdM ⟨[a,b,c,some (.exc "NoText"),o4,o5,o6],tm,n⟩= .rt .non ⟨σ,tm,n+1⟩:=by
 unfold hdM
 walk_at ""
 rw[za7]
 walk_at ""
 rw[ziX]
 walk_at ""
 rw[za7]
 walk_at ""
 rw[ziY]
 walk_at ""
 rw[za7]
 walk_at ""
 rw[ziZ]
 walk_at ""
 rw[za7]
 walk_at ""
 rw[zj0]
 walk_at ""
 rw[za7]
 walk_at ""
 rw[zj1]
 walk_at ""
 exact⟨_,rfl⟩
noncomputable def tbF:Str->Option FM:=(fun c=>List.lookup c [("read_keys_text",z09),("read_word",z0m)])
theorem tb_k:tbF "read_keys_text" =some z09:=rfl
theorem tb_w:tbF "read_word" =some z0m:=by
 have h:(("read_word" :Str)== "read_keys_text")=false:=by decide+kernel
 unfold tbF
 rw[List.lookup_cons,h]
 rfl
noncomputable def tdM:MS:=(seqS (sIf (mBoo (mBin (mVar 0) (mC (.int 2)) eqD)) (sRet (z1m z0s [(mVar 1),(mVar 2)])) sNx)
 (sRet (z4H (mBin (mCB [(mFnv "read_keys_text"),(mFnv "read_word")] lstM) (mVar 0) ixD) tbF [(mVar 2)])))
theorem zcC:z6d=sTry z1a 3 tdM hdM:=rfl
theorem z7J(k N:Int)(t d:D)(n n':Nat)(h:tdM ⟨[some (.int k),some (.int N),some t,none,none,none,none],[some (.int k),some (.int N),some t],n⟩= .rt d ⟨[some (.int k),some (.int N),some t,none,none,none,none],[some (.int k),some (.int N),some t],n'⟩):z0D [.int k, .int N,t] n= .ok d [.int k, .int N,t] n':=by
 unfold z0D
 rw[zcC]
 walk_at ""
 rw[zgh,h,ziw]
 walk_at ""
theorem z41(k N:Int)(t:D)(n n':Nat)(h:tdM ⟨[some (.int k),some (.int N),some t,none,none,none,none],[some (.int k),some (.int N),some t],n⟩= .ex (.exc "NoText") ⟨[some (.int k),some (.int N),some t,none,none,none,none],[some (.int k),some (.int N),some t],n'⟩):z0D [.int k, .int N,t] n= .ok .non [.int k, .int N,t] (n'+1):=by
 obtain⟨σ,e⟩:=zj3 (some (.int k)) (some (.int N)) (some t) none none none [some (.int k),some (.int N),some t] n'
 unfold z0D
 rw[zcC]
 walk_at ""
 rw[zgh,h,zix zj2,show z2L [some (D.int k),some (D.int N),some t].length [some (D.int k),some (D.int N),some t]=[some (D.int k),some (D.int N),some t] from rfl,show[some (D.int k),some (D.int N),some t,none,none,none,none].set 3 (some (D.exc "NoText"))=[some (D.int k),some (D.int N),some t,some (D.exc "NoText"),none,none,none] from rfl,e,zgi]
 walk_at ""
theorem z7K(N:Int)(t:D)(n:Nat):tdM ⟨[some (.int 2),some (.int N),some t,none,none,none,none],[some (.int 2),some (.int N),some t],n⟩=((z2G (z0s [.int N,t] n) [.int N,t] ⟨[some (.int 2),some (.int N),some t,none,none,none,none],[some (.int 2),some (.int N),some t],n⟩).lf fun d s=> .rt d s).sq (sRet (z4H (mBin (mCB [(mFnv "read_keys_text"),(mFnv "read_word")] lstM) (mVar 0) ixD) tbF [(mVar 2)])):=by
 unfold tdM
 walk_at ""
 rw[z2D]
 walk_at ""
theorem z7L(N:Int)(t:D)(n:Nat):tdM ⟨[some (.int 0),some (.int N),some t,none,none,none,none],[some (.int 0),some (.int N),some t],n⟩=(z2G (z09 [t] (n+1)) [t] ⟨[some (.int 0),some (.int N),some t,none,none,none,none],[some (.int 0),some (.int N),some t],n+1⟩).lf fun d s=> .rt d s:=by
 unfold tdM
 walk_at ""
 rw[zaC]
 walk_at ""
 rw[zbB]
 walk_at ""
 rw[zbB]
 walk_at ""
 rw[zgg tb_k,z2D]
 walk_at ""
theorem z7M(N:Int)(t:D)(n:Nat):tdM ⟨[some (.int 1),some (.int N),some t,none,none,none,none],[some (.int 1),some (.int N),some t],n⟩=(z2G (z0m [t] (n+1)) [t] ⟨[some (.int 1),some (.int N),some t,none,none,none,none],[some (.int 1),some (.int N),some t],n+1⟩).lf fun d s=> .rt d s:=by
 unfold tdM
 walk_at ""
 rw[zaC]
 walk_at ""
 rw[zbB]
 walk_at ""
 rw[zbB]
 walk_at ""
 rw[zgg tb_w,z2D]
 walk_at ""
theorem zcD(w:Str)(hw:w.length<=1000000)(N:Int)(n:Nat): ∃L n',n<=n'/\z0D [.int 0, .int N, .str w] n= .ok (if kyOk w=true then .lst L (iL (kyV w)) else .non) [.int 0, .int N, .str w] n':=by
 obtain⟨L,n1,g1,e1⟩:=ziQ w hw (n+1)
 by_cases h:kyOk w=true
 ·rw[if_pos h] at e1
  refine⟨L,n1,by lia, ?_⟩
  rw[if_pos h]
  refine z7J 0 N _ _ n n1 ?_
  rw[z7L,e1,z8K,zbw]
 ·rw[if_neg h] at e1
  refine⟨L,n1+1,by lia, ?_⟩
  rw[if_neg h]
  refine z41 0 N _ n n1 ?_
  rw[z7L,e1,z6i,z6j]
theorem zcE(w:Str)(hw:w.length<=1000000)(N:Int)(n:Nat): ∃n',n<=n'/\z0D [.int 1, .int N, .str w] n= .ok (if z2U w=true then z77 w else .non) [.int 1, .int N, .str w] n':=by
 obtain⟨n1,g1,e1⟩:=ziM w hw (n+1)
 by_cases h:z2U w=true
 ·rw[if_pos h] at e1⊢
  refine⟨n1,by lia,z7J 1 N _ _ n n1 ?_⟩
  rw[z7M,e1,z8K,zbw]
 ·rw[if_neg h] at e1⊢
  refine⟨n1+1,by lia,z41 1 N _ n n1 ?_⟩
  rw[z7M,e1,z6i,z6j]
theorem zcF(w:Str)(hw:w.length<=1000000)(hlo:Lo (sg w))(N:Int)(n:Nat): ∃n',n<=n'/\z0D [.int 2, .int N, .str w] n= .ok (if z4Y N w=true then wshV w else .non) [.int 2, .int N, .str w] n':=by
 obtain⟨n1,g1,e1⟩:=ziU N w hw hlo n
 by_cases h:z4Y N w=true
 ·rw[if_pos h] at e1⊢
  refine⟨n1,by lia,z7J 2 N _ _ n n1 ?_⟩
  rw[z7K,e1,z8K,zbw,zfT]
 ·rw[if_neg h] at e1⊢
  refine⟨n1+1,by lia,z41 2 N _ n n1 ?_⟩
  rw[z7K,e1,z6i,z6j,za8]
theorem zj4(t:D)(n:Nat)(h:plain t=true)(hs: ∀x,t≠ .str x):z09 [t] n= .ex (.exc "NoText") [t] n:=by
 unfold z09 z0C
 rw[z48]
 walk_at ""
 rw[z2D]
 walk_at ""
 rw[zax t n h hs,z6i,z6j,za8]
 rfl
theorem zj5(t:D)(n:Nat)(h:plain t=true)(hs: ∀x,t≠ .str x):z0m [t] n= .ex (.exc "NoText") [t] n:=by
 unfold z0m z1w
 rw[z48]
 walk_at ""
 rw[z2D]
 walk_at ""
 rw[zax t n h hs,z6i,z6j,za8]
 rfl
theorem zj6(N:Int)(t:D)(n:Nat)(h:plain t=true)(hs: ∀x,t≠ .str x):z0s [.int N,t] n= .ex (.exc "NoText") [.int N,t] n:=by
 unfold z0s z1x
 rw[z48]
 walk_at ""
 rw[z2D]
 walk_at ""
 rw[zax t n h hs,z6i,z6j,za8]
 rfl
theorem zeh(k:Nat)(hk:k<3)(N:Int)(t:D)(n:Nat)(h:(plain t=true/\∀x,t≠ .str x)\/t= .str (Str.ofString "")): ∃n',n<=n'/\z0D [.int (k:Nat), .int N,t] n= .ok .non [.int (k:Nat), .int N,t] n':=by
 have hk':k=0\/k=1\/k=2:=by lia
 rcases h with⟨h,hs⟩|rfl
 ·rcases hk' with rfl|rfl|rfl
  ·refine⟨n+1+1,by lia,z41 0 N _ n (n+1) ?_⟩
   rw[z7L,zj4 t _ h hs,z6i,z6j]
  ·refine⟨n+1+1,by lia,z41 1 N _ n (n+1) ?_⟩
   rw[z7M,zj5 t _ h hs,z6i,z6j]
  ·refine⟨n+1,by lia,z41 2 N _ n n ?_⟩
   rw[z7K,zj6 N t _ h hs,z6i,z6j,za8]
 ·have sp: ∀c,Txt.split (Str.ofString "") ⟨#[c]⟩=[Str.ofString ""]:=fun c=>zbH (by simp) (fun y hy=>by rw[List.mem_singleton.mp hy,ze1];exact List.not_mem_nil) rfl
  have l0:(Str.ofString "").length=0:=rfl
  rcases hk' with rfl|rfl|rfl
  ·obtain⟨L,n',g,e⟩:=zcD (Str.ofString "") (by rw[l0];decide) N n
   rw[if_neg (by decide+kernel)] at e
   exact⟨n',g,e⟩
  ·obtain⟨n',g,e⟩:=zcE (Str.ofString "") (by rw[l0];decide) N n
   rw[if_neg (by unfold z2U;rw[(sep1 47 _ zbP).1,sp];decide)] at e
   exact⟨n',g,e⟩
  ·obtain⟨n',g,e⟩:=zcF (Str.ofString "") (by rw[l0];decide) (by rw[ze1];intro _ h;cases h) N n
   rw[if_neg (by unfold z4Y;rw[(sep1 58 _ z8L).1,sp];exact Bool.false_ne_true)] at e
   exact⟨n',g,e⟩
noncomputable def Bd(M:Int)(s:List Int):Prop:= ∀i∈s,0<=i/\i<M
theorem zgZ{M:Int}: ∀{ds:List D},(∀d∈ds,∃i:Int,0<=i/\i<M/\d= .int i)->∃s,ds=iL s/\Bd M s
 |[],_=>⟨[],rfl,fun _ h=>nomatch h⟩
 |d::ds,h=>by
  obtain⟨i,h1,h2,rfl⟩:=h d (by simp)
  obtain⟨s,rfl,hs⟩:=zgZ (ds:=ds) fun d hd=>h d (by simp[hd])
  exact⟨i::s,rfl,fun j hj=>(List.mem_cons.mp hj).elim (fun e=>e▸⟨h1,h2⟩) (hs j)⟩
theorem Bd.nm{M:Int}{s:List Int}(h:Bd M s)(hM:M<=100000):Nm s:=fun i hi=>by have:=h i hi;lia
theorem at_2{a b:Int}{r:Int}(h0:0<=r)(h1:r<2)(lo hi:Int)(q: ∀v∈[a,b],lo<v/\v<=hi): ∃v:Int,lo<v/\v<=hi/\atI [D.int a, .int b] r=some (.int v):=by
 have:r=0\/r=1:=by lia
 rcases this with rfl|rfl
 ·exact⟨a,(q _ (by simp)).1,(q _ (by simp)).2,at0⟩
 ·exact⟨b,(q _ (by simp)).1,(q _ (by simp)).2,at1⟩
theorem fl2{l m:Nat}(h:m≠l){a b:Int}(d:D):rp (pl l d) (.lst m [.int a, .int b])= .lst m [.int a, .int b]:=by rw[zaa h];rfl
noncomputable def lt(k:Int):Str:=⟨#[97+k.toNat]⟩
theorem zj7(k:Int):sg (lt k)=[97+k.toNat]:=rfl
noncomputable def gL:D->D:=fun d=>match d with| .int i=>D.str (lt i)|_=> .non
theorem zh0(s:List Int):(iL s).map gL=(s.map lt).map D.str:=by
 unfold iL
 rw[List.map_map,List.map_map]
 rfl
theorem zj8{k:Int}{s:Stt}(h0:0<=k)(h1:k<26):ixS (.str ABC) (.int k) s= .ok (.str (lt k)) s:=by
 have hl:ABC.length=26:=by rw[<-z1Q,z8j];rfl
 have hc:ABC.cps[k.toNat]? =some (97+k.toNat):=by
  rw[<-Array.getElem?_toList]
  show(sg ABC)[k.toNat]? =_
  rw[z8j,List.getElem?_range' (by lia)]
  simp
 unfold ixS
 dsimp only
 rw[if_pos ⟨h0,by lia,by rw[hl];lia⟩,hc]
 rfl
theorem tx_w{x:Str}(h1:x.length<=6)(h2:((sg x).all fun c=>decide (c<128))=true):Tx 6 x:=⟨h1,fun c hc=>of_decide_eq_true (List.all_eq_true.mp h2 c hc)⟩
theorem zj9:Tx 6 (Str.ofString "border"):=tx_w (by decide+kernel) (by decide+kernel)
theorem zja:Tx 6 (Str.ofString "joined"):=tx_w (by decide+kernel) (by decide+kernel)
theorem zjb:Tx 6 (Str.ofString "span"):=tx_w (by decide+kernel) (by decide+kernel)
theorem zjc:Tx 6 (Str.ofString "held"):=tx_w (by decide+kernel) (by decide+kernel)
theorem zcG:Tx 6 (Str.ofString "-"):=tx_w (by decide+kernel) (by decide+kernel)
inductive GW:D->Prop
 |bj (a:Str) (i:Int) (ha:Tx 6 a) (h:0<=i/\i<100000):GW (.tup [.str a, .int i])
 |sp (a:Str) (i j:Int) (ha:Tx 6 a) (h:0<=i/\i<100000) (h':0<=j/\j<100000):GW (.tup [.str a, .int i, .int j])
 |he (a:Str) (i j:Int) (s:List Int) (ha:Tx 6 a) (h:0<=i/\i<100000) (h':0<=j/\j<100000) (hs:Nm s) (h1:1<=s.length) (h2:s.length<=24):GW (.tup [.str a, .int i, .int j, .tup (iL s)])
theorem tx_n{i:Int}(h:0<=i/\i<100000):Tx 150 (num i):=⟨Nat.le_trans (zcd h.1 h.2) (by decide),zak h.1⟩
noncomputable def dd(s:List Int):Str:=if s.isEmpty=true then Str.ofString "-" else dt s
theorem zei{s:List Int}(h:Nm s)(hl:s.length<=24):Tx 150 (dd s):=by
 unfold dd
 split
 ·exact zcG.up (by decide)
 ·exact⟨Nat.le_trans (zcj h hl).1 (by decide),ziK h⟩
theorem Tx.joinB{ys:List Str}{N B:Nat}(h: ∀y∈ys,Tx B y)(hl:ys.length<=N):Tx (N*B) (Txt.join (Str.ofString "") ys)/\(ys.map (·.length)).sum+ys.length*(Str.ofString "").length<=N*B:=by
 have h1:=zgC (z:=Str.ofString "") (ys:=ys) (B:=B) fun y hy=>(h y hy).1
 have h3:ys.length*(B+(Str.ofString "").length)<=N*B:=by rw[ziI];exact Nat.mul_le_mul_right _ hl
 refine⟨⟨by lia, ?_⟩,by lia⟩
 rw[z4U,ze1]
 refine ze3 (by simp[Lo]) fun x hx=> ?_
 obtain⟨y,hy,rfl⟩:=List.mem_map.mp hx
 exact(h y hy).2
theorem zh1{B:Nat}: ∀{ws:List Str},(∀w∈ws,Tx B w)->Wz ws<=ws.length*(B+1)
 |[],_=>by simp[Wz]
 |w::ws,h=>by
  have h1:=(h w (by simp)).1
  have h2:=zh1 (ws:=ws) fun x hx=>h x (by simp[hx])
  simp only[Wz,List.map_cons,List.sum_cons,List.length_cons,Nat.add_mul,Nat.one_mul] at h2⊢
  lia
theorem z78{c:Nat}(hc:c<128){ws:List Str}(h: ∀w∈ws,Tx 150 w)(hl:ws.length<=4):Tx 1000 (Txt.join ⟨#[c]⟩ ws)/\(ws.map (·.length)).sum+ws.length*(⟨#[c]⟩:Str).length<=1000:=by
 obtain⟨t1,t2⟩:=Tx.joinW hc fun w hw=>(h w hw).2
 have h3:=zh1 h
 have h4:ws.length*(150+1)<=4*151:=Nat.mul_le_mul_right _ hl
 exact⟨t1.up (by lia),by lia⟩
theorem zh2{a b c d:D}{σ tm:List (Option D)}{n:Nat}:lstM [a,b,c,d] ⟨σ,tm,n⟩= .ok (.lst n [a,b,c,d]) ⟨σ,tm,n+1⟩:=(rfl)
noncomputable def gD:D->D
 | .tup ds=> .str (dd (ds.map fun d=>match d with| .int i=>i|_=>0))
 |_=> .non
theorem zh3(s:List Int):gD (.tup (iL s))= .str (dd s):=by
 have e: ∀s:List Int,(iL s).map (fun d:D=>match d with| .int i=>i|_=>0)=s:=fun s=>by
  induction s with
  |nil=>rfl
  |cons i s ih=>simp only[iL,List.map_cons] at ih⊢;rw[ih]
 simp only[gD]
 rw[e]
theorem z8l(l:Nat)(c x N M:Int)(n:Nat)(h:Bg c x)(hn:l<n)(h0:0<=N)(h1:N<=1000)(m0:0<M)(m1:M<1000000): ∃(s:List Int) (c' x':Int) (n':Nat),s.length=N.toNat/\Bd M s/\Bg c' x'/\n<=n'/\z0x [.lst l [.int c, .int x], .int N, .int M] n= .ok (.tup (iL s)) [.lst l [.int c', .int x'], .int N, .int M] n':=by
 unfold z0x z3n
 walk_at ""
 obtain⟨ys,b',n',g1,g2,g3,⟨c3,x3,rfl,h3⟩,g5,g6⟩:=za4 (l:=l) (ms:=[mVar 1]) (me:=z02 z04 [mVar 1,mVar 2]) (N:=N.toNat) (ix:=[0,2]) (Q:=fun _ y=> ∃i:Int,0<=i/\i<M/\y= .int i) (Bg:=fun b=> ∃c x,b=[D.int c, .int x]/\Bg c x) (fun _ _ _ _ h=>h) (s:=⟨[some (.lst l [.int c, .int x]),some (.int N),some (.int M)],[some (.lst l [.int c, .int x]),some (.int N),some (.int M)],n⟩) (j:=N) (σ0:=[some (.lst l [.int c, .int x]),some (.int N),some (.int M)]) (tm0:=[some (.lst l [.int c, .int x]),some (.int N),some (.int M)]) (n:=n)
  (by walk_at "") rfl ⟨by lia,by lia⟩ (by rw[zl];lia) ⟨c,x,rfl,h⟩ (by lia) (by walk_at "") (by walk_at "") (by simp only[List.map_cons,List.map_nil,List.getElem?_cons_zero,List.getElem?_cons_succ,Option.getD_some];walk_at "") (by
   rintro i hi b tm m ⟨c,x,rfl,hb⟩ hm hf
   obtain⟨r,c',x',hs0,hs1,h',e'⟩:=z0p l c x M m hb m0 (by lia)
   refine⟨.int r,[.int c', .int x'],m,⟨c',x',rfl,h'⟩,⟨r,hs0,hs1,rfl⟩,Nat.le_refl _,by simp[labs], ?_⟩
   simp only[List.map_cons,List.map_nil,List.getElem?_cons_zero,List.getElem?_cons_succ,Option.getD_some]
   walk_at ""
   rw[e',z6Z rfl rfl rfl (by walk_at "") hf]
   walk_at "")
 rw[g6]
 walk_at ""
 obtain⟨s,rfl,hs⟩:=zgZ g2
 exact⟨s,c3,x3,n'+1,by rw[<-g1,z35],hs,h3,by lia,rfl⟩
theorem zh4(l:Nat)(c x:Int)(n:Nat)(h:Bg c x)(hn:l<n): ∃(s g:List Int) (k w c' x':Int) (n':Nat),(Nm s/\s.length<=24)/\(Nm g/\g.length<=24)/\(0<=k/\k<100000)/\(0<=w/\w<100000)/\Bg c' x'/\n<=n'/\z3D [.lst l [.int c, .int x]] n= .ok (.tup [.tup (iL s), .tup (iL g), .int k, .int w]) [.lst l [.int c', .int x']] n':=by
 unfold z3D z69
 walk_at ""
 obtain⟨r1,c1,x1,p1,q1,b1,e1⟩:=z0p l c x 6 n h (by decide) (by decide)
 rw[e1,z03 rfl rfl rfl (fun q=>by walk_at "";rfl) (fun q=>by walk_at "";rfl)]
 walk_at ""
 obtain⟨s,c2,x2,n2,ls,is,b2,g2,e2⟩:=z8l l c1 x1 (1+r1) 40 n b1 hn (by lia) (by lia) (by decide) (by decide)
 rw[e2,z03 rfl rfl rfl (fun q=>by walk_at "";rfl) (fun q=>by walk_at "";rfl)]
 walk_at ""
 obtain⟨r3,c3,x3,p3,q3,b3,e3⟩:=z0p l c2 x2 4 n2 b2 (by decide) (by decide)
 rw[e3,z03 rfl rfl rfl (fun q=>by walk_at "";simp only[rL_i];rfl) (fun q=>by walk_at "";rfl)]
 walk_at ""
 obtain⟨g,c4,x4,n4,lg,ig,b4,g4,e4⟩:=z8l l c3 x3 (1+r3) 1000 n2 b3 (by lia) (by lia) (by lia) (by decide) (by decide)
 rw[e4,z03 rfl rfl rfl (fun q=>by walk_at "";simp only[rL_i];rfl) (fun q=>by walk_at "";rfl)]
 walk_at ""
 obtain⟨k,c5,x5,p5,q5,b5,e5⟩:=z0p l c4 x4 8 n4 b4 (by decide) (by decide)
 rw[e5,z03 rfl rfl rfl (fun q=>by walk_at "";simp only[rL_i];rfl) (fun q=>by walk_at "";simp only[rL_i];rfl)]
 walk_at ""
 obtain⟨r6,c6,x6,p6,q6,b6,e6⟩:=z0p l c5 x5 2 (n4+1) b5 (by decide) (by decide)
 rw[e6,z03 rfl rfl rfl (fun q=>by walk_at "";simp only[rL_i];rfl) (fun q=>by walk_at "";simp only[rL_i,fl2 (show n4≠l by lia)];rfl)]
 walk_at ""
 obtain⟨v,v0,v1,ev⟩:=at_2 (a:=10) (b:=10000) p6 q6 0 10000 (by decide)
 rw[ev]
 walk_at ""
 obtain⟨k7,c7,x7,p7,q7,b7,e7⟩:=z0p l c6 x6 v (n4+1) b6 (by lia) (by lia)
 rw[e7,z03 rfl rfl rfl (fun q=>by walk_at "";simp only[rL_i];rfl) (fun q=>by walk_at "";simp only[rL_i];rfl)]
 walk_at ""
 exact⟨s,g,k,k7,c7,x7,n4+1,⟨is.nm (by decide),by lia⟩,⟨ig.nm (by decide),by lia⟩,⟨p5,by lia⟩,⟨p7,by lia⟩,b7,by lia,rfl⟩
theorem zh5(l:Nat)(c x N:Int)(n:Nat)(h:Bg c x)(hn:l<n)(N0:1<=N)(N1:N<=24): ∃(w:D) (c' x':Int) (n':Nat),GW w/\Bg c' x'/\n<=n'/\z3E [.lst l [.int c, .int x], .int N] n= .ok w [.lst l [.int c', .int x'], .int N] n':=by
 unfold z3E z6a
 walk_at ""
 obtain⟨w,c1,x1,p1,q1,b1,e1⟩:=z0p l c x 4 n h (by decide) (by decide)
 rw[e1,z03 rfl rfl rfl (fun q=>by walk_at "";rfl) (fun q=>by walk_at "";rfl)]
 walk_at ""
 obtain⟨i,c2,x2,p2,q2,b2,e2⟩:=z0p l c1 x1 N n b1 (by lia) (by lia)
 rw[e2,z03 rfl rfl rfl (fun q=>by walk_at "";rfl) (fun q=>by walk_at "";rfl)]
 walk_at ""
 obtain⟨r,c3,x3,p3,q3,b3,e3⟩:=z0p l c2 x2 (N -i) n b2 (by lia) (by lia)
 rw[e3,z03 rfl rfl rfl (fun q=>by walk_at "";rfl) (fun q=>by walk_at "";rfl)]
 walk_at ""
 have fin: ∃(w':D) (c' x':Int) (n':Nat),GW w'/\Bg c' x'/\n<=n'/\(seqS (sIf (mBoo (mBin (mVar 2) (mC (.int 2)) eqD)) (sRet (mCB [(mC (.str ("span" :Str))),(mVar 3),(mVar 4)] tupD)) sNx) (sRet (mCB [(mC (.str ("held" :Str))),(mVar 3),(mVar 4),(z02 z0x [(mVar 0),(mBin (mC (.int 1)) (z02 z04 [(mVar 0),(mBin (mCB [(mC (.int 3)),(mC (.int 24))] lstM) (z02 z04 [(mVar 0),(mC (.int 2))]) ixD)]) addD),(mC (.int 1040))])] tupD)) ⟨[some (.lst l [.int c3, .int x3]),some (.int N),some (.int w),some (.int i),some (.int (i+1+r))],[some (.lst l [.int c3, .int x3]),some (.int N)],n⟩).fin= .ok w' [.lst l [.int c', .int x'], .int N] n':=by
  walk_at ""
  cases hw:(w==2) with
  |true=>
   walk_at ""
   exact⟨_,c3,x3,n, .sp _ i (i+1+r) zjb ⟨p2,by lia⟩ ⟨by lia,by lia⟩,b3,Nat.le_refl _,rfl⟩
  |false=>
   walk_at ""
   obtain⟨r4,c4,x4,p4,q4,b4,e4⟩:=z0p l c3 x3 2 (n+1) b3 (by decide) (by decide)
   rw[e4,z03 rfl rfl rfl (fun q=>by walk_at "";rfl) (fun q=>by walk_at "";simp only[fl2 (show n≠l by lia)];rfl)]
   walk_at ""
   obtain⟨v,v0,v1,ev⟩:=at_2 (a:=3) (b:=24) p4 q4 0 24 (by decide)
   rw[ev]
   walk_at ""
   obtain⟨r5,c5,x5,p5,q5,b5,e5⟩:=z0p l c4 x4 v (n+1) b4 (by lia) (by lia)
   rw[e5,z03 rfl rfl rfl (fun q=>by walk_at "";rfl) (fun q=>by walk_at "";rfl)]
   walk_at ""
   obtain⟨s,c6,x6,n6,ls,is,b6,g6,e6⟩:=z8l l c5 x5 (1+r5) 1040 (n+1) b5 (by lia) (by lia) (by lia) (by decide) (by decide)
   rw[e6,z03 rfl rfl rfl (fun q=>by walk_at "";rfl) (fun q=>by walk_at "";rfl)]
   walk_at ""
   exact⟨_,c6,x6,n6, .he _ i (i+1+r) s zjc ⟨p2,by lia⟩ ⟨by lia,by lia⟩ (is.nm (by decide)) (by lia) (by lia),b6,by lia,rfl⟩
 by_cases h1:w<2
 ·by_cases h2:1<N
  ·simp only[h1,decide_true]
   walk_at ""
   simp only[h2,decide_true]
   walk_at ""
   obtain⟨r4,c4,x4,p4,q4,b4,e4⟩:=z0p l c3 x3 (N - 1) (n+1) b3 (by lia) (by lia)
   have:w=0\/w=1:=by lia
   rcases this with rfl|rfl
   ·try (walk_at "")
    rw[e4,z03 rfl rfl rfl (fun q=>by walk_at "";rfl) (fun q=>by walk_at "";rfl)]
    walk_at ""
    exact⟨_,c4,x4,n+1, .bj _ (1+r4) zj9 ⟨by lia,by lia⟩,b4,by lia,rfl⟩
   ·try (walk_at "")
    rw[e4,z03 rfl rfl rfl (fun q=>by walk_at "";rfl) (fun q=>by walk_at "";rfl)]
    walk_at ""
    exact⟨_,c4,x4,n+1, .bj _ (1+r4) zja ⟨by lia,by lia⟩,b4,by lia,rfl⟩
  ·obtain⟨w',c',x',n',f1,f2,f3,f4⟩:=fin
   refine⟨w',c',x',n',f1,f2,f3, ?_⟩
   rw[<-f4]
   simp only[h1,decide_true]
   walk_at ""
   simp only[h2,decide_false]
   walk_at ""
 ·obtain⟨w',c',x',n',f1,f2,f3,f4⟩:=fin
  refine⟨w',c',x',n',f1,f2,f3, ?_⟩
  rw[<-f4]
  simp only[h1,decide_false]
  walk_at ""
theorem zaD(s:List Int)(h:Nm s)(hl:s.length<=24)(n:Nat): ∃n',n<=n'/\z2v [.tup (iL s)] n= .ok (.str (dd s)) [.tup (iL s)] n':=by
 unfold z2v z68 dd
 walk_at ""
 rw[z35]
 cases s with
 |nil=>
  refine⟨n,Nat.le_refl _, ?_⟩
  walk_at ""
  rfl
 |cons a r=>
  obtain⟨n1,g1,e1⟩:=z8h (m:=mVar 0) (me:=mCB [(mVar 0)] strA) (g:=gN) (items:=iL (a::r)) (n:=n) (n1:=n) (σ:=[some (.tup (iL (a::r)))]) (tm:=[some (.tup (iL (a::r)))]) rfl (by rw[zl,z35];lia) (by
   intro d hd tm n
   obtain⟨i,hi,rfl⟩:=List.mem_map.mp hd
   refine⟨n,Nat.le_refl _, ?_⟩
   walk_at ""
   rw[z5w (z4V (h i hi).1 (h i hi).2)]
   rfl)
  rw[show(iL (a::r)).map gN=((a::r).map num).map D.str from zaj (a::r)] at e1
  have hd:=zcj h hl
  refine⟨n1+1,by lia, ?_⟩
  rw[show((((a::r).length:Nat):Int)==0)=false by simp;lia]
  walk_at ""
  rw[e1]
  walk_at ""
  rw[<-List.map_cons,<-List.map_cons,z4a (by rw[zl];lia)]
  walk_at ""
  rfl
theorem zjd(s:List Int)(h:Bd 26 s)(hl:s.length<=60)(n:Nat): ∃(y:Str) (n':Nat),Tx 1000 y/\n<=n'/\z1c [.tup (iL s)] n= .ok (.str y) [.tup (iL s)] n':=by
 unfold z1c z2w
 walk_at ""
 rw[z35]
 cases s with
 |nil=>
  refine⟨Str.ofString "-",n,zcG.up (by decide),Nat.le_refl _, ?_⟩
  walk_at ""
  rfl
 |cons a r=>
  obtain⟨n1,g1,e1⟩:=z8h (m:=mVar 0) (me:=mBin (mC (.str ("abcdefghijklmnopqrstuvwxyz" :Str))) (mVar 0) ixS) (g:=gL) (items:=iL (a::r)) (n:=n) (n1:=n) (σ:=[some (.tup (iL (a::r)))]) (tm:=[some (.tup (iL (a::r)))]) rfl (by rw[zl,z35];lia) (by
   intro d hd tm n
   obtain⟨i,hi,rfl⟩:=List.mem_map.mp hd
   refine⟨n,Nat.le_refl _, ?_⟩
   walk_at ""
   rw[zj8 (h i hi).1 (h i hi).2]
   rfl)
  rw[zh0] at e1
  obtain⟨t1,t2⟩:=Tx.joinB (ys:=(a::r).map lt) (N:=60) (B:=1) (fun y hy=>by
   obtain⟨i,hi,rfl⟩:=List.mem_map.mp hy
   refine⟨Nat.le_refl _, ?_⟩
   rw[zj7]
   intro c hc
   rw[List.mem_singleton.mp hc]
   have:=h i hi
   lia) (by rw[List.length_map];exact hl)
  refine⟨_,n1+1,t1.up (by decide),by lia, ?_⟩
  rw[show((((a::r).length:Nat):Int)==0)=false by simp;lia]
  walk_at ""
  rw[e1]
  walk_at ""
  rw[<-List.map_cons,<-List.map_cons,z4a (by rw[zl];lia)]
  walk_at ""
theorem zje(s g:List Int)(k w:Int)(hs:Nm s/\s.length<=24)(hg:Nm g/\g.length<=24)(hk:0<=k/\k<100000)(hw:0<=w/\w<100000)(n:Nat): ∃(y:Str) (n':Nat),Tx 1000 y/\n<=n'/\z1d [.tup [.tup (iL s), .tup (iL g), .int k, .int w]] n= .ok (.str y) [.tup [.tup (iL s), .tup (iL g), .int k, .int w]] n':=by
 obtain⟨n1,g1,e1⟩:=zaD s hs.1 hs.2 n
 obtain⟨n2,g2,e2⟩:=zaD g hg.1 hg.2 n1
 obtain⟨t1,t2⟩:=z78 (c:=47) (by decide) (ws:=[dd s,dd g,num k,num w]) (by
  intro x hx
  simp only[List.mem_cons,List.not_mem_nil,or_false] at hx
  rcases hx with rfl|rfl|rfl|rfl
  ·exact zei hs.1 hs.2
  ·exact zei hg.1 hg.2
  ·exact tx_n hk
  ·exact tx_n hw) (by simp)
 rw[<-(sep1 47 _ zbP).1] at t1 t2
 refine⟨_,n2+1,t1,by lia, ?_⟩
 unfold z1d z2x
 walk_at ""
 rw[e1]
 walk_at ""
 rw[e2]
 walk_at ""
 rw[z5w (z4V hk.1 hk.2)]
 walk_at ""
 rw[z5w (z4V hw.1 hw.2)]
 walk_at ""
 (try rw[zh2])
 (try walk_at "")
 rw[show[D.str (dd s), .str (dd g), .str (num k), .str (num w)]=[dd s,dd g,num k,num w].map D.str from rfl,z4a (by rw[zl];lia)]
 walk_at ""
theorem zjf(w:D)(h:GW w)(n:Nat): ∃(y:Str) (n':Nat),Tx 1000 y/\n<=n'/\z0I [w] n= .ok (.str y) [w] n':=by
 have key: ∀(a:Str) (ps:List Int) (ss:List (List Int)) (ds:List D),Tx 6 a->(∀i∈ps,0<=i/\i<100000)->(∀s∈ss,Nm s/\s.length<=24)->ps.length+ss.length<=3->ds.length<=4->cutA (.str a::ds) (some 1) (some 3)=iL ps->cutA (.str a::ds) (some 3) none=ss.map (fun s=> .tup (iL s))->∃(y:Str) (n':Nat),Tx 1000 y/\n<=n'/\z0I [.tup (.str a::ds)] n= .ok (.str y) [.tup (.str a::ds)] n':=by
  intro a ps ss ds ha hp hs hl hd c1 c2
  obtain⟨n1,g1,e1⟩:=z8h (m:=mSl (mVar 0) (some (mC (.int 1))) (some (mC (.int 3)))) (me:=mCB [(mVar 0)] strA) (g:=gN) (items:=iL ps) (n:=n) (n1:=n) (σ:=[some (.tup (.str a::ds)),none]) (tm:=[some (.tup (.str a::ds))]) (by
   walk_at ""
   rw[c1]) (by rw[zl,z35];lia) (by
   intro d hd tm n
   obtain⟨i,hi,rfl⟩:=List.mem_map.mp hd
   refine⟨n,Nat.le_refl _, ?_⟩
   walk_at ""
   rw[z5w (z4V (hp i hi).1 (hp i hi).2)]
   rfl)
  rw[show(iL ps).map gN=(ps.map num).map D.str from zaj ps] at e1
  obtain⟨n2,g2,e2⟩:=z8h (m:=mSl (mVar 0) (some (mC (.int 3))) none) (me:=z02 z2v [(mVar 0)]) (g:=gD) (items:=ss.map (fun s=> .tup (iL s))) (n:=n1+1+1+1) (n1:=n1+1+1+1) (σ:=[some (.tup (.str a::ds)),some (.lst n1 ((ps.map num).map D.str))]) (tm:=[some (.lst (n1+1+1) (([a]++ps.map num).map D.str)),some (.tup (.str a::ds))]) (by
   walk_at ""
   rw[c2]) (by rw[zl,List.length_map];lia) (by
   intro d hd tm n
   obtain⟨s,hs',rfl⟩:=List.mem_map.mp hd
   obtain⟨n',g,e⟩:=zaD s (hs s hs').1 (hs s hs').2 n
   refine⟨n',g, ?_⟩
   walk_at ""
   rw[e,zh3]
   walk_at "")
  rw[show List.map gD (List.map (fun s=>D.tup (iL s)) ss)=(ss.map dd).map D.str by rw[List.map_map,List.map_map];exact List.map_congr_left fun s _=>zh3 s] at e2
  obtain⟨t1,t2⟩:=z78 (c:=58) (by decide) (ws:=[a]++ps.map num++ss.map dd) (by
   intro x hx
   simp only[List.mem_append,List.mem_cons,List.not_mem_nil,or_false,List.mem_map] at hx
   rcases hx with(rfl|⟨i,hi,rfl⟩)|⟨s,hs',rfl⟩
   ·exact ha.up (by decide)
   ·exact tx_n (hp i hi)
   ·exact zei (hs s hs').1 (hs s hs').2) (by simp only[List.length_append,List.length_cons,List.length_nil,List.length_map];lia)
  rw[<-(sep1 58 _ z8L).1] at t1 t2
  refine⟨_,n2+1+1,t1,by lia, ?_⟩
  unfold z0I z2y
  walk_at ""
  rw[e1]
  walk_at ""
  rw[z47 (by rw[zl];simp only[List.length_map,List.length_cons,List.length_nil];lia)]
  walk_at ""
  simp only[List.cons_append,List.nil_append,List.map_cons] at e2 t2
  rw[e2]
  walk_at ""
  rw[z47 (by rw[zl];simp only[List.length_map,List.length_append,List.length_cons,List.length_nil];lia)]
  walk_at ""
  rw[show D.str a::((ps.map num).map D.str++(ss.map dd).map D.str)=(a::(ps.map num++ss.map dd)).map D.str by rw[List.map_cons,List.map_append],z4a (by rw[zl];simp only[List.map_cons];lia)]
  walk_at ""
 have two: ∀{i j:Int},(0<=i/\i<100000)->(0<=j/\j<100000)->∀k∈[i,j],0<=k/\k<100000:=fun h h' k hk=>by
  simp only[List.mem_cons,List.not_mem_nil,or_false] at hk
  rcases hk with rfl|rfl
  ·exact h
  ·exact h'
 cases h with
 |bj a i ha h=>exact key a [i] [] [.int i] ha (fun j hj=>by rw[List.mem_singleton.mp hj];exact h) (fun _ h=>nomatch h) (by simp) (by simp) rfl rfl
 |sp a i j ha h h'=>exact key a [i,j] [] [.int i, .int j] ha (two h h') (fun _ h=>nomatch h) (by simp) (by simp) rfl rfl
 |he a i j s ha h h' hs h1 h2=>exact key a [i,j] [s] [.int i, .int j, .tup (iL s)] ha (two h h') (fun x hx=>by rw[List.mem_singleton.mp hx];exact⟨hs,h2⟩) (by simp) (by simp) rfl rfl
theorem zjg{w:Str}{r:Int}(h0:0<=r)(h1:r<w.length)(hw:w.length<=1000000): ∃c,c∈sg w/\∀s,ixS (.str w) (.int r) s= .ok (.str ⟨#[c]⟩) s:=by
 have hl:r.toNat<(sg w).length:=by rw[z1Q];lia
 refine⟨(sg w)[r.toNat],List.getElem_mem hl,fun s=> ?_⟩
 have e:w.cps[r.toNat]? =some (sg w)[r.toNat]:=by
  rw[<-Array.getElem?_toList]
  exact List.getElem?_eq_getElem hl
 unfold ixS
 dsimp only
 rw[if_pos ⟨h0,by lia,h1⟩]
 show(match w.cps[r.toNat]? with|some c=>rt (.str ⟨#[c]⟩)|none=>fl:M D) s=_
 rw[e]
 rfl
theorem zh6{c:Nat}(h:c<128):Lo (sg ⟨#[c]⟩):=by rw[z4T];intro d hd;rw[List.mem_singleton.mp hd];exact h
theorem sg13:sg (Str.ofString "abzAZ019.:/- ")=[97,98,122,65,90,48,49,57,46,58,47,45,32]:=by decide+kernel
theorem zh7{r:Int}(h0:0<=r)(h1:r<13): ∃c:Nat,c<128/\∀s,ixS (.str (Str.ofString "abzAZ019.:/- ")) (.int r) s= .ok (.str ⟨#[c]⟩) s:=by
 have hl:(Str.ofString "abzAZ019.:/- ").length=13:=by rw[<-z1Q,sg13];rfl
 obtain⟨c,hc,hs⟩:=zjg h0 (by rw[hl];exact h1) (by rw[hl];decide)
 have hc':c<128:=by
  rw[sg13] at hc
  exact(by decide: ∀c∈[97,98,122,65,90,48,49,57,46,58,47,45,32],c<128) c hc
 exact⟨c,hc',hs⟩
theorem zjh:sg (Str.ofString "1")=[49]:=by decide+kernel
theorem zh8{r:Int}(h0:0<=r)(h1:r<4): ∃c:Nat,c<128/\atI [D.str (Str.ofString "."), .str (Str.ofString ":"), .str (Str.ofString "/"), .str (Str.ofString "1")] r=some (.str ⟨#[c]⟩):=by
 have:r=0\/r=1\/r=2\/r=3:=by lia
 rcases this with rfl|rfl|rfl|rfl
 ·exact⟨46,by decide,by rw[(sep1 46 _ zbJ).1];rfl⟩
 ·exact⟨58,by decide,by rw[(sep1 58 _ z8L).1];rfl⟩
 ·exact⟨47,by decide,by rw[(sep1 47 _ zbP).1];rfl⟩
 ·exact⟨49,by decide,by rw[(sep1 49 _ zjh).1];rfl⟩
theorem zh9{c:Nat}(hc:c<128){v:Int}(h0:0<=v)(h1:v<4): ∃z:Str,Tx 6 z/\atI [D.str (Str.ofString ""), .str ⟨#[c]⟩, .str ⟨#[c]⟩, .str (Str.ofString "0")] v=some (.str z):=by
 have:v=0\/v=1\/v=2\/v=3:=by lia
 have t1:Tx 6 ⟨#[c]⟩:=⟨by show(1:Nat)<=6;decide,zh6 hc⟩
 rcases this with rfl|rfl|rfl|rfl
 ·exact⟨_,tx_w (by decide+kernel) (by decide+kernel),at0⟩
 ·exact⟨_,t1,at1⟩
 ·exact⟨_,t1,at2⟩
 ·exact⟨_,tx_w (by decide+kernel) (by decide+kernel),at3⟩
theorem zha{v:Int}(h0:0<=v)(h1:v<4): ∃j:Int,0<=j/\j<=1/\atI [D.int 1, .int 0, .int 1, .int 0] v=some (.int j):=by
 have:v=0\/v=1\/v=2\/v=3:=by lia
 rcases this with rfl|rfl|rfl|rfl
 ·exact⟨_,by decide,by decide,at0⟩
 ·exact⟨_,by decide,by decide,at1⟩
 ·exact⟨_,by decide,by decide,at2⟩
 ·exact⟨_,by decide,by decide,at3⟩
noncomputable abbrev l14(z:Int):List D:=[.int 0, .int 7, .int 8, .int 39, .int 40, .int 999, .int 1000, .int 1039, .int 1040, .int 9999, .int 10000, .int 99999, .int 100000, .int z]
theorem at14{z:Int}(z0:0<=z)(z1:z<10^61){r:Int}(h0:0<=r)(h1:r<14): ∃v:Int,0<=v/\v<10^61/\atI (l14 z) r=some (.int v):=by
 obtain⟨d,hd,e⟩:=zgn (ds:=l14 z) h0 (by simpa using h1)
 have: ∃v:Int,d= .int v/\0<=v/\v<10^61:=by
  simp only[l14,List.mem_cons,List.not_mem_nil,or_false] at hd
  rcases hd with rfl|rfl|rfl|rfl|rfl|rfl|rfl|rfl|rfl|rfl|rfl|rfl|rfl|rfl
  all_goals first|exact⟨_,rfl,by decide,by decide⟩|exact⟨z,rfl,z0,z1⟩
 obtain⟨v,rfl,v0,v1⟩:=this
 exact⟨v,v0,v1,e⟩
theorem k14{z:Int}{σ tm:List (Option D)}{n:Nat}:lstM (l14 z) ⟨σ,tm,n⟩= .ok (.lst n (l14 z)) ⟨σ,tm,n+1⟩:=(rfl)
theorem fl14{l m:Nat}(h:m≠l){z:Int}(d:D):rp (pl l d) (.lst m (l14 z))= .lst m (l14 z):=by rw[zaa h];rfl
theorem zji{L m:Nat}{d:D}{ys:List Str}(h:L≠m):rp (pl m d) (.lst L (ys.map D.str))= .lst L (ys.map D.str):=by
 rw[zaa h]
 have: ∀f:Nat->Option D,rpL f (ys.map D.str)=ys.map D.str:=fun f=>by
  induction ys with
  |nil=>rfl
  |cons y ys ih=>simp only[List.map_cons,z6f,zc7] at ih⊢;rw[ih]
 rw[this]
theorem zjj(l n:Nat)(c x:Int)(t:Str)(B:Nat)(hB:B<=400000)(ht:Tx B t)(h:Bg c x)(hn:l<n): ∃(y:Str) (c' x':Int) (n':Nat),Tx (2*B+100) y/\Bg c' x'/\n<=n'/\z3F [.lst l [.int c, .int x], .str t] n= .ok (.str y) [.lst l [.int c', .int x'], .str t] n':=by
 have tl:=ht.1
 have s1: ∀lo hi,(Txt.slice t lo hi).length<=B:=fun lo hi=>(ht.sl lo hi).1
 unfold z3F z6c
 walk_at ""
 obtain⟨v,c1,x1,v0,v1,b1,e1⟩:=z0p l c x 8 n h (by decide) (by decide)
 rw[e1,z03 rfl rfl rfl (fun q=>by walk_at "";rfl) (fun q=>by walk_at "";rfl)]
 walk_at ""
 obtain⟨r,c2,x2,r0,r1,b2,e2⟩:=z0p l c1 x1 13 n b1 (by decide) (by decide)
 rw[e2,z03 rfl rfl rfl (fun q=>by walk_at "";rfl) (fun q=>by walk_at "";rfl)]
 walk_at ""
 obtain⟨g,hg,eg⟩:=zh7 r0 r1
 rw[eg]
 walk_at ""
 rw[zby (by decide),show((10:Int)^(Int.toNat 60))=1000000000000000000000000000000000000000000000000000000000000 by decide]
 walk_at ""
 obtain⟨z,c3,x3,z0,z1,b3,e3⟩:=z0p l c2 x2 1000000000000000000000000000000000000000000000000000000000000 n b2 (by decide) (by decide)
 rw[e3,z03 rfl rfl rfl (fun q=>by walk_at "";rfl) (fun q=>by walk_at "";rfl)]
 walk_at ""
 rw[show[D.int 0, .int 7, .int 8, .int 39, .int 40, .int 999, .int 1000, .int 1039, .int 1040, .int 9999, .int 10000, .int 99999, .int 100000, .int z]=l14 z from rfl,k14]
 walk_at ""
 obtain⟨q,c4,x4,q0,q1,b4,e4⟩:=z0p l c3 x3 14 (n+1) b3 (by decide) (by decide)
 have f14:=fun d=>fl14 (z:=z) (show n≠l by lia) d
 rw[e4,z03 rfl rfl rfl (fun q=>by walk_at "";simp only[f14];rfl) (fun q=>by walk_at "";simp only[f14];rfl)]
 walk_at ""
 obtain⟨m,m0,m1,em⟩:=at14 z0 (by lia) q0 q1
 rw[em]
 walk_at ""
 rw[ze7 m0 m1]
 walk_at ""
 rw[z75 (by rw[zl];lia)]
 walk_at ""
 obtain⟨a,c5,x5,a0,a1,b5,e5⟩:=z0p l c4 x4 ((t.length:Int)+1) (n+1) b4 (by lia) (by lia)
 rw[e5,z03 rfl rfl rfl (fun q=>by walk_at "";simp only[f14];rfl) (fun q=>by walk_at "";rfl)]
 walk_at ""
 have tm:=zgH m0 m1
 have ml:=tm.1
 by_cases h4:v<4
 ·simp only[h4,decide_true]
  walk_at ""
  rw[zgz]
  walk_at ""
  rw[zgA (by rw[zl];lia)]
  walk_at ""
  obtain⟨y,hy,ey⟩:=zh9 hg v0 h4
  rw[ey]
  walk_at ""
  have y1:=hy.1
  have w1:=s1 none (some a)
  rw[zck (by rw[zl];lia)]
  walk_at ""
  rw[zgz]
  walk_at ""
  obtain⟨j,j0,j1,ej⟩:=zha v0 h4
  rw[ej]
  walk_at ""
  rw[zgB]
  walk_at ""
  rw[zgA (by rw[zl];lia)]
  walk_at ""
  have w2:=s1 (some (a+j)) none
  rw[zck (by rw[zl,Str.length_append];lia)]
  walk_at ""
  exact⟨_,c5,x5,n+1+1+1,(((ht.sl _ _).app hy).app (ht.sl _ _)).up (by lia),b5,by lia,rfl⟩
 ·simp only[h4,decide_false]
  walk_at ""
  obtain⟨u,c6,x6,u0,u1,b6,e6⟩:=z0p l c5 x5 4 (n+1+1) b5 (by decide) (by decide)
  have fl: ∀d,rp (pl l d) (.lst (n+1) [.str (Str.ofString "."), .str (Str.ofString ":"), .str (Str.ofString "/"), .str (Str.ofString "1")])= .lst (n+1) [.str (Str.ofString "."), .str (Str.ofString ":"), .str (Str.ofString "/"), .str (Str.ofString "1")]:=fun d=>by rw[zaa (by lia)];rfl
  rw[e6,z03 rfl rfl rfl (fun q=>by walk_at "";simp only[f14];rfl) (fun q=>by walk_at "";simp only[fl];rfl)]
  walk_at ""
  obtain⟨k,hk,ek⟩:=zh8 u0 u1
  rw[ek]
  walk_at ""
  rw[z3p rfl (by rw[zl];lia)]
  walk_at ""
  have hW:=zbK t k
  have hL:=z6n (c:=k) ht.2
  have hne:Txt.split t ⟨#[k]⟩≠[]:=z2W
  generalize Txt.split t ⟨#[k]⟩=ws at hW hL hne
  have hl0:0<ws.length:=List.length_pos_iff.mpr hne
  have hl1:ws.length<=B+1:=by unfold Wz at hW;lia
  have hR: ∀d,rp (pl l d) (.lst (n+1+1) (ws.map D.str))= .lst (n+1+1) (ws.map D.str):=fun d=>zji (by lia)
  have el:(((ws.map D.str).length:Nat):Int)=ws.length:=by simp
  rw[ze2]
  walk_at ""
  rw[el]
  obtain⟨i,c7,x7,i0,i1,b7,e7⟩:=z0p l c6 x6 ws.length (n+1+1+1) b6 (by lia) (by lia)
  rw[e7,z03 rfl rfl rfl (fun q=>by walk_at "";simp only[hR,f14];rfl) (fun q=>by walk_at "";rfl)]
  walk_at ""
  obtain⟨i',rfl⟩:=Int.eq_ofNat_of_zero_le i0
  have z1:=z7G ws i'
  have z2:=z7G (ws.drop i') 1
  rw[List.drop_drop] at z2
  have l1:=z6o ws none (some (i':Int))
  have l2:=z6o ws (some ((i':Int)+1)) none
  have l3:=z6o ws (some (i':Int)) none
  have l4:=z6o ws (some (i':Int)) (some ((i':Int)+1))
  have d1:cutA ws (some ((i':Int)+1)) none=ws.drop (i'+1):=by rw[show((i':Nat):Int)+1=((i'+1:Nat):Int) by lia,cut_drop (by lia)]
  have d0:cutA ws (some (i':Int)) none=ws.drop i':=cut_drop (by lia)
  have hcl: ∀lo hi,∀w∈cutA ws lo hi,Lo (sg w):=fun lo hi w hw=>hL w (ze5 hw)
  have hv:v=4\/v=5\/v=6\/v=7:=by lia
  rcases hv with rfl|rfl|rfl|rfl
  ·obtain⟨t1,t2⟩:=Tx.joinW hk (ws:=cutA ws none (some (i':Int))++cutA ws (some ((i':Int)+1)) none) (fun w hw=>(List.mem_append.mp hw).elim (hcl _ _ w) (hcl _ _ w))
   have hz:Wz (cutA ws none (some (i':Int))++cutA ws (some ((i':Int)+1)) none)<=Wz ws:=by rw[z4W,cut_take,d1];lia
   refine⟨_,c7,x7,n+1+1+1+1+1+1,t1.up (by lia),b7,by lia, ?_⟩
   walk_at ""
   rw[z2E,z2E,z47 (by rw[zl];simp only[List.length_map];lia)]
   walk_at ""
   rw[<-List.map_append,z4a (by rw[zl];lia)]
   walk_at ""
  ·obtain⟨t1,t2⟩:=Tx.joinW hk (ws:=cutA ws none (some (i':Int))++cutA ws (some (i':Int)) (some ((i':Int)+1))++cutA ws (some (i':Int)) none) (fun w hw=>(List.mem_append.mp hw).elim (fun q=>(List.mem_append.mp q).elim (hcl _ _ w) (hcl _ _ w)) (hcl _ _ w))
   have hm:Wz (cutA ws (some (i':Int)) (some ((i':Int)+1)))<=Wz (ws.drop i'):=by
    unfold cutA
    have:=z7G (ws.drop (HT.sIx ws.length 0 (some (i':Int)))) (HT.sIx ws.length ws.length (some ((i':Int)+1)) -HT.sIx ws.length 0 (some (i':Int)))
    rw[HT.sIx_nat,Nat.min_eq_left (by lia)] at this⊢
    lia
   have hz:Wz (cutA ws none (some (i':Int))++cutA ws (some (i':Int)) (some ((i':Int)+1))++cutA ws (some (i':Int)) none)<=2*Wz ws:=by
    rw[z4W,z4W,cut_take,d0];lia
   refine⟨_,c7,x7,n+1+1+1+1+1+1+1+1,t1.up (by lia),b7,by lia, ?_⟩
   walk_at ""
   rw[z2E,z2E,z47 (by rw[zl];simp only[List.length_map];lia)]
   walk_at ""
   rw[z2E,z47 (by rw[zl];simp only[List.length_append,List.length_map];lia)]
   walk_at ""
   rw[<-List.map_append,<-List.map_append,z4a (by rw[zl];lia)]
   walk_at ""
  ·obtain⟨t1,t2⟩:=Tx.joinW hk (ws:=cutA ws (some (i':Int)) none++cutA ws none (some (i':Int))) (fun w hw=>(List.mem_append.mp hw).elim (hcl _ _ w) (hcl _ _ w))
   have hz:Wz (cutA ws (some (i':Int)) none++cutA ws none (some (i':Int)))<=Wz ws:=by rw[z4W,cut_take,d0];lia
   refine⟨_,c7,x7,n+1+1+1+1+1+1,t1.up (by lia),b7,by lia, ?_⟩
   walk_at ""
   rw[z2E,z2E,z47 (by rw[zl];simp only[List.length_map];lia)]
   walk_at ""
   rw[<-List.map_append,z4a (by rw[zl];lia)]
   walk_at ""
  ·obtain⟨t1,t2⟩:=Tx.joinW hk (ws:=cutA ws none (some (i':Int))++[num m]++cutA ws (some ((i':Int)+1)) none) (fun w hw=>(List.mem_append.mp hw).elim (fun q=>(List.mem_append.mp q).elim (hcl _ _ w) (fun q=>by rw[List.mem_singleton.mp q];exact tm.2)) (hcl _ _ w))
   have hz:Wz (cutA ws none (some (i':Int))++[num m]++cutA ws (some ((i':Int)+1)) none)<=Wz ws+62:=by rw[z4W,z4W,zgI,cut_take,d1];lia
   refine⟨_,c7,x7,n+1+1+1+1+1+1+1+1,t1.up (by lia),b7,by lia, ?_⟩
   walk_at ""
   rw[z2E,z47 (by rw[zl];simp only[List.length_map,List.length_cons,List.length_nil];lia)]
   walk_at ""
   rw[z2E,z47 (by rw[zl];simp only[List.length_append,List.length_map,List.length_cons,List.length_nil];lia)]
   walk_at ""
   rw[show(cutA ws none (some (i':Int))).map D.str++[D.str (num m)]++(cutA ws (some ((i':Int)+1)) none).map D.str=(cutA ws none (some (i':Int))++[num m]++cutA ws (some ((i':Int)+1)) none).map D.str by simp,z4a (by rw[zl];lia)]
   walk_at ""
theorem zaE{k:Nat}:Tr .non=true/\(er .non).depth<=k:=⟨rfl,by simp[er,PyData.depth]⟩
theorem zej{k:Nat}{s:List Int}(h:s.length<=60):Tr (.tup (iL s))=true/\(er (.tup (iL s))).depth<=k+1:=z74 (by rw[z35];lia) fun e he=>by
 obtain⟨i,_,rfl⟩:=List.mem_map.mp he;exact z49
theorem z7N{w:Str}{M:Nat}{T:Int}(h:rowOk w M T=true):(lawD w).length<=M:=by
 unfold rowOk at h
 rw[Bool.and_eq_true,decide_eq_true_eq] at h
 exact h.1
noncomputable def z4g(w:Str):D:=if z2U w=true then z77 w else .non
noncomputable def wshD(N:Int)(w:Str):D:=if z4Y N w=true then wshV w else .non
noncomputable def kyD(w:Str)(L:Nat):D:=if kyOk w=true then .lst L (iL (kyV w)) else .non
theorem zjk: ∀{ws:List Str},wOk ws=true->Tr (wV ws)=true/\(er (wV ws)).depth<=5
 |[a,b,c,d],h=>by
  simp only[wOk,Bool.and_eq_true] at h
  refine z74 (by simp) (List.forall_mem_cons.mpr ⟨zej (Nat.le_trans (z7N h.1) (by decide)),List.forall_mem_cons.mpr ⟨zej (Nat.le_trans (z7N h.2.1) (by decide)),List.forall_mem_cons.mpr ⟨z49,List.forall_mem_cons.mpr ⟨z49,fun _ h=>nomatch h⟩⟩⟩⟩)
 |[],h=>by cases h
 |[_],h=>by cases h
 |[_,_],h=>by cases h
 |[_,_,_],h=>by cases h
 |_::_::_::_::_::_,h=>by cases h
theorem zaF(w:Str):Tr (z4g w)=true/\(er (z4g w)).depth<=5:=by
 unfold z4g
 by_cases h:z2U w=true
 ·rw[if_pos h];exact zjk h
 ·rw[if_neg h];exact zaE
theorem zjl{N:Int}: ∀{ws:List Str},(∀p∈ws,Lo (sg p))->vOk N ws=true->Tr (vV ws)=true/\(er (vV ws)).depth<=5
 |[p,a],hl,h=>z74 (by simp) (List.forall_mem_cons.mpr ⟨zad (z7F (hl p (by simp))),List.forall_mem_cons.mpr ⟨z49,fun _ h=>nomatch h⟩⟩)
 |[p,a,b],hl,h=>z74 (by simp) (List.forall_mem_cons.mpr ⟨zad (z7F (hl p (by simp))),List.forall_mem_cons.mpr ⟨z49,List.forall_mem_cons.mpr ⟨z49,fun _ h=>nomatch h⟩⟩⟩)
 |[p,a,b,c],hl,h=>by
  simp only[vOk,Bool.and_eq_true] at h
  exact z74 (by simp) (List.forall_mem_cons.mpr ⟨zad (z7F (hl p (by simp))),List.forall_mem_cons.mpr ⟨z49,List.forall_mem_cons.mpr ⟨z49,List.forall_mem_cons.mpr ⟨zej (Nat.le_trans (z7N h.2.2) (by decide)),fun _ h=>nomatch h⟩⟩⟩⟩)
 |[],_,h=>by cases h
 |[_],_,h=>by cases h
 |_::_::_::_::_::_,_,h=>by cases h
theorem zcH(N:Int){w:Str}(hlo:Lo (sg w)):Tr (wshD N w)=true/\(er (wshD N w)).depth<=5:=by
 unfold wshD
 by_cases h:z4Y N w=true
 ·rw[if_pos h]
  exact zjl (by rw[(sep1 58 _ z8L).1];exact z6n hlo) h
 ·rw[if_neg h];exact zaE
theorem zhb{w:Str}(h:kyOk w=true):(kyV w).length<=60:=by
 unfold kyOk at h
 unfold kyV
 cases q:w==Str.ofString "-" with
 |true=>simp
 |false=>
  rw[q] at h
  simp only[Bool.false_or,Bool.and_eq_true,decide_eq_true_eq] at h
  simp only[Bool.false_eq_true,if_false,List.length_map,z1Q]
  exact h.2.1
theorem zek(w:Str)(L:Nat):Gd (kyD w L)/\(er (kyD w L)).depth<=5:=by
 unfold kyD
 by_cases h:kyOk w=true
 ·rw[if_pos h]
  have r:=zgq (n:=0) (k:=4) (l:=L) (es:=iL (kyV w)) (Nat.zero_le _) (by rw[z35];have:=zhb h;lia) fun d hd=>by
   obtain⟨i,_,rfl⟩:=List.mem_map.mp hd
   exact⟨rfl,by simp[er,PyData.depth]⟩
  exact⟨zdX _ r.1,r.2⟩
 ·rw[if_neg h]
  exact⟨⟨rfl,rfl⟩,by simp[er,PyData.depth]⟩
theorem zjm(w:Str)(L L':Nat):er (kyD w L)=er (kyD w L'):=by
 unfold kyD
 split<;>rfl
theorem zhc{d:D}(h:Tr d=true/\(er d).depth<=5):Gd d/\(er d).depth<=5:=⟨zdX _ (zgo (n:=0) _ h.1),h.2⟩
theorem zaG{d:D}(h:Gd d/\(er d).depth<=5){s:Stt}:neD d d s= .ok (.bool false) s:=z7B h.1 h.1 rfl (Nat.le_trans h.2 (by decide))
theorem zhd{l:Nat}{σ tm:List (Option D)}{n:Nat}:mulD (.lst l [.non]) (.int 3) ⟨σ,tm,n⟩= .ok (.lst n [.non, .non, .non]) ⟨σ,tm,n+1⟩:=by
 unfold mulD
 dsimp only
 rw[if_pos ⟨by decide,by decide,by rw[zl];decide⟩]
 rfl
theorem ne_3{l m:Nat}{s:Stt}:neD (.lst l [.non, .non, .non]) (.lst m [.non, .non, .non]) s= .ok (.bool false) s:=z7B ⟨rfl,rfl⟩ ⟨rfl,rfl⟩ rfl (show(PyData.list [.none, .none, .none]).depth<=60 by decide)
theorem zel(i:Nat)(rest:List (Option D)):(kRng 0 3).at' i ([]++rest)=some [D.int 0, .int 1, .int 2][i]? :=by
 show some (if i<3 then some (D.int (0+(i:Int))) else none)=_
 match i with
 |0=>rfl
 |1=>rfl
 |2=>rfl
 |i+3=>simp
noncomputable def whM:MS:=(sIf (mBoo (mBin (z02 z0D [(mVar 10),(mVar 3),(mVar 7)]) (mBin (mVar 9) (mVar 10) ixD) neD)) (sRet (mC (.bool false))) sNx)
theorem zjn(a0 a1 a2 a4 a5 a6 a8 o10 o11:Option D)(N:Int)(y:Str)(hy:Tx 1000000 y)(L9 L n:Nat)(R:D): ∃p10 n',n<=n'/\(p10=o10\/∃i:Int,p10=some (.int i))/\forGo kTup (.nm 10) whM 6 0 ⟨[a0,a1,a2,some (.int N),a4,a5,a6,some (.str y),a8,some (.lst L9 [kyD y L,z4g y,wshD N y]),o10,o11],[some (.tup [.int 0, .int 1, .int 2, .int 0, .int 1, .int 2]),some R],n⟩= .nx ⟨[a0,a1,a2,some (.int N),a4,a5,a6,some (.str y),a8,some (.lst L9 [kyD y L,z4g y,wshD N y]),p10,o11],[some R],n'⟩:=by
 have one: ∀(i:Nat),i<3->∀(p:Option D) (n:Nat),∃n',n<=n'/\whM ⟨[a0,a1,a2,some (.int N),a4,a5,a6,some (.str y),a8,some (.lst L9 [kyD y L,z4g y,wshD N y]),some (.int (i:Nat)),o11],[some (.tup [.int 0, .int 1, .int 2, .int 0, .int 1, .int 2]),some R],n⟩= .nx ⟨[a0,a1,a2,some (.int N),a4,a5,a6,some (.str y),a8,some (.lst L9 [kyD y L,z4g y,wshD N y]),some (.int (i:Nat)),o11],[some (.tup [.int 0, .int 1, .int 2, .int 0, .int 1, .int 2]),some R],n'⟩:=by
  intro i hi p n
  have hi':i=0\/i=1\/i=2:=by lia
  unfold whM
  rcases hi' with rfl|rfl|rfl
  ·obtain⟨L',n',g,e⟩:=zcD y hy.1 N n
   refine⟨n',g, ?_⟩
   rw[show((0:Nat):Int)=0 from rfl]
   walk_at ""
   rw[e]
   walk_at ""
   rw[show(if kyOk y=true then D.lst L' (iL (kyV y)) else .non)=kyD y L' from rfl,z7B (zek y L').1 (zek y L).1 (zjm y L' L) (Nat.le_trans (zek y L).2 (by decide))]
   walk_at ""
  ·obtain⟨n',g,e⟩:=zcE y hy.1 N n
   refine⟨n',g, ?_⟩
   rw[show((1:Nat):Int)=1 from rfl]
   walk_at ""
   rw[e]
   walk_at ""
   rw[show(if z2U y=true then z77 y else .non)=z4g y from rfl,zaG (zhc (zaF y))]
   walk_at ""
  ·obtain⟨n',g,e⟩:=zcF y hy.1 hy.2 N n
   refine⟨n',g, ?_⟩
   rw[show((2:Nat):Int)=2 from rfl]
   walk_at ""
   rw[e]
   walk_at ""
   rw[show(if z4Y N y=true then wshV y else .non)=wshD N y from rfl,zaG (zhc (zcH N hy.2))]
   walk_at ""
 obtain⟨s',e,p10,n',hn,hp,rfl⟩:=z7E (K:=kTup) (g:= .nm 10) (b:=whM) (item:=fun i=> .int ((i %3:Nat):Int)) (N:=6) (P:=fun i s=> ∃p10 n',n<=n'/\(p10=o10\/∃i:Int,p10=some (.int i))/\s=⟨[a0,a1,a2,some (.int N),a4,a5,a6,some (.str y),a8,some (.lst L9 [kyD y L,z4g y,wshD N y]),p10,o11],[some (.tup [.int 0, .int 1, .int 2, .int 0, .int 1, .int 2]),some R],n'⟩)
  (by
   rintro i s ⟨_,_,_,_,rfl⟩
   rw[zgt]
   match i with
   |0=>rfl
   |1=>rfl
   |2=>rfl
   |3=>rfl
   |4=>rfl
   |5=>rfl
   |i+6=>rw[if_neg (by simp),if_neg (by lia)])
  (by
   rintro i hi s ⟨p10,n',hn,_,rfl⟩
   obtain⟨n2,g2,e2⟩:=one (i %3) (Nat.mod_lt _ (by decide)) p10 n'
   exact⟨_,rfl,_,e2,_,n2,by lia, .inr ⟨_,rfl⟩,rfl⟩) 6 0 ⟨[a0,a1,a2,some (.int N),a4,a5,a6,some (.str y),a8,some (.lst L9 [kyD y L,z4g y,wshD N y]),o10,o11],[some (.tup [.int 0, .int 1, .int 2, .int 0, .int 1, .int 2]),some R],n⟩ (by lia) ⟨o10,n,Nat.le_refl _, .inl rfl,rfl⟩
 rw[ziD,zgs] at e
 exact⟨p10,n',hn,hp,e⟩
noncomputable def thM:MS:=(sIf (mBoo (mBin (z0w (z2Z [(mC (.int 3))]) (.nm 0) (rt true) (z02 z0D [(mVar 0),(mVar 1),(mVar 2)]) 1 [3,11]) (mBin (mCB [(mC .non)] lstM) (mC (.int 3)) mulD) neD)) (sRet (mC (.bool false))) sNx)
theorem zjo(a0 a1 a2 a4 a5 a6 a7 a8 a9 a10 o11:Option D)(N:Int)(ds:List D)(hd: ∀t∈ds,(plain t=true/\∀x,t≠ .str x)\/t= .str (Str.ofString ""))(L n:Nat)(R:D): ∃p11 n',n<=n'/\(p11=o11\/∃d∈ds,p11=some d)/\forGo kLst (.nm 11) thM ds.length 0 ⟨[a0,a1,a2,some (.int N),a4,a5,a6,a7,a8,a9,a10,o11],[some (.lst L ds),some R],n⟩= .nx ⟨[a0,a1,a2,some (.int N),a4,a5,a6,a7,a8,a9,a10,p11],[some R],n'⟩:=by
 obtain⟨s',e,p11,n',hn,hp,rfl⟩:=z7E (K:=kLst) (g:= .nm 11) (b:=thM) (item:=fun i=>ds.getD i .non) (N:=ds.length) (P:=fun i s=> ∃p11 n',n<=n'/\(p11=o11\/∃d∈ds,p11=some d)/\s=⟨[a0,a1,a2,some (.int N),a4,a5,a6,a7,a8,a9,a10,p11],[some (.lst L ds),some R],n'⟩)
  (by rintro i s ⟨_,_,_,_,rfl⟩;rw[zgu])
  (by
   rintro i hi s ⟨p11,n1,hn,_,rfl⟩
   have hm:ds.getD i .non∈ds:=by
    rw[List.getD_eq_getElem?_getD,List.getElem?_eq_getElem hi]
    exact List.getElem_mem hi
   generalize ds.getD i .non=t at hm
   obtain⟨n2,g2,e2⟩:=z2X (mi:=z2Z [(mC (.int 3))]) (K:=kRng 0 3) (tg:= .nm 0) (me:=z02 z0D [(mVar 0),(mVar 1),(mVar 2)]) (g:=fun _=> .non) (sl:=fun d=>[some d]) (k:=1) (items:=[.int 0, .int 1, .int 2]) (its:=[]) (ix:=[3,11]) (s:=⟨[a0,a1,a2,some (.int N),a4,a5,a6,a7,a8,a9,a10,some t],[some (.lst L ds),some R],n1⟩) (σ:=[a0,a1,a2,some (.int N),a4,a5,a6,a7,a8,a9,a10,some t]) (tm:=[some (.lst L ds),some R]) (n:=n1) (by
    walk_at ""
    rw[z5t ⟨by decide,by decide⟩]
    rfl) rfl (by rw[zl];decide) zel rfl (by
    intro d hd
    refine⟨rfl,fun os ho=> ?_⟩
    match os,ho with
    |[a0],_=>rfl) (by
    intro d hd' tm n
    obtain⟨k,hk,rfl⟩: ∃k:Nat,k<3/\d= .int (k:Nat):=by
     simp only[List.mem_cons,List.not_mem_nil,or_false] at hd'
     rcases hd' with rfl|rfl|rfl
     ·exact⟨0,by decide,rfl⟩
     ·exact⟨1,by decide,rfl⟩
     ·exact⟨2,by decide,rfl⟩
    obtain⟨n',g,e⟩:=zeh k hk N t n (hd t hm)
    refine⟨n',g, ?_⟩
    simp only[List.map_cons,List.map_nil,List.getElem?_cons_zero,List.getElem?_cons_succ,Option.getD_some,List.cons_append,List.nil_append]
    walk_at ""
    rw[e]
    walk_at "")
   refine⟨_,rfl,_, ?_,some t,n2+1+1+1,by lia, .inr ⟨t,hm,rfl⟩,rfl⟩
   unfold thM
   walk_at ""
   rw[e2]
   walk_at ""
   rw[zhd]
   walk_at ""
   rw[ne_3]
   walk_at "") ds.length 0 ⟨[a0,a1,a2,some (.int N),a4,a5,a6,a7,a8,a9,a10,o11],[some (.lst L ds),some R],n⟩ (by lia) ⟨o11,n,Nat.le_refl _, .inl rfl,rfl⟩
 rw[ziE,zgs] at e
 exact⟨p11,n',hn,hp,e⟩
theorem zjp(ns:List Int){l:Nat}: ¬l∈labs (.ro (ns.map .int)):=fun h=>by
 simp only[labs] at h
 obtain⟨e,he,hk⟩:=labsL_mem h
 obtain⟨j,_,rfl⟩:=List.mem_map.mp he
 simp[labs] at hk
theorem zhe(ns:List Int): ∀k d,rp (pl k d) (.ro (ns.map .int))= .ro (ns.map .int):=fun k d=>z6e (zjp ns)
theorem UpO.of{k:Nat}{d:D}(h:Up k d):UpO k (some d):=fun x hx=>by cases hx;exact h
theorem UpO.mono{k m:Nat}{o:Option D}(h:UpO k o)(hk:k<=m):UpO m o:=fun d hd j hj=>Nat.lt_of_lt_of_le (h d hd j hj) hk
theorem UpO.no{k:Nat}:UpO k none:=fun d hd=>nomatch hd
theorem zbQ{k:Nat}{i:Int}:UpO k (some (.int i)):=UpO.of fun j hj=>by simp only[labs] at hj;cases hj
theorem zjq{k:Nat}{x:Str}:UpO k (some (.str x)):=UpO.of fun j hj=>by simp only[labs] at hj;cases hj
theorem zaH(s:List Int):labsL (iL s)=[]:=by
 induction s with
 |nil=>rfl
 |cons x s ih=>simp only[iL,List.map_cons,labsL,labs,List.nil_append] at ih⊢;exact ih
theorem zjr{k:Nat}{s:List Int}:UpO k (some (.tup (iL s))):=UpO.of fun j hj=>by simp only[labs,zaH] at hj;cases hj
noncomputable def Fl(l:Nat)(o:Option D):Prop:= ∀d,Option.map (rp (pl l d)) o=o
noncomputable def bndT:Nat->Nat
 |0=>1000
 |n+1=>2*bndT n+100
theorem zcI: ∀i,i<=3->bndT i<=8700:=fun i h=>by
 have:i=0\/i=1\/i=2\/i=3:=by lia
 rcases this with rfl|rfl|rfl|rfl<;>decide
theorem zhf: ∀i,i<3->bndT i<=400000:=fun i h=>Nat.le_trans (zcI i (by lia)) (by decide)
noncomputable abbrev duL(L9 L:Nat)(N:Int)(y:Str):D:= .lst L9 [kyD y L,z4g y,wshD N y]
theorem zem{L9 L j:Nat}{N:Int}{y:Str}(hlo:Lo (sg y))(h:j∈labs (duL L9 L N y)):j=L9\/(kyOk y=true/\j=L):=by
 simp only[duL,labs,labsL,z7A _ (zaF y).1,z7A _ (zcH N hlo).1,List.append_nil,List.mem_cons] at h
 rcases h with h|h
 ·exact .inl h
 ·unfold kyD at h
  by_cases q:kyOk y=true
  ·rw[if_pos q] at h
   simp only[labs,zaH,List.mem_cons,List.not_mem_nil,or_false] at h
   exact .inr ⟨q,h⟩
  ·rw[if_neg q] at h
   simp only[labs] at h
   cases h
theorem at_3{x0 x1 x2:Str}{B:Nat}(h0:Tx B x0)(h1:Tx B x1)(h2:Tx B x2){r:Int}(r0:0<=r)(r1:r<3): ∃x,Tx B x/\atI [D.str x0, .str x1, .str x2] r=some (.str x):=by
 have:r=0\/r=1\/r=2:=by lia
 rcases this with rfl|rfl|rfl
 ·exact⟨_,h0,at0⟩
 ·exact⟨_,h1,at1⟩
 ·exact⟨_,h2,at2⟩
theorem t6{a b c d e f:D}{s:Stt}:tupD [a,b,c,d,e,f] s= .ok (.tup [a,b,c,d,e,f]) s:=z8E (by rw[zl];simp)
noncomputable def bdM:MS:=(sAsg (.nm 7) (z02 z3F [(mVar 2),(mVar 7)]))
noncomputable def inM:MS:=(seqS (sAsg (.nm 7) (mBin (mVar 5) (mBin (mVar 6) (mC (.int 3)) modD) ixD))
 (seqS (sFor (z2Z [(mBin (mC (.int 1)) (z02 z04 [(mVar 2),(mC (.int 3))]) addD)]) (.nm 8) bdM)
 (seqS (sAsg (.nm 9) (mCB [(z02 z1e [(mVar 7)]),(z02 z1f [(mVar 7)]),(z02 z1g [(mVar 3),(mVar 7)])] lstM))
 (sFor (z0L (mCB [(mC (.int 0)),(mC (.int 1)),(mC (.int 2)),(mC (.int 0)),(mC (.int 1)),(mC (.int 2))] tupD)) (.nm 10) whM))))
theorem zjs(ns:List Int)(i t N c x:Int)(s:List Int)(x0 x1 x2:Str)(h0:Tx 1000 x0)(h1:Tx 1000 x1)(h2:Tx 1000 x2)(L5 l n:Nat)(h:Bg c x)(hn:l<n)(h5:L5≠l)(o7 o8 o9 o10 o11:Option D)(s8:Fl l o8)(s9:Fl l o9)(s10:Fl l o10)(s11:Fl l o11):
 ∃(c' x':Int) (p7 p8 p9 p10:Option D) (n':Nat),Bg c' x'/\n<=n'/\UpO n' p7/\(Fl l p8/\UpO n' p8)/\(Fl l p9/\UpO n' p9)/\(Fl l p10/\(p10=o10\/UpO n' p10))/\inM ⟨[some (.ro (ns.map .int)),some (.int i),some (.lst l [.int c, .int x]),some (.int N),some (.tup (iL s)),some (.lst L5 [.str x0, .str x1, .str x2]),some (.int t),o7,o8,o9,o10,o11],[some (.ro (ns.map .int))],n⟩= .nx ⟨[some (.ro (ns.map .int)),some (.int i),some (.lst l [.int c', .int x']),some (.int N),some (.tup (iL s)),some (.lst L5 [.str x0, .str x1, .str x2]),some (.int t),p7,p8,p9,p10,o11],[some (.ro (ns.map .int))],n'⟩:=by
 have sr:=zhe ns
 have h5': ∀d,rp (pl l d) (.lst L5 [.str x0, .str x1, .str x2])= .lst L5 [.str x0, .str x1, .str x2]:=fun d=>by rw[zaa h5];rfl
 obtain⟨y0,ty0,ey0⟩:=at_3 h0 h1 h2 (Int.emod_nonneg t (show(3:Int)≠0 by decide)) (Int.emod_lt_of_pos t (show(0:Int)<3 by decide))
 obtain⟨v,c1,x1',v0,v1,b1,e1⟩:=z0p l c x 3 n h (by decide) (by decide)
 obtain⟨s',e2,c2,x2',y,p8,n2,b2,ty,g2,f8,w8,rfl⟩:=z6g (P:=fun k s'=> ∃(c2 x2':Int) (y:Str) (p8:Option D) (n2:Nat),Bg c2 x2'/\Tx (bndT k) y/\n<=n2/\Fl l p8/\(0<k->UpO n2 p8)/\s'=⟨[some (.ro (ns.map .int)),some (.int i),some (.lst l [.int c2, .int x2']),some (.int N),some (.tup (iL s)),some (.lst L5 [.str x0, .str x1, .str x2]),some (.int t),some (.str y),p8,o9,o10,o11],[some (.ro (ns.map .int))],n2⟩) (lo:=0) (N:=(1+v).toNat) (g:= .nm 8) (b:=bdM) (by
  rintro k hk s' ⟨c2,x2',y,p8,n2,b2,ty,g2,f8,_,rfl⟩
  refine⟨_,rfl, ?_⟩
  obtain⟨z,c3,x3,n3,tz,b3,g3,e3⟩:=zjj l n2 c2 x2' y (bndT k) (zhf k (by lia)) ty b2 (by lia)
  refine⟨_, ?_,c3,x3,z,some (.int (0+(k:Int))),n3,b3,tz,by lia,fun _=>rfl,fun _=>zbQ,rfl⟩
  unfold bdM
  walk_at ""
  rw[e3,z03 rfl rfl rfl (fun q=>by walk_at "";simp only[sr,h5',rL_i,s9 _,s10 _,s11 _];rfl) (fun q=>by walk_at "";simp only[sr];rfl)]
  walk_at "") (1+v).toNat 0 ⟨[some (.ro (ns.map .int)),some (.int i),some (.lst l [.int c1, .int x1']),some (.int N),some (.tup (iL s)),some (.lst L5 [.str x0, .str x1, .str x2]),some (.int t),some (.str y0),o8,o9,o10,o11],[some (.ro (ns.map .int))],n⟩ (by lia) ⟨c1,x1',y0,o8,n,b1,ty0,Nat.le_refl _,s8,fun q=>absurd q (by decide),rfl⟩
 have tl:=ty.up (Nat.le_trans (zcI (1+v).toNat (by lia)) (show 8700<=1000000 by decide))
 obtain⟨L,n3,g3,hL,e3⟩:=zgR y tl.1 n2
 obtain⟨n4,g4,e4⟩:=zgP y tl.1 n3
 obtain⟨n5,g5,e5⟩:=zgY N y tl.1 n4
 obtain⟨p10,n6,g6,hp10,e6⟩:=zjn (some (.ro (ns.map .int))) (some (.int i)) (some (.lst l [.int c2, .int x2'])) (some (.tup (iL s))) (some (.lst L5 [.str x0, .str x1, .str x2])) (some (.int t)) p8 o10 o11 N y tl n5 L (n5+1) (.ro (ns.map .int))
 have hd: ∀j∈labs (duL n5 L N y),l<j/\j<n6:=fun j hj=>by
  rcases zem tl.2 hj with rfl|⟨q,rfl⟩
  ·exact⟨by lia,by lia⟩
  ·have:=hL q
   exact⟨by lia,by lia⟩
 refine⟨c2,x2',some (.str y),p8,some (duL n5 L N y),p10,n6,b2,by lia,zjq,⟨f8,(w8 (by lia)).mono (by lia)⟩,⟨fun d=>by rw[Option.map_some,z6e fun q=>by have:=hd l q;lia],UpO.of fun j hj=>(hd j hj).2⟩,⟨?_, ?_⟩, ?_⟩
 ·rcases hp10 with rfl|⟨j,rfl⟩
  ·exact s10
  ·exact fun _=>rfl
 ·rcases hp10 with rfl|⟨j,rfl⟩
  ·exact .inl rfl
  ·exact .inr zbQ
 unfold inM
 walk_at ""
 rw[z5f (by decide)]
 walk_at ""
 rw[ey0]
 walk_at ""
 rw[e1,z03 rfl rfl rfl (fun q=>by walk_at "";simp only[sr,h5',rL_i,s8 _,s9 _,s10 _,s11 _];rfl) (fun q=>by walk_at "";simp only[sr];rfl)]
 walk_at ""
 rw[z5t ⟨by lia,by lia⟩]
 walk_at ""
 rw[e2]
 walk_at ""
 rw[e3]
 walk_at ""
 rw[e4]
 walk_at ""
 rw[e5]
 walk_at ""
 rw[show(if kyOk y=true then D.lst L (iL (kyV y)) else .non)=kyD y L from rfl,show(if z2U y=true then z77 y else .non)=z4g y from rfl,show(if z4Y N y=true then wshV y else .non)=wshD N y from rfl]
 rw[zcr (ds:=[.int 0, .int 1, .int 2, .int 0, .int 1, .int 2]) (σ:=[some (.ro (ns.map .int)),some (.int i),some (.lst l [.int c2, .int x2']),some (.int N),some (.tup (iL s)),some (.lst L5 [.str x0, .str x1, .str x2]),some (.int t),some (.str y),p8,some (duL n5 L N y),o10,o11]) (tm:=[some (.ro (ns.map .int))]) (n:=n5+1) (by
  walk_at ""
  rw[t6])]
 walk_at ""
 exact e6
noncomputable def turnM:MS:=(seqS (sAsg (.nm 2) (z02 z4O [(mVar 0),(mVar 1)]))
 (seqS (sAsg (.nm 3) (z02 z04 [(mVar 2),(mC (.int 25))]))
 (seqS (sAsg (.nm 4) (z02 z0x [(mVar 2),(z02 z04 [(mVar 2),(mBin (mCB [(mC (.int 5)),(mC (.int 61))] lstM) (z02 z04 [(mVar 2),(mC (.int 2))]) ixD)]),(mC (.int 26))]))
 (seqS (sAsg (.nm 5) (mCB [(z02 z1c [(mVar 4)]),(z02 z1d [(z02 z3D [(mVar 2)])]),(z02 z0I [(z02 z3E [(mVar 2),(mCB [(mC (.int 1)),(mVar 3)] maxD)])])] lstM))
 (seqS (sFor (z2Z [(mC (.int 15))]) (.nm 6) inM)
 (sFor (z0L (mCB [(mC .non),(mC (.int 0)),(mC (.bool true)),(mCB [] lstM),(mCB [] tupD),(mCB [(mC (.str ("a" :Str)))] lstM),(mCB [(mC (.str ("span" :Str))),(mC (.int 0)),(mC (.int 1))] tupD),(mC (.str ("" :Str)))] lstM)) (.nm 11) thM))))))
theorem k8{a b c d e f g h:D}{σ tm:List (Option D)}{n:Nat}:lstM [a,b,c,d,e,f,g,h] ⟨σ,tm,n⟩= .ok (.lst n [a,b,c,d,e,f,g,h]) ⟨σ,tm,n+1⟩:=(rfl)
theorem thg{a b k:Nat}(h1:a<k)(h2:b<k): ∀d∈[D.non, .int 0, .bool true, .lst a [], .tup [], .lst b [.str (Str.ofString "a")], .tup [.str (Str.ofString "span"), .int 0, .int 1], .str (Str.ofString "")],((plain d=true/\∀x,d≠ .str x)\/d= .str (Str.ofString ""))/\Up k d:=by
 intro d hd
 simp only[List.mem_cons,List.not_mem_nil,or_false] at hd
 rcases hd with rfl|rfl|rfl|rfl|rfl|rfl|rfl|rfl
 all_goals refine⟨?_,fun j hj=> ?_⟩
 all_goals first
  |exact .inr rfl
  |exact .inl ⟨rfl,fun x q=>(nomatch q)⟩
  |(simp[labs,labsL] at hj<;>lia)
theorem zen(ns:List Int)(hl:ns.length<1000)(i:Nat)(hi:i<7)(n:Nat)(o2 o3 o4 o5 o6 o7 o8 o9 o10 o11:Option D)(u3:UpO n o3)(u4:UpO n o4)(u5:UpO n o5)(u6:UpO n o6)(u7:UpO n o7)(u8:UpO n o8)(u9:UpO n o9)(u10:UpO n o10)(u11:UpO n o11):
 ∃n' p2 p3 p4 p5 p6 p7 p8 p9 p10 p11,turnM ⟨[some (.ro (ns.map .int)),some (.int i),o2,o3,o4,o5,o6,o7,o8,o9,o10,o11],[some (.ro (ns.map .int))],n⟩= .nx ⟨[some (.ro (ns.map .int)),some (.int i),p2,p3,p4,p5,p6,p7,p8,p9,p10,p11],[some (.ro (ns.map .int))],n'⟩/\UpO n' p3/\UpO n' p4/\UpO n' p5/\UpO n' p6/\UpO n' p7/\UpO n' p8/\UpO n' p9/\UpO n' p10/\UpO n' p11:=by
 have s3:=u3.fix
 have s4:=u4.fix
 have s5:=u5.fix
 have s6:=u6.fix
 have s7:=u7.fix
 have s8:=u8.fix
 have s9:=u9.fix
 have s10:=u10.fix
 have s11:=u11.fix
 have sr:=zhe ns
 obtain⟨c,x,b0,e0⟩:=zgm ns i n (by lia) hl
 obtain⟨N,c1,x1,N0,N1,b1,e1⟩:=z0p n c x 25 (n+1) b0 (by decide) (by decide)
 obtain⟨r,c2,x2,r0,r1,b2,e2⟩:=z0p n c1 x1 2 (n+1+1) b1 (by decide) (by decide)
 obtain⟨v,v0,v1,ev⟩:=at_2 (a:=5) (b:=61) r0 r1 0 61 (by decide)
 obtain⟨m,c3,x3,m0,m1,b3,e3⟩:=z0p n c2 x2 v (n+1+1) b2 (by lia) (by lia)
 obtain⟨s,c4,x4,n4,ls,hs,b4,g4,e4⟩:=z8l n c3 x3 m 26 (n+1+1) b3 (by lia) (by lia) (by lia) (by decide) (by decide)
 obtain⟨y0,n5,t0,g5,e5⟩:=zjd s hs (by lia) n4
 obtain⟨ws,wg,wk,ww,c6,x6,n6,h6a,h6b,h6c,h6d,b6,g6,e6⟩:=zh4 n c4 x4 n5 b4 (by lia)
 obtain⟨y1,n7,t1,g7,e7⟩:=zje ws wg wk ww h6a h6b h6c h6d n6
 generalize hM:(if N>1 then N else 1)=M
 have M0:1<=M/\M<=24:=by split at hM<;>lia
 obtain⟨wd,c8,x8,n8,h8,b8,g8,e8⟩:=zh5 n c6 x6 M n7 b6 (by lia) M0.1 M0.2
 obtain⟨y2,n9,t2,g9,e9⟩:=zjf wd h8 n8
 obtain⟨s',e10,c9,x9,p6,p7,p8,p9,p10,n10,b9,hn10,w6,w7,f8,w8,f9,w9,f10,w10,rfl⟩:=z6g (P:=fun k s'=> ∃(c9 x9:Int) (p6 p7 p8 p9 p10:Option D) (n10:Nat),Bg c9 x9/\n9+1<=n10/\UpO n10 p6/\UpO n10 p7/\Fl n p8/\UpO n10 p8/\Fl n p9/\UpO n10 p9/\Fl n p10/\UpO n10 p10/\s'=⟨[some (.ro (ns.map .int)),some (.int i),some (.lst n [.int c9, .int x9]),some (.int N),some (.tup (iL s)),some (.lst n9 [.str y0, .str y1, .str y2]),p6,p7,p8,p9,p10,o11],[some (.ro (ns.map .int))],n10⟩) (lo:=0) (N:=15) (g:= .nm 6) (b:=inM) (by
  rintro k hk s' ⟨c9,x9,p6,p7,p8,p9,p10,n10,b9,hn10,w6,w7,f8,w8,f9,w9,f10,w10,rfl⟩
  refine⟨_,rfl, ?_⟩
  obtain⟨c10,x10,q7,q8,q9,q10,n11,b10,g11,z7,z8,z9,z10,e11⟩:=zjs ns i (0+(k:Int)) N c9 x9 s y0 y1 y2 t0 t1 t2 n9 n n10 b9 (by lia) (by lia) p7 p8 p9 p10 o11 f8 f9 f10 s11
  exact⟨_,e11,c10,x10,_,q7,q8,q9,q10,n11,b10,by lia,zbQ,z7,z8.1,z8.2,z9.1,z9.2,z10.1,z10.2.elim (fun e=>e▸w10.mono g11) id,rfl⟩) 15 0 ⟨[some (.ro (ns.map .int)),some (.int i),some (.lst n [.int c8, .int x8]),some (.int N),some (.tup (iL s)),some (.lst n9 [.str y0, .str y1, .str y2]),o6,o7,o8,o9,o10,o11],[some (.ro (ns.map .int))],n9+1⟩ (by lia) ⟨c8,x8,o6,o7,o8,o9,o10,n9+1,b8,Nat.le_refl _,u6.mono (by lia),u7.mono (by lia),s8,u8.mono (by lia),s9,u9.mono (by lia),s10,u10.mono (by lia),rfl⟩
 have hth:=thg (a:=n10) (b:=n10+1) (k:=n10+1+1+1) (by lia) (by lia)
 obtain⟨p11,n12,g12,h12,e12⟩:=zjo (some (.ro (ns.map .int))) (some (.int i)) (some (.lst n [.int c9, .int x9])) (some (.tup (iL s))) (some (.lst n9 [.str y0, .str y1, .str y2])) p6 p7 p8 p9 p10 o11 N [D.non, .int 0, .bool true, .lst n10 [], .tup [], .lst (n10+1) [.str (Str.ofString "a")], .tup [.str (Str.ofString "span"), .int 0, .int 1], .str (Str.ofString "")] (fun d h=>(hth d h).1) (n10+1+1) (n10+1+1+1) (.ro (ns.map .int))
 have w11:UpO n12 p11:=by
  rcases h12 with rfl|⟨d,hd,rfl⟩
  ·exact u11.mono (by lia)
  ·exact(UpO.of (hth d hd).2).mono (by lia)
 have w5:UpO n12 (some (.lst n9 [.str y0, .str y1, .str y2])):=UpO.of fun j hj=>by
  simp only[labs,labsL,List.append_nil,List.mem_cons,List.not_mem_nil,or_false] at hj
  lia
 refine⟨n12,some (.lst n [.int c9, .int x9]),some (.int N),some (.tup (iL s)),some (.lst n9 [.str y0, .str y1, .str y2]),p6,p7,p8,p9,p10,p11, ?_,zbQ,zjr,w5,w6.mono (by lia),w7.mono (by lia),w8.mono (by lia),w9.mono (by lia),w10.mono (by lia),w11⟩
 have f2: ∀d,rp (pl n d) (.lst (n+1) [.int 5, .int 61])= .lst (n+1) [.int 5, .int 61]:=fun d=>fl2 (by lia) d
 unfold turnM
 walk_at ""
 rw[e0]
 walk_at ""
 rw[e1,z03 rfl rfl rfl (fun q=>by walk_at "";simp only[sr,s3,s4,s5,s6,s7,s8,s9,s10,s11];rfl) (fun q=>by walk_at "";simp only[sr];rfl)]
 walk_at ""
 rw[e2,z03 rfl rfl rfl (fun q=>by walk_at "";simp only[sr,s4,s5,s6,s7,s8,s9,s10,s11];rfl) (fun q=>by walk_at "";simp only[sr,f2];rfl)]
 walk_at ""
 rw[ev]
 walk_at ""
 rw[e3,z03 rfl rfl rfl (fun q=>by walk_at "";simp only[sr,s4,s5,s6,s7,s8,s9,s10,s11];rfl) (fun q=>by walk_at "";simp only[sr];rfl)]
 walk_at ""
 rw[e4,z03 rfl rfl rfl (fun q=>by walk_at "";simp only[sr,s4,s5,s6,s7,s8,s9,s10,s11];rfl) (fun q=>by walk_at "";simp only[sr];rfl)]
 walk_at ""
 rw[e5]
 walk_at ""
 rw[e6,z03 rfl rfl rfl (fun q=>by walk_at "";simp only[sr,rL_i,s5,s6,s7,s8,s9,s10,s11];rfl) (fun q=>by walk_at "";simp only[sr];rfl)]
 walk_at ""
 rw[e7]
 walk_at ""
 rw[hM,e8,z03 rfl rfl rfl (fun q=>by walk_at "";simp only[sr,rL_i,s5,s6,s7,s8,s9,s10,s11];rfl) (fun q=>by walk_at "";simp only[sr];rfl)]
 walk_at ""
 rw[e9]
 walk_at ""
 rw[z5t ⟨by decide,by decide⟩]
 walk_at ""
 rw[show Int.toNat 15=15 from rfl,e10]
 walk_at ""
 rw[za5 (l:=n10+1+1) (ds:=[D.non, .int 0, .bool true, .lst n10 [], .tup [], .lst (n10+1) [.str (Str.ofString "a")], .tup [.str (Str.ofString "span"), .int 0, .int 1], .str (Str.ofString "")]) (σ:=[some (.ro (ns.map .int)),some (.int i),some (.lst n [.int c9, .int x9]),some (.int N),some (.tup (iL s)),some (.lst n9 [.str y0, .str y1, .str y2]),p6,p7,p8,p9,p10,o11]) (tm:=[some (.ro (ns.map .int))]) (n:=n10+1+1+1) (by
  walk_at ""
  rw[k8])]
 walk_at ""
 exact e12
theorem zhg(ns:List Int)(hl:ns.length<1000)(n:Nat): ∃n',f_law [.ro (ns.map .int)] n= .ok (.bool true) [.ro (ns.map .int)] n':=by
 unfold f_law
 have e0:zdN=seqS (sFor (z2Z [(mCB [(mC (.int 2)),(mCB [(mCB [(mVar 0)] lenD),(mC (.int 6))] minD)] maxD)]) (.nm 1) turnM) (sRet (mC (.bool true))):=rfl
 rw[e0]
 walk_at ""
 have w0:((ns.map D.int).length:Int)=ns.length:=by simp
 rw[w0]
 generalize hk:(if(if(6:Int)<(ns.length:Int) then(6:Int) else(ns.length:Int))>2 then(if(6:Int)<(ns.length:Int) then(6:Int) else(ns.length:Int)) else(2:Int))=k
 have hk0:0<=k/\k<=6:=by split at hk<;>(try split at hk)<;>lia
 rw[z5t ⟨by lia,by lia⟩]
 walk_at ""
 obtain⟨s',e2,o1,o2,o3,o4,o5,o6,o7,o8,o9,o10,o11,m,rfl,u3,u4,u5,u6,u7,u8,u9,u10,u11⟩:=z6g (P:=fun i s=> ∃(o1 o2 o3 o4 o5 o6 o7 o8 o9 o10 o11:Option D) (n:Nat),s=⟨[some (.ro (ns.map .int)),o1,o2,o3,o4,o5,o6,o7,o8,o9,o10,o11],[some (.ro (ns.map .int))],n⟩/\UpO n o3/\UpO n o4/\UpO n o5/\UpO n o6/\UpO n o7/\UpO n o8/\UpO n o9/\UpO n o10/\UpO n o11) (lo:=0) (N:=k.toNat) (g:= .nm 1) (b:=turnM) (by
  rintro i hi s ⟨o1,o2,o3,o4,o5,o6,o7,o8,o9,o10,o11,n,rfl,u3,u4,u5,u6,u7,u8,u9,u10,u11⟩
  refine⟨[some (.ro (ns.map .int)),some (.int i),o2,o3,o4,o5,o6,o7,o8,o9,o10,o11],by simp only[Int.zero_add];rfl, ?_⟩
  obtain⟨n',p2,p3,p4,p5,p6,p7,p8,p9,p10,p11,e,v3,v4,v5,v6,v7,v8,v9,v10,v11⟩:=zen ns hl i (by lia) n o2 o3 o4 o5 o6 o7 o8 o9 o10 o11 u3 u4 u5 u6 u7 u8 u9 u10 u11
  exact⟨_,e,_,p2,p3,p4,p5,p6,p7,p8,p9,p10,p11,n',rfl,v3,v4,v5,v6,v7,v8,v9,v10,v11⟩) k.toNat 0 ⟨[some (.ro (ns.map .int)),none,none,none,none,none,none,none,none,none,none,none],[some (.ro (ns.map .int))],n⟩ (by lia) ⟨none,none,none,none,none,none,none,none,none,none,none,n,rfl, .no, .no, .no, .no, .no, .no, .no, .no, .no⟩
 rw[e2]
 walk_at ""
 exact⟨_,rfl⟩
end My
set_option maxHeartbeats 4000000
namespace Mi
open PySem L2 PySem.Spec PyProof.Rows
noncomputable def zaI(K:W.Frag)(np:Nat)(f:FM):Sp:=fun vs H Q E=>vs.length=np/\∀G:Gx,G.K=K->KD K H->spM G np f vs H Q E
theorem zhh{P:Program}{w:World}{K:W.Frag}{mg:Str->Option Value}{base:Heap}{CX:CXT}{k:Nat}{fa:Addr}{fd:FuncData}{x:Str}{f:FM}{G:Gx}(hG:G.K=K)(F:FnOk P w K mg base CX k fa fd [x] (spM G 1 f)):FnOk P w K mg base CX k fa fd [x] (zaI K 1 f):=
 ⟨fun _ _ _ _ h=>h.1,fun A outer s H args us vs Q E hr e0 hb hv h=>F.run A outer s H args us vs Q E hr e0 hb hv (h.2 G hG fun a o e=>(e0.bs a o (e0.mod.kin a o e)).2)⟩
theorem RDs.ints{G:Gx}{ρ:Nat->Addr}{H:Hp}: ∀ns:List Int,RDs G ρ H (ns.map D.int) (ns.map V.int)
 |[]=>by simp only[List.map_nil,RDs]
 |n::ns=>by
  simp only[List.map_cons,RDs]
  exact⟨_,_,rfl,by simp only[RD],RDs.ints ns⟩
theorem z79: ∀ns:List Int,labsL (ns.map D.int)=[]
 |[]=>by simp only[List.map_nil,labsL]
 |n::ns=>by simp only[List.map_cons,labsL,labs,z79 ns,List.nil_append]
theorem zhi{K:W.Frag}{H:Hp}{a:Addr}{ns:List Int}{f:FM}{E:XK}(e: ∀n,∃n',f [.ro (ns.map D.int)] n= .ok (.bool true) [.ro (ns.map D.int)] n')(hO:Only H)(hS:SqL K H a (ns.map V.int)):zaI K 1 f [.ref a] H (fun v _=>v= .bl true) E:=by
 refine⟨rfl,fun G hG kd=> ?_⟩
 subst hG
 refine⟨rfl,fun _=>a,0,[.ro (ns.map D.int)], ?_,fun i j hi=>absurd hi (Nat.not_lt_zero _),fun l hl=>absurd hl (Nat.not_lt_zero _),fun l hl=> ?_,kd, ?_⟩
 ·simp only[RDs,RD]
  refine⟨_,_,rfl,⟨a,ns.map V.int,rfl, ?_,RDs.ints ns⟩,rfl⟩
  rcases hS with(h|h)|h
  ·rcases hO a with z|⟨o,xs,z⟩<;>rw[h] at z<;>cases z
  ·exact .inl h
  ·exact .inr h
 ·simp only[labsL,labs,z79,List.append_nil] at hl
  cases hl
 ·obtain⟨n',e⟩:=e 0
  rw[e]
  intro ρ' v H' _ rd _
  simp only[RD] at rd
  exact rd
end Mi
namespace My
open PySem L2 Mi
structure DA(K:W.Frag)(x:Str)(st:Stmt)(f:Addr)(d:FuncData):Prop where
 a:W.nsIn K mainGlobals x=some (some (.ref f))
 F:Fun K x x st f d
theorem zjt{K:W.Frag}{x:Str}{st:Stmt}{f:Addr}{oc:Value}{od an:Option Addr}{sl:Array (Option Value)}{kV dc pm cd ct:Value}(a:W.nsIn K mainGlobals x=some (some (.ref f)))
 (l:K.lookup f=some ⟨oc,od, .func (W.fnOf x x (z38 st) (z0R st) (z01 st) .none kV dc pm an cd ct),sl⟩) (c:W.codeIn K cd x=true) (k:W.keepIn K (.ref f)=true):
 DA K x st f (W.fnOf x x (z38 st) (z0R st) (z01 st) .none kV dc pm an cd ct):=⟨a,zeX l c k⟩
noncomputable def dx{K:W.Frag}{h:Heap}{mg:Str->Option Value}{x:Str}{st:Stmt}{f:Addr}{d:FuncData}{ps:List Str}(X:K.In h)(G:h.Ns mainGlobals mg)(a:DA K x st f d)
 (b: ∀(kV dc pm:Value) (an:Option Addr) (cd ct:Value) (us:List Value),us.length=ps.length->bindArgs (W.fnOf x x (z38 st) (z0R st) (z01 st) .none kV dc pm an cd ct) ⟨us,[]⟩=pure (ps.zip us)):Dx K mg x st ps:=
 ⟨f,d,a.F,a.F.binds b,W.mg_of X G a.a⟩
theorem zhj{l:W.OpenLaw}{w:World}{K:W.Frag}{h:Heap}{mg:Str->Option Value}{fa f0 f1 f2 f3 f4 f5 f6 f7 f8 f9 f10 f11 f12 f13 f14 f15 f16 f17 f18 f19 f20 f21 f22 f23 f24 f25 f26 f27 f28 f29:Addr}{d0 d1 d2 d3 d4 d5 d6 d7 d8 d9 d10 d11 d12 d13 d14 d15 d16 d17 d18 d19 d20 d21 d22 d23 d24 d25 d26 d27 d28 d29:FuncData}(X:K.In h)(G:h.Ns mainGlobals mg)(hfa:mg "law" =some (.ref fa))
 (a0:DA K "is_number" z29 f0 d0)
 (a1:DA K "is_whole" z2N f1 d1)
 (a2:DA K "is_row" z3T f2 d2)
 (a3:DA K "is_word" z39 f3 d3)
 (a4:DA K "is_piece_signs" z0T f4 d4)
 (a5:DA K "read_dotted" z1B f5 d5)
 (a6:DA K "read_number" z1C f6 d6)
 (a7:DA K "is_wish" z3a f7 d7)
 (a8:DA K "is_stretch" z1R f8 d8)
 (a9:DA K "read_keys_text" z0U f9 d9)
 (a10:DA K "read_word" z2a f10 d10)
 (a11:DA K "read_wish" z2b f11 d11)
 (a12:DA K "refuse_no_text" z0V f12 d12)
 (a13:DA K "_law_bag" z7q f13 d13)
 (a14:DA K "_law_take" z5O f14 d14)
 (a15:DA K "_law_dots" z5P f15 d15)
 (a16:DA K "_law_keys_text" z2c f16 d16)
 (a17:DA K "_law_word_text" z2d f17 d17)
 (a18:DA K "_law_wish_text" z2e f18 d18)
 (a19:DA K "_law_numbers" z3b f19 d19)
 (a20:DA K "_law_word" z5Q f20 d20)
 (a21:DA K "_law_wish" z5R f21 d21)
 (a22:DA K "_law_number" z3U f22 d22)
 (a23:DA K "_law_row" z7r f23 d23)
 (a24:DA K "_law_read_keys" z2f f24 d24)
 (a25:DA K "_law_read_word" z2g f25 d25)
 (a26:DA K "_law_read_wish" z2h f26 d26)
 (a27:DA K "_law_bent" z5S f27 d27)
 (a28:DA K "_law_told" z5T f28 d28)
 (a29:DA K "law" zdJ f29 d29)
 (z0:W.nsIn K mainGlobals "ValueError" =some none)
 (z1:W.nsIn K mainGlobals "abs" =some none)
 (z2:W.nsIn K mainGlobals "all" =some none)
 (z3:W.nsIn K mainGlobals "bool" =some none)
 {tk4:Nat} (z4:W.nsIn K mainGlobals "FIGURES" =some (some (.str ("0123456789" :Str) tk4)))
 {tk5:Nat} (z5:W.nsIn K mainGlobals "LAST_SIGN" =some (some (.int 1039 tk5)))
 {tk6:Nat} (z6:W.nsIn K mainGlobals "LAST_SOUND" =some (some (.int 39 tk6)))
 {tk7:Nat} (z7:W.nsIn K mainGlobals "LAST_WORD_COST" =some (some (.int 9999 tk7)))
 {tk8:Nat} (z8:W.nsIn K mainGlobals "LAST_WORD_KIND" =some (some (.int 7 tk8)))
 {tk9:Nat} (z9:W.nsIn K mainGlobals "LAST_WORD_SIGN" =some (some (.int 999 tk9)))
 {tk10:Nat} (z10:W.nsIn K mainGlobals "LETTERS" =some (some (.str ("abcdefghijklmnopqrstuvwxyz" :Str) tk10)))
 {tk11:Nat} (z11:W.nsIn K mainGlobals "MOST_FIGURES" =some (some (.int 5 tk11)))
 {tk12:Nat} (z12:W.nsIn K mainGlobals "MOST_KEYS" =some (some (.int 60 tk12)))
 {tk13:Nat} (z13:W.nsIn K mainGlobals "MOST_PIECE_SIGNS" =some (some (.int 24 tk13)))
 {tk14:Nat} (z14:W.nsIn K mainGlobals "MOST_WORD_SIGNS" =some (some (.int 4 tk14)))
 {tk15:Nat} (z15:W.nsIn K mainGlobals "MOST_WORD_SOUNDS" =some (some (.int 6 tk15)))
 {tk16:Nat} (z16:W.nsIn K mainGlobals "NONE" =some (some (.str ("-" :Str) tk16)))
 (z17:W.nsIn K mainGlobals "int" =some none)
 (z18:W.nsIn K mainGlobals "isinstance" =some none)
 (z19:W.nsIn K mainGlobals "len" =some none)
 (z20:W.nsIn K mainGlobals "max" =some none)
 (z21:W.nsIn K mainGlobals "min" =some none)
 (z22:W.nsIn K mainGlobals "range" =some none)
 (z23:W.nsIn K mainGlobals "str" =some none)
 (z24:W.nsIn K mainGlobals "tuple" =some none)
 {ka6:Addr}
 (q1:nI K "Barred" ka6)
 {kas:Addr}
 (q3:nI K "BenchError" kas)
 {kbl:Addr}
 (q5:nI K "Fight" kbl)
 {kbp:Addr}
 (q7:nI K "Full" kbp)
 {kbi:Addr}
 (q9:nI K "Marked" kbi)
 {kaS:Addr}
 (q11:nI K "Missing" kaS)
 {kaF:Addr}
 (q13:nI K "NoChoice" kaF)
 {kav:Addr}
 (q15:nI K "NoCutting" kav)
 {kbd:Addr}
 (q17:nI K "NoDeed" kbd)
 {ka9:Addr}
 (q19:nI K "NoMark" ka9)
 {kbe:Addr}
 (q21:nI K "NoNode" kbe)
 {kaT:Addr}
 (q23:nI K "NoPlace" kaT)
 {kaD:Addr}
 (q25:nI K "NoSaying" kaD)
 {kar:Addr}
 (q27:nI K "NoStanding" kar)
 {kaP:Addr}
 (q29:nI K "NoTable" kaP)
 {ka4:Addr}
 (q31:nI K "NoText" ka4)
 {ka1:Addr}
 (q33:nI K "NoTurn" ka1)
 {ka5:Addr}
 (q35:nI K "NoWish" ka5)
 {ka2:Addr}
 (q37:nI K "NoWord" ka2)
 {kaW:Addr}
 (q39:nI K "Nothing" kaW)
 {kaY:Addr}
 (q41:nI K "TooLong" kaY)
 {kaZ:Addr}
 (q43:nI K "TooMany" kaZ)
 {kbo:Addr}
 (q45:nI K "Twice" kbo)
 {kbj:Addr}
 (q47:nI K "Waits" kbj)
 (q48:xA K ka4)
 (q49:mO K ka4 "object")
 (q50:mO K ka4 "BaseException")
 (q51:fA K ka4)
 (q52:fB K ka4)
 (q53:fC K ka4)
 (q54:eB K ka4 kas)
 (q55:kN K ka4 [ka6,kbi,kbd,ka9,kaT,kar,kaY,ka2,kbo,kaZ])
 (q56:kN K ka4 [kaS,kaF,kbe,kaW,ka5,kbl,kav,kbj,ka1,kbp])
 (q57:kN K ka4 [kaP,kaD])
 (q58:kV K ka4)
 (q59:kF K ka4 ka4 true)
 (q60:[ka4,f9,f10].Nodup)
 : ∃fd:FuncData,(∀(s:Shared) (v:Value),BindsTo s fd ⟨[v],[]⟩ [("_law_script",v)])/\∀base:Heap,K.In base->base.Ns mainGlobals mg->FnOk l.prog w K mg base CX0 8 fa fd ["_law_script"] (zaI K 1 f_law):=by
 have e:=hfa.symm.trans (W.mg_of X G a29.a)
 cases e
 obtain⟨oc,od,kV,doc,pm,an,cdv,ct,osl,rfl,lk,hcd⟩:=a29.F.ex
 exact⟨_,fun s v=> .of_eq rfl,fun base _ _=>zhh rfl (zfS ⟨dx X G a0 fun _ _ _ _ _ _ us hl=>match us,hl with|[_],_=>rfl,dx X G a1 fun _ _ _ _ _ _ us hl=>match us,hl with|[_,_,_],_=>rfl,dx X G a2 fun _ _ _ _ _ _ us hl=>match us,hl with|[_,_,_,_],_=>rfl,dx X G a3 fun _ _ _ _ _ _ us hl=>match us,hl with|[_],_=>rfl,dx X G a4 fun _ _ _ _ _ _ us hl=>match us,hl with|[_],_=>rfl,dx X G a5 fun _ _ _ _ _ _ us hl=>match us,hl with|[_],_=>rfl,dx X G a6 fun _ _ _ _ _ _ us hl=>match us,hl with|[_],_=>rfl,dx X G a7 fun _ _ _ _ _ _ us hl=>match us,hl with|[_,_],_=>rfl,dx X G a8 fun _ _ _ _ _ _ us hl=>match us,hl with|[_,_,_],_=>rfl,dx X G a9 fun _ _ _ _ _ _ us hl=>match us,hl with|[_],_=>rfl,dx X G a10 fun _ _ _ _ _ _ us hl=>match us,hl with|[_],_=>rfl,dx X G a11 fun _ _ _ _ _ _ us hl=>match us,hl with|[_,_],_=>rfl,dx X G a12 fun _ _ _ _ _ _ us hl=>match us,hl with|[_],_=>rfl,dx X G a13 fun _ _ _ _ _ _ us hl=>match us,hl with|[_,_],_=>rfl,dx X G a14 fun _ _ _ _ _ _ us hl=>match us,hl with|[_,_],_=>rfl,dx X G a15 fun _ _ _ _ _ _ us hl=>match us,hl with|[_],_=>rfl,dx X G a16 fun _ _ _ _ _ _ us hl=>match us,hl with|[_],_=>rfl,dx X G a17 fun _ _ _ _ _ _ us hl=>match us,hl with|[_],_=>rfl,dx X G a18 fun _ _ _ _ _ _ us hl=>match us,hl with|[_],_=>rfl,dx X G a19 fun _ _ _ _ _ _ us hl=>match us,hl with|[_,_,_],_=>rfl,dx X G a20 fun _ _ _ _ _ _ us hl=>match us,hl with|[_],_=>rfl,dx X G a21 fun _ _ _ _ _ _ us hl=>match us,hl with|[_,_],_=>rfl,dx X G a22 fun _ _ _ _ _ _ us hl=>match us,hl with|[_],_=>rfl,dx X G a23 fun _ _ _ _ _ _ us hl=>match us,hl with|[_,_,_],_=>rfl,dx X G a24 fun _ _ _ _ _ _ us hl=>match us,hl with|[_],_=>rfl,dx X G a25 fun _ _ _ _ _ _ us hl=>match us,hl with|[_],_=>rfl,dx X G a26 fun _ _ _ _ _ _ us hl=>match us,hl with|[_,_],_=>rfl,dx X G a27 fun _ _ _ _ _ _ us hl=>match us,hl with|[_,_],_=>rfl,dx X G a28 fun _ _ _ _ _ _ us hl=>match us,hl with|[_,_,_],_=>rfl,dx X G a29 fun _ _ _ _ _ _ us hl=>match us,hl with|[_],_=>rfl,W.mg_none_of X G z0,W.mg_none_of X G z1,W.mg_none_of X G z2,W.mg_none_of X G z3,⟨_,W.mg_of X G z4⟩,⟨_,W.mg_of X G z5⟩,⟨_,W.mg_of X G z6⟩,⟨_,W.mg_of X G z7⟩,⟨_,W.mg_of X G z8⟩,⟨_,W.mg_of X G z9⟩,⟨_,W.mg_of X G z10⟩,⟨_,W.mg_of X G z11⟩,⟨_,W.mg_of X G z12⟩,⟨_,W.mg_of X G z13⟩,⟨_,W.mg_of X G z14⟩,⟨_,W.mg_of X G z15⟩,⟨_,W.mg_of X G z16⟩,W.mg_none_of X G z17,W.mg_none_of X G z18,W.mg_none_of X G z19,W.mg_none_of X G z20,W.mg_none_of X G z21,W.mg_none_of X G z22,W.mg_none_of X G z23,W.mg_none_of X G z24,ka6,W.mg_of X G q1,kas,W.mg_of X G q3,kbl,W.mg_of X G q5,kbp,W.mg_of X G q7,kbi,W.mg_of X G q9,kaS,W.mg_of X G q11,kaF,W.mg_of X G q13,kav,W.mg_of X G q15,kbd,W.mg_of X G q17,ka9,W.mg_of X G q19,kbe,W.mg_of X G q21,kaT,W.mg_of X G q23,kaD,W.mg_of X G q25,kar,W.mg_of X G q27,kaP,W.mg_of X G q29,ka4,W.mg_of X G q31,ka1,W.mg_of X G q33,ka5,W.mg_of X G q35,ka2,W.mg_of X G q37,kaW,W.mg_of X G q39,kaY,W.mg_of X G q41,kaZ,W.mg_of X G q43,kbo,W.mg_of X G q45,kbj,W.mg_of X G q47,q48,q49,q50,q51,q52,q53,q54,q55,q56,q57,q58,q59,q60⟩)⟩
theorem walk{l:W.OpenLaw}{q:Program}{loose:List Str}{XP:(Str->Option Value)->Heap->Prop}{YP:World->Heap->Prop}{d:DefRec}{K:Params->W.Frag}(hn:l.most=some 63)(hdf:d.params.defaults=[])
 (hY: ∀(w:World) (h:Heap),YP w h->(K w.params).In h)
 (F: ∀(w:World) (mg:Str->Option Value) (fa:Addr) (h:Heap),(K w.params).In h->h.Ns mainGlobals mg->mg d.name=some (.ref fa)->
  ∃fd:FuncData,(∀(s:Shared) (u:Value),BindsTo s fd ⟨[u],[]⟩ [("_law_script",u)])/\∀base:Heap,(K w.params).In base->base.Ns mainGlobals mg->FnOk l.prog w (K w.params) mg base CX0 8 fa fd ["_law_script"] (zaI (K w.params) 1 f_law)):
 W.WalkO q loose XP YP l.row.toRowW d [] (fun f vs=>PySem.call f vs):=
 L2.zdf (n:=63) (k:=8) (x:= "_law_script") (CX:=fun _=>CX0) (sp:=fun w=>zaI (K w.params) 1 f_law) hn (by decide) hdf ⟨rfl,by decide,by decide,rfl⟩ hY F (fun _ _ a ns hl hO hS=>zhi (fun n=>zhg ns (by lia) n) hO hS) fun _ _ _ _ _ h=>h.elim
end My
inductive PySem.W.Fast:Prop|tw18147020587585230033|tw14540103930398609091|tw14425078859276535940|tw2997211259401218103|tw515962357170373788|tw15799294349952348871|tw825405840260301252|tw14039283462742182156|tw15860420221165041470|tw14323669823851617466|tw13983983951100686448|tw17923514902665028446|tw11898329956411961168|tw14575020175911603644|tw4876643575895024635|tw13760562185690615907|tw2888135571405463342|tw17332853533128463484|tw5767333442240255734|tw10765981009609426342|tw3524521072293910698|tw5460681357229966817|tw15298994408431272707|tw2254571021200380681|tw2139549346697293609|tw2143516989897779615|tw3536273011664140907|tw3329152944232581697|tw3398837969628034356|tw2176682691051946256|tw17580093547799320342|tw10910048209026312899|tw11872452783810668631|tw10974497884820927788|tw11715773925127081459|tw13769677116819624474|tw15276349695630268556|tw17481329425145591134|tw10670731112048976767|tw16074159576489708667|tw802105916650303771|tw6275196187096418071|tw12339142309211276351|tw15519723421836712166|tw14717283199907462696|tw8977645061056243741|tw6372557693557039893|tw7918994197768320188|tw6937444369516078841|tw12306847431289055458|tw5192473804855858271|tw2705007259930269411|tw2917667574152237776|tw10001121970084446641|tw17940361661785097750|tw1092569556548401925|tw9089248901814525612|tw283729904940483709|tw5837808893242722196|tw1457951508073990625|tw4841361578281959743|tw9972313873720752379|tw17683275352518380880|tw15733749918065269574|tw13504986872691814943|tw10496778164142841949|tw5514501937287881794|tw1757886719334896130|tw1663014392022042235|tw13308241421639611812|tw14515346520174853498|tw8197774283487123450|tw8861224613870301083|tw17097981370962913942|tw4652797718809513696|tw14147103364627600326|tw7107811230028851411|tw16379907792731907678|tw6897347533746196958|tw5889584502802630567|tw6975743025135000984|tw4225275148190345289|tw13918129834438147003|tw14738895367299877857|tw8303095734214639038|tw11136067031437200128|tw16253760385556137945|tw7661798596388478134|tw5886384470930427677|tw9140008895003177929|tw4487097744083522146|tw16145962228753470994|tw10563388304486440821|tw2818000140846334782|tw5988071432370514126|tw12074194928131265250|tw1814185476079775783|tw11061765233727646292|tw315334675636417058|tw12902760710064415111|tw16989642187270790096|tw1408603686885293001|tw1795428665740005794|tw17231970317365609481|tw10571829228778585269|tw608279285276586536|tw12327807218890266519|tw81324347860594215|tw14558784116182950531|tw13751144861958095450|tw3247316849326492221|tw10754210494800313355|tw16716802594696348237
open PySem PySem.W PyProof.Rows
set_option maxRecDepth 100000 in
set_option maxHeartbeats 0 in
theorem PySem.Challenge.cw_signbench_k82_texts_of_none_holds : PySem.Challenge.rw_signbench_k82_texts_of_none.Holds := by
 w_on;o_law;k_head;(case hw=>w_witness2)
 k_fill
 refine My.walk (l:=PySem.Challenge.rw_signbench_k82_texts_of_none) rfl rfl (fun w h Y=>PySem.W.kIn_of Y) ?F
 case F=>
  intro w mg fa h KX G hmg
  apply My.zhj KX G hmg<;>(try delta My.nI My.kF My.kN My.kV My.fA My.fB My.fC My.xA My.mO My.eB)<;>first|(apply My.zjt<;>k_is)|k_is|kernel_rfl|rfl|decide
