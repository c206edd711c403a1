import PyProof.Rows.All
import Wide.All
import OpenK.AllK
import Wide.FinOn
import Lean
import PyProof.EqAt
import PyProof.EqKinds
import PyProof.TupleCall
import PyProof.CallFns
import PyProof.CallStr
import PyProof.DictTruth
import PyProof.Draws
import PyProof.EnumMake
import PyProof.ListRange
import PyProof.MeetsStr
import PyProof.P3Eq
import PyProof.Rows.CallKw2
import PyProof.Rows.CountFlat
import PyProof.Rows.FStr
import PyProof.Rows.Range3
import PyProof.Rows.StrJoin2
import PyProof.Rows.StrNews
import PyProof.Rows.ZipGen
import PyProof.SetRoads
import PyProof.StrBlockI
import PyProof.StrCalls
import PyProof.StrCalls5
import PyProof.StrOps2
import PyProof.StrWalks
import PyProof.SumAny
import PyProof.ZipIter
import PySem.Challenge.RW_signbench_k01_tables_of_keys
set_option Elab.async false
set_option linter.all false
set_option maxRecDepth 100000
namespace L2
open PySem PySem.Spec PyProof.Rows
noncomputable abbrev Key:=Sum Int Str
noncomputable def z64:Key->Value->Bool
 | .inl k,v=>Value.isInt k v
 | .inr x,v=>Value.isStrOf x v
noncomputable def keyH(w:World):Key->Int
 | .inl k=>hashInt k
 | .inr x=>hashStr w x
theorem z0h: ∀{k:Key} {v:Value},z64 k v=true->(∃i t,k=Sum.inl i/\v=Value.int i t)\/(∃x t,k=Sum.inr x/\v=Value.str x t)
 | .inl i,v,h=>by
  obtain⟨t,e⟩:=Value.isInt_shape (k:=i) (v:=v) h
  exact .inl ⟨i,t,rfl,e⟩
 | .inr x,v,h=>by
  obtain⟨t,e⟩:=Value.isStrOf_shape (x:=x) (v:=v) h
  exact .inr ⟨x,t,rfl,e⟩
theorem z6F(i:Int)(t:Tok):z64 (.inl i) (.int i t)=true:=by simp[z64,Value.isInt]
theorem z6G(x:Str)(t:Tok):z64 (.inr x) (.str x t)=true:=by simp[z64,Value.isStrOf]
theorem zbD(a b:Int):decide ((Sum.inl a:Key)=Sum.inl b)=(a==b):=by
 by_cases e:a=b
 ·subst e;simp
 ·have h: ¬(Sum.inl a:Key)=Sum.inl b:=fun q=>e (Sum.inl.inj q)
  rw[decide_eq_false h]
  exact(beq_eq_false_iff_ne.mpr e).symm
theorem zbE(a b:Str):decide ((Sum.inr a:Key)=Sum.inr b)=decide (a=b):=by
 by_cases e:a=b
 ·subst e;simp
 ·have h: ¬(Sum.inr a:Key)=Sum.inr b:=fun q=>e (Sum.inr.inj q)
  rw[decide_eq_false h,decide_eq_false e]
theorem zbF(a:Int)(b:Str):decide ((Sum.inl a:Key)=Sum.inr b)=false:=decide_eq_false (fun q=>nomatch q)
theorem zbG(a:Str)(b:Int):decide ((Sum.inr a:Key)=Sum.inl b)=false:=decide_eq_false (fun q=>nomatch q)
noncomputable def z0e(prog:Program)(w:World):PySem.KeyKind prog w Key where
 is:=z64
 hash:=keyH w
 inj:=fun v a b ha hb=>by
  rcases z0h ha with⟨i,t,rfl,rfl⟩|⟨x,t,rfl,rfl⟩
  ·rcases z0h hb with⟨j,u,rfl,e⟩|⟨y,u,rfl,e⟩
   ·injection e with e1 _;rw[e1]
   ·exact nomatch e
  ·rcases z0h hb with⟨j,u,rfl,e⟩|⟨y,u,rfl,e⟩
   ·exact nomatch e
   ·injection e with e1 _;rw[e1]
 byValue:=fun k v h=>by
  rcases z0h h with⟨i,t,rfl,rfl⟩|⟨x,t,rfl,rfl⟩<;>rfl
 pyHash:=fun hv h=>by
  rcases z0h hv with⟨i,t,rfl,rfl⟩|⟨x,t,rfl,rfl⟩
  ·exact wpAny_pyHash_int h
  ·exact wpAny_pyHash_str h
 eqBool:=fun hu hv h=>by
  rcases z0h hu with⟨i,t,rfl,rfl⟩|⟨x,t,rfl,rfl⟩
  ·rcases z0h hv with⟨j,u,rfl,rfl⟩|⟨y,u,rfl,rfl⟩
   ·rw[zbD] at h;exact wpAny_eqBool_int h
   ·rw[zbF] at h;exact SeqAt.EqAt.int_str i t y u _ _ _ _ h
  ·rcases z0h hv with⟨j,u,rfl,rfl⟩|⟨y,u,rfl,rfl⟩
   ·rw[zbG] at h;exact SeqAt.EqAt.str_int x t j u _ _ _ _ h
   ·rw[zbE] at h;exact wpAny_eqBool_str h
 «strs» :=fun k x t v h=>by
  rcases z0h h with⟨i,u,rfl,e⟩|⟨y,u,rfl,e⟩
  ·exact nomatch e
  ·injection e with e1 _
   subst e1
   cases v<;>rfl
theorem z54(prog:Program)(w:World)(i:Int)(t:Tok):(z0e prog w).is (.inl i) (.int i t)=true:=z6F i t
theorem z55(prog:Program)(w:World)(x:Str)(t:Tok):(z0e prog w).is (.inr x) (.str x t)=true:=z6G x t
inductive V where
 |non|bl (b:Bool)|int (i:Int)|str (x:Str)|byt (b:Array UInt8)|flt (b:UInt64)|ref (a:Addr)|ty (n:String)
 deriving DecidableEq
noncomputable def RelV:V->Value->Prop
 | .non,u=>u=Value.none
 | .bl b,u=>u=Value.bool b
 | .int i,u=> ∃t,u=Value.int i t
 | .str x,u=> ∃t,u=Value.str x t
 | .byt b,u=> ∃t,u=Value.bytes b t
 | .flt b,u=> ∃t,u=Value.float b t
 | .ref a,u=>u=Value.ref a
 | .ty n,u=>u=Value.type n
noncomputable abbrev Vals:List V->List Value->Prop:=Paired RelV
theorem Vals.length{xs:List V}{us:List Value}(r:Vals xs us):xs.length=us.length:=Paired.length r
theorem Vals.get: ∀{xs:List V} {us:List Value} {i:Nat} {x:V},Vals xs us->xs[i]? =some x->∃u,us[i]? =some u/\RelV x u
 |_,_,_,_, .nil,e=>by simp at e
 |_,_,0,_, .cons r _,e=>by simp at e;subst e;exact⟨_,rfl,r⟩
 |_,_,i+1,x, .cons _ t,e=>by
  obtain⟨u,h1,h2⟩:=Vals.get (i:=i) (x:=x) t (by simpa using e)
  exact⟨u,by simpa using h1,h2⟩
theorem Vals.set{x:V}{u:Value}(r:RelV x u): ∀{xs:List V} {us:List Value} (i:Nat),Vals xs us->Vals (xs.set i x) (us.set i u)
 |_,_,_, .nil=> .nil
 |_,_,0, .cons _ t=> .cons r t
 |_,_,i+1, .cons q t=> .cons q (Vals.set r i t)
theorem Vals.append: ∀{xs ys:List V} {us ws:List Value},Vals xs us->Vals ys ws->Vals (xs++ys) (us++ws)
 |_,_,_,_, .nil,s=>s
 |_,_,_,_, .cons r t,s=> .cons r (Vals.append t s)
theorem Vals.take: ∀{xs:List V} {us:List Value} (n:Nat),Vals xs us->Vals (xs.take n) (us.take n)
 |_,_,0,_=> .nil
 |_,_,_+1, .nil=> .nil
 |_,_,n+1, .cons r t=> .cons r (Vals.take n t)
theorem Vals.drop: ∀{xs:List V} {us:List Value} (n:Nat),Vals xs us->Vals (xs.drop n) (us.drop n)
 |_,_,0,r=>r
 |_,_,_+1, .nil=> .nil
 |_,_,n+1, .cons _ t=>Vals.drop n t
noncomputable def RelO:Option V->Option Value->Prop
 |some v,some u=>RelV v u
 |none,none=>True
 |_,_=>False
noncomputable def KV{κ:Type}:List (κ×V)->List (κ×Value)->Prop:=Paired fun(p:κ×V) (q:κ×Value)=>p.1=q.1/\RelV p.2 q.2
noncomputable def kV:Key->V
 | .inl i=> .int i
 | .inr x=> .str x
theorem Paired.mapP{α β:Type}{F G:α->β->Prop}: ∀{l₁:List α} {l₂:List β},Paired F l₁ l₂->(∀a b,F a b->G a b)->Paired G l₁ l₂
 |_,_, .nil,_=> .nil
 |_,_, .cons r t,f=> .cons (f _ _ r) (Paired.mapP t f)
noncomputable abbrev NK:=List (Key⊕List Key)
section
variable(P:Program)(w:World)
noncomputable def ItN(h:Heap):Key⊕List Key->Value->Prop
 | .inl k,v=>(z0e P w).is k v=true
 | .inr ks,v=> ∃c,v= .ref c/\IsTupleKey (z0e P w) h ks c
noncomputable def IsN(h:Heap)(k:NK)(a:Addr):Prop:= ∃o items n,h.get? a=some o/\o.cls= .type "tuple" /\o.data= .seq items n/\Paired (ItN P w h) k items.toList
noncomputable def hsN:Key⊕List Key->Int
 | .inl k=>(z0e P w).hash k
 | .inr ks=>tupleKeyHash (z0e P w) ks
noncomputable def drN:Key⊕List Key->Nat
 | .inl _=>1
 | .inr ks=>ks.length+1
end
section
variable{P:Program}{w:World}{h:Heap}
theorem z9V{x y:Key⊕List Key}{v:Value}(hx:ItN P w h x v)(hy:ItN P w h y v):x=y:=by
 cases x with
 |inl k=>
  cases y with
  |inl k'=>rw[(z0e P w).inj v k k' hx hy]
  |inr ks=>obtain⟨c,rfl,_⟩:=hy;have:=(z0e P w).byValue _ _ hx;simp[carriedByValue] at this
 |inr ks=>
  obtain⟨c,rfl,hc⟩:=hx
  cases y with
  |inl k'=>have:=(z0e P w).byValue _ _ hy;simp[carriedByValue] at this
  |inr ks'=>obtain⟨c',e,hc'⟩:=hy;cases e;rw[hc.inj hc']
theorem z3K: ∀{x y:NK} {vs:List Value},Paired (ItN P w h) x vs->Paired (ItN P w h) y vs->x=y
 |_,_,_, .nil, .nil=>rfl
 |_,_,_, .cons a b, .cons c d=>by rw[z9V a c,z3K b d]
variable{A:Around}{E:Value->Shared->Prop}{s:Shared}
theorem z4h{M:Model}{a:Addr}{o:Obj}{items:Array Value}{n m:Nat}{Q:Bool->Shared->Prop}(ho:s.heap.get? a=some o)(hc:o.cls= .type "tuple")(hd:o.data= .seq items n)(hi: ∀v∈items.toList,∀(R:Bool->Shared->Prop) E,R true s->wpAny M A (eqIsQuiet m v) R E s)(q:Q true s):wpAny M A (eqIsQuiet (m+1) (.ref a)) Q E s:=by
 have hT:s.TypeIs (.ref a) "tuple" :=⟨o,ho,hc⟩
 rw[eqIsQuiet]
 refine wpAny_bind (wpAny_specialOf hT PySem.F.slot_tuple_eq.lookup ?_)
 dsimp only
 refine wpAny_bind (wpAny_isInstance hT isSubtype_tuple_tuple ?_)
 rw[if_neg (by decide)]
 refine wpAny_bind (wpAny_seqItems ho hd ?_)
 refine wpAny_bind ?_
 dsimp only[Option.getD_some]
 rw[<-Array.forIn_toList]
 refine wpAny_forIn_list _ (fun r b s'=>b.1=none/\s'=s/\∀v∈r,v∈items.toList) _ ?_ ?_ _ _ ⟨rfl,rfl,fun v hv=>hv⟩
 ·rintro v r b s' ⟨_,rfl,hm⟩
  refine wpAny_bind (hi v (hm v List.mem_cons_self) _ _ ?_)
  rw[if_neg (by decide)]
  exact wpAny_pure ⟨rfl,rfl,fun u hu=>hm u (List.mem_cons_of_mem _ hu)⟩
 ·rintro ⟨b1,b2⟩ s' ⟨hb,rfl,_⟩
  dsimp only at hb
  subst hb
  exact wpAny_pure q
theorem z4i{P':Program}{w':World}: ∀{ks:List Key} {vs:List Value},ItemsAre (z0e P w) ks vs->ItemsAre (z0e P' w') ks vs
 |_,_, .nil=> .nil
 |_,_, .cons a b=> .cons a (z4i b)
theorem z6H{P':Program}{w':World}{ks:List Key}{c:Addr}(hk:IsTupleKey (z0e P w) h ks c):IsTupleKey (z0e P' w') h ks c:=by
 obtain⟨o,items,n,h1,h2,h3,h4⟩:=hk
 exact⟨o,items,n,h1,h2,h3,z4i h4⟩
theorem zbH{x y:Key⊕List Key}{u v:Value}(hu:A.units<cLine)(hx:ItN P w s.heap x u)(hy:ItN P w s.heap y v):SeqAt.EqAt A s u v (decide (x=y)):=fun prog w' E Q q=>by
 cases x with
 |inl k=>
  cases y with
  |inl k'=>exact(z0e prog w').eqBool (a:=k) (b:=k') hx hy (by rw[show decide (k=k')=decide ((Sum.inl k:Key⊕List Key)=Sum.inl k') by by_cases e:k=k'<;>simp[e]];exact q)
  |inr ks=>
   obtain⟨c,rfl,o,items,n,h1,h2,h3,_⟩:=hy
   rw[decide_eq_false (fun e=>nomatch e)] at q
   rcases z0h hx with⟨i,t,rfl,rfl⟩|⟨z,t,rfl,rfl⟩
   ·exact SeqAt.EqAt.int_tuple i t ⟨o,h1,h2,n,h3⟩ hu prog w' E Q q
   ·exact SeqAt.EqAt.str_tuple z t ⟨o,h1,h2,n,h3⟩ hu prog w' E Q q
 |inr ks=>
  obtain⟨c,rfl,hc⟩:=hx
  cases y with
  |inl k'=>
   obtain⟨o,items,n,h1,h2,h3,_⟩:=hc
   rw[decide_eq_false (fun e=>nomatch e)] at q
   rcases z0h hy with⟨i,t,rfl,rfl⟩|⟨z,t,rfl,rfl⟩
   ·exact SeqAt.EqAt.tuple_int i t ⟨o,h1,h2,n,h3⟩ hu prog w' E Q q
   ·exact SeqAt.EqAt.tuple_str z t ⟨o,h1,h2,n,h3⟩ hu prog w' E Q q
  |inr ks'=>
   obtain⟨c',rfl,hc'⟩:=hy
   refine wpAny_eqBool_tuple (knd:=z0e prog w') hu (z6H hc) (z6H hc') ?_
   rw[show decide (ks=ks')=decide ((Sum.inr ks:Key⊕List Key)=Sum.inr ks') by by_cases e:ks=ks'<;>simp[e]];exact q
theorem z9W{α:Type}[DecidableEq α](x y:List α):((List.range (min x.length y.length)).all (fun j=>decide (x[j]? =y[j]?))&&x.length==y.length)=decide (x=y):=by
 rw[Bool.eq_iff_iff]
 simp only[Bool.and_eq_true,List.all_eq_true,List.mem_range,decide_eq_true_eq,beq_iff_eq]
 constructor
 ·rintro ⟨h1,h2⟩
  apply List.ext_getElem?
  intro j
  by_cases hj:j<x.length
  ·exact h1 j (by lia)
  ·rw[List.getElem?_eq_none (by lia),List.getElem?_eq_none (by lia)]
 ·rintro rfl;exact⟨fun _ _=>rfl,rfl⟩
theorem Paired.get2{α β:Type}{F:α->β->Prop}: ∀{l:List α} {m:List β},Paired F l m->∀j (h1:j<l.length) (h2:j<m.length),F l[j] m[j]
 |_,_, .cons a b,0,_,_=>a
 |_,_, .cons a b,j+1,h1,h2=>Paired.get2 b j (by simpa using h1) (by simpa using h2)
theorem z9E{x y:NK}{a b:Addr}{Q:Bool->Shared->Prop}(hu:A.units+1<cLine)(hx:IsN P w s.heap x a)(hy:IsN P w s.heap y b)(q:Q (decide (x=y)) s):wpAny (model P w) A (eqBool (.ref a) (.ref b)) Q E s:=by
 by_cases e:a=b
 ·subst e
  obtain⟨o,items,n,h1,h2,h3,h4⟩:=hx
  obtain⟨o',items',n',k1,k2,k3,k4⟩:=hy
  obtain rfl:o=o':=Option.some.inj (h1.symm.trans k1)
  rw[h3] at k3
  injection k3 with k3 _
  subst k3
  obtain rfl:=z3K h4 k4
  exact SeqAt.EqAt.same _ P w E Q (by simpa using q)
 ·obtain⟨o,items,n,h1,h2,h3,h4⟩:=hx
  obtain⟨o',items',n',k1,k2,k3,k4⟩:=hy
  have l1:x.length=items.size:=by have:=Paired.length h4;simpa using this
  have l2:y.length=items'.size:=by have:=Paired.length k4;simpa using this
  refine SeqAt.EqAt.of_refs e (SeqAt.RcAt.tuples (e:=fun j=>decide (x[j]? =y[j]?)) ⟨o,h1,h2,n,h3⟩ ⟨o',k1,k2,n',k3⟩ (by lia) fun j j1 j2=> ?_) P w E Q ?_
  ·have:=zbH (A:=A.in1) (show A.units+1<cLine from hu) (Paired.get2 h4 j (by lia) (by simpa using j1)) (Paired.get2 k4 j (by lia) (by simpa using j2))
   rw[List.getElem?_eq_getElem (by lia),List.getElem?_eq_getElem (by lia)]
   simpa using this
  ·rw[<-l1,<-l2,z9W];exact q
theorem z8C{k:Key⊕List Key}{v:Value}{Q:Int->Shared->Prop}(hu:A.units<cLine)(hk:ItN P w s.heap k v)(q:Q (hsN P w k) {s with toks:=s.toks+drN k}):wpAny (model P w) A (pyHash v) Q E s:=by
 cases k with
 |inl k=>exact(z0e P w).pyHash hk q
 |inr ks=>obtain⟨c,rfl,hc⟩:=hk;exact wpAny_pyHash_tuple hu hc q
theorem z8D{k:NK}{a:Addr}{Q:Int->Shared->Prop}(hu:A.units+1<cLine)(hk:IsN P w s.heap k a)(q:Q (reduceHash (Builtin.Tuple.tupleHashOf (k.map (hsN P w)))) {s with toks:=s.toks+((k.map drN).sum+1)}):wpAny (model P w) A (pyHash (.ref a)) Q E s:=by
 obtain⟨o,items,n,ho,hc,hd,hi⟩:=hk
 have hT:s.TypeIs (.ref a) "tuple" :=⟨o,ho,hc⟩
 unfold pyHash
 unfold pyHashByItsType
 refine wpAny_bind (wpAny_cRoomFor_or (.inr (by lia)) ?_)
 refine wpAny_bind (wpAny_specialOf hT PySem.F.slot_tuple_hash.lookup ?_)
 rw[if_neg (show ¬(some (Value.builtin "tuple.__hash__")==some Value.none)=true by rw[beq_builtin_none];decide)]
 refine wpAny_bind (wpAny_specialOf hT PySem.F.slot_tuple_hash.lookup ?_)
 refine wpAny_bind (wpAny_callSpecialIfBoundUnlessNone?_slot hT PySem.F.slot_tuple_hash (wpAny_call_entry PySem.F.slot_tuple_hash hT PySem.F.entry_tuple_hash ?_ (PySem.F.args_tuple_hash_1 _)))
 change wpAny _ A.in1 (Builtin.Tuple.tupleItemsOf (Value.ref a)>>=_) _ _ s
 refine wpAny_bind (wpAny_tupleItemsOf ho hd (wpAny_bind ?_))
 rw[<-Array.forIn_toList]
 refine wpAny_forIn_list _ (fun r (b:Array Int) s'=> ∃d l,k=d++l/\Paired (ItN P w s.heap) l r/\b.toList=d.map (hsN P w)/\s'={s with toks:=s.toks+(d.map drN).sum}) _ ?_ ?_ _ _ ⟨[],k,rfl,hi,rfl,rfl⟩
 ·rintro x r b s' ⟨d,l,rfl,hl,hb,rfl⟩
  cases hl with
  | @cons z _ l' _ h1 hl'=>
   refine wpAny_bind (z8C (A:=A.in1) (s:={s with toks:=s.toks+(d.map drN).sum}) (show A.units+1<cLine from hu) h1 ?_)
   have fin: ∃d' l2,d++z::l'=d'++l2/\Paired (ItN P w s.heap) l2 r/\(b.push (hsN P w z)).toList=d'.map (hsN P w)/\({s with toks:=s.toks+(d.map drN).sum+drN z}:Shared)={s with toks:=s.toks+(d'.map drN).sum}:=⟨d++[z],l',by simp,hl',by simp[hb],by simp[Nat.add_assoc]⟩
   exact wpAny_pure fin
 ·rintro b s' ⟨d,l,rfl,hl,hb,rfl⟩
  cases hl
  rw[List.append_nil] at q
  change wpAny _ A.in1 (retInt (Builtin.Tuple.tupleHashOf b.toList)) _ _ _
  rw[hb]
  refine wpAny_ret_mkInt ?_
  unfold reduceHash at q
  show wpAny _ _ (if(decide (-(2:Int)^63<=Builtin.Tuple.tupleHashOf (d.map (hsN P w)))&&decide (Builtin.Tuple.tupleHashOf (d.map (hsN P w))<2^63))=true then _ else _) Q E _
  split
  ·rename_i hr
   rw[if_pos hr] at q
   exact wpAny_pure (by simpa[Nat.add_assoc] using q)
  ·rename_i hr
   rw[if_neg hr] at q
   exact wpAny_bind (wpAny_rule (wpAny_pure (by simpa[Nat.add_assoc] using q)))
theorem z2J{k:NK}{a:Addr}{Q:Bool->Shared->Prop}(hk:IsN P w s.heap k a)(q:Q true s):wpAny (model P w) A (eqIsQuiet 8 (.ref a)) Q E s:=by
 obtain⟨o,items,n,h1,h2,h3,h4⟩:=hk
 refine z4h h1 h2 h3 (fun v hv R E' r=> ?_) q
 have all: ∀{k:NK} {vs:List Value},Paired (ItN P w s.heap) k vs->∀v∈vs,∃z,ItN P w s.heap z v:=by
  intro k vs p
  induction p with
  |nil=>intro v hv;cases hv
  |cons a b ih=>
   intro v hv
   rcases List.mem_cons.mp hv with rfl|hv
   ·exact⟨_,a⟩
   ·exact ih v hv
 obtain⟨z,hz⟩:=all h4 v hv
 cases z with
 |inl k=>rw[eqIsQuiet_byValue _ ((z0e P w).byValue _ _ hz)];exact wpAny_pure r
 |inr ks=>
  obtain⟨c,rfl,o,items,n,h1,h2,h3,h4⟩:=hz
  exact z4h h1 h2 h3 (fun v hv R E' r=>by rw[eqIsQuiet_byValue _ (h4.byValue v hv)];exact wpAny_pure r) r
theorem z6I{h':Heap}{d:Addr}{o:Obj}{es:Array DictEntry}{ep:Nat}(ho:h.get? d=some o)(hd:o.data= .dict es ep)(hs:Heap.SameBut d h h'): ∀{k:NK} {vs:List Value},Paired (ItN P w h) k vs->Paired (ItN P w h') k vs:=fun p=>Paired.mapP p fun z v q=>by
 cases z with
 |inl k=>exact q
 |inr ks=>obtain⟨c,rfl,hc⟩:=q;exact⟨c,rfl,hc.keeps ho hd hs⟩
end
noncomputable def z01(P:Program)(w:World):HeapKind P w NK where
 is:=IsN P w
 hash:=fun k=>reduceHash (Builtin.Tuple.tupleHashOf (k.map (hsN P w)))
 draws:=fun k=>(k.map drN).sum+1
 room:=fun A=>A.units+1<cLine
 inj:=fun⟨o,items,n,h1,_,h3,h4⟩ ⟨o',items',n',k1,_,k3,k4⟩=>by
  obtain rfl:o=o':=Option.some.inj (h1.symm.trans k1)
  rw[h3] at k3
  injection k3 with k3 _
  subst k3
  exact z3K h4 k4
 keeps:=fun{h h' k a d o es ep} ⟨o',items,n,h1,h2,h3,h4⟩ ho hd hs=>by
  have hne:a≠d:=by
   rintro rfl
   obtain rfl:o'=o:=Option.some.inj (h1.symm.trans ho)
   rw[hd] at h3;cases h3
  exact⟨o',items,n,(hs.2 a hne).trans h1,h2,h3,z6I ho hd hs h4⟩
 pyHash:=fun hu hk q=>z8D hu hk q
 eqBool:=fun hu hx hy q=>z9E hu hx hy q
 quiet:=fun hk q=>z2J hk q
theorem z4j{P:Program}{w:World}{A:Around}(hu:A.units+2<cLine):(z01 P w).room A.in1:=hu
inductive HO where
 |lst (xs:List V)
 |tup (xs:List V)
 |dK (kvs:List (Key×V))|dT (kvs:List (NK×V))
 |set (S:Int->Bool) (n:Nat)
 |ins (C dx:Addr) (fs:List (Str×V))
 |own (x:Addr)
 |xd (fs:List (Str×V))
 |met (f x:Addr)
 |rng (lo hi:Int)
 |frz (o:Obj) (u:HO)
 |tbl (ps:Array Value)
 |ext (φ:Heap->Prop)
noncomputable abbrev Hp:=Addr->Option HO
noncomputable def upd(H:Hp)(a:Addr)(o:HO):Hp:=fun b=>if b=a then some o else H b
theorem z07{H:Hp}{a:Addr}{o:HO}:upd H a o a=some o:=by unfold upd;rw[if_pos rfl]
theorem z04{H:Hp}{a b:Addr}{o:HO}(h:b≠a):upd H a o b=H b:=by unfold upd;rw[if_neg h]
theorem z3j{H:Hp}{a b:Addr}{o u:HO}(h:H a=some o)(h':H b=some u)(d:o≠u):a≠b:=by
 intro e;subst e;rw[h] at h';exact d (Option.some.inj h')
theorem z0u{H:Hp}{a b:Addr}{o:HO}(h:H a=some o)(h':H b=none):a≠b:=by
 intro e;subst e;rw[h] at h';cases h'
noncomputable def TKi(H:Hp):Key⊕List Key->V->Prop
 | .inl k,x=>x=kV k
 | .inr ks,x=> ∃c,x= .ref c/\H c=some (.tup (ks.map kV))
noncomputable def TK(H:Hp)(k:NK)(b:Addr):Prop:= ∃xs,H b=some (.tup xs)/\Paired (TKi H) k xs
theorem TK.stay{H H':Hp}{k:NK}{b:Addr}(ht: ∀b xs,H b=some (.tup xs)->H' b=some (.tup xs))(h:TK H k b):TK H' k b:=by
 obtain⟨xs,h1,h2⟩:=h
 refine⟨xs,ht _ _ h1,Paired.mapP h2 fun z x q=> ?_⟩
 cases z with
 |inl k=>exact q
 |inr ks=>obtain⟨c,e,q⟩:=q;exact⟨c,e,ht _ _ q⟩
section
variable(P:Program)(w:World)
noncomputable def z1b(H:Hp)(h:Heap)(a:Addr):HO->Prop
 | .lst xs=>xs.length<=sizeLine/\∃(its:List Value) (n:Nat),Vals xs its/\h.get? a=some {cls:= .type "list",data:= .seq its.toArray n}
 | .tup xs=>xs.length<=sizeLine/\∃its:List Value,Vals xs its/\IsTup h a its.toArray
 | .dK kvs=>kvs.length<=sizeLine/\(a==sysModules)=false/\∃vs,KV kvs vs/\h.DictOf (z0e P w) a vs
 | .dT kvs=>kvs.length<=sizeLine/\(a==sysModules)=false/\∃xs:List (NK×Addr×Value),
  Paired (fun(p:NK×V) (q:NK×Addr×Value)=>p.1=q.1/\TK H p.1 q.2.1/\RelV p.2 q.2.2) kvs xs/\
  ∃o es ep,h.get? a=some o/\o.ExactDict/\o.data= .dict es ep/\es.toList=xs.map (entryOfKey (z01 P w))/\(xs.map (·.1)).Nodup
 | .set S n=>h.SetOf (intKind P w) a S n
 | .ins C dx fs=>H dx=some (.own a)/\fs.length<=1000/\dx≠a/\h.get? a=some (W.instObj C dx)/\
  ∃mA,h.Ns1 dx mA/\(∀f,RelO (fs.lookup f) (mA f))/\PySem.Within mA (fs.map (·.1))
 | .own _=> ∃o,h.get? a=some o
 | .xd fs=> ∃mA,h.Ns1 a mA/\∀f,RelO (fs.lookup f) (mA f)
 | .rng lo hi=> ∃t u v,h.get? a=some {cls:= .type "range",data:= .fields #[.int lo t, .int hi u, .int 1 v]}
 | .frz o u=>h.get? a=some o/\z1b H h a u
 | .tbl ps=>h.get? a=some {cls:= .none,data:= .fields ps}
 | .met f x=>h.get? a=some (W.methodObj (.ref f) (.ref x))
 | .ext φ=>φ h/\(∃o,h.get? a=some o)/\∀h1 h2:Heap,φ h1->(∀o,h1.get? a=some o->h2.get? a=some o)->φ h2
noncomputable def HOk(H:Hp)(h:Heap):Prop:= ∀a o,H a=some o->z1b P w H h a o
end
section
variable{P:Program}{w:World}{H H':Hp}{h h':Heap}{a:Addr}{o:HO}
theorem z1b.lt(x:z1b P w H h a o):a<h.objs.size:=by
 cases o with
 |lst xs=>obtain⟨_,_,_,_,e⟩:=x;exact Heap.lt_size e
 |tup xs=>obtain⟨_,_,_,p⟩:=x;exact p.lt
 |dK kvs=>obtain⟨_,_,_,_,o,_,_,e,_⟩:=x;exact Heap.lt_size e
 |dT kvs=>obtain⟨_,_,_,_,o,_,_,e,_⟩:=x;exact Heap.lt_size e
 |set S n=>obtain⟨o,_,_,_,e,_⟩:=x;exact Heap.lt_size e
 |ins C dx fs=>obtain⟨_,_,_,e,_⟩:=x;exact Heap.lt_size e
 |own y=>obtain⟨_,e⟩:=x;exact Heap.lt_size e
 |xd fs=>obtain⟨_,⟨_,_,_,e,_⟩,_⟩:=x;exact Heap.lt_size e
 |rng lo hi=>obtain⟨_,_,_,e⟩:=x;exact Heap.lt_size e
 |frz ob u=>obtain⟨e,_⟩:=x;exact Heap.lt_size e
 |tbl ps=>exact Heap.lt_size (show h.get? a=some _ from x)
 |met f y=>exact Heap.lt_size (show h.get? a=some _ from x)
 |ext φ=>obtain⟨_,⟨_,e⟩,_⟩:=x;exact Heap.lt_size e
theorem z1b.stay(x:z1b P w H h a o)(k: ∀b u,(b=a\/H b=some (.own a))->h.get? b=some u->h'.get? b=some u)
 (ho: ∀b,H b=some (.own a)->H' b=some (.own a)) (ht: ∀b xs,H b=some (.tup xs)->H' b=some (.tup xs)):z1b P w H' h' a o:=by
 induction o with
 |lst xs=>obtain⟨z,its,n,r,e⟩:=x;exact⟨z,its,n,r,k _ _ (.inl rfl) e⟩
 |tup xs=>obtain⟨z,its,r,ob,e,c⟩:=x;exact⟨z,its,r,ob,k _ _ (.inl rfl) e,c⟩
 |dK kvs=>obtain⟨z,y,vs,r,ob,es,ep,e,c⟩:=x;exact⟨z,y,vs,r,ob,es,ep,k _ _ (.inl rfl) e,c⟩
 |dT kvs=>
  obtain⟨z,y,xs,r,ob,es,ep,e,c⟩:=x
  exact⟨z,y,xs,Paired.mapP r fun p q z=>⟨z.1,z.2.1.stay ht,z.2.2⟩,ob,es,ep,k _ _ (.inl rfl) e,c⟩
 |set S n=>obtain⟨ob,es,ep,t,e,c⟩:=x;exact⟨ob,es,ep,t,k _ _ (.inl rfl) e,c⟩
 |ins C dx fs=>
  obtain⟨d,z,ne,e,mA,⟨od,es,ep,e2,c⟩,r⟩:=x
  exact⟨ho _ d,z,ne,k _ _ (.inl rfl) e,mA,⟨od,es,ep,k _ _ (.inr d) e2,c⟩,r⟩
 |own y=>obtain⟨ob,e⟩:=x;exact⟨ob,k _ _ (.inl rfl) e⟩
 |xd fs=>obtain⟨mA,⟨od,es,ep,e,c⟩,r⟩:=x;exact⟨mA,⟨od,es,ep,k _ _ (.inl rfl) e,c⟩,r⟩
 |rng lo hi=>obtain⟨t,u,v,e⟩:=x;exact⟨t,u,v,k _ _ (.inl rfl) e⟩
 |frz ob u ih=>obtain⟨e,q⟩:=x;exact⟨k _ _ (.inl rfl) e,ih q⟩
 |tbl ps=>
  have e:h.get? a=some {cls:= .none,data:= .fields ps}:=x
  show h'.get? a=some {cls:= .none,data:= .fields ps}
  exact k a _ (.inl rfl) e
 |met f y=>
  have e:h.get? a=some (W.methodObj (.ref f) (.ref y)):=x
  show h'.get? a=some (W.methodObj (.ref f) (.ref y))
  exact k a _ (.inl rfl) e
 |ext φ=>obtain⟨p,⟨o,e⟩,st⟩:=x;exact⟨st _ _ p fun o q=>k _ _ (.inl rfl) q,⟨o,k _ _ (.inl rfl) e⟩,st⟩
theorem HOk.lt(x:HOk P w H h)(e:H a=some o):a<h.objs.size:=(x a o e).lt
theorem HOk.fresh(x:HOk P w H h)(e:h.objs.size<=a):H a=none:=by
 cases q:H a with
 |none=>rfl
 |some u=>exact absurd (Nat.lt_of_lt_of_le (x.lt q) e) (Nat.lt_irrefl _)
theorem HOk.kept(x:HOk P w H h)(k: ∀b u,h.get? b=some u->h'.get? b=some u):HOk P w H h':=fun a o e=>
 (x a o e).stay (fun b u _ q=>k b u q) (fun _ q=>q) fun _ _ q=>q
theorem HOk.laid(x:HOk P w H h)(k: ∀b u,h.get? b=some u->h'.get? b=some u)(hp:h.objs.size<=a)(new:z1b P w (upd H a o) h' a o):HOk P w (upd H a o) h':=fun b u e=>by
 have hn:=x.fresh hp
 by_cases hb:b=a
 ·subst hb;rw[z07] at e;cases e;exact new
 ·rw[z04 hb] at e
  exact(x b u e).stay (fun c v _ q=>k c v q) (fun c q=>by rw[z04 (z0u q hn)];exact q) fun c xs q=>by rw[z04 (z0u q hn)];exact q
end
noncomputable def Rd(H:Hp)(a:Addr)(u:HO):Prop:=H a=some u\/∃o,H a=some (.frz o u)
theorem Rd.ok{P:Program}{w:World}{H:Hp}{h:Heap}{a:Addr}{u:HO}(r:Rd H a u)(x:HOk P w H h):z1b P w H h a u:=by
 rcases r with r|⟨o,r⟩
 ·exact x a u r
 ·obtain⟨_,q⟩:=x a _ r
  exact q
noncomputable def Mut:Option HO->Prop
 |some (.lst _)=>True
 |some (.dK _)=>True
 |some (.dT _)=>True
 |some (.set _ _)=>True
 |some (.ins _ _ _)=>True
 |some (.ext _)=>True
 |_=>False
section
variable{P:Program}{w:World}{H:Hp}{h h':Heap}{x e:Addr}{o':HO}
theorem HOk.write(ok:HOk P w H h)(mu:Mut (H x))(he:e=x\/H e=some (.own x))(k: ∀b u,b≠e->h.get? b=some u->h'.get? b=some u)(heo: ∃u,h'.get? e=some u)
 (new:z1b P w (upd H x o') h' x o'):HOk P w (upd H x o') h':=fun b u q=>by
 have nown: ∀c y,H c=some (.own y)->c≠x:=fun c y r z=>by subst z;rw[r] at mu;exact mu
 have ntup: ∀c xs,H c=some (.tup xs)->c≠x:=fun c xs r z=>by subst z;rw[r] at mu;exact mu
 by_cases hb:b=x
 ·subst hb;rw[z07] at q;cases q;exact new
 ·rw[z04 hb] at q
  by_cases hbe:b=e
  ·have q':H b=some (.own x):=by
    rcases he with z|z
    ·exact absurd (hbe.trans z) hb
    ·rw[hbe];exact z
   rw[q] at q';cases q'
   obtain⟨v,hv⟩:=heo
   exact⟨v,by rw[hbe];exact hv⟩
  ·refine(ok b u q).stay (fun c v hc r=>k c v ?_ r) (fun c r=>by rw[z04 (nown c b r)];exact r) fun c xs r=>by rw[z04 (ntup c xs r)];exact r
   rcases hc with rfl|hc
   ·exact hbe
   ·rintro rfl
    rcases he with z|z
    ·exact nown c b hc z
    ·rw[hc] at z;cases z;exact hb rfl
end
structure Un(fs ex:List Addr)(H H':Hp)(h h':Heap):Prop where
 keep: ∀b o,h.get? b=some o->H b=none->b∉fs->b∉ex->h'.get? b=some o
 slot: ∀b o,h.get? b=some o->H b=none->b∈fs->b∉ex->∃sl,h'.get? b=some {o with slots:=sl}
 free: ∀b o,h.get? b=some o->H b=none->b∉ex->H' b=none
 there: ∀b o,h.get? b=some o->b∉ex->∃o',h'.get? b=some o'
 tups: ∀b xs,H b=some (.tup xs)->H' b=some (.tup xs)
 frzs: ∀b o u,H b=some (.frz o u)->H' b=some (.frz o u)
 tbls: ∀b ps,H b=some (.tbl ps)->∃more,H' b=some (.tbl (ps++more))
section
variable{fs fs' ex ex':List Addr}{H H1 H2:Hp}{h h1 h2 h':Heap}{a x e:Addr}{o:HO}
theorem Un.any(u:Un fs ex H H1 h h1){b:Addr}{ob:Obj}(q:h.get? b=some ob)(n:H b=none)(hx:b∉ex): ∃sl,h1.get? b=some {ob with slots:=sl}:=by
 by_cases hb:b∈fs
 ·exact u.slot b ob q n hb hx
 ·exact⟨ob.slots,u.keep b ob q n hb hx⟩
theorem Un.kept(k: ∀b u,h.get? b=some u->h'.get? b=some u):Un fs ex H H h h':=
 ⟨fun b ob q _ _ _=>k b ob q,fun b ob q _ _ _=>⟨ob.slots,k b ob q⟩,fun _ _ _ n _=>n,fun b ob q _=>⟨ob,k b ob q⟩,fun _ _ q=>q,fun _ _ _ q=>q,fun _ ps q=>⟨#[],by rw[q];simp⟩⟩
theorem Un.refl:Un fs ex H H h h:=Un.kept fun _ _ q=>q
theorem Un.laid(k: ∀b u,h.get? b=some u->h'.get? b=some u)(hp:h.objs.size<=a)(hn:H a=none):Un fs ex H (upd H a o) h h' where
 keep:=fun b u q _ _ _=>k b u q
 slot:=fun b u q _ _ _=>⟨u.slots,k b u q⟩
 free:=fun b u q n _=>by rw[z04 (Nat.ne_of_lt (Nat.lt_of_lt_of_le (Heap.lt_size q) hp))];exact n
 there:=fun b u q _=>⟨u,k b u q⟩
 tups:=fun b xs q=>by rw[z04 (z0u q hn)];exact q
 frzs:=fun b u xs q=>by rw[z04 (z0u q hn)];exact q
 tbls:=fun b ps q=>⟨#[],by rw[z04 (z0u q hn),q];simp⟩
theorem Un.write(mu:Mut (H x))(he:e=x\/H e=some (.own x))(k: ∀b u,b≠e->h.get? b=some u->h'.get? b=some u)(heo: ∃u,h'.get? e=some u):Un fs ex H (upd H x o) h h':=by
 have hx: ∀b,H b=none->b≠x:=fun b n z=>by subst z;rw[n] at mu;exact mu
 have hb: ∀b,H b=none->b≠e:=fun b n z=>by
  subst z
  rcases he with r|r
  ·exact hx b n r
  ·rw[n] at r;cases r
 have hm: ∀b u,H b=some u->¬Mut (some u)->b≠x:=fun b u q nm z=>by subst z;rw[q] at mu;exact nm mu
 refine⟨fun b u q n _ _=>k b u (hb b n) q,fun b u q n _ _=>⟨u.slots,k b u (hb b n) q⟩,fun b u q n _=>by rw[z04 (hx b n)];exact n,fun b u q _=> ?_,
  fun b xs q=>by rw[z04 (hm b _ q fun z=>z)];exact q,fun b u xs q=>by rw[z04 (hm b _ q fun z=>z)];exact q,fun b ps q=>⟨#[],by rw[z04 (hm b _ q fun z=>z),q];simp⟩⟩
 by_cases hbe:b=e
 ·subst hbe;exact heo
 ·exact⟨u,k b u hbe q⟩
end
noncomputable def trk(h:Heap)(H:Hp):List Addr:=(List.range h.objs.size).filter fun a=>(H a).isSome
noncomputable def hidT(h:Heap)(H:Hp):Heap:=W.hideAll h (trk h H)
theorem z6J(h:Heap)(H:Hp):(hidT h H).objs.size=h.objs.size:=W.hideAll_size _ _
theorem z8E{h:Heap}{H:Hp}{b:Addr}{o:Obj}(e:h.get? b=some o)(n:H b=none):(hidT h H).get? b=some o:=
 W.hideAll_get _ e fun hm=>by
  have q:(H b).isSome=true:=(List.mem_filter.mp hm).2
  rw[n] at q;simp at q
theorem z9X{h:Heap}{H:Hp}{b:Addr}{o:Obj}(e:(hidT h H).get? b=some o):h.get? b=some o/\H b=none:=by
 have e':h.get? b=some o:=W.of_hideAll (trk h H) e
 refine⟨e', ?_⟩
 cases q:H b with
 |none=>rfl
 |some x=>
  have hm:b∈trk h H:=List.mem_filter.mpr ⟨List.mem_range.mpr (Heap.lt_size e'),by simp[q]⟩
  have z:(hidT h H).get? b=none:=W.hideAll_none (trk h H) hm
  rw[z] at e;cases e
noncomputable def z9Y(g h:Heap)(L:Addr):List (Addr×Obj):=(List.range h.objs.size).filterMap fun a=>if a=L\/(g.get? a).isSome=true then none else(h.get? a).map fun o=>(a,o)
noncomputable def rest(g h:Heap)(L d:Addr):List (Addr×Obj):=(z9Y g h L).filter fun p=>decide (p.1≠d)
structure Mod(K:W.Frag)(mg:Str->Option Value)(base:Heap):Prop where
 kin:K.In base
 glob:base.Ns mainGlobals mg
 blt: ∃mb,base.Ns builtinsNs mb/\∀x:Str,x≠ "__name__" ->mb x=bootBuiltins x
 nolimit:base.NoLimit
structure Cx where
 prog:Program
 w:World
 K:W.Frag
 mg:Str->Option Value
 base:Heap
 A:Around
 N:List Str
 s₀:Shared
 H₀:Hp
 env:Env
 outer:List Env
 stack:List Env
 ex:List Addr
 fn:Str->Bool
 calm:Bool
 pn:List (Addr×Obj)
 xe:Value->Shared->Prop
noncomputable def frs(l:List Env):List Addr:=l.filterMap (·.frame)
noncomputable abbrev Cx.fs(X:Cx):List Addr:=frs X.outer
noncomputable def Vis(sc:Scope)(x:Str):Prop:=sc.names.lookup x=some .local\/sc.names.lookup x=some .cell\/sc.names.lookup x=some .free
noncomputable def Loc(sc:Scope)(x:Str):Prop:=sc.names.lookup x=some .local\/sc.names.lookup x=some .cell
noncomputable def Look(env:Env)(h:Heap)(m:Str->Option Value)(x:Str)(u:Value):Prop:=
 (env.kindOf x=some .local/\m x=some u)\/((env.kindOf x=some .cell\/env.kindOf x=some .free)/\∃c,env.cells.lookup x=some c/\h.IsCell c (some u))
structure Cx.Ok(X:Cx):Prop where
 mod:Mod X.K X.mg X.base
 kind:X.env.scope.kind= .function
 glob:X.env.globals=mainGlobals
 blt:X.env.builtins=builtinsNs
 above:X.s₀.heap.objs.size<=X.env.locals
 inj: ∀x y c,X.env.cells.lookup x=some c->X.env.cells.lookup y=some c->x=y
 has: ∀x,(X.env.kindOf x=some .cell\/X.env.kindOf x=some .free)->∃c,X.env.cells.lookup x=some c
 cab: ∀x c,X.fn x=true->X.env.cells.lookup x=some c->X.s₀.heap.objs.size<=c
 hd:X.calm=true->X.A.handled=none
 frames:X.A.frames=some X.stack
 stk:X.stack=X.outer\/(X.stack=X.env::X.outer/\X.env.frame=some X.env.locals)
 exf: ∀b∈X.ex,b≠X.env.locals/\∀x c,X.env.cells.lookup x=some c->c≠b
 bs: ∀b o,X.base.get? b=some o->X.s₀.heap.get? b=some o/\X.H₀ b=none
 bsz:X.base.objs.size<=X.s₀.heap.objs.size
 noex: ∀b o,X.base.get? b=some o->b∉X.ex
 exfs: ∀b∈X.ex,b∉X.fs
 funs:X.s₀.heap.FunFrames X.base X.outer
 frf: ∀b∈X.fs,X.H₀ b=none
structure Inv(X:Cx)(pins:List (Addr×Obj))(σ:List (Option V))(H:Hp)(s:Shared):Prop where
 ok:X.Ok
 os:s.os=X.s₀.os
 bare:AllBare s.gens
 base:Un X.fs X.ex X.H₀ H X.s₀.heap s.heap
 loc: ∃m,s.heap.Ns X.env.locals m/\∀(i:Nat) (x:Str) (v:V),X.N[i]? =some x->σ[i]? =some (some v)->Vis X.env.scope x->∃u,RelV v u/\Look X.env s.heap m x u
 cell: ∀x c,X.env.cells.lookup x=some c->∃v,s.heap.IsCell c v
 free:H X.env.locals=none
 freeC: ∀x c,X.env.cells.lookup x=some c->H c=none
 pin: ∀p∈X.pn++pins,s.heap.get? p.1=some p.2/\H p.1=none/\p.1≠X.env.locals/\p.1∉X.fs/\∀v,p.2.data≠ .cell v
 hok:HOk X.prog X.w H s.heap
 len:σ.length=X.N.length
section
variable{X:Cx}{pins:List (Addr×Obj)}{σ:List (Option V)}{H H':Hp}{s:Shared}{h':Heap}
theorem Cx.Ok.nofr(ok:X.Ok){b:Addr}{o:Obj}(e:X.base.get? b=some o):b∉X.fs:=fun hb=>by
 have:=(ok.funs.mem hb).1
 rw[e] at this;cases this
theorem Inv.bs(I:Inv X pins σ H s): ∀b o,X.base.get? b=some o->s.heap.get? b=some o/\H b=none:=fun b o e=>
 ⟨I.base.keep b o (I.ok.bs b o e).1 (I.ok.bs b o e).2 (I.ok.nofr e) (I.ok.noex b o e),I.base.free b o (I.ok.bs b o e).1 (I.ok.bs b o e).2 (I.ok.noex b o e)⟩
theorem Inv.bk(I:Inv X pins σ H s): ∀b o,X.base.get? b=some o->s.heap.get? b=some o:=fun b o e=>(I.bs b o e).1
theorem Inv.mod(I:Inv X pins σ H s):Mod X.K X.mg X.base:=I.ok.mod
theorem Inv.kIn(I:Inv X pins σ H s):X.K.In s.heap:=I.ok.mod.kin.keeps I.bk
theorem Inv.lt(I:Inv X pins σ H s):X.env.locals<s.heap.objs.size:=let⟨_,hn,_⟩:=I.loc;hn.lt
theorem Inv.sz(I:Inv X pins σ H s):X.s₀.heap.objs.size<=s.heap.objs.size:=Nat.le_trans I.ok.above (Nat.le_of_lt I.lt)
theorem Inv.nofs(I:Inv X pins σ H s){a:Addr}(h:s.heap.objs.size<=a):a∉X.fs:=fun hb=>by
 obtain⟨_,o,ho,_⟩:=I.ok.funs.mem hb
 exact absurd (Nat.lt_of_lt_of_le (Heap.lt_size ho) (Nat.le_trans I.sz h)) (Nat.lt_irrefl _)
theorem Inv.cne(I:Inv X pins σ H s): ∀x c,X.env.cells.lookup x=some c->c≠X.env.locals:=fun x c e z=>by
 obtain⟨v,o,ho,hd⟩:=I.cell x c e
 obtain⟨m,⟨o',es,ep,ho',hd',_⟩,_⟩:=I.loc
 rw[z,ho'] at ho;cases ho;rw[hd'] at hd;cases hd
theorem Inv.funs(I:Inv X pins σ H s):s.heap.FunFrames X.base X.outer:=by
 have all: ∀(l:List Env),(∀b∈frs l,b∈X.fs)->X.s₀.heap.FunFrames X.base l->s.heap.FunFrames X.base l:=by
  intro l
  induction l with
  |nil=>intro _ _;trivial
  |cons env r ih=>
   intro hs hl
   obtain⟨hk,⟨L,o,hf,hn,ho,hd⟩,hr⟩:=hl
   have hL:L∈X.fs:=hs L (by unfold frs;rw[List.filterMap_cons,hf];exact List.mem_cons_self)
   obtain⟨sl,e⟩:=I.base.slot L o ho (I.ok.frf L hL) hL fun z=>I.ok.exfs L z hL
   exact⟨hk,⟨L,_,hf,hn,e,hd⟩,ih (fun b hb=>hs b (by unfold frs;rw[List.filterMap_cons,hf];exact List.mem_cons_of_mem _ hb)) hr⟩
 exact all X.outer (fun _ hb=>hb) I.ok.funs
theorem Inv.stack(I:Inv X pins σ H s):s.heap.FunFrames X.base X.stack:=by
 rcases I.ok.stk with e|⟨e,hf⟩
 ·rw[e];exact I.funs
 ·rw[e]
  obtain⟨m,hn,_⟩:=I.loc
  refine .cons (by rw[I.ok.kind];decide) hf hn ?_ I.funs
  exact Heap.get?_none_of_le (Nat.le_trans I.ok.bsz I.ok.above)
theorem Inv.stkSub(I:Inv X pins σ H s): ∀b∈frs X.stack,b∈X.env.locals::X.fs:=fun b hb=>by
 rcases I.ok.stk with e|⟨e,hf⟩
 ·rw[e] at hb;exact List.mem_cons_of_mem _ hb
 ·rw[e] at hb
  unfold frs at hb
  rw[List.filterMap_cons,hf] at hb
  exact hb
theorem Inv.stkFree(I:Inv X pins σ H s): ∀b∈frs X.stack,H b=none:=fun b hb=>by
 rcases List.mem_cons.mp (I.stkSub b hb) with e|hb
 ·rw[e];exact I.free
 ·obtain⟨_,o,ho,_⟩:=I.ok.funs.mem hb
  exact I.base.free b o ho (I.ok.frf b hb) fun z=>I.ok.exfs b z hb
theorem Inv.step{g':Array GenState}{t':Nat}{d':Drawn}{ch:List Addr}(I:Inv X pins σ H s)
 (hch: ∀b∈ch,(b∈X.ex\/X.s₀.heap.objs.size<=b)/\b≠X.env.locals/\(∀x c,X.env.cells.lookup x=some c->c≠b)/\∀p∈X.pn++pins,p.1≠b)
 (keep: ∀b o,b≠X.env.locals->b∉X.fs->b∉ch->s.heap.get? b=some o->H b=none->h'.get? b=some o)
 (slot: ∀b o,b≠X.env.locals->b∈X.fs->b∉ch->s.heap.get? b=some o->H b=none->∃sl,h'.get? b=some {o with slots:=sl}) (free: ∀b o,b∉ch->s.heap.get? b=some o->H b=none->H' b=none)
 (there: ∀b o,b∉ch->s.heap.get? b=some o->∃o',h'.get? b=some o')
 (tups: ∀b xs,H b=some (.tup xs)->H' b=some (.tup xs)) (frzs: ∀b o u,H b=some (.frz o u)->H' b=some (.frz o u)) (tbls: ∀b ps,H b=some (.tbl ps)->∃more,H' b=some (.tbl (ps++more)))
 (ns: ∀m,s.heap.Ns X.env.locals m->h'.Ns X.env.locals m) (hok:HOk X.prog X.w H' h') (hg:AllBare g'):
 Inv X pins σ H' {s with heap:=h',gens:=g',drawn:=d',toks:=t'}:=by
 have neL: ∀b o,X.s₀.heap.get? b=some o->b≠X.env.locals:=fun b o e=>Nat.ne_of_lt (Nat.lt_of_lt_of_le (Heap.lt_size e) I.ok.above)
 have neC: ∀b o,X.s₀.heap.get? b=some o->b∉X.ex->b∉ch:=fun b o e hx hb=>by
  rcases(hch b hb).1 with z|z
  ·exact hx z
  ·exact absurd (Nat.lt_of_lt_of_le (Heap.lt_size e) z) (Nat.lt_irrefl _)
 have cellK: ∀x c,X.env.cells.lookup x=some c->∀v,s.heap.IsCell c v->h'.IsCell c v:=fun x c e v ⟨o,ho,hd⟩=>by
  have nch:c∉ch:=fun z=>(hch c z).2.2.1 x c e rfl
  by_cases hc:c∈X.fs
  ·obtain⟨sl,q⟩:=slot c o (I.cne x c e) hc nch ho (I.freeC x c e)
   exact⟨_,q,hd⟩
  ·exact⟨o,keep c o (I.cne x c e) hc nch ho (I.freeC x c e),hd⟩
 refine⟨I.ok,I.os,hg,⟨fun b o e n hb hx=> ?_,fun b o e n hb hx=> ?_,fun b o e n hx=> ?_,fun b o e hx=> ?_,fun b xs e=>tups b xs (I.base.tups b xs e),fun b o xs e=>frzs b o xs (I.base.frzs b o xs e),fun b ps e=> ?_⟩, ?_,fun x c e=> ?_, ?_,fun x c e=> ?_,fun p hp=> ?_,hok,I.len⟩
 ·exact keep b o (neL b o e) hb (neC b o e hx) (I.base.keep b o e n hb hx) (I.base.free b o e n hx)
 ·obtain⟨sl,e1⟩:=I.base.slot b o e n hb hx
  obtain⟨sl',e2⟩:=slot b _ (neL b o e) hb (neC b o e hx) e1 (I.base.free b o e n hx)
  exact⟨sl',e2⟩
 ·obtain⟨o',e1⟩:=I.base.there b o e hx
  exact free b o' (neC b o e hx) e1 (I.base.free b o e n hx)
 ·obtain⟨o',e1⟩:=I.base.there b o e hx
  exact there b o' (neC b o e hx) e1
 ·obtain⟨m1,e1⟩:=I.base.tbls b ps e
  obtain⟨m2,e2⟩:=tbls b _ e1
  exact⟨m1++m2,by rw[e2,Array.append_assoc]⟩
 ·obtain⟨m,hn,hl⟩:=I.loc
  refine⟨m,ns m hn,fun i x v e1 e2 e3=> ?_⟩
  obtain⟨u,r,l⟩:=hl i x v e1 e2 e3
  refine⟨u,r, ?_⟩
  rcases l with l|⟨k,c,e,z⟩
  ·exact .inl l
  ·exact .inr ⟨k,c,e,cellK x c e _ z⟩
 ·obtain⟨v,z⟩:=I.cell x c e
  exact⟨v,cellK x c e v z⟩
 ·obtain⟨m,⟨o,_,_,ho,_⟩,_⟩:=I.loc
  exact free _ o (fun z=>(hch _ z).2.1 rfl) ho I.free
 ·obtain⟨v,o,ho,hd⟩:=I.cell x c e
  exact free c o (fun z=>(hch c z).2.2.1 x c e rfl) ho (I.freeC x c e)
 ·obtain⟨e,n,ne,nf,d⟩:=I.pin p hp
  have nch:p.1∉ch:=fun z=>(hch p.1 z).2.2.2 p hp rfl
  exact⟨keep p.1 p.2 ne nf nch e n,free p.1 p.2 nch e n,ne,nf,d⟩
theorem Inv.un{t':Nat}(I:Inv X pins σ H s)(u:Un X.fs [] H H' s.heap h')(hok:HOk X.prog X.w H' h'):Inv X pins σ H' {s with heap:=h',toks:=t'}:=by
 obtain⟨m,⟨o,es,ep,ho,r⟩,_⟩:=id I.loc
 obtain⟨sl,hL⟩:=u.any ho I.free (by simp)
 exact I.step (g':=s.gens) (d':=s.drawn) (ch:=[]) (fun _ z=>nomatch z) (fun b o _ hb _ e n=>u.keep b o e n hb (by simp)) (fun b o _ hb _ e n=>u.slot b o e n hb (by simp)) (fun b o _ e n=>u.free b o e n (by simp)) (fun b o _ e=>u.there b o e (by simp)) u.tups u.frzs u.tbls (fun m' hm=>by
  obtain⟨o',es',ep',ho',r'⟩:=hm
  rw[ho] at ho';cases ho'
  exact⟨_,es',ep',hL,r'⟩) hok I.bare
theorem Inv.call{g':Array GenState}{t':Nat}{d':Drawn}{ch:List Addr}(I:Inv X pins σ H s)(u:Un (frs X.stack) ch H H' s.heap h')(hok:HOk X.prog X.w H' h')(hg:AllBare g')
 (hch: ∀b∈ch,(b∈X.ex\/X.s₀.heap.objs.size<=b)/\b≠X.env.locals/\(∀x c,X.env.cells.lookup x=some c->c≠b)/\∀p∈X.pn++pins,p.1≠b):
 Inv X pins σ H' {s with heap:=h',gens:=g',drawn:=d',toks:=t'}:=by
 obtain⟨m,⟨o,es,ep,ho,r⟩,_⟩:=id I.loc
 obtain⟨sl,hL⟩:=u.any ho I.free fun z=>(hch _ z).2.1 rfl
 exact I.step (ch:=ch) hch (fun b o hL hb hc e n=>u.keep b o e n (fun z=>(List.mem_cons.mp (I.stkSub b z)).elim hL hb) hc) (fun b o _ _ hc e n=>u.any e n hc) (fun b o hc e n=>u.free b o e n hc) (fun b o hc e=>u.there b o e hc) u.tups u.frzs u.tbls (fun m' hm=>by
  obtain⟨o',es',ep',ho',r'⟩:=hm
  rw[ho] at ho';cases ho'
  exact⟨_,es',ep',hL,r'⟩) hok hg
theorem Inv.turned{t':Nat}{it:Addr}(I:Inv X pins σ H s)(k: ∀b o,b≠it->s.heap.get? b=some o->h'.get? b=some o)(hn:H it=none)(hL:it≠X.env.locals)
 (h1:it∈X.ex\/X.s₀.heap.objs.size<=it) (h2: ∀x c,X.env.cells.lookup x=some c->c≠it) (h3: ∀p∈X.pn++pins,p.1≠it):Inv X pins σ H {s with heap:=h',toks:=t'}:=by
 have nit: ∀b u,H b=some u->b≠it:=fun b u e z=>by rw[z,hn] at e;cases e
 refine I.step (g':=s.gens) (d':=s.drawn) (ch:=[it]) (fun b hb=> ?_) (fun b o _ _ hc e _=>k b o (fun z=>hc (by simp[z])) e) (fun b o _ _ hc e _=>⟨o.slots,k b o (fun z=>hc (by simp[z])) e⟩) (fun _ _ _ _ n=>n)
  (fun b o hc e=>⟨o,k b o (fun z=>hc (by simp[z])) e⟩) (fun _ _ e=>e) (fun _ _ _ e=>e) (fun b ps e=>⟨#[],by rw[e];simp⟩) (fun m hm=> ?_) (fun b u e=> ?_) I.bare
 ·have e:b=it:=by simpa using hb
  subst e
  exact⟨h1,hL,h2,h3⟩
 ·obtain⟨o,es,ep,ho,r⟩:=hm
  exact⟨o,es,ep,k _ o (Ne.symm hL) ho,r⟩
 ·refine(I.hok b u e).stay (fun c v hc q=>k c v ?_ q) (fun _ q=>q) fun _ _ q=>q
  rcases hc with z|z
  ·rw[z];exact nit b u e
  ·exact nit c _ z
theorem Inv.tok(I:Inv X pins σ H s)(t:Nat):Inv X pins σ H {s with toks:=t}:=I.un (h':=s.heap) (t':=t) Un.refl I.hok
theorem Inv.kept{t':Nat}(I:Inv X pins σ H s)(k: ∀b u,s.heap.get? b=some u->h'.get? b=some u):Inv X pins σ H {s with heap:=h',toks:=t'}:=I.un (Un.kept k) (I.hok.kept k)
theorem Inv.laid{a:Addr}{o:HO}{t':Nat}(I:Inv X pins σ H s)(k: ∀b u,s.heap.get? b=some u->h'.get? b=some u)(hp:s.heap.objs.size<=a)(new:z1b X.prog X.w (upd H a o) h' a o):
 Inv X pins σ (upd H a o) {s with heap:=h',toks:=t'}:=I.un (Un.laid k hp (I.hok.fresh hp)) (I.hok.laid k hp new)
theorem Inv.write{x e:Addr}{o:HO}{t':Nat}(I:Inv X pins σ H s)(mu:Mut (H x))(he:e=x\/H e=some (.own x))(k: ∀b u,b≠e->s.heap.get? b=some u->h'.get? b=some u)(heo: ∃u,h'.get? e=some u)
 (new:z1b X.prog X.w (upd H x o) h' x o):Inv X pins σ (upd H x o) {s with heap:=h',toks:=t'}:=I.un (Un.write mu he k heo) (I.hok.write mu he k heo new)
theorem Inv.pins_of{pins':List (Addr×Obj)}(I:Inv X pins σ H s)(h: ∀p∈pins',s.heap.get? p.1=some p.2/\H p.1=none/\p.1≠X.env.locals/\p.1∉X.fs/\∀v,p.2.data≠ .cell v):Inv X pins' σ H s:=
 ⟨I.ok,I.os,I.bare,I.base,I.loc,I.cell,I.free,I.freeC,fun p hp=>(List.mem_append.mp hp).elim (fun z=>I.pin p (List.mem_append_left _ z)) (h p),I.hok,I.len⟩
theorem z5y{N:List Str}(hN:N.Nodup){i j:Nat}{x:Str}(a:N[i]? =some x)(b:N[j]? =some x):i=j:=by
 obtain⟨h1,e1⟩:=List.getElem?_eq_some_iff.mp a
 obtain⟨h2,e2⟩:=List.getElem?_eq_some_iff.mp b
 exact(List.getElem_inj hN).mp (e1.trans e2.symm)
theorem z6K{M:Model}{A:Around}{E:Value->Shared->Prop}{i:Nat}{x:Str}{v:V}{u:Value}{Q:Unit->Shared->Prop}(I:Inv X pins σ H s)(hN:X.N.Nodup)(hi:X.N[i]? =some x)(hx:Loc X.env.scope x)(r:RelV v u)
 (h: ∀s',Inv X pins (σ.set i (some v)) H s'->(∃a,Heap.SameBut a s.heap s'.heap/\(a=X.env.locals\/X.env.cells.lookup x=some a))->Q () s') (hf:X.fn x=true\/X.env.scope.names.lookup x=some .local:=by first|exact .inl rfl|exact .inr rfl|assumption):wpAny M A (storeName X.env x u) Q E s:=by
 obtain⟨m,hn,hl⟩:=id I.loc
 have hcls:(X.env.scope.kind== .class||(X.env.scope.kind== .module&&X.env.locals !=X.env.globals))=false:=by rw[I.ok.kind];rfl
 have hiσ:i<σ.length:=by rw[I.len];exact(List.getElem?_eq_some_iff.mp hi).1
 have cne:=I.cne
 have tracked: ∀{a:Addr} {h':Heap},(∃o,s.heap.get? a=some o/\H a=none)->Heap.SameBut a s.heap h'->HOk X.prog X.w H h':=fun{a h'} ha hs b ob e=>by
  obtain⟨_,_,hfree⟩:=ha
  refine(I.hok b ob e).stay (fun c w' hc q=>(hs.2 c ?_).trans q) (fun _ q=>q) fun _ _ q=>q
  rintro rfl
  rcases hc with rfl|hc
  ·rw[hfree] at e;cases e
  ·rw[hfree] at hc;cases hc
 rcases hx with hk|hk
 ·refine wpAny_storeName_local hk hn (fun h' hn' hs=> ?_) hcls
  obtain⟨oL,_,_,hoL,_⟩:=id hn
  refine h _ ⟨I.ok,I.os,I.bare,⟨fun b o e n hb hx=> ?_,fun b o e n hb hx=> ?_,I.base.free,fun b o e hx=> ?_,I.base.tups,I.base.frzs,I.base.tbls⟩,⟨_,hn',fun j y v' e1 e2 e3=> ?_⟩,fun y c e=> ?_,I.free,I.freeC,fun p hp=> ?_,tracked ⟨oL,hoL,I.free⟩ hs,by simpa using I.len⟩ ⟨_,hs, .inl rfl⟩
  ·exact(hs.2 b (Nat.ne_of_lt (Nat.lt_of_lt_of_le (Heap.lt_size e) I.ok.above))).trans (I.base.keep b o e n hb hx)
  ·obtain⟨sl,e1⟩:=I.base.slot b o e n hb hx
   exact⟨sl,(hs.2 b (Nat.ne_of_lt (Nat.lt_of_lt_of_le (Heap.lt_size e) I.ok.above))).trans e1⟩
  ·obtain⟨o',e1⟩:=I.base.there b o e hx
   exact⟨o',(hs.2 b (Nat.ne_of_lt (Nat.lt_of_lt_of_le (Heap.lt_size e) I.ok.above))).trans e1⟩
  ·by_cases hj:j=i
   ·subst hj
    rw[hi] at e1;cases e1
    rw[List.getElem?_set_self hiσ] at e2
    cases e2
    exact⟨u,r, .inl ⟨hk,by simp⟩⟩
   ·rw[List.getElem?_set_ne (Ne.symm hj)] at e2
    obtain⟨u',r',q⟩:=hl j y v' e1 e2 e3
    refine⟨u',r', ?_⟩
    rcases q with⟨k,e⟩|⟨k,c,e,z⟩
    ·refine .inl ⟨k, ?_⟩
     have:y≠x:=fun e=>hj (z5y hN e1 (e▸hi))
     simp[this,e]
    ·exact .inr ⟨k,c,e,z.sameBut hs (cne y c e)⟩
  ·obtain⟨w',z⟩:=I.cell y c e
   exact⟨w',z.sameBut hs (cne y c e)⟩
  ·obtain⟨e,n,ne,nf,d⟩:=I.pin p hp
   exact⟨(hs.2 p.1 ne).trans e,n,ne,nf,d⟩
 ·have hfn:X.fn x=true:=by
   rcases hf with z|z
   ·exact z
   ·rw[z] at hk;cases hk
  obtain⟨c,hc⟩:=I.ok.has x (.inl hk)
  obtain⟨w',z⟩:=I.cell x c hc
  refine wpAny_storeName_cell I.ok.kind hk hc z (fun h' hc' hs=> ?_)
  obtain⟨oc,hoc,hocd⟩:=id z
  refine h {s with heap:=h'} ⟨I.ok,I.os,I.bare,⟨fun b o e n hb hx=> ?_,fun b o e n hb hx=> ?_,I.base.free,fun b o e hx=> ?_,I.base.tups,I.base.frzs,I.base.tbls⟩,⟨m,hn.sameBut hs (Ne.symm (cne x c hc)),fun j y v' e1 e2 e3=> ?_⟩,fun y c' e=> ?_,I.free,I.freeC,fun p hp=> ?_,tracked ⟨oc,hoc,I.freeC x c hc⟩ hs,by simpa using I.len⟩ ⟨c,hs, .inr hc⟩
  ·exact(hs.2 b (Nat.ne_of_lt (Nat.lt_of_lt_of_le (Heap.lt_size e) (I.ok.cab x c hfn hc)))).trans (I.base.keep b o e n hb hx)
  ·obtain⟨sl,e1⟩:=I.base.slot b o e n hb hx
   exact⟨sl,(hs.2 b (Nat.ne_of_lt (Nat.lt_of_lt_of_le (Heap.lt_size e) (I.ok.cab x c hfn hc)))).trans e1⟩
  ·obtain⟨o',e1⟩:=I.base.there b o e hx
   exact⟨o',(hs.2 b (Nat.ne_of_lt (Nat.lt_of_lt_of_le (Heap.lt_size e) (I.ok.cab x c hfn hc)))).trans e1⟩
  ·by_cases hj:j=i
   ·subst hj
    rw[hi] at e1;cases e1
    rw[List.getElem?_set_self hiσ] at e2
    cases e2
    exact⟨u,r, .inr ⟨.inl hk,c,hc,hc'⟩⟩
   ·rw[List.getElem?_set_ne (Ne.symm hj)] at e2
    obtain⟨u',r',q⟩:=hl j y v' e1 e2 e3
    refine⟨u',r', ?_⟩
    rcases q with q|⟨k,c',e,z'⟩
    ·exact .inl q
    ·refine .inr ⟨k,c',e,z'.sameBut hs ?_⟩
     rintro rfl
     exact hj (z5y hN e1 (I.ok.inj _ _ _ e hc▸hi))
  ·by_cases hcc:c'=c
   ·subst hcc;exact⟨_,hc'⟩
   ·obtain⟨w2,z2⟩:=I.cell y c' e
    exact⟨w2,z2.sameBut hs hcc⟩
  ·obtain⟨e,n,ne,nf,d⟩:=I.pin p hp
   refine⟨(hs.2 p.1 ?_).trans e,n,ne,nf,d⟩
   intro q
   rw[q,hoc] at e
   have q':oc=p.2:=Option.some.inj e
   exact d w' (by rw[<-q'];exact hocd)
theorem z3L{M:Model}{A:Around}{E:Value->Shared->Prop}{i:Nat}{x:Str}{v:V}{u:Value}{Q:Unit->Shared->Prop}(I:Inv X pins σ H s)(hN:X.N.Nodup)(hi:X.N[i]? =some x)(hx:Loc X.env.scope x)(r:RelV v u)
 (h: ∀s',Inv X pins (σ.set i (some v)) H s'->Q () s') (hf:X.fn x=true\/X.env.scope.names.lookup x=some .local:=by first|exact .inl rfl|exact .inr rfl|assumption):wpAny M A (storeName X.env x u) Q E s:=
 z6K I hN hi hx r (fun s' I' _=>h s' I') hf
theorem Inv.call'{s':Shared}{ch:List Addr}(I:Inv X pins σ H s)(ho:s'.os=s.os)(u:Un (frs X.stack) ch H H' s.heap s'.heap)(hok:HOk X.prog X.w H' s'.heap)(hg:AllBare s'.gens)
 (hch: ∀b∈ch,(b∈X.ex\/X.s₀.heap.objs.size<=b)/\b≠X.env.locals/\(∀x c,X.env.cells.lookup x=some c->c≠b)/\∀p∈X.pn++pins,p.1≠b):Inv X pins σ H' s':=by
 obtain⟨h',g',d',t',o'⟩:=s'
 have e:o'=s.os:=ho
 subst e
 exact I.call (g':=g') (t':=t') (d':=d') u hok hg hch
end
noncomputable abbrev XK:=Value->Option Addr->Hp->Prop
noncomputable abbrev St:=List (Option V)
noncomputable abbrev VK:=V->Hp->Prop
noncomputable abbrev TE:=St->Hp->VK->Prop
noncomputable abbrev TT:=St->Hp->(Bool->Hp->Prop)->Prop
noncomputable abbrev TA:=St->Hp->(List V->Hp->Prop)->Prop
structure Ends where
 nx:St->Hp->Prop
 rt:VK
 bk:St->Hp->Prop:=fun _ _=>False
 ct:St->Hp->Prop:=fun _ _=>False
noncomputable abbrev TS:=Ends->St->Hp->Prop
noncomputable def EP(X:Cx)(pins:List (Addr×Obj))(σ:St)(Q:VK)(u:Value)(s':Shared):Prop:= ∃v H',Inv X pins σ H' s'/\RelV v u/\Q v H'
noncomputable def TP(X:Cx)(pins:List (Addr×Obj))(σ:St)(Q:Bool->Hp->Prop)(b:Bool)(s':Shared):Prop:= ∃H',Inv X pins σ H' s'/\Q b H'
noncomputable def AP(X:Cx)(pins:List (Addr×Obj))(σ:St)(Q:List V->Hp->Prop)(us:List Value)(s':Shared):Prop:= ∃vs H',Inv X pins σ H' s'/\Vals vs us/\Q vs H'
noncomputable def SP(X:Cx)(pins:List (Addr×Obj))(D:Ends)(f:Flow)(s':Shared):Prop:=
 match f with
 | .next=> ∃σ' H',Inv X pins σ' H' s'/\D.nx σ' H'
 | .brk=> ∃σ' H',Inv X pins σ' H' s'/\D.bk σ' H'
 | .cont=> ∃σ' H',Inv X pins σ' H' s'/\D.ct σ' H'
 | .ret u=> ∃v σ' H',Inv X pins σ' H' s'/\RelV v u/\D.rt v H'
noncomputable def PE(X:Cx)(e:Expr)(t:TE):Prop:=
 ∀(pins:List (Addr×Obj)) (s:Shared) (σ:St) (H:Hp) (Q:VK),Inv X pins σ H s->t σ H Q->wpAny (model X.prog X.w) X.A (eval e X.env) (EP X pins σ Q) X.xe s
noncomputable def PT(X:Cx)(e:Expr)(t:TT):Prop:=
 ∀(pins:List (Addr×Obj)) (s:Shared) (σ:St) (H:Hp) (Q:Bool->Hp->Prop),Inv X pins σ H s->t σ H Q->wpAny (model X.prog X.w) X.A (isTrue e X.env (eval e X.env)) (TP X pins σ Q) X.xe s
noncomputable def PW(X:Cx)(e:Expr)(t:TT):Prop:=
 ∀(whole:Sem Value) (pins:List (Addr×Obj)) (s:Shared) (σ:St) (H:Hp) (Q:Bool->Hp->Prop),Inv X pins σ H s->t σ H Q->wpAny (model X.prog X.w) X.A (isTrue e X.env whole) (TP X pins σ Q) X.xe s
theorem PW.pt{X:Cx}{e:Expr}{t:TT}(h:PW X e t):PT X e t:=h _
noncomputable def PA(X:Cx)(es:List Expr)(t:TA):Prop:=
 ∀(pos:Pos) (pins:List (Addr×Obj)) (s:Shared) (σ:St) (H:Hp) (Q:List V->Hp->Prop),Inv X pins σ H s->t σ H Q->wpAny (model X.prog X.w) X.A (spliced (backTo pos (starEach es X.env))) (AP X pins σ Q) X.xe s
noncomputable def PS(X:Cx)(st:Stmt)(t:TS):Prop:=
 ∀(pins:List (Addr×Obj)) (s:Shared) (σ:St) (H:Hp) (D:Ends),Inv X pins σ H s->t D σ H->wpAny (model X.prog X.w) X.A (exec st X.env) (SP X pins D) X.xe s
noncomputable def PSs(X:Cx)(st:List Stmt)(t:TS):Prop:=
 ∀(pins:List (Addr×Obj)) (s:Shared) (σ:St) (H:Hp) (D:Ends),Inv X pins σ H s->t D σ H->wpAny (model X.prog X.w) X.A (execs st X.env) (SP X pins D) X.xe s
theorem thn{α:Type}{t:Sem α}{Q Q':α->Shared->Prop}{M:Model}{A:Around}{E:Value->Shared->Prop}{s:Shared}(h:wpAny M A t Q E s)(hQ: ∀a s,Q a s->Q' a s):wpAny M A t Q' E s:=wpAny_mono h hQ fun _ _ x=>x
section
variable{X:Cx}
noncomputable def tVar(i:Nat):TE:=fun σ H Q=> ∃v,σ[i]? =some (some v)/\Q v H
noncomputable def tC(v:V):TE:=fun _ H Q=>Q v H
theorem zbI{i:Nat}{x:Str}{pos:Pos}(hN:X.N[i]? =some x)(hv:Vis X.env.scope x)(hd:(x==("__debug__" :Str))=false:=by decide)(hcd:(x==("__classdict__" :Str))=false:=by decide):PE X (.Name x pos) (tVar i):=by
 intro pins s σ H Q I h
 obtain⟨v,e,h⟩:=h
 obtain⟨m,hn,hl⟩:=I.loc
 obtain⟨u,r,l⟩:=hl i x v hN e hv
 have fin:EP X pins σ Q u s:=⟨v,H,I,r,h⟩
 rcases l with⟨hk,hm⟩|⟨hk,c,hc,hcell⟩
 ·exact wpAny_Name (wpAny_loadName_local I.ok.kind hk hn hm fin) hd
 ·rcases hk with hk|hk
  ·exact wpAny_Name (wpAny_loadName_cell I.ok.kind hk hc hcell fin) hd
  ·exact wpAny_Name (wpAny_loadName_free I.ok.kind hk hc hcell fin hcd) hd
theorem z00{i j pos}:PE X (.Constant (.int i) j pos) (tC (.int i)):=fun _ _ _ H _ I h=>wpAny_Constant_int ⟨.int i,H,I.tok _,⟨_,rfl⟩,h⟩
theorem z1A{b j pos}:PE X (.Constant (.bool b) j pos) (tC (.bl b)):=fun _ _ _ H _ I h=>Constant_bool ⟨.bl b,H,I,rfl,h⟩
theorem z9F{j pos}:PE X (.Constant .none j pos) (tC .non):=fun _ _ _ H _ I h=>Constant_none ⟨.non,H,I,rfl,h⟩
theorem z6L{x j pos}:PE X (.Constant (.str x) j pos) (tC (.str x)):=fun _ _ _ H _ I h=>Calls.Constant_str ⟨.str x,H,I.tok _,⟨_,rfl⟩,h⟩
noncomputable def Gl(X:Cx)(x:Str):Prop:=X.env.kindOf x=some .globalImplicit
theorem z6M{E:Value->Shared->Prop}{pins:List (Addr×Obj)}{s:Shared}{σ:St}{H:Hp}{x:Str}{u:Value}{pos:Pos}{Q:Value->Shared->Prop}(I:Inv X pins σ H s)(hg:Gl X x)(hm:X.mg x=some u)(h:Q u s)
 (hd:(x==("__debug__" :Str))=false:=by decide):wpAny (model X.prog X.w) X.A (eval (.Name x pos) X.env) Q E s:=
 Calls.Name_function_global I.ok.kind hg (Calls.loadGlobal_global (by rw[I.ok.glob];exact I.mod.glob.keeps I.bk) hm h) hd
theorem z4k{E:Value->Shared->Prop}{pins:List (Addr×Obj)}{s:Shared}{σ:St}{H:Hp}{x:Str}{u:Value}{pos:Pos}{Q:Value->Shared->Prop}(I:Inv X pins σ H s)(hg:Gl X x)(hm:X.mg x=none)(hv:bootBuiltins x=some u)(h:Q u s)
 (hn:x≠ "__name__" :=by decide) (hd:(x==("__debug__" :Str))=false:=by decide):wpAny (model X.prog X.w) X.A (eval (.Name x pos) X.env) Q E s:=by
 obtain⟨mb,h1,h2⟩:=I.mod.blt
 exact Calls.Name_function_global I.ok.kind hg (Calls.loadGlobal_builtin (by rw[I.ok.glob];exact I.mod.glob.keeps I.bk) hm (by rw[I.ok.blt];exact h1.keeps I.bk) ((h2 x hn).trans hv) h) hd
theorem z3M{x:Str}{v:V}{u:Value}{pos:Pos}(hg:Gl X x)(hm:X.mg x=some u)(r:RelV v u)(hd:(x==("__debug__" :Str))=false:=by decide):PE X (.Name x pos) (tC v):=
 fun _ _ _ H _ I h=>z6M I hg hm ⟨v,H,I,r,h⟩ hd
theorem z0A{x:Str}{v:V}{u:Value}{pos:Pos}(hg:Gl X x)(hm:X.mg x=none)(hv:bootBuiltins x=some u)(r:RelV v u)(hn:x≠ "__name__" :=by decide)(hd:(x==("__debug__" :Str))=false:=by decide):PE X (.Name x pos) (tC v):=
 fun _ _ _ H _ I h=>z4k I hg hm hv ⟨v,H,I,r,h⟩ hn hd
variable{a b:Expr}{ta tb:TE}{pos:Pos}
variable{tA tB':TT}{rest:List Expr}
noncomputable def tAnd(t u:TT):TT:=fun σ H Q=>t σ H fun c H1=>if c=true then u σ H1 Q else Q false H1
noncomputable def tOr(t u:TT):TT:=fun σ H Q=>t σ H fun c H1=>if c=true then Q true H1 else u σ H1 Q
noncomputable def tNot(t:TT):TT:=fun σ H Q=>t σ H fun c H1=>Q (!c) H1
theorem z9Z(ha:PT X a tA):PW X (.BoolOp .And [a] pos) tA:=by
 intro wh pins s σ H Q I h
 refine isTrue_and (thn (ha pins s σ H Q I h) fun c s1 e=> ?_)
 cases c with
 |true=>exact isTrue_and_nil e
 |false=>exact e
theorem zbJ(ha:PT X a tA):PW X (.BoolOp .Or [a] pos) tA:=by
 intro wh pins s σ H Q I h
 refine isTrue_or (thn (ha pins s σ H Q I h) fun c s1 e=> ?_)
 cases c with
 |false=>exact isTrue_or_nil e
 |true=>exact e
theorem zbK(ha:PT X a tA)(hb:PW X (.BoolOp .And (b::rest) pos) tB'):PW X (.BoolOp .And (a::b::rest) pos) (tAnd tA tB'):=by
 intro wh pins s σ H Q I h
 refine isTrue_and (thn (ha pins s σ H _ I h) fun c s1 ⟨H1,I1,q1⟩=> ?_)
 cases c with
 |true=>exact hb wh pins s1 σ H1 Q I1 q1
 |false=>exact⟨H1,I1,q1⟩
theorem ze3(ha:PT X a tA)(hb:PW X (.BoolOp .Or (b::rest) pos) tB'):PW X (.BoolOp .Or (a::b::rest) pos) (tOr tA tB'):=by
 intro wh pins s σ H Q I h
 refine isTrue_or (thn (ha pins s σ H _ I h) fun c s1 ⟨H1,I1,q1⟩=> ?_)
 cases c with
 |true=>exact⟨H1,I1,q1⟩
 |false=>exact hb wh pins s1 σ H1 Q I1 q1
theorem zbL(ha:PT X a tA):PT X (.UnaryOp .Not a pos) (tNot tA):=by
 intro pins s σ H Q I h
 exact isTrue_not (ha pins s σ H (fun c H1=>Q (!c) H1) I h)
noncomputable def ze4(ta tb:TE):TE:=fun σ H Q=>ta σ H fun x H1=> ∃c,x= .bl c/\if c=true then tb σ H1 Q else Q (.bl false) H1
noncomputable def ze5(ta:TE):TE:=fun σ H Q=>ta σ H fun x H1=> ∃c,x= .bl c/\Q (.bl (!c)) H1
theorem zbM{op}{t:TE}(h:PE X a t):PE X (.BoolOp op [a] pos) t:=fun pins s σ H Q I hw=>BoolOp_one (h pins s σ H Q I hw)
theorem zbN(ha:PE X a ta)(hb:PE X (.BoolOp .And (b::rest) pos) tb):PE X (.BoolOp .And (a::b::rest) pos) (ze4 ta tb):=by
 intro pins s σ H Q I h
 refine BoolOp_and (thn (ha pins s σ H _ I h) fun v s1 ⟨x,H1,I1,r1,q1⟩=> ?_)
 obtain⟨c,rfl,q1⟩:=q1
 cases r1
 refine wpAny_truthy_bool ?_
 cases c with
 |true=>exact hb pins s1 σ H1 Q I1 q1
 |false=>exact⟨.bl false,H1,I1,rfl,q1⟩
theorem zbO(ha:PE X a ta):PE X (.UnaryOp .Not a pos) (ze5 ta):=by
 intro pins s σ H Q I h
 refine UnaryOp_ (thn (ha pins s σ H _ I h) fun v s1 ⟨x,H1,I1,r1,q1⟩=> ?_)
 obtain⟨c,rfl,q1⟩:=q1
 cases r1
 exact not_of (wpAny_truthy_bool ⟨.bl (!c),H1,I1,rfl,q1⟩)
end
noncomputable def SqL(K:W.Frag)(H:Hp)(a:Addr)(xs:List V):Prop:=
 Rd H a (.lst xs)\/
  ∃(o:Obj) (its:Array Value) (n:Nat),K.lookup a=some o/\o.cls= .type "list" /\o.dict=none/\o.data= .seq its n/\its.size<=sizeLine/\Vals xs its.toList
noncomputable def SqT(K:W.Frag)(H:Hp)(a:Addr)(xs:List V):Prop:=
 Rd H a (.tup xs)\/
  ∃(o:Obj) (its:Array Value) (n:Nat),K.lookup a=some o/\o.cls= .type "tuple" /\o.data= .seq its n/\its.size<=sizeLine/\Vals xs its.toList
noncomputable def absV:Value->Option V
 | .none=>some .non
 | .bool b=>some (.bl b)
 | .int i _=>some (.int i)
 | .str x _=>some (.str x)
 | .bytes b _=>some (.byt b)
 | .float b _=>some (.flt b)
 | .ref a=>some (.ref a)
 | .type n=>some (.ty n)
 |_=>none
theorem RelV.abs{x:V}{u:Value}(r:RelV x u):absV u=some x:=by
 cases x with
 |non=>cases r;rfl
 |bl _=>cases r;rfl
 |int _=>obtain⟨t,rfl⟩:=r;rfl
 |str _=>obtain⟨t,rfl⟩:=r;rfl
 |byt _=>obtain⟨t,rfl⟩:=r;rfl
 |flt _=>obtain⟨t,rfl⟩:=r;rfl
 |ref _=>cases r;rfl
 |ty _=>cases r;rfl
theorem RelV.inj{x y:V}{u:Value}(r:RelV x u)(q:RelV y u):x=y:=Option.some.inj (r.abs.symm.trans q.abs)
theorem Vals.inj: ∀{xs ys:List V} {us:List Value},Vals xs us->Vals ys us->xs=ys
 |_,_,_, .nil, .nil=>rfl
 |_,_,_, .cons r t, .cons r' t'=>by rw[r.inj r',Vals.inj t t']
section
variable{X:Cx}{pins:List (Addr×Obj)}{σ:St}{H:Hp}{s:Shared}{a:Addr}{xs ys:List V}
theorem SqL.of{K:W.Frag}(h:H a=some (.lst xs)):SqL K H a xs:= .inl (.inl h)
theorem SqT.of{K:W.Frag}(h:H a=some (.tup xs)):SqT K H a xs:= .inl (.inl h)
theorem Inv.list(I:Inv X pins σ H s)(h:SqL X.K H a xs): ∃its:List Value,Vals xs its/\PlainL s.heap a its.toArray/\xs.length<=sizeLine:=by
 rcases h with h|⟨o,its,n,hk,hc,hd,hs,hz,r⟩
 ·obtain⟨z,its,n,r,e⟩:=h.ok I.hok
  exact⟨its,r,⟨_,n,e,rfl,rfl,rfl⟩,z⟩
 ·refine⟨its.toList,r,⟨o,n,I.kIn a o hk,hc,hd,by simpa using hs⟩, ?_⟩
  have e:=r.length
  simp only[Array.length_toList] at e
  lia
theorem Inv.tuple(I:Inv X pins σ H s)(h:SqT X.K H a xs): ∃its:List Value,Vals xs its/\IsTup s.heap a its.toArray/\xs.length<=sizeLine:=by
 rcases h with h|⟨o,its,n,hk,hc,hs,hz,r⟩
 ·obtain⟨z,its,r,p⟩:=h.ok I.hok
  exact⟨its,r,p,z⟩
 ·refine⟨its.toList,r,⟨o,I.kIn a o hk,hc,n,by simpa using hs⟩, ?_⟩
  have e:=r.length
  simp only[Array.length_toList] at e
  lia
theorem Inv.list_inj(I:Inv X pins σ H s)(h:SqL X.K H a xs)(h':SqL X.K H a ys):xs=ys:=by
 obtain⟨its,r,⟨o,n,e,_,_,d⟩,_⟩:=I.list h
 obtain⟨its',r',⟨o',n',e',_,_,d'⟩,_⟩:=I.list h'
 rw[e] at e';cases e'
 rw[d] at d'
 injection d' with d1 _
 have:its=its':=by simpa using congrArg Array.toList d1
 subst this
 exact r.inj r'
theorem Inv.tuple_inj(I:Inv X pins σ H s)(h:SqT X.K H a xs)(h':SqT X.K H a ys):xs=ys:=by
 obtain⟨its,r,⟨o,e,_,n,d⟩,_⟩:=I.tuple h
 obtain⟨its',r',⟨o',e',_,n',d'⟩,_⟩:=I.tuple h'
 rw[e] at e';cases e'
 rw[d] at d'
 injection d' with d1 _
 have:its=its':=by simpa using congrArg Array.toList d1
 subst this
 exact r.inj r'
end
noncomputable abbrev Cx.wish(X:Cx)(E:Value->Shared->Prop):Cx:={X with xe:=E}
noncomputable abbrev Cx.nox(X:Cx):Cx:=X.wish fun _ _=>False
theorem Cx.Ok.wish{X:Cx}(ok:X.Ok)(E:Value->Shared->Prop):(X.wish E).Ok:=
 ⟨ok.mod,ok.kind,ok.glob,ok.blt,ok.above,ok.inj,ok.has,ok.cab,ok.hd,ok.frames,ok.stk,ok.exf,ok.bs,ok.bsz,ok.noex,ok.exfs,ok.funs,ok.frf⟩
theorem Cx.Ok.unwish{X:Cx}{E:Value->Shared->Prop}(ok:(X.wish E).Ok):X.Ok:=
 ⟨ok.mod,ok.kind,ok.glob,ok.blt,ok.above,ok.inj,ok.has,ok.cab,ok.hd,ok.frames,ok.stk,ok.exf,ok.bs,ok.bsz,ok.noex,ok.exfs,ok.funs,ok.frf⟩
section
variable{X:Cx}{pins:List (Addr×Obj)}{σ:St}{H:Hp}{s:Shared}{E:Value->Shared->Prop}
theorem Inv.wish(I:Inv X pins σ H s)(E:Value->Shared->Prop):Inv (X.wish E) pins σ H s:=⟨I.ok.wish E,I.os,I.bare,I.base,I.loc,I.cell,I.free,I.freeC,I.pin,I.hok,I.len⟩
theorem Inv.unwish(I:Inv (X.wish E) pins σ H s):Inv X pins σ H s:=⟨I.ok.unwish,I.os,I.bare,I.base,I.loc,I.cell,I.free,I.freeC,I.pin,I.hok,I.len⟩
theorem SP.unwish{D:Ends}{f:Flow}{s':Shared}(h:SP (X.wish E) pins D f s'):SP X pins D f s':=by
 cases f with
 |next=>obtain⟨σ',H',I,q⟩:=h;exact⟨σ',H',I.unwish,q⟩
 |brk=>obtain⟨σ',H',I,q⟩:=h;exact⟨σ',H',I.unwish,q⟩
 |cont=>obtain⟨σ',H',I,q⟩:=h;exact⟨σ',H',I.unwish,q⟩
 |ret u=>obtain⟨v,σ',H',I,r,q⟩:=h;exact⟨v,σ',H',I.unwish,r,q⟩
theorem PSs.nox{st:List Stmt}{t:TS}(h:PSs X.nox st t):PSs X st t:=fun pins s σ H D I hw=>
 wpAny_mono (h pins s σ H D (I.wish _) hw) (fun _ _ q=>q.unwish) fun _ _ z=>False.elim z
end
section
variable{X:Cx}{st:Stmt}{rest:List Stmt}{t u:TS}{e:Expr}{te:TE}{pos:Pos}
noncomputable def ze6:TS:=fun D σ H=>D.nx σ H
noncomputable def tSeq(t u:TS):TS:=fun D σ H=>t {D with nx:=u D} σ H
theorem za0:PSs X [] ze6:=fun _ _ σ H _ I h=>wpAny_execs_nil ⟨σ,H,I,h⟩
theorem z8F(h1:PS X st t)(h2:PSs X rest u):PSs X (st::rest) (tSeq t u):=by
 intro pins s σ H D I h
 refine wpAny_execs_cons (thn (h1 pins s σ H {D with nx:=u D} I h) fun f s1 q=> ?_)
 cases f with
 |next=>
  obtain⟨σ',H',I',q⟩:=q
  exact h2 pins s1 σ' H' D I' q
 |ret v=>exact q
 |brk=>exact q
 |cont=>exact q
theorem za1(h1:PS X st t):PSs X [st] t:=by
 intro pins s σ H D I h
 refine wpAny_execs_cons (thn (h1 pins s σ H D I h) fun f s1 q=> ?_)
 cases f with
 |next=>exact wpAny_execs_nil q
 |ret v=>exact q
 |brk=>exact q
 |cont=>exact q
theorem Inv.quiet{pins:List (Addr×Obj)}{σ:St}{H:Hp}{s:Shared}(I:Inv X pins σ H s):interactive X.env=false:=by simp[interactive,I.ok.kind]
noncomputable def ze7(te:TE):TS:=fun D σ H=>te σ H fun _ H1=>D.nx σ H1
theorem za2(he:PE X e te)(hs:swapsWith e none pos.line X.env=pure false:=by rfl):PS X (.Expr e pos) (ze7 te):=by
 intro pins s σ H D I h
 exact wpAny_Expr_any (thn (he pins s σ H _ I h) fun v s1 ⟨x,H1,I1,r1,q1⟩=>⟨σ,H1,I1,q1⟩) I.quiet hs
noncomputable def tRet(te:TE):TS:=fun D σ H=>te σ H D.rt
theorem zbP(he:PE X e te):PS X (.Return (some e) pos) (tRet te):=by
 intro pins s σ H D I h
 exact wpAny_Return_some (thn (he pins s σ H _ I h) fun v s1 ⟨x,H1,I1,r1,q1⟩=>⟨x,σ,H1,I1,r1,q1⟩)
noncomputable def tIfS(c:TT)(t u:TS):TS:=fun D σ H=>c σ H fun b H1=>if b=true then t D σ H1 else u D σ H1
theorem ze8{c:Expr}{a b:List Stmt}{tc:TT}(hc:PT X c tc)(ha:PSs X a t)(hb:PSs X b u):PS X (.If c a b pos) (tIfS tc t u):=by
 intro pins s σ H D I h
 refine wpAny_If (thn (hc pins s σ H _ I h) fun d s1 ⟨H1,I1,q1⟩=> ?_)
 cases d with
 |true=>exact ha pins s1 σ H1 D I1 q1
 |false=>exact hb pins s1 σ H1 D I1 q1
end
noncomputable abbrev TG:=V->St->Hp->(St->Hp->Prop)->Prop
noncomputable abbrev TGs:=List V->St->Hp->(St->Hp->Prop)->Prop
noncomputable def PG(X:Cx)(target:Expr)(t:TG):Prop:=
 ∀(pins:List (Addr×Obj)) (s:Shared) (σ:St) (H:Hp) (v:V) (u:Value) (Q:St->Hp->Prop),Inv X pins σ H s->RelV v u->t v σ H Q->
  wpAny (model X.prog X.w) X.A (assign target X.env u) (fun _ s'=> ∃σ' H',Inv X pins σ' H' s'/\Q σ' H') X.xe s
noncomputable def PGs(X:Cx)(ts:List Expr)(t:TGs):Prop:=
 ∀(pins:List (Addr×Obj)) (s:Shared) (σ:St) (H:Hp) (vs:List V) (us:List Value) (Q:St->Hp->Prop),Inv X pins σ H s->Vals vs us->t vs σ H Q->
  wpAny (model X.prog X.w) X.A (assignInOrder ((assignEach ts X.env).map (·.2)) us) (fun _ s'=> ∃σ' H',Inv X pins σ' H' s'/\Q σ' H') X.xe s
noncomputable abbrev TSet:=V->V->V->Hp->(Hp->Prop)->Prop
noncomputable def PSet(X:Cx)(t:TSet):Prop:=
 ∀(pins:List (Addr×Obj)) (s:Shared) (σ:St) (H:Hp) (o i v:V) (ov iv u:Value) (Q:Hp->Prop),Inv X pins σ H s->RelV o ov->RelV i iv->RelV v u->t o i v H Q->
  wpAny (model X.prog X.w) X.A (setItem ov iv u) (fun _ s'=> ∃H',Inv X pins σ H' s'/\Q H') X.xe s
section
variable{X:Cx}{pos:Pos}
noncomputable def z65(i:Nat):TG:=fun v σ H Q=>Q (σ.set i (some v)) H
theorem z1g{i:Nat}{x:Str}(hN:X.N.Nodup)(hi:X.N[i]? =some x)(hx:Loc X.env.scope x)(hf:X.fn x=true\/X.env.scope.names.lookup x=some .local:=by first|exact .inl rfl|exact .inr rfl|assumption):PG X (.Name x pos) (z65 i):=by
 intro pins s σ H v u Q I r h
 exact wpAny_assign_Name (z3L I hN hi hx r (fun s' I'=>⟨_,H,I',h⟩) hf)
noncomputable def gNil:TGs:=fun vs σ H Q=>vs=[]/\Q σ H
noncomputable def ze9(t:TG)(u:TGs):TGs:=fun vs σ H Q=> ∃v r,vs=v::r/\t v σ H fun σ' H'=>u r σ' H' Q
theorem za3:PGs X [] gNil:=by
 intro pins s σ H vs us Q I r h
 obtain⟨e,h⟩:=h
 subst e
 cases r
 exact assignInOrder_nil ⟨σ,H,I,h⟩
theorem z8G{e:Expr}{es:List Expr}{t:TG}{u:TGs}(h1:PG X e t)(h2:PGs X es u)
 (hs:(assignEach (e::es) X.env).map (·.2)=assign e X.env::(assignEach es X.env).map (·.2):=by rfl):PGs X (e::es) (ze9 t u):=by
 intro pins s σ H vs us Q I r h
 obtain⟨v,vr,e1,h⟩:=h
 subst e1
 cases r with
 |cons r rr=>
  rw[hs]
  refine assignInOrder_cons (thn (h1 pins s σ H _ _ _ I r h) fun _ s1 ⟨σ1,H1,I1,q1⟩=> ?_)
  exact h2 pins s1 σ1 H1 _ _ Q I1 rr q1
noncomputable def gTup(K:W.Frag)(n:Nat)(t:TGs):TG:=fun v σ H Q=> ∃a xs,v= .ref a/\SqT K H a xs/\xs.length=n/\t xs σ H Q
theorem zbQ{es:List Expr}{k:Nat}{t:TGs}{n:Nat}(hc:X.calm=true)(h:PGs X es t)
 (hn:(assignEach es X.env).length=n:=by rfl) (hst:(assignEach es X.env).findIdx? (·.1)=none:=by rfl):PG X (.Tuple es k pos) (gTup X.K n t):=by
 intro pins s σ H v u Q I r hw
 obtain⟨a,xs,e1,hq,hl,hw⟩:=hw
 subst e1
 cases r
 obtain⟨its,rv,ht,hz⟩:=I.tuple hq
 refine assign_Tuple_tuple (I.ok.hd hc) ht (by simp[hn,<-hl,rv.length]) hst fun h' hx=> ?_
 have I1:Inv X pins σ H {s with heap:=h'}:=I.kept (t':=s.toks) fun b o e=>hx b o (Nat.ne_of_lt (Heap.lt_size e)) e
 exact h pins _ σ H xs _ Q I1 (by simpa using rv) hw
noncomputable def gSub(to ti:TE)(t:TSet):TG:=fun v σ H Q=>to σ H fun o H1=>ti σ H1 fun i H2=>t o i v H2 fun H3=>Q σ H3
theorem z6N{o i:Expr}{to ti:TE}{t:TSet}(ho:PE X o to)(hi:PE X i ti)(hs:PSet X t)
 (ha: ∀v,assign (.Subscript o i pos) X.env v=(do
  let ov<-holding [v] (eval o X.env)
  let iv<-holding [v,ov] (eval i X.env)
  standAt pos
  holding [v,ov,iv] (setItem ov iv v)
  release [v,ov,iv] []):=by intro _;rfl):PG X (.Subscript o i pos) (gSub to ti t):=by
 intro pins s σ H v u Q I r h
 rw[ha]
 refine wpAny_bind (wpAny_holding (thn (ho pins s σ H _ I h) fun ov s1 ⟨x,H1,I1,r1,q1⟩=> ?_))
 refine wpAny_bind (wpAny_holding (thn (hi pins s1 σ H1 _ I1 q1) fun iv s2 ⟨y,H2,I2,r2,q2⟩=> ?_))
 refine wpAny_bind (wpAny_standAt (wpAny_bind (wpAny_holding (thn (hs pins s2 σ H2 x y v ov iv u _ I2 r1 r2 r q2) fun _ s3 ⟨H3,I3,q3⟩=> ?_))))
 exact wpAny_release ⟨σ,H3,I3,q3⟩
noncomputable def tAsg(te:TE)(g:TG):TS:=fun D σ H=>te σ H fun x H1=>g x σ H1 D.nx
theorem z9G{tg e:Expr}{te:TE}{g:TG}(he:PE X e te)(hg:PG X tg g)(hs:swapsWithSole [tg] e pos.line X.env=pure false:=by rfl)(hw:swappedStores [tg] e X.env=pure none:=by rfl)
 (h1:(assignEach [tg] X.env).map (·.2)=[assign tg X.env]:=by rfl):PS X (.Assign [tg] e pos) (tAsg te g):=by
 intro pins s σ H D I h
 refine wpAny_Assign_stores (thn (he pins s σ H _ I h) fun v s1 ⟨x,H1,I1,r1,q1⟩=> ?_) hs hw
 rw[h1]
 exact thn (hg pins s1 σ H1 x v _ I1 r1 q1) fun _ s2 q=>q
theorem z3v{i:Nat}{x:Str}{e:Expr}{te:TE}{pos':Pos}(hN:X.N.Nodup)(hi:X.N[i]? =some x)(hx:Loc X.env.scope x)(he:PE X e te)(hs:swapsWith e (some (.Name x pos')) pos.line X.env=pure false:=by rfl)(hf:X.fn x=true\/X.env.scope.names.lookup x=some .local:=by first|exact .inl rfl|exact .inr rfl|assumption):
 PS X (.Assign [.Name x pos'] e pos) (tAsg te (z65 i)):=by
 intro pins s σ H D I h
 refine wpAny_Assign_Name (thn (he pins s σ H _ I h) fun v s1 ⟨y,H1,I1,r1,q1⟩=> ?_) hs
 exact z3L I1 hN hi hx r1 (fun s2 I2=>⟨_,H1,I2,q1⟩) hf
end
structure It where
 go:Nat->Hp->Prop
 yld:Nat->Hp->V->Hp->Prop
 stop:Nat->Hp->Prop
noncomputable def FpOk(X:Cx)(pins:List (Addr×Obj))(H:Hp)(b:Addr):Prop:=
 H b=none/\b≠X.env.locals/\b∉X.fs/\(b∈X.ex\/X.s₀.heap.objs.size<=b)/\(∀x c,X.env.cells.lookup x=some c->c≠b)/\∀p∈X.pn++pins,p.1≠b
theorem Inv.fpOk{X:Cx}{pins:List (Addr×Obj)}{σ:St}{H H':Hp}{s:Shared}{b:Addr}(I:Inv X pins σ H s)(hb:s.heap.objs.size<=b)(hn:H' b=none):FpOk X pins H' b:=by
 refine⟨hn,Nat.ne_of_gt (Nat.lt_of_lt_of_le I.lt hb),I.nofs hb, .inr (Nat.le_trans I.sz hb),fun x c e z=> ?_,fun p hp z=> ?_⟩
 ·obtain⟨v,q⟩:=I.cell x c e
  exact absurd (Nat.lt_of_lt_of_le q.lt (by rw[z];exact hb)) (Nat.lt_irrefl _)
 ·exact absurd (Nat.lt_of_lt_of_le (Heap.lt_size (I.pin p hp).1) (by rw[z];exact hb)) (Nat.lt_irrefl _)
structure Turn(P:Program)(w:World)(K:W.Frag)(tg:Expr)(J:It)(fp:List Addr)(it:Addr)(tn:Nat->Heap->Prop):Prop where
 mem:it∈fp
 obj: ∀i h,tn i h->∀b∈fp,∃o,h.get? b=some o/\∀v,o.data≠ .cell v
 keep: ∀i h h',tn i h->(∀b∈fp,∀o,h.get? b=some o->h'.get? b=some o)->tn i h'
 item: ∀(X:Cx),X.prog=P->X.w=w->X.K=K->X.calm=true->∀(i:Nat) (pins:List (Addr×Obj)) (s:Shared) (σ:St) (H:Hp) (E:Value->Shared->Prop),Inv X pins σ H s->(∀b∈fp,FpOk X pins H b)->tn i s.heap->J.go i H->
  wpAny (model P w) X.A (pyNext (.ref it)) (fun r s1=> ∃u,r=some u/\
   wpAny (model P w) X.A (letOwnedTupleGo tg (.ref it) u) (fun _ s2=> ∃x H',Inv X pins σ H' s2/\RelV x u/\J.yld i H x H'/\tn (i+1) s2.heap/\∀b∈fp,H' b=none) E s1) E s
 done: ∀(X:Cx),X.prog=P->X.w=w->X.K=K->X.calm=true->∀(i:Nat) (pins:List (Addr×Obj)) (s:Shared) (σ:St) (H:Hp) (E:Value->Shared->Prop),Inv X pins σ H s->(∀b∈fp,FpOk X pins H b)->tn i s.heap->J.stop i H->
  wpAny (model P w) X.A (pyNext (.ref it)) (fun r s1=>r=none/\Inv X pins σ H s1) E s
 self: ∀(A:Around) (i:Nat) (s:Shared) (Q:Value->Shared->Prop) (E:Value->Shared->Prop),tn i s.heap->Q (.ref it) s->wpAny (model P w) A (pyIter (.ref it)) Q E s
noncomputable abbrev TI:=St->Hp->(It->Hp->Prop)->Prop
noncomputable def PIE(X:Cx)(pins:List (Addr×Obj))(σ:St)(tg:Expr)(R:It->Hp->Prop)(itv:Value)(s2:Shared):Prop:=
 ∃(it:Addr) (fp:List Addr) (tn:Nat->Heap->Prop) (J:It) (H':Hp),itv= .ref it/\Inv X pins σ H' s2/\Turn X.prog X.w X.K tg J fp it tn/\tn 0 s2.heap/\(∀b∈fp,FpOk X pins H' b)/\R J H'
noncomputable def PI(X:Cx)(tg iter:Expr)(wi:TI):Prop:=
 ∀(pins:List (Addr×Obj)) (s:Shared) (σ:St) (H:Hp) (R:It->Hp->Prop),Inv X pins σ H s->wi σ H R->
  wpAny (model X.prog X.w) X.A (eval iter X.env) (fun v s1=>wpAny (model X.prog X.w) X.A (pyIter v) (PIE X pins σ tg R) X.xe s1) X.xe s
theorem z8H{M:Model}{A:Around}{E:Value->Shared->Prop}{s:Shared}{tg:Expr}{it:Addr}{u:Value}{o:Obj}{n:String}{vs:Array Value}{Q:Unit->Shared->Prop}(ho:s.heap.get? it=some o)(hc:o.cls= .type n)(hd:o.data= .fields vs)
 (hn:["enumerate", "zip", "dict_itemiterator", "dict_reverseitemiterator", "odict_iterator", "itertools.zip_longest", "itertools.pairwise"].contains n=false) (hQ:Q () s):wpAny M A (letOwnedTupleGo tg (.ref it) u) Q E s:=by
 unfold letOwnedTupleGo
 cases tg<;>first
  |exact wpAny_pure hQ
  |(cases u<;>first
   |exact wpAny_pure hQ
   |(refine wpAny_bind (wpAny_load ho ?_)
     rw[hc,hd]
     show wpAny M A (if(["enumerate", "zip", "dict_itemiterator", "dict_reverseitemiterator", "odict_iterator", "itertools.zip_longest", "itertools.pairwise"].contains n&&vs[0]? ==some (rawInt _))=true then _ else _) Q E s
     rw[if_neg (by intro h;rw[hn,Bool.false_and] at h;cases h)]
     exact wpAny_pure hQ))
noncomputable def Itl(K:W.Frag)(a:Addr):It:=
 ⟨fun i H=> ∃xs x,SqL K H a xs/\xs[i]? =some x,fun i H x H'=>H'=H/\∀xs,SqL K H a xs->xs[i]? =some x,fun i H=> ∃xs,SqL K H a xs/\xs.length<=i⟩
noncomputable def Itt(K:W.Frag)(a:Addr):It:=
 ⟨fun i H=> ∃xs x,SqT K H a xs/\xs[i]? =some x,fun i H x H'=>H'=H/\∀xs,SqT K H a xs->xs[i]? =some x,fun i H=> ∃xs,SqT K H a xs/\xs.length<=i⟩
noncomputable def Itr(lo:Int)(n:Nat):It:=⟨fun i _=>i<n,fun i H x H'=>H'=H/\x= .int (lo+i),fun i _=>n<=i⟩
theorem z6O{P:Program}{w:World}{K:W.Frag}{tg:Expr}(a it:Addr):Turn P w K tg (Itl K a) [it] it (fun i h=>h.IsListIter it a i) where
 mem:=by simp
 obj:=fun i h st b hb=>by
  have e:b=it:=by simpa using hb
  subst e
  obtain⟨o,e,c,d⟩:=st
  exact⟨o,e,fun v z=>by rw[d] at z;cases z⟩
 keep:=fun i h h' st k=>st.at fun o e=>k it (by simp) o e
 item:=by
  intro X hP hw hK hc i pins s σ H E I hf st hg
  subst hP hw hK
  obtain⟨xs,x,hq,hx⟩:=hg
  obtain⟨its,rv,p,hz⟩:=I.list hq
  obtain⟨u,hu,ru⟩:=rv.get hx
  obtain⟨f0,f1,f2,f3,f4,f5⟩:=hf it (by simp)
  refine wpAny_pyNext_list_item st p.isList (x:=u) (by simpa using hu) fun h' st' sb=> ?_
  have I1:Inv X pins σ H {s with heap:=h'}:=I.turned (t':=s.toks) (fun b o hb e=>(sb.2 b hb).trans e) f0 f1 f3 f4 f5
  obtain⟨o,e,c,d⟩:=id st'
  exact⟨u,rfl,z8H (s:={s with heap:=h'}) e c d (by decide) ⟨x,H,I1,ru,⟨rfl,fun ys hy=>by rw[I.list_inj hy hq];exact hx⟩,st',fun b hb=>(hf b hb).1⟩⟩
 done:=by
  intro X hP hw hK hc i pins s σ H E I hf st hg
  subst hP hw hK
  obtain⟨xs,hq,hx⟩:=hg
  obtain⟨its,rv,p,hz⟩:=I.list hq
  obtain⟨f0,f1,f2,f3,f4,f5⟩:=hf it (by simp)
  have hl:=rv.length
  exact wpAny_pyNext_list_end (I.ok.hd hc) st p.isList (by simp;lia) fun h' eb=>⟨rfl,I.turned (t':=s.toks) (fun b o hb e=>eb b o hb e) f0 f1 f3 f4 f5⟩
 self:=fun _ _ _ _ _ st h=>wpAny_pyIter_listiter st h
theorem z66{P:Program}{w:World}{K:W.Frag}{tg:Expr}(a it:Addr):Turn P w K tg (Itt K a) [it] it (fun i h=>h.IsTupleIter it a i) where
 mem:=by simp
 obj:=fun i h st b hb=>by
  have e:b=it:=by simpa using hb
  subst e
  obtain⟨o,e,c,d⟩:=st
  exact⟨o,e,fun v z=>by rw[d] at z;cases z⟩
 keep:=fun i h h' st k=>st.at fun o e=>k it (by simp) o e
 item:=by
  intro X hP hw hK hc i pins s σ H E I hf st hg
  subst hP hw hK
  obtain⟨xs,x,hq,hx⟩:=hg
  obtain⟨its,rv,p,hz⟩:=I.tuple hq
  obtain⟨u,hu,ru⟩:=rv.get hx
  obtain⟨f0,f1,f2,f3,f4,f5⟩:=hf it (by simp)
  refine wpAny_pyNext_tuple_item st (show s.heap.IsTuple a its.toArray from p) (x:=u) (by simpa using hu) fun h' st' sb=> ?_
  have I1:Inv X pins σ H {s with heap:=h'}:=I.turned (t':=s.toks) (fun b o hb e=>(sb.2 b hb).trans e) f0 f1 f3 f4 f5
  obtain⟨o,e,c,d⟩:=id st'
  exact⟨u,rfl,z8H (s:={s with heap:=h'}) e c d (by decide) ⟨x,H,I1,ru,⟨rfl,fun ys hy=>by rw[I.tuple_inj hy hq];exact hx⟩,st',fun b hb=>(hf b hb).1⟩⟩
 done:=by
  intro X hP hw hK hc i pins s σ H E I hf st hg
  subst hP hw hK
  obtain⟨xs,hq,hx⟩:=hg
  obtain⟨its,rv,p,hz⟩:=I.tuple hq
  obtain⟨f0,f1,f2,f3,f4,f5⟩:=hf it (by simp)
  have hl:=rv.length
  exact wpAny_pyNext_tuple_end (I.ok.hd hc) st (show s.heap.IsTuple a its.toArray from p) (by simp;lia) fun h' eb=>⟨rfl,I.turned (t':=s.toks) (fun b o hb e=>eb b o hb e) f0 f1 f3 f4 f5⟩
 self:=fun _ _ _ _ _ st h=>wpAny_pyIter_tupleiter st h
theorem z67{P:Program}{w:World}{K:W.Frag}{tg:Expr}(it:Addr)(lo:Int)(n:Nat):Turn P w K tg (Itr lo n) [it] it (fun i h=>IsRangeIter h it (lo+(i:Nat)*1) ((n:Int) -(i:Nat)) 1) where
 mem:=by simp
 obj:=fun i h st b hb=>by
  have e:b=it:=by simpa using hb
  subst e
  exact⟨_,st,fun v z=>by
   have z':Data.fields _=Data.cell v:=z
   cases z'⟩
 keep:=fun i h h' st k=>k it (by simp) _ st
 item:=by
  intro X hP hw hK hc i pins s σ H E I hf st hg
  subst hP hw hK
  obtain⟨f0,f1,f2,f3,f4,f5⟩:=hf it (by simp)
  have W:=Walks.range (prog:=X.prog) (w:=X.w) (I.ok.hd hc) it lo 1 n
  refine W.item i s _ _ hg st fun v h' tk hv st' kk=> ?_
  obtain⟨t,rfl⟩:=hv
  have I1:Inv X pins σ H {s with heap:=h',toks:=tk}:=I.turned (fun b o hb e=>kk b o (by simpa using hb) e) f0 f1 f3 f4 f5
  refine⟨_,rfl,z8H (s:={s with heap:=h',toks:=tk}) (n:= "range_iterator") st' rfl rfl (by decide) ⟨.int (lo+i),H,I1,⟨t, ?_⟩,⟨rfl,rfl⟩,st',fun b hb=>(hf b hb).1⟩⟩
  rw[Int.mul_one]
 done:=by
  intro X hP hw hK hc i pins s σ H E I hf st hg
  subst hP hw hK
  obtain⟨f0,f1,f2,f3,f4,f5⟩:=hf it (by simp)
  exact wpAny_pyNext_range_end (I.ok.hd hc) st (by have:n<=i:=hg;lia) fun h' eb=>⟨rfl,I.turned (t':=s.toks) (fun b o hb e=>eb b o hb e) f0 f1 f3 f4 f5⟩
 self:=fun _ _ _ _ _ st h=>wpAny_pyIter_rangeiter st h
section
variable{X:Cx}{tg:Expr}
theorem z8I{pins:List (Addr×Obj)}{σ:St}{H:Hp}{s:Shared}{R:It->Hp->Prop}{E:Value->Shared->Prop}{lo hi:Int}{t u v:Tok}{tk:Nat}(I:Inv X pins σ H s)(h1: -(2^62)<=lo)(h2:lo<2^62)(h3: -(2^62)<=hi)(h4:hi<2^62)
 (q:R (Itr lo (hi -lo).toNat) H):wpAny (model X.prog X.w) X.A (pyIter (.ref s.heap.objs.size)) (PIE X pins σ tg R) E {s with heap:=s.heap.push {cls:= .type "range",data:= .fields #[.int lo t, .int hi u, .int 1 v]},toks:=tk}:=by
 refine wpAny_pyIter_range (IsRange.new ..) (small_one h1 h2 h3 h4) ?_
 have I1:Inv X pins σ H {s with heap:=s.heap.push {cls:= .type "range",data:= .fields #[.int lo t, .int hi u, .int 1 v]},toks:=tk}:=I.kept fun b o e=>Heap.get?_push_of_some _ e
 refine⟨(s.heap.push {cls:= .type "range",data:= .fields #[.int lo t, .int hi u, .int 1 v]}).objs.size,[(s.heap.push {cls:= .type "range",data:= .fields #[.int lo t, .int hi u, .int 1 v]}).objs.size],_,_,H,rfl,
  I1.kept (t':=tk) fun b o e=>Heap.get?_push_of_some _ e,z67 _ lo (hi -lo).toNat, ?_,fun b hb=> ?_,q⟩
 ·have e1:lo+((0:Nat):Int)*1=lo:=by simp
  have e2:(((hi -lo).toNat:Nat):Int) -((0:Nat):Int)=Builtin.Range.rangeSize lo hi 1:=by rw[rangeSize_one];split<;>lia
  show IsRangeIter _ _ (lo+((0:Nat):Int)*1) ((((hi -lo).toNat:Nat):Int) -((0:Nat):Int)) 1
  rw[e1,e2]
  exact Heap.get?_push_size _ rfl
 ·have e:b=(s.heap.push {cls:= .type "range",data:= .fields #[.int lo t, .int hi u, .int 1 v]}).objs.size:=by simpa using hb
  subst e
  exact I1.fpOk (Nat.le_refl _) (I1.hok.fresh (Nat.le_refl _))
noncomputable def zea(ta:TA):TI:=fun σ H R=>ta σ H fun vs H1=> ∃j:Int,vs=[.int j]/\-(2^62)<=j/\j<2^62/\R (Itr 0 j.toNat) H1
theorem z6P{a:Expr}{ta:TA}{p pos:Pos}(hg:Gl X "range")(hm:X.mg "range" =none)(ha:PA X [a] ta)(hs:starEach [a] X.env=[(false,eval a X.env)]:=by rfl):PI X tg (.Call (.Name "range" p) [a] [] pos) (zea ta):=by
 intro pins s σ H R I h
 refine Call_ (z4k I hg hm boot_range (PyProof.Rows.callWith_type1 (thn (ha pos pins s σ H _ I h) fun us s1 ⟨vs,H1,I1,r1,q1⟩=> ?_) hs rfl))
 obtain⟨j,e,q1,q2,q⟩:=q1
 subst e
 cases r1 with
 |cons r rr=>
  cases rr
  obtain⟨t,rfl⟩:=r
  exact call_range_1 (z8I I1 (by lia) (by lia) q1 q2 (by simpa using q))
noncomputable def tFor(wi:TI)(g:TG)(tb:TS):TS:=fun D σ H=>wi σ H fun J H1=> ∃W:Nat->Nat->St->Hp->Prop,(∃m,W 0 m σ H1)/\∀i m σ H,W i m σ H->
 (J.stop i H/\D.nx σ H)\/(J.go i H/\∃N:St->Hp->Prop,(∀σ' H',N σ' H'->∃m',m'<m/\W (i+1) m' σ' H')/\∀x H',J.yld i H x H'->g x σ H' fun σ2 H2=>tb {D with nx:=N,ct:=N,bk:=D.nx} σ2 H2)
noncomputable def z2u(fp:List Addr)(h:Heap):List (Addr×Obj):=fp.filterMap fun b=>(h.get? b).map fun o=>(b,o)
theorem z0g{fp:List Addr}{h:Heap}{b:Addr}{o:Obj}(hb:b∈fp)(e:h.get? b=some o):(b,o)∈z2u fp h:=List.mem_filterMap.mpr ⟨b,hb,by rw[e];rfl⟩
theorem z4l{fp:List Addr}{h:Heap}{p:Addr×Obj}(hp:p∈z2u fp h):p.1∈fp/\h.get? p.1=some p.2:=by
 obtain⟨b,hb,e⟩:=List.mem_filterMap.mp hp
 cases q:h.get? b with
 |none=>rw[q] at e;cases e
 |some o=>
  rw[q] at e
  have e':(b,o)=p:=Option.some.inj e
  subst e'
  exact⟨hb,q⟩
theorem Inv.pinned{pins:List (Addr×Obj)}{σ:St}{H:Hp}{s:Shared}{fp:List Addr}(I:Inv X pins σ H s)(hf: ∀b∈fp,FpOk X pins H b)(ho: ∀b∈fp,∃o,s.heap.get? b=some o/\∀v,o.data≠ .cell v):Inv X (pins++z2u fp s.heap) σ H s:=
 I.pins_of fun p hp=>(List.mem_append.mp hp).elim (fun z=>I.pin p (List.mem_append_right _ z)) fun z=>by
  obtain⟨hb,e⟩:=z4l z
  obtain⟨f0,f1,f2,_⟩:=hf p.1 hb
  obtain⟨o,e',d⟩:=ho p.1 hb
  rw[e] at e';cases e'
  exact⟨e,f0,f1,f2,d⟩
theorem Inv.unpinned{pins pl:List (Addr×Obj)}{σ:St}{H:Hp}{s:Shared}(I:Inv X (pins++pl) σ H s):Inv X pins σ H s:=I.pins_of fun p hp=>I.pin p (List.mem_append_right _ (List.mem_append_left _ hp))
theorem zbR{iter:Expr}{body:List Stmt}{wi:TI}{g:TG}{tb:TS}{pos:Pos}(hp:PassesOwn (model X.prog X.w) X.A X.env X.xe)(hc:X.calm=true)(hi:PI X tg iter wi)(hg:PG X tg g)(hb:PSs X body tb)
 (hs: ∀x,foldedSetIterable iter X.env x=pure x:=by intro _;rfl):PS X (.For tg iter body [] pos) (tFor wi g tb):=by
 intro pins s σ H D I h
 refine wpAny_For (thn (hi pins s σ H _ I h) fun v s1 h1=>thn h1 fun itv s2 h2=> ?_) hs
 obtain⟨it,fp,tn,J,H2,e,I2,T,st2,f2,W,⟨m0,w0⟩,turn⟩:=h2
 subst e
 have stat: ∀{H':Hp},(∀b∈fp,H' b=none)->∀b∈fp,FpOk X pins H' b:=fun hn b hb=>⟨hn b hb,(f2 b hb).2⟩
 refine codeAny_forLoop_any (fun n s'=> ∃i σ' H',Inv X pins σ' H' s'/\tn i s'.heap/\(∀b∈fp,H' b=none)/\W i n σ' H') ?_ m0 ⟨0,σ,H2,I2,st2,fun b hb=>(f2 b hb).1,w0⟩
 rintro n s3 ⟨i,σ3,H3,I3,st3,fr3,w3⟩
 rcases turn i n σ3 H3 w3 with⟨stop,qn⟩|⟨go,N,hN,step⟩
 ·refine wpAny_passesOwn hp (thn (T.done X rfl rfl rfl hc i pins s3 σ3 H3 X.xe I3 (stat fr3) st3 stop) fun r s4 ⟨hr,I4⟩=> ?_)
  subst hr
  exact wpAny_execs_nil ⟨σ3,H3,I4,qn⟩
 ·refine wpAny_passesOwn hp (thn (T.item X rfl rfl rfl hc i pins s3 σ3 H3 X.xe I3 (stat fr3) st3 go) fun r s4 ⟨u,hr,h4⟩=> ?_)
  subst hr
  refine wpAny_passesOwn hp (thn h4 fun _ s5 ⟨x,H5,I5,r5,y5,st5,fr5⟩=> ?_)
  have I5':=I5.pinned (stat fr5) (T.obj _ _ st5)
  refine wpAny_passesOwn hp (thn (hg _ s5 σ3 H5 x u _ I5' r5 (step x H5 y5)) fun _ s6 ⟨σ6,H6,I6,q6⟩=> ?_)
  refine wpAny_passesOwn hp (thn (hb _ s6 σ6 H6 _ I6 q6) fun f s7 q7=> ?_)
  have again: ∀{σ7:St} {H7:Hp},Inv X (pins++z2u fp s5.heap) σ7 H7 s7->N σ7 H7->∃m,m<n/\∃i σ' H',Inv X pins σ' H' s7/\tn i s7.heap/\(∀b∈fp,H' b=none)/\W i m σ' H':=fun{σ7 H7} I7 n7=>by
   obtain⟨m',hm,w7⟩:=hN σ7 H7 n7
   refine⟨m',hm,i+1,σ7,H7,I7.unpinned,T.keep _ _ _ st5 fun b hb o e=>(I7.pin (b,o) (List.mem_append_right _ (List.mem_append_right _ (z0g hb e)))).1,fun b hb=> ?_,w7⟩
   obtain⟨o,e,d⟩:=T.obj _ _ st5 b hb
   exact(I7.pin (b,o) (List.mem_append_right _ (List.mem_append_right _ (z0g hb e)))).2.1
  cases f with
  |next=>obtain⟨σ7,H7,I7,n7⟩:=q7;exact again I7 n7
  |cont=>obtain⟨σ7,H7,I7,n7⟩:=q7;exact again I7 n7
  |brk=>obtain⟨σ7,H7,I7,q7⟩:=q7;exact⟨σ7,H7,I7.unpinned,q7⟩
  |ret v=>obtain⟨x7,σ7,H7,I7,r7,q7⟩:=q7;exact⟨x7,σ7,H7,I7.unpinned,r7,q7⟩
end
noncomputable abbrev R2:=V->V->Hp->VK->Prop
noncomputable def OpR(X:Cx)(f:Value->Value->Sem Value)(r:R2):Prop:=
 ∀(pins:List (Addr×Obj)) (s:Shared) (σ:St) (H:Hp) (x y:V) (v u:Value) (Q:VK),Inv X pins σ H s->RelV x v->RelV y u->r x y H Q->
  wpAny (model X.prog X.w) X.A (f v u) (EP X pins σ Q) X.xe s
noncomputable def UnR(X:Cx)(f:Value->Sem Value)(r:V->Hp->VK->Prop):Prop:=
 ∀(pins:List (Addr×Obj)) (s:Shared) (σ:St) (H:Hp) (x:V) (v:Value) (Q:VK),Inv X pins σ H s->RelV x v->r x H Q->
  wpAny (model X.prog X.w) X.A (f v) (EP X pins σ Q) X.xe s
noncomputable def CallR(X:Cx)(f:Value)(r:List V->Hp->VK->Prop):Prop:=
 ∀(pins:List (Addr×Obj)) (s:Shared) (σ:St) (H:Hp) (xs:List V) (us:List Value) (Q:VK),Inv X pins σ H s->Vals xs us->r xs H Q->
  wpAny (model X.prog X.w) X.A (call f us) (EP X pins σ Q) X.xe s
noncomputable def TruR(X:Cx)(r:V->Hp->(Bool->Hp->Prop)->Prop):Prop:=
 ∀(pins:List (Addr×Obj)) (s:Shared) (σ:St) (H:Hp) (x:V) (v:Value) (Q:Bool->Hp->Prop),Inv X pins σ H s->RelV x v->r x H Q->
  wpAny (model X.prog X.w) X.A (truthy v) (TP X pins σ Q) X.xe s
noncomputable def tOp(r:R2)(ta tb:TE):TE:=fun σ H Q=>ta σ H fun x H1=>tb σ H1 fun y H2=>r x y H2 Q
noncomputable def tUn(r:V->Hp->VK->Prop)(ta:TE):TE:=fun σ H Q=>ta σ H fun x H1=>r x H1 Q
noncomputable def rI(C:Int->Int->Prop)(g:Int->Int->V):R2:=fun x y H Q=> ∃i j,x= .int i/\y= .int j/\C i j/\Q (g i j) H
noncomputable def rI0(g:Int->Int->V):R2:=fun x y H Q=> ∃i j,x= .int i/\y= .int j/\Q (g i j) H
noncomputable def rU(g:Int->V):V->Hp->VK->Prop:=fun x H Q=> ∃i,x= .int i/\Q (g i) H
section
variable{X:Cx}{a b c:Expr}{ta tb tc:TE}{pos:Pos}
theorem binT(ha:PE X a ta)(hb:PE X b tb){pins:List (Addr×Obj)}{s:Shared}{σ:St}{H:Hp}{R:V->V->Hp->Prop}(I:Inv X pins σ H s)
 (h:ta σ H fun x H1=>tb σ H1 fun y H2=>R x y H2) {Q:Value->Shared->Prop} {f:Value->Value->Sem Value}
 (hf: ∀v u s2 x y H2,Inv X pins σ H2 s2->RelV x v->RelV y u->R x y H2->wpAny (model X.prog X.w) X.A (f v u) Q X.xe s2):
 wpAny (model X.prog X.w) X.A (eval a X.env) (fun v s₁=>wpAny (model X.prog X.w) X.A (eval b X.env) (fun u s₂=>wpAny (model X.prog X.w) X.A (f v u) Q X.xe s₂) X.xe s₁) X.xe s:=by
 refine thn (ha pins s σ H _ I h) fun v s1 ⟨x,H1,I1,r1,q1⟩=> ?_
 refine thn (hb pins s1 σ H1 _ I1 q1) fun u s2 ⟨y,H2,I2,r2,q2⟩=> ?_
 exact hf v u s2 x y H2 I2 r1 r2 q2
theorem zeb{op:Operator}{r:R2}(ho:OpR X (binaryOp op) r)(ha:PE X a ta)(hb:PE X b tb):PE X (.BinOp a op b pos) (tOp r ta tb):=by
 intro pins s σ H Q I h
 exact wpAny_BinOp (binT ha hb I h fun v u s2 x y H2 I2 rx ry q=>ho pins s2 σ H2 x y v u Q I2 rx ry q)
theorem zbS{op:UnaryOp}{r:V->Hp->VK->Prop}(ho:UnR X (unaryOp op) r)(ha:PE X a ta):PE X (.UnaryOp op a pos) (tUn r ta):=by
 intro pins s σ H Q I h
 exact UnaryOp_ (thn (ha pins s σ H _ I h) fun v s1 ⟨x,H1,I1,r1,q1⟩=>ho pins s1 σ H1 x v Q I1 r1 q1)
theorem opI{f:Value->Value->Sem Value}{C:Int->Int->Prop}{g:Int->Int->Int}
 (rule: ∀(i j:Int) (t u:Tok) (s:Shared) (Q:Value->Shared->Prop) (E:Value->Shared->Prop),C i j->Q (.int (g i j) s.toks) {s with toks:=s.toks+1}->wpAny (model X.prog X.w) X.A (f (.int i t) (.int j u)) Q E s):
 OpR X f (rI C fun i j=> .int (g i j)):=by
 intro pins s σ H x y v u Q I rx ry h
 obtain⟨i,j,rfl,rfl,hc,q⟩:=h
 obtain⟨t,rfl⟩:=rx
 obtain⟨t',rfl⟩:=ry
 exact rule i j t t' s _ _ hc ⟨.int (g i j),H,I.tok _,⟨_,rfl⟩,q⟩
theorem opI0{f:Value->Value->Sem Value}{g:Int->Int->Int}
 (rule: ∀(i j:Int) (t u:Tok) (s:Shared) (Q:Value->Shared->Prop) (E:Value->Shared->Prop),Q (.int (g i j) s.toks) {s with toks:=s.toks+1}->wpAny (model X.prog X.w) X.A (f (.int i t) (.int j u)) Q E s):
 OpR X f (rI0 fun i j=> .int (g i j)):=by
 intro pins s σ H x y v u Q I rx ry h
 obtain⟨i,j,rfl,rfl,q⟩:=h
 obtain⟨t,rfl⟩:=rx
 obtain⟨t',rfl⟩:=ry
 exact rule i j t t' s _ _ ⟨.int (g i j),H,I.tok _,⟨_,rfl⟩,q⟩
theorem opB0{f:Value->Value->Sem Value}{g:Int->Int->Bool}
 (rule: ∀(i j:Int) (t u:Tok) (s:Shared) (Q:Value->Shared->Prop) (E:Value->Shared->Prop),Q (.bool (g i j)) s->wpAny (model X.prog X.w) X.A (f (.int i t) (.int j u)) Q E s):
 OpR X f (rI0 fun i j=> .bl (g i j)):=by
 intro pins s σ H x y v u Q I rx ry h
 obtain⟨i,j,rfl,rfl,q⟩:=h
 obtain⟨t,rfl⟩:=rx
 obtain⟨t',rfl⟩:=ry
 exact rule i j t t' s _ _ ⟨.bl (g i j),H,I,rfl,q⟩
noncomputable def CDiv(i j:Int):Prop:=0<j/\j<2^200
theorem zec{x j:Int}(h1:0<j)(h2:j<2^200):Builtin.divisionGoesByPylong x j=false:=by
 refine PyProof.noPylong_of_log2 ?_
 have h3:j.natAbs.log2<200:=(Nat.log2_lt (by lia)).mpr (by lia)
 lia
noncomputable def CPow(i j:Int):Prop:=0<=j/\j<=1000000/\i.natAbs<2^64
noncomputable def CMul(i j:Int):Prop:=(-(2^64)<i/\i<2^64)\/(-(2^64)<j/\j<2^64)
theorem CMul.ok{i j:Int}(h:CMul i j):IntMulOk i j:=by
 rcases h with⟨h1,h2⟩|⟨h1,h2⟩
 ·exact .of_left (intBits_le_64 h1 h2)
 ·exact .of_right (intBits_le_64 h1 h2)
theorem zbT:OpR X (binaryOp .Add) (rI0 fun i j=> .int (i+j)):=opI0 fun _ _ _ _ _ _ _ q=>add_int q
theorem zbU:OpR X (binaryOp .Sub) (rI0 fun i j=> .int (i -j)):=opI0 fun _ _ _ _ _ _ _ q=>sub_int q
theorem zbV:OpR X (binaryOp .Mult) (rI CMul fun i j=> .int (i*j)):=opI fun _ _ _ _ _ _ _ hc q=>mul_int q hc.ok
theorem za4:OpR X (binaryOp .FloorDiv) (rI CDiv fun i j=> .int (i/j)):=opI fun i j _ _ _ _ _ hc q=>by
 have h1:(0:Int)<j:=hc.1
 have h2:j<2^200:=hc.2
 exact floordiv_int (by lia) (by rw[Int.fdiv_eq_ediv_of_nonneg i (by lia)];exact q) (.inl (zec h1 h2))
theorem zbW:OpR X (binaryOp .Mod) (rI (fun _ j=>0<j) fun i j=> .int (i %j)):=opI fun i j _ _ _ _ _ hc q=>by
 have h1:(0:Int)<j:=hc
 exact mod_int' (by lia) (by rw[Int.fmod_eq_emod_of_nonneg i (by lia)];exact q)
theorem zbX:OpR X (binaryOp .Pow) (rI CPow fun i j=> .int (i^j.toNat)):=opI fun _ _ _ _ _ _ _ hc q=>pow_int_small hc.1 hc.2.1 hc.2.2 q
theorem unI{f:Value->Sem Value}{g:Int->Int}
 (rule: ∀(i:Int) (t:Tok) (s:Shared) (Q:Value->Shared->Prop) (E:Value->Shared->Prop),Q (.int (g i) s.toks) {s with toks:=s.toks+1}->wpAny (model X.prog X.w) X.A (f (.int i t)) Q E s):
 UnR X f (rU fun i=> .int (g i)):=by
 intro pins s σ H x v Q I rx h
 obtain⟨i,rfl,q⟩:=h
 obtain⟨t,rfl⟩:=rx
 exact rule i t s _ _ ⟨.int (g i),H,I.tok _,⟨_,rfl⟩,q⟩
theorem z9H:UnR X (unaryOp .USub) (rU fun i=> .int (-i)):=unI fun _ _ _ _ _ q=>neg_int q
end
noncomputable def scal:V->V->Bool
 | .non, .non=>true| .non, .int _=>true| .int _, .non=>true| .non, .bl _=>true| .bl _, .non=>true| .non, .str _=>true| .str _, .non=>true
 | .int _, .int _=>true| .bl _, .bl _=>true| .str _, .str _=>true| .byt _, .byt _=>true
 | .int _, .str _=>true| .str _, .int _=>true| .bl _, .str _=>true| .str _, .bl _=>true
 |_,_=>false
noncomputable def rNe:R2:=fun x y H Q=>scal x y=true/\Q (.bl (!decide (x=y))) H
theorem za5{i j:Int}:decide (V.int i=V.int j)=(i==j):=by
 rw[Bool.eq_iff_iff]
 simp
theorem zbY{i j:Bool}:decide (V.bl i=V.bl j)=(i==j):=by
 rw[Bool.eq_iff_iff]
 simp
theorem z6Q{i j:Str}:decide (V.str i=V.str j)=(i==j):=by
 rw[Bool.eq_iff_iff]
 simp
theorem za6{i j:Array UInt8}:decide (V.byt i=V.byt j)=(i.toList==j.toList):=by
 rw[Bool.eq_iff_iff]
 cases i
 cases j
 simp
section
variable{X:Cx}{a b c:Expr}{ta tb tc:TE}{pos:Pos}
theorem z0Z{pins:List (Addr×Obj)}{σ:St}{H:Hp}{s:Shared}{Q:VK}{k k':Bool}(I:Inv X pins σ H s)(q:Q (.bl k) H)(e:k=k'):EP X pins σ Q (.bool k') s:=by
 subst e
 exact⟨.bl k,H,I,rfl,q⟩
theorem zed:OpR X (compareOp .NotEq) rNe:=by
 intro pins s σ H x y v u Q I rx ry h
 obtain⟨hs,q⟩:=h
 cases x with
 |non=>
  cases rx
  cases y with
  |non=>cases ry;exact PySem.EqNone.ne_none_none (z0Z I q (by simp))
  |bl j=>cases ry;exact PySem.EqNone.ne_none_bool (z0Z I q (by simp))
  |int j=>obtain⟨t',rfl⟩:=ry;exact PySem.EqNone.ne_none_int (z0Z I q (by simp))
  |str j=>obtain⟨t',rfl⟩:=ry;exact PySem.EqNone.ne_none_str (z0Z I q (by simp))
  |_=>exact absurd (show false=true from hs) Bool.false_ne_true
 |bl i=>
  cases rx
  cases y with
  |non=>cases ry;exact PySem.EqNone.ne_bool_none (z0Z I q (by simp))
  |bl j=>cases ry;exact ne_bool (z0Z I q (congrArg not zbY))
  |str j=>obtain⟨t',rfl⟩:=ry;exact PySem.EqMixed.ne_bool_str (z0Z I q (by simp))
  |_=>exact absurd (show false=true from hs) Bool.false_ne_true
 |int i=>
  obtain⟨t,rfl⟩:=rx
  cases y with
  |non=>cases ry;exact PySem.EqNone.ne_int_none (z0Z I q (by simp))
  |int j=>obtain⟨t',rfl⟩:=ry;exact ne_int (z0Z I q (congrArg not za5))
  |str j=>obtain⟨t',rfl⟩:=ry;exact PySem.EqMixed.ne_int_str (z0Z I q (by simp))
  |_=>exact absurd (show false=true from hs) Bool.false_ne_true
 |str i=>
  obtain⟨t,rfl⟩:=rx
  cases y with
  |non=>cases ry;exact PySem.EqNone.ne_str_none (z0Z I q (by simp))
  |bl j=>cases ry;exact PySem.EqMixed.ne_str_bool (z0Z I q (by simp))
  |int j=>obtain⟨t',rfl⟩:=ry;exact PySem.EqMixed.ne_str_int (z0Z I q (by simp))
  |str j=>obtain⟨t',rfl⟩:=ry;exact ne_str (z0Z I q (congrArg not z6Q))
  |_=>exact absurd (show false=true from hs) Bool.false_ne_true
 |byt i=>
  obtain⟨t,rfl⟩:=rx
  cases y with
  |byt j=>obtain⟨t',rfl⟩:=ry;exact W.ne_bytes (z0Z I q (congrArg not za6))
  |_=>exact absurd (show false=true from hs) Bool.false_ne_true
 |_=>cases y<;>exact absurd (show false=true from hs) Bool.false_ne_true
theorem zee:OpR X (compareOp .Lt) (rI0 fun i j=> .bl (decide (i<j))):=opB0 fun _ _ _ _ _ _ _ q=>lt_int q
theorem zef:OpR X (compareOp .LtE) (rI0 fun i j=> .bl (decide (i<=j))):=opB0 fun _ _ _ _ _ _ _ q=>le_int q
theorem zeg:OpR X (compareOp .Gt) (rI0 fun i j=> .bl (decide (j<i))):=opB0 fun _ _ _ _ _ _ _ q=>gt_int q
theorem OpR.or{f:Value->Value->Sem Value}{r r':R2}(h:OpR X f r)(h':OpR X f r'):OpR X f (fun x y H Q=>r x y H Q\/r' x y H Q):=by
 intro pins s σ H x y v u Q I rx ry q
 rcases q with q|q
 ·exact h pins s σ H x y v u Q I rx ry q
 ·exact h' pins s σ H x y v u Q I rx ry q
theorem z0x(b:Expr){op:CmpOp}(h:op≠ .In:=by decide)(h2:op≠ .NotIn:=by decide):behindInMarks op b=false:=by
 have e1:(op==CmpOp.In)=false:=by cases op<;>first|rfl|exact absurd rfl h
 have e2:(op==CmpOp.NotIn)=false:=by cases op<;>first|rfl|exact absurd rfl h2
 cases b<;>simp[behindInMarks,e1,e2]
theorem za7{op:CmpOp}{r:R2}(ho:OpR X (compareOp op) r)(ha:PE X a ta)(hb:PE X b tb)(hm:behindInMarks op b=false):PE X (.Compare a [op] [b] pos) (tOp r ta tb):=by
 intro pins s σ H Q I h
 exact wpAny_Compare1 (binT ha hb I h fun v u s2 x y H2 I2 rx ry q=>ho pins s2 σ H2 x y v u Q I2 rx ry q) hm
noncomputable def zbZ(t:TE):TT:=fun σ H Q=>t σ H fun x H'=> ∃k,x= .bl k/\Q k H'
theorem za8{op:CmpOp}{r:R2}(ho:OpR X (compareOp op) r)(ha:PE X a ta)(hb:PE X b tb)(hm:behindInMarks op b=false):PT X (.Compare a [op] [b] pos) (zbZ (tOp r ta tb)):=by
 intro pins s σ H Q I h
 refine wpAny_isTrue_Compare1 (thn (ha pins s σ H _ I h) fun v s1 ⟨x,H1,I1,r1,q1⟩=>thn (hb pins s1 σ H1 _ I1 q1) fun u s2 ⟨y,H2,I2,r2,q2⟩=>
  thn (ho pins s2 σ H2 x y v u _ I2 r1 r2 q2) fun c s3 ⟨z,H3,I3,r3,k,e,q3⟩=> ?_) hm
 subst e
 cases r3
 exact wpAny_truthy_bool ⟨H3,I3,q3⟩
noncomputable def z6R(r r':R2)(ta tb tc:TE):TE:=fun σ H Q=>ta σ H fun x H1=>tb σ H1 fun y H2=>r x y H2 fun z H3=> ∃k,z= .bl k/\
 (if k=true then tc σ H3 fun w' H4=>r' y w' H4 Q else Q (.bl false) H3)
theorem z8J{op op':CmpOp}{r r':R2}(ho:OpR X (compareOp op) r)(ho':OpR X (compareOp op') r')(ha:PE X a ta)(hb:PE X b tb)(hc:PE X c tc)
 (hm:lastMarks [op,op'] [b,c]=false:=by with_unfolding_all rfl):PE X (.Compare a [op,op'] [b,c] pos) (z6R r r' ta tb tc):=by
 intro pins s σ H Q I h
 refine Compare_chain (thn (ha pins s σ H _ I h) fun v s1 ⟨x,H1,I1,r1,q1⟩=>chain_link (thn (hb pins s1 σ H1 _ I1 q1) fun u s2 ⟨y,H2,I2,r2,q2⟩=>
  thn (ho pins s2 σ H2 x y v u _ I2 r1 r2 q2) fun d s3 ⟨z,H3,I3,r3,k,e,q3⟩=> ?_)) hm
 subst e
 cases r3
 refine wpAny_truthy_bool ?_
 cases k with
 |false=>exact ite_ff ⟨.bl false,H3,I3,rfl,q3⟩
 |true=>exact ite_tt (chain_last (thn (hc pins s3 σ H3 _ I3 q3) fun w' s4 ⟨z',H4,I4,r4,q4⟩=>ho' pins s4 σ H4 y z' u w' Q I4 r2 r4 q4))
theorem z8K{op op':CmpOp}{r r':R2}(ho:OpR X (compareOp op) r)(ho':OpR X (compareOp op') r')(ha:PE X a ta)(hb:PE X b tb)(hc:PE X c tc)
 (hm:lastMarks [op,op'] [b,c]=false:=by with_unfolding_all rfl):PT X (.Compare a [op,op'] [b,c] pos) (zbZ (z6R r r' ta tb tc)):=by
 intro pins s σ H Q I h
 refine isTrue_chain (thn (ha pins s σ H _ I h) fun v s1 ⟨x,H1,I1,r1,q1⟩=>test_link (thn (hb pins s1 σ H1 _ I1 q1) fun u s2 ⟨y,H2,I2,r2,q2⟩=>
  thn (ho pins s2 σ H2 x y v u _ I2 r1 r2 q2) fun d s3 ⟨z,H3,I3,r3,k,e,q3⟩=> ?_)) hm
 subst e
 cases r3
 refine wpAny_truthy_bool ?_
 cases k with
 |false=>
  obtain⟨k',e',q'⟩:=q3
  cases e'
  exact ite_ff ⟨H3,I3,q'⟩
 |true=>
  refine ite_tt (test_last (thn (hc pins s3 σ H3 _ I3 q3) fun w' s4 ⟨z',H4,I4,r4,q4⟩=>thn (ho' pins s4 σ H4 y z' u w' _ I4 r2 r4 q4) fun d' s5 ⟨z2,H5,I5,r5,k2,e2,q5⟩=> ?_))
  subst e2
  cases r5
  exact wpAny_truthy_bool ⟨H5,I5,q5⟩
noncomputable def TruV(K:W.Frag)(x:V)(H:Hp)(k:Bool):Prop:=
 match x with
 | .non=>k=false
 | .bl b=>k=b
 | .int i=>k=(i !=0)
 | .str y=>y.length<=sizeLine/\k=((y.length:Int) !=0)
 | .byt y=>y.size<=sizeLine/\k=((y.size:Int) !=0)
 | .ref p=>(∃xs,SqL K H p xs/\k= !xs.isEmpty)\/(∃xs,SqT K H p xs/\k= !xs.isEmpty)\/∃kvs,H p=some (.dK kvs)/\k= !kvs.isEmpty
 |_=>False
theorem z68{κ:Type}{kvs:List (κ×V)}{vs:List (κ×Value)}(r:KV kvs vs):(!vs.isEmpty)= !kvs.isEmpty:=by
 cases r<;>rfl
theorem z3w{xs:List V}{its:List Value}(r:Vals xs its):(!its.toArray.isEmpty)= !xs.isEmpty:=by
 cases r<;>simp
theorem z4m:(sizeLine:Nat)<2^63:=by rw[sizeLine_eq];decide
theorem zc0:TruR X (fun x H Q=> ∃k,TruV X.K x H k/\Q k H):=by
 intro pins s σ H x v Q I rx h
 obtain⟨k,e,q⟩:=h
 have hl:=z4m
 have hs:sizeLine=16777216:=sizeLine_eq
 cases x with
 |non=>
  cases rx
  have e':k=false:=e
  subst e'
  exact truthy_none ⟨H,I,q⟩
 |bl b=>
  cases rx
  have e':k=b:=e
  subst e'
  exact wpAny_truthy_bool ⟨H,I,q⟩
 |int i=>
  obtain⟨t,rfl⟩:=rx
  have e':k=(i !=0):=e
  subst e'
  exact PySem.P.truthy_int ⟨H,I,q⟩
 |str y=>
  obtain⟨t,rfl⟩:=rx
  obtain⟨hy,e'⟩:y.length<=sizeLine/\k=((y.length:Int) !=0):=e
  subst e'
  exact PySem.P.truthy_str (by lia) ⟨H,I.tok _,q⟩
 |byt y=>
  obtain⟨t,rfl⟩:=rx
  obtain⟨hy,e'⟩:y.size<=sizeLine/\k=((y.size:Int) !=0):=e
  subst e'
  exact W.truthy_bytes (by lia) ⟨H,I.tok _,q⟩
 |ref p=>
  cases rx
  have e':(∃xs,SqL X.K H p xs/\k= !xs.isEmpty)\/(∃xs,SqT X.K H p xs/\k= !xs.isEmpty)\/∃kvs,H p=some (.dK kvs)/\k= !kvs.isEmpty:=e
  rcases e' with⟨xs,hx,e'⟩|⟨xs,hx,e'⟩|⟨kvs,hx,e'⟩
  ·subst e'
   obtain⟨its,r,pl,hz⟩:=I.list hx
   have hlen:=r.length
   exact wpAny_truthy_list pl.isList (by simp only[List.size_toArray];lia) ⟨H,I.tok _,by rw[z3w r];exact q⟩
  ·subst e'
   obtain⟨its,r,pl,hz⟩:=I.tuple hx
   have hlen:=r.length
   exact truthy_tuple pl (by simp only[List.size_toArray];lia) ⟨H,I.tok _,by rw[z3w r];exact q⟩
  ·subst e'
   obtain⟨hz,hS,vs,r,m⟩:kvs.length<=sizeLine/\(p==sysModules)=false/\∃vs,KV kvs vs/\s.heap.DictOf (z0e X.prog X.w) p vs:=I.hok p _ hx
   have hlen:kvs.length=vs.length:=Paired.length r
   exact wpAny_truthy_dict hS m (by lia) ⟨H,I.tok _,by rw[z68 r];exact q⟩
 |_=>exact(show False from e).elim
theorem z8L(ha:PE X a ta)(he: ∀whole,isTrue a X.env whole=(do let v<-whole;standAt a.pos;holding [v] (truthy v))):
 PT X a (fun σ H Q=>ta σ H fun x H'=> ∃k,TruV X.K x H' k/\Q k H'):=by
 intro pins s σ H Q I h
 exact isTrue_plain (thn (ha pins s σ H _ I h) fun v s1 ⟨x,H1,I1,r1,q1⟩=>zc0 pins s1 σ H1 x v Q I1 r1 q1) (he _)
theorem z69:OpR X (binaryOp .Add) (fun x y H Q=> ∃i j,x= .str i/\y= .str j/\i.length+j.length<=sizeLine/\Q (.str (i++j)) H):=by
 intro pins s σ H x y v u Q I rx ry h
 obtain⟨i,j,rfl,rfl,hz,q⟩:=h
 obtain⟨t,rfl⟩:=rx
 obtain⟨t',rfl⟩:=ry
 exact add_str (fun t' tk=>⟨.str (i++j),H,I.tok _,⟨_,rfl⟩,q⟩) hz
theorem z3N{x:V}{us:List Value}(r:Vals [x] us): ∃u,us=[u]/\RelV x u:=by
 cases r with
 |cons r1 r2=>cases r2;exact⟨_,rfl,r1⟩
theorem z8M{x y:V}{us:List Value}(r:Vals [x,y] us): ∃u w',us=[u,w']/\RelV x u/\RelV y w':=by
 cases r with
 |cons r1 r2=>
  cases r2 with
  |cons r3 r4=>cases r4;exact⟨_,_,rfl,r1,r3⟩
theorem z8N:CallR X (.builtin "abs") (fun xs H Q=> ∃i,xs=[.int i]/\Q (.int (if i<0 then -i else i)) H):=by
 intro pins s σ H xs us Q I r h
 obtain⟨i,rfl,q⟩:=h
 obtain⟨u,rfl,t,rfl⟩:=z3N r
 exact call_abs_int fun u tk=>⟨.int (if i<0 then -i else i),H,I.tok _,⟨_,rfl⟩,q⟩
theorem z6S(hc:X.calm=true):CallR X (.builtin "max") (fun xs H Q=> ∃i j,xs=[.int i, .int j]/\Q (.int (if j>i then j else i)) H):=by
 intro pins s σ H xs us Q I r h
 obtain⟨i,j,rfl,q⟩:=h
 obtain⟨u,w',rfl,⟨t,rfl⟩,⟨t',rfl⟩⟩:=z8M r
 refine max_two_ints (I.ok.hd hc) fun h' tk k=>⟨_,H,I.kept k, ?_,q⟩
 by_cases hj:j>i
 ·rw[if_pos hj,if_pos hj];exact⟨_,rfl⟩
 ·rw[if_neg hj,if_neg hj];exact⟨_,rfl⟩
theorem z6T(hc:X.calm=true):CallR X (.builtin "min") (fun xs H Q=> ∃i j,xs=[.int i, .int j]/\Q (.int (if j<i then j else i)) H):=by
 intro pins s σ H xs us Q I r h
 obtain⟨i,j,rfl,q⟩:=h
 obtain⟨u,w',rfl,⟨t,rfl⟩,⟨t',rfl⟩⟩:=z8M r
 refine min_two_ints (I.ok.hd hc) fun h' tk k=>⟨_,H,I.kept k, ?_,q⟩
 by_cases hj:j<i
 ·rw[if_pos hj,if_pos hj];exact⟨_,rfl⟩
 ·rw[if_neg hj,if_neg hj];exact⟨_,rfl⟩
theorem z6U:CallR X (.type "int") (fun xs H Q=>(∃i,xs=[.int i]/\Q (.int i) H)\/∃k,xs=[.bl k]/\Q (.int (if k then 1 else 0)) H):=by
 intro pins s σ H xs us Q I r h
 rcases h with⟨i,rfl,q⟩|⟨k,rfl,q⟩
 ·obtain⟨u,rfl,t,rfl⟩:=z3N r
  exact call_int_int ⟨.int i,H,I,⟨_,rfl⟩,q⟩
 ·obtain⟨u,rfl,r1⟩:=z3N r
  cases r1
  exact call_int_bool ⟨.int (if k then 1 else 0),H,I.tok _,⟨_,rfl⟩,q⟩
end
structure ObjM(h:Heap)(x dx C:Addr)(mA:Str->Option Value):Prop where
 obj:h.get? x=some (W.instObj C dx)
 ns:h.Ns1 dx mA
 ne:dx≠x
theorem RelO.some_of{v:V}{o:Option Value}(r:RelO (some v) o): ∃u,o=some u/\RelV v u:=by
 cases o with
 |none=>exact(show False from r).elim
 |some u=>exact⟨u,rfl,r⟩
structure Cls(K:W.Frag)(C:Addr):Prop where
 pg:W.plainGet K C Str.empty=true
 hd:W.hasDictIn K C=true
 po:W.plainOver K C=true
 sa:W.findIn K (.ref C) "__setattr__" =some (some (.builtin "object.__setattr__"))
structure Con(K:W.Frag)(C:Addr)(f:Str)(v:V)(u:Value):Prop where
 at_:W.findIn K (.ref C) f=some (some u)
 rel:RelV v u
 get:W.specialIn K u "__get__" =some none
 cp:W.copiedNames.contains f=false
structure Meth(K:W.Frag)(C:Addr)(m:Str)(f:Addr):Prop where
 at_:W.findIn K (.ref C) m=some (some (.ref f))
 fn:W.isFn K (.ref f)=true
 kp:W.keepIn K (.ref f)=true
section
variable{X:Cx}{pins:List (Addr×Obj)}{σ:St}{H:Hp}{s:Shared}{A:Around}{E:Value->Shared->Prop}{Q:Value->Shared->Prop}{c:Value}{b:Bool}
inductive TyOf(K:W.Frag)(H:Hp):V->Value->Prop where
 |non:TyOf K H .non (.type "NoneType")
 |bl (x:Bool):TyOf K H (.bl x) (.type "bool")
 |int (i:Int):TyOf K H (.int i) (.type "int")
 |str (x:Str):TyOf K H (.str x) (.type "str")
 |flt (x:UInt64):TyOf K H (.flt x) (.type "float")
 |lst {a:Addr} {xs:List V} (e:H a=some (.lst xs)):TyOf K H (.ref a) (.type "list")
 |frz {a:Addr} {o:Obj} {xs:List V} (e:H a=some (.frz o (.lst xs))):TyOf K H (.ref a) (.type "list")
 |tup {a:Addr} {xs:List V} (e:H a=some (.tup xs)):TyOf K H (.ref a) (.type "tuple")
 |dK {a:Addr} {kvs:List (Key×V)} (e:H a=some (.dK kvs)):TyOf K H (.ref a) (.type "dict")
 |dT {a:Addr} {kvs:List (NK×V)} (e:H a=some (.dT kvs)):TyOf K H (.ref a) (.type "dict")
 |ins {a C dx:Addr} {fs:List (Str×V)} (e:H a=some (.ins C dx fs)) (cl:Cls K C) (ha:W.findIn K (.ref C) "__class__" =some (some (.builtin "object.__class__")))
  (hn:W.specialIn K (.builtin "object.__class__") "__get__" =some (some (.builtin "getset_descriptor.__get__"))) (htk:W.takesIn K (.builtin "object.__class__")=some true)
  (hm:W.mroIn K C (.type "object")=some true):TyOf K H (.ref a) (.ref C)
end
structure Room(k:Nat)(A:Around):Prop where
 hd:A.handled=none
 dp:A.depth+3*k+5<recursionLimit
 un:A.units+16*k+200<cLine
 gd:A.guards=some []
theorem Room.mono{j k:Nat}{A:Around}(r:Room k A)(h:j<=k):Room j A:=⟨r.hd,by have:=r.dp;lia,by have:=r.un;lia,r.gd⟩
theorem Room.deeper{k:Nat}{A:Around}(r:Room (k+1) A)(env:Env):Room k (A.deeper env):=
 ⟨r.hd,by have:=r.dp;show A.depth+1+3*k+5<_;lia,by have:=r.un;show A.units+3+16*k+200<_;lia,r.gd⟩
theorem Room.depth{k:Nat}{A:Around}(r:Room k A):A.depth<recursionLimit:=by have:=r.dp;lia
theorem Room.units{k:Nat}{A:Around}(r:Room k A):A.units+64<cLine:=by have:=r.un;lia
noncomputable def tNil:TA:=fun _ H Q=>Q [] H
noncomputable def zeh(ta:TE)(tr:TA):TA:=fun σ H Q=>ta σ H fun x H1=>tr σ H1 fun xs H2=>Q (x::xs) H2
section
variable{X:Cx}{e:Expr}{es:List Expr}{te:TE}{t:TA}{pos:Pos}
theorem z5z:PA X [] tNil:=fun _ _ _ _ H Q I h=>Calls.spliced_nil ⟨[],H,I, .nil,h⟩
theorem z1X(ha:PE X e te)(hr:PA X es t)(hs:starEach (e::es) X.env=(false,eval e X.env)::starEach es X.env:=by rfl):PA X (e::es) (zeh te t):=by
 intro pos pins s σ H Q I h
 rw[hs]
 show wpAny _ _ (spliced ((false,eval e X.env)::backTo pos (starEach es X.env))) _ _ s
 refine Calls.spliced_cons (thn (ha pins s σ H _ I h) fun u s1 ⟨x,H1,I1,r1,q1⟩=> ?_)
 exact thn (hr pos pins s1 σ H1 _ I1 q1) fun us s2 ⟨xs,H2,I2,r2,q2⟩=>⟨x::xs,H2,I2, .cons r1 r2,q2⟩
noncomputable def tTup(t:TA):TE:=fun σ H Q=>t σ H fun xs H1=>xs.length<=sizeLine/\∀p,H1 p=none->Q (.ref p) (upd H1 p (.tup xs))
noncomputable def tLst(t:TA):TE:=fun σ H Q=>t σ H fun xs H1=>xs.length<=sizeLine/\∀p,H1 p=none->Q (.ref p) (upd H1 p (.lst xs))
theorem zc1{x1}(h:PA X es t):PE X (.Tuple es x1 pos) (tTup t):=by
 intro pins s σ H Q I hq
 refine wpAny_Tuple_spliced (thn (h pos pins s σ H _ I hq) fun us s1 ⟨xs,H1,I1,r,z,q⟩=>⟨by rw[<-r.length];exact z, ?_⟩)
 have hf:H1 s1.heap.objs.size=none:=I1.hok.fresh (Nat.le_refl _)
 refine⟨.ref s1.heap.objs.size,upd H1 s1.heap.objs.size (.tup xs),I1.laid (t':=s1.toks) (fun b u e=>Heap.get?_push_of_some _ e) (Nat.le_refl _) ?_,rfl,q _ hf⟩
 exact⟨z,us,r,⟨_,Heap.get?_push_size _ rfl,rfl,_,rfl⟩⟩
theorem zc2(h:PA X es t):PE X (.List es pos) (tLst t):=by
 intro pins s σ H Q I hq
 refine wpAny_List_spliced (thn (h pos pins s σ H _ I hq) fun us s1 ⟨xs,H1,I1,r,z,q⟩=>⟨by rw[<-r.length];exact z, ?_⟩)
 have hf:H1 s1.heap.objs.size=none:=I1.hok.fresh (Nat.le_refl _)
 refine⟨.ref s1.heap.objs.size,upd H1 s1.heap.objs.size (.lst xs),I1.laid (t':=s1.toks) (fun b u e=>Heap.get?_push_of_some _ e) (Nat.le_refl _) ?_,rfl,q _ hf⟩
 exact⟨z,us,0,r,Heap.get?_push_size _ rfl⟩
end
noncomputable abbrev Sp:=List V->Hp->VK->XK->Prop
noncomputable abbrev CXT:=List Env->Hp->Shared->XK->Value->Shared->Prop
structure Env0(P:Program)(w:World)(K:W.Frag)(mg:Str->Option Value)(base:Heap)(A:Around)(outer:List Env)(s:Shared)(H:Hp):Prop where
 frames:A.frames=some outer
 mod:Mod K mg base
 bs: ∀b o,base.get? b=some o->s.heap.get? b=some o/\H b=none
 bsz:base.objs.size<=s.heap.objs.size
 funs:s.heap.FunFrames base outer
 frf: ∀b∈frs outer,H b=none
 hok:HOk P w H s.heap
 bare:AllBare s.gens
noncomputable def CE(outer:List Env)(P:Program)(w:World)(H:Hp)(s:Shared)(Q:VK)(u:Value)(s':Shared):Prop:=
 ∃v H',s'.os=s.os/\AllBare s'.gens/\Un (frs outer) [] H H' s.heap s'.heap/\HOk P w H' s'.heap/\RelV v u/\Q v H'
noncomputable def CR(CX:CXT)(outer:List Env)(P:Program)(w:World)(H:Hp)(s:Shared)(Q:VK)(E:XK)(r:Result)(s':Shared):Prop:=
 match r with
 | .ok (.ret u)=>CE outer P w H s Q u s'
 | .ok _=>False
 | .error e=>CX outer H s E e s'
structure FnOk(P:Program)(w:World)(K:W.Frag)(mg:Str->Option Value)(base:Heap)(CX:CXT)(k:Nat)(f:Addr)(fd:FuncData)(ps:List Str)(sp:Sp):Prop where
 len: ∀vs H Q E,sp vs H Q E->vs.length=ps.length
 run: ∀(A:Around) (outer:List Env) (s:Shared) (H:Hp) (args:Args) (us:List Value) (vs:List V) (Q:VK) (E:XK),Room k A->Env0 P w K mg base A outer s H->BindsTo s fd args (ps.zip us)->Vals vs us->sp vs H Q E->
  codeAny (model P w) A (.call (.ref f) args) (CR CX outer P w H s Q E) s
theorem FnOk.mono{P:Program}{w:World}{K:W.Frag}{mg:Str->Option Value}{base:Heap}{CX:CXT}{j k:Nat}{f:Addr}{fd:FuncData}{ps:List Str}{sp:Sp}(F:FnOk P w K mg base CX j f fd ps sp)(h:j<=k):
 FnOk P w K mg base CX k f fd ps sp:=⟨F.len,fun A outer s H args us vs Q E hr=>F.run A outer s H args us vs Q E (hr.mono h)⟩
section
variable{X:Cx}{pins:List (Addr×Obj)}{σ:St}{H:Hp}{s s':Shared}
theorem Inv.env0(I:Inv X pins σ H s):Env0 X.prog X.w X.K X.mg X.base X.A X.stack s H:=
 ⟨I.ok.frames,I.ok.mod,I.bs,Nat.le_trans I.ok.bsz I.sz,I.stack,I.stkFree,I.hok,I.bare⟩
theorem Inv.after{Q:VK}{u:Value}(I:Inv X pins σ H s)(h:CE X.stack X.prog X.w H s Q u s'):EP X pins σ Q u s':=by
 obtain⟨v,H',os,bare,un,hok,r,q⟩:=h
 obtain⟨hh,g,d,t,os'⟩:=s'
 obtain rfl:os'=s.os:=os
 exact⟨v,H',I.call (h':=hh) (g':=g) (d':=d) (t':=t) (ch:=[]) un hok bare (fun b z=>absurd z (by simp)),r,q⟩
end
noncomputable def zei(sp:Sp)(dvs:List V)(E:XK)(t:TA):TE:=fun σ H Q=>t σ H fun vs H1=>sp (vs++dvs) H1 Q E
noncomputable def z3k(K:W.Frag)(fd:FuncData)(ps:List Str)(ds:List Value):Prop:=
 ∀(s:Shared) (us:List Value),K.In s.heap->(us++ds).length=ps.length->BindsTo s fd ⟨us,[]⟩ (ps.zip (us++ds))
theorem z3k.all{K:W.Frag}{fd:FuncData}{ps:List Str}(h: ∀us:List Value,us.length=ps.length->bindArgs fd ⟨us,[]⟩=pure (ps.zip us)):z3k K fd ps []:=fun s us _ hl=>by
 rw[List.append_nil] at hl⊢
 exact .of_eq (h us hl)
noncomputable def z3x(CX:CXT)(X:Cx)(E:XK):Prop:= ∀(pins:List (Addr×Obj)) (σ:St) (H:Hp) (s:Shared) (e:Value) (s':Shared),Inv X pins σ H s->CX X.stack H s E e s'->X.xe e s'
section
variable{X:Cx}{CX:CXT}{k:Nat}{f C:Addr}{fd:FuncData}{ps:List Str}{sp:Sp}{dvs:List V}{ds:List Value}{E:XK}{x m:Str}{p pos apos:Pos}{e o:Expr}{es:List Expr}{ta:TE}{t:TA}
theorem zc3{pins:List (Addr×Obj)}{σ:St}{H:Hp}{s:Shared}{Q:VK}{us:List Value}{vs:List V}(F:FnOk X.prog X.w X.K X.mg X.base CX k f fd ps sp)(hr:Room k X.A)(hb:z3k X.K fd ps ds)(hd:Vals dvs ds)(hx:z3x CX X E)
 (I:Inv X pins σ H s) (r:Vals vs us) (h:sp (vs++dvs) H Q E):wpAny (model X.prog X.w) X.A (call (.ref f) us) (EP X pins σ Q) X.xe s:=by
 have r2:Vals (vs++dvs) (us++ds):=r.append hd
 have hl:(us++ds).length=ps.length:=by rw[<-r2.length];exact F.len _ _ _ _ h
 refine wpAny_call (codeAny_mono (F.run X.A X.stack s H ⟨us,[]⟩ (us++ds) (vs++dvs) Q E hr I.env0 (hb s us I.kIn hl) r2 h) fun r s' hq=> ?_)
 cases r with
 |error e=>exact hx pins σ H s e s' I hq
 |ok fl=>
  cases fl with
  |ret u=>exact I.after hq
  |next=>exact False.elim hq
  |brk=>exact False.elim hq
  |cont=>exact False.elim hq
theorem za9(F:FnOk X.prog X.w X.K X.mg X.base CX k f fd ps sp)(hr:Room k X.A)(hg:Gl X x)(hm:X.mg x=some (.ref f))(hk:W.keepIn X.K (.ref f)=true)(hb:z3k X.K fd ps ds)(hd:Vals dvs ds)(hx:z3x CX X E)
 (ha:PA X (e::es) t) (hdb:(x==("__debug__" :Str))=false:=by decide) (he:starEach (e::es) X.env=(false,eval e X.env)::starEach es X.env:=by rfl) (hpl:(backTo pos (starEach es X.env)).any (·.1)=false:=by rfl):
 PE X (.Call (.Name x p) (e::es) [] pos) (zei sp dvs E t):=by
 intro pins s σ H Q I h
 refine wpAny_Call_Name_kw (z6M I hg hm ?_ hdb)
 refine W.callWith_K (h₀:=X.base) I.ok.mod.kin hk (thn (ha pos pins s σ H _ I h) fun us s1 ⟨vs,H1,I1,r,q⟩=>⟨I1.kIn, ?_⟩) he hpl
 exact zc3 F hr hb hd hx I1 r q
structure Mk(K:W.Frag)(C f:Addr):Prop where
 makes:W.makesIn K C=true
 init:W.findIn K (.ref C) "__init__" =some (some (.ref f))
 fn:W.isFn K (.ref f)=true
 kp:W.keepIn K (.ref C)=true
end
noncomputable def PK(X:Cx)(kws:List Keyword)(t:TA):Prop:=
 ∀(pos:Pos) (pins:List (Addr×Obj)) (s:Shared) (σ:St) (H:Hp) (Q:List V->Hp->Prop),Inv X pins σ H s->t σ H Q->wpAny (model X.prog X.w) X.A (evalAll ((backToKw pos (keywordEach kws X.env)).map (·.2))) (AP X pins σ Q) X.xe s
section
variable{X:Cx}{CX:CXT}{k:Nat}{f C:Addr}{fd:FuncData}{ps ks:List Str}{sp:Sp}{E:XK}{x m:Str}{p pos apos kpos:Pos}{e o:Expr}{es:List Expr}{kws:List Keyword}{te ta:TE}{t tk:TA}{nm:Option Str}
structure zfv(K:W.Frag)(fd:FuncData)(ps ks:List Str)(g:List Value->List Value->List Value)(gV:List V->List V->List V):Prop where
 to: ∀(s:Shared) (us ws:List Value),K.In s.heap->(g us ws).length=ps.length->BindsTo s fd ⟨us,ks.zip ws⟩ (ps.zip (g us ws))
 rel: ∀{vs:List V} {us:List Value} {zs:List V} {ws:List Value},Vals vs us->Vals zs ws->Vals (gV vs zs) (g us ws)
variable{g:List Value->List Value->List Value}{gV:List V->List V->List V}
end
structure z0l(N P:List Str)(sc:Scope):Prop where
 kind:sc.kind= .function
 co:sc.isCoroutine=false
 gen:sc.isGenerator=false
 nd:N.Nodup
 pre:N.take P.length=P
 par: ∀x∈P,sc.names.lookup x=some .local\/sc.names.lookup x=some .cell
 nofree: ∀y∈sc.names,y.2≠ .free
theorem z4n{kindOf:Str->Option NameKind}{x:Str}: ∀{binds:List (Str×Value)} {m:Str->Option Value},(∀v,(x,v)∉binds)->bindL kindOf binds m x=m x
 |[],_,_=>rfl
 |(n,v)::r,m,h=>by
  unfold bindL
  rw[z4n fun w hw=>h w (List.mem_cons_of_mem _ hw)]
  split
  ·have:x≠n:=by rintro rfl;exact h v List.mem_cons_self
   simp[this]
  ·rfl
theorem z4o{kindOf:Str->Option NameKind}{x:Str}: ∀{binds:List (Str×Value)} {m:Str->Option Value},(∀v,(x,v)∉binds)->bindC kindOf binds m x=m x
 |[],_,_=>rfl
 |(n,v)::r,m,h=>by
  unfold bindC
  rw[z4o fun w hw=>h w (List.mem_cons_of_mem _ hw)]
  split
  ·rfl
  ·have:x≠n:=by rintro rfl;exact h v List.mem_cons_self
   simp[this]
theorem z4p{kindOf:Str->Option NameKind}{x:Str}{v:Value}: ∀{P:List Str} {vs:List Value} {i:Nat} {m:Str->Option Value},P.Nodup->P[i]? =some x->vs[i]? =some v->kindOf x=some .local->
 bindL kindOf (P.zip vs) m x=some v
 |[],_,_,_,_,h,_,_=>by simp at h
 |_::_,[],_,_,_,_,h,_=>by simp at h
 |p::P,w::vs,0,m,nd,h1,h2,hk=>by
  simp at h1 h2;subst h1;subst h2
  show bindL kindOf ((p,w)::P.zip vs) m p=_
  unfold bindL
  rw[z4n fun v hv=>(List.nodup_cons.mp nd).1 (List.of_mem_zip hv).1,if_pos hk]
  simp
 |p::P,w::vs,i+1,m,nd,h1,h2,hk=>by
  show bindL kindOf ((p,w)::P.zip vs) m x=_
  unfold bindL
  exact z4p (i:=i) (List.nodup_cons.mp nd).2 (by simpa using h1) (by simpa using h2) hk
theorem z4q{kindOf:Str->Option NameKind}{x:Str}{v:Value}: ∀{P:List Str} {vs:List Value} {i:Nat} {m:Str->Option Value},P.Nodup->P[i]? =some x->vs[i]? =some v->kindOf x≠some .local->
 bindC kindOf (P.zip vs) m x=some v
 |[],_,_,_,_,h,_,_=>by simp at h
 |_::_,[],_,_,_,_,h,_=>by simp at h
 |p::P,w::vs,0,m,nd,h1,h2,hk=>by
  simp at h1 h2;subst h1;subst h2
  show bindC kindOf ((p,w)::P.zip vs) m p=_
  unfold bindC
  rw[z4o fun v hv=>(List.nodup_cons.mp nd).1 (List.of_mem_zip hv).1,if_neg hk]
  simp
 |p::P,w::vs,i+1,m,nd,h1,h2,hk=>by
  show bindC kindOf ((p,w)::P.zip vs) m x=_
  unfold bindC
  exact z4q (i:=i) (List.nodup_cons.mp nd).2 (by simpa using h1) (by simpa using h2) hk
noncomputable def start(N:List Str)(vs:List V):St:=vs.map some++List.replicate (N.length -vs.length) none
noncomputable def cxOf(CX:CXT)(P:Program)(w:World)(K:W.Frag)(mg:Str->Option Value)(base:Heap)(N:List Str)(qual:Str)(scope:Scope)(f:Addr)(cd:Value)(A:Around)(outer:List Env)(s:Shared)(H:Hp)(E:XK):Cx where
 prog:=P
 w:=w
 K:=K
 mg:=mg
 base:=base
 A:=A.deeper (envOfC qual scope s.heap.objs.size f cd)
 N:=N
 s₀:=s
 H₀:=H
 env:=envOfC qual scope s.heap.objs.size f cd
 outer:=outer
 stack:=envOfC qual scope s.heap.objs.size f cd::outer
 ex:=[]
 calm:=true
 fn:=fun _=>true
 pn:=[]
 xe:=fun e s'=>wpAny (model P w) (A.deeper (envOfC qual scope s.heap.objs.size f cd)) (leaving (envOfC qual scope s.heap.objs.size f cd) e) (fun _ s''=>CX outer H s E e s'') (fun e' s''=>CX outer H s E e' s'') s'
theorem z5A{sc:Scope}{n:Nat}{x:Str}(h:sc.names.lookup x=some .cell): ∃c,(cellsFrom n sc.names []).lookup x=some c:=by
 have q:=W.cellsFrom_some sc.names n [] (.inl h)
 exact Option.isSome_iff_exists.mp q
theorem z6V{CX:CXT}{P:Program}{w:World}{K:W.Frag}{mg:Str->Option Value}{base:Heap}{N ps:List Str}{qual:Str}{scope:Scope}{f:Addr}{cd:Value}{A:Around}{outer:List Env}{s s1:Shared}{H:Hp}{E:XK}{us:List Value}{vs:List V}
 (S:z0l N ps scope) (hd:A.handled=none) (e0:Env0 P w K mg base A outer s H) (hl:vs.length=ps.length) (r:Vals vs us)
 (x:InCallC s s.heap.objs.size (bindL (envOfC qual scope s.heap.objs.size f cd).kindOf (ps.zip us) fun _=>none) (cellsFrom (s.heap.objs.size+1) scope.names []) (bindC (envOfC qual scope s.heap.objs.size f cd).kindOf (ps.zip us) fun _=>none) s1):
 Inv (cxOf CX P w K mg base N qual scope f cd A outer s H E) [] (start N vs) H s1:=by
 have hpl:ps.length<=N.length:=by have:=congrArg List.length S.pre;rw[List.length_take] at this;lia
 obtain⟨h1,tk,rfl,hk⟩:=x.done
 have noA: ∀b:Addr,b∉(cxOf CX P w K mg base N qual scope f cd A outer s H E).ex:=fun b z=>absurd (show b∈([]:List Addr) from z) (by simp)
 refine⟨⟨e0.mod,S.kind,rfl,rfl,Nat.le_refl _,fun y z c h1 h2=> ?_,fun y hy=> ?_,fun y c _ h=> ?_,fun _=>hd,Around.frames_deeper e0.frames, .inr ⟨rfl,rfl⟩,fun b z=>absurd z (noA b),e0.bs,e0.bsz,fun b _ _=>noA b,fun b z=>absurd z (noA b),e0.funs,e0.frf⟩,
  rfl,e0.bare,Un.kept hk,⟨_,x.toInCall.ns,fun i y v h1 h2 h3=> ?_⟩,fun y c h=>⟨_,x.cell y c h⟩,e0.hok.fresh (Nat.le_refl _),fun y c h=> ?_,fun p hp=>absurd (show p∈([]:List (Addr×Obj)) from hp) (by simp),e0.hok.kept hk, ?_⟩
 ·exact name_of_addr x.apart (PySem.mem_of_lookup h1) (PySem.mem_of_lookup h2)
 ·have hy:scope.names.lookup y=some .cell\/scope.names.lookup y=some .free:=hy
  rcases hy with hy|hy
  ·exact z5A hy
  ·exact absurd rfl (S.nofree _ (PySem.mem_of_lookup hy))
 ·exact Nat.le_of_lt (x.above y c (PySem.mem_of_lookup h))
 ·have hi:i<vs.length:=by
   unfold start at h2
   by_cases hi:i<vs.length
   ·exact hi
   ·rw[List.getElem?_append_right (by simpa using hi)] at h2
    rw[List.getElem?_replicate] at h2
    split at h2<;>cases h2
  have ha:vs[i]? =some v:=by
   unfold start at h2
   rw[List.getElem?_append_left (by simpa using hi),List.getElem?_map] at h2
   cases e:vs[i]? with
   |none=>rw[e] at h2;cases h2
   |some a=>rw[e] at h2;cases h2;rfl
  obtain⟨u,hu,rv⟩:=r.get ha
  have hp:ps[i]? =some y:=by
   rw[<-S.pre,List.getElem?_take_of_lt (by lia)];exact h1
  have ndP:ps.Nodup:=by rw[<-S.pre];exact S.nd.sublist (List.take_sublist _ _)
  refine⟨u,rv, ?_⟩
  rcases S.par y (List.mem_of_getElem? hp) with k|k
  ·exact .inl ⟨k,z4p ndP hp hu k⟩
  ·obtain⟨c,e⟩:=z5A (n:=s.heap.objs.size+1) k
   refine .inr ⟨.inl k,c,e, ?_⟩
   have q:=x.cell y c e
   rw[z4q ndP hp hu (by show scope.names.lookup y≠_;rw[k];decide)] at q
   exact q
 ·exact e0.hok.fresh (Nat.le_of_lt (x.above y c (PySem.mem_of_lookup h)))
 ·unfold start
  show _=N.length
  rw[List.length_append,List.length_map,List.length_replicate]
  lia
theorem zej{CX:CXT}{P:Program}{w:World}{K:W.Frag}{mg:Str->Option Value}{base:Heap}{k:Nat}{f:Addr}{name qual:Str}{params:Arguments}{body:List Stmt}{scope:Scope}{dV kV doc pm cdv ct oc:Value}{an od:Option Addr}
 {osl:Array (Option Value)} {N ps:List Str} {sp:Sp} (lk:K.lookup f=some ⟨oc,od, .func (W.fnOf name qual params body scope dV kV doc pm an cdv ct),osl⟩) (hcd:W.codeIn K cdv qual=true) (S:z0l N ps scope)
 (len: ∀vs H Q E,sp vs H Q E->vs.length=ps.length)
 (hbody: ∀(A:Around) (outer:List Env) (s:Shared) (H:Hp) (vs:List V) (Q:VK) (E:XK),Room k (A.deeper (envOfC qual scope s.heap.objs.size f cdv))->sp vs H Q E->
  ∃t,PSs (cxOf CX P w K mg base N qual scope f cdv A outer s H E) body t/\t {nx:=fun _ H'=>Q .non H',rt:=Q} (start N vs) H):
 FnOk P w K mg base CX (k+1) f (W.fnOf name qual params body scope dV kV doc pm an cdv ct) ps sp:=by
 refine⟨len,fun A outer s H args us vs Q E hr e0 hb r hsp=> ?_⟩
 have hl:=len _ _ _ _ hsp
 have KX:K.In s.heap:=e0.mod.kin.keeps fun b o e=>(e0.bs b o e).1
 have lim:s.heap.NoLimit:=e0.mod.nolimit.keeps fun b o e=>(e0.bs b o e).1
 have hkind: ∀y∈ps.zip us,scope.names.lookup y.1=some .local\/(scope.names.lookup y.1=some .cell/\((cellsFrom (s.heap.objs.size+1) scope.names []).lookup y.1).isSome=true):=fun⟨n,v⟩ hy=>by
  rcases S.par n (List.of_mem_zip hy).1 with q|q
  ·exact .inl q
  ·exact .inr ⟨q,W.cellsFrom_some _ _ _ (.inl q)⟩
 refine codeAny_call_function hr.depth (KX _ _ lk) rfl S.co S.gen rfl (W.codeRec_of KX hcd) (hb _ _ _ _ ?_)
 refine wpAny_newFunctionEnv_cells S.kind hkind fun env he s1 x=> ?_
 subst he
 refine⟨lim.keeps x.toInCall.keep,codeAny_func ?_⟩
 obtain⟨t,ht,hq⟩:=hbody A outer s H vs Q E (hr.deeper _) hsp
 have I:Inv (cxOf CX P w K mg base N qual scope f cdv A outer s H E) [] (start N vs) H s1:=z6V S hr.hd e0 hl r x
 refine wpAny_mono (ht [] s1 (start N vs) H _ I hq) (fun fl s' hs=> ?_) fun e s' hs=>hs
 have fin: ∀{σ':St} {H':Hp} {v:V} {u:Value},Inv (cxOf CX P w K mg base N qual scope f cdv A outer s H E) [] σ' H' s'->RelV v u->Q v H'->CE outer P w H s Q u s':=
  fun{σ' H' v u} J rv q=>⟨v,H',J.os,J.bare,J.base,J.hok,rv,q⟩
 cases fl with
 |ret u=>
  obtain⟨v,σ',H',J,rv,q⟩:=hs
  exact fin J rv q
 |next=>
  obtain⟨σ',H',J,q⟩:=hs
  exact fin (v:=V.non) (u:=Value.none) J rfl q
 |brk=>
  obtain⟨_,_,_,q⟩:=hs
  exact False.elim q
 |cont=>
  obtain⟨_,_,_,q⟩:=hs
  exact False.elim q
section
variable{X:Cx}{x:Str}{p pos:Pos}{e:Expr}{es:List Expr}{t:TA}{id T:String}{r:List V->Hp->VK->Prop}
noncomputable def tCB(r:List V->Hp->VK->Prop)(t:TA):TE:=fun σ H Q=>t σ H fun vs H1=>r vs H1 Q
theorem z3O(hc:CallR X (.builtin id) r)(hg:Gl X x)(hm:X.mg x=none)(hv:bootBuiltins x=some (.builtin id))(ha:PA X (e::es) t)(hn:x≠ "__name__" :=by decide)(hdb:(x==("__debug__" :Str))=false:=by decide)
 (he:starEach (e::es) X.env=(false,eval e X.env)::starEach es X.env:=by rfl) (hpl:(backTo pos (starEach es X.env)).any (·.1)=false:=by rfl):PE X (.Call (.Name x p) (e::es) [] pos) (tCB r t):=by
 intro pins s σ H Q I h
 refine wpAny_Call_Name_kw (z4k I hg hm hv ?_ hn hdb)
 exact PyProof.Rows.callWith_builtin1 (thn (ha pos pins s σ H _ I h) fun us s1 ⟨vs,H1,I1,r1,q1⟩=>hc pins s1 σ H1 vs us Q I1 r1 q1) he hpl
theorem z6W(hc:CallR X (.type T) r)(hg:Gl X x)(hm:X.mg x=none)(hv:bootBuiltins x=some (.type T))(ha:PA X (e::es) t)(hn:x≠ "__name__" :=by decide)(hdb:(x==("__debug__" :Str))=false:=by decide)
 (he:starEach (e::es) X.env=(false,eval e X.env)::starEach es X.env:=by rfl) (hpl:(backTo pos (starEach es X.env)).any (·.1)=false:=by rfl):PE X (.Call (.Name x p) (e::es) [] pos) (tCB r t):=by
 intro pins s σ H Q I h
 refine wpAny_Call_Name_kw (z4k I hg hm hv ?_ hn hdb)
 exact PyProof.Rows.callWith_type1 (thn (ha pos pins s σ H _ I h) fun us s1 ⟨vs,H1,I1,r1,q1⟩=>hc pins s1 σ H1 vs us Q I1 r1 q1) he hpl
end
end L2
namespace HT
open PySem PyProof.Rows
section
open PySem.SeqAt
open PySem.AutoSeq1 (wpAny_loadPart')
open PySem.MeetsSeq PySem.MeetsSeq2 PySem.MeetsSeq3
end
section
variable{prog:Program}{w:World}{A:Around}{E:Value->Shared->Prop}{s:Shared}
theorem cat_tup{t b:Addr}{vs ws:List Value}{Q:Value->Shared->Prop}(ht:IsTup s.heap t vs.toArray)(hb:IsTup s.heap b ws.toArray)(hv:vs≠[])
 (h1:ws=[]->Q (.ref t) s) (h2:ws≠[]->Q (.ref s.heap.objs.size) {s with heap:=s.heap.push {cls:= .type "tuple",data:= .seq (vs++ws).toArray}})
 (hsz:vs.length+ws.length<=sizeLine):wpAny (model prog w) A (binaryOp .Add (.ref t) (.ref b)) Q E s:=by
 obtain⟨⟨cls,dd,data,sl⟩,ho,hc,n,hd⟩:=id ht
 obtain⟨⟨cls2,dd2,data2,sl2⟩,ho2,hc2,n2,hd2⟩:=id hb
 simp only at hc hd hc2 hd2
 subst hc hd hc2 hd2
 have e:vs.toArray++ws.toArray=(vs++ws).toArray:=by simp
 by_cases hw:ws=[]
 ·exact concat_meets ⟨_,ho,rfl⟩ ⟨_,ho2,rfl⟩ noFill_tuple_add seq_tuple_add PySem.F.slot_tuple_add PySem.F.entry_tuple_add (PySem.F.args_tuple_add_2 _ _)
   (tuple_addW1 t b vs.toArray ws.toArray n n2 dd dd2 sl sl2 (by simpa using hv) (by simp[hw])) ⟨ho,ho2,h1 hw⟩
 ·refine concat_meets ⟨_,ho,rfl⟩ ⟨_,ho2,rfl⟩ noFill_tuple_add seq_tuple_add PySem.F.slot_tuple_add PySem.F.entry_tuple_add (PySem.F.args_tuple_add_2 _ _)
   (tuple_addW2 t b vs.toArray ws.toArray n n2 dd dd2 sl sl2 (by simpa using hv) (by simpa using hw) (by rw[List.size_toArray,List.size_toArray];exact hsz)) ⟨ho,ho2, ?_⟩
  rw[e]
  exact h2 hw
noncomputable def sIx(n d:Nat):Option Int->Nat
 |none=>d
 |some v=>if v<0 then(v+(n:Int)).toNat else min v.toNat n
theorem sIx_none(n d:Nat):sIx n d none=d:=rfl
theorem sIx_nat(n d k:Nat):sIx n d (some (k:Int))=min k n:=by
 show(if(k:Int)<0 then((k:Int)+(n:Int)).toNat else min (k:Int).toNat n)=min k n
 rw[if_neg (by lia),Int.toNat_natCast]
theorem zc4(n d:Nat)(hd:d<=n)(o:Option Int):sIx n d o<=n:=by
 cases o with
 |none=>exact hd
 |some v=>
  show(if v<0 then(v+(n:Int)).toNat else min v.toNat n)<=n
  by_cases hv:v<0
  ·rw[if_pos hv];lia
  ·rw[if_neg hv];exact Nat.min_le_right _ _
theorem z6X(v:Int)(n d:Nat):(if v<0 then max (v+(n:Int)) 0 else min v (n:Int))=((sIx n d (some v):Nat):Int):=by
 show(if v<0 then max (v+(n:Int)) 0 else min v (n:Int))=(((if v<0 then(v+(n:Int)).toNat else min v.toNat n):Nat):Int)
 by_cases hv:v<0
 ·simp only[if_pos hv];lia
 ·simp only[if_neg hv];lia
theorem z6a(lo hi:Option Int)(n:Nat):Builtin.Slice.sliceAdjust lo hi 1 (n:Int)=(((sIx n 0 lo:Nat):Int),((sIx n n hi:Nat):Int)):=by
 have h1: ¬((1:Int)<0):=by lia
 unfold Builtin.Slice.sliceAdjust
 simp only[h1,if_false]
 refine Prod.ext ?_ ?_
 ·cases lo with
  |none=>rfl
  |some v=>exact z6X v n 0
 ·cases hi with
  |none=>rfl
  |some v=>exact z6X v n n
theorem z6b(i j:Nat):Builtin.Slice.slicePlaces (i:Int) (j:Int) 1=j -i:=by
 unfold Builtin.Slice.slicePlaces
 have h1:(1:Int)>0:=by lia
 simp only[h1,if_true,Int.ediv_one]
 split<;>lia
theorem z3y{v:Value}{o:Option Int}{Q:Option Int->Shared->Prop}(p:IsPart v o)(h:Q o s):wpAny (model prog w) A (Builtin.Slice.slicePartIndex v) Q E s:=by
 cases p with
 |none=>exact slicePart_none h
 |int i t=>exact slicePart_int h
theorem z1y{sl:Addr}{vl vu:Value}{lo hi:Option Int}{n:Nat}{Q:Int×Int×Nat->Shared->Prop}(hs:s.heap.IsSliceOf sl vl vu .none)(pl:IsPart vl lo)(pu:IsPart vu hi)
 (h:Q (((sIx n 0 lo:Nat):Int),1,sIx n n hi -sIx n 0 lo) s):wpAny (model prog w) A (Builtin.Slice.sliceApplied (.ref sl) (pure (n:Int))) Q E s:=by
 obtain⟨os,hos,hcs,hds⟩:=id hs
 unfold Builtin.Slice.sliceApplied Builtin.Slice.sliceFields
 refine wpAny_bind (wpAny_bind (wpAny_field hos hds (x:=vl) rfl (wpAny_bind (wpAny_field hos hds (x:=vu) rfl (wpAny_bind (wpAny_field hos hds (x:= .none) rfl (wpAny_pure ?_)))))))
 refine wpAny_bind (slicePart_none ?_)
 show wpAny _ _ (if((1:Int)==0)=true then _ else _) _ _ s
 rw[if_neg (by decide)]
 refine wpAny_bind (z3y pl (wpAny_bind (z3y pu (wpAny_bind (wpAny_pure ?_)))))
 show wpAny _ _ (match Builtin.Slice.sliceAdjust lo hi 1 (n:Int) with|(lo,hi)=>pure (lo,(1:Int),Builtin.Slice.slicePlaces lo hi 1)) _ _ s
 rw[z6a lo hi n]
 show wpAny _ _ (pure (((sIx n 0 lo:Nat):Int),(1:Int),Builtin.Slice.slicePlaces ((sIx n 0 lo:Nat):Int) ((sIx n n hi:Nat):Int) 1)) _ _ s
 rw[z6b]
 exact wpAny_pure h
theorem z8O(xs:Array Value)(i k:Nat):((List.range k).filterMap fun(m:Nat)=>xs[((i:Int)+(m:Int)*1).toNat]?).toArray=((xs.toList.drop i).take k).toArray:=by
 have e:(fun(m:Nat)=>xs[((i:Int)+(m:Int)*1).toNat]?)=fun m=>xs[i+m]? :=by
  funext m
  have:((i:Int)+(m:Int)*1).toNat=i+m:=by lia
  rw[this]
 rw[e]
 have:=pick_run xs i k
 rw[List.filterMap_map] at this
 have e2:((fun x=>xs[x]?)∘fun x=>i+x)=fun m=>xs[i+m]? :=rfl
 rw[e2] at this
 rw[this]
theorem getItem_tuple_cut{t sl:Addr}{items:Array Value}{vl vu:Value}{lo hi:Option Int}{Q:Value->Shared->Prop}(ht:IsTup s.heap t items)(hs:s.heap.IsSliceOf sl vl vu .none)(pl:IsPart vl lo)(pu:IsPart vu hi)
 (hw: ¬(sIx items.size 0 lo=0/\sIx items.size items.size hi=items.size))
 (h:Q (.ref s.heap.objs.size) {s with heap:=s.heap.push {cls:= .type "tuple",data:= .seq ((items.toList.drop (sIx items.size 0 lo)).take (sIx items.size items.size hi -sIx items.size 0 lo)).toArray}})
 (hsz:items.size<=sizeLine):wpAny (model prog w) A (getItem (.ref t) (.ref sl)) Q E s:=by
 have htake:sizeOk (.seq ((items.toList.drop (sIx items.size 0 lo)).take (sIx items.size items.size hi -sIx items.size 0 lo)).toArray):=by
  show((items.toList.drop (sIx items.size 0 lo)).take (sIx items.size items.size hi -sIx items.size 0 lo)).toArray.size<=sizeLine
  rw[List.size_toArray,List.length_take,List.length_drop,Array.length_toList]
  lia
 have hj:sIx items.size items.size hi<=items.size:=zc4 _ _ (Nat.le_refl _) hi
 obtain⟨os,hos,hcs,hds⟩:=id hs
 have hTs:s.TypeIs (.ref sl) "slice" :=⟨os,hos,hcs⟩
 unfold getItem
 try with_reducible refine wpAny_holding ?_
 first|refine wpAny_bind (wpAny_pure ?_)|skip
 refine wpAny_bind (wpAny_sequenceKey ht.typeIs (by decide) ?_)
 refine wpAny_bind (wpAny_callSpecial?_slot (name:=Str.ofString "__getitem__") ht.typeIs PyProof.Rows.slot_tuple_getitem
  (wpAny_call_entry PyProof.Rows.slot_tuple_getitem ht.typeIs entry_tuple_getitem ?_ (args_tuple_getitem _ _)))
 show wpAny _ _ (Builtin.Tuple.tupleItemsOf (.ref t)>>=_) _ _ s
 refine wpAny_bind (tupleItemsOf_ ht ?_)
 refine wpAny_bind (wpAny_typeOf hTs ?_)
 rw[if_pos (by decide)]
 refine wpAny_bind (z1y hs pl pu ?_)
 have hno: ¬((((sIx items.size 0 lo:Nat):Int)==0&&(1:Int)==1&&(sIx items.size items.size hi -sIx items.size 0 lo)==items.size)=true):=by
  intro q
  rw[Bool.and_eq_true,Bool.and_eq_true] at q
  have q1:((sIx items.size 0 lo:Nat):Int)=0:=eq_of_beq q.1.1
  have q2:sIx items.size items.size hi -sIx items.size 0 lo=items.size:=eq_of_beq q.2
  exact hw ⟨by lia,by lia⟩
 show wpAny _ _ (if(((sIx items.size 0 lo:Nat):Int)==0&&(1:Int)==1&&(sIx items.size items.size hi -sIx items.size 0 lo)==items.size)=true then _ else _) _ _ s
 rw[if_neg hno,z8O]
 first
  |exact wpAny_bind (m:=Builtin.Tuple.tupleExact _) (wpAny_newObj_type (wpAny_pure ⟨_,rfl,wpAny_pure h⟩) htake)
  |exact wpAny_bind (m:=Builtin.Tuple.tupleExact _) (wpAny_newObj_type (wpAny_bind (wpAny_pure (wpAny_pure ⟨_,rfl,wpAny_pure h⟩))) htake)
  |exact wpAny_bind (wpAny_bind (m:=Builtin.Tuple.tupleExact _) (wpAny_newObj_type (wpAny_pure (wpAny_pure ⟨_,rfl,wpAny_pure h⟩)) htake))
  |exact wpAny_bind (wpAny_bind (m:=Builtin.Tuple.tupleExact _) (wpAny_newObj_type (wpAny_pure ⟨_,rfl,wpAny_pure h⟩) htake))
end
end HT
namespace L2
open PySem PySem.Spec PyProof.Rows
noncomputable abbrev TO:=St->Hp->(Option Int->Hp->Prop)->Prop
noncomputable def PO(X:Cx)(e:Option Expr)(t:TO):Prop:=
 ∀(pins:List (Addr×Obj)) (s:Shared) (σ:St) (H:Hp) (Q:Option Int->Hp->Prop),Inv X pins σ H s->t σ H Q->
  wpAny (model X.prog X.w) X.A (evalPart e X.env) (fun u s'=> ∃o H',Inv X pins σ H' s'/\IsPart u o/\Q o H') X.xe s
noncomputable def zaa:TO:=fun _ H Q=>Q none H
noncomputable def z8P(t:TE):TO:=fun σ H Q=>t σ H fun x H1=> ∃i,x= .int i/\Q (some i) H1
section
variable{X:Cx}{e:Expr}{te:TE}{lo hi:Option Expr}{tl th:TO}{pos p2:Pos}
theorem zab:PO X none zaa:=by
 intro pins s σ H Q I h
 rw[evalPart_none]
 exact wpAny_pure ⟨none,H,I, .none,h⟩
theorem z6Y(h:PE X e te):PO X (some e) (z8P te):=by
 intro pins s σ H Q I hw
 rw[evalPart_some]
 refine thn (h pins s σ H _ I hw) fun u s1 ⟨x,H1,I1,r1,q1⟩=> ?_
 obtain⟨i,rfl,q⟩:=q1
 obtain⟨t,rfl⟩:=r1
 exact⟨some i,H1,I1, .int i t,q⟩
noncomputable def SlR(X:Cx)(r:V->Option Int->Option Int->Hp->VK->Prop):Prop:=
 ∀(pins:List (Addr×Obj)) (s:Shared) (σ:St) (H:Hp) (x:V) (v vl vu:Value) (lo hi:Option Int) (sl:Addr) (Q:VK),Inv X pins σ H s->RelV x v->s.heap.IsSliceOf sl vl vu .none->IsPart vl lo->IsPart vu hi->r x lo hi H Q->
  ∃T id,typeLookup (.type T) "__getitem__" =pure (some (.builtin id))/\s.TypeIs v T/\wpAny (model X.prog X.w) X.A (getItem v (.ref sl)) (EP X pins σ Q) X.xe s
theorem SlR.or{r r':V->Option Int->Option Int->Hp->VK->Prop}(h:SlR X r)(h':SlR X r'):SlR X (fun x lo hi H Q=>r x lo hi H Q\/r' x lo hi H Q):=by
 intro pins s σ H x v vl vu lo hi sl Q I rx hs pl pu q
 rcases q with q|q
 ·exact h pins s σ H x v vl vu lo hi sl Q I rx hs pl pu q
 ·exact h' pins s σ H x v vl vu lo hi sl Q I rx hs pl pu q
noncomputable def tSl(r:V->Option Int->Option Int->Hp->VK->Prop)(te:TE)(tl th:TO):TE:=fun σ H Q=>te σ H fun x H1=>tl σ H1 fun l H2=>th σ H2 fun u H3=>r x l u H3 Q
theorem z8Q{r:V->Option Int->Option Int->Hp->VK->Prop}(hr:SlR X r)(he:PE X e te)(hl:PO X lo tl)(hu:PO X hi th):PE X (.Subscript e (.Slice lo hi none p2) pos) (tSl r te tl th):=by
 intro pins s σ H Q I h
 refine Subscript_ (thn (he pins s σ H _ I h) fun v s1 ⟨x,H1,I1,r1,q1⟩=> ?_)
 refine wpAny_Slice (thn (hl pins s1 σ H1 _ I1 q1) fun vl s2 ⟨l,H2,I2,pl,q2⟩=>thn (hu pins s2 σ H2 _ I2 q2) fun vu s3 ⟨u,H3,I3,pu,q3⟩=> ?_)
 rw[evalPart_none]
 refine wpAny_pure ?_
 have I4:Inv X pins σ H3 {s3 with heap:=s3.heap.push {cls:= .type "slice",data:= .fields #[vl,vu, .none]}}:=I3.kept (t':=s3.toks) fun b ob q=>Heap.get?_push_of_some _ q
 obtain⟨T,id,hT,ht,hg⟩:=hr pins {s3 with heap:=s3.heap.push {cls:= .type "slice",data:= .fields #[vl,vu, .none]}} σ H3 x v vl vu l u s3.heap.objs.size Q I4 r1 (Heap.IsSliceOf.new ..) pl pu q3
 show wpAny (model X.prog X.w) X.A (subscriptTail e (.Slice lo hi none p2) v (.ref s3.heap.objs.size)) (EP X pins σ Q) X.xe {s3 with heap:=s3.heap.push {cls:= .type "slice",data:= .fields #[vl,vu, .none]}}
 exact tail_any (ops:=[.ref s3.heap.objs.size,v]) ht hT hg (by with_unfolding_all rfl)
noncomputable def cutV(xs:List V)(lo hi:Option Int):List V:=(xs.drop (HT.sIx xs.length 0 lo)).take (HT.sIx xs.length xs.length hi -HT.sIx xs.length 0 lo)
theorem z2K(xs:List V)(lo hi:Option Int):(cutV xs lo hi).length<=xs.length:=by
 unfold cutV
 rw[List.length_take,List.length_drop]
 lia
noncomputable def rSlT(K:W.Frag):V->Option Int->Option Int->Hp->VK->Prop:=fun x lo hi H Q=> ∃a xs,x= .ref a/\SqT K H a xs/\
 ¬(HT.sIx xs.length 0 lo=0/\HT.sIx xs.length xs.length hi=xs.length)/\∀p,H p=none->Q (.ref p) (upd H p (.tup (cutV xs lo hi)))
theorem zc5:SlR X (rSlT X.K):=by
 intro pins s σ H x v vl vu lo hi sl Q I rx hs pl pu h
 obtain⟨a,xs,rfl,hx,hw,q⟩:=h
 cases rx
 obtain⟨its,r,ht,hz⟩:=I.tuple hx
 have hlen:its.toArray.size=xs.length:=by rw[List.size_toArray];exact r.length.symm
 refine⟨"tuple",_,PyProof.Rows.slot_tuple_getitem.lookup,ht.typeIs, ?_⟩
 refine HT.getItem_tuple_cut ht hs pl pu (by rw[hlen];exact hw) ?_ (by rw[hlen];exact hz)
 rw[hlen]
 refine⟨.ref s.heap.objs.size,_,I.laid (t':=s.toks) (o:= .tup (cutV xs lo hi)) (fun b ob q=>Heap.get?_push_of_some _ q) (Nat.le_refl _) ?_,rfl,q _ (I.hok.fresh (Nat.le_refl _))⟩
 exact⟨Nat.le_trans (z2K xs lo hi) hz,_,(r.drop (HT.sIx xs.length 0 lo)).take (HT.sIx xs.length xs.length hi -HT.sIx xs.length 0 lo),IsTup.new _ _⟩
noncomputable def zek(K:W.Frag):R2:=fun x y H Q=> ∃a b xs ys,x= .ref a/\y= .ref b/\SqT K H a xs/\SqT K H b ys/\xs≠[]/\xs.length+ys.length<=sizeLine/\
 (ys=[]->Q (.ref a) H)/\(ys≠[]->∀p,H p=none->Q (.ref p) (upd H p (.tup (xs++ys))))
theorem Vals.nil_iff{xs:List V}{us:List Value}(r:Vals xs us):us=[]↔xs=[]:=by
 cases r with
 |nil=>simp
 |cons _ _=>simp
theorem zac:OpR X (binaryOp .Add) (zek X.K):=by
 intro pins s σ H x y v u Q I rx ry h
 obtain⟨a,b,xs,ys,rfl,rfl,ha,hb,hx,hz,q1,q2⟩:=h
 cases rx
 cases ry
 obtain⟨its,r1,p1,_⟩:=I.tuple ha
 obtain⟨its2,r2,p2,_⟩:=I.tuple hb
 refine HT.cat_tup p1 p2 (fun z=>hx (r1.nil_iff.mp z)) (fun z=>⟨.ref a,H,I,rfl,q1 (r2.nil_iff.mp z)⟩) (fun z=> ?_) (by rw[<-r1.length,<-r2.length];exact hz)
 refine⟨.ref s.heap.objs.size,_,I.laid (t':=s.toks) (o:= .tup (xs++ys)) (fun b ob q=>Heap.get?_push_of_some _ q) (Nat.le_refl _) ?_,rfl,q2 (fun w=>z (r2.nil_iff.mpr w)) _ (I.hok.fresh (Nat.le_refl _))⟩
 exact⟨by rw[List.length_append];exact hz,_,r1.append r2,IsTup.new _ _⟩
end
noncomputable def ixN(n:Nat)(i:Int):Option Nat:=if 0<=i then(if i<n then some i.toNat else none) else if -(n:Int)<=i then some (i+n).toNat else none
noncomputable def atI{α:Type}(xs:List α)(i:Int):Option α:=(ixN xs.length i).bind fun j=>xs[j]?
theorem z6Z{n:Nat}{i:Int}{j:Nat}(h:ixN n i=some j):seqIndex? i n=some j/\j<n/\-(n:Int)<=i/\i<n:=by
 unfold ixN at h
 by_cases h0:0<=i
 ·rw[if_pos h0] at h
  by_cases h1:i<n
  ·rw[if_pos h1] at h
   have e:i.toNat=j:=Option.some.inj h
   exact⟨by rw[seqIndex_of h0 h1,e],by lia,by lia,h1⟩
  ·rw[if_neg h1] at h;cases h
 ·rw[if_neg h0] at h
  by_cases h1: -(n:Int)<=i
  ·rw[if_pos h1] at h
   have e:(i+n).toNat=j:=Option.some.inj h
   exact⟨by rw[seqIndex_neg (by lia) h1,e],by lia,h1,by lia⟩
  ·rw[if_neg h1] at h;cases h
theorem z70{α:Type}{xs:List α}{i:Int}{v:α}(h:atI xs i=some v): ∃j,seqIndex? i xs.length=some j/\xs[j]? =some v/\j<xs.length/\-(xs.length:Int)<=i/\i<xs.length:=by
 unfold atI at h
 cases e:ixN xs.length i with
 |none=>rw[e] at h;cases h
 |some j=>
  rw[e] at h
  obtain⟨h1,h2,h3,h4⟩:=z6Z e
  exact⟨j,h1,h,h2,h3,h4⟩
theorem zad{α:Type}{xs:List α}{j:Nat}{v:α}(h:xs[j]? =some v):atI xs (j:Int)=some v:=by
 have hj:j<xs.length:=(List.getElem?_eq_some_iff.mp h).1
 have e:ixN xs.length (j:Int)=some j:=by
  unfold ixN
  rw[if_pos (by lia),if_pos (by lia)];simp
 unfold atI;rw[e];exact h
noncomputable def z1B(b:Expr):Prop:= ∀o i,subscripted b false o i=operate [o,i] (getItem o i)
noncomputable def IxR(X:Cx)(r:R2):Prop:=
 ∀(value slice:Expr) (pins:List (Addr×Obj)) (s:Shared) (σ:St) (H:Hp) (x y:V) (v u:Value) (Q:VK),Inv X pins σ H s->RelV x v->RelV y u->r x y H Q->
  subscripted slice false v u=operate [v,u] (getItem v u)->wpAny (model X.prog X.w) X.A (subscriptTail value slice v u) (EP X pins σ Q) X.xe s
noncomputable def MtR(X:Cx)(id:String)(r:V->List V->Hp->VK->Prop):Prop:=
 ∀(pins:List (Addr×Obj)) (s:Shared) (σ:St) (H:Hp) (x:V) (xs:List V) (v:Value) (us:List Value) (Q:VK),Inv X pins σ H s->RelV x v->Vals xs us->r x xs H Q->
  wpAny (model X.prog X.w) X.A (call (.builtin id) (v::us)) (EP X pins σ Q) X.xe s
section
variable{X:Cx}{a b:Expr}{ta tb:TE}{pos:Pos}
theorem IxR.or{r r':R2}(h:IxR X r)(h':IxR X r'):IxR X (fun x y H Q=>r x y H Q\/r' x y H Q):=by
 intro value slice pins s σ H x y v u Q I rx ry q hs
 rcases q with q|q
 ·exact h value slice pins s σ H x y v u Q I rx ry q hs
 ·exact h' value slice pins s σ H x y v u Q I rx ry q hs
theorem zel{r:R2}(hr:IxR X r)(ha:PE X a ta)(hb:PE X b tb)(hs:z1B b):PE X (.Subscript a b pos) (tOp r ta tb):=by
 intro pins s σ H Q I h
 exact Subscript_ (binT ha hb I h fun v u s2 x y H2 I2 rx ry q=>hr a b pins s2 σ H2 x y v u Q I2 rx ry q (hs _ _))
noncomputable def rIxL(K:W.Frag):R2:=fun x y H Q=> ∃p xs i v,x= .ref p/\y= .int i/\SqL K H p xs/\atI xs i=some v/\Q v H
noncomputable def rIxT(K:W.Frag):R2:=fun x y H Q=> ∃p xs i v,x= .ref p/\y= .int i/\SqT K H p xs/\atI xs i=some v/\Q v H
theorem zae:IxR X (rIxL X.K):=by
 intro value slice pins s σ H x y v u Q I rx ry h hs
 obtain⟨p,xs,i,z,rfl,rfl,hq,he,q⟩:=h
 cases rx
 obtain⟨t,rfl⟩:=ry
 obtain⟨its,r,pl,hz⟩:=I.list hq
 obtain⟨j,h1,h2,h3,h4,h5⟩:=z70 he
 obtain⟨w,ew,rw'⟩:=r.get h2
 have hl:=r.length
 have hn:=z4m
 have fin:EP X pins σ Q w s:=⟨z,H,I,rw',q⟩
 by_cases h0:0<=i
 ·have hj:i.toNat=j:=by
   rw[seqIndex_of h0 h5] at h1
   exact Option.some.inj h1
  exact item_listR pl.isList h0 (by lia) (by rw[hj];simpa using ew) fin hs
 ·have hj:(i+(its.toArray.size:Int)).toNat=j:=by
   rw[seqIndex_neg (by lia) h4] at h1
   rw[List.size_toArray,<-hl]
   exact Option.some.inj h1
  exact subscriptTail_builtinR (x:=w) pl.isList.typeIs slot_list_getitem.lookup
   (wpAny_getItem_list_neg (Q:=fun r s'=>r=w/\EP X pins σ Q r s') pl.isList (by lia) (by rw[List.size_toArray]<;>lia) (by lia) (by rw[hj];simpa using ew) ⟨rfl,fin⟩) hs
theorem zc6:IxR X (rIxT X.K):=by
 intro value slice pins s σ H x y v u Q I rx ry h hs
 obtain⟨p,xs,i,z,rfl,rfl,hq,he,q⟩:=h
 cases rx
 obtain⟨t,rfl⟩:=ry
 obtain⟨its,r,pl,hz⟩:=I.tuple hq
 obtain⟨j,h1,h2,h3,h4,h5⟩:=z70 he
 obtain⟨w,ew,rw'⟩:=r.get h2
 have hl:=r.length
 have hn:=z4m
 have fin:EP X pins σ Q w s:=⟨z,H,I,rw',q⟩
 exact subscriptTail_builtinR (x:=w) pl.typeIs slot_tuple_getitem.lookup
  (getItem_tuple (j:=j) (Q:=fun r s'=>r=w/\EP X pins σ Q r s') pl (by lia) (by lia) (by rw[List.size_toArray,<-hl];exact h1) (by simpa using ew) ⟨rfl,fin⟩) hs
theorem z6c(its:List Value)(n j:Nat)(u:Value):Obj.mapSeq (·.setIfInBounds j u) {cls:= .type "list",data:= .seq its.toArray n}={cls:= .type "list",data:= .seq (its.set j u).toArray n}:=by
 simp[Obj.mapSeq]
theorem Inv.lst{pins:List (Addr×Obj)}{σ:St}{H:Hp}{s:Shared}{p:Addr}{xs:List V}(I:Inv X pins σ H s)(h:H p=some (.lst xs)):
 ∃(its:List Value) (n:Nat),Vals xs its/\s.heap.get? p=some {cls:= .type "list",data:= .seq its.toArray n}/\xs.length<=sizeLine:=by
 obtain⟨z,its,n,r,e⟩:=I.hok p _ h
 exact⟨its,n,r,e,z⟩
theorem Inv.lstUpd{pins:List (Addr×Obj)}{σ:St}{H:Hp}{s:Shared}{p:Addr}{xs ys:List V}{its its':List Value}{n n':Nat}{f:Obj->Obj}(I:Inv X pins σ H s)(h:H p=some (.lst xs))
 (ho:s.heap.get? p=some {cls:= .type "list",data:= .seq its.toArray n}) (hf:f {cls:= .type "list",data:= .seq its.toArray n}={cls:= .type "list",data:= .seq its'.toArray n'}) (r:Vals ys its') (hz:ys.length<=sizeLine) (t:Nat):
 Inv X pins σ (upd H p (.lst ys)) {s with heap:=s.heap.update p f,toks:=t}:=by
 have e:(s.heap.update p f).get? p=some {cls:= .type "list",data:= .seq its'.toArray n'}:=by
  rw[Heap.get?_update_self f ho (by rw[hf]<;>rfl),hf]
 refine I.write (x:=p) (e:=p) (by rw[h];trivial) (.inl rfl) (fun b u hb q=>(Heap.get?_update_other _ _ (Ne.symm hb)).trans q) ⟨_,e⟩ ?_
 exact⟨hz,its',n',r,e⟩
noncomputable def z8R:V->V->V->Hp->(Hp->Prop)->Prop:=fun o i v H Q=> ∃p xs k j,o= .ref p/\i= .int k/\H p=some (.lst xs)/\ixN xs.length k=some j/\Q (upd H p (.lst (xs.set j v)))
theorem z3P:PSet X z8R:=by
 intro pins s σ H o i v ov iv u Q I ro ri rv h
 obtain⟨p,xs,k,j,rfl,rfl,hp,hj,q⟩:=h
 cases ro
 obtain⟨t,rfl⟩:=ri
 obtain⟨its,n,r,ho,hz⟩:=I.lst hp
 obtain⟨h1,h2,h3,h4⟩:=z6Z hj
 have hl:=r.length
 have hn:=z4m
 have I':Inv X pins σ (upd H p (.lst (xs.set j v))) {s with heap:=s.heap.update p (Obj.mapSeq (·.setIfInBounds j u))}:=
  I.lstUpd hp ho (z6c its n j u) (r.set rv j) (by rw[List.length_set];exact hz) s.toks
 by_cases h0:0<=k
 ·have hk:k.toNat=j:=by
   rw[seqIndex_of h0 h4] at h1
   exact Option.some.inj h1
  exact W.ki_setAt ho h0 (by lia) (by rw[List.size_toArray,<-hl];exact h4) (by rw[hk];exact⟨_,I',q⟩)
 ·have hk:(k+(its.toArray.size:Int)).toNat=j:=by
   rw[seqIndex_neg (by lia) h3] at h1
   rw[List.size_toArray,<-hl]
   exact Option.some.inj h1
  exact W.ki_setBack ho (by lia) (by rw[List.size_toArray,<-hl];exact h3) (by lia) (by rw[hk];exact⟨_,I',q⟩)
theorem z4r(lo hi:Option Int)(n:Nat):(sliceBounds lo hi none n).1=((HT.sIx n 0 lo:Nat):Int)/\(sliceBounds lo hi none n).2.1=((HT.sIx n n hi:Nat):Int)/\(sliceBounds lo hi none n).2.2=1:=by
 refine⟨?_, ?_,rfl⟩
 ·cases lo with
  |none=>simp[sliceBounds,HT.sIx]
  |some i=>
   simp only[sliceBounds,HT.sIx,Option.getD_none,show(1:Int)>0 by decide,if_true]
   by_cases h:i<0
   ·simp only[h,if_true]<;>lia
   ·simp only[h,if_false]<;>lia
 ·cases hi with
  |none=>simp[sliceBounds,HT.sIx]
  |some i=>
   simp only[sliceBounds,HT.sIx,Option.getD_none,show(1:Int)>0 by decide,if_true]
   by_cases h:i<0
   ·simp only[h,if_true]<;>lia
   ·simp only[h,if_false]<;>lia
theorem z3Q(its:List Value)(lo hi:Option Int):slicePick its.toArray lo hi none=((its.drop (HT.sIx its.length 0 lo)).take (HT.sIx its.length its.length hi -HT.sIx its.length 0 lo)).toArray:=by
 obtain⟨h1,h2,h3⟩:=z4r lo hi its.toArray.size
 unfold slicePick
 rw[h1,h2,h3]
 simp only[sliceRange_one,pick_run,List.size_toArray]<;>rfl
noncomputable def rSlL(K:W.Frag):V->Option Int->Option Int->Hp->VK->Prop:=fun x lo hi H Q=> ∃a xs,x= .ref a/\SqL K H a xs/\∀p,H p=none->Q (.ref p) (upd H p (.lst (cutV xs lo hi)))
theorem zaf:SlR X (rSlL X.K):=by
 intro pins s σ H x v vl vu lo hi sl Q I rx hs pl pu h
 obtain⟨a,xs,rfl,hx,q⟩:=h
 cases rx
 obtain⟨its,r,ht,hz⟩:=I.list hx
 have hlen:=r.length
 refine⟨"list",_,slot_list_getitem.lookup,ht.isList.typeIs, ?_⟩
 refine wpAny_getItem_list_slice ht.isList hs pl pu .none (by simp) ?_ (by rw[List.size_toArray]<;>lia)
 rw[z3Q,<-hlen]
 refine⟨.ref s.heap.objs.size,_,I.laid (t':=s.toks) (o:= .lst (cutV xs lo hi)) (fun b ob q=>Heap.get?_push_of_some _ q) (Nat.le_refl _) ?_,rfl,q _ (I.hok.fresh (Nat.le_refl _))⟩
 exact⟨Nat.le_trans (z2K xs lo hi) hz,_,0,(r.drop (HT.sIx xs.length 0 lo)).take (HT.sIx xs.length xs.length hi -HT.sIx xs.length 0 lo),Heap.get?_push_size _ rfl⟩
theorem z4s:CallR X (.builtin "len") (fun xs H Q=> ∃p ys,xs=[.ref p]/\(SqL X.K H p ys\/SqT X.K H p ys)/\Q (.int ys.length) H):=by
 intro pins s σ H xs us Q I r h
 obtain⟨p,ys,rfl,hq,q⟩:=h
 obtain⟨u,rfl,rx⟩:=z3N r
 cases rx
 have hn:=z4m
 rcases hq with hq|hq
 ·obtain⟨its,r',pl,hz⟩:=I.list hq
  have hlen:=r'.length
  exact Calls.call_len_list pl.isList (by simp only[List.size_toArray]<;>lia) ⟨.int ys.length,H,I.tok _,⟨s.toks+1,by rw[List.size_toArray,hlen]⟩,q⟩
 ·obtain⟨its,r',pl,hz⟩:=I.tuple hq
  have hlen:=r'.length
  exact len_tuple pl (by simp only[List.size_toArray]<;>lia) ⟨.int ys.length,H,I.tok _,⟨s.toks+1,by rw[List.size_toArray,hlen]⟩,q⟩
theorem z4t:CallR X (.type "list") (fun xs H Q=> ∃p ys,xs=[.ref p]/\(SqL X.K H p ys\/SqT X.K H p ys)/\∀l,H l=none->Q (.ref l) (upd H l (.lst ys))):=by
 intro pins s σ H xs us Q I r h
 obtain⟨p,ys,rfl,hq,q⟩:=h
 obtain⟨u,rfl,rx⟩:=z3N r
 cases rx
 have fin: ∀(its:List Value),Vals ys its->ys.length<=sizeLine->∀(h':Heap) (c':Nat),(∀b o',s.heap.get? b=some o'->h'.get? b=some o')->
  h'.get? s.heap.objs.size=some {cls:= .type "list",dict:=none,data:= .seq its.toArray c',slots:= #[]}->EP X pins σ Q (.ref s.heap.objs.size) {s with heap:=h'}:=fun its r' hz h' c' kp e=>
  ⟨.ref s.heap.objs.size,_,I.laid (t':=s.toks) kp (Nat.le_refl _) (show z1b X.prog X.w _ h' _ (.lst ys) from⟨hz,its,c',r',e⟩),rfl,q _ (I.hok.fresh (Nat.le_refl _))⟩
 rcases hq with hq|hq
 ·obtain⟨its,r',pl,hz⟩:=I.list hq
  have hlen:=r'.length
  obtain⟨o,ho,hc,n,hd⟩:=pl.isList
  exact call_list_seq p (.inl rfl) ho hc hd (fun h' c' kp e=>fin its r' hz h' c' kp e) (by simp only[List.size_toArray]<;>lia)
 ·obtain⟨its,r',pl,hz⟩:=I.tuple hq
  have hlen:=r'.length
  obtain⟨o,ho,hc,n,hd⟩:=pl
  exact call_list_seq p (.inr rfl) ho hc hd (fun h' c' kp e=>fin its r' hz h' c' kp e) (by simp only[List.size_toArray]<;>lia)
theorem z3R:CallR X (.type "tuple") (fun xs H Q=> ∃p ys,xs=[.ref p]/\((SqL X.K H p ys/\∀l,H l=none->Q (.ref l) (upd H l (.tup ys)))\/(SqT X.K H p ys/\Q (.ref p) H))):=by
 intro pins s σ H xs us Q I r h
 obtain⟨p,ys,rfl,h⟩:=h
 obtain⟨u,rfl,rx⟩:=z3N r
 cases rx
 rcases h with⟨hq,q⟩|⟨hq,q⟩
 ·obtain⟨its,r',pl,hz⟩:=I.list hq
  have hlen:=r'.length
  refine call_tuple_list pl.isList (fun h' kp=> ?_) (by simp only[List.size_toArray]<;>lia)
  have I1:Inv X pins σ H {s with heap:=h'}:=I.kept (t':=s.toks) kp
  have I2:Inv X pins σ (upd H h'.objs.size (.tup ys)) {s with heap:=h'.push {cls:= .type "tuple",data:= .seq its.toArray}}:=
   I1.laid (t':=s.toks) (fun b o e=>Heap.get?_push_of_some _ e) (Nat.le_refl _) (show z1b X.prog X.w _ _ _ (.tup ys) from⟨hz,its,r',IsTup.new _ _⟩)
  exact⟨.ref h'.objs.size,_,I2,rfl,q _ (I1.hok.fresh (Nat.le_refl _))⟩
 ·obtain⟨its,r',pl,hz⟩:=I.tuple hq
  exact call_tuple_same pl ⟨.ref p,H,I,rfl,q⟩
noncomputable def tyV(K:W.Frag)(T:String)(x:V)(H:Hp):Prop:=match x with
 | .str _=>T= "str"
 | .int _=>T= "int"
 | .ref p=>(T= "list" /\∃xs,SqL K H p xs)\/(T= "tuple" /\∃o,K.lookup p=some o/\o.cls= .type "tuple" /\o.dict=none)\/
  (T= "dict" /\((∃kvs,H p=some (.dK kvs))\/∃kvs,H p=some (.dT kvs)))\/(T= "set" /\∃S n,H p=some (.set S n))
 |_=>False
theorem zc7{pins:List (Addr×Obj)}{σ:St}{H:Hp}{s:Shared}{T:String}{x:V}{v:Value}(I:Inv X pins σ H s)(r:RelV x v)(ty:tyV X.K T x H):
 s.TypeIs v T/\∀a,v= .ref a->∃ob,s.heap.get? a=some ob/\ob.dict=none:=by
 cases x with
 |str z=>
  obtain⟨t,rfl⟩:=r
  cases(show T= "str" from ty)
  exact⟨typeIs_str s z t,fun _ e=>nomatch e⟩
 |int i=>
  obtain⟨t,rfl⟩:=r
  cases(show T= "int" from ty)
  exact⟨typeIs_int s i t,fun _ e=>nomatch e⟩
 |ref p=>
  cases r
  rcases ty with⟨rfl,xs,hq⟩|⟨rfl,o,hk,hc,hd⟩|⟨rfl,hk⟩|⟨rfl,S,n,hk⟩
  ·obtain⟨its,_,pl,_⟩:=I.list hq
   refine⟨pl.isList.typeIs,fun a e=> ?_⟩
   cases e
   obtain⟨o,n,e,c,hd,_⟩:=pl
   exact⟨o,e,hd⟩
  ·refine⟨⟨o,I.kIn p o hk,hc⟩,fun a e=> ?_⟩
   cases e
   exact⟨o,I.kIn _ o hk,hd⟩
  ·have z: ∃o,s.heap.get? p=some o/\o.ExactDict:=by
    rcases hk with⟨kvs,hk⟩|⟨kvs,hk⟩
    ·obtain⟨_,_,_,_,o,_,_,e,ex,_⟩:=I.hok p _ hk
     exact⟨o,e,ex⟩
    ·obtain⟨_,_,_,_,o,_,_,e,ex,_⟩:=I.hok p _ hk
     exact⟨o,e,ex⟩
   obtain⟨o,e,ex⟩:=z
   refine⟨⟨o,e,ex.1⟩,fun a e2=> ?_⟩
   cases e2
   exact⟨o,e,ex.2.1⟩
  ·obtain⟨o,_,_,_,e,ex,_⟩:=I.hok p _ hk
   refine⟨⟨o,e,ex.1⟩,fun a e2=> ?_⟩
   cases e2
   exact⟨o,e,ex.2.1⟩
 |_=>exact False.elim ty
noncomputable def tBM(K:W.Frag)(T:String)(r:V->List V->Hp->VK->Prop)(to:TE)(t:TA):TE:=fun σ H Q=>to σ H fun x H1=>tyV K T x H1/\t σ H1 fun xs H2=>r x xs H2 Q
variable{o e:Expr}{es:List Expr}{to:TE}{t:TA}{name:Str}{apos cpos:Pos}{T id:String}{r:V->List V->Hp->VK->Prop}
theorem zem(pa:PlainAttrs T)(slot:Slot T name id)(hty:typeOf (.builtin id)=pure (.type "method_descriptor"))(hm:MtR X id r)(ho:PE X o to)(ha:PA X (e::es) t)
 (hbase:attributeBase o name X.env (eval o X.env)=eval o X.env:=by rfl)
 (hfew:((backTo cpos (starEach (e::es) X.env)).all (fun x=> !x.1)&&(backToKw cpos (keywordEach [] X.env)).all (fun x=>x.1.isSome)
  &&decide ((e::es).length+([]:List Keyword).length+(if([]:List Keyword).isEmpty then 0 else 1)<30))=true:=by rfl)
 (hline:(apos.endLine==cpos.line)=true:=by rfl) (hs:starEach (e::es) X.env=(false,eval e X.env)::starEach es X.env:=by rfl) (hplain:(backTo cpos (starEach es X.env)).any (·.1)=false:=by rfl):
 PE X (.Call (.Attribute o name apos) (e::es) [] cpos) (tBM X.K T r to t):=by
 intro pins s σ H Q I h
 refine wpAny_Call_method_late hbase hfew hline rfl (thn (ho pins s σ H _ I h) fun v s1 ⟨x,H1,I1,r1,ty,q1⟩=> ?_)
 obtain⟨h1,h2⟩:=zc7 I1 r1 ty
 refine⟨T,id,pa,slot,hty,h1,h2, ?_⟩
 have hA:=ha cpos pins s1 σ H1 _ I1 q1
 rw[hs] at hA⊢
 refine Calls.callWith_builtin (by show(false||(backTo cpos (starEach es X.env)).any (·.1))=false;rw[hplain]<;>rfl) (Calls.evalArgs_plain ?_)
 exact thn hA fun us s2 ⟨vs,H2,I2,r2,q2⟩=>hm pins s2 σ H2 x vs v us Q I2 r1 r2 q2
end
noncomputable def MtM(X:Cx)(id:String)(r:V->List V->Hp->VK->Prop):Prop:=
 ∀(pins:List (Addr×Obj)) (s:Shared) (σ:St) (H:Hp) (x:V) (xs:List V) (v:Value) (us:List Value) (Q:VK),Inv X pins σ H s->RelV x v->Vals xs us->r x xs H Q->
  wpAny (model X.prog X.w) X.A (call (.builtin id) (v::us)) (EP X pins σ Q) X.xe s
theorem Vals.one: ∀{x:V} {us:List Value},Vals [x] us->∃u,us=[u]/\RelV x u
 |_,_, .cons r .nil=>⟨_,rfl,r⟩
theorem Vals.reverse{xs:List V}{us:List Value}(h:Vals xs us):Vals xs.reverse us.reverse:=by
 induction h with
 |nil=>exact .nil
 |cons r t ih=>rw[List.reverse_cons,List.reverse_cons];exact Vals.append ih (.cons r .nil)
theorem Vals.rep{xs:List V}{us:List Value}(h:Vals xs us): ∀k:Nat,Vals (List.replicate k xs).flatten (List.replicate k us).flatten
 |0=> .nil
 |k+1=>by
  rw[List.replicate_succ,List.replicate_succ,List.flatten_cons,List.flatten_cons]
  exact Vals.append h (Vals.rep h k)
theorem z2L(its:List Value): ∀(k:Nat) (acc:List Value),
 List.foldl (fun x1 x2=>x1++x2) acc.toArray (List.replicate k its.toArray)=(acc++(List.replicate k its).flatten).toArray
 |0,acc=>by simp
 |k+1,acc=>by
  have e:acc.toArray++its.toArray=(acc++its).toArray:=by simp
  have e2:(acc++its)++(List.replicate k its).flatten=acc++(List.replicate (k+1) its).flatten:=by
   rw[List.replicate_succ,List.flatten_cons,List.append_assoc]
  rw[<-e2,<-z2L its k (acc++its),<-e,List.replicate_succ,List.foldl_cons]
section
variable{X:Cx}{pins:List (Addr×Obj)}{σ:St}{H:Hp}{s:Shared}{l b:Addr}{xs ys zs:List V}
theorem Inv.lset{its its':List Value}{n:Nat}{f:Array Value->Array Value}{t':Nat}(I:Inv X pins σ H s)(hH:H l=some (.lst xs))
 (e:s.heap.get? l=some {cls:= .type "list",data:= .seq its.toArray n}) (hf:f its.toArray=its'.toArray) (hv:Vals ys its') (hz:ys.length<=sizeLine):
 Inv X pins σ (upd H l (.lst ys)) {s with heap:=s.heap.update l (Obj.mapSeq f),toks:=t'}:=by
 have q:=PySem.IsL.update e f
 rw[hf] at q
 refine I.write (x:=l) (e:=l) (by rw[hH];exact trivial) (.inl rfl) (fun b' u hb hu=>(Heap.get?_update_other s.heap (Obj.mapSeq f) (Ne.symm hb)).trans hu) ⟨_,q⟩ ?_
 exact⟨hz,its',_,hv,q⟩
theorem Inv.lnew{its:List Value}{t':Nat}(I:Inv X pins σ H s)(hv:Vals ys its)(hz:ys.length<=sizeLine):
 Inv X pins σ (upd H s.heap.objs.size (.lst ys)) {s with heap:=s.heap.push {cls:= .type "list",data:= .seq its.toArray},toks:=t'}:=
 I.laid (fun _ _ q=>Heap.get?_push_of_some _ q) (Nat.le_refl _) ⟨hz,its,0,hv,Heap.get?_push_size _ rfl⟩
theorem Inv.fresh(I:Inv X pins σ H s):H s.heap.objs.size=none:=I.hok.fresh (Nat.le_refl _)
theorem Inv.lstM(I:Inv X pins σ H s)(hH:H l=some (.lst xs)):xs.length<=sizeLine/\∃(its:List Value) (n:Nat),Vals xs its/\xs.length=its.length/\s.heap.get? l=some {cls:= .type "list",data:= .seq its.toArray n}:=by
 obtain⟨z,its,n,r,e⟩:=I.hok l _ hH
 exact⟨z,its,n,r,r.length,e⟩
theorem z8S{n:Nat}(h:n<=sizeLine):Builtin.List.listTooLong n=false:=by
 unfold Builtin.List.listTooLong
 exact decide_eq_false (by lia)
end
section
variable{X:Cx}
noncomputable def z71:V->List V->Hp->VK->Prop:=fun x vs H Q=> ∃l xs y,x= .ref l/\vs=[y]/\H l=some (.lst xs)/\xs.length<sizeLine/\Q .non (upd H l (.lst (xs++[y])))
theorem z2M:MtM X "list.append" z71:=by
 intro pins s σ H x vs v us Q I rx rv h
 obtain⟨l,xs,y,rfl,rfl,hH,hz,q⟩:=h
 cases rx
 obtain⟨u,rfl,ru⟩:=rv.one
 obtain⟨z,its,n,r,hl,e⟩:=I.lstM hH
 refine call_meets F.slot_list_append ⟨_,e,rfl⟩ F.entry_list_append (F.args_list_append_2 _ _) (PySem.list_append l its.toArray n u (by rw[List.size_toArray];lia)) ⟨e, ?_⟩
 refine⟨.non,_,I.lset (its':=its++[u]) hH e (by simp) (r.append (.cons ru .nil)) ?_,rfl,q⟩
 rw[List.length_append,List.length_singleton]
 lia
noncomputable def rCat:R2:=fun x y H Q=> ∃l b xs zs,x= .ref l/\y= .ref b/\H l=some (.lst xs)/\H b=some (.lst zs)/\xs.length+zs.length<=sizeLine/\∀p,H p=none->Q (.ref p) (upd H p (.lst (xs++zs)))
theorem zc8:OpR X (binaryOp .Add) rCat:=by
 intro pins s σ H x y v u Q I rx ry h
 obtain⟨l,b,xs,zs,rfl,rfl,hH,hB,hz,q⟩:=h
 cases rx
 cases ry
 obtain⟨z,its,n,r,hl,e⟩:=I.lstM hH
 obtain⟨z2,its2,n2,r2,hl2,e2⟩:=I.lstM hB
 refine PySem.P.add_list e e2 ?_ (by rw[List.size_toArray,List.size_toArray];lia)
 have ea:its.toArray++its2.toArray=(its++its2).toArray:=by simp
 rw[ea]
 exact⟨.ref _,_,I.lnew (t':=s.toks) (r.append r2) (by rw[List.length_append];lia),rfl,q _ I.fresh⟩
noncomputable def rRep:R2:=fun x y H Q=> ∃l k xs,x= .ref l/\y= .int k/\H l=some (.lst xs)/\-(2^63)<=k/\k<2^63/\xs.length*k.toNat<=sizeLine/\
 ∀p,H p=none->Q (.ref p) (upd H p (.lst (List.replicate k.toNat xs).flatten))
theorem z56{α:Type}(xs:List α)(k:Nat):(List.replicate k xs).flatten.length=k*xs.length:=by
 induction k with
 |zero=>simp
 |succ k ih=>rw[List.replicate_succ,List.flatten_cons,List.length_append,ih,Nat.succ_mul,Nat.add_comm]
theorem zc9:OpR X (binaryOp .Mult) rRep:=by
 intro pins s σ H x y v u Q I rx ry h
 obtain⟨l,k,xs,rfl,rfl,hH,h1,h2,hz,q⟩:=h
 cases rx
 obtain⟨t,rfl⟩:=ry
 obtain⟨z,its,n,r,hl,e⟩:=I.lstM hH
 have hlen:its.toArray.size*k.toNat<=sizeLine:=by rw[List.size_toArray,<-hl];exact hz
 have hcap: ¬its.toArray.size*k.toNat>(2^63 - 1)/8:=by
  have:(sizeLine:Nat)<=(2^63 - 1)/8:=by decide
  lia
 have hfit: ¬(!Builtin.List.listFitsIndex k)=true:=by
  rw[fitsIndex_both h1 h2]
  exact Bool.false_ne_true
 have hlong: ¬Builtin.List.listTooLong (its.toArray.size*k.toNat)=true:=by
  rw[z8S hlen]
  exact Bool.false_ne_true
 have hnew:List.foldl (fun x1 x2=>x1++x2) #[] (List.replicate (if its.toArray.isEmpty=true then 0 else k.toNat) its.toArray)=(List.replicate k.toNat its).flatten.toArray:=by
  have f0: ∀m:Nat,List.foldl (fun x1 x2=>x1++x2) #[] (List.replicate m its.toArray)=(List.replicate m its).flatten.toArray:=fun m=>by
   have:=z2L its m []
   rw[List.nil_append] at this
   exact this
  rw[f0]
  cases its with
  |nil=>simp
  |cons a r'=>rw[if_neg (by simp)]
 refine wpAny_binaryOp_repeat_ref (T:= "list") (U:= "int") (by decide) ⟨_,e,rfl⟩ (fun s'=>typeIs_int s' k t) noFill_list_mul F.fills_int_mul F.slot_int_rmul repeat_list F.slot_int_index.lookup
  (call_meets F.slot_int_rmul (typeIs_int s k t) F.entry_int_rmul (F.args_int_rmul_2 _ _) (int___rmul___int_list k t l its.toArray n)
   ⟨e,rfl,⟨_,e,rfl⟩,call_meets F.slot_list_mul ⟨_,e,rfl⟩ F.entry_list_mul (F.args_list_mul_2 _ _) (AutoListH.list___mul___list_int_3 l its.toArray n k t hfit hcap hlong) ⟨e, ?_⟩⟩)
 rw[hnew]
 exact⟨.ref _,_,I.lnew (t':=s.toks) (r.rep k.toNat) (by rw[z56,Nat.mul_comm];exact hz),rfl,q _ I.fresh⟩
end
section
variable{prog:Program}{w:World}{A:Around}{E:Value->Shared->Prop}{s:Shared}
set_option maxRecDepth 100000 in
end
section
variable{κ:Type}[DecidableEq κ]
noncomputable def valV(kvs:List (κ×V))(k:κ):Option V:=(kvs.find? fun kv=>decide (kv.1=k)).map (·.2)
noncomputable def putK(kvs:List (κ×V))(k:κ)(v:V):List (κ×V):=
 if(kvs.any fun kv=>decide (kv.1=k))=true then kvs.map (fun kv=>if kv.1=k then(kv.1,v) else kv) else kvs++[(k,v)]
theorem z2D{p:κ×V}{r:List (κ×V)}{k:κ}(e:p.1=k):valV (p::r) k=some p.2:=by simp[valV,List.find?_cons,e]
theorem z2E{p:κ×V}{r:List (κ×V)}{k:κ}(e: ¬p.1=k):valV (p::r) k=valV r k:=by simp[valV,List.find?_cons,e]
theorem z5B(k:κ): ∀kvs:List (κ×V),(kvs.any fun kv=>decide (kv.1=k))=(valV kvs k).isSome
 |[]=>rfl
 |p::r=>by
  rw[List.any_cons]
  by_cases e:p.1=k
  ·simp only[z2D e,decide_eq_true e,Bool.true_or,Option.isSome_some]
  ·rw[z2E e,decide_eq_false e,Bool.false_or];exact z5B k r
theorem z2N(kvs:List (κ×V))(k:κ)(v:V):(putK kvs k v).length<=kvs.length+1:=by
 unfold putK
 split
 ·rw[List.length_map];lia
 ·rw[List.length_append,List.length_cons,List.length_nil];lia
theorem RelO.isSome_eq{o:Option V}{u:Option Value}(r:RelO o u):o.isSome=u.isSome:=by
 cases o with
 |none=>cases u with
  |none=>rfl
  |some _=>exact(show False from r).elim
 |some _=>cases u with
  |none=>exact(show False from r).elim
  |some _=>rfl
theorem KV.val{kvs:List (κ×V)}{vs:List (κ×Value)}(r:KV kvs vs)(k:κ):RelO (valV kvs k) (valueAt vs k):=by
 unfold KV at r
 induction r with
 |nil=>exact True.intro
 | @cons p q ps qs h t ih=>
  obtain⟨h1,h2⟩:=h
  by_cases e:p.1=k
  ·have e':q.1=k:=h1.symm.trans e
   have b:valueAt (q::qs) k=some q.2:=by simp[valueAt,List.find?_cons,e']
   rw[z2D e,b];exact h2
  ·have e': ¬q.1=k:=fun z=>e (h1.trans z)
   have b:valueAt (q::qs) k=valueAt qs k:=by simp[valueAt,List.find?_cons,e']
   rw[z2E e,b];exact ih
theorem KV.any{kvs:List (κ×V)}{vs:List (κ×Value)}(r:KV kvs vs)(k:κ):(kvs.any fun kv=>decide (kv.1=k))=vs.any fun kv=>decide (kv.1=k):=by
 unfold KV at r
 induction r with
 |nil=>rfl
 |cons h t ih=>rw[List.any_cons,List.any_cons,ih,h.1]
theorem KV.repl{kvs:List (κ×V)}{vs:List (κ×Value)}(r:KV kvs vs)(k:κ){y:V}{u:Value}(ry:RelV y u):
 KV (kvs.map fun kv=>if kv.1=k then(kv.1,y) else kv) (vs.map fun kv=>if kv.1=k then(kv.1,u) else kv):=by
 unfold KV at r⊢
 induction r with
 |nil=>exact .nil
 | @cons p q ps qs h t ih=>
  rw[List.map_cons,List.map_cons]
  refine .cons ?_ ih
  obtain⟨h1,h2⟩:=h
  by_cases e:p.1=k
  ·rw[if_pos e,if_pos (h1.symm.trans e)];exact⟨h1,ry⟩
  ·rw[if_neg e,if_neg (fun z=>e (h1.trans z))];exact⟨h1,h2⟩
theorem KV.put{kvs:List (κ×V)}{vs:List (κ×Value)}(r:KV kvs vs)(k:κ){y:V}{u:Value}(ry:RelV y u):KV (putK kvs k y) (stored vs k u):=by
 unfold putK stored
 rw[r.any k]
 by_cases e:(vs.any fun kv=>decide (kv.1=k))=true
 ·rw[if_pos e,if_pos e];exact r.repl k ry
 ·rw[if_neg e,if_neg e];exact Paired.snoc r ⟨rfl,ry⟩
theorem KV.length{kvs:List (κ×V)}{vs:List (κ×Value)}(r:KV kvs vs):kvs.length=vs.length:=Paired.length r
end
theorem z8T{P:Program}{w:World}{k:Key}{u:Value}(r:RelV (kV k) u):(z0e P w).is k u=true:=by
 cases k with
 |inl i=>obtain⟨t,e⟩:=(show ∃t,u=Value.int i t from r);subst e;exact z54 P w i t
 |inr x=>obtain⟨t,e⟩:=(show ∃t,u=Value.str x t from r);subst e;exact z55 P w x t
theorem z4u{P:Program}{w:World}: ∀{ks:List Key} {us:List Value},Vals (ks.map kV) us->ItemsAre (z0e P w) ks us
 |[],_,r=>by rw[List.map_nil] at r;cases r;exact .nil
 |k::ks,_,r=>by
  rw[List.map_cons] at r
  cases r with
  |cons h t=>exact .cons (z8T h) (z4u t)
noncomputable abbrev KT(H:Hp):List (NK×V)->List (NK×Addr×Value)->Prop:=Paired fun p q=>p.1=q.1/\TK H p.1 q.2.1/\RelV p.2 q.2.2
theorem KT.val{H:Hp}{kvs:List (NK×V)}{xs:List (NK×Addr×Value)}(r:KT H kvs xs)(k:NK):RelO (valV kvs k) ((atKey xs k).map (·.2)):=by
 induction r with
 |nil=>exact True.intro
 | @cons p q ps qs h t ih=>
  obtain⟨h1,_,h2⟩:=h
  by_cases e:p.1=k
  ·have e':q.1=k:=h1.symm.trans e
   have b:atKey (q::qs) k=some q.2:=by simp[atKey,List.find?_cons,e']
   rw[z2D e,b];exact h2
  ·have e': ¬q.1=k:=fun z=>e (h1.trans z)
   have b:atKey (q::qs) k=atKey qs k:=by simp[atKey,List.find?_cons,e']
   rw[z2E e,b];exact ih
theorem KT.repl{H:Hp}{kvs:List (NK×V)}{xs:List (NK×Addr×Value)}(r:KT H kvs xs)(k:NK){y:V}{u:Value}(ry:RelV y u):
 KT H (kvs.map fun kv=>if kv.1=k then(kv.1,y) else kv) (xs.map (putAt k u)):=by
 induction r with
 |nil=>exact .nil
 | @cons p q ps qs h t ih=>
  rw[List.map_cons,List.map_cons]
  refine .cons ?_ ih
  obtain⟨h1,h2,h3⟩:=h
  unfold putAt
  by_cases e:p.1=k
  ·rw[if_pos e,if_pos (h1.symm.trans e)];exact⟨h1,h2,ry⟩
  ·rw[if_neg e,if_neg (fun z=>e (h1.trans z))];exact⟨h1,h2,h3⟩
theorem KT.put{H:Hp}{kvs:List (NK×V)}{xs:List (NK×Addr×Value)}(r:KT H kvs xs)(k:NK){b:Addr}{y:V}{u:Value}(hb:TK H k b)(ry:RelV y u):
 KT H (putK kvs k y) (storedH xs k b u):=by
 have e:(kvs.any fun kv=>decide (kv.1=k))=(atKey xs k).isSome:=by
  rw[z5B,(r.val k).isSome_eq,Option.isSome_map]
 unfold putK storedH
 rw[e]
 by_cases q:(atKey xs k).isSome=true
 ·rw[if_pos q,if_pos q];exact r.repl k ry
 ·rw[if_neg q,if_neg q];exact Paired.snoc r ⟨rfl,hb,ry⟩
theorem KT.keeps{H H':Hp}{kvs:List (NK×V)}{xs:List (NK×Addr×Value)}(r:KT H kvs xs)(ht: ∀b ys,H b=some (.tup ys)->H' b=some (.tup ys)):KT H' kvs xs:=
 Paired.mapP r fun _ _ z=>⟨z.1,z.2.1.stay ht,z.2.2⟩
section
variable{P:Program}{w:World}{H:Hp}{h:Heap}{a:Addr}
theorem zca{u:HO}(ok:HOk P w H h)(e:Rd H a u):z1b P w H h a u:=e.ok ok
theorem zag{kvs:List (Key×V)}(ok:HOk P w H h)(e:Rd H a (.dK kvs)):kvs.length<=sizeLine/\(a==sysModules)=false/\∃vs,KV kvs vs/\h.DictOf (z0e P w) a vs:=
 show z1b P w H h a (.dK kvs) from zca ok e
theorem zen{kvs:List (Key×V)}(ok:HOk P w H h)(e:H a=some (.dK kvs)):kvs.length<=sizeLine/\(a==sysModules)=false/\∃vs,KV kvs vs/\h.DictOf (z0e P w) a vs:=zag ok (.inl e)
theorem zah{ks:List Key}(ok:HOk P w H h)(e:H a=some (.tup (ks.map kV))):IsTupleKey (z0e P w) h ks a:=by
 obtain⟨_,its,r,o,h1,h2,n,h3⟩:=(show z1b P w H h a (.tup (ks.map kV)) from ok a _ e)
 exact⟨o,its.toArray,n,h1,h2,h3,by simpa using z4u r⟩
theorem z57(ok:HOk P w H h): ∀{k:NK} {xs:List V} {us:List Value},Paired (TKi H) k xs->Vals xs us->Paired (ItN P w h) k us
 |_,_,_, .nil, .nil=> .nil
 | .inl k::_,_,_, .cons a b, .cons c d=>by
  have e:=(show _=kV k from a)
  subst e
  exact .cons (z8T c) (z57 ok b d)
 | .inr ks::_,_,_, .cons a b, .cons c d=>by
  obtain⟨x,rfl,hx⟩:=a
  cases c
  exact .cons ⟨x,rfl,zah ok hx⟩ (z57 ok b d)
theorem z4v{k:NK}(ok:HOk P w H h)(e:TK H k a):(z01 P w).is h k a:=by
 obtain⟨xs,e,p⟩:=e
 obtain⟨_,its,r,o,h1,h2,n,h3⟩:=(show z1b P w H h a (.tup xs) from ok a _ e)
 exact⟨o,its.toArray,n,h1,h2,h3,by simpa using z57 ok p r⟩
theorem zai{kvs:List (NK×V)}(ok:HOk P w H h)(e:Rd H a (.dT kvs)):kvs.length<=sizeLine/\(a==sysModules)=false/\
 ∃xs,KT H kvs xs/\h.DictOfH (z01 P w) a xs:=by
 obtain⟨z,y,xs,r,o,es,ep,h1,h2,h3,h4,h5⟩:=(show z1b P w H h a (.dT kvs) from zca ok e)
 refine⟨z,y,xs,r,o,es,ep,h1,h2,h3,h4,fun x hx=> ?_,h5⟩
 have all: ∀{l:List (NK×V)} {m:List (NK×Addr×Value)},KT H l m->∀x∈m,(z01 P w).is h x.1 x.2.1:=by
  intro l m q
  induction q with
  |nil=>intro x hx;exact nomatch hx
  | @cons p q ps qs hq t ih=>
   intro x hx
   rcases List.mem_cons.mp hx with e|hx
   ·subst e
    exact z4v ok (by rw[<-hq.1];exact hq.2.1)
   ·exact ih x hx
 exact all r x hx
theorem zeo{kvs:List (NK×V)}(ok:HOk P w H h)(e:H a=some (.dT kvs)):kvs.length<=sizeLine/\(a==sysModules)=false/\
 ∃xs,KT H kvs xs/\h.DictOfH (z01 P w) a xs:=zai ok (.inl e)
end
noncomputable def DGet(H:Hp)(a:Addr)(y:V)(r:Option V):Prop:=
 (∃kvs k,Rd H a (.dK kvs)/\y=kV k/\r=valV kvs k)\/∃kvs k b,Rd H a (.dT kvs)/\y= .ref b/\TK H k b/\r=valV kvs k
noncomputable def DPut(H:Hp)(a:Addr)(y v:V)(H':Hp):Prop:=
 (∃kvs k,H a=some (.dK kvs)/\y=kV k/\kvs.length<sizeLine/\H'=upd H a (.dK (putK kvs k v)))\/
 ∃kvs k b,H a=some (.dT kvs)/\y= .ref b/\TK H k b/\kvs.length<sizeLine/\H'=upd H a (.dT (putK kvs k v))
theorem DPut.t{H:Hp}{a b:Addr}{kvs:List (NK×V)}{k:NK}{v:V}(e:H a=some (.dT kvs))(eb:TK H k b)(hl:kvs.length<sizeLine):
 DPut H a (.ref b) v (upd H a (.dT (putK kvs k v))):= .inr ⟨kvs,k,b,e,rfl,eb,hl,rfl⟩
section
variable{X:Cx}{pins:List (Addr×Obj)}{σ:St}{H:Hp}{s:Shared}{a:Addr}{y v:V}{u r:Value}{o:Option V}{A:Around}{E:Value->Shared->Prop}
theorem Inv.big(I:Inv X pins σ H s):sysModules<s.heap.objs.size:=by
 have h:mainGlobals<s.heap.objs.size:=(I.mod.glob.keeps I.bk).lt
 exact Nat.lt_trans (by decide) h
theorem z72{Q:Value->Shared->Prop}(hu:A.units+2<cLine)(I:Inv X pins σ H s)(g:DGet H a y (some v))(ry:RelV y u)(h: ∀w' s',Inv X pins σ H s'->RelV v w'->Q w' s'):
 wpAny (model X.prog X.w) A (getItem (.ref a) u) Q E s:=by
 rcases g with⟨kvs,k,e,ey,l⟩|⟨kvs,k,b,e,ey,eb,l⟩
 ·subst ey
  obtain⟨z,hd,vs,rel,dd⟩:=zag I.hok e
  obtain⟨w',hw,rw'⟩:=RelO.some_of (v:=v) (o:=valueAt vs k) (by rw[l];exact rel.val k)
  exact wpAny_getItem_of (z8T ry) dd.mapOf hw (h w' _ (I.tok _) rw')
 ·subst ey
  cases(show u=Value.ref b from ry)
  obtain⟨z,hd,xs,rel,dd⟩:=zai I.hok e
  obtain⟨w',hw,rw'⟩:=RelO.some_of (v:=v) (o:=(atKey xs k).map (·.2)) (by rw[l];exact rel.val k)
  obtain⟨p,hp,hp2⟩:=Option.map_eq_some_iff.mp hw
  refine wpAny_getItem_heap (z4j hu) (z4v I.hok eb) dd hp ?_
  rw[hp2]
  exact h w' _ (I.tok _) rw'
theorem z73{h':Heap}{t':Nat}{ob:HO}(I:Inv X pins σ H s)(mu:Mut (H a))(hs:Heap.SameBut a s.heap h')(he: ∃q,h'.get? a=some q)(new:z1b X.prog X.w (upd H a ob) h' a ob):
 Inv X pins σ (upd H a ob) {s with heap:=h',toks:=t'}:=
 I.write (x:=a) (e:=a) mu (.inl rfl) (fun b q hb z=>(hs.2 b hb).trans z) he new
theorem zcb{P:Program}{w:World}{H':Hp}{h':Heap}{kvs:List (Key×V)}{vs:List (Key×Value)}(z:kvs.length<=sizeLine)(hd:(a==sysModules)=false)(rel:KV kvs vs)(dd:h'.DictOf (z0e P w) a vs):
 z1b P w H' h' a (.dK kvs):=⟨z,hd,vs,rel,dd⟩
theorem z74{H':Hp}{Q:Unit->Shared->Prop}(hu:A.units+2<cLine)(I:Inv X pins σ H s)(g:DPut H a y v H')(ry:RelV y u)(rv:RelV v r)(h: ∀s',Inv X pins σ H' s'->Q () s'):
 wpAny (model X.prog X.w) A (setItem (.ref a) u r) Q E s:=by
 rcases g with⟨kvs,k,e,ey,l,eH⟩|⟨kvs,k,b,e,ey,eb,l,eH⟩
 ·subst ey eH
  obtain⟨z,hd,vs,rel,dd⟩:=zen I.hok e
  have hz:vs.length<=sizeLine:=by rw[<-rel.length];exact z
  have hl:(putK kvs k v).length<=sizeLine:=by have:=z2N kvs k v;lia
  refine wpAny_setItem_pairs (hsz:=hz) (z8T ry) dd fun h' dd' hs=>h _ ?_
  have he: ∃q,h'.get? a=some q:=let⟨q,_,_,hq,_⟩:=dd';⟨q,hq⟩
  exact z73 I (by rw[e];exact True.intro) hs he (zcb hl hd (rel.put k rv) dd')
 ·subst ey eH
  cases(show u=Value.ref b from ry)
  obtain⟨z,hd,xs,rel,dd⟩:=zeo I.hok e
  have hz:xs.length<=sizeLine:=by rw[<-Paired.length rel];exact z
  have hl:(putK kvs k v).length<=sizeLine:=by have:=z2N kvs k v;lia
  refine wpAny_setItem_heap (hsz:=hz) (z4j hu) (z4v I.hok eb) dd fun h' dd' hs=>h _ ?_
  obtain⟨q,es,ep,hq,h2,h3,h4,_,h5⟩:=dd'
  refine z73 I (by rw[e];exact True.intro) hs ⟨q,hq⟩ ⟨hl,hd,_,(rel.put k eb rv).keeps fun c ys ec=> ?_,q,es,ep,hq,h2,h3,h4,h5⟩
  rw[z04 (z3j ec e (fun z=>nomatch z))]
  exact ec
end
noncomputable def NoSl(i:Expr):Prop:= ∀ov iv,subscripted i false ov iv=operate [ov,iv] (getItem ov iv)
theorem zaj{prog:Program}{w:World}{A:Around}{E:Value->Shared->Prop}{s:Shared}{env:Env}{value slice:Expr}{pos:Pos}{T id:String}{Q:Value->Shared->Prop}
 (hl:typeLookup (.type T) "__getitem__" =pure (some (.builtin id))) (hs:NoSl slice)
 (h:wpAny (model prog w) A (eval value env) (fun o s₁=>wpAny (model prog w) A (eval slice env) (fun i s₂=>s₂.TypeIs o T/\wpAny (model prog w) A (getItem o i) Q E s₂) E s₁) E s):
 wpAny (model prog w) A (eval (.Subscript value slice pos) env) Q E s:=by
 refine Subscript_ (wpAny_mono h (fun o s₁ h₁=>wpAny_mono h₁ (fun i s₂ h₂=> ?_) fun _ _ x=>x) fun _ _ x=>x)
 obtain⟨hT,h₂⟩:=h₂
 unfold subscriptTail
 refine wpAny_bind ?_
 rw[getitemInPython_of_ne hT.not_modules]
 refine wpAny_bind (wpAny_specialOf hT hl ?_)
 have fin:wpAny (model prog w) A (subscripted slice false o i) (fun r s₃=>wpAny (model prog w) A (letTemporaryGo value o r>>=fun _=>pure r) Q E s₃) E s₂:=by
  rw[hs o i]
  exact wpAny_operating (wpAny_mono h₂ (fun r s₃ h₃=>wpAny_bind (wpAny_letTemporaryGo (wpAny_pure h₃))) fun _ _ x=>x)
 first
  |exact wpAny_pure (wpAny_bind fin)
  |exact wpAny_bind (wpAny_pure (wpAny_bind fin))
  |exact wpAny_bind fin
theorem z58{X:Cx}{pins:List (Addr×Obj)}{σ:St}{H:Hp}{s:Shared}{a:Addr}{y:V}{o:Option V}(I:Inv X pins σ H s)(g:DGet H a y o):s.TypeIs (.ref a) "dict" :=by
 rcases g with⟨kvs,k,e,_,_⟩|⟨kvs,k,b,e,_,_,_⟩
 ·obtain⟨_,_,vs,_,dd⟩:=zag I.hok e
  exact dd.typeIs
 ·obtain⟨_,_,xs,_,dd⟩:=zai I.hok e
  exact dd.typeIs
noncomputable def zep(td ty:TE):TE:=fun σ H Q=>td σ H fun x H1=>ty σ H1 fun y H2=> ∃a v,x= .ref a/\DGet H2 a y (some v)/\Q v H2
noncomputable def zeq(td ty tv:TE):TS:=fun D σ H=>tv σ H fun v H1=>td σ H1 fun x H2=>ty σ H2 fun y H3=> ∃a H4,x= .ref a/\DPut H3 a y v H4/\D.nx σ H4
section
variable{X:Cx}{o i e value:Expr}{pos pos' tpos:Pos}{td ty tv:TE}
theorem zak(hu:X.A.units+2<cLine)(ho:PE X o td)(hi:PE X i ty)(hs:NoSl i):PE X (.Subscript o i pos) (zep td ty):=by
 intro pins s σ H Q I h
 refine zaj PySem.F.slot_dict_getitem.lookup hs (thn (ho pins s σ H _ I h) fun u s1 ⟨x,H1,I1,rx,q1⟩=>thn (hi pins s1 σ H1 _ I1 q1) fun iv s2 ⟨y,H2,I2,ry,a,v,ex,g,q2⟩=> ?_)
 subst ex
 obtain rfl:u=Value.ref a:=rx
 exact⟨z58 I2 g,z72 hu I2 g ry fun w' s3 I3 rw'=>⟨v,H2,I3,rw',q2⟩⟩
theorem zal(hu:X.A.units+2<cLine)(ho:PE X o td)(hi:PE X i ty)(hv:PE X value tv)(hs:swapsWith value (some (.Subscript o i pos')) pos.line X.env=pure false):
 PS X (.Assign [.Subscript o i pos'] value pos) (zeq td ty tv):=by
 intro pins s σ H D I h
 refine wpAny_Assign_Subscript (thn (hv pins s σ H _ I h) fun r s1 ⟨v,H1,I1,rv,q1⟩=>thn (ho pins s1 σ H1 _ I1 q1) fun u s2 ⟨x,H2,I2,rx,q2⟩=>thn (hi pins s2 σ H2 _ I2 q2) fun iv s3 ⟨y,H3,I3,ry,a,H4,ex,g,q3⟩=> ?_) hs
 subst ex
 obtain rfl:u=Value.ref a:=rx
 exact z74 hu I3 g ry rv fun s4 I4=>⟨σ,H4,I4,q3⟩
end
theorem z8U{P:Program}{w:World}{H:Hp}(h:Heap)(hb:sysModules<h.objs.size):z1b P w H (h.push {cls:= .type "dict",data:= .dict #[]}) h.objs.size (.dT []):=
 ⟨Nat.zero_le _,beq_eq_false_iff_ne.mpr (Ne.symm (Nat.ne_of_lt hb)),[], .nil,_, #[],0,Heap.get?_push_size _ rfl,⟨rfl,rfl,rfl⟩,rfl,rfl,List.nodup_nil⟩
noncomputable def zcc:TE:=fun _ H Q=> ∀p,H p=none->Q (.ref p) (upd H p (.dT []))
section
variable{X:Cx}{pos:Pos}
theorem z8V:PE X (.Dict [] [] pos) zcc:=fun pins s σ H Q I h=>
 wpAny_Dict_empty ⟨.ref s.heap.objs.size,_,I.laid (a:=s.heap.objs.size) (o:= .dT []) (t':=s.toks) (fun _ _ q=>Heap.get?_push_of_some _ q) (Nat.le_refl _) (z8U s.heap I.big),rfl,h _ (I.hok.fresh (Nat.le_refl _))⟩
end
structure M1(X:Cx)(o:Expr)(m:Str)(apos:Pos)(e:Expr)(cpos:Pos):Prop where
 base:attributeBase o m X.env (eval o X.env)=eval o X.env
 few:((backTo cpos (starEach [e] X.env)).all (fun x=> !x.1)&&(backToKw cpos (keywordEach [] X.env)).all (fun x=>x.1.isSome)
  &&decide (([e]:List Expr).length+([]:List Keyword).length+(if([]:List Keyword).isEmpty then 0 else 1)<30))=true
 line:(apos.endLine==cpos.line)=true
 trees:backTo cpos (starEach [e] X.env)=[(false,eval e X.env)]
structure M2(X:Cx)(o:Expr)(m:Str)(apos:Pos)(e f:Expr)(cpos:Pos):Prop where
 base:attributeBase o m X.env (eval o X.env)=eval o X.env
 few:((backTo cpos (starEach [e,f] X.env)).all (fun x=> !x.1)&&(backToKw cpos (keywordEach [] X.env)).all (fun x=>x.1.isSome)
  &&decide (([e,f]:List Expr).length+([]:List Keyword).length+(if([]:List Keyword).isEmpty then 0 else 1)<30))=true
 line:(apos.endLine==cpos.line)=true
 trees:backTo cpos (starEach [e,f] X.env)=[(false,eval e X.env),(false,eval f X.env)]
end L2
namespace Att
open PySem PySem.W PySem.Calls PyProof.Rows
theorem z2O{P:Params}{h:Heap}: ∀(ns:List Int) (vs:List Value),WellAll P h vs (ns.map WData.int)->IntsAre vs ns:=by
 intro ns
 induction ns with
 |nil=>
  intro vs w
  rw[List.map_nil] at w
  cases w
  exact .nil
 |cons n ns ih=>
  intro vs w
  rw[List.map_cons] at w
  cases w with
  |cons a b=>
   cases a
   exact .cons _ _ (ih _ b)
theorem z75{l:OpenLaw}{n:Nat}(hn:l.most=some n){P:Params}{h:Heap}{args:List WData}{vals:List Value}
 (hpre:l.row.toRowW.claim.pre args=true) (hwl:WellAll P h vals args):
 ∃a vs ns,vals=[Value.ref a]/\args=[WData.list (ns.map WData.int)]/\h.get? a=some {cls:= .type "list",data:= .seq vs.toArray}/\IntsAre vs ns/\ns.length<=n:=by
 have hsh:WShape.hasAll [] args [.list .int]=true:=(pre_splitW hpre).1
 have hc:l.pre.holds [] {args:=args}=true:=(pre_splitW hpre).2
 obtain⟨d,r,rfl,h1,h2⟩:=hasAllW_cons hsh
 obtain rfl:=hasAllW_nil h2
 obtain⟨xs,rfl,h3⟩:=hasW_list h1
 obtain⟨ns,rfl⟩:=items_int h3
 have hlen:ns.length<=n:=by
  unfold OpenLaw.pre at hc
  have h4:(WTm.not (.lt (.lit (.int (n:Int))) (.len (.arg 0)))).holds [] {args:=[.list (ns.map .int)]}=true:=by
   have h4:=(holds_andW hc).1
   rw[hn] at h4
   exact h4
  have h5:=condW_of h4 (w_not (w_lt w_lit (w_len_list (w_arg rfl))))
  rw[List.length_map] at h5
  refine Nat.le_of_not_lt fun q=> ?_
  have q':(n:Int)<((ns.length:Nat):Int):=by lia
  first
   |(rw[decide_eq_true q'] at h5;exact absurd h5 (by decide))
   |(simp at h5;lia)
 cases hwl with
 |cons w1 w2=>
  cases w2
  cases w1 with
  |list ho hall=>exact⟨_,_,ns,rfl,rfl,ho,z2O ns _ hall,hlen⟩
theorem z76(l:OpenLaw)(args:List WData):l.row.toRowW.claim.post args (.bool true) args=true:=
 postW_of (r:=l.row.toRowW) (X:=(true==true))
  (show WShape.has [] (.bool true) .bool=true by first|rfl|decide|simp[WShape.has,WShape.arms,WShape.armsAll])
  (show(WTm.eq .res (.lit (.bool true))).value [] {args:=args,res:=some (.bool true),after:=args}=some (.bool (true==true)) from w_eq_bool (w_res rfl) w_lit) rfl
theorem attach_call{l:OpenLaw}{n:Nat}{q:Program}{loose:List Str}{XP:(Str->Option Value)->Heap->Prop}{YP:World->Heap->Prop}{d:DefRec}
 (hn:l.most=some n) (hdf:d.params.defaults=[])
 (call: ∀(w:World) (s₀ s₁:Shared) (mg mb:Str->Option Value) (fa:Addr) (o:Obj) (pm cd doc:Value) (a:Addr) (vs:List Value) (ns:List Int),
  Ground q loose [] XP w s₀ mg mb s₁.heap->YP w s₁.heap->
  s₁.heap.get? fa=some o->o.data= .func (docDef d.name d.params d.body d.scope pm cd doc)->s₁.heap.CodeRec cd d.name->mg d.name=some (.ref fa)->
  s₁.heap.get? a=some {cls:= .type "list",data:= .seq vs.toArray}->IntsAre vs ns->ns.length<=n->s₁.gens= #[]->
  codeAny (model l.prog w) callerA (.call (.ref fa) ⟨[.ref a],[]⟩) (fun r s'=>r= .ok (.ret (.bool true))/\OldK s₁.heap s'.heap/\s'.os=s₁.os/\AllBare s'.gens) s₁):
 WalkO q loose XP YP l.row.toRowW d [] (fun f vs=>PySem.call f vs):=by
 intro w s₀ s₁ mg mb G Y fa o pm cd doc dV kV ho hd hcd hD hmg hg args vals as hpre hlay hrd hwl hlo
 obtain rfl:dV= .none:=Dflts.none hD hdf
 obtain rfl:kV= .none:=Dflts.noKw hD
 obtain⟨a,vs,ns,rfl,rfl,hobj,hints,hlen⟩:=z75 hn hpre hwl
 refine enter_call (codeAny_mono (call w s₀ s₁ mg mb fa o pm cd doc a vs ns G Y ho (fd_plain hd) hcd hmg hobj hints hlen hg) fun r s' hq=> ?_)
 obtain⟨rfl,h2,h3,h4⟩:=hq
 exact⟨.inl ⟨.bool true, .bool true,[],rfl,fun _=>rfl, .bool true,z76 l _,fun _=>⟨List.Pairwise.nil,fun _ hm=>(nomatch hm)⟩⟩,h2,h3,h4⟩
end Att
namespace L2
open PySem PySem.Spec PyProof.Rows
theorem z4w: ∀{vs:List Value} {ns:List Int},IntsAre vs ns->Vals (ns.map V.int) vs
 |_,_, .nil=> .nil
 |_,_, .cons n t h=> .cons ⟨t,rfl⟩ (z4w h)
noncomputable def Only(H:Hp):Prop:= ∀b,H b=none\/∃o xs,H b=some (.frz o (.lst xs))
theorem z8W{P:Program}{w:World}{K:W.Frag}{mg mb:Str->Option Value}{CX:CXT}{k:Nat}{fa a:Addr}{fd:FuncData}{x:Str}{sp:Sp}{s₁:Shared}{vs:List Value}{ns:List Int}
 (KX:K.In s₁.heap) (hns:s₁.heap.Ns mainGlobals mg) (hb:s₁.heap.Ns builtinsNs mb) (hbb: ∀x:Str,x≠ "__name__" ->mb x=bootBuiltins x) (hlim:s₁.heap.NoLimit) (hg:s₁.gens= #[])
 (ha:s₁.heap.get? a=some {cls:= .type "list",data:= .seq vs.toArray}) (hi:IntsAre vs ns) (hl:ns.length<=sizeLine) (hr:Room k callerA)
 (F: ∀base:Heap,K.In base->base.Ns mainGlobals mg->FnOk P w K mg base CX k fa fd [x] sp) (hbind: ∀(s:Shared) (u:Value),BindsTo s fd ⟨[u],[]⟩ [(x,u)])
 (hsp: ∀H:Hp,Only H->SqL K H a (ns.map V.int)->sp [.ref a] H (fun v _=>v= .bl true) fun _ _ _=>False)
 (hCX: ∀H e s',CX [] H s₁ (fun _ _ _=>False) e s'->False):
 codeAny (model P w) callerA (.call (.ref fa) ⟨[.ref a],[]⟩) (fun r s'=>r= .ok (.ret (.bool true))/\OldK s₁.heap s'.heap/\s'.os=s₁.os/\AllBare s'.gens) s₁:=by
 have rv:=z4w hi
 have lenV:=hi.length
 have core: ∀H:Hp,Only H->SqL K H a (ns.map V.int)->HOk P w H s₁.heap->(∀b,H b≠none->b=a)->(H a≠none->K.lookup a=none)->
  codeAny (model P w) callerA (.call (.ref fa) ⟨[.ref a],[]⟩) (fun r s'=>r= .ok (.ret (.bool true))/\OldK s₁.heap s'.heap/\s'.os=s₁.os/\AllBare s'.gens) s₁:=by
  intro H hO hS hok hA hK
  have base_of: ∀{b:Addr} {o:Obj},s₁.heap.get? b=some o->H b=none->(hidT s₁.heap H).get? b=some o:=fun e n=>z8E e n
  have noA: ∀{b:Addr} {o:Obj} {es:Array DictEntry} {ep:Nat},s₁.heap.get? b=some o->o.data= .dict es ep->H b=none:=fun{b o es ep} e d=>by
   cases q:H b with
   |none=>rfl
   |some u=>
    have e':b=a:=hA b (by rw[q];simp)
    subst e'
    rw[ha] at e;cases e
    have d':Data.seq vs.toArray _=Data.dict es ep:=d
    cases d'
  have nsK: ∀{b:Addr} {m:Str->Option Value},s₁.heap.Ns b m->(hidT s₁.heap H).Ns b m:=fun{b m} ⟨o,es,ep,e,d,r⟩=>⟨o,es,ep,base_of e (noA e d),d,r⟩
  have hKb:K.In (hidT s₁.heap H):=fun b o e=>base_of (KX b o e) (by
   cases q:H b with
   |none=>rfl
   |some u=>
    have e':b=a:=hA b (by rw[q];simp)
    subst e'
    rw[hK (by rw[q];simp)] at e;cases e)
  have hM:Mod K mg (hidT s₁.heap H):=⟨hKb,nsK hns,⟨mb,nsK hb,hbb⟩,let⟨mc,h1,h2⟩:=hlim;⟨mc,nsK h1,h2⟩⟩
  have e0:Env0 P w K mg (hidT s₁.heap H) callerA [] s₁ H:=⟨rfl,hM,fun b o e=>z9X e,Nat.le_of_eq (z6J _ _),trivial,fun b hb=>absurd (show b∈([]:List Addr) from hb) (by simp),hok, .of_eq hg⟩
  refine codeAny_mono ((F _ hKb (nsK hns)).run callerA [] s₁ H ⟨[.ref a],[]⟩ [.ref a] [.ref a] _ _ hr e0 (hbind s₁ (.ref a)) (.cons rfl .nil) (hsp H hO hS)) fun r s' h=> ?_
  cases r with
  |error e=>exact(hCX H e s' h).elim
  |ok fl=>
   cases fl with
   |next=>exact False.elim h
   |brk=>exact False.elim h
   |cont=>exact False.elim h
   |ret u=>
    obtain⟨v,H',os,bare,un,hok',r',q⟩:=h
    have q':v= .bl true:=q
    subst q'
    obtain rfl:u=Value.bool true:=r'
    refine⟨rfl,OldK.of_keep fun b o e=> ?_,os,bare⟩
    cases q:H b with
    |none=>exact un.keep b o e q (by intro z;exact absurd (show b∈([]:List Addr) from z) (by simp)) (by simp)
    |some u=>
     rcases hO b with z|⟨ob,xs,z⟩
     ·rw[q] at z;cases z
     ·have z2:=un.frzs b ob _ z
      obtain⟨e1,_⟩:=hok b _ z
      obtain⟨e2,_⟩:=hok' b _ z2
      rw[e] at e1;cases e1
      exact e2
 cases hk:K.lookup a with
 |some o=>
  have e:=KX a o hk
  rw[ha] at e
  cases e
  refine core (fun _=>none) (fun _=> .inl rfl) (.inr ⟨_,vs.toArray,_,hk,rfl,rfl,rfl,by rw[List.size_toArray,lenV];exact hl,by simpa using rv⟩) (fun b u z=>by have z':(none:Option HO)=some u:=z;cases z') (fun b z=>absurd rfl z) fun z=>absurd rfl z
 |none=>
  refine core (fun b=>if b=a then some (.frz {cls:= .type "list",data:= .seq vs.toArray} (.lst (ns.map V.int))) else none) (fun b=> ?_) (.inl (.inr ⟨{cls:= .type "list",data:= .seq vs.toArray},if_pos rfl⟩)) (fun b u z=> ?_) (fun b z=> ?_) fun _=>hk
  ·by_cases hb:b=a
   ·exact .inr ⟨_,_,if_pos hb⟩
   ·exact .inl (if_neg hb)
  ·by_cases hb:b=a
   ·have z':=(if_pos hb).symm.trans z
    cases z'
    subst hb
    exact⟨ha,by rw[List.length_map];exact hl,vs,_,rv,ha⟩
   ·have z':=(if_neg hb).symm.trans z
    cases z'
  ·by_cases hb:b=a
   ·exact hb
   ·exact absurd (if_neg hb) z
theorem zam{l:W.OpenLaw}{n k:Nat}{q:Program}{loose:List Str}{XP:(Str->Option Value)->Heap->Prop}{YP:World->Heap->Prop}{d:DefRec}{K:Params->W.Frag}{CX:World->CXT}{sp:World->Sp}{x:Str}
 (hn:l.most=some n) (hn2:n<=sizeLine) (hdf:d.params.defaults=[]) (hr:Room k callerA)
 (hY: ∀(w:World) (h:Heap),YP w h->(K w.params).In h)
 (F: ∀(w:World) (mg:Str->Option Value) (fa:Addr) (h:Heap),(K w.params).In h->h.Ns mainGlobals mg->mg d.name=some (.ref fa)->
  ∃fd:FuncData,(∀(s:Shared) (u:Value),BindsTo s fd ⟨[u],[]⟩ [(x,u)])/\
   ∀base:Heap,(K w.params).In base->base.Ns mainGlobals mg->FnOk l.prog w (K w.params) mg base (CX w) k fa fd [x] (sp w))
 (hsp: ∀(w:World) (H:Hp) (a:Addr) (ns:List Int),ns.length<=n->Only H->SqL (K w.params) H a (ns.map V.int)->sp w [.ref a] H (fun v _=>v= .bl true) fun _ _ _=>False)
 (hCX: ∀(w:World) (H:Hp) (s:Shared) (e:Value) (s':Shared),CX w [] H s (fun _ _ _=>False) e s'->False):
 W.WalkO q loose XP YP l.row.toRowW d [] (fun f vs=>PySem.call f vs):=by
 refine Att.attach_call hn hdf fun w s₀ s₁ mg mb fa o pm cd doc a vs ns G Y ho hd hcd hmg hobj hints hlen hg=> ?_
 have KX:=hY w _ Y
 obtain⟨fd,hb,hF⟩:=F w mg fa _ KX G.T.g hmg
 exact z8W KX G.T.g G.T.b G.T.builtins G.T.nolimit hg hobj hints (Nat.le_trans hlen hn2) hr hF hb (fun H hO hS=>hsp w H a ns hlen hO hS) fun H e s'=>hCX w H s₁ e s'
noncomputable def z1Y(s:Stmt):Arguments:=match s with
 | .FunctionDef _ a _ _ _ _ _ _ _ _=>a
 |_=>{posonlyargs:=[],args:=[],vararg:=none,kwonlyargs:=[],kw_defaults:=[],kwarg:=none,defaults:=[]}
noncomputable def z15(s:Stmt):List Stmt:=match s with
 | .FunctionDef _ _ b _ _ _ _ _ _ _=>b
 |_=>[]
noncomputable def z03(s:Stmt):Scope:=match s with
 | .FunctionDef _ _ _ _ _ _ sc _ _ _=>sc
 |_=>{kind:= .function,names:=[],isGenerator:=false,isCoroutine:=false}
noncomputable abbrev CX0:CXT:=fun _ _ _ _ _ _=>False
noncomputable abbrev E0:XK:=fun _ _ _=>False
theorem zan{X:Cx}:z3x CX0 X E0:=fun _ _ _ _ _ _ _ h=>h.elim
structure Fun(K:W.Frag)(x qual:Str)(st:Stmt)(f:Addr)(fd:FuncData):Prop where
 ex: ∃(oc:Value) (od:Option Addr) (kV doc pm:Value) (an:Option Addr) (cdv ct:Value) (osl:Array (Option Value)),
  fd=W.fnOf x qual (z1Y st) (z15 st) (z03 st) .none kV doc pm an cdv ct/\K.lookup f=some ⟨oc,od, .func fd,osl⟩/\W.codeIn K cdv qual=true
 kp:W.keepIn K (.ref f)=true
section
variable{P:Program}{w:World}{K:W.Frag}{mg:Str->Option Value}{base:Heap}
theorem Fun.ok{x qual:Str}{st:Stmt}{f:Addr}{fd:FuncData}{N ps:List Str}{k:Nat}{sp:Sp}(F:Fun K x qual st f fd)(S:z0l N ps (z03 st))(len: ∀vs H Q E,sp vs H Q E->vs.length=ps.length)
 (hbody: ∀(cdv:Value) (A:Around) (outer:List Env) (s:Shared) (H:Hp) (vs:List V) (Q:VK) (E:XK),Room k (A.deeper (envOfC qual (z03 st) s.heap.objs.size f cdv))->sp vs H Q E->
  ∃t,PSs (cxOf CX0 P w K mg base N qual (z03 st) f cdv A outer s H E).nox (z15 st) t/\t {nx:=fun _ H'=>Q .non H',rt:=Q} (start N vs) H):FnOk P w K mg base CX0 (k+1) f fd ps sp:=by
 obtain⟨oc,od,kV,doc,pm,an,cdv,ct,osl,rfl,lk,hcd⟩:=F.ex
 refine zej lk hcd S len fun A outer s H vs Q E hr hsp=> ?_
 obtain⟨t,h,q⟩:=hbody cdv A outer s H vs Q E hr hsp
 exact⟨t,h.nox,q⟩
theorem Fun.binds{x qual:Str}{st:Stmt}{f:Addr}{fd:FuncData}{ps:List Str}(F:Fun K x qual st f fd)
 (h: ∀(kV doc pm:Value) (an:Option Addr) (cdv ct:Value) (us:List Value),us.length=ps.length->bindArgs (W.fnOf x qual (z1Y st) (z15 st) (z03 st) .none kV doc pm an cdv ct) ⟨us,[]⟩=pure (ps.zip us)):z3k K fd ps []:=by
 obtain⟨oc,od,kV,doc,pm,an,cdv,ct,osl,rfl,lk,hcd⟩:=F.ex
 exact .all (h kV doc pm an cdv ct)
theorem zcd{x qual:Str}{st:Stmt}{f:Addr}{oc:Value}{od an:Option Addr}{osl:Array (Option Value)}{kV doc pm cdv ct:Value}(l:K.lookup f=some ⟨oc,od, .func (W.fnOf x qual (z1Y st) (z15 st) (z03 st) .none kV doc pm an cdv ct),osl⟩)
 (c:W.codeIn K cdv qual=true) (k:W.keepIn K (.ref f)=true):Fun K x qual st f (W.fnOf x qual (z1Y st) (z15 st) (z03 st) .none kV doc pm an cdv ct):=⟨⟨oc,od,kV,doc,pm,an,cdv,ct,osl,rfl,l,c⟩,k⟩
end
section
variable{X:Cx}
theorem pv(i:Nat){x:Str}{pos:Pos}(hN:X.N[i]? =some x:=by rfl)(hv:Vis X.env.scope x:=by first|exact Or.inl rfl|exact Or.inr (Or.inl rfl)|exact Or.inr (Or.inr rfl))(hd:(x==("__debug__" :Str))=false:=by decide)
 (hcd:(x==("__classdict__" :Str))=false:=by decide):PE X (.Name x pos) (tVar i):=zbI hN hv hd hcd
end
noncomputable def Same(H H':Hp):Prop:= ∀b o,H b=some o->H' b=some o
theorem Same.refl(H:Hp):Same H H:=fun _ _ h=>h
theorem Same.seq{K:W.Frag}{H H':Hp}{a:Addr}{xs:List V}(e:Same H H')(h:SqL K H a xs):SqL K H' a xs:=by
 rcases h with(h|⟨o,h⟩)|h
 ·exact .inl (.inl (e _ _ h))
 ·exact .inl (.inr ⟨o,e _ _ h⟩)
 ·exact .inr h
end L2
set_option linter.unusedSimpArgs false
set_option linter.unusedVariables false
namespace So
open PySem PySem.W PyProof.Rows PySem.SeqAt
open AutoSeq1 (wpAny_loadPart')
end So
namespace So
open PySem PySem.W PyProof.Rows PySem.SeqAt
end So
set_option maxHeartbeats 4000000
namespace L2
open PySem PySem.Spec PyProof.Rows
mutual
noncomputable def Dp(K:W.Frag)(H:Hp):PyData->V->Prop
 | .none,v=>v= .non
 | .bool b,v=>v= .bl b
 | .int i,v=>v= .int i
 | .str x,v=>v= .str x
 | .list ds,v=> ∃a xs,v= .ref a/\SqL K H a xs/\DpAll K H ds xs
 | .tuple ds,v=> ∃a xs,v= .ref a/\SqT K H a xs/\DpAll K H ds xs
 | .dict _,_=>False
noncomputable def DpAll(K:W.Frag)(H:Hp):List PyData->List V->Prop
 |[],xs=>xs=[]
 |d::ds,xs=> ∃x r,xs=x::r/\Dp K H d x/\DpAll K H ds r
end
section
variable{X:Cx}{pins:List (Addr×Obj)}{σ:St}{H:Hp}{s:Shared}
mutual
theorem Dp.reads(I:Inv X pins σ H s): ∀(d:PyData) (v:V) (u:Value),Dp X.K H d v->RelV v u->∃as,Reads s.heap u d as
 | .none,v,u,h,r=>by
  simp only[Dp] at h;subst h;cases r;exact⟨_, .none⟩
 | .bool b,v,u,h,r=>by
  simp only[Dp] at h;subst h;cases r;exact⟨_, .bool b⟩
 | .int i,v,u,h,r=>by
  simp only[Dp] at h;subst h;obtain⟨t,rfl⟩:=r;exact⟨_, .int i t⟩
 | .str x,v,u,h,r=>by
  simp only[Dp] at h;subst h;obtain⟨t,rfl⟩:=r;exact⟨_, .str x t⟩
 | .list ds,v,u,h,r=>by
  simp only[Dp] at h
  obtain⟨a,xs,rfl,hs,hd⟩:=h
  cases r
  obtain⟨its,rv,⟨o,n,e,c,_,dd⟩,_⟩:=I.list hs
  obtain⟨as,ra⟩:=DpAll.reads I ds xs its hd rv
  exact⟨_, .list e c dd (by simpa using ra)⟩
 | .tuple ds,v,u,h,r=>by
  simp only[Dp] at h
  obtain⟨a,xs,rfl,hs,hd⟩:=h
  cases r
  obtain⟨its,rv,⟨o,e,c,n,dd⟩,_⟩:=I.tuple hs
  obtain⟨as,ra⟩:=DpAll.reads I ds xs its hd rv
  exact⟨_, .tuple e c dd (by simpa using ra)⟩
 | .dict _,v,u,h,r=>by
  simp only[Dp] at h
theorem DpAll.reads(I:Inv X pins σ H s): ∀(ds:List PyData) (vs:List V) (us:List Value),DpAll X.K H ds vs->Vals vs us->∃as,ReadsAll s.heap us ds as
 |[],vs,us,h,r=>by
  simp only[DpAll] at h;subst h
  cases r
  exact⟨_, .nil⟩
 |d::ds,vs,us,h,r=>by
  simp only[DpAll] at h
  obtain⟨x,q,rfl,h1,h2⟩:=h
  cases r with
  |cons r1 r2=>
   obtain⟨as,ra⟩:=Dp.reads I d _ _ h1 r1
   obtain⟨bs,rb⟩:=DpAll.reads I ds _ _ h2 r2
   exact⟨_, .cons ra rb⟩
end
noncomputable def rEqD(K:W.Frag)(neg:Bool):R2:=fun x y H Q=> ∃d e,Dp K H d x/\Dp K H e y/\d.canLay0=true/\e.canLay0=true/\min d.depth e.depth<=60/\
 Q (.bl (if neg then !PyData.eqv d e else PyData.eqv d e)) H
theorem zce(hu:X.A.units+64<cLine):OpR X (compareOp .Eq) (rEqD X.K false):=by
 intro pins s σ H x y v u Q I rx ry h
 obtain⟨d,e,hx,hy,c1,c2,hd,q⟩:=h
 obtain⟨as,ra⟩:=hx.reads I _ _ _ rx
 obtain⟨bs,rb⟩:=hy.reads I _ _ _ ry
 exact SeqAt.compareEq_reads ra rb c1 c2 (by lia) ⟨.bl _,H,I,rfl,q⟩
theorem zcf(hu:X.A.units+64<cLine):OpR X (compareOp .NotEq) (rEqD X.K true):=by
 intro pins s σ H x y v u Q I rx ry h
 obtain⟨d,e,hx,hy,c1,c2,hd,q⟩:=h
 obtain⟨as,ra⟩:=hx.reads I _ _ _ rx
 obtain⟨bs,rb⟩:=hy.reads I _ _ _ ry
 exact SeqAt.compareNe_reads ra rb c1 c2 (by lia) ⟨.bl _,H,I,rfl,q⟩
noncomputable def rInD(K:W.Frag)(neg:Bool):R2:=fun x y H Q=> ∃d ds,Dp K H d x/\(Dp K H (.list ds) y\/Dp K H (.tuple ds) y)/\d.canLay0=true/\PyData.canLayAll0 ds=true/\min (PyData.depthAll ds) d.depth<=60/\
 Q (.bl (if neg then !(ds.any fun y=>PyData.eqv y d) else ds.any fun y=>PyData.eqv y d)) H
theorem zcg(hu:X.A.units+64<cLine):OpR X (compareOp .In) (rInD X.K false):=by
 intro pins s σ H x y v u Q I rx ry h
 obtain⟨d,ds,hx,hy,c1,c2,hd,q⟩:=h
 obtain⟨as,ra⟩:=hx.reads I _ _ _ rx
 rcases hy with hy|hy
 ·obtain⟨bs,rb⟩:=hy.reads I _ _ _ ry
  exact SeqAt.in_list_reads rb ra c2 c1 (by lia) ⟨.bl _,H,I,rfl,q⟩
 ·obtain⟨bs,rb⟩:=hy.reads I _ _ _ ry
  exact SeqAt.in_tuple_reads rb ra c2 c1 (by lia) ⟨.bl _,H,I,rfl,q⟩
noncomputable def isiV(K:W.Frag)(H:Hp)(T:String)(r:Bool):V->Prop
 | .non=>r=false
 | .bl _=>r=(T== "int" ||T== "bool")
 | .int _=>r=(T== "int")
 | .str _=>r=(T== "str")
 | .ref a=>(∃xs,SqT K H a xs/\r=(T== "tuple"))\/(∃xs,SqL K H a xs/\r=(T== "list"))
 |_=>False
noncomputable def rIsi(K:W.Frag):List V->Hp->VK->Prop:=fun xs H Q=> ∃x T r,xs=[x, .ty T]/\(T= "int" \/T= "bool" \/T= "tuple" \/T= "list" \/T= "str")/\isiV K H T r x/\Q (.bl r) H
theorem z8X:CallR X (.builtin "isinstance") (rIsi X.K):=by
 intro pins s σ H xs us Q I r h
 obtain⟨x,T,b,rfl,hT,hx,q⟩:=h
 obtain⟨u,u',rfl,ru,ru'⟩:=z8M r
 cases ru'
 have fin: ∀t,EP X pins σ Q (.bool b) {s with toks:=t}:=fun t=>⟨.bl b,H,I.tok t,rfl,q⟩
 have fin0:EP X pins σ Q (.bool b) s:=⟨.bl b,H,I,rfl,q⟩
 cases x with
 |non=>
  cases ru
  have hx:b=false:=hx
  subst hx
  rcases hT with rfl|rfl|rfl|rfl|rfl
  ·exact IsiPair.NoneType_int (fin _)
  ·exact IsiPair.NoneType_bool (fin _)
  ·exact IsiPair.NoneType_tuple (fin _)
  ·exact IsiPair.NoneType_list (fin _)
  ·exact IsiPair.NoneType_str (fin _)
 |bl k=>
  cases ru
  rcases hT with rfl|rfl|rfl|rfl|rfl
  ·have hx:b=true:=hx
   subst hx;exact IsiPair.bool_int fin0
  ·have hx:b=true:=hx
   subst hx;exact IsiPair.bool_bool fin0
  ·have hx:b=false:=hx
   subst hx;exact IsiPair.bool_tuple (fin _)
  ·have hx:b=false:=hx
   subst hx;exact IsiPair.bool_list (fin _)
  ·have hx:b=false:=hx
   subst hx;exact IsiPair.bool_str (fin _)
 |int k=>
  obtain⟨t,rfl⟩:=ru
  rcases hT with rfl|rfl|rfl|rfl|rfl
  ·have hx:b=true:=hx
   subst hx;exact IsiPair.int_int fin0
  ·have hx:b=false:=hx
   subst hx;exact IsiPair.int_bool (fin _)
  ·have hx:b=false:=hx
   subst hx;exact IsiPair.int_tuple (fin _)
  ·have hx:b=false:=hx
   subst hx;exact IsiPair.int_list (fin _)
  ·have hx:b=false:=hx
   subst hx;exact IsiPair.int_str (fin _)
 |str k=>
  obtain⟨t,rfl⟩:=ru
  rcases hT with rfl|rfl|rfl|rfl|rfl
  ·have hx:b=false:=hx
   subst hx;exact IsiPair.str_int (fin _)
  ·have hx:b=false:=hx
   subst hx;exact IsiPair.str_bool (fin _)
  ·have hx:b=false:=hx
   subst hx;exact IsiPair.str_tuple (fin _)
  ·have hx:b=false:=hx
   subst hx;exact IsiPair.str_list (fin _)
  ·have hx:b=true:=hx
   subst hx;exact IsiPair.str_str fin0
 |ref a=>
  cases ru
  rcases hx with⟨ys,hs,hb⟩|⟨ys,hs,hb⟩
  ·obtain⟨its,rv,⟨o,e,c,n,dd⟩,_⟩:=I.tuple hs
   rcases hT with rfl|rfl|rfl|rfl|rfl
   ·have hx:b=false:=hb
    subst hx;exact IsiPair.tuple_int e c (fin _)
   ·have hx:b=false:=hb
    subst hx;exact IsiPair.tuple_bool e c (fin _)
   ·have hx:b=true:=hb
    subst hx;exact IsiPair.tuple_tuple e c fin0
   ·have hx:b=false:=hb
    subst hx;exact IsiPair.tuple_list e c (fin _)
   ·have hx:b=false:=hb
    subst hx;exact IsiPair.tuple_str e c (fin _)
  ·obtain⟨its,rv,⟨o,n,e,c,_,dd⟩,_⟩:=I.list hs
   rcases hT with rfl|rfl|rfl|rfl|rfl
   ·have hx:b=false:=hb
    subst hx;exact IsiPair.list_int e c (fin _)
   ·have hx:b=false:=hb
    subst hx;exact IsiPair.list_bool e c (fin _)
   ·have hx:b=false:=hb
    subst hx;exact IsiPair.list_tuple e c (fin _)
   ·have hx:b=true:=hb
    subst hx;exact IsiPair.list_list e c fin0
   ·have hx:b=false:=hb
    subst hx;exact IsiPair.list_str e c (fin _)
 |byt _=>exact hx.elim
 |flt _=>exact hx.elim
 |ty _=>exact hx.elim
theorem z2P: ∀{bs:List Bool} {us:List Value},Vals (bs.map V.bl) us->LSm.BoolsAre us bs
 |[],_, .nil=> .nil
 |b::bs,_, .cons r t=>by
  cases r
  exact .cons b (z2P t)
theorem z77(hc:X.A.handled=none):CallR X (.builtin "all") (fun xs H Q=> ∃(p:Addr) (bs:List Bool),xs=[.ref p]/\SqL X.K H p (bs.map V.bl)/\Q (.bl (bs.all id)) H):=by
 intro pins s σ H xs us Q I r h
 obtain⟨p,bs,rfl,hs,q⟩:=h
 obtain⟨u,rfl,ru⟩:=z3N r
 cases ru
 obtain⟨its,rv,pl,_⟩:=I.list hs
 have hb:=z2P rv
 have hl:=pl.isList
 have hlt:p<s.heap.objs.size:=by obtain⟨_,e,_⟩:=hl;exact Heap.lt_size e
 refine call_all_walk (wpAny_pyIter_list hl ?_)
 refine⟨s.heap.objs.size,[s.heap.objs.size,p],[s.heap.objs.size],its.toArray.size,_,_,fun i=>(bs[i]?).getD true,rfl,Walks.list (A:=X.A.in1) hc _ p (Nat.ne_of_lt hlt) its.toArray,
  ⟨⟨_,Heap.get?_push_size _ rfl,rfl,rfl⟩,hl.push _⟩,fun i v s' Q' E' hP hQ=> ?_,fun h' tk hk=> ?_⟩
 ·obtain⟨b,e,rfl⟩:=hb.get i v (by simpa using hP)
  simp only[e,Option.getD_some] at hQ
  exact wpAny_truthy_bool hQ
 ·have e:((List.range its.toArray.size).all fun i=>(bs[i]?).getD true)=bs.all id:=by
   rw[List.size_toArray,hb.length];exact LSm.range_all bs
  rw[e]
  exact⟨.bl _,H,I.kept (LSm.kept_iter hk),rfl,q⟩
end
end L2
namespace HT
open PySem PyProof.Rows
section
variable{prog:Program}{w:World}{A:Around}{E:Value->Shared->Prop}{s:Shared}
theorem getItem_tuple_whole{t sl:Addr}{items:Array Value}{vl vu:Value}{lo hi:Option Int}{Q:Value->Shared->Prop}(ht:IsTup s.heap t items)(hs:s.heap.IsSliceOf sl vl vu .none)(pl:IsPart vl lo)(pu:IsPart vu hi)
 (hw:sIx items.size 0 lo=0/\sIx items.size items.size hi=items.size) (h:Q (.ref t) s):wpAny (model prog w) A (getItem (.ref t) (.ref sl)) Q E s:=by
 obtain⟨os,hos,hcs,hds⟩:=id hs
 have hTs:s.TypeIs (.ref sl) "slice" :=⟨os,hos,hcs⟩
 unfold getItem
 try with_reducible refine wpAny_holding ?_
 first|refine wpAny_bind (wpAny_pure ?_)|skip
 refine wpAny_bind (wpAny_sequenceKey ht.typeIs (by decide) ?_)
 refine wpAny_bind (wpAny_callSpecial?_slot (name:=Str.ofString "__getitem__") ht.typeIs PyProof.Rows.slot_tuple_getitem
  (wpAny_call_entry PyProof.Rows.slot_tuple_getitem ht.typeIs entry_tuple_getitem ?_ (args_tuple_getitem _ _)))
 show wpAny _ _ (Builtin.Tuple.tupleItemsOf (.ref t)>>=_) _ _ s
 refine wpAny_bind (tupleItemsOf_ ht ?_)
 refine wpAny_bind (wpAny_typeOf hTs ?_)
 rw[if_pos (by decide)]
 refine wpAny_bind (z1y hs pl pu ?_)
 have hyes:((((sIx items.size 0 lo:Nat):Int)==0&&(1:Int)==1&&(sIx items.size items.size hi -sIx items.size 0 lo)==items.size)=true):=by
  rw[hw.1,hw.2]
  simp
 show wpAny _ _ (if(((sIx items.size 0 lo:Nat):Int)==0&&(1:Int)==1&&(sIx items.size items.size hi -sIx items.size 0 lo)==items.size)=true then _ else _) _ _ s
 rw[if_pos hyes]
 obtain⟨o,ho,hc,n,hd⟩:=id ht
 have ex:Builtin.Tuple.tupleIsExact (.ref t)=(typeOf (.ref t)>>=fun T=>pure (T== .type "tuple")):=rfl
 refine wpAny_bind (m:=Builtin.Tuple.tupleIsExact (.ref t)) ?_
 rw[ex]
 refine wpAny_bind (wpAny_typeOf ht.typeIs (wpAny_pure ?_))
 rw[if_pos (by decide)]
 exact wpAny_bind (wpAny_rule (wpAny_pure ⟨_,rfl,wpAny_pure h⟩))
end
end HT
namespace L2
open PySem PySem.Spec PyProof.Rows
section
variable{X:Cx}
theorem z6d{xs:List V}{lo hi:Option Int}(h:HT.sIx xs.length 0 lo=0/\HT.sIx xs.length xs.length hi=xs.length):cutV xs lo hi=xs:=by
 unfold cutV
 rw[h.1,h.2]
 simp
end
noncomputable def z0I(env:Env):List (Str×NameKind)->List (Str×Addr)->List (Str×Addr)
 |[],cs=>cs
 |(n,k)::r,cs=>z0I env r (if k== .free then(match env.cells.lookup n with|some a=>(n,a)::cs|none=>cs) else cs)
theorem z5C{env:Env}: ∀(names:List (Str×NameKind)) (cs:List (Str×Addr)),(∀y∈names,y.2= .free->∃a,env.cells.lookup y.1=some a)->
 (forIn names cs fun(x:Str×NameKind) (r:List (Str×Addr))=>if(x.2==NameKind.free)=true then cellOf env x.1>>=fun a=>pure (ForInStep.yield ((x.1,a)::r)) else pure (ForInStep.yield r))=(pure (z0I env names cs):Sem _)
 |[],cs,_=>rfl
 |(n,k)::r,cs,h=>by
  have ih:=fun cs=>z5C (env:=env) r cs fun y hy=>h y (List.mem_cons_of_mem _ hy)
  rw[List.forIn_cons]
  show((if(k==NameKind.free)=true then cellOf env n>>=fun a=>pure (ForInStep.yield ((n,a)::cs)) else pure (ForInStep.yield cs))>>=_)=pure (z0I env r (if k== .free then(match env.cells.lookup n with|some a=>(n,a)::cs|none=>cs) else cs))
  by_cases hk:(k==NameKind.free)=true
  ·obtain⟨a,e⟩:=h (n,k) List.mem_cons_self (by simpa using hk)
   have e:env.cells.lookup n=some a:=e
   rw[if_pos hk,if_pos hk,e]
   have e2:cellOf env n=pure a:=by unfold cellOf;rw[e]
   rw[e2]
   exact ih _
  ·rw[if_neg hk,if_neg hk]
   exact ih _
theorem z1o{env:Env}{scope:Scope}(h: ∀y∈scope.names,y.2= .free->∃a,env.cells.lookup y.1=some a):closureFor scope env=pure (z0I env scope.names []):=by
 have e:=z5C (env:=env) scope.names [] h
 exact congrArg (fun(m:Sem (List (Str×Addr)))=>m>>=fun cs=>pure cs) e
theorem z23{env:Env}{x:Str}{c:Addr}: ∀(names:List (Str×NameKind)) (cs:List (Str×Addr)),(z0I env names cs).lookup x=some c->
 cs.lookup x=some c\/(env.cells.lookup x=some c/\(x,NameKind.free)∈names)
 |[],cs,h=> .inl h
 |(n,k)::r,cs,h=>by
  rcases z23 r _ h with q|⟨q,m⟩
  ·by_cases hk:(k==NameKind.free)=true
   ·rw[if_pos hk] at q
    cases e:env.cells.lookup n with
    |none=>rw[e] at q;exact .inl q
    |some a=>
     rw[e] at q
     have q:((n,a)::cs).lookup x=some c:=q
     rw[List.lookup_cons] at q
     by_cases hx:(x==n)=true
     ·rw[hx] at q
      have q:some a=some c:=q
      cases q
      have hx:x=n:=eq_of_beq hx
      subst hx
      have hk:k= .free:=eq_of_beq hk
      subst hk
      exact .inr ⟨e,List.mem_cons_self⟩
     ·have hx:(x==n)=false:=by simpa using hx
      rw[hx] at q
      exact .inl q
   ·rw[if_neg hk] at q
    exact .inl q
  ·exact .inr ⟨q,List.mem_cons_of_mem _ m⟩
theorem z2Q{env:Env}{x:Str}: ∀(names:List (Str×NameKind)) (cs:List (Str×Addr)),(((∃c,cs.lookup x=some c))\/((x,NameKind.free)∈names/\∃c,env.cells.lookup x=some c))->
 ∃c,(z0I env names cs).lookup x=some c
 |[],cs,h=>by
  rcases h with h|⟨m,_⟩
  ·exact h
  ·cases m
 |(n,k)::r,cs,h=>by
  refine z2Q r _ ?_
  rcases h with⟨c,hc⟩|⟨m,c,hc⟩
  ·left
   by_cases hk:(k==NameKind.free)=true
   ·rw[if_pos hk]
    cases e:env.cells.lookup n with
    |none=>exact⟨c,hc⟩
    |some a=>
     by_cases hx:(x==n)=true
     ·exact⟨a,by show((n,a)::cs).lookup x=some a;rw[List.lookup_cons,hx]⟩
     ·have hx:(x==n)=false:=by simpa using hx
      exact⟨c,by show((n,a)::cs).lookup x=some c;rw[List.lookup_cons,hx];exact hc⟩
   ·rw[if_neg hk]
    exact⟨c,hc⟩
  ·rcases List.mem_cons.mp m with e|m
   ·left
    cases e
    rw[if_pos (by decide),hc]
    exact⟨c,by show((x,c)::cs).lookup x=some c;rw[List.lookup_cons,beq_self_eq_true]⟩
   ·exact .inr ⟨m,c,hc⟩
theorem z16{env:Env}: ∀{names:List (Str×NameKind)} {x:Str},names.lookup x=some .free->
 (names.map fun(n,k)=>if(k==NameKind.free&&env.scope.kind== .function&&env.kindOf n==some .cell) then(n,NameKind.cell) else(n,k)).lookup x=some .cell\/
 (names.map fun(n,k)=>if(k==NameKind.free&&env.scope.kind== .function&&env.kindOf n==some .cell) then(n,NameKind.cell) else(n,k)).lookup x=some .free
 |[],_,h=>by simp at h
 |(n,k)::r,x,h=>by
  have ih:= @z16 env r x
  rw[List.map_cons]
  show List.lookup x ((if(k==NameKind.free&&env.scope.kind== .function&&env.kindOf n==some .cell)=true then(n,NameKind.cell) else(n,k))::_)=_\/List.lookup x ((if(k==NameKind.free&&env.scope.kind== .function&&env.kindOf n==some .cell)=true then(n,NameKind.cell) else(n,k))::_)=_
  cases hx:x==n with
  |true=>
   simp only[List.lookup_cons,hx] at h
   cases h
   by_cases hc:(NameKind.free==NameKind.free&&env.scope.kind== .function&&env.kindOf n==some .cell)=true
   ·rw[if_pos hc];left;simp only[List.lookup_cons,hx]
   ·rw[if_neg hc];right;simp only[List.lookup_cons,hx]
  |false=>
   simp only[List.lookup_cons,hx] at h
   by_cases hc:(k==NameKind.free&&env.scope.kind== .function&&env.kindOf n==some .cell)=true
   ·rw[if_pos hc];simp only[List.lookup_cons,hx];exact ih h
   ·rw[if_neg hc];simp only[List.lookup_cons,hx];exact ih h
theorem z1i{env:Env}: ∀{names:List (Str×NameKind)} {x:Str},((names.map fun(n,k)=>if(k==NameKind.free&&env.scope.kind== .function&&env.kindOf n==some .cell) then(n,NameKind.cell) else(n,k)).lookup x=some .cell\/
 (names.map fun(n,k)=>if(k==NameKind.free&&env.scope.kind== .function&&env.kindOf n==some .cell) then(n,NameKind.cell) else(n,k)).lookup x=some .free)->names.lookup x=some .free\/names.lookup x=some .cell
 |[],_,h=>by simp at h
 |(n,k)::r,x,h=>by
  have ih:= @z1i env r x
  rw[List.map_cons] at h
  have h:List.lookup x ((if(k==NameKind.free&&env.scope.kind== .function&&env.kindOf n==some .cell)=true then(n,NameKind.cell) else(n,k))::_)=_\/List.lookup x ((if(k==NameKind.free&&env.scope.kind== .function&&env.kindOf n==some .cell)=true then(n,NameKind.cell) else(n,k))::_)=_:=h
  cases hx:x==n with
  |true=>
   simp only[List.lookup_cons,hx]
   by_cases hc:(k==NameKind.free&&env.scope.kind== .function&&env.kindOf n==some .cell)=true
   ·have:k= .free:=by
     simp only[Bool.and_eq_true,beq_iff_eq] at hc
     exact hc.1.1
    subst this
    exact .inl rfl
   ·rw[if_neg hc] at h
    simp only[List.lookup_cons,hx] at h
    exact h.symm
  |false=>
   simp only[List.lookup_cons,hx]
   refine ih ?_
   by_cases hc:(k==NameKind.free&&env.scope.kind== .function&&env.kindOf n==some .cell)=true
   ·rw[if_pos hc] at h;simp only[List.lookup_cons,hx] at h;exact h
   ·rw[if_neg hc] at h;simp only[List.lookup_cons,hx] at h;exact h
structure z0j(osc sc:Scope)(own frees N:List Str)(ix:List Nat):Prop where
 kind:sc.kind= .function
 nocell: ∀y∈sc.names,y.2≠ .cell
 names: ∀y∈sc.names,y.2= .local->sc.names.lookup y.1=some .local
 fr: ∀y∈sc.names,y.2= .free->osc.names.lookup y.1=some .cell\/osc.names.lookup y.1=some .free
 nd:(own++frees).Nodup
 frl: ∀x∈frees,sc.names.lookup x=some .free
 ixs:ix.map (fun i=>N[i]?)=frees.map some
noncomputable def z09(X:Cx)(scope:Scope)(own frees:List Str)(cl:List (Str×Addr))(C:Addr)(s₀:Shared)(H₀:Hp)(fp:List Addr)(pn:List (Addr×Obj)):Cx:=
 {X with N:=own++frees,s₀:=s₀,H₀:=H₀,env:=compEnvC scope cl C X.env,outer:=X.stack,stack:=X.stack,ex:=fp,fn:=fun _=>false,pn:=pn,xe:=fun _ _=>False}
noncomputable def z1j(k:Nat)(ix:List Nat)(σ:St):St:=List.replicate k none++ix.map fun i=>(σ[i]?).getD none
section
variable{X:Cx}{tg iter elt:Expr}{pos:Pos}{scope:Scope}{own frees:List Str}{ix:List Nat}{wi:TI}{g:TG}{te:TE}
theorem z6e(k:Nat)(ix:List Nat)(σ:St):(z1j k ix σ).length=k+ix.length:=by
 unfold z1j
 simp
theorem z2f{pins:List (Addr×Obj)}{σ:St}{H:Hp}{s s1:Shared}{fp:List Addr}(S:z0j X.env.scope scope own frees X.N ix)(I:Inv X pins σ H s)(hf: ∀b∈fp,FpOk X pins H b)(hb: ∀b∈fp,b<s.heap.objs.size)
 (ho:s1.os=s.os) (hg:s1.gens=s.gens) (hk: ∀b o,s.heap.get? b=some o->s1.heap.get? b=some o) (hn:s1.heap.Ns s.heap.objs.size (fun _=>none)):
 Inv (z09 X scope own frees (z0I X.env scope.names []) s.heap.objs.size s H fp (X.pn++pins)) [] (z1j own.length ix σ) H s1:=by
 have clos: ∀x c,(z0I X.env scope.names []).lookup x=some c->X.env.cells.lookup x=some c/\(x,NameKind.free)∈scope.names:=fun x c h=>by
  rcases z23 _ _ h with q|q
  ·exact nomatch q
  ·exact q
 have hlen:ix.length=frees.length:=by
  have:=congrArg List.length S.ixs
  simpa using this
 have cne: ∀x c,X.env.cells.lookup x=some c->c<s.heap.objs.size:=fun x c e=>by
  obtain⟨v,o,q,_⟩:=I.cell x c e
  exact Heap.lt_size q
 refine⟨⟨I.ok.mod,S.kind,I.ok.glob,I.ok.blt,Nat.le_refl _,fun x y c h1 h2=>I.ok.inj x y c (clos x c h1).1 (clos y c h2).1,fun x hx=> ?_,fun x c z=>Bool.noConfusion z,I.ok.hd,I.ok.frames, .inl rfl,fun b z=>⟨Nat.ne_of_lt (hb b z),fun x c e=>(hf b z).2.2.2.2.1 x c (clos x c e).1⟩,I.bs,
  Nat.le_trans I.ok.bsz I.sz,fun b o e z=> ?_,fun b z=> ?_,I.stack,I.stkFree⟩,ho, ?_,Un.kept hk,⟨_,hn,fun i x v h1 h2 h3=> ?_⟩,fun x c e=> ?_,I.fresh,fun x c e=>I.freeC x c (clos x c e).1,fun p hp=> ?_,I.hok.kept hk, ?_⟩
 ·have hx:(relabel scope X.env).names.lookup x=some .cell\/(relabel scope X.env).names.lookup x=some .free:=hx
  rcases z1i hx with q|q
  ·have m:(x,NameKind.free)∈scope.names:=PySem.mem_of_lookup q
   obtain⟨c,hc⟩:=I.ok.has x (S.fr _ m rfl)
   exact z2Q _ _ (.inr ⟨m,c,hc⟩)
  ·exact absurd rfl (S.nocell _ (PySem.mem_of_lookup q))
 ·rcases(hf b z).2.2.2.1 with q|q
  ·exact I.ok.noex b o e q
  ·exact absurd (Heap.lt_size (I.ok.bs b o e).1) (Nat.not_lt.mpr q)
 ·intro q
  rcases List.mem_cons.mp (I.stkSub b q) with r|r
  ·exact(hf b z).2.1 r
  ·exact(hf b z).2.2.1 r
 ·rw[hg];exact I.bare
 ·have h2:(z1j own.length ix σ)[i]? =some (some v):=h2
  have h1:(own++frees)[i]? =some x:=h1
  unfold z1j at h2
  by_cases hi:i<own.length
  ·rw[List.getElem?_append_left (by simpa using hi),List.getElem?_replicate] at h2
   rw[if_pos hi] at h2
   cases h2
  ·have hi:own.length<=i:=Nat.not_lt.mp hi
   rw[List.getElem?_append_right (by simpa using hi),List.length_replicate,List.getElem?_map] at h2
   rw[List.getElem?_append_right hi] at h1
   cases e:ix[i -own.length]? with
   |none=>rw[e] at h2;cases h2
   |some j=>
    rw[e] at h2
    have h2:some ((σ[j]?).getD none)=some (some v):=h2
    have hσ:σ[j]? =some (some v):=by
     cases q:σ[j]? with
     |none=>rw[q] at h2;cases h2
     |some z=>rw[q] at h2;exact h2
    have hN:X.N[j]? =some x:=by
     have:=congrArg (fun l:List (Option Str)=>l[i -own.length]?) S.ixs
     simp only[List.getElem?_map,e,h1,Option.map_some] at this
     exact Option.some.inj this
    have mf:x∈frees:=List.mem_of_getElem? h1
    have lf:=S.frl x mf
    have m:(x,NameKind.free)∈scope.names:=PySem.mem_of_lookup lf
    have hos:=S.fr _ m rfl
    obtain⟨mm,hns,hl⟩:=I.loc
    obtain⟨u,ru,look⟩:=hl j x v hN hσ (hos.elim (fun q=> .inr (.inl q)) fun q=> .inr (.inr q))
    refine⟨u,ru, ?_⟩
    rcases look with⟨kk,_⟩|⟨kk,c,hc,ic⟩
    ·have kk:X.env.scope.names.lookup x=some .local:=kk
     have hos:X.env.scope.names.lookup x=some .cell\/X.env.scope.names.lookup x=some .free:=hos
     rw[kk] at hos
     rcases hos with q|q<;>cases q
    ·obtain⟨c',hc'⟩:=z2Q (env:=X.env) scope.names [] (.inr ⟨m,c,hc⟩)
     have e2:=(clos x c' hc').1
     rw[hc] at e2
     cases e2
     refine .inr ⟨z16 lf,c,hc', ?_⟩
     obtain⟨o,q1,q2⟩:=ic
     exact⟨o,hk _ _ q1,q2⟩
 ·obtain⟨v,o,q1,q2⟩:=I.cell x c (clos x c e).1
  exact⟨v,o,hk _ _ q1,q2⟩
 ·have hp:p∈(X.pn++pins)++[]:=hp
  rw[List.append_nil] at hp
  obtain⟨e,n,ne,nf,d⟩:=I.pin p hp
  refine⟨hk _ _ e,n,Nat.ne_of_lt (Heap.lt_size e),fun q=> ?_,d⟩
  rcases List.mem_cons.mp (I.stkSub p.1 q) with r|r
  ·exact ne r
  ·exact nf r
 ·show(z1j own.length ix σ).length=(own++frees).length
  rw[z6e,hlen,List.length_append]
theorem z3S{pins pins':List (Addr×Obj)}{σ σ':St}{H H':Hp}{s s':Shared}{h':Heap}{fp:List Addr}{cl:List (Str×Addr)}{C:Addr}(I:Inv X pins σ H s)(hf: ∀b∈fp,FpOk X pins H b)(hC:s.heap.objs.size<=C)
 (J:Inv (z09 X scope own frees cl C s H fp (X.pn++pins)) pins' σ' H' s') (hs:Heap.SameBut C s'.heap h'):Inv X pins σ H' {s' with heap:=h'}:=by
 have nC: ∀b,b<s.heap.objs.size->b≠C:=fun b q e=>by subst e;exact absurd q (Nat.not_lt.mpr hC)
 refine I.call' (ch:=fp) J.os ⟨fun b o e n hb hx=> ?_,fun b o e n hb hx=> ?_,J.base.free,fun b o e hx=> ?_,J.base.tups,J.base.frzs,J.base.tbls⟩ ?_ J.bare fun b z=>⟨(hf b z).2.2.2.1,(hf b z).2.1,(hf b z).2.2.2.2.1,(hf b z).2.2.2.2.2⟩
 ·exact(hs.2 b (nC b (Heap.lt_size e))).trans (J.base.keep b o e n hb hx)
 ·obtain⟨sl,q⟩:=J.base.slot b o e n hb hx
  exact⟨sl,(hs.2 b (nC b (Heap.lt_size e))).trans q⟩
 ·obtain⟨o',q⟩:=J.base.there b o e hx
  exact⟨o',(hs.2 b (nC b (Heap.lt_size e))).trans q⟩
 ·intro a o e
  refine(J.hok a o e).stay (fun b u hbu q=> ?_) (fun _ q=>q) fun _ _ q=>q
  refine(hs.2 b ?_).trans q
  intro eb
  subst eb
  have hfree:H' b=none:=J.free
  rcases hbu with rfl|z
  ·rw[e] at hfree;cases hfree
  ·rw[z] at hfree;cases hfree
end
end L2
namespace PySem
section
variable{prog:Program}{w:World}{A:Around}{E:Value->Shared->Prop}{s:Shared}
theorem z2R{d:Addr}{o:Obj}{es:Array DictEntry}{ep:Nat}{Q:Value->Shared->Prop}(hd:(d==sysModules)=false)(ho:s.heap.get? d=some o)(hc:o.ExactDict)(hdat:o.data= .dict es ep)
 (hQ:Q (.ref s.heap.objs.size) {s with heap:=s.heap.push {cls:= .type "dict_keyiterator",data:= .fields #[.ref d, .int 0 0, .int es.size 0, .int ep 0]}}):
 wpAny (model prog w) A (pyIter (.ref d)) Q E s:=by
 have hT:s.TypeIs (.ref d) "dict" :=⟨o,ho,hc.1⟩
 refine wpAny_pyIter_slot hT F.slot_dict_iter (wpAny_call_entry F.slot_dict_iter hT F.entry_dict_iter ?_ (F.args_dict_iter_1 _))
 unfold Builtin.«dict.__iter__»
 refine wpAny_bind ?_
 unfold Builtin.Dict.dictSlotNone
 refine wpAny_bind (wpAny_notOrdered_dict hT ?_)
 show wpAny _ _ (pure (Value.ref d)) _ _ s
 refine wpAny_pure ?_
 show wpAny _ _ (Builtin.Dict.showsAll d>>=_) _ _ s
 unfold Builtin.Dict.showsAll
 rw[if_neg (by rw[hd];exact Bool.false_ne_true)]
 refine wpAny_bind (wpAny_pure ?_)
 refine wpAny_bind (wpAny_dictEntries ho hdat ?_)
 refine wpAny_bind (wpAny_dictEpoch ho hdat ?_)
 refine wpAny_bind (wpAny_newObj_type (wpAny_pure ⟨_,rfl, "dict_keyiterator",_,⟨_,Heap.get?_push_size _ rfl,rfl⟩,F.slot_dict_keyiterator_next.lookup, ?_⟩))
 simpa[rawInt] using hQ
theorem z2S{it d:Addr}{i ep:Nat}{od:Obj}{es:Array DictEntry}{en:DictEntry}{Q:Option Value->Shared->Prop}(hit:s.heap.IsKeyIter it d i es.size ep)
 (hod:s.heap.get? d=some od) (hdd:od.data= .dict es ep) (hx:es[i]? =some en)
 (hQ: ∀h',h'.IsKeyIter it d (i+1) es.size ep->Heap.SameBut it s.heap h'->Q (some en.key) {s with heap:=h'}):
 wpAny (model prog w) A (pyNext (.ref it)) Q E s:=by
 obtain⟨o,ho,hc,hd⟩:=id hit
 unfold pyNext
 refine wpAny_bind (wpAny_attempt (wpAny_callSpecial?_slot (name:=Str.ofString "__next__") hit.typeIs F.slot_dict_keyiterator_next
  (wpAny_call_entry F.slot_dict_keyiterator_next hit.typeIs F.entry_dict_keyiterator_next ?_ (F.args_dict_keyiterator_next_1 _))))
 refine wpAny_bind (wpAny_pure ?_)
 refine wpAny_bind ?_
 refine wpAny_bind ?_
 first|refine wpAny_bind (wpAny_typeNameOfWhole_keyiter hit.typeIs (wpAny_pure ?_))|refine wpAny_bind (wpAny_typeNameOf_keyiter hit.typeIs (wpAny_pure ?_))
 refine wpAny_bind (wpAny_fieldsOf ho hd ?_)
 have hown:Builtin.Dict_items.ownsTuple "dict_keyiterator" =false:=by decide
 simp only[hown,Bool.false_eq_true,if_false]
 show wpAny _ _ (if(Value.ref d==Value.none)=true then _ else _) _ _ s
 rw[if_neg (show ¬((Value.ref d==Value.none)=true) from Bool.false_ne_true)]
 refine wpAny_bind (wpAny_pure ?_)
 refine wpAny_bind (wpAny_dictEntries hod hdd ?_)
 rw[if_neg (by simp)]
 refine wpAny_bind (wpAny_pure ?_)
 refine wpAny_bind (wpAny_dictEpoch hod hdd ?_)
 rw[if_neg (by simp)]
 refine wpAny_pure ?_
 have hlt':i<es.size:=by
  rcases Nat.lt_or_ge i es.size with h|h
  ·exact h
  ·simp[Array.getElem?_eq_none h] at hx
 have hkey:es[i]=en:=by
  rw[Array.getElem?_eq_getElem hlt'] at hx
  exact Option.some.inj hx
 simp only[show ¬((i:Int)<0) from by lia,if_false,Int.toNat_natCast,Array.getElem?_eq_getElem hlt']
 refine wpAny_bind ?_
 first|refine wpAny_bind (wpAny_typeNameOfWhole_keyiter hit.typeIs (wpAny_pure ?_))|refine wpAny_bind (wpAny_typeNameOf_keyiter hit.typeIs (wpAny_pure ?_))
 refine wpAny_bind (wpAny_isOneOf_keyiter hit.typeIs ?_)
 show wpAny _ _ (setField (.ref it) 1 (rawInt ((i:Int)+1))>>=_) _ _ s
 refine wpAny_bind (wpAny_setField ho hd (by simp) ?_)
 have hit':(s.heap.update it (Obj.mapFields (·.setIfInBounds 1 (rawInt ((i:Int)+1))))).IsKeyIter it d (i+1) es.size ep:=
  ⟨_,Heap.get?_update_self _ ho (Obj.isFreed_of_fields (Obj.data_mapFields hd _)),(Obj.cls_mapFields ..).trans hc,by rw[Obj.data_mapFields hd];simp[rawInt]⟩
 refine wpAny_bind (wpAny_holding ?_)
 refine wpAny_bind (wpAny_isOneOf_keyiter (s:={s with heap:=s.heap.update it (Obj.mapFields (·.setIfInBounds 1 (rawInt ((i:Int)+1))))}) hit'.typeIs ?_)
 show wpAny _ _ (pure es[i].key) _ _ _
 rw[hkey]
 exact wpAny_pure (wpAny_pure ⟨_,rfl,wpAny_pure (hQ _ hit' (Heap.SameBut.update ..))⟩)
theorem z3l{it d:Addr}{i ep:Nat}{od:Obj}{es:Array DictEntry}{Q:Option Value->Shared->Prop}(hh:A.handled=none)(hit:s.heap.IsKeyIter it d i es.size ep)
 (hod:s.heap.get? d=some od) (hdd:od.data= .dict es ep) (hge:es.size<=i)
 (hQ: ∀h',Heap.ExtBut it s.heap h'->Q none {s with heap:=h'}):wpAny (model prog w) A (pyNext (.ref it)) Q E s:=by
 obtain⟨o,ho,hc,hd⟩:=id hit
 unfold pyNext
 refine wpAny_bind (wpAny_attempt (wpAny_callSpecial?_slot (name:=Str.ofString "__next__") hit.typeIs F.slot_dict_keyiterator_next
  (wpAny_call_entry F.slot_dict_keyiterator_next hit.typeIs F.entry_dict_keyiterator_next ?_ (F.args_dict_keyiterator_next_1 _))))
 refine wpAny_bind (wpAny_pure ?_)
 refine wpAny_bind ?_
 refine wpAny_bind ?_
 first|refine wpAny_bind (wpAny_typeNameOfWhole_keyiter hit.typeIs (wpAny_pure ?_))|refine wpAny_bind (wpAny_typeNameOf_keyiter hit.typeIs (wpAny_pure ?_))
 refine wpAny_bind (wpAny_fieldsOf ho hd ?_)
 have hown:Builtin.Dict_items.ownsTuple "dict_keyiterator" =false:=by decide
 simp only[hown,Bool.false_eq_true,if_false]
 show wpAny _ _ (if(Value.ref d==Value.none)=true then _ else _) _ _ s
 rw[if_neg (show ¬((Value.ref d==Value.none)=true) from Bool.false_ne_true)]
 refine wpAny_bind (wpAny_pure ?_)
 refine wpAny_bind (wpAny_dictEntries hod hdd ?_)
 rw[if_neg (by simp)]
 refine wpAny_bind (wpAny_pure ?_)
 refine wpAny_bind (wpAny_dictEpoch hod hdd ?_)
 rw[if_neg (by simp)]
 refine wpAny_pure ?_
 simp only[show ¬((i:Int)<0) from by lia,if_false,Int.toNat_natCast,Array.getElem?_eq_none hge]
 refine wpAny_bind ?_
 first|refine wpAny_bind (wpAny_typeNameOfWhole_keyiter hit.typeIs (wpAny_pure ?_))|refine wpAny_bind (wpAny_typeNameOf_keyiter hit.typeIs (wpAny_pure ?_))
 show wpAny _ _ (setField (.ref it) 0 .none>>=_) _ _ s
 refine wpAny_bind (wpAny_setField ho hd (by simp) ?_)
 show wpAny _ _ (newExc (.type "StopIteration") []>>=_) _ _ _
 refine wpAny_bind ?_
 simp only[newExc,newTuple]
 refine wpAny_bind (wpAny_newObj_type ?_ (by size_fits))
 refine wpAny_bind (m:=firstArgMember _ _) (wpAny_of_eq (a:=Value.none) (by first|rfl|(simp only[firstArgMember];rfl)) ?_)
 refine wpAny_newObj_type ?_ (by size_fits)
 simp only[raiseNew]
 refine wpAny_bind (wpAny_handled ?_)
 rw[show A.in1.handled=none from hh]
 refine wpAny_bind (wpAny_pure (wpAny_throw ?_))
 refine wpAny_bind (wpAny_isInstance (T:= "StopIteration") (b:=true) ⟨_,Heap.get?_push_size _ rfl,rfl⟩ isSubtype_stop ?_)
 exact wpAny_pure (hQ _ (((Heap.SameBut.update ..).extBut.push _).push _))
end
end PySem
namespace L2
open PySem PySem.Spec PyProof.Rows
noncomputable def ItD(a:Addr)(o:Obj)(kvs:List (NK×V)):It:=
 ⟨fun i H=>i<kvs.length/\H a=some (.frz o (.dT kvs)),fun i H x H'=>H'=H/\∃b k v,x= .ref b/\kvs[i]? =some (k,v)/\TK H k b,fun i H=>kvs.length<=i/\H a=some (.frz o (.dT kvs))⟩
theorem z9I{P:Program}{w:World}{H:Hp}{h:Heap}{a:Addr}{o:Obj}{kvs:List (NK×V)}(ok:HOk P w H h)(e:H a=some (.frz o (.dT kvs))):
 h.get? a=some o/\(a==sysModules)=false/\o.ExactDict/\∃es ep,o.data= .dict es ep/\es.size=kvs.length/\
  ∀(i:Nat) (k:NK) (v:V),kvs[i]? =some (k,v)->∃en b,es[i]? =some en/\en.key= .ref b/\TK H k b:=by
 obtain⟨ho,z,y,xs,r,o',es,ep,e',c,d,l,nd⟩:=ok a _ e
 rw[ho] at e'
 cases e'
 have hl:kvs.length=xs.length:=Paired.length r
 have hs:es.size=xs.length:=size_of_entries l
 refine⟨ho,y,c,es,ep,d,by lia,fun i k v q=> ?_⟩
 have key: ∀{kvs:List (NK×V)} {xs:List (NK×Addr×Value)},Paired (fun(p:NK×V) (q:NK×Addr×Value)=>p.1=q.1/\TK H p.1 q.2.1/\RelV p.2 q.2.2) kvs xs->
  ∀(i:Nat),kvs[i]? =some (k,v)->∃b u,xs[i]? =some (k,b,u)/\TK H k b:=by
  intro kvs xs r
  induction r with
  |nil=>intro i q;simp at q
  | @cons p x l1 l2 h1 h2 ih=>
   intro i q
   cases i with
   |zero=>
    simp only[List.getElem?_cons_zero,Option.some.injEq] at q
    subst q
    obtain⟨e1,e2,_⟩:=h1
    obtain⟨x1,x2,x3⟩:=x
    have e1:k=x1:=e1
    subst e1
    exact⟨x2,x3,rfl,e2⟩
   |succ j=>
    simp only[List.getElem?_cons_succ] at q
    obtain⟨b,u,q1,q2⟩:=ih j q
    exact⟨b,u,by simpa using q1,q2⟩
 obtain⟨b,u,q1,q2⟩:=key r i q
 have hi:=entry_at l i
 rw[q1] at hi
 exact⟨_,b,hi,rfl,q2⟩
theorem z78{P:Program}{w:World}{K:W.Frag}{tg:Expr}(a it:Addr)(o:Obj)(es:Array DictEntry)(ep:Nat)(hd:o.data= .dict es ep)(kvs:List (NK×V)):
 Turn P w K tg (ItD a o kvs) [it] it (fun i h=>h.IsKeyIter it a i es.size ep) where
 mem:=by simp
 obj:=fun i h st b hb=>by
  have e:b=it:=by simpa using hb
  subst e
  obtain⟨o,e,c,d⟩:=st
  exact⟨o,e,fun v z=>by rw[d] at z;cases z⟩
 keep:=fun i h h' st k=>st.at fun o e=>k it (by simp) o e
 item:=by
  intro X hP hw hK hc i pins s σ H E I hf st hg
  subst hP hw hK
  obtain⟨hi,hq⟩:=hg
  obtain⟨ho,_,_,es',ep',hd',hsz,hat⟩:=z9I I.hok hq
  rw[hd] at hd'
  cases hd'
  obtain⟨f0,f1,f2,f3,f4,f5⟩:=hf it (by simp)
  obtain⟨⟨k,v⟩,hk⟩: ∃p,kvs[i]? =some p:=⟨kvs[i],by simp[hi]⟩
  obtain⟨en,b,he,hb,hB⟩:=hat i k v hk
  refine z2S st ho hd he fun h' st' sb=> ?_
  have I1:Inv X pins σ H {s with heap:=h'}:=I.turned (t':=s.toks) (fun b o hb e=>(sb.2 b hb).trans e) f0 f1 f3 f4 f5
  obtain⟨o2,e2,c2,d2⟩:=id st'
  exact⟨_,rfl,z8H (s:={s with heap:=h'}) e2 c2 d2 (by decide) ⟨.ref b,H,I1,hb,⟨rfl,b,k,v,rfl,hk,hB⟩,st',fun b hb=>(hf b hb).1⟩⟩
 done:=by
  intro X hP hw hK hc i pins s σ H E I hf st hg
  subst hP hw hK
  obtain⟨hi,hq⟩:=hg
  obtain⟨ho,_,_,es',ep',hd',hsz,hat⟩:=z9I I.hok hq
  rw[hd] at hd'
  cases hd'
  obtain⟨f0,f1,f2,f3,f4,f5⟩:=hf it (by simp)
  exact z3l (I.ok.hd hc) st ho hd (by lia) fun h' eb=>⟨rfl,I.turned (t':=s.toks) (fun b o hb e=>eb b o hb e) f0 f1 f3 f4 f5⟩
 self:=fun _ _ _ _ _ st h=>wpAny_pyIter_keyiter st h
section
variable{X:Cx}{tg:Expr}
theorem Inv.freeze{pins:List (Addr×Obj)}{σ:St}{H:Hp}{s:Shared}{a:Addr}{kvs:List (NK×V)}(I:Inv X pins σ H s)(h:H a=some (.dT kvs)):
 ∃o es ep,s.heap.get? a=some o/\o.ExactDict/\o.data= .dict es ep/\(a==sysModules)=false/\es.size=kvs.length/\Inv X pins σ (upd H a (.frz o (.dT kvs))) s:=by
 obtain⟨z,y,xs,r,o,es,ep,e,c,d,l,nd⟩:=I.hok a _ h
 have hs:es.size=xs.length:=size_of_entries l
 have hl:kvs.length=xs.length:=Paired.length r
 refine⟨o,es,ep,e,c,d,y,by lia, ?_⟩
 have tn: ∀b xs,H b=some (.tup xs)->(upd H a (.frz o (.dT kvs))) b=some (.tup xs):=fun b xs q=>by
  rw[z04 (z3j q h (by intro z;cases z))];exact q
 have hw:=I.write (x:=a) (e:=a) (o:= .frz o (.dT kvs)) (h':=s.heap) (t':=s.toks) (by rw[h];trivial) (.inl rfl) (fun b u _ q=>q) ⟨o,e⟩
  ⟨e,z,y,xs,Paired.mapP r fun p q z=>⟨z.1,z.2.1.stay tn,z.2.2⟩,o,es,ep,e,c,d,l,nd⟩
 exact hw
noncomputable def zch(td:TE):TI:=fun σ H R=>td σ H fun x H1=> ∃a kvs,x= .ref a/\H1 a=some (.dT kvs)/\∀o,R (ItD a o kvs) (upd H1 a (.frz o (.dT kvs)))
theorem zao{l:Expr}{tl:TE}(hl:PE X l tl):PI X tg l (zch tl):=by
 intro pins s σ H R I h
 refine thn (hl pins s σ H _ I h) fun v s1 ⟨x,H1,I1,r1,a,kvs,e,ha,q⟩=> ?_
 subst e
 cases r1
 obtain⟨o,es,ep,ho,hc,hd,hy,hsz,I2⟩:=I1.freeze ha
 refine z2R hy ho hc hd ?_
 have I3:Inv X pins σ (upd H1 a (.frz o (.dT kvs))) {s1 with heap:=s1.heap.push {cls:= .type "dict_keyiterator",data:= .fields #[.ref a, .int 0 0, .int es.size 0, .int ep 0]}}:=
  I2.kept (t':=s1.toks) fun b u q=>Heap.get?_push_of_some _ q
 refine⟨s1.heap.objs.size,[s1.heap.objs.size],_,ItD a o kvs,_,rfl,I3,z78 a _ o es ep hd kvs,⟨_,Heap.get?_push_size _ rfl,rfl,rfl⟩,fun b hb=> ?_,q o⟩
 have e:b=s1.heap.objs.size:=by simpa using hb
 subst e
 exact I2.fpOk (Nat.le_refl _) I2.fresh
end
noncomputable def z1z(osc sc:Scope)(own frees N:List Str)(ix:List Nat):Bool:=
 decide (sc.kind= .function)&&sc.names.all (fun y=>decide (y.2≠ .cell))&&sc.names.all (fun y=>decide (y.2= .local->sc.names.lookup y.1=some .local))&&
  sc.names.all (fun y=>decide (y.2= .free->osc.names.lookup y.1=some .cell\/osc.names.lookup y.1=some .free))&&decide (own++frees).Nodup&&frees.all (fun x=>decide (sc.names.lookup x=some .free))&&
  decide (ix.map (fun i=>N[i]?)=frees.map some)
theorem z1z.sc{osc sc:Scope}{own frees N:List Str}{ix:List Nat}(h:z1z osc sc own frees N ix=true):z0j osc sc own frees N ix:=by
 unfold z1z at h
 simp only[Bool.and_eq_true,List.all_eq_true,decide_eq_true_eq] at h
 obtain⟨⟨⟨⟨⟨⟨h1,h2⟩,h3⟩,h4⟩,h5⟩,h6⟩,h7⟩:=h
 exact⟨h1,h2,h3,h4,h5,h6,h7⟩
theorem Same.new{H:Hp}{p:Addr}(o:HO)(h:H p=none):Same H (upd H p o):=fun x u e=>by rw[z04 (z0u e h)];exact e
noncomputable def zap(H H':Hp):Prop:=(∀b xs,H b=some (.tup xs)->H' b=some (.tup xs))/\∀b o xs,H b=some (.frz o (.tup xs))->H' b=some (.frz o (.tup xs))
theorem Same.ts{H H':Hp}(h:Same H H'):zap H H':=⟨fun b _ e=>h b _ e,fun b _ _ e=>h b _ e⟩
theorem zap.tup{K:W.Frag}{H H':Hp}(t:zap H H'){a:Addr}{xs:List V}(h:SqT K H a xs):SqT K H' a xs:=by
 rcases h with(h|⟨o,h⟩)|h
 ·exact .inl (.inl (t.1 _ _ h))
 ·exact .inl (.inr ⟨o,t.2 _ _ _ h⟩)
 ·exact .inr h
theorem Same.lst{K:W.Frag}{H H':Hp}(h:Same H H'){a:Addr}{xs:List V}(s:SqL K H a xs):SqL K H' a xs:=Same.seq h s
noncomputable def dT(ns:List Int):PyData:= .tuple (ns.map PyData.int)
theorem map_take{α β:Type}(f:α->β)(xs:List α)(k:Nat):(xs.map f).take k=(xs.take k).map f:=by rw[List.map_take]
theorem map_drop{α β:Type}(f:α->β)(xs:List α)(k:Nat):(xs.map f).drop k=(xs.drop k).map f:=by rw[List.map_drop]
theorem Paired.snoc{α β:Type}{F:α->β->Prop}: ∀{l₁:List α} {l₂:List β} {a:α} {b:β},Paired F l₁ l₂->F a b->Paired F (l₁++[a]) (l₂++[b])
 |_,_,_,_, .nil,h=> .cons h .nil
 |_,_,_,_, .cons r t,h=> .cons r (Paired.snoc t h)
section
variable{X:Cx}{e st:Expr}{te:TE}{p2 pos:Pos}
noncomputable def tRev(K:W.Frag)(te:TE):TE:=fun σ H Q=>te σ H fun x H1=> ∃a xs,x= .ref a/\SqL K H1 a xs/\∀p,H1 p=none->Q (.ref p) (upd H1 p (.lst xs.reverse))
theorem zci(hst:PO X (some st) (z8P (tUn (rU fun i=>V.int (-i)) (tC (.int 1)))))(he:PE X e te):PE X (.Subscript e (.Slice none none (some st) p2) pos) (tRev X.K te):=by
 intro pins s σ H Q I h
 refine Subscript_ (thn (he pins s σ H _ I h) fun v s1 ⟨x,H1,I1,r1,a,xs,ex,hx,q⟩=> ?_)
 subst ex
 cases r1
 refine wpAny_Slice ?_
 rw[evalPart_none]
 refine wpAny_pure (wpAny_pure ?_)
 refine thn (hst pins s1 σ H1 (fun o H'=>o=some (-1)/\H'=H1) I1 ⟨1,rfl,-1,rfl,rfl,rfl⟩) fun u s2 ⟨o,H2,I2,pu,eo,eH⟩=> ?_
 subst eo eH
 have I3:Inv X pins σ H2 {s2 with heap:=s2.heap.push {cls:= .type "slice",data:= .fields #[.none, .none,u]}}:=I2.kept (t':=s2.toks) fun b ob q=>Heap.get?_push_of_some _ q
 obtain⟨its,r,ht,hz⟩:=I3.list hx
 have hlen:=r.length
 refine tail_any (ops:=[.ref a, .ref s2.heap.objs.size]) ht.isList.typeIs slot_list_getitem.lookup ?_ (by with_unfolding_all rfl)
 refine wpAny_getItem_list_slice ht.isList (Heap.IsSliceOf.new ..) .none .none pu (by simp) ?_ (by rw[List.size_toArray]<;>lia)
 rw[W.krv_pick]
 refine⟨.ref _,_,I3.lnew (t':=s2.toks) (ys:=xs.reverse) (its:=its.reverse) (Vals.reverse r) (by rw[List.length_reverse];exact hz),rfl,q _ I3.fresh⟩
end
noncomputable def NewX(K:W.Frag)(H:Hp)(xs:List V)(Q:VK):Prop:= ∀p H',(H'=H/\H p=some (.tup xs))\/(H p=none/\H'=upd H p (.tup xs))->Q (.ref p) H'
theorem NewX.intro{K:W.Frag}{H:Hp}{xs:List V}{Q:VK}(h: ∀p H',H' p=some (.tup xs)->Same H H'->Q (.ref p) H'):NewX K H xs Q:=by
 intro p H' e
 rcases e with⟨rfl,s⟩|⟨n,rfl⟩
 ·exact h p H' s (Same.refl _)
 ·exact h p _ z07 (Same.new _ n)
section
variable{X:Cx}
noncomputable def rSlX(K:W.Frag):V->Option Int->Option Int->Hp->VK->Prop:=fun x lo hi H Q=> ∃a xs,x= .ref a/\H a=some (.tup xs)/\NewX K H (cutV xs lo hi) Q
theorem zaq:SlR X (rSlX X.K):=by
 intro pins s σ H x v vl vu lo hi sl Q I rx hs pl pu h
 obtain⟨a,xs,rfl,hx0,q⟩:=h
 have hx:SqT X.K H a xs:=SqT.of hx0
 by_cases hw:HT.sIx xs.length 0 lo=0/\HT.sIx xs.length xs.length hi=xs.length
 ·cases rx
  obtain⟨its,r,ht,hz⟩:=I.tuple hx
  have hlen:its.toArray.size=xs.length:=by rw[List.size_toArray];exact r.length.symm
  refine⟨"tuple",_,PyProof.Rows.slot_tuple_getitem.lookup,ht.typeIs, ?_⟩
  refine HT.getItem_tuple_whole ht hs pl pu (by rw[hlen];exact hw) ⟨.ref a,H,I,rfl,q a H (.inl ⟨rfl, ?_⟩)⟩
  rw[z6d hw]
  exact hx0
 ·exact zc5 pins s σ H _ v vl vu lo hi sl Q I rx hs pl pu ⟨a,xs,rfl,hx,hw,fun p hp=>q p _ (.inr ⟨hp,rfl⟩)⟩
noncomputable def zar(K:W.Frag):R2:=fun x y H Q=> ∃a b xs ys,x= .ref a/\y= .ref b/\H a=some (.tup xs)/\H b=some (.tup ys)/\xs.length+ys.length<=sizeLine/\NewX K H (xs++ys) Q
theorem zas:OpR X (binaryOp .Add) (zar X.K):=by
 intro pins s σ H x y v u Q I rx ry h
 obtain⟨a,b,xs,ys,rfl,rfl,ha0,hb0,hz,q⟩:=h
 have ha:SqT X.K H a xs:=SqT.of ha0
 have hb:SqT X.K H b ys:=SqT.of hb0
 by_cases hx:xs=[]
 ·subst hx
  cases rx
  cases ry
  obtain⟨its,r1,p1,_⟩:=I.tuple ha
  obtain⟨its2,r2,p2,_⟩:=I.tuple hb
  have e0:its=[]:=(Vals.nil_iff r1).mpr rfl
  subst e0
  obtain⟨⟨cls,dd,data,sl⟩,ho,hc,n,hd⟩:=id p1
  obtain⟨⟨cls2,dd2,data2,sl2⟩,ho2,hc2,n2,hd2⟩:=id p2
  simp only at hc hd hc2 hd2
  subst hc hd hc2 hd2
  exact concat_meets ⟨_,ho,rfl⟩ ⟨_,ho2,rfl⟩ noFill_tuple_add seq_tuple_add PySem.F.slot_tuple_add PySem.F.entry_tuple_add (PySem.F.args_tuple_add_2 _ _)
   (tuple_addW0 a b _ _ n n2 dd dd2 sl sl2 (by simp)) ⟨ho,ho2, .ref b,H,I,rfl,q b H (.inl ⟨rfl,hb0⟩)⟩
 ·refine zac pins s σ H _ _ v u Q I rx ry ⟨a,b,xs,ys,rfl,rfl,ha,hb,hx,hz,fun e=> ?_,fun _ p hp=>q p _ (.inr ⟨hp,rfl⟩)⟩
  refine q a H (.inl ⟨rfl, ?_⟩)
  rw[e,List.append_nil]
  exact ha0
theorem z79:CallR X (.type "tuple") (fun xs H Q=> ∃(p:Addr) (ys:List V),xs=[.ref p]/\(SqL X.K H p ys\/H p=some (.tup ys))/\NewX X.K H ys Q):=by
 intro pins s σ H xs us Q I r h
 obtain⟨p,ys,rfl,hs,q⟩:=h
 refine z3R pins s σ H _ us Q I r ⟨p,ys,rfl, ?_⟩
 rcases hs with hs|hs
 ·exact .inl ⟨hs,fun l hl=>q l _ (.inr ⟨hl,rfl⟩)⟩
 ·exact .inr ⟨SqT.of hs,q p H (.inl ⟨rfl,hs⟩)⟩
end
end L2
namespace PyProof.Rows
open PySem
section
variable{prog:Program}{w:World}{A:Around}{E:Value->Shared->Prop}{s:Shared}
theorem z2T{h h':Heap}{t:Addr}{items:Array Value}(hl:h.IsList t items)(k: ∀o,h.get? t=some o->h'.get? t=some o):h'.IsList t items:=by
 obtain⟨o,ho,hc,n,hd⟩:=hl
 exact⟨o,k o ho,hc,n,hd⟩
theorem z4x{it t:Addr}{items:Array Value}(hne:t≠it): ∀(n i:Nat) (s:Shared) (Q:List Value->Shared->Prop),s.heap.IsListIter it t i->s.heap.IsList t items->i+n<=items.size->
 (∀h',h'.IsListIter it t (i+n)->Heap.SameBut it s.heap h'->Q ((items.toList.drop i).take n) {s with heap:=h'})->wpAny (model prog w) A (draw (.ref it) n) Q E s
 |0,i,s,Q,hit,_,_,hQ=>by
  show wpAny _ _ (pure []) Q E s
  exact wpAny_pure (by simpa using hQ s.heap hit (Heap.SameBut.refl ..))
 |n+1,i,s,Q,hit,ht,hle,hQ=>by
  have hlt:i<items.size:=by lia
  show wpAny _ _ (pyNext (.ref it)>>=_) Q E s
  refine wpAny_bind (wpAny_pyNext_list_item hit ht (x:=items[i]) (by simp[hlt]) fun h₁ hit₁ hs₁=> ?_)
  refine wpAny_bind (wpAny_holding (z4x hne n (i+1) _ _ hit₁ (z2T ht fun o e=>(hs₁.2 t hne).trans e) (by lia) fun h₂ hit₂ hs₂=>wpAny_pure ?_))
  have hd:items.toList.drop i=items[i]::items.toList.drop (i+1):=by simp[List.drop_eq_getElem_cons,hlt]
  have:=hQ h₂ (by rw[show i+(n+1)=i+1+n by lia];exact hit₂) (hs₁.trans hs₂)
  rw[hd,List.take_succ_cons] at this
  exact this
theorem z2y{t:Addr}{items:Array Value}{Q:List Value->Shared->Prop}(hh:A.handled=none)(ht:s.heap.IsList t items)
 (hQ: ∀h',Heap.ExtBut s.heap.objs.size s.heap h'->Q items.toList {s with heap:=h'}):wpAny (model prog w) A (unpackItems (.ref t) items.size none) Q E s:=by
 have hlt:t≠s.heap.objs.size:=by obtain⟨o,ho,_⟩:=ht;exact Nat.ne_of_lt (Heap.lt_size ho)
 have hT:s.TypeIs (.ref t) "list" :=by obtain⟨o,ho,hc,_⟩:=ht;exact⟨o,ho,hc⟩
 unfold unpackItems
 refine wpAny_bind ?_
 ·unfold notIterableAtAll
  refine wpAny_bind (wpAny_specialOf hT PySem.F.slot_list_iter.lookup ?_)
  refine wpAny_pure ?_
  simp only[Bool.false_eq_true,if_false]
  refine wpAny_bind (wpAny_holding (wpAny_pyIter_list ht ?_))
  refine wpAny_bind (wpAny_holding (z4x hlt items.size 0 _ _ ⟨_,Heap.get?_push_size _ rfl,rfl,rfl⟩ (z2T ht fun o e=>Heap.get?_push_of_some _ e) (by lia) fun h₁ hit₁ hs₁=> ?_))
  have hall:List.take items.size (List.drop 0 items.toList)=items.toList:=by
   rw[List.drop_zero];exact List.take_of_length_le (by simp)
  rw[hall]
  rw[if_neg (by simp)]
  have ht₁:h₁.IsList t items:=z2T ht fun o e=>(hs₁.2 t hlt).trans (Heap.get?_push_of_some _ e)
  refine wpAny_bind (wpAny_holding (wpAny_pyNext_list_end hh hit₁ ht₁ (by simp) fun h₂ he₂=> ?_))
  simp only[Option.isSome_none,Bool.false_eq_true,if_false]
  refine wpAny_pure (hQ h₂ fun b o hb e=>he₂ b o hb (hs₁.extBut b o hb (Heap.get?_push_of_some _ e)))
theorem z2g{env:Env}{elts:List Expr}{x1}{pos:Pos}{t:Addr}{items:Array Value}{Q:Unit->Shared->Prop}(hh:A.handled=none)(ht:s.heap.IsList t items)
 (hn:(assignEach elts env).length=items.size) (hstar:(assignEach elts env).findIdx? (·.1)=none)
 (h: ∀h',Heap.ExtBut s.heap.objs.size s.heap h'->wpAny (model prog w) A (assignInOrder ((assignEach elts env).map (·.2)) items.toList) Q E {s with heap:=h'}):
 wpAny (model prog w) A (assign (.Tuple elts x1 pos) env (.ref t)) Q E s:=by
 rw[assign_Tuple]
 refine wpAny_bind (wpAny_standAt ?_)
 unfold unpack
 rw[hn,hstar]
 exact wpAny_bind (wpAny_holding (z2y hh ht h))
end
end PyProof.Rows
namespace L2
open PySem PySem.Spec PyProof.Rows
section
variable{X:Cx}{pos:Pos}
noncomputable def gSeq(K:W.Frag)(n:Nat)(t:TGs):TG:=fun v σ H Q=> ∃a xs,v= .ref a/\(SqT K H a xs\/SqL K H a xs)/\xs.length=n/\t xs σ H Q
theorem zcj{es:List Expr}{k:Nat}{t:TGs}{n:Nat}(hc:X.calm=true)(h:PGs X es t)
 (hn:(assignEach es X.env).length=n:=by rfl) (hst:(assignEach es X.env).findIdx? (·.1)=none:=by rfl):PG X (.Tuple es k pos) (gSeq X.K n t):=by
 intro pins s σ H v u Q I r hw
 obtain⟨a,xs,e1,hq|hq,hl,hw⟩:=hw
 ·exact zbQ hc h hn hst pins s σ H v u Q I r ⟨a,xs,e1,hq,hl,hw⟩
 ·subst e1
  cases r
  obtain⟨its,rv,ht,hz⟩:=I.list hq
  refine z2g (I.ok.hd hc) ht.isList (by simp[hn,<-hl,rv.length]) hst fun h' hx=> ?_
  have I1:Inv X pins σ H {s with heap:=h'}:=I.kept (t':=s.toks) fun b o e=>hx b o (Nat.ne_of_lt (Heap.lt_size e)) e
  exact h pins _ σ H xs _ Q I1 (by simpa using rv) hw
end
theorem z2z:fillsNumberSlot (.type "tuple") "mul" =pure false:=
 PySem.fillsNumberSlot_seq (id:= "tuple.__mul__") (r:=some (.builtin "tuple.__rmul__")) F.slot_tuple_mul.lookup (by decide+kernel) F.slot_tuple_rmul.lookup (by decide+kernel)
theorem z4y:seqRepeat? (.type "tuple")=pure (some (.builtin "tuple.__mul__")):=by
 unfold seqRepeat?
 rw[PySem.seqSlot_of (T:= "tuple") (name:= "__mul__") (id:= "tuple.__mul__") F.slot_tuple_mul.lookup (by decide+kernel),PySem.seqSlot_of (T:= "tuple") (name:= "__rmul__") (id:= "tuple.__rmul__") F.slot_tuple_rmul.lookup (by decide+kernel)]
 rfl
theorem z3m(a:Int)(t:Tok)(l:Addr)(items:Array Value)(n:Nat)(dd:Option Addr)(sl:Array (Option Value)):
 Meets (Builtin.«int.__rmul__» ⟨[.int a t, .ref l],[]⟩) (fun _ R s=>s.heap.get? l=some {cls:= .type "tuple",dict:=dd,data:= .seq items n,slots:=sl}/\R (.ok (.ret Value.notImplemented)) s):=
 .of_wp fun prog w A R s h=>by obtain⟨hp,g,d,tk,os⟩:=s;obtain⟨hl,h⟩:=h;wp_walk;exact⟨_,rfl,h⟩
theorem z6f(l:Addr)(items:Array Value)(n:Nat)(dd:Option Addr)(sl:Array (Option Value))(x:Int)(u:Tok)(hc0: ¬(decide (x< -(2^63))||decide (x≥2^63))=true)(hc1: ¬(items.isEmpty||x==1)=true)(hc2: ¬(decide (x<=0)||items.isEmpty)=true)(hc3: ¬((items.size:Int)*x>(2^63 - 1)/8))(hc4: ¬Builtin.Tuple.tupleTooMany ((items.size:Int)*x)=true)(hsz:(List.foldl (fun x1 x2=>x1++x2) #[] (List.replicate x.toNat items)).size<=sizeLine):
 Meets (Builtin.«tuple.__mul__» ⟨[.ref l, .int x u],[]⟩) (fun _ R s=>s.heap.get? l=some {cls:= .type "tuple",dict:=dd,data:= .seq items n,slots:=sl}/\R (.ok (.ret (Value.ref s.heap.objs.size))) {s with heap:=s.heap.push {cls:=Value.type "tuple",data:=Data.seq (List.foldl (fun x1 x2=>x1++x2) #[] (List.replicate x.toNat items))},toks:=s.toks}):=
 .of_wp fun prog w A R s h=>by
  obtain⟨hp,g,d,tk,os⟩:=s;obtain⟨hl,h⟩:=h
  have f1:=AutoSeq1.idx_int;have f2:=AutoSeq1.sub_tuple_tuple
  wp_walk using AutoSeq1.wpAny_loadPart' hl
  rw[if_neg hc0]
  wp_walk using AutoSeq1.wpAny_loadPart' hl
  rw[if_neg hc3]
  wp_walk using AutoSeq1.wpAny_loadPart' hl
  exact⟨_,rfl,h⟩
section
variable{X:Cx}
noncomputable def zat(K:W.Frag):R2:=fun x y H Q=> ∃a k xs,x= .ref a/\y= .int k/\SqT K H a xs/\0<xs.length/\2<=k/\k<2^63/\xs.length*k.toNat<=sizeLine/\
 ∀p,H p=none->Q (.ref p) (upd H p (.tup (List.replicate k.toNat xs).flatten))
theorem zau:OpR X (binaryOp .Mult) (zat X.K):=by
 intro pins s σ H x y v u Q I rx ry h
 obtain⟨a,k,xs,rfl,rfl,ha,h0,h1,h2,hz,q⟩:=h
 cases rx
 obtain⟨t,rfl⟩:=ry
 obtain⟨its,r,p1,_⟩:=I.tuple ha
 obtain⟨⟨cls,dd,data,sl⟩,e,hc,n,hd⟩:=id p1
 simp only at hc hd
 subst hc hd
 have hlen:its.length=xs.length:=r.length.symm
 have hne:its.toArray.isEmpty=false:=by
  cases its with
  |nil=>simp at hlen;lia
  |cons a r=>simp
 have hnew:List.foldl (fun x1 x2=>x1++x2) #[] (List.replicate k.toNat its.toArray)=(List.replicate k.toNat its).flatten.toArray:=by
  have:=z2L its k.toNat []
  rw[List.nil_append] at this
  exact this
 have hl2:((its.toArray.size:Nat):Int)*k=((xs.length*k.toNat:Nat):Int):=by
  rw[List.size_toArray,hlen,Int.natCast_mul,Int.toNat_of_nonneg (by lia)]
 have hs:(sizeLine:Nat)=16777216:=rfl
 refine wpAny_binaryOp_repeat_ref (T:= "tuple") (U:= "int") (by decide) ⟨_,e,rfl⟩ (fun s'=>typeIs_int s' k t) z2z F.fills_int_mul F.slot_int_rmul z4y F.slot_int_index.lookup
  (call_meets F.slot_int_rmul (typeIs_int s k t) F.entry_int_rmul (F.args_int_rmul_2 _ _) (z3m k t a its.toArray n dd sl)
   ⟨e,rfl,⟨_,e,rfl⟩,call_meets F.slot_tuple_mul ⟨_,e,rfl⟩ F.entry_tuple_mul (F.args_tuple_mul_2 _ _) (z6f a its.toArray n dd sl k t (by simp;lia) (by rw[hne];simp;lia) (by rw[hne];simp;lia) (by rw[hl2];clear hl2;generalize xs.length*k.toNat=m at hz⊢;lia) (by rw[hl2];clear hl2;generalize xs.length*k.toNat=m at hz⊢;unfold Builtin.Tuple.tupleTooMany;rw[decide_eq_true_eq];lia) (by rw[hnew,List.size_toArray,z56,hlen,Nat.mul_comm];exact hz)) ⟨e, ?_⟩⟩)
 rw[hnew]
 refine⟨.ref s.heap.objs.size,_,I.laid (t':=s.toks) (o:= .tup (List.replicate k.toNat xs).flatten) (fun b ob q=>Heap.get?_push_of_some _ q) (Nat.le_refl _) ?_,rfl,q _ (I.hok.fresh (Nat.le_refl _))⟩
 exact⟨by rw[z56,Nat.mul_comm];exact hz,_,r.rep k.toNat,IsTup.new _ _⟩
end
end L2
namespace Mi
open PySem L2
inductive D where
 |non|bool (b:Bool)|int (i:Int)|str (x:Str)
 |tup (ds:List D)|ro (ds:List D)|lst (l:Nat) (ds:List D)
 |dct (l:Nat) (ks vs:List D)|obj (l:Nat) (c:Str) (ns:List Str) (vs:List D)
 |exc (c:Str)|fn (c:Str)|fdc (ks vs:List D)
deriving Inhabited
mutual
noncomputable def labs:D->List Nat
 | .tup ds=>labsL ds
 | .ro ds=>labsL ds
 | .fdc _ vs=>labsL vs
 | .lst l ds=>l::labsL ds
 | .dct l ks vs=>l::(labsL ks++labsL vs)
 | .obj l _ _ vs=>l::labsL vs
 | .non=>[]| .bool _=>[]| .int _=>[]| .str _=>[]| .exc _=>[]| .fn _=>[]
noncomputable def labsL:List D->List Nat
 |[]=>[]
 |d::ds=>labs d++labsL ds
end
noncomputable def z05:List (Option D)->List Nat
 |[]=>[]
 |none::r=>z05 r
 |some d::r=>labs d++z05 r
structure Gx where
 K:W.Frag
 cl:Str->Option Addr
 ci: ∀c c' a,cl c=some a->cl c'=some a->c=c'
 ck: ∀c a,cl c=some a->∃o,K.lookup a=some o/\∀its n,o.data≠ .seq its n
noncomputable def keyD:Key->D
 | .inl i=> .int i
 | .inr x=> .str x
noncomputable def nkD:Key⊕List Key->D
 | .inl k=>keyD k
 | .inr ks=> .tup (ks.map keyD)
noncomputable def dkD(k:NK):D:= .tup (k.map nkD)
noncomputable def RoL(K:W.Frag)(H:Hp)(a:Addr)(xs:List V):Prop:=
 (∃o,H a=some (.frz o (.lst xs)))\/∃(o:Obj) (its:Array Value) (n:Nat),K.lookup a=some o/\o.cls= .type "list" /\o.dict=none/\o.data= .seq its n/\its.size<=sizeLine/\Vals xs its.toList
theorem RoL.sq{K:W.Frag}{H:Hp}{a:Addr}{xs:List V}(h:RoL K H a xs):SqL K H a xs:=by
 rcases h with⟨o,h⟩|h
 ·exact .inl (.inr ⟨o,h⟩)
 ·exact .inr h
mutual
noncomputable def RD(G:Gx)(ρ:Nat->Addr)(H:Hp):D->V->Prop
 | .non,v=>v= .non
 | .bool b,v=>v= .bl b
 | .int i,v=>v= .int i
 | .str x,v=>v= .str x
 | .exc c,v=> ∃a o C,v= .ref a/\G.cl c=some C/\o.cls= .ref C/\(∃vs,o.data= .fields vs)/\H a=some (.frz o (.ext fun _=>True))
 | .fn c,v=> ∃a,v= .ref a/\G.cl c=some a
 | .tup ds,v=> ∃a xs,v= .ref a/\H a=some (.tup xs)/\RDs G ρ H ds xs
 | .ro ds,v=> ∃a xs,v= .ref a/\RoL G.K H a xs/\RDs G ρ H ds xs
 | .fdc ks vs,v=> ∃(a:Addr) (o:Obj) (kvs:List (NK×V)),v= .ref a/\H a=some (.frz o (.dT kvs))/\ks=kvs.map (fun p=>dkD p.1)/\RDs G ρ H vs (kvs.map (·.2))
 | .lst l ds,v=>v= .ref (ρ l)/\∃xs,H (ρ l)=some (.lst xs)/\RDs G ρ H ds xs
 | .dct l ks vs,v=>v= .ref (ρ l)/\((∃kvs:List (Key×V),H (ρ l)=some (.dK kvs)/\ks=D.non::kvs.map (fun p=>keyD p.1)/\RDs G ρ H vs (kvs.map (·.2)))\/
  (∃kvs:List (NK×V),H (ρ l)=some (.dT kvs)/\ks=kvs.map (fun p=>dkD p.1)/\RDs G ρ H vs (kvs.map (·.2))))
 | .obj l c ns vs,v=>v= .ref (ρ l)/\∃C dx fs,G.cl c=some C/\H (ρ l)=some (.ins C dx fs)/\ns=fs.map (·.1)/\RDs G ρ H vs (fs.map (·.2))
noncomputable def RDs(G:Gx)(ρ:Nat->Addr)(H:Hp):List D->List V->Prop
 |[],xs=>xs=[]
 |d::ds,xs=> ∃x r,xs=x::r/\RD G ρ H d x/\RDs G ρ H ds r
end
structure z0J(H H':Hp):Prop where
 t: ∀b xs,H b=some (.tup xs)->H' b=some (.tup xs)
 f: ∀b o u,H b=some (.frz o u)->H' b=some (.frz o u)
theorem z0J.refl(H:Hp):z0J H H:=⟨fun _ _ h=>h,fun _ _ _ h=>h⟩
theorem z0J.of{H H':Hp}(h:Same H H'):z0J H H':=⟨fun _ _ e=>h _ _ e,fun _ _ _ e=>h _ _ e⟩
theorem z0J.ro{K:W.Frag}{H H':Hp}(t:z0J H H'){a:Addr}{xs:List V}(h:RoL K H a xs):RoL K H' a xs:=by
 rcases h with⟨o,h⟩|h
 ·exact .inl ⟨o,t.f _ _ _ h⟩
 ·exact .inr h
section
variable{G:Gx}{ρ ρ':Nat->Addr}{H H':Hp}
mutual
theorem RD.stay(ts:z0J H H'): ∀(t:D) (v:V),RD G ρ H t v->(∀l∈labs t,ρ' l=ρ l/\∀o,H (ρ l)=some o->H' (ρ l)=some o)->RD G ρ' H' t v
 | .non,v,h,_=>by simp only[RD] at h⊢;exact h
 | .bool b,v,h,_=>by simp only[RD] at h⊢;exact h
 | .int b,v,h,_=>by simp only[RD] at h⊢;exact h
 | .str b,v,h,_=>by simp only[RD] at h⊢;exact h
 | .exc b,v,h,_=>by
  simp only[RD] at h⊢
  obtain⟨a,o,C,e,h1,h2,h3,h5⟩:=h
  exact⟨a,o,C,e,h1,h2,h3,ts.f _ _ _ h5⟩
 | .fn b,v,h,_=>by simp only[RD] at h⊢;exact h
 | .tup ds,v,h,hl=>by
  simp only[RD,labs] at h hl⊢
  obtain⟨a,xs,e,s,r⟩:=h
  exact⟨a,xs,e,ts.t _ _ s,RDs.stay ts ds xs r hl⟩
 | .ro ds,v,h,hl=>by
  simp only[RD,labs] at h hl⊢
  obtain⟨a,xs,e,s,r⟩:=h
  exact⟨a,xs,e,ts.ro s,RDs.stay ts ds xs r hl⟩
 | .fdc ks vs,v,h,hl=>by
  simp only[RD,labs] at h hl⊢
  obtain⟨a,o,kvs,e,s,s2,r⟩:=h
  exact⟨a,o,kvs,e,ts.f _ _ _ s,s2,RDs.stay ts vs _ r hl⟩
 | .lst l ds,v,h,hl=>by
  simp only[RD,labs] at h hl⊢
  obtain⟨e,xs,s,r⟩:=h
  obtain⟨e1,e2⟩:=hl l (List.mem_cons_self ..)
  rw[e1]
  exact⟨e,xs,e2 _ s,RDs.stay ts ds xs r fun k hk=>hl k (List.mem_cons_of_mem _ hk)⟩
 | .dct l ks vs,v,h,hl=>by
  simp only[RD,labs] at h hl⊢
  obtain⟨e,s⟩:=h
  obtain⟨e1,e2⟩:=hl l (List.mem_cons_self ..)
  rw[e1]
  refine⟨e, ?_⟩
  rcases s with⟨kvs,s,s2,r⟩|⟨kvs,s,s2,r⟩
  ·exact .inl ⟨kvs,e2 _ s,s2,RDs.stay ts vs _ r fun k hk=>hl k (List.mem_cons_of_mem _ (List.mem_append_right _ hk))⟩
  ·exact .inr ⟨kvs,e2 _ s,s2,RDs.stay ts vs _ r fun k hk=>hl k (List.mem_cons_of_mem _ (List.mem_append_right _ hk))⟩
 | .obj l c ns vs,v,h,hl=>by
  simp only[RD,labs] at h hl⊢
  obtain⟨e,C,dx,fs,hC,s,s2,r⟩:=h
  obtain⟨e1,e2⟩:=hl l (List.mem_cons_self ..)
  rw[e1]
  exact⟨e,C,dx,fs,hC,e2 _ s,s2,RDs.stay ts vs _ r fun k hk=>hl k (List.mem_cons_of_mem _ hk)⟩
theorem RDs.stay(ts:z0J H H'): ∀(t:List D) (v:List V),RDs G ρ H t v->(∀l∈labsL t,ρ' l=ρ l/\∀o,H (ρ l)=some o->H' (ρ l)=some o)->RDs G ρ' H' t v
 |[],v,h,_=>by simp only[RDs] at h⊢;exact h
 |d::ds,v,h,hl=>by
  simp only[RDs,labsL] at h hl⊢
  obtain⟨x,r,e,h1,h2⟩:=h
  exact⟨x,r,e,RD.stay ts d x h1 fun l hk=>hl l (List.mem_append_left _ hk),RDs.stay ts ds r h2 fun l hk=>hl l (List.mem_append_right _ hk)⟩
end
end
mutual
noncomputable def rp(f:Nat->Option D):D->D
 | .tup ds=> .tup (rpL f ds)
 | .ro ds=> .ro (rpL f ds)
 | .fdc ks vs=> .fdc ks (rpL f vs)
 | .lst l ds=>match f l with|some d=>d|none=> .lst l (rpL f ds)
 | .dct l ks vs=>match f l with|some d=>d|none=> .dct l ks (rpL f vs)
 | .obj l c ns vs=>match f l with|some d=>d|none=> .obj l c ns (rpL f vs)
 | .non=> .non| .bool b=> .bool b| .int i=> .int i| .str x=> .str x| .exc x=> .exc x| .fn x=> .fn x
noncomputable def rpL(f:Nat->Option D):List D->List D
 |[]=>[]
 |d::ds=>rp f d::rpL f ds
end
noncomputable def rpO(f:Nat->Option D):List (Option D)->List (Option D)
 |[]=>[]
 |none::r=>none::rpO f r
 |some d::r=>some (rp f d)::rpO f r
section
variable{f:Nat->Option D}
mutual
theorem z7a: ∀t:D,(∀l∈labs t,f l=none)->rp f t=t
 | .non,_=>rfl
 | .bool b,_=>rfl
 | .int b,_=>rfl
 | .str b,_=>rfl
 | .exc b,_=>rfl
 | .fn b,_=>rfl
 | .tup ds,h=>by simp only[rp,labs] at h⊢;rw[rpL_id ds h]
 | .ro ds,h=>by simp only[rp,labs] at h⊢;rw[rpL_id ds h]
 | .fdc ks vs,h=>by simp only[rp,labs] at h⊢;rw[rpL_id vs h]
 | .lst l ds,h=>by
  simp only[rp,labs] at h⊢
  rw[h l (List.mem_cons_self ..),rpL_id ds fun k hk=>h k (List.mem_cons_of_mem _ hk)]
 | .dct l ks vs,h=>by
  simp only[rp,labs] at h⊢
  rw[h l (List.mem_cons_self ..),rpL_id vs fun k hk=>h k (List.mem_cons_of_mem _ (List.mem_append_right _ hk))]
 | .obj l c ns vs,h=>by
  simp only[rp,labs] at h⊢
  rw[h l (List.mem_cons_self ..),rpL_id vs fun k hk=>h k (List.mem_cons_of_mem _ hk)]
theorem rpL_id: ∀t:List D,(∀l∈labsL t,f l=none)->rpL f t=t
 |[],_=>rfl
 |d::ds,h=>by
  simp only[rpL,labsL] at h⊢
  rw[z7a d fun l hk=>h l (List.mem_append_left _ hk),rpL_id ds fun l hk=>h l (List.mem_append_right _ hk)]
end
theorem z7b: ∀t:List (Option D),(∀l∈z05 t,f l=none)->rpO f t=t
 |[],_=>rfl
 |none::r,h=>by simp only[rpO,z05] at h⊢;rw[z7b r h]
 |some d::r,h=>by
  simp only[rpO,z05] at h⊢
  rw[z7a d fun l hk=>h l (List.mem_append_left _ hk),z7b r fun l hk=>h l (List.mem_append_right _ hk)]
end
section
variable{G:Gx}{ρ ρ':Nat->Addr}{H H':Hp}{f:Nat->Option D}
mutual
theorem RD.rp(ts:z0J H H'): ∀(t:D) (v:V),RD G ρ H t v->(∀l∈labs t,ρ' l=ρ l/\(match f l with|some d=>RD G ρ' H' d (.ref (ρ l))|none=> ∀o,H (ρ l)=some o->H' (ρ l)=some o))->RD G ρ' H' (rp f t) v
 | .non,v,h,_=>by simp only[Mi.rp,RD] at h⊢;exact h
 | .bool b,v,h,_=>by simp only[Mi.rp,RD] at h⊢;exact h
 | .int b,v,h,_=>by simp only[Mi.rp,RD] at h⊢;exact h
 | .str b,v,h,_=>by simp only[Mi.rp,RD] at h⊢;exact h
 | .exc b,v,h,_=>by
  simp only[Mi.rp,RD] at h⊢
  obtain⟨a,o,C,e,h1,h2,h3,h5⟩:=h
  exact⟨a,o,C,e,h1,h2,h3,ts.f _ _ _ h5⟩
 | .fn b,v,h,_=>by simp only[Mi.rp,RD] at h⊢;exact h
 | .tup ds,v,h,hl=>by
  simp only[Mi.rp,RD,labs] at h hl⊢
  obtain⟨a,xs,e,s,r⟩:=h
  exact⟨a,xs,e,ts.t _ _ s,RDs.rp ts ds xs r hl⟩
 | .ro ds,v,h,hl=>by
  simp only[Mi.rp,RD,labs] at h hl⊢
  obtain⟨a,xs,e,s,r⟩:=h
  exact⟨a,xs,e,ts.ro s,RDs.rp ts ds xs r hl⟩
 | .fdc ks vs,v,h,hl=>by
  simp only[Mi.rp,RD,labs] at h hl⊢
  obtain⟨a,o,kvs,e,s,s2,r⟩:=h
  exact⟨a,o,kvs,e,ts.f _ _ _ s,s2,RDs.rp ts vs _ r hl⟩
 | .lst l ds,v,h,hl=>by
  simp only[Mi.rp,RD,labs] at h hl⊢
  obtain⟨e,xs,s,r⟩:=h
  obtain⟨e1,e2⟩:=hl l (List.mem_cons_self ..)
  cases ef:f l with
  |some d=>rw[ef] at e2;subst e;exact e2
  |none=>
   rw[ef] at e2
   simp only[RD]
   rw[e1]
   exact⟨e,xs,e2 _ s,RDs.rp ts ds xs r fun k hk=>hl k (List.mem_cons_of_mem _ hk)⟩
 | .dct l ks vs,v,h,hl=>by
  simp only[Mi.rp,RD,labs] at h hl⊢
  obtain⟨e,s⟩:=h
  obtain⟨e1,e2⟩:=hl l (List.mem_cons_self ..)
  cases ef:f l with
  |some d=>rw[ef] at e2;subst e;exact e2
  |none=>
   rw[ef] at e2
   simp only[RD]
   rw[e1]
   refine⟨e, ?_⟩
   rcases s with⟨kvs,s,s2,r⟩|⟨kvs,s,s2,r⟩
   ·exact .inl ⟨kvs,e2 _ s,s2,RDs.rp ts vs _ r fun k hk=>hl k (List.mem_cons_of_mem _ (List.mem_append_right _ hk))⟩
   ·exact .inr ⟨kvs,e2 _ s,s2,RDs.rp ts vs _ r fun k hk=>hl k (List.mem_cons_of_mem _ (List.mem_append_right _ hk))⟩
 | .obj l c ns vs,v,h,hl=>by
  simp only[Mi.rp,RD,labs] at h hl⊢
  obtain⟨e,C,dx,fs,hC,s,s2,r⟩:=h
  obtain⟨e1,e2⟩:=hl l (List.mem_cons_self ..)
  cases ef:f l with
  |some d=>rw[ef] at e2;subst e;exact e2
  |none=>
   rw[ef] at e2
   simp only[RD]
   rw[e1]
   exact⟨e,C,dx,fs,hC,e2 _ s,s2,RDs.rp ts vs _ r fun k hk=>hl k (List.mem_cons_of_mem _ hk)⟩
theorem RDs.rp(ts:z0J H H'): ∀(t:List D) (v:List V),RDs G ρ H t v->(∀l∈labsL t,ρ' l=ρ l/\(match f l with|some d=>RD G ρ' H' d (.ref (ρ l))|none=> ∀o,H (ρ l)=some o->H' (ρ l)=some o))->RDs G ρ' H' (rpL f t) v
 |[],v,h,_=>by simp only[rpL,RDs] at h⊢;exact h
 |d::ds,v,h,hl=>by
  simp only[rpL,RDs,labsL] at h hl⊢
  obtain⟨x,r,e,h1,h2⟩:=h
  exact⟨x,r,e,RD.rp ts d x h1 fun l hk=>hl l (List.mem_append_left _ hk),RDs.rp ts ds r h2 fun l hk=>hl l (List.mem_append_right _ hk)⟩
end
end
section
variable{f:Nat->Option D}
mutual
theorem z7c(l:Nat): ∀t:D,l∈labs (rp f t)->l∈labs t\/∃k d,k∈labs t/\f k=some d/\l∈labs d
 | .non,h=>by simp only[rp,labs] at h;cases h
 | .bool b,h=>by simp only[rp,labs] at h;cases h
 | .int b,h=>by simp only[rp,labs] at h;cases h
 | .str b,h=>by simp only[rp,labs] at h;cases h
 | .exc b,h=>by simp only[rp,labs] at h;cases h
 | .fn b,h=>by simp only[rp,labs] at h;cases h
 | .tup ds,h=>by
  simp only[rp,labs] at h⊢
  exact labsL_rp l ds h
 | .ro ds,h=>by
  simp only[rp,labs] at h⊢
  exact labsL_rp l ds h
 | .fdc ks vs,h=>by
  simp only[rp,labs] at h⊢
  exact labsL_rp l vs h
 | .lst k ds,h=>by
  simp only[rp] at h
  cases e:f k with
  |some d=>rw[e] at h;exact .inr ⟨k,d,by simp only[labs];exact List.mem_cons_self ..,e,h⟩
  |none=>
   rw[e] at h
   simp only[labs] at h⊢
   rcases List.mem_cons.mp h with h|h
   ·exact .inl (List.mem_cons.mpr (.inl h))
   ·rcases labsL_rp l ds h with q|⟨k',d,q1,q2,q3⟩
    ·exact .inl (List.mem_cons_of_mem _ q)
    ·exact .inr ⟨k',d,List.mem_cons_of_mem _ q1,q2,q3⟩
 | .dct k ks vs,h=>by
  simp only[rp] at h
  cases e:f k with
  |some d=>rw[e] at h;exact .inr ⟨k,d,by simp only[labs];exact List.mem_cons_self ..,e,h⟩
  |none=>
   rw[e] at h
   simp only[labs] at h⊢
   rcases List.mem_cons.mp h with h|h
   ·exact .inl (List.mem_cons.mpr (.inl h))
   ·rcases List.mem_append.mp h with h|h
    ·exact .inl (List.mem_cons_of_mem _ (List.mem_append_left _ h))
    ·rcases labsL_rp l vs h with q|⟨k',d,q1,q2,q3⟩
     ·exact .inl (List.mem_cons_of_mem _ (List.mem_append_right _ q))
     ·exact .inr ⟨k',d,List.mem_cons_of_mem _ (List.mem_append_right _ q1),q2,q3⟩
 | .obj k c ns vs,h=>by
  simp only[rp] at h
  cases e:f k with
  |some d=>rw[e] at h;exact .inr ⟨k,d,by simp only[labs];exact List.mem_cons_self ..,e,h⟩
  |none=>
   rw[e] at h
   simp only[labs] at h⊢
   rcases List.mem_cons.mp h with h|h
   ·exact .inl (List.mem_cons.mpr (.inl h))
   ·rcases labsL_rp l vs h with q|⟨k',d,q1,q2,q3⟩
    ·exact .inl (List.mem_cons_of_mem _ q)
    ·exact .inr ⟨k',d,List.mem_cons_of_mem _ q1,q2,q3⟩
theorem labsL_rp(l:Nat): ∀t:List D,l∈labsL (rpL f t)->l∈labsL t\/∃k d,k∈labsL t/\f k=some d/\l∈labs d
 |[],h=>by simp only[rpL,labsL] at h;cases h
 |d::ds,h=>by
  simp only[rpL,labsL] at h⊢
  rcases List.mem_append.mp h with h|h
  ·rcases z7c l d h with q|⟨k',d,q1,q2,q3⟩
   ·exact .inl (List.mem_append_left _ q)
   ·exact .inr ⟨k',d,List.mem_append_left _ q1,q2,q3⟩
  ·rcases labsL_rp l ds h with q|⟨k',d,q1,q2,q3⟩
   ·exact .inl (List.mem_append_right _ q)
   ·exact .inr ⟨k',d,List.mem_append_right _ q1,q2,q3⟩
end
theorem z2F(l:Nat): ∀t:List (Option D),l∈z05 (rpO f t)->l∈z05 t\/∃k d,k∈z05 t/\f k=some d/\l∈labs d
 |[],h=>by simp only[rpO,z05] at h;cases h
 |none::r,h=>by simp only[rpO,z05] at h⊢;exact z2F l r h
 |some d::ds,h=>by
  simp only[rpO,z05] at h⊢
  rcases List.mem_append.mp h with h|h
  ·rcases z7c l d h with q|⟨k',d,q1,q2,q3⟩
   ·exact .inl (List.mem_append_left _ q)
   ·exact .inr ⟨k',d,List.mem_append_left _ q1,q2,q3⟩
  ·rcases z2F l ds h with q|⟨k',d,q1,q2,q3⟩
   ·exact .inl (List.mem_append_right _ q)
   ·exact .inr ⟨k',d,List.mem_append_right _ q1,q2,q3⟩
end
structure Stt where
 σ:List (Option D)
 tm:List (Option D)
 n:Nat
structure Fx where
 A0:Addr->Prop
 H0:Hp
 Z:Addr->Prop
 zA: ∀a,Z a->(∃o,H0 a=some o)/\¬A0 a
 aH: ∀a,A0 a->∃o,H0 a=some o
 n0:Nat
 ρ0:Nat->Addr
noncomputable def KD(K:W.Frag)(H:Hp):Prop:= ∀a o,K.lookup a=some o->H a=none
section
variable(G:Gx)(ρ:Nat->Addr)(H:Hp)
noncomputable def Sl:List (Option D)->List (Option V)->Prop
 |[],vs=>vs=[]
 |none::r,vs=> ∃o q,vs=o::q/\Sl r q
 |some d::r,vs=> ∃v q,vs=some v::q/\RD G ρ H d v/\Sl r q
end
noncomputable def z0q(s:Stt):List Nat:=z05 s.σ++z05 s.tm
structure MR(G:Gx)(F:Fx)(ρ:Nat->Addr)(H:Hp)(σv tv:List (Option V))(s:Stt):Prop where
 sl:Sl G ρ H s.σ σv
 tm:Sl G ρ H s.tm tv
 inj: ∀i j,i<s.n->j<s.n->ρ i=ρ j->i=j
 dom: ∀l,l<s.n->∃o,H (ρ l)=some o
 lab: ∀l∈z0q s,l<s.n
 own: ∀l∈z0q s,F.A0 (ρ l)\/F.H0 (ρ l)=none
 frm: ∀a o,F.H0 a=some o->(∃o',H a=some o')/\(¬F.A0 a->H a=some o)
 kd:KD G.K H
 frb: ∀l,l<s.n->¬F.Z (ρ l)
 bas:F.n0<=s.n/\∀l,l<F.n0->ρ l=F.ρ0 l
noncomputable def Stt.psh(s:Stt)(t:D):Stt:={s with tm:=some t::s.tm}
noncomputable def Stt.nxt(s:Stt):Stt:={s with n:=s.n+1}
section
variable{G:Gx}{F:Fx}{ρ ρ':Nat->Addr}{H H':Hp}{σv tv:List (Option V)}{s:Stt}{t:D}{v:V}
theorem Sl.stay(ts:z0J H H'): ∀{σ:List (Option D)} {σv:List (Option V)},Sl G ρ H σ σv->(∀l∈z05 σ,ρ' l=ρ l/\∀o,H (ρ l)=some o->H' (ρ l)=some o)->Sl G ρ' H' σ σv
 |[],_,h,_=>h
 |none::r,_,h,hl=>by
  simp only[Sl,z05] at h hl⊢
  obtain⟨o,q,e,h⟩:=h
  exact⟨o,q,e,Sl.stay ts h hl⟩
 |some d::r,_,h,hl=>by
  simp only[Sl,z05] at h hl⊢
  obtain⟨o,q,e,h1,h⟩:=h
  exact⟨o,q,e,RD.stay ts d o h1 fun l hk=>hl l (List.mem_append_left _ hk),Sl.stay ts h fun l hk=>hl l (List.mem_append_right _ hk)⟩
theorem Sl.rp{f:Nat->Option D}(ts:z0J H H'): ∀{σ:List (Option D)} {σv:List (Option V)},Sl G ρ H σ σv->
 (∀l∈z05 σ,ρ' l=ρ l/\(match f l with|some d=>RD G ρ' H' d (.ref (ρ l))|none=> ∀o,H (ρ l)=some o->H' (ρ l)=some o))->Sl G ρ' H' (rpO f σ) σv
 |[],_,h,_=>h
 |none::r,_,h,hl=>by
  simp only[Sl,z05,rpO] at h hl⊢
  obtain⟨o,q,e,h⟩:=h
  exact⟨o,q,e,Sl.rp ts h hl⟩
 |some d::r,_,h,hl=>by
  simp only[Sl,z05,rpO] at h hl⊢
  obtain⟨o,q,e,h1,h⟩:=h
  exact⟨o,q,e,RD.rp ts d o h1 fun l hk=>hl l (List.mem_append_left _ hk),Sl.rp ts h fun l hk=>hl l (List.mem_append_right _ hk)⟩
theorem Sl.get: ∀{σ:List (Option D)} {σv:List (Option V)},Sl G ρ H σ σv->∀(i:Nat) (d:D),σ[i]? =some (some d)->∃v,σv[i]? =some (some v)/\RD G ρ H d v
 |[],_,_,i,d,e=>by simp at e
 |none::r,_,h,i,d,e=>by
  simp only[Sl] at h
  obtain⟨o,q,rfl,h⟩:=h
  cases i with
  |zero=>simp at e
  |succ i=>simpa using Sl.get h i d (by simpa using e)
 |some d'::r,_,h,i,d,e=>by
  simp only[Sl] at h
  obtain⟨v,q,rfl,h1,h⟩:=h
  cases i with
  |zero=>simp at e;subst e;exact⟨v,rfl,h1⟩
  |succ i=>simpa using Sl.get h i d (by simpa using e)
theorem Sl.length: ∀{σ:List (Option D)} {σv:List (Option V)},Sl G ρ H σ σv->σ.length=σv.length
 |[],_,h=>by simp only[Sl] at h;subst h;rfl
 |none::r,_,h=>by
  simp only[Sl] at h
  obtain⟨o,q,rfl,h⟩:=h
  simp[Sl.length h]
 |some d'::r,_,h=>by
  simp only[Sl] at h
  obtain⟨v,q,rfl,h1,h⟩:=h
  simp[Sl.length h]
theorem Sl.set: ∀{σ:List (Option D)} {σv:List (Option V)} (i:Nat),Sl G ρ H σ σv->RD G ρ H t v->Sl G ρ H (σ.set i (some t)) (σv.set i (some v))
 |[],_,i,h,_=>by simp only[Sl] at h;subst h;simp[Sl]
 |none::r,_,i,h,ht=>by
  simp only[Sl] at h
  obtain⟨o,q,rfl,h⟩:=h
  cases i with
  |zero=>simp only[List.set_cons_zero,Sl];exact⟨_,_,rfl,ht,h⟩
  |succ i=>simp only[List.set_cons_succ,Sl];exact⟨_,_,rfl,Sl.set i h ht⟩
 |some d'::r,_,i,h,ht=>by
  simp only[Sl] at h
  obtain⟨v',q,rfl,h1,h⟩:=h
  cases i with
  |zero=>simp only[List.set_cons_zero,Sl];exact⟨_,_,rfl,ht,h⟩
  |succ i=>simp only[List.set_cons_succ,Sl];exact⟨_,_,rfl,h1,Sl.set i h ht⟩
theorem Sl.append: ∀{σ σ':List (Option D)} {σv σv':List (Option V)},Sl G ρ H σ σv->Sl G ρ H σ' σv'->Sl G ρ H (σ++σ') (σv++σv')
 |[],_,_,_,h,h'=>by simp only[Sl] at h;subst h;exact h'
 |none::r,_,_,_,h,h'=>by
  simp only[Sl] at h
  obtain⟨o,q,rfl,h⟩:=h
  simp only[List.cons_append,Sl];exact⟨_,_,rfl,Sl.append h h'⟩
 |some d'::r,_,_,_,h,h'=>by
  simp only[Sl] at h
  obtain⟨v,q,rfl,h1,h⟩:=h
  simp only[List.cons_append,Sl];exact⟨_,_,rfl,h1,Sl.append h h'⟩
theorem Sl.split: ∀(σv:List (Option V)) {σ:List (Option D)} {tv:List (Option V)},Sl G ρ H σ (σv++tv)->Sl G ρ H (σ.take σv.length) σv/\Sl G ρ H (σ.drop σv.length) tv
 |[],σ,tv,h=>⟨by simp[Sl],by simpa using h⟩
 |o::σv,[],tv,h=>by simp[Sl] at h
 |o::σv,none::r,tv,h=>by
  simp only[List.cons_append,Sl] at h
  obtain⟨o',q,e,h⟩:=h
  cases e
  obtain⟨h1,h2⟩:=Sl.split σv h
  simp only[List.length_cons,List.take_succ_cons,List.drop_succ_cons,Sl]
  exact⟨⟨_,_,rfl,h1⟩,h2⟩
 |o::σv,some d::r,tv,h=>by
  simp only[List.cons_append,Sl] at h
  obtain⟨o',q,e,h0,h⟩:=h
  cases e
  obtain⟨h1,h2⟩:=Sl.split σv h
  simp only[List.length_cons,List.take_succ_cons,List.drop_succ_cons,Sl]
  exact⟨⟨_,_,rfl,h0,h1⟩,h2⟩
theorem z24: ∀{σ:List (Option D)} {i:Nat} {d:D},σ[i]? =some (some d)->∀l∈labs d,l∈z05 σ
 |[],i,d,e,l,h=>by simp at e
 |none::r,i,d,e,l,h=>by
  simp only[z05]
  cases i with
  |zero=>simp at e
  |succ i=>exact z24 (i:=i) (by simpa using e) l h
 |some d'::r,i,d,e,l,h=>by
  simp only[z05]
  cases i with
  |zero=>simp at e;subst e;exact List.mem_append_left _ h
  |succ i=>exact List.mem_append_right _ (z24 (i:=i) (by simpa using e) l h)
theorem z2U: ∀{σ:List (Option D)} {i:Nat} {d:D} (l:Nat),l∈z05 (σ.set i (some d))->l∈z05 σ\/l∈labs d
 |[],i,d,l,h=>by simp[z05] at h
 |none::r,i,d,l,h=>by
  cases i with
  |zero=>
   simp only[List.set_cons_zero,z05] at h⊢
   rcases List.mem_append.mp h with h|h
   ·exact .inr h
   ·exact .inl h
  |succ i=>
   simp only[List.set_cons_succ,z05] at h⊢
   exact z2U l h
 |some d'::r,i,d,l,h=>by
  cases i with
  |zero=>
   simp only[List.set_cons_zero,z05] at h⊢
   rcases List.mem_append.mp h with h|h
   ·exact .inr h
   ·exact .inl (List.mem_append_right _ h)
  |succ i=>
   simp only[List.set_cons_succ,z05] at h⊢
   rcases List.mem_append.mp h with h|h
   ·exact .inl (List.mem_append_left _ h)
   ·rcases z2U l h with q|q
    ·exact .inl (List.mem_append_right _ q)
    ·exact .inr q
theorem z08: ∀(σ σ':List (Option D)),z05 (σ++σ')=z05 σ++z05 σ'
 |[],_=>rfl
 |none::r,σ'=>by simp only[List.cons_append,z05,z08 r σ']
 |some d::r,σ'=>by simp only[List.cons_append,z05,z08 r σ',List.append_assoc]
theorem z0r: ∀(σ σ':List D),labsL (σ++σ')=labsL σ++labsL σ'
 |[],_=>rfl
 |d::r,σ'=>by simp only[List.cons_append,labsL,z0r r σ',List.append_assoc]
theorem labsL_mem: ∀{ds:List D} {d:D},d∈ds->∀l∈labs d,l∈labsL ds
 |_::ds,d,h,l,hl=>by
  simp only[labsL]
  rcases List.mem_cons.mp h with rfl|h
  ·exact List.mem_append_left _ hl
  ·exact List.mem_append_right _ (labsL_mem h l hl)
theorem z0V: ∀{ds:List D} {l:Nat},l∈labsL ds->∃d∈ds,l∈labs d
 |d::ds,l,h=>by
  simp only[labsL] at h
  rcases List.mem_append.mp h with h|h
  ·exact⟨d,List.mem_cons_self ..,h⟩
  ·obtain⟨x,h1,h2⟩:=z0V h
   exact⟨x,List.mem_cons_of_mem _ h1,h2⟩
theorem RDs.get: ∀{ds:List D} {xs:List V},RDs G ρ H ds xs->∀(i:Nat) (d:D),ds[i]? =some d->∃x,xs[i]? =some x/\RD G ρ H d x
 |[],_,_,i,d,e=>by simp at e
 |d'::r,_,h,i,d,e=>by
  simp only[RDs] at h
  obtain⟨x,q,rfl,h1,h2⟩:=h
  cases i with
  |zero=>simp at e;subst e;exact⟨x,rfl,h1⟩
  |succ i=>simpa using RDs.get h2 i d (by simpa using e)
theorem RDs.length: ∀{ds:List D} {xs:List V},RDs G ρ H ds xs->ds.length=xs.length
 |[],_,h=>by simp only[RDs] at h;subst h;rfl
 |d'::r,_,h=>by
  simp only[RDs] at h
  obtain⟨x,q,rfl,h1,h2⟩:=h
  simp[RDs.length h2]
theorem RDs.append: ∀{ds es:List D} {xs ys:List V},RDs G ρ H ds xs->RDs G ρ H es ys->RDs G ρ H (ds++es) (xs++ys)
 |[],_,_,_,h,h'=>by simp only[RDs] at h;subst h;exact h'
 |d'::r,_,_,_,h,h'=>by
  simp only[RDs] at h
  obtain⟨x,q,rfl,h1,h2⟩:=h
  simp only[List.cons_append,RDs]
  exact⟨_,_,rfl,h1,RDs.append h2 h'⟩
theorem RDs.one{d:D}{x:V}(h:RD G ρ H d x):RDs G ρ H [d] [x]:=by simp only[RDs];exact⟨_,_,rfl,h,rfl⟩
theorem RDs.take: ∀{ds:List D} {xs:List V} (k:Nat),RDs G ρ H ds xs->RDs G ρ H (ds.take k) (xs.take k)
 |_,_,0,_=>by simp[RDs]
 |[],_,k+1,h=>by simp only[RDs] at h;subst h;simp[RDs]
 |d'::r,_,k+1,h=>by
  simp only[RDs] at h
  obtain⟨x,q,rfl,h1,h2⟩:=h
  simp only[List.take_succ_cons,RDs]
  exact⟨_,_,rfl,h1,RDs.take k h2⟩
theorem RDs.drop: ∀{ds:List D} {xs:List V} (k:Nat),RDs G ρ H ds xs->RDs G ρ H (ds.drop k) (xs.drop k)
 |_,_,0,h=>h
 |[],_,k+1,h=>by simp only[RDs] at h;subst h;simp[RDs]
 |d'::r,_,k+1,h=>by
  simp only[RDs] at h
  obtain⟨x,q,rfl,h1,h2⟩:=h
  simp only[List.drop_succ_cons]
  exact RDs.drop k h2
theorem RDs.set: ∀{ds:List D} {xs:List V} (k:Nat),RDs G ρ H ds xs->RD G ρ H t v->RDs G ρ H (ds.set k t) (xs.set k v)
 |[],_,k,h,_=>by simp only[RDs] at h;subst h;simp[RDs]
 |d'::r,_,0,h,ht=>by
  simp only[RDs] at h
  obtain⟨x,q,rfl,h1,h2⟩:=h
  simp only[List.set_cons_zero,RDs];exact⟨_,_,rfl,ht,h2⟩
 |d'::r,_,k+1,h,ht=>by
  simp only[RDs] at h
  obtain⟨x,q,rfl,h1,h2⟩:=h
  simp only[List.set_cons_succ,RDs];exact⟨_,_,rfl,h1,RDs.set k h2 ht⟩
theorem MR.pop{o:Option V}{r:Option D}(M:MR G F ρ H σv (o::tv) {s with tm:=r::s.tm}):MR G F ρ H σv tv s where
 sl:=M.sl
 tm:=by
  have h:=M.tm
  cases r with
  |none=>simp only[Sl] at h;obtain⟨_,_,e,h⟩:=h;cases e;exact h
  |some t=>simp only[Sl] at h;obtain⟨_,_,e,_,h⟩:=h;cases e;exact h
 inj:=M.inj
 dom:=M.dom
 lab:=fun l h=>M.lab l (by
  rcases List.mem_append.mp h with h|h
  ·exact List.mem_append_left _ h
  ·refine List.mem_append_right _ ?_
   cases r with
   |none=>exact h
   |some t=>exact List.mem_append_right _ h)
 own:=fun l h=>M.own l (by
  rcases List.mem_append.mp h with h|h
  ·exact List.mem_append_left _ h
  ·refine List.mem_append_right _ ?_
   cases r with
   |none=>exact h
   |some t=>exact List.mem_append_right _ h)
 frm:=M.frm
 kd:=M.kd
 frb:=M.frb
 bas:=M.bas
theorem MR.top(M:MR G F ρ H σv (some v::tv) (s.psh t)):RD G ρ H t v:=by
 have h:=M.tm
 have h:Sl G ρ H (some t::s.tm) (some v::tv):=h
 simp only[Sl] at h
 obtain⟨_,_,e,h,_⟩:=h
 cases e
 exact h
theorem MR.topl(M:MR G F ρ H σv tv (s.psh t)): ∀l∈labs t,l<s.n/\(F.A0 (ρ l)\/F.H0 (ρ l)=none):=fun l h=>
 have m:l∈z0q (s.psh t):=List.mem_append_right _ (List.mem_append_left _ h)
 ⟨M.lab l m,M.own l m⟩
theorem MR.same(M:MR G F ρ H σv tv s)(h:Same H H')(k:KD G.K H'):MR G F ρ H' σv tv s where
 sl:=Sl.stay (z0J.of h) M.sl fun l _=>⟨rfl,fun o e=>h _ _ e⟩
 tm:=Sl.stay (z0J.of h) M.tm fun l _=>⟨rfl,fun o e=>h _ _ e⟩
 inj:=M.inj
 dom:=fun l hl=>let⟨o,e⟩:=M.dom l hl;⟨o,h _ _ e⟩
 lab:=M.lab
 own:=M.own
 frm:=fun a o e=>let⟨⟨o',e1⟩,e2⟩:=M.frm a o e;⟨⟨o',h _ _ e1⟩,fun n=>h _ _ (e2 n)⟩
 kd:=k
 frb:=M.frb
 bas:=M.bas
theorem RDs.same{ts:List D}{vs:List V}(h:Same H H')(r:RDs G ρ H ts vs):RDs G ρ H' ts vs:=RDs.stay (z0J.of h) ts vs r fun l _=>⟨rfl,fun o e=>h _ _ e⟩
noncomputable def ext(ρ:Nat->Addr)(n:Nat)(p:Addr):Nat->Addr:=fun l=>if l=n then p else ρ l
theorem z0i{n l:Nat}{p:Addr}(h:l<n):ext ρ n p l=ρ l:=by unfold ext;rw[if_neg (by lia)]
theorem z0E{n:Nat}{p:Addr}:ext ρ n p n=p:=by unfold ext;rw[if_pos rfl]
theorem MR.new{p:Addr}{o:HO}(M:MR G F ρ H σv tv s)(hp:H p=none)(k:KD G.K (upd H p o)):MR G F (ext ρ s.n p) (upd H p o) σv tv s.nxt where
 sl:=Sl.stay (z0J.of (Same.new o hp)) M.sl fun l hl=>⟨z0i (M.lab l (List.mem_append_left _ hl)),fun o e=>Same.new _ hp _ _ e⟩
 tm:=Sl.stay (z0J.of (Same.new o hp)) M.tm fun l hl=>⟨z0i (M.lab l (List.mem_append_right _ hl)),fun o e=>Same.new _ hp _ _ e⟩
 inj:=fun i j hi hj e=>by
  have hi:i<s.n+1:=hi
  have hj:j<s.n+1:=hj
  have nn: ∀i,i<s.n->ρ i≠p:=fun i h e=>by
   obtain⟨o,q⟩:=M.dom i h
   rw[e,hp] at q;cases q
  by_cases h1:i=s.n
  ·by_cases h2:j=s.n
   ·lia
   ·rw[h1,z0E,z0i (by lia)] at e
    exact absurd e.symm (nn j (by lia))
  ·by_cases h2:j=s.n
   ·rw[h2,z0E,z0i (by lia)] at e
    exact absurd e (nn i (by lia))
   ·rw[z0i (by lia),z0i (by lia)] at e
    exact M.inj i j (by lia) (by lia) e
 dom:=fun l hl=>by
  have hl:l<s.n+1:=hl
  by_cases h1:l=s.n
  ·subst h1;rw[z0E];exact⟨o,z07⟩
  ·rw[z0i (by lia)]
   obtain⟨o',e⟩:=M.dom l (by lia)
   exact⟨o',Same.new _ hp _ _ e⟩
 lab:=fun l h=>Nat.lt_succ_of_lt (M.lab l h)
 own:=fun l h=>by rw[z0i (M.lab l h)];exact M.own l h
 frm:=fun a o e=>let⟨⟨o',e1⟩,e2⟩:=M.frm a o e;⟨⟨o',Same.new _ hp _ _ e1⟩,fun n=>Same.new _ hp _ _ (e2 n)⟩
 kd:=k
 frb:=fun l hl=>by
  have hl:l<s.n+1:=hl
  by_cases h1:l=s.n
  ·subst h1;rw[z0E]
   intro z
   obtain⟨⟨o,e⟩,_⟩:=F.zA p z
   obtain⟨⟨o',e'⟩,_⟩:=M.frm p o e
   rw[hp] at e';cases e'
  ·rw[z0i (by lia)]
   exact M.frb l (by lia)
 bas:=⟨Nat.le_succ_of_le M.bas.1,fun l hl=>by rw[z0i (Nat.lt_of_lt_of_le hl M.bas.1)];exact M.bas.2 l hl⟩
theorem MR.fresh0{p:Addr}(M:MR G F ρ H σv tv s)(hp:H p=none):F.H0 p=none:=by
 cases q:F.H0 p with
 |none=>rfl
 |some o=>
  obtain⟨⟨o',e⟩,_⟩:=M.frm p o q
  rw[hp] at e;cases e
noncomputable def Stt.put(s:Stt)(l:Nat)(d:D):Stt:={s with σ:=rpO (fun k=>if k=l then some d else none) s.σ,tm:=rpO (fun k=>if k=l then some d else none) s.tm}
end
inductive Res(α:Type) where
 |ok (a:α) (s:Stt)|ex (d:D) (s:Stt)|no
noncomputable abbrev M(α:Type):=Stt->Res α
noncomputable def bd{α β:Type}(m:M α)(f:α->M β):M β:=fun s=>match m s with
 | .ok a s'=>f a s'
 | .ex d s'=> .ex d s'
 | .no=> .no
noncomputable def rt{α:Type}(a:α):M α:=fun s=> .ok a s
noncomputable def fl{α:Type}:M α:=fun _=> .no
noncomputable def psh(t:D):M Unit:=fun s=> .ok () (s.psh t)
noncomputable def pop:M D:=fun s=>match s.tm with
 |some t::r=> .ok t {s with tm:=r}
 |_=> .no
structure Fy extends Fx where
 tv0:List (Option V)
 xw:D->Stt->Prop
structure MRL(G:Gx)(F:Fx)(ρ:Nat->Addr)(H:Hp)(σv tv:List (Option V))(s:Stt)(ts:List D)(vs:List V):Prop where
 m:MR G F ρ H σv tv s
 rd:RDs G ρ H ts vs
 lb: ∀l∈labsL ts,l<s.n/\(F.A0 (ρ l)\/F.H0 (ρ l)=none)
section
variable{G:Gx}{F:Fy}{ρ ρ':Nat->Addr}{H H':Hp}{σv tv:List (Option V)}{s:Stt}{t t':D}{v u:V}{ts:List D}{vs:List V}{Q:VK}
theorem MRL.rd1(M:MRL G F.toFx ρ H σv tv s [t] [v]):RD G ρ H t v:=by
 have h:=M.rd
 simp only[RDs] at h
 obtain⟨_,_,e,h,_⟩:=h
 cases e;exact h
theorem MRL.rd2(M:MRL G F.toFx ρ H σv tv s [t,t'] [v,u]):RD G ρ H t v/\RD G ρ H t' u:=by
 have h:=M.rd
 simp only[RDs] at h
 obtain⟨_,_,e,h,_,_,e',h',_⟩:=h
 cases e;cases e';exact⟨h,h'⟩
theorem MRL.push(M:MRL G F.toFx ρ H σv tv s [t] [v]):MR G F.toFx ρ H σv (some v::tv) (s.psh t):=by
 have hl: ∀l∈labs t,l<s.n/\(F.A0 (ρ l)\/F.H0 (ρ l)=none):=fun l h=>M.lb l (by simp only[labsL,List.append_nil];exact h)
 refine⟨M.m.sl, ?_,M.m.inj,M.m.dom,fun l h=> ?_,fun l h=> ?_,M.m.frm,M.m.kd,M.m.frb,M.m.bas⟩
 ·show Sl G ρ H (some t::s.tm) _
  simp only[Sl]
  exact⟨v,tv,rfl,M.rd1,M.m.tm⟩
 ·have h:l∈z05 s.σ++(labs t++z05 s.tm):=h
  rcases List.mem_append.mp h with h|h
  ·exact M.m.lab l (List.mem_append_left _ h)
  ·rcases List.mem_append.mp h with h|h
   ·exact(hl l h).1
   ·exact M.m.lab l (List.mem_append_right _ h)
 ·have h:l∈z05 s.σ++(labs t++z05 s.tm):=h
  rcases List.mem_append.mp h with h|h
  ·exact M.m.own l (List.mem_append_left _ h)
  ·rcases List.mem_append.mp h with h|h
   ·exact(hl l h).2
   ·exact M.m.own l (List.mem_append_right _ h)
theorem MRL.down{s':Stt}{r:List (Option D)}(M:MRL G F.toFx ρ H σv (some v::tv) s' ts vs)(e:s'.tm=some t::r):MRL G F.toFx ρ H σv tv {s' with tm:=r} (t::ts) (v::vs):=by
 obtain⟨σ,tm,n⟩:=s'
 have e:tm=some t::r:=e
 subst e
 refine⟨MR.pop (s:=⟨σ,r,n⟩) M.m, ?_,fun l h=> ?_⟩
 ·simp only[RDs]
  exact⟨v,vs,rfl,MR.top (s:=⟨σ,r,n⟩) M.m,M.rd⟩
 ·simp only[labsL] at h
  rcases List.mem_append.mp h with h|h
  ·exact MR.topl (s:=⟨σ,r,n⟩) M.m l h
  ·exact M.lb l h
noncomputable def wM(G:Gx)(F:Fy)(σv tv:List (Option V))(r:Res D)(Q:VK):Prop:=match r with
 | .ok t s'=> ∀ρ' v H',MRL G F.toFx ρ' H' σv tv s' [t] [v]->Q v H'
 | .ex d s'=>F.xw d s'
 | .no=>False
noncomputable def wL(G:Gx)(F:Fy)(σv tv:List (Option V))(r:Res (List D))(Q:List V->Hp->Prop):Prop:=match r with
 | .ok ts s'=> ∀ρ' vs H',MRL G F.toFx ρ' H' σv tv s' ts vs->Q vs H'
 | .ex d s'=>F.xw d s'
 | .no=>False
noncomputable def wB(G:Gx)(F:Fy)(σv tv:List (Option V))(r:Res Bool)(Q:Bool->Hp->Prop):Prop:=match r with
 | .ok b s'=> ∀ρ' H',MR G F.toFx ρ' H' σv tv s'->Q b H'
 | .ex d s'=>F.xw d s'
 | .no=>False
noncomputable def tMv(G:Gx)(F:Fy)(m:M D)(σv tv:List (Option V))(H:Hp)(Q:VK):Prop:=F.tv0<:+tv/\∃ρ s,MR G F.toFx ρ H σv tv s/\wM G F σv tv (m s) Q
noncomputable def tLv(G:Gx)(F:Fy)(m:M (List D))(σv tv:List (Option V))(H:Hp)(Q:List V->Hp->Prop):Prop:=F.tv0<:+tv/\∃ρ s,MR G F.toFx ρ H σv tv s/\wL G F σv tv (m s) Q
noncomputable def tBv(G:Gx)(F:Fy)(m:M Bool)(σv tv:List (Option V))(H:Hp)(Q:Bool->Hp->Prop):Prop:=F.tv0<:+tv/\∃ρ s,MR G F.toFx ρ H σv tv s/\wB G F σv tv (m s) Q
noncomputable def tM(G:Gx)(F:Fy)(m:M D):TE:=fun σv H Q=> ∃tv,tMv G F m σv tv H Q
noncomputable def tML(G:Gx)(F:Fy)(m:M (List D)):TA:=fun σv H Q=> ∃tv,tLv G F m σv tv H Q
noncomputable def tMB(G:Gx)(F:Fy)(m:M Bool):TT:=fun σv H Q=> ∃tv,tBv G F m σv tv H Q
noncomputable def SE(X:Cx)(G:Gx)(F:Fy)(e:Expr)(m:M D):Prop:=PE X e (tM G F m)
noncomputable def SA(X:Cx)(G:Gx)(F:Fy)(es:List Expr)(m:M (List D)):Prop:=PA X es (tML G F m)
noncomputable def SB(X:Cx)(G:Gx)(F:Fy)(e:Expr)(m:M Bool):Prop:=PT X e (tMB G F m)
theorem suf1{o:Option V}(h:F.tv0<:+tv):F.tv0<:+o::tv:=h.trans (List.suffix_cons _ _)
theorem z59{m:M D}{f:D->M D}(h:tMv G F (bd m f) σv tv H Q):tMv G F m σv tv H (fun v H1=> ∃ρ1 s1 t,MRL G F.toFx ρ1 H1 σv tv s1 [t] [v]/\wM G F σv tv (f t s1) Q):=by
 obtain⟨hs,ρ,s,M,W⟩:=h
 refine⟨hs,ρ,s,M, ?_⟩
 unfold bd at W
 cases e:m s with
 |ok t s1=>rw[e] at W;exact fun ρ1 v H1 M1=>⟨ρ1,s1,t,M1,W⟩
 |ex d s1=>rw[e] at W;exact W
 |no=>rw[e] at W;exact W
noncomputable def mBin(ma mb:M D)(g:D->D->M D):M D:=bd ma fun x=>bd (psh x) fun _=>bd mb fun y=>bd pop fun x'=>g x' y
theorem z5D{ma mb:M D}{g:D->D->M D}(h:tMv G F (mBin ma mb g) σv tv H Q):
 tMv G F ma σv tv H (fun v H1=>tMv G F mb σv (some v::tv) H1 (fun u H2=> ∃ρ2 s2 t t',MRL G F.toFx ρ2 H2 σv tv s2 [t,t'] [v,u]/\wM G F σv tv (g t t' s2) Q)):=by
 have h':=z59 h
 obtain⟨hs,ρ,s,M,W⟩:=h'
 refine⟨hs,ρ,s,M, ?_⟩
 cases e:ma s with
 |ok t s1=>
  rw[e] at W
  intro ρ1 v H1 M1
  obtain⟨ρ1,s1,t,M1,W⟩:=W ρ1 v H1 M1
  refine⟨suf1 hs,ρ1,s1.psh t,M1.push, ?_⟩
  simp only[bd,psh] at W
  cases e2:mb (s1.psh t) with
  |ok y s2=>
   rw[e2] at W
   intro ρ2 u H2 M2
   simp only[pop] at W
   cases e3:s2.tm with
   |nil=>rw[e3] at W;exact W.elim
   |cons o r=>
    cases o with
    |none=>rw[e3] at W;exact W.elim
    |some t'=>
     rw[e3] at W
     exact⟨ρ2,{s2 with tm:=r},t',y,M2.down e3,W⟩
  |ex d s2=>rw[e2] at W;exact W
  |no=>rw[e2] at W;exact W
 |ex d s1=>rw[e] at W;exact W
 |no=>rw[e] at W;exact W
noncomputable def z0c:List (M D)->M (List D)
 |[]=>rt []
 |m::ms=>bd m fun x=>bd (psh x) fun _=>bd (z0c ms) fun ys=>bd pop fun x'=>rt (x'::ys)
end
section
variable{X:Cx}{G:Gx}{F:Fy}{e a b c:Expr}{pos:Pos}
theorem Inv.kd{pins:List (Addr×Obj)}{σ:St}{H:Hp}{s:Shared}(I:Inv X pins σ H s):KD X.K H:=fun a o e=>(I.bs a o (I.ok.mod.kin a o e)).2
theorem PE.imp{t t':TE}(hk:X.K=G.K)(h:PE X e t)(hi: ∀σ H Q,t' σ H Q->t σ H (fun v H'=>KD G.K H'->Q v H')):PE X e t':=fun pins s σ H Q I q=>
 thn (h pins s σ H _ I (hi σ H Q q)) fun u s' ⟨v,H',I',r,k⟩=>⟨v,H',I',r,k (hk▸Inv.kd I')⟩
theorem PT.imp{t t':TT}(hk:X.K=G.K)(h:PT X e t)(hi: ∀σ H Q,t' σ H Q->t σ H (fun v H'=>KD G.K H'->Q v H')):PT X e t':=fun pins s σ H Q I q=>
 thn (h pins s σ H _ I (hi σ H Q q)) fun u s' ⟨H',I',k⟩=>⟨H',I',k (hk▸Inv.kd I')⟩
theorem PA.imp{es:List Expr}{t t':TA}(hk:X.K=G.K)(h:PA X es t)(hi: ∀σ H Q,t' σ H Q->t σ H (fun v H'=>KD G.K H'->Q v H')):PA X es t':=fun pos pins s σ H Q I q=>
 thn (h pos pins s σ H _ I (hi σ H Q q)) fun u s' ⟨v,H',I',r,k⟩=>⟨v,H',I',r,k (hk▸Inv.kd I')⟩
noncomputable def OpOK(G:Gx)(F:Fy)(r:R2)(g:D->D->M D):Prop:= ∀ρ s t t' v u H σv tv Q,MRL G F.toFx ρ H σv tv s [t,t'] [v,u]->wM G F σv tv (g t t' s) Q->r v u H (fun w H'=>KD G.K H'->Q w H')
noncomputable def z1C(G:Gx)(F:Fy)(r:R2)(g:D->D->M D):Prop:= ∀ρ s t t' v u H σv tv Q,MRL G F.toFx ρ H σv tv s [t,t'] [v,u]->wM G F σv tv (g t t' s) Q->r v u H Q
noncomputable def UnOK(G:Gx)(F:Fy)(r:V->Hp->VK->Prop)(g:D->M D):Prop:= ∀ρ s t v H σv tv Q,MRL G F.toFx ρ H σv tv s [t] [v]->wM G F σv tv (g t s) Q->r v H (fun w H'=>KD G.K H'->Q w H')
noncomputable def z0K(G:Gx)(F:Fy)(r:List V->Hp->VK->Prop)(g:List D->M D):Prop:= ∀ρ s ts vs H σv tv Q,MRL G F.toFx ρ H σv tv s ts vs->wM G F σv tv (g ts s) Q->r vs H (fun w H'=>KD G.K H'->Q w H')
theorem z6g{op:Operator}{r:R2}{ma mb:M D}{g:D->D->M D}(hk:X.K=G.K)(ho:OpR X (binaryOp op) r)(hg:OpOK G F r g)(ha:SE X G F a ma)(hb:SE X G F b mb):SE X G F (.BinOp a op b pos) (mBin ma mb g):=by
 refine PE.imp hk (zeb ho ha hb) fun σ H Q ⟨tv,h⟩=>⟨tv, ?_⟩
 obtain⟨hs,ρ,s,M,W⟩:=z5D h
 refine⟨hs,ρ,s,M, ?_⟩
 cases e:ma s with
 |ok t s1=>
  rw[e] at W
  intro ρ1 v H1 M1
  refine⟨some v::tv, ?_⟩
  obtain⟨hs2,ρ2,s2,M2,W2⟩:=W ρ1 v H1 M1
  refine⟨hs2,ρ2,s2,M2, ?_⟩
  cases e2:mb s2 with
  |ok t2 s3=>
   rw[e2] at W2
   intro ρ3 u H3 M3
   obtain⟨ρ4,s4,x,y,M4,W4⟩:=W2 ρ3 u H3 M3
   exact hg _ _ _ _ _ _ _ _ _ _ M4 W4
  |ex d s3=>rw[e2] at W2;exact W2
  |no=>rw[e2] at W2;exact W2
 |ex d s1=>rw[e] at W;exact W
 |no=>rw[e] at W;exact W
theorem wM.mono{σv tv:List (Option V)}{r:Res D}{Q Q':VK}(h:wM G F σv tv r Q)(k: ∀v H,Q v H->Q' v H):wM G F σv tv r Q':=by
 cases r with
 |ok t s=>exact fun ρ v H M=>k _ _ (h ρ v H M)
 |ex d s=>exact h
 |no=>exact h
theorem tMv.mono{m:M D}{σv tv:List (Option V)}{H:Hp}{Q Q':VK}(h:tMv G F m σv tv H Q)(k: ∀v H,Q v H->Q' v H):tMv G F m σv tv H Q':=by
 obtain⟨hs,ρ,s,M,W⟩:=h
 exact⟨hs,ρ,s,M,W.mono k⟩
theorem z7d{ma mb:M D}{g:D->D->M D}{R:V->V->Hp->VK->Prop}{σv:St}{H:Hp}{Q:VK}(hg:OpOK G F R g)(h:tM G F (mBin ma mb g) σv H Q):
 tM G F ma σv H fun x H1=>tM G F mb σv H1 fun y H2=>R x y H2 fun w H'=>KD G.K H'->Q w H':=by
 obtain⟨tv,h⟩:=h
 exact⟨tv,(z5D h).mono fun v H1 h1=>⟨_,h1.mono fun u H2 ⟨ρ,s,t,t',M,W⟩=>hg _ _ _ _ _ _ _ _ _ _ M W⟩⟩
theorem zck{ma:M D}{g:D->M D}{R:V->Hp->VK->Prop}{σv:St}{H:Hp}{Q:VK}(hg:UnOK G F R g)(h:tM G F (bd ma g) σv H Q):
 tM G F ma σv H fun x H1=>R x H1 fun w H'=>KD G.K H'->Q w H':=by
 obtain⟨tv,h⟩:=h
 exact⟨tv,(z59 h).mono fun v H1 ⟨ρ,s,t,M,W⟩=>hg _ _ _ _ _ _ _ _ M W⟩
theorem zer{op:UnaryOp}{r:V->Hp->VK->Prop}{ma:M D}{g:D->M D}(hk:X.K=G.K)(ho:UnR X (unaryOp op) r)(hg:UnOK G F r g)(ha:SE X G F a ma):SE X G F (.UnaryOp op a pos) (bd ma g):=
 PE.imp hk (zbS ho ha) fun _ _ _ h=>zck hg h
theorem z5E{ma mb:M D}{g:D->D->M D}{R:V->V->Hp->VK->Prop}{σv:St}{H:Hp}{Q:VK}(hg:z1C G F R g)(h:tM G F (mBin ma mb g) σv H Q):
 tM G F ma σv H fun x H1=>tM G F mb σv H1 fun y H2=>R x y H2 Q:=by
 obtain⟨tv,h⟩:=h
 exact⟨tv,(z5D h).mono fun v H1 h1=>⟨_,h1.mono fun u H2 ⟨ρ,s,t,t',M,W⟩=>hg _ _ _ _ _ _ _ _ _ _ M W⟩⟩
theorem PE.imp0{t t':TE}(h:PE X e t)(hi: ∀σ H Q,t' σ H Q->t σ H Q):PE X e t':=fun pins s σ H Q I q=>h pins s σ H _ I (hi σ H Q q)
theorem PT.imp0{t t':TT}(h:PT X e t)(hi: ∀σ H Q,t' σ H Q->t σ H Q):PT X e t':=fun pins s σ H Q I q=>h pins s σ H _ I (hi σ H Q q)
theorem zav{op:CmpOp}{r:R2}{ma mb:M D}{g:D->D->M D}(ho:OpR X (compareOp op) r)(hg:z1C G F r g)(ha:SE X G F a ma)(hb:SE X G F b mb)(hm:behindInMarks op b=false):SE X G F (.Compare a [op] [b] pos) (mBin ma mb g):=
 PE.imp0 (za7 ho ha hb hm) fun _ _ _ h=>z5E hg h
theorem zes{r:R2}{ma mb:M D}{g:D->D->M D}(hk:X.K=G.K)(ho:IxR X r)(hg:OpOK G F r g)(ha:SE X G F a ma)(hb:SE X G F b mb)(hs:z1B b):SE X G F (.Subscript a b pos) (mBin ma mb g):=
 PE.imp hk (zel ho ha hb hs) fun _ _ _ h=>z7d hg h
theorem zcl(hk:X.K=G.K):SA X G F [] (z0c []):=by
 refine PA.imp hk z5z fun σ H Q ⟨tv,hs,ρ,s,M,W⟩ _=>W ρ [] H ⟨M,rfl,fun l h=>by simp[labsL] at h⟩
noncomputable def nst:Expr->Bool
 | .Starred _ _=>false
 |_=>true
theorem z7e{es:List Expr}{env:Env}(h:nst e=true):starEach (e::es) env=(false,eval e env)::starEach es env:=by
 cases e<;>first|rfl|exact Bool.noConfusion h
theorem zaw{es:List Expr}{m:M D}{ms:List (M D)}(hk:X.K=G.K)(ha:SE X G F e m)(hr:SA X G F es (z0c ms))(hs:nst e=true:=by rfl):SA X G F (e::es) (z0c (m::ms)):=by
 refine PA.imp hk (z1X ha hr (z7e hs)) fun σ H Q ⟨tv,hs,ρ,s,M,W⟩=>⟨tv,hs,ρ,s,M, ?_⟩
 unfold z0c at W
 simp only[bd,psh] at W
 cases e:m s with
 |ok t s1=>
  rw[e] at W
  intro ρ1 v H1 M1
  refine⟨some v::tv,suf1 hs,ρ1,s1.psh t,M1.push, ?_⟩
  dsimp only at W
  cases e2:z0c ms (s1.psh t) with
  |ok ys s2=>
   rw[e2] at W
   intro ρ2 us H2 M2 _
   simp only[pop,rt] at W
   cases e3:s2.tm with
   |nil=>rw[e3] at W;exact W.elim
   |cons o r=>
    cases o with
    |none=>rw[e3] at W;exact W.elim
    |some t'=>
     rw[e3] at W
     exact W ρ2 (v::us) H2 (M2.down e3)
  |ex d s2=>rw[e2] at W;exact W
  |no=>rw[e2] at W;exact W
 |ex d s1=>rw[e] at W;exact W
 |no=>rw[e] at W;exact W
noncomputable def mCB(ms:List (M D))(g:List D->M D):M D:=bd (z0c ms) g
theorem z2G{ma:M (List D)}{g:List D->M D}{R:List V->Hp->VK->Prop}{σv:St}{H:Hp}{Q:VK}(hg:z0K G F R g)(h:tM G F (bd ma g) σv H Q):
 tML G F ma σv H fun xs H1=>R xs H1 fun w H'=>KD G.K H'->Q w H':=by
 obtain⟨tv,hs,ρ,s,M,W⟩:=h
 refine⟨tv,hs,ρ,s,M, ?_⟩
 unfold bd at W
 cases e:ma s with
 |ok ts s1=>rw[e] at W;exact fun ρ1 vs H1 M1=>hg _ _ _ _ _ _ _ _ M1 W
 |ex d s1=>rw[e] at W;exact W
 |no=>rw[e] at W;exact W
theorem z8Y{x:Str}{p:Pos}{es:List Expr}{ms:List (M D)}{g:List D->M D}{id:String}{r:List V->Hp->VK->Prop}(hk:X.K=G.K)(hc:CallR X (.builtin id) r)(hg:z0K G F r g)(hgl:Gl X x)(hm:X.mg x=none)(hv:bootBuiltins x=some (.builtin id))(ha:SA X G F (e::es) (z0c ms))(hn:x≠ "__name__" :=by decide)(hdb:(x==("__debug__" :Str))=false:=by decide)
 (he:starEach (e::es) X.env=(false,eval e X.env)::starEach es X.env:=by rfl) (hpl:(backTo pos (starEach es X.env)).any (·.1)=false:=by rfl):SE X G F (.Call (.Name x p) (e::es) [] pos) (mCB ms g):=
 PE.imp hk (z3O hc hgl hm hv ha hn hdb he hpl) fun _ _ _ h=>z2G hg h
theorem z7f{x:Str}{p:Pos}{es:List Expr}{ms:List (M D)}{g:List D->M D}{T:String}{r:List V->Hp->VK->Prop}(hk:X.K=G.K)(hc:CallR X (.type T) r)(hg:z0K G F r g)(hgl:Gl X x)(hm:X.mg x=none)(hv:bootBuiltins x=some (.type T))(ha:SA X G F (e::es) (z0c ms))(hn:x≠ "__name__" :=by decide)(hdb:(x==("__debug__" :Str))=false:=by decide)
 (he:starEach (e::es) X.env=(false,eval e X.env)::starEach es X.env:=by rfl) (hpl:(backTo pos (starEach es X.env)).any (·.1)=false:=by rfl):SE X G F (.Call (.Name x p) (e::es) [] pos) (mCB ms g):=
 PE.imp hk (z6W hc hgl hm hv ha hn hdb he hpl) fun _ _ _ h=>z2G hg h
noncomputable def mVar(i:Nat):M D:=fun s=>match s.σ[i]? with
 |some (some t)=> .ok t s
 |_=> .no
theorem se_var(i:Nat){x:Str}(hk:X.K=G.K)(h:PE X (.Name x pos) (tVar i)):SE X G F (.Name x pos) (mVar i):=by
 refine PE.imp hk h fun σ H Q ⟨tv,hs,ρ,s,M,W⟩=> ?_
 unfold mVar at W
 cases e:s.σ[i]? with
 |none=>rw[e] at W;exact W.elim
 |some o=>
  cases o with
  |none=>rw[e] at W;exact W.elim
  |some t=>
   rw[e] at W
   obtain⟨v,h1,h2⟩:=M.sl.get i t e
   refine⟨v,h1,fun _=>W ρ v H ⟨M,RDs.one h2,fun l hl=> ?_⟩⟩
   simp only[labsL,List.append_nil] at hl
   have:=z24 e l hl
   exact⟨M.lab l (List.mem_append_left _ this),M.own l (List.mem_append_left _ this)⟩
noncomputable def cV:D->Option V
 | .non=>some .non| .bool b=>some (.bl b)| .int i=>some (.int i)| .str x=>some (.str x)|_=>none
theorem z6h{d:D}{v:V}{ρ:Nat->Addr}{H:Hp}(h:cV d=some v):RD G ρ H d v/\labs d=[]:=by
 cases d<;>simp only[cV,Option.some.injEq] at h<;>first|(subst h;exact⟨by simp only[RD],by simp only[labs]⟩)|cases h
noncomputable def mC(d:D):M D:=rt d
theorem se_c{d:D}{v:V}(hk:X.K=G.K)(h:PE X e (tC v))(hd:cV d=some v:=by rfl):SE X G F e (mC d):=by
 refine PE.imp hk h fun σ H Q ⟨tv,hs,ρ,s,M,W⟩ _=>W ρ v H ⟨M,RDs.one (z6h hd).1,fun l hl=> ?_⟩
 simp only[labsL,(z6h (G:=G) (ρ:=ρ) (H:=H) hd).2] at hl
 cases hl
theorem wM.out{σv tv:List (Option V)}{s:Stt}{t:D}{v:V}{ρ:Nat->Addr}{H:Hp}{Q:VK}(W:wM G F σv tv (.ok t s) Q)(M:MR G F.toFx ρ H σv tv s)(h:RD G ρ H t v)(hl: ∀l∈labs t,l<s.n/\(F.A0 (ρ l)\/F.H0 (ρ l)=none)):Q v H:=
 W ρ v H ⟨M,RDs.one h,fun l q=>hl l (by simpa only[labsL,List.append_nil] using q)⟩
theorem wM.flat{σv tv:List (Option V)}{s:Stt}{t:D}{v:V}{ρ:Nat->Addr}{H:Hp}{Q:VK}(W:wM G F σv tv (.ok t s) Q)(M:MR G F.toFx ρ H σv tv s)(h:cV t=some v):Q v H:=
 W.out M (z6h h).1 fun l q=>by rw[(z6h (G:=G) (ρ:=ρ) (H:=H) h).2] at q;cases q
end
mutual
noncomputable def er:D->PyData
 | .non=> .none| .bool b=> .bool b| .int i=> .int i| .str x=> .str x
 | .tup ds=> .tuple (erL ds)
 | .ro ds=> .list (erL ds)
 | .lst _ ds=> .list (erL ds)
 | .dct _ _ _=> .none
 | .obj _ _ _ _=> .none
 | .exc _=> .none| .fn _=> .none| .fdc _ _=> .none
noncomputable def erL:List D->List PyData
 |[]=>[]
 |d::ds=>er d::erL ds
end
mutual
noncomputable def plain:D->Bool
 | .non=>true| .bool _=>true| .int _=>true| .str _=>true
 | .tup ds=>plainL ds
 | .ro ds=>plainL ds
 | .lst _ ds=>plainL ds
 | .dct _ _ _=>false
 | .obj _ _ _ _=>false
 | .exc _=>false| .fn _=>false| .fdc _ _=>false
noncomputable def plainL:List D->Bool
 |[]=>true
 |d::ds=>plain d&&plainL ds
end
noncomputable def seqD:D->Option (List D)
 | .tup ds=>some ds| .ro ds=>some ds| .lst _ ds=>some ds|_=>none
noncomputable def lstD:D->Option (List D)
 | .ro ds=>some ds| .lst _ ds=>some ds|_=>none
section
variable{G:Gx}{F:Fy}{ρ:Nat->Addr}{H H':Hp}{σv tv:List (Option V)}{s:Stt}{t t':D}{v u:V}{ts ds:List D}{vs xs:List V}{Q:VK}
mutual
theorem RD.dp: ∀(t:D) (v:V),RD G ρ H t v->plain t=true->Dp G.K H (er t) v
 | .non,v,h,_=>by simp only[RD,er,Dp] at h⊢;exact h
 | .bool b,v,h,_=>by simp only[RD,er,Dp] at h⊢;exact h
 | .int b,v,h,_=>by simp only[RD,er,Dp] at h⊢;exact h
 | .str b,v,h,_=>by simp only[RD,er,Dp] at h⊢;exact h
 | .tup ds,v,h,p=>by
  simp only[RD,er,Dp,plain] at h p⊢
  obtain⟨a,xs,e,s,r⟩:=h
  exact⟨a,xs,e,SqT.of s,RDs.dp ds xs r p⟩
 | .ro ds,v,h,p=>by
  simp only[RD,er,Dp,plain] at h p⊢
  obtain⟨a,xs,e,s,r⟩:=h
  exact⟨a,xs,e,s.sq,RDs.dp ds xs r p⟩
 | .lst l ds,v,h,p=>by
  simp only[RD,er,Dp,plain] at h p⊢
  obtain⟨e,xs,s,r⟩:=h
  exact⟨_,xs,e,SqL.of s,RDs.dp ds xs r p⟩
 | .dct l ks vs,v,h,p=>by simp only[plain] at p;cases p
 | .fdc ks vs,v,h,p=>by simp only[plain] at p;cases p
 | .obj l c ns vs,v,h,p=>by simp only[plain] at p;cases p
 | .exc c,v,h,p=>by simp only[plain] at p;cases p
 | .fn c,v,h,p=>by simp only[plain] at p;cases p
theorem RDs.dp: ∀(t:List D) (v:List V),RDs G ρ H t v->plainL t=true->DpAll G.K H (erL t) v
 |[],v,h,_=>by simp only[RDs,erL,DpAll] at h⊢;exact h
 |d::ds,v,h,p=>by
  simp only[RDs,erL,DpAll,plainL,Bool.and_eq_true] at h p⊢
  obtain⟨x,r,e,h1,h2⟩:=h
  exact⟨x,r,e,RD.dp d x h1 p.1,RDs.dp ds r h2 p.2⟩
end
theorem RD.seq(h:RD G ρ H t v)(e:seqD t=some ds): ∃a xs,v= .ref a/\(SqL G.K H a xs\/SqT G.K H a xs)/\RDs G ρ H ds xs/\∀l∈labsL ds,l∈labs t:=by
 cases t<;>simp only[seqD,Option.some.injEq] at e<;>try cases e
 ·simp only[RD] at h
  obtain⟨a,xs,e,s,r⟩:=h
  exact⟨a,xs,e, .inr (SqT.of s),r,fun l hl=>by simp only[labs];exact hl⟩
 ·simp only[RD] at h
  obtain⟨a,xs,e,s,r⟩:=h
  exact⟨a,xs,e, .inl s.sq,r,fun l hl=>by simp only[labs];exact hl⟩
 ·simp only[RD] at h
  obtain⟨e,xs,s,r⟩:=h
  exact⟨_,xs,e, .inl (SqL.of s),r,fun l hl=>by simp only[labs];exact List.mem_cons_of_mem _ hl⟩
theorem RD.lstq(h:RD G ρ H t v)(e:lstD t=some ds): ∃a xs,v= .ref a/\SqL G.K H a xs/\RDs G ρ H ds xs/\∀l∈labsL ds,l∈labs t:=by
 cases t<;>simp only[lstD,Option.some.injEq] at e<;>try cases e
 ·simp only[RD] at h
  obtain⟨a,xs,e,s,r⟩:=h
  exact⟨a,xs,e,s.sq,r,fun l hl=>by simp only[labs];exact hl⟩
 ·simp only[RD] at h
  obtain⟨e,xs,s,r⟩:=h
  exact⟨_,xs,e,SqL.of s,r,fun l hl=>by simp only[labs];exact List.mem_cons_of_mem _ hl⟩
theorem RD.tupx(h:RD G ρ H (.tup ds) v): ∃a xs,v= .ref a/\H a=some (.tup xs)/\RDs G ρ H ds xs:=by
 simp only[RD] at h;exact h
theorem RD.tupq(h:RD G ρ H (.tup ds) v): ∃a xs,v= .ref a/\SqT G.K H a xs/\RDs G ρ H ds xs:=by
 obtain⟨a,xs,e,s,r⟩:=h.tupx
 exact⟨a,xs,e,SqT.of s,r⟩
theorem RD.seqx(h:RD G ρ H t v)(e:seqD t=some ds): ∃a xs,v= .ref a/\(SqL G.K H a xs\/H a=some (.tup xs))/\RDs G ρ H ds xs/\∀l∈labsL ds,l∈labs t:=by
 cases t<;>simp only[seqD,Option.some.injEq] at e<;>try cases e
 ·simp only[RD] at h
  obtain⟨a,xs,e,s,r⟩:=h
  exact⟨a,xs,e, .inr s,r,fun l hl=>by simp only[labs];exact hl⟩
 ·simp only[RD] at h
  obtain⟨a,xs,e,s,r⟩:=h
  exact⟨a,xs,e, .inl s.sq,r,fun l hl=>by simp only[labs];exact hl⟩
 ·simp only[RD] at h
  obtain⟨e,xs,s,r⟩:=h
  exact⟨_,xs,e, .inl (SqL.of s),r,fun l hl=>by simp only[labs];exact List.mem_cons_of_mem _ hl⟩
theorem MRL.lb1(M:MRL G F.toFx ρ H σv tv s [t] [v]): ∀l∈labs t,l<s.n/\(F.A0 (ρ l)\/F.H0 (ρ l)=none):=fun l h=>M.lb l (by simp only[labsL,List.append_nil];exact h)
theorem MRL.lb2(M:MRL G F.toFx ρ H σv tv s [t,t'] [v,u]):(∀l∈labs t,l<s.n/\(F.A0 (ρ l)\/F.H0 (ρ l)=none))/\(∀l∈labs t',l<s.n/\(F.A0 (ρ l)\/F.H0 (ρ l)=none)):=
 ⟨fun l h=>M.lb l (by simp only[labsL,List.append_nil];exact List.mem_append_left _ h),fun l h=>M.lb l (by simp only[labsL,List.append_nil];exact List.mem_append_right _ h)⟩
noncomputable abbrev LB(F:Fx)(ρ:Nat->Addr)(n:Nat)(ls:List Nat):Prop:= ∀l∈ls,l<n/\(F.A0 (ρ l)\/F.H0 (ρ l)=none)
theorem z3T(W:wM G F σv tv (.ok (.tup ds) s) Q)(M:MR G F.toFx ρ H σv tv s)(r:RDs G ρ H ds xs)(lb:LB F.toFx ρ s.n (labsL ds)):NewX G.K H xs (fun w H'=>KD G.K H'->Q w H'):=by
 refine NewX.intro fun p H' sq sm k=> ?_
 exact W.out (M.same sm k) (by simp only[RD];exact⟨p,xs,rfl,sq,r.same sm⟩) (by simp only[labs];exact lb)
theorem z7g{p:Addr}(W:wM G F σv tv (.ok (.tup ds) s) Q)(M:MR G F.toFx ρ H σv tv s)(r:RDs G ρ H ds xs)(lb:LB F.toFx ρ s.n (labsL ds))(hp:H p=none)(k:KD G.K (upd H p (.tup xs))):Q (.ref p) (upd H p (.tup xs)):=by
 have sm:=Same.new (.tup xs) hp
 exact W.out (M.same sm k) (by simp only[RD];exact⟨p,xs,rfl,z07,r.same sm⟩) (by simp only[labs];exact lb)
theorem RDs.ext{p:Addr}{o:HO}(M:MR G F.toFx ρ H σv tv s)(r:RDs G ρ H ds xs)(lb:LB F.toFx ρ s.n (labsL ds))(hp:H p=none):RDs G (ext ρ s.n p) (upd H p o) ds xs:=
 RDs.stay (z0J.of (Same.new o hp)) ds xs r fun l hl=>⟨z0i (lb l hl).1,fun o e=>Same.new _ hp _ _ e⟩
theorem z1D{p:Addr}(W:wM G F σv tv (.ok (.lst s.n ds) s.nxt) Q)(M:MR G F.toFx ρ H σv tv s)(r:RDs G ρ H ds xs)(lb:LB F.toFx ρ s.n (labsL ds))(hp:H p=none)(k:KD G.K (upd H p (.lst xs))):Q (.ref p) (upd H p (.lst xs)):=by
 refine W.out (M.new hp k) ?_ fun l hl=> ?_
 ·simp only[RD]
  rw[z0E]
  exact⟨rfl,xs,z07,RDs.ext M r lb hp⟩
 ·simp only[labs] at hl
  rcases List.mem_cons.mp hl with q|q
  ·rw[q]
   exact⟨Nat.lt_succ_self _,by rw[z0E];exact .inr (M.fresh0 hp)⟩
  ·obtain⟨h1,h2⟩:=lb l q
   exact⟨Nat.lt_succ_of_lt h1,by rw[z0i h1];exact h2⟩
end
noncomputable def newL(ds:List D):M D:=fun s=> .ok (.lst s.n ds) s.nxt
noncomputable def addD:D->D->M D
 | .int i, .int j=>rt (.int (i+j))
 | .tup a, .tup b=>if a.length+b.length<=sizeLine then rt (.tup (a++b)) else fl
 | .lst _ a, .lst _ b=>if a.length+b.length<=sizeLine then newL (a++b) else fl
 | .str a, .str b=>if a.length+b.length<=sizeLine then rt (.str (a++b)) else fl
 |_,_=>fl
noncomputable def subD:D->D->M D
 | .int i, .int j=>rt (.int (i -j))
 |_,_=>fl
instance(i j:Int):Decidable (CMul i j):=by unfold CMul;infer_instance
instance(i j:Int):Decidable (CDiv i j):=by unfold CDiv;infer_instance
instance(i j:Int):Decidable (CPow i j):=by unfold CPow;infer_instance
noncomputable def mulD:D->D->M D
 | .int i, .int j=>if CMul i j then rt (.int (i*j)) else fl
 | .lst _ a, .int k=>if -(2^63)<=k/\k<2^63/\a.length*k.toNat<=sizeLine then newL (List.flatten (List.replicate k.toNat a)) else fl
 | .tup a, .int k=>if 0<a.length/\2<=k/\k<2^63/\a.length*k.toNat<=sizeLine then rt (.tup (List.flatten (List.replicate k.toNat a))) else fl
 |_,_=>fl
noncomputable def z25:D->D->M D
 | .int i, .int j=>if CDiv i j then rt (.int (i/j)) else fl
 |_,_=>fl
noncomputable def modD:D->D->M D
 | .int i, .int j=>if 0<j then rt (.int (i %j)) else fl
 |_,_=>fl
noncomputable def powD:D->D->M D
 | .int i, .int j=>if CPow i j then rt (.int (i^j.toNat)) else fl
 |_,_=>fl
noncomputable def ltD:D->D->M D
 | .int i, .int j=>rt (.bool (decide (i<j)))
 |_,_=>fl
noncomputable def leD:D->D->M D
 | .int i, .int j=>rt (.bool (decide (i<=j)))
 |_,_=>fl
noncomputable def gtD:D->D->M D
 | .int i, .int j=>rt (.bool (decide (j<i)))
 |_,_=>fl
noncomputable def eqC(t t':D):Bool:=plain t&&plain t'&&(er t).canLay0&&(er t').canLay0&&decide (min (er t).depth (er t').depth<=60)
noncomputable def eqD(t t':D):M D:=if eqC t t'=true then rt (.bool (PyData.eqv (er t) (er t'))) else fl
noncomputable def neD(t t':D):M D:=if eqC t t'=true then rt (.bool (!PyData.eqv (er t) (er t'))) else fl
noncomputable def inC(t:D)(ds:List D):Bool:=plain t&&plainL ds&&(er t).canLay0&&PyData.canLayAll0 (erL ds)&&decide (min (PyData.depthAll (erL ds)) (er t).depth<=60)
noncomputable def inD(t t':D):M D:=match seqD t' with
 |some ds=>if inC t ds=true then rt (.bool ((erL ds).any fun y=>PyData.eqv y (er t))) else fl
 |none=>fl
noncomputable def optM:Option D->M D
 |some d=>rt d
 |none=>fl
noncomputable def ixG:Option (List D)->D->M D
 |some ds, .int i=>optM (atI ds i)
 |_,_=>fl
noncomputable def ixD(t t':D):M D:=ixG (seqD t) t'
noncomputable def negD:D->M D
 | .int i=>rt (.int (-i))
 |_=>fl
section
variable{G:Gx}{F:Fy}
theorem wfl{σv tv:List (Option V)}{s:Stt}{Q:VK}{A:Prop}(h:wM G F σv tv ((fl:M D) s) Q):A:=False.elim h
theorem z3U{ρ:Nat->Addr}{H:Hp}{σv tv:List (Option V)}{s:Stt}{i j:Int}{v u:V}(M:MRL G F.toFx ρ H σv tv s [.int i, .int j] [v,u]):v= .int i/\u= .int j:=by
 obtain⟨h1,h2⟩:=M.rd2
 simp only[RD] at h1 h2
 exact⟨h1,h2⟩
theorem zcm:OpOK G F (fun x y H Q=>rI0 (fun i j=> .int (i+j)) x y H Q\/zar G.K x y H Q\/rCat x y H Q\/∃i j,x= .str i/\y= .str j/\i.length+j.length<=sizeLine/\Q (.str (i++j)) H) addD:=by
 intro ρ s t t' v u H σv tv Q M W
 unfold addD at W
 split at W
 ·obtain⟨rfl,rfl⟩:=z3U M
  exact .inl ⟨_,_,rfl,rfl,fun _=>W.flat M.m rfl⟩
 ·split at W
  ·rename_i a b hz
   obtain⟨h1,h2⟩:=M.rd2
   obtain⟨l1,l2⟩:=M.lb2
   obtain⟨p,xs,rfl,s1,r1⟩:=h1.tupx
   obtain⟨q,ys,rfl,s2,r2⟩:=h2.tupx
   refine .inr (.inl ⟨p,q,xs,ys,rfl,rfl,s1,s2,by rw[<-r1.length,<-r2.length];exact hz,z3T W M.m (r1.append r2) ?_⟩)
   rw[z0r]
   intro l hl
   rcases List.mem_append.mp hl with q|q
   ·exact l1 l (by simpa only[labs] using q)
   ·exact l2 l (by simpa only[labs] using q)
  ·exact wfl W
 ·split at W
  ·rename_i la a lb b hz
   obtain⟨h1,h2⟩:=M.rd2
   obtain⟨l1,l2⟩:=M.lb2
   simp only[RD] at h1 h2
   obtain⟨rfl,xs,s1,r1⟩:=h1
   obtain⟨rfl,ys,s2,r2⟩:=h2
   refine .inr (.inr (.inl ⟨_,_,xs,ys,rfl,rfl,s1,s2,by rw[<-r1.length,<-r2.length];exact hz,fun p hp k=>z1D W M.m (r1.append r2) ?_ hp k⟩))
   rw[z0r]
   intro l hl
   rcases List.mem_append.mp hl with q|q
   ·exact l1 l (by simp only[labs];exact List.mem_cons_of_mem _ q)
   ·exact l2 l (by simp only[labs];exact List.mem_cons_of_mem _ q)
  ·exact wfl W
 ·split at W
  ·rename_i a b hz
   obtain⟨h1,h2⟩:=M.rd2
   simp only[RD] at h1 h2
   subst h1 h2
   exact .inr (.inr (.inr ⟨_,_,rfl,rfl,hz,fun _=>W.flat M.m rfl⟩))
  ·exact wfl W
 ·exact wfl W
theorem zcn:OpOK G F (rI0 fun i j=> .int (i -j)) subD:=by
 intro ρ s t t' v u H σv tv Q M W
 unfold subD at W
 split at W
 ·obtain⟨rfl,rfl⟩:=z3U M
  exact⟨_,_,rfl,rfl,fun _=>W.flat M.m rfl⟩
 ·exact wfl W
theorem zax:OpOK G F (rI CDiv fun i j=> .int (i/j)) z25:=by
 intro ρ s t t' v u H σv tv Q M W
 unfold z25 at W
 split at W
 ·split at W
  ·rename_i hc
   obtain⟨rfl,rfl⟩:=z3U M
   exact⟨_,_,rfl,rfl,hc,fun _=>W.flat M.m rfl⟩
  ·exact wfl W
 ·exact wfl W
theorem zco:OpOK G F (rI (fun _ j=>0<j) fun i j=> .int (i %j)) modD:=by
 intro ρ s t t' v u H σv tv Q M W
 unfold modD at W
 split at W
 ·split at W
  ·rename_i hc
   obtain⟨rfl,rfl⟩:=z3U M
   exact⟨_,_,rfl,rfl,hc,fun _=>W.flat M.m rfl⟩
  ·exact wfl W
 ·exact wfl W
theorem zcp:OpOK G F (rI CPow fun i j=> .int (i^j.toNat)) powD:=by
 intro ρ s t t' v u H σv tv Q M W
 unfold powD at W
 split at W
 ·split at W
  ·rename_i hc
   obtain⟨rfl,rfl⟩:=z3U M
   exact⟨_,_,rfl,rfl,hc,fun _=>W.flat M.m rfl⟩
  ·exact wfl W
 ·exact wfl W
theorem zet:z1C G F (rI0 fun i j=> .bl (decide (i<j))) ltD:=by
 intro ρ s t t' v u H σv tv Q M W
 unfold ltD at W
 split at W
 ·obtain⟨rfl,rfl⟩:=z3U M
  exact⟨_,_,rfl,rfl,W.flat M.m rfl⟩
 ·exact wfl W
theorem zeu:z1C G F (rI0 fun i j=> .bl (decide (i<=j))) leD:=by
 intro ρ s t t' v u H σv tv Q M W
 unfold leD at W
 split at W
 ·obtain⟨rfl,rfl⟩:=z3U M
  exact⟨_,_,rfl,rfl,W.flat M.m rfl⟩
 ·exact wfl W
theorem zev:z1C G F (rI0 fun i j=> .bl (decide (j<i))) gtD:=by
 intro ρ s t t' v u H σv tv Q M W
 unfold gtD at W
 split at W
 ·obtain⟨rfl,rfl⟩:=z3U M
  exact⟨_,_,rfl,rfl,W.flat M.m rfl⟩
 ·exact wfl W
theorem zew:z1C G F (rEqD G.K false) eqD:=by
 intro ρ s t t' v u H σv tv Q M W
 unfold eqD at W
 split at W
 ·rename_i hc
  simp only[eqC,Bool.and_eq_true,decide_eq_true_eq] at hc
  obtain⟨⟨⟨⟨c1,c2⟩,c3⟩,c4⟩,c5⟩:=hc
  obtain⟨h1,h2⟩:=M.rd2
  exact⟨er t,er t',RD.dp _ _ h1 c1,RD.dp _ _ h2 c2,c3,c4,c5,W.flat M.m rfl⟩
 ·exact wfl W
theorem zex:z1C G F (rEqD G.K true) neD:=by
 intro ρ s t t' v u H σv tv Q M W
 unfold neD at W
 split at W
 ·rename_i hc
  simp only[eqC,Bool.and_eq_true,decide_eq_true_eq] at hc
  obtain⟨⟨⟨⟨c1,c2⟩,c3⟩,c4⟩,c5⟩:=hc
  obtain⟨h1,h2⟩:=M.rd2
  exact⟨er t,er t',RD.dp _ _ h1 c1,RD.dp _ _ h2 c2,c3,c4,c5,W.flat M.m rfl⟩
 ·exact wfl W
theorem RD.dpSeq{ρ:Nat->Addr}{H:Hp}{t:D}{v:V}{ds:List D}(h:RD G ρ H t v)(e:seqD t=some ds)(p:plainL ds=true):Dp G.K H (.list (erL ds)) v\/Dp G.K H (.tuple (erL ds)) v:=by
 obtain⟨a,xs,rfl,sq,r,_⟩:=h.seq e
 have d:=RDs.dp ds xs r p
 rcases sq with sq|sq
 ·exact .inl (by simp only[Dp];exact⟨a,xs,rfl,sq,d⟩)
 ·exact .inr (by simp only[Dp];exact⟨a,xs,rfl,sq,d⟩)
theorem zey:z1C G F (rInD G.K false) inD:=by
 intro ρ s t t' v u H σv tv Q M W
 unfold inD at W
 cases e:seqD t' with
 |some ds=>
  rw[e] at W
  dsimp only at W
  split at W
  ·rename_i hc
   simp only[inC,Bool.and_eq_true,decide_eq_true_eq] at hc
   obtain⟨⟨⟨⟨c1,c2⟩,c3⟩,c4⟩,c5⟩:=hc
   obtain⟨h1,h2⟩:=M.rd2
   exact⟨er t,erL ds,RD.dp _ _ h1 c1,h2.dpSeq e c2,c3,c4,c5,W.flat M.m rfl⟩
  ·exact wfl W
 |none=>rw[e] at W;exact wfl W
theorem zcq{ρ:Nat->Addr}{H:Hp}{ds:List D}{xs:List V}{i:Int}{d:D}(r:RDs G ρ H ds xs)(e:atI ds i=some d): ∃x,atI xs i=some x/\RD G ρ H d x:=by
 unfold atI at e⊢
 rw[<-r.length]
 cases e1:ixN ds.length i with
 |none=>rw[e1] at e;cases e
 |some j=>
  rw[e1] at e
  exact r.get j d e
theorem zay{α:Type}{ds:List α}{i:Int}{d:α}(e:atI ds i=some d):d∈ds:=by
 unfold atI at e
 cases e1:ixN ds.length i with
 |none=>rw[e1] at e;cases e
 |some j=>
  rw[e1] at e
  exact List.mem_of_getElem? e
theorem zez:OpOK G F (fun x y H Q=>rIxL G.K x y H Q\/rIxT G.K x y H Q) ixD:=by
 intro ρ s t t' v u H σv tv Q M W
 obtain⟨h1,h2⟩:=M.rd2
 unfold ixD at W
 cases e:seqD t with
 |none=>rw[e] at W;exact False.elim W
 |some ds=>
  rw[e] at W
  cases t' with
  |int i=>
   have W:wM G F σv tv (optM (atI ds i) s) Q:=W
   cases ea:atI ds i with
   |some d=>
    rw[ea] at W
    obtain⟨a,xs,rfl,sq,r,sub⟩:=h1.seq e
    obtain⟨x,ex,rx⟩:=zcq r ea
    simp only[RD] at h2
    subst h2
    have fin:KD G.K H->Q x H:=fun _=>W.out M.m rx fun l hl=>M.lb2.1 l (sub l (labsL_mem (zay ea) l hl))
    rcases sq with sq|sq
    ·exact .inl ⟨a,xs,i,x,rfl,rfl,sq,ex,fin⟩
    ·exact .inr ⟨a,xs,i,x,rfl,rfl,sq,ex,fin⟩
   |none=>rw[ea] at W;exact False.elim W
  |_=>exact False.elim W
theorem zcr:UnOK G F (rU fun i=> .int (-i)) negD:=by
 intro ρ s t v H σv tv Q M W
 unfold negD at W
 split at W
 ·have h:=M.rd1
  simp only[RD] at h
  exact⟨_,h,fun _=>W.flat M.m rfl⟩
 ·exact wfl W
end
section
variable{X:Cx}{G:Gx}{F:Fy}{e a b c:Expr}{pos:Pos}
theorem RDs.flat{ρ:Nat->Addr}{H:Hp}{ds:List D}{xs:List V}(r:RDs G ρ H ds xs): ∀k:Nat,RDs G ρ H (List.replicate k ds).flatten (List.replicate k xs).flatten
 |0=>by simp[RDs]
 |k+1=>by
  rw[List.replicate_succ,List.replicate_succ,List.flatten_cons,List.flatten_cons]
  exact r.append (RDs.flat r k)
theorem z2h{ds:List D}{l:Nat}: ∀k:Nat,l∈labsL (List.replicate k ds).flatten->l∈labsL ds
 |0,h=>by simp[labsL] at h
 |k+1,h=>by
  rw[List.replicate_succ,List.flatten_cons,z0r] at h
  rcases List.mem_append.mp h with h|h
  ·exact h
  ·exact z2h k h
theorem zcs:OpOK G F (fun x y H Q=>rI CMul (fun i j=> .int (i*j)) x y H Q\/(rRep x y H Q\/zat G.K x y H Q)) mulD:=by
 intro ρ s t t' v u H σv tv Q M W
 unfold mulD at W
 split at W
 ·split at W
  ·rename_i hc
   obtain⟨rfl,rfl⟩:=z3U M
   exact .inl ⟨_,_,rfl,rfl,hc,fun _=>W.flat M.m rfl⟩
  ·exact wfl W
 ·split at W
  ·rename_i la a k hc
   obtain⟨h1,h2⟩:=M.rd2
   obtain⟨l1,l2⟩:=M.lb2
   simp only[RD] at h1 h2
   obtain⟨rfl,xs,s1,r1⟩:=h1
   subst h2
   refine .inr (.inl ⟨_,k,xs,rfl,rfl,s1,hc.1,hc.2.1,by rw[<-r1.length];exact hc.2.2,fun p hp kd=>z1D W M.m (r1.flat _) (fun l hl=> ?_) hp kd⟩)
   exact l1 l (by simp only[labs];exact List.mem_cons_of_mem _ (z2h _ hl))
  ·exact wfl W
 ·split at W
  ·rename_i a k hc
   obtain⟨h1,h2⟩:=M.rd2
   obtain⟨l1,l2⟩:=M.lb2
   simp only[RD] at h1 h2
   obtain⟨a',xs,rfl,s1,r1⟩:=h1
   subst h2
   refine .inr (.inr ⟨_,k,xs,rfl,rfl,SqT.of s1,by rw[<-r1.length];exact hc.1,hc.2.1,hc.2.2.1,by rw[<-r1.length];exact hc.2.2.2,fun p hp kd=>z7g W M.m (r1.flat _) (fun l hl=> ?_) hp kd⟩)
   exact l1 l (by simp only[labs];exact z2h _ hl)
  ·exact wfl W
 ·exact wfl W
noncomputable def cutA{α:Type}(xs:List α)(lo hi:Option Int):List α:=(xs.drop (HT.sIx xs.length 0 lo)).take (HT.sIx xs.length xs.length hi -HT.sIx xs.length 0 lo)
noncomputable def slD:D->Option Int->Option Int->M D
 | .tup ds,lo,hi=>rt (.tup (cutA ds lo hi))
 | .lst _ ds,lo,hi=>newL (cutA ds lo hi)
 | .ro ds,lo,hi=>newL (cutA ds lo hi)
 |_,_,_=>fl
theorem RDs.cut{ρ:Nat->Addr}{H:Hp}{ds:List D}{xs:List V}(r:RDs G ρ H ds xs)(lo hi:Option Int):RDs G ρ H (cutA ds lo hi) (cutV xs lo hi):=by
 unfold cutA cutV
 rw[r.length]
 exact(r.drop _).take _
theorem z2V{ds:List D}{lo hi:Option Int}{l:Nat}(h:l∈labsL (cutA ds lo hi)):l∈labsL ds:=by
 obtain⟨d,h1,h2⟩:=z0V h
 exact labsL_mem (List.mem_of_mem_drop (List.mem_of_mem_take h1)) l h2
noncomputable def mInt(d:D):Option Int:=match d with| .int i=>some i|_=>none
noncomputable def z3n:Option (M D)->M (Option Int)
 |none=>rt none
 |some m=>bd m fun d=>match mInt d with|some i=>rt (some i)|none=>fl
noncomputable def tP(G:Gx)(F:Fy)(m:M (Option Int)):TO:=fun σv H Q=> ∃tv,F.tv0<:+tv/\∃ρ s,MR G F.toFx ρ H σv tv s/\(match m s with
 | .ok o s'=> ∀ρ' H',MR G F.toFx ρ' H' σv tv s'->Q o H'
 | .ex d s'=>F.xw d s'
 | .no=>False)
noncomputable def SO(X:Cx)(G:Gx)(F:Fy)(e:Option Expr)(m:Option (M D)):Prop:=PO X e (tP G F (z3n m))
theorem so_none:SO X G F none none:=by
 intro pins s σ H Q I ⟨tv,hs,ρ,ms,M,W⟩
 exact zab pins s σ H Q I (W ρ H M)
theorem so_some{m:M D}(h:SE X G F e m):SO X G F (some e) (some m):=by
 intro pins s σ H Q I ⟨tv,hs,ρ,ms,M,W⟩
 refine z6Y h pins s σ H Q I ⟨tv,hs,ρ,ms,M, ?_⟩
 simp only[z3n,bd] at W
 cases e1:m ms with
 |ok d s1=>
  rw[e1] at W
  intro ρ' v H' M'
  cases d with
  |int i=>
   have h:=M'.rd1
   simp only[RD] at h
   exact⟨i,h,W ρ' H' M'.m⟩
  |_=>exact False.elim W
 |ex d s1=>rw[e1] at W;exact W
 |no=>rw[e1] at W;exact W
noncomputable def mSl(m:M D)(lo hi:Option (M D)):M D:=bd m fun x=>bd (psh x) fun _=>bd (z3n lo) fun l=>bd (z3n hi) fun h=>bd pop fun x'=>slD x' l h
theorem zeA{ρ:Nat->Addr}{s:Stt}{t:D}{v:V}{H:Hp}{σv tv:List (Option V)}{lo hi:Option Int}{Q:VK}(M:MRL G F.toFx ρ H σv tv s [t] [v])(W:wM G F σv tv (slD t lo hi s) Q):
 rSlX G.K v lo hi H (fun w H'=>KD G.K H'->Q w H')\/rSlL G.K v lo hi H (fun w H'=>KD G.K H'->Q w H'):=by
 have h:=M.rd1
 cases t with
 |tup ds=>
  obtain⟨p,xs,rfl,s1,r1⟩:=h.tupx
  exact .inl ⟨p,xs,rfl,s1,z3T W M.m (r1.cut lo hi) fun l hl=>M.lb1 l (by simp only[labs];exact z2V hl)⟩
 |lst n ds=>
  obtain⟨p,xs,rfl,s1,r1,_⟩:=h.lstq (ds:=ds) rfl
  exact .inr ⟨p,xs,rfl,s1,fun q hq k=>z1D W M.m (r1.cut lo hi) (fun l hl=>M.lb1 l (by simp only[labs];exact List.mem_cons_of_mem _ (z2V hl))) hq k⟩
 |ro ds=>
  obtain⟨p,xs,rfl,s1,r1,_⟩:=h.lstq (ds:=ds) rfl
  exact .inr ⟨p,xs,rfl,s1,fun q hq k=>z1D W M.m (r1.cut lo hi) (fun l hl=>M.lb1 l (by simp only[labs];exact z2V hl)) hq k⟩
 |_=>exact False.elim W
theorem se_slice{lo hi:Option Expr}{p2:Pos}{m:M D}{ml mh:Option (M D)}(hk:X.K=G.K)(he:SE X G F e m)(hl:SO X G F lo ml)(hh:SO X G F hi mh):SE X G F (.Subscript e (.Slice lo hi none p2) pos) (mSl m ml mh):=by
 refine PE.imp hk (z8Q (r:=fun x lo hi H Q=>rSlX X.K x lo hi H Q\/rSlL X.K x lo hi H Q) (SlR.or zaq zaf) he hl hh) fun σ H Q ⟨tv,h⟩=>⟨tv, ?_⟩
 obtain⟨hs,ρ,s,M,W⟩:=z59 h
 refine⟨hs,ρ,s,M,W.mono fun v H1 ⟨ρ1,s1,t,M1,W1⟩=>⟨some v::tv,suf1 hs,ρ1,s1.psh t,M1.push, ?_⟩⟩
 simp only[bd,psh] at W1
 cases e1:z3n ml (s1.psh t) with
 |ex d s2=>rw[e1] at W1;exact W1
 |no=>rw[e1] at W1;exact W1
 |ok l s2=>
  rw[e1] at W1
  intro ρ2 H2 M2
  refine⟨some v::tv,suf1 hs,ρ2,s2,M2, ?_⟩
  dsimp only at W1
  cases e2:z3n mh s2 with
  |ex d s3=>rw[e2] at W1;exact W1
  |no=>rw[e2] at W1;exact W1
  |ok h s3=>
   rw[e2] at W1
   intro ρ3 H3 M3
   simp only[pop] at W1
   cases e3:s3.tm with
   |nil=>rw[e3] at W1;exact W1.elim
   |cons o r=>
    cases o with
    |none=>rw[e3] at W1;exact W1.elim
    |some t'=>
     rw[e3] at W1
     have M4:MRL G F.toFx ρ3 H3 σ tv {s3 with tm:=r} [t'] [v]:=MRL.down (ts:=[]) (vs:=[]) ⟨M3,rfl,fun l h=>by simp[labsL] at h⟩ e3
     rw[hk]
     exact zeA M4 W1
noncomputable def tupD(ts:List D):M D:=if ts.length<=sizeLine then rt (.tup ts) else fl
noncomputable def lstM(ts:List D):M D:=if ts.length<=sizeLine then newL ts else fl
theorem zct:z0K G F (fun xs H1 Q=>xs.length<=sizeLine/\∀p,H1 p=none->Q (.ref p) (upd H1 p (.tup xs))) tupD:=by
 intro ρ s ts vs H σv tv Q M W
 unfold tupD at W
 split at W
 ·rename_i hz
  exact⟨by rw[<-M.rd.length];exact hz,fun p hp k=>z7g W M.m M.rd M.lb hp k⟩
 ·exact wfl W
theorem zcu:z0K G F (fun xs H1 Q=>xs.length<=sizeLine/\∀p,H1 p=none->Q (.ref p) (upd H1 p (.lst xs))) lstM:=by
 intro ρ s ts vs H σv tv Q M W
 unfold lstM at W
 split at W
 ·rename_i hz
  exact⟨by rw[<-M.rd.length];exact hz,fun p hp k=>z1D W M.m M.rd M.lb hp k⟩
 ·exact wfl W
theorem se_tup{es:List Expr}{ms:List (M D)}{x1}(hk:X.K=G.K)(h:SA X G F es (z0c ms)):SE X G F (.Tuple es x1 pos) (mCB ms tupD):=
 PE.imp hk (zc1 h) fun _ _ _ h=>z2G zct h
theorem se_lst{es:List Expr}{ms:List (M D)}(hk:X.K=G.K)(h:SA X G F es (z0c ms)):SE X G F (.List es pos) (mCB ms lstM):=
 PE.imp hk (zc2 h) fun _ _ _ h=>z2G zcu h
noncomputable def truD:D->M Bool
 | .non=>rt false
 | .bool b=>rt b
 | .int i=>rt (i !=0)
 | .str x=>if x.length<=sizeLine then rt ((x.length:Int) !=0) else fl
 | .tup ds=>rt (!ds.isEmpty)
 | .ro ds=>rt (!ds.isEmpty)
 | .lst _ ds=>rt (!ds.isEmpty)
 |_=>fl
noncomputable def z0D(m:M D):M Bool:=bd m truD
theorem z2i{ρ:Nat->Addr}{H:Hp}{ds:List D}{xs:List V}(r:RDs G ρ H ds xs):(!ds.isEmpty)= !xs.isEmpty:=by
 have:=r.length
 cases ds<;>cases xs<;>simp at this⊢
theorem zcv{ρ:Nat->Addr}{s:Stt}{t:D}{v:V}{H:Hp}{σv tv:List (Option V)}{Q:Bool->Hp->Prop}(M:MRL G F.toFx ρ H σv tv s [t] [v])(W:wB G F σv tv (truD t s) Q): ∃k,TruV G.K v H k/\Q k H:=by
 have h:=M.rd1
 cases t with
 |non=>simp only[RD] at h;subst h;exact⟨false,rfl,W ρ H M.m⟩
 |bool b=>simp only[RD] at h;subst h;exact⟨b,rfl,W ρ H M.m⟩
 |int i=>simp only[RD] at h;subst h;exact⟨_,rfl,W ρ H M.m⟩
 |str x=>
  simp only[RD] at h;subst h
  unfold truD at W
  by_cases hz:x.length<=sizeLine
  ·simp only[if_pos hz] at W;exact⟨_,⟨hz,rfl⟩,W ρ H M.m⟩
  ·simp only[if_neg hz] at W;exact False.elim W
 |tup ds=>
  obtain⟨p,xs,rfl,s1,r1⟩:=h.tupq
  exact⟨_, .inr (.inl ⟨xs,s1,z2i r1⟩),W ρ H M.m⟩
 |ro ds=>
  obtain⟨p,xs,rfl,s1,r1,_⟩:=h.lstq (ds:=ds) rfl
  exact⟨_, .inl ⟨xs,s1,z2i r1⟩,W ρ H M.m⟩
 |lst n ds=>
  obtain⟨p,xs,rfl,s1,r1,_⟩:=h.lstq (ds:=ds) rfl
  exact⟨_, .inl ⟨xs,s1,z2i r1⟩,W ρ H M.m⟩
 |dct _ _ _=>exact False.elim W
 |fdc _ _=>exact False.elim W
 |obj _ _ _ _=>exact False.elim W
 |exc _=>exact False.elim W
 |fn _=>exact False.elim W
theorem z8Z{m:M D}{σ:St}{H:Hp}{Q:Bool->Hp->Prop}(h:tMB G F (z0D m) σ H Q):tM G F m σ H fun x H'=> ∃k,TruV G.K x H' k/\Q k H':=by
 obtain⟨tv,hs,ρ,s,M,W⟩:=h
 refine⟨tv,hs,ρ,s,M, ?_⟩
 unfold z0D bd at W
 cases e:m s with
 |ok t s1=>rw[e] at W;exact fun ρ1 v H1 M1=>zcv M1 W
 |ex d s1=>rw[e] at W;exact W
 |no=>rw[e] at W;exact W
theorem sb_truth{m:M D}(hk:X.K=G.K)(ha:SE X G F a m)(he: ∀whole,isTrue a X.env whole=(do let v<-whole;standAt a.pos;holding [v] (truthy v)):=by intro _;rfl):SB X G F a (z0D m):=by
 refine PT.imp hk (z8L ha he) fun σ H Q h=> ?_
 rw[hk]
 obtain⟨tv,h'⟩:=z8Z h
 exact⟨tv,h'.mono fun v H1 ⟨k,q1,q2⟩=>⟨k,q1,fun _=>q2⟩⟩
noncomputable def booD:D->M Bool
 | .bool b=>rt b
 |_=>fl
noncomputable def mBoo(m:M D):M Bool:=bd m booD
theorem z7h{m:M D}{σ:St}{H:Hp}{Q:Bool->Hp->Prop}(h:tMB G F (mBoo m) σ H Q):tM G F m σ H fun x H'=> ∃k,x= .bl k/\Q k H':=by
 obtain⟨tv,hs,ρ,s,M,W⟩:=h
 refine⟨tv,hs,ρ,s,M, ?_⟩
 unfold mBoo bd at W
 cases e:m s with
 |ok t s1=>
  rw[e] at W
  intro ρ1 v H1 M1
  have h:=M1.rd1
  cases t with
  |bool b=>simp only[RD] at h;exact⟨b,h,W ρ1 H1 M1.m⟩
  |_=>exact False.elim W
 |ex d s1=>rw[e] at W;exact W
 |no=>rw[e] at W;exact W
theorem zaz{op:CmpOp}{r:R2}{ma mb:M D}{g:D->D->M D}(ho:OpR X (compareOp op) r)(hg:z1C G F r g)(ha:SE X G F a ma)(hb:SE X G F b mb)(hm:behindInMarks op b=false):SB X G F (.Compare a [op] [b] pos) (mBoo (mBin ma mb g)):=
 PT.imp0 (za8 ho ha hb hm) fun _ _ _ h=>z5E hg (z7h h)
theorem zaA{m:M Bool}{f:Bool->M Bool}{σ:St}{tv:List (Option V)}{H:Hp}{Q:Bool->Hp->Prop}(h:tBv G F (bd m f) σ tv H Q):tBv G F m σ tv H fun b H1=> ∃ρ1 s1,MR G F.toFx ρ1 H1 σ tv s1/\wB G F σ tv (f b s1) Q:=by
 obtain⟨hs,ρ,s,M,W⟩:=h
 refine⟨hs,ρ,s,M, ?_⟩
 unfold bd at W
 cases e:m s with
 |ok b s1=>rw[e] at W;exact fun ρ1 H1 M1=>⟨ρ1,s1,M1,W⟩
 |ex d s1=>rw[e] at W;exact W
 |no=>rw[e] at W;exact W
theorem wB.mono{σv tv:List (Option V)}{r:Res Bool}{Q Q':Bool->Hp->Prop}(h:wB G F σv tv r Q)(k: ∀v H,Q v H->Q' v H):wB G F σv tv r Q':=by
 cases r with
 |ok t s=>exact fun ρ H M=>k _ _ (h ρ H M)
 |ex d s=>exact h
 |no=>exact h
theorem tBv.mono{m:M Bool}{σv tv:List (Option V)}{H:Hp}{Q Q':Bool->Hp->Prop}(h:tBv G F m σv tv H Q)(k: ∀v H,Q v H->Q' v H):tBv G F m σv tv H Q':=by
 obtain⟨hs,ρ,s,M,W⟩:=h
 exact⟨hs,ρ,s,M,W.mono k⟩
noncomputable def iteM{α:Type}(b:Bool)(m m':M α):M α:=match b with|true=>m|false=>m'
noncomputable def mAnd(m m':M Bool):M Bool:=bd m fun b=>iteM b m' (rt false)
noncomputable def mOr(m m':M Bool):M Bool:=bd m fun b=>iteM b (rt true) m'
noncomputable def mNot(m:M Bool):M Bool:=bd m fun b=>rt (!b)
noncomputable def SW(X:Cx)(G:Gx)(F:Fy)(e:Expr)(m:M Bool):Prop:=PW X e (tMB G F m)
theorem SW.sb{m:M Bool}(h:SW X G F e m):SB X G F e m:=PW.pt h
theorem PW.imp0{t t':TT}(h:PW X e t)(hi: ∀σ H Q,t' σ H Q->t σ H Q):PW X e t':=fun wh pins s σ H Q I q=>h wh pins s σ H _ I (hi σ H Q q)
theorem sw_and1{m:M Bool}(h:SB X G F a m):SW X G F (.BoolOp .And [a] pos) m:=z9Z h
theorem sw_or1{m:M Bool}(h:SB X G F a m):SW X G F (.BoolOp .Or [a] pos) m:=zbJ h
theorem sw_and{rest:List Expr}{m m':M Bool}(ha:SB X G F a m)(hb:SW X G F (.BoolOp .And (b::rest) pos) m'):SW X G F (.BoolOp .And (a::b::rest) pos) (mAnd m m'):=by
 refine PW.imp0 (zbK ha hb) fun σ H Q ⟨tv,h⟩=>⟨tv,(zaA h).mono fun b H1 ⟨ρ1,s1,M1,W⟩=> ?_⟩
 cases b with
 |true=>rw[if_pos rfl];exact⟨tv,h.1,ρ1,s1,M1,W⟩
 |false=>rw[if_neg Bool.false_ne_true];exact W ρ1 H1 M1
theorem sw_or{rest:List Expr}{m m':M Bool}(ha:SB X G F a m)(hb:SW X G F (.BoolOp .Or (b::rest) pos) m'):SW X G F (.BoolOp .Or (a::b::rest) pos) (mOr m m'):=by
 refine PW.imp0 (ze3 ha hb) fun σ H Q ⟨tv,h⟩=>⟨tv,(zaA h).mono fun b H1 ⟨ρ1,s1,M1,W⟩=> ?_⟩
 cases b with
 |true=>rw[if_pos rfl];exact W ρ1 H1 M1
 |false=>rw[if_neg Bool.false_ne_true];exact⟨tv,h.1,ρ1,s1,M1,W⟩
theorem sb_not{m:M Bool}(ha:SB X G F a m):SB X G F (.UnaryOp .Not a pos) (mNot m):=by
 refine PT.imp0 (zbL ha) fun σ H Q ⟨tv,h⟩=>⟨tv,(zaA h).mono fun b H1 ⟨ρ1,s1,M1,W⟩=>W ρ1 H1 M1⟩
noncomputable def z3o(m m':M D):M D:=bd (mBoo m) fun b=>iteM b m' (rt (.bool false))
noncomputable def z6i(m:M D):M D:=bd (mBoo m) fun b=>rt (.bool (!b))
theorem z9J{m:M D}{f:Bool->M D}{σ:St}{H:Hp}{Q:VK}(h:tM G F (bd (mBoo m) f) σ H Q):tM G F m σ H fun x H1=> ∃k,x= .bl k/\∃ρ1 s1 tv,F.tv0<:+tv/\MR G F.toFx ρ1 H1 σ tv s1/\wM G F σ tv (f k s1) Q:=by
 obtain⟨tv,hs,ρ,s,M,W⟩:=h
 refine⟨tv,hs,ρ,s,M, ?_⟩
 unfold mBoo bd at W
 cases e:m s with
 |ok t s1=>
  rw[e] at W
  intro ρ1 v H1 M1
  have h:=M1.rd1
  cases t with
  |bool b=>simp only[RD] at h;exact⟨b,h,ρ1,s1,tv,hs,M1.m,W⟩
  |_=>exact False.elim W
 |ex d s1=>rw[e] at W;exact W
 |no=>rw[e] at W;exact W
theorem tM.mono{m:M D}{σ:St}{H:Hp}{Q Q':VK}(h:tM G F m σ H Q)(k: ∀v H,Q v H->Q' v H):tM G F m σ H Q':=by
 obtain⟨tv,h⟩:=h
 exact⟨tv,h.mono k⟩
theorem se_one{op}{m:M D}(h:SE X G F a m):SE X G F (.BoolOp op [a] pos) m:=zbM h
theorem se_and{rest:List Expr}{m m':M D}(ha:SE X G F a m)(hb:SE X G F (.BoolOp .And (b::rest) pos) m'):SE X G F (.BoolOp .And (a::b::rest) pos) (z3o m m'):=by
 refine PE.imp0 (zbN ha hb) fun σ H Q h=>(z9J h).mono fun x H1 ⟨k,e,ρ1,s1,tv,hs,M1,W⟩=>⟨k,e, ?_⟩
 cases k with
 |true=>rw[if_pos rfl];exact⟨tv,hs,ρ1,s1,M1,W⟩
 |false=>rw[if_neg Bool.false_ne_true];exact W.flat M1 rfl
theorem se_not{m:M D}(ha:SE X G F a m):SE X G F (.UnaryOp .Not a pos) (z6i m):=by
 refine PE.imp0 (zbO ha) fun σ H Q h=>(z9J h).mono fun x H1 ⟨k,e,ρ1,s1,tv,hs,M1,W⟩=>⟨k,e,W.flat M1 rfl⟩
noncomputable def z6j(y:D)(m:M D):M D:=match cV y with|some _=>m|none=>fl
noncomputable def z1k(ma mb mc:M D)(g g':D->D->M D):M D:=bd ma fun x=>bd (psh x) fun _=>bd mb fun y=>bd pop fun x'=>z6j y (bd (mBoo (g x' y)) fun k=>iteM k (bd mc fun z=>g' y z) (rt (.bool false)))
theorem z4z{ma mb mc:M D}{g g':D->D->M D}{r r':R2}{σ:St}{H:Hp}{Q:VK}(hg:z1C G F r g)(hg':z1C G F r' g')(h:tM G F (z1k ma mb mc g g') σ H Q):z6R r r' (tM G F ma) (tM G F mb) (tM G F mc) σ H Q:=by
 obtain⟨tv,h⟩:=h
 have hs:=h.1
 refine⟨tv,(z5D (g:=fun x' y=>z6j y (bd (mBoo (g x' y)) fun k=>iteM k (bd mc fun z=>g' y z) (rt (.bool false)))) h).mono fun v H1 h1=>⟨_,h1.mono fun u H2 ⟨ρ,s,t,t',M,W⟩=> ?_⟩⟩
 unfold z6j at W
 cases e:cV t' with
 |none=>rw[e] at W;exact False.elim W
 |some u'=>
  rw[e] at W
  have hu:u=u':=by
   have h2:=M.rd2.2
   cases t'<;>simp only[cV,Option.some.injEq] at e<;>simp only[RD] at h2<;>first|(rw[h2,e])|cases e
  subst hu
  unfold bd mBoo at W
  dsimp only at W
  refine hg ρ s t t' v u H2 σ tv _ M ?_
  unfold bd at W
  cases e2:g t t' s with
  |ok z s1=>
   rw[e2] at W
   intro ρ1 w H3 M3
   have h3:=M3.rd1
   cases z with
   |bool k=>
    simp only[RD] at h3
    refine⟨k,h3, ?_⟩
    have W:wM G F σ tv (iteM k (bd mc fun z=>g' t' z) (rt (.bool false)) s1) Q:=W
    cases k with
    |false=>rw[if_neg Bool.false_ne_true];exact W.flat M3.m rfl
    |true=>
     rw[if_pos rfl]
     have h5:tMv G F (bd mc fun z=>g' t' z) σ tv H3 Q:=⟨hs,ρ1,s1,M3.m,W⟩
     refine⟨tv,(z59 h5).mono fun w' H4 ⟨ρ4,s4,t4,M4,W4⟩=>hg' ρ4 s4 t' t4 u w' H4 σ tv Q ⟨M4.m, ?_,fun l hl=> ?_⟩ W4⟩
     ·simp only[RDs];exact⟨_,_,rfl,(z6h e).1,_,_,rfl,M4.rd1,rfl⟩
     ·simp only[labsL,(z6h (G:=G) (ρ:=ρ4) (H:=H4) e).2,List.nil_append,List.append_nil] at hl
      exact M4.lb1 l hl
   |_=>exact False.elim W
  |ex d s1=>rw[e2] at W;exact W
  |no=>rw[e2] at W;exact W
theorem z90{op op':CmpOp}{r r':R2}{ma mb mc:M D}{g g':D->D->M D}(ho:OpR X (compareOp op) r)(hg:z1C G F r g)(ho':OpR X (compareOp op') r')(hg':z1C G F r' g')(ha:SE X G F a ma)(hb:SE X G F b mb)(hc:SE X G F c mc)
 (hm:lastMarks [op,op'] [b,c]=false:=by with_unfolding_all rfl):SE X G F (.Compare a [op,op'] [b,c] pos) (z1k ma mb mc g g'):=
 PE.imp0 (z8J ho ho' ha hb hc hm) fun _ _ _ h=>z4z hg hg' h
theorem z91{op op':CmpOp}{r r':R2}{ma mb mc:M D}{g g':D->D->M D}(ho:OpR X (compareOp op) r)(hg:z1C G F r g)(ho':OpR X (compareOp op') r')(hg':z1C G F r' g')(ha:SE X G F a ma)(hb:SE X G F b mb)(hc:SE X G F c mc)
 (hm:lastMarks [op,op'] [b,c]=false:=by with_unfolding_all rfl):SB X G F (.Compare a [op,op'] [b,c] pos) (mBoo (z1k ma mb mc g g')):=
 PT.imp0 (z8K ho ho' ha hb hc hm) fun _ _ _ h=>z4z hg hg' (z7h h)
end
noncomputable def lenD:List D->M D
 |[.tup ds]=>rt (.int ds.length)
 |[.ro ds]=>rt (.int ds.length)
 |[.lst _ ds]=>rt (.int ds.length)
 |_=>fl
noncomputable def absD:List D->M D
 |[.int i]=>rt (.int (if i<0 then -i else i))
 |_=>fl
noncomputable def minD:List D->M D
 |[.int i, .int j]=>rt (.int (if j<i then j else i))
 |_=>fl
noncomputable def maxD:List D->M D
 |[.int i, .int j]=>rt (.int (if j>i then j else i))
 |_=>fl
noncomputable def z1E:List D->Option (List Bool)
 |[]=>some []
 | .bool b::r=>(z1E r).map (b:: ·)
 |_=>none
noncomputable def allD:List D->M D
 |[.lst _ ds]=>match z1E ds with|some bs=>rt (.bool (bs.all id))|none=>fl
 |_=>fl
noncomputable def intD:List D->M D
 |[.int i]=>rt (.int i)
 |[.bool b]=>rt (.int (if b then 1 else 0))
 |_=>fl
noncomputable def tupF:List D->M D
 |[.tup ds]=>rt (.tup ds)
 |[.ro ds]=>rt (.tup ds)
 |[.lst _ ds]=>rt (.tup ds)
 |_=>fl
noncomputable def z6k:List D->M D
 |[.tup ds]=>newL ds
 |[.ro ds]=>newL ds
 |[.lst _ ds]=>newL ds
 |_=>fl
section
variable{X:Cx}{G:Gx}{F:Fy}{e a b c:Expr}{pos:Pos}
theorem MRL.one{ρ:Nat->Addr}{H:Hp}{σv tv:List (Option V)}{s:Stt}{t:D}{vs:List V}(M:MRL G F.toFx ρ H σv tv s [t] vs): ∃v,vs=[v]/\RD G ρ H t v/\LB F.toFx ρ s.n (labs t):=by
 have h:=M.rd
 simp only[RDs] at h
 obtain⟨v,r,rfl,h,rfl⟩:=h
 exact⟨v,rfl,h,M.lb1⟩
theorem MRL.two{ρ:Nat->Addr}{H:Hp}{σv tv:List (Option V)}{s:Stt}{t t':D}{vs:List V}(M:MRL G F.toFx ρ H σv tv s [t,t'] vs): ∃v u,vs=[v,u]/\RD G ρ H t v/\RD G ρ H t' u:=by
 have h:=M.rd
 simp only[RDs] at h
 obtain⟨v,r,rfl,h,u,q,rfl,h',rfl⟩:=h
 exact⟨v,u,rfl,h,h'⟩
theorem zcw:z0K G F (fun xs H Q=> ∃p ys,xs=[.ref p]/\(SqL G.K H p ys\/SqT G.K H p ys)/\Q (.int ys.length) H) lenD:=by
 intro ρ s ts vs H σv tv Q M W
 unfold lenD at W
 split at W
 ·obtain⟨v,rfl,h,_⟩:=M.one
  obtain⟨p,xs,rfl,s1,r1,_⟩:=h.seq rfl
  exact⟨p,xs,rfl,s1,fun _=>by rw[<-r1.length];exact W.flat M.m rfl⟩
 ·obtain⟨v,rfl,h,_⟩:=M.one
  obtain⟨p,xs,rfl,s1,r1,_⟩:=h.seq rfl
  exact⟨p,xs,rfl,s1,fun _=>by rw[<-r1.length];exact W.flat M.m rfl⟩
 ·obtain⟨v,rfl,h,_⟩:=M.one
  obtain⟨p,xs,rfl,s1,r1,_⟩:=h.seq rfl
  exact⟨p,xs,rfl,s1,fun _=>by rw[<-r1.length];exact W.flat M.m rfl⟩
 ·exact wfl W
theorem zcx:z0K G F (fun xs H Q=> ∃i,xs=[.int i]/\Q (.int (if i<0 then -i else i)) H) absD:=by
 intro ρ s ts vs H σv tv Q M W
 unfold absD at W
 split at W
 ·obtain⟨v,rfl,h,_⟩:=M.one
  simp only[RD] at h
  subst h
  exact⟨_,rfl,fun _=>W.flat M.m rfl⟩
 ·exact wfl W
theorem zcy:z0K G F (fun xs H Q=> ∃i j,xs=[.int i, .int j]/\Q (.int (if j<i then j else i)) H) minD:=by
 intro ρ s ts vs H σv tv Q M W
 unfold minD at W
 split at W
 ·obtain⟨v,u,rfl,h,h'⟩:=M.two
  simp only[RD] at h h'
  subst h h'
  exact⟨_,_,rfl,fun _=>W.flat M.m rfl⟩
 ·exact wfl W
theorem zcz:z0K G F (fun xs H Q=> ∃i j,xs=[.int i, .int j]/\Q (.int (if j>i then j else i)) H) maxD:=by
 intro ρ s ts vs H σv tv Q M W
 unfold maxD at W
 split at W
 ·obtain⟨v,u,rfl,h,h'⟩:=M.two
  simp only[RD] at h h'
  subst h h'
  exact⟨_,_,rfl,fun _=>W.flat M.m rfl⟩
 ·exact wfl W
theorem z5F{ρ:Nat->Addr}{H:Hp}: ∀{ds:List D} {xs:List V} {bs:List Bool},RDs G ρ H ds xs->z1E ds=some bs->xs=bs.map V.bl
 |[],xs,bs,r,e=>by simp only[RDs] at r;simp only[z1E,Option.some.injEq] at e;subst r e;rfl
 |d::ds,xs,bs,r,e=>by
  simp only[RDs] at r
  obtain⟨x,q,rfl,h1,h2⟩:=r
  cases d with
  |bool b=>
   simp only[z1E] at e
   cases e1:z1E ds with
   |none=>rw[e1] at e;cases e
   |some cs=>
    rw[e1] at e
    cases e
    simp only[RD] at h1
    rw[h1,z5F h2 e1];rfl
  |_=>simp only[z1E] at e;cases e
theorem zcA:z0K G F (fun xs H Q=> ∃(p:Addr) (bs:List Bool),xs=[.ref p]/\SqL G.K H p (bs.map V.bl)/\Q (.bl (bs.all id)) H) allD:=by
 intro ρ s ts vs H σv tv Q M W
 unfold allD at W
 split at W
 ·rename_i l ds
  cases e1:z1E ds with
  |none=>rw[e1] at W;exact False.elim W
  |some bs=>
   rw[e1] at W
   obtain⟨v,rfl,h,_⟩:=M.one
   obtain⟨p,xs,rfl,s1,r1,_⟩:=h.lstq (ds:=ds) rfl
   rw[z5F r1 e1] at s1
   exact⟨p,bs,rfl,s1,fun _=>W.flat M.m rfl⟩
 ·exact wfl W
theorem zcB:z0K G F (fun xs H Q=>(∃i,xs=[.int i]/\Q (.int i) H)\/∃k,xs=[.bl k]/\Q (.int (if k then 1 else 0)) H) intD:=by
 intro ρ s ts vs H σv tv Q M W
 unfold intD at W
 split at W
 ·obtain⟨v,rfl,h,_⟩:=M.one
  simp only[RD] at h
  subst h
  exact .inl ⟨_,rfl,fun _=>W.flat M.m rfl⟩
 ·obtain⟨v,rfl,h,_⟩:=M.one
  simp only[RD] at h
  subst h
  exact .inr ⟨_,rfl,fun _=>W.flat M.m rfl⟩
 ·exact wfl W
theorem zaB:z0K G F (fun xs H Q=> ∃(p:Addr) (ys:List V),xs=[.ref p]/\(SqL G.K H p ys\/H p=some (.tup ys))/\NewX G.K H ys Q) tupF:=by
 intro ρ s ts vs H σv tv Q M W
 have fin: ∀(t:D) (ds:List D),ts=[t]->seqD t=some ds->wM G F σv tv (.ok (.tup ds) s) Q->∃(p:Addr) (ys:List V),vs=[.ref p]/\(SqL G.K H p ys\/H p=some (.tup ys))/\NewX G.K H ys (fun w H'=>KD G.K H'->Q w H'):=fun t ds et es W'=>by
  subst et
  obtain⟨v,rfl,h,lb⟩:=M.one
  obtain⟨p,xs,rfl,s1,r1,sub⟩:=h.seqx es
  exact⟨p,xs,rfl,s1,z3T W' M.m r1 fun l hl=>lb l (sub l hl)⟩
 unfold tupF at W
 split at W
 ·exact fin _ _ rfl rfl W
 ·exact fin _ _ rfl rfl W
 ·exact fin _ _ rfl rfl W
 ·exact wfl W
theorem z92:z0K G F (fun xs H Q=> ∃p ys,xs=[.ref p]/\(SqL G.K H p ys\/SqT G.K H p ys)/\∀l,H l=none->Q (.ref l) (upd H l (.lst ys))) z6k:=by
 intro ρ s ts vs H σv tv Q M W
 have fin: ∀(t:D) (ds:List D),ts=[t]->seqD t=some ds->wM G F σv tv (.ok (.lst s.n ds) s.nxt) Q->∃p ys,vs=[.ref p]/\(SqL G.K H p ys\/SqT G.K H p ys)/\∀l,H l=none->KD G.K (upd H l (.lst ys))->Q (.ref l) (upd H l (.lst ys)):=fun t ds et es W'=>by
  subst et
  obtain⟨v,rfl,h,lb⟩:=M.one
  obtain⟨p,xs,rfl,s1,r1,sub⟩:=h.seq es
  exact⟨p,xs,rfl,s1,fun l hl k=>z1D W' M.m r1 (fun l hl=>lb l (sub l hl)) hl k⟩
 unfold z6k at W
 split at W
 ·exact fin _ _ rfl rfl W
 ·exact fin _ _ rfl rfl W
 ·exact fin _ _ rfl rfl W
 ·exact wfl W
noncomputable def isiD(T:String):D->Option Bool
 | .non=>some false
 | .bool _=>some (T== "int" ||T== "bool")
 | .int _=>some (T== "int")
 | .str _=>some (T== "str")
 | .tup _=>some (T== "tuple")
 | .ro _=>some (T== "list")
 | .lst _ _=>some (T== "list")
 |_=>none
noncomputable def mIsi(T:String)(m:M D):M D:=bd m fun d=>match isiD T d with|some b=>rt (.bool b)|none=>fl
theorem z9K{ρ:Nat->Addr}{H:Hp}{t:D}{v:V}{T:String}{b:Bool}(h:RD G ρ H t v)(e:isiD T t=some b):isiV G.K H T b v:=by
 cases t<;>simp only[isiD,Option.some.injEq] at e<;>try cases e
 ·simp only[RD] at h;subst h;exact rfl
 ·simp only[RD] at h;subst h;exact rfl
 ·simp only[RD] at h;subst h;exact rfl
 ·simp only[RD] at h;subst h;exact rfl
 ·obtain⟨p,xs,rfl,s1,r1⟩:=h.tupq
  exact .inl ⟨xs,s1,rfl⟩
 ·obtain⟨p,xs,rfl,s1,r1,_⟩:=h.lstq rfl
  exact .inr ⟨xs,s1,rfl⟩
 ·obtain⟨p,xs,rfl,s1,r1,_⟩:=h.lstq rfl
  exact .inr ⟨xs,s1,rfl⟩
theorem se_isi{p:Pos}{x y:Expr}{T:String}{m:M D}(hk:X.K=G.K)(hT:T= "int" \/T= "bool" \/T= "tuple" \/T= "list" \/T= "str")(hgl:Gl X "isinstance")(hm:X.mg "isinstance" =none)(ha:SE X G F x m)(hy:PE X y (tC (.ty T)))
 (he:starEach [x,y] X.env=(false,eval x X.env)::starEach [y] X.env:=by rfl) (he2:starEach [y] X.env=(false,eval y X.env)::starEach [] X.env:=by rfl) (hpl:(backTo pos (starEach [y] X.env)).any (·.1)=false:=by rfl):SE X G F (.Call (.Name "isinstance" p) [x,y] [] pos) (mIsi T m):=by
 refine PE.imp hk (z3O z8X hgl hm PyProof.Rows.Boot.«isinstance» (z1X ha (z1X hy z5z he2) he) (by decide) (by decide) he hpl) fun σ H Q ⟨tv,h⟩=>⟨tv,(z59 h).mono fun v H1 ⟨ρ1,s1,t,M1,W⟩=> ?_⟩
 cases e:isiD T t with
 |none=>simp only[e] at W;exact False.elim W
 |some b=>
  simp only[e] at W
  rw[hk]
  exact⟨v,T,b,rfl,hT,z9K M1.rd1 e,fun _=>W.flat M1.m rfl⟩
end
inductive RS where
 |nx (s:Stt)|rt (d:D) (s:Stt)|bk (s:Stt)|ct (s:Stt)|ex (d:D) (s:Stt)|no
noncomputable abbrev MS:=Stt->RS
noncomputable def lift{α:Type}(m:M α)(f:α->MS):MS:=fun s=>match m s with
 | .ok a s'=>f a s'
 | .ex d s'=> .ex d s'
 | .no=> .no
noncomputable def seqS(m m':MS):MS:=fun s=>match m s with
 | .nx s'=>m' s'
 |r=>r
noncomputable def sNx:MS:=fun s=> .nx s
noncomputable def z5a(m:M D):MS:=lift m fun _=>sNx
noncomputable def sRet(m:M D):MS:=lift m fun d s=> .rt d s
noncomputable def iteS(b:Bool)(m m':MS):MS:=match b with|true=>m|false=>m'
noncomputable def sIf(c:M Bool)(m m':MS):MS:=lift c fun b=>iteS b m m'
inductive Tg where
 |nm (i:Nat)|tp (ts:List Tg)
mutual
noncomputable def asg:Tg->D->List (Option D)->Option (List (Option D))
 | .nm i,t,σ=>some (σ.set i (some t))
 | .tp ts, .tup ds,σ=>asgL ts ds σ
 | .tp ts, .lst _ ds,σ=>asgL ts ds σ
 | .tp _,_,_=>none
noncomputable def asgL:List Tg->List D->List (Option D)->Option (List (Option D))
 |[],[],σ=>some σ
 |t::ts,d::ds,σ=>match asg t d σ with|some σ'=>asgL ts ds σ'|none=>none
 |_,_,_=>none
end
noncomputable def sAsg(g:Tg)(m:M D):MS:=lift m fun d s=>match asg g d s.σ with
 |some σ'=> .nx {s with σ:=σ'}
 |none=> .no
section
variable{X:Cx}{G:Gx}{F:Fy}{e a b c:Expr}{st:Stmt}{sts rest:List Stmt}{pos:Pos}
noncomputable def wS(G:Gx)(F:Fy)(tv:List (Option V))(r:RS)(D:Ends):Prop:=match r with
 | .nx s'=> ∀ρ' σv' H',MR G F.toFx ρ' H' σv' tv s'->D.nx σv' H'
 | .rt t s'=> ∀ρ' σv' v H',MRL G F.toFx ρ' H' σv' tv s' [t] [v]->D.rt v H'
 | .bk s'=> ∀ρ' σv' H',MR G F.toFx ρ' H' σv' tv s'->D.bk σv' H'
 | .ct s'=> ∀ρ' σv' H',MR G F.toFx ρ' H' σv' tv s'->D.ct σv' H'
 | .ex d s'=>F.xw d s'
 | .no=>False
noncomputable def tSv(G:Gx)(F:Fy)(m:MS)(tv:List (Option V))(D:Ends)(σv:St)(H:Hp):Prop:=F.tv0<:+tv/\∃ρ s,MR G F.toFx ρ H σv tv s/\wS G F tv (m s) D
noncomputable def tS(G:Gx)(F:Fy)(m:MS):TS:=fun D σv H=> ∃tv,tSv G F m tv D σv H
noncomputable def SS(X:Cx)(G:Gx)(F:Fy)(st:Stmt)(m:MS):Prop:=PS X st (tS G F m)
noncomputable def SSs(X:Cx)(G:Gx)(F:Fy)(sts:List Stmt)(m:MS):Prop:=PSs X sts (tS G F m)
theorem PS.imp0{t t':TS}(h:PS X st t)(hi: ∀D σ H,t' D σ H->t D σ H):PS X st t':=fun pins s σ H D I q=>h pins s σ H D I (hi D σ H q)
theorem PSs.imp0{t t':TS}(h:PSs X sts t)(hi: ∀D σ H,t' D σ H->t D σ H):PSs X sts t':=fun pins s σ H D I q=>h pins s σ H D I (hi D σ H q)
theorem ss_nil:SSs X G F [] sNx:=PSs.imp0 za0 fun D σ H ⟨tv,hs,ρ,s,M,W⟩=>W ρ σ H M
theorem ss_cons{m m':MS}(h1:SS X G F st m)(h2:SSs X G F rest m'):SSs X G F (st::rest) (seqS m m'):=by
 refine PSs.imp0 (z8F h1 h2) fun D σ H ⟨tv,hs,ρ,s,M,W⟩=>⟨tv,hs,ρ,s,M, ?_⟩
 unfold seqS at W
 cases e:m s with
 |nx s'=>rw[e] at W;exact fun ρ' σv' H' M'=>⟨tv,hs,ρ',s',M',W⟩
 |rt d s'=>rw[e] at W;exact W
 |bk s'=>rw[e] at W;exact W
 |ct s'=>rw[e] at W;exact W
 |ex d s'=>rw[e] at W;exact W
 |no=>rw[e] at W;exact W
theorem ss_one{m:MS}(h1:SS X G F st m):SSs X G F [st] m:=za1 h1
theorem z1U{m:M D}{f:D->MS}{tv:List (Option V)}{D:Ends}{σ:St}{H:Hp}(h:tSv G F (lift m f) tv D σ H):tMv G F m σ tv H fun v H1=> ∃ρ1 s1 t,MRL G F.toFx ρ1 H1 σ tv s1 [t] [v]/\wS G F tv (f t s1) D:=by
 obtain⟨hs,ρ,s,M,W⟩:=h
 refine⟨hs,ρ,s,M, ?_⟩
 unfold lift at W
 cases e:m s with
 |ok t s1=>rw[e] at W;exact fun ρ1 v H1 M1=>⟨ρ1,s1,t,M1,W⟩
 |ex d s1=>rw[e] at W;exact W
 |no=>rw[e] at W;exact W
theorem z7i{m:M Bool}{f:Bool->MS}{tv:List (Option V)}{D:Ends}{σ:St}{H:Hp}(h:tSv G F (lift m f) tv D σ H):tBv G F m σ tv H fun b H1=> ∃ρ1 s1,MR G F.toFx ρ1 H1 σ tv s1/\wS G F tv (f b s1) D:=by
 obtain⟨hs,ρ,s,M,W⟩:=h
 refine⟨hs,ρ,s,M, ?_⟩
 unfold lift at W
 cases e:m s with
 |ok t s1=>rw[e] at W;exact fun ρ1 H1 M1=>⟨ρ1,s1,M1,W⟩
 |ex d s1=>rw[e] at W;exact W
 |no=>rw[e] at W;exact W
theorem ss_expr{m:M D}(he:SE X G F e m)(hs:swapsWith e none pos.line X.env=pure false:=by rfl):SS X G F (.Expr e pos) (z5a m):=
 PS.imp0 (za2 he hs) fun D σ H ⟨tv,h⟩=>⟨tv,(z1U h).mono fun v H1 ⟨ρ1,s1,t,M1,W⟩=>W ρ1 σ H1 M1.m⟩
theorem ss_ret{m:M D}(he:SE X G F e m):SS X G F (.Return (some e) pos) (sRet m):=
 PS.imp0 (zbP he) fun D σ H ⟨tv,h⟩=>⟨tv,(z1U h).mono fun v H1 ⟨ρ1,s1,t,M1,W⟩=>W ρ1 σ v H1 M1⟩
theorem ss_if{x y:List Stmt}{mc:M Bool}{m m':MS}(hc:SB X G F c mc)(ha:SSs X G F x m)(hb:SSs X G F y m'):SS X G F (.If c x y pos) (sIf mc m m'):=by
 refine PS.imp0 (ze8 hc ha hb) fun D σ H ⟨tv,h⟩=>⟨tv,(z7i h).mono fun k H1 ⟨ρ1,s1,M1,W⟩=> ?_⟩
 cases k with
 |true=>rw[if_pos rfl];exact⟨tv,h.1,ρ1,s1,M1,W⟩
 |false=>rw[if_neg Bool.false_ne_true];exact⟨tv,h.1,ρ1,s1,M1,W⟩
noncomputable def tGn(G:Gx)(F:Fy)(g:Tg):TG:=fun v σv H Q=> ∃tv ρ s t,MRL G F.toFx ρ H σv tv s [t] [v]/\∃σ',asg g t s.σ=some σ'/\∀σv',MR G F.toFx ρ H σv' tv {s with σ:=σ'}->Q σv' H
noncomputable def tGs(G:Gx)(F:Fy)(g:List Tg):TGs:=fun vs σv H Q=> ∃tv ρ s ts,MRL G F.toFx ρ H σv tv s ts vs/\∃σ',asgL g ts s.σ=some σ'/\∀σv',MR G F.toFx ρ H σv' tv {s with σ:=σ'}->Q σv' H
noncomputable def SG(X:Cx)(G:Gx)(F:Fy)(tg:Expr)(g:Tg):Prop:=PG X tg (tGn G F g)
noncomputable def SGs(X:Cx)(G:Gx)(F:Fy)(tgs:List Expr)(g:List Tg):Prop:=PGs X tgs (tGs G F g)
theorem MRL.setS{ρ:Nat->Addr}{H:Hp}{σv tv:List (Option V)}{s:Stt}{t:D}{v:V}{ts:List D}{vs:List V}(i:Nat)(M:MRL G F.toFx ρ H σv tv s (t::ts) (v::vs)):MRL G F.toFx ρ H (σv.set i (some v)) tv {s with σ:=s.σ.set i (some t)} ts vs:=by
 have h:=M.rd
 simp only[RDs] at h
 obtain⟨_,_,e,h1,h2⟩:=h
 cases e
 have lb1: ∀l∈labs t,l<s.n/\(F.A0 (ρ l)\/F.H0 (ρ l)=none):=fun l h=>M.lb l (by simp only[labsL];exact List.mem_append_left _ h)
 have all: ∀l∈z0q {s with σ:=s.σ.set i (some t)},l<s.n/\(F.A0 (ρ l)\/F.H0 (ρ l)=none):=fun l h=>by
  rcases List.mem_append.mp h with h|h
  ·rcases z2U l h with q|q
   ·exact⟨M.m.lab l (List.mem_append_left _ q),M.m.own l (List.mem_append_left _ q)⟩
   ·exact lb1 l q
  ·exact⟨M.m.lab l (List.mem_append_right _ h),M.m.own l (List.mem_append_right _ h)⟩
 exact⟨⟨M.m.sl.set i h1,M.m.tm,M.m.inj,M.m.dom,fun l h=>(all l h).1,fun l h=>(all l h).2,M.m.frm,M.m.kd,M.m.frb,M.m.bas⟩,h2,fun l h=>M.lb l (by simp only[labsL];exact List.mem_append_right _ h)⟩
theorem sg_name{i:Nat}{x:Str}{p:Pos}(h:PG X (.Name x p) (z65 i)):SG X G F (.Name x p) (.nm i):=by
 intro pins s σ H v u Q I r ⟨tv,ρ,ms,t,M,σ',e,k⟩
 simp only[asg,Option.some.injEq] at e
 subst e
 exact h pins s σ H v u Q I r (k _ (M.setS i).m)
theorem sgs_nil:SGs X G F [] []:=by
 intro pins s σ H vs us Q I r ⟨tv,ρ,ms,ts,M,σ',e,k⟩
 cases ts with
 |nil=>
  simp only[asgL,Option.some.injEq] at e
  subst e
  have h:=M.rd
  simp only[RDs] at h
  exact za3 pins s σ H vs us Q I r ⟨h,k _ M.m⟩
 |cons d ds=>simp only[asgL] at e;cases e
theorem MRL.cons_inv{ρ:Nat->Addr}{H:Hp}{σv tv:List (Option V)}{s:Stt}{t:D}{ts:List D}{vs:List V}(M:MRL G F.toFx ρ H σv tv s (t::ts) vs): ∃v r,vs=v::r/\MRL G F.toFx ρ H σv tv s [t] [v]/\RDs G ρ H ts r/\LB F.toFx ρ s.n (labsL ts):=by
 have h:=M.rd
 simp only[RDs] at h
 obtain⟨v,r,rfl,h1,h2⟩:=h
 exact⟨v,r,rfl,⟨M.m,RDs.one h1,fun l h=>M.lb l (by simp only[labsL,List.append_nil] at h⊢;exact List.mem_append_left _ h)⟩,h2,fun l h=>M.lb l (by simp only[labsL];exact List.mem_append_right _ h)⟩
theorem PGs.imp0{es:List Expr}{t t':TGs}(h:PGs X es t)(hi: ∀vs σ H Q,t' vs σ H Q->t vs σ H Q):PGs X es t':=fun pins s σ H vs us Q I r q=>h pins s σ H vs us Q I r (hi vs σ H Q q)
theorem PG.imp0{t t':TG}(h:PG X e t)(hi: ∀v σ H Q,t' v σ H Q->t v σ H Q):PG X e t':=fun pins s σ H v u Q I r q=>h pins s σ H v u Q I r (hi v σ H Q q)
theorem sgs_cons{es:List Expr}{g:Tg}{gs:List Tg}(h1:SG X G F e g)(h2:SGs X G F es gs)(hs:(assignEach (e::es) X.env).map (·.2)=assign e X.env::(assignEach es X.env).map (·.2):=by rfl):SGs X G F (e::es) (g::gs):=by
 refine PGs.imp0 (z8G h1 h2 hs) fun vs σv H Q ⟨tv,ρ,s,ts,M,σ',e,k⟩=> ?_
 cases ts with
 |nil=>simp only[asgL] at e;cases e
 |cons d ds=>
  simp only[asgL] at e
  cases e1:asg g d s.σ with
  |none=>rw[e1] at e;cases e
  |some σ1=>
   rw[e1] at e
   obtain⟨v,r,rfl,M1,h2,lb⟩:=M.cons_inv
   exact⟨v,r,rfl,tv,ρ,s,d,M1,σ1,e1,fun σv1 M2=>⟨tv,ρ,{s with σ:=σ1},ds,⟨M2,h2,lb⟩,σ',e,k⟩⟩
theorem sg_tup{es:List Expr}{k:Nat}{gs:List Tg}(hk:X.K=G.K)(hc:X.calm=true)(h:SGs X G F es gs)(hn:(assignEach es X.env).length=gs.length:=by rfl)(hst:(assignEach es X.env).findIdx? (·.1)=none:=by rfl):SG X G F (.Tuple es k pos) (.tp gs):=by
 refine PG.imp0 (zcj hc h hn hst) fun v σv H Q ⟨tv,ρ,s,t,M,σ',e,kk⟩=> ?_
 have len: ∀{gs:List Tg} {ds:List D} {σ σ':List (Option D)},asgL gs ds σ=some σ'->ds.length=gs.length:=by
  intro gs
  induction gs with
  |nil=>intro ds σ σ' e;cases ds with
   |nil=>rfl
   |cons _ _=>simp only[asgL] at e;cases e
  |cons g gs ih=>intro ds σ σ' e;cases ds with
   |nil=>simp only[asgL] at e;cases e
   |cons d ds=>
    simp only[asgL] at e
    cases e1:asg g d σ with
    |none=>rw[e1] at e;cases e
    |some σ1=>rw[e1] at e;rw[List.length_cons,List.length_cons,ih e]
 cases t with
 |tup ds=>
  simp only[asg] at e
  obtain⟨a,xs,rfl,sq,r⟩:=M.rd1.tupq
  refine⟨a,xs,rfl, .inl (hk▸sq),by rw[<-r.length];exact len e,tv,ρ,s,ds,⟨M.m,r,fun l h=>M.lb1 l (by simp only[labs];exact h)⟩,σ',e,kk⟩
 |lst l ds=>
  simp only[asg] at e
  obtain⟨a,xs,rfl,sq,r,sub⟩:=M.rd1.lstq (ds:=ds) rfl
  refine⟨a,xs,rfl, .inr (hk▸sq),by rw[<-r.length];exact len e,tv,ρ,s,ds,⟨M.m,r,fun l h=>M.lb1 l (sub l h)⟩,σ',e,kk⟩
 |_=>simp only[asg] at e;cases e
theorem ss_asg{tg:Expr}{g:Tg}{m:M D}(he:SE X G F e m)(hg:SG X G F tg g)(hs:swapsWithSole [tg] e pos.line X.env=pure false:=by rfl)(hw:swappedStores [tg] e X.env=pure none:=by rfl)
 (h1:(assignEach [tg] X.env).map (·.2)=[assign tg X.env]:=by rfl):SS X G F (.Assign [tg] e pos) (sAsg g m):=by
 refine PS.imp0 (z9G he hg hs hw h1) fun D σ H ⟨tv,h⟩=>⟨tv,(z1U h).mono fun v H1 ⟨ρ1,s1,t,M1,W⟩=> ?_⟩
 cases e:asg g t s1.σ with
 |none=>simp only[e] at W;exact False.elim W
 |some σ'=>
  simp only[e] at W
  exact⟨tv,ρ1,s1,t,M1,σ',e,fun σv' M2=>W ρ1 σv' H1 M2⟩
theorem ss_set{i:Nat}{x:Str}{p:Pos}{m:M D}(h: ∀{te:TE},PE X e te->PS X (.Assign [.Name x p] e pos) (tAsg te (z65 i)))(he:SE X G F e m):SS X G F (.Assign [.Name x p] e pos) (sAsg (.nm i) m):=by
 refine PS.imp0 (h he) fun D σ H ⟨tv,h⟩=>⟨tv,(z1U h).mono fun v H1 ⟨ρ1,s1,t,M1,W⟩=> ?_⟩
 simp only[asg] at W
 exact W ρ1 _ H1 (M1.setS i).m
end
end Mi
namespace L2
open PySem PySem.Spec PyProof.Rows
noncomputable abbrev z5b(ifs:List Expr)(env:Env):Sem Bool:=forIn ifs true fun c r=>if r=true then do let ok<-isTrue c env (eval c env);pure (ForInStep.yield ok) else pure (ForInStep.yield r)
theorem z0T{prog:Program}{w:World}{A:Around}{R:Result->Shared->Prop}{s:Shared}{elt target iter:Expr}{ifs:List Expr}{scope:Scope}{pos:Pos}{it acc:Value}{env:Env}(I:Nat->Shared->Prop)
 (turn: ∀n s,I n s->wpAny (model prog w) A (pyNext it) (fun r s₁=>match r with
  |none=>R (.ok .next) s₁
  |some v=>wpAny (model prog w) A (letOwnedTupleGo target it v) (fun _ s₁=>wpAny (model prog w) A (assign target env v) (fun _ s₂=>wpAny (model prog w) A (z5b ifs env) (fun ok s₃=>
   if ok=true then wpAny (model prog w) A (eval elt env) (fun x s₃=>
   wpAny (model prog w) A (call (.builtin "list.append") [acc,x]) (fun _ s₄=> ∃m,m<n/\I m s₄) (fun _ _=>False) s₃)
   (fun _ _=>False) s₃ else ∃m,m<n/\I m s₃) (fun _ _=>False) s₂) (fun _ _=>False) s₁) (fun _ _=>False) s₁) (fun _ _=>False) s)
 (n:Nat) (h:I n s):
 codeAny (model prog w) A (.compLoop (.ListComp elt [⟨target,iter,ifs,0⟩] scope pos) 0 it acc env) R s:=by
 refine codeAny_loop rfl I (fun n s hI=> ?_) n h
 show wpAny _ _ ((compTurn (.ListComp elt [⟨target,iter,ifs,0⟩] scope pos) 0 it acc env).onRaise (fun x=>do noteFrame x env;theTreesLotGoes x)) _ _ s
 refine wpAny_noted ?_
 rw[compTurn_list]
 refine wpAny_bind (wpAny_standAt (wpAny_bind (wpAny_mono (turn n s hI) (fun r s₁ h₁=> ?_) fun _ _ h'=>h'.elim)))
 cases r with
 |none=>exact wpAny_pure h₁
 |some v=>
  refine wpAny_bind (wpAny_mono h₁ (fun _ s₁ h₁=> ?_) fun _ _ h'=>h'.elim)
  refine wpAny_bind (wpAny_mono h₁ (fun _ s₂ h₂=>wpAny_bind (wpAny_mono h₂ (fun ok s₃ h₃=> ?_) fun _ _ h'=>h'.elim)) fun _ _ h'=>h'.elim)
  cases ok with
  |false=>exact wpAny_pure ⟨rfl,h₃⟩
  |true=>
   exact wpAny_bind (wpAny_bind (wpAny_mono h₃ (fun x s₄ h₄=>wpAny_bind (wpAny_mono h₄ (fun _ s₅ h₅=>wpAny_pure (wpAny_pure ⟨rfl,h₅⟩)) fun _ _ h'=>h'.elim)) fun _ _ h'=>h'.elim))
noncomputable def PTs(X:Cx)(ifs:List Expr)(t:TT):Prop:=
 ∀(pins:List (Addr×Obj)) (s:Shared) (σ:St) (H:Hp) (Q:Bool->Hp->Prop),Inv X pins σ H s->t σ H Q->wpAny (model X.prog X.w) X.A (z5b ifs X.env) (TP X pins σ Q) X.xe s
theorem zaC{X:Cx}:PTs X [] (fun _ H Q=>Q true H):=fun pins s σ H Q I h=>wpAny_tests_nil ⟨H,I,h⟩
section
variable{X:Cx}{tg iter elt:Expr}{ifs:List Expr}{pos:Pos}{scope:Scope}{own frees:List Str}{ix:List Nat}{wi:TI}{g:TG}{tt:TT}{te:TE}
noncomputable def z5G(K:W.Frag)(wi:TI)(g:TG)(tt:TT)(te:TE)(k:Nat)(ix:List Nat):TE:=fun σ H Q=>wi σ H fun J H1=> ∀D,H1 D=none->(∀a o,K.lookup a=some o->upd H1 D (.lst []) a=none)->
 ∃W:Nat->Nat->List V->St->Hp->Prop,(∃m,W 0 m [] (z1j k ix σ) (upd H1 D (.lst [])))/\
  ∀i m ys σ' H',W i m ys σ' H'->H' D=some (.lst ys)/\((J.stop i H'/\Q (.ref D) H')\/
   (J.go i H'/\∀x H2,J.yld i H' x H2->g x σ' H2 fun σ2 H3=>tt σ2 H3 fun ok H3=>if ok=true then te σ2 H3 fun y H4=>H4 D=some (.lst ys)/\ys.length<sizeLine/\∃m',m'<m/\W (i+1) m' (ys++[y]) σ2 (upd H4 D (.lst (ys++[y])))
    else ∃m',m'<m/\W (i+1) m' ys σ2 H3))
theorem z4A(hc:X.calm=true)(S:z0j X.env.scope scope own frees X.N ix)(hi:PI X tg iter wi)
 (hg: ∀cl C s₀ H₀ fp pn,PG (z09 X scope own frees cl C s₀ H₀ fp pn) tg g) (ht: ∀cl C s₀ H₀ fp pn,PTs (z09 X scope own frees cl C s₀ H₀ fp pn) ifs tt) (he: ∀cl C s₀ H₀ fp pn,PE (z09 X scope own frees cl C s₀ H₀ fp pn) elt te)
 (hs: ∀x,foldedSetIterable iter X.env x=pure x:=by intro _;rfl):
 PE X (.ListComp elt [⟨tg,iter,ifs,0⟩] scope pos) (z5G X.K wi g tt te own.length ix):=by
 intro pins s σ H Q I h
 have hclos:closureFor scope X.env=pure (z0I X.env scope.names []):=z1o fun y hy e=>I.ok.has y.1 (S.fr y hy e)
 rw[eval_ListComp]
 refine wpAny_comprehension_free (use:=none) rfl hs hclos S.kind S.names (thn (hi pins s σ H _ I h) fun v s1 h1=>thn h1 fun itv s2 h2=> ?_)
 obtain⟨it,fp,tn,J,H2,e,I2,T,st2,f2,hD⟩:=h2
 subst e
 refine wpAny_newObj_type ?_
 have I3:Inv X pins σ (upd H2 s2.heap.objs.size (.lst [])) {s2 with heap:=s2.heap.push {cls:= .type "list",data:= .seq ([]:List Value).toArray}}:=I2.lnew (t':=s2.toks) .nil (Nat.zero_le _)
 have nD:H2 s2.heap.objs.size=none:=I2.fresh
 obtain⟨W,⟨m0,w0⟩,turn⟩:=hD _ nD fun a o e=>(I3.bs a o (I3.ok.mod.kin a o e)).2
 have fpl: ∀b∈fp,b<s2.heap.objs.size:=fun b z=>by
  obtain⟨o,q,_⟩:=T.obj _ _ st2 b z
  exact Heap.lt_size q
 generalize hs3:({s2 with heap:=s2.heap.push {cls:= .type "list",data:= .seq ([]:List Value).toArray}}:Shared)=s3 at I3
 have hpush: ∀b o,s2.heap.get? b=some o->s3.heap.get? b=some o:=fun b o q=>by rw[<-hs3];exact Heap.get?_push_of_some _ q
 have hsz3:s2.heap.objs.size<s3.heap.objs.size:=by rw[<-hs3];show _<(s2.heap.push _).objs.size;rw[Heap.size_push];exact Nat.lt_succ_self _
 have f3: ∀b∈fp,FpOk X pins (upd H2 s2.heap.objs.size (.lst [])) b:=fun b z=>⟨by rw[z04 (Nat.ne_of_lt (fpl b z))];exact(f2 b z).1,(f2 b z).2⟩
 have st3:tn 0 s3.heap:=T.keep _ _ _ st2 fun b _ o q=>hpush b o q
 generalize hDd:s2.heap.objs.size=D at*
 generalize hH3:upd H2 D (.lst [])=H3 at*
 have goal:wpAny (model X.prog X.w) X.A (newFunctionEnv scope X.env.globals (z0I X.env scope.names []) [] X.env.qual none .none (some X.env)) (fun cenv s₄=>
  codeAny (model X.prog X.w) X.A (.compStart (.ListComp elt [⟨tg,iter,ifs,0⟩] scope pos) 0 (.ref it) (.ref D) {cenv with scope:=relabel scope X.env}) (compPost (model X.prog X.w) X.A X.xe none (EP X pins σ Q) (.ref D) cenv.locals) s₄) X.xe s3:=by
  refine wpAny_newFunctionEnv S.nocell (by intro y hy;simp at hy) (fun h1 hns hsb=> ?_) S.kind
  have hns:h1.Ns s3.heap.objs.size (fun _=>none):=hns
  have keep4: ∀b o,s3.heap.get? b=some o->h1.get? b=some o:=fun b o q=>hsb.extBut b o (Nat.ne_of_lt (Heap.lt_size q)) (Heap.get?_push_of_some _ q)
  have fpl3: ∀b∈fp,b<s3.heap.objs.size:=fun b z=>Nat.lt_trans (fpl b z) hsz3
  generalize hs4:({s3 with heap:=h1,toks:=s3.toks+([]:List (Str×Value)).length}:Shared)=s4
  have I4:Inv (z09 X scope own frees (z0I X.env scope.names []) s3.heap.objs.size s3 H3 fp (X.pn++pins)) [] (z1j own.length ix σ) H3 s4:=
   z2f S I3 f3 fpl3 (by rw[<-hs4]) (by rw[<-hs4]) (fun b o q=>by rw[<-hs4];exact keep4 b o q) (by rw[<-hs4];exact hns)
  have st4:tn 0 s4.heap:=T.keep _ _ _ st3 fun b _ o q=>by rw[<-hs4];exact keep4 b o q
  generalize hXc:z09 X scope own frees (z0I X.env scope.names []) s3.heap.objs.size s3 H3 fp (X.pn++pins)=Y at I4
  have eP:Y.prog=X.prog:=by rw[<-hXc];rfl
  have eW:Y.w=X.w:=by rw[<-hXc];rfl
  have eK:Y.K=X.K:=by rw[<-hXc];rfl
  have eA:Y.A=X.A:=by rw[<-hXc];rfl
  have eC:Y.calm=true:=by rw[<-hXc];exact hc
  have eE:Y.env=compEnvC scope (z0I X.env scope.names []) s3.heap.objs.size X.env:=by rw[<-hXc];rfl
  have eX:Y.xe=fun _ _=>False:=by rw[<-hXc];rfl
  have eF: ∀{H':Hp},(∀b∈fp,H' b=none)->∀b∈fp,FpOk Y [] H' b:=fun{H'} hn b hb=>by
   rw[<-hXc]
   obtain⟨g1,g2,g3,g4,g5,g6⟩:=f3 b hb
   refine⟨hn b hb,Nat.ne_of_lt (fpl3 b hb),fun q=> ?_, .inl hb,fun x c e=> ?_,fun p hp=> ?_⟩
   ·rcases List.mem_cons.mp (I3.stkSub b q) with r|r
    ·exact g2 r
    ·exact g3 r
   ·rcases z23 _ _ e with q|q
    ·exact nomatch q
    ·exact g5 x c q.1
   ·have hp:p∈(X.pn++pins)++[]:=hp
    rw[List.append_nil] at hp
    exact g6 p hp
  have gY:PG Y tg g:=by rw[<-hXc];exact hg _ _ _ _ _ _
  have tY:PE Y elt te:=by rw[<-hXc];exact he _ _ _ _ _ _
  have sY:PTs Y ifs tt:=by rw[<-hXc];exact ht _ _ _ _ _ _
  have loop:codeAny (model X.prog X.w) X.A (.compLoop (.ListComp elt [⟨tg,iter,ifs,0⟩] scope pos) 0 (.ref it) (.ref D) (compEnvC scope (z0I X.env scope.names []) s3.heap.objs.size X.env))
   (compPost (model X.prog X.w) X.A X.xe none (EP X pins σ Q) (.ref D) s3.heap.objs.size) s4:=by
   refine z0T (fun n s'=> ∃i ys σ' H',Inv Y [] σ' H' s'/\tn i s'.heap/\(∀b∈fp,H' b=none)/\W i n ys σ' H') ?_ m0 ⟨0,[],_,_,I4,st4,fun b hb=>(f3 b hb).1,w0⟩
   rintro n s5 ⟨i,ys,σ5,H5,I5,st5,fr5,w5⟩
   obtain⟨hD5,alt⟩:=turn i n ys σ5 H5 w5
   rcases alt with⟨stop,qn⟩|⟨go,step⟩
   ·have d:=T.done Y eP eW eK eC i [] s5 σ5 H5 (fun _ _=>False) I5 (eF fr5) st5 stop
    rw[eA] at d
    refine thn d fun r s6 ⟨hr,I6⟩=> ?_
    subst hr
    subst hXc
    obtain⟨m6,n6,_⟩:=I6.loc
    exact⟨m6,n6,fun h'' hs''=>⟨.ref D,H5,z3S I3 f3 (Nat.le_refl _) I6 hs'',rfl,qn⟩⟩
   ·have d:=T.item Y eP eW eK eC i [] s5 σ5 H5 (fun _ _=>False) I5 (eF fr5) st5 go
    rw[eA] at d
    refine thn d fun r s6 ⟨u,hr,h6⟩=> ?_
    subst hr
    refine thn h6 fun _ s7 ⟨x,H7,I7,r7,y7,st7,fr7⟩=> ?_
    have I7':=I7.pinned (eF fr7) (T.obj _ _ st7)
    have e1:=gY _ s7 σ5 H7 x u _ I7' r7 (step x H7 y7)
    rw[eP,eW,eA,eE,eX] at e1
    refine thn e1 fun _ s8 ⟨σ8,H8,I8,q8⟩=> ?_
    have e1':=sY _ s8 σ8 H8 _ I8 q8
    rw[eP,eW,eA,eE,eX] at e1'
    refine thn e1' fun ok s8 ⟨H8,I8,q8⟩=> ?_
    cases ok with
    |false=>
     rw[if_neg Bool.false_ne_true] at q8⊢
     obtain⟨m',hm',w9⟩:=q8
     refine⟨m',hm',i+1,_,σ8,_,I8.unpinned,T.keep _ _ _ st7 fun b hb o e=> ?_,fun b hb=> ?_,w9⟩
     ·exact(I8.pin (b,o) (List.mem_append_right _ (List.mem_append_right _ (z0g hb e)))).1
     ·obtain⟨o,e,d⟩:=T.obj _ _ st7 b hb
      exact(I8.pin (b,o) (List.mem_append_right _ (List.mem_append_right _ (z0g hb e)))).2.1
    |true=>
    rw[if_pos rfl] at q8⊢
    have e2:=tY _ s8 σ8 H8 _ I8 q8
    rw[eP,eW,eA,eE,eX] at e2
    refine thn e2 fun yv s9 ⟨y,H9,I9,r9,hD9,hz9,m',hm',w9⟩=> ?_
    have e3:=z2M (X:=Y) _ s9 σ8 H9 (.ref D) [y] (.ref D) [yv] (fun v H'=>v= .non/\H'=upd H9 D (.lst (ys++[y]))) I9 rfl (.cons r9 .nil) ⟨D,ys,y,rfl,rfl,hD9,hz9,rfl,rfl⟩
    rw[eP,eW,eA,eX] at e3
    refine thn e3 fun _ s10 ⟨v10,H10,I10,r10,_,e10⟩=> ?_
    subst e10
    refine⟨m',hm',i+1,_,σ8,_,I10.unpinned,T.keep _ _ _ st7 fun b hb o e=> ?_,fun b hb=> ?_,w9⟩
    ·exact(I10.pin (b,o) (List.mem_append_right _ (List.mem_append_right _ (z0g hb e)))).1
    ·obtain⟨o,e,d⟩:=T.obj _ _ st7 b hb
     exact(I10.pin (b,o) (List.mem_append_right _ (List.mem_append_right _ (z0g hb e)))).2.1
  exact codeAny_compStart_list loop (T.self _ 0 _ _ _ st4 loop)
 exact goal
theorem z7j{y:Str}{py spos:Pos}{i:Nat}(hN:X.N.Nodup)(hy:X.N[i]? =some y)(hx:Loc X.env.scope y)(hfn:X.fn y=true\/X.env.scope.names.lookup y=some .local)(hsw:swapsWith (.ListComp elt [⟨tg,iter,ifs,0⟩] scope pos) (some (.Name y py)) spos.line X.env=pure true)(hc:X.calm=true)(S:z0j X.env.scope scope own frees X.N ix)(hi:PI X tg iter wi)
 (hg: ∀cl C s₀ H₀ fp pn,PG (z09 X scope own frees cl C s₀ H₀ fp pn) tg g) (ht: ∀cl C s₀ H₀ fp pn,PTs (z09 X scope own frees cl C s₀ H₀ fp pn) ifs tt) (he: ∀cl C s₀ H₀ fp pn,PE (z09 X scope own frees cl C s₀ H₀ fp pn) elt te)
 (hs: ∀x,foldedSetIterable iter X.env x=pure x:=by intro _;rfl):
 PS X (.Assign [.Name y py] (.ListComp elt [⟨tg,iter,ifs,0⟩] scope pos) spos) (fun Dd σ H=>z5G X.K wi g tt te own.length ix σ H fun v H'=>Dd.nx (σ.set i (some v)) H'):=by
 intro pins s σ H Dd I h
 have hclos:closureFor scope X.env=pure (z0I X.env scope.names []):=z1o fun y hy e=>I.ok.has y.1 (S.fr y hy e)
 rw[exec_Assign_Name_used _ _ _ _ hsw]
 refine wpAny_bind (wpAny_standAt (wpAny_bind ?_))
 show wpAny _ X.A (do let _<-comprehension (.ListComp elt [⟨tg,iter,ifs,0⟩] scope pos) scope X.env _ (newList []) false (eval iter X.env) (some (assign (.Name y py) X.env))) _ _ s
 refine wpAny_bind (wpAny_mono (wpAny_comprehension_free (use:=some (assign (.Name y py) X.env)) (Q:=fun _ s'=>SP X pins Dd .next s') rfl hs hclos S.kind S.names (thn (hi pins s σ H _ I h) fun v s1 h1=>thn h1 fun itv s2 h2=> ?_)) (fun _ s' hq=>wpAny_pure (wpAny_pure hq)) fun _ _ e=>e)
 obtain⟨it,fp,tn,J,H2,e,I2,T,st2,f2,hD⟩:=h2
 subst e
 refine wpAny_newObj_type ?_
 have I3:Inv X pins σ (upd H2 s2.heap.objs.size (.lst [])) {s2 with heap:=s2.heap.push {cls:= .type "list",data:= .seq ([]:List Value).toArray}}:=I2.lnew (t':=s2.toks) .nil (Nat.zero_le _)
 have nD:H2 s2.heap.objs.size=none:=I2.fresh
 obtain⟨W,⟨m0,w0⟩,turn⟩:=hD _ nD fun a o e=>(I3.bs a o (I3.ok.mod.kin a o e)).2
 have fpl: ∀b∈fp,b<s2.heap.objs.size:=fun b z=>by
  obtain⟨o,q,_⟩:=T.obj _ _ st2 b z
  exact Heap.lt_size q
 generalize hs3:({s2 with heap:=s2.heap.push {cls:= .type "list",data:= .seq ([]:List Value).toArray}}:Shared)=s3 at I3
 have hpush: ∀b o,s2.heap.get? b=some o->s3.heap.get? b=some o:=fun b o q=>by rw[<-hs3];exact Heap.get?_push_of_some _ q
 have hsz3:s2.heap.objs.size<s3.heap.objs.size:=by rw[<-hs3];show _<(s2.heap.push _).objs.size;rw[Heap.size_push];exact Nat.lt_succ_self _
 have f3: ∀b∈fp,FpOk X pins (upd H2 s2.heap.objs.size (.lst [])) b:=fun b z=>⟨by rw[z04 (Nat.ne_of_lt (fpl b z))];exact(f2 b z).1,(f2 b z).2⟩
 have st3:tn 0 s3.heap:=T.keep _ _ _ st2 fun b _ o q=>hpush b o q
 generalize hDd:s2.heap.objs.size=D at*
 generalize hH3:upd H2 D (.lst [])=H3 at*
 have goal:wpAny (model X.prog X.w) X.A (newFunctionEnv scope X.env.globals (z0I X.env scope.names []) [] X.env.qual none .none (some X.env)) (fun cenv s₄=>
  codeAny (model X.prog X.w) X.A (.compStart (.ListComp elt [⟨tg,iter,ifs,0⟩] scope pos) 0 (.ref it) (.ref D) {cenv with scope:=relabel scope X.env}) (compPost (model X.prog X.w) X.A X.xe (some (assign (.Name y py) X.env)) (fun _ s'=>SP X pins Dd .next s') (.ref D) cenv.locals) s₄) X.xe s3:=by
  refine wpAny_newFunctionEnv S.nocell (by intro y hy;simp at hy) (fun h1 hns hsb=> ?_) S.kind
  have hns:h1.Ns s3.heap.objs.size (fun _=>none):=hns
  have keep4: ∀b o,s3.heap.get? b=some o->h1.get? b=some o:=fun b o q=>hsb.extBut b o (Nat.ne_of_lt (Heap.lt_size q)) (Heap.get?_push_of_some _ q)
  have fpl3: ∀b∈fp,b<s3.heap.objs.size:=fun b z=>Nat.lt_trans (fpl b z) hsz3
  generalize hs4:({s3 with heap:=h1,toks:=s3.toks+([]:List (Str×Value)).length}:Shared)=s4
  have I4:Inv (z09 X scope own frees (z0I X.env scope.names []) s3.heap.objs.size s3 H3 fp (X.pn++pins)) [] (z1j own.length ix σ) H3 s4:=
   z2f S I3 f3 fpl3 (by rw[<-hs4]) (by rw[<-hs4]) (fun b o q=>by rw[<-hs4];exact keep4 b o q) (by rw[<-hs4];exact hns)
  have st4:tn 0 s4.heap:=T.keep _ _ _ st3 fun b _ o q=>by rw[<-hs4];exact keep4 b o q
  generalize hXc:z09 X scope own frees (z0I X.env scope.names []) s3.heap.objs.size s3 H3 fp (X.pn++pins)=Y at I4
  have eP:Y.prog=X.prog:=by rw[<-hXc];rfl
  have eW:Y.w=X.w:=by rw[<-hXc];rfl
  have eK:Y.K=X.K:=by rw[<-hXc];rfl
  have eA:Y.A=X.A:=by rw[<-hXc];rfl
  have eC:Y.calm=true:=by rw[<-hXc];exact hc
  have eE:Y.env=compEnvC scope (z0I X.env scope.names []) s3.heap.objs.size X.env:=by rw[<-hXc];rfl
  have eX:Y.xe=fun _ _=>False:=by rw[<-hXc];rfl
  have eF: ∀{H':Hp},(∀b∈fp,H' b=none)->∀b∈fp,FpOk Y [] H' b:=fun{H'} hn b hb=>by
   rw[<-hXc]
   obtain⟨g1,g2,g3,g4,g5,g6⟩:=f3 b hb
   refine⟨hn b hb,Nat.ne_of_lt (fpl3 b hb),fun q=> ?_, .inl hb,fun x c e=> ?_,fun p hp=> ?_⟩
   ·rcases List.mem_cons.mp (I3.stkSub b q) with r|r
    ·exact g2 r
    ·exact g3 r
   ·rcases z23 _ _ e with q|q
    ·exact nomatch q
    ·exact g5 x c q.1
   ·have hp:p∈(X.pn++pins)++[]:=hp
    rw[List.append_nil] at hp
    exact g6 p hp
  have gY:PG Y tg g:=by rw[<-hXc];exact hg _ _ _ _ _ _
  have tY:PE Y elt te:=by rw[<-hXc];exact he _ _ _ _ _ _
  have sY:PTs Y ifs tt:=by rw[<-hXc];exact ht _ _ _ _ _ _
  have loop:codeAny (model X.prog X.w) X.A (.compLoop (.ListComp elt [⟨tg,iter,ifs,0⟩] scope pos) 0 (.ref it) (.ref D) (compEnvC scope (z0I X.env scope.names []) s3.heap.objs.size X.env))
   (compPost (model X.prog X.w) X.A X.xe (some (assign (.Name y py) X.env)) (fun _ s'=>SP X pins Dd .next s') (.ref D) s3.heap.objs.size) s4:=by
   refine z0T (fun n s'=> ∃i ys σ' H',Inv Y [] σ' H' s'/\tn i s'.heap/\(∀b∈fp,H' b=none)/\W i n ys σ' H') ?_ m0 ⟨0,[],_,_,I4,st4,fun b hb=>(f3 b hb).1,w0⟩
   rintro n s5 ⟨i,ys,σ5,H5,I5,st5,fr5,w5⟩
   obtain⟨hD5,alt⟩:=turn i n ys σ5 H5 w5
   rcases alt with⟨stop,qn⟩|⟨go,step⟩
   ·have d:=T.done Y eP eW eK eC i [] s5 σ5 H5 (fun _ _=>False) I5 (eF fr5) st5 stop
    rw[eA] at d
    refine thn d fun r s6 ⟨hr,I6⟩=> ?_
    subst hr
    subst hXc
    obtain⟨m6,n6,_⟩:=I6.loc
    have n6:s6.heap.Ns s3.heap.objs.size m6:=n6
    have I7:Inv X pins σ H5 s6:=z3S (h':=s6.heap) I3 f3 (Nat.le_refl _) I6 (Heap.SameBut.refl _ _)
    have fC:FpOk X pins H5 s3.heap.objs.size:=I3.fpOk (Nat.le_refl _) I6.free
    obtain⟨oC,eC,dC⟩: ∃o,s6.heap.get? s3.heap.objs.size=some o/\∀v,o.data≠ .cell v:=by
     obtain⟨o,es,ep,e1,e2,e3⟩:=n6
     exact⟨o,e1,fun v z=>by simp_all⟩
    have I8:=I7.pinned (fp:=[s3.heap.objs.size]) (fun b hb=>by
     have e:b=s3.heap.objs.size:=by simpa using hb
     rw[e];exact fC) (fun b hb=>by
     have e:b=s3.heap.objs.size:=by simpa using hb
     rw[e];exact⟨oC,eC,dC⟩)
    show wpAny _ _ (assign (.Name y py) X.env (.ref D)) _ _ s6
    refine wpAny_assign_Name (z3L (v:= .ref D) I8 hN hy hx rfl (fun s7 I9=> ?_) hfn)
    have e7:s7.heap.get? s3.heap.objs.size=some oC:=(I9.pin (s3.heap.objs.size,oC) (List.mem_append_right _ (List.mem_append_right _ (z0g (by simp) eC)))).1
    refine⟨m6,n6.at' fun o e=>by rw[eC] at e;cases e;exact e7,fun h3 hs3=>⟨_,H5, ?_,qn⟩⟩
    exact I9.unpinned.turned (t':=s7.toks) (fun b o hb e=>(hs3.2 b hb).trans e) fC.1 fC.2.1 fC.2.2.2.1 fC.2.2.2.2.1 fC.2.2.2.2.2
   ·have d:=T.item Y eP eW eK eC i [] s5 σ5 H5 (fun _ _=>False) I5 (eF fr5) st5 go
    rw[eA] at d
    refine thn d fun r s6 ⟨u,hr,h6⟩=> ?_
    subst hr
    refine thn h6 fun _ s7 ⟨x,H7,I7,r7,y7,st7,fr7⟩=> ?_
    have I7':=I7.pinned (eF fr7) (T.obj _ _ st7)
    have e1:=gY _ s7 σ5 H7 x u _ I7' r7 (step x H7 y7)
    rw[eP,eW,eA,eE,eX] at e1
    refine thn e1 fun _ s8 ⟨σ8,H8,I8,q8⟩=> ?_
    have e1':=sY _ s8 σ8 H8 _ I8 q8
    rw[eP,eW,eA,eE,eX] at e1'
    refine thn e1' fun ok s8 ⟨H8,I8,q8⟩=> ?_
    cases ok with
    |false=>
     rw[if_neg Bool.false_ne_true] at q8⊢
     obtain⟨m',hm',w9⟩:=q8
     refine⟨m',hm',i+1,_,σ8,_,I8.unpinned,T.keep _ _ _ st7 fun b hb o e=> ?_,fun b hb=> ?_,w9⟩
     ·exact(I8.pin (b,o) (List.mem_append_right _ (List.mem_append_right _ (z0g hb e)))).1
     ·obtain⟨o,e,d⟩:=T.obj _ _ st7 b hb
      exact(I8.pin (b,o) (List.mem_append_right _ (List.mem_append_right _ (z0g hb e)))).2.1
    |true=>
    rw[if_pos rfl] at q8⊢
    have e2:=tY _ s8 σ8 H8 _ I8 q8
    rw[eP,eW,eA,eE,eX] at e2
    refine thn e2 fun yv s9 ⟨y,H9,I9,r9,hD9,hz9,m',hm',w9⟩=> ?_
    have e3:=z2M (X:=Y) _ s9 σ8 H9 (.ref D) [y] (.ref D) [yv] (fun v H'=>v= .non/\H'=upd H9 D (.lst (ys++[y]))) I9 rfl (.cons r9 .nil) ⟨D,ys,y,rfl,rfl,hD9,hz9,rfl,rfl⟩
    rw[eP,eW,eA,eX] at e3
    refine thn e3 fun _ s10 ⟨v10,H10,I10,r10,_,e10⟩=> ?_
    subst e10
    refine⟨m',hm',i+1,_,σ8,_,I10.unpinned,T.keep _ _ _ st7 fun b hb o e=> ?_,fun b hb=> ?_,w9⟩
    ·exact(I10.pin (b,o) (List.mem_append_right _ (List.mem_append_right _ (z0g hb e)))).1
    ·obtain⟨o,e,d⟩:=T.obj _ _ st7 b hb
     exact(I10.pin (b,o) (List.mem_append_right _ (List.mem_append_right _ (z0g hb e)))).2.1
  exact codeAny_compStart_list loop (T.self _ 0 _ _ _ st4 loop)
 exact goal
end
structure zbC(osc sc:Scope)(own frees N:List Str)(ix:List Nat):Prop where
 kind:sc.kind= .function
 names: ∀y∈sc.names,y.2= .local->sc.names.lookup y.1=some .local
 fr: ∀y∈sc.names,y.2= .free->osc.names.lookup y.1=some .cell\/osc.names.lookup y.1=some .free
 nd:(own++frees).Nodup
 frl: ∀x∈frees,sc.names.lookup x=some .free
 ixs:ix.map (fun i=>N[i]?)=frees.map some
 frc: ∀y∈sc.names,y.2= .cell->y.1∉frees
 owf: ∀y∈sc.names,y.2= .free->y.1∉own
section
variable{X:Cx}{a b:Expr}{rest:List Expr}{pos:Pos}{ta tb:TE}
noncomputable def rStr(K:W.Frag)(xs:List V)(H:Hp)(Q:VK):Prop:= ∃p d,xs=[.ref p]/\Dp K H d (.ref p)/\d.hasDict=false/\d.showable=true/\d.depth<=60/\d.shown.length<=sizeLine/\Q (.str d.shown) H
theorem z6l(hg:X.A.guards=some [])(hu:X.A.units+64<cLine):CallR X (.builtin "repr") (rStr X.K):=by
 intro pins s σ H xs us Q I r h
 obtain⟨p,d,rfl,hd,h1,h2,h3,h4,q⟩:=h
 obtain⟨u,rfl,r1⟩:=z3N r
 cases r1
 obtain⟨as,ra⟩:=hd.reads I _ _ _ rfl
 exact repr_of_reads' ra h2 (fun e=>by rw[h1] at e;cases e) hg (by lia) (fun _ _ h=>h) (fun h' u tk k=>⟨.str d.shown,H,I.kept k,⟨_,rfl⟩,q⟩) h4
end
section
variable{X:Cx}{tg:Expr}
noncomputable def Rg3(i j c:Int):Prop:=c≠0/\c.natAbs<1073741824/\Builtin.Range.small i j c=true/\0<=Builtin.Range.rangeSize i j c
instance(i j c:Int):Decidable (Rg3 i j c):=by unfold Rg3;infer_instance
end
end L2
namespace Mi
open PySem L2
structure ItK where
 k:Nat
 at':Nat->List (Option D)->Option (Option D)
 len:List (Option D)->Nat
noncomputable def zcC(i:Nat):List (Option D)->Option (Option D)
 |some c::_=>(lstD c).map fun ds=>ds[i]?
 |_=>none
noncomputable def z93(i:Nat):List (Option D)->Option (Option D)
 |some (.tup ds)::_=>some ds[i]?
 |_=>none
noncomputable def z7k:List (Option D)->Nat
 |some (.tup ds)::_=>ds.length
 |some (.lst _ ds)::_=>ds.length
 |some (.ro ds)::_=>ds.length
 |_=>0
noncomputable def kLst:ItK:=⟨1,zcC,z7k⟩
noncomputable def kTup:ItK:=⟨1,z93,z7k⟩
noncomputable def kRng(lo:Int)(n:Nat):ItK:=⟨0,fun i _=>some (if i<n then some (.int (lo+i)) else none),fun _=>n⟩
noncomputable def Stt.popn(s:Stt)(k:Nat):Stt:={s with tm:=s.tm.drop k}
section
variable{X:Cx}{G:Gx}{F:Fy}{e a b c tg iter:Expr}{pos:Pos}
theorem MR.popn{F:Fx}{ρ:Nat->Addr}{H:Hp}{σv tvs tv:List (Option V)}{s:Stt}(M:MR G F ρ H σv (tvs++tv) s):MR G F ρ H σv tv (s.popn tvs.length):=by
 have sub: ∀l∈z0q (s.popn tvs.length),l∈z0q s:=fun l h=>by
  rcases List.mem_append.mp h with h|h
  ·exact List.mem_append_left _ h
  ·refine List.mem_append_right _ ?_
   have e:=z08 (s.tm.take tvs.length) (s.tm.drop tvs.length)
   rw[List.take_append_drop] at e
   rw[e]
   exact List.mem_append_right _ h
 exact⟨M.sl,(Sl.split tvs M.tm).2,M.inj,M.dom,fun l h=>M.lab l (sub l h),fun l h=>M.own l (sub l h),M.frm,M.kd,M.frb,M.bas⟩
noncomputable def ItOK(G:Gx)(J:It)(K:ItK)(tvs:List (Option V)):Prop:= ∀(F:Fx) ρ H σv tvp tv s i,MR G F ρ H σv (tvp++(tvs++tv)) s->match K.at' i (s.tm.drop tvp.length) with
 |none=>True
 |some none=>J.stop i H
 |some (some d)=>J.go i H/\∀x H',J.yld i H x H'->MRL G F ρ H' σv (tvp++(tvs++tv)) s [d] [x]
noncomputable def tI(G:Gx)(F:Fy)(m:M ItK):TI:=fun σv H R=> ∃tv,F.tv0<:+tv/\∃ρ s,MR G F.toFx ρ H σv tv s/\match m s with
 | .ok K s'=> ∀ρ' H' tvs J,tvs.length=K.k->MR G F.toFx ρ' H' σv (tvs++tv) s'->ItOK G J K tvs->R J H'
 | .ex d s'=>F.xw d s'
 | .no=>False
noncomputable def SI(X:Cx)(G:Gx)(F:Fy)(tg iter:Expr)(m:M ItK):Prop:=PI X tg iter (tI G F m)
theorem PI.imp0{w w':TI}(h:PI X tg iter w)(hi: ∀σ H R,w' σ H R->w σ H R):PI X tg iter w':=fun pins s σ H R I q=>h pins s σ H R I (hi σ H R q)
noncomputable def iSeq(K:W.Frag)(tl:TE):TI:=fun σ H R=>tl σ H fun x H1=> ∃a,x= .ref a/\(((∃xs,SqL K H1 a xs)/\R (Itl K a) H1)\/((∃xs,SqT K H1 a xs)/\R (Itt K a) H1))
theorem zcD{l:Expr}{tl:TE}(hl:PE X l tl):PI X tg l (iSeq X.K tl):=by
 intro pins s σ H R I h
 refine thn (hl pins s σ H _ I h) fun v s1 ⟨x,H1,I1,r1,q1⟩=> ?_
 obtain⟨a,e,q|q⟩:=q1
 ·subst e
  cases r1
  obtain⟨⟨xs,hq⟩,q⟩:=q
  obtain⟨its,rv,p,hz⟩:=I1.list hq
  refine wpAny_pyIter_list p.isList ?_
  refine⟨s1.heap.objs.size,[s1.heap.objs.size],_,_,H1,rfl,I1.kept (t':=s1.toks) fun b o e=>Heap.get?_push_of_some _ e,z6O a _,⟨_,Heap.get?_push_size _ rfl,rfl,rfl⟩,fun b hb=> ?_,q⟩
  have e:b=s1.heap.objs.size:=by simpa using hb
  subst e
  exact I1.fpOk (Nat.le_refl _) (I1.hok.fresh (Nat.le_refl _))
 ·subst e
  cases r1
  obtain⟨⟨xs,hq⟩,q⟩:=q
  obtain⟨its,rv,p,hz⟩:=I1.tuple hq
  refine wpAny_pyIter_tuple (show s1.heap.IsTuple a its.toArray from p) ?_
  refine⟨s1.heap.objs.size,[s1.heap.objs.size],_,_,H1,rfl,I1.kept (t':=s1.toks) fun b o e=>Heap.get?_push_of_some _ e,z66 a _,⟨_,Heap.get?_push_size _ rfl,rfl,rfl⟩,fun b hb=> ?_,q⟩
  have e:b=s1.heap.objs.size:=by simpa using hb
  subst e
  exact I1.fpOk (Nat.le_refl _) (I1.hok.fresh (Nat.le_refl _))
noncomputable def z1h(m:M D):M ItK:=bd m fun d s=>match d with
 | .tup _=> .ok kTup (s.psh d)
 | .lst _ _=> .ok kLst (s.psh d)
 | .ro _=> .ok kLst (s.psh d)
 |_=> .no
theorem SqT.two{K:W.Frag}{H:Hp}{a:Addr}{xs ys:List V}(k:KD K H)(h:SqT K H a xs)(h':SqT K H a ys):xs=ys:=by
 rcases h with(h|⟨o,h⟩)|⟨o,its,n,h,_,hd,_,r⟩<;>rcases h' with(h'|⟨o',h'⟩)|⟨o',its',n',h',_,hd',_,r'⟩
 ·rw[h] at h';cases h';rfl
 ·rw[h] at h';cases h'
 ·rw[k _ _ h'] at h;cases h
 ·rw[h] at h';cases h'
 ·rw[h] at h';cases h';rfl
 ·rw[k _ _ h'] at h;cases h
 ·rw[k _ _ h] at h';cases h'
 ·rw[k _ _ h] at h';cases h'
 ·rw[h] at h';cases h';rw[hd] at hd';cases hd';exact r.inj r'
theorem SqL.two{K:W.Frag}{H:Hp}{a:Addr}{xs ys:List V}(k:KD K H)(h:SqL K H a xs)(h':SqL K H a ys):xs=ys:=by
 rcases h with(h|⟨o,h⟩)|⟨o,its,n,h,_,_,hd,_,r⟩<;>rcases h' with(h'|⟨o',h'⟩)|⟨o',its',n',h',_,_,hd',_,r'⟩
 ·rw[h] at h';cases h';rfl
 ·rw[h] at h';cases h'
 ·rw[k _ _ h'] at h;cases h
 ·rw[h] at h';cases h'
 ·rw[h] at h';cases h';rfl
 ·rw[k _ _ h'] at h;cases h
 ·rw[k _ _ h] at h';cases h'
 ·rw[k _ _ h] at h';cases h'
 ·rw[h] at h';cases h';rw[hd] at hd';cases hd';exact r.inj r'
theorem MR.head{F:Fx}{ρ:Nat->Addr}{H:Hp}{σv tv:List (Option V)}{s:Stt}{v:V}{c:D}{r:List (Option D)}(M:MR G F ρ H σv (some v::tv) s)(e:s.tm=some c::r):RD G ρ H c v/\LB F ρ s.n (labs c):=by
 obtain⟨σ,tm,n⟩:=s
 have e:tm=some c::r:=e
 subst e
 exact⟨MR.top (s:=⟨σ,r,n⟩) M,MR.topl (s:=⟨σ,r,n⟩) M⟩
theorem z5H{a:Addr}:ItOK G (Itl G.K a) kLst [some (.ref a)]:=by
 intro F ρ H σv tvp tv s i M
 dsimp only[kLst]
 cases e:s.tm.drop tvp.length with
 |nil=>trivial
 |cons o r=>
  cases o with
  |none=>trivial
  |some c=>
   simp only[zcC]
   obtain⟨h,lb⟩:=MR.head (s:=s.popn tvp.length) M.popn e
   cases e1:lstD c with
   |none=>trivial
   |some ds=>
    simp only[Option.map_some]
    obtain⟨a',xs,ea,sq,rr,sub⟩:=h.lstq e1
    cases ea
    cases e2:ds[i]? with
    |none=>
     refine⟨xs,sq, ?_⟩
     rw[<-rr.length]
     exact List.getElem?_eq_none_iff.mp e2
    |some d=>
     obtain⟨x,ex,rx⟩:=rr.get i d e2
     refine⟨⟨xs,x,sq,ex⟩, ?_⟩
     rintro x' H' ⟨rfl,hx⟩
     rw[hx xs sq] at ex
     cases ex
     exact⟨M,RDs.one rx,fun l hl=>lb l (sub l (labsL_mem (List.mem_of_getElem? e2) l (by simpa only[labsL,List.append_nil] using hl)))⟩
theorem z94{a:Addr}:ItOK G (Itt G.K a) kTup [some (.ref a)]:=by
 intro F ρ H σv tvp tv s i M
 dsimp only[kTup]
 cases e:s.tm.drop tvp.length with
 |nil=>trivial
 |cons o r=>
  cases o with
  |none=>trivial
  |some c=>
   obtain⟨h,lb⟩:=MR.head (s:=s.popn tvp.length) M.popn e
   cases c with
   |tup ds=>
    simp only[z93]
    obtain⟨a',xs,ea,sq,rr⟩:=h.tupq
    cases ea
    cases e2:ds[i]? with
    |none=>
     refine⟨xs,sq, ?_⟩
     rw[<-rr.length]
     exact List.getElem?_eq_none_iff.mp e2
    |some d=>
     obtain⟨x,ex,rx⟩:=rr.get i d e2
     refine⟨⟨xs,x,sq,ex⟩, ?_⟩
     rintro x' H' ⟨rfl,hx⟩
     rw[hx xs sq] at ex
     cases ex
     exact⟨M,RDs.one rx,fun l hl=>lb l (by simp only[labs];exact labsL_mem (List.mem_of_getElem? e2) l (by simpa only[labsL,List.append_nil] using hl))⟩
   |_=>trivial
theorem si_seq{m:M D}(hk:X.K=G.K)(h:SE X G F e m):SI X G F tg e (z1h m):=by
 refine PI.imp0 (zcD h) fun σ H R ⟨tv,hs,ρ,s,M,W⟩=>⟨tv,hs,ρ,s,M, ?_⟩
 unfold z1h bd at W
 cases e:m s with
 |ex d s1=>rw[e] at W;exact W
 |no=>rw[e] at W;exact W
 |ok t s1=>
  rw[e] at W
  intro ρ1 v H1 M1
  rw[hk]
  cases t with
  |tup ds=>
   obtain⟨a,xs,rfl,sq,r⟩:=M1.rd1.tupq
   exact⟨a,rfl, .inr ⟨⟨xs,sq⟩,W ρ1 H1 [some (.ref a)] _ rfl M1.push z94⟩⟩
  |lst n ds=>
   obtain⟨a,xs,rfl,sq,r,_⟩:=M1.rd1.lstq (ds:=ds) rfl
   exact⟨a,rfl, .inl ⟨⟨xs,sq⟩,W ρ1 H1 [some (.ref a)] _ rfl M1.push z5H⟩⟩
  |ro ds=>
   obtain⟨a,xs,rfl,sq,r,_⟩:=M1.rd1.lstq (ds:=ds) rfl
   exact⟨a,rfl, .inl ⟨⟨xs,sq⟩,W ρ1 H1 [some (.ref a)] _ rfl M1.push z5H⟩⟩
  |_=>exact False.elim W
noncomputable def rng1(ts:List D):M ItK:=match ts with
 |[.int j]=>if -(2^62)<=j/\j<2^62 then rt (kRng 0 j.toNat) else fl
 |_=>fl
noncomputable def z0B(ms:List (M D)):M ItK:=bd (z0c ms) rng1
theorem z95{lo:Int}{n:Nat}:ItOK G (Itr lo n) (kRng lo n) []:=by
 intro F ρ H σv tvp tv s i M
 simp only[kRng]
 by_cases h:i<n
 ·rw[if_pos h]
  refine⟨h, ?_⟩
  rintro x H' ⟨rfl,rfl⟩
  exact⟨M,RDs.one (by simp only[RD]),fun l hl=>by simp[labsL,labs] at hl⟩
 ·rw[if_neg h]
  exact Nat.not_lt.mp h
theorem si_rng1{p:Pos}{ms:List (M D)}(hg:Gl X "range")(hm:X.mg "range" =none)(ha:SA X G F [a] (z0c ms))(hs:starEach [a] X.env=[(false,eval a X.env)]:=by rfl):SI X G F tg (.Call (.Name "range" p) [a] [] pos) (z0B ms):=by
 refine PI.imp0 (z6P hg hm ha hs) fun σ H R ⟨tv,hs,ρ,s,M,W⟩=>⟨tv,hs,ρ,s,M, ?_⟩
 unfold z0B bd at W
 cases e:z0c ms s with
 |ex d s1=>rw[e] at W;exact W
 |no=>rw[e] at W;exact W
 |ok ts s1=>
  rw[e] at W
  intro ρ1 vs H1 M1
  unfold rng1 at W
  dsimp only at W
  split at W
  ·rename_i ts' j K s' hh
   split at hh
   ·split at hh
    ·rename_i j' hc
     cases hh
     obtain⟨v,rfl,h,_⟩:=M1.one
     simp only[RD] at h
     subst h
     exact⟨j',rfl,hc.1,hc.2,W ρ1 H1 [] _ rfl M1.m z95⟩
    ·cases hh
   ·cases hh
  ·rename_i hh
   split at hh
   ·split at hh<;>cases hh
   ·cases hh
  ·exact False.elim W
noncomputable def forGo(K:ItK)(g:Tg)(b:MS):Nat->Nat->MS
 |f,i=>fun s=>match K.at' i s.tm with
  |none=> .no
  |some none=> .nx (s.popn K.k)
  |some (some d)=>match f with
   |0=> .no
   |f+1=>match asg g d s.σ with
    |none=> .no
    |some σ'=>match b {s with σ:=σ'} with
     | .nx s'=>forGo K g b f (i+1) s'
     | .ct s'=>forGo K g b f (i+1) s'
     | .bk s'=> .nx (s'.popn K.k)
     | .rt t s'=> .rt t (s'.popn K.k)
     | .ex d s'=> .ex d s'
     | .no=> .no
noncomputable def sFor(mi:M ItK)(g:Tg)(b:MS):MS:=lift mi fun K s=>forGo K g b (K.len s.tm) 0 s
theorem MRL.popn{ρ:Nat->Addr}{H:Hp}{σv tvs tv:List (Option V)}{s:Stt}{ts:List D}{vs:List V}(M:MRL G F.toFx ρ H σv (tvs++tv) s ts vs):MRL G F.toFx ρ H σv tv (s.popn tvs.length) ts vs:=⟨M.m.popn,M.rd,M.lb⟩
theorem suf2{tvs tv:List (Option V)}(h:F.tv0<:+tv):F.tv0<:+tvs++tv:=h.trans (List.suffix_append _ _)
theorem z7l{m:M ItK}{f:ItK->MS}{tv:List (Option V)}{D:Ends}{σ:St}{H:Hp}{R:It->Hp->Prop}(h:tSv G F (lift m f) tv D σ H)
 (k: ∀K ρ' H' tvs J s',tvs.length=K.k->MR G F.toFx ρ' H' σ (tvs++tv) s'->ItOK G J K tvs->wS G F tv (f K s') D->R J H'):tI G F m σ H R:=by
 obtain⟨hs,ρ,s,M,W⟩:=h
 refine⟨tv,hs,ρ,s,M, ?_⟩
 unfold lift at W
 cases e:m s with
 |ok K s1=>rw[e] at W;exact fun ρ' H' tvs J hl M' hok=>k K ρ' H' tvs J s1 hl M' hok W
 |ex d s1=>rw[e] at W;exact W
 |no=>rw[e] at W;exact W
theorem ss_for{body:List Stmt}{mi:M ItK}{g:Tg}{mb:MS}(hp:PassesOwn (model X.prog X.w) X.A X.env X.xe)(hc:X.calm=true)(hi:SI X G F tg iter mi)(hg:SG X G F tg g)(hb:SSs X G F body mb)(hst: ∀x,foldedSetIterable iter X.env x=pure x:=by intro _;rfl):SS X G F (.For tg iter body [] pos) (sFor mi g mb):=by
 refine PS.imp0 (zbR hp hc hi hg hb hst) fun D σ H ⟨tv,h⟩=>z7l h fun K ρ' H' tvs J s' hl M' hok W=> ?_
 have hs:=h.1
 refine⟨fun i m σ H=> ∃ρ s,MR G F.toFx ρ H σ (tvs++tv) s/\wS G F tv (forGo K g mb m i s) D,⟨_,ρ',s',M',W⟩, ?_⟩
 rintro i m σ H ⟨ρ,s,M,W⟩
 have ok:=hok F.toFx ρ H σ [] tv s i M
 simp only[List.length_nil,List.drop_zero,List.nil_append] at ok
 unfold forGo at W
 cases e:K.at' i s.tm with
 |none=>simp only[e] at W;exact False.elim W
 |some o=>
  cases o with
  |none=>
   simp only[e] at W ok
   refine .inl ⟨ok,W ρ σ H ?_⟩
   rw[<-hl]
   exact M.popn
  |some d=>
   simp only[e] at W ok
   cases m with
   |zero=>exact False.elim W
   |succ f=>
    dsimp only at W
    cases e2:asg g d s.σ with
    |none=>simp only[e2] at W;exact False.elim W
    |some σ'=>
     simp only[e2] at W
     refine .inr ⟨ok.1,fun σ H=> ∃ρ s,MR G F.toFx ρ H σ (tvs++tv) s/\wS G F tv (forGo K g mb f (i+1) s) D,fun σ' H' q=>⟨f,Nat.lt_succ_self _,q⟩,fun x H2 y=> ?_⟩
     refine⟨tvs++tv,ρ,s,d,ok.2 x H2 y,σ',e2,fun σv' M2=>⟨tvs++tv,suf2 hs,ρ,_,M2, ?_⟩⟩
     cases e3:mb {s with σ:=σ'} with
     |nx s2=>simp only[e3] at W;exact fun ρ3 σ3 H3 M3=>⟨ρ3,s2,M3,W⟩
     |ct s2=>simp only[e3] at W;exact fun ρ3 σ3 H3 M3=>⟨ρ3,s2,M3,W⟩
     |bk s2=>simp only[e3] at W;exact fun ρ3 σ3 H3 M3=>W ρ3 σ3 H3 (by rw[<-hl];exact M3.popn)
     |rt t s2=>simp only[e3] at W;exact fun ρ3 σ3 v H3 M3=>W ρ3 σ3 v H3 (by rw[<-hl];exact M3.popn)
     |ex d s2=>simp only[e3] at W;exact W
     |no=>simp only[e3] at W;exact W
end
noncomputable def z0a:List (Option D)->Option (List D)
 |[]=>some []
 |some d::r=>(z0a r).map (d:: ·)
 |none::_=>none
noncomputable def z0U(K:ItK)(g:Tg)(mt:M Bool)(me:M D)(ol:Nat):Nat->Nat->Nat->M D
 |f,i,k=>fun s=>match K.at' i (s.tm.drop (k+ol)) with
  |none=> .no
  |some none=>match z0a (s.tm.take k).reverse with
   |some ds=> .ok (.lst s.n ds) {σ:=(s.tm.drop k).take ol,tm:=s.tm.drop (k+ol+K.k),n:=s.n+1}
   |none=> .no
  |some (some d)=>match f with
   |0=> .no
   |f+1=>match asg g d s.σ with
    |none=> .no
    |some σ'=>match mt {s with σ:=σ'} with
     | .ok false s1=>z0U K g mt me ol f (i+1) k s1
     | .ok true s1=>if k<sizeLine then match me s1 with
      | .ok y s2=>z0U K g mt me ol f (i+1) (k+1) (s2.psh y)
      |_=> .no
      else .no
     |_=> .no
noncomputable def z2W(own:Nat)(ix:List Nat)(s:Stt):Stt:={σ:=List.replicate own none++ix.map (fun i=>(s.σ[i]?).getD none),tm:=s.σ++s.tm,n:=s.n}
noncomputable def z0s(mi:M ItK)(g:Tg)(mt:M Bool)(me:M D)(own:Nat)(ix:List Nat):M D:=bd mi fun K s=>z0U K g mt me s.σ.length (K.len s.tm) 0 0 (z2W own ix s)
section
variable{X:Cx}{G:Gx}{F:Fy}{e a b c tg iter elt:Expr}{pos:Pos}
noncomputable def Fy.prot(F:Fy)(D:Addr)(ys:List V)(h:F.H0 D=none):Fy where
 A0:=F.A0
 H0:=upd F.H0 D (.lst ys)
 Z:=fun a=>a=D\/F.Z a
 zA:=fun a z=>by
  rcases z with rfl|z
  ·exact⟨⟨_,z07⟩,fun q=>by obtain⟨o,e⟩:=F.aH _ q;rw[h] at e;cases e⟩
  ·obtain⟨⟨o,e⟩,n⟩:=F.zA a z
   exact⟨⟨o,by rw[z04 (z0u e h)];exact e⟩,n⟩
 aH:=fun a q=>by
  obtain⟨o,e⟩:=F.aH a q
  exact⟨o,by rw[z04 (z0u e h)];exact e⟩
 n0:=F.n0
 ρ0:=F.ρ0
 tv0:=[]
 xw:=fun _ _=>False
theorem Sl.none_map{ρ:Nat->Addr}{H:Hp}: ∀k:Nat,Sl G ρ H (List.replicate k none) (List.replicate k none)
 |0=>by simp[Sl]
 |k+1=>by simp only[List.replicate_succ,Sl];exact⟨_,_,rfl,Sl.none_map k⟩
theorem Sl.pick{ρ:Nat->Addr}{H:Hp}{σ:List (Option D)}{σv:List (Option V)}(h:Sl G ρ H σ σv): ∀ix:List Nat,Sl G ρ H (ix.map fun i=>(σ[i]?).getD none) (ix.map fun i=>(σv[i]?).getD none)
 |[]=>by simp[Sl]
 |i::ix=>by
  simp only[List.map_cons]
  cases e:σ[i]? with
  |none=>simp only[Option.getD_none,Sl];exact⟨_,_,rfl,Sl.pick h ix⟩
  |some o=>
   cases o with
   |none=>simp only[Option.getD_some,Sl];exact⟨_,_,rfl,Sl.pick h ix⟩
   |some d=>
    obtain⟨v,e1,r⟩:=h.get i d e
    simp only[Option.getD_some,Sl,e1]
    exact⟨_,_,rfl,r,Sl.pick h ix⟩
theorem z1F{σ:List (Option D)}{l:Nat}: ∀{ix:List Nat},l∈z05 (ix.map fun i=>(σ[i]?).getD none)->l∈z05 σ
 |[],h=>by simp[z05] at h
 |i::ix,h=>by
  simp only[List.map_cons] at h
  cases e:σ[i]? with
  |none=>rw[e] at h;simp only[Option.getD_none,z05] at h;exact z1F h
  |some o=>
   rw[e] at h
   cases o with
   |none=>simp only[Option.getD_some,z05] at h;exact z1F h
   |some d=>
    simp only[Option.getD_some,z05] at h
    rcases List.mem_append.mp h with h|h
    ·exact z24 e l h
    ·exact z1F h
theorem z26{l:Nat}: ∀k:Nat,¬l∈z05 (List.replicate k (none:Option D))
 |0,h=>by simp[z05] at h
 |k+1,h=>by simp only[List.replicate_succ,z05] at h;exact z26 k h
theorem MR.enter{ρ:Nat->Addr}{H:Hp}{σv tv:List (Option V)}{s:Stt}{D:Addr}(M:MR G F.toFx ρ H σv tv s)(hD:H D=none)(k:KD G.K (upd H D (.lst [])))(own:Nat)(ix:List Nat):
 MR G (F.prot D [] (M.fresh0 hD)).toFx ρ (upd H D (.lst [])) (z1j own ix σv) (σv++tv) (z2W own ix s):=by
 have sm:=Same.new (.lst []) hD
 have M1:=M.same sm k
 have nD: ∀l,l<s.n->ρ l≠D:=fun l hl e=>by
  obtain⟨o,q⟩:=M.dom l hl
  rw[e,hD] at q;cases q
 have sub: ∀l∈z0q (z2W own ix s),l∈z0q s:=fun l h=>by
  rcases List.mem_append.mp h with h|h
  ·have h:l∈z05 (List.replicate own none++ix.map (fun i=>(s.σ[i]?).getD none)):=h
   rw[z08] at h
   rcases List.mem_append.mp h with h|h
   ·exact absurd h (z26 own)
   ·exact List.mem_append_left _ (z1F h)
  ·have h:l∈z05 (s.σ++s.tm):=h
   rw[z08] at h
   exact h
 refine⟨?_,M1.sl.append M1.tm,M1.inj,M1.dom,fun l h=>M.lab l (sub l h),fun l h=> ?_,fun a o e=> ?_,k,fun l hl z=> ?_,M.bas⟩
 ·exact(Sl.none_map own).append (M1.sl.pick ix)
 ·rcases M.own l (sub l h) with q|q
  ·exact .inl q
  ·refine .inr ?_
   show upd F.H0 D (.lst []) (ρ l)=none
   rw[z04 (nD l (M.lab l (sub l h)))];exact q
 ·have e:upd F.H0 D (.lst []) a=some o:=e
  by_cases ha:a=D
  ·subst ha
   rw[z07] at e;cases e
   exact⟨⟨_,z07⟩,fun _=>z07⟩
  ·rw[z04 ha] at e
   exact M1.frm a o e
 ·rcases z with z|z
  ·exact nD l hl z
  ·exact M.frb l hl z
theorem MR.turnD{ρ:Nat->Addr}{H:Hp}{σv tv:List (Option V)}{s:Stt}{D:Addr}{ys ys':List V}{hf:F.H0 D=none}(M:MR G (F.prot D ys hf).toFx ρ H σv tv s):
 H D=some (.lst ys)/\MR G (F.prot D ys' hf).toFx ρ (upd H D (.lst ys')) σv tv s:=by
 have hD:H D=some (.lst ys):=(M.frm D (.lst ys) z07).2 ((F.prot D ys hf).zA D (.inl rfl)).2
 have nD: ∀l,l<s.n->ρ l≠D:=fun l hl e=>M.frb l hl (.inl e)
 have st:z0J H (upd H D (.lst ys')):=⟨fun b xs e=>by rw[z04 (z3j e hD (by intro z;cases z))];exact e,fun b o u e=>by rw[z04 (z3j e hD (by intro z;cases z))];exact e⟩
 refine⟨hD,⟨Sl.stay st M.sl fun l hl=>⟨rfl,fun o e=> ?_⟩,Sl.stay st M.tm fun l hl=>⟨rfl,fun o e=> ?_⟩,M.inj,fun l hl=> ?_,M.lab,fun l h=> ?_,fun a o e=> ?_,fun a o e=> ?_,fun l hl=>M.frb l hl,M.bas⟩⟩
 ·rw[z04 (nD l (M.lab l (List.mem_append_left _ hl)))];exact e
 ·rw[z04 (nD l (M.lab l (List.mem_append_right _ hl)))];exact e
 ·rw[z04 (nD l hl)];exact M.dom l hl
 ·rcases M.own l h with q|q
  ·exact .inl q
  ·refine .inr ?_
   have q:upd F.H0 D (.lst ys) (ρ l)=none:=q
   show upd F.H0 D (.lst ys') (ρ l)=none
   rw[z04 (nD l (M.lab l h))] at q⊢;exact q
 ·have e:upd F.H0 D (.lst ys') a=some o:=e
  by_cases ha:a=D
  ·subst ha
   rw[z07] at e;cases e
   exact⟨⟨_,z07⟩,fun _=>z07⟩
  ·rw[z04 ha] at e⊢
   exact M.frm a o (by show upd F.H0 D (.lst ys) a=some o;rw[z04 ha];exact e)
 ·by_cases ha:a=D
  ·subst ha
   rw[M.kd a o e] at hD;cases hD
  ·rw[z04 ha];exact M.kd a o e
theorem Sl.all{ρ:Nat->Addr}{H:Hp}: ∀{tm:List (Option D)} {ys:List V} {ds:List D},Sl G ρ H tm (ys.map some)->z0a tm=some ds->RDs G ρ H ds ys/\labsL ds=z05 tm
 |[],ys,ds,h,e=>by
  simp only[Sl] at h
  simp only[z0a,Option.some.injEq] at e
  subst e
  have:ys=[]:=by simpa using h
  subst this
  simp[RDs,labsL,z05]
 |none::r,ys,ds,h,e=>by simp only[z0a] at e;cases e
 |some d::r,ys,ds,h,e=>by
  simp only[Sl] at h
  obtain⟨v,q,e1,h1,h2⟩:=h
  cases ys with
  |nil=>cases e1
  |cons y ys=>
   simp only[List.map_cons,List.cons.injEq,Option.some.injEq] at e1
   obtain⟨rfl,rfl⟩:=e1
   simp only[z0a] at e
   cases e2:z0a r with
   |none=>rw[e2] at e;cases e
   |some es=>
    rw[e2] at e
    cases e
    obtain⟨r1,r2⟩:=Sl.all h2 e2
    refine⟨?_,by simp only[labsL,z05,r2]⟩
    simp only[RDs]
    exact⟨_,_,rfl,h1,r1⟩
theorem Sl.reverse{ρ:Nat->Addr}{H:Hp}: ∀{tm:List (Option D)} {ys:List (Option V)},Sl G ρ H tm ys->Sl G ρ H tm.reverse ys.reverse
 |[],ys,h=>by simp only[Sl] at h;subst h;simp[Sl]
 |none::r,ys,h=>by
  simp only[Sl] at h
  obtain⟨o,q,rfl,h⟩:=h
  rw[List.reverse_cons,List.reverse_cons]
  exact(Sl.reverse h).append (by simp only[Sl];exact⟨_,_,rfl,rfl⟩)
 |some d::r,ys,h=>by
  simp only[Sl] at h
  obtain⟨o,q,rfl,h1,h⟩:=h
  rw[List.reverse_cons,List.reverse_cons]
  exact(Sl.reverse h).append (by simp only[Sl];exact⟨_,_,rfl,h1,rfl⟩)
theorem z2X{l:Nat}: ∀{tm:List (Option D)},l∈z05 tm.reverse↔l∈z05 tm
 |[]=>by simp
 |none::r=>by
  rw[List.reverse_cons,z08]
  simp only[z05,List.append_nil]
  exact z2X
 |some d::r=>by
  rw[List.reverse_cons,z08]
  simp only[z05,List.append_nil,List.mem_append]
  rw[z2X]
  exact Or.comm
theorem MR.leave{ρ:Nat->Addr}{H:Hp}{σi σv tvs tv:List (Option V)}{s:Stt}{A1:Addr}{ys:List V}{hf:F.H0 A1=none}{ds:List D}{kk:Nat}
 (M:MR G (F.prot A1 ys hf).toFx ρ H σi ((ys.reverse.map some)++(σv++(tvs++tv))) s) (hk:tvs.length=kk) (ol:Nat) (ho:σv.length=ol) (e:z0a (s.tm.take ys.length).reverse=some ds):
 MRL G F.toFx (ext ρ s.n A1) H σv tv {σ:=(s.tm.drop ys.length).take ol,tm:=s.tm.drop (ys.length+ol+kk),n:=s.n+1} [.lst s.n ds] [.ref A1]:=by
 subst hk ho
 have hD:=(MR.turnD (ys':=ys) M).1
 have nD: ∀l,l<s.n->ρ l≠A1:=fun l hl e=>M.frb l hl (.inl e)
 have t0:=Sl.split (ys.reverse.map some) M.tm
 simp only[List.length_map,List.length_reverse] at t0
 obtain⟨t1,t2⟩:=t0
 obtain⟨t3,t4⟩:=Sl.split σv t2
 obtain⟨_,t6⟩:=Sl.split tvs t4
 rw[List.drop_drop] at t4
 rw[List.drop_drop,List.drop_drop] at t6
 have t6':Sl G ρ H (s.tm.drop (ys.length+σv.length+tvs.length)) tv:=by rw[Nat.add_assoc];exact t6
 have t1':=t1.reverse
 rw[<-List.map_reverse,List.reverse_reverse] at t1'
 obtain⟨r1,r2⟩:=Sl.all t1' e
 have lt: ∀l,l∈z05 (s.tm.take ys.length)->l∈z0q s:=fun l h=>List.mem_append_right _ (by
  have e:=z08 (s.tm.take ys.length) (s.tm.drop ys.length)
  rw[List.take_append_drop] at e
  rw[e];exact List.mem_append_left _ h)
 have ld: ∀l k,l∈z05 (s.tm.drop k)->l∈z0q s:=fun l k h=>List.mem_append_right _ (by
  have e:=z08 (s.tm.take k) (s.tm.drop k)
  rw[List.take_append_drop] at e
  rw[e];exact List.mem_append_right _ h)
 have ldt: ∀l k j,l∈z05 ((s.tm.drop k).take j)->l∈z0q s:=fun l k j h=>ld l k (by
  have e:=z08 ((s.tm.drop k).take j) ((s.tm.drop k).drop j)
  rw[List.take_append_drop] at e
  rw[e];exact List.mem_append_left _ h)
 have own: ∀l∈z0q s,F.A0 (ρ l)\/F.H0 (ρ l)=none:=fun l h=>by
  rcases M.own l h with q|q
  ·exact .inl q
  ·refine .inr ?_
   have q:upd F.H0 A1 (.lst ys) (ρ l)=none:=q
   rw[z04 (nD l (M.lab l h))] at q;exact q
 have st:=z0J.refl H
 have stay: ∀l,l<s.n->ext ρ s.n A1 l=ρ l/\∀o,H (ρ l)=some o->H (ρ l)=some o:=fun l hl=>⟨z0i hl,fun o e=>e⟩
 have all: ∀l∈z0q {σ:=(s.tm.drop ys.length).take σv.length,tm:=s.tm.drop (ys.length+σv.length+tvs.length),n:=s.n+1},l∈z0q s:=fun l h=>by
  rcases List.mem_append.mp h with h|h
  ·exact ldt l _ _ h
  ·exact ld l _ h
 have dsl: ∀l∈labsL ds,l∈z0q s:=fun l h=>lt l (by rw[r2] at h;exact z2X.mp h)
 refine⟨⟨Sl.stay st t3 fun l hl=>stay l (M.lab l (ldt l _ _ hl)),Sl.stay st t6' fun l hl=>stay l (M.lab l (ld l _ hl)),fun i j hi hj eq=> ?_,fun l hl=> ?_,fun l h=>Nat.lt_succ_of_lt (M.lab l (all l h)),fun l h=> ?_,fun a o e=> ?_,M.kd,fun l hl z=> ?_,⟨Nat.le_succ_of_le M.bas.1,fun l hl=>by rw[z0i (Nat.lt_of_lt_of_le hl M.bas.1)];exact M.bas.2 l hl⟩⟩, ?_,fun l h=> ?_⟩
 ·have hi:i<s.n+1:=hi
  have hj:j<s.n+1:=hj
  by_cases h1:i=s.n
  ·by_cases h2:j=s.n
   ·lia
   ·rw[h1,z0E,z0i (by lia)] at eq
    exact absurd eq.symm (nD j (by lia))
  ·by_cases h2:j=s.n
   ·rw[h2,z0E,z0i (by lia)] at eq
    exact absurd eq (nD i (by lia))
   ·rw[z0i (by lia),z0i (by lia)] at eq
    exact M.inj i j (by lia) (by lia) eq
 ·have hl:l<s.n+1:=hl
  by_cases h1:l=s.n
  ·subst h1;rw[z0E];exact⟨_,hD⟩
  ·rw[z0i (by lia)];exact M.dom l (by lia)
 ·rw[z0i (M.lab l (all l h))];exact own l (all l h)
 ·exact M.frm a o (by show upd F.H0 A1 (.lst ys) a=some o;rw[z04 (z0u e hf)];exact e)
 ·have hl:l<s.n+1:=hl
  by_cases h1:l=s.n
  ·subst h1;rw[z0E] at z
   obtain⟨⟨o,e⟩,_⟩:=F.zA A1 z
   rw[hf] at e;cases e
  ·rw[z0i (by lia)] at z
   exact M.frb l (by lia) (.inr z)
 ·refine RDs.one ?_
  simp only[RD]
  rw[z0E]
  exact⟨rfl,ys,hD,RDs.stay st ds ys r1 fun l hl=>stay l (M.lab l (dsl l hl))⟩
 ·simp only[labsL,labs,List.append_nil] at h
  rcases List.mem_cons.mp h with q|q
  ·rw[q,z0E];exact⟨Nat.lt_succ_self _, .inr hf⟩
  ·have q2:=dsl l q
   exact⟨Nat.lt_succ_of_lt (M.lab l q2),by rw[z0i (M.lab l q2)];exact own l q2⟩
noncomputable def tMx(G:Gx)(m:M D):TE:=fun σ H Q=> ∃F:Fy,tM G F m σ H Q
noncomputable def tBx(G:Gx)(m:M Bool):TT:=fun σ H Q=> ∃F:Fy,tMB G F m σ H Q
noncomputable def tGx(G:Gx)(g:Tg):TG:=fun v σ H Q=> ∃F:Fy,tGn G F g v σ H Q
noncomputable def STs(X:Cx)(G:Gx)(F:Fy)(ifs:List Expr)(m:M Bool):Prop:=PTs X ifs (tMB G F m)
theorem sts_nil:STs X G F [] (rt true):=fun pins s σ H Q I ⟨tv,hs,ρ,ms,M,W⟩=>zaC pins s σ H Q I (W ρ H M)
theorem z5I{K:W.Frag}{k:Nat}{ix:List Nat}{mi:M ItK}{g:Tg}{mt:M Bool}{me:M D}{σ:St}{H:Hp}{Q:VK}(hk:K=G.K)(h:tM G F (z0s mi g mt me k ix) σ H Q):z5G K (tI G F mi) (tGx G g) (tBx G mt) (tMx G me) k ix σ H Q:=by
 obtain⟨tv,hsf,ρ,s,M,W⟩:=h
 refine⟨tv,hsf,ρ,s,M, ?_⟩
 unfold z0s bd at W
 cases em:mi s with
 |ex d s1=>rw[em] at W;exact W
 |no=>rw[em] at W;exact W
 |ok K s1=>
  rw[em] at W
  intro ρ1 H1 tvs J hl M1 hok A1 hA1 kd
  subst hk
  have kd:KD G.K (upd H1 A1 (.lst [])):=kd
  have hf:=M1.fresh0 hA1
  refine⟨fun i m ys σ' H'=> ∃ρ s,MR G (F.prot A1 ys hf).toFx ρ H' σ' ((ys.reverse.map some)++(σ++(tvs++tv))) s/\wM G F σ tv (z0U K g mt me s1.σ.length m i ys.length s) Q,⟨_,ρ1,_,M1.enter hA1 kd k ix,W⟩, ?_⟩
  rintro i m ys σ' H' ⟨ρ2,s2,M2,W2⟩
  have hD:=(MR.turnD (ys':=ys) M2).1
  refine⟨hD, ?_⟩
  have ol:s1.σ.length=σ.length:=M1.sl.length
  have ok:=hok (F.prot A1 ys hf).toFx ρ2 H' σ' ((ys.reverse.map some)++σ) tv s2 i (by rw[List.append_assoc];exact M2)
  simp only[List.length_append,List.length_map,List.length_reverse,<-ol,List.append_assoc] at ok
  unfold z0U at W2
  cases e:K.at' i (s2.tm.drop (ys.length+s1.σ.length)) with
  |none=>simp only[e] at W2;exact False.elim W2
  |some o=>
   rw[e] at ok
   cases o with
   |none=>
    simp only[e] at W2 ok
    refine .inl ⟨ok, ?_⟩
    cases ea:z0a (s2.tm.take ys.length).reverse with
    |none=>simp only[ea] at W2;exact False.elim W2
    |some ds=>
     simp only[ea] at W2
     exact W2 _ _ _ (MR.leave M2 hl _ ol.symm ea)
   |some d=>
    simp only[e] at W2 ok
    cases m with
    |zero=>exact False.elim W2
    |succ f=>
     dsimp only at W2
     cases e2:asg g d s2.σ with
     |none=>simp only[e2] at W2;exact False.elim W2
     |some σ3=>
      simp only[e2] at W2
      refine .inr ⟨ok.1,fun x H2 y=> ?_⟩
      have hx:=ok.2 x H2 y
      refine⟨F.prot A1 ys hf,_,ρ2,s2,d,hx,σ3,e2,fun σv' M3=>⟨F.prot A1 ys hf,_,List.nil_suffix,ρ2,_,M3, ?_⟩⟩
      cases e3:mt {s2 with σ:=σ3} with
      |ex d s4=>simp only[e3] at W2;exact False.elim W2
      |no=>simp only[e3] at W2;exact False.elim W2
      |ok b s4=>
       intro ρ4 H4 M4
       cases b with
       |false=>
        simp only[e3] at W2
        rw[if_neg Bool.false_ne_true]
        exact⟨f,Nat.lt_succ_self _,ρ4,s4,M4,W2⟩
       |true=>
        simp only[e3] at W2
        rw[if_pos rfl]
        by_cases hz:ys.length<sizeLine
        ·rw[if_pos hz] at W2
         refine⟨F.prot A1 ys hf,_,List.nil_suffix,ρ4,s4,M4, ?_⟩
         cases e5:me s4 with
         |ex d s5=>simp only[e5] at W2;exact False.elim W2
         |no=>simp only[e5] at W2;exact False.elim W2
         |ok y s5=>
          simp only[e5] at W2
          intro ρ5 v H5 M5
          obtain⟨hD5,M6⟩:=MR.turnD (ys':=ys++[v]) M5.push
          refine⟨hD5,hz,f,Nat.lt_succ_self _,ρ5,s5.psh y, ?_, ?_⟩
          ·rw[List.reverse_append,List.reverse_cons,List.reverse_nil,List.nil_append,List.map_append]
           exact M6
          ·rw[List.length_append];exact W2
        ·rw[if_neg hz] at W2;exact False.elim W2
theorem se_comp{scope:Scope}{own frees:List Str}{ix:List Nat}{ifs:List Expr}{mi:M ItK}{g:Tg}{mt:M Bool}{me:M D}(hk:X.K=G.K)(hc:X.calm=true)(S:z0j X.env.scope scope own frees X.N ix)(hi:SI X G F tg iter mi)
 (hg: ∀(F:Fy) cl C s₀ H₀ fp pn,SG (z09 X scope own frees cl C s₀ H₀ fp pn) G F tg g) (ht: ∀(F:Fy) cl C s₀ H₀ fp pn,STs (z09 X scope own frees cl C s₀ H₀ fp pn) G F ifs mt) (he: ∀(F:Fy) cl C s₀ H₀ fp pn,SE (z09 X scope own frees cl C s₀ H₀ fp pn) G F elt me)
 (hs: ∀x,foldedSetIterable iter X.env x=pure x:=by intro _;rfl):SE X G F (.ListComp elt [⟨tg,iter,ifs,0⟩] scope pos) (z0s mi g mt me own.length ix):=
 PE.imp0 (z4A (g:=tGx G g) (tt:=tBx G mt) (te:=tMx G me) hc S hi (fun cl C s₀ H₀ fp pn pins s σ H v u Q I r ⟨F',q⟩=>hg F' cl C s₀ H₀ fp pn pins s σ H v u Q I r q)
  (fun cl C s₀ H₀ fp pn pins s σ H Q I ⟨F',q⟩=>ht F' cl C s₀ H₀ fp pn pins s σ H Q I q) (fun cl C s₀ H₀ fp pn pins s σ H Q I ⟨F',q⟩=>he F' cl C s₀ H₀ fp pn pins s σ H Q I q) hs) fun σ H Q h=>z5I hk h
theorem ss_comp{y:Str}{py spos:Pos}{i:Nat}{scope:Scope}{own frees:List Str}{ix:List Nat}{ifs:List Expr}{mi:M ItK}{g:Tg}{mt:M Bool}{me:M D}(hk:X.K=G.K)(hN:X.N.Nodup)(hy:X.N[i]? =some y)(hx:Loc X.env.scope y)(hfn:X.fn y=true\/X.env.scope.names.lookup y=some .local)(hsw:swapsWith (.ListComp elt [⟨tg,iter,ifs,0⟩] scope pos) (some (.Name y py)) spos.line X.env=pure true)
 (hc:X.calm=true) (S:z0j X.env.scope scope own frees X.N ix) (hi:SI X G F tg iter mi)
 (hg: ∀(F:Fy) cl C s₀ H₀ fp pn,SG (z09 X scope own frees cl C s₀ H₀ fp pn) G F tg g) (ht: ∀(F:Fy) cl C s₀ H₀ fp pn,STs (z09 X scope own frees cl C s₀ H₀ fp pn) G F ifs mt) (he: ∀(F:Fy) cl C s₀ H₀ fp pn,SE (z09 X scope own frees cl C s₀ H₀ fp pn) G F elt me)
 (hs: ∀x,foldedSetIterable iter X.env x=pure x:=by intro _;rfl):SS X G F (.Assign [.Name y py] (.ListComp elt [⟨tg,iter,ifs,0⟩] scope pos) spos) (sAsg (.nm i) (z0s mi g mt me own.length ix)):=by
 refine PS.imp0 (z7j (i:=i) (g:=tGx G g) (tt:=tBx G mt) (te:=tMx G me) hN hy hx hfn hsw hc S hi (fun cl C s₀ H₀ fp pn pins s σ H v u Q I r ⟨F',q⟩=>hg F' cl C s₀ H₀ fp pn pins s σ H v u Q I r q)
  (fun cl C s₀ H₀ fp pn pins s σ H Q I ⟨F',q⟩=>ht F' cl C s₀ H₀ fp pn pins s σ H Q I q) (fun cl C s₀ H₀ fp pn pins s σ H Q I ⟨F',q⟩=>he F' cl C s₀ H₀ fp pn pins s σ H Q I q) hs) fun Dd σ H ⟨tv,h⟩=> ?_
 refine z5I hk ⟨tv,(z1U h).mono fun v H1 ⟨ρ1,s1,t,M1,W⟩=> ?_⟩
 simp only[asg] at W
 exact W ρ1 _ H1 (M1.setS i).m
end
mutual
noncomputable def z0b(l:Nat):D->Option D
 | .tup ds=>findL l ds
 | .ro ds=>findL l ds
 | .fdc _ vs=>findL l vs
 | .lst k ds=>if k=l then some (.lst k ds) else findL l ds
 | .dct k ks vs=>if k=l then some (.dct k ks vs) else findL l vs
 | .obj k c ns vs=>if k=l then some (.obj k c ns vs) else findL l vs
 | .non=>none| .bool _=>none| .int _=>none| .str _=>none| .exc _=>none| .fn _=>none
noncomputable def findL(l:Nat):List D->Option D
 |[]=>none
 |d::ds=>match z0b l d with
  |some x=>some x
  |none=>findL l ds
end
section
variable{G:Gx}{ρ:Nat->Addr}{H:Hp}
mutual
theorem z96(l:Nat): ∀(t:D) (v:V) (d:D),RD G ρ H t v->z0b l t=some d->RD G ρ H d (.ref (ρ l))/\∀k∈labs d,k∈labs t
 | .non,v,d,h,e=>by simp only[z0b] at e;cases e
 | .bool b,v,d,h,e=>by simp only[z0b] at e;cases e
 | .int b,v,d,h,e=>by simp only[z0b] at e;cases e
 | .str b,v,d,h,e=>by simp only[z0b] at e;cases e
 | .exc b,v,d,h,e=>by simp only[z0b] at e;cases e
 | .fn b,v,d,h,e=>by simp only[z0b] at e;cases e
 | .tup ds,v,d,h,e=>by
  simp only[z0b,RD,labs] at h e⊢
  obtain⟨a,xs,_,_,r⟩:=h
  exact findL_rd l ds xs d r e
 | .ro ds,v,d,h,e=>by
  simp only[z0b,RD,labs] at h e⊢
  obtain⟨a,xs,_,_,r⟩:=h
  exact findL_rd l ds xs d r e
 | .fdc ks vs,v,d,h,e=>by
  simp only[z0b,RD,labs] at h e⊢
  obtain⟨a,o,kvs,_,_,_,r⟩:=h
  exact findL_rd l vs _ d r e
 | .lst k ds,v,d,h,e=>by
  simp only[z0b] at e
  by_cases hk:k=l
  ·rw[if_pos hk] at e;cases e
   subst hk
   have h':=h
   simp only[RD] at h'
   obtain⟨rfl,_⟩:=h'
   exact⟨h,fun _ q=>q⟩
  ·rw[if_neg hk] at e
   simp only[RD] at h
   obtain⟨_,xs,_,r⟩:=h
   obtain⟨q1,q2⟩:=findL_rd l ds xs d r e
   exact⟨q1,fun j hj=>by simp only[labs];exact List.mem_cons_of_mem _ (q2 j hj)⟩
 | .dct k ks vs,v,d,h,e=>by
  simp only[z0b] at e
  by_cases hk:k=l
  ·rw[if_pos hk] at e;cases e
   subst hk
   have h':=h
   simp only[RD] at h'
   obtain⟨rfl,_⟩:=h'
   exact⟨h,fun _ q=>q⟩
  ·rw[if_neg hk] at e
   simp only[RD] at h
   obtain⟨_,⟨kvs,_,_,r⟩|⟨kvs,_,_,r⟩⟩:=h
   ·obtain⟨q1,q2⟩:=findL_rd l vs _ d r e
    exact⟨q1,fun j hj=>by simp only[labs];exact List.mem_cons_of_mem _ (List.mem_append_right _ (q2 j hj))⟩
   ·obtain⟨q1,q2⟩:=findL_rd l vs _ d r e
    exact⟨q1,fun j hj=>by simp only[labs];exact List.mem_cons_of_mem _ (List.mem_append_right _ (q2 j hj))⟩
 | .obj k c ns vs,v,d,h,e=>by
  simp only[z0b] at e
  by_cases hk:k=l
  ·rw[if_pos hk] at e;cases e
   subst hk
   have h':=h
   simp only[RD] at h'
   obtain⟨rfl,_⟩:=h'
   exact⟨h,fun _ q=>q⟩
  ·rw[if_neg hk] at e
   simp only[RD] at h
   obtain⟨_,C,dx,fs,_,_,_,r⟩:=h
   obtain⟨q1,q2⟩:=findL_rd l vs _ d r e
   exact⟨q1,fun j hj=>by simp only[labs];exact List.mem_cons_of_mem _ (q2 j hj)⟩
theorem findL_rd(l:Nat): ∀(t:List D) (v:List V) (d:D),RDs G ρ H t v->findL l t=some d->RD G ρ H d (.ref (ρ l))/\∀k∈labs d,k∈labsL t
 |[],v,d,h,e=>by simp only[findL] at e;cases e
 |t::ts,v,d,h,e=>by
  simp only[findL,RDs,labsL] at h e⊢
  obtain⟨x,r,_,h1,h2⟩:=h
  cases e1:z0b l t with
  |some y=>
   rw[e1] at e;cases e
   obtain⟨q1,q2⟩:=z96 l t x _ h1 e1
   exact⟨q1,fun j hj=>List.mem_append_left _ (q2 j hj)⟩
  |none=>
   rw[e1] at e
   obtain⟨q1,q2⟩:=findL_rd l ts r d h2 e
   exact⟨q1,fun j hj=>List.mem_append_right _ (q2 j hj)⟩
end
theorem roL_two{K:W.Frag}{a:Addr}{xs ys:List V}(k:KD K H)(h:RoL K H a xs)(h':RoL K H a ys):xs=ys:=SqL.two k h.sq h'.sq
noncomputable def z5J(G:Gx)(H:Hp)(a:Addr):Nat->Prop
 |0=> ∃xs,SqT G.K H a xs
 |1=> ∃xs,RoL G.K H a xs
 |2=> ∃xs,H a=some (.lst xs)
 |3=>(∃kvs,H a=some (.dK kvs))\/∃kvs,H a=some (.dT kvs)
 |4=> ∃C dx fs,H a=some (.ins C dx fs)
 |5=> ∃o φ,H a=some (.frz o (.ext φ))
 |6=> ∃c,G.cl c=some a
 |_=> ∃o kvs,H a=some (.frz o (.dT kvs))
open Classical in
noncomputable def kd(K:W.Frag)(H:Hp)(a:Addr):Nat:=match H a with
 |some (.tup _)=>0|some (.frz _ (.tup _))=>0|some (.frz _ (.lst _))=>1|some (.lst _)=>2|some (.dK _)=>3|some (.dT _)=>3|some (.ins _ _ _)=>4|some (.frz _ (.ext _))=>5|some (.frz _ (.dT _))=>7
 |some _=>9
 |none=>match K.lookup a with
  |some o=>if(∃its n,o.data= .seq its n) then(if o.cls= .type "tuple" then 0 else 1) else 6
  |none=>8
theorem zcE{a:Addr}(k:KD G.K H): ∀{i:Nat},z5J G H a i->i<=7->kd G.K H a=i:=by
 have tl: ¬((.type "list" :Value)= .type "tuple"):=by intro h;injection h with h;exact absurd h (by decide)
 intro i hi li
 match i,hi,li with
 |0,⟨xs,h⟩,_=>
  rcases h with(h|⟨o,h⟩)|⟨o,its,n,h,hc,hd,_⟩
  ·unfold kd;rw[h]
  ·unfold kd;rw[h]
  ·unfold kd;rw[k _ _ h];dsimp only;rw[h];dsimp only;rw[if_pos ⟨its,n,hd⟩,if_pos hc]
 |1,⟨xs,h⟩,_=>
  rcases h with⟨o,h⟩|⟨o,its,n,h,hc,_,hd,_⟩
  ·unfold kd;rw[h]
  ·unfold kd;rw[k _ _ h];dsimp only;rw[h];dsimp only;rw[if_pos ⟨its,n,hd⟩,if_neg (by rw[hc];exact tl)]
 |2,⟨xs,h⟩,_=>unfold kd;rw[h]
 |3,h,_=>rcases h with⟨_,h⟩|⟨_,h⟩<;>(unfold kd;rw[h])
 |4,⟨_,_,_,h⟩,_=>unfold kd;rw[h]
 |5,⟨_,_,h⟩,_=>unfold kd;rw[h]
 |6,⟨c,h⟩,_=>
  obtain⟨o,h1,h2⟩:=G.ck c a h
  unfold kd;rw[k _ _ h1];dsimp only;rw[h1];dsimp only;rw[if_neg (fun⟨its,n,q⟩=>h2 its n q)]
 |7,⟨_,_,h⟩,_=>unfold kd;rw[h]
 |n+8,_,li=>lia
theorem z97{a:Addr}(k:KD G.K H){i j:Nat}(hi:z5J G H a i)(hj:z5J G H a j)(li:i<=7)(lj:j<=7):i=j:=(zcE k hi li).symm.trans (zcE k hj lj)
noncomputable def ix:D->Nat
 | .tup _=>0| .ro _=>1| .lst _ _=>2| .dct _ _ _=>3| .obj _ _ _ _=>4| .exc _=>5| .fn _=>6| .fdc _ _=>7|_=>8
noncomputable def flD:V->D
 | .bl b=> .bool b| .int b=> .int b| .str b=> .str b|_=> .non
theorem RD.kind{t:D}{v:V}(h:RD G ρ H t v):(t=flD v/\∀a,v≠ .ref a)\/∃a,v= .ref a/\ix t<=7/\z5J G H a (ix t):=by
 cases t<;>simp only[RD] at h
 ·exact .inl (by rw[h];exact⟨rfl,nofun⟩)
 ·exact .inl (by rw[h];exact⟨rfl,nofun⟩)
 ·exact .inl (by rw[h];exact⟨rfl,nofun⟩)
 ·exact .inl (by rw[h];exact⟨rfl,nofun⟩)
 ·obtain⟨a',xs,e,s,r⟩:=h;exact .inr ⟨a',e,Nat.le_of_ble_eq_true rfl,xs,SqT.of s⟩
 ·obtain⟨a',xs,e,s,r⟩:=h;exact .inr ⟨a',e,Nat.le_of_ble_eq_true rfl,xs,s⟩
 ·obtain⟨e,xs,s,r⟩:=h;exact .inr ⟨_,e,Nat.le_of_ble_eq_true rfl,xs,s⟩
 ·obtain⟨e,⟨kvs,s,_⟩|⟨kvs,s,_⟩⟩:=h
  ·exact .inr ⟨_,e,Nat.le_of_ble_eq_true rfl, .inl ⟨kvs,s⟩⟩
  ·exact .inr ⟨_,e,Nat.le_of_ble_eq_true rfl, .inr ⟨kvs,s⟩⟩
 ·obtain⟨e,C,dx,fs,_,s,_⟩:=h;exact .inr ⟨_,e,Nat.le_of_ble_eq_true rfl,C,dx,fs,s⟩
 ·obtain⟨a',o,C,e,_,_,_,s⟩:=h;exact .inr ⟨a',e,Nat.le_of_ble_eq_true rfl,o,_,s⟩
 ·obtain⟨a',e,s⟩:=h;exact .inr ⟨a',e,Nat.le_of_ble_eq_true rfl,_,s⟩
 ·obtain⟨a',o,kvs,e,s,_⟩:=h;exact .inr ⟨a',e,Nat.le_of_ble_eq_true rfl,o,kvs,s⟩
theorem ix0{t:D}(h:ix t=0): ∃ds,t= .tup ds:=by cases t<;>first|exact⟨_,rfl⟩|cases h
theorem ix1{t:D}(h:ix t=1): ∃ds,t= .ro ds:=by cases t<;>first|exact⟨_,rfl⟩|cases h
theorem ix2{t:D}(h:ix t=2): ∃l ds,t= .lst l ds:=by cases t<;>first|exact⟨_,_,rfl⟩|cases h
theorem ix3{t:D}(h:ix t=3): ∃l ks vs,t= .dct l ks vs:=by cases t<;>first|exact⟨_,_,_,rfl⟩|cases h
theorem ix4{t:D}(h:ix t=4): ∃l c ns vs,t= .obj l c ns vs:=by cases t<;>first|exact⟨_,_,_,_,rfl⟩|cases h
theorem ix5{t:D}(h:ix t=5): ∃c,t= .exc c:=by cases t<;>first|exact⟨_,rfl⟩|cases h
theorem ix6{t:D}(h:ix t=6): ∃c,t= .fn c:=by cases t<;>first|exact⟨_,rfl⟩|cases h
theorem ix7{t:D}(h:ix t=7): ∃ks vs,t= .fdc ks vs:=by cases t<;>first|exact⟨_,_,rfl⟩|cases h
theorem RD.ixE{t t':D}{v:V}(k:KD G.K H)(h:RD G ρ H t v)(h':RD G ρ H t' v):t=t'\/ix t=ix t':=by
 rcases RD.kind h with⟨e,n⟩|⟨a,e,l,q⟩<;>rcases RD.kind h' with⟨e',n'⟩|⟨a',e',l',q'⟩
 ·exact .inl (e.trans e'.symm)
 ·exact absurd e' (n _)
 ·exact absurd e (n' _)
 ·cases e.symm.trans e';exact .inr (z97 k q q' l l')
section
variable(k:KD G.K H){n:Nat}(inj: ∀i j,i<n->j<n->ρ i=ρ j->i=j)
include k inj
mutual
theorem RD.uniq: ∀(t t':D) (v:V),RD G ρ H t v->RD G ρ H t' v->(∀l∈labs t,l<n)->(∀l∈labs t',l<n)->t=t'
 | .non,t',v,h,h',_,_=>(RD.kind h').elim (fun e=>by simp only[RD] at h;subst h;exact e.1.symm) fun⟨_,e,_⟩=>by simp only[RD] at h;subst h;cases e
 | .bool b,t',v,h,h',_,_=>(RD.kind h').elim (fun e=>by simp only[RD] at h;subst h;exact e.1.symm) fun⟨_,e,_⟩=>by simp only[RD] at h;subst h;cases e
 | .int b,t',v,h,h',_,_=>(RD.kind h').elim (fun e=>by simp only[RD] at h;subst h;exact e.1.symm) fun⟨_,e,_⟩=>by simp only[RD] at h;subst h;cases e
 | .str b,t',v,h,h',_,_=>(RD.kind h').elim (fun e=>by simp only[RD] at h;subst h;exact e.1.symm) fun⟨_,e,_⟩=>by simp only[RD] at h;subst h;cases e
 | .exc c,t',v,h,h',lb,lb'=>by
  rcases RD.ixE k h h' with e|e
  ·exact e
  obtain⟨c',rfl⟩:=ix5 e.symm
  simp only[RD] at h h'
  obtain⟨a,o,C,rfl,h1,h2,_,s⟩:=h
  obtain⟨a',o',C',e,h1',h2',_,s'⟩:=h'
  cases e
  rw[s] at s';cases s'
  rw[h2] at h2';cases h2'
  rw[G.ci c c' C h1 h1']
 | .fn c,t',v,h,h',lb,lb'=>by
  rcases RD.ixE k h h' with e|e
  ·exact e
  obtain⟨c',rfl⟩:=ix6 e.symm
  simp only[RD] at h h'
  obtain⟨a,rfl,h1⟩:=h
  obtain⟨a',e,h1'⟩:=h'
  cases e
  rw[G.ci c c' a h1 h1']
 | .tup ds,t',v,h,h',lb,lb'=>by
  rcases RD.ixE k h h' with e|e
  ·exact e
  obtain⟨es,rfl⟩:=ix0 e.symm
  obtain⟨a,xs,rfl,s,r⟩:=h.tupq
  obtain⟨a',ys,e,s',r'⟩:=h'.tupq
  cases e
  cases SqT.two k s s'
  rw[RDs.uniq ds es xs r r' lb lb']
 | .fdc ks vs,t',v,h,h',lb,lb'=>by
  rcases RD.ixE k h h' with e|e
  ·exact e
  obtain⟨ks',vs',rfl⟩:=ix7 e.symm
  simp only[RD] at h h'
  obtain⟨a,o,kvs,rfl,s,s2,r⟩:=h
  obtain⟨a',o',kvs',e,s',s2',r'⟩:=h'
  cases e
  rw[s] at s';cases s'
  rw[s2,s2',RDs.uniq vs vs' _ r r' lb lb']
 | .ro ds,t',v,h,h',lb,lb'=>by
  rcases RD.ixE k h h' with e|e
  ·exact e
  obtain⟨es,rfl⟩:=ix1 e.symm
  simp only[RD] at h h'
  obtain⟨a,xs,rfl,s,r⟩:=h
  obtain⟨a',ys,e,s',r'⟩:=h'
  cases e
  cases roL_two k s s'
  rw[RDs.uniq ds es xs r r' lb lb']
 | .lst l ds,t',v,h,h',lb,lb'=>by
  rcases RD.ixE k h h' with e|e
  ·exact e
  obtain⟨l',es,rfl⟩:=ix2 e.symm
  simp only[RD] at h h'
  obtain⟨rfl,xs,s,r⟩:=h
  obtain⟨e,ys,s',r'⟩:=h'
  cases inj l l' (lb l (.head _)) (lb' l' (.head _)) (V.ref.inj e)
  rw[s] at s';cases s'
  rw[RDs.uniq ds es xs r r' (fun j hj=>lb j (.tail _ hj)) fun j hj=>lb' j (.tail _ hj)]
 | .dct l ks vs,t',v,h,h',lb,lb'=>by
  rcases RD.ixE k h h' with e|e
  ·exact e
  obtain⟨l',ks',vs',rfl⟩:=ix3 e.symm
  simp only[RD] at h h'
  obtain⟨rfl,q⟩:=h
  obtain⟨e,q'⟩:=h'
  cases inj l l' (lb l (.head _)) (lb' l' (.head _)) (V.ref.inj e)
  have b1: ∀j∈labsL vs,j<n:=fun j hj=>lb j (.tail _ (List.mem_append_right _ hj))
  have b2: ∀j∈labsL vs',j<n:=fun j hj=>lb' j (.tail _ (List.mem_append_right _ hj))
  rcases q with⟨kvs,s,s2,r⟩|⟨kvs,s,s2,r⟩<;>rcases q' with⟨kvs',s',s2',r'⟩|⟨kvs',s',s2',r'⟩<;>rw[s] at s'<;>cases s'
  ·rw[s2,s2',RDs.uniq vs vs' _ r r' b1 b2]
  ·rw[s2,s2',RDs.uniq vs vs' _ r r' b1 b2]
 | .obj l c ns vs,t',v,h,h',lb,lb'=>by
  rcases RD.ixE k h h' with e|e
  ·exact e
  obtain⟨l',c',ns',vs',rfl⟩:=ix4 e.symm
  simp only[RD] at h h'
  obtain⟨rfl,C,dx,fs,hC,s,s2,r⟩:=h
  obtain⟨e,C',dx',fs',hC',s',s2',r'⟩:=h'
  cases inj l l' (lb l (.head _)) (lb' l' (.head _)) (V.ref.inj e)
  rw[s] at s';cases s'
  rw[s2,s2',G.ci c c' C hC hC',RDs.uniq vs vs' _ r r' (fun j hj=>lb j (.tail _ hj)) fun j hj=>lb' j (.tail _ hj)]
theorem RDs.uniq: ∀(t t':List D) (v:List V),RDs G ρ H t v->RDs G ρ H t' v->(∀l∈labsL t,l<n)->(∀l∈labsL t',l<n)->t=t'
 |[],t',v,h,h',_,_=>by
  simp only[RDs] at h;subst h
  cases t' with
  |nil=>rfl
  |cons d ds=>simp only[RDs] at h';obtain⟨_,_,e,_⟩:=h';cases e
 |d::ds,t',v,h,h',lb,lb'=>by
  simp only[RDs] at h
  obtain⟨x,q,rfl,h1,h2⟩:=h
  cases t' with
  |nil=>simp only[RDs] at h';cases h'
  |cons d' ds'=>
   simp only[RDs] at h'
   obtain⟨_,_,e,h1',h2'⟩:=h'
   cases e
   rw[RD.uniq d d' x h1 h1' (fun l hl=>lb l (by simp only[labsL];exact List.mem_append_left _ hl)) fun l hl=>lb' l (by simp only[labsL];exact List.mem_append_left _ hl),
    RDs.uniq ds ds' q h2 h2' (fun l hl=>lb l (by simp only[labsL];exact List.mem_append_right _ hl)) fun l hl=>lb' l (by simp only[labsL];exact List.mem_append_right _ hl)]
end
end
end
end Mi
namespace Mi
open PySem L2 PySem.Spec PyProof.Rows
inductive RF where
 |ok (t:D) (ts:List D) (n:Nat)|ex (d:D) (ts:List D) (n:Nat)|no
noncomputable abbrev FM:=List D->Nat->RF
structure z4B(G:Gx)(ρ:Nat->Addr)(n:Nat)(ts:List D)(vs:List V)(H:Hp)(ρ':Nat->Addr)(n':Nat)(ts':List D)(H':Hp):Prop where
 old: ∀l,l<n->ρ' l=ρ l
 le:n<=n'
 inj: ∀i j,i<n'->j<n'->ρ' i=ρ' j->i=j
 dom: ∀l,l<n'->∃o,H' (ρ' l)=some o
 rd:RDs G ρ' H' ts' vs
 lb: ∀l∈labsL ts',l<n'/\(l<n->l∈labsL ts)
 fr: ∀a o,H a=some o->(∃o',H' a=some o')/\((∀l∈labsL ts,a≠ρ l)->H' a=some o)
 new: ∀l,n<=l->l<n'->H (ρ' l)=none
 kd:KD G.K H'
section
variable{G:Gx}{ρ ρ':Nat->Addr}{H H':Hp}
theorem z7m(k:Key):labs (keyD k)=[]:=by cases k<;>simp only[keyD,labs]
theorem z7n: ∀ks:List Key,labsL (ks.map keyD)=[]
 |[]=>by simp only[List.map_nil,labsL]
 |k::ks=>by simp only[List.map_cons,labsL,z7m,z7n ks,List.append_nil]
theorem z5c(z:Key⊕List Key):labs (nkD z)=[]:=by
 cases z with
 |inl k=>exact z7m k
 |inr ks=>simp only[nkD,labs,z7n]
mutual
theorem z7o: ∀(t:D) (v:V),RD G ρ H t v->∀l∈labs t,∃o,H (ρ l)=some o/\(∀xs,o≠ .tup xs)/\∀u w,o≠ .frz u w
 | .non,v,h,l,hl=>by simp only[labs] at hl;cases hl
 | .bool b,v,h,l,hl=>by simp only[labs] at hl;cases hl
 | .int b,v,h,l,hl=>by simp only[labs] at hl;cases hl
 | .str b,v,h,l,hl=>by simp only[labs] at hl;cases hl
 | .exc b,v,h,l,hl=>by simp only[labs] at hl;cases hl
 | .fn b,v,h,l,hl=>by simp only[labs] at hl;cases hl
 | .tup ds,v,h,l,hl=>by
  simp only[labs,RD] at h hl
  obtain⟨a,xs,_,_,r⟩:=h
  exact labL_mut ds xs r l hl
 | .fdc ks vs,v,h,l,hl=>by
  simp only[labs,RD] at h hl
  obtain⟨a,o,kvs,_,_,_,r⟩:=h
  exact labL_mut vs _ r l hl
 | .ro ds,v,h,l,hl=>by
  simp only[labs,RD] at h hl
  obtain⟨a,xs,_,_,r⟩:=h
  exact labL_mut ds xs r l hl
 | .lst k ds,v,h,l,hl=>by
  simp only[labs,RD] at h hl
  obtain⟨_,xs,s,r⟩:=h
  rcases List.mem_cons.mp hl with rfl|hl
  ·exact⟨_,s,(fun _ q=>nomatch q),(fun _ _ q=>nomatch q)⟩
  ·exact labL_mut ds xs r l hl
 | .dct k ks vs,v,h,l,hl=>by
  simp only[labs,RD] at h hl
  obtain⟨_,⟨kvs,s,s2,r⟩|⟨kvs,s,s2,r⟩⟩:=h
  ·rcases List.mem_cons.mp hl with rfl|hl
   ·exact⟨_,s,(fun _ q=>nomatch q),(fun _ _ q=>nomatch q)⟩
   ·rcases List.mem_append.mp hl with hl|hl
    ·rw[s2] at hl
     obtain⟨d,hd,hl⟩:=z0V hl
     rcases List.mem_cons.mp hd with rfl|hd
     ·simp only[labs] at hl;cases hl
     obtain⟨p,_,rfl⟩:=List.mem_map.mp hd
     obtain⟨kk,_⟩:=p
     cases kk<;>simp only[keyD,labs] at hl<;>cases hl
    ·exact labL_mut vs _ r l hl
  ·rcases List.mem_cons.mp hl with rfl|hl
   ·exact⟨_,s,(fun _ q=>nomatch q),(fun _ _ q=>nomatch q)⟩
   ·rcases List.mem_append.mp hl with hl|hl
    ·rw[s2] at hl
     obtain⟨d,hd,hl⟩:=z0V hl
     obtain⟨p,_,rfl⟩:=List.mem_map.mp hd
     simp only[dkD,labs] at hl
     obtain⟨d,hd,hl⟩:=z0V hl
     obtain⟨kk,_,rfl⟩:=List.mem_map.mp hd
     rw[z5c] at hl;cases hl
    ·exact labL_mut vs _ r l hl
 | .obj k c ns vs,v,h,l,hl=>by
  simp only[labs,RD] at h hl
  obtain⟨_,C,dx,fs,_,s,_,r⟩:=h
  rcases List.mem_cons.mp hl with rfl|hl
  ·exact⟨_,s,(fun _ q=>nomatch q),(fun _ _ q=>nomatch q)⟩
  ·exact labL_mut vs _ r l hl
theorem labL_mut: ∀(t:List D) (v:List V),RDs G ρ H t v->∀l∈labsL t,∃o,H (ρ l)=some o/\(∀xs,o≠ .tup xs)/\∀u w,o≠ .frz u w
 |[],v,h,l,hl=>by simp only[labsL] at hl;cases hl
 |d::ds,v,h,l,hl=>by
  simp only[labsL,RDs] at h hl
  obtain⟨x,r,_,h1,h2⟩:=h
  rcases List.mem_append.mp hl with hl|hl
  ·exact z7o d x h1 l hl
  ·exact labL_mut ds r h2 l hl
end
theorem z6m{kvs:List (Key×V)}{l:Nat}(hl:l∈labsL (kvs.map fun p=>keyD p.1)):False:=by
 obtain⟨d,hd,hl⟩:=z0V hl
 obtain⟨p,_,rfl⟩:=List.mem_map.mp hd
 obtain⟨kk,_⟩:=p
 cases kk<;>simp only[keyD,labs] at hl<;>cases hl
theorem z5d{kvs:List (NK×V)}{l:Nat}(hl:l∈labsL (kvs.map fun p=>dkD p.1)):False:=by
 obtain⟨d,hd,hl⟩:=z0V hl
 obtain⟨p,_,rfl⟩:=List.mem_map.mp hd
 simp only[dkD,labs] at hl
 obtain⟨d,hd,hl⟩:=z0V hl
 obtain⟨kk,_,rfl⟩:=List.mem_map.mp hd
 rw[z5c] at hl;cases hl
mutual
theorem z6n(l:Nat): ∀(t:D) (v:V),RD G ρ H t v->l∈labs t->(z0b l t).isSome=true
 | .non,v,h,hl=>by simp only[labs] at hl;cases hl
 | .bool b,v,h,hl=>by simp only[labs] at hl;cases hl
 | .int b,v,h,hl=>by simp only[labs] at hl;cases hl
 | .str b,v,h,hl=>by simp only[labs] at hl;cases hl
 | .exc b,v,h,hl=>by simp only[labs] at hl;cases hl
 | .fn b,v,h,hl=>by simp only[labs] at hl;cases hl
 | .tup ds,v,h,hl=>by
  simp only[labs,RD,z0b] at h hl⊢
  obtain⟨a,xs,_,_,r⟩:=h
  exact findL_some l ds xs r hl
 | .fdc ks vs,v,h,hl=>by
  simp only[labs,RD,z0b] at h hl⊢
  obtain⟨a,o,kvs,_,_,_,r⟩:=h
  exact findL_some l vs _ r hl
 | .ro ds,v,h,hl=>by
  simp only[labs,RD,z0b] at h hl⊢
  obtain⟨a,xs,_,_,r⟩:=h
  exact findL_some l ds xs r hl
 | .lst k ds,v,h,hl=>by
  simp only[labs,RD,z0b] at h hl⊢
  obtain⟨_,xs,s,r⟩:=h
  by_cases e:k=l
  ·rw[if_pos e];rfl
  ·rw[if_neg e]
   rcases List.mem_cons.mp hl with q|q
   ·exact absurd q.symm e
   ·exact findL_some l ds xs r q
 | .dct k ks vs,v,h,hl=>by
  simp only[labs,RD,z0b] at h hl⊢
  obtain⟨_,⟨kvs,s,s2,r⟩|⟨kvs,s,s2,r⟩⟩:=h
  ·by_cases e:k=l
   ·rw[if_pos e];rfl
   ·rw[if_neg e]
    rcases List.mem_cons.mp hl with q|q
    ·exact absurd q.symm e
    ·rcases List.mem_append.mp q with q|q
     ·rw[s2] at q;exact(z6m q).elim
     ·exact findL_some l vs _ r q
  ·by_cases e:k=l
   ·rw[if_pos e];rfl
   ·rw[if_neg e]
    rcases List.mem_cons.mp hl with q|q
    ·exact absurd q.symm e
    ·rcases List.mem_append.mp q with q|q
     ·rw[s2] at q;exact(z5d q).elim
     ·exact findL_some l vs _ r q
 | .obj k c ns vs,v,h,hl=>by
  simp only[labs,RD,z0b] at h hl⊢
  obtain⟨_,C,dx,fs,_,s,_,r⟩:=h
  by_cases e:k=l
  ·rw[if_pos e];rfl
  ·rw[if_neg e]
   rcases List.mem_cons.mp hl with q|q
   ·exact absurd q.symm e
   ·exact findL_some l vs _ r q
theorem findL_some(l:Nat): ∀(t:List D) (v:List V),RDs G ρ H t v->l∈labsL t->(findL l t).isSome=true
 |[],v,h,hl=>by simp only[labsL] at hl;cases hl
 |d::ds,v,h,hl=>by
  simp only[labsL,RDs,findL] at h hl⊢
  obtain⟨x,r,_,h1,h2⟩:=h
  cases e:z0b l d with
  |some y=>rfl
  |none=>
   rcases List.mem_append.mp hl with q|q
   ·have:=z6n l d x h1 q
    rw[e] at this;cases this
   ·exact findL_some l ds r h2 q
end
theorem z4B.stays{n n':Nat}{ts ts':List D}{vs:List V}(P:z4B G ρ n ts vs H ρ' n' ts' H')(r:RDs G ρ H ts vs):z0J H H':=by
 refine⟨fun b xs e=>(P.fr b _ e).2 fun l hl z=> ?_,fun b o u e=>(P.fr b _ e).2 fun l hl z=> ?_⟩
 ·obtain⟨o,q,q1,_⟩:=labL_mut ts vs r l hl
  rw[<-z,e] at q;cases q;exact q1 _ rfl
 ·obtain⟨o,q,_,q1⟩:=labL_mut ts vs r l hl
  rw[<-z,e] at q;cases q;exact q1 _ _ rfl
section
variable(k:KD G.K H){n:Nat}(inj: ∀i j,i<n->j<n->ρ i=ρ j->i=j){ts:List D}{vs:List V}(r:RDs G ρ H ts vs)(lb: ∀l∈labsL ts,l<n)
include k inj r lb
mutual
theorem z3z: ∀(t:D) (v:V),RD G ρ H t v->(∀l∈labs t,l<n)->rp (fun l=>findL l ts) t=t
 | .non,v,h,hl=>rfl
 | .bool b,v,h,hl=>rfl
 | .int b,v,h,hl=>rfl
 | .str b,v,h,hl=>rfl
 | .exc b,v,h,hl=>rfl
 | .fn b,v,h,hl=>rfl
 | .tup ds,v,h,hl=>by
  simp only[labs,RD,rp] at h hl⊢
  obtain⟨a,xs,_,_,r1⟩:=h
  rw[rpL_find_id ds xs r1 hl]
 | .fdc ks vs,v,h,hl=>by
  simp only[labs,RD,rp] at h hl⊢
  obtain⟨a,o,kvs,_,_,_,r1⟩:=h
  rw[rpL_find_id vs _ r1 hl]
 | .ro ds,v,h,hl=>by
  simp only[labs,RD,rp] at h hl⊢
  obtain⟨a,xs,_,_,r1⟩:=h
  rw[rpL_find_id ds xs r1 hl]
 | .lst l ds,v,h,hl=>by
  simp only[rp]
  cases e:findL l ts with
  |some d=>
   dsimp only
   obtain⟨q1,q2⟩:=findL_rd l ts vs d r e
   have h':=h
   simp only[RD] at h'
   obtain⟨rfl,_⟩:=h'
   exact RD.uniq k inj _ _ _ q1 h (fun j hj=>lb j (q2 j hj)) hl
  |none=>
   dsimp only
   simp only[labs,RD] at h hl
   obtain⟨_,xs,s,r1⟩:=h
   rw[rpL_find_id ds xs r1 fun j hj=>hl j (List.mem_cons_of_mem _ hj)]
 | .dct l ks vs',v,h,hl=>by
  simp only[rp]
  cases e:findL l ts with
  |some d=>
   dsimp only
   obtain⟨q1,q2⟩:=findL_rd l ts vs d r e
   have h':=h
   simp only[RD] at h'
   obtain⟨rfl,_⟩:=h'
   exact RD.uniq k inj _ _ _ q1 h (fun j hj=>lb j (q2 j hj)) hl
  |none=>
   dsimp only
   simp only[labs,RD] at h hl
   obtain⟨_,⟨kvs,s,s2,r1⟩|⟨kvs,s,s2,r1⟩⟩:=h
   ·rw[rpL_find_id vs' _ r1 fun j hj=>hl j (List.mem_cons_of_mem _ (List.mem_append_right _ hj))]
   ·rw[rpL_find_id vs' _ r1 fun j hj=>hl j (List.mem_cons_of_mem _ (List.mem_append_right _ hj))]
 | .obj l c ns vs',v,h,hl=>by
  simp only[rp]
  cases e:findL l ts with
  |some d=>
   dsimp only
   obtain⟨q1,q2⟩:=findL_rd l ts vs d r e
   have h':=h
   simp only[RD] at h'
   obtain⟨rfl,_⟩:=h'
   exact RD.uniq k inj _ _ _ q1 h (fun j hj=>lb j (q2 j hj)) hl
  |none=>
   dsimp only
   simp only[labs,RD] at h hl
   obtain⟨_,C,dx,fs,_,s,_,r1⟩:=h
   rw[rpL_find_id vs' _ r1 fun j hj=>hl j (List.mem_cons_of_mem _ hj)]
theorem rpL_find_id: ∀(t:List D) (v:List V),RDs G ρ H t v->(∀l∈labsL t,l<n)->rpL (fun l=>findL l ts) t=t
 |[],v,h,hl=>rfl
 |d::ds,v,h,hl=>by
  simp only[labsL,RDs,rpL] at h hl⊢
  obtain⟨x,q,_,h1,h2⟩:=h
  rw[z3z d x h1 fun j hj=>hl j (List.mem_append_left _ hj),rpL_find_id ds q h2 fun j hj=>hl j (List.mem_append_right _ hj)]
end
theorem z1p: ∀(t:List (Option D)) (v:List (Option V)),Sl G ρ H t v->(∀l∈z05 t,l<n)->rpO (fun l=>findL l ts) t=t
 |[],v,h,hl=>rfl
 |none::r',v,h,hl=>by
  simp only[z05,Sl,rpO] at h hl⊢
  obtain⟨o,q,_,h⟩:=h
  rw[z1p r' q h hl]
 |some d::ds,v,h,hl=>by
  simp only[z05,Sl,rpO] at h hl⊢
  obtain⟨x,q,_,h1,h2⟩:=h
  rw[z3z k inj r lb d x h1 fun j hj=>hl j (List.mem_append_left _ hj),z1p ds q h2 fun j hj=>hl j (List.mem_append_right _ hj)]
end
variable{F:Fy}{σv tv:List (Option V)}{s:Stt}{np:Nat}
theorem MR.call{ts ts':List D}{vs:List V}{n':Nat}(M:MR G F.toFx ρ H σv tv s)(r:RDs G ρ H ts vs)(lb:LB F.toFx ρ s.n (labsL ts))(P:z4B G ρ s.n ts vs H ρ' n' ts' H')
 (hc: ∀l∈z0q s,l∈labsL ts->(findL l ts').isSome=true):MR G F.toFx ρ' H' σv tv {σ:=rpO (fun l=>findL l ts') s.σ,tm:=rpO (fun l=>findL l ts') s.tm,n:=n'}:=by
 have st:=P.stays r
 have step: ∀l∈z0q s,ρ' l=ρ l/\(match findL l ts' with|some d=>RD G ρ' H' d (.ref (ρ l))|none=> ∀o,H (ρ l)=some o->H' (ρ l)=some o):=fun l hl=>by
  have ol:=P.old l (M.lab l hl)
  refine⟨ol, ?_⟩
  cases e:findL l ts' with
  |some d=>
   have q:=(findL_rd l ts' vs d P.rd e).1
   rw[ol] at q;exact q
  |none=>
   intro o e1
   refine(P.fr _ _ e1).2 fun j hj z=> ?_
   have:l=j:=M.inj l j (M.lab l hl) (lb j hj).1 z
   subst this
   have:=hc l hl hj
   rw[e] at this;cases this
 have hn: ∀l,l<n'->l<s.n\/H (ρ' l)=none:=fun l hl=>by
  by_cases h:l<s.n
  ·exact .inl h
  ·exact .inr (P.new l (Nat.not_lt.mp h) hl)
 have hlab: ∀(xs:List (Option D)),(∀l∈z05 xs,l∈z0q s)->∀l∈z05 (rpO (fun l=>findL l ts') xs),l<n'/\(l<s.n->l∈z0q s\/l∈labsL ts):=fun xs hx l h=>by
  rcases z2F l xs h with q|⟨k,d,q1,q2,q3⟩
  ·exact⟨Nat.lt_of_lt_of_le (M.lab l (hx l q)) P.le,fun _=> .inl (hx l q)⟩
  ·obtain⟨b1,b2⟩:=P.lb l ((findL_rd k ts' vs d P.rd q2).2 l q3)
   exact⟨b1,fun z=> .inr (b2 z)⟩
 have all: ∀l∈z0q {σ:=rpO (fun l=>findL l ts') s.σ,tm:=rpO (fun l=>findL l ts') s.tm,n:=n'},l<n'/\(l<s.n->l∈z0q s\/l∈labsL ts):=fun l h=>by
  rcases List.mem_append.mp h with h|h
  ·exact hlab s.σ (fun l q=>List.mem_append_left _ q) l h
  ·exact hlab s.tm (fun l q=>List.mem_append_right _ q) l h
 refine⟨Sl.rp st M.sl fun l hl=>step l (List.mem_append_left _ hl),Sl.rp st M.tm fun l hl=>step l (List.mem_append_right _ hl),P.inj,P.dom,fun l h=>(all l h).1,fun l h=> ?_,fun a o e=> ?_,P.kd,fun l hl z=> ?_,⟨Nat.le_trans M.bas.1 P.le,fun l hl=> ?_⟩⟩
 ·rcases hn l (all l h).1 with q|q
  ·rw[P.old l q]
   rcases(all l h).2 q with z|z
   ·exact M.own l z
   ·exact(lb l z).2
  ·exact .inr (M.fresh0 q)
 ·obtain⟨⟨o1,e1⟩,e2⟩:=M.frm a o e
  obtain⟨e3,e4⟩:=P.fr a o1 e1
  refine⟨e3,fun nA=> ?_⟩
  have e5:=e2 nA
  rw[e1] at e5;cases e5
  refine e4 fun l hl z=> ?_
  rcases(lb l hl).2 with q|q
  ·exact nA (z▸q)
  ·rw[<-z,e] at q;cases q
 ·rcases hn l hl with q|q
  ·rw[P.old l q] at z;exact M.frb l q z
  ·obtain⟨⟨o,e⟩,_⟩:=F.zA _ z
   obtain⟨⟨o',e'⟩,_⟩:=M.frm _ o e
   rw[q] at e';cases e'
 ·rw[P.old l (Nat.lt_of_lt_of_le hl M.bas.1)];exact M.bas.2 l hl
theorem MR.call0{ts:List D}{vs:List V}{n':Nat}(M:MR G F.toFx ρ H σv tv s)(r:RDs G ρ H ts vs)(lb:LB F.toFx ρ s.n (labsL ts))(P:z4B G ρ s.n ts vs H ρ' n' ts H'):MR G F.toFx ρ' H' σv tv {s with n:=n'}:=by
 have hf: ∀l∈labsL ts,(findL l ts).isSome=true:=fun l hl=>findL_some l ts vs r hl
 have M2:=M.call r lb P fun l _ hl=>hf l hl
 rw[z1p M.kd M.inj r (fun l hl=>(lb l hl).1) s.σ σv M.sl fun l hl=>M.lab l (List.mem_append_left _ hl),z1p M.kd M.inj r (fun l hl=>(lb l hl).1) s.tm tv M.tm fun l hl=>M.lab l (List.mem_append_right _ hl)] at M2
 exact M2
open Classical in
noncomputable def z2A(r:RF)(ts:List D):M D:=fun s=>match r with
 | .ok t ts' n'=>if ts'=ts then .ok t {s with n:=n'} else
  if ∀l∈z0q s,l∈labsL ts->(findL l ts').isSome=true then .ok t {σ:=rpO (fun l=>findL l ts') s.σ,tm:=rpO (fun l=>findL l ts') s.tm,n:=n'} else .no
 |_=> .no
noncomputable def z06(f:FM)(ms:List (M D)):M D:=bd (z0c ms) fun ts s=>z2A (f ts s.n) ts s
noncomputable def spM(G:Gx)(np:Nat)(f:FM):Sp:=fun vs H Q _=>vs.length=np/\∃ρ n ts,RDs G ρ H ts vs/\(∀i j,i<n->j<n->ρ i=ρ j->i=j)/\(∀l,l<n->∃o,H (ρ l)=some o)/\(∀l∈labsL ts,l<n)/\KD G.K H/\match f ts n with
 | .ok t ts' n'=> ∀ρ' v H',z4B G ρ n ts vs H ρ' n' ts' H'->RD G ρ' H' t v->(∀l∈labs t,l<n'/\(l<n->l∈labsL ts))->Q v H'
 |_=>False
theorem z7p{ts:List D}{vs:List V}{f:FM}{Q:VK}{E:XK}(hl:vs.length=np)(M:MRL G F.toFx ρ H σv tv s ts vs)(W:wM G F σv tv (z2A (f ts s.n) ts s) Q):spM G np f vs H Q E:=by
 refine⟨hl,ρ,s.n,ts,M.rd,M.m.inj,M.m.dom,fun l h=>(M.lb l h).1,M.m.kd, ?_⟩
 cases e:f ts s.n with
 |no=>rw[e] at W;exact W
 |ex d ts' n'=>rw[e] at W;exact W
 |ok t ts' n'=>
  rw[e] at W
  intro ρ' v H' P rd lbt
  have own: ∀l∈labs t,F.A0 (ρ' l)\/F.H0 (ρ' l)=none:=fun l h=>by
   obtain⟨b1,b2⟩:=lbt l h
   by_cases hn:l<s.n
   ·rw[P.old l hn];exact(M.lb l (b2 hn)).2
   ·exact .inr (M.m.fresh0 (P.new l (Nat.not_lt.mp hn) b1))
  unfold z2A at W
  dsimp only at W
  split at W
  ·rename_i et
   subst et
   exact W.out (M.m.call0 M.rd M.lb P) rd fun l h=>⟨(lbt l h).1,own l h⟩
  ·split at W
   ·rename_i hc
    exact W.out (M.m.call M.rd M.lb P hc) rd fun l h=>⟨(lbt l h).1,own l h⟩
   ·exact False.elim W
theorem z7q: ∀(ms:List (M D)) (s:Stt) (ts:List D) (s':Stt),z0c ms s= .ok ts s'->ts.length=ms.length:=by
 intro ms
 induction ms with
 |nil=>intro s ts s' e;simp only[z0c,rt,Res.ok.injEq] at e;rw[<-e.1];rfl
 |cons m ms ih=>
  intro s ts s' e
  simp only[z0c,bd,psh] at e
  cases e1:m s with
  |ok t s1=>
   simp only[e1] at e
   cases e2:z0c ms (s1.psh t) with
   |ok ys s2=>
    simp only[e2,pop] at e
    cases e3:s2.tm with
    |nil=>simp only[e3] at e;cases e
    |cons o r=>
     cases o with
     |none=>simp only[e3] at e;cases e
     |some t'=>
      simp only[e3,rt,Res.ok.injEq] at e
      rw[<-e.1,List.length_cons,List.length_cons,ih _ _ _ e2]
   |ex d s2=>simp only[e2] at e;cases e
   |no=>simp only[e2] at e;cases e
  |ex d s1=>simp only[e1] at e;cases e
  |no=>simp only[e1] at e;cases e
theorem se_call{X:Cx}{e:Expr}{es:List Expr}{pos p:Pos}{CX:CXT}{k:Nat}{fa:Addr}{fd:FuncData}{ps:List Str}{x:Str}{E:XK}{f:FM}{ms:List (M D)}(hk:X.K=G.K)(Fn:FnOk X.prog X.w X.K X.mg X.base CX k fa fd ps (spM G ps.length f))(hr:Room k X.A)(hg:Gl X x)(hm:X.mg x=some (.ref fa))(hkp:W.keepIn X.K (.ref fa)=true)(hb:z3k X.K fd ps [])(hx:z3x CX X E)
 (ha:SA X G F (e::es) (z0c ms)) (hln:ms.length=ps.length) (hdb:(x==("__debug__" :Str))=false:=by decide) (he:starEach (e::es) X.env=(false,eval e X.env)::starEach es X.env:=by rfl) (hpl:(backTo pos (starEach es X.env)).any (·.1)=false:=by rfl):
 SE X G F (.Call (.Name x p) (e::es) [] pos) (z06 f ms):=by
 refine PE.imp0 (za9 Fn hr hg hm hkp hb .nil hx ha hdb he hpl) fun σ H Q ⟨tv,hs,ρ,s,M,W⟩=>⟨tv,hs,ρ,s,M, ?_⟩
 unfold z06 bd at W
 cases e1:z0c ms s with
 |ex d s1=>rw[e1] at W;exact W
 |no=>rw[e1] at W;exact W
 |ok ts s1=>
  rw[e1] at W
  intro ρ1 vs H1 M1
  rw[List.append_nil]
  exact z7p (by rw[<-M1.rd.length,z7q ms s ts s1 e1,hln]) M1 W
noncomputable def runF(nl:Nat)(mb:MS):FM:=fun ts n=>match mb {σ:=ts.map some++List.replicate (nl -ts.length) none,tm:=ts.map some,n:=n} with
 | .nx s'=>match z0a s'.tm with|some ts'=> .ok .non ts' s'.n|none=> .no
 | .rt t s'=>match z0a s'.tm with|some ts'=> .ok t ts' s'.n|none=> .no
 | .ex d s'=>match z0a s'.tm with|some ts'=> .ex d ts' s'.n|none=> .no
 |_=> .no
noncomputable def z98(G:Gx)(ρ:Nat->Addr)(n:Nat)(ts:List D)(vs:List V)(H:Hp)(lb: ∀l∈labsL ts,l<n)(dom: ∀l,l<n->∃o,H (ρ l)=some o):Fy where
 A0:=fun a=> ∃l∈labsL ts,a=ρ l
 H0:=H
 Z:=fun a=>(∃o,H a=some o)/\∀l,l<n->a≠ρ l
 zA:=fun a z=>⟨z.1,fun⟨l,hl,e⟩=>z.2 l (lb l hl) e⟩
 aH:=fun a ⟨l,hl,e⟩=>e▸dom l (lb l hl)
 n0:=n
 ρ0:=ρ
 tv0:=vs.map some
 xw:=fun _ _=>False
theorem RDs.sl: ∀{ts:List D} {vs:List V},RDs G ρ H ts vs->Sl G ρ H (ts.map some) (vs.map some)/\z05 (ts.map some)=labsL ts
 |[],vs,h=>by simp only[RDs] at h;subst h;simp[Sl,z05,labsL]
 |d::ds,vs,h=>by
  simp only[RDs] at h
  obtain⟨x,q,rfl,h1,h2⟩:=h
  obtain⟨q1,q2⟩:=RDs.sl h2
  refine⟨?_,by simp only[List.map_cons,z05,labsL,q2]⟩
  simp only[List.map_cons,Sl]
  exact⟨_,_,rfl,h1,q1⟩
theorem z5K{ts ts':List D}{vs:List V}{n:Nat}{lb: ∀l∈labsL ts,l<n}{dom: ∀l,l<n->∃o,H (ρ l)=some o}(inj: ∀i j,i<n->j<n->ρ i=ρ j->i=j)(M:MR G (z98 G ρ n ts vs H lb dom).toFx ρ' H' σv (vs.map some) s)(e:z0a s.tm=some ts'):
 z4B G ρ n ts vs H ρ' s.n ts' H'/\∀l,l<s.n->((z98 G ρ n ts vs H lb dom).A0 (ρ' l)\/H (ρ' l)=none)->l<n->l∈labsL ts:=by
 have own: ∀l,l<s.n->((z98 G ρ n ts vs H lb dom).A0 (ρ' l)\/H (ρ' l)=none)->l<n->l∈labsL ts:=fun l hl q hn=>by
  have ol:=M.bas.2 l hn
  have ol:ρ' l=ρ l:=ol
  rcases q with⟨j,hj,q⟩|q
  ·rw[ol] at q
   rw[inj l j hn (lb j hj) q];exact hj
  ·rw[ol] at q
   obtain⟨o,z⟩:=dom l hn
   rw[z] at q;cases q
 obtain⟨r1,r2⟩:=Sl.all M.tm e
 refine⟨⟨M.bas.2,M.bas.1,M.inj,M.dom,r1,fun l hl=> ?_,fun a o e1=> ?_,fun l h1 h2=> ?_,M.kd⟩,own⟩
 ·rw[r2] at hl
  have m:l∈z0q s:=List.mem_append_right _ hl
  exact⟨M.lab l m,own l (M.lab l m) (M.own l m)⟩
 ·obtain⟨q1,q2⟩:=M.frm a o e1
  exact⟨q1,fun z=>q2 fun⟨l,hl,e⟩=>z l hl e⟩
 ·cases q:H (ρ' l) with
  |none=>rfl
  |some o=>
   refine absurd ⟨⟨o,q⟩,fun j hj e=> ?_⟩ (M.frb l h2)
   have oj:ρ' j=ρ j:=M.bas.2 j hj
   have:=M.inj l j h2 (Nat.lt_of_lt_of_le hj M.bas.1) (e.trans oj.symm)
   lia
theorem fn_M{P:Program}{w:World}{K:W.Frag}{mg:Str->Option Value}{base:Heap}{x qual:Str}{st:Stmt}{fa:Addr}{fd:FuncData}{N ps:List Str}{k:Nat}{mb:MS}(Fn:Fun K x qual st fa fd)(S:z0l N ps (z03 st))(hG:G.K=K)
 (hb: ∀(cdv:Value) (A:Around) (outer:List Env) (s:Shared) (H:Hp) (E:XK) (F:Fy),Room k (A.deeper (envOfC qual (z03 st) s.heap.objs.size fa cdv))->SSs (cxOf CX0 P w K mg base N qual (z03 st) fa cdv A outer s H E).nox G F (z15 st) mb):
 FnOk P w K mg base CX0 (k+1) fa fd ps (spM G ps.length (runF N.length mb)):=by
 refine Fn.ok S (fun vs H Q E h=>h.1) fun cdv A outer s H vs Q E hr h=> ?_
 obtain⟨hl,ρ,n,ts,r,inj,dom,lb,kd,W⟩:=h
 refine⟨_,hb cdv A outer s H E (z98 G ρ n ts vs H lb dom) hr,vs.map some,List.suffix_refl _,ρ,{σ:=ts.map some++List.replicate (N.length -ts.length) none,tm:=ts.map some,n:=n}, ?_, ?_⟩
 ·obtain⟨r1,r2⟩:=RDs.sl r
  have hlen:=r.length
  have sub: ∀l∈z0q {σ:=ts.map some++List.replicate (N.length -ts.length) none,tm:=ts.map some,n:=n},l∈labsL ts:=fun l h=>by
   rcases List.mem_append.mp h with h|h
   ·have h:l∈z05 (ts.map some++List.replicate (N.length -ts.length) none):=h
    rw[z08] at h
    rcases List.mem_append.mp h with h|h
    ·rw[<-r2];exact h
    ·exact absurd h (z26 _)
   ·rw[<-r2];exact h
  refine⟨?_,r1,inj,dom,fun l h=>lb l (sub l h),fun l h=> .inl ⟨l,sub l h,rfl⟩,fun a o e=>⟨⟨o,e⟩,fun _=>e⟩,kd,fun l hl z=>z.2 l hl rfl,⟨Nat.le_refl _,fun l _=>rfl⟩⟩
  show Sl G ρ H _ (vs.map some++List.replicate (N.length -vs.length) none)
  rw[<-hlen]
  exact r1.append (Sl.none_map _)
 ·unfold runF at W
  cases e:mb {σ:=ts.map some++List.replicate (N.length -ts.length) none,tm:=ts.map some,n:=n} with
  |nx s'=>
   simp only[e] at W
   cases ea:z0a s'.tm with
   |none=>simp only[ea] at W
   |some ts'=>
    simp only[ea] at W
    intro ρ' σv' H' M
    obtain⟨P,_⟩:=z5K inj M ea
    exact W ρ' .non H' P (by simp only[RD]) fun l h=>by simp[labs] at h
  |rt t s'=>
   simp only[e] at W
   cases ea:z0a s'.tm with
   |none=>simp only[ea] at W
   |some ts'=>
    simp only[ea] at W
    intro ρ' σv' v H' M
    obtain⟨P,own⟩:=z5K inj M.m ea
    exact W ρ' v H' P M.rd1 fun l h=>⟨(M.lb1 l h).1,own l (M.lb1 l h).1 (M.lb1 l h).2⟩
  |bk s'=>simp only[e] at W
  |ct s'=>simp only[e] at W
  |ex d s'=>
   simp only[e] at W
   cases ea:z0a s'.tm with
   |none=>simp only[ea] at W
   |some ts'=>simp only[ea] at W
  |no=>simp only[e] at W
end
mutual
noncomputable def sz:D->Nat
 | .tup ds=>szL ds+1
 | .ro ds=>szL ds+1
 | .fdc _ vs=>szL vs+1
 | .lst _ ds=>szL ds+1
 | .dct _ _ vs=>szL vs+1
 | .obj _ _ _ vs=>szL vs+1
 | .non=>1| .bool _=>1| .int _=>1| .str _=>1| .exc _=>1| .fn _=>1
noncomputable def szL:List D->Nat
 |[]=>0
 |d::ds=>sz d+szL ds
end
mutual
theorem z99(l:Nat): ∀(t d:D),z0b l t=some d->sz d<=sz t
 | .non,d,e=>by simp only[z0b] at e;cases e
 | .bool b,d,e=>by simp only[z0b] at e;cases e
 | .int b,d,e=>by simp only[z0b] at e;cases e
 | .str b,d,e=>by simp only[z0b] at e;cases e
 | .exc b,d,e=>by simp only[z0b] at e;cases e
 | .fn b,d,e=>by simp only[z0b] at e;cases e
 | .tup ds,d,e=>by simp only[z0b,sz] at e⊢;have:=findL_sz l ds d e;lia
 | .ro ds,d,e=>by simp only[z0b,sz] at e⊢;have:=findL_sz l ds d e;lia
 | .fdc ks vs,d,e=>by simp only[z0b,sz] at e⊢;have:=findL_sz l vs d e;lia
 | .lst k ds,d,e=>by
  simp only[z0b] at e
  by_cases h:k=l
  ·rw[if_pos h] at e;cases e;exact Nat.le_refl _
  ·rw[if_neg h] at e;simp only[sz];have:=findL_sz l ds d e;lia
 | .dct k ks vs,d,e=>by
  simp only[z0b] at e
  by_cases h:k=l
  ·rw[if_pos h] at e;cases e;exact Nat.le_refl _
  ·rw[if_neg h] at e;simp only[sz];have:=findL_sz l vs d e;lia
 | .obj k c ns vs,d,e=>by
  simp only[z0b] at e
  by_cases h:k=l
  ·rw[if_pos h] at e;cases e;exact Nat.le_refl _
  ·rw[if_neg h] at e;simp only[sz];have:=findL_sz l vs d e;lia
theorem findL_sz(l:Nat): ∀(t:List D) (d:D),findL l t=some d->sz d<=szL t
 |[],d,e=>by simp only[findL] at e;cases e
 |t::ts,d,e=>by
  simp only[findL] at e
  simp only[szL]
  cases e1:z0b l t with
  |some y=>rw[e1] at e;cases e;have:=z99 l t _ e1;lia
  |none=>rw[e1] at e;have:=findL_sz l ts d e;lia
end
section
variable{G:Gx}{F:Fy}{ρ:Nat->Addr}{H:Hp}{σv tv:List (Option V)}{s:Stt}{t:D}{ts ds es:List D}{v:V}{vs xs ys:List V}{l:Nat}{Q:VK}
theorem z7r(M:MR G F.toFx ρ H σv tv s)(h:RD G ρ H (.lst l ds) v)(lb: ∀j∈labs (.lst l ds),j<s.n):l∉labsL ds:=fun hl=>by
 have h0:=h
 simp only[RD] at h0
 obtain⟨rfl,xs,q,r⟩:=h0
 have:=findL_some l ds xs r hl
 cases e:findL l ds with
 |none=>rw[e] at this;cases this
 |some d=>
  obtain⟨q1,q2⟩:=findL_rd l ds xs d r e
  have e2:=RD.uniq M.kd M.inj _ _ _ q1 h (fun j hj=>lb j (by simp only[labs];exact List.mem_cons_of_mem _ (q2 j hj))) lb
  have e3:=findL_sz l ds d e
  rw[e2] at e3
  simp only[sz] at e3
  lia
theorem MR.put2{o:HO}{d:D}(M:MR G F.toFx ρ H σv tv s)(ln:l<s.n)(ow:F.A0 (ρ l)\/F.H0 (ρ l)=none)(ts:z0J H (upd H (ρ l) o))(k:KD G.K (upd H (ρ l) o))(hd:RD G ρ (upd H (ρ l) o) d (.ref (ρ l)))(hb:LB F.toFx ρ s.n (labs d)):
 MR G F.toFx ρ (upd H (ρ l) o) σv tv (s.put l d):=by
 have step: ∀k,k∈z0q s->ρ k=ρ k/\(match (if k=l then some d else none:Option D) with|some d=>RD G ρ (upd H (ρ l) o) d (.ref (ρ k))|none=> ∀o',H (ρ k)=some o'->upd H (ρ l) o (ρ k)=some o'):=fun k hk=>by
  refine⟨rfl, ?_⟩
  by_cases e:k=l
  ·rw[if_pos e];subst e;exact hd
  ·rw[if_neg e]
   intro o' q
   rw[z04 (fun z=>e (M.inj k l (M.lab k hk) ln z))]
   exact q
 have sub: ∀(xs:List (Option D)) (j:Nat),j∈z05 (rpO (fun k=>if k=l then some d else none) xs)->(∀i∈z05 xs,i∈z0q s)->j<s.n/\(F.A0 (ρ j)\/F.H0 (ρ j)=none):=fun xs j h hx=>by
  rcases z2F j xs h with q|⟨k,d',q1,q2,q3⟩
  ·exact⟨M.lab j (hx j q),M.own j (hx j q)⟩
  ·by_cases e:k=l
   ·rw[if_pos e] at q2;cases q2;exact hb j q3
   ·rw[if_neg e] at q2;cases q2
 have all: ∀j∈z0q (s.put l d),j<s.n/\(F.A0 (ρ j)\/F.H0 (ρ j)=none):=fun j h=>by
  rcases List.mem_append.mp h with h|h
  ·exact sub s.σ j h fun i hi=>List.mem_append_left _ hi
  ·exact sub s.tm j h fun i hi=>List.mem_append_right _ hi
 refine⟨Sl.rp ts M.sl fun k hk=>step k (List.mem_append_left _ hk),Sl.rp ts M.tm fun k hk=>step k (List.mem_append_right _ hk),M.inj,fun k hk=> ?_,fun j h=>(all j h).1,fun j h=>(all j h).2,fun a o' e=> ?_,k,M.frb,M.bas⟩
 ·by_cases e:ρ k=ρ l
  ·rw[e];exact⟨o,z07⟩
  ·rw[z04 e];exact M.dom k hk
 ·obtain⟨⟨o1,e1⟩,e2⟩:=M.frm a o' e
  by_cases ea:a=ρ l
  ·subst ea
   refine⟨⟨o,z07⟩,fun n=> ?_⟩
   rcases ow with q|q
   ·exact absurd q n
   ·rw[e] at q;cases q
  ·rw[z04 ea]
   exact⟨⟨o1,e1⟩,e2⟩
theorem z7s{o o':HO}{a:Addr}(k:KD G.K H)(e:H a=some o):KD G.K (upd H a o'):=fun b ob q=>by
 by_cases h:b=a
 ·subst h;rw[k _ _ q] at e;cases e
 ·rw[z04 h];exact k _ _ q
theorem z4C{o':HO}{a:Addr}{xs:List V}(e:H a=some (.lst xs)):z0J H (upd H a o'):=
 ⟨fun b ys q=>by rw[z04 (z3j q e (by intro z;cases z))];exact q,fun b o u q=>by rw[z04 (z3j q e (by intro z;cases z))];exact q⟩
theorem RDs.upd{o:HO}{a:Addr}(st:z0J H (upd H (ρ l) o))(inj: ∀i j,i<s.n->j<s.n->ρ i=ρ j->i=j)(ln:l<s.n)(r:RDs G ρ H ds xs)(lb: ∀j∈labsL ds,j<s.n/\j≠l):RDs G ρ (L2.upd H (ρ l) o) ds xs:=
 RDs.stay st ds xs r fun j hj=>⟨rfl,fun o' e=>by rw[z04 (fun z=>(lb j hj).2 (inj j l (lb j hj).1 ln z))];exact e⟩
theorem MR.putL(M:MR G F.toFx ρ H σv tv s)(hl:H (ρ l)=some (.lst xs))(ln:l<s.n)(ow:F.A0 (ρ l)\/F.H0 (ρ l)=none)(r:RDs G ρ H es ys)(lb:LB F.toFx ρ s.n (labsL es))(ne:l∉labsL es):
 MR G F.toFx ρ (upd H (ρ l) (.lst ys)) σv tv (s.put l (.lst l es)):=by
 refine M.put2 ln ow (z4C hl) (z7s M.kd hl) ?_ fun j hj=> ?_
 ·simp only[RD]
  exact⟨trivial,ys,z07,RDs.upd (a:=0) (z4C hl) M.inj ln r fun j hj=>⟨(lb j hj).1,fun z=>ne (z▸hj)⟩⟩
 ·simp only[labs] at hj
  rcases List.mem_cons.mp hj with q|q
  ·rw[q];exact⟨ln,ow⟩
  ·exact lb j q
end
noncomputable def appD:D->List D->M D
 | .lst l ds,[y]=>fun s=>if ds.length<sizeLine/\l∉labs y then .ok .non (s.put l (.lst l (ds++[y]))) else .no
 |_,_=>fl
noncomputable def isL(x:D):M Unit:=fun s=>match lstD x with|some _=> .ok () s|none=> .no
noncomputable def z3V(mo:M D)(ms:List (M D))(g:D->List D->M D):M D:=bd mo fun x=>bd (isL x) fun _=>bd (psh x) fun _=>bd (z0c ms) fun ys=>bd pop fun x'=>g x' ys
section
variable{X:Cx}{G:Gx}{F:Fy}{e o:Expr}{es:List Expr}{apos cpos:Pos}
noncomputable def MtOK(G:Gx)(F:Fy)(r:V->List V->Hp->VK->Prop)(g:D->List D->M D):Prop:= ∀ρ s t ts v vs H σv tv Q,MRL G F.toFx ρ H σv tv s (t::ts) (v::vs)->wM G F σv tv (g t ts s) Q->r v vs H (fun w H'=>KD G.K H'->Q w H')
theorem MRL.hd{ρ:Nat->Addr}{H:Hp}{σv tv:List (Option V)}{s:Stt}{t:D}{ts:List D}{v:V}{vs:List V}(M:MRL G F.toFx ρ H σv tv s (t::ts) (v::vs)):RD G ρ H t v/\RDs G ρ H ts vs/\LB F.toFx ρ s.n (labs t)/\LB F.toFx ρ s.n (labsL ts):=by
 have h:=M.rd
 simp only[RDs] at h
 obtain⟨_,_,e,h1,h2⟩:=h
 cases e
 exact⟨h1,h2,fun l h=>M.lb l (by simp only[labsL];exact List.mem_append_left _ h),fun l h=>M.lb l (by simp only[labsL];exact List.mem_append_right _ h)⟩
theorem zcF:MtOK G F z71 appD:=by
 intro ρ s t ts v vs H σv tv Q M W
 obtain⟨h1,h2,b1,b2⟩:=M.hd
 unfold appD at W
 split at W
 ·rename_i l ds y
  split at W
  ·rename_i hc
   have h1':=h1
   simp only[RD] at h1
   obtain⟨rfl,xs,hx,r⟩:=h1
   simp only[RDs] at h2
   obtain⟨u,q,rfl,h2,rfl⟩:=h2
   have ns:=z7r M.m h1' fun j hj=>(b1 j hj).1
   have bl:=b1 l (by simp only[labs];exact List.mem_cons_self ..)
   refine⟨_,xs,u,rfl,rfl,hx,by rw[<-r.length];exact hc.1,fun _=>W.out (M.m.putL hx bl.1 bl.2 (r.append (RDs.one h2)) ?_ ?_) (by simp only[RD]) fun l h=>by simp[labs] at h⟩
   ·intro j hj
    rw[z0r] at hj
    rcases List.mem_append.mp hj with q|q
    ·exact b1 j (by simp only[labs];exact List.mem_cons_of_mem _ q)
    ·exact b2 j q
   ·intro hj
    rw[z0r] at hj
    rcases List.mem_append.mp hj with q|q
    ·exact ns q
    ·simp only[labsL,List.append_nil] at q;exact hc.2 q
  ·exact False.elim W
 ·exact wfl W
theorem z9a{T:String}{mo:M D}{ms:List (M D)}{g:D->List D->M D}{r:V->List V->Hp->VK->Prop}{σ:L2.St}{H:Hp}{Q:VK}(hT:T= "list")(hg:MtOK G F r g)(h:tM G F (z3V mo ms g) σ H Q):
 tM G F mo σ H fun x H1=>tyV G.K T x H1/\tML G F (z0c ms) σ H1 fun xs H2=>r x xs H2 fun w H'=>KD G.K H'->Q w H':=by
 obtain⟨tv,h⟩:=h
 have hs:=h.1
 refine⟨tv,(z59 h).mono fun v H1 ⟨ρ1,s1,t,M1,W⟩=> ?_⟩
 simp only[bd,isL] at W
 cases e1:lstD t with
 |none=>simp only[e1] at W;exact False.elim W
 |some ds=>
  simp only[e1,psh] at W
  obtain⟨a,xs,rfl,sq,_⟩:=M1.rd1.lstq e1
  refine⟨.inl ⟨hT,xs,sq⟩,some (.ref a)::tv,suf1 hs,ρ1,s1.psh t,M1.push, ?_⟩
  cases e2:z0c ms (s1.psh t) with
  |ex d s2=>simp only[e2] at W;exact W
  |no=>simp only[e2] at W;exact W
  |ok ys s2=>
   simp only[e2,pop] at W
   intro ρ2 us H2 M2
   cases e3:s2.tm with
   |nil=>simp only[e3] at W;exact False.elim W
   |cons o r=>
    cases o with
    |none=>simp only[e3] at W;exact False.elim W
    |some t'=>
     simp only[e3] at W
     exact hg _ _ _ _ _ _ _ _ _ _ (M2.down e3) W
theorem zaD{name:Str}{id:String}{r:V->List V->Hp->VK->Prop}{mo:M D}{ms:List (M D)}{g:D->List D->M D}(hk:X.K=G.K)(slot:Slot "list" name id)(hty:typeOf (.builtin id)=pure (.type "method_descriptor"))(hm:MtR X id r)(hg:MtOK G F r g)(ho:SE X G F o mo)(ha:SA X G F (e::es) (z0c ms))
 (hbase:attributeBase o name X.env (eval o X.env)=eval o X.env:=by rfl)
 (hfew:((backTo cpos (starEach (e::es) X.env)).all (fun x=> !x.1)&&(backToKw cpos (keywordEach [] X.env)).all (fun x=>x.1.isSome)
  &&decide ((e::es).length+([]:List Keyword).length+(if([]:List Keyword).isEmpty then 0 else 1)<30))=true:=by rfl)
 (hline:(apos.endLine==cpos.line)=true:=by rfl) (hs:starEach (e::es) X.env=(false,eval e X.env)::starEach es X.env:=by rfl) (hplain:(backTo cpos (starEach es X.env)).any (·.1)=false:=by rfl):SE X G F (.Call (.Attribute o name apos) (e::es) [] cpos) (z3V mo ms g):=by
 refine PE.imp hk (zem PySem.F.plainAttrs_list slot hty hm ho ha hbase hfew hline hs hplain) fun σ H Q h=> ?_
 rw[hk]
 exact z9a rfl hg h
noncomputable def setD(o i v:D):MS:=fun s=>match o,i with
 | .lst l ds, .int k=>match ixN ds.length k with
  |some j=>if l∉labs v then .nx (s.put l (.lst l (ds.set j v))) else .no
  |none=> .no
 |_,_=> .no
noncomputable def mTri(me mo mi:M D)(g:D->D->D->MS):MS:=lift me fun v=>lift (psh v) fun _=>lift mo fun o=>lift (psh o) fun _=>lift mi fun i=>lift pop fun o'=>lift pop fun v'=>g o' i v'
theorem z9b{mo mi:M D}{g:D->D->D->MS}{tv:List (Option V)}{Dd:Ends}{σ:L2.St}{H1:Hp}{ρ1:Nat->Addr}{s1:Stt}{t:D}{v:V}(hs:F.tv0<:+tv)(M1:MRL G F.toFx ρ1 H1 σ tv s1 [t] [v])
 (W:wS G F tv ((lift (psh t) fun _=>lift mo fun o=>lift (psh o) fun _=>lift mi fun i=>lift pop fun o'=>lift pop fun v'=>g o' i v') s1) Dd):
 tM G F mo σ H1 fun o H2=>tM G F mi σ H2 fun i H3=> ∃ρ s t1 t2 t3,MRL G F.toFx ρ H3 σ tv s [t1,t2,t3] [v,o,i]/\wS G F tv (g t2 t3 t1 s) Dd:=by
 refine⟨some v::tv,suf1 hs,ρ1,s1.psh t,M1.push, ?_⟩
 simp only[lift,psh] at W
 cases e1:mo (s1.psh t) with
 |ex d s2=>simp only[e1] at W;exact W
 |no=>simp only[e1] at W;exact W
 |ok o s2=>
  simp only[e1] at W
  intro ρ2 u H2 M2
  refine⟨some u::some v::tv,suf1 (suf1 hs),ρ2,s2.psh o,M2.push, ?_⟩
  cases e2:mi (s2.psh o) with
  |ex d s3=>simp only[e2] at W;exact W
  |no=>simp only[e2] at W;exact W
  |ok i s3=>
   simp only[e2,pop] at W
   intro ρ3 w H3 M3
   cases e3:s3.tm with
   |nil=>simp only[e3] at W;exact False.elim W
   |cons o3 r3=>
    cases o3 with
    |none=>simp only[e3] at W;exact False.elim W
    |some x3=>
     simp only[e3] at W
     cases r3 with
     |nil=>exact False.elim W
     |cons o4 r4=>
      cases o4 with
      |none=>exact False.elim W
      |some x4=>
       have M4:=M3.down e3
       have M5:=M4.down (s':={s3 with tm:=some x4::r4}) rfl
       exact⟨ρ3,_,x4,x3,i,M5,W⟩
theorem z7t{me mo mi:M D}{g:D->D->D->MS}{tv:List (Option V)}{Dd:Ends}{σ:L2.St}{H:Hp}(h:tSv G F (mTri me mo mi g) tv Dd σ H):
 tM G F me σ H fun v H1=>tM G F mo σ H1 fun o H2=>tM G F mi σ H2 fun i H3=> ∃ρ s t1 t2 t3,MRL G F.toFx ρ H3 σ tv s [t1,t2,t3] [v,o,i]/\wS G F tv (g t2 t3 t1 s) Dd:=
 ⟨tv,(z1U h).mono fun v H1 ⟨ρ1,s1,t,M1,W⟩=>z9b h.1 M1 W⟩
theorem zcG{ρ:Nat->Addr}{s:Stt}{t1 t2 t3:D}{v o i:V}{H:Hp}{σv tv:List (Option V)}{Dd:Ends}(M:MRL G F.toFx ρ H σv tv s [t1,t2,t3] [v,o,i])(W:wS G F tv (setD t2 t3 t1 s) Dd):z8R o i v H fun H'=>Dd.nx σv H':=by
 have h:=M.rd
 simp only[RDs] at h
 obtain⟨_,_,e,h1,_,_,e2,h2,_,_,e3,h3,_⟩:=h
 cases e;cases e2;cases e3
 have b1:LB F.toFx ρ s.n (labs t1):=fun l h=>M.lb l (by simp only[labsL];exact List.mem_append_left _ h)
 have b2:LB F.toFx ρ s.n (labs t2):=fun l h=>M.lb l (by simp only[labsL];exact List.mem_append_right _ (List.mem_append_left _ h))
 cases t2 with
 |lst l ds=>
  cases t3 with
  |int k=>
   simp only[setD] at W
   cases ek:ixN ds.length k with
   |none=>simp only[ek] at W;exact False.elim W
   |some j=>
    simp only[ek] at W
    by_cases hc:l∉labs t1
    ·rw[if_pos hc] at W
     have h2':=h2
     simp only[RD] at h2 h3
     obtain⟨rfl,xs,hx,r⟩:=h2
     subst h3
     have ns:=z7r M.m h2' fun j hj=>(b2 j hj).1
     have bl:=b2 l (by simp only[labs];exact List.mem_cons_self ..)
     have mm: ∀q,q∈labsL (ds.set j t1)->q∈labsL ds\/q∈labs t1:=fun q hq=>by
      obtain⟨d,h1,h2⟩:=z0V hq
      rcases List.mem_or_eq_of_mem_set h1 with z|z
      ·exact .inl (labsL_mem z q h2)
      ·subst z;exact .inr h2
     refine⟨_,xs,k,j,rfl,rfl,hx,by rw[<-r.length];exact ek,W ρ σv _ (M.m.putL hx bl.1 bl.2 (r.set j h1) (fun q hq=> ?_) fun hq=> ?_)⟩
     ·rcases mm q hq with z|z
      ·exact b2 q (by simp only[labs];exact List.mem_cons_of_mem _ z)
      ·exact b1 q z
     ·rcases mm l hq with z|z
      ·exact ns z
      ·exact hc z
    ·rw[if_neg hc] at W;exact False.elim W
  |_=>exact False.elim W
 |_=>exact False.elim W
theorem ss_setI{ob ix:Expr}{pos tpos:Pos}{mo mi me:M D}(he:SE X G F e me)(ho:SE X G F ob mo)(hi:SE X G F ix mi)(hg: ∀{to ti:TE},PE X ob to->PE X ix ti->PG X (.Subscript ob ix tpos) (gSub to ti z8R))(hs:swapsWithSole [.Subscript ob ix tpos] e pos.line X.env=pure false:=by rfl)(hw:swappedStores [.Subscript ob ix tpos] e X.env=pure none:=by rfl)
 (h1:(assignEach [.Subscript ob ix tpos] X.env).map (·.2)=[assign (.Subscript ob ix tpos) X.env]:=by rfl):SS X G F (.Assign [.Subscript ob ix tpos] e pos) (mTri me mo mi setD):=by
 refine PS.imp0 (z9G he (hg ho hi) hs hw h1) fun Dd σ H ⟨tv,h⟩=> ?_
 exact(z7t h).mono fun v H1 h1=>h1.mono fun o H2 h2=>h2.mono fun i H3 ⟨ρ,s,t1,t2,t3,M,W⟩=>zcG M W
end
end Mi
namespace Mi
open PySem L2
section
variable{X:Cx}{G:Gx}{F:Fy}{e a b c:Expr}{pos:Pos}{ma mb mc m:M D}
theorem se_add(hk:X.K=G.K)(ha:SE X G F a ma)(hb:SE X G F b mb):SE X G F (.BinOp a .Add b pos) (mBin ma mb addD):=
 z6g hk (r:=fun x y H Q=>rI0 (fun i j=> .int (i+j)) x y H Q\/zar G.K x y H Q\/rCat x y H Q\/∃i j,x= .str i/\y= .str j/\i.length+j.length<=sizeLine/\Q (.str (i++j)) H) (hk▸OpR.or zbT (OpR.or zas (OpR.or zc8 z69))) zcm ha hb
theorem se_sub(hk:X.K=G.K)(ha:SE X G F a ma)(hb:SE X G F b mb):SE X G F (.BinOp a .Sub b pos) (mBin ma mb subD):=z6g hk zbU zcn ha hb
theorem se_mul(hk:X.K=G.K)(ha:SE X G F a ma)(hb:SE X G F b mb):SE X G F (.BinOp a .Mult b pos) (mBin ma mb mulD):=z6g hk (r:=fun x y H Q=>rI CMul (fun i j=> .int (i*j)) x y H Q\/(rRep x y H Q\/zat G.K x y H Q)) (OpR.or zbV (OpR.or zc9 (hk▸zau))) zcs ha hb
theorem se_fdiv(hk:X.K=G.K)(ha:SE X G F a ma)(hb:SE X G F b mb):SE X G F (.BinOp a .FloorDiv b pos) (mBin ma mb z25):=z6g hk za4 zax ha hb
theorem se_mod(hk:X.K=G.K)(ha:SE X G F a ma)(hb:SE X G F b mb):SE X G F (.BinOp a .Mod b pos) (mBin ma mb modD):=z6g hk zbW zco ha hb
theorem se_pow(hk:X.K=G.K)(ha:SE X G F a ma)(hb:SE X G F b mb):SE X G F (.BinOp a .Pow b pos) (mBin ma mb powD):=z6g hk zbX zcp ha hb
theorem se_neg(hk:X.K=G.K)(ha:SE X G F a ma):SE X G F (.UnaryOp .USub a pos) (bd ma negD):=zer hk z9H zcr ha
structure Cm(X:Cx)(G:Gx)(F:Fy)(op:CmpOp)(g:D->D->M D):Prop where
 h: ∃r,OpR X (compareOp op) r/\z1C G F r g
theorem zaE:Cm X G F .Lt ltD:=⟨_,zee,zet⟩
theorem z6o:Cm X G F .LtE leD:=⟨_,zef,zeu⟩
theorem z7u:Cm X G F .Gt gtD:=⟨_,zeg,zev⟩
theorem z3W(hk:X.K=G.K)(hu:X.A.units+64<cLine):Cm X G F .Eq eqD:=⟨_,hk▸zce hu,zew⟩
theorem zaF(hk:X.K=G.K)(hu:X.A.units+64<cLine):Cm X G F .NotEq neD:=⟨_,hk▸zcf hu,zex⟩
theorem zeB(hk:X.K=G.K)(hu:X.A.units+64<cLine):Cm X G F .In inD:=⟨_,hk▸zcg hu,zey⟩
theorem se_cmp{op:CmpOp}{g:D->D->M D}(hc:Cm X G F op g)(ha:SE X G F a ma)(hb:SE X G F b mb)(hm:behindInMarks op b=false):SE X G F (.Compare a [op] [b] pos) (mBin ma mb g):=by
 obtain⟨r,h1,h2⟩:=hc.h
 exact zav h1 h2 ha hb hm
theorem sb_cmp{op:CmpOp}{g:D->D->M D}(hc:Cm X G F op g)(ha:SE X G F a ma)(hb:SE X G F b mb)(hm:behindInMarks op b=false):SB X G F (.Compare a [op] [b] pos) (mBoo (mBin ma mb g)):=by
 obtain⟨r,h1,h2⟩:=hc.h
 exact zaz h1 h2 ha hb hm
theorem se_cmp2{op op':CmpOp}{g g':D->D->M D}(hc:Cm X G F op g)(hc':Cm X G F op' g')(ha:SE X G F a ma)(hb:SE X G F b mb)(hcc:SE X G F c mc)(hm:lastMarks [op,op'] [b,c]=false:=by with_unfolding_all rfl):SE X G F (.Compare a [op,op'] [b,c] pos) (z1k ma mb mc g g'):=by
 obtain⟨r,h1,h2⟩:=hc.h
 obtain⟨r',h1',h2'⟩:=hc'.h
 exact z90 h1 h2 h1' h2' ha hb hcc hm
theorem sb_cmp2{op op':CmpOp}{g g':D->D->M D}(hc:Cm X G F op g)(hc':Cm X G F op' g')(ha:SE X G F a ma)(hb:SE X G F b mb)(hcc:SE X G F c mc)(hm:lastMarks [op,op'] [b,c]=false:=by with_unfolding_all rfl):SB X G F (.Compare a [op,op'] [b,c] pos) (mBoo (z1k ma mb mc g g')):=by
 obtain⟨r,h1,h2⟩:=hc.h
 obtain⟨r',h1',h2'⟩:=hc'.h
 exact z91 h1 h2 h1' h2' ha hb hcc hm
theorem se_idx(hk:X.K=G.K)(ha:SE X G F a ma)(hb:SE X G F b mb)(hs:z1B b):SE X G F (.Subscript a b pos) (mBin ma mb ixD):=zes hk (hk▸IxR.or zae zc6) zez ha hb hs
structure Cb(X:Cx)(G:Gx)(F:Fy)(f:Value)(g:List D->M D):Prop where
 h: ∃r,CallR X f r/\z0K G F r g
theorem zcH(hk:X.K=G.K):Cb X G F (.builtin "len") lenD:=⟨_,hk▸z4s,zcw⟩
theorem zcI:Cb X G F (.builtin "abs") absD:=⟨_,z8N,zcx⟩
theorem z9L(hc:X.calm=true):Cb X G F (.builtin "min") minD:=⟨_,z6T hc,zcy⟩
theorem zcJ(hc:X.calm=true):Cb X G F (.builtin "max") maxD:=⟨_,z6S hc,zcz⟩
theorem z7v(hk:X.K=G.K)(hd:X.A.handled=none):Cb X G F (.builtin "all") allD:=⟨_,hk▸z77 hd,zcA⟩
theorem z9M:Cb X G F (.type "int") intD:=⟨_,z6U,zcB⟩
theorem z27(hk:X.K=G.K):Cb X G F (.type "tuple") tupF:=⟨_,hk▸z79,zaB⟩
theorem z7w(hk:X.K=G.K):Cb X G F (.type "list") z6k:=⟨_,hk▸z4t,z92⟩
theorem se_cb{x:Str}{p:Pos}{es:List Expr}{ms:List (M D)}{g:List D->M D}{id:String}(hk:X.K=G.K)(hc:Cb X G F (.builtin id) g)(hgl:Gl X x)(hm:X.mg x=none)(hv:bootBuiltins x=some (.builtin id))(ha:SA X G F (e::es) (z0c ms))(hn:x≠ "__name__" :=by decide)(hdb:(x==("__debug__" :Str))=false:=by decide)
 (he:starEach (e::es) X.env=(false,eval e X.env)::starEach es X.env:=by rfl) (hpl:(backTo pos (starEach es X.env)).any (·.1)=false:=by rfl):SE X G F (.Call (.Name x p) (e::es) [] pos) (mCB ms g):=by
 obtain⟨r,h1,h2⟩:=hc.h
 exact z8Y hk h1 h2 hgl hm hv ha hn hdb he hpl
theorem se_ct{x:Str}{p:Pos}{es:List Expr}{ms:List (M D)}{g:List D->M D}{T:String}(hk:X.K=G.K)(hc:Cb X G F (.type T) g)(hgl:Gl X x)(hm:X.mg x=none)(hv:bootBuiltins x=some (.type T))(ha:SA X G F (e::es) (z0c ms))(hn:x≠ "__name__" :=by decide)(hdb:(x==("__debug__" :Str))=false:=by decide)
 (he:starEach (e::es) X.env=(false,eval e X.env)::starEach es X.env:=by rfl) (hpl:(backTo pos (starEach es X.env)).any (·.1)=false:=by rfl):SE X G F (.Call (.Name x p) (e::es) [] pos) (mCB ms g):=by
 obtain⟨r,h1,h2⟩:=hc.h
 exact z7f hk h1 h2 hgl hm hv ha hn hdb he hpl
structure Cl(X:Cx)(G:Gx)(F:Fy)(id:String)(g:D->List D->M D):Prop where
 h: ∃r,MtR X id r/\MtOK G F r g
theorem z4D:Cl X G F "list.append" appD:=⟨_,z2M,zcF⟩
end
end Mi
namespace Mi
open PySem L2 PySem.Spec PyProof.Rows
noncomputable def tyO(p:Addr)(Ts:List String):HO:= .ext fun h=>h.get? p=some {cls:= .type "tuple",data:= .seq (Ts.map Value.type).toArray}
section
variable{X:Cx}{G:Gx}{F:Fy}{e a b c:Expr}{pos:Pos}
noncomputable def tTys(Ts:List String):TE:=fun σ H Q=> ∀p,H p=none->Q (.ref p) (upd H p (tyO p Ts))
theorem z7x: ∀{Ts:List String} {us:List Value},Vals (Ts.map V.ty) us->us=Ts.map Value.type
 |[],_, .nil=>rfl
 |T::Ts,_, .cons r t=>by
  have e:_=Value.type T:=r
  rw[e,z7x t];rfl
theorem z9c{es:List Expr}{k}{Ts:List String}{t:TA}(h:PA X es t)(ht: ∀σ H Q,Q (Ts.map V.ty) H->t σ H Q)(hl:Ts.length<=20):PE X (.Tuple es k pos) (tTys Ts):=by
 intro pins s σ H Q I hq
 refine wpAny_Tuple_spliced (thn (h pos pins s σ H (fun vs H1=>vs=Ts.map V.ty/\H1=H) I (ht _ _ _ ⟨rfl,rfl⟩)) fun us s1 ⟨xs,H1,I1,r,e1,e2⟩=>⟨?_, ?_⟩)
 ·rw[<-r.length,e1,List.length_map,sizeLine_eq];lia
 ·subst e1 e2
  have hu:=z7x r
  subst hu
  have hf:H1 s1.heap.objs.size=none:=I1.hok.fresh (Nat.le_refl _)
  refine⟨.ref s1.heap.objs.size,upd H1 s1.heap.objs.size (tyO s1.heap.objs.size Ts),I1.laid (t':=s1.toks) (fun b u e=>Heap.get?_push_of_some _ e) (Nat.le_refl _) ?_,rfl,hq _ hf⟩
  exact⟨Heap.get?_push_size _ rfl,⟨_,Heap.get?_push_size _ rfl⟩,fun h1 h2 q k=>k _ q⟩
noncomputable def zeC(K:W.Frag)(Ts:List String):List V->Hp->VK->Prop:=fun xs H Q=> ∃x p bs,xs=[x, .ref p]/\Ts≠[]/\H p=some (tyO p Ts)/\Paired (fun T b=>(T= "tuple" \/T= "list")/\isiV K H T b x) Ts bs/\Q (.bl (bs.any id)) H
theorem z7y{Ts:List String}:CallR X (.builtin "isinstance") (zeC X.K Ts):=by
 intro pins s σ H xs us Q I r h
 obtain⟨x,p,bs,rfl,hne,hp,hb,q⟩:=h
 have some1: ∃T b,(T= "tuple" \/T= "list")/\isiV X.K H T b x:=by
  cases hb with
  |nil=>exact absurd rfl hne
  |cons h _=>exact⟨_,_,h⟩
 obtain⟨u,u',rfl,ru,ru'⟩:=z8M r
 cases ru'
 have hobj:s.heap.get? p=some {cls:= .type "tuple",data:= .seq (Ts.map Value.type).toArray}:=(I.hok p _ hp).1
 have fin: ∀(Tx:String),s.TypeIs u Tx->AnswersAll (fun s=>s.TypeIs u Tx) u (Ts.map Value.type) bs->wpAny (model X.prog X.w) X.A (call (.builtin "isinstance") [u, .ref p]) (EP X pins σ Q) X.xe s:=fun Tx ht ha=>
  IsiPair.tupleOfB ha ht hobj rfl fun tk=>⟨.bl _,H,I.tok tk,rfl,q⟩
 have all: ∀(Tx:String),(∀T b,(T= "tuple" \/T= "list")/\isiV X.K H T b x->Answers (fun s=>s.TypeIs u Tx) u (.type T) b)->AnswersAll (fun s=>s.TypeIs u Tx) u (Ts.map Value.type) bs:=fun Tx hA=>by
  clear hobj hp q fin hne
  induction hb with
  |nil=>exact AnswersAll.nil
  |cons h _ ih=>exact AnswersAll.cons (hA _ _ h) ih
 cases x with
 |non=>
  cases ru
  refine fin "NoneType" (typeIs_none s) (all _ ?_)
  rintro T b ⟨rfl|rfl,hb⟩<;>cases(show b=false from hb)
  ·exact Answers.of_false_none (by decide+kernel) F.isi_meta_tuple (by rw[isSubtype_type];kernel_rfl)
  ·exact Answers.of_false_none (by decide+kernel) F.isi_meta_list (by rw[isSubtype_type];kernel_rfl)
 |bl k=>
  cases ru
  refine fin "bool" (PySem.typeIs_bool s k) (all _ ?_)
  rintro T b ⟨rfl|rfl,hb⟩<;>cases(show b=false from hb)
  ·exact Answers.of_false_bool (by decide+kernel) F.isi_meta_tuple (by rw[isSubtype_type];kernel_rfl)
  ·exact Answers.of_false_bool (by decide+kernel) F.isi_meta_list (by rw[isSubtype_type];kernel_rfl)
 |int k=>
  obtain⟨t,rfl⟩:=ru
  refine fin "int" (typeIs_int s k t) (all _ ?_)
  rintro T b ⟨rfl|rfl,hb⟩<;>cases(show b=false from hb)
  ·exact Answers.of_false_int (by decide+kernel) F.isi_meta_tuple F.sub_int_tuple
  ·exact Answers.of_false_int (by decide+kernel) F.isi_meta_list (by rw[isSubtype_type];kernel_rfl)
 |str k=>
  obtain⟨t,rfl⟩:=ru
  refine fin "str" (typeIs_str s k t) (all _ ?_)
  rintro T b ⟨rfl|rfl,hb⟩<;>cases(show b=false from hb)
  ·exact Answers.of_false_str (by decide+kernel) F.isi_meta_tuple (by rw[isSubtype_type];kernel_rfl)
  ·exact Answers.of_false_str (by decide+kernel) F.isi_meta_list (by rw[isSubtype_type];kernel_rfl)
 |ref a=>
  cases ru
  by_cases hT: ∃ys,SqT X.K H a ys
  ·obtain⟨ys,hT⟩:=hT
   obtain⟨its,rv,ht,_⟩:=I.tuple hT
   refine fin "tuple" ht.typeIs (all _ ?_)
   have nl: ∀ys,¬SqL X.K H a ys:=fun ys q=>by
    obtain⟨its',rv',⟨o',n',e',c',_,_⟩,_⟩:=I.list q
    obtain⟨o,e,c,_⟩:=ht
    rw[e] at e';cases e'
    rw[c] at c';injection c' with c';exact absurd c' (by decide)
   rintro T b ⟨rfl|rfl,hb⟩
   ·rcases hb with⟨_,_,hb⟩|⟨ys,hb,_⟩
    ·cases(show b=true from hb)
     exact Answers.of_true F.isi_meta_tuple (by rw[isSubtype_type];kernel_rfl)
    ·exact absurd hb (nl ys)
   ·rcases hb with⟨_,_,hb⟩|⟨ys,hb,_⟩
    ·cases(show b=false from hb)
     exact Answers.of_false_tuple (by decide+kernel) F.isi_meta_list (by rw[isSubtype_type];kernel_rfl)
    ·exact absurd hb (nl ys)
  ·by_cases hL: ∃ys,SqL X.K H a ys
   ·obtain⟨ys,hL⟩:=hL
    obtain⟨its,rv,ht,_⟩:=I.list hL
    refine fin "list" ht.isList.typeIs (all _ ?_)
    rintro T b ⟨rfl|rfl,hb⟩
    ·rcases hb with⟨ys,hb,_⟩|⟨ys,_,hb⟩
     ·exact absurd ⟨ys,hb⟩ hT
     ·cases(show b=false from hb)
      exact Answers.of_false_list (by decide+kernel) F.isi_meta_tuple (by rw[isSubtype_type];kernel_rfl)
    ·rcases hb with⟨ys,hb,_⟩|⟨ys,_,hb⟩
     ·exact absurd ⟨ys,hb⟩ hT
     ·cases(show b=true from hb)
      exact Answers.of_true F.isi_meta_list (by rw[isSubtype_type];kernel_rfl)
   ·obtain⟨T,b,_,h⟩:=some1
    rcases h with⟨ys,h,_⟩|⟨ys,h,_⟩
    ·exact absurd ⟨ys,h⟩ hT
    ·exact absurd ⟨ys,h⟩ hL
 |byt _=>obtain⟨T,b,_,h⟩:=some1;exact h.elim
 |flt _=>obtain⟨T,b,_,h⟩:=some1;exact h.elim
 |ty _=>obtain⟨T,b,_,h⟩:=some1;exact h.elim
noncomputable def isiAny(Ts:List String)(d:D):Option Bool:=match Ts with
 |[]=>some false
 |T::r=>match isiD T d,isiAny r d with
  |some b,some c=>some (b||c)
  |_,_=>none
noncomputable def z7z(Ts:List String)(m:M D):M D:=bd m fun d=>match isiAny Ts d with|some b=>rt (.bool b)|none=>fl
theorem z4E{ρ:Nat->Addr}{H:Hp}{t:D}{v:V}(h:RD G ρ H t v): ∀{Ts:List String} {b:Bool},isiAny Ts t=some b->(∀T∈Ts,T= "tuple" \/T= "list")->∃bs,Paired (fun T b=>(T= "tuple" \/T= "list")/\isiV G.K H T b v) Ts bs/\bs.any id=b
 |[],b,e,_=>by simp only[isiAny,Option.some.injEq] at e;subst e;exact⟨[], .nil,rfl⟩
 |T::Ts,b,e,hT=>by
  simp only[isiAny] at e
  cases e1:isiD T t with
  |none=>simp only[e1] at e;cases e
  |some b1=>
   cases e2:isiAny Ts t with
   |none=>simp only[e1,e2] at e;cases e
   |some b2=>
    simp only[e1,e2,Option.some.injEq] at e
    subst e
    obtain⟨bs,q1,q2⟩:=z4E h e2 fun T h=>hT T (List.mem_cons_of_mem _ h)
    exact⟨b1::bs, .cons ⟨hT T (List.mem_cons_self ..),z9K h e1⟩ q1,by simp[q2]⟩
theorem z9d{K:W.Frag}{H H':Hp}{T:String}{b:Bool}{v:V}(sm:Same H H')(h:isiV K H T b v):isiV K H' T b v:=by
 cases v with
 |ref a=>
  rcases h with⟨xs,q,e⟩|⟨xs,q,e⟩
  ·exact .inl ⟨xs,sm.ts.tup q,e⟩
  ·exact .inr ⟨xs,sm.lst q,e⟩
 |_=>exact h
theorem se_isiT{p:Pos}{x y:Expr}{Ts:List String}{m:M D}(hk:X.K=G.K)(hT: ∀T∈Ts,T= "tuple" \/T= "list")(hne:Ts≠[])(hgl:Gl X "isinstance")(hm:X.mg "isinstance" =none)(ha:SE X G F x m)(hy:PE X y (tTys Ts))
 (he:starEach [x,y] X.env=(false,eval x X.env)::starEach [y] X.env:=by rfl) (he2:starEach [y] X.env=(false,eval y X.env)::starEach [] X.env:=by rfl) (hpl:(backTo pos (starEach [y] X.env)).any (·.1)=false:=by rfl):SE X G F (.Call (.Name "isinstance" p) [x,y] [] pos) (z7z Ts m):=by
 refine PE.imp hk (z3O (z7y (Ts:=Ts)) hgl hm PyProof.Rows.Boot.«isinstance» (z1X ha (z1X hy z5z he2) he) (by decide) (by decide) he hpl) fun σ H Q ⟨tv,h⟩=>⟨tv,(z59 h).mono fun v H1 ⟨ρ1,s1,t,M1,W⟩=> ?_⟩
 cases e:isiAny Ts t with
 |none=>simp only[e] at W;exact False.elim W
 |some b=>
  simp only[e] at W
  intro p hp
  have sm:=Same.new (tyO p Ts) hp
  rw[hk]
  obtain⟨bs,q1,q2⟩:=z4E M1.rd1 e hT
  refine⟨v,p,bs,rfl,hne,z07,Paired.mapP q1 fun T b q=>⟨q.1,z9d sm q.2⟩,fun k=> ?_⟩
  rw[q2]
  exact W.flat (M1.m.same sm k) rfl
end
end Mi
namespace Mi
open PySem L2
noncomputable def G0(K:W.Frag):Gx:=⟨K,fun _=>none,fun _ _ _ h=>(by cases h),fun _ _ h=>(by cases h)⟩
theorem zaG{P:Program}{w:World}{K:W.Frag}{mg:Str->Option Value}{base:Heap}{CX:CXT}{k:Nat}{fa:Addr}{fd:FuncData}{ps:List Str}{G:Gx}{np:Nat}:FnOk P w K mg base CX k fa fd ps (spM G np fun _ _=> .no):=
 ⟨fun vs H Q E h=>by obtain⟨_,_,_,_,_,_,_,_,_,h⟩:=h;exact h.elim,fun A outer s H args us vs Q E _ _ _ _ h=>by obtain⟨_,_,_,_,_,_,_,_,_,h⟩:=h;exact h.elim⟩
section
variable{X:Cx}{G:Gx}{F:Fy}{e o:Expr}{es:List Expr}{apos cpos:Pos}
theorem se_cl{name:Str}{id:String}{mo:M D}{ms:List (M D)}{g:D->List D->M D}(hk:X.K=G.K)(slot:Slot "list" name id)(hty:typeOf (.builtin id)=pure (.type "method_descriptor"))(hm:Cl X G F id g)(ho:SE X G F o mo)(ha:SA X G F (e::es) (z0c ms))
 (hbase:attributeBase o name X.env (eval o X.env)=eval o X.env:=by rfl)
 (hfew:((backTo cpos (starEach (e::es) X.env)).all (fun x=> !x.1)&&(backToKw cpos (keywordEach [] X.env)).all (fun x=>x.1.isSome)
  &&decide ((e::es).length+([]:List Keyword).length+(if([]:List Keyword).isEmpty then 0 else 1)<30))=true:=by rfl)
 (hline:(apos.endLine==cpos.line)=true:=by rfl) (hs:starEach (e::es) X.env=(false,eval e X.env)::starEach es X.env:=by rfl) (hplain:(backTo cpos (starEach es X.env)).any (·.1)=false:=by rfl):SE X G F (.Call (.Attribute o name apos) (e::es) [] cpos) (z3V mo ms g):=by
 obtain⟨r,h1,h2⟩:=hm.h
 exact zaD hk slot hty h1 h2 ho ha hbase hfew hline hs hplain
end
inductive SEs(X:Cx)(G:Gx)(F:Fy):List Expr->List (M D)->Prop
 |nil:SEs X G F [] []
 |cons {e:Expr} {m:M D} {es:List Expr} {ms:List (M D)}:SE X G F e m->nst e=true->SEs X G F es ms->SEs X G F (e::es) (m::ms)
theorem sa_of{X:Cx}{G:Gx}{F:Fy}{es:List Expr}{ms:List (M D)}(hk:X.K=G.K)(h:SEs X G F es ms):SA X G F es (z0c ms):=by
 induction h with
 |nil=>exact zcl hk
 |cons h1 h2 _ ih=>exact zaw hk h1 ih h2
section
variable{X:Cx}{G:Gx}{F:Fy}{a b tg:Expr}{pos:Pos}
noncomputable def z3X(lo:Int)(n:Nat):List D:=(List.range n).map fun(k:Nat)=>D.int (lo+(k:Int))
noncomputable def rvsD:D->M D
 | .lst _ ds=>newL ds.reverse
 | .ro ds=>newL ds.reverse
 |_=>fl
theorem RDs.rev{ρ:Nat->Addr}{H:Hp}: ∀{ds:List D} {xs:List V},RDs G ρ H ds xs->RDs G ρ H ds.reverse xs.reverse
 |[],xs,h=>by simp only[RDs] at h;subst h;simp only[List.reverse_nil,RDs]
 |d::ds,xs,h=>by
  simp only[RDs] at h
  obtain⟨x,r,rfl,h1,h2⟩:=h
  rw[List.reverse_cons,List.reverse_cons]
  exact(RDs.rev h2).append (RDs.one h1)
theorem z2Y{l:Nat}: ∀{ds:List D},l∈labsL ds.reverse->l∈labsL ds
 |[],h=>h
 |d::ds,h=>by
  rw[List.reverse_cons,z0r] at h
  simp only[labsL,List.append_nil,List.mem_append] at h⊢
  rcases h with h|h
  ·exact .inr (z2Y h)
  ·exact .inl h
theorem se_rev{e st:Expr}{p2:Pos}{m:M D}(hk:X.K=G.K)(hst:PO X (some st) (z8P (tUn (rU fun i=>V.int (-i)) (tC (.int 1)))))(he:SE X G F e m):SE X G F (.Subscript e (.Slice none none (some st) p2) pos) (bd m rvsD):=by
 refine PE.imp hk (zci hst he) fun σ H Q ⟨tv,hs,ρ,s,M,W⟩=>⟨tv,hs,ρ,s,M, ?_⟩
 unfold bd at W
 cases e:m s with
 |ex d s1=>rw[e] at W;exact W
 |no=>rw[e] at W;exact W
 |ok t s1=>
  rw[e] at W
  intro ρ1 v H1 M1
  rw[hk]
  cases t with
  |lst n ds=>
   obtain⟨a,xs,rfl,sq,r,sub⟩:=M1.rd1.lstq (ds:=ds) rfl
   exact⟨a,xs,rfl,sq,fun p hp kd=>z1D W M1.m r.rev (fun l hl=>M1.lb l (by simp only[labsL,List.append_nil];exact sub l (z2Y hl))) hp kd⟩
  |ro ds=>
   obtain⟨a,xs,rfl,sq,r,sub⟩:=M1.rd1.lstq (ds:=ds) rfl
   exact⟨a,xs,rfl,sq,fun p hp kd=>z1D W M1.m r.rev (fun l hl=>M1.lb l (by simp only[labsL,List.append_nil];exact sub l (z2Y hl))) hp kd⟩
  |_=>exact False.elim W
mutual
theorem z28: ∀t:D,(er t).hasDict=false
 | .non| .bool _| .int _| .str _| .dct _ _ _| .obj _ _ _ _| .exc _| .fn _| .fdc _ _=>by simp only[er,PyData.hasDict]
 | .tup ds=>by simp only[er,PyData.hasDict];exact erL_noDict ds
 | .ro ds=>by simp only[er,PyData.hasDict];exact erL_noDict ds
 | .lst _ ds=>by simp only[er,PyData.hasDict];exact erL_noDict ds
theorem erL_noDict: ∀ts:List D,PyData.hasDictAll (erL ts)=false
 |[]=>by simp only[erL,PyData.hasDictAll]
 |t::ts=>by simp only[erL,PyData.hasDictAll,z28 t,erL_noDict ts,Bool.or_self]
end
noncomputable def strC(ds:List D):Bool:=plainL ds&&(er (.tup ds)).showable&&decide ((er (.tup ds)).depth<=60)&&decide ((er (.tup ds)).shown.length<=sizeLine)
noncomputable def strD:List D->M D
 |[.tup ds]=>if strC ds=true then rt (.str (er (.tup ds)).shown) else fl
 |_=>fl
theorem zcK:z0K G F (rStr G.K) strD:=by
 intro ρ s ts vs H σv tv Q M W
 unfold strD at W
 split at W
 ·rename_i ds
  split at W
  ·rename_i hc
   simp only[strC,Bool.and_eq_true,decide_eq_true_eq] at hc
   obtain⟨⟨⟨c1,c2⟩,c3⟩,c4⟩:=hc
   obtain⟨v,rfl,h,_⟩:=M.one
   obtain⟨p,xs,rfl,s1,r1⟩:=id h.tupq
   exact⟨p,er (.tup ds),rfl,RD.dp _ _ h (by simp only[plain];exact c1),z28 _,c2,c3,c4,fun _=>W.flat M.m rfl⟩
  ·exact wfl W
 ·exact wfl W
end
end Mi
namespace L2
open PySem PySem.Spec PyProof.Rows
structure Fly(P:Program)(w:World)(outer:List Env)(H:Hp)(s:Shared)(H':Hp)(C:Value)(e:Addr)(s':Shared):Prop where
 os:s'.os=s.os
 bare:AllBare s'.gens
 un:Un (frs outer) [] H H' s.heap s'.heap
 hok:HOk P w H' s'.heap
 he:H' e=none
 se:s.heap.get? e=none
 tr: ∃oe vs a0 T oT ts,s'.heap.get? e=some oe/\(oe.cls=C/\vs[0]? =some a0)/\oe.data= .fields vs/\vs[1]? =some (.ref T)/\T≠e/\s'.heap.get? T=some oT/\oT.data= .fields ts/\ts[3]? =some .none/\H' T=none/\s.heap.get? T=none
noncomputable def CX1(P:Program)(w:World):CXT:=fun outer H s E e s'=> ∃a C H',e= .ref a/\Fly P w outer H s H' C a s'/\E C none H'
noncomputable def zeD(X:Cx)(E:St->XK):Prop:= ∀(pins:List (Addr×Obj)) (σ:St) (H:Hp) (s:Shared) (e:Value) (s':Shared),Inv X pins σ H s->CX1 X.prog X.w X.stack H s (E σ) e s'->X.xe e s'
end L2
namespace L2
open PySem PySem.Spec PySem.Calls PyProof.Rows Builtin Builtin.ObjectAttr Builtin.Getset_descriptor
structure XCls(K:W.Frag)(C:Addr):Prop where
 ob:W.mroIn K C (.type "object")=some true
 ba:W.mroIn K C (.type "BaseException")=some true
 f1:W.findIn K (.ref C) "__getattribute__" =some (some (.builtin "BaseException.__getattribute__"))
 f2:W.findIn K (.ref C) "__getattr__" =some none
 f3:W.findIn K (.ref C) "__class__" =some (some (.builtin "object.__class__"))
end L2
namespace L2
open PySem PySem.Spec PySem.Calls PyProof.Rows
end L2
namespace L2
open PySem PySem.Spec PySem.SeqAt PySem.Calls PyProof.Rows
end L2
namespace L2
open PySem PySem.Spec PySem.Calls PyProof.Rows
structure zeE(k:Nat)(A:Around):Prop where
 dp:A.depth+3*k+5<recursionLimit
 un:A.units+16*k+200<cLine
 gd:A.guards=some []
structure FnOkH(P:Program)(w:World)(K:W.Frag)(mg:Str->Option Value)(base:Heap)(CX:CXT)(k:Nat)(f:Addr)(fd:FuncData)(ps:List Str)(sp:Sp):Prop where
 len: ∀vs H Q E,sp vs H Q E->vs.length=ps.length
 run: ∀(A:Around) (outer:List Env) (s:Shared) (H:Hp) (args:Args) (us:List Value) (vs:List V) (Q:VK) (E:XK),zeE k A->Env0 P w K mg base A outer s H->BindsTo s fd args (ps.zip us)->Vals vs us->sp vs H Q E->
  codeAny (model P w) A (.call (.ref f) args) (CR CX outer P w H s Q E) s
end L2
namespace L2
open PySem PySem.Spec PyProof.Rows
end L2
namespace Mi
open PySem L2 PySem.Spec
open PyProof.Rows (envOfC)
structure XP(X:Cx)(G:Gx)(F:Fy)(E:L2.St->XK):Prop where
 ps:zeD X E
 xw: ∀c s',F.xw (.exc c) s'->∀ρ σv tv H C,F.tv0<:+tv->MR G F.toFx ρ H σv tv s'->G.cl c=some C->E σv (.ref C) none H
 no: ∀d s',F.xw d s'->∃c,d= .exc c
open Classical in
noncomputable def zfw(r:RF)(ts:List D):M D:=fun s=>match r with
 | .ok t ts' n'=>if ts'=ts then .ok t {s with n:=n'} else
  if ∀l∈z0q s,l∈labsL ts->(findL l ts').isSome=true then .ok t {σ:=rpO (fun l=>findL l ts') s.σ,tm:=rpO (fun l=>findL l ts') s.tm,n:=n'} else .no
 | .ex d ts' n'=>if ts'=ts then .ex d {s with n:=n'} else
  if ∀l∈z0q s,l∈labsL ts->(findL l ts').isSome=true then .ex d {σ:=rpO (fun l=>findL l ts') s.σ,tm:=rpO (fun l=>findL l ts') s.tm,n:=n'} else .no
 | .no=> .no
noncomputable def spX(G:Gx)(np:Nat)(f:FM):Sp:=fun vs H Q E=>vs.length=np/\∃ρ n ts,RDs G ρ H ts vs/\(∀i j,i<n->j<n->ρ i=ρ j->i=j)/\(∀l,l<n->∃o,H (ρ l)=some o)/\(∀l∈labsL ts,l<n)/\KD G.K H/\match f ts n with
 | .ok t ts' n'=> ∀ρ' v H',z4B G ρ n ts vs H ρ' n' ts' H'->RD G ρ' H' t v->(∀l∈labs t,l<n'/\(l<n->l∈labsL ts))->Q v H'
 | .ex d ts' n'=> ∃c,d= .exc c/\∀ρ' H' C,z4B G ρ n ts vs H ρ' n' ts' H'->G.cl c=some C->E (.ref C) none H'
 | .no=>False
noncomputable def zeF(k:Nat)(tm:List (Option D)):List (Option D):=tm.drop (tm.length -k)
end Mi
namespace Mi
open PySem L2 PySem.Spec
inductive Al(Φ:Addr->Prop):List (Str×Addr)->Prop
 |nil:Al Φ []
 |cons {c:Str} {a:Addr} {l:List (Str×Addr)}:Φ a->Al Φ l->Al Φ ((c,a)::l)
inductive Al2{β:Type}(Φ:Addr->β->Prop):List (Str×Addr)->List (Str×β)->Prop
 |nil:Al2 Φ [] []
 |cons {c:Str} {a:Addr} {b:β} {l:List (Str×Addr)} {r:List (Str×β)}:Φ a b->Al2 Φ l r->Al2 Φ ((c,a)::l) ((c,b)::r)
 |skip {c:Str} {a:Addr} {l:List (Str×Addr)} {r:List (Str×β)}:r.lookup c=none->Al2 Φ l r->Al2 Φ ((c,a)::l) r
section
variable{X:Cx}{G:Gx}{F:Fy}{E:L2.St->XK}
structure FnV(X:Cx)(G:Gx)(np:Nat)(a:Addr)(f:FM):Prop where
 ex: ∃k fd ps,ps.length=np/\FnOk X.prog X.w X.K X.mg X.base (CX1 X.prog X.w) k a fd ps (spX G np f)/\Room k X.A/\W.keepIn X.K (.ref a)=true/\z3k X.K fd ps []
end
end Mi
namespace Mi
open PySem L2 PySem.Spec
open PyProof.Rows (envOfC)
end Mi
namespace Mi
open PySem L2 PySem.Spec
noncomputable def z3Y:D->Option Key
 | .int i=>some (.inl i)
 | .str x=>some (.inr x)
 |_=>none
noncomputable def z29:List D->Option (List Key)
 |[]=>some []
 |d::ds=>match z3Y d with
  |some k=>match z29 ds with
   |some ks=>some (k::ks)
   |none=>none
  |none=>none
noncomputable def nkOf:D->Option (Key⊕List Key)
 | .tup ds=>match z29 ds with|some ks=>some (.inr ks)|none=>none
 |d=>match z3Y d with|some k=>some (.inl k)|none=>none
noncomputable def z3p:List D->Option NK
 |[]=>some []
 |d::ds=>match nkOf d with
  |some k=>match z3p ds with
   |some ks=>some (k::ks)
   |none=>none
  |none=>none
noncomputable def tkey:D->Option NK
 | .tup ds=>z3p ds
 |_=>none
noncomputable def isT:List D->Bool
 | .non::_=>false
 |_=>true
section
variable{G:Gx}{ρ:Nat->Addr}{H:Hp}
theorem z5L{d:D}{v:V}{k:Key}(h:RD G ρ H d v)(e:z3Y d=some k):v=kV k/\d=keyD k:=by
 cases d<;>simp only[z3Y] at e<;>cases e<;>(simp only[RD] at h;exact⟨h,rfl⟩)
theorem z4F: ∀{ds:List D} {xs:List V} {ks:List Key},RDs G ρ H ds xs->z29 ds=some ks->xs=ks.map kV/\ds=ks.map keyD
 |[],xs,ks,h,e=>by simp only[RDs] at h;simp only[z29] at e;cases e;exact⟨h,rfl⟩
 |d::ds,xs,ks,h,e=>by
  simp only[RDs] at h
  obtain⟨x,r,rfl,h1,h2⟩:=h
  simp only[z29] at e
  cases e1:z3Y d with
  |none=>rw[e1] at e;cases e
  |some k=>
   rw[e1] at e
   cases e2:z29 ds with
   |none=>simp only[e2] at e;cases e
   |some ks'=>
    simp only[e2] at e
    cases e
    obtain⟨a1,a2⟩:=z5L h1 e1
    obtain⟨b1,b2⟩:=z4F h2 e2
    rw[a1,b1,a2,b2]
    exact⟨rfl,rfl⟩
theorem zaH{d:D}{v:V}{k:Key⊕List Key}(h:RD G ρ H d v)(e:nkOf d=some k):TKi H k v/\d=nkD k:=by
 have flat: ∀{d:D} {v:V},RD G ρ H d v->(match z3Y d with|some k=>some (Sum.inl k:Key⊕List Key)|none=>none)=some k->TKi H k v/\d=nkD k:=by
  intro d v h e
  cases e1:z3Y d with
  |none=>rw[e1] at e;cases e
  |some k'=>
   rw[e1] at e
   cases e
   obtain⟨a1,a2⟩:=z5L h e1
   exact⟨a1,a2⟩
 cases d with
 |tup ds=>
  simp only[nkOf] at e
  cases e1:z29 ds with
  |none=>rw[e1] at e;cases e
  |some ks=>
   rw[e1] at e
   cases e
   simp only[RD] at h
   obtain⟨a,xs,e2,s,r⟩:=h
   obtain⟨b1,b2⟩:=z4F r e1
   exact⟨⟨a,e2,b1▸s⟩,by rw[b2];rfl⟩
 |_=>exact flat h e
theorem z5M: ∀{ds:List D} {xs:List V} {ks:NK},RDs G ρ H ds xs->z3p ds=some ks->Paired (TKi H) ks xs/\ds=ks.map nkD
 |[],xs,ks,h,e=>by simp only[RDs] at h;simp only[z3p] at e;cases e;subst h;exact⟨.nil,rfl⟩
 |d::ds,xs,ks,h,e=>by
  simp only[RDs] at h
  obtain⟨x,r,rfl,h1,h2⟩:=h
  simp only[z3p] at e
  cases e1:nkOf d with
  |none=>rw[e1] at e;cases e
  |some k=>
   rw[e1] at e
   cases e2:z3p ds with
   |none=>simp only[e2] at e;cases e
   |some ks'=>
    simp only[e2] at e
    cases e
    obtain⟨a1,a2⟩:=zaH h1 e1
    obtain⟨b1,b2⟩:=z5M h2 e2
    rw[a2,b2]
    exact⟨.cons a1 b1,rfl⟩
theorem z3Z{t:D}{v:V}{k:NK}(h:RD G ρ H t v)(e:tkey t=some k): ∃b,v= .ref b/\TK H k b/\t=dkD k:=by
 cases t<;>simp only[tkey] at e<;>try cases e
 simp only[RD] at h
 obtain⟨a,xs,e1,s,r⟩:=h
 obtain⟨b1,b2⟩:=z5M r e
 exact⟨a,e1,⟨xs,s,b1⟩,by rw[b2];rfl⟩
theorem z3A: ∀k:List Key,z29 (k.map keyD)=some k
 |[]=>rfl
 |k::ks=>by
  simp only[List.map_cons,z29]
  have:z3Y (keyD k)=some k:=by cases k<;>rfl
  rw[this,z3A ks]
theorem zaI(z:Key⊕List Key):nkOf (nkD z)=some z:=by
 cases z with
 |inl k=>cases k<;>rfl
 |inr ks=>simp only[nkD,nkOf,z3A]
theorem z4G: ∀k:NK,z3p (k.map nkD)=some k
 |[]=>rfl
 |k::ks=>by simp only[List.map_cons,z3p,zaI,z4G ks]
theorem z5e(k:NK):tkey (dkD k)=some k:=z4G k
theorem z5f{ρ:Nat->Addr}: ∀k:List Key,RDs G ρ H (k.map keyD) (k.map kV)
 |[]=>by simp only[List.map_nil,RDs]
 | .inl i::k=>by simp only[List.map_cons,RDs];exact⟨_,_,rfl,by simp only[keyD,RD];rfl,z5f k⟩
 | .inr i::k=>by simp only[List.map_cons,RDs];exact⟨_,_,rfl,by simp only[keyD,RD];rfl,z5f k⟩
theorem z7A{ρ:Nat->Addr}: ∀{k:NK} {xs:List V},Paired (TKi H) k xs->RDs G ρ H (k.map nkD) xs
 |_,_, .nil=>by simp only[List.map_nil,RDs]
 | .inl i::k,_, .cons a b=>by
  have e:=(show _=kV i from a)
  simp only[List.map_cons,RDs]
  refine⟨_,_,rfl, ?_,z7A b⟩
  rw[e]
  cases i<;>(simp only[nkD,keyD,RD];rfl)
 | .inr ks::k,_, .cons a b=>by
  obtain⟨c,e,hc⟩:=a
  simp only[List.map_cons,RDs]
  refine⟨_,_,rfl, ?_,z7A b⟩
  simp only[nkD,RD]
  exact⟨c,_,e,hc,z5f ks⟩
theorem zeG{ρ:Nat->Addr}{k:NK}{b:Addr}(h:TK H k b):RD G ρ H (dkD k) (.ref b):=by
 obtain⟨xs,h1,h2⟩:=h
 simp only[dkD,RD]
 exact⟨b,xs,rfl,h1,z7A h2⟩
noncomputable def rdD:D->Option (List D×List D)
 | .dct _ ks vs=>if isT ks=true then some (ks,vs) else none
 | .fdc ks vs=>some (ks,vs)
 |_=>none
theorem RD.rdq{t:D}{ks vs:List D}{v:V}(h:RD G ρ H t v)(e:rdD t=some (ks,vs)): ∃a kvs,v= .ref a/\Rd H a (.dT kvs)/\ks=kvs.map (fun p:NK×V=>dkD p.1)/\RDs G ρ H vs (kvs.map (·.2))/\∀l∈labsL vs,l∈labs t:=by
 cases t<;>simp only[rdD] at e<;>try cases e
 ·rename_i l ks' vs'
  by_cases hT:isT ks'=true
  ·rw[if_pos hT] at e;cases e
   simp only[RD] at h
   obtain⟨e,⟨kvs,s,s2,r⟩|⟨kvs,s,s2,r⟩⟩:=h
   ·rw[s2] at hT;cases hT
   ·exact⟨ρ l,kvs,e, .inl s,s2,r,fun j hj=>by simp only[labs];exact List.mem_cons_of_mem _ (List.mem_append_right _ hj)⟩
  ·rw[if_neg hT] at e;cases e
 ·simp only[RD] at h
  obtain⟨a,o,kvs,e,s,s2,r⟩:=h
  exact⟨a,kvs,e, .inr ⟨o,s⟩,s2,r,fun j hj=>by simp only[labs];exact hj⟩
theorem RD.dctq{l:Nat}{ks vs:List D}{v:V}(h:RD G ρ H (.dct l ks vs) v)(hn:isT ks=true):v= .ref (ρ l)/\∃kvs:List (NK×V),H (ρ l)=some (.dT kvs)/\ks=kvs.map (fun p=>dkD p.1)/\RDs G ρ H vs (kvs.map (·.2)):=by
 simp only[RD] at h
 obtain⟨e,⟨kvs,s,s2,r⟩|h⟩:=h
 ·rw[s2] at hn;cases hn
 ·exact⟨e,h⟩
noncomputable def z40:List D->List D->NK->Option D
 |d::ks,v::vs,k=>if tkey d=some k then some v else z40 ks vs k
 |_,_,_=>none
theorem z3B{k:NK}: ∀(kvs:List (NK×V)) (vs:List D) (t:D),RDs G ρ H vs (kvs.map (·.2))->z40 (kvs.map fun p=>dkD p.1) vs k=some t->∃v,valV kvs k=some v/\RD G ρ H t v/\t∈vs
 |[],_,_,_,e=>by simp only[List.map_nil,z40] at e;cases e
 |p::kvs,[],_,_,e=>by simp only[List.map_cons,z40] at e;cases e
 |p::kvs,w::vs,t,h,e=>by
  simp only[List.map_cons,RDs] at h
  obtain⟨x,r,e1,h1,h2⟩:=h
  cases e1
  simp only[List.map_cons,z40,z5e,Option.some.injEq] at e
  by_cases hk:p.1=k
  ·rw[if_pos hk] at e;cases e
   exact⟨_,z2D hk,h1,List.mem_cons_self ..⟩
  ·rw[if_neg hk] at e
   obtain⟨v,a,b,c⟩:=z3B kvs vs t h2 e
   exact⟨v,by rw[z2E hk];exact a,b,List.mem_cons_of_mem _ c⟩
noncomputable def z7B(ks:List D)(k:NK):List D:=if(ks.any fun d=>decide (tkey d=some k))=true then ks else ks++[dkD k]
noncomputable def z5g(ks vs:List D)(k:NK)(v:D):List D:=if(ks.any fun d=>decide (tkey d=some k))=true then List.zipWith (fun d w=>if tkey d=some k then v else w) ks vs else vs++[v]
theorem zcL{k:NK}(kvs:List (NK×V)):((kvs.map fun p=>dkD p.1).any fun d=>decide (tkey d=some k))=kvs.any fun kv=>decide (kv.1=k):=by
 rw[List.any_map]
 congr 1
 funext p
 simp only[Function.comp,z5e,Option.some.injEq]
theorem z5h{k:NK}{t:D}{v:V}(h:RD G ρ H t v): ∀(kvs:List (NK×V)) (vs:List D),RDs G ρ H vs (kvs.map (·.2))->
 RDs G ρ H (List.zipWith (fun d w=>if tkey d=some k then t else w) (kvs.map fun p=>dkD p.1) vs) ((kvs.map (fun kv=>if kv.1=k then(kv.1,v) else kv)).map (·.2))
 |[],[],_=>by simp[RDs]
 |[],_::_,h=>by simp only[List.map_nil,RDs] at h;obtain⟨_,_,e,_⟩:=h;cases e
 |p::kvs,[],h=>by simp only[List.map_cons,RDs] at h;cases h
 |p::kvs,w::vs,h'=>by
  simp only[List.map_cons,RDs] at h'
  obtain⟨x,r,e1,h1,h2⟩:=h'
  cases e1
  simp only[List.map_cons,List.zipWith_cons_cons,RDs,z5e,Option.some.injEq]
  by_cases hk:p.1=k
  ·rw[if_pos hk,if_pos hk];exact⟨_,_,rfl,h,z5h h kvs vs h2⟩
  ·rw[if_neg hk,if_neg hk];exact⟨_,_,rfl,h1,z5h h kvs vs h2⟩
theorem zcM{k:NK}{t:D}{v:V}{kvs:List (NK×V)}{vs:List D}(h:RD G ρ H t v)(r:RDs G ρ H vs (kvs.map (·.2))):
 z7B (kvs.map fun p=>dkD p.1) k=(putK kvs k v).map (fun p=>dkD p.1)/\RDs G ρ H (z5g (kvs.map fun p=>dkD p.1) vs k t) ((putK kvs k v).map (·.2)):=by
 unfold z7B z5g putK
 rw[zcL]
 cases e:kvs.any fun kv=>decide (kv.1=k) with
 |true=>
  simp only[if_true]
  refine⟨?_,z5h h kvs vs r⟩
  rw[List.map_map]
  refine List.map_congr_left fun p _=> ?_
  simp only[Function.comp]
  split<;>rfl
 |false=>
  simp only[Bool.false_eq_true,if_false,List.map_append,List.map_cons,List.map_nil]
  exact⟨trivial,r.append (RDs.one h)⟩
end
section
variable{X:Cx}{G:Gx}{F:Fy}{a b e:Expr}{ma mb:M D}{pos:Pos}
noncomputable def dgtD(o t:D):M D:=match rdD o with
 |some (ks,vs)=>match tkey t with
  |some k=>(match z40 ks vs k with|some d=>rt d|none=>fl)
  |none=>fl
 |none=>fl
theorem zcN:OpOK G F (fun x y H Q=> ∃a v,x= .ref a/\DGet H a y (some v)/\Q v H) dgtD:=by
 intro ρ s t t' v u H σv tv Q M W
 obtain⟨h1,h2⟩:=M.rd2
 obtain⟨l1,l2⟩:=M.lb2
 unfold dgtD at W
 cases er:rdD t with
 |none=>rw[er] at W;exact False.elim W
 |some p=>
  obtain⟨ks,vs⟩:=p
  rw[er] at W
  dsimp only at W
  cases ek:tkey t' with
  |none=>rw[ek] at W;exact False.elim W
  |some k=>
   rw[ek] at W
   dsimp only at W
   obtain⟨a,kvs,rfl,hx,rfl,r,sub⟩:=h1.rdq er
   obtain⟨b,rfl,hb,_⟩:=z3Z h2 ek
   cases ef:z40 (kvs.map fun p=>dkD p.1) vs k with
   |none=>rw[ef] at W;exact False.elim W
   |some d=>
    rw[ef] at W
    obtain⟨w,hv,hd,hm⟩:=z3B kvs vs d r ef
    exact⟨a,w,rfl, .inr ⟨kvs,k,b,hx,rfl,hb,hv.symm⟩,fun _=>W.out M.m hd fun j hj=>l1 j (sub j (labsL_mem hm j hj))⟩
theorem se_dgt(hk:X.K=G.K)(hu:X.A.units+64<cLine)(ha:SE X G F a ma)(hb:SE X G F b mb)(hs:z1B b):SE X G F (.Subscript a b pos) (mBin ma mb dgtD):=
 PE.imp hk (zak (show X.A.units+2<cLine by lia) ha hb hs) fun _ _ _ h=>z7d zcN h
noncomputable def z7C:M D:=fun s=> .ok (.dct s.n [] []) s.nxt
theorem se_dnew(hk:X.K=G.K):SE X G F (.Dict [] [] pos) z7C:=
 PE.imp hk z8V fun σ H Q ⟨tv,hs,ρ,s,M,W⟩ p hp k=>by
  refine wM.out (ρ:=ext ρ s.n p) W (M.new hp k) ?_ fun l hl=> ?_
  ·simp only[RD]
   rw[z0E]
   exact⟨rfl, .inr ⟨[],z07,rfl,by simp[RDs]⟩⟩
  ·simp only[labs,labsL,List.append_nil,List.mem_singleton] at hl
   rw[hl]
   exact⟨Nat.lt_succ_self _,by rw[z0E];exact .inr (M.fresh0 hp)⟩
noncomputable def z3q(o i v:D):MS:=fun s=>match o with
 | .dct l ks vs=>match tkey i with
  |some k=>if isT ks=true/\ks.length<sizeLine/\labs v=[]/\labsL vs=[] then .nx (s.put l (.dct l (z7B ks k) (z5g ks vs k v))) else .no
  |none=> .no
 |_=> .no
theorem z7D(k:NK):labs (dkD k)=[]:=by
 have h: ∀k:NK,labsL (k.map nkD)=[]:=fun k=>by
  induction k with
  |nil=>rfl
  |cons z k ih=>simp only[List.map_cons,labsL,z5c,ih,List.append_nil]
 simp only[dkD,labs,h]
theorem z5N: ∀kvs:List (NK×V),labsL (kvs.map fun p=>dkD p.1)=[]
 |[]=>rfl
 |p::kvs=>by
  have e:labs (dkD p.1)=[]:=z7D p.1
  simp only[List.map_cons,labsL,e,z5N kvs];rfl
theorem z2a: ∀{ds:List D},(∀d∈ds,labs d=[])->labsL ds=[]
 |[],_=>rfl
 |d::ds,h=>by simp only[labsL,h d (List.mem_cons_self ..),z2a fun x hx=>h x (List.mem_cons_of_mem _ hx)];rfl
theorem z4H{ds:List D}(h:labsL ds=[]): ∀d∈ds,labs d=[]:=fun d hd=>by
 cases e:labs d with
 |nil=>rfl
 |cons l r=>exact absurd (labsL_mem hd l (by rw[e];exact List.mem_cons_self ..)) (by rw[h];exact List.not_mem_nil)
theorem z5O{ks vs:List D}{k:NK}{v:D}(hv:labs v=[])(h:labsL vs=[]):labsL (z5g ks vs k v)=[]:=by
 have h':=z4H h
 unfold z5g
 split
 ·refine z2a fun d hd=> ?_
  obtain⟨i,hi,e⟩:=List.getElem_of_mem hd
  rw[List.getElem_zipWith] at e
  subst e
  split
  ·exact hv
  ·exact h' _ (List.getElem_mem _)
 ·refine z2a fun d hd=> ?_
  rcases List.mem_append.mp hd with q|q
  ·exact h' d q
  ·rw[List.mem_singleton.mp q];exact hv
theorem zaJ{ρ:Nat->Addr}{s:Stt}{t1 t2 t3:D}{v o i:V}{H:Hp}{σv tv:List (Option V)}{Dd:Ends}(M:MRL G F.toFx ρ H σv tv s [t1,t2,t3] [v,o,i])(W:wS G F tv (z3q t2 t3 t1 s) Dd): ∃a H4,o= .ref a/\DPut H a i v H4/\Dd.nx σv H4:=by
 have h:=M.rd
 simp only[RDs] at h
 obtain⟨_,_,e,h1,_,_,e2,h2,_,_,e3,h3,_⟩:=h
 cases e;cases e2;cases e3
 have b2:LB F.toFx ρ s.n (labs t2):=fun l h=>M.lb l (by simp only[labsL];exact List.mem_append_right _ (List.mem_append_left _ h))
 unfold z3q at W
 cases t2 with
 |dct l ks vs=>
  dsimp only at W
  cases ek:tkey t3 with
  |none=>rw[ek] at W;exact False.elim W
  |some k=>
   rw[ek] at W
   dsimp only at W
   by_cases hc:isT ks=true/\ks.length<sizeLine/\labs t1=[]/\labsL vs=[]
   ·rw[if_pos hc] at W
    obtain⟨hT,hz,hv,hvs⟩:=hc
    obtain⟨rfl,kvs,hx,rfl,r⟩:=h2.dctq hT
    obtain⟨b,rfl,hb,_⟩:=z3Z h3 ek
    have bl:=b2 l (by simp only[labs];exact List.mem_cons_self ..)
    have st:z0J H (upd H (ρ l) (.dT (putK kvs k v))):=
     ⟨fun b ys q=>by rw[z04 (z3j q hx (by intro z;cases z))];exact q,fun b o u q=>by rw[z04 (z3j q hx (by intro z;cases z))];exact q⟩
    have pr:=zcM (k:=k) h1 r
    refine⟨ρ l,_,rfl,DPut.t hx hb (by simpa using hz),W ρ σv _ (M.m.put2 bl.1 bl.2 st (z7s M.m.kd hx) ?_ fun j hj=> ?_)⟩
    ·simp only[RD]
     refine⟨trivial, .inr ⟨putK kvs k v,z07,pr.1, ?_⟩⟩
     exact RDs.stay st _ _ pr.2 fun j hj=>by rw[z5O hv hvs] at hj;cases hj
    ·simp only[labs,pr.1,z5N,z5O hv hvs,List.append_nil,List.mem_singleton] at hj
     rw[hj];exact bl
   ·rw[if_neg hc] at W;exact False.elim W
 |_=>exact False.elim W
theorem ss_dput{ob ix:Expr}{pos tpos:Pos}{mo mi me:M D}(hu:X.A.units+64<cLine)(he:SE X G F e me)(ho:SE X G F ob mo)(hi:SE X G F ix mi)(hs:swapsWith e (some (.Subscript ob ix tpos)) pos.line X.env=pure false:=by rfl):
 SS X G F (.Assign [.Subscript ob ix tpos] e pos) (mTri me mo mi z3q):=by
 refine PS.imp0 (zal (show X.A.units+2<cLine by lia) ho hi he hs) fun Dd σ H ⟨tv,h⟩=> ?_
 exact(z7t h).mono fun v H1 h1=>h1.mono fun o H2 h2=>h2.mono fun i H3 ⟨ρ,s,t1,t2,t3,M,W⟩=>zaJ M W
end
noncomputable def zcO(i:Nat):List (Option D)->Option (Option D)
 |some (.fdc ks _)::_=>some ks[i]?
 |_=>none
noncomputable def zcP:List (Option D)->Nat
 |some (.fdc ks _)::_=>ks.length
 |_=>0
noncomputable def kDct:ItK:=⟨1,zcO,zcP⟩
noncomputable def z3r(m:M D):M ItK:=bd m fun d s=>match d with
 | .dct l ks vs=>if isT ks=true/\labsL vs=[] then .ok kDct ((s.put l (.fdc ks vs)).psh (.fdc ks vs)) else .no
 |_=> .no
noncomputable def Fy.frz(F:Fy)(a:Addr)(o:HO)(ha:F.A0 a\/F.H0 a=none)(hz: ¬F.Z a):Fy where
 A0:=fun x=>F.A0 x/\x≠a
 H0:=upd F.H0 a o
 Z:=F.Z
 zA:=fun x z=>by
  have hn:x≠a:=fun e=>hz (e▸z)
  obtain⟨⟨o',e⟩,n⟩:=F.zA x z
  exact⟨⟨o',by rw[z04 hn];exact e⟩,fun q=>n q.1⟩
 aH:=fun x q=>by
  obtain⟨o',e⟩:=F.aH x q.1
  exact⟨o',by rw[z04 q.2];exact e⟩
 n0:=F.n0
 ρ0:=F.ρ0
 tv0:=F.tv0
 xw:=F.xw
section
variable{G:Gx}{F:Fy}{ρ:Nat->Addr}{H:Hp}{σv tv:List (Option V)}{s:Stt}{a:Addr}{o:HO}{ha:F.A0 a\/F.H0 a=none}{hz: ¬F.Z a}
theorem z5P: ∀{os:List (Option D)} {vs:List (Option V)},Sl G ρ H os vs->∀l∈z05 os,∃o,H (ρ l)=some o/\(∀xs,o≠ .tup xs)/\∀u w,o≠ .frz u w
 |[],_,_,l,hl=>by simp only[z05] at hl;cases hl
 |none::os,_,h,l,hl=>by
  simp only[Sl,z05] at h hl
  obtain⟨_,_,_,h⟩:=h
  exact z5P h l hl
 |some d::os,_,h,l,hl=>by
  simp only[Sl,z05] at h hl
  obtain⟨v,_,_,h1,h2⟩:=h
  rcases List.mem_append.mp hl with q|q
  ·exact z7o d v h1 l q
  ·exact z5P h2 l q
theorem MR.frzIn(M:MR G F.toFx ρ H σv tv s)(h:H a=some o)(hm: ∃u w,o= .frz u w):MR G (F.frz a o ha hz).toFx ρ H σv tv s:=by
 have ne: ∀l∈z0q s,ρ l≠a:=fun l hl e=>by
  obtain⟨u,w,rfl⟩:=hm
  have: ∃o,H (ρ l)=some o/\(∀xs,o≠ .tup xs)/\∀u w,o≠ .frz u w:=by
   rcases List.mem_append.mp hl with q|q
   ·exact z5P M.sl l q
   ·exact z5P M.tm l q
  obtain⟨o',e1,_,e3⟩:=this
  rw[e,h] at e1
  cases e1
  exact e3 _ _ rfl
 refine⟨M.sl,M.tm,M.inj,M.dom,M.lab,fun l hl=> ?_,fun x o' e=> ?_,M.kd,M.frb,M.bas⟩
 ·rcases M.own l hl with q|q
  ·exact .inl ⟨q,ne l hl⟩
  ·exact .inr (by show upd F.H0 a o (ρ l)=none;rw[z04 (ne l hl)];exact q)
 ·have e:upd F.H0 a o x=some o':=e
  by_cases hx:x=a
  ·subst hx
   rw[z07] at e
   cases e
   exact⟨⟨o,h⟩,fun _=>h⟩
  ·rw[z04 hx] at e
   obtain⟨q1,q2⟩:=M.frm x o' e
   exact⟨q1,fun n=>q2 fun z=>n ⟨z,hx⟩⟩
theorem MR.frzOut(M:MR G (F.frz a o ha hz).toFx ρ H σv tv s):MR G F.toFx ρ H σv tv s:=by
 refine⟨M.sl,M.tm,M.inj,M.dom,M.lab,fun l hl=> ?_,fun x o' e=> ?_,M.kd,M.frb,M.bas⟩
 ·rcases M.own l hl with q|q
  ·exact .inl q.1
  ·have q:upd F.H0 a o (ρ l)=none:=q
   by_cases hx:ρ l=a
   ·rw[hx,z07] at q;cases q
   ·rw[z04 hx] at q;exact .inr q
 ·by_cases hx:x=a
  ·subst hx
   have q:=(M.frm x o z07).1
   refine⟨q,fun n=> ?_⟩
   rcases ha with z|z
   ·exact absurd z n
   ·rw[z] at e;cases e
  ·obtain⟨q1,q2⟩:=M.frm x o' (by show upd F.H0 a o x=some o';rw[z04 hx];exact e)
   exact⟨q1,fun n=>q2 fun z=>n z.1⟩
theorem MRL.frzOut{ts:List D}{vs:List V}(M:MRL G (F.frz a o ha hz).toFx ρ H σv tv s ts vs):MRL G F.toFx ρ H σv tv s ts vs:=by
 refine⟨M.m.frzOut,M.rd,fun l hl=> ?_⟩
 obtain⟨q1,q⟩:=M.lb l hl
 refine⟨q1, ?_⟩
 rcases q with q|q
 ·exact .inl q.1
 ·have q:upd F.H0 a o (ρ l)=none:=q
  by_cases hx:ρ l=a
  ·rw[hx,z07] at q;cases q
  ·rw[z04 hx] at q;exact .inr q
theorem MR.frzAt'{A1:Addr}{ys:List V}{hf:(F.frz a o ha hz).H0 A1=none}(M:MR G ((F.frz a o ha hz).prot A1 ys hf).toFx ρ H σv tv s):H a=some o:=by
 have hne:a≠A1:=fun e=>by
  have:upd F.H0 a o A1=none:=hf
  rw[e,z07] at this;cases this
 exact(M.frm a o (by show upd (upd F.H0 a o) A1 (.lst ys) a=some o;rw[z04 hne,z07])).2 fun z=>z.2 rfl
theorem zcQ{u:Obj}{kvs:List (NK×V)}{tvp:List (Option V)}{F':Fx}(M:MR G F' ρ H σv (tvp++([some (.ref a)]++tv)) s)(h:H a=some (.frz u (.dT kvs)))(i:Nat):match kDct.at' i (s.tm.drop tvp.length) with
 |none=>True
 |some none=>(ItD a u kvs).stop i H
 |some (some d)=>(ItD a u kvs).go i H/\∀x H',(ItD a u kvs).yld i H x H'->MRL G F' ρ H' σv (tvp++([some (.ref a)]++tv)) s [d] [x]:=by
 dsimp only[kDct]
 cases e:s.tm.drop tvp.length with
 |nil=>trivial
 |cons c0 r=>
  cases c0 with
  |none=>trivial
  |some c=>
   obtain⟨hc,lb⟩:=MR.head (s:=s.popn tvp.length) M.popn e
   cases c with
   |fdc ks vs=>
    simp only[zcO]
    simp only[RD] at hc
    obtain⟨a',u',kvs',ea,hx,hk,_⟩:=hc
    cases ea
    rw[h] at hx
    cases hx
    subst hk
    cases e2:(kvs.map fun p=>dkD p.1)[i]? with
    |none=>
     refine⟨?_,h⟩
     have:=List.getElem?_eq_none_iff.mp e2
     simpa using this
    |some d=>
     rw[List.getElem?_map] at e2
     cases e3:kvs[i]? with
     |none=>rw[e3] at e2;cases e2
     |some p=>
      rw[e3] at e2
      cases e2
      refine⟨⟨(List.getElem?_eq_some_iff.mp e3).1,h⟩, ?_⟩
      rintro x H' ⟨rfl,b,k,v,rfl,hk,hb⟩
      rw[hk] at e3
      cases e3
      refine⟨M,RDs.one ?_,fun l hl=> ?_⟩
      ·exact zeG hb
      ·have e:labsL [dkD k]=[]:=by simp only[labsL,List.append_nil];exact z7D k
       rw[e] at hl;cases hl
   |_=>trivial
end
section
variable{X:Cx}{G:Gx}{F:Fy}{tg iter elt:Expr}{pos:Pos}
theorem z7E{K:W.Frag}{k:Nat}{ix:List Nat}{m0:M D}{g:Tg}{mt:M Bool}{me:M D}{σ:St}{H:Hp}{Q:VK}(hk:K=G.K)(h:tM G F (z0s (z3r m0) g mt me k ix) σ H Q):z5G K (zch (tM G F m0)) (tGx G g) (tBx G mt) (tMx G me) k ix σ H Q:=by
 obtain⟨tv,hsf,ρ,s,M,W⟩:=h
 refine⟨tv,hsf,ρ,s,M, ?_⟩
 unfold z0s z3r bd at W
 cases em:m0 s with
 |ex d s1=>rw[em] at W;exact W
 |no=>rw[em] at W;exact W
 |ok t s0=>
  rw[em] at W
  dsimp only at W
  intro ρ1 v H1 M0
  cases t with
  |dct l ks vs=>
   dsimp only at W
   by_cases hc:isT ks=true/\labsL vs=[]
   ·rw[if_pos hc] at W
    dsimp only at W
    obtain⟨hT,hvs⟩:=hc
    have rd0:=M0.rd1
    obtain⟨rfl,kvs,hx,hks,r⟩:=rd0.dctq hT
    have bl:=M0.lb1 l (by simp only[labs];exact List.mem_cons_self ..)
    refine⟨ρ1 l,kvs,rfl,hx,fun u A1 hA1 kd=> ?_⟩
    have st:z0J H1 (upd H1 (ρ1 l) (.frz u (.dT kvs))):=
     ⟨fun b ys q=>by rw[z04 (z3j q hx (by intro z;cases z))];exact q,fun b o w q=>by rw[z04 (z3j q hx (by intro z;cases z))];exact q⟩
    have rdF:RD G ρ1 (upd H1 (ρ1 l) (.frz u (.dT kvs))) (.fdc ks vs) (.ref (ρ1 l)):=by
     simp only[RD]
     exact⟨ρ1 l,u,kvs,rfl,z07,hks,RDs.stay st _ _ r fun j hj=>by rw[hvs] at hj;cases hj⟩
    have lbF: ∀j∈labs (.fdc ks vs),j<s0.n/\(F.A0 (ρ1 j)\/F.H0 (ρ1 j)=none):=fun j hj=>by simp only[labs,hvs] at hj;cases hj
    have M2:MR G F.toFx ρ1 (upd H1 (ρ1 l) (.frz u (.dT kvs))) σ tv (s0.put l (.fdc ks vs)):=M0.m.put2 bl.1 bl.2 st (z7s M0.m.kd hx) rdF lbF
    have M3:MR G F.toFx ρ1 (upd H1 (ρ1 l) (.frz u (.dT kvs))) σ (some (.ref (ρ1 l))::tv) ((s0.put l (.fdc ks vs)).psh (.fdc ks vs)):=
     MRL.push ⟨M2,RDs.one rdF,fun j hj=>by simp only[labsL,List.append_nil] at hj;exact lbF j hj⟩
    have M1:MR G (F.frz (ρ1 l) (.frz u (.dT kvs)) bl.2 (M0.m.frb l bl.1)).toFx ρ1 (upd H1 (ρ1 l) (.frz u (.dT kvs))) σ ([some (.ref (ρ1 l))]++tv) ((s0.put l (.fdc ks vs)).psh (.fdc ks vs)):=M3.frzIn z07 ⟨_,_,rfl⟩
    generalize hs1:(s0.put l (.fdc ks vs)).psh (.fdc ks vs)=s1 at M1 W
    generalize hF1:F.frz (ρ1 l) (.frz u (.dT kvs)) bl.2 (M0.m.frb l bl.1)=F1 at M1
    have out: ∀{ρ H s ts vs},MRL G F1.toFx ρ H σ tv s ts vs->MRL G F.toFx ρ H σ tv s ts vs:=by subst hF1;exact fun h=>h.frzOut
    subst hk
    have kd:KD G.K (upd (upd H1 (ρ1 l) (.frz u (.dT kvs))) A1 (.lst [])):=kd
    have hf:=M1.fresh0 hA1
    refine⟨fun i m ys σ' H'=> ∃ρ s,MR G (F1.prot A1 ys hf).toFx ρ H' σ' ((ys.reverse.map some)++(σ++([some (.ref (ρ1 l))]++tv))) s/\wM G F σ tv (z0U kDct g mt me s1.σ.length m i ys.length s) Q,⟨_,ρ1,_,M1.enter hA1 kd k ix,W⟩, ?_⟩
    rintro i m ys σ' H' ⟨ρ2,s2,M2',W2⟩
    have hD:=(MR.turnD (ys':=ys) M2').1
    refine⟨hD, ?_⟩
    have ol:s1.σ.length=σ.length:=M1.sl.length
    have hfz:H' (ρ1 l)=some (.frz u (.dT kvs)):=by subst hF1;exact MR.frzAt' M2'
    have ok:=zcQ (tvp:=(ys.reverse.map some)++σ) (a:=ρ1 l) (tv:=tv) (by rw[List.append_assoc];exact M2') hfz i
    simp only[List.length_append,List.length_map,List.length_reverse,<-ol,List.append_assoc] at ok
    unfold z0U at W2
    cases e:kDct.at' i (s2.tm.drop (ys.length+s1.σ.length)) with
    |none=>simp only[e] at W2;exact False.elim W2
    |some o=>
     rw[e] at ok
     cases o with
     |none=>
      simp only[e] at W2 ok
      refine .inl ⟨ok, ?_⟩
      cases ea:z0a (s2.tm.take ys.length).reverse with
      |none=>simp only[ea] at W2;exact False.elim W2
      |some ds=>
       simp only[ea] at W2
       exact W2 _ _ _ (out (MR.leave M2' (kk:=kDct.k) rfl _ ol.symm ea))
     |some d=>
      simp only[e] at W2 ok
      cases m with
      |zero=>exact False.elim W2
      |succ f=>
       dsimp only at W2
       cases e2:asg g d s2.σ with
       |none=>simp only[e2] at W2;exact False.elim W2
       |some σ3=>
        simp only[e2] at W2
        refine .inr ⟨ok.1,fun x H2 y=> ?_⟩
        have hx:=ok.2 x H2 y
        refine⟨F1.prot A1 ys hf,_,ρ2,s2,d,hx,σ3,e2,fun σv' M3=>⟨F1.prot A1 ys hf,_,List.nil_suffix,ρ2,_,M3, ?_⟩⟩
        cases e3:mt {s2 with σ:=σ3} with
        |ex d s4=>simp only[e3] at W2;exact False.elim W2
        |no=>simp only[e3] at W2;exact False.elim W2
        |ok b s4=>
         intro ρ4 H4 M4
         cases b with
         |false=>
          simp only[e3] at W2
          rw[if_neg Bool.false_ne_true]
          exact⟨f,Nat.lt_succ_self _,ρ4,s4,M4,W2⟩
         |true=>
          simp only[e3] at W2
          rw[if_pos rfl]
          by_cases hz:ys.length<sizeLine
          ·rw[if_pos hz] at W2
           refine⟨F1.prot A1 ys hf,_,List.nil_suffix,ρ4,s4,M4, ?_⟩
           cases e5:me s4 with
           |ex d s5=>simp only[e5] at W2;exact False.elim W2
           |no=>simp only[e5] at W2;exact False.elim W2
           |ok y s5=>
            simp only[e5] at W2
            intro ρ5 v H5 M5
            obtain⟨hD5,M6⟩:=MR.turnD (ys':=ys++[v]) M5.push
            refine⟨hD5,hz,f,Nat.lt_succ_self _,ρ5,s5.psh y, ?_, ?_⟩
            ·rw[List.reverse_append,List.reverse_cons,List.reverse_nil,List.nil_append,List.map_append]
             exact M6
            ·rw[List.length_append];exact W2
          ·rw[if_neg hz] at W2;exact False.elim W2
   ·rw[if_neg hc] at W;exact False.elim W
  |_=>exact False.elim W
theorem se_compD{scope:Scope}{own frees:List Str}{ix:List Nat}{ifs:List Expr}{m0:M D}{g:Tg}{mt:M Bool}{me:M D}(hk:X.K=G.K)(hc:X.calm=true)(S:z0j X.env.scope scope own frees X.N ix)(hi:SE X G F iter m0)
 (hg: ∀(F:Fy) cl C s₀ H₀ fp pn,SG (z09 X scope own frees cl C s₀ H₀ fp pn) G F tg g) (ht: ∀(F:Fy) cl C s₀ H₀ fp pn,STs (z09 X scope own frees cl C s₀ H₀ fp pn) G F ifs mt) (he: ∀(F:Fy) cl C s₀ H₀ fp pn,SE (z09 X scope own frees cl C s₀ H₀ fp pn) G F elt me)
 (hs: ∀x,foldedSetIterable iter X.env x=pure x:=by intro _;rfl):SE X G F (.ListComp elt [⟨tg,iter,ifs,0⟩] scope pos) (z0s (z3r m0) g mt me own.length ix):=
 PE.imp0 (z4A (g:=tGx G g) (tt:=tBx G mt) (te:=tMx G me) hc S (zao hi) (fun cl C s₀ H₀ fp pn pins s σ H v u Q I r ⟨F',q⟩=>hg F' cl C s₀ H₀ fp pn pins s σ H v u Q I r q)
  (fun cl C s₀ H₀ fp pn pins s σ H Q I ⟨F',q⟩=>ht F' cl C s₀ H₀ fp pn pins s σ H Q I q) (fun cl C s₀ H₀ fp pn pins s σ H Q I ⟨F',q⟩=>he F' cl C s₀ H₀ fp pn pins s σ H Q I q) hs) fun σ H Q h=>z7E hk h
end
end Mi
namespace Mi
open PySem L2
end Mi
namespace PySem
end PySem
namespace L2
open PySem PySem.Spec PyProof.Rows
end L2
namespace Mi
open PySem L2 PySem.Spec
section
variable{X:Cx}{G:Gx}{F:Fy}{a b e:Expr}{ma mb:M D}{pos:Pos}
theorem ss_setN{i:Nat}{x:Str}{p:Pos}{m:M D}(hN:X.N.Nodup)(hi:X.N[i]? =some x)(hx:Loc X.env.scope x)(hf:X.fn x=true\/X.env.scope.names.lookup x=some .local)(he:SE X G F e m)(hs:swapsWith e (some (.Name x p)) pos.line X.env=pure false:=by rfl):SS X G F (.Assign [.Name x p] e pos) (sAsg (.nm i) m):=
 ss_set (fun{te} h=>z3v hN hi hx h hs hf) he
end
structure Dm(K:W.Frag)(C:Addr)(x qual:Str)(st:Stmt)(ps:List Str) where
 f:Addr
 d:FuncData
 F:Fun K x qual st f d
 b:z3k K d ps []
 h:Meth K C x f
end Mi
namespace Mi
open PySem L2 PySem.Spec PyProof.Rows
end Mi
namespace Mi
open PySem L2 PySem.Spec PySem.SeqAt PySem.Calls PyProof.Rows
end Mi
namespace Mi
open PySem L2 PySem.Spec PyProof.Rows
section
variable{X:Cx}{G:Gx}{F:Fy}
noncomputable def repD:List D->M D
 |[.tup ds]=>if strC ds=true then rt (.str (er (.tup ds)).shown) else fl
 |[.lst l ds]=>if(plainL ds&&(er (.lst l ds)).showable&&decide ((er (.lst l ds)).depth<=60)&&decide ((er (.lst l ds)).shown.length<=sizeLine))=true then rt (.str (er (.lst l ds)).shown) else fl
 |_=>fl
theorem zcR:z0K G F (rStr G.K) repD:=by
 intro ρ s ts vs H σv tv Q M W
 unfold repD at W
 split at W
 ·rename_i ds
  exact zcK ρ s [.tup ds] vs H σv tv Q M W
 ·rename_i l ds
  split at W
  ·rename_i hc
   simp only[Bool.and_eq_true,decide_eq_true_eq] at hc
   obtain⟨⟨⟨c1,c2⟩,c3⟩,c4⟩:=hc
   obtain⟨v,rfl,h,_⟩:=M.one
   obtain⟨p,xs,rfl,s1,r1,_⟩:=id (h.lstq (ds:=ds) rfl)
   exact⟨p,er (.lst l ds),rfl,RD.dp _ _ h (by simp only[plain];exact c1),z28 _,c2,c3,c4,fun _=>W.flat M.m rfl⟩
  ·exact wfl W
 ·exact wfl W
end
end Mi
namespace L2
open PySem PySem.Spec PyProof.Rows
end L2
namespace Mi
open PySem L2
end Mi
namespace Mi
open PySem L2 PySem.Spec PyProof.Rows PySem F P
section
variable{X:Cx}{G:Gx}{F:Fy}
theorem zcS:OpR X (compareOp .NotEq) (fun x y H Q=> ∃i j,x= .str i/\y= .str j/\Q (.bl (!(i==j))) H):=by
 intro pins s σ H x y v u Q I rx ry h
 obtain⟨i,j,rfl,rfl,q⟩:=h
 exact zed pins s σ H _ _ v u Q I rx ry ⟨rfl,by rw[z6Q];exact q⟩
noncomputable def neS:D->D->M D
 | .str i, .str j=>rt (.bool (!(i==j)))
 |_,_=>fl
theorem zcT:z1C G F (fun x y H Q=> ∃i j,x= .str i/\y= .str j/\Q (.bl (!(i==j))) H) neS:=by
 intro ρ s t t' v u H σv tv Q M W
 unfold neS at W
 split at W
 ·obtain⟨h1,h2⟩:=M.rd2
  simp only[RD] at h1 h2
  exact⟨_,_,h1,h2,W.flat M.m rfl⟩
 ·exact wfl W
theorem zcU:Cm X G F .NotEq neS:=⟨_,zcS,zcT⟩
end
end Mi
namespace L2
open PySem PySem.Spec PyProof.Rows
end L2
namespace Mi
open PySem L2 PySem.Spec PyProof.Rows
end Mi
namespace L2
open PySem PySem.Spec PyProof.Rows
end L2
namespace Mi
open PySem L2 PySem.Spec PyProof.Rows
end Mi
namespace L2
open PySem PySem.Spec PyProof.Rows
end L2
namespace Mi
open PySem L2
end Mi
namespace So
open PySem PySem.W PyProof.Rows PySem.SeqAt
end So
namespace L2
open PySem PySem.Spec PyProof.Rows
end L2
namespace Mi
open PySem L2 PySem.Spec PyProof.Rows
end Mi
namespace PySem
end PySem
namespace L2
open PySem PySem.Spec PyProof.Rows
end L2
namespace Mi
open PySem L2
end Mi
namespace So
open PySem PySem.W PyProof.Rows PySem.SeqAt
end So
namespace L2
open PySem PySem.Spec PyProof.Rows
end L2
namespace L2
open PySem PySem.Spec PyProof.Rows
open Sem (wp)
open AutoSeq1 (wpAny_loadPart')
end L2
namespace L2
open PySem PySem.Spec PyProof.Rows
open Sem (wp)
end L2
namespace Mi
open PySem L2 PySem.Spec PyProof.Rows
end Mi
namespace L2
open PySem PySem.Spec PyProof.Rows
end L2
namespace Mi
open PySem L2 PySem.Spec PyProof.Rows
end Mi
namespace L2
open PySem PySem.Spec PyProof.Rows
end L2
namespace Mi
open PySem L2 PySem.Spec PyProof.Rows
end Mi
namespace L2
open PySem PySem.Spec PyProof.Rows
section
variable{prog:Program}{w:World}{A:Around}{E:Value->Shared->Prop}{s:Shared}{z TI TO p q t u:Addr}{i j:Nat}{xs ys:Array Value}{a b:Value}
structure ZT(h:Heap)(z TI TO p q t u:Addr)(i j:Nat)(xs ys:Array Value)(a b:Value):Prop where
 z:IsZip h z TI TO .none
 ti:IsPair h TI (.ref p) (.ref q)
 to:IsPair h TO a b
 p:h.IsTupleIter p t i
 q:h.IsTupleIter q u j
 t:h.IsTuple t xs
 u:h.IsTuple u ys
end
end L2
namespace Mi
open PySem L2
end Mi
namespace L2
open PySem PySem.Spec PyProof.Rows
section
variable{X:Cx}{tg:Expr}
inductive PF(X:Cx):List Expr->List (Str⊕TE)->Prop where
 |nil:PF X [] []
 |lit {es:List Expr} {ts:List (Str⊕TE)} {x:Str} {j:Nat} {pos:Pos} (r:PF X es ts):PF X (.Constant (.str x) j pos::es) (.inl x::ts)
 |fld {e:Expr} {es:List Expr} {t:TE} {ts:List (Str⊕TE)} {pos:Pos} (h:PE X e t) (r:PF X es ts):PF X (.FormattedValue e (-1) none pos::es) (.inr t::ts)
end
end L2
namespace Mi
open PySem L2 PySem.Spec PyProof.Rows
inductive SF(P:Expr->M D->Prop):List Expr->List (Str⊕M D)->Prop where
 |nil:SF P [] []
 |lit {es:List Expr} {ms:List (Str⊕M D)} {x:Str} {j:Nat} {pos:Pos} (r:SF P es ms):SF P (.Constant (.str x) j pos::es) (.inl x::ms)
 |fld {e:Expr} {es:List Expr} {m:M D} {ms:List (Str⊕M D)} {pos:Pos} (h:P e m) (r:SF P es ms):SF P (.FormattedValue e (-1) none pos::es) (.inr m::ms)
section
variable{X:Cx}{G:Gx}{F:Fy}{e a b c o tg iter:Expr}{es:List Expr}{pos apos cpos:Pos}
noncomputable def StOK(G:Gx)(F:Fy)(r:V->List V->Hp->VK->Prop)(g:Str->List D->M D):Prop:= ∀ρ s z ts vs H σv tv Q,MRL G F.toFx ρ H σv tv s ts vs->wM G F σv tv (g z ts s) Q->r (.str z) vs H (fun w H'=>KD G.K H'->Q w H')
structure Ct(X:Cx)(G:Gx)(F:Fy)(id:String)(g:Str->List D->M D):Prop where
 h: ∃r,MtR X id r/\StOK G F r g
end
end Mi
namespace L2
open PySem PySem.Spec PyProof.Rows
end L2
namespace Mi
open PySem L2 PySem.Spec PyProof.Rows
end Mi
namespace L2
open PySem PySem.Spec PyProof.Rows
section
variable{X:Cx}
noncomputable def prt(z y:Str):List Str:=match Builtin.Str.occurrences z y 0 z.length 1 with
 |i::_=>[Builtin.Str.strSub z 0 i,y,Builtin.Str.strSub z (i+y.length) z.length]
 |[]=>[z,Str.empty,Str.empty]
end
end L2
namespace Mi
open PySem L2 PySem.Spec PyProof.Rows
end Mi
namespace Mi
open PySem L2 PySem.Spec
end Mi
namespace L2
open PySem PySem.Spec PyProof.Rows
end L2
namespace Mi
open PySem L2 PySem.Spec
end Mi
namespace Se
open PySem PySem.SetTable
noncomputable def adv(m:Nat)(p:Probe):Probe:=
 if p.more>0 then{p with j:=p.j+1,more:=p.more - 1} else
 {p with j:=(leap m p.i p.perturb).1,more:=runEnd m (leap m p.i p.perturb).1 -(leap m p.i p.perturb).1,i:=(leap m p.i p.perturb).1,perturb:=(leap m p.i p.perturb).2}
noncomputable def start(m:Nat)(h:Int):Probe:={j:=bits h %(m+1),more:=runEnd m (bits h %(m+1)) -bits h %(m+1),i:=bits h %(m+1),perturb:=bits h,dummy:=none}
noncomputable def pos(m:Nat)(h:Int):Nat->Probe
 |0=>start m h
 |k+1=>adv m (pos m h k)
theorem z7F(m:Nat)(p:Probe):(adv m p).dummy=p.dummy:=by
 unfold adv
 split<;>rfl
theorem z4I(m:Nat)(h:Int): ∀k,(pos m h k).dummy=none
 |0=>rfl
 |k+1=>by rw[pos,z7F,z4I m h k]
noncomputable def runI(m:Nat)(h:Int):Nat->Nat×Nat
 |0=>(bits h %(m+1),bits h)
 |r+1=>leap m (runI m h r).1 (runI m h r).2
noncomputable def runSt(m:Nat)(h:Int):Nat->Nat
 |0=>0
 |r+1=>runSt m h r+(runEnd m (runI m h r).1 -(runI m h r).1)+1
theorem zaK(m i:Nat):runEnd m i -i<=9:=by
 unfold runEnd
 split<;>lia
theorem z5Q(m:Nat)(h:Int): ∀r,runSt m h r<=10*r
 |0=>Nat.le_refl _
 |r+1=>by
  have h1:=z5Q m h r
  have h2:=zaK m (runI m h r).1
  simp only[runSt]
  lia
noncomputable def z6p(m:Nat)(h:Int)(r d:Nat):Probe:={j:=(runI m h r).1+d,more:=runEnd m (runI m h r).1 -(runI m h r).1 -d,i:=(runI m h r).1,perturb:=(runI m h r).2,dummy:=none}
theorem z7G(m:Nat)(h:Int)(r:Nat)(h0:pos m h (runSt m h r)=z6p m h r 0): ∀d,d<=runEnd m (runI m h r).1 -(runI m h r).1->pos m h (runSt m h r+d)=z6p m h r d
 |0,_=>h0
 |d+1,hd=>by
  rw[<-Nat.add_assoc,pos,z7G m h r h0 d (by lia)]
  unfold adv
  rw[if_pos (show(z6p m h r d).more>0 by show runEnd m (runI m h r).1 -(runI m h r).1 -d>0;lia)]
  simp only[z6p,Nat.add_assoc,Probe.mk.injEq,true_and,and_true]
  lia
theorem z7H(m:Nat)(h:Int): ∀r,pos m h (runSt m h r)=z6p m h r 0
 |0=>rfl
 |r+1=>by
  have h1:=z7G m h r (z7H m h r) (runEnd m (runI m h r).1 -(runI m h r).1) (Nat.le_refl _)
  simp only[runSt]
  rw[pos,h1]
  unfold adv
  rw[if_neg (show ¬(z6p m h r (runEnd m (runI m h r).1 -(runI m h r).1)).more>0 by show ¬(runEnd m (runI m h r).1 -(runI m h r).1 -(runEnd m (runI m h r).1 -(runI m h r).1))>0;lia)]
  rfl
theorem z5R(m:Nat)(h:Int): ∀r,(runI m h r).2=bits h/32^r
 |0=>by simp[runI]
 |r+1=>by
  show(runI m h r).2/32=_
  rw[z5R m h r,Nat.div_div_eq_div_mul,Nat.pow_succ]
theorem zaL(h:Int):bits h<2^64:=by
 unfold bits
 have h1:=Int.emod_lt_of_pos h (show(0:Int)<2^64 by decide)
 have h2:=Int.emod_nonneg h (show(2:Int)^64≠0 by decide)
 lia
theorem zeH(m:Nat)(h:Int){r:Nat}(hr:13<=r):(runI m h r).2=0:=by
 rw[z5R]
 refine Nat.div_eq_of_lt (Nat.lt_of_lt_of_le (zaL h) ?_)
 exact Nat.le_trans (show 2^64<=32^13 by decide) (Nat.pow_le_pow_right (by decide) hr)
noncomputable def stp(m i:Nat):Nat:=(i*5+1) %(m+1)
noncomputable def itr(m:Nat):Nat->Nat->Nat
 |0,i=>i
 |k+1,i=>stp m (itr m k i)
theorem z5i(m:Nat)(h:Int): ∀k,(runI m h (13+k)).1=itr m k (runI m h 13).1
 |0=>rfl
 |k+1=>by
  show(leap m (runI m h (13+k)).1 (runI m h (13+k)).2).1=_
  rw[zeH m h (by lia),z5i m h k]
  rfl
theorem z5j(m:Nat)(h:Int): ∀r,(runI m h r).1<m+1
 |0=>Nat.mod_lt _ (Nat.succ_pos _)
 |r+1=>Nat.mod_lt _ (Nat.succ_pos _)
noncomputable def Msk(m:Nat):Prop:=m=7\/m=31\/m=127
noncomputable def orb(m:Nat):Nat->Nat->List Nat
 |0,_=>[]
 |k+1,i=>i::orb m k (stp m i)
noncomputable def full(m:Nat):Bool:=(List.range (m+1)).all (fun e=>(orb m (m+1) 0).contains e)&&itr m (m+1) 0==0
theorem zeI:full 7=true:=by decide+kernel
theorem zcV:full 31=true:=by decide+kernel
theorem zaM:full 127=true:=by decide+kernel
theorem z5S(m:Nat): ∀k i,itr m k (stp m i)=stp m (itr m k i)
 |0,_=>rfl
 |k+1,i=>by simp only[itr,z5S m k i]
theorem z7I(m:Nat): ∀(n i e:Nat),e∈orb m n i->∃k,k<n/\itr m k i=e
 |0,_,_,h=>by simp[orb] at h
 |n+1,i,e,h=>by
  rcases List.mem_cons.mp h with rfl|h
  ·exact⟨0,by lia,rfl⟩
  ·obtain⟨k,hk,q⟩:=z7I m n _ e h
   exact⟨k+1,by lia,by rw[<-q,itr,z5S]⟩
theorem z41(m:Nat): ∀k s i,itr m (k+s) i=itr m k (itr m s i)
 |0,s,i=>by rw[Nat.zero_add];rfl
 |k+1,s,i=>by rw[Nat.succ_add,itr,z41 m k s i];rfl
theorem cyc{m:Nat}(hm:Msk m){a e:Nat}(ha:a<m+1)(he:e<m+1): ∃k,k<m+1/\itr m k a=e:=by
 have hf:full m=true:=by
  rcases hm with rfl|rfl|rfl
  ·exact zeI
  ·exact zcV
  ·exact zaM
 unfold full at hf
 rw[Bool.and_eq_true,List.all_eq_true,beq_iff_eq] at hf
 have at0: ∀e,e<m+1->∃k,k<m+1/\itr m k 0=e:=fun e he=>z7I m _ _ _ (List.contains_iff_mem.mp (hf.1 e (List.mem_range.mpr he)))
 obtain⟨s,hs,rfl⟩:=at0 a ha
 obtain⟨r,hr,rfl⟩:=at0 e he
 by_cases h:s<=r
 ·exact⟨r -s,by lia,by rw[<-z41,Nat.sub_add_cancel h]⟩
 ·refine⟨r+(m+1) -s,by lia, ?_⟩
  rw[<-z41,Nat.sub_add_cancel (by lia),z41,hf.2]
theorem zeJ{m:Nat}(hm:Msk m)(h:Int){e:Nat}(he:e<m+1): ∃k,k<10*turns m/\(pos m h k).j=e:=by
 obtain⟨k,hk,q⟩:=cyc hm (z5j m h 13) he
 refine⟨runSt m h (13+k), ?_, ?_⟩
 ·have:=z5Q m h (13+k)
  unfold turns
  lia
 ·rw[z7H,<-q,<-z5i]
  rfl
noncomputable def Ris(P:List Nat):Prop:=P.Pairwise (· < ·)
theorem Ris.at{P:List Nat}(h:Ris P){a b:Nat}(hab:a<b)(hb:b<P.length):P[a]<P[b]:=List.pairwise_iff_getElem.mp h a b (by lia) hb hab
structure Cut(P:List Nat)(j r:Nat):Prop where
 le:r<=P.length
 lo: ∀a (h:a<P.length),a<r->P[a]<j
 hi: ∀a (h:a<P.length),r<=a->j<=P[a]
theorem zaN{xs:Array Nat}{a j:Nat}(h:a<xs.toList.length):xs.getD a j=xs.toList[a]:=by
 rw[Array.getD_eq_getD_getElem?,<-Array.getElem?_toList,List.getElem?_eq_getElem h]
 rfl
theorem z7J{xs:Array Nat}{j:Nat}(hr:Ris xs.toList): ∀(fuel lo hi:Nat),hi<=xs.toList.length->lo<=hi->hi -lo<=fuel->(∀a (h:a<xs.toList.length),a<lo->xs.toList[a]<j)->(∀a (h:a<xs.toList.length),hi<=a->j<=xs.toList[a])->Cut xs.toList j (below.go xs j fuel lo hi)
 |0,lo,hi,h1,h2,h3,h4,h5=>by
  have e:lo=hi:=by lia
  subst e
  exact⟨h1,h4,h5⟩
 |fuel+1,lo,hi,h1,h2,h3,h4,h5=>by
  unfold below.go
  by_cases hl:lo<hi
  ·rw[if_pos hl]
   have hm:(lo+hi)/2<xs.toList.length:=by lia
   simp only[zaN hm]
   by_cases hj:xs.toList[(lo+hi)/2]<j
   ·rw[if_pos hj]
    refine z7J hr fuel _ _ h1 (by lia) (by lia) (fun a ha hal=> ?_) h5
    rcases Nat.lt_or_eq_of_le (show a<=(lo+hi)/2 by lia) with q|rfl
    ·exact Nat.lt_trans (hr.at q hm) hj
    ·exact hj
   ·rw[if_neg hj]
    refine z7J hr fuel _ _ (by lia) (by lia) (by lia) h4 (fun a ha hal=> ?_)
    rcases Nat.lt_or_eq_of_le hal with q|rfl
    ·have:=hr.at q ha
     lia
    ·lia
  ·rw[if_neg hl]
   have e:lo=hi:=by lia
   subst e
   exact⟨h1,h4,h5⟩
theorem z4J{xs:Array Nat}{j:Nat}(hr:Ris xs.toList):Cut xs.toList j (below xs j):=by
 unfold below
 exact z7J hr _ _ _ (by simp) (Nat.zero_le _) (by simp) (fun a h q=>absurd q (Nat.not_lt_zero _)) (fun a h q=>by simp at h;lia)
theorem cut_mem{P:List Nat}{j r:Nat}(hr:Ris P)(h:Cut P j r)(hj:j∈P):P[r]? =some j:=by
 obtain⟨a,ha,rfl⟩:=List.getElem_of_mem hj
 have h1:r<=a:=by
  rcases Nat.lt_or_ge a r with q|q
  ·exact absurd (h.lo a ha q) (Nat.lt_irrefl _)
  ·exact q
 rcases Nat.lt_or_eq_of_le h1 with q|q
 ·have h2:=hr.at q ha
  have h3:=h.hi r (by lia) (Nat.le_refl _)
  lia
 ·rw[q,List.getElem?_eq_getElem ha]
theorem zcW{P:List Nat}{j r:Nat}(hj:j∉P):P[r]? ≠some j:=fun e=>hj (List.mem_of_getElem? e)
theorem z5T(j:Nat):has #[] j=false:=by
 unfold has
 simp
theorem slot_live{t:SetTable}(hr:Ris t.place.toList){j:Nat}(hj:j∈t.place.toList): ∃i,t.slot j= .live i/\t.place.toList[i]? =some j:=by
 have h:=cut_mem hr (z4J hr) hj
 refine⟨below t.place j, ?_,h⟩
 unfold slot
 simp only
 rw[if_pos (by rw[<-Array.getElem?_toList,h];simp)]
theorem slot_empty{t:SetTable}(hd:t.dummies= #[]){j:Nat}(hj:j∉t.place.toList):t.slot j= .empty:=by
 unfold slot
 simp only
 rw[if_neg (by rw[<-Array.getElem?_toList];simpa using zcW hj),hd,z5T]
 rfl
theorem probe_go{t:SetTable}(hd:t.dummies= #[])(hr:Ris t.place.toList)(hashAt:Nat->Int)(h:Int): ∀(d fuel k:Nat),d<fuel->
 (∀d',d'<d->∃i,t.slot (pos t.mask h (k+d')).j= .live i/\(hashAt i==h)=false)->
 ((pos t.mask h (k+d)).j∉t.place.toList->SetTable.probe.go t hashAt h fuel (pos t.mask h k)=some (.empty (pos t.mask h (k+d)).j none))/\
 (∀i,t.slot (pos t.mask h (k+d)).j= .live i->(hashAt i==h)=true->SetTable.probe.go t hashAt h fuel (pos t.mask h k)=some (.candidate (pos t.mask h (k+d)).j i (pos t.mask h (k+d+1))))
 |0,fuel+1,k,_,_=>by
  refine⟨fun q=> ?_,fun i q1 q2=> ?_⟩
  ·unfold SetTable.probe.go
   rw[Nat.add_zero] at q⊢
   rw[slot_empty hd q]
   simp only[z4I]
  ·unfold SetTable.probe.go
   rw[Nat.add_zero] at q1⊢
   rw[q1]
   simp only[q2,if_true]
   rfl
 |d+1,fuel+1,k,hf,hl=>by
  obtain⟨i,h1,h2⟩:=hl 0 (by lia)
  have ih:=probe_go hd hr hashAt h d fuel (k+1) (by lia) (fun d' hd'=>by
   have:=hl (d'+1) (by lia)
   rwa [show k+(d'+1)=k+1+d' by lia] at this)
  rw[show k+1+d=k+(d+1) by lia] at ih
  have e:SetTable.probe.go t hashAt h (fuel+1) (pos t.mask h k)=SetTable.probe.go t hashAt h fuel (pos t.mask h (k+1)):=by
   conv=>lhs;unfold SetTable.probe.go
   rw[Nat.add_zero] at h1
   rw[h1]
   simp only[h2,Bool.false_eq_true,if_false]
   rfl
  rw[e]
  exact ih
theorem z7K{m i:Nat}(h:i<=m):i+(runEnd m i -i)<=m:=by
 unfold runEnd
 split<;>lia
theorem z7L(m:Nat)(h:Int): ∀k,(pos m h k).j+(pos m h k).more<=m
 |0=>z7K (Nat.le_of_lt_succ (Nat.mod_lt (bits h) (Nat.succ_pos m)))
 |k+1=>by
  have ih:=z7L m h k
  rw[pos]
  unfold adv
  split
  ·show(pos m h k).j+1+((pos m h k).more - 1)<=m
   lia
  ·exact z7K (Nat.le_of_lt_succ (Nat.mod_lt ((pos m h k).i*5+1+(pos m h k).perturb/32) (Nat.succ_pos m)))
noncomputable def Rch(m:Nat)(P:List Nat)(h:Int)(s:Nat):Prop:= ∃k,(pos m h k).j=s/\∀k',k'<k->(pos m h k').j∈P
theorem Rch.mono{m:Nat}{P P':List Nat}{h:Int}{s:Nat}(q:Rch m P h s)(hp: ∀x∈P,x∈P'):Rch m P' h s:=by
 obtain⟨k,h1,h2⟩:=q
 exact⟨k,h1,fun k' hk=>hp _ (h2 k' hk)⟩
theorem hole{P:List Nat}{m:Nat}(hn:P.Nodup)(hl:P.length<=m): ∃e,e<m+1/\e∉P:=by
 refine Classical.byContradiction fun q=> ?_
 have hall: ∀e,e<m+1->e∈P:=fun e he=>Classical.byContradiction fun z=>q ⟨e,he,z⟩
 have:(List.range (m+1)).length<=P.length:=List.Nodup.length_le_of_subset List.nodup_range fun e he=>hall e (List.mem_range.mp he)
 rw[List.length_range] at this
 lia
theorem Ris.nodup{P:List Nat}(h:Ris P):P.Nodup:=h.imp fun q=>Nat.ne_of_lt q
theorem least{p:Nat->Prop}{n:Nat}(h:p n): ∃k,k<=n/\p k/\∀k',k'<k->¬p k':=by
 induction n using Nat.strongRecOn with
 |_ n ih=>
  by_cases q: ∃k,k<n/\p k
  ·obtain⟨k,hk,hp⟩:=q
   obtain⟨k2,h1,h2,h3⟩:=ih k hk hp
   exact⟨k2,by lia,h2,h3⟩
  ·exact⟨n,Nat.le_refl _,h,fun k' hk hp=>q ⟨k',hk,hp⟩⟩
theorem first_hole{m:Nat}(hm:Msk m)(h:Int){P:List Nat}(hn:P.Nodup)(hl:P.length<=m): ∃ke,ke<10*turns m/\(pos m h ke).j∉P/\∀k',k'<ke->(pos m h k').j∈P:=by
 obtain⟨e,he,hp⟩:=hole hn hl
 obtain⟨k,hk,rfl⟩:=zeJ hm h he
 obtain⟨ke,h1,h2,h3⟩:=least (p:=fun k=>(pos m h k).j∉P) hp
 exact⟨ke,by lia,h2,fun k' hk'=>Classical.byContradiction fun z=>h3 k' hk' z⟩
variable{α:Type}
noncomputable abbrev Row(α:Type):=Nat×Int×α
noncomputable def plc(E:List (Row α)):List Nat:=E.map (·.1)
structure TI(t:SetTable)(E:List (Row α)):Prop where
 ms:Msk t.mask
 nd:t.dummies= #[]
 pl:t.place.toList=plc E
 rs:Ris (plc E)
 lt: ∀e∈E,e.1<=t.mask
 rc: ∀e∈E,Rch t.mask (plc E) e.2.1 e.1
 ln:E.length<=t.mask
theorem plc_len(E:List (Row α)):(plc E).length=E.length:=by simp[plc]
theorem ins_list{β:Type}(xs:Array β)(p:Nat)(x:β):(insertAt xs p x).toList=xs.toList.take p++x::xs.toList.drop p:=by
 unfold insertAt
 rw[Array.toList_append,Array.toList_push,Array.toList_extract,Array.toList_extract]
 simp[List.extract,List.take_of_length_le]
theorem zaO{P:List Nat}{j r:Nat}(hr:Ris P)(hc:Cut P j r)(hj:j∉P):Ris (P.take r++j::P.drop r):=by
 unfold Ris
 rw[List.pairwise_append,List.pairwise_cons]
 have lo: ∀a∈P.take r,a<j:=fun a ha=>by
  obtain⟨i,hi,rfl⟩:=List.getElem_of_mem ha
  rw[List.length_take] at hi
  rw[List.getElem_take]
  exact hc.lo i (by lia) (by lia)
 have hi: ∀b∈P.drop r,j<b:=fun b hb=>by
  have hm:=List.mem_of_mem_drop hb
  obtain⟨i,hi,rfl⟩:=List.getElem_of_mem hb
  rw[List.length_drop] at hi
  rw[List.getElem_drop] at hm⊢
  have:=hc.hi (r+i) (by lia) (by lia)
  rcases Nat.lt_or_eq_of_le this with q|q
  ·exact q
  ·exact absurd (q▸hm) hj
 refine⟨hr.sublist (List.take_sublist _ _),⟨fun b hb=>hi b hb,hr.sublist (List.drop_sublist _ _)⟩,fun a ha b hb=> ?_⟩
 rcases List.mem_cons.mp hb with rfl|hb
 ·exact lo a ha
 ·exact Nat.lt_trans (lo a ha) (hi b hb)
noncomputable def insE(E:List (Row α))(r:Nat)(e:Row α):List (Row α):=E.take r++e::E.drop r
theorem mem_ins{E:List (Row α)}{r:Nat}{e x:Row α}:x∈insE E r e↔x=e\/x∈E:=by
 unfold insE
 constructor
 ·intro h
  rcases List.mem_append.mp h with h|h
  ·exact .inr (List.mem_of_mem_take h)
  ·rcases List.mem_cons.mp h with h|h
   ·exact .inl h
   ·exact .inr (List.mem_of_mem_drop h)
 ·rintro (rfl|h)
  ·simp
  ·rw[<-List.take_append_drop r E] at h
   rcases List.mem_append.mp h with h|h
   ·exact List.mem_append_left _ h
   ·exact List.mem_append_right _ (List.mem_cons_of_mem _ h)
theorem z7M(E:List (Row α))(r:Nat)(e:Row α):plc (insE E r e)=(plc E).take r++e.1::(plc E).drop r:=by
 unfold plc insE
 rw[List.map_append,List.map_cons,List.map_take,List.map_drop]
theorem ins_len(E:List (Row α))(r:Nat)(e:Row α):(insE E r e).length=E.length+1:=by
 unfold insE
 rw[List.length_append,List.length_cons,List.length_take,List.length_drop]
 lia
theorem put_ti{t:SetTable}{E:List (Row α)}(T:TI t E){h:Int}{x:α}{k:Nat}(hk:(pos t.mask h k).j∉plc E)(hb: ∀k',k'<k->(pos t.mask h k').j∈plc E)(hl:E.length+1<=t.mask):
 TI (t.put (pos t.mask h k).j).1 (insE E (t.put (pos t.mask h k).j).2 ((pos t.mask h k).j,h,x)):=by
 have hr:Ris t.place.toList:=by rw[T.pl];exact T.rs
 have hc:=z4J (j:=(pos t.mask h k).j) hr
 have hd:(t.put (pos t.mask h k).j).1.dummies= #[]:=by
  show(if has t.dummies (pos t.mask h k).j=true then _ else t.dummies)= #[]
  rw[T.nd,z5T]
  rfl
 have hp:(t.put (pos t.mask h k).j).1.place.toList=plc (insE E (t.put (pos t.mask h k).j).2 ((pos t.mask h k).j,h,x)):=by
  show(insertAt t.place (below t.place (pos t.mask h k).j) (pos t.mask h k).j).toList=_
  rw[ins_list,z7M,T.pl]
  rfl
 have sub: ∀y∈plc E,y∈plc (insE E (t.put (pos t.mask h k).j).2 ((pos t.mask h k).j,h,x)):=fun y hy=>by
  obtain⟨e,he,rfl⟩:=List.mem_map.mp hy
  exact List.mem_map.mpr ⟨e,mem_ins.mpr (.inr he),rfl⟩
 refine⟨T.ms,hd,hp, ?_,fun e he=> ?_,fun e he=> ?_,by rw[ins_len];exact hl⟩
 ·rw[z7M]
  rw[T.pl] at hc
  exact zaO T.rs (by rw[<-T.pl] at hc⊢;exact hc) hk
 ·rcases mem_ins.mp he with rfl|he
  ·have:=z7L t.mask h k
   show(pos t.mask h k).j<=t.mask
   lia
  ·exact T.lt e he
 ·rcases mem_ins.mp he with rfl|he
  ·exact⟨k,rfl,fun k' q=>sub _ (hb k' q)⟩
  ·exact(T.rc e he).mono sub
end Se
namespace Se
open PySem PySem.SetTable
noncomputable def emp(o:Array (Option Nat))(j:Nat):Bool:=(o.getD j (some 0)).isNone
structure Own(m:Nat)(hs:List Int)(o:Array (Option Nat))(S:List Nat):Prop where
 sz:o.size=m+1
 ln:S.length=hs.length
 nd:S.Nodup
 lt: ∀s∈S,s<=m
 at': ∀j k,o.getD j none=some k↔S[k]? =some j
 rc: ∀k (h1:k<hs.length) (h2:k<S.length),Rch m S hs[k] S[k]
theorem z5k{m:Nat}{hs:List Int}{o:Array (Option Nat)}{S:List Nat}(W:Own m hs o S){j:Nat}(hj:j<=m):emp o j=true↔j∉S:=by
 have hz:j<o.size:=by rw[W.sz];lia
 unfold emp
 rw[Array.getD_eq_getD_getElem?,Array.getElem?_eq_getElem hz,Option.getD_some]
 have ha:=W.at' j
 simp only[Array.getD_eq_getD_getElem?,Array.getElem?_eq_getElem hz,Option.getD_some] at ha
 cases e:o[j] with
 |none=>
  simp only[Option.isNone_none,true_iff]
  intro q
  obtain⟨k,hk,rfl⟩:=List.getElem_of_mem q
  have:=(ha k).mpr (List.getElem?_eq_getElem hk)
  rw[e] at this
  cases this
 |some k=>
  simp only[Option.isNone_some,Bool.false_eq_true,false_iff,Classical.not_not]
  exact List.mem_of_getElem? ((ha k).mp e)
theorem z7N{m:Nat}{h:Int}{hs:List Int}{o:Array (Option Nat)}{S:List Nat}(W:Own m hs o S){R:Nat}(hR:(runI m h R).1∉S): ∀(fuel r:Nat),R<r+fuel->r<=R->(∀k',k'<runSt m h r->(pos m h k').j∈S)->∃k,SetTable.layClean.free m o fuel (runI m h r).1 (runI m h r).2=some (pos m h k).j/\(pos m h k).j∉S/\∀k',k'<k->(pos m h k').j∈S
 |0,r,h1,h2,_=>by lia
 |fuel+1,r,h1,h2,hb=>by
  have hi:=z5j m h r
  have hle: ∀d,d<=runEnd m (runI m h r).1 -(runI m h r).1->(runI m h r).1+d<=m:=fun d hd=>by
   have:=z7K (m:=m) (i:=(runI m h r).1) (by lia)
   lia
  have hpos: ∀d,d<=runEnd m (runI m h r).1 -(runI m h r).1->(pos m h (runSt m h r+d)).j=(runI m h r).1+d:=fun d hd=>by
   rw[z7G m h r (z7H m h r) d hd]
   rfl
  have hre:(runI m h r).1<=runEnd m (runI m h r).1:=by unfold runEnd;split<;>lia
  unfold SetTable.layClean.free
  cases e:(List.range (runEnd m (runI m h r).1+1 -(runI m h r).1)).find? (fun k=>(o.getD ((runI m h r).1+k) (some 0)).isNone) with
  |some d=>
   rw[List.find?_range_eq_some] at e
   obtain⟨e1,e2,e3⟩:=e
   have hd:d<=runEnd m (runI m h r).1 -(runI m h r).1:=by
    have:=List.mem_range.mp e2
    lia
   refine⟨runSt m h r+d,by simp only[hpos d hd], ?_,fun k' hk=> ?_⟩
   ·rw[hpos d hd]
    exact(z5k W (hle d hd)).mp e1
   ·by_cases q:k'<runSt m h r
    ·exact hb k' q
    ·obtain⟨d',rfl⟩: ∃d',k'=runSt m h r+d':=⟨k' -runSt m h r,by lia⟩
     rw[hpos d' (by lia)]
     have:=e3 d' (by lia)
     refine Classical.byContradiction fun z=> ?_
     have z2:=(z5k W (hle d' (by lia))).mpr z
     unfold emp at z2
     rw[z2] at this
     cases this
  |none=>
   rw[List.find?_range_eq_none] at e
   have hall: ∀d,d<=runEnd m (runI m h r).1 -(runI m h r).1->(runI m h r).1+d∈S:=fun d hd=>Classical.byContradiction fun z=>by
    have z2:=(z5k W (hle d hd)).mpr z
    have:=e d (by lia)
    unfold emp at z2
    rw[z2] at this
    cases this
   have hne:r≠R:=fun q=>hR (by rw[<-q];exact hall 0 (Nat.zero_le _))
   simp only
   exact z7N W hR fuel (r+1) (by lia) (by lia) (fun k' hk=>by
    by_cases q:k'<runSt m h r
    ·exact hb k' q
    ·obtain⟨d',rfl⟩: ∃d',k'=runSt m h r+d':=⟨k' -runSt m h r,by lia⟩
     simp only[runSt] at hk
     rw[hpos d' (by lia)]
     exact hall d' (by lia))
theorem z9e{m:Nat}(hm:Msk m)(h:Int){S:List Nat}(hn:S.Nodup)(hl:S.length<=m): ∃R,R<turns m/\(runI m h R).1∉S:=by
 obtain⟨e,he,hp⟩:=hole hn hl
 obtain⟨k,hk,q⟩:=cyc hm (z5j m h 13) he
 refine⟨13+k,by unfold turns;lia, ?_⟩
 rw[z5i,q]
 exact hp
theorem zaP{m:Nat}(hm:Msk m){hs:List Int}{o:Array (Option Nat)}{S:List Nat}(W:Own m hs o S)(hl:S.length<=m)(h:Int): ∃j,SetTable.layClean.free m o (turns m) (bits h %(m+1)) (bits h)=some j/\Own m (hs++[h]) (o.setIfInBounds j (some hs.length)) (S++[j]):=by
 obtain⟨R,hR,hno⟩:=z9e hm h W.nd hl
 obtain⟨k,e1,e2,e3⟩:=z7N W hno (turns m) 0 (by lia) (Nat.zero_le _) (fun k' q=>absurd q (Nat.not_lt_zero _))
 have hj:(pos m h k).j<=m:=by have:=z7L m h k;lia
 refine⟨_,e1, ?_⟩
 refine⟨by rw[Array.size_setIfInBounds];exact W.sz,by simp[W.ln], ?_,fun s hs'=> ?_,fun j' k'=> ?_,fun k' h1 h2=> ?_⟩
 ·rw[List.nodup_append]
  exact⟨W.nd,by simp,fun a ha b hb q=>by rw[List.mem_singleton.mp hb] at q;exact e2 (q▸ha)⟩
 ·rcases List.mem_append.mp hs' with q|q
  ·exact W.lt s q
  ·rw[List.mem_singleton.mp q];exact hj
 ·have hz:(pos m h k).j<o.size:=by rw[W.sz];lia
  rw[Array.getD_eq_getD_getElem?,Array.getElem?_setIfInBounds]
  by_cases q:(pos m h k).j=j'
  ·rw[if_pos q,if_pos hz,Option.getD_some]
   constructor
   ·intro z
    have z:hs.length=k':=by simpa using z
    rw[<-z,<-W.ln,<-q]
    simp
   ·intro z
    rcases Nat.lt_trichotomy k' S.length with c|c|c
    ·rw[List.getElem?_append_left c] at z
     exact absurd (q▸List.mem_of_getElem? z) e2
    ·rw[c,W.ln]
    ·rw[List.getElem?_eq_none (by simp;lia)] at z
     cases z
  ·rw[if_neg q,<-Array.getD_eq_getD_getElem?,W.at' j' k']
   rcases Nat.lt_trichotomy k' S.length with c|c|c
   ·rw[List.getElem?_append_left c]
   ·rw[c]
    simp only[List.getElem?_eq_none (Nat.le_refl _),List.getElem?_append_right (Nat.le_refl _),Nat.sub_self,List.getElem?_cons_zero,Option.some.injEq]
    exact⟨fun z=>(nomatch z),fun z=>absurd z q⟩
   ·rw[List.getElem?_eq_none (by lia),List.getElem?_eq_none (by simp;lia)]
 ·by_cases c:k'<S.length
  ·rw[List.getElem_append_left c,List.getElem_append_left (by rw[<-W.ln];exact c)]
   exact(W.rc k' (by rw[<-W.ln];exact c) c).mono fun x hx=>List.mem_append_left _ hx
  ·have c':k'=S.length:=by simp at h2;lia
   subst c'
   rw[List.getElem_append_right (Nat.le_refl _),List.getElem_append_right (by rw[W.ln];exact Nat.le_refl _)]
   simp only[Nat.sub_self,List.getElem_cons_zero]
   have:S.length -hs.length=0:=by rw[W.ln];lia
   simp only[this,List.getElem_cons_zero]
   exact⟨k,rfl,fun k' q=>List.mem_append_left _ (e3 k' q)⟩
noncomputable def layF(m:Nat)(acc:Option (Array (Option Nat)×Nat))(h:Int):Option (Array (Option Nat)×Nat):=do
 let(owner,k)<-acc
 let j<-SetTable.layClean.free m owner (turns m) (bits h %(m+1)) (bits h)
 pure (owner.setIfInBounds j (some k),k+1)
theorem z7O{m:Nat}(hm:Msk m): ∀(more hs:List Int) (o:Array (Option Nat)) (S:List Nat),Own m hs o S->hs.length+more.length<=m->∃o' S',more.foldl (layF m) (some (o,hs.length))=some (o',(hs++more).length)/\Own m (hs++more) o' S'
 |[],hs,o,S,W,_=>⟨o,S,by simp,by simpa using W⟩
 |h::more,hs,o,S,W,hl=>by
  simp only[List.length_cons] at hl
  obtain⟨j,e1,W1⟩:=zaP hm W (by rw[W.ln];lia) h
  obtain⟨o',S',e2,W2⟩:=z7O hm more (hs++[h]) _ _ W1 (by simp;lia)
  refine⟨o',S', ?_,by simpa using W2⟩
  rw[List.foldl_cons]
  have:layF m (some (o,hs.length)) h=some (o.setIfInBounds j (some hs.length),(hs++[h]).length):=by
   unfold layF
   simp only[Option.bind_eq_bind,Option.bind_some,e1]
   simp
  rw[this,e2]
  simp
theorem own0(m:Nat):Own m [] (Array.replicate (m+1) none) []:=by
 refine⟨by simp,rfl,List.nodup_nil,fun s h=>(nomatch h),fun j k=> ?_,fun k h1=>absurd h1 (Nat.not_lt_zero _)⟩
 rw[Array.getD_eq_getD_getElem?,Array.getElem?_replicate]
 by_cases q:j<m+1
 ·simp[q]
 ·simp[q]
theorem z7P{m:Nat}(hm:Msk m)(hs:Array Int)(hl:hs.size<=m): ∃o S,SetTable.layClean m hs=some o/\Own m hs.toList o S:=by
 obtain⟨o,S,e,W⟩:=z7O hm hs.toList [] _ _ (own0 m) (by simpa using hl)
 refine⟨o,S, ?_,by simpa using W⟩
 unfold SetTable.layClean
 rw[<-Array.foldl_toList]
 show Option.map (·.1) (hs.toList.foldl (layF m) (some (Array.replicate (m+1) none,0)))=_
 rw[show(some (Array.replicate (m+1) (none:Option Nat),0))=some (Array.replicate (m+1) none,([]:List Int).length) from rfl,e]
 rfl
noncomputable def live(m:Nat)(o:Array (Option Nat)):List (Nat×Nat):=(List.range (m+1)).filterMap fun j=>(o.getD j none).map (j,·)
theorem z2H{m:Nat}{o:Array (Option Nat)}{j k:Nat}:(j,k)∈live m o↔j<m+1/\o.getD j none=some k:=by
 unfold live
 rw[List.mem_filterMap]
 constructor
 ·rintro ⟨j',h1,h2⟩
  rw[Option.map_eq_some_iff] at h2
  obtain⟨k',h3,h4⟩:=h2
  cases h4
  exact⟨List.mem_range.mp h1,h3⟩
 ·rintro ⟨h1,h2⟩
  exact⟨j,List.mem_range.mpr h1,by rw[h2];rfl⟩
theorem z2Z(m:Nat)(o:Array (Option Nat)):(live m o).Pairwise (fun a b=>a.1<b.1):=by
 unfold live
 rw[List.pairwise_filterMap]
 refine List.pairwise_lt_range.imp fun{a b} hab x hx y hy=> ?_
 simp only[Option.mem_def,Option.map_eq_some_iff] at hx hy
 obtain⟨_,_,rfl⟩:=hx
 obtain⟨_,_,rfl⟩:=hy
 exact hab
theorem z7Q{β:Type}(es:List β):(List.range es.length).filterMap (fun i=>es[i]?)=es:=by
 have h:(List.range es.length).map (fun i=>es[i]?)=es.map some:=by
  apply List.ext_getElem
  ·simp
  ·intro i h1 h2
   simp at h1
   simp[h1]
 have h2:(List.range es.length).filterMap (fun i=>es[i]?)=((List.range es.length).map (fun i=>es[i]?)).filterMap id:=by rw[List.filterMap_map];rfl
 rw[h2,h,List.filterMap_map]
 simp
theorem laid_ti{α:Type}{m:Nat}(hm:Msk m)(fg mv:Nat)(ld pn:Bool)(es:Array (Int×α))(hl:es.size<=m): ∃(t:SetTable) (order:Array Nat) (E:List (Row α)),laid m fg mv ld pn (es.map (·.1))=some (t,order)/\t.mask=m/\TI t E/\(order.filterMap (es[·]?)).toList=E.map (·.2)/\(E.map (·.2)).Perm es.toList:=by
 obtain⟨o,S,e,W⟩:=z7P hm (es.map (·.1)) (by simpa using hl)
 have hsl:(es.map (·.1)).toList=es.toList.map (·.1):=by simp
 rw[hsl] at W
 have hln:S.length=es.toList.length:=by rw[W.ln,List.length_map]
 let g:Nat×Nat->Option (Row α):=fun jk=>(es.toList[jk.2]?).map fun x=>(jk.1,x)
 have hall: ∀jk∈live m o,S[jk.2]? =some jk.1/\jk.2<es.toList.length:=fun jk h=>by
  obtain⟨j,k⟩:=jk
  have h1:=(W.at' j k).mp (z2H.mp h).2
  refine⟨h1, ?_⟩
  have:=(List.getElem?_eq_some_iff.mp h1).1
  lia
 have hord:((live m o).map (·.2)).Perm (List.range es.toList.length):=by
  refine(List.perm_ext_iff_of_nodup ?_ List.nodup_range).mpr fun k=> ?_
  ·rw[List.Nodup,List.pairwise_map]
   refine(z2Z m o).imp_of_mem fun{a b} ha hb hab q=> ?_
   have h1:=(hall a ha).1
   have h2:=(hall b hb).1
   rw[q] at h1
   rw[h1] at h2
   have:=Option.some.inj h2
   lia
  ·constructor
   ·intro h
    obtain⟨jk,h1,rfl⟩:=List.mem_map.mp h
    exact List.mem_range.mpr (hall jk h1).2
   ·intro h
    have hk:k<S.length:=by rw[hln];exact List.mem_range.mp h
    refine List.mem_map.mpr ⟨(S[k],k),z2H.mpr ⟨?_,(W.at' _ _).mpr (List.getElem?_eq_getElem hk)⟩,rfl⟩
    have:=W.lt _ (List.getElem_mem hk)
    lia
 have hE1:((live m o).filterMap g).map (·.1)=(live m o).map (·.1):=by
  have: ∀l:List (Nat×Nat),(∀jk∈l,jk.2<es.toList.length)->(l.filterMap g).map (·.1)=l.map (·.1):=by
   intro l hl
   induction l with
   |nil=>rfl
   |cons a l ih=>
    have ha:=hl a (by simp)
    have:g a=some (a.1,es.toList[a.2]):=by show(es.toList[a.2]?).map _=_;rw[List.getElem?_eq_getElem ha];rfl
    rw[List.filterMap_cons,this]
    simp only[List.map_cons]
    rw[ih fun jk h=>hl jk (by simp[h])]
  exact this _ fun jk h=>(hall jk h).2
 have hE2:((live m o).filterMap g).map (·.2)=((live m o).map (·.2)).filterMap (fun i=>es.toList[i]?):=by
  rw[List.map_filterMap,List.filterMap_map]
  congr 1
  funext jk
  show Option.map _ (Option.map _ _)=_
  rw[Option.map_map]
  show Option.map id _=_
  simp
 refine⟨{mask:=m,place:=((live m o).map (·.1)).toArray,dummies:= #[],finger:=fg,led:=ld,moves:=mv,plain:=pn},((live m o).map (·.2)).toArray,(live m o).filterMap g, ?_,rfl, ?_, ?_, ?_⟩
 ·unfold laid
  simp only[Option.bind_eq_bind,e,Option.bind_some]
  rfl
 ·refine⟨hm,rfl,hE1.symm, ?_,fun r hr=> ?_,fun r hr=> ?_, ?_⟩
  ·show Ris (((live m o).filterMap g).map (·.1))
   rw[hE1]
   unfold Ris
   rw[List.pairwise_map]
   exact z2Z m o
  ·have:r.1∈((live m o).filterMap g).map (·.1):=List.mem_map.mpr ⟨r,hr,rfl⟩
   rw[hE1] at this
   obtain⟨jk,h1,h2⟩:=List.mem_map.mp this
   have:=(z2H.mp (show(jk.1,jk.2)∈live m o from h1)).1
   show r.1<=m
   lia
  ·obtain⟨jk,h1,h2⟩:=List.mem_filterMap.mp hr
   obtain⟨h3,h4⟩:=hall jk h1
   have h5:r=(jk.1,es.toList[jk.2]):=by
    have:g jk=some (jk.1,es.toList[jk.2]):=by show(es.toList[jk.2]?).map _=_;rw[List.getElem?_eq_getElem h4];rfl
    rw[this] at h2
    exact(Option.some.inj h2).symm
   have hk:jk.2<S.length:=by rw[hln];exact h4
   have h6:=W.rc jk.2 (by rw[List.length_map];exact h4) hk
   rw[List.getElem?_eq_getElem hk] at h3
   rw[Option.some.inj h3,List.getElem_map] at h6
   rw[h5]
   refine h6.mono fun s hs=> ?_
   show s∈((live m o).filterMap g).map (·.1)
   rw[hE1]
   obtain⟨k,hk2,rfl⟩:=List.getElem_of_mem hs
   refine List.mem_map.mpr ⟨(S[k],k),z2H.mpr ⟨?_,(W.at' _ _).mpr (List.getElem?_eq_getElem hk2)⟩,rfl⟩
   have:=W.lt _ (List.getElem_mem hk2)
   lia
  ·have h7:=congrArg List.length hE1
   have h8:=hord.length_eq
   simp only[List.length_map,List.length_range] at h7 h8
   show((live m o).filterMap g).length<=m
   rw[h7,h8]
   simpa using hl
 ·rw[hE2]
  simp
 ·rw[hE2]
  refine(hord.filterMap _).trans ?_
  rw[z7Q]
end Se
namespace L2
open PySem PySem.Spec PyProof.Rows
section
variable{P:Program}{w:World}{h:Heap}{A:Around}{E:Value->Shared->Prop}{s:Shared}
theorem z30{v:Value}(hv:carriedByValue v=true)(m:Nat):ofAClassStatement m v=pure false:=by
 cases v<;>first|(simp[carriedByValue] at hv;done)|(unfold ofAClassStatement;rfl)
theorem z4K{M:Model}{a:Addr}{o:Obj}{items:Array Value}{n m:Nat}{Q:Bool->Shared->Prop}(ho:s.heap.get? a=some o)(hc:o.cls= .type "tuple")(hd:o.data= .seq items n)(hi: ∀v∈items.toList,∀(R:Bool->Shared->Prop) E,R false s->wpAny M A (ofAClassStatement m v) R E s)(q:Q false s):wpAny M A (ofAClassStatement (m+1) (.ref a)) Q E s:=by
 have hT:s.TypeIs (.ref a) "tuple" :=⟨o,ho,hc⟩
 rw[ofAClassStatement]
 refine wpAny_bind (wpAny_typeOf hT ?_)
 dsimp only
 refine wpAny_bind ?_
 refine wpAny_pure ?_
 rw[if_neg (by decide)]
 refine wpAny_bind (wpAny_seqItems ho hd ?_)
 dsimp only
 refine wpAny_bind ?_
 rw[<-Array.forIn_toList]
 refine wpAny_forIn_list _ (fun r b s'=>b.1=none/\s'=s/\∀v∈r,v∈items.toList) _ ?_ ?_ _ _ ⟨rfl,rfl,fun v hv=>hv⟩
 ·rintro v r b s' ⟨_,rfl,hm⟩
  refine wpAny_bind (hi v (hm v List.mem_cons_self) _ _ ?_)
  rw[if_neg (by decide)]
  exact wpAny_pure ⟨rfl,rfl,fun u hu=>hm u (List.mem_cons_of_mem _ hu)⟩
 ·rintro ⟨b1,b2⟩ s' ⟨hb,rfl,_⟩
  dsimp only at hb
  subst hb
  exact wpAny_pure q
theorem z9N{k:NK}{vs:List Value}(p:Paired (ItN P w h) k vs): ∀v∈vs,∃z,ItN P w h z v:=by
 induction p with
 |nil=>intro v hv;cases hv
 |cons a b ih=>
  intro v hv
  rcases List.mem_cons.mp hv with rfl|hv
  ·exact⟨_,a⟩
  ·exact ih v hv
theorem z4L{k:NK}{a:Addr}{Q:Bool->Shared->Prop}(hk:IsN P w s.heap k a)(q:Q false s):wpAny (model P w) A (ofAClassStatement 8 (.ref a)) Q E s:=by
 obtain⟨o,items,n,h1,h2,h3,h4⟩:=hk
 refine z4K h1 h2 h3 (fun v hv R E' r=> ?_) q
 obtain⟨z,hz⟩:=z9N h4 v hv
 cases z with
 |inl k=>rw[z30 ((z0e P w).byValue _ _ hz)];exact wpAny_pure r
 |inr ks=>
  obtain⟨c,rfl,o,items,n,h1,h2,h3,h4⟩:=hz
  exact z4K h1 h2 h3 (fun v hv R E' r=>by rw[z30 (h4.byValue v hv)];exact wpAny_pure r) r
theorem z4M{v:Value}(hv:carriedByValue v=true)(m:Nat): ∃b,hashByValue m v=pure b:=by
 cases v<;>first|(simp[carriedByValue] at hv;done)|(cases m<;>exact⟨_,rfl⟩)
theorem z7R{M:Model}{a:Addr}{o:Obj}{items:Array Value}{n m:Nat}{Q:Bool->Shared->Prop}(ho:s.heap.get? a=some o)(hc:o.cls= .type "tuple")(hd:o.data= .seq items n)(hi: ∀v∈items.toList,∀(R:Bool->Shared->Prop) E,(∀b,R b s)->wpAny M A (hashByValue m v) R E s)(q: ∀b,Q b s):wpAny M A (hashByValue (m+1) (.ref a)) Q E s:=by
 have hT:s.TypeIs (.ref a) "tuple" :=⟨o,ho,hc⟩
 rw[hashByValue]
 refine wpAny_bind (wpAny_specialOf hT PySem.F.slot_tuple_hash.lookup ?_)
 dsimp only
 refine wpAny_bind (wpAny_seqItems ho hd ?_)
 refine wpAny_bind ?_
 dsimp only[Option.getD_some]
 rw[<-Array.forIn_toList]
 refine wpAny_forIn_list _ (fun r b s'=>(b.1=none\/∃x,b.1=some x)/\s'=s/\∀v∈r,v∈items.toList) _ ?_ ?_ _ _ ⟨.inl rfl,rfl,fun v hv=>hv⟩
 ·rintro v r b s' ⟨_,rfl,hm⟩
  refine wpAny_bind (hi v (hm v List.mem_cons_self) _ _ fun k=> ?_)
  cases k with
  |true=>
   rw[if_neg (by decide)]
   exact wpAny_pure ⟨.inl rfl,rfl,fun u hu=>hm u (List.mem_cons_of_mem _ hu)⟩
  |false=>
   rw[if_pos (by decide)]
   exact wpAny_pure (wpAny_pure (q _))
 ·rintro ⟨b1,b2⟩ s' ⟨hb,rfl,_⟩
  dsimp only at hb
  rcases hb with rfl|⟨x,rfl⟩
  ·exact wpAny_pure (q _)
  ·exact wpAny_pure (q _)
theorem zaQ{k:NK}{a:Addr}{Q:Bool->Shared->Prop}(hk:IsN P w s.heap k a)(q: ∀b,Q b s):wpAny (model P w) A (hashByValue 8 (.ref a)) Q E s:=by
 obtain⟨o,items,n,h1,h2,h3,h4⟩:=hk
 refine z7R h1 h2 h3 (fun v hv R E' r=> ?_) q
 obtain⟨z,hz⟩:=z9N h4 v hv
 cases z with
 |inl k=>obtain⟨b,e⟩:=z4M ((z0e P w).byValue _ _ hz) 7;rw[e];exact wpAny_pure (r b)
 |inr ks=>
  obtain⟨c,rfl,o,items,n,h1,h2,h3,h4⟩:=hz
  exact z7R h1 h2 h3 (fun v hv R E' r=>by obtain⟨b,e⟩:=z4M (h4.byValue v hv) 6;rw[e];exact wpAny_pure (r b)) r
theorem zaR{k:NK}{c:Addr}{Q:Bool->Shared->Prop}(hk:IsN P w s.heap k c){vs:List Value}(hv: ∀v∈vs,∃k' c',v= .ref c'/\IsN P w s.heap k' c')(q:Q false s):wpAny (model P w) A (searchCouldBeSeen (.ref c) vs) Q E s:=by
 unfold searchCouldBeSeen
 refine wpAny_bind ?_
 refine wpAny_forIn_list _ (fun r b s'=>b.1=none/\s'=s/\∀v∈r,v∈vs) _ ?_ ?_ _ _ ⟨rfl,rfl,fun v hv=>hv⟩
 ·rintro v r b s' ⟨_,rfl,hm⟩
  obtain⟨k',c',rfl,hk'⟩:=hv v (hm v List.mem_cons_self)
  have nx:(none:Option Bool)=none/\s'=s'/\∀u∈r,u∈vs:=⟨rfl,rfl,fun u hu=>hm u (List.mem_cons_of_mem _ hu)⟩
  dsimp only
  split
  ·exact wpAny_pure nx
  ·refine wpAny_bind (z2J hk ?_)
   rw[if_neg (by decide)]
   refine wpAny_bind (z2J hk' ?_)
   rw[if_neg (by decide)]
   refine wpAny_bind (z4L hk ?_)
   rw[if_neg (by decide)]
   refine wpAny_bind (z4L hk' ?_)
   rw[if_neg (by decide)]
   exact wpAny_pure nx
 ·rintro ⟨b1,b2⟩ s' ⟨hb,rfl,_⟩
  dsimp only at hb
  subst hb
  exact wpAny_pure q
end
end L2
namespace L2
open PySem PySem.Spec PyProof.Rows PySem.SetTable
noncomputable abbrev RowN:=Se.Row (NK×Addr)
noncomputable def vE(E:List RowN):List (Int×Value):=E.map fun e=>(e.2.1,Value.ref e.2.2.2)
noncomputable def kE(E:List RowN):List NK:=E.map fun e=>e.2.2.1
theorem zcX{es:Array (Int×Value)}{F:List RowN}(he:es.toList=vE F){i:Nat}{e:RowN}(h:F[i]? =some e):es[i]? =some (e.2.1,Value.ref e.2.2.2):=by
 rw[<-Array.getElem?_toList,he,vE,List.getElem?_map,h]
 rfl
structure SN(P:Program)(w:World)(h:Heap)(t:SetTable)(es:Array (Int×Value))(F:List RowN):Prop where
 ti:Se.TI t F
 es:es.toList=vE F
 el: ∀e∈F,IsN P w h e.2.2.1 e.2.2.2/\e.2.1=(z01 P w).hash e.2.2.1
 nd:(kE F).Nodup
section
variable{P:Program}{w:World}{A:Around}{E:Value->Shared->Prop}{s:Shared}
theorem SN.size{h:Heap}{t:SetTable}{es:Array (Int×Value)}{F:List RowN}(S:SN P w h t es F):es.size=F.length:=by
 rw[<-Array.length_toList,S.es,vE,List.length_map]
theorem SN.fits{h:Heap}{t:SetTable}{es:Array (Int×Value)}{F:List RowN}(S:SN P w h t es F):t.fits es.size=true:=by
 have h1:t.place.size=F.length:=by rw[<-Array.length_toList,S.ti.pl,Se.plc_len]
 have h2:t.dummies.size=0:=by rw[S.ti.nd];rfl
 have h3:=S.ti.ln
 have h4:t.fill<=t.mask:=by show t.place.size+t.dummies.size<=t.mask;lia
 simp only[SetTable.fits,Bool.and_eq_true,beq_iff_eq,decide_eq_true_eq]
 exact⟨by rw[S.size,h1],h4⟩
theorem SN.live{h:Heap}{t:SetTable}{es:Array (Int×Value)}{F:List RowN}(S:SN P w h t es F){j:Nat}(hj:j∈Se.plc F): ∃i e,t.slot j= .live i/\F[i]? =some e/\e.1=j:=by
 obtain⟨i,h1,h2⟩:=Se.slot_live (t:=t) (by rw[S.ti.pl];exact S.ti.rs) (by rw[S.ti.pl];exact hj)
 rw[S.ti.pl,Se.plc,List.getElem?_map] at h2
 cases hf:F[i]? with
 |none=>rw[hf] at h2;cases h2
 |some e=>rw[hf] at h2;exact⟨i,e,h1,hf,Option.some.inj h2⟩
theorem SN.one{h:Heap}{t:SetTable}{es:Array (Int×Value)}{F:List RowN}(S:SN P w h t es F){e e':RowN}(h1:e∈F)(h2:e'∈F)(q:e.1=e'.1):e=e':=by
 have hn:=S.ti.rs.nodup
 obtain⟨a,ha,rfl⟩:=List.getElem_of_mem h1
 obtain⟨b,hb,rfl⟩:=List.getElem_of_mem h2
 have q':(Se.plc F)[a]'(by rw[Se.plc_len];exact ha)=(Se.plc F)[b]'(by rw[Se.plc_len];exact hb):=by simpa[Se.plc] using q
 have:a=b:=by
  rcases Nat.lt_trichotomy a b with z|z|z
  ·have:=S.ti.rs.at z (by rw[Se.plc_len];exact hb)
   lia
  ·exact z
  ·have:=S.ti.rs.at z (by rw[Se.plc_len];exact ha)
   lia
 subst this
 rfl
theorem SN.gave{h:Heap}{t:SetTable}{es:Array (Int×Value)}{F:List RowN}(S:SN P w h t es F):t.gaveWay=false:=by
 unfold SetTable.gaveWay
 rcases S.ti.ms with q|q|q<;>rw[q]<;>rfl
theorem z7S{a:Addr}{o:Obj}{es:Array (Int×Value)}{ep:Nat}{t:SetTable}{F:List RowN}{x:NK}{c:Addr}{ke:Nat}{Q:SetFound->Shared->Prop}
 (hu:A.units+1<cLine) (ho:s.heap.get? a=some o) (hd:o.data= .set es ep t) (S:SN P w s.heap t es F) (hx:IsN P w s.heap x c)
 (hke:ke<10*turns t.mask) (hh:(Se.pos t.mask ((z01 P w).hash x) ke).j∉Se.plc F) (hb: ∀k',k'<ke->(Se.pos t.mask ((z01 P w).hash x) k').j∈Se.plc F)
 (q1:x∈kE F->Q (.there none) s) (q2:x∉kE F->Q (.free (Se.pos t.mask ((z01 P w).hash x) ke).j false) s):
 ∀(fuel k:Nat) (stand:Option SetTable.Probe),stand.getD (t.probeStart ((z01 P w).hash x))=Se.pos t.mask ((z01 P w).hash x) k->k<=ke->ke -k<fuel->
  (∀e∈F,e.2.2.1=x->∃k2,k<=k2/\k2<ke/\(Se.pos t.mask ((z01 P w).hash x) k2).j=e.1)->
  wpAny (model P w) A (setSearchFrom a (.ref c) ((z01 P w).hash x) true fuel stand) Q E s:=by
 intro fuel
 induction fuel with
 |zero=>intro k stand _ _ hf _;lia
 |succ fuel ih=>
  intro k stand hst hk hf hall
  have hr:Se.Ris t.place.toList:=by rw[S.ti.pl];exact S.ti.rs
  let g:Nat->Int:=fun i=>(es[i]?.map (·.1)).getD 0
  obtain⟨d,hdk,hpd,hmin⟩:=Se.least (p:=fun d=>k+d=ke\/∃i,t.slot (Se.pos t.mask ((z01 P w).hash x) (k+d)).j= .live i/\(g i==(z01 P w).hash x)=true) (n:=ke -k) (.inl (by lia))
  have hlo: ∀d',d'<d->∃i,t.slot (Se.pos t.mask ((z01 P w).hash x) (k+d')).j= .live i/\(g i==(z01 P w).hash x)=false:=fun d' hd'=>by
   obtain⟨i,e,h1,h2,h3⟩:=S.live (hb (k+d') (by lia))
   refine⟨i,h1, ?_⟩
   cases hg:g i==(z01 P w).hash x with
   |false=>rfl
   |true=>exact absurd (.inr ⟨i,h1,hg⟩) (hmin d' hd')
  have gat: ∀{i:Nat} {e:RowN},F[i]? =some e->g i=e.2.1:=fun{i e} h=>by show(es[i]?.map (·.1)).getD 0=_;rw[zcX S.es h];rfl
  have hat: ∀e∈F,e.2.2.1=x->∃k2,k+d<=k2/\k2<ke/\(Se.pos t.mask ((z01 P w).hash x) k2).j=e.1:=fun e he hex=>by
   obtain⟨k2,h1,h2,h3⟩:=hall e he hex
   refine⟨k2,Classical.byContradiction fun hlt=> ?_,h2,h3⟩
   obtain⟨i,hi1,hi2⟩:=hlo (k2 -k) (by lia)
   rw[show k+(k2 -k)=k2 by lia] at hi1
   obtain⟨i',e',l1,l2,l3⟩:=S.live (hb k2 h2)
   rw[l1] at hi1
   cases hi1
   obtain rfl:=S.one (List.mem_of_getElem? l2) he (l3.trans h3)
   rw[gat l2,(S.el e' he).2,hex] at hi2
   simp at hi2
  have hpr:=Se.probe_go S.ti.nd hr g ((z01 P w).hash x) d (10*turns t.mask) k (by lia) hlo
  have hfit:=S.fits
  unfold setSearchFrom
  refine wpAny_bind (wpAny_setState_of ho hd hfit ?_)
  dsimp only
  rw[S.gave,hst]
  rw[if_neg (by decide)]
  generalize hgen:t.probe _ ((z01 P w).hash x) (Se.pos t.mask ((z01 P w).hash x) k)=met
  rcases hpd with hpd|⟨i,hi,hig⟩
  ·have e1:some (SetTable.Met.empty (Se.pos t.mask ((z01 P w).hash x) ke).j none)=met:=by
    rw[<-hpd] at hh⊢
    exact(hpr.1 (by rw[S.ti.pl];exact hh)).symm.trans hgen
   subst e1
   dsimp only
   refine wpAny_pure (q2 fun hm=> ?_)
   obtain⟨e,he,hex⟩:=List.mem_map.mp hm
   obtain⟨k2,h1,h2,_⟩:=hat e he hex
   lia
  ·have e1:=(hpr.2 i hi hig).symm.trans hgen
   subst e1
   have hlt:k+d<ke:=by
    rcases Nat.lt_or_eq_of_le (show k+d<=ke by lia) with z|z
    ·exact z
    ·rw[z,Se.slot_empty S.ti.nd (by rw[S.ti.pl];exact hh)] at hi
     cases hi
   obtain⟨i',e,l1,l2,l3⟩:=S.live (hb (k+d) hlt)
   rw[l1] at hi
   cases hi
   have hev:=zcX S.es l2
   have hef:=S.el e (List.mem_of_getElem? l2)
   dsimp only
   have tail:wpAny (model P w) A (do
    let equal<-holding [Value.ref e.2.2.2] (eqBool (Value.ref e.2.2.2) (.ref c))
    let(es',_,t')<-setState a
    if true&&equal then return .there none
    let some same:=t'.sameMemory t.moves t.mask|unsupported "set.changed-during-lookup:is-the-new-block-at-the-old-address"
    let still<-match (if same then t'.slot (Se.pos t.mask ((z01 P w).hash x) (k+d)).j else .empty) with
     | .live i'=>match es'[i']? with
      |some (_,y')=>do pure (if<-isSame y' (Value.ref e.2.2.2) then some i' else none)
      |none=>pure none
     |_=>pure none
    match still with
    |none=>rule "set.search.anew";setSearchFrom a (.ref c) ((z01 P w).hash x) true fuel none
    |some i'=>if equal then return .there (some i') else setSearchFrom a (.ref c) ((z01 P w).hash x) true fuel (some (Se.pos t.mask ((z01 P w).hash x) (k+d+1)))) Q E s:=by
    refine wpAny_bind (wpAny_holding (z9E hu hef.1 hx ?_))
    refine wpAny_bind (wpAny_setState_of ho hd hfit ?_)
    dsimp only
    by_cases hex:e.2.2.1=x
    ·rw[decide_eq_true hex]
     exact wpAny_pure (q1 (List.mem_map.mpr ⟨e,List.mem_of_getElem? l2,hex⟩))
    ·rw[decide_eq_false hex]
     have hsm:t.sameMemory t.moves t.mask=some true:=by unfold SetTable.sameMemory;rw[if_pos (by simp)]
     rw[hsm,if_neg (by decide)]
     dsimp only
     rw[if_pos rfl,l1]
     dsimp only
     rw[hev]
     dsimp only
     refine wpAny_bind (wpAny_isSame_ref_self ?_)
     refine wpAny_bind (wpAny_pure ?_)
     rw[if_pos rfl]
     dsimp only
     rw[if_neg (by decide)]
     refine ih (k+d+1) _ rfl (by lia) (by lia) fun e' he' hex'=> ?_
     obtain⟨k2,h1,h2,h3⟩:=hat e' he' hex'
     refine⟨k2, ?_,h2,h3⟩
     rcases Nat.lt_or_eq_of_le h1 with z|z
     ·lia
     ·rw[<-z] at h3
      obtain rfl:=S.one (List.mem_of_getElem? l2) he' (l3.trans h3)
      exact absurd hex' hex
   cases t.led with
   |true=>
    rw[if_neg (by decide),hev]
    exact tail
   |false=>
    rw[if_pos (by decide)]
    refine wpAny_bind (zaR hx (fun v hv=> ?_) ?_)
    ·obtain⟨y,hy,rfl⟩:=List.mem_map.mp hv
     have hy:=Array.mem_toList_iff.mpr (Array.mem_of_mem_filter (Array.mem_toList_iff.mp hy))
     rw[S.es,vE] at hy
     obtain⟨e',he',rfl⟩:=List.mem_map.mp hy
     exact⟨_,_,rfl,(S.el e' he').1⟩
    ·rw[if_neg (by decide),hev]
     exact tail
theorem z6q{h h':Heap}{d:Addr}{o:Obj}{es:Array (Int×Value)}{ep:Nat}{t:SetTable}(ho:h.get? d=some o)(hd:o.data= .set es ep t)(hs:Heap.SameBut d h h'){k:NK}{a:Addr}(q:IsN P w h k a):IsN P w h' k a:=by
 have ne: ∀{c:Addr} {o':Obj} {items:Array Value} {n:Nat},h.get? c=some o'->o'.data= .seq items n->c≠d:=fun{c o' items n} h1 h3 e=>by
  subst e
  obtain rfl:o'=o:=Option.some.inj (h1.symm.trans ho)
  rw[hd] at h3
  cases h3
 obtain⟨o',items,n,h1,h2,h3,h4⟩:=q
 refine⟨o',items,n,(hs.2 a (ne h1 h3)).trans h1,h2,h3,Paired.mapP h4 fun z v q=> ?_⟩
 cases z with
 |inl k=>exact q
 |inr ks=>
  obtain⟨c,rfl,o2,items2,n2,k1,k2,k3,k4⟩:=q
  exact⟨c,rfl,o2,items2,n2,(hs.2 c (ne k1 k3)).trans k1,k2,k3,k4⟩
noncomputable def rE(E:List RowN):List (NK×Addr):=E.map fun e=>e.2.2
theorem z6r(F:List RowN):kE F=(rE F).map (·.1):=by simp[kE,rE,Function.comp_def]
noncomputable def SO(P:Program)(w:World)(o:Obj)(rs:List (NK×Addr)):Prop:=
 ∃es ep t F,o.ExactSet/\o.data= .set es ep t/\Se.TI t F/\es.toList=vE F/\(∀e∈F,e.2.1=(z01 P w).hash e.2.2.1)/\(rs.map (·.1)).Nodup/\F.length*5<t.mask*3/\(rE F).Perm rs
theorem SN.keeps{h h':Heap}{t:SetTable}{es:Array (Int×Value)}{F:List RowN}(S:SN P w h t es F){d:Addr}{o:Obj}{es0:Array (Int×Value)}{ep:Nat}{t0:SetTable}(ho:h.get? d=some o)(hd:o.data= .set es0 ep t0)(hs:Heap.SameBut d h h'):SN P w h' t es F:=
 ⟨S.ti,S.es,fun e he=>⟨z6q ho hd hs (S.el e he).1,(S.el e he).2⟩,S.nd⟩
theorem z4N{h:Heap}{a:Addr}{o:Obj}{es:Array (Int×Value)}{ep:Nat}{t:SetTable}(ho:h.get? a=some o)(hd:o.data= .set es ep t)(es':Array (Int×Value))(t':SetTable):(h.update a (Obj.putSet es' t')).get? a=some {o with data:= .set es' (ep+1) t'}:=by
 have:=Heap.get?_update_self (Obj.putSet es' t') ho (by rw[putSet_of es' t' hd];rfl)
 rw[putSet_of es' t' hd] at this
 exact this
theorem z9f{h:Heap}{t:SetTable}{es:Array (Int×Value)}{F:List RowN}(S:SN P w h t es F){m:Nat}(hm:Se.Msk m)(hl:F.length<=m)(fg mv:Nat)(ld pn:Bool):
 ∃t' order F',laid m fg mv ld pn (es.map (·.1))=some (t',order)/\t'.mask=m/\SN P w h t' (order.filterMap (es[·]?)) F'/\F'.length=F.length/\(rE F').Perm (rE F):=by
 obtain⟨t',order,F',h1,h2,h3,h4,h5⟩:=Se.laid_ti hm fg mv ld pn (F.map (·.2)).toArray (by simpa using hl)
 have hes:es=(F.map (·.2)).toArray.map (fun e=>(e.1,Value.ref e.2.2)):=by
  apply Array.toList_inj.mp
  rw[S.es]
  simp[vE]
 have hp:(F'.map (·.2)).Perm (F.map (·.2)):=by simpa using h5
 have hr:(rE F').Perm (rE F):=by
  have:=hp.map (fun e:Int×NK×Addr=>e.2)
  simpa[rE,Function.comp_def] using this
 have hk:(kE F').Perm (kE F):=by
  rw[z6r,z6r]
  exact hr.map _
 refine⟨t',order,F', ?_,h2,⟨h3, ?_,fun e he=> ?_,hk.nodup_iff.mpr S.nd⟩, ?_,hr⟩
 ·rw[<-h1]
  congr 1
  rw[hes]
  simp[Function.comp_def]
 ·have:(order.filterMap (es[·]?)).toList=((order.filterMap ((F.map (·.2)).toArray[·]?)).toList).map (fun e=>(e.1,Value.ref e.2.2)):=by
   rw[hes]
   simp only[Array.toList_filterMap,List.map_filterMap,Array.getElem?_map]
  rw[this,h4,vE,List.map_map]
  rfl
 ·obtain⟨e0,he0,q⟩:=List.mem_map.mp (hp.mem_iff.mp (List.mem_map.mpr ⟨e,he,rfl⟩))
  rw[<-q]
  exact S.el e0 he0
 ·have:=hp.length_eq
  simpa using this
theorem SN.inv{h:Heap}{t:SetTable}{es:Array (Int×Value)}{F:List RowN}(S:SN P w h t es F){x:NK}{c:Addr}(hx:IsN P w h x c)(hn:x∉kE F){k:Nat}(hk:(Se.pos t.mask ((z01 P w).hash x) k).j∉Se.plc F)(hb: ∀k',k'<k->(Se.pos t.mask ((z01 P w).hash x) k').j∈Se.plc F)(hl:F.length+1<=t.mask):
 ∃F',SN P w h (t.put (Se.pos t.mask ((z01 P w).hash x) k).j).1 (insertAt es (t.put (Se.pos t.mask ((z01 P w).hash x) k).j).2 ((z01 P w).hash x, .ref c)) F'/\F'.length=F.length+1/\(rE F').Perm ((x,c)::rE F):=by
 have T:=Se.put_ti S.ti (x:=(x,c)) hk hb hl
 generalize (t.put (Se.pos t.mask ((z01 P w).hash x) k).j).2=p at T⊢
 have hr:(rE (Se.insE F p ((Se.pos t.mask ((z01 P w).hash x) k).j,(z01 P w).hash x,(x,c)))).Perm ((x,c)::rE F):=by
  unfold rE Se.insE
  rw[List.map_append,List.map_cons]
  refine List.perm_middle.trans ?_
  rw[<-List.map_append,List.take_append_drop]
 have hp:(kE (Se.insE F p ((Se.pos t.mask ((z01 P w).hash x) k).j,(z01 P w).hash x,(x,c)))).Perm (x::kE F):=by
  rw[z6r,z6r]
  exact hr.map (·.1)
 refine⟨_,⟨T, ?_,fun e he=> ?_,hp.nodup_iff.mpr (List.nodup_cons.mpr ⟨hn,S.nd⟩)⟩,Se.ins_len _ _ _,hr⟩
 ·rw[Se.ins_list,S.es]
  unfold vE Se.insE
  rw[List.map_append,List.map_cons,List.map_take,List.map_drop]
 ·rcases Se.mem_ins.mp he with rfl|he
  ·exact⟨hx,rfl⟩
  ·exact S.el e he
theorem SN.off{h:Heap}{t:SetTable}{es:Array (Int×Value)}{F:List RowN}(S:SN P w h t es F):SN P w h {t with plain:=false} es F:=
 ⟨⟨S.ti.ms,S.ti.nd,S.ti.pl,S.ti.rs,S.ti.lt,S.ti.rc,S.ti.ln⟩,S.es,S.el,S.nd⟩
theorem z6s{c:Addr}{es:Array (Int×Value)}:byScan (.ref c) es=false:=rfl
theorem z5l{a:Addr}{o:Obj}{es0:Array (Int×Value)}{ep:Nat}{t0 t:SetTable}{es:Array (Int×Value)}{F:List RowN}{rs:List (NK×Addr)}{n:Nat}{Q:Bool->Shared->Prop}(ho:s.heap.get? a=some o)(hex:o.ExactSet)(hd:o.data= .set es0 ep t0)(S:SN P w s.heap t es F)(hn:F.length=n+1)(hle:n*5<t.mask*3)(h76:n<76)(hrs:(rE F).Perm rs)
 (q: ∀h' o',Heap.SameBut a s.heap h'->h'.get? a=some o'->SO P w o' rs->Q true {s with heap:=h'}):
 wpAny (model P w) A (do
  storeSet a es t
  if(!false&&t.tooFull)=true then do
   setRelay a (SetTable.grown (n+1))
   pure true
  else pure true) Q E s:=by
 have hnd:(rs.map (·.1)).Nodup:=(hrs.map (·.1)).nodup_iff.mp (by rw[<-z6r];exact S.nd)
 have hz:es.size<=sizeLine:=by rw[S.size,sizeLine_eq];lia
 refine wpAny_bind (wpAny_storeSet_of ho hd ?_ hz)
 have hg:=z4N ho hd es t
 have hsb:=Heap.SameBut.update s.heap a (Obj.putSet es t)
 have S1:=S.keeps ho hd hsb
 generalize s.heap.update a (Obj.putSet es t)=h1 at hg hsb S1⊢
 have hfill:t.fill=F.length:=by
  show t.place.size+t.dummies.size=_
  rw[S.ti.nd,<-Array.length_toList,S.ti.pl,Se.plc_len]
  rfl
 split
 ·rename_i hf
  have hf:t.mask*3<=F.length*5:=by
   have:t.tooFull=true:=by simpa using hf
   unfold SetTable.tooFull at this
   rw[hfill] at this
   simpa using this
  have hm: ∃m,Se.Msk m/\sizeAbove (grown (n+1)) - 1=m/\sizeAbove (grown (n+1))<=sizeLine/\F.length*5<m*3/\F.length<=m:=by
   rw[sizeLine_eq]
   rcases S.ti.ms with z|z|z
   ·have:n=4:=by lia
    subst this
    exact⟨31, .inr (.inl rfl),by decide,by decide,by lia,by lia⟩
   ·have:n=18:=by lia
    subst this
    exact⟨127, .inr (.inr rfl),by decide,by decide,by lia,by lia⟩
   ·lia
  obtain⟨m,hm1,hm2,hm3,hm4,hm5⟩:=hm
  unfold setRelay
  refine wpAny_bind (wpAny_bind (wpAny_setState_of hg rfl S1.fits ?_))
  dsimp only
  rw[if_neg (Nat.not_lt.mpr hm3)]
  unfold SetTable.relaid
  rw[hm2]
  obtain⟨t',order,F',r1,r2,r3,r4,r5⟩:=z9f S1 hm1 hm5 t.finger (t.movedTo m) t.led t.plain
  rw[r1]
  refine wpAny_bind ?_
  have hsz:(order.filterMap (es[·]?)).size=es.size:=by rw[r3.size,S.size,r4]
  change wpAny _ _ (if((order.filterMap (es[·]?)).size !=es.size)=true then _ else pure (order.filterMap (es[·]?),t')) _ _ _
  rw[hsz,if_neg (by simp)]
  refine wpAny_pure ?_
  dsimp only
  refine wpAny_storeSet_of hg rfl ?_ (by rw[hsz];exact hz)
  refine wpAny_pure ?_
  have hsb2:=Heap.SameBut.update h1 a (Obj.putSet (order.filterMap (es[·]?)) t')
  exact q _ _ (hsb.trans hsb2) (z4N hg rfl _ _) ⟨_,_,_,F',hex,rfl,r3.ti,r3.es,fun e he=>(r3.el e he).2,hnd,by rw[r2,r4];exact hm4,r5.trans hrs⟩
 ·rename_i hf
  have hf:F.length*5<t.mask*3:=by
   have:t.tooFull=false:=by simpa using hf
   unfold SetTable.tooFull at this
   rw[hfill] at this
   simpa using this
  exact wpAny_pure (q _ _ hsb hg ⟨_,_,_,F,hex,rfl,S1.ti,S1.es,fun e he=>(S1.el e he).2,hnd,hf,hrs⟩)
theorem zaS{a:Addr}{o:Obj}{rs:List (NK×Addr)}{x:NK}{c:Addr}{Q:Bool->Shared->Prop}(hu:A.units+1<cLine)(ho:s.heap.get? a=some o)(hS:SO P w o rs)(hrs: ∀r∈rs,IsN P w s.heap r.1 r.2)(hx:IsN P w s.heap x c)(h76:rs.length<76)
 (q1:x∈rs.map (·.1)->Q false s) (q2:x∉rs.map (·.1)->∀h' o',Heap.SameBut a s.heap h'->h'.get? a=some o'->SO P w o' ((x,c)::rs)->Q true {s with heap:=h'}):
 wpAny (model P w) A (setAddHashed a (.ref c) ((z01 P w).hash x)) Q E s:=by
 obtain⟨es,ep,t,F,hex,hd,hti,hes,hha,hnd,hle,hpr⟩:=hS
 have hks:(kE F).Perm (rs.map (·.1)):=by rw[z6r];exact hpr.map _
 have S:SN P w s.heap t es F:=⟨hti,hes,fun e he=>⟨hrs e.2.2 (hpr.mem_iff.mp (List.mem_map.mpr ⟨e,he,rfl⟩)),hha e he⟩,hks.nodup_iff.mpr hnd⟩
 have hlen:F.length=rs.length:=by have:=hpr.length_eq;simpa[rE] using this
 obtain⟨ke,k1,k2,k3⟩:=Se.first_hole S.ti.ms ((z01 P w).hash x) S.ti.rs.nodup (by rw[Se.plc_len];exact S.ti.ln)
 have hl:F.length+1<=t.mask:=by rcases S.ti.ms with z|z|z<;>rw[z] at hle⊢ <;>lia
 have hke:ke<100000:=by
  unfold turns at k1
  rcases S.ti.ms with z|z|z<;>rw[z] at k1<;>lia
 unfold setAddHashed setAddHashedIn
 refine wpAny_holding (wpAny_bind (wpAny_setState_of ho hd S.fits ?_))
 dsimp only
 rw[z6s,if_neg (by decide)]
 unfold setSearch
 refine wpAny_bind (z7S (F:=F) (ke:=ke) hu ho hd S hx k1 k2 k3 (fun hm=> ?_) (fun hm=> ?_) 100000 0 none rfl (Nat.zero_le _) (by lia) fun e he hxe=> ?_)
 ·exact wpAny_pure (q1 (hks.mem_iff.mp hm))
 ·refine wpAny_bind (wpAny_setState_of ho hd S.fits ?_)
  dsimp only
  obtain⟨F',S',l',p'⟩:=S.inv hx hm k2 k3 hl
  have hmk:(t.put (Se.pos t.mask ((z01 P w).hash x) ke).j).1.mask=t.mask:=rfl
  have hpl:(t.put (Se.pos t.mask ((z01 P w).hash x) ke).j).1.plain=t.plain:=rfl
  have hns:=S.size
  generalize t.put (Se.pos t.mask ((z01 P w).hash x) ke).j=tp at S' hmk hpl⊢
  obtain⟨t1,p⟩:=tp
  dsimp only at S' hmk hpl⊢
  have hnk:x∉rs.map (·.1):=fun z=>hm (hks.mem_iff.mpr z)
  have q3:=q2 hnk
  rw[hns]
  split
  ·refine wpAny_bind (zaQ hx fun b=> ?_)
   cases b with
   |true=>
    rw[if_pos rfl]
    exact z5l ho hex hd S' l' (by rw[hmk];exact hle) (by lia) (p'.trans (hpr.cons _)) q3
   |false=>
    rw[if_neg (by decide)]
    exact z5l ho hex hd S'.off l' (by show _<t1.mask*3;rw[hmk];exact hle) (by lia) (p'.trans (hpr.cons _)) q3
  ·refine wpAny_bind (wpAny_pure ?_)
   rw[if_pos rfl]
   exact z5l ho hex hd S' l' (by rw[hmk];exact hle) (by lia) (p'.trans (hpr.cons _)) q3
 ·obtain⟨k',z1,z2⟩:=S.ti.rc e he
  rw[(S.el e he).2,hxe] at z1 z2
  refine⟨k',Nat.zero_le _,Classical.byContradiction fun hlt=> ?_,z1⟩
  rcases Nat.lt_or_eq_of_le (Nat.le_of_not_lt hlt) with y|y
  ·exact k2 (z2 ke y)
  ·rw[<-y] at z1
   rw[z1] at k2
   exact k2 (List.mem_map.mpr ⟨e,he,rfl⟩)
theorem z9g{a:Addr}{o:Obj}{rs:List (NK×Addr)}{x:NK}{c:Addr}{Q:Bool->Shared->Prop}(hu:A.units+1<cLine)(ho:s.heap.get? a=some o)(hS:SO P w o rs)(hrs: ∀r∈rs,IsN P w s.heap r.1 r.2)(hx:IsN P w s.heap x c)(h76:rs.length<76)
 (q1:x∈rs.map (·.1)->Q false {s with toks:=s.toks+(z01 P w).draws x}) (q2:x∉rs.map (·.1)->∀h' o',Heap.SameBut a s.heap h'->h'.get? a=some o'->SO P w o' ((x,c)::rs)->Q true {s with heap:=h',toks:=s.toks+(z01 P w).draws x}):
 wpAny (model P w) A (setAdd a (.ref c)) Q E s:=by
 unfold setAdd
 refine wpAny_holding (wpAny_bind ((z01 P w).pyHash hu hx ?_))
 exact zaS (s:={s with toks:=s.toks+(z01 P w).draws x}) hu ho hS hrs hx h76 q1 q2
theorem zaT{Q:Value->Shared->Prop}(q: ∀o,SO P w o []->o.cls= .type "set" ->Q (.ref s.heap.objs.size) {s with heap:=s.heap.push o}):wpAny (model P w) A (newSet (.type "set")) Q E s:=by
 unfold newSet setsByText
 refine wpAny_bind (wpAny_bind (wpAny_askSetting (wpAny_pure ?_)))
 dsimp only
 simp only[newObj]
 refine wpAny_bind (wpAny_alloc (wpAny_pure (q _ ⟨#[],0,_,[],⟨rfl,rfl,rfl⟩,rfl, ?_,rfl,(fun e he=>nomatch he),List.nodup_nil,by show 0*5<7*3;decide, .nil⟩ rfl)))
 exact⟨.inl rfl,rfl,rfl,List.Pairwise.nil,(fun e he=>nomatch he),(fun e he=>nomatch he),Nat.zero_le _⟩
end
end L2
namespace L2
open PySem PySem.Spec PyProof.Rows
noncomputable def hasR(k:NK)(rs:List (NK×Addr)):Bool:=rs.any fun q=>decide (q.1=k)
theorem z5U{k:NK}{rs:List (NK×Addr)}:hasR k rs=true↔k∈rs.map (·.1):=by
 unfold hasR
 rw[List.any_eq_true,List.mem_map]
 simp only[decide_eq_true_eq]
noncomputable def insR(r:NK×Addr)(rs:List (NK×Addr)):List (NK×Addr):=if hasR r.1 rs=true then rs else r::rs
section
variable{P:Program}{w:World}{A:Around}{E:Value->Shared->Prop}{s:Shared}
theorem z7T{a:Addr}{o:Obj}{rs:List (NK×Addr)}{x:NK}{c:Addr}{Q:Value->Shared->Prop}(hu:A.units+2<cLine)(ho:s.heap.get? a=some o)(hS:SO P w o rs)(hrs: ∀r∈rs,IsN P w s.heap r.1 r.2)(hx:IsN P w s.heap x c)(h76:rs.length<76)
 (q: ∀h' o' t',Heap.SameBut a s.heap h'->h'.get? a=some o'->SO P w o' (insR (x,c) rs)->Q .none {s with heap:=h',toks:=t'}):
 wpAny (model P w) A (call (.builtin "set.add") [.ref a, .ref c]) Q E s:=by
 have hT:s.TypeIs (.ref a) "set" :=by obtain⟨es,ep,t,F,hex,_⟩:=hS;exact⟨o,ho,hex.1⟩
 refine wpAny_call_entry F.slot_set_add hT F.entry_set_add ?_ (F.args_set_add_2 _ _)
 unfold Builtin.«set.add» Builtin.Frozenset.oneOther
 simp only[List.isEmpty_nil,bind_assoc]
 unfold Builtin.Frozenset.addrOf
 refine wpAny_bind (wpAny_pure ?_)
 try dsimp only
 refine wpAny_bind (wpAny_pure ?_)
 try dsimp only
 refine wpAny_bind ?_
 refine z9g (A:=A.in1) (show A.units+1+1<cLine from hu) ho hS hrs hx h76 (fun hm=> ?_) fun hm h' o' sb e so=> ?_
 ·show wpAny _ _ (ret Value.none) _ _ _
  refine wpAny_pure ⟨_,rfl,q s.heap o _ (Heap.SameBut.refl _ _) ho ?_⟩
  unfold insR
  rw[if_pos (z5U.mpr hm)]
  exact hS
 ·show wpAny _ _ (ret Value.none) _ _ _
  refine wpAny_pure ⟨_,rfl,q h' o' _ sb e ?_⟩
  unfold insR
  rw[if_neg fun z=>hm (z5U.mp z)]
  exact so
theorem z7U{a:Addr}{o:Obj}{rs:List (NK×Addr)}{Q:Value->Shared->Prop}(ho:s.heap.get? a=some o)(hS:SO P w o rs)(q: ∀t t',Q (.int rs.length t) {s with toks:=t'}):wpAny (model P w) A (call (.builtin "len") [.ref a]) Q E s:=by
 obtain⟨es,ep,t,F,hex,hd,hti,hes,hha,hnd,hle,hpr⟩:=hS
 have h1:es.size=F.length:=by rw[<-Array.length_toList,hes,vE,List.length_map]
 have h2:F.length=rs.length:=by have:=hpr.length_eq;simpa[rE] using this
 have hf:t.fits es.size=true:=by
  have h3:t.place.size=F.length:=by rw[<-Array.length_toList,hti.pl,Se.plc_len]
  have h4:t.fill<=t.mask:=by
   show t.place.size+t.dummies.size<=t.mask
   rw[h3,hti.nd]
   exact hti.ln
  simp only[SetTable.fits,Bool.and_eq_true,beq_iff_eq,decide_eq_true_eq]
  exact⟨by rw[h1,h3],h4⟩
 have hb:F.length<=127:=by
  have:=hti.ln
  rcases hti.ms with z|z|z<;>rw[z] at this<;>lia
 refine call_len_set ho hex hd hf (by rw[h1];lia) ?_
 rw[h1,h2]
 exact q _ _
end
theorem z4O(elt target iter:Expr)(ifs:List Expr)(scope:Scope)(pos:Pos)(it acc:Value)(env:Env):
 compTurn (.SetComp elt [⟨target,iter,ifs,0⟩] scope pos) 0 it acc env=(do
  standAt iter.pos
  match<-pyNext it with
  |none=>pure (.done .next)
  |some v=>
   letOwnedTupleGo target it v
   assign target env v
   let mut ok:=true
   for c in ifs do
    if ok then ok<-isTrue c env (eval c env)
   if ok then
    (do let v<-eval elt env;standAt elt.pos;let _<-call (.builtin "set.add") [acc,v])
   again (.compLoop (.SetComp elt [⟨target,iter,ifs,0⟩] scope pos) 0 it acc env)):=by rfl
theorem z1G{prog:Program}{w:World}{A:Around}{R:Result->Shared->Prop}{s:Shared}{elt target iter ifs rest scope pos it acc env}
 (h0:codeAny (model prog w) A (.compLoop (.SetComp elt (⟨target,iter,ifs,0⟩::rest) scope pos) 0 it acc env) R s)
 (h:wpAny (model prog w) A (pyIter it) (fun it' s'=>codeAny (model prog w) A (.compLoop (.SetComp elt (⟨target,iter,ifs,0⟩::rest) scope pos) 0 it' acc env) R s')
  (notedBy (model prog w) A env fun x s'=>R (.error x) s') s):
 codeAny (model prog w) A (.compStart (.SetComp elt (⟨target,iter,ifs,0⟩::rest) scope pos) 0 it acc env) R s:=by
 refine codeAny_of_tree ?_
 show wpAny _ _ ((compStart (.SetComp elt (⟨target,iter,ifs,0⟩::rest) scope pos) 0 it acc env).onRaise (fun x=>do noteFrame x env;standAt theWindowsPlace)) _ _ s
 refine wpAny_notedAt ?_
 unfold compStart
 show wpAny _ _ (ask>>=_) _ _ s
 refine wpAny_bind (wpAny_askSetting (wpAny_ite ?_))
 split
 ·first|exact wpAny_pure ⟨rfl,h0⟩|exact wpAny_bind (wpAny_pure (wpAny_pure ⟨rfl,h0⟩))
 ·refine wpAny_bind (wpAny_rule ?_)
  show wpAny _ _ (standAt iter.pos>>=_) _ _ s
  refine wpAny_bind (wpAny_standAt (wpAny_bind (thn h fun it' s' h'=> ?_)))
  exact wpAny_pure ⟨rfl,h'⟩
theorem z42(elt gens scope pos)(env:Env):eval (.SetComp elt gens scope pos) env=
 comprehension (.SetComp elt gens scope pos) scope env (firstIterPos gens pos) (newSet (.type "set")) (firstAsync gens) (firstIter gens env):=rfl
theorem z1W{prog:Program}{w:World}{A:Around}{R:Result->Shared->Prop}{s:Shared}{elt target iter:Expr}{ifs:List Expr}{scope:Scope}{pos:Pos}{it acc:Value}{env:Env}(I:Nat->Shared->Prop)
 (turn: ∀n s,I n s->wpAny (model prog w) A (pyNext it) (fun r s₁=>match r with
  |none=>R (.ok .next) s₁
  |some v=>wpAny (model prog w) A (letOwnedTupleGo target it v) (fun _ s₁=>wpAny (model prog w) A (assign target env v) (fun _ s₂=>wpAny (model prog w) A (z5b ifs env) (fun ok s₃=>
   if ok=true then wpAny (model prog w) A (eval elt env) (fun x s₃=>
   wpAny (model prog w) A (call (.builtin "set.add") [acc,x]) (fun _ s₄=> ∃m,m<n/\I m s₄) (fun _ _=>False) s₃)
   (fun _ _=>False) s₃ else ∃m,m<n/\I m s₃) (fun _ _=>False) s₂) (fun _ _=>False) s₁) (fun _ _=>False) s₁) (fun _ _=>False) s)
 (n:Nat) (h:I n s):
 codeAny (model prog w) A (.compLoop (.SetComp elt [⟨target,iter,ifs,0⟩] scope pos) 0 it acc env) R s:=by
 refine codeAny_loop rfl I (fun n s hI=> ?_) n h
 show wpAny _ _ ((compTurn (.SetComp elt [⟨target,iter,ifs,0⟩] scope pos) 0 it acc env).onRaise (fun x=>do noteFrame x env;theTreesLotGoes x)) _ _ s
 refine wpAny_noted ?_
 rw[z4O]
 refine wpAny_bind (wpAny_standAt (wpAny_bind (wpAny_mono (turn n s hI) (fun r s₁ h₁=> ?_) fun _ _ h'=>h'.elim)))
 cases r with
 |none=>exact wpAny_pure h₁
 |some v=>
  refine wpAny_bind (wpAny_mono h₁ (fun _ s₁ h₁=> ?_) fun _ _ h'=>h'.elim)
  refine wpAny_bind (wpAny_mono h₁ (fun _ s₂ h₂=>wpAny_bind (wpAny_mono h₂ (fun ok s₃ h₃=> ?_) fun _ _ h'=>h'.elim)) fun _ _ h'=>h'.elim)
  cases ok with
  |false=>exact wpAny_pure ⟨rfl,h₃⟩
  |true=>
   exact wpAny_bind (wpAny_bind (wpAny_mono h₃ (fun x s₄ h₄=>wpAny_bind (wpAny_standAt (wpAny_bind (wpAny_mono h₄ (fun _ s₅ h₅=>wpAny_pure (wpAny_pure ⟨rfl,h₅⟩)) fun _ _ h'=>h'.elim)))) fun _ _ h'=>h'.elim))
section
variable{X:Cx}{tg iter elt:Expr}{ifs:List Expr}{pos:Pos}{scope:Scope}{own frees:List Str}{ix:List Nat}{wi:TI}{g:TG}{tt:TT}{te:TE}
noncomputable def zcY(K:W.Frag)(wi:TI)(g:TG)(tt:TT)(te:TE)(k:Nat)(ix:List Nat)(σ:St)(H:Hp)(R:List (NK×Addr)->Hp->Prop):Prop:=wi σ H fun J H1=>(∀a o,K.lookup a=some o->H1 a=none)->
 ∃W:Nat->Nat->List (NK×Addr)->St->Hp->Prop,(∃m,W 0 m [] (z1j k ix σ) H1)/\
  ∀i m rs σ' H',W i m rs σ' H'->((J.stop i H'/\R rs H')\/
   (J.go i H'/\∀x H2,J.yld i H' x H2->g x σ' H2 fun σ2 H3=>tt σ2 H3 fun ok H3=>if ok=true then te σ2 H3 fun y H4=> ∃q c,y= .ref c/\TK H4 q c/\(∀r∈rs,TK H4 r.1 r.2)/\rs.length<76/\∃m',m'<m/\W (i+1) m' (insR (q,c) rs) σ2 H4
    else ∃m',m'<m/\W (i+1) m' rs σ2 H3))
noncomputable def SPs(X:Cx)(pins:List (Addr×Obj))(σ:St)(R:List (NK×Addr)->Hp->Prop)(v:Value)(s:Shared):Prop:=
 ∃D o rs H',v= .ref D/\Inv X pins σ H' s/\s.heap.get? D=some o/\SO X.prog X.w o rs/\FpOk X pins H' D/\R rs H'
theorem zaU{P:Program}{w:World}{o:Obj}{rs:List (NK×Addr)}(h:SO P w o rs)(v:Option Value):o.data≠ .cell v:=by
 obtain⟨es,ep,t,F,_,hd,_⟩:=h
 rw[hd]
 intro z
 cases z
theorem zaV{P:Program}{w:World}{o:Obj}{rs:List (NK×Addr)}(h:SO P w o rs):o.isFreed=false:=by
 obtain⟨es,ep,t,F,_,hd,_⟩:=h
 obtain⟨c,d,dt,sl⟩:=o
 dsimp only at hd
 subst hd
 rfl
theorem zaW(hu:X.A.units+2<cLine)(hc:X.calm=true)(S:z0j X.env.scope scope own frees X.N ix)(hi:PI X tg iter wi)
 (hg: ∀cl C s₀ H₀ fp pn,PG (z09 X scope own frees cl C s₀ H₀ fp pn) tg g) (ht: ∀cl C s₀ H₀ fp pn,PTs (z09 X scope own frees cl C s₀ H₀ fp pn) ifs tt) (he: ∀cl C s₀ H₀ fp pn,PE (z09 X scope own frees cl C s₀ H₀ fp pn) elt te)
 (hs: ∀x,foldedSetIterable iter X.env x=pure x:=by intro _;rfl)
 {pins:List (Addr×Obj)} {s:Shared} {σ:St} {H:Hp} {R:List (NK×Addr)->Hp->Prop} (I:Inv X pins σ H s) (h:zcY X.K wi g tt te own.length ix σ H R):
 wpAny (model X.prog X.w) X.A (eval (.SetComp elt [⟨tg,iter,ifs,0⟩] scope pos) X.env) (SPs X pins σ R) X.xe s:=by
 have hclos:closureFor scope X.env=pure (z0I X.env scope.names []):=z1o fun y hy e=>I.ok.has y.1 (S.fr y hy e)
 rw[z42]
 refine wpAny_comprehension_free (use:=none) rfl hs hclos S.kind S.names (thn (hi pins s σ H _ I h) fun v s1 h1=>thn h1 fun itv s2 h2=> ?_)
 obtain⟨it,fp,tn,J,H2,e,I2,T,st2,f2,hD⟩:=h2
 subst e
 refine zaT (P:=X.prog) (w:=X.w) fun oD hSO _=> ?_
 have I3:Inv X pins σ H2 {s2 with heap:=s2.heap.push oD}:=I2.kept (t':=s2.toks) fun b o q=>Heap.get?_push_of_some _ q
 obtain⟨W,⟨m0,w0⟩,turn⟩:=hD fun a o e=>(I3.bs a o (I3.ok.mod.kin a o e)).2
 have fpl: ∀b∈fp,b<s2.heap.objs.size:=fun b z=>by
  obtain⟨o,q,_⟩:=T.obj _ _ st2 b z
  exact Heap.lt_size q
 have fD:FpOk X pins H2 s2.heap.objs.size:=I2.fpOk (Nat.le_refl _) I2.fresh
 have hDg:(s2.heap.push oD).get? s2.heap.objs.size=some oD:=Heap.get?_push_size _ (zaV hSO)
 generalize hs3:({s2 with heap:=s2.heap.push oD}:Shared)=s3 at I3
 have hDg:s3.heap.get? s2.heap.objs.size=some oD:=by rw[<-hs3];exact hDg
 have hpush: ∀b o,s2.heap.get? b=some o->s3.heap.get? b=some o:=fun b o q=>by rw[<-hs3];exact Heap.get?_push_of_some _ q
 have hsz3:s2.heap.objs.size<s3.heap.objs.size:=by rw[<-hs3];show _<(s2.heap.push _).objs.size;rw[Heap.size_push];exact Nat.lt_succ_self _
 have st3:tn 0 s3.heap:=T.keep _ _ _ st2 fun b _ o q=>hpush b o q
 generalize hDd:s2.heap.objs.size=D at*
 have nD: ∀b∈fp,b≠D:=fun b z=>Nat.ne_of_lt (fpl b z)
 have f3: ∀b∈D::fp,FpOk X pins H2 b:=fun b z=>by
  rcases List.mem_cons.mp z with rfl|z
  ·exact fD
  ·exact f2 b z
 have goal:wpAny (model X.prog X.w) X.A (newFunctionEnv scope X.env.globals (z0I X.env scope.names []) [] X.env.qual none .none (some X.env)) (fun cenv s₄=>
  codeAny (model X.prog X.w) X.A (.compStart (.SetComp elt [⟨tg,iter,ifs,0⟩] scope pos) 0 (.ref it) (.ref D) {cenv with scope:=relabel scope X.env}) (compPost (model X.prog X.w) X.A X.xe none (SPs X pins σ R) (.ref D) cenv.locals) s₄) X.xe s3:=by
  refine wpAny_newFunctionEnv S.nocell (by intro y hy;simp at hy) (fun h1 hns hsb=> ?_) S.kind
  have hns:h1.Ns s3.heap.objs.size (fun _=>none):=hns
  have keep4: ∀b o,s3.heap.get? b=some o->h1.get? b=some o:=fun b o q=>hsb.extBut b o (Nat.ne_of_lt (Heap.lt_size q)) (Heap.get?_push_of_some _ q)
  have fpl3: ∀b∈D::fp,b<s3.heap.objs.size:=fun b z=>by
   rcases List.mem_cons.mp z with rfl|z
   ·exact hsz3
   ·exact Nat.lt_trans (fpl b z) hsz3
  generalize hs4:({s3 with heap:=h1,toks:=s3.toks+([]:List (Str×Value)).length}:Shared)=s4
  have I4:Inv (z09 X scope own frees (z0I X.env scope.names []) s3.heap.objs.size s3 H2 (D::fp) (X.pn++pins)) [] (z1j own.length ix σ) H2 s4:=
   z2f S I3 f3 fpl3 (by rw[<-hs4]) (by rw[<-hs4]) (fun b o q=>by rw[<-hs4];exact keep4 b o q) (by rw[<-hs4];exact hns)
  have st4:tn 0 s4.heap:=T.keep _ _ _ st3 fun b _ o q=>by rw[<-hs4];exact keep4 b o q
  have hD4:s4.heap.get? D=some oD:=by rw[<-hs4];exact keep4 D oD hDg
  generalize hXc:z09 X scope own frees (z0I X.env scope.names []) s3.heap.objs.size s3 H2 (D::fp) (X.pn++pins)=Y at I4
  have eP:Y.prog=X.prog:=by rw[<-hXc];rfl
  have eW:Y.w=X.w:=by rw[<-hXc];rfl
  have eK:Y.K=X.K:=by rw[<-hXc];rfl
  have eA:Y.A=X.A:=by rw[<-hXc];rfl
  have eC:Y.calm=true:=by rw[<-hXc];exact hc
  have eE:Y.env=compEnvC scope (z0I X.env scope.names []) s3.heap.objs.size X.env:=by rw[<-hXc];rfl
  have eX:Y.xe=fun _ _=>False:=by rw[<-hXc];rfl
  have eF0: ∀{H':Hp} {b:Addr},b∈D::fp->H' b=none->FpOk Y [] H' b:=fun{H' b} hb hn=>by
   rw[<-hXc]
   obtain⟨g1,g2,g3,g4,g5,g6⟩:=f3 b hb
   refine⟨hn,Nat.ne_of_lt (fpl3 b hb),fun q=> ?_, .inl hb,fun x c e=> ?_,fun p hp=> ?_⟩
   ·rcases List.mem_cons.mp (I3.stkSub b q) with r|r
    ·exact g2 r
    ·exact g3 r
   ·rcases z23 _ _ e with q|q
    ·exact nomatch q
    ·exact g5 x c q.1
   ·have hp:p∈(X.pn++pins)++[]:=hp
    rw[List.append_nil] at hp
    exact g6 p hp
  have eF: ∀{H':Hp} {hp:Heap},(∀b∈fp,H' b=none)->∀b∈fp,FpOk Y ([]++z2u [D] hp) H' b:=fun{H' hp} hn b hb=>by
   obtain⟨g1,g2,g3,g4,g5,g6⟩:=eF0 (List.mem_cons_of_mem _ hb) (hn b hb)
   refine⟨g1,g2,g3,g4,g5,fun p hp'=> ?_⟩
   rcases List.mem_append.mp hp' with z|z
   ·exact g6 p (List.mem_append_left _ z)
   ·rw[List.nil_append] at z
    have:=(z4l z).1
    have:p.1=D:=by simpa using this
    rw[this]
    exact fun z=>nD b hb z.symm
  have gY:PG Y tg g:=by rw[<-hXc];exact hg _ _ _ _ _ _
  have tY:PE Y elt te:=by rw[<-hXc];exact he _ _ _ _ _ _
  have sY:PTs Y ifs tt:=by rw[<-hXc];exact ht _ _ _ _ _ _
  have loop:codeAny (model X.prog X.w) X.A (.compLoop (.SetComp elt [⟨tg,iter,ifs,0⟩] scope pos) 0 (.ref it) (.ref D) (compEnvC scope (z0I X.env scope.names []) s3.heap.objs.size X.env))
   (compPost (model X.prog X.w) X.A X.xe none (SPs X pins σ R) (.ref D) s3.heap.objs.size) s4:=by
   refine z1W (fun n s'=> ∃i rs o σ' H',Inv Y [] σ' H' s'/\tn i s'.heap/\(∀b∈fp,H' b=none)/\H' D=none/\s'.heap.get? D=some o/\SO X.prog X.w o rs/\W i n rs σ' H') ?_ m0 ⟨0,[],oD,_,_,I4,st4,fun b hb=>(f2 b hb).1,fD.1,hD4,hSO,w0⟩
   rintro n s5 ⟨i,rs,o5,σ5,H5,I5,st5,fr5,nD5,gD5,so5,w5⟩
   have alt:=turn i n rs σ5 H5 w5
   have I5':=I5.pinned (fp:=[D]) (fun b hb=>by
    have:b=D:=by simpa using hb
    subst this
    exact eF0 List.mem_cons_self nD5) (fun b hb=>by
    have:b=D:=by simpa using hb
    subst this
    exact⟨o5,gD5,zaU so5⟩)
   have mD:(D,o5)∈z2u [D] s5.heap:=z0g (by simp) gD5
   generalize hpd:z2u [D] s5.heap=pD at I5' mD
   rcases alt with⟨stop,qn⟩|⟨go,step⟩
   ·have d:=T.done Y eP eW eK eC i _ s5 σ5 H5 (fun _ _=>False) I5' (by rw[<-hpd];exact eF fr5) st5 stop
    rw[eA] at d
    refine thn d fun r s6 ⟨hr,I6⟩=> ?_
    subst hr
    have gD6:=(I6.pin (D,o5) (List.mem_append_right _ (List.mem_append_right _ mD))).1
    have I6:=I6.unpinned
    subst hXc
    obtain⟨m6,n6,_⟩:=I6.loc
    refine⟨m6,n6,fun h'' hs''=>⟨D,o5,rs,H5,rfl,z3S I3 f3 (Nat.le_refl _) I6 hs'',(hs''.2 D (Nat.ne_of_lt hsz3)).trans gD6,so5,⟨nD5,fD.2⟩,qn⟩⟩
   ·have d:=T.item Y eP eW eK eC i _ s5 σ5 H5 (fun _ _=>False) I5' (by rw[<-hpd];exact eF fr5) st5 go
    rw[eA] at d
    refine thn d fun r s6 ⟨u,hr,h6⟩=> ?_
    subst hr
    refine thn h6 fun _ s7 ⟨x,H7,I7,r7,y7,st7,fr7⟩=> ?_
    have I7':=I7.pinned (by rw[<-hpd];exact eF fr7) (T.obj _ _ st7)
    have e1:=gY _ s7 σ5 H7 x u _ I7' r7 (step x H7 y7)
    rw[eP,eW,eA,eE,eX] at e1
    refine thn e1 fun _ s8 ⟨σ8,H8,I8,q8⟩=> ?_
    have e1':=sY _ s8 σ8 H8 _ I8 q8
    rw[eP,eW,eA,eE,eX] at e1'
    refine thn e1' fun ok s8 ⟨H8,I8,q8⟩=> ?_
    have back: ∀{σ':St} {H':Hp} {s':Shared},Inv Y (([]++pD)++z2u fp s7.heap) σ' H' s'->Inv Y [] σ' H' s'/\tn (i+1) s'.heap/\(∀b∈fp,H' b=none)/\H' D=none/\s'.heap.get? D=some o5:=fun{σ' H' s'} J'=>by
     have pD':=J'.pin (D,o5) (List.mem_append_right _ (List.mem_append_left _ (List.mem_append_right _ mD)))
     refine⟨J'.unpinned.unpinned,T.keep _ _ _ st7 fun b hb o e=> ?_,fun b hb=> ?_,pD'.2.1,pD'.1⟩
     ·exact(J'.pin (b,o) (List.mem_append_right _ (List.mem_append_right _ (z0g hb e)))).1
     ·obtain⟨o,e,d⟩:=T.obj _ _ st7 b hb
      exact(J'.pin (b,o) (List.mem_append_right _ (List.mem_append_right _ (z0g hb e)))).2.1
    cases ok with
    |false=>
     rw[if_neg Bool.false_ne_true] at q8⊢
     obtain⟨m',hm',w9⟩:=q8
     obtain⟨b1,b2,b3,b4,b5⟩:=back I8
     exact⟨m',hm',i+1,rs,o5,σ8,H8,b1,b2,b3,b4,b5,so5,w9⟩
    |true=>
    rw[if_pos rfl] at q8⊢
    have e2:=tY _ s8 σ8 H8 _ I8 q8
    rw[eP,eW,eA,eE,eX] at e2
    refine thn e2 fun yv s9 ⟨y,H9,I9,r9,q,c,ey,tk,tks,h76,m',hm',w9⟩=> ?_
    subst ey
    cases(show yv=Value.ref c from r9)
    obtain⟨b1,b2,b3,b4,b5⟩:=back I9
    have hok:HOk X.prog X.w H9 s9.heap:=by have:=b1.hok;rw[eP,eW] at this;exact this
    refine z7T hu b5 so5 (fun r hr=>z4v hok (tks r hr)) (z4v hok tk) h76 fun h' o' t' sb gD' so'=> ?_
    obtain⟨k0,k1,k2,k3,k4,k5⟩:=eF0 (H':=H9) List.mem_cons_self b4
    have I10:=b1.turned (h':=h') (t':=t') (fun b o hb e=>(sb.2 b hb).trans e) k0 k1 k3 k4 k5
    exact⟨m',hm',i+1,_,o',σ8,H9,I10,T.keep _ _ _ b2 fun b hb o e=>(sb.2 b (nD b hb)).trans e,b3,b4,gD',so',w9⟩
  exact z1G loop (T.self _ 0 _ _ _ st4 loop)
 exact goal
noncomputable def zcZ(K:W.Frag)(wi:TI)(g:TG)(tt:TT)(te:TE)(k:Nat)(ix:List Nat):TE:=fun σ H Q=>zcY K wi g tt te k ix σ H fun rs H'=>Q (.int rs.length) H'
theorem z7V{p cpos:Pos}(hgl:Gl X "len")(hml:X.mg "len" =none)(hu:X.A.units+2<cLine)(hc:X.calm=true)(S:z0j X.env.scope scope own frees X.N ix)(hi:PI X tg iter wi)
 (hg: ∀cl C s₀ H₀ fp pn,PG (z09 X scope own frees cl C s₀ H₀ fp pn) tg g) (ht: ∀cl C s₀ H₀ fp pn,PTs (z09 X scope own frees cl C s₀ H₀ fp pn) ifs tt) (he: ∀cl C s₀ H₀ fp pn,PE (z09 X scope own frees cl C s₀ H₀ fp pn) elt te)
 (hs: ∀x,foldedSetIterable iter X.env x=pure x:=by intro _;rfl)
 (hso:starEach [.SetComp elt [⟨tg,iter,ifs,0⟩] scope pos] X.env=[(false,eval (.SetComp elt [⟨tg,iter,ifs,0⟩] scope pos) X.env)]:=by rfl):
 PE X (.Call (.Name "len" p) [.SetComp elt [⟨tg,iter,ifs,0⟩] scope pos] [] cpos) (zcZ X.K wi g tt te own.length ix):=by
 intro pins s σ H Q I h
 refine wpAny_Call_Name_kw (z4k I hgl hml boot_len (PyProof.Rows.callWith_builtin1 ?_ hso rfl))
 rw[hso]
 show wpAny _ _ (spliced ((false,eval (.SetComp elt [⟨tg,iter,ifs,0⟩] scope pos) X.env)::backTo cpos [])) _ _ s
 refine Calls.spliced_cons (thn (zaW hu hc S hi hg ht he hs I h) fun v s1 ⟨D,o,rs,H',ev,I1,gD,so,_,q⟩=> ?_)
 subst ev
 refine Calls.spliced_nil (z7U gD so fun t t'=> ?_)
 exact⟨.int rs.length,H',I1.tok _,⟨t,rfl⟩,q⟩
end
end L2
namespace Mi
open PySem L2
noncomputable def hasK(q:NK)(ks:List NK):Bool:=ks.any fun k=>decide (k=q)
noncomputable def z43(K:ItK)(g:Tg)(mt:M Bool)(me:M D)(ol:Nat):Nat->Nat->List NK->M D
 |f,i,ks=>fun s=>match K.at' i (s.tm.drop (ks.length+ol)) with
  |none=> .no
  |some none=> .ok (.int ks.length) {σ:=(s.tm.drop ks.length).take ol,tm:=s.tm.drop (ks.length+ol+K.k),n:=s.n}
  |some (some d)=>match f with
   |0=> .no
   |f+1=>match asg g d s.σ with
    |none=> .no
    |some σ'=>match mt {s with σ:=σ'} with
     | .ok false s1=>z43 K g mt me ol f (i+1) ks s1
     | .ok true s1=>if ks.length<76 then match me s1 with
      | .ok y s2=>match tkey y with
       |none=> .no
       |some q=>if(s2.tm.take ks.length).map (fun o=>o.bind tkey)=ks.map some then
        (if hasK q ks=true then z43 K g mt me ol f (i+1) ks s2 else z43 K g mt me ol f (i+1) (q::ks) (s2.psh y))
        else .no
      |_=> .no
      else .no
     |_=> .no
noncomputable def z5m(mi:M ItK)(g:Tg)(mt:M Bool)(me:M D)(own:Nat)(ix:List Nat):M D:=bd mi fun K s=>z43 K g mt me s.σ.length (K.len s.tm) 0 [] (z2W own ix s)
section
variable{X:Cx}{G:Gx}{F:Fy}{e a b c tg iter elt:Expr}{pos:Pos}
noncomputable def Fy.blk(F:Fy):Fy:={F with tv0:=[],xw:=fun _ _=>False}
theorem MR.enter0{ρ:Nat->Addr}{H:Hp}{σv tv:List (Option V)}{s:Stt}(M:MR G F.toFx ρ H σv tv s)(own:Nat)(ix:List Nat):
 MR G F.blk.toFx ρ H (z1j own ix σv) (σv++tv) (z2W own ix s):=by
 have sub: ∀l∈z0q (z2W own ix s),l∈z0q s:=fun l h=>by
  rcases List.mem_append.mp h with h|h
  ·have h:l∈z05 (List.replicate own none++ix.map (fun i=>(s.σ[i]?).getD none)):=h
   rw[z08] at h
   rcases List.mem_append.mp h with h|h
   ·exact absurd h (z26 own)
   ·exact List.mem_append_left _ (z1F h)
  ·have h:l∈z05 (s.σ++s.tm):=h
   rw[z08] at h
   exact h
 exact⟨(Sl.none_map own).append (M.sl.pick ix),M.sl.append M.tm,M.inj,M.dom,fun l h=>M.lab l (sub l h),fun l h=>M.own l (sub l h),M.frm,M.kd,M.frb,M.bas⟩
theorem MR.leave0{ρ:Nat->Addr}{H:Hp}{σi σv tvs tv ys:List (Option V)}{s:Stt}{kk k:Nat}(M:MR G F.blk.toFx ρ H σi (ys++(σv++(tvs++tv))) s)(hk:tvs.length=kk)(hy:ys.length=k)(ol:Nat)(ho:σv.length=ol):
 MR G F.toFx ρ H σv tv {σ:=(s.tm.drop k).take ol,tm:=s.tm.drop (k+ol+kk),n:=s.n}:=by
 subst hk ho hy
 obtain⟨t1,t2⟩:=Sl.split ys M.tm
 obtain⟨t3,t4⟩:=Sl.split σv t2
 obtain⟨_,t6⟩:=Sl.split tvs t4
 rw[List.drop_drop,List.drop_drop] at t6
 have t6':Sl G ρ H (s.tm.drop (ys.length+σv.length+tvs.length)) tv:=by rw[Nat.add_assoc];exact t6
 have ld: ∀l k,l∈z05 (s.tm.drop k)->l∈z0q s:=fun l k h=>List.mem_append_right _ (by
  have e:=z08 (s.tm.take k) (s.tm.drop k)
  rw[List.take_append_drop] at e
  rw[e];exact List.mem_append_right _ h)
 have ldt: ∀l k j,l∈z05 ((s.tm.drop k).take j)->l∈z0q s:=fun l k j h=>ld l k (by
  have e:=z08 ((s.tm.drop k).take j) ((s.tm.drop k).drop j)
  rw[List.take_append_drop] at e
  rw[e];exact List.mem_append_left _ h)
 have all: ∀l∈z0q {σ:=(s.tm.drop ys.length).take σv.length,tm:=s.tm.drop (ys.length+σv.length+tvs.length),n:=s.n},l∈z0q s:=fun l h=>by
  rcases List.mem_append.mp h with h|h
  ·exact ldt l _ _ h
  ·exact ld l _ h
 exact⟨t3,t6',M.inj,M.dom,fun l h=>M.lab l (all l h),fun l h=>M.own l (all l h),M.frm,M.kd,M.frb,M.bas⟩
theorem z7W{ρ:Nat->Addr}{H:Hp}: ∀{rs:List (NK×Addr)} {tm:List (Option D)},Sl G ρ H tm (rs.map fun r=>some (V.ref r.2))->tm.map (fun o=>o.bind tkey)=rs.map (fun r=>some r.1)->∀r∈rs,TK H r.1 r.2
 |[],_,_,_=>fun r hr=>nomatch hr
 |r::rs,[],h,_=>by simp[Sl] at h
 |r::rs,none::tm,_,e=>by simp at e
 |r::rs,some d::tm,h,e=>by
  simp only[Sl] at h
  obtain⟨v,q,e1,h1,h2⟩:=h
  simp only[List.map_cons,List.cons.injEq,Option.some.injEq] at e1
  obtain⟨rfl,rfl⟩:=e1
  simp only[List.map_cons,List.cons.injEq,Option.bind_some] at e
  obtain⟨b,eb,tk,_⟩:=z3Z h1 e.1
  intro r' hr
  rcases List.mem_cons.mp hr with rfl|hr
  ·cases eb
   exact tk
  ·exact z7W h2 e.2 r' hr
theorem zd0{q:NK}{rs:List (NK×Addr)}:hasK q (rs.map (·.1))=hasR q rs:=by
 unfold hasK hasR
 rw[List.any_map]
 rfl
theorem z9h{K:W.Frag}{k:Nat}{ix:List Nat}{mi:M ItK}{g:Tg}{mt:M Bool}{me:M D}{σ:St}{H:Hp}{Q:VK}(h:tM G F (z5m mi g mt me k ix) σ H Q):zcZ K (tI G F mi) (tGx G g) (tBx G mt) (tMx G me) k ix σ H Q:=by
 obtain⟨tv,hsf,ρ,s,M,W⟩:=h
 refine⟨tv,hsf,ρ,s,M, ?_⟩
 unfold z5m bd at W
 cases em:mi s with
 |ex d s1=>rw[em] at W;exact W
 |no=>rw[em] at W;exact W
 |ok K s1=>
  rw[em] at W
  intro ρ1 H1 tvs J hl M1 hok _
  refine⟨fun i m rs σ' H'=> ∃ρ s,MR G F.blk.toFx ρ H' σ' ((rs.map fun r=>some (V.ref r.2))++(σ++(tvs++tv))) s/\wM G F σ tv (z43 K g mt me s1.σ.length m i (rs.map (·.1)) s) Q,⟨_,ρ1,_,M1.enter0 k ix,W⟩, ?_⟩
  rintro i m rs σ' H' ⟨ρ2,s2,M2,W2⟩
  have ol:s1.σ.length=σ.length:=M1.sl.length
  have ok:=hok F.blk.toFx ρ2 H' σ' ((rs.map fun r=>some (V.ref r.2))++σ) tv s2 i (by rw[List.append_assoc];exact M2)
  simp only[List.length_append,List.length_map,<-ol,List.append_assoc] at ok
  unfold z43 at W2
  rw[List.length_map] at W2
  cases e:K.at' i (s2.tm.drop (rs.length+s1.σ.length)) with
  |none=>simp only[e] at W2;exact False.elim W2
  |some o=>
   rw[e] at ok
   cases o with
   |none=>
    simp only[e] at W2 ok
    refine .inl ⟨ok, ?_⟩
    exact W2 _ _ _ ⟨MR.leave0 M2 hl (List.length_map _) _ ol.symm,RDs.one rfl,fun l hl=>by simp[labsL,labs] at hl⟩
   |some d=>
    simp only[e] at W2 ok
    cases m with
    |zero=>exact False.elim W2
    |succ f=>
     dsimp only at W2
     cases e2:asg g d s2.σ with
     |none=>simp only[e2] at W2;exact False.elim W2
     |some σ3=>
      simp only[e2] at W2
      refine .inr ⟨ok.1,fun x H2 y=> ?_⟩
      have hx:=ok.2 x H2 y
      refine⟨F.blk,_,ρ2,s2,d,hx,σ3,e2,fun σv' M3=>⟨F.blk,_,List.nil_suffix,ρ2,_,M3, ?_⟩⟩
      cases e3:mt {s2 with σ:=σ3} with
      |ex d s4=>simp only[e3] at W2;exact False.elim W2
      |no=>simp only[e3] at W2;exact False.elim W2
      |ok b s4=>
       intro ρ4 H4 M4
       cases b with
       |false=>
        simp only[e3] at W2
        rw[if_neg Bool.false_ne_true]
        exact⟨f,Nat.lt_succ_self _,ρ4,s4,M4,W2⟩
       |true=>
        simp only[e3] at W2
        rw[if_pos rfl]
        by_cases hz:rs.length<76
        ·rw[if_pos hz] at W2
         refine⟨F.blk,_,List.nil_suffix,ρ4,s4,M4, ?_⟩
         cases e5:me s4 with
         |ex d s5=>simp only[e5] at W2;exact False.elim W2
         |no=>simp only[e5] at W2;exact False.elim W2
         |ok y s5=>
          simp only[e5] at W2
          intro ρ5 v H5 M5
          cases e6:tkey y with
          |none=>simp only[e6] at W2;exact False.elim W2
          |some q=>
           simp only[e6] at W2
           obtain⟨b,rfl,tk,_⟩:=z3Z M5.rd1 e6
           by_cases hks:(s5.tm.take rs.length).map (fun o=>o.bind tkey)=(rs.map (·.1)).map some
           ·rw[if_pos hks] at W2
            have t1:=(Sl.split (rs.map fun r=>some (V.ref r.2)) M5.m.tm).1
            rw[List.length_map] at t1
            refine⟨q,b,rfl,tk,z7W t1 (by rw[hks,List.map_map];rfl),hz,f,Nat.lt_succ_self _,ρ5, ?_⟩
            unfold insR
            rw[zd0] at W2
            by_cases hq:hasR q rs=true
            ·rw[if_pos hq] at W2⊢
             exact⟨s5,M5.m,W2⟩
            ·rw[if_neg hq] at W2⊢
             exact⟨s5.psh y,M5.push,W2⟩
           ·rw[if_neg hks] at W2;exact False.elim W2
        ·rw[if_neg hz] at W2;exact False.elim W2
theorem se_lenset{scope:Scope}{own frees:List Str}{ix:List Nat}{ifs:List Expr}{mi:M ItK}{g:Tg}{mt:M Bool}{me:M D}{p cpos:Pos}(hgl:Gl X "len")(hml:X.mg "len" =none)(hu:X.A.units+2<cLine)(hc:X.calm=true)(S:z0j X.env.scope scope own frees X.N ix)(hi:SI X G F tg iter mi)
 (hg: ∀(F:Fy) cl C s₀ H₀ fp pn,SG (z09 X scope own frees cl C s₀ H₀ fp pn) G F tg g) (ht: ∀(F:Fy) cl C s₀ H₀ fp pn,STs (z09 X scope own frees cl C s₀ H₀ fp pn) G F ifs mt) (he: ∀(F:Fy) cl C s₀ H₀ fp pn,SE (z09 X scope own frees cl C s₀ H₀ fp pn) G F elt me)
 (hs: ∀x,foldedSetIterable iter X.env x=pure x:=by intro _;rfl)
 (hso:starEach [.SetComp elt [⟨tg,iter,ifs,0⟩] scope pos] X.env=[(false,eval (.SetComp elt [⟨tg,iter,ifs,0⟩] scope pos) X.env)]:=by rfl):
 SE X G F (.Call (.Name "len" p) [.SetComp elt [⟨tg,iter,ifs,0⟩] scope pos] [] cpos) (z5m mi g mt me own.length ix):=
 PE.imp0 (z7V (g:=tGx G g) (tt:=tBx G mt) (te:=tMx G me) hgl hml hu hc S hi (fun cl C s₀ H₀ fp pn pins s σ H v u Q I r ⟨F',q⟩=>hg F' cl C s₀ H₀ fp pn pins s σ H v u Q I r q)
  (fun cl C s₀ H₀ fp pn pins s σ H Q I ⟨F',q⟩=>ht F' cl C s₀ H₀ fp pn pins s σ H Q I q) (fun cl C s₀ H₀ fp pn pins s σ H Q I ⟨F',q⟩=>he F' cl C s₀ H₀ fp pn pins s σ H Q I q) hs hso) fun σ H Q h=>z9h h
end
end Mi
namespace L2
open PySem PySem.Spec PyProof.Rows PySem F P
section
variable{X:Cx}
noncomputable def z4P:V->Option Str
 | .non=>some "None"
 | .bl b=>some (if b then "True" else "False")
 | .int i=>if i.natAbs.log2<1920 then some (toString i:String) else none
 | .str x=>if(reprText x).length<=sizeLine then some (reprText x) else none
 |_=>none
noncomputable def zd1(K:W.Frag)(xs:List V)(H:Hp)(Q:VK):Prop:=(∃x t,xs=[x]/\z4P x=some t/\Q (.str t) H)\/rStr K xs H Q
theorem z7X(hg:X.A.guards=some [])(hu:X.A.units+64<cLine):CallR X (.builtin "repr") (zd1 X.K):=by
 intro pins s σ H xs us Q I r h
 rcases h with⟨x,t,rfl,e,q⟩|h
 ·obtain⟨u,rfl,r1⟩:=z3N r
  cases x with
  |non=>
   cases r1
   simp only[z4P,Option.some.injEq] at e
   subst e
   exact repr_of_none ⟨.str "None",H,I.tok _,⟨_,rfl⟩,q⟩
  |bl b=>
   cases r1
   simp only[z4P,Option.some.injEq] at e
   subst e
   exact repr_of_bool ⟨.str (if b then "True" else "False"),H,I.tok _,⟨_,rfl⟩,q⟩
  |int i=>
   obtain⟨t',rfl⟩:=r1
   simp only[z4P] at e
   split at e
   ·rename_i hl
    simp only[Option.some.injEq] at e
    subst e
    exact repr_of_int hl ⟨.str (toString i:String),H,I.tok _,⟨_,rfl⟩,q⟩
   ·cases e
  |str y=>
   obtain⟨t',rfl⟩:=r1
   simp only[z4P] at e
   split at e
   ·rename_i hl
    simp only[Option.some.injEq] at e
    subst e
    exact repr_of_str ⟨.str _,H,I.tok _,⟨_,rfl⟩,q⟩ hl
   ·cases e
  |_=>simp[z4P] at e
 ·exact z6l hg hu pins s σ H xs us Q I r h
end
end L2
namespace Mi
open PySem L2 PySem.Spec PyProof.Rows PySem F P
section
variable{X:Cx}{G:Gx}{F:Fy}
noncomputable def repA:List D->M D
 |[.non]=>rt (.str "None")
 |[.bool b]=>rt (.str (if b then "True" else "False"))
 |[.int i]=>if i.natAbs.log2<1920 then rt (.str (toString i:String)) else fl
 |[.str x]=>if(reprText x).length<=sizeLine then rt (.str (reprText x)) else fl
 |[.tup ds]=>if(plainL ds&&(er (.tup ds)).showable&&decide ((er (.tup ds)).depth<=60)&&decide ((er (.tup ds)).shown.length<=sizeLine))=true then rt (.str (er (.tup ds)).shown) else fl
 |ds=>repD ds
theorem zaX:z0K G F (zd1 G.K) repA:=by
 intro ρ s ts vs H σv tv Q M W
 unfold repA at W
 split at W
 ·obtain⟨v,rfl,h,_⟩:=M.one
  simp only[RD] at h;subst h
  exact .inl ⟨_,_,rfl,rfl,fun _=>W.flat M.m rfl⟩
 ·obtain⟨v,rfl,h,_⟩:=M.one
  simp only[RD] at h;subst h
  exact .inl ⟨_,_,rfl,rfl,fun _=>W.flat M.m rfl⟩
 ·split at W
  ·rename_i hl
   obtain⟨v,rfl,h,_⟩:=M.one
   simp only[RD] at h;subst h
   exact .inl ⟨_,_,rfl,by simp only[z4P,if_pos hl],fun _=>W.flat M.m rfl⟩
  ·exact wfl W
 ·split at W
  ·rename_i hl
   obtain⟨v,rfl,h,_⟩:=M.one
   simp only[RD] at h;subst h
   exact .inl ⟨_,_,rfl,by simp only[z4P,if_pos hl],fun _=>W.flat M.m rfl⟩
  ·exact wfl W
 ·rename_i ds
  split at W
  ·rename_i hc
   simp only[Bool.and_eq_true,decide_eq_true_eq] at hc
   obtain⟨⟨⟨c1,c2⟩,c3⟩,c4⟩:=hc
   obtain⟨v,rfl,h,_⟩:=M.one
   obtain⟨p,xs,rfl,s1,r1⟩:=id h.tupq
   exact .inr ⟨p,er (.tup ds),rfl,RD.dp _ _ h (by simp only[plain];exact c1),z28 _,c2,c3,c4,fun _=>W.flat M.m rfl⟩
  ·exact wfl W
 ·exact .inr (zcR ρ s _ vs H σv tv Q M W)
theorem z7Y(hk:X.K=G.K)(hg:X.A.guards=some [])(hu:X.A.units+64<cLine):Cb X G F (.builtin "repr") repA:=⟨_,hk▸z7X hg hu,zaX⟩
end
end Mi
namespace My
open PySem L2 PySem.Spec PyProof.Rows Mi
@[irreducible] noncomputable def SE(X:Cx)(G:Gx)(F:Fy)(e:Expr)(m:M D):Prop:=Mi.SE X G F e m
theorem eSE(X:Cx)(G:Gx)(F:Fy)(e:Expr)(m:M D):SE X G F e m=Mi.SE X G F e m:=by unfold SE;rfl
@[irreducible] noncomputable def SA(X:Cx)(G:Gx)(F:Fy)(e:List Expr)(m:M (List D)):Prop:=Mi.SA X G F e m
theorem eSA(X:Cx)(G:Gx)(F:Fy)(e:List Expr)(m:M (List D)):SA X G F e m=Mi.SA X G F e m:=by unfold SA;rfl
@[irreducible] noncomputable def SB(X:Cx)(G:Gx)(F:Fy)(e:Expr)(m:M Bool):Prop:=Mi.SB X G F e m
theorem eSB(X:Cx)(G:Gx)(F:Fy)(e:Expr)(m:M Bool):SB X G F e m=Mi.SB X G F e m:=by unfold SB;rfl
@[irreducible] noncomputable def SW(X:Cx)(G:Gx)(F:Fy)(e:Expr)(m:M Bool):Prop:=Mi.SW X G F e m
theorem eSW(X:Cx)(G:Gx)(F:Fy)(e:Expr)(m:M Bool):SW X G F e m=Mi.SW X G F e m:=by unfold SW;rfl
@[irreducible] noncomputable def SS(X:Cx)(G:Gx)(F:Fy)(e:Stmt)(m:MS):Prop:=Mi.SS X G F e m
theorem eSS(X:Cx)(G:Gx)(F:Fy)(e:Stmt)(m:MS):SS X G F e m=Mi.SS X G F e m:=by unfold SS;rfl
@[irreducible] noncomputable def SSs(X:Cx)(G:Gx)(F:Fy)(e:List Stmt)(m:MS):Prop:=Mi.SSs X G F e m
theorem eSSs(X:Cx)(G:Gx)(F:Fy)(e:List Stmt)(m:MS):SSs X G F e m=Mi.SSs X G F e m:=by unfold SSs;rfl
@[irreducible] noncomputable def SG(X:Cx)(G:Gx)(F:Fy)(e:Expr)(m:Tg):Prop:=Mi.SG X G F e m
theorem eSG(X:Cx)(G:Gx)(F:Fy)(e:Expr)(m:Tg):SG X G F e m=Mi.SG X G F e m:=by unfold SG;rfl
@[irreducible] noncomputable def SGs(X:Cx)(G:Gx)(F:Fy)(e:List Expr)(m:List Tg):Prop:=Mi.SGs X G F e m
theorem eSGs(X:Cx)(G:Gx)(F:Fy)(e:List Expr)(m:List Tg):SGs X G F e m=Mi.SGs X G F e m:=by unfold SGs;rfl
@[irreducible] noncomputable def SI(X:Cx)(G:Gx)(F:Fy)(tg e:Expr)(m:M ItK):Prop:=Mi.SI X G F tg e m
theorem eSI(X:Cx)(G:Gx)(F:Fy)(tg e:Expr)(m:M ItK):SI X G F tg e m=Mi.SI X G F tg e m:=by unfold SI;rfl
@[irreducible] noncomputable def SO(X:Cx)(G:Gx)(F:Fy)(e:Option Expr)(m:Option (M D)):Prop:=Mi.SO X G F e m
theorem eSO(X:Cx)(G:Gx)(F:Fy)(e:Option Expr)(m:Option (M D)):SO X G F e m=Mi.SO X G F e m:=by unfold SO;rfl
@[irreducible] noncomputable def STs(X:Cx)(G:Gx)(F:Fy)(e:List Expr)(m:M Bool):Prop:=Mi.STs X G F e m
theorem eSTs(X:Cx)(G:Gx)(F:Fy)(e:List Expr)(m:M Bool):STs X G F e m=Mi.STs X G F e m:=by unfold STs;rfl
local macro_rules | `(tactic| walk_at "go") => `(tactic| (simp only [eSE, eSA, eSB, eSW, eSS, eSSs, eSG, eSGs, eSI, eSO, eSTs] at *))
section
variable{X:Cx}{G:Gx}{F:Fy}{e a b c:Expr}{pos:Pos}
theorem se_var(i:Nat){x:Str}(hk:X.K=G.K)(h:PE X (.Name x pos) (tVar i)):SE X G F (.Name x pos) (mVar i):=by
 walk_at "go"
 exact Mi.se_var i hk h
theorem se_c{d:D}{v:V}(hk:X.K=G.K)(h:PE X e (tC v))(hd:cV d=some v:=by rfl):SE X G F e (mC d):=by
 walk_at "go"
 exact Mi.se_c hk h hd
theorem so_none:SO X G F none none:=by
 walk_at "go"
 exact Mi.so_none
theorem so_some{m:M D}(h:SE X G F e m):SO X G F (some e) (some m):=by
 walk_at "go"
 exact Mi.so_some h
theorem se_slice{lo hi:Option Expr}{p2:Pos}{m:M D}{ml mh:Option (M D)}(hk:X.K=G.K)(he:SE X G F e m)(hl:SO X G F lo ml)(hh:SO X G F hi mh):SE X G F (.Subscript e (.Slice lo hi none p2) pos) (mSl m ml mh):=by
 walk_at "go"
 exact Mi.se_slice hk he hl hh
theorem se_tup{es:List Expr}{ms:List (M D)}{x1}(hk:X.K=G.K)(h:SA X G F es (z0c ms)):SE X G F (.Tuple es x1 pos) (mCB ms tupD):=by
 walk_at "go"
 exact Mi.se_tup hk h
theorem se_lst{es:List Expr}{ms:List (M D)}(hk:X.K=G.K)(h:SA X G F es (z0c ms)):SE X G F (.List es pos) (mCB ms lstM):=by
 walk_at "go"
 exact Mi.se_lst hk h
theorem sb_truth{m:M D}(hk:X.K=G.K)(ha:SE X G F a m)(he: ∀whole,isTrue a X.env whole=(do let v<-whole;standAt a.pos;holding [v] (truthy v)):=by intro _;rfl):SB X G F a (z0D m):=by
 walk_at "go"
 exact Mi.sb_truth hk ha he
theorem SW.sb{m:M Bool}(h:SW X G F e m):SB X G F e m:=by
 walk_at "go"
 exact Mi.SW.sb h
theorem sw_and1{m:M Bool}(h:SB X G F a m):SW X G F (.BoolOp .And [a] pos) m:=by
 walk_at "go"
 exact Mi.sw_and1 h
theorem sw_or1{m:M Bool}(h:SB X G F a m):SW X G F (.BoolOp .Or [a] pos) m:=by
 walk_at "go"
 exact Mi.sw_or1 h
theorem sw_and{rest:List Expr}{m m':M Bool}(ha:SB X G F a m)(hb:SW X G F (.BoolOp .And (b::rest) pos) m'):SW X G F (.BoolOp .And (a::b::rest) pos) (mAnd m m'):=by
 walk_at "go"
 exact Mi.sw_and ha hb
theorem sw_or{rest:List Expr}{m m':M Bool}(ha:SB X G F a m)(hb:SW X G F (.BoolOp .Or (b::rest) pos) m'):SW X G F (.BoolOp .Or (a::b::rest) pos) (mOr m m'):=by
 walk_at "go"
 exact Mi.sw_or ha hb
theorem sb_not{m:M Bool}(ha:SB X G F a m):SB X G F (.UnaryOp .Not a pos) (mNot m):=by
 walk_at "go"
 exact Mi.sb_not ha
theorem se_one{op}{m:M D}(h:SE X G F a m):SE X G F (.BoolOp op [a] pos) m:=by
 walk_at "go"
 exact Mi.se_one h
theorem se_and{rest:List Expr}{m m':M D}(ha:SE X G F a m)(hb:SE X G F (.BoolOp .And (b::rest) pos) m'):SE X G F (.BoolOp .And (a::b::rest) pos) (z3o m m'):=by
 walk_at "go"
 exact Mi.se_and ha hb
theorem se_not{m:M D}(ha:SE X G F a m):SE X G F (.UnaryOp .Not a pos) (z6i m):=by
 walk_at "go"
 exact Mi.se_not ha
theorem se_isi{p:Pos}{x y:Expr}{T:String}{m:M D}(hk:X.K=G.K)(hT:T= "int" \/T= "bool" \/T= "tuple" \/T= "list" \/T= "str")(hgl:Gl X "isinstance")(hm:X.mg "isinstance" =none)(ha:SE X G F x m)(hy:PE X y (tC (.ty T)))
 (he:starEach [x,y] X.env=(false,eval x X.env)::starEach [y] X.env:=by rfl) (he2:starEach [y] X.env=(false,eval y X.env)::starEach [] X.env:=by rfl) (hpl:(backTo pos (starEach [y] X.env)).any (·.1)=false:=by rfl):SE X G F (.Call (.Name "isinstance" p) [x,y] [] pos) (mIsi T m):=by
 walk_at "go"
 exact Mi.se_isi hk hT hgl hm ha hy he he2 hpl
end
section
variable{X:Cx}{G:Gx}{F:Fy}{e a b c:Expr}{st:Stmt}{sts rest:List Stmt}{pos:Pos}
theorem ss_nil:SSs X G F [] sNx:=by
 walk_at "go"
 exact Mi.ss_nil
theorem ss_cons{m m':MS}(h1:SS X G F st m)(h2:SSs X G F rest m'):SSs X G F (st::rest) (seqS m m'):=by
 walk_at "go"
 exact Mi.ss_cons h1 h2
theorem ss_one{m:MS}(h1:SS X G F st m):SSs X G F [st] m:=by
 walk_at "go"
 exact Mi.ss_one h1
theorem ss_expr{m:M D}(he:SE X G F e m)(hs:swapsWith e none pos.line X.env=pure false:=by rfl):SS X G F (.Expr e pos) (z5a m):=by
 walk_at "go"
 exact Mi.ss_expr he hs
theorem ss_ret{m:M D}(he:SE X G F e m):SS X G F (.Return (some e) pos) (sRet m):=by
 walk_at "go"
 exact Mi.ss_ret he
theorem ss_if{x y:List Stmt}{mc:M Bool}{m m':MS}(hc:SB X G F c mc)(ha:SSs X G F x m)(hb:SSs X G F y m'):SS X G F (.If c x y pos) (sIf mc m m'):=by
 walk_at "go"
 exact Mi.ss_if hc ha hb
theorem sg_name{i:Nat}{x:Str}{p:Pos}(h:PG X (.Name x p) (z65 i)):SG X G F (.Name x p) (.nm i):=by
 walk_at "go"
 exact Mi.sg_name h
theorem sgs_nil:SGs X G F [] []:=by
 walk_at "go"
 exact Mi.sgs_nil
theorem sgs_cons{es:List Expr}{g:Tg}{gs:List Tg}(h1:SG X G F e g)(h2:SGs X G F es gs)(hs:(assignEach (e::es) X.env).map (·.2)=assign e X.env::(assignEach es X.env).map (·.2):=by rfl):SGs X G F (e::es) (g::gs):=by
 walk_at "go"
 exact Mi.sgs_cons h1 h2 hs
theorem sg_tup{es:List Expr}{k:Nat}{gs:List Tg}(hk:X.K=G.K)(hc:X.calm=true)(h:SGs X G F es gs)(hn:(assignEach es X.env).length=gs.length:=by rfl)(hst:(assignEach es X.env).findIdx? (·.1)=none:=by rfl):SG X G F (.Tuple es k pos) (.tp gs):=by
 walk_at "go"
 exact Mi.sg_tup hk hc h hn hst
theorem ss_asg{tg:Expr}{g:Tg}{m:M D}(he:SE X G F e m)(hg:SG X G F tg g)(hs:swapsWithSole [tg] e pos.line X.env=pure false:=by rfl)(hw:swappedStores [tg] e X.env=pure none:=by rfl)
 (h1:(assignEach [tg] X.env).map (·.2)=[assign tg X.env]:=by rfl):SS X G F (.Assign [tg] e pos) (sAsg g m):=by
 walk_at "go"
 exact Mi.ss_asg he hg hs hw h1
theorem ss_set{i:Nat}{x:Str}{p:Pos}{m:M D}(h: ∀{te:TE},PE X e te->PS X (.Assign [.Name x p] e pos) (tAsg te (z65 i)))(he:SE X G F e m):SS X G F (.Assign [.Name x p] e pos) (sAsg (.nm i) m):=by
 walk_at "go"
 exact Mi.ss_set h he
end
section
variable{X:Cx}{G:Gx}{F:Fy}{e a b c tg iter:Expr}{pos:Pos}
theorem si_seq{m:M D}(hk:X.K=G.K)(h:SE X G F e m):SI X G F tg e (z1h m):=by
 walk_at "go"
 exact Mi.si_seq hk h
theorem si_rng1{p:Pos}{ms:List (M D)}(hg:Gl X "range")(hm:X.mg "range" =none)(ha:SA X G F [a] (z0c ms))(hs:starEach [a] X.env=[(false,eval a X.env)]:=by rfl):SI X G F tg (.Call (.Name "range" p) [a] [] pos) (z0B ms):=by
 walk_at "go"
 exact Mi.si_rng1 hg hm ha hs
theorem ss_for{body:List Stmt}{mi:M ItK}{g:Tg}{mb:MS}(hp:PassesOwn (model X.prog X.w) X.A X.env X.xe)(hc:X.calm=true)(hi:SI X G F tg iter mi)(hg:SG X G F tg g)(hb:SSs X G F body mb)(hst: ∀x,foldedSetIterable iter X.env x=pure x:=by intro _;rfl):SS X G F (.For tg iter body [] pos) (sFor mi g mb):=by
 walk_at "go"
 exact Mi.ss_for hp hc hi hg hb hst
end
section
variable{X:Cx}{G:Gx}{F:Fy}{e a b c tg iter elt:Expr}{pos:Pos}
theorem sts_nil:STs X G F [] (rt true):=by
 walk_at "go"
 exact Mi.sts_nil
theorem se_comp{scope:Scope}{own frees:List Str}{ix:List Nat}{ifs:List Expr}{mi:M ItK}{g:Tg}{mt:M Bool}{me:M D}(hk:X.K=G.K)(hc:X.calm=true)(S:z0j X.env.scope scope own frees X.N ix)(hi:SI X G F tg iter mi)
 (hg: ∀(F:Fy) cl C s₀ H₀ fp pn,SG (z09 X scope own frees cl C s₀ H₀ fp pn) G F tg g) (ht: ∀(F:Fy) cl C s₀ H₀ fp pn,STs (z09 X scope own frees cl C s₀ H₀ fp pn) G F ifs mt) (he: ∀(F:Fy) cl C s₀ H₀ fp pn,SE (z09 X scope own frees cl C s₀ H₀ fp pn) G F elt me)
 (hs: ∀x,foldedSetIterable iter X.env x=pure x:=by intro _;rfl):SE X G F (.ListComp elt [⟨tg,iter,ifs,0⟩] scope pos) (z0s mi g mt me own.length ix):=by
 walk_at "go"
 exact Mi.se_comp hk hc S hi hg ht he hs
theorem ss_comp{y:Str}{py spos:Pos}{i:Nat}{scope:Scope}{own frees:List Str}{ix:List Nat}{ifs:List Expr}{mi:M ItK}{g:Tg}{mt:M Bool}{me:M D}(hk:X.K=G.K)(hN:X.N.Nodup)(hy:X.N[i]? =some y)(hx:Loc X.env.scope y)(hfn:X.fn y=true\/X.env.scope.names.lookup y=some .local)(hsw:swapsWith (.ListComp elt [⟨tg,iter,ifs,0⟩] scope pos) (some (.Name y py)) spos.line X.env=pure true)
 (hc:X.calm=true) (S:z0j X.env.scope scope own frees X.N ix) (hi:SI X G F tg iter mi)
 (hg: ∀(F:Fy) cl C s₀ H₀ fp pn,SG (z09 X scope own frees cl C s₀ H₀ fp pn) G F tg g) (ht: ∀(F:Fy) cl C s₀ H₀ fp pn,STs (z09 X scope own frees cl C s₀ H₀ fp pn) G F ifs mt) (he: ∀(F:Fy) cl C s₀ H₀ fp pn,SE (z09 X scope own frees cl C s₀ H₀ fp pn) G F elt me)
 (hs: ∀x,foldedSetIterable iter X.env x=pure x:=by intro _;rfl):SS X G F (.Assign [.Name y py] (.ListComp elt [⟨tg,iter,ifs,0⟩] scope pos) spos) (sAsg (.nm i) (z0s mi g mt me own.length ix)):=by
 walk_at "go"
 exact Mi.ss_comp hk hN hy hx hfn hsw hc S hi hg ht he hs
end
section
variable{G:Gx}{ρ:Nat->Addr}{H:Hp}
section
variable(k:KD G.K H){n:Nat}(inj: ∀i j,i<n->j<n->ρ i=ρ j->i=j)
include k inj
end
end
section
variable{G:Gx}{ρ ρ':Nat->Addr}{H H':Hp}
section
variable(k:KD G.K H){n:Nat}(inj: ∀i j,i<n->j<n->ρ i=ρ j->i=j){ts:List D}{vs:List V}(r:RDs G ρ H ts vs)(lb: ∀l∈labsL ts,l<n)
include k inj r lb
end
variable{F:Fy}{σv tv:List (Option V)}{s:Stt}{np:Nat}
theorem se_call{X:Cx}{e:Expr}{es:List Expr}{pos p:Pos}{CX:CXT}{k:Nat}{fa:Addr}{fd:FuncData}{ps:List Str}{x:Str}{E:XK}{f:FM}{ms:List (M D)}(hk:X.K=G.K)(Fn:FnOk X.prog X.w X.K X.mg X.base CX k fa fd ps (spM G ps.length f))(hr:Room k X.A)(hg:Gl X x)(hm:X.mg x=some (.ref fa))(hkp:W.keepIn X.K (.ref fa)=true)(hb:z3k X.K fd ps [])(hx:z3x CX X E)
 (ha:SA X G F (e::es) (z0c ms)) (hln:ms.length=ps.length) (hdb:(x==("__debug__" :Str))=false:=by decide) (he:starEach (e::es) X.env=(false,eval e X.env)::starEach es X.env:=by rfl) (hpl:(backTo pos (starEach es X.env)).any (·.1)=false:=by rfl):
 SE X G F (.Call (.Name x p) (e::es) [] pos) (z06 f ms):=by
 walk_at "go"
 exact Mi.se_call hk Fn hr hg hm hkp hb hx ha hln hdb he hpl
theorem fn_M{P:Program}{w:World}{K:W.Frag}{mg:Str->Option Value}{base:Heap}{x qual:Str}{st:Stmt}{fa:Addr}{fd:FuncData}{N ps:List Str}{k:Nat}{mb:MS}(Fn:Fun K x qual st fa fd)(S:z0l N ps (z03 st))(hG:G.K=K)
 (hb: ∀(cdv:Value) (A:Around) (outer:List Env) (s:Shared) (H:Hp) (E:XK) (F:Fy),Room k (A.deeper (envOfC qual (z03 st) s.heap.objs.size fa cdv))->SSs (cxOf CX0 P w K mg base N qual (z03 st) fa cdv A outer s H E).nox G F (z15 st) mb):
 FnOk P w K mg base CX0 (k+1) fa fd ps (spM G ps.length (runF N.length mb)):=by
 walk_at "go"
 exact Mi.fn_M Fn S hG hb
end
section
variable{X:Cx}{G:Gx}{F:Fy}{e o:Expr}{es:List Expr}{apos cpos:Pos}
theorem ss_setI{ob ix:Expr}{pos tpos:Pos}{mo mi me:M D}(he:SE X G F e me)(ho:SE X G F ob mo)(hi:SE X G F ix mi)(hg: ∀{to ti:TE},PE X ob to->PE X ix ti->PG X (.Subscript ob ix tpos) (gSub to ti z8R))(hs:swapsWithSole [.Subscript ob ix tpos] e pos.line X.env=pure false:=by rfl)(hw:swappedStores [.Subscript ob ix tpos] e X.env=pure none:=by rfl)
 (h1:(assignEach [.Subscript ob ix tpos] X.env).map (·.2)=[assign (.Subscript ob ix tpos) X.env]:=by rfl):SS X G F (.Assign [.Subscript ob ix tpos] e pos) (mTri me mo mi setD):=by
 walk_at "go"
 exact Mi.ss_setI he ho hi hg hs hw h1
end
section
variable{X:Cx}{G:Gx}{F:Fy}{e a b c:Expr}{pos:Pos}{ma mb mc m:M D}
theorem se_add(hk:X.K=G.K)(ha:SE X G F a ma)(hb:SE X G F b mb):SE X G F (.BinOp a .Add b pos) (mBin ma mb addD):=by
 walk_at "go"
 exact Mi.se_add hk ha hb
theorem se_sub(hk:X.K=G.K)(ha:SE X G F a ma)(hb:SE X G F b mb):SE X G F (.BinOp a .Sub b pos) (mBin ma mb subD):=by
 walk_at "go"
 exact Mi.se_sub hk ha hb
theorem se_mul(hk:X.K=G.K)(ha:SE X G F a ma)(hb:SE X G F b mb):SE X G F (.BinOp a .Mult b pos) (mBin ma mb mulD):=by
 walk_at "go"
 exact Mi.se_mul hk ha hb
theorem se_fdiv(hk:X.K=G.K)(ha:SE X G F a ma)(hb:SE X G F b mb):SE X G F (.BinOp a .FloorDiv b pos) (mBin ma mb z25):=by
 walk_at "go"
 exact Mi.se_fdiv hk ha hb
theorem se_mod(hk:X.K=G.K)(ha:SE X G F a ma)(hb:SE X G F b mb):SE X G F (.BinOp a .Mod b pos) (mBin ma mb modD):=by
 walk_at "go"
 exact Mi.se_mod hk ha hb
theorem se_pow(hk:X.K=G.K)(ha:SE X G F a ma)(hb:SE X G F b mb):SE X G F (.BinOp a .Pow b pos) (mBin ma mb powD):=by
 walk_at "go"
 exact Mi.se_pow hk ha hb
theorem se_neg(hk:X.K=G.K)(ha:SE X G F a ma):SE X G F (.UnaryOp .USub a pos) (bd ma negD):=by
 walk_at "go"
 exact Mi.se_neg hk ha
theorem se_cmp{op:CmpOp}{g:D->D->M D}(hc:Cm X G F op g)(ha:SE X G F a ma)(hb:SE X G F b mb)(hm:behindInMarks op b=false):SE X G F (.Compare a [op] [b] pos) (mBin ma mb g):=by
 walk_at "go"
 exact Mi.se_cmp hc ha hb hm
theorem sb_cmp{op:CmpOp}{g:D->D->M D}(hc:Cm X G F op g)(ha:SE X G F a ma)(hb:SE X G F b mb)(hm:behindInMarks op b=false):SB X G F (.Compare a [op] [b] pos) (mBoo (mBin ma mb g)):=by
 walk_at "go"
 exact Mi.sb_cmp hc ha hb hm
theorem se_cmp2{op op':CmpOp}{g g':D->D->M D}(hc:Cm X G F op g)(hc':Cm X G F op' g')(ha:SE X G F a ma)(hb:SE X G F b mb)(hcc:SE X G F c mc)(hm:lastMarks [op,op'] [b,c]=false:=by with_unfolding_all rfl):SE X G F (.Compare a [op,op'] [b,c] pos) (z1k ma mb mc g g'):=by
 walk_at "go"
 exact Mi.se_cmp2 hc hc' ha hb hcc hm
theorem sb_cmp2{op op':CmpOp}{g g':D->D->M D}(hc:Cm X G F op g)(hc':Cm X G F op' g')(ha:SE X G F a ma)(hb:SE X G F b mb)(hcc:SE X G F c mc)(hm:lastMarks [op,op'] [b,c]=false:=by with_unfolding_all rfl):SB X G F (.Compare a [op,op'] [b,c] pos) (mBoo (z1k ma mb mc g g')):=by
 walk_at "go"
 exact Mi.sb_cmp2 hc hc' ha hb hcc hm
theorem se_idx(hk:X.K=G.K)(ha:SE X G F a ma)(hb:SE X G F b mb)(hs:z1B b):SE X G F (.Subscript a b pos) (mBin ma mb ixD):=by
 walk_at "go"
 exact Mi.se_idx hk ha hb hs
theorem se_cb{x:Str}{p:Pos}{es:List Expr}{ms:List (M D)}{g:List D->M D}{id:String}(hk:X.K=G.K)(hc:Cb X G F (.builtin id) g)(hgl:Gl X x)(hm:X.mg x=none)(hv:bootBuiltins x=some (.builtin id))(ha:SA X G F (e::es) (z0c ms))(hn:x≠ "__name__" :=by decide)(hdb:(x==("__debug__" :Str))=false:=by decide)
 (he:starEach (e::es) X.env=(false,eval e X.env)::starEach es X.env:=by rfl) (hpl:(backTo pos (starEach es X.env)).any (·.1)=false:=by rfl):SE X G F (.Call (.Name x p) (e::es) [] pos) (mCB ms g):=by
 walk_at "go"
 exact Mi.se_cb hk hc hgl hm hv ha hn hdb he hpl
theorem se_ct{x:Str}{p:Pos}{es:List Expr}{ms:List (M D)}{g:List D->M D}{T:String}(hk:X.K=G.K)(hc:Cb X G F (.type T) g)(hgl:Gl X x)(hm:X.mg x=none)(hv:bootBuiltins x=some (.type T))(ha:SA X G F (e::es) (z0c ms))(hn:x≠ "__name__" :=by decide)(hdb:(x==("__debug__" :Str))=false:=by decide)
 (he:starEach (e::es) X.env=(false,eval e X.env)::starEach es X.env:=by rfl) (hpl:(backTo pos (starEach es X.env)).any (·.1)=false:=by rfl):SE X G F (.Call (.Name x p) (e::es) [] pos) (mCB ms g):=by
 walk_at "go"
 exact Mi.se_ct hk hc hgl hm hv ha hn hdb he hpl
end
section
variable{X:Cx}{G:Gx}{F:Fy}{e a b c:Expr}{pos:Pos}
theorem se_isiT{p:Pos}{x y:Expr}{Ts:List String}{m:M D}(hk:X.K=G.K)(hT: ∀T∈Ts,T= "tuple" \/T= "list")(hne:Ts≠[])(hgl:Gl X "isinstance")(hm:X.mg "isinstance" =none)(ha:SE X G F x m)(hy:PE X y (tTys Ts))
 (he:starEach [x,y] X.env=(false,eval x X.env)::starEach [y] X.env:=by rfl) (he2:starEach [y] X.env=(false,eval y X.env)::starEach [] X.env:=by rfl) (hpl:(backTo pos (starEach [y] X.env)).any (·.1)=false:=by rfl):SE X G F (.Call (.Name "isinstance" p) [x,y] [] pos) (z7z Ts m):=by
 walk_at "go"
 exact Mi.se_isiT hk hT hne hgl hm ha hy he he2 hpl
end
section
variable{X:Cx}{G:Gx}{F:Fy}{e o:Expr}{es:List Expr}{apos cpos:Pos}
theorem se_cl{name:Str}{id:String}{mo:M D}{ms:List (M D)}{g:D->List D->M D}(hk:X.K=G.K)(slot:Slot "list" name id)(hty:typeOf (.builtin id)=pure (.type "method_descriptor"))(hm:Cl X G F id g)(ho:SE X G F o mo)(ha:SA X G F (e::es) (z0c ms))
 (hbase:attributeBase o name X.env (eval o X.env)=eval o X.env:=by rfl)
 (hfew:((backTo cpos (starEach (e::es) X.env)).all (fun x=> !x.1)&&(backToKw cpos (keywordEach [] X.env)).all (fun x=>x.1.isSome)
  &&decide ((e::es).length+([]:List Keyword).length+(if([]:List Keyword).isEmpty then 0 else 1)<30))=true:=by rfl)
 (hline:(apos.endLine==cpos.line)=true:=by rfl) (hs:starEach (e::es) X.env=(false,eval e X.env)::starEach es X.env:=by rfl) (hplain:(backTo cpos (starEach es X.env)).any (·.1)=false:=by rfl):SE X G F (.Call (.Attribute o name apos) (e::es) [] cpos) (z3V mo ms g):=by
 walk_at "go"
 exact Mi.se_cl hk slot hty hm ho ha hbase hfew hline hs hplain
end
section
variable{X:Cx}{G:Gx}{F:Fy}{a b tg:Expr}{pos:Pos}
theorem se_rev{e st:Expr}{p2:Pos}{m:M D}(hk:X.K=G.K)(hst:PO X (some st) (z8P (tUn (rU fun i=>V.int (-i)) (tC (.int 1)))))(he:SE X G F e m):SE X G F (.Subscript e (.Slice none none (some st) p2) pos) (bd m rvsD):=by
 walk_at "go"
 exact Mi.se_rev hk hst he
end
section
variable{X:Cx}{G:Gx}{F:Fy}{a b e:Expr}{ma mb:M D}{pos:Pos}
theorem se_dgt(hk:X.K=G.K)(hu:X.A.units+64<cLine)(ha:SE X G F a ma)(hb:SE X G F b mb)(hs:z1B b):SE X G F (.Subscript a b pos) (mBin ma mb dgtD):=by
 walk_at "go"
 exact Mi.se_dgt hk hu ha hb hs
theorem se_dnew(hk:X.K=G.K):SE X G F (.Dict [] [] pos) z7C:=by
 walk_at "go"
 exact Mi.se_dnew hk
theorem ss_dput{ob ix:Expr}{pos tpos:Pos}{mo mi me:M D}(hu:X.A.units+64<cLine)(he:SE X G F e me)(ho:SE X G F ob mo)(hi:SE X G F ix mi)(hs:swapsWith e (some (.Subscript ob ix tpos)) pos.line X.env=pure false:=by rfl):
 SS X G F (.Assign [.Subscript ob ix tpos] e pos) (mTri me mo mi z3q):=by
 walk_at "go"
 exact Mi.ss_dput hu he ho hi hs
end
section
variable{X:Cx}{G:Gx}{F:Fy}{tg iter elt:Expr}{pos:Pos}
theorem se_compD{scope:Scope}{own frees:List Str}{ix:List Nat}{ifs:List Expr}{m0:M D}{g:Tg}{mt:M Bool}{me:M D}(hk:X.K=G.K)(hc:X.calm=true)(S:z0j X.env.scope scope own frees X.N ix)(hi:SE X G F iter m0)
 (hg: ∀(F:Fy) cl C s₀ H₀ fp pn,SG (z09 X scope own frees cl C s₀ H₀ fp pn) G F tg g) (ht: ∀(F:Fy) cl C s₀ H₀ fp pn,STs (z09 X scope own frees cl C s₀ H₀ fp pn) G F ifs mt) (he: ∀(F:Fy) cl C s₀ H₀ fp pn,SE (z09 X scope own frees cl C s₀ H₀ fp pn) G F elt me)
 (hs: ∀x,foldedSetIterable iter X.env x=pure x:=by intro _;rfl):SE X G F (.ListComp elt [⟨tg,iter,ifs,0⟩] scope pos) (z0s (z3r m0) g mt me own.length ix):=by
 walk_at "go"
 exact Mi.se_compD hk hc S hi hg ht he hs
end
section
variable{X:Cx}{G:Gx}{F:Fy}{a b e:Expr}{ma mb:M D}{pos:Pos}
theorem ss_setN{i:Nat}{x:Str}{p:Pos}{m:M D}(hN:X.N.Nodup)(hi:X.N[i]? =some x)(hx:Loc X.env.scope x)(hf:X.fn x=true\/X.env.scope.names.lookup x=some .local)(he:SE X G F e m)(hs:swapsWith e (some (.Name x p)) pos.line X.env=pure false:=by rfl):SS X G F (.Assign [.Name x p] e pos) (sAsg (.nm i) m):=by
 walk_at "go"
 exact Mi.ss_setN hN hi hx hf he hs
end
inductive SEs(X:Cx)(G:Gx)(F:Fy):List Expr->List (M D)->Prop
 |nil:SEs X G F [] []
 |cons {e:Expr} {m:M D} {es:List Expr} {ms:List (M D)}:SE X G F e m->nst e=true->SEs X G F es ms->SEs X G F (e::es) (m::ms)
theorem eSEs{X:Cx}{G:Gx}{F:Fy}{es:List Expr}{ms:List (M D)}(h:SEs X G F es ms):Mi.SEs X G F es ms:=by
 induction h with
 |nil=>exact .nil
 |cons h n _ ih=>rw[eSE] at h;exact .cons h n ih
theorem sa_of{X:Cx}{G:Gx}{F:Fy}{es:List Expr}{ms:List (M D)}(hk:X.K=G.K)(h:SEs X G F es ms):SA X G F es (z0c ms):=by
 rw[eSA];exact Mi.sa_of hk (eSEs h)
section
variable{X:Cx}{G:Gx}{F:Fy}{e a b c d:Expr}{pos p:Pos}{m ma mb mc md:M D}
theorem sv(i:Nat){x:Str}(hk:X.K=G.K:=by rfl)(hN:X.N[i]? =some x:=by rfl)(hv:Vis X.env.scope x:=by first|exact Or.inl rfl|exact Or.inr (Or.inl rfl)|exact Or.inr (Or.inr rfl))(hd:(x==("__debug__" :Str))=false:=by decide)(hcd:(x==("__classdict__" :Str))=false:=by decide):SE X G F (.Name x pos) (mVar i):=se_var i hk (pv i hN hv hd hcd)
theorem s1(h:SE X G F a ma)(n:nst a=true:=by rfl)(hk:X.K=G.K:=by rfl):SA X G F [a] (z0c [ma]):=sa_of hk (.cons h n .nil)
theorem s2(h:SE X G F a ma)(h2:SE X G F b mb)(n:nst a=true:=by rfl)(n2:nst b=true:=by rfl)(hk:X.K=G.K:=by rfl):SA X G F [a,b] (z0c [ma,mb]):=sa_of hk (.cons h n (.cons h2 n2 .nil))
theorem s3(h:SE X G F a ma)(h2:SE X G F b mb)(h3:SE X G F c mc)(n:nst a=true:=by rfl)(n2:nst b=true:=by rfl)(n3:nst c=true:=by rfl)(hk:X.K=G.K:=by rfl):SA X G F [a,b,c] (z0c [ma,mb,mc]):=sa_of hk (.cons h n (.cons h2 n2 (.cons h3 n3 .nil)))
theorem s4(h:SE X G F a ma)(h2:SE X G F b mb)(h3:SE X G F c mc)(h4:SE X G F d md)(n:nst a=true:=by rfl)(n2:nst b=true:=by rfl)(n3:nst c=true:=by rfl)(n4:nst d=true:=by rfl)(hk:X.K=G.K:=by rfl):SA X G F [a,b,c,d] (z0c [ma,mb,mc,md]):=sa_of hk (.cons h n (.cons h2 n2 (.cons h3 n3 (.cons h4 n4 .nil))))
theorem sst(i:Nat){x:Str}(hN:X.N.Nodup)(he:SE X G F e m)(hi:X.N[i]? =some x:=by rfl)(hx:Loc X.env.scope x:=by exact Or.inl rfl)(hs:swapsWith e (some (.Name x p)) pos.line X.env=pure false:=by rfl)(hf:X.fn x=true\/X.env.scope.names.lookup x=some .local:=by first|exact .inl rfl|exact .inr rfl|assumption):SS X G F (.Assign [.Name x p] e pos) (sAsg (.nm i) m):=
 ss_set (fun{te} h=>z3v hN hi hx h hs hf) he
theorem sgn(i:Nat){x:Str}(hN:X.N.Nodup)(hi:X.N[i]? =some x:=by rfl)(hx:Loc X.env.scope x:=by exact Or.inl rfl)(hf:X.fn x=true\/X.env.scope.names.lookup x=some .local:=by first|exact .inl rfl|exact .inr rfl|assumption):SG X G F (.Name x pos) (.nm i):=sg_name (z1g hN hi hx hf)
theorem sln{es:List Expr}{ms:List (M D)}(hm:X.mg "len" =none)(ha:SA X G F (e::es) (z0c ms))(hgl:Gl X "len" :=by rfl)(he:starEach (e::es) X.env=(false,eval e X.env)::starEach es X.env:=by rfl)(hpl:(backTo pos (starEach es X.env)).any (·.1)=false:=by rfl)(hk:X.K=G.K:=by rfl):SE X G F (.Call (.Name "len" p) (e::es) [] pos) (mCB ms lenD):=
 se_cb hk (zcH hk) hgl hm PyProof.Rows.Boot.«len» ha (by decide) (by decide) he hpl
theorem sc0{v:V}{d:D}(h:PE X e (tC v))(hd:cV d=some v:=by rfl)(hk:X.K=G.K:=by rfl):SE X G F e (mC d):=se_c hk h hd
theorem sxc{v:V}{q:D}(ha:SE X G F a ma)(h:PE X b (tC v))(hd:cV q=some v:=by rfl)(hs:z1B b:=by exact fun _ _=>rfl)(hk:X.K=G.K:=by rfl):SE X G F (.Subscript a b pos) (mBin ma (mC q) ixD):=se_idx hk ha (se_c hk h hd) hs
theorem sxx(ha:SE X G F a ma)(hb:SE X G F b mb)(hs:z1B b:=by exact fun _ _=>rfl)(hk:X.K=G.K:=by rfl):SE X G F (.Subscript a b pos) (mBin ma mb ixD):=se_idx hk ha hb hs
end
section
variable{G:Gx}{P:Program}{w:World}{K:W.Frag}{mg:Str->Option Value}{base:Heap}{x qual:Str}{st:Stmt}{fa:Addr}{fd:FuncData}{N ps:List Str}{k np:Nat}{f:FM}
theorem okM(mb:MS)(Fn:Fun K x qual st fa fd)(S:z0l N ps (z03 st))(hb: ∀(cdv:Value) (A:Around) (outer:List Env) (s:Shared) (H:Hp) (E:XK) (F:Fy),Room k (A.deeper (envOfC qual (z03 st) s.heap.objs.size fa cdv))->SSs (cxOf CX0 P w K mg base N qual (z03 st) fa cdv A outer s H E).nox G F (z15 st) mb)(hG:G.K=K:=by rfl)(hf:f=runF N.length mb:=by rfl)(hn:np=ps.length:=by rfl):
 FnOk P w K mg base CX0 (k+1) fa fd ps (spM G np f):=by
 subst hf hn;exact fn_M Fn S hG hb
end
section
variable{X:Cx}{G:Gx}{F:Fy}{tg iter elt:Expr}{pos:Pos}
theorem se_lenset{scope:Scope}{own frees:List Str}{ix:List Nat}{ifs:List Expr}{mi:M ItK}{g:Tg}{mt:M Bool}{me:M D}{p cpos:Pos}(hgl:Gl X "len")(hml:X.mg "len" =none)(hu:X.A.units+2<cLine)(hc:X.calm=true)(S:z0j X.env.scope scope own frees X.N ix)(hi:SI X G F tg iter mi)
 (hg: ∀(F:Fy) cl C s₀ H₀ fp pn,SG (z09 X scope own frees cl C s₀ H₀ fp pn) G F tg g) (ht: ∀(F:Fy) cl C s₀ H₀ fp pn,STs (z09 X scope own frees cl C s₀ H₀ fp pn) G F ifs mt) (he: ∀(F:Fy) cl C s₀ H₀ fp pn,SE (z09 X scope own frees cl C s₀ H₀ fp pn) G F elt me)
 (hs: ∀x,foldedSetIterable iter X.env x=pure x:=by intro _;rfl)
 (hso:starEach [.SetComp elt [⟨tg,iter,ifs,0⟩] scope pos] X.env=[(false,eval (.SetComp elt [⟨tg,iter,ifs,0⟩] scope pos) X.env)]:=by rfl):
 SE X G F (.Call (.Name "len" p) [.SetComp elt [⟨tg,iter,ifs,0⟩] scope pos] [] cpos) (z5m mi g mt me own.length ix):=by
 simp only[eSE,eSA,eSB,eSW,eSS,eSSs,eSG,eSGs,eSI,eSO,eSTs] at*
 exact Mi.se_lenset hgl hml hu hc S hi hg ht he hs hso
end
end My
namespace My
open PySem L2 Mi
noncomputable def top(i:Nat):Stmt:=PySem.Challenge.pw_signbench_k01_tables_of_keys.main.body.getD i (.Pass ⟨0,0,0,0⟩)
noncomputable abbrev z1q:Stmt:=top 2
noncomputable abbrev z1H:Stmt:=top 3
noncomputable abbrev z2j:Stmt:=top 4
noncomputable abbrev z1I:Stmt:=top 8
noncomputable abbrev z0O:Stmt:=top 9
noncomputable abbrev z5n:Stmt:=top 11
noncomputable abbrev z44:Stmt:=top 12
noncomputable abbrev z31:Stmt:=top 13
noncomputable abbrev z32:Stmt:=top 14
noncomputable abbrev z17:Stmt:=top 15
noncomputable abbrev z1J:Stmt:=top 16
noncomputable abbrev z5o:Stmt:=top 17
noncomputable abbrev z2k:Stmt:=top 18
noncomputable abbrev zaY:Stmt:=top 19
noncomputable abbrev z2b:List Str:=["thing"]
noncomputable abbrev z1r:List Str:=z2b
noncomputable abbrev z2v:List Str:=["thing", "low", "high"]
noncomputable abbrev z1K:List Str:=z2v
noncomputable abbrev z3C:List Str:=["thing", "fewest", "most", "high"]
noncomputable abbrev z2l:List Str:=z3C
noncomputable abbrev z2w:List Str:=["thing"]
noncomputable abbrev z1L:List Str:=z2w
noncomputable abbrev z2B:List Str:=["thing", "keys", "sounds", "left"]
noncomputable abbrev z0P:List Str:=["thing"]
noncomputable abbrev zaZ:List Str:=["_law_script", "_law_at", "_law_cell", "_law_mix", "_law_k"]
noncomputable abbrev z5p:List Str:=["_law_script", "_law_at"]
noncomputable abbrev z9i:List Str:=["_law_bag_here", "_law_many", "_law_digit"]
noncomputable abbrev z45:List Str:=["_law_bag_here", "_law_many"]
noncomputable abbrev z7Z:List Str:=["_law_bag_here", "_law_wide", "_law_letters", "_law_first", "_law_top", "_law_found", "_law_k", "_law_turn", "_law_keys", "_law_sounds", "_law_left"]
noncomputable abbrev z33:List Str:=["_law_bag_here"]
noncomputable abbrev z4Q:List Str:=["_law_thing"]
noncomputable abbrev z34:List Str:=z4Q
noncomputable abbrev z1M:List Str:=["_law_thing", "_law_least", "_law_many", "_law_most"]
noncomputable abbrev z18:List Str:=z1M
noncomputable abbrev z4R:List Str:=["_law_thing", "_law_seen", "_law_row"]
noncomputable abbrev z1N:List Str:=["_law_thing"]
noncomputable abbrev zb0:List Str:=["_law_bag_here", "_law_thing", "_law_way", "_law_some"]
noncomputable abbrev z5q:List Str:=["_law_bag_here", "_law_thing"]
noncomputable abbrev z6t:List Str:=["_law_bag_here", "_law_thing", "_law_way", "_law_at", "_law_parts"]
noncomputable abbrev z3D:List Str:=["_law_bag_here", "_law_thing"]
noncomputable abbrev zeK:List Str:=["_law_script", "_law_full", "_law_k", "_law_bag_here", "_law_often", "_law_table_here", "_law_things", "_law_turn", "_law_thing", "_law_again", "_law_ahead", "_law_told"]
noncomputable abbrev zb1:List Str:=["_law_script"]
local macro_rules | `(tactic| walk_at "sc") => `(tactic| exact ⟨rfl, rfl, rfl, by decide +kernel, rfl, by decide +kernel, by decide +kernel⟩)
theorem z3s:z0l z2b z1r (z03 z1q):=by walk_at "sc"
theorem z46:z0l z2v z1K (z03 z1H):=by walk_at "sc"
theorem z5r:z0l z3C z2l (z03 z2j):=by walk_at "sc"
theorem z47:z0l z2w z1L (z03 z1I):=by walk_at "sc"
theorem z0v:z0l z2B z0P (z03 z0O):=by walk_at "sc"
theorem z1s:z0l zaZ z5p (z03 z5n):=by walk_at "sc"
theorem z4S:z0l z9i z45 (z03 z44):=by walk_at "sc"
theorem z0m:z0l z7Z z33 (z03 z31):=by walk_at "sc"
theorem z6u:z0l z4Q z34 (z03 z32):=by walk_at "sc"
theorem z2C:z0l z1M z18 (z03 z17):=by walk_at "sc"
theorem z1t:z0l z4R z1N (z03 z1J):=by walk_at "sc"
theorem z48:z0l zb0 z5q (z03 z5o):=by walk_at "sc"
theorem z0C:z0l z6t z3D (z03 z2k):=by walk_at "sc"
theorem z1c:z0l zeK zb1 (z03 zaY):=by walk_at "sc"
structure Dx(K:W.Frag)(mg:Str->Option Value)(x:Str)(st:Stmt)(ps:List Str) where
 f:Addr
 d:FuncData
 F:Fun K x x st f d
 b:z3k K d ps []
 m:mg x=some (.ref f)
theorem scl{X:Cx}{G:Gx}{F:Fy}{e:Expr}{es:List Expr}{pos p:Pos}{CX:CXT}{k j:Nat}{x:Str}{st:Stmt}{ps:List Str}{E:XK}{f:FM}{ms:List (M D)}(d:Dx X.K X.mg x st ps)(Fn:FnOk X.prog X.w X.K X.mg X.base CX j d.f d.d ps (spM G ps.length f))(hr:Room k X.A)(ha:SA X G F (e::es) (z0c ms))(hg:Gl X x:=by rfl)(hx:z3x CX X E:=by exact zan)(hln:ms.length=ps.length:=by rfl)(hk:X.K=G.K:=by rfl)(hj:j<=k:=by lia)(hdb:(x==("__debug__" :Str))=false:=by decide)(he:starEach (e::es) X.env=(false,eval e X.env)::starEach es X.env:=by rfl)(hpl:(backTo pos (starEach es X.env)).any (·.1)=false:=by rfl):SE X G F (.Call (.Name x p) (e::es) [] pos) (z06 f ms):=se_call hk (Fn.mono hj) hr hg d.m d.F.kp d.b hx ha hln hdb he hpl
set_option genInjectivity false in
set_option genSizeOf false in
set_option genSizeOfSpec false in
structure Wd(K:W.Frag)(mg:Str->Option Value) where
 x_p_is_number:Dx K mg "is_number" z1q z1r
 x_p_is_whole:Dx K mg "is_whole" z1H z1K
 x_p_is_row:Dx K mg "is_row" z2j z2l
 x_p_is_table:Dx K mg "is_table" z1I z1L
 x_p_is_table_row:Dx K mg "is_table_row" z0O z0P
 x_l_bag:Dx K mg "_law_bag" z5n z5p
 x_l_take:Dx K mg "_law_take" z44 z45
 x_l_table:Dx K mg "_law_table" z31 z33
 x_l_whole:Dx K mg "_law_whole" z32 z34
 x_l_are_numbers:Dx K mg "_law_are_numbers" z17 z18
 x_l_is_table:Dx K mg "_law_is_table" z1J z1N
 x_l_odd:Dx K mg "_law_odd" z5o z5q
 x_l_spoilt:Dx K mg "_law_spoilt" z2k z3D
 x_law:Dx K mg "law" zaY zb1
 n_abs:mg "abs" =none
 n_all:mg "all" =none
 n_bool:mg "bool" =none
 c_LAST_KEY: ∃t,mg "LAST_KEY" =some (.int 25 t)
 c_LAST_SOUND: ∃t,mg "LAST_SOUND" =some (.int 39 t)
 c_MOST_ROWS: ∃t,mg "MOST_ROWS" =some (.int 40 t)
 n_int:mg "int" =none
 n_isinstance:mg "isinstance" =none
 n_len:mg "len" =none
 n_list:mg "list" =none
 n_max:mg "max" =none
 n_min:mg "min" =none
 n_range:mg "range" =none
 n_repr:mg "repr" =none
 n_tuple:mg "tuple" =none
section
variable{P:Program}{w:World}{K:W.Frag}{mg:Str->Option Value}{base:Heap}
noncomputable def z1u:MS:=(sRet (z3o (mIsi "int" (mVar 0)) (z6i (mIsi "bool" (mVar 0)))))
noncomputable def z0W:FM:=runF 1 z1u
theorem z3t(T:Wd K mg):FnOk P w K mg base CX0 1 T.x_p_is_number.f T.x_p_is_number.d z1r (spM (G0 K) 1 z0W):=okM z1u T.x_p_is_number.F z3s fun cdv A outer s H E F hr=>(ss_one (ss_ret (se_and (se_isi rfl (by decide) rfl T.n_isinstance (sv 0) (z0A (v:= .ty "int") rfl T.n_int PyProof.Rows.Boot.«int» rfl)) (se_one (se_not (se_isi rfl (by decide) rfl T.n_isinstance (sv 0) (z0A (v:= .ty "bool") rfl T.n_bool PyProof.Rows.Boot.«bool» rfl)))))))
noncomputable def z1O:MS:=(sRet (z3o (z06 z0W [(mVar 0)]) (z1k (mVar 1) (mVar 0) (mVar 2) leD leD)))
noncomputable def z0L:FM:=runF 3 z1O
theorem z49(T:Wd K mg):FnOk P w K mg base CX0 2 T.x_p_is_whole.f T.x_p_is_whole.d z1K (spM (G0 K) 3 z0L):=okM z1O T.x_p_is_whole.F z46 fun cdv A outer s H E F hr=>(ss_one (ss_ret (se_and (scl T.x_p_is_number (z3t T) hr (s1 (sv 0))) (se_one (se_cmp2 z6o z6o (sv 1) (sv 0) (sv 2))))))
noncomputable def z2m:MS:=(seqS (sIf (mOr (mNot (z0D (mIsi "tuple" (mVar 0)))) (mNot (mBoo (z1k (mVar 1) (mCB [(mVar 0)] lenD) (mVar 2) leD leD)))) (sRet (mC (.bool false))) sNx)
 (sRet (mCB [(z0s (z1h (mVar 0)) (.nm 0) (rt true) (z06 z0L [(mVar 0),(mC (.int 0)),(mVar 1)]) 1 [3])] allD)))
noncomputable def z0X:FM:=runF 4 z2m
theorem z1Z(T:Wd K mg):FnOk P w K mg base CX0 3 T.x_p_is_row.f T.x_p_is_row.d z2l (spM (G0 K) 4 z0X):=okM z2m T.x_p_is_row.F z5r fun cdv A outer s H E F hr=>(ss_cons (ss_if (SW.sb (sw_or (sb_not (sb_truth rfl (se_isi rfl (by decide) rfl T.n_isinstance (sv 0) (z0A (v:= .ty "tuple") rfl T.n_tuple PyProof.Rows.Boot.«tuple» rfl)))) (sw_or1 (sb_not (sb_cmp2 z6o z6o (sv 1) (sln T.n_len (s1 (sv 0))) (sv 2)))))) (ss_one (ss_ret (sc0 z1A))) ss_nil)
 (ss_one (ss_ret (se_cb rfl (z7v rfl hr.hd) rfl T.n_all PyProof.Rows.Boot.«all» (s1 (se_comp (own:=["part"]) (frees:=["high"]) (ix:=[3]) rfl rfl (z1z.sc (by kernel_rfl)) (si_seq rfl (sv 0)) (fun _ _ _ _ _ _ _=>(sg_name (z1g (i:=0) (show List.Nodup (["part", "high"]:List Str) by decide+kernel) rfl (Or.inl rfl)))) (fun _ _ _ _ _ _ _=>sts_nil) (fun _ _ _ _ _ _ _=>(scl T.x_p_is_whole (z49 T) hr (s3 (sv 0) (sc0 z00) (sv 1))))))))))
noncomputable def z0Q:MS:=(seqS (sIf (mOr (mNot (z0D (mIsi "tuple" (mVar 0)))) (mBoo (mBin (mCB [(mVar 0)] lenD) (mC (.int 3)) neD))) (sRet (mC (.bool false))) sNx)
 (seqS (sAsg (.tp [(.nm 1),(.nm 2),(.nm 3)]) (mVar 0))
 (seqS (sIf (mOr (mNot (z0D (z06 z0X [(mVar 1),(mC (.int 1)),(mC (.int 4)),(mC (.int 25))]))) (mNot (z0D (z06 z0X [(mVar 2),(mC (.int 0)),(mC (.int 3)),(mC (.int 39))])))) (sRet (mC (.bool false))) sNx)
 (sRet (z06 z0X [(mVar 3),(mC (.int 0)),(mBin (mCB [(mVar 1)] lenD) (mC (.int 1)) subD),(mC (.int 25))])))))
noncomputable def z0o:FM:=runF 4 z0Q
theorem z2n(T:Wd K mg):FnOk P w K mg base CX0 4 T.x_p_is_table_row.f T.x_p_is_table_row.d z0P (spM (G0 K) 1 z0o):=okM z0Q T.x_p_is_table_row.F z0v fun cdv A outer s H E F hr=>by
 have h64:=hr.units
 exact(ss_cons (ss_if (SW.sb (sw_or (sb_not (sb_truth rfl (se_isi rfl (by decide) rfl T.n_isinstance (sv 0) (z0A (v:= .ty "tuple") rfl T.n_tuple PyProof.Rows.Boot.«tuple» rfl)))) (sw_or1 (sb_cmp (zaF rfl h64) (sln T.n_len (s1 (sv 0))) (sc0 z00) (z0x _))))) (ss_one (ss_ret (sc0 z1A))) ss_nil)
 (ss_cons (ss_asg (sv 0) (sg_tup rfl rfl (sgs_cons (sgn 1 z0v.nd) (sgs_cons (sgn 2 z0v.nd) (sgs_cons (sgn 3 z0v.nd) sgs_nil)))))
 (ss_cons (ss_if (SW.sb (sw_or (sb_not (sb_truth rfl (scl T.x_p_is_row (z1Z T) hr (s4 (sv 1) (sc0 z00) (sc0 z00) (se_c rfl (z3M (v:= .int 25) rfl T.c_LAST_KEY.choose_spec ⟨_,rfl⟩)))))) (sw_or1 (sb_not (sb_truth rfl (scl T.x_p_is_row (z1Z T) hr (s4 (sv 2) (sc0 z00) (sc0 z00) (se_c rfl (z3M (v:= .int 39) rfl T.c_LAST_SOUND.choose_spec ⟨_,rfl⟩))))))))) (ss_one (ss_ret (sc0 z1A))) ss_nil)
 (ss_one (ss_ret (scl T.x_p_is_row (z1Z T) hr (s4 (sv 3) (sc0 z00) (se_sub rfl (sln T.n_len (s1 (sv 1))) (sc0 z00)) (se_c rfl (z3M (v:= .int 25) rfl T.c_LAST_KEY.choose_spec ⟨_,rfl⟩)))))))))
noncomputable def z1P:MS:=(seqS (sIf (mOr (mNot (z0D (mIsi "list" (mVar 0)))) (mBoo (mBin (mCB [(mVar 0)] lenD) (mC (.int 40)) gtD))) (sRet (mC (.bool false))) sNx)
 (seqS (sIf (mNot (z0D (mCB [(z0s (z1h (mVar 0)) (.nm 0) (rt true) (z06 z0o [(mVar 0)]) 1 [])] allD))) (sRet (mC (.bool false))) sNx)
 (sRet (mBin (z5m (z1h (mVar 0)) (.nm 0) (rt true) (mBin (mVar 0) (mC (.int 0)) ixD) 1 []) (mCB [(mVar 0)] lenD) eqD))))
noncomputable def z0M:FM:=runF 1 z1P
theorem z4a(T:Wd K mg):FnOk P w K mg base CX0 5 T.x_p_is_table.f T.x_p_is_table.d z1L (spM (G0 K) 1 z0M):=okM z1P T.x_p_is_table.F z47 fun cdv A outer s H E F hr=>by
 have h64:=hr.units
 exact(ss_cons (ss_if (SW.sb (sw_or (sb_not (sb_truth rfl (se_isi rfl (by decide) rfl T.n_isinstance (sv 0) (z0A (v:= .ty "list") rfl T.n_list PyProof.Rows.Boot.«list» rfl)))) (sw_or1 (sb_cmp z7u (sln T.n_len (s1 (sv 0))) (se_c rfl (z3M (v:= .int 40) rfl T.c_MOST_ROWS.choose_spec ⟨_,rfl⟩)) (z0x _))))) (ss_one (ss_ret (sc0 z1A))) ss_nil)
 (ss_cons (ss_if (sb_not (sb_truth rfl (se_cb rfl (z7v rfl hr.hd) rfl T.n_all PyProof.Rows.Boot.«all» (s1 (se_comp (own:=["row"]) (frees:=[]) (ix:=[]) rfl rfl (z1z.sc (by kernel_rfl)) (si_seq rfl (sv 0)) (fun _ _ _ _ _ _ _=>(sg_name (z1g (i:=0) (show List.Nodup (["row"]:List Str) by decide+kernel) rfl (Or.inl rfl)))) (fun _ _ _ _ _ _ _=>sts_nil) (fun _ _ _ _ _ _ _=>(scl T.x_p_is_table_row (z2n T) hr (s1 (sv 0))))))))) (ss_one (ss_ret (sc0 z1A))) ss_nil)
 (ss_one (ss_ret (se_cmp (z3W rfl h64) (se_lenset (own:=["row"]) (frees:=[]) (ix:=[]) rfl T.n_len (Nat.lt_of_le_of_lt (Nat.add_le_add_left (by decide:2<=64) _) h64) rfl (z1z.sc (by kernel_rfl)) (si_seq rfl (sv 0)) (fun _ _ _ _ _ _ _=>(sg_name (z1g (i:=0) (show List.Nodup (["row"]:List Str) by decide+kernel) rfl (Or.inl rfl)))) (fun _ _ _ _ _ _ _=>sts_nil) (fun _ _ _ _ _ _ _=>(sxc (sv 0) z00))) (sln T.n_len (s1 (sv 0))) (z0x _))))))
noncomputable def z5s:MS:=(seqS (sAsg (.nm 2) (mC (.int 0)))
 (seqS (sIf (mBoo (mBin (mVar 1) (mCB [(mVar 0)] lenD) ltD)) (sAsg (.nm 2) (mCB [(mBin (mVar 0) (mVar 1) ixD)] absD)) sNx)
 (seqS (sAsg (.nm 3) (mBin (mBin (mBin (mBin (mBin (mVar 2) (mC (.int 2147483629)) modD) (mBin (mC (.int 104729)) (mVar 1) mulD) addD) (mC (.int 17)) addD) (mC (.int 5)) powD) (mC (.int 2147483647)) modD))
 (seqS (sFor (z0B [(mCB [(mCB [(mVar 0)] lenD),(mC (.int 60))] minD)]) (.nm 4) (sAsg (.nm 3) (mBin (mBin (mBin (mBin (mVar 3) (mC (.int 48271)) mulD) (mBin (mBin (mBin (mVar 0) (mVar 4) ixD) (mC (.int 2147483587)) modD) (mBin (mVar 4) (mC (.int 3)) addD) mulD) addD) (mVar 4) addD) (mC (.int 2147483629)) modD)))
 (seqS (sIf (mBoo (mBin (mVar 2) (mBin (mC (.int 10)) (mC (.int 18)) powD) ltD)) (sAsg (.nm 2) (mC (.int 0))) sNx)
 (sRet (mCB [(mVar 2),(mVar 3)] lstM)))))))
noncomputable def z35:FM:=runF 5 z5s
theorem z9j(T:Wd K mg):FnOk P w K mg base CX0 1 T.x_l_bag.f T.x_l_bag.d z5p (spM (G0 K) 2 z35):=okM z5s T.x_l_bag.F z1s fun cdv A outer s H E F hr=>(ss_cons (sst 2 z1s.nd (sc0 z00))
 (ss_cons (ss_if (sb_cmp zaE (sv 1) (sln T.n_len (s1 (sv 0))) (z0x _)) (ss_one (sst 2 z1s.nd (se_cb rfl zcI rfl T.n_abs PyProof.Rows.Boot.«abs» (s1 (sxx (sv 0) (sv 1)))))) ss_nil)
 (ss_cons (sst 3 z1s.nd (se_mod rfl (se_pow rfl (se_add rfl (se_add rfl (se_mod rfl (sv 2) (sc0 z00)) (se_mul rfl (sc0 z00) (sv 1))) (sc0 z00)) (sc0 z00)) (sc0 z00)))
 (ss_cons (ss_for PassesOwn.never rfl (si_rng1 rfl T.n_range (s1 (se_cb rfl (z9L rfl) rfl T.n_min PyProof.Rows.Boot.«min» (s2 (sln T.n_len (s1 (sv 0))) (sc0 z00))))) (sgn 4 z1s.nd) (ss_one (sst 3 z1s.nd (se_mod rfl (se_add rfl (se_add rfl (se_mul rfl (sv 3) (sc0 z00)) (se_mul rfl (se_mod rfl (sxx (sv 0) (sv 4)) (sc0 z00)) (se_add rfl (sv 4) (sc0 z00)))) (sv 4)) (sc0 z00)))))
 (ss_cons (ss_if (sb_cmp zaE (sv 2) (se_pow rfl (sc0 z00) (sc0 z00)) (z0x _)) (ss_one (sst 2 z1s.nd (sc0 z00))) ss_nil)
 (ss_one (ss_ret (se_lst rfl (s2 (sv 2) (sv 3))))))))))
noncomputable def z4b:MS:=(seqS (sIf (mBoo (mBin (mBin (mVar 0) (mC (.int 0)) ixD) (mC (.int 0)) gtD)) (seqS (sAsg (.nm 2) (mBin (mBin (mVar 0) (mC (.int 0)) ixD) (mVar 1) modD))
 (seqS (mTri (mBin (mBin (mVar 0) (mC (.int 0)) ixD) (mVar 1) z25) (mVar 0) (mC (.int 0)) setD)
 (sRet (mVar 2)))) sNx)
 (seqS (mTri (mBin (mBin (mBin (mBin (mVar 0) (mC (.int 1)) ixD) (mC (.int 48271)) mulD) (mC (.int 7919)) addD) (mC (.int 2147483647)) modD) (mVar 0) (mC (.int 1)) setD)
 (sRet (mBin (mBin (mBin (mBin (mBin (mBin (mBin (mVar 0) (mC (.int 1)) ixD) (mC (.int 3)) powD) (mC (.int 2147483587)) modD) (mC (.int 7)) z25) (mC (.int 69621)) mulD) (mC (.int 1073741789)) modD) (mVar 1) modD))))
noncomputable def z02:FM:=runF 3 z4b
theorem z0f(T:Wd K mg):FnOk P w K mg base CX0 1 T.x_l_take.f T.x_l_take.d z45 (spM (G0 K) 2 z02):=okM z4b T.x_l_take.F z4S fun cdv A outer s H E F hr=>(ss_cons (ss_if (sb_cmp z7u (sxc (sv 0) z00) (sc0 z00) (z0x _)) (ss_cons (sst 2 z4S.nd (se_mod rfl (sxc (sv 0) z00) (sv 1)))
 (ss_cons (ss_setI (se_fdiv rfl (sxc (sv 0) z00) (sv 1)) (sv 0) (sc0 z00) (fun{to ti} h1 h2=>z6N h1 h2 z3P))
 (ss_one (ss_ret (sv 2))))) ss_nil)
 (ss_cons (ss_setI (se_mod rfl (se_add rfl (se_mul rfl (sxc (sv 0) z00) (sc0 z00)) (sc0 z00)) (sc0 z00)) (sv 0) (sc0 z00) (fun{to ti} h1 h2=>z6N h1 h2 z3P))
 (ss_one (ss_ret (se_mod rfl (se_mod rfl (se_mul rfl (se_fdiv rfl (se_mod rfl (se_pow rfl (sxc (sv 0) z00) (sc0 z00)) (sc0 z00)) (sc0 z00)) (sc0 z00)) (sc0 z00)) (sv 1))))))
noncomputable def z36:MS:=(seqS (sAsg (.nm 1) (mBin (z06 z02 [(mVar 0),(mC (.int 8))]) (mC (.int 7)) z25))
 (seqS (sAsg (.nm 2) (mBin (mCB [(mBin (mC (.int 1)) (z06 z02 [(mVar 0),(mC (.int 4))]) addD),(mC (.int 26))] lstM) (mVar 1) ixD))
 (seqS (sAsg (.nm 3) (z06 z02 [(mVar 0),(mC (.int 26))]))
 (seqS (sAsg (.nm 4) (mBin (mCB [(mC (.int 3)),(mC (.int 40))] lstM) (z06 z02 [(mVar 0),(mC (.int 2))]) ixD))
 (seqS (sAsg (.nm 5) z7C)
 (seqS (sIf (mBoo (mBin (z06 z02 [(mVar 0),(mC (.int 2))]) (mC (.int 0)) eqD)) (sFor (z0B [(mVar 2)]) (.nm 6) (mTri (mCB [(mCB [(z06 z02 [(mVar 0),(mVar 4)])] tupD),(mCB [] tupD)] tupD) (mVar 5) (mCB [(mBin (mBin (mVar 3) (mVar 6) addD) (mC (.int 26)) modD)] tupD) z3q)) sNx)
 (seqS (sFor (z0B [(mBin (mCB [(z06 z02 [(mVar 0),(mC (.int 8))]),(mC (.int 40))] lstM) (mVar 1) ixD)]) (.nm 7) (seqS (sAsg (.nm 8) (mCB [(z0s (z0B [(mBin (mC (.int 1)) (z06 z02 [(mVar 0),(mC (.int 4))]) addD)]) (.nm 0) (rt true) (mBin (mBin (mVar 1) (z06 z02 [(mVar 2),(mVar 3)]) addD) (mC (.int 26)) modD) 1 [3,0,2])] tupF))
 (seqS (sAsg (.nm 9) (mCB [(z0s (z0B [(z06 z02 [(mVar 0),(mC (.int 4))])]) (.nm 0) (rt true) (z06 z02 [(mVar 1),(mVar 2)]) 1 [0,4])] tupF))
 (seqS (sAsg (.nm 10) (mCB [(z0s (z0B [(z06 z02 [(mVar 0),(mCB [(mVar 8)] lenD)])]) (.nm 0) (rt true) (mBin (mBin (mVar 1) (z06 z02 [(mVar 2),(mVar 3)]) addD) (mC (.int 26)) modD) 1 [3,0,2])] tupF))
 (mTri (mCB [(mVar 9),(mVar 10)] tupD) (mVar 5) (mVar 8) z3q)))))
 (sRet (mSl (z0s (z3r (mVar 5)) (.nm 0) (rt true) (mBin (mCB [(mVar 0)] tupD) (mBin (mVar 1) (mVar 0) dgtD) addD) 1 [5]) none (some (mC (.int 40))))))))))))
noncomputable def z1Q:FM:=runF 11 z36
theorem z6v(T:Wd K mg):FnOk P w K mg base CX0 2 T.x_l_table.f T.x_l_table.d z33 (spM (G0 K) 1 z1Q):=okM z36 T.x_l_table.F z0m fun cdv A outer s H E F hr=>by
 have h64:=hr.units
 exact(ss_cons (sst 1 z0m.nd (se_fdiv rfl (scl T.x_l_take (z0f T) hr (s2 (sv 0) (sc0 z00))) (sc0 z00)))
 (ss_cons (ss_set (fun{te} h=>z3v (i:=2) z0m.nd rfl (Or.inr rfl) h) (sxx (se_lst rfl (s2 (se_add rfl (sc0 z00) (scl T.x_l_take (z0f T) hr (s2 (sv 0) (sc0 z00)))) (sc0 z00))) (sv 1)))
 (ss_cons (ss_set (fun{te} h=>z3v (i:=3) z0m.nd rfl (Or.inr rfl) h) (scl T.x_l_take (z0f T) hr (s2 (sv 0) (sc0 z00))))
 (ss_cons (ss_set (fun{te} h=>z3v (i:=4) z0m.nd rfl (Or.inr rfl) h) (sxx (se_lst rfl (s2 (sc0 z00) (sc0 z00))) (scl T.x_l_take (z0f T) hr (s2 (sv 0) (sc0 z00)))))
 (ss_cons (ss_set (fun{te} h=>z3v (i:=5) z0m.nd rfl (Or.inr rfl) h) (se_dnew rfl))
 (ss_cons (ss_if (sb_cmp (z3W rfl h64) (scl T.x_l_take (z0f T) hr (s2 (sv 0) (sc0 z00))) (sc0 z00) (z0x _)) (ss_one (ss_for PassesOwn.never rfl (si_rng1 rfl T.n_range (s1 (sv 2))) (sgn 6 z0m.nd) (ss_one (ss_dput h64 (se_tup rfl (s2 (se_tup rfl (s1 (scl T.x_l_take (z0f T) hr (s2 (sv 0) (sv 4))))) (se_tup rfl (sa_of rfl .nil)))) (sv 5) (se_tup rfl (s1 (se_mod rfl (se_add rfl (sv 3) (sv 6)) (sc0 z00)))))))) ss_nil)
 (ss_cons (ss_for PassesOwn.never rfl (si_rng1 rfl T.n_range (s1 (sxx (se_lst rfl (s2 (scl T.x_l_take (z0f T) hr (s2 (sv 0) (sc0 z00))) (sc0 z00))) (sv 1)))) (sgn 7 z0m.nd) (ss_cons (sst 8 z0m.nd (se_ct rfl (z27 rfl) rfl T.n_tuple PyProof.Rows.Boot.«tuple» (s1 (se_comp (own:=["_law_k"]) (frees:=["_law_first", "_law_bag_here", "_law_letters"]) (ix:=[3,0,2]) rfl rfl (z1z.sc (by kernel_rfl)) (si_rng1 rfl T.n_range (s1 (se_add rfl (sc0 z00) (scl T.x_l_take (z0f T) hr (s2 (sv 0) (sc0 z00)))))) (fun _ _ _ _ _ _ _=>(sg_name (z1g (i:=0) (show List.Nodup (["_law_k", "_law_first", "_law_bag_here", "_law_letters"]:List Str) by decide+kernel) rfl (Or.inl rfl)))) (fun _ _ _ _ _ _ _=>sts_nil) (fun _ _ _ _ _ _ _=>(se_mod rfl (se_add rfl (sv 1) (scl T.x_l_take (z0f T) hr (s2 (sv 2) (sv 3)))) (sc0 z00)))))))
 (ss_cons (sst 9 z0m.nd (se_ct rfl (z27 rfl) rfl T.n_tuple PyProof.Rows.Boot.«tuple» (s1 (se_comp (own:=["_law_k"]) (frees:=["_law_bag_here", "_law_top"]) (ix:=[0,4]) rfl rfl (z1z.sc (by kernel_rfl)) (si_rng1 rfl T.n_range (s1 (scl T.x_l_take (z0f T) hr (s2 (sv 0) (sc0 z00))))) (fun _ _ _ _ _ _ _=>(sg_name (z1g (i:=0) (show List.Nodup (["_law_k", "_law_bag_here", "_law_top"]:List Str) by decide+kernel) rfl (Or.inl rfl)))) (fun _ _ _ _ _ _ _=>sts_nil) (fun _ _ _ _ _ _ _=>(scl T.x_l_take (z0f T) hr (s2 (sv 1) (sv 2))))))))
 (ss_cons (sst 10 z0m.nd (se_ct rfl (z27 rfl) rfl T.n_tuple PyProof.Rows.Boot.«tuple» (s1 (se_comp (own:=["_law_k"]) (frees:=["_law_first", "_law_bag_here", "_law_letters"]) (ix:=[3,0,2]) rfl rfl (z1z.sc (by kernel_rfl)) (si_rng1 rfl T.n_range (s1 (scl T.x_l_take (z0f T) hr (s2 (sv 0) (sln T.n_len (s1 (sv 8))))))) (fun _ _ _ _ _ _ _=>(sg_name (z1g (i:=0) (show List.Nodup (["_law_k", "_law_first", "_law_bag_here", "_law_letters"]:List Str) by decide+kernel) rfl (Or.inl rfl)))) (fun _ _ _ _ _ _ _=>sts_nil) (fun _ _ _ _ _ _ _=>(se_mod rfl (se_add rfl (sv 1) (scl T.x_l_take (z0f T) hr (s2 (sv 2) (sv 3)))) (sc0 z00)))))))
 (ss_one (ss_dput h64 (se_tup rfl (s2 (sv 9) (sv 10))) (sv 5) (sv 8)))))))
 (ss_one (ss_ret (se_slice rfl (se_compD (own:=["_law_keys"]) (frees:=["_law_found"]) (ix:=[5]) rfl rfl (z1z.sc (by kernel_rfl)) (sv 5) (fun _ _ _ _ _ _ _=>(sg_name (z1g (i:=0) (show List.Nodup (["_law_keys", "_law_found"]:List Str) by decide+kernel) rfl (Or.inl rfl)))) (fun _ _ _ _ _ _ _=>sts_nil) (fun _ _ _ _ _ _ _=>(se_add rfl (se_tup rfl (s1 (sv 0))) (se_dgt rfl h64 (sv 1) (sv 0) (fun _ _=>rfl))))) so_none (so_some (sc0 z00))))))))))))
noncomputable def z37:MS:=(sRet (z3o (mIsi "int" (mVar 0)) (z6i (mIsi "bool" (mVar 0)))))
noncomputable def z19:FM:=runF 1 z37
theorem z3E(T:Wd K mg):FnOk P w K mg base CX0 1 T.x_l_whole.f T.x_l_whole.d z34 (spM (G0 K) 1 z19):=okM z37 T.x_l_whole.F z6u fun cdv A outer s H E F hr=>(ss_one (ss_ret (se_and (se_isi rfl (by decide) rfl T.n_isinstance (sv 0) (z0A (v:= .ty "int") rfl T.n_int PyProof.Rows.Boot.«int» rfl)) (se_one (se_not (se_isi rfl (by decide) rfl T.n_isinstance (sv 0) (z0A (v:= .ty "bool") rfl T.n_bool PyProof.Rows.Boot.«bool» rfl)))))))
noncomputable def z1a:MS:=(seqS (sIf (mOr (mNot (z0D (mIsi "tuple" (mVar 0)))) (mOr (mBoo (mBin (mCB [(mVar 0)] lenD) (mVar 1) ltD)) (mBoo (mBin (mCB [(mVar 0)] lenD) (mVar 2) gtD)))) (sRet (mC (.bool false))) sNx)
 (sRet (mCB [(z0s (z1h (mVar 0)) (.nm 0) (rt true) (z3o (z06 z19 [(mVar 0)]) (z1k (mC (.int 0)) (mVar 0) (mVar 1) leD leD)) 1 [3])] allD)))
noncomputable def z0d:FM:=runF 4 z1a
theorem z0R(T:Wd K mg):FnOk P w K mg base CX0 2 T.x_l_are_numbers.f T.x_l_are_numbers.d z18 (spM (G0 K) 4 z0d):=okM z1a T.x_l_are_numbers.F z2C fun cdv A outer s H E F hr=>(ss_cons (ss_if (SW.sb (sw_or (sb_not (sb_truth rfl (se_isi rfl (by decide) rfl T.n_isinstance (sv 0) (z0A (v:= .ty "tuple") rfl T.n_tuple PyProof.Rows.Boot.«tuple» rfl)))) (sw_or (sb_cmp zaE (sln T.n_len (s1 (sv 0))) (sv 1) (z0x _)) (sw_or1 (sb_cmp z7u (sln T.n_len (s1 (sv 0))) (sv 2) (z0x _)))))) (ss_one (ss_ret (sc0 z1A))) ss_nil)
 (ss_one (ss_ret (se_cb rfl (z7v rfl hr.hd) rfl T.n_all PyProof.Rows.Boot.«all» (s1 (se_comp (own:=["_law_one"]) (frees:=["_law_most"]) (ix:=[3]) rfl rfl (z1z.sc (by kernel_rfl)) (si_seq rfl (sv 0)) (fun _ _ _ _ _ _ _=>(sg_name (z1g (i:=0) (show List.Nodup (["_law_one", "_law_most"]:List Str) by decide+kernel) rfl (Or.inl rfl)))) (fun _ _ _ _ _ _ _=>sts_nil) (fun _ _ _ _ _ _ _=>(se_and (scl T.x_l_whole (z3E T) hr (s1 (sv 0))) (se_one (se_cmp2 z6o z6o (sc0 z00) (sv 0) (sv 1)))))))))))
noncomputable def z1R:MS:=(seqS (sIf (mOr (mNot (z0D (mIsi "list" (mVar 0)))) (mBoo (mBin (mCB [(mVar 0)] lenD) (mC (.int 40)) gtD))) (sRet (mC (.bool false))) sNx)
 (seqS (sAsg (.nm 1) (mCB [] lstM))
 (seqS (sFor (z1h (mVar 0)) (.nm 2) (seqS (sIf (mOr (mNot (z0D (mIsi "tuple" (mVar 2)))) (mOr (mBoo (mBin (mCB [(mVar 2)] lenD) (mC (.int 3)) neD)) (mNot (z0D (z06 z0d [(mBin (mVar 2) (mC (.int 0)) ixD),(mC (.int 1)),(mC (.int 4)),(mC (.int 25))]))))) (sRet (mC (.bool false))) sNx)
 (seqS (sIf (mOr (mNot (z0D (z06 z0d [(mBin (mVar 2) (mC (.int 1)) ixD),(mC (.int 0)),(mC (.int 3)),(mC (.int 39))]))) (mNot (z0D (z06 z0d [(mBin (mVar 2) (mC (.int 2)) ixD),(mC (.int 0)),(mBin (mCB [(mBin (mVar 2) (mC (.int 0)) ixD)] lenD) (mC (.int 1)) subD),(mC (.int 25))])))) (sRet (mC (.bool false))) sNx)
 (seqS (sIf (mBoo (mBin (mBin (mVar 2) (mC (.int 0)) ixD) (mVar 1) inD)) (sRet (mC (.bool false))) sNx)
 (z5a (z3V (mVar 1) [(mBin (mVar 2) (mC (.int 0)) ixD)] appD))))))
 (sRet (mC (.bool true))))))
noncomputable def z0t:FM:=runF 3 z1R
theorem z2c(T:Wd K mg):FnOk P w K mg base CX0 3 T.x_l_is_table.f T.x_l_is_table.d z1N (spM (G0 K) 1 z0t):=okM z1R T.x_l_is_table.F z1t fun cdv A outer s H E F hr=>by
 have h64:=hr.units
 exact(ss_cons (ss_if (SW.sb (sw_or (sb_not (sb_truth rfl (se_isi rfl (by decide) rfl T.n_isinstance (sv 0) (z0A (v:= .ty "list") rfl T.n_list PyProof.Rows.Boot.«list» rfl)))) (sw_or1 (sb_cmp z7u (sln T.n_len (s1 (sv 0))) (sc0 z00) (z0x _))))) (ss_one (ss_ret (sc0 z1A))) ss_nil)
 (ss_cons (sst 1 z1t.nd (se_lst rfl (sa_of rfl .nil)))
 (ss_cons (ss_for PassesOwn.never rfl (si_seq rfl (sv 0)) (sgn 2 z1t.nd) (ss_cons (ss_if (SW.sb (sw_or (sb_not (sb_truth rfl (se_isi rfl (by decide) rfl T.n_isinstance (sv 2) (z0A (v:= .ty "tuple") rfl T.n_tuple PyProof.Rows.Boot.«tuple» rfl)))) (sw_or (sb_cmp (zaF rfl h64) (sln T.n_len (s1 (sv 2))) (sc0 z00) (z0x _)) (sw_or1 (sb_not (sb_truth rfl (scl T.x_l_are_numbers (z0R T) hr (s4 (sxc (sv 2) z00) (sc0 z00) (sc0 z00) (sc0 z00))))))))) (ss_one (ss_ret (sc0 z1A))) ss_nil)
 (ss_cons (ss_if (SW.sb (sw_or (sb_not (sb_truth rfl (scl T.x_l_are_numbers (z0R T) hr (s4 (sxc (sv 2) z00) (sc0 z00) (sc0 z00) (sc0 z00))))) (sw_or1 (sb_not (sb_truth rfl (scl T.x_l_are_numbers (z0R T) hr (s4 (sxc (sv 2) z00) (sc0 z00) (se_sub rfl (sln T.n_len (s1 (sxc (sv 2) z00))) (sc0 z00)) (sc0 z00)))))))) (ss_one (ss_ret (sc0 z1A))) ss_nil)
 (ss_cons (ss_if (sb_cmp (zeB rfl h64) (sxc (sv 2) z00) (sv 1) (by with_unfolding_all rfl)) (ss_one (ss_ret (sc0 z1A))) ss_nil)
 (ss_one (ss_expr (se_cl rfl PySem.F.slot_list_append PySem.F.type_list_append z4D (sv 1) (s1 (sxc (sv 2) z00)))))))))
 (ss_one (ss_ret (sc0 z1A))))))
noncomputable def z5t:MS:=(seqS (sAsg (.nm 2) (z06 z02 [(mVar 0),(mC (.int 20))]))
 (seqS (sIf (mAnd (z0D (z06 z19 [(mVar 1)])) (mBoo (mBin (mVar 2) (mC (.int 11)) gtD))) (sRet (mBin (mCB [(mBin (mVar 1) (mC (.int 1)) addD),(mBin (mVar 1) (mC (.int 1)) subD)] lstM) (mBin (mVar 2) (mC (.int 2)) modD) ixD)) sNx)
 (seqS (sAsg (.nm 3) (mCB [(mC .non),(mC (.bool true)),(mC (.bool false)),(bd (mC (.int 1)) negD),(mC (.int 26)),(mC (.int 25)),(mC (.int 40)),(mC (.int 39)),(mC (.int 0)),(mC (.str ("1" :Str))),(mCB [] tupD),(mCB [] lstM),(mCB [(mC (.int 0))] tupD),(mCB [(mC (.int 0))] lstM),(mCB [(mC (.int 0)),(mC (.int 0)),(mC (.int 0)),(mC (.int 0))] tupD),(mCB [(mC (.int 0)),(mC (.int 0)),(mC (.int 0)),(mC (.int 0)),(mC (.int 0))] tupD),(mBin (mC (.int 10)) (mC (.int 59)) powD)] lstM))
 (sRet (mBin (mBin (mVar 3) (mCB [(mCB [(mC (.bool true))] tupD),(mCB [(mCB [(mC (.int 0))] tupD),(mCB [(mC (.int 0))] tupD),(mCB [] tupD)] tupD),(mC (.str ("keys" :Str)))] lstM) addD) (mVar 2) ixD)))))
noncomputable def z38:FM:=runF 4 z5t
theorem z9k(T:Wd K mg):FnOk P w K mg base CX0 2 T.x_l_odd.f T.x_l_odd.d z5q (spM (G0 K) 2 z38):=okM z5t T.x_l_odd.F z48 fun cdv A outer s H E F hr=>(ss_cons (sst 2 z48.nd (scl T.x_l_take (z0f T) hr (s2 (sv 0) (sc0 z00))))
 (ss_cons (ss_if (SW.sb (sw_and (sb_truth rfl (scl T.x_l_whole (z3E T) hr (s1 (sv 1)))) (sw_and1 (sb_cmp z7u (sv 2) (sc0 z00) (z0x _))))) (ss_one (ss_ret (sxx (se_lst rfl (s2 (se_add rfl (sv 1) (sc0 z00)) (se_sub rfl (sv 1) (sc0 z00)))) (se_mod rfl (sv 2) (sc0 z00))))) ss_nil)
 (ss_cons (ss_setN (i:=3) z48.nd rfl (Or.inl rfl) (Or.inl rfl) (se_lst rfl (sa_of rfl (.cons (sc0 z9F) rfl (.cons (sc0 z1A) rfl (.cons (sc0 z1A) rfl (.cons (se_neg rfl (sc0 z00)) rfl (.cons (sc0 z00) rfl (.cons (sc0 z00) rfl (.cons (sc0 z00) rfl (.cons (sc0 z00) rfl (.cons (sc0 z00) rfl (.cons (sc0 z6L) rfl (.cons (se_tup rfl (sa_of rfl .nil)) rfl (.cons (se_lst rfl (sa_of rfl .nil)) rfl (.cons (se_tup rfl (s1 (sc0 z00))) rfl (.cons (se_lst rfl (s1 (sc0 z00))) rfl (.cons (se_tup rfl (s4 (sc0 z00) (sc0 z00) (sc0 z00) (sc0 z00))) rfl (.cons (se_tup rfl (sa_of rfl (.cons (sc0 z00) rfl (.cons (sc0 z00) rfl (.cons (sc0 z00) rfl (.cons (sc0 z00) rfl (.cons (sc0 z00) rfl .nil))))))) rfl (.cons (se_pow rfl (sc0 z00) (sc0 z00)) rfl .nil))))))))))))))))))))
 (ss_one (ss_ret (sxx (se_add rfl (sv 3) (se_lst rfl (s3 (se_tup rfl (s1 (sc0 z1A))) (se_tup rfl (s3 (se_tup rfl (s1 (sc0 z00))) (se_tup rfl (s1 (sc0 z00))) (se_tup rfl (sa_of rfl .nil)))) (sc0 z6L)))) (sv 2)))))))
noncomputable def z1V(self:FM):MS:=(seqS (sAsg (.nm 2) (z06 z02 [(mVar 0),(mC (.int 9))]))
 (seqS (sIf (mOr (mNot (z0D (z7z ["list", "tuple"] (mVar 1)))) (mOr (mBoo (mBin (mCB [(mVar 1)] lenD) (mC (.int 0)) eqD)) (mBoo (mBin (mVar 2) (mC (.int 0)) eqD)))) (sRet (z06 z38 [(mVar 0),(mVar 1)])) sNx)
 (seqS (sAsg (.nm 3) (z06 z02 [(mVar 0),(mCB [(mVar 1)] lenD)]))
 (seqS (sAsg (.nm 4) (mCB [(mVar 1)] z6k))
 (seqS (sIf (mBoo (mBin (mVar 2) (mC (.int 1)) eqD)) (sAsg (.nm 4) (mBin (mSl (mVar 4) none (some (mVar 3))) (mSl (mVar 4) (some (mBin (mVar 3) (mC (.int 1)) addD)) none) addD)) (sIf (mBoo (mBin (mVar 2) (mC (.int 2)) eqD)) (sAsg (.nm 4) (mBin (mBin (mSl (mVar 4) none (some (mVar 3))) (mCB [(mBin (mVar 4) (mVar 3) ixD)] lstM) addD) (mSl (mVar 4) (some (mVar 3)) none) addD)) (sIf (mBoo (mBin (mVar 2) (mC (.int 3)) eqD)) (sAsg (.nm 4) (bd (mVar 4) rvsD)) (sIf (mBoo (mBin (mVar 2) (mC (.int 4)) eqD)) (sRet (mBin (mCB [(mCB [(mVar 1)] z6k),(mCB [(mVar 1)] tupF)] lstM) (mCB [(mIsi "list" (mVar 1))] intD) ixD)) (mTri (z06 self [(mVar 0),(mBin (mVar 4) (mVar 3) ixD)]) (mVar 4) (mVar 3) setD)))))
 (seqS (sIf (z0D (mIsi "list" (mVar 1))) (sRet (mVar 4)) sNx)
 (sRet (mCB [(mVar 4)] tupF))))))))
noncomputable def z0Y:Nat->FM
 |0=>fun _ _=> .no
 |k+1=>runF 5 (z1V (z0Y k))
theorem z39(T:Wd K mg): ∀k,FnOk P w K mg base CX0 (3+k) T.x_l_spoilt.f T.x_l_spoilt.d ["_law_bag_here", "_law_thing"] (spM (G0 K) 2 (z0Y k))
 |0=>zaG
 |k+1=>by
  have ih:=z39 T k
  have h:FnOk P w K mg base CX0 (3+k+1) T.x_l_spoilt.f T.x_l_spoilt.d ["_law_bag_here", "_law_thing"] (spM (G0 K) (List.length (["_law_bag_here", "_law_thing"]:List Str)) (runF (List.length (["_law_bag_here", "_law_thing", "_law_way", "_law_at", "_law_parts"]:List Str)) (z1V (z0Y k)))):=fn_M T.x_l_spoilt.F z0C rfl fun cdv A outer s H E F hr=>by
   have h64:=hr.units
   exact(ss_cons (sst 2 z0C.nd (scl T.x_l_take (z0f T) hr (s2 (sv 0) (sc0 z00))))
 (ss_cons (ss_if (SW.sb (sw_or (sb_not (sb_truth rfl (se_isiT rfl (by decide) (by decide) rfl T.n_isinstance (sv 1) (z9c (z1X (z0A (v:= .ty "list") rfl T.n_list PyProof.Rows.Boot.«list» rfl) (z1X (z0A (v:= .ty "tuple") rfl T.n_tuple PyProof.Rows.Boot.«tuple» rfl) z5z)) (fun _ _ _ q=>q) (by decide))))) (sw_or (sb_cmp (z3W rfl h64) (sln T.n_len (s1 (sv 1))) (sc0 z00) (z0x _)) (sw_or1 (sb_cmp (z3W rfl h64) (sv 2) (sc0 z00) (z0x _)))))) (ss_one (ss_ret (scl T.x_l_odd (z9k T) hr (s2 (sv 0) (sv 1))))) ss_nil)
 (ss_cons (sst 3 z0C.nd (scl T.x_l_take (z0f T) hr (s2 (sv 0) (sln T.n_len (s1 (sv 1))))))
 (ss_cons (sst 4 z0C.nd (se_ct rfl (z7w rfl) rfl T.n_list PyProof.Rows.Boot.«list» (s1 (sv 1))))
 (ss_cons (ss_if (sb_cmp (z3W rfl h64) (sv 2) (sc0 z00) (z0x _)) (ss_one (sst 4 z0C.nd (se_add rfl (se_slice rfl (sv 4) so_none (so_some (sv 3))) (se_slice rfl (sv 4) (so_some (se_add rfl (sv 3) (sc0 z00))) so_none)))) (ss_one (ss_if (sb_cmp (z3W rfl h64) (sv 2) (sc0 z00) (z0x _)) (ss_one (sst 4 z0C.nd (se_add rfl (se_add rfl (se_slice rfl (sv 4) so_none (so_some (sv 3))) (se_lst rfl (s1 (sxx (sv 4) (sv 3))))) (se_slice rfl (sv 4) (so_some (sv 3)) so_none)))) (ss_one (ss_if (sb_cmp (z3W rfl h64) (sv 2) (sc0 z00) (z0x _)) (ss_one (sst 4 z0C.nd (se_rev rfl (z6Y (zbS z9H z00)) (sv 4)))) (ss_one (ss_if (sb_cmp (z3W rfl h64) (sv 2) (sc0 z00) (z0x _)) (ss_one (ss_ret (sxx (se_lst rfl (s2 (se_ct rfl (z7w rfl) rfl T.n_list PyProof.Rows.Boot.«list» (s1 (sv 1))) (se_ct rfl (z27 rfl) rfl T.n_tuple PyProof.Rows.Boot.«tuple» (s1 (sv 1))))) (se_ct rfl z9M rfl T.n_int PyProof.Rows.Boot.«int» (s1 (se_isi rfl (by decide) rfl T.n_isinstance (sv 1) (z0A (v:= .ty "list") rfl T.n_list PyProof.Rows.Boot.«list» rfl))))))) (ss_one (ss_setI (se_call rfl ih hr rfl T.x_l_spoilt.m T.x_l_spoilt.F.kp T.x_l_spoilt.b zan (s2 (sv 0) (sxx (sv 4) (sv 3))) rfl) (sv 4) (sv 3) (fun{to ti} h1 h2=>z6N h1 h2 z3P))))))))))
 (ss_cons (ss_if (sb_truth rfl (se_isi rfl (by decide) rfl T.n_isinstance (sv 1) (z0A (v:= .ty "list") rfl T.n_list PyProof.Rows.Boot.«list» rfl))) (ss_one (ss_ret (sv 4))) ss_nil)
 (ss_one (ss_ret (se_ct rfl (z27 rfl) rfl T.n_tuple PyProof.Rows.Boot.«tuple» (s1 (sv 4)))))))))))
  exact h
noncomputable def zb2:MS:=(seqS (sAsg (.nm 1) (z0s (z0B [(mC (.int 40))]) (.nm 0) (rt true) (mCB [(mCB [(mBin (mVar 0) (mC (.int 26)) modD),(mBin (mVar 0) (mC (.int 26)) z25)] tupD),(mCB [] tupD),(mCB [] tupD)] tupD) 1 []))
 (seqS (sFor (z0B [(mCB [(mC (.int 1)),(mCB [(mC (.int 4)),(mCB [(mVar 0)] lenD)] minD)] maxD)]) (.nm 2) (seqS (sAsg (.nm 3) (z06 z35 [(mVar 0),(mVar 2)]))
 (seqS (sAsg (.nm 4) (mBin (mC (.int 1)) (z06 z02 [(mVar 3),(mC (.int 3))]) addD))
 (seqS (sAsg (.nm 5) (z06 z1Q [(mVar 3)]))
 (seqS (sAsg (.nm 6) (mCB [(mVar 5),(mVar 1),(mBin (mVar 1) (mCB [(mCB [(mCB [(mC (.int 25))] tupD),(mCB [(mC (.int 39))] tupD),(mCB [] tupD)] tupD)] lstM) addD),(mBin (mVar 5) (mSl (mVar 5) none (some (mC (.int 1)))) addD),(mC .non),(mCB [] tupD),(mCB [] lstM),(mCB [(mCB [] lstM)] lstM),(mCB [(mCB [] tupD)] lstM),(mC (.str ("x" :Str))),(mC (.int 7))] lstM))
 (seqS (sFor (z0B [(mC (.int 10))]) (.nm 7) (seqS (sAsg (.nm 8) (mBin (mCB [(mVar 5),(mVar 1)] lstM) (mCB [(mBin (mVar 7) (mC (.int 9)) eqD)] intD) ixD))
 (seqS (sFor (z0B [(mVar 4)]) (.nm 9) (sAsg (.nm 8) (z06 (z0Y 12) [(mVar 3),(mVar 8)])))
 (z5a (z3V (mVar 6) [(mVar 8)] appD)))))
 (seqS (sIf (mNot (z0D (z06 z0t [(mVar 5)]))) (sRet (mC (.bool false))) sNx)
 (sFor (z1h (mVar 6)) (.nm 8) (seqS (sAsg (.nm 10) (mCB [(mVar 8)] repA))
 (seqS (sAsg (.nm 11) (z06 z0M [(mVar 8)]))
 (sIf (mOr (mNot (z0D (mIsi "bool" (mVar 11)))) (mOr (mBoo (mBin (mVar 11) (z06 z0t [(mVar 8)]) neD)) (mBoo (mBin (mCB [(mVar 8)] repA) (mVar 10) neS)))) (sRet (mC (.bool false))) sNx)))))))))))
 (sRet (mC (.bool true)))))
noncomputable def f_law:FM:=runF 12 zb2
theorem zd2(T:Wd K mg):FnOk P w K mg base CX0 16 T.x_law.f T.x_law.d zb1 (spM (G0 K) 1 f_law):=okM zb2 T.x_law.F z1c fun cdv A outer s H E F hr=>by
 have h64:=hr.units
 exact(ss_cons (ss_comp (i:=1) (own:=["_law_k"]) (frees:=[]) (ix:=[]) rfl z1c.nd rfl (Or.inl rfl) (Or.inl rfl) rfl rfl (z1z.sc (by kernel_rfl)) (si_rng1 rfl T.n_range (s1 (sc0 z00))) (fun _ _ _ _ _ _ _=>(sg_name (z1g (i:=0) (show List.Nodup (["_law_k"]:List Str) by decide+kernel) rfl (Or.inl rfl)))) (fun _ _ _ _ _ _ _=>sts_nil) (fun _ _ _ _ _ _ _=>(se_tup rfl (s3 (se_tup rfl (s2 (se_mod rfl (sv 0) (sc0 z00)) (se_fdiv rfl (sv 0) (sc0 z00)))) (se_tup rfl (sa_of rfl .nil)) (se_tup rfl (sa_of rfl .nil))))))
 (ss_cons (ss_for PassesOwn.never rfl (si_rng1 rfl T.n_range (s1 (se_cb rfl (zcJ rfl) rfl T.n_max PyProof.Rows.Boot.«max» (s2 (sc0 z00) (se_cb rfl (z9L rfl) rfl T.n_min PyProof.Rows.Boot.«min» (s2 (sc0 z00) (sln T.n_len (s1 (sv 0))))))))) (sgn 2 z1c.nd) (ss_cons (sst 3 z1c.nd (scl T.x_l_bag (z9j T) hr (s2 (sv 0) (sv 2))))
 (ss_cons (sst 4 z1c.nd (se_add rfl (sc0 z00) (scl T.x_l_take (z0f T) hr (s2 (sv 3) (sc0 z00)))))
 (ss_cons (sst 5 z1c.nd (scl T.x_l_table (z6v T) hr (s1 (sv 3))))
 (ss_cons (ss_setN (i:=6) z1c.nd rfl (Or.inl rfl) (Or.inl rfl) (se_lst rfl (sa_of rfl (.cons (sv 5) rfl (.cons (sv 1) rfl (.cons (se_add rfl (sv 1) (se_lst rfl (s1 (se_tup rfl (s3 (se_tup rfl (s1 (sc0 z00))) (se_tup rfl (s1 (sc0 z00))) (se_tup rfl (sa_of rfl .nil))))))) rfl (.cons (se_add rfl (sv 5) (se_slice rfl (sv 5) so_none (so_some (sc0 z00)))) rfl (.cons (sc0 z9F) rfl (.cons (se_tup rfl (sa_of rfl .nil)) rfl (.cons (se_lst rfl (sa_of rfl .nil)) rfl (.cons (se_lst rfl (s1 (se_lst rfl (sa_of rfl .nil)))) rfl (.cons (se_lst rfl (s1 (se_tup rfl (sa_of rfl .nil)))) rfl (.cons (sc0 z6L) rfl (.cons (sc0 z00) rfl .nil))))))))))))))
 (ss_cons (ss_for PassesOwn.never rfl (si_rng1 rfl T.n_range (s1 (sc0 z00))) (sgn 7 z1c.nd) (ss_cons (sst 8 z1c.nd (sxx (se_lst rfl (s2 (sv 5) (sv 1))) (se_ct rfl z9M rfl T.n_int PyProof.Rows.Boot.«int» (s1 (se_cmp (z3W rfl h64) (sv 7) (sc0 z00) (z0x _))))))
 (ss_cons (ss_for PassesOwn.never rfl (si_rng1 rfl T.n_range (s1 (sv 4))) (sgn 9 z1c.nd) (ss_one (sst 8 z1c.nd (se_call rfl ((z39 T 12).mono (by lia)) hr rfl T.x_l_spoilt.m T.x_l_spoilt.F.kp T.x_l_spoilt.b zan (s2 (sv 3) (sv 8)) rfl))))
 (ss_one (ss_expr (se_cl rfl PySem.F.slot_list_append PySem.F.type_list_append z4D (sv 6) (s1 (sv 8))))))))
 (ss_cons (ss_if (sb_not (sb_truth rfl (scl T.x_l_is_table (z2c T) hr (s1 (sv 5))))) (ss_one (ss_ret (sc0 z1A))) ss_nil)
 (ss_one (ss_for PassesOwn.never rfl (si_seq rfl (sv 6)) (sgn 8 z1c.nd) (ss_cons (sst 10 z1c.nd (se_cb rfl (z7Y rfl hr.gd h64) rfl T.n_repr PyProof.Rows.Boot.«repr» (s1 (sv 8))))
 (ss_cons (sst 11 z1c.nd (scl T.x_p_is_table (z4a T) hr (s1 (sv 8))))
 (ss_one (ss_if (SW.sb (sw_or (sb_not (sb_truth rfl (se_isi rfl (by decide) rfl T.n_isinstance (sv 11) (z0A (v:= .ty "bool") rfl T.n_bool PyProof.Rows.Boot.«bool» rfl)))) (sw_or (sb_cmp (zaF rfl h64) (sv 11) (scl T.x_l_is_table (z2c T) hr (s1 (sv 8))) (z0x _)) (sw_or1 (sb_cmp zcU (se_cb rfl (z7Y rfl hr.gd h64) rfl T.n_repr PyProof.Rows.Boot.«repr» (s1 (sv 8))) (sv 10) (z0x _)))))) (ss_one (ss_ret (sc0 z1A))) ss_nil)))))))))))))
 (ss_one (ss_ret (sc0 z1A)))))
end
end My
namespace Mi
open PySem L2
theorem z0p{α:Type}(xs ys:List α)(k:Nat)(h:xs.length=k):(xs++ys).drop k=ys:=by subst h;simp
theorem z1d{α:Type}(xs ys:List α)(k:Nat)(h:xs.length=k):(xs++ys).take k=xs:=by subst h;simp
theorem z1v: ∀ds:List D,z0a (ds.map some)=some ds
 |[]=>rfl
 |d::ds=>by simp[z0a,z1v ds]
theorem z6w{me:M D}{g:D->D}{ds:List D}{fr σ0 tm0:List (Option D)}{ol:Nat}(hol:σ0.length=ol)(hz:ds.length<sizeLine)
 (hme: ∀d∈ds,∀tm n,∃n',n<=n'/\me ⟨some d::fr,tm,n⟩= .ok (g d) ⟨some d::fr,tm,n'⟩):
 ∀(f i:Nat) (o:Option D) (n:Nat),i+f=ds.length->∃n',n<=n'/\z0U kTup (.nm 0) (rt true) me ol f i i ⟨o::fr,(((ds.take i).map g).reverse.map some)++(σ0++(some (.tup ds)::tm0)),n⟩= .ok (.lst n' (ds.map g)) ⟨σ0,tm0,n'+1⟩:=by
 intro f
 induction f with
 |zero=>
  intro i o n hi
  have hi:i=ds.length:=by lia
  subst hi
  refine⟨n,Nat.le_refl _, ?_⟩
  have l1:(((ds.take ds.length).map g).reverse.map some).length=ds.length:=by simp
  unfold z0U
  have e1:(((((ds.take ds.length).map g).reverse.map some)++(σ0++(some (D.tup ds)::tm0))).drop (ds.length+ol))=some (D.tup ds)::tm0:=by
   rw[<-List.append_assoc];exact z0p _ _ _ (by simp[hol])
  simp only[e1,kTup,z93,List.getElem?_eq_none (Nat.le_refl ds.length)]
  rw[z1d _ _ _ l1]
  have e2:(((ds.take ds.length).map g).reverse.map some).reverse=(ds.map g).map some:=by simp
  rw[e2,z1v]
  simp only[Res.ok.injEq,true_and,Stt.mk.injEq,and_true]
  constructor
  ·rw[z0p _ _ _ l1,z1d _ _ _ hol]
  ·rw[<-List.append_assoc]
   have:(((((ds.take ds.length).map g).reverse.map some)++σ0)++(some (D.tup ds)::tm0)).drop (ds.length+ol+1)=((((((ds.take ds.length).map g).reverse.map some)++σ0)++(some (D.tup ds)::tm0)).drop (ds.length+ol)).drop 1:=by rw[List.drop_drop]
   rw[this,z0p _ _ _ (by simp[hol])]
   rfl
 |succ f ih=>
  intro i o n hi
  have hlt:i<ds.length:=by lia
  have l1:(((ds.take i).map g).reverse.map some).length=i:=by simp;lia
  unfold z0U
  have e1:(((((ds.take i).map g).reverse.map some)++(σ0++(some (D.tup ds)::tm0))).drop (i+ol))=some (D.tup ds)::tm0:=by
   rw[<-List.append_assoc];exact z0p _ _ _ (by simp[hol];lia)
  simp only[e1,kTup,z93,List.getElem?_eq_getElem hlt,asg,List.set_cons_zero,rt]
  rw[if_pos (by lia)]
  obtain⟨n1,hn1,h1⟩:=hme ds[i] (List.getElem_mem hlt) ((((ds.take i).map g).reverse.map some)++(σ0++(some (D.tup ds)::tm0))) n
  rw[h1]
  obtain⟨n2,hn2,h2⟩:=ih (i+1) (some ds[i]) n1 (by lia)
  refine⟨n2,by lia, ?_⟩
  rw[<-h2]
  simp only[Stt.psh]
  have e3:ds.take (i+1)=ds.take i++[ds[i]]:=by rw[List.take_add_one,List.getElem?_eq_getElem hlt];rfl
  rw[e3]
  simp only[List.map_append,List.map_cons,List.map_nil,List.reverse_append,List.reverse_cons,List.reverse_nil,List.nil_append,List.cons_append]
  rfl
theorem z4T{mc me:M D}{g:D->D}{ds:List D}{ix:List Nat}{s s1:Stt}(hc:mc s= .ok (.tup ds) s1)(hz:ds.length<sizeLine)
 (hme: ∀d∈ds,∀tm n,∃n',n<=n'/\me ⟨some d::(ix.map fun i=>(s1.σ[i]?).getD none),tm,n⟩= .ok (g d) ⟨some d::(ix.map fun i=>(s1.σ[i]?).getD none),tm,n'⟩):
 ∃n',s1.n<=n'/\z0s (z1h mc) (.nm 0) (rt true) me 1 ix s= .ok (.lst n' (ds.map g)) {s1 with n:=n'+1}:=by
 obtain⟨n',h1,h2⟩:=z6w (me:=me) (g:=g) (ds:=ds) (σ0:=s1.σ) (tm0:=s1.tm) rfl hz hme ds.length 0 none s1.n (by lia)
 refine⟨n',h1, ?_⟩
 unfold z0s z1h
 simp only[bd,hc,Stt.psh]
 simp only[List.take_zero,List.map_nil,List.reverse_nil,List.nil_append] at h2
 simp only[kTup,z7k,z2W,List.replicate] at h2⊢
 exact h2
theorem z3a(ds:List D)(g:D->Bool):z1E (ds.map fun d=> .bool (g d))=some (ds.map g):=by
 induction ds with
 |nil=>rfl
 |cons d ds ih=>simp[z1E,ih]
theorem z6x{t:D}{ts:List D}{n':Nat}{s:Stt}:z2A (.ok t ts n') ts s= .ok t {s with n:=n'}:=by
 unfold z2A;simp
end Mi
set_option maxHeartbeats 40000
namespace Mi
open PySem L2
class Kq{α:Type}(f:α):Type where
instance kq{α:Type}(f:α):Kq f:=⟨⟩
noncomputable def Res.bnd{α β:Type}(f:α->Stt->Res β)[Kq f](r:Res α):Res β:=match r with
 | .ok a s=>f a s
 | .ex d s=> .ex d s
 | .no=> .no
theorem z2d{α β:Type}{a:α}{s:Stt}{f:α->Stt->Res β}:((Res.ok a s).bnd f:Res β)=f a s:=(rfl)
noncomputable def Res.lf{α:Type}(f:α->MS)[Kq f](r:Res α):RS:=match r with
 | .ok a s=>f a s
 | .ex d s=> .ex d s
 | .no=> .no
theorem zb3{α:Type}{a:α}{s:Stt}{f:α->MS}:((Res.ok a s).lf f:RS)=f a s:=(rfl)
noncomputable def RS.sq(m:MS)[Kq m](r:RS):RS:=match r with
 | .nx s=>m s
 |r=>r
theorem zeL{s:Stt}{m:MS}:((RS.nx s).sq m:RS)=m s:=(rfl)
theorem zeM{d:D}{s:Stt}{m:MS}:((RS.rt d s).sq m:RS)= .rt d s:=(rfl)
noncomputable def RS.fin(r:RS):RF:=match r with
 | .nx s'=>match z0a s'.tm with|some ts'=> .ok .non ts' s'.n|none=> .no
 | .rt t s'=>match z0a s'.tm with|some ts'=> .ok t ts' s'.n|none=> .no
 | .ex d s'=>match z0a s'.tm with|some ts'=> .ex d ts' s'.n|none=> .no
 |_=> .no
noncomputable def finO(o:Option (List D))(t:D)(n:Nat):RF:=match o with|some ts=> .ok t ts n|none=> .no
theorem z80{ts:List D}{t:D}{n:Nat}:finO (some ts) t n= .ok t ts n:=(rfl)
theorem zeN{t:D}{σ tm:List (Option D)}{n:Nat}:(RS.rt t ⟨σ,tm,n⟩).fin=finO (z0a tm) t n:=(rfl)
theorem zeO{nl:Nat}{mb:MS}{ts:List D}{n:Nat}:runF nl mb ts n=(mb ⟨ts.map some++List.replicate (nl -ts.length) none,ts.map some,n⟩).fin:=(rfl)
section
variable{α β:Type}{m ma mb mc:M D}{s:Stt}{ms:List (M D)}{σ tm:List (Option D)}{n:Nat}
theorem x_bd{m:M α}{f:α->M β}:bd m f s=(m s).bnd f:=(rfl)
theorem x_rt{a:α}:rt a s= .ok a s:=(rfl)
theorem zd3{t:D}:Stt.psh ⟨σ,tm,n⟩ t=⟨σ,some t::tm,n⟩:=(rfl)
theorem zeP:Stt.nxt ⟨σ,tm,n⟩=⟨σ,tm,n+1⟩:=(rfl)
theorem zeQ{t:D}{r:List (Option D)}:pop ⟨σ,some t::r,n⟩= .ok t ⟨σ,r,n⟩:=(rfl)
noncomputable def vOf(o:Option (Option D))(s:Stt):Res D:=match o with
 |some (some t)=> .ok t s
 |_=> .no
theorem z9l{t:D}:vOf (some (some t)) s= .ok t s:=(rfl)
theorem zeR{i:Nat}:mVar i ⟨σ,tm,n⟩=vOf (σ[i]?) ⟨σ,tm,n⟩:=by
 unfold mVar vOf
 cases σ[i]? with
 |none=>rfl
 |some o=>cases o<;>rfl
theorem x_C{d:D}:mC d s= .ok d s:=(rfl)
theorem zb4{g:D->D->M D}:mBin ma mb g s=(ma s).bnd fun x s1=>(mb (s1.psh x)).bnd fun y s2=>(pop s2).bnd fun x' s3=>g x' y s3:=(rfl)
theorem zeS:mBoo m s=(m s).bnd booD:=(rfl)
theorem zd4{b:Bool}:booD (.bool b) s= .ok b s:=(rfl)
theorem zd5:z0D m s=(m s).bnd truD:=(rfl)
theorem x_tB{b:Bool}:truD (.bool b) s= .ok b s:=(rfl)
theorem zeT{m m':M Bool}:mAnd m m' s=(m s).bnd fun b=>iteM b m' (rt false):=(rfl)
theorem x_or{m m':M Bool}:mOr m m' s=(m s).bnd fun b=>iteM b (rt true) m':=(rfl)
theorem zeU{m:M Bool}:mNot m s=(m s).bnd fun b s1=> .ok (!b) s1:=(rfl)
theorem zd6{m m':M D}:z3o m m' s=(m s).bnd fun d s1=>(booD d s1).bnd fun b=>iteM b m' (rt (.bool false)):=by
 unfold z3o mBoo bd Res.bnd
 cases m s<;>rfl
theorem zd7{m:M D}:z6i m s=(m s).bnd fun d s1=>(booD d s1).bnd fun b=>rt (.bool (!b)):=by
 unfold z6i mBoo bd Res.bnd
 cases m s<;>rfl
theorem x_it{m m':M α}:iteM true m m' s=m s:=(rfl)
theorem x_if{m m':M α}:iteM false m m' s=m' s:=(rfl)
theorem zb5:z0c [] s= .ok [] s:=(rfl)
theorem z4c:z0c (m::ms) s=(m s).bnd fun x s1=>(z0c ms (s1.psh x)).bnd fun ys s2=>(pop s2).bnd fun x' s3=> .ok (x'::ys) s3:=(rfl)
theorem x_cb{g:List D->M D}:mCB ms g s=(z0c ms s).bnd g:=(rfl)
theorem zd8{f:FM}:z06 f ms s=(z0c ms s).bnd fun ts s1=>z2A (f ts s1.n) ts s1:=(rfl)
noncomputable def isiK(o:Option Bool)(s:Stt):Res D:=match o with
 |some b=> .ok (.bool b) s
 |none=> .no
theorem z81{b:Bool}:isiK (some b) s= .ok (.bool b) s:=(rfl)
theorem zeV{T:String}:mIsi T m s=(m s).bnd fun d s1=>isiK (isiD T d) s1:=by
 unfold mIsi bd Res.bnd isiK
 cases m s with
 |ok d s1=>dsimp only;cases isiD T d<;>rfl
 |ex d s1=>rfl
 |no=>rfl
theorem zd9{Ts:List String}:z7z Ts m s=(m s).bnd fun d s1=>isiK (isiAny Ts d) s1:=by
 unfold z7z bd Res.bnd isiK
 cases m s with
 |ok d s1=>dsimp only;cases isiAny Ts d<;>rfl
 |ex d s1=>rfl
 |no=>rfl
theorem z82{g g':D->D->M D}:z1k ma mb mc g g' s=(ma s).bnd fun x s1=>(mb (s1.psh x)).bnd fun y s2=>(pop s2).bnd fun x' s3=>z6j y (bd (mBoo (g x' y)) fun k=>iteM k (bd mc fun z=>g' y z) (rt (.bool false))) s3:=(rfl)
theorem zeW{i:Int}{m:M D}:z6j (.int i) m s=m s:=(rfl)
noncomputable def intK(o:Option Int)(s:Stt):Res (Option Int):=match o with
 |some i=> .ok (some i) s
 |none=> .no
theorem z83{i:Int}:intK (some i) s= .ok (some i) s:=(rfl)
theorem zb6:z3n none s= .ok none s:=(rfl)
theorem zb7:z3n (some m) s=(m s).bnd fun d s1=>intK (mInt d) s1:=by
 show bd m (fun d=>match mInt d with|some i=>rt (some i)|none=>fl) s=_
 unfold bd Res.bnd
 cases m s with
 |ok d s1=>show(match mInt d with|some i=>rt (some i)|none=>fl:M (Option Int)) s1=intK (mInt d) s1;cases mInt d<;>rfl
 |ex d s1=>rfl
 |no=>rfl
theorem zda{i:Int}:mInt (.int i)=some i:=(rfl)
theorem x_sl{lo hi:Option (M D)}:mSl m lo hi s=(m s).bnd fun x s1=>(z3n lo (s1.psh x)).bnd fun l s2=>(z3n hi s2).bnd fun h s3=>(pop s3).bnd fun x' s4=>slD x' l h s4:=(rfl)
theorem zdb{i j:Int}:addD (.int i) (.int j) s= .ok (.int (i+j)) s:=(rfl)
theorem zdc{a b:List D}(h:a.length+b.length<=sizeLine):addD (.tup a) (.tup b) s= .ok (.tup (a++b)) s:=by simp only[addD,if_pos h];rfl
theorem z3F{k l:Nat}{a b:List D}(h:a.length+b.length<=sizeLine):addD (.lst k a) (.lst l b) s= .ok (.lst s.n (a++b)) s.nxt:=by simp only[addD,if_pos h];rfl
theorem zeX{i j:Int}:subD (.int i) (.int j) s= .ok (.int (i -j)) s:=(rfl)
theorem z84{i j:Int}(h:CMul i j):mulD (.int i) (.int j) s= .ok (.int (i*j)) s:=by simp only[mulD,if_pos h];rfl
theorem z5V{i j:Int}(h:CDiv i j):z25 (.int i) (.int j) s= .ok (.int (i/j)) s:=by simp only[z25,if_pos h];rfl
theorem z2o{i j:Int}(h:0<j):modD (.int i) (.int j) s= .ok (.int (i %j)) s:=by simp only[modD,if_pos h];rfl
theorem z9m{i j:Int}(h:CPow i j):powD (.int i) (.int j) s= .ok (.int (i^j.toNat)) s:=by simp only[powD,if_pos h];rfl
theorem y_lt{i j:Int}:ltD (.int i) (.int j) s= .ok (.bool (decide (i<j))) s:=(rfl)
theorem y_le{i j:Int}:leD (.int i) (.int j) s= .ok (.bool (decide (i<=j))) s:=(rfl)
theorem y_gt{i j:Int}:gtD (.int i) (.int j) s= .ok (.bool (decide (j<i))) s:=(rfl)
theorem zeY{i:Int}:negD (.int i) s= .ok (.int (-i)) s:=(rfl)
theorem y_eq{t t':D}(h:eqC t t'=true):eqD t t' s= .ok (.bool (PyData.eqv (er t) (er t'))) s:=by simp only[eqD,if_pos h];rfl
theorem y_ne{t t':D}(h:eqC t t'=true):neD t t' s= .ok (.bool (!PyData.eqv (er t) (er t'))) s:=by simp only[neD,if_pos h];rfl
theorem y_in{t t':D}{ds:List D}(e:seqD t'=some ds)(h:inC t ds=true):inD t t' s= .ok (.bool ((erL ds).any fun y=>PyData.eqv y (er t))) s:=by simp only[inD,e,if_pos h];rfl
theorem zeZ{ds:List D}{i:Int}:ixD (.tup ds) (.int i) s=optM (atI ds i) s:=(rfl)
theorem zf0{l:Nat}{ds:List D}{i:Int}:ixD (.lst l ds) (.int i) s=optM (atI ds i) s:=(rfl)
theorem zf1{ds:List D}{i:Int}:ixD (.ro ds) (.int i) s=optM (atI ds i) s:=(rfl)
theorem zf2{d:D}:optM (some d) s= .ok d s:=(rfl)
theorem zf3{l:Nat}{ds:List D}{lo hi:Option Int}:slD (.lst l ds) lo hi s= .ok (.lst s.n (cutA ds lo hi)) s.nxt:=(rfl)
theorem z6y{ts:List D}(h:ts.length<=sizeLine):tupD ts s= .ok (.tup ts) s:=by simp only[tupD,if_pos h];rfl
theorem z4U{ts:List D}(h:ts.length<=sizeLine):lstM ts s= .ok (.lst s.n ts) s.nxt:=by simp only[lstM,if_pos h];rfl
theorem zdd{ds:List D}:lenD [.tup ds] s= .ok (.int ds.length) s:=(rfl)
theorem zde{l:Nat}{ds:List D}:lenD [.lst l ds] s= .ok (.int ds.length) s:=(rfl)
theorem zdf{ds:List D}:lenD [.ro ds] s= .ok (.int ds.length) s:=(rfl)
theorem zf4{i:Int}:absD [.int i] s= .ok (.int (if i<0 then -i else i)) s:=(rfl)
theorem zf5{i j:Int}:minD [.int i, .int j] s= .ok (.int (if j<i then j else i)) s:=(rfl)
theorem zf6{i j:Int}:maxD [.int i, .int j] s= .ok (.int (if j>i then j else i)) s:=(rfl)
theorem zdg{b:Bool}:intD [.bool b] s= .ok (.int (if b then 1 else 0)) s:=(rfl)
theorem zdh{l:Nat}{ds:List D}:tupF [.lst l ds] s= .ok (.tup ds) s:=(rfl)
theorem zb8{l:Nat}{ds:List D}{bs:List Bool}(h:z1E ds=some bs):allD [.lst l ds] s= .ok (.bool (bs.all id)) s:=by simp only[allD,h];rfl
theorem zf7{a b:MS}:seqS a b s=(a s).sq b:=by
 unfold seqS RS.sq
 cases a s<;>rfl
theorem zf8:sNx s= .nx s:=(rfl)
theorem zdi:sRet m s=(m s).lf fun d s1=> .rt d s1:=(rfl)
theorem zb9:z5a m s=(m s).lf fun _ s1=> .nx s1:=(rfl)
theorem zf9{c:M Bool}{a b:MS}:sIf c a b s=(c s).lf fun k=>iteS k a b:=(rfl)
theorem x_sT{a b:MS}:iteS true a b s=a s:=(rfl)
theorem x_sF{a b:MS}:iteS false a b s=b s:=(rfl)
noncomputable def asgK(o:Option (List (Option D)))(s:Stt):RS:=match o with
 |some σ'=> .nx {s with σ:=σ'}
 |none=> .no
theorem z85{σ':List (Option D)}:asgK (some σ') ⟨σ,tm,n⟩= .nx ⟨σ',tm,n⟩:=(rfl)
theorem zdj{g:Tg}:sAsg g m s=(m s).lf fun d s1=>asgK (asg g d s1.σ) s1:=by
 unfold sAsg lift Res.lf asgK
 cases m s with
 |ok d s1=>first|(dsimp only;cases asg g d s1.σ<;>rfl)|(dsimp only;done)|rfl
 |ex d s1=>rfl
 |no=>rfl
theorem zfa{me mo mi:M D}{g:D->D->D->MS}:mTri me mo mi g s=(me s).lf fun v s1=>(mo (s1.psh v)).lf fun o s2=>(mi (s2.psh o)).lf fun i s3=>(pop s3).lf fun o' s4=>(pop s4).lf fun v' s5=>g o' i v' s5:=(rfl)
theorem zba{l:Nat}{ds:List D}{k:Int}{v:D}{j:Nat}(e:ixN ds.length k=some j)(h:l∉labs v):setD (.lst l ds) (.int k) v s= .nx (s.put l (.lst l (ds.set j v))):=by simp only[setD,e,if_pos h]
theorem zdk{mo:M D}{g:D->List D->M D}:z3V mo ms g s=(mo s).bnd fun x s1=>(isL x s1).bnd fun _ s2=>(z0c ms (s2.psh x)).bnd fun ys s3=>(pop s3).bnd fun x' s4=>g x' ys s4:=(rfl)
theorem zfb{l:Nat}{ds:List D}:isL (.lst l ds) s= .ok () s:=(rfl)
theorem zdl{l:Nat}{ds:List D}{y:D}(h:ds.length<sizeLine/\l∉labs y):appD (.lst l ds) [y] s= .ok .non (s.put l (.lst l (ds++[y]))):=by simp only[appD,if_pos h]
end
theorem z3G{α:Type}{xs:List α}{i:Int}{d:α}(h0:0<=i)(h:xs[i.toNat]? =some d):atI xs i=some d:=by
 obtain⟨j,rfl⟩:=Int.eq_ofNat_of_zero_le h0
 exact zad (by simpa using h)
end Mi
set_option maxHeartbeats 400000
namespace Mi
open PySem L2
noncomputable def pl(l:Nat)(d:D):Nat->Option D:=fun k=>if k=l then some d else none
theorem z5W{σ tm:List (Option D)}{n l:Nat}{d:D}:Stt.put ⟨σ,tm,n⟩ l d=⟨rpO (pl l d) σ,rpO (pl l d) tm,n⟩:=(rfl)
theorem z0y{l:Nat}{d t:D}(h:l∉labs t):rp (pl l d) t=t:=z7a t fun k hk=>by
 unfold pl;rw[if_neg];intro e;subst e;exact h hk
theorem z0S{f:Nat->Option D}:rpO f []=[]:=(rfl)
theorem z9n{f:Nat->Option D}{r:List (Option D)}:rpO f (none::r)=none::rpO f r:=(rfl)
theorem z9o{f:Nat->Option D}{d:D}{r:List (Option D)}:rpO f (some d::r)=some (rp f d)::rpO f r:=(rfl)
theorem z9O{l:Nat}{d:D}{b:List D}:rp (pl l d) (.lst l b)=d:=by simp only[rp,pl,if_true]
theorem z1l{f:Nat->Option D}{i:Int}:rp f (.int i)= .int i:=(rfl)
theorem zdm{f:Nat->Option D}{ds:List D}:rp f (.tup ds)= .tup (rpL f ds):=(rfl)
theorem z20{f:Nat->Option D}:rpL f []=[]:=(rfl)
theorem z1w{f:Nat->Option D}{d:D}{ds:List D}:rpL f (d::ds)=rp f d::rpL f ds:=(rfl)
mutual
theorem z6z{l:Nat}: ∀t:D,l∉labs t->z0b l t=none
 | .non,_=>rfl
 | .bool _,_=>rfl
 | .int _,_=>rfl
 | .str _,_=>rfl
 | .exc _,_=>rfl
 | .fn _,_=>rfl
 | .tup ds,h=>by simp only[labs] at h;simp only[z0b];exact findL_none ds h
 | .ro ds,h=>by simp only[labs] at h;simp only[z0b];exact findL_none ds h
 | .fdc ks ds,h=>by simp only[labs] at h;simp only[z0b];exact findL_none ds h
 | .lst k ds,h=>by
  simp only[labs,List.mem_cons,not_or] at h;simp only[z0b];rw[if_neg fun e=>h.1 e.symm];exact findL_none ds h.2
 | .dct k ks ds,h=>by
  simp only[labs,List.mem_cons,List.mem_append,not_or] at h;simp only[z0b];rw[if_neg fun e=>h.1 e.symm];exact findL_none ds h.2.2
 | .obj k c ks ds,h=>by
  simp only[labs,List.mem_cons,not_or] at h;simp only[z0b];rw[if_neg fun e=>h.1 e.symm];exact findL_none ds h.2
theorem findL_none{l:Nat}: ∀t:List D,l∉labsL t->findL l t=none
 |[],_=>rfl
 |d::ds,h=>by
  simp only[labsL,List.mem_append,not_or] at h
  simp only[findL,z6z d h.1,findL_none ds h.2]
end
theorem z0n{t:D}{l n' n:Nat}{b b' r:List D}{σ tm:List (Option D)}(hb:labsL b=[])(hb':labsL b'=[])(hr:labsL r=[])(f1:rpO (pl l (.lst l b)) σ=σ)(f2:rpO (pl l (.lst l b)) tm=tm):
 z2A (.ok t (.lst l b'::r) n') (.lst l b::r) ⟨σ,tm,n⟩= .ok t ⟨rpO (pl l (.lst l b')) σ,rpO (pl l (.lst l b')) tm,n'⟩:=by
 have e:(fun k=>findL k (.lst l b'::r))=pl l (.lst l b'):=by
  funext k
  simp only[findL,z0b,pl]
  by_cases h:l=k
  ·subst h;rw[if_pos rfl,if_pos rfl]
  ·rw[if_neg h,if_neg fun q=>h q.symm,findL_none b' (by rw[hb'];exact List.not_mem_nil),findL_none r (by rw[hr];exact List.not_mem_nil)]
 unfold z2A
 by_cases h:(D.lst l b'::r)=(D.lst l b::r)
 ·have hh:b'=b:=by injection h with h _;injection h
  subst hh
  simp only[if_true]
  rw[f1,f2]
 ·simp only[if_neg h]
  rw[if_pos,e]
  intro k _ hk
  simp only[labsL,labs,hb,hr,List.append_nil,List.mem_singleton] at hk
  subst hk
  have:=congrFun e k
  rw[show findL k (D.lst k b'::r)=pl k (D.lst k b') k from this];simp[pl]
theorem zfc{mi:M ItK}{g:Tg}{b:MS}{s:Stt}:sFor mi g b s=(mi s).lf fun K s=>forGo K g b (K.len s.tm) 0 s:=(rfl)
theorem z86{ms:List (M D)}{s:Stt}:z0B ms s=(z0c ms s).bnd rng1:=(rfl)
theorem z2x{j:Int}{s:Stt}(h: -(2^62)<=j/\j<2^62):rng1 [.int j] s= .ok (kRng 0 j.toNat) s:=by simp only[rng1,if_pos h];rfl
theorem zdn{lo:Int}{N:Nat}{tm:List (Option D)}:(kRng lo N).len tm=N:=(rfl)
theorem z2p{P:Nat->Stt->Prop}{lo:Int}{N:Nat}{g:Tg}{b:MS}
 (body: ∀i,i<N->∀s,P i s->∃σ',asg g (.int (lo+i)) s.σ=some σ'/\∃s',b {s with σ:=σ'}= .nx s'/\P (i+1) s'):
 ∀(f i:Nat) (s:Stt),i+f=N->P i s->∃s',forGo (kRng lo N) g b f i s= .nx s'/\P N s':=by
 intro f
 induction f with
 |zero=>
  intro i s hi h
  have e:i=N:=by lia
  subst e
  refine⟨s, ?_,h⟩
  unfold forGo
  simp only[kRng,Nat.lt_irrefl,if_false]
  rfl
 |succ f ih=>
  intro i s hi h
  have hl:i<N:=by lia
  obtain⟨σ',e1,s',e2,h'⟩:=body i hl s h
  obtain⟨s2,e3,h2⟩:=ih (i+1) s' (by lia) h'
  refine⟨s2, ?_,h2⟩
  unfold forGo
  simp only[kRng,if_pos hl,e1,e2]
  exact e3
mutual
theorem zdo{l:Nat}{b:List D}{d:D}: ∀t:D,rp (pl l d) (rp (pl l (.lst l b)) t)=rp (pl l d) t
 | .non=>rfl
 | .bool _=>rfl
 | .int _=>rfl
 | .str _=>rfl
 | .exc _=>rfl
 | .fn _=>rfl
 | .tup ds=>by simp only[rp];rw[rpL_rp ds]
 | .ro ds=>by simp only[rp];rw[rpL_rp ds]
 | .fdc ks ds=>by simp only[rp];rw[rpL_rp ds]
 | .lst k ds=>by
  by_cases h:k=l
  ·subst h;simp only[rp,pl,if_true]
  ·have e: ∀x,pl l x k=none:=fun x=>by simp only[pl,if_neg h]
   simp only[rp,e];rw[rpL_rp ds]
 | .dct k ks ds=>by
  by_cases h:k=l
  ·subst h;simp only[rp,pl,if_true]
  ·have e: ∀x,pl l x k=none:=fun x=>by simp only[pl,if_neg h]
   simp only[rp,e];rw[rpL_rp ds]
 | .obj k c ks ds=>by
  by_cases h:k=l
  ·subst h;simp only[rp,pl,if_true]
  ·have e: ∀x,pl l x k=none:=fun x=>by simp only[pl,if_neg h]
   simp only[rp,e];rw[rpL_rp ds]
theorem rpL_rp{l:Nat}{b:List D}{d:D}: ∀t:List D,rpL (pl l d) (rpL (pl l (.lst l b)) t)=rpL (pl l d) t
 |[]=>rfl
 |t::ts=>by simp only[rpL];rw[zdo t,rpL_rp ts]
end
theorem z4V{l:Nat}{b:List D}{d:D}: ∀t:List (Option D),rpO (pl l d) (rpO (pl l (.lst l b)) t)=rpO (pl l d) t
 |[]=>rfl
 |none::ts=>by simp only[rpO];rw[z4V ts]
 |some t::ts=>by simp only[rpO];rw[zdo t,z4V ts]
theorem z3b{f:Nat->Option D}: ∀(a b:List (Option D)),rpO f (a++b)=rpO f a++rpO f b
 |[],b=>rfl
 |none::a,b=>by simp only[List.cons_append,rpO,z3b a b]
 |some d::a,b=>by simp only[List.cons_append,rpO,z3b a b]
theorem z4d{f:Nat->Option D}: ∀(a:List (Option D)),(rpO f a).length=a.length
 |[]=>rfl
 |none::a=>by simp only[rpO,List.length_cons,z4d a]
 |some d::a=>by simp only[rpO,List.length_cons,z4d a]
theorem z4W: ∀ds:List D,z05 (ds.map some)=labsL ds
 |[]=>rfl
 |d::ds=>by simp only[List.map_cons,z05,labsL,z4W ds]
theorem z3c: ∀a b:List D,labsL (a++b)=labsL a++labsL b
 |[],b=>rfl
 |d::ds,b=>by simp only[List.cons_append,labsL,z3c ds b,List.append_assoc]
theorem z87{l:Nat}: ∀ds:List D,l∈labsL ds.reverse↔l∈labsL ds
 |[]=>Iff.rfl
 |d::ds=>by simp only[List.reverse_cons,z3c,labsL,List.mem_append,z87 ds,List.append_nil];exact Or.comm
theorem z4X{l:Nat}{d:D}{ds:List D}(h:l∉labsL ds):rpO (pl l d) (ds.reverse.map some)=ds.reverse.map some:=z7b _ fun k hk=>by
 rw[z4W,z87] at hk
 unfold pl;rw[if_neg];intro e;subst e;exact h hk
theorem z6A{me:M D}{N:Nat}{cap σ0 tm0:List (Option D)}{l ol:Nat}{Bg:List D->Prop}{Q:Nat->D->Prop}(mono: ∀a b,a<=b->∀y,Q a y->Q b y)(hol:σ0.length=ol)(hz:N<sizeLine)
 (hme: ∀i,i<N->∀b tm n,Bg b->l<n->rpO (pl l (.lst l b)) tm=tm->∃y b' n',Bg b'/\Q n' y/\n<=n'/\l∉labs y/\me ⟨some (.int (0+(i:Nat)))::rpO (pl l (.lst l b)) cap,tm,n⟩= .ok y ⟨some (.int (0+(i:Nat)))::rpO (pl l (.lst l b')) cap,rpO (pl l (.lst l b')) tm,n'⟩):
 ∀(f:Nat) (acc:List D) (o:Option D) (b:List D) (n:Nat),acc.length+f=N->Bg b->l<n->(∀y∈acc,Q n y)->l∉labsL acc->
  ∃ys b' n',ys.length=N/\(∀y∈ys,Q n' y)/\l∉labsL ys/\Bg b'/\n<=n'/\
   z0U (kRng 0 N) (.nm 0) (rt true) me ol f acc.length acc.length ⟨o::rpO (pl l (.lst l b)) cap,(acc.reverse.map some)++(rpO (pl l (.lst l b)) σ0++rpO (pl l (.lst l b)) tm0),n⟩= .ok (.lst n' ys) ⟨rpO (pl l (.lst l b')) σ0,rpO (pl l (.lst l b')) tm0,n'+1⟩:=by
 intro f
 induction f with
 |zero=>
  intro acc o b n hi hb hn hq hf
  have hi:acc.length=N:=by lia
  refine⟨acc,b,n,hi,hq,hf,hb,Nat.le_refl _, ?_⟩
  have l1:(acc.reverse.map some).length=acc.length:=by simp
  unfold z0U
  simp only[kRng,hi,Nat.lt_irrefl,if_false]
  rw[<-hi,z1d _ _ _ l1]
  have e2:(acc.reverse.map some).reverse=acc.map some:=by simp
  rw[e2,z1v]
  simp only[Res.ok.injEq,true_and,Stt.mk.injEq,and_true]
  constructor
  ·rw[z0p _ _ _ l1,z1d _ _ _ (by rw[z4d];exact hol)]
  ·rw[<-List.append_assoc,Nat.add_zero]
   exact z0p _ _ _ (by simp[z4d,hol])
 |succ f ih=>
  intro acc o b n hi hb hn hq hf
  have hlt:acc.length<N:=by lia
  unfold z0U
  simp only[kRng,if_pos hlt,asg,List.set_cons_zero,rt]
  rw[if_pos (by lia)]
  obtain⟨y,b',n',h1,h2,h3,h4,h5⟩:=hme acc.length hlt b ((acc.reverse.map some)++(rpO (pl l (.lst l b)) σ0++rpO (pl l (.lst l b)) tm0)) n hb hn (by rw[z3b,z3b,z4V,z4V,z4X hf])
  rw[h5]
  obtain⟨ys,b2,n2,g1,g2,g3,g4,g5,g6⟩:=ih (acc++[y]) (some (.int (0+(acc.length:Nat)))) b' n' (by simp;lia) h1 (by lia) (by
   intro z hz
   rcases List.mem_append.mp hz with hz|hz
   ·exact mono _ _ h3 z (hq z hz)
   ·rw[List.mem_singleton.mp hz];exact h2) (by
   rw[z3c]
   simp only[labsL,List.append_nil,List.mem_append,not_or]
   exact⟨hf,h4⟩)
  refine⟨ys,b2,n2,g1,g2,g3,g4,by lia, ?_⟩
  rw[<-g6]
  simp only[Stt.psh,z3b,z4V,z4X hf,List.length_append,List.length_cons,List.length_nil,Nat.zero_add,List.reverse_append,List.reverse_cons,List.reverse_nil,List.nil_append,List.map_append,List.map_cons,List.map_nil,List.cons_append]
  rfl
theorem z4Y{ms:List (M D)}{me:M D}{N:Nat}{ix:List Nat}{s:Stt}{l n:Nat}{j:Int}{σ0 tm0:List (Option D)}{b:List D}{Bg:List D->Prop}{Q:Nat->D->Prop}(mono: ∀a b,a<=b->∀y,Q a y->Q b y)(hms:z0c ms s= .ok [.int j] ⟨σ0,tm0,n⟩)(hj:j.toNat=N)(hj': -(2^62)<=j/\j<2^62)(hz:N<sizeLine)
 (hb:Bg b) (hn:l<n) (f1:rpO (pl l (.lst l b)) σ0=σ0) (f2:rpO (pl l (.lst l b)) tm0=tm0) (f3:rpO (pl l (.lst l b)) (ix.map fun i=>(σ0[i]?).getD none)=ix.map fun i=>(σ0[i]?).getD none)
 (hme: ∀i,i<N->∀b tm n,Bg b->l<n->rpO (pl l (.lst l b)) tm=tm->∃y b' n',Bg b'/\Q n' y/\n<=n'/\l∉labs y/\me ⟨some (.int (0+(i:Nat)))::rpO (pl l (.lst l b)) (ix.map fun i=>(σ0[i]?).getD none),tm,n⟩= .ok y ⟨some (.int (0+(i:Nat)))::rpO (pl l (.lst l b')) (ix.map fun i=>(σ0[i]?).getD none),rpO (pl l (.lst l b')) tm,n'⟩):
 ∃ys b' n',ys.length=N/\(∀y∈ys,Q n' y)/\l∉labsL ys/\Bg b'/\n<=n'/\z0s (z0B ms) (.nm 0) (rt true) me 1 ix s= .ok (.lst n' ys) ⟨rpO (pl l (.lst l b')) σ0,rpO (pl l (.lst l b')) tm0,n'+1⟩:=by
 obtain⟨ys,b',n',h1,h2,h3,h4,h5,h6⟩:=z6A (me:=me) (N:=N) (cap:=ix.map fun i=>(σ0[i]?).getD none) (σ0:=σ0) (tm0:=tm0) (l:=l) (Bg:=Bg) (Q:=Q) mono rfl hz hme N [] none b n (by simp) hb hn (by intro y h;cases h) (by simp[labsL])
 refine⟨ys,b',n',h1,h2,h3,h4,h5, ?_⟩
 unfold z0s
 rw[x_bd,z86,hms,z2d,z2x hj',z2d,hj]
 rw[f1,f2,f3] at h6
 exact h6
inductive All2(Q:D->D->Prop):List D->List D->Prop
 |nil:All2 Q [] []
 |cons {a b:D} {as bs:List D}:Q a b->All2 Q as bs->All2 Q (a::as) (b::bs)
theorem zbb{P:Stt->Prop}{l:Nat}{ds:List D}{g:Tg}{b:MS}{tm:List (Option D)}(hP: ∀s,P s->s.tm=some (.lst l ds)::tm)
 (body: ∀d∈ds,∀s,P s->∃σ',asg g d s.σ=some σ'/\∃s',b {s with σ:=σ'}= .nx s'/\P s'):
 ∀(f i:Nat) (s:Stt),i+f=ds.length->P s->∃s',forGo kLst g b f i s= .nx (s'.popn 1)/\P s':=by
 intro f
 induction f with
 |zero=>
  intro i s hi h
  refine⟨s, ?_,h⟩
  unfold forGo
  have e:kLst.at' i s.tm=some none:=by rw[hP s h];show some ds[i]? =_;rw[List.getElem?_eq_none (by lia)]
  simp only[e]
  rfl
 |succ f ih=>
  intro i s hi h
  have hl:i<ds.length:=by lia
  obtain⟨σ',e1,s',e2,h'⟩:=body ds[i] (List.getElem_mem hl) s h
  obtain⟨s2,e3,h2⟩:=ih (i+1) s' (by lia) h'
  refine⟨s2, ?_,h2⟩
  unfold forGo
  have e:kLst.at' i s.tm=some (some ds[i]):=by rw[hP s h];show some ds[i]? =_;rw[List.getElem?_eq_getElem hl]
  simp only[e,e1,e2]
  exact e3
theorem z6B{K:ItK}{mt:M Bool}{me:M D}{p:D->Bool}{g:D->D}{items:List D}{its fr σ0 tm0:List (Option D)}{ol:Nat}(hk:its.length=K.k)(hol:σ0.length=ol)(hz:items.length<sizeLine)(hat: ∀i rest,K.at' i (its++rest)=some items[i]?)
 (hmt: ∀d∈items,∀tm n,∃n',n<=n'/\mt ⟨some d::fr,tm,n⟩= .ok (p d) ⟨some d::fr,tm,n'⟩)
 (hme: ∀d∈items,p d=true->∀tm n,∃n',n<=n'/\me ⟨some d::fr,tm,n⟩= .ok (g d) ⟨some d::fr,tm,n'⟩):
 ∀(f i:Nat) (acc:List D) (o:Option D) (n:Nat),i+f=items.length->acc.length<=i->∃n',n<=n'/\z0U K (.nm 0) mt me ol f i acc.length ⟨o::fr,(acc.reverse.map some)++(σ0++(its++tm0)),n⟩= .ok (.lst n' (acc++((items.drop i).filter p).map g)) ⟨σ0,tm0,n'+1⟩:=by
 intro f
 induction f with
 |zero=>
  intro i acc o n hi ha
  have hi:i=items.length:=by lia
  refine⟨n,Nat.le_refl _, ?_⟩
  have l1:(acc.reverse.map some).length=acc.length:=by simp
  have e1:((acc.reverse.map some)++(σ0++(its++tm0))).drop (acc.length+ol)=its++tm0:=by
   rw[<-List.append_assoc];exact z0p _ _ _ (by simp[hol])
  unfold z0U
  simp only[e1,hat,List.getElem?_eq_none (show items.length<=i by lia)]
  rw[z1d _ _ _ l1]
  have e2:(acc.reverse.map some).reverse=acc.map some:=by simp
  rw[e2,z1v]
  simp only[Res.ok.injEq,Stt.mk.injEq,and_true,List.drop_eq_nil_of_le (show items.length<=i by lia),List.filter_nil,List.map_nil,List.append_nil,true_and]
  constructor
  ·rw[z0p _ _ _ l1,z1d _ _ _ hol]
  ·have:((acc.reverse.map some)++(σ0++(its++tm0))).drop (acc.length+ol+K.k)=(((acc.reverse.map some)++(σ0++(its++tm0))).drop (acc.length+ol)).drop K.k:=by rw[List.drop_drop]
   rw[this,e1]
   exact z0p _ _ _ hk
 |succ f ih=>
  intro i acc o n hi ha
  have hlt:i<items.length:=by lia
  have e1:((acc.reverse.map some)++(σ0++(its++tm0))).drop (acc.length+ol)=its++tm0:=by
   rw[<-List.append_assoc];exact z0p _ _ _ (by simp[hol])
  obtain⟨n1,hn1,h1⟩:=hmt items[i] (List.getElem_mem hlt) ((acc.reverse.map some)++(σ0++(its++tm0))) n
  rw[List.drop_eq_getElem_cons hlt,List.filter_cons]
  unfold z0U
  simp only[e1,hat,List.getElem?_eq_getElem hlt,asg,List.set_cons_zero,h1]
  cases hp:p items[i] with
  |false=>
   obtain⟨n2,hn2,h2⟩:=ih (i+1) acc (some items[i]) n1 (by lia) (by lia)
   exact⟨n2,by lia,h2⟩
  |true=>
   obtain⟨n2,hn2,h2⟩:=hme items[i] (List.getElem_mem hlt) hp ((acc.reverse.map some)++(σ0++(its++tm0))) n1
   obtain⟨n3,hn3,h3⟩:=ih (i+1) (acc++[g items[i]]) (some items[i]) n2 (by lia) (by simp;lia)
   refine⟨n3,by lia, ?_⟩
   simp only[if_pos (show acc.length<sizeLine by lia),h2]
   simp only[List.length_append,List.length_cons,List.length_nil,Nat.zero_add,List.reverse_append,List.reverse_cons,List.reverse_nil,List.nil_append,List.map_append,List.map_cons,List.map_nil,List.cons_append,List.append_assoc] at h3⊢
   exact h3
theorem z3d{mi:M ItK}{K:ItK}{mt:M Bool}{me:M D}{p:D->Bool}{g:D->D}{items:List D}{its:List (Option D)}{ix:List Nat}{s:Stt}{σ tm:List (Option D)}{n:Nat}(hc:mi s= .ok K ⟨σ,its++tm,n⟩)(hk:its.length=K.k)(hz:items.length<sizeLine)(hat: ∀i rest,K.at' i (its++rest)=some items[i]?)(hlen:K.len (its++tm)=items.length)
 (hmt: ∀d∈items,∀tm n,∃n',n<=n'/\mt ⟨some d::(ix.map fun i=>(σ[i]?).getD none),tm,n⟩= .ok (p d) ⟨some d::(ix.map fun i=>(σ[i]?).getD none),tm,n'⟩)
 (hme: ∀d∈items,p d=true->∀tm n,∃n',n<=n'/\me ⟨some d::(ix.map fun i=>(σ[i]?).getD none),tm,n⟩= .ok (g d) ⟨some d::(ix.map fun i=>(σ[i]?).getD none),tm,n'⟩):
 ∃n',n<=n'/\z0s mi (.nm 0) mt me 1 ix s= .ok (.lst n' ((items.filter p).map g)) ⟨σ,tm,n'+1⟩:=by
 obtain⟨n',h2,h3⟩:=z6B (K:=K) (mt:=mt) (me:=me) (σ0:=σ) (tm0:=tm) hk rfl hz hat hmt hme items.length 0 [] none n (by simp) (by simp)
 refine⟨n',h2, ?_⟩
 unfold z0s
 simp only[bd,hc,hlen]
 simp only[List.map_nil,List.reverse_nil,List.nil_append,List.length_nil,List.drop_zero] at h3
 exact h3
theorem z6C{mc:M D}{mt:M Bool}{me:M D}{p:D->Bool}{g:D->D}{l:Nat}{ds:List D}{ix:List Nat}{s:Stt}{σ tm:List (Option D)}{n:Nat}(hc:mc s= .ok (.lst l ds) ⟨σ,tm,n⟩)(hz:ds.length<sizeLine)
 (hmt: ∀d∈ds,∀tm n,∃n',n<=n'/\mt ⟨some d::(ix.map fun i=>(σ[i]?).getD none),tm,n⟩= .ok (p d) ⟨some d::(ix.map fun i=>(σ[i]?).getD none),tm,n'⟩)
 (hme: ∀d∈ds,p d=true->∀tm n,∃n',n<=n'/\me ⟨some d::(ix.map fun i=>(σ[i]?).getD none),tm,n⟩= .ok (g d) ⟨some d::(ix.map fun i=>(σ[i]?).getD none),tm,n'⟩):
 ∃n',n<=n'/\z0s (z1h mc) (.nm 0) mt me 1 ix s= .ok (.lst n' ((ds.filter p).map g)) ⟨σ,tm,n'+1⟩:=
 z3d (K:=kLst) (its:=[some (.lst l ds)]) (items:=ds) (by unfold z1h;rw[x_bd,hc];rfl) rfl hz (fun i rest=>rfl) rfl hmt hme
theorem z6D{ms:List (M D)}{mt:M Bool}{me:M D}{p:D->Bool}{g:D->D}{N:Nat}{ix:List Nat}{s:Stt}{σ tm:List (Option D)}{n:Nat}(hc:z0c ms s= .ok [.int (N:Int)] ⟨σ,tm,n⟩)(hz:N<sizeLine)
 (hmt: ∀d∈z3X 0 N,∀tm n,∃n',n<=n'/\mt ⟨some d::(ix.map fun i=>(σ[i]?).getD none),tm,n⟩= .ok (p d) ⟨some d::(ix.map fun i=>(σ[i]?).getD none),tm,n'⟩)
 (hme: ∀d∈z3X 0 N,p d=true->∀tm n,∃n',n<=n'/\me ⟨some d::(ix.map fun i=>(σ[i]?).getD none),tm,n⟩= .ok (g d) ⟨some d::(ix.map fun i=>(σ[i]?).getD none),tm,n'⟩):
 ∃n',n<=n'/\z0s (z0B ms) (.nm 0) mt me 1 ix s= .ok (.lst n' (((z3X 0 N).filter p).map g)) ⟨σ,tm,n'+1⟩:=by
 have hsz:(sizeLine:Nat)=16777216:=rfl
 refine z3d (K:=kRng 0 N) (its:=[]) (items:=z3X 0 N) ?_ rfl (by simp only[z3X,List.length_map,List.length_range];exact hz) (fun i rest=> ?_) (by simp only[z3X,List.length_map,List.length_range];rfl) hmt hme
 ·rw[z86,hc,z2d,z2x ⟨by lia,by lia⟩];rfl
 ·simp only[kRng,z3X,List.getElem?_map]
  by_cases h:i<N
  ·rw[if_pos h,List.getElem?_range h];rfl
  ·rw[if_neg h,List.getElem?_eq_none (by simp;lia)];rfl
end Mi
set_option maxHeartbeats 1000000
namespace Mi
open PySem L2
noncomputable def zfd(o:Option (List D))(t:D)(n:Nat):RF:=match o with|some ts=> .ex t ts n|none=> .no
noncomputable def _root_.Mi.RS.finX(k:Nat):RS->RF
 | .nx s'=>finO (z0a s'.tm) .non s'.n
 | .rt t s'=>finO (z0a s'.tm) t s'.n
 | .ex d s'=>zfd (z0a (zeF k s'.tm)) d s'.n
 |_=> .no
end Mi
set_option maxHeartbeats 4000000
namespace Mi
open PySem L2
end Mi
set_option maxHeartbeats 40000
namespace Mi
open PySem L2
section
variable{α β:Type}{m ma mb mc:M D}{s:Stt}{ms:List (M D)}{σ tm l:List (Option D)}{n i j k p:Nat}{x y z u d:D}{g g2:D->D->M D}{h:List D->M D}
variable{a0 a1 a2 a3 a4 a5 a6 a7 a8 a9 a10 a11 a12 a13 a14 a15 v:Option D}
theorem qg1:(a0::a1::l)[1]? =some a1:=(rfl)
theorem qg2:(a0::a1::a2::l)[2]? =some a2:=(rfl)
theorem qg3:(a0::a1::a2::a3::l)[3]? =some a3:=(rfl)
theorem qg4:(a0::a1::a2::a3::a4::l)[4]? =some a4:=(rfl)
theorem qg5:(a0::a1::a2::a3::a4::a5::l)[5]? =some a5:=(rfl)
theorem qg6:(a0::a1::a2::a3::a4::a5::a6::l)[6]? =some a6:=(rfl)
theorem qg7:(a0::a1::a2::a3::a4::a5::a6::a7::l)[7]? =some a7:=(rfl)
theorem qg8:(a0::a1::a2::a3::a4::a5::a6::a7::a8::l)[8]? =some a8:=(rfl)
theorem qg9:(a0::a1::a2::a3::a4::a5::a6::a7::a8::a9::l)[9]? =some a9:=(rfl)
theorem qg10:(a0::a1::a2::a3::a4::a5::a6::a7::a8::a9::a10::l)[10]? =some a10:=(rfl)
theorem qg11:(a0::a1::a2::a3::a4::a5::a6::a7::a8::a9::a10::a11::l)[11]? =some a11:=(rfl)
theorem qh1:(a0::a1::l).set 1 v=a0::v::l:=(rfl)
theorem qh2:(a0::a1::a2::l).set 2 v=a0::a1::v::l:=(rfl)
theorem qh3:(a0::a1::a2::a3::l).set 3 v=a0::a1::a2::v::l:=(rfl)
theorem qh4:(a0::a1::a2::a3::a4::l).set 4 v=a0::a1::a2::a3::v::l:=(rfl)
theorem qh5:(a0::a1::a2::a3::a4::a5::l).set 5 v=a0::a1::a2::a3::a4::v::l:=(rfl)
theorem qh7:(a0::a1::a2::a3::a4::a5::a6::a7::l).set 7 v=a0::a1::a2::a3::a4::a5::a6::v::l:=(rfl)
theorem qh8:(a0::a1::a2::a3::a4::a5::a6::a7::a8::l).set 8 v=a0::a1::a2::a3::a4::a5::a6::a7::v::l:=(rfl)
theorem qh9:(a0::a1::a2::a3::a4::a5::a6::a7::a8::a9::l).set 9 v=a0::a1::a2::a3::a4::a5::a6::a7::a8::v::l:=(rfl)
theorem qh10:(a0::a1::a2::a3::a4::a5::a6::a7::a8::a9::a10::l).set 10 v=a0::a1::a2::a3::a4::a5::a6::a7::a8::a9::v::l:=(rfl)
theorem ov:mVar i s=match s.σ[i]? with|some (some t)=> .ok t s|_=> .no:=rfl
noncomputable def cv(g:D->D->M D)(a:D)(b:Option (Option D))(s:Stt):Res D:=match b with
 |some (some b)=>g a b s
 |_=> .no
theorem zbc:cv g x (some (some y)) s=g x y s:=(rfl)
theorem x_bC:mBin m (mC y) g s=(m s).bnd fun x s1=>g x y s1:=by
 rw[zb4];cases m s<;>rfl
theorem x_bV:mBin m (mVar j) g s=(m s).bnd fun x s1=>cv g x s1.σ[j]? s1:=by
 rw[zb4];cases m s with
 |ok x s1=>rw[z2d,z2d];unfold mVar cv;dsimp only[Stt.psh];cases s1.σ[j]? with
  |none=>rfl
  |some o=>cases o<;>rfl
 |ex d s1=>rfl
 |no=>rfl
noncomputable def qc1(h:List D->M D)(a:Option (Option D))(s:Stt):Res D:=match a with
 |some (some a)=>h [a] s
 |_=> .no
theorem z9p:qc1 h (some (some x)) s=h [x] s:=(rfl)
theorem x_c1:mCB [mVar i] h ⟨σ,tm,n⟩=qc1 h σ[i]? ⟨σ,tm,n⟩:=by
 rw[x_cb];unfold mVar qc1 z0c bd;dsimp only
 cases σ[i]? with
 |none=>rfl
 |some o=>cases o<;>rfl
theorem z9P:z0c [m] s=(m s).bnd fun x s1=> .ok [x] s1:=by
 rw[z4c];cases m s<;>rfl
noncomputable def qa1(a:Option (Option D))(s:Stt):Res (List D):=match a with
 |some (some a)=> .ok [a] s
 |_=> .no
theorem x_a1:z0c [mVar i] ⟨σ,tm,n⟩=qa1 σ[i]? ⟨σ,tm,n⟩:=by
 rw[z9P];unfold mVar qa1;dsimp only
 cases σ[i]? with
 |none=>rfl
 |some o=>cases o<;>rfl
noncomputable def qa2(a b:Option (Option D))(s:Stt):Res (List D):=match a,b with
 |some (some a),some (some b)=> .ok [a,b] s
 |_,_=> .no
theorem z9q:qa2 (some (some x)) (some (some y)) s= .ok [x,y] s:=(rfl)
theorem x_a2:z0c [mVar i,mVar j] ⟨σ,tm,n⟩=qa2 σ[i]? σ[j]? ⟨σ,tm,n⟩:=by
 rw[z4c];unfold mVar qa2;dsimp only
 cases σ[i]? with
 |none=>rfl
 |some o=>cases o with
  |none=>rfl
  |some a=>rw[z2d];show Res.bnd _ (z0c [mVar j] ⟨σ,_,_⟩)=_;rw[x_a1];unfold qa1;cases σ[j]? with
   |none=>rfl
   |some o=>cases o<;>rfl
theorem zfe:z0c [mVar i,mC y] ⟨σ,tm,n⟩=qa2 σ[i]? (some (some y)) ⟨σ,tm,n⟩:=by
 rw[z4c];unfold mVar qa2;dsimp only
 cases σ[i]? with
 |none=>rfl
 |some o=>cases o<;>rfl
theorem zff:z1k ma (mVar i) mc g g2 s=(ma s).bnd fun x s1=>(mVar i s1).bnd fun y s3=>z6j y (bd (mBoo (g x y)) fun k=>iteM k (bd mc fun z=>g2 y z) (rt (.bool false))) s3:=by
 rw[z82];cases ma s with
 |ok x s1=>rw[z2d,z2d];unfold mVar;dsimp only[Stt.psh];cases s1.σ[i]? with
  |none=>rfl
  |some o=>cases o<;>rfl
 |ex d s1=>rfl
 |no=>rfl
theorem zfg:sAsg (.nm i) m s=(m s).lf fun d s1=> .nx ⟨s1.σ.set i (some d),s1.tm,s1.n⟩:=by
 rw[zdj];cases m s<;>rfl
end
theorem z1m{t:D}{l n' n:Nat}{b b' r:List D}{σ tm:List (Option D)}{σ1 tm1:D->List (Option D)}(hb:labsL b=[])(hb':labsL b'=[])(hr:labsL r=[])(f1: ∀q,rpO (pl l q) σ=σ1 q)(f2: ∀q,rpO (pl l q) tm=tm1 q)(e1:σ1 (.lst l b)=σ:=by rfl)(e2:tm1 (.lst l b)=tm:=by rfl):
 z2A (.ok t (.lst l b'::r) n') (.lst l b::r) ⟨σ,tm,n⟩= .ok t ⟨σ1 (.lst l b'),tm1 (.lst l b'),n'⟩:=by
 rw[z0n hb hb' hr ((f1 _).trans e1) ((f2 _).trans e2),f1,f2]
end Mi
set_option maxHeartbeats 1000000
namespace Mi
open PySem L2
theorem z9r{K:ItK}{g:Tg}{b:MS}{f i:Nat}{s s':Stt}{d:D}{σ':List (Option D)}(h1:K.at' i s.tm=some (some d))(h2:asg g d s.σ=some σ')(h3:b {s with σ:=σ'}= .nx s'):forGo K g b (f+1) i s=forGo K g b f (i+1) s':=by
 conv=>lhs;unfold forGo
 simp only[h1,h2,h3]
theorem zbd{K:ItK}{g:Tg}{b:MS}{f i:Nat}{s:Stt}(h1:K.at' i s.tm=some none):forGo K g b f i s= .nx (s.popn K.k):=by
 unfold forGo
 simp only[h1]
theorem z88{K:ItK}{g:Tg}{b:MS}{f i:Nat}{s s':Stt}{d t:D}{σ':List (Option D)}(h1:K.at' i s.tm=some (some d))(h2:asg g d s.σ=some σ')(h3:b {s with σ:=σ'}= .rt t s'):forGo K g b (f+1) i s= .rt t (s'.popn K.k):=by
 conv=>lhs;unfold forGo
 simp only[h1,h2,h3]
end Mi
namespace My
open PySem L2 Mi
theorem BA{a b:Prop}(h:a)(k:b):a/\b:=⟨h,k⟩
noncomputable def B_0:=BA (BA (BA (BA (BA (BA @zeO @x_bd) (BA @z2d (BA @zb3 @zeL))) (BA (BA @zeM (BA @x_rt @zd3)) (BA @zeP (BA @zeQ @z9l)))) (BA (BA (BA @zeR (BA @x_C @zb4)) (BA @zeS (BA @zd4 @zd5))) (BA (BA @x_tB (BA @zeT @x_or)) (BA @zeU (BA @zd6 @zd7))))) (BA (BA (BA (BA @x_it @x_if) (BA @zb5 (BA @z4c @x_cb))) (BA (BA @zd8 (BA @z81 @zeV)) (BA @zd9 (BA @z82 @zeW)))) (BA (BA (BA @z83 (BA @zb6 @zb7)) (BA @zda (BA @x_sl @zdb))) (BA (BA @zeX (BA @y_lt @y_le)) (BA @y_gt (BA @zeY @zeZ)))))) (BA (BA (BA (BA (BA @zf0 @zf1) (BA @zf2 (BA @zf3 @zdd))) (BA (BA @zde (BA @zdf @zf4)) (BA @zf5 (BA @zf6 @zdg)))) (BA (BA (BA @zdh (BA @zf7 @zf8)) (BA @zdi (BA @zb9 @zf9))) (BA (BA @x_sT (BA @x_sF @z85)) (BA @zdj (BA @zfa @zdk))))) (BA (BA (BA (BA @zfb @z6x) (BA @zeN (BA @z80 @List.map_cons.{0,0}))) (BA (BA @List.map_nil.{0,0} (BA @List.nil_append.{0} @List.cons_append.{0})) (BA @List.append_nil.{0} (BA @List.getElem?_cons_zero.{0} @List.getElem?_cons_succ.{0})))) (BA (BA (BA @List.getElem?_nil.{0} (BA @List.set_cons_zero.{0} @List.set_cons_succ.{0})) (BA @List.length_cons.{0} (BA @List.length_nil.{0} @Option.map_some.{0,0}))) (BA (BA @Option.map_none.{0,0} (BA @Bool.not_true @Bool.not_false)) (BA @beq_self_eq_true.{0} (BA @Nat.zero_add @Nat.sub_self))))))
local macro_rules | `(tactic| walk_at "") => `(tactic| (simp (config := { dsimp := false }) only [B_0, isiD, z0a, asg, asgL, List.replicate, Nat.reduceAdd, Nat.reduceSub, String.reduceBEq]))
noncomputable def isInt:D->Bool
 | .int _=>true
 |_=>false
noncomputable def inR(lo hi:Int):D->Bool
 | .int i=>decide (lo<=i)&&decide (i<=hi)
 |_=>false
theorem zdp(t:D)(n:Nat)(h:plain t=true):z0W [t] n= .ok (.bool (isInt t)) [t] n:=by
 unfold z0W z1u
 cases t<;>first|(simp[Mi.plain] at h;done)|(walk_at "";first|done|rfl)
theorem z5X(t:D)(n:Nat)(h:plain t=true):z19 [t] n= .ok (.bool (isInt t)) [t] n:=by
 unfold z19 z37
 cases t<;>first|(simp[Mi.plain] at h;done)|(walk_at "";first|done|rfl)
theorem zdq(t:D)(lo hi:Int)(n:Nat)(h:plain t=true):z0L [t, .int lo, .int hi] n= .ok (.bool (inR lo hi t)) [t, .int lo, .int hi] n:=by
 unfold z0L z1O
 walk_at ""
 rw[zdp t n h]
 cases t<;>(try simp only[isInt,inR])<;>walk_at "" <;>try rfl
 rename_i i
 by_cases h1:lo<=i
 ·simp only[h1,decide_true];walk_at "";simp
 ·simp only[h1,decide_false];walk_at "";simp
noncomputable def rowB(lo hi top:Int):D->Bool
 | .tup ds=>decide (lo<=(ds.length:Int))&&decide ((ds.length:Int)<=hi)&&ds.all (inR 0 top)
 |_=>false
theorem z1n: ∀{ds:List D} {d:D},plainL ds=true->d∈ds->plain d=true
 |x::ds,d,h,m=>by
  simp only[plainL,Bool.and_eq_true] at h
  rcases List.mem_cons.mp m with rfl|m
  ·exact h.1
  ·exact z1n h.2 m
theorem z89(t:D)(lo hi top:Int)(n:Nat)(h:plain t=true)(hh:hi<1000000): ∃n',n<=n'/\z0X [t, .int lo, .int hi, .int top] n= .ok (.bool (rowB lo hi top t)) [t, .int lo, .int hi, .int top] n':=by
 unfold z0X z2m
 walk_at ""
 cases t with
 |tup ds=>
  walk_at ""
  by_cases h1:lo<=(ds.length:Int)
  ·by_cases h2:(ds.length:Int)<=hi
   ·simp only[h1,h2,decide_true,rowB,Bool.true_and]
    walk_at ""
    simp only[h2,decide_true]
    walk_at ""
    have hz:ds.length<sizeLine:=by have:sizeLine=16777216:=rfl;lia
    obtain⟨n',hn,hc⟩:=z4T (mc:=mVar 0) (me:=z06 z0L [mVar 0,mC (D.int 0),mVar 1]) (g:=fun d=> .bool (inR 0 top d)) (ds:=ds) (ix:=[3]) (s:=⟨[some (.tup ds),some (.int lo),some (.int hi),some (.int top)],[some (.tup ds),some (.int lo),some (.int hi),some (.int top)],n⟩) (s1:=⟨[some (.tup ds),some (.int lo),some (.int hi),some (.int top)],[some (.tup ds),some (.int lo),some (.int hi),some (.int top)],n⟩) (by walk_at "") hz (by
     intro d hd tm m
     refine⟨m,Nat.le_refl _, ?_⟩
     show z06 _ _ ⟨[some d,some (.int top)],tm,m⟩=_
     walk_at ""
     rw[zdq d 0 top m (z1n (by simpa[Mi.plain] using h) hd)]
     walk_at ""
     rfl)
    refine⟨n'+1,by simp only at hn;lia, ?_⟩
    rw[hc]
    walk_at ""
    rw[zb8 (z3a ds (inR 0 top))]
    walk_at ""
    simp only[List.all_map]
    rfl
   ·refine⟨n,Nat.le_refl _, ?_⟩
    simp only[h1,h2,decide_true,decide_false,rowB,Bool.true_and,Bool.false_and]
    walk_at ""
    simp only[h2,decide_false]
    walk_at ""
  ·refine⟨n,Nat.le_refl _, ?_⟩
   simp only[h1,decide_false,rowB,Bool.false_and]
   walk_at ""
 |dct _ _ _=>simp[Mi.plain] at h
 |obj _ _ _ _=>simp[Mi.plain] at h
 |exc _=>simp[Mi.plain] at h
 |fn _=>simp[Mi.plain] at h
 |fdc _ _=>simp[Mi.plain] at h
 |_=>refine⟨n,Nat.le_refl _, ?_⟩;walk_at "";rfl
theorem at0{a:D}{l:List D}:atI (a::l) 0=some a:=z3G (by decide) rfl
theorem at1{a b:D}{l:List D}:atI (a::b::l) 1=some b:=z3G (by decide) rfl
theorem at2{a b c:D}{l:List D}:atI (a::b::c::l) 2=some c:=z3G (by decide) rfl
theorem zfh{i j:Int}{s:Stt}:eqD (.int i) (.int j) s= .ok (.bool (i==j)) s:=by
 rw[y_eq (by simp[eqC,Mi.plain,er,PyData.canLay0,PyData.depth])];simp only[er,PyData.eqv]
theorem c0:((0:Nat):Int)=0:=rfl
theorem c1:((1:Nat):Int)=1:=rfl
theorem c2:((2:Nat):Int)=2:=rfl
theorem c3:((3:Nat):Int)=3:=rfl
theorem c4:((4:Nat):Int)=4:=rfl
noncomputable def Gd(t:D):Prop:=plain t=true/\(er t).canLay0=true
noncomputable def GdL(ds:List D):Prop:=plainL ds=true/\PyData.canLayAll0 (erL ds)=true
theorem Gd.tup{ds:List D}:Gd (.tup ds)↔GdL ds:=by simp only[Gd,GdL,Mi.plain,er,PyData.canLay0]
theorem Gd.lst{l:Nat}{ds:List D}:Gd (.lst l ds)↔GdL ds:=by simp only[Gd,GdL,Mi.plain,er,PyData.canLay0]
theorem GdL.cons{d:D}{ds:List D}:GdL (d::ds)↔Gd d/\GdL ds:=by
 simp only[Gd,GdL,plainL,erL,PyData.canLayAll0,Bool.and_eq_true]
 constructor
 ·rintro ⟨⟨a,b⟩,c,d⟩;exact⟨⟨a,c⟩,b,d⟩
 ·rintro ⟨⟨a,c⟩,b,d⟩;exact⟨⟨a,b⟩,c,d⟩
theorem zl:sizeLine=16777216:=rfl
section
variable{a b c d:D}{s:Stt}
theorem t0:tupD [] s= .ok (.tup []) s:=z6y (by decide)
theorem t1:tupD [a] s= .ok (.tup [a]) s:=z6y (by rw[zl];simp)
theorem t2:tupD [a,b] s= .ok (.tup [a,b]) s:=z6y (by rw[zl];simp)
theorem t3:tupD [a,b,c] s= .ok (.tup [a,b,c]) s:=z6y (by rw[zl];simp)
theorem t4:tupD [a,b,c,d] s= .ok (.tup [a,b,c,d]) s:=z6y (by rw[zl];simp)
theorem k0{σ tm:List (Option D)}{n:Nat}:lstM [] ⟨σ,tm,n⟩= .ok (.lst n []) ⟨σ,tm,n+1⟩:=z4U (by rw[zl];simp)
theorem k1{σ tm:List (Option D)}{n:Nat}:lstM [a] ⟨σ,tm,n⟩= .ok (.lst n [a]) ⟨σ,tm,n+1⟩:=z4U (by rw[zl];simp)
theorem k2{σ tm:List (Option D)}{n:Nat}:lstM [a,b] ⟨σ,tm,n⟩= .ok (.lst n [a,b]) ⟨σ,tm,n+1⟩:=z4U (by rw[zl];simp)
theorem k3{σ tm:List (Option D)}{n:Nat}:lstM [a,b,c] ⟨σ,tm,n⟩= .ok (.lst n [a,b,c]) ⟨σ,tm,n+1⟩:=z4U (by rw[zl];simp)
theorem k4{σ tm:List (Option D)}{n:Nat}:lstM [a,b,c,d] ⟨σ,tm,n⟩= .ok (.lst n [a,b,c,d]) ⟨σ,tm,n+1⟩:=z4U (by rw[zl];simp)
end
noncomputable def B_1:=BA (BA (BA (BA @t0 (BA @t1 @t2)) (BA (BA @t3 @t4) (BA @k0 @k1))) (BA (BA @k2 (BA @k3 @Bool.or_false)) (BA (BA @Bool.false_or @Bool.true_or) (BA @Bool.or_true @Bool.and_true)))) (BA (BA (BA @Bool.true_and (BA @Bool.and_false @Bool.false_and)) (BA (BA @at0 @at1) (BA @at2 @zfh))) (BA (BA @z5W (BA @z0S @z9O)) (BA (BA @z1l @zdm) (BA @z20 @z1w))))
noncomputable def B_2:=BA @z9n @z9o
local macro_rules | `(tactic| walk_at "") => `(tactic| (simp (config := { dsimp := false }) only [B_0, B_1, B_2, isiD, z0a, asg, asgL, List.replicate, Nat.reduceAdd, Nat.reduceSub, String.reduceBEq, Int.reduceBEq]))
noncomputable def Bg(c x:Int):Prop:=0<=c/\0<=x/\x<2147483647
theorem z0w(l:Nat)(c x top:Int)(n:Nat)(h:Bg c x)(ht:0<top)(ht':top<1000000): ∃r c' x',0<=r/\r<top/\Bg c' x'/\z02 [.lst l [.int c, .int x], .int top] n= .ok (.int r) [.lst l [.int c', .int x'], .int top] n:=by
 unfold z02 z4b
 obtain⟨h0,h1,h2⟩:=h
 by_cases hc:0<c
 ·refine⟨c %top,c/top,x,Int.emod_nonneg _ (by lia),Int.emod_lt_of_pos _ ht,⟨Int.ediv_nonneg h0 (by lia),h1,h2⟩, ?_⟩
  walk_at ""
  simp only[hc,decide_true]
  walk_at ""
  rw[z2o ht]
  walk_at ""
  rw[z5V ⟨ht,by lia⟩]
  walk_at ""
  rw[zba (j:=0) rfl (by simp[labs])]
  walk_at ""
 ·have hx0:=Int.emod_nonneg (x*48271+7919) (show(2147483647:Int)≠0 by decide)
  have hx1:=Int.emod_lt_of_pos (x*48271+7919) (show(0:Int)<2147483647 by decide)
  generalize hy:(x*48271+7919) %2147483647=y at hx0 hx1
  refine⟨(y^(3:Int).toNat %2147483587/7*69621 %1073741789) %top,c,y,Int.emod_nonneg _ (by lia),Int.emod_lt_of_pos _ ht,⟨h0,hx0,hx1⟩, ?_⟩
  walk_at ""
  simp only[hc,decide_false]
  walk_at ""
  rw[z84 (.inl ⟨by lia,by lia⟩)]
  walk_at ""
  rw[z2o (by decide),hy]
  walk_at ""
  rw[zba (j:=1) rfl (by simp[labs])]
  walk_at ""
  rw[z9m ⟨by decide,by decide,by lia⟩]
  walk_at ""
  rw[z2o (by decide)]
  walk_at ""
  rw[z5V ⟨by decide,by decide⟩]
  walk_at ""
  rw[z84 (.inr ⟨by decide,by decide⟩)]
  walk_at ""
  rw[z2o (by decide)]
  walk_at ""
  rw[z2o ht]
  walk_at ""
noncomputable def B_3:=BA (BA @zfc @z86) (BA @zdn @Int.zero_add)
local macro_rules | `(tactic| walk_at "") => `(tactic| (simp (config := { dsimp := false }) only [B_0, B_1, B_2, B_3, isiD, z0a, asg, asgL, List.replicate, Nat.reduceAdd, Nat.reduceSub, String.reduceBEq, Int.reduceBEq]))
theorem z9Q{ns:List Int}{a:Nat}(h:a<ns.length):atI (ns.map D.int) (a:Int)=some (.int ns[a]):=z3G (by lia) (by simp[h])
theorem zdr(ns:List Int)(a n:Nat)(ha:a<1000)(hl:ns.length<1000): ∃c x,Bg c x/\z35 [.ro (ns.map .int), .int a] n= .ok (.lst n [.int c, .int x]) [.ro (ns.map .int), .int a] (n+1):=by
 unfold z35 z5s
 walk_at ""
 have key: ∃c:Int,0<=c/\iteS (decide ((a:Int)<((ns.map D.int).length:Int))) (sAsg (Tg.nm 2) (mCB [mBin (mVar 0) (mVar 1) ixD] absD)) sNx ⟨[some (.ro (ns.map .int)),some (.int a),some (.int 0),none,none],[some (.ro (ns.map .int)),some (.int a)],n⟩= .nx ⟨[some (.ro (ns.map .int)),some (.int a),some (.int c),none,none],[some (.ro (ns.map .int)),some (.int a)],n⟩:=by
  by_cases h:a<ns.length
  ·refine⟨if ns[a]<0 then -ns[a] else ns[a], ?_, ?_⟩
   rotate_left
   ·rw[show decide ((a:Int)<((ns.map D.int).length:Int))=true by simp[h]]
    walk_at ""
    rw[z9Q h]
    walk_at ""
   ·split<;>lia
  ·refine⟨0,by decide, ?_⟩
   rw[show decide ((a:Int)<((ns.map D.int).length:Int))=false by simp;lia]
   walk_at ""
 obtain⟨c,hc,e1⟩:=key
 rw[e1]
 walk_at ""
 rw[z2o (by decide)]
 walk_at ""
 rw[z84 (.inl ⟨by decide,by decide⟩)]
 walk_at ""
 have q0:=Int.emod_nonneg c (show(2147483629:Int)≠0 by decide)
 have q1:=Int.emod_lt_of_pos c (show(0:Int)<2147483629 by decide)
 rw[z9m ⟨by decide,by decide,by lia⟩]
 walk_at ""
 rw[z2o (by decide)]
 walk_at ""
 have w0:((ns.map D.int).length:Int)=ns.length:=by simp
 rw[w0]
 generalize hk:(if(60:Int)<(ns.length:Int) then(60:Int) else(ns.length:Int))=k
 have hk0:0<=k/\k<=60/\k<=ns.length:=by split at hk<;>lia
 rw[z2x ⟨by lia,by lia⟩]
 walk_at ""
 have p0:=Int.emod_nonneg ((c %2147483629+104729*(a:Int)+17)^(5:Int).toNat) (show(2147483647:Int)≠0 by decide)
 have p1:=Int.emod_lt_of_pos ((c %2147483629+104729*(a:Int)+17)^(5:Int).toNat) (show(0:Int)<2147483647 by decide)
 generalize (c %2147483629+104729*(a:Int)+17)^(5:Int).toNat %2147483647=x0 at p0 p1
 obtain⟨s',e2,x,o,hx0,hx1,rfl⟩:=z2p (P:=fun i s=> ∃(x:Int) (o:Option D),0<=x/\x<2147483647/\s=⟨[some (.ro (ns.map .int)),some (.int a),some (.int c),some (.int x),o],[some (.ro (ns.map .int)),some (.int a)],n⟩) (lo:=0) (N:=k.toNat) (g:= .nm 4) (b:=sAsg (.nm 3) (mBin (mBin (mBin (mBin (mVar 3) (mC (.int 48271)) mulD) (mBin (mBin (mBin (mVar 0) (mVar 4) ixD) (mC (.int 2147483587)) modD) (mBin (mVar 4) (mC (.int 3)) addD) mulD) addD) (mVar 4) addD) (mC (.int 2147483629)) modD)) (by
  rintro i hi s ⟨x,o,h0,h1,rfl⟩
  have hi':i<ns.length:=by lia
  refine⟨[some (.ro (ns.map .int)),some (.int a),some (.int c),some (.int x),some (.int i)],by simp only[Int.zero_add];rfl, ?_⟩
  refine⟨⟨[some (.ro (ns.map .int)),some (.int a),some (.int c),some (.int ((x*48271+ns[i] %2147483587*(i+3)+i) %2147483629)),some (.int i)],[some (.ro (ns.map .int)),some (.int a)],n⟩, ?_, ?_⟩
  ·walk_at ""
   rw[z84 (.inl ⟨by lia,by lia⟩)]
   walk_at ""
   rw[z9Q hi']
   walk_at ""
   rw[z2o (by decide)]
   walk_at ""
   rw[z84 (.inr ⟨by lia,by lia⟩)]
   walk_at ""
   rw[z2o (by decide)]
   walk_at ""
  ·have r0:=Int.emod_nonneg (x*48271+ns[i] %2147483587*(i+3)+i) (show(2147483629:Int)≠0 by decide)
   have r1:=Int.emod_lt_of_pos (x*48271+ns[i] %2147483587*(i+3)+i) (show(0:Int)<2147483629 by decide)
   exact⟨_,_,r0,by lia,rfl⟩) k.toNat 0 ⟨[some (.ro (ns.map .int)),some (.int a),some (.int c),some (.int x0),none],[some (.ro (ns.map .int)),some (.int a)],n⟩ (by lia) ⟨x0,none,p0,p1,rfl⟩
 rw[e2]
 walk_at ""
 rw[z9m ⟨by decide,by decide,by decide⟩]
 walk_at ""
 by_cases h:c<10^(18:Int).toNat
 ·refine⟨0,x,⟨by decide,hx0,hx1⟩, ?_⟩
  simp only[h,decide_true]
  walk_at ""
 ·refine⟨c,x,⟨hc,hx0,hx1⟩, ?_⟩
  simp only[h,decide_false]
  walk_at ""
theorem z4Z{l k:Nat}{d:D}{ds:List D}(h:k≠l):rp (pl l d) (.lst k ds)= .lst k (rpL (pl l d) ds):=by simp only[rp,pl,if_neg h]
mutual
noncomputable def Rs(n:Nat):D->Bool
 | .non=>true| .bool _=>true| .int _=>true| .str x=>PyData.strOk x
 | .tup ds=>decide (ds.length<=2000)&&RsL n ds
 | .lst l ds=>decide (n<=l)&&(decide (ds.length<=2000)&&RsL n ds)
 | .ro _=>false| .dct _ _ _=>false| .obj _ _ _ _=>false| .exc _=>false| .fn _=>false| .fdc _ _=>false
noncomputable def RsL(n:Nat):List D->Bool
 |[]=>true
 |d::ds=>Rs n d&&RsL n ds
end
noncomputable def Up(m:Nat)(t:D):Prop:= ∀k∈labs t,k<m
theorem zds{α:Type}{ds:List α}{r:Int}(h0:0<=r)(h1:r<ds.length): ∃d∈ds,atI ds r=some d:=by
 have h:r.toNat<ds.length:=by lia
 exact⟨ds[r.toNat],List.getElem_mem h,z3G h0 (by simp[h])⟩
theorem ok1:PyData.strOk ("1" :Str)=true:=by decide+kernel
mutual
noncomputable def Tr:D->Bool
 | .non=>true| .bool _=>true| .int _=>true| .str x=>PyData.strOk x
 | .tup ds=>decide (ds.length<=900)&&TrL ds
 | .lst _ _=>false| .ro _=>false| .dct _ _ _=>false| .obj _ _ _ _=>false| .exc _=>false| .fn _=>false| .fdc _ _=>false
noncomputable def TrL:List D->Bool
 |[]=>true
 |d::ds=>Tr d&&TrL ds
end
theorem z8a: ∀{ds:List D},TrL ds=true↔∀d∈ds,Tr d=true
 |[]=>by simp[TrL]
 |d::ds=>by simp only[TrL,Bool.and_eq_true,z8a (ds:=ds),List.forall_mem_cons]
theorem z8b{n:Nat}: ∀{ds:List D},RsL n ds=true↔∀d∈ds,Rs n d=true
 |[]=>by simp[RsL]
 |d::ds=>by simp only[RsL,Bool.and_eq_true,z8b (ds:=ds),List.forall_mem_cons]
theorem z8c{k:Nat}: ∀{ds:List D},PyData.depthAll (erL ds)<=k↔∀d∈ds,(er d).depth<=k
 |[]=>by simp[erL,PyData.depthAll]
 |d::ds=>by simp only[erL,PyData.depthAll,List.forall_mem_cons,<-z8c (ds:=ds)];lia
mutual
theorem zbe: ∀t:D,Tr t=true->labs t=[]
 | .non,_=>rfl
 | .bool _,_=>rfl
 | .int _,_=>rfl
 | .str _,_=>rfl
 | .tup ds,h=>by simp only[Tr,Bool.and_eq_true] at h;simp only[labs];exact TrL_labs ds h.2
 | .lst _ _,h=>by simp[Tr] at h
 | .ro _,h=>by simp[Tr] at h
 | .dct _ _ _,h=>by simp[Tr] at h
 | .obj _ _ _ _,h=>by simp[Tr] at h
 | .exc _,h=>by simp[Tr] at h
 | .fn _,h=>by simp[Tr] at h
 | .fdc _ _,h=>by simp[Tr] at h
theorem TrL_labs: ∀t:List D,TrL t=true->labsL t=[]
 |[],_=>rfl
 |d::ds,h=>by simp only[TrL,Bool.and_eq_true] at h;simp only[labsL,zbe d h.1,TrL_labs ds h.2,List.append_nil]
end
mutual
theorem zbf{n:Nat}: ∀t:D,Tr t=true->Rs n t=true
 | .non,_=>rfl
 | .bool _,_=>rfl
 | .int _,_=>rfl
 | .str _,h=>by simpa[Tr,Rs] using h
 | .tup ds,h=>by
  simp only[Tr,Bool.and_eq_true,decide_eq_true_eq] at h;simp only[Rs,Bool.and_eq_true,decide_eq_true_eq];exact⟨by lia,TrL_rs ds h.2⟩
 | .lst _ _,h=>by simp[Tr] at h
 | .ro _,h=>by simp[Tr] at h
 | .dct _ _ _,h=>by simp[Tr] at h
 | .obj _ _ _ _,h=>by simp[Tr] at h
 | .exc _,h=>by simp[Tr] at h
 | .fn _,h=>by simp[Tr] at h
 | .fdc _ _,h=>by simp[Tr] at h
theorem TrL_rs{n:Nat}: ∀t:List D,TrL t=true->RsL n t=true
 |[],_=>rfl
 |d::ds,h=>by simp only[TrL,Bool.and_eq_true] at h;simp only[RsL,zbf d h.1,TrL_rs ds h.2,Bool.and_true]
end
mutual
theorem z6E{n:Nat}: ∀t:D,Rs n t=true->Gd t
 | .non,_=>⟨rfl,rfl⟩
 | .bool _,_=>⟨rfl,rfl⟩
 | .int _,_=>⟨rfl,rfl⟩
 | .str _,h=>⟨rfl,by simpa[Rs,er,PyData.canLay0] using h⟩
 | .tup ds,h=>by simp only[Rs,Bool.and_eq_true] at h;exact Gd.tup.mpr (RsL_gd ds h.2)
 | .lst _ ds,h=>by simp only[Rs,Bool.and_eq_true] at h;exact Gd.lst.mpr (RsL_gd ds h.2.2)
 | .ro _,h=>by simp[Rs] at h
 | .dct _ _ _,h=>by simp[Rs] at h
 | .obj _ _ _ _,h=>by simp[Rs] at h
 | .exc _,h=>by simp[Rs] at h
 | .fn _,h=>by simp[Rs] at h
 | .fdc _ _,h=>by simp[Rs] at h
theorem RsL_gd{n:Nat}: ∀t:List D,RsL n t=true->GdL t
 |[],_=>⟨rfl,rfl⟩
 |d::ds,h=>by simp only[RsL,Bool.and_eq_true] at h;exact GdL.cons.mpr ⟨z6E d h.1,RsL_gd ds h.2⟩
end
mutual
theorem zdt{n k:Nat}: ∀t:D,Rs n t=true->k∈labs t->n<=k
 | .non,_,h=>by simp[labs] at h
 | .bool _,_,h=>by simp[labs] at h
 | .int _,_,h=>by simp[labs] at h
 | .str _,_,h=>by simp[labs] at h
 | .tup ds,h,m=>by simp only[Rs,Bool.and_eq_true] at h;simp only[labs] at m;exact RsL_low ds h.2 m
 | .lst _ ds,h,m=>by
  simp only[Rs,Bool.and_eq_true,decide_eq_true_eq] at h
  simp only[labs,List.mem_cons] at m
  rcases m with rfl|m
  ·exact h.1
  ·exact RsL_low ds h.2.2 m
 | .ro _,h,_=>by simp[Rs] at h
 | .dct _ _ _,h,_=>by simp[Rs] at h
 | .obj _ _ _ _,h,_=>by simp[Rs] at h
 | .exc _,h,_=>by simp[Rs] at h
 | .fn _,h,_=>by simp[Rs] at h
 | .fdc _ _,h,_=>by simp[Rs] at h
theorem RsL_low{n k:Nat}: ∀t:List D,RsL n t=true->k∈labsL t->n<=k
 |[],_,h=>by simp[labsL] at h
 |d::ds,h,m=>by
  simp only[RsL,Bool.and_eq_true] at h
  simp only[labsL,List.mem_append] at m
  rcases m with m|m
  ·exact zdt d h.1 m
  ·exact RsL_low ds h.2 m
end
theorem labsL_mem{k:Nat}: ∀{es:List D},k∈labsL es->∃e∈es,k∈labs e
 |e::es,h=>by
  simp only[labsL,List.mem_append] at h
  rcases h with h|h
  ·exact⟨e,List.mem_cons_self,h⟩
  ·obtain⟨e',h1,h2⟩:=labsL_mem h
   exact⟨e',List.mem_cons_of_mem _ h1,h2⟩
theorem cut_mem{ds:List D}{lo hi:Option Int}{d:D}(h:d∈cutA ds lo hi):d∈ds:=List.mem_of_mem_drop (List.mem_of_mem_take h)
theorem z1e{k:Nat}: ∀{es:List D} {e:D},e∈es->k∈labs e->k∈labsL es
 |e::es,x,h,hk=>by
  simp only[labsL,List.mem_append]
  rcases List.mem_cons.mp h with rfl|h
  ·exact .inl hk
  ·exact .inr (z1e h hk)
theorem ne_bool{b:Bool}{s:Stt}:neD (.bool b) (.bool b) s= .ok (.bool false) s:=by
 rw[y_ne (by simp[eqC,Mi.plain,er,PyData.canLay0,PyData.depth])];simp[er,PyData.eqv]
theorem z0z{f:Nat->Option D}{o:Option D}{r:List (Option D)}:rpO f (o::r)=o.map (rp f)::rpO f r:=by cases o<;>rfl
noncomputable def UpO(n:Nat)(o:Option D):Prop:= ∀d,o=some d->Up n d
theorem UpO.fixk{n k:Nat}{o:Option D}(h:UpO n o)(hk:n<=k)(d:D):Option.map (rp (pl k d)) o=o:=by
 cases o with
 |none=>rfl
 |some t=>simp only[Option.map_some];rw[z0y fun m=>by have:=h t rfl k m;lia]
theorem k5{a b c d e:D}{σ tm:List (Option D)}{n:Nat}:lstM [a,b,c,d,e] ⟨σ,tm,n⟩= .ok (.lst n [a,b,c,d,e]) ⟨σ,tm,n+1⟩:=z4U (by rw[zl];simp)
theorem zdu{k:Nat}{es:List D}(hl:es.length<=900)(h: ∀e∈es,Tr e=true/\(er e).depth<=k):Tr (.tup es)=true/\(er (.tup es)).depth<=k+1:=by
 refine⟨?_, ?_⟩
 ·simp only[Tr,Bool.and_eq_true,decide_eq_true_eq];exact⟨hl,z8a.mpr fun d m=>(h d m).1⟩
 ·simp only[er,PyData.depth];exact Nat.succ_le_succ (z8c.mpr fun d m=>(h d m).2)
theorem zdv{k:Nat}{i:Int}:Tr (.int i)=true/\(er (.int i)).depth<=k:=⟨rfl,by simp[er,PyData.depth]⟩
theorem zfi{i j:Int}{s:Stt}:neD (.int i) (.int j) s= .ok (.bool (!(i==j))) s:=by
 rw[y_ne (by simp[eqC,Mi.plain,er,PyData.canLay0,PyData.depth])];simp only[er,PyData.eqv]
noncomputable def iL(bs:List Int):List D:=bs.map D.int
theorem z8d{s:List Int}{lo hi top:Int}(h1:lo<=s.length)(h2:s.length<=hi)(hb: ∀i∈s,0<=i/\i<=top):rowB lo hi top (.tup (iL s))=true:=by
 simp only[rowB,iL,List.length_map,h1,h2,decide_true,Bool.true_and,List.all_eq_true]
 intro d hd
 obtain⟨i,hi',rfl⟩:=List.mem_map.mp hd
 have:=hb i hi'
 simp[inR,this.1,this.2]
theorem z4e(s:List Int):Mi.plain (.tup (iL s))=true:=by
 simp only[Mi.plain]
 induction s with
 |nil=>rfl
 |cons i s ih=>simp only[iL,List.map_cons,plainL,Mi.plain,Bool.true_and] at ih⊢;exact ih
theorem zdw{top:Int}: ∀{ds:List D},ds.all (inR 0 top)=true->∃s,ds=iL s/\∀i∈s,0<=i/\i<=top
 |[],_=>⟨[],rfl,fun _ h=>nomatch h⟩
 |d::ds,h=>by
  simp only[List.all_cons,Bool.and_eq_true] at h
  obtain⟨s,rfl,hs⟩:=zdw h.2
  cases d<;>simp only[inR,Bool.and_eq_true,decide_eq_true_eq,Bool.false_eq_true,false_and] at h
  rename_i i
  exact⟨i::s,rfl,List.forall_mem_cons.mpr ⟨h.1,hs⟩⟩
theorem z50{lo hi top:Int}{d:D}(h:rowB lo hi top d=true): ∃s,d= .tup (iL s)/\lo<=s.length/\s.length<=hi/\∀i∈s,0<=i/\i<=top:=by
 cases d<;>simp only[rowB,Bool.false_eq_true] at h
 simp only[Bool.and_eq_true,decide_eq_true_eq] at h
 obtain⟨s,rfl,hs⟩:=zdw h.2
 have e:(iL s).length=s.length:=by simp[iL]
 rw[e] at h
 exact⟨s,rfl,h.1.1,h.1.2,hs⟩
noncomputable def tl:D->Int
 | .tup ds=>ds.length
 |_=>0
noncomputable def isTr:D->Bool
 | .tup [a,b,c]=>rowB 1 4 25 a&&rowB 0 3 39 b&&rowB 0 (tl a - 1) 25 c
 |_=>false
theorem zdx{ds:List D}(h:ds.length≠3):isTr (.tup ds)=false:=by
 match ds,h with
 |[],_=>rfl
 |[_],_=>rfl
 |[_,_],_=>rfl
 |[_,_,_],h=>exact absurd rfl h
 |_::_::_::_::_,_=>rfl
theorem ne3{n:Nat}:((n:Int)==3)=decide (n=3):=by
 by_cases h:n=3
 ·subst h;rfl
 ·rw[decide_eq_false h,beq_eq_false_iff_ne];lia
noncomputable def B_4:=BA (BA (BA (BA @qg1 (BA @qg2 @qg3)) (BA (BA @qg4 @qg5) (BA @qg6 @qg7))) (BA (BA @qg8 (BA @qg9 @qg10)) (BA (BA @qg11 @qh1) (BA @qh2 @qh3)))) (BA (BA (BA @qh4 (BA @qh5 @qh7)) (BA (BA @qh8 @qh9) (BA @qh10 @x_bC))) (BA (BA (BA @x_bV @x_c1) (BA @x_a1 @x_a2)) (BA (BA @zfe @z9P) (BA @zff @zfg))))
noncomputable def B_5:=BA (BA @zbc (BA @z9p @z9q)) (BA @zfi (BA @z0z @c1))
local macro_rules | `(tactic| walk_at "") => `(tactic| (simp (config := { dsimp := false }) only [B_0, B_1, B_3, ↓B_4, B_5, isiD, z0a, asg, asgL, List.replicate, Nat.reduceAdd, Nat.reduceSub, String.reduceBEq, Int.reduceBEq]))
theorem zbg(t:D)(hp:plain t=true)(n:Nat): ∃n',n<=n'/\z0o [t] n= .ok (.bool (isTr t)) [t] n':=by
 unfold z0o z0Q
 cases t with
 |tup ds=>
  walk_at ""
  rw[ne3]
  by_cases h3:ds.length=3
  ·match ds,h3 with
   |[a,b,c],_=>
   simp only[Mi.plain,plainL,Bool.and_eq_true] at hp
   obtain⟨pa,pb,pc,_⟩:=hp
   obtain⟨n1,h1,e1⟩:=z89 a 1 4 25 n pa (by decide)
   obtain⟨n2,h2,e2⟩:=z89 b 0 3 39 n1 pb (by decide)
   simp only[List.length_cons,List.length_nil,decide_true]
   walk_at ""
   rw[e1]
   simp only[isTr]
   cases q1:rowB 1 4 25 a with
   |false=>refine⟨n1,h1, ?_⟩;walk_at ""
   |true=>
    obtain⟨s,rfl,s1,s2,s3⟩:=z50 q1
    obtain⟨n3,h3,e3⟩:=z89 c 0 (tl (.tup (iL s)) - 1) 25 n2 pc (by show((iL s).length:Int) - 1<_;simp only[iL,List.length_map];lia)
    walk_at ""
    rw[e2]
    cases q2:rowB 0 3 39 b with
    |false=>refine⟨n2,by lia, ?_⟩;walk_at ""
    |true=>
     refine⟨n3,by lia, ?_⟩
     walk_at ""
     simp only[tl] at e3⊢
     rw[e3]
     walk_at ""
  ·refine⟨n,Nat.le_refl _, ?_⟩
   rw[zdx h3]
   simp only[h3,decide_false]
   walk_at ""
 |dct _ _ _=>simp[Mi.plain] at hp
 |obj _ _ _ _=>simp[Mi.plain] at hp
 |exc _=>simp[Mi.plain] at hp
 |fn _=>simp[Mi.plain] at hp
 |fdc _ _=>simp[Mi.plain] at hp
 |_=>refine⟨n,Nat.le_refl _, ?_⟩;walk_at "";rfl
theorem z2q(t:D)(lo hi top:Int)(n:Nat)(h:plain t=true)(hh:hi<1000000): ∃n',n<=n'/\z0d [t, .int lo, .int hi, .int top] n= .ok (.bool (rowB lo hi top t)) [t, .int lo, .int hi, .int top] n':=by
 unfold z0d z1a
 cases t with
 |tup ds=>
  walk_at ""
  by_cases h1:lo<=(ds.length:Int)
  ·have h1':decide ((ds.length:Int)<lo)=false:=by simp;lia
   rw[h1']
   walk_at ""
   by_cases h2:(ds.length:Int)<=hi
   ·have h2':decide ((ds.length:Int)>hi)=false:=by simp;lia
    rw[h2']
    walk_at ""
    simp only[h1,h2,decide_true,rowB,Bool.true_and]
    have hz:ds.length<sizeLine:=by rw[zl];lia
    obtain⟨n',hn,hc⟩:=z4T (mc:=mVar 0) (me:=(z3o (z06 z19 [(mVar 0)]) (z1k (mC (.int 0)) (mVar 0) (mVar 1) leD leD))) (g:=fun d=> .bool (inR 0 top d)) (ds:=ds) (ix:=[3]) (s:=⟨[some (.tup ds),some (.int lo),some (.int hi),some (.int top)],[some (.tup ds),some (.int lo),some (.int hi),some (.int top)],n⟩) (s1:=⟨[some (.tup ds),some (.int lo),some (.int hi),some (.int top)],[some (.tup ds),some (.int lo),some (.int hi),some (.int top)],n⟩) (by walk_at "") hz (by
     intro d hd tm m
     refine⟨m,Nat.le_refl _, ?_⟩
     have pd:=z1n (by simpa[Mi.plain] using h) hd
     show z3o _ _ ⟨[some d,some (.int top)],tm,m⟩=_
     walk_at ""
     rw[z5X d m pd]
     cases d<;>(try simp only[isInt,inR])<;>walk_at "" <;>try rfl
     rename_i i
     by_cases q1:0<=i
     ·simp only[q1,decide_true];walk_at "";simp
     ·simp only[q1,decide_false];walk_at "";simp)
    refine⟨n'+1,by simp only at hn;lia, ?_⟩
    rw[hc]
    walk_at ""
    rw[zb8 (z3a ds (inR 0 top))]
    walk_at ""
    simp only[List.all_map]
    rfl
   ·refine⟨n,Nat.le_refl _, ?_⟩
    have h2':decide ((ds.length:Int)>hi)=true:=by simp;lia
    rw[h2']
    walk_at ""
    simp[rowB,h2]
  ·refine⟨n,Nat.le_refl _, ?_⟩
   have h1':decide ((ds.length:Int)<lo)=true:=by simp;lia
   rw[h1']
   walk_at ""
   simp[rowB,h1]
 |dct _ _ _=>simp[Mi.plain] at h
 |obj _ _ _ _=>simp[Mi.plain] at h
 |exc _=>simp[Mi.plain] at h
 |fn _=>simp[Mi.plain] at h
 |fdc _ _=>simp[Mi.plain] at h
 |_=>refine⟨n,Nat.le_refl _, ?_⟩;walk_at "";rfl
noncomputable def kk(d:D):NK:=(tkey d).getD []
noncomputable def gath:List NK->List NK->List NK
 |acc,[]=>acc
 |acc,k::r=>gath (if hasK k acc=true then acc else k::acc) r
noncomputable def dst:List NK->List NK->Bool
 |_,[]=>true
 |acc,k::r=> !hasK k acc&&dst (k::acc) r
theorem z8e: ∀(r acc:List NK),(gath acc r).length<=acc.length+r.length
 |[],acc=>by simp[gath]
 |k::r,acc=>by
  unfold gath
  have:=z8e r (if hasK k acc=true then acc else k::acc)
  split at this<;>(rename_i q;simp only[q,if_true,Bool.false_eq_true,if_false,List.length_cons] at*;lia)
theorem z5Y: ∀(r acc:List NK),(((gath acc r).length:Int)==((acc.length+r.length:Nat):Int))=dst acc r
 |[],acc=>by simp[gath,dst]
 |k::r,acc=>by
  unfold gath dst
  cases q:hasK k acc with
  |true=>
   rw[if_pos rfl]
   have:=z8e r acc
   simp only[Bool.not_true,Bool.false_and,beq_eq_false_iff_ne,List.length_cons]
   lia
  |false=>
   rw[if_neg Bool.false_ne_true]
   have:=z5Y r (k::acc)
   simp only[Bool.not_false,Bool.true_and,List.length_cons] at this⊢
   rw[<-this,show acc.length+(r.length+1)=acc.length+1+r.length by lia]
theorem z8f{K:ItK}{me:M D}{g:D->D}{items:List D}{its fr σ0 tm0:List (Option D)}{ol:Nat}(hk:its.length=K.k)(hol:σ0.length=ol)(hz:items.length<=76)(hat: ∀i rest,K.at' i (its++rest)=some items[i]?)
 (hme: ∀d∈items,∀tm n,me ⟨some d::fr,tm,n⟩= .ok (g d) ⟨some d::fr,tm,n⟩) (hkey: ∀d∈items,tkey (g d)=some (kk (g d))):
 ∀(f i:Nat) (acc:List D) (o:Option D) (n:Nat),i+f=items.length->acc.length<=i->(∀a∈acc,tkey a=some (kk a))->z43 K (.nm 0) (rt true) me ol f i (acc.map kk) ⟨o::fr,(acc.map some)++(σ0++(its++tm0)),n⟩= .ok (.int (gath (acc.map kk) ((items.drop i).map fun d=>kk (g d))).length) ⟨σ0,tm0,n⟩:=by
 intro f
 induction f with
 |zero=>
  intro i acc o n hi ha hq
  obtain rfl:i=items.length:=by lia
  have l1:(acc.map some).length=acc.length:=by simp
  have e1:((acc.map some)++(σ0++(its++tm0))).drop (acc.length+ol)=its++tm0:=by
   rw[<-List.append_assoc];exact z0p _ _ _ (by simp[hol])
  have e2:((acc.map some)++(σ0++(its++tm0))).drop acc.length=σ0++(its++tm0):=z0p _ _ _ l1
  have e3:(σ0++(its++tm0)).take ol=σ0:=z1d _ _ _ hol
  have e4:((acc.map some)++(σ0++(its++tm0))).drop (acc.length+ol+K.k)=tm0:=by
   rw[<-List.append_assoc,<-List.append_assoc];exact z0p _ _ _ (by simp[hol,hk,Nat.add_assoc])
  unfold z43
  simp only[List.length_map,e1,hat,List.getElem?_eq_none (Nat.le_refl items.length),e2,e3,e4,List.drop_length,List.map_nil,gath]
 |succ f ih=>
  intro i acc o n hi ha hq
  have hlt:i<items.length:=by lia
  have l1:(acc.map some).length=acc.length:=by simp
  have e1:((acc.map some)++(σ0++(its++tm0))).drop (acc.length+ol)=its++tm0:=by
   rw[<-List.append_assoc];exact z0p _ _ _ (by simp[hol])
  have e2:((acc.map some)++(σ0++(its++tm0))).take acc.length=acc.map some:=z1d _ _ _ l1
  have hm:items[i]∈items:=List.getElem_mem hlt
  have e5:((acc.map some).map fun o=>o.bind tkey)=(acc.map kk).map some:=by
   rw[List.map_map,List.map_map]
   exact List.map_congr_left fun a h=>hq a h
  rw[List.drop_eq_getElem_cons hlt]
  unfold z43
  simp only[List.length_map,e1,hat,List.getElem?_eq_getElem hlt,asg,List.length_cons,Nat.zero_lt_succ,if_true,List.set_cons_zero,rt,if_pos (show acc.length<76 by lia),hme _ hm,hkey _ hm,e2,e5,List.map_cons,gath]
  cases q:hasK (kk (g items[i])) (acc.map kk) with
  |true=>
   rw[if_pos rfl,if_pos rfl]
   exact ih (i+1) acc _ n (by lia) (by lia) hq
  |false=>
   rw[if_neg Bool.false_ne_true,if_neg Bool.false_ne_true]
   have:=ih (i+1) (g items[i]::acc) (some items[i]) n (by lia) (by simp only[List.length_cons];lia) (List.forall_mem_cons.mpr ⟨hkey _ hm,hq⟩)
   simpa only[List.map_cons,List.cons_append,Stt.psh] using this
theorem z9s{mc:M D}{me:M D}{g:D->D}{l:Nat}{ds:List D}{s:Stt}{σ tm:List (Option D)}{n:Nat}(hc:mc s= .ok (.lst l ds) ⟨σ,tm,n⟩)(hz:ds.length<=76)
 (hme: ∀d∈ds,∀tm n,me ⟨[some d],tm,n⟩= .ok (g d) ⟨[some d],tm,n⟩) (hkey: ∀d∈ds,tkey (g d)=some (kk (g d))):
 z5m (z1h mc) (.nm 0) (rt true) me 1 [] s= .ok (.int (gath [] (ds.map fun d=>kk (g d))).length) ⟨σ,tm,n⟩:=by
 have h:=z8f (K:=kLst) (its:=[some (.lst l ds)]) (items:=ds) (fr:=[]) (σ0:=σ) (tm0:=tm) rfl rfl hz (fun i rest=>rfl) hme hkey ds.length 0 [] none n (by simp) (by simp) (fun _ h=>nomatch h)
 have hi:z1h mc s= .ok kLst ⟨σ,some (.lst l ds)::tm,n⟩:=by unfold z1h;rw[x_bd,hc];rfl
 unfold z5m
 simp only[bd,hi]
 simp only[List.map_nil,List.nil_append,List.drop_zero] at h
 exact h
noncomputable def kd:D->D
 | .tup (a::_)=>a
 |_=> .non
noncomputable def isTb:D->Bool
 | .lst _ ds=>decide (ds.length<=40)&&ds.all isTr&&dst [] (ds.map fun d=>kk (kd d))
 |_=>false
theorem zbh{t:D}(h:isTr t=true): ∃s g e:List Int,t= .tup [.tup (iL s), .tup (iL g), .tup (iL e)]/\1<=s.length/\s.length<=4/\g.length<=3/\e.length<s.length:=by
 unfold isTr at h
 split at h
 ·simp only[Bool.and_eq_true] at h
  obtain⟨⟨h1,h2⟩,h3⟩:=h
  obtain⟨s,rfl,s1,s2,_⟩:=z50 h1
  obtain⟨g,rfl,_,g2,_⟩:=z50 h2
  obtain⟨e,rfl,_,e2,_⟩:=z50 h3
  simp only[tl,iL,List.length_map] at e2
  exact⟨s,g,e,rfl,by lia,by lia,by lia,by lia⟩
 ·cases h
theorem z9t: ∀s:List Int,z3p (iL s)=some (s.map fun i=>Sum.inl (.inl i))
 |[]=>rfl
 |i::s=>by
  simp only[iL,List.map_cons,z3p,nkOf,z3Y]
  have:=z9t s
  simp only[iL] at this
  rw[this]
theorem zdy{t:D}(h:isTr t=true):tkey (kd t)=some (kk (kd t))/\∃s:List Int,kd t= .tup (iL s):=by
 obtain⟨s,g,e,rfl,_⟩:=zbh h
 refine⟨?_,s,rfl⟩
 show tkey (.tup (iL s))=some ((tkey (.tup (iL s))).getD [])
 simp only[tkey,z9t,Option.getD_some]
theorem gtI{a:Nat}:decide ((a:Int)>40)= !decide (a<=40):=by
 by_cases h:a<=40
 ·rw[decide_eq_true h,decide_eq_false (by lia)];rfl
 ·rw[decide_eq_false h,decide_eq_true (by lia)];rfl
theorem zdz(t:D)(hp:plain t=true)(hr: ∀ds,t≠ .ro ds)(n:Nat): ∃n',n<=n'/\z0M [t] n= .ok (.bool (isTb t)) [t] n':=by
 unfold z0M z1P
 cases t with
 |lst l ds=>
  walk_at ""
  rw[gtI]
  by_cases h1:ds.length<=40
  ·simp only[isTb,h1,decide_true,Bool.true_and]
   walk_at ""
   have hz:ds.length<sizeLine:=by have:sizeLine=16777216:=rfl;lia
   obtain⟨n',hn,hc⟩:=z6C (mc:=mVar 0) (mt:=rt true) (me:=z06 z0o [mVar 0]) (p:=fun _=>true) (g:=fun d=> .bool (isTr d)) (l:=l) (ds:=ds) (ix:=[]) (s:=⟨[some (.lst l ds)],[some (.lst l ds)],n⟩) (σ:=[some (.lst l ds)]) (tm:=[some (.lst l ds)]) (n:=n) (by walk_at "") hz (fun d hd tm m=>⟨m,Nat.le_refl _,rfl⟩) (by
    intro d hd _ tm m
    obtain⟨m',hm,e⟩:=zbg d (z1n (by simpa[Mi.plain] using hp) hd) m
    refine⟨m',hm, ?_⟩
    show z06 _ _ ⟨[some d],tm,m⟩=_
    walk_at ""
    rw[e]
    walk_at "")
   rw[List.filter_eq_self.mpr fun _ _=>rfl] at hc
   refine⟨n'+1,by lia, ?_⟩
   rw[hc]
   walk_at ""
   rw[zb8 (z3a ds isTr)]
   walk_at ""
   simp only[List.all_map]
   cases ha:ds.all isTr with
   |false=>
    rw[show ds.all (id∘isTr)=false from ha]
    walk_at ""
   |true=>
    rw[show ds.all (id∘isTr)=true from ha]
    walk_at ""
    have hall:=List.all_eq_true.mp ha
    rw[z9s (mc:=mVar 0) (g:=kd) (l:=l) (ds:=ds) (σ:=[some (.lst l ds)]) (tm:=[some (.lst l ds)]) (n:=n'+1) (by walk_at "") (by lia) (fun d hd tm m=>by
     obtain⟨s,g,e,rfl,_⟩:=zbh (hall d hd)
     walk_at ""
     rfl) (fun d hd=>(zdy (hall d hd)).1)]
    walk_at ""
    have:=z5Y (ds.map fun d=>kk (kd d)) []
    simp only[List.length_nil,List.length_map,Nat.zero_add] at this
    rw[<-this]
  ·refine⟨n,Nat.le_refl _, ?_⟩
   simp only[isTb,h1,decide_false,Bool.false_and]
   walk_at ""
 |dct _ _ _=>simp[Mi.plain] at hp
 |obj _ _ _ _=>simp[Mi.plain] at hp
 |exc _=>simp[Mi.plain] at hp
 |fn _=>simp[Mi.plain] at hp
 |ro ds=>exact absurd rfl (hr ds)
 |fdc _ _=>simp[Mi.plain] at hp
 |_=>refine⟨n,Nat.le_refl _, ?_⟩;walk_at "";rfl
theorem z9u: ∀a b:List Int,PyData.eqv (.tuple (a.map .int)) (.tuple (b.map .int))=decide (a=b):=by
 intro a
 simp only[PyData.eqv]
 induction a with
 |nil=>intro b;cases b<;>rfl
 |cons x a ih=>
  intro b
  cases b with
  |nil=>rfl
  |cons y b=>simp only[List.map_cons,PyData.eqvAll,PyData.eqv,ih b];by_cases h:x=y<;>simp[h]
noncomputable def sk(ss:List (List Int)):List D:=ss.map fun s=> .tup (iL s)
theorem zbi(s:List Int):erL (iL s)=s.map .int:=by
 induction s with
 |nil=>rfl
 |cons i s ih=>simp only[iL,List.map_cons,erL,er] at ih⊢;rw[ih]
theorem zfj(ss:List (List Int)):erL (sk ss)=ss.map fun s=> .tuple (s.map .int):=by
 induction ss with
 |nil=>rfl
 |cons s ss ih=>simp only[sk,List.map_cons,erL,er,zbi] at ih⊢;rw[ih]
theorem zdA{ss:List (List Int)}(h: ∀s∈ss,s.length<=4): ∀d∈sk ss,Tr d=true/\(er d).depth<=1:=fun d hd=>by
 obtain⟨s,hs,rfl⟩:=List.mem_map.mp hd
 have:=h s hs
 exact zdu (by simp[iL];lia) fun e he=>by
  obtain⟨i,_,rfl⟩:=List.mem_map.mp he
  exact zdv
theorem zfk{s:List Int}{ss:List (List Int)}{m:Nat}{st:Stt}(hs:s.length<=4)(h: ∀s∈ss,s.length<=4):inD (.tup (iL s)) (.lst m (sk ss)) st= .ok (.bool (ss.any fun q=>decide (q=s))) st:=by
 have t1:=zdA h
 have t0:=zdA (ss:=[s]) (by simpa using hs) (.tup (iL s)) (by simp[sk])
 have g0:=z6E (n:=0) _ (zbf _ t0.1)
 have g1:GdL (sk ss):=RsL_gd (n:=0) _ (z8b.mpr fun d hd=>zbf d (t1 d hd).1)
 rw[y_in (ds:=sk ss) rfl (by
  simp only[inC,Bool.and_eq_true,decide_eq_true_eq]
  exact⟨⟨⟨⟨g0.1,g1.1⟩,g0.2⟩,g1.2⟩,by have:=t0.2;lia⟩)]
 congr 2
 rw[zfj,List.any_map]
 simp only[er,zbi]
 congr 1
 funext q
 exact z9u q s
noncomputable def ki(s:List Int):NK:=s.map fun i=>Sum.inl (.inl i)
theorem z8g: ∀{a b:List Int},ki a=ki b->a=b
 |[],[],_=>rfl
 |[],_::_,h=>nomatch h
 |_::_,[],h=>nomatch h
 |x::a,y::b,h=>by
  simp only[ki,List.map_cons,List.cons.injEq,Sum.inl.injEq] at h
  rw[h.1,z8g (a:=a) (b:=b) h.2]
theorem zdB(s:List Int):kk (.tup (iL s))=ki s:=by
 show(tkey (.tup (iL s))).getD []=_
 simp only[tkey,z9t,Option.getD_some]
 rfl
noncomputable def bT:MS:=(seqS (sIf (mOr (mNot (z0D (mIsi "tuple" (mVar 2)))) (mOr (mBoo (mBin (mCB [(mVar 2)] lenD) (mC (.int 3)) neD)) (mNot (z0D (z06 z0d [(mBin (mVar 2) (mC (.int 0)) ixD),(mC (.int 1)),(mC (.int 4)),(mC (.int 25))]))))) (sRet (mC (.bool false))) sNx)
 (seqS (sIf (mOr (mNot (z0D (z06 z0d [(mBin (mVar 2) (mC (.int 1)) ixD),(mC (.int 0)),(mC (.int 3)),(mC (.int 39))]))) (mNot (z0D (z06 z0d [(mBin (mVar 2) (mC (.int 2)) ixD),(mC (.int 0)),(mBin (mCB [(mBin (mVar 2) (mC (.int 0)) ixD)] lenD) (mC (.int 1)) subD),(mC (.int 25))])))) (sRet (mC (.bool false))) sNx)
 (seqS (sIf (mBoo (mBin (mBin (mVar 2) (mC (.int 0)) ixD) (mVar 1) inD)) (sRet (mC (.bool false))) sNx)
 (z5a (z3V (mVar 1) [(mBin (mVar 2) (mC (.int 0)) ixD)] appD)))))
theorem zfl(T:D)(m n:Nat)(se d:D)(hp:plain d=true)(h:isTr d=false): ∃n',n<=n'/\bT ⟨[some T,some se,some d],[some T,some T],n⟩= .rt (.bool false) ⟨[some T,some se,some d],[some T,some T],n'⟩:=by
 unfold bT
 cases d with
 |tup ds=>
  walk_at ""
  rw[ne3]
  by_cases h3:ds.length=3
  ·match ds,h3 with
   |[a,b,c],_=>
   simp only[Mi.plain,plainL,Bool.and_eq_true] at hp
   obtain⟨pa,pb,pc,_⟩:=hp
   obtain⟨n1,h1,e1⟩:=z2q a 1 4 25 n pa (by decide)
   obtain⟨n2,h2,e2⟩:=z2q b 0 3 39 n1 pb (by decide)
   simp only[isTr] at h
   simp only[List.length_cons,List.length_nil,decide_true]
   walk_at ""
   rw[e1]
   cases q1:rowB 1 4 25 a with
   |false=>refine⟨n1,h1, ?_⟩;walk_at ""
   |true=>
    obtain⟨s,rfl,s1,s2,s3⟩:=z50 q1
    obtain⟨n3,h3,e3⟩:=z2q c 0 (tl (.tup (iL s)) - 1) 25 n2 pc (by show((iL s).length:Int) - 1<_;simp only[iL,List.length_map];lia)
    walk_at ""
    rw[e2]
    cases q2:rowB 0 3 39 b with
    |false=>refine⟨n2,by lia, ?_⟩;walk_at ""
    |true=>
     refine⟨n3,by lia, ?_⟩
     walk_at ""
     simp only[tl] at e3 h
     rw[q1,q2] at h
     rw[e3,show rowB 0 (((iL s).length:Int) - 1) 25 c=false by simpa using h]
     walk_at ""
  ·refine⟨n,Nat.le_refl _, ?_⟩
   simp only[h3,decide_false,Bool.not_false]
   walk_at ""
 |dct _ _ _=>simp[Mi.plain] at hp
 |obj _ _ _ _=>simp[Mi.plain] at hp
 |exc _=>simp[Mi.plain] at hp
 |fn _=>simp[Mi.plain] at hp
 |fdc _ _=>simp[Mi.plain] at hp
 |_=>refine⟨n,Nat.le_refl _, ?_⟩;walk_at ""
theorem rL_i(f:Nat->Option D)(s:List Int):rpL f (iL s)=iL s:=by
 induction s with
 |nil=>rfl
 |cons i s ih=>simp only[iL,List.map_cons,rpL,rp] at ih⊢;rw[ih]
theorem zdC(s:List Int):labsL (iL s)=[]:=by
 induction s with
 |nil=>rfl
 |cons i s ih=>simp only[iL,List.map_cons,labsL,labs,List.nil_append] at ih⊢;exact ih
theorem zbj(ss:List (List Int))(s:List Int):sk ss++[.tup (iL s)]=sk (ss++[s]):=by simp[sk]
theorem zdD(ss:List (List Int)):(sk ss).length=ss.length:=by simp[sk]
theorem zdE(T:D)(m n:Nat)(ss:List (List Int))(s g e:List Int)(htr:isTr (.tup [.tup (iL s), .tup (iL g), .tup (iL e)])=true)(hs:s.length<=4)(hss: ∀q∈ss,q.length<=4)(hl:ss.length<=100)(hT:m∉labs T):
 ∃n',n<=n'/\bT ⟨[some T,some (.lst m (sk ss)),some (.tup [.tup (iL s), .tup (iL g), .tup (iL e)])],[some T,some T],n⟩=(if(ss.any fun q=>decide (q=s))=true then .rt (.bool false) ⟨[some T,some (.lst m (sk ss)),some (.tup [.tup (iL s), .tup (iL g), .tup (iL e)])],[some T,some T],n'⟩
  else .nx ⟨[some T,some (.lst m (sk (ss++[s]))),some (.tup [.tup (iL s), .tup (iL g), .tup (iL e)])],[some T,some T],n'⟩):=by
 unfold bT
 simp only[isTr,Bool.and_eq_true] at htr
 obtain⟨⟨q1,q2⟩,q3⟩:=htr
 obtain⟨n1,h1,e1⟩:=z2q (.tup (iL s)) 1 4 25 n (z4e s) (by decide)
 obtain⟨n2,h2,e2⟩:=z2q (.tup (iL g)) 0 3 39 n1 (z4e g) (by decide)
 obtain⟨n3,h3,e3⟩:=z2q (.tup (iL e)) 0 (tl (.tup (iL s)) - 1) 25 n2 (z4e e) (by show((iL s).length:Int) - 1<_;simp only[iL,List.length_map];lia)
 rw[q1] at e1
 rw[q2] at e2
 rw[q3] at e3
 simp only[tl] at e3
 refine⟨n3,by lia, ?_⟩
 walk_at ""
 rw[ne3]
 simp only[List.length_cons,List.length_nil,decide_true]
 walk_at ""
 rw[e1]
 walk_at ""
 rw[e2]
 walk_at ""
 rw[e3]
 walk_at ""
 rw[zfk hs hss]
 cases hq:ss.any fun q=>decide (q=s) with
 |true=>walk_at "";rfl
 |false=>
  walk_at ""
  rw[zdl ⟨by rw[zdD,zl];lia,by simp only[labs,zdC];simp⟩]
  simp only[zbj]
  walk_at ""
  rw[if_neg Bool.false_ne_true,z0y hT]
  simp only[rL_i]
theorem zfm(l:Nat)(ds:List D)(hp:plainL ds=true)(m:Nat)(hT:m∉labs (.lst l ds))(hz:ds.length<=40): ∀(f i:Nat) (ss:List (List Int)) (acc:List NK) (o:Option D) (n:Nat),i+f=ds.length->ss.length<=i->(∀q∈ss,q.length<=4)->(∀q,hasK (ki q) acc=ss.any fun p=>decide (p=q))->
 ∃x y n',n<=n'/\forGo kLst (.nm 2) bT f i ⟨[some (.lst l ds),some (.lst m (sk ss)),o],[some (.lst l ds),some (.lst l ds)],n⟩=(if((ds.drop i).all isTr&&dst acc ((ds.drop i).map fun d=>kk (kd d)))=true then .nx ⟨[some (.lst l ds),some (.lst m (sk x)),y],[some (.lst l ds)],n'⟩ else .rt (.bool false) ⟨[some (.lst l ds),some (.lst m (sk x)),y],[some (.lst l ds)],n'⟩):=by
 intro f
 induction f with
 |zero=>
  intro i ss acc o n hi hs h4 ha
  obtain rfl:i=ds.length:=by lia
  refine⟨ss,o,n,Nat.le_refl _, ?_⟩
  rw[zbd (by show some ds[ds.length]? =_;rw[List.getElem?_eq_none (Nat.le_refl _)])]
  simp only[List.drop_length,List.all_nil,List.map_nil,dst,Bool.and_self,if_true]
  rfl
 |succ f ih=>
  intro i ss acc o n hi hs h4 ha
  have hlt:i<ds.length:=by lia
  have hm:ds[i]∈ds:=List.getElem_mem hlt
  have hat:kLst.at' i [some (.lst l ds),some (.lst l ds)]=some (some ds[i]):=by show some ds[i]? =_;rw[List.getElem?_eq_getElem hlt]
  rw[List.drop_eq_getElem_cons hlt]
  cases ht:isTr ds[i] with
  |false=>
   obtain⟨n',hn,e⟩:=zfl (.lst l ds) m n (.lst m (sk ss)) ds[i] (z1n hp hm) ht
   refine⟨ss,some ds[i],n',hn, ?_⟩
   rw[z88 (K:=kLst) hat rfl e]
   simp only[List.all_cons,ht,Bool.false_and,Bool.false_eq_true,if_false]
   rfl
  |true=>
   obtain⟨s,g,e,hd,s1,s4,_⟩:=zbh ht
   obtain⟨n',hn,eb⟩:=zdE (.lst l ds) m n ss s g e (by rw[<-hd];exact ht) s4 h4 (by lia) hT
   rw[<-hd] at eb
   have hk:kk (kd ds[i])=ki s:=by rw[hd];exact zdB s
   simp only[List.all_cons,ht,Bool.true_and,List.map_cons,dst,hk,ha s]
   cases hq:ss.any fun q=>decide (q=s) with
   |true=>
    rw[hq,if_pos rfl] at eb
    refine⟨ss,some ds[i],n',hn, ?_⟩
    rw[z88 (K:=kLst) hat rfl eb]
    simp only[Bool.not_true,Bool.false_and,Bool.and_false,Bool.false_eq_true,if_false]
    rfl
   |false=>
    rw[hq,if_neg Bool.false_ne_true] at eb
    obtain⟨x,y,n2,hn2,e2⟩:=ih (i+1) (ss++[s]) (ki s::acc) (some ds[i]) n' (by lia) (by simp;lia) (fun q hq=>by
     rcases List.mem_append.mp hq with z|z
     ·exact h4 q z
     ·rw[List.mem_singleton.mp z];exact s4) (fun q=>by
     have:=ha q
     simp only[hasK,List.any_cons,List.any_append,List.any_nil,Bool.or_false] at this⊢
     rw[this,Bool.or_comm]
     congr 1
     by_cases z:s=q
     ·subst z;simp
     ·rw[decide_eq_false z,decide_eq_false fun w=>z (z8g w)])
    refine⟨x,y,n2,by lia, ?_⟩
    rw[z9r (K:=kLst) hat rfl eb]
    simp only[Bool.not_false,Bool.true_and]
    exact e2
theorem ltM:z1R=seqS (sIf (mOr (mNot (z0D (mIsi "list" (mVar 0)))) (mBoo (mBin (mCB [(mVar 0)] lenD) (mC (.int 40)) gtD))) (sRet (mC (.bool false))) sNx)
 (seqS (sAsg (.nm 1) (mCB [] lstM)) (seqS (sFor (z1h (mVar 0)) (.nm 2) bT) (sRet (mC (.bool true))))):=rfl
theorem z8h(t:D)(hp:plain t=true)(hr: ∀ds,t≠ .ro ds)(n:Nat)(hf:n∉labs t): ∃n',n<=n'/\z0t [t] n= .ok (.bool (isTb t)) [t] n':=by
 unfold z0t
 rw[ltM]
 cases t with
 |lst l ds=>
  walk_at ""
  rw[gtI]
  by_cases h1:ds.length<=40
  ·obtain⟨x,y,n',hn,e⟩:=zfm l ds (by simpa[Mi.plain] using hp) n hf h1 ds.length 0 [] [] none (n+1) (by simp) (by simp) (fun _ h=>nomatch h) (fun q=>rfl)
   refine⟨n',by lia, ?_⟩
   simp only[isTb,h1,decide_true,Bool.true_and]
   walk_at ""
   have hi:z1h (mVar 0) ⟨[some (.lst l ds),some (.lst n []),none],[some (.lst l ds)],n+1⟩= .ok kLst ⟨[some (.lst l ds),some (.lst n []),none],[some (.lst l ds),some (.lst l ds)],n+1⟩:=rfl
   rw[hi,zb3]
   have e':forGo kLst (.nm 2) bT (kLst.len [some (.lst l ds),some (.lst l ds)]) 0 ⟨[some (.lst l ds),some (.lst n []),none],[some (.lst l ds),some (.lst l ds)],n+1⟩=_:=e
   rw[e']
   simp only[List.drop_zero]
   cases hb:ds.all isTr&&dst [] (ds.map fun d=>kk (kd d)) with
   |false=>rw[if_neg Bool.false_ne_true];walk_at ""
   |true=>rw[if_pos rfl];walk_at ""
  ·refine⟨n,Nat.le_refl _, ?_⟩
   simp only[isTb,h1,decide_false,Bool.false_and]
   walk_at ""
 |dct _ _ _=>simp[Mi.plain] at hp
 |obj _ _ _ _=>simp[Mi.plain] at hp
 |exc _=>simp[Mi.plain] at hp
 |fn _=>simp[Mi.plain] at hp
 |fdc _ _=>simp[Mi.plain] at hp
 |ro ds=>exact absurd rfl (hr ds)
 |_=>refine⟨n,Nat.le_refl _, ?_⟩;walk_at "";rfl
mutual
noncomputable def Co(T:Nat->Option D)(l:Nat):D->Prop
 | .lst k ds=>k=l\/(T k=some (.lst k ds)/\l∉labsL ds/\CoL T l ds)
 | .tup ds=>CoL T l ds
 | .ro ds=>CoL T l ds
 | .non=>True| .bool _=>True| .int _=>True| .str _=>True
 | .dct _ _ _=>False| .obj _ _ _ _=>False| .exc _=>False| .fn _=>False| .fdc _ _=>False
noncomputable def CoL(T:Nat->Option D)(l:Nat):List D->Prop
 |[]=>True
 |d::ds=>Co T l d/\CoL T l ds
end
theorem z0F{T:Nat->Option D}{l:Nat}: ∀{ds:List D},CoL T l ds↔∀d∈ds,Co T l d
 |[]=>by simp[CoL]
 |d::ds=>by simp only[CoL,List.forall_mem_cons,z0F (ds:=ds)]
mutual
theorem zdF{T:Nat->Option D}{l:Nat}{f:Nat->Option D}{d0:D}(h1: ∀k d,f k=some d->k≠l->T k=some d)(h2:f l=some d0): ∀t:D,Co T l t->rp f t=rp (pl l d0) t
 | .non,_=>rfl
 | .bool _,_=>rfl
 | .int _,_=>rfl
 | .str _,_=>rfl
 | .tup ds,h=>by simp only[Co] at h;simp only[rp,rpL_co h1 h2 ds h]
 | .ro ds,h=>by simp only[Co] at h;simp only[rp,rpL_co h1 h2 ds h]
 | .dct _ _ _,h=>by simp[Co] at h
 | .obj _ _ _ _,h=>by simp[Co] at h
 | .exc _,h=>by simp[Co] at h
 | .fn _,h=>by simp[Co] at h
 | .fdc _ _,h=>by simp[Co] at h
 | .lst k ds,h=>by
  simp only[Co] at h
  by_cases hk:k=l
  ·subst hk;rw[z9O];simp only[rp,h2]
  ·rcases h with h|⟨a,b,c⟩
   ·exact absurd h hk
   ·rw[z4Z hk]
    simp only[rp]
    cases e:f k with
    |none=>simp only[];rw[rpL_co h1 h2 ds c]
    |some d=>
     have q:=h1 k d e hk
     rw[a] at q
     cases q
     rw[show rpL (pl l d0) ds=ds from rpL_id ds fun j hj=>by unfold pl;rw[if_neg];rintro rfl;exact b hj]
theorem rpL_co{T:Nat->Option D}{l:Nat}{f:Nat->Option D}{d0:D}(h1: ∀k d,f k=some d->k≠l->T k=some d)(h2:f l=some d0): ∀t:List D,CoL T l t->rpL f t=rpL (pl l d0) t
 |[],_=>rfl
 |d::ds,h=>by simp only[CoL] at h;simp only[rpL,zdF h1 h2 d h.1,rpL_co h1 h2 ds h.2]
end
mutual
theorem z9v{T:Nat->Option D}{l k:Nat}{d:D}: ∀t:D,l∉labs t->Co T l t->z0b k t=some d->T k=some d
 | .non,_,_,e=>by simp[z0b] at e
 | .bool _,_,_,e=>by simp[z0b] at e
 | .int _,_,_,e=>by simp[z0b] at e
 | .str _,_,_,e=>by simp[z0b] at e
 | .tup ds,hl,h,e=>by simp only[Co] at h;simp only[labs] at hl;simp only[z0b] at e;exact findL_co ds hl h e
 | .ro ds,hl,h,e=>by simp only[Co] at h;simp only[labs] at hl;simp only[z0b] at e;exact findL_co ds hl h e
 | .dct _ _ _,_,h,_=>by simp[Co] at h
 | .obj _ _ _ _,_,h,_=>by simp[Co] at h
 | .exc _,_,h,_=>by simp[Co] at h
 | .fn _,_,h,_=>by simp[Co] at h
 | .fdc _ _,_,h,_=>by simp[Co] at h
 | .lst j ds,hl,h,e=>by
  simp only[Co] at h
  simp only[labs,List.mem_cons,not_or] at hl
  rcases h with h|⟨a,b,c⟩
  ·exact absurd h.symm hl.1
  ·simp only[z0b] at e
   by_cases hj:j=k
   ·subst hj;rw[if_pos rfl] at e;cases e;exact a
   ·rw[if_neg hj] at e;exact findL_co ds hl.2 c e
theorem findL_co{T:Nat->Option D}{l k:Nat}{d:D}: ∀t:List D,l∉labsL t->CoL T l t->findL k t=some d->T k=some d
 |[],_,_,e=>by simp[findL] at e
 |x::xs,hl,h,e=>by
  simp only[CoL] at h
  simp only[labsL,List.mem_append,not_or] at hl
  simp only[findL] at e
  cases q:z0b k x with
  |some y=>rw[q] at e;cases e;exact z9v x hl.1 h.1 q
  |none=>rw[q] at e;exact findL_co xs hl.2 h.2 e
end
mutual
theorem z9w{k:Nat}: ∀t:D,k∈labs t->(∀j ks vs,t≠ .dct j ks vs)->Rs 0 t=true->(z0b k t).isSome=true
 | .non,e,_,_=>by simp[labs] at e
 | .bool _,e,_,_=>by simp[labs] at e
 | .int _,e,_,_=>by simp[labs] at e
 | .str _,e,_,_=>by simp[labs] at e
 | .tup ds,e,_,h=>by simp only[Rs,Bool.and_eq_true] at h;simp only[labs] at e;simp only[z0b];exact findL_in ds e h.2
 | .ro _,_,_,h=>by simp[Rs] at h
 | .dct _ _ _,_,_,h=>by simp[Rs] at h
 | .obj _ _ _ _,_,_,h=>by simp[Rs] at h
 | .exc _,_,_,h=>by simp[Rs] at h
 | .fn _,_,_,h=>by simp[Rs] at h
 | .fdc _ _,_,_,h=>by simp[Rs] at h
 | .lst j ds,e,_,h=>by
  simp only[Rs,Bool.and_eq_true] at h
  simp only[z0b]
  by_cases hj:j=k
  ·rw[if_pos hj];rfl
  ·rw[if_neg hj]
   simp only[labs,List.mem_cons] at e
   rcases e with e|e
   ·exact absurd e.symm hj
   ·exact findL_in ds e h.2.2
theorem findL_in{k:Nat}: ∀t:List D,k∈labsL t->RsL 0 t=true->(findL k t).isSome=true
 |[],e,_=>by simp[labsL] at e
 |x::xs,e,h=>by
  simp only[RsL,Bool.and_eq_true] at h
  simp only[labsL,List.mem_append] at e
  simp only[findL]
  cases q:z0b k x with
  |some y=>rfl
  |none=>
   rcases e with e|e
   ·have:=z9w x e (fun j ks vs hx=>by subst hx;simp[Rs] at h) h.1;rw[q] at this;cases this
   ·exact findL_in xs e h.2
end
mutual
theorem z3H{T T':Nat->Option D}{l n:Nat}(h: ∀k,k<n->T' k=T k): ∀t:D,Up n t->Co T l t->Co T' l t
 | .non,_,_=>trivial
 | .bool _,_,_=>trivial
 | .int _,_,_=>trivial
 | .str _,_,_=>trivial
 | .tup ds,u,c=>by simp only[Co] at c⊢;exact coL_ext h ds (fun k hk=>u k (by simp only[labs];exact hk)) c
 | .ro ds,u,c=>by simp only[Co] at c⊢;exact coL_ext h ds (fun k hk=>u k (by simp only[labs];exact hk)) c
 | .dct _ _ _,_,c=>by simp[Co] at c
 | .obj _ _ _ _,_,c=>by simp[Co] at c
 | .exc _,_,c=>by simp[Co] at c
 | .fn _,_,c=>by simp[Co] at c
 | .fdc _ _,_,c=>by simp[Co] at c
 | .lst k ds,u,c=>by
  simp only[Co] at c⊢
  rcases c with c|⟨c1,c2,c3⟩
  ·exact .inl c
  ·exact .inr ⟨by rw[h k (u k (by simp[labs]))];exact c1,c2,coL_ext h ds (fun j hj=>u j (by simp only[labs,List.mem_cons];exact .inr hj)) c3⟩
theorem coL_ext{T T':Nat->Option D}{l n:Nat}(h: ∀k,k<n->T' k=T k): ∀t:List D,(∀k∈labsL t,k<n)->CoL T l t->CoL T' l t
 |[],_,_=>trivial
 |d::ds,u,c=>by
  simp only[CoL] at c⊢
  exact⟨z3H h d (fun k hk=>u k (by simp only[labsL,List.mem_append];exact .inl hk)) c.1,coL_ext h ds (fun k hk=>u k (by simp only[labsL,List.mem_append];exact .inr hk)) c.2⟩
end
mutual
theorem z8i{f g:Nat->Option D}: ∀t:D,(∀l∈labs t,f l=g l)->rp f t=rp g t
 | .non,_=>rfl
 | .bool b,_=>rfl
 | .int b,_=>rfl
 | .str b,_=>rfl
 | .exc b,_=>rfl
 | .fn b,_=>rfl
 | .tup ds,h=>by simp only[rp,labs] at h⊢;rw[rpL_cong ds h]
 | .ro ds,h=>by simp only[rp,labs] at h⊢;rw[rpL_cong ds h]
 | .fdc ks vs,h=>by simp only[rp,labs] at h⊢;rw[rpL_cong vs h]
 | .lst l ds,h=>by
  simp only[rp,labs] at h⊢
  rw[h l (List.mem_cons_self ..),rpL_cong ds fun k hk=>h k (List.mem_cons_of_mem _ hk)]
 | .dct l ks vs,h=>by
  simp only[rp,labs] at h⊢
  rw[h l (List.mem_cons_self ..),rpL_cong vs fun k hk=>h k (List.mem_cons_of_mem _ (List.mem_append_right _ hk))]
 | .obj l c ns vs,h=>by
  simp only[rp,labs] at h⊢
  rw[h l (List.mem_cons_self ..),rpL_cong vs fun k hk=>h k (List.mem_cons_of_mem _ hk)]
theorem rpL_cong{f g:Nat->Option D}: ∀t:List D,(∀l∈labsL t,f l=g l)->rpL f t=rpL g t
 |[],_=>rfl
 |d::ds,h=>by
  simp only[rpL,labsL] at h⊢
  rw[z8i d fun l hk=>h l (List.mem_append_left _ hk),rpL_cong ds fun l hk=>h l (List.mem_append_right _ hk)]
end
noncomputable def CoF(T:Nat->Option D)(l lo:Nat):List (Option D)->Prop
 |[]=>True
 |none::r=>CoF T l lo r
 |some d::r=>(Co T l d\/Up lo d)/\CoF T l lo r
theorem z5Z{T:Nat->Option D}{l lo:Nat}{f:Nat->Option D}{d0:D}(h1: ∀k d,f k=some d->k≠l->T k=some d)(h2:f l=some d0)(h3: ∀k,k<lo->k≠l->f k=none): ∀t:List (Option D),CoF T l lo t->rpO f t=rpO (pl l d0) t
 |[],_=>rfl
 |none::r,h=>by simp only[CoF] at h;simp only[rpO,z5Z h1 h2 h3 r h]
 |some d::r,h=>by
  simp only[CoF] at h
  have e:rp f d=rp (pl l d0) d:=by
   rcases h.1 with h|h
   ·exact zdF h1 h2 d h
   ·refine z8i d fun j hj=> ?_
    by_cases q:j=l
    ·subst q;rw[h2];simp[pl]
    ·rw[h3 j (h j hj) q];simp[pl,q]
  simp only[rpO,e,z5Z h1 h2 h3 r h.2]
theorem z2r{T:Nat->Option D}{t:D}{l n' n:Nat}{b b' r:List D}{σ tm:List (Option D)}{σ1 tm1:D->List (Option D)}(hb:labsL b=[])(hb':labsL b'=[])(hr:CoL T l r)(hl:l∉labsL r)(hR:RsL 0 r=true)(c1:CoF T l 0 σ)(c2:CoF T l 0 tm)(f1: ∀q,rpO (pl l q) σ=σ1 q)(f2: ∀q,rpO (pl l q) tm=tm1 q)(g1:σ1 (.lst l b)=σ:=by rfl)(g2:tm1 (.lst l b)=tm:=by rfl):
 z2A (.ok t (.lst l b'::r) n') (.lst l b::r) ⟨σ,tm,n⟩= .ok t ⟨σ1 (.lst l b'),tm1 (.lst l b'),n'⟩:=by
 have e1:findL l (.lst l b'::r)=some (.lst l b'):=by simp only[findL,z0b,if_true]
 have e2: ∀k d,findL k (.lst l b'::r)=some d->k≠l->T k=some d:=fun k d e hk=>by
  simp only[findL,z0b] at e
  rw[if_neg (fun q=>hk q.symm),findL_none b' (by rw[hb'];exact List.not_mem_nil)] at e
  exact findL_co r hl hr e
 have e3: ∀k,k<0->k≠l->findL k (.lst l b'::r)=none:=fun k h=>absurd h (Nat.not_lt_zero k)
 rw[<-f1,<-f2]
 unfold z2A
 by_cases h:(D.lst l b'::r)=(D.lst l b::r)
 ·have hh:b'=b:=by injection h with h _;injection h
  subst hh
  simp only[if_true]
  rw[f1,f2,g1,g2]
 ·simp only[if_neg h]
  rw[if_pos,z5Z e2 e1 e3 σ c1,z5Z e2 e1 e3 tm c2]
  intro k _ hk
  by_cases hkl:k=l
  ·subst hkl;rw[e1];rfl
  ·simp only[labsL,labs,hb,List.mem_append,List.mem_cons,List.not_mem_nil,or_false] at hk
   rcases hk with hk|hk
   ·exact absurd hk hkl
   ·have:=findL_in r hk hR
    simp only[findL,z0b]
    rw[if_neg (fun q=>hkl q.symm),findL_none b' (by rw[hb'];exact List.not_mem_nil)]
    exact this
mutual
noncomputable def Sw(lo W:Nat):D->Bool
 | .non=>true| .bool _=>true| .int _=>true| .str x=>PyData.strOk x
 | .tup ds=>decide (ds.length<=W)&&SwL lo W ds
 | .lst l ds=>decide (lo<=l)&&(decide (ds.length<=W)&&SwL lo W ds)
 | .ro _=>false| .dct _ _ _=>false| .obj _ _ _ _=>false| .exc _=>false| .fn _=>false| .fdc _ _=>false
noncomputable def SwL(lo W:Nat):List D->Bool
 |[]=>true
 |d::ds=>Sw lo W d&&SwL lo W ds
end
theorem z3e{lo W:Nat}: ∀{ds:List D},SwL lo W ds=true↔∀d∈ds,Sw lo W d=true
 |[]=>by simp[SwL]
 |d::ds=>by simp only[SwL,Bool.and_eq_true,List.forall_mem_cons,z3e (ds:=ds)]
mutual
theorem z4f{lo W:Nat}(hW:W<=2000): ∀t:D,Sw lo W t=true->Rs lo t=true
 | .non,_=>rfl
 | .bool _,_=>rfl
 | .int _,_=>rfl
 | .str x,h=>by simp only[Sw] at h;simp only[Rs];exact h
 | .tup ds,h=>by simp only[Sw,Bool.and_eq_true,decide_eq_true_eq] at h;simp only[Rs,Bool.and_eq_true,decide_eq_true_eq];exact⟨Nat.le_trans h.1 hW,SwL_rs hW ds h.2⟩
 | .lst l ds,h=>by simp only[Sw,Bool.and_eq_true,decide_eq_true_eq] at h;simp only[Rs,Bool.and_eq_true,decide_eq_true_eq];exact⟨h.1,Nat.le_trans h.2.1 hW,SwL_rs hW ds h.2.2⟩
 | .ro _,h=>by simp[Sw] at h
 | .dct _ _ _,h=>by simp[Sw] at h
 | .obj _ _ _ _,h=>by simp[Sw] at h
 | .exc _,h=>by simp[Sw] at h
 | .fn _,h=>by simp[Sw] at h
 | .fdc _ _,h=>by simp[Sw] at h
theorem SwL_rs{lo W:Nat}(hW:W<=2000): ∀t:List D,SwL lo W t=true->RsL lo t=true
 |[],_=>rfl
 |d::ds,h=>by simp only[SwL,Bool.and_eq_true] at h;simp only[RsL,Bool.and_eq_true];exact⟨z4f hW d h.1,SwL_rs hW ds h.2⟩
end
mutual
theorem z2s{lo lo' W W':Nat}(h1:lo'<=lo)(h2:W<=W'): ∀t:D,Sw lo W t=true->Sw lo' W' t=true
 | .non,_=>rfl
 | .bool _,_=>rfl
 | .int _,_=>rfl
 | .str x,h=>by simp only[Sw] at h⊢;exact h
 | .tup ds,h=>by simp only[Sw,Bool.and_eq_true,decide_eq_true_eq] at h⊢;exact⟨Nat.le_trans h.1 h2,SwL_mono h1 h2 ds h.2⟩
 | .lst l ds,h=>by simp only[Sw,Bool.and_eq_true,decide_eq_true_eq] at h⊢;exact⟨Nat.le_trans h1 h.1,Nat.le_trans h.2.1 h2,SwL_mono h1 h2 ds h.2.2⟩
 | .ro _,h=>by simp[Sw] at h
 | .dct _ _ _,h=>by simp[Sw] at h
 | .obj _ _ _ _,h=>by simp[Sw] at h
 | .exc _,h=>by simp[Sw] at h
 | .fn _,h=>by simp[Sw] at h
 | .fdc _ _,h=>by simp[Sw] at h
theorem SwL_mono{lo lo' W W':Nat}(h1:lo'<=lo)(h2:W<=W'): ∀t:List D,SwL lo W t=true->SwL lo' W' t=true
 |[],_=>rfl
 |d::ds,h=>by simp only[SwL,Bool.and_eq_true] at h⊢;exact⟨z2s h1 h2 d h.1,SwL_mono h1 h2 ds h.2⟩
end
structure Wq(T:Nat->Option D)(l lo n W K:Nat)(t:D):Prop where
 sw:Sw lo W t=true
 dp:(er t).depth<=K
 up:Up n t
 co:Co T l t
mutual
theorem coN{T:Nat->Option D}{l:Nat}: ∀t:D,labs t=[]->Rs 0 t=true->Co T l t
 | .non,_,_=>trivial
 | .bool _,_,_=>trivial
 | .int _,_,_=>trivial
 | .str _,_,_=>trivial
 | .tup ds,h,r=>by simp only[labs] at h;simp only[Rs,Bool.and_eq_true] at r;simp only[Co];exact coNL ds h r.2
 | .lst _ _,h,_=>by simp[labs] at h
 | .ro _,_,r=>by simp[Rs] at r
 | .dct _ _ _,_,r=>by simp[Rs] at r
 | .obj _ _ _ _,_,r=>by simp[Rs] at r
 | .exc _,_,r=>by simp[Rs] at r
 | .fn _,_,r=>by simp[Rs] at r
 | .fdc _ _,_,r=>by simp[Rs] at r
theorem coNL{T:Nat->Option D}{l:Nat}: ∀t:List D,labsL t=[]->RsL 0 t=true->CoL T l t
 |[],_,_=>trivial
 |d::ds,h,r=>by
  simp only[labsL,List.append_eq_nil_iff] at h
  simp only[RsL,Bool.and_eq_true] at r
  simp only[CoL]
  exact⟨coN d h.1 r.1,coNL ds h.2 r.2⟩
end
mutual
noncomputable def Lv(B:Nat):PyData->Bool
 | .none=>true| .bool _=>true
 | .int i=>decide (i.natAbs<=10^59+B)
 | .str x=>x.cps.toList.all fun c=>decide (c<16^8)
 | .list xs=>LvA B xs| .tuple xs=>LvA B xs| .dict _=>false
noncomputable def LvA(B:Nat):List PyData->Bool
 |[]=>true
 |x::xs=>Lv B x&&LvA B xs
end
theorem z3f{B:Nat}: ∀{ds:List D},LvA B (erL ds)=true↔∀d∈ds,Lv B (er d)=true
 |[]=>by simp[erL,LvA]
 |d::ds=>by simp only[erL,LvA,Bool.and_eq_true,List.forall_mem_cons,z3f (ds:=ds)]
mutual
theorem z1S{B C:Nat}(h:B<=C): ∀t:PyData,Lv B t=true->Lv C t=true
 | .none,_=>rfl
 | .bool _,_=>rfl
 | .int i,e=>by simp only[Lv,decide_eq_true_eq] at e⊢;lia
 | .str _,e=>e
 | .list xs,e=>by simp only[Lv] at e⊢;exact LvA_mono h xs e
 | .tuple xs,e=>by simp only[Lv] at e⊢;exact LvA_mono h xs e
 | .dict _,e=>by simp[Lv] at e
theorem LvA_mono{B C:Nat}(h:B<=C): ∀t:List PyData,LvA B t=true->LvA C t=true
 |[],_=>rfl
 |x::xs,e=>by simp only[LvA,Bool.and_eq_true] at e⊢;exact⟨z1S h x e.1,LvA_mono h xs e.2⟩
end
structure Gw(t u:D):Prop where
 bk:(er u).bulk<=2*(er t).bulk+20
 lv: ∀B,Lv B (er t)=true->Lv (B+1) (er u)=true
noncomputable def bkL(ds:List D):Nat:=PyData.bulkAll (erL ds)
theorem z1f{d:D}{ds:List D}:bkL (d::ds)=(er d).bulk+1+bkL ds:=by simp only[bkL,erL,PyData.bulkAll]
theorem z21: ∀{a b:List D},bkL (a++b)=bkL a+bkL b
 |[],b=>by simp[bkL,erL,PyData.bulkAll]
 |d::a,b=>by rw[List.cons_append,z1f,z1f,z21];lia
theorem z8j: ∀{a:List D},bkL a.reverse=bkL a
 |[]=>rfl
 |d::a=>by rw[List.reverse_cons,z21,z8j,z1f,z1f];simp[bkL,erL,PyData.bulkAll];lia
theorem z51: ∀{ds:List D} {q:Nat} (h:q<ds.length),bkL (ds.take q)+((er ds[q]).bulk+1+bkL (ds.drop (q+1)))=bkL ds
 |d::ds,0,_=>by simp[bkL,erL,PyData.bulkAll]
 |d::ds,q+1,h=>by
  have:=z51 (ds:=ds) (q:=q) (by simpa using h)
  simp only[List.take_succ_cons,List.drop_succ_cons,z1f,List.getElem_cons_succ]
  lia
theorem zdG{ds:List D}{q:Nat}:bkL (ds.take q)+bkL (ds.drop q)=bkL ds:=by rw[<-z21,List.take_append_drop]
theorem zbk{ds:List D}{q:Nat}{v:D}(h:q<ds.length):bkL (ds.set q v)+(er ds[q]).bulk=bkL ds+(er v).bulk:=by
 rw[List.set_eq_take_append_cons_drop,if_pos h,z21,z1f]
 have:=z51 h
 lia
theorem okW:PyData.strOk ("keys" :Str)=true:=by decide+kernel
noncomputable def odd0(n:Nat):List D:=[D.non, .bool true, .bool false, .int (-1), .int 26, .int 25, .int 40, .int 39, .int 0, .str ("1" :Str), .tup [], .lst n [], .tup [.int 0], .lst (n+1) [.int 0], .tup [.int 0, .int 0, .int 0, .int 0], .tup [.int 0, .int 0, .int 0, .int 0, .int 0], .int (10^Int.toNat 59)]
noncomputable def odds(n:Nat):List D:=odd0 n++[.tup [.bool true], .tup [.tup [.int 0], .tup [.int 0], .tup []], .str ("keys" :Str)]
noncomputable def oddT(T:Nat->Option D)(n:Nat):Nat->Option D:=fun k=>if k=n then some (.lst n []) else if k=n+1 then some (.lst (n+1) [.int 0]) else T k
theorem zbl(T:Nat->Option D)(l n:Nat)(hl:l<n): ∀d∈odds n,Wq (oddT T n) l n (n+5) 7 2 d/\∀j∈labs d,n<=j:=by
 have t0:oddT T n n=some (.lst n []):=by simp[oddT]
 have t1:oddT T n (n+1)=some (.lst (n+1) [.int 0]):=by simp[oddT]
 have k: ∀d∈odds n,((Sw n 7 d=true/\(er d).depth<=2)/\(Up (n+5) d/\Co (oddT T n) l d))/\∀j∈labs d,n<=j:=by
  unfold odds odd0
  simp only[List.cons_append,List.nil_append,List.forall_mem_cons]
  simp only[Up,labs,labsL,Sw,SwL,er,erL,PyData.depth,PyData.depthAll,Co,CoL,List.length_nil,List.length_cons,t0,t1,ok1,okW,List.replicate]
  simp
 intro d hd
 obtain⟨⟨⟨a,b⟩,c,e⟩,f⟩:=k d hd
 exact⟨⟨a,b,c,e⟩,f⟩
theorem z8k(n:Nat): ∀d∈odds n,(er d).bulk<=20/\Lv 0 (er d)=true:=by
 unfold odds odd0
 simp only[List.cons_append,List.nil_append,List.forall_mem_cons]
 simp only[er,erL,PyData.bulk,PyData.bulkAll,Lv,LvA]
 refine⟨?_, ?_⟩<;>(try decide+kernel)
 repeat' (first|refine⟨?_, ?_⟩|decide+kernel|exact fun _ h=>absurd h List.not_mem_nil)
theorem t5{a b c d e:D}{s:Stt}:tupD [a,b,c,d,e] s= .ok (.tup [a,b,c,d,e]) s:=z6y (by rw[zl];simp)
noncomputable def odM:MS:=(seqS (sAsg (.nm 3) (mCB [(mC .non),(mC (.bool true)),(mC (.bool false)),(bd (mC (.int 1)) negD),(mC (.int 26)),(mC (.int 25)),(mC (.int 40)),(mC (.int 39)),(mC (.int 0)),(mC (.str ("1" :Str))),(mCB [] tupD),(mCB [] lstM),(mCB [(mC (.int 0))] tupD),(mCB [(mC (.int 0))] lstM),(mCB [(mC (.int 0)),(mC (.int 0)),(mC (.int 0)),(mC (.int 0))] tupD),(mCB [(mC (.int 0)),(mC (.int 0)),(mC (.int 0)),(mC (.int 0)),(mC (.int 0))] tupD),(mBin (mC (.int 10)) (mC (.int 59)) powD)] lstM))
 (sRet (mBin (mBin (mVar 3) (mCB [(mCB [(mC (.bool true))] tupD),(mCB [(mCB [(mC (.int 0))] tupD),(mCB [(mC (.int 0))] tupD),(mCB [] tupD)] tupD),(mC (.str ("keys" :Str)))] lstM) addD) (mVar 2) ixD)))
theorem zdH{b t o:D}{r:Int}{n:Nat}{tm:List (Option D)}(ed:atI (odds n) r=some o):odM ⟨[some b,some t,some (.int r),none],tm,n⟩= .rt o ⟨[some b,some t,some (.int r),some (.lst (n+2) (odd0 n))],tm,n+5⟩:=by
 unfold odM
 walk_at ""
 rw[t5]
 walk_at ""
 rw[z9m ⟨by decide,by decide,by decide⟩]
 walk_at ""
 rw[z4U (by rw[zl];simp)]
 walk_at ""
 rw[z3F (by rw[zl];simp)]
 walk_at ""
 show Res.lf (fun d s1=>RS.rt d s1) (optM (atI (odds n) r) ⟨[some b,some t,some (.int r),some (.lst (n+2) (odd0 n))],tm,n+5⟩)=_
 rw[ed]
 rfl
theorem zdI(T:Nat->Option D)(l:Nat)(c x:Int)(n:Nat)(t:D)(hb:Bg c x)(hn:l<n)(ht:Rs 0 t=true)(hl:l∉labs t): ∃o c' x' T' n',Wq T' l n n' 7 2 o/\(∀j∈labs o,n<=j)/\(∀j,j<n->T' j=T j)/\n<=n'/\Bg c' x'/\Gw t o/\z38 [.lst l [.int c, .int x],t] n= .ok o [.lst l [.int c', .int x'],t] n':=by
 obtain⟨r,c1,x1,hr0,hr1,b1,e1⟩:=z0w l c x 20 n hb (by decide) (by decide)
 have gt:=z6E (n:=0) t ht
 have rt1: ∀d,rp (pl l d) t=t:=fun d=>z0y hl
 obtain⟨o,hd,ed⟩:=zds (ds:=odds n) hr0 (by simp[odds,odd0];lia)
 have wo:=zbl T l n hn o hd
 have gw:Gw t o:=⟨by have:=(z8k n o hd).1;lia,fun B _=>z1S (Nat.zero_le _) _ (z8k n o hd).2⟩
 have hT: ∀j,j<n->oddT T n j=T j:=fun j hj=>by unfold oddT;rw[if_neg (by lia),if_neg (by lia)]
 have erun:=fun tm=>zdH (b:= .lst l [.int c1, .int x1]) (t:=t) (o:=o) (r:=r) (n:=n) (tm:=tm) ed
 unfold z38
 have e0:z5t=(seqS (sAsg (.nm 2) (z06 z02 [(mVar 0),(mC (.int 20))]))
  (seqS (sIf (mAnd (z0D (z06 z19 [(mVar 1)])) (mBoo (mBin (mVar 2) (mC (.int 11)) gtD))) (sRet (mBin (mCB [(mBin (mVar 1) (mC (.int 1)) addD),(mBin (mVar 1) (mC (.int 1)) subD)] lstM) (mBin (mVar 2) (mC (.int 2)) modD) ixD)) sNx) odM)):=rfl
 rw[e0]
 walk_at ""
 rw[e1,z1m rfl rfl rfl (fun q=>by walk_at "";simp only[rt1];rfl) (fun q=>by walk_at "";simp only[rt1];rfl)]
 walk_at ""
 rw[z5X t n gt.1]
 cases hi:isInt t with
 |false=>
  refine⟨o,c1,x1,oddT T n,n+5,wo.1,wo.2,hT,by lia,b1,gw, ?_⟩
  walk_at ""
  rw[erun]
  walk_at ""
 |true=>
  cases t<;>simp only[isInt,Bool.false_eq_true] at hi
  rename_i i
  walk_at ""
  by_cases h11:r>11
  ·rw[show decide (r>11)=true by simpa using h11]
   walk_at ""
   have hv: ∃v:Int,atI [D.int (i+1),D.int (i - 1)] (r %2)=some (.int v)/\v.natAbs<=i.natAbs+1:=by
    have:r %2=0\/r %2=1:=by lia
    rcases this with q|q<;>rw[q]
    ·exact⟨_,at0,by lia⟩
    ·exact⟨_,at1,by lia⟩
   obtain⟨v,ev,vi⟩:=hv
   try rw[z2o (by decide)]
   try (walk_at "")
   rw[ev]
   walk_at ""
   exact⟨.int v,c1,x1,T,n+1,⟨rfl,by simp[er,PyData.depth],by simp[Up,labs],trivial⟩,by simp[labs],fun _ _=>rfl,by lia,b1,⟨by simp[er,PyData.bulk],fun B hB=>by simp only[er,Lv,decide_eq_true_eq] at hB⊢;lia⟩,rfl⟩
  ·rw[show decide (r>11)=false by simpa using h11]
   refine⟨o,c1,x1,oddT T n,n+5,wo.1,wo.2,hT,by lia,b1,gw, ?_⟩
   walk_at ""
   rw[erun]
   walk_at ""
theorem z5u{ws:List D}{l:Nat}:cutA ws none (some (l:Int))=ws.take l:=by
 unfold cutA
 rw[HT.sIx_nat,HT.sIx_none,List.drop_zero,Nat.sub_zero]
 rcases Nat.le_total l ws.length with h|h
 ·rw[Nat.min_eq_left h]
 ·rw[Nat.min_eq_right h,List.take_of_length_le h,List.take_of_length_le (Nat.le_refl _)]
theorem z8l{ws:List D}{l:Nat}(h:l<=ws.length):cutA ws (some (l:Int)) none=ws.drop l:=by
 unfold cutA
 rw[HT.sIx_nat,HT.sIx_none,Nat.min_eq_left h,List.take_of_length_le (by simp)]
theorem zbm{ws:List D}{l:Nat}(h:l<ws.length):cutA ws (some ((l:Int)+1)) none=ws.drop (l+1):=by
 rw[show((l:Int)+1)=((l+1:Nat):Int) by lia,z8l (by lia)]
theorem zfn{l n:Nat}{ds:List D}{σ tm:List (Option D)}:rvsD (.lst l ds) ⟨σ,tm,n⟩= .ok (.lst n ds.reverse) ⟨σ,tm,n+1⟩:=(rfl)
noncomputable def z3u:D->Option (List D)
 | .tup ds=>some ds
 | .lst _ ds=>some ds
 |_=>none
theorem z2e{k:Nat}: ∀{ds:List D},PyData.depthAll (erL ds)<=k↔∀d∈ds,(er d).depth<=k
 |[]=>by simp[erL,PyData.depthAll]
 |d::ds=>by
  simp only[erL,PyData.depthAll,List.forall_mem_cons,<-z2e (ds:=ds)]
  lia
structure Prt(T:Nat->Option D)(l lo n W K:Nat)(t:D)(ds:List D):Prop where
 is:isiAny ["list", "tuple"] t=some true
 ln: ∀s:Stt,lenD [t] s= .ok (.int ds.length) s
 li: ∀s:Stt,z6k [t] s= .ok (.lst s.n ds) s.nxt
 hl:ds.length<=W
 sw: ∀d∈ds,Sw lo W d=true
 dp: ∀d∈ds,(er d).depth+1<=K
 up: ∀d∈ds,Up n d
 co:CoL T l ds
 sb: ∀j∈labsL ds,j∈labs t
theorem Wq.prt{T:Nat->Option D}{l lo n W K:Nat}{t:D}{ds:List D}(h:Wq T l lo n W K t)(hl:l∉labs t)(hs:z3u t=some ds):Prt T l lo n W K t ds:=by
 cases t<;>simp only[z3u,Option.some.injEq,reduceCtorEq] at hs
 ·subst hs
  rename_i ds
  have s:=h.sw
  simp only[Sw,Bool.and_eq_true,decide_eq_true_eq] at s
  have d:=h.dp
  simp only[er,PyData.depth] at d
  have c:=h.co
  simp only[Co] at c
  exact⟨rfl,fun _=>rfl,fun _=>rfl,s.1,z3e.mp s.2,fun e he=>by have:=z2e.mp (Nat.le_refl _) e he;lia,fun e he k hk=>h.up k (by simp only[labs];exact z1e he hk),c,fun j hj=>by simp only[labs];exact hj⟩
 ·rename_i k _
  subst hs
  rename_i ds
  have s:=h.sw
  simp only[Sw,Bool.and_eq_true,decide_eq_true_eq] at s
  have d:=h.dp
  simp only[er,PyData.depth] at d
  have c:=h.co
  simp only[Co] at c
  have c:CoL T l ds:=by
   rcases c with c|c
   ·exact absurd (by simp[labs,c]) hl
   ·exact c.2.2
  exact⟨rfl,fun _=>rfl,fun _=>rfl,s.2.1,z3e.mp s.2.2,fun e he=>by have:=z2e.mp (Nat.le_refl _) e he;lia,fun e he k hk=>h.up k (by simp only[labs,List.mem_cons];exact .inr (z1e he hk)),c,fun j hj=>by simp only[labs,List.mem_cons];exact .inr hj⟩
theorem Wq.no{T:Nat->Option D}{l lo n W K:Nat}{t:D}(h:Wq T l lo n W K t)(hs:z3u t=none):isiAny ["list", "tuple"] t=some false:=by
 have s:=h.sw
 cases t<;>simp only[z3u,reduceCtorEq] at hs<;>first|rfl|(simp[Sw] at s;done)
theorem zdJ{T:Nat->Option D}{l lo n W K:Nat}{es:List D}(hl:es.length<=W)(h: ∀e∈es,Sw lo W e=true/\(er e).depth<=K/\Up n e/\Co T l e):Wq T l lo n W (K+1) (.tup es):=by
 refine⟨?_, ?_,fun k hk=> ?_, ?_⟩
 ·simp only[Sw,Bool.and_eq_true,decide_eq_true_eq];exact⟨hl,z3e.mpr fun d hd=>(h d hd).1⟩
 ·simp only[er,PyData.depth];have:=z2e.mpr fun d hd=>(h d hd).2.1;lia
 ·simp only[labs] at hk
  obtain⟨e,he,hj⟩:=labsL_mem hk
  exact(h e he).2.2.1 k hj
 ·simp only[Co];exact z0F.mpr fun d hd=>(h d hd).2.2.2
theorem z22{n n':Nat}{t:D}(h:Up n t)(hn:n<=n'):Up n' t:=fun k hk=>Nat.lt_of_lt_of_le (h k hk) hn
noncomputable def SpOk(T:Nat->Option D)(l lo n W K:Nat)(t:D)(f:FM):Prop:= ∀(c x:Int),Bg c x->∃t' c' x' n' T',Wq T' l lo n' (W+1) (K+2) t'/\(∀j∈labs t',j∈labs t\/n<=j)/\(∀j,j<n->T' j=T j)/\n<=n'/\Bg c' x'/\Gw t t'/\f [.lst l [.int c, .int x],t] n= .ok t' [.lst l [.int c', .int x'],t] n'
mutual
theorem z8m{T T':Nat->Option D}{l:Nat}: ∀t:D,(∀k∈labs t,T' k=T k)->Co T l t->Co T' l t
 | .non,_,_=>trivial
 | .bool _,_,_=>trivial
 | .int _,_,_=>trivial
 | .str _,_,_=>trivial
 | .tup ds,u,c=>by simp only[Co] at c⊢;exact coL_lab ds (fun k hk=>u k (by simp only[labs];exact hk)) c
 | .ro ds,u,c=>by simp only[Co] at c⊢;exact coL_lab ds (fun k hk=>u k (by simp only[labs];exact hk)) c
 | .dct _ _ _,_,c=>by simp[Co] at c
 | .obj _ _ _ _,_,c=>by simp[Co] at c
 | .exc _,_,c=>by simp[Co] at c
 | .fn _,_,c=>by simp[Co] at c
 | .fdc _ _,_,c=>by simp[Co] at c
 | .lst k ds,u,c=>by
  simp only[Co] at c⊢
  rcases c with c|⟨c1,c2,c3⟩
  ·exact .inl c
  ·exact .inr ⟨by rw[u k (by simp[labs])];exact c1,c2,coL_lab ds (fun j hj=>u j (by simp only[labs,List.mem_cons];exact .inr hj)) c3⟩
theorem coL_lab{T T':Nat->Option D}{l:Nat}: ∀t:List D,(∀k∈labsL t,T' k=T k)->CoL T l t->CoL T' l t
 |[],_,_=>trivial
 |d::ds,u,c=>by
  simp only[CoL] at c⊢
  exact⟨z8m d (fun k hk=>u k (by simp only[labsL,List.mem_append];exact .inl hk)) c.1,coL_lab ds (fun k hk=>u k (by simp only[labsL,List.mem_append];exact .inr hk)) c.2⟩
end
noncomputable def tput(T:Nat->Option D)(k:Nat)(es:List D):Nat->Option D:=fun j=>if j=k then some (.lst k es) else T j
theorem z0G{T:Nat->Option D}{k:Nat}{es:List D}:tput T k es k=some (.lst k es):=if_pos rfl
theorem z0k{T:Nat->Option D}{k j:Nat}{es:List D}(h:j≠k):tput T k es j=T j:=if_neg h
noncomputable def isL:D->Bool
 | .lst _ _=>true
 |_=>false
noncomputable def outD(b:Bool)(k:Nat)(es:List D):D:=match b with|true=> .lst k es|false=> .tup es
theorem z8n{T:Nat->Option D}{l lo n W K k:Nat}{es:List D}(hk:lo<=k)(hkn:k<n)(hT:T k=some (.lst k es))(hle:l∉labsL es)(hl:es.length<=W)(h: ∀e∈es,Sw lo W e=true/\(er e).depth<=K/\Up n e/\Co T l e):Wq T l lo n W (K+1) (.lst k es):=by
 refine⟨?_, ?_,fun j hj=> ?_, ?_⟩
 ·simp only[Sw,Bool.and_eq_true,decide_eq_true_eq];exact⟨hk,hl,z3e.mpr fun d hd=>(h d hd).1⟩
 ·simp only[er,PyData.depth];have:=z2e.mpr fun d hd=>(h d hd).2.1;lia
 ·simp only[labs,List.mem_cons] at hj
  rcases hj with rfl|hj
  ·exact hkn
  ·obtain⟨e,he,hj⟩:=labsL_mem hj
   exact(h e he).2.2.1 j hj
 ·simp only[Co];exact .inr ⟨hT,hle,z0F.mpr fun d hd=>(h d hd).2.2.2⟩
theorem z8o{T:Nat->Option D}{l lo n W K k:Nat}{es:List D}{b:Bool}(hk:lo<=k)(hkn:k<n)(hT:T k=some (.lst k es))(hle:l∉labsL es)(hl:es.length<=W)(h: ∀e∈es,Sw lo W e=true/\(er e).depth<=K/\Up n e/\Co T l e):Wq T l lo n W (K+1) (outD b k es):=by
 cases b
 ·exact zdJ hl h
 ·exact z8n hk hkn hT hle hl h
theorem z4g{b:Bool}{k j:Nat}{es:List D}(h:j∈labs (outD b k es)):j=k\/j∈labsL es:=by
 cases b<;>simp only[outD,labs,List.mem_cons] at h
 ·exact .inr h
 ·exact h
theorem zdK{t:D}{ds:List D}(h:z3u t=some ds):(er t).bulk=bkL ds/\∀B,Lv B (er t)=LvA B (erL ds):=by
 cases t<;>simp only[z3u,Option.some.injEq,reduceCtorEq] at h
 all_goals (subst h;exact⟨by simp only[er,PyData.bulk,bkL],fun B=>by simp only[er,Lv]⟩)
theorem z9R{b:Bool}{k:Nat}{es:List D}:(er (outD b k es)).bulk=bkL es/\∀B,Lv B (er (outD b k es))=LvA B (erL es):=by
 cases b<;>exact⟨by simp only[outD,er,PyData.bulk,bkL],fun B=>by simp only[outD,er,Lv]⟩
theorem z60{t:D}{ds es:List D}{b:Bool}{k:Nat}(h:z3u t=some ds)(h1:bkL es<=2*bkL ds+20)(h2: ∀B,(∀d∈ds,Lv B (er d)=true)->∀d∈es,Lv (B+1) (er d)=true):Gw t (outD b k es):=by
 obtain⟨e1,e2⟩:=zdK h
 refine⟨by rw[e1,z9R.1];exact h1,fun B hB=> ?_⟩
 rw[e2] at hB
 rw[z9R.2]
 exact z3f.mpr (h2 B (z3f.mp hB))
theorem zdL{t:D}{ds:List D}(h:z3u t=some ds):isiD "list" t=some (isL t)/\∀s:Stt,tupF [t] s= .ok (.tup ds) s:=by
 cases t<;>simp only[z3u,Option.some.injEq,reduceCtorEq] at h
 all_goals (subst h;exact⟨rfl,fun s=>rfl⟩)
theorem z8p{T:Nat->Option D}{l lo n n' W K k:Nat}{t:D}{ds:List D}{b:Bool}(hlo:lo<=n)(hk:n<=k)(hkn:k<n')(hle:l∉labsL ds)(hl:ds.length<=W)(h: ∀e∈ds,Sw lo W e=true/\(er e).depth<=K/\Up n' e/\Co (tput T k ds) l e)(sb: ∀j∈labsL ds,j∈labs t):Wq (tput T k ds) l lo n' W (K+1) (outD b k ds)/\∀j∈labs (outD b k ds),j∈labs t\/n<=j:=
 ⟨z8o (by lia) hkn z0G hle hl h,fun j hj=>by
  rcases z4g hj with rfl|hj
  ·exact .inr hk
  ·exact .inl (sb j hj)⟩
theorem z3g(self:FM)(T:Nat->Option D)(l lo n W K:Nat)(t:D)(hw:Wq T l lo n W K t)(lt:l∉labs t)(hl:l<n)(hlo:lo<=n)(h7:7<=W)(hW:W<=1000)
 (hself: ∀d (T:Nat->Option D) (n K':Nat),K=K'+1->lo<=n->l<n->l∉labs d->Wq T l lo n W K' d->SpOk T l lo n W K' d self):SpOk T l lo n W K t (runF 5 (z1V self)):=by
 intro c x hb
 have rs:Rs lo t=true:=z4f (by lia) t hw.sw
 have rs0:Rs 0 t=true:=z4f (by lia) t (z2s (Nat.zero_le _) (Nat.le_refl _) t hw.sw)
 have rt1: ∀d,rp (pl l d) t=t:=fun d=>z0y lt
 obtain⟨r,c1,x1,hr0,hr1,b1,e1⟩:=z0w l c x 9 n hb (by decide) (by decide)
 obtain⟨o,c2,x2,T2,n2,wo,lo2,hT2,hn2,b2,gwo,e2⟩:=zdI T l c1 x1 n t b1 (by lia) rs0 lt
 have fin: ∃t' c' x' n' T',Wq T' l lo n' (W+1) (K+2) t'/\(∀j∈labs t',j∈labs t\/n<=j)/\(∀j,j<n->T' j=T j)/\n<=n'/\Bg c' x'/\Gw t t'/\RF.ok o [.lst l [.int c2, .int x2],t] n2= .ok t' [.lst l [.int c', .int x'],t] n':=
  ⟨o,c2,x2,n2,T2,⟨z2s hlo (by lia) o wo.sw,by have:=wo.dp;lia,wo.up,wo.co⟩,fun j hj=> .inr (lo2 j hj),hT2,hn2,b2,gwo,rfl⟩
 have ec: ∀a3 a4:Option D,a3=none->a4=none->z2A (z38 [.lst l [.int c1, .int x1],t] n) [.lst l [.int c1, .int x1],t] ⟨[some (.lst l [.int c1, .int x1]),some t,some (.int r),a3,a4],[some (.lst l [.int c1, .int x1]),some t],n⟩= .ok o ⟨[some (.lst l [.int c2, .int x2]),some t,some (.int r),none,none],[some (.lst l [.int c2, .int x2]),some t],n2⟩:=by
  rintro _ _ rfl rfl
  rw[e2,z2r (T:=T) rfl rfl (by exact⟨hw.co,trivial⟩) (by simp only[labsL,List.append_nil];exact lt) (by simp only[RsL,Bool.and_true];exact rs0) (by exact⟨.inl (by simp only[Co,true_or]), .inl hw.co, .inl trivial,trivial⟩) (by exact⟨.inl (by simp only[Co,true_or]), .inl hw.co,trivial⟩) (fun q=>by walk_at "";simp only[rt1];rfl) (fun q=>by walk_at "";simp only[rt1];rfl)]
 unfold z1V
 walk_at ""
 rw[e1,z1m rfl rfl rfl (fun q=>by walk_at "";simp only[rt1];rfl) (fun q=>by walk_at "";simp only[rt1];rfl)]
 walk_at ""
 cases hs:z3u t with
 |none=>
  rw[hw.no hs]
  walk_at ""
  rw[ec none none rfl rfl]
  walk_at ""
  exact fin
 |some ds=>
  have P:=hw.prt lt hs
  obtain⟨isl,tf⟩:=zdL hs
  simp only[isiD,String.reduceBEq,Bool.or_self] at isl
  have lds:l∉labsL ds:=fun h=>lt (P.sb l h)
  rw[P.is]
  walk_at ""
  rw[P.ln]
  walk_at ""
  by_cases h0:ds.length=0
  ·rw[show((ds.length:Int)==0)=true by simp[h0]]
   walk_at ""
   rw[ec none none rfl rfl]
   walk_at ""
   exact fin
  rw[show((ds.length:Int)==0)=false by simp only[beq_eq_false_iff_ne];lia]
  walk_at ""
  cases w0:(r==0) with
  |true=>
   walk_at ""
   rw[ec none none rfl rfl]
   walk_at ""
   exact fin
  |false=>
  walk_at ""
  rw[P.ln]
  walk_at ""
  obtain⟨a,c3,x3,a0,a1,b3,e3⟩:=z0w l c1 x1 ds.length n b1 (by lia) (by have:=P.hl;lia)
  rw[e3,z1m rfl rfl rfl (fun q=>by walk_at "";simp only[rt1];rfl) (fun q=>by walk_at "";simp only[rt1];rfl)]
  walk_at ""
  rw[P.li]
  walk_at ""
  obtain⟨q,rfl⟩:=Int.eq_ofNat_of_zero_le a0
  have hq:q<ds.length:=by lia
  have hlen:=P.hl
  have edr:atI ds (q:Int)=some ds[q]:=z3G (by lia) (by simp[hq])
  have hdr:ds[q]∈ds:=List.getElem_mem hq
  have hK:1<=K:=by have:=P.dp _ hdr;lia
  have old: ∀(T':Nat->Option D) (n':Nat),(∀j,j<n->T' j=T j)->n<=n'->∀e∈ds,Sw lo (W+1) e=true/\(er e).depth<=K+1/\Up n' e/\Co T' l e:=fun T' n' h1 h2 e he=>
   ⟨z2s (Nat.le_refl _) (by lia) e (P.sw e he),by have:=P.dp e he;lia,z22 (P.up e he) h2,z3H h1 e (P.up e he) (z0F.mp P.co e he)⟩
  have done: ∀(es:List D) (k n':Nat),n<=k->k<n'->es.length<=W+1->(∀e∈es,e∈ds)->bkL es<=2*bkL ds+20->∃t' c' x' m' T',Wq T' l lo m' (W+1) (K+2) t'/\(∀j∈labs t',j∈labs t\/n<=j)/\(∀j,j<n->T' j=T j)/\n<=m'/\Bg c' x'/\Gw t t'/\RF.ok (outD (isL t) k es) [.lst l [.int c3, .int x3],t] n'= .ok t' [.lst l [.int c', .int x'],t] m':=fun es k n' hk hn' h1 h2 h3=>
   ⟨outD (isL t) k es,c3,x3,n',tput T k es,z8o (by lia) hn' z0G (fun h=>by
    obtain⟨e,he,hj⟩:=labsL_mem h
    exact lds (z1e (h2 e he) hj)) h1 fun e he=>old _ n' (fun j hj=>z0k (by lia)) (by lia) e (h2 e he),fun j hj=>by
    rcases z4g hj with rfl|hj
    ·exact .inr hk
    obtain⟨e,he,hj⟩:=labsL_mem hj
    exact .inl (P.sb j (z1e (h2 e he) hj)),fun j hj=>z0k (by lia),by lia,b3,z60 hs h3 fun B hB e he=>z1S (by lia) _ (hB e (h2 e he)),rfl⟩
  cases w1:(r==1) with
  |true=>
   walk_at ""
   rw[z5u,zbm hq,z3F (by rw[zl];simp only[List.length_take,List.length_drop];lia)]
   walk_at ""
   rw[isl]
   have Z:=fun k n' h1 h2=>done (List.take q ds++List.drop (q+1) ds) k n' h1 h2 (by simp only[List.length_append,List.length_take,List.length_drop];lia) (fun e he=>by
    rcases List.mem_append.mp he with he|he
    ·exact List.mem_of_mem_take he
    ·exact List.mem_of_mem_drop he) (by rw[z21];have:=z51 hq;lia)
   generalize isL t=bl at Z
   cases bl<;>(walk_at "";exact Z (n+3) _ (by lia) (by lia))
  |false=>
  walk_at ""
  cases w2:(r==2) with
  |true=>
   walk_at ""
   rw[z5u,edr]
   walk_at ""
   rw[z3F (by rw[zl];simp only[List.length_take,List.length_cons,List.length_nil];lia)]
   walk_at ""
   rw[z8l (by lia),z3F (by rw[zl];simp only[List.length_append,List.length_take,List.length_drop,List.length_cons,List.length_nil];lia)]
   walk_at ""
   rw[isl]
   have Z:=fun k n' h1 h2=>done (List.take q ds++[ds[q]]++List.drop q ds) k n' h1 h2 (by simp only[List.length_append,List.length_take,List.length_drop,List.length_cons,List.length_nil];lia) (fun e he=>by
    rcases List.mem_append.mp he with he|he
    ·rcases List.mem_append.mp he with he|he
     ·exact List.mem_of_mem_take he
     ·rw[List.mem_singleton.mp he];exact hdr
    ·exact List.mem_of_mem_drop he) (by
    rw[z21,z21,z1f]
    have e1:=z51 hq
    have e2:=zdG (ds:=ds) (q:=q)
    have e3:bkL []=0:=rfl
    lia)
   generalize isL t=bl at Z
   cases bl<;>(walk_at "";exact Z (n+5) _ (by lia) (by lia))
  |false=>
  walk_at ""
  cases w3:(r==3) with
  |true=>
   walk_at ""
   rw[zfn]
   walk_at ""
   rw[isl]
   have Z:=fun k n' h1 h2=>done ds.reverse k n' h1 h2 (by rw[List.length_reverse];lia) (fun e he=>List.mem_reverse.mp he) (by rw[z8j];lia)
   generalize isL t=bl at Z
   cases bl<;>(walk_at "";exact Z (n+1) _ (by lia) (by lia))
  |false=>
  walk_at ""
  cases w4:(r==4) with
  |true=>
   walk_at ""
   rw[P.li]
   walk_at ""
   rw[tf]
   walk_at ""
   rw[isl]
   cases hbl:isL t
   ·walk_at ""
    rw[if_neg (by decide),at0]
    walk_at ""
    obtain⟨z1,z2⟩:=z8p (b:=true) (k:=n+1) (n':=n+1+1+1) hlo (by lia) (by lia) lds (by lia) (old _ (n+1+1+1) (fun j hj=>z0k (k:=n+1) (es:=ds) (by lia)) (by lia)) P.sb
    exact⟨_,c3,x3,_,_,z1,z2,fun j hj=>z0k (by lia),by lia,b3,z60 hs (by lia) fun B hB e he=>z1S (by lia) _ (hB e he),rfl⟩
   ·walk_at ""
    rw[if_pos trivial,at1]
    walk_at ""
    obtain⟨z1,z2⟩:=z8p (b:=false) (k:=n+1) (n':=n+1+1+1) hlo (by lia) (by lia) lds (by lia) (old _ (n+1+1+1) (fun j hj=>z0k (k:=n+1) (es:=ds) (by lia)) (by lia)) P.sb
    exact⟨_,c3,x3,_,_,z1,z2,fun j hj=>z0k (by lia),by lia,b3,z60 hs (by lia) fun B hB e he=>z1S (by lia) _ (hB e he),rfl⟩
  |false=>
  walk_at ""
  rw[edr]
  have pd:=P.dp _ hdr
  have wd: ∀(T':Nat->Option D) (n':Nat),(∀j,j<n->T' j=T j)->n<=n'->Wq T' l lo n' W (K - 1) ds[q]:=fun T' n' h1 h2=>⟨P.sw _ hdr,by lia,z22 (P.up _ hdr) h2,z3H h1 _ (P.up _ hdr) (z0F.mp P.co _ hdr)⟩
  have ud:=P.up _ hdr
  have sd:=fun(j:Nat) (hj:j∈labs ds[q])=>z1e hdr hj
  generalize hdd:ds[q]=d at wd ud sd
  walk_at ""
  have hT1: ∀j,j<n->(fun k=>if k=n then some (D.lst n ds) else T k) j=T j:=fun j hj=>if_neg (by lia)
  have t1n:(fun k=>if k=n then some (D.lst n ds) else T k) n=some (D.lst n ds):=if_pos rfl
  generalize (fun k=>if k=n then some (D.lst n ds) else T k)=T1 at hT1 t1n
  obtain⟨v,c4,x4,n4,T4,wv,nv,hT4,hn4,b4,gv,e4⟩:=hself d T1 (n+1) (K - 1) (by lia) (by lia) (by lia) (fun h=>lds (sd l h)) (wd T1 (n+1) hT1 (by lia)) c3 x3 b3
  have rsd:Rs 0 d=true:=z4f (by lia) d (z2s (Nat.zero_le _) (Nat.le_refl _) d (wd T n (fun _ _=>rfl) (Nat.le_refl _)).sw)
  have rL1: ∀d,rp (pl l d) (.lst n ds)= .lst n ds:=fun d=>z0y (by simp only[labs,List.mem_cons,not_or];exact⟨by lia,lds⟩)
  have cod:Co T1 l d:=(wd T1 (n+1) hT1 (by lia)).co
  have cot:Co T1 l t:=z3H hT1 t hw.up hw.co
  have cop:Co T1 l (.lst n ds):=by
   simp only[Co]
   exact .inr ⟨t1n,lds,z0F.mpr fun e he=>z3H hT1 e (P.up e he) (z0F.mp P.co e he)⟩
  rw[e4,z2r (T:=T1) rfl rfl (by exact⟨cod,trivial⟩) (by simp only[labsL,List.append_nil];exact fun h=>lds (sd l h)) (by simp only[RsL,Bool.and_true];exact rsd) (by exact⟨.inl (by simp only[Co,true_or]), .inl cot, .inl trivial, .inl trivial, .inl cop,trivial⟩) (by exact⟨.inl (by simp only[Co,true_or]), .inl cot,trivial⟩)
   (fun q=>by walk_at "";simp only[rt1,rL1];rfl) (fun q=>by walk_at "";simp only[rt1];rfl)]
  walk_at ""
  have nvn:n∉labs v:=fun h=>by
   rcases nv n h with h|h
   ·exact absurd (ud n h) (by lia)
   ·lia
  have ixq:ixN ds.length (q:Int)=some q:=by unfold ixN;simp;lia
  rw[zba ixq nvn]
  walk_at ""
  have zt: ∀d,rp (pl n d) t=t:=fun d=>z0y fun h=>absurd (hw.up n h) (by lia)
  have zb: ∀d (u v:Int),rp (pl n d) (.lst l [.int u, .int v])= .lst l [.int u, .int v]:=fun d u v=>z0y (by simp[labs,labsL];lia)
  have zp: ∀d,rp (pl n d) (.lst n ds)=d:=fun d=>by simp only[rp,pl,if_true]
  simp only[zt,zb,zp]
  try (walk_at "")
  rw[isl]
  have lv:l∉labs v:=fun h=>by
   rcases nv l h with h|h
   ·exact lds (sd l h)
   ·lia
  have Z: ∀bl:Bool,∃t' c' x' m' T',Wq T' l lo m' (W+1) (K+2) t'/\(∀j∈labs t',j∈labs t\/n<=j)/\(∀j,j<n->T' j=T j)/\n<=m'/\Bg c' x'/\Gw t t'/\RF.ok (outD bl n (ds.set q v)) [.lst l [.int c4, .int x4],t] n4= .ok t' [.lst l [.int c', .int x'],t] m':=fun bl=>by
   refine⟨outD bl n (ds.set q v),c4,x4,n4,tput T4 n (ds.set q v),z8o hlo (by lia) z0G (fun h=> ?_) (by rw[List.length_set];lia) fun e he=> ?_,fun j hj=> ?_,fun j hj=>by rw[z0k (by lia),hT4 j (by lia),hT1 j hj],by lia,b4,z60 hs (by have:=zbk (v:=v) hq;have:=gv.bk;have:=z51 hq;rw[hdd] at*;lia) (fun B hB e he=> ?_),rfl⟩
   ·obtain⟨e,he,hj⟩:=labsL_mem h
    rcases List.mem_or_eq_of_mem_set he with he|rfl
    ·exact lds (z1e he hj)
    ·exact lv hj
   ·rcases List.mem_or_eq_of_mem_set he with he|rfl
    ·exact old _ n4 (fun j hj=>by rw[z0k (by lia),hT4 j (by lia),hT1 j hj]) (by lia) e he
    ·exact⟨wv.sw,by have:=wv.dp;lia,wv.up,z8m _ (fun j hj=>z0k (fun e=>nvn (e▸hj))) wv.co⟩
   ·rcases z4g hj with rfl|hj
    ·exact .inr (Nat.le_refl _)
    obtain⟨e,he,hk⟩:=labsL_mem hj
    rcases List.mem_or_eq_of_mem_set he with he|he
    ·exact .inl (P.sb j (z1e he hk))
    ·rw[he] at hk
     rcases nv j hk with h|h
     ·exact .inl (P.sb j (sd j h))
     ·exact .inr (by lia)
   ·rcases List.mem_or_eq_of_mem_set he with he|rfl
    ·exact z1S (by lia) _ (hB e he)
    ·exact gv.lv B (hB d (hdd▸hdr))
  replace Z:=Z (isL t)
  generalize isL t=bl at Z
  cases bl<;>(walk_at "";exact Z)
theorem z52(l lo W:Nat)(h7:7<=W)(hW:W<=1000): ∀(F K:Nat),K<=F->∀(T:Nat->Option D) (n:Nat) (t:D),lo<=n->l<n->l∉labs t->Wq T l lo n W K t->SpOk T l lo n W K t (z0Y (F+1))
 |0,K,hK,T,n,t,hn,hl,lt,hw=>z3g _ T l lo n W K t hw lt hl hn h7 hW fun d T n K' e=>by lia
 |F+1,K,hK,T,n,t,hn,hl,lt,hw=>z3g _ T l lo n W K t hw lt hl hn h7 hW fun d T n K' e h1 h2 h3 h4=>z52 l lo W h7 hW F K' (by lia) T n d h1 h2 h3 h4
noncomputable abbrev Row3:=List Int×List Int×List Int
noncomputable abbrev tI(ns:List Int):D:= .tup (ns.map .int)
noncomputable abbrev rD(r:Row3):D:= .tup [tI r.1,tI r.2.1,tI r.2.2]
noncomputable def In(t:Int)(s:List Int):Prop:= ∀i∈s,0<=i/\i<=t
structure Wf(r:Row3):Prop where
 l1:1<=r.1.length
 l2:r.1.length<=4
 l3:r.2.1.length<=3
 l4:r.2.2.length<r.1.length
 i1:In 25 r.1
 i2:In 39 r.2.1
 i3:In 25 r.2.2
noncomputable def ofI:D->Int
 | .int i=>i
 |_=>0
noncomputable def unI:D->List Int
 | .tup ds=>ds.map ofI
 |_=>[]
theorem zdM(ns:List Int):unI (tI ns)=ns:=by
 simp only[unI,List.map_map]
 induction ns with
 |nil=>rfl
 |cons n ns ih=>simp only[List.map_cons,Function.comp,ofI,ih]
theorem z1T: ∀ns:List Int,labsL (ns.map D.int)=[]
 |[]=>rfl
 |n::ns=>by simp only[List.map_cons,labsL,labs,z1T ns];rfl
theorem z8q(r:Row3):labs (rD r)=[]:=by simp only[labs,labsL,z1T];rfl
theorem z0N: ∀rows:List Row3,labsL (rows.map rD)=[]
 |[]=>rfl
 |r::rows=>by simp only[List.map_cons,labsL,z0N rows];rw[z8q];rfl
theorem zdN{k:Nat}{d:D}{ns:List Int}:rp (pl k d) (.tup (ns.map D.int))= .tup (ns.map D.int):=z0y (by rw[show labs (.tup (ns.map D.int))=[] from z1T ns];exact List.not_mem_nil)
theorem z2I{k:Nat}{d:D}{ns:List Int}:rpL (pl k d) (ns.map D.int)=ns.map D.int:=rpL_id _ fun j hj=>by rw[z1T] at hj;cases hj
theorem z9x{k:Nat}{d:D}{rows:List Row3}:rpL (pl k d) (rows.map rD)=rows.map rD:=rpL_id _ fun j hj=>by rw[z0N] at hj;cases hj
theorem z3h{k l:Nat}{d:D}{rows:List Row3}(h:l≠k):rp (pl k d) (.lst l (rows.map rD))= .lst l (rows.map rD):=by rw[z4Z h,z9x]
theorem lenM{ns:List Int}:((ns.map D.int).length:Int)=(ns.length:Int):=by rw[List.length_map]
theorem z1x{l:Nat}{d:D}{ds:List D}:rp (pl l d) (.lst l ds)=d:=by simp only[rp,pl,if_true]
theorem zdO{k j:Nat}{d:D}{ks vs:List D}(h:j≠k)(hv:labsL vs=[]):rp (pl k d) (.dct j ks vs)= .dct j ks vs:=by
 simp only[rp,pl,if_neg h]
 rw[rpL_id _ fun i hi=>by rw[hv] at hi;cases hi]
noncomputable def nkI(s:List Int):NK:=s.map fun i=>Sum.inl (.inl i)
theorem z5v(ns:List Int):tkey (.tup (ns.map D.int))=some (nkI ns):=z9t ns
theorem zbn{a b:List Int}(h:nkI a=nkI b):a=b:=by
 induction a generalizing b with
 |nil=>cases b with|nil=>rfl|cons _ _=>simp[nkI] at h
 |cons x a ih=>cases b with
  |nil=>simp[nkI] at h
  |cons y b=>
   simp only[nkI,List.map_cons,List.cons.injEq,Sum.inl.injEq] at h
   rw[h.1,ih h.2]
noncomputable def kI(p:List Int):D:= .tup (p.map .int)
theorem z2t{p R:List Int}:(tkey (kI p)=some (nkI R))↔p=R:=by
 unfold kI
 rw[z5v,Option.some.injEq]
 exact⟨zbn,fun h=>by rw[h]⟩
theorem zfo(p:List Int):dkD (nkI p)=kI p:=by
 unfold dkD kI nkI
 rw[List.map_map];rfl
theorem z9S{ws:List D}{l:Nat}:cutA ws none (some (l:Int))=ws.take l:=z5u
theorem zdP(PK:List (List Int))(R:List Int):((PK.map kI).any fun d=>decide (tkey d=some (nkI R)))=decide (R∈PK):=by
 rw[List.any_map]
 induction PK with
 |nil=>rfl
 |cons p PK ih=>
  simp only[List.any_cons,Function.comp,z2t]
  try simp only[Function.comp,z2t] at ih
  rw[ih]
  by_cases h:p=R
  ·simp[h]
  ·simp only[h,decide_false,Bool.false_or,List.mem_cons,decide_eq_decide]
   exact⟨.inr,fun z=>z.resolve_left fun e=>h e.symm⟩
noncomputable def vD(r:Row3):D:= .tup [tI r.2.1,tI r.2.2]
noncomputable def TD(j:Nat)(E:List Row3):D:= .dct j (E.map fun r=>kI r.1) (E.map vD)
noncomputable def putE(E:List Row3)(r:Row3):List Row3:=if r.1∈E.map (·.1) then E.map (fun e=>if e.1=r.1 then(e.1,r.2) else e) else E++[r]
theorem z8r(r:Row3):labs (vD r)=[]:=by unfold vD;simp only[labs,labsL,z1T];rfl
theorem zbo(E:List Row3):labsL (E.map vD)=[]:=z2a fun d hd=>by obtain⟨r,_,rfl⟩:=List.mem_map.mp hd;exact z8r r
theorem z9T{j:Nat}{E:List Row3}{r:Row3}{s:Stt}(hz:E.length<=1000):z3q (TD j E) (.tup (r.1.map .int)) (vD r) s= .nx (s.put j (TD j (putE E r))):=by
 have hT:isT (E.map fun r=>kI r.1)=true:=by cases E<;>rfl
 have ha:((E.map fun r=>kI r.1).any fun d=>decide (tkey d=some (nkI r.1)))=decide (r.1∈E.map (·.1)):=by
  rw[<-zdP,List.map_map];rfl
 unfold z3q TD
 simp only[z5v]
 rw[if_pos ⟨hT,by rw[List.length_map,zl];lia,z8r r,zbo E⟩]
 have e1:z7B (E.map fun r=>kI r.1) (nkI r.1)=(putE E r).map fun r=>kI r.1:=by
  unfold z7B putE
  rw[ha]
  by_cases h:r.1∈E.map (·.1)
  ·simp only[h,decide_true,if_true,List.map_map]
   refine List.map_congr_left fun e _=> ?_
   simp only[Function.comp];split<;>rfl
  ·simp only[h,decide_false,Bool.false_eq_true,if_false,List.map_append,zfo];rfl
 have e2:z5g (E.map fun r=>kI r.1) (E.map vD) (nkI r.1) (vD r)=(putE E r).map vD:=by
  unfold z5g putE
  rw[ha]
  by_cases h:r.1∈E.map (·.1)
  ·simp only[h,decide_true,if_true]
   clear h hz hT ha e1
   induction E with
   |nil=>rfl
   |cons e E ih=>
    simp only[List.map_cons,List.zipWith_cons_cons,ih]
    congr 1
    by_cases h:e.1=r.1
    ·rw[if_pos (z2t.mpr h),if_pos h];rfl
    ·rw[if_neg fun z=>h (z2t.mp z),if_neg h]
  ·simp only[h,decide_false,Bool.false_eq_true,if_false,List.map_append];rfl
 rw[e1,e2]
theorem z8s{E:List Row3}{r:Row3}(h: ∀e∈E,Wf e)(hr:Wf r): ∀e∈putE E r,Wf e:=fun e he=>by
 unfold putE at he
 split at he
 ·obtain⟨q,hq,rfl⟩:=List.mem_map.mp he
  split
  ·rename_i hk;exact hk▸hr
  ·exact h q hq
 ·rcases List.mem_append.mp he with he|he
  ·exact h e he
  ·rw[List.mem_singleton.mp he];exact hr
theorem z61{E:List Row3}{r:Row3}:(putE E r).length<=E.length+1:=by unfold putE;split<;>simp
theorem z8t{E:List Row3}{r:Row3}(h:(E.map (·.1)).Nodup):((putE E r).map (·.1)).Nodup:=by
 unfold putE
 split
 ·rw[List.map_map]
  have:((fun x:Row3=>x.1)∘fun e=>if e.1=r.1 then(e.1,r.2) else e)=fun x:Row3=>x.1:=by funext e;simp only[Function.comp];split<;>rfl
  rw[this];exact h
 ·rename_i hn
  rw[List.map_append,List.nodup_append]
  refine⟨h,by simp,fun a ha b hb e=> ?_⟩
  simp only[List.map_cons,List.map_nil,List.mem_singleton] at hb
  exact hn (hb▸e▸ha)
theorem zbp{E:List Row3}{r:Row3}(h:(E.map (·.1)).Nodup)(hr:r∈E):z40 (E.map fun r=>kI r.1) (E.map vD) (nkI r.1)=some (vD r):=by
 induction E with
 |nil=>cases hr
 |cons e E ih=>
  simp only[List.map_cons,List.nodup_cons] at h
  simp only[List.map_cons,z40]
  by_cases hk:e.1=r.1
  ·rw[if_pos (z2t.mpr hk)]
   rcases List.mem_cons.mp hr with rfl|hm
   ·rfl
   ·exact absurd (List.mem_map.mpr ⟨r,hm,hk.symm⟩) h.1
  ·rw[if_neg fun z=>hk (z2t.mp z)]
   rcases List.mem_cons.mp hr with rfl|hm
   ·exact absurd rfl hk
   ·exact ih h.2 hm
theorem z9y{k j:Nat}{d:D}{E:List Row3}(h:j≠k):rp (pl k d) (TD j E)=TD j E:=zdO h (zbo E)
theorem z8u{j:Nat}{d:D}{E:List Row3}:rp (pl j d) (TD j E)=d:=by unfold TD;simp only[rp,pl,if_true]
noncomputable def FD(E:List Row3):D:= .fdc (E.map fun r=>kI r.1) (E.map vD)
theorem zdQ{E:List Row3}{r:Row3}{s:Stt}(h:(E.map (·.1)).Nodup)(hr:r∈E):dgtD (FD E) (.tup (r.1.map .int)) s= .ok (vD r) s:=by
 unfold dgtD FD
 simp only[rdD,z5v,zbp h hr]
 rfl
noncomputable def gE(E:List Row3)(d:D):D:=match E.find? (fun r=>decide (r.1=unI d)) with
 |some r=>rD r
 |none=>d
theorem zdR{E:List Row3}{r:Row3}(h:(E.map (·.1)).Nodup)(hr:r∈E):gE E (kI r.1)=rD r:=by
 unfold gE kI
 rw[zdM]
 have:E.find? (fun e=>decide (e.1=r.1))=some r:=by
  induction E with
  |nil=>cases hr
  |cons e E ih=>
   simp only[List.map_cons,List.nodup_cons] at h
   rw[List.find?_cons]
   by_cases hk:e.1=r.1
   ·simp only[hk,decide_true]
    rcases List.mem_cons.mp hr with rfl|hm
    ·rfl
    ·exact absurd (List.mem_map.mpr ⟨r,hm,hk.symm⟩) h.1
   ·simp only[hk,decide_false]
    rcases List.mem_cons.mp hr with rfl|hm
    ·exact absurd rfl hk
    ·exact ih h.2 hm
 rw[this]
theorem z9z{E:List Row3}{j:Nat}{m0:M D}{σ tm:List (Option D)}{n:Nat}{s:Stt}(hn:(E.map (·.1)).Nodup)(hz:E.length<=1000)(i0:Nat)(hσ:σ[i0]? =some (some (FD E)))(hm:z3r m0 s= .ok kDct ⟨σ,some (FD E)::tm,n⟩):
 ∃n',n<=n'/\z0s (z3r m0) (.nm 0) (rt true) (mBin (mCB [(mVar 0)] tupD) (mBin (mVar 1) (mVar 0) dgtD) addD) 1 [i0] s= .ok (.lst n' (E.map rD)) ⟨σ,tm,n'+1⟩:=by
 obtain⟨n',h1,h2⟩:=z3d (mi:=z3r m0) (K:=kDct) (mt:=rt true) (me:=mBin (mCB [(mVar 0)] tupD) (mBin (mVar 1) (mVar 0) dgtD) addD) (p:=fun _=>true) (g:=gE E) (items:=E.map fun r=>kI r.1) (its:=[some (FD E)]) (ix:=[i0]) (s:=s) (σ:=σ) (tm:=tm) (n:=n) hm rfl (by rw[List.length_map,zl];lia) (fun i rest=>rfl) (by show(E.map fun r=>kI r.1).length=_;rfl) (fun d hd tm n=>⟨n,Nat.le_refl _,rfl⟩) (by
  intro d hd _ tm n
  obtain⟨r,hr,rfl⟩:=List.mem_map.mp hd
  refine⟨n,Nat.le_refl _, ?_⟩
  rw[zdR hn hr]
  simp only[List.map_cons,List.map_nil,hσ,Option.getD_some]
  walk_at ""
  unfold kI
  rw[zdQ hn hr]
  walk_at ""
  unfold vD
  rw[zdc (by rw[zl];simp)]
  rfl)
 refine⟨n',h1, ?_⟩
 rw[h2,List.filter_eq_self.mpr (fun _ _=>rfl),List.map_map]
 have e:List.map (gE E∘fun r=>kI r.1) E=E.map rD:=List.map_congr_left fun r hr=>zdR hn hr
 rw[e]
noncomputable abbrev sg(l:Nat)(c x:Int)(o1:Option D)(lt fi tp:Int)(dc:D)(o6 o7 o8 o9 oa:Option D):List (Option D):=[some (.lst l [.int c, .int x]),o1,some (.int lt),some (.int fi),some (.int tp),some dc,o6,o7,o8,o9,oa]
theorem z5w{t:Int}: ∀{ys:List D},(∀y∈ys,∃i:Int,y= .int i/\0<=i/\i<=t)->∃ns:List Int,ys=ns.map .int/\In t ns
 |[],_=>⟨[],rfl,fun _ h=>nomatch h⟩
 |y::ys,h=>by
  obtain⟨i,rfl,hi⟩:=h y (List.mem_cons_self ..)
  obtain⟨ns,rfl,hn⟩:=z5w fun z hz=>h z (List.mem_cons_of_mem _ hz)
  exact⟨i::ns,rfl,List.forall_mem_cons.mpr ⟨hi,hn⟩⟩
theorem cmpA(l n:Nat)(c x lt fi tp N:Int)(o1 o6 o7 o8 o9 oa:Option D)(dc:D)(ms:List (M D))(s:Stt)(hms:z0c ms s= .ok [.int N] ⟨sg l c x o1 lt fi tp dc o6 o7 o8 o9 oa,[some (.lst l [.int c, .int x])],n⟩)(h0:0<=N)(h1:N<=100)(hb:Bg c x)(hn:l<n)(hlt:0<lt)(hlt':lt<1000)
 (r1: ∀d,Option.map (rp (pl l d)) o1=o1) (rd: ∀d,rp (pl l d) dc=dc) (r6: ∀d,Option.map (rp (pl l d)) o6=o6) (r7: ∀d,Option.map (rp (pl l d)) o7=o7) (r8: ∀d,Option.map (rp (pl l d)) o8=o8) (r9: ∀d,Option.map (rp (pl l d)) o9=o9) (ra: ∀d,Option.map (rp (pl l d)) oa=oa):
 ∃(ns:List Int) (c' x':Int) (n':Nat),((ns.length:Int)=N/\In 25 ns)/\Bg c' x'/\n<=n'/\z0s (z0B ms) (.nm 0) (rt true) (mBin (mBin (mVar 1) (z06 z02 [(mVar 2),(mVar 3)]) addD) (mC (.int 26)) modD) 1 [3,0,2] s= .ok (.lst n' (ns.map .int)) ⟨sg l c' x' o1 lt fi tp dc o6 o7 o8 o9 oa,[some (.lst l [.int c', .int x'])],n'+1⟩:=by
 obtain⟨ys,b',n',g1,g2,g3,⟨c3,x3,rfl,h3⟩,g5,g6⟩:=z4Y (ms:=ms) (me:=mBin (mBin (mVar 1) (z06 z02 [(mVar 2),(mVar 3)]) addD) (mC (.int 26)) modD) (N:=N.toNat) (ix:=[3,0,2]) (s:=s) (l:=l) (n:=n) (j:=N) (σ0:=sg l c x o1 lt fi tp dc o6 o7 o8 o9 oa) (tm0:=[some (.lst l [.int c, .int x])]) (b:=[.int c, .int x]) (Bg:=fun b=> ∃c x,b=[.int c, .int x]/\Bg c x) (Q:=fun _ d=> ∃i:Int,d= .int i/\0<=i/\i<=25) (fun _ _ _ _ h=>h)
  hms rfl ⟨by lia,by lia⟩ (by rw[zl];lia) ⟨c,x,rfl,hb⟩ hn (by simp only[sg,z0z,z0S,Option.map_some,z1x,z1l,r1,rd,r6,r7,r8,r9,ra]) (by simp only[z0z,z0S,Option.map_some,z1x]) (by simp only[sg,List.map_cons,List.map_nil,List.getElem?_cons_zero,List.getElem?_cons_succ,Option.getD_some,z0z,z0S,Option.map_some,z1x,z1l]) (by
   rintro i hi b tm m ⟨c,x,rfl,hb⟩ hm hf
   obtain⟨r,c',x',hs0,hs1,h',e'⟩:=z0w l c x lt m hb hlt (by lia)
   refine⟨.int ((fi+r) %26),[.int c', .int x'],m,⟨c',x',rfl,h'⟩,⟨_,rfl,by lia,by lia⟩,Nat.le_refl _,by simp[labs], ?_⟩
   simp only[sg,List.map_cons,List.map_nil,List.getElem?_cons_zero,List.getElem?_cons_succ,Option.getD_some]
   walk_at ""
   rw[e',z0n rfl rfl rfl (by walk_at "") (by walk_at "";simp only[hf])]
   walk_at ""
   rw[z2o (by decide)]
   try rfl)
 obtain⟨ns,rfl,hin⟩:=z5w g2
 refine⟨ns,c3,x3,n',⟨by simp at g1;lia,hin⟩,h3,by lia, ?_⟩
 rw[g6]
 simp only[sg,z0z,z0S,Option.map_some,z1x,z1l,r1,rd,r6,r7,r8,r9,ra]
theorem cmpB(l n:Nat)(c x lt fi tp N:Int)(o1 o6 o7 o8 o9 oa:Option D)(dc:D)(ms:List (M D))(s:Stt)(hms:z0c ms s= .ok [.int N] ⟨sg l c x o1 lt fi tp dc o6 o7 o8 o9 oa,[some (.lst l [.int c, .int x])],n⟩)(h0:0<=N)(h1:N<=100)(hb:Bg c x)(hn:l<n)(hlt:0<tp)(hlt':tp<1000)
 (r1: ∀d,Option.map (rp (pl l d)) o1=o1) (rd: ∀d,rp (pl l d) dc=dc) (r6: ∀d,Option.map (rp (pl l d)) o6=o6) (r7: ∀d,Option.map (rp (pl l d)) o7=o7) (r8: ∀d,Option.map (rp (pl l d)) o8=o8) (r9: ∀d,Option.map (rp (pl l d)) o9=o9) (ra: ∀d,Option.map (rp (pl l d)) oa=oa):
 ∃(ns:List Int) (c' x':Int) (n':Nat),((ns.length:Int)=N/\In (tp - 1) ns)/\Bg c' x'/\n<=n'/\z0s (z0B ms) (.nm 0) (rt true) (z06 z02 [(mVar 1),(mVar 2)]) 1 [0,4] s= .ok (.lst n' (ns.map .int)) ⟨sg l c' x' o1 lt fi tp dc o6 o7 o8 o9 oa,[some (.lst l [.int c', .int x'])],n'+1⟩:=by
 obtain⟨ys,b',n',g1,g2,g3,⟨c3,x3,rfl,h3⟩,g5,g6⟩:=z4Y (ms:=ms) (me:=z06 z02 [(mVar 1),(mVar 2)]) (N:=N.toNat) (ix:=[0,4]) (s:=s) (l:=l) (n:=n) (j:=N) (σ0:=sg l c x o1 lt fi tp dc o6 o7 o8 o9 oa) (tm0:=[some (.lst l [.int c, .int x])]) (b:=[.int c, .int x]) (Bg:=fun b=> ∃c x,b=[.int c, .int x]/\Bg c x) (Q:=fun _ d=> ∃i:Int,d= .int i/\0<=i/\i<=(tp - 1)) (fun _ _ _ _ h=>h)
  hms rfl ⟨by lia,by lia⟩ (by rw[zl];lia) ⟨c,x,rfl,hb⟩ hn (by simp only[sg,z0z,z0S,Option.map_some,z1x,z1l,r1,rd,r6,r7,r8,r9,ra]) (by simp only[z0z,z0S,Option.map_some,z1x]) (by simp only[sg,List.map_cons,List.map_nil,List.getElem?_cons_zero,List.getElem?_cons_succ,Option.getD_some,z0z,z0S,Option.map_some,z1x,z1l]) (by
   rintro i hi b tm m ⟨c,x,rfl,hb⟩ hm hf
   obtain⟨r,c',x',hs0,hs1,h',e'⟩:=z0w l c x tp m hb hlt (by lia)
   refine⟨.int r,[.int c', .int x'],m,⟨c',x',rfl,h'⟩,⟨_,rfl,by lia,by lia⟩,Nat.le_refl _,by simp[labs], ?_⟩
   simp only[sg,List.map_cons,List.map_nil,List.getElem?_cons_zero,List.getElem?_cons_succ,Option.getD_some]
   walk_at ""
   rw[e',z0n rfl rfl rfl (by walk_at "") hf]
   walk_at "")
 obtain⟨ns,rfl,hin⟩:=z5w g2
 refine⟨ns,c3,x3,n',⟨by simp at g1;lia,hin⟩,h3,by lia, ?_⟩
 rw[g6]
 simp only[sg,z0z,z0S,Option.map_some,z1x,z1l,r1,rd,r6,r7,r8,r9,ra]
noncomputable def tb:MS:=(seqS (sAsg (.nm 8) (mCB [(z0s (z0B [(mBin (mC (.int 1)) (z06 z02 [(mVar 0),(mC (.int 4))]) addD)]) (.nm 0) (rt true) (mBin (mBin (mVar 1) (z06 z02 [(mVar 2),(mVar 3)]) addD) (mC (.int 26)) modD) 1 [3,0,2])] tupF))
 (seqS (sAsg (.nm 9) (mCB [(z0s (z0B [(z06 z02 [(mVar 0),(mC (.int 4))])]) (.nm 0) (rt true) (z06 z02 [(mVar 1),(mVar 2)]) 1 [0,4])] tupF))
 (seqS (sAsg (.nm 10) (mCB [(z0s (z0B [(z06 z02 [(mVar 0),(mCB [(mVar 8)] lenD)])]) (.nm 0) (rt true) (mBin (mBin (mVar 1) (z06 z02 [(mVar 2),(mVar 3)]) addD) (mC (.int 26)) modD) 1 [3,0,2])] tupF))
 (mTri (mCB [(mVar 9),(mVar 10)] tupD) (mVar 5) (mVar 8) z3q))))
noncomputable abbrev Fre(o:Option D):Prop:= ∀k d,Option.map (rp (pl k d)) o=o
theorem z3I(ns:List Int):Fre (some (.tup (ns.map .int))):=fun _ _=>by rw[Option.map_some,zdN]
theorem z3i(i:Int):Fre (some (.int i)):=fun _ _=>rfl
theorem z0H:Fre none:=fun _ _=>rfl
theorem zfp(l j n:Nat)(c x lt fi tp:Int)(o1 o6 o7 o8 o9 oa:Option D)(E:List Row3)(hE:E.length<=900)(hb:Bg c x)(hn:l<n)(hj:j<n)(hlj:l≠j)(h0:0<lt)(h1:lt<1000)(h2:0<tp)(h3:tp<=40)(f1:Fre o1)(f6:Fre o6)(f7:Fre o7)(f8:Fre o8)(f9:Fre o9)(fa:Fre oa):
 ∃(r:Row3) (c' x':Int) (n':Nat) (p8 p9 pa:Option D),Wf r/\Bg c' x'/\n<=n'/\Fre p8/\Fre p9/\Fre pa/\tb ⟨sg l c x o1 lt fi tp (TD j E) o6 o7 o8 o9 oa,[some (.lst l [.int c, .int x])],n⟩= .nx ⟨sg l c' x' o1 lt fi tp (TD j (putE E r)) o6 o7 p8 p9 pa,[some (.lst l [.int c', .int x'])],n'⟩:=by
 have rd: ∀d,rp (pl l d) (TD j E)=TD j E:=fun d=>z9y (fun h=>hlj h.symm)
 unfold tb
 walk_at ""
 obtain⟨q,c1,x1,hq0,hq1,b1,e1⟩:=z0w l c x 4 n hb (by decide) (by decide)
 obtain⟨ks,c2,x2,n2,⟨lk,ik⟩,b2,hn2,e2⟩:=cmpA l n c1 x1 lt fi tp (1+q) o1 o6 o7 o8 o9 oa (TD j E) [(mBin (mC (.int 1)) (z06 z02 [(mVar 0),(mC (.int 4))]) addD)] ⟨sg l c x o1 lt fi tp (TD j E) o6 o7 o8 o9 oa,[some (.lst l [.int c, .int x])],n⟩ (by
  unfold sg
  walk_at ""
  rw[e1,z0n rfl rfl rfl (by walk_at "";simp only[f1 l,f6 l,f7 l,f8 l,f9 l,fa l,rd]) (by walk_at "")]
  walk_at ""
  simp only[f1 l,f6 l,f7 l,f8 l,f9 l,fa l,rd]) (by lia) (by lia) b1 hn h0 h1 (f1 l) rd (f6 l) (f7 l) (f8 l) (f9 l) (fa l)
 rw[e2]
 unfold sg
 walk_at ""
 obtain⟨q3,c3,x3,hq30,hq31,b3,e3⟩:=z0w l c2 x2 4 (n2+1) b2 (by decide) (by decide)
 obtain⟨ss,c4,x4,n4,⟨ls,is⟩,b4,hn4,e4⟩:=cmpB l (n2+1) c3 x3 lt fi tp q3 o1 o6 o7 (some (.tup (ks.map .int))) o9 oa (TD j E) [(z06 z02 [(mVar 0),(mC (.int 4))])] ⟨sg l c2 x2 o1 lt fi tp (TD j E) o6 o7 (some (.tup (ks.map .int))) o9 oa,[some (.lst l [.int c2, .int x2])],n2+1⟩ (by
  unfold sg
  walk_at ""
  rw[e3,z0n rfl rfl rfl (by walk_at "";simp only[f1 l,f6 l,f7 l,f9 l,fa l,rd,z2I]) (by walk_at "")]
  walk_at ""
  simp only[f1 l,f6 l,f7 l,f9 l,fa l,rd,z2I]) (by lia) (by lia) b3 (by lia) h2 (by lia) (f1 l) rd (f6 l) (f7 l) (z3I ks l) (f9 l) (fa l)
 unfold sg at e4
 rw[e4]
 walk_at ""
 obtain⟨q5,c5,x5,hq50,hq51,b5,e5⟩:=z0w l c4 x4 ks.length (n4+1) b4 (by lia) (by lia)
 obtain⟨fs,c6,x6,n6,⟨lf,jf⟩,b6,hn6,e6⟩:=cmpA l (n4+1) c5 x5 lt fi tp q5 o1 o6 o7 (some (.tup (ks.map .int))) (some (.tup (ss.map .int))) oa (TD j E) [(z06 z02 [(mVar 0),(mCB [(mVar 8)] lenD)])] ⟨sg l c4 x4 o1 lt fi tp (TD j E) o6 o7 (some (.tup (ks.map .int))) (some (.tup (ss.map .int))) oa,[some (.lst l [.int c4, .int x4])],n4+1⟩ (by
  unfold sg
  walk_at ""
  rw[lenM,e5,z0n rfl rfl rfl (by walk_at "";simp only[f1 l,f6 l,f7 l,fa l,rd,z2I]) (by walk_at "")]
  walk_at ""
  simp only[f1 l,f6 l,f7 l,fa l,rd,z2I]) (by lia) (by lia) b5 (by lia) h0 h1 (f1 l) rd (f6 l) (f7 l) (z3I ks l) (z3I ss l) (fa l)
 unfold sg at e6
 rw[e6]
 walk_at ""
 have hp:=z9T (j:=j) (E:=E) (r:=(ks,ss,fs)) (s:=⟨[some (.lst l [.int c6, .int x6]),o1,some (.int lt),some (.int fi),some (.int tp),some (TD j E),o6,o7,some (.tup (ks.map .int)),some (.tup (ss.map .int)),some (.tup (fs.map .int))],[some (.lst l [.int c6, .int x6])],n6+1⟩) (by lia)
 unfold vD tI at hp
 rw[hp]
 refine⟨(ks,ss,fs),c6,x6,n6+1,some (.tup (ks.map .int)),some (.tup (ss.map .int)),some (.tup (fs.map .int)),⟨by show 1<=ks.length;lia,by show ks.length<=4;lia,by show ss.length<=3;lia,by show fs.length<ks.length;lia,ik,fun i hi=>⟨(is i hi).1,by have:=(is i hi).2;show i<=39;lia⟩,jf⟩,b6,by lia,z3I ks,z3I ss,z3I fs, ?_⟩
 simp only[z5W,z0z,z0S,Option.map_some,zdN,z1l,z8u,f1 j,f6 j,f7 j,z4Z hlj,z1w,z20]
theorem at2'{a b w:Int}(h0:0<=w)(h1:w<2): ∃v,(v=a\/v=b)/\atI [D.int a,D.int b] w=some (.int v):=by
 have:w=0\/w=1:=by lia
 rcases this with rfl|rfl
 ·exact⟨a, .inl rfl,at0⟩
 ·exact⟨b, .inr rfl,at1⟩
noncomputable def tb1:MS:=mTri (mCB [(mCB [(z06 z02 [(mVar 0),(mVar 4)])] tupD),(mCB [] tupD)] tupD) (mVar 5) (mCB [(mBin (mBin (mVar 3) (mVar 6) addD) (mC (.int 26)) modD)] tupD) z3q
theorem zdS{σ tm:List (Option D)}{n:Nat}:z7C ⟨σ,tm,n⟩= .ok (TD n []) ⟨σ,tm,n+1⟩:=(rfl)
theorem zdT(l j n:Nat)(c x lt fi tp k:Int)(o1 o7 o8 o9 oa:Option D)(E:List Row3)(hE:E.length<=900)(hb:Bg c x)(hlj:l≠j)(h2:0<tp)(h3:tp<=40)(f1:Fre o1)(f7:Fre o7)(f8:Fre o8)(f9:Fre o9)(fa:Fre oa):
 ∃(r:Row3) (c' x':Int),Wf r/\Bg c' x'/\tb1 ⟨sg l c x o1 lt fi tp (TD j E) (some (.int k)) o7 o8 o9 oa,[some (.lst l [.int c, .int x])],n⟩= .nx ⟨sg l c' x' o1 lt fi tp (TD j (putE E r)) (some (.int k)) o7 o8 o9 oa,[some (.lst l [.int c', .int x'])],n⟩:=by
 have rd: ∀d,rp (pl l d) (TD j E)=TD j E:=fun d=>z9y (fun h=>hlj h.symm)
 unfold tb1 sg
 walk_at ""
 obtain⟨q,c1,x1,hq0,hq1,b1,e1⟩:=z0w l c x tp n hb h2 (by lia)
 rw[e1,z0n rfl rfl rfl (by walk_at "";simp only[f1 l,f7 l,f8 l,f9 l,fa l,rd]) (by walk_at "")]
 walk_at ""
 simp only[f1 l,f7 l,f8 l,f9 l,fa l,rd]
 try (walk_at "")
 rw[z2o (by decide)]
 walk_at ""
 have hp:=z9T (j:=j) (E:=E) (r:=([(fi+k) %26],[q],[])) (s:=⟨[some (.lst l [.int c1, .int x1]),o1,some (.int lt),some (.int fi),some (.int tp),some (TD j E),some (.int k),o7,o8,o9,oa],[some (.lst l [.int c1, .int x1])],n⟩) (by lia)
 unfold vD tI at hp
 simp only[List.map_cons,List.map_nil] at hp
 rw[hp]
 refine⟨([(fi+k) %26],[q],[]),c1,x1,⟨by simp,by simp,by simp,by simp,by simp only[In,List.mem_singleton];rintro i rfl;lia,by simp only[In,List.mem_singleton];rintro i rfl;lia,fun _ h=>nomatch h⟩,b1, ?_⟩
 simp only[z5W,z0z,z0S,Option.map_some,z1l,z8u,f1 j,f7 j,f8 j,f9 j,fa j,z4Z hlj,z1w,z20]
theorem z9A(l n:Nat)(c x:Int)(hb:Bg c x)(hn:l<n): ∃(rows:List Row3) (c' x':Int) (k n':Nat),(∀r∈rows,Wf r)/\(rows.length<=40/\(rows.map (·.1)).Nodup)/\Bg c' x'/\n<=k/\k<n'/\z1Q [.lst l [.int c, .int x]] n= .ok (.lst k (rows.map rD)) [.lst l [.int c', .int x']] n':=by
 unfold z1Q
 have e0:z36=(seqS (sAsg (.nm 1) (mBin (z06 z02 [(mVar 0),(mC (.int 8))]) (mC (.int 7)) z25))
  (seqS (sAsg (.nm 2) (mBin (mCB [(mBin (mC (.int 1)) (z06 z02 [(mVar 0),(mC (.int 4))]) addD),(mC (.int 26))] lstM) (mVar 1) ixD))
  (seqS (sAsg (.nm 3) (z06 z02 [(mVar 0),(mC (.int 26))]))
  (seqS (sAsg (.nm 4) (mBin (mCB [(mC (.int 3)),(mC (.int 40))] lstM) (z06 z02 [(mVar 0),(mC (.int 2))]) ixD))
  (seqS (sAsg (.nm 5) z7C)
  (seqS (sIf (mBoo (mBin (z06 z02 [(mVar 0),(mC (.int 2))]) (mC (.int 0)) eqD)) (sFor (z0B [(mVar 2)]) (.nm 6) tb1) sNx)
  (seqS (sFor (z0B [(mBin (mCB [(z06 z02 [(mVar 0),(mC (.int 8))]),(mC (.int 40))] lstM) (mVar 1) ixD)]) (.nm 7) tb)
  (sRet (mSl (z0s (z3r (mVar 5)) (.nm 0) (rt true) (mBin (mCB [(mVar 0)] tupD) (mBin (mVar 1) (mVar 0) dgtD) addD) 1 [5]) none (some (mC (.int 40)))))))))))):=rfl
 rw[e0]
 walk_at ""
 obtain⟨q1,c1,x1,hq1,hq1',b1,e1⟩:=z0w l c x 8 n hb (by decide) (by decide)
 rw[e1,z0n rfl rfl rfl (by walk_at "") (by walk_at "")]
 walk_at ""
 rw[z5V ⟨by decide,by decide⟩]
 walk_at ""
 obtain⟨q2,c2,x2,hq2,hq2',b2,e2⟩:=z0w l c1 x1 4 n b1 (by decide) (by decide)
 rw[e2,z0n rfl rfl rfl (by walk_at "") (by walk_at "")]
 walk_at ""
 generalize hw:q1/7=w
 have hw0:0<=w:=by lia
 have hw1:w<2:=by lia
 obtain⟨lt,hlt,elt⟩:=at2' (a:=1+q2) (b:=26) hw0 hw1
 rw[elt]
 walk_at ""
 obtain⟨fi,c3,x3,hq3,hq3',b3,e3⟩:=z0w l c2 x2 26 (n+1) b2 (by decide) (by decide)
 rw[e3,z0n rfl rfl rfl (by walk_at "") (by walk_at "")]
 walk_at ""
 obtain⟨q4,c4,x4,hq4,hq4',b4,e4⟩:=z0w l c3 x3 2 (n+1+1) b3 (by decide) (by decide)
 rw[e4,z0n rfl rfl rfl (by walk_at "";try simp only[z4Z (show n+1≠l by lia),z1w,z20,z1l]) (by walk_at "";try simp only[z4Z (show n+1≠l by lia),z1w,z20,z1l])]
 walk_at ""
 simp only[z4Z (show n+1≠l by lia),z1w,z20,z1l]
 walk_at ""
 obtain⟨tp,htp,etp⟩:=at2' (a:=3) (b:=40) hq4 hq4'
 rw[etp]
 walk_at ""
 rw[zdS]
 walk_at ""
 have hj:l≠n+1+1:=by lia
 have rd0: ∀d,rp (pl l d) (TD (n+1+1) [])=TD (n+1+1) []:=fun d=>z9y (fun h=>hj h.symm)
 obtain⟨q5,c5,x5,hq5,hq5',b5,e5⟩:=z0w l c4 x4 2 (n+1+1+1) b4 (by decide) (by decide)
 rw[e5,z0n rfl rfl rfl (by walk_at "";simp only[rd0]) (by walk_at "")]
 walk_at ""
 simp only[rd0]
 try (walk_at "")
 have k1: ∃(E:List Row3) (c6 x6:Int) (o6:Option D),(∀e∈E,Wf e)/\E.length<=26/\(E.map (·.1)).Nodup/\Bg c6 x6/\Fre o6/\iteS (q5==0) (sFor (z0B [(mVar 2)]) (.nm 6) tb1) sNx ⟨sg l c5 x5 (some (.int w)) lt fi tp (TD (n+1+1) []) none none none none none,[some (.lst l [.int c5, .int x5])],n+1+1+1⟩= .nx ⟨sg l c6 x6 (some (.int w)) lt fi tp (TD (n+1+1) E) o6 none none none none,[some (.lst l [.int c6, .int x6])],n+1+1+1⟩:=by
  cases(q5==0) with
  |false=>exact⟨[],c5,x5,none,fun e h=>absurd h List.not_mem_nil,by simp,by simp,b5,z0H,by unfold sg;walk_at ""⟩
  |true=>
   unfold sg
   walk_at ""
   rw[z2x ⟨by lia,by lia⟩]
   walk_at ""
   obtain⟨s',e,E,c6,x6,o6,rfl,g1,g2,g3,g4,g5⟩:=z2p (P:=fun i s=> ∃(E:List Row3) (c6 x6:Int) (o6:Option D),s=⟨sg l c6 x6 (some (.int w)) lt fi tp (TD (n+1+1) E) o6 none none none none,[some (.lst l [.int c6, .int x6])],n+1+1+1⟩/\(∀e∈E,Wf e)/\E.length<=i/\(E.map (·.1)).Nodup/\Bg c6 x6/\Fre o6) (lo:=0) (N:=lt.toNat) (g:= .nm 6) (b:=tb1) (by
    rintro i hi s ⟨E,c6,x6,o6,rfl,g1,g2,g3,g4,g5⟩
    refine⟨sg l c6 x6 (some (.int w)) lt fi tp (TD (n+1+1) E) (some (.int (0+(i:Int)))) none none none none,rfl, ?_⟩
    obtain⟨r,c7,x7,hr,b7,e7⟩:=zdT l (n+1+1) (n+1+1+1) c6 x6 lt fi tp (0+(i:Int)) (some (.int w)) none none none none E (by lia) g4 hj (by lia) (by lia) (z3i w) z0H z0H z0H z0H
    exact⟨_,e7,putE E r,c7,x7,_,rfl,z8s g1 hr,Nat.le_trans z61 (by lia),z8t g3,b7,z3i _⟩) lt.toNat 0 ⟨sg l c5 x5 (some (.int w)) lt fi tp (TD (n+1+1) []) none none none none none,[some (.lst l [.int c5, .int x5])],n+1+1+1⟩ (by lia) ⟨[],c5,x5,none,rfl,fun e h=>absurd h List.not_mem_nil,by simp,by simp,b5,z0H⟩
   exact⟨E,c6,x6,o6,g1,by lia,g3,g4,g5,e⟩
 obtain⟨E,c6,x6,o6,g1,g2,g3,b6,f6,e6⟩:=k1
 unfold sg at e6
 rw[e6]
 walk_at ""
 have rd1: ∀d,rp (pl l d) (TD (n+1+1) E)=TD (n+1+1) E:=fun d=>z9y (fun h=>hj h.symm)
 obtain⟨q7,c7,x7,hq7,hq7',b7,e7⟩:=z0w l c6 x6 8 (n+1+1+1) b6 (by decide) (by decide)
 rw[e7,z0n rfl rfl rfl (by walk_at "";simp only[rd1,f6 l]) (by walk_at "")]
 walk_at ""
 simp only[rd1,f6 l]
 try (walk_at "")
 obtain⟨N,hN,eN⟩:=at2' (a:=q7) (b:=40) hw0 hw1
 rw[eN]
 walk_at ""
 rw[z2x ⟨by lia,by lia⟩]
 walk_at ""
 obtain⟨s',e8,E2,c8,x8,o7,o8,o9,oa,n8,rfl,g1',g2',g3',b8,hn8,f7,f8,f9,fa⟩:=z2p (P:=fun i s=> ∃(E2:List Row3) (c8 x8:Int) (o7 o8 o9 oa:Option D) (n8:Nat),s=⟨sg l c8 x8 (some (.int w)) lt fi tp (TD (n+1+1) E2) o6 o7 o8 o9 oa,[some (.lst l [.int c8, .int x8])],n8⟩/\(∀e∈E2,Wf e)/\E2.length<=26+i/\(E2.map (·.1)).Nodup/\Bg c8 x8/\n+1+1+1+1<=n8/\Fre o7/\Fre o8/\Fre o9/\Fre oa) (lo:=0) (N:=N.toNat) (g:= .nm 7) (b:=tb) (by
  rintro i hi s ⟨E2,c8,x8,o7,o8,o9,oa,n8,rfl,g1',g2',g3',b8,hn8,f7,f8,f9,fa⟩
  refine⟨sg l c8 x8 (some (.int w)) lt fi tp (TD (n+1+1) E2) o6 (some (.int (0+(i:Int)))) o8 o9 oa,rfl, ?_⟩
  obtain⟨r,c9,x9,n9,p8,p9,pa,hr,b9,hn9,h8,h9,ha,e9⟩:=zfp l (n+1+1) n8 c8 x8 lt fi tp (some (.int w)) o6 (some (.int (0+(i:Int)))) o8 o9 oa E2 (by lia) b8 (by lia) (by lia) hj (by lia) (by lia) (by lia) (by lia) (z3i w) f6 (z3i _) f8 f9 fa
  exact⟨_,e9,putE E2 r,c9,x9,_,p8,p9,pa,n9,rfl,z8s g1' hr,Nat.le_trans z61 (by lia),z8t g3',b9,by lia,z3i _,h8,h9,ha⟩) N.toNat 0 ⟨sg l c7 x7 (some (.int w)) lt fi tp (TD (n+1+1) E) o6 none none none none,[some (.lst l [.int c7, .int x7])],n+1+1+1+1⟩ (by lia) ⟨E,c7,x7,none,none,none,none,n+1+1+1+1,rfl,g1,by lia,g3,b7,Nat.le_refl _,z0H,z0H,z0H,z0H⟩
 unfold sg at e8
 rw[e8]
 walk_at ""
 have hT:isT (E2.map fun r=>kI r.1)=true:=by cases E2<;>rfl
 obtain⟨n9,hn9,e9⟩:=z9z (E:=E2) (j:=n+1+1) (m0:=mVar 5) (σ:=[some (.lst l [.int c8, .int x8]),some (.int w),some (.int lt),some (.int fi),some (.int tp),some (FD E2),o6,o7,o8,o9,oa]) (tm:=[some (.lst l [.int c8, .int x8])]) (n:=n8) (s:=⟨[some (.lst l [.int c8, .int x8]),some (.int w),some (.int lt),some (.int fi),some (.int tp),some (TD (n+1+1) E2),o6,o7,o8,o9,oa],[some (.lst l [.int c8, .int x8])],n8⟩) g3' (by lia) 5 rfl (by
  unfold z3r
  walk_at ""
  show(if isT (E2.map fun r=>kI r.1)=true/\labsL (E2.map vD)=[] then _ else _)=_
  rw[if_pos ⟨hT,zbo E2⟩]
  simp only[z5W,z0z,z0S,Option.map_some,z1l,z8u,f6 (n+1+1),f7 (n+1+1),f8 (n+1+1),f9 (n+1+1),fa (n+1+1),z4Z hj,z1w,z20]
  rfl)
 rw[e9]
 walk_at ""
 refine⟨E2.take 40,c8,x8,n9+1,n9+1+1,fun r hr=>g1' r (List.mem_of_mem_take hr),⟨by rw[List.length_take];lia,by rw[List.map_take];exact g3'.sublist (List.take_sublist _ _)⟩,b8,by lia,by lia, ?_⟩
 rw[show(40:Int)=((40:Nat):Int) from rfl,z9S,<-List.map_take]
theorem zdU{i:Int}(h:i.natAbs<=10^59+100):(PyData.int i).shown.length<=64/\i.natAbs.log2<1920:=by
 constructor
 ·simp only[PyData.shown]
  have:= @PySem.int_text_length_le10 i 61 (by decide) (Nat.lt_of_le_of_lt h (by decide))
  rw[PySem.ofString_length];lia
 ·by_cases h0:i.natAbs=0
  ·rw[h0];decide
  ·rw[Nat.log2_lt h0]
   exact Nat.lt_of_le_of_lt h (Nat.lt_of_lt_of_le (show 10^59+100<2^203 by decide) (Nat.pow_le_pow_right (by decide) (by decide)))
mutual
theorem z62{B:Nat}(h:B<=100): ∀t:PyData,Lv B t=true->t.leavesShort 64=true/\t.showable=true
 | .none,_=>⟨rfl,rfl⟩
 | .bool _,_=>⟨rfl,rfl⟩
 | .int i,e=>by
  simp only[Lv,decide_eq_true_eq] at e
  have q:=zdU (i:=i) (by lia)
  exact⟨by simp only[PyData.leavesShort,decide_eq_true_eq];exact q.1,by simp only[PyData.showable,decide_eq_true_eq];exact q.2⟩
 | .str x,e=>⟨by simp only[Lv] at e;simp only[PyData.leavesShort];exact e,rfl⟩
 | .list xs,e=>by simp only[Lv] at e;simp only[PyData.leavesShort,PyData.showable];exact lvA_short h xs e
 | .tuple xs,e=>by simp only[Lv] at e;simp only[PyData.leavesShort,PyData.showable];exact lvA_short h xs e
 | .dict _,e=>by simp[Lv] at e
theorem lvA_short{B:Nat}(h:B<=100): ∀t:List PyData,LvA B t=true->PyData.leavesShortAll 64 t=true/\PyData.showableAll t=true
 |[],_=>⟨rfl,rfl⟩
 |x::xs,e=>by
  simp only[LvA,Bool.and_eq_true] at e
  have a:=z62 h x e.1
  have b:=lvA_short h xs e.2
  exact⟨by simp only[PyData.leavesShortAll,a.1,b.1,Bool.and_self],by simp only[PyData.showableAll,a.2,b.2,Bool.and_self]⟩
end
theorem zbq{lo W B:Nat}{t:D}(sw:Sw lo W t=true)(hW:W<=1000)(hd:(er t).depth<=60)(hb:(er t).bulk<=200000)(hB:B<=100)(hv:Lv B (er t)=true): ∃x:Str,∀s:Stt,repA [t] s= .ok (.str x) s:=by
 have gp:Mi.plain t=true:=(z6E (n:=lo) t (z4f (by lia) t sw)).1
 have z:=z62 hB _ hv
 have b:=PyData.shown_le_bulk 64 (by decide) _ z.1
 have hz:(er t).shown.length<=sizeLine:=by rw[zl];lia
 cases t with
 |non=>exact⟨_,fun s=>rfl⟩
 |bool _=>exact⟨_,fun s=>rfl⟩
 |int i=>
  have q:=z.2
  simp only[er,PyData.showable,decide_eq_true_eq] at q
  exact⟨_,fun s=>by simp only[repA,if_pos q];rfl⟩
 |str x=>
  have q:(reprText x).length<=sizeLine:=hz
  exact⟨_,fun s=>by simp only[repA,if_pos q];rfl⟩
 |tup ds=>
  have hc:(plainL ds&&(er (.tup ds)).showable&&decide ((er (.tup ds)).depth<=60)&&decide ((er (.tup ds)).shown.length<=sizeLine))=true:=by
   simp only[Bool.and_eq_true,decide_eq_true_eq]
   exact⟨⟨⟨by simpa[Mi.plain] using gp,z.2⟩,hd⟩,hz⟩
  exact⟨_,fun s=>by simp only[repA,if_pos hc];rfl⟩
 |lst l ds=>
  have hc:(plainL ds&&(er (.lst l ds)).showable&&decide ((er (.lst l ds)).depth<=60)&&decide ((er (.lst l ds)).shown.length<=sizeLine))=true:=by
   simp only[Bool.and_eq_true,decide_eq_true_eq]
   exact⟨⟨⟨by simpa[Mi.plain] using gp,z.2⟩,hd⟩,hz⟩
  exact⟨_,fun s=>by simp only[repA,repD,if_pos hc];rfl⟩
 |_=>simp[Sw] at sw
structure Rw(r:Row3):Prop where
 l1:r.1.length<=4
 l2:r.2.1.length<=4
 l3:r.2.2.length<=4
 i1:In 100 r.1
 i2:In 100 r.2.1
 i3:In 100 r.2.2
theorem z5x{a b:Int}{s:List Int}(h:In a s)(hab:a<=b):In b s:=fun i hi=>by have:=h i hi;lia
theorem Wf.rw{r:Row3}(h:Wf r):Rw r:=⟨h.l2,by have:=h.l3;lia,by have:=h.l4;have:=h.l2;lia,z5x h.i1 (by decide),z5x h.i2 (by decide),z5x h.i3 (by decide)⟩
theorem z9B(s:List Int):erL (s.map .int)=s.map .int:=zbi s
theorem bk_i: ∀s:List Int,PyData.bulkAll (s.map .int)=s.length
 |[]=>rfl
 |i::s=>by simp only[List.map_cons,PyData.bulkAll,PyData.bulk,bk_i s,List.length_cons];lia
theorem dp_i: ∀s:List Int,PyData.depthAll (s.map .int)=0
 |[]=>rfl
 |i::s=>by simp only[List.map_cons,PyData.depthAll,PyData.depth,dp_i s];rfl
theorem lv_i: ∀{s:List Int},In 100 s->LvA 0 (s.map .int)=true
 |[],_=>rfl
 |i::s,h=>by
  have:=h i (List.mem_cons_self ..)
  simp only[List.map_cons,LvA,Lv,lv_i fun j hj=>h j (List.mem_cons_of_mem _ hj),Bool.and_true,decide_eq_true_eq]
  lia
theorem sw_i{lo W:Nat}: ∀s:List Int,SwL lo W (s.map .int)=true
 |[]=>rfl
 |i::s=>by simp only[List.map_cons,SwL,Sw,sw_i s,Bool.and_self]
structure Fl(lo W K b:Nat)(d:D):Prop where
 sw:Sw lo W d=true
 dp:(er d).depth<=K
 bk:(er d).bulk<=b
 lv:Lv 0 (er d)=true
theorem zdV(lo:Nat){r:Row3}(h:Rw r):Fl lo 41 2 15 (rD r):=by
 have a:=h.l1
 have b:=h.l2
 have c:=h.l3
 have e: ∀s:List Int,er (tI s)= .tuple (s.map .int):=fun s=>by simp only[er,z9B]
 refine⟨?_, ?_, ?_, ?_⟩
 ·simp only[Sw,SwL,sw_i,List.length_map,List.length_cons,List.length_nil,Bool.and_true,Bool.and_eq_true,decide_eq_true_eq];lia
 ·simp only[er,erL,z9B,PyData.depth,PyData.depthAll,dp_i];decide
 ·simp only[er,erL,z9B,PyData.bulk,PyData.bulkAll,bk_i];lia
 ·simp only[er,erL,z9B,Lv,LvA,lv_i h.i1,lv_i h.i2,lv_i h.i3,Bool.and_self]
theorem z8v{b:Nat}: ∀{ds:List D},(∀d∈ds,(er d).bulk<=b)->bkL ds<=(b+1)*ds.length
 |[],_=>Nat.le_refl _
 |d::ds,h=>by
  have:=z8v (ds:=ds) fun e he=>h e (List.mem_cons_of_mem _ he)
  have:=h d (List.mem_cons_self ..)
  rw[z1f,List.length_cons,Nat.mul_add,Nat.mul_one];lia
structure Thk(T:Nat->Option D)(l g n:Nat)(t:D):Prop where
 wq:Wq T l 0 n 44 9 t
 bk:(er t).bulk<=8000
 lv:Lv 3 (er t)=true
 nl:l∉labs t
 ng:g∉labs t
theorem z8w{T:Nat->Option D}{l lo n n' W W' K K':Nat}{t:D}(h:Wq T l lo n W K t)(h1:n<=n')(h2:W<=W')(h3:K<=K'):Wq T l lo n' W' K' t:=⟨z2s (Nat.le_refl _) h2 t h.sw,Nat.le_trans h.dp h3,z22 h.up h1,h.co⟩
theorem z8x{T:Nat->Option D}{l k n:Nat}{rows:List Row3}(hr: ∀r∈rows,Rw r)(hl:rows.length<=41)(hk:k<n)(hT:T k=some (.lst k (rows.map rD))):Wq T l 0 n 41 3 (.lst k (rows.map rD))/\(er (.lst k (rows.map rD))).bulk<=700/\Lv 0 (er (.lst k (rows.map rD)))=true:=by
 have z: ∀d∈rows.map rD,Fl 0 41 2 15 d/\labs d=[]:=fun d hd=>by
  obtain⟨r,hrr,rfl⟩:=List.mem_map.mp hd
  exact⟨zdV 0 (hr r hrr),z8q r⟩
 have b:=z8v (b:=15) (ds:=rows.map rD) fun d hd=>(z d hd).1.bk
 rw[List.length_map] at b
 refine⟨z8n (by lia) hk hT (by rw[z0N];exact List.not_mem_nil) (by rw[List.length_map];exact hl) fun e he=>⟨(z e he).1.sw,(z e he).1.dp,fun j hj=>(by rw[(z e he).2] at hj;cases hj),coN e (z e he).2 (z4f (by lia) e (z e he).1.sw)⟩, ?_, ?_⟩
 ·have e:(er (.lst k (rows.map rD))).bulk=bkL (rows.map rD):=by simp only[er,PyData.bulk,bkL]
  lia
 ·simp only[er,Lv]
  exact z3f.mpr fun d hd=>(z d hd).1.lv
theorem zfq{r:Row3}(h:Wf r):isTr (rD r)=true:=by
 obtain⟨s,g,e⟩:=r
 have h1:=z8d (s:=s) (lo:=1) (hi:=4) (top:=25) (by have:=h.l1;show(1:Int)<=s.length;have:1<=s.length:=h.l1;lia) (by have:s.length<=4:=h.l2;lia) h.i1
 have h2:=z8d (s:=g) (lo:=0) (hi:=3) (top:=39) (by lia) (by have:g.length<=3:=h.l3;lia) h.i2
 have h3:=z8d (s:=e) (lo:=0) (hi:=(s.length:Int) - 1) (top:=25) (by lia) (by have:e.length<s.length:=h.l4;lia) h.i3
 show(rowB 1 4 25 (.tup (iL s))&&rowB 0 3 39 (.tup (iL g))&&rowB 0 (tl (.tup (iL s)) - 1) 25 (.tup (iL e)))=true
 have et:tl (.tup (iL s))=(s.length:Int):=by simp only[tl,iL,List.length_map]
 rw[et,h1,h2,h3]
 rfl
theorem z9U: ∀(rows:List Row3) (acc:List NK),(rows.map (·.1)).Nodup->(∀r∈rows,hasK (ki r.1) acc=false)->dst acc ((rows.map rD).map fun d=>kk (kd d))=true
 |[],_,_,_=>rfl
 |r::rows,acc,hn,h=>by
  simp only[List.map_cons,List.nodup_cons] at hn
  have e:kk (kd (rD r))=ki r.1:=zdB r.1
  simp only[List.map_cons,dst,e,h r (List.mem_cons_self ..),Bool.not_false,Bool.true_and]
  refine z9U rows _ hn.2 fun q hq=> ?_
  have a:=h q (List.mem_cons_of_mem _ hq)
  unfold hasK at a⊢
  rw[List.any_cons,a,Bool.or_false,decide_eq_false_iff_not]
  exact fun z=>hn.1 (List.mem_map.mpr ⟨q,hq,(z8g z).symm⟩)
theorem zdW{k:Nat}{rows:List Row3}(h: ∀r∈rows,Wf r)(hl:rows.length<=40)(hn:(rows.map (·.1)).Nodup):isTb (.lst k (rows.map rD))=true:=by
 simp only[isTb,List.length_map,hl,decide_true,Bool.true_and,Bool.and_eq_true]
 refine⟨List.all_eq_true.mpr fun d hd=> ?_,z9U rows [] hn fun _ _=>rfl⟩
 obtain⟨r,hr,rfl⟩:=List.mem_map.mp hd
 exact zfq (h r hr)
theorem zbr(ns:List Int): ∀f,rp f (.ro (ns.map .int))= .ro (ns.map .int):=fun f=>z7a _ fun k hk=>by
 simp only[labs] at hk;obtain⟨e,he,hk⟩:=labsL_mem hk;obtain⟨j,_,rfl⟩:=List.mem_map.mp he;simp[labs] at hk
noncomputable def Lf(o:Option D):Prop:= ∀t,o=some t->labs t=[]/\∀T l,Co T l t
theorem lf_n:Lf none:=fun _ h=>nomatch h
theorem lf_i{i:Int}:Lf (some (.int i)):=fun _ h=>by cases h;exact⟨rfl,fun _ _=>trivial⟩
theorem lf_b{i:Bool}:Lf (some (.bool i)):=fun _ h=>by cases h;exact⟨rfl,fun _ _=>trivial⟩
theorem lf_s{x:Str}:Lf (some (.str x)):=fun _ h=>by cases h;exact⟨rfl,fun _ _=>trivial⟩
theorem UpO.of{n:Nat}{t:D}(h:Up n t):UpO n (some t):=fun d e=>by cases e;exact h
theorem UpO.mono{n n':Nat}{o:Option D}(h:UpO n o)(hn:n<=n'):UpO n' o:=fun d e=>z22 (h d e) hn
theorem Lf.fix{o:Option D}(h:Lf o)(f:Nat->Option D):o.map (rp f)=o:=by
 cases o with
 |none=>rfl
 |some t=>rw[Option.map_some,z7a t fun k hk=>by rw[(h t rfl).1] at hk;cases hk]
theorem z63{T:Nat->Option D}{l lo:Nat}{o:Option D}{r:List (Option D)}(h:Lf o)(c:CoF T l lo r):CoF T l lo (o::r):=by
 cases o with
 |none=>exact c
 |some t=>exact⟨.inl ((h t rfl).2 T l),c⟩
theorem zdX(T:Nat->Option D)(l:Nat)(ns:List Int):Co T l (.ro (ns.map .int)):=by
 simp only[Co]
 exact z0F.mpr fun d hd=>by obtain⟨i,_,rfl⟩:=List.mem_map.mp hd;trivial
structure Iv(T:Nat->Option D)(b g n f tb:Nat)(fr rows:List Row3)(ts:List D):Prop where
 tf:T f=some (.lst f (fr.map rD))
 tt:T tb=some (.lst tb (rows.map rD))
 tg:T g=some (.lst g ts)
 th: ∀y∈ts,Thk T b g n y
 hb:b<n
 hg:g<n
 hf:f<n
 ht:tb<n
 bf:b≠f
 bt:b≠tb
 gf:g≠f
 gt:g≠tb
 bg:b≠g
theorem Iv.ext{T T':Nat->Option D}{b g n n' f tb:Nat}{fr rows:List Row3}{ts:List D}(h:Iv T b g n f tb fr rows ts)(hT: ∀j,j<n->T' j=T j)(hn:n<=n'):Iv T' b g n' f tb fr rows ts:=
 ⟨by rw[hT f h.hf];exact h.tf,by rw[hT tb h.ht];exact h.tt,by rw[hT g h.hg];exact h.tg,fun y hy=>by
  have z:=h.th y hy
  exact⟨⟨z.wq.sw,z.wq.dp,z22 z.wq.up hn,z3H hT y z.wq.up z.wq.co⟩,z.bk,z.lv,z.nl,z.ng⟩,by have:=h.hb;lia,by have:=h.hg;lia,by have:=h.hf;lia,by have:=h.ht;lia,h.bf,h.bt,h.gf,h.gt,h.bg⟩
theorem Iv.lts{T:Nat->Option D}{b g n f tb:Nat}{fr rows:List Row3}{ts:List D}(h:Iv T b g n f tb fr rows ts):b∉labsL ts:=fun q=>by
 obtain⟨e,he,hk⟩:=labsL_mem q
 exact(h.th e he).nl hk
theorem z8y{T:Nat->Option D}{l k:Nat}{rows:List Row3}(h:T k=some (.lst k (rows.map rD))):Co T l (.lst k (rows.map rD)):=by
 simp only[Co]
 refine .inr ⟨h,by rw[z0N];exact List.not_mem_nil,z0F.mpr fun d hd=> ?_⟩
 obtain⟨r,_,rfl⟩:=List.mem_map.mp hd
 simp only[Co,CoL,and_true]
 exact⟨z0F.mpr fun d hd=>by obtain⟨i,_,rfl⟩:=List.mem_map.mp hd;trivial,z0F.mpr fun d hd=>by obtain⟨i,_,rfl⟩:=List.mem_map.mp hd;trivial,z0F.mpr fun d hd=>by obtain⟨i,_,rfl⟩:=List.mem_map.mp hd;trivial⟩
theorem Iv.co{T:Nat->Option D}{b g n f tb:Nat}{fr rows:List Row3}{ts:List D}(h:Iv T b g n f tb fr rows ts):Co T b (.lst g ts):=by
 simp only[Co]
 exact .inr ⟨h.tg,h.lts,z0F.mpr fun y hy=>(h.th y hy).wq.co⟩
noncomputable abbrev st(ns:List Int)(fr rows:List Row3)(f tb b g:Nat)(i c x often:Int)(ts:List D)(o7 o8 o9 o10 o11:Option D)(n:Nat):Stt:=⟨[some (.ro (ns.map .int)),some (.lst f (fr.map rD)),some (.int i),some (.lst b [.int c, .int x]),some (.int often),some (.lst tb (rows.map rD)),some (.lst g ts),o7,o8,o9,o10,o11],[some (.ro (ns.map .int))],n⟩
noncomputable def spM1:MS:=sAsg (.nm 8) (z06 (z0Y 12) [(mVar 3),(mVar 8)])
theorem zbs(T:Nat->Option D)(ns:List Int)(fr rows:List Row3)(f tb b g n W K B:Nat)(i c x often:Int)(ts:List D)(o7 o9 o10 o11:Option D)(t:D)(h:Iv T b g n f tb fr rows ts)(h7:Lf o7)(h9:Lf o9)(h10:Lf o10)(h11:Lf o11)(hw:Wq T b 0 n W K t)(hK:K<=11)(hW0:7<=W)(hW:W<=1000)(lt:b∉labs t)(gt:g∉labs t)(hv:Lv B (er t)=true)(hb:Bg c x):
 ∃t' c' x' n' T',Iv T' b g n' f tb fr rows ts/\Wq T' b 0 n' (W+1) (K+2) t'/\(er t').bulk<=2*(er t).bulk+20/\Lv (B+1) (er t')=true/\b∉labs t'/\g∉labs t'/\Bg c' x'/\n<=n'/\
  spM1 (st ns fr rows f tb b g i c x often ts o7 (some t) o9 o10 o11 n)= .nx (st ns fr rows f tb b g i c' x' often ts o7 (some t') o9 o10 o11 n'):=by
 obtain⟨t',c',x',n',T',w',l',hT,hn,b',gw,e⟩:=z52 b 0 W hW0 hW 11 K hK T n t (Nat.zero_le _) h.hb lt hw c x hb
 have hb0:=h.hb
 have hg0:=h.hg
 refine⟨t',c',x',n',T',h.ext hT hn,w',gw.bk,gw.lv B hv,fun q=> ?_,fun q=> ?_,b',hn, ?_⟩
 ·rcases l' b q with q|q
  ·exact lt q
  ·lia
 ·rcases l' g q with q|q
  ·exact gt q
  ·lia
 have sr:=zbr ns
 have s7:=fun d=>h7.fix (pl b d)
 have s9:=fun d=>h9.fix (pl b d)
 have s10:=fun d=>h10.fix (pl b d)
 have s11:=fun d=>h11.fix (pl b d)
 have sF: ∀d,rp (pl b d) (.lst f (fr.map rD))= .lst f (fr.map rD):=fun d=>z3h (fun z=>h.bf z.symm)
 have sT: ∀d,rp (pl b d) (.lst tb (rows.map rD))= .lst tb (rows.map rD):=fun d=>z3h (fun z=>h.bt z.symm)
 have sG: ∀d,rp (pl b d) (.lst g ts)= .lst g ts:=fun d=>z0y (by simp only[labs,List.mem_cons,not_or];exact⟨h.bg,h.lts⟩)
 have st8: ∀d,rp (pl b d) t=t:=fun d=>z0y lt
 unfold spM1 st
 walk_at ""
 rw[e,z2r (T:=T) rfl rfl (by exact⟨hw.co,trivial⟩) (by simp only[labsL,List.append_nil];exact lt) (by simp only[RsL,Bool.and_true];exact z4f (by lia) t hw.sw)
  (by exact⟨.inl (zdX T b ns), .inl (z8y h.tf), .inl trivial, .inl (by simp only[Co,true_or]), .inl trivial, .inl (z8y h.tt), .inl h.co,z63 h7 ⟨.inl hw.co,z63 h9 (z63 h10 (z63 h11 trivial))⟩⟩)
  (by exact⟨.inl (zdX T b ns),trivial⟩)
  (fun q=>by walk_at "";simp only[sr,sF,sT,sG,st8,s7,s9,s10,s11];rfl) (fun q=>by walk_at "";simp only[sr];rfl)]
 walk_at ""
 try simp only[sr,sF,sT,sG,st8,s7,s9,s10,s11]
 try (walk_at "")
noncomputable def bd0:Nat->Nat
 |0=>700
 |j+1=>2*bd0 j+20
theorem zdY{j:Nat}(h:j<=3):bd0 j<=8000:=by
 rcases(show j=0\/j=1\/j=2\/j=3 by lia) with rfl|rfl|rfl|rfl<;>decide
structure Fst(T:Nat->Option D)(b g n:Nat)(t:D):Prop where
 wq:Wq T b 0 n 41 3 t
 bk:(er t).bulk<=700
 lv:Lv 0 (er t)=true
 nl:b∉labs t
 ng:g∉labs t
noncomputable def apM1:MS:=z5a (z3V (mVar 6) [(mVar 8)] appD)
theorem zbt(ns:List Int)(fr rows:List Row3)(f tb b g n:Nat)(T:Nat->Option D)(i c x often:Int)(ts:List D)(o7 o9 o10 o11:Option D)(t:D)(h:Iv T b g n f tb fr rows ts)(h7:Lf o7)(h9:Lf o9)(h10:Lf o10)(h11:Lf o11)(hf:Fst T b g n t)(hb:Bg c x)(f0:0<=often)(f3:often<=3):
 ∃t' c' x' n' T' o9',Iv T' b g n' f tb fr rows ts/\Thk T' b g n' t'/\Bg c' x'/\n<=n'/\Lf o9'/\
  sFor (z0B [(mVar 4)]) (.nm 9) spM1 (st ns fr rows f tb b g i c x often ts o7 (some t) o9 o10 o11 n)= .nx (st ns fr rows f tb b g i c' x' often ts o7 (some t') o9' o10 o11 n'):=by
 unfold st
 walk_at ""
 rw[z2x ⟨by lia,by lia⟩]
 walk_at ""
 obtain⟨s',e,t',c',x',n',T',o9',rfl,h',hw',hb',hv',lt',gt',bg',hn',h9'⟩:=z2p (P:=fun j s=> ∃(t:D) (c x:Int) (n':Nat) (T:Nat->Option D) (o9:Option D),s=st ns fr rows f tb b g i c x often ts o7 (some t) o9 o10 o11 n'/\Iv T b g n' f tb fr rows ts/\Wq T b 0 n' (41+j) (3+2*j) t/\(er t).bulk<=bd0 j/\Lv j (er t)=true/\b∉labs t/\g∉labs t/\Bg c x/\n<=n'/\Lf o9) (lo:=0) (N:=often.toNat) (g:= .nm 9) (b:=spM1) (by
  rintro j hj s ⟨t,c,x,n',T,o9,rfl,h,hw,hbk,hv,lt,gt,hb,hn,h9⟩
  refine⟨(st ns fr rows f tb b g i c x often ts o7 (some t) (some (.int (0+(j:Int)))) o10 o11 n').σ,rfl, ?_⟩
  obtain⟨t',c',x',m,T',a1,a2,a3,a4,a5,a6,a7,a8,a9⟩:=zbs T ns fr rows f tb b g n' (41+j) (3+2*j) j i c x often ts o7 (some (.int (0+(j:Int)))) o10 o11 t h h7 lf_i h10 h11 hw (by lia) (by lia) (by lia) lt gt hv hb
  exact⟨_,a9,t',c',x',m,T',_,rfl,a1,a2,by have:bd0 (j+1)=2*bd0 j+20:=rfl;lia,a4,a5,a6,a7,by lia,lf_i⟩) often.toNat 0 (st ns fr rows f tb b g i c x often ts o7 (some t) o9 o10 o11 n) (by lia) ⟨t,c,x,n,T,o9,rfl,h,hf.wq,hf.bk,hf.lv,hf.nl,hf.ng,hb,Nat.le_refl _,h9⟩
 unfold st at e
 rw[e]
 exact⟨t',c',x',n',T',o9',h',⟨z8w hw' (Nat.le_refl _) (by lia) (by lia),Nat.le_trans hb' (zdY (by lia)),z1S (by lia) _ hv',lt',gt'⟩,bg',hn',h9',rfl⟩
theorem zbu(ns:List Int)(fr rows:List Row3)(f tb b g n:Nat)(T:Nat->Option D)(i c x often:Int)(ts:List D)(o7 o9 o10 o11:Option D)(t:D)(h:Iv T b g n f tb fr rows ts)(h7:Lf o7)(h9:Lf o9)(h10:Lf o10)(h11:Lf o11)(ht:Thk T b g n t)(hz:ts.length<=1000):
 ∃T',Iv T' b g n f tb fr rows (ts++[t])/\(∀j,j≠g->T' j=T j)/\apM1 (st ns fr rows f tb b g i c x often ts o7 (some t) o9 o10 o11 n)= .nx (st ns fr rows f tb b g i c x often (ts++[t]) o7 (some t) o9 o10 o11 n):=by
 have tk: ∀y,Thk T b g n y->Thk (tput T g (ts++[t])) b g n y:=fun y z=>⟨⟨z.wq.sw,z.wq.dp,z.wq.up,z8m y (fun k hk=>z0k fun e=>z.ng (e▸hk)) z.wq.co⟩,z.bk,z.lv,z.nl,z.ng⟩
 refine⟨tput T g (ts++[t]),⟨by rw[z0k (fun e=>h.gf e.symm)];exact h.tf,by rw[z0k (fun e=>h.gt e.symm)];exact h.tt,z0G,fun y hy=> ?_,h.hb,h.hg,h.hf,h.ht,h.bf,h.bt,h.gf,h.gt,h.bg⟩,fun j hj=>z0k hj, ?_⟩
 ·rcases List.mem_append.mp hy with hy|hy
  ·exact tk y (h.th y hy)
  ·rw[List.mem_singleton.mp hy];exact tk t ht
 have sr:=zbr ns
 have s7:=fun d=>h7.fix (pl g d)
 have s9:=fun d=>h9.fix (pl g d)
 have s10:=fun d=>h10.fix (pl g d)
 have s11:=fun d=>h11.fix (pl g d)
 have sF: ∀d,rp (pl g d) (.lst f (fr.map rD))= .lst f (fr.map rD):=fun d=>z3h (fun z=>h.gf z.symm)
 have sT: ∀d,rp (pl g d) (.lst tb (rows.map rD))= .lst tb (rows.map rD):=fun d=>z3h (fun z=>h.gt z.symm)
 have sB: ∀d (u v:Int),rp (pl g d) (.lst b [.int u, .int v])= .lst b [.int u, .int v]:=fun d u v=>z0y (by simp only[labs,labsL,List.append_nil,List.mem_cons,List.not_mem_nil,or_false];exact fun e=>h.bg e.symm)
 have sG: ∀d,rp (pl g d) (.lst g ts)=d:=fun d=>z1x
 have s8: ∀d,rp (pl g d) t=t:=fun d=>z0y ht.ng
 unfold apM1 st
 walk_at ""
 rw[zdl ⟨by rw[zl];lia,ht.ng⟩]
 walk_at ""
 try simp only[sr,sF,sT,sB,sG,s8,s7,s9,s10,s11]
 try (walk_at "")
noncomputable def trnM:MS:=(seqS (sAsg (.nm 8) (mBin (mCB [(mVar 5),(mVar 1)] lstM) (mCB [(mBin (mVar 7) (mC (.int 9)) eqD)] intD) ixD)) (seqS (sFor (z0B [(mVar 4)]) (.nm 9) spM1) apM1))
theorem z3J{T:Nat->Option D}{b g n k:Nat}{rows:List Row3}(hr: ∀r∈rows,Rw r)(hl:rows.length<=41)(hk:k<n)(hT:T k=some (.lst k (rows.map rD)))(h1:b≠k)(h2:g≠k):Fst T b g n (.lst k (rows.map rD)):=by
 obtain⟨a,b',c⟩:=z8x (l:=b) hr hl hk hT
 exact⟨a,b',c,by simp only[labs,z0N,List.mem_cons,List.not_mem_nil,or_false];exact h1,by simp only[labs,z0N,List.mem_cons,List.not_mem_nil,or_false];exact h2⟩
theorem z9C(ns:List Int)(fr rows:List Row3)(f tb b g n:Nat)(T:Nat->Option D)(i c x often k:Int)(ts:List D)(o8 o9 o10 o11:Option D)(h:Iv T b g n f tb fr rows ts)(h9:Lf o9)(h10:Lf o10)(h11:Lf o11)(hr1: ∀r∈fr,Rw r)(hl1:fr.length<=41)(hr2: ∀r∈rows,Rw r)(hl2:rows.length<=41)(hb:Bg c x)(f0:0<=often)(f3:often<=3)(hz:ts.length<=1000):
 ∃t' c' x' n' T' o9',Iv T' b g n' f tb fr rows (ts++[t'])/\Bg c' x'/\n<=n'/\Lf o9'/\
  trnM (st ns fr rows f tb b g i c x often ts (some (.int k)) o8 o9 o10 o11 n)= .nx (st ns fr rows f tb b g i c' x' often (ts++[t']) (some (.int k)) (some t') o9' o10 o11 n'):=by
 have h':Iv T b g (n+1) f tb fr rows ts:=h.ext (fun _ _=>rfl) (by lia)
 have key: ∃t,(sAsg (.nm 8) (mBin (mCB [(mVar 5),(mVar 1)] lstM) (mCB [(mBin (mVar 7) (mC (.int 9)) eqD)] intD) ixD)) (st ns fr rows f tb b g i c x often ts (some (.int k)) o8 o9 o10 o11 n)= .nx (st ns fr rows f tb b g i c x often ts (some (.int k)) (some t) o9 o10 o11 (n+1))/\Fst T b g (n+1) t:=by
  unfold st
  cases hk:(k==9)
  ·refine⟨_, ?_,z3J hr2 hl2 h'.ht h'.tt h'.bt h'.gt⟩
   walk_at ""
   rw[if_neg (by rw[hk];decide),at0]
   walk_at ""
  ·refine⟨_, ?_,z3J hr1 hl1 h'.hf h'.tf h'.bf h'.gf⟩
   walk_at ""
   rw[if_pos hk,at1]
   walk_at ""
 obtain⟨t,e1,ft⟩:=key
 obtain⟨t',c',x',n',T',o9',a1,a2,a3,a4,a5,e2⟩:=zbt ns fr rows f tb b g (n+1) T i c x often ts (some (.int k)) o9 o10 o11 t h' lf_i h9 h10 h11 ft hb f0 f3
 obtain⟨T2,b1,b2,e3⟩:=zbu ns fr rows f tb b g n' T' i c' x' often ts (some (.int k)) o9' o10 o11 t' a1 lf_i a5 h10 h11 a2 hz
 refine⟨t',c',x',n',T2,o9',b1,a3,by lia,a5, ?_⟩
 unfold trnM
 unfold seqS
 rw[e1]
 simp only[e2,e3]
noncomputable def chM:MS:=(seqS (sAsg (.nm 10) (mCB [(mVar 8)] repA)) (seqS (sAsg (.nm 11) (z06 z0M [(mVar 8)])) (sIf (mOr (mNot (z0D (mIsi "bool" (mVar 11)))) (mOr (mBoo (mBin (mVar 11) (z06 z0t [(mVar 8)]) neD)) (mBoo (mBin (mCB [(mVar 8)] repA) (mVar 10) neS)))) (sRet (mC (.bool false))) sNx)))
theorem zfr{a:Str}{s:Stt}:neS (.str a) (.str a) s= .ok (.bool false) s:=by
 unfold neS rt
 simp
theorem zfs{a:Bool}{s:Stt}:neD (.bool a) (.bool a) s= .ok (.bool false) s:=by
 cases a<;>rfl
theorem zbv{T:Nat->Option D}{b g n:Nat}{t:D}(h:Thk T b g n t)(a0 a1 a2 a3 a4 a5 a6 a7 a9 a10 a11:Option D)(tm:List (Option D)):
 ∃x u n',n<=n'/\chM ⟨[a0,a1,a2,a3,a4,a5,a6,a7,some t,a9,a10,a11],tm,n⟩= .nx ⟨[a0,a1,a2,a3,a4,a5,a6,a7,some t,a9,some (.str x),some (.bool u)],tm,n'⟩:=by
 have gp:Mi.plain t=true:=(z6E (n:=0) t (z4f (by lia) t h.wq.sw)).1
 have nr: ∀ds,t≠ .ro ds:=fun ds e=>by have:=h.wq.sw;rw[e] at this;simp[Sw] at this
 obtain⟨x,ex⟩:=zbq h.wq.sw (by decide) (Nat.le_trans h.wq.dp (by decide)) (Nat.le_trans h.bk (by decide)) (show 3<=100 by decide) h.lv
 obtain⟨n1,h1,e1⟩:=zdz t gp nr n
 obtain⟨n2,h2,e2⟩:=z8h t gp nr n1 (fun q=>absurd (h.wq.up n1 q) (by lia))
 refine⟨x,isTb t,n2,by lia, ?_⟩
 unfold chM
 walk_at ""
 rw[ex]
 walk_at ""
 rw[e1]
 walk_at ""
 rw[e2]
 walk_at ""
 rw[zfs]
 walk_at ""
 rw[ex]
 walk_at ""
 rw[zfr]
 walk_at ""
theorem Fst.thk{T:Nat->Option D}{b g n:Nat}{t:D}(h:Fst T b g n t):Thk T b g n t:=⟨z8w h.wq (Nat.le_refl _) (by decide) (by decide),Nat.le_trans h.bk (by decide),z1S (by decide) _ h.lv,h.nl,h.ng⟩
theorem zbw{T:Nat->Option D}{b g n:Nat}:Thk T b g n .non:=⟨⟨rfl,by simp[er,PyData.depth],by simp[Up,labs],trivial⟩,by simp[er,PyData.bulk],rfl,by simp[labs],by simp[labs]⟩
theorem z8z{T:Nat->Option D}{b g n:Nat}:Thk T b g n (.tup []):=⟨⟨rfl,by simp[er,erL,PyData.depth,PyData.depthAll],by simp[Up,labs,labsL],trivial⟩,by simp[er,erL,PyData.bulk,PyData.bulkAll],rfl,by simp[labs,labsL],by simp[labs,labsL]⟩
theorem zbx{T:Nat->Option D}{b g n:Nat}:Thk T b g n (.int 7):=⟨⟨rfl,by simp[er,PyData.depth],by simp[Up,labs],trivial⟩,by simp[er,PyData.bulk],by decide+kernel,by simp[labs],by simp[labs]⟩
theorem zby{T:Nat->Option D}{b g n:Nat}:Thk T b g n (.str ("x" :Str)):=⟨⟨by decide+kernel,by simp[er,PyData.depth],by simp[Up,labs],trivial⟩,by decide+kernel,by decide+kernel,by simp[labs],by simp[labs]⟩
theorem z9D{T:Nat->Option D}{b g n k:Nat}{es:List D}(hk:k<n)(hT:T k=some (.lst k es))(h1:b≠k)(h2:g≠k)(hl:es.length<=40)(h: ∀e∈es,Thk T b g n e/\(er e).depth<=8/\(er e).bulk<=100):Thk T b g n (.lst k es):=by
 have nl: ∀j,(∀e∈es,j∉labs e)->j∉labsL es:=fun j q z=>by
  obtain⟨e,he,hj⟩:=labsL_mem z
  exact q e he hj
 have b1:=nl b fun e he=>(h e he).1.nl
 refine⟨z8n (Nat.zero_le _) hk hT b1 (by lia) fun e he=>⟨(h e he).1.wq.sw,(h e he).2.1,(h e he).1.wq.up,(h e he).1.wq.co⟩, ?_, ?_, ?_, ?_⟩
 ·have e0:(er (.lst k es)).bulk=bkL es:=by simp only[er,PyData.bulk,bkL]
  have:=z8v (b:=100) (ds:=es) fun e he=>(h e he).2.2
  lia
 ·simp only[er,Lv];exact z3f.mpr fun e he=>(h e he).1.lv
 ·simp only[labs,List.mem_cons,not_or];exact⟨h1,b1⟩
 ·simp only[labs,List.mem_cons,not_or];exact⟨h2,nl g fun e he=>(h e he).1.ng⟩
theorem z8A{fr:List Row3}:fr.map rD++[.tup [.tup [.int 25], .tup [.int 39], .tup []]]=(fr++[([25],[39],[])]).map rD:=by
 rw[List.map_append];rfl
noncomputable def thM:M D:=(mCB [(mVar 5),(mVar 1),(mBin (mVar 1) (mCB [(mCB [(mCB [(mC (.int 25))] tupD),(mCB [(mC (.int 39))] tupD),(mCB [] tupD)] tupD)] lstM) addD),(mBin (mVar 5) (mSl (mVar 5) none (some (mC (.int 1)))) addD),(mC .non),(mCB [] tupD),(mCB [] lstM),(mCB [(mCB [] lstM)] lstM),(mCB [(mCB [] tupD)] lstM),(mC (.str ("x" :Str))),(mC (.int 7))] lstM)
theorem zft(ns:List Int)(fr rows:List Row3)(f tb b n:Nat)(i c x often:Int)(o6 o7 o8 o9 o10 o11:Option D)(hr1: ∀r∈fr,Rw r)(hl1:fr.length<=40)(hr2: ∀r∈rows,Rw r)(hl2:rows.length<=40)(hf:f<n)(ht:tb<n)(hb:b<n)(h1:b≠f)(h2:b≠tb)(h3:f≠tb):
 ∃g n' ts T,Iv T b g n' f tb fr rows ts/\ts.length=11/\n<=n'/\sAsg (.nm 6) thM ⟨[some (.ro (ns.map .int)),some (.lst f (fr.map rD)),some (.int i),some (.lst b [.int c, .int x]),some (.int often),some (.lst tb (rows.map rD)),o6,o7,o8,o9,o10,o11],[some (.ro (ns.map .int))],n⟩= .nx (st ns fr rows f tb b g i c x often ts o7 o8 o9 o10 o11 n'):=by
 unfold thM st
 walk_at ""
 rw[z3F (by rw[zl];simp;lia)]
 walk_at ""
 rw[show cutA (rows.map rD) none (some 1)=(rows.map rD).take 1 from z9S (l:=1),z3F (by rw[zl];simp;lia)]
 walk_at ""
 rw[z4U (by rw[zl];simp)]
 walk_at ""
 rw[z8A,<-List.map_take,<-List.map_append]
 have r3: ∀r∈fr++[([25],[39],[])],Rw r:=fun r hr=>by
  rcases List.mem_append.mp hr with hr|hr
  ·exact hr1 r hr
  ·rw[List.mem_singleton.mp hr];exact⟨by simp,by simp,by simp,by simp[In],by simp[In],by simp[In]⟩
 have r4: ∀r∈rows++rows.take 1,Rw r:=fun r hr=>by
  rcases List.mem_append.mp hr with hr|hr
  ·exact hr2 r hr
  ·exact hr2 r (List.mem_of_mem_take hr)
 have l3:(fr++[(([25],[39],[]):Row3)]).length<=41:=by rw[List.length_append];simp only[List.length_cons,List.length_nil];lia
 have l4:(rows++rows.take 1).length<=41:=by rw[List.length_append,List.length_take];lia
 obtain⟨ts,ets⟩: ∃ts,ts=[D.lst tb (List.map rD rows),D.lst f (List.map rD fr),D.lst (n+1) (List.map rD (fr++[([25],[39],[])])),D.lst (n+1+1+1) (List.map rD (rows++rows.take 1)),D.non,D.tup [],D.lst (n+1+1+1+1) [],D.lst (n+1+1+1+1+1+1) [D.lst (n+1+1+1+1+1) []],D.lst (n+1+1+1+1+1+1+1) [D.tup []],D.str ("x" :Str),D.int 7]:=⟨_,rfl⟩
 obtain⟨T,hT⟩: ∃T,T=tput (tput (tput (tput (tput (tput (tput (tput (tput (fun _=>none) f (fr.map rD)) tb (rows.map rD)) (n+1) ((fr++[([25],[39],[])]).map rD)) (n+1+1+1) ((rows++rows.take 1).map rD)) (n+1+1+1+1) []) (n+1+1+1+1+1) []) (n+1+1+1+1+1+1) [.lst (n+1+1+1+1+1) []]) (n+1+1+1+1+1+1+1) [.tup []]) (n+1+1+1+1+1+1+1+1) ts:=⟨_,rfl⟩
 have tf:T f=some (.lst f (fr.map rD)):=by rw[hT];simp(disch:=lia) only[z0k,z0G]
 have tt:T tb=some (.lst tb (rows.map rD)):=by rw[hT];simp(disch:=lia) only[z0k,z0G]
 have t1:T (n+1)=some (.lst (n+1) ((fr++[([25],[39],[])]).map rD)):=by rw[hT];simp(disch:=lia) only[z0k,z0G]
 have t3:T (n+1+1+1)=some (.lst (n+1+1+1) ((rows++rows.take 1).map rD)):=by rw[hT];simp(disch:=lia) only[z0k,z0G]
 have t4:T (n+1+1+1+1)=some (.lst (n+1+1+1+1) []):=by rw[hT];simp(disch:=lia) only[z0k,z0G]
 have t5:T (n+1+1+1+1+1)=some (.lst (n+1+1+1+1+1) []):=by rw[hT];simp(disch:=lia) only[z0k,z0G]
 have t6:T (n+1+1+1+1+1+1)=some (.lst (n+1+1+1+1+1+1) [.lst (n+1+1+1+1+1) []]):=by rw[hT];simp(disch:=lia) only[z0k,z0G]
 have t7:T (n+1+1+1+1+1+1+1)=some (.lst (n+1+1+1+1+1+1+1) [.tup []]):=by rw[hT];simp(disch:=lia) only[z0k,z0G]
 have t8:T (n+1+1+1+1+1+1+1+1)=some (.lst (n+1+1+1+1+1+1+1+1) ts):=by rw[hT,z0G]
 clear hT
 rw[<-ets]
 refine⟨n+1+1+1+1+1+1+1+1,_,ts,T,⟨tf,tt,t8, ?_,by lia,by lia,by lia,by lia,h1,h2,by lia,by lia,by lia⟩,by rw[ets];rfl,by lia,rfl⟩
 rw[ets]
 have n5:Thk T b (n+1+1+1+1+1+1+1+1) (n+1+1+1+1+1+1+1+1+1) (D.lst (n+1+1+1+1+1) []):=z9D (by lia) t5 (by lia) (by lia) (by simp) fun _ h=>nomatch h
 simp only[List.forall_mem_cons]
 refine⟨(z3J hr2 (by lia) (by lia) tt h2 (by lia)).thk,(z3J hr1 (by lia) (by lia) tf h1 (by lia)).thk,(z3J r3 l3 (by lia) t1 (by lia) (by lia)).thk,(z3J r4 l4 (by lia) t3 (by lia) (by lia)).thk,zbw,z8z,z9D (by lia) t4 (by lia) (by lia) (by simp) (fun _ h=>nomatch h),z9D (by lia) t6 (by lia) (by lia) (by simp) (fun e he=> ?_),z9D (by lia) t7 (by lia) (by lia) (by simp) (fun e he=> ?_),zby,zbx,fun _ h=>nomatch h⟩
 ·rw[List.mem_singleton.mp he]
  exact⟨n5,by simp[er,erL,PyData.depth,PyData.depthAll],by simp[er,erL,PyData.bulk,PyData.bulkAll]⟩
 ·rw[List.mem_singleton.mp he]
  exact⟨z8z,by simp[er,erL,PyData.depth,PyData.depthAll],by simp[er,erL,PyData.bulk,PyData.bulkAll]⟩
noncomputable def restM:MS:=(seqS (sAsg (.nm 6) thM)
 (seqS (sFor (z0B [(mC (.int 10))]) (.nm 7) trnM)
 (seqS (sIf (mNot (z0D (z06 z0t [(mVar 5)]))) (sRet (mC (.bool false))) sNx)
 (sFor (z1h (mVar 6)) (.nm 8) chM))))
theorem zbz(ns:List Int)(fr rows:List Row3)(f tb b n:Nat)(i c x often:Int)(o6 o7 o8 o9 o10 o11:Option D)(hw: ∀r∈rows,Wf r)(hn:(rows.map (·.1)).Nodup)(hr1: ∀r∈fr,Rw r)(hl1:fr.length<=40)(hl2:rows.length<=40)(hf:f<n)(ht:tb<n)(hb:b<n)(h1:b≠f)(h2:b≠tb)(h3:f≠tb)(u9:Lf o9)(u10:Lf o10)(u11:Lf o11)(hbg:Bg c x)(f0:0<=often)(f3:often<=3):
 ∃n' c' x' p6 p8 p7 p9 p10 p11,restM ⟨[some (.ro (ns.map .int)),some (.lst f (fr.map rD)),some (.int i),some (.lst b [.int c, .int x]),some (.int often),some (.lst tb (rows.map rD)),o6,o7,o8,o9,o10,o11],[some (.ro (ns.map .int))],n⟩= .nx ⟨[some (.ro (ns.map .int)),some (.lst f (fr.map rD)),some (.int i),some (.lst b [.int c', .int x']),some (.int often),some (.lst tb (rows.map rD)),p6,p7,p8,p9,p10,p11],[some (.ro (ns.map .int))],n'⟩/\n<=n'/\UpO n' p6/\UpO n' p8/\Lf p7/\Lf p9/\Lf p10/\Lf p11:=by
 have hr2: ∀r∈rows,Rw r:=fun r hr=>(hw r hr).rw
 obtain⟨g,n1,ts,T,iv,lts,hn1,e1⟩:=zft ns fr rows f tb b n i c x often o6 o7 o8 o9 o10 o11 hr1 hl1 hr2 hl2 hf ht hb h1 h2 h3
 unfold restM
 unfold seqS
 rw[e1]
 simp only
 have e2: ∃c' x' n2 ts' T' o7' o8' o9',Iv T' b g n2 f tb fr rows ts'/\n1<=n2/\Bg c' x'/\Lf o7'/\UpO n2 o8'/\Lf o9'/\ts'.length<=100/\sFor (z0B [(mC (.int 10))]) (.nm 7) trnM (st ns fr rows f tb b g i c x often ts o7 o8 o9 o10 o11 n1)= .nx (st ns fr rows f tb b g i c' x' often ts' o7' o8' o9' o10 o11 n2):=by
  unfold st
  walk_at ""
  rw[z2x ⟨by decide,by decide⟩]
  walk_at ""
  obtain⟨s',e,c',x',n',T',ts',o7',o8',o9',rfl,iv',bg',hn',l7,l8,l9,lt⟩:=z2p (P:=fun j s=> ∃(c x:Int) (n':Nat) (T:Nat->Option D) (ts:List D) (o7 o8 o9:Option D),s=st ns fr rows f tb b g i c x often ts o7 o8 o9 o10 o11 n'/\Iv T b g n' f tb fr rows ts/\Bg c x/\n1<=n'/\(0<j->Lf o7)/\(0<j->UpO n' o8)/\Lf o9/\ts.length=11+j) (lo:=0) (N:=(10:Int).toNat) (g:= .nm 7) (b:=trnM) (by
   rintro j hj s ⟨c,x,n',T,ts,o7,o8,o9,rfl,iv,hb,hn,l7,l8,l9,lt⟩
   refine⟨(st ns fr rows f tb b g i c x often ts (some (.int (0+(j:Int)))) o8 o9 o10 o11 n').σ,rfl, ?_⟩
   have hj':j<10:=hj
   obtain⟨t',c',x',m,T',o9',a1,a2,a3,a4,e⟩:=z9C ns fr rows f tb b g n' T i c x often (0+(j:Int)) ts o8 o9 o10 o11 iv l9 u10 u11 hr1 (by lia) hr2 (by lia) hb f0 f3 (by lia)
   exact⟨_,e,c',x',m,T',_,_,_,_,rfl,a1,a2,by lia,fun _=>lf_i,fun _=>UpO.of (a1.th t' (by simp)).wq.up,a4,by rw[List.length_append,lt];rfl⟩) (10:Int).toNat 0 (st ns fr rows f tb b g i c x often ts o7 o8 o9 o10 o11 n1) (by decide) ⟨c,x,n1,T,ts,o7,o8,o9,rfl,iv,hbg,Nat.le_refl _,fun h=>absurd h (Nat.lt_irrefl _),fun h=>absurd h (Nat.lt_irrefl _),u9,by lia⟩
  unfold st at e
  rw[e]
  have hj:ts'.length=21:=lt
  exact⟨c',x',n',ts',T',o7',o8',o9',iv',hn',bg',l7 (by decide),l8 (by decide),l9,by lia,rfl⟩
 obtain⟨c',x',n2,ts',T',o7',o8',o9',iv',hn2,bg',l7,l8,l9,lt,e2⟩:=e2
 rw[e2]
 simp only
 obtain⟨n3,hn3,e3⟩:=z8h (.lst tb (rows.map rD)) (by
  have:=z8x (l:=b) (n:=tb+1) hr2 (by lia) (by lia) iv'.tt
  exact(z6E (n:=0) _ (z4f (by lia) _ this.1.sw)).1) (fun _=>nofun) n2 (by simp only[labs,z0N,List.mem_cons,List.not_mem_nil,or_false];have:=iv'.ht;lia)
 rw[zdW hw hl2 hn] at e3
 unfold st
 walk_at ""
 rw[e3]
 walk_at ""
 have e4: ∃n4 p8 p10 p11,n3<=n4/\UpO n4 p8/\Lf p10/\Lf p11/\sFor (z1h (mVar 6)) (.nm 8) chM ⟨[some (.ro (ns.map .int)),some (.lst f (fr.map rD)),some (.int i),some (.lst b [.int c', .int x']),some (.int often),some (.lst tb (rows.map rD)),some (.lst g ts'),o7',o8',o9',o10,o11],[some (.ro (ns.map .int))],n3⟩= .nx ⟨[some (.ro (ns.map .int)),some (.lst f (fr.map rD)),some (.int i),some (.lst b [.int c', .int x']),some (.int often),some (.lst tb (rows.map rD)),some (.lst g ts'),o7',p8,o9',p10,p11],[some (.ro (ns.map .int))],n4⟩:=by
  have hi:z1h (mVar 6) ⟨[some (.ro (ns.map .int)),some (.lst f (fr.map rD)),some (.int i),some (.lst b [.int c', .int x']),some (.int often),some (.lst tb (rows.map rD)),some (.lst g ts'),o7',o8',o9',o10,o11],[some (.ro (ns.map .int))],n3⟩= .ok kLst ⟨[some (.ro (ns.map .int)),some (.lst f (fr.map rD)),some (.int i),some (.lst b [.int c', .int x']),some (.int often),some (.lst tb (rows.map rD)),some (.lst g ts'),o7',o8',o9',o10,o11],[some (.lst g ts'),some (.ro (ns.map .int))],n3⟩:=rfl
  walk_at ""
  rw[hi,zb3]
  obtain⟨s',e,m,p8,p10,p11,rfl,h3,h8,h10,h11⟩:=zbb (P:=fun s=> ∃(m:Nat) (p8 p10 p11:Option D),s=⟨[some (.ro (ns.map .int)),some (.lst f (fr.map rD)),some (.int i),some (.lst b [.int c', .int x']),some (.int often),some (.lst tb (rows.map rD)),some (.lst g ts'),o7',p8,o9',p10,p11],[some (.lst g ts'),some (.ro (ns.map .int))],m⟩/\n3<=m/\UpO m p8/\Lf p10/\Lf p11) (l:=g) (ds:=ts') (g:= .nm 8) (b:=chM) (tm:=[some (.ro (ns.map .int))]) (fun s ⟨_,_,_,_,h,_⟩=>by rw[h]) (by
   rintro y hy s ⟨m,p8,p10,p11,rfl,h3,h8,h10,h11⟩
   refine⟨[some (.ro (ns.map .int)),some (.lst f (fr.map rD)),some (.int i),some (.lst b [.int c', .int x']),some (.int often),some (.lst tb (rows.map rD)),some (.lst g ts'),o7',some y,o9',p10,p11],rfl, ?_⟩
   have ty:Thk T' b g m y:=by
    have z:=iv'.th y hy
    exact⟨⟨z.wq.sw,z.wq.dp,z22 z.wq.up (by lia),z.wq.co⟩,z.bk,z.lv,z.nl,z.ng⟩
   obtain⟨x,u,m',hm,e⟩:=zbv ty (some (.ro (ns.map .int))) (some (.lst f (fr.map rD))) (some (.int i)) (some (.lst b [.int c', .int x'])) (some (.int often)) (some (.lst tb (rows.map rD))) (some (.lst g ts')) o7' o9' p10 p11 [some (.lst g ts'),some (.ro (ns.map .int))]
   exact⟨_,e,m',_,_,_,rfl,by lia,UpO.of (z22 ty.wq.up hm),lf_s,lf_b⟩) ts'.length 0 ⟨[some (.ro (ns.map .int)),some (.lst f (fr.map rD)),some (.int i),some (.lst b [.int c', .int x']),some (.int often),some (.lst tb (rows.map rD)),some (.lst g ts'),o7',o8',o9',o10,o11],[some (.lst g ts'),some (.ro (ns.map .int))],n3⟩ (by lia) ⟨n3,o8',o10,o11,rfl,Nat.le_refl _,l8.mono hn3,u10,u11⟩
  have el:kLst.len [some (.lst g ts'),some (.ro (ns.map .int))]=ts'.length:=rfl
  rw[el,e]
  exact⟨m,p8,p10,p11,h3,h8,h10,h11,rfl⟩
 obtain⟨n4,p8,p10,p11,h4,h8,h10,h11,e4⟩:=e4
 exact⟨n4,c',x',_,p8,o7',o9',p10,p11,e4,by lia,UpO.of fun j hj=>by
  have:=iv'.hg
  simp only[labs,List.mem_cons] at hj
  rcases hj with rfl|hj
  ·lia
  ·obtain⟨e,he,hk⟩:=labsL_mem hj
   have:=(iv'.th e he).wq.up j hk
   lia,h8,l7,l9,h10,h11⟩
noncomputable def turnM:MS:=(seqS (sAsg (.nm 3) (z06 z35 [(mVar 0),(mVar 2)]))
 (seqS (sAsg (.nm 4) (mBin (mC (.int 1)) (z06 z02 [(mVar 3),(mC (.int 3))]) addD))
 (seqS (sAsg (.nm 5) (z06 z1Q [(mVar 3)]))
 restM)))
theorem zbA(ns:List Int)(hl:ns.length<1000)(i:Nat)(hi:i<4)(f n:Nat)(fr:List Row3)(hr: ∀r∈fr,Rw r)(hl1:fr.length<=40)(hf:f<n)(o3 o4 o5 o6 o7 o8 o9 o10 o11:Option D)(u3:UpO n o3)(u4:UpO n o4)(u5:UpO n o5)(u6:UpO n o6)(u8:UpO n o8)(u7:Lf o7)(u9:Lf o9)(u10:Lf o10)(u11:Lf o11):
 ∃n' p3 p4 p5 p6 p7 p8 p9 p10 p11,turnM ⟨[some (.ro (ns.map .int)),some (.lst f (fr.map rD)),some (.int i),o3,o4,o5,o6,o7,o8,o9,o10,o11],[some (.ro (ns.map .int))],n⟩= .nx ⟨[some (.ro (ns.map .int)),some (.lst f (fr.map rD)),some (.int i),p3,p4,p5,p6,p7,p8,p9,p10,p11],[some (.ro (ns.map .int))],n'⟩/\n<=n'/\UpO n' p3/\UpO n' p4/\UpO n' p5/\UpO n' p6/\UpO n' p8/\Lf p7/\Lf p9/\Lf p10/\Lf p11:=by
 have sr:=zbr ns
 have s4:=fun d=>u4.fixk (Nat.le_refl n) d
 have s5:=fun d=>u5.fixk (Nat.le_refl n) d
 have s6:=fun d=>u6.fixk (Nat.le_refl n) d
 have s8:=fun d=>u8.fixk (Nat.le_refl n) d
 have s7:=fun d=>u7.fix (pl n d)
 have s9:=fun d=>u9.fix (pl n d)
 have s10:=fun d=>u10.fix (pl n d)
 have s11:=fun d=>u11.fix (pl n d)
 have sF: ∀d,rp (pl n d) (.lst f (fr.map rD))= .lst f (fr.map rD):=fun d=>z3h (by lia)
 unfold turnM
 walk_at ""
 obtain⟨c,x,b0,e0⟩:=zdr ns i n (by lia) hl
 rw[e0]
 walk_at ""
 obtain⟨q,c1,x1,hq0,hq1,b1,e1⟩:=z0w n c x 3 (n+1) b0 (by decide) (by decide)
 rw[e1,z1m rfl rfl rfl (fun q=>by walk_at "";simp only[sr,sF,s4,s5,s6,s7,s8,s9,s10,s11];rfl) (fun q=>by walk_at "";simp only[sr];rfl)]
 walk_at ""
 obtain⟨rows,c2,x2,tb,n2,hw,⟨hl2,hn2⟩,b2,ht1,ht2,e2⟩:=z9A n (n+1) c1 x1 b1 (by lia)
 rw[e2,z1m rfl rfl rfl (fun q=>by walk_at "";simp only[sr,sF,s5,s6,s7,s8,s9,s10,s11];rfl) (fun q=>by walk_at "";simp only[sr];rfl)]
 walk_at ""
 obtain⟨n',c',x',p6,p8,p7,p9,p10,p11,e3,hn',v6,v8,v7,v9,v10,v11⟩:=zbz ns fr rows f tb n n2 i c2 x2 (1+q) o6 o7 o8 o9 o10 o11 hw hn2 hr hl1 hl2 (by lia) ht2 (by lia) (by lia) (by lia) (by lia) u9 u10 u11 b2 (by lia) (by lia)
 rw[e3]
 refine⟨n',_,_,_,p6,p7,p8,p9,p10,p11,rfl,by lia,UpO.of fun j hj=> ?_,UpO.of fun j hj=> ?_,UpO.of fun j hj=> ?_,v6,v8,v7,v9,v10,v11⟩
 ·simp only[labs,labsL,List.append_nil,List.mem_cons,List.not_mem_nil,or_false] at hj;lia
 ·simp only[labs] at hj;cases hj
 ·simp only[labs,z0N,List.mem_cons,List.not_mem_nil,or_false] at hj;lia
theorem zbB(ns:List Int)(n:Nat)(r:List (Option D)): ∃(n':Nat) (fr:List Row3),(∀e∈fr,Rw e)/\fr.length<=40/\z0s (z0B [(mC (.int 40))]) (.nm 0) (rt true) (mCB [(mCB [(mBin (mVar 0) (mC (.int 26)) modD),(mBin (mVar 0) (mC (.int 26)) z25)] tupD),(mCB [] tupD),(mCB [] tupD)] tupD) 1 [] ⟨r,[some (.ro (ns.map .int))],n⟩= .ok (.lst n' (fr.map rD)) ⟨r,[some (.ro (ns.map .int))],n'+1⟩:=by
 obtain⟨n',h1,h2⟩:=z6D (ms:=[mC (.int 40)]) (mt:=rt true) (me:=mCB [(mCB [(mBin (mVar 0) (mC (.int 26)) modD),(mBin (mVar 0) (mC (.int 26)) z25)] tupD),(mCB [] tupD),(mCB [] tupD)] tupD) (p:=fun _=>true) (g:=fun d=>rD (([ofI d %26,ofI d/26],[],[]):Row3)) (N:=40) (ix:=[]) (s:=⟨r,[some (.ro (ns.map .int))],n⟩) (σ:=r) (tm:=[some (.ro (ns.map .int))]) (n:=n) (by walk_at "";rfl) (by rw[zl];decide) (fun d hd tm n=>⟨n,Nat.le_refl _,rfl⟩) (by
  intro d hd _ tm n
  obtain⟨j,hj,rfl⟩:=List.mem_map.mp hd
  refine⟨n,Nat.le_refl _, ?_⟩
  walk_at ""
  rw[z2o (by decide)]
  walk_at ""
  rw[z5V ⟨by decide,by decide⟩]
  walk_at ""
  rfl)
 refine⟨n',(z3X 0 40).map fun d=>(([ofI d %26,ofI d/26],[],[]):Row3),fun e he=> ?_,by simp[z3X], ?_⟩
 ·obtain⟨d,hd,rfl⟩:=List.mem_map.mp he
  obtain⟨j,hj,rfl⟩:=List.mem_map.mp hd
  have hj:=List.mem_range.mp hj
  exact⟨by simp,by simp,by simp,by simp only[In,ofI,List.mem_cons,List.not_mem_nil,or_false];rintro i (rfl|rfl)<;>lia,by simp[In],by simp[In]⟩
 ·rw[h2,List.filter_eq_self.mpr (fun _ _=>rfl),List.map_map];rfl
theorem zdZ(ns:List Int)(hl:ns.length<1000)(n:Nat): ∃n',f_law [.ro (ns.map .int)] n= .ok (.bool true) [.ro (ns.map .int)] n':=by
 unfold f_law
 have e0:zb2=seqS (sAsg (.nm 1) (z0s (z0B [(mC (.int 40))]) (.nm 0) (rt true) (mCB [(mCB [(mBin (mVar 0) (mC (.int 26)) modD),(mBin (mVar 0) (mC (.int 26)) z25)] tupD),(mCB [] tupD),(mCB [] tupD)] tupD) 1 [])) (seqS (sFor (z0B [(mCB [(mC (.int 1)),(mCB [(mC (.int 4)),(mCB [(mVar 0)] lenD)] minD)] maxD)]) (.nm 2) turnM) (sRet (mC (.bool true)))):=rfl
 rw[e0]
 walk_at ""
 obtain⟨f,fr,h1,h2,e1⟩:=zbB ns n [some (.ro (ns.map .int)),none,none,none,none,none,none,none,none,none,none,none]
 rw[e1]
 walk_at ""
 have w0:((ns.map D.int).length:Int)=ns.length:=by simp
 rw[w0]
 generalize hk:(if(if(ns.length:Int)<4 then(ns.length:Int) else 4)>1 then(if(ns.length:Int)<4 then(ns.length:Int) else 4) else(1:Int))=k
 have hk0:0<=k/\k<=4:=by split at hk<;>(try split at hk)<;>lia
 rw[z2x ⟨by lia,by lia⟩]
 walk_at ""
 obtain⟨s',e2,o2,o3,o4,o5,o6,o7,o8,o9,o10,o11,m,rfl,hm,u3,u4,u5,u6,u8,u7,u9,u10,u11⟩:=z2p (P:=fun i s=> ∃(o2 o3 o4 o5 o6 o7 o8 o9 o10 o11:Option D) (m:Nat),s=⟨[some (.ro (ns.map .int)),some (.lst f (fr.map rD)),o2,o3,o4,o5,o6,o7,o8,o9,o10,o11],[some (.ro (ns.map .int))],m⟩/\f<m/\UpO m o3/\UpO m o4/\UpO m o5/\UpO m o6/\UpO m o8/\Lf o7/\Lf o9/\Lf o10/\Lf o11) (lo:=0) (N:=k.toNat) (g:= .nm 2) (b:=turnM) (by
  rintro i hi s ⟨o2,o3,o4,o5,o6,o7,o8,o9,o10,o11,m,rfl,hm,u3,u4,u5,u6,u8,u7,u9,u10,u11⟩
  refine⟨[some (.ro (ns.map .int)),some (.lst f (fr.map rD)),some (.int i),o3,o4,o5,o6,o7,o8,o9,o10,o11],by simp only[Int.zero_add];rfl, ?_⟩
  obtain⟨n',p3,p4,p5,p6,p7,p8,p9,p10,p11,e,hn,v⟩:=zbA ns hl i (by lia) f m fr h1 h2 hm o3 o4 o5 o6 o7 o8 o9 o10 o11 u3 u4 u5 u6 u8 u7 u9 u10 u11
  exact⟨_,e,_,p3,p4,p5,p6,p7,p8,p9,p10,p11,n',rfl,by lia,v⟩) k.toNat 0 ⟨[some (.ro (ns.map .int)),some (.lst f (fr.map rD)),none,none,none,none,none,none,none,none,none,none],[some (.ro (ns.map .int))],f+1⟩ (by lia) ⟨none,none,none,none,none,none,none,none,none,none,f+1,rfl,by lia,fun _ h=>(by cases h),fun _ h=>(by cases h),fun _ h=>(by cases h),fun _ h=>(by cases h),fun _ h=>(by cases h),lf_n,lf_n,lf_n,lf_n⟩
 rw[e2]
 walk_at ""
 exact⟨m,rfl⟩
end My
set_option maxHeartbeats 4000000
namespace Mi
open PySem L2 PySem.Spec PyProof.Rows
noncomputable def z8B(K:W.Frag)(np:Nat)(f:FM):Sp:=fun vs H Q E=>vs.length=np/\∀G:Gx,G.K=K->KD K H->spM G np f vs H Q E
theorem ze0{P:Program}{w:World}{K:W.Frag}{mg:Str->Option Value}{base:Heap}{CX:CXT}{k:Nat}{fa:Addr}{fd:FuncData}{x:Str}{f:FM}{G:Gx}(hG:G.K=K)(F:FnOk P w K mg base CX k fa fd [x] (spM G 1 f)):FnOk P w K mg base CX k fa fd [x] (z8B K 1 f):=
 ⟨fun _ _ _ _ h=>h.1,fun A outer s H args us vs Q E hr e0 hb hv h=>F.run A outer s H args us vs Q E hr e0 hb hv (h.2 G hG fun a o e=>(e0.bs a o (e0.mod.kin a o e)).2)⟩
theorem RDs.ints{G:Gx}{ρ:Nat->Addr}{H:Hp}: ∀ns:List Int,RDs G ρ H (ns.map D.int) (ns.map V.int)
 |[]=>by simp only[List.map_nil,RDs]
 |n::ns=>by
  simp only[List.map_cons,RDs]
  exact⟨_,_,rfl,by simp only[RD],RDs.ints ns⟩
theorem z53: ∀ns:List Int,labsL (ns.map D.int)=[]
 |[]=>by simp only[List.map_nil,labsL]
 |n::ns=>by simp only[List.map_cons,labsL,labs,z53 ns,List.nil_append]
theorem ze1{K:W.Frag}{H:Hp}{a:Addr}{ns:List Int}{f:FM}{E:XK}(e: ∀n,∃n',f [.ro (ns.map D.int)] n= .ok (.bool true) [.ro (ns.map D.int)] n')(hO:Only H)(hS:SqL K H a (ns.map V.int)):z8B K 1 f [.ref a] H (fun v _=>v= .bl true) E:=by
 refine⟨rfl,fun G hG kd=> ?_⟩
 subst hG
 refine⟨rfl,fun _=>a,0,[.ro (ns.map D.int)], ?_,fun i j hi=>absurd hi (Nat.not_lt_zero _),fun l hl=>absurd hl (Nat.not_lt_zero _),fun l hl=> ?_,kd, ?_⟩
 ·simp only[RDs,RD]
  refine⟨_,_,rfl,⟨a,ns.map V.int,rfl, ?_,RDs.ints ns⟩,rfl⟩
  rcases hS with(h|h)|h
  ·rcases hO a with z|⟨o,xs,z⟩<;>rw[h] at z<;>cases z
  ·exact .inl h
  ·exact .inr h
 ·simp only[labsL,labs,z53,List.append_nil] at hl
  cases hl
 ·obtain⟨n',e⟩:=e 0
  rw[e]
  intro ρ' v H' _ rd _
  simp only[RD] at rd
  exact rd
end Mi
namespace My
open PySem L2 Mi
structure DA(K:W.Frag)(x:Str)(st:Stmt)(f:Addr)(d:FuncData):Prop where
 a:W.nsIn K mainGlobals x=some (some (.ref f))
 F:Fun K x x st f d
theorem zfu{K:W.Frag}{x:Str}{st:Stmt}{f:Addr}{oc:Value}{od an:Option Addr}{sl:Array (Option Value)}{kV dc pm cd ct:Value}(a:W.nsIn K mainGlobals x=some (some (.ref f)))
 (l:K.lookup f=some ⟨oc,od, .func (W.fnOf x x (z1Y st) (z15 st) (z03 st) .none kV dc pm an cd ct),sl⟩) (c:W.codeIn K cd x=true) (k:W.keepIn K (.ref f)=true):
 DA K x st f (W.fnOf x x (z1Y st) (z15 st) (z03 st) .none kV dc pm an cd ct):=⟨a,zcd l c k⟩
noncomputable def dx{K:W.Frag}{h:Heap}{mg:Str->Option Value}{x:Str}{st:Stmt}{f:Addr}{d:FuncData}{ps:List Str}(X:K.In h)(G:h.Ns mainGlobals mg)(a:DA K x st f d)
 (b: ∀(kV dc pm:Value) (an:Option Addr) (cd ct:Value) (us:List Value),us.length=ps.length->bindArgs (W.fnOf x x (z1Y st) (z15 st) (z03 st) .none kV dc pm an cd ct) ⟨us,[]⟩=pure (ps.zip us)):Dx K mg x st ps:=
 ⟨f,d,a.F,a.F.binds b,W.mg_of X G a.a⟩
theorem ze2{l:W.OpenLaw}{w:World}{K:W.Frag}{h:Heap}{mg:Str->Option Value}{fa f0 f1 f2 f3 f4 f5 f6 f7 f8 f9 f10 f11 f12 f13:Addr}{d0 d1 d2 d3 d4 d5 d6 d7 d8 d9 d10 d11 d12 d13:FuncData}(X:K.In h)(G:h.Ns mainGlobals mg)(hfa:mg "law" =some (.ref fa))
 (a0:DA K "is_number" z1q f0 d0)
 (a1:DA K "is_whole" z1H f1 d1)
 (a2:DA K "is_row" z2j f2 d2)
 (a3:DA K "is_table" z1I f3 d3)
 (a4:DA K "is_table_row" z0O f4 d4)
 (a5:DA K "_law_bag" z5n f5 d5)
 (a6:DA K "_law_take" z44 f6 d6)
 (a7:DA K "_law_table" z31 f7 d7)
 (a8:DA K "_law_whole" z32 f8 d8)
 (a9:DA K "_law_are_numbers" z17 f9 d9)
 (a10:DA K "_law_is_table" z1J f10 d10)
 (a11:DA K "_law_odd" z5o f11 d11)
 (a12:DA K "_law_spoilt" z2k f12 d12)
 (a13:DA K "law" zaY f13 d13)
 (z0:W.nsIn K mainGlobals "abs" =some none)
 (z1:W.nsIn K mainGlobals "all" =some none)
 (z2:W.nsIn K mainGlobals "bool" =some none)
 {tk3:Nat} (z3:W.nsIn K mainGlobals "LAST_KEY" =some (some (.int 25 tk3)))
 {tk4:Nat} (z4:W.nsIn K mainGlobals "LAST_SOUND" =some (some (.int 39 tk4)))
 {tk5:Nat} (z5:W.nsIn K mainGlobals "MOST_ROWS" =some (some (.int 40 tk5)))
 (z6:W.nsIn K mainGlobals "int" =some none)
 (z7:W.nsIn K mainGlobals "isinstance" =some none)
 (z8:W.nsIn K mainGlobals "len" =some none)
 (z9:W.nsIn K mainGlobals "list" =some none)
 (z10:W.nsIn K mainGlobals "max" =some none)
 (z11:W.nsIn K mainGlobals "min" =some none)
 (z12:W.nsIn K mainGlobals "range" =some none)
 (z13:W.nsIn K mainGlobals "repr" =some none)
 (z14:W.nsIn K mainGlobals "tuple" =some none)
 : ∃fd:FuncData,(∀(s:Shared) (v:Value),BindsTo s fd ⟨[v],[]⟩ [("_law_script",v)])/\∀base:Heap,K.In base->base.Ns mainGlobals mg->FnOk l.prog w K mg base CX0 16 fa fd ["_law_script"] (z8B K 1 f_law):=by
 have e:=hfa.symm.trans (W.mg_of X G a13.a)
 cases e
 obtain⟨oc,od,kV,doc,pm,an,cdv,ct,osl,rfl,lk,hcd⟩:=a13.F.ex
 exact⟨_,fun s v=> .of_eq rfl,fun base _ _=>ze0 rfl (zd2 ⟨dx X G a0 fun _ _ _ _ _ _ us hl=>match us,hl with|[_],_=>rfl,dx X G a1 fun _ _ _ _ _ _ us hl=>match us,hl with|[_,_,_],_=>rfl,dx X G a2 fun _ _ _ _ _ _ us hl=>match us,hl with|[_,_,_,_],_=>rfl,dx X G a3 fun _ _ _ _ _ _ us hl=>match us,hl with|[_],_=>rfl,dx X G a4 fun _ _ _ _ _ _ us hl=>match us,hl with|[_],_=>rfl,dx X G a5 fun _ _ _ _ _ _ us hl=>match us,hl with|[_,_],_=>rfl,dx X G a6 fun _ _ _ _ _ _ us hl=>match us,hl with|[_,_],_=>rfl,dx X G a7 fun _ _ _ _ _ _ us hl=>match us,hl with|[_],_=>rfl,dx X G a8 fun _ _ _ _ _ _ us hl=>match us,hl with|[_],_=>rfl,dx X G a9 fun _ _ _ _ _ _ us hl=>match us,hl with|[_,_,_,_],_=>rfl,dx X G a10 fun _ _ _ _ _ _ us hl=>match us,hl with|[_],_=>rfl,dx X G a11 fun _ _ _ _ _ _ us hl=>match us,hl with|[_,_],_=>rfl,dx X G a12 fun _ _ _ _ _ _ us hl=>match us,hl with|[_,_],_=>rfl,dx X G a13 fun _ _ _ _ _ _ us hl=>match us,hl with|[_],_=>rfl,W.mg_none_of X G z0,W.mg_none_of X G z1,W.mg_none_of X G z2,⟨_,W.mg_of X G z3⟩,⟨_,W.mg_of X G z4⟩,⟨_,W.mg_of X G z5⟩,W.mg_none_of X G z6,W.mg_none_of X G z7,W.mg_none_of X G z8,W.mg_none_of X G z9,W.mg_none_of X G z10,W.mg_none_of X G z11,W.mg_none_of X G z12,W.mg_none_of X G z13,W.mg_none_of X G z14⟩)⟩
theorem walk{l:W.OpenLaw}{q:Program}{loose:List Str}{XP:(Str->Option Value)->Heap->Prop}{YP:World->Heap->Prop}{d:DefRec}{K:Params->W.Frag}(hn:l.most=some 63)(hdf:d.params.defaults=[])
 (hY: ∀(w:World) (h:Heap),YP w h->(K w.params).In h)
 (F: ∀(w:World) (mg:Str->Option Value) (fa:Addr) (h:Heap),(K w.params).In h->h.Ns mainGlobals mg->mg d.name=some (.ref fa)->
  ∃fd:FuncData,(∀(s:Shared) (u:Value),BindsTo s fd ⟨[u],[]⟩ [("_law_script",u)])/\∀base:Heap,(K w.params).In base->base.Ns mainGlobals mg->FnOk l.prog w (K w.params) mg base CX0 16 fa fd ["_law_script"] (z8B (K w.params) 1 f_law)):
 W.WalkO q loose XP YP l.row.toRowW d [] (fun f vs=>PySem.call f vs):=
 L2.zam (n:=63) (k:=16) (x:= "_law_script") (CX:=fun _=>CX0) (sp:=fun w=>z8B (K w.params) 1 f_law) hn (by decide) hdf ⟨rfl,by decide,by decide,rfl⟩ hY F (fun _ _ a ns hl hO hS=>ze1 (fun n=>zdZ ns (by lia) n) hO hS) fun _ _ _ _ _ h=>h.elim
end My
inductive PySem.W.Fast:Prop|tw12082125536923951254|tw8445953282170359851|tw14318835828396082996|tw2615344205991170213|tw17159325220020199006|tw8694215205190657757|tw12449860055266255544|tw11263572945665621959|tw5396023243046312740|tw6098043205775681393|tw8062872665640053575|tw18301615628325303782|tw11409153439929180242|tw5585903135171786542|tw16517940827068172895|tw8776967529028144419|tw15923023646997056670|tw17560612783197712405|tw933186465250707771|tw14316420608957096921|tw18282090942291488632|tw1247478713164570697|tw14984116244047302840|tw7462882058875222479|tw16089772238900325127|tw12961806790077375349|tw17151366384247365815|tw5341572959130254674|tw9516503872954279167|tw11059439310292745536|tw9179490947783593895|tw14539063929952095154|tw18237268846692903994
open PySem PySem.W PyProof.Rows
set_option maxRecDepth 100000 in
set_option maxHeartbeats 0 in
theorem PySem.Challenge.cw_signbench_k01_tables_of_keys_holds : PySem.Challenge.rw_signbench_k01_tables_of_keys.Holds := by
 w_on;o_law;k_head;(case hw=>w_witness2)
 k_fill
 refine My.walk (l:=PySem.Challenge.rw_signbench_k01_tables_of_keys) rfl rfl (fun w h Y=>PySem.W.kIn_of Y) ?F
 case F=>
  intro w mg fa h KX G hmg
  apply My.ze2 KX G hmg<;>first|(apply My.zfu<;>k_is)|k_is|kernel_rfl|rfl|decide
